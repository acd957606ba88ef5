import PyProof.Rows.All
import Wide.All
import OpenK.AllK
import Wide.FinOn
import PyProof.EqAt
import PyProof.EqKinds
import PyProof.TupleCall
import PyProof.DictWalks
import PySem.Challenge.RW_stairsay_k05_whole_things_in_order
set_option Elab.async false
set_option linter.all false
set_option maxRecDepth 100000
set_option maxHeartbeats 4000000
namespace L2
open PySem PySem.Spec PyProof.Rows
abbrev Key:=Sum Int Str
def keyIs:Key->Value->Bool
 | .inl k,v=>Value.isInt k v
 | .inr x,v=>Value.isStrOf x v
def keyH (w:World):Key->Int
 | .inl k=>hashInt k
 | .inr x=>hashStr w x
theorem BF:∀ {k:Key} {v:Value},keyIs k v=true->(∃ i t,k=Sum.inl i/\v=Value.int i t)∨(∃ x t,k=Sum.inr x/\v=Value.str x t)
 | .inl i,v,h=>by
  obtain ⟨t,e⟩:=Value.isInt_shape (k:=i) (v:=v) h
  exact .inl ⟨i,t,rfl,e⟩
 | .inr x,v,h=>by
  obtain ⟨t,e⟩:=Value.isStrOf_shape (x:=x) (v:=v) h
  exact .inr ⟨x,t,rfl,e⟩
theorem keyIs_int (i:Int) (t:Tok):keyIs (.inl i) (.int i t)=true:=by simp [keyIs,Value.isInt]
theorem keyIs_str (x:Str) (t:Tok):keyIs (.inr x) (.str x t)=true:=by simp [keyIs,Value.isStrOf]
theorem key_ll (a b:Int):decide ((Sum.inl a:Key)=Sum.inl b)=(a == b):=by
 by_cases e:a=b
 ·subst e;simp
 ·have h:¬ (Sum.inl a:Key)=Sum.inl b:=fun q=>e (Sum.inl.inj q)
  rw [decide_eq_false h]
  exact (beq_eq_false_iff_ne.mpr e).symm
theorem key_rr (a b:Str):decide ((Sum.inr a:Key)=Sum.inr b)=decide (a=b):=by
 by_cases e:a=b
 ·subst e;simp
 ·have h:¬ (Sum.inr a:Key)=Sum.inr b:=fun q=>e (Sum.inr.inj q)
  rw [decide_eq_false h,decide_eq_false e]
theorem key_lr (a:Int) (b:Str):decide ((Sum.inl a:Key)=Sum.inr b)=false:=decide_eq_false (fun q=>nomatch q)
theorem key_rl (a:Str) (b:Int):decide ((Sum.inr a:Key)=Sum.inl b)=false:=decide_eq_false (fun q=>nomatch q)
def Ct (prog:Program) (w:World):PySem.KeyKind prog w Key where
 is:=keyIs
 hash:=keyH w
 inj:=fun v a b ha hb=>by
  rcases BF ha with ⟨i,t,rfl,rfl⟩ | ⟨x,t,rfl,rfl⟩
  ·rcases BF hb with ⟨j,u,rfl,e⟩ | ⟨y,u,rfl,e⟩
   ·injection e with e1 _;rw [e1]
   ·exact nomatch e
  ·rcases BF hb with ⟨j,u,rfl,e⟩ | ⟨y,u,rfl,e⟩
   ·exact nomatch e
   ·injection e with e1 _;rw [e1]
 byValue:=fun k v h=>by
  rcases BF h with ⟨i,t,rfl,rfl⟩ | ⟨x,t,rfl,rfl⟩ <;> rfl
 pyHash:=fun hv h=>by
  rcases BF hv with ⟨i,t,rfl,rfl⟩ | ⟨x,t,rfl,rfl⟩
  ·exact wpAny_pyHash_int h
  ·exact wpAny_pyHash_str h
 eqBool:=fun hu hv h=>by
  rcases BF hu with ⟨i,t,rfl,rfl⟩ | ⟨x,t,rfl,rfl⟩
  ·rcases BF hv with ⟨j,u,rfl,rfl⟩ | ⟨y,u,rfl,rfl⟩
   ·rw [key_ll] at h;exact wpAny_eqBool_int h
   ·rw [key_lr] at h;exact SeqAt.EqAt.int_str i t y u _ _ _ _ h
  ·rcases BF hv with ⟨j,u,rfl,rfl⟩ | ⟨y,u,rfl,rfl⟩
   ·rw [key_rl] at h;exact SeqAt.EqAt.str_int x t j u _ _ _ _ h
   ·rw [key_rr] at h;exact wpAny_eqBool_str h
 «strs»:=fun k x t v h=>by
  rcases BF h with ⟨i,u,rfl,e⟩ | ⟨y,u,rfl,e⟩
  ·exact nomatch e
  ·injection e with e1 _
   subst e1
   cases v <;> rfl
theorem mixKind_int (prog:Program) (w:World) (i:Int) (t:Tok):(Ct prog w).is (.inl i) (.int i t)=true:=keyIs_int i t
theorem mixKind_str (prog:Program) (w:World) (x:Str) (t:Tok):(Ct prog w).is (.inr x) (.str x t)=true:=keyIs_str x t
end L2
namespace L2
open PySem PySem.Spec PyProof.Rows
inductive V where
 | non | bl (b:Bool) | int (i:Int) | str (x:Str) | byt (b:Array UInt8) | flt (b:UInt64) | ref (a:Addr) | ty (n:String)
 deriving DecidableEq
def RelV:V->Value->Prop
 | .non,u=>u=Value.none
 | .bl b,u=>u=Value.bool b
 | .int i,u=>∃ t,u=Value.int i t
 | .str x,u=>∃ t,u=Value.str x t
 | .byt b,u=>∃ t,u=Value.bytes b t
 | .flt b,u=>∃ t,u=Value.float b t
 | .ref a,u=>u=Value.ref a
 | .ty n,u=>u=Value.type n
abbrev Vals:List V->List Value->Prop:=Paired RelV
theorem Vals.length {xs:List V} {us:List Value} (r:Vals xs us):xs.length=us.length:=Paired.length r
theorem Vals.get:∀ {xs:List V} {us:List Value} {i:Nat} {x:V},Vals xs us->xs[i]?=some x->∃ u,us[i]?=some u/\RelV x u
 | _,_,_,_,.nil,e=>by simp at e
 | _,_,0,_,.cons r _,e=>by simp at e;subst e;exact ⟨_,rfl,r⟩
 | _,_,i+1,x,.cons _ t,e=>by
  obtain ⟨u,h1,h2⟩:=Vals.get (i:=i) (x:=x) t (by simpa using e)
  exact ⟨u,by simpa using h1,h2⟩
theorem Vals.set {x:V} {u:Value} (r:RelV x u):∀ {xs:List V} {us:List Value} (i:Nat),Vals xs us->Vals (xs.set i x) (us.set i u)
 | _,_,_,.nil=>.nil
 | _,_,0,.cons _ t=>.cons r t
 | _,_,i+1,.cons q t=>.cons q (Vals.set r i t)
theorem Vals.append:∀ {xs ys:List V} {us ws:List Value},Vals xs us->Vals ys ws->Vals (xs++ys) (us++ws)
 | _,_,_,_,.nil,s=>s
 | _,_,_,_,.cons r t,s=>.cons r (Vals.append t s)
theorem Vals.take:∀ {xs:List V} {us:List Value} (n:Nat),Vals xs us->Vals (xs.take n) (us.take n)
 | _,_,0,_=>.nil
 | _,_,_+1,.nil=>.nil
 | _,_,n+1,.cons r t=>.cons r (Vals.take n t)
theorem Vals.drop:∀ {xs:List V} {us:List Value} (n:Nat),Vals xs us->Vals (xs.drop n) (us.drop n)
 | _,_,0,r=>r
 | _,_,_+1,.nil=>.nil
 | _,_,n+1,.cons _ t=>Vals.drop n t
def Bf:Option V->Option Value->Prop
 | some v,some u=>RelV v u
 | none,none=>True
 | _,_=>False
def KV {κ:Type}:List (κ×V)->List (κ×Value)->Prop:=Paired fun (p:κ×V) (q:κ×Value)=>p.1=q.1/\RelV p.2 q.2
def kV:Key->V
 | .inl i=>.int i
 | .inr x=>.str x
inductive HO where
 | lst (xs:List V)
 | tup (xs:List V)
 | dK (kvs:List (Key×V)) | dT (kvs:List (List Key×V))
 | set (S:Int->Bool) (n:Nat)
 | ins (C dx:Addr) (fs:List (Str×V))
 | own (x:Addr)
 | xd (fs:List (Str×V))
 | met (f x:Addr)
 | rng (lo hi:Int)
 | frz (o:Obj) (u:HO)
 | tbl (ps:Array Value)
 | ext (φ:Heap->Prop)
abbrev Hp:=Addr->Option HO
def upd (H:Hp) (a:Addr) (o:HO):Hp:=fun b=>if b=a then some o else H b
theorem AV {H:Hp} {a:Addr} {o:HO}:upd H a o a=some o:=by unfold upd;rw [if_pos rfl]
theorem AG {H:Hp} {a b:Addr} {o:HO} (h:b≠a):upd H a o b=H b:=by unfold upd;rw [if_neg h]
theorem ne_of {H:Hp} {a b:Addr} {o u:HO} (h:H a=some o) (h':H b=some u) (d:o≠u):a≠b:=by
 intro e;subst e;rw [h] at h';exact d (Option.some.inj h')
theorem Cc {H:Hp} {a b:Addr} {o:HO} (h:H a=some o) (h':H b=none):a≠b:=by
 intro e;subst e;rw [h] at h';cases h'
section
variable (P:Program) (w:World)
def CU (H:Hp) (h:Heap) (a:Addr):HO->Prop
 | .lst xs=>xs.length<=sizeLine/\∃ (its:List Value) (n:Nat),Vals xs its/\h.get? a=some { cls:=.type "list",data:=.seq its.toArray n }
 | .tup xs=>xs.length<=sizeLine/\∃ its:List Value,Vals xs its/\IsTup h a its.toArray
 | .dK kvs=>kvs.length<=sizeLine/\(a == sysModules)=false/\∃ vs,KV kvs vs/\h.DictOf (Ct P w) a vs
 | .dT kvs=>kvs.length<=sizeLine/\(a == sysModules)=false/\∃ xs:List (List Key×Addr×Value),
   Paired (fun (p:List Key×V) (q:List Key×Addr×Value)=>p.1=q.1/\H q.2.1=some (.tup (p.1.map kV))/\RelV p.2 q.2.2) kvs xs /\
   ∃ o es ep,h.get? a=some o/\o.ExactDict/\o.data=.dict es ep/\es.toList=xs.map (entryOfKey (tupleKind (Ct P w)))/\(xs.map (·.1)).Nodup
 | .set S n=>h.SetOf (intKind P w) a S n
 | .ins C dx fs=>H dx=some (.own a)/\fs.length<=1000/\dx≠a/\h.get? a=some (PySem.W.instObj C dx) /\
   ∃ mA,h.Ns1 dx mA/\(∀ f,Bf (fs.lookup f) (mA f))/\PySem.Within mA (fs.map (·.1))
 | .own _=>∃ o,h.get? a=some o
 | .xd fs=>∃ mA,h.Ns1 a mA/\∀ f,Bf (fs.lookup f) (mA f)
 | .rng lo hi=>∃ t u v,h.get? a=some { cls:=.type "range",data:=.fields #[.int lo t,.int hi u,.int 1 v] }
 | .frz o u=>h.get? a=some o/\CU H h a u
 | .tbl ps=>h.get? a=some { cls:=.none,data:=.fields ps }
 | .met f x=>h.get? a=some (PySem.W.methodObj (.ref f) (.ref x))
 | .ext φ=>φ h/\(∃ o,h.get? a=some o)/\∀ h1 h2:Heap,φ h1->(∀ o,h1.get? a=some o->h2.get? a=some o)->φ h2
def HOk (H:Hp) (h:Heap):Prop:=∀ a o,H a=some o->CU P w H h a o
end
section
variable {P:Program} {w:World} {H H':Hp} {h h':Heap} {a:Addr} {o:HO}
theorem CU.lt (x:CU P w H h a o):a < h.objs.size:=by
 cases o with
 | lst xs=>obtain ⟨_,_,_,_,e⟩:=x;exact Heap.lt_size e
 | tup xs=>obtain ⟨_,_,_,p⟩:=x;exact p.lt
 | dK kvs=>obtain ⟨_,_,_,_,o,_,_,e,_⟩:=x;exact Heap.lt_size e
 | dT kvs=>obtain ⟨_,_,_,_,o,_,_,e,_⟩:=x;exact Heap.lt_size e
 | set S n=>obtain ⟨o,_,_,_,e,_⟩:=x;exact Heap.lt_size e
 | ins C dx fs=>obtain ⟨_,_,_,e,_⟩:=x;exact Heap.lt_size e
 | own y=>obtain ⟨_,e⟩:=x;exact Heap.lt_size e
 | xd fs=>obtain ⟨_,⟨_,_,_,e,_⟩,_⟩:=x;exact Heap.lt_size e
 | rng lo hi=>obtain ⟨_,_,_,e⟩:=x;exact Heap.lt_size e
 | frz ob u=>obtain ⟨e,_⟩:=x;exact Heap.lt_size e
 | tbl ps=>exact Heap.lt_size (show h.get? a=some _ from x)
 | met f y=>exact Heap.lt_size (show h.get? a=some _ from x)
 | ext φ=>obtain ⟨_,⟨_,e⟩,_⟩:=x;exact Heap.lt_size e
theorem Paired.mapP {α β:Type} {F G:α->β->Prop}:∀ {l₁:List α} {l₂:List β},Paired F l₁ l₂->(∀ a b,F a b->G a b)->Paired G l₁ l₂
 | _,_,.nil,_=>.nil
 | _,_,.cons r t,f=>.cons (f _ _ r) (Paired.mapP t f)
theorem CU.stay (x:CU P w H h a o) (k:∀ b u,(b=a∨H b=some (.own a))->h.get? b=some u->h'.get? b=some u)
  (ho:∀ b,H b=some (.own a)->H' b=some (.own a)) (ht:∀ b xs,H b=some (.tup xs)->H' b=some (.tup xs)):CU P w H' h' a o:=by
 induction o with
 | lst xs=>obtain ⟨z,its,n,r,e⟩:=x;exact ⟨z,its,n,r,k _ _ (.inl rfl) e⟩
 | tup xs=>obtain ⟨z,its,r,ob,e,c⟩:=x;exact ⟨z,its,r,ob,k _ _ (.inl rfl) e,c⟩
 | dK kvs=>obtain ⟨z,y,vs,r,ob,es,ep,e,c⟩:=x;exact ⟨z,y,vs,r,ob,es,ep,k _ _ (.inl rfl) e,c⟩
 | dT kvs =>
  obtain ⟨z,y,xs,r,ob,es,ep,e,c⟩:=x
  exact ⟨z,y,xs,Paired.mapP r fun p q z=>⟨z.1,ht _ _ z.2.1,z.2.2⟩,ob,es,ep,k _ _ (.inl rfl) e,c⟩
 | set S n=>obtain ⟨ob,es,ep,t,e,c⟩:=x;exact ⟨ob,es,ep,t,k _ _ (.inl rfl) e,c⟩
 | ins C dx fs =>
  obtain ⟨d,z,ne,e,mA,⟨od,es,ep,e2,c⟩,r⟩:=x
  exact ⟨ho _ d,z,ne,k _ _ (.inl rfl) e,mA,⟨od,es,ep,k _ _ (.inr d) e2,c⟩,r⟩
 | own y=>obtain ⟨ob,e⟩:=x;exact ⟨ob,k _ _ (.inl rfl) e⟩
 | xd fs=>obtain ⟨mA,⟨od,es,ep,e,c⟩,r⟩:=x;exact ⟨mA,⟨od,es,ep,k _ _ (.inl rfl) e,c⟩,r⟩
 | rng lo hi=>obtain ⟨t,u,v,e⟩:=x;exact ⟨t,u,v,k _ _ (.inl rfl) e⟩
 | frz ob u ih=>obtain ⟨e,q⟩:=x;exact ⟨k _ _ (.inl rfl) e,ih q⟩
 | tbl ps =>
  have e:h.get? a=some { cls:=.none,data:=.fields ps }:=x
  show h'.get? a=some { cls:=.none,data:=.fields ps }
  exact k a _ (.inl rfl) e
 | met f y =>
  have e:h.get? a=some (PySem.W.methodObj (.ref f) (.ref y)):=x
  show h'.get? a=some (PySem.W.methodObj (.ref f) (.ref y))
  exact k a _ (.inl rfl) e
 | ext φ=>obtain ⟨p,⟨o,e⟩,st⟩:=x;exact ⟨st _ _ p fun o q=>k _ _ (.inl rfl) q,⟨o,k _ _ (.inl rfl) e⟩,st⟩
theorem HOk.lt (x:HOk P w H h) (e:H a=some o):a < h.objs.size:=(x a o e).lt
theorem HOk.fresh (x:HOk P w H h) (e:h.objs.size<=a):H a=none:=by
 cases q:H a with
 | none=>rfl
 | some u=>exact absurd (Nat.lt_of_lt_of_le (x.lt q) e) (Nat.lt_irrefl _)
theorem HOk.kept (x:HOk P w H h) (k:∀ b u,h.get? b=some u->h'.get? b=some u):HOk P w H h':=fun a o e =>
 (x a o e).stay (fun b u _ q=>k b u q) (fun _ q=>q) fun _ _ q=>q
theorem HOk.laid (x:HOk P w H h) (k:∀ b u,h.get? b=some u->h'.get? b=some u) (hp:h.objs.size<=a) (new:CU P w (upd H a o) h' a o):HOk P w (upd H a o) h':=fun b u e=>by
 have hn:=x.fresh hp
 by_cases hb:b=a
 ·subst hb;rw [AV] at e;cases e;exact new
 ·rw [AG hb] at e
  exact (x b u e).stay (fun c v _ q=>k c v q) (fun c q=>by rw [AG (Cc q hn)];exact q) fun c xs q=>by rw [AG (Cc q hn)];exact q
end
def Rd (H:Hp) (a:Addr) (u:HO):Prop:=H a=some u∨∃ o,H a=some (.frz o u)
theorem Rd.ok {P:Program} {w:World} {H:Hp} {h:Heap} {a:Addr} {u:HO} (r:Rd H a u) (x:HOk P w H h):CU P w H h a u:=by
 rcases r with r | ⟨o,r⟩
 ·exact x a u r
 ·obtain ⟨_,q⟩:=x a _ r
  exact q
def Mut:Option HO->Prop
 | some (.lst _)=>True
 | some (.dK _)=>True
 | some (.dT _)=>True
 | some (.set _ _)=>True
 | some (.ins _ _ _)=>True
 | some (.ext _)=>True
 | _=>False
section
variable {P:Program} {w:World} {H:Hp} {h h':Heap} {x e:Addr} {o':HO}
theorem HOk.write (ok:HOk P w H h) (mu:Mut (H x)) (he:e=x∨H e=some (.own x)) (k:∀ b u,b≠e->h.get? b=some u->h'.get? b=some u) (heo:∃ u,h'.get? e=some u)
  (new:CU P w (upd H x o') h' x o'):HOk P w (upd H x o') h':=fun b u q=>by
 have nown:∀ c y,H c=some (.own y)->c≠x:=fun c y r z=>by subst z;rw [r] at mu;exact mu
 have ntup:∀ c xs,H c=some (.tup xs)->c≠x:=fun c xs r z=>by subst z;rw [r] at mu;exact mu
 by_cases hb:b=x
 ·subst hb;rw [AV] at q;cases q;exact new
 ·rw [AG hb] at q
  by_cases hbe:b=e
  ·have q':H b=some (.own x):=by
    rcases he with z | z
    ·exact absurd (hbe.trans z) hb
    ·rw [hbe];exact z
   rw [q] at q';cases q'
   obtain ⟨v,hv⟩:=heo
   exact ⟨v,by rw [hbe];exact hv⟩
  ·refine (ok b u q).stay (fun c v hc r=>k c v ?_ r) (fun c r=>by rw [AG (nown c b r)];exact r) fun c xs r=>by rw [AG (ntup c xs r)];exact r
   rcases hc with rfl | hc
   ·exact hbe
   ·rintro rfl
    rcases he with z | z
    ·exact nown c b hc z
    ·rw [hc] at z;cases z;exact hb rfl
end
structure Un (fs ex:List Addr) (H H':Hp) (h h':Heap):Prop where
 keep:∀ b o,h.get? b=some o->H b=none->b∉fs->b∉ex->h'.get? b=some o
 slot:∀ b o,h.get? b=some o->H b=none->b∈fs->b∉ex->∃ sl,h'.get? b=some { o with slots:=sl }
 free:∀ b o,h.get? b=some o->H b=none->b∉ex->H' b=none
 there:∀ b o,h.get? b=some o->b∉ex->∃ o',h'.get? b=some o'
 tups:∀ b xs,H b=some (.tup xs)->H' b=some (.tup xs)
 frzs:∀ b o u,H b=some (.frz o u)->H' b=some (.frz o u)
 tbls:∀ b ps,H b=some (.tbl ps)->∃ more,H' b=some (.tbl (ps++more))
section
variable {fs fs' ex ex':List Addr} {H H1 H2:Hp} {h h1 h2 h':Heap} {a x e:Addr} {o:HO}
theorem Un.any (u:Un fs ex H H1 h h1) {b:Addr} {ob:Obj} (q:h.get? b=some ob) (n:H b=none) (hx:b∉ex):∃ sl,h1.get? b=some { ob with slots:=sl }:=by
 by_cases hb:b∈fs
 ·exact u.slot b ob q n hb hx
 ·exact ⟨ob.slots,u.keep b ob q n hb hx⟩
theorem Un.kept (k:∀ b u,h.get? b=some u->h'.get? b=some u):Un fs ex H H h h' :=
 ⟨fun b ob q _ _ _=>k b ob q,fun b ob q _ _ _=>⟨ob.slots,k b ob q⟩,fun _ _ _ n _=>n,fun b ob q _=>⟨ob,k b ob q⟩,fun _ _ q=>q,fun _ _ _ q=>q,fun _ ps q=>⟨#[],by rw [q];simp⟩⟩
theorem Un.refl:Un fs ex H H h h:=Un.kept fun _ _ q=>q
theorem Un.laid (k:∀ b u,h.get? b=some u->h'.get? b=some u) (hp:h.objs.size<=a) (hn:H a=none):Un fs ex H (upd H a o) h h' where
 keep:=fun b u q _ _ _=>k b u q
 slot:=fun b u q _ _ _=>⟨u.slots,k b u q⟩
 free:=fun b u q n _=>by rw [AG (Nat.ne_of_lt (Nat.lt_of_lt_of_le (Heap.lt_size q) hp))];exact n
 there:=fun b u q _=>⟨u,k b u q⟩
 tups:=fun b xs q=>by rw [AG (Cc q hn)];exact q
 frzs:=fun b u xs q=>by rw [AG (Cc q hn)];exact q
 tbls:=fun b ps q=>⟨#[],by rw [AG (Cc q hn),q];simp⟩
theorem Un.write (mu:Mut (H x)) (he:e=x∨H e=some (.own x)) (k:∀ b u,b≠e->h.get? b=some u->h'.get? b=some u) (heo:∃ u,h'.get? e=some u):Un fs ex H (upd H x o) h h':=by
 have hx:∀ b,H b=none->b≠x:=fun b n z=>by subst z;rw [n] at mu;exact mu
 have hb:∀ b,H b=none->b≠e:=fun b n z=>by
  subst z
  rcases he with r | r
  ·exact hx b n r
  ·rw [n] at r;cases r
 have hm:∀ b u,H b=some u->¬ Mut (some u)->b≠x:=fun b u q nm z=>by subst z;rw [q] at mu;exact nm mu
 refine ⟨fun b u q n _ _=>k b u (hb b n) q,fun b u q n _ _=>⟨u.slots,k b u (hb b n) q⟩,fun b u q n _=>by rw [AG (hx b n)];exact n,fun b u q _=>?_,
  fun b xs q=>by rw [AG (hm b _ q fun z=>z)];exact q,fun b u xs q=>by rw [AG (hm b _ q fun z=>z)];exact q,fun b ps q=>⟨#[],by rw [AG (hm b _ q fun z=>z),q];simp⟩⟩
 by_cases hbe:b=e
 ·subst hbe;exact heo
 ·exact ⟨u,k b u hbe q⟩
end
def trk (h:Heap) (H:Hp):List Addr:=(List.range h.objs.size).filter fun a=>(H a).isSome
def hidT (h:Heap) (H:Hp):Heap:=PySem.W.hideAll h (trk h H)
theorem hidT_size (h:Heap) (H:Hp):(hidT h H).objs.size=h.objs.size:=PySem.W.hideAll_size _ _
theorem hidT_get {h:Heap} {H:Hp} {b:Addr} {o:Obj} (e:h.get? b=some o) (n:H b=none):(hidT h H).get? b=some o :=
 PySem.W.hideAll_get _ e fun hm=>by
  have q:(H b).isSome=true:=(List.mem_filter.mp hm).2
  rw [n] at q;simp at q
theorem of_hidT {h:Heap} {H:Hp} {b:Addr} {o:Obj} (e:(hidT h H).get? b=some o):h.get? b=some o/\H b=none:=by
 have e':h.get? b=some o:=PySem.W.of_hideAll (trk h H) e
 refine ⟨e',?_⟩
 cases q:H b with
 | none=>rfl
 | some x =>
  have hm:b∈trk h H:=List.mem_filter.mpr ⟨List.mem_range.mpr (Heap.lt_size e'),by simp [q]⟩
  have z:(hidT h H).get? b=none:=PySem.W.hideAll_none (trk h H) hm
  rw [z] at e;cases e
end L2
namespace L2
open PySem PySem.Spec PyProof.Rows
structure Mod (K:PySem.W.Frag) (mg:Str->Option Value) (base:Heap):Prop where
 kin:K.In base
 glob:base.Ns mainGlobals mg
 blt:∃ mb,base.Ns builtinsNs mb/\∀ x:Str,x≠"__name__"->mb x=bootBuiltins x
 nolimit:base.NoLimit
structure Cx where
 prog:Program
 w:World
 K:PySem.W.Frag
 mg:Str->Option Value
 base:Heap
 A:Around
 N:List Str
 s₀:Shared
 H₀:Hp
 env:Env
 outer:List Env
 stack:List Env
 ex:List Addr
 fn:Str->Bool
 calm:Bool
 pn:List (Addr×Obj)
 xe:Value->Shared->Prop
def frs (l:List Env):List Addr:=l.filterMap (·.frame)
abbrev Cx.fs (X:Cx):List Addr:=frs X.outer
def Vis (sc:Scope) (x:Str):Prop:=sc.names.lookup x=some .local∨sc.names.lookup x=some .cell∨sc.names.lookup x=some .free
def Loc (sc:Scope) (x:Str):Prop:=sc.names.lookup x=some .local∨sc.names.lookup x=some .cell
def Look (env:Env) (h:Heap) (m:Str->Option Value) (x:Str) (u:Value):Prop :=
 (env.kindOf x=some .local/\m x=some u)∨((env.kindOf x=some .cell∨env.kindOf x=some .free)/\∃ c,env.cells.lookup x=some c/\h.IsCell c (some u))
structure Cx.Ok (X:Cx):Prop where
 mod:Mod X.K X.mg X.base
 kind:X.env.scope.kind=.function
 glob:X.env.globals=mainGlobals
 blt:X.env.builtins=builtinsNs
 above:X.s₀.heap.objs.size<=X.env.locals
 inj:∀ x y c,X.env.cells.lookup x=some c->X.env.cells.lookup y=some c->x=y
 has:∀ x,(X.env.kindOf x=some .cell∨X.env.kindOf x=some .free)->∃ c,X.env.cells.lookup x=some c
 cab:∀ x c,X.fn x=true->X.env.cells.lookup x=some c->X.s₀.heap.objs.size<=c
 hd:X.calm=true->X.A.handled=none
 frames:X.A.frames=some X.stack
 stk:X.stack=X.outer∨(X.stack=X.env :: X.outer/\X.env.frame=some X.env.locals)
 exf:∀ b∈X.ex,b≠X.env.locals/\∀ x c,X.env.cells.lookup x=some c->c≠b
 bs:∀ b o,X.base.get? b=some o->X.s₀.heap.get? b=some o/\X.H₀ b=none
 bsz:X.base.objs.size<=X.s₀.heap.objs.size
 noex:∀ b o,X.base.get? b=some o->b∉X.ex
 exfs:∀ b∈X.ex,b∉X.fs
 funs:X.s₀.heap.FunFrames X.base X.outer
 frf:∀ b∈X.fs,X.H₀ b=none
structure Inv (X:Cx) (pins:List (Addr×Obj)) (σ:List (Option V)) (H:Hp) (s:Shared):Prop where
 ok:X.Ok
 os:s.os=X.s₀.os
 bare:AllBare s.gens
 base:Un X.fs X.ex X.H₀ H X.s₀.heap s.heap
 loc:∃ m,s.heap.Ns X.env.locals m/\∀ (i:Nat) (x:Str) (v:V),X.N[i]?=some x->σ[i]?=some (some v)->Vis X.env.scope x->∃ u,RelV v u/\Look X.env s.heap m x u
 cell:∀ x c,X.env.cells.lookup x=some c->∃ v,s.heap.IsCell c v
 free:H X.env.locals=none
 freeC:∀ x c,X.env.cells.lookup x=some c->H c=none
 pin:∀ p∈X.pn++pins,s.heap.get? p.1=some p.2/\H p.1=none/\p.1≠X.env.locals/\p.1∉X.fs/\∀ v,p.2.data≠.cell v
 hok:HOk X.prog X.w H s.heap
 len:σ.length=X.N.length
section
variable {X:Cx} {pins:List (Addr×Obj)} {σ:List (Option V)} {H H':Hp} {s:Shared} {h':Heap}
theorem Cx.Ok.nofr (ok:X.Ok) {b:Addr} {o:Obj} (e:X.base.get? b=some o):b∉X.fs:=fun hb=>by
 have:=(ok.funs.mem hb).1
 rw [e] at this;cases this
theorem Inv.bs (I:Inv X pins σ H s):∀ b o,X.base.get? b=some o->s.heap.get? b=some o/\H b=none:=fun b o e =>
 ⟨I.base.keep b o (I.ok.bs b o e).1 (I.ok.bs b o e).2 (I.ok.nofr e) (I.ok.noex b o e),I.base.free b o (I.ok.bs b o e).1 (I.ok.bs b o e).2 (I.ok.noex b o e)⟩
theorem Inv.bk (I:Inv X pins σ H s):∀ b o,X.base.get? b=some o->s.heap.get? b=some o:=fun b o e=>(I.bs b o e).1
theorem Inv.mod (I:Inv X pins σ H s):Mod X.K X.mg X.base:=I.ok.mod
theorem Inv.kIn (I:Inv X pins σ H s):X.K.In s.heap:=I.ok.mod.kin.keeps I.bk
theorem Inv.lt (I:Inv X pins σ H s):X.env.locals < s.heap.objs.size:=let ⟨_,hn,_⟩:=I.loc;hn.lt
theorem Inv.sz (I:Inv X pins σ H s):X.s₀.heap.objs.size<=s.heap.objs.size:=Nat.le_trans I.ok.above (Nat.le_of_lt I.lt)
theorem Inv.nofs (I:Inv X pins σ H s) {a:Addr} (h:s.heap.objs.size<=a):a∉X.fs:=fun hb=>by
 obtain ⟨_,o,ho,_⟩:=I.ok.funs.mem hb
 exact absurd (Nat.lt_of_lt_of_le (Heap.lt_size ho) (Nat.le_trans I.sz h)) (Nat.lt_irrefl _)
theorem Inv.cne (I:Inv X pins σ H s):∀ x c,X.env.cells.lookup x=some c->c≠X.env.locals:=fun x c e z=>by
 obtain ⟨v,o,ho,hd⟩:=I.cell x c e
 obtain ⟨m,⟨o',es,ep,ho',hd',_⟩,_⟩:=I.loc
 rw [z,ho'] at ho;cases ho;rw [hd'] at hd;cases hd
theorem Inv.funs (I:Inv X pins σ H s):s.heap.FunFrames X.base X.outer:=by
 have all:∀ (l:List Env),(∀ b∈frs l,b∈X.fs)->X.s₀.heap.FunFrames X.base l->s.heap.FunFrames X.base l:=by
  intro l
  induction l with
  | nil=>intro _ _;trivial
  | cons env r ih =>
   intro hs hl
   obtain ⟨hk,⟨L,o,hf,hn,ho,hd⟩,hr⟩:=hl
   have hL:L∈X.fs:=hs L (by unfold frs;rw [List.filterMap_cons,hf];exact List.mem_cons_self)
   obtain ⟨sl,e⟩:=I.base.slot L o ho (I.ok.frf L hL) hL fun z=>I.ok.exfs L z hL
   exact ⟨hk,⟨L,_,hf,hn,e,hd⟩,ih (fun b hb=>hs b (by unfold frs;rw [List.filterMap_cons,hf];exact List.mem_cons_of_mem _ hb)) hr⟩
 exact all X.outer (fun _ hb=>hb) I.ok.funs
theorem Inv.stack (I:Inv X pins σ H s):s.heap.FunFrames X.base X.stack:=by
 rcases I.ok.stk with e | ⟨e,hf⟩
 ·rw [e];exact I.funs
 ·rw [e]
  obtain ⟨m,hn,_⟩:=I.loc
  refine .cons (by rw [I.ok.kind];decide) hf hn ?_ I.funs
  exact Heap.get?_none_of_le (Nat.le_trans I.ok.bsz I.ok.above)
theorem Inv.stkSub (I:Inv X pins σ H s):∀ b∈frs X.stack,b∈X.env.locals :: X.fs:=fun b hb=>by
 rcases I.ok.stk with e | ⟨e,hf⟩
 ·rw [e] at hb;exact List.mem_cons_of_mem _ hb
 ·rw [e] at hb
  unfold frs at hb
  rw [List.filterMap_cons,hf] at hb
  exact hb
theorem Inv.stkFree (I:Inv X pins σ H s):∀ b∈frs X.stack,H b=none:=fun b hb=>by
 rcases List.mem_cons.mp (I.stkSub b hb) with e | hb
 ·rw [e];exact I.free
 ·obtain ⟨_,o,ho,_⟩:=I.ok.funs.mem hb
  exact I.base.free b o ho (I.ok.frf b hb) fun z=>I.ok.exfs b z hb
theorem Inv.step {g':Array GenState} {t':Nat} {d':Drawn} {ch:List Addr} (I:Inv X pins σ H s)
  (hch:∀ b∈ch,(b∈X.ex∨X.s₀.heap.objs.size<=b)/\b≠X.env.locals/\(∀ x c,X.env.cells.lookup x=some c->c≠b)/\∀ p∈X.pn++pins,p.1≠b)
  (keep:∀ b o,b≠X.env.locals->b∉X.fs->b∉ch->s.heap.get? b=some o->H b=none->h'.get? b=some o)
  (slot:∀ b o,b≠X.env.locals->b∈X.fs->b∉ch->s.heap.get? b=some o->H b=none->∃ sl,h'.get? b=some { o with slots:=sl }) (free:∀ b o,b∉ch->s.heap.get? b=some o->H b=none->H' b=none)
  (there:∀ b o,b∉ch->s.heap.get? b=some o->∃ o',h'.get? b=some o')
  (tups:∀ b xs,H b=some (.tup xs)->H' b=some (.tup xs)) (frzs:∀ b o u,H b=some (.frz o u)->H' b=some (.frz o u)) (tbls:∀ b ps,H b=some (.tbl ps)->∃ more,H' b=some (.tbl (ps++more)))
  (ns:∀ m,s.heap.Ns X.env.locals m->h'.Ns X.env.locals m) (hok:HOk X.prog X.w H' h') (hg:AllBare g') :
  Inv X pins σ H' { s with heap:=h',gens:=g',drawn:=d',toks:=t' }:=by
 have neL:∀ b o,X.s₀.heap.get? b=some o->b≠X.env.locals:=fun b o e=>Nat.ne_of_lt (Nat.lt_of_lt_of_le (Heap.lt_size e) I.ok.above)
 have neC:∀ b o,X.s₀.heap.get? b=some o->b∉X.ex->b∉ch:=fun b o e hx hb=>by
  rcases (hch b hb).1 with z | z
  ·exact hx z
  ·exact absurd (Nat.lt_of_lt_of_le (Heap.lt_size e) z) (Nat.lt_irrefl _)
 have cellK:∀ x c,X.env.cells.lookup x=some c->∀ v,s.heap.IsCell c v->h'.IsCell c v:=fun x c e v ⟨o,ho,hd⟩=>by
  have nch:c∉ch:=fun z=>(hch c z).2.2.1 x c e rfl
  by_cases hc:c∈X.fs
  ·obtain ⟨sl,q⟩:=slot c o (I.cne x c e) hc nch ho (I.freeC x c e)
   exact ⟨_,q,hd⟩
  ·exact ⟨o,keep c o (I.cne x c e) hc nch ho (I.freeC x c e),hd⟩
 refine ⟨I.ok,I.os,hg,⟨fun b o e n hb hx=>?_,fun b o e n hb hx=>?_,fun b o e n hx=>?_,fun b o e hx=>?_,fun b xs e=>tups b xs (I.base.tups b xs e),fun b o xs e=>frzs b o xs (I.base.frzs b o xs e),fun b ps e=>?_⟩,?_,fun x c e=>?_,?_,fun x c e=>?_,fun p hp=>?_,hok,I.len⟩
 ·exact keep b o (neL b o e) hb (neC b o e hx) (I.base.keep b o e n hb hx) (I.base.free b o e n hx)
 ·obtain ⟨sl,e1⟩:=I.base.slot b o e n hb hx
  obtain ⟨sl',e2⟩:=slot b _ (neL b o e) hb (neC b o e hx) e1 (I.base.free b o e n hx)
  exact ⟨sl',e2⟩
 ·obtain ⟨o',e1⟩:=I.base.there b o e hx
  exact free b o' (neC b o e hx) e1 (I.base.free b o e n hx)
 ·obtain ⟨o',e1⟩:=I.base.there b o e hx
  exact there b o' (neC b o e hx) e1
 ·obtain ⟨m1,e1⟩:=I.base.tbls b ps e
  obtain ⟨m2,e2⟩:=tbls b _ e1
  exact ⟨m1++m2,by rw [e2,Array.append_assoc]⟩
 ·obtain ⟨m,hn,hl⟩:=I.loc
  refine ⟨m,ns m hn,fun i x v e1 e2 e3=>?_⟩
  obtain ⟨u,r,l⟩:=hl i x v e1 e2 e3
  refine ⟨u,r,?_⟩
  rcases l with l | ⟨k,c,e,z⟩
  ·exact .inl l
  ·exact .inr ⟨k,c,e,cellK x c e _ z⟩
 ·obtain ⟨v,z⟩:=I.cell x c e
  exact ⟨v,cellK x c e v z⟩
 ·obtain ⟨m,⟨o,_,_,ho,_⟩,_⟩:=I.loc
  exact free _ o (fun z=>(hch _ z).2.1 rfl) ho I.free
 ·obtain ⟨v,o,ho,hd⟩:=I.cell x c e
  exact free c o (fun z=>(hch c z).2.2.1 x c e rfl) ho (I.freeC x c e)
 ·obtain ⟨e,n,ne,nf,d⟩:=I.pin p hp
  have nch:p.1∉ch:=fun z=>(hch p.1 z).2.2.2 p hp rfl
  exact ⟨keep p.1 p.2 ne nf nch e n,free p.1 p.2 nch e n,ne,nf,d⟩
theorem Inv.un {t':Nat} (I:Inv X pins σ H s) (u:Un X.fs [] H H' s.heap h') (hok:HOk X.prog X.w H' h'):Inv X pins σ H' { s with heap:=h',toks:=t' }:=by
 obtain ⟨m,⟨o,es,ep,ho,r⟩,_⟩:=id I.loc
 obtain ⟨sl,hL⟩:=u.any ho I.free (by simp)
 exact I.step (g':=s.gens) (d':=s.drawn) (ch:=[]) (fun _ z=>nomatch z) (fun b o _ hb _ e n=>u.keep b o e n hb (by simp)) (fun b o _ hb _ e n=>u.slot b o e n hb (by simp)) (fun b o _ e n=>u.free b o e n (by simp)) (fun b o _ e=>u.there b o e (by simp)) u.tups u.frzs u.tbls (fun m' hm=>by
  obtain ⟨o',es',ep',ho',r'⟩:=hm
  rw [ho] at ho';cases ho'
  exact ⟨_,es',ep',hL,r'⟩) hok I.bare
theorem Inv.call {g':Array GenState} {t':Nat} {d':Drawn} {ch:List Addr} (I:Inv X pins σ H s) (u:Un (frs X.stack) ch H H' s.heap h') (hok:HOk X.prog X.w H' h') (hg:AllBare g')
  (hch:∀ b∈ch,(b∈X.ex∨X.s₀.heap.objs.size<=b)/\b≠X.env.locals/\(∀ x c,X.env.cells.lookup x=some c->c≠b)/\∀ p∈X.pn++pins,p.1≠b) :
  Inv X pins σ H' { s with heap:=h',gens:=g',drawn:=d',toks:=t' }:=by
 obtain ⟨m,⟨o,es,ep,ho,r⟩,_⟩:=id I.loc
 obtain ⟨sl,hL⟩:=u.any ho I.free fun z=>(hch _ z).2.1 rfl
 exact I.step (ch:=ch) hch (fun b o hL hb hc e n=>u.keep b o e n (fun z=>(List.mem_cons.mp (I.stkSub b z)).elim hL hb) hc) (fun b o _ _ hc e n=>u.any e n hc) (fun b o hc e n=>u.free b o e n hc) (fun b o hc e=>u.there b o e hc) u.tups u.frzs u.tbls (fun m' hm=>by
  obtain ⟨o',es',ep',ho',r'⟩:=hm
  rw [ho] at ho';cases ho'
  exact ⟨_,es',ep',hL,r'⟩) hok hg
theorem Inv.turned {t':Nat} {it:Addr} (I:Inv X pins σ H s) (k:∀ b o,b≠it->s.heap.get? b=some o->h'.get? b=some o) (hn:H it=none) (hL:it≠X.env.locals)
  (h1:it∈X.ex∨X.s₀.heap.objs.size<=it) (h2:∀ x c,X.env.cells.lookup x=some c->c≠it) (h3:∀ p∈X.pn++pins,p.1≠it):Inv X pins σ H { s with heap:=h',toks:=t' }:=by
 have nit:∀ b u,H b=some u->b≠it:=fun b u e z=>by rw [z,hn] at e;cases e
 refine I.step (g':=s.gens) (d':=s.drawn) (ch:=[it]) (fun b hb=>?_) (fun b o _ _ hc e _=>k b o (fun z=>hc (by simp [z])) e) (fun b o _ _ hc e _=>⟨o.slots,k b o (fun z=>hc (by simp [z])) e⟩) (fun _ _ _ _ n=>n)
  (fun b o hc e=>⟨o,k b o (fun z=>hc (by simp [z])) e⟩) (fun _ _ e=>e) (fun _ _ _ e=>e) (fun b ps e=>⟨#[],by rw [e];simp⟩) (fun m hm=>?_) (fun b u e=>?_) I.bare
 ·have e:b=it:=by simpa using hb
  subst e
  exact ⟨h1,hL,h2,h3⟩
 ·obtain ⟨o,es,ep,ho,r⟩:=hm
  exact ⟨o,es,ep,k _ o (Ne.symm hL) ho,r⟩
 ·refine (I.hok b u e).stay (fun c v hc q=>k c v ?_ q) (fun _ q=>q) fun _ _ q=>q
  rcases hc with z | z
  ·rw [z];exact nit b u e
  ·exact nit c _ z
theorem Inv.tok (I:Inv X pins σ H s) (t:Nat):Inv X pins σ H { s with toks:=t }:=I.un (h':=s.heap) (t':=t) Un.refl I.hok
theorem Inv.kept {t':Nat} (I:Inv X pins σ H s) (k:∀ b u,s.heap.get? b=some u->h'.get? b=some u):Inv X pins σ H { s with heap:=h',toks:=t' }:=I.un (Un.kept k) (I.hok.kept k)
theorem Inv.laid {a:Addr} {o:HO} {t':Nat} (I:Inv X pins σ H s) (k:∀ b u,s.heap.get? b=some u->h'.get? b=some u) (hp:s.heap.objs.size<=a) (new:CU X.prog X.w (upd H a o) h' a o) :
  Inv X pins σ (upd H a o) { s with heap:=h',toks:=t' }:=I.un (Un.laid k hp (I.hok.fresh hp)) (I.hok.laid k hp new)
theorem Inv.write {x e:Addr} {o:HO} {t':Nat} (I:Inv X pins σ H s) (mu:Mut (H x)) (he:e=x∨H e=some (.own x)) (k:∀ b u,b≠e->s.heap.get? b=some u->h'.get? b=some u) (heo:∃ u,h'.get? e=some u)
  (new:CU X.prog X.w (upd H x o) h' x o):Inv X pins σ (upd H x o) { s with heap:=h',toks:=t' }:=I.un (Un.write mu he k heo) (I.hok.write mu he k heo new)
theorem Inv.pins_of {pins':List (Addr×Obj)} (I:Inv X pins σ H s) (h:∀ p∈pins',s.heap.get? p.1=some p.2/\H p.1=none/\p.1≠X.env.locals/\p.1∉X.fs/\∀ v,p.2.data≠.cell v):Inv X pins' σ H s :=
 ⟨I.ok,I.os,I.bare,I.base,I.loc,I.cell,I.free,I.freeC,fun p hp=>(List.mem_append.mp hp).elim (fun z=>I.pin p (List.mem_append_left _ z)) (h p),I.hok,I.len⟩
theorem nodup_ix {N:List Str} (hN:N.Nodup) {i j:Nat} {x:Str} (a:N[i]?=some x) (b:N[j]?=some x):i=j:=by
 obtain ⟨h1,e1⟩:=List.getElem?_eq_some_iff.mp a
 obtain ⟨h2,e2⟩:=List.getElem?_eq_some_iff.mp b
 exact (List.getElem_inj hN).mp (e1.trans e2.symm)
theorem store_ok2 {M:Model} {A:Around} {E:Value->Shared->Prop} {i:Nat} {x:Str} {v:V} {u:Value} {Q:Unit->Shared->Prop} (I:Inv X pins σ H s) (hN:X.N.Nodup) (hi:X.N[i]?=some x) (hx:Loc X.env.scope x) (r:RelV v u)
  (h:∀ s',Inv X pins (σ.set i (some v)) H s'->(∃ a,Heap.SameBut a s.heap s'.heap/\(a=X.env.locals∨X.env.cells.lookup x=some a))->Q () s') (hf:X.fn x=true∨X.env.scope.names.lookup x=some .local:=by first | exact .inl rfl | exact .inr rfl | assumption):wpAny M A (storeName X.env x u) Q E s:=by
 obtain ⟨m,hn,hl⟩:=id I.loc
 have hcls:(X.env.scope.kind == .class || (X.env.scope.kind == .module && X.env.locals != X.env.globals))=false:=by rw [I.ok.kind];rfl
 have hiσ:i < σ.length:=by rw [I.len];exact (List.getElem?_eq_some_iff.mp hi).1
 have cne:=I.cne
 have tracked:∀ {a:Addr} {h':Heap},(∃ o,s.heap.get? a=some o/\H a=none)->Heap.SameBut a s.heap h'->HOk X.prog X.w H h':=fun {a h'} ha hs b ob e=>by
  obtain ⟨_,_,hfree⟩:=ha
  refine (I.hok b ob e).stay (fun c w' hc q=>(hs.2 c ?_).trans q) (fun _ q=>q) fun _ _ q=>q
  rintro rfl
  rcases hc with rfl | hc
  ·rw [hfree] at e;cases e
  ·rw [hfree] at hc;cases hc
 rcases hx with hk | hk
 ·refine wpAny_storeName_local hk hn (fun h' hn' hs=>?_) hcls
  obtain ⟨oL,_,_,hoL,_⟩:=id hn
  refine h _ ⟨I.ok,I.os,I.bare,⟨fun b o e n hb hx=>?_,fun b o e n hb hx=>?_,I.base.free,fun b o e hx=>?_,I.base.tups,I.base.frzs,I.base.tbls⟩,⟨_,hn',fun j y v' e1 e2 e3=>?_⟩,fun y c e=>?_,I.free,I.freeC,fun p hp=>?_,tracked ⟨oL,hoL,I.free⟩ hs,by simpa using I.len⟩ ⟨_,hs,.inl rfl⟩
  ·exact (hs.2 b (Nat.ne_of_lt (Nat.lt_of_lt_of_le (Heap.lt_size e) I.ok.above))).trans (I.base.keep b o e n hb hx)
  ·obtain ⟨sl,e1⟩:=I.base.slot b o e n hb hx
   exact ⟨sl,(hs.2 b (Nat.ne_of_lt (Nat.lt_of_lt_of_le (Heap.lt_size e) I.ok.above))).trans e1⟩
  ·obtain ⟨o',e1⟩:=I.base.there b o e hx
   exact ⟨o',(hs.2 b (Nat.ne_of_lt (Nat.lt_of_lt_of_le (Heap.lt_size e) I.ok.above))).trans e1⟩
  ·by_cases hj:j=i
   ·subst hj
    rw [hi] at e1;cases e1
    rw [List.getElem?_set_self hiσ] at e2
    cases e2
    exact ⟨u,r,.inl ⟨hk,by simp⟩⟩
   ·rw [List.getElem?_set_ne (Ne.symm hj)] at e2
    obtain ⟨u',r',q⟩:=hl j y v' e1 e2 e3
    refine ⟨u',r',?_⟩
    rcases q with ⟨k,e⟩ | ⟨k,c,e,z⟩
    ·refine .inl ⟨k,?_⟩
     have:y≠x:=fun e=>hj (nodup_ix hN e1 (e▸hi))
     simp [this,e]
    ·exact .inr ⟨k,c,e,z.sameBut hs (cne y c e)⟩
  ·obtain ⟨w',z⟩:=I.cell y c e
   exact ⟨w',z.sameBut hs (cne y c e)⟩
  ·obtain ⟨e,n,ne,nf,d⟩:=I.pin p hp
   exact ⟨(hs.2 p.1 ne).trans e,n,ne,nf,d⟩
 ·have hfn:X.fn x=true:=by
   rcases hf with z | z
   ·exact z
   ·rw [z] at hk;cases hk
  obtain ⟨c,hc⟩:=I.ok.has x (.inl hk)
  obtain ⟨w',z⟩:=I.cell x c hc
  refine wpAny_storeName_cell I.ok.kind hk hc z (fun h' hc' hs=>?_)
  obtain ⟨oc,hoc,hocd⟩:=id z
  refine h { s with heap:=h' } ⟨I.ok,I.os,I.bare,⟨fun b o e n hb hx=>?_,fun b o e n hb hx=>?_,I.base.free,fun b o e hx=>?_,I.base.tups,I.base.frzs,I.base.tbls⟩,⟨m,hn.sameBut hs (Ne.symm (cne x c hc)),fun j y v' e1 e2 e3=>?_⟩,fun y c' e=>?_,I.free,I.freeC,fun p hp=>?_,tracked ⟨oc,hoc,I.freeC x c hc⟩ hs,by simpa using I.len⟩ ⟨c,hs,.inr hc⟩
  ·exact (hs.2 b (Nat.ne_of_lt (Nat.lt_of_lt_of_le (Heap.lt_size e) (I.ok.cab x c hfn hc)))).trans (I.base.keep b o e n hb hx)
  ·obtain ⟨sl,e1⟩:=I.base.slot b o e n hb hx
   exact ⟨sl,(hs.2 b (Nat.ne_of_lt (Nat.lt_of_lt_of_le (Heap.lt_size e) (I.ok.cab x c hfn hc)))).trans e1⟩
  ·obtain ⟨o',e1⟩:=I.base.there b o e hx
   exact ⟨o',(hs.2 b (Nat.ne_of_lt (Nat.lt_of_lt_of_le (Heap.lt_size e) (I.ok.cab x c hfn hc)))).trans e1⟩
  ·by_cases hj:j=i
   ·subst hj
    rw [hi] at e1;cases e1
    rw [List.getElem?_set_self hiσ] at e2
    cases e2
    exact ⟨u,r,.inr ⟨.inl hk,c,hc,hc'⟩⟩
   ·rw [List.getElem?_set_ne (Ne.symm hj)] at e2
    obtain ⟨u',r',q⟩:=hl j y v' e1 e2 e3
    refine ⟨u',r',?_⟩
    rcases q with q | ⟨k,c',e,z'⟩
    ·exact .inl q
    ·refine .inr ⟨k,c',e,z'.sameBut hs ?_⟩
     rintro rfl
     exact hj (nodup_ix hN e1 (I.ok.inj _ _ _ e hc▸hi))
  ·by_cases hcc:c'=c
   ·subst hcc;exact ⟨_,hc'⟩
   ·obtain ⟨w2,z2⟩:=I.cell y c' e
    exact ⟨w2,z2.sameBut hs hcc⟩
  ·obtain ⟨e,n,ne,nf,d⟩:=I.pin p hp
   refine ⟨(hs.2 p.1 ?_).trans e,n,ne,nf,d⟩
   intro q
   rw [q,hoc] at e
   have q':oc=p.2:=Option.some.inj e
   exact d w' (by rw [<- q'];exact hocd)
theorem store_ok {M:Model} {A:Around} {E:Value->Shared->Prop} {i:Nat} {x:Str} {v:V} {u:Value} {Q:Unit->Shared->Prop} (I:Inv X pins σ H s) (hN:X.N.Nodup) (hi:X.N[i]?=some x) (hx:Loc X.env.scope x) (r:RelV v u)
  (h:∀ s',Inv X pins (σ.set i (some v)) H s'->Q () s') (hf:X.fn x=true∨X.env.scope.names.lookup x=some .local:=by first | exact .inl rfl | exact .inr rfl | assumption):wpAny M A (storeName X.env x u) Q E s :=
 store_ok2 I hN hi hx r (fun s' I' _=>h s' I') hf
theorem Inv.call' {s':Shared} {ch:List Addr} (I:Inv X pins σ H s) (ho:s'.os=s.os) (u:Un (frs X.stack) ch H H' s.heap s'.heap) (hok:HOk X.prog X.w H' s'.heap) (hg:AllBare s'.gens)
  (hch:∀ b∈ch,(b∈X.ex∨X.s₀.heap.objs.size<=b)/\b≠X.env.locals/\(∀ x c,X.env.cells.lookup x=some c->c≠b)/\∀ p∈X.pn++pins,p.1≠b):Inv X pins σ H' s':=by
 obtain ⟨h',g',d',t',o'⟩:=s'
 have e:o'=s.os:=ho
 subst e
 exact I.call (g':=g') (t':=t') (d':=d') u hok hg hch
end
abbrev XK:=Value->Option Addr->Hp->Prop
abbrev St:=List (Option V)
abbrev VK:=V->Hp->Prop
abbrev TE:=St->Hp->VK->Prop
abbrev TT:=St->Hp->(Bool->Hp->Prop)->Prop
abbrev TA:=St->Hp->(List V->Hp->Prop)->Prop
structure Ends where
 nx:St->Hp->Prop
 rt:VK
 bk:St->Hp->Prop:=fun _ _=>False
 ct:St->Hp->Prop:=fun _ _=>False
abbrev TS:=Ends->St->Hp->Prop
def EP (X:Cx) (pins:List (Addr×Obj)) (σ:St) (Q:VK) (u:Value) (s':Shared):Prop:=∃ v H',Inv X pins σ H' s'/\RelV v u/\Q v H'
def TP (X:Cx) (pins:List (Addr×Obj)) (σ:St) (Q:Bool->Hp->Prop) (b:Bool) (s':Shared):Prop:=∃ H',Inv X pins σ H' s'/\Q b H'
def AP (X:Cx) (pins:List (Addr×Obj)) (σ:St) (Q:List V->Hp->Prop) (us:List Value) (s':Shared):Prop:=∃ vs H',Inv X pins σ H' s'/\Vals vs us/\Q vs H'
def SP (X:Cx) (pins:List (Addr×Obj)) (D:Ends) (f:Flow) (s':Shared):Prop :=
 match f with
 | .next=>∃ σ' H',Inv X pins σ' H' s'/\D.nx σ' H'
 | .brk=>∃ σ' H',Inv X pins σ' H' s'/\D.bk σ' H'
 | .cont=>∃ σ' H',Inv X pins σ' H' s'/\D.ct σ' H'
 | .ret u=>∃ v σ' H',Inv X pins σ' H' s'/\RelV v u/\D.rt v H'
def PE (X:Cx) (e:Expr) (t:TE):Prop :=
 ∀ (pins:List (Addr×Obj)) (s:Shared) (σ:St) (H:Hp) (Q:VK),Inv X pins σ H s->t σ H Q->wpAny (model X.prog X.w) X.A (eval e X.env) (EP X pins σ Q) X.xe s
def PT (X:Cx) (e:Expr) (t:TT):Prop :=
 ∀ (pins:List (Addr×Obj)) (s:Shared) (σ:St) (H:Hp) (Q:Bool->Hp->Prop),Inv X pins σ H s->t σ H Q->wpAny (model X.prog X.w) X.A (isTrue e X.env (eval e X.env)) (TP X pins σ Q) X.xe s
def PW (X:Cx) (e:Expr) (t:TT):Prop :=
 ∀ (whole:Sem Value) (pins:List (Addr×Obj)) (s:Shared) (σ:St) (H:Hp) (Q:Bool->Hp->Prop),Inv X pins σ H s->t σ H Q->wpAny (model X.prog X.w) X.A (isTrue e X.env whole) (TP X pins σ Q) X.xe s
theorem PW.pt {X:Cx} {e:Expr} {t:TT} (h:PW X e t):PT X e t:=h _
def PA (X:Cx) (es:List Expr) (t:TA):Prop :=
 ∀ (pos:Pos) (pins:List (Addr×Obj)) (s:Shared) (σ:St) (H:Hp) (Q:List V->Hp->Prop),Inv X pins σ H s->t σ H Q->wpAny (model X.prog X.w) X.A (spliced (backTo pos (starEach es X.env))) (AP X pins σ Q) X.xe s
def PS (X:Cx) (st:Stmt) (t:TS):Prop :=
 ∀ (pins:List (Addr×Obj)) (s:Shared) (σ:St) (H:Hp) (D:Ends),Inv X pins σ H s->t D σ H->wpAny (model X.prog X.w) X.A (exec st X.env) (SP X pins D) X.xe s
def PSs (X:Cx) (st:List Stmt) (t:TS):Prop :=
 ∀ (pins:List (Addr×Obj)) (s:Shared) (σ:St) (H:Hp) (D:Ends),Inv X pins σ H s->t D σ H->wpAny (model X.prog X.w) X.A (execs st X.env) (SP X pins D) X.xe s
theorem thn {α:Type} {t:Sem α} {Q Q':α->Shared->Prop} {M:Model} {A:Around} {E:Value->Shared->Prop} {s:Shared} (h:wpAny M A t Q E s) (hQ:∀ a s,Q a s->Q' a s):wpAny M A t Q' E s:=wpAny_mono h hQ fun _ _ x=>x
end L2
namespace L2
open PySem PySem.Spec PyProof.Rows
section
variable {X:Cx}
def tVar (i:Nat):TE:=fun σ H Q=>∃ v,σ[i]?=some (some v)/\Q v H
def tC (v:V):TE:=fun _ H Q=>Q v H
theorem pe_var {i:Nat} {x:Str} {pos:Pos} (hN:X.N[i]?=some x) (hv:Vis X.env.scope x) (hd:(x == ("__debug__":Str))=false:=by decide) (hcd:(x == ("__classdict__":Str))=false:=by decide):PE X (.Name x pos) (tVar i):=by
 intro pins s σ H Q I h
 obtain ⟨v,e,h⟩:=h
 obtain ⟨m,hn,hl⟩:=I.loc
 obtain ⟨u,r,l⟩:=hl i x v hN e hv
 have fin:EP X pins σ Q u s:=⟨v,H,I,r,h⟩
 rcases l with ⟨hk,hm⟩ | ⟨hk,c,hc,hcell⟩
 ·exact wpAny_Name (wpAny_loadName_local I.ok.kind hk hn hm fin) hd
 ·rcases hk with hk | hk
  ·exact wpAny_Name (wpAny_loadName_cell I.ok.kind hk hc hcell fin) hd
  ·exact wpAny_Name (wpAny_loadName_free I.ok.kind hk hc hcell fin hcd) hd
theorem pe_int {i j pos}:PE X (.Constant (.int i) j pos) (tC (.int i)):=fun _ _ _ H _ I h=>wpAny_Constant_int ⟨.int i,H,I.tok _,⟨_,rfl⟩,h⟩
theorem pe_bl {b j pos}:PE X (.Constant (.bool b) j pos) (tC (.bl b)):=fun _ _ _ H _ I h=>Constant_bool ⟨.bl b,H,I,rfl,h⟩
theorem pe_str {x j pos}:PE X (.Constant (.str x) j pos) (tC (.str x)):=fun _ _ _ H _ I h=>Calls.Constant_str ⟨.str x,H,I.tok _,⟨_,rfl⟩,h⟩
def Gl (X:Cx) (x:Str):Prop:=X.env.kindOf x=some .globalImplicit
theorem ld_glob {E:Value->Shared->Prop} {pins:List (Addr×Obj)} {s:Shared} {σ:St} {H:Hp} {x:Str} {u:Value} {pos:Pos} {Q:Value->Shared->Prop} (I:Inv X pins σ H s) (hg:Gl X x) (hm:X.mg x=some u) (h:Q u s)
  (hd:(x == ("__debug__":Str))=false:=by decide):wpAny (model X.prog X.w) X.A (eval (.Name x pos) X.env) Q E s :=
 Calls.Name_function_global I.ok.kind hg (Calls.loadGlobal_global (by rw [I.ok.glob];exact I.mod.glob.keeps I.bk) hm h) hd
theorem FF {E:Value->Shared->Prop} {pins:List (Addr×Obj)} {s:Shared} {σ:St} {H:Hp} {x:Str} {u:Value} {pos:Pos} {Q:Value->Shared->Prop} (I:Inv X pins σ H s) (hg:Gl X x) (hm:X.mg x=none) (hv:bootBuiltins x=some u) (h:Q u s)
  (hn:x≠"__name__":=by decide) (hd:(x == ("__debug__":Str))=false:=by decide):wpAny (model X.prog X.w) X.A (eval (.Name x pos) X.env) Q E s:=by
 obtain ⟨mb,h1,h2⟩:=I.mod.blt
 exact Calls.Name_function_global I.ok.kind hg (Calls.loadGlobal_builtin (by rw [I.ok.glob];exact I.mod.glob.keeps I.bk) hm (by rw [I.ok.blt];exact h1.keeps I.bk) ((h2 x hn).trans hv) h) hd
theorem pe_glob {x:Str} {v:V} {u:Value} {pos:Pos} (hg:Gl X x) (hm:X.mg x=some u) (r:RelV v u) (hd:(x == ("__debug__":Str))=false:=by decide):PE X (.Name x pos) (tC v) :=
 fun _ _ _ H _ I h=>ld_glob I hg hm ⟨v,H,I,r,h⟩ hd
theorem pe_bltn {x:Str} {v:V} {u:Value} {pos:Pos} (hg:Gl X x) (hm:X.mg x=none) (hv:bootBuiltins x=some u) (r:RelV v u) (hn:x≠"__name__":=by decide) (hd:(x == ("__debug__":Str))=false:=by decide):PE X (.Name x pos) (tC v) :=
 fun _ _ _ H _ I h=>FF I hg hm hv ⟨v,H,I,r,h⟩ hn hd
variable {a b:Expr} {ta tb:TE} {pos:Pos}
variable {tA tB':TT} {rest:List Expr}
def tOr (t u:TT):TT:=fun σ H Q=>t σ H fun c H1=>if c=true then Q true H1 else u σ H1 Q
def tNot (t:TT):TT:=fun σ H Q=>t σ H fun c H1=>Q (!c) H1
theorem pw_or1 (ha:PT X a tA):PW X (.BoolOp .Or [a] pos) tA:=by
 intro wh pins s σ H Q I h
 refine isTrue_or (thn (ha pins s σ H Q I h) fun c s1 e=>?_)
 cases c with
 | false=>exact isTrue_or_nil e
 | true=>exact e
theorem pw_or (ha:PT X a tA) (hb:PW X (.BoolOp .Or (b :: rest) pos) tB'):PW X (.BoolOp .Or (a :: b :: rest) pos) (tOr tA tB'):=by
 intro wh pins s σ H Q I h
 refine isTrue_or (thn (ha pins s σ H _ I h) fun c s1 ⟨H1,I1,q1⟩=>?_)
 cases c with
 | true=>exact ⟨H1,I1,q1⟩
 | false=>exact hb wh pins s1 σ H1 Q I1 q1
theorem pt_not (ha:PT X a tA):PT X (.UnaryOp .Not a pos) (tNot tA):=by
 intro pins s σ H Q I h
 exact isTrue_not (ha pins s σ H (fun c H1=>Q (!c) H1) I h)
def tIf (t:TT) (ta tb:TE):TE:=fun σ H Q=>t σ H fun c H1=>if c=true then ta σ H1 Q else tb σ H1 Q
theorem pe_ifExp {c:Expr} (hc:PT X c tA) (ha:PE X a ta) (hb:PE X b tb):PE X (.IfExp c a b pos) (tIf tA ta tb):=by
 intro pins s σ H Q I h
 refine wpAny_IfExp (thn (hc pins s σ H _ I h) fun d s1 ⟨H1,I1,q1⟩=>?_)
 cases d with
 | true=>exact ha pins s1 σ H1 Q I1 q1
 | false=>exact hb pins s1 σ H1 Q I1 q1
end
end L2
namespace L2
open PySem PySem.Spec PyProof.Rows
def SqL (K:PySem.W.Frag) (H:Hp) (a:Addr) (xs:List V):Prop :=
 Rd H a (.lst xs) ∨
  ∃ (o:Obj) (its:Array Value) (n:Nat),K.lookup a=some o/\o.cls=.type "list"/\o.dict=none/\o.data=.seq its n/\its.size<=sizeLine/\Vals xs its.toList
def SqT (K:PySem.W.Frag) (H:Hp) (a:Addr) (xs:List V):Prop :=
 Rd H a (.tup xs) ∨
  ∃ (o:Obj) (its:Array Value) (n:Nat),K.lookup a=some o/\o.cls=.type "tuple"/\o.data=.seq its n/\its.size<=sizeLine/\Vals xs its.toList
def absV:Value->Option V
 | .none=>some .non
 | .bool b=>some (.bl b)
 | .int i _=>some (.int i)
 | .str x _=>some (.str x)
 | .bytes b _=>some (.byt b)
 | .float b _=>some (.flt b)
 | .ref a=>some (.ref a)
 | .type n=>some (.ty n)
 | _=>none
theorem RelV.abs {x:V} {u:Value} (r:RelV x u):absV u=some x:=by
 cases x with
 | non=>cases r;rfl
 | bl _=>cases r;rfl
 | int _=>obtain ⟨t,rfl⟩:=r;rfl
 | str _=>obtain ⟨t,rfl⟩:=r;rfl
 | byt _=>obtain ⟨t,rfl⟩:=r;rfl
 | flt _=>obtain ⟨t,rfl⟩:=r;rfl
 | ref _=>cases r;rfl
 | ty _=>cases r;rfl
theorem RelV.inj {x y:V} {u:Value} (r:RelV x u) (q:RelV y u):x=y:=Option.some.inj (r.abs.symm.trans q.abs)
theorem Vals.inj:∀ {xs ys:List V} {us:List Value},Vals xs us->Vals ys us->xs=ys
 | _,_,_,.nil,.nil=>rfl
 | _,_,_,.cons r t,.cons r' t'=>by rw [r.inj r',Vals.inj t t']
section
variable {X:Cx} {pins:List (Addr×Obj)} {σ:St} {H:Hp} {s:Shared} {a:Addr} {xs ys:List V}
theorem SqL.of {K:PySem.W.Frag} (h:H a=some (.lst xs)):SqL K H a xs:=.inl (.inl h)
theorem SqT.of {K:PySem.W.Frag} (h:H a=some (.tup xs)):SqT K H a xs:=.inl (.inl h)
theorem Inv.list (I:Inv X pins σ H s) (h:SqL X.K H a xs):∃ its:List Value,Vals xs its/\PlainL s.heap a its.toArray/\xs.length<=sizeLine:=by
 rcases h with h | ⟨o,its,n,hk,hc,hd,hs,hz,r⟩
 ·obtain ⟨z,its,n,r,e⟩:=h.ok I.hok
  exact ⟨its,r,⟨_,n,e,rfl,rfl,rfl⟩,z⟩
 ·refine ⟨its.toList,r,⟨o,n,I.kIn a o hk,hc,hd,by simpa using hs⟩,?_⟩
  have e:=r.length
  simp only [Array.length_toList] at e
  omega
theorem Inv.tuple (I:Inv X pins σ H s) (h:SqT X.K H a xs):∃ its:List Value,Vals xs its/\IsTup s.heap a its.toArray/\xs.length<=sizeLine:=by
 rcases h with h | ⟨o,its,n,hk,hc,hs,hz,r⟩
 ·obtain ⟨z,its,r,p⟩:=h.ok I.hok
  exact ⟨its,r,p,z⟩
 ·refine ⟨its.toList,r,⟨o,I.kIn a o hk,hc,n,by simpa using hs⟩,?_⟩
  have e:=r.length
  simp only [Array.length_toList] at e
  omega
theorem Inv.list_inj (I:Inv X pins σ H s) (h:SqL X.K H a xs) (h':SqL X.K H a ys):xs=ys:=by
 obtain ⟨its,r,⟨o,n,e,_,_,d⟩,_⟩:=I.list h
 obtain ⟨its',r',⟨o',n',e',_,_,d'⟩,_⟩:=I.list h'
 rw [e] at e';cases e'
 rw [d] at d'
 injection d' with d1 _
 have:its=its':=by simpa using congrArg Array.toList d1
 subst this
 exact r.inj r'
theorem Inv.tuple_inj (I:Inv X pins σ H s) (h:SqT X.K H a xs) (h':SqT X.K H a ys):xs=ys:=by
 obtain ⟨its,r,⟨o,e,_,n,d⟩,_⟩:=I.tuple h
 obtain ⟨its',r',⟨o',e',_,n',d'⟩,_⟩:=I.tuple h'
 rw [e] at e';cases e'
 rw [d] at d'
 injection d' with d1 _
 have:its=its':=by simpa using congrArg Array.toList d1
 subst this
 exact r.inj r'
end
abbrev Cx.wish (X:Cx) (E:Value->Shared->Prop):Cx:={ X with xe:=E }
abbrev Cx.nox (X:Cx):Cx:=X.wish fun _ _=>False
theorem Cx.Ok.wish {X:Cx} (ok:X.Ok) (E:Value->Shared->Prop):(X.wish E).Ok :=
 ⟨ok.mod,ok.kind,ok.glob,ok.blt,ok.above,ok.inj,ok.has,ok.cab,ok.hd,ok.frames,ok.stk,ok.exf,ok.bs,ok.bsz,ok.noex,ok.exfs,ok.funs,ok.frf⟩
theorem Cx.Ok.GC {X:Cx} {E:Value->Shared->Prop} (ok:(X.wish E).Ok):X.Ok :=
 ⟨ok.mod,ok.kind,ok.glob,ok.blt,ok.above,ok.inj,ok.has,ok.cab,ok.hd,ok.frames,ok.stk,ok.exf,ok.bs,ok.bsz,ok.noex,ok.exfs,ok.funs,ok.frf⟩
section
variable {X:Cx} {pins:List (Addr×Obj)} {σ:St} {H:Hp} {s:Shared} {E:Value->Shared->Prop}
theorem Inv.wish (I:Inv X pins σ H s) (E:Value->Shared->Prop):Inv (X.wish E) pins σ H s:=⟨I.ok.wish E,I.os,I.bare,I.base,I.loc,I.cell,I.free,I.freeC,I.pin,I.hok,I.len⟩
theorem Inv.GC (I:Inv (X.wish E) pins σ H s):Inv X pins σ H s:=⟨I.ok.GC,I.os,I.bare,I.base,I.loc,I.cell,I.free,I.freeC,I.pin,I.hok,I.len⟩
theorem SP.GC {D:Ends} {f:Flow} {s':Shared} (h:SP (X.wish E) pins D f s'):SP X pins D f s':=by
 cases f with
 | next=>obtain ⟨σ',H',I,q⟩:=h;exact ⟨σ',H',I.GC,q⟩
 | brk=>obtain ⟨σ',H',I,q⟩:=h;exact ⟨σ',H',I.GC,q⟩
 | cont=>obtain ⟨σ',H',I,q⟩:=h;exact ⟨σ',H',I.GC,q⟩
 | ret u=>obtain ⟨v,σ',H',I,r,q⟩:=h;exact ⟨v,σ',H',I.GC,r,q⟩
theorem PSs.nox {st:List Stmt} {t:TS} (h:PSs X.nox st t):PSs X st t:=fun pins s σ H D I hw =>
 wpAny_mono (h pins s σ H D (I.wish _) hw) (fun _ _ q=>q.GC) fun _ _ z=>False.elim z
end
section
variable {X:Cx} {st:Stmt} {rest:List Stmt} {t u:TS} {e:Expr} {te:TE} {pos:Pos}
def tNext:TS:=fun D σ H=>D.nx σ H
def tSeq (t u:TS):TS:=fun D σ H=>t { D with nx:=u D } σ H
theorem pss_nil:PSs X [] tNext:=fun _ _ σ H _ I h=>wpAny_execs_nil ⟨σ,H,I,h⟩
theorem pss_cons (h1:PS X st t) (h2:PSs X rest u):PSs X (st :: rest) (tSeq t u):=by
 intro pins s σ H D I h
 refine wpAny_execs_cons (thn (h1 pins s σ H { D with nx:=u D } I h) fun f s1 q=>?_)
 cases f with
 | next =>
  obtain ⟨σ',H',I',q⟩:=q
  exact h2 pins s1 σ' H' D I' q
 | ret v=>exact q
 | brk=>exact q
 | cont=>exact q
theorem pss_one (h1:PS X st t):PSs X [st] t:=by
 intro pins s σ H D I h
 refine wpAny_execs_cons (thn (h1 pins s σ H D I h) fun f s1 q=>?_)
 cases f with
 | next=>exact wpAny_execs_nil q
 | ret v=>exact q
 | brk=>exact q
 | cont=>exact q
def tBreak:TS:=fun D σ H=>D.bk σ H
theorem ps_break:PS X (.Break pos) tBreak:=fun _ _ σ H _ I h=>wpAny_Break ⟨σ,H,I,h⟩
theorem Inv.quiet {pins:List (Addr×Obj)} {σ:St} {H:Hp} {s:Shared} (I:Inv X pins σ H s):interactive X.env=false:=by simp [interactive,I.ok.kind]
def tDrop (te:TE):TS:=fun D σ H=>te σ H fun _ H1=>D.nx σ H1
theorem ps_expr (he:PE X e te) (hs:swapsWith e none pos.line X.env=pure false:=by rfl):PS X (.Expr e pos) (tDrop te):=by
 intro pins s σ H D I h
 exact wpAny_Expr_any (thn (he pins s σ H _ I h) fun v s1 ⟨x,H1,I1,r1,q1⟩=>⟨σ,H1,I1,q1⟩) I.quiet hs
def tRet (te:TE):TS:=fun D σ H=>te σ H D.rt
theorem ps_ret (he:PE X e te):PS X (.Return (some e) pos) (tRet te):=by
 intro pins s σ H D I h
 exact wpAny_Return_some (thn (he pins s σ H _ I h) fun v s1 ⟨x,H1,I1,r1,q1⟩=>⟨x,σ,H1,I1,r1,q1⟩)
def tIfS (c:TT) (t u:TS):TS:=fun D σ H=>c σ H fun b H1=>if b=true then t D σ H1 else u D σ H1
theorem ps_if {c:Expr} {a b:List Stmt} {tc:TT} (hc:PT X c tc) (ha:PSs X a t) (hb:PSs X b u):PS X (.If c a b pos) (tIfS tc t u):=by
 intro pins s σ H D I h
 refine wpAny_If (thn (hc pins s σ H _ I h) fun d s1 ⟨H1,I1,q1⟩=>?_)
 cases d with
 | true=>exact ha pins s1 σ H1 D I1 q1
 | false=>exact hb pins s1 σ H1 D I1 q1
def tNever:TS:=fun _ _ _=>False
theorem ps_never:PS X st tNever:=fun _ _ _ _ _ _ h=>h.elim
end
abbrev TG:=V->St->Hp->(St->Hp->Prop)->Prop
abbrev TGs:=List V->St->Hp->(St->Hp->Prop)->Prop
def PG (X:Cx) (target:Expr) (t:TG):Prop :=
 ∀ (pins:List (Addr×Obj)) (s:Shared) (σ:St) (H:Hp) (v:V) (u:Value) (Q:St->Hp->Prop),Inv X pins σ H s->RelV v u->t v σ H Q ->
  wpAny (model X.prog X.w) X.A (assign target X.env u) (fun _ s'=>∃ σ' H',Inv X pins σ' H' s'/\Q σ' H') X.xe s
def PGs (X:Cx) (ts:List Expr) (t:TGs):Prop :=
 ∀ (pins:List (Addr×Obj)) (s:Shared) (σ:St) (H:Hp) (vs:List V) (us:List Value) (Q:St->Hp->Prop),Inv X pins σ H s->Vals vs us->t vs σ H Q ->
  wpAny (model X.prog X.w) X.A (assignInOrder ((assignEach ts X.env).map (·.2)) us) (fun _ s'=>∃ σ' H',Inv X pins σ' H' s'/\Q σ' H') X.xe s
abbrev TSet:=V->V->V->Hp->(Hp->Prop)->Prop
def PSet (X:Cx) (t:TSet):Prop :=
 ∀ (pins:List (Addr×Obj)) (s:Shared) (σ:St) (H:Hp) (o i v:V) (ov iv u:Value) (Q:Hp->Prop),Inv X pins σ H s->RelV o ov->RelV i iv->RelV v u->t o i v H Q ->
  wpAny (model X.prog X.w) X.A (setItem ov iv u) (fun _ s'=>∃ H',Inv X pins σ H' s'/\Q H') X.xe s
section
variable {X:Cx} {pos:Pos}
def gName (i:Nat):TG:=fun v σ H Q=>Q (σ.set i (some v)) H
theorem pg_name {i:Nat} {x:Str} (hN:X.N.Nodup) (hi:X.N[i]?=some x) (hx:Loc X.env.scope x) (hf:X.fn x=true∨X.env.scope.names.lookup x=some .local:=by first | exact .inl rfl | exact .inr rfl | assumption):PG X (.Name x pos) (gName i):=by
 intro pins s σ H v u Q I r h
 exact wpAny_assign_Name (store_ok I hN hi hx r (fun s' I'=>⟨_,H,I',h⟩) hf)
def gNil:TGs:=fun vs σ H Q=>vs=[]/\Q σ H
def gCons (t:TG) (u:TGs):TGs:=fun vs σ H Q=>∃ v r,vs=v :: r/\t v σ H fun σ' H'=>u r σ' H' Q
theorem pgs_nil:PGs X [] gNil:=by
 intro pins s σ H vs us Q I r h
 obtain ⟨e,h⟩:=h
 subst e
 cases r
 exact assignInOrder_nil ⟨σ,H,I,h⟩
theorem A3 {e:Expr} {es:List Expr} {t:TG} {u:TGs} (h1:PG X e t) (h2:PGs X es u)
  (hs:(assignEach (e :: es) X.env).map (·.2)=assign e X.env :: (assignEach es X.env).map (·.2):=by rfl):PGs X (e :: es) (gCons t u):=by
 intro pins s σ H vs us Q I r h
 obtain ⟨v,vr,e1,h⟩:=h
 subst e1
 cases r with
 | cons r rr =>
  rw [hs]
  refine assignInOrder_cons (thn (h1 pins s σ H _ _ _ I r h) fun _ s1 ⟨σ1,H1,I1,q1⟩=>?_)
  exact h2 pins s1 σ1 H1 _ _ Q I1 rr q1
def gTup (K:PySem.W.Frag) (n:Nat) (t:TGs):TG:=fun v σ H Q=>∃ a xs,v=.ref a/\SqT K H a xs/\xs.length=n/\t xs σ H Q
theorem pg_tup {es:List Expr} {k:Nat} {t:TGs} {n:Nat} (hc:X.calm=true) (h:PGs X es t)
  (hn:(assignEach es X.env).length=n:=by rfl) (hst:(assignEach es X.env).findIdx? (·.1)=none:=by rfl):PG X (.Tuple es k pos) (gTup X.K n t):=by
 intro pins s σ H v u Q I r hw
 obtain ⟨a,xs,e1,hq,hl,hw⟩:=hw
 subst e1
 cases r
 obtain ⟨its,rv,ht,hz⟩:=I.tuple hq
 refine assign_Tuple_tuple (I.ok.hd hc) ht (by simp [hn,<- hl,rv.length]) hst fun h' hx=>?_
 have I1:Inv X pins σ H { s with heap:=h' }:=I.kept (t':=s.toks) fun b o e=>hx b o (Nat.ne_of_lt (Heap.lt_size e)) e
 exact h pins _ σ H xs _ Q I1 (by simpa using rv) hw
def gSub (to ti:TE) (t:TSet):TG:=fun v σ H Q=>to σ H fun o H1=>ti σ H1 fun i H2=>t o i v H2 fun H3=>Q σ H3
theorem pg_sub {o i:Expr} {to ti:TE} {t:TSet} (ho:PE X o to) (hi:PE X i ti) (hs:PSet X t)
  (ha:∀ v,assign (.Subscript o i pos) X.env v=(do
   let ov <- holding [v] (eval o X.env)
   let iv <- holding [v,ov] (eval i X.env)
   standAt pos
   holding [v,ov,iv] (setItem ov iv v)
   release [v,ov,iv] []):=by intro _;rfl):PG X (.Subscript o i pos) (gSub to ti t):=by
 intro pins s σ H v u Q I r h
 rw [ha]
 refine wpAny_bind (wpAny_holding (thn (ho pins s σ H _ I h) fun ov s1 ⟨x,H1,I1,r1,q1⟩=>?_))
 refine wpAny_bind (wpAny_holding (thn (hi pins s1 σ H1 _ I1 q1) fun iv s2 ⟨y,H2,I2,r2,q2⟩=>?_))
 refine wpAny_bind (wpAny_standAt (wpAny_bind (wpAny_holding (thn (hs pins s2 σ H2 x y v ov iv u _ I2 r1 r2 r q2) fun _ s3 ⟨H3,I3,q3⟩=>?_))))
 exact wpAny_release ⟨σ,H3,I3,q3⟩
def tAsg (te:TE) (g:TG):TS:=fun D σ H=>te σ H fun x H1=>g x σ H1 D.nx
theorem ps_asg {tg e:Expr} {te:TE} {g:TG} (he:PE X e te) (hg:PG X tg g) (hs:swapsWithSole [tg] e pos.line X.env=pure false:=by rfl) (hw:swappedStores [tg] e X.env=pure none:=by rfl)
  (h1:(assignEach [tg] X.env).map (·.2)=[assign tg X.env]:=by rfl):PS X (.Assign [tg] e pos) (tAsg te g):=by
 intro pins s σ H D I h
 refine wpAny_Assign_stores (thn (he pins s σ H _ I h) fun v s1 ⟨x,H1,I1,r1,q1⟩=>?_) hs hw
 rw [h1]
 exact thn (hg pins s1 σ H1 x v _ I1 r1 q1) fun _ s2 q=>q
theorem ps_set {i:Nat} {x:Str} {e:Expr} {te:TE} {pos':Pos} (hN:X.N.Nodup) (hi:X.N[i]?=some x) (hx:Loc X.env.scope x) (he:PE X e te) (hs:swapsWith e (some (.Name x pos')) pos.line X.env=pure false:=by rfl) (hf:X.fn x=true∨X.env.scope.names.lookup x=some .local:=by first | exact .inl rfl | exact .inr rfl | assumption) :
  PS X (.Assign [.Name x pos'] e pos) (tAsg te (gName i)):=by
 intro pins s σ H D I h
 refine wpAny_Assign_Name (thn (he pins s σ H _ I h) fun v s1 ⟨y,H1,I1,r1,q1⟩=>?_) hs
 exact store_ok I1 hN hi hx r1 (fun s2 I2=>⟨_,H1,I2,q1⟩) hf
end
section
variable {X:Cx} {pos:Pos}
end
structure It where
 go:Nat->Hp->Prop
 yld:Nat->Hp->V->Hp->Prop
 stop:Nat->Hp->Prop
def FpOk (X:Cx) (pins:List (Addr×Obj)) (H:Hp) (b:Addr):Prop :=
 H b=none/\b≠X.env.locals/\b∉X.fs/\(b∈X.ex∨X.s₀.heap.objs.size<=b)/\(∀ x c,X.env.cells.lookup x=some c->c≠b)/\∀ p∈X.pn++pins,p.1≠b
theorem Inv.fpOk {X:Cx} {pins:List (Addr×Obj)} {σ:St} {H H':Hp} {s:Shared} {b:Addr} (I:Inv X pins σ H s) (hb:s.heap.objs.size<=b) (hn:H' b=none):FpOk X pins H' b:=by
 refine ⟨hn,Nat.ne_of_gt (Nat.lt_of_lt_of_le I.lt hb),I.nofs hb,.inr (Nat.le_trans I.sz hb),fun x c e z=>?_,fun p hp z=>?_⟩
 ·obtain ⟨v,q⟩:=I.cell x c e
  exact absurd (Nat.lt_of_lt_of_le q.lt (by rw [z];exact hb)) (Nat.lt_irrefl _)
 ·exact absurd (Nat.lt_of_lt_of_le (Heap.lt_size (I.pin p hp).1) (by rw [z];exact hb)) (Nat.lt_irrefl _)
structure Turn (P:Program) (w:World) (K:PySem.W.Frag) (tg:Expr) (J:It) (fp:List Addr) (it:Addr) (tn:Nat->Heap->Prop):Prop where
 mem:it∈fp
 obj:∀ i h,tn i h->∀ b∈fp,∃ o,h.get? b=some o/\∀ v,o.data≠.cell v
 keep:∀ i h h',tn i h->(∀ b∈fp,∀ o,h.get? b=some o->h'.get? b=some o)->tn i h'
 item:∀ (X:Cx),X.prog=P->X.w=w->X.K=K->X.calm=true->∀ (i:Nat) (pins:List (Addr×Obj)) (s:Shared) (σ:St) (H:Hp) (E:Value->Shared->Prop),Inv X pins σ H s->(∀ b∈fp,FpOk X pins H b)->tn i s.heap->J.go i H ->
  wpAny (model P w) X.A (pyNext (.ref it)) (fun r s1=>∃ u,r=some u /\
   wpAny (model P w) X.A (letOwnedTupleGo tg (.ref it) u) (fun _ s2=>∃ x H',Inv X pins σ H' s2/\RelV x u/\J.yld i H x H'/\tn (i+1) s2.heap/\∀ b∈fp,H' b=none) E s1) E s
 done:∀ (X:Cx),X.prog=P->X.w=w->X.K=K->X.calm=true->∀ (i:Nat) (pins:List (Addr×Obj)) (s:Shared) (σ:St) (H:Hp) (E:Value->Shared->Prop),Inv X pins σ H s->(∀ b∈fp,FpOk X pins H b)->tn i s.heap->J.stop i H ->
  wpAny (model P w) X.A (pyNext (.ref it)) (fun r s1=>r=none/\Inv X pins σ H s1) E s
 self:∀ (A:Around) (i:Nat) (s:Shared) (Q:Value->Shared->Prop) (E:Value->Shared->Prop),tn i s.heap->Q (.ref it) s->wpAny (model P w) A (pyIter (.ref it)) Q E s
abbrev TI:=St->Hp->(It->Hp->Prop)->Prop
def PIE (X:Cx) (pins:List (Addr×Obj)) (σ:St) (tg:Expr) (R:It->Hp->Prop) (itv:Value) (s2:Shared):Prop :=
 ∃ (it:Addr) (fp:List Addr) (tn:Nat->Heap->Prop) (J:It) (H':Hp),itv=.ref it/\Inv X pins σ H' s2/\Turn X.prog X.w X.K tg J fp it tn/\tn 0 s2.heap/\(∀ b∈fp,FpOk X pins H' b)/\R J H'
def PI (X:Cx) (tg iter:Expr) (wi:TI):Prop :=
 ∀ (pins:List (Addr×Obj)) (s:Shared) (σ:St) (H:Hp) (R:It->Hp->Prop),Inv X pins σ H s->wi σ H R ->
  wpAny (model X.prog X.w) X.A (eval iter X.env) (fun v s1=>wpAny (model X.prog X.w) X.A (pyIter v) (PIE X pins σ tg R) X.xe s1) X.xe s
theorem go_of {M:Model} {A:Around} {E:Value->Shared->Prop} {s:Shared} {tg:Expr} {it:Addr} {u:Value} {o:Obj} {n:String} {vs:Array Value} {Q:Unit->Shared->Prop} (ho:s.heap.get? it=some o) (hc:o.cls=.type n) (hd:o.data=.fields vs)
    (hn:["enumerate","zip","dict_itemiterator","dict_reverseitemiterator","odict_iterator","itertools.zip_longest","itertools.pairwise"].contains n=false) (hQ:Q () s):wpAny M A (letOwnedTupleGo tg (.ref it) u) Q E s:=by
  unfold letOwnedTupleGo
  cases tg <;> first
    | exact wpAny_pure hQ
    | (cases u <;> first
        | exact wpAny_pure hQ
        | (refine wpAny_bind (wpAny_load ho ?_)
           rw [hc,hd]
           show wpAny M A (if (["enumerate","zip","dict_itemiterator","dict_reverseitemiterator","odict_iterator","itertools.zip_longest","itertools.pairwise"].contains n && vs[0]? == some (rawInt _))=true then _ else _) Q E s
           rw [if_neg (by intro h;rw [hn,Bool.false_and] at h;cases h)]
           exact wpAny_pure hQ))
def Itl (K:PySem.W.Frag) (a:Addr):It :=
 ⟨fun i H=>∃ xs x,SqL K H a xs/\xs[i]?=some x,fun i H x H'=>H'=H/\∀ xs,SqL K H a xs->xs[i]?=some x,fun i H=>∃ xs,SqL K H a xs/\xs.length<=i⟩
def Itt (K:PySem.W.Frag) (a:Addr):It :=
 ⟨fun i H=>∃ xs x,SqT K H a xs/\xs[i]?=some x,fun i H x H'=>H'=H/\∀ xs,SqT K H a xs->xs[i]?=some x,fun i H=>∃ xs,SqT K H a xs/\xs.length<=i⟩
def Itr (lo:Int) (n:Nat):It:=⟨fun i _=>i < n,fun i H x H'=>H'=H/\x=.int (lo+i),fun i _=>n<=i⟩
theorem turn_list {P:Program} {w:World} {K:PySem.W.Frag} {tg:Expr} (a it:Addr):Turn P w K tg (Itl K a) [it] it (fun i h=>h.IsListIter it a i) where
 mem:=by simp
 obj:=fun i h st b hb=>by
  have e:b=it:=by simpa using hb
  subst e
  obtain ⟨o,e,c,d⟩:=st
  exact ⟨o,e,fun v z=>by rw [d] at z;cases z⟩
 keep:=fun i h h' st k=>st.at fun o e=>k it (by simp) o e
 item:=by
  intro X hP hw hK hc i pins s σ H E I hf st hg
  subst hP hw hK
  obtain ⟨xs,x,hq,hx⟩:=hg
  obtain ⟨its,rv,p,hz⟩:=I.list hq
  obtain ⟨u,hu,ru⟩:=rv.get hx
  obtain ⟨f0,f1,f2,f3,f4,f5⟩:=hf it (by simp)
  refine wpAny_pyNext_list_item st p.isList (x:=u) (by simpa using hu) fun h' st' sb=>?_
  have I1:Inv X pins σ H { s with heap:=h' }:=I.turned (t':=s.toks) (fun b o hb e=>(sb.2 b hb).trans e) f0 f1 f3 f4 f5
  obtain ⟨o,e,c,d⟩:=id st'
  exact ⟨u,rfl,go_of (s:={ s with heap:=h' }) e c d (by decide) ⟨x,H,I1,ru,⟨rfl,fun ys hy=>by rw [I.list_inj hy hq];exact hx⟩,st',fun b hb=>(hf b hb).1⟩⟩
 done:=by
  intro X hP hw hK hc i pins s σ H E I hf st hg
  subst hP hw hK
  obtain ⟨xs,hq,hx⟩:=hg
  obtain ⟨its,rv,p,hz⟩:=I.list hq
  obtain ⟨f0,f1,f2,f3,f4,f5⟩:=hf it (by simp)
  have hl:=rv.length
  exact wpAny_pyNext_list_end (I.ok.hd hc) st p.isList (by simp;omega) fun h' eb=>⟨rfl,I.turned (t':=s.toks) (fun b o hb e=>eb b o hb e) f0 f1 f3 f4 f5⟩
 self:=fun _ _ _ _ _ st h=>wpAny_pyIter_listiter st h
theorem turn_tuple {P:Program} {w:World} {K:PySem.W.Frag} {tg:Expr} (a it:Addr):Turn P w K tg (Itt K a) [it] it (fun i h=>h.IsTupleIter it a i) where
 mem:=by simp
 obj:=fun i h st b hb=>by
  have e:b=it:=by simpa using hb
  subst e
  obtain ⟨o,e,c,d⟩:=st
  exact ⟨o,e,fun v z=>by rw [d] at z;cases z⟩
 keep:=fun i h h' st k=>st.at fun o e=>k it (by simp) o e
 item:=by
  intro X hP hw hK hc i pins s σ H E I hf st hg
  subst hP hw hK
  obtain ⟨xs,x,hq,hx⟩:=hg
  obtain ⟨its,rv,p,hz⟩:=I.tuple hq
  obtain ⟨u,hu,ru⟩:=rv.get hx
  obtain ⟨f0,f1,f2,f3,f4,f5⟩:=hf it (by simp)
  refine wpAny_pyNext_tuple_item st (show s.heap.IsTuple a its.toArray from p) (x:=u) (by simpa using hu) fun h' st' sb=>?_
  have I1:Inv X pins σ H { s with heap:=h' }:=I.turned (t':=s.toks) (fun b o hb e=>(sb.2 b hb).trans e) f0 f1 f3 f4 f5
  obtain ⟨o,e,c,d⟩:=id st'
  exact ⟨u,rfl,go_of (s:={ s with heap:=h' }) e c d (by decide) ⟨x,H,I1,ru,⟨rfl,fun ys hy=>by rw [I.tuple_inj hy hq];exact hx⟩,st',fun b hb=>(hf b hb).1⟩⟩
 done:=by
  intro X hP hw hK hc i pins s σ H E I hf st hg
  subst hP hw hK
  obtain ⟨xs,hq,hx⟩:=hg
  obtain ⟨its,rv,p,hz⟩:=I.tuple hq
  obtain ⟨f0,f1,f2,f3,f4,f5⟩:=hf it (by simp)
  have hl:=rv.length
  exact wpAny_pyNext_tuple_end (I.ok.hd hc) st (show s.heap.IsTuple a its.toArray from p) (by simp;omega) fun h' eb=>⟨rfl,I.turned (t':=s.toks) (fun b o hb e=>eb b o hb e) f0 f1 f3 f4 f5⟩
 self:=fun _ _ _ _ _ st h=>wpAny_pyIter_tupleiter st h
theorem turn_range {P:Program} {w:World} {K:PySem.W.Frag} {tg:Expr} (it:Addr) (lo:Int) (n:Nat):Turn P w K tg (Itr lo n) [it] it (fun i h=>IsRangeIter h it (lo+(i:Nat) * 1) ((n:Int) - (i:Nat)) 1) where
 mem:=by simp
 obj:=fun i h st b hb=>by
  have e:b=it:=by simpa using hb
  subst e
  exact ⟨_,st,fun v z=>by
   have z':Data.fields _=Data.cell v:=z
   cases z'⟩
 keep:=fun i h h' st k=>k it (by simp) _ st
 item:=by
  intro X hP hw hK hc i pins s σ H E I hf st hg
  subst hP hw hK
  obtain ⟨f0,f1,f2,f3,f4,f5⟩:=hf it (by simp)
  have W:=Walks.range (prog:=X.prog) (w:=X.w) (I.ok.hd hc) it lo 1 n
  refine W.item i s _ _ hg st fun v h' tk hv st' kk=>?_
  obtain ⟨t,rfl⟩:=hv
  have I1:Inv X pins σ H { s with heap:=h',toks:=tk }:=I.turned (fun b o hb e=>kk b o (by simpa using hb) e) f0 f1 f3 f4 f5
  refine ⟨_,rfl,go_of (s:={ s with heap:=h',toks:=tk }) (n:="range_iterator") st' rfl rfl (by decide) ⟨.int (lo+i),H,I1,⟨t,?_⟩,⟨rfl,rfl⟩,st',fun b hb=>(hf b hb).1⟩⟩
  rw [Int.mul_one]
 done:=by
  intro X hP hw hK hc i pins s σ H E I hf st hg
  subst hP hw hK
  obtain ⟨f0,f1,f2,f3,f4,f5⟩:=hf it (by simp)
  exact wpAny_pyNext_range_end (I.ok.hd hc) st (by have:n<=i:=hg;omega) fun h' eb=>⟨rfl,I.turned (t':=s.toks) (fun b o hb e=>eb b o hb e) f0 f1 f3 f4 f5⟩
 self:=fun _ _ _ _ _ st h=>wpAny_pyIter_rangeiter st h
end L2
namespace L2
open PySem PySem.Spec PyProof.Rows
section
variable {X:Cx} {tg:Expr}
theorem range_it {pins:List (Addr×Obj)} {σ:St} {H:Hp} {s:Shared} {R:It->Hp->Prop} {E:Value->Shared->Prop} {lo hi:Int} {t u v:Tok} {tk:Nat} (I:Inv X pins σ H s) (h1:-(2 ^ 62)<=lo) (h2:lo < 2 ^ 62) (h3:-(2 ^ 62)<=hi) (h4:hi < 2 ^ 62)
  (q:R (Itr lo (hi - lo).toNat) H):wpAny (model X.prog X.w) X.A (pyIter (.ref s.heap.objs.size)) (PIE X pins σ tg R) E { s with heap:=s.heap.push { cls:=.type "range",data:=.fields #[.int lo t,.int hi u,.int 1 v] },toks:=tk }:=by
 refine wpAny_pyIter_range (IsRange.new ..) (small_one h1 h2 h3 h4) ?_
 have I1:Inv X pins σ H { s with heap:=s.heap.push { cls:=.type "range",data:=.fields #[.int lo t,.int hi u,.int 1 v] },toks:=tk }:=I.kept fun b o e=>Heap.get?_push_of_some _ e
 refine ⟨(s.heap.push { cls:=.type "range",data:=.fields #[.int lo t,.int hi u,.int 1 v] }).objs.size,[(s.heap.push { cls:=.type "range",data:=.fields #[.int lo t,.int hi u,.int 1 v] }).objs.size],_,_,H,rfl,
  I1.kept (t':=tk) fun b o e=>Heap.get?_push_of_some _ e,turn_range _ lo (hi - lo).toNat,?_,fun b hb=>?_,q⟩
 ·have e1:lo+((0:Nat):Int) * 1=lo:=by simp
  have e2:(((hi - lo).toNat:Nat):Int) - ((0:Nat):Int)=Builtin.Range.rangeSize lo hi 1:=by rw [rangeSize_one];split <;> omega
  show IsRangeIter _ _ (lo+((0:Nat):Int) * 1) ((((hi - lo).toNat:Nat):Int) - ((0:Nat):Int)) 1
  rw [e1,e2]
  exact Heap.get?_push_size _ rfl
 ·have e:b=(s.heap.push { cls:=.type "range",data:=.fields #[.int lo t,.int hi u,.int 1 v] }).objs.size:=by simpa using hb
  subst e
  exact I1.fpOk (Nat.le_refl _) (I1.hok.fresh (Nat.le_refl _))
def iRng1 (ta:TA):TI:=fun σ H R=>ta σ H fun vs H1=>∃ j:Int,vs=[.int j]/\-(2 ^ 62)<=j/\j < 2 ^ 62/\R (Itr 0 j.toNat) H1
def iRng2 (ta:TA):TI:=fun σ H R=>ta σ H fun vs H1=>∃ i j:Int,vs=[.int i,.int j]/\(-(2 ^ 62)<=i/\i < 2 ^ 62/\-(2 ^ 62)<=j/\j < 2 ^ 62)/\R (Itr i (j - i).toNat) H1
theorem pi_range1 {a:Expr} {ta:TA} {p pos:Pos} (hg:Gl X "range") (hm:X.mg "range"=none) (ha:PA X [a] ta) (hs:starEach [a] X.env=[(false,eval a X.env)]:=by rfl):PI X tg (.Call (.Name "range" p) [a] [] pos) (iRng1 ta):=by
 intro pins s σ H R I h
 refine Call_ (FF I hg hm boot_range (PyProof.Rows.callWith_type1 (thn (ha pos pins s σ H _ I h) fun us s1 ⟨vs,H1,I1,r1,q1⟩=>?_) hs rfl))
 obtain ⟨j,e,q1,q2,q⟩:=q1
 subst e
 cases r1 with
 | cons r rr =>
  cases rr
  obtain ⟨t,rfl⟩:=r
  exact call_range_1 (range_it I1 (by omega) (by omega) q1 q2 (by simpa using q))
theorem DJ {a b:Expr} {ta:TA} {p pos:Pos} (hg:Gl X "range") (hm:X.mg "range"=none) (ha:PA X [a,b] ta) (hs:starEach [a,b] X.env=[(false,eval a X.env),(false,eval b X.env)]:=by rfl) (hs2:starEach [b] X.env=[(false,eval b X.env)]:=by rfl) :
  PI X tg (.Call (.Name "range" p) [a,b] [] pos) (iRng2 ta):=by
 intro pins s σ H R I h
 refine Call_ (FF I hg hm boot_range (PyProof.Rows.callWith_type1 (thn (ha pos pins s σ H _ I h) fun us s1 ⟨vs,H1,I1,r1,q1⟩=>?_) (by rw [hs,hs2]) (by rw [hs2];rfl)))
 obtain ⟨i,j,e,⟨q1,q2,q3,q4⟩,q⟩:=q1
 subst e
 cases r1 with
 | cons r rr =>
  cases rr with
  | cons r' rr =>
   cases rr
   obtain ⟨t,rfl⟩:=r
   obtain ⟨t',rfl⟩:=r'
   exact call_range_2 (range_it I1 q1 q2 q3 q4 q)
def tFor (wi:TI) (g:TG) (tb:TS):TS:=fun D σ H=>wi σ H fun J H1=>∃ W:Nat->Nat->St->Hp->Prop,(∃ m,W 0 m σ H1)/\∀ i m σ H,W i m σ H ->
 (J.stop i H/\D.nx σ H)∨(J.go i H/\∃ N:St->Hp->Prop,(∀ σ' H',N σ' H'->∃ m',m' < m/\W (i+1) m' σ' H')/\∀ x H',J.yld i H x H'->g x σ H' fun σ2 H2=>tb { D with nx:=N,ct:=N,bk:=D.nx } σ2 H2)
def pinsAt (fp:List Addr) (h:Heap):List (Addr×Obj):=fp.filterMap fun b=>(h.get? b).map fun o=>(b,o)
theorem Fb {fp:List Addr} {h:Heap} {b:Addr} {o:Obj} (hb:b∈fp) (e:h.get? b=some o):(b,o)∈pinsAt fp h:=List.mem_filterMap.mpr ⟨b,hb,by rw [e];rfl⟩
theorem of_pinsAt {fp:List Addr} {h:Heap} {p:Addr×Obj} (hp:p∈pinsAt fp h):p.1∈fp/\h.get? p.1=some p.2:=by
 obtain ⟨b,hb,e⟩:=List.mem_filterMap.mp hp
 cases q:h.get? b with
 | none=>rw [q] at e;cases e
 | some o =>
  rw [q] at e
  have e':(b,o)=p:=Option.some.inj e
  subst e'
  exact ⟨hb,q⟩
theorem Inv.pinned {pins:List (Addr×Obj)} {σ:St} {H:Hp} {s:Shared} {fp:List Addr} (I:Inv X pins σ H s) (hf:∀ b∈fp,FpOk X pins H b) (ho:∀ b∈fp,∃ o,s.heap.get? b=some o/\∀ v,o.data≠.cell v):Inv X (pins++pinsAt fp s.heap) σ H s :=
 I.pins_of fun p hp=>(List.mem_append.mp hp).elim (fun z=>I.pin p (List.mem_append_right _ z)) fun z=>by
  obtain ⟨hb,e⟩:=of_pinsAt z
  obtain ⟨f0,f1,f2,_⟩:=hf p.1 hb
  obtain ⟨o,e',d⟩:=ho p.1 hb
  rw [e] at e';cases e'
  exact ⟨e,f0,f1,f2,d⟩
theorem Inv.GQ {pins pl:List (Addr×Obj)} {σ:St} {H:Hp} {s:Shared} (I:Inv X (pins++pl) σ H s):Inv X pins σ H s:=I.pins_of fun p hp=>I.pin p (List.mem_append_right _ (List.mem_append_left _ hp))
theorem ps_for {iter:Expr} {body:List Stmt} {wi:TI} {g:TG} {tb:TS} {pos:Pos} (hp:PassesOwn (model X.prog X.w) X.A X.env X.xe) (hc:X.calm=true) (hi:PI X tg iter wi) (hg:PG X tg g) (hb:PSs X body tb)
  (hs:∀ x,foldedSetIterable iter X.env x=pure x:=by intro _;rfl):PS X (.For tg iter body [] pos) (tFor wi g tb):=by
 intro pins s σ H D I h
 refine wpAny_For (thn (hi pins s σ H _ I h) fun v s1 h1=>thn h1 fun itv s2 h2=>?_) hs
 obtain ⟨it,fp,tn,J,H2,e,I2,T,st2,f2,W,⟨m0,w0⟩,turn⟩:=h2
 subst e
 have stat:∀ {H':Hp},(∀ b∈fp,H' b=none)->∀ b∈fp,FpOk X pins H' b:=fun hn b hb=>⟨hn b hb,(f2 b hb).2⟩
 refine codeAny_forLoop_any (fun n s'=>∃ i σ' H',Inv X pins σ' H' s'/\tn i s'.heap/\(∀ b∈fp,H' b=none)/\W i n σ' H') ?_ m0 ⟨0,σ,H2,I2,st2,fun b hb=>(f2 b hb).1,w0⟩
 rintro n s3 ⟨i,σ3,H3,I3,st3,fr3,w3⟩
 rcases turn i n σ3 H3 w3 with ⟨stop,qn⟩ | ⟨go,N,hN,step⟩
 ·refine wpAny_passesOwn hp (thn (T.done X rfl rfl rfl hc i pins s3 σ3 H3 X.xe I3 (stat fr3) st3 stop) fun r s4 ⟨hr,I4⟩=>?_)
  subst hr
  exact wpAny_execs_nil ⟨σ3,H3,I4,qn⟩
 ·refine wpAny_passesOwn hp (thn (T.item X rfl rfl rfl hc i pins s3 σ3 H3 X.xe I3 (stat fr3) st3 go) fun r s4 ⟨u,hr,h4⟩=>?_)
  subst hr
  refine wpAny_passesOwn hp (thn h4 fun _ s5 ⟨x,H5,I5,r5,y5,st5,fr5⟩=>?_)
  have I5':=I5.pinned (stat fr5) (T.obj _ _ st5)
  refine wpAny_passesOwn hp (thn (hg _ s5 σ3 H5 x u _ I5' r5 (step x H5 y5)) fun _ s6 ⟨σ6,H6,I6,q6⟩=>?_)
  refine wpAny_passesOwn hp (thn (hb _ s6 σ6 H6 _ I6 q6) fun f s7 q7=>?_)
  have again:∀ {σ7:St} {H7:Hp},Inv X (pins++pinsAt fp s5.heap) σ7 H7 s7->N σ7 H7->∃ m,m < n/\∃ i σ' H',Inv X pins σ' H' s7/\tn i s7.heap/\(∀ b∈fp,H' b=none)/\W i m σ' H':=fun {σ7 H7} I7 n7=>by
   obtain ⟨m',hm,w7⟩:=hN σ7 H7 n7
   refine ⟨m',hm,i+1,σ7,H7,I7.GQ,T.keep _ _ _ st5 fun b hb o e=>(I7.pin (b,o) (List.mem_append_right _ (List.mem_append_right _ (Fb hb e)))).1,fun b hb=>?_,w7⟩
   obtain ⟨o,e,d⟩:=T.obj _ _ st5 b hb
   exact (I7.pin (b,o) (List.mem_append_right _ (List.mem_append_right _ (Fb hb e)))).2.1
  cases f with
  | next=>obtain ⟨σ7,H7,I7,n7⟩:=q7;exact again I7 n7
  | cont=>obtain ⟨σ7,H7,I7,n7⟩:=q7;exact again I7 n7
  | brk=>obtain ⟨σ7,H7,I7,q7⟩:=q7;exact ⟨σ7,H7,I7.GQ,q7⟩
  | ret v=>obtain ⟨x7,σ7,H7,I7,r7,q7⟩:=q7;exact ⟨x7,σ7,H7,I7.GQ,r7,q7⟩
end
end L2
namespace L2
open PySem PySem.Spec PyProof.Rows
abbrev R2:=V->V->Hp->VK->Prop
def OpR (X:Cx) (f:Value->Value->Sem Value) (r:R2):Prop :=
 ∀ (pins:List (Addr×Obj)) (s:Shared) (σ:St) (H:Hp) (x y:V) (v u:Value) (Q:VK),Inv X pins σ H s->RelV x v->RelV y u->r x y H Q ->
  wpAny (model X.prog X.w) X.A (f v u) (EP X pins σ Q) X.xe s
def DO (X:Cx) (f:Value) (r:List V->Hp->VK->Prop):Prop :=
 ∀ (pins:List (Addr×Obj)) (s:Shared) (σ:St) (H:Hp) (xs:List V) (us:List Value) (Q:VK),Inv X pins σ H s->Vals xs us->r xs H Q ->
  wpAny (model X.prog X.w) X.A (call f us) (EP X pins σ Q) X.xe s
def TruR (X:Cx) (r:V->Hp->(Bool->Hp->Prop)->Prop):Prop :=
 ∀ (pins:List (Addr×Obj)) (s:Shared) (σ:St) (H:Hp) (x:V) (v:Value) (Q:Bool->Hp->Prop),Inv X pins σ H s->RelV x v->r x H Q ->
  wpAny (model X.prog X.w) X.A (truthy v) (TP X pins σ Q) X.xe s
def tOp (r:R2) (ta tb:TE):TE:=fun σ H Q=>ta σ H fun x H1=>tb σ H1 fun y H2=>r x y H2 Q
def rI (C:Int->Int->Prop) (g:Int->Int->V):R2:=fun x y H Q=>∃ i j,x=.int i/\y=.int j/\C i j/\Q (g i j) H
def rI0 (g:Int->Int->V):R2:=fun x y H Q=>∃ i j,x=.int i/\y=.int j/\Q (g i j) H
section
variable {X:Cx} {a b c:Expr} {ta tb tc:TE} {pos:Pos}
theorem binT (ha:PE X a ta) (hb:PE X b tb) {pins:List (Addr×Obj)} {s:Shared} {σ:St} {H:Hp} {R:V->V->Hp->Prop} (I:Inv X pins σ H s)
  (h:ta σ H fun x H1=>tb σ H1 fun y H2=>R x y H2) {Q:Value->Shared->Prop} {f:Value->Value->Sem Value}
  (hf:∀ v u s2 x y H2,Inv X pins σ H2 s2->RelV x v->RelV y u->R x y H2->wpAny (model X.prog X.w) X.A (f v u) Q X.xe s2) :
  wpAny (model X.prog X.w) X.A (eval a X.env) (fun v s₁=>wpAny (model X.prog X.w) X.A (eval b X.env) (fun u s₂=>wpAny (model X.prog X.w) X.A (f v u) Q X.xe s₂) X.xe s₁) X.xe s:=by
 refine thn (ha pins s σ H _ I h) fun v s1 ⟨x,H1,I1,r1,q1⟩=>?_
 refine thn (hb pins s1 σ H1 _ I1 q1) fun u s2 ⟨y,H2,I2,r2,q2⟩=>?_
 exact hf v u s2 x y H2 I2 r1 r2 q2
theorem pe_op {op:Operator} {r:R2} (ho:OpR X (binaryOp op) r) (ha:PE X a ta) (hb:PE X b tb):PE X (.BinOp a op b pos) (tOp r ta tb):=by
 intro pins s σ H Q I h
 exact wpAny_BinOp (binT ha hb I h fun v u s2 x y H2 I2 rx ry q=>ho pins s2 σ H2 x y v u Q I2 rx ry q)
theorem opI {f:Value->Value->Sem Value} {C:Int->Int->Prop} {g:Int->Int->Int}
  (rule:∀ (i j:Int) (t u:Tok) (s:Shared) (Q:Value->Shared->Prop) (E:Value->Shared->Prop),C i j->Q (.int (g i j) s.toks) { s with toks:=s.toks+1 }->wpAny (model X.prog X.w) X.A (f (.int i t) (.int j u)) Q E s) :
  OpR X f (rI C fun i j=>.int (g i j)):=by
 intro pins s σ H x y v u Q I rx ry h
 obtain ⟨i,j,rfl,rfl,hc,q⟩:=h
 obtain ⟨t,rfl⟩:=rx
 obtain ⟨t',rfl⟩:=ry
 exact rule i j t t' s _ _ hc ⟨.int (g i j),H,I.tok _,⟨_,rfl⟩,q⟩
theorem opI0 {f:Value->Value->Sem Value} {g:Int->Int->Int}
  (rule:∀ (i j:Int) (t u:Tok) (s:Shared) (Q:Value->Shared->Prop) (E:Value->Shared->Prop),Q (.int (g i j) s.toks) { s with toks:=s.toks+1 }->wpAny (model X.prog X.w) X.A (f (.int i t) (.int j u)) Q E s) :
  OpR X f (rI0 fun i j=>.int (g i j)):=by
 intro pins s σ H x y v u Q I rx ry h
 obtain ⟨i,j,rfl,rfl,q⟩:=h
 obtain ⟨t,rfl⟩:=rx
 obtain ⟨t',rfl⟩:=ry
 exact rule i j t t' s _ _ ⟨.int (g i j),H,I.tok _,⟨_,rfl⟩,q⟩
theorem opB0 {f:Value->Value->Sem Value} {g:Int->Int->Bool}
  (rule:∀ (i j:Int) (t u:Tok) (s:Shared) (Q:Value->Shared->Prop) (E:Value->Shared->Prop),Q (.bool (g i j)) s->wpAny (model X.prog X.w) X.A (f (.int i t) (.int j u)) Q E s) :
  OpR X f (rI0 fun i j=>.bl (g i j)):=by
 intro pins s σ H x y v u Q I rx ry h
 obtain ⟨i,j,rfl,rfl,q⟩:=h
 obtain ⟨t,rfl⟩:=rx
 obtain ⟨t',rfl⟩:=ry
 exact rule i j t t' s _ _ ⟨.bl (g i j),H,I,rfl,q⟩
def CDiv (i j:Int):Prop:=0 < j/\j < 1073741824
def CPow (i j:Int):Prop:=0<=j/\j<=1000000/\i.natAbs < 2 ^ 64
def CMul (i j:Int):Prop:=(-(2 ^ 64) < i/\i < 2 ^ 64)∨(-(2 ^ 64) < j/\j < 2 ^ 64)
theorem CMul.ok {i j:Int} (h:CMul i j):IntMulOk i j:=by
 rcases h with ⟨h1,h2⟩ | ⟨h1,h2⟩
 ·exact .of_left (intBits_le_64 h1 h2)
 ·exact .of_right (intBits_le_64 h1 h2)
theorem op_add:OpR X (binaryOp .Add) (rI0 fun i j=>.int (i+j)):=opI0 fun _ _ _ _ _ _ _ q=>add_int q
theorem op_sub:OpR X (binaryOp .Sub) (rI0 fun i j=>.int (i - j)):=opI0 fun _ _ _ _ _ _ _ q=>sub_int q
theorem op_fdiv:OpR X (binaryOp .FloorDiv) (rI CDiv fun i j=>.int (i / j)):=opI fun i j _ _ _ _ _ hc q=>by
 have h1:(0:Int) < j:=hc.1
 have h2:j < 1073741824:=hc.2
 exact floordiv_int (by omega) (by rw [Int.fdiv_eq_ediv_of_nonneg i (by omega)];exact q) (.inl (PyProof.noPylong_small (by omega)))
theorem op_mod:OpR X (binaryOp .Mod) (rI (fun _ j=>0 < j) fun i j=>.int (i % j)):=opI fun i j _ _ _ _ _ hc q=>by
 have h1:(0:Int) < j:=hc
 exact mod_int' (by omega) (by rw [Int.fmod_eq_emod_of_nonneg i (by omega)];exact q)
theorem op_pow:OpR X (binaryOp .Pow) (rI CPow fun i j=>.int (i ^ j.toNat)):=opI fun _ _ _ _ _ _ _ hc q=>pow_int_small hc.1 hc.2.1 hc.2.2 q
end
def scal:V->V->Bool
 | .non,.non=>true | .non,.int _=>true | .int _,.non=>true | .non,.bl _=>true | .bl _,.non=>true | .non,.str _=>true | .str _,.non=>true
 | .int _,.int _=>true | .bl _,.bl _=>true | .str _,.str _=>true | .byt _,.byt _=>true
 | .int _,.str _=>true | .str _,.int _=>true | .bl _,.str _=>true | .str _,.bl _=>true
 | _,_=>false
def rEq:R2:=fun x y H Q=>scal x y=true/\Q (.bl (decide (x=y))) H
def rNe:R2:=fun x y H Q=>scal x y=true/\Q (.bl (!decide (x=y))) H
theorem dec_int {i j:Int}:decide (V.int i=V.int j)=(i == j):=by
 rw [Bool.eq_iff_iff]
 simp
theorem dec_bl {i j:Bool}:decide (V.bl i=V.bl j)=(i == j):=by
 rw [Bool.eq_iff_iff]
 simp
theorem dec_str {i j:Str}:decide (V.str i=V.str j)=(i == j):=by
 rw [Bool.eq_iff_iff]
 simp
theorem dec_byt {i j:Array UInt8}:decide (V.byt i=V.byt j)=(i.toList == j.toList):=by
 rw [Bool.eq_iff_iff]
 cases i
 cases j
 simp
section
variable {X:Cx} {a b c:Expr} {ta tb tc:TE} {pos:Pos}
theorem Bu {pins:List (Addr×Obj)} {σ:St} {H:Hp} {s:Shared} {Q:VK} {k k':Bool} (I:Inv X pins σ H s) (q:Q (.bl k) H) (e:k=k'):EP X pins σ Q (.bool k') s:=by
 subst e
 exact ⟨.bl k,H,I,rfl,q⟩
theorem op_eq:OpR X (compareOp .Eq) rEq:=by
 intro pins s σ H x y v u Q I rx ry h
 obtain ⟨hs,q⟩:=h
 cases x with
 | non =>
  cases rx
  cases y with
  | non=>cases ry;exact PySem.EqNone.eq_none_none (Bu I q (by simp))
  | bl j=>cases ry;exact PySem.EqNone.eq_none_bool (Bu I q (by simp))
  | int j=>obtain ⟨t',rfl⟩:=ry;exact PySem.EqNone.eq_none_int (Bu I q (by simp))
  | str j=>obtain ⟨t',rfl⟩:=ry;exact PySem.EqNone.eq_none_str (Bu I q (by simp))
  | _=>exact absurd (show false=true from hs) Bool.false_ne_true
 | bl i =>
  cases rx
  cases y with
  | non=>cases ry;exact PySem.EqNone.eq_bool_none (Bu I q (by simp))
  | bl j=>cases ry;exact eq_bool (Bu I q dec_bl)
  | str j=>obtain ⟨t',rfl⟩:=ry;exact PySem.EqMixed.eq_bool_str (Bu I q (by simp))
  | _=>exact absurd (show false=true from hs) Bool.false_ne_true
 | int i =>
  obtain ⟨t,rfl⟩:=rx
  cases y with
  | non=>cases ry;exact PySem.EqNone.eq_int_none (Bu I q (by simp))
  | int j=>obtain ⟨t',rfl⟩:=ry;exact eq_int (Bu I q dec_int)
  | str j=>obtain ⟨t',rfl⟩:=ry;exact PySem.EqMixed.eq_int_str (Bu I q (by simp))
  | _=>exact absurd (show false=true from hs) Bool.false_ne_true
 | str i =>
  obtain ⟨t,rfl⟩:=rx
  cases y with
  | non=>cases ry;exact PySem.EqNone.eq_str_none (Bu I q (by simp))
  | bl j=>cases ry;exact PySem.EqMixed.eq_str_bool (Bu I q (by simp))
  | int j=>obtain ⟨t',rfl⟩:=ry;exact PySem.EqMixed.eq_str_int (Bu I q (by simp))
  | str j=>obtain ⟨t',rfl⟩:=ry;exact eq_str (Bu I q dec_str)
  | _=>exact absurd (show false=true from hs) Bool.false_ne_true
 | byt i =>
  obtain ⟨t,rfl⟩:=rx
  cases y with
  | byt j=>obtain ⟨t',rfl⟩:=ry;exact PySem.W.eq_bytes (Bu I q dec_byt)
  | _=>exact absurd (show false=true from hs) Bool.false_ne_true
 | _=>cases y <;> exact absurd (show false=true from hs) Bool.false_ne_true
theorem op_ne:OpR X (compareOp .NotEq) rNe:=by
 intro pins s σ H x y v u Q I rx ry h
 obtain ⟨hs,q⟩:=h
 cases x with
 | non =>
  cases rx
  cases y with
  | non=>cases ry;exact PySem.EqNone.ne_none_none (Bu I q (by simp))
  | bl j=>cases ry;exact PySem.EqNone.ne_none_bool (Bu I q (by simp))
  | int j=>obtain ⟨t',rfl⟩:=ry;exact PySem.EqNone.ne_none_int (Bu I q (by simp))
  | str j=>obtain ⟨t',rfl⟩:=ry;exact PySem.EqNone.ne_none_str (Bu I q (by simp))
  | _=>exact absurd (show false=true from hs) Bool.false_ne_true
 | bl i =>
  cases rx
  cases y with
  | non=>cases ry;exact PySem.EqNone.ne_bool_none (Bu I q (by simp))
  | bl j=>cases ry;exact ne_bool (Bu I q (congrArg not dec_bl))
  | str j=>obtain ⟨t',rfl⟩:=ry;exact PySem.EqMixed.ne_bool_str (Bu I q (by simp))
  | _=>exact absurd (show false=true from hs) Bool.false_ne_true
 | int i =>
  obtain ⟨t,rfl⟩:=rx
  cases y with
  | non=>cases ry;exact PySem.EqNone.ne_int_none (Bu I q (by simp))
  | int j=>obtain ⟨t',rfl⟩:=ry;exact ne_int (Bu I q (congrArg not dec_int))
  | str j=>obtain ⟨t',rfl⟩:=ry;exact PySem.EqMixed.ne_int_str (Bu I q (by simp))
  | _=>exact absurd (show false=true from hs) Bool.false_ne_true
 | str i =>
  obtain ⟨t,rfl⟩:=rx
  cases y with
  | non=>cases ry;exact PySem.EqNone.ne_str_none (Bu I q (by simp))
  | bl j=>cases ry;exact PySem.EqMixed.ne_str_bool (Bu I q (by simp))
  | int j=>obtain ⟨t',rfl⟩:=ry;exact PySem.EqMixed.ne_str_int (Bu I q (by simp))
  | str j=>obtain ⟨t',rfl⟩:=ry;exact ne_str (Bu I q (congrArg not dec_str))
  | _=>exact absurd (show false=true from hs) Bool.false_ne_true
 | byt i =>
  obtain ⟨t,rfl⟩:=rx
  cases y with
  | byt j=>obtain ⟨t',rfl⟩:=ry;exact PySem.W.ne_bytes (Bu I q (congrArg not dec_byt))
  | _=>exact absurd (show false=true from hs) Bool.false_ne_true
 | _=>cases y <;> exact absurd (show false=true from hs) Bool.false_ne_true
theorem op_lt:OpR X (compareOp .Lt) (rI0 fun i j=>.bl (decide (i < j))):=opB0 fun _ _ _ _ _ _ _ q=>lt_int q
theorem op_le:OpR X (compareOp .LtE) (rI0 fun i j=>.bl (decide (i<=j))):=opB0 fun _ _ _ _ _ _ _ q=>le_int q
theorem op_gt:OpR X (compareOp .Gt) (rI0 fun i j=>.bl (decide (j < i))):=opB0 fun _ _ _ _ _ _ _ q=>gt_int q
theorem op_ge:OpR X (compareOp .GtE) (rI0 fun i j=>.bl (decide (j<=i))):=opB0 fun _ _ _ _ _ _ _ q=>ge_int q
theorem op_in_str:OpR X (compareOp .In) (fun x y H Q=>∃ i j,x=.str i/\y=.str j/\Q (.bl (!(Builtin.Str.occurrences j i 0 j.length 1).isEmpty)) H):=by
 intro pins s σ H x y v u Q I rx ry h
 obtain ⟨i,j,rfl,rfl,q⟩:=h
 obtain ⟨t,rfl⟩:=rx
 obtain ⟨t',rfl⟩:=ry
 exact in_str (Bu I q rfl)
theorem nomark (b:Expr) {op:CmpOp} (h:op≠.In:=by decide) (h2:op≠.NotIn:=by decide):behindInMarks op b=false:=by
 have e1:(op == CmpOp.In)=false:=by cases op <;> first | rfl | exact absurd rfl h
 have e2:(op == CmpOp.NotIn)=false:=by cases op <;> first | rfl | exact absurd rfl h2
 cases b <;> simp [behindInMarks,e1,e2]
theorem pe_cmpR {op:CmpOp} {r:R2} (ho:OpR X (compareOp op) r) (ha:PE X a ta) (hb:PE X b tb) (hm:behindInMarks op b=false):PE X (.Compare a [op] [b] pos) (tOp r ta tb):=by
 intro pins s σ H Q I h
 exact wpAny_Compare1 (binT ha hb I h fun v u s2 x y H2 I2 rx ry q=>ho pins s2 σ H2 x y v u Q I2 rx ry q) hm
def tTest (t:TE):TT:=fun σ H Q=>t σ H fun x H'=>∃ k,x=.bl k/\Q k H'
theorem pt_cmpR {op:CmpOp} {r:R2} (ho:OpR X (compareOp op) r) (ha:PE X a ta) (hb:PE X b tb) (hm:behindInMarks op b=false):PT X (.Compare a [op] [b] pos) (tTest (tOp r ta tb)):=by
 intro pins s σ H Q I h
 refine wpAny_isTrue_Compare1 (thn (ha pins s σ H _ I h) fun v s1 ⟨x,H1,I1,r1,q1⟩=>thn (hb pins s1 σ H1 _ I1 q1) fun u s2 ⟨y,H2,I2,r2,q2⟩ =>
  thn (ho pins s2 σ H2 x y v u _ I2 r1 r2 q2) fun c s3 ⟨z,H3,I3,r3,k,e,q3⟩=>?_) hm
 subst e
 cases r3
 exact wpAny_truthy_bool ⟨H3,I3,q3⟩
def tChain (r r':R2) (ta tb tc:TE):TE:=fun σ H Q=>ta σ H fun x H1=>tb σ H1 fun y H2=>r x y H2 fun z H3=>∃ k,z=.bl k /\
 (if k=true then tc σ H3 fun w' H4=>r' y w' H4 Q else Q (.bl false) H3)
theorem pt_chain {op op':CmpOp} {r r':R2} (ho:OpR X (compareOp op) r) (ho':OpR X (compareOp op') r') (ha:PE X a ta) (hb:PE X b tb) (hc:PE X c tc)
  (hm:lastMarks [op,op'] [b,c]=false:=by with_unfolding_all rfl):PT X (.Compare a [op,op'] [b,c] pos) (tTest (tChain r r' ta tb tc)):=by
 intro pins s σ H Q I h
 refine isTrue_chain (thn (ha pins s σ H _ I h) fun v s1 ⟨x,H1,I1,r1,q1⟩=>test_link (thn (hb pins s1 σ H1 _ I1 q1) fun u s2 ⟨y,H2,I2,r2,q2⟩ =>
  thn (ho pins s2 σ H2 x y v u _ I2 r1 r2 q2) fun d s3 ⟨z,H3,I3,r3,k,e,q3⟩=>?_)) hm
 subst e
 cases r3
 refine wpAny_truthy_bool ?_
 cases k with
 | false =>
  obtain ⟨k',e',q'⟩:=q3
  cases e'
  exact ite_ff ⟨H3,I3,q'⟩
 | true =>
  refine ite_tt (test_last (thn (hc pins s3 σ H3 _ I3 q3) fun w' s4 ⟨z',H4,I4,r4,q4⟩=>thn (ho' pins s4 σ H4 y z' u w' _ I4 r2 r4 q4) fun d' s5 ⟨z2,H5,I5,r5,k2,e2,q5⟩=>?_))
  subst e2
  cases r5
  exact wpAny_truthy_bool ⟨H5,I5,q5⟩
def TruV (K:PySem.W.Frag) (x:V) (H:Hp) (k:Bool):Prop :=
 match x with
 | .non=>k=false
 | .bl b=>k=b
 | .int i=>k=(i != 0)
 | .str y=>y.length<=sizeLine/\k=((y.length:Int) != 0)
 | .byt y=>y.size<=sizeLine/\k=((y.size:Int) != 0)
 | .ref p=>(∃ xs,SqL K H p xs/\k=!xs.isEmpty)∨(∃ xs,SqT K H p xs/\k=!xs.isEmpty)∨∃ kvs,H p=some (.dK kvs)/\k=!kvs.isEmpty
 | _=>False
theorem isEmpty_kv {κ:Type} {kvs:List (κ×V)} {vs:List (κ×Value)} (r:KV kvs vs):(!vs.isEmpty)=!kvs.isEmpty:=by
 cases r <;> rfl
theorem isEmpty_of {xs:List V} {its:List Value} (r:Vals xs its):(!its.toArray.isEmpty)=!xs.isEmpty:=by
 cases r <;> simp
theorem Ht:(sizeLine:Nat) < 2 ^ 63:=by rw [sizeLine_eq];decide
theorem tru_ok:TruR X (fun x H Q=>∃ k,TruV X.K x H k/\Q k H):=by
 intro pins s σ H x v Q I rx h
 obtain ⟨k,e,q⟩:=h
 have hl:=Ht
 have hs:sizeLine=16777216:=sizeLine_eq
 cases x with
 | non =>
  cases rx
  have e':k=false:=e
  subst e'
  exact truthy_none ⟨H,I,q⟩
 | bl b =>
  cases rx
  have e':k=b:=e
  subst e'
  exact wpAny_truthy_bool ⟨H,I,q⟩
 | int i =>
  obtain ⟨t,rfl⟩:=rx
  have e':k=(i != 0):=e
  subst e'
  exact PySem.P.truthy_int ⟨H,I,q⟩
 | str y =>
  obtain ⟨t,rfl⟩:=rx
  obtain ⟨hy,e'⟩:y.length<=sizeLine/\k=((y.length:Int) != 0):=e
  subst e'
  exact PySem.P.truthy_str (by omega) ⟨H,I.tok _,q⟩
 | byt y =>
  obtain ⟨t,rfl⟩:=rx
  obtain ⟨hy,e'⟩:y.size<=sizeLine/\k=((y.size:Int) != 0):=e
  subst e'
  exact PySem.W.truthy_bytes (by omega) ⟨H,I.tok _,q⟩
 | ref p =>
  cases rx
  have e':(∃ xs,SqL X.K H p xs/\k=!xs.isEmpty)∨(∃ xs,SqT X.K H p xs/\k=!xs.isEmpty)∨∃ kvs,H p=some (.dK kvs)/\k=!kvs.isEmpty:=e
  rcases e' with ⟨xs,hx,e'⟩ | ⟨xs,hx,e'⟩ | ⟨kvs,hx,e'⟩
  ·subst e'
   obtain ⟨its,r,pl,hz⟩:=I.list hx
   have hlen:=r.length
   exact wpAny_truthy_list pl.isList (by simp only [List.size_toArray];omega) ⟨H,I.tok _,by rw [isEmpty_of r];exact q⟩
  ·subst e'
   obtain ⟨its,r,pl,hz⟩:=I.tuple hx
   have hlen:=r.length
   exact truthy_tuple pl (by simp only [List.size_toArray];omega) ⟨H,I.tok _,by rw [isEmpty_of r];exact q⟩
  ·subst e'
   obtain ⟨hz,hS,vs,r,m⟩:kvs.length<=sizeLine/\(p == sysModules)=false/\∃ vs,KV kvs vs/\s.heap.DictOf (Ct X.prog X.w) p vs:=I.hok p _ hx
   have hlen:kvs.length=vs.length:=Paired.length r
   exact wpAny_truthy_dict hS m (by omega) ⟨H,I.tok _,by rw [isEmpty_kv r];exact q⟩
 | _=>exact (show False from e).elim
theorem pt_truth (ha:PE X a ta) (he:∀ whole,isTrue a X.env whole=(do let v <- whole;standAt a.pos;holding [v] (truthy v))) :
  PT X a (fun σ H Q=>ta σ H fun x H'=>∃ k,TruV X.K x H' k/\Q k H'):=by
 intro pins s σ H Q I h
 exact isTrue_plain (thn (ha pins s σ H _ I h) fun v s1 ⟨x,H1,I1,r1,q1⟩=>tru_ok pins s1 σ H1 x v Q I1 r1 q1) (he _)
theorem op_add_str:OpR X (binaryOp .Add) (fun x y H Q=>∃ i j,x=.str i/\y=.str j/\i.length+j.length<=sizeLine/\Q (.str (i++j)) H):=by
 intro pins s σ H x y v u Q I rx ry h
 obtain ⟨i,j,rfl,rfl,hz,q⟩:=h
 obtain ⟨t,rfl⟩:=rx
 obtain ⟨t',rfl⟩:=ry
 exact add_str (fun t' tk=>⟨.str (i++j),H,I.tok _,⟨_,rfl⟩,q⟩) hz
theorem vals1 {x:V} {us:List Value} (r:Vals [x] us):∃ u,us=[u]/\RelV x u:=by
 cases r with
 | cons r1 r2=>cases r2;exact ⟨_,rfl,r1⟩
theorem vals2 {x y:V} {us:List Value} (r:Vals [x,y] us):∃ u w',us=[u,w']/\RelV x u/\RelV y w':=by
 cases r with
 | cons r1 r2 =>
  cases r2 with
  | cons r3 r4=>cases r4;exact ⟨_,_,rfl,r1,r3⟩
theorem call_min2 (hc:X.calm=true):DO X (.builtin "min") (fun xs H Q=>∃ i j,xs=[.int i,.int j]/\Q (.int (if j < i then j else i)) H):=by
 intro pins s σ H xs us Q I r h
 obtain ⟨i,j,rfl,q⟩:=h
 obtain ⟨u,w',rfl,⟨t,rfl⟩,⟨t',rfl⟩⟩:=vals2 r
 refine min_two_ints (I.ok.hd hc) fun h' tk k=>⟨_,H,I.kept k,?_,q⟩
 by_cases hj:j < i
 ·rw [if_pos hj,if_pos hj];exact ⟨_,rfl⟩
 ·rw [if_neg hj,if_neg hj];exact ⟨_,rfl⟩
theorem call_int1:DO X (.type "int") (fun xs H Q=>(∃ i,xs=[.int i]/\Q (.int i) H)∨∃ k,xs=[.bl k]/\Q (.int (if k then 1 else 0)) H):=by
 intro pins s σ H xs us Q I r h
 rcases h with ⟨i,rfl,q⟩ | ⟨k,rfl,q⟩
 ·obtain ⟨u,rfl,t,rfl⟩:=vals1 r
  exact call_int_int ⟨.int i,H,I,⟨_,rfl⟩,q⟩
 ·obtain ⟨u,rfl,r1⟩:=vals1 r
  cases r1
  exact call_int_bool ⟨.int (if k then 1 else 0),H,I.tok _,⟨_,rfl⟩,q⟩
end
end L2
namespace L2
open PySem PySem.Spec PyProof.Rows
structure ObjM (h:Heap) (x dx C:Addr) (mA:Str->Option Value):Prop where
 obj:h.get? x=some (PySem.W.instObj C dx)
 ns:h.Ns1 dx mA
 ne:dx≠x
theorem lookIn_ns {h:Heap} {dx:Addr} {mA:Str->Option Value} (n:h.Ns1 dx mA):∃ od,h.get? dx=some od/\∀ name,PySem.W.lookIn name od=some (mA name):=by
 obtain ⟨o,es,ep,ho,hd,hk,_,hm⟩:=n
 refine ⟨o,ho,fun name=>?_⟩
 have e:=hm name
 unfold nsFind findBy at e
 rw [<- Array.find?_toList] at e
 unfold PySem.W.lookIn
 rw [hd]
 dsimp only
 split
 ·rename_i y q
  rw [q] at e
  exact congrArg some e
 ·rename_i q
  rw [q] at e
  have a:es.toList.any (·.refKey)=false:=by
   rw [List.any_eq_false]
   intro y hy
   obtain ⟨z,t,hkey⟩:=hk y (Array.mem_toList_iff.mp hy)
   simp [DictEntry.refKey,hkey]
  have a':¬ es.toList.any (·.refKey)=true:=by rw [a];exact Bool.false_ne_true
  rw [if_neg a']
  exact congrArg some e
theorem ObjM.look {h:Heap} {x dx C:Addr} {mA:Str->Option Value} (I:ObjM h x dx C mA):∃ od,PySem.W.InstAt h x (PySem.W.instObj C dx) C (some od)/\∀ name,PySem.W.lookIn name od=some (mA name) :=
 let ⟨od,ho,hl⟩:=lookIn_ns I.ns
 ⟨od,⟨I.obj,rfl,rfl,ho⟩,hl⟩
section
variable {prog:Program} {w:World} {A:Around} {E:Value->Shared->Prop} {s:Shared} {K:PySem.W.Frag} {x dx C f:Addr} {mA:Str->Option Value} {name:Str} {v:Value}
theorem get_map {expr:Bool} {Q:Value->Shared->Prop} (X:K.In s.heap) (I:ObjM s.heap x dx C mA) (hg:PySem.W.plainGet K C name=true) (hh:PySem.W.hasDictIn K C=true)
  (ha:PySem.W.findIn K (.ref C) name=some none) (hv:mA name=some v) (hv':PySem.W.handedIn v=true) (h:Q v { s with toks:=s.toks+1 }) :
  wpAny (model prog w) A (getAttr (.ref x) name expr) Q E s:=by
 obtain ⟨od,J,hl⟩:=I.look
 exact PySem.W.get_value X J (PySem.W.plainGet_of hg).1 (PySem.W.findObj_own hh ha rfl (by rw [hl,hv])) hv' h
theorem get_meth {pl:Sem Bool} {Q:Value×List Value->Shared->Prop} (X:K.In s.heap) (I:ObjM s.heap x dx C mA) (hg:PySem.W.plainGet K C name=true)
  (hf:PySem.W.findIn K (.ref C) name=some (some (.ref f))) (ht:PySem.W.isFn K (.ref f)=true) (hv:mA name=none) (h:Q (.ref f,[.ref x]) s) :
  wpAny (model prog w) A (getMethod (.ref x) name pl) Q E s:=by
 obtain ⟨od,J,hl⟩:=I.look
 exact PySem.W.method_fn X J (PySem.W.plainGet_of hg).1 (PySem.W.plainGet_of hg).2 hf (beq_iff_eq.mp ht) (by show (PySem.W.lookIn name od).map (·.isSome)=some false;rw [hl,hv];rfl) h
theorem set_map {ns:List Str} {Q:Unit->Shared->Prop} (X:K.In s.heap) (I:ObjM s.heap x dx C mA)
  (hs:PySem.W.findIn K (.ref C) "__setattr__"=some (some (.builtin "object.__setattr__"))) (hp:PySem.W.plainOver K C=true) (ht:PySem.W.takerIn K C name=some none) (hh:PySem.W.hasDictIn K C=true)
  (hw:PySem.Within mA ns) (hsz:ns.length<=sizeLine)
  (h:∀ h',ObjM h' x dx C (fun y=>if y=name then some v else mA y)->Heap.SameBut dx s.heap h'->Q () { s with heap:=h',toks:=s.toks+2 }) :
  wpAny (model prog w) A (setAttr (.ref x) name v) Q E s:=by
 obtain ⟨od,J,hl⟩:=I.look
 refine PySem.W.set_plain X J hs (PySem.W.osa_open (s:={ s with toks:=s.toks+1 }) (r:=none) X J hp ht fun b=>?_)
 obtain ⟨cd,hc,hd'⟩:=PySem.W.any_some hh
 have hx:s.heap.get? x=some ⟨.ref C,some dx,.plain,#[]⟩:=I.obj
 refine wpAny_bind (wpAny_pure (wpAny_bind (wpAny_bind (wpAny_loadPart hx (wpAny_bind (PySem.W.Looks.here (s:={ s with toks:=s.toks+1 }) (PySem.W.looks_clsIn X hc) ?_))))))
 rw [hd']
 refine wpAny_pure (a:=some dx) (wpAny_bind (wpAny_pure (wpAny_bind ?_)))
 refine wpAny_nsSet1 (s:={ s with toks:=s.toks+1 }) I.ns fun h' hn2 hs2=>?_
 obtain ⟨oD,esD,epD,hoD,hdD,hcD⟩:=hn2.count (PySem.Within.cons name v hw)
 refine wpAny_bind (wpAny_lookBehind hoD (by rw [hdD];exact pastItsLine_dict (Nat.le_trans hcD (by rw [List.length_cons];omega))) ?_)
 exact wpAny_pure (h _ ⟨(hs2.2 _ (Ne.symm I.ne)).trans I.obj,hn2,I.ne⟩ hs2)
theorem make_map {R:Result->Shared->Prop} {vs:List Value} {kw:List (Str×Value)} (X:K.In s.heap) (hm:PySem.W.makesIn K C=true)
  (hi:PySem.W.findIn K (.ref C) "__init__"=some (some (.ref f))) (hf:PySem.W.typeIn K (.ref f)=some (.type "function"))
  (h:codeAny (model prog w) (A.under (.builtin "type.__call__" ⟨.ref C :: vs,kw⟩)) (.call (.ref f) ⟨.ref (s.heap.objs.size+1) :: vs,kw⟩) (PySem.W.InitBack (s.heap.objs.size+1) R)
   { s with heap:=(s.heap.push PySem.W.emptyDict).push (PySem.W.instObj C s.heap.objs.size) }) :
  codeAny (model prog w) A (.call (.ref C) ⟨vs,kw⟩) R s:=by
 obtain ⟨hh,g,d,t,os⟩:=s
 exact PySem.W.make_core (PySem.W.makes_of X hm) (PySem.W.looks_findIn X hi) (fun self=>PySem.W.bind_fn X self hf) (.inl rfl) h
end
def GG (f:Str) (v:V):List (Str×V)->List (Str×V)
 | []=>[(f,v)]
 | (g,x) :: r=>if g=f then (g,v) :: r else (g,x) :: GG f v r
theorem Hs (f g:Str) (v:V):∀ fs:List (Str×V),(GG f v fs).lookup g=if g=f then some v else fs.lookup g
 | []=>by
  show List.lookup g [(f,v)]=_
  by_cases h:g=f
  ·have hb:(g == f)=true:=beq_iff_eq.mpr h
   simp only [List.lookup,hb,if_pos h]
  ·have hb:(g == f)=false:=beq_eq_false_iff_ne.mpr h
   simp only [List.lookup,hb,if_neg h]
 | (k,x) :: r=>by
  have ih:=Hs f g v r
  rw [show GG f v ((k,x) :: r)=(if k=f then (k,v) :: r else (k,x) :: GG f v r) from rfl]
  by_cases hk:k=f
  ·rw [if_pos hk]
   by_cases h:g=k
   ·have hb:(g == k)=true:=beq_iff_eq.mpr h
    simp only [List.lookup,hb,if_pos (h.trans hk)]
   ·have hb:(g == k)=false:=beq_eq_false_iff_ne.mpr h
    simp only [List.lookup,hb,if_neg (fun e:g=f=>h (e.trans hk.symm))]
  ·rw [if_neg hk]
   by_cases h:g=k
   ·have hb:(g == k)=true:=beq_iff_eq.mpr h
    simp only [List.lookup,hb,if_neg (fun e:g=f=>hk (h.symm.trans e))]
   ·have hb:(g == k)=false:=beq_eq_false_iff_ne.mpr h
    simp only [List.lookup,hb]
    exact ih
theorem Hx (f:Str) (v:V):∀ fs:List (Str×V),f∈(GG f v fs).map (·.1)/\∀ g,g∈fs.map (·.1)->g∈(GG f v fs).map (·.1)
 | []=>⟨by simp [GG],fun g h=>by simp at h⟩
 | (k,x) :: r=>by
  obtain ⟨i1,i2⟩:=Hx f v r
  rw [show GG f v ((k,x) :: r)=(if k=f then (k,v) :: r else (k,x) :: GG f v r) from rfl]
  by_cases hk:k=f
  ·rw [if_pos hk]
   subst hk
   exact ⟨by simp,fun g h=>by simpa using h⟩
  ·rw [if_neg hk]
   refine ⟨?_,fun g h=>?_⟩
   ·rw [List.map_cons]
    exact List.mem_cons_of_mem _ i1
   ·rw [List.map_cons] at h ⊢
    rcases List.mem_cons.mp h with e | e
    ·exact List.mem_cons.mpr (.inl e)
    ·exact List.mem_cons_of_mem _ (i2 g e)
theorem Hv (f:Str) (v:V):∀ fs:List (Str×V),(GG f v fs).length<=fs.length+1
 | []=>by simp [GG]
 | (k,x) :: r=>by
  have ih:=Hv f v r
  rw [show GG f v ((k,x) :: r)=(if k=f then (k,v) :: r else (k,x) :: GG f v r) from rfl]
  by_cases hk:k=f
  ·rw [if_pos hk,List.length_cons,List.length_cons];omega
  ·rw [if_neg hk,List.length_cons,List.length_cons];omega
theorem Bf.some_of {v:V} {o:Option Value} (r:Bf (some v) o):∃ u,o=some u/\RelV v u:=by
 cases o with
 | none=>exact (show False from r).elim
 | some u=>exact ⟨u,rfl,r⟩
theorem Bf.none_of {o:Option Value} (r:Bf none o):o=none:=by
 cases o with
 | none=>rfl
 | some u=>exact (show False from r).elim
theorem handed_of {v:V} {u:Value} (r:RelV v u):PySem.W.handedIn u=true:=by
 cases v with
 | non=>cases (show u=Value.none from r);rfl
 | bl b=>cases (show u=Value.bool b from r);rfl
 | int i=>obtain ⟨t,e⟩:=(show ∃ t,u=Value.int i t from r);cases e;rfl
 | str x=>obtain ⟨t,e⟩:=(show ∃ t,u=Value.str x t from r);cases e;rfl
 | byt b=>obtain ⟨t,e⟩:=(show ∃ t,u=Value.bytes b t from r);cases e;rfl
 | flt b=>obtain ⟨t,e⟩:=(show ∃ t,u=Value.float b t from r);cases e;rfl
 | ref a=>cases (show u=Value.ref a from r);rfl
 | ty n=>cases (show u=Value.type n from r);rfl
section
variable {P:Program} {w:World} {H H':Hp} {h h':Heap} {a C dx:Addr} {fs fs':List (Str×V)}
theorem ins_get (hok:HOk P w H h) (e:H a=some (.ins C dx fs)):∃ mA,ObjM h a dx C mA/\(∀ f,Bf (fs.lookup f) (mA f))/\PySem.Within mA (fs.map (·.1))/\fs.length<=1000/\H dx=some (.own a):=by
 obtain ⟨d,z,ne,ob,mA,n,r,q⟩:=(show CU P w H h a (.ins C dx fs) from hok a _ e)
 exact ⟨mA,⟨ob,n,ne⟩,r,q,z,d⟩
end
structure Cls (K:PySem.W.Frag) (C:Addr):Prop where
 pg:PySem.W.plainGet K C Str.empty=true
 hd:PySem.W.hasDictIn K C=true
 po:PySem.W.plainOver K C=true
 sa:PySem.W.findIn K (.ref C) "__setattr__"=some (some (.builtin "object.__setattr__"))
theorem Cls.get {K:PySem.W.Frag} {C:Addr} (c:Cls K C) (f:Str):PySem.W.plainGet K C f=true:=c.pg
def Et (K:PySem.W.Frag) (C:Addr) (f:Str):Prop:=PySem.W.findIn K (.ref C) f=some none
theorem Et.taker {K:PySem.W.Frag} {C:Addr} {f:Str} (n:Et K C f):PySem.W.takerIn K C f=some none:=by
 unfold PySem.W.takerIn
 rw [show PySem.W.findIn K (.ref C) f=some none from n]
 rfl
structure Meth (K:PySem.W.Frag) (C:Addr) (m:Str) (f:Addr):Prop where
 at_:PySem.W.findIn K (.ref C) m=some (some (.ref f))
 fn:PySem.W.isFn K (.ref f)=true
 kp:PySem.W.keepIn K (.ref f)=true
section
variable {X:Cx} {pins:List (Addr×Obj)} {σ:St} {H:Hp} {s:Shared} {a C dx:Addr} {fs:List (Str×V)} {f:Str} {v:V} {A:Around} {E:Value->Shared->Prop}
theorem getattr_ok {b:Bool} {Q:Value->Shared->Prop} (I:Inv X pins σ H s) (e:H a=some (.ins C dx fs)) (c:Cls X.K C) (n:Et X.K C f) (l:fs.lookup f=some v)
  (h:∀ u s',Inv X pins σ H s'->RelV v u->Q u s'):wpAny (model X.prog X.w) A (getAttr (.ref a) f b) Q E s:=by
 obtain ⟨mA,O,r,_,_,_⟩:=ins_get I.hok e
 obtain ⟨u,hu,ru⟩:=Bf.some_of (v:=v) (o:=mA f) (by rw [<- l];exact r f)
 exact get_map I.kIn O (c.get f) c.hd n hu (handed_of ru) (h u _ (I.tok _) ru)
theorem getmeth_ok {m:Str} {g:Addr} {pl:Sem Bool} {Q:Value×List Value->Shared->Prop} (I:Inv X pins σ H s) (e:H a=some (.ins C dx fs)) (c:Cls X.K C) (k:Meth X.K C m g) (l:fs.lookup m=none)
  (h:Q (.ref g,[.ref a]) s):wpAny (model X.prog X.w) A (getMethod (.ref a) m pl) Q E s:=by
 obtain ⟨mA,O,r,_,_,_⟩:=ins_get I.hok e
 have hn:mA m=none:=Bf.none_of (by rw [<- l];exact r m)
 exact get_meth I.kIn O (c.get m) k.at_ k.fn hn h
theorem setattr_ok {y:V} {u:Value} {Q:Unit->Shared->Prop} (I:Inv X pins σ H s) (e:H a=some (.ins C dx fs)) (c:Cls X.K C) (n:Et X.K C f) (hl:fs.length < 1000) (ry:RelV y u)
  (h:∀ s',Inv X pins σ (upd H a (.ins C dx (GG f y fs))) s'->Q () s'):wpAny (model X.prog X.w) A (setAttr (.ref a) f u) Q E s:=by
 obtain ⟨mA,O,r,wi,_,ho⟩:=ins_get I.hok e
 have hz:(fs.map (·.1)).length<=sizeLine:=by rw [List.length_map,sizeLine_eq];omega
 refine set_map I.kIn O c.sa c.po n.taker c.hd wi hz fun h' O' sb=>h _ ?_
 have hd:∃ o,h'.get? dx=some o:=let ⟨o,_,_,e',_⟩:=O'.ns;⟨o,e'⟩
 refine I.write (x:=a) (e:=dx) (by rw [e];exact True.intro) (.inr ho) (fun b q hb z=>(sb.2 b hb).trans z) hd ?_
 refine ⟨by rw [AG O.ne];exact ho,?_,O.ne,O'.obj,_,O'.ns,fun g=>?_,fun g hg=>?_⟩
 ·have:=Hv f y fs;omega
 ·show Bf ((GG f y fs).lookup g) (if g=f then some u else mA g)
  rw [Hs]
  by_cases q:g=f
  ·rw [if_pos q,if_pos q];exact ry
  ·rw [if_neg q,if_neg q];exact r g
 ·by_cases q:g=f
  ·rw [q];exact (Hx f y fs).1
  ·refine (Hx f y fs).2 g (wi g fun z=>hg ?_)
   show (if g=f then some u else mA g)=none
   rw [if_neg q];exact z
theorem Inv.made (I:Inv X pins σ H s):Inv X pins σ (upd (upd H s.heap.objs.size (.own (s.heap.objs.size+1))) (s.heap.objs.size+1) (.ins C s.heap.objs.size []))
  { s with heap:=(s.heap.push PySem.W.emptyDict).push (PySem.W.instObj C s.heap.objs.size) }:=by
 have e1:(s.heap.push PySem.W.emptyDict).get? s.heap.objs.size=some PySem.W.emptyDict:=Heap.get?_push_size s.heap rfl
 have e2:((s.heap.push PySem.W.emptyDict).push (PySem.W.instObj C s.heap.objs.size)).get? (s.heap.objs.size+1)=some (PySem.W.instObj C s.heap.objs.size):=by
  have:=Heap.get?_push_size (s.heap.push PySem.W.emptyDict) (o:=PySem.W.instObj C s.heap.objs.size) rfl
  rwa [Heap.size_push] at this
 have e3:(s.heap.push PySem.W.emptyDict).Ns s.heap.objs.size (fun _=>none):=⟨PySem.W.emptyDict,#[],_,e1,rfl,(fun e he=>absurd he (by simp)),fun _=>rfl⟩
 have I1:=I.laid (a:=s.heap.objs.size) (o:=.own (s.heap.objs.size+1)) (h':=s.heap.push PySem.W.emptyDict) (t':=s.toks) (fun b u q=>Heap.get?_push_of_some _ q) (Nat.le_refl _) ⟨_,e1⟩
 refine I1.laid (a:=s.heap.objs.size+1) (o:=.ins C s.heap.objs.size []) (t':=s.toks) (fun b u q=>Heap.get?_push_of_some _ q) (Nat.le_of_eq (Heap.size_push _ _)) ?_
 have ne:s.heap.objs.size≠s.heap.objs.size+1:=Nat.ne_of_lt (Nat.lt_succ_self _)
 refine ⟨by rw [AG ne,AV],Nat.zero_le _,ne,e2,fun _=>none,(Heap.Ns1.of_empty e3).at fun o q=>Heap.get?_push_of_some _ q,fun _=>True.intro,fun y hy=>absurd rfl hy⟩
theorem attr_of {prog:Program} {w:World} {env:Env} {e:Expr} {f:Str} {pos:Pos} {s:Shared} {Q:Value->Shared->Prop} (hb:attributeBase e f env (eval e env)=eval e env)
  (h:wpAny (model prog w) A (eval e env) (fun o s₁=>wpAny (model prog w) A (getAttr o f true) Q E s₁) E s):wpAny (model prog w) A (eval (.Attribute e f pos) env) Q E s :=
 Attribute_any_ h (by rw [arm_eval_Attribute,hb])
end
def tFld (K:PySem.W.Frag) (ta:TE) (f:Str):TE:=fun σ H Q=>ta σ H fun x H1=>∃ a C dx fs v,x=.ref a/\H1 a=some (.ins C dx fs)/\Cls K C/\Et K C f/\fs.lookup f=some v/\Q v H1
def sFld (K:PySem.W.Frag) (ta tv:TE) (f:Str):TS:=fun D σ H=>tv σ H fun y H1=>ta σ H1 fun x H2=>∃ a C dx fs,x=.ref a/\H2 a=some (.ins C dx fs)/\Cls K C/\Et K C f/\fs.length < 1000 /\
 D.nx σ (upd H2 a (.ins C dx (GG f y fs)))
section
variable {X:Cx} {o e value:Expr} {f:Str} {pos pos' tpos:Pos} {ta tv:TE}
theorem pe_fld (he:PE X e ta) (hb:attributeBase e f X.env (eval e X.env)=eval e X.env):PE X (.Attribute e f pos) (tFld X.K ta f):=by
 intro pins s σ H Q I h
 refine attr_of hb (thn (he pins s σ H _ I h) fun u s1 ⟨x,H1,I1,rx,a,C,dx,fs,v,ex,ea,c,n,l,q⟩=>?_)
 subst ex
 obtain rfl:u=Value.ref a:=rx
 exact getattr_ok I1 ea c n l fun u' s2 I2 ru=>⟨v,H1,I2,ru,q⟩
theorem ps_fld (ha:PE X o ta) (hv:PE X value tv) (hs:swapsWith value (some (.Attribute o f pos')) pos.line X.env=pure false):PS X (.Assign [.Attribute o f pos'] value pos) (sFld X.K ta tv f):=by
 intro pins s σ H D I h
 refine plainObj_wpAny_Assign_Attribute (thn (hv pins s σ H _ I h) fun u s1 ⟨y,H1,I1,ry,q⟩=>thn (ha pins s1 σ H1 _ I1 q) fun ov s2 ⟨x,H2,I2,rx,a,C,dx,fs,ex,ea,c,n,l,q2⟩=>?_) hs
 subst ex
 obtain rfl:ov=Value.ref a:=rx
 exact setattr_ok I2 ea c n l ry fun s3 I3=>⟨σ,_,I3,q2⟩
end
section
variable {X:Cx} {pins:List (Addr×Obj)} {σ:St} {H:Hp} {s:Shared} {A:Around} {E:Value->Shared->Prop} {Q:Value->Shared->Prop} {c:Value} {b:Bool}
inductive TyOf (K:PySem.W.Frag) (H:Hp):V->Value->Prop where
 | non:TyOf K H .non (.type "NoneType")
 | bl (x:Bool):TyOf K H (.bl x) (.type "bool")
 | int (i:Int):TyOf K H (.int i) (.type "int")
 | str (x:Str):TyOf K H (.str x) (.type "str")
 | flt (x:UInt64):TyOf K H (.flt x) (.type "float")
 | lst {a:Addr} {xs:List V} (e:H a=some (.lst xs)):TyOf K H (.ref a) (.type "list")
 | frz {a:Addr} {o:Obj} {xs:List V} (e:H a=some (.frz o (.lst xs))):TyOf K H (.ref a) (.type "list")
 | tup {a:Addr} {xs:List V} (e:H a=some (.tup xs)):TyOf K H (.ref a) (.type "tuple")
 | dK {a:Addr} {kvs:List (Key×V)} (e:H a=some (.dK kvs)):TyOf K H (.ref a) (.type "dict")
 | dT {a:Addr} {kvs:List (List Key×V)} (e:H a=some (.dT kvs)):TyOf K H (.ref a) (.type "dict")
 | ins {a C dx:Addr} {fs:List (Str×V)} (e:H a=some (.ins C dx fs)) (cl:Cls K C) (ha:PySem.W.findIn K (.ref C) "__class__"=some (some (.builtin "object.__class__")))
   (hn:PySem.W.specialIn K (.builtin "object.__class__") "__get__"=some (some (.builtin "getset_descriptor.__get__"))) (htk:PySem.W.takesIn K (.builtin "object.__class__")=some true)
   (hm:PySem.W.mroIn K C (.type "object")=some true):TyOf K H (.ref a) (.ref C)
theorem isinst_ok {x:V} {u t:Value} (I:Inv X pins σ H s) (rx:RelV x u) (ty:TyOf X.K H x t) (e:PySem.W.kitOne X.K t c=some b) (h:∀ tk,Q (.bool b) { s with toks:=tk }) :
  wpAny (model X.prog X.w) A (call (.builtin "isinstance") [u,c]) Q E s:=by
 cases ty with
 | non=>cases (show u=Value.none from rx);exact PySem.W.kia_one PySem.W.kitx_none I.kIn True.intro e (fun z=>nomatch z) h
 | bl y=>cases (show u=Value.bool y from rx);exact PySem.W.kia_one PySem.W.kitx_bool I.kIn True.intro e (fun z=>nomatch z) h
 | int i=>obtain ⟨t,q⟩:=(show ∃ t,u=Value.int i t from rx);cases q;exact PySem.W.kia_one PySem.W.kitx_int I.kIn True.intro e (fun z=>nomatch z) h
 | str y=>obtain ⟨t,q⟩:=(show ∃ t,u=Value.str y t from rx);cases q;exact PySem.W.kia_one PySem.W.kitx_str I.kIn True.intro e (fun z=>nomatch z) h
 | flt y=>obtain ⟨t,q⟩:=(show ∃ t,u=Value.float y t from rx);cases q;exact PySem.W.kia_one PySem.W.kitx_float I.kIn True.intro e (fun z=>nomatch z) h
 | @lst a xs ea =>
  cases (show u=Value.ref a from rx)
  obtain ⟨_,_,n,_,h1⟩:=(show CU X.prog X.w H s.heap a (.lst xs) from I.hok a _ ea)
  exact PySem.W.kia_one PySem.W.kitx_list I.kIn ⟨_,h1,rfl⟩ e (fun z=>nomatch z) h
 | @frz a ob xs ea =>
  cases (show u=Value.ref a from rx)
  obtain ⟨_,_,_,n,_,h1⟩:=(show CU X.prog X.w H s.heap a (.frz ob (.lst xs)) from I.hok a _ ea)
  exact PySem.W.kia_one PySem.W.kitx_list I.kIn ⟨_,h1,rfl⟩ e (fun z=>nomatch z) h
 | @tup a xs ea =>
  cases (show u=Value.ref a from rx)
  obtain ⟨_,_,_,p⟩:=(show CU X.prog X.w H s.heap a (.tup xs) from I.hok a _ ea)
  obtain ⟨o,h1,h2,_⟩:=p
  exact PySem.W.kia_one PySem.W.kitx_tuple I.kIn ⟨o,h1,h2⟩ e (fun z=>nomatch z) h
 | @dK a kvs ea =>
  cases (show u=Value.ref a from rx)
  obtain ⟨_,_,vs,_,p⟩:=(show CU X.prog X.w H s.heap a (.dK kvs) from I.hok a _ ea)
  obtain ⟨o,es,ep,h1,h2,_⟩:=p
  exact PySem.W.kia_one PySem.W.kitx_dict I.kIn ⟨o,h1,h2.1⟩ e (fun z=>nomatch z) h
 | @dT a kvs ea =>
  cases (show u=Value.ref a from rx)
  obtain ⟨_,_,xs,_,o,es,ep,h1,h2,_⟩:=(show CU X.prog X.w H s.heap a (.dT kvs) from I.hok a _ ea)
  exact PySem.W.kia_one PySem.W.kitx_dict I.kIn ⟨o,h1,h2.1⟩ e (fun z=>nomatch z) h
 | @ins a C dx fs ea cl ha hn htk hm =>
  cases (show u=Value.ref a from rx)
  obtain ⟨mA,O,_⟩:=ins_get I.hok ea
  obtain ⟨od,J,_⟩:=O.look
  exact PySem.W.kia_one (PySem.W.kitx_own (cl.get _) cl.hd ha hn htk hm) I.kIn J e (fun z=>nomatch z) h
end
end L2
namespace L2
open PySem PySem.Spec PyProof.Rows
structure EY (k:Nat) (A:Around):Prop where
 hd:A.handled=none
 dp:A.depth+3 * k+5 < recursionLimit
 un:A.units+16 * k+200 < cLine
theorem EY.mono {j k:Nat} {A:Around} (r:EY k A) (h:j<=k):EY j A:=⟨r.hd,by have:=r.dp;omega,by have:=r.un;omega⟩
theorem EY.deeper {k:Nat} {A:Around} (r:EY (k+1) A) (env:Env):EY k (A.deeper env) :=
 ⟨r.hd,by have:=r.dp;show A.depth+1+3 * k+5 < _;omega,by have:=r.un;show A.units+3+16 * k+200 < _;omega⟩
theorem make_depth {A:Around} {C:Addr} {us:List Value} {kw:List (Str×Value)}:(A.under (.builtin "type.__call__" ⟨.ref C :: us,kw⟩)).depth=A.depth+1:=by
 first | rfl | simp [Around.under,Code.weight,Code.isCreation,Code.isGuard,Code.isCaller,Code.frames,Code.isFrame,guardIds]
theorem make_units {A:Around} {C:Addr} {us:List Value} {kw:List (Str×Value)}:(A.under (.builtin "type.__call__" ⟨.ref C :: us,kw⟩)).units=A.units+1:=by
 first | rfl | simp [Around.under,Code.cUnits,Code.frames,Code.isFrame]
theorem EY.make {k:Nat} {A:Around} (r:EY (k+1) A) (C:Addr) (us:List Value) (kw:List (Str×Value)):EY k (A.under (.builtin "type.__call__" ⟨.ref C :: us,kw⟩)) :=
 ⟨r.hd,by have:=r.dp;rw [make_depth];omega,by have:=r.un;rw [make_units];omega⟩
theorem EY.depth {k:Nat} {A:Around} (r:EY k A):A.depth < recursionLimit:=by have:=r.dp;omega
theorem EY.units {k:Nat} {A:Around} (r:EY k A):A.units+64 < cLine:=by have:=r.un;omega
def tNil:TA:=fun _ H Q=>Q [] H
def tCons (ta:TE) (tr:TA):TA:=fun σ H Q=>ta σ H fun x H1=>tr σ H1 fun xs H2=>Q (x :: xs) H2
section
variable {X:Cx} {e:Expr} {es:List Expr} {te:TE} {t:TA} {pos:Pos}
theorem pa_nil:PA X [] tNil:=fun _ _ _ _ H Q I h=>Calls.spliced_nil ⟨[],H,I,.nil,h⟩
theorem EI (ha:PE X e te) (hr:PA X es t) (hs:starEach (e :: es) X.env=(false,eval e X.env) :: starEach es X.env:=by rfl):PA X (e :: es) (tCons te t):=by
 intro pos pins s σ H Q I h
 rw [hs]
 show wpAny _ _ (spliced ((false,eval e X.env) :: backTo pos (starEach es X.env))) _ _ s
 refine Calls.spliced_cons (thn (ha pins s σ H _ I h) fun u s1 ⟨x,H1,I1,r1,q1⟩=>?_)
 exact thn (hr pos pins s1 σ H1 _ I1 q1) fun us s2 ⟨xs,H2,I2,r2,q2⟩=>⟨x :: xs,H2,I2,.cons r1 r2,q2⟩
def tTup (t:TA):TE:=fun σ H Q=>t σ H fun xs H1=>xs.length<=sizeLine/\∀ p,H1 p=none->Q (.ref p) (upd H1 p (.tup xs))
def tLst (t:TA):TE:=fun σ H Q=>t σ H fun xs H1=>xs.length<=sizeLine/\∀ p,H1 p=none->Q (.ref p) (upd H1 p (.lst xs))
theorem pe_tup {x1} (h:PA X es t):PE X (.Tuple es x1 pos) (tTup t):=by
 intro pins s σ H Q I hq
 refine wpAny_Tuple_spliced (thn (h pos pins s σ H _ I hq) fun us s1 ⟨xs,H1,I1,r,z,q⟩=>⟨by rw [<- r.length];exact z,?_⟩)
 have hf:H1 s1.heap.objs.size=none:=I1.hok.fresh (Nat.le_refl _)
 refine ⟨.ref s1.heap.objs.size,upd H1 s1.heap.objs.size (.tup xs),I1.laid (t':=s1.toks) (fun b u e=>Heap.get?_push_of_some _ e) (Nat.le_refl _) ?_,rfl,q _ hf⟩
 exact ⟨z,us,r,⟨_,Heap.get?_push_size _ rfl,rfl,_,rfl⟩⟩
theorem pe_lst (h:PA X es t):PE X (.List es pos) (tLst t):=by
 intro pins s σ H Q I hq
 refine wpAny_List_spliced (thn (h pos pins s σ H _ I hq) fun us s1 ⟨xs,H1,I1,r,z,q⟩=>⟨by rw [<- r.length];exact z,?_⟩)
 have hf:H1 s1.heap.objs.size=none:=I1.hok.fresh (Nat.le_refl _)
 refine ⟨.ref s1.heap.objs.size,upd H1 s1.heap.objs.size (.lst xs),I1.laid (t':=s1.toks) (fun b u e=>Heap.get?_push_of_some _ e) (Nat.le_refl _) ?_,rfl,q _ hf⟩
 exact ⟨z,us,0,r,Heap.get?_push_size _ rfl⟩
end
abbrev Sp:=List V->Hp->VK->XK->Prop
abbrev CXT:=List Env->Hp->Shared->XK->Value->Shared->Prop
structure Env0 (P:Program) (w:World) (K:PySem.W.Frag) (mg:Str->Option Value) (base:Heap) (A:Around) (outer:List Env) (s:Shared) (H:Hp):Prop where
 frames:A.frames=some outer
 mod:Mod K mg base
 bs:∀ b o,base.get? b=some o->s.heap.get? b=some o/\H b=none
 bsz:base.objs.size<=s.heap.objs.size
 funs:s.heap.FunFrames base outer
 frf:∀ b∈frs outer,H b=none
 hok:HOk P w H s.heap
 bare:AllBare s.gens
def CE (outer:List Env) (P:Program) (w:World) (H:Hp) (s:Shared) (Q:VK) (u:Value) (s':Shared):Prop :=
 ∃ v H',s'.os=s.os/\AllBare s'.gens/\Un (frs outer) [] H H' s.heap s'.heap/\HOk P w H' s'.heap/\RelV v u/\Q v H'
def CR (CX:CXT) (outer:List Env) (P:Program) (w:World) (H:Hp) (s:Shared) (Q:VK) (E:XK) (r:Result) (s':Shared):Prop :=
 match r with
 | .ok (.ret u)=>CE outer P w H s Q u s'
 | .ok _=>False
 | .error e=>CX outer H s E e s'
structure Ds (P:Program) (w:World) (K:PySem.W.Frag) (mg:Str->Option Value) (base:Heap) (CX:CXT) (k:Nat) (f:Addr) (fd:FuncData) (ps:List Str) (sp:Sp):Prop where
 len:∀ vs H Q E,sp vs H Q E->vs.length=ps.length
 run:∀ (A:Around) (outer:List Env) (s:Shared) (H:Hp) (args:Args) (us:List Value) (vs:List V) (Q:VK) (E:XK),EY k A->Env0 P w K mg base A outer s H->BindsTo s fd args (ps.zip us)->Vals vs us->sp vs H Q E ->
  codeAny (model P w) A (.call (.ref f) args) (CR CX outer P w H s Q E) s
theorem Ds.imp {P:Program} {w:World} {K:PySem.W.Frag} {mg:Str->Option Value} {base:Heap} {CX:CXT} {k:Nat} {f:Addr} {fd:FuncData} {ps:List Str} {sp sp':Sp} (F:Ds P w K mg base CX k f fd ps sp)
  (h:∀ vs H Q E,sp' vs H Q E->sp vs H Q E):Ds P w K mg base CX k f fd ps sp' :=
 ⟨fun vs H Q E q=>F.len vs H Q E (h _ _ _ _ q),fun A outer s H args us vs Q E hr he hb hv hs=>F.run A outer s H args us vs Q E hr he hb hv (h _ _ _ _ hs)⟩
theorem Env0.make {P:Program} {w:World} {K:PySem.W.Frag} {mg:Str->Option Value} {base:Heap} {A:Around} {outer:List Env} {s:Shared} {H:Hp} (e:Env0 P w K mg base A outer s H) (C:Addr) (us:List Value) (kw:List (Str×Value)) :
  Env0 P w K mg base (A.under (.builtin "type.__call__" ⟨.ref C :: us,kw⟩)) outer s H:=⟨by first | exact e.frames | (simpa [Around.under,Code.envs,Code.isFrame,pushEnvs] using e.frames),e.mod,e.bs,e.bsz,e.funs,e.frf,e.hok,e.bare⟩
section
variable {X:Cx} {pins:List (Addr×Obj)} {σ:St} {H:Hp} {s s':Shared}
theorem Inv.env0 (I:Inv X pins σ H s):Env0 X.prog X.w X.K X.mg X.base X.A X.stack s H :=
 ⟨I.ok.frames,I.ok.mod,I.bs,Nat.le_trans I.ok.bsz I.sz,I.stack,I.stkFree,I.hok,I.bare⟩
theorem Inv.after {Q:VK} {u:Value} (I:Inv X pins σ H s) (h:CE X.stack X.prog X.w H s Q u s'):EP X pins σ Q u s':=by
 obtain ⟨v,H',os,bare,un,hok,r,q⟩:=h
 obtain ⟨hh,g,d,t,os'⟩:=s'
 obtain rfl:os'=s.os:=os
 exact ⟨v,H',I.call (h':=hh) (g':=g) (d':=d) (t':=t) (ch:=[]) un hok bare (fun b z=>absurd z (by simp)),r,q⟩
end
def tCall (sp:Sp) (dvs:List V) (E:XK) (t:TA):TE:=fun σ H Q=>t σ H fun vs H1=>sp (vs++dvs) H1 Q E
def tMeth (C:Addr) (m:Str) (sp:Sp) (dvs:List V) (E:XK) (ta:TE) (t:TA):TE:=fun σ H Q=>ta σ H fun x H1=>∃ a dx fs,x=.ref a/\H1 a=some (.ins C dx fs)/\fs.lookup m=none /\
 t σ H1 fun vs H2=>sp (x :: (vs++dvs)) H2 Q E
def tMake (C:Addr) (sp:Sp) (dvs:List V) (E:XK) (t:TA):TE:=fun σ H Q=>t σ H fun vs H1=>∀ x dx,H1 x=none->H1 dx=none->dx≠x ->
 sp (.ref x :: (vs++dvs)) (upd (upd H1 dx (.own x)) x (.ins C dx [])) (fun v H2=>v=.non/\Q (.ref x) H2) E
def Binds (K:PySem.W.Frag) (fd:FuncData) (ps:List Str) (ds:List Value):Prop :=
 ∀ (s:Shared) (us:List Value),K.In s.heap->(us++ds).length=ps.length->BindsTo s fd ⟨us,[]⟩ (ps.zip (us++ds))
theorem Binds.all {K:PySem.W.Frag} {fd:FuncData} {ps:List Str} (h:∀ us:List Value,us.length=ps.length->bindArgs fd ⟨us,[]⟩=pure (ps.zip us)):Binds K fd ps []:=fun s us _ hl=>by
 rw [List.append_nil] at hl ⊢
 exact .of_eq (h us hl)
def Passes (CX:CXT) (X:Cx) (E:XK):Prop:=∀ (pins:List (Addr×Obj)) (σ:St) (H:Hp) (s:Shared) (e:Value) (s':Shared),Inv X pins σ H s->CX X.stack H s E e s'->X.xe e s'
section
variable {X:Cx} {CX:CXT} {k:Nat} {f C:Addr} {fd:FuncData} {ps:List Str} {sp:Sp} {dvs:List V} {ds:List Value} {E:XK} {x m:Str} {p pos apos:Pos} {e o:Expr} {es:List Expr} {ta:TE} {t:TA}
theorem run_fn {pins:List (Addr×Obj)} {σ:St} {H:Hp} {s:Shared} {Q:VK} {us:List Value} {vs:List V} (F:Ds X.prog X.w X.K X.mg X.base CX k f fd ps sp) (hr:EY k X.A) (hb:Binds X.K fd ps ds) (hd:Vals dvs ds) (hx:Passes CX X E)
  (I:Inv X pins σ H s) (r:Vals vs us) (h:sp (vs++dvs) H Q E):wpAny (model X.prog X.w) X.A (call (.ref f) us) (EP X pins σ Q) X.xe s:=by
 have r2:Vals (vs++dvs) (us++ds):=r.append hd
 have hl:(us++ds).length=ps.length:=by rw [<- r2.length];exact F.len _ _ _ _ h
 refine wpAny_call (codeAny_mono (F.run X.A X.stack s H ⟨us,[]⟩ (us++ds) (vs++dvs) Q E hr I.env0 (hb s us I.kIn hl) r2 h) fun r s' hq=>?_)
 cases r with
 | error e=>exact hx pins σ H s e s' I hq
 | ok fl =>
  cases fl with
  | ret u=>exact I.after hq
  | next=>exact False.elim hq
  | brk=>exact False.elim hq
  | cont=>exact False.elim hq
theorem pe_call (F:Ds X.prog X.w X.K X.mg X.base CX k f fd ps sp) (hr:EY k X.A) (hg:Gl X x) (hm:X.mg x=some (.ref f)) (hk:PySem.W.keepIn X.K (.ref f)=true) (hb:Binds X.K fd ps ds) (hd:Vals dvs ds) (hx:Passes CX X E)
  (ha:PA X (e :: es) t) (hdb:(x == ("__debug__":Str))=false:=by decide) (he:starEach (e :: es) X.env=(false,eval e X.env) :: starEach es X.env:=by rfl) (hpl:(backTo pos (starEach es X.env)).any (·.1)=false:=by rfl) :
  PE X (.Call (.Name x p) (e :: es) [] pos) (tCall sp dvs E t):=by
 intro pins s σ H Q I h
 refine wpAny_Call_Name_kw (ld_glob I hg hm ?_ hdb)
 refine PySem.W.callWith_K (h₀:=X.base) I.ok.mod.kin hk (thn (ha pos pins s σ H _ I h) fun us s1 ⟨vs,H1,I1,r,q⟩=>⟨I1.kIn,?_⟩) he hpl
 exact run_fn F hr hb hd hx I1 r q
theorem pe_meth {pl:Sem Bool} (he:PE X o ta) (c:Cls X.K C) (hm:Meth X.K C m f) (F:Ds X.prog X.w X.K X.mg X.base CX k f fd ps sp) (hr:EY k X.A) (hb:Binds X.K fd ps ds) (hd:Vals dvs ds) (hx:Passes CX X E) (ha:PA X (e :: es) t)
  (hst:starEach (e :: es) X.env=(false,eval e X.env) :: starEach es X.env:=by rfl) (hpl:(backTo pos (starEach es X.env)).any (·.1)=false:=by rfl)
  (ht:eval (.Call (.Attribute o m apos) (e :: es) [] pos) X.env=(do
   let ov <- eval o X.env
   standAt apos.atName
   let (f,first) <- holding [ov] (getMethod ov m pl)
   callWith pos f first (backTo pos (starEach (e :: es) X.env)) (backToKw pos (keywordEach [] X.env))):=by rfl) :
  PE X (.Call (.Attribute o m apos) (e :: es) [] pos) (tMeth C m sp dvs E ta t):=by
 intro pins s σ H Q I h
 refine PySem.W.methodCall_KW (pl:=pl) (thn (he pins s σ H _ I h) fun u s1 ⟨x,H1,I1,rx,a,dx,fs,ex,ea,l,q⟩=>?_) ht
 subst ex
 obtain rfl:u=Value.ref a:=rx
 refine getmeth_ok I1 ea c hm l ?_
 refine PySem.W.callWith_K (first:=[.ref a]) (h₀:=X.base) I.ok.mod.kin hm.kp (thn (ha pos pins s1 σ H1 _ I1 q) fun us s2 ⟨vs,H2,I2,r,q2⟩=>⟨I2.kIn,?_⟩) hst hpl
 exact run_fn (us:=.ref a :: us) (vs:=.ref a :: vs) F hr hb hd hx I2 (.cons rfl r) q2
theorem pe_meth0 {pl:Sem Bool} (he:PE X o ta) (c:Cls X.K C) (hm:Meth X.K C m f) (F:Ds X.prog X.w X.K X.mg X.base CX k f fd ps sp) (hr:EY k X.A) (hb:Binds X.K fd ps ds) (hd:Vals dvs ds) (hx:Passes CX X E)
  (ht:eval (.Call (.Attribute o m apos) [] [] pos) X.env=(do
   let ov <- eval o X.env
   standAt apos.atName
   let (f,first) <- holding [ov] (getMethod ov m pl)
   callWith pos f first (backTo pos (starEach [] X.env)) (backToKw pos (keywordEach [] X.env))):=by rfl) :
  PE X (.Call (.Attribute o m apos) [] [] pos) (tMeth C m sp dvs E ta tNil):=by
 intro pins s σ H Q I h
 refine PySem.W.methodCall_KW (pl:=pl) (thn (he pins s σ H _ I h) fun u s1 ⟨x,H1,I1,rx,a,dx,fs,ex,ea,l,q⟩=>?_) ht
 subst ex
 obtain rfl:u=Value.ref a:=rx
 refine getmeth_ok I1 ea c hm l ?_
 exact PySem.W.callWith_K0 (first:=[.ref a]) I1.kIn hm.kp (run_fn (us:=[.ref a]) (vs:=[.ref a]) F hr hb hd hx I1 (.cons rfl .nil) q)
structure Mk (K:PySem.W.Frag) (C f:Addr):Prop where
 makes:PySem.W.makesIn K C=true
 init:PySem.W.findIn K (.ref C) "__init__"=some (some (.ref f))
 fn:PySem.W.isFn K (.ref f)=true
 kp:PySem.W.keepIn K (.ref C)=true
theorem run_make {pins:List (Addr×Obj)} {σ:St} {H:Hp} {s:Shared} {Q:VK} {us:List Value} {vs:List V} (M:Mk X.K C f) (F:Ds X.prog X.w X.K X.mg X.base CX k f fd ps sp) (hr:EY (k+1) X.A) (hb:Binds X.K fd ps ds) (hd:Vals dvs ds)
  (hx:Passes CX X E) (I:Inv X pins σ H s) (r:Vals vs us)
  (h:∀ x dx,H x=none->H dx=none->dx≠x->sp (.ref x :: (vs++dvs)) (upd (upd H dx (.own x)) x (.ins C dx [])) (fun v H2=>v=.non/\Q (.ref x) H2) E) :
  wpAny (model X.prog X.w) X.A (call (.ref C) us) (EP X pins σ Q) X.xe s:=by
 have hq:=h (s.heap.objs.size+1) s.heap.objs.size (I.hok.fresh (Nat.le_succ _)) (I.hok.fresh (Nat.le_refl _)) (Nat.ne_of_lt (Nat.lt_succ_self _))
 have I2:=Inv.made (C:=C) I
 have r2:Vals (V.ref (s.heap.objs.size+1) :: (vs++dvs)) (Value.ref (s.heap.objs.size+1) :: (us++ds)):=.cons rfl (r.append hd)
 have hl:(Value.ref (s.heap.objs.size+1) :: us++ds).length=ps.length:=by
  have e:=r2.length
  rw [F.len _ _ _ _ hq] at e
  exact e.symm
 refine wpAny_call (make_map (f:=f) I.kIn M.makes M.init (beq_iff_eq.mp M.fn) (codeAny_mono (F.run _ X.stack _ _ ⟨Value.ref (s.heap.objs.size+1) :: us,[]⟩ (Value.ref (s.heap.objs.size+1) :: (us++ds)) _ _ E (hr.make C us [])
  (I2.env0.make C us []) (hb _ (Value.ref (s.heap.objs.size+1) :: us) I2.kIn hl) r2 hq) fun r s' hq'=>?_))
 cases r with
 | error e=>exact hx pins σ _ _ e s' I2 hq'
 | ok fl =>
  cases fl with
  | ret u =>
   obtain ⟨v,H',I3,rv,ev,q3⟩:=I2.after hq'
   subst ev
   exact ⟨rv,⟨V.ref (s.heap.objs.size+1),H',I3,rfl,q3⟩⟩
  | next=>exact False.elim hq'
  | brk=>exact False.elim hq'
  | cont=>exact False.elim hq'
theorem pe_make (M:Mk X.K C f) (F:Ds X.prog X.w X.K X.mg X.base CX k f fd ps sp) (hr:EY (k+1) X.A) (hg:Gl X x) (hm:X.mg x=some (.ref C)) (hb:Binds X.K fd ps ds) (hd:Vals dvs ds) (hx:Passes CX X E)
  (ha:PA X (e :: es) t) (hdb:(x == ("__debug__":Str))=false:=by decide) (he:starEach (e :: es) X.env=(false,eval e X.env) :: starEach es X.env:=by rfl) (hpl:(backTo pos (starEach es X.env)).any (·.1)=false:=by rfl) :
  PE X (.Call (.Name x p) (e :: es) [] pos) (tMake C sp dvs E t):=by
 intro pins s σ H Q I h
 refine wpAny_Call_Name_kw (ld_glob I hg hm ?_ hdb)
 refine PySem.W.callWith_K (h₀:=X.base) I.ok.mod.kin M.kp (thn (ha pos pins s σ H _ I h) fun us s1 ⟨vs,H1,I1,r,q⟩=>⟨I1.kIn,?_⟩) he hpl
 exact run_make M F hr hb hd hx I1 r q
end
section
variable {X:Cx} {CX:CXT} {k:Nat} {f C:Addr} {fd:FuncData} {ps ks:List Str} {sp:Sp} {E:XK} {x m:Str} {p pos apos kpos:Pos} {e o:Expr} {es:List Expr} {kws:List Keyword} {te ta:TE} {t tk:TA} {nm:Option Str}
variable {g:List Value->List Value->List Value} {gV:List V->List V->List V}
end
structure A7 (N P:List Str) (sc:Scope):Prop where
 kind:sc.kind=.function
 co:sc.isCoroutine=false
 gen:sc.isGenerator=false
 nd:N.Nodup
 pre:N.take P.length=P
 par:∀ x∈P,sc.names.lookup x=some .local∨sc.names.lookup x=some .cell
 nofree:∀ y∈sc.names,y.2≠.free
theorem bindL_out {kindOf:Str->Option NameKind} {x:Str}:∀ {binds:List (Str×Value)} {m:Str->Option Value},(∀ v,(x,v)∉binds)->bindL kindOf binds m x=m x
 | [],_,_=>rfl
 | (n,v) :: r,m,h=>by
  unfold bindL
  rw [bindL_out fun w hw=>h w (List.mem_cons_of_mem _ hw)]
  split
  ·have:x≠n:=by rintro rfl;exact h v List.mem_cons_self
   simp [this]
  ·rfl
theorem bindC_out {kindOf:Str->Option NameKind} {x:Str}:∀ {binds:List (Str×Value)} {m:Str->Option Value},(∀ v,(x,v)∉binds)->bindC kindOf binds m x=m x
 | [],_,_=>rfl
 | (n,v) :: r,m,h=>by
  unfold bindC
  rw [bindC_out fun w hw=>h w (List.mem_cons_of_mem _ hw)]
  split
  ·rfl
  ·have:x≠n:=by rintro rfl;exact h v List.mem_cons_self
   simp [this]
theorem bindL_get {kindOf:Str->Option NameKind} {x:Str} {v:Value}:∀ {P:List Str} {vs:List Value} {i:Nat} {m:Str->Option Value},P.Nodup->P[i]?=some x->vs[i]?=some v->kindOf x=some .local ->
  bindL kindOf (P.zip vs) m x=some v
 | [],_,_,_,_,h,_,_=>by simp at h
 | _ :: _,[],_,_,_,_,h,_=>by simp at h
 | p :: P,w :: vs,0,m,nd,h1,h2,hk=>by
  simp at h1 h2;subst h1;subst h2
  show bindL kindOf ((p,w) :: P.zip vs) m p=_
  unfold bindL
  rw [bindL_out fun v hv=>(List.nodup_cons.mp nd).1 (List.of_mem_zip hv).1,if_pos hk]
  simp
 | p :: P,w :: vs,i+1,m,nd,h1,h2,hk=>by
  show bindL kindOf ((p,w) :: P.zip vs) m x=_
  unfold bindL
  exact bindL_get (i:=i) (List.nodup_cons.mp nd).2 (by simpa using h1) (by simpa using h2) hk
theorem bindC_get {kindOf:Str->Option NameKind} {x:Str} {v:Value}:∀ {P:List Str} {vs:List Value} {i:Nat} {m:Str->Option Value},P.Nodup->P[i]?=some x->vs[i]?=some v->kindOf x≠some .local ->
  bindC kindOf (P.zip vs) m x=some v
 | [],_,_,_,_,h,_,_=>by simp at h
 | _ :: _,[],_,_,_,_,h,_=>by simp at h
 | p :: P,w :: vs,0,m,nd,h1,h2,hk=>by
  simp at h1 h2;subst h1;subst h2
  show bindC kindOf ((p,w) :: P.zip vs) m p=_
  unfold bindC
  rw [bindC_out fun v hv=>(List.nodup_cons.mp nd).1 (List.of_mem_zip hv).1,if_neg hk]
  simp
 | p :: P,w :: vs,i+1,m,nd,h1,h2,hk=>by
  show bindC kindOf ((p,w) :: P.zip vs) m x=_
  unfold bindC
  exact bindC_get (i:=i) (List.nodup_cons.mp nd).2 (by simpa using h1) (by simpa using h2) hk
def start (N:List Str) (vs:List V):St:=vs.map some++List.replicate (N.length - vs.length) none
def cxOf (CX:CXT) (P:Program) (w:World) (K:PySem.W.Frag) (mg:Str->Option Value) (base:Heap) (N:List Str) (qual:Str) (scope:Scope) (f:Addr) (cd:Value) (A:Around) (outer:List Env) (s:Shared) (H:Hp) (E:XK):Cx where
 prog:=P
 w:=w
 K:=K
 mg:=mg
 base:=base
 A:=A.deeper (envOfC qual scope s.heap.objs.size f cd)
 N:=N
 s₀:=s
 H₀:=H
 env:=envOfC qual scope s.heap.objs.size f cd
 outer:=outer
 stack:=envOfC qual scope s.heap.objs.size f cd :: outer
 ex:=[]
 calm:=true
 fn:=fun _=>true
 pn:=[]
 xe:=fun e s'=>wpAny (model P w) (A.deeper (envOfC qual scope s.heap.objs.size f cd)) (leaving (envOfC qual scope s.heap.objs.size f cd) e) (fun _ s''=>CX outer H s E e s'') (fun e' s''=>CX outer H s E e' s'') s'
theorem cell_has {sc:Scope} {n:Nat} {x:Str} (h:sc.names.lookup x=some .cell):∃ c,(cellsFrom n sc.names []).lookup x=some c:=by
 have q:=PySem.W.cellsFrom_some sc.names n [] (.inl h)
 exact Option.isSome_iff_exists.mp q
theorem inv_start {CX:CXT} {P:Program} {w:World} {K:PySem.W.Frag} {mg:Str->Option Value} {base:Heap} {N ps:List Str} {qual:Str} {scope:Scope} {f:Addr} {cd:Value} {A:Around} {outer:List Env} {s s1:Shared} {H:Hp} {E:XK} {us:List Value} {vs:List V}
  (S:A7 N ps scope) (hd:A.handled=none) (e0:Env0 P w K mg base A outer s H) (hl:vs.length=ps.length) (r:Vals vs us)
  (x:InCallC s s.heap.objs.size (bindL (envOfC qual scope s.heap.objs.size f cd).kindOf (ps.zip us) fun _=>none) (cellsFrom (s.heap.objs.size+1) scope.names []) (bindC (envOfC qual scope s.heap.objs.size f cd).kindOf (ps.zip us) fun _=>none) s1) :
  Inv (cxOf CX P w K mg base N qual scope f cd A outer s H E) [] (start N vs) H s1:=by
 have hpl:ps.length<=N.length:=by have:=congrArg List.length S.pre;rw [List.length_take] at this;omega
 obtain ⟨h1,tk,rfl,hk⟩:=x.done
 have noA:∀ b:Addr,b∉(cxOf CX P w K mg base N qual scope f cd A outer s H E).ex:=fun b z=>absurd (show b∈([]:List Addr) from z) (by simp)
 refine ⟨⟨e0.mod,S.kind,rfl,rfl,Nat.le_refl _,fun y z c h1 h2=>?_,fun y hy=>?_,fun y c _ h=>?_,fun _=>hd,Around.frames_deeper e0.frames,.inr ⟨rfl,rfl⟩,fun b z=>absurd z (noA b),e0.bs,e0.bsz,fun b _ _=>noA b,fun b z=>absurd z (noA b),e0.funs,e0.frf⟩,
  rfl,e0.bare,Un.kept hk,⟨_,x.toInCall.ns,fun i y v h1 h2 h3=>?_⟩,fun y c h=>⟨_,x.cell y c h⟩,e0.hok.fresh (Nat.le_refl _),fun y c h=>?_,fun p hp=>absurd (show p∈([]:List (Addr×Obj)) from hp) (by simp),e0.hok.kept hk,?_⟩
 ·exact name_of_addr x.apart (PySem.mem_of_lookup h1) (PySem.mem_of_lookup h2)
 ·have hy:scope.names.lookup y=some .cell∨scope.names.lookup y=some .free:=hy
  rcases hy with hy | hy
  ·exact cell_has hy
  ·exact absurd rfl (S.nofree _ (PySem.mem_of_lookup hy))
 ·exact Nat.le_of_lt (x.above y c (PySem.mem_of_lookup h))
 ·have hi:i < vs.length:=by
   unfold start at h2
   by_cases hi:i < vs.length
   ·exact hi
   ·rw [List.getElem?_append_right (by simpa using hi)] at h2
    rw [List.getElem?_replicate] at h2
    split at h2 <;> cases h2
  have ha:vs[i]?=some v:=by
   unfold start at h2
   rw [List.getElem?_append_left (by simpa using hi),List.getElem?_map] at h2
   cases e:vs[i]? with
   | none=>rw [e] at h2;cases h2
   | some a=>rw [e] at h2;cases h2;rfl
  obtain ⟨u,hu,rv⟩:=r.get ha
  have hp:ps[i]?=some y:=by
   rw [<- S.pre,List.getElem?_take_of_lt (by omega)];exact h1
  have ndP:ps.Nodup:=by rw [<- S.pre];exact S.nd.sublist (List.take_sublist _ _)
  refine ⟨u,rv,?_⟩
  rcases S.par y (List.mem_of_getElem? hp) with k | k
  ·exact .inl ⟨k,bindL_get ndP hp hu k⟩
  ·obtain ⟨c,e⟩:=cell_has (n:=s.heap.objs.size+1) k
   refine .inr ⟨.inl k,c,e,?_⟩
   have q:=x.cell y c e
   rw [bindC_get ndP hp hu (by show scope.names.lookup y≠_;rw [k];decide)] at q
   exact q
 ·exact e0.hok.fresh (Nat.le_of_lt (x.above y c (PySem.mem_of_lookup h)))
 ·unfold start
  show _=N.length
  rw [List.length_append,List.length_map,List.length_replicate]
  omega
theorem fn_of {CX:CXT} {P:Program} {w:World} {K:PySem.W.Frag} {mg:Str->Option Value} {base:Heap} {k:Nat} {f:Addr} {name qual:Str} {params:Arguments} {body:List Stmt} {scope:Scope} {dV kV doc pm cdv ct oc:Value} {an od:Option Addr}
  {osl:Array (Option Value)} {N ps:List Str} {sp:Sp} (lk:K.lookup f=some ⟨oc,od,.func (PySem.W.fnOf name qual params body scope dV kV doc pm an cdv ct),osl⟩) (hcd:PySem.W.codeIn K cdv qual=true) (S:A7 N ps scope)
  (len:∀ vs H Q E,sp vs H Q E->vs.length=ps.length)
  (hbody:∀ (A:Around) (outer:List Env) (s:Shared) (H:Hp) (vs:List V) (Q:VK) (E:XK),EY k (A.deeper (envOfC qual scope s.heap.objs.size f cdv))->sp vs H Q E ->
   ∃ t,PSs (cxOf CX P w K mg base N qual scope f cdv A outer s H E) body t/\t { nx:=fun _ H'=>Q .non H',rt:=Q } (start N vs) H) :
  Ds P w K mg base CX (k+1) f (PySem.W.fnOf name qual params body scope dV kV doc pm an cdv ct) ps sp:=by
 refine ⟨len,fun A outer s H args us vs Q E hr e0 hb r hsp=>?_⟩
 have hl:=len _ _ _ _ hsp
 have KX:K.In s.heap:=e0.mod.kin.keeps fun b o e=>(e0.bs b o e).1
 have lim:s.heap.NoLimit:=e0.mod.nolimit.keeps fun b o e=>(e0.bs b o e).1
 have hkind:∀ y∈ps.zip us,scope.names.lookup y.1=some .local∨(scope.names.lookup y.1=some .cell/\((cellsFrom (s.heap.objs.size+1) scope.names []).lookup y.1).isSome=true):=fun ⟨n,v⟩ hy=>by
  rcases S.par n (List.of_mem_zip hy).1 with q | q
  ·exact .inl q
  ·exact .inr ⟨q,PySem.W.cellsFrom_some _ _ _ (.inl q)⟩
 refine codeAny_call_function hr.depth (KX _ _ lk) rfl S.co S.gen rfl (PySem.W.codeRec_of KX hcd) (hb _ _ _ _ ?_)
 refine wpAny_newFunctionEnv_cells S.kind hkind fun env he s1 x=>?_
 subst he
 refine ⟨lim.keeps x.toInCall.keep,codeAny_func ?_⟩
 obtain ⟨t,ht,hq⟩:=hbody A outer s H vs Q E (hr.deeper _) hsp
 have I:Inv (cxOf CX P w K mg base N qual scope f cdv A outer s H E) [] (start N vs) H s1:=inv_start S hr.hd e0 hl r x
 refine wpAny_mono (ht [] s1 (start N vs) H _ I hq) (fun fl s' hs=>?_) fun e s' hs=>hs
 have fin:∀ {σ':St} {H':Hp} {v:V} {u:Value},Inv (cxOf CX P w K mg base N qual scope f cdv A outer s H E) [] σ' H' s'->RelV v u->Q v H'->CE outer P w H s Q u s' :=
  fun {σ' H' v u} J rv q=>⟨v,H',J.os,J.bare,J.base,J.hok,rv,q⟩
 cases fl with
 | ret u =>
  obtain ⟨v,σ',H',J,rv,q⟩:=hs
  exact fin J rv q
 | next =>
  obtain ⟨σ',H',J,q⟩:=hs
  exact fin (v:=V.non) (u:=Value.none) J rfl q
 | brk =>
  obtain ⟨_,_,_,q⟩:=hs
  exact False.elim q
 | cont =>
  obtain ⟨_,_,_,q⟩:=hs
  exact False.elim q
end L2
namespace L2
open PySem PySem.Spec PyProof.Rows
section
variable {X:Cx} {x:Str} {p pos:Pos} {e:Expr} {es:List Expr} {t:TA} {id T:String} {r:List V->Hp->VK->Prop}
def tCB (r:List V->Hp->VK->Prop) (t:TA):TE:=fun σ H Q=>t σ H fun vs H1=>r vs H1 Q
theorem pe_callB (hc:DO X (.builtin id) r) (hg:Gl X x) (hm:X.mg x=none) (hv:bootBuiltins x=some (.builtin id)) (ha:PA X (e :: es) t) (hn:x≠"__name__":=by decide) (hdb:(x == ("__debug__":Str))=false:=by decide)
  (he:starEach (e :: es) X.env=(false,eval e X.env) :: starEach es X.env:=by rfl) (hpl:(backTo pos (starEach es X.env)).any (·.1)=false:=by rfl):PE X (.Call (.Name x p) (e :: es) [] pos) (tCB r t):=by
 intro pins s σ H Q I h
 refine wpAny_Call_Name_kw (FF I hg hm hv ?_ hn hdb)
 exact PyProof.Rows.callWith_builtin1 (thn (ha pos pins s σ H _ I h) fun us s1 ⟨vs,H1,I1,r1,q1⟩=>hc pins s1 σ H1 vs us Q I1 r1 q1) he hpl
theorem pe_callTy (hc:DO X (.type T) r) (hg:Gl X x) (hm:X.mg x=none) (hv:bootBuiltins x=some (.type T)) (ha:PA X (e :: es) t) (hn:x≠"__name__":=by decide) (hdb:(x == ("__debug__":Str))=false:=by decide)
  (he:starEach (e :: es) X.env=(false,eval e X.env) :: starEach es X.env:=by rfl) (hpl:(backTo pos (starEach es X.env)).any (·.1)=false:=by rfl):PE X (.Call (.Name x p) (e :: es) [] pos) (tCB r t):=by
 intro pins s σ H Q I h
 refine wpAny_Call_Name_kw (FF I hg hm hv ?_ hn hdb)
 exact PyProof.Rows.callWith_type1 (thn (ha pos pins s σ H _ I h) fun us s1 ⟨vs,H1,I1,r1,q1⟩=>hc pins s1 σ H1 vs us Q I1 r1 q1) he hpl
end
end L2
namespace HT
open PySem PyProof.Rows
section
open PySem.SeqAt
open PySem.AutoSeq1 (wpAny_loadPart')
open PySem.MeetsSeq PySem.MeetsSeq2 PySem.MeetsSeq3
end
section
variable {prog:Program} {w:World} {A:Around} {E:Value->Shared->Prop} {s:Shared}
theorem cat_tup {t b:Addr} {vs ws:List Value} {Q:Value->Shared->Prop} (ht:IsTup s.heap t vs.toArray) (hb:IsTup s.heap b ws.toArray) (hv:vs≠[])
  (h1:ws=[]->Q (.ref t) s) (h2:ws≠[]->Q (.ref s.heap.objs.size) { s with heap:=s.heap.push { cls:=.type "tuple",data:=.seq (vs++ws).toArray } })
  (hsz:vs.length+ws.length<=sizeLine):wpAny (model prog w) A (binaryOp .Add (.ref t) (.ref b)) Q E s:=by
 obtain ⟨⟨cls,dd,data,sl⟩,ho,hc,n,hd⟩:=id ht
 obtain ⟨⟨cls2,dd2,data2,sl2⟩,ho2,hc2,n2,hd2⟩:=id hb
 simp only at hc hd hc2 hd2
 subst hc hd hc2 hd2
 have e:vs.toArray++ws.toArray=(vs++ws).toArray:=by simp
 by_cases hw:ws=[]
 ·exact concat_meets ⟨_,ho,rfl⟩ ⟨_,ho2,rfl⟩ noFill_tuple_add seq_tuple_add PySem.F.slot_tuple_add PySem.F.entry_tuple_add (PySem.F.args_tuple_add_2 _ _)
   (tuple_addW1 t b vs.toArray ws.toArray n n2 dd dd2 sl sl2 (by simpa using hv) (by simp [hw])) ⟨ho,ho2,h1 hw⟩
 ·refine concat_meets ⟨_,ho,rfl⟩ ⟨_,ho2,rfl⟩ noFill_tuple_add seq_tuple_add PySem.F.slot_tuple_add PySem.F.entry_tuple_add (PySem.F.args_tuple_add_2 _ _)
   (tuple_addW2 t b vs.toArray ws.toArray n n2 dd dd2 sl sl2 (by simpa using hv) (by simpa using hw) (by rw [List.size_toArray,List.size_toArray];exact hsz)) ⟨ho,ho2,?_⟩
  rw [e]
  exact h2 hw
def sIx (n d:Nat):Option Int->Nat
 | none=>d
 | some v=>if v < 0 then (v+(n:Int)).toNat else min v.toNat n
theorem sIx_none (n d:Nat):sIx n d none=d:=rfl
theorem sIx_nat (n d k:Nat):sIx n d (some (k:Int))=min k n:=by
 show (if (k:Int) < 0 then ((k:Int)+(n:Int)).toNat else min (k:Int).toNat n)=min k n
 rw [if_neg (by omega),Int.toNat_natCast]
theorem sIx_le (n d:Nat) (hd:d<=n) (o:Option Int):sIx n d o<=n:=by
 cases o with
 | none=>exact hd
 | some v =>
  show (if v < 0 then (v+(n:Int)).toNat else min v.toNat n)<=n
  by_cases hv:v < 0
  ·rw [if_pos hv];omega
  ·rw [if_neg hv];exact Nat.min_le_right _ _
theorem clip_eq (v:Int) (n d:Nat):(if v < 0 then max (v+(n:Int)) 0 else min v (n:Int))=((sIx n d (some v):Nat):Int):=by
 show (if v < 0 then max (v+(n:Int)) 0 else min v (n:Int))=(((if v < 0 then (v+(n:Int)).toNat else min v.toNat n):Nat):Int)
 by_cases hv:v < 0
 ·simp only [if_pos hv];omega
 ·simp only [if_neg hv];omega
theorem adjust_gen (lo hi:Option Int) (n:Nat):Builtin.Slice.sliceAdjust lo hi 1 (n:Int)=(((sIx n 0 lo:Nat):Int),((sIx n n hi:Nat):Int)):=by
 have h1:¬ ((1:Int) < 0):=by omega
 unfold Builtin.Slice.sliceAdjust
 simp only [h1,if_false]
 refine Prod.ext ?_ ?_
 ·cases lo with
  | none=>rfl
  | some v=>exact clip_eq v n 0
 ·cases hi with
  | none=>rfl
  | some v=>exact clip_eq v n n
theorem places_gen (i j:Nat):Builtin.Slice.slicePlaces (i:Int) (j:Int) 1=j - i:=by
 unfold Builtin.Slice.slicePlaces
 have h1:(1:Int) > 0:=by omega
 simp only [h1,if_true,Int.ediv_one]
 split <;> omega
theorem slicePart_ {v:Value} {o:Option Int} {Q:Option Int->Shared->Prop} (p:IsPart v o) (h:Q o s):wpAny (model prog w) A (Builtin.Slice.slicePartIndex v) Q E s:=by
 cases p with
 | none=>exact slicePart_none h
 | int i t=>exact slicePart_int h
theorem Es {sl:Addr} {vl vu:Value} {lo hi:Option Int} {n:Nat} {Q:Int×Int×Nat->Shared->Prop} (hs:s.heap.IsSliceOf sl vl vu .none) (pl:IsPart vl lo) (pu:IsPart vu hi)
  (h:Q (((sIx n 0 lo:Nat):Int),1,sIx n n hi - sIx n 0 lo) s):wpAny (model prog w) A (Builtin.Slice.sliceApplied (.ref sl) (pure (n:Int))) Q E s:=by
 obtain ⟨os,hos,hcs,hds⟩:=id hs
 unfold Builtin.Slice.sliceApplied Builtin.Slice.sliceFields
 refine wpAny_bind (wpAny_bind (wpAny_field hos hds (x:=vl) rfl (wpAny_bind (wpAny_field hos hds (x:=vu) rfl (wpAny_bind (wpAny_field hos hds (x:=.none) rfl (wpAny_pure ?_)))))))
 refine wpAny_bind (slicePart_none ?_)
 show wpAny _ _ (if ((1:Int) == 0)=true then _ else _) _ _ s
 rw [if_neg (by decide)]
 refine wpAny_bind (slicePart_ pl (wpAny_bind (slicePart_ pu (wpAny_bind (wpAny_pure ?_)))))
 show wpAny _ _ (match Builtin.Slice.sliceAdjust lo hi 1 (n:Int) with | (lo,hi)=>pure (lo,(1:Int),Builtin.Slice.slicePlaces lo hi 1)) _ _ s
 rw [adjust_gen lo hi n]
 show wpAny _ _ (pure (((sIx n 0 lo:Nat):Int),(1:Int),Builtin.Slice.slicePlaces ((sIx n 0 lo:Nat):Int) ((sIx n n hi:Nat):Int) 1)) _ _ s
 rw [places_gen]
 exact wpAny_pure h
theorem pick_gen (xs:Array Value) (i k:Nat):((List.range k).filterMap fun (m:Nat)=>xs[((i:Int)+(m:Int) * 1).toNat]?).toArray=((xs.toList.drop i).take k).toArray:=by
 have e:(fun (m:Nat)=>xs[((i:Int)+(m:Int) * 1).toNat]?)=fun m=>xs[i+m]?:=by
  funext m
  have:((i:Int)+(m:Int) * 1).toNat=i+m:=by omega
  rw [this]
 rw [e]
 have:=pick_run xs i k
 rw [List.filterMap_map] at this
 have e2:((fun x=>xs[x]?)∘fun x=>i+x)=fun m=>xs[i+m]?:=rfl
 rw [e2] at this
 rw [this]
theorem Gs {t sl:Addr} {items:Array Value} {vl vu:Value} {lo hi:Option Int} {Q:Value->Shared->Prop} (ht:IsTup s.heap t items) (hs:s.heap.IsSliceOf sl vl vu .none) (pl:IsPart vl lo) (pu:IsPart vu hi)
  (hw:¬ (sIx items.size 0 lo=0/\sIx items.size items.size hi=items.size))
  (h:Q (.ref s.heap.objs.size) { s with heap:=s.heap.push { cls:=.type "tuple",data:=.seq ((items.toList.drop (sIx items.size 0 lo)).take (sIx items.size items.size hi - sIx items.size 0 lo)).toArray } })
  (hsz:items.size<=sizeLine):wpAny (model prog w) A (getItem (.ref t) (.ref sl)) Q E s:=by
 have htake:sizeOk (.seq ((items.toList.drop (sIx items.size 0 lo)).take (sIx items.size items.size hi - sIx items.size 0 lo)).toArray):=by
  show ((items.toList.drop (sIx items.size 0 lo)).take (sIx items.size items.size hi - sIx items.size 0 lo)).toArray.size<=sizeLine
  rw [List.size_toArray,List.length_take,List.length_drop,Array.length_toList]
  omega
 have hj:sIx items.size items.size hi<=items.size:=sIx_le _ _ (Nat.le_refl _) hi
 obtain ⟨os,hos,hcs,hds⟩:=id hs
 have hTs:s.TypeIs (.ref sl) "slice":=⟨os,hos,hcs⟩
 unfold getItem
 try with_reducible refine wpAny_holding ?_
 first | refine wpAny_bind (wpAny_pure ?_) | skip
 refine wpAny_bind (wpAny_sequenceKey ht.typeIs (by decide) ?_)
 refine wpAny_bind (wpAny_callSpecial?_slot (name:=Str.ofString "__getitem__") ht.typeIs PyProof.Rows.slot_tuple_getitem
  (wpAny_call_entry PyProof.Rows.slot_tuple_getitem ht.typeIs entry_tuple_getitem ?_ (args_tuple_getitem _ _)))
 show wpAny _ _ (Builtin.Tuple.tupleItemsOf (.ref t) >>= _) _ _ s
 refine wpAny_bind (tupleItemsOf_ ht ?_)
 refine wpAny_bind (wpAny_typeOf hTs ?_)
 rw [if_pos (by decide)]
 refine wpAny_bind (Es hs pl pu ?_)
 have hno:¬ ((((sIx items.size 0 lo:Nat):Int) == 0 && (1:Int) == 1 && (sIx items.size items.size hi - sIx items.size 0 lo) == items.size)=true):=by
  intro q
  rw [Bool.and_eq_true,Bool.and_eq_true] at q
  have q1:((sIx items.size 0 lo:Nat):Int)=0:=eq_of_beq q.1.1
  have q2:sIx items.size items.size hi - sIx items.size 0 lo=items.size:=eq_of_beq q.2
  exact hw ⟨by omega,by omega⟩
 show wpAny _ _ (if (((sIx items.size 0 lo:Nat):Int) == 0 && (1:Int) == 1 && (sIx items.size items.size hi - sIx items.size 0 lo) == items.size)=true then _ else _) _ _ s
 rw [if_neg hno,pick_gen]
 first
  | exact wpAny_bind (m:=Builtin.Tuple.tupleExact _) (wpAny_newObj_type (wpAny_pure ⟨_,rfl,wpAny_pure h⟩) htake)
  | exact wpAny_bind (m:=Builtin.Tuple.tupleExact _) (wpAny_newObj_type (wpAny_bind (wpAny_pure (wpAny_pure ⟨_,rfl,wpAny_pure h⟩))) htake)
  | exact wpAny_bind (wpAny_bind (m:=Builtin.Tuple.tupleExact _) (wpAny_newObj_type (wpAny_pure (wpAny_pure ⟨_,rfl,wpAny_pure h⟩)) htake))
  | exact wpAny_bind (wpAny_bind (m:=Builtin.Tuple.tupleExact _) (wpAny_newObj_type (wpAny_pure ⟨_,rfl,wpAny_pure h⟩) htake))
end
end HT
namespace L2
open PySem PySem.Spec PyProof.Rows
abbrev TO:=St->Hp->(Option Int->Hp->Prop)->Prop
def PO (X:Cx) (e:Option Expr) (t:TO):Prop :=
 ∀ (pins:List (Addr×Obj)) (s:Shared) (σ:St) (H:Hp) (Q:Option Int->Hp->Prop),Inv X pins σ H s->t σ H Q ->
  wpAny (model X.prog X.w) X.A (evalPart e X.env) (fun u s'=>∃ o H',Inv X pins σ H' s'/\IsPart u o/\Q o H') X.xe s
def tNoPart:TO:=fun _ H Q=>Q none H
def tPart (t:TE):TO:=fun σ H Q=>t σ H fun x H1=>∃ i,x=.int i/\Q (some i) H1
theorem intsAre_of {ns:List Int}:∀ {us:List Value},Vals (ns.map V.int) us->IntsAre us ns:=by
 induction ns with
 | nil=>intro us r;rw [List.map_nil] at r;cases r;exact .nil
 | cons n ns ih =>
  intro us r
  rw [List.map_cons] at r
  cases r with
  | cons r1 r2 =>
   obtain ⟨t,e⟩:=r1
   subst e
   exact .cons n t (ih r2)
section
variable {X:Cx} {e:Expr} {te:TE} {lo hi:Option Expr} {tl th:TO} {pos p2:Pos}
theorem po_none:PO X none tNoPart:=by
 intro pins s σ H Q I h
 rw [evalPart_none]
 exact wpAny_pure ⟨none,H,I,.none,h⟩
theorem po_some (h:PE X e te):PO X (some e) (tPart te):=by
 intro pins s σ H Q I hw
 rw [evalPart_some]
 refine thn (h pins s σ H _ I hw) fun u s1 ⟨x,H1,I1,r1,q1⟩=>?_
 obtain ⟨i,rfl,q⟩:=q1
 obtain ⟨t,rfl⟩:=r1
 exact ⟨some i,H1,I1,.int i t,q⟩
def SlR (X:Cx) (r:V->Option Int->Option Int->Hp->VK->Prop):Prop :=
 ∀ (pins:List (Addr×Obj)) (s:Shared) (σ:St) (H:Hp) (x:V) (v vl vu:Value) (lo hi:Option Int) (sl:Addr) (Q:VK),Inv X pins σ H s->RelV x v->s.heap.IsSliceOf sl vl vu .none->IsPart vl lo->IsPart vu hi->r x lo hi H Q ->
  ∃ T id,typeLookup (.type T) "__getitem__"=pure (some (.builtin id))/\s.TypeIs v T/\wpAny (model X.prog X.w) X.A (getItem v (.ref sl)) (EP X pins σ Q) X.xe s
theorem SlR.or {r r':V->Option Int->Option Int->Hp->VK->Prop} (h:SlR X r) (h':SlR X r'):SlR X (fun x lo hi H Q=>r x lo hi H Q∨r' x lo hi H Q):=by
 intro pins s σ H x v vl vu lo hi sl Q I rx hs pl pu q
 rcases q with q | q
 ·exact h pins s σ H x v vl vu lo hi sl Q I rx hs pl pu q
 ·exact h' pins s σ H x v vl vu lo hi sl Q I rx hs pl pu q
def tSl (r:V->Option Int->Option Int->Hp->VK->Prop) (te:TE) (tl th:TO):TE:=fun σ H Q=>te σ H fun x H1=>tl σ H1 fun l H2=>th σ H2 fun u H3=>r x l u H3 Q
theorem pe_slice {r:V->Option Int->Option Int->Hp->VK->Prop} (hr:SlR X r) (he:PE X e te) (hl:PO X lo tl) (hu:PO X hi th):PE X (.Subscript e (.Slice lo hi none p2) pos) (tSl r te tl th):=by
 intro pins s σ H Q I h
 refine Subscript_ (thn (he pins s σ H _ I h) fun v s1 ⟨x,H1,I1,r1,q1⟩=>?_)
 refine wpAny_Slice (thn (hl pins s1 σ H1 _ I1 q1) fun vl s2 ⟨l,H2,I2,pl,q2⟩=>thn (hu pins s2 σ H2 _ I2 q2) fun vu s3 ⟨u,H3,I3,pu,q3⟩=>?_)
 rw [evalPart_none]
 refine wpAny_pure ?_
 have I4:Inv X pins σ H3 { s3 with heap:=s3.heap.push { cls:=.type "slice",data:=.fields #[vl,vu,.none] } }:=I3.kept (t':=s3.toks) fun b ob q=>Heap.get?_push_of_some _ q
 obtain ⟨T,id,hT,ht,hg⟩:=hr pins { s3 with heap:=s3.heap.push { cls:=.type "slice",data:=.fields #[vl,vu,.none] } } σ H3 x v vl vu l u s3.heap.objs.size Q I4 r1 (Heap.IsSliceOf.new ..) pl pu q3
 show wpAny (model X.prog X.w) X.A (subscriptTail e (.Slice lo hi none p2) v (.ref s3.heap.objs.size)) (EP X pins σ Q) X.xe { s3 with heap:=s3.heap.push { cls:=.type "slice",data:=.fields #[vl,vu,.none] } }
 exact tail_any (ops:=[.ref s3.heap.objs.size,v]) ht hT hg (by with_unfolding_all rfl)
def cutV (xs:List V) (lo hi:Option Int):List V:=(xs.drop (HT.sIx xs.length 0 lo)).take (HT.sIx xs.length xs.length hi - HT.sIx xs.length 0 lo)
theorem HK (xs:List V) (lo hi:Option Int):(cutV xs lo hi).length<=xs.length:=by
 unfold cutV
 rw [List.length_take,List.length_drop]
 omega
def rSlT (K:PySem.W.Frag):V->Option Int->Option Int->Hp->VK->Prop:=fun x lo hi H Q=>∃ a xs,x=.ref a/\SqT K H a xs /\
 ¬ (HT.sIx xs.length 0 lo=0/\HT.sIx xs.length xs.length hi=xs.length)/\∀ p,H p=none->Q (.ref p) (upd H p (.tup (cutV xs lo hi)))
theorem sl_tup:SlR X (rSlT X.K):=by
 intro pins s σ H x v vl vu lo hi sl Q I rx hs pl pu h
 obtain ⟨a,xs,rfl,hx,hw,q⟩:=h
 cases rx
 obtain ⟨its,r,ht,hz⟩:=I.tuple hx
 have hlen:its.toArray.size=xs.length:=by rw [List.size_toArray];exact r.length.symm
 refine ⟨"tuple",_,PyProof.Rows.slot_tuple_getitem.lookup,ht.typeIs,?_⟩
 refine HT.Gs ht hs pl pu (by rw [hlen];exact hw) ?_ (by rw [hlen];exact hz)
 rw [hlen]
 refine ⟨.ref s.heap.objs.size,_,I.laid (t':=s.toks) (o:=.tup (cutV xs lo hi)) (fun b ob q=>Heap.get?_push_of_some _ q) (Nat.le_refl _) ?_,rfl,q _ (I.hok.fresh (Nat.le_refl _))⟩
 exact ⟨Nat.le_trans (HK xs lo hi) hz,_,(r.drop (HT.sIx xs.length 0 lo)).take (HT.sIx xs.length xs.length hi - HT.sIx xs.length 0 lo),IsTup.new _ _⟩
def rCatT (K:PySem.W.Frag):R2:=fun x y H Q=>∃ a b xs ys,x=.ref a/\y=.ref b/\SqT K H a xs/\SqT K H b ys/\xs≠[]/\xs.length+ys.length<=sizeLine /\
 (ys=[]->Q (.ref a) H)/\(ys≠[]->∀ p,H p=none->Q (.ref p) (upd H p (.tup (xs++ys))))
theorem Vals.nil_iff {xs:List V} {us:List Value} (r:Vals xs us):us=[]↔xs=[]:=by
 cases r with
 | nil=>simp
 | cons _ _=>simp
theorem op_catT:OpR X (binaryOp .Add) (rCatT X.K):=by
 intro pins s σ H x y v u Q I rx ry h
 obtain ⟨a,b,xs,ys,rfl,rfl,ha,hb,hx,hz,q1,q2⟩:=h
 cases rx
 cases ry
 obtain ⟨its,r1,p1,_⟩:=I.tuple ha
 obtain ⟨its2,r2,p2,_⟩:=I.tuple hb
 refine HT.cat_tup p1 p2 (fun z=>hx (r1.nil_iff.mp z)) (fun z=>⟨.ref a,H,I,rfl,q1 (r2.nil_iff.mp z)⟩) (fun z=>?_) (by rw [<- r1.length,<- r2.length];exact hz)
 refine ⟨.ref s.heap.objs.size,_,I.laid (t':=s.toks) (o:=.tup (xs++ys)) (fun b ob q=>Heap.get?_push_of_some _ q) (Nat.le_refl _) ?_,rfl,q2 (fun w=>z (r2.nil_iff.mpr w)) _ (I.hok.fresh (Nat.le_refl _))⟩
 exact ⟨by rw [List.length_append];exact hz,_,r1.append r2,IsTup.new _ _⟩
end
end L2
namespace L2
open PySem PySem.Spec PyProof.Rows
def ixN (n:Nat) (i:Int):Option Nat:=if 0<=i then (if i < n then some i.toNat else none) else if -(n:Int)<=i then some (i+n).toNat else none
def atI {α:Type} (xs:List α) (i:Int):Option α:=(ixN xs.length i).bind fun j=>xs[j]?
theorem ixN_seq {n:Nat} {i:Int} {j:Nat} (h:ixN n i=some j):seqIndex? i n=some j/\j < n/\-(n:Int)<=i/\i < n:=by
 unfold ixN at h
 by_cases h0:0<=i
 ·rw [if_pos h0] at h
  by_cases h1:i < n
  ·rw [if_pos h1] at h
   have e:i.toNat=j:=Option.some.inj h
   exact ⟨by rw [seqIndex_of h0 h1,e],by omega,by omega,h1⟩
  ·rw [if_neg h1] at h;cases h
 ·rw [if_neg h0] at h
  by_cases h1:-(n:Int)<=i
  ·rw [if_pos h1] at h
   have e:(i+n).toNat=j:=Option.some.inj h
   exact ⟨by rw [seqIndex_neg (by omega) h1,e],by omega,h1,by omega⟩
  ·rw [if_neg h1] at h;cases h
theorem atI_get {α:Type} {xs:List α} {i:Int} {v:α} (h:atI xs i=some v):∃ j,seqIndex? i xs.length=some j/\xs[j]?=some v/\j < xs.length/\-(xs.length:Int)<=i/\i < xs.length:=by
 unfold atI at h
 cases e:ixN xs.length i with
 | none=>rw [e] at h;cases h
 | some j =>
  rw [e] at h
  obtain ⟨h1,h2,h3,h4⟩:=ixN_seq e
  exact ⟨j,h1,h,h2,h3,h4⟩
theorem AD {α:Type} {xs:List α} {j:Nat} {v:α} (h:xs[j]?=some v):atI xs (j:Int)=some v:=by
 have hj:j < xs.length:=(List.getElem?_eq_some_iff.mp h).1
 have e:ixN xs.length (j:Int)=some j:=by
  unfold ixN
  rw [if_pos (by omega),if_pos (by omega)];simp
 unfold atI;rw [e];exact h
def PlainIx (b:Expr):Prop:=∀ o i,subscripted b false o i=operate [o,i] (getItem o i)
def IxR (X:Cx) (r:R2):Prop :=
 ∀ (value slice:Expr) (pins:List (Addr×Obj)) (s:Shared) (σ:St) (H:Hp) (x y:V) (v u:Value) (Q:VK),Inv X pins σ H s->RelV x v->RelV y u->r x y H Q ->
  subscripted slice false v u=operate [v,u] (getItem v u)->wpAny (model X.prog X.w) X.A (subscriptTail value slice v u) (EP X pins σ Q) X.xe s
def MtR (X:Cx) (id:String) (r:V->List V->Hp->VK->Prop):Prop :=
 ∀ (pins:List (Addr×Obj)) (s:Shared) (σ:St) (H:Hp) (x:V) (xs:List V) (v:Value) (us:List Value) (Q:VK),Inv X pins σ H s->RelV x v->Vals xs us->r x xs H Q ->
  wpAny (model X.prog X.w) X.A (call (.builtin id) (v :: us)) (EP X pins σ Q) X.xe s
section
variable {X:Cx} {a b:Expr} {ta tb:TE} {pos:Pos}
theorem IxR.or {r r':R2} (h:IxR X r) (h':IxR X r'):IxR X (fun x y H Q=>r x y H Q∨r' x y H Q):=by
 intro value slice pins s σ H x y v u Q I rx ry q hs
 rcases q with q | q
 ·exact h value slice pins s σ H x y v u Q I rx ry q hs
 ·exact h' value slice pins s σ H x y v u Q I rx ry q hs
theorem pe_ix {r:R2} (hr:IxR X r) (ha:PE X a ta) (hb:PE X b tb) (hs:PlainIx b):PE X (.Subscript a b pos) (tOp r ta tb):=by
 intro pins s σ H Q I h
 exact Subscript_ (binT ha hb I h fun v u s2 x y H2 I2 rx ry q=>hr a b pins s2 σ H2 x y v u Q I2 rx ry q (hs _ _))
def rIxL (K:PySem.W.Frag):R2:=fun x y H Q=>∃ p xs i v,x=.ref p/\y=.int i/\SqL K H p xs/\atI xs i=some v/\Q v H
def rIxT (K:PySem.W.Frag):R2:=fun x y H Q=>∃ p xs i v,x=.ref p/\y=.int i/\SqT K H p xs/\atI xs i=some v/\Q v H
def rIxS:R2:=fun x y H Q=>∃ z i c,x=.str z/\y=.int i/\z.length<=sizeLine/\atI z.cps.toList i=some c/\Q (.str ⟨#[c]⟩) H
theorem ix_list:IxR X (rIxL X.K):=by
 intro value slice pins s σ H x y v u Q I rx ry h hs
 obtain ⟨p,xs,i,z,rfl,rfl,hq,he,q⟩:=h
 cases rx
 obtain ⟨t,rfl⟩:=ry
 obtain ⟨its,r,pl,hz⟩:=I.list hq
 obtain ⟨j,h1,h2,h3,h4,h5⟩:=atI_get he
 obtain ⟨w,ew,rw'⟩:=r.get h2
 have hl:=r.length
 have hn:=Ht
 have fin:EP X pins σ Q w s:=⟨z,H,I,rw',q⟩
 by_cases h0:0<=i
 ·have hj:i.toNat=j:=by
   rw [seqIndex_of h0 h5] at h1
   exact Option.some.inj h1
  exact item_listR pl.isList h0 (by omega) (by rw [hj];simpa using ew) fin hs
 ·have hj:(i+(its.toArray.size:Int)).toNat=j:=by
   rw [seqIndex_neg (by omega) h4] at h1
   rw [List.size_toArray,<- hl]
   exact Option.some.inj h1
  exact subscriptTail_builtinR (x:=w) pl.isList.typeIs slot_list_getitem.lookup
   (wpAny_getItem_list_neg (Q:=fun r s'=>r=w/\EP X pins σ Q r s') pl.isList (by omega) (by rw [List.size_toArray] <;> omega) (by omega) (by rw [hj];simpa using ew) ⟨rfl,fin⟩) hs
theorem BV:IxR X (rIxT X.K):=by
 intro value slice pins s σ H x y v u Q I rx ry h hs
 obtain ⟨p,xs,i,z,rfl,rfl,hq,he,q⟩:=h
 cases rx
 obtain ⟨t,rfl⟩:=ry
 obtain ⟨its,r,pl,hz⟩:=I.tuple hq
 obtain ⟨j,h1,h2,h3,h4,h5⟩:=atI_get he
 obtain ⟨w,ew,rw'⟩:=r.get h2
 have hl:=r.length
 have hn:=Ht
 have fin:EP X pins σ Q w s:=⟨z,H,I,rw',q⟩
 exact subscriptTail_builtinR (x:=w) pl.typeIs slot_tuple_getitem.lookup
  (getItem_tuple (j:=j) (Q:=fun r s'=>r=w/\EP X pins σ Q r s') pl (by omega) (by omega) (by rw [List.size_toArray,<- hl];exact h1) (by simpa using ew) ⟨rfl,fin⟩) hs
theorem ix_str:IxR X rIxS:=by
 intro value slice pins s σ H x y v u Q I rx ry h hs
 obtain ⟨z,i,c,rfl,rfl,hz,he,q⟩:=h
 obtain ⟨t,rfl⟩:=rx
 obtain ⟨t',rfl⟩:=ry
 obtain ⟨j,h1,h2,h3,h4,h5⟩:=atI_get he
 have hl:z.cps.toList.length=z.length:=by simp [Str.length]
 rw [hl] at h1 h4 h5
 have hn:=Ht
 exact tail_any (typeIs_str s z t) slot_str_getitem.lookup (getItem_str (c:=c) (by
  have e1:decide (i < -(2 ^ 63:Int))=false:=decide_eq_false (by omega)
  have e2:decide (i≥2 ^ 63)=false:=decide_eq_false (by omega)
  rw [e1,e2,Bool.or_false]) (by rw [h1];simpa using h2) ⟨.str ⟨#[c]⟩,H,I.tok _,⟨_,rfl⟩,q⟩) hs
def rIx (K:PySem.W.Frag):R2:=fun x y H Q=>rIxL K x y H Q∨rIxT K x y H Q∨rIxS x y H Q
theorem ix_seq:IxR X (rIx X.K):=ix_list.or (BV.or ix_str)
theorem mapSeq_set (its:List Value) (n j:Nat) (u:Value):Obj.mapSeq (·.setIfInBounds j u) { cls:=.type "list",data:=.seq its.toArray n }={ cls:=.type "list",data:=.seq (its.set j u).toArray n }:=by
 simp [Obj.mapSeq]
theorem Inv.lst {pins:List (Addr×Obj)} {σ:St} {H:Hp} {s:Shared} {p:Addr} {xs:List V} (I:Inv X pins σ H s) (h:H p=some (.lst xs)) :
  ∃ (its:List Value) (n:Nat),Vals xs its/\s.heap.get? p=some { cls:=.type "list",data:=.seq its.toArray n }/\xs.length<=sizeLine:=by
 obtain ⟨z,its,n,r,e⟩:=I.hok p _ h
 exact ⟨its,n,r,e,z⟩
theorem Inv.lstUpd {pins:List (Addr×Obj)} {σ:St} {H:Hp} {s:Shared} {p:Addr} {xs ys:List V} {its its':List Value} {n n':Nat} {f:Obj->Obj} (I:Inv X pins σ H s) (h:H p=some (.lst xs))
  (ho:s.heap.get? p=some { cls:=.type "list",data:=.seq its.toArray n }) (hf:f { cls:=.type "list",data:=.seq its.toArray n }={ cls:=.type "list",data:=.seq its'.toArray n' }) (r:Vals ys its') (hz:ys.length<=sizeLine) (t:Nat) :
  Inv X pins σ (upd H p (.lst ys)) { s with heap:=s.heap.update p f,toks:=t }:=by
 have e:(s.heap.update p f).get? p=some { cls:=.type "list",data:=.seq its'.toArray n' }:=by
  rw [Heap.get?_update_self f ho (by rw [hf] <;> rfl),hf]
 refine I.write (x:=p) (e:=p) (by rw [h];trivial) (.inl rfl) (fun b u hb q=>(Heap.get?_update_other _ _ (Ne.symm hb)).trans q) ⟨_,e⟩ ?_
 exact ⟨hz,its',n',r,e⟩
def rSetL:V->V->V->Hp->(Hp->Prop)->Prop:=fun o i v H Q=>∃ p xs k j,o=.ref p/\i=.int k/\H p=some (.lst xs)/\ixN xs.length k=some j/\Q (upd H p (.lst (xs.set j v)))
theorem set_list:PSet X rSetL:=by
 intro pins s σ H o i v ov iv u Q I ro ri rv h
 obtain ⟨p,xs,k,j,rfl,rfl,hp,hj,q⟩:=h
 cases ro
 obtain ⟨t,rfl⟩:=ri
 obtain ⟨its,n,r,ho,hz⟩:=I.lst hp
 obtain ⟨h1,h2,h3,h4⟩:=ixN_seq hj
 have hl:=r.length
 have hn:=Ht
 have I':Inv X pins σ (upd H p (.lst (xs.set j v))) { s with heap:=s.heap.update p (Obj.mapSeq (·.setIfInBounds j u)) } :=
  I.lstUpd hp ho (mapSeq_set its n j u) (r.set rv j) (by rw [List.length_set];exact hz) s.toks
 by_cases h0:0<=k
 ·have hk:k.toNat=j:=by
   rw [seqIndex_of h0 h4] at h1
   exact Option.some.inj h1
  exact PySem.W.ki_setAt ho h0 (by omega) (by rw [List.size_toArray,<- hl];exact h4) (by rw [hk];exact ⟨_,I',q⟩)
 ·have hk:(k+(its.toArray.size:Int)).toNat=j:=by
   rw [seqIndex_neg (by omega) h3] at h1
   rw [List.size_toArray,<- hl]
   exact Option.some.inj h1
  exact PySem.W.ki_setBack ho (by omega) (by rw [List.size_toArray,<- hl];exact h3) (by omega) (by rw [hk];exact ⟨_,I',q⟩)
theorem slice_bounds (lo hi:Option Int) (n:Nat):(sliceBounds lo hi none n).1=((HT.sIx n 0 lo:Nat):Int)/\(sliceBounds lo hi none n).2.1=((HT.sIx n n hi:Nat):Int)/\(sliceBounds lo hi none n).2.2=1:=by
 refine ⟨?_,?_,rfl⟩
 ·cases lo with
  | none=>simp [sliceBounds,HT.sIx]
  | some i =>
   simp only [sliceBounds,HT.sIx,Option.getD_none,show (1:Int) > 0 by decide,if_true]
   by_cases h:i < 0
   ·simp only [h,if_true] <;> omega
   ·simp only [h,if_false] <;> omega
 ·cases hi with
  | none=>simp [sliceBounds,HT.sIx]
  | some i =>
   simp only [sliceBounds,HT.sIx,Option.getD_none,show (1:Int) > 0 by decide,if_true]
   by_cases h:i < 0
   ·simp only [h,if_true] <;> omega
   ·simp only [h,if_false] <;> omega
theorem slicePick_cut (its:List Value) (lo hi:Option Int):slicePick its.toArray lo hi none=((its.drop (HT.sIx its.length 0 lo)).take (HT.sIx its.length its.length hi - HT.sIx its.length 0 lo)).toArray:=by
 obtain ⟨h1,h2,h3⟩:=slice_bounds lo hi its.toArray.size
 unfold slicePick
 rw [h1,h2,h3]
 simp only [sliceRange_one,pick_run,List.size_toArray] <;> rfl
def rSlL (K:PySem.W.Frag):V->Option Int->Option Int->Hp->VK->Prop:=fun x lo hi H Q=>∃ a xs,x=.ref a/\SqL K H a xs/\∀ p,H p=none->Q (.ref p) (upd H p (.lst (cutV xs lo hi)))
theorem sl_list:SlR X (rSlL X.K):=by
 intro pins s σ H x v vl vu lo hi sl Q I rx hs pl pu h
 obtain ⟨a,xs,rfl,hx,q⟩:=h
 cases rx
 obtain ⟨its,r,ht,hz⟩:=I.list hx
 have hlen:=r.length
 refine ⟨"list",_,slot_list_getitem.lookup,ht.isList.typeIs,?_⟩
 refine wpAny_getItem_list_slice ht.isList hs pl pu .none (by simp) ?_ (by rw [List.size_toArray] <;> omega)
 rw [slicePick_cut,<- hlen]
 refine ⟨.ref s.heap.objs.size,_,I.laid (t':=s.toks) (o:=.lst (cutV xs lo hi)) (fun b ob q=>Heap.get?_push_of_some _ q) (Nat.le_refl _) ?_,rfl,q _ (I.hok.fresh (Nat.le_refl _))⟩
 exact ⟨Nat.le_trans (HK xs lo hi) hz,_,0,(r.drop (HT.sIx xs.length 0 lo)).take (HT.sIx xs.length xs.length hi - HT.sIx xs.length 0 lo),Heap.get?_push_size _ rfl⟩
def flatV:V->Bool
 | .non=>true
 | .bl _=>true
 | .int _=>true
 | .str _=>true
 | _=>false
def eqV:V->V->Bool
 | .non,.non=>true
 | .bl a,.bl b=>a == b
 | .bl a,.int b=>(if a then 1 else 0) == b
 | .int a,.bl b=>a == (if b then 1 else 0)
 | .int a,.int b=>a == b
 | .str a,.str b=>a == b
 | _,_=>false
theorem eqAt_V {A:Around} {s:Shared} {y x:V} {u v:Value} (ry:RelV y u) (rx:RelV x v) (fy:flatV y=true) (fx:flatV x=true):SeqAt.EqAt A s u v (eqV y x):=by
 cases y with
 | non =>
  cases ry
  cases x with
  | non=>cases rx;exact SeqAt.EqAt.same _
  | bl b=>cases rx;exact SeqAt.EqAt.none_bool b
  | int b=>obtain ⟨t,rfl⟩:=rx;exact SeqAt.EqAt.none_int b t
  | str b=>obtain ⟨t,rfl⟩:=rx;exact SeqAt.EqAt.none_str b t
  | _=>exact absurd (show false=true from fx) Bool.false_ne_true
 | bl a =>
  cases ry
  cases x with
  | non=>cases rx;exact SeqAt.EqAt.bool_none a
  | bl b=>cases rx;exact SeqAt.EqAt.bool_bool a b
  | int b=>obtain ⟨t,rfl⟩:=rx;exact SeqAt.EqAt.bool_int a b t
  | str b=>obtain ⟨t,rfl⟩:=rx;exact SeqAt.EqAt.bool_str a b t
  | _=>exact absurd (show false=true from fx) Bool.false_ne_true
 | int a =>
  obtain ⟨t',rfl⟩:=ry
  cases x with
  | non=>cases rx;exact SeqAt.EqAt.int_none a t'
  | bl b=>cases rx;exact SeqAt.EqAt.int_bool a t' b
  | int b=>obtain ⟨t,rfl⟩:=rx;exact SeqAt.EqAt.int_int a t' b t
  | str b=>obtain ⟨t,rfl⟩:=rx;exact SeqAt.EqAt.int_str a t' b t
  | _=>exact absurd (show false=true from fx) Bool.false_ne_true
 | str a =>
  obtain ⟨t',rfl⟩:=ry
  cases x with
  | non=>cases rx;exact SeqAt.EqAt.str_none a t'
  | bl b=>cases rx;exact SeqAt.EqAt.str_bool a t' b
  | int b=>obtain ⟨t,rfl⟩:=rx;exact SeqAt.EqAt.str_int a t' b t
  | str b=>obtain ⟨t,rfl⟩:=rx;exact SeqAt.EqAt.str_str a t' b t
  | _=>exact absurd (show false=true from fx) Bool.false_ne_true
 | _=>exact absurd (show false=true from fy) Bool.false_ne_true
def eqU (x:V) (u:Value):Bool:=match u with
 | .none=>eqV .non x
 | .bool b=>eqV (.bl b) x
 | .int i _=>eqV (.int i) x
 | .str z _=>eqV (.str z) x
 | _=>false
theorem eqU_of {x y:V} {u:Value} (r:RelV y u) (f:flatV y=true):eqU x u=eqV y x:=by
 cases y with
 | non=>cases r;rfl
 | bl b=>cases r;rfl
 | int i=>obtain ⟨t,rfl⟩:=r;rfl
 | str z=>obtain ⟨t,rfl⟩:=r;rfl
 | _=>exact absurd (show false=true from f) Bool.false_ne_true
theorem HS {x:V}:∀ {xs:List V} {us:List Value},Vals xs us->xs.all flatV=true->us.any (eqU x)=xs.any fun y=>eqV y x
 | _,_,.nil,_=>rfl
 | y :: xs,u :: us,.cons r t,f=>by
  rw [List.all_cons,Bool.and_eq_true] at f
  rw [List.any_cons,List.any_cons,eqU_of r f.1,HS t f.2]
theorem FD {A:Around} {s:Shared} {x:V} {v:Value} (rx:RelV x v) (fx:flatV x=true):∀ {xs:List V} {us:List Value},Vals xs us->xs.all flatV=true->∀ u∈us,SeqAt.EqAt A s u v (eqU x u)
 | _,_,.nil,_=>fun u hu=>by cases hu
 | y :: xs,u :: us,.cons r t,f=>fun u' hu=>by
  rw [List.all_cons,Bool.and_eq_true] at f
  rcases List.mem_cons.mp hu with rfl | hu
  ·rw [eqU_of r f.1];exact eqAt_V r rx f.1 fx
  ·exact FD rx fx t f.2 u' hu
def inV (x:V) (xs:List V):Bool:=xs.any fun y=>eqV y x
def rIn (K:PySem.W.Frag) (neg:Bool):R2:=fun x y H Q=>∃ p xs,y=.ref p/\(SqL K H p xs∨SqT K H p xs)/\flatV x=true/\xs.all flatV=true/\Q (.bl (if neg then !inV x xs else inV x xs)) H
theorem op_in_seq:OpR X (compareOp .In) (rIn X.K false):=by
 intro pins s σ H x y v u Q I rx ry h
 obtain ⟨p,xs,rfl,hq,fx,fs,q⟩:=h
 cases ry
 rcases hq with hq | hq
 ·obtain ⟨its,r,pl,hz⟩:=I.list hq
  refine SeqAt.in_listAt (eqU x) pl.isList (fun w hw=>FD rx fx r fs w (by simpa using hw)) ⟨.bl _,H,I,rfl,?_⟩
  rw [show its.toArray.any (eqU x)=its.any (eqU x) by simp,HS r fs]
  exact q
 ·obtain ⟨its,r,pl,hz⟩:=I.tuple hq
  refine SeqAt.in_tupleAt (eqU x) pl (fun w hw=>FD rx fx r fs w (by simpa using hw)) ⟨.bl _,H,I,rfl,?_⟩
  rw [show its.toArray.any (eqU x)=its.any (eqU x) by simp,HS r fs]
  exact q
theorem op_notIn_seq:OpR X (compareOp .NotIn) (rIn X.K true):=by
 intro pins s σ H x y v u Q I rx ry h
 obtain ⟨p,xs,rfl,hq,fx,fs,q⟩:=h
 cases ry
 rcases hq with hq | hq
 ·obtain ⟨its,r,pl,hz⟩:=I.list hq
  refine SeqAt.notIn_listAt (eqU x) pl.isList (fun w hw=>FD rx fx r fs w (by simpa using hw)) ⟨.bl _,H,I,rfl,?_⟩
  rw [show its.toArray.any (eqU x)=its.any (eqU x) by simp,HS r fs]
  exact q
 ·obtain ⟨its,r,pl,hz⟩:=I.tuple hq
  refine SeqAt.notIn_tupleAt (eqU x) pl (fun w hw=>FD rx fx r fs w (by simpa using hw)) ⟨.bl _,H,I,rfl,?_⟩
  rw [show its.toArray.any (eqU x)=its.any (eqU x) by simp,HS r fs]
  exact q
theorem op_notIn_str:OpR X (compareOp .NotIn) (fun x y H Q=>∃ i j,x=.str i/\y=.str j/\Q (.bl (!(!(Builtin.Str.occurrences j i 0 j.length 1).isEmpty))) H):=by
 intro pins s σ H x y v u Q I rx ry h
 obtain ⟨i,j,rfl,rfl,q⟩:=h
 obtain ⟨t,rfl⟩:=rx
 obtain ⟨t',rfl⟩:=ry
 exact notIn_str ⟨.bl _,H,I,rfl,q⟩
theorem call_len_seq:DO X (.builtin "len") (fun xs H Q=>∃ p ys,xs=[.ref p]/\(SqL X.K H p ys∨SqT X.K H p ys)/\Q (.int ys.length) H):=by
 intro pins s σ H xs us Q I r h
 obtain ⟨p,ys,rfl,hq,q⟩:=h
 obtain ⟨u,rfl,rx⟩:=vals1 r
 cases rx
 have hn:=Ht
 rcases hq with hq | hq
 ·obtain ⟨its,r',pl,hz⟩:=I.list hq
  have hlen:=r'.length
  exact Calls.call_len_list pl.isList (by simp only [List.size_toArray] <;> omega) ⟨.int ys.length,H,I.tok _,⟨s.toks+1,by rw [List.size_toArray,hlen]⟩,q⟩
 ·obtain ⟨its,r',pl,hz⟩:=I.tuple hq
  have hlen:=r'.length
  exact len_tuple pl (by simp only [List.size_toArray] <;> omega) ⟨.int ys.length,H,I.tok _,⟨s.toks+1,by rw [List.size_toArray,hlen]⟩,q⟩
theorem call_len_str:DO X (.builtin "len") (fun xs H Q=>∃ z,xs=[.str z]/\z.length<=sizeLine/\Q (.int z.length) H):=by
 intro pins s σ H xs us Q I r h
 obtain ⟨z,rfl,hz,q⟩:=h
 obtain ⟨u,rfl,t,rfl⟩:=vals1 r
 have hn:=Ht
 exact len_str (by omega) ⟨.int z.length,H,I.tok _,⟨_,rfl⟩,q⟩
theorem call_list_of:DO X (.type "list") (fun xs H Q=>∃ p ys,xs=[.ref p]/\(SqL X.K H p ys∨SqT X.K H p ys)/\∀ l,H l=none->Q (.ref l) (upd H l (.lst ys))):=by
 intro pins s σ H xs us Q I r h
 obtain ⟨p,ys,rfl,hq,q⟩:=h
 obtain ⟨u,rfl,rx⟩:=vals1 r
 cases rx
 have fin:∀ (its:List Value),Vals ys its->ys.length<=sizeLine->∀ (h':Heap) (c':Nat),(∀ b o',s.heap.get? b=some o'->h'.get? b=some o') ->
   h'.get? s.heap.objs.size=some { cls:=.type "list",dict:=none,data:=.seq its.toArray c',slots:=#[] }->EP X pins σ Q (.ref s.heap.objs.size) { s with heap:=h' }:=fun its r' hz h' c' kp e =>
  ⟨.ref s.heap.objs.size,_,I.laid (t':=s.toks) kp (Nat.le_refl _) (show CU X.prog X.w _ h' _ (.lst ys) from ⟨hz,its,c',r',e⟩),rfl,q _ (I.hok.fresh (Nat.le_refl _))⟩
 rcases hq with hq | hq
 ·obtain ⟨its,r',pl,hz⟩:=I.list hq
  have hlen:=r'.length
  obtain ⟨o,ho,hc,n,hd⟩:=pl.isList
  exact call_list_seq p (.inl rfl) ho hc hd (fun h' c' kp e=>fin its r' hz h' c' kp e) (by simp only [List.size_toArray] <;> omega)
 ·obtain ⟨its,r',pl,hz⟩:=I.tuple hq
  have hlen:=r'.length
  obtain ⟨o,ho,hc,n,hd⟩:=pl
  exact call_list_seq p (.inr rfl) ho hc hd (fun h' c' kp e=>fin its r' hz h' c' kp e) (by simp only [List.size_toArray] <;> omega)
theorem call_tuple_of:DO X (.type "tuple") (fun xs H Q=>∃ p ys,xs=[.ref p]/\((SqL X.K H p ys/\∀ l,H l=none->Q (.ref l) (upd H l (.tup ys)))∨(SqT X.K H p ys/\Q (.ref p) H))):=by
 intro pins s σ H xs us Q I r h
 obtain ⟨p,ys,rfl,h⟩:=h
 obtain ⟨u,rfl,rx⟩:=vals1 r
 cases rx
 rcases h with ⟨hq,q⟩ | ⟨hq,q⟩
 ·obtain ⟨its,r',pl,hz⟩:=I.list hq
  have hlen:=r'.length
  refine call_tuple_list pl.isList (fun h' kp=>?_) (by simp only [List.size_toArray] <;> omega)
  have I1:Inv X pins σ H { s with heap:=h' }:=I.kept (t':=s.toks) kp
  have I2:Inv X pins σ (upd H h'.objs.size (.tup ys)) { s with heap:=h'.push { cls:=.type "tuple",data:=.seq its.toArray } } :=
   I1.laid (t':=s.toks) (fun b o e=>Heap.get?_push_of_some _ e) (Nat.le_refl _) (show CU X.prog X.w _ _ _ (.tup ys) from ⟨hz,its,r',IsTup.new _ _⟩)
  exact ⟨.ref h'.objs.size,_,I2,rfl,q _ (I1.hok.fresh (Nat.le_refl _))⟩
 ·obtain ⟨its,r',pl,hz⟩:=I.tuple hq
  exact call_tuple_same pl ⟨.ref p,H,I,rfl,q⟩
def tyV (K:PySem.W.Frag) (T:String) (x:V) (H:Hp):Prop:=match x with
 | .str _=>T="str"
 | .int _=>T="int"
 | .ref p=>(T="list"/\∃ xs,SqL K H p xs)∨(T="tuple"/\∃ o,K.lookup p=some o/\o.cls=.type "tuple"/\o.dict=none) ∨
   (T="dict"/\((∃ kvs,H p=some (.dK kvs))∨∃ kvs,H p=some (.dT kvs)))∨(T="set"/\∃ S n,H p=some (.set S n))
 | _=>False
theorem tyV_is {pins:List (Addr×Obj)} {σ:St} {H:Hp} {s:Shared} {T:String} {x:V} {v:Value} (I:Inv X pins σ H s) (r:RelV x v) (ty:tyV X.K T x H) :
  s.TypeIs v T/\∀ a,v=.ref a->∃ ob,s.heap.get? a=some ob/\ob.dict=none:=by
 cases x with
 | str z =>
  obtain ⟨t,rfl⟩:=r
  cases (show T="str" from ty)
  exact ⟨typeIs_str s z t,fun _ e=>nomatch e⟩
 | int i =>
  obtain ⟨t,rfl⟩:=r
  cases (show T="int" from ty)
  exact ⟨typeIs_int s i t,fun _ e=>nomatch e⟩
 | ref p =>
  cases r
  rcases ty with ⟨rfl,xs,hq⟩ | ⟨rfl,o,hk,hc,hd⟩ | ⟨rfl,hk⟩ | ⟨rfl,S,n,hk⟩
  ·obtain ⟨its,_,pl,_⟩:=I.list hq
   refine ⟨pl.isList.typeIs,fun a e=>?_⟩
   cases e
   obtain ⟨o,n,e,c,hd,_⟩:=pl
   exact ⟨o,e,hd⟩
  ·refine ⟨⟨o,I.kIn p o hk,hc⟩,fun a e=>?_⟩
   cases e
   exact ⟨o,I.kIn _ o hk,hd⟩
  ·have z:∃ o,s.heap.get? p=some o/\o.ExactDict:=by
    rcases hk with ⟨kvs,hk⟩ | ⟨kvs,hk⟩
    ·obtain ⟨_,_,_,_,o,_,_,e,ex,_⟩:=I.hok p _ hk
     exact ⟨o,e,ex⟩
    ·obtain ⟨_,_,_,_,o,_,_,e,ex,_⟩:=I.hok p _ hk
     exact ⟨o,e,ex⟩
   obtain ⟨o,e,ex⟩:=z
   refine ⟨⟨o,e,ex.1⟩,fun a e2=>?_⟩
   cases e2
   exact ⟨o,e,ex.2.1⟩
  ·obtain ⟨o,_,_,_,e,ex,_⟩:=I.hok p _ hk
   refine ⟨⟨o,e,ex.1⟩,fun a e2=>?_⟩
   cases e2
   exact ⟨o,e,ex.2.1⟩
 | _=>exact False.elim ty
def tBM0 (K:PySem.W.Frag) (T:String) (r:V->List V->Hp->VK->Prop) (to:TE):TE:=fun σ H Q=>to σ H fun x H1=>tyV K T x H1/\r x [] H1 Q
def tBM (K:PySem.W.Frag) (T:String) (r:V->List V->Hp->VK->Prop) (to:TE) (t:TA):TE:=fun σ H Q=>to σ H fun x H1=>tyV K T x H1/\t σ H1 fun xs H2=>r x xs H2 Q
variable {o e:Expr} {es:List Expr} {to:TE} {t:TA} {name:Str} {apos cpos:Pos} {T id:String} {r:V->List V->Hp->VK->Prop}
theorem pe_bm0 (pa:PlainAttrs T) (slot:Slot T name id) (hty:typeOf (.builtin id)=pure (.type "method_descriptor")) (hm:MtR X id r) (ho:PE X o to)
  (hbase:attributeBase o name X.env (eval o X.env)=eval o X.env:=by rfl) (hline:(apos.endLine == cpos.line)=true:=by rfl):PE X (.Call (.Attribute o name apos) [] [] cpos) (tBM0 X.K T r to):=by
 intro pins s σ H Q I h
 refine wpAny_Call_method0_late hbase hline (thn (ho pins s σ H _ I h) fun v s1 ⟨x,H1,I1,r1,ty,q1⟩=>?_)
 obtain ⟨h1,h2⟩:=tyV_is I1 r1 ty
 exact ⟨T,id,pa,slot,hty,h1,h2,Calls.callWith_builtin rfl (PySem.evalArgs_none (hm pins s1 σ H1 x [] v [] Q I1 r1 .nil q1))⟩
theorem pe_bm (pa:PlainAttrs T) (slot:Slot T name id) (hty:typeOf (.builtin id)=pure (.type "method_descriptor")) (hm:MtR X id r) (ho:PE X o to) (ha:PA X (e :: es) t)
  (hbase:attributeBase o name X.env (eval o X.env)=eval o X.env:=by rfl)
  (hfew:((backTo cpos (starEach (e :: es) X.env)).all (fun x=>!x.1) && (backToKw cpos (keywordEach [] X.env)).all (fun x=>x.1.isSome)
   && decide ((e :: es).length+([]:List Keyword).length+(if ([]:List Keyword).isEmpty then 0 else 1) < 30))=true:=by rfl)
  (hline:(apos.endLine == cpos.line)=true:=by rfl) (hs:starEach (e :: es) X.env=(false,eval e X.env) :: starEach es X.env:=by rfl) (hplain:(backTo cpos (starEach es X.env)).any (·.1)=false:=by rfl) :
  PE X (.Call (.Attribute o name apos) (e :: es) [] cpos) (tBM X.K T r to t):=by
 intro pins s σ H Q I h
 refine wpAny_Call_method_late hbase hfew hline rfl (thn (ho pins s σ H _ I h) fun v s1 ⟨x,H1,I1,r1,ty,q1⟩=>?_)
 obtain ⟨h1,h2⟩:=tyV_is I1 r1 ty
 refine ⟨T,id,pa,slot,hty,h1,h2,?_⟩
 have hA:=ha cpos pins s1 σ H1 _ I1 q1
 rw [hs] at hA ⊢
 refine Calls.callWith_builtin (by show (false || (backTo cpos (starEach es X.env)).any (·.1))=false;rw [hplain] <;> rfl) (Calls.evalArgs_plain ?_)
 exact thn hA fun us s2 ⟨vs,H2,I2,r2,q2⟩=>hm pins s2 σ H2 x vs v us Q I2 r1 r2 q2
end
end L2
namespace L2
open PySem PySem.Spec PyProof.Rows
def MtM (X:Cx) (id:String) (r:V->List V->Hp->VK->Prop):Prop :=
 ∀ (pins:List (Addr×Obj)) (s:Shared) (σ:St) (H:Hp) (x:V) (xs:List V) (v:Value) (us:List Value) (Q:VK),Inv X pins σ H s->RelV x v->Vals xs us->r x xs H Q ->
  wpAny (model X.prog X.w) X.A (call (.builtin id) (v :: us)) (EP X pins σ Q) X.xe s
theorem Vals.one:∀ {x:V} {us:List Value},Vals [x] us->∃ u,us=[u]/\RelV x u
 | _,_,.cons r .nil=>⟨_,rfl,r⟩
theorem Vals.zero:∀ {us:List Value},Vals [] us->us=[]
 | _,.nil=>rfl
theorem Vals.dropLast {xs:List V} {us:List Value} (h:Vals xs us):Vals xs.dropLast us.dropLast:=by
 induction h with
 | nil=>exact .nil
 | cons r t ih =>
  cases t with
  | nil=>exact .nil
  | cons q t'=>exact .cons r ih
theorem Vals.reverse {xs:List V} {us:List Value} (h:Vals xs us):Vals xs.reverse us.reverse:=by
 induction h with
 | nil=>exact .nil
 | cons r t ih=>rw [List.reverse_cons,List.reverse_cons];exact Vals.append ih (.cons r .nil)
theorem erase_last {α:Type} (l:List α):l.eraseIdx (l.length - 1)=l.dropLast:=by
 induction l with
 | nil=>rfl
 | cons a r ih =>
  cases r with
  | nil=>rfl
  | cons b r =>
   have e:(a :: b :: r).length - 1=((b :: r).length - 1)+1:=by
    have h1:(a :: b :: r).length=r.length+2:=rfl
    have h2:(b :: r).length=r.length+1:=rfl
    omega
   rw [e,List.eraseIdx_cons_succ,ih]
   all_goals rfl
section
variable {X:Cx} {pins:List (Addr×Obj)} {σ:St} {H:Hp} {s:Shared} {l b:Addr} {xs ys zs:List V}
theorem Inv.lset {its its':List Value} {n:Nat} {f:Array Value->Array Value} {t':Nat} (I:Inv X pins σ H s) (hH:H l=some (.lst xs))
  (e:s.heap.get? l=some { cls:=.type "list",data:=.seq its.toArray n }) (hf:f its.toArray=its'.toArray) (hv:Vals ys its') (hz:ys.length<=sizeLine) :
  Inv X pins σ (upd H l (.lst ys)) { s with heap:=s.heap.update l (Obj.mapSeq f),toks:=t' }:=by
 have q:=PySem.IsL.update e f
 rw [hf] at q
 refine I.write (x:=l) (e:=l) (by rw [hH];exact trivial) (.inl rfl) (fun b' u hb hu=>(Heap.get?_update_other s.heap (Obj.mapSeq f) (Ne.symm hb)).trans hu) ⟨_,q⟩ ?_
 exact ⟨hz,its',_,hv,q⟩
theorem Inv.lnew {its:List Value} {t':Nat} (I:Inv X pins σ H s) (hv:Vals ys its) (hz:ys.length<=sizeLine) :
  Inv X pins σ (upd H s.heap.objs.size (.lst ys)) { s with heap:=s.heap.push { cls:=.type "list",data:=.seq its.toArray },toks:=t' } :=
 I.laid (fun _ _ q=>Heap.get?_push_of_some _ q) (Nat.le_refl _) ⟨hz,its,0,hv,Heap.get?_push_size _ rfl⟩
theorem Inv.fresh (I:Inv X pins σ H s):H s.heap.objs.size=none:=I.hok.fresh (Nat.le_refl _)
theorem Inv.lstM (I:Inv X pins σ H s) (hH:H l=some (.lst xs)):xs.length<=sizeLine/\∃ (its:List Value) (n:Nat),Vals xs its/\xs.length=its.length/\s.heap.get? l=some { cls:=.type "list",data:=.seq its.toArray n }:=by
 obtain ⟨z,its,n,r,e⟩:=I.hok l _ hH
 exact ⟨z,its,n,r,r.length,e⟩
theorem notLongL {n:Nat} (h:n<=sizeLine):Builtin.List.listTooLong n=false:=by
 unfold Builtin.List.listTooLong
 exact decide_eq_false (by omega)
end
section
variable {X:Cx}
def rAppend:V->List V->Hp->VK->Prop:=fun x vs H Q=>∃ l xs y,x=.ref l/\vs=[y]/\H l=some (.lst xs)/\xs.length < sizeLine/\Q .non (upd H l (.lst (xs++[y])))
theorem Dj:MtM X "list.append" rAppend:=by
 intro pins s σ H x vs v us Q I rx rv h
 obtain ⟨l,xs,y,rfl,rfl,hH,hz,q⟩:=h
 cases rx
 obtain ⟨u,rfl,ru⟩:=rv.one
 obtain ⟨z,its,n,r,hl,e⟩:=I.lstM hH
 refine call_meets F.slot_list_append ⟨_,e,rfl⟩ F.entry_list_append (F.args_list_append_2 _ _) (PySem.list_append l its.toArray n u (by rw [List.size_toArray];omega)) ⟨e,?_⟩
 refine ⟨.non,_,I.lset (its':=its++[u]) hH e (by simp) (r.append (.cons ru .nil)) ?_,rfl,q⟩
 rw [List.length_append,List.length_singleton]
 omega
def rExtend:V->List V->Hp->VK->Prop:=fun x vs H Q=>∃ l b xs zs,x=.ref l/\vs=[.ref b]/\H l=some (.lst xs)/\H b=some (.lst zs)/\xs.length+zs.length<=sizeLine/\Q .non (upd H l (.lst (xs++zs)))
theorem mt_extend:MtM X "list.extend" rExtend:=by
 intro pins s σ H x vs v us Q I rx rv h
 obtain ⟨l,b,xs,zs,rfl,rfl,hH,hB,hz,q⟩:=h
 cases rx
 obtain ⟨u,rfl,ru⟩:=rv.one
 cases ru
 obtain ⟨z,its,n,r,hl,e⟩:=I.lstM hH
 obtain ⟨z2,its2,n2,r2,hl2,e2⟩:=I.lstM hB
 have hsz:its.toArray.size+its2.toArray.size<=sizeLine:=by rw [List.size_toArray,List.size_toArray];omega
 have hlong:¬ (!its.toArray.isEmpty && Builtin.List.listTooLong (its.toArray.size+its2.toArray.size))=true:=by
  rw [notLongL hsz,Bool.and_false]
  exact Bool.false_ne_true
 refine call_meets F.slot_list_extend ⟨_,e,rfl⟩ F.entry_list_extend (F.args_list_extend_2 _ _)
  (AutoSeq1.list_extend_list_list_0 l its.toArray n b its2.toArray n2 hlong (by rw [List.size_toArray];omega) (by omega)) ⟨e,e2,?_⟩
 refine ⟨.non,_,I.lset (its':=its++its2) hH e (by simp) (r.append r2) ?_,rfl,q⟩
 rw [List.length_append]
 omega
def rPop:V->List V->Hp->VK->Prop:=fun x vs H Q=>∃ l xs y,x=.ref l/\vs=[]/\H l=some (.lst xs)/\xs[xs.length - 1]?=some y/\Q y (upd H l (.lst xs.dropLast))
theorem mt_pop:MtM X "list.pop" rPop:=by
 intro pins s σ H x vs v us Q I rx rv h
 obtain ⟨l,xs,y,rfl,rfl,hH,hy,q⟩:=h
 cases rx
 have hus:=rv.zero
 subst hus
 obtain ⟨z,its,n,r,hl,e⟩:=I.lstM hH
 obtain ⟨u,hu,ru⟩:=r.get hy
 have hy':its.toArray[its.toArray.size - 1]?=some u:=by
  show its.toArray[its.length - 1]?=some u
  rw [<- Array.getElem?_toList,<- hl]
  exact hu
 refine call_meets F.slot_list_pop ⟨_,e,rfl⟩ F.entry_list_pop (F.args_list_pop_1 _) (MeetsSeq.list_pop_last l its.toArray n u hy' (by rw [List.size_toArray];omega)) ⟨e,?_⟩
 refine ⟨y,_,I.lset (its':=its.dropLast) hH e ?_ r.dropLast ?_,ru,q⟩
 ·show its.toArray.eraseIdxIfInBounds (its.toArray.size - 1)=its.dropLast.toArray
  rw [List.size_toArray,List.eraseIdxIfInBounds_toArray,erase_last]
 ·rw [List.length_dropLast]
  omega
def rClear:V->List V->Hp->VK->Prop:=fun x vs H Q=>∃ l xs,x=.ref l/\vs=[]/\H l=some (.lst xs)/\Q .non (upd H l (.lst []))
theorem mt_clear:MtM X "list.clear" rClear:=by
 intro pins s σ H x vs v us Q I rx rv h
 obtain ⟨l,xs,rfl,rfl,hH,q⟩:=h
 cases rx
 have hus:=rv.zero
 subst hus
 obtain ⟨z,its,n,r,hl,e⟩:=I.lstM hH
 refine call_meets F.slot_list_clear ⟨_,e,rfl⟩ F.entry_list_clear (F.args_list_clear_1 _) (AutoSeq1.list_clear_list_0 l its.toArray n (by rw [List.size_toArray];omega)) ⟨e,?_⟩
 exact ⟨.non,_,I.lset (its':=[]) (ys:=[]) hH e rfl .nil (Nat.zero_le _),rfl,q⟩
def rCat:R2:=fun x y H Q=>∃ l b xs zs,x=.ref l/\y=.ref b/\H l=some (.lst xs)/\H b=some (.lst zs)/\xs.length+zs.length<=sizeLine/\∀ p,H p=none->Q (.ref p) (upd H p (.lst (xs++zs)))
theorem op_cat:OpR X (binaryOp .Add) rCat:=by
 intro pins s σ H x y v u Q I rx ry h
 obtain ⟨l,b,xs,zs,rfl,rfl,hH,hB,hz,q⟩:=h
 cases rx
 cases ry
 obtain ⟨z,its,n,r,hl,e⟩:=I.lstM hH
 obtain ⟨z2,its2,n2,r2,hl2,e2⟩:=I.lstM hB
 refine PySem.P.add_list e e2 ?_ (by rw [List.size_toArray,List.size_toArray];omega)
 have ea:its.toArray++its2.toArray=(its++its2).toArray:=by simp
 rw [ea]
 exact ⟨.ref _,_,I.lnew (t':=s.toks) (r.append r2) (by rw [List.length_append];omega),rfl,q _ I.fresh⟩
end
section
variable {prog:Program} {w:World} {A:Around} {E:Value->Shared->Prop} {s:Shared}
set_option maxRecDepth 100000 in
end
section
variable {X:Cx}
end
end L2
namespace L2
open PySem PySem.Spec PyProof.Rows
section
variable {κ:Type} [DecidableEq κ]
def valV (kvs:List (κ×V)) (k:κ):Option V:=(kvs.find? fun kv=>decide (kv.1=k)).map (·.2)
def putK (kvs:List (κ×V)) (k:κ) (v:V):List (κ×V) :=
 if (kvs.any fun kv=>decide (kv.1=k))=true then kvs.map (fun kv=>if kv.1=k then (kv.1,v) else kv) else kvs++[(k,v)]
theorem GO {p:κ×V} {r:List (κ×V)} {k:κ} (e:p.1=k):valV (p :: r) k=some p.2:=by simp [valV,List.find?_cons,e]
theorem GP {p:κ×V} {r:List (κ×V)} {k:κ} (e:¬ p.1=k):valV (p :: r) k=valV r k:=by simp [valV,List.find?_cons,e]
theorem valV_any (k:κ):∀ kvs:List (κ×V),(kvs.any fun kv=>decide (kv.1=k))=(valV kvs k).isSome
 | []=>rfl
 | p :: r=>by
  rw [List.any_cons]
  by_cases e:p.1=k
  ·simp only [GO e,decide_eq_true e,Bool.true_or,Option.isSome_some]
  ·rw [GP e,decide_eq_false e,Bool.false_or];exact valV_any k r
theorem Hu (kvs:List (κ×V)) (k:κ) (v:V):(putK kvs k v).length<=kvs.length+1:=by
 unfold putK
 split
 ·rw [List.length_map];omega
 ·rw [List.length_append,List.length_cons,List.length_nil];omega
theorem Bf.EL {o:Option V} {u:Option Value} (r:Bf o u):o.isSome=u.isSome:=by
 cases o with
 | none=>cases u with
  | none=>rfl
  | some _=>exact (show False from r).elim
 | some _=>cases u with
  | none=>exact (show False from r).elim
  | some _=>rfl
theorem Bf.getD {o:Option V} {u:Option Value} {d:V} {d':Value} (r:Bf o u) (rd:RelV d d'):RelV (o.getD d) (u.getD d'):=by
 cases o with
 | none=>cases u with
  | none=>exact rd
  | some _=>exact (show False from r).elim
 | some _=>cases u with
  | none=>exact (show False from r).elim
  | some _=>exact r
theorem KV.val {kvs:List (κ×V)} {vs:List (κ×Value)} (r:KV kvs vs) (k:κ):Bf (valV kvs k) (valueAt vs k):=by
 unfold KV at r
 induction r with
 | nil=>exact True.intro
 | @cons p q ps qs h t ih =>
  obtain ⟨h1,h2⟩:=h
  by_cases e:p.1=k
  ·have e':q.1=k:=h1.symm.trans e
   have b:valueAt (q :: qs) k=some q.2:=by simp [valueAt,List.find?_cons,e']
   rw [GO e,b];exact h2
  ·have e':¬ q.1=k:=fun z=>e (h1.trans z)
   have b:valueAt (q :: qs) k=valueAt qs k:=by simp [valueAt,List.find?_cons,e']
   rw [GP e,b];exact ih
theorem KV.any {kvs:List (κ×V)} {vs:List (κ×Value)} (r:KV kvs vs) (k:κ):(kvs.any fun kv=>decide (kv.1=k))=vs.any fun kv=>decide (kv.1=k):=by
 unfold KV at r
 induction r with
 | nil=>rfl
 | cons h t ih=>rw [List.any_cons,List.any_cons,ih,h.1]
theorem KV.repl {kvs:List (κ×V)} {vs:List (κ×Value)} (r:KV kvs vs) (k:κ) {y:V} {u:Value} (ry:RelV y u) :
  KV (kvs.map fun kv=>if kv.1=k then (kv.1,y) else kv) (vs.map fun kv=>if kv.1=k then (kv.1,u) else kv):=by
 unfold KV at r ⊢
 induction r with
 | nil=>exact .nil
 | @cons p q ps qs h t ih =>
  rw [List.map_cons,List.map_cons]
  refine .cons ?_ ih
  obtain ⟨h1,h2⟩:=h
  by_cases e:p.1=k
  ·rw [if_pos e,if_pos (h1.symm.trans e)];exact ⟨h1,ry⟩
  ·rw [if_neg e,if_neg (fun z=>e (h1.trans z))];exact ⟨h1,h2⟩
theorem KV.put {kvs:List (κ×V)} {vs:List (κ×Value)} (r:KV kvs vs) (k:κ) {y:V} {u:Value} (ry:RelV y u):KV (putK kvs k y) (stored vs k u):=by
 unfold putK stored
 rw [r.any k]
 by_cases e:(vs.any fun kv=>decide (kv.1=k))=true
 ·rw [if_pos e,if_pos e];exact r.repl k ry
 ·rw [if_neg e,if_neg e];exact Paired.snoc r ⟨rfl,ry⟩
theorem KV.length {kvs:List (κ×V)} {vs:List (κ×Value)} (r:KV kvs vs):kvs.length=vs.length:=Paired.length r
end
theorem kV_is {P:Program} {w:World} {k:Key} {u:Value} (r:RelV (kV k) u):(Ct P w).is k u=true:=by
 cases k with
 | inl i=>obtain ⟨t,e⟩:=(show ∃ t,u=Value.int i t from r);subst e;exact mixKind_int P w i t
 | inr x=>obtain ⟨t,e⟩:=(show ∃ t,u=Value.str x t from r);subst e;exact mixKind_str P w x t
theorem items_are {P:Program} {w:World}:∀ {ks:List Key} {us:List Value},Vals (ks.map kV) us->ItemsAre (Ct P w) ks us
 | [],_,r=>by rw [List.map_nil] at r;cases r;exact .nil
 | k :: ks,_,r=>by
  rw [List.map_cons] at r
  cases r with
  | cons h t=>exact .cons (kV_is h) (items_are t)
abbrev KT (H:Hp):List (List Key×V)->List (List Key×Addr×Value)->Prop:=Paired fun p q=>p.1=q.1/\H q.2.1=some (.tup (p.1.map kV))/\RelV p.2 q.2.2
theorem KT.val {H:Hp} {kvs:List (List Key×V)} {xs:List (List Key×Addr×Value)} (r:KT H kvs xs) (k:List Key):Bf (valV kvs k) ((atKey xs k).map (·.2)):=by
 induction r with
 | nil=>exact True.intro
 | @cons p q ps qs h t ih =>
  obtain ⟨h1,_,h2⟩:=h
  by_cases e:p.1=k
  ·have e':q.1=k:=h1.symm.trans e
   have b:atKey (q :: qs) k=some q.2:=by simp [atKey,List.find?_cons,e']
   rw [GO e,b];exact h2
  ·have e':¬ q.1=k:=fun z=>e (h1.trans z)
   have b:atKey (q :: qs) k=atKey qs k:=by simp [atKey,List.find?_cons,e']
   rw [GP e,b];exact ih
theorem KT.repl {H:Hp} {kvs:List (List Key×V)} {xs:List (List Key×Addr×Value)} (r:KT H kvs xs) (k:List Key) {y:V} {u:Value} (ry:RelV y u) :
  KT H (kvs.map fun kv=>if kv.1=k then (kv.1,y) else kv) (xs.map (putAt k u)):=by
 induction r with
 | nil=>exact .nil
 | @cons p q ps qs h t ih =>
  rw [List.map_cons,List.map_cons]
  refine .cons ?_ ih
  obtain ⟨h1,h2,h3⟩:=h
  unfold putAt
  by_cases e:p.1=k
  ·rw [if_pos e,if_pos (h1.symm.trans e)];exact ⟨h1,h2,ry⟩
  ·rw [if_neg e,if_neg (fun z=>e (h1.trans z))];exact ⟨h1,h2,h3⟩
theorem KT.put {H:Hp} {kvs:List (List Key×V)} {xs:List (List Key×Addr×Value)} (r:KT H kvs xs) (k:List Key) {b:Addr} {y:V} {u:Value} (hb:H b=some (.tup (k.map kV))) (ry:RelV y u) :
  KT H (putK kvs k y) (storedH xs k b u):=by
 have e:(kvs.any fun kv=>decide (kv.1=k))=(atKey xs k).isSome:=by
  rw [valV_any,(r.val k).EL,Option.isSome_map]
 unfold putK storedH
 rw [e]
 by_cases q:(atKey xs k).isSome=true
 ·rw [if_pos q,if_pos q];exact r.repl k ry
 ·rw [if_neg q,if_neg q];exact Paired.snoc r ⟨rfl,hb,ry⟩
theorem KT.keeps {H H':Hp} {kvs:List (List Key×V)} {xs:List (List Key×Addr×Value)} (r:KT H kvs xs) (ht:∀ b ys,H b=some (.tup ys)->H' b=some (.tup ys)):KT H' kvs xs :=
 Paired.mapP r fun _ _ z=>⟨z.1,ht _ _ z.2.1,z.2.2⟩
section
variable {P:Program} {w:World} {H:Hp} {h:Heap} {a:Addr}
theorem rd_of {u:HO} (ok:HOk P w H h) (e:Rd H a u):CU P w H h a u:=e.ok ok
theorem dk_rd {kvs:List (Key×V)} (ok:HOk P w H h) (e:Rd H a (.dK kvs)):kvs.length<=sizeLine/\(a == sysModules)=false/\∃ vs,KV kvs vs/\h.DictOf (Ct P w) a vs :=
 show CU P w H h a (.dK kvs) from rd_of ok e
theorem dk_of {kvs:List (Key×V)} (ok:HOk P w H h) (e:H a=some (.dK kvs)):kvs.length<=sizeLine/\(a == sysModules)=false/\∃ vs,KV kvs vs/\h.DictOf (Ct P w) a vs:=dk_rd ok (.inl e)
theorem key_of {ks:List Key} (ok:HOk P w H h) (e:H a=some (.tup (ks.map kV))):(tupleKind (Ct P w)).is h ks a:=by
 obtain ⟨_,its,r,o,h1,h2,n,h3⟩:=(show CU P w H h a (.tup (ks.map kV)) from ok a _ e)
 exact ⟨o,its.toArray,n,h1,h2,h3,by simpa using items_are r⟩
theorem dt_rd {kvs:List (List Key×V)} (ok:HOk P w H h) (e:Rd H a (.dT kvs)):kvs.length<=sizeLine/\(a == sysModules)=false /\
  ∃ xs,KT H kvs xs/\h.DictOfH (tupleKind (Ct P w)) a xs:=by
 obtain ⟨z,y,xs,r,o,es,ep,h1,h2,h3,h4,h5⟩:=(show CU P w H h a (.dT kvs) from rd_of ok e)
 refine ⟨z,y,xs,r,o,es,ep,h1,h2,h3,h4,fun x hx=>?_,h5⟩
 have all:∀ {l:List (List Key×V)} {m:List (List Key×Addr×Value)},KT H l m->∀ x∈m,(tupleKind (Ct P w)).is h x.1 x.2.1:=by
  intro l m q
  induction q with
  | nil=>intro x hx;exact nomatch hx
  | @cons p q ps qs hq t ih =>
   intro x hx
   rcases List.mem_cons.mp hx with e | hx
   ·subst e
    exact key_of ok (by rw [<- hq.1];exact hq.2.1)
   ·exact ih x hx
 exact all r x hx
theorem dt_of {kvs:List (List Key×V)} (ok:HOk P w H h) (e:H a=some (.dT kvs)):kvs.length<=sizeLine/\(a == sysModules)=false /\
  ∃ xs,KT H kvs xs/\h.DictOfH (tupleKind (Ct P w)) a xs:=dt_rd ok (.inl e)
end
def DGet (H:Hp) (a:Addr) (y:V) (r:Option V):Prop :=
 (∃ kvs k,Rd H a (.dK kvs)/\y=kV k/\r=valV kvs k)∨∃ kvs k b,Rd H a (.dT kvs)/\y=.ref b/\H b=some (.tup (k.map kV))/\r=valV kvs k
def DPut (H:Hp) (a:Addr) (y v:V) (H':Hp):Prop :=
 (∃ kvs k,H a=some (.dK kvs)/\y=kV k/\kvs.length < sizeLine/\H'=upd H a (.dK (putK kvs k v))) ∨
 ∃ kvs k b,H a=some (.dT kvs)/\y=.ref b/\H b=some (.tup (k.map kV))/\kvs.length < sizeLine/\H'=upd H a (.dT (putK kvs k v))
theorem DGet.t {H:Hp} {a b:Addr} {kvs:List (List Key×V)} {k:List Key} (e:H a=some (.dT kvs)) (eb:H b=some (.tup (k.map kV))):DGet H a (.ref b) (valV kvs k):=.inr ⟨kvs,k,b,.inl e,rfl,eb,rfl⟩
theorem DPut.k {H:Hp} {a:Addr} {kvs:List (Key×V)} {k:Key} {v:V} (e:H a=some (.dK kvs)) (hl:kvs.length < sizeLine):DPut H a (kV k) v (upd H a (.dK (putK kvs k v))):=.inl ⟨kvs,k,e,rfl,hl,rfl⟩
theorem DPut.t {H:Hp} {a b:Addr} {kvs:List (List Key×V)} {k:List Key} {v:V} (e:H a=some (.dT kvs)) (eb:H b=some (.tup (k.map kV))) (hl:kvs.length < sizeLine) :
  DPut H a (.ref b) v (upd H a (.dT (putK kvs k v))):=.inr ⟨kvs,k,b,e,rfl,eb,hl,rfl⟩
section
variable {X:Cx} {pins:List (Addr×Obj)} {σ:St} {H:Hp} {s:Shared} {a:Addr} {y v:V} {u r:Value} {o:Option V} {A:Around} {E:Value->Shared->Prop}
theorem Inv.big (I:Inv X pins σ H s):sysModules < s.heap.objs.size:=by
 have h:mainGlobals < s.heap.objs.size:=(I.mod.glob.keeps I.bk).lt
 exact Nat.lt_trans (by decide) h
theorem d_getItem {Q:Value->Shared->Prop} (hu:A.units+1 < cLine) (I:Inv X pins σ H s) (g:DGet H a y (some v)) (ry:RelV y u) (h:∀ w' s',Inv X pins σ H s'->RelV v w'->Q w' s') :
  wpAny (model X.prog X.w) A (getItem (.ref a) u) Q E s:=by
 rcases g with ⟨kvs,k,e,ey,l⟩ | ⟨kvs,k,b,e,ey,eb,l⟩
 ·subst ey
  obtain ⟨z,hd,vs,rel,dd⟩:=dk_rd I.hok e
  obtain ⟨w',hw,rw'⟩:=Bf.some_of (v:=v) (o:=valueAt vs k) (by rw [l];exact rel.val k)
  exact wpAny_getItem_of (kV_is ry) dd.mapOf hw (h w' _ (I.tok _) rw')
 ·subst ey
  cases (show u=Value.ref b from ry)
  obtain ⟨z,hd,xs,rel,dd⟩:=dt_rd I.hok e
  obtain ⟨w',hw,rw'⟩:=Bf.some_of (v:=v) (o:=(atKey xs k).map (·.2)) (by rw [l];exact rel.val k)
  obtain ⟨p,hp,hp2⟩:=Option.map_eq_some_iff.mp hw
  refine wpAny_getItem_heap (tupleKind_room_in1 hu) (key_of I.hok eb) dd hp ?_
  rw [hp2]
  exact h w' _ (I.tok _) rw'
theorem d_in {Q:Value->Shared->Prop} (hu:A.units+1 < cLine) (I:Inv X pins σ H s) (g:DGet H a y o) (ry:RelV y u) (h:∀ s',Inv X pins σ H s'->Q (.bool o.isSome) s') :
  wpAny (model X.prog X.w) A (compareOp .In u (.ref a)) Q E s:=by
 rcases g with ⟨kvs,k,e,ey,l⟩ | ⟨kvs,k,b,e,ey,eb,l⟩
 ·subst ey
  obtain ⟨z,hd,vs,rel,dd⟩:=dk_rd I.hok e
  refine wpAny_in_of (kV_is ry) hd dd.mapOf ?_
  rw [<- (rel.val k).EL,<- l]
  exact h _ (I.tok _)
 ·subst ey
  cases (show u=Value.ref b from ry)
  obtain ⟨z,hd,xs,rel,dd⟩:=dt_rd I.hok e
  refine wpAny_in_heap (tupleKind_room_in1 hu) (key_of I.hok eb) hd dd ?_
  have q:=(rel.val k).EL
  rw [Option.isSome_map] at q
  rw [<- q,<- l]
  exact h _ (I.tok _)
theorem d_notIn {Q:Value->Shared->Prop} (hu:A.units+1 < cLine) (I:Inv X pins σ H s) (g:DGet H a y o) (ry:RelV y u) (h:∀ s',Inv X pins σ H s'->Q (.bool (!o.isSome)) s') :
  wpAny (model X.prog X.w) A (compareOp .NotIn u (.ref a)) Q E s:=by
 rcases g with ⟨kvs,k,e,ey,l⟩ | ⟨kvs,k,b,e,ey,eb,l⟩
 ·subst ey
  obtain ⟨z,hd,vs,rel,dd⟩:=dk_rd I.hok e
  refine wpAny_notIn_of (kV_is ry) hd dd.mapOf ?_
  rw [<- (rel.val k).EL,<- l]
  exact h _ (I.tok _)
 ·subst ey
  cases (show u=Value.ref b from ry)
  obtain ⟨z,hd,xs,rel,dd⟩:=dt_rd I.hok e
  refine wpAny_notIn_heap (tupleKind_room_in1 hu) (key_of I.hok eb) hd dd ?_
  have q:=(rel.val k).EL
  rw [Option.isSome_map] at q
  rw [<- q,<- l]
  exact h _ (I.tok _)
theorem d_write {h':Heap} {t':Nat} {ob:HO} (I:Inv X pins σ H s) (mu:Mut (H a)) (hs:Heap.SameBut a s.heap h') (he:∃ q,h'.get? a=some q) (new:CU X.prog X.w (upd H a ob) h' a ob) :
  Inv X pins σ (upd H a ob) { s with heap:=h',toks:=t' } :=
 I.write (x:=a) (e:=a) mu (.inl rfl) (fun b q hb z=>(hs.2 b hb).trans z) he new
theorem dk_new {P:Program} {w:World} {H':Hp} {h':Heap} {kvs:List (Key×V)} {vs:List (Key×Value)} (z:kvs.length<=sizeLine) (hd:(a == sysModules)=false) (rel:KV kvs vs) (dd:h'.DictOf (Ct P w) a vs) :
  CU P w H' h' a (.dK kvs):=⟨z,hd,vs,rel,dd⟩
theorem d_setItem {H':Hp} {Q:Unit->Shared->Prop} (hu:A.units+1 < cLine) (I:Inv X pins σ H s) (g:DPut H a y v H') (ry:RelV y u) (rv:RelV v r) (h:∀ s',Inv X pins σ H' s'->Q () s') :
  wpAny (model X.prog X.w) A (setItem (.ref a) u r) Q E s:=by
 rcases g with ⟨kvs,k,e,ey,l,eH⟩ | ⟨kvs,k,b,e,ey,eb,l,eH⟩
 ·subst ey eH
  obtain ⟨z,hd,vs,rel,dd⟩:=dk_of I.hok e
  have hz:vs.length<=sizeLine:=by rw [<- rel.length];exact z
  have hl:(putK kvs k v).length<=sizeLine:=by have:=Hu kvs k v;omega
  refine wpAny_setItem_pairs (hsz:=hz) (kV_is ry) dd fun h' dd' hs=>h _ ?_
  have he:∃ q,h'.get? a=some q:=let ⟨q,_,_,hq,_⟩:=dd';⟨q,hq⟩
  exact d_write I (by rw [e];exact True.intro) hs he (dk_new hl hd (rel.put k rv) dd')
 ·subst ey eH
  cases (show u=Value.ref b from ry)
  obtain ⟨z,hd,xs,rel,dd⟩:=dt_of I.hok e
  have hz:xs.length<=sizeLine:=by rw [<- Paired.length rel];exact z
  have hl:(putK kvs k v).length<=sizeLine:=by have:=Hu kvs k v;omega
  refine wpAny_setItem_heap (hsz:=hz) (tupleKind_room_in1 hu) (key_of I.hok eb) dd fun h' dd' hs=>h _ ?_
  obtain ⟨q,es,ep,hq,h2,h3,h4,_,h5⟩:=dd'
  refine d_write I (by rw [e];exact True.intro) hs ⟨q,hq⟩ ⟨hl,hd,_,(rel.put k eb rv).keeps fun c ys ec=>?_,q,es,ep,hq,h2,h3,h4,h5⟩
  rw [AG (ne_of ec e (fun z=>nomatch z))]
  exact ec
end
section
variable {X:Cx} {pins:List (Addr×Obj)} {σ:St} {H:Hp} {s:Shared} {a:Addr} {kvs:List (Key×V)} {k:Key} {u:Value} {A:Around} {E:Value->Shared->Prop}
theorem d_len {Q:Value->Shared->Prop} (I:Inv X pins σ H s) (e:Rd H a (.dK kvs)) (h:∀ t s',Inv X pins σ H s'->Q (.int kvs.length t) s'):wpAny (model X.prog X.w) A (call (.builtin "len") [.ref a]) Q E s:=by
 obtain ⟨z,hd,vs,rel,dd⟩:=dk_rd I.hok e
 refine call_len_dict hd dd (by rw [<- rel.length];rw [sizeLine_eq] at z;omega) ?_
 rw [<- rel.length]
 exact h _ _ (I.tok _)
end
theorem dict_typeIs {X:Cx} {pins:List (Addr×Obj)} {σ:St} {H:Hp} {s:Shared} {a:Addr} {y:V} {o:Option V} (I:Inv X pins σ H s) (g:DGet H a y o):s.TypeIs (.ref a) "dict":=by
 rcases g with ⟨kvs,k,e,_,_⟩ | ⟨kvs,k,b,e,_,_,_⟩
 ·obtain ⟨_,_,vs,_,dd⟩:=dk_rd I.hok e
  exact dd.typeIs
 ·obtain ⟨_,_,xs,_,dd⟩:=dt_rd I.hok e
  exact dd.typeIs
def sDPut (td ty tv:TE):TS:=fun D σ H=>tv σ H fun v H1=>td σ H1 fun x H2=>ty σ H2 fun y H3=>∃ a H4,x=.ref a/\DPut H3 a y v H4/\D.nx σ H4
section
variable {X:Cx} {o i e value:Expr} {pos pos' tpos:Pos} {td ty tv:TE}
theorem ps_dput (hu:X.A.units+1 < cLine) (ho:PE X o td) (hi:PE X i ty) (hv:PE X value tv) (hs:swapsWith value (some (.Subscript o i pos')) pos.line X.env=pure false) :
  PS X (.Assign [.Subscript o i pos'] value pos) (sDPut td ty tv):=by
 intro pins s σ H D I h
 refine wpAny_Assign_Subscript (thn (hv pins s σ H _ I h) fun r s1 ⟨v,H1,I1,rv,q1⟩=>thn (ho pins s1 σ H1 _ I1 q1) fun u s2 ⟨x,H2,I2,rx,q2⟩=>thn (hi pins s2 σ H2 _ I2 q2) fun iv s3 ⟨y,H3,I3,ry,a,H4,ex,g,q3⟩=>?_) hs
 subst ex
 obtain rfl:u=Value.ref a:=rx
 exact d_setItem hu I3 g ry rv fun s4 I4=>⟨σ,H4,I4,q3⟩
end
theorem dk_empty {P:Program} {w:World} {H:Hp} (h:Heap) (hb:sysModules < h.objs.size):CU P w H (h.push { cls:=.type "dict",data:=.dict #[] }) h.objs.size (.dK []) :=
 ⟨Nat.zero_le _,beq_eq_false_iff_ne.mpr (Ne.symm (Nat.ne_of_lt hb)),[],.nil,Heap.DictOf.new h⟩
theorem dt_empty {P:Program} {w:World} {H:Hp} (h:Heap) (hb:sysModules < h.objs.size):CU P w H (h.push { cls:=.type "dict",data:=.dict #[] }) h.objs.size (.dT []) :=
 ⟨Nat.zero_le _,beq_eq_false_iff_ne.mpr (Ne.symm (Nat.ne_of_lt hb)),[],.nil,_,#[],0,Heap.get?_push_size _ rfl,⟨rfl,rfl,rfl⟩,rfl,rfl,List.nodup_nil⟩
def tDNewK:TE:=fun _ H Q=>∀ p,H p=none->Q (.ref p) (upd H p (.dK []))
def tDNewT:TE:=fun _ H Q=>∀ p,H p=none->Q (.ref p) (upd H p (.dT []))
section
variable {X:Cx} {pos:Pos}
theorem pe_dnewK:PE X (.Dict [] [] pos) tDNewK:=fun pins s σ H Q I h =>
 wpAny_Dict_empty ⟨.ref s.heap.objs.size,_,I.laid (a:=s.heap.objs.size) (o:=.dK []) (t':=s.toks) (fun _ _ q=>Heap.get?_push_of_some _ q) (Nat.le_refl _) (dk_empty s.heap I.big),rfl,h _ (I.hok.fresh (Nat.le_refl _))⟩
theorem pe_dnewT:PE X (.Dict [] [] pos) tDNewT:=fun pins s σ H Q I h =>
 wpAny_Dict_empty ⟨.ref s.heap.objs.size,_,I.laid (a:=s.heap.objs.size) (o:=.dT []) (t':=s.toks) (fun _ _ q=>Heap.get?_push_of_some _ q) (Nat.le_refl _) (dt_empty s.heap I.big),rfl,h _ (I.hok.fresh (Nat.le_refl _))⟩
end
structure M2 (X:Cx) (o:Expr) (m:Str) (apos:Pos) (e f:Expr) (cpos:Pos):Prop where
 base:attributeBase o m X.env (eval o X.env)=eval o X.env
 few:((backTo cpos (starEach [e,f] X.env)).all (fun x=>!x.1) && (backToKw cpos (keywordEach [] X.env)).all (fun x=>x.1.isSome)
  && decide (([e,f]:List Expr).length+([]:List Keyword).length+(if ([]:List Keyword).isEmpty then 0 else 1) < 30))=true
 line:(apos.endLine == cpos.line)=true
 trees:backTo cpos (starEach [e,f] X.env)=[(false,eval e X.env),(false,eval f X.env)]
def IsD (H:Hp) (a:Addr):Prop:=(∃ kvs,Rd H a (.dK kvs))∨∃ kvs,Rd H a (.dT kvs)
theorem isD_at {X:Cx} {pins:List (Addr×Obj)} {σ:St} {H:Hp} {s:Shared} {a:Addr} (I:Inv X pins σ H s) (d:IsD H a) :
  s.TypeIs (.ref a) "dict"/\(∀ b,Value.ref a=.ref b->∃ ob,s.heap.get? b=some ob/\ob.dict=none)/\(a == sysModules)=false:=by
 rcases d with ⟨kvs,e⟩ | ⟨kvs,e⟩
 ·obtain ⟨_,hd,vs,_,dd⟩:=dk_rd I.hok e
  refine ⟨dd.typeIs,fun b q=>?_,hd⟩
  cases q
  obtain ⟨ob,_,_,h1,h2,_⟩:=dd
  exact ⟨ob,h1,h2.2.1⟩
 ·obtain ⟨_,hd,xs,_,dd⟩:=dt_rd I.hok e
  refine ⟨dd.typeIs,fun b q=>?_,hd⟩
  cases q
  obtain ⟨ob,_,_,h1,h2,_⟩:=dd
  exact ⟨ob,h1,h2.2.1⟩
section
variable {X:Cx} {pins:List (Addr×Obj)} {σ:St} {H:Hp} {s:Shared} {a:Addr} {y d:V} {u r:Value} {o:Option V} {A:Around} {E:Value->Shared->Prop}
theorem d_get2 {Q:Value->Shared->Prop} (hu:A.units+1 < cLine) (I:Inv X pins σ H s) (g:DGet H a y o) (ry:RelV y u) (rd:RelV d r) (h:∀ w' s',Inv X pins σ H s'->RelV (o.getD d) w'->Q w' s') :
  wpAny (model X.prog X.w) A (call (.builtin "dict.get") [.ref a,u,r]) Q E s:=by
 rcases g with ⟨kvs,k,e,ey,l⟩ | ⟨kvs,k,b,e,ey,eb,l⟩
 ·subst ey
  obtain ⟨z,hd,vs,rel,dd⟩:=dk_rd I.hok e
  refine call_meetsIn PySem.F.slot_dict_get dd.typeIs PySem.F.entry_dict_get (PySem.F.args_dict_get_3 _ _ _) (meets_dict_get_default (Ct X.prog X.w) a (kV_is ry) hd r) ⟨_,dd.mapOf,h _ _ (I.tok _) ?_⟩
  rw [l]
  exact (rel.val k).getD rd
 ·subst ey
  cases (show u=Value.ref b from ry)
  obtain ⟨z,hd,xs,rel,dd⟩:=dt_rd I.hok e
  refine call_meetsIn PySem.F.slot_dict_get dd.typeIs PySem.F.entry_dict_get (PySem.F.args_dict_get_3 _ _ _) (meetsH_dict_get_default (tupleKind (Ct X.prog X.w)) a b hd r) ⟨tupleKind_room_in1 hu,k,xs,key_of I.hok eb,dd,h _ _ (I.tok _) ?_⟩
  rw [l]
  exact (rel.val k).getD rd
end
def tDGet2 (td ty tx:TE):TE:=fun σ H Q=>td σ H fun x H1=>∃ a,x=.ref a/\IsD H1 a/\ty σ H1 fun y H2=>tx σ H2 fun z H3=>∃ o,DGet H3 a y o/\Q (o.getD z) H3
section
variable {X:Cx} {o e f:Expr} {apos cpos:Pos} {td ty tx:TE}
theorem pe_dget2 (hu:X.A.units+1 < cLine) (ho:PE X o td) (he:PE X e ty) (hf:PE X f tx) (m:M2 X o "get" apos e f cpos):PE X (.Call (.Attribute o "get" apos) [e,f] [] cpos) (tDGet2 td ty tx):=by
 intro pins s σ H Q I h
 refine wpAny_Call_method m.base m.few m.line PySem.F.plainAttrs_dict PySem.F.slot_dict_get PySem.F.type_dict_get (thn (ho pins s σ H _ I h) fun u s1 ⟨x,H1,I1,rx,a,ex,d,q1⟩=>?_)
 subst ex
 obtain rfl:u=Value.ref a:=rx
 obtain ⟨t1,t2,_⟩:=isD_at I1 d
 refine ⟨t1,t2,?_⟩
 rw [m.trees]
 refine Calls.callWith_builtin rfl (Calls.evalArgs_plain (Calls.spliced_cons (thn (he pins s1 σ H1 _ I1 q1) fun iv s2 ⟨y,H2,I2,ry,q2⟩ =>
  Calls.spliced_cons (thn (hf pins s2 σ H2 _ I2 q2) fun fv s3 ⟨z,H3,I3,rz,ov,g,q3⟩=>Calls.spliced_nil ?_))))
 exact d_get2 hu I3 g ry rz fun w' s4 I4 rw'=>⟨_,H3,I4,rw',q3⟩
end
section
variable {X:Cx} {pins:List (Addr×Obj)} {σ:St} {H:Hp} {s:Shared} {a:Addr} {kvs:List (Key×V)} {A:Around} {E:Value->Shared->Prop}
end
section
variable {X:Cx} {pins:List (Addr×Obj)} {σ:St} {H:Hp} {s:Shared} {a:Addr} {y:V} {u:Value} {A:Around} {E:Value->Shared->Prop}
end
end L2
namespace Att
open PySem PySem.W PySem.Calls PyProof.Rows
theorem HA {P:Params} {h:Heap}:∀ (ns:List Int) (vs:List Value),WellAll P h vs (ns.map WData.int)->IntsAre vs ns:=by
 intro ns
 induction ns with
 | nil =>
  intro vs w
  rw [List.map_nil] at w
  cases w
  exact .nil
 | cons n ns ih =>
  intro vs w
  rw [List.map_cons] at w
  cases w with
  | cons a b =>
   cases a
   exact .cons _ _ (ih _ b)
theorem script_of {l:OpenLaw} {n:Nat} (hn:l.most=some n) {P:Params} {h:Heap} {args:List WData} {vals:List Value}
  (hpre:l.row.toRowW.claim.pre args=true) (hwl:WellAll P h vals args) :
  ∃ a vs ns,vals=[Value.ref a]/\args=[WData.list (ns.map WData.int)]/\h.get? a=some { cls:=.type "list",data:=.seq vs.toArray }/\IntsAre vs ns/\ns.length<=n:=by
 have hsh:WShape.hasAll [] args [.list .int]=true:=(pre_splitW hpre).1
 have hc:l.pre.holds [] { args:=args }=true:=(pre_splitW hpre).2
 obtain ⟨d,r,rfl,h1,h2⟩:=hasAllW_cons hsh
 obtain rfl:=hasAllW_nil h2
 obtain ⟨xs,rfl,h3⟩:=hasW_list h1
 obtain ⟨ns,rfl⟩:=items_int h3
 have hlen:ns.length<=n:=by
  unfold OpenLaw.pre at hc
  have h4:(WTm.not (.lt (.lit (.int (n:Int))) (.len (.arg 0)))).holds [] { args:=[.list (ns.map .int)] }=true:=by
   have h4:=(holds_andW hc).1
   rw [hn] at h4
   exact h4
  have h5:=condW_of h4 (w_not (w_lt w_lit (w_len_list (w_arg rfl))))
  rw [List.length_map] at h5
  refine Nat.le_of_not_lt fun q=>?_
  have q':(n:Int) < ((ns.length:Nat):Int):=by omega
  first
   | (rw [decide_eq_true q'] at h5;exact absurd h5 (by decide))
   | (simp at h5;omega)
 cases hwl with
 | cons w1 w2 =>
  cases w2
  cases w1 with
  | list ho hall=>exact ⟨_,_,ns,rfl,rfl,ho,HA ns _ hall,hlen⟩
theorem post_true (l:OpenLaw) (args:List WData):l.row.toRowW.claim.post args (.bool true) args=true :=
 postW_of (r:=l.row.toRowW) (X:=(true == true))
  (show WShape.has [] (.bool true) .bool=true by first | rfl | decide | simp [WShape.has,WShape.arms,WShape.armsAll])
  (show (WTm.eq .res (.lit (.bool true))).value [] { args:=args,res:=some (.bool true),after:=args }=some (.bool (true == true)) from w_eq_bool (w_res rfl) w_lit) rfl
section
variable {prog:Program} {w:World} {A:Around} {E:Value->Shared->Prop} {s:Shared} {K:Frag}
end
end Att
namespace L2
open PySem PySem.Spec PyProof.Rows
theorem vals_ints:∀ {vs:List Value} {ns:List Int},IntsAre vs ns->Vals (ns.map V.int) vs
 | _,_,.nil=>.nil
 | _,_,.cons n t h=>.cons ⟨t,rfl⟩ (vals_ints h)
def Only (H:Hp):Prop:=∀ b,H b=none∨∃ o xs,H b=some (.frz o (.lst xs))
theorem law_call {P:Program} {w:World} {K:PySem.W.Frag} {mg mb:Str->Option Value} {CX:CXT} {k:Nat} {fa a:Addr} {fd:FuncData} {x:Str} {sp:Sp} {s₁:Shared} {vs:List Value} {ns:List Int}
  (KX:K.In s₁.heap) (hns:s₁.heap.Ns mainGlobals mg) (hb:s₁.heap.Ns builtinsNs mb) (hbb:∀ x:Str,x≠"__name__"->mb x=bootBuiltins x) (hlim:s₁.heap.NoLimit) (hg:s₁.gens=#[])
  (ha:s₁.heap.get? a=some { cls:=.type "list",data:=.seq vs.toArray }) (hi:IntsAre vs ns) (hl:ns.length<=sizeLine) (hr:EY k callerA)
  (F:∀ base:Heap,K.In base->base.Ns mainGlobals mg->Ds P w K mg base CX k fa fd [x] sp) (hbind:∀ (s:Shared) (u:Value),BindsTo s fd ⟨[u],[]⟩ [(x,u)])
  (hsp:∀ H:Hp,Only H->SqL K H a (ns.map V.int)->sp [.ref a] H (fun v _=>v=.bl true) fun _ _ _=>False)
  (hCX:∀ H e s',CX [] H s₁ (fun _ _ _=>False) e s'->False) :
  codeAny (model P w) callerA (.call (.ref fa) ⟨[.ref a],[]⟩) (fun r s'=>r=.ok (.ret (.bool true))/\OldK s₁.heap s'.heap/\s'.os=s₁.os/\AllBare s'.gens) s₁:=by
 have rv:=vals_ints hi
 have lenV:=hi.length
 have core:∀ H:Hp,Only H->SqL K H a (ns.map V.int)->HOk P w H s₁.heap->(∀ b,H b≠none->b=a)->(H a≠none->K.lookup a=none) ->
   codeAny (model P w) callerA (.call (.ref fa) ⟨[.ref a],[]⟩) (fun r s'=>r=.ok (.ret (.bool true))/\OldK s₁.heap s'.heap/\s'.os=s₁.os/\AllBare s'.gens) s₁:=by
  intro H hO hS hok hA hK
  have base_of:∀ {b:Addr} {o:Obj},s₁.heap.get? b=some o->H b=none->(hidT s₁.heap H).get? b=some o:=fun e n=>hidT_get e n
  have noA:∀ {b:Addr} {o:Obj} {es:Array DictEntry} {ep:Nat},s₁.heap.get? b=some o->o.data=.dict es ep->H b=none:=fun {b o es ep} e d=>by
   cases q:H b with
   | none=>rfl
   | some u =>
    have e':b=a:=hA b (by rw [q];simp)
    subst e'
    rw [ha] at e;cases e
    have d':Data.seq vs.toArray _=Data.dict es ep:=d
    cases d'
  have nsK:∀ {b:Addr} {m:Str->Option Value},s₁.heap.Ns b m->(hidT s₁.heap H).Ns b m:=fun {b m} ⟨o,es,ep,e,d,r⟩=>⟨o,es,ep,base_of e (noA e d),d,r⟩
  have hKb:K.In (hidT s₁.heap H):=fun b o e=>base_of (KX b o e) (by
   cases q:H b with
   | none=>rfl
   | some u =>
    have e':b=a:=hA b (by rw [q];simp)
    subst e'
    rw [hK (by rw [q];simp)] at e;cases e)
  have hM:Mod K mg (hidT s₁.heap H):=⟨hKb,nsK hns,⟨mb,nsK hb,hbb⟩,let ⟨mc,h1,h2⟩:=hlim;⟨mc,nsK h1,h2⟩⟩
  have e0:Env0 P w K mg (hidT s₁.heap H) callerA [] s₁ H:=⟨rfl,hM,fun b o e=>of_hidT e,Nat.le_of_eq (hidT_size _ _),trivial,fun b hb=>absurd (show b∈([]:List Addr) from hb) (by simp),hok,.of_eq hg⟩
  refine codeAny_mono ((F _ hKb (nsK hns)).run callerA [] s₁ H ⟨[.ref a],[]⟩ [.ref a] [.ref a] _ _ hr e0 (hbind s₁ (.ref a)) (.cons rfl .nil) (hsp H hO hS)) fun r s' h=>?_
  cases r with
  | error e=>exact (hCX H e s' h).elim
  | ok fl =>
   cases fl with
   | next=>exact False.elim h
   | brk=>exact False.elim h
   | cont=>exact False.elim h
   | ret u =>
    obtain ⟨v,H',os,bare,un,hok',r',q⟩:=h
    have q':v=.bl true:=q
    subst q'
    obtain rfl:u=Value.bool true:=r'
    refine ⟨rfl,OldK.of_keep fun b o e=>?_,os,bare⟩
    cases q:H b with
    | none=>exact un.keep b o e q (by intro z;exact absurd (show b∈([]:List Addr) from z) (by simp)) (by simp)
    | some u =>
     rcases hO b with z | ⟨ob,xs,z⟩
     ·rw [q] at z;cases z
     ·have z2:=un.frzs b ob _ z
      obtain ⟨e1,_⟩:=hok b _ z
      obtain ⟨e2,_⟩:=hok' b _ z2
      rw [e] at e1;cases e1
      exact e2
 cases hk:K.lookup a with
 | some o =>
  have e:=KX a o hk
  rw [ha] at e
  cases e
  refine core (fun _=>none) (fun _=>.inl rfl) (.inr ⟨_,vs.toArray,_,hk,rfl,rfl,rfl,by rw [List.size_toArray,lenV];exact hl,by simpa using rv⟩) (fun b u z=>by have z':(none:Option HO)=some u:=z;cases z') (fun b z=>absurd rfl z) fun z=>absurd rfl z
 | none =>
  refine core (fun b=>if b=a then some (.frz { cls:=.type "list",data:=.seq vs.toArray } (.lst (ns.map V.int))) else none) (fun b=>?_) (.inl (.inr ⟨{ cls:=.type "list",data:=.seq vs.toArray },if_pos rfl⟩)) (fun b u z=>?_) (fun b z=>?_) fun _=>hk
  ·by_cases hb:b=a
   ·exact .inr ⟨_,_,if_pos hb⟩
   ·exact .inl (if_neg hb)
  ·by_cases hb:b=a
   ·have z':=(if_pos hb).symm.trans z
    cases z'
    subst hb
    exact ⟨ha,by rw [List.length_map];exact hl,vs,_,rv,ha⟩
   ·have z':=(if_neg hb).symm.trans z
    cases z'
  ·by_cases hb:b=a
   ·exact hb
   ·exact absurd (if_neg hb) z
end L2
namespace L2
open PySem PySem.Spec PyProof.Rows
end L2
namespace L2
open PySem PySem.Spec PyProof.Rows
def inClass (s:Stmt) (j:Nat):Stmt:=match s with
 | .ClassDef _ _ _ body _ _ _ _ _ _ _=>body.getD j (.Pass ⟨0,0,0,0⟩)
 | _=>.Pass ⟨0,0,0,0⟩
def A1 (s:Stmt):Arguments:=match s with
 | .FunctionDef _ a _ _ _ _ _ _ _ _=>a
 | _=>{ posonlyargs:=[],args:=[],vararg:=none,kwonlyargs:=[],kw_defaults:=[],kwarg:=none,defaults:=[] }
def AW (s:Stmt):List Stmt:=match s with
 | .FunctionDef _ _ b _ _ _ _ _ _ _=>b
 | _=>[]
def Ar (s:Stmt):Scope:=match s with
 | .FunctionDef _ _ _ _ _ _ sc _ _ _=>sc
 | _=>{ kind:=.function,names:=[],isGenerator:=false,isCoroutine:=false }
abbrev CX0:CXT:=fun _ _ _ _ _ _=>False
abbrev E0:XK:=fun _ _ _=>False
theorem pass0 {X:Cx}:Passes CX0 X E0:=fun _ _ _ _ _ _ _ h=>h.elim
structure Fun (K:PySem.W.Frag) (x qual:Str) (st:Stmt) (f:Addr) (fd:FuncData):Prop where
 ex:∃ (oc:Value) (od:Option Addr) (kV doc pm:Value) (an:Option Addr) (cdv ct:Value) (osl:Array (Option Value)),
  fd=PySem.W.fnOf x qual (A1 st) (AW st) (Ar st) .none kV doc pm an cdv ct/\K.lookup f=some ⟨oc,od,.func fd,osl⟩/\PySem.W.codeIn K cdv qual=true
 kp:PySem.W.keepIn K (.ref f)=true
section
variable {P:Program} {w:World} {K:PySem.W.Frag} {mg:Str->Option Value} {base:Heap}
theorem Fun.ok {x qual:Str} {st:Stmt} {f:Addr} {fd:FuncData} {N ps:List Str} {k:Nat} {sp:Sp} (F:Fun K x qual st f fd) (S:A7 N ps (Ar st)) (len:∀ vs H Q E,sp vs H Q E->vs.length=ps.length)
  (hbody:∀ (cdv:Value) (A:Around) (outer:List Env) (s:Shared) (H:Hp) (vs:List V) (Q:VK) (E:XK),EY k (A.deeper (envOfC qual (Ar st) s.heap.objs.size f cdv))->sp vs H Q E ->
   ∃ t,PSs (cxOf CX0 P w K mg base N qual (Ar st) f cdv A outer s H E).nox (AW st) t/\t { nx:=fun _ H'=>Q .non H',rt:=Q } (start N vs) H):Ds P w K mg base CX0 (k+1) f fd ps sp:=by
 obtain ⟨oc,od,kV,doc,pm,an,cdv,ct,osl,rfl,lk,hcd⟩:=F.ex
 refine fn_of lk hcd S len fun A outer s H vs Q E hr hsp=>?_
 obtain ⟨t,h,q⟩:=hbody cdv A outer s H vs Q E hr hsp
 exact ⟨t,h.nox,q⟩
theorem Fun.binds {x qual:Str} {st:Stmt} {f:Addr} {fd:FuncData} {ps:List Str} (F:Fun K x qual st f fd)
  (h:∀ (kV doc pm:Value) (an:Option Addr) (cdv ct:Value) (us:List Value),us.length=ps.length->bindArgs (PySem.W.fnOf x qual (A1 st) (AW st) (Ar st) .none kV doc pm an cdv ct) ⟨us,[]⟩=pure (ps.zip us)):Binds K fd ps []:=by
 obtain ⟨oc,od,kV,doc,pm,an,cdv,ct,osl,rfl,lk,hcd⟩:=F.ex
 exact .all (h kV doc pm an cdv ct)
theorem BI {x qual:Str} {st:Stmt} {f:Addr} {oc:Value} {od an:Option Addr} {osl:Array (Option Value)} {kV doc pm cdv ct:Value} (l:K.lookup f=some ⟨oc,od,.func (PySem.W.fnOf x qual (A1 st) (AW st) (Ar st) .none kV doc pm an cdv ct),osl⟩)
  (c:PySem.W.codeIn K cdv qual=true) (k:PySem.W.keepIn K (.ref f)=true):Fun K x qual st f (PySem.W.fnOf x qual (A1 st) (AW st) (Ar st) .none kV doc pm an cdv ct):=⟨⟨oc,od,kV,doc,pm,an,cdv,ct,osl,rfl,l,c⟩,k⟩
end
theorem CW {A:Around} {k:Nat} (hr:EY k A):A.units+1 < cLine:=Nat.lt_of_le_of_lt (Nat.add_le_add_left (by decide:1<=64) _) hr.units
section
variable {X:Cx}
theorem pv (i:Nat) {x:Str} {pos:Pos} (hN:X.N[i]?=some x:=by rfl) (hv:Vis X.env.scope x:=by first | exact Or.inl rfl | exact Or.inr (Or.inl rfl) | exact Or.inr (Or.inr rfl)) (hd:(x == ("__debug__":Str))=false:=by decide)
  (hcd:(x == ("__classdict__":Str))=false:=by decide):PE X (.Name x pos) (tVar i):=pe_var hN hv hd hcd
end
section
variable {κ:Type} [DecidableEq κ]
end
end L2
namespace L2
open PySem PySem.Spec PyProof.Rows
theorem Fx {env:Env}:∀ (l:List (Str×NameKind)) (cs:List (Str×Addr)),(∀ y∈l,y.2=.free->∃ c,env.cells.lookup y.1=some c)->(∀ n c,cs.lookup n=some c->env.cells.lookup n=some c) ->
  ∃ cl,(forIn l cs fun (x:Str×NameKind) (r:List (Str×Addr))=>match x with | (name,kind)=>if (kind == NameKind.free)=true then do let c <- cellOf env name;pure (ForInStep.yield ((name,c) :: r)) else pure (ForInStep.yield r))=(pure cl:Sem _) /\
   (∀ n c,cl.lookup n=some c->env.cells.lookup n=some c)/\(∀ y∈l,y.2=.free->∃ c,cl.lookup y.1=some c)/\(∀ n c,cs.lookup n=some c->∃ c',cl.lookup n=some c')
 | [],cs,_,h2=>⟨cs,rfl,h2,(fun _ h=>nomatch h),fun n c h=>⟨c,h⟩⟩
 | (n,k) :: r,cs,h1,h2=>by
  by_cases e:k=.free
  ·subst e
   obtain ⟨c,hc⟩:=h1 (n,.free) List.mem_cons_self rfl
   have e1:cellOf env n=(pure c:Sem _):=by unfold cellOf;rw [hc]
   have h3:∀ n' c',((n,c) :: cs).lookup n'=some c'->env.cells.lookup n'=some c':=fun n' c' q=>by
    rw [List.lookup_cons] at q
    cases hb:n' == n with
    | true=>rw [hb] at q;cases q;rw [beq_iff_eq.mp hb];exact hc
    | false=>rw [hb] at q;exact h2 _ _ q
   obtain ⟨cl,q1,q2,q3,q4⟩:=Fx r ((n,c) :: cs) (fun y hy=>h1 y (List.mem_cons_of_mem _ hy)) h3
   have hself:∃ c',cl.lookup n=some c':=q4 n c (by simp)
   refine ⟨cl,?_,q2,fun y hy hf=>?_,fun n' c' q=>?_⟩
   ·rw [List.forIn_cons]
    simp only [beq_self_eq_true,if_true,e1,pure_bind]
    exact q1
   ·rcases List.mem_cons.mp hy with rfl | hy
    ·exact hself
    ·exact q3 y hy hf
   ·by_cases hb:n'=n
    ·subst hb;exact hself
    ·exact q4 n' c' (by rw [List.lookup_cons,beq_eq_false_iff_ne.mpr hb];exact q)
  ·obtain ⟨cl,q1,q2,q3,q4⟩:=Fx r cs (fun y hy=>h1 y (List.mem_cons_of_mem _ hy)) h2
   refine ⟨cl,?_,q2,fun y hy hf=>?_,q4⟩
   ·rw [List.forIn_cons]
    have hb:(k == NameKind.free)=false:=by simpa using e
    simp only [hb,Bool.false_eq_true,if_false,pure_bind]
    exact q1
   ·rcases List.mem_cons.mp hy with rfl | hy
    ·exact absurd hf e
    ·exact q3 y hy hf
theorem FX {sc:Scope} {env:Env} (h:∀ y∈sc.names,y.2=.free->∃ c,env.cells.lookup y.1=some c) :
  ∃ cl,closureFor sc env=pure cl/\(∀ n c,cl.lookup n=some c->env.cells.lookup n=some c)/\(∀ y∈sc.names,y.2=.free->∃ c,cl.lookup y.1=some c):=by
 obtain ⟨cl,q1,q2,q3,_⟩:=Fx (env:=env) sc.names [] h (fun n c q=>by simp at q)
 refine ⟨cl,?_,q2,q3⟩
 unfold closureFor
 simp only [bind_pure]
 refine Eq.trans ?_ q1
 congr 1
section
variable {prog:Program} {w:World} {A:Around} {R:Result->Shared->Prop} {s:Shared}
theorem compLoop_any {elt target iter:Expr} {ifs:List Expr} {scope:Scope} {pos:Pos} {it acc:Value} {env:Env} (I:Nat->Shared->Prop)
  (turn:∀ n s,I n s->wpAny (model prog w) A (pyNext it) (fun r s₁=>match r with
   | none=>R (.ok .next) s₁
   | some v=>wpAny (model prog w) A (letOwnedTupleGo target it v) (fun _ s₁=>wpAny (model prog w) A (assign target env v) (fun _ s₂ =>
     wpAny (model prog w) A (forIn ifs true fun c r=>if r=true then do let ok <- isTrue c env (eval c env);pure (ForInStep.yield ok) else pure (ForInStep.yield r)) (fun ok s₃ =>
      if ok=true then wpAny (model prog w) A (eval elt env) (fun x s₄ =>
       wpAny (model prog w) A (call (.builtin "list.append") [acc,x]) (fun _ s₅=>∃ m,m < n/\I m s₅) (fun _ _=>False) s₄) (fun _ _=>False) s₃
      else ∃ m,m < n/\I m s₃) (fun _ _=>False) s₂) (fun _ _=>False) s₁) (fun _ _=>False) s₁) (fun _ _=>False) s)
  (n:Nat) (h:I n s) :
  codeAny (model prog w) A (.compLoop (.ListComp elt [⟨target,iter,ifs,0⟩] scope pos) 0 it acc env) R s:=by
 refine codeAny_loop rfl I (fun n s hI=>?_) n h
 show wpAny _ A ((compTurn (.ListComp elt [⟨target,iter,ifs,0⟩] scope pos) 0 it acc env).onRaise (fun x=>do noteFrame x env;theTreesLotGoes x)) _ _ s
 refine wpAny_noted ?_
 rw [compTurn_list]
 refine wpAny_bind (wpAny_standAt (wpAny_bind (wpAny_mono (turn n s hI) (fun r s₁ h₁=>?_) fun _ _ h'=>h'.elim)))
 cases r with
 | none=>exact wpAny_pure h₁
 | some v =>
  refine wpAny_bind (wpAny_mono h₁ (fun _ s₁' h₁'=>?_) fun _ _ h'=>h'.elim)
  refine wpAny_bind (wpAny_mono h₁' (fun _ s₂ h₂=>wpAny_bind (wpAny_mono h₂ (fun ok s₃ h₃=>?_) fun _ _ h'=>h'.elim)) fun _ _ h'=>h'.elim)
  cases ok with
  | false=>exact wpAny_pure ⟨rfl,h₃⟩
  | true =>
   exact wpAny_bind (wpAny_bind (wpAny_mono h₃ (fun x s₄ h₄=>wpAny_bind (wpAny_mono h₄ (fun _ s₅ h₅=>wpAny_pure (wpAny_pure ⟨rfl,h₅⟩)) fun _ _ h'=>h'.elim)) fun _ _ h'=>h'.elim))
end
structure CompSc (fn sc:Scope):Prop where
 kind:sc.kind=.function
 nocell:∀ y∈sc.names,y.2≠.cell
 loc:∀ y∈sc.names,y.2=.local->sc.names.lookup y.1=some .local
 fr:∀ y∈sc.names,y.2=.free->fn.names.lookup y.1=some .cell∨fn.names.lookup y.1=some .free
def compOk (fn sc:Scope):Bool :=
 decide (sc.kind=.function) && sc.names.all fun y=>decide (y.2≠.cell) && (decide (y.2≠.local) || decide (sc.names.lookup y.1=some .local)) &&
  (decide (y.2≠.free) || decide (fn.names.lookup y.1=some .cell) || decide (fn.names.lookup y.1=some .free))
theorem compSc_of {fn sc:Scope} (h:compOk fn sc=true):CompSc fn sc:=by
 unfold compOk at h
 rw [Bool.and_eq_true,List.all_eq_true] at h
 obtain ⟨h1,h2⟩:=h
 refine ⟨of_decide_eq_true h1,fun y hy=>?_,fun y hy e=>?_,fun y hy e=>?_⟩
 all_goals
  have q:=h2 y hy
  rw [Bool.and_eq_true,Bool.and_eq_true] at q
  obtain ⟨⟨q1,q2⟩,q3⟩:=q
 ·exact of_decide_eq_true q1
 ·rw [Bool.or_eq_true] at q2
  rcases q2 with q | q
  ·exact absurd e (of_decide_eq_true q)
  ·exact of_decide_eq_true q
 ·rw [Bool.or_eq_true,Bool.or_eq_true] at q3
  rcases q3 with (q | q) | q
  ·exact absurd e (of_decide_eq_true q)
  ·exact .inl (of_decide_eq_true q)
  ·exact .inr (of_decide_eq_true q)
theorem DX {env:Env} {x:Str} {k':NameKind}:∀ {names:List (Str×NameKind)},
  (names.map fun (n,k)=>if (k == NameKind.free && env.scope.kind == .function && env.kindOf n == some .cell) then (n,NameKind.cell) else (n,k)).lookup x=some k'->∃ k,names.lookup x=some k/\(k'=k∨(k=.free/\k'=.cell))
 | [],h=>by simp at h
 | (n,k) :: r,h=>by
  have h:List.lookup x ((if (k == NameKind.free && env.scope.kind == .function && env.kindOf n == some .cell)=true then (n,NameKind.cell) else (n,k)) :: _)=some k':=h
  cases hx:x == n with
  | true =>
   refine ⟨k,by simp [List.lookup_cons,hx],?_⟩
   by_cases hc:(k == NameKind.free && env.scope.kind == .function && env.kindOf n == some .cell)=true
   ·rw [if_pos hc] at h
    simp only [List.lookup_cons,hx] at h
    cases h
    rw [Bool.and_eq_true,Bool.and_eq_true] at hc
    exact .inr ⟨beq_iff_eq.mp hc.1.1,rfl⟩
   ·rw [if_neg hc] at h
    simp only [List.lookup_cons,hx] at h
    cases h
    exact .inl rfl
  | false =>
   have h':List.lookup x (r.map fun (n,k)=>if (k == NameKind.free && env.scope.kind == .function && env.kindOf n == some .cell) then (n,NameKind.cell) else (n,k))=some k':=by
    by_cases hc:(k == NameKind.free && env.scope.kind == .function && env.kindOf n == some .cell)=true
    ·rw [if_pos hc] at h
     simpa only [List.lookup_cons,hx] using h
    ·rw [if_neg hc] at h
     simpa only [List.lookup_cons,hx] using h
   obtain ⟨k0,e1,e2⟩:=DX h'
   exact ⟨k0,by simp only [List.lookup_cons,hx];exact e1,e2⟩
def C9 (X:Cx) (N:List Str) (sc:Scope) (cl:List (Str×Addr)) (C:Addr) (s:Shared) (H:Hp) (ex:List Addr):Cx :=
 { X with N:=N,s₀:=s,H₀:=H,env:=compEnvC sc cl C X.env,outer:=X.stack,stack:=X.stack,ex:=ex,fn:=fun _=>false,xe:=fun _ _=>False }
def Gw (XN:List Str) (sc:Scope):List Str->List (Option Nat)->Bool
 | [],[]=>true
 | n :: r,none :: q=>Gw XN sc r q
 | n :: r,some i :: q=>decide (XN[i]?=some n) && decide (sc.names.lookup n=some .free) && Gw XN sc r q
 | _,_=>false
def GN (σ:St) (src:List (Option Nat)):St:=src.map fun o=>o.bind fun i=>(σ[i]?).join
theorem HL {XN:List Str} {sc:Scope}:∀ {N:List Str} {src:List (Option Nat)},Gw XN sc N src=true->src.length=N.length
 | [],[],_=>rfl
 | _ :: r,none :: q,h=>by rw [List.length_cons,List.length_cons,HL (N:=r) (src:=q) h]
 | _ :: r,some i :: q,h=>by
  unfold Gw at h
  rw [Bool.and_eq_true] at h
  rw [List.length_cons,List.length_cons,HL (N:=r) (src:=q) h.2]
 | [],_ :: _,h=>by cases h
 | _ :: _,[],h=>by cases h
theorem capOk_get {XN:List Str} {sc:Scope}:∀ {N:List Str} {src:List (Option Nat)} {j i:Nat} {n:Str},Gw XN sc N src=true->N[j]?=some n->src[j]?=some (some i)->XN[i]?=some n/\sc.names.lookup n=some .free
 | [],_,j,i,n,_,h1,_=>by simp at h1
 | _ :: _,[],j,i,n,_,_,h2=>by simp at h2
 | n0 :: r,o :: q,0,i,n,h,h1,h2=>by
  simp at h1 h2
  subst h1
  subst h2
  unfold Gw at h
  rw [Bool.and_eq_true,Bool.and_eq_true] at h
  exact ⟨of_decide_eq_true h.1.1,of_decide_eq_true h.1.2⟩
 | n0 :: r,o :: q,j+1,i,n,h,h1,h2=>by
  refine capOk_get (N:=r) (src:=q) (j:=j) ?_ (by simpa using h1) (by simpa using h2)
  cases o with
  | none=>exact h
  | some k =>
   unfold Gw at h
   rw [Bool.and_eq_true] at h
   exact h.2
section
variable {X:Cx} {pins:List (Addr×Obj)} {σ:St} {H:Hp} {s:Shared} {fp:List Addr} {N:List Str} {sc:Scope} {cl:List (Str×Addr)} {C:Addr} {src:List (Option Nat)}
theorem blk_ok (I:Inv X pins σ H s) (hf:∀ b∈fp,FpOk X pins H b) (hfs:∀ b∈fp,b < s.heap.objs.size) (hS:CompSc X.env.scope sc) (hC:s.heap.objs.size<=C)
  (hc1:∀ n c,cl.lookup n=some c->X.env.cells.lookup n=some c) (hc2:∀ y∈sc.names,y.2=.free->∃ c,cl.lookup y.1=some c):(C9 X N sc cl C s H fp).Ok where
 mod:=I.ok.mod
 kind:=hS.kind
 glob:=I.ok.glob
 blt:=I.ok.blt
 above:=hC
 inj:=fun x y c h1 h2=>I.ok.inj x y c (hc1 _ _ h1) (hc1 _ _ h2)
 has:=fun x hx=>by
  have free:∀ k',(k'=NameKind.cell∨k'=NameKind.free)->(relabel sc X.env).names.lookup x=some k'->∃ c,cl.lookup x=some c:=fun k' hk e=>by
   obtain ⟨k,e1,e2⟩:=DX (env:=X.env) e
   have hm:=PySem.mem_of_lookup e1
   have hk2:k=.free:=by
    rcases e2 with e2 | ⟨e2,_⟩
    ·subst e2
     rcases hk with hk | hk
     ·exact absurd hk (hS.nocell _ hm)
     ·exact hk
    ·exact e2
   exact hc2 _ hm hk2
  rcases hx with hx | hx
  ·exact free _ (.inl rfl) hx
  ·exact free _ (.inr rfl) hx
 cab:=fun x c h _=>absurd (show false=true from h) Bool.false_ne_true
 hd:=I.ok.hd
 frames:=I.ok.frames
 stk:=.inl rfl
 exf:=fun b hb=>⟨Nat.ne_of_lt (Nat.lt_of_lt_of_le (hfs b hb) hC),fun x c e=>(hf b hb).2.2.2.2.1 x c (hc1 x c e)⟩
 bs:=I.bs
 bsz:=Nat.le_trans I.ok.bsz I.sz
 noex:=fun b o e hb=>by
  rcases (hf b hb).2.2.2.1 with z | z
  ·exact I.ok.noex b o e z
  ·exact absurd (Nat.lt_of_lt_of_le (Heap.lt_size e) (Nat.le_trans I.ok.bsz z)) (Nat.lt_irrefl _)
 exfs:=fun b hb hz=>by
  rcases List.mem_cons.mp (I.stkSub b hz) with z | z
  ·exact (hf b hb).2.1 z
  ·exact (hf b hb).2.2.1 z
 funs:=I.stack
 frf:=I.stkFree
theorem blk_inv {D:Addr} {h':Heap} {tk:Nat} {m:Str->Option Value} (I:Inv X pins σ H s) (hf:∀ b∈fp,FpOk X pins H b) (hfs:∀ b∈fp,b < s.heap.objs.size) (hS:CompSc X.env.scope sc)
  (hc1:∀ n c,cl.lookup n=some c->X.env.cells.lookup n=some c) (hc2:∀ y∈sc.names,y.2=.free->∃ c,cl.lookup y.1=some c) (hcap:Gw X.N sc N src=true)
  (hD:s.heap.objs.size<=D) (hC:s.heap.objs.size<=C) (hDC:D≠C) (hk:∀ b o,s.heap.get? b=some o->h'.get? b=some o) (hn:h'.Ns C m) (hl:h'.get? D=some { cls:=.type "list",data:=.seq (#[]:Array Value) }) :
  Inv (C9 X N sc cl C s H fp) pins (GN σ src) (upd H D (.lst [])) { s with heap:=h',toks:=tk }:=by
 have fD:H D=none:=I.hok.fresh hD
 have fC:H C=none:=I.hok.fresh hC
 have old:∀ {b:Addr} {o:Obj},s.heap.get? b=some o->b≠D/\b≠C:=fun {b o} e=>⟨Nat.ne_of_lt (Nat.lt_of_lt_of_le (Heap.lt_size e) hD),Nat.ne_of_lt (Nat.lt_of_lt_of_le (Heap.lt_size e) hC)⟩
 refine ⟨blk_ok I hf hfs hS hC hc1 hc2,rfl,I.bare,Un.laid hk hD fD,⟨m,hn,fun j x v e1 e2 e3=>?_⟩,fun x c e=>?_,?_,fun x c e=>?_,fun p hp=>?_,I.hok.laid hk hD ⟨Nat.zero_le _,[],0,.nil,hl⟩,?_⟩
 ·unfold GN at e2
  rw [List.getElem?_map] at e2
  cases q:src[j]? with
  | none=>rw [q] at e2;cases e2
  | some o =>
   rw [q] at e2
   cases o with
   | none=>cases e2
   | some i =>
    have e2':(σ[i]?).join=some v:=Option.some.inj e2
    have e4:σ[i]?=some (some v):=by
     cases r:σ[i]? with
     | none=>rw [r] at e2';cases e2'
     | some u=>rw [r] at e2';cases u with
      | none=>cases e2'
      | some u=>have e5:some u=some v:=e2';cases e5;rfl
    obtain ⟨g1,g2⟩:=capOk_get hcap e1 q
    obtain ⟨m0,_,hl0⟩:=I.loc
    have hfr:=hS.fr _ (PySem.mem_of_lookup g2) rfl
    obtain ⟨u,ru,lk⟩:=hl0 i x v g1 e4 (hfr.elim (fun z=>.inr (.inl z)) fun z=>.inr (.inr z))
    refine ⟨u,ru,.inr ⟨?_,?_⟩⟩
    ·rcases e3 with e3 | e3 | e3
     ·obtain ⟨k,r1,r2⟩:=DX (env:=X.env) (show (relabel sc X.env).names.lookup x=some .local from e3)
      rw [g2] at r1
      cases r1
      rcases r2 with r2 | ⟨_,r2⟩ <;> cases r2
     ·exact .inl e3
     ·exact .inr e3
    ·obtain ⟨c,hc⟩:=hc2 _ (PySem.mem_of_lookup g2) rfl
     refine ⟨c,hc,?_⟩
     rcases lk with ⟨lk,_⟩ | ⟨_,c',hc',z⟩
     ·rcases hfr with z | z
      ·have z':X.env.kindOf x=some .cell:=z
       rw [lk] at z';cases z'
      ·have z':X.env.kindOf x=some .free:=z
       rw [lk] at z';cases z'
     ·have:=hc1 _ _ hc
      rw [hc'] at this
      cases this
      obtain ⟨o,ho,hd⟩:=z
      exact ⟨o,hk _ _ ho,hd⟩
 ·obtain ⟨v,o,ho,hd⟩:=I.cell x c (hc1 x c e)
  exact ⟨v,o,hk _ _ ho,hd⟩
 ·show upd H D (.lst []) C=none
  rw [AG (Ne.symm hDC)]
  exact fC
 ·obtain ⟨v,o,ho,hd⟩:=I.cell x c (hc1 x c e)
  rw [AG (old ho).1]
  exact I.freeC x c (hc1 x c e)
 ·obtain ⟨p1,p2,p3,p4,p5⟩:=I.pin p hp
  refine ⟨hk _ _ p1,by rw [AG (old p1).1];exact p2,(old p1).2,fun z=>?_,p5⟩
  rcases List.mem_cons.mp (I.stkSub _ z) with z | z
  ·exact p3 z
  ·exact p4 z
 ·show (GN σ src).length=N.length
  unfold GN
  rw [List.length_map]
  exact HL hcap
end
def PIfs (X:Cx) (ifs:List Expr) (t:TT):Prop :=
 ∀ (pins:List (Addr×Obj)) (s:Shared) (σ:St) (H:Hp) (Q:Bool->Hp->Prop),Inv X pins σ H s->t σ H Q ->
  wpAny (model X.prog X.w) X.A (forIn ifs true fun c r=>if r=true then do let ok <- isTrue c X.env (eval c X.env);pure (ForInStep.yield ok) else pure (ForInStep.yield r)) (TP X pins σ Q) X.xe s
def tYes:TT:=fun _ H Q=>Q true H
theorem pifs_nil {X:Cx}:PIfs X [] tYes:=fun pins s σ H Q I h=>wpAny_pure ⟨H,I,h⟩
def compW (J:It) (g:TG) (tt:TT) (te:TE) (Q:VK) (τ0:St) (H1:Hp):Prop:=∀ D,H1 D=none ->
 ∃ W:Nat->Nat->St->Hp->Prop,(∃ m,W 0 m τ0 (upd H1 D (.lst [])))/\∀ i m τ H2,W i m τ H2 ->
  (J.stop i H2/\Q (.ref D) H2)∨(J.go i H2/\∃ N:St->Hp->Prop,(∀ τ' H',N τ' H'->∃ m',m' < m/\W (i+1) m' τ' H')/\∀ x H3,J.yld i H2 x H3->g x τ H3 fun τ2 H4=>tt τ2 H4 fun b H5 =>
   if b=true then te τ2 H5 fun y H6=>∃ ys,H6 D=some (.lst ys)/\ys.length < sizeLine/\N τ2 (upd H6 D (.lst (ys++[y]))) else N τ2 H5)
def tComp (src:List (Option Nat)) (wi:TI) (g:TG) (tt:TT) (te:TE):TE:=fun σ H Q=>wi σ H fun J H1=>compW J g tt te Q (GN σ src) H1
section
variable {X:Cx} {tg iter elt:Expr} {ifs:List Expr} {sc:Scope} {pos:Pos} {N:List Str} {src:List (Option Nat)} {wi:TI} {g:TG} {tt:TT} {te:TE}
theorem comp_run (hcalm:X.calm=true) (hS:CompSc X.env.scope sc) (hcap:Gw X.N sc N src=true)
  (hg:∀ cl C s H fp,PG (C9 X N sc cl C s H fp) tg g) (ht:∀ cl C s H fp,PIfs (C9 X N sc cl C s H fp) ifs tt) (he:∀ cl C s H fp,PE (C9 X N sc cl C s H fp) elt te)
  {pins:List (Addr×Obj)} {s:Shared} {σ:St} {H:Hp} {it:Addr} {fp:List Addr} {tn:Nat->Heap->Prop} {J:It} {cl:List (Str×Addr)} {Q:VK} {E:Value->Shared->Prop} {RR:Value->Addr->Result->Shared->Prop}
  (hc1:∀ n c,cl.lookup n=some c->X.env.cells.lookup n=some c) (hc2:∀ y∈sc.names,y.2=.free->∃ c,cl.lookup y.1=some c)
  (I:Inv X pins σ H s) (T:Turn X.prog X.w X.K tg J fp it tn) (t0:tn 0 s.heap) (hf:∀ b∈fp,FpOk X pins H b) (hw:compW J g tt te Q (GN σ src) H)
  (hR:∀ (D C:Addr) (s':Shared) (τ:St) (H':Hp) (m:Str->Option Value),s.heap.objs.size<=C->s'.heap.Ns C m->Inv (C9 X N sc cl C s H fp) pins τ H' s'->(∀ b∈fp,H' b=none)->Q (.ref D) H'->RR (.ref D) C (.ok .next) s') :
  wpAny (model X.prog X.w) X.A (newList []) (fun acc s₃=>wpAny (model X.prog X.w) X.A (newFunctionEnv sc X.env.globals cl [] X.env.qual none .none (some X.env)) (fun cenv s₄ =>
   codeAny (model X.prog X.w) X.A (.compStart (.ListComp elt [⟨tg,iter,ifs,0⟩] sc pos) 0 (.ref it) acc { cenv with scope:=relabel sc X.env }) (RR acc cenv.locals) s₄) E s₃) E s:=by
 have hfs:∀ b∈fp,b < s.heap.objs.size:=fun b hb=>by
  obtain ⟨o,e,_⟩:=T.obj 0 _ t0 b hb
  exact Heap.lt_size e
 refine wpAny_newObj_type (wpAny_newFunctionEnv hS.nocell (by intro y hy;simp at hy) (fun h₁ hns₁ hsb₁=>?_) hS.kind)
 dsimp only at hns₁ hsb₁ ⊢
 generalize hH2:s.heap.push { cls:=.type "list",dict:=none,data:=.seq ([]:List Value).toArray }=H2 at hns₁ hsb₁ ⊢
 have hC:H2.objs.size=s.heap.objs.size+1:=by rw [<- hH2,Heap.size_push]
 have hDC:s.heap.objs.size≠H2.objs.size:=by rw [hC];exact Nat.ne_of_lt (Nat.lt_succ_self _)
 have hCle:s.heap.objs.size<=H2.objs.size:=by rw [hC];exact Nat.le_succ _
 have old:∀ b o,s.heap.get? b=some o->h₁.get? b=some o:=fun b o e=>hsb₁.extBut b o (Nat.ne_of_lt (Nat.lt_of_lt_of_le (Heap.lt_size e) hCle)) (Heap.get?_push_of_some _ (hH2▸Heap.get?_push_of_some _ e))
 have hacc:h₁.get? s.heap.objs.size=some { cls:=.type "list",data:=.seq (#[]:Array Value) }:=hsb₁.extBut _ _ hDC (Heap.get?_push_of_some _ (hH2▸Heap.get?_push_size _ rfl))
 have fresh:H s.heap.objs.size=none:=I.hok.fresh (Nat.le_refl _)
 obtain ⟨W,⟨m0,w0⟩,turn⟩:=hw s.heap.objs.size fresh
 have Y0:Inv (C9 X N sc cl H2.objs.size s H fp) pins (GN σ src) (upd H s.heap.objs.size (.lst [])) { s with heap:=h₁,toks:=s.toks+([]:List (Str×Value)).length } :=
  blk_inv I hf hfs hS hc1 hc2 hcap (Nat.le_refl _) hCle hDC old hns₁ hacc
 have t1:tn 0 h₁:=T.keep 0 _ _ t0 fun b _ o e=>old b o e
 have fp0:∀ b∈fp,upd H s.heap.objs.size (.lst []) b=none:=fun b hb=>by
  rw [AG (Nat.ne_of_lt (hfs b hb))]
  exact (hf b hb).1
 have stat:∀ {H':Hp},(∀ b∈fp,H' b=none)->∀ b∈fp,FpOk (C9 X N sc cl H2.objs.size s H fp) pins H' b:=fun {H'} hn b hb =>
  ⟨hn b hb,Nat.ne_of_lt (Nat.lt_of_lt_of_le (hfs b hb) hCle),Y0.ok.exfs b hb,.inl hb,(Y0.ok.exf b hb).2,(hf b hb).2.2.2.2.2⟩
 have loop:∀ s₃:Shared,s₃={ s with heap:=h₁,toks:=s.toks+([]:List (Str×Value)).length } ->
   codeAny (model X.prog X.w) X.A (.compLoop (.ListComp elt [⟨tg,iter,ifs,0⟩] sc pos) 0 (.ref it) (.ref s.heap.objs.size) (compEnvC sc cl H2.objs.size X.env)) (RR (.ref s.heap.objs.size) H2.objs.size) s₃:=by
  rintro s₃ rfl
  refine compLoop_any (fun n s'=>∃ i τ H',Inv (C9 X N sc cl H2.objs.size s H fp) pins τ H' s'/\tn i s'.heap/\(∀ b∈fp,H' b=none)/\W i n τ H') ?_ m0 ⟨0,_,_,Y0,t1,fp0,w0⟩
  rintro n s4 ⟨i,τ,H4,I4,t4,fr4,w4⟩
  rcases turn i n τ H4 w4 with ⟨stop,qn⟩ | ⟨go,Nx,hNx,step⟩
  ·refine thn (T.done (C9 X N sc cl H2.objs.size s H fp) rfl rfl rfl hcalm i pins s4 τ H4 _ I4 (stat fr4) t4 stop) fun r s5 ⟨hr,I5⟩=>?_
   subst hr
   obtain ⟨m5,hn5,_⟩:=I5.loc
   exact hR _ _ s5 τ H4 m5 hCle hn5 I5 fr4 qn
  ·refine thn (T.item (C9 X N sc cl H2.objs.size s H fp) rfl rfl rfl hcalm i pins s4 τ H4 _ I4 (stat fr4) t4 go) fun r s5 ⟨u,hr,h5⟩=>?_
   subst hr
   refine thn h5 fun _ s6 ⟨x,H6,I6,r6,y6,st6,fr6⟩=>?_
   have I6':=I6.pinned (stat fr6) (T.obj _ _ st6)
   have again:∀ {τ7:St} {H7:Hp} {s7:Shared} {m':Nat},Inv (C9 X N sc cl H2.objs.size s H fp) (pins++pinsAt fp s6.heap) τ7 H7 s7->m' < n->W (i+1) m' τ7 H7 ->
     ∃ m,m < n/\∃ i τ H',Inv (C9 X N sc cl H2.objs.size s H fp) pins τ H' s7/\tn i s7.heap/\(∀ b∈fp,H' b=none)/\W i m τ H':=fun {τ7 H7 s7 m'} I7 hm w7=>by
    refine ⟨m',hm,i+1,τ7,H7,I7.GQ,T.keep _ _ _ st6 fun b hb o e=>(I7.pin (b,o) (List.mem_append_right _ (List.mem_append_right _ (Fb hb e)))).1,fun b hb=>?_,w7⟩
    obtain ⟨o,e,d⟩:=T.obj _ _ st6 b hb
    exact (I7.pin (b,o) (List.mem_append_right _ (List.mem_append_right _ (Fb hb e)))).2.1
   refine thn (hg cl H2.objs.size s H fp _ s6 τ H6 x u _ I6' r6 (step x H6 y6)) fun _ s7 ⟨τ7,H7,I7,q7⟩=>?_
   refine thn (ht cl H2.objs.size s H fp _ s7 τ7 H7 _ I7 q7) fun b s8 ⟨H8,I8,q8⟩=>?_
   cases b with
   | false =>
    rw [if_neg Bool.false_ne_true] at q8 ⊢
    obtain ⟨m',hm,w8⟩:=hNx _ _ q8
    exact again I8 hm w8
   | true =>
    rw [if_pos rfl] at q8 ⊢
    refine thn (he cl H2.objs.size s H fp _ s8 τ7 H8 _ I8 q8) fun v s9 ⟨y,H9,I9,r9,ys,hD9,hz,w9⟩=>?_
    obtain ⟨m',hm,w9⟩:=hNx _ _ w9
    refine thn (Dj _ s9 τ7 H9 (.ref s.heap.objs.size) [y] (.ref s.heap.objs.size) [v] (fun _ Hn=>W (i+1) m' τ7 Hn) I9 rfl (.cons r9 .nil) ⟨_,ys,y,rfl,rfl,hD9,hz,w9⟩) fun _ s10 ⟨_,H10,I10,_,w10⟩=>?_
    exact again I10 hm w10
 exact codeAny_compStart_list (loop _ rfl) (T.self X.A 0 _ _ _ t1 (loop _ rfl))
theorem blk_end {pins:List (Addr×Obj)} {s s':Shared} {σ τ:St} {H H':Hp} {fp:List Addr} {cl:List (Str×Addr)} {C:Addr} (I:Inv X pins σ H s) (hf:∀ b∈fp,FpOk X pins H b) (J:Inv (C9 X N sc cl C s H fp) pins τ H' s'):Inv X pins σ H' s' :=
 I.call' (ch:=fp) J.os J.base J.hok J.bare fun b hb=>⟨(hf b hb).2.2.2.1,(hf b hb).2.1,(hf b hb).2.2.2.2.1,(hf b hb).2.2.2.2.2⟩
theorem blk_off {pins:List (Addr×Obj)} {s s':Shared} {σ τ:St} {H H':Hp} {fp:List Addr} {cl:List (Str×Addr)} {C:Addr} {h':Heap} (I:Inv X pins σ H s) (hC:s.heap.objs.size<=C) (hf:∀ b∈fp,FpOk X pins H b)
  (J:Inv (C9 X N sc cl C s H fp) pins τ H' s') (hs:Heap.SameBut C s'.heap h'):Inv X pins σ H' { s' with heap:=h' }:=by
 have I':=blk_end I hf J
 refine I'.turned (it:=C) (t':=s'.toks) (fun b o hb e=>hs.extBut b o hb e) J.free (Nat.ne_of_gt (Nat.lt_of_lt_of_le I.lt hC)) (.inr (Nat.le_trans I.sz hC)) (fun x c e z=>?_) fun p hp z=>?_
 ·obtain ⟨v,q⟩:=I.cell x c e
  exact absurd (Nat.lt_of_lt_of_le q.lt (by rw [z];exact hC)) (Nat.lt_irrefl _)
 ·exact absurd (Nat.lt_of_lt_of_le (Heap.lt_size (I.pin p hp).1) (by rw [z];exact hC)) (Nat.lt_irrefl _)
theorem pe_comp (N:List Str) (src:List (Option Nat)) (hcalm:X.calm=true) (hi:PI X tg iter wi) (hg:∀ cl C s H fp,PG (C9 X N sc cl C s H fp) tg g) (ht:∀ cl C s H fp,PIfs (C9 X N sc cl C s H fp) ifs tt)
  (he:∀ cl C s H fp,PE (C9 X N sc cl C s H fp) elt te) (hS:compOk X.env.scope sc=true:=by rfl) (hcap:Gw X.N sc N src=true:=by rfl)
  (hs:∀ x,foldedSetIterable iter X.env x=pure x:=by intro _;rfl):PE X (.ListComp elt [⟨tg,iter,ifs,0⟩] sc pos) (tComp src wi g tt te):=by
 intro pins s σ H Q I h
 have S:=compSc_of hS
 obtain ⟨cl,hcl,hc1,hc2⟩:=FX (sc:=sc) (env:=X.env) fun y hy e=>I.ok.has y.1 (S.fr y hy e)
 rw [eval_ListComp]
 refine wpAny_comprehension_free (use:=none) rfl hs hcl S.kind S.loc (thn (hi pins s σ H _ I h) fun v s1 h1=>thn h1 fun itv s2 h2=>?_)
 obtain ⟨it,fp,tn,J,H2,e,I2,T,t2,f2,hw⟩:=h2
 subst e
 refine comp_run hcalm S hcap hg ht he hc1 hc2 I2 T t2 f2 hw (RR:=fun acc C=>compPost (model X.prog X.w) X.A X.xe none (EP X pins σ Q) acc C) fun D C s' τ H' m hC hn J' _ q=>?_
 exact ⟨m,hn,fun h' hsb=>⟨.ref D,H',blk_off I2 hC f2 J' hsb,rfl,q⟩⟩
theorem ps_setComp {i:Nat} {y:Str} {pos' spos:Pos} (N:List Str) (src:List (Option Nat)) (hcalm:X.calm=true) (hN:X.N.Nodup) (hiy:X.N[i]?=some y) (hy:Loc X.env.scope y) (hi:PI X tg iter wi) (hg:∀ cl C s H fp,PG (C9 X N sc cl C s H fp) tg g) (ht:∀ cl C s H fp,PIfs (C9 X N sc cl C s H fp) ifs tt)
  (he:∀ cl C s H fp,PE (C9 X N sc cl C s H fp) elt te) (hS:compOk X.env.scope sc=true:=by rfl) (hcap:Gw X.N sc N src=true:=by rfl)
  (hs:∀ x,foldedSetIterable iter X.env x=pure x:=by intro _;rfl) (hsw:swapsWith (.ListComp elt [⟨tg,iter,ifs,0⟩] sc pos) (some (.Name y pos')) spos.line X.env=pure true:=by rfl)
  (hf:X.fn y=true∨X.env.scope.names.lookup y=some .local:=by first | exact .inl rfl | exact .inr rfl | assumption) :
  PS X (.Assign [.Name y pos'] (.ListComp elt [⟨tg,iter,ifs,0⟩] sc pos) spos) (tAsg (tComp src wi g tt te) (gName i)):=by
 intro pins s σ H D0 I h
 have S:=compSc_of hS
 obtain ⟨cl,hcl,hc1,hc2⟩:=FX (sc:=sc) (env:=X.env) fun y hy e=>I.ok.has y.1 (S.fr y hy e)
 rw [exec_Assign_Name_used _ _ _ _ hsw]
 refine wpAny_bind (wpAny_standAt (wpAny_bind ?_))
 show wpAny _ X.A (do let _ <- comprehension (.ListComp elt [⟨tg,iter,ifs,0⟩] sc pos) sc X.env _ (newList []) false (eval iter X.env) (some (assign (.Name y pos') X.env))) _ _ s
 refine wpAny_bind (wpAny_mono (wpAny_comprehension_free (use:=some (assign (.Name y pos') X.env)) (Q:=fun _ s'=>SP X pins D0 .next s') rfl hs hcl S.kind S.loc
  (thn (hi pins s σ H _ I h) fun v s1 h1=>thn h1 fun itv s2 h2=>?_)) (fun _ s' hq=>wpAny_pure (wpAny_pure hq)) fun _ _ e=>e)
 obtain ⟨it,fp,tn,J,H2,e,I2,T,t2,f2,hw⟩:=h2
 subst e
 refine comp_run hcalm S hcap hg ht he hc1 hc2 I2 T t2 f2 hw (RR:=fun acc C=>compPost (model X.prog X.w) X.A X.xe (some (assign (.Name y pos') X.env)) (fun _ s'=>SP X pins D0 .next s') acc C) fun D C s' τ H' m hC hn J' _ q=>?_
 show wpAny _ X.A (assign (.Name y pos') X.env (.ref D)) _ _ s'
 have I':=blk_end I2 f2 J'
 have ltC:∀ {b:Addr} {o:Obj},s2.heap.get? b=some o->b≠C:=fun e=>Nat.ne_of_lt (Nat.lt_of_lt_of_le (Heap.lt_size e) hC)
 have cC:∀ x c,X.env.cells.lookup x=some c->c≠C:=fun x c e=>by
  obtain ⟨v,o,ho,_⟩:=I2.cell x c e
  exact ltC ho
 have lC:X.env.locals≠C:=Nat.ne_of_lt (Nat.lt_of_lt_of_le I2.lt hC)
 refine wpAny_assign_Name (store_ok2 I' hN hiy hy (v:=.ref D) rfl (fun s3 I3 ⟨a,sb,ha⟩=>?_) hf)
 have naC:C≠a:=by
  rcases ha with rfl | ha
  ·exact Ne.symm lC
  ·exact Ne.symm (cC _ _ ha)
 refine ⟨m,hn.sameBut sb naC,fun h' hs'=>⟨_,H',I3.turned (it:=C) (t':=s3.toks) (fun b o hb e=>hs'.extBut b o hb e) J'.free (Ne.symm lC) (.inr (Nat.le_trans I2.sz hC)) cC (fun p hp z=>ltC (I2.pin p hp).1 z),q⟩⟩
end
section
variable {K:PySem.W.Frag} {a:Addr} {xs:List V} {g:TG} {tt:TT} {te:TE} {Q:VK} {τ0:St} {H1:Hp}
end
end L2
namespace PySem
namespace F
theorem nolen_lri:typeLookup (.type "list_reverseiterator") "__len__"=pure none:=by rw [typeLookup_type,builtinLookup_eq_fast];kernel_rfl
theorem hint_lri:typeLookup (.type "list_reverseiterator") "__length_hint__"=pure (some (.builtin "list_reverseiterator.__length_hint__")):=by rw [typeLookup_type,builtinLookup_eq_fast];kernel_rfl
end F
section
variable {prog:Program} {w:World} {A:Around} {s:Shared} {R:Result->Shared->Prop}
variable {I:Addr} {fp wr:List Addr} {G:Array GenState->Array GenState->Prop} {n:Nat} {P:Nat->Value->Prop} {St:Nat->Shared->Prop}
theorem GJ (W:WalksS prog w A.in1 I fp wr G n P St) (hT:∀ i s,St i s->s.TypeIs (.ref I) "list_reverseiterator") (S:Addr) (res:Value) (c₀:Nat) (hst:St 0 s) (hSf:S∉fp) (hI:I∈fp)
  (hS:s.heap.get? S=some { cls:=.type "list",data:=.seq #[] c₀ })
  (hR:∀ s' acc' c',Moved (S :: wr) G s s'->s'.heap.get? S=some { cls:=.type "list",dict:=none,data:=.seq acc' c',slots:=#[] }->ItemsOf P acc' n->R (.ok (.ret res)) s') (hn:n<=sizeLine) :
  wpAny (model prog w) A.in1 (Builtin.List.listExtendWith (.ref S) (.ref I) res)
   (fun fin s'=>match fin with | .done f=>R (.ok f) s' | .again c'=>c'.quiet=true/\codeAny (model prog w) A c' R s') (fun e s'=>R (.error e) s') s:=by
 have hSI:S≠I:=fun e=>hSf (e▸hI)
 unfold Builtin.List.listExtendWith
 refine wpAny_bind (wpAny_typeOf (hT 0 _ hst) ?_)
 have h1:Builtin.List.listSameRef (.ref S) (.ref I)=false:=by simp [Builtin.List.listSameRef,hSI]
 have h2:(Value.type "list_reverseiterator" == Value.type "list")=false:=by decide
 have h3:(Value.type "list_reverseiterator" == Value.type "tuple")=false:=by decide
 simp only [h1,h2,h3,Bool.or_false,Bool.false_eq_true,if_false]
 refine wpAny_bind (W.self 0 _ _ _ hst ?_)
 refine wpAny_bind (wpAny_holding ?_)
 unfold Builtin.List.listLengthHint
 refine wpAny_bind (wpAny_specialOf (hT 0 _ hst) F.nolen_lri ?_)
 show wpAny _ A.in1 (specialOf (Value.ref I) (Str.ofString "__length_hint__") >>= _) _ _ _
 refine wpAny_bind (wpAny_specialOf (hT 0 _ hst) F.hint_lri ?_)
 generalize hid:("list_reverseiterator.__length_hint__":String)=id0
 wp_delta
 rw [show splitId id0=some ("list_reverseiterator","__length_hint__") from by subst hid;decide +kernel]
 subst hid
 refine wpAny_bind (wpAny_isInstance (b:=true) (hT 0 _ hst) (by rw [isSubtype_type];kernel_rfl) ?_)
 refine wpAny_pure ?_
 rw [if_neg (by decide)]
 refine wpAny_pure ⟨plainId_quiet F.plain_extend_loop _,codeAny_extend_loopS W hn _ hSf _ n 0 _ _ _ rfl (Nat.zero_le _) hst hS (ItemsOf.nil P) fun s' acc' c' hm hS' hacc=>?_⟩
 exact hR s' acc' c' hm hS' hacc
theorem Fv (W:WalksS prog w A.in1 I fp wr G n P St) (hT:∀ i s,St i s->s.TypeIs (.ref I) "list_reverseiterator") (S:Addr) (hst:St 0 s) (hSf:S∉fp) (hI:I∈fp)
  (hS:s.heap.get? S=some { cls:=.type "list",data:=.seq #[] })
  (hR:∀ s' acc' c',Moved (S :: wr) G s s'->s'.heap.get? S=some { cls:=.type "list",dict:=none,data:=.seq acc' c',slots:=#[] }->ItemsOf P acc' n->R (.ok (.ret .none)) s') (hn:n<=sizeLine) :
  wpAny (model prog w) A.in1 (Builtin.«list.__init__» ⟨[.ref S,.ref I],[]⟩)
   (fun fin s'=>match fin with | .done f=>R (.ok f) s' | .again c'=>c'.quiet=true/\codeAny (model prog w) A c' R s') (fun e s'=>R (.error e) s') s:=by
 show wpAny _ A.in1 (do let old <- Builtin.List.listItems (.ref S);Builtin.List.listUpdate (.ref S) (fun _=>#[]);letGo old.toList.reverse;Builtin.List.listExtendWith (.ref S) (.ref I) .none) _ _ s
 refine wpAny_bind ?_
 unfold Builtin.List.listItems
 refine wpAny_bind (wpAny_seqItems hS rfl (wpAny_pure ?_))
 show wpAny _ A.in1 (updateSeq S (fun _=>#[]) >>= fun _=>letGo (#[]:Array Value).toList.reverse >>= fun _=>Builtin.List.listExtendWith (.ref S) (.ref I) .none) _ _ s
 refine wpAny_bind (wpAny_updateSeq hS rfl ?_)
 have hS₂:=Heap.get?_update_self (Obj.mapSeq (fun _=>(#[]:Array Value))) hS rfl
 have oth:∀ b o,b≠S->s.heap.get? b=some o->(s.heap.update S (Obj.mapSeq (fun _=>(#[]:Array Value)))).get? b=some o :=
  fun b o hb e=>(Heap.get?_update_other _ _ (Ne.symm hb)).trans e
 refine wpAny_bind (wpAny_letGo ?_)
 refine GJ (hn:=hn) W hT S .none _ (W.frame 0 s _ s.toks hst (Nat.le_refl _) fun b hb o e=>oth b o (fun h=>hSf (h▸hb)) e) hSf hI hS₂ fun s' acc' c' hm hS' hacc=>?_
 exact hR s' acc' c' (Moved.trans W.gtrans ((Moved.refl W.grefl).then_heap (Nat.le_refl _) fun b o hb e=>oth b o (fun h=>hb (h▸List.mem_cons_self)) e) hm) hS' hacc
end
section
variable {prog:Program} {w:World} {A:Around} {E:Value->Shared->Prop} {s:Shared}
theorem Gx {it l:Addr} {items:Array Value} {Q:Value->Shared->Prop} (hh:A.handled=none) (hne:l≠it) (hit:s.heap.IsRevIter it l ((items.size:Int) - 1)) (hl:s.heap.IsList l items) (hz:items.size<=sizeLine)
  (hQ:∀ h' tk acc' c',(∀ b o,b≠it->s.heap.get? b=some o->h'.get? b=some o) ->
   h'.get? s.heap.objs.size=some { cls:=.type "list",dict:=none,data:=.seq acc' c',slots:=#[] }->ItemsOf (fun i v=>items[items.size - 1 - i]?=some v) acc' items.size->Q (.ref s.heap.objs.size) { s with heap:=h',toks:=tk }) :
  wpAny (model prog w) A (call (.type "list") [.ref it]) Q E s:=by
 refine callType_codes (Q₁:=fun obj s₁=>obj=.ref s.heap.objs.size/\s₁={ s with heap:=s.heap.push { cls:=.type "list",data:=.seq #[] } }) F.called_list (F.typeCall_list_1 _) F.entry_list_init
  (code_list_new _ ⟨rfl,rfl⟩) fun obj s₁ h₁=>?_
 obtain ⟨rfl,rfl⟩:=h₁
 have hS:(s.heap.push { cls:=.type "list",data:=.seq #[] }).get? s.heap.objs.size=some { cls:=.type "list",data:=.seq #[] }:=Heap.get?_push_size _ rfl
 have hlt:it < s.heap.objs.size:=by obtain ⟨o,e,_⟩:=hit;exact Heap.lt_size e
 have hlt2:l < s.heap.objs.size:=by obtain ⟨o,e,_⟩:=hl;exact Heap.lt_size e
 have W:=(Walks.listRev (prog:=prog) (w:=w) (A:=A.in1.in1) hh it l hne items).toS
 have e0:(items.size:Int) - 1 - ((0:Nat):Int)=(items.size:Int) - 1:=by simp
 refine ⟨⟨_,hS,rfl⟩,F.args_list_init_2 _ _,Fv (A:=A.in1) W (fun i s' st=>?_) _ ?_ ?_ (by simp) hS (fun s' acc' c' hm hS' hacc=>?_) hz⟩
 ·exact st.2.1.typeIs
 ·refine ⟨Nat.zero_le _,?_,hl.push _⟩
  rw [e0]
  exact hit.at fun o e=>Heap.get?_push_of_some _ e
 ·intro hm
  rcases List.mem_cons.mp hm with e | hm
  ·exact absurd hlt (by rw [e];exact Nat.lt_irrefl _)
  ·exact absurd hlt2 (by rw [List.mem_singleton.mp hm];exact Nat.lt_irrefl _)
 ·rw [Moved.eq_with hm] at hS' ⊢
  refine ⟨rfl,hQ s'.heap s'.toks acc' c' (fun b o hb e=>hm.heap b o (fun hmem=>?_) (Heap.get?_push_of_some _ e)) hS' hacc⟩
  rcases List.mem_cons.mp hmem with e' | hmem
  ·exact absurd (Heap.lt_size e) (by rw [e'];exact Nat.lt_irrefl _)
  ·exact hb (List.mem_singleton.mp hmem)
end
end PySem
namespace L2
open PySem PySem.Spec PyProof.Rows
section
variable {X:Cx} {pins:List (Addr×Obj)} {σ:St} {H:Hp} {s:Shared}
theorem Inv.collected {it d:Addr} {h':Heap} {t':Nat} {ys:List V} {its:List Value} {n:Nat} (I:Inv X pins σ H s) (hf:FpOk X pins H it) (hd:s.heap.objs.size<=d) (k:∀ b o,b≠it->s.heap.get? b=some o->h'.get? b=some o)
  (hz:ys.length<=sizeLine) (r:Vals ys its) (e:h'.get? d=some { cls:=.type "list",data:=.seq its.toArray n }):Inv X pins σ (upd H d (.lst ys)) { s with heap:=h',toks:=t' }:=by
 obtain ⟨f0,f1,f2,f3,f4,f5⟩:=hf
 have fd:H d=none:=I.hok.fresh hd
 have nd:∀ {b:Addr} {o:Obj},s.heap.get? b=some o->b≠d:=fun e=>Nat.ne_of_lt (Nat.lt_of_lt_of_le (Heap.lt_size e) hd)
 have nit:∀ {b:Addr} {u:HO},H b=some u->b≠it:=fun {b u} e z=>by rw [z,f0] at e;cases e
 refine I.step (g':=s.gens) (d':=s.drawn) (ch:=[it]) (fun b hb=>?_) (fun b o _ _ hc e _=>k b o (fun z=>hc (by simp [z])) e) (fun b o _ _ hc e _=>⟨o.slots,k b o (fun z=>hc (by simp [z])) e⟩)
  (fun b o _ e n=>by rw [AG (nd e)];exact n) (fun b o hc e=>⟨o,k b o (fun z=>hc (by simp [z])) e⟩) (fun b xs e=>by rw [AG (Cc e fd)];exact e) (fun b o u e=>by rw [AG (Cc e fd)];exact e)
  (fun b ps e=>⟨#[],by rw [AG (Cc e fd),e];simp⟩) (fun m hm=>?_) (fun b u e=>?_) I.bare
 ·have e:b=it:=by simpa using hb
  subst e
  exact ⟨f3,f1,f4,f5⟩
 ·obtain ⟨o,es,ep,ho,r⟩:=hm
  exact ⟨o,es,ep,k _ o (Ne.symm f1) ho,r⟩
 ·by_cases hb:b=d
  ·subst hb
   rw [AV] at e
   cases e
   exact ⟨hz,its,n,r,‹_›⟩
  ·rw [AG hb] at e
   refine (I.hok b u e).stay (fun c v hc q=>k c v ?_ q) (fun c q=>by rw [AG (Cc q fd)];exact q) fun c xs q=>by rw [AG (Cc q fd)];exact q
   rcases hc with z | z
   ·rw [z];exact nit e
   ·exact nit z
end
theorem vals_rev {ys:List V} {its:List Value} (r:Vals ys its) {acc:Array Value} (h:ItemsOf (fun i v=>its.toArray[its.toArray.size - 1 - i]?=some v) acc its.toArray.size):Vals ys.reverse acc.toList:=by
 have e:acc.toList=its.reverse:=by
  apply List.ext_getElem?
  intro i
  obtain ⟨h1,h2⟩:=h
  have hs:its.toArray.size=its.length:=by simp
  by_cases hi:i < its.length
  ·have ha:acc[i]?=some (acc[i]'(by omega)):=by simp
   have q:=h2 i _ ha
   rw [List.getElem?_reverse (by omega)]
   have q':its[its.length - 1 - i]?=some (acc[i]'(by omega)):=by simpa using q
   rw [q']
   simp
  ·rw [List.getElem?_eq_none (by simp;omega),List.getElem?_eq_none (by simp;omega)]
 rw [e]
 exact r.reverse
section
variable {X:Cx} {a:Expr} {ta:TE} {p1 p2 pos1 pos2:Pos}
def tListRev (K:PySem.W.Frag) (ta:TE):TE:=fun σ H Q=>ta σ H fun x H1=>∃ l ys,x=.ref l/\SqL K H1 l ys/\∀ d,H1 d=none->Q (.ref d) (upd H1 d (.lst ys.reverse))
theorem pe_listRev (hc:X.calm=true) (hm1:X.mg "list"=none) (hm2:X.mg "reversed"=none) (ha:PE X a ta) (hg1:Gl X "list":=by rfl) (hg2:Gl X "reversed":=by rfl)
  (he:starEach [(.Call (.Name "reversed" p2) [a] [] pos2:Expr)] X.env=[(false,eval (.Call (.Name "reversed" p2) [a] [] pos2) X.env)]:=by rfl) (he2:starEach [a] X.env=[(false,eval a X.env)]:=by rfl) :
  PE X (.Call (.Name "list" p1) [.Call (.Name "reversed" p2) [a] [] pos2] [] pos1) (tListRev X.K ta):=by
 intro pins s σ H Q I h
 refine wpAny_Call_Name_kw (FF I hg1 hm1 boot_list ?_)
 refine PyProof.Rows.callWith_type1 ?_ he rfl
 rw [he]
 refine Calls.spliced_cons ?_
 refine wpAny_Call_Name_kw (FF I hg2 hm2 boot_reversed ?_)
 refine PyProof.Rows.callWith_type1 ?_ he2 rfl
 rw [he2]
 refine Calls.spliced_cons (thn (ha pins s σ H _ I h) fun u s1 ⟨x,H1,I1,r1,l,ys,ex,hq,q⟩=>?_)
 subst ex
 cases r1
 obtain ⟨its,rv,pl,hz⟩:=I1.list hq
 have hlen:=rv.length
 refine Calls.spliced_nil (call_reversed_list pl.isList ?_)
 refine Calls.spliced_nil ?_
 have I2:Inv X pins σ H1 { s1 with heap:=s1.heap.push (revObj l ((its.toArray.size:Int) - 1)) }:=I1.kept (t':=s1.toks) fun b o e=>Heap.get?_push_of_some _ e
 have hf:FpOk X pins H1 s1.heap.objs.size:=I1.fpOk (Nat.le_refl _) (I1.hok.fresh (Nat.le_refl _))
 have hlt:l < s1.heap.objs.size:=by obtain ⟨o,n,e,_⟩:=pl;exact Heap.lt_size e
 refine Gx (s:={ s1 with heap:=s1.heap.push (revObj l ((its.toArray.size:Int) - 1)) }) (I.ok.hd hc) (Nat.ne_of_lt hlt) ⟨_,Heap.get?_push_size _ rfl,rfl,rfl⟩ (pl.isList.push _) (by rw [List.size_toArray];omega) fun h' tk acc c kp e hacc=>?_
 refine ⟨.ref _,_,I2.collected (n:=c) hf (Nat.le_refl _) kp (by rw [List.length_reverse];exact hz) (vals_rev rv hacc) (by simpa using e),rfl,q _ (I2.hok.fresh (Nat.le_refl _))⟩
theorem call_sum (hc:X.calm=true):DO X (.builtin "sum") (fun xs H Q=>∃ (l:Addr) (ns:List Int),xs=[.ref l]/\SqL X.K H l (ns.map V.int)/\Q (.int ns.sum) H):=by
 intro pins s σ H xs us Q I r h
 obtain ⟨l,ns,rfl,hq,q⟩:=h
 obtain ⟨u,rfl,rx⟩:=vals1 r
 cases rx
 obtain ⟨its,rv,pl,hz⟩:=I.list hq
 have hi:=intsAre_of rv
 obtain ⟨zs,hx⟩:=hi.allInts.items
 have hl':s.heap.IsList l (intItems zs):=hx▸pl.isList
 refine sum_intListG (I.ok.hd hc) hl' fun h' tk t' hk=>?_
 have e1:ns=zs.toList.map (·.1):=by
  rw [<- nums_intItems,<- hx]
  exact (show numsOf its.toArray.toList=ns from hi.numsOf).symm
 have e2:preSum (numAt zs) zs.size=ns.sum:=by
  rw [preSum_eq,List.take_of_length_le (by simp),e1]
 rw [e2]
 exact ⟨.int ns.sum,H,I.kept hk,⟨_,rfl⟩,q⟩
theorem HP:∀ {bs:List Bool} {us:List Value},Vals (bs.map V.bl) us->us=bs.map Value.bool
 | [],_,.nil=>rfl
 | b :: bs,_,.cons r t=>by
  cases (show _=Value.bool b from r)
  rw [List.map_cons,HP t]
theorem call_all (hc:X.calm=true):DO X (.builtin "all") (fun xs H Q=>∃ (l:Addr) (bs:List Bool),xs=[.ref l]/\SqL X.K H l (bs.map V.bl)/\Q (.bl (bs.all id)) H):=by
 intro pins s σ H xs us Q I r h
 obtain ⟨l,bs,rfl,hq,q⟩:=h
 obtain ⟨u,rfl,rx⟩:=vals1 r
 cases rx
 obtain ⟨its,rv,pl,hz⟩:=I.list hq
 have hb:=HP rv
 have hl:=pl.isList
 have hlt:l < s.heap.objs.size:=by obtain ⟨_,e,_⟩:=hl;exact Heap.lt_size e
 refine call_all_walk (wpAny_pyIter_list hl ?_)
 refine ⟨s.heap.objs.size,[s.heap.objs.size,l],[s.heap.objs.size],its.toArray.size,_,_,fun i=>(bs[i]?).getD true,rfl,Walks.list (A:=X.A.in1) (I.ok.hd hc) _ l (Nat.ne_of_lt hlt) its.toArray,
  ⟨⟨_,Heap.get?_push_size _ rfl,rfl,rfl⟩,hl.push _⟩,fun i v s' Q' E' hP hQ=>?_,fun h' tk hk=>?_⟩
 ·have e:its[i]?=some v:=by simpa using hP
  rw [hb,List.getElem?_map] at e
  cases eb:bs[i]? with
  | none=>rw [eb] at e;cases e
  | some b =>
   rw [eb] at e
   have e':Value.bool b=v:=Option.some.inj e
   subst e'
   simp only [eb,Option.getD_some] at hQ
   exact wpAny_truthy_bool hQ
 ·have e:((List.range its.toArray.size).all fun i=>(bs[i]?).getD true)=bs.all id:=by
   have hlen:its.toArray.size=bs.length:=by rw [hb];simp
   rw [hlen]
   rw [Bool.eq_iff_iff,List.all_eq_true,List.all_eq_true]
   constructor
   ·intro hh b hm
    obtain ⟨i,hi,rfl⟩:=List.getElem_of_mem hm
    have:=hh i (List.mem_range.mpr hi)
    simpa [List.getElem?_eq_getElem hi] using this
   ·intro hh i hi
    have hi':=List.mem_range.mp hi
    have:=hh _ (List.getElem_mem hi')
    simpa [List.getElem?_eq_getElem hi'] using this
  rw [e]
  have kp:∀ b o,s.heap.get? b=some o->h'.get? b=some o:=fun b o e=>hk b o (fun hm=>by rw [List.mem_singleton.mp hm] at e;exact Nat.lt_irrefl _ (Heap.lt_size e)) (Heap.get?_push_of_some _ e)
  exact ⟨.bl _,H,I.kept kp,rfl,q⟩
theorem op_mulK:OpR X (binaryOp .Mult) (rI IntMulOk fun i j=>.int (i * j)):=opI fun _ _ _ _ _ _ _ hc q=>mul_int q hc
theorem op_mulStr:OpR X (binaryOp .Mult) (fun x y H Q=>∃ z n,x=.str z/\y=.int n/\MulOk z n/\Q (.str (Txt.mul z n)) H):=by
 intro pins s σ H x y v u Q I rx ry h
 obtain ⟨z,n,rfl,rfl,hok,q⟩:=h
 obtain ⟨t,rfl⟩:=rx
 obtain ⟨t',rfl⟩:=ry
 exact SB.mul hok fun t' k=>⟨.str _,H,I.tok _,⟨_,rfl⟩,q⟩
theorem He:∀ {ys:List Str} {us:List Value},Vals (ys.map V.str) us->StrsAre us ys
 | [],_,.nil=>.nil
 | y :: ys,_,.cons r t=>by
  obtain ⟨tk,rfl⟩:=(show ∃ tk,_=Value.str y tk from r)
  exact .cons _ _ (He t)
theorem mt_join:MtR X "str.join" (fun x xs H Q=>∃ (z:Str) (l:Addr) (ys:List Str),x=.str z/\xs=[.ref l]/\SqL X.K H l (ys.map V.str)/\(ys.map (·.length)).sum+ys.length * z.length<=16777216/\Q (.str (Txt.join z ys)) H):=by
 intro pins s σ H x xs v us Q I rx rv h
 obtain ⟨z,l,ys,rfl,rfl,hq,hok,q⟩:=h
 obtain ⟨t,rfl⟩:=rx
 obtain ⟨u,rfl,ru⟩:=vals1 rv
 cases ru
 obtain ⟨its,r,pl,hz⟩:=I.list hq
 exact join_list pl.isList (He r) hok fun t' k=>⟨.str _,H,I.tok _,⟨_,rfl⟩,q⟩
end
def Itrs (lo st:Int) (n:Nat):It:=⟨fun i _=>i < n,fun i H x H'=>H'=H/\x=.int (lo+i * st),fun i _=>n<=i⟩
theorem turn_ranges {P:Program} {w:World} {K:PySem.W.Frag} {tg:Expr} (it:Addr) (lo st:Int) (n:Nat):Turn P w K tg (Itrs lo st n) [it] it (fun i h=>IsRangeIter h it (lo+(i:Nat) * st) ((n:Int) - (i:Nat)) st) where
 mem:=by simp
 obj:=fun i h st b hb=>by
  have e:b=it:=by simpa using hb
  subst e
  exact ⟨_,st,fun v z=>by
   have z':Data.fields _=Data.cell v:=z
   cases z'⟩
 keep:=fun i h h' st k=>k it (by simp) _ st
 item:=by
  intro X hP hw hK hc i pins s σ H E I hf stt hg
  subst hP hw hK
  obtain ⟨f0,f1,f2,f3,f4,f5⟩:=hf it (by simp)
  have W:=Walks.range (prog:=X.prog) (w:=X.w) (I.ok.hd hc) it lo st n
  refine W.item i s _ _ hg stt fun v h' tk hv st' kk=>?_
  obtain ⟨t,rfl⟩:=hv
  have I1:Inv X pins σ H { s with heap:=h',toks:=tk }:=I.turned (fun b o hb e=>kk b o (by simpa using hb) e) f0 f1 f3 f4 f5
  exact ⟨_,rfl,go_of (s:={ s with heap:=h',toks:=tk }) (n:="range_iterator") st' rfl rfl (by decide) ⟨.int (lo+i * st),H,I1,⟨t,rfl⟩,⟨rfl,rfl⟩,st',fun b hb=>(hf b hb).1⟩⟩
 done:=by
  intro X hP hw hK hc i pins s σ H E I hf st hg
  subst hP hw hK
  obtain ⟨f0,f1,f2,f3,f4,f5⟩:=hf it (by simp)
  exact wpAny_pyNext_range_end (I.ok.hd hc) st (by have:n<=i:=hg;omega) fun h' eb=>⟨rfl,I.turned (t':=s.toks) (fun b o hb e=>eb b o hb e) f0 f1 f3 f4 f5⟩
 self:=fun _ _ _ _ _ st h=>wpAny_pyIter_rangeiter st h
def iRng3 (ta:TA):TI:=fun σ H R=>ta σ H fun vs H1=>∃ i j c:Int,vs=[.int i,.int j,.int c]/\0 < c/\c < 1073741824/\Builtin.Range.small i j c=true/\0<=Builtin.Range.rangeSize i j c/\R (Itrs i c (Builtin.Range.rangeSize i j c).toNat) H1
section
variable {X:Cx} {tg:Expr}
theorem pi_range3 {a b c:Expr} {ta:TA} {p pos:Pos} (hg:Gl X "range") (hm:X.mg "range"=none) (ha:PA X [a,b,c] ta) (hs:starEach [a,b,c] X.env=[(false,eval a X.env),(false,eval b X.env),(false,eval c X.env)]:=by rfl)
  (hs2:starEach [b,c] X.env=[(false,eval b X.env),(false,eval c X.env)]:=by rfl):PI X tg (.Call (.Name "range" p) [a,b,c] [] pos) (iRng3 ta):=by
 intro pins s σ H R I h
 refine Call_ (FF I hg hm boot_range (PyProof.Rows.callWith_type1 (thn (ha pos pins s σ H _ I h) fun us s1 ⟨vs,H1,I1,r1,q1⟩=>?_) (by rw [hs,hs2]) (by rw [hs2];rfl)))
 obtain ⟨i,j,k,e,h0,hk,hsm,hn,q⟩:=q1
 subst e
 cases r1 with
 | cons r rr =>
  cases rr with
  | cons r' rr =>
   cases rr with
   | cons r'' rr =>
    cases rr
    obtain ⟨t,rfl⟩:=r
    obtain ⟨t',rfl⟩:=r'
    obtain ⟨t'',rfl⟩:=r''
    refine call_range_3 (by omega) ?_ (.inl (PyProof.noPylong_small (by omega)))
    refine wpAny_pyIter_range (IsRange.new ..) hsm ?_
    have I2:Inv X pins σ H1 { s1 with heap:=s1.heap.push { cls:=.type "range",data:=.fields #[.int i t,.int j t',.int k t''] },toks:=s1.toks }:=I1.kept fun b o e=>Heap.get?_push_of_some _ e
    refine ⟨(s1.heap.push { cls:=.type "range",data:=.fields #[.int i t,.int j t',.int k t''] }).objs.size,[(s1.heap.push { cls:=.type "range",data:=.fields #[.int i t,.int j t',.int k t''] }).objs.size],_,_,H1,rfl,
     I2.kept (t':=s1.toks) fun b o e=>Heap.get?_push_of_some _ e,turn_ranges _ i k (Builtin.Range.rangeSize i j k).toNat,?_,fun b hb=>?_,q⟩
    ·have e1:i+((0:Nat):Int) * k=i:=by simp
     have e2:(((Builtin.Range.rangeSize i j k).toNat:Nat):Int) - ((0:Nat):Int)=Builtin.Range.rangeSize i j k:=by omega
     show IsRangeIter _ _ (i+((0:Nat):Int) * k) ((((Builtin.Range.rangeSize i j k).toNat:Nat):Int) - ((0:Nat):Int)) k
     rw [e1,e2]
     exact Heap.get?_push_size _ rfl
    ·have e:b=(s1.heap.push { cls:=.type "range",data:=.fields #[.int i t,.int j t',.int k t''] }).objs.size:=by simpa using hb
     subst e
     exact I2.fpOk (Nat.le_refl _) (I2.hok.fresh (Nat.le_refl _))
def Its (z:Str):It:=⟨fun i _=>i < z.cps.size,fun i H x H'=>H'=H/\∃ c,z.cps[i]?=some c/\x=.str ⟨#[c]⟩,fun i _=>z.cps.size<=i⟩
theorem go_str {M:Model} {A:Around} {E:Value->Shared->Prop} {s:Shared} {tg:Expr} {it:Value} {x:Str} {t:Tok} {Q:Unit->Shared->Prop} (hQ:Q () s):wpAny M A (letOwnedTupleGo tg it (.str x t)) Q E s:=by
 unfold letOwnedTupleGo
 cases tg <;> first
  | exact wpAny_pure hQ
  | (cases it <;> exact wpAny_pure hQ)
theorem turn_str {P:Program} {w:World} {K:PySem.W.Frag} {tg:Expr} (it:Addr) (ty:String) (z:Str) (t:Tok) (hty:ty="str_ascii_iterator"∨ty="str_iterator"):Turn P w K tg (Its z) [it] it (fun i h=>h.IsStrIter it ty z t i) where
 mem:=by simp
 obj:=fun i h st b hb=>by
  have e:b=it:=by simpa using hb
  subst e
  obtain ⟨o,e,c,d⟩:=st
  exact ⟨o,e,fun v z=>by rw [d] at z;cases z⟩
 keep:=fun i h h' st k=>by
  obtain ⟨o,e,c,d⟩:=st
  exact ⟨o,k it (by simp) o e,c,d⟩
 item:=by
  intro X hP hw hK hc i pins s σ H E I hf st hg
  subst hP hw hK
  obtain ⟨f0,f1,f2,f3,f4,f5⟩:=hf it (by simp)
  have fin:∀ (v:Value) (h':Heap) (tk:Nat),SignAt z i v->h'.IsStrIter it ty z t (i+1)->(∀ b o,b∉[it]->s.heap.get? b=some o->h'.get? b=some o) ->
    ∃ u,some v=some u/\wpAny (model X.prog X.w) X.A (letOwnedTupleGo tg (.ref it) u) (fun _ s2=>∃ x H',Inv X pins σ H' s2/\RelV x u/\(Its z).yld i H x H'/\s2.heap.IsStrIter it ty z t (i+1)/\∀ b∈[it],H' b=none) E { s with heap:=h',toks:=tk }:=fun v h' tk hv st' kk=>by
   obtain ⟨c,u,hcs,rfl⟩:=hv
   have I1:Inv X pins σ H { s with heap:=h',toks:=tk }:=I.turned (fun b o hb e=>kk b o (by simpa using hb) e) f0 f1 f3 f4 f5
   exact ⟨_,rfl,go_str ⟨.str ⟨#[c]⟩,H,I1,⟨u,rfl⟩,⟨rfl,c,hcs,rfl⟩,st',fun b hb=>(hf b hb).1⟩⟩
  rcases hty with rfl | rfl
  ·exact (Walks.strAscii (prog:=X.prog) (w:=X.w) (I.ok.hd hc) it z t).item i s _ _ hg st fin
  ·exact (Walks.strWide (prog:=X.prog) (w:=X.w) (I.ok.hd hc) it z t).item i s _ _ hg st fin
 done:=by
  intro X hP hw hK hc i pins s σ H E I hf st hg
  subst hP hw hK
  obtain ⟨f0,f1,f2,f3,f4,f5⟩:=hf it (by simp)
  have hz:z.cps[i]?=none:=Array.getElem?_eq_none hg
  rcases hty with rfl | rfl
  ·exact wpAny_pyNext_ascii_end (I.ok.hd hc) st hz fun h' he'=>⟨rfl,I.turned (t':=s.toks) (fun b o hb e=>he' b o hb e) f0 f1 f3 f4 f5⟩
  ·exact wpAny_pyNext_wide_end (I.ok.hd hc) st hz fun h' he'=>⟨rfl,I.turned (t':=s.toks) (fun b o hb e=>he' b o hb e) f0 f1 f3 f4 f5⟩
 self:=fun _ _ _ _ _ st h=>by
  rcases hty with rfl | rfl
  ·exact wpAny_pyIter_striter_ascii st h
  ·exact wpAny_pyIter_striter_wide st h
end
section
variable {K:PySem.W.Frag} {a:Addr} {xs:List V} {g:TG} {te:TE} {Q:VK} {τ0:St} {H1:Hp}
end
section
variable {X:Cx} (K:PySem.W.Frag)
end
theorem Hq {X:Cx}:MtM X "list.pop" (fun x vs H Q=>∃ l e z,x=.ref l/\vs=[]/\H l=some (.lst (e++[z]))/\Q z (upd H l (.lst e))):=by
 intro pins s σ H x vs v us Q I rx rv h
 obtain ⟨l,e,z,rfl,rfl,hH,q⟩:=h
 refine mt_pop pins s σ H _ _ v us Q I rx rv ⟨l,e++[z],z,rfl,rfl,hH,by simp,?_⟩
 rw [List.dropLast_concat]
 exact q
structure FnAt (P:Program) (w:World) (K:PySem.W.Frag) (mg:Str->Option Value) (base:Heap) (CX:CXT) (x:Str) (k:Nat) (ps:List Str) (sp:Sp):Prop where
 ex:∃ f fd,Ds P w K mg base CX k f fd ps sp/\mg x=some (.ref f)/\PySem.W.keepIn K (.ref f)=true/\Binds K fd ps []
section
variable {X:Cx} {CX:CXT} {k:Nat} {ps:List Str} {sp:Sp} {E:XK} {x:Str} {p pos:Pos} {e:Expr} {es:List Expr} {t:TA}
theorem pe_fn (G:FnAt X.prog X.w X.K X.mg X.base CX x k ps sp) (hr:EY k X.A) (hx:Passes CX X E) (ha:PA X (e :: es) t) (hg:Gl X x:=by rfl) (hdb:(x == ("__debug__":Str))=false:=by decide)
  (he:starEach (e :: es) X.env=(false,eval e X.env) :: starEach es X.env:=by rfl) (hpl:(backTo pos (starEach es X.env)).any (·.1)=false:=by rfl):PE X (.Call (.Name x p) (e :: es) [] pos) (tCall sp [] E t):=by
 obtain ⟨f,fd,F,hm,hk,hb⟩:=G.ex
 exact pe_call F hr hg hm hk hb .nil hx ha hdb he hpl
end
end L2
namespace L2
open PySem PySem.Spec PyProof.Rows
section
variable {X:Cx} {x:Str} {pos:Pos}
theorem pe_gI {i:Int} (h:∃ t,X.mg x=some (.int i t)) (hg:Gl X x:=by rfl) (hd:(x == ("__debug__":Str))=false:=by decide):PE X (.Name x pos) (tC (.int i)):=by
 obtain ⟨t,h⟩:=h
 exact pe_glob hg h ⟨t,rfl⟩ hd
theorem pe_gS {z:Str} (h:∃ t,X.mg x=some (.str z t)) (hg:Gl X x:=by rfl) (hd:(x == ("__debug__":Str))=false:=by decide):PE X (.Name x pos) (tC (.str z)):=by
 obtain ⟨t,h⟩:=h
 exact pe_glob hg h ⟨t,rfl⟩ hd
theorem keyIs_rel {k:Key} {v:Value} (h:keyIs k v=true):RelV (kV k) v:=by
 rcases BF h with ⟨i,t,rfl,rfl⟩ | ⟨x,t,rfl,rfl⟩
 ·exact ⟨t,rfl⟩
 ·exact ⟨t,rfl⟩
theorem vals_keys {kvs:List (Key×V)} {vs:List (Key×Value)} {acc:Array Value} (r:KV kvs vs) (h:ItemsOf (fun i v=>∃ k x,vs[i]?=some (k,x)/\keyIs k v=true) acc vs.length):Vals (kvs.map fun kv=>kV kv.1) acc.toList:=by
 obtain ⟨h1,h2⟩:=h
 have key:∀ (kvs:List (Key×V)) (vs:List (Key×Value)) (l:List Value),KV kvs vs->l.length=vs.length->(∀ (j:Nat) (v:Value),l[j]?=some v->∃ k x,vs[j]?=some (k,x)/\keyIs k v=true)->Vals (kvs.map fun kv=>kV kv.1) l:=by
  intro kvs
  induction kvs with
  | nil =>
   intro vs l r hl _
   cases r
   have:l=[]:=List.eq_nil_of_length_eq_zero (by simpa using hl)
   subst this
   exact .nil
  | cons p kvs ih =>
   intro vs l r hl hh
   cases r with
   | @cons _ q _ vr e t =>
    cases l with
    | nil=>simp at hl
    | cons v l =>
     obtain ⟨k,x,e1,e2⟩:=hh 0 v rfl
     have e1':q=(k,x):=Option.some.inj e1
     refine .cons ?_ (ih vr l t (by simpa using hl) fun j w hw=>?_)
     ·have:p.1=k:=by rw [e.1,e1']
      show RelV (kV p.1) v
      rw [this]
      exact keyIs_rel e2
     ·exact hh (j+1) w hw
 exact key kvs vs acc.toList r (by rw [Array.length_toList];exact h1) fun j v e=>h2 j v (by rw [<- Array.getElem?_toList];exact e)
end
structure MtAt (P:Program) (w:World) (K:PySem.W.Frag) (mg:Str->Option Value) (base:Heap) (CX:CXT) (C:Addr) (m:Str) (k:Nat) (ps:List Str) (sp:Sp):Prop where
 cl:Cls K C
 ex:∃ f fd,Ds P w K mg base CX k f fd ps sp/\Meth K C m f/\Binds K fd ps []
structure MkAt (P:Program) (w:World) (K:PySem.W.Frag) (mg:Str->Option Value) (base:Heap) (CX:CXT) (x:Str) (C:Addr) (k:Nat) (ps:List Str) (sp:Sp):Prop where
 at_:mg x=some (.ref C)
 ex:∃ f fd,Ds P w K mg base CX k f fd ps sp/\Mk K C f/\Binds K fd ps []
section
variable {X:Cx} {CX:CXT} {k:Nat} {C:Addr} {ps:List Str} {sp:Sp} {E:XK} {x m:Str} {p pos apos:Pos} {e o:Expr} {es:List Expr} {ta:TE} {t:TA}
theorem pe_mt {pl:Sem Bool} (G:MtAt X.prog X.w X.K X.mg X.base CX C m k ps sp) (hr:EY k X.A) (hx:Passes CX X E) (he:PE X o ta) (ha:PA X (e :: es) t)
  (hst:starEach (e :: es) X.env=(false,eval e X.env) :: starEach es X.env:=by rfl) (hpl:(backTo pos (starEach es X.env)).any (·.1)=false:=by rfl)
  (ht:eval (.Call (.Attribute o m apos) (e :: es) [] pos) X.env=(do
   let ov <- eval o X.env
   standAt apos.atName
   let (f,first) <- holding [ov] (getMethod ov m pl)
   callWith pos f first (backTo pos (starEach (e :: es) X.env)) (backToKw pos (keywordEach [] X.env))):=by rfl) :
  PE X (.Call (.Attribute o m apos) (e :: es) [] pos) (tMeth C m sp [] E ta t):=by
 obtain ⟨f,fd,F,hm,hb⟩:=G.ex
 exact pe_meth he G.cl hm F hr hb .nil hx ha hst hpl ht
theorem pe_mt0 {pl:Sem Bool} (G:MtAt X.prog X.w X.K X.mg X.base CX C m k ps sp) (hr:EY k X.A) (hx:Passes CX X E) (he:PE X o ta)
  (ht:eval (.Call (.Attribute o m apos) [] [] pos) X.env=(do
   let ov <- eval o X.env
   standAt apos.atName
   let (f,first) <- holding [ov] (getMethod ov m pl)
   callWith pos f first (backTo pos (starEach [] X.env)) (backToKw pos (keywordEach [] X.env))):=by rfl) :
  PE X (.Call (.Attribute o m apos) [] [] pos) (tMeth C m sp [] E ta tNil):=by
 obtain ⟨f,fd,F,hm,hb⟩:=G.ex
 exact pe_meth0 he G.cl hm F hr hb .nil hx ht
theorem pe_mk (G:MkAt X.prog X.w X.K X.mg X.base CX x C k ps sp) (hr:EY (k+1) X.A) (hx:Passes CX X E) (ha:PA X (e :: es) t) (hg:Gl X x:=by rfl) (hdb:(x == ("__debug__":Str))=false:=by decide)
  (he:starEach (e :: es) X.env=(false,eval e X.env) :: starEach es X.env:=by rfl) (hpl:(backTo pos (starEach es X.env)).any (·.1)=false:=by rfl):PE X (.Call (.Name x p) (e :: es) [] pos) (tMake C sp [] E t):=by
 obtain ⟨f,fd,F,M,hb⟩:=G.ex
 exact pe_make M F hr hg G.at_ hb .nil hx ha hdb he hpl
end
end L2
namespace L2
open PySem PySem.Spec PyProof.Rows
def orR (r r':R2):R2:=fun x y H Q=>r x y H Q∨r' x y H Q
section
variable {X:Cx}
theorem OpR.orR {f:Value->Value->Sem Value} {r r':R2} (h:OpR X f r) (h':OpR X f r'):OpR X f (orR r r'):=fun pins s σ H x y v u Q I rx ry q=>q.elim (h pins s σ H x y v u Q I rx ry) (h' pins s σ H x y v u Q I rx ry)
theorem IxR.orR {r r':R2} (h:IxR X r) (h':IxR X r'):IxR X (L2.orR r r'):=fun value slice pins s σ H x y v u Q I rx ry q e=>q.elim (fun q=>h value slice pins s σ H x y v u Q I rx ry q e) (fun q=>h' value slice pins s σ H x y v u Q I rx ry q e)
def rDGet:R2:=fun x y H Q=>∃ a v,x=.ref a/\DGet H a y (some v)/\Q v H
def rDIn (neg:Bool):R2:=fun y x H Q=>∃ a o,x=.ref a/\DGet H a y o/\Q (.bl (if neg then !o.isSome else o.isSome)) H
theorem op_din (hu:X.A.units+1 < cLine):OpR X (compareOp .In) (rDIn false):=by
 intro pins s σ H y x v u Q I ry rx h
 obtain ⟨a,o,rfl,g,q⟩:=h
 obtain rfl:u=Value.ref a:=rx
 exact d_in hu I g ry fun s3 I3=>⟨.bl o.isSome,H,I3,rfl,q⟩
theorem op_dnotin (hu:X.A.units+1 < cLine):OpR X (compareOp .NotIn) (rDIn true):=by
 intro pins s σ H y x v u Q I ry rx h
 obtain ⟨a,o,rfl,g,q⟩:=h
 obtain rfl:u=Value.ref a:=rx
 exact d_notIn hu I g ry fun s3 I3=>⟨.bl (!o.isSome),H,I3,rfl,q⟩
theorem ix_dict (hu:X.A.units+1 < cLine):IxR X rDGet:=by
 intro value slice pins s σ H x y v u Q I rx ry h hs
 obtain ⟨a,w,rfl,g,q⟩:=h
 obtain rfl:v=Value.ref a:=rx
 have hT:=dict_typeIs I g
 have h₂:wpAny (model X.prog X.w) X.A (getItem (.ref a) u) (EP X pins σ Q) X.xe s:=d_getItem hu I g ry fun w' s3 I3 rw'=>⟨w,H,I3,rw',q⟩
 unfold subscriptTail
 refine wpAny_bind ?_
 rw [getitemInPython_of_ne hT.not_modules]
 refine wpAny_bind (wpAny_specialOf hT PySem.F.slot_dict_getitem.lookup ?_)
 have fin:wpAny (model X.prog X.w) X.A (subscripted slice false (.ref a) u) (fun r s₃=>wpAny (model X.prog X.w) X.A (letTemporaryGo value (.ref a) r >>= fun _=>pure r) (EP X pins σ Q) X.xe s₃) X.xe s:=by
  rw [hs]
  exact wpAny_operating (wpAny_mono h₂ (fun r s₃ h₃=>wpAny_bind (wpAny_letTemporaryGo (wpAny_pure h₃))) fun _ _ x=>x)
 first
  | exact wpAny_pure (wpAny_bind fin)
  | exact wpAny_bind (wpAny_pure (wpAny_bind fin))
  | exact wpAny_bind fin
def orSet (r r':TSet):TSet:=fun o i v H Q=>r o i v H Q∨r' o i v H Q
theorem PSet.orR {r r':TSet} (h:PSet X r) (h':PSet X r'):PSet X (orSet r r'):=fun pins s σ H o i v ov iv u Q I r1 r2 r3 q=>q.elim (h pins s σ H o i v ov iv u Q I r1 r2 r3) (h' pins s σ H o i v ov iv u Q I r1 r2 r3)
def rDPut:TSet:=fun o i v H Q=>∃ a H4,o=.ref a/\DPut H a i v H4/\Q H4
theorem set_dict (hu:X.A.units+1 < cLine):PSet X rDPut:=by
 intro pins s σ H o i v ov iv u Q I ro ri rv h
 obtain ⟨a,H4,rfl,g,q⟩:=h
 obtain rfl:ov=Value.ref a:=ro
 exact d_setItem hu I g ri rv fun s4 I4=>⟨H4,I4,q⟩
def orCall (r r':List V->Hp->VK->Prop):List V->Hp->VK->Prop:=fun vs H Q=>r vs H Q∨r' vs H Q
theorem DO.orR {f:Value} {r r':List V->Hp->VK->Prop} (h:DO X f r) (h':DO X f r'):DO X f (orCall r r'):=fun pins s σ H xs us Q I rx q=>q.elim (h pins s σ H xs us Q I rx) (h' pins s σ H xs us Q I rx)
def orMt (r r':V->List V->Hp->VK->Prop):V->List V->Hp->VK->Prop:=fun x vs H Q=>r x vs H Q∨r' x vs H Q
theorem MtR.orR {id:String} {r r':V->List V->Hp->VK->Prop} (h:MtR X id r) (h':MtR X id r'):MtR X id (orMt r r'):=fun pins s σ H x xs v us Q I rx rs q=>q.elim (h pins s σ H x xs v us Q I rx rs) (h' pins s σ H x xs v us Q I rx rs)
def iSeq (K:PySem.W.Frag) (tl:TE):TI:=fun σ H R=>tl σ H fun x H1=>(∃ a,x=.ref a/\(∃ xs,SqL K H1 a xs)/\R (Itl K a) H1)∨(∃ a,x=.ref a/\(∃ xs,SqT K H1 a xs)/\R (Itt K a) H1)∨(∃ z,x=.str z/\R (Its z) H1)
variable {tg:Expr}
theorem pi_seq {l:Expr} {tl:TE} (hl:PE X l tl):PI X tg l (iSeq X.K tl):=by
 intro pins s σ H R I h
 have key:∀ (x:V) (H1:Hp) (v:Value) (s1:Shared),Inv X pins σ H1 s1->RelV x v->((∃ a,x=.ref a/\(∃ xs,SqL X.K H1 a xs)/\R (Itl X.K a) H1)∨(∃ a,x=.ref a/\(∃ xs,SqT X.K H1 a xs)/\R (Itt X.K a) H1)∨(∃ z,x=.str z/\R (Its z) H1)) ->
   wpAny (model X.prog X.w) X.A (pyIter v) (PIE X pins σ tg R) X.xe s1:=by
  intro x H1 v s1 I1 r1 q1
  rcases q1 with ⟨a,e,⟨xs,hq⟩,q⟩ | ⟨a,e,⟨xs,hq⟩,q⟩ | ⟨z,e,q⟩
  ·subst e
   cases r1
   obtain ⟨its,rv,p,hz⟩:=I1.list hq
   refine wpAny_pyIter_list p.isList ?_
   refine ⟨s1.heap.objs.size,[s1.heap.objs.size],_,_,H1,rfl,I1.kept (t':=s1.toks) fun b o e=>Heap.get?_push_of_some _ e,turn_list a _,⟨_,Heap.get?_push_size _ rfl,rfl,rfl⟩,fun b hb=>?_,q⟩
   have e:b=s1.heap.objs.size:=by simpa using hb
   subst e
   exact I1.fpOk (Nat.le_refl _) (I1.hok.fresh (Nat.le_refl _))
  ·subst e
   cases r1
   obtain ⟨its,rv,p,hz⟩:=I1.tuple hq
   refine wpAny_pyIter_tuple (show s1.heap.IsTuple a its.toArray from p) ?_
   refine ⟨s1.heap.objs.size,[s1.heap.objs.size],_,_,H1,rfl,I1.kept (t':=s1.toks) fun b o e=>Heap.get?_push_of_some _ e,turn_tuple a _,⟨_,Heap.get?_push_size _ rfl,rfl,rfl⟩,fun b hb=>?_,q⟩
   have e:b=s1.heap.objs.size:=by simpa using hb
   subst e
   exact I1.fpOk (Nat.le_refl _) (I1.hok.fresh (Nat.le_refl _))
  ·subst e
   obtain ⟨t,rfl⟩:=r1
   have go:∀ (ty:String),(ty="str_ascii_iterator"∨ty="str_iterator")->PIE X pins σ tg R (.ref s1.heap.objs.size) { s1 with heap:=s1.heap.push { cls:=.type ty,data:=.fields #[.str z t,.int 0 0] } }:=fun ty hty=>by
    refine ⟨s1.heap.objs.size,[s1.heap.objs.size],_,_,H1,rfl,I1.kept (t':=s1.toks) fun b o e=>Heap.get?_push_of_some _ e,turn_str _ ty z t hty,⟨_,Heap.get?_push_size _ rfl,rfl,rfl⟩,fun b hb=>?_,q⟩
    have e:b=s1.heap.objs.size:=by simpa using hb
    subst e
    exact I1.fpOk (Nat.le_refl _) (I1.hok.fresh (Nat.le_refl _))
   cases ha:z.cps.all (· < 128)
   ·exact wpAny_pyIter_wide ha (go _ (.inr rfl))
   ·exact wpAny_pyIter_ascii ha (go _ (.inl rfl))
 exact thn (hl pins s σ H _ I h) fun v s1 ⟨x,H1,I1,r1,q1⟩=>key x H1 v s1 I1 r1 q1
end
end L2
namespace PySem
namespace Zp
section
variable {prog:Program} {w:World} {A:Around} {E:Value->Shared->Prop} {s:Shared}
theorem tup_item {it t:Addr} {i:Nat} {items:Array Value} {x:Value} {Q:Value->Shared->Prop} (hit:s.heap.IsTupleIter it t i) (ht:s.heap.IsTuple t items) (hx:items[i]?=some x)
  (hQ:∀ h',h'.IsTupleIter it t (i+1)->Heap.SameBut it s.heap h'->Q x { s with heap:=h' }):wpAny (model prog w) A (Builtin.SmallTypes.nextOf (.ref it)) Q E s:=by
 obtain ⟨o,ho,hc,hd⟩:=id hit;obtain ⟨ol,hol,_,nl,hdl⟩:=ht
 unfold Builtin.SmallTypes.nextOf
 refine wpAny_bind (wpAny_callSpecial?_slot (name:=Str.ofString "__next__") hit.typeIs F.slot_tuple_iterator_next (wpAny_call_entry F.slot_tuple_iterator_next hit.typeIs F.entry_tuple_iterator_next ?_ (F.args_tuple_iterator_next_1 _)))
 show wpAny _ _ (field (.ref it) 0 >>= _) _ _ s;refine wpAny_bind (wpAny_field ho hd (x:=.ref t) rfl ?_)
 show wpAny _ _ (if (Value.ref t == Value.none)=true then _ else _) _ _ s;rw [if_neg (show ¬ ((Value.ref t == Value.none)=true) from Bool.false_ne_true)]
 show wpAny _ _ (field (.ref it) 1 >>= _) _ _ s;refine wpAny_bind (wpAny_field ho hd (x:=.int i 0) rfl ?_)
 show wpAny _ _ (seqItems? (.ref t) >>= _) _ _ s;refine wpAny_bind (wpAny_seqItems hol hdl ?_);simp only [Int.toNat_natCast,hx]
 refine wpAny_bind (wpAny_setField ho hd (by simp) (wpAny_pure ⟨x,rfl,wpAny_pure (hQ _ ?_ (Heap.SameBut.update ..))⟩));exact ⟨_,Heap.get?_update_self _ ho (Obj.isFreed_of_fields (Obj.data_mapFields hd _)),(Obj.cls_mapFields ..).trans hc,by rw [Obj.data_mapFields hd];simp [rawInt]⟩
theorem tup_end {it t:Addr} {i:Nat} {items:Array Value} {Q:Value->Shared->Prop} (hh:A.handled=none) (hit:s.heap.IsTupleIter it t i) (ht:s.heap.IsTuple t items) (hx:items[i]?=none)
  (hE:∀ h' e,Heap.ExtBut it s.heap h'->(∃ o,h'.get? e=some o/\o.cls=.type "StopIteration")->E (.ref e) { s with heap:=h' }):wpAny (model prog w) A (Builtin.SmallTypes.nextOf (.ref it)) Q E s:=by
 obtain ⟨o,ho,hc,hd⟩:=id hit;obtain ⟨ol,hol,_,nl,hdl⟩:=ht
 unfold Builtin.SmallTypes.nextOf
 refine wpAny_bind (wpAny_callSpecial?_slot (name:=Str.ofString "__next__") hit.typeIs F.slot_tuple_iterator_next (wpAny_call_entry F.slot_tuple_iterator_next hit.typeIs F.entry_tuple_iterator_next ?_ (F.args_tuple_iterator_next_1 _)))
 show wpAny _ _ (field (.ref it) 0 >>= _) _ _ s;refine wpAny_bind (wpAny_field ho hd (x:=.ref t) rfl ?_)
 show wpAny _ _ (if (Value.ref t == Value.none)=true then _ else _) _ _ s;rw [if_neg (show ¬ ((Value.ref t == Value.none)=true) from Bool.false_ne_true)]
 show wpAny _ _ (field (.ref it) 1 >>= _) _ _ s;refine wpAny_bind (wpAny_field ho hd (x:=.int i 0) rfl ?_)
 show wpAny _ _ (seqItems? (.ref t) >>= _) _ _ s;refine wpAny_bind (wpAny_seqItems hol hdl ?_);simp only [Int.toNat_natCast,hx]
 refine wpAny_bind (wpAny_rule (wpAny_bind (wpAny_setField ho hd (by simp) ?_)));show wpAny _ _ (newExc (.type "StopIteration") [] >>= _) _ _ _
 refine wpAny_bind ?_;simp only [newExc,newTuple];refine wpAny_bind (wpAny_newObj_type ?_ (by size_fits))
 refine wpAny_bind (m:=firstArgMember _ _) (wpAny_of_eq (a:=Value.none) (by first | rfl | (simp only [firstArgMember];rfl)) ?_);refine wpAny_newObj_type ?_ (by size_fits)
 simp only [raiseNew];refine wpAny_bind (wpAny_handled ?_);first | rw [show A.in1.handled=none from hh] | rw [hh]
 refine wpAny_bind (wpAny_pure (wpAny_throw ?_));exact hE _ _ (((Heap.SameBut.update ..).extBut.push _).push _) ⟨_,Heap.get?_push_size _ rfl,rfl⟩
end
structure Draws (prog:Program) (w:World) (it src:Addr) (xs:Array Value) (S:Nat->Heap->Prop):Prop where
 ne:src≠it
 obj:∀ k h,S k h->∃ o,h.get? it=some o/\∀ v,o.data≠.cell v
 sob:∀ k h,S k h->∃ o,h.get? src=some o/\(o.cls=.type "list"∨o.cls=.type "tuple")
 keep:∀ k (h h':Heap),S k h->(∀ o,h.get? it=some o->h'.get? it=some o)->(∀ o,h.get? src=some o->h'.get? src=some o)->S k h'
 item:∀ (A:Around) (s:Shared) (k:Nat) (x:Value) (Q:Value->Shared->Prop) (E:Value->Shared->Prop),S k s.heap->xs[k]?=some x->(∀ h',S (k+1) h'->Heap.SameBut it s.heap h'->Q x { s with heap:=h' }) ->
  wpAny (model prog w) A (Builtin.SmallTypes.nextOf (.ref it)) Q E s
 stop:∀ (A:Around) (s:Shared) (k:Nat) (Q:Value->Shared->Prop) (E:Value->Shared->Prop),A.handled=none->S k s.heap->xs[k]?=none ->
  (∀ h' e,Heap.ExtBut it s.heap h'->(∃ o,h'.get? e=some o/\o.cls=.type "StopIteration")->E (.ref e) { s with heap:=h' })->wpAny (model prog w) A (Builtin.SmallTypes.nextOf (.ref it)) Q E s
theorem Draws.tup {prog:Program} {w:World} {it t:Addr} {xs:Array Value} (hne:t≠it):Draws prog w it t xs (fun k h=>h.IsTupleIter it t k/\h.IsTuple t xs) where
 ne:=hne
 obj:=fun k h st=>by
  obtain ⟨⟨o,e,c,d⟩,_⟩:=st
  exact ⟨o,e,fun v z=>by rw [d] at z;cases z⟩
 sob:=fun k h st=>by
  obtain ⟨_,o,e,c,_⟩:=st
  exact ⟨o,e,.inr c⟩
 keep:=fun k h h' st k1 k2=>⟨st.1.at k1,st.2.at k2⟩
 item:=fun A s k x Q E st hx hQ=>tup_item st.1 st.2 hx fun h' a b=>hQ h' ⟨a,st.2.at fun o e=>(b.2 t hne).trans e⟩ b
 stop:=fun A s k Q E hh st hx hE=>tup_end hh st.1 st.2 hx hE
theorem Draws.lst {prog:Program} {w:World} {it t:Addr} {xs:Array Value} (hne:t≠it):Draws prog w it t xs (fun k h=>h.IsListIter it t k/\h.IsList t xs) where
 ne:=hne
 obj:=fun k h st=>by
  obtain ⟨⟨o,e,c,d⟩,_⟩:=st
  exact ⟨o,e,fun v z=>by rw [d] at z;cases z⟩
 sob:=fun k h st=>by
  obtain ⟨_,o,e,c,_⟩:=st
  exact ⟨o,e,.inl c⟩
 keep:=fun k h h' st k1 k2=>⟨st.1.at k1,st.2.at k2⟩
 item:=fun A s k x Q E st hx hQ=>wpAny_nextOf_list_item st.1 st.2 hx fun h' a b=>hQ h' ⟨a,st.2.at fun o e=>(b.2 t hne).trans e⟩ b
 stop:=fun A s k Q E hh st hx hE=>wpAny_nextOf_list_end hh st.1 st.2 hx hE
structure Apart (z TI TO i1 i2 l1 l2:Addr):Prop where
 zs:TI≠z/\TO≠z/\i1≠z/\i2≠z/\l1≠z/\l2≠z
 ts:TI≠TO/\TI≠i1/\TI≠i2/\TO≠i1/\TO≠i2/\i1≠i2
 ls:l1≠TO/\l1≠i1/\l1≠i2/\l2≠TO/\l2≠i1/\l2≠i2
section
variable {prog:Program} {w:World} {A:Around} {E:Value->Shared->Prop} {s:Shared} {z TI TO i1 i2 l1 l2:Addr} {xs ys:Array Value} {S1 S2:Nat->Heap->Prop}
theorem next_own (D:Apart z TI TO i1 i2 l1 l2) (W1:Draws prog w i1 l1 xs S1) (W2:Draws prog w i2 l2 ys S2) {k:Nat} {x y a b:Value} {Q:Value->Shared->Prop}
  (hz:IsZip s.heap z TI TO .none) (hTI:IsPair s.heap TI (.ref i1) (.ref i2)) (hTO:IsPair s.heap TO a b) (h1:S1 k s.heap) (h2:S2 k s.heap) (hx:xs[k]?=some x) (hy:ys[k]?=some y)
  (hQ:∀ h',IsZip h' z TI TO (rawInt s.heap.objs.size)->IsPair h' TO x y->S1 (k+1) h'->S2 (k+1) h'->IsPair h' s.heap.objs.size x y->h'.objs.size=s.heap.objs.size+1 ->
   (∀ c o,c≠z->c≠TO->c≠i1->c≠i2->s.heap.get? c=some o->h'.get? c=some o)->Q (.ref s.heap.objs.size) { s with heap:=h' }) :
  wpAny (model prog w) A (Builtin.«zip.__next__» ⟨[.ref z],[]⟩) (fun fin s'=>∃ v,fin=.done (.ret v)/\Q v s') E s:=by
 obtain ⟨⟨TIz,TOz,i1z,i2z,l1z,l2z⟩,⟨TITO,TIi1,TIi2,TOi1,TOi2,i12⟩,⟨l1TO,l1i1,l1i2,l2TO,l2i1,l2i2⟩⟩:=D
 show wpAny _ _ (field (.ref z) 2 >>= _) _ _ _;refine wpAny_bind (wpAny_field hz rfl (x:=.bool false) rfl ?_)
 show wpAny _ _ (field (.ref z) 3 >>= _) _ _ _;refine wpAny_bind (wpAny_field hz rfl (x:=.ref TI) rfl ?_);refine wpAny_bind (wpAny_seqItems hTI rfl ?_)
 show wpAny _ _ (Builtin.SmallTypes.ownedTupleIsFree (.ref z) >>= _) _ _ _;refine wpAny_bind ?_;unfold Builtin.SmallTypes.ownedTupleIsFree
 refine wpAny_bind (wpAny_field hz rfl (x:=.none) rfl (wpAny_pure ?_));simp only [if_true]
 refine wpAny_bind (wpAny_rule ?_);refine wpAny_bind (wpAny_field hz rfl (x:=.ref TO) rfl ?_)
 refine wpAny_bind (wpAny_setField_rec hz (by simp) fun ha hza hsa=>?_);replace hza:IsZip ha z TI TO .ellipsis:=hza
 refine wpAny_bind ?_;simp only [List.zipIdx_cons,List.zipIdx_nil,List.forIn_cons,List.forIn_nil]
 refine wpAny_bind (wpAny_bind (wpAny_onRaise ?_));show wpAny _ _ (Builtin.SmallTypes.nextOf (.ref i1) >>= _) _ _ _
 have h1a:S1 k ha:=W1.keep _ _ _ h1 (fun o e=>hsa.extBut _ _ i1z e) fun o e=>hsa.extBut _ _ l1z e
 refine wpAny_bind (W1.item _ _ k x _ _ h1a hx fun hb h1b hsb=>wpAny_pure ?_)
 have hTOb:IsPair hb TO a b:=hsb.extBut _ _ TOi1 (hsa.extBut _ _ TOz hTO)
 refine wpAny_bind (wpAny_seqItems hTOb rfl ?_);refine wpAny_bind (wpAny_updateSeq_pair hTOb fun hc hTOc hsc=>?_);replace hTOc:IsPair hc TO x b:=hTOc
 refine wpAny_bind (wpAny_letGo (wpAny_pure ?_));refine wpAny_bind (wpAny_bind (wpAny_onRaise ?_));show wpAny _ _ (Builtin.SmallTypes.nextOf (.ref i2) >>= _) _ _ _
 have h2c:S2 k hc:=W2.keep _ _ _ h2 (fun o e=>hsc.extBut _ _ (Ne.symm TOi2) (hsb.extBut _ _ (Ne.symm i12) (hsa.extBut _ _ i2z e))) fun o e=>hsc.extBut _ _ l2TO (hsb.extBut _ _ l2i1 (hsa.extBut _ _ l2z e))
 refine wpAny_bind (W2.item _ _ k y _ _ h2c hy fun hd h2d hsd=>wpAny_pure ?_)
 have hTOd:IsPair hd TO x b:=hsd.extBut _ _ TOi2 hTOc
 refine wpAny_bind (wpAny_seqItems hTOd rfl ?_);refine wpAny_bind (wpAny_updateSeq_pair hTOd fun he hTOe hse=>?_);replace hTOe:IsPair he TO x y:=hTOe
 refine wpAny_bind (wpAny_letGo (wpAny_pure (wpAny_pure ?_)));refine wpAny_bind (wpAny_seqItems hTOe rfl ?_);refine wpAny_bind (wpAny_newTuple ?_)
 have hsz:he.objs.size=s.heap.objs.size:=by rw [hse.1,hsd.1,hsc.1,hsb.1,hsa.1]
 have hze:IsZip he z TI TO .ellipsis:=hse.extBut _ _ (Ne.symm TOz) (hsd.extBut _ _ (Ne.symm i2z) (hsc.extBut _ _ (Ne.symm TOz) (hsb.extBut _ _ (Ne.symm i1z) hza)))
 have hke:∀ c o,c≠z->c≠TO->c≠i1->c≠i2->s.heap.get? c=some o->he.get? c=some o:=fun c o c1 c2 c3 c4 e=>hse.extBut _ _ c2 (hsd.extBut _ _ c4 (hsc.extBut _ _ c2 (hsb.extBut _ _ c3 (hsa.extBut _ _ c1 e))))
 have h1e:S1 (k+1) he:=W1.keep _ _ _ h1b (fun o e=>hse.extBut _ _ (Ne.symm TOi1) (hsd.extBut _ _ i12 (hsc.extBut _ _ (Ne.symm TOi1) e))) fun o e=>hse.extBut _ _ l1TO (hsd.extBut _ _ l1i2 (hsc.extBut _ _ l1TO e))
 have h2e:S2 (k+1) he:=W2.keep _ _ _ h2d (fun o e=>hse.extBut _ _ (Ne.symm TOi2) e) fun o e=>hse.extBut _ _ l2TO e
 have ltz:z < he.objs.size:=Heap.lt_size hze
 show wpAny _ _ (Builtin.SmallTypes.ownedTupleHandOut (.ref z) (.ref he.objs.size) >>= _) _ _ _;refine wpAny_bind ?_;unfold Builtin.SmallTypes.ownedTupleHandOut
 have hzf:IsZip (he.push { cls:=.type "tuple",data:=.seq #[x,y] }) z TI TO .ellipsis:=Heap.get?_push_of_some _ hze
 refine wpAny_bind (wpAny_setField_rec hzf (by simp) fun hg hzg hsg=>?_);replace hzg:IsZip hg z TI TO (rawInt he.objs.size):=hzg
 refine wpAny_setField_rec hzg (by simp) fun hi hzi hsi=>?_;replace hzi:IsZip hi z TI TO (rawInt he.objs.size):=hzi
 have up:∀ c o,c≠z->he.get? c=some o->hi.get? c=some o:=fun c o c1 e=>hsi.extBut _ _ c1 (hsg.extBut _ _ c1 (Heap.get?_push_of_some _ e))
 have hTi:IsPair hi he.objs.size x y:=hsi.extBut _ _ (Nat.ne_of_gt ltz) (hsg.extBut _ _ (Nat.ne_of_gt ltz) (Heap.get?_push_size _ rfl))
 have szi:hi.objs.size=he.objs.size+1:=by rw [hsi.1,hsg.1,Heap.size_push]
 rw [hsz] at hzi hTi szi;refine wpAny_pure ⟨_,rfl,?_⟩;show Q (.ref he.objs.size) _;rw [hsz]
 exact hQ hi hzi (up _ _ TOz hTOe) (W1.keep _ _ _ h1e (fun o e=>up _ o i1z e) fun o e=>up _ o l1z e) (W2.keep _ _ _ h2e (fun o e=>up _ o i2z e) fun o e=>up _ o l2z e) hTi szi fun c o c1 c2 c3 c4 e=>up c o c1 (hke c o c1 c2 c3 c4 e)
theorem next_end (hh:A.handled=none) (D:Apart z TI TO i1 i2 l1 l2) (W1:Draws prog w i1 l1 xs S1) (W2:Draws prog w i2 l2 ys S2) {k:Nat} {a b:Value} {Q:Fin->Shared->Prop}
  (hz:IsZip s.heap z TI TO .none) (hTI:IsPair s.heap TI (.ref i1) (.ref i2)) (hTO:IsPair s.heap TO a b) (h1:S1 k s.heap) (h2:S2 k s.heap) (hend:xs[k]?=none∨ys[k]?=none)
  (hE:∀ h' e,(∀ c o,c≠z->c≠TO->c≠i1->c≠i2->s.heap.get? c=some o->h'.get? c=some o)->(∃ o,h'.get? e=some o/\o.cls=.type "StopIteration")->E (.ref e) { s with heap:=h' }) :
  wpAny (model prog w) A (Builtin.«zip.__next__» ⟨[.ref z],[]⟩) Q E s:=by
 obtain ⟨⟨TIz,TOz,i1z,i2z,l1z,l2z⟩,⟨TITO,TIi1,TIi2,TOi1,TOi2,i12⟩,⟨l1TO,l1i1,l1i2,l2TO,l2i1,l2i2⟩⟩:=D
 show wpAny _ _ (field (.ref z) 2 >>= _) _ _ _;refine wpAny_bind (wpAny_field hz rfl (x:=.bool false) rfl ?_)
 show wpAny _ _ (field (.ref z) 3 >>= _) _ _ _;refine wpAny_bind (wpAny_field hz rfl (x:=.ref TI) rfl ?_);refine wpAny_bind (wpAny_seqItems hTI rfl ?_)
 show wpAny _ _ (Builtin.SmallTypes.ownedTupleIsFree (.ref z) >>= _) _ _ _;refine wpAny_bind ?_;unfold Builtin.SmallTypes.ownedTupleIsFree
 refine wpAny_bind (wpAny_field hz rfl (x:=.none) rfl (wpAny_pure ?_));simp only [if_true]
 refine wpAny_bind (wpAny_rule ?_);refine wpAny_bind (wpAny_field hz rfl (x:=.ref TO) rfl ?_)
 refine wpAny_bind (wpAny_setField_rec hz (by simp) fun ha hza hsa=>?_);replace hza:IsZip ha z TI TO .ellipsis:=hza
 refine wpAny_bind ?_;simp only [List.zipIdx_cons,List.zipIdx_nil,List.forIn_cons,List.forIn_nil]
 refine wpAny_bind (wpAny_bind (wpAny_onRaise ?_));show wpAny _ _ (Builtin.SmallTypes.nextOf (.ref i1) >>= _) _ _ _
 have h1a:S1 k ha:=W1.keep _ _ _ h1 (fun o e=>hsa.extBut _ _ i1z e) fun o e=>hsa.extBut _ _ l1z e
 cases hx:xs[k]? with
 | none =>
  refine wpAny_bind (W1.stop _ _ k _ _ hh h1a hx fun hb e hsb he=>?_)
  obtain ⟨oe,hoe,hce⟩:=he
  have hzb:IsZip hb z TI TO .ellipsis:=hsb _ _ (Ne.symm i1z) hza
  have hez:e≠z:=fun q=>by subst q;rw [hzb] at hoe;cases hoe;simp at hce
  refine wpAny_setField_rec hzb (by simp) fun hc _ hsc=>hE hc e (fun c o c1 _ c3 _ q=>hsc.extBut _ _ c1 (hsb _ _ c3 (hsa.extBut _ _ c1 q))) ⟨oe,hsc.extBut _ _ hez hoe,hce⟩
 | some x =>
  have hy:ys[k]?=none:=by rcases hend with h | h;rw [hx] at h;cases h;exact h
  refine wpAny_bind (W1.item _ _ k x _ _ h1a hx fun hb h1b hsb=>wpAny_pure ?_)
  have hTOb:IsPair hb TO a b:=hsb.extBut _ _ TOi1 (hsa.extBut _ _ TOz hTO)
  refine wpAny_bind (wpAny_seqItems hTOb rfl ?_);refine wpAny_bind (wpAny_updateSeq_pair hTOb fun hc hTOc hsc=>?_)
  refine wpAny_bind (wpAny_letGo (wpAny_pure ?_));refine wpAny_bind (wpAny_bind (wpAny_onRaise ?_));show wpAny _ _ (Builtin.SmallTypes.nextOf (.ref i2) >>= _) _ _ _
  have h2c:S2 k hc:=W2.keep _ _ _ h2 (fun o e=>hsc.extBut _ _ (Ne.symm TOi2) (hsb.extBut _ _ (Ne.symm i12) (hsa.extBut _ _ i2z e))) fun o e=>hsc.extBut _ _ l2TO (hsb.extBut _ _ l2i1 (hsa.extBut _ _ l2z e))
  refine wpAny_bind (W2.stop _ _ k _ _ hh h2c hy fun hd e hsd he=>?_)
  obtain ⟨oe,hoe,hce⟩:=he
  have hzd:IsZip hd z TI TO .ellipsis:=hsd _ _ (Ne.symm i2z) (hsc.extBut _ _ (Ne.symm TOz) (hsb.extBut _ _ (Ne.symm i1z) hza))
  have hez:e≠z:=fun q=>by subst q;rw [hzd] at hoe;cases hoe;simp at hce
  refine wpAny_setField_rec hzd (by simp) fun hf _ hsf=>hE hf e (fun c o c1 c2 c3 c4 q=>hsf.extBut _ _ c1 (hsd _ _ c4 (hsc.extBut _ _ c2 (hsb.extBut _ _ c3 (hsa.extBut _ _ c1 q))))) ⟨oe,hsf.extBut _ _ hez hoe,hce⟩
end
end Zp
end PySem
namespace PySem
namespace Zp
def itObj (T:String) (l:Addr):Obj:={ cls:=.type T,data:=.fields #[.ref l,.int 0 0] }
def z1 (h:Heap) (T1:String) (l1:Addr):Heap:=h.push (itObj T1 l1)
def z2 (h:Heap) (T1 T2:String) (l1 l2:Addr):Heap:=(z1 h T1 l1).push (itObj T2 l2)
def z3 (h:Heap) (T1 T2:String) (l1 l2:Addr):Heap:=(z2 h T1 T2 l1 l2).push { cls:=.type "tuple",data:=.seq #[.ref h.objs.size,.ref (z1 h T1 l1).objs.size] }
def z4 (h:Heap) (T1 T2:String) (l1 l2:Addr):Heap:=(z3 h T1 T2 l1 l2).push { cls:=.type "tuple",data:=.seq #[.none,.none] }
def z5 (h:Heap) (T1 T2:String) (l1 l2:Addr):Heap:=(z4 h T1 T2 l1 l2).push { cls:=.type "zip",data:=.fields #[.none,.bool false,.bool false,.ref (z2 h T1 T2 l1 l2).objs.size,.ref (z3 h T1 T2 l1 l2).objs.size] }
abbrev Its (T:String) (l:Addr) (C:Heap->Prop):Prop:=∀ {prog:Program} {w:World} {A:Around} {E:Value->Shared->Prop} {s:Shared} {Q:Value->Shared->Prop},C s.heap->Q (.ref s.heap.objs.size) { s with heap:=s.heap.push (itObj T l) }->wpAny (model prog w) A (pyIter (.ref l)) Q E s
theorem meets_new (T1 T2:String) (l1 l2:Addr) (C1 C2:Heap->Prop) (p1:Its T1 l1 C1) (p2:Its T2 l2 C2) (k2:∀ h o,C2 h->C2 (Heap.push h o)) :
  Meets (Builtin.«zip.__new__» ⟨[.type "zip",.ref l1,.ref l2],[]⟩) (fun _ R s=>C1 s.heap/\C2 s.heap/\R (.ok (.ret (.ref (z4 s.heap T1 T2 l1 l2).objs.size))) { s with heap:=z5 s.heap T1 T2 l1 l2 }) :=
 .of_wp fun prog w A R s h=>by
  obtain ⟨hp,g,d,tk,os⟩:=s;obtain ⟨c1,c2,h⟩:=h
  have hsub:=sub_zip
  have a1:C1 (Shared.heap ⟨hp,g,d,tk,os⟩):=c1
  have a2:C2 (Shared.heap ⟨hp.push (itObj T1 l1),g,d,tk,os⟩):=k2 _ _ c2
  wp_walk using p1 a1,p2 a2
  exact ⟨_,rfl,h⟩
section
variable {prog:Program} {w:World} {A:Around} {E:Value->Shared->Prop} {s:Shared} {z TI TO i1 i2 l1 l2:Addr} {xs ys:Array Value} {S1 S2:Nat->Heap->Prop}
theorem call_zip {T1 T2:String} {C1 C2:Heap->Prop} {Q:Value->Shared->Prop} (p1:Its T1 l1 C1) (p2:Its T2 l2 C2) (k2:∀ h o,C2 h->C2 (Heap.push h o)) (c1:C1 s.heap) (c2:C2 s.heap)
  (h:Q (.ref (z4 s.heap T1 T2 l1 l2).objs.size) { s with heap:=z5 s.heap T1 T2 l1 l2 }):wpAny (model prog w) A (call (.type "zip") [.ref l1,.ref l2]) Q E s :=
 callType_new F.called_zip (by decide) (F.typeCall_zip_2 _ _) (F.newCall_zip_2 _ _) (fun obj=>F.args_object_init_3 obj _ _) F.entry_zip_new (meets_new T1 T2 l1 l2 C1 C2 p1 p2 k2)
  ⟨c1,c2,⟨_,Heap.get?_push_size _ rfl,rfl⟩,h⟩
theorem pyNext_own (D:Apart z TI TO i1 i2 l1 l2) (W1:Draws prog w i1 l1 xs S1) (W2:Draws prog w i2 l2 ys S2) {k:Nat} {x y a b:Value} {Q:Option Value->Shared->Prop}
  (hz:IsZip s.heap z TI TO .none) (hTI:IsPair s.heap TI (.ref i1) (.ref i2)) (hTO:IsPair s.heap TO a b) (h1:S1 k s.heap) (h2:S2 k s.heap) (hx:xs[k]?=some x) (hy:ys[k]?=some y)
  (hQ:∀ h',IsZip h' z TI TO (rawInt s.heap.objs.size)->IsPair h' TO x y->S1 (k+1) h'->S2 (k+1) h'->IsPair h' s.heap.objs.size x y->h'.objs.size=s.heap.objs.size+1 ->
   (∀ c o,c≠z->c≠TO->c≠i1->c≠i2->s.heap.get? c=some o->h'.get? c=some o)->Q (some (.ref s.heap.objs.size)) { s with heap:=h' }) :
  wpAny (model prog w) A (pyNext (.ref z)) Q E s:=by
 have hT:s.TypeIs (.ref z) "zip":=⟨_,hz,rfl⟩
 unfold pyNext
 exact wpAny_bind (wpAny_attempt (wpAny_callSpecial?_slot (name:=Str.ofString "__next__") hT F.slot_zip_next (wpAny_call_entry F.slot_zip_next hT F.entry_zip_next
  (next_own D W1 W2 hz hTI hTO h1 h2 hx hy fun h' a1 a2 a3 a4 a5 a6 a7=>wpAny_pure (hQ h' a1 a2 a3 a4 a5 a6 a7)) (F.args_zip_next_1 _))))
theorem pyNext_end (hh:A.handled=none) (D:Apart z TI TO i1 i2 l1 l2) (W1:Draws prog w i1 l1 xs S1) (W2:Draws prog w i2 l2 ys S2) {k:Nat} {a b:Value} {Q:Option Value->Shared->Prop}
  (hz:IsZip s.heap z TI TO .none) (hTI:IsPair s.heap TI (.ref i1) (.ref i2)) (hTO:IsPair s.heap TO a b) (h1:S1 k s.heap) (h2:S2 k s.heap) (hend:xs[k]?=none∨ys[k]?=none)
  (hQ:∀ h',(∀ c o,c≠z->c≠TO->c≠i1->c≠i2->s.heap.get? c=some o->h'.get? c=some o)->Q none { s with heap:=h' }):wpAny (model prog w) A (pyNext (.ref z)) Q E s:=by
 have hT:s.TypeIs (.ref z) "zip":=⟨_,hz,rfl⟩
 unfold pyNext
 refine wpAny_bind (wpAny_attempt (wpAny_callSpecial?_slot (name:=Str.ofString "__next__") hT F.slot_zip_next (wpAny_call_entry F.slot_zip_next hT F.entry_zip_next
  (next_end (A:=A.in1) (show A.in1.handled=none from hh) D W1 W2 hz hTI hTO h1 h2 hend fun h' e hk he=>?_) (F.args_zip_next_1 _))))
 obtain ⟨o,ho,hc⟩:=he
 refine wpAny_bind (wpAny_isInstance (T:="StopIteration") (b:=true) ⟨o,ho,hc⟩ isSubtype_stop ?_);exact wpAny_pure (hQ _ hk)
end
def ItIs:Bool->Heap->Addr->Addr->Nat->Prop
 | true,h,it,l,k=>h.IsTupleIter it l k
 | false,h,it,l,k=>h.IsListIter it l k
def CtIs:Bool->Heap->Addr->Array Value->Prop
 | true,h,l,xs=>h.IsTuple l xs
 | false,h,l,xs=>h.IsList l xs
def Fp:Bool->String
 | true=>"tuple_iterator"
 | false=>"list_iterator"
theorem GY (b:Bool) {prog:Program} {w:World} {it t:Addr} {xs:Array Value} (hne:t≠it):Draws prog w it t xs (fun k h=>ItIs b h it t k/\CtIs b h t xs):=by
 cases b
 ·exact Draws.lst hne
 ·exact Draws.tup hne
theorem its_of (b:Bool) (l:Addr) (xs:Array Value):Its (Fp b) l (fun h=>CtIs b h l xs):=by
 intro prog w A E s Q c q
 cases b
 ·exact wpAny_pyIter_list c q
 ·exact wpAny_pyIter_tuple c q
theorem CtIs.at {b:Bool} {h h':Heap} {l:Addr} {xs:Array Value} (c:CtIs b h l xs) (e:∀ o,h.get? l=some o->h'.get? l=some o):CtIs b h' l xs:=by
 cases b
 ·exact Heap.IsList.at c e
 ·exact Heap.IsTuple.at c e
theorem ItIs.at {b:Bool} {h h':Heap} {it l:Addr} {k:Nat} (c:ItIs b h it l k) (e:∀ o,h.get? it=some o->h'.get? it=some o):ItIs b h' it l k:=by
 cases b
 ·exact Heap.IsListIter.at c e
 ·exact Heap.IsTupleIter.at c e
theorem ItIs.obj {b:Bool} {h:Heap} {it l:Addr} {k:Nat} (c:ItIs b h it l k):∃ o,h.get? it=some o/\∀ v,o.data≠.cell v:=by
 cases b
 ·obtain ⟨o,e,_,d⟩:=c
  exact ⟨o,e,fun v z=>by rw [d] at z;cases z⟩
 ·obtain ⟨o,e,_,d⟩:=c
  exact ⟨o,e,fun v z=>by rw [d] at z;cases z⟩
theorem ItIs.new {b:Bool} {h:Heap} {it l:Addr} (e:h.get? it=some (itObj (Fp b) l)):ItIs b h it l 0:=by
 cases b
 ·exact ⟨_,e,rfl,rfl⟩
 ·exact ⟨_,e,rfl,rfl⟩
end Zp
end PySem
namespace L2
open PySem PySem.Spec PyProof.Rows
def SqB (b:Bool) (K:PySem.W.Frag) (H:Hp) (a:Addr) (xs:List V):Prop:=match b with
 | true=>SqT K H a xs
 | false=>SqL K H a xs
section
variable {X:Cx} {pins:List (Addr×Obj)} {σ:St} {H:Hp} {s:Shared} {a:Addr} {xs ys:List V} {b:Bool}
theorem Inv.sqb (I:Inv X pins σ H s) (h:SqB b X.K H a xs):∃ its:List Value,Vals xs its/\Zp.CtIs b s.heap a its.toArray/\xs.length<=sizeLine:=by
 cases b
 ·obtain ⟨its,r,p,z⟩:=I.list h
  exact ⟨its,r,p.isList,z⟩
 ·obtain ⟨its,r,p,z⟩:=I.tuple h
  exact ⟨its,r,p,z⟩
theorem Inv.sqb_inj (I:Inv X pins σ H s) (h:SqB b X.K H a xs) (h':SqB b X.K H a ys):xs=ys:=by
 cases b
 ·exact I.list_inj h h'
 ·exact I.tuple_inj h h'
theorem Inv.turnedL {h':Heap} {t':Nat} {fp:List Addr} (I:Inv X pins σ H s) (k:∀ b o,b∉fp->s.heap.get? b=some o->h'.get? b=some o) (hf:∀ b∈fp,FpOk X pins H b):Inv X pins σ H { s with heap:=h',toks:=t' }:=by
 have nit:∀ b u,H b=some u->b∉fp:=fun b u e z=>by rw [(hf b z).1] at e;cases e
 refine I.step (g':=s.gens) (d':=s.drawn) (ch:=fp) (fun b hb=>?_) (fun b o _ _ hc e _=>k b o hc e) (fun b o _ _ hc e _=>⟨o.slots,k b o hc e⟩) (fun _ _ _ _ n=>n)
  (fun b o hc e=>⟨o,k b o hc e⟩) (fun _ _ e=>e) (fun _ _ _ e=>e) (fun b ps e=>⟨#[],by rw [e];simp⟩) (fun m hm=>?_) (fun b u e=>?_) I.bare
 ·obtain ⟨f0,f1,f2,f3,f4,f5⟩:=hf b hb
  exact ⟨f3,f1,f4,f5⟩
 ·obtain ⟨o,es,ep,ho,r⟩:=hm
  exact ⟨o,es,ep,k _ o (fun z=>(hf _ z).2.1 rfl) ho,r⟩
 ·refine (I.hok b u e).stay (fun c v hc q=>k c v ?_ q) (fun _ q=>q) fun _ _ q=>q
  rcases hc with z | z
  ·rw [z];exact nit b u e
  ·exact nit c _ z
end
def Itz (K:PySem.W.Frag) (b1:Bool) (a1:Addr) (b2:Bool) (a2:Addr):It :=
  ⟨fun i H=>∃ xs ys x y,SqB b1 K H a1 xs/\SqB b2 K H a2 ys/\xs[i]?=some x/\ys[i]?=some y,
   fun i H x H'=>∃ T vx vy,H T=none/\x=.ref T/\H'=upd H T (.tup [vx,vy])/\(∀ xs,SqB b1 K H a1 xs->xs[i]?=some vx)/\∀ ys,SqB b2 K H a2 ys->ys[i]?=some vy,
   fun i H=>∃ xs ys,SqB b1 K H a1 xs/\SqB b2 K H a2 ys/\(xs.length<=i∨ys.length<=i)⟩
theorem turn_zip {P:Program} {w:World} {K:PySem.W.Frag} {elts:List Expr} {k0:Nat} {tpos:Pos} {b1 b2:Bool} {a1 a2 z TI TO i1 i2:Addr} (D:Zp.Apart z TI TO i1 i2 a1 a2) :
  Turn P w K (.Tuple elts k0 tpos) (Itz K b1 a1 b2 a2) [z,TI,TO,i1,i2] z (fun i h=>IsZip h z TI TO .none/\IsPair h TI (.ref i1) (.ref i2)/\(∃ a b,IsPair h TO a b)/\Zp.ItIs b1 h i1 a1 i/\Zp.ItIs b2 h i2 a2 i) where
 mem:=by simp
 obj:=fun i h st b hb=>by
  obtain ⟨hz,hTI,⟨ta,tb,hTO⟩,h1,h2⟩:=st
  simp only [List.mem_cons,List.not_mem_nil,or_false] at hb
  rcases hb with rfl | rfl | rfl | rfl | rfl
  ·exact ⟨_,hz,fun v z=>nomatch z⟩
  ·exact ⟨_,hTI,fun v z=>nomatch z⟩
  ·exact ⟨_,hTO,fun v z=>nomatch z⟩
  ·exact h1.obj
  ·exact h2.obj
 keep:=fun i h h' st k=>by
  obtain ⟨hz,hTI,⟨ta,tb,hTO⟩,h1,h2⟩:=st
  exact ⟨k z (by simp) _ hz,k TI (by simp) _ hTI,⟨ta,tb,k TO (by simp) _ hTO⟩,h1.at fun o e=>k i1 (by simp) o e,h2.at fun o e=>k i2 (by simp) o e⟩
 item:=by
  intro X hP hw hK hc i pins s σ H E I hf st hg
  subst hP hw hK
  obtain ⟨hz,hTI,⟨ta,tb,hTO⟩,h1,h2⟩:=st
  obtain ⟨xs,ys,x,y,q1,q2,ex,ey⟩:=hg
  obtain ⟨its1,r1,c1,z1⟩:=I.sqb q1
  obtain ⟨its2,r2,c2,z2⟩:=I.sqb q2
  obtain ⟨u1,hu1,ru1⟩:=r1.get ex
  obtain ⟨u2,hu2,ru2⟩:=r2.get ey
  obtain ⟨⟨TIz,TOz,i1z,i2z,l1z,l2z⟩,⟨TITO,TIi1,TIi2,TOi1,TOi2,i12⟩,⟨l1TO,l1i1,l1i2,l2TO,l2i1,l2i2⟩⟩:=id D
  refine Zp.pyNext_own D (Zp.GY b1 l1i1) (Zp.GY b2 l2i2) hz hTI hTO ⟨h1,c1⟩ ⟨h2,c2⟩ (x:=u1) (y:=u2) (by simpa using hu1) (by simpa using hu2) fun h' hz' hTO' s1' s2' hT' hs' hk'=>⟨_,rfl,?_⟩
  refine wpAny_letOwnedTupleGo_zip hz' fun h2' hz2 sb=>?_
  have hTne:∀ {c o},s.heap.get? c=some o->c≠s.heap.objs.size:=fun e=>Nat.ne_of_lt (Heap.lt_size e)
  have Il:Inv X pins σ (upd H s.heap.objs.size (.tup [x,y])) { s with heap:=s.heap.push { cls:=.type "tuple",data:=.seq #[u1,u2] },toks:=s.toks } :=
   I.laid (fun b o e=>Heap.get?_push_of_some _ e) (Nat.le_refl _) ⟨by show 2<=sizeLine;rw [sizeLine_eq];decide,[u1,u2],.cons ru1 (.cons ru2 .nil),⟨_,Heap.get?_push_size _ rfl,rfl,_,rfl⟩⟩
  have hlt:∀ b∈[z,TI,TO,i1,i2],b≠s.heap.objs.size:=fun b hb=>by
   simp only [List.mem_cons,List.not_mem_nil,or_false] at hb
   rcases hb with rfl | rfl | rfl | rfl | rfl
   ·exact hTne hz
   ·exact hTne hTI
   ·exact hTne hTO
   ·obtain ⟨o,e,_⟩:=h1.obj
    exact hTne e
   ·obtain ⟨o,e,_⟩:=h2.obj
    exact hTne e
  have hf':∀ b∈[z,TI,TO,i1,i2],FpOk X pins (upd H s.heap.objs.size (.tup [x,y])) b:=fun b hb=>by
   obtain ⟨f0,f⟩:=hf b hb
   exact ⟨by rw [AG (hlt b hb)];exact f0,f⟩
  have I2:Inv X pins σ (upd H s.heap.objs.size (.tup [x,y])) { s with heap:=h2',toks:=s.toks }:=Il.turnedL (t':=s.toks) (fun b o hb e=>by
   have nz:b≠z:=fun q=>hb (by simp [q])
   refine sb.extBut _ _ nz ?_
   by_cases hbT:b=s.heap.objs.size
   ·subst hbT
    have e':(s.heap.push { cls:=.type "tuple",data:=.seq #[u1,u2] }).get? s.heap.objs.size=some o:=e
    rw [Heap.get?_push_size _ rfl] at e'
    cases e'
    exact hT'
   ·have e':(s.heap.push { cls:=.type "tuple",data:=.seq #[u1,u2] }).get? b=some o:=e
    rw [Heap.get?_push_ne _ _ _ hbT] at e'
    exact hk' b o nz (fun q=>hb (by simp [q])) (fun q=>hb (by simp [q])) (fun q=>hb (by simp [q])) e') hf'
  refine ⟨.ref s.heap.objs.size,_,I2,rfl,⟨s.heap.objs.size,x,y,I.hok.fresh (Nat.le_refl _),rfl,rfl,fun zs hz=>by rw [I.sqb_inj hz q1];exact ex,fun zs hz=>by rw [I.sqb_inj hz q2];exact ey⟩,?_,fun b hb=>(hf' b hb).1⟩
  exact ⟨hz2,sb.extBut _ _ TIz (hk' _ _ TIz TITO TIi1 TIi2 hTI),⟨_,_,sb.extBut _ _ TOz hTO'⟩,s1'.1.at fun o e=>sb.extBut _ _ i1z e,s2'.1.at fun o e=>sb.extBut _ _ i2z e⟩
 done:=by
  intro X hP hw hK hc i pins s σ H E I hf st hg
  subst hP hw hK
  obtain ⟨hz,hTI,⟨ta,tb,hTO⟩,h1,h2⟩:=st
  obtain ⟨xs,ys,q1,q2,hend⟩:=hg
  obtain ⟨its1,r1,c1,z1⟩:=I.sqb q1
  obtain ⟨its2,r2,c2,z2⟩:=I.sqb q2
  have e1:=r1.length
  have e2:=r2.length
  obtain ⟨_,_,⟨l1TO,l1i1,l1i2,l2TO,l2i1,l2i2⟩⟩:=id D
  refine Zp.pyNext_end (I.ok.hd hc) D (Zp.GY b1 l1i1) (Zp.GY b2 l2i2) hz hTI hTO ⟨h1,c1⟩ ⟨h2,c2⟩ ?_ fun h' hk=>⟨rfl,I.turnedL (t':=s.toks) (fun b o hb e=>hk b o (fun q=>hb (by simp [q])) (fun q=>hb (by simp [q])) (fun q=>hb (by simp [q])) (fun q=>hb (by simp [q])) e) hf⟩
  rcases hend with z | z
  ·exact .inl (by simp;omega)
  ·exact .inr (by simp;omega)
 self:=fun _ _ _ _ _ st h=>wpAny_pyIter_zip st.1 h
end L2
namespace PySem
namespace Zp
theorem made {h:Heap} {b1 b2:Bool} {l1 l2:Addr} {xs ys:Array Value} (c1:CtIs b1 h l1 xs) (c2:CtIs b2 h l2 ys) :
  ∃ z TI TO i1 i2,z=(z4 h (Fp b1) (Fp b2) l1 l2).objs.size/\h.objs.size<=z/\h.objs.size<=TI/\h.objs.size<=TO/\h.objs.size<=i1/\h.objs.size<=i2/\Apart z TI TO i1 i2 l1 l2 /\
   IsZip (z5 h (Fp b1) (Fp b2) l1 l2) z TI TO .none/\IsPair (z5 h (Fp b1) (Fp b2) l1 l2) TI (.ref i1) (.ref i2)/\IsPair (z5 h (Fp b1) (Fp b2) l1 l2) TO .none .none /\
   ItIs b1 (z5 h (Fp b1) (Fp b2) l1 l2) i1 l1 0/\ItIs b2 (z5 h (Fp b1) (Fp b2) l1 l2) i2 l2 0/\∀ c o,h.get? c=some o->(z5 h (Fp b1) (Fp b2) l1 l2).get? c=some o:=by
 have s1:(z1 h (Fp b1) l1).objs.size=h.objs.size+1:=Heap.size_push ..
 have s2:(z2 h (Fp b1) (Fp b2) l1 l2).objs.size=h.objs.size+2:=by unfold z2;rw [Heap.size_push,s1]
 have s3:(z3 h (Fp b1) (Fp b2) l1 l2).objs.size=h.objs.size+3:=by unfold z3;rw [Heap.size_push,s2]
 have s4:(z4 h (Fp b1) (Fp b2) l1 l2).objs.size=h.objs.size+4:=by unfold z4;rw [Heap.size_push,s3]
 have lt:∀ {b:Bool} {l:Addr} {xs:Array Value},CtIs b h l xs->l < h.objs.size:=fun {b l xs} c=>by
  cases b
  ·obtain ⟨o,e,_⟩:=c
   exact Heap.lt_size e
  ·obtain ⟨o,e,_⟩:=c
   exact Heap.lt_size e
 have t1:@LT.lt Nat _ l1 h.objs.size:=lt c1
 have t2:@LT.lt Nat _ l2 h.objs.size:=lt c2
 refine ⟨(z4 h (Fp b1) (Fp b2) l1 l2).objs.size,(z2 h (Fp b1) (Fp b2) l1 l2).objs.size,(z3 h (Fp b1) (Fp b2) l1 l2).objs.size,h.objs.size,(z1 h (Fp b1) l1).objs.size,rfl,by omega,by omega,by omega,by omega,by omega,⟨?_,?_,?_⟩,?_,?_,?_,?_,?_,?_⟩
 ·rw [s1,s2,s3,s4]
  refine ⟨?_,?_,?_,?_,?_,?_⟩ <;> (intro e;have e2:@Eq Nat _ _:=e;omega)
 ·rw [s1,s2,s3]
  refine ⟨?_,?_,?_,?_,?_,?_⟩ <;> (intro e;have e2:@Eq Nat _ _:=e;omega)
 ·rw [s1,s3]
  refine ⟨?_,?_,?_,?_,?_,?_⟩ <;> (intro e;have e2:@Eq Nat _ _:=e;omega)
 ·exact Heap.get?_push_size _ rfl
 ·exact Heap.get?_push_of_some _ (Heap.get?_push_of_some _ (Heap.get?_push_size _ rfl))
 ·exact Heap.get?_push_of_some _ (Heap.get?_push_size _ rfl)
 ·exact ItIs.new (Heap.get?_push_of_some _ (Heap.get?_push_of_some _ (Heap.get?_push_of_some _ (Heap.get?_push_of_some _ (Heap.get?_push_size _ rfl)))))
 ·exact ItIs.new (Heap.get?_push_of_some _ (Heap.get?_push_of_some _ (Heap.get?_push_of_some _ (Heap.get?_push_size _ rfl))))
 ·exact fun c o e=>Heap.get?_push_of_some _ (Heap.get?_push_of_some _ (Heap.get?_push_of_some _ (Heap.get?_push_of_some _ (Heap.get?_push_of_some _ e))))
end Zp
end PySem
namespace L2
open PySem PySem.Spec PyProof.Rows
def iZip (K:PySem.W.Frag) (ta:TA):TI:=fun σ H R=>ta σ H fun vs H1=>∃ b1 a1 b2 a2,vs=[.ref a1,.ref a2]/\(∃ xs,SqB b1 K H1 a1 xs)/\(∃ ys,SqB b2 K H1 a2 ys)/\R (Itz K b1 a1 b2 a2) H1
theorem pi_zip {X:Cx} {a b:Expr} {ta:TA} {p pos tpos:Pos} {elts:List Expr} {k0:Nat} (hg:Gl X "zip") (hm:X.mg "zip"=none) (ha:PA X [a,b] ta) (hs:starEach [a,b] X.env=[(false,eval a X.env),(false,eval b X.env)]:=by rfl) (hs2:starEach [b] X.env=[(false,eval b X.env)]:=by rfl) :
  PI X (.Tuple elts k0 tpos) (.Call (.Name "zip" p) [a,b] [] pos) (iZip X.K ta):=by
 intro pins s σ H R I h
 refine Call_ (FF I hg hm boot_zip (PyProof.Rows.callWith_type1 (thn (ha pos pins s σ H _ I h) fun us s1 ⟨vs,H1,I1,r1,q1⟩=>?_) (by rw [hs,hs2]) (by rw [hs2];rfl)))
 obtain ⟨b1,a1,b2,a2,e,⟨xs,hx⟩,⟨ys,hy⟩,q⟩:=q1
 subst e
 cases r1 with
 | cons r rr =>
  cases rr with
  | cons r' rr =>
   cases rr
   cases r
   cases r'
   obtain ⟨its1,rv1,c1,_⟩:=I1.sqb hx
   obtain ⟨its2,rv2,c2,_⟩:=I1.sqb hy
   refine Zp.call_zip (T1:=Zp.Fp b1) (T2:=Zp.Fp b2) (C1:=fun h=>Zp.CtIs b1 h a1 its1.toArray) (C2:=fun h=>Zp.CtIs b2 h a2 its2.toArray) (Zp.its_of b1 a1 its1.toArray) (Zp.its_of b2 a2 its2.toArray) (fun h o c=>Zp.CtIs.at (b:=b2) c fun o e=>Heap.get?_push_of_some _ e) c1 c2 ?_
   obtain ⟨z,TI,TO,i1,i2,ez,g0,g1,g2,g3,g4,D,hz,hTI,hTO,t1,t2,hk⟩:=Zp.made c1 c2
   rw [<- ez]
   refine wpAny_pyIter_zip hz ⟨z,[z,TI,TO,i1,i2],_,Itz X.K b1 a1 b2 a2,H1,rfl,I1.kept (t':=s1.toks) hk,turn_zip D,⟨hz,hTI,⟨_,_,hTO⟩,t1,t2⟩,fun b hb=>?_,q⟩
   have hge:s1.heap.objs.size<=b:=by
    simp only [List.mem_cons,List.not_mem_nil,or_false] at hb
    rcases hb with rfl | rfl | rfl | rfl | rfl <;> assumption
   exact I1.fpOk hge (I1.hok.fresh hge)
end L2
namespace PySem
theorem extend_tupW (l b:Addr) (items items2:Array Value) (n n2:Nat) (dd2:Option Addr) (sl2:Array (Option Value)) (hs0:¬(!items.isEmpty && Builtin.List.listTooLong (items.size+items2.size))=true) (hs1:items.size<=sizeLine) (hs2:items.size+items2.size<=sizeLine+1) :
  Meets (Builtin.«list.extend» ⟨[.ref l,.ref b],[]⟩) (fun _ R s=>s.heap.get? l=some { cls:=.type "list",dict:=none,data:=.seq items n,slots:=#[] }/\s.heap.get? b=some { cls:=.type "tuple",dict:=dd2,data:=.seq items2 n2,slots:=sl2 } /\
   R (.ok (.ret Value.none)) { s with heap:=s.heap.update l (Obj.mapSeq fun x=>x++items2),toks:=s.toks }) :=
 .of_wp fun prog w A R s h=>by
  obtain ⟨hp,g,d,tk,os⟩:=s;obtain ⟨hl,hb,h⟩:=h;have f1:=AutoSeq1.idx_int;have f2:=AutoSeq1.sub_tuple_tuple;have f3:=AutoSeq1.sub_list_list;have f4:=AutoSeq1.sub_tuple_list;have f5:=AutoSeq1.sub_list_tuple
  have hz':(items++items2).size<=sizeLine+1:=by rw [Array.size_append];exact hs2
  wp_walk using (wpAny_updateSeq hl rfl (hz:=hs1) (_hz':=hz')),wpAny_loadPart' hl,wpAny_loadPart' hb
  exact ⟨_,rfl,h⟩
end PySem
namespace L2
open PySem PySem.Spec PyProof.Rows
section
variable {X:Cx}
def rExtT (K:PySem.W.Frag):V->List V->Hp->VK->Prop:=fun x vs H Q=>∃ l b xs zs,x=.ref l/\vs=[.ref b]/\H l=some (.lst xs)/\SqT K H b zs/\xs.length+zs.length<=sizeLine/\Q .non (upd H l (.lst (xs++zs)))
theorem mt_extT:MtM X "list.extend" (rExtT X.K):=by
 intro pins s σ H x vs v us Q I rx rv h
 obtain ⟨l,b,xs,zs,rfl,rfl,hH,hB,hz,q⟩:=h
 cases rx
 obtain ⟨u,rfl,ru⟩:=rv.one
 cases ru
 obtain ⟨z,its,n,r,hl,e⟩:=I.lstM hH
 obtain ⟨its2,r2,⟨⟨cls,dd,data,sl⟩,ho,hc,n2,hd⟩,z2⟩:=I.tuple hB
 simp only at hc hd
 subst hc hd
 have e1:=r.length
 have e2:=r2.length
 have hsz:its.toArray.size+its2.toArray.size<=sizeLine:=by rw [List.size_toArray,List.size_toArray];omega
 have hlong:¬ (!its.toArray.isEmpty && Builtin.List.listTooLong (its.toArray.size+its2.toArray.size))=true:=by
  rw [notLongL hsz,Bool.and_false]
  exact Bool.false_ne_true
 refine call_meets F.slot_list_extend ⟨_,e,rfl⟩ F.entry_list_extend (F.args_list_extend_2 _ _) (extend_tupW l b its.toArray its2.toArray n n2 dd sl hlong (by rw [List.size_toArray];omega) (by omega)) ⟨e,ho,?_⟩
 refine ⟨.non,_,I.lset (its':=its++its2) hH e (by simp) (r.append r2) ?_,rfl,q⟩
 rw [List.length_append]
 omega
def rCatT0 (K:PySem.W.Frag):R2:=fun x y H Q=>∃ a b ys,x=.ref a/\y=.ref b/\SqT K H a []/\SqT K H b ys/\Q (.ref b) H
theorem op_catT0:OpR X (binaryOp .Add) (rCatT0 X.K):=by
 intro pins s σ H x y v u Q I rx ry h
 obtain ⟨a,b,ys,rfl,rfl,ha,hb,q⟩:=h
 cases rx
 cases ry
 obtain ⟨its,r1,⟨⟨cls,dd,data,sl⟩,ho,hc,n,hd⟩,_⟩:=I.tuple ha
 obtain ⟨its2,r2,⟨⟨cls2,dd2,data2,sl2⟩,ho2,hc2,n2,hd2⟩,_⟩:=I.tuple hb
 simp only at hc hd hc2 hd2
 subst hc hd hc2 hd2
 cases r1
 exact concat_meets ⟨_,ho,rfl⟩ ⟨_,ho2,rfl⟩ noFill_tuple_add seq_tuple_add PySem.F.slot_tuple_add PySem.F.entry_tuple_add (PySem.F.args_tuple_add_2 _ _) (tuple_addW0 a b _ _ n n2 dd dd2 sl sl2 (by simp)) ⟨ho,ho2,⟨.ref b,H,I,rfl,q⟩⟩
theorem HN (T:String):DO X (.builtin "isinstance") (fun xs H Q=>∃ x t b,xs=[x,.ty T]/\TyOf X.K H x t/\PySem.W.kitOne X.K t (.type T)=some b/\Q (.bl b) H):=by
 intro pins s σ H xs us Q I r h
 obtain ⟨x,t,b,rfl,ty,e,q⟩:=h
 cases r with
 | cons r1 rr =>
  cases rr with
  | cons r2 rr =>
   cases rr
   obtain rfl:_=Value.type T:=r2
   exact isinst_ok I r1 ty e fun tk=>⟨.bl b,H,I.tok tk,rfl,q⟩
end
end L2
namespace PySem
namespace Zp
section
variable {prog:Program} {w:World} {A:Around} {E:Value->Shared->Prop} {s:Shared} {z TI TO i1 i2 l1 l2 ad:Addr} {xs ys:Array Value} {S1 S2:Nat->Heap->Prop}
end
section
variable {prog:Program} {w:World} {A:Around} {E:Value->Shared->Prop} {s:Shared} {z TI TO i1 i2 l1 l2 ad lo S:Addr} {xs ys:Array Value} {b1 b2:Bool} {R:Result->Shared->Prop}
end
end Zp
end PySem
namespace PySem
namespace F
end F
namespace Zp
section
variable {prog:Program} {w:World} {A:Around} {E:Value->Shared->Prop} {s:Shared} {z TI TO i1 i2 l1 l2 S:Addr} {xs ys:Array Value} {b1 b2:Bool} {R:Result->Shared->Prop}
end
end Zp
end PySem
namespace L2
open PySem PySem.Spec PyProof.Rows
section
variable {X:Cx} {pins:List (Addr×Obj)} {σ:St} {H H':Hp} {s:Shared}
end
end L2
namespace PySem
namespace F
end F
end PySem
namespace PySem
open PyProof.Rows (IsTup)
namespace Rv
section
variable {prog:Program} {w:World} {A:Around} {E:Value->Shared->Prop} {s:Shared}
end
section
variable {prog:Program} {w:World} {A:Around} {E:Value->Shared->Prop} {s:Shared}
end
end Rv
end PySem
namespace PySem
open PyProof.Rows (IsTup)
namespace Rv
section
variable {prog:Program} {w:World} {A:Around} {E:Value->Shared->Prop} {s:Shared}
end
end Rv
end PySem
namespace L2
open PySem PySem.Spec PyProof.Rows
end L2
namespace HT
open PySem PyProof.Rows
section
variable {prog:Program} {w:World} {A:Around} {E:Value->Shared->Prop} {s:Shared}
theorem Gu {t sl:Addr} {items:Array Value} {vl vu:Value} {lo hi:Option Int} {Q:Value->Shared->Prop} (ht:IsTup s.heap t items) (hs:s.heap.IsSliceOf sl vl vu .none) (pl:IsPart vl lo) (pu:IsPart vu hi)
  (hw:sIx items.size 0 lo=0/\sIx items.size items.size hi=items.size) (h:Q (.ref t) s):wpAny (model prog w) A (getItem (.ref t) (.ref sl)) Q E s:=by
 obtain ⟨os,hos,hcs,hds⟩:=id hs
 have hTs:s.TypeIs (.ref sl) "slice":=⟨os,hos,hcs⟩
 unfold getItem
 try with_reducible refine wpAny_holding ?_
 first | refine wpAny_bind (wpAny_pure ?_) | skip
 refine wpAny_bind (wpAny_sequenceKey ht.typeIs (by decide) ?_)
 refine wpAny_bind (wpAny_callSpecial?_slot (name:=Str.ofString "__getitem__") ht.typeIs PyProof.Rows.slot_tuple_getitem
  (wpAny_call_entry PyProof.Rows.slot_tuple_getitem ht.typeIs entry_tuple_getitem ?_ (args_tuple_getitem _ _)))
 show wpAny _ _ (Builtin.Tuple.tupleItemsOf (.ref t) >>= _) _ _ s
 refine wpAny_bind (tupleItemsOf_ ht ?_)
 refine wpAny_bind (wpAny_typeOf hTs ?_)
 rw [if_pos (by decide)]
 refine wpAny_bind (Es hs pl pu ?_)
 have hyes:(((sIx items.size 0 lo:Nat):Int) == 0 && (1:Int) == 1 && (sIx items.size items.size hi - sIx items.size 0 lo) == items.size)=true:=by
  rw [hw.1,hw.2]
  simp
 show wpAny _ _ (if (((sIx items.size 0 lo:Nat):Int) == 0 && (1:Int) == 1 && (sIx items.size items.size hi - sIx items.size 0 lo) == items.size)=true then _ else _) _ _ s
 rw [if_pos hyes]
 refine wpAny_bind ?_
 unfold Builtin.Tuple.tupleIsExact
 refine wpAny_bind (wpAny_typeOf ht.typeIs (wpAny_pure ?_))
 rw [if_pos (by decide)]
 exact wpAny_bind (wpAny_rule (wpAny_pure ⟨_,rfl,wpAny_pure h⟩))
end
end HT
namespace L2
open PySem PySem.Spec PyProof.Rows
def rSlA (K:PySem.W.Frag):V->Option Int->Option Int->Hp->VK->Prop:=fun x lo hi H Q=>∃ a xs,x=.ref a/\SqT K H a xs/\(HT.sIx xs.length 0 lo=0/\HT.sIx xs.length xs.length hi=xs.length)/\Q (.ref a) H
theorem sl_all {X:Cx}:SlR X (rSlA X.K):=by
 intro pins s σ H x v vl vu lo hi sl Q I rx hs pl pu h
 obtain ⟨a,xs,rfl,hx,hw,q⟩:=h
 cases rx
 obtain ⟨its,r,ht,hz⟩:=I.tuple hx
 have hlen:its.toArray.size=xs.length:=by rw [List.size_toArray];exact r.length.symm
 refine ⟨"tuple",_,PyProof.Rows.slot_tuple_getitem.lookup,ht.typeIs,?_⟩
 exact HT.Gu ht hs pl pu (by rw [hlen];exact hw) ⟨.ref a,H,I,rfl,q⟩
end L2
namespace L2
open PySem PySem.Spec PySem.W PyProof.Rows
def CN:List Int->Nat
 | []=>0
 | n :: ns=>Builtin.Int.intBits n+1+CN ns
theorem HQ:∀ ns:List Int,WData.weightAll (ns.map WData.int)=CN ns
 | []=>by simp [WData.weightAll,CN]
 | n :: ns=>by
  simp only [List.map_cons,WData.weightAll,CN,WData.weight,HQ ns]
  rfl
theorem walk_bits {l:PySem.W.OpenLaw} {n k:Nat} {q:Program} {loose:List Str} {XP:(Str->Option Value)->Heap->Prop} {YP:World->Heap->Prop} {d:DefRec} {K:Params->PySem.W.Frag} {CX:CXT} {sp:PySem.W.Frag->Sp} {x:Str}
  (hn:l.most=some n) (hn2:n<=sizeLine) (hdf:d.params.defaults=[]) (hr:EY k callerA)
  (hY:∀ (w:World) (h:Heap),YP w h->(K w.params).In h)
  (F:∀ (w:World) (mg:Str->Option Value) (fa:Addr) (h:Heap),(K w.params).In h->h.Ns mainGlobals mg->mg d.name=some (.ref fa) ->
   ∃ fd:FuncData,(∀ (s:Shared) (u:Value),BindsTo s fd ⟨[u],[]⟩ [(x,u)]) /\
    ∀ base:Heap,(K w.params).In base->base.Ns mainGlobals mg->Ds l.prog w (K w.params) mg base CX k fa fd [x] (sp (K w.params)))
  (hsp:∀ (K:PySem.W.Frag) (H:Hp) (a:Addr) (ns:List Int),ns.length<=n->CN ns<=2 ^ 20->Only H->SqL K H a (ns.map V.int)->sp K [.ref a] H (fun v _=>v=.bl true) fun _ _ _=>False)
  (hCX:∀ (H:Hp) (s:Shared) (e:Value) (s':Shared),CX [] H s (fun _ _ _=>False) e s'->False) :
  PySem.W.WalkO q loose XP YP l.row.toRowW d [] (fun f vs=>PySem.call f vs):=by
 intro w s₀ s₁ mg mb G Y fa o pm cd doc dV kV ho hd hcd hD hmg hg args vals as hpre hlay hrd hwl hlo
 obtain rfl:dV=.none:=Dflts.none hD hdf
 obtain rfl:kV=.none:=Dflts.noKw hD
 obtain ⟨a,vs,ns,rfl,rfl,hobj,hints,hlen⟩:=Att.script_of hn hpre hwl
 have hw:CN ns<=2 ^ 20:=by
  have h1:(WData.list (ns.map WData.int)).layable=true:=by
   unfold WData.layableAll at hlay
   simpa using hlay
  unfold WData.layable at h1
  rw [Bool.and_eq_true] at h1
  have h2:=of_decide_eq_true h1.2
  simp only [WData.weight] at h2
  rw [<- HQ]
  exact h2
 have KX:=hY w _ Y
 obtain ⟨fd,hb,hF⟩:=F w mg fa _ KX G.T.g hmg
 refine PySem.W.enter_call (codeAny_mono (law_call KX G.T.g G.T.b G.T.builtins G.T.nolimit hg hobj hints (Nat.le_trans hlen hn2) hr hF hb (fun H hO hS=>hsp (K w.params) H a ns hlen hw hO hS) fun H e s'=>hCX H s₁ e s') fun r s' hq=>?_)
 obtain ⟨rfl,h2,h3,h4⟩:=hq
 exact ⟨.inl ⟨.bool true,.bool true,[],rfl,fun _=>rfl,.bool true,Att.post_true l _,fun _=>⟨List.Pairwise.nil,fun _ hm=>(nomatch hm)⟩⟩,h2,h3,h4⟩
end L2
namespace L2
open PySem PySem.Spec
section
variable {prog:Program} {w:World} {K:Type} [DecidableEq K] {knd:KeyKind prog w K} {A:Around} {E:Value->Shared->Prop} {s:Shared}
end
section
variable {X:Cx} {pins:List (Addr×Obj)} {σ:St} {H:Hp} {s:Shared} {a:Addr} {A:Around} {E:Value->Shared->Prop}
variable {o e f:Expr} {td ty tx:TE} {apos cpos:Pos}
end
end L2
namespace L2
open PySem PySem.Spec
section
variable {X:Cx} {pins:List (Addr×Obj)} {σ:St} {H:Hp} {s:Shared} {a:Addr} {o:Obj} {kvs:List (Key×V)}
end
section
variable {X:Cx} {tg:Expr}
end
section
variable {X:Cx}
theorem HM (hc:X.calm=true):DO X (.type "list") (fun xs H Q=>∃ p kvs,xs=[.ref p]/\Rd H p (.dK kvs)/\∀ l,H l=none->Q (.ref l) (upd H l (.lst (kvs.map fun kv=>kV kv.1)))):=by
 intro pins s σ H xs us Q I r h
 obtain ⟨p,kvs,rfl,hp,q⟩:=h
 obtain ⟨u,rfl,rx⟩:=vals1 r
 cases rx
 obtain ⟨z,hd,vs,rel,dd⟩:=dk_rd I.hok hp
 obtain ⟨ep,da⟩:=dd.dictAt
 have hlen:kvs.length=vs.length:=Paired.length rel
 refine PySem.W.kdl_call (PySem.W.kdl_dict (ep:=ep) hd) (I.ok.hd hc) da (by rw [<- hlen];exact z) fun h' tk acc c' kp e hacc=>?_
 refine ⟨.ref s.heap.objs.size,_,I.laid (t':=tk) kp (Nat.le_refl _) (show CU X.prog X.w _ h' _ (.lst (kvs.map fun kv=>kV kv.1)) from ⟨by rw [List.length_map];exact z,acc.toList,c',vals_keys rel hacc,by simpa using e⟩),rfl,q _ (I.hok.fresh (Nat.le_refl _))⟩
theorem call_lenDR:DO X (.builtin "len") (fun xs H Q=>∃ a kvs,xs=[V.ref a]/\Rd H a (.dK kvs)/\Q (.int kvs.length) H):=by
 intro pins s σ H xs us Q I r h
 obtain ⟨a,kvs,rfl,ha,q⟩:=h
 obtain ⟨u,rfl,ru⟩:=vals1 r
 cases ru
 exact d_len I ha fun t s' I'=>⟨.int kvs.length,H,I',⟨t,rfl⟩,q⟩
end
end L2
namespace L2
open PySem PySem.Spec PyProof.Rows PySem.W
theorem look_in {h:Heap}:∀ (K:PySem.W.Frag),(K.map (·.1)).map h.get?=K.map (fun p=>some p.2)->K.In h
 | [],_=>fun a o e=>by cases e
 | p :: K,hk=>fun a o e=>by
  simp only [List.map_cons,List.cons.injEq] at hk
  rw [List.lookup_cons] at e
  by_cases q:a=p.1
  ·subst q
   rw [show (p.1 == p.1)=true by simp] at e
   cases e
   exact hk.1
  ·rw [show (a == p.1)=false by simpa using q] at e
   exact look_in K hk.2 a o e
theorem walkX_bits {l:PySem.W.OpenLaw} {n k N tk:Nat} {q:Program} {loose:List Str} {XP:(Str->Option Value)->Heap->Prop} {d:DefRec} {K:Params->PySem.W.Frag} {as:List Addr} {CX:CXT} {sp:PySem.W.Frag->Sp} {x:Str}
  (hn:l.most=some n) (hn2:n<=sizeLine) (hdf:d.params.defaults=[]) (hr:EY k callerA)
  (hK:∀ P:Params,as=(K P).map (·.1))
  (F:∀ (w:World) (mg:Str->Option Value) (fa:Addr) (h:Heap),(K w.params).In h->h.Ns mainGlobals mg->mg d.name=some (.ref fa) ->
   ∃ fd:FuncData,(∀ (s:Shared) (u:Value),BindsTo s fd ⟨[u],[]⟩ [(x,u)]) /\
    ∀ base:Heap,(K w.params).In base->base.Ns mainGlobals mg->Ds l.prog w (K w.params) mg base CX k fa fd [x] (sp (K w.params)))
  (hsp:∀ (K:PySem.W.Frag) (H:Hp) (a:Addr) (ns:List Int),ns.length<=n->CN ns<=2 ^ 20->Only H->SqL K H a (ns.map V.int)->sp K [.ref a] H (fun v _=>v=.bl true) fun _ _ _=>False)
  (hCX:∀ (H:Hp) (s:Shared) (e:Value) (s':Shared),CX [] H s (fun _ _ _=>False) e s'->False) :
  PySem.W.WalkX q loose XP (PySem.W.X.obsZ as) (PySem.W.X.valZ K N tk) l.row.toRowW d [] (fun f vs=>PySem.call f vs):=by
 intro w s₀ s₁ mg mb G Y fa o pm cd doc dV kV ho hd hcd hD hmg hg args vals ads hL hpre hlay hrd hwl hlo
 have W:=walk_bits (l:=l) (q:=q) (loose:=loose) (XP:=XP) (YP:=fun w h=>(K w.params).In h) (d:=d) (K:=K) (CX:=CX) (sp:=sp) (x:=x) hn hn2 hdf hr (fun _ _ h=>h) F hsp hCX
 refine W w s₀ s₁ mg mb G ?_ fa o pm cd doc dV kV ho hd hcd hD hmg hg args vals ads hpre hlay hrd hwl hlo
 have h1:as.map s₀.heap.get?=(K w.params).map (fun p=>some p.2):=congrArg Prod.fst Y
 rw [hK w.params] at h1
 exact fun a o e=>hL.keeps a o (look_in _ h1 a o e)
end L2
namespace FL
open PySem PySem.Spec L2
inductive T where
 | non | bl (b:Bool) | int (i:Int) | str (x:Str)
 | tup (ts:List T) | lst (ts:List T)
 | scr (ts:List T)
 | dK (ks:List Key) (ts:List T) | dT (ks:List (List Key)) (ts:List T)
 | ins (C:Addr) (fs:List Str) (ts:List T)
 | dF (ks:List Key) (ts:List T)
inductive FO where
 | lst (ts:List T) | dK (ks:List Key) (ts:List T) | dT (ks:List (List Key)) (ts:List T)
 | ins (C:Addr) (fs:List Str) (os:List FO) | val (t:T)
inductive Sl where
 | val (t:T) | own (o:FO) | bor (o:FO)
abbrev FS:=List (Option Sl)
inductive Rv where
 | t (t:T) | nw (o:FO) | rf (i:Nat)
inductive Out (α:Type) where
 | ok (a:α) (fs:FS) | exc (c:Str) (fs:FS) | bad
inductive SO where
 | nx (fs:FS) | ret (r:Rv) (fs:FS) | brk (fs:FS) | cnt (fs:FS) | exc (c:Str) (fs:FS) | bad
structure Wd where
 f:Addr->Prop
 p:Addr->Prop
instance:CoeFun Wd fun _=>Addr->Prop:=⟨Wd.f⟩
structure Le (F:Wd) (H:Hp) (F':Wd) (H':Hp):Prop where
 f:∀ a,F a->F' a/\H' a=H a
 p:∀ a,F.p a->F'.p a/\H' a=H a
theorem Le.refl {F:Wd} {H:Hp}:Le F H F H:=⟨fun _ h=>⟨h,rfl⟩,fun _ h=>⟨h,rfl⟩⟩
theorem Le.trans {F F1 F2:Wd} {H H1 H2:Hp} (x:Le F H F1 H1) (y:Le F1 H1 F2 H2):Le F H F2 H2 :=
 ⟨fun a h=>let ⟨p,q⟩:=x.f a h;let ⟨p2,q2⟩:=y.f a p;⟨p2,q2.trans q⟩,fun a h=>let ⟨p,q⟩:=x.p a h;let ⟨p2,q2⟩:=y.p a p;⟨p2,q2.trans q⟩⟩
section
variable (K:PySem.W.Frag)
def KL (a:Addr) (vs:List V):Prop:=∃ (o:Obj) (its:Array Value) (n:Nat),K.lookup a=some o/\o.cls=.type "list"/\o.dict=none/\o.data=.seq its n/\its.size<=sizeLine/\Vals vs its.toList
def StL (F:Wd) (H:Hp) (a:Addr) (vs:List V):Prop:=(F a/\Rd H a (.lst vs))∨KL K a vs
def StT (F:Wd) (H:Hp) (a:Addr) (vs:List V):Prop:=K=K/\F a/\H a=some (.tup vs)
end
section
variable {K:PySem.W.Frag} {F F':Wd} {H H':Hp} {a:Addr} {vs:List V}
theorem StL.sq (h:StL K F H a vs):SqL K H a vs:=by
 rcases h with ⟨_,h⟩ | h
 ·exact .inl h
 ·exact .inr h
theorem StT.sq (h:StT K F H a vs):SqT K H a vs:=SqT.of h.2.2
theorem Rd.same {u:HO} (h:Rd H a u) (e:H' a=H a):Rd H' a u:=by
 unfold Rd at *
 rw [e]
 exact h
theorem StL.le (h:StL K F H a vs) (l:Le F H F' H'):StL K F' H' a vs:=by
 rcases h with ⟨f,h⟩ | h
 ·exact .inl ⟨(l.f a f).1,FL.Rd.same h (l.f a f).2⟩
 ·exact .inr h
theorem StT.le (h:StT K F H a vs) (l:Le F H F' H'):StT K F' H' a vs:=⟨rfl,(l.f a h.2.1).1,(l.f a h.2.1).2.trans h.2.2⟩
end
section
variable (K:PySem.W.Frag) (F:Wd) (H:Hp)
mutual
def Bj:T->V->Prop
 | .non,v=>v=.non
 | .bl b,v=>v=.bl b
 | .int i,v=>v=.int i
 | .str x,v=>v=.str x
 | .tup ts,v=>∃ a vs,v=.ref a/\StT K F H a vs/\Ao ts vs
 | .lst ts,v=>∃ a vs,v=.ref a/\F a/\H a=some (.lst vs)/\Ao ts vs
 | .scr ts,v=>∃ a vs,v=.ref a/\StL K F H a vs/\Ao ts vs
 | .dK ks ts,v=>∃ a kvs,v=.ref a/\F a/\Rd H a (.dK kvs)/\kvs.map (·.1)=ks/\Ao ts (kvs.map (·.2))
 | .dT ks ts,v=>∃ a kvs,v=.ref a/\F a/\H a=some (.dT kvs)/\kvs.map (·.1)=ks/\Ao ts (kvs.map (·.2))
 | .ins C fs ts,v=>∃ a dx kvs,v=.ref a/\F a/\H a=some (.ins C dx kvs)/\kvs.map (·.1)=fs/\Ao ts (kvs.map (·.2))
 | .dF ks ts,v=>∃ a kvs,v=.ref a/\F a/\(∃ o,H a=some (.frz o (.dK kvs)))/\kvs.map (·.1)=ks/\Ao ts (kvs.map (·.2))
def Ao:List T->List V->Prop
 | [],vs=>vs=[]
 | t :: ts,vs=>∃ v r,vs=v :: r/\Bj t v/\Ao ts r
end
mutual
def Bf:FO->V->List Addr->Prop
 | .val t,v,L=>L=[]/\Bj K F H t v
 | .lst ts,v,L=>∃ a vs,v=.ref a/\H a=some (.lst vs)/\Ao K F H ts vs/\L=[a]
 | .dK ks ts,v,L=>∃ a kvs,v=.ref a/\H a=some (.dK kvs)/\kvs.map (·.1)=ks/\Ao K F H ts (kvs.map (·.2))/\L=[a]
 | .dT ks ts,v,L=>∃ a kvs,v=.ref a/\H a=some (.dT kvs)/\kvs.map (·.1)=ks/\Ao K F H ts (kvs.map (·.2))/\L=[a]
 | .ins C fs os,v,L=>∃ a dx kvs L',v=.ref a/\H a=some (.ins C dx kvs)/\kvs.map (·.1)=fs/\BM os (kvs.map (·.2)) L'/\L=a :: L'
def BM:List FO->List V->List Addr->Prop
 | [],vs,L=>vs=[]/\L=[]
 | o :: os,vs,L=>∃ v r L1 L2,vs=v :: r/\Bf o v L1/\BM os r L2/\L=L1++L2
end
mutual
def toT:FO->T
 | .val t=>t
 | .lst ts=>.lst ts
 | .dK ks ts=>.dK ks ts
 | .dT ks ts=>.dT ks ts
 | .ins C fs os=>.ins C fs (toTs os)
def toTs:List FO->List T
 | []=>[]
 | o :: os=>toT o :: toTs os
end
def AI:FS->St->List Addr->Prop
 | [],σ,L=>σ=[]/\L=[]
 | none :: r,σ,L=>∃ v σ',σ=v :: σ'/\AI r σ' L
 | some (.val t) :: r,σ,L=>∃ v σ',σ=some v :: σ'/\Bj K F H t v/\AI r σ' L
 | some (.own o) :: r,σ,L=>∃ v σ' L1 L2,σ=some v :: σ'/\Bf K F H o v L1/\AI r σ' L2/\L=L1++L2
 | some (.bor o) :: r,σ,L=>∃ v σ' L1 L2,σ=some v :: σ'/\Bf K F H o v L1/\AI r σ' L2/\L=L1++L2
end
section
variable {K:PySem.W.Frag} {F F':Wd} {H H':Hp}
mutual
theorem Bj.le (l:Le F H F' H'):∀ {t:T} {v:V},Bj K F H t v->Bj K F' H' t v
 | .non,_,h=>h
 | .bl _,_,h=>h
 | .int _,_,h=>h
 | .str _,_,h=>h
 | .tup ts,_,h=>by
  simp only [Bj] at h ⊢
  obtain ⟨a,vs,e,s,r⟩:=h
  exact ⟨a,vs,e,s.le l,Ao.le l r⟩
 | .lst ts,_,h=>by
  simp only [Bj] at h ⊢
  obtain ⟨a,vs,e,f,s,r⟩:=h
  exact ⟨a,vs,e,(l.f a f).1,(l.f a f).2.trans s,Ao.le l r⟩
 | .scr ts,_,h=>by
  simp only [Bj] at h ⊢
  obtain ⟨a,vs,e,s,r⟩:=h
  exact ⟨a,vs,e,s.le l,Ao.le l r⟩
 | .dK ks ts,_,h=>by
  simp only [Bj] at h ⊢
  obtain ⟨a,kvs,e,f,s,k,r⟩:=h
  exact ⟨a,kvs,e,(l.f a f).1,FL.Rd.same s (l.f a f).2,k,Ao.le l r⟩
 | .dT ks ts,_,h=>by
  simp only [Bj] at h ⊢
  obtain ⟨a,kvs,e,f,s,k,r⟩:=h
  exact ⟨a,kvs,e,(l.f a f).1,(l.f a f).2.trans s,k,Ao.le l r⟩
 | .ins C fs ts,_,h=>by
  simp only [Bj] at h ⊢
  obtain ⟨a,dx,kvs,e,f,s,k,r⟩:=h
  exact ⟨a,dx,kvs,e,(l.f a f).1,(l.f a f).2.trans s,k,Ao.le l r⟩
 | .dF ks ts,_,h=>by
  simp only [Bj] at h ⊢
  obtain ⟨a,kvs,e,f,⟨o,s⟩,k,r⟩:=h
  exact ⟨a,kvs,e,(l.f a f).1,⟨o,(l.f a f).2.trans s⟩,k,Ao.le l r⟩
theorem Ao.le (l:Le F H F' H'):∀ {ts:List T} {vs:List V},Ao K F H ts vs->Ao K F' H' ts vs
 | [],_,h=>h
 | t :: ts,_,h=>by
  simp only [Ao] at h ⊢
  obtain ⟨v,r,e,h1,h2⟩:=h
  exact ⟨v,r,e,Bj.le l h1,Ao.le l h2⟩
end
theorem Ao.len:∀ {ts:List T} {vs:List V},Ao K F H ts vs->vs.length=ts.length
 | [],_,h=>by simp only [Ao] at h;subst h;rfl
 | t :: ts,_,h=>by
  simp only [Ao] at h
  obtain ⟨v,r,rfl,_,h2⟩:=h
  simp [Ao.len h2]
theorem Ao.at:∀ {ts:List T} {vs:List V} {i:Nat} {t:T},Ao K F H ts vs->ts[i]?=some t->∃ v,vs[i]?=some v/\Bj K F H t v
 | [],_,_,_,_,e=>by simp at e
 | t :: ts,_,0,_,h,e=>by
  simp only [Ao] at h
  obtain ⟨v,r,rfl,h1,_⟩:=h
  simp at e;subst e
  exact ⟨v,rfl,h1⟩
 | t :: ts,_,i+1,_,h,e=>by
  simp only [Ao] at h
  obtain ⟨v,r,rfl,_,h2⟩:=h
  obtain ⟨u,e1,e2⟩:=Ao.at (i:=i) h2 (by simpa using e)
  exact ⟨u,by simpa using e1,e2⟩
theorem Ao.app:∀ {ts us:List T} {vs ws:List V},Ao K F H ts vs->Ao K F H us ws->Ao K F H (ts++us) (vs++ws)
 | [],_,_,_,h,h'=>by simp only [Ao] at h;subst h;exact h'
 | t :: ts,us,_,ws,h,h'=>by
  simp only [Ao] at h
  obtain ⟨v,r,rfl,h1,h2⟩:=h
  show Ao K F H (t :: (ts++us)) (v :: (r++ws))
  simp only [Ao]
  exact ⟨v,r++ws,rfl,h1,Ao.app h2 h'⟩
theorem Ao.one {t:T} {v:V} (h:Bj K F H t v):Ao K F H [t] [v]:=by
 simp only [Ao]
 exact ⟨v,[],rfl,h,rfl⟩
theorem Ao.take:∀ {ts:List T} {vs:List V} (n:Nat),Ao K F H ts vs->Ao K F H (ts.take n) (vs.take n)
 | [],_,n,h=>by simp only [Ao] at h;subst h;simp [Ao]
 | t :: ts,_,0,h=>by simp [Ao]
 | t :: ts,_,n+1,h=>by
  simp only [Ao] at h
  obtain ⟨v,r,rfl,h1,h2⟩:=h
  simp only [List.take_succ_cons,Ao]
  exact ⟨v,_,rfl,h1,Ao.take n h2⟩
theorem Ao.drop:∀ {ts:List T} {vs:List V} (n:Nat),Ao K F H ts vs->Ao K F H (ts.drop n) (vs.drop n)
 | [],_,n,h=>by simp only [Ao] at h;subst h;simp [Ao]
 | t :: ts,_,0,h=>by simpa using h
 | t :: ts,_,n+1,h=>by
  simp only [Ao] at h
  obtain ⟨v,r,rfl,h1,h2⟩:=h
  simp only [List.drop_succ_cons]
  exact Ao.drop n h2
theorem Ao.set {t:T} {v:V} (q:Bj K F H t v):∀ {ts:List T} {vs:List V} (n:Nat),Ao K F H ts vs->Ao K F H (ts.set n t) (vs.set n v)
 | [],_,n,h=>by simp only [Ao] at h;subst h;simp [Ao]
 | u :: ts,_,0,h=>by
  simp only [Ao] at h
  obtain ⟨w,r,rfl,h1,h2⟩:=h
  simp only [List.set_cons_zero,Ao]
  exact ⟨v,r,rfl,q,h2⟩
 | u :: ts,_,n+1,h=>by
  simp only [Ao] at h
  obtain ⟨w,r,rfl,h1,h2⟩:=h
  simp only [List.set_cons_succ,Ao]
  exact ⟨w,_,rfl,h1,Ao.set q n h2⟩
theorem Ao.rev:∀ {ts:List T} {vs:List V},Ao K F H ts vs->Ao K F H ts.reverse vs.reverse
 | [],_,h=>by simp only [Ao] at h;subst h;simp [Ao]
 | t :: ts,_,h=>by
  simp only [Ao] at h
  obtain ⟨v,r,rfl,h1,h2⟩:=h
  rw [List.reverse_cons,List.reverse_cons]
  exact Ao.app (Ao.rev h2) (Ao.one h1)
mutual
theorem Bf.le (l:Le F H F' H'):∀ {o:FO} {v:V} {L:List Addr},(∀ a∈L,H' a=H a)->Bf K F H o v L->Bf K F' H' o v L
 | .val t,_,L,k,h=>by
  simp only [Bf] at h ⊢
  exact ⟨h.1,h.2.le l⟩
 | .lst ts,_,L,k,h=>by
  simp only [Bf] at h ⊢
  obtain ⟨a,vs,e,s,r,rfl⟩:=h
  exact ⟨a,vs,e,(k a (by simp)).trans s,r.le l,rfl⟩
 | .dK ks ts,_,L,k,h=>by
  simp only [Bf] at h ⊢
  obtain ⟨a,vs,e,s,q,r,rfl⟩:=h
  exact ⟨a,vs,e,(k a (by simp)).trans s,q,r.le l,rfl⟩
 | .dT ks ts,_,L,k,h=>by
  simp only [Bf] at h ⊢
  obtain ⟨a,vs,e,s,q,r,rfl⟩:=h
  exact ⟨a,vs,e,(k a (by simp)).trans s,q,r.le l,rfl⟩
 | .ins C fs os,_,L,k,h=>by
  simp only [Bf] at h ⊢
  obtain ⟨a,dx,kvs,L',e,s,q,r,rfl⟩:=h
  exact ⟨a,dx,kvs,L',e,(k a (by simp)).trans s,q,BM.le l (fun b hb=>k b (List.mem_cons_of_mem _ hb)) r,rfl⟩
theorem BM.le (l:Le F H F' H'):∀ {os:List FO} {vs:List V} {L:List Addr},(∀ a∈L,H' a=H a)->BM K F H os vs L->BM K F' H' os vs L
 | [],_,L,k,h=>h
 | o :: os,_,L,k,h=>by
  simp only [BM] at h ⊢
  obtain ⟨v,r,L1,L2,e,h1,h2,rfl⟩:=h
  exact ⟨v,r,L1,L2,e,Bf.le l (fun a ha=>k a (List.mem_append_left _ ha)) h1,BM.le l (fun a ha=>k a (List.mem_append_right _ ha)) h2,rfl⟩
end
mutual
theorem Bf.def:∀ {o:FO} {v:V} {L:List Addr},Bf K F H o v L->∀ a∈L,H a≠none
 | .val t,_,L,h,a,m=>by
  simp only [Bf] at h
  rw [h.1] at m
  cases m
 | .lst ts,_,L,h,a,m=>by
  simp only [Bf] at h
  obtain ⟨b,vs,e,s,r,rfl⟩:=h
  rw [List.mem_singleton.mp m,s]
  simp
 | .dK ks ts,_,L,h,a,m=>by
  simp only [Bf] at h
  obtain ⟨b,vs,e,s,q,r,rfl⟩:=h
  rw [List.mem_singleton.mp m,s]
  simp
 | .dT ks ts,_,L,h,a,m=>by
  simp only [Bf] at h
  obtain ⟨b,vs,e,s,q,r,rfl⟩:=h
  rw [List.mem_singleton.mp m,s]
  simp
 | .ins C fs os,_,L,h,a,m=>by
  simp only [Bf] at h
  obtain ⟨b,dx,kvs,L',e,s,q,r,rfl⟩:=h
  rcases List.mem_cons.mp m with m | m
  ·rw [m,s]
   simp
  ·exact BM.def r a m
theorem BM.def:∀ {os:List FO} {vs:List V} {L:List Addr},BM K F H os vs L->∀ a∈L,H a≠none
 | [],_,L,h,a,m=>by
  simp only [BM] at h
  rw [h.2] at m
  cases m
 | o :: os,_,L,h,a,m=>by
  simp only [BM] at h
  obtain ⟨v,r,L1,L2,e,h1,h2,rfl⟩:=h
  rcases List.mem_append.mp m with m | m
  ·exact Bf.def h1 a m
  ·exact BM.def h2 a m
end
mutual
theorem Bf.frz (l:Le F H F' H):∀ {o:FO} {v:V} {L:List Addr},(∀ a∈L,F' a)->Bf K F H o v L->Bj K F' H (toT o) v
 | .val t,_,L,k,h=>by
  simp only [Bf] at h
  exact Bj.le l h.2
 | .lst ts,_,L,k,h=>by
  simp only [Bf] at h
  obtain ⟨a,vs,e,s,r,rfl⟩:=h
  simp only [toT,Bj]
  exact ⟨a,vs,e,k a (by simp),s,Ao.le l r⟩
 | .dK ks ts,_,L,k,h=>by
  simp only [Bf] at h
  obtain ⟨a,vs,e,s,q,r,rfl⟩:=h
  simp only [toT,Bj]
  exact ⟨a,vs,e,k a (by simp),.inl s,q,Ao.le l r⟩
 | .dT ks ts,_,L,k,h=>by
  simp only [Bf] at h
  obtain ⟨a,vs,e,s,q,r,rfl⟩:=h
  simp only [toT,Bj]
  exact ⟨a,vs,e,k a (by simp),s,q,Ao.le l r⟩
 | .ins C fs os,_,L,k,h=>by
  simp only [Bf] at h
  obtain ⟨a,dx,kvs,L',e,s,q,r,rfl⟩:=h
  simp only [toT,Bj]
  exact ⟨a,dx,kvs,e,k a (by simp),s,q,BM.frz l (fun b hb=>k b (List.mem_cons_of_mem _ hb)) r⟩
theorem BM.frz (l:Le F H F' H):∀ {os:List FO} {vs:List V} {L:List Addr},(∀ a∈L,F' a)->BM K F H os vs L->Ao K F' H (toTs os) vs
 | [],_,L,k,h=>by
  simp only [BM] at h
  simp only [toTs,Ao]
  exact h.1
 | o :: os,_,L,k,h=>by
  simp only [BM] at h
  obtain ⟨v,r,L1,L2,e,h1,h2,rfl⟩:=h
  simp only [toTs,Ao]
  exact ⟨v,r,e,Bf.frz l (fun a ha=>k a (List.mem_append_left _ ha)) h1,BM.frz l (fun a ha=>k a (List.mem_append_right _ ha)) h2⟩
end
theorem AI.len:∀ {fs:FS} {σ:St} {L:List Addr},AI K F H fs σ L->σ.length=fs.length
 | [],_,_,h=>by simp only [AI] at h;rw [h.1];rfl
 | none :: r,_,_,h=>by
  simp only [AI] at h
  obtain ⟨v,σ',rfl,h⟩:=h
  simp [AI.len h]
 | some (.val t) :: r,_,_,h=>by
  simp only [AI] at h
  obtain ⟨v,σ',rfl,_,h⟩:=h
  simp [AI.len h]
 | some (.own t) :: r,_,_,h=>by
  simp only [AI] at h
  obtain ⟨v,σ',L1,L2,rfl,_,h,_⟩:=h
  simp [AI.len h]
 | some (.bor t) :: r,_,_,h=>by
  simp only [AI] at h
  obtain ⟨v,σ',L1,L2,rfl,_,h,_⟩:=h
  simp [AI.len h]
theorem AI.le (l:Le F H F' H'):∀ {fs:FS} {σ:St} {L:List Addr},(∀ a∈L,H' a=H a)->AI K F H fs σ L->AI K F' H' fs σ L
 | [],_,_,k,h=>h
 | none :: r,_,_,k,h=>by
  simp only [AI] at h ⊢
  obtain ⟨v,σ',e,h⟩:=h
  exact ⟨v,σ',e,AI.le l k h⟩
 | some (.val t) :: r,_,_,k,h=>by
  simp only [AI] at h ⊢
  obtain ⟨v,σ',e,q,h⟩:=h
  exact ⟨v,σ',e,q.le l,AI.le l k h⟩
 | some (.own t) :: r,_,_,k,h=>by
  simp only [AI] at h ⊢
  obtain ⟨v,σ',L1,L2,e,q,h,rfl⟩:=h
  exact ⟨v,σ',L1,L2,e,q.le l fun a ha=>k a (List.mem_append_left _ ha),AI.le l (fun a ha=>k a (List.mem_append_right _ ha)) h,rfl⟩
 | some (.bor t) :: r,_,_,k,h=>by
  simp only [AI] at h ⊢
  obtain ⟨v,σ',L1,L2,e,q,h,rfl⟩:=h
  exact ⟨v,σ',L1,L2,e,q.le l fun a ha=>k a (List.mem_append_left _ ha),AI.le l (fun a ha=>k a (List.mem_append_right _ ha)) h,rfl⟩
theorem AI.def:∀ {fs:FS} {σ:St} {L:List Addr},AI K F H fs σ L->∀ a∈L,H a≠none
 | [],_,_,h,a,m=>by simp only [AI] at h;rw [h.2] at m;cases m
 | none :: r,_,_,h,a,m=>by
  simp only [AI] at h
  obtain ⟨v,σ',e,h⟩:=h
  exact AI.def h a m
 | some (.val t) :: r,_,_,h,a,m=>by
  simp only [AI] at h
  obtain ⟨v,σ',e,q,h⟩:=h
  exact AI.def h a m
 | some (.own t) :: r,_,_,h,a,m=>by
  simp only [AI] at h
  obtain ⟨v,σ',L1,L2,e,q,h,rfl⟩:=h
  rcases List.mem_append.mp m with m | m
  ·exact q.def a m
  ·exact AI.def h a m
 | some (.bor t) :: r,_,_,h,a,m=>by
  simp only [AI] at h
  obtain ⟨v,σ',L1,L2,e,q,h,rfl⟩:=h
  rcases List.mem_append.mp m with m | m
  ·exact q.def a m
  ·exact AI.def h a m
def SlOk (K:PySem.W.Frag) (F:Wd) (H:Hp):Option Sl->Option V->List Addr->Prop
 | none,_,L=>L=[]
 | some (.val t),v,L=>∃ u,v=some u/\Bj K F H t u/\L=[]
 | some (.own o),v,L=>∃ u,v=some u/\Bf K F H o u L
 | some (.bor o),v,L=>∃ u,v=some u/\Bf K F H o u L
theorem AI.cons {s:Option Sl} {r:FS} {v:Option V} {σ:St} {L1 L2:List Addr} (h1:SlOk K F H s v L1) (h2:AI K F H r σ L2):AI K F H (s :: r) (v :: σ) (L1++L2):=by
 cases s with
 | none =>
  simp only [SlOk] at h1
  subst h1
  simp only [AI]
  exact ⟨v,σ,rfl,h2⟩
 | some s =>
  cases s with
  | val t =>
   simp only [SlOk] at h1
   obtain ⟨u,rfl,q,rfl⟩:=h1
   simp only [AI]
   exact ⟨u,σ,rfl,q,h2⟩
  | own o =>
   simp only [SlOk] at h1
   obtain ⟨u,rfl,q⟩:=h1
   simp only [AI]
   exact ⟨u,σ,L1,L2,rfl,q,h2,rfl⟩
  | bor o =>
   simp only [SlOk] at h1
   obtain ⟨u,rfl,q⟩:=h1
   simp only [AI]
   exact ⟨u,σ,L1,L2,rfl,q,h2,rfl⟩
theorem AI.uncons {s:Option Sl} {r:FS} {σ:St} {L:List Addr} (h:AI K F H (s :: r) σ L):∃ v σ' L1 L2,σ=v :: σ'/\SlOk K F H s v L1/\AI K F H r σ' L2/\L=L1++L2:=by
 cases s with
 | none =>
  simp only [AI] at h
  obtain ⟨v,σ',rfl,h⟩:=h
  exact ⟨v,σ',[],L,rfl,rfl,h,rfl⟩
 | some s =>
  cases s with
  | val t =>
   simp only [AI] at h
   obtain ⟨v,σ',rfl,q,h⟩:=h
   exact ⟨some v,σ',[],L,rfl,⟨v,rfl,q,rfl⟩,h,rfl⟩
  | own o =>
   simp only [AI] at h
   obtain ⟨v,σ',L1,L2,rfl,q,h,rfl⟩:=h
   exact ⟨some v,σ',L1,L2,rfl,⟨v,rfl,q⟩,h,rfl⟩
  | bor o =>
   simp only [AI] at h
   obtain ⟨v,σ',L1,L2,rfl,q,h,rfl⟩:=h
   exact ⟨some v,σ',L1,L2,rfl,⟨v,rfl,q⟩,h,rfl⟩
theorem AI.pick:∀ {fs:FS} {σ:St} {L:List Addr} {i:Nat} {s:Option Sl},AI K F H fs σ L->fs[i]?=some s->∃ v L1 L2 L3,σ[i]?=some v/\L=L1++(L2++L3)/\SlOk K F H s v L2 /\
  ∀ (F':Wd) (H':Hp) (s':Option Sl) (v':Option V) (L2':List Addr),Le F H F' H'->(∀ a∈L1++L3,H' a=H a)->SlOk K F' H' s' v' L2'->AI K F' H' (fs.set i s') (σ.set i v') (L1++(L2'++L3))
 | [],_,_,_,_,_,e=>by simp at e
 | s :: r,_,_,0,_,h,e=>by
  obtain ⟨v,σ',L1,L2,rfl,h1,h2,rfl⟩:=h.uncons
  simp at e
  subst e
  refine ⟨v,[],L1,L2,rfl,rfl,h1,fun F' H' s' v' L2' l k q=>?_⟩
  have h3:=AI.cons q (h2.le l fun a ha=>k a (by simpa using ha))
  exact h3
 | s :: r,_,_,i+1,_,h,e=>by
  obtain ⟨v,σ',L1,L2,rfl,h1,h2,rfl⟩:=h.uncons
  obtain ⟨w,M1,M2,M3,e1,rfl,h3,h4⟩:=AI.pick (i:=i) h2 (by simpa using e)
  refine ⟨w,L1++M1,M2,M3,by simpa using e1,by simp,h3,fun F' H' s' v' L2' l k q=>?_⟩
  have h5:=h4 F' H' s' v' L2' l (fun a ha=>k a (by simp at ha ⊢;rcases ha with ha | ha;exact .inr (.inl ha);exact .inr (.inr ha))) q
  have h6:SlOk K F' H' s v L1:=by
   cases s with
   | none=>exact h1
   | some s =>
    cases s with
    | val t =>
     obtain ⟨u,e,q,z⟩:=h1
     exact ⟨u,e,q.le l,z⟩
    | own o =>
     obtain ⟨u,e,q⟩:=h1
     exact ⟨u,e,q.le l fun a ha=>k a (by simp [ha])⟩
    | bor o =>
     obtain ⟨u,e,q⟩:=h1
     exact ⟨u,e,q.le l fun a ha=>k a (by simp [ha])⟩
  have h7:=AI.cons h6 h5
  simpa using h7
mutual
theorem Bj.wp {p:Addr->Prop}:∀ {t:T} {v:V},Bj K F H t v->Bj K ⟨F.f,p⟩ H t v
 | .non,_,h=>h
 | .bl _,_,h=>h
 | .int _,_,h=>h
 | .str _,_,h=>h
 | .tup ts,_,h=>by
  simp only [Bj] at h ⊢
  obtain ⟨a,vs,e,s,r⟩:=h
  exact ⟨a,vs,e,s,Ao.wp r⟩
 | .lst ts,_,h=>by
  simp only [Bj] at h ⊢
  obtain ⟨a,vs,e,f,s,r⟩:=h
  exact ⟨a,vs,e,f,s,Ao.wp r⟩
 | .scr ts,_,h=>by
  simp only [Bj] at h ⊢
  obtain ⟨a,vs,e,s,r⟩:=h
  exact ⟨a,vs,e,s,Ao.wp r⟩
 | .dK ks ts,_,h=>by
  simp only [Bj] at h ⊢
  obtain ⟨a,kvs,e,f,s,k,r⟩:=h
  exact ⟨a,kvs,e,f,s,k,Ao.wp r⟩
 | .dT ks ts,_,h=>by
  simp only [Bj] at h ⊢
  obtain ⟨a,kvs,e,f,s,k,r⟩:=h
  exact ⟨a,kvs,e,f,s,k,Ao.wp r⟩
 | .ins C fs ts,_,h=>by
  simp only [Bj] at h ⊢
  obtain ⟨a,dx,kvs,e,f,s,k,r⟩:=h
  exact ⟨a,dx,kvs,e,f,s,k,Ao.wp r⟩
 | .dF ks ts,_,h=>by
  simp only [Bj] at h ⊢
  obtain ⟨a,kvs,e,f,s,k,r⟩:=h
  exact ⟨a,kvs,e,f,s,k,Ao.wp r⟩
theorem Ao.wp {p:Addr->Prop}:∀ {ts:List T} {vs:List V},Ao K F H ts vs->Ao K ⟨F.f,p⟩ H ts vs
 | [],_,h=>h
 | t :: ts,_,h=>by
  simp only [Ao] at h ⊢
  obtain ⟨v,r,e,h1,h2⟩:=h
  exact ⟨v,r,e,Bj.wp h1,Ao.wp h2⟩
end
mutual
theorem Bf.wp {p:Addr->Prop}:∀ {o:FO} {v:V} {L:List Addr},Bf K F H o v L->Bf K ⟨F.f,p⟩ H o v L
 | .val t,_,L,h=>by
  simp only [Bf] at h ⊢
  exact ⟨h.1,h.2.wp⟩
 | .lst ts,_,L,h=>by
  simp only [Bf] at h ⊢
  obtain ⟨a,vs,e,s,r,q⟩:=h
  exact ⟨a,vs,e,s,r.wp,q⟩
 | .dK ks ts,_,L,h=>by
  simp only [Bf] at h ⊢
  obtain ⟨a,vs,e,s,q,r,z⟩:=h
  exact ⟨a,vs,e,s,q,r.wp,z⟩
 | .dT ks ts,_,L,h=>by
  simp only [Bf] at h ⊢
  obtain ⟨a,vs,e,s,q,r,z⟩:=h
  exact ⟨a,vs,e,s,q,r.wp,z⟩
 | .ins C fs os,_,L,h=>by
  simp only [Bf] at h ⊢
  obtain ⟨a,dx,kvs,L',e,s,q,r,z⟩:=h
  exact ⟨a,dx,kvs,L',e,s,q,BM.wp r,z⟩
theorem BM.wp {p:Addr->Prop}:∀ {os:List FO} {vs:List V} {L:List Addr},BM K F H os vs L->BM K ⟨F.f,p⟩ H os vs L
 | [],_,L,h=>h
 | o :: os,_,L,h=>by
  simp only [BM] at h ⊢
  obtain ⟨v,r,L1,L2,e,h1,h2,z⟩:=h
  exact ⟨v,r,L1,L2,e,Bf.wp h1,BM.wp h2,z⟩
end
theorem AI.wp {p:Addr->Prop}:∀ {fs:FS} {σ:St} {L:List Addr},AI K F H fs σ L->AI K ⟨F.f,p⟩ H fs σ L
 | [],_,_,h=>h
 | none :: r,_,_,h=>by
  simp only [AI] at h ⊢
  obtain ⟨v,σ',e,h⟩:=h
  exact ⟨v,σ',e,AI.wp h⟩
 | some (.val t) :: r,_,_,h=>by
  simp only [AI] at h ⊢
  obtain ⟨v,σ',e,q,h⟩:=h
  exact ⟨v,σ',e,q.wp,AI.wp h⟩
 | some (.own t) :: r,_,_,h=>by
  simp only [AI] at h ⊢
  obtain ⟨v,σ',L1,L2,e,q,h,z⟩:=h
  exact ⟨v,σ',L1,L2,e,q.wp,AI.wp h,z⟩
 | some (.bor t) :: r,_,_,h=>by
  simp only [AI] at h ⊢
  obtain ⟨v,σ',L1,L2,e,q,h,z⟩:=h
  exact ⟨v,σ',L1,L2,e,q.wp,AI.wp h,z⟩
theorem SlOk.le (l:Le F H F' H') {s:Option Sl} {v:Option V} {L:List Addr} (k:∀ a∈L,H' a=H a) (h:SlOk K F H s v L):SlOk K F' H' s v L:=by
 cases s with
 | none=>exact h
 | some s =>
  cases s with
  | val t =>
   obtain ⟨u,e,q,z⟩:=h
   exact ⟨u,e,q.le l,z⟩
  | own o =>
   obtain ⟨u,e,q⟩:=h
   exact ⟨u,e,q.le l k⟩
  | bor o =>
   obtain ⟨u,e,q⟩:=h
   exact ⟨u,e,q.le l k⟩
end
end FL
namespace FL
open PySem PySem.Spec L2
def BorOk (B:Nat->Option V) (fs:FS) (σ:St):Prop:=∀ (i:Nat) (o:FO),fs[i]?=some (some (.bor o))->∃ v,σ[i]?=some (some v)/\B i=some v
structure Ok (K:PySem.W.Frag) (F:Wd) (B:Nat->Option V) (H:Hp) (fs:FS) (σ:St) (L:List Addr):Prop where
 sl:AI K F H fs σ L
 nd:L.Nodup
 nf:∀ a∈L,¬ F a
 fd:∀ a,F a->H a≠none
 bo:BorOk B fs σ
 pd:∀ a,F.p a->H a≠none
 pf:∀ a,F a->¬ F.p a
 pl:∀ a∈L,¬ F.p a
def Okk (K:PySem.W.Frag) (F:Wd) (B:Nat->Option V) (H:Hp) (fs:FS) (σ:St):Prop:=∃ L,Ok K F B H fs σ L
structure Xp where
 p:Wd->(Nat->Option V)->Hp->Str->FS->Prop
 mono:∀ {F:Wd} {B:Nat->Option V} {H:Hp} {c:Str} {fs:FS} {F':Wd} {H':Hp},p F B H c fs->Le F H F' H'->p F' B H' c fs
def Xp.no:Xp:=⟨fun _ _ _ _ _=>False,fun h _=>h⟩
def sat (Z:Xp) (B:Nat->Option V) {α β:Type} (R:Wd->Hp->FS->α->β->Prop) (F:Wd) (H:Hp) (o:Out α) (Q:β->Hp->Prop):Prop :=
 match o with
 | .ok a fs=>∀ F' H' b,Le F H F' H'->R F' H' fs a b->Q b H'
 | .exc c fs=>Z.p F B H c fs
 | .bad=>False
theorem sat.le {Z:Xp} {B:Nat->Option V} {α β:Type} {R:Wd->Hp->FS->α->β->Prop} {F F':Wd} {H H':Hp} {o:Out α} {Q:β->Hp->Prop} (h:sat Z B R F H o Q) (l:Le F H F' H'):sat Z B R F' H' o Q:=by
 cases o with
 | ok a fs=>exact fun F2 H2 b l2 r=>h F2 H2 b (l.trans l2) r
 | exc c fs=>exact Z.mono h l
 | bad=>exact h
def Out.bind {α β:Type} (o:Out α) (k:α->FS->Out β):Out β:=match o with
 | .ok a fs=>k a fs
 | .exc c fs=>.exc c fs
 | .bad=>.bad
theorem A2 {Z:Xp} {B:Nat->Option V} {α β γ δ:Type} {R1:Wd->Hp->FS->α->β->Prop} {R2:Wd->Hp->FS->γ->δ->Prop} {F:Wd} {H:Hp} {o:Out α} {k:α->FS->Out γ} {Q:δ->Hp->Prop} {Q':β->Hp->Prop}
  (h:sat Z B R2 F H (o.bind k) Q) (hk:∀ a fs F' H' b,Le F H F' H'->R1 F' H' fs a b->sat Z B R2 F' H' (k a fs) Q->Q' b H'):sat Z B R1 F H o Q':=by
 cases o with
 | ok a fs=>exact fun F2 H2 b l r=>hk a fs F2 H2 b l r (sat.le h l)
 | exc c fs=>exact h
 | bad=>exact h
def RelR (K:PySem.W.Frag) (F:Wd) (H:Hp) (σ:St):Rv->V->List Addr->Prop
 | .t t,v,L=>L=[]/\Bj K F H t v
 | .nw o,v,L=>Bf K F H o v L
 | .rf i,v,L=>L=[]/\σ[i]?=some (some v)
def RR (K:PySem.W.Frag) (B:Nat->Option V) (σ:St):Wd->Hp->FS->Rv->V->Prop:=fun F H fs r u=>∃ L L',Ok K F B H fs σ L/\RelR K F H σ r u L'/\(L++L').Nodup/\∀ a∈L',¬ F a/\¬ F.p a
def Di (K:PySem.W.Frag) (F:Wd) (H:Hp) (σ:St):Rv->V->Prop
 | .t t,v=>Bj K F H t v
 | .nw _,_=>False
 | .rf i,v=>σ[i]?=some (some v)
def Out.bnd {α:Type} (o:Out Rv) (k:Rv->FS->Out α):Out α:=o.bind fun r fs=>match r with
 | .nw _=>.bad
 | .t t=>k (.t t) fs
 | .rf i=>k (.rf i) fs
section
variable {K:PySem.W.Frag} {Z:Xp} {B:Nat->Option V} {F F':Wd} {H H':Hp} {σ:St} {fs:FS} {r:Rv} {u:V}
theorem Di.le (h:Di K F H σ r u) (l:Le F H F' H'):Di K F' H' σ r u:=by
 cases r with
 | t t=>exact Bj.le l h
 | nw o=>exact h
 | rf i=>exact h
theorem RR.of (h:Okk K F B H fs σ) (q:Di K F H σ r u):RR K B σ F H fs r u:=by
 obtain ⟨L,h⟩:=h
 refine ⟨L,[],h,?_,by simpa using h.nd,(fun _ m=>nomatch m)⟩
 cases r with
 | t t=>exact ⟨rfl,q⟩
 | nw o=>exact q.elim
 | rf i=>exact ⟨rfl,q⟩
theorem RR.ok (h:RR K B σ F H fs r u):Okk K F B H fs σ:=let ⟨L,_,h,_⟩:=h;⟨L,h⟩
theorem Bb {γ δ:Type} {R2:Wd->Hp->FS->γ->δ->Prop} {o:Out Rv} {k:Rv->FS->Out γ} {Q:δ->Hp->Prop} {Q':V->Hp->Prop}
  (h:sat Z B R2 F H (o.bnd k) Q) (hk:∀ r fs F' H' u,Le F H F' H'->Okk K F' B H' fs σ->Di K F' H' σ r u->sat Z B R2 F' H' (k r fs) Q->Q' u H'):sat Z B (RR K B σ) F H o Q':=by
 refine A2 h fun r fs F' H' u l q s=>?_
 cases r with
 | t t =>
  obtain ⟨L,L',q1,q2,_⟩:=q
  exact hk (.t t) fs F' H' u l ⟨L,q1⟩ q2.2 s
 | nw o=>exact s.elim
 | rf i =>
  obtain ⟨L,L',q1,q2,_⟩:=q
  exact hk (.rf i) fs F' H' u l ⟨L,q1⟩ q2.2 s
end
def tF (K:PySem.W.Frag) (Z:Xp) (f:FS->Out Rv):TE:=fun σ H Q=>∃ F B fs,Okk K F B H fs σ/\sat Z B (RR K B σ) F H (f fs) Q
def RB (K:PySem.W.Frag) (B:Nat->Option V) (σ:St):Wd->Hp->FS->Bool->Bool->Prop:=fun F H fs b b'=>Okk K F B H fs σ/\b'=b
def tT (K:PySem.W.Frag) (Z:Xp) (f:FS->Out Bool):TT:=fun σ H Q=>∃ F B fs,Okk K F B H fs σ/\sat Z B (RB K B σ) F H (f fs) Q
def RelFs (K:PySem.W.Frag) (F:Wd) (H:Hp) (σ:St):List Rv->List V->Prop
 | [],vs=>vs=[]
 | r :: rs,vs=>∃ v w,vs=v :: w/\Di K F H σ r v/\RelFs K F H σ rs w
def RA (K:PySem.W.Frag) (B:Nat->Option V) (σ:St):Wd->Hp->FS->List Rv->List V->Prop:=fun F H fs rs vs=>Okk K F B H fs σ/\RelFs K F H σ rs vs
def tA (K:PySem.W.Frag) (Z:Xp) (f:FS->Out (List Rv)):TA:=fun σ H Q=>∃ F B fs,Okk K F B H fs σ/\sat Z B (RA K B σ) F H (f fs) Q
def FE (X:Cx) (Z:Xp) (e:Expr) (f:FS->Out Rv):Prop:=PE X e (tF X.K Z f)
def FT (X:Cx) (Z:Xp) (e:Expr) (f:FS->Out Bool):Prop:=PT X e (tT X.K Z f)
def FA (X:Cx) (Z:Xp) (es:List Expr) (f:FS->Out (List Rv)):Prop:=PA X es (tA X.K Z f)
theorem Bz {X:Cx} {e:Expr} {t t':TE} (h:PE X e t) (i:∀ σ H Q,t' σ H Q->t σ H Q):PE X e t':=fun pins s σ H Q I q=>h pins s σ H Q I (i _ _ _ q)
theorem pt_imp {X:Cx} {e:Expr} {t t':TT} (h:PT X e t) (i:∀ σ H Q,t' σ H Q->t σ H Q):PT X e t':=fun pins s σ H Q I q=>h pins s σ H Q I (i _ _ _ q)
theorem pa_imp {X:Cx} {e:List Expr} {t t':TA} (h:PA X e t) (i:∀ σ H Q,t' σ H Q->t σ H Q):PA X e t':=fun pos pins s σ H Q I q=>h pos pins s σ H Q I (i _ _ _ q)
theorem EG {X:Cx} {e:Stmt} {t t':TS} (h:PS X e t) (i:∀ D σ H,t' D σ H->t D σ H):PS X e t':=fun pins s σ H D I q=>h pins s σ H D I (i _ _ _ q)
theorem pss_imp {X:Cx} {e:List Stmt} {t t':TS} (h:PSs X e t) (i:∀ D σ H,t' D σ H->t D σ H):PSs X e t':=fun pins s σ H D I q=>h pins s σ H D I (i _ _ _ q)
section
variable {K:PySem.W.Frag} {B:Nat->Option V} {F:Wd} {H:Hp} {σ:St} {fs:FS} {p:Addr} {o:HO}
def addF (F:Wd) (p:Addr):Wd:=⟨fun a=>F a∨a=p,F.p⟩
theorem Ce (h:Okk K F B H fs σ) (hp:H p=none):Le F H (addF F p) (upd H p o) :=
 let ⟨_,h⟩:=h
 ⟨fun a f=>⟨.inl f,AG fun e=>h.fd a f (e▸hp)⟩,fun a f=>⟨f,AG fun e=>h.pd a f (e▸hp)⟩⟩
theorem Bp (h:Okk K F B H fs σ) (hp:H p=none):Le F H F (upd H p o) :=
 let ⟨_,h⟩:=h
 ⟨fun a f=>⟨f,AG fun e=>h.fd a f (e▸hp)⟩,fun a f=>⟨f,AG fun e=>h.pd a f (e▸hp)⟩⟩
theorem Ez {a:Addr} (h:H a≠none):upd H p o a≠none:=by
 by_cases e:a=p
 ·subst e
  rw [AV]
  simp
 ·rw [AG e]
  exact h
theorem Ok.keepL {L:List Addr} (h:Ok K F B H fs σ L) (hp:H p=none):∀ a∈L,(upd H p o) a=H a:=fun a m=>AG fun e=>h.sl.def a m (e▸hp)
theorem Okk.fd (h:Okk K F B H fs σ):∀ a,F a->H a≠none:=let ⟨_,h⟩:=h;h.fd
theorem Okk.alloc (h:Okk K F B H fs σ) (hp:H p=none):Okk K (addF F p) B (upd H p o) fs σ:=by
 obtain ⟨L,h⟩:=h
 refine ⟨L,h.sl.le (Ce ⟨L,h⟩ hp) (h.keepL hp),h.nd,fun a m q=>?_,fun a q=>?_,h.bo,fun a q=>Ez (h.pd a q),fun a q z=>?_,h.pl⟩
 rotate_left 2
 ·rcases q with q | q
  ·exact h.pf a q z
  ·exact h.pd a z (q▸hp)
 ·rcases q with q | q
  ·exact h.nf a m q
  ·exact h.sl.def a m (q▸hp)
 ·rcases q with q | q
  ·exact Ez (h.fd a q)
  ·rw [q,AV]
   simp
theorem RR.alloc {ob:FO} (h:Okk K F B H fs σ) (hp:H p=none) (q:Bf K F (upd H p o) ob (.ref p) [p]):RR K B σ F (upd H p o) fs (.nw ob) (.ref p):=by
 obtain ⟨L,h⟩:=h
 refine ⟨L,[p],⟨h.sl.le (Bp ⟨L,h⟩ hp) (h.keepL hp),h.nd,h.nf,fun a q=>Ez (h.fd a q),h.bo,fun a q=>Ez (h.pd a q),h.pf,h.pl⟩,q,?_,fun a m=>?_⟩
 ·rw [List.nodup_append]
  exact ⟨h.nd,by simp,fun a ma b mb e=>h.sl.def a ma (by rw [e,List.mem_singleton.mp mb];exact hp)⟩
 ·rw [List.mem_singleton.mp m]
  exact ⟨fun f=>h.fd p f hp,fun f=>h.pd p f hp⟩
end
def Sl.put:Sl->FO->Sl
 | .own _,o=>.own o
 | .bor _,o=>.bor o
 | .val t,_=>.val t
def A9 (fs:FS) (i:Nat):Option FO:=match fs[i]? with
 | some (some (.own o))=>some o
 | some (some (.bor o))=>some o
 | _=>none
def putAt (fs:FS) (i:Nat) (o:FO):FS:=match fs[i]? with
 | some (some s)=>fs.set i (some (s.put o))
 | _=>fs
section
variable {K:PySem.W.Frag} {B:Nat->Option V} {F F':Wd} {H H':Hp} {σ:St} {fs:FS} {i:Nat} {ob:FO}
theorem BorOk.put {s:Option Sl} {v:Option V} (h:BorOk B fs σ) (hs:∀ o,s=some (.bor o)->∃ u,v=some u/\B i=some u) (hl:σ.length=fs.length):BorOk B (fs.set i s) (σ.set i v):=by
 intro j o e
 by_cases hj:i=j
 ·subst hj
  have hi:i < fs.length:=by
   have:=(List.getElem?_eq_some_iff.mp e).1
   simpa using this
  rw [List.getElem?_set_self hi] at e
  obtain ⟨u,e1,e2⟩:=hs o (by simpa using e)
  exact ⟨u,by rw [List.getElem?_set_self (by omega),e1],e2⟩
 ·rw [List.getElem?_set_ne hj] at e
  obtain ⟨v,e1,e2⟩:=h j o e
  exact ⟨v,by rw [List.getElem?_set_ne hj];exact e1,e2⟩
theorem DQ {α:Type} {l:List α} {i:Nat} {x:α} (h:l[i]?=some x):l.set i x=l:=by
 apply List.ext_getElem?
 intro j
 by_cases hj:i=j
 ·subst hj
  rw [List.getElem?_set_self (List.getElem?_eq_some_iff.mp h).1,h]
 ·rw [List.getElem?_set_ne hj]
theorem Ea {L1 L2 L3 M:List Addr} (h:(L1++(L2++L3)).Nodup) (hm:M.Nodup) (d:∀ a∈M,a∉L1++L3):(L1++(M++L3)).Nodup:=by
 rw [List.nodup_append] at h ⊢
 obtain ⟨h1,h2,h3⟩:=h
 rw [List.nodup_append] at h2
 obtain ⟨h4,h5,h6⟩:=h2
 refine ⟨h1,?_,fun a ha b hb e=>?_⟩
 ·rw [List.nodup_append]
  exact ⟨hm,h5,fun a ha b hb e=>d a ha (by rw [e];exact List.mem_append_right _ hb)⟩
 ·rcases List.mem_append.mp hb with hb | hb
  ·exact d b hb (by rw [<- e];exact List.mem_append_left _ ha)
  ·exact h3 a ha b (List.mem_append_right _ hb) e
theorem Okk.own (h:Okk K F B H fs σ) (e:A9 fs i=some ob):∃ v L2,σ[i]?=some (some v)/\Bf K F H ob v L2/\(∀ a∈L2,¬ F a/\¬ F.p a)/\L2.Nodup /\
  ∀ ob' H',(∀ a,a∉L2->H a≠none->H' a=H a)->Bf K F H' ob' v L2->Okk K F B H' (putAt fs i ob') σ/\Le F H F H':=by
 obtain ⟨L,h⟩:=h
 have key:∀ s:Sl,fs[i]?=some (some s)->(s=.own ob∨s=.bor ob)->∃ v L2,σ[i]?=some (some v)/\Bf K F H ob v L2/\(∀ a∈L2,¬ F a/\¬ F.p a)/\L2.Nodup /\
  ∀ ob' H',(∀ a,a∉L2->H a≠none->H' a=H a)->Bf K F H' ob' v L2->Okk K F B H' (fs.set i (some (s.put ob'))) σ/\Le F H F H':=by
  intro s es ho
  obtain ⟨v,L1,L2,L3,e1,rfl,h1,h2⟩:=h.sl.pick es
  obtain ⟨u,rfl,q⟩:∃ u,v=some u/\Bf K F H ob u L2:=by
   rcases ho with rfl | rfl
   ·exact h1
   ·exact h1
  have nd:=h.nd
  have dis:∀ a∈L1++L3,a∉L2:=fun a ha hb=>by
   rw [List.nodup_append] at nd
   rcases List.mem_append.mp ha with ha | ha
   ·exact nd.2.2 a ha a (List.mem_append_left _ hb) rfl
   ·have:=(List.nodup_append.mp nd.2.1).2.2
    exact this a hb a ha rfl
  refine ⟨u,L2,e1,q,fun a m=>⟨h.nf a (by simp [m]),h.pl a (by simp [m])⟩,?_,fun ob' H' k q'=>?_⟩
  ·rw [List.nodup_append] at nd
   exact (List.nodup_append.mp nd.2.1).1
  ·have l:Le F H F H':=⟨fun a f=>⟨f,k a (fun m=>h.nf a (by simp [m]) f) (h.fd a f)⟩,fun a f=>⟨f,k a (fun m=>h.pl a (by simp [m]) f) (h.pd a f)⟩⟩
   refine ⟨⟨L1++(L2++L3),?_,nd,h.nf,fun a f=>by rw [(l.f a f).2];exact h.fd a f,?_,fun a f=>by rw [(l.p a f).2];exact h.pd a f,h.pf,h.pl⟩,l⟩
   ·have hL:∀ a∈L1++L3,H' a=H a:=fun a m=>k a (dis a m) (h.sl.def a (by
      rcases List.mem_append.mp m with m | m
      ·simp [m]
      ·simp [m]))
    have h3:=h2 F H' (some (s.put ob')) (some u) L2 l hL (by
     rcases ho with rfl | rfl
     ·exact ⟨u,rfl,q'⟩
     ·exact ⟨u,rfl,q'⟩)
    rwa [DQ e1] at h3
   ·have:=BorOk.put (i:=i) (s:=some (s.put ob')) (v:=some u) h.bo (fun o eo=>by
     rcases ho with rfl | rfl
     ·cases eo
     ·obtain ⟨w,e3,e4⟩:=h.bo i ob es
      rw [e1] at e3
      have e5:u=w:=by simpa using e3
      exact ⟨u,rfl,by rw [e5];exact e4⟩) h.sl.len
    rwa [DQ e1] at this
 unfold A9 at e
 split at e
 ·rename_i o es
  cases e
  obtain ⟨v,L2,a1,a2,a3,a4,a5⟩:=key _ es (.inl rfl)
  refine ⟨v,L2,a1,a2,a3,a4,fun ob' H' k q=>?_⟩
  have:=a5 ob' H' k q
  unfold putAt
  rw [es]
  exact this
 ·rename_i o es
  cases e
  obtain ⟨v,L2,a1,a2,a3,a4,a5⟩:=key _ es (.inr rfl)
  refine ⟨v,L2,a1,a2,a3,a4,fun ob' H' k q=>?_⟩
  have:=a5 ob' H' k q
  unfold putAt
  rw [es]
  exact this
 ·cases e
end
def Aa (i:Nat):FS->Out Rv:=fun fs=>match fs[i]? with
 | some (some (.val t))=>.ok (.t t) fs
 | some (some (.own _))=>.ok (.rf i) fs
 | some (some (.bor _))=>.ok (.rf i) fs
 | _=>.bad
def gc (t:T):FS->Out Rv:=fun fs=>.ok (.t t) fs
section
variable {X:Cx} {Z:Xp} {e:Expr}
theorem Aq (i:Nat) {x:Str} {pos:Pos} (hN:X.N[i]?=some x:=by rfl) (hv:Vis X.env.scope x:=by first | exact Or.inl rfl | exact Or.inr (Or.inl rfl) | exact Or.inr (Or.inr rfl)) (hd:(x == ("__debug__":Str))=false:=by decide)
  (hcd:(x == ("__classdict__":Str))=false:=by decide):FE X Z (.Name x pos) (Aa i):=by
 refine Bz (pv i hN hv hd hcd) fun σ H Q h=>?_
 obtain ⟨F,B,fs,ok,s⟩:=h
 obtain ⟨L,o⟩:=id ok
 unfold Aa at s
 split at s
 ·rename_i t es
  obtain ⟨v,L1,L2,L3,e1,_,h1,_⟩:=o.sl.pick es
  obtain ⟨u,rfl,q,_⟩:=h1
  exact ⟨u,e1,s F H u Le.refl (RR.of ok q)⟩
 ·rename_i t es
  obtain ⟨v,L1,L2,L3,e1,_,h1,_⟩:=o.sl.pick es
  obtain ⟨u,rfl,q⟩:=h1
  exact ⟨u,e1,s F H u Le.refl (RR.of ok e1)⟩
 ·rename_i t es
  obtain ⟨v,L1,L2,L3,e1,_,h1,_⟩:=o.sl.pick es
  obtain ⟨u,rfl,q⟩:=h1
  exact ⟨u,e1,s F H u Le.refl (RR.of ok e1)⟩
 ·exact s.elim
theorem fe_c {v:V} (t:T) (h:PE X e (tC v)) (r:∀ K F H,Bj K F H t v):FE X Z e (gc t) :=
 Bz h fun σ H Q ⟨F,B,fs,ok,s⟩=>s F H v Le.refl (RR.of ok (r _ _ _))
theorem Ak {i j pos}:FE X Z (.Constant (.int i) j pos) (gc (.int i)):=fe_c _ pe_int fun _ _ _=>rfl
theorem Ed {b j pos}:FE X Z (.Constant (.bool b) j pos) (gc (.bl b)):=fe_c _ pe_bl fun _ _ _=>rfl
theorem fe_str {x j pos}:FE X Z (.Constant (.str x) j pos) (gc (.str x)):=fe_c _ pe_str fun _ _ _=>rfl
theorem fe_gI {x:Str} {pos:Pos} {i:Int} (h:∃ t,X.mg x=some (.int i t)) (hg:Gl X x:=by rfl) (hd:(x == ("__debug__":Str))=false:=by decide):FE X Z (.Name x pos) (gc (.int i)):=fe_c _ (pe_gI h hg hd) fun _ _ _=>rfl
theorem fe_gS {x:Str} {pos:Pos} {z:Str} (h:∃ t,X.mg x=some (.str z t)) (hg:Gl X x:=by rfl) (hd:(x == ("__debug__":Str))=false:=by decide):FE X Z (.Name x pos) (gc (.str z)):=fe_c _ (pe_gS h hg hd) fun _ _ _=>rfl
end
def fz (f:FS->Out Rv):FS->Out Rv:=fun fs=>(f fs).bind fun r fs=>match r with
 | .t t=>.ok (.t t) fs
 | .nw o=>.ok (.t (toT o)) fs
 | .rf i=>match fs[i]? with
  | some (some (.own o))=>.ok (.t (toT o)) (fs.set i (some (.val (toT o))))
  | _=>.bad
section
variable {X:Cx} {Z:Xp} {e:Expr} {f:FS->Out Rv}
def addL (F:Wd) (L:List Addr):Wd:=⟨fun a=>F a∨a∈L,F.p⟩
theorem orF {F:Wd} {L:List Addr} {H:Hp}:Le F H (addL F L) H:=⟨fun _ f=>⟨.inl f,rfl⟩,fun _ f=>⟨f,rfl⟩⟩
theorem Ap (h:FE X Z e f):FE X Z e (fz f):=by
 refine Bz h fun σ H Q ⟨F,B,fs,ok,s⟩=>⟨F,B,fs,ok,?_⟩
 refine A2 s fun r fs F' H' u l q s=>?_
 cases r with
 | t t=>exact s F' H' u Le.refl q
 | nw o =>
  obtain ⟨L,L',o1,q,nd,nf⟩:=q
  refine s (addL F' L') H' u orF (RR.of ⟨L,?_⟩ (Bf.frz orF (fun a m=>.inr m) q))
  refine ⟨o1.sl.le orF fun _ _=>rfl,o1.nd,fun a m z=>?_,fun a z=>?_,o1.bo,o1.pd,fun a z=>?_,o1.pl⟩
  ·rcases z with z | z
   ·exact o1.nf a m z
   ·exact (List.nodup_append.mp nd).2.2 a m a z rfl
  ·rcases z with z | z
   ·exact o1.fd a z
   ·exact Bf.def q a z
  ·rcases z with z | z
   ·exact o1.pf a z
   ·exact (nf a z).2
 | rf i =>
  dsimp only at s
  split at s
  ·rename_i o es
   obtain ⟨L,L',o1,⟨_,q⟩,nd,nf⟩:=q
   obtain ⟨v,L1,L2,L3,e1,rfl,h1,h2⟩:=o1.sl.pick es
   obtain ⟨w,rfl,q2⟩:=h1
   rw [e1] at q
   have eu:w=u:=by simpa using q
   subst eu
   have l2:Le F' H' (addL F' L2) H':=orF
   have r2:Bj X.K (addL F' L2) H' (toT o) w:=Bf.frz orF (fun a m=>.inr m) q2
   refine s (addL F' L2) H' w l2 (RR.of ⟨L1++([]++L3),?_⟩ r2)
   have h3:=h2 (addL F' L2) H' (some (.val (toT o))) (some w) [] l2 (fun _ _=>rfl) ⟨w,rfl,r2,rfl⟩
   rw [DQ e1] at h3
   have nd1:=o1.nd
   refine ⟨h3,Ea nd1 List.nodup_nil (fun _ m=>nomatch m),fun a m z=>?_,fun a z=>?_,?_,o1.pd,fun a z=>?_,fun a m=>o1.pl a ?_⟩
   ·have m':a∈L1∨a∈L3:=by simpa using m
    rcases z with z | z
    ·exact o1.nf a (by rcases m' with m | m <;> simp [m]) z
    ·rw [List.nodup_append] at nd1
     rcases m' with m | m
     ·exact nd1.2.2 a m a (List.mem_append_left _ z) rfl
     ·exact (List.nodup_append.mp nd1.2.1).2.2 a z a m rfl
   ·rcases z with z | z
    ·exact o1.fd a z
    ·exact Bf.def q2 a z
   ·have:=BorOk.put (i:=i) (s:=some (.val (toT o))) (v:=some w) o1.bo (fun o eo=>by cases eo) o1.sl.len
    rwa [DQ e1] at this
   ·rcases z with z | z
    ·exact o1.pf a z
    ·exact o1.pl a (by simp [z])
   ·have m':a∈L1∨a∈L3:=by simpa using m
    rcases m' with m | m <;> simp [m]
  ·exact s.elim
end
end FL
namespace FL
open PySem PySem.Spec L2
def big:Nat:=1000000
theorem ET:big<=sizeLine:=by rw [sizeLine_eq];decide
theorem big_lt:big < sizeLine:=by rw [sizeLine_eq];decide
def Dt (fs:FS):Rv->Option (List T)
 | .t (.lst ts)=>some ts
 | .t (.scr ts)=>some ts
 | .rf i=>match A9 fs i with
  | some (.lst ts)=>some ts
  | _=>none
 | _=>none
def seqT:Rv->Option (List T)
 | .t (.tup ts)=>some ts
 | _=>none
section
variable {K:PySem.W.Frag} {B:Nat->Option V} {F F':Wd} {H H':Hp} {σ:St} {fs:FS} {x:Rv} {u:V} {ts:List T}
theorem CG (h:Okk K F B H fs σ) (r:Di K F H σ x u) (e:Dt fs x=some ts):∃ a vs,u=.ref a/\SqL K H a vs/\Ao K F H ts vs:=by
 unfold Dt at e
 split at e
 ·cases e
  simp only [Di,Bj] at r
  obtain ⟨a,vs,e,f,s,q⟩:=r
  exact ⟨a,vs,e,SqL.of s,q⟩
 ·cases e
  simp only [Di,Bj] at r
  obtain ⟨a,vs,e,s,q⟩:=r
  exact ⟨a,vs,e,s.sq,q⟩
 ·rename_i i
  split at e
  ·rename_i ts' eo
   cases e
   obtain ⟨v,L2,e1,q,_⟩:=h.own eo
   have e2:σ[i]?=some (some u):=r
   rw [e1] at e2
   have e3:v=u:=by simpa using e2
   subst e3
   simp only [Bf] at q
   obtain ⟨a,vs,e,s,q,_⟩:=q
   exact ⟨a,vs,e,SqL.of s,q⟩
  ·cases e
 ·cases e
theorem DH (r:Di K F H σ x u) (e:seqT x=some ts):∃ a vs,u=.ref a/\SqT K H a vs/\Ao K F H ts vs:=by
 unfold seqT at e
 split at e
 ·cases e
  simp only [Di,Bj] at r
  obtain ⟨a,vs,e,s,q⟩:=r
  exact ⟨a,vs,e,s.sq,q⟩
 ·cases e
theorem atI_rel {vs:List V} {i:Int} {t:T} (r:Ao K F H ts vs) (e:atI ts i=some t):∃ v,atI vs i=some v/\Bj K F H t v:=by
 unfold atI at e ⊢
 rw [r.len]
 cases q:ixN ts.length i with
 | none=>rw [q] at e;cases e
 | some j =>
  rw [q] at e
  exact r.at e
theorem Ao.ints:∀ {ns:List Int} {vs:List V},Ao K F H (ns.map T.int) vs->vs=ns.map V.int
 | [],_,h=>by simpa [Ao] using h
 | n :: ns,_,h=>by
  simp only [List.map_cons,Ao,Bj] at h
  obtain ⟨v,r,rfl,rfl,h⟩:=h
  rw [List.map_cons,Ao.ints h]
theorem Ao.bls:∀ {ns:List Bool} {vs:List V},Ao K F H (ns.map T.bl) vs->vs=ns.map V.bl
 | [],_,h=>by simpa [Ao] using h
 | n :: ns,_,h=>by
  simp only [List.map_cons,Ao,Bj] at h
  obtain ⟨v,r,rfl,rfl,h⟩:=h
  rw [List.map_cons,Ao.bls h]
theorem Ao.strs:∀ {ns:List Str} {vs:List V},Ao K F H (ns.map T.str) vs->vs=ns.map V.str
 | [],_,h=>by simpa [Ao] using h
 | n :: ns,_,h=>by
  simp only [List.map_cons,Ao,Bj] at h
  obtain ⟨v,r,rfl,rfl,h⟩:=h
  rw [List.map_cons,Ao.strs h]
end
def Dy:List T->Option (List Int)
 | []=>some []
 | .int i :: r=>(Dy r).map (i :: ·)
 | _=>none
def Fh:List T->Option (List Bool)
 | []=>some []
 | .bl i :: r=>(Fh r).map (i :: ·)
 | _=>none
def Dx:List T->Option (List Str)
 | []=>some []
 | .str i :: r=>(Dx r).map (i :: ·)
 | _=>none
theorem asInts_eq:∀ {ts:List T} {ns:List Int},Dy ts=some ns->ts=ns.map T.int
 | [],_,e=>by cases e;rfl
 | .int i :: r,_,e=>by
  simp only [Dy,Option.map_eq_some_iff] at e
  obtain ⟨ns,e,rfl⟩:=e
  rw [List.map_cons,<- asInts_eq e]
 | .non :: r,_,e=>by simp [Dy] at e
 | .bl _ :: r,_,e=>by simp [Dy] at e
 | .str _ :: r,_,e=>by simp [Dy] at e
 | .tup _ :: r,_,e=>by simp [Dy] at e
 | .lst _ :: r,_,e=>by simp [Dy] at e
 | .scr _ :: r,_,e=>by simp [Dy] at e
 | .dK _ _ :: r,_,e=>by simp [Dy] at e
 | .dT _ _ :: r,_,e=>by simp [Dy] at e
 | .ins _ _ _ :: r,_,e=>by simp [Dy] at e
 | .dF _ _ :: r,_,e=>by simp [Dy] at e
theorem asBls_eq:∀ {ts:List T} {ns:List Bool},Fh ts=some ns->ts=ns.map T.bl
 | [],_,e=>by cases e;rfl
 | .bl i :: r,_,e=>by
  simp only [Fh,Option.map_eq_some_iff] at e
  obtain ⟨ns,e,rfl⟩:=e
  rw [List.map_cons,<- asBls_eq e]
 | .non :: r,_,e=>by simp [Fh] at e
 | .int _ :: r,_,e=>by simp [Fh] at e
 | .str _ :: r,_,e=>by simp [Fh] at e
 | .tup _ :: r,_,e=>by simp [Fh] at e
 | .lst _ :: r,_,e=>by simp [Fh] at e
 | .scr _ :: r,_,e=>by simp [Fh] at e
 | .dK _ _ :: r,_,e=>by simp [Fh] at e
 | .dT _ _ :: r,_,e=>by simp [Fh] at e
 | .ins _ _ _ :: r,_,e=>by simp [Fh] at e
 | .dF _ _ :: r,_,e=>by simp [Fh] at e
theorem asStrs_eq:∀ {ts:List T} {ns:List Str},Dx ts=some ns->ts=ns.map T.str
 | [],_,e=>by cases e;rfl
 | .str i :: r,_,e=>by
  simp only [Dx,Option.map_eq_some_iff] at e
  obtain ⟨ns,e,rfl⟩:=e
  rw [List.map_cons,<- asStrs_eq e]
 | .non :: r,_,e=>by simp [Dx] at e
 | .int _ :: r,_,e=>by simp [Dx] at e
 | .bl _ :: r,_,e=>by simp [Dx] at e
 | .tup _ :: r,_,e=>by simp [Dx] at e
 | .lst _ :: r,_,e=>by simp [Dx] at e
 | .scr _ :: r,_,e=>by simp [Dx] at e
 | .dK _ _ :: r,_,e=>by simp [Dx] at e
 | .dT _ _ :: r,_,e=>by simp [Dx] at e
 | .ins _ _ _ :: r,_,e=>by simp [Dx] at e
 | .dF _ _ :: r,_,e=>by simp [Dx] at e
def Ag (g:Rv->Rv->FS->Out Rv) (fa fb:FS->Out Rv):FS->Out Rv:=fun fs=>(fa fs).bnd fun x fs=>(fb fs).bnd fun y fs=>g x y fs
def OpF (K:PySem.W.Frag) (Z:Xp) (r:R2) (g:Rv->Rv->FS->Out Rv):Prop:=∀ (F:Wd) (B:Nat->Option V) (H:Hp) (σ:St) (fs:FS) (x y:Rv) (u w:V) (Q:VK),Okk K F B H fs σ->Di K F H σ x u->Di K F H σ y w ->
 sat Z B (RR K B σ) F H (g x y fs) Q->r u w H Q
def asB (f:FS->Out Rv):FS->Out Bool:=fun fs=>(f fs).bind fun r fs=>match r with
 | .t (.bl b)=>.ok b fs
 | _=>.bad
section
variable {X:Cx} {K:PySem.W.Frag} {Z:Xp} {a b c:Expr} {fa fb fc f:FS->Out Rv} {r r':R2} {g g':Rv->Rv->FS->Out Rv} {pos:Pos} {σ:St} {H:Hp}
theorem GZ {Q:VK} (hg:OpF K Z r g) (h:tF K Z (Ag g fa fb) σ H Q):tOp r (tF K Z fa) (tF K Z fb) σ H Q:=by
 obtain ⟨F,B,fs,ok,s⟩:=h
 exact ⟨F,B,fs,ok,Bb s fun x fs1 F1 H1 u l ok1 rx s1=>⟨F1,B,fs1,ok1,Bb s1 fun y fs2 F2 H2 w l2 ok2 ry s2=>hg F2 B H2 σ fs2 x y u w Q ok2 (rx.le l2) ry s2⟩⟩
theorem asB_tF {Q:Bool->Hp->Prop} (h:tT K Z (asB f) σ H Q):tF K Z f σ H fun x H'=>∃ k,x=.bl k/\Q k H':=by
 obtain ⟨F,B,fs,ok,s⟩:=h
 refine ⟨F,B,fs,ok,A2 s fun r fs1 F1 H1 u l q s1=>?_⟩
 split at s1
 ·rename_i b
  obtain ⟨L,L',o1,⟨_,q⟩,_⟩:=q
  exact ⟨b,q,s1 F1 H1 b Le.refl ⟨⟨L,o1⟩,rfl⟩⟩
 ·exact s1.elim
theorem fe_op {op:Operator} (hg:OpF X.K Z r g) (ho:OpR X (binaryOp op) r) (ha:FE X Z a fa) (hb:FE X Z b fb):FE X Z (.BinOp a op b pos) (Ag g fa fb) :=
 Bz (pe_op ho ha hb) fun _ _ _ h=>GZ hg h
theorem fe_cmp {op:CmpOp} (hg:OpF X.K Z r g) (ho:OpR X (compareOp op) r) (ha:FE X Z a fa) (hb:FE X Z b fb) (hm:behindInMarks op b=false):FE X Z (.Compare a [op] [b] pos) (Ag g fa fb) :=
 Bz (pe_cmpR ho ha hb hm) fun _ _ _ h=>GZ hg h
theorem HE {op:CmpOp} (hg:OpF X.K Z r g) (ho:OpR X (compareOp op) r) (ha:FE X Z a fa) (hb:FE X Z b fb) (hm:behindInMarks op b=false):FT X Z (.Compare a [op] [b] pos) (asB (Ag g fa fb)) :=
 pt_imp (pt_cmpR ho ha hb hm) fun _ _ _ h=>GZ hg (asB_tF h)
theorem fe_ix (hg:OpF X.K Z r g) (hr:IxR X r) (ha:FE X Z a fa) (hb:FE X Z b fb) (hs:PlainIx b):FE X Z (.Subscript a b pos) (Ag g fa fb) :=
 Bz (pe_ix hr ha hb hs) fun _ _ _ h=>GZ hg h
def chain (g g':Rv->Rv->FS->Out Rv) (fa fb fc:FS->Out Rv):FS->Out Rv:=fun fs=>(fa fs).bnd fun x fs=>(fb fs).bnd fun y fs=>(g x y fs).bnd fun z fs=>match z with
 | .t (.bl true)=>(fc fs).bnd fun w fs=>g' y w fs
 | .t (.bl false)=>.ok (.t (.bl false)) fs
 | _=>.bad
theorem chain_t {Q:VK} (hg:OpF K Z r g) (hg':OpF K Z r' g') (h:tF K Z (chain g g' fa fb fc) σ H Q):tChain r r' (tF K Z fa) (tF K Z fb) (tF K Z fc) σ H Q:=by
 obtain ⟨F,B,fs,ok,s⟩:=h
 refine ⟨F,B,fs,ok,Bb s fun x fs1 F1 H1 u l ok1 rx s1=>⟨F1,B,fs1,ok1,Bb s1 fun y fs2 F2 H2 w l2 ok2 ry s2=>hg F2 B H2 σ fs2 x y u w _ ok2 (rx.le l2) ry ?_⟩⟩
 refine Bb s2 fun z fs3 F3 H3 v l3 ok3 rz s3=>?_
 split at s3
 ·refine ⟨true,rz,?_⟩
  rw [if_pos rfl]
  exact ⟨F3,B,fs3,ok3,Bb s3 fun w' fs4 F4 H4 v' l4 ok4 rw' s4=>hg' F4 B H4 σ fs4 y w' w v' Q ok4 ((ry.le l3).le l4) rw' s4⟩
 ·refine ⟨false,rz,?_⟩
  rw [if_neg (by decide)]
  exact s3 F3 H3 (.bl false) Le.refl (RR.of ok3 rfl)
 ·exact s3.elim
end
theorem mul_bits {a b:Int} (ha:Builtin.Int.intBits a<=2 ^ 26) (hb:Builtin.Int.intBits b<=2 ^ 26):IntMulOk a b:=by
 intro h
 rw [Bool.and_eq_true] at h
 have h2:=of_decide_eq_true (show decide _=true from h.2)
 have e:bitsLine=134217728:=rfl
 rw [e] at h2
 omega
def gI (g:Int->Int->FS->Out Rv):Rv->Rv->FS->Out Rv
 | .t (.int i),.t (.int j),fs=>g i j fs
 | _,_,_=>.bad
def okT (t:T) (fs:FS):Out Rv:=.ok (.t t) fs
def gAdd:=gI fun i j=>okT (.int (i+j))
def Cv:=gI fun i j=>okT (.int (i - j))
def gMul:=gI fun i j fs=>if (decide (-(2 ^ 64) < i/\i < 2 ^ 64) || decide (-(2 ^ 64) < j/\j < 2 ^ 64) || (decide (Builtin.Int.intBits i<=2 ^ 26) && decide (Builtin.Int.intBits j<=2 ^ 26)))=true then okT (.int (i * j)) fs else .bad
def Cu:=gI fun i j fs=>if 0 < j then okT (.int (i % j)) fs else .bad
def EO:=gI fun i j fs=>if 0 < j/\j < 1073741824 then okT (.int (i / j)) fs else .bad
def gLt:=gI fun i j=>okT (.bl (decide (i < j)))
def gLe:=gI fun i j=>okT (.bl (decide (i<=j)))
def gGt:=gI fun i j=>okT (.bl (decide (j < i)))
def gGe:=gI fun i j=>okT (.bl (decide (j<=i)))
section
variable {K:PySem.W.Frag} {Z:Xp}
theorem opf_I {g:Int->Int->FS->Out Rv} {C:Int->Int->Prop} {v:Int->Int->V} {t:Int->Int->T} (hv:∀ K F H i j,Bj K F H (t i j) (v i j)) (hg:∀ i j fs,g i j fs=.bad∨(C i j/\g i j fs=okT (t i j) fs)):OpF K Z (rI C v) (gI g):=by
 intro F B H σ fs x y u w Q ok rx ry s
 unfold gI at s
 split at s
 ·rename_i i j
  simp only [Di,Bj] at rx ry
  rcases hg i j fs with e | ⟨c,e⟩
  ·rw [e] at s
   exact s.elim
  ·rw [e] at s
   exact ⟨i,j,rx,ry,c,s F H _ Le.refl (RR.of ok (hv _ _ _ _ _))⟩
 ·exact s.elim
theorem opf_I0 {v:Int->Int->V} {t:Int->Int->T} (hv:∀ K F H i j,Bj K F H (t i j) (v i j)):OpF K Z (rI0 v) (gI fun i j=>okT (t i j)):=by
 intro F B H σ fs x y u w Q ok rx ry s
 unfold gI at s
 split at s
 ·rename_i i j
  simp only [Di,Bj] at rx ry
  exact ⟨i,j,rx,ry,s F H _ Le.refl (RR.of ok (hv _ _ _ _ _))⟩
 ·exact s.elim
theorem of_add:OpF K Z (rI0 fun i j=>.int (i+j)) gAdd:=opf_I0 fun _ _ _ _ _=>rfl
theorem of_sub:OpF K Z (rI0 fun i j=>.int (i - j)) Cv:=opf_I0 fun _ _ _ _ _=>rfl
theorem of_lt:OpF K Z (rI0 fun i j=>.bl (decide (i < j))) gLt:=opf_I0 fun _ _ _ _ _=>rfl
theorem of_le:OpF K Z (rI0 fun i j=>.bl (decide (i<=j))) gLe:=opf_I0 fun _ _ _ _ _=>rfl
theorem of_gt:OpF K Z (rI0 fun i j=>.bl (decide (j < i))) gGt:=opf_I0 fun _ _ _ _ _=>rfl
theorem of_ge:OpF K Z (rI0 fun i j=>.bl (decide (j<=i))) gGe:=opf_I0 fun _ _ _ _ _=>rfl
theorem of_mod:OpF K Z (rI (fun _ j=>0 < j) fun i j=>.int (i % j)) Cu:=opf_I (t:=fun i j=>.int (i % j)) (fun _ _ _ _ _=>rfl) fun i j fs=>by
 by_cases h:0 < j
 ·exact .inr ⟨h,if_pos h⟩
 ·exact .inl (if_neg h)
theorem of_div:OpF K Z (rI CDiv fun i j=>.int (i / j)) EO:=opf_I (t:=fun i j=>.int (i / j)) (fun _ _ _ _ _=>rfl) fun i j fs=>by
 by_cases h:0 < j/\j < 1073741824
 ·exact .inr ⟨h,if_pos h⟩
 ·exact .inl (if_neg h)
theorem of_mul:OpF K Z (rI IntMulOk fun i j=>.int (i * j)) gMul:=opf_I (t:=fun i j=>.int (i * j)) (fun _ _ _ _ _=>rfl) fun i j fs=>by
 by_cases h:(decide (-(2 ^ 64) < i/\i < 2 ^ 64) || decide (-(2 ^ 64) < j/\j < 2 ^ 64) || (decide (Builtin.Int.intBits i<=2 ^ 26) && decide (Builtin.Int.intBits j<=2 ^ 26)))=true
 ·refine .inr ⟨?_,if_pos h⟩
  rw [Bool.or_eq_true,Bool.or_eq_true,Bool.and_eq_true] at h
  rcases h with (h | h) | ⟨h1,h2⟩
  ·exact CMul.ok (.inl (of_decide_eq_true h))
  ·exact CMul.ok (.inr (of_decide_eq_true h))
  ·exact mul_bits (of_decide_eq_true h1) (of_decide_eq_true h2)
 ·exact .inl (if_neg h)
end
def plV:T->Option V
 | .non=>some .non
 | .bl b=>some (.bl b)
 | .int i=>some (.int i)
 | .str x=>some (.str x)
 | _=>none
theorem Gn {K:PySem.W.Frag} {F:Wd} {H:Hp} {t:T} {u v:V} (e:plV t=some v) (r:Bj K F H t u):u=v:=by
 cases t with
 | non=>cases e;exact r
 | bl b=>cases e;exact r
 | int i=>cases e;exact r
 | str x=>cases e;exact r
 | tup ts=>cases e
 | lst ts=>cases e
 | scr ts=>cases e
 | dK ks ts=>cases e
 | dT ks ts=>cases e
 | ins C fs ts=>cases e
 | dF ks ts=>cases e
def gEq (neg:Bool):Rv->Rv->FS->Out Rv
 | .t x,.t y,fs=>match plV x,plV y with
  | some u,some w=>if scal u w=true then okT (.bl (if neg then !decide (u=w) else decide (u=w))) fs else .bad
  | _,_=>.bad
 | _,_,_=>.bad
def plVs:List T->Option (List V)
 | []=>some []
 | t :: r=>(plV t).bind fun v=>(plVs r).map (v :: ·)
theorem plVs_rel {K:PySem.W.Frag} {F:Wd} {H:Hp}:∀ {ts:List T} {us vs:List V},plVs ts=some vs->Ao K F H ts us->us=vs/\vs.all flatV=true
 | [],_,_,e,r=>by
  cases e
  simp only [Ao] at r
  exact ⟨r,rfl⟩
 | t :: ts,_,_,e,r=>by
  simp only [Ao] at r
  obtain ⟨v,w,rfl,r1,r2⟩:=r
  simp only [plVs,Option.bind_eq_some_iff,Option.map_eq_some_iff] at e
  obtain ⟨v',e1,ws,e2,rfl⟩:=e
  obtain ⟨rfl,h⟩:=plVs_rel e2 r2
  have:=Gn e1 r1
  subst this
  refine ⟨rfl,?_⟩
  rw [List.all_cons,h,Bool.and_true]
  cases t <;> first | (cases e1;rfl) | cases e1
theorem plV_flat {t:T} {v:V} (e:plV t=some v):flatV v=true:=by
 cases t <;> first | (cases e;rfl) | cases e
def gIn (neg:Bool):Rv->Rv->FS->Out Rv
 | .t x,y,fs=>match plV x with
  | some v=>match (match Dt fs y with
    | some ts=>plVs ts
    | none=>(seqT y).bind plVs) with
   | some vs=>okT (.bl (if neg then !inV v vs else inV v vs)) fs
   | none=>.bad
  | none=>.bad
 | _,_,_=>.bad
def gInStr (neg:Bool):Rv->Rv->FS->Out Rv
 | .t (.str i),.t (.str j),fs=>okT (.bl (if neg then !(!(Builtin.Str.occurrences j i 0 j.length 1).isEmpty) else !(Builtin.Str.occurrences j i 0 j.length 1).isEmpty)) fs
 | _,_,_=>.bad
section
variable {K:PySem.W.Frag} {Z:Xp}
theorem of_eq:OpF K Z rEq (gEq false):=by
 intro F B H σ fs x y u w Q ok rx ry s
 unfold gEq at s
 split at s
 ·split at s
  ·rename_i e1 e2
   split at s
   ·rename_i hs
    have h1:=Gn e1 rx
    have h2:=Gn e2 ry
    subst h1 h2
    exact ⟨hs,s F H _ Le.refl (RR.of ok rfl)⟩
   ·exact s.elim
  ·exact s.elim
 ·exact s.elim
theorem of_ne:OpF K Z rNe (gEq true):=by
 intro F B H σ fs x y u w Q ok rx ry s
 unfold gEq at s
 split at s
 ·split at s
  ·rename_i e1 e2
   split at s
   ·rename_i hs
    have h1:=Gn e1 rx
    have h2:=Gn e2 ry
    subst h1 h2
    exact ⟨hs,s F H _ Le.refl (RR.of ok rfl)⟩
   ·exact s.elim
  ·exact s.elim
 ·exact s.elim
theorem of_in (neg:Bool):OpF K Z (rIn K neg) (gIn neg):=by
 intro F B H σ fs x y u w Q ok rx ry s
 unfold gIn at s
 split at s
 ·split at s
  ·rename_i v e1
   split at s
   ·rename_i vs e2
    have h1:=Gn e1 rx
    subst h1
    split at e2
    ·rename_i ts e3
     obtain ⟨a,us,rfl,hs,q⟩:=CG ok ry e3
     obtain ⟨rfl,hf⟩:=plVs_rel e2 q
     exact ⟨a,us,rfl,.inl hs,plV_flat e1,hf,s F H _ Le.refl (RR.of ok rfl)⟩
    ·rw [Option.bind_eq_some_iff] at e2
     obtain ⟨ts,e3,e2⟩:=e2
     obtain ⟨a,us,rfl,hs,q⟩:=DH ry e3
     obtain ⟨rfl,hf⟩:=plVs_rel e2 q
     exact ⟨a,us,rfl,.inr hs,plV_flat e1,hf,s F H _ Le.refl (RR.of ok rfl)⟩
   ·exact s.elim
  ·exact s.elim
 ·exact s.elim
theorem of_inStr:OpF K Z (fun x y H Q=>∃ i j,x=.str i/\y=.str j/\Q (.bl (!(Builtin.Str.occurrences j i 0 j.length 1).isEmpty)) H) (gInStr false):=by
 intro F B H σ fs x y u w Q ok rx ry s
 unfold gInStr at s
 split at s
 ·rename_i i j
  exact ⟨i,j,rx,ry,s F H _ Le.refl (RR.of ok rfl)⟩
 ·exact s.elim
theorem of_notInStr:OpF K Z (fun x y H Q=>∃ i j,x=.str i/\y=.str j/\Q (.bl (!(!(Builtin.Str.occurrences j i 0 j.length 1).isEmpty))) H) (gInStr true):=by
 intro F B H σ fs x y u w Q ok rx ry s
 unfold gInStr at s
 split at s
 ·rename_i i j
  exact ⟨i,j,rx,ry,s F H _ Le.refl (RR.of ok rfl)⟩
 ·exact s.elim
end
def gIx:Rv->Rv->FS->Out Rv
 | x,.t (.int i),fs=>match Dt fs x with
  | some ts=>match atI ts i with
   | some t=>okT t fs
   | none=>.bad
  | none=>match x with
   | .t (.tup ts)=>match atI ts i with
    | some t=>okT t fs
    | none=>.bad
   | .t (.str z)=>if z.length<=big then match atI z.cps.toList i with
     | some c=>okT (.str ⟨#[c]⟩) fs
     | none=>.bad
    else .bad
   | _=>.bad
 | _,_,_=>.bad
section
variable {K:PySem.W.Frag} {Z:Xp}
theorem of_ix:OpF K Z (rIx K) gIx:=by
 intro F B H σ fs x y u w Q ok rx ry s
 unfold gIx at s
 split at s
 ·rename_i i
  split at s
  ·rename_i ts e
   split at s
   ·rename_i t et
    obtain ⟨a,vs,rfl,hs,q⟩:=CG ok rx e
    obtain ⟨v,ev,rv⟩:=atI_rel q et
    exact .inl ⟨a,vs,i,v,rfl,ry,hs,ev,s F H v Le.refl (RR.of ok rv)⟩
   ·exact s.elim
  ·split at s
   ·rename_i ts _
    split at s
    ·rename_i t et
     obtain ⟨a,vs,rfl,hs,q⟩:=DH (ts:=ts) rx rfl
     obtain ⟨v,ev,rv⟩:=atI_rel q et
     exact .inr (.inl ⟨a,vs,i,v,rfl,ry,hs,ev,s F H v Le.refl (RR.of ok rv)⟩)
    ·exact s.elim
   ·rename_i z _
    split at s
    ·rename_i hz
     split at s
     ·rename_i c ec
      exact .inr (.inr ⟨z,i,c,rx,ry,Nat.le_trans hz ET,ec,s F H _ Le.refl (RR.of ok rfl)⟩)
     ·exact s.elim
    ·exact s.elim
   ·exact s.elim
 ·exact s.elim
end
def gAddS:Rv->Rv->FS->Out Rv
 | .t (.str i),.t (.str j),fs=>if i.length+j.length<=big then okT (.str (i++j)) fs else .bad
 | _,_,_=>.bad
def gMulS:Rv->Rv->FS->Out Rv
 | .t (.str z),.t (.int n),fs=>if z.length=1/\1<=n/\n<=1000 then okT (.str (Txt.mul z n)) fs else .bad
 | _,_,_=>.bad
theorem mul_ok1 {z:Str} {n:Int} (hz:z.length=1) (h0:1<=n) (h1:n<=1000):MulOk z n:=by
 refine ⟨?_,fun _ _=>?_,fun _ _=>?_⟩
 ·rw [Bool.or_eq_false_iff]
  exact ⟨decide_eq_false (by omega),decide_eq_false (by omega)⟩
 ·have h:(n:Int)<=2 ^ 63 - 1:=by omega
  have h2:1<=((2:Int) ^ 63 - 1) / n:=(Int.le_ediv_iff_mul_le (by omega)).mpr (by omega)
  rw [hz]
  show ¬ ((1:Nat):Int) > _
  omega
 ·unfold Builtin.Str.tooLong
  have:n.toNat<=1000:=by omega
  refine decide_eq_false ?_
  rw [hz]
  have h3:(1000:Nat)<=sizeLine:=by rw [sizeLine_eq];decide
  omega
section
variable {K:PySem.W.Frag} {Z:Xp}
theorem of_addS:OpF K Z (fun x y H Q=>∃ i j,x=.str i/\y=.str j/\i.length+j.length<=sizeLine/\Q (.str (i++j)) H) gAddS:=by
 intro F B H σ fs x y u w Q ok rx ry s
 unfold gAddS at s
 split at s
 ·rename_i i j
  split at s
  ·rename_i h
   exact ⟨i,j,rx,ry,Nat.le_trans h ET,s F H _ Le.refl (RR.of ok rfl)⟩
  ·exact s.elim
 ·exact s.elim
theorem of_mulS:OpF K Z (fun x y H Q=>∃ z n,x=.str z/\y=.int n/\MulOk z n/\Q (.str (Txt.mul z n)) H) gMulS:=by
 intro F B H σ fs x y u w Q ok rx ry s
 unfold gMulS at s
 split at s
 ·rename_i i j
  split at s
  ·rename_i h
   exact ⟨i,j,rx,ry,mul_ok1 h.1 h.2.1 h.2.2,s F H _ Le.refl (RR.of ok rfl)⟩
  ·exact s.elim
 ·exact s.elim
end
end FL
namespace FL
open PySem PySem.Spec L2
def truR (fs:FS):Rv->Option Bool
 | .t .non=>some false
 | .t (.bl b)=>some b
 | .t (.int i)=>some (i != 0)
 | .t (.str x)=>if x.length<=big then some ((x.length:Int) != 0) else none
 | .t (.lst ts)=>some !ts.isEmpty
 | .t (.tup ts)=>some !ts.isEmpty
 | .rf i=>match A9 fs i with
  | some (.lst ts)=>some !ts.isEmpty
  | some (.dK ks _)=>some !ks.isEmpty
  | _=>none
 | _=>none
def Ew (f:FS->Out Rv):FS->Out Bool:=fun fs=>(f fs).bnd fun r fs=>match truR fs r with
 | some b=>.ok b fs
 | none=>.bad
def DZ (f:FS->Out Bool):FS->Out Bool:=fun fs=>(f fs).bind fun b fs=>.ok (!b) fs
def andT (f g:FS->Out Bool):FS->Out Bool:=fun fs=>(f fs).bind fun b fs=>if b=true then g fs else .ok false fs
def orT (f g:FS->Out Bool):FS->Out Bool:=fun fs=>(f fs).bind fun b fs=>if b=true then .ok true fs else g fs
def ifV (c:FS->Out Bool) (f g:FS->Out Rv):FS->Out Rv:=fun fs=>(c fs).bind fun b fs=>if b=true then f fs else g fs
theorem Ej {α β:Type} {xs:List α} {ys:List β} (h:ys.length=xs.length):(!ys.isEmpty)=!xs.isEmpty:=by
 cases xs <;> cases ys <;> simp_all
section
variable {K:PySem.W.Frag} {B:Nat->Option V} {F:Wd} {H:Hp} {σ:St} {fs:FS} {x:Rv} {u:V}
theorem truR_ok {b:Bool} (h:Okk K F B H fs σ) (r:Di K F H σ x u) (e:truR fs x=some b):TruV K u H b:=by
 unfold truR at e
 split at e
 ·cases e;cases r;rfl
 ·cases e;cases r;rfl
 ·cases e;cases r;rfl
 ·split at e
  ·rename_i hz
   cases e;cases r
   exact ⟨Nat.le_trans hz ET,rfl⟩
  ·cases e
 ·cases e
  obtain ⟨a,vs,rfl,hs,q⟩:=CG h r rfl
  exact .inl ⟨vs,hs,(Ej q.len).symm⟩
 ·cases e
  obtain ⟨a,vs,rfl,hs,q⟩:=DH r rfl
  exact .inr (.inl ⟨vs,hs,(Ej q.len).symm⟩)
 ·rename_i i
  split at e
  ·rename_i ts eo
   cases e
   obtain ⟨a,vs,rfl,hs,q⟩:=CG (ts:=ts) h r (by simp [Dt,eo])
   exact .inl ⟨vs,hs,(Ej q.len).symm⟩
  ·rename_i ks ts eo
   cases e
   obtain ⟨v,L2,e1,q,_⟩:=h.own eo
   have e2:σ[i]?=some (some u):=r
   rw [e1] at e2
   have e3:v=u:=by simpa using e2
   subst e3
   simp only [Bf] at q
   obtain ⟨a,kvs,rfl,hd,rfl,_⟩:=q
   exact .inr (.inr ⟨kvs,hd,(Ej (by simp))⟩)
  ·cases e
 ·cases e
end
section
variable {X:Cx} {Z:Xp} {a b c:Expr} {fa fb:FS->Out Rv} {ga gb:FS->Out Bool} {pos:Pos} {rest:List Expr}
theorem Cf (ha:FE X Z a fa) (he:∀ whole,isTrue a X.env whole=(do let v <- whole;standAt a.pos;holding [v] (truthy v))):FT X Z a (Ew fa):=by
 refine pt_imp (pt_truth ha he) fun σ H Q ⟨F,B,fs,ok,s⟩=>⟨F,B,fs,ok,Bb s fun r fs1 F1 H1 u l ok1 rx s1=>?_⟩
 split at s1
 ·rename_i b e
  exact ⟨b,truR_ok ok1 rx e,s1 F1 H1 b Le.refl ⟨ok1,rfl⟩⟩
 ·exact s1.elim
theorem Dw (ha:FT X Z a ga):FT X Z (.UnaryOp .Not a pos) (DZ ga):=by
 refine pt_imp (pt_not ha) fun σ H Q ⟨F,B,fs,ok,s⟩=>⟨F,B,fs,ok,A2 s fun b fs1 F1 H1 b' l q s1=>?_⟩
 obtain ⟨ok1,rfl⟩:=q
 exact s1 F1 H1 _ Le.refl ⟨ok1,rfl⟩
def FW (X:Cx) (Z:Xp) (e:Expr) (f:FS->Out Bool):Prop:=PW X e (tT X.K Z f)
theorem FW.ft (h:FW X Z a ga):FT X Z a ga:=PW.pt h
theorem pw_imp {e:Expr} {t t':TT} (h:PW X e t) (i:∀ σ H Q,t' σ H Q->t σ H Q):PW X e t':=fun whole pins s σ H Q I q=>h whole pins s σ H Q I (i _ _ _ q)
theorem fw_or1 (ha:FT X Z a ga):FW X Z (.BoolOp .Or [a] pos) ga:=pw_or1 ha
theorem fw_or (ha:FT X Z a ga) (hb:FW X Z (.BoolOp .Or (b :: rest) pos) gb):FW X Z (.BoolOp .Or (a :: b :: rest) pos) (orT ga gb):=by
 refine pw_imp (pw_or ha hb) fun σ H Q ⟨F,B,fs,ok,s⟩=>⟨F,B,fs,ok,A2 s fun b fs1 F1 H1 b' l q s1=>?_⟩
 obtain ⟨ok1,rfl⟩:=q
 cases b' with
 | true =>
  rw [if_pos rfl] at s1 ⊢
  exact s1 F1 H1 _ Le.refl ⟨ok1,rfl⟩
 | false =>
  rw [if_neg (by decide)] at s1 ⊢
  exact ⟨F1,B,fs1,ok1,s1⟩
theorem fe_if (hc:FT X Z c ga) (ha:FE X Z a fa) (hb:FE X Z b fb):FE X Z (.IfExp c a b pos) (ifV ga fa fb):=by
 refine Bz (pe_ifExp hc ha hb) fun σ H Q ⟨F,B,fs,ok,s⟩=>⟨F,B,fs,ok,A2 s fun b fs1 F1 H1 b' l q s1=>?_⟩
 obtain ⟨ok1,rfl⟩:=q
 cases b' with
 | true =>
  rw [if_pos rfl] at s1 ⊢
  exact ⟨F1,B,fs1,ok1,s1⟩
 | false =>
  rw [if_neg (by decide)] at s1 ⊢
  exact ⟨F1,B,fs1,ok1,s1⟩
end
section
variable {X:Cx} {Z:Xp} {a b c:Expr} {fa fb fc:FS->Out Rv} {r r':R2} {g g':Rv->Rv->FS->Out Rv} {pos:Pos}
theorem ft_chain {op op':CmpOp} (hg:OpF X.K Z r g) (hg':OpF X.K Z r' g') (ha:FE X Z a fa) (hb:FE X Z b fb) (hc:FE X Z c fc)
  (h:∀ {ta tb tc:TE},PE X a ta->PE X b tb->PE X c tc->PT X (.Compare a [op,op'] [b,c] pos) (tTest (tChain r r' ta tb tc))):FT X Z (.Compare a [op,op'] [b,c] pos) (asB (chain g g' fa fb fc)) :=
 pt_imp (h ha hb hc) fun _ _ _ q=>chain_t hg hg' (asB_tF q)
end
def Am:FS->Out (List Rv):=fun fs=>.ok [] fs
def Ac (f:FS->Out Rv) (g:FS->Out (List Rv)):FS->Out (List Rv):=fun fs=>(f fs).bnd fun r fs=>(g fs).bind fun rs fs=>.ok (r :: rs) fs
def allT:List Rv->Option (List T)
 | []=>some []
 | .t t :: r=>(allT r).map (t :: ·)
 | _=>none
theorem Ha {K:PySem.W.Frag} {F:Wd} {H:Hp} {σ:St}:∀ {rs:List Rv} {vs:List V} {ts:List T},RelFs K F H σ rs vs->allT rs=some ts->Ao K F H ts vs
 | [],_,_,h,e=>by cases e;exact h
 | .t t :: r,_,_,h,e=>by
  simp only [allT,Option.map_eq_some_iff] at e
  obtain ⟨ts,e,rfl⟩:=e
  obtain ⟨v,w,rfl,h1,h2⟩:=h
  simp only [Ao]
  exact ⟨v,w,rfl,h1,Ha h2 e⟩
 | .nw _ :: r,_,_,h,e=>by simp [allT] at e
 | .rf _ :: r,_,_,h,e=>by simp [allT] at e
def AE (g:List T->FS->Out Rv) (f:FS->Out (List Rv)):FS->Out Rv:=fun fs=>(f fs).bind fun rs fs=>match allT rs with
 | some ts=>if ts.length<=big then g ts fs else .bad
 | none=>.bad
def Ba (ts:List T) (fs:FS):Out Rv:=.ok (.t (.tup ts)) fs
def CY (ts:List T) (fs:FS):Out Rv:=.ok (.t (.lst ts)) fs
def Ek (ts:List T) (fs:FS):Out Rv:=.ok (.nw (.lst ts)) fs
section
variable {X:Cx} {Z:Xp} {e:Expr} {es:List Expr} {f:FS->Out Rv} {g:FS->Out (List Rv)} {pos:Pos}
theorem Av:FA X Z [] Am:=pa_imp pa_nil fun σ H Q ⟨F,B,fs,ok,s⟩=>s F H [] Le.refl ⟨ok,rfl⟩
theorem Ah (ha:FE X Z e f) (hr:FA X Z es g) (hs:starEach (e :: es) X.env=(false,eval e X.env) :: starEach es X.env:=by rfl):FA X Z (e :: es) (Ac f g):=by
 refine pa_imp (EI ha hr hs) fun σ H Q ⟨F,B,fs,ok,s⟩=>⟨F,B,fs,ok,Bb s fun r fs1 F1 H1 u l ok1 rx s1=>⟨F1,B,fs1,ok1,A2 s1 fun rs fs2 F2 H2 us l2 q s2=>?_⟩⟩
 exact s2 F2 H2 (u :: us) Le.refl ⟨q.1,u,us,rfl,rx.le l2,q.2⟩
theorem C0 {x1} (h:FA X Z es g):FE X Z (.Tuple es x1 pos) (AE Ba g):=by
 refine Bz (pe_tup h) fun σ H Q ⟨F,B,fs,ok,s⟩=>⟨F,B,fs,ok,A2 s fun rs fs1 F1 H1 us l q s1=>?_⟩
 obtain ⟨ok1,q⟩:=q
 split at s1
 ·rename_i ts e
  have r:=Ha q e
  split at s1
  ·rename_i hl
   refine ⟨by rw [r.len];exact Nat.le_trans hl ET,fun p hp=>s1 (addF F1 p) (upd H1 p (.tup us)) (.ref p) (Ce ok1 hp) (RR.of (ok1.alloc hp) ?_)⟩
   simp only [Di,Bj]
   exact ⟨p,us,rfl,⟨rfl,.inr rfl,AV⟩,r.le (Ce ok1 hp)⟩
  ·exact s1.elim
 ·exact s1.elim
theorem FQ (h:FA X Z es g):FE X Z (.List es pos) (AE CY g):=by
 refine Bz (pe_lst h) fun σ H Q ⟨F,B,fs,ok,s⟩=>⟨F,B,fs,ok,A2 s fun rs fs1 F1 H1 us l q s1=>?_⟩
 obtain ⟨ok1,q⟩:=q
 split at s1
 ·rename_i ts e
  have r:=Ha q e
  split at s1
  ·rename_i hl
   refine ⟨by rw [r.len];exact Nat.le_trans hl ET,fun p hp=>s1 (addF F1 p) (upd H1 p (.lst us)) (.ref p) (Ce ok1 hp) (RR.of (ok1.alloc hp) ?_)⟩
   simp only [Di,Bj]
   exact ⟨p,us,rfl,.inr rfl,AV,r.le (Ce ok1 hp)⟩
  ·exact s1.elim
 ·exact s1.elim
theorem DA {K:PySem.W.Frag} {F:Wd} {H:Hp} {p:Addr} {ts:List T} {us:List V} (h:H p=some (.lst us)) (r:Ao K F H ts us):Bf K F H (.lst ts) (.ref p) [p]:=by
 simp only [Bf]
 exact ⟨p,us,rfl,h,r,rfl⟩
theorem ER (h:FA X Z es g):FE X Z (.List es pos) (AE Ek g):=by
 refine Bz (pe_lst h) fun σ H Q ⟨F,B,fs,ok,s⟩=>⟨F,B,fs,ok,A2 s fun rs fs1 F1 H1 us l q s1=>?_⟩
 obtain ⟨ok1,q⟩:=q
 split at s1
 ·rename_i ts e
  have r:=Ha q e
  split at s1
  ·rename_i hl
   exact ⟨by rw [r.len];exact Nat.le_trans hl ET,fun p hp=>s1 F1 (upd H1 p (.lst us)) (.ref p) (Bp ok1 hp) (RR.alloc ok1 hp (DA AV (r.le (Bp ok1 hp))))⟩
  ·exact s1.elim
 ·exact s1.elim
def gNewK:FS->Out Rv:=fun fs=>.ok (.nw (.dK [] [])) fs
def gNewT:FS->Out Rv:=fun fs=>.ok (.nw (.dT [] [])) fs
theorem Fd:FE X Z (.Dict [] [] pos) gNewK:=by
 refine Bz pe_dnewK fun σ H Q ⟨F,B,fs,ok,s⟩ p hp=>s F (upd H p (.dK [])) (.ref p) (Bp ok hp) (RR.alloc ok hp ?_)
 simp only [Bf,Ao]
 exact ⟨p,[],rfl,AV,rfl,rfl,rfl⟩
theorem fe_dnewT:FE X Z (.Dict [] [] pos) gNewT:=by
 refine Bz pe_dnewT fun σ H Q ⟨F,B,fs,ok,s⟩ p hp=>s F (upd H p (.dT [])) (.ref p) (Bp ok hp) (RR.alloc ok hp ?_)
 simp only [Bf,Ao]
 exact ⟨p,[],rfl,AV,rfl,rfl,rfl⟩
end
def Ep (K:PySem.W.Frag) (Z:Xp) (r:List V->Hp->VK->Prop) (g:List Rv->FS->Out Rv):Prop:=∀ (F:Wd) (B:Nat->Option V) (H:Hp) (σ:St) (fs:FS) (rs:List Rv) (vs:List V) (Q:VK),Okk K F B H fs σ->RelFs K F H σ rs vs ->
 sat Z B (RR K B σ) F H (g rs fs) Q->r vs H Q
def Al (g:List Rv->FS->Out Rv) (f:FS->Out (List Rv)):FS->Out Rv:=fun fs=>(f fs).bind fun rs fs=>g rs fs
section
variable {X:Cx} {Z:Xp} {e:Expr} {es:List Expr} {fa:FS->Out (List Rv)} {g:List Rv->FS->Out Rv} {r:List V->Hp->VK->Prop} {pos p:Pos} {x:Str} {id Ty:String}
theorem GX (hg':Ep X.K Z r g) (hc:DO X (.builtin id) r) (hm:X.mg x=none) (hv:bootBuiltins x=some (.builtin id)) (ha:FA X Z (e :: es) fa) (hg:Gl X x:=by rfl) (hn:x≠"__name__":=by decide) (hdb:(x == ("__debug__":Str))=false:=by decide)
  (he:starEach (e :: es) X.env=(false,eval e X.env) :: starEach es X.env:=by rfl) (hpl:(backTo pos (starEach es X.env)).any (·.1)=false:=by rfl):FE X Z (.Call (.Name x p) (e :: es) [] pos) (Al g fa) :=
 Bz (pe_callB hc hg hm hv ha hn hdb he hpl) fun σ H Q ⟨F,B,fs,ok,s⟩=>⟨F,B,fs,ok,A2 s fun rs fs1 F1 H1 us l q s1=>hg' F1 B H1 σ fs1 rs us Q q.1 q.2 s1⟩
theorem HG (hg':Ep X.K Z r g) (hc:DO X (.type Ty) r) (hm:X.mg x=none) (hv:bootBuiltins x=some (.type Ty)) (ha:FA X Z (e :: es) fa) (hg:Gl X x:=by rfl) (hn:x≠"__name__":=by decide) (hdb:(x == ("__debug__":Str))=false:=by decide)
  (he:starEach (e :: es) X.env=(false,eval e X.env) :: starEach es X.env:=by rfl) (hpl:(backTo pos (starEach es X.env)).any (·.1)=false:=by rfl):FE X Z (.Call (.Name x p) (e :: es) [] pos) (Al g fa) :=
 Bz (pe_callTy hc hg hm hv ha hn hdb he hpl) fun σ H Q ⟨F,B,fs,ok,s⟩=>⟨F,B,fs,ok,A2 s fun rs fs1 F1 H1 us l q s1=>hg' F1 B H1 σ fs1 rs us Q q.1 q.2 s1⟩
end
def gLen:List Rv->FS->Out Rv
 | [x],fs=>match Dt fs x with
  | some ts=>okT (.int ts.length) fs
  | none=>match seqT x with
   | some ts=>okT (.int ts.length) fs
   | none=>.bad
 | _,_=>.bad
def gLenS:List Rv->FS->Out Rv
 | [.t (.str z)],fs=>if z.length<=big then okT (.int z.length) fs else .bad
 | _,_=>.bad
def Gv:List Rv->FS->Out Rv
 | [.t (.int i),.t (.int j)],fs=>okT (.int (if j < i then j else i)) fs
 | _,_=>.bad
def gInt1:List Rv->FS->Out Rv
 | [.t (.int i)],fs=>okT (.int i) fs
 | [.t (.bl k)],fs=>okT (.int (if k then 1 else 0)) fs
 | _,_=>.bad
def gSum:List Rv->FS->Out Rv
 | [x],fs=>match (Dt fs x).bind Dy with
  | some ns=>okT (.int ns.sum) fs
  | none=>.bad
 | _,_=>.bad
def gAll:List Rv->FS->Out Rv
 | [x],fs=>match (Dt fs x).bind Fh with
  | some ns=>okT (.bl (ns.all id)) fs
  | none=>.bad
 | _,_=>.bad
def gList:List Rv->FS->Out Rv
 | [x],fs=>match Dt fs x with
  | some ts=>.ok (.nw (.lst ts)) fs
  | none=>match seqT x with
   | some ts=>.ok (.nw (.lst ts)) fs
   | none=>.bad
 | _,_=>.bad
def FJ:List Rv->FS->Out Rv
 | [x],fs=>match Dt fs x with
  | some ts=>okT (.tup ts) fs
  | none=>match seqT x with
   | some ts=>okT (.tup ts) fs
   | none=>.bad
 | _,_=>.bad
def keyT:Key->T
 | .inl i=>.int i
 | .inr x=>.str x
def gListD:List Rv->FS->Out Rv
 | [.t (.dK ks _)],fs=>.ok (.nw (.lst (ks.map keyT))) fs
 | _,_=>.bad
section
variable {K:PySem.W.Frag} {Z:Xp}
theorem Cs {F:Wd} {H:Hp} {σ:St} {x:Rv} {vs:List V} (h:RelFs K F H σ [x] vs):∃ v,vs=[v]/\Di K F H σ x v:=by
 obtain ⟨v,w,rfl,h1,h2⟩:=h
 have:w=[]:=h2
 subst this
 exact ⟨v,rfl,h1⟩
theorem cf_len:Ep K Z (fun xs H Q=>∃ p ys,xs=[.ref p]/\(SqL K H p ys∨SqT K H p ys)/\Q (.int ys.length) H) gLen:=by
 intro F B H σ fs rs vs Q ok q s
 unfold gLen at s
 split at s
 ·obtain ⟨v,rfl,qq⟩:=Cs q
  have q:=qq
  split at s
  ·rename_i ts e
   obtain ⟨a,us,rfl,hs,r⟩:=CG ok q e
   exact ⟨a,us,rfl,.inl hs,by rw [r.len];exact s F H _ Le.refl (RR.of ok rfl)⟩
  ·split at s
   ·rename_i ts e
    obtain ⟨a,us,rfl,hs,r⟩:=DH q e
    exact ⟨a,us,rfl,.inr hs,by rw [r.len];exact s F H _ Le.refl (RR.of ok rfl)⟩
   ·exact s.elim
 ·exact s.elim
theorem cf_lenS:Ep K Z (fun xs H Q=>∃ z,xs=[.str z]/\z.length<=sizeLine/\Q (.int z.length) H) gLenS:=by
 intro F B H σ fs rs vs Q ok q s
 unfold gLenS at s
 split at s
 ·rename_i z
  obtain ⟨v,rfl,qq⟩:=Cs q
  have q:=qq
  cases q
  split at s
  ·rename_i hz
   exact ⟨z,rfl,Nat.le_trans hz ET,s F H _ Le.refl (RR.of ok rfl)⟩
  ·exact s.elim
 ·exact s.elim
theorem cf_min2:Ep K Z (fun xs H Q=>∃ i j,xs=[.int i,.int j]/\Q (.int (if j < i then j else i)) H) Gv:=by
 intro F B H σ fs rs vs Q ok q s
 unfold Gv at s
 split at s
 ·rename_i i j
  obtain ⟨v,w,rfl,q1,v2,w2,rfl,q2,q3⟩:=q
  cases q1
  cases q2
  cases q3
  exact ⟨i,j,rfl,s F H _ Le.refl (RR.of ok rfl)⟩
 ·exact s.elim
theorem cf_int1:Ep K Z (fun xs H Q=>(∃ i,xs=[.int i]/\Q (.int i) H)∨∃ k,xs=[.bl k]/\Q (.int (if k then 1 else 0)) H) gInt1:=by
 intro F B H σ fs rs vs Q ok q s
 unfold gInt1 at s
 split at s
 ·obtain ⟨v,rfl,qq⟩:=Cs q
  have q:=qq
  cases q
  exact .inl ⟨_,rfl,s F H _ Le.refl (RR.of ok rfl)⟩
 ·obtain ⟨v,rfl,qq⟩:=Cs q
  have q:=qq
  cases q
  exact .inr ⟨_,rfl,s F H _ Le.refl (RR.of ok rfl)⟩
 ·exact s.elim
theorem cf_sum:Ep K Z (fun xs H Q=>∃ (l:Addr) (ns:List Int),xs=[.ref l]/\SqL K H l (ns.map V.int)/\Q (.int ns.sum) H) gSum:=by
 intro F B H σ fs rs vs Q ok q s
 unfold gSum at s
 split at s
 ·obtain ⟨v,rfl,qq⟩:=Cs q
  have q:=qq
  split at s
  ·rename_i ns e
   rw [Option.bind_eq_some_iff] at e
   obtain ⟨ts,e1,e2⟩:=e
   obtain ⟨a,us,rfl,hs,r⟩:=CG ok q e1
   rw [asInts_eq e2] at r
   rw [Ao.ints r] at hs
   exact ⟨a,ns,rfl,hs,s F H _ Le.refl (RR.of ok rfl)⟩
  ·exact s.elim
 ·exact s.elim
theorem cf_all:Ep K Z (fun xs H Q=>∃ (l:Addr) (bs:List Bool),xs=[.ref l]/\SqL K H l (bs.map V.bl)/\Q (.bl (bs.all id)) H) gAll:=by
 intro F B H σ fs rs vs Q ok q s
 unfold gAll at s
 split at s
 ·obtain ⟨v,rfl,qq⟩:=Cs q
  have q:=qq
  split at s
  ·rename_i ns e
   rw [Option.bind_eq_some_iff] at e
   obtain ⟨ts,e1,e2⟩:=e
   obtain ⟨a,us,rfl,hs,r⟩:=CG ok q e1
   rw [asBls_eq e2] at r
   rw [Ao.bls r] at hs
   exact ⟨a,ns,rfl,hs,s F H _ Le.refl (RR.of ok rfl)⟩
  ·exact s.elim
 ·exact s.elim
theorem cf_list:Ep K Z (fun xs H Q=>∃ p ys,xs=[.ref p]/\(SqL K H p ys∨SqT K H p ys)/\∀ l,H l=none->Q (.ref l) (upd H l (.lst ys))) gList:=by
 intro F B H σ fs rs vs Q ok q s
 unfold gList at s
 split at s
 ·obtain ⟨v,rfl,qq⟩:=Cs q
  have q:=qq
  split at s
  ·rename_i ts e
   obtain ⟨a,us,rfl,hs,r⟩:=CG ok q e
   exact ⟨a,us,rfl,.inl hs,fun p hp=>s F (upd H p (.lst us)) (.ref p) (Bp ok hp) (RR.alloc ok hp (DA AV (r.le (Bp ok hp))))⟩
  ·split at s
   ·rename_i ts e
    obtain ⟨a,us,rfl,hs,r⟩:=DH q e
    exact ⟨a,us,rfl,.inr hs,fun p hp=>s F (upd H p (.lst us)) (.ref p) (Bp ok hp) (RR.alloc ok hp (DA AV (r.le (Bp ok hp))))⟩
   ·exact s.elim
 ·exact s.elim
theorem Gm {F:Wd} {H:Hp} {ts:List T} {us:List V} {p:Addr} {σ:St} {B:Nat->Option V} {fs:FS} (ok:Okk K F B H fs σ) (hp:H p=none) (r:Ao K F H ts us):RR K B σ (addF F p) (upd H p (.tup us)) fs (.t (.tup ts)) (.ref p):=by
 refine RR.of (ok.alloc hp) ?_
 simp only [Di,Bj]
 exact ⟨p,us,rfl,⟨rfl,.inr rfl,AV⟩,r.le (Ce ok hp)⟩
theorem rel_newLst {F:Wd} {H:Hp} {ts:List T} {us:List V} {p:Addr} {σ:St} {B:Nat->Option V} {fs:FS} (ok:Okk K F B H fs σ) (hp:H p=none) (r:Ao K F H ts us):RR K B σ (addF F p) (upd H p (.lst us)) fs (.t (.lst ts)) (.ref p):=by
 refine RR.of (ok.alloc hp) ?_
 simp only [Di,Bj]
 exact ⟨p,us,rfl,.inr rfl,AV,r.le (Ce ok hp)⟩
theorem cf_tuple:Ep K Z (fun xs H Q=>∃ p ys,xs=[.ref p]/\((SqL K H p ys/\∀ l,H l=none->Q (.ref l) (upd H l (.tup ys)))∨(SqT K H p ys/\Q (.ref p) H))) FJ:=by
 intro F B H σ fs rs vs Q ok q s
 unfold FJ at s
 split at s
 ·rename_i x
  obtain ⟨v,rfl,qq⟩:=Cs q
  have q:=qq
  split at s
  ·rename_i ts e
   obtain ⟨a,us,rfl,hs,r⟩:=CG ok q e
   exact ⟨a,us,rfl,.inl ⟨hs,fun p hp=>s _ _ (.ref p) (Ce ok hp) (Gm ok hp r)⟩⟩
  ·split at s
   ·rename_i ts e
    obtain ⟨a,us,rfl,hs,r⟩:=DH q e
    have ex:x=.t (.tup ts):=by
     unfold seqT at e
     split at e
     ·cases e;rfl
     ·cases e
    rw [ex] at q
    exact ⟨a,us,rfl,.inr ⟨hs,s F H _ Le.refl (RR.of ok q)⟩⟩
   ·exact s.elim
 ·exact s.elim
theorem keyT_rel {F:Wd} {H:Hp}:∀ ks:List Key,Ao K F H (ks.map keyT) (ks.map kV)
 | []=>by simp [Ao]
 | .inl i :: r=>by
  simp only [List.map_cons,Ao]
  exact ⟨_,_,rfl,rfl,keyT_rel r⟩
 | .inr i :: r=>by
  simp only [List.map_cons,Ao]
  exact ⟨_,_,rfl,rfl,keyT_rel r⟩
theorem cf_listD:Ep K Z (fun xs H Q=>∃ p kvs,xs=[.ref p]/\Rd H p (.dK kvs)/\∀ l,H l=none->Q (.ref l) (upd H l (.lst (kvs.map fun kv=>kV kv.1)))) gListD:=by
 intro F B H σ fs rs vs Q ok q s
 unfold gListD at s
 split at s
 ·rename_i ks ts
  obtain ⟨v,rfl,qq⟩:=Cs q
  have q:=qq
  simp only [Di,Bj] at q
  obtain ⟨a,kvs,rfl,f,hd,rfl,r⟩:=q
  refine ⟨a,kvs,rfl,hd,fun p hp=>s F _ (.ref p) (Bp ok hp) (RR.alloc ok hp (DA AV ?_))⟩
  have e:(kvs.map fun kv=>kV kv.1)=(kvs.map (·.1)).map kV:=by rw [List.map_map];rfl
  rw [e]
  exact keyT_rel _
 ·exact s.elim
end
end FL
namespace FL
open PySem PySem.Spec L2
def MtF (K:PySem.W.Frag) (Z:Xp) (r:V->List V->Hp->VK->Prop) (g:Rv->List Rv->FS->Out Rv):Prop:=∀ (F:Wd) (B:Nat->Option V) (H:Hp) (σ:St) (fs:FS) (x:Rv) (rs:List Rv) (u:V) (vs:List V) (Q:VK),Okk K F B H fs σ->Di K F H σ x u->RelFs K F H σ rs vs ->
 sat Z B (RR K B σ) F H (g x rs fs) Q->r u vs H Q
def A0 (g:Rv->List Rv->FS->Out Rv) (fo:FS->Out Rv) (fa:FS->Out (List Rv)):FS->Out Rv:=fun fs=>(fo fs).bnd fun x fs=>if (Dt fs x).isSome=true then (fa fs).bind fun rs fs=>g x rs fs else .bad
def GK (g:Rv->List Rv->FS->Out Rv) (fo:FS->Out Rv) (fa:FS->Out (List Rv)):FS->Out Rv:=fun fs=>(fo fs).bnd fun x fs=>match x with
 | .t (.str _)=>(fa fs).bind fun rs fs=>g x rs fs
 | _=>.bad
section
variable {X:Cx} {Z:Xp} {o e:Expr} {es:List Expr} {fo:FS->Out Rv} {fa:FS->Out (List Rv)} {g:Rv->List Rv->FS->Out Rv} {r:V->List V->Hp->VK->Prop} {apos cpos:Pos} {name:Str} {id:String}
theorem fe_bm (hg:MtF X.K Z r g) (slot:Slot "list" name id) (hty:typeOf (.builtin id)=pure (.type "method_descriptor")) (hm:MtR X id r) (ho:FE X Z o fo) (ha:FA X Z (e :: es) fa)
  (hbase:attributeBase o name X.env (eval o X.env)=eval o X.env:=by rfl)
  (hfew:((backTo cpos (starEach (e :: es) X.env)).all (fun x=>!x.1) && (backToKw cpos (keywordEach [] X.env)).all (fun x=>x.1.isSome)
   && decide ((e :: es).length+([]:List Keyword).length+(if ([]:List Keyword).isEmpty then 0 else 1) < 30))=true:=by rfl)
  (hline:(apos.endLine == cpos.line)=true:=by rfl) (hs:starEach (e :: es) X.env=(false,eval e X.env) :: starEach es X.env:=by rfl) (hplain:(backTo cpos (starEach es X.env)).any (·.1)=false:=by rfl) :
  FE X Z (.Call (.Attribute o name apos) (e :: es) [] cpos) (A0 g fo fa):=by
 refine Bz (pe_bm PySem.F.plainAttrs_list slot hty hm ho ha hbase hfew hline hs hplain) fun σ H Q ⟨F,B,fs,ok,s⟩=>⟨F,B,fs,ok,Bb s fun x fs1 F1 H1 u l ok1 rx s1=>?_⟩
 split at s1
 ·rename_i he
  obtain ⟨ts,ets⟩:=Option.isSome_iff_exists.mp he
  obtain ⟨a,vs,rfl,hs,q⟩:=CG ok1 rx ets
  exact ⟨.inl ⟨rfl,vs,hs⟩,F1,B,fs1,ok1,A2 s1 fun rs fs2 F2 H2 us l2 q2 s2=>hg F2 B H2 σ fs2 x rs _ us Q q2.1 (rx.le l2) q2.2 s2⟩
 ·exact s1.elim
theorem fe_bm0 (hg:MtF X.K Z r g) (slot:Slot "list" name id) (hty:typeOf (.builtin id)=pure (.type "method_descriptor")) (hm:MtR X id r) (ho:FE X Z o fo)
  (hbase:attributeBase o name X.env (eval o X.env)=eval o X.env:=by rfl) (hline:(apos.endLine == cpos.line)=true:=by rfl):FE X Z (.Call (.Attribute o name apos) [] [] cpos) (A0 g fo Am):=by
 refine Bz (pe_bm0 PySem.F.plainAttrs_list slot hty hm ho hbase hline) fun σ H Q ⟨F,B,fs,ok,s⟩=>⟨F,B,fs,ok,Bb s fun x fs1 F1 H1 u l ok1 rx s1=>?_⟩
 split at s1
 ·rename_i he
  obtain ⟨ts,ets⟩:=Option.isSome_iff_exists.mp he
  obtain ⟨a,vs,rfl,hs,q⟩:=CG ok1 rx ets
  exact ⟨.inl ⟨rfl,vs,hs⟩,hg F1 B H1 σ fs1 x [] _ [] Q ok1 rx rfl s1⟩
 ·exact s1.elim
theorem fe_bmS (hg:MtF X.K Z r g) (slot:Slot "str" name id) (hty:typeOf (.builtin id)=pure (.type "method_descriptor")) (hm:MtR X id r) (ho:FE X Z o fo) (ha:FA X Z (e :: es) fa)
  (hbase:attributeBase o name X.env (eval o X.env)=eval o X.env:=by rfl)
  (hfew:((backTo cpos (starEach (e :: es) X.env)).all (fun x=>!x.1) && (backToKw cpos (keywordEach [] X.env)).all (fun x=>x.1.isSome)
   && decide ((e :: es).length+([]:List Keyword).length+(if ([]:List Keyword).isEmpty then 0 else 1) < 30))=true:=by rfl)
  (hline:(apos.endLine == cpos.line)=true:=by rfl) (hs:starEach (e :: es) X.env=(false,eval e X.env) :: starEach es X.env:=by rfl) (hplain:(backTo cpos (starEach es X.env)).any (·.1)=false:=by rfl) :
  FE X Z (.Call (.Attribute o name apos) (e :: es) [] cpos) (GK g fo fa):=by
 refine Bz (pe_bm PySem.F.plainAttrs_str slot hty hm ho ha hbase hfew hline hs hplain) fun σ H Q ⟨F,B,fs,ok,s⟩=>⟨F,B,fs,ok,Bb s fun x fs1 F1 H1 u l ok1 rx s1=>?_⟩
 split at s1
 ·have rx2:=rx
  cases rx
  exact ⟨rfl,F1,B,fs1,ok1,A2 s1 fun rs fs2 F2 H2 us l2 q2 s2=>hg F2 B H2 σ fs2 _ rs _ us Q q2.1 (Di.le rx2 l2) q2.2 s2⟩
 ·exact s1.elim
end
def Ex:Rv->List Rv->FS->Out Rv
 | .rf i,[.t t],fs=>match A9 fs i with
  | some (.lst ts)=>if ts.length < big then .ok (.t .non) (putAt fs i (.lst (ts++[t]))) else .bad
  | _=>.bad
 | _,_,_=>.bad
def gPop:Rv->List Rv->FS->Out Rv
 | .rf i,[],fs=>match A9 fs i with
  | some (.lst ts)=>match ts.getLast? with
   | some t=>.ok (.t t) (putAt fs i (.lst ts.dropLast))
   | none=>.bad
  | _=>.bad
 | _,_,_=>.bad
def GI:Rv->List Rv->FS->Out Rv
 | .rf i,[],fs=>match A9 fs i with
  | some (.lst _)=>.ok (.t .non) (putAt fs i (.lst []))
  | _=>.bad
 | _,_,_=>.bad
def gExt:Rv->List Rv->FS->Out Rv
 | .rf i,[.t (.lst us)],fs=>match A9 fs i with
  | some (.lst ts)=>if ts.length+us.length<=big then .ok (.t .non) (putAt fs i (.lst (ts++us))) else .bad
  | _=>.bad
 | _,_,_=>.bad
def HC:Rv->List Rv->FS->Out Rv
 | .t (.str z),[x],fs=>match (Dt fs x).bind Dx with
  | some ys=>if (ys.map (·.length)).sum+ys.length * z.length<=big then okT (.str (Txt.join z ys)) fs else .bad
  | none=>.bad
 | _,_,_=>.bad
section
variable {K:PySem.W.Frag} {Z:Xp} {B:Nat->Option V} {F:Wd} {H:Hp} {σ:St} {fs:FS} {i:Nat} {u:V} {ts:List T}
theorem Ao.last {vs:List V} {t:T} (r:Ao K F H ts vs) (e:ts.getLast?=some t):∃ z,vs=vs.dropLast++[z]/\Bj K F H t z/\Ao K F H ts.dropLast vs.dropLast:=by
 have hl:=r.len
 rw [List.getLast?_eq_getElem?] at e
 obtain ⟨z,ez,rz⟩:=r.at e
 have hpos:0 < ts.length:=by
  have:=(List.getElem?_eq_some_iff.mp e).1
  omega
 refine ⟨z,?_,rz,?_⟩
 ·have hne:vs≠[]:=by intro q;rw [q] at hl;simp at hl;omega
  have h1:=(List.dropLast_concat_getLast hne).symm
  have h2:vs.getLast hne=z:=by
   rw [List.getLast_eq_getElem]
   have:=(List.getElem?_eq_some_iff.mp ez)
   obtain ⟨h3,h4⟩:=this
   rw [<- h4]
   congr 1
   rw [hl]
  rw [h2] at h1
  exact h1
 ·rw [List.dropLast_eq_take,List.dropLast_eq_take,hl]
  exact r.take _
theorem Okk.list (h:Okk K F B H fs σ) (r:σ[i]?=some (some u)) (e:A9 fs i=some (.lst ts)):∃ a vs,u=.ref a/\H a=some (.lst vs)/\Ao K F H ts vs /\
  ∀ ts' vs',Ao K F H ts' vs'->Okk K F B (upd H a (.lst vs')) (putAt fs i (.lst ts')) σ/\Le F H F (upd H a (.lst vs')):=by
 obtain ⟨v,L2,e1,q,nf,_,k⟩:=h.own e
 rw [e1] at r
 have e3:v=u:=by simpa using r
 subst e3
 simp only [Bf] at q
 obtain ⟨a,vs,rfl,hs,q,rfl⟩:=q
 refine ⟨a,vs,rfl,hs,q,fun ts' vs' q'=>?_⟩
 have l:Le F H F (upd H a (.lst vs')):=⟨fun b f=>⟨f,AG fun z=>(nf a (by simp)).1 (z▸f)⟩,fun b f=>⟨f,AG fun z=>(nf a (by simp)).2 (z▸f)⟩⟩
 exact k _ _ (fun b hb _=>AG (by simpa using hb)) (DA AV (q'.le l))
theorem Hr:MtF K Z rAppend Ex:=by
 intro F B H σ fs x rs u vs Q ok rx q s
 unfold Ex at s
 split at s
 ·rename_i i t
  obtain ⟨v,rfl,qq⟩:=Cs q
  have q:=qq
  split at s
  ·rename_i ts e
   split at s
   ·rename_i hl
    obtain ⟨a,us,rfl,hs,r,k⟩:=ok.list rx e
    obtain ⟨ok',l⟩:=k (ts++[t]) (us++[v]) (r.app (Ao.one q))
    exact ⟨a,us,v,rfl,rfl,hs,by rw [r.len];exact Nat.lt_trans hl big_lt,s F _ _ l (RR.of ok' rfl)⟩
   ·exact s.elim
  ·exact s.elim
 ·exact s.elim
theorem mf_pop:MtF K Z (fun x vs H Q=>∃ l e z,x=.ref l/\vs=[]/\H l=some (.lst (e++[z]))/\Q z (upd H l (.lst e))) gPop:=by
 intro F B H σ fs x rs u vs Q ok rx q s
 unfold gPop at s
 split at s
 ·have:vs=[]:=q
  subst this
  split at s
  ·rename_i ts e
   split at s
   ·rename_i t et
    obtain ⟨a,us,rfl,hs,r,k⟩:=ok.list rx e
    obtain ⟨z,ez,rz,rd⟩:=r.last et
    obtain ⟨ok',l⟩:=k _ _ rd
    refine ⟨a,us.dropLast,z,rfl,rfl,by rw [<- ez];exact hs,s F _ z l (RR.of ok' (Bj.le l rz))⟩
   ·exact s.elim
  ·exact s.elim
 ·exact s.elim
theorem mf_clear:MtF K Z rClear GI:=by
 intro F B H σ fs x rs u vs Q ok rx q s
 unfold GI at s
 split at s
 ·have:vs=[]:=q
  subst this
  split at s
  ·rename_i ts e
   obtain ⟨a,us,rfl,hs,r,k⟩:=ok.list rx e
   obtain ⟨ok',l⟩:=k [] [] rfl
   exact ⟨a,us,rfl,rfl,hs,s F _ _ l (RR.of ok' rfl)⟩
  ·exact s.elim
 ·exact s.elim
theorem mf_ext:MtF K Z rExtend gExt:=by
 intro F B H σ fs x rs u vs Q ok rx q s
 unfold gExt at s
 split at s
 ·rename_i i ws
  obtain ⟨v,rfl,qq⟩:=Cs q
  have q:=qq
  split at s
  ·rename_i ts e
   split at s
   ·rename_i hl
    obtain ⟨a,us,rfl,hs,r,k⟩:=ok.list rx e
    simp only [Di,Bj] at q
    obtain ⟨b,zs,rfl,f,hb,rz⟩:=q
    obtain ⟨ok',l⟩:=k _ _ (r.app rz)
    exact ⟨a,b,us,zs,rfl,rfl,hs,hb,by rw [r.len,rz.len];exact Nat.le_trans hl ET,s F _ _ l (RR.of ok' rfl)⟩
   ·exact s.elim
  ·exact s.elim
 ·exact s.elim
theorem mf_join:MtF K Z (fun x xs H Q=>∃ (z:Str) (l:Addr) (ys:List Str),x=.str z/\xs=[.ref l]/\SqL K H l (ys.map V.str)/\(ys.map (·.length)).sum+ys.length * z.length<=16777216/\Q (.str (Txt.join z ys)) H) HC:=by
 intro F B H σ fs x rs u vs Q ok rx q s
 unfold HC at s
 split at s
 ·rename_i z x
  obtain ⟨v,rfl,qq⟩:=Cs q
  have q:=qq
  cases rx
  split at s
  ·rename_i ys e
   rw [Option.bind_eq_some_iff] at e
   obtain ⟨ts,e1,e2⟩:=e
   split at s
   ·rename_i hl
    obtain ⟨a,us,rfl,hs,r⟩:=CG ok q e1
    rw [asStrs_eq e2] at r
    rw [Ao.strs r] at hs
    exact ⟨z,a,ys,rfl,rfl,hs,Nat.le_trans hl (by decide),s F H _ Le.refl (RR.of ok rfl)⟩
   ·exact s.elim
  ·exact s.elim
 ·exact s.elim
end
def tKey:T->Option Key
 | .int i=>some (.inl i)
 | .str x=>some (.inr x)
 | _=>none
def Fz:List T->Option (List Key)
 | []=>some []
 | t :: r=>(tKey t).bind fun k=>(Fz r).map (k :: ·)
theorem GR {K:PySem.W.Frag} {F:Wd} {H:Hp} {t:T} {u:V} {k:Key} (e:tKey t=some k) (r:Bj K F H t u):u=kV k:=by
 unfold tKey at e
 split at e
 ·cases e;exact r
 ·cases e;exact r
 ·cases e
theorem Hd {K:PySem.W.Frag} {F:Wd} {H:Hp}:∀ {ts:List T} {us:List V} {ks:List Key},Fz ts=some ks->Ao K F H ts us->us=ks.map kV
 | [],_,_,e,r=>by cases e;exact r
 | t :: ts,_,_,e,r=>by
  simp only [Fz,Option.bind_eq_some_iff,Option.map_eq_some_iff] at e
  obtain ⟨k,e1,ks,e2,rfl⟩:=e
  simp only [Ao] at r
  obtain ⟨v,w,rfl,r1,r2⟩:=r
  rw [List.map_cons,Hd e2 r2,GR e1 r1]
def DP {κ:Type} [DecidableEq κ]:List κ->List T->κ->Option T
 | k :: ks,t :: ts,j=>if k=j then some t else DP ks ts j
 | _,_,_=>none
def Hk {κ:Type} [DecidableEq κ] (ks:List κ) (ts:List T) (j:κ) (v:T):List κ×List T :=
 if (ks.any fun k=>decide (k=j))=true then (ks,List.zipWith (fun k t=>if k=j then v else t) ks ts) else (ks++[j],ts++[v])
section
variable {K:PySem.W.Frag} {F:Wd} {H:Hp} {κ:Type} [DecidableEq κ]
theorem valT_rel:∀ {kvs:List (κ×V)} {ts:List T} {j:κ},Ao K F H ts (kvs.map (·.2))->(DP (kvs.map (·.1)) ts j=none/\valV kvs j=none)∨∃ t v,DP (kvs.map (·.1)) ts j=some t/\valV kvs j=some v/\Bj K F H t v
 | [],ts,j,r=>by
  have h:=r.len
  cases ts with
  | nil=>exact .inl ⟨rfl,rfl⟩
  | cons t ts=>simp at h
 | (k,v) :: kvs,ts,j,r=>by
  cases ts with
  | nil =>
   have h:=r.len
   simp at h
  | cons t ts =>
   simp only [List.map_cons,Ao] at r
   obtain ⟨v',w,e,r1,r2⟩:=r
   cases e
   by_cases hk:k=j
   ·refine .inr ⟨t,v,?_,GO hk,r1⟩
    simp only [List.map_cons,DP]
    rw [if_pos hk]
   ·have e1:DP (((k,v) :: kvs).map (·.1)) (t :: ts) j=DP (kvs.map (·.1)) ts j:=by
     simp only [List.map_cons,DP]
     rw [if_neg hk]
    rw [e1,GP (p:=(k,v)) hk]
    exact valT_rel r2
theorem zip_rel {j:κ} {t:T} {w:V} (q:Bj K F H t w):∀ {kvs:List (κ×V)} {ts:List T},Ao K F H ts (kvs.map (·.2)) ->
  Ao K F H (List.zipWith (fun k t'=>if k=j then t else t') (kvs.map (·.1)) ts) ((kvs.map fun kv=>if kv.1=j then (kv.1,w) else kv).map (·.2))
 | [],ts,r=>by
  have h:=r.len
  cases ts with
  | cons t ts=>simp at h
  | nil=>exact rfl
 | (k,v) :: kvs,ts,r=>by
  cases ts with
  | nil =>
   have h:=r.len
   simp at h
  | cons t' ts =>
   simp only [List.map_cons,Ao] at r
   obtain ⟨v',w',e,r1,r2⟩:=r
   cases e
   have ih:=zip_rel q (j:=j) r2
   simp only [List.map_cons,List.zipWith_cons_cons,Ao]
   by_cases hk:k=j
   ·rw [if_pos hk,if_pos hk]
    exact ⟨w,_,rfl,q,ih⟩
   ·rw [if_neg hk,if_neg hk]
    exact ⟨v,_,rfl,r1,ih⟩
theorem putT_rel {j:κ} {t:T} {w:V} (q:Bj K F H t w) {kvs:List (κ×V)} {ts:List T} (r:Ao K F H ts (kvs.map (·.2))) :
  (putK kvs j w).map (·.1)=(Hk (kvs.map (·.1)) ts j t).1/\Ao K F H (Hk (kvs.map (·.1)) ts j t).2 ((putK kvs j w).map (·.2)):=by
 have e:((kvs.map (·.1)).any fun k=>decide (k=j))=(kvs.any fun kv=>decide (kv.1=j)):=by rw [List.any_map];rfl
 unfold putK Hk
 rw [e]
 by_cases h:(kvs.any fun kv=>decide (kv.1=j))=true
 ·rw [if_pos h,if_pos h]
  refine ⟨?_,zip_rel q r⟩
  rw [List.map_map]
  refine List.map_congr_left fun p hp=>?_
  show (if p.1=j then (p.1,w) else p).1=p.1
  split <;> rfl
 ·rw [if_neg h,if_neg h]
  refine ⟨by rw [List.map_append];rfl,?_⟩
  rw [List.map_append]
  exact r.app (Ao.one q)
end
def dget (fs:FS):Rv->T->Option (Option T)
 | .t (.dK ks ts),y=>(tKey y).map fun k=>DP ks ts k
 | .t (.dF ks ts),y=>(tKey y).map fun k=>DP ks ts k
 | .t (.dT ks ts),.tup y=>(Fz y).map fun k=>DP ks ts k
 | .rf i,y=>match A9 fs i with
  | some (.dK ks ts)=>(tKey y).map fun k=>DP ks ts k
  | some (.dT ks ts)=>match y with
   | .tup y=>(Fz y).map fun k=>DP ks ts k
   | _=>none
  | _=>none
 | _,_=>none
section
variable {K:PySem.W.Frag} {B:Nat->Option V} {F:Wd} {H:Hp} {σ:St} {fs:FS} {x:Rv} {y:T} {u w:V}
theorem dget_ok {o:Option T} (h:Okk K F B H fs σ) (rx:Di K F H σ x u) (ry:Bj K F H y w) (e:dget fs x y=some o) :
  ∃ a o',u=.ref a/\DGet H a w o'/\((o=none/\o'=none)∨∃ t v,o=some t/\o'=some v/\Bj K F H t v):=by
 have key:∀ {a:Addr} {kvs:List (Key×V)} {ts:List T},Rd H a (.dK kvs)->Ao K F H ts (kvs.map (·.2))->(tKey y).map (fun k=>DP (kvs.map (·.1)) ts k)=some o ->
   ∃ o',DGet H a w o'/\((o=none/\o'=none)∨∃ t v,o=some t/\o'=some v/\Bj K F H t v):=by
  intro a kvs ts hd r e
  rw [Option.map_eq_some_iff] at e
  obtain ⟨k,ek,eo⟩:=e
  have:=GR ek ry
  subst this
  refine ⟨_,.inl ⟨kvs,k,hd,rfl,rfl⟩,?_⟩
  rcases valT_rel (j:=k) r with ⟨h1,h2⟩ | ⟨t,v,h1,h2,h3⟩
  ·exact .inl ⟨eo.symm.trans h1,h2⟩
  ·exact .inr ⟨t,v,eo.symm.trans h1,h2,h3⟩
 have keyT:∀ {a:Addr} {kvs:List (List Key×V)} {ts ys:List T},H a=some (.dT kvs)->Ao K F H ts (kvs.map (·.2))->y=.tup ys->(Fz ys).map (fun k=>DP (kvs.map (·.1)) ts k)=some o ->
   ∃ o',DGet H a w o'/\((o=none/\o'=none)∨∃ t v,o=some t/\o'=some v/\Bj K F H t v):=by
  intro a kvs ts ys hd r ey e
  rw [Option.map_eq_some_iff] at e
  obtain ⟨k,ek,eo⟩:=e
  subst ey
  simp only [Bj] at ry
  obtain ⟨b,vs,rfl,hb,rb⟩:=ry
  have:=Hd ek rb
  subst this
  refine ⟨_,DGet.t hd hb.2.2,?_⟩
  rcases valT_rel (j:=k) r with ⟨h1,h2⟩ | ⟨t,v,h1,h2,h3⟩
  ·exact .inl ⟨eo.symm.trans h1,h2⟩
  ·exact .inr ⟨t,v,eo.symm.trans h1,h2,h3⟩
 unfold dget at e
 split at e
 ·simp only [Di,Bj] at rx
  obtain ⟨a,kvs,rfl,f,hd,rfl,r⟩:=rx
  obtain ⟨o',h1,h2⟩:=key hd r e
  exact ⟨a,o',rfl,h1,h2⟩
 ·simp only [Di,Bj] at rx
  obtain ⟨a,kvs,rfl,f,⟨ob,hd⟩,rfl,r⟩:=rx
  obtain ⟨o',h1,h2⟩:=key (.inr ⟨ob,hd⟩) r e
  exact ⟨a,o',rfl,h1,h2⟩
 ·simp only [Di,Bj] at rx
  obtain ⟨a,kvs,rfl,f,hd,rfl,r⟩:=rx
  obtain ⟨o',h1,h2⟩:=keyT hd r rfl e
  exact ⟨a,o',rfl,h1,h2⟩
 ·rename_i y' i
  have e2:σ[i]?=some (some u):=rx
  split at e
  ·rename_i eo
   obtain ⟨v,L2,e1,q,_⟩:=h.own eo
   rw [e1] at e2
   have e3:v=u:=by simpa using e2
   subst e3
   simp only [Bf] at q
   obtain ⟨a,kvs,rfl,hd,rfl,r,_⟩:=q
   obtain ⟨o',h1,h2⟩:=key (.inl hd) r e
   exact ⟨a,o',rfl,h1,h2⟩
  ·rename_i eo
   split at e
   ·obtain ⟨v,L2,e1,q,_⟩:=h.own eo
    rw [e1] at e2
    have e3:v=u:=by simpa using e2
    subst e3
    simp only [Bf] at q
    obtain ⟨a,kvs,rfl,hd,rfl,r,_⟩:=q
    obtain ⟨o',h1,h2⟩:=keyT hd r rfl e
    exact ⟨a,o',rfl,h1,h2⟩
   ·cases e
  ·cases e
 ·cases e
end
def gDGet:Rv->Rv->FS->Out Rv
 | x,.t y,fs=>match dget fs x y with
  | some (some t)=>okT t fs
  | _=>.bad
 | _,_,_=>.bad
def gDIn (neg:Bool):Rv->Rv->FS->Out Rv
 | .t y,x,fs=>match dget fs x y with
  | some o=>okT (.bl (if neg then !o.isSome else o.isSome)) fs
  | _=>.bad
 | _,_,_=>.bad
section
variable {X:Cx} {Z:Xp} {o i:Expr} {fo fi:FS->Out Rv} {pos:Pos}
end
def valF:List Str->List T->Str->Option T
 | f :: fs,t :: ts,g=>if g == f then some t else valF fs ts g
 | _,_,_=>none
def Eu:List Str->List FO->Str->Option FO
 | f :: fs,t :: ts,g=>if g == f then some t else Eu fs ts g
 | _,_,_=>none
def gFld (C:Addr) (f:Str):Rv->FS->Out Rv
 | .t (.ins C' fs ts),st=>if C'=C then match valF fs ts f with
   | some t=>okT t st
   | none=>.bad
  else .bad
 | .rf i,st=>match A9 st i with
  | some (.ins C' fs os)=>if C'=C then match Eu fs os f with
    | some (.val t)=>okT t st
    | _=>.bad
   else .bad
  | _=>.bad
 | _,_=>.bad
theorem valF_rel {K:PySem.W.Frag} {F:Wd} {H:Hp} {g:Str}:∀ {kvs:List (Str×V)} {ts:List T} {t:T},Ao K F H ts (kvs.map (·.2))->valF (kvs.map (·.1)) ts g=some t->∃ v,kvs.lookup g=some v/\Bj K F H t v
 | [],ts,t,r,e=>by cases ts <;> simp [valF] at e
 | (k,v) :: kvs,ts,t,r,e=>by
  cases ts with
  | nil=>simp [valF] at e
  | cons t' ts =>
   simp only [List.map_cons,Ao] at r
   obtain ⟨v',w',ee,r1,r2⟩:=r
   cases ee
   simp only [List.map_cons,valF] at e
   rw [List.lookup_cons]
   cases hb:g == k with
   | true =>
    rw [hb] at e
    cases e
    exact ⟨v,rfl,r1⟩
   | false =>
    rw [hb] at e
    exact valF_rel r2 (by simpa using e)
theorem valFo_rel {K:PySem.W.Frag} {F:Wd} {H:Hp} {g:Str}:∀ {kvs:List (Str×V)} {ts:List FO} {L:List Addr} {t:FO},BM K F H ts (kvs.map (·.2)) L->Eu (kvs.map (·.1)) ts g=some t->∃ v L',kvs.lookup g=some v/\Bf K F H t v L'/\∀ a∈L',a∈L
 | [],ts,L,t,r,e=>by cases ts <;> simp [Eu] at e
 | (k,v) :: kvs,ts,L,t,r,e=>by
  cases ts with
  | nil=>simp [Eu] at e
  | cons t' ts =>
   simp only [List.map_cons,BM] at r
   obtain ⟨v',w',L1,L2,ee,r1,r2,rfl⟩:=r
   cases ee
   simp only [List.map_cons,Eu] at e
   rw [List.lookup_cons]
   cases hb:g == k with
   | true =>
    rw [hb] at e
    cases e
    exact ⟨v,L1,rfl,r1,fun a m=>List.mem_append_left _ m⟩
   | false =>
    rw [hb] at e
    obtain ⟨v2,L',h1,h2,h3⟩:=valFo_rel r2 (by simpa using e)
    exact ⟨v2,L',h1,h2,fun a m=>List.mem_append_right _ (h3 a m)⟩
def fldF (C:Addr) (f:Str) (fo:FS->Out Rv):FS->Out Rv:=fun fs=>(fo fs).bnd fun x fs=>gFld C f x fs
section
variable {X:Cx} {Z:Xp} {o:Expr} {fo:FS->Out Rv} {pos:Pos} {C:Addr} {f:Str}
theorem fe_fld (c:Cls X.K C) (n:Et X.K C f) (ho:FE X Z o fo) (hb:attributeBase o f X.env (eval o X.env)=eval o X.env:=by rfl):FE X Z (.Attribute o f pos) (fldF C f fo):=by
 refine Bz (pe_fld ho hb) fun σ H Q ⟨F,B,fs,ok,s⟩=>⟨F,B,fs,ok,Bb s fun x fs1 F1 H1 u l ok1 rx s1=>?_⟩
 unfold gFld at s1
 split at s1
 ·rename_i C' gs ts
  split at s1
  ·rename_i hC
   subst hC
   split at s1
   ·rename_i t e
    simp only [Di,Bj] at rx
    obtain ⟨a,dx,kvs,rfl,ff,hd,rfl,r⟩:=rx
    obtain ⟨v,e1,rv⟩:=valF_rel r e
    exact ⟨a,C',dx,kvs,v,rfl,hd,c,n,e1,s1 F1 H1 v Le.refl (RR.of ok1 rv)⟩
   ·exact s1.elim
  ·exact s1.elim
 ·rename_i i
  split at s1
  ·rename_i C' gs os eo
   split at s1
   ·rename_i hC
    subst hC
    split at s1
    ·rename_i t e
     obtain ⟨v,L2,e1,q,_⟩:=ok1.own eo
     have e2:σ[i]?=some (some u):=rx
     rw [e1] at e2
     have e3:v=u:=by simpa using e2
     subst e3
     simp only [Bf] at q
     obtain ⟨a,dx,kvs,L',rfl,hd,rfl,r,_⟩:=q
     obtain ⟨v2,L3,e4,r4,_⟩:=valFo_rel r e
     simp only [Bf] at r4
     exact ⟨a,C',dx,kvs,v2,rfl,hd,c,n,e4,s1 F1 H1 v2 Le.refl (RR.of ok1 r4.2)⟩
    ·exact s1.elim
   ·exact s1.elim
  ·exact s1.elim
 ·exact s1.elim
end
end FL
namespace FL
open PySem PySem.Spec L2
def satS (K:PySem.W.Frag) (Z:Xp) (B:Nat->Option V) (F:Wd) (H:Hp) (o:SO) (D:Ends):Prop:=match o with
 | .nx fs=>∀ F' H' σ,Le F H F' H'->Okk K F' B H' fs σ->D.nx σ H'
 | .ret r fs=>∀ F' H' σ u,Le F H F' H'->RR K B σ F' H' fs r u->D.rt u H'
 | .brk fs=>∀ F' H' σ,Le F H F' H'->Okk K F' B H' fs σ->D.bk σ H'
 | .cnt fs=>∀ F' H' σ,Le F H F' H'->Okk K F' B H' fs σ->D.ct σ H'
 | .exc c fs=>Z.p F B H c fs
 | .bad=>False
def tSt (K:PySem.W.Frag) (Z:Xp) (g:FS->SO):TS:=fun D σ H=>∃ F B fs,Okk K F B H fs σ/\satS K Z B F H (g fs) D
def GS (X:Cx) (Z:Xp) (st:Stmt) (g:FS->SO):Prop:=PS X st (tSt X.K Z g)
def GSs (X:Cx) (Z:Xp) (sts:List Stmt) (g:FS->SO):Prop:=PSs X sts (tSt X.K Z g)
theorem satS.le {K:PySem.W.Frag} {Z:Xp} {B:Nat->Option V} {F F':Wd} {H H':Hp} {o:SO} {D:Ends} (h:satS K Z B F H o D) (l:Le F H F' H'):satS K Z B F' H' o D:=by
 cases o with
 | nx fs=>exact fun F2 H2 σ l2 k=>h F2 H2 σ (l.trans l2) k
 | ret r fs=>exact fun F2 H2 σ u l2 k=>h F2 H2 σ u (l.trans l2) k
 | brk fs=>exact fun F2 H2 σ l2 k=>h F2 H2 σ (l.trans l2) k
 | cnt fs=>exact fun F2 H2 σ l2 k=>h F2 H2 σ (l.trans l2) k
 | exc c fs=>exact Z.mono h l
 | bad=>exact h
def nxS:FS->SO:=fun fs=>.nx fs
def AL (g h:FS->SO):FS->SO:=fun fs=>match g fs with
 | .nx fs=>h fs
 | o=>o
def SO.of {α:Type} (o:Out α) (k:α->FS->SO):SO:=match o with
 | .ok a fs=>k a fs
 | .exc c fs=>.exc c fs
 | .bad=>.bad
theorem EF {K:PySem.W.Frag} {Z:Xp} {B:Nat->Option V} {F:Wd} {H:Hp} {α β:Type} {R:Wd->Hp->FS->α->β->Prop} {o:Out α} {k:α->FS->SO} {D:Ends} {Q:β->Hp->Prop} (h:satS K Z B F H (SO.of o k) D)
  (hk:∀ a fs F' H' b,Le F H F' H'->R F' H' fs a b->satS K Z B F' H' (k a fs) D->Q b H'):sat Z B R F H o Q:=by
 cases o with
 | ok a fs=>exact fun F2 H2 b l r=>hk a fs F2 H2 b l r (satS.le h l)
 | exc c fs=>exact h
 | bad=>exact h
def putSl (i:Nat) (r:Rv) (fs:FS):Option FS:=match r with
 | .t t=>some (fs.set i (some (.val t)))
 | .nw o=>some (fs.set i (some (.own o)))
 | .rf _=>none
def stSl (i:Nat) (r:Rv) (fs:FS):Option FS:=match fs[i]? with
 | none=>none
 | some (some (.bor _))=>none
 | some _=>putSl i r fs
theorem stSl_ok {K:PySem.W.Frag} {B:Nat->Option V} {σ:St} {F:Wd} {H:Hp} {fs fs':FS} {r:Rv} {u:V} {i:Nat} (h:RR K B σ F H fs r u) (e:stSl i r fs=some fs'):Okk K F B H fs' (σ.set i (some u)):=by
 obtain ⟨L,L',ok,q,nd,nf⟩:=h
 have key:∀ s:Option Sl,fs[i]?=some s->(∀ o,s≠some (.bor o))->putSl i r fs=some fs'->Okk K F B H fs' (σ.set i (some u)):=by
  intro s es hb e
  obtain ⟨v,L1,L2,L3,e1,rfl,h1,h2⟩:=ok.sl.pick es
  have dis:∀ a∈L',a∉L1++L3:=fun a m m2=>(List.nodup_append.mp nd).2.2 a (by
   rcases List.mem_append.mp m2 with m2 | m2
   ·simp [m2]
   ·simp [m2]) a m rfl
  have nf3:∀ a∈L1++(L'++L3),¬ F a/\¬ F.p a:=fun a m=>by
   rcases List.mem_append.mp m with m | m
   ·exact ⟨ok.nf a (by simp [m]),ok.pl a (by simp [m])⟩
   ·rcases List.mem_append.mp m with m | m
    ·exact nf a m
    ·exact ⟨ok.nf a (by simp [m]),ok.pl a (by simp [m])⟩
  cases r with
  | t t =>
   cases e
   obtain ⟨rfl,q⟩:=q
   refine ⟨L1++([]++L3),h2 F H (some (.val t)) (some u) [] Le.refl (fun _ _=>rfl) ⟨u,rfl,q,rfl⟩,Ea ok.nd List.nodup_nil (fun _ m=>nomatch m),fun a m=>(nf3 a m).1,ok.fd,?_,ok.pd,ok.pf,fun a m=>(nf3 a m).2⟩
   exact BorOk.put ok.bo (fun o eo=>by cases eo) ok.sl.len
  | nw o =>
   cases e
   refine ⟨L1++(L'++L3),h2 F H (some (.own o)) (some u) L' Le.refl (fun _ _=>rfl) ⟨u,rfl,q⟩,Ea ok.nd (List.nodup_append.mp nd).2.1 dis,fun a m=>(nf3 a m).1,ok.fd,?_,ok.pd,ok.pf,fun a m=>(nf3 a m).2⟩
   exact BorOk.put ok.bo (fun o eo=>by cases eo) ok.sl.len
  | rf j=>cases e
 unfold stSl at e
 split at e
 ·cases e
 ·cases e
 ·rename_i s hb es
  exact key s es (fun o z=>hb o z) e
def AY (i:Nat) (f:FS->Out Rv):FS->SO:=fun fs=>SO.of (f fs) fun r fs=>match stSl i r fs with
 | some fs=>.nx fs
 | none=>.bad
def Bi (f:FS->Out Rv):FS->SO:=fun fs=>SO.of (f fs) fun _ fs=>.nx fs
def retS (f:FS->Out Rv):FS->SO:=fun fs=>SO.of (f fs) fun r fs=>.ret r fs
def ifS (c:FS->Out Bool) (g h:FS->SO):FS->SO:=fun fs=>SO.of (c fs) fun b fs=>if b=true then g fs else h fs
section
variable {X:Cx} {Z:Xp} {st:Stmt} {rest a b:List Stmt} {e c:Expr} {f:FS->Out Rv} {fc:FS->Out Bool} {g h:FS->SO} {pos:Pos}
theorem AU:GSs X Z [] nxS:=pss_imp pss_nil fun D σ H ⟨F,B,fs,ok,s⟩=>s F H σ Le.refl ok
theorem Ae (h1:GS X Z st g) (h2:GSs X Z rest h):GSs X Z (st :: rest) (AL g h):=by
 refine pss_imp (pss_cons h1 h2) fun D σ H ⟨F,B,fs,ok,s⟩=>⟨F,B,fs,ok,?_⟩
 unfold AL at s
 cases e:g fs with
 | nx fs1 =>
  rw [e] at s
  exact fun F1 H1 σ1 l k=>⟨F1,B,fs1,k,satS.le s l⟩
 | ret r fs1=>rw [e] at s;exact s
 | brk fs1=>rw [e] at s;exact s
 | cnt fs1=>rw [e] at s;exact s
 | exc c fs1=>rw [e] at s;exact s
 | bad=>rw [e] at s;exact s
theorem An (h1:GS X Z st g):GSs X Z [st] g:=pss_one h1
theorem gs_break:GS X Z (.Break pos) (fun fs=>.brk fs):=EG ps_break fun D σ H ⟨F,B,fs,ok,s⟩=>s F H σ Le.refl ok
theorem CK (he:FE X Z e f) (hs:swapsWith e none pos.line X.env=pure false:=by rfl):GS X Z (.Expr e pos) (Bi f) :=
 EG (ps_expr he hs) fun D σ H ⟨F,B,fs,ok,s⟩=>⟨F,B,fs,ok,EF s fun r fs1 F1 H1 u l q s1=>s1 F1 H1 σ Le.refl q.ok⟩
theorem A6 (he:FE X Z e f):GS X Z (.Return (some e) pos) (retS f) :=
 EG (ps_ret he) fun D σ H ⟨F,B,fs,ok,s⟩=>⟨F,B,fs,ok,EF s fun r fs1 F1 H1 u l q s1=>s1 F1 H1 σ u Le.refl q⟩
theorem BP (hc:FT X Z c fc) (ha:GSs X Z a g) (hb:GSs X Z b h):GS X Z (.If c a b pos) (ifS fc g h):=by
 refine EG (ps_if hc ha hb) fun D σ H ⟨F,B,fs,ok,s⟩=>⟨F,B,fs,ok,EF s fun r fs1 F1 H1 u l q s1=>?_⟩
 obtain ⟨ok1,rfl⟩:=q
 cases u with
 | true =>
  rw [if_pos rfl] at s1 ⊢
  exact ⟨F1,B,fs1,ok1,s1⟩
 | false =>
  rw [if_neg (by decide)] at s1 ⊢
  exact ⟨F1,B,fs1,ok1,s1⟩
theorem set_t {i:Nat} {D:Ends} {σ:St} {H:Hp} {K:PySem.W.Frag} (s:tSt K Z (AY i f) D σ H):tAsg (tF K Z f) (gName i) D σ H:=by
 obtain ⟨F,B,fs,ok,s⟩:=s
 refine ⟨F,B,fs,ok,EF s fun r fs1 F1 H1 u l q s1=>?_⟩
 split at s1
 ·rename_i fs2 e2
  exact s1 F1 H1 _ Le.refl (stSl_ok q e2)
 ·exact s1.elim
theorem AJ (i:Nat) {x:Str} {pos':Pos} (hN:X.N.Nodup) (hx:Loc X.env.scope x) (he:FE X Z e f) (hi:X.N[i]?=some x:=by rfl) (hs:swapsWith e (some (.Name x pos')) pos.line X.env=pure false:=by rfl) (hf:X.fn x=true∨X.env.scope.names.lookup x=some .local:=by first | exact .inl rfl | exact .inr rfl | assumption) :
  GS X Z (.Assign [.Name x pos'] e pos) (AY i f) :=
 EG (ps_set hN hi hx he hs hf) fun _ _ _ s=>set_t s
end
def tG (K:PySem.W.Frag) (gt:T->FS->Option FS):TG:=fun v σ H Q=>∃ F B fs t,Okk K F B H fs σ/\Bj K F H t v/\match gt t fs with
 | some fs'=>∀ F' H' σ',Le F H F' H'->Okk K F' B H' fs' σ'->Q σ' H'
 | none=>False
def tGs (K:PySem.W.Frag) (gt:List T->FS->Option FS):TGs:=fun vs σ H Q=>∃ F B fs ts,Okk K F B H fs σ/\Ao K F H ts vs/\match gt ts fs with
 | some fs'=>∀ F' H' σ',Le F H F' H'->Okk K F' B H' fs' σ'->Q σ' H'
 | none=>False
def GT (X:Cx) (tg:Expr) (gt:T->FS->Option FS):Prop:=PG X tg (tG X.K gt)
def GTs (X:Cx) (tgs:List Expr) (gt:List T->FS->Option FS):Prop:=PGs X tgs (tGs X.K gt)
theorem pg_imp {X:Cx} {e:Expr} {t t':TG} (h:PG X e t) (i:∀ v σ H Q,t' v σ H Q->t v σ H Q):PG X e t':=fun pins s σ H v u Q I r q=>h pins s σ H v u Q I r (i _ _ _ _ q)
theorem pgs_imp {X:Cx} {e:List Expr} {t t':TGs} (h:PGs X e t) (i:∀ v σ H Q,t' v σ H Q->t v σ H Q):PGs X e t':=fun pins s σ H v u Q I r q=>h pins s σ H v u Q I r (i _ _ _ _ q)
def tgN (i:Nat):T->FS->Option FS:=fun t fs=>stSl i (.t t) fs
def Bn:List T->FS->Option FS
 | [],fs=>some fs
 | _,_=>none
def As (g:T->FS->Option FS) (h:List T->FS->Option FS):List T->FS->Option FS
 | t :: ts,fs=>(g t fs).bind fun fs=>h ts fs
 | _,_=>none
def Bo (n:Nat) (h:List T->FS->Option FS):T->FS->Option FS
 | .tup ts,fs=>if ts.length=n then h ts fs else none
 | _,_=>none
section
variable {X:Cx} {e:Expr} {es:List Expr} {g:T->FS->Option FS} {h:List T->FS->Option FS} {pos:Pos}
theorem AB (i:Nat) {x:Str} (hN:X.N.Nodup) (hx:Loc X.env.scope x) (hi:X.N[i]?=some x:=by rfl) (hf:X.fn x=true∨X.env.scope.names.lookup x=some .local:=by first | exact .inl rfl | exact .inr rfl | assumption):GT X (.Name x pos) (tgN i):=by
 refine pg_imp (pg_name hN hi hx hf) fun v σ H Q ⟨F,B,fs,t,ok,r,s⟩=>?_
 split at s
 ·rename_i fs' e
  exact s F H _ Le.refl (stSl_ok (RR.of (r:=.t t) ok r) e)
 ·exact s.elim
theorem C6:GTs X [] Bn:=by
 refine pgs_imp pgs_nil fun v σ H Q ⟨F,B,fs,ts,ok,r,s⟩=>?_
 cases ts with
 | nil=>exact ⟨r,s F H σ Le.refl ok⟩
 | cons t ts=>exact s.elim
theorem A4 (h1:GT X e g) (h2:GTs X es h)
  (hc:∀ {t:TG} {u:TGs},PG X e t->PGs X es u->PGs X (e :: es) (gCons t u)):GTs X (e :: es) (As g h):=by
 refine pgs_imp (hc h1 h2) fun v σ H Q ⟨F,B,fs,ts,ok,r,s⟩=>?_
 cases ts with
 | nil=>exact s.elim
 | cons t ts =>
  simp only [Ao] at r
  obtain ⟨v',w,rfl,r1,r2⟩:=r
  refine ⟨v',w,rfl,F,B,fs,t,ok,r1,?_⟩
  simp only [As] at s
  cases e1:g t fs with
  | none=>rw [e1] at s;exact s.elim
  | some fs1 =>
   rw [e1] at s
   exact fun F1 H1 σ1 l k=>⟨F1,B,fs1,ts,k,r2.le l,by
    simp only [Option.bind_some] at s
    split at s
    ·exact fun F2 H2 σ2 l2 k2=>s F2 H2 σ2 (l.trans l2) k2
    ·exact s.elim⟩
theorem Eb {k n:Nat} (hc:X.calm=true) (h1:GTs X es h) (hn:(assignEach es X.env).length=n:=by rfl) (hst:(assignEach es X.env).findIdx? (·.1)=none:=by rfl):GT X (.Tuple es k pos) (Bo n h):=by
 refine pg_imp (pg_tup hc h1 hn hst) fun v σ H Q ⟨F,B,fs,t,ok,r,s⟩=>?_
 unfold Bo at s
 split at s
 ·rename_i fs' e
  split at e
  ·rename_i ts
   split at e
   ·rename_i hl
    simp only [Bj] at r
    obtain ⟨a,vs,rfl,hs,r⟩:=r
    refine ⟨a,vs,rfl,hs.sq,by rw [r.len];exact hl,F,B,fs,ts,ok,r,?_⟩
    rw [e]
    exact s
   ·cases e
  ·cases e
 ·exact s.elim
end
section
variable {X:Cx} {Z:Xp} {e tg:Expr} {f:FS->Out Rv} {g:T->FS->Option FS} {pos:Pos}
end
def Nw (K:PySem.W.Frag) (F:Wd) (H:Hp) (F':Wd) (H':Hp):Prop:=Le F H F' H'/\∀ B fs σ,Okk K F B H fs σ->Okk K F' B H' fs σ
theorem Nw.refl {K:PySem.W.Frag} {F:Wd} {H:Hp}:Nw K F H F H:=⟨Le.refl,fun _ _ _ h=>h⟩
def JOk (K:PySem.W.Frag) (F:Wd) (H:Hp) (J:It) (ts:List T):Prop:=∀ (F':Wd) (H':Hp),(∀ a,F a->F' a/\H' a=H a)->(∃ B fs σ,Okk K F' B H' fs σ)->∀ i,(∀ t,ts[i]?=some t->J.go i H'/\∀ x H'',J.yld i H' x H''->∃ F'',Nw K F' H' F'' H''/\Bj K F'' H'' t x)/\(ts.length<=i->J.stop i H')
theorem JOk.within {K:PySem.W.Frag} {F:Wd} {p:Addr->Prop} {H:Hp} {J:It} {ts:List T} (h:JOk K F H J ts):JOk K ⟨F.f,p⟩ H J ts:=fun F2 H2 l2=>h F2 H2 l2
theorem Ao.lf {K:PySem.W.Frag} {F F':Wd} {H H':Hp} {ts:List T} {vs:List V} (l:∀ a,F a->F' a/\H' a=H a) (r:Ao K F H ts vs):Ao K F' H' ts vs :=
 Ao.le (F:=⟨F.f,fun _=>False⟩) ⟨l,fun _ z=>z.elim⟩ (Ao.wp r)
theorem StL.lf {K:PySem.W.Frag} {F F':Wd} {H H':Hp} {a:Addr} {vs:List V} (l:∀ a,F a->F' a/\H' a=H a) (r:StL K F H a vs):StL K F' H' a vs:=by
 rcases r with ⟨f,h⟩ | h
 ·exact .inl ⟨(l a f).1,FL.Rd.same h (l a f).2⟩
 ·exact .inr h
theorem stays {K:PySem.W.Frag} {F:Wd} {H H':Hp} {t:T} {x:V} (e:H'=H) (r:Bj K F H t x):∃ F',Nw K F H F' H'/\Bj K F' H' t x:=by subst e;exact ⟨F,Nw.refl,r⟩
def RJ (K:PySem.W.Frag) (B:Nat->Option V) (σ:St):Wd->Hp->FS->List T->It->Prop:=fun F H fs ts J=>Okk K F B H fs σ/\JOk K F H J ts
def tI (K:PySem.W.Frag) (Z:Xp) (f:FS->Out (List T)):TI:=fun σ H R=>∃ F B fs,Okk K F B H fs σ/\sat Z B (RJ K B σ) F H (f fs) R
def FI (X:Cx) (Z:Xp) (tg iter:Expr) (f:FS->Out (List T)):Prop:=PI X tg iter (tI X.K Z f)
theorem pi_imp {X:Cx} {tg e:Expr} {t t':TI} (h:PI X tg e t) (i:∀ σ H Q,t' σ H Q->t σ H Q):PI X tg e t':=fun pins s σ H Q I q=>h pins s σ H Q I (i _ _ _ q)
def signs (z:Str):List T:=z.cps.toList.map fun c=>T.str ⟨#[c]⟩
def upTo (lo:Int) (n:Nat):List T:=(List.range n).map fun i=>T.int (lo+(i:Nat))
def upBy (lo st:Int) (n:Nat):List T:=(List.range n).map fun i=>T.int (lo+(i:Nat) * st)
def itR1 (f:FS->Out (List Rv)):FS->Out (List T):=fun fs=>(f fs).bind fun rs fs=>match rs with
 | [.t (.int j)]=>if -(2 ^ 62)<=j/\j < 2 ^ 62 then .ok (upTo 0 j.toNat) fs else .bad
 | _=>.bad
def itR2 (f:FS->Out (List Rv)):FS->Out (List T):=fun fs=>(f fs).bind fun rs fs=>match rs with
 | [.t (.int i),.t (.int j)]=>if -(2 ^ 62)<=i/\i < 2 ^ 62/\-(2 ^ 62)<=j/\j < 2 ^ 62 then .ok (upTo i (j - i).toNat) fs else .bad
 | _=>.bad
def itR3 (f:FS->Out (List Rv)):FS->Out (List T):=fun fs=>(f fs).bind fun rs fs=>match rs with
 | [.t (.int i),.t (.int j),.t (.int c)]=>if 0 < c/\c < 1073741824/\Builtin.Range.small i j c=true/\0<=Builtin.Range.rangeSize i j c then .ok (upBy i c (Builtin.Range.rangeSize i j c).toNat) fs else .bad
 | _=>.bad
section
variable {X:Cx} {Z:Xp} {tg l a b c:Expr} {f:FS->Out Rv} {fa:FS->Out (List Rv)} {p pos:Pos} {K:PySem.W.Frag} {F:Wd} {H:Hp}
theorem jok_list {a:Addr} {vs:List V} {ts:List T} (hs:∀ (F':Wd) H',(∀ a,F a->F' a/\H' a=H a)->SqL K H' a vs) (r:Ao K F H ts vs):JOk K F H (Itl K a) ts:=by
 intro F' H' l _ i
 have r':=Ao.lf l r
 refine ⟨fun t et=>?_,fun hl=>⟨vs,hs F' H' l,by rw [r.len];exact hl⟩⟩
 obtain ⟨v,ev,rv⟩:=r'.at et
 refine ⟨⟨vs,v,hs F' H' l,ev⟩,fun x H'' hy=>stays hy.1 ?_⟩
 have:=hy.2 vs (hs F' H' l)
 rw [ev] at this
 cases this
 exact rv
theorem jok_tup {a:Addr} {vs:List V} {ts:List T} (hs:∀ (F':Wd) H',(∀ a,F a->F' a/\H' a=H a)->SqT K H' a vs) (r:Ao K F H ts vs):JOk K F H (Itt K a) ts:=by
 intro F' H' l _ i
 have r':=Ao.lf l r
 refine ⟨fun t et=>?_,fun hl=>⟨vs,hs F' H' l,by rw [r.len];exact hl⟩⟩
 obtain ⟨v,ev,rv⟩:=r'.at et
 refine ⟨⟨vs,v,hs F' H' l,ev⟩,fun x H'' hy=>stays hy.1 ?_⟩
 have:=hy.2 vs (hs F' H' l)
 rw [ev] at this
 cases this
 exact rv
theorem jok_range {lo:Int} {n:Nat}:JOk K F H (Itr lo n) (upTo lo n):=by
 intro F' H' l _ i
 refine ⟨fun t et=>?_,fun hl=>by unfold upTo at hl;simpa [Itr] using hl⟩
 unfold upTo at et
 rw [List.getElem?_map] at et
 have hi:i < n:=by
  by_cases h:i < n
  ·exact h
  ·rw [List.getElem?_eq_none (by simpa using h)] at et;cases et
 rw [List.getElem?_range hi] at et
 cases et
 exact ⟨hi,fun x H'' hy=>stays hy.1 hy.2⟩
theorem jok_ranges {lo st:Int} {n:Nat}:JOk K F H (Itrs lo st n) (upBy lo st n):=by
 intro F' H' l _ i
 refine ⟨fun t et=>?_,fun hl=>by unfold upBy at hl;simpa [Itrs] using hl⟩
 unfold upBy at et
 rw [List.getElem?_map] at et
 have hi:i < n:=by
  by_cases h:i < n
  ·exact h
  ·rw [List.getElem?_eq_none (by simpa using h)] at et;cases et
 rw [List.getElem?_range hi] at et
 cases et
 exact ⟨hi,fun x H'' hy=>stays hy.1 hy.2⟩
theorem jok_str {z:Str}:JOk K F H (Its z) (signs z):=by
 intro F' H' l _ i
 refine ⟨fun t et=>?_,fun hl=>by unfold signs at hl;simpa [Its] using hl⟩
 unfold signs at et
 rw [List.getElem?_map,Option.map_eq_some_iff] at et
 obtain ⟨c,ec,rfl⟩:=et
 have hi:i < z.cps.size:=by
  have:=(List.getElem?_eq_some_iff.mp ec).1
  simpa using this
 refine ⟨hi,fun x H'' hy=>stays hy.1 ?_⟩
 obtain ⟨c',e1,e2⟩:=hy.2
 rw [Array.getElem?_toList] at ec
 rw [ec] at e1
 cases e1
 exact e2
theorem Dm (hm:X.mg "range"=none) (ha:FA X Z [a] fa) (hg:Gl X "range":=by rfl) (hs:starEach [a] X.env=[(false,eval a X.env)]:=by rfl):FI X Z tg (.Call (.Name "range" p) [a] [] pos) (itR1 fa):=by
 refine pi_imp (pi_range1 hg hm ha hs) fun σ H Q ⟨F,B,fs,ok,s⟩=>⟨F,B,fs,ok,A2 s fun rs fs1 F1 H1 us l q s1=>?_⟩
 obtain ⟨ok1,q⟩:=q
 split at s1
 ·rename_i j
  split at s1
  ·rename_i hj
   obtain ⟨v,rfl,qq⟩:=Cs q
   have q:=qq
   cases q
   exact ⟨j,rfl,hj.1,hj.2,s1 F1 H1 _ Le.refl ⟨ok1,jok_range⟩⟩
  ·exact s1.elim
 ·exact s1.elim
theorem DL (hm:X.mg "range"=none) (ha:FA X Z [a,b] fa) (hg:Gl X "range":=by rfl)
  (h:∀ {ta:TA},PA X [a,b] ta->PI X tg (.Call (.Name "range" p) [a,b] [] pos) (iRng2 ta)):FI X Z tg (.Call (.Name "range" p) [a,b] [] pos) (itR2 fa):=by
 refine pi_imp (h ha) fun σ H Q ⟨F,B,fs,ok,s⟩=>⟨F,B,fs,ok,A2 s fun rs fs1 F1 H1 us l q s1=>?_⟩
 obtain ⟨ok1,q⟩:=q
 split at s1
 ·rename_i i j
  split at s1
  ·rename_i hj
   obtain ⟨v,w,rfl,q1,v2,w2,rfl,q2,q3⟩:=q
   cases q1
   cases q2
   cases q3
   exact ⟨i,j,rfl,hj,s1 F1 H1 _ Le.refl ⟨ok1,jok_range⟩⟩
  ·exact s1.elim
 ·exact s1.elim
theorem fi_range3 (ha:FA X Z [a,b,c] fa)
  (h:∀ {ta:TA},PA X [a,b,c] ta->PI X tg (.Call (.Name "range" p) [a,b,c] [] pos) (iRng3 ta)):FI X Z tg (.Call (.Name "range" p) [a,b,c] [] pos) (itR3 fa):=by
 refine pi_imp (h ha) fun σ H Q ⟨F,B,fs,ok,s⟩=>⟨F,B,fs,ok,A2 s fun rs fs1 F1 H1 us l q s1=>?_⟩
 obtain ⟨ok1,q⟩:=q
 split at s1
 ·rename_i i j k
  split at s1
  ·rename_i hj
   obtain ⟨v,w,rfl,q1,v2,w2,rfl,q2,v3,w3,rfl,q3,q4⟩:=q
   cases q1
   cases q2
   cases q3
   cases q4
   exact ⟨i,j,k,rfl,hj.1,hj.2.1,hj.2.2.1,hj.2.2.2,s1 F1 H1 _ Le.refl ⟨ok1,jok_ranges⟩⟩
  ·exact s1.elim
 ·exact s1.elim
end
def Ei (gt:T->FS->Option FS) (body:FS->SO):List T->FS->SO
 | [],fs=>.nx fs
 | t :: ts,fs=>match gt t fs with
  | none=>.bad
  | some fs=>match body fs with
   | .nx fs=>Ei gt body ts fs
   | .cnt fs=>Ei gt body ts fs
   | .brk fs=>.nx fs
   | o=>o
def Df (src:FS->Out (List T)) (gt:T->FS->Option FS) (body:FS->SO):FS->SO:=fun fs=>SO.of (src fs) fun ts fs=>Ei gt body ts fs
section
variable {X:Cx} {Z:Xp} {tg iter c:Expr} {src:FS->Out (List T)} {gt:T->FS->Option FS} {g:FS->SO} {body:List Stmt} {pos:Pos} {fc:FS->Out Bool}
theorem BB (hp:PassesOwn (model X.prog X.w) X.A X.env X.xe) (hc:X.calm=true) (hi:FI X Z tg iter src) (hg:GT X tg gt) (hb:GSs X Z body g)
  (hs:∀ x,foldedSetIterable iter X.env x=pure x:=by intro _;rfl):GS X Z (.For tg iter body [] pos) (Df src gt g):=by
 refine EG (ps_for hp hc hi hg hb hs) fun D σ H ⟨F,B,fs,ok,s⟩=>⟨F,B,fs,ok,EF s fun ts fs1 F1 H1 J l q s1=>?_⟩
 obtain ⟨ok1,jk⟩:=q
 refine ⟨fun i m σ H=>m=ts.length - i/\∃ F' fs',Le F1 H1 F' H/\Okk X.K F' B H fs' σ/\satS X.K Z B F' H (Ei gt g (ts.drop i) fs') D,⟨ts.length,rfl,F1,fs1,Le.refl,ok1,s1⟩,?_⟩
 rintro i m σ H ⟨rfl,F2,fs2,l2,ok2,s2⟩
 by_cases hi:i < ts.length
 ·refine .inr ?_
  have ei:ts[i]?=some ts[i]:=List.getElem?_eq_getElem hi
  have ed:ts.drop i=ts[i] :: ts.drop (i+1):=List.drop_eq_getElem_cons hi
  rw [ed] at s2
  obtain ⟨j1,j2⟩:=(jk F2 H l2.f ⟨_,_,_,ok2⟩ i).1 _ ei
  refine ⟨j1,fun σ' H'=>∃ F' fs',Le F1 H1 F' H'/\Okk X.K F' B H' fs' σ'/\satS X.K Z B F' H' (Ei gt g (ts.drop (i+1)) fs') D,fun σ' H' h=>⟨ts.length - (i+1),by omega,rfl,h⟩,fun x H' hy=>?_⟩
  obtain ⟨F2',⟨l22,nw⟩,rx⟩:=j2 x H' hy
  replace l2:=l2.trans l22
  replace s2:=satS.le s2 l22
  replace ok2:=nw _ _ _ ok2
  refine ⟨F2',B,fs2,ts[i],ok2,rx,?_⟩
  simp only [Ei] at s2
  cases eg:gt ts[i] fs2 with
  | none=>rw [eg] at s2;exact s2.elim
  | some fs3 =>
   rw [eg] at s2
   intro F3 H3 σ3 l3 ok3
   refine ⟨F3,B,fs3,ok3,?_⟩
   have s3:=satS.le s2 l3
   simp only at s3
   cases eb:g fs3 with
   | nx fs4 =>
    rw [eb] at s3
    exact fun F4 H4 σ4 l4 ok4=>⟨F4,fs4,(l2.trans l3).trans l4,ok4,satS.le s3 l4⟩
   | cnt fs4 =>
    rw [eb] at s3
    exact fun F4 H4 σ4 l4 ok4=>⟨F4,fs4,(l2.trans l3).trans l4,ok4,satS.le s3 l4⟩
   | brk fs4=>rw [eb] at s3;exact s3
   | ret r fs4=>rw [eb] at s3;exact s3
   | exc c fs4=>rw [eb] at s3;exact s3
   | bad=>rw [eb] at s3;exact s3
 ·refine .inl ⟨(jk F2 H l2.f ⟨_,_,_,ok2⟩ i).2 (by omega),?_⟩
  rw [List.drop_eq_nil_of_le (by omega)] at s2
  exact s2 F2 H σ Le.refl ok2
end
end FL
namespace FL
open PySem PySem.Spec L2
section
variable {K:PySem.W.Frag} {F F':Wd} {H H':Hp} {B:Nat->Option V} {fs:FS} {σ:St} {L:List Addr}
theorem AI.toP:∀ {fs:FS} {σ:St} {L:List Addr},AI K F H fs σ L->∃ ℓ:Nat->List Addr,(∀ i s,fs[i]?=some s->∃ v,σ[i]?=some v/\SlOk K F H s v (ℓ i))/\(∀ i a,a∈ℓ i->a∈L) /\
  (L.Nodup->(∀ i,(ℓ i).Nodup)/\∀ i j a,i≠j->a∈ℓ i->a∉ℓ j)/\∀ i,fs.length<=i->ℓ i=[]
 | [],σ,L,h=>⟨fun _=>[],(fun i s e=>by simp at e),(fun i a m=>nomatch m),(fun _=>⟨fun _=>List.nodup_nil,(fun _ _ _ _ m=>nomatch m)⟩),fun _ _=>rfl⟩
 | s :: r,σ,L,h=>by
  obtain ⟨v,σ',L1,L2,rfl,h1,h2,rfl⟩:=h.uncons
  obtain ⟨ℓ,q1,q2,q3,q4⟩:=AI.toP h2
  refine ⟨fun i=>match i with | 0=>L1 | i+1=>ℓ i,fun i s' e=>?_,fun i a m=>?_,fun nd=>?_,fun i hi=>?_⟩
  ·cases i with
   | zero =>
    simp at e
    subst e
    exact ⟨v,rfl,h1⟩
   | succ i =>
    obtain ⟨w,e1,e2⟩:=q1 i s' (by simpa using e)
    exact ⟨w,by simpa using e1,e2⟩
  ·cases i with
   | zero=>exact List.mem_append_left _ m
   | succ i=>exact List.mem_append_right _ (q2 i a m)
  ·rw [List.nodup_append] at nd
   obtain ⟨n1,n2,n3⟩:=nd
   obtain ⟨m1,m2⟩:=q3 n2
   refine ⟨fun i=>?_,fun i j a hij hi hj=>?_⟩
   ·cases i with
    | zero=>exact n1
    | succ i=>exact m1 i
   ·cases i with
    | zero =>
     cases j with
     | zero=>exact hij rfl
     | succ j=>exact n3 a hi a (q2 j a hj) rfl
    | succ i =>
     cases j with
     | zero=>exact n3 a hj a (q2 i a hi) rfl
     | succ j=>exact m2 i j a (fun e=>hij (by rw [e])) hi hj
  ·cases i with
   | zero=>simp at hi
   | succ i=>exact q4 i (by simpa using hi)
theorem AI.ofP:∀ {fs:FS} {σ:St} (ℓ:Nat->List Addr),σ.length=fs.length->(∀ i s,fs[i]?=some s->∃ v,σ[i]?=some v/\SlOk K F H s v (ℓ i))->(∀ i,(ℓ i).Nodup)->(∀ i j a,i≠j->a∈ℓ i->a∉ℓ j) ->
  ∃ L,AI K F H fs σ L/\L.Nodup/\∀ a∈L,∃ i,i < fs.length/\a∈ℓ i
 | [],σ,ℓ,hl,h,nd,dj=>by
  have:σ=[]:=List.eq_nil_of_length_eq_zero (by simpa using hl)
  subst this
  exact ⟨[],⟨rfl,rfl⟩,List.nodup_nil,fun _ m=>nomatch m⟩
 | s :: r,[],ℓ,hl,h,nd,dj=>by simp at hl
 | s :: r,v :: σ,ℓ,hl,h,nd,dj=>by
  obtain ⟨L,h1,h2,h3⟩:=AI.ofP (fs:=r) (σ:=σ) (fun i=>ℓ (i+1)) (by simpa using hl) (fun i s' e=>by
   obtain ⟨w,e1,e2⟩:=h (i+1) s' (by simpa using e)
   exact ⟨w,by simpa using e1,e2⟩) (fun i=>nd (i+1)) (fun i j a hij=>dj (i+1) (j+1) a (by omega))
  obtain ⟨w,e1,e2⟩:=h 0 s rfl
  simp at e1
  subst e1
  refine ⟨ℓ 0++L,AI.cons e2 h1,?_,fun a m=>?_⟩
  ·rw [List.nodup_append]
   refine ⟨nd 0,h2,fun a ha b hb e=>?_⟩
   obtain ⟨i,_,hi⟩:=h3 b hb
   exact dj 0 (i+1) a (by omega) ha (by rw [e];exact hi)
  ·rcases List.mem_append.mp m with m | m
   ·exact ⟨0,by simp,m⟩
   ·obtain ⟨i,hi,q⟩:=h3 a m
    exact ⟨i+1,by simp;exact hi,q⟩
theorem Ok.take (h:Ok K F B H fs σ L) (n:Nat):∃ L',Ok K F B H (fs.take n) (σ.take n) L'/\∀ a∈L',a∈L:=by
 obtain ⟨ℓ,q1,q2,q3,q4⟩:=h.sl.toP
 obtain ⟨n1,n2⟩:=q3 h.nd
 have hl:(σ.take n).length=(fs.take n).length:=by rw [List.length_take,List.length_take,h.sl.len]
 obtain ⟨L',p1,p2,p3⟩:=AI.ofP (K:=K) (F:=F) (H:=H) (fs:=fs.take n) (σ:=σ.take n) ℓ hl (fun i s e=>by
  have hi:i < n:=by
   have:=(List.getElem?_eq_some_iff.mp e).1
   rw [List.length_take] at this
   omega
  rw [List.getElem?_take_of_lt hi] at e ⊢
  exact q1 i s e) n1 n2
 have sub:∀ a∈L',a∈L:=fun a m=>let ⟨i,_,q⟩:=p3 a m;q2 i a q
 refine ⟨L',⟨p1,p2,fun a m=>h.nf a (sub a m),h.fd,fun i o e=>?_,h.pd,h.pf,fun a m=>h.pl a (sub a m)⟩,sub⟩
 have hi:i < n:=by
  have:=(List.getElem?_eq_some_iff.mp e).1
  rw [List.length_take] at this
  omega
 rw [List.getElem?_take_of_lt hi] at e ⊢
 exact h.bo i o e
theorem RR.take {r:Rv} {u:V} (h:RR K B σ F H fs r u) (n:Nat) (hr:∀ i,r≠.rf i):RR K B (σ.take n) F H (fs.take n) r u:=by
 obtain ⟨L,L',ok,q,nd,nf⟩:=h
 obtain ⟨L2,ok2,sub⟩:=ok.take n
 refine ⟨L2,L',ok2,?_,?_,nf⟩
 ·cases r with
  | t t=>exact q
  | nw o=>exact q
  | rf i=>exact (hr i rfl).elim
 ·rw [List.nodup_append] at nd ⊢
  exact ⟨ok2.nd,nd.2.1,fun a ha b hb=>nd.2.2 a (sub a ha) b hb⟩
theorem Ok.more (h:Ok K F B H fs σ L) (n:Nat):Ok K F B H (fs++List.replicate n none) (σ++List.replicate n none) L:=by
 have key:∀ n:Nat,AI K F H (List.replicate n none) (List.replicate n none) []:=by
  intro n
  induction n with
  | zero=>exact ⟨rfl,rfl⟩
  | succ n ih =>
   rw [List.replicate_succ,List.replicate_succ]
   simp only [AI]
   exact ⟨none,_,rfl,ih⟩
 have app:∀ {fs gs:FS} {σ τ:St} {L M:List Addr},AI K F H fs σ L->AI K F H gs τ M->AI K F H (fs++gs) (σ++τ) (L++M):=by
  intro fs
  induction fs with
  | nil =>
   intro gs σ τ L M h1 h2
   simp only [AI] at h1
   obtain ⟨rfl,rfl⟩:=h1
   exact h2
  | cons s r ih =>
   intro gs σ τ L M h1 h2
   obtain ⟨v,σ',L1,L2,rfl,q1,q2,rfl⟩:=h1.uncons
   have:=AI.cons q1 (ih q2 h2)
   simpa using this
 refine ⟨by simpa using app h.sl (key n),h.nd,h.nf,h.fd,fun i o e=>?_,h.pd,h.pf,h.pl⟩
 by_cases hi:i < fs.length
 ·rw [List.getElem?_append_left hi] at e
  obtain ⟨v,e1,e2⟩:=h.bo i o e
  exact ⟨v,by rw [List.getElem?_append_left (by rw [h.sl.len];exact hi)];exact e1,e2⟩
 ·rw [List.getElem?_append_right (by omega)] at e
  have:=List.mem_of_getElem? e
  simp at this
theorem RR.mv {u:V} {i:Nat} {o:FO} (q:RR K B σ F H fs (.rf i) u) (es:fs[i]?=some (some (.own o))):RR K B σ F H (fs.set i none) (.nw o) u:=by
 obtain ⟨L,L',o1,⟨_,q⟩,nd,nf⟩:=q
 obtain ⟨v,L1,L2,L3,e1,rfl,h1,h2⟩:=o1.sl.pick es
 obtain ⟨w,rfl,q2⟩:=h1
 rw [e1] at q
 have eu:w=u:=by simpa using q
 subst eu
 have h3:=h2 F H none (some w) [] Le.refl (fun _ _=>rfl) rfl
 rw [DQ e1] at h3
 have nd1:=o1.nd
 refine ⟨L1++([]++L3),L2,⟨h3,Ea nd1 List.nodup_nil (fun _ m=>nomatch m),fun a m=>o1.nf a ?_,o1.fd,?_,o1.pd,o1.pf,fun a m=>o1.pl a ?_⟩,q2,?_,fun a m=>⟨o1.nf a (by simp [m]),o1.pl a (by simp [m])⟩⟩
 ·have m':a∈L1∨a∈L3:=by simpa using m
  rcases m' with m | m <;> simp [m]
 ·have:=BorOk.put (i:=i) (s:=none) (v:=some w) o1.bo (fun o eo=>by cases eo) o1.sl.len
  rwa [DQ e1] at this
 ·have m':a∈L1∨a∈L3:=by simpa using m
  rcases m' with m | m <;> simp [m]
 ·have p:(L1++(L2++L3)).Perm ((L1++([]++L3))++L2):=by
   rw [List.nil_append,List.append_assoc]
   exact List.Perm.append_left _ List.perm_append_comm
  exact p.nodup_iff.mp nd1
end
inductive Ini where
 | no | val (t:T) | slot (j:Nat) | new (o:FO)
def ini1 (fs:FS):Ini->Option Sl
 | .no=>none
 | .val t=>some (.val t)
 | .new o=>some (.bor o)
 | .slot j=>match fs[j]? with
  | some (some (.val t))=>some (.val t)
  | some (some (.own o))=>some (.bor o)
  | some (some (.bor o))=>some (.bor o)
  | _=>none
def EM (fs:FS) (is:List Ini):FS:=is.map (ini1 fs)
def DR (fs:FS):Ini->Option Nat
 | .slot j=>if (A9 fs j).isSome=true then some j else none
 | _=>none
def Dd (fs:FS) (is:List Ini):List Nat:=is.filterMap (DR fs)
def placeOf (fs:FS) (j:Nat):List Ini->Nat->Option Nat
 | [],_=>none
 | i :: r,k=>if DR fs i=some j then some k else placeOf fs j r (k+1)
def back1 (fs:FS) (is:List Ini) (τ:FS) (j:Nat) (s:Option Sl):Option (Option Sl):=match placeOf fs j is 0 with
 | none=>some s
 | some k=>match τ[k]?,s with
  | some (some (.bor o)),some s=>some (some (s.put o))
  | _,_=>none
def backL (fs:FS) (is:List Ini) (τ:FS):Nat->FS->Option FS
 | _,[]=>some []
 | j,s :: r=>match back1 fs is τ j s,backL fs is τ (j+1) r with
  | some s',some r'=>some (s' :: r')
  | _,_=>none
def backF (is:List Ini) (τ fs:FS):Option FS:=backL fs is τ 0 fs
theorem placeOf_some {fs:FS} {j:Nat}:∀ {is:List Ini} {k k':Nat},placeOf fs j is k=some k'->k<=k'/\∃ i,is[k' - k]?=some i/\DR fs i=some j
 | [],_,_,e=>by simp [placeOf] at e
 | i :: r,k,k',e=>by
  simp only [placeOf] at e
  split at e
  ·rename_i h
   cases e
   exact ⟨Nat.le_refl _,i,by simp,h⟩
  ·obtain ⟨h1,i',h2,h3⟩:=placeOf_some e
   refine ⟨by omega,i',?_,h3⟩
   rw [show k' - k=(k' - (k+1))+1 by omega]
   simpa using h2
theorem placeOf_none {fs:FS} {j:Nat}:∀ {is:List Ini} {k:Nat},placeOf fs j is k=none->j∉Dd fs is
 | [],_,_,h=>by simp [Dd] at h
 | i :: r,k,e,h=>by
  simp only [placeOf] at e
  split at e
  ·cases e
  ·rename_i hn
   unfold Dd at h
   rw [List.filterMap_cons] at h
   cases q:DR fs i with
   | none =>
    rw [q] at h
    exact placeOf_none e h
   | some j' =>
    rw [q] at h
    rcases List.mem_cons.mp h with h | h
    ·exact hn (by rw [q,h])
    ·exact placeOf_none e h
theorem lent_uniq {fs:FS}:∀ {is:List Ini} {k k':Nat} {i i':Ini} {j:Nat},(Dd fs is).Nodup->is[k]?=some i->is[k']?=some i'->DR fs i=some j->DR fs i'=some j->k=k'
 | [],_,_,_,_,_,_,e,_,_,_=>by simp at e
 | i0 :: r,k,k',i,i',j,nd,e,e',h,h'=>by
  have mem:∀ {m:Nat} {x:Ini},r[m]?=some x->DR fs x=some j->j∈Dd fs r:=fun hm hx=>List.mem_filterMap.mpr ⟨_,List.mem_of_getElem? hm,hx⟩
  unfold Dd at nd
  rw [List.filterMap_cons] at nd
  cases k with
  | zero =>
   simp at e
   subst e
   rw [h] at nd
   have nd':(j :: Dd fs r).Nodup:=nd
   cases k' with
   | zero=>rfl
   | succ k'=>exact ((List.nodup_cons.mp nd').1 (mem (by simpa using e') h')).elim
  | succ k =>
   cases k' with
   | zero =>
    simp at e'
    subst e'
    rw [h'] at nd
    have nd':(j :: Dd fs r).Nodup:=nd
    exact ((List.nodup_cons.mp nd').1 (mem (by simpa using e) h)).elim
   | succ k' =>
    have nd':(Dd fs r).Nodup:=by
     cases q:DR fs i0 with
     | none=>rw [q] at nd;exact nd
     | some j'=>rw [q] at nd;exact (List.nodup_cons.mp nd).2
    exact congrArg (·+1) (lent_uniq (k:=k) (k':=k') nd' (by simpa using e) (by simpa using e') h h')
theorem backL_at {fs:FS} {is:List Ini} {τ:FS}:∀ {r r':FS} {j:Nat},backL fs is τ j r=some r'->r'.length=r.length/\∀ i s,r[i]?=some s->∃ s',r'[i]?=some s'/\back1 fs is τ (j+i) s=some s'
 | [],_,_,e=>by
  simp only [backL] at e
  cases e
  exact ⟨rfl,fun i s q=>by simp at q⟩
 | s :: r,_,j,e=>by
  simp only [backL] at e
  split at e
  ·rename_i s' r' h1 h2
   cases e
   obtain ⟨q1,q2⟩:=backL_at h2
   refine ⟨by simp [q1],fun i s0 q=>?_⟩
   cases i with
   | zero =>
    simp at q
    subst q
    exact ⟨s',rfl,h1⟩
   | succ i =>
    obtain ⟨s1,e1,e2⟩:=q2 i s0 (by simpa using q)
    exact ⟨s1,by simpa using e1,by rw [show j+(i+1)=j+1+i by omega];exact e2⟩
  ·cases e
def IniOk (K:PySem.W.Frag) (F:Wd) (H:Hp) (σ:St) (i:Ini) (v:Option V) (M:List Addr):Prop:=match i with
 | .no=>True
 | .val t=>∃ u,v=some u/\Bj K F H t u
 | .slot j=>σ[j]?=some v
 | .new o=>∃ u,v=some u/\Bf K F H o u M
structure Mu (F:Wd) (H:Hp) (L:List Addr) (μ:Nat->List Addr):Prop where
 out:∀ k a,a∈μ k->¬ F a/\¬ F.p a/\a∉L/\H a≠none
 nd:∀ k,(μ k).Nodup
 dj:∀ k k' a,k≠k'->a∈μ k->a∉μ k'
theorem Mu.no {F:Wd} {H:Hp} {L:List Addr}:Mu F H L (fun _=>[]):=⟨(fun _ _ m=>nomatch m),fun _=>List.nodup_nil,(fun _ _ _ _ m=>nomatch m)⟩
theorem lend {K:PySem.W.Frag} {F:Wd} {H:Hp} {B:Nat->Option V} {fs:FS} {σ σi:St} {is:List Ini} {L:List Addr} {μ:Nat->List Addr} (ok:Ok K F B H fs σ L) (hl:σi.length=is.length) (hi:∀ (k:Nat) (i:Ini) (v:Option V),is[k]?=some i->σi[k]?=some v->IniOk K F H σ i v (μ k)) (nd:(Dd fs is).Nodup) (hμ:Mu F H L μ) :
  ∃ P:Addr->Prop,(∀ a,F.p a->P a)/\Okk K ⟨F.f,P⟩ (fun k=>(σi[k]?).join) H (EM fs is) σi/\(∀ a,P a->H a≠none) /\
   ∀ (F2:Wd) (H2:Hp) (τ:FS) (σ2:St) (Li:List Addr) (fs':FS),Le ⟨F.f,P⟩ H F2 H2->Ok K F2 (fun k=>(σi[k]?).join) H2 τ σ2 Li->backF is τ fs=some fs' ->
    Le F H ⟨F2.f,F.p⟩ H2/\∃ L,Ok K ⟨F2.f,F.p⟩ B H2 fs' σ L/\∀ a∈L,a∈Li∨P a:=by
 obtain ⟨ℓ,q1,q2,q3,q4⟩:=ok.sl.toP
 obtain ⟨n1,n2⟩:=q3 ok.nd
 have objSl:∀ j,(A9 fs j).isSome=true->∃ o s,A9 fs j=some o/\fs[j]?=some (some s)/\(s=.own o∨s=.bor o):=by
  intro j hj
  unfold A9 at hj ⊢
  split at hj
  ·rename_i o es
   exact ⟨o,_,rfl,es,.inl rfl⟩
  ·rename_i o es
   exact ⟨o,_,rfl,es,.inr rfl⟩
  ·cases hj
 refine ⟨fun a=>F.p a∨∃ j,a∈ℓ j/\j∉Dd fs is,fun a p=>.inl p,?_,fun a p=>?_,?_⟩
 ·
  obtain ⟨L',p1,p2,p3⟩:=AI.ofP (K:=K) (F:=⟨F.f,fun a=>F.p a∨∃ j,a∈ℓ j/\j∉Dd fs is⟩) (H:=H) (fs:=EM fs is) (σ:=σi) (fun k=>match is[k]? with | some i=>(match DR fs i with | some j=>ℓ j | none=>(match i with | .new _=>μ k | _=>[])) | none=>[]) (by unfold EM;rw [List.length_map];exact hl)
   (fun k s e=>by
    unfold EM at e
    rw [List.getElem?_map,Option.map_eq_some_iff] at e
    obtain ⟨i,ei,rfl⟩:=e
    have hk:k < σi.length:=by rw [hl];exact (List.getElem?_eq_some_iff.mp ei).1
    refine ⟨σi[k],List.getElem?_eq_getElem hk,?_⟩
    have io:=hi k i _ ei (List.getElem?_eq_getElem hk)
    simp only [ei]
    have lw:∀ (t:T) (u:V),Bj K F H t u->Bj K ⟨F.f,fun a=>F.p a∨∃ j,a∈ℓ j/\j∉Dd fs is⟩ H t u:=fun t u r=>Bj.wp r
    cases i with
    | no=>rfl
    | val t =>
     obtain ⟨u,eu,r⟩:=io
     exact ⟨u,eu,lw t u r,rfl⟩
    | new o =>
     obtain ⟨u,eu,r⟩:=io
     exact ⟨u,eu,Bf.wp r⟩
    | slot j =>
     have ej:σ[j]?=some σi[k]:=io
     simp only [ini1,DR]
     cases es:fs[j]? with
     | none =>
      have:A9 fs j=none:=by unfold A9;rw [es]
      rw [this]
      rfl
     | some s =>
      obtain ⟨v,e1,e2⟩:=q1 j s es
      rw [ej] at e1
      cases e1
      cases s with
      | none =>
       have:A9 fs j=none:=by unfold A9;rw [es]
       rw [this]
       rfl
      | some s =>
       cases s with
       | val t =>
        have:A9 fs j=none:=by unfold A9;rw [es]
        rw [this]
        obtain ⟨u,eu,r,_⟩:=e2
        exact ⟨u,eu,lw t u r,rfl⟩
       | own o =>
        have:A9 fs j=some o:=by unfold A9;rw [es]
        rw [this]
        obtain ⟨u,eu,r⟩:=e2
        exact ⟨u,eu,Bf.wp r⟩
       | bor o =>
        have:A9 fs j=some o:=by unfold A9;rw [es]
        rw [this]
        obtain ⟨u,eu,r⟩:=e2
        exact ⟨u,eu,Bf.wp r⟩)
   (fun k=>by
    try dsimp only
    split
    ·split
     ·exact n1 _
     ·split
      ·exact hμ.nd _
      ·exact List.nodup_nil
    ·exact List.nodup_nil)
   (fun k k' a hk ha hb=>by
    try dsimp only at ha hb
    split at ha
    ·rename_i i ei
     split at ha
     ·rename_i j ej
      split at hb
      ·rename_i i' ei'
       split at hb
       ·rename_i j' ej'
        by_cases e:j=j'
        ·subst e
         exact hk (lent_uniq nd ei ei' ej ej')
        ·exact n2 j j' a e ha hb
       ·split at hb
        ·exact (hμ.out _ a hb).2.2.1 (q2 j a ha)
        ·cases hb
      ·cases hb
     ·split at ha
      ·split at hb
       ·split at hb
        ·rename_i j' ej'
         exact (hμ.out _ a ha).2.2.1 (q2 j' a hb)
        ·split at hb
         ·exact hμ.dj k k' a hk ha hb
         ·cases hb
       ·cases hb
      ·cases ha
    ·cases ha)
  have mem:∀ a∈L',(∃ j,j∈Dd fs is/\a∈ℓ j)∨∃ k,a∈μ k:=fun a m=>by
   obtain ⟨k,_,q⟩:=p3 a m
   try dsimp only at q
   split at q
   ·rename_i i ei
    split at q
    ·rename_i j ej
     exact .inl ⟨j,List.mem_filterMap.mpr ⟨i,List.mem_of_getElem? ei,ej⟩,q⟩
    ·split at q
     ·exact .inr ⟨k,q⟩
     ·cases q
   ·cases q
  refine ⟨L',p1,p2,fun a m=>?_,ok.fd,fun k o e=>?_,fun a p=>?_,fun a f p=>?_,fun a m p=>?_⟩
  ·rcases mem a m with ⟨j,_,q⟩ | ⟨k,q⟩
   ·exact ok.nf a (q2 j a q)
   ·exact (hμ.out k a q).1
  ·unfold EM at e
   rw [List.getElem?_map,Option.map_eq_some_iff] at e
   obtain ⟨i,ei,e⟩:=e
   have hk:k < σi.length:=by rw [hl];exact (List.getElem?_eq_some_iff.mp ei).1
   cases i with
   | no=>cases e
   | val t=>cases e
   | new o' =>
    obtain ⟨u,eu,_⟩:=hi k _ _ ei (List.getElem?_eq_getElem hk)
    exact ⟨u,by rw [List.getElem?_eq_getElem hk,eu],by show (σi[k]?).join=some u;rw [List.getElem?_eq_getElem hk,eu];rfl⟩
   | slot j =>
    have ej:σ[j]?=some σi[k]:=hi k _ _ ei (List.getElem?_eq_getElem hk)
    simp only [ini1] at e
    have:∃ o s,fs[j]?=some (some s)/\(s=.own o∨s=.bor o):=by
     split at e
     ·cases e
     ·rename_i o' es
      exact ⟨o',_,es,.inl rfl⟩
     ·rename_i o' es
      exact ⟨o',_,es,.inr rfl⟩
     ·cases e
    obtain ⟨o',s,es,hs⟩:=this
    obtain ⟨v,e1,e2⟩:=q1 j _ es
    rw [ej] at e1
    cases e1
    obtain ⟨u,eu⟩:∃ u,σi[k]=some u:=by
     rcases hs with rfl | rfl
     ·exact ⟨_,e2.choose_spec.1⟩
     ·exact ⟨_,e2.choose_spec.1⟩
    exact ⟨u,by rw [List.getElem?_eq_getElem hk,eu],by show (σi[k]?).join=some u;rw [List.getElem?_eq_getElem hk,eu];rfl⟩
  ·rcases p with p | ⟨j,p,_⟩
   ·exact ok.pd a p
   ·exact ok.sl.def a (q2 j a p)
  ·rcases p with p | ⟨j,p,_⟩
   ·exact ok.pf a f p
   ·exact ok.nf a (q2 j a p) f
  ·rcases mem a m with ⟨j,hj,q⟩ | ⟨k,q⟩
   ·rcases p with p | ⟨j',p,hj'⟩
    ·exact ok.pl a (q2 j a q) p
    ·by_cases e:j=j'
     ·subst e
      exact hj' hj
     ·exact n2 j j' a e q p
   ·rcases p with p | ⟨j',p,hj'⟩
    ·exact (hμ.out k a q).2.1 p
    ·exact (hμ.out k a q).2.2.1 (q2 j' a p)
 ·rcases p with p | ⟨j,p,_⟩
  ·exact ok.pd a p
  ·exact ok.sl.def a (q2 j a p)
 ·
  intro F2 H2 τ σ2 Li fs' l ok2 eb
  have le:Le F H ⟨F2.f,F.p⟩ H2:=⟨fun a f=>l.f a f,fun a f=>⟨f,(l.p a (.inl f)).2⟩⟩
  obtain ⟨ℓ2,r1,r2,r3,r4⟩:=ok2.sl.toP
  obtain ⟨m1,m2⟩:=r3 ok2.nd
  obtain ⟨b1,b2⟩:=backL_at eb
  have restP:∀ j a,a∈ℓ j->j∉Dd fs is->F2.p a/\H2 a=H a:=fun j a q hj=>l.p a (.inr ⟨j,q,hj⟩)
  refine ⟨le,?_⟩
  obtain ⟨L',p1,p2,p3⟩:=AI.ofP (K:=K) (F:=⟨F2.f,F.p⟩) (H:=H2) (fs:=fs') (σ:=σ) (fun j=>match placeOf fs j is 0 with | some k=>ℓ2 k | none=>ℓ j) (by rw [b1];exact ok.sl.len)
   (fun j s' e=>by
    have hj:j < fs.length:=by rw [<- b1];exact (List.getElem?_eq_some_iff.mp e).1
    obtain ⟨s1,e1,e2⟩:=b2 j fs[j] (List.getElem?_eq_getElem hj)
    rw [e] at e1
    cases e1
    rw [Nat.zero_add] at e2
    obtain ⟨v,e3,e4⟩:=q1 j fs[j] (List.getElem?_eq_getElem hj)
    refine ⟨v,e3,?_⟩
    unfold back1 at e2
    cases ep:placeOf fs j is 0 with
    | none =>
     rw [ep] at e2
     cases e2
     have hn:=placeOf_none ep
     exact SlOk.le le (fun a m=>(restP j a m hn).2) e4
    | some k =>
     rw [ep] at e2
     obtain ⟨_,i,ei,hlo⟩:=placeOf_some ep
     rw [Nat.sub_zero] at ei
     dsimp only at e2 ⊢
     split at e2
     ·rename_i o s et es
      cases e2
      obtain ⟨w,e5,e6⟩:=r1 k _ et
      obtain ⟨u,e7,e8⟩:=ok2.bo k o et
      rw [e5] at e7
      cases e7
      have ij:i=.slot j:=by
       cases i with
       | no=>cases hlo
       | val t=>cases hlo
       | new o=>cases hlo
       | slot j' =>
        simp only [DR] at hlo
        split at hlo
        ·cases hlo;rfl
        ·cases hlo
      subst ij
      have hk:k < σi.length:=by rw [hl];exact (List.getElem?_eq_some_iff.mp ei).1
      have io:σ[j]?=some σi[k]:=hi k _ _ ei (List.getElem?_eq_getElem hk)
      rw [e3] at io
      cases io
      have e9:(σi[k]?).join=some u:=e8
      rw [List.getElem?_eq_getElem hk] at e9
      have e10:σi[k]=some u:=by simpa using e9
      rw [e10]
      obtain ⟨u',eu,ro⟩:=e6
      cases eu
      have ob:∃ o0,s=.own o0∨s=.bor o0:=by
       simp only [DR] at hlo
       split at hlo
       ·rename_i hob
        obtain ⟨o0,s0,_,es0,hs0⟩:=objSl j hob
        rw [List.getElem?_eq_getElem hj,es] at es0
        cases es0
        exact ⟨o0,hs0⟩
       ·cases hlo
      obtain ⟨o0,ob⟩:=ob
      have ro':Bf K ⟨F2.f,F.p⟩ H2 o u (ℓ2 k):=Bf.wp ro
      rcases ob with rfl | rfl
      ·exact ⟨u,rfl,ro'⟩
      ·exact ⟨u,rfl,ro'⟩
     ·cases e2)
   (fun j=>by
    try dsimp only
    split
    ·exact m1 _
    ·exact n1 _)
   (fun j j' a hj ha hb=>by
    try dsimp only at ha hb
    split at ha
    ·rename_i k ek
     split at hb
     ·rename_i k' ek'
      by_cases e:k=k'
      ·subst e
       obtain ⟨_,i,ei,h1⟩:=placeOf_some ek
       obtain ⟨_,i',ei',h2⟩:=placeOf_some ek'
       rw [ei] at ei'
       cases ei'
       rw [h1] at h2
       cases h2
       exact hj rfl
      ·exact m2 k k' a e ha hb
     ·rename_i ek'
      exact ok2.pl a (r2 k a ha) (restP j' a hb (placeOf_none ek')).1
    ·rename_i ek
     split at hb
     ·rename_i k' ek'
      exact ok2.pl a (r2 k' a hb) (restP j a ha (placeOf_none ek)).1
     ·exact n2 j j' a hj ha hb)
  have src:∀ a∈L',(a∈Li/\¬ F2.p a)∨∃ j,a∈ℓ j/\j∉Dd fs is:=fun a m=>by
   obtain ⟨j,_,q⟩:=p3 a m
   try dsimp only at q
   split at q
   ·rename_i k ek
    exact .inl ⟨r2 k a q,ok2.pl a (r2 k a q)⟩
   ·rename_i ek
    exact .inr ⟨j,q,placeOf_none ek⟩
  refine ⟨L',⟨p1,p2,fun a m f=>?_,fun a f=>ok2.fd a f,fun j o e=>?_,fun a p=>?_,fun a f p=>?_,fun a m p=>?_⟩,fun a m=>?_⟩
  ·rcases src a m with ⟨q,_⟩ | ⟨j,q,hj⟩
   ·exact ok2.nf a q f
   ·exact ok2.pf a f (restP j a q hj).1
  ·have hj:j < fs.length:=by rw [<- b1];exact (List.getElem?_eq_some_iff.mp e).1
   obtain ⟨s1,e1,e2⟩:=b2 j fs[j] (List.getElem?_eq_getElem hj)
   rw [e] at e1
   cases e1
   rw [Nat.zero_add] at e2
   have:∃ o',fs[j]?=some (some (.bor o')):=by
    unfold back1 at e2
    split at e2
    ·exact ⟨o,by rw [List.getElem?_eq_getElem hj];exact e2⟩
    ·split at e2
     ·rename_i o1 s et es
      cases s with
      | val t=>cases e2
      | own o2=>cases e2
      | bor o2=>exact ⟨o2,by rw [List.getElem?_eq_getElem hj,es]⟩
     ·cases e2
   obtain ⟨o',eo⟩:=this
   exact ok.bo j o' eo
  ·rw [(l.p a (.inl p)).2]
   exact ok.pd a p
  ·exact ok2.pf a f (l.p a (.inl p)).1
  ·rcases src a m with ⟨_,q⟩ | ⟨j,q,hj⟩
   ·exact q (l.p a (.inl p)).1
   ·exact ok.pl a (q2 j a q) p
  ·rcases src a m with ⟨q,_⟩ | ⟨j,q,hj⟩
   ·exact .inl q
   ·exact .inr (.inr ⟨j,q,hj⟩)
end FL
namespace FL
open PySem PySem.Spec L2
def Bof (σ:St):Nat->Option V:=fun k=>(σ[k]?).join
def spF (K:PySem.W.Frag) (p:Nat) (Fn:FS->Out Rv):Sp:=fun vs H Q _=>vs.length=p/\∃ F fs0,Okk K F (Bof (vs.map some)) H fs0 (vs.map some)/\match Fn fs0 with
 | .ok r τ=>∀ F' H' u σ',Le F H F' H'->RR K (Bof (vs.map some)) σ' F' H' τ r u->Q u H'
 | _=>False
def CV (n:Nat) (g:FS->SO):FS->Out Rv:=fun args=>match g (args++List.replicate n none) with
 | .nx τ=>.ok (.t .non) (τ.take args.length)
 | .ret (.t t) τ=>.ok (.t t) (τ.take args.length)
 | .ret (.nw o) τ=>.ok (.nw o) (τ.take args.length)
 | .ret (.rf i) τ=>match τ[i]? with
  | some (some (.own o))=>.ok (.nw o) ((τ.set i none).take args.length)
  | _=>.bad
 | .exc c τ=>.exc c (τ.take args.length)
 | _=>.bad
section
variable {P:Program} {w:World} {K:PySem.W.Frag} {mg:Str->Option Value} {base:Heap}
theorem CZ {x qual:Str} {st:Stmt} {f:Addr} {fd:FuncData} {N ps:List Str} {k:Nat} {g:FS->SO} (Fu:Fun K x qual st f fd) (S:A7 N ps (Ar st)) (p n:Nat) (hp:ps.length=p) (hn:N.length=p+n)
  (hb:∀ cdv (A:Around) outer (s:Shared) H E,EY k (A.deeper (PyProof.Rows.envOfC qual (Ar st) s.heap.objs.size f cdv))->GSs (cxOf CX0 P w K mg base N qual (Ar st) f cdv A outer s H E).nox Xp.no (AW st) g):Ds P w K mg base CX0 (k+1) f fd ps (spF K p (CV n g)):=by
 refine Fu.ok S (fun vs H Q E h=>by rw [h.1,hp]) (fun cdv A outer s H vs Q E hr h=>⟨_,hb cdv A outer s H E hr,?_⟩)
 obtain ⟨hl,F,fs0,⟨L,ok⟩,h⟩:=h
 have hfl:fs0.length=p:=by rw [<- ok.sl.len,List.length_map];exact hl
 have es:L2.start N vs=vs.map some++List.replicate n none:=by
  unfold L2.start
  rw [hl,hn,Nat.add_sub_cancel_left]
 rw [es]
 refine ⟨F,Bof (vs.map some),fs0++List.replicate n none,⟨L,ok.more n⟩,?_⟩
 unfold CV at h
 cases e:g (fs0++List.replicate n none) with
 | nx τ =>
  rw [e] at h
  intro F' H' σ' l k
  exact h F' H' .non (σ'.take fs0.length) l (RR.take (RR.of (r:=.t .non) k rfl) _ (fun i z=>nomatch z))
 | ret r τ =>
  rw [e] at h
  intro F' H' σ' u l k
  cases r with
  | t t=>exact h F' H' u (σ'.take fs0.length) l (RR.take k _ (fun i z=>nomatch z))
  | nw o=>exact h F' H' u (σ'.take fs0.length) l (RR.take k _ (fun i z=>nomatch z))
  | rf i =>
   dsimp only at h
   split at h
   ·rename_i r' τ' e2
    split at e2
    ·rename_i o eo
     cases e2
     exact h F' H' u (σ'.take fs0.length) l (RR.take (RR.mv k eo) _ (fun i z=>nomatch z))
    ·cases e2
   ·exact h.elim
 | brk τ=>rw [e] at h;exact h.elim
 | cnt τ=>rw [e] at h;exact h.elim
 | exc c τ=>rw [e] at h;exact h.elim
 | bad=>rw [e] at h;exact h.elim
end
def Dl:Rv->Ini
 | .t t=>.val t
 | .rf i=>.slot i
 | .nw o=>.new o
def callR (Fn:FS->Out Rv) (rs:List Rv) (fs:FS):Out Rv :=
 if (Dd fs (rs.map Dl)).Nodup then (match Fn (EM fs (rs.map Dl)) with
  | .ok (.t t) τ=>(match backF (rs.map Dl) τ fs with
   | some fs'=>.ok (.t t) fs'
   | none=>.bad)
  | .ok (.nw o) τ=>(match backF (rs.map Dl) τ fs with
   | some fs'=>.ok (.nw o) fs'
   | none=>.bad)
  | _=>.bad) else .bad
def GB (K:PySem.W.Frag) (F:Wd) (H:Hp) (σ:St):List Rv->List V->List Addr->Prop
 | [],vs,L=>vs=[]/\L=[]
 | r :: rs,vs,L=>∃ v w L1 L2,vs=v :: w/\RelR K F H σ r v L1/\GB K F H σ rs w L2/\L=L1++L2
def RAn (K:PySem.W.Frag) (B:Nat->Option V) (σ:St):Wd->Hp->FS->List Rv->List V->Prop:=fun F H fs rs vs=>∃ L M,Ok K F B H fs σ L/\GB K F H σ rs vs M/\(L++M).Nodup/\∀ a∈M,¬ F a/\¬ F.p a
def tAn (K:PySem.W.Frag) (Z:Xp) (f:FS->Out (List Rv)):TA:=fun σ H Q=>∃ F B fs,Okk K F B H fs σ/\sat Z B (RAn K B σ) F H (f fs) Q
def FAn (X:Cx) (Z:Xp) (es:List Expr) (f:FS->Out (List Rv)):Prop:=PA X es (tAn X.K Z f)
def Ad (f:FS->Out Rv) (g:FS->Out (List Rv)):FS->Out (List Rv):=fun fs=>(f fs).bind fun r fs=>(g fs).bind fun rs fs=>.ok (r :: rs) fs
section
variable {K:PySem.W.Frag} {F F':Wd} {H H':Hp} {B:Nat->Option V} {fs:FS} {σ:St} {rs:List Rv} {vs:List V} {Z:Xp} {Q:VK} {Fn:FS->Out Rv} {E:XK}
theorem GB.len:∀ {rs:List Rv} {vs:List V} {M:List Addr},GB K F H σ rs vs M->vs.length=rs.length
 | [],_,_,h=>by obtain ⟨rfl,_⟩:=h;rfl
 | r :: rs,_,_,h=>by
  obtain ⟨v,w,L1,L2,rfl,_,h,_⟩:=h
  simp [GB.len h]
theorem RelR.def {r:Rv} {v:V} {L:List Addr} (h:RelR K F H σ r v L):∀ a∈L,H a≠none:=by
 cases r with
 | t t=>obtain ⟨rfl,_⟩:=h;exact fun a m=>nomatch m
 | nw o=>exact Bf.def h
 | rf i=>obtain ⟨rfl,_⟩:=h;exact fun a m=>nomatch m
theorem RelR.lf {r:Rv} {v:V} {L:List Addr} (l:∀ a,F a->F' a/\H' a=H a) (k:∀ a∈L,H' a=H a) (h:RelR K F H σ r v L):RelR K F' H' σ r v L:=by
 cases r with
 | t t=>exact ⟨h.1,Bj.le (F:=⟨F.f,fun _=>False⟩) ⟨l,fun _ z=>z.elim⟩ (Bj.wp h.2)⟩
 | nw o=>exact Bf.le (F:=⟨F.f,fun _=>False⟩) ⟨l,fun _ z=>z.elim⟩ k (Bf.wp h)
 | rf i=>exact h
theorem GB.lf (l:∀ a,F a->F' a/\H' a=H a):∀ {rs:List Rv} {vs:List V} {M:List Addr},(∀ a∈M,H' a=H a)->GB K F H σ rs vs M->GB K F' H' σ rs vs M
 | [],_,_,_,h=>h
 | r :: rs,_,_,k,h=>by
  obtain ⟨v,w,L1,L2,e,h1,h2,rfl⟩:=h
  exact ⟨v,w,L1,L2,e,h1.lf l fun a m=>k a (List.mem_append_left _ m),GB.lf l (fun a m=>k a (List.mem_append_right _ m)) h2,rfl⟩
theorem GB.toP:∀ {rs:List Rv} {vs:List V} {M:List Addr},GB K F H σ rs vs M->∃ μ:Nat->List Addr,(∀ k r,rs[k]?=some r->∃ v,vs[k]?=some v/\RelR K F H σ r v (μ k))/\(∀ k a,a∈μ k->a∈M/\H a≠none) /\
  (M.Nodup->(∀ k,(μ k).Nodup)/\∀ i j a,i≠j->a∈μ i->a∉μ j)
 | [],_,_,h=>⟨fun _=>[],(fun k r e=>by simp at e),(fun _ _ m=>nomatch m),fun _=>⟨fun _=>List.nodup_nil,(fun _ _ _ _ m=>nomatch m)⟩⟩
 | r :: rs,_,_,h=>by
  obtain ⟨v,w,L1,L2,rfl,h1,h2,rfl⟩:=h
  obtain ⟨μ,q1,q2,q3⟩:=GB.toP h2
  refine ⟨fun i=>match i with | 0=>L1 | i+1=>μ i,fun k r' e=>?_,fun k a m=>?_,fun nd=>?_⟩
  ·cases k with
   | zero =>
    simp at e
    subst e
    exact ⟨v,rfl,h1⟩
   | succ k =>
    obtain ⟨u,e1,e2⟩:=q1 k r' (by simpa using e)
    exact ⟨u,by simpa using e1,e2⟩
  ·cases k with
   | zero=>exact ⟨List.mem_append_left _ m,h1.def a m⟩
   | succ k=>exact ⟨List.mem_append_right _ (q2 k a m).1,(q2 k a m).2⟩
  ·rw [List.nodup_append] at nd
   obtain ⟨n1,n2,n3⟩:=nd
   obtain ⟨m1,m2⟩:=q3 n2
   refine ⟨fun i=>?_,fun i j a hij hi hj=>?_⟩
   ·cases i with
    | zero=>exact n1
    | succ i=>exact m1 i
   ·cases i with
    | zero =>
     cases j with
     | zero=>exact hij rfl
     | succ j=>exact n3 a hi a (q2 j a hj).1 rfl
    | succ i =>
     cases j with
     | zero=>exact n3 a hj a (q2 i a hi).1 rfl
     | succ j=>exact m2 i j a (fun e=>hij (by rw [e])) hi hj
theorem ini_ok (q:RAn K B σ F H fs rs vs):∃ L μ,Ok K F B H fs σ L/\Mu F H L μ/\(vs.map some).length=(rs.map Dl).length/\∀ (k:Nat) (i:Ini) (v:Option V),(rs.map Dl)[k]?=some i->(vs.map some)[k]?=some v->IniOk K F H σ i v (μ k):=by
 obtain ⟨L,M,ok,q,nd,nf⟩:=q
 obtain ⟨μ,q1,q2,q3⟩:=q.toP
 rw [List.nodup_append] at nd
 obtain ⟨m1,m2⟩:=q3 nd.2.1
 refine ⟨L,μ,ok,⟨fun k a m=>⟨(nf a (q2 k a m).1).1,(nf a (q2 k a m).1).2,fun z=>nd.2.2 a z a (q2 k a m).1 rfl,(q2 k a m).2⟩,m1,m2⟩,by simp [q.len],fun k i v e1 e2=>?_⟩
 rw [List.getElem?_map,Option.map_eq_some_iff] at e1 e2
 obtain ⟨r,er,rfl⟩:=e1
 obtain ⟨u,eu,rfl⟩:=e2
 obtain ⟨u',e3,rr⟩:=q1 k r er
 rw [eu] at e3
 cases e3
 cases r with
 | t t=>exact ⟨u,rfl,rr.2⟩
 | nw o=>exact ⟨u,rfl,rr⟩
 | rf i=>exact rr.2
theorem RAn.len (q:RAn K B σ F H fs rs vs):vs.length=rs.length:=by
 obtain ⟨L,M,ok,q,_⟩:=q
 exact q.len
theorem callR_ok (q:RAn K B σ F H fs rs vs) (s:sat Z B (RR K B σ) F H (callR Fn rs fs) Q):spF K rs.length Fn vs H Q E:=by
 unfold callR at s
 split at s
 ·rename_i nd
  obtain ⟨L9,μ,ok,hμ,hl,hi⟩:=ini_ok q
  obtain ⟨Pp,p1,p2,p3,p4⟩:=lend ok hl hi nd hμ
  refine ⟨q.len,⟨F.f,Pp⟩,EM fs (rs.map Dl),p2,?_⟩
  split at s
  ·rename_i t τ e
   rw [e]
   split at s
   ·rename_i fs' eb
    intro F' H' u σ' l k
    obtain ⟨Li,L',o1,⟨_,r⟩,_⟩:=k
    obtain ⟨le,L,o2,_⟩:=p4 F' H' τ σ' Li fs' l o1 eb
    exact s ⟨F'.f,F.p⟩ H' u le (RR.of ⟨L,o2⟩ (Bj.wp r))
   ·exact s.elim
  ·rename_i o τ e
   rw [e]
   split at s
   ·rename_i fs' eb
    intro F' H' u σ' l k
    obtain ⟨Li,L',o1,r,nd,nf⟩:=k
    obtain ⟨le,L,o2,sub⟩:=p4 F' H' τ σ' Li fs' l o1 eb
    refine s ⟨F'.f,F.p⟩ H' u le ⟨L,L',o2,Bf.wp r,?_,fun a m=>⟨(nf a m).1,fun p=>(nf a m).2 (l.p a (p1 a p)).1⟩⟩
    rw [List.nodup_append] at nd ⊢
    refine ⟨o2.nd,nd.2.1,fun a ha b hb e=>?_⟩
    rcases sub a ha with z | z
    ·exact nd.2.2 a z b hb e
    ·exact (nf b hb).2 (l.p b (e▸z)).1
   ·exact s.elim
  ·exact s.elim
 ·exact s.elim
end
section
variable {X:Cx} {Z:Xp} {e:Expr} {es:List Expr} {f:FS->Out Rv} {g:FS->Out (List Rv)}
theorem AM:FAn X Z [] Am:=pa_imp pa_nil fun σ H Q ⟨F,B,fs,⟨L,ok⟩,s⟩=>s F H [] Le.refl ⟨L,[],ok,⟨rfl,rfl⟩,by simpa using ok.nd,(fun _ m=>nomatch m)⟩
theorem Ai (ha:FE X Z e f) (hr:FAn X Z es g) (hs:starEach (e :: es) X.env=(false,eval e X.env) :: starEach es X.env:=by rfl):FAn X Z (e :: es) (Ad f g):=by
 refine pa_imp (EI ha hr hs) fun σ H Q ⟨F,B,fs,ok,s⟩=>⟨F,B,fs,ok,A2 s fun r fs1 F1 H1 u l q s1=>?_⟩
 obtain ⟨L,L1,o1,r1,nd,nf⟩:=q
 have nda:=List.nodup_append.mp nd
 have le1:Le F1 H1 ⟨F1.f,fun a=>F1.p a∨a∈L1⟩ H1:=⟨fun a f=>⟨f,rfl⟩,fun a f=>⟨.inl f,rfl⟩⟩
 refine ⟨⟨F1.f,fun a=>F1.p a∨a∈L1⟩,B,fs1,⟨L,o1.sl.le le1 fun _ _=>rfl,o1.nd,o1.nf,o1.fd,o1.bo,fun a p=>?_,fun a f p=>?_,fun a m p=>?_⟩,?_⟩
 ·rcases p with p | p
  ·exact o1.pd a p
  ·exact r1.def a p
 ·rcases p with p | p
  ·exact o1.pf a f p
  ·exact (nf a p).1 f
 ·rcases p with p | p
  ·exact o1.pl a m p
  ·exact nda.2.2 a m a p rfl
 ·cases eg:g fs1 with
  | bad=>rw [eg] at s1;exact s1.elim
  | exc c t=>rw [eg] at s1;exact Z.mono s1 le1
  | ok rs fs2 =>
   rw [eg] at s1
   intro F2 H2 us l2 q2
   obtain ⟨L2,M2,o2,r2,nd2,nf2⟩:=q2
   have le2:Le F1 H1 ⟨F2.f,F1.p⟩ H2:=⟨fun a f=>l2.f a f,fun a f=>⟨f,(l2.p a (.inl f)).2⟩⟩
   have hp:∀ a∈L1,F2.p a/\H2 a=H1 a:=fun a m=>l2.p a (.inr m)
   have nd2':=List.nodup_append.mp nd2
   refine s1 ⟨F2.f,F1.p⟩ H2 (u :: us) le2 ⟨L2,L1++M2,⟨AI.wp o2.sl,o2.nd,o2.nf,o2.fd,o2.bo,fun a f=>by rw [(le2.p a f).2];exact o1.pd a f,fun a f p=>o2.pf a f (l2.p a (.inl p)).1,fun a m p=>o2.pl a m (l2.p a (.inl p)).1⟩,⟨u,us,L1,M2,rfl,RelR.lf (F:=F1) (F':=⟨F2.f,F1.p⟩) (H:=H1) (H':=H2) (fun a f=>l2.f a f) (fun a m=>(hp a m).2) r1,GB.lf (F:=F2) (F':=⟨F2.f,F1.p⟩) (fun a f=>⟨f,rfl⟩) (fun _ _=>rfl) r2,rfl⟩,?_,fun a m=>?_⟩
   ·rw [List.nodup_append]
    refine ⟨o2.nd,?_,fun a ha b hb e=>?_⟩
    ·rw [List.nodup_append]
     exact ⟨nda.2.1,nd2'.2.1,fun a ha b hb e=>(nf2 b hb).2 (e▸(hp a ha).1)⟩
    ·rcases List.mem_append.mp hb with hb | hb
     ·exact o2.pl a ha (e▸(hp b hb).1)
     ·exact nd2'.2.2 a ha b hb e
   ·rcases List.mem_append.mp m with m | m
    ·exact ⟨fun f=>o2.pf a f (hp a m).1,(nf a m).2⟩
    ·exact ⟨(nf2 a m).1,fun p=>(nf2 a m).2 (l2.p a (.inl p)).1⟩
end
section
variable {X:Cx} {Z:Xp} {x:Str} {k p:Nat} {ps:List Str} {Fn:FS->Out Rv} {e o:Expr} {es:List Expr} {fa:FS->Out (List Rv)} {fo:FS->Out Rv} {pp pos apos:Pos} {C:Addr} {m:Str}
def Az (p:Nat) (Fn:FS->Out Rv):List Rv->FS->Out Rv:=fun rs fs=>if rs.length=p then callR Fn rs fs else .bad
theorem BQ (G:FnAt X.prog X.w X.K X.mg X.base CX0 x k ps (spF X.K p Fn)) (hr:EY k X.A) (ha:FAn X Z (e :: es) fa) (hg:Gl X x:=by rfl) (hdb:(x == ("__debug__":Str))=false:=by decide)
  (he:starEach (e :: es) X.env=(false,eval e X.env) :: starEach es X.env:=by rfl) (hpl:(backTo pos (starEach es X.env)).any (·.1)=false:=by rfl):FE X Z (.Call (.Name x pp) (e :: es) [] pos) (Al (Az p Fn) fa):=by
 refine Bz (pe_fn G hr pass0 ha hg hdb he hpl) fun σ H Q ⟨F,B,fs,ok,s⟩=>⟨F,B,fs,ok,A2 s fun rs fs1 F1 H1 us l q s1=>?_⟩
 unfold Az at s1
 split at s1
 ·rename_i hp
  rw [List.append_nil,<- hp]
  exact callR_ok q s1
 ·exact s1.elim
def insOk (C:Addr) (m:Str) (fs:FS):Rv->Bool
 | .t (.ins C' gs _)=>decide (C'=C) && !gs.any (· == m)
 | .rf i=>match A9 fs i with
  | some (.ins C' gs _)=>decide (C'=C) && !gs.any (· == m)
  | _=>false
 | _=>false
theorem lookup_no {kvs:List (Str×V)} {m:Str} (h:((kvs.map (·.1)).any (· == m))=false):kvs.lookup m=none:=by
 induction kvs with
 | nil=>rfl
 | cons p r ih =>
  rw [List.map_cons,List.any_cons,Bool.or_eq_false_iff] at h
  obtain ⟨k,v⟩:=p
  rw [List.lookup_cons]
  have:(m == k)=false:=by
   have h1:(k == m)=false:=h.1
   rw [beq_eq_false_iff_ne] at h1 ⊢
   exact fun e=>h1 e.symm
  rw [this]
  exact ih h.2
theorem insOk_ok {K:PySem.W.Frag} {F:Wd} {H:Hp} {B:Nat->Option V} {fs:FS} {σ:St} {r:Rv} {u:V} (ok:Okk K F B H fs σ) (q:Di K F H σ r u) (h:insOk C m fs r=true):∃ a dx kvs,u=.ref a/\H a=some (.ins C dx kvs)/\kvs.lookup m=none:=by
 unfold insOk at h
 split at h
 ·rename_i C' gs ts
  rw [Bool.and_eq_true] at h
  have hC:=of_decide_eq_true h.1
  subst hC
  simp only [Di,Bj] at q
  obtain ⟨a,dx,kvs,rfl,f,hd,rfl,r⟩:=q
  exact ⟨a,dx,kvs,rfl,hd,lookup_no (by simpa using h.2)⟩
 ·rename_i i
  split at h
  ·rename_i C' gs os eo
   rw [Bool.and_eq_true] at h
   have hC:=of_decide_eq_true h.1
   subst hC
   obtain ⟨v,L2,e1,q2,_⟩:=ok.own eo
   have e2:σ[i]?=some (some u):=q
   rw [e1] at e2
   have e3:v=u:=by simpa using e2
   subst e3
   simp only [Bf] at q2
   obtain ⟨a,dx,kvs,L',rfl,hd,rfl,_⟩:=q2
   exact ⟨a,dx,kvs,rfl,hd,lookup_no (by simpa using h.2)⟩
  ·cases h
 ·cases h
def Fw (C:Addr) (m:Str) (p:Nat) (Fn:FS->Out Rv) (fo:FS->Out Rv) (fa:FS->Out (List Rv)):FS->Out Rv:=fun fs=>(fo fs).bnd fun x fs=>if insOk C m fs x=true then (fa fs).bind fun rs fs=>Az p Fn (x :: rs) fs else .bad
theorem fe_mt {pl:Sem Bool} (G:MtAt X.prog X.w X.K X.mg X.base CX0 C m k ps (spF X.K p Fn)) (hr:EY k X.A) (ho:FE X Z o fo) (ha:FAn X Z (e :: es) fa)
  (hst:starEach (e :: es) X.env=(false,eval e X.env) :: starEach es X.env:=by rfl) (hpl:(backTo pos (starEach es X.env)).any (·.1)=false:=by rfl)
  (ht:eval (.Call (.Attribute o m apos) (e :: es) [] pos) X.env=(do
   let ov <- eval o X.env
   standAt apos.atName
   let (f,first) <- holding [ov] (getMethod ov m pl)
   callWith pos f first (backTo pos (starEach (e :: es) X.env)) (backToKw pos (keywordEach [] X.env))):=by rfl) :
  FE X Z (.Call (.Attribute o m apos) (e :: es) [] pos) (Fw C m p Fn fo fa):=by
 refine Bz (pe_mt G hr pass0 ho ha hst hpl ht) fun σ H Q ⟨F,B,fs,ok,s⟩=>⟨F,B,fs,ok,Bb s fun r fs1 F1 H1 u l ok1 rx s1=>?_⟩
 split at s1
 ·rename_i hi
  obtain ⟨a,dx,kvs,rfl,hd,hn⟩:=insOk_ok ok1 rx hi
  refine ⟨a,dx,kvs,rfl,hd,hn,F1,B,fs1,ok1,A2 s1 fun rs fs2 F2 H2 us l2 q s2=>?_⟩
  unfold Az at s2
  split at s2
  ·rename_i hp
   rw [List.append_nil,<- hp]
   obtain ⟨L9,M9,o9,q9,nd9,nf9⟩:=q
   refine callR_ok (rs:=r :: rs) (vs:=.ref a :: us) ⟨L9,M9,o9,⟨_,us,[],M9,rfl,?_,q9,rfl⟩,nd9,nf9⟩ s2
   have rx2:=rx.le l2
   cases r with
   | t t=>exact ⟨rfl,rx2⟩
   | nw o=>exact rx2.elim
   | rf i=>exact ⟨rfl,rx2⟩
  ·exact s2.elim
 ·exact s1.elim
theorem fe_mt0 (G:MtAt X.prog X.w X.K X.mg X.base CX0 C m k ps (spF X.K p Fn)) (hr:EY k X.A) (ho:FE X Z o fo)
  (h:∀ {ta:TE},PE X o ta->PE X (.Call (.Attribute o m apos) [] [] pos) (tMeth C m (spF X.K p Fn) [] E0 ta tNil)):FE X Z (.Call (.Attribute o m apos) [] [] pos) (Fw C m p Fn fo Am):=by
 refine Bz (h ho) fun σ H Q ⟨F,B,fs,ok,s⟩=>⟨F,B,fs,ok,Bb s fun r fs1 F1 H1 u l ok1 rx s1=>?_⟩
 split at s1
 ·rename_i hi
  obtain ⟨a,dx,kvs,rfl,hd,hn⟩:=insOk_ok ok1 rx hi
  refine ⟨a,dx,kvs,rfl,hd,hn,?_⟩
  have s2:sat Z B (RR X.K B σ) F1 H1 (Az p Fn [r] fs1) Q:=s1
  unfold Az at s2
  split at s2
  ·rename_i hp
   show spF X.K p Fn (.ref a :: ([]++[])) H1 Q E0
   rw [<- hp]
   obtain ⟨L9,o9⟩:=ok1
   refine callR_ok (rs:=[r]) (vs:=[.ref a]) ⟨L9,[],o9,⟨_,[],[],[],rfl,?_,⟨rfl,rfl⟩,rfl⟩,by simpa using o9.nd,(fun _ m=>nomatch m)⟩ s2
   cases r with
   | t t=>exact ⟨rfl,rx⟩
   | nw o=>exact rx.elim
   | rf i=>exact ⟨rfl,rx⟩
  ·exact s2.elim
 ·exact s1.elim
def makeR (C:Addr) (p:Nat) (Fn:FS->Out Rv) (rs:List Rv) (fs:FS):Out Rv :=
 if (Dd fs (rs.map Dl)).Nodup/\rs.length+1=p then (match Fn (some (.bor (.ins C [] [])) :: EM fs (rs.map Dl)) with
  | .ok (.t .non) (some (.bor o) :: τ)=>(match backF (rs.map Dl) τ fs with
   | some fs'=>.ok (.nw o) fs'
   | none=>.bad)
  | _=>.bad) else .bad
theorem makeR_ok {K:PySem.W.Frag} {F:Wd} {H:Hp} {B:Nat->Option V} {fs:FS} {σ:St} {rs:List Rv} {vs:List V} {Q:VK} {E:XK} (q:RAn K B σ F H fs rs vs) (s:sat Z B (RR K B σ) F H (makeR C p Fn rs fs) Q)
  {x dx:Addr} (hx:H x=none) (hdx:H dx=none) (hne:dx≠x):spF K p Fn (.ref x :: vs) (upd (upd H dx (.own x)) x (.ins C dx [])) (fun v H2=>v=.non/\Q (.ref x) H2) E:=by
 unfold makeR at s
 split at s
 ·rename_i hh
  obtain ⟨nd,hp⟩:=hh
  obtain ⟨L9,μ,ok,hμ,hl,hi⟩:=ini_ok q
  obtain ⟨Pp,p1,⟨L0,p2⟩,p3,p4⟩:=lend ok hl hi nd hμ
  have l0:∀ a,H a≠none->(upd (upd H dx (.own x)) x (.ins C dx [])) a=H a:=fun a h=>by
   rw [AG (fun e=>h (by rw [e];exact hx)),AG (fun e=>h (by rw [e];exact hdx))]
  have le0:Le ⟨F.f,Pp⟩ H ⟨F.f,Pp⟩ (upd (upd H dx (.own x)) x (.ins C dx [])):=⟨fun a f=>⟨f,l0 a (p2.fd a f)⟩,fun a f=>⟨f,l0 a (p3 a f)⟩⟩
  refine ⟨by rw [List.length_cons,q.len];exact hp,⟨F.f,Pp⟩,some (.bor (.ins C [] [])) :: EM fs (rs.map Dl),?_,?_⟩
  ·refine ⟨[x]++L0,AI.cons ⟨.ref x,rfl,?_⟩ (p2.sl.le le0 fun a m=>l0 a (p2.sl.def a m)),?_,fun a m=>?_,fun a f=>?_,fun i o e=>?_,fun a f=>?_,p2.pf,fun a m=>?_⟩
   ·simp only [Bf]
    exact ⟨x,dx,[],[],rfl,AV,rfl,⟨rfl,rfl⟩,rfl⟩
   ·rw [List.nodup_append]
    exact ⟨by simp,p2.nd,fun a ha b hb e=>p2.sl.def b hb (by rw [<- e,List.mem_singleton.mp ha];exact hx)⟩
   ·rcases List.mem_append.mp m with m | m
    ·rw [List.mem_singleton.mp m]
     exact fun f=>p2.fd x f hx
    ·exact p2.nf a m
   ·rw [l0 a (p2.fd a f)]
    exact p2.fd a f
   ·cases i with
    | zero=>exact ⟨.ref x,rfl,rfl⟩
    | succ i=>exact p2.bo i o (by simpa using e)
   ·rw [l0 a (p3 a f)]
    exact p3 a f
   ·rcases List.mem_append.mp m with m | m
    ·rw [List.mem_singleton.mp m]
     exact fun f=>p3 x f hx
    ·exact p2.pl a m
  ·split at s
   ·rename_i o τ e
    rw [e]
    split at s
    ·rename_i fs' eb
     intro F' H' u σ' l k
     obtain ⟨Lall,L',o1,⟨_,r⟩,_⟩:=k
     refine ⟨r,?_⟩
     obtain ⟨v,σ2,L1,L2,rfl,h1,h2,rfl⟩:=o1.sl.uncons
     obtain ⟨w,rfl,ro⟩:=h1
     obtain ⟨w',e3,e4⟩:=o1.bo 0 o rfl
     have ew:w=.ref x:=by
      have z1:some (some w)=some (some w'):=e3
      have z2:some (V.ref x)=some w':=e4
      cases z1
      cases z2
      rfl
     subst ew
     have nd1:=List.nodup_append.mp o1.nd
     have o2:Ok K F' (Bof (vs.map some)) H' τ σ2 L2:=⟨h2,nd1.2.1,fun a m=>o1.nf a (List.mem_append_right _ m),o1.fd,fun i ob eo=>by
      obtain ⟨v,z1,z2⟩:=o1.bo (i+1) ob (by simpa using eo)
      exact ⟨v,by simpa using z1,by
       have z3:(((V.ref x :: vs).map some)[i+1]?).join=some v:=z2
       simpa [Bof] using z3⟩,o1.pd,o1.pf,fun a m=>o1.pl a (List.mem_append_right _ m)⟩
     have l':Le ⟨F.f,Pp⟩ H F' H':=le0.trans l
     obtain ⟨le,L,o3,sub⟩:=p4 F' H' τ σ2 L2 fs' l' o2 eb
     refine s ⟨F'.f,F.p⟩ H' (.ref x) le ⟨L,L1,o3,Bf.wp ro,?_,fun a m=>⟨o1.nf a (List.mem_append_left _ m),fun p=>o1.pl a (List.mem_append_left _ m) (l'.p a (p1 a p)).1⟩⟩
     rw [List.nodup_append]
     refine ⟨o3.nd,nd1.1,fun a ha b hb e=>?_⟩
     rcases sub a ha with z | z
     ·exact nd1.2.2 b hb a z e.symm
     ·exact o1.pl b (List.mem_append_left _ hb) (l'.p b (e▸z)).1
    ·exact s.elim
   ·exact s.elim
 ·exact s.elim
theorem fe_mk (G:MkAt X.prog X.w X.K X.mg X.base CX0 x C k ps (spF X.K p Fn)) (hr:EY (k+1) X.A) (ha:FAn X Z (e :: es) fa) (hg:Gl X x:=by rfl) (hdb:(x == ("__debug__":Str))=false:=by decide)
  (he:starEach (e :: es) X.env=(false,eval e X.env) :: starEach es X.env:=by rfl) (hpl:(backTo pos (starEach es X.env)).any (·.1)=false:=by rfl):FE X Z (.Call (.Name x pp) (e :: es) [] pos) (Al (makeR C p Fn) fa):=by
 refine Bz (pe_mk G hr pass0 ha hg hdb he hpl) fun σ H Q ⟨F,B,fs,ok,s⟩=>⟨F,B,fs,ok,A2 s fun rs fs1 F1 H1 us l q s1=>?_⟩
 intro a dx h1 h2 h3
 rw [List.append_nil]
 exact makeR_ok q s1 h1 h2 h3
end
def Fg (gt:T->FS->Option FS) (ft:FS->Out Bool) (fe:FS->Out Rv):List T->FS->List T->Option (List T×FS)
 | [],τ,acc=>some (acc,τ)
 | t :: ts,τ,acc=>match gt t τ with
  | none=>none
  | some τ=>match ft τ with
   | .ok true τ=>(match fe τ with
    | .ok (.t v) τ=>if acc.length < big then Fg gt ft fe ts τ (acc++[v]) else none
    | _=>none)
   | .ok false τ=>Fg gt ft fe ts τ acc
   | _=>none
def EZ:FS->Out Bool:=fun fs=>.ok true fs
def Cp (new:Bool) (src:List (Option Nat)) (fi:FS->Out (List T)) (gt:T->FS->Option FS) (ft:FS->Out Bool) (fe:FS->Out Rv):FS->Out Rv:=fun fs=>(fi fs).bind fun ts fs =>
 if (Dd fs (src.map fun o=>o.elim Ini.no Ini.slot)).Nodup/\(src.all fun o=>o.elim true fun j=>decide (j < fs.length))=true then (match Fg gt ft fe ts (EM fs (src.map fun o=>o.elim Ini.no Ini.slot)) [] with
  | some (vs,τ)=>(match backF (src.map fun o=>o.elim Ini.no Ini.slot) τ fs with
   | some fs'=>if new=true then .ok (.nw (.lst vs)) fs' else .ok (.t (.lst vs)) fs'
   | none=>.bad)
  | none=>.bad) else .bad
def FIf (X:Cx) (ifs:List Expr) (ft:FS->Out Bool):Prop:=PIfs X ifs (tT X.K Xp.no ft)
theorem pifs_imp {X:Cx} {e:List Expr} {t t':TT} (h:PIfs X e t) (i:∀ σ H Q,t' σ H Q->t σ H Q):PIfs X e t':=fun pins s σ H Q I q=>h pins s σ H Q I (i _ _ _ q)
theorem DK {X:Cx}:FIf X [] EZ:=pifs_imp pifs_nil fun σ H Q ⟨F,B,fs,ok,s⟩=>s F H true Le.refl ⟨ok,rfl⟩
section
variable {K:PySem.W.Frag} {F:Wd} {H:Hp} {B:Nat->Option V} {fs:FS} {σ:St}
theorem Okk.hide {p:Addr} {o:HO} (h:Okk K F B H fs σ) (hp:H p=none):Okk K ⟨F.f,fun a=>F.p a∨a=p⟩ B (upd H p o) fs σ:=by
 obtain ⟨L,h⟩:=h
 have l:Le F H ⟨F.f,fun a=>F.p a∨a=p⟩ (upd H p o):=⟨fun a f=>⟨f,AG fun e=>h.fd a f (e▸hp)⟩,fun a f=>⟨.inl f,AG fun e=>h.pd a f (e▸hp)⟩⟩
 refine ⟨L,h.sl.le l (h.keepL hp),h.nd,h.nf,fun a q=>Ez (h.fd a q),h.bo,fun a q=>?_,fun a f q=>?_,fun a m q=>?_⟩
 ·rcases q with q | q
  ·exact Ez (h.pd a q)
  ·rw [q,AV];simp
 ·rcases q with q | q
  ·exact h.pf a f q
  ·exact h.fd a f (q▸hp)
 ·rcases q with q | q
  ·exact h.pl a m q
  ·exact h.sl.def a m (q▸hp)
theorem Okk.upP {p:Addr} {o:HO} (h:Okk K F B H fs σ) (hp:F.p p):Okk K F B (upd H p o) fs σ:=by
 obtain ⟨L,h⟩:=h
 have hf:∀ a,F a->(upd H p o) a=H a:=fun a f=>AG fun e=>h.pf a f (e▸hp)
 have l:Le ⟨F.f,fun _=>False⟩ H ⟨F.f,F.p⟩ (upd H p o):=⟨fun a f=>⟨f,hf a f⟩,fun a f=>f.elim⟩
 have sl:AI K ⟨F.f,fun _=>False⟩ H fs σ L:=AI.wp h.sl
 refine ⟨L,sl.le l fun a m=>AG fun e=>h.pl a m (e▸hp),h.nd,h.nf,fun a q=>Ez (h.fd a q),h.bo,fun a q=>Ez (h.pd a q),h.pf,h.pl⟩
theorem Ao.upP {p:Addr} {o:HO} {ts:List T} {vs:List V} (h:Okk K F B H fs σ) (hp:F.p p) (r:Ao K F H ts vs):Ao K F (upd H p o) ts vs:=by
 obtain ⟨L,h⟩:=h
 have l:Le ⟨F.f,fun _=>False⟩ H ⟨F.f,F.p⟩ (upd H p o):=⟨fun a f=>⟨f,AG fun e=>h.pf a f (e▸hp)⟩,fun a f=>f.elim⟩
 exact Ao.le l (Ao.wp r)
end
section
variable {X:Cx} {Z:Xp} {N:List Str} {sc:Scope} {tg iter elt:Expr} {ifs:List Expr} {fi:FS->Out (List T)} {gt:T->FS->Option FS} {ft:FS->Out Bool} {fe:FS->Out Rv} {pos:Pos} {K:PySem.W.Frag}
inductive CI (K:PySem.W.Frag) (W:Wd) (H1:Hp) (D:Addr) (Bc:Nat->Option V) (gt:T->FS->Option FS) (ft:FS->Out Bool) (fe:FS->Out Rv) (r:List T×FS) (l:List T) (τσ:St) (H2:Hp):Prop
 | mk (F2:Wd) (τ:FS) (acc:List T) (ys:List V) (l2:Le W H1 F2 H2) (pD:F2.p D) (ok2:Okk K F2 Bc H2 τ τσ) (hD2:H2 D=some (.lst ys)) (racc:Ao K F2 H2 acc ys) (ec:Fg gt ft fe l τ acc=some r):CI K W H1 D Bc gt ft fe r l τσ H2
theorem CI.put {W F6:Wd} {H1 H6:Hp} {D:Addr} {Bc:Nat->Option V} {r:List T×FS} {l:List T} {τσ:St} {τ3:FS} {acc:List T} {ys:List V} {v:T} {y:V} {L6:List Addr} (nP:¬ W.p D) (l16:Le W H1 F6 H6) (p6:F6.p D) (o6:Ok K F6 Bc H6 τ3 τσ L6) (racc6:Ao K F6 H6 acc ys) (rv:Bj K F6 H6 v y)
  (ec2:Fg gt ft fe l τ3 (acc++[v])=some r):CI K W H1 D Bc gt ft fe r l τσ (upd H6 D (.lst (ys++[y]))) :=
 .mk F6 τ3 (acc++[v]) (ys++[y]) ⟨fun a f=>⟨(l16.f a f).1,by rw [AG fun e=>o6.pf a (l16.f a f).1 (by rw [e];exact p6)];exact (l16.f a f).2⟩,fun a f=>⟨(l16.p a f).1,by rw [AG fun e=>nP (by rw [<- e];exact f)];exact (l16.p a f).2⟩⟩
  p6 (Okk.upP ⟨L6,o6⟩ p6) AV (Ao.upP ⟨L6,o6⟩ p6 (racc6.app (Ao.one rv))) ec2
theorem CI.one {W F5:Wd} {H1 H5:Hp} {D:Addr} {Bc:Nat->Option V} {r:List T×FS} {l:List T} {τσ:St} {τ2:FS} {acc:List T} {ys:List V} (nP:¬ W.p D) (l15:Le W H1 F5 H5) (p5:F5.p D) (ok5:Okk K F5 Bc H5 τ2 τσ) (hD5:H5 D=some (.lst ys)) (racc5:Ao K F5 H5 acc ys)
  (ec2:(match fe τ2 with | .ok (.t v) τ=>if acc.length < big then Fg gt ft fe l τ (acc++[v]) else none | _=>none)=some r) :
  tF K Xp.no fe τσ H5 fun y H6=>∃ ys,H6 D=some (.lst ys)/\ys.length < sizeLine/\CI K W H1 D Bc gt ft fe r l τσ (upd H6 D (.lst (ys++[y]))):=by
 refine ⟨F5,Bc,τ2,ok5,?_⟩
 cases ee:fe τ2 with
 | exc c τ3=>rw [ee] at ec2;cases ec2
 | bad=>rw [ee] at ec2;cases ec2
 | ok w τ3 =>
  rw [ee] at ec2
  cases w with
  | nw o=>cases ec2
  | rf o=>cases ec2
  | t v =>
   dsimp only at ec2
   by_cases hlen:acc.length < big
   ·rw [if_pos hlen] at ec2
    intro F6 H6 y l6 q6
    obtain ⟨L6,L6',o6,⟨_,rv⟩,_⟩:=q6
    have p6:=l6.p D p5
    exact ⟨ys,p6.2.trans hD5,by rw [racc5.len];exact Nat.lt_trans hlen big_lt,CI.put nP (l15.trans l6) p6.1 o6 (racc5.le l6) rv ec2⟩
   ·rw [if_neg hlen] at ec2
    cases ec2
theorem CI.turn {W F3:Wd} {H1 H3:Hp} {D:Addr} {Bc:Nat->Option V} {r:List T×FS} {t:T} {l:List T} {τσ:St} {τ:FS} {acc:List T} {ys:List V} {x:V} (nP:¬ W.p D) (l2:Le W H1 F3 H3) (pD:F3.p D) (ok2:Okk K F3 Bc H3 τ τσ) (hD2:H3 D=some (.lst ys)) (racc:Ao K F3 H3 acc ys)
  (ec2:Fg gt ft fe (t :: l) τ acc=some r) (rx:Bj K F3 H3 t x) :
  tG K gt x τσ H3 fun τ2 H4=>tT K Xp.no ft τ2 H4 fun b H5=>if b=true then tF K Xp.no fe τ2 H5 fun y H6=>∃ ys,H6 D=some (.lst ys)/\ys.length < sizeLine/\CI K W H1 D Bc gt ft fe r l τ2 (upd H6 D (.lst (ys++[y]))) else CI K W H1 D Bc gt ft fe r l τ2 H5:=by
 simp only [Fg] at ec2
 refine ⟨F3,Bc,τ,t,ok2,rx,?_⟩
 cases eg:gt t τ with
 | none=>rw [eg] at ec2;cases ec2
 | some τ1 =>
  rw [eg] at ec2
  intro F4 H4 τσ4 l4 ok4
  refine ⟨F4,Bc,τ1,ok4,?_⟩
  dsimp only at ec2
  cases et:ft τ1 with
  | exc c τ2=>rw [et] at ec2;cases ec2
  | bad=>rw [et] at ec2;cases ec2
  | ok b τ2 =>
   rw [et] at ec2
   intro F5 H5 b' l5 q5
   obtain ⟨ok5,rfl⟩:=q5
   have p4:=l4.p D pD
   have p5:=l5.p D p4.1
   have h5:=(p5.2.trans p4.2).trans hD2
   have l15:=(l2.trans l4).trans l5
   have r5:=(racc.le l4).le l5
   cases b' with
   | false =>
    rw [if_neg (by decide)]
    exact .mk F5 τ2 acc ys l15 p5.1 ok5 h5 r5 ec2
   | true =>
    rw [if_pos rfl]
    exact CI.one nP l15 p5.1 ok5 h5 r5 ec2
theorem cap_ini {F:Wd} {H:Hp} {B:Nat->Option V} {fs:FS} {σ:St} {src:List (Option Nat)} (ok:Okk K F B H fs σ) (hall:(src.all fun o=>o.elim true fun j=>decide (j < fs.length))=true) (k:Nat) (i:Ini) (v:Option V) (e1:(src.map fun o=>o.elim Ini.no Ini.slot)[k]?=some i) (e2:(GN σ src)[k]?=some v):IniOk K F H σ i v []:=by
 unfold GN at e2
 rw [List.getElem?_map,Option.map_eq_some_iff] at e1 e2
 obtain ⟨o,eo,rfl⟩:=e1
 obtain ⟨o',eo',rfl⟩:=e2
 rw [eo] at eo'
 cases eo'
 cases o with
 | none=>exact trivial
 | some j =>
  have hj:j < σ.length:=by
   obtain ⟨L1,o1⟩:=ok
   rw [o1.sl.len]
   exact of_decide_eq_true (List.all_eq_true.mp hall _ (List.mem_of_getElem? eo))
  show σ[j]?=some ((σ[j]?).join)
  rw [List.getElem?_eq_getElem hj]
  rfl
theorem comp_new {F1 F2:Wd} {H2:Hp} {B:Nat->Option V} {fs':FS} {σ:St} {D:Addr} {ys:List V} {acc:List T} {L:List Addr} (o3:Ok K ⟨F2.f,F1.p⟩ B H2 fs' σ L) (hD2:H2 D=some (.lst ys)) (racc:Ao K F2 H2 acc ys) (nL:D∉L) (nF:¬ F2 D) (np:¬ F1.p D):RR K B σ ⟨F2.f,F1.p⟩ H2 fs' (.nw (.lst acc)) (.ref D):=by
 refine ⟨L,[D],o3,DA hD2 (Ao.wp racc),?_,fun a m=>?_⟩
 ·rw [List.nodup_append]
  exact ⟨o3.nd,by simp,fun a ha b hb e=>nL (by rw [<- List.mem_singleton.mp hb,<- e];exact ha)⟩
 ·rw [List.mem_singleton.mp m]
  exact ⟨nF,np⟩
theorem comp_val {F1 F2:Wd} {H2:Hp} {B:Nat->Option V} {fs':FS} {σ:St} {D:Addr} {ys:List V} {acc:List T} {L:List Addr} (o3:Ok K ⟨F2.f,F1.p⟩ B H2 fs' σ L) (hD2:H2 D=some (.lst ys)) (racc:Ao K F2 H2 acc ys) (nL:D∉L) (np:¬ F1.p D):RR K B σ (addL ⟨F2.f,F1.p⟩ [D]) H2 fs' (.t (.lst acc)) (.ref D):=by
 have l3:Le ⟨F2.f,F1.p⟩ H2 (addL ⟨F2.f,F1.p⟩ [D]) H2:=orF
 refine RR.of ⟨L,?_⟩ ?_
 ·refine ⟨o3.sl.le l3 fun _ _=>rfl,o3.nd,fun a m z=>?_,fun a z=>?_,o3.bo,o3.pd,fun a z=>?_,o3.pl⟩
  ·rcases z with z | z
   ·exact o3.nf a m z
   ·exact nL (by rw [<- List.mem_singleton.mp z];exact m)
  ·rcases z with z | z
   ·exact o3.fd a z
   ·rw [List.mem_singleton.mp z,hD2];simp
  ·rcases z with z | z
   ·exact o3.pf a z
   ·rw [List.mem_singleton.mp z];exact np
 ·simp only [Di,Bj]
  exact ⟨D,ys,rfl,.inr (by simp),hD2,Ao.le l3 (Ao.wp racc)⟩
theorem comp_t {new:Bool} {src:List (Option Nat)} {σ:St} {H:Hp} {Q:VK} (h:tF K Z (Cp new src fi gt ft fe) σ H Q):tComp src (tI K Z fi) (tG K gt) (tT K Xp.no ft) (tF K Xp.no fe) σ H Q:=by
 obtain ⟨F,B,fs,ok,s⟩:=h
 refine ⟨F,B,fs,ok,A2 s fun ts fs1 F1 H1 J l q s1=>?_⟩
 obtain ⟨ok1,jk⟩:=q
 split at s1
 ·rename_i hnd
  obtain ⟨L9,ok9⟩:=id ok1
  obtain ⟨Pp,p1,p2,p3,p4⟩:=lend (μ:=fun _=>[]) ok9 (by unfold GN;simp) (cap_ini ok1 hnd.2) hnd.1 Mu.no
  have jI:JOk K ⟨F1.f,Pp⟩ H1 J ts:=jk.within
  split at s1
  ·rename_i vs τe ec
   split at s1
   ·rename_i fs' eb
    intro D hD
    have nP:¬ Pp D:=fun z=>p3 D z hD
    refine ⟨fun i m τσ H2=>m=ts.length - i/\CI K ⟨F1.f,Pp⟩ H1 D (Bof (GN σ src)) gt ft fe (vs,τe) (ts.drop i) τσ H2,
     ⟨ts.length,rfl,.mk ⟨F1.f,fun a=>Pp a∨a=D⟩ _ [] [] ⟨fun a f=>⟨f,AG fun e=>p2.fd a f (e▸hD)⟩,fun a f=>⟨.inl f,AG fun e=>nP (e▸f)⟩⟩ (.inr rfl) (p2.hide hD) AV rfl ec⟩,fun i m τσ H2 hc=>?_⟩
    obtain ⟨rfl,F2,τ,acc,ys,l2,pD,ok2,hD2,racc,ec2⟩:=hc
    by_cases hit:i < ts.length
    ·have ei:ts[i]?=some ts[i]:=List.getElem?_eq_getElem hit
     rw [List.drop_eq_getElem_cons hit] at ec2
     obtain ⟨j1,j2⟩:=(jI F2 H2 l2.f ⟨_,_,_,ok2⟩ i).1 _ ei
     refine .inr ⟨j1,CI K ⟨F1.f,Pp⟩ H1 D (Bof (GN σ src)) gt ft fe (vs,τe) (ts.drop (i+1)),fun τσ' H' h=>⟨ts.length - (i+1),by omega,rfl,h⟩,fun x H3 hy=>?_⟩
     obtain ⟨F3,⟨l23,nw⟩,rx⟩:=j2 x H3 hy
     exact CI.turn nP (l2.trans l23) (l23.p D pD).1 (nw _ _ _ ok2) ((l23.p D pD).2.trans hD2) (racc.le l23) ec2 rx
    ·refine .inl ⟨(jI F2 H2 l2.f ⟨_,_,_,ok2⟩ i).2 (by omega),?_⟩
     rw [List.drop_eq_nil_of_le (by omega)] at ec2
     simp only [Fg] at ec2
     cases ec2
     obtain ⟨Li,o2⟩:=ok2
     obtain ⟨le,L,o3,sub⟩:=p4 F2 H2 τe τσ Li fs' l2 o2 eb
     have nL:D∉L:=fun m=>(sub D m).elim (fun z=>o2.pl D z pD) nP
     have np:¬ F1.p D:=fun z=>nP (p1 D z)
     cases new with
     | true =>
      rw [if_pos rfl] at s1
      exact s1 ⟨F2.f,F1.p⟩ H2 (.ref D) le (comp_new o3 hD2 racc nL (fun f=>o2.pf D f pD) np)
     | false =>
      rw [if_neg (by decide)] at s1
      exact s1 (addL ⟨F2.f,F1.p⟩ [D]) H2 (.ref D) (le.trans orF) (comp_val o3 hD2 racc nL np)
   ·exact s1.elim
  ·exact s1.elim
 ·exact s1.elim
theorem Em (new:Bool) (N:List Str) (src:List (Option Nat)) (hcalm:X.calm=true) (hi:FI X Z tg iter fi) (hg:∀ cl C s H fp,GT (C9 X N sc cl C s H fp) tg gt) (ht:∀ cl C s H fp,FIf (C9 X N sc cl C s H fp) ifs ft)
  (he:∀ cl C s H fp,FE (C9 X N sc cl C s H fp) Xp.no elt fe) (hS:compOk X.env.scope sc=true:=by rfl) (hcap:Gw X.N sc N src=true:=by rfl)
  (hs:∀ x,foldedSetIterable iter X.env x=pure x:=by intro _;rfl):FE X Z (.ListComp elt [⟨tg,iter,ifs,0⟩] sc pos) (Cp new src fi gt ft fe) :=
 Bz (pe_comp (g:=tG X.K gt) (tt:=tT X.K Xp.no ft) (te:=tF X.K Xp.no fe) N src hcalm hi hg ht he hS hcap hs) fun _ _ _ h=>comp_t h
theorem gs_setComp (new:Bool) (i:Nat) {y:Str} {pos' spos:Pos} (N:List Str) (src:List (Option Nat)) (hcalm:X.calm=true) (hN:X.N.Nodup) (hy:Loc X.env.scope y) (hi:FI X Z tg iter fi) (hg:∀ cl C s H fp,GT (C9 X N sc cl C s H fp) tg gt) (ht:∀ cl C s H fp,FIf (C9 X N sc cl C s H fp) ifs ft)
  (he:∀ cl C s H fp,FE (C9 X N sc cl C s H fp) Xp.no elt fe) (hiy:X.N[i]?=some y:=by rfl) (hS:compOk X.env.scope sc=true:=by rfl) (hcap:Gw X.N sc N src=true:=by rfl)
  (hs:∀ x,foldedSetIterable iter X.env x=pure x:=by intro _;rfl) (hsw:swapsWith (.ListComp elt [⟨tg,iter,ifs,0⟩] sc pos) (some (.Name y pos')) spos.line X.env=pure true:=by rfl)
  (hf:X.fn y=true∨X.env.scope.names.lookup y=some .local:=by first | exact .inl rfl | exact .inr rfl | assumption) :
  GS X Z (.Assign [.Name y pos'] (.ListComp elt [⟨tg,iter,ifs,0⟩] sc pos) spos) (AY i (Cp new src fi gt ft fe)) :=
 EG (ps_setComp (g:=tG X.K gt) (tt:=tT X.K Xp.no ft) (te:=tF X.K Xp.no fe) N src hcalm hN hiy hy hi hg ht he hS hcap hs hsw hf) fun _ _ _ s=>comp_t (set_t s)
end
end FL
namespace FL
open PySem PySem.Spec L2
def orG (g g':Rv->Rv->FS->Out Rv):Rv->Rv->FS->Out Rv:=fun x y fs=>match g x y fs with
 | .bad=>g' x y fs
 | o=>o
theorem OpF.or {K:PySem.W.Frag} {Z:Xp} {r r':R2} {g g':Rv->Rv->FS->Out Rv} (h:OpF K Z r g) (h':OpF K Z r' g'):OpF K Z (orR r r') (orG g g'):=by
 intro F B H σ fs x y u w Q ok rx ry s
 unfold orG at s
 cases e:g x y fs with
 | ok a t=>rw [e] at s;exact .inl (h F B H σ fs x y u w Q ok rx ry (by rw [e];exact s))
 | exc c t=>rw [e] at s;exact .inl (h F B H σ fs x y u w Q ok rx ry (by rw [e];exact s))
 | bad=>rw [e] at s;exact .inr (h' F B H σ fs x y u w Q ok rx ry s)
def orC (g g':List Rv->FS->Out Rv):List Rv->FS->Out Rv:=fun x fs=>match g x fs with
 | .bad=>g' x fs
 | o=>o
theorem Ep.or {K:PySem.W.Frag} {Z:Xp} {r r':List V->Hp->VK->Prop} {g g':List Rv->FS->Out Rv} (h:Ep K Z r g) (h':Ep K Z r' g'):Ep K Z (orCall r r') (orC g g'):=by
 intro F B H σ fs x u Q ok rx s
 unfold orC at s
 cases e:g x fs with
 | ok a t=>rw [e] at s;exact .inl (h F B H σ fs x u Q ok rx (by rw [e];exact s))
 | exc c t=>rw [e] at s;exact .inl (h F B H σ fs x u Q ok rx (by rw [e];exact s))
 | bad=>rw [e] at s;exact .inr (h' F B H σ fs x u Q ok rx s)
def exL (fs:FS):Rv->Option (List T)
 | .t (.lst ts)=>some ts
 | .rf i=>match A9 fs i with
  | some (.lst ts)=>some ts
  | _=>none
 | _=>none
theorem exL_ok {K:PySem.W.Frag} {B:Nat->Option V} {F:Wd} {H:Hp} {σ:St} {fs:FS} {x:Rv} {u:V} {ts:List T} (h:Okk K F B H fs σ) (r:Di K F H σ x u) (e:exL fs x=some ts):∃ a vs,u=.ref a/\H a=some (.lst vs)/\Ao K F H ts vs:=by
 unfold exL at e
 split at e
 ·cases e
  simp only [Di,Bj] at r
  obtain ⟨a,vs,e,f,s,q⟩:=r
  exact ⟨a,vs,e,s,q⟩
 ·rename_i i
  split at e
  ·rename_i ts' eo
   cases e
   obtain ⟨v,L2,e1,q,_⟩:=h.own eo
   have e2:σ[i]?=some (some u):=r
   rw [e1] at e2
   have e3:v=u:=by simpa using e2
   subst e3
   simp only [Bf] at q
   obtain ⟨a,vs,e,s,q,_⟩:=q
   exact ⟨a,vs,e,s,q⟩
  ·cases e
 ·cases e
def gCatL:Rv->Rv->FS->Out Rv:=fun x y fs=>match exL fs x,exL fs y with
 | some ts,some us=>if ts.length+us.length<=big then .ok (.nw (.lst (ts++us))) fs else .bad
 | _,_=>.bad
def gCatT:Rv->Rv->FS->Out Rv
 | .t (.tup ts),.t (.tup us),fs=>if ts≠[]/\ts.length+us.length<=big then okT (.tup (ts++us)) fs else .bad
 | _,_,_=>.bad
section
variable {K:PySem.W.Frag} {Z:Xp}
theorem of_catL:OpF K Z rCat gCatL:=by
 intro F B H σ fs x y u w Q ok rx ry s
 unfold gCatL at s
 split at s
 ·rename_i ts us e1 e2
  split at s
  ·rename_i hl
   obtain ⟨a,vs,rfl,hs,r⟩:=exL_ok ok rx e1
   obtain ⟨b,ws,rfl,hs2,r2⟩:=exL_ok ok ry e2
   exact ⟨a,b,vs,ws,rfl,rfl,hs,hs2,by rw [r.len,r2.len];exact Nat.le_trans hl ET,fun p hp=>s F _ (.ref p) (Bp ok hp) (RR.alloc ok hp (DA AV ((r.app r2).le (Bp ok hp))))⟩
  ·exact s.elim
 ·exact s.elim
theorem of_catT:OpF K Z (rCatT K) gCatT:=by
 intro F B H σ fs x y u w Q ok rx ry s
 unfold gCatT at s
 split at s
 ·rename_i ts us
  split at s
  ·rename_i hl
   obtain ⟨a,vs,rfl,hs,r⟩:=DH (ts:=ts) rx rfl
   obtain ⟨b,ws,rfl,hs2,r2⟩:=DH (ts:=us) ry rfl
   refine ⟨a,b,vs,ws,rfl,rfl,hs,hs2,fun z=>hl.1 ?_,by rw [r.len,r2.len];exact Nat.le_trans hl.2 ET,fun z=>?_,fun _ p hp=>s _ _ (.ref p) (Ce ok hp) (Gm ok hp (r.app r2))⟩
   ·have:=r.len
    rw [z] at this
    exact List.eq_nil_of_length_eq_zero this.symm
   ·have e:us=[]:=by
     have:=r2.len
     rw [z] at this
     exact List.eq_nil_of_length_eq_zero this.symm
    subst e
    rw [List.append_nil] at s
    exact s F H _ Le.refl (RR.of ok rx)
  ·exact s.elim
 ·exact s.elim
def gCatT0:Rv->Rv->FS->Out Rv
 | .t (.tup []),.t (.tup us),fs=>okT (.tup us) fs
 | _,_,_=>.bad
theorem of_catT0:OpF K Z (rCatT0 K) gCatT0:=by
 intro F B H σ fs x y u w Q ok rx ry s
 unfold gCatT0 at s
 split at s
 ·rename_i us
  obtain ⟨a,vs,rfl,hs,r⟩:=DH (ts:=[]) rx rfl
  obtain ⟨b,ws,rfl,hs2,r2⟩:=DH (ts:=us) ry rfl
  have e:vs=[]:=by simpa [Ao] using r
  subst e
  exact ⟨a,b,ws,rfl,rfl,hs,hs2,s F H _ Le.refl (RR.of ok ry)⟩
 ·exact s.elim
theorem of_dget:OpF K Z rDGet gDGet:=by
 intro F B H σ fs x y u w Q ok rx ry s
 unfold gDGet at s
 split at s
 ·split at s
  ·rename_i t e
   obtain ⟨a,o',rfl,hd,h⟩:=dget_ok ok rx ry e
   rcases h with ⟨h1,_⟩ | ⟨t',v,h1,h2,h3⟩
   ·cases h1
   ·cases h1
    subst h2
    exact ⟨a,v,rfl,hd,s F H v Le.refl (RR.of ok h3)⟩
  ·exact s.elim
 ·exact s.elim
theorem of_din (neg:Bool):OpF K Z (rDIn neg) (gDIn neg):=by
 intro F B H σ fs y x w u Q ok ry rx s
 unfold gDIn at s
 split at s
 ·split at s
  ·rename_i t e
   obtain ⟨a,o',rfl,hd,h⟩:=dget_ok ok rx ry e
   refine ⟨a,o',rfl,hd,?_⟩
   have:o'.isSome=t.isSome:=by
    rcases h with ⟨h1,h2⟩ | ⟨t',v,h1,h2,h3⟩
    ·rw [h1,h2];rfl
    ·rw [h1,h2];rfl
   rw [this]
   exact s F H _ Le.refl (RR.of ok rfl)
  ·exact s.elim
 ·exact s.elim
end
def AF:=orG gAdd (orG gAddS (orG gCatL (orG gCatT gCatT0)))
def Bt:=orG gMul gMulS
def AH:=orG gIx gDGet
def HD (neg:Bool):=orG (gDIn neg) (orG (gInStr neg) (gIn neg))
def gLenD:List Rv->FS->Out Rv
 | [.t (.dK ks _)],fs=>okT (.int ks.length) fs
 | [.rf i],fs=>match A9 fs i with
  | some (.dK ks _)=>okT (.int ks.length) fs
  | _=>.bad
 | _,_=>.bad
def Bm:=orC gLen (orC gLenS gLenD)
def gListU:=orC gList gListD
section
variable {K:PySem.W.Frag} {Z:Xp}
theorem cf_lenD:Ep K Z (fun xs H Q=>∃ a kvs,xs=[V.ref a]/\Rd H a (.dK kvs)/\Q (.int kvs.length) H) gLenD:=by
 intro F B H σ fs rs vs Q ok q s
 unfold gLenD at s
 split at s
 ·obtain ⟨v,rfl,qq⟩:=Cs q
  have q:=qq
  simp only [Di,Bj] at q
  obtain ⟨a,kvs,rfl,f,hd,rfl,r⟩:=q
  rw [List.length_map] at s
  exact ⟨a,kvs,rfl,hd,s F H _ Le.refl (RR.of ok rfl)⟩
 ·rename_i i
  obtain ⟨v,rfl,qq⟩:=Cs q
  have q:=qq
  split at s
  ·rename_i eo
   obtain ⟨v',L2,e1,q2,_⟩:=ok.own eo
   have e2:σ[i]?=some (some v):=q
   rw [e1] at e2
   have e3:v'=v:=by simpa using e2
   subst e3
   simp only [Bf] at q2
   obtain ⟨a,kvs,rfl,hd,rfl,_⟩:=q2
   rw [List.length_map] at s
   exact ⟨a,kvs,rfl,.inl hd,s F H _ Le.refl (RR.of ok rfl)⟩
  ·exact s.elim
 ·exact s.elim
end
section
variable {X:Cx} {Z:Xp} {a b:Expr} {fa fb:FS->Out Rv} {pos:Pos}
theorem Br (ha:FE X Z a fa) (hb:FE X Z b fb):FE X Z (.BinOp a .Add b pos) (Ag AF fa fb) :=
 fe_op (OpF.or of_add (OpF.or of_addS (OpF.or of_catL (OpF.or of_catT of_catT0)))) (OpR.orR op_add (OpR.orR op_add_str (OpR.orR op_cat (OpR.orR op_catT op_catT0)))) ha hb
theorem Ft (ha:FE X Z a fa) (hb:FE X Z b fb):FE X Z (.BinOp a .Sub b pos) (Ag Cv fa fb):=fe_op of_sub op_sub ha hb
theorem DS (ha:FE X Z a fa) (hb:FE X Z b fb):FE X Z (.BinOp a .Mult b pos) (Ag Bt fa fb):=fe_op (OpF.or of_mul of_mulS) (OpR.orR op_mulK op_mulStr) ha hb
theorem Cr (ha:FE X Z a fa) (hb:FE X Z b fb):FE X Z (.BinOp a .Mod b pos) (Ag Cu fa fb):=fe_op of_mod op_mod ha hb
theorem ES (ha:FE X Z a fa) (hb:FE X Z b fb):FE X Z (.BinOp a .FloorDiv b pos) (Ag EO fa fb):=fe_op of_div op_fdiv ha hb
theorem A5 (hu:X.A.units+1 < cLine) (ha:FE X Z a fa) (hb:FE X Z b fb) (hs:PlainIx b):FE X Z (.Subscript a b pos) (Ag AH fa fb):=fe_ix (OpF.or of_ix of_dget) (IxR.orR ix_seq (ix_dict hu)) ha hb hs
theorem fe_eq (ha:FE X Z a fa) (hb:FE X Z b fb):FE X Z (.Compare a [.Eq] [b] pos) (Ag (gEq false) fa fb):=fe_cmp of_eq op_eq ha hb (nomark _)
theorem ft_eq (ha:FE X Z a fa) (hb:FE X Z b fb):FT X Z (.Compare a [.Eq] [b] pos) (asB (Ag (gEq false) fa fb)):=HE of_eq op_eq ha hb (nomark _)
theorem ft_ne (ha:FE X Z a fa) (hb:FE X Z b fb):FT X Z (.Compare a [.NotEq] [b] pos) (asB (Ag (gEq true) fa fb)):=HE of_ne op_ne ha hb (nomark _)
theorem ft_lt (ha:FE X Z a fa) (hb:FE X Z b fb):FT X Z (.Compare a [.Lt] [b] pos) (asB (Ag gLt fa fb)):=HE of_lt op_lt ha hb (nomark _)
theorem ft_gt (ha:FE X Z a fa) (hb:FE X Z b fb):FT X Z (.Compare a [.Gt] [b] pos) (asB (Ag gGt fa fb)):=HE of_gt op_gt ha hb (nomark _)
theorem ft_ge (ha:FE X Z a fa) (hb:FE X Z b fb):FT X Z (.Compare a [.GtE] [b] pos) (asB (Ag gGe fa fb)):=HE of_ge op_ge ha hb (nomark _)
theorem fe_in (hu:X.A.units+1 < cLine) (ha:FE X Z a fa) (hb:FE X Z b fb) (hm:behindInMarks .In b=false:=by rfl):FE X Z (.Compare a [.In] [b] pos) (Ag (HD false) fa fb) :=
 fe_cmp (OpF.or (of_din false) (OpF.or of_inStr (of_in false))) (OpR.orR (op_din hu) (OpR.orR op_in_str op_in_seq)) ha hb hm
theorem ft_in (hu:X.A.units+1 < cLine) (ha:FE X Z a fa) (hb:FE X Z b fb) (hm:behindInMarks .In b=false:=by rfl):FT X Z (.Compare a [.In] [b] pos) (asB (Ag (HD false) fa fb)) :=
 HE (OpF.or (of_din false) (OpF.or of_inStr (of_in false))) (OpR.orR (op_din hu) (OpR.orR op_in_str op_in_seq)) ha hb hm
theorem Fc (hu:X.A.units+1 < cLine) (ha:FE X Z a fa) (hb:FE X Z b fb) (hm:behindInMarks .NotIn b=false:=by rfl):FT X Z (.Compare a [.NotIn] [b] pos) (asB (Ag (HD true) fa fb)) :=
 HE (OpF.or (of_din true) (OpF.or of_notInStr (of_in true))) (OpR.orR (op_dnotin hu) (OpR.orR op_notIn_str op_notIn_seq)) ha hb hm
end
def itU (f:FS->Out Rv):FS->Out (List T):=fun fs=>(f fs).bnd fun r fs=>match r with
 | .t (.lst ts)=>.ok ts fs
 | .t (.scr ts)=>.ok ts fs
 | .t (.tup ts)=>.ok ts fs
 | .t (.str z)=>.ok (signs z) fs
 | _=>.bad
theorem Cq {X:Cx} {Z:Xp} {tg l:Expr} {f:FS->Out Rv} (hl:FE X Z l f):FI X Z tg l (itU f):=by
 refine pi_imp (pi_seq hl) fun σ H Q ⟨F,B,fs,ok,s⟩=>⟨F,B,fs,ok,Bb s fun r fs1 F1 H1 u l ok1 rx s1=>?_⟩
 split at s1
 ·rename_i ts
  simp only [Di,Bj] at rx
  obtain ⟨a,vs,rfl,ff,hs,r⟩:=rx
  exact .inl ⟨a,rfl,⟨vs,SqL.of hs⟩,s1 F1 H1 _ Le.refl ⟨ok1,jok_list (fun F' H' l=>SqL.of ((l a ff).2.trans hs)) r⟩⟩
 ·rename_i ts
  simp only [Di,Bj] at rx
  obtain ⟨a,vs,rfl,hs,r⟩:=rx
  exact .inl ⟨a,rfl,⟨vs,hs.sq⟩,s1 F1 H1 _ Le.refl ⟨ok1,jok_list (fun F' H' l=>(StL.lf l hs).sq) r⟩⟩
 ·rename_i ts
  simp only [Di,Bj] at rx
  obtain ⟨a,vs,rfl,hs,r⟩:=rx
  exact .inr (.inl ⟨a,rfl,⟨vs,hs.sq⟩,s1 F1 H1 _ Le.refl ⟨ok1,jok_tup (fun F' H' l=>SqT.of ((l a hs.2.1).2.trans hs.2.2)) r⟩⟩)
 ·rename_i z
  exact .inr (.inr ⟨z,rx,s1 F1 H1 _ Le.refl ⟨ok1,jok_str⟩⟩)
 ·exact s1.elim
def gSetL:Rv->Rv->Rv->FS->SO
 | .rf i,.t (.int k),.t t,fs=>match A9 fs i with
  | some (.lst ts)=>match ixN ts.length k with
   | some j=>.nx (putAt fs i (.lst (ts.set j t)))
   | none=>.bad
  | _=>.bad
 | _,_,_,_=>.bad
def gSetD:Rv->Rv->Rv->FS->SO
 | .rf i,.t y,.t t,fs=>match A9 fs i with
  | some (.dK ks ts)=>match tKey y with
   | some k=>if ks.length < big then .nx (putAt fs i (.dK (Hk ks ts k t).1 (Hk ks ts k t).2)) else .bad
   | none=>.bad
  | some (.dT ks ts)=>match y with
   | .tup ys=>match Fz ys with
    | some k=>if ks.length < big then .nx (putAt fs i (.dT (Hk ks ts k t).1 (Hk ks ts k t).2)) else .bad
    | none=>.bad
   | _=>.bad
  | _=>.bad
 | _,_,_,_=>.bad
def gSetU:Rv->Rv->Rv->FS->SO:=fun o i v fs=>match gSetL o i v fs with
 | .bad=>gSetD o i v fs
 | s=>s
def CH (fv fo fi:FS->Out Rv):FS->SO:=fun fs=>SO.of ((fv fs).bnd fun v fs=>(fo fs).bnd fun o fs=>(fi fs).bnd fun i fs=>.ok (v,o,i) fs) fun (v,o,i) fs=>gSetU o i v fs
section
variable {K:PySem.W.Frag} {Z:Xp} {B:Nat->Option V} {F:Wd} {H:Hp} {σ:St} {fs:FS} {D:Ends}
theorem gSetL_ok {o i v:Rv} {uo ui uv:V} (ok:Okk K F B H fs σ) (ro:Di K F H σ o uo) (ri:Di K F H σ i ui) (rv:Di K F H σ v uv) (s:satS K Z B F H (gSetL o i v fs) D):rSetL uo ui uv H (fun H3=>D.nx σ H3):=by
 unfold gSetL at s
 split at s
 ·rename_i i k t
  split at s
  ·rename_i ts e
   split at s
   ·rename_i j ej
    obtain ⟨a,us,rfl,hs,r,kk⟩:=ok.list ro e
    obtain ⟨ok',l⟩:=kk (ts.set j t) (us.set j uv) (Ao.set rv j r)
    exact ⟨a,us,k,j,rfl,ri,hs,by rw [r.len];exact ej,s F _ σ l ok'⟩
   ·exact s.elim
  ·exact s.elim
 ·exact s.elim
theorem gSetD_ok {o i v:Rv} {uo ui uv:V} (ok:Okk K F B H fs σ) (ro:Di K F H σ o uo) (ri:Di K F H σ i ui) (rv:Di K F H σ v uv) (s:satS K Z B F H (gSetD o i v fs) D):rDPut uo ui uv H (fun H3=>D.nx σ H3):=by
 unfold gSetD at s
 split at s
 ·rename_i i y t
  split at s
  ·rename_i ks ts e
   split at s
   ·rename_i k ek
    split at s
    ·rename_i hl
     obtain ⟨v,L2,e1,q,nf,_,kk⟩:=ok.own e
     have e2:σ[i]?=some (some uo):=ro
     rw [e1] at e2
     have e3:v=uo:=by simpa using e2
     subst e3
     simp only [Bf] at q
     obtain ⟨a,kvs,rfl,hs,rfl,q,rfl⟩:=q
     have:=GR ek ri
     subst this
     refine ⟨a,_,rfl,DPut.k hs (by rw [List.length_map] at hl;exact Nat.lt_trans hl big_lt),?_⟩
     obtain ⟨h1,h2⟩:=putT_rel (j:=k) rv q
     have l:Le F H F (upd H a (.dK (putK kvs k uv))):=⟨fun b f=>⟨f,AG fun z=>(nf a (by simp)).1 (z▸f)⟩,fun b f=>⟨f,AG fun z=>(nf a (by simp)).2 (z▸f)⟩⟩
     obtain ⟨ok',l'⟩:=kk (.dK (Hk (kvs.map (·.1)) ts k t).1 (Hk (kvs.map (·.1)) ts k t).2) (upd H a (.dK (putK kvs k uv))) (fun b hb _=>AG (by simpa using hb)) (by
      simp only [Bf]
      exact ⟨a,_,rfl,AV,h1,h2.le l,rfl⟩)
     exact s F _ σ l' ok'
    ·exact s.elim
   ·exact s.elim
  ·rename_i ks ts e
   split at s
   ·rename_i ys
    split at s
    ·rename_i k ek
     split at s
     ·rename_i hl
      obtain ⟨v,L2,e1,q,nf,_,kk⟩:=ok.own e
      have e2:σ[i]?=some (some uo):=ro
      rw [e1] at e2
      have e3:v=uo:=by simpa using e2
      subst e3
      simp only [Bf] at q
      obtain ⟨a,kvs,rfl,hs,rfl,q,rfl⟩:=q
      simp only [Di,Bj] at ri
      obtain ⟨b,vs,rfl,hb,rb⟩:=ri
      have:=Hd ek rb
      subst this
      refine ⟨a,_,rfl,DPut.t hs hb.2.2 (by rw [List.length_map] at hl;exact Nat.lt_trans hl big_lt),?_⟩
      obtain ⟨h1,h2⟩:=putT_rel (j:=k) rv q
      have l:Le F H F (upd H a (.dT (putK kvs k uv))):=⟨fun b f=>⟨f,AG fun z=>(nf a (by simp)).1 (z▸f)⟩,fun b f=>⟨f,AG fun z=>(nf a (by simp)).2 (z▸f)⟩⟩
      obtain ⟨ok',l'⟩:=kk (.dT (Hk (kvs.map (·.1)) ts k t).1 (Hk (kvs.map (·.1)) ts k t).2) (upd H a (.dT (putK kvs k uv))) (fun b hb _=>AG (by simpa using hb)) (by
       simp only [Bf]
       exact ⟨a,_,rfl,AV,h1,h2.le l,rfl⟩)
      exact s F _ σ l' ok'
     ·exact s.elim
    ·exact s.elim
   ·exact s.elim
  ·exact s.elim
 ·exact s.elim
end
theorem FH {X:Cx} {Z:Xp} {o i e:Expr} {fv fo fi:FS->Out Rv} {tpos pos:Pos} (hu:X.A.units+1 < cLine) (he:FE X Z e fv) (ho:FE X Z o fo) (hi:FE X Z i fi)
  (h:∀ {te to ti:TE} {t:TSet},PE X e te->PE X o to->PE X i ti->PSet X t->PS X (.Assign [.Subscript o i tpos] e pos) (tAsg te (gSub to ti t))):GS X Z (.Assign [.Subscript o i tpos] e pos) (CH fv fo fi):=by
 refine EG (h he ho hi (PSet.orR set_list (set_dict hu))) fun D σ H ⟨F,B,fs,ok,s⟩=>?_
 have s':sat Z B (RR X.K B σ) F H (fv fs) (fun v H1=>gSub (tF X.K Z fo) (tF X.K Z fi) (orSet rSetL rDPut) v σ H1 D.nx):=by
  have s1:=EF (R:=fun F' H' fs' (a:Rv×Rv×Rv) (b:V×V×V)=>Okk X.K F' B H' fs' σ/\Di X.K F' H' σ a.1 b.1/\Di X.K F' H' σ a.2.1 b.2.1/\Di X.K F' H' σ a.2.2 b.2.2) (Q:=fun b H3=>orSet rSetL rDPut b.2.1 b.2.2 b.1 H3 fun H4=>D.nx σ H4) s (fun a fs' F' H' b l q s2=>by
   obtain ⟨q1,q2,q3,q4⟩:=q
   obtain ⟨v,o,i⟩:=a
   dsimp only at s2 q2 q3 q4 ⊢
   unfold gSetU at s2
   split at s2
   ·exact .inr (gSetD_ok q1 q3 q4 q2 s2)
   ·exact .inl (gSetL_ok q1 q3 q4 q2 s2))
  refine Bb s1 fun v fs1 F1 H1 uv l1 ok1 rv s2=>?_
  refine ⟨F1,B,fs1,ok1,Bb s2 fun o fs2 F2 H2 uo l2 ok2 ro s3=>⟨F2,B,fs2,ok2,Bb s3 fun i fs3 F3 H3 ui l3 ok3 ri s4=>?_⟩⟩
  exact s4 F3 H3 (uv,uo,ui) Le.refl ⟨ok3,(rv.le l2).le l3,ro.le l3,ri⟩
 exact ⟨F,B,fs,ok,s'⟩
end FL
namespace FL
open PySem PySem.Spec L2
theorem CD {X:Cx} {Z:Xp} {st:Stmt}:GS X Z st (fun _=>.bad):=EG ps_never fun D σ H ⟨F,B,fs,ok,s⟩=>s.elim
section
variable {K:PySem.W.Frag} {B:Nat->Option V} {F F':Wd} {H H':Hp} {σ:St} {fs:FS} {i:Nat} {ob:FO} {r:Rv} {u:V}
theorem RR.put (h:RR K B σ F H fs r u) (e:A9 fs i=some ob):∃ v L2 L',σ[i]?=some (some v)/\Bf K F H ob v L2/\RelR K F H σ r u L'/\(L2++L').Nodup/\(∀ a∈L2++L',¬ F a/\¬ F.p a) /\
  ∀ ob' H' M,(∀ a,a∉L2->H a≠none->H' a=H a)->Bf K F H' ob' v M->M.Nodup->(∀ b∈M,b∈L2∨b∈L')->Okk K F B H' (putAt fs i ob') σ/\Le F H F H':=by
 obtain ⟨L,L',h,qr,ndr,nfr⟩:=h
 have key:∀ s:Sl,fs[i]?=some (some s)->(s=.own ob∨s=.bor ob)->∃ v L2 L',σ[i]?=some (some v)/\Bf K F H ob v L2/\RelR K F H σ r u L'/\(L2++L').Nodup/\(∀ a∈L2++L',¬ F a/\¬ F.p a) /\
  ∀ ob' H' M,(∀ a,a∉L2->H a≠none->H' a=H a)->Bf K F H' ob' v M->M.Nodup->(∀ b∈M,b∈L2∨b∈L')->Okk K F B H' (fs.set i (some (s.put ob'))) σ/\Le F H F H':=by
  intro s es ho
  obtain ⟨v,L1,L2,L3,e1,rfl,h1,h2⟩:=h.sl.pick es
  obtain ⟨u',rfl,q⟩:∃ u,v=some u/\Bf K F H ob u L2:=by
   rcases ho with rfl | rfl
   ·exact h1
   ·exact h1
  have nd:=h.nd
  have dis:∀ a∈L1++L3,a∉L2:=fun a ha hb=>by
   rw [List.nodup_append] at nd
   rcases List.mem_append.mp ha with ha | ha
   ·exact nd.2.2 a ha a (List.mem_append_left _ hb) rfl
   ·have:=(List.nodup_append.mp nd.2.1).2.2
    exact this a hb a ha rfl
  have ndr':=List.nodup_append.mp ndr
  have dis':∀ a∈L1++L3,a∉L':=fun a ha hb=>ndr'.2.2 a (by
   rcases List.mem_append.mp ha with ha | ha
   ·simp [ha]
   ·simp [ha]) a hb rfl
  refine ⟨u',L2,L',e1,q,qr,?_,fun a m=>?_,fun ob' H' M k q' hm hsub=>?_⟩
  ·rw [List.nodup_append]
   refine ⟨?_,ndr'.2.1,fun a ha b hb=>ndr'.2.2 a (by simp [ha]) b hb⟩
   rw [List.nodup_append] at nd
   exact (List.nodup_append.mp nd.2.1).1
  ·rcases List.mem_append.mp m with m | m
   ·exact ⟨h.nf a (by simp [m]),h.pl a (by simp [m])⟩
   ·exact nfr a m
  ·have l:Le F H F H':=⟨fun a f=>⟨f,k a (fun m=>h.nf a (by simp [m]) f) (h.fd a f)⟩,fun a f=>⟨f,k a (fun m=>h.pl a (by simp [m]) f) (h.pd a f)⟩⟩
   have nfM:∀ a∈L1++(M++L3),¬ F a/\¬ F.p a:=fun a m=>by
    rcases List.mem_append.mp m with m | m
    ·exact ⟨h.nf a (by simp [m]),h.pl a (by simp [m])⟩
    ·rcases List.mem_append.mp m with m | m
     ·rcases hsub a m with z | z
      ·exact ⟨h.nf a (by simp [z]),h.pl a (by simp [z])⟩
      ·exact nfr a z
     ·exact ⟨h.nf a (by simp [m]),h.pl a (by simp [m])⟩
   refine ⟨⟨L1++(M++L3),?_,Ea nd hm (fun a m m2=>?_),fun a m=>(nfM a m).1,fun a f=>by rw [(l.f a f).2];exact h.fd a f,?_,fun a f=>by rw [(l.p a f).2];exact h.pd a f,h.pf,fun a m=>(nfM a m).2⟩,l⟩
   ·have hL:∀ a∈L1++L3,H' a=H a:=fun a m=>k a (dis a m) (h.sl.def a (by
      rcases List.mem_append.mp m with m | m
      ·simp [m]
      ·simp [m]))
    have h3:=h2 F H' (some (s.put ob')) (some u') M l hL (by
     rcases ho with rfl | rfl
     ·exact ⟨u',rfl,q'⟩
     ·exact ⟨u',rfl,q'⟩)
    rwa [DQ e1] at h3
   ·rcases hsub a m with z | z
    ·exact dis a m2 z
    ·exact dis' a m2 z
   ·have:=BorOk.put (i:=i) (s:=some (s.put ob')) (v:=some u') h.bo (fun o eo=>by
     rcases ho with rfl | rfl
     ·cases eo
     ·obtain ⟨w,e3,e4⟩:=h.bo i ob es
      rw [e1] at e3
      have e5:u'=w:=by simpa using e3
      exact ⟨u',rfl,by rw [e5];exact e4⟩) h.sl.len
    rwa [DQ e1] at this
 unfold A9 at e
 split at e
 ·rename_i o es
  cases e
  obtain ⟨v,L2,L',a1,a2,a3,a4,a5,a6⟩:=key _ es (.inl rfl)
  refine ⟨v,L2,L',a1,a2,a3,a4,a5,fun ob' H' M k q m1 m2=>?_⟩
  have:=a6 ob' H' M k q m1 m2
  unfold putAt
  rw [es]
  exact this
 ·rename_i o es
  cases e
  obtain ⟨v,L2,L',a1,a2,a3,a4,a5,a6⟩:=key _ es (.inr rfl)
  refine ⟨v,L2,L',a1,a2,a3,a4,a5,fun ob' H' M k q m1 m2=>?_⟩
  have:=a6 ob' H' M k q m1 m2
  unfold putAt
  rw [es]
  exact this
 ·cases e
end
def asFO:Rv->Option FO
 | .t t=>some (.val t)
 | .nw o=>some o
 | .rf _=>none
def HX:List Str->List FO->Str->FO->Option (List Str×List FO)
 | [],[],f,o=>some ([f],[o])
 | g :: gs,x :: os,f,o=>if g=f then (match x with
   | .val _=>some (g :: gs,o :: os)
   | _=>none) else (HX gs os f o).map fun p=>(g :: p.1,x :: p.2)
 | _,_,_,_=>none
theorem putFo_rel {K:PySem.W.Frag} {F:Wd} {H:Hp} {f:Str} {o:FO} {y:V} {L':List Addr} (ro:Bf K F H o y L'):∀ {kvs:List (Str×V)} {os os':List FO} {gs':List Str} {L:List Addr},BM K F H os (kvs.map (·.2)) L->HX (kvs.map (·.1)) os f o=some (gs',os') ->
  ∃ M,(GG f y kvs).map (·.1)=gs'/\BM K F H os' ((GG f y kvs).map (·.2)) M/\(∀ a∈M,a∈L∨a∈L')/\((L++L').Nodup->M.Nodup)
 | [],os,os',gs',L,r,e=>by
  cases os with
  | cons x os=>simp [HX] at e
  | nil =>
   simp only [List.map_nil,HX,Option.some.injEq,Prod.mk.injEq] at e
   obtain ⟨rfl,rfl⟩:=e
   refine ⟨L',rfl,?_,fun a m=>.inr m,fun nd=>(List.nodup_append.mp nd).2.1⟩
   simp only [GG,List.map_cons,List.map_nil,BM]
   exact ⟨y,[],L',[],rfl,ro,⟨rfl,rfl⟩,by simp⟩
 | (g,x) :: kvs,os,os',gs',L,r,e=>by
  cases os with
  | nil=>simp [HX] at e
  | cons o1 os =>
   simp only [List.map_cons,BM] at r
   obtain ⟨v,w,L1,L2,ee,r1,r2,rfl⟩:=r
   cases ee
   simp only [List.map_cons,HX] at e
   by_cases hg:g=f
   ·rw [if_pos hg] at e
    cases o1 with
    | val t =>
     simp only [Option.some.injEq,Prod.mk.injEq] at e
     obtain ⟨rfl,rfl⟩:=e
     simp only [Bf] at r1
     obtain ⟨rfl,_⟩:=r1
     refine ⟨L'++L2,?_,?_,fun a m=>?_,fun nd=>?_⟩
     ·simp only [GG];rw [if_pos hg];rfl
     ·simp only [GG]
      rw [if_pos hg]
      simp only [List.map_cons,BM]
      exact ⟨y,_,L',L2,rfl,ro,r2,rfl⟩
     ·rcases List.mem_append.mp m with m | m
      ·exact .inr m
      ·exact .inl (by simpa using m)
     ·rw [List.nil_append] at nd
      exact (List.perm_append_comm).nodup_iff.mp nd
    | lst _=>cases e
    | dK _ _=>cases e
    | dT _ _=>cases e
    | ins _ _ _=>cases e
   ·rw [if_neg hg,Option.map_eq_some_iff] at e
    obtain ⟨p,ep,e⟩:=e
    simp only [Prod.mk.injEq] at e
    obtain ⟨rfl,rfl⟩:=e
    obtain ⟨M,m1,m2,m3,m4⟩:=putFo_rel ro r2 (gs':=p.1) (os':=p.2) (by rw [ep])
    refine ⟨L1++M,?_,?_,fun a m=>?_,fun nd=>?_⟩
    ·simp only [GG];rw [if_neg hg,List.map_cons,m1]
    ·simp only [GG]
     rw [if_neg hg]
     simp only [List.map_cons,BM]
     exact ⟨x,_,L1,M,rfl,r1,m2,rfl⟩
    ·rcases List.mem_append.mp m with m | m
     ·exact .inl (List.mem_append_left _ m)
     ·rcases m3 a m with z | z
      ·exact .inl (List.mem_append_right _ z)
      ·exact .inr z
    ·rw [List.append_assoc,List.nodup_append] at nd
     rw [List.nodup_append]
     refine ⟨nd.1,m4 nd.2.1,fun a ha b hb e=>?_⟩
     rcases m3 b hb with z | z
     ·exact nd.2.2 a ha b (List.mem_append_left _ z) e
     ·exact nd.2.2 a ha b (List.mem_append_right _ z) e
def fldS (C:Addr) (f:Str) (i:Nat) (fv:FS->Out Rv):FS->SO:=fun fs=>SO.of (fv fs) fun r fs=>match asFO r,A9 fs i with
 | some o,some (.ins C' gs os)=>if C'=C/\gs.length < 900 then (match HX gs os f o with
   | some p=>.nx (putAt fs i (.ins C p.1 p.2))
   | none=>.bad) else .bad
 | _,_=>.bad
theorem gs_fld {X:Cx} {Z:Xp} {x f:Str} {e:Expr} {fv:FS->Out Rv} {C:Addr} {p1 p2 pos:Pos} (c:Cls X.K C) (n:Et X.K C f) (i:Nat) (he:FE X Z e fv)
  (h:∀ {tv:TE},PE X e tv->PS X (.Assign [.Attribute (.Name x p1) f p2] e pos) (sFld X.K (tVar i) tv f)):GS X Z (.Assign [.Attribute (.Name x p1) f p2] e pos) (fldS C f i fv):=by
 refine EG (h he) fun D σ H ⟨F,B,fs,ok,s⟩=>⟨F,B,fs,ok,EF s fun r fs1 F1 H1 u l q s1=>?_⟩
 split at s1
 ·rename_i o C' gs os e1 e2
  split at s1
  ·rename_i hC
   obtain ⟨rfl,hl⟩:=hC
   split at s1
   ·rename_i p ep
    obtain ⟨v,L2,L',a1,a2,a3,a4,a5,a6⟩:=RR.put q e2
    simp only [Bf] at a2
    obtain ⟨a,dx,kvs,L3,rfl,hd,rfl,ro,rfl⟩:=a2
    have rfo:Bf X.K F1 H1 o u L':=by
     cases r with
     | t t =>
      cases e1
      simp only [Bf]
      exact a3
     | nw o'=>cases e1;exact a3
     | rf j=>cases e1
    obtain ⟨M,m1,m2,m3,m4⟩:=putFo_rel rfo ro (gs':=p.1) (os':=p.2) (by rw [ep])
    have nd2:(L3++L').Nodup:=(List.nodup_cons.mp a4).2
    have na:a∉L3++L':=(List.nodup_cons.mp a4).1
    have naM:a∉M:=fun z=>na (by
     rcases m3 a z with z | z
     ·exact List.mem_append_left _ z
     ·exact List.mem_append_right _ z)
    have k1:∀ b,b∉a :: L3->H1 b≠none->(upd H1 a (.ins C' dx (GG f u kvs))) b=H1 b:=fun b hb _=>AG fun z=>hb (by rw [z];simp)
    have l1:Le F1 H1 F1 (upd H1 a (.ins C' dx (GG f u kvs))):=⟨fun b f=>⟨f,AG fun z=>(a5 a (by simp)).1 (z▸f)⟩,fun b f=>⟨f,AG fun z=>(a5 a (by simp)).2 (z▸f)⟩⟩
    obtain ⟨ok',l'⟩:=a6 (.ins C' p.1 p.2) (upd H1 a (.ins C' dx (GG f u kvs))) (a :: M) k1 (by
     simp only [Bf]
     exact ⟨a,dx,_,M,rfl,AV,m1,BM.le l1 (fun b hb=>AG fun z=>naM (z▸hb)) m2,rfl⟩) (List.nodup_cons.mpr ⟨naM,m4 nd2⟩) (fun b hb=>by
     rcases List.mem_cons.mp hb with z | z
     ·exact .inl (by rw [z];simp)
     ·rcases m3 b z with z | z
      ·exact .inl (List.mem_cons_of_mem _ z)
      ·exact .inr z)
    exact ⟨_,a1,a,C',dx,kvs,rfl,hd,c,n,by rw [List.length_map] at hl;omega,s1 F1 _ σ l' ok'⟩
   ·exact s1.elim
  ·exact s1.elim
 ·exact s1.elim
def Gi:List Str->List FO->Str->FO->List FO
 | g :: gs,x :: os,f,o=>if f == g then o :: os else x :: Gi gs os f o
 | _,os,_,_=>os
theorem setFo_rel {K:PySem.W.Frag} {F:Wd} {H:Hp} {f:Str} {ks:List Key} {ts:List T}:∀ {kvs:List (Str×V)} {os:List FO} {L:List Addr},BM K F H os (kvs.map (·.2)) L->L.Nodup->Eu (kvs.map (·.1)) os f=some (.dK ks ts) ->
  ∃ b dkvs,kvs.lookup f=some (.ref b)/\b∈L/\H b=some (.dK dkvs)/\dkvs.map (·.1)=ks/\Ao K F H ts (dkvs.map (·.2)) /\
   ∀ H' o',(∀ a∈L,a≠b->H' a=H a)->Le F H F H'->Bf K F H' o' (.ref b) [b]->BM K F H' (Gi (kvs.map (·.1)) os f o') (kvs.map (·.2)) L
 | [],os,L,r,nd,e=>by cases os <;> simp [Eu] at e
 | (g,x) :: kvs,os,L,r,nd,e=>by
  cases os with
  | nil=>simp [Eu] at e
  | cons o1 os =>
   simp only [List.map_cons,BM] at r
   obtain ⟨v,w,L1,L2,ee,r1,r2,rfl⟩:=r
   cases ee
   simp only [List.map_cons,Eu] at e
   rw [List.lookup_cons]
   have nd':=List.nodup_append.mp nd
   cases hb:f == g with
   | true =>
    rw [hb] at e
    cases e
    simp only [Bf] at r1
    obtain ⟨b,dkvs,rfl,hd,rfl,rt,rfl⟩:=r1
    refine ⟨b,dkvs,rfl,by simp,hd,rfl,rt,fun H' o' k l ro=>?_⟩
    simp only [List.map_cons,Gi,hb,if_true,BM]
    refine ⟨.ref b,_,[b],L2,rfl,ro,BM.le l (fun a m=>k a (by simp [m]) fun z=>nd'.2.2 b (by simp) a m z.symm) r2,rfl⟩
   | false =>
    rw [hb] at e
    obtain ⟨b,dkvs,h1,h2,h3,h4,h5,h6⟩:=setFo_rel r2 nd'.2.1 (by simpa using e)
    refine ⟨b,dkvs,h1,List.mem_append_right _ h2,h3,h4,h5,fun H' o' k l ro=>?_⟩
    have:=h6 H' o' (fun a m=>k a (List.mem_append_right _ m)) l ro
    simp only [List.map_cons,Gi,hb,BM]
    exact ⟨x,_,L1,L2,rfl,r1.le l fun a m=>k a (List.mem_append_left _ m) fun z=>nd'.2.2 a m b h2 z,this,rfl⟩
def Ef (C:Addr) (f:Str) (i j:Nat) (fv:FS->Out Rv):FS->SO:=fun fs=>SO.of (fv fs) fun r fs=>match r,A9 fs i,fs[j]? with
 | .t t,some (.ins C' gs os),some (some (.val y))=>if C'=C then (match Eu gs os f,tKey y with
   | some (.dK ks ts),some k=>if ks.length < big then .nx (putAt fs i (.ins C gs (Gi gs os f (.dK (Hk ks ts k t).1 (Hk ks ts k t).2)))) else .bad
   | _,_=>.bad) else .bad
 | _,_,_=>.bad
theorem gs_dputF {X:Cx} {Z:Xp} {x y f:Str} {e:Expr} {fv:FS->Out Rv} {C:Addr} {p1 p2 p3 p4 pos:Pos} (c:Cls X.K C) (n:Et X.K C f) (i j:Nat) (he:FE X Z e fv)
  (h:∀ {tv:TE},PE X e tv->PS X (.Assign [.Subscript (.Attribute (.Name x p1) f p2) (.Name y p3) p4] e pos) (sDPut (tFld X.K (tVar i) f) (tVar j) tv)) :
  GS X Z (.Assign [.Subscript (.Attribute (.Name x p1) f p2) (.Name y p3) p4] e pos) (Ef C f i j fv):=by
 refine EG (h he) fun D σ H ⟨F,B,fs,ok,s⟩=>⟨F,B,fs,ok,EF s fun r fs1 F1 H1 u l q s1=>?_⟩
 split at s1
 ·rename_i t C' gs os y' e2 e3
  split at s1
  ·rename_i hC
   subst hC
   split at s1
   ·rename_i ks ts k e4 e5
    split at s1
    ·rename_i hl
     have rt:Bj X.K F1 H1 t u:=by obtain ⟨_,_,_,⟨_,q⟩,_⟩:=q;exact q
     have ok1:=q.ok
     obtain ⟨v,L2,a1,a2,a3,a4,a5⟩:=ok1.own e2
     simp only [Bf] at a2
     obtain ⟨a,dx,kvs,L3,rfl,hd,rfl,ro,rfl⟩:=a2
     have ndc:=List.nodup_cons.mp a4
     obtain ⟨b,dkvs,b1,b2,b3,rfl,b5,b6⟩:=setFo_rel ro ndc.2 e4
     obtain ⟨L9,o9⟩:=id ok1
     obtain ⟨w,M1,M2,M3,e6,_,h1,_⟩:=o9.sl.pick e3
     obtain ⟨uy,rfl,ry,_⟩:=h1
     have:=GR e5 ry
     subst this
     have hab:a≠b:=fun z=>ndc.1 (z▸b2)
     obtain ⟨h1,h2⟩:=putT_rel (j:=k) rt b5
     have nb:=a3 b (List.mem_cons_of_mem _ b2)
     have l1:Le F1 H1 F1 (upd H1 b (.dK (putK dkvs k u))):=⟨fun z f=>⟨f,AG fun q=>nb.1 (q▸f)⟩,fun z f=>⟨f,AG fun q=>nb.2 (q▸f)⟩⟩
     obtain ⟨ok',l'⟩:=a5 (.ins C' (kvs.map (·.1)) (Gi (kvs.map (·.1)) os f (.dK (Hk (dkvs.map (·.1)) ts k t).1 (Hk (dkvs.map (·.1)) ts k t).2))) (upd H1 b (.dK (putK dkvs k u))) (fun z hz _=>AG fun q=>hz (by rw [q];exact List.mem_cons_of_mem _ b2)) (by
      simp only [Bf]
      refine ⟨a,dx,kvs,L3,rfl,by rw [AG hab];exact hd,rfl,b6 _ _ (fun z _ hz=>AG hz) l1 ?_,rfl⟩
      simp only [Bf]
      exact ⟨b,_,rfl,AV,h1,h2.le l1,rfl⟩)
     exact ⟨_,a1,a,C',dx,kvs,.ref b,rfl,hd,c,n,b1,kV k,e6,b,_,rfl,DPut.k b3 (by rw [List.length_map] at hl;exact Nat.lt_trans hl big_lt),s1 F1 _ σ l' ok'⟩
    ·exact s1.elim
   ·exact s1.elim
  ·exact s1.elim
 ·exact s1.elim
end FL
namespace FL
open PySem PySem.Spec L2
section
variable {X:Cx} {Z:Xp} {e:Expr} {es:List Expr} {fa:FS->Out (List Rv)} {pos p:Pos}
theorem CL (hm:X.mg "len"=none) (ha:FA X Z (e :: es) fa) (hg:Gl X "len":=by rfl) (he:starEach (e :: es) X.env=(false,eval e X.env) :: starEach es X.env:=by rfl) (hpl:(backTo pos (starEach es X.env)).any (·.1)=false:=by rfl) :
  FE X Z (.Call (.Name "len" p) (e :: es) [] pos) (Al Bm fa):=GX (Ep.or cf_len (Ep.or cf_lenS cf_lenD)) (DO.orR call_len_seq (DO.orR call_len_str call_lenDR)) hm PySem.boot_len ha hg (by decide) (by decide) he hpl
theorem fe_min2 (hm:X.mg "min"=none) (ha:FA X Z (e :: es) fa) (hc:X.calm=true:=by rfl) (hg:Gl X "min":=by rfl) (he:starEach (e :: es) X.env=(false,eval e X.env) :: starEach es X.env:=by rfl) (hpl:(backTo pos (starEach es X.env)).any (·.1)=false:=by rfl) :
  FE X Z (.Call (.Name "min" p) (e :: es) [] pos) (Al Gv fa):=GX cf_min2 (call_min2 hc) hm PyProof.Rows.boot_min ha hg (by decide) (by decide) he hpl
theorem fe_sum (hm:X.mg "sum"=none) (ha:FA X Z (e :: es) fa) (hc:X.calm=true:=by rfl) (hg:Gl X "sum":=by rfl) (he:starEach (e :: es) X.env=(false,eval e X.env) :: starEach es X.env:=by rfl) (hpl:(backTo pos (starEach es X.env)).any (·.1)=false:=by rfl) :
  FE X Z (.Call (.Name "sum" p) (e :: es) [] pos) (Al gSum fa):=GX cf_sum (call_sum hc) hm PyProof.Rows.boot_sum ha hg (by decide) (by decide) he hpl
theorem fe_all (hm:X.mg "all"=none) (ha:FA X Z (e :: es) fa) (hc:X.calm=true:=by rfl) (hg:Gl X "all":=by rfl) (he:starEach (e :: es) X.env=(false,eval e X.env) :: starEach es X.env:=by rfl) (hpl:(backTo pos (starEach es X.env)).any (·.1)=false:=by rfl) :
  FE X Z (.Call (.Name "all" p) (e :: es) [] pos) (Al gAll fa):=GX cf_all (call_all hc) hm PyProof.Rows.boot_all ha hg (by decide) (by decide) he hpl
theorem fe_list (hm:X.mg "list"=none) (ha:FA X Z (e :: es) fa) (hc:X.calm=true:=by rfl) (hg:Gl X "list":=by rfl) (he:starEach (e :: es) X.env=(false,eval e X.env) :: starEach es X.env:=by rfl) (hpl:(backTo pos (starEach es X.env)).any (·.1)=false:=by rfl) :
  FE X Z (.Call (.Name "list" p) (e :: es) [] pos) (Al gListU fa):=HG (Ep.or cf_list cf_listD) (DO.orR call_list_of (HM hc)) hm PyProof.Rows.boot_list ha hg (by decide) (by decide) he hpl
theorem fe_tuple (hm:X.mg "tuple"=none) (ha:FA X Z (e :: es) fa) (hg:Gl X "tuple":=by rfl) (he:starEach (e :: es) X.env=(false,eval e X.env) :: starEach es X.env:=by rfl) (hpl:(backTo pos (starEach es X.env)).any (·.1)=false:=by rfl) :
  FE X Z (.Call (.Name "tuple" p) (e :: es) [] pos) (Al FJ fa):=HG cf_tuple call_tuple_of hm PyProof.Rows.boot_tuple ha hg (by decide) (by decide) he hpl
theorem fe_int1 (hm:X.mg "int"=none) (ha:FA X Z (e :: es) fa) (hg:Gl X "int":=by rfl) (he:starEach (e :: es) X.env=(false,eval e X.env) :: starEach es X.env:=by rfl) (hpl:(backTo pos (starEach es X.env)).any (·.1)=false:=by rfl) :
  FE X Z (.Call (.Name "int" p) (e :: es) [] pos) (Al gInt1 fa):=HG cf_int1 call_int1 hm PyProof.Rows.boot_int ha hg (by decide) (by decide) he hpl
end
def revF (f:FS->Out Rv):FS->Out Rv:=fun fs=>(f fs).bnd fun r fs=>match Dt fs r with
 | some ts=>.ok (.nw (.lst ts.reverse)) fs
 | none=>.bad
theorem fe_listRev {X:Cx} {Z:Xp} {a:Expr} {f:FS->Out Rv} {p1 p2 pos1 pos2:Pos} (hc:X.calm=true) (hm1:X.mg "list"=none) (hm2:X.mg "reversed"=none) (ha:FE X Z a f) (hg1:Gl X "list":=by rfl) (hg2:Gl X "reversed":=by rfl)
  (he:starEach [(.Call (.Name "reversed" p2) [a] [] pos2:Expr)] X.env=[(false,eval (.Call (.Name "reversed" p2) [a] [] pos2) X.env)]:=by rfl) (he2:starEach [a] X.env=[(false,eval a X.env)]:=by rfl) :
  FE X Z (.Call (.Name "list" p1) [.Call (.Name "reversed" p2) [a] [] pos2] [] pos1) (revF f):=by
 refine Bz (pe_listRev hc hm1 hm2 ha hg1 hg2 he he2) fun σ H Q ⟨F,B,fs,ok,s⟩=>⟨F,B,fs,ok,Bb s fun r fs1 F1 H1 u l ok1 rx s1=>?_⟩
 split at s1
 ·rename_i ts ets
  obtain ⟨a,vs,rfl,hs,q⟩:=CG ok1 rx ets
  exact ⟨a,vs,rfl,hs,fun d hd=>s1 F1 _ (.ref d) (Bp ok1 hd) (RR.alloc ok1 hd (DA AV ((q.rev).le (Bp ok1 hd))))⟩
 ·exact s1.elim
def gPow:=gI fun i j fs=>if 0<=j/\j<=1000000/\i.natAbs < 2 ^ 64 then okT (.int (i ^ j.toNat)) fs else .bad
theorem of_pow {K:PySem.W.Frag} {Z:Xp}:OpF K Z (rI CPow fun i j=>.int (i ^ j.toNat)) gPow:=opf_I (t:=fun i j=>.int (i ^ j.toNat)) (fun _ _ _ _ _=>rfl) fun i j fs=>by
 by_cases h:0<=j/\j<=1000000/\i.natAbs < 2 ^ 64
 ·exact .inr ⟨h,if_pos h⟩
 ·exact .inl (if_neg h)
theorem fe_pow {X:Cx} {Z:Xp} {a b:Expr} {fa fb:FS->Out Rv} {pos:Pos} (ha:FE X Z a fa) (hb:FE X Z b fb):FE X Z (.BinOp a .Pow b pos) (Ag gPow fa fb):=fe_op of_pow op_pow ha hb
def RP (K:PySem.W.Frag) (B:Nat->Option V) (σ:St):Wd->Hp->FS->Option Int->Option Int->Prop:=fun F H fs a b=>Okk K F B H fs σ/\b=a
def tP (K:PySem.W.Frag) (Z:Xp) (f:FS->Out (Option Int)):TO:=fun σ H Q=>∃ F B fs,Okk K F B H fs σ/\sat Z B (RP K B σ) F H (f fs) Q
def FP (X:Cx) (Z:Xp) (e:Option Expr) (f:FS->Out (Option Int)):Prop:=PO X e (tP X.K Z f)
theorem po_imp {X:Cx} {e:Option Expr} {t t':TO} (h:PO X e t) (i:∀ σ H Q,t' σ H Q->t σ H Q):PO X e t':=fun pins s σ H Q I q=>h pins s σ H Q I (i _ _ _ q)
def noP:FS->Out (Option Int):=fun fs=>.ok none fs
def EA (f:FS->Out Rv):FS->Out (Option Int):=fun fs=>(f fs).bnd fun r fs=>match r with
 | .t (.int i)=>.ok (some i) fs
 | _=>.bad
def cutT (ts:List T) (lo hi:Option Int):List T:=(ts.drop (HT.sIx ts.length 0 lo)).take (HT.sIx ts.length ts.length hi - HT.sIx ts.length 0 lo)
theorem cutT_rel {K:PySem.W.Frag} {F:Wd} {H:Hp} {ts:List T} {vs:List V} {lo hi:Option Int} (r:Ao K F H ts vs):Ao K F H (cutT ts lo hi) (cutV vs lo hi):=by
 unfold cutT cutV
 rw [r.len]
 exact (r.drop _).take _
def gSlU:Rv->Option Int->Option Int->FS->Out Rv:=fun x lo hi fs=>match Dt fs x with
 | some ts=>okT (.lst (cutT ts lo hi)) fs
 | none=>match x with
  | .t (.tup ts)=>okT (.tup (cutT ts lo hi)) fs
  | _=>.bad
def slF (f:FS->Out Rv) (l h:FS->Out (Option Int)):FS->Out Rv:=fun fs=>(f fs).bnd fun x fs=>(l fs).bind fun lo fs=>(h fs).bind fun hi fs=>gSlU x lo hi fs
section
variable {X:Cx} {Z:Xp} {e:Expr} {lo hi:Option Expr} {f:FS->Out Rv} {l h:FS->Out (Option Int)} {pos p2:Pos}
theorem fo_none:FP X Z none noP:=po_imp po_none fun σ H Q ⟨F,B,fs,ok,s⟩=>s F H none Le.refl ⟨ok,rfl⟩
theorem fo_some (he:FE X Z e f):FP X Z (some e) (EA f):=by
 refine po_imp (po_some he) fun σ H Q ⟨F,B,fs,ok,s⟩=>⟨F,B,fs,ok,Bb s fun r fs1 F1 H1 u l ok1 rx s1=>?_⟩
 split at s1
 ·exact ⟨_,rx,s1 F1 H1 _ Le.refl ⟨ok1,rfl⟩⟩
 ·exact s1.elim
theorem fe_sl (he:FE X Z e f) (hl:FP X Z lo l) (hu:FP X Z hi h):FE X Z (.Subscript e (.Slice lo hi none p2) pos) (slF f l h):=by
 refine Bz (pe_slice (SlR.or sl_list (SlR.or sl_tup sl_all)) he hl hu) fun σ H Q ⟨F,B,fs,ok,s⟩=>⟨F,B,fs,ok,Bb s fun x fs1 F1 H1 u l1 ok1 rx s1=>⟨F1,B,fs1,ok1,A2 s1 fun lo fs2 F2 H2 lo' l2 q2 s2=>?_⟩⟩
 obtain ⟨ok2,rfl⟩:=q2
 refine ⟨F2,B,fs2,ok2,A2 s2 fun hi fs3 F3 H3 hi' l3 q3 s3=>?_⟩
 obtain ⟨ok3,rfl⟩:=q3
 have rx3:=(rx.le l2).le l3
 unfold gSlU at s3
 split at s3
 ·rename_i ts e
  obtain ⟨a,vs,rfl,hs,r⟩:=CG ok3 rx3 e
  exact .inl ⟨a,vs,rfl,hs,fun p hp=>s3 _ _ (.ref p) (Ce ok3 hp) (rel_newLst ok3 hp (cutT_rel r))⟩
 ·split at s3
  ·rename_i ts _
   obtain ⟨a,vs,rfl,hs,r⟩:=DH (ts:=ts) rx3 rfl
   by_cases hw:HT.sIx ts.length 0 lo'=0/\HT.sIx ts.length ts.length hi'=ts.length
   ·refine .inr (.inr ⟨a,vs,rfl,hs,by rw [r.len];exact hw,s3 F3 H3 _ Le.refl (RR.of ok3 ?_)⟩)
    have e:cutT ts lo' hi'=ts:=by
     unfold cutT
     rw [hw.1,hw.2]
     simp
    rw [e]
    exact rx3
   ·exact .inr (.inl ⟨a,vs,rfl,hs,by rw [r.len];exact hw,fun p hp=>s3 _ _ (.ref p) (Ce ok3 hp) (Gm ok3 hp (cutT_rel r))⟩)
  ·exact s3.elim
end
end FL
namespace FL
open PySem PySem.Spec L2
def seqB:T->Option (List T)
 | .lst ts=>some ts
 | .scr ts=>some ts
 | .tup ts=>some ts
 | _=>none
def pairs:List T->List T->List T
 | x :: xs,y :: ys=>.tup [x,y] :: pairs xs ys
 | _,_=>[]
theorem pairs_at:∀ {xs ys:List T} {i:Nat} {t:T},(pairs xs ys)[i]?=some t->∃ x y,xs[i]?=some x/\ys[i]?=some y/\t=.tup [x,y]
 | [],_,i,t,h=>by simp [pairs] at h
 | _ :: _,[],i,t,h=>by simp [pairs] at h
 | x :: xs,y :: ys,0,t,h=>by
  simp only [pairs,List.getElem?_cons_zero,Option.some.injEq] at h
  exact ⟨x,y,rfl,rfl,h.symm⟩
 | x :: xs,y :: ys,i+1,t,h=>by
  simp only [pairs,List.getElem?_cons_succ] at h
  simpa using pairs_at h
theorem pairs_len:∀ {xs ys:List T} {i:Nat},(pairs xs ys).length<=i->xs.length<=i∨ys.length<=i
 | [],_,i,h=>.inl (by simp)
 | _ :: _,[],i,h=>.inr (by simp)
 | x :: xs,y :: ys,0,h=>by simp [pairs] at h
 | x :: xs,y :: ys,i+1,h=>by
  simp only [pairs,List.length_cons,Nat.add_le_add_iff_right] at h
  simpa using pairs_len h
theorem seqB_ok {K:PySem.W.Frag} {F:Wd} {H:Hp} {t:T} {ts:List T} {u:V} (r:Bj K F H t u) (e:seqB t=some ts):∃ b a vs,u=.ref a/\Ao K F H ts vs/\∀ (F':Wd) (H':Hp),(∀ a,F a->F' a/\H' a=H a)->SqB b K H' a vs:=by
 unfold seqB at e
 split at e
 ·cases e
  simp only [Bj] at r
  obtain ⟨a,vs,rfl,f,hs,r⟩:=r
  exact ⟨false,a,vs,rfl,r,fun F' H' l=>SqL.of ((l a f).2.trans hs)⟩
 ·cases e
  simp only [Bj] at r
  obtain ⟨a,vs,rfl,hs,r⟩:=r
  exact ⟨false,a,vs,rfl,r,fun F' H' l=>(StL.lf l hs).sq⟩
 ·cases e
  simp only [Bj] at r
  obtain ⟨a,vs,rfl,hs,r⟩:=r
  exact ⟨true,a,vs,rfl,r,fun F' H' l=>SqT.of ((l a hs.2.1).2.trans hs.2.2)⟩
 ·cases e
def itZ (f g:FS->Out Rv):FS->Out (List T):=fun fs=>(f fs).bnd fun r fs=>(g fs).bnd fun r' fs=>match r,r' with
 | .t x,.t y=>match seqB x,seqB y with
  | some xs,some ys=>.ok (pairs xs ys) fs
  | _,_=>.bad
 | _,_=>.bad
theorem jok_zip {K:PySem.W.Frag} {F:Wd} {H:Hp} {b1 b2:Bool} {a1 a2:Addr} {vs ws:List V} {xs ys:List T} (h1:∀ (F':Wd) (H':Hp),(∀ a,F a->F' a/\H' a=H a)->SqB b1 K H' a1 vs) (h2:∀ (F':Wd) (H':Hp),(∀ a,F a->F' a/\H' a=H a)->SqB b2 K H' a2 ws)
  (r1:Ao K F H xs vs) (r2:Ao K F H ys ws):JOk K F H (Itz K b1 a1 b2 a2) (pairs xs ys):=by
 intro F' H' l ⟨B,fs,σ,ok⟩ i
 have q1:=Ao.lf l r1
 have q2:=Ao.lf l r2
 refine ⟨fun t et=>?_,fun hl=>⟨vs,ws,h1 F' H' l,h2 F' H' l,by rw [r1.len,r2.len];exact pairs_len hl⟩⟩
 obtain ⟨x,y,ex,ey,rfl⟩:=pairs_at et
 obtain ⟨v,ev,rv⟩:=q1.at ex
 obtain ⟨w,ew,rw'⟩:=q2.at ey
 refine ⟨⟨vs,ws,v,w,h1 F' H' l,h2 F' H' l,ev,ew⟩,fun z H'' hy=>?_⟩
 obtain ⟨T,vx,vy,hn,rfl,rfl,g1,g2⟩:=hy
 have e1:=g1 vs (h1 F' H' l)
 have e2:=g2 ws (h2 F' H' l)
 rw [ev] at e1
 rw [ew] at e2
 cases e1
 cases e2
 refine ⟨addF F' T,⟨Ce ok hn,fun B fs σ k=>k.alloc hn⟩,?_⟩
 simp only [Bj]
 exact ⟨T,[v,w],rfl,⟨rfl,.inr rfl,AV⟩,by
  simp only [Ao]
  exact ⟨v,[w],rfl,rv.le (Ce ok hn),w,[],rfl,rw'.le (Ce ok hn),rfl⟩⟩
theorem fi_zip {X:Cx} {Z:Xp} {a b:Expr} {fa fb:FS->Out Rv} {p pos tpos:Pos} {elts:List Expr} {k0:Nat} (hm:X.mg "zip"=none) (ha:FE X Z a fa) (hb:FE X Z b fb) (hg:Gl X "zip":=by rfl)
  (hs:starEach [a,b] X.env=[(false,eval a X.env),(false,eval b X.env)]:=by rfl) (hs2:starEach [b] X.env=[(false,eval b X.env)]:=by rfl):FI X Z (.Tuple elts k0 tpos) (.Call (.Name "zip" p) [a,b] [] pos) (itZ fa fb):=by
 refine pi_imp (pi_zip hg hm (EI ha (EI hb pa_nil hs2) (by rw [hs,hs2])) hs hs2) fun σ H Q ⟨F,B,fs,ok,s⟩=>?_
 refine ⟨F,B,fs,ok,Bb s fun r fs1 F1 H1 u l1 ok1 rx s1=>⟨F1,B,fs1,ok1,Bb s1 fun r' fs2 F2 H2 u' l2 ok2 ry s2=>?_⟩⟩
 split at s2
 ·rename_i x y
  split at s2
  ·rename_i xs ys e1 e2
   obtain ⟨b1,a1,vs,rfl,q1,h1⟩:=seqB_ok (Bj.le l2 rx) e1
   obtain ⟨b2,a2,ws,rfl,q2,h2⟩:=seqB_ok ry e2
   exact ⟨b1,a1,b2,a2,rfl,⟨vs,h1 F2 H2 fun _ f=>⟨f,rfl⟩⟩,⟨ws,h2 F2 H2 fun _ f=>⟨f,rfl⟩⟩,s2 F2 H2 _ Le.refl ⟨ok2,jok_zip h1 h2 q1 q2⟩⟩
  ·exact s2.elim
 ·exact s2.elim
def tyT:T->Option String
 | .non=>some "NoneType"
 | .bl _=>some "bool"
 | .int _=>some "int"
 | .str _=>some "str"
 | .tup _=>some "tuple"
 | .lst _=>some "list"
 | .dT _ _=>some "dict"
 | _=>none
def Hc:List String:=["NoneType","bool","int","str","tuple","list","dict"]
def HW (t T:String):Bool:=t == T || (t == "bool" && T == "int")
def Kit (K:PySem.W.Frag) (T:String):Prop:=∀ t,t∈Hc->PySem.W.kitOne K (.type t) (.type T)=some (HW t T)
theorem tyT_ok {K:PySem.W.Frag} {F:Wd} {H:Hp} {t:T} {u:V} {n:String} (r:Bj K F H t u) (e:tyT t=some n):TyOf K H u (.type n)/\n∈Hc:=by
 cases t <;> simp only [tyT,Option.some.injEq,reduceCtorEq] at e <;> (try subst e) <;> (try simp only [Bj] at r)
 ·subst r;exact ⟨.non,by decide⟩
 ·subst r;exact ⟨.bl _,by decide⟩
 ·subst r;exact ⟨.int _,by decide⟩
 ·subst r;exact ⟨.str _,by decide⟩
 ·obtain ⟨a,vs,rfl,hs,_⟩:=r;exact ⟨.tup hs.2.2,by decide⟩
 ·obtain ⟨a,vs,rfl,f,hs,_⟩:=r;exact ⟨.lst hs,by decide⟩
 ·obtain ⟨a,kvs,rfl,f,hs,_⟩:=r;exact ⟨.dT hs,by decide⟩
def isF (T:String) (f:FS->Out Rv):FS->Out Rv:=fun fs=>(f fs).bnd fun r fs=>match r with
 | .t t=>match tyT t with
  | some n=>.ok (.t (.bl (HW n T))) fs
  | none=>.bad
 | _=>.bad
theorem HF {X:Cx} {Z:Xp} {a:Expr} {f:FS->Out Rv} {p p2 pos:Pos} {x:Str} {T:String} (k:Kit X.K T) (hb:bootBuiltins x=some (.type T)) (hm:X.mg "isinstance"=none) (hm2:X.mg x=none) (ha:FE X Z a f) (hg:Gl X "isinstance":=by rfl) (hg2:Gl X x:=by rfl)
  (hn:x≠"__name__":=by decide) (hdb:(x == ("__debug__":Str))=false:=by decide)
  (hs:starEach [a,.Name x p2] X.env=(false,eval a X.env) :: starEach [.Name x p2] X.env:=by rfl) (hs2:starEach [.Name x p2] X.env=[(false,eval (.Name x p2) X.env)]:=by rfl) (hpl:(backTo pos (starEach [.Name x p2] X.env)).any (·.1)=false:=by rfl) :
  FE X Z (.Call (.Name "isinstance" p) [a,.Name x p2] [] pos) (isF T f):=by
 refine Bz (pe_callB (HN T) hg hm PyProof.Rows.boot_isinstance (EI ha (EI (pe_bltn (v:=.ty T) hg2 hm2 hb rfl hn hdb) pa_nil hs2) hs) (by decide) (by decide) hs hpl) fun σ H Q ⟨F,B,fs,ok,s⟩=>?_
 refine ⟨F,B,fs,ok,Bb s fun r fs1 F1 H1 u l1 ok1 rx s1=>?_⟩
 split at s1
 ·rename_i t
  split at s1
  ·rename_i n e
   obtain ⟨ty,mem⟩:=tyT_ok rx e
   exact ⟨u,_,_,rfl,ty,k n mem,s1 F1 H1 _ Le.refl (RR.of ok1 rfl)⟩
  ·exact s1.elim
 ·exact s1.elim
section
variable {K:PySem.W.Frag}
theorem kit_str:Kit K "str":=fun t h=>by simp only [Hc,List.mem_cons,List.not_mem_nil,or_false] at h;rcases h with rfl | rfl | rfl | rfl | rfl | rfl | rfl <;> rfl
theorem kit_list:Kit K "list":=fun t h=>by simp only [Hc,List.mem_cons,List.not_mem_nil,or_false] at h;rcases h with rfl | rfl | rfl | rfl | rfl | rfl | rfl <;> rfl
theorem kit_tuple:Kit K "tuple":=fun t h=>by simp only [Hc,List.mem_cons,List.not_mem_nil,or_false] at h;rcases h with rfl | rfl | rfl | rfl | rfl | rfl | rfl <;> rfl
end
def orM (g g':Rv->List Rv->FS->Out Rv):Rv->List Rv->FS->Out Rv:=fun x rs fs=>match g x rs fs with
 | .bad=>g' x rs fs
 | o=>o
theorem MtF.or {K:PySem.W.Frag} {Z:Xp} {r r':V->List V->Hp->VK->Prop} {g g':Rv->List Rv->FS->Out Rv} (h:MtF K Z r g) (h':MtF K Z r' g'):MtF K Z (orMt r r') (orM g g'):=by
 intro F B H σ fs x rs u vs Q ok rx q s
 unfold orM at s
 cases e:g x rs fs with
 | ok a t=>rw [e] at s;exact .inl (h F B H σ fs x rs u vs Q ok rx q (by rw [e];exact s))
 | exc c t=>rw [e] at s;exact .inl (h F B H σ fs x rs u vs Q ok rx q (by rw [e];exact s))
 | bad=>rw [e] at s;exact .inr (h' F B H σ fs x rs u vs Q ok rx q s)
def gExtT:Rv->List Rv->FS->Out Rv
 | .rf i,[.t (.tup us)],fs=>match A9 fs i with
  | some (.lst ts)=>if ts.length+us.length<=big then .ok (.t .non) (putAt fs i (.lst (ts++us))) else .bad
  | _=>.bad
 | _,_,_=>.bad
theorem mf_extT {K:PySem.W.Frag} {Z:Xp}:MtF K Z (rExtT K) gExtT:=by
 intro F B H σ fs x rs u vs Q ok rx q s
 unfold gExtT at s
 split at s
 ·rename_i i ws
  obtain ⟨v,rfl,qq⟩:=Cs q
  have q:=qq
  split at s
  ·rename_i ts e
   split at s
   ·rename_i hl
    obtain ⟨a,us,rfl,hs,r,k⟩:=ok.list rx e
    simp only [Di,Bj] at q
    obtain ⟨b,zs,rfl,hb,rz⟩:=q
    obtain ⟨ok',l⟩:=k _ _ (r.app rz)
    exact ⟨a,b,us,zs,rfl,rfl,hs,hb.sq,by rw [r.len,rz.len];exact Nat.le_trans hl ET,s F _ _ l (RR.of ok' rfl)⟩
   ·exact s.elim
  ·exact s.elim
 ·exact s.elim
def gExtU:=orM gExt gExtT
theorem mf_extU {K:PySem.W.Frag} {Z:Xp}:MtF K Z (orMt rExtend (rExtT K)) gExtU:=MtF.or mf_ext mf_extT
theorem mt_extU {X:Cx}:MtR X "list.extend" (orMt rExtend (rExtT X.K)):=MtR.orR mt_extend mt_extT
end FL
namespace FL
open PySem PySem.Spec L2
def isDR (fs:FS):Rv->Bool
 | .t (.dK _ _)=>true
 | .t (.dF _ _)=>true
 | .t (.dT _ _)=>true
 | .rf i=>match A9 fs i with
  | some (.dK _ _)=>true
  | some (.dT _ _)=>true
  | _=>false
 | _=>false
def getF (fo fk fd:FS->Out Rv):FS->Out Rv:=fun fs=>(fo fs).bnd fun x fs=>if isDR fs x=true then (fk fs).bnd fun y fs=>(fd fs).bnd fun z fs=>match y,z with
 | .t y,.t z=>match dget fs x y with
  | some o=>okT (o.getD z) fs
  | none=>.bad
 | _,_=>.bad else .bad
section
variable {X:Cx} {Z:Xp} {o e f:Expr} {fo fk fd:FS->Out Rv} {apos cpos:Pos}
theorem isDR_ok {K:PySem.W.Frag} {B:Nat->Option V} {F:Wd} {H:Hp} {σ:St} {fs:FS} {x:Rv} {u:V} (h:Okk K F B H fs σ) (rx:Di K F H σ x u) (e:isDR fs x=true):∃ a,u=.ref a/\IsD H a:=by
 unfold isDR at e
 split at e
 ·simp only [Di,Bj] at rx
  obtain ⟨a,kvs,rfl,f,hd,_⟩:=rx
  exact ⟨a,rfl,.inl ⟨kvs,hd⟩⟩
 ·simp only [Di,Bj] at rx
  obtain ⟨a,kvs,rfl,f,⟨ob,hd⟩,_⟩:=rx
  exact ⟨a,rfl,.inl ⟨kvs,.inr ⟨ob,hd⟩⟩⟩
 ·simp only [Di,Bj] at rx
  obtain ⟨a,kvs,rfl,f,hd,_⟩:=rx
  exact ⟨a,rfl,.inr ⟨kvs,.inl hd⟩⟩
 ·rename_i i
  have e2:σ[i]?=some (some u):=rx
  split at e
  ·rename_i eo
   obtain ⟨v,L2,e1,q,_⟩:=h.own eo
   rw [e1] at e2
   have e3:v=u:=by simpa using e2
   subst e3
   simp only [Bf] at q
   obtain ⟨a,kvs,rfl,hd,_⟩:=q
   exact ⟨a,rfl,.inl ⟨kvs,.inl hd⟩⟩
  ·rename_i eo
   obtain ⟨v,L2,e1,q,_⟩:=h.own eo
   rw [e1] at e2
   have e3:v=u:=by simpa using e2
   subst e3
   simp only [Bf] at q
   obtain ⟨a,kvs,rfl,hd,_⟩:=q
   exact ⟨a,rfl,.inr ⟨kvs,.inl hd⟩⟩
  ·cases e
 ·cases e
theorem fe_get (hu:X.A.units+1 < cLine) (ho:FE X Z o fo) (he:FE X Z e fk) (hf:FE X Z f fd) (m:M2 X o "get" apos e f cpos):FE X Z (.Call (.Attribute o "get" apos) [e,f] [] cpos) (getF fo fk fd):=by
 refine Bz (pe_dget2 hu ho he hf m) fun σ H Q ⟨F,B,fs,ok,s⟩=>⟨F,B,fs,ok,Bb s fun x fs1 F1 H1 u l ok1 rx s1=>?_⟩
 by_cases hd:isDR fs1 x=true
 ·rw [if_pos hd] at s1
  obtain ⟨a,rfl,d⟩:=isDR_ok ok1 rx hd
  refine ⟨a,rfl,d,F1,B,fs1,ok1,Bb s1 fun y fs2 F2 H2 w l2 ok2 ry s2=>⟨F2,B,fs2,ok2,Bb s2 fun z fs3 F3 H3 w3 l3 ok3 rz s3=>?_⟩⟩
  split at s3
  ·split at s3
   ·rename_i y z t e
    obtain ⟨a',o',ea,hd',h⟩:=dget_ok ok3 ((rx.le l2).le l3) (Bj.le l3 ry) e
    cases ea
    refine ⟨o',hd',?_⟩
    rcases h with ⟨h1,h2⟩ | ⟨t',v,h1,h2,h3⟩
    ·subst h1;subst h2
     exact s3 F3 H3 w3 Le.refl (RR.of ok3 rz)
    ·subst h1;subst h2
     exact s3 F3 H3 v Le.refl (RR.of ok3 h3)
   ·exact s3.elim
  ·exact s3.elim
 ·rw [if_neg hd] at s1
  exact s1.elim
end
def slN (f:FS->Out Rv) (l h:FS->Out (Option Int)):FS->Out Rv:=fun fs=>(f fs).bnd fun x fs=>(l fs).bind fun lo fs=>(h fs).bind fun hi fs=>match Dt fs x with
 | some ts=>.ok (.nw (.lst (cutT ts lo hi))) fs
 | none=>.bad
theorem fe_slN {X:Cx} {Z:Xp} {e:Expr} {lo hi:Option Expr} {f:FS->Out Rv} {l h:FS->Out (Option Int)} {p2 pos:Pos} (he:FE X Z e f) (hl:FP X Z lo l) (hu:FP X Z hi h):FE X Z (.Subscript e (.Slice lo hi none p2) pos) (slN f l h):=by
 refine Bz (pe_slice sl_list he hl hu) fun σ H Q ⟨F,B,fs,ok,s⟩=>⟨F,B,fs,ok,Bb s fun x fs1 F1 H1 u l1 ok1 rx s1=>⟨F1,B,fs1,ok1,A2 s1 fun lo fs2 F2 H2 lo' l2 q2 s2=>?_⟩⟩
 obtain ⟨ok2,rfl⟩:=q2
 refine ⟨F2,B,fs2,ok2,A2 s2 fun hi fs3 F3 H3 hi' l3 q3 s3=>?_⟩
 obtain ⟨ok3,rfl⟩:=q3
 have rx3:=(rx.le l2).le l3
 split at s3
 ·rename_i ts e
  obtain ⟨a,vs,rfl,hs,r⟩:=CG ok3 rx3 e
  exact ⟨a,vs,rfl,hs,fun p hp=>s3 F3 _ (.ref p) (Bp ok3 hp) (RR.alloc ok3 hp (DA AV ((cutT_rel r).le (Bp ok3 hp))))⟩
 ·exact s3.elim
def isG (T:String) (f:FS->Out Rv):FS->Out Rv:=fun fs=>(f fs).bnd fun r fs=>match r with
 | .t t=>match tyT t with
  | some n=>.ok (.t (.bl (HW n T))) fs
  | none=>.bad
 | .rf i=>match A9 fs i with
  | some (.lst _)=>.ok (.t (.bl (HW "list" T))) fs
  | _=>.bad
 | _=>.bad
theorem fe_isinstG {X:Cx} {Z:Xp} {a:Expr} {f:FS->Out Rv} {p p2 pos:Pos} {x:Str} {T:String} (k:Kit X.K T) (hb:bootBuiltins x=some (.type T)) (hm:X.mg "isinstance"=none) (hm2:X.mg x=none) (ha:FE X Z a f) (hg:Gl X "isinstance":=by rfl) (hg2:Gl X x:=by rfl)
  (hn:x≠"__name__":=by decide) (hdb:(x == ("__debug__":Str))=false:=by decide)
  (hs:starEach [a,.Name x p2] X.env=(false,eval a X.env) :: starEach [.Name x p2] X.env:=by rfl) (hs2:starEach [.Name x p2] X.env=[(false,eval (.Name x p2) X.env)]:=by rfl) (hpl:(backTo pos (starEach [.Name x p2] X.env)).any (·.1)=false:=by rfl) :
  FE X Z (.Call (.Name "isinstance" p) [a,.Name x p2] [] pos) (isG T f):=by
 refine Bz (pe_callB (HN T) hg hm PyProof.Rows.boot_isinstance (EI ha (EI (pe_bltn (v:=.ty T) hg2 hm2 hb rfl hn hdb) pa_nil hs2) hs) (by decide) (by decide) hs hpl) fun σ H Q ⟨F,B,fs,ok,s⟩=>?_
 refine ⟨F,B,fs,ok,Bb s fun r fs1 F1 H1 u l1 ok1 rx s1=>?_⟩
 split at s1
 ·rename_i t
  split at s1
  ·rename_i n e
   obtain ⟨ty,mem⟩:=tyT_ok rx e
   exact ⟨u,_,_,rfl,ty,k n mem,s1 F1 H1 _ Le.refl (RR.of ok1 rfl)⟩
  ·exact s1.elim
 ·rename_i i
  have e2:σ[i]?=some (some u):=rx
  split at s1
  ·rename_i eo
   obtain ⟨v,L2,e1,q,_⟩:=ok1.own eo
   rw [e1] at e2
   have e3:v=u:=by simpa using e2
   subst e3
   simp only [Bf] at q
   obtain ⟨a',vs,rfl,hd,_⟩:=q
   exact ⟨.ref a',_,_,rfl,.lst hd,k "list" (by decide),s1 F1 H1 _ Le.refl (RR.of ok1 rfl)⟩
  ·exact s1.elim
 ·exact s1.elim
end FL
namespace Sy
open PySem PySem.Spec L2 FL
def top (i:Nat):Stmt:=PySem.Challenge.pw_stairsay_k05_whole_things_in_order.main.body.getD i (.Pass ⟨0,0,0,0⟩)
structure Tx (K:PySem.W.Frag) (mg:Str->Option Value) (cStock:Addr):Prop where
 b_all:mg "all"=none
 b_int:mg "int"=none
 b_isinstance:mg "isinstance"=none
 b_len:mg "len"=none
 b_list:mg "list"=none
 b_min:mg "min"=none
 b_range:mg "range"=none
 b_reversed:mg "reversed"=none
 b_str:mg "str"=none
 b_sum:mg "sum"=none
 b_tuple:mg "tuple"=none
 b_zip:mg "zip"=none
 g_LETTERS:∃ t,mg "LETTERS"=some (.str ("abcdefghijklmnopqrstuvwxyz":Str) t)
 g_MOST_KINDS:∃ t,mg "MOST_KINDS"=some (.int 4 t)
 g_MOST_LETTERS:∃ t,mg "MOST_LETTERS"=some (.int 12 t)
 g_MOST_MAKERS:∃ t,mg "MOST_MAKERS"=some (.int 4 t)
 g_MOST_PARTS:∃ t,mg "MOST_PARTS"=some (.int 2 t)
 g_MOST_SIZE:∃ t,mg "MOST_SIZE"=some (.int 7 t)
 cl_Stock:Cls K cStock
 na_Stock_home_by_maker:Et K cStock "home_by_maker"
 na_Stock_makers_by_kind:Et K cStock "makers_by_kind"
 na_Stock_parts_by_maker:Et K cStock "parts_by_maker"
def EW:FS->SO :=
  (AL (AY 3 (Al gSum (Ac (Cp false [none,some 0] (itR3 (Ac (Aa 1) (Ac (Al Gv (Ac (Al Bm (Ac (Aa 0) Am)) (Ac (gc (.int 63)) Am))) (Ac (Aa 2) Am)))) (tgN 0) EZ (Ag AH (Aa 1) (fz (Aa 0)))) Am)))
  (AL (AY 4 (AE Ek Am))
  (AL (AY 5 (Ag Cu (Aa 3) (gc (.int 2147483629))))
  (AL (AY 6 (Ag EO (Aa 3) (gc (.int 2))))
  (AL (Df (itR1 (Ac (gc (.int 150)) Am)) (tgN 7) (AL (AY 5 (Ag Cu (Ag AF (Ag AF (Ag Bt (Aa 5) (Aa 5)) (Aa 3)) (Aa 7)) (gc (.int 2147483629))))
  (AL (Bi (A0 Ex (Aa 4) (Ac (Ag Cu (Ag AH (AE CY (Ac (fz (Aa 6)) (Ac (Ag Cu (Ag Bt (Aa 5) (Aa 5)) (gc (.int 2147483587))) Am))) (Ag Cu (Aa 3) (gc (.int 2)))) (gc (.int 1000003))) Am)))
  (AY 6 (Ag EO (Aa 6) (gc (.int 1000003)))))))
  (retS (revF (Aa 4))))))))
def Dn:FS->Out Rv:=CV 5 (EW)
def Ge:FS->SO :=
  (AL (AY 2 (gc (.str ("abcdefghijklmnopqrstuvwxyz":Str))))
  (AL (AY 3 (Ag Bt (Ag AF (Ag AF (Ag Bt (Aa 0) (Aa 0)) (Aa 0)) (gc (.int 1))) (gc (.int 982451653))))
  (AL (AY 4 (Ag AF (gc (.int 1)) (Ag Cu (Aa 3) (gc (.int 12)))))
  (AL (AY 5 (Ag Cu (Ag EO (Aa 3) (gc (.int 12))) (Aa 4)))
  (AL (AY 6 (Cp false [none,some 2,some 3] (itR1 (Ac (Aa 4) Am)) (tgN 0) EZ (Ag AH (Aa 1) (Ag Cu (Ag AF (Ag EO (Aa 2) (Ag AF (Aa 0) (gc (.int 5)))) (Ag Bt (Aa 0) (Aa 0))) (gc (.int 26))))))
  (AL (AY 7 (Ag AH (AE CY (Ac (gc (.int 1)) (Ac (gc (.int 3)) (Ac (gc (.int 5)) (Ac (gc (.int 7)) (Ac (gc (.int 9)) (Ac (gc (.int 11)) Am))))))) (Ag Cu (Ag EO (Aa 3) (gc (.int 144))) (gc (.int 6)))))
  (AL (AY 8 (AE Ek Am))
  (AL (Df (itR1 (Ac (Aa 1) Am)) (tgN 9) (AL (AY 10 (Ag AH (Aa 2) (Ag Cu (Ag AF (Ag EO (Aa 3) (gc (.int 864))) (Ag Bt (Aa 9) (Aa 7))) (gc (.int 26)))))
  (ifS (asB (Ag (gEq false) (Ag Cu (Ag EO (Aa 3) (gc (.int 900))) (gc (.int 3))) (gc (.int 1)))) (Bi (A0 Ex (Aa 8) (Ac (Ag Bt (Ag AH (Aa 6) (gc (.int 0))) (Ag AF (Ag Cu (Ag AF (Aa 9) (Ag EO (Aa 3) (gc (.int 7)))) (gc (.int 12))) (gc (.int 1)))) Am))) (Bi (A0 Ex (Aa 8) (Ac (Ag AF (Ag AF (fz (GK HC (gc (.str ("":Str))) (Ac (slF (Aa 6) noP (EA (Aa 5))) Am))) (Aa 10)) (fz (GK HC (gc (.str ("":Str))) (Ac (slF (Aa 6) (EA (Ag AF (Aa 5) (gc (.int 1)))) noP) Am)))) Am))))))
  (retS (Aa 8))))))))))
def CM:FS->Out Rv:=CV 9 (Ge)
def Eg:FS->SO :=
  (AL (ifS (asB (Ag gLt (Aa 1) (Al Bm (Ac (Aa 0) Am)))) (retS (Ag AH (Aa 0) (fz (Aa 1)))) nxS)
  (retS (gc (.int 0))))
def BL:FS->Out Rv:=CV 0 (Eg)
def DV:FS->SO :=
  (AL (AY 4 (Ag AH (AE CY (Ac (gc (.int 0)) (Ac (gc (.int 1)) (Ac (gc (.int 1)) (Ac (gc (.int 2)) Am))))) (Ag Cu (fz (A0 gPop (Aa 3) Am)) (gc (.int 4)))))
  (AL (AY 5 (AE CY (Ac (fz (A0 gPop (Aa 3) Am)) (Ac (fz (A0 gPop (Aa 3) Am)) Am))))
  (AL (AY 6 (Al Bm (Ac (Aa 0) Am)))
  (AL (ifS (Ew (Aa 2)) (AY 6 (fz (Aa 1))) nxS)
  (AL (ifS (asB (Ag (gEq false) (Aa 6) (gc (.int 0)))) (retS (AE Ba Am)) nxS)
  (retS (Al FJ (Ac (Cp false [none,some 0,some 6,some 5] (itR1 (Ac (Aa 4) Am)) (tgN 0) EZ (Ag AH (Aa 1) (Ag Cu (Ag AH (Aa 3) (fz (Aa 0))) (Aa 2)))) Am))))))))
def Cg:FS->Out Rv:=CV 3 (DV)
def Gg:FS->SO :=
  (AL (AY 1 (Al (Az 3 Dn) (Ad (fz (Aa 0)) (Ad (gc (.int 0)) (Ad (gc (.int 3)) Am)))))
  (AL (AY 2 (Ag AH (AE CY (Ac (gc (.int 1)) (Ac (gc (.int 2)) (Ac (gc (.int 3)) (Ac (gc (.int 2)) (Ac (gc (.int 1)) (Ac (gc (.int 4)) (Ac (gc (.int 2)) (Ac (gc (.int 3)) Am))))))))) (Ag Cu (fz (A0 gPop (Aa 1) Am)) (gc (.int 8)))))
  (AL (AY 3 (fz (Al (Az 2 CM) (Ad (fz (Al (Az 2 BL) (Ad (fz (Aa 0)) (Ad (gc (.int 0)) Am)))) (Ad (fz (Aa 2)) Am)))))
  (AL (AY 4 (fz (Al (Az 2 CM) (Ad (fz (Al (Az 2 BL) (Ad (fz (Aa 0)) (Ad (gc (.int 1)) Am)))) (Ad (gc (.int 12)) Am)))))
  (AL (AY 5 (AE Ek Am))
  (AL (AY 6 (gc (.int 0)))
  (AL (Df (itR1 (Ac (Aa 2) Am)) (tgN 7) (AL (AY 8 (AE Ek Am))
  (AL (Df (itR1 (Ac (Ag AF (gc (.int 1)) (Ag Cu (fz (A0 gPop (Aa 1) Am)) (Ag AH (AE CY (Ac (gc (.int 4)) (Ac (gc (.int 3)) Am))) (Al gInt1 (Ac (Ag (gEq false) (Aa 2) (gc (.int 4))) Am))))) Am)) (tgN 9) (AL (Bi (A0 Ex (Aa 8) (Ac (AE Ba (Ac (Ag AH (Aa 4) (fz (Aa 6))) (Ac (fz (Al (Az 4 Cg) (Ad (fz (Aa 3)) (Ad (fz (Aa 7)) (Ad (Ag (gEq false) (Aa 9) (gc (.int 0))) (Ad (Aa 1) Am)))))) Am))) Am)))
  (AY 6 (Ag AF (Aa 6) (gc (.int 1))))))
  (Bi (A0 Ex (Aa 5) (Ac (AE Ba (Ac (Ag AH (Aa 3) (fz (Aa 7))) (Ac (fz (Aa 8)) Am))) Am))))))
  (retS (Aa 5)))))))))
def Eo:FS->Out Rv:=CV 9 (Gg)
def Ga:FS->SO :=
  (AL (AY 1 gNewK)
  (AL (Df (itU (fz (Aa 0))) (Bo 2 (As (tgN 2) (As (tgN 3) Bn))) (CH (fz (Aa 3)) (Aa 1) (fz (Aa 2))))
  (retS (Aa 1))))
def En:FS->Out Rv:=CV 3 (Ga)
def DM:FS->SO :=
  (AL (ifS (asB (Ag (gEq false) (Al Bm (Ac (Aa 1) Am)) (gc (.int 0)))) (retS (Al gInt1 (Ac (Ag (gEq false) (Aa 2) (gc (.int 1))) Am))) nxS)
  (AL (ifS (asB (Ag (gEq false) (Al Bm (Ac (Aa 1) Am)) (gc (.int 1)))) (retS (getF (Aa 0) (AE Ba (Ac (Ag AH (Aa 1) (gc (.int 0))) (Ac (Ag Cv (Aa 2) (gc (.int 1))) Am))) (gc (.int 0)))) nxS)
  (AL (AY 3 (gc (.int 0)))
  (AL (Df (itR2 (Ac (gc (.int 1)) (Ac (Ag Cv (Aa 2) (gc (.int 1))) Am))) (tgN 4) (AY 3 (Ag AF (Aa 3) (Ag Bt (fz (getF (Aa 0) (AE Ba (Ac (Ag AH (Aa 1) (gc (.int 0))) (Ac (fz (Aa 4)) Am))) (gc (.int 0)))) (fz (getF (Aa 0) (AE Ba (Ac (Ag AH (Aa 1) (gc (.int 1))) (Ac (Ag Cv (Ag Cv (Aa 2) (gc (.int 1))) (Aa 4)) Am))) (gc (.int 0))))))))
  (retS (Aa 3))))))
def Be:FS->Out Rv:=CV 2 (DM)
def EX:FS->SO :=
  (AL (AY 1 gNewT)
  (AL (Df (itR2 (Ac (gc (.int 1)) (Ac (gc (.int 8)) Am))) (tgN 2) (Df (itU (fz (Aa 0))) (Bo 2 (As (tgN 3) (As (tgN 4) Bn))) (CH (Al gSum (Ac (Cp false [none,none,some 1,some 2] (itU (fz (Aa 4))) (Bo 2 (As (tgN 0) (As (tgN 1) Bn))) EZ (fz (Al (Az 3 Be) (Ad (Aa 2) (Ad (fz (Aa 1)) (Ad (fz (Aa 3)) Am)))))) Am)) (Aa 1) (AE Ba (Ac (fz (Aa 3)) (Ac (fz (Aa 2)) Am))))))
  (retS (Aa 1))))
def Ee:FS->Out Rv:=CV 4 (EX)
def EU:FS->SO :=
  (AL (ifS (DZ (asB (chain gLe gLe (gc (.int 1)) (Al Bm (Ac (Aa 0) Am)) (gc (.int 12))))) (retS (gc (.bl false))) nxS)
  (retS (Al gAll (Ac (Cp false [none] (itU (fz (Aa 0))) (tgN 0) EZ (Ag (HD false) (fz (Aa 0)) (gc (.str ("abcdefghijklmnopqrstuvwxyz":Str))))) Am))))
def Bv:FS->Out Rv:=CV 0 (EU)
def CQ:FS->SO :=
  (AL (ifS (DZ (asB (chain gLe gLe (gc (.int 1)) (Al Bm (Ac (Aa 0) Am)) (gc (.int 4))))) (fun _=>.bad) nxS)
  (AL (AY 1 gNewK)
  (Df (itU (fz (Aa 0))) (Bo 2 (As (tgN 2) (As (tgN 3) Bn))) (AL (ifS (DZ (Ew (fz (Al (Az 1 Bv) (Ad (fz (Aa 2)) Am))))) (fun _=>.bad) nxS)
  (AL (ifS (asB (Ag (HD false) (fz (Aa 2)) (Aa 1))) (fun _=>.bad) nxS)
  (AL (ifS (DZ (asB (chain gLe gLe (gc (.int 1)) (Al Bm (Ac (Aa 3) Am)) (gc (.int 4))))) (fun _=>.bad) nxS)
  (CH (gc (.bl true)) (Aa 1) (fz (Aa 2)))))))))
def Co:FS->Out Rv:=CV 3 (CQ)
def CP:FS->SO :=
  (AL (ifS (DZ (Ew (fz (Al (Az 1 Bv) (Ad (fz (Aa 0)) Am))))) (fun _=>.bad) nxS)
  (AL (ifS (asB (Ag (HD false) (fz (Aa 0)) (Aa 2))) (fun _=>.bad) nxS)
  (AL (ifS (asB (Ag gGt (Al Bm (Ac (Aa 1) Am)) (gc (.int 2)))) (fun _=>.bad) nxS)
  (Df (itU (fz (Aa 1))) (tgN 4) (ifS (asB (Ag (HD true) (fz (Aa 4)) (Aa 3))) (fun _=>.bad) nxS)))))
def Bq:FS->Out Rv:=CV 1 (CP)
def Cz:FS->SO :=
  (Df (itU (fz (Aa 1))) (tgN 3) (ifS (asB (Ag (HD true) (fz (Aa 3)) (Aa 2))) (fun _=>.bad) nxS))
def Bk:FS->Out Rv:=CV 1 (Cz)
def Cy:FS->SO :=
  (AL (AY 1 (Cp false [none,none] (itU (fz (Aa 0))) (Bo 2 (As (tgN 0) (As (tgN 1) Bn))) EZ (fz (Aa 0))))
  (AL (AY 2 (AE Ek Am))
  (AL (AY 3 gNewK)
  (Df (itU (fz (Aa 0))) (Bo 2 (As (tgN 4) (As (tgN 5) Bn))) (AL (AY 6 (Ag AH (Ag AH (Aa 5) (gc (.int 0))) (gc (.int 0))))
  (AL (Df (itU (fz (Aa 5))) (Bo 2 (As (tgN 7) (As (tgN 8) Bn))) (AL (Bi (Al (Az 4 Bq) (Ad (fz (Aa 7)) (Ad (fz (Aa 8)) (Ad (Aa 3) (Ad (fz (Aa 1)) Am))))))
  (AL (ifS (asB (Ag (gEq false) (Aa 7) (Aa 6))) (Bi (Al (Az 3 Bk) (Ad (fz (Aa 7)) (Ad (fz (Aa 8)) (Ad (Aa 2) Am))))) nxS)
  (CH (gc (.bl true)) (Aa 3) (fz (Aa 7))))))
  (Bi (A0 Ex (Aa 2) (Ac (fz (Aa 4)) Am)))))))))
def Cd:FS->Out Rv:=CV 8 (Cy)
def Dq (cStock:Addr):FS->SO :=
  (AL (Bi (Al (Az 1 Co) (Ad (fz (Aa 1)) Am)))
  (AL (Bi (Al (Az 1 Cd) (Ad (fz (Aa 1)) Am)))
  (AL (fldS cStock "makers_by_kind" 0 gNewK)
  (AL (fldS cStock "parts_by_maker" 0 gNewK)
  (AL (fldS cStock "home_by_maker" 0 gNewK)
  (Df (itU (fz (Aa 1))) (Bo 2 (As (tgN 2) (As (tgN 3) Bn))) (AL (Ef cStock "makers_by_kind" 0 2 (Cp false [none,none] (itU (fz (Aa 3))) (Bo 2 (As (tgN 0) (As (tgN 1) Bn))) EZ (fz (Aa 0))))
  (Df (itU (fz (Aa 3))) (Bo 2 (As (tgN 4) (As (tgN 5) Bn))) (AL (Ef cStock "parts_by_maker" 0 4 (Al FJ (Ac (Aa 5) Am)))
  (Ef cStock "home_by_maker" 0 4 (fz (Aa 2))))))))))))
def Ci (cStock:Addr):FS->Out Rv:=CV 4 (Dq cStock)
def CT (cStock:Addr):FS->SO :=
  (retS (Al gListU (Ac (fldF cStock "makers_by_kind" (Aa 0)) Am)))
def Bd (cStock:Addr):FS->Out Rv:=CV 0 (CT cStock)
def CA (cStock:Addr):FS->SO :=
  (AL (ifS (asB (Ag (HD true) (fz (Aa 1)) (fldF cStock "makers_by_kind" (Aa 0)))) (fun _=>.bad) nxS)
  (retS (Al gListU (Ac (Ag AH (fldF cStock "makers_by_kind" (Aa 0)) (fz (Aa 1))) Am))))
def BG (cStock:Addr):FS->Out Rv:=CV 0 (CA cStock)
def Bl (rec:FS->Out Rv):FS->SO :=
  (AL (ifS (DZ (Ew (Aa 0))) (retS (ifV (asB (Ag (gEq false) (Aa 1) (gc (.int 0)))) (AE CY (Ac (AE Ba Am) Am)) (AE CY Am))) nxS)
  (AL (AY 3 (AE Ek Am))
  (AL (Df (itR2 (Ac (gc (.int 1)) (Ac (Ag AF (Aa 1) (gc (.int 1))) Am))) (tgN 4) (AL (AY 5 (fz (Al (Az 3 rec) (Ad (slF (Aa 0) (EA (gc (.int 1))) noP) (Ad (Ag Cv (Aa 1) (Aa 4)) (Ad (Aa 2) Am))))))
  (Df (itU (Ag AH (Aa 2) (AE Ba (Ac (Ag AH (Aa 0) (gc (.int 0))) (Ac (fz (Aa 4)) Am))))) (tgN 6) (Bi (A0 gExtU (Aa 3) (Ac (Cp false [none,some 6] (itU (fz (Aa 5))) (tgN 0) EZ (Ag AF (AE Ba (Ac (fz (Aa 1)) Am)) (Aa 0))) Am))))))
  (retS (Aa 3)))))
def AO:Nat->FS->Out Rv
 | 0=>fun _=>.bad
 | n+1=>CV 4 (Bl (AO n))
def CS (cStock:Addr):FS->SO :=
  (AL (ifS (asB (Ag (HD true) (fz (Aa 1)) (fldF cStock "parts_by_maker" (Aa 0)))) (fun _=>.bad) nxS)
  (retS (Ag AH (fldF cStock "parts_by_maker" (Aa 0)) (fz (Aa 1)))))
def BC (cStock:Addr):FS->Out Rv:=CV 0 (CS cStock)
def BX (cStock:Addr):FS->SO :=
  (AL (AY 4 (AE Ek Am))
  (AL (Df (itU (fz (Fw cStock "makers" 2 (BG cStock) (fz (Aa 0)) (Ad (fz (Aa 1)) Am)))) (tgN 5) (Df (itU (fz (Al (Az 3 (AO 60)) (Ad (fz (Fw cStock "parts" 2 (BC cStock) (fz (Aa 0)) (Ad (fz (Aa 5)) Am))) (Ad (Ag Cv (Aa 2) (gc (.int 1))) (Ad (Aa 3) Am)))))) (tgN 6) (Bi (A0 Ex (Aa 4) (Ac (AE Ba (Ac (fz (Aa 5)) (Ac (fz (Aa 6)) Am))) Am)))))
  (retS (Aa 4))))
def Bg (cStock:Addr):FS->Out Rv:=CV 3 (BX cStock)
def FZ (cStock:Addr):FS->SO :=
  (AL (ifS (asB (Ag (HD true) (fz (Aa 1)) (fz (Fw cStock "kinds" 1 (Bd cStock) (fz (Aa 0)) Am)))) (fun _=>.bad) nxS)
  (AL (AY 3 (AE Ek Am))
  (AL (AY 4 gNewT)
  (AL (Df (itR2 (Ac (gc (.int 1)) (Ac (Ag AF (gc (.int 7)) (gc (.int 1))) Am))) (tgN 5) (AL (Df (itU (fz (Fw cStock "kinds" 1 (Bd cStock) (fz (Aa 0)) Am))) (tgN 6) (CH (fz (Al (Az 4 (Bg cStock)) (Ad (fz (Aa 0)) (Ad (fz (Aa 6)) (Ad (fz (Aa 5)) (Ad (Aa 4) Am)))))) (Aa 4) (AE Ba (Ac (fz (Aa 6)) (Ac (fz (Aa 5)) Am)))))
  (AL (Bi (A0 gExtU (Aa 3) (Ac (Ag AH (Aa 4) (AE Ba (Ac (fz (Aa 1)) (Ac (fz (Aa 5)) Am)))) Am)))
  (ifS (asB (Ag gGe (Al Bm (Ac (Aa 3) Am)) (Aa 2))) (fun fs=>.brk fs) nxS))))
  (retS (slN (Aa 3) noP (EA (Aa 2))))))))
def Dg (cStock:Addr):FS->Out Rv:=CV 4 (FZ cStock)
def Gf:FS->SO :=
  (AL (AY 3 (Al gSum (Ac (Cp false [none,some 0] (itR3 (Ac (Aa 1) (Ac (Al Gv (Ac (Al Bm (Ac (Aa 0) Am)) (Ac (gc (.int 63)) Am))) (Ac (Aa 2) Am)))) (tgN 0) EZ (Ag AH (Aa 1) (fz (Aa 0)))) Am)))
  (AL (ifS (asB (Ag (gEq false) (Ag Cu (Aa 3) (gc (.int 2))) (gc (.int 0)))) (retS (Ag Cu (Ag EO (Aa 3) (gc (.int 2))) (Ag gPow (gc (.int 10)) (gc (.int 60))))) nxS)
  (AL (AY 4 (Ag Bt (Ag AF (Ag AF (Ag AF (Ag Bt (Aa 3) (Aa 3)) (Aa 3)) (Aa 1)) (gc (.int 1))) (gc (.int 982451653))))
  (retS (Ag Bt (Ag Cu (Ag Bt (Aa 4) (Aa 4)) (Ag AF (Ag gPow (gc (.int 10)) (gc (.int 18))) (gc (.int 9)))) (Ag AF (Ag Cu (Aa 4) (gc (.int 2147483629))) (gc (.int 7))))))))
def DB:FS->Out Rv:=CV 2 (Gf)
def Gb (rec:FS->Out Rv):FS->SO :=
  (AL (ifS (orT (DZ (Ew (isF "tuple" (Aa 0)))) (asB (Ag (gEq true) (Al Bm (Ac (Aa 0) Am)) (gc (.int 2))))) (retS (gc (.bl false))) nxS)
  (AL (ifS (orT (DZ (Ew (isF "str" (Ag AH (Aa 0) (gc (.int 0)))))) (DZ (Ew (isF "tuple" (Ag AH (Aa 0) (gc (.int 1))))))) (retS (gc (.bl false))) nxS)
  (AL (Df (itU (Ag AH (Aa 0) (gc (.int 1)))) (tgN 1) (ifS (DZ (Ew (fz (Al (Az 1 rec) (Ad (fz (Aa 1)) Am))))) (retS (gc (.bl false))) nxS))
  (retS (gc (.bl true))))))
def CF:Nat->FS->Out Rv
 | 0=>fun _=>.bad
 | n+1=>CV 1 (Gb (CF n))
def Dc (rec:FS->Out Rv):FS->SO :=
  (AL (ifS (asB (Ag (HD true) (fz (Aa 1)) (Aa 0))) (retS (gc (.bl false))) nxS)
  (AL (Df (itU (Ag AH (Aa 0) (fz (Aa 1)))) (Bo 2 (As (tgN 3) (As (tgN 4) Bn))) (ifS (asB (Ag (gEq false) (Aa 3) (Ag AH (Aa 2) (gc (.int 0))))) (AL (ifS (asB (Ag (gEq true) (Al Bm (Ac (Aa 4) Am)) (Al Bm (Ac (Ag AH (Aa 2) (gc (.int 1))) Am)))) (retS (gc (.bl false))) nxS)
  (AL (Df (itZ (Aa 4) (Ag AH (Aa 2) (gc (.int 1)))) (Bo 2 (As (tgN 5) (As (tgN 6) Bn))) (ifS (DZ (Ew (fz (Al (Az 3 rec) (Ad (fz (Aa 0)) (Ad (fz (Aa 5)) (Ad (fz (Aa 6)) Am))))))) (retS (gc (.bl false))) nxS))
  (retS (gc (.bl true))))) nxS))
  (retS (gc (.bl false)))))
def AN:Nat->FS->Out Rv
 | 0=>fun _=>.bad
 | n+1=>CV 4 (Dc (AN n))
def HR (rec:FS->Out Rv):FS->SO :=
  (retS (Ag AF (gc (.int 1)) (Al gSum (Ac (Cp false [none] (itU (Ag AH (Aa 0) (gc (.int 1)))) (tgN 0) EZ (fz (Al (Az 1 rec) (Ad (fz (Aa 0)) Am)))) Am))))
def BH:Nat->FS->Out Rv
 | 0=>fun _=>.bad
 | n+1=>CV 0 (HR (BH n))
def EV (rec:FS->Out Rv):FS->SO :=
  (AL (AY 4 (fz (Al (Az 1 (BH 60)) (Ad (fz (Aa 3)) Am))))
  (AL (AY 5 (gc (.int 0)))
  (AL (Df (itU (Ag AH (Aa 0) (fz (Aa 2)))) (Bo 2 (As (tgN 6) (As (tgN 7) Bn))) (ifS (asB (Ag (gEq true) (Aa 6) (Ag AH (Aa 3) (gc (.int 0))))) (AY 5 (Ag AF (Aa 5) (fz (Al (Az 3 Be) (Ad (fz (Aa 1)) (Ad (fz (Aa 7)) (Ad (fz (Aa 4)) Am))))))) (fun fs=>.brk fs)))
  (AL (ifS (asB (Ag (gEq false) (Al Bm (Ac (Ag AH (Aa 3) (gc (.int 1))) Am)) (gc (.int 1)))) (AY 5 (Ag AF (Aa 5) (fz (Al (Az 4 rec) (Ad (fz (Aa 0)) (Ad (fz (Aa 1)) (Ad (Ag AH (Aa 7) (gc (.int 0))) (Ad (Ag AH (Ag AH (Aa 3) (gc (.int 1))) (gc (.int 0))) Am)))))))) nxS)
  (AL (ifS (asB (Ag (gEq false) (Al Bm (Ac (Ag AH (Aa 3) (gc (.int 1))) Am)) (gc (.int 2)))) (AL (AY 8 (fz (Al (Az 1 (BH 60)) (Ad (Ag AH (Ag AH (Aa 3) (gc (.int 1))) (gc (.int 0))) Am))))
  (AL (Df (itR2 (Ac (gc (.int 1)) (Ac (Aa 8) Am))) (tgN 9) (AL (AY 10 (fz (getF (Aa 1) (AE Ba (Ac (Ag AH (Aa 7) (gc (.int 1))) (Ac (Ag Cv (Ag Cv (Aa 4) (gc (.int 1))) (Aa 9)) Am))) (gc (.int 0)))))
  (AY 5 (Ag AF (Aa 5) (Ag Bt (fz (getF (Aa 1) (AE Ba (Ac (Ag AH (Aa 7) (gc (.int 0))) (Ac (fz (Aa 9)) Am))) (gc (.int 0)))) (Aa 10))))))
  (AL (AY 10 (fz (getF (Aa 1) (AE Ba (Ac (Ag AH (Aa 7) (gc (.int 1))) (Ac (Ag Cv (Ag Cv (Aa 4) (gc (.int 1))) (Aa 8)) Am))) (gc (.int 0)))))
  (AL (AY 5 (Ag AF (Aa 5) (Ag Bt (fz (Al (Az 4 rec) (Ad (fz (Aa 0)) (Ad (fz (Aa 1)) (Ad (Ag AH (Aa 7) (gc (.int 0))) (Ad (Ag AH (Ag AH (Aa 3) (gc (.int 1))) (gc (.int 0))) Am)))))) (Aa 10))))
  (AY 5 (Ag AF (Aa 5) (fz (Al (Az 4 rec) (Ad (fz (Aa 0)) (Ad (fz (Aa 1)) (Ad (Ag AH (Aa 7) (gc (.int 1))) (Ad (Ag AH (Ag AH (Aa 3) (gc (.int 1))) (gc (.int 1))) Am)))))))))))) nxS)
  (retS (Aa 5)))))))
def BK:Nat->FS->Out Rv
 | 0=>fun _=>.bad
 | n+1=>CV 7 (EV (BK n))
def Gh:FS->SO :=
  (AL (AY 4 (fz (Al (Az 4 (BK 60)) (Ad (fz (Aa 0)) (Ad (fz (Aa 1)) (Ad (fz (Aa 2)) (Ad (fz (Aa 3)) Am)))))))
  (AL (Df (itR2 (Ac (gc (.int 1)) (Ac (fz (Al (Az 1 (BH 60)) (Ad (fz (Aa 3)) Am))) Am))) (tgN 5) (AY 4 (Ag AF (Aa 4) (Ag AH (Aa 1) (AE Ba (Ac (fz (Aa 2)) (Ac (fz (Aa 5)) Am)))))))
  (retS (Aa 4))))
def DU:FS->Out Rv:=CV 2 (Gh)
def Gd:FS->SO :=
  (AL (ifS (DZ (Ew (isG "list" (Aa 4)))) (retS (gc (.bl false))) nxS)
  (AL (ifS (asB (Ag (gEq true) (Al Bm (Ac (Aa 4) Am)) (Al Gv (Ac (Aa 3) (Ac (Al gSum (Ac (Cp false [none,some 1,some 2] (itR2 (Ac (gc (.int 1)) (Ac (gc (.int 8)) Am))) (tgN 0) EZ (Ag AH (Aa 1) (AE Ba (Ac (fz (Aa 2)) (Ac (fz (Aa 0)) Am))))) Am)) Am))))) (retS (gc (.bl false))) nxS)
  (AL (Df (itR1 (Ac (Al Bm (Ac (Aa 4) Am)) Am)) (tgN 5) (AL (ifS (orT (DZ (Ew (fz (Al (Az 1 (CF 60)) (Ad (Ag AH (Aa 4) (fz (Aa 5))) Am))))) (DZ (Ew (fz (Al (Az 3 (AN 60)) (Ad (fz (Aa 0)) (Ad (fz (Aa 2)) (Ad (Ag AH (Aa 4) (fz (Aa 5))) Am)))))))) (retS (gc (.bl false))) nxS)
  (ifS (orT (asB (Ag gGt (fz (Al (Az 1 (BH 60)) (Ad (Ag AH (Aa 4) (fz (Aa 5))) Am))) (gc (.int 7)))) (asB (Ag (gEq true) (fz (Al (Az 4 DU) (Ad (fz (Aa 0)) (Ad (fz (Aa 1)) (Ad (fz (Aa 2)) (Ad (Ag AH (Aa 4) (fz (Aa 5))) Am)))))) (Aa 5)))) (retS (gc (.bl false))) nxS)))
  (retS (gc (.bl true))))))
def Dh:FS->Out Rv:=CV 1 (Gd)
def b_law (cStock:Addr):FS->SO :=
  (AL (AY 1 (fz (Al (Az 1 Eo) (Ad (fz (Aa 0)) Am))))
  (AL (AY 2 (fz (Al (Az 1 En) (Ad (fz (Aa 1)) Am))))
  (AL (AY 3 (fz (Al (Az 1 Ee) (Ad (fz (Aa 1)) Am))))
  (AL (AY 4 (fz (Al (makeR cStock 2 (Ci cStock)) (Ad (fz (Aa 1)) Am))))
  (AL (Df (itR1 (Ac (Al Bm (Ac (Aa 1) Am)) Am)) (tgN 5) (AL (AY 6 (Ag EO (fz (Al (Az 3 DB) (Ad (fz (Aa 0)) (Ad (fz (Aa 5)) (Ad (gc (.int 4)) Am))))) (gc (.int 11))))
  (AL (AY 7 (Ag AF (gc (.int 1)) (Ag Cu (Ag EO (Aa 6) (gc (.int 2))) (Ag AH (AE CY (Ac (gc (.int 6)) (Ac (gc (.int 60)) Am))) (Ag Cu (Aa 6) (gc (.int 2)))))))
  (AL (AY 8 (Al (Az 3 (Dg cStock)) (Ad (fz (Aa 4)) (Ad (Ag AH (Ag AH (Aa 1) (fz (Aa 5))) (gc (.int 0))) (Ad (fz (Aa 7)) Am)))))
  (AL (ifS (DZ (Ew (fz (Al (Az 5 Dh) (Ad (fz (Aa 2)) (Ad (fz (Aa 3)) (Ad (Ag AH (Ag AH (Aa 1) (fz (Aa 5))) (gc (.int 0))) (Ad (fz (Aa 7)) (Ad (Aa 8) Am))))))))) (retS (gc (.bl false))) nxS)
  (AL (Bi (A0 GI (Aa 8) Am))
  (ifS (DZ (Ew (fz (Al (Az 5 Dh) (Ad (fz (Aa 2)) (Ad (fz (Aa 3)) (Ad (Ag AH (Ag AH (Aa 1) (fz (Aa 5))) (gc (.int 0))) (Ad (fz (Aa 7)) (Ad (fz (Al (Az 3 (Dg cStock)) (Ad (fz (Aa 4)) (Ad (Ag AH (Ag AH (Aa 1) (fz (Aa 5))) (gc (.int 0))) (Ad (fz (Aa 7)) Am))))) Am))))))))) (retS (gc (.bl false))) nxS)))))))
  (retS (gc (.bl true))))))))
def f_law (cStock:Addr):FS->Out Rv:=CV 8 (b_law cStock)
section
variable {P:Program} {w:World} {K:PySem.W.Frag} {mg:Str->Option Value} {base:Heap}
abbrev E9:Stmt:=top 43
theorem sc_Lahead:A7 ["_law_table_here","_law_counts_here","_law_kind","_law_thing","_law_got","_law_many"] ["_law_table_here","_law_counts_here","_law_kind","_law_thing"] (Ar E9):=⟨rfl,rfl,rfl,by decide +kernel,rfl,by decide +kernel,by decide +kernel⟩
theorem ok_Lahead {f:Addr} {fd:FuncData} {cStock:Addr} (Fu:Fun K "_law_ahead" "_law_ahead" E9 f fd) (T:Tx K mg cStock) (G_Lsize:FnAt P w K mg base CX0 "_law_size" 61 ["_law_thing"] (spF K 1 (BH 60))) (G_Lwithin:FnAt P w K mg base CX0 "_law_within" 122 ["_law_table_here","_law_counts_here","_law_kind","_law_thing"] (spF K 4 (BK 60))):Ds P w K mg base CX0 123 f fd ["_law_table_here","_law_counts_here","_law_kind","_law_thing"] (spF K 4 (DU)) :=
 CZ (k:=122) (g:=Gh) Fu sc_Lahead 4 2 rfl rfl (fun cdv A outer s H E hr=>by
  have nd:=sc_Lahead.nd
  have hu:=CW hr
  exact (Ae (AJ 4 nd (Or.inl rfl) (Ap (BQ G_Lwithin (hr.mono (by first | decide | omega)) (Ai (Ap (Aq 0)) (Ai (Ap (Aq 1)) (Ai (Ap (Aq 2)) (Ai (Ap (Aq 3)) AM)))))))
   (Ae (BB PassesOwn.never rfl (DL T.b_range (Ah Ak (Ah (Ap (BQ G_Lsize (hr.mono (by first | decide | omega)) (Ai (Ap (Aq 3)) AM))) Av)) (h:=fun ha=>DJ rfl T.b_range ha)) (AB 5 nd (Or.inl rfl)) (An (AJ 4 nd (Or.inl rfl) (Br (Aq 4) (A5 hu (Aq 1) (C0 (Ah (Ap (Aq 2)) (Ah (Ap (Aq 5)) Av))) (fun _ _=>rfl))))))
   (An (A6 (Aq 4))))))
end
section
variable {P:Program} {w:World} {K:PySem.W.Frag} {mg:Str->Option Value} {base:Heap}
abbrev DG:Stmt:=top 28
theorem Hf:A7 ["_law_script","_law_k"] ["_law_script","_law_k"] (Ar DG):=⟨rfl,rfl,rfl,by decide +kernel,rfl,by decide +kernel,by decide +kernel⟩
theorem ok_Lcell_at {f:Addr} {fd:FuncData} {cStock:Addr} (Fu:Fun K "_law_cell_at" "_law_cell_at" DG f fd) (T:Tx K mg cStock) :Ds P w K mg base CX0 1 f fd ["_law_script","_law_k"] (spF K 2 (BL)) :=
 CZ (k:=0) (g:=Eg) Fu Hf 2 0 rfl rfl (fun cdv A outer s H E hr=>by
  have nd:=Hf.nd
  have hu:=CW hr
  exact (Ae (BP (ft_lt (Aq 1) (CL T.b_len (Ah (Aq 0) Av))) (An (A6 (A5 hu (Aq 0) (Ap (Aq 1)) (fun _ _=>rfl)))) AU)
   (An (A6 Ak))))
end
section
variable {P:Program} {w:World} {K:PySem.W.Frag} {mg:Str->Option Value} {base:Heap}
abbrev D9:Stmt:=top 41
theorem sc_Lcounts:A7 ["_law_kinds_here","_law_counts_here","_law_many","_law_kind","_law_rows"] ["_law_kinds_here"] (Ar D9):=⟨rfl,rfl,rfl,by decide +kernel,rfl,by decide +kernel,by decide +kernel⟩
theorem ok_Lcounts {f:Addr} {fd:FuncData} {cStock:Addr} (Fu:Fun K "_law_counts" "_law_counts" D9 f fd) (T:Tx K mg cStock) (G_Lof_maker:FnAt P w K mg base CX0 "_law_of_maker" 1 ["_law_counts_here","_law_parts_here","_law_many"] (spF K 3 Be)):Ds P w K mg base CX0 2 f fd ["_law_kinds_here"] (spF K 1 (Ee)) :=
 CZ (k:=1) (g:=EX) Fu sc_Lcounts 1 4 rfl rfl (fun cdv A outer s H E hr=>by
  have nd:=sc_Lcounts.nd
  have hu:=CW hr
  exact (Ae (AJ 1 nd (Or.inr rfl) fe_dnewT)
   (Ae (BB PassesOwn.never rfl (DL T.b_range (Ah Ak (Ah Ak Av)) (h:=fun ha=>DJ rfl T.b_range ha)) (AB 2 nd (Or.inr rfl)) (An (BB PassesOwn.never rfl (Cq (Ap (Aq 0))) (Eb rfl (A4 (AB 3 nd (Or.inl rfl)) (A4 (AB 4 nd (Or.inl rfl)) C6 (fun h1 h2=>A3 h1 h2)) (fun h1 h2=>A3 h1 h2))) (An (FH hu (fe_sum T.b_sum (Ah (Em false ["_law_maker","_law_parts_here","_law_counts_here","_law_many"] [none,none,some 1,some 2] rfl (Cq (Ap (Aq 4))) (fun _ _ _ _ _=>(Eb rfl (A4 (AB 0 (by show List.Nodup (["_law_maker","_law_parts_here","_law_counts_here","_law_many"]:List Str);decide +kernel) (Or.inl rfl) (hf:=.inr rfl)) (A4 (AB 1 (by show List.Nodup (["_law_maker","_law_parts_here","_law_counts_here","_law_many"]:List Str);decide +kernel) (Or.inl rfl) (hf:=.inr rfl)) C6 (fun h1 h2=>A3 h1 h2)) (fun h1 h2=>A3 h1 h2)))) (fun _ _ _ _ _=>DK) (fun _ _ _ _ _=>(Ap (BQ G_Lof_maker (hr.mono (by first | decide | omega)) (Ai (Aq 2) (Ai (Ap (Aq 1)) (Ai (Ap (Aq 3)) AM))))))) Av)) (Aq 1) (C0 (Ah (Ap (Aq 3)) (Ah (Ap (Aq 2)) Av))) (fun he ho hi hs=>ps_asg he (pg_sub ho hi hs)))))))
   (An (A6 (Aq 1))))))
end
section
variable {P:Program} {w:World} {K:PySem.W.Frag} {mg:Str->Option Value} {base:Heap}
abbrev D8:Stmt:=top 31
theorem sc_Ldigits:A7 ["_law_script","_law_at","_law_parts_here","_law_drawn","_law_got","_law_first","_law_rest","_law_k"] ["_law_script","_law_at","_law_parts_here"] (Ar D8):=⟨rfl,rfl,rfl,by decide +kernel,rfl,by decide +kernel,by decide +kernel⟩
theorem ok_Ldigits {f:Addr} {fd:FuncData} {cStock:Addr} (Fu:Fun K "_law_digits" "_law_digits" D8 f fd) (T:Tx K mg cStock) :Ds P w K mg base CX0 1 f fd ["_law_script","_law_at","_law_parts_here"] (spF K 3 (Dn)) :=
 CZ (k:=0) (g:=EW) Fu sc_Ldigits 3 5 rfl rfl (fun cdv A outer s H E hr=>by
  have nd:=sc_Ldigits.nd
  have hu:=CW hr
  exact (Ae (AJ 3 nd (Or.inl rfl) (fe_sum T.b_sum (Ah (Em false ["_law_k","_law_script"] [none,some 0] rfl (fi_range3 (Ah (Aq 1) (Ah (fe_min2 T.b_min (Ah (CL T.b_len (Ah (Aq 0) Av)) (Ah Ak Av))) (Ah (Aq 2) Av))) (fun ha=>pi_range3 rfl T.b_range ha)) (fun _ _ _ _ _=>(AB 0 (by show List.Nodup (["_law_k","_law_script"]:List Str);decide +kernel) (Or.inl rfl) (hf:=.inr rfl))) (fun _ _ _ _ _=>DK) (fun _ _ _ _ _=>(A5 hu (Aq 1) (Ap (Aq 0)) (fun _ _=>rfl)))) Av)))
   (Ae (AJ 4 nd (Or.inl rfl) (ER Av))
   (Ae (AJ 5 nd (Or.inl rfl) (Cr (Aq 3) Ak))
   (Ae (AJ 6 nd (Or.inl rfl) (ES (Aq 3) Ak))
   (Ae (BB PassesOwn.never rfl (Dm T.b_range (Ah Ak Av)) (AB 7 nd (Or.inl rfl)) (Ae (AJ 5 nd (Or.inl rfl) (Cr (Br (Br (DS (Aq 5) (Aq 5)) (Aq 3)) (Aq 7)) Ak))
   (Ae (CK (fe_bm Hr PySem.F.slot_list_append PySem.F.type_list_append Dj (Aq 4) (Ah (Cr (A5 hu (FQ (Ah (Ap (Aq 6)) (Ah (Cr (DS (Aq 5) (Aq 5)) Ak) Av))) (Cr (Aq 3) Ak) (fun _ _=>rfl)) Ak) Av)))
   (An (AJ 6 nd (Or.inl rfl) (ES (Aq 6) Ak))))))
   (An (A6 (fe_listRev rfl T.b_list T.b_reversed (Aq 4))))))))))
end
section
variable {P:Program} {w:World} {K:PySem.W.Frag} {mg:Str->Option Value} {base:Heap}
abbrev C5:Stmt:=top 37
theorem GF:A7 ["_law_table_here","_law_kind","_law_thing","_law_maker","_law_parts_here","_law_part","_law_one"] ["_law_table_here","_law_kind","_law_thing"] (Ar C5):=⟨rfl,rfl,rfl,by decide +kernel,rfl,by decide +kernel,by decide +kernel⟩
theorem GH {f:Addr} {fd:FuncData} {cStock:Addr} (Fu:Fun K "_law_is_thing" "_law_is_thing" C5 f fd) (T:Tx K mg cStock)  (hat:∀ k sp,Ds P w K mg base CX0 k f fd ["_law_table_here","_law_kind","_law_thing"] sp->FnAt P w K mg base CX0 "_law_is_thing" k ["_law_table_here","_law_kind","_law_thing"] sp):∀ n,Ds P w K mg base CX0 (1+n) f fd ["_law_table_here","_law_kind","_law_thing"] (spF K 3 (AN n))
 | 0=>⟨fun vs H Q E h=>by rw [h.1];rfl,fun A outer s H args us vs Q E hr he hb hv h=>by obtain ⟨_,F,fs0,ok,h⟩:=h;exact h.elim⟩
 | n+1=>by
  have Grec:=hat _ _ (GH Fu T  hat n)
  have hb:=CZ (P:=P) (w:=w) (mg:=mg) (base:=base) (k:=1+n) (g:=Dc (AN n)) Fu GF 3 4 rfl rfl (fun cdv A outer s H E hr=>by
  have nd:=GF.nd
  have hu:=CW hr
  exact (Ae (BP (Fc hu (Ap (Aq 1)) (Aq 0)) (An (A6 Ed)) AU)
   (Ae (BB PassesOwn.never rfl (Cq (A5 hu (Aq 0) (Ap (Aq 1)) (fun _ _=>rfl))) (Eb rfl (A4 (AB 3 nd (Or.inl rfl)) (A4 (AB 4 nd (Or.inl rfl)) C6 (fun h1 h2=>A3 h1 h2)) (fun h1 h2=>A3 h1 h2))) (An (BP (ft_eq (Aq 3) (A5 hu (Aq 2) Ak (fun _ _=>rfl))) (Ae (BP (ft_ne (CL T.b_len (Ah (Aq 4) Av)) (CL T.b_len (Ah (A5 hu (Aq 2) Ak (fun _ _=>rfl)) Av))) (An (A6 Ed)) AU)
   (Ae (BB PassesOwn.never rfl (fi_zip T.b_zip (Aq 4) (A5 hu (Aq 2) Ak (fun _ _=>rfl))) (Eb rfl (A4 (AB 5 nd (Or.inl rfl)) (A4 (AB 6 nd (Or.inl rfl)) C6 (fun h1 h2=>A3 h1 h2)) (fun h1 h2=>A3 h1 h2))) (An (BP (Dw (Cf (Ap (BQ Grec (hr.mono (by first | decide | omega)) (Ai (Ap (Aq 0)) (Ai (Ap (Aq 5)) (Ai (Ap (Aq 6)) AM))))) (fun _=>rfl))) (An (A6 Ed)) AU)))
   (An (A6 Ed)))) AU)))
   (An (A6 Ed)))))
  exact hb
end
section
variable {P:Program} {w:World} {K:PySem.W.Frag} {mg:Str->Option Value} {base:Heap}
abbrev E8:Stmt:=top 34
theorem sc_Lkinds:A7 ["_law_script","_law_purse","_law_many","_law_names_here","_law_makers","_law_got","_law_used","_law_at","_law_rows","_law_k"] ["_law_script"] (Ar E8):=⟨rfl,rfl,rfl,by decide +kernel,rfl,by decide +kernel,by decide +kernel⟩
theorem ok_Lkinds {f:Addr} {fd:FuncData} {cStock:Addr} (Fu:Fun K "_law_kinds" "_law_kinds" E8 f fd) (T:Tx K mg cStock) (G_Lparts:FnAt P w K mg base CX0 "_law_parts" 1 ["_law_names_here","_law_at","_law_first","_law_purse"] (spF K 4 Cg)) (G_Lcell_at:FnAt P w K mg base CX0 "_law_cell_at" 1 ["_law_script","_law_k"] (spF K 2 BL)) (G_Lnames:FnAt P w K mg base CX0 "_law_names" 1 ["_law_cell","_law_count"] (spF K 2 CM)) (G_Ldigits:FnAt P w K mg base CX0 "_law_digits" 1 ["_law_script","_law_at","_law_parts_here"] (spF K 3 Dn)):Ds P w K mg base CX0 2 f fd ["_law_script"] (spF K 1 (Eo)) :=
 CZ (k:=1) (g:=Gg) Fu sc_Lkinds 1 9 rfl rfl (fun cdv A outer s H E hr=>by
  have nd:=sc_Lkinds.nd
  have hu:=CW hr
  exact (Ae (AJ 1 nd (Or.inl rfl) (BQ G_Ldigits (hr.mono (by first | decide | omega)) (Ai (Ap (Aq 0)) (Ai Ak (Ai Ak AM)))))
   (Ae (AJ 2 nd (Or.inl rfl) (A5 hu (FQ (Ah Ak (Ah Ak (Ah Ak (Ah Ak (Ah Ak (Ah Ak (Ah Ak (Ah Ak Av))))))))) (Cr (Ap (fe_bm0 mf_pop PySem.F.slot_list_pop PySem.F.type_list_pop Hq (Aq 1))) Ak) (fun _ _=>rfl)))
   (Ae (AJ 3 nd (Or.inl rfl) (Ap (BQ G_Lnames (hr.mono (by first | decide | omega)) (Ai (Ap (BQ G_Lcell_at (hr.mono (by first | decide | omega)) (Ai (Ap (Aq 0)) (Ai Ak AM)))) (Ai (Ap (Aq 2)) AM)))))
   (Ae (AJ 4 nd (Or.inl rfl) (Ap (BQ G_Lnames (hr.mono (by first | decide | omega)) (Ai (Ap (BQ G_Lcell_at (hr.mono (by first | decide | omega)) (Ai (Ap (Aq 0)) (Ai Ak AM)))) (Ai Ak AM)))))
   (Ae (AJ 5 nd (Or.inl rfl) (ER Av))
   (Ae (AJ 6 nd (Or.inl rfl) Ak)
   (Ae (BB PassesOwn.never rfl (Dm T.b_range (Ah (Aq 2) Av)) (AB 7 nd (Or.inl rfl)) (Ae (AJ 8 nd (Or.inl rfl) (ER Av))
   (Ae (BB PassesOwn.never rfl (Dm T.b_range (Ah (Br Ak (Cr (Ap (fe_bm0 mf_pop PySem.F.slot_list_pop PySem.F.type_list_pop Hq (Aq 1))) (A5 hu (FQ (Ah Ak (Ah Ak Av))) (fe_int1 T.b_int (Ah (fe_eq (Aq 2) Ak) Av)) (fun _ _=>rfl)))) Av)) (AB 9 nd (Or.inl rfl)) (Ae (CK (fe_bm Hr PySem.F.slot_list_append PySem.F.type_list_append Dj (Aq 8) (Ah (C0 (Ah (A5 hu (Aq 4) (Ap (Aq 6)) (fun _ _=>rfl)) (Ah (Ap (BQ G_Lparts (hr.mono (by first | decide | omega)) (Ai (Ap (Aq 3)) (Ai (Ap (Aq 7)) (Ai (fe_eq (Aq 9) Ak) (Ai (Aq 1) AM)))))) Av))) Av)))
   (An (AJ 6 nd (Or.inl rfl) (Br (Aq 6) Ak)))))
   (An (CK (fe_bm Hr PySem.F.slot_list_append PySem.F.type_list_append Dj (Aq 5) (Ah (C0 (Ah (A5 hu (Aq 3) (Ap (Aq 7)) (fun _ _=>rfl)) (Ah (Ap (Aq 8)) Av))) Av)))))))
   (An (A6 (Aq 5)))))))))))
end
section
variable {P:Program} {w:World} {K:PySem.W.Frag} {mg:Str->Option Value} {base:Heap}
abbrev E7:Stmt:=top 30
theorem sc_Lmixed:A7 ["_law_script","_law_at","_law_many","_law_cell","_law_first"] ["_law_script","_law_at","_law_many"] (Ar E7):=⟨rfl,rfl,rfl,by decide +kernel,rfl,by decide +kernel,by decide +kernel⟩
theorem ok_Lmixed {f:Addr} {fd:FuncData} {cStock:Addr} (Fu:Fun K "_law_mixed" "_law_mixed" E7 f fd) (T:Tx K mg cStock) :Ds P w K mg base CX0 1 f fd ["_law_script","_law_at","_law_many"] (spF K 3 (DB)) :=
 CZ (k:=0) (g:=Gf) Fu sc_Lmixed 3 2 rfl rfl (fun cdv A outer s H E hr=>by
  have nd:=sc_Lmixed.nd
  have hu:=CW hr
  exact (Ae (AJ 3 nd (Or.inl rfl) (fe_sum T.b_sum (Ah (Em false ["_law_k","_law_script"] [none,some 0] rfl (fi_range3 (Ah (Aq 1) (Ah (fe_min2 T.b_min (Ah (CL T.b_len (Ah (Aq 0) Av)) (Ah Ak Av))) (Ah (Aq 2) Av))) (fun ha=>pi_range3 rfl T.b_range ha)) (fun _ _ _ _ _=>(AB 0 (by show List.Nodup (["_law_k","_law_script"]:List Str);decide +kernel) (Or.inl rfl) (hf:=.inr rfl))) (fun _ _ _ _ _=>DK) (fun _ _ _ _ _=>(A5 hu (Aq 1) (Ap (Aq 0)) (fun _ _=>rfl)))) Av)))
   (Ae (BP (ft_eq (Cr (Aq 3) Ak) Ak) (An (A6 (Cr (ES (Aq 3) Ak) (fe_pow Ak Ak)))) AU)
   (Ae (AJ 4 nd (Or.inl rfl) (DS (Br (Br (Br (DS (Aq 3) (Aq 3)) (Aq 3)) (Aq 1)) Ak) Ak))
   (An (A6 (DS (Cr (DS (Aq 4) (Aq 4)) (Br (fe_pow Ak Ak) Ak)) (Br (Cr (Aq 4) Ak) Ak))))))))
end
section
variable {P:Program} {w:World} {K:PySem.W.Frag} {mg:Str->Option Value} {base:Heap}
abbrev E6:Stmt:=top 32
theorem sc_Lnames:A7 ["_law_cell","_law_count","_law_letters","_law_mixed_here","_law_wide","_law_at","_law_base","_law_step","_law_got","_law_k","_law_turned_on"] ["_law_cell","_law_count"] (Ar E6):=⟨rfl,rfl,rfl,by decide +kernel,rfl,by decide +kernel,by decide +kernel⟩
theorem ok_Lnames {f:Addr} {fd:FuncData} {cStock:Addr} (Fu:Fun K "_law_names" "_law_names" E6 f fd) (T:Tx K mg cStock) :Ds P w K mg base CX0 1 f fd ["_law_cell","_law_count"] (spF K 2 (CM)) :=
 CZ (k:=0) (g:=Ge) Fu sc_Lnames 2 9 rfl rfl (fun cdv A outer s H E hr=>by
  have nd:=sc_Lnames.nd
  have hu:=CW hr
  exact (Ae (AJ 2 nd (Or.inr rfl) fe_str)
   (Ae (AJ 3 nd (Or.inr rfl) (DS (Br (Br (DS (Aq 0) (Aq 0)) (Aq 0)) Ak) Ak))
   (Ae (AJ 4 nd (Or.inl rfl) (Br Ak (Cr (Aq 3) Ak)))
   (Ae (AJ 5 nd (Or.inl rfl) (Cr (ES (Aq 3) Ak) (Aq 4)))
   (Ae (gs_setComp false 6 ["_law_k","_law_letters","_law_mixed_here"] [none,some 2,some 3] rfl nd (Or.inl rfl) (Dm T.b_range (Ah (Aq 4) Av)) (fun _ _ _ _ _=>(AB 0 (by show List.Nodup (["_law_k","_law_letters","_law_mixed_here"]:List Str);decide +kernel) (Or.inl rfl) (hf:=.inr rfl))) (fun _ _ _ _ _=>DK) (fun _ _ _ _ _=>(A5 hu (Aq 1) (Cr (Br (ES (Aq 2) (Br (Aq 0) Ak)) (DS (Aq 0) (Aq 0))) Ak) (fun _ _=>rfl))))
   (Ae (AJ 7 nd (Or.inl rfl) (A5 hu (FQ (Ah Ak (Ah Ak (Ah Ak (Ah Ak (Ah Ak (Ah Ak Av))))))) (Cr (ES (Aq 3) Ak) Ak) (fun _ _=>rfl)))
   (Ae (AJ 8 nd (Or.inl rfl) (ER Av))
   (Ae (BB PassesOwn.never rfl (Dm T.b_range (Ah (Aq 1) Av)) (AB 9 nd (Or.inl rfl)) (Ae (AJ 10 nd (Or.inl rfl) (A5 hu (Aq 2) (Cr (Br (ES (Aq 3) Ak) (DS (Aq 9) (Aq 7))) Ak) (fun _ _=>rfl)))
   (An (BP (ft_eq (Cr (ES (Aq 3) Ak) Ak) Ak) (An (CK (fe_bm Hr PySem.F.slot_list_append PySem.F.type_list_append Dj (Aq 8) (Ah (DS (A5 hu (Aq 6) Ak (fun _ _=>rfl)) (Br (Cr (Br (Aq 9) (ES (Aq 3) Ak)) Ak) Ak)) Av)))) (An (CK (fe_bm Hr PySem.F.slot_list_append PySem.F.type_list_append Dj (Aq 8) (Ah (Br (Br (Ap (fe_bmS mf_join PySem.F.slot_str_join PySem.F.type_str_join mt_join fe_str (Ah (fe_sl (Aq 6) fo_none (fo_some (Aq 5))) Av))) (Aq 10)) (Ap (fe_bmS mf_join PySem.F.slot_str_join PySem.F.type_str_join mt_join fe_str (Ah (fe_sl (Aq 6) (fo_some (Br (Aq 5) Ak)) fo_none) Av)))) Av))))))))
   (An (A6 (Aq 8))))))))))))
end
section
variable {P:Program} {w:World} {K:PySem.W.Frag} {mg:Str->Option Value} {base:Heap}
abbrev C4:Stmt:=top 40
theorem GD:A7 ["_law_counts_here","_law_parts_here","_law_many","_law_got","_law_first"] ["_law_counts_here","_law_parts_here","_law_many"] (Ar C4):=⟨rfl,rfl,rfl,by decide +kernel,rfl,by decide +kernel,by decide +kernel⟩
theorem ok_Lof_maker {f:Addr} {fd:FuncData} {cStock:Addr} (Fu:Fun K "_law_of_maker" "_law_of_maker" C4 f fd) (T:Tx K mg cStock) :Ds P w K mg base CX0 1 f fd ["_law_counts_here","_law_parts_here","_law_many"] (spF K 3 (Be)) :=
 CZ (k:=0) (g:=DM) Fu GD 3 2 rfl rfl (fun cdv A outer s H E hr=>by
  have nd:=GD.nd
  have hu:=CW hr
  exact (Ae (BP (ft_eq (CL T.b_len (Ah (Aq 1) Av)) Ak) (An (A6 (fe_int1 T.b_int (Ah (fe_eq (Aq 2) Ak) Av)))) AU)
   (Ae (BP (ft_eq (CL T.b_len (Ah (Aq 1) Av)) Ak) (An (A6 (fe_get hu (Aq 0) (C0 (Ah (A5 hu (Aq 1) Ak (fun _ _=>rfl)) (Ah (Ft (Aq 2) Ak) Av))) Ak ⟨rfl,rfl,rfl,rfl⟩))) AU)
   (Ae (AJ 3 nd (Or.inl rfl) Ak)
   (Ae (BB PassesOwn.never rfl (DL T.b_range (Ah Ak (Ah (Ft (Aq 2) Ak) Av)) (h:=fun ha=>DJ rfl T.b_range ha)) (AB 4 nd (Or.inl rfl)) (An (AJ 3 nd (Or.inl rfl) (Br (Aq 3) (DS (Ap (fe_get hu (Aq 0) (C0 (Ah (A5 hu (Aq 1) Ak (fun _ _=>rfl)) (Ah (Ap (Aq 4)) Av))) Ak ⟨rfl,rfl,rfl,rfl⟩)) (Ap (fe_get hu (Aq 0) (C0 (Ah (A5 hu (Aq 1) Ak (fun _ _=>rfl)) (Ah (Ft (Ft (Aq 2) Ak) (Aq 4)) Av))) Ak ⟨rfl,rfl,rfl,rfl⟩)))))))
   (An (A6 (Aq 3))))))))
end
section
variable {P:Program} {w:World} {K:PySem.W.Frag} {mg:Str->Option Value} {base:Heap}
abbrev E5:Stmt:=top 33
theorem sc_Lparts:A7 ["_law_names_here","_law_at","_law_first","_law_purse","_law_many","_law_picks","_law_open_to"] ["_law_names_here","_law_at","_law_first","_law_purse"] (Ar E5):=⟨rfl,rfl,rfl,by decide +kernel,rfl,by decide +kernel,by decide +kernel⟩
theorem ok_Lparts {f:Addr} {fd:FuncData} {cStock:Addr} (Fu:Fun K "_law_parts" "_law_parts" E5 f fd) (T:Tx K mg cStock) :Ds P w K mg base CX0 1 f fd ["_law_names_here","_law_at","_law_first","_law_purse"] (spF K 4 (Cg)) :=
 CZ (k:=0) (g:=DV) Fu sc_Lparts 4 3 rfl rfl (fun cdv A outer s H E hr=>by
  have nd:=sc_Lparts.nd
  have hu:=CW hr
  exact (Ae (AJ 4 nd (Or.inl rfl) (A5 hu (FQ (Ah Ak (Ah Ak (Ah Ak (Ah Ak Av))))) (Cr (Ap (fe_bm0 mf_pop PySem.F.slot_list_pop PySem.F.type_list_pop Hq (Aq 3))) Ak) (fun _ _=>rfl)))
   (Ae (AJ 5 nd (Or.inr rfl) (FQ (Ah (Ap (fe_bm0 mf_pop PySem.F.slot_list_pop PySem.F.type_list_pop Hq (Aq 3))) (Ah (Ap (fe_bm0 mf_pop PySem.F.slot_list_pop PySem.F.type_list_pop Hq (Aq 3))) Av))))
   (Ae (AJ 6 nd (Or.inr rfl) (CL T.b_len (Ah (Aq 0) Av)))
   (Ae (BP (Cf (Aq 2) (fun _=>rfl)) (An (AJ 6 nd (Or.inr rfl) (Ap (Aq 1)))) AU)
   (Ae (BP (ft_eq (Aq 6) Ak) (An (A6 (C0 Av))) AU)
   (An (A6 (fe_tuple T.b_tuple (Ah (Em false ["_law_k","_law_names_here","_law_open_to","_law_picks"] [none,some 0,some 6,some 5] rfl (Dm T.b_range (Ah (Aq 4) Av)) (fun _ _ _ _ _=>(AB 0 (by show List.Nodup (["_law_k","_law_names_here","_law_open_to","_law_picks"]:List Str);decide +kernel) (Or.inl rfl) (hf:=.inr rfl))) (fun _ _ _ _ _=>DK) (fun _ _ _ _ _=>(A5 hu (Aq 1) (Cr (A5 hu (Aq 3) (Ap (Aq 0)) (fun _ _=>rfl)) (Aq 2)) (fun _ _=>rfl)))) Av))))))))))
end
section
variable {P:Program} {w:World} {K:PySem.W.Frag} {mg:Str->Option Value} {base:Heap}
abbrev E4:Stmt:=top 44
theorem sc_Lright:A7 ["_law_table_here","_law_counts_here","_law_kind","_law_most","_law_got","_law_k"] ["_law_table_here","_law_counts_here","_law_kind","_law_most","_law_got"] (Ar E4):=⟨rfl,rfl,rfl,by decide +kernel,rfl,by decide +kernel,by decide +kernel⟩
theorem ok_Lright {f:Addr} {fd:FuncData} {cStock:Addr} (Fu:Fun K "_law_right" "_law_right" E4 f fd) (T:Tx K mg cStock) (G_Lahead:FnAt P w K mg base CX0 "_law_ahead" 123 ["_law_table_here","_law_counts_here","_law_kind","_law_thing"] (spF K 4 DU)) (G_Lsize:FnAt P w K mg base CX0 "_law_size" 61 ["_law_thing"] (spF K 1 (BH 60))) (G_Lis_thing:FnAt P w K mg base CX0 "_law_is_thing" 61 ["_law_table_here","_law_kind","_law_thing"] (spF K 3 (AN 60))) (G_Lshape:FnAt P w K mg base CX0 "_law_shape" 61 ["_law_thing"] (spF K 1 (CF 60))):Ds P w K mg base CX0 124 f fd ["_law_table_here","_law_counts_here","_law_kind","_law_most","_law_got"] (spF K 5 (Dh)) :=
 CZ (k:=123) (g:=Gd) Fu sc_Lright 5 1 rfl rfl (fun cdv A outer s H E hr=>by
  have nd:=sc_Lright.nd
  have hu:=CW hr
  exact (Ae (BP (Dw (Cf (fe_isinstG kit_list PyProof.Rows.boot_list T.b_isinstance T.b_list (Aq 4)) (fun _=>rfl))) (An (A6 Ed)) AU)
   (Ae (BP (ft_ne (CL T.b_len (Ah (Aq 4) Av)) (fe_min2 T.b_min (Ah (Aq 3) (Ah (fe_sum T.b_sum (Ah (Em false ["_law_many","_law_counts_here","_law_kind"] [none,some 1,some 2] rfl (DL T.b_range (Ah Ak (Ah Ak Av)) (h:=fun ha=>DJ rfl T.b_range ha)) (fun _ _ _ _ _=>(AB 0 (by show List.Nodup (["_law_many","_law_counts_here","_law_kind"]:List Str);decide +kernel) (Or.inl rfl) (hf:=.inr rfl))) (fun _ _ _ _ _=>DK) (fun _ _ _ _ _=>(A5 hu (Aq 1) (C0 (Ah (Ap (Aq 2)) (Ah (Ap (Aq 0)) Av))) (fun _ _=>rfl)))) Av)) Av)))) (An (A6 Ed)) AU)
   (Ae (BB PassesOwn.never rfl (Dm T.b_range (Ah (CL T.b_len (Ah (Aq 4) Av)) Av)) (AB 5 nd (Or.inl rfl)) (Ae (BP (FW.ft (fw_or (Dw (Cf (Ap (BQ G_Lshape (hr.mono (by first | decide | omega)) (Ai (A5 hu (Aq 4) (Ap (Aq 5)) (fun _ _=>rfl)) AM))) (fun _=>rfl))) (fw_or1 (Dw (Cf (Ap (BQ G_Lis_thing (hr.mono (by first | decide | omega)) (Ai (Ap (Aq 0)) (Ai (Ap (Aq 2)) (Ai (A5 hu (Aq 4) (Ap (Aq 5)) (fun _ _=>rfl)) AM))))) (fun _=>rfl)))))) (An (A6 Ed)) AU)
   (An (BP (FW.ft (fw_or (ft_gt (Ap (BQ G_Lsize (hr.mono (by first | decide | omega)) (Ai (A5 hu (Aq 4) (Ap (Aq 5)) (fun _ _=>rfl)) AM))) Ak) (fw_or1 (ft_ne (Ap (BQ G_Lahead (hr.mono (by first | decide | omega)) (Ai (Ap (Aq 0)) (Ai (Ap (Aq 1)) (Ai (Ap (Aq 2)) (Ai (A5 hu (Aq 4) (Ap (Aq 5)) (fun _ _=>rfl)) AM)))))) (Aq 5))))) (An (A6 Ed)) AU))))
   (An (A6 Ed))))))
end
section
variable {P:Program} {w:World} {K:PySem.W.Frag} {mg:Str->Option Value} {base:Heap}
abbrev E3:Stmt:=top 38
theorem sc_Lshape:A7 ["_law_thing","_law_part"] ["_law_thing"] (Ar E3):=⟨rfl,rfl,rfl,by decide +kernel,rfl,by decide +kernel,by decide +kernel⟩
theorem ok_Lshape {f:Addr} {fd:FuncData} {cStock:Addr} (Fu:Fun K "_law_shape" "_law_shape" E3 f fd) (T:Tx K mg cStock)  (hat:∀ k sp,Ds P w K mg base CX0 k f fd ["_law_thing"] sp->FnAt P w K mg base CX0 "_law_shape" k ["_law_thing"] sp):∀ n,Ds P w K mg base CX0 (1+n) f fd ["_law_thing"] (spF K 1 (CF n))
 | 0=>⟨fun vs H Q E h=>by rw [h.1];rfl,fun A outer s H args us vs Q E hr he hb hv h=>by obtain ⟨_,F,fs0,ok,h⟩:=h;exact h.elim⟩
 | n+1=>by
  have Grec:=hat _ _ (ok_Lshape Fu T  hat n)
  have hb:=CZ (P:=P) (w:=w) (mg:=mg) (base:=base) (k:=1+n) (g:=Gb (CF n)) Fu sc_Lshape 1 1 rfl rfl (fun cdv A outer s H E hr=>by
  have nd:=sc_Lshape.nd
  have hu:=CW hr
  exact (Ae (BP (FW.ft (fw_or (Dw (Cf (HF kit_tuple PyProof.Rows.boot_tuple T.b_isinstance T.b_tuple (Aq 0)) (fun _=>rfl))) (fw_or1 (ft_ne (CL T.b_len (Ah (Aq 0) Av)) Ak)))) (An (A6 Ed)) AU)
   (Ae (BP (FW.ft (fw_or (Dw (Cf (HF kit_str PyProof.Rows.boot_str T.b_isinstance T.b_str (A5 hu (Aq 0) Ak (fun _ _=>rfl))) (fun _=>rfl))) (fw_or1 (Dw (Cf (HF kit_tuple PyProof.Rows.boot_tuple T.b_isinstance T.b_tuple (A5 hu (Aq 0) Ak (fun _ _=>rfl))) (fun _=>rfl)))))) (An (A6 Ed)) AU)
   (Ae (BB PassesOwn.never rfl (Cq (A5 hu (Aq 0) Ak (fun _ _=>rfl))) (AB 1 nd (Or.inl rfl)) (An (BP (Dw (Cf (Ap (BQ Grec (hr.mono (by first | decide | omega)) (Ai (Ap (Aq 1)) AM))) (fun _=>rfl))) (An (A6 Ed)) AU)))
   (An (A6 Ed))))))
  exact hb
end
section
variable {P:Program} {w:World} {K:PySem.W.Frag} {mg:Str->Option Value} {base:Heap}
abbrev Gj:Stmt:=top 39
theorem sc_Lsize:A7 ["_law_thing"] ["_law_thing"] (Ar Gj):=⟨rfl,rfl,rfl,by decide +kernel,rfl,by decide +kernel,by decide +kernel⟩
theorem ok_Lsize {f:Addr} {fd:FuncData} {cStock:Addr} (Fu:Fun K "_law_size" "_law_size" Gj f fd) (T:Tx K mg cStock)  (hat:∀ k sp,Ds P w K mg base CX0 k f fd ["_law_thing"] sp->FnAt P w K mg base CX0 "_law_size" k ["_law_thing"] sp):∀ n,Ds P w K mg base CX0 (1+n) f fd ["_law_thing"] (spF K 1 (BH n))
 | 0=>⟨fun vs H Q E h=>by rw [h.1];rfl,fun A outer s H args us vs Q E hr he hb hv h=>by obtain ⟨_,F,fs0,ok,h⟩:=h;exact h.elim⟩
 | n+1=>by
  have Grec:=hat _ _ (ok_Lsize Fu T  hat n)
  have hb:=CZ (P:=P) (w:=w) (mg:=mg) (base:=base) (k:=1+n) (g:=HR (BH n)) Fu sc_Lsize 1 0 rfl rfl (fun cdv A outer s H E hr=>by
  have nd:=sc_Lsize.nd
  have hu:=CW hr
  exact (An (A6 (Br Ak (fe_sum T.b_sum (Ah (Em false ["_law_part"] [none] rfl (Cq (A5 hu (Aq 0) Ak (fun _ _=>rfl))) (fun _ _ _ _ _=>(AB 0 (by show List.Nodup (["_law_part"]:List Str);decide +kernel) (Or.inl rfl) (hf:=.inr rfl))) (fun _ _ _ _ _=>DK) (fun _ _ _ _ _=>(Ap (BQ Grec (hr.mono (by first | decide | omega)) (Ai (Ap (Aq 0)) AM))))) Av))))))
  exact hb
end
section
variable {P:Program} {w:World} {K:PySem.W.Frag} {mg:Str->Option Value} {base:Heap}
abbrev E2:Stmt:=top 35
theorem sc_Ltable:A7 ["_law_kinds_here","_law_got","_law_kind","_law_rows"] ["_law_kinds_here"] (Ar E2):=⟨rfl,rfl,rfl,by decide +kernel,rfl,by decide +kernel,by decide +kernel⟩
theorem ok_Ltable {f:Addr} {fd:FuncData} {cStock:Addr} (Fu:Fun K "_law_table" "_law_table" E2 f fd) (T:Tx K mg cStock) :Ds P w K mg base CX0 1 f fd ["_law_kinds_here"] (spF K 1 (En)) :=
 CZ (k:=0) (g:=Ga) Fu sc_Ltable 1 3 rfl rfl (fun cdv A outer s H E hr=>by
  have nd:=sc_Ltable.nd
  have hu:=CW hr
  exact (Ae (AJ 1 nd (Or.inl rfl) Fd)
   (Ae (BB PassesOwn.never rfl (Cq (Ap (Aq 0))) (Eb rfl (A4 (AB 2 nd (Or.inl rfl)) (A4 (AB 3 nd (Or.inl rfl)) C6 (fun h1 h2=>A3 h1 h2)) (fun h1 h2=>A3 h1 h2))) (An (FH hu (Ap (Aq 3)) (Aq 1) (Ap (Aq 2)) (fun he ho hi hs=>ps_asg he (pg_sub ho hi hs)))))
   (An (A6 (Aq 1))))))
end
section
variable {P:Program} {w:World} {K:PySem.W.Frag} {mg:Str->Option Value} {base:Heap}
abbrev D7:Stmt:=top 42
theorem sc_Lwithin:A7 ["_law_table_here","_law_counts_here","_law_kind","_law_thing","_law_many","_law_got","_law_maker","_law_parts_here","_law_low","_law_first","_law_others"] ["_law_table_here","_law_counts_here","_law_kind","_law_thing"] (Ar D7):=⟨rfl,rfl,rfl,by decide +kernel,rfl,by decide +kernel,by decide +kernel⟩
theorem ok_Lwithin {f:Addr} {fd:FuncData} {cStock:Addr} (Fu:Fun K "_law_within" "_law_within" D7 f fd) (T:Tx K mg cStock) (G_Lsize:FnAt P w K mg base CX0 "_law_size" 61 ["_law_thing"] (spF K 1 (BH 60))) (G_Lof_maker:FnAt P w K mg base CX0 "_law_of_maker" 1 ["_law_counts_here","_law_parts_here","_law_many"] (spF K 3 Be)) (hat:∀ k sp,Ds P w K mg base CX0 k f fd ["_law_table_here","_law_counts_here","_law_kind","_law_thing"] sp->FnAt P w K mg base CX0 "_law_within" k ["_law_table_here","_law_counts_here","_law_kind","_law_thing"] sp):∀ n,Ds P w K mg base CX0 (62+n) f fd ["_law_table_here","_law_counts_here","_law_kind","_law_thing"] (spF K 4 (BK n))
 | 0=>⟨fun vs H Q E h=>by rw [h.1];rfl,fun A outer s H args us vs Q E hr he hb hv h=>by obtain ⟨_,F,fs0,ok,h⟩:=h;exact h.elim⟩
 | n+1=>by
  have Grec:=hat _ _ (ok_Lwithin Fu T G_Lsize G_Lof_maker hat n)
  have hb:=CZ (P:=P) (w:=w) (mg:=mg) (base:=base) (k:=62+n) (g:=EV (BK n)) Fu sc_Lwithin 4 7 rfl rfl (fun cdv A outer s H E hr=>by
  have nd:=sc_Lwithin.nd
  have hu:=CW hr
  exact (Ae (AJ 4 nd (Or.inl rfl) (Ap (BQ G_Lsize (hr.mono (by first | decide | omega)) (Ai (Ap (Aq 3)) AM))))
   (Ae (AJ 5 nd (Or.inl rfl) Ak)
   (Ae (BB PassesOwn.never rfl (Cq (A5 hu (Aq 0) (Ap (Aq 2)) (fun _ _=>rfl))) (Eb rfl (A4 (AB 6 nd (Or.inl rfl)) (A4 (AB 7 nd (Or.inl rfl)) C6 (fun h1 h2=>A3 h1 h2)) (fun h1 h2=>A3 h1 h2))) (An (BP (ft_ne (Aq 6) (A5 hu (Aq 3) Ak (fun _ _=>rfl))) (An (AJ 5 nd (Or.inl rfl) (Br (Aq 5) (Ap (BQ G_Lof_maker (hr.mono (by first | decide | omega)) (Ai (Ap (Aq 1)) (Ai (Ap (Aq 7)) (Ai (Ap (Aq 4)) AM)))))))) (An gs_break))))
   (Ae (BP (ft_eq (CL T.b_len (Ah (A5 hu (Aq 3) Ak (fun _ _=>rfl)) Av)) Ak) (An (AJ 5 nd (Or.inl rfl) (Br (Aq 5) (Ap (BQ Grec (hr.mono (by first | decide | omega)) (Ai (Ap (Aq 0)) (Ai (Ap (Aq 1)) (Ai (A5 hu (Aq 7) Ak (fun _ _=>rfl)) (Ai (A5 hu (A5 hu (Aq 3) Ak (fun _ _=>rfl)) Ak (fun _ _=>rfl)) AM))))))))) AU)
   (Ae (BP (ft_eq (CL T.b_len (Ah (A5 hu (Aq 3) Ak (fun _ _=>rfl)) Av)) Ak) (Ae (AJ 8 nd (Or.inl rfl) (Ap (BQ G_Lsize (hr.mono (by first | decide | omega)) (Ai (A5 hu (A5 hu (Aq 3) Ak (fun _ _=>rfl)) Ak (fun _ _=>rfl)) AM))))
   (Ae (BB PassesOwn.never rfl (DL T.b_range (Ah Ak (Ah (Aq 8) Av)) (h:=fun ha=>DJ rfl T.b_range ha)) (AB 9 nd (Or.inl rfl)) (Ae (AJ 10 nd (Or.inl rfl) (Ap (fe_get hu (Aq 1) (C0 (Ah (A5 hu (Aq 7) Ak (fun _ _=>rfl)) (Ah (Ft (Ft (Aq 4) Ak) (Aq 9)) Av))) Ak ⟨rfl,rfl,rfl,rfl⟩)))
   (An (AJ 5 nd (Or.inl rfl) (Br (Aq 5) (DS (Ap (fe_get hu (Aq 1) (C0 (Ah (A5 hu (Aq 7) Ak (fun _ _=>rfl)) (Ah (Ap (Aq 9)) Av))) Ak ⟨rfl,rfl,rfl,rfl⟩)) (Aq 10)))))))
   (Ae (AJ 10 nd (Or.inl rfl) (Ap (fe_get hu (Aq 1) (C0 (Ah (A5 hu (Aq 7) Ak (fun _ _=>rfl)) (Ah (Ft (Ft (Aq 4) Ak) (Aq 8)) Av))) Ak ⟨rfl,rfl,rfl,rfl⟩)))
   (Ae (AJ 5 nd (Or.inl rfl) (Br (Aq 5) (DS (Ap (BQ Grec (hr.mono (by first | decide | omega)) (Ai (Ap (Aq 0)) (Ai (Ap (Aq 1)) (Ai (A5 hu (Aq 7) Ak (fun _ _=>rfl)) (Ai (A5 hu (A5 hu (Aq 3) Ak (fun _ _=>rfl)) Ak (fun _ _=>rfl)) AM)))))) (Aq 10))))
   (An (AJ 5 nd (Or.inl rfl) (Br (Aq 5) (Ap (BQ Grec (hr.mono (by first | decide | omega)) (Ai (Ap (Aq 0)) (Ai (Ap (Aq 1)) (Ai (A5 hu (Aq 7) Ak (fun _ _=>rfl)) (Ai (A5 hu (A5 hu (Aq 3) Ak (fun _ _=>rfl)) Ak (fun _ _=>rfl)) AM))))))))))))) AU)
   (An (A6 (Aq 5)))))))))
  exact hb
end
section
variable {P:Program} {w:World} {K:PySem.W.Frag} {mg:Str->Option Value} {base:Heap}
abbrev CJ:Stmt:=inClass (top 22) 0
theorem FC:A7 ["self","kinds","kind","makers","maker","parts"] ["self","kinds"] (Ar CJ):=⟨rfl,rfl,rfl,by decide +kernel,rfl,by decide +kernel,by decide +kernel⟩
theorem ok_Stock_init {f:Addr} {fd:FuncData} {cStock:Addr} (Fu:Fun K "__init__" "Stock.__init__" CJ f fd) (T:Tx K mg cStock) (G_check_makers:FnAt P w K mg base CX0 "check_makers" 3 ["kinds"] (spF K 1 Cd)) (G_check_kinds:FnAt P w K mg base CX0 "check_kinds" 2 ["kinds"] (spF K 1 Co)):Ds P w K mg base CX0 4 f fd ["self","kinds"] (spF K 2 (Ci cStock)) :=
 CZ (k:=3) (g:=Dq cStock) Fu FC 2 4 rfl rfl (fun cdv A outer s H E hr=>by
  have nd:=FC.nd
  have hu:=CW hr
  exact (Ae (CK (BQ G_check_kinds (hr.mono (by first | decide | omega)) (Ai (Ap (Aq 1)) AM)))
   (Ae (CK (BQ G_check_makers (hr.mono (by first | decide | omega)) (Ai (Ap (Aq 1)) AM)))
   (Ae (gs_fld T.cl_Stock T.na_Stock_makers_by_kind 0 Fd (fun hv=>ps_fld (pv 0) hv rfl))
   (Ae (gs_fld T.cl_Stock T.na_Stock_parts_by_maker 0 Fd (fun hv=>ps_fld (pv 0) hv rfl))
   (Ae (gs_fld T.cl_Stock T.na_Stock_home_by_maker 0 Fd (fun hv=>ps_fld (pv 0) hv rfl))
   (An (BB PassesOwn.never rfl (Cq (Ap (Aq 1))) (Eb rfl (A4 (AB 2 nd (Or.inl rfl)) (A4 (AB 3 nd (Or.inl rfl)) C6 (fun h1 h2=>A3 h1 h2)) (fun h1 h2=>A3 h1 h2))) (Ae (gs_dputF T.cl_Stock T.na_Stock_makers_by_kind 0 2 (Em false ["maker","parts"] [none,none] rfl (Cq (Ap (Aq 3))) (fun _ _ _ _ _=>(Eb rfl (A4 (AB 0 (by show List.Nodup (["maker","parts"]:List Str);decide +kernel) (Or.inl rfl) (hf:=.inr rfl)) (A4 (AB 1 (by show List.Nodup (["maker","parts"]:List Str);decide +kernel) (Or.inl rfl) (hf:=.inr rfl)) C6 (fun h1 h2=>A3 h1 h2)) (fun h1 h2=>A3 h1 h2)))) (fun _ _ _ _ _=>DK) (fun _ _ _ _ _=>(Ap (Aq 0)))) (fun hv=>ps_dput hu (pe_fld (pv 0) rfl) (pv 2) hv rfl))
   (An (BB PassesOwn.never rfl (Cq (Ap (Aq 3))) (Eb rfl (A4 (AB 4 nd (Or.inl rfl)) (A4 (AB 5 nd (Or.inl rfl)) C6 (fun h1 h2=>A3 h1 h2)) (fun h1 h2=>A3 h1 h2))) (Ae (gs_dputF T.cl_Stock T.na_Stock_parts_by_maker 0 4 (fe_tuple T.b_tuple (Ah (Aq 5) Av)) (fun hv=>ps_dput hu (pe_fld (pv 0) rfl) (pv 4) hv rfl))
   (An (gs_dputF T.cl_Stock T.na_Stock_home_by_maker 0 4 (Ap (Aq 2)) (fun hv=>ps_dput hu (pe_fld (pv 0) rfl) (pv 4) hv rfl)))))))))))))))
end
section
variable {P:Program} {w:World} {K:PySem.W.Frag} {mg:Str->Option Value} {base:Heap}
abbrev Cn:Stmt:=inClass (top 22) 1
theorem Fm:A7 ["self"] ["self"] (Ar Cn):=⟨rfl,rfl,rfl,by decide +kernel,rfl,by decide +kernel,by decide +kernel⟩
theorem ok_Stock_kinds {f:Addr} {fd:FuncData} {cStock:Addr} (Fu:Fun K "kinds" "Stock.kinds" Cn f fd) (T:Tx K mg cStock) :Ds P w K mg base CX0 1 f fd ["self"] (spF K 1 (Bd cStock)) :=
 CZ (k:=0) (g:=CT cStock) Fu Fm 1 0 rfl rfl (fun cdv A outer s H E hr=>by
  have nd:=Fm.nd
  have hu:=CW hr
  exact (An (A6 (fe_list T.b_list (Ah (fe_fld T.cl_Stock T.na_Stock_makers_by_kind (Aq 0)) Av)))))
end
section
variable {P:Program} {w:World} {K:PySem.W.Frag} {mg:Str->Option Value} {base:Heap}
abbrev Cb:Stmt:=inClass (top 22) 2
theorem EE:A7 ["self","kind"] ["self","kind"] (Ar Cb):=⟨rfl,rfl,rfl,by decide +kernel,rfl,by decide +kernel,by decide +kernel⟩
theorem Ho {f:Addr} {fd:FuncData} {cStock:Addr} (Fu:Fun K "makers" "Stock.makers" Cb f fd) (T:Tx K mg cStock) :Ds P w K mg base CX0 1 f fd ["self","kind"] (spF K 2 (BG cStock)) :=
 CZ (k:=0) (g:=CA cStock) Fu EE 2 0 rfl rfl (fun cdv A outer s H E hr=>by
  have nd:=EE.nd
  have hu:=CW hr
  exact (Ae (BP (Fc hu (Ap (Aq 1)) (fe_fld T.cl_Stock T.na_Stock_makers_by_kind (Aq 0))) (An CD) AU)
   (An (A6 (fe_list T.b_list (Ah (A5 hu (fe_fld T.cl_Stock T.na_Stock_makers_by_kind (Aq 0)) (Ap (Aq 1)) (fun _ _=>rfl)) Av))))))
end
section
variable {P:Program} {w:World} {K:PySem.W.Frag} {mg:Str->Option Value} {base:Heap}
abbrev Cm:Stmt:=inClass (top 22) 3
theorem Fl:A7 ["self","maker"] ["self","maker"] (Ar Cm):=⟨rfl,rfl,rfl,by decide +kernel,rfl,by decide +kernel,by decide +kernel⟩
theorem ok_Stock_parts {f:Addr} {fd:FuncData} {cStock:Addr} (Fu:Fun K "parts" "Stock.parts" Cm f fd) (T:Tx K mg cStock) :Ds P w K mg base CX0 1 f fd ["self","maker"] (spF K 2 (BC cStock)) :=
 CZ (k:=0) (g:=CS cStock) Fu Fl 2 0 rfl rfl (fun cdv A outer s H E hr=>by
  have nd:=Fl.nd
  have hu:=CW hr
  exact (Ae (BP (Fc hu (Ap (Aq 1)) (fe_fld T.cl_Stock T.na_Stock_parts_by_maker (Aq 0))) (An CD) AU)
   (An (A6 (A5 hu (fe_fld T.cl_Stock T.na_Stock_parts_by_maker (Aq 0)) (Ap (Aq 1)) (fun _ _=>rfl))))))
end
section
variable {P:Program} {w:World} {K:PySem.W.Frag} {mg:Str->Option Value} {base:Heap}
abbrev Ca:Stmt:=top 26
theorem ED:A7 ["maker","parts","kinds_above","part"] ["maker","parts","kinds_above"] (Ar Ca):=⟨rfl,rfl,rfl,by decide +kernel,rfl,by decide +kernel,by decide +kernel⟩
theorem Hm {f:Addr} {fd:FuncData} {cStock:Addr} (Fu:Fun K "check_ground" "check_ground" Ca f fd) (T:Tx K mg cStock) :Ds P w K mg base CX0 1 f fd ["maker","parts","kinds_above"] (spF K 3 (Bk)) :=
 CZ (k:=0) (g:=Cz) Fu ED 3 1 rfl rfl (fun cdv A outer s H E hr=>by
  have nd:=ED.nd
  have hu:=CW hr
  exact (An (BB PassesOwn.never rfl (Cq (Ap (Aq 1))) (AB 3 nd (Or.inl rfl)) (An (BP (Fc hu (Ap (Aq 3)) (Aq 2)) (An CD) AU)))))
end
section
variable {P:Program} {w:World} {K:PySem.W.Frag} {mg:Str->Option Value} {base:Heap}
abbrev Ck:Stmt:=top 23
theorem Fj:A7 ["kinds","above","kind","makers"] ["kinds"] (Ar Ck):=⟨rfl,rfl,rfl,by decide +kernel,rfl,by decide +kernel,by decide +kernel⟩
theorem ok_check_kinds {f:Addr} {fd:FuncData} {cStock:Addr} (Fu:Fun K "check_kinds" "check_kinds" Ck f fd) (T:Tx K mg cStock) (G_is_name:FnAt P w K mg base CX0 "is_name" 1 ["text"] (spF K 1 Bv)):Ds P w K mg base CX0 2 f fd ["kinds"] (spF K 1 (Co)) :=
 CZ (k:=1) (g:=CQ) Fu Fj 1 3 rfl rfl (fun cdv A outer s H E hr=>by
  have nd:=Fj.nd
  have hu:=CW hr
  exact (Ae (BP (Dw (ft_chain of_le of_le Ak (CL T.b_len (Ah (Aq 0) Av)) (fe_gI T.g_MOST_KINDS) (fun ha hb hc=>pt_chain op_le op_le ha hb hc))) (An CD) AU)
   (Ae (AJ 1 nd (Or.inl rfl) Fd)
   (An (BB PassesOwn.never rfl (Cq (Ap (Aq 0))) (Eb rfl (A4 (AB 2 nd (Or.inl rfl)) (A4 (AB 3 nd (Or.inl rfl)) C6 (fun h1 h2=>A3 h1 h2)) (fun h1 h2=>A3 h1 h2))) (Ae (BP (Dw (Cf (Ap (BQ G_is_name (hr.mono (by first | decide | omega)) (Ai (Ap (Aq 2)) AM))) (fun _=>rfl))) (An CD) AU)
   (Ae (BP (ft_in hu (Ap (Aq 2)) (Aq 1)) (An CD) AU)
   (Ae (BP (Dw (ft_chain of_le of_le Ak (CL T.b_len (Ah (Aq 3) Av)) (fe_gI T.g_MOST_MAKERS) (fun ha hb hc=>pt_chain op_le op_le ha hb hc))) (An CD) AU)
   (An (FH hu Ed (Aq 1) (Ap (Aq 2)) (fun he ho hi hs=>ps_asg he (pg_sub ho hi hs))))))))))))
end
section
variable {P:Program} {w:World} {K:PySem.W.Frag} {mg:Str->Option Value} {base:Heap}
abbrev Cj:Stmt:=top 25
theorem Fi:A7 ["maker","parts","makers_ahead","all_kinds","part"] ["maker","parts","makers_ahead","all_kinds"] (Ar Cj):=⟨rfl,rfl,rfl,by decide +kernel,rfl,by decide +kernel,by decide +kernel⟩
theorem ok_check_maker {f:Addr} {fd:FuncData} {cStock:Addr} (Fu:Fun K "check_maker" "check_maker" Cj f fd) (T:Tx K mg cStock) (G_is_name:FnAt P w K mg base CX0 "is_name" 1 ["text"] (spF K 1 Bv)):Ds P w K mg base CX0 2 f fd ["maker","parts","makers_ahead","all_kinds"] (spF K 4 (Bq)) :=
 CZ (k:=1) (g:=CP) Fu Fi 4 1 rfl rfl (fun cdv A outer s H E hr=>by
  have nd:=Fi.nd
  have hu:=CW hr
  exact (Ae (BP (Dw (Cf (Ap (BQ G_is_name (hr.mono (by first | decide | omega)) (Ai (Ap (Aq 0)) AM))) (fun _=>rfl))) (An CD) AU)
   (Ae (BP (ft_in hu (Ap (Aq 0)) (Aq 2)) (An CD) AU)
   (Ae (BP (ft_gt (CL T.b_len (Ah (Aq 1) Av)) (fe_gI T.g_MOST_PARTS)) (An CD) AU)
   (An (BB PassesOwn.never rfl (Cq (Ap (Aq 1))) (AB 4 nd (Or.inl rfl)) (An (BP (Fc hu (Ap (Aq 4)) (Aq 3)) (An CD) AU))))))))
end
section
variable {P:Program} {w:World} {K:PySem.W.Frag} {mg:Str->Option Value} {base:Heap}
abbrev BZ:Stmt:=top 24
theorem EC:A7 ["kinds","all_kinds","kinds_above","makers_ahead","kind","makers","first","maker","parts"] ["kinds"] (Ar BZ):=⟨rfl,rfl,rfl,by decide +kernel,rfl,by decide +kernel,by decide +kernel⟩
theorem Hl {f:Addr} {fd:FuncData} {cStock:Addr} (Fu:Fun K "check_makers" "check_makers" BZ f fd) (T:Tx K mg cStock) (G_check_ground:FnAt P w K mg base CX0 "check_ground" 1 ["maker","parts","kinds_above"] (spF K 3 Bk)) (G_check_maker:FnAt P w K mg base CX0 "check_maker" 2 ["maker","parts","makers_ahead","all_kinds"] (spF K 4 Bq)):Ds P w K mg base CX0 3 f fd ["kinds"] (spF K 1 (Cd)) :=
 CZ (k:=2) (g:=Cy) Fu EC 1 8 rfl rfl (fun cdv A outer s H E hr=>by
  have nd:=EC.nd
  have hu:=CW hr
  exact (Ae (gs_setComp false 1 ["kind","makers"] [none,none] rfl nd (Or.inl rfl) (Cq (Ap (Aq 0))) (fun _ _ _ _ _=>(Eb rfl (A4 (AB 0 (by show List.Nodup (["kind","makers"]:List Str);decide +kernel) (Or.inl rfl) (hf:=.inr rfl)) (A4 (AB 1 (by show List.Nodup (["kind","makers"]:List Str);decide +kernel) (Or.inl rfl) (hf:=.inr rfl)) C6 (fun h1 h2=>A3 h1 h2)) (fun h1 h2=>A3 h1 h2)))) (fun _ _ _ _ _=>DK) (fun _ _ _ _ _=>(Ap (Aq 0))))
   (Ae (AJ 2 nd (Or.inl rfl) (ER Av))
   (Ae (AJ 3 nd (Or.inl rfl) Fd)
   (An (BB PassesOwn.never rfl (Cq (Ap (Aq 0))) (Eb rfl (A4 (AB 4 nd (Or.inl rfl)) (A4 (AB 5 nd (Or.inl rfl)) C6 (fun h1 h2=>A3 h1 h2)) (fun h1 h2=>A3 h1 h2))) (Ae (AJ 6 nd (Or.inl rfl) (A5 hu (A5 hu (Aq 5) Ak (fun _ _=>rfl)) Ak (fun _ _=>rfl)))
   (Ae (BB PassesOwn.never rfl (Cq (Ap (Aq 5))) (Eb rfl (A4 (AB 7 nd (Or.inl rfl)) (A4 (AB 8 nd (Or.inl rfl)) C6 (fun h1 h2=>A3 h1 h2)) (fun h1 h2=>A3 h1 h2))) (Ae (CK (BQ G_check_maker (hr.mono (by first | decide | omega)) (Ai (Ap (Aq 7)) (Ai (Ap (Aq 8)) (Ai (Aq 3) (Ai (Ap (Aq 1)) AM))))))
   (Ae (BP (ft_eq (Aq 7) (Aq 6)) (An (CK (BQ G_check_ground (hr.mono (by first | decide | omega)) (Ai (Ap (Aq 7)) (Ai (Ap (Aq 8)) (Ai (Aq 2) AM)))))) AU)
   (An (FH hu Ed (Aq 3) (Ap (Aq 7)) (fun he ho hi hs=>ps_asg he (pg_sub ho hi hs)))))))
   (An (CK (fe_bm Hr PySem.F.slot_list_append PySem.F.type_list_append Dj (Aq 2) (Ah (Ap (Aq 4)) Av))))))))))))
end
section
variable {P:Program} {w:World} {K:PySem.W.Frag} {mg:Str->Option Value} {base:Heap}
abbrev D6:Stmt:=top 17
theorem sc_is_name:A7 ["text"] ["text"] (Ar D6):=⟨rfl,rfl,rfl,by decide +kernel,rfl,by decide +kernel,by decide +kernel⟩
theorem ok_is_name {f:Addr} {fd:FuncData} {cStock:Addr} (Fu:Fun K "is_name" "is_name" D6 f fd) (T:Tx K mg cStock) :Ds P w K mg base CX0 1 f fd ["text"] (spF K 1 (Bv)) :=
 CZ (k:=0) (g:=EU) Fu sc_is_name 1 0 rfl rfl (fun cdv A outer s H E hr=>by
  have nd:=sc_is_name.nd
  have hu:=CW hr
  exact (Ae (BP (Dw (ft_chain of_le of_le Ak (CL T.b_len (Ah (Aq 0) Av)) (fe_gI T.g_MOST_LETTERS) (fun ha hb hc=>pt_chain op_le op_le ha hb hc))) (An (A6 Ed)) AU)
   (An (A6 (fe_all T.b_all (Ah (Em false ["sign"] [none] rfl (Cq (Ap (Aq 0))) (fun _ _ _ _ _=>(AB 0 (by show List.Nodup (["sign"]:List Str);decide +kernel) (Or.inl rfl) (hf:=.inr rfl))) (fun _ _ _ _ _=>DK) (fun _ _ _ _ _=>(fe_in hu (Ap (Aq 0)) (fe_gS T.g_LETTERS)))) Av))))))
end
section
variable {P:Program} {w:World} {K:PySem.W.Frag} {mg:Str->Option Value} {base:Heap}
abbrev s_law:Stmt:=top 45
theorem sc_law:A7 ["_law_script","_law_kinds_here","_law_table_here","_law_counts_here","_law_stock","_law_k","_law_mixed_here","_law_most","_law_got"] ["_law_script"] (Ar s_law):=⟨rfl,rfl,rfl,by decide +kernel,rfl,by decide +kernel,by decide +kernel⟩
theorem ok_law {f:Addr} {fd:FuncData} {cStock:Addr} (Fu:Fun K "law" "law" s_law f fd) (T:Tx K mg cStock) (G_things:FnAt P w K mg base CX0 "things" 63 ["stock","kind","most"] (spF K 3 (Dg cStock))) (G_Lright:FnAt P w K mg base CX0 "_law_right" 124 ["_law_table_here","_law_counts_here","_law_kind","_law_most","_law_got"] (spF K 5 Dh)) (G_Lmixed:FnAt P w K mg base CX0 "_law_mixed" 1 ["_law_script","_law_at","_law_many"] (spF K 3 DB)) (G_Stock_init:MkAt P w K mg base CX0 "Stock" cStock 4 ["self","kinds"] (spF K 2 (Ci cStock))) (G_Lcounts:FnAt P w K mg base CX0 "_law_counts" 2 ["_law_kinds_here"] (spF K 1 Ee)) (G_Ltable:FnAt P w K mg base CX0 "_law_table" 1 ["_law_kinds_here"] (spF K 1 En)) (G_Lkinds:FnAt P w K mg base CX0 "_law_kinds" 2 ["_law_script"] (spF K 1 Eo)):Ds P w K mg base CX0 125 f fd ["_law_script"] (spF K 1 (f_law cStock)) :=
 CZ (k:=124) (g:=b_law cStock) Fu sc_law 1 8 rfl rfl (fun cdv A outer s H E hr=>by
  have nd:=sc_law.nd
  have hu:=CW hr
  exact (Ae (AJ 1 nd (Or.inl rfl) (Ap (BQ G_Lkinds (hr.mono (by first | decide | omega)) (Ai (Ap (Aq 0)) AM))))
   (Ae (AJ 2 nd (Or.inl rfl) (Ap (BQ G_Ltable (hr.mono (by first | decide | omega)) (Ai (Ap (Aq 1)) AM))))
   (Ae (AJ 3 nd (Or.inl rfl) (Ap (BQ G_Lcounts (hr.mono (by first | decide | omega)) (Ai (Ap (Aq 1)) AM))))
   (Ae (AJ 4 nd (Or.inl rfl) (Ap (fe_mk G_Stock_init (hr.mono (by first | decide | omega)) (Ai (Ap (Aq 1)) AM))))
   (Ae (BB PassesOwn.never rfl (Dm T.b_range (Ah (CL T.b_len (Ah (Aq 1) Av)) Av)) (AB 5 nd (Or.inl rfl)) (Ae (AJ 6 nd (Or.inl rfl) (ES (Ap (BQ G_Lmixed (hr.mono (by first | decide | omega)) (Ai (Ap (Aq 0)) (Ai (Ap (Aq 5)) (Ai Ak AM))))) Ak))
   (Ae (AJ 7 nd (Or.inl rfl) (Br Ak (Cr (ES (Aq 6) Ak) (A5 hu (FQ (Ah Ak (Ah Ak Av))) (Cr (Aq 6) Ak) (fun _ _=>rfl)))))
   (Ae (AJ 8 nd (Or.inl rfl) (BQ G_things (hr.mono (by first | decide | omega)) (Ai (Ap (Aq 4)) (Ai (A5 hu (A5 hu (Aq 1) (Ap (Aq 5)) (fun _ _=>rfl)) Ak (fun _ _=>rfl)) (Ai (Ap (Aq 7)) AM)))))
   (Ae (BP (Dw (Cf (Ap (BQ G_Lright (hr.mono (by first | decide | omega)) (Ai (Ap (Aq 2)) (Ai (Ap (Aq 3)) (Ai (A5 hu (A5 hu (Aq 1) (Ap (Aq 5)) (fun _ _=>rfl)) Ak (fun _ _=>rfl)) (Ai (Ap (Aq 7)) (Ai (Aq 8) AM))))))) (fun _=>rfl))) (An (A6 Ed)) AU)
   (Ae (CK (fe_bm0 mf_clear PySem.F.slot_list_clear PySem.F.type_list_clear mt_clear (Aq 8)))
   (An (BP (Dw (Cf (Ap (BQ G_Lright (hr.mono (by first | decide | omega)) (Ai (Ap (Aq 2)) (Ai (Ap (Aq 3)) (Ai (A5 hu (A5 hu (Aq 1) (Ap (Aq 5)) (fun _ _=>rfl)) Ak (fun _ _=>rfl)) (Ai (Ap (Aq 7)) (Ai (Ap (BQ G_things (hr.mono (by first | decide | omega)) (Ai (Ap (Aq 4)) (Ai (A5 hu (A5 hu (Aq 1) (Ap (Aq 5)) (fun _ _=>rfl)) Ak (fun _ _=>rfl)) (Ai (Ap (Aq 7)) AM))))) AM))))))) (fun _=>rfl))) (An (A6 Ed)) AU))))))))
   (An (A6 Ed))))))))
end
section
variable {P:Program} {w:World} {K:PySem.W.Frag} {mg:Str->Option Value} {base:Heap}
abbrev BY:Stmt:=top 13
theorem EB:A7 ["kinds","whole","made","rows","first_size","behind","first"] ["kinds","whole","made"] (Ar BY):=⟨rfl,rfl,rfl,by decide +kernel,rfl,by decide +kernel,by decide +kernel⟩
theorem EJ {f:Addr} {fd:FuncData} {cStock:Addr} (Fu:Fun K "rows_of_size" "rows_of_size" BY f fd) (T:Tx K mg cStock)  (hat:∀ k sp,Ds P w K mg base CX0 k f fd ["kinds","whole","made"] sp->FnAt P w K mg base CX0 "rows_of_size" k ["kinds","whole","made"] sp):∀ n,Ds P w K mg base CX0 (1+n) f fd ["kinds","whole","made"] (spF K 3 (AO n))
 | 0=>⟨fun vs H Q E h=>by rw [h.1];rfl,fun A outer s H args us vs Q E hr he hb hv h=>by obtain ⟨_,F,fs0,ok,h⟩:=h;exact h.elim⟩
 | n+1=>by
  have Grec:=hat _ _ (EJ Fu T  hat n)
  have hb:=CZ (P:=P) (w:=w) (mg:=mg) (base:=base) (k:=1+n) (g:=Bl (AO n)) Fu EB 3 4 rfl rfl (fun cdv A outer s H E hr=>by
  have nd:=EB.nd
  have hu:=CW hr
  exact (Ae (BP (Dw (Cf (Aq 0) (fun _=>rfl))) (An (A6 (fe_if (ft_eq (Aq 1) Ak) (FQ (Ah (C0 Av) Av)) (FQ Av)))) AU)
   (Ae (AJ 3 nd (Or.inl rfl) (ER Av))
   (Ae (BB PassesOwn.never rfl (DL T.b_range (Ah Ak (Ah (Br (Aq 1) Ak) Av)) (h:=fun ha=>DJ rfl T.b_range ha)) (AB 4 nd (Or.inl rfl)) (Ae (AJ 5 nd (Or.inl rfl) (Ap (BQ Grec (hr.mono (by first | decide | omega)) (Ai (fe_sl (Aq 0) (fo_some Ak) fo_none) (Ai (Ft (Aq 1) (Aq 4)) (Ai (Aq 2) AM))))))
   (An (BB PassesOwn.never rfl (Cq (A5 hu (Aq 2) (C0 (Ah (A5 hu (Aq 0) Ak (fun _ _=>rfl)) (Ah (Ap (Aq 4)) Av))) (fun _ _=>rfl))) (AB 6 nd (Or.inr rfl)) (An (CK (fe_bm mf_extU PySem.F.slot_list_extend PySem.F.type_list_extend mt_extU (Aq 3) (Ah (Em false ["row","first"] [none,some 6] rfl (Cq (Ap (Aq 5))) (fun _ _ _ _ _=>(AB 0 (by show List.Nodup (["row","first"]:List Str);decide +kernel) (Or.inl rfl) (hf:=.inr rfl))) (fun _ _ _ _ _=>DK) (fun _ _ _ _ _=>(Br (C0 (Ah (Ap (Aq 1)) Av)) (Aq 0)))) Av))))))))
   (An (A6 (Aq 3)))))))
  exact hb
end
section
variable {P:Program} {w:World} {K:PySem.W.Frag} {mg:Str->Option Value} {base:Heap}
abbrev E1:Stmt:=top 11
theorem sc_things:A7 ["stock","kind","most","told","made","whole","each"] ["stock","kind","most"] (Ar E1):=⟨rfl,rfl,rfl,by decide +kernel,rfl,by decide +kernel,by decide +kernel⟩
theorem ok_things {f:Addr} {fd:FuncData} {cStock:Addr} (Fu:Fun K "things" "things" E1 f fd) (T:Tx K mg cStock) (G_Stock_kinds:MtAt P w K mg base CX0 cStock "kinds" 1 ["self"] (spF K 1 (Bd cStock))) (G_things_of_size:FnAt P w K mg base CX0 "things_of_size" 62 ["stock","kind","whole","made"] (spF K 4 (Bg cStock))):Ds P w K mg base CX0 63 f fd ["stock","kind","most"] (spF K 3 (Dg cStock)) :=
 CZ (k:=62) (g:=FZ cStock) Fu sc_things 3 4 rfl rfl (fun cdv A outer s H E hr=>by
  have nd:=sc_things.nd
  have hu:=CW hr
  exact (Ae (BP (Fc hu (Ap (Aq 1)) (Ap (fe_mt0 G_Stock_kinds (hr.mono (by first | decide | omega)) (Ap (Aq 0)) (fun ho=>pe_mt0 G_Stock_kinds (hr.mono (by first | decide | omega)) pass0 ho)))) (An CD) AU)
   (Ae (AJ 3 nd (Or.inl rfl) (ER Av))
   (Ae (AJ 4 nd (Or.inl rfl) fe_dnewT)
   (Ae (BB PassesOwn.never rfl (DL T.b_range (Ah Ak (Ah (Br (fe_gI T.g_MOST_SIZE) Ak) Av)) (h:=fun ha=>DJ rfl T.b_range ha)) (AB 5 nd (Or.inl rfl)) (Ae (BB PassesOwn.never rfl (Cq (Ap (fe_mt0 G_Stock_kinds (hr.mono (by first | decide | omega)) (Ap (Aq 0)) (fun ho=>pe_mt0 G_Stock_kinds (hr.mono (by first | decide | omega)) pass0 ho)))) (AB 6 nd (Or.inl rfl)) (An (FH hu (Ap (BQ G_things_of_size (hr.mono (by first | decide | omega)) (Ai (Ap (Aq 0)) (Ai (Ap (Aq 6)) (Ai (Ap (Aq 5)) (Ai (Aq 4) AM)))))) (Aq 4) (C0 (Ah (Ap (Aq 6)) (Ah (Ap (Aq 5)) Av))) (fun he ho hi hs=>ps_asg he (pg_sub ho hi hs)))))
   (Ae (CK (fe_bm mf_extU PySem.F.slot_list_extend PySem.F.type_list_extend mt_extU (Aq 3) (Ah (A5 hu (Aq 4) (C0 (Ah (Ap (Aq 1)) (Ah (Ap (Aq 5)) Av))) (fun _ _=>rfl)) Av)))
   (An (BP (ft_ge (CL T.b_len (Ah (Aq 3) Av)) (Aq 2)) (An gs_break) AU)))))
   (An (A6 (fe_slN (Aq 3) fo_none (fo_some (Aq 2))))))))))
end
section
variable {P:Program} {w:World} {K:PySem.W.Frag} {mg:Str->Option Value} {base:Heap}
abbrev By:Stmt:=top 12
theorem D5:A7 ["stock","kind","whole","made","found","maker","parts"] ["stock","kind","whole","made"] (Ar By):=⟨rfl,rfl,rfl,by decide +kernel,rfl,by decide +kernel,by decide +kernel⟩
theorem Gp {f:Addr} {fd:FuncData} {cStock:Addr} (Fu:Fun K "things_of_size" "things_of_size" By f fd) (T:Tx K mg cStock) (G_Stock_makers:MtAt P w K mg base CX0 cStock "makers" 1 ["self","kind"] (spF K 2 (BG cStock))) (G_Stock_parts:MtAt P w K mg base CX0 cStock "parts" 1 ["self","maker"] (spF K 2 (BC cStock))) (G_rows_of_size:FnAt P w K mg base CX0 "rows_of_size" 61 ["kinds","whole","made"] (spF K 3 (AO 60))):Ds P w K mg base CX0 62 f fd ["stock","kind","whole","made"] (spF K 4 (Bg cStock)) :=
 CZ (k:=61) (g:=BX cStock) Fu D5 4 3 rfl rfl (fun cdv A outer s H E hr=>by
  have nd:=D5.nd
  have hu:=CW hr
  exact (Ae (AJ 4 nd (Or.inl rfl) (ER Av))
   (Ae (BB PassesOwn.never rfl (Cq (Ap (fe_mt G_Stock_makers (hr.mono (by first | decide | omega)) (Ap (Aq 0)) (Ai (Ap (Aq 1)) AM)))) (AB 5 nd (Or.inl rfl)) (An (BB PassesOwn.never rfl (Cq (Ap (BQ G_rows_of_size (hr.mono (by first | decide | omega)) (Ai (Ap (fe_mt G_Stock_parts (hr.mono (by first | decide | omega)) (Ap (Aq 0)) (Ai (Ap (Aq 5)) AM))) (Ai (Ft (Aq 2) Ak) (Ai (Aq 3) AM)))))) (AB 6 nd (Or.inl rfl)) (An (CK (fe_bm Hr PySem.F.slot_list_append PySem.F.type_list_append Dj (Aq 4) (Ah (C0 (Ah (Ap (Aq 5)) (Ah (Ap (Aq 6)) Av))) Av)))))))
   (An (A6 (Aq 4))))))
end
end Sy
namespace Nm
def M (c:Int):Int:=(c * c+c+1) * 982451653
def W (c:Int):Int:=1+M c % 12
def At (c:Int):Int:=M c / 12 % W c
def Dk (i:Int):Nat:=97+(i % 26).toNat
def base (c:Int) (j:Nat):Nat:=Dk (M c / ((j:Int)+5)+(j:Int) * j)
def stepI (c:Int):Nat:=(M c / 144 % 6).toNat
def step (c:Int):Int:=([1,3,5,7,9,11]:List Int).getD (stepI c) 1
def one (c:Int) (k:Nat):Nat:=Dk (M c / 864+(k:Int) * step c)
def codesA (c:Int) (k:Nat):List Nat:=List.replicate (((k:Int)+M c / 7) % 12+1).toNat (base c 0)
def codesB (c:Int) (k:Nat):List Nat:=(List.range (At c).toNat).map (base c)++[one c k]++(List.range ((W c).toNat - ((At c).toNat+1))).map fun j=>base c ((At c).toNat+1+j)
def codes (c:Int) (k:Nat):List Nat:=if M c / 900 % 3=1 then codesA c k else codesB c k
theorem W_lo (c:Int):1<=W c:=by unfold W;omega
theorem W_hi (c:Int):W c<=12:=by unfold W;omega
theorem At_lo (c:Int):0<=At c:=Int.emod_nonneg _ (by have:=W_lo c;omega)
theorem At_hi (c:Int):At c < W c:=Int.emod_lt_of_pos _ (by have:=W_lo c;omega)
theorem letter_lo (i:Int):97<=Dk i:=by unfold Dk;omega
theorem letter_hi (i:Int):Dk i<=122:=by unfold Dk;omega
theorem step_mem (c:Int):step c=1∨step c=3∨step c=5∨step c=7∨step c=9∨step c=11:=by
 have h:stepI c < 6:=by unfold stepI;omega
 unfold step
 generalize stepI c=i at h
 match i,h with
 | 0,_=>simp
 | 1,_=>simp
 | 2,_=>simp
 | 3,_=>simp
 | 4,_=>simp
 | 5,_=>simp
theorem one_inj {c:Int} {k k':Nat} (hk:k < 12) (hk':k' < 12) (h:one c k=one c k'):k=k':=by
 unfold one Dk at h
 have h':((M c / 864+(k:Int) * step c) % 26)=((M c / 864+(k':Int) * step c) % 26):=by omega
 generalize M c / 864=m at h'
 rcases step_mem c with e | e | e | e | e | e <;> rw [e] at h' <;> omega
theorem Fe (c:Int) (k:Nat):(codesA c k).length=(((k:Int)+M c / 7) % 12+1).toNat:=by unfold codesA;simp
theorem codesB_len (c:Int) (k:Nat):(codesB c k).length=(W c).toNat:=by
 unfold codesB
 simp only [List.length_append,List.length_map,List.length_range,List.length_singleton]
 have:=At_lo c;have:=At_hi c
 omega
theorem codes_lo (c:Int) (k:Nat):1<=(codes c k).length:=by
 unfold codes
 split
 ·rw [Fe];omega
 ·rw [codesB_len];have:=W_lo c;omega
theorem codes_hi (c:Int) (k:Nat):(codes c k).length<=12:=by
 unfold codes
 split
 ·rw [Fe];omega
 ·rw [codesB_len];have:=W_hi c;omega
theorem codes_letters (c:Int) (k:Nat):∀ x∈codes c k,97<=x/\x<=122:=by
 intro x hx
 have key:∃ i,x=Dk i:=by
  unfold codes at hx
  split at hx
  ·unfold codesA at hx
   exact ⟨_,(List.mem_replicate.mp hx).2⟩
  ·unfold codesB at hx
   rcases List.mem_append.mp hx with hx | hx
   ·rcases List.mem_append.mp hx with hx | hx
    ·obtain ⟨j,_,rfl⟩:=List.mem_map.mp hx
     exact ⟨_,rfl⟩
    ·rw [List.mem_singleton.mp hx]
     exact ⟨_,rfl⟩
   ·obtain ⟨j,_,rfl⟩:=List.mem_map.mp hx
    exact ⟨_,rfl⟩
 obtain ⟨i,rfl⟩:=key
 exact ⟨letter_lo i,letter_hi i⟩
theorem codes_inj {c:Int} {k k':Nat} (hk:k < 12) (hk':k' < 12) (h:codes c k=codes c k'):k=k':=by
 unfold codes at h
 split at h
 ·have e:=congrArg List.length h
  rw [Fe,Fe] at e
  omega
 ·unfold codesB at h
  rw [List.append_assoc,List.append_assoc] at h
  have h1:=List.append_cancel_left h
  rw [List.singleton_append,List.singleton_append] at h1
  exact one_inj hk hk' (List.cons.inj h1).1
end Nm
namespace Sy
open PySem PySem.Spec L2 FL
theorem AQ {g h:FS->SO} {fs fs':FS} (e:g fs=.nx fs'):AL g h fs=h fs':=by unfold AL;rw [e]
abbrev vl (t:T):Option Sl:=some (.val t)
abbrev iv (i:Int):Option Sl:=some (.val (.int i))
def Fre:Option Sl->Prop
 | some (.bor _)=>False
 | _=>True
theorem Au:Fre none:=True.intro
theorem AS {t:T}:Fre (vl t):=True.intro
theorem AR {fs:FS} {i:Nat} {t:T} {x:Option Sl} (e:fs[i]?=some x) (h:Fre x):stSl i (.t t) fs=some (fs.set i (vl t)):=by
 unfold stSl
 rw [e]
 cases x with
 | none=>rfl
 | some s=>cases s with
  | val t=>rfl
  | own o=>rfl
  | bor o=>exact h.elim
theorem Dp {fe:FS->Out Rv} {f:T->T} {rest:FS}:∀ (ts:List T) (x:Option Sl) (acc:List T),Fre x->(∀ t∈ts,fe (vl t :: rest)=.ok (.t (f t)) (vl t :: rest))->acc.length+ts.length<=big ->
  ∃ y,Fre y/\Fg (tgN 0) EZ fe ts (x :: rest) acc=some (acc++ts.map f,y :: rest)
 | [],x,acc,hx,_,_=>⟨x,hx,by simp [Fg]⟩
 | t :: ts,x,acc,hx,h,hl=>by
  obtain ⟨y,hy,e⟩:=Dp ts (vl t) (acc++[f t]) AS (fun t' m=>h t' (List.mem_cons_of_mem _ m)) (by simp at hl ⊢;omega)
  refine ⟨y,hy,?_⟩
  have h1:tgN 0 t (x :: rest)=some (vl t :: rest):=by
   unfold tgN
   rw [AR (x:=x) rfl hx]
   rfl
  have h2:=h t List.mem_cons_self
  have h3:acc.length < big:=by simp at hl;omega
  simp only [Fg,h1,EZ,h2,if_pos h3,e]
  simp
theorem Bx {gt:T->FS->Option FS} {body:FS->SO} (P:List T->FS->Prop) (step:∀ t ts fs,P (t :: ts) fs->∃ fs1 fs2,gt t fs=some fs1/\body fs1=.nx fs2/\P ts fs2):∀ (ts:List T) (fs:FS),P ts fs->∃ fs',Ei gt body ts fs=.nx fs'/\P [] fs'
 | [],fs,h=>⟨fs,rfl,h⟩
 | t :: ts,fs,h=>by
  obtain ⟨fs1,fs2,e1,e2,h2⟩:=step t ts fs h
  obtain ⟨fs',e,hp⟩:=Bx P step ts fs2 h2
  exact ⟨fs',by simp only [Ei,e1,e2,e],hp⟩
theorem Eh:∀ ns:List Int,Dy (ns.map T.int)=some ns
 | []=>rfl
 | n :: ns=>by simp [Dy,Eh ns]
def IsI (t:T) (ns:List Int):Prop:=t=.scr (ns.map T.int)∨t=.lst (ns.map T.int)
theorem IsI.seq {t:T} {ns:List Int} (h:IsI t ns) (fs:FS):Dt fs (.t t)=some (ns.map T.int):=by rcases h with rfl | rfl <;> rfl
theorem range_in {a j c:Int} {i:Nat} (hc:0 < c) (h:i < (Builtin.Range.rangeSize a j c).toNat):a+i * c < j:=by
 unfold Builtin.Range.rangeSize at h
 rw [if_pos hc] at h
 by_cases haj:a < j
 ·rw [if_pos haj] at h
  have h2:(i:Int)<=(j - a - 1) / c:=by omega
  have h3:=(Int.le_ediv_iff_mul_le hc).mp h2
  omega
 ·rw [if_neg haj] at h
  simp at h
theorem range_nn {a j c:Int} (hc:0 < c):0<=Builtin.Range.rangeSize a j c:=by
 unfold Builtin.Range.rangeSize
 rw [if_pos hc]
 by_cases haj:a < j
 ·rw [if_pos haj]
  have:0<=(j - a - 1) / c:=Int.ediv_nonneg (by omega) (by omega)
  omega
 ·rw [if_neg haj]
  exact Int.le_refl 0
theorem Hi {a j c:Int} (hc:0 < c) (h0:0<=a) (h:j<=63):(Builtin.Range.rangeSize a j c).toNat<=63:=by
 unfold Builtin.Range.rangeSize
 rw [if_pos hc]
 by_cases haj:a < j
 ·rw [if_pos haj]
  have:(j - a - 1) / c<=j - a - 1:=Int.ediv_le_self _ (by omega)
  omega
 ·rw [if_neg haj]
  simp
theorem small_few {a b c:Int} (a0:0<=a) (a1:a<=1000) (b0:0<=b) (b1:b<=63) (c0:1<=c) (c1:c<=1000):Builtin.Range.small a b c=true:=by
 have h1:=range_nn (a:=a) (j:=b) (c:=c) (by omega)
 have h2:=Hi (a:=a) (j:=b) (c:=c) (by omega) a0 b1
 unfold Builtin.Range.small
 simp only [Builtin.Range.rangeFitsLong,Bool.and_eq_true,Bool.or_eq_true,decide_eq_true_eq,beq_iff_eq,show c > 0 by omega,if_true]
 omega
section
variable {i j:Int} {fs:FS}
theorem Bh:AF (.t (.int i)) (.t (.int j)) fs=.ok (.t (.int (i+j))) fs:=rfl
theorem Fq:Cv (.t (.int i)) (.t (.int j)) fs=.ok (.t (.int (i - j))) fs:=rfl
theorem Cw (h:0 < j):Cu (.t (.int i)) (.t (.int j)) fs=.ok (.t (.int (i % j))) fs:=if_pos h
theorem FK (h:0 < j/\j < 1073741824):EO (.t (.int i)) (.t (.int j)) fs=.ok (.t (.int (i / j))) fs:=if_pos h
theorem EN (h:-(2 ^ 64) < i/\i < 2 ^ 64):Bt (.t (.int i)) (.t (.int j)) fs=.ok (.t (.int (i * j))) fs:=by
 have e:gMul (.t (.int i)) (.t (.int j)) fs=.ok (.t (.int (i * j))) fs:=if_pos (by rw [decide_eq_true h];rfl)
 unfold Bt orG
 rw [e]
theorem gMulU_b (h:Builtin.Int.intBits i<=2 ^ 26/\Builtin.Int.intBits j<=2 ^ 26):Bt (.t (.int i)) (.t (.int j)) fs=.ok (.t (.int (i * j))) fs:=by
 have e:gMul (.t (.int i)) (.t (.int j)) fs=.ok (.t (.int (i * j))) fs:=if_pos (by rw [decide_eq_true h.1,decide_eq_true h.2];simp)
 unfold Bt orG
 rw [e]
end
theorem BJ {x:Rv} {ts:List T} {i:Int} {t:T} {fs:FS} (h:Dt fs x=some ts) (e:atI ts i=some t):AH x (.t (.int i)) fs=.ok (.t t) fs:=by
 have e':gIx x (.t (.int i)) fs=.ok (.t t) fs:=by
  simp only [gIx,h,e,okT]
 unfold AH orG
 rw [e']
theorem gIxU_I {t:T} {ns:List Int} {i:Int} {fs:FS} (h:IsI t ns) (h0:0<=i) (h1:i < ns.length):AH (.t t) (.t (.int i)) fs=.ok (.t (.int (ns.getD i.toNat 0))) fs:=by
 refine BJ (h.seq fs) ?_
 have e:(ns.map T.int)[i.toNat]?=some (T.int (ns.getD i.toNat 0)):=by
  have:i.toNat < ns.length:=by omega
  simp [this]
 have:=AD e
 rwa [Int.toNat_of_nonneg h0] at this
theorem place_none {fs:FS} {j:Nat}:∀ {is:List Ini} {k:Nat},(∀ i∈is,DR fs i=none)->FL.placeOf fs j is k=none
 | [],_,_=>rfl
 | i :: is,k,h=>by
  simp only [FL.placeOf]
  rw [h i List.mem_cons_self,if_neg (by simp)]
  exact place_none fun i' m=>h i' (List.mem_cons_of_mem _ m)
theorem backL_none {fs:FS} {is:List Ini} {τ:FS} (h:∀ i∈is,DR fs i=none):∀ (gs:FS) (j:Nat),backL fs is τ j gs=some gs
 | [],_=>rfl
 | g :: gs,j=>by
  simp only [backL,back1,place_none h,backL_none h gs (j+1)]
theorem AZ {fs:FS} {is:List Ini} {τ:FS} (h:Dd fs is=[]):backF is τ fs=some fs:=backL_none (List.filterMap_eq_nil_iff.mp h) fs 0
theorem D2 {src:List (Option Nat)} {fi:FS->Out (List T)} {gt:T->FS->Option FS} {ft:FS->Out Bool} {fe:FS->Out Rv} {fs fs':FS} {ts vs:List T} {τ:FS} (h1:fi fs=.ok ts fs) (h2:(Dd fs (src.map fun o=>o.elim Ini.no Ini.slot)).Nodup/\(src.all fun o=>o.elim true fun j=>decide (j < fs.length))=true)
  (h3:Fg gt ft fe ts (EM fs (src.map fun o=>o.elim Ini.no Ini.slot)) []=some (vs,τ)) (h4:backF (src.map fun o=>o.elim Ini.no Ini.slot) τ fs=some fs'):Cp false src fi gt ft fe fs=.ok (.t (.lst vs)) fs':=by
 unfold Cp
 rw [h1]
 simp only [Out.bind]
 rw [if_pos h2,h3]
 dsimp only
 rw [h4]
 rfl
theorem range3_ok {a j c:Int} {fs:FS} {fa:FS->Out (List Rv)} (e:fa fs=.ok [.t (.int a),.t (.int j),.t (.int c)] fs) (a0:0<=a) (a1:a<=1000) (b0:0<=j) (b1:j<=63) (c0:1<=c) (c1:c<=1000):itR3 fa fs=.ok (upBy a c (Builtin.Range.rangeSize a j c).toNat) fs:=by
 unfold itR3
 rw [e]
 simp only [Out.bind]
 exact if_pos ⟨by omega,by omega,small_few a0 a1 b0 b1 c0 c1,range_nn (by omega)⟩
theorem drawn {t:T} {ns:List Int} (ht:IsI t ns) {a b:Int} (a0:0<=a) (a1:a<=1000) (b0:1<=b) (b1:b<=1000) (more:FS) :
  ∃ zs:List Int,(zs.length<=63/\∀ z∈zs,∃ i,z=ns.getD i 0)/\Al gSum (Ac (Cp false [none,some 0] (itR3 (Ac (Aa 1) (Ac (Al Gv (Ac (Al Bm (Ac (Aa 0) Am)) (Ac (gc (.int 63)) Am))) (Ac (Aa 2) Am)))) (tgN 0) EZ (Ag AH (Aa 1) (fz (Aa 0)))) Am) (vl t :: iv a :: iv b :: more)=.ok (.t (.int zs.sum)) (vl t :: iv a :: iv b :: more):=by
 have hj:∃ j:Int,0<=j/\j<=63/\j<=ns.length/\(Ac (Aa 1) (Ac (Al Gv (Ac (Al Bm (Ac (Aa 0) Am)) (Ac (gc (.int 63)) Am))) (Ac (Aa 2) Am))) (vl t :: iv a :: iv b :: more)=.ok [.t (.int a),.t (.int j),.t (.int b)] (vl t :: iv a :: iv b :: more):=by
  refine ⟨if (63:Int) < ((ns.map T.int).length:Int) then 63 else ((ns.map T.int).length:Int),?_,?_,?_,?_⟩
  ·split <;> omega
  ·split <;> omega
  ·rw [List.length_map];split <;> omega
  ·rcases ht with rfl | rfl <;> rfl
 obtain ⟨j,j0,j1,j2,ej⟩:=hj
 have e1:=range3_ok ej a0 a1 j0 j1 b0 b1
 obtain ⟨y,hy,e2⟩:=Dp (fe:=Ag AH (Aa 1) (fz (Aa 0))) (f:=fun t'=>match t' with | .int i=>.int (ns.getD i.toNat 0) | _=>.non) (rest:=[vl t]) (upBy a b (Builtin.Range.rangeSize a j b).toNat) none [] Au (fun t' m=>by
   unfold upBy at m
   rw [List.mem_map] at m
   obtain ⟨k,mk,rfl⟩:=m
   have hk:=range_in (a:=a) (j:=j) (c:=b) (i:=k) (by omega) (List.mem_range.mp mk)
   have hp:0<=(k:Int) * b:=Int.mul_nonneg (by omega) (by omega)
   simp only [AL,AY,Bi,retS,nxS,ifS,SO.of,Ag,Aa,gc,fz,Ac,Ad,Am,Al,AE,allT,Ba,CY,Ek,A0,GK,Out.bnd,Out.bind,stSl,putSl,okT,asB,DZ,andT,orT,Ew,Option.map_some,Option.bind_some,Option.isSome_some,List.getElem?_cons_zero,List.getElem?_cons_succ,List.set_cons_zero,List.set_cons_succ,List.length_cons,List.length_nil,List.length_map,if_true,if_false,Bool.false_eq_true,FL.A9,FL.putAt,FL.Sl.put,gIxU_I ht (i:=a+(k:Int) * b) (by omega) (by omega)]) (by
   have:=Hi (a:=a) (j:=j) (c:=b) (by omega) a0 j1
   unfold upBy
   rw [List.length_map,List.length_range]
   show 0+_<=1000000
   omega)
 have e3:Cp false [none,some 0] (itR3 (Ac (Aa 1) (Ac (Al Gv (Ac (Al Bm (Ac (Aa 0) Am)) (Ac (gc (.int 63)) Am))) (Ac (Aa 2) Am)))) (tgN 0) EZ (Ag AH (Aa 1) (fz (Aa 0))) (vl t :: iv a :: iv b :: more)=.ok (.t (.lst _)) (vl t :: iv a :: iv b :: more) :=
  D2 e1 ⟨by rw [show Dd (vl t :: iv a :: iv b :: more) _=[] from rfl];exact List.nodup_nil,by simp⟩ e2 (AZ rfl)
 refine ⟨(List.range (Builtin.Range.rangeSize a j b).toNat).map fun (k:Nat)=>ns.getD (a+(k:Int) * b).toNat 0,⟨by
  rw [List.length_map,List.length_range]
  exact Hi (a:=a) (j:=j) (c:=b) (by omega) a0 j1,fun z m=>by
  rw [List.mem_map] at m
  obtain ⟨k,_,rfl⟩:=m
  exact ⟨_,rfl⟩⟩,?_⟩
 have e4:(upBy a b (Builtin.Range.rangeSize a j b).toNat).map (fun t'=>match t' with | .int i=>T.int (ns.getD i.toNat 0) | _=>.non)=((List.range (Builtin.Range.rangeSize a j b).toNat).map fun (k:Nat)=>ns.getD (a+(k:Int) * b).toNat 0).map T.int:=by
  unfold upBy
  rw [List.map_map,List.map_map]
  rfl
 rw [List.nil_append,e4] at e3
 simp only [Al,Ac,e3,Out.bnd,Out.bind,Am,gSum,Dt,Option.bind_some,Eh,okT]
theorem upTo_cons {n:Nat}:∀ t∈FL.upTo 0 n,∃ i:Int,t=.int i:=fun t m=>by
 unfold FL.upTo at m
 rw [List.mem_map] at m
 obtain ⟨k,_,rfl⟩:=m
 exact ⟨_,rfl⟩
theorem digits {t:T} {ns:List Int} (ht:IsI t ns) {a b:Int} (a0:0<=a) (a1:a<=1000) (b0:1<=b) (b1:b<=1000) :
  ∃ ds:List Int,ds.length=150/\Dn [vl t,iv a,iv b]=.ok (.nw (.lst (ds.map T.int))) [vl t,iv a,iv b]:=by
 obtain ⟨zs,_,e1⟩:=drawn ht a0 a1 b0 b1 [none,none,none,none,none]
 generalize zs.sum=D at e1
 have hloop:=Bx (gt:=tgN 7) (body:=(AL (AY 5 (Ag Cu (Ag AF (Ag AF (Ag Bt (Aa 5) (Aa 5)) (Aa 3)) (Aa 7)) (gc (.int 2147483629))))
  (AL (Bi (A0 Ex (Aa 4) (Ac (Ag Cu (Ag AH (AE CY (Ac (fz (Aa 6)) (Ac (Ag Cu (Ag Bt (Aa 5) (Aa 5)) (gc (.int 2147483587))) Am))) (Ag Cu (Aa 3) (gc (.int 2)))) (gc (.int 1000003))) Am)))
  (AY 6 (Ag EO (Aa 6) (gc (.int 1000003)))))))
  (fun ts fs=>∃ (ds:List Int) (f r:Int) (x:Option Sl),fs=[vl t,iv a,iv b,iv D,some (.own (.lst (ds.map T.int))),iv f,iv r,x]/\0<=f/\f < 2147483629/\ds.length+ts.length=150/\Fre x/\∀ t∈ts,∃ i:Int,t=.int i) (fun t' ts fs h=>?_) (FL.upTo 0 150) [vl t,iv a,iv b,iv D,some (.own (.lst [])),iv (D % 2147483629),iv (D / 2),none]
  ⟨[],_,_,_,rfl,Int.emod_nonneg _ (by decide),Int.emod_lt_of_pos _ (by decide),by simp [FL.upTo],Au,upTo_cons⟩
 ·obtain ⟨fs',ef,ds,f,r,x,rfl,_,_,hl,_,_⟩:=hloop
  refine ⟨ds.reverse,by rw [List.length_reverse];simpa using hl,?_⟩
  have s1:AY 3 (Al gSum (Ac (Cp false [none,some 0] (itR3 (Ac (Aa 1) (Ac (Al Gv (Ac (Al Bm (Ac (Aa 0) Am)) (Ac (gc (.int 63)) Am))) (Ac (Aa 2) Am)))) (tgN 0) EZ (Ag AH (Aa 1) (fz (Aa 0)))) Am)) [vl t,iv a,iv b,none,none,none,none,none]=.nx [vl t,iv a,iv b,iv D,none,none,none,none]:=by
   unfold AY
   rw [e1]
   rfl
  have s5:Df (itR1 (Ac (gc (.int 150)) Am)) (tgN 7) (AL (AY 5 (Ag Cu (Ag AF (Ag AF (Ag Bt (Aa 5) (Aa 5)) (Aa 3)) (Aa 7)) (gc (.int 2147483629))))
  (AL (Bi (A0 Ex (Aa 4) (Ac (Ag Cu (Ag AH (AE CY (Ac (fz (Aa 6)) (Ac (Ag Cu (Ag Bt (Aa 5) (Aa 5)) (gc (.int 2147483587))) Am))) (Ag Cu (Aa 3) (gc (.int 2)))) (gc (.int 1000003))) Am)))
  (AY 6 (Ag EO (Aa 6) (gc (.int 1000003)))))) [vl t,iv a,iv b,iv D,some (.own (.lst [])),iv (D % 2147483629),iv (D / 2),none]=.nx [vl t,iv a,iv b,iv D,some (.own (.lst (ds.map T.int))),iv f,iv r,x]:=ef
  have all:EW [vl t,iv a,iv b,none,none,none,none,none]=.ret (.nw (.lst (ds.reverse.map T.int))) [vl t,iv a,iv b,iv D,some (.own (.lst (ds.map T.int))),iv f,iv r,x]:=by
   unfold EW
   rw [AQ s1,AQ (show AY 4 (AE Ek Am) [vl t,iv a,iv b,iv D,none,none,none,none]=.nx [vl t,iv a,iv b,iv D,some (.own (.lst [])),none,none,none] from rfl),
    AQ (show AY 5 (Ag Cu (Aa 3) (gc (.int 2147483629))) [vl t,iv a,iv b,iv D,some (.own (.lst [])),none,none,none]=.nx [vl t,iv a,iv b,iv D,some (.own (.lst [])),iv (D % 2147483629),none,none] from rfl),
    AQ (show AY 6 (Ag EO (Aa 3) (gc (.int 2))) [vl t,iv a,iv b,iv D,some (.own (.lst [])),iv (D % 2147483629),none,none]=.nx [vl t,iv a,iv b,iv D,some (.own (.lst [])),iv (D % 2147483629),iv (D / 2),none] from rfl),AQ s5]
   rw [List.map_reverse]
   rfl
  unfold Dn CV
  show (match EW [vl t,iv a,iv b,none,none,none,none,none] with | .nx τ=>_ | .ret (.t t) τ=>_ | .ret (.nw o) τ=>_ | .ret (.rf i) τ=>_ | .exc c τ=>_ | _=>_)=_
  rw [all]
  rfl
 ·obtain ⟨ds,f,r,x,rfl,f0,f1,hl,hx,hi⟩:=h
  obtain ⟨k,rfl⟩:=hi t' List.mem_cons_self
  have hg:tgN 7 (.int k) [vl t,iv a,iv b,iv D,some (.own (.lst (ds.map T.int))),iv f,iv r,x]=some [vl t,iv a,iv b,iv D,some (.own (.lst (ds.map T.int))),iv f,iv r,iv k]:=by
   unfold tgN
   rw [AR (x:=x) rfl hx]
   rfl
  have eA:AY 5 (Ag Cu (Ag AF (Ag AF (Ag Bt (Aa 5) (Aa 5)) (Aa 3)) (Aa 7)) (gc (.int 2147483629))) [vl t,iv a,iv b,iv D,some (.own (.lst (ds.map T.int))),iv f,iv r,iv k]=.nx [vl t,iv a,iv b,iv D,some (.own (.lst (ds.map T.int))),iv ((f * f+D+k) % 2147483629),iv r,iv k]:=by
   simp only [AL,AY,Bi,retS,nxS,ifS,SO.of,Ag,Aa,gc,fz,Ac,Ad,Am,Al,AE,allT,Ba,CY,Ek,A0,GK,Out.bnd,Out.bind,stSl,putSl,okT,asB,DZ,andT,orT,Ew,Option.map_some,Option.bind_some,Option.isSome_some,List.getElem?_cons_zero,List.getElem?_cons_succ,List.set_cons_zero,List.set_cons_succ,List.length_cons,List.length_nil,List.length_map,if_true,if_false,Bool.false_eq_true,FL.A9,FL.putAt,FL.Sl.put,EN (i:=f) (j:=f) ⟨by omega,by omega⟩,Bh,Cw (show (0:Int) < 2147483629 by decide)]
  have f0':0<=(f * f+D+k) % 2147483629:=Int.emod_nonneg _ (by decide)
  have f1':(f * f+D+k) % 2147483629 < 2147483629:=Int.emod_lt_of_pos _ (by decide)
  generalize (f * f+D+k) % 2147483629=f' at eA f0' f1'
  have hz:∃ z,atI [T.int r,T.int (f' * f' % 2147483587)] (D % 2)=some (T.int z):=by
   have h:D % 2=((0:Nat):Int)∨D % 2=((1:Nat):Int):=by omega
   rcases h with h | h
   ·rw [h];exact ⟨r,AD rfl⟩
   ·rw [h];exact ⟨_,AD rfl⟩
  obtain ⟨z,ez⟩:=hz
  have hlen:ds.length < big:=by
   simp at hl
   show ds.length < 1000000
   omega
  have eB:Bi (A0 Ex (Aa 4) (Ac (Ag Cu (Ag AH (AE CY (Ac (fz (Aa 6)) (Ac (Ag Cu (Ag Bt (Aa 5) (Aa 5)) (gc (.int 2147483587))) Am))) (Ag Cu (Aa 3) (gc (.int 2)))) (gc (.int 1000003))) Am)) [vl t,iv a,iv b,iv D,some (.own (.lst (ds.map T.int))),iv f',iv r,iv k]=.nx [vl t,iv a,iv b,iv D,some (.own (.lst ((ds++[z % 1000003]).map T.int))),iv f',iv r,iv k]:=by
   simp only [AL,AY,Bi,retS,nxS,ifS,SO.of,Ag,Aa,gc,fz,Ac,Ad,Am,Al,AE,allT,Ba,CY,Ek,A0,GK,Out.bnd,Out.bind,stSl,putSl,okT,asB,DZ,andT,orT,Ew,Option.map_some,Option.bind_some,Option.isSome_some,List.getElem?_cons_zero,List.getElem?_cons_succ,List.set_cons_zero,List.set_cons_succ,List.length_cons,List.length_nil,List.length_map,if_true,if_false,Bool.false_eq_true,FL.A9,FL.putAt,FL.Sl.put,EN (i:=f') (j:=f') ⟨by omega,by omega⟩,Cw (show (0:Int) < 2147483587 by decide),Cw (show (0:Int) < 2 by decide),BJ (x:=.t (.lst [T.int r,T.int (f' * f' % 2147483587)])) rfl ez,Cw (show (0:Int) < 1000003 by decide),Dt,Ex,hlen,show (0+1+1<=big) from by decide]
   simp
  have eC:AY 6 (Ag EO (Aa 6) (gc (.int 1000003))) [vl t,iv a,iv b,iv D,some (.own (.lst ((ds++[z % 1000003]).map T.int))),iv f',iv r,iv k]=.nx [vl t,iv a,iv b,iv D,some (.own (.lst ((ds++[z % 1000003]).map T.int))),iv f',iv (r / 1000003),iv k]:=rfl
  refine ⟨_,_,hg,?_,ds++[z % 1000003],f',r / 1000003,iv k,rfl,f0',f1',by simp at hl ⊢;omega,AS,fun t' m=>hi t' (List.mem_cons_of_mem _ m)⟩
  rw [AQ eA,AQ eB]
  exact eC
def nmS (c:Int) (k:Nat):Str:=⟨(Nm.codes c k).toArray⟩
def nms (c:Int) (n:Nat):List Str:=(List.range n).map (nmS c)
def ABC:Str:="abcdefghijklmnopqrstuvwxyz"
theorem abc_at:∀ j,j < 26->ABC.cps.toList[j]?=some (97+j):=by decide +kernel
theorem at_letter (x:Int):atI ABC.cps.toList (x % 26)=some (Nm.Dk x):=by
 have h:(x % 26).toNat < 26:=by omega
 have e:=AD (abc_at _ h)
 rw [Int.toNat_of_nonneg (by omega)] at e
 exact e
theorem join_codes:∀ ys:List Str,(Str.join (⟨#[]⟩:Str) ys).cps.toList=(ys.map fun y=>y.cps.toList).flatten
 | []=>rfl
 | [x]=>by simp [Str.join]
 | x :: y :: r=>by
  have ih:=join_codes (y :: r)
  show (x++(⟨#[]⟩:Str)++Str.join ⟨#[]⟩ (y :: r)).cps.toList=_
  show (x.cps++#[]++(Str.join ⟨#[]⟩ (y :: r)).cps).toList=_
  rw [List.map_cons,List.flatten_cons,<- ih]
  simp
theorem join_ones (f:Nat->Nat) (js:List Nat):(Txt.join (⟨#[]⟩:Str) (js.map fun j=>(⟨#[f j]⟩:Str))).cps.toList=js.map f:=by
 show (Builtin.Str.glued _ _).cps.toList=_
 rw [StrLaws.glued_eq_join,join_codes]
 induction js with
 | nil=>rfl
 | cons j r ih =>
  rw [List.map_cons,List.map_cons,List.flatten_cons,ih,List.map_cons]
  rfl
theorem str_ext {x y:Str} (h:x.cps.toList=y.cps.toList):x=y:=by
 obtain ⟨a⟩:=x
 obtain ⟨b⟩:=y
 have:a=b:=by simpa using h
 rw [this]
theorem mul_codes (c:Nat) (n:Int) (h0:1<=n):(Txt.mul (⟨#[c]⟩:Str) n).cps.toList=List.replicate n.toNat c:=by
 unfold Txt.mul
 rw [if_neg (by omega)]
 by_cases h1:n=1
 ·subst h1
  rfl
 ·rw [if_neg (by simp [h1,Str.length])]
  have key:∀ (m:Nat) (acc:Array Nat),((List.replicate m #[c]).foldl (·++·) acc).toList=acc.toList++List.replicate m c:=by
   intro m
   induction m with
   | zero=>intro acc;simp
   | succ m ih =>
    intro acc
    rw [List.replicate_succ,List.foldl_cons,ih,List.replicate_succ]
    simp
  have:=key n.toNat #[]
  simpa using this
theorem empty_str:Str.ofString ""=(⟨#[]⟩:Str):=by decide +kernel
theorem ones_len (f:Nat->Nat) (js:List Nat):((js.map fun j=>(⟨#[f j]⟩:Str)).map (·.length)).sum=js.length:=by
 induction js with
 | nil=>rfl
 | cons j r ih =>
  rw [List.map_cons,List.map_cons,List.sum_cons,ih,List.length_cons]
  show 1+r.length=_
  omega
theorem join_len (f:Nat->Nat) (js:List Nat):(Txt.join (⟨#[]⟩:Str) (js.map fun j=>(⟨#[f j]⟩:Str))).length=js.length:=by
 have e:=congrArg List.length (join_ones f js)
 rw [List.length_map] at e
 rw [<- e]
 simp [Str.length]
def CO (c:Int) (n:Nat):List Str:=(List.range n).map fun j=>(⟨#[Nm.base c j]⟩:Str)
theorem baseL_take (c:Int) (n k:Nat) (h:k<=n):(CO c n).take k=CO c k:=by
 unfold CO
 rw [<- List.map_take,List.take_range,Nat.min_eq_left h]
theorem baseL_drop (c:Int) (n k:Nat):(CO c n).drop k=(List.range (n - k)).map fun j=>(⟨#[Nm.base c (k+j)]⟩:Str):=by
 unfold CO
 rw [<- List.map_drop]
 apply List.ext_getElem?
 intro i
 rw [List.getElem?_map,List.getElem?_map,List.getElem?_drop]
 by_cases hi:k+i < n
 ·rw [List.getElem?_range hi,List.getElem?_range (by omega)]
  rfl
 ·rw [List.getElem?_eq_none (by simp;omega),List.getElem?_eq_none (by simp;omega)]
  rfl
theorem gMulU_r {i j:Int} {fs:FS} (h:-(2 ^ 64) < j/\j < 2 ^ 64):Bt (.t (.int i)) (.t (.int j)) fs=.ok (.t (.int (i * j))) fs:=by
 have e:gMul (.t (.int i)) (.t (.int j)) fs=.ok (.t (.int (i * j))) fs:=if_pos (by rw [decide_eq_true h];simp)
 unfold Bt orG
 rw [e]
theorem gMulU_s {z:Str} {n:Int} {fs:FS} (h:z.length=1/\1<=n/\n<=1000):Bt (.t (.str z)) (.t (.int n)) fs=.ok (.t (.str (Txt.mul z n))) fs:=by
 have e:gMulS (.t (.str z)) (.t (.int n)) fs=.ok (.t (.str (Txt.mul z n))) fs:=if_pos h
 have e2:gMul (.t (.str z)) (.t (.int n)) fs=.bad:=rfl
 unfold Bt orG
 rw [e2]
 exact e
theorem gAddU_s {x y:Str} {fs:FS} (h:x.length+y.length<=big):AF (.t (.str x)) (.t (.str y)) fs=.ok (.t (.str (x++y))) fs:=by
 have e:gAddS (.t (.str x)) (.t (.str y)) fs=.ok (.t (.str (x++y))) fs:=if_pos h
 have e2:gAdd (.t (.str x)) (.t (.str y)) fs=.bad:=rfl
 unfold AF orG
 rw [e2]
 dsimp only
 rw [e]
theorem gIxU_str {z:Str} {i:Int} {c:Nat} {fs:FS} (hz:z.length<=big) (e:atI z.cps.toList i=some c):AH (.t (.str z)) (.t (.int i)) fs=.ok (.t (.str ⟨#[c]⟩)) fs:=by
 have e':gIx (.t (.str z)) (.t (.int i)) fs=.ok (.t (.str ⟨#[c]⟩)) fs:=by
  simp only [gIx,Dt,hz,if_true,e,okT]
 unfold AH orG
 rw [e']
theorem asStrs_map:∀ xs:List Str,Dx (xs.map T.str)=some xs
 | []=>rfl
 | n :: ns=>by simp [Dx,asStrs_map ns]
theorem cutT_take {xs:List T} {v:Int} (h0:0<=v) (h1:v.toNat<=xs.length):cutT xs none (some v)=xs.take v.toNat:=by
 show (xs.drop 0).take ((if v < 0 then (v+(xs.length:Int)).toNat else min v.toNat xs.length) - 0)=_
 rw [if_neg (by omega),Nat.min_eq_left h1]
 simp
theorem cutT_drop {xs:List T} {v:Int} (h0:0<=v) (h1:v.toNat<=xs.length):cutT xs (some v) none=xs.drop v.toNat:=by
 show (xs.drop (if v < 0 then (v+(xs.length:Int)).toNat else min v.toNat xs.length)).take (xs.length - (if v < 0 then (v+(xs.length:Int)).toNat else min v.toNat xs.length))=_
 rw [if_neg (by omega),Nat.min_eq_left h1]
 exact List.take_of_length_le (by rw [List.length_drop];omega)
theorem at_stepT (c:Int):atI [T.int 1,T.int 3,T.int 5,T.int 7,T.int 9,T.int 11] (Nm.M c / 144 % 6)=some (T.int (Nm.step c)):=by
 have h:Nm.stepI c < 6:=by unfold Nm.stepI;omega
 have e:([T.int 1,T.int 3,T.int 5,T.int 7,T.int 9,T.int 11]:List T)[Nm.stepI c]?=some (T.int (Nm.step c)):=by
  unfold Nm.step
  generalize Nm.stepI c=i at h
  match i,h with
  | 0,_=>rfl
  | 1,_=>rfl
  | 2,_=>rfl
  | 3,_=>rfl
  | 4,_=>rfl
  | 5,_=>rfl
 have e2:=AD e
 unfold Nm.stepI at e2
 rwa [Int.toNat_of_nonneg (by omega)] at e2
theorem abc_big:ABC.length<=big:=by decide +kernel
theorem join_ok {f:Nat->Nat} {js:List Nat} {fs:FS} (h:js.length<=1000):HC (.t (.str ("":Str))) [.t (.lst ((js.map fun j=>(⟨#[f j]⟩:Str)).map T.str))] fs=.ok (.t (.str (Txt.join (⟨#[]⟩:Str) (js.map fun j=>(⟨#[f j]⟩:Str))))) fs:=by
 have e0:("":Str).length=0:=by decide +kernel
 simp only [HC,Dt,Option.bind_some,asStrs_map,ones_len,e0,Nat.mul_zero,Nat.add_zero]
 rw [if_pos (show js.length<=big from Nat.le_trans h (by decide)),show ("":Str)=(⟨#[]⟩:Str) from empty_str]
 simp only [okT]
theorem Hj {j:Int} {fs:FS} {fa:FS->Out (List Rv)} (e:fa fs=.ok [.t (.int j)] fs) (h:-(2 ^ 62)<=j/\j < 2 ^ 62):itR1 fa fs=.ok (FL.upTo 0 j.toNat) fs:=by
 unfold itR1
 rw [e]
 simp only [Out.bind]
 exact if_pos h
theorem Af {g:Rv->Rv->FS->Out Rv} {fa fb:FS->Out Rv} {fs:FS} {x y:T} {r:Out Rv} (h1:fa fs=.ok (.t x) fs) (h2:fb fs=.ok (.t y) fs) (h3:g (.t x) (.t y) fs=r):Ag g fa fb fs=r:=by
 unfold Ag
 rw [h1]
 show (fb fs).bnd _=r
 rw [h2]
 exact h3
theorem Ab {i:Nat} {fs:FS} {t:T} (h:fs[i]?=some (vl t)):Aa i fs=.ok (.t t) fs:=by unfold Aa;rw [h]
theorem AA {t:T} {fs:FS}:gc t fs=.ok (.t t) fs:=rfl
theorem nm_el {L:Str} (hL2:L.length<=big) (hL:∀ x:Int,atI L.cps.toList (x % 26)=some (Nm.Dk x)) (m:Int) (k:Nat) (hk:k < 12) :
  Ag AH (Aa 1) (Ag Cu (Ag AF (Ag EO (Aa 2) (Ag AF (Aa 0) (gc (.int 5)))) (Ag Bt (Aa 0) (Aa 0))) (gc (.int 26))) [iv (k:Int),vl (.str L),iv m]=.ok (.t (.str ⟨#[Nm.Dk (m / ((k:Int)+5)+(k:Int) * (k:Int))]⟩)) [iv (k:Int),vl (.str L),iv m] :=
 Af (Ab rfl) (Af (Af (Af (Ab rfl) (Af (Ab rfl) AA Bh) (FK ⟨by omega,by omega⟩)) (Af (Ab rfl) (Ab rfl) (EN ⟨by omega,by omega⟩)) Bh) AA (Cw (by decide))) (gIxU_str hL2 (hL _))
theorem Bs {i:Nat} {f:FS->Out Rv} {fs fs':FS} {t:T} (h:f fs=.ok (.t t) fs) (hs:stSl i (.t t) fs=some fs'):AY i f fs=.nx fs':=by
 unfold AY
 rw [h]
 show (match stSl i (.t t) fs with | some fs=>SO.nx fs | none=>.bad)=_
 rw [hs]
theorem AK {f:FS->Out Rv} {g:FS->Out (List Rv)} {fs:FS} {t:T} {rs:List Rv} (h1:f fs=.ok (.t t) fs) (h2:g fs=.ok rs fs):Ac f g fs=.ok (.t t :: rs) fs:=by
 unfold Ac
 rw [h1]
 show (g fs).bind _=_
 rw [h2]
 rfl
theorem Ay {f:FS->Out Rv} {fs:FS} {t:T} (h:f fs=.ok (.t t) fs):fz f fs=.ok (.t t) fs:=by
 unfold fz
 rw [h]
 rfl
theorem DE {g:List Rv->FS->Out Rv} {fa:FS->Out (List Rv)} {fs:FS} {rs:List Rv} {r:Out Rv} (h:fa fs=.ok rs fs) (h2:g rs fs=r):Al g fa fs=r:=by
 unfold Al
 rw [h]
 exact h2
theorem app_ok {i:Nat} {f:FS->Out Rv} {fs fs':FS} {t:T} {ts:List T} (h0:fs[i]?=some (some (.own (.lst ts)))) (h:f fs=.ok (.t t) fs) (hl:ts.length < big) (e:fs.set i (some (.own (.lst (ts++[t]))))=fs'):Bi (A0 Ex (Aa i) (Ac f Am)) fs=.nx fs':=by
 have h1:Aa i fs=.ok (.rf i) fs:=by unfold Aa;rw [h0]
 have h2:FL.A9 fs i=some (.lst ts):=by unfold FL.A9;rw [h0]
 have h3:Dt fs (.rf i)=some ts:=by simp only [Dt,h2]
 have h4:Ac f Am fs=.ok [.t t] fs:=AK h rfl
 have h5:Ex (.rf i) [.t t] fs=.ok (.t .non) fs':=by
  simp only [Ex,h2]
  rw [if_pos hl]
  have:FL.putAt fs i (.lst (ts++[t]))=fs':=by
   unfold FL.putAt
   rw [h0]
   exact e
  rw [this]
 have h6:A0 Ex (Aa i) (Ac f Am) fs=.ok (.t .non) fs':=by
  unfold A0
  rw [h1]
  show (if (Dt fs (.rf i)).isSome=true then _ else _)=_
  rw [h3,if_pos (show (some ts).isSome=true from rfl),h4]
  exact h5
 unfold Bi
 rw [h6]
 rfl
theorem Ff {c:FS->Out Bool} {g h:FS->SO} {fs:FS} {r:SO} (hc:c fs=.ok true fs) (e:g fs=r):ifS c g h fs=r:=by
 unfold ifS
 rw [hc]
 exact e
theorem BW {c:FS->Out Bool} {g h:FS->SO} {fs:FS} {r:SO} (hc:c fs=.ok false fs) (e:h fs=r):ifS c g h fs=r:=by
 unfold ifS
 rw [hc]
 exact e
theorem HH {fa fb:FS->Out Rv} {fs:FS} {i j:Int} (h1:fa fs=.ok (.t (.int i)) fs) (h2:fb fs=.ok (.t (.int j)) fs):asB (Ag (gEq false) fa fb) fs=.ok (decide (i=j)) fs:=by
 have e:gEq false (.t (.int i)) (.t (.int j)) fs=.ok (.t (.bl (decide (i=j)))) fs:=by
  have q:decide (V.int i=V.int j)=decide (i=j):=by
   by_cases h:i=j
   ·subst h;simp
   ·rw [decide_eq_false h,decide_eq_false (by intro z;cases z;exact h rfl)]
  show (if scal (V.int i) (V.int j)=true then okT (.bl (if false=true then _ else decide (V.int i=V.int j))) fs else .bad)=_
  rw [if_pos (show scal (V.int i) (V.int j)=true from rfl),q]
  rfl
 unfold asB
 rw [Af h1 h2 e]
 rfl
theorem FR {fa:FS->Out (List Rv)} {fs:FS} {rs:List Rv} {ts:List T} (h:fa fs=.ok rs fs) (h2:allT rs=some ts) (h3:ts.length<=big):AE CY fa fs=.ok (.t (.lst ts)) fs:=by
 unfold AE
 rw [h]
 show (match allT rs with | some ts=>_ | none=>_)=_
 rw [h2]
 exact if_pos h3
theorem slf_take {f g:FS->Out Rv} {fs:FS} {ts:List T} {v:Int} (h1:f fs=.ok (.t (.lst ts)) fs) (h2:g fs=.ok (.t (.int v)) fs) (h0:0<=v) (hl:v.toNat<=ts.length):slF f noP (EA g) fs=.ok (.t (.lst (ts.take v.toNat))) fs:=by
 unfold slF
 rw [h1]
 show ((EA g) fs).bind _=_
 unfold EA
 rw [h2]
 simp only [Out.bnd,Out.bind]
 simp only [gSlU,Dt,okT]
 rw [cutT_take h0 hl]
theorem slf_drop {f g:FS->Out Rv} {fs:FS} {ts:List T} {v:Int} (h1:f fs=.ok (.t (.lst ts)) fs) (h2:g fs=.ok (.t (.int v)) fs) (h0:0<=v) (hl:v.toNat<=ts.length):slF f (EA g) noP fs=.ok (.t (.lst (ts.drop v.toNat))) fs:=by
 unfold slF
 rw [h1]
 show ((EA g) fs).bind _=_
 unfold EA
 rw [h2]
 simp only [Out.bnd,Out.bind,noP]
 simp only [gSlU,Dt,okT]
 rw [cutT_drop h0 hl]
theorem joinM_ok {f:FS->Out Rv} {fs:FS} {g:Nat->Nat} {js:List Nat} (h:f fs=.ok (.t (.lst ((js.map fun j=>(⟨#[g j]⟩:Str)).map T.str))) fs) (hl:js.length<=1000):fz (GK HC (gc (.str ("":Str))) (Ac f Am)) fs=.ok (.t (.str (Txt.join (⟨#[]⟩:Str) (js.map fun j=>(⟨#[g j]⟩:Str))))) fs:=by
 refine Ay ?_
 have h2:=AK h (show Am fs=.ok [] fs from rfl)
 unfold GK gc
 show ((Ac f Am fs).bind _)=_
 rw [h2]
 exact join_ok hl
theorem nm_base {L:Str} (hL2:L.length<=big) (hL:∀ x:Int,atI L.cps.toList (x % 26)=some (Nm.Dk x)) {c w:Int} (hw0:0<=w) (hw:w<=12) (m a:Int) (hm:m=Nm.M c) (x0 x1 x6 x7 x8 x9 x10:Option Sl) :
  Cp false [none,some 2,some 3] (itR1 (Ac (Aa 4) Am)) (tgN 0) EZ (Ag AH (Aa 1) (Ag Cu (Ag AF (Ag EO (Aa 2) (Ag AF (Aa 0) (gc (.int 5)))) (Ag Bt (Aa 0) (Aa 0))) (gc (.int 26)))) [x0,x1,vl (.str L),iv m,iv w,iv a,x6,x7,x8,x9,x10]=.ok (.t (.lst ((CO c w.toNat).map T.str))) [x0,x1,vl (.str L),iv m,iv w,iv a,x6,x7,x8,x9,x10]:=by
 have e1:=Hj (fa:=Ac (Aa 4) Am) (fs:=[x0,x1,vl (.str L),iv m,iv w,iv a,x6,x7,x8,x9,x10]) (j:=w) (AK (Ab rfl) rfl) ⟨by omega,by omega⟩
 obtain ⟨y,hy,e2⟩:=Dp (fe:=Ag AH (Aa 1) (Ag Cu (Ag AF (Ag EO (Aa 2) (Ag AF (Aa 0) (gc (.int 5)))) (Ag Bt (Aa 0) (Aa 0))) (gc (.int 26)))) (f:=fun t'=>match t' with | .int i=>.str ⟨#[Nm.Dk (m / (i+5)+i * i)]⟩ | _=>.non) (rest:=[vl (.str L),iv m]) (FL.upTo 0 w.toNat) none [] Au (fun t' mt=>by
   unfold FL.upTo at mt
   rw [List.mem_map] at mt
   obtain ⟨k,mk,rfl⟩:=mt
   have hk:=List.mem_range.mp mk
   rw [Int.zero_add]
   exact nm_el hL2 hL m k (by omega)) (by
   unfold FL.upTo
   rw [List.length_map,List.length_range]
   show 0+_<=1000000
   omega)
 have e3:=D2 (src:=[none,some 2,some 3]) e1 ⟨by rw [show Dd [x0,x1,vl (.str L),iv m,iv w,iv a,x6,x7,x8,x9,x10] _=[] from rfl];exact List.nodup_nil,by rfl⟩ e2 (AZ rfl)
 rw [e3,List.nil_append]
 have e4:(FL.upTo 0 w.toNat).map (fun t'=>match t' with | .int i=>T.str ⟨#[Nm.Dk (m / (i+5)+i * i)]⟩ | _=>.non)=(CO c w.toNat).map T.str:=by
  subst hm
  unfold FL.upTo CO
  rw [List.map_map,List.map_map]
  refine List.map_congr_left fun k _=>?_
  simp only [Function.comp_apply,Int.zero_add,Nm.base]
 rw [e4]
theorem nm_turn {L:Str} (hL2:L.length<=big) (hL:∀ x:Int,atI L.cps.toList (x % 26)=some (Nm.Dk x)) {c m w a st n:Int} {i:Nat} (hm:m=Nm.M c) (hw:w=Nm.W c) (ha:a=Nm.At c) (hst:st=Nm.step c) (hi:i < 12) (x10:Option Sl) (hx:Fre x10) :
  ∃ y10,Fre y10/\(AL (AY 10 (Ag AH (Aa 2) (Ag Cu (Ag AF (Ag EO (Aa 3) (gc (.int 864))) (Ag Bt (Aa 9) (Aa 7))) (gc (.int 26)))))
  (ifS (asB (Ag (gEq false) (Ag Cu (Ag EO (Aa 3) (gc (.int 900))) (gc (.int 3))) (gc (.int 1)))) (Bi (A0 Ex (Aa 8) (Ac (Ag Bt (Ag AH (Aa 6) (gc (.int 0))) (Ag AF (Ag Cu (Ag AF (Aa 9) (Ag EO (Aa 3) (gc (.int 7)))) (gc (.int 12))) (gc (.int 1)))) Am))) (Bi (A0 Ex (Aa 8) (Ac (Ag AF (Ag AF (fz (GK HC (gc (.str ("":Str))) (Ac (slF (Aa 6) noP (EA (Aa 5))) Am))) (Aa 10)) (fz (GK HC (gc (.str ("":Str))) (Ac (slF (Aa 6) (EA (Ag AF (Aa 5) (gc (.int 1)))) noP) Am)))) Am)))))
   [iv c,iv n,vl (.str L),iv m,iv w,iv a,vl (.lst ((CO c w.toNat).map T.str)),iv st,some (.own (.lst ((nms c i).map T.str))),iv (i:Int),x10] =
   .nx [iv c,iv n,vl (.str L),iv m,iv w,iv a,vl (.lst ((CO c w.toNat).map T.str)),iv st,some (.own (.lst ((nms c (i+1)).map T.str))),iv (i:Int),y10]:=by
 have w0:=Nm.W_lo c
 have w1:=Nm.W_hi c
 have a0:=Nm.At_lo c
 have a1:=Nm.At_hi c
 rw [<- hw] at w0 w1 a1
 rw [<- ha] at a0 a1
 have hs:-20 < st/\st < 20:=by rw [hst];rcases Nm.step_mem c with e | e | e | e | e | e <;> omega
 have e10:Nm.one c i=Nm.Dk (m / 864+(i:Int) * st):=by rw [hm,hst];rfl
 have elen:((nms c i).map T.str).length < big:=by
  unfold nms
  rw [List.length_map,List.length_map,List.length_range]
  show i < 1000000
  omega
 have enm:∀ z:Str,z.cps.toList=Nm.codes c i->(nms c i).map T.str++[T.str z]=(nms c (i+1)).map T.str:=fun z ez=>by
  unfold nms
  rw [List.range_succ,List.map_append,List.map_append]
  have:z=nmS c i:=str_ext (by rw [ez];simp [nmS])
  rw [this]
  rfl
 refine ⟨vl (.str ⟨#[Nm.one c i]⟩),AS,?_⟩
 have s1:AY 10 (Ag AH (Aa 2) (Ag Cu (Ag AF (Ag EO (Aa 3) (gc (.int 864))) (Ag Bt (Aa 9) (Aa 7))) (gc (.int 26)))) [iv c,iv n,vl (.str L),iv m,iv w,iv a,vl (.lst ((CO c w.toNat).map T.str)),iv st,some (.own (.lst ((nms c i).map T.str))),iv (i:Int),x10] =
   .nx [iv c,iv n,vl (.str L),iv m,iv w,iv a,vl (.lst ((CO c w.toNat).map T.str)),iv st,some (.own (.lst ((nms c i).map T.str))),iv (i:Int),vl (.str ⟨#[Nm.one c i]⟩)]:=by
  rw [e10]
  exact Bs (Af (Ab rfl) (Af (Af (Af (Ab rfl) AA (FK ⟨by decide,by decide⟩)) (Af (Ab rfl) (Ab rfl) (EN ⟨by omega,by omega⟩)) Bh) AA (Cw (by decide))) (gIxU_str hL2 (hL _))) (AR rfl hx)
 rw [AQ s1]
 have hc:=HH (fa:=Ag Cu (Ag EO (Aa 3) (gc (.int 900))) (gc (.int 3))) (fb:=gc (.int 1)) (fs:=[iv c,iv n,vl (.str L),iv m,iv w,iv a,vl (.lst ((CO c w.toNat).map T.str)),iv st,some (.own (.lst ((nms c i).map T.str))),iv (i:Int),vl (.str ⟨#[Nm.one c i]⟩)])
  (Af (Af (Ab (t:=.int m) rfl) AA (FK ⟨by decide,by decide⟩)) AA (Cw (by decide))) AA
 by_cases h1:m / 900 % 3=1
 ·rw [decide_eq_true h1] at hc
  have hwn:0 < w.toNat:=by omega
  have eb:((CO c w.toNat).map T.str)[0]?=some (T.str ⟨#[Nm.base c 0]⟩):=by
   unfold CO
   rw [List.map_map,List.getElem?_map,List.getElem?_range hwn]
   rfl
  refine Ff hc (app_ok (t:=.str (Txt.mul ⟨#[Nm.base c 0]⟩ (((i:Int)+m / 7) % 12+1))) rfl (Af (Af (Ab rfl) AA (BJ (i:=0) rfl (AD eb))) (Af (Af (Af (Ab rfl) (Af (Ab rfl) AA (FK ⟨by decide,by decide⟩)) Bh) AA (Cw (by decide))) AA Bh) (gMulU_s ⟨rfl,by omega,by omega⟩)) elen ?_)
  rw [enm _ (by rw [mul_codes _ _ (by omega),Nm.codes,<- hm,if_pos h1,Nm.codesA,<- hm])]
  rfl
 ·rw [decide_eq_false h1] at hc
  have el:((CO c w.toNat).map T.str).length=w.toNat:=by unfold CO;rw [List.length_map,List.length_map,List.length_range]
  have et:((CO c w.toNat).map T.str).take a.toNat=((List.range a.toNat).map fun j=>(⟨#[Nm.base c j]⟩:Str)).map T.str:=by
   rw [<- List.map_take,baseL_take c _ _ (by omega)]
   rfl
  have ed:((CO c w.toNat).map T.str).drop (a+1).toNat=((List.range (w.toNat - (a+1).toNat)).map fun j=>(⟨#[Nm.base c ((a+1).toNat+j)]⟩:Str)).map T.str:=by
   rw [<- List.map_drop,baseL_drop]
  have j1:=slf_take (f:=Aa 6) (g:=Aa 5) (fs:=[iv c,iv n,vl (.str L),iv m,iv w,iv a,vl (.lst ((CO c w.toNat).map T.str)),iv st,some (.own (.lst ((nms c i).map T.str))),iv (i:Int),vl (.str ⟨#[Nm.one c i]⟩)]) (Ab rfl) (Ab (t:=.int a) rfl) a0 (by rw [el];omega)
  have j2:=slf_drop (f:=Aa 6) (g:=Ag AF (Aa 5) (gc (.int 1))) (fs:=[iv c,iv n,vl (.str L),iv m,iv w,iv a,vl (.lst ((CO c w.toNat).map T.str)),iv st,some (.own (.lst ((nms c i).map T.str))),iv (i:Int),vl (.str ⟨#[Nm.one c i]⟩)]) (v:=a+1) (Ab rfl) (Af (Ab (t:=.int a) rfl) AA Bh) (by omega) (by rw [el];omega)
  rw [et] at j1
  rw [ed] at j2
  have l1:(Txt.join (⟨#[]⟩:Str) ((List.range a.toNat).map fun j=>(⟨#[Nm.base c j]⟩:Str))).length=a.toNat:=by rw [join_len,List.length_range]
  have l2:(Txt.join (⟨#[]⟩:Str) ((List.range (w.toNat - (a+1).toNat)).map fun j=>(⟨#[Nm.base c ((a+1).toNat+j)]⟩:Str))).length=w.toNat - (a+1).toNat:=by
   rw [join_len (fun j=>Nm.base c ((a+1).toNat+j)),List.length_range]
  refine BW hc (app_ok (t:=.str ((Txt.join (⟨#[]⟩:Str) ((List.range a.toNat).map fun j=>(⟨#[Nm.base c j]⟩:Str))++(⟨#[Nm.one c i]⟩:Str))++Txt.join (⟨#[]⟩:Str) ((List.range (w.toNat - (a+1).toNat)).map fun j=>(⟨#[Nm.base c ((a+1).toNat+j)]⟩:Str)))) rfl (Af (Af (joinM_ok j1 (by rw [List.length_range];omega)) (Ab rfl) (gAddU_s ?_)) (joinM_ok (g:=fun j=>Nm.base c ((a+1).toNat+j)) j2 (by rw [List.length_range];omega)) (gAddU_s ?_)) elen ?_)
  ·rw [l1]
   show a.toNat+1<=1000000
   omega
  ·rw [strLen_append,l1,l2]
   show a.toNat+1+_<=1000000
   omega
  ·rw [enm _ ?_]
   ·rfl
   ·have q1:=join_ones (Nm.base c) (List.range a.toNat)
    have q2:=join_ones (fun j=>Nm.base c ((a+1).toNat+j)) (List.range (w.toNat - (a+1).toNat))
    have ea:(a+1).toNat=a.toNat+1:=by omega
    show (((Txt.join (⟨#[]⟩:Str) _).cps++#[Nm.one c i])++(Txt.join (⟨#[]⟩:Str) _).cps).toList=_
    rw [Array.toList_append,Array.toList_append,q1,q2,Nm.codes,<- hm,if_neg h1,Nm.codesB,<- ha,<- hw,ea]
theorem for1_ok {n:Nat} {fa:FS->Out (List Rv)} {gt:T->FS->Option FS} {body:FS->SO} {fs:FS} {r:SO} (e:fa fs=.ok [.t (.int (n:Int))] fs) (h:n < 2 ^ 62) (ef:Ei gt body (FL.upTo 0 n) fs=r):Df (itR1 fa) gt body fs=r:=by
 unfold Df
 rw [Hj e ⟨by omega,by omega⟩,Int.toNat_natCast]
 exact ef
theorem names_body {c:Int} {n:Nat} (hn:n<=12) (hb:Builtin.Int.intBits c<=2 ^ 20):∃ x2 x3 x4 x5 x6 x7 x9 x10,Ge [iv c,iv n,none,none,none,none,none,none,none,none,none]=.ret (.rf 8) [iv c,iv n,x2,x3,x4,x5,x6,x7,some (.own (.lst ((nms c n).map T.str))),x9,x10]:=by
 have hb':Builtin.Int.intBits c<=2 ^ 26:=Nat.le_trans hb (by decide)
 have w0:=Nm.W_lo c
 have w1:=Nm.W_hi c
 have hL:∀ x:Int,atI ("abcdefghijklmnopqrstuvwxyz":Str).cps.toList (x % 26)=some (Nm.Dk x):=at_letter
 have hL2:("abcdefghijklmnopqrstuvwxyz":Str).length<=big:=abc_big
 unfold Ge
 generalize ("abcdefghijklmnopqrstuvwxyz":Str)=L at hL hL2
 have s2:AY 2 (gc (.str L)) [iv c,iv n,none,none,none,none,none,none,none,none,none]=.nx [iv c,iv n,vl (.str L),none,none,none,none,none,none,none,none]:=Bs AA rfl
 have s3:AY 3 (Ag Bt (Ag AF (Ag AF (Ag Bt (Aa 0) (Aa 0)) (Aa 0)) (gc (.int 1))) (gc (.int 982451653))) [iv c,iv n,vl (.str L),none,none,none,none,none,none,none,none]=.nx [iv c,iv n,vl (.str L),iv (Nm.M c),none,none,none,none,none,none,none]:=by
  unfold Nm.M
  exact Bs (Af (Af (Af (Af (Ab rfl) (Ab rfl) (gMulU_b ⟨hb',hb'⟩)) (Ab rfl) Bh) AA Bh) AA (gMulU_r ⟨by decide,by decide⟩)) rfl
 generalize hm:Nm.M c=m at s3
 have s4:AY 4 (Ag AF (gc (.int 1)) (Ag Cu (Aa 3) (gc (.int 12)))) [iv c,iv n,vl (.str L),iv m,none,none,none,none,none,none,none]=.nx [iv c,iv n,vl (.str L),iv m,iv (Nm.W c),none,none,none,none,none,none]:=by
  unfold Nm.W
  rw [hm]
  exact Bs (Af AA (Af (Ab rfl) AA (Cw (by decide))) Bh) rfl
 generalize hw:Nm.W c=w at s4 w0 w1
 have s5:AY 5 (Ag Cu (Ag EO (Aa 3) (gc (.int 12))) (Aa 4)) [iv c,iv n,vl (.str L),iv m,iv w,none,none,none,none,none,none]=.nx [iv c,iv n,vl (.str L),iv m,iv w,iv (Nm.At c),none,none,none,none,none]:=by
  unfold Nm.At
  rw [hm,hw]
  exact Bs (Af (Af (Ab rfl) AA (FK ⟨by decide,by decide⟩)) (Ab rfl) (Cw (by omega))) rfl
 generalize ha:Nm.At c=a at s5
 have s6:=Bs (i:=6) (fs':=[iv c,iv n,vl (.str L),iv m,iv w,iv a,vl (.lst ((CO c w.toNat).map T.str)),none,none,none,none]) (nm_base hL2 hL (c:=c) (w:=w) (by omega) w1 m a hm.symm (iv c) (iv n) none none none none none) rfl
 have s7:AY 7 (Ag AH (AE CY (Ac (gc (.int 1)) (Ac (gc (.int 3)) (Ac (gc (.int 5)) (Ac (gc (.int 7)) (Ac (gc (.int 9)) (Ac (gc (.int 11)) Am))))))) (Ag Cu (Ag EO (Aa 3) (gc (.int 144))) (gc (.int 6)))) [iv c,iv n,vl (.str L),iv m,iv w,iv a,vl (.lst ((CO c w.toNat).map T.str)),none,none,none,none]=.nx [iv c,iv n,vl (.str L),iv m,iv w,iv a,vl (.lst ((CO c w.toNat).map T.str)),iv (Nm.step c),none,none,none]:=by
  have e:=at_stepT c
  rw [hm] at e
  exact Bs (Af (FR rfl rfl (by decide)) (Af (Af (Ab rfl) AA (FK ⟨by decide,by decide⟩)) AA (Cw (by decide))) (BJ rfl e)) rfl
 generalize hst:Nm.step c=st at s7
 have s8:AY 8 (AE Ek Am) [iv c,iv n,vl (.str L),iv m,iv w,iv a,vl (.lst ((CO c w.toNat).map T.str)),iv st,none,none,none]=.nx [iv c,iv n,vl (.str L),iv m,iv w,iv a,vl (.lst ((CO c w.toNat).map T.str)),iv st,some (.own (.lst [])),none,none]:=rfl
 have hloop:=Bx (gt:=tgN 9) (body:=(AL (AY 10 (Ag AH (Aa 2) (Ag Cu (Ag AF (Ag EO (Aa 3) (gc (.int 864))) (Ag Bt (Aa 9) (Aa 7))) (gc (.int 26)))))
  (ifS (asB (Ag (gEq false) (Ag Cu (Ag EO (Aa 3) (gc (.int 900))) (gc (.int 3))) (gc (.int 1)))) (Bi (A0 Ex (Aa 8) (Ac (Ag Bt (Ag AH (Aa 6) (gc (.int 0))) (Ag AF (Ag Cu (Ag AF (Aa 9) (Ag EO (Aa 3) (gc (.int 7)))) (gc (.int 12))) (gc (.int 1)))) Am))) (Bi (A0 Ex (Aa 8) (Ac (Ag AF (Ag AF (fz (GK HC (gc (.str ("":Str))) (Ac (slF (Aa 6) noP (EA (Aa 5))) Am))) (Aa 10)) (fz (GK HC (gc (.str ("":Str))) (Ac (slF (Aa 6) (EA (Ag AF (Aa 5) (gc (.int 1)))) noP) Am)))) Am))))))
  (fun ts fs=>∃ (i:Nat) (x9 x10:Option Sl),fs=[iv c,iv n,vl (.str L),iv m,iv w,iv a,vl (.lst ((CO c w.toNat).map T.str)),iv st,some (.own (.lst ((nms c i).map T.str))),x9,x10]/\Fre x9/\Fre x10/\i<=n/\ts=(FL.upTo 0 n).drop i) (fun t' ts fs h=>?_) (FL.upTo 0 n) [iv c,iv n,vl (.str L),iv m,iv w,iv a,vl (.lst ((CO c w.toNat).map T.str)),iv st,some (.own (.lst [])),none,none]
  ⟨0,none,none,rfl,Au,Au,Nat.zero_le _,rfl⟩
 ·obtain ⟨fs',ef,i,x9,x10,rfl,_,_,hi,hd⟩:=hloop
  have hi2:i=n:=by
   have:=congrArg List.length hd
   simp [FL.upTo] at this
   omega
  subst hi2
  refine ⟨vl (.str L),iv m,iv w,iv a,vl (.lst ((CO c w.toNat).map T.str)),iv st,x9,x10,?_⟩
  rw [AQ s2,AQ s3,AQ s4,AQ s5,AQ s6,AQ s7,AQ s8]
  rw [AQ (for1_ok (n:=i) (fa:=Ac (Aa 1) Am) (AK (Ab rfl) rfl) (by omega) ef)]
  rfl
 ·obtain ⟨i,x9,x10,rfl,f9,f10,hi,hd⟩:=h
  have hlt:i < n:=by
   have:=congrArg List.length hd
   simp [FL.upTo] at this
   omega
  have hc:=List.drop_eq_getElem_cons (l:=FL.upTo 0 n) (i:=i) (by simp [FL.upTo];exact hlt)
  rw [hc] at hd
  obtain ⟨e1,e2⟩:=List.cons.inj hd
  have e3:t'=T.int (i:Int):=by
   rw [e1]
   simp [FL.upTo]
  subst e3
  obtain ⟨y10,fy,e⟩:=nm_turn hL2 hL (c:=c) (m:=m) (w:=w) (a:=a) (st:=st) (n:=n) (i:=i) hm.symm hw.symm ha.symm hst.symm (by omega) x10 f10
  exact ⟨_,_,(by unfold tgN;exact AR rfl f9),e,i+1,_,_,rfl,AS,fy,hlt,e2⟩
theorem names {c:Int} {n:Nat} (hn:n<=12) (hb:Builtin.Int.intBits c<=2 ^ 20):CM [iv c,iv n]=.ok (.nw (.lst ((nms c n).map T.str))) [iv c,iv n]:=by
 obtain ⟨x2,x3,x4,x5,x6,x7,x9,x10,e⟩:=names_body hn hb
 unfold CM CV
 show (match Ge [iv c,iv n,none,none,none,none,none,none,none,none,none] with | .nx τ=>_ | .ret (.t t) τ=>_ | .ret (.nw o) τ=>_ | .ret (.rf i) τ=>_ | .exc c τ=>_ | _=>_)=_
 rw [e]
 rfl
theorem cell_at (ns:List Int) (k:Nat):BL [vl (.scr (ns.map T.int)),iv k]=.ok (.t (.int (ns.getD k 0))) [vl (.scr (ns.map T.int)),iv k]:=by
 have hl:asB (Ag gLt (Aa 1) (Al Bm (Ac (Aa 0) Am))) [vl (.scr (ns.map T.int)),iv k]=.ok (decide ((k:Int) < ((ns.map T.int).length:Int))) [vl (.scr (ns.map T.int)),iv k]:=rfl
 unfold BL CV
 show (match Eg [vl (.scr (ns.map T.int)),iv k] with | .nx τ=>_ | .ret (.t t) τ=>_ | .ret (.nw o) τ=>_ | .ret (.rf i) τ=>_ | .exc c τ=>_ | _=>_)=_
 have e:Eg [vl (.scr (ns.map T.int)),iv k]=.ret (.t (.int (ns.getD k 0))) [vl (.scr (ns.map T.int)),iv k]:=by
  unfold Eg
  by_cases h:(k:Int) < ((ns.map T.int).length:Int)
  ·rw [decide_eq_true h] at hl
   have h':k < ns.length:=by rw [List.length_map] at h;omega
   have e2:retS (Ag AH (Aa 0) (fz (Aa 1))) [vl (.scr (ns.map T.int)),iv k]=.ret (.t (.int (ns.getD k 0))) [vl (.scr (ns.map T.int)),iv k]:=by
    have:=Af (g:=AH) (fa:=Aa 0) (fb:=fz (Aa 1)) (fs:=[vl (.scr (ns.map T.int)),iv k]) (Ab rfl) (Ay (Ab rfl)) (gIxU_I (ns:=ns) (i:=(k:Int)) (.inl rfl) (by omega) (by omega))
    unfold retS
    rw [this,Int.toNat_natCast]
    rfl
   unfold AL
   rw [Ff hl e2]
  ·rw [decide_eq_false h] at hl
   have h':ns.length<=k:=by rw [List.length_map] at h;omega
   rw [AQ (BW (h:=nxS) (fs:=[vl (.scr (ns.map T.int)),iv k]) (r:=.nx [vl (.scr (ns.map T.int)),iv k]) hl rfl)]
   have:ns.getD k 0=0:=by simp [List.getD,h']
   rw [this]
   rfl
 rw [e]
 rfl
theorem GA {g:Rv->Rv->FS->Out Rv} {fa fb:FS->Out Rv} {fs fs1 fs2:FS} {x y:T} {r:Out Rv} (h1:fa fs=.ok (.t x) fs1) (h2:fb fs1=.ok (.t y) fs2) (h3:g (.t x) (.t y) fs2=r):Ag g fa fb fs=r:=by
 unfold Ag
 rw [h1]
 show (fb fs1).bnd _=r
 rw [h2]
 exact h3
theorem C3 {i:Nat} {f:FS->Out Rv} {fs fs1 fs':FS} {t:T} (h:f fs=.ok (.t t) fs1) (hs:stSl i (.t t) fs1=some fs'):AY i f fs=.nx fs':=by
 unfold AY
 rw [h]
 show (match stSl i (.t t) fs1 with | some fs=>SO.nx fs | none=>.bad)=_
 rw [hs]
theorem BR {f:FS->Out Rv} {g:FS->Out (List Rv)} {fs fs1 fs2:FS} {t:T} {rs:List Rv} (h1:f fs=.ok (.t t) fs1) (h2:g fs1=.ok rs fs2):Ac f g fs=.ok (.t t :: rs) fs2:=by
 unfold Ac
 rw [h1]
 show (g fs1).bind _=_
 rw [h2]
 rfl
theorem HJ {g:List T->FS->Out Rv} {fa:FS->Out (List Rv)} {fs fs1:FS} {rs:List Rv} {ts:List T} {r:Out Rv} (h:fa fs=.ok rs fs1) (h2:allT rs=some ts) (h3:ts.length<=big) (e:g ts fs1=r):AE g fa fs=r:=by
 unfold AE
 rw [h]
 show (match allT rs with | some ts=>_ | none=>_)=_
 rw [h2]
 exact (if_pos h3).trans e
theorem C7 {f:FS->Out Rv} {fs fs1:FS} {t:T} (h:f fs=.ok (.t t) fs1):fz f fs=.ok (.t t) fs1:=by
 unfold fz
 rw [h]
 rfl
theorem popB_ok {i:Nat} {fs fs':FS} {t:T} {ts:List T} (h0:fs[i]?=some (some (.bor (.lst (ts++[t]))))) (e:fs.set i (some (.bor (.lst ts)))=fs'):fz (A0 gPop (Aa i) Am) fs=.ok (.t t) fs':=by
 have h1:Aa i fs=.ok (.rf i) fs:=by unfold Aa;rw [h0]
 have h2:FL.A9 fs i=some (.lst (ts++[t])):=by unfold FL.A9;rw [h0]
 have h3:Dt fs (.rf i)=some (ts++[t]):=by simp only [Dt,h2]
 have h5:gPop (.rf i) [] fs=.ok (.t t) fs':=by
  have:FL.putAt fs i (.lst ts)=fs':=by
   unfold FL.putAt
   rw [h0]
   exact e
  simp only [gPop,h2,List.getLast?_concat,List.dropLast_concat,this,okT]
 refine C7 ?_
 unfold A0
 rw [h1]
 show (if (Dt fs (.rf i)).isSome=true then _ else _)=_
 rw [h3,if_pos (show (some (ts++[t])).isSome=true from rfl)]
 exact h5
theorem Du {f:FS->Out Rv} {fs fs1:FS} {r:Rv} (h:f fs=.ok r fs1):retS f fs=.ret r fs1:=by
 unfold retS
 rw [h]
 rfl
theorem Dz {g h:FS->SO} {fs fs':FS} {r:Rv} (e:g fs=.ret r fs'):AL g h fs=.ret r fs':=by unfold AL;rw [e]
theorem at_mod {names:List Str} {O:Nat} (hO:0 < O) (hl:O<=names.length) (z:Int):names.getD (z % (O:Int)).toNat ⟨#[]⟩∈names.take O/\atI (names.map T.str) (z % (O:Int))=some (T.str (names.getD (z % (O:Int)).toNat ⟨#[]⟩)):=by
 have h0:0<=z % (O:Int):=Int.emod_nonneg _ (by omega)
 have h1:z % (O:Int) < O:=Int.emod_lt_of_pos _ (by omega)
 have hi:(z % (O:Int)).toNat < O:=by omega
 have hi2:(z % (O:Int)).toNat < names.length:=by omega
 have e:names.getD (z % (O:Int)).toNat ⟨#[]⟩=names[(z % (O:Int)).toNat]:=by simp [List.getD,hi2]
 refine ⟨?_,?_⟩
 ·rw [e]
  exact List.mem_take_iff_getElem.mpr ⟨(z % (O:Int)).toNat,by omega,rfl⟩
 ·have e2:(names.map T.str)[(z % (O:Int)).toNat]?=some (T.str (names.getD (z % (O:Int)).toNat ⟨#[]⟩)):=by
   rw [e,List.getElem?_map,List.getElem?_eq_getElem hi2]
   rfl
  have:=AD e2
  rwa [Int.toNat_of_nonneg h0] at this
def pick (z2 z3:Int) (i:Int):Int:=if i=0 then z2 else z3
theorem parts_last {names:List Str} {at':Int} {fi:T} {pu:List T} {q O:Nat} {z2 z3:Int} (hO:0 < O) (hl:O<=names.length) (hq:q<=2) :
  retS (Al FJ (Ac (Cp false [none,some 0,some 6,some 5] (itR1 (Ac (Aa 4) Am)) (tgN 0) EZ (Ag AH (Aa 1) (Ag Cu (Ag AH (Aa 3) (fz (Aa 0))) (Aa 2)))) Am)) [vl (.lst (names.map T.str)),iv at',vl fi,some (.bor (.lst pu)),iv (q:Int),vl (.lst [.int z2,.int z3]),iv (O:Int)] =
   .ret (.t (.tup (((List.range q).map fun (k:Nat)=>names.getD (pick z2 z3 (k:Int) % (O:Int)).toNat ⟨#[]⟩).map T.str))) [vl (.lst (names.map T.str)),iv at',vl fi,some (.bor (.lst pu)),iv (q:Int),vl (.lst [.int z2,.int z3]),iv (O:Int)]:=by
 have e1:=Hj (fa:=Ac (Aa 4) Am) (fs:=[vl (.lst (names.map T.str)),iv at',vl fi,some (.bor (.lst pu)),iv (q:Int),vl (.lst [.int z2,.int z3]),iv (O:Int)]) (j:=(q:Int)) (AK (Ab rfl) rfl) ⟨by omega,by omega⟩
 rw [Int.toNat_natCast] at e1
 obtain ⟨y,hy,e2⟩:=Dp (fe:=Ag AH (Aa 1) (Ag Cu (Ag AH (Aa 3) (fz (Aa 0))) (Aa 2))) (f:=fun t'=>match t' with | .int i=>.str (names.getD (pick z2 z3 i % (O:Int)).toNat ⟨#[]⟩) | _=>.non) (rest:=[vl (.lst (names.map T.str)),iv (O:Int),vl (.lst [.int z2,.int z3])]) (FL.upTo 0 q) none [] Au (fun t' mt=>by
   unfold FL.upTo at mt
   rw [List.mem_map] at mt
   obtain ⟨k,mk,rfl⟩:=mt
   have hk:=List.mem_range.mp mk
   rw [Int.zero_add]
   have ep:atI [T.int z2,T.int z3] (k:Int)=some (T.int (pick z2 z3 (k:Int))):=by
    have:k=0∨k=1:=by omega
    rcases this with rfl | rfl
    ·exact AD rfl
    ·exact AD rfl
   exact Af (Ab rfl) (Af (Af (Ab rfl) (Ay (Ab rfl)) (BJ rfl ep)) (Ab rfl) (Cw (by omega))) (BJ rfl (at_mod hO hl _).2)) (by
   unfold FL.upTo
   rw [List.length_map,List.length_range]
   show 0+_<=1000000
   omega)
 have e3:=D2 (src:=[none,some 0,some 6,some 5]) e1 ⟨by rw [show Dd [vl (.lst (names.map T.str)),iv at',vl fi,some (.bor (.lst pu)),iv (q:Int),vl (.lst [.int z2,.int z3]),iv (O:Int)] _=[] from rfl];exact List.nodup_nil,by rfl⟩ e2 (AZ rfl)
 have e4:(FL.upTo 0 q).map (fun t'=>match t' with | .int i=>T.str (names.getD (pick z2 z3 i % (O:Int)).toNat ⟨#[]⟩) | _=>.non)=((List.range q).map fun (k:Nat)=>names.getD (pick z2 z3 (k:Int) % (O:Int)).toNat ⟨#[]⟩).map T.str:=by
  unfold FL.upTo
  rw [List.map_map,List.map_map]
  refine List.map_congr_left fun k _=>?_
  simp only [Function.comp_apply,Int.zero_add]
 rw [List.nil_append,e4] at e3
 exact Du (DE (AK e3 rfl) rfl)
theorem parts {names:List Str} {at':Nat} {first:Bool} {pu:List T} {z1 z2 z3:Int} (hn:0 < names.length) (ha:at'<=names.length) :
  ∃ ps:List Str,ps.length<=2/\(∀ x∈ps,x∈names.take (if first=true then at' else names.length))/\Cg [vl (.lst (names.map T.str)),iv (at':Int),vl (.bl first),some (.bor (.lst (pu++[.int z3]++[.int z2]++[.int z1])))] =
   .ok (.t (.tup (ps.map T.str))) [vl (.lst (names.map T.str)),iv (at':Int),vl (.bl first),some (.bor (.lst pu))]:=by
 have hq:∃ q:Nat,q<=2/\atI [T.int 0,T.int 1,T.int 1,T.int 2] (z1 % 4)=some (T.int (q:Int)):=by
  have h:z1 % 4=((0:Nat):Int)∨z1 % 4=((1:Nat):Int)∨z1 % 4=((2:Nat):Int)∨z1 % 4=((3:Nat):Int):=by omega
  rcases h with h | h | h | h <;> rw [h]
  ·exact ⟨0,by omega,AD rfl⟩
  ·exact ⟨1,by omega,AD rfl⟩
  ·exact ⟨1,by omega,AD rfl⟩
  ·exact ⟨2,by omega,AD rfl⟩
 obtain ⟨q,hq,eq⟩:=hq
 have s4:AY 4 (Ag AH (AE CY (Ac (gc (.int 0)) (Ac (gc (.int 1)) (Ac (gc (.int 1)) (Ac (gc (.int 2)) Am))))) (Ag Cu (fz (A0 gPop (Aa 3) Am)) (gc (.int 4)))) [vl (.lst (names.map T.str)),iv (at':Int),vl (.bl first),some (.bor (.lst (pu++[.int z3]++[.int z2]++[.int z1]))),none,none,none] =
   .nx [vl (.lst (names.map T.str)),iv (at':Int),vl (.bl first),some (.bor (.lst (pu++[.int z3]++[.int z2]))),iv (q:Int),none,none] :=
  C3 (GA (FR rfl rfl (by decide)) (GA (popB_ok (ts:=pu++[.int z3]++[.int z2]) rfl rfl) AA (Cw (by decide))) (BJ rfl eq)) rfl
 have s5:AY 5 (AE CY (Ac (fz (A0 gPop (Aa 3) Am)) (Ac (fz (A0 gPop (Aa 3) Am)) Am))) [vl (.lst (names.map T.str)),iv (at':Int),vl (.bl first),some (.bor (.lst (pu++[.int z3]++[.int z2]))),iv (q:Int),none,none] =
   .nx [vl (.lst (names.map T.str)),iv (at':Int),vl (.bl first),some (.bor (.lst pu)),iv (q:Int),vl (.lst [.int z2,.int z3]),none] :=
  C3 (HJ (g:=CY) (BR (popB_ok (ts:=pu++[.int z3]) rfl rfl) (BR (popB_ok (ts:=pu) rfl rfl) rfl)) rfl (show 2<=big by decide) rfl) rfl
 have s6:AY 6 (Al Bm (Ac (Aa 0) Am)) [vl (.lst (names.map T.str)),iv (at':Int),vl (.bl first),some (.bor (.lst pu)),iv (q:Int),vl (.lst [.int z2,.int z3]),none] =
   .nx [vl (.lst (names.map T.str)),iv (at':Int),vl (.bl first),some (.bor (.lst pu)),iv (q:Int),vl (.lst [.int z2,.int z3]),iv (names.length:Int)]:=by
  have:((names.map T.str).length:Int)=(names.length:Int):=by rw [List.length_map]
  rw [<- this]
  rfl
 have s7:ifS (Ew (Aa 2)) (AY 6 (fz (Aa 1))) nxS [vl (.lst (names.map T.str)),iv (at':Int),vl (.bl first),some (.bor (.lst pu)),iv (q:Int),vl (.lst [.int z2,.int z3]),iv (names.length:Int)] =
   .nx [vl (.lst (names.map T.str)),iv (at':Int),vl (.bl first),some (.bor (.lst pu)),iv (q:Int),vl (.lst [.int z2,.int z3]),iv ((if first=true then at' else names.length:Nat):Int)]:=by
  cases first <;> rfl
 have hOl:(if first=true then at' else names.length)<=names.length:=by split <;> omega
 generalize (if first=true then at' else names.length)=O at s7 hOl ⊢
 have hc:=HH (fa:=Aa 6) (fb:=gc (.int 0)) (fs:=[vl (.lst (names.map T.str)),iv (at':Int),vl (.bl first),some (.bor (.lst pu)),iv (q:Int),vl (.lst [.int z2,.int z3]),iv (O:Int)]) (i:=(O:Int)) (Ab rfl) AA
 by_cases h0:(O:Int)=0
 ·rw [decide_eq_true h0] at hc
  refine ⟨[],by simp,by simp,?_⟩
  have all:DV [vl (.lst (names.map T.str)),iv (at':Int),vl (.bl first),some (.bor (.lst (pu++[.int z3]++[.int z2]++[.int z1]))),none,none,none]=.ret (.t (.tup [])) [vl (.lst (names.map T.str)),iv (at':Int),vl (.bl first),some (.bor (.lst pu)),iv (q:Int),vl (.lst [.int z2,.int z3]),iv (O:Int)]:=by
   unfold DV
   rw [AQ s4,AQ s5,AQ s6,AQ s7]
   exact Dz (Ff hc rfl)
  unfold Cg CV
  show (match DV [vl (.lst (names.map T.str)),iv (at':Int),vl (.bl first),some (.bor (.lst (pu++[.int z3]++[.int z2]++[.int z1]))),none,none,none] with | .nx τ=>_ | .ret (.t t) τ=>_ | .ret (.nw o) τ=>_ | .ret (.rf i) τ=>_ | .exc c τ=>_ | _=>_)=_
  rw [all]
  rfl
 ·rw [decide_eq_false h0] at hc
  have hO:0 < O:=by omega
  refine ⟨(List.range q).map fun (k:Nat)=>names.getD (pick z2 z3 (k:Int) % (O:Int)).toNat ⟨#[]⟩,by simpa using hq,fun x m=>?_,?_⟩
  ·rw [List.mem_map] at m
   obtain ⟨k,_,rfl⟩:=m
   exact (at_mod hO hOl _).1
  ·have all:DV [vl (.lst (names.map T.str)),iv (at':Int),vl (.bl first),some (.bor (.lst (pu++[.int z3]++[.int z2]++[.int z1]))),none,none,none]=.ret (.t (.tup (((List.range q).map fun (k:Nat)=>names.getD (pick z2 z3 (k:Int) % (O:Int)).toNat ⟨#[]⟩).map T.str))) [vl (.lst (names.map T.str)),iv (at':Int),vl (.bl first),some (.bor (.lst pu)),iv (q:Int),vl (.lst [.int z2,.int z3]),iv (O:Int)]:=by
    unfold DV
    rw [AQ s4,AQ s5,AQ s6,AQ s7,AQ (BW (h:=nxS) hc rfl)]
    exact parts_last hO hOl hq
   unfold Cg CV
   show (match DV [vl (.lst (names.map T.str)),iv (at':Int),vl (.bl first),some (.bor (.lst (pu++[.int z3]++[.int z2]++[.int z1]))),none,none,none] with | .nx τ=>_ | .ret (.t t) τ=>_ | .ret (.nw o) τ=>_ | .ret (.rf i) τ=>_ | .exc c τ=>_ | _=>_)=_
   rw [all]
   rfl
theorem abc_in:∀ j,j < 26->(!(Builtin.Str.occurrences ABC ⟨#[97+j]⟩ 0 ABC.length 1).isEmpty)=true:=by decide +kernel
theorem asBls_map:∀ bs:List Bool,Fh (bs.map T.bl)=some bs
 | []=>rfl
 | b :: bs=>by simp [Fh,asBls_map bs]
theorem gInU_s {x y:Str} {fs:FS}:HD false (.t (.str x)) (.t (.str y)) fs=.ok (.t (.bl (!(Builtin.Str.occurrences y x 0 y.length 1).isEmpty))) fs:=rfl
theorem is_name_ok {z:Str} (h0:1<=z.length) (h1:z.length<=12) (hl:∀ x∈z.cps.toList,97<=x/\x<=122):Bv [vl (.str z)]=.ok (.t (.bl true)) [vl (.str z)]:=by
 have hin:∀ x,97<=x/\x<=122->(!(Builtin.Str.occurrences ("abcdefghijklmnopqrstuvwxyz":Str) ⟨#[x]⟩ 0 ("abcdefghijklmnopqrstuvwxyz":Str).length 1).isEmpty)=true:=fun x hx=>by
  have:=abc_in (x - 97) (by omega)
  rwa [show 97+(x - 97)=x by omega] at this
 have hlen:Al Bm (Ac (Aa 0) Am) [vl (.str z)]=.ok (.t (.int z.length)) [vl (.str z)]:=by
  have e:gLenS [.t (.str z)] [vl (.str z)]=.ok (.t (.int z.length)) [vl (.str z)]:=if_pos (show z.length<=1000000 by omega)
  refine DE (AK (Ab rfl) rfl) ?_
  unfold Bm orC
  show (match orC gLenS gLenD [.t (.str z)] [vl (.str z)] with | o=>o)=_
  unfold orC
  rw [e]
 have hc:DZ (asB (chain gLe gLe (gc (.int 1)) (Al Bm (Ac (Aa 0) Am)) (gc (.int 12)))) [vl (.str z)]=.ok false [vl (.str z)]:=by
  have e1:gLe (.t (.int 1)) (.t (.int z.length)) [vl (.str z)]=.ok (.t (.bl true)) [vl (.str z)]:=by
   show okT (.bl (decide ((1:Int)<=z.length))) _=_
   rw [decide_eq_true (by omega)]
   rfl
  have e2:gLe (.t (.int z.length)) (.t (.int 12)) [vl (.str z)]=.ok (.t (.bl true)) [vl (.str z)]:=by
   show okT (.bl (decide ((z.length:Int)<=12))) _=_
   rw [decide_eq_true (by omega)]
   rfl
  simp only [DZ,asB,chain,gc,Out.bnd,Out.bind,hlen,e1,e2,Bool.not_true]
 unfold Bv CV
 show (match EU [vl (.str z)] with | .nx τ=>_ | .ret (.t t) τ=>_ | .ret (.nw o) τ=>_ | .ret (.rf i) τ=>_ | .exc c τ=>_ | _=>_)=_
 have all:EU [vl (.str z)]=.ret (.t (.bl true)) [vl (.str z)]:=by
  unfold EU
  generalize ("abcdefghijklmnopqrstuvwxyz":Str)=L at hin
  rw [AQ (BW (h:=nxS) hc rfl)]
  have e1:itU (fz (Aa 0)) [vl (.str z)]=.ok (signs z) [vl (.str z)]:=rfl
  obtain ⟨y,hy,e2⟩:=Dp (fe:=Ag (HD false) (fz (Aa 0)) (gc (.str L))) (f:=fun _=>.bl true) (rest:=[]) (signs z) none [] Au (fun t' mt=>by
    unfold signs at mt
    rw [List.mem_map] at mt
    obtain ⟨x,mx,rfl⟩:=mt
    refine Af (Ay (Ab rfl)) AA ?_
    rw [gInU_s,hin x (hl x mx)]) (by
    unfold signs
    rw [List.length_map,Array.length_toList]
    show 0+z.length<=1000000
    omega)
  have e3:=D2 (src:=[none]) e1 ⟨by rw [show Dd [vl (.str z)] _=[] from rfl];exact List.nodup_nil,by rfl⟩ e2 (AZ rfl)
  have e4:(signs z).map (fun _=>T.bl true)=((signs z).map fun _=>true).map T.bl:=by rw [List.map_map];rfl
  rw [List.nil_append,e4] at e3
  refine Du (DE (AK e3 rfl) ?_)
  simp only [gAll,Dt,Option.bind_some,asBls_map,okT]
  congr 3
  simp
 rw [all]
 rfl
theorem is_name_nm (c:Int) (k:Nat):Bv [vl (.str (nmS c k))]=.ok (.t (.bl true)) [vl (.str (nmS c k))]:=by
 refine is_name_ok ?_ ?_ ?_
 ·show 1<=(Nm.codes c k).toArray.size
  rw [List.size_toArray]
  exact Nm.codes_lo c k
 ·show (Nm.codes c k).toArray.size<=12
  rw [List.size_toArray]
  exact Nm.codes_hi c k
 ·intro x hx
  exact Nm.codes_letters c k x (by simpa [nmS] using hx)
theorem nmS_inj {c:Int} {k k':Nat} (hk:k < 12) (hk':k' < 12) (h:nmS c k=nmS c k'):k=k':=by
 refine Nm.codes_inj (c:=c) hk hk' ?_
 have:=congrArg (fun s:Str=>s.cps.toList) h
 simpa [nmS] using this
theorem Aj {f:FS->Out Rv} {g:FS->Out (List Rv)} {fs fs1 fs2:FS} {r:Rv} {rs:List Rv} (h1:f fs=.ok r fs1) (h2:g fs1=.ok rs fs2):Ad f g fs=.ok (r :: rs) fs2:=by
 unfold Ad
 rw [h1]
 show (g fs1).bind _=_
 rw [h2]
 rfl
theorem DC {p:Nat} {Fn:FS->Out Rv} {fa:FS->Out (List Rv)} {fs fs1 fs' τ:FS} {rs:List Rv} {t:T} (ha:fa fs=.ok rs fs1) (hp:rs.length=p) (hn:(Dd fs1 (rs.map Dl)).Nodup) (hf:Fn (EM fs1 (rs.map Dl))=.ok (.t t) τ) (hb:backF (rs.map Dl) τ fs1=some fs') :
  Al (Az p Fn) fa fs=.ok (.t t) fs':=by
 unfold Al
 rw [ha]
 show Az p Fn rs fs1=_
 unfold Az
 rw [if_pos hp]
 unfold callR
 rw [if_pos hn,hf]
 dsimp only
 rw [hb]
theorem DD {p:Nat} {Fn:FS->Out Rv} {fa:FS->Out (List Rv)} {fs fs1 fs' τ:FS} {rs:List Rv} {o:FO} (ha:fa fs=.ok rs fs1) (hp:rs.length=p) (hn:(Dd fs1 (rs.map Dl)).Nodup) (hf:Fn (EM fs1 (rs.map Dl))=.ok (.nw o) τ) (hb:backF (rs.map Dl) τ fs1=some fs') :
  Al (Az p Fn) fa fs=.ok (.nw o) fs':=by
 unfold Al
 rw [ha]
 show Az p Fn rs fs1=_
 unfold Az
 rw [if_pos hp]
 unfold callR
 rw [if_pos hn,hf]
 dsimp only
 rw [hb]
theorem app_st {i:Nat} {f:FS->Out Rv} {fs fs1 fs':FS} {t:T} {us ts:List T} (h0:fs[i]?=some (some (.own (.lst us)))) (h:f fs=.ok (.t t) fs1) (h0':fs1[i]?=some (some (.own (.lst ts)))) (hl:ts.length < big) (e:fs1.set i (some (.own (.lst (ts++[t]))))=fs'):Bi (A0 Ex (Aa i) (Ac f Am)) fs=.nx fs':=by
 have h1:Aa i fs=.ok (.rf i) fs:=by unfold Aa;rw [h0]
 have h2:FL.A9 fs i=some (.lst us):=by unfold FL.A9;rw [h0]
 have h2':FL.A9 fs1 i=some (.lst ts):=by unfold FL.A9;rw [h0']
 have h3:Dt fs (.rf i)=some us:=by simp only [Dt,h2]
 have h4:Ac f Am fs=.ok [.t t] fs1:=BR h rfl
 have h5:Ex (.rf i) [.t t] fs1=.ok (.t .non) fs':=by
  simp only [Ex,h2']
  rw [if_pos hl]
  have:FL.putAt fs1 i (.lst (ts++[t]))=fs':=by
   unfold FL.putAt
   rw [h0']
   exact e
  rw [this]
 have h6:A0 Ex (Aa i) (Ac f Am) fs=.ok (.t .non) fs':=by
  unfold A0
  rw [h1]
  show (if (Dt fs (.rf i)).isSome=true then _ else _)=_
  rw [h3,if_pos (show (some us).isSome=true from rfl),h4]
  exact h5
 unfold Bi
 rw [h6]
 rfl
def CB:Str×List Str->T:=fun r=>.tup [.str r.1,.tup (r.2.map T.str)]
def Ax:Str×List (Str×List Str)->T:=fun k=>.tup [.str k.1,.lst (k.2.map CB)]
theorem row_turn {sc:T} {many:Int} {names makers:List Str} {got:List T} {u a k:Nat} {rows:List (Str×List Str)} {pu:List T} {z1 z2 z3:Int} (hn:0 < names.length) (ha:a<=names.length) (hu:u < makers.length) (hr:rows.length < 1000) :
  ∃ ps:List Str,ps.length<=2/\(∀ x∈ps,x∈names.take (if k=0 then a else names.length)) /\
   (AL (Bi (A0 Ex (Aa 8) (Ac (AE Ba (Ac (Ag AH (Aa 4) (fz (Aa 6))) (Ac (fz (Al (Az 4 Cg) (Ad (fz (Aa 3)) (Ad (fz (Aa 7)) (Ad (Ag (gEq false) (Aa 9) (gc (.int 0))) (Ad (Aa 1) Am)))))) Am))) Am)))
  (AY 6 (Ag AF (Aa 6) (gc (.int 1))))) [vl sc,some (.own (.lst (pu++[.int z3]++[.int z2]++[.int z1]))),iv many,vl (.lst (names.map T.str)),vl (.lst (makers.map T.str)),some (.own (.lst got)),iv (u:Int),iv (a:Int),some (.own (.lst (rows.map CB))),iv (k:Int)] =
   .nx [vl sc,some (.own (.lst pu)),iv many,vl (.lst (names.map T.str)),vl (.lst (makers.map T.str)),some (.own (.lst got)),iv ((u+1:Nat):Int),iv (a:Int),some (.own (.lst ((rows++[(makers.getD u ⟨#[]⟩,ps)]).map CB))),iv (k:Int)]:=by
 obtain ⟨ps,h1,h2,h3⟩:=parts (names:=names) (at':=a) (first:=decide ((k:Int)=0)) (pu:=pu) (z1:=z1) (z2:=z2) (z3:=z3) hn ha
 refine ⟨ps,h1,?_,?_⟩
 ·by_cases hk:k=0
  ·subst hk
   simpa using h2
  ·have:¬ ((k:Int)=0):=by omega
   rw [decide_eq_false this] at h2
   rw [if_neg hk]
   simpa using h2
 ·have em:atI (makers.map T.str) (u:Int)=some (T.str (makers.getD u ⟨#[]⟩)):=AD (by
   rw [List.getElem?_map,List.getElem?_eq_getElem hu]
   simp [List.getD,hu])
  have ek:Ag (gEq false) (Aa 9) (gc (.int 0)) [vl sc,some (.own (.lst (pu++[.int z3]++[.int z2]++[.int z1]))),iv many,vl (.lst (names.map T.str)),vl (.lst (makers.map T.str)),some (.own (.lst got)),iv (u:Int),iv (a:Int),some (.own (.lst (rows.map CB))),iv (k:Int)]=.ok (.t (.bl (decide ((k:Int)=0)))) [vl sc,some (.own (.lst (pu++[.int z3]++[.int z2]++[.int z1]))),iv many,vl (.lst (names.map T.str)),vl (.lst (makers.map T.str)),some (.own (.lst got)),iv (u:Int),iv (a:Int),some (.own (.lst (rows.map CB))),iv (k:Int)]:=by
   refine Af (Ab rfl) AA ?_
   have q:decide (V.int (k:Int)=V.int 0)=decide ((k:Int)=0):=by
    by_cases h:(k:Int)=0
    ·rw [h];simp
    ·rw [decide_eq_false h,decide_eq_false (by intro z;cases z;exact h rfl)]
   show (if scal (V.int (k:Int)) (V.int 0)=true then okT (.bl (if false=true then _ else decide (V.int (k:Int)=V.int 0))) _ else .bad)=_
   rw [if_pos (show scal (V.int (k:Int)) (V.int 0)=true from rfl),q]
   rfl
  have ec:=DC (p:=4) (Fn:=Cg) (Aj (Ay (Ab (i:=3) rfl)) (Aj (Ay (Ab (i:=7) rfl)) (Aj ek (Aj (show Aa 1 _=.ok (.rf 1) _ from rfl) (show Am _=.ok [] _ from rfl))))) rfl (by
   rw [show Dd _ _=[1] from rfl]
   simp) h3 rfl
  rw [AQ (app_st (i:=8) rfl (HJ (g:=Ba) (ts:=[T.str (makers.getD u ⟨#[]⟩),T.tup (ps.map T.str)]) (BR (Af (Ab rfl) (Ay (Ab rfl)) (BJ rfl em)) (BR (C7 ec) (show Am _=.ok [] _ from rfl))) rfl (show 2<=big by decide) rfl) rfl (by rw [List.length_map];show _ < 1000000;omega) rfl)]
  have e1:rows.map CB++[T.tup [T.str (makers.getD u ⟨#[]⟩),T.tup (ps.map T.str)]]=(rows++[(makers.getD u ⟨#[]⟩,ps)]).map CB:=by rw [List.map_append];rfl
  rw [<- e1]
  exact Bs (Af (Ab rfl) AA Bh) rfl
theorem last1 {α:Type} {xs:List α} (h:1<=xs.length):∃ e z,xs=e++[z]/\e.length+1=xs.length:=by
 have hne:xs≠[]:=by intro q;rw [q] at h;simp at h
 exact ⟨xs.dropLast,xs.getLast hne,(List.dropLast_concat_getLast hne).symm,by rw [List.length_dropLast];omega⟩
theorem last3 {ds:List Int} (h:3<=ds.length):∃ (e:List Int) (z1 z2 z3:Int),ds.map T.int=e.map T.int++[.int z3]++[.int z2]++[.int z1]/\e.length+3=ds.length:=by
 obtain ⟨d1,z1,rfl,h1⟩:=last1 (xs:=ds) (by omega)
 obtain ⟨d2,z2,rfl,h2⟩:=last1 (xs:=d1) (by omega)
 obtain ⟨d3,z3,rfl,h3⟩:=last1 (xs:=d2) (by omega)
 exact ⟨d3,z1,z2,z3,by simp,by simp at h ⊢⟩
structure Rows (names makers:List Str) (a u:Nat) (rows:List (Str×List Str)):Prop where
 mks:rows.map (·.1)=(List.range rows.length).map fun j=>makers.getD (u+j) ⟨#[]⟩
 two:∀ r∈rows,r.2.length<=2
 prt:∀ r∈rows,∀ x∈r.2,x∈names
 fst:∀ r,rows[0]?=some r->∀ x∈r.2,x∈names.take a
theorem Rows.nil {names makers:List Str} {a u:Nat}:Rows names makers a u []:=⟨rfl,(fun _ m=>nomatch m),(fun _ m=>nomatch m),(fun _ e=>nomatch e)⟩
theorem Rows.snoc {names makers:List Str} {a u:Nat} {rows:List (Str×List Str)} (R:Rows names makers a u rows) {ps:List Str} (h1:ps.length<=2) (h2:∀ x∈ps,x∈names.take (if rows.length=0 then a else names.length)):Rows names makers a u (rows++[(makers.getD (u+rows.length) ⟨#[]⟩,ps)]):=by
 refine ⟨?_,fun r m=>?_,fun r m x hx=>?_,fun r e x hx=>?_⟩
 ·rw [List.map_append,R.mks,List.length_append,List.length_singleton,List.range_succ,List.map_append]
  rfl
 ·rcases List.mem_append.mp m with m | m
  ·exact R.two r m
  ·rw [List.mem_singleton.mp m];exact h1
 ·rcases List.mem_append.mp m with m | m
  ·exact R.prt r m x hx
  ·rw [List.mem_singleton.mp m] at hx
   exact List.mem_of_mem_take (h2 x hx)
 ·cases rows with
  | nil =>
   have:r=(makers.getD (u+0) ⟨#[]⟩,ps):=by simpa using e.symm
   rw [this] at hx
   simpa using h2 x hx
  | cons r0 rs =>
   exact R.fst r (by simpa using e) x hx
theorem rows_loop {sc:T} {many:Int} {names makers:List Str} {got:List T} {u a n:Nat} {ds:List Int} {x9:Option Sl} (hn:0 < names.length) (ha:a<=names.length) (hu:u+n<=makers.length) (hd:3 * n<=ds.length) (hn2:n<=100) (h9:Fre x9) :
  ∃ (rows:List (Str×List Str)) (es:List Int) (y9:Option Sl),rows.length=n/\Rows names makers a u rows/\es.length+3 * n=ds.length/\Fre y9/\Ei (tgN 9) (AL (Bi (A0 Ex (Aa 8) (Ac (AE Ba (Ac (Ag AH (Aa 4) (fz (Aa 6))) (Ac (fz (Al (Az 4 Cg) (Ad (fz (Aa 3)) (Ad (fz (Aa 7)) (Ad (Ag (gEq false) (Aa 9) (gc (.int 0))) (Ad (Aa 1) Am)))))) Am))) Am)))
  (AY 6 (Ag AF (Aa 6) (gc (.int 1))))) (FL.upTo 0 n) [vl sc,some (.own (.lst (ds.map T.int))),iv many,vl (.lst (names.map T.str)),vl (.lst (makers.map T.str)),some (.own (.lst got)),iv (u:Int),iv (a:Int),some (.own (.lst [])),x9] =
   .nx [vl sc,some (.own (.lst (es.map T.int))),iv many,vl (.lst (names.map T.str)),vl (.lst (makers.map T.str)),some (.own (.lst got)),iv ((u+n:Nat):Int),iv (a:Int),some (.own (.lst (rows.map CB))),y9]:=by
 obtain ⟨fs',ef,rows,es,y9,rfl,hle,R,he,f9,hts⟩:=Bx (gt:=tgN 9) (body:=(AL (Bi (A0 Ex (Aa 8) (Ac (AE Ba (Ac (Ag AH (Aa 4) (fz (Aa 6))) (Ac (fz (Al (Az 4 Cg) (Ad (fz (Aa 3)) (Ad (fz (Aa 7)) (Ad (Ag (gEq false) (Aa 9) (gc (.int 0))) (Ad (Aa 1) Am)))))) Am))) Am)))
  (AY 6 (Ag AF (Aa 6) (gc (.int 1))))))
  (fun ts fs=>∃ (rows:List (Str×List Str)) (es:List Int) (y9:Option Sl),fs=[vl sc,some (.own (.lst (es.map T.int))),iv many,vl (.lst (names.map T.str)),vl (.lst (makers.map T.str)),some (.own (.lst got)),iv ((u+rows.length:Nat):Int),iv (a:Int),some (.own (.lst (rows.map CB))),y9]/\rows.length<=n/\Rows names makers a u rows/\es.length+3 * rows.length=ds.length/\Fre y9/\ts=(FL.upTo 0 n).drop rows.length)
  (fun t' ts fs h=>by
   obtain ⟨rows,es,y9,rfl,hle,R,he,f9,hts⟩:=h
   have hlt:rows.length < n:=by
    have:=congrArg List.length hts
    simp [FL.upTo] at this
    omega
   have hc:=List.drop_eq_getElem_cons (l:=FL.upTo 0 n) (i:=rows.length) (by simp [FL.upTo];exact hlt)
   rw [hc] at hts
   obtain ⟨e1,e2⟩:=List.cons.inj hts
   have e3:t'=T.int (rows.length:Int):=by
    rw [e1]
    simp [FL.upTo]
   subst e3
   obtain ⟨e,z1,z2,z3,eds,el⟩:=last3 (ds:=es) (by omega)
   obtain ⟨ps,p1,p2,p3⟩:=row_turn (sc:=sc) (many:=many) (names:=names) (makers:=makers) (got:=got) (u:=u+rows.length) (a:=a) (k:=rows.length) (rows:=rows) (pu:=e.map T.int) (z1:=z1) (z2:=z2) (z3:=z3) hn ha (by omega) (by omega)
   rw [eds]
   refine ⟨_,_,(by unfold tgN;exact AR rfl f9),p3,rows++[(makers.getD (u+rows.length) ⟨#[]⟩,ps)],e,iv (rows.length:Int),?_,by simp;omega,R.snoc p1 p2,by simp;omega,AS,?_⟩
   ·rw [List.length_append,List.length_singleton]
    rfl
   ·rw [e2,List.length_append,List.length_singleton])
  (FL.upTo 0 n) [vl sc,some (.own (.lst (ds.map T.int))),iv many,vl (.lst (names.map T.str)),vl (.lst (makers.map T.str)),some (.own (.lst got)),iv (u:Int),iv (a:Int),some (.own (.lst [])),x9] ⟨[],ds,x9,rfl,Nat.zero_le _,Rows.nil,by simp,h9,rfl⟩
 have hi2:rows.length=n:=by
  have:=congrArg List.length hts
  simp [FL.upTo] at this
  omega
 refine ⟨rows,es,y9,hi2,R,by omega,f9,?_⟩
 rw [ef,hi2]
theorem popO_ok {i:Nat} {fs fs':FS} {t:T} {ts:List T} (h0:fs[i]?=some (some (.own (.lst (ts++[t]))))) (e:fs.set i (some (.own (.lst ts)))=fs'):fz (A0 gPop (Aa i) Am) fs=.ok (.t t) fs':=by
 have h1:Aa i fs=.ok (.rf i) fs:=by unfold Aa;rw [h0]
 have h2:FL.A9 fs i=some (.lst (ts++[t])):=by unfold FL.A9;rw [h0]
 have h3:Dt fs (.rf i)=some (ts++[t]):=by simp only [Dt,h2]
 have h5:gPop (.rf i) [] fs=.ok (.t t) fs':=by
  have:FL.putAt fs i (.lst ts)=fs':=by
   unfold FL.putAt
   rw [h0]
   exact e
  simp only [gPop,h2,List.getLast?_concat,List.dropLast_concat,this,okT]
 refine C7 ?_
 unfold A0
 rw [h1]
 show (if (Dt fs (.rf i)).isSome=true then _ else _)=_
 rw [h3,if_pos (show (some (ts++[t])).isSome=true from rfl)]
 exact h5
theorem range1_st {j:Int} {fs fs1:FS} {fa:FS->Out (List Rv)} (e:fa fs=.ok [.t (.int j)] fs1) (h:-(2 ^ 62)<=j/\j < 2 ^ 62):itR1 fa fs=.ok (FL.upTo 0 j.toNat) fs1:=by
 unfold itR1
 rw [e]
 simp only [Out.bind]
 exact if_pos h
theorem for1_st {n:Nat} {fa:FS->Out (List Rv)} {gt:T->FS->Option FS} {body:FS->SO} {fs fs1:FS} {r:SO} (e:fa fs=.ok [.t (.int (n:Int))] fs1) (h:n < 2 ^ 62) (ef:Ei gt body (FL.upTo 0 n) fs1=r):Df (itR1 fa) gt body fs=r:=by
 have q:=range1_st e ⟨by omega,by omega⟩
 rw [Int.toNat_natCast] at q
 unfold Df
 rw [q]
 exact ef
def BA (many:Nat):Nat:=if many=4 then 3 else 4
theorem kind_turn {sc:T} {many a u:Nat} {names makers:List Str} {K:List (Str×List (Str×List Str))} {ds:List Int} {x8 x9:Option Sl} (hn:names.length=many) (ha:a < many) (hu:u+BA many<=makers.length) (hd:13<=ds.length) (h8:Fre x8) (h9:Fre x9) (hK:K.length < 100) :
  ∃ (rows:List (Str×List Str)) (es:List Int) (y8 y9:Option Sl),1<=rows.length/\rows.length<=BA many/\Rows names makers a u rows/\ds.length<=es.length+13/\Fre y8/\Fre y9 /\
   (AL (AY 8 (AE Ek Am))
  (AL (Df (itR1 (Ac (Ag AF (gc (.int 1)) (Ag Cu (fz (A0 gPop (Aa 1) Am)) (Ag AH (AE CY (Ac (gc (.int 4)) (Ac (gc (.int 3)) Am))) (Al gInt1 (Ac (Ag (gEq false) (Aa 2) (gc (.int 4))) Am))))) Am)) (tgN 9) (AL (Bi (A0 Ex (Aa 8) (Ac (AE Ba (Ac (Ag AH (Aa 4) (fz (Aa 6))) (Ac (fz (Al (Az 4 Cg) (Ad (fz (Aa 3)) (Ad (fz (Aa 7)) (Ad (Ag (gEq false) (Aa 9) (gc (.int 0))) (Ad (Aa 1) Am)))))) Am))) Am)))
  (AY 6 (Ag AF (Aa 6) (gc (.int 1))))))
  (Bi (A0 Ex (Aa 5) (Ac (AE Ba (Ac (Ag AH (Aa 3) (fz (Aa 7))) (Ac (fz (Aa 8)) Am))) Am)))))
   [vl sc,some (.own (.lst (ds.map T.int))),iv (many:Int),vl (.lst (names.map T.str)),vl (.lst (makers.map T.str)),some (.own (.lst (K.map Ax))),iv (u:Int),iv (a:Int),x8,x9] =
   .nx [vl sc,some (.own (.lst (es.map T.int))),iv (many:Int),vl (.lst (names.map T.str)),vl (.lst (makers.map T.str)),some (.own (.lst ((K++[(names.getD a ⟨#[]⟩,rows)]).map Ax))),iv ((u+rows.length:Nat):Int),iv (a:Int),y8,y9]:=by
 obtain ⟨d1,z,rfl,hd1⟩:=last1 (xs:=ds) (by omega)
 have hmr:BA many=3∨BA many=4:=by unfold BA;split <;> simp
 have em:atI [T.int 4,T.int 3] (if many=4 then 1 else 0:Int)=some (T.int (BA many:Int)):=by
  unfold BA
  by_cases h:many=4
  ·rw [if_pos h,if_pos h];exact AD (j:=1) rfl
  ·rw [if_neg h,if_neg h];exact AD (j:=0) rfl
 have hz0:0<=z % (BA many:Int):=Int.emod_nonneg _ (by omega)
 have hz1:z % (BA many:Int) < BA many:=Int.emod_lt_of_pos _ (by omega)
 obtain ⟨n,hn1⟩:∃ n:Nat,(n:Int)=1+z % (BA many:Int):=⟨(1+z % (BA many:Int)).toNat,by omega⟩
 have s8:AY 8 (AE Ek Am) [vl sc,some (.own (.lst ((d1++[z]).map T.int))),iv (many:Int),vl (.lst (names.map T.str)),vl (.lst (makers.map T.str)),some (.own (.lst (K.map Ax))),iv (u:Int),iv (a:Int),x8,x9] =
   .nx [vl sc,some (.own (.lst (d1.map T.int++[T.int z]))),iv (many:Int),vl (.lst (names.map T.str)),vl (.lst (makers.map T.str)),some (.own (.lst (K.map Ax))),iv (u:Int),iv (a:Int),some (.own (.lst [])),x9]:=by
  rw [List.map_append]
  cases x8 with
  | none=>rfl
  | some s=>cases s with
   | val t=>rfl
   | own o=>rfl
   | bor o=>exact h8.elim
 obtain ⟨rows,es,y9,r1,R,r2,f9,er⟩:=rows_loop (sc:=sc) (many:=(many:Int)) (names:=names) (makers:=makers) (got:=K.map Ax) (u:=u) (a:=a) (n:=n) (ds:=d1) (x9:=x9) (by omega) (by omega) (by omega) (by omega) (by omega) h9
 have eq4:Ag (gEq false) (Aa 2) (gc (.int 4)) [vl sc,some (.own (.lst (d1.map T.int))),iv (many:Int),vl (.lst (names.map T.str)),vl (.lst (makers.map T.str)),some (.own (.lst (K.map Ax))),iv (u:Int),iv (a:Int),some (.own (.lst [])),x9]=.ok (.t (.bl (decide (many=4)))) [vl sc,some (.own (.lst (d1.map T.int))),iv (many:Int),vl (.lst (names.map T.str)),vl (.lst (makers.map T.str)),some (.own (.lst (K.map Ax))),iv (u:Int),iv (a:Int),some (.own (.lst [])),x9]:=by
  refine Af (Ab rfl) AA ?_
  have q:decide (V.int (many:Int)=V.int 4)=decide (many=4):=by
   by_cases h:many=4
   ·rw [h];rfl
   ·rw [decide_eq_false h,decide_eq_false (by intro z;cases z;exact h rfl)]
  show (if scal (V.int (many:Int)) (V.int 4)=true then okT (.bl (if false=true then _ else decide (V.int (many:Int)=V.int 4))) _ else .bad)=_
  rw [if_pos (show scal (V.int (many:Int)) (V.int 4)=true from rfl),q]
  rfl
 have ei:Al gInt1 (Ac (Ag (gEq false) (Aa 2) (gc (.int 4))) Am) [vl sc,some (.own (.lst (d1.map T.int))),iv (many:Int),vl (.lst (names.map T.str)),vl (.lst (makers.map T.str)),some (.own (.lst (K.map Ax))),iv (u:Int),iv (a:Int),some (.own (.lst [])),x9]=.ok (.t (.int (if many=4 then 1 else 0))) [vl sc,some (.own (.lst (d1.map T.int))),iv (many:Int),vl (.lst (names.map T.str)),vl (.lst (makers.map T.str)),some (.own (.lst (K.map Ax))),iv (u:Int),iv (a:Int),some (.own (.lst [])),x9]:=by
  refine DE (AK eq4 rfl) ?_
  show okT (.int (if decide (many=4)=true then 1 else 0)) _=_
  by_cases h:many=4
  ·rw [if_pos h,decide_eq_true h];rfl
  ·rw [if_neg h,decide_eq_false h];rfl
 have ec:Ac (Ag AF (gc (.int 1)) (Ag Cu (fz (A0 gPop (Aa 1) Am)) (Ag AH (AE CY (Ac (gc (.int 4)) (Ac (gc (.int 3)) Am))) (Al gInt1 (Ac (Ag (gEq false) (Aa 2) (gc (.int 4))) Am))))) Am [vl sc,some (.own (.lst (d1.map T.int++[T.int z]))),iv (many:Int),vl (.lst (names.map T.str)),vl (.lst (makers.map T.str)),some (.own (.lst (K.map Ax))),iv (u:Int),iv (a:Int),some (.own (.lst [])),x9]=.ok [.t (.int (n:Int))] [vl sc,some (.own (.lst (d1.map T.int))),iv (many:Int),vl (.lst (names.map T.str)),vl (.lst (makers.map T.str)),some (.own (.lst (K.map Ax))),iv (u:Int),iv (a:Int),some (.own (.lst [])),x9]:=by
  rw [hn1]
  exact BR (GA AA (GA (popO_ok (ts:=d1.map T.int) rfl rfl) (Af (FR rfl rfl (by decide)) ei (BJ rfl em)) (Cw (by omega))) Bh) rfl
 have en:atI (names.map T.str) (a:Int)=some (T.str (names.getD a ⟨#[]⟩)):=AD (by
  have ha':a < names.length:=by omega
  rw [List.getElem?_map,List.getElem?_eq_getElem ha']
  simp [List.getD,ha'])
 refine ⟨rows,es,vl (.lst (rows.map CB)),y9,by omega,by omega,R,by simp at hd1 ⊢;omega,AS,f9,?_⟩
 rw [AQ s8,AQ (for1_st ec (by omega) er)]
 have e1:K.map Ax++[T.tup [T.str (names.getD a ⟨#[]⟩),T.lst (rows.map CB)]]=(K++[(names.getD a ⟨#[]⟩,rows)]).map Ax:=by rw [List.map_append];rfl
 rw [<- e1,r1]
 exact app_st (i:=5) rfl (HJ (g:=Ba) (ts:=[T.str (names.getD a ⟨#[]⟩),T.lst (rows.map CB)]) (BR (Af (Ab rfl) (Ay (Ab rfl)) (BJ rfl en)) (BR (show fz (Aa 8) _=.ok (.t (.lst (rows.map CB))) _ from rfl) (show Am _=.ok [] _ from rfl))) rfl (show 2<=big by decide) rfl) rfl (by rw [List.length_map];show _ < 1000000;omega) rfl
abbrev Kd:=List (Str×List (Str×List Str))
def used (K:Kd):Nat:=(K.map (·.2.length)).sum
structure KOk (names makers:List Str) (K:Kd):Prop where
 at_:∀ a kd,K[a]?=some kd->kd.1=names.getD a ⟨#[]⟩/\1<=kd.2.length/\kd.2.length<=4/\Rows names makers a (used (K.take a)) kd.2
theorem KOk.nil {names makers:List Str}:KOk names makers []:=⟨fun a kd e=>by simp at e⟩
theorem KOk.snoc {names makers:List Str} {K:Kd} (h:KOk names makers K) {rows:List (Str×List Str)} (h1:1<=rows.length) (h2:rows.length<=4) (R:Rows names makers K.length (used K) rows):KOk names makers (K++[(names.getD K.length ⟨#[]⟩,rows)]):=by
 refine ⟨fun a kd e=>?_⟩
 rcases Nat.lt_trichotomy a K.length with q | q | q
 ·rw [List.getElem?_append_left q] at e
  have:=h.at_ a kd e
  rwa [List.take_append_of_le_length (by omega)]
 ·subst q
  have e':kd=(names.getD K.length ⟨#[]⟩,rows):=by simpa using e.symm
  subst e'
  refine ⟨rfl,h1,h2,?_⟩
  rw [List.take_left']
  ·exact R
  ·rfl
 ·rw [List.getElem?_eq_none (by simp;omega)] at e
  cases e
theorem used_snoc {K:Kd} {k:Str} {rows:List (Str×List Str)}:used (K++[(k,rows)])=used K+rows.length:=by
 unfold used
 simp
theorem setS_nw {i:Nat} {f:FS->Out Rv} {fs fs1 fs':FS} {o:FO} (h:f fs=.ok (.nw o) fs1) (hs:stSl i (.nw o) fs1=some fs'):AY i f fs=.nx fs':=by
 unfold AY
 rw [h]
 show (match stSl i (.nw o) fs1 with | some fs=>SO.nx fs | none=>.bad)=_
 rw [hs]
theorem GL {f:FS->Out Rv} {fs fs1:FS} {o:FO} (h:f fs=.ok (.nw o) fs1):fz f fs=.ok (.t (toT o)) fs1:=by
 unfold fz
 rw [h]
 rfl
theorem kinds_loop {sc:T} {many:Nat} {names makers:List Str} {ds:List Int} (hn:names.length=many) (hm:many<=4) (hm12:makers.length=12) (hd:60<=ds.length) :
  ∃ (K:Kd) (x1 x6 x7 x8 x9:Option Sl),K.length=many/\KOk names makers K/\used K<=12/\Ei (tgN 7) (AL (AY 8 (AE Ek Am))
  (AL (Df (itR1 (Ac (Ag AF (gc (.int 1)) (Ag Cu (fz (A0 gPop (Aa 1) Am)) (Ag AH (AE CY (Ac (gc (.int 4)) (Ac (gc (.int 3)) Am))) (Al gInt1 (Ac (Ag (gEq false) (Aa 2) (gc (.int 4))) Am))))) Am)) (tgN 9) (AL (Bi (A0 Ex (Aa 8) (Ac (AE Ba (Ac (Ag AH (Aa 4) (fz (Aa 6))) (Ac (fz (Al (Az 4 Cg) (Ad (fz (Aa 3)) (Ad (fz (Aa 7)) (Ad (Ag (gEq false) (Aa 9) (gc (.int 0))) (Ad (Aa 1) Am)))))) Am))) Am)))
  (AY 6 (Ag AF (Aa 6) (gc (.int 1))))))
  (Bi (A0 Ex (Aa 5) (Ac (AE Ba (Ac (Ag AH (Aa 3) (fz (Aa 7))) (Ac (fz (Aa 8)) Am))) Am))))) (FL.upTo 0 many) [vl sc,some (.own (.lst (ds.map T.int))),iv (many:Int),vl (.lst (names.map T.str)),vl (.lst (makers.map T.str)),some (.own (.lst [])),iv 0,none,none,none] =
   .nx [vl sc,x1,iv (many:Int),vl (.lst (names.map T.str)),vl (.lst (makers.map T.str)),some (.own (.lst (K.map Ax))),x6,x7,x8,x9]:=by
 have hmr:(BA many=3/\many=4)∨(BA many=4/\many<=3):=by unfold BA;split <;> omega
 obtain ⟨fs',ef,K,es,x7,x8,x9,rfl,hle,KO,hu,he,f7,f8,f9,hts⟩:=Bx (gt:=tgN 7) (body:=(AL (AY 8 (AE Ek Am))
  (AL (Df (itR1 (Ac (Ag AF (gc (.int 1)) (Ag Cu (fz (A0 gPop (Aa 1) Am)) (Ag AH (AE CY (Ac (gc (.int 4)) (Ac (gc (.int 3)) Am))) (Al gInt1 (Ac (Ag (gEq false) (Aa 2) (gc (.int 4))) Am))))) Am)) (tgN 9) (AL (Bi (A0 Ex (Aa 8) (Ac (AE Ba (Ac (Ag AH (Aa 4) (fz (Aa 6))) (Ac (fz (Al (Az 4 Cg) (Ad (fz (Aa 3)) (Ad (fz (Aa 7)) (Ad (Ag (gEq false) (Aa 9) (gc (.int 0))) (Ad (Aa 1) Am)))))) Am))) Am)))
  (AY 6 (Ag AF (Aa 6) (gc (.int 1))))))
  (Bi (A0 Ex (Aa 5) (Ac (AE Ba (Ac (Ag AH (Aa 3) (fz (Aa 7))) (Ac (fz (Aa 8)) Am))) Am))))))
  (fun ts fs=>∃ (K:Kd) (es:List Int) (x7 x8 x9:Option Sl),fs=[vl sc,some (.own (.lst (es.map T.int))),iv (many:Int),vl (.lst (names.map T.str)),vl (.lst (makers.map T.str)),some (.own (.lst (K.map Ax))),iv ((used K:Nat):Int),x7,x8,x9]/\K.length<=many/\KOk names makers K/\used K<=K.length * BA many/\ds.length<=es.length+13 * K.length/\Fre x7/\Fre x8/\Fre x9/\ts=(FL.upTo 0 many).drop K.length)
  (fun t' ts fs h=>by
   obtain ⟨K,es,x7,x8,x9,rfl,hle,KO,hu,he,f7,f8,f9,hts⟩:=h
   have hlt:K.length < many:=by
    have:=congrArg List.length hts
    simp [FL.upTo] at this
    omega
   have hc:=List.drop_eq_getElem_cons (l:=FL.upTo 0 many) (i:=K.length) (by simp [FL.upTo];exact hlt)
   rw [hc] at hts
   obtain ⟨e1,e2⟩:=List.cons.inj hts
   have e3:t'=T.int (K.length:Int):=by
    rw [e1]
    simp [FL.upTo]
   subst e3
   have hu2:used K+BA many<=12:=by
    rcases hmr with ⟨q1,q2⟩ | ⟨q1,q2⟩
    ·rw [q1] at hu ⊢;omega
    ·rw [q1] at hu ⊢;omega
   obtain ⟨rows,es',y8,y9,r1,r2,R,r3,g8,g9,e⟩:=kind_turn (sc:=sc) (many:=many) (a:=K.length) (u:=used K) (names:=names) (makers:=makers) (K:=K) (ds:=es) (x8:=x8) (x9:=x9) hn hlt (by omega) (by omega) f8 f9 (by omega)
   refine ⟨_,_,(by unfold tgN;exact AR rfl f7),e,K++[(names.getD K.length ⟨#[]⟩,rows)],es',iv (K.length:Int),y8,y9,?_,by simp;omega,KO.snoc r1 (by omega) R,?_,by simp;omega,AS,g8,g9,?_⟩
   ·rw [used_snoc]
   ·rw [used_snoc,List.length_append,List.length_singleton,Nat.add_mul]
    omega
   ·rw [e2,List.length_append,List.length_singleton])
  (FL.upTo 0 many) [vl sc,some (.own (.lst (ds.map T.int))),iv (many:Int),vl (.lst (names.map T.str)),vl (.lst (makers.map T.str)),some (.own (.lst [])),iv 0,none,none,none] ⟨[],ds,none,none,none,rfl,Nat.zero_le _,KOk.nil,by simp [used],by simp,Au,Au,Au,rfl⟩
 have hi2:K.length=many:=by
  have:=congrArg List.length hts
  simp [FL.upTo] at this
  omega
 refine ⟨K,_,_,_,_,_,hi2,KO,?_,ef⟩
 rcases hmr with ⟨q1,q2⟩ | ⟨q1,q2⟩
 ·rw [q1,hi2] at hu;omega
 ·rw [q1,hi2] at hu;omega
theorem Gq (c:Int) (n:Nat):(nms c n).length=n:=by unfold nms;simp
theorem kinds {ns:List Int} (h0:Builtin.Int.intBits (ns.getD 0 0)<=2 ^ 20) (h1:Builtin.Int.intBits (ns.getD 1 0)<=2 ^ 20) :
  ∃ (K:Kd),1<=K.length/\K.length<=4/\KOk (nms (ns.getD 0 0) K.length) (nms (ns.getD 1 0) 12) K/\used K<=12/\Eo [vl (.scr (ns.map T.int))]=.ok (.nw (.lst (K.map Ax))) [vl (.scr (ns.map T.int))]:=by
 obtain ⟨ds,hd,ed⟩:=digits (t:=.scr (ns.map T.int)) (ns:=ns) (.inl rfl) (a:=0) (b:=3) (by decide) (by decide) (by decide) (by decide)
 have ec0:=cell_at ns 0
 have ec1:=cell_at ns 1
 generalize hS:T.scr (ns.map T.int)=sc at ed ec0 ec1 ⊢
 obtain ⟨d1,z,rfl,hd1⟩:=last1 (xs:=ds) (by omega)
 have s1:AY 1 (Al (Az 3 Dn) (Ad (fz (Aa 0)) (Ad (gc (.int 0)) (Ad (gc (.int 3)) Am)))) [vl sc,none,none,none,none,none,none,none,none,none]=.nx [vl sc,some (.own (.lst (d1.map T.int++[T.int z]))),none,none,none,none,none,none,none,none]:=by
  have e:=DD (p:=3) (Fn:=Dn) (fs:=[vl sc,none,none,none,none,none,none,none,none,none]) (Aj (Ay (Ab (i:=0) rfl)) (Aj (AA (t:=.int 0)) (Aj (AA (t:=.int 3)) (show Am _=.ok [] _ from rfl)))) rfl (by rw [show Dd _ _=[] from rfl];exact List.nodup_nil) ed (AZ rfl)
  rw [List.map_append] at e
  exact setS_nw e rfl
 have hq:∃ q:Nat,1<=q/\q<=4/\atI [T.int 1,T.int 2,T.int 3,T.int 2,T.int 1,T.int 4,T.int 2,T.int 3] (z % 8)=some (T.int (q:Int)):=by
  have h:z % 8=((0:Nat):Int)∨z % 8=((1:Nat):Int)∨z % 8=((2:Nat):Int)∨z % 8=((3:Nat):Int)∨z % 8=((4:Nat):Int)∨z % 8=((5:Nat):Int)∨z % 8=((6:Nat):Int)∨z % 8=((7:Nat):Int):=by omega
  rcases h with h | h | h | h | h | h | h | h <;> rw [h]
  ·exact ⟨1,by omega,by omega,AD rfl⟩
  ·exact ⟨2,by omega,by omega,AD rfl⟩
  ·exact ⟨3,by omega,by omega,AD rfl⟩
  ·exact ⟨2,by omega,by omega,AD rfl⟩
  ·exact ⟨1,by omega,by omega,AD rfl⟩
  ·exact ⟨4,by omega,by omega,AD rfl⟩
  ·exact ⟨2,by omega,by omega,AD rfl⟩
  ·exact ⟨3,by omega,by omega,AD rfl⟩
 obtain ⟨q,q1,q4,eq⟩:=hq
 have s2:AY 2 (Ag AH (AE CY (Ac (gc (.int 1)) (Ac (gc (.int 2)) (Ac (gc (.int 3)) (Ac (gc (.int 2)) (Ac (gc (.int 1)) (Ac (gc (.int 4)) (Ac (gc (.int 2)) (Ac (gc (.int 3)) Am))))))))) (Ag Cu (fz (A0 gPop (Aa 1) Am)) (gc (.int 8)))) [vl sc,some (.own (.lst (d1.map T.int++[T.int z]))),none,none,none,none,none,none,none,none]=.nx [vl sc,some (.own (.lst (d1.map T.int))),iv (q:Int),none,none,none,none,none,none,none] :=
  C3 (GA (FR rfl rfl (by decide)) (GA (popO_ok (ts:=d1.map T.int) rfl rfl) AA (Cw (by decide))) (BJ rfl eq)) rfl
 have en0:=names (c:=ns.getD 0 0) (n:=q) (by omega) h0
 have en1:=names (c:=ns.getD 1 0) (n:=12) (by omega) h1
 generalize ns.getD 0 0=c0 at ec0 en0 ⊢
 generalize ns.getD 1 0=c1 at ec1 en1 ⊢
 have s3:AY 3 (fz (Al (Az 2 CM) (Ad (fz (Al (Az 2 BL) (Ad (fz (Aa 0)) (Ad (gc (.int 0)) Am)))) (Ad (fz (Aa 2)) Am)))) [vl sc,some (.own (.lst (d1.map T.int))),iv (q:Int),none,none,none,none,none,none,none]=.nx [vl sc,some (.own (.lst (d1.map T.int))),iv (q:Int),vl (.lst ((nms c0 q).map T.str)),none,none,none,none,none,none]:=by
  have e1:=DC (p:=2) (Fn:=BL) (fs:=[vl sc,some (.own (.lst (d1.map T.int))),iv (q:Int),none,none,none,none,none,none,none]) (Aj (Ay (Ab (i:=0) rfl)) (Aj (AA (t:=.int 0)) (show Am _=.ok [] _ from rfl))) rfl (by rw [show Dd _ _=[] from rfl];exact List.nodup_nil) ec0 (AZ rfl)
  have e2:=DD (p:=2) (Fn:=CM) (Aj (C7 e1) (Aj (Ay (Ab (i:=2) rfl)) (show Am _=.ok [] _ from rfl))) rfl (by rw [show Dd _ _=[] from rfl];exact List.nodup_nil) en0 (AZ rfl)
  exact C3 (GL e2) rfl
 have s4:AY 4 (fz (Al (Az 2 CM) (Ad (fz (Al (Az 2 BL) (Ad (fz (Aa 0)) (Ad (gc (.int 1)) Am)))) (Ad (gc (.int 12)) Am)))) [vl sc,some (.own (.lst (d1.map T.int))),iv (q:Int),vl (.lst ((nms c0 q).map T.str)),none,none,none,none,none,none]=.nx [vl sc,some (.own (.lst (d1.map T.int))),iv (q:Int),vl (.lst ((nms c0 q).map T.str)),vl (.lst ((nms c1 12).map T.str)),none,none,none,none,none]:=by
  have e1:=DC (p:=2) (Fn:=BL) (fs:=[vl sc,some (.own (.lst (d1.map T.int))),iv (q:Int),vl (.lst ((nms c0 q).map T.str)),none,none,none,none,none,none]) (Aj (Ay (Ab (i:=0) rfl)) (Aj (AA (t:=.int 1)) (show Am _=.ok [] _ from rfl))) rfl (by rw [show Dd _ _=[] from rfl];exact List.nodup_nil) ec1 (AZ rfl)
  have e2:=DD (p:=2) (Fn:=CM) (Aj (C7 e1) (Aj (AA (t:=.int 12)) (show Am _=.ok [] _ from rfl))) rfl (by rw [show Dd _ _=[] from rfl];exact List.nodup_nil) en1 (AZ rfl)
  exact C3 (GL e2) rfl
 obtain ⟨K,x1,x6,x7,x8,x9,hK,KO,hu,ef⟩:=kinds_loop (sc:=sc) (many:=q) (names:=nms c0 q) (makers:=nms c1 12) (ds:=d1) (Gq _ _) q4 (Gq _ _) (by omega)
 have s5:AY 5 (AE Ek Am) [vl sc,some (.own (.lst (d1.map T.int))),iv (q:Int),vl (.lst ((nms c0 q).map T.str)),vl (.lst ((nms c1 12).map T.str)),none,none,none,none,none]=.nx [vl sc,some (.own (.lst (d1.map T.int))),iv (q:Int),vl (.lst ((nms c0 q).map T.str)),vl (.lst ((nms c1 12).map T.str)),some (.own (.lst [])),none,none,none,none]:=rfl
 have s6:AY 6 (gc (.int 0)) [vl sc,some (.own (.lst (d1.map T.int))),iv (q:Int),vl (.lst ((nms c0 q).map T.str)),vl (.lst ((nms c1 12).map T.str)),some (.own (.lst [])),none,none,none,none]=.nx [vl sc,some (.own (.lst (d1.map T.int))),iv (q:Int),vl (.lst ((nms c0 q).map T.str)),vl (.lst ((nms c1 12).map T.str)),some (.own (.lst [])),iv 0,none,none,none]:=rfl
 have all:Gg [vl sc,none,none,none,none,none,none,none,none,none]=.ret (.rf 5) [vl sc,x1,iv (q:Int),vl (.lst ((nms c0 q).map T.str)),vl (.lst ((nms c1 12).map T.str)),some (.own (.lst (K.map Ax))),x6,x7,x8,x9]:=by
  unfold Gg
  rw [AQ s1,AQ s2,AQ s3,AQ s4,AQ s5,AQ s6,AQ (for1_ok (n:=q) (fa:=Ac (Aa 2) Am) (AK (Ab rfl) rfl) (by omega) ef)]
  rfl
 refine ⟨K,by omega,by omega,by rw [hK];exact KO,hu,?_⟩
 unfold Eo CV
 show (match Gg [vl sc,none,none,none,none,none,none,none,none,none] with | .nx τ=>_ | .ret (.t t) τ=>_ | .ret (.nw o) τ=>_ | .ret (.rf i) τ=>_ | .exc c τ=>_ | _=>_)=_
 rw [all]
 rfl
theorem put_ok {fv fi:FS->Out Rv} {o:Nat} {fs fs':FS} {v:T} {k:Str} {ks:List Key} {ts:List T} (h0:fs[o]?=some (some (.own (.dK ks ts)))) (hv:fv fs=.ok (.t v) fs) (hi:fi fs=.ok (.t (.str k)) fs) (hn:(ks.any fun k'=>decide (k'=(.inr k:Key)))=false) (hl:ks.length < big)
  (e:fs.set o (some (.own (.dK (ks++[.inr k]) (ts++[v]))))=fs'):CH fv (Aa o) fi fs=.nx fs':=by
 have h1:Aa o fs=.ok (.rf o) fs:=by unfold Aa;rw [h0]
 have h2:FL.A9 fs o=some (.dK ks ts):=by unfold FL.A9;rw [h0]
 have h3:Hk ks ts (.inr k:Key) v=(ks++[.inr k],ts++[v]):=by
  unfold Hk
  rw [hn]
  rfl
 have h4:FL.putAt fs o (.dK (ks++[.inr k]) (ts++[v]))=fs':=by
  unfold FL.putAt
  rw [h0]
  exact e
 have h5:gSetL (.rf o) (.t (.str k)) (.t v) fs=.bad:=rfl
 have h6:gSetD (.rf o) (.t (.str k)) (.t v) fs=.nx fs':=by
  simp only [gSetD,h2,tKey,hl,if_true,h3,h4]
 unfold CH
 rw [hv]
 simp only [Out.bnd,Out.bind]
 rw [h1]
 simp only
 rw [hi]
 simp only [SO.of]
 unfold gSetU
 rw [h5]
 exact h6
theorem Er {i j:Nat} {fs fs1 fs2:FS} {x y:T} (h1:tgN i x fs=some fs1) (h2:tgN j y fs1=some fs2):Bo 2 (As (tgN i) (As (tgN j) Bn)) (.tup [x,y]) fs=some fs2:=by
 have e:Bo 2 (As (tgN i) (As (tgN j) Bn)) (.tup [x,y]) fs=As (tgN i) (As (tgN j) Bn) [x,y] fs:=rfl
 rw [e]
 simp only [As,h1,h2,Option.bind_some,Bn]
def Bw (K:Kd):List Key:=K.map fun kd=>(.inr kd.1:Key)
def rowsK (K:Kd):List T:=K.map fun kd=>T.lst (kd.2.map CB)
theorem any_false {ks:List Key} {k:Key} (h:k∉ks):(ks.any fun k'=>decide (k'=k))=false:=by
 rw [List.any_eq_false]
 intro x hx
 rw [decide_eq_true_eq]
 intro e
 exact h (e▸hx)
theorem table {K:Kd} (hnd:(K.map (·.1)).Nodup) (hl:K.length<=100):En [vl (.lst (K.map Ax))]=.ok (.nw (.dK (Bw K) (rowsK K))) [vl (.lst (K.map Ax))]:=by
 obtain ⟨fs',ef,D,x2,x3,R,rfl,eD,eR,f2,f3⟩:=Bx (gt:=Bo 2 (As (tgN 2) (As (tgN 3) Bn))) (body:=CH (fz (Aa 3)) (Aa 1) (fz (Aa 2)))
  (fun ts fs=>∃ (D:Kd) (x2 x3:Option Sl) (R:Kd),fs=[vl (.lst (K.map Ax)),some (.own (.dK (Bw D) (rowsK D))),x2,x3]/\D++R=K/\ts=R.map Ax/\Fre x2/\Fre x3)
  (fun t' ts fs h=>by
   obtain ⟨D,x2,x3,R,rfl,eD,eR,f2,f3⟩:=h
   cases R with
   | nil=>cases eR
   | cons kd R =>
    rw [List.map_cons] at eR
    obtain ⟨e1,e2⟩:=List.cons.inj eR
    subst e1
    have hnot:(.inr kd.1:Key)∉Bw D:=by
     intro m
     unfold Bw at m
     rw [List.mem_map] at m
     obtain ⟨kd',m',e'⟩:=m
     have e'':kd'.1=kd.1:=by simpa using e'
     rw [<- eD,List.map_append,List.nodup_append] at hnd
     exact hnd.2.2 kd'.1 (List.mem_map.mpr ⟨kd',m',rfl⟩) kd.1 (by simp) e''
    have hlen:(Bw D).length < big:=by
     unfold Bw
     rw [List.length_map]
     have:=congrArg List.length eD
     simp at this
     show D.length < 1000000
     omega
    refine ⟨_,_,Er (by unfold tgN;exact AR rfl f2) (by unfold tgN;exact AR rfl f3),put_ok (o:=1) (v:=T.lst (kd.2.map CB)) (k:=kd.1) rfl (Ay (Ab rfl)) (Ay (Ab rfl)) (any_false hnot) hlen rfl,D++[kd],vl (.str kd.1),vl (.lst (kd.2.map CB)),R,?_,by rw [<- eD];simp,e2,AS,AS⟩
    unfold Bw rowsK
    rw [List.map_append,List.map_append]
    rfl)
  (K.map Ax) [vl (.lst (K.map Ax)),some (.own (.dK [] [])),none,none] ⟨[],none,none,K,rfl,rfl,rfl,Au,Au⟩
 have hR:R=[]:=by
  cases R with
  | nil=>rfl
  | cons a b=>cases eR
 subst hR
 rw [List.append_nil] at eD
 subst eD
 have all:Ga [vl (.lst (D.map Ax)),none,none,none]=.ret (.rf 1) [vl (.lst (D.map Ax)),some (.own (.dK (Bw D) (rowsK D))),x2,x3]:=by
  unfold Ga
  rw [AQ (show AY 1 gNewK [vl (.lst (D.map Ax)),none,none,none]=.nx [vl (.lst (D.map Ax)),some (.own (.dK [] [])),none,none] from rfl)]
  have e1:Df (itU (fz (Aa 0))) (Bo 2 (As (tgN 2) (As (tgN 3) Bn))) (CH (fz (Aa 3)) (Aa 1) (fz (Aa 2))) [vl (.lst (D.map Ax)),some (.own (.dK [] [])),none,none]=.nx [vl (.lst (D.map Ax)),some (.own (.dK (Bw D) (rowsK D))),x2,x3]:=ef
  rw [AQ e1]
  rfl
 unfold En CV
 show (match Ga [vl (.lst (D.map Ax)),none,none,none] with | .nx τ=>_ | .ret (.t t) τ=>_ | .ret (.nw o) τ=>_ | .ret (.rf i) τ=>_ | .exc c τ=>_ | _=>_)=_
 rw [all]
 rfl
theorem sq {g h:FS->SO} {fs fs':FS} {r:SO} (e:g fs=.nx fs') (e2:h fs'=r):AL g h fs=r:=(AQ e).trans e2
theorem Dr {f:FS->Out Rv} {fs fs1:FS} {b:Bool} (h:f fs=.ok (.t (.bl b)) fs1):asB f fs=.ok b fs1:=by
 unfold asB;rw [h];rfl
theorem DY {f:FS->Out Bool} {fs fs1:FS} {b:Bool} (h:f fs=.ok b fs1):DZ f fs=.ok (!b) fs1:=by
 unfold DZ;rw [h];rfl
theorem DW {f:FS->Out Rv} {fs fs1:FS} {b:Bool} (h:f fs=.ok (.t (.bl b)) fs1):Ew f fs=.ok b fs1:=by
 unfold Ew;rw [h];rfl
theorem ifS_st {c:FS->Out Bool} {g h:FS->SO} {fs fs1:FS} {r:SO} (hc:c fs=.ok false fs1) (e:h fs1=r):ifS c g h fs=r:=by
 unfold ifS
 rw [hc]
 exact e
theorem CC {i:Nat} {fs:FS} {o:FO} (h:fs[i]?=some (some (.own o))):Aa i fs=.ok (.rf i) fs:=by unfold Aa;rw [h]
theorem De {i:Nat} {fs:FS} {o:FO} (h:fs[i]?=some (some (.bor o))):Aa i fs=.ok (.rf i) fs:=by unfold Aa;rw [h]
theorem objO {i:Nat} {fs:FS} {o:FO} (h:fs[i]?=some (some (.own o))):FL.A9 fs i=some o:=by unfold FL.A9;rw [h]
theorem objB {i:Nat} {fs:FS} {o:FO} (h:fs[i]?=some (some (.bor o))):FL.A9 fs i=some o:=by unfold FL.A9;rw [h]
theorem bin2_rf {g:Rv->Rv->FS->Out Rv} {fa fb:FS->Out Rv} {fs:FS} {x:T} {i:Nat} {r:Out Rv} (h1:fa fs=.ok (.t x) fs) (h2:fb fs=.ok (.rf i) fs) (h3:g (.t x) (.rf i) fs=r):Ag g fa fb fs=r:=by
 unfold Ag
 rw [h1]
 show (fb fs).bnd _=r
 rw [h2]
 exact h3
theorem HI {f:FS->Out Rv} {fs fs1:FS} {r:Rv} (h:f fs=.ok r fs1):Bi f fs=.nx fs1:=by
 unfold Bi;rw [h];rfl
theorem Ey {κ:Type} [DecidableEq κ]:∀ {ks:List κ} {ts:List T} {k:κ},k∉ks->DP ks ts k=none
 | [],_,_,_=>by unfold DP;rfl
 | k' :: ks,[],k,_=>by unfold DP;rfl
 | k' :: ks,t :: ts,k,h=>by
  have h1:k'≠k:=fun e=>h (e▸List.mem_cons_self)
  have h2:k∉ks:=fun m=>h (List.mem_cons_of_mem _ m)
  simp only [DP,if_neg h1,Ey h2]
theorem Fy {κ α:Type} [DecidableEq κ] {f:α->κ} {g:α->T}:∀ {xs:List α} {x:α},x∈xs->(xs.map f).Nodup->DP (xs.map f) (xs.map g) (f x)=some (g x)
 | y :: ys,x,m,nd=>by
  rw [List.map_cons,List.map_cons]
  unfold DP
  rw [List.map_cons,List.nodup_cons] at nd
  by_cases e:f y=f x
  ·rw [if_pos e]
   rcases List.mem_cons.mp m with rfl | m
   ·rfl
   ·exact (nd.1 (List.mem_map.mpr ⟨x,m,e.symm⟩)).elim
  ·rw [if_neg e]
   rcases List.mem_cons.mp m with rfl | m
   ·exact (e rfl).elim
   ·exact Fy m nd.2
theorem in_rf {neg:Bool} {k:Str} {i:Nat} {ks:List Key} {ts:List T} {fs:FS} (h:FL.A9 fs i=some (.dK ks ts)):HD neg (.t (.str k)) (.rf i) fs=.ok (.t (.bl (if neg then !(DP ks ts (.inr k:Key)).isSome else (DP ks ts (.inr k:Key)).isSome))) fs:=by
 unfold HD orG
 have e:gDIn neg (.t (.str k)) (.rf i) fs=.ok (.t (.bl (if neg then !(DP ks ts (.inr k:Key)).isSome else (DP ks ts (.inr k:Key)).isSome))) fs:=by
  simp only [gDIn,dget,h,tKey,Option.map_some]
  rfl
 rw [e]
theorem in_t {neg:Bool} {k:Str} {ks:List Key} {ts:List T} {fs:FS}:HD neg (.t (.str k)) (.t (.dK ks ts)) fs=.ok (.t (.bl (if neg then !(DP ks ts (.inr k:Key)).isSome else (DP ks ts (.inr k:Key)).isSome))) fs:=rfl
theorem plVs_map:∀ xs:List Str,plVs (xs.map T.str)=some (xs.map V.str)
 | []=>rfl
 | x :: xs=>by
  simp only [List.map_cons,plVs,plV,Option.bind_some,plVs_map xs,Option.map_some]
theorem inV_str (k:Str):∀ xs:List Str,inV (.str k) (xs.map V.str)=decide (k∈xs)
 | []=>by simp [inV]
 | x :: xs=>by
  have:=inV_str k xs
  unfold inV at this ⊢
  rw [List.map_cons,List.any_cons,this]
  have e:eqV (.str x) (.str k)=decide (k=x):=by
   by_cases h:k=x
   ·subst h;simp [eqV]
   ·have h':x≠k:=fun e=>h e.symm
    simp [eqV,h,h']
  rw [e,Bool.eq_iff_iff]
  simp
theorem in_lst {neg:Bool} {k:Str} {xs:List Str} {fs:FS}:HD neg (.t (.str k)) (.t (.lst (xs.map T.str))) fs=.ok (.t (.bl (if neg then !decide (k∈xs) else decide (k∈xs)))) fs:=by
 have e:gIn neg (.t (.str k)) (.t (.lst (xs.map T.str))) fs=.ok (.t (.bl (if neg then !decide (k∈xs) else decide (k∈xs)))) fs:=by
  simp only [gIn,plV,Dt,plVs_map,okT,inV_str]
 exact e
theorem in_rfL {neg:Bool} {k:Str} {xs:List Str} {i:Nat} {fs:FS} (h:FL.A9 fs i=some (.lst (xs.map T.str))):HD neg (.t (.str k)) (.rf i) fs=.ok (.t (.bl (if neg then !decide (k∈xs) else decide (k∈xs)))) fs:=by
 have e:gIn neg (.t (.str k)) (.rf i) fs=.ok (.t (.bl (if neg then !decide (k∈xs) else decide (k∈xs)))) fs:=by
  simp only [gIn,plV,Dt,h,plVs_map,okT,inV_str]
 have e1:gDIn neg (.t (.str k)) (.rf i) fs=.bad:=by
  simp only [gDIn,dget,h]
 unfold HD orG
 rw [e1]
 exact e
theorem chain_le {fa fb fc:FS->Out Rv} {fs:FS} {a b c:Int} (ha:fa fs=.ok (.t (.int a)) fs) (hb:fb fs=.ok (.t (.int b)) fs) (hc:fc fs=.ok (.t (.int c)) fs) (h1:a<=b) (h2:b<=c):DZ (asB (chain gLe gLe fa fb fc)) fs=.ok false fs:=by
 have e1:gLe (.t (.int a)) (.t (.int b)) fs=.ok (.t (.bl true)) fs:=by
  show okT (.bl (decide (a<=b))) _=_
  rw [decide_eq_true h1]
  rfl
 have e2:gLe (.t (.int b)) (.t (.int c)) fs=.ok (.t (.bl true)) fs:=by
  show okT (.bl (decide (b<=c))) _=_
  rw [decide_eq_true h2]
  rfl
 simp only [DZ,asB,chain,Out.bnd,Out.bind,ha,hb,hc,e1,e2,Bool.not_true]
theorem D1 {x:T} {ts:List T} {f:FS->Out Rv} {fs fs1:FS} (h:f fs=.ok (.t x) fs1) (hs:x=.lst ts∨x=.tup ts):Al Bm (Ac f Am) fs=.ok (.t (.int ts.length)) fs1:=by
 unfold Al
 rw [BR h (show Am fs1=.ok [] fs1 from rfl)]
 rcases hs with rfl | rfl <;> rfl
theorem D3 {p:Nat} {Fn:FS->Out Rv} {fa:FS->Out (List Rv)} {fs fs1 τ:FS} {rs:List Rv} {t:T} (ha:fa fs=.ok rs fs1) (hp:rs.length=p) (hn:Dd fs1 (rs.map Dl)=[]) (hf:Fn (EM fs1 (rs.map Dl))=.ok (.t t) τ):Al (Az p Fn) fa fs=.ok (.t t) fs1 :=
 DC ha hp (by rw [hn];exact List.nodup_nil) hf (AZ hn)
theorem A8 {fs:FS}:Am fs=.ok [] fs:=rfl
theorem BU {K:Kd} (h1:1<=K.length) (h4:K.length<=4) (hnd:(K.map (·.1)).Nodup) (hnm:∀ kd∈K,Bv [vl (.str kd.1)]=.ok (.t (.bl true)) [vl (.str kd.1)]) (hrw:∀ kd∈K,1<=kd.2.length/\kd.2.length<=4) :
  Co [vl (.lst (K.map Ax))]=.ok (.t .non) [vl (.lst (K.map Ax))]:=by
 have all:∃ x1 x2 x3,CQ [vl (.lst (K.map Ax)),none,none,none]=.nx [vl (.lst (K.map Ax)),x1,x2,x3]:=by
  unfold CQ
  obtain ⟨fs',ef,D,R,x2,x3,ts,rfl,eD,eR,f2,f3⟩:=Bx (gt:=Bo 2 (As (tgN 2) (As (tgN 3) Bn))) (body:=(AL (ifS (DZ (Ew (fz (Al (Az 1 Bv) (Ad (fz (Aa 2)) Am))))) (fun _=>.bad) nxS)
  (AL (ifS (asB (Ag (HD false) (fz (Aa 2)) (Aa 1))) (fun _=>.bad) nxS)
  (AL (ifS (DZ (asB (chain gLe gLe (gc (.int 1)) (Al Bm (Ac (Aa 3) Am)) (gc (.int 4))))) (fun _=>.bad) nxS)
  (CH (gc (.bl true)) (Aa 1) (fz (Aa 2)))))))
   (fun ts fs=>∃ (D R:Kd) (x2 x3:Option Sl) (vs:List T),fs=[vl (.lst (K.map Ax)),some (.own (.dK (Bw D) vs)),x2,x3]/\D++R=K/\ts=R.map Ax/\Fre x2/\Fre x3)
   (fun t' ts fs h=>by
    obtain ⟨D,R,x2,x3,vs,rfl,eD,eR,f2,f3⟩:=h
    cases R with
    | nil=>cases eR
    | cons kd R =>
     rw [List.map_cons] at eR
     obtain ⟨e1,e2⟩:=List.cons.inj eR
     subst e1
     have hm:kd∈K:=by rw [<- eD];simp
     have hnot:(.inr kd.1:Key)∉Bw D:=by
      intro m
      unfold Bw at m
      rw [List.mem_map] at m
      obtain ⟨kd',m',e'⟩:=m
      have e'':kd'.1=kd.1:=by simpa using e'
      rw [<- eD,List.map_append,List.nodup_append] at hnd
      exact hnd.2.2 kd'.1 (List.mem_map.mpr ⟨kd',m',rfl⟩) kd.1 (by simp) e''
     have hlen:(Bw D).length < big:=by
      unfold Bw
      rw [List.length_map]
      have:=congrArg List.length eD
      simp at this
      show D.length < 1000000
      omega
     have hr:=hrw kd hm
     refine ⟨[vl (.lst (K.map Ax)),some (.own (.dK (Bw D) vs)),vl (.str kd.1),vl (.lst (kd.2.map CB))],[vl (.lst (K.map Ax)),some (.own (.dK (Bw D++[.inr kd.1]) (vs++[.bl true]))),vl (.str kd.1),vl (.lst (kd.2.map CB))],Er (by unfold tgN;exact AR rfl f2) (by unfold tgN;exact AR rfl f3),?_,D++[kd],R,vl (.str kd.1),vl (.lst (kd.2.map CB)),vs++[.bl true],?_,by rw [<- eD];simp,e2,AS,AS⟩
     ·refine sq (ifS_st (DY (DW (C7 (D3 (Aj (Ay (Ab (t:=.str kd.1) rfl)) A8) rfl rfl (hnm kd hm))))) rfl) ?_
      refine sq (BW (Dr (b:=false) (bin2_rf (Ay (Ab (t:=.str kd.1) rfl)) (CC rfl) ?_)) rfl) ?_
      ·rw [in_rf (objO rfl),Ey hnot]
       rfl
      refine sq (BW (chain_le AA (D1 (Ab rfl) (.inl rfl)) AA (by rw [List.length_map];omega) (by rw [List.length_map];omega)) rfl) ?_
      exact put_ok (o:=1) (v:=.bl true) (k:=kd.1) rfl AA (Ay (Ab rfl)) (any_false hnot) hlen rfl
     ·unfold Bw
      rw [List.map_append]
      rfl)
   (K.map Ax) [vl (.lst (K.map Ax)),some (.own (.dK [] [])),none,none] ⟨[],K,none,none,[],rfl,rfl,rfl,Au,Au⟩
  refine ⟨some (.own (.dK (Bw D) ts)),x2,x3,?_⟩
  refine sq (BW (chain_le AA (D1 (Ab rfl) (.inl rfl)) AA (by rw [List.length_map];omega) (by rw [List.length_map];omega)) rfl) ?_
  exact sq (fs':=[vl (.lst (K.map Ax)),some (.own (.dK [] [])),none,none]) rfl ef
 obtain ⟨x1,x2,x3,all⟩:=all
 unfold Co CV
 show (match CQ [vl (.lst (K.map Ax)),none,none,none] with | .nx τ=>_ | .ret (.t t) τ=>_ | .ret (.nw o) τ=>_ | .ret (.rf i) τ=>_ | .exc c τ=>_ | _=>_)=_
 rw [all]
 rfl
theorem gt_ok {fa fb:FS->Out Rv} {fs:FS} {a b:Int} (h1:fa fs=.ok (.t (.int a)) fs) (h2:fb fs=.ok (.t (.int b)) fs):asB (Ag gGt fa fb) fs=.ok (decide (b < a)) fs:=Dr (Af h1 h2 rfl)
theorem gt_f {fa fb:FS->Out Rv} {fs:FS} {a b:Int} (h1:fa fs=.ok (.t (.int a)) fs) (h2:fb fs=.ok (.t (.int b)) fs) (h:¬ b < a):asB (Ag gGt fa fb) fs=.ok false fs:=by
 rw [gt_ok h1 h2,decide_eq_false h]
theorem gEq_s {x y:Str} {fs:FS}:gEq false (.t (.str x)) (.t (.str y)) fs=.ok (.t (.bl (decide (x=y)))) fs:=by
 have q:decide (V.str x=V.str y)=decide (x=y):=by
  by_cases h:x=y
  ·subst h;simp
  ·rw [decide_eq_false h,decide_eq_false (by intro z;cases z;exact h rfl)]
 show (if scal (V.str x) (V.str y)=true then okT (.bl (if false=true then _ else decide (V.str x=V.str y))) fs else .bad)=_
 rw [if_pos (show scal (V.str x) (V.str y)=true from rfl),q]
 rfl
theorem eqS_ok {fa fb:FS->Out Rv} {fs:FS} {x y:Str} (h1:fa fs=.ok (.t (.str x)) fs) (h2:fb fs=.ok (.t (.str y)) fs):asB (Ag (gEq false) fa fb) fs=.ok (decide (x=y)) fs:=Dr (Af h1 h2 gEq_s)
theorem BS {m:Str} {ps names:List Str} {ks:List Key} {vs:List T} (hn:Bv [vl (.str m)]=.ok (.t (.bl true)) [vl (.str m)]) (hk:(.inr m:Key)∉ks) (h2:ps.length<=2) (hp:∀ p∈ps,p∈names) :
  Bq [vl (.str m),vl (.tup (ps.map T.str)),some (.bor (.dK ks vs)),vl (.lst (names.map T.str))]=.ok (.t .non) [vl (.str m),vl (.tup (ps.map T.str)),some (.bor (.dK ks vs)),vl (.lst (names.map T.str))]:=by
 have all:∃ x4,CP [vl (.str m),vl (.tup (ps.map T.str)),some (.bor (.dK ks vs)),vl (.lst (names.map T.str)),none]=.nx [vl (.str m),vl (.tup (ps.map T.str)),some (.bor (.dK ks vs)),vl (.lst (names.map T.str)),x4]:=by
  unfold CP
  obtain ⟨fs',ef,x4,rfl,f4,_⟩:=Bx (gt:=tgN 4) (body:=(ifS (asB (Ag (HD true) (fz (Aa 4)) (Aa 3))) (fun _=>.bad) nxS))
   (fun ts fs=>∃ x4,fs=[vl (.str m),vl (.tup (ps.map T.str)),some (.bor (.dK ks vs)),vl (.lst (names.map T.str)),x4]/\Fre x4/\∀ t∈ts,∃ p∈names,t=.str p)
   (fun t' ts fs h=>by
    obtain ⟨x4,rfl,f4,ht⟩:=h
    obtain ⟨p,mp,rfl⟩:=ht t' List.mem_cons_self
    refine ⟨_,_,(by unfold tgN;exact AR rfl f4),BW (Dr (b:=false) (Af (Ay (Ab rfl)) (Ab rfl) ?_)) rfl,_,rfl,AS,fun t m=>ht t (List.mem_cons_of_mem _ m)⟩
    rw [in_lst,decide_eq_true mp]
    rfl)
   (ps.map T.str) [vl (.str m),vl (.tup (ps.map T.str)),some (.bor (.dK ks vs)),vl (.lst (names.map T.str)),none] ⟨none,rfl,Au,fun t mt=>by
    rw [List.mem_map] at mt
    obtain ⟨p,mp,rfl⟩:=mt
    exact ⟨p,hp p mp,rfl⟩⟩
  refine ⟨x4,?_⟩
  refine sq (ifS_st (DY (DW (C7 (D3 (Aj (Ay (Ab (t:=.str m) rfl)) A8) rfl rfl hn)))) rfl) ?_
  refine sq (BW (Dr (b:=false) (bin2_rf (Ay (Ab (t:=.str m) rfl)) (De rfl) ?_)) rfl) ?_
  ·rw [in_rf (objB rfl),Ey hk]
   rfl
  refine sq (BW (gt_f (D1 (Ab rfl) (.inr rfl)) AA (by rw [List.length_map];omega)) rfl) ?_
  exact ef
 obtain ⟨x4,all⟩:=all
 unfold Bq CV
 show (match CP [vl (.str m),vl (.tup (ps.map T.str)),some (.bor (.dK ks vs)),vl (.lst (names.map T.str)),none] with | .nx τ=>_ | .ret (.t t) τ=>_ | .ret (.nw o) τ=>_ | .ret (.rf i) τ=>_ | .exc c τ=>_ | _=>_)=_
 rw [all]
 rfl
theorem BE {m:Str} {ps names:List Str} (hp:∀ p∈ps,p∈names) :
  Bk [vl (.str m),vl (.tup (ps.map T.str)),some (.bor (.lst (names.map T.str)))]=.ok (.t .non) [vl (.str m),vl (.tup (ps.map T.str)),some (.bor (.lst (names.map T.str)))]:=by
 have all:∃ x3,Cz [vl (.str m),vl (.tup (ps.map T.str)),some (.bor (.lst (names.map T.str))),none]=.nx [vl (.str m),vl (.tup (ps.map T.str)),some (.bor (.lst (names.map T.str))),x3]:=by
  unfold Cz
  obtain ⟨fs',ef,x4,rfl,f4,_⟩:=Bx (gt:=tgN 3) (body:=(ifS (asB (Ag (HD true) (fz (Aa 3)) (Aa 2))) (fun _=>.bad) nxS))
   (fun ts fs=>∃ x4,fs=[vl (.str m),vl (.tup (ps.map T.str)),some (.bor (.lst (names.map T.str))),x4]/\Fre x4/\∀ t∈ts,∃ p∈names,t=.str p)
   (fun t' ts fs h=>by
    obtain ⟨x4,rfl,f4,ht⟩:=h
    obtain ⟨p,mp,rfl⟩:=ht t' List.mem_cons_self
    refine ⟨_,_,(by unfold tgN;exact AR rfl f4),BW (Dr (b:=false) (bin2_rf (Ay (Ab rfl)) (De rfl) ?_)) rfl,_,rfl,AS,fun t m=>ht t (List.mem_cons_of_mem _ m)⟩
    rw [in_rfL (objB rfl),decide_eq_true mp]
    rfl)
   (ps.map T.str) [vl (.str m),vl (.tup (ps.map T.str)),some (.bor (.lst (names.map T.str))),none] ⟨none,rfl,Au,fun t mt=>by
    rw [List.mem_map] at mt
    obtain ⟨p,mp,rfl⟩:=mt
    exact ⟨p,hp p mp,rfl⟩⟩
  exact ⟨x4,ef⟩
 obtain ⟨x4,all⟩:=all
 unfold Bk CV
 show (match Cz [vl (.str m),vl (.tup (ps.map T.str)),some (.bor (.lst (names.map T.str))),none] with | .nx τ=>_ | .ret (.t t) τ=>_ | .ret (.nw o) τ=>_ | .ret (.rf i) τ=>_ | .exc c τ=>_ | _=>_)=_
 rw [all]
 rfl
theorem FV {α:Type} {fe:FS->Out Rv} {f g h:α->T} {rest:FS}:∀ (xs:List α) (x y:Option Sl) (acc:List T),Fre x->Fre y->(∀ a∈xs,fe (vl (f a) :: vl (g a) :: rest)=.ok (.t (h a)) (vl (f a) :: vl (g a) :: rest))->acc.length+xs.length<=big ->
  ∃ x' y',Fre x'/\Fre y'/\Fg (Bo 2 (As (tgN 0) (As (tgN 1) Bn))) EZ fe (xs.map fun a=>.tup [f a,g a]) (x :: y :: rest) acc=some (acc++xs.map h,x' :: y' :: rest)
 | [],x,y,acc,hx,hy,_,_=>⟨x,y,hx,hy,by simp [Fg]⟩
 | a :: xs,x,y,acc,hx,hy,he,hl=>by
  obtain ⟨x',y',fx,fy,e⟩:=FV xs (vl (f a)) (vl (g a)) (acc++[h a]) AS AS (fun t' m=>he t' (List.mem_cons_of_mem _ m)) (by simp at hl ⊢;omega)
  refine ⟨x',y',fx,fy,?_⟩
  have h1:Bo 2 (As (tgN 0) (As (tgN 1) Bn)) (.tup [f a,g a]) (x :: y :: rest)=some (vl (f a) :: vl (g a) :: rest) :=
   Er (by unfold tgN;exact AR rfl hx) (by unfold tgN;exact AR rfl hy)
  have h2:=he a List.mem_cons_self
  have h3:acc.length < big:=by simp at hl;omega
  rw [List.map_cons]
  simp only [Fg,h1,EZ,h2,if_pos h3,e]
  simp
def mks (K:Kd):List Str:=K.flatMap fun kd=>kd.2.map (·.1)
def BN (K:Kd):List Key:=(mks K).map fun m=>(.inr m:Key)
structure Well (K:Kd):Prop where
 lo:1<=K.length
 hi:K.length<=4
 nd:(K.map (·.1)).Nodup
 nm:∀ kd∈K,Bv [vl (.str kd.1)]=.ok (.t (.bl true)) [vl (.str kd.1)]
 rw:∀ kd∈K,1<=kd.2.length/\kd.2.length<=4
 mnd:(mks K).Nodup
 mnm:∀ m∈mks K,Bv [vl (.str m)]=.ok (.t (.bl true)) [vl (.str m)]
 mln:∀ m∈mks K,m.length<=12
 two:∀ kd∈K,∀ r∈kd.2,r.2.length<=2
 prt:∀ kd∈K,∀ r∈kd.2,∀ x∈r.2,x∈K.map (·.1)
 gr:∀ D kd R,K=D++kd :: R->∀ r,kd.2[0]?=some r->∀ x∈r.2,x∈D.map (·.1)
theorem mem_mks {K:Kd} {kd:Str×List (Str×List Str)} {r:Str×List Str} (h1:kd∈K) (h2:r∈kd.2):r.1∈mks K:=List.mem_flatMap.mpr ⟨kd,h1,List.mem_map.mpr ⟨r,h2,rfl⟩⟩
theorem mks_len {K:Kd} (h4:K.length<=4) (hr:∀ kd∈K,kd.2.length<=4):(mks K).length<=16:=by
 have:∀ K:Kd,(∀ kd∈K,kd.2.length<=4)->(mks K).length<=4 * K.length:=by
  intro K
  induction K with
  | nil=>intro _;simp [mks]
  | cons kd K ih =>
   intro h
   have:=ih fun kd m=>h kd (List.mem_cons_of_mem _ m)
   have h1:=h kd List.mem_cons_self
   unfold mks at this ⊢
   rw [List.flatMap_cons,List.length_append,List.length_map,List.length_cons]
   omega
 have:=this K hr
 omega
theorem mks_app (D R:Kd):mks (D++R)=mks D++mks R:=by unfold mks;rw [List.flatMap_append]
theorem GU (kd:Str×List (Str×List Str)) (R:Kd):mks (kd :: R)=kd.2.map (·.1)++mks R:=by unfold mks;rw [List.flatMap_cons]
theorem rows_one {rs:List (Str×List Str)} (h:(rs.map (·.1)).Nodup) {r r':Str×List Str} (m:r∈rs) (m':r'∈rs) (e:r.1=r'.1):r=r':=by
 induction rs with
 | nil=>cases m
 | cons a rs ih =>
  rw [List.map_cons,List.nodup_cons] at h
  rcases List.mem_cons.mp m with q | q
  ·rcases List.mem_cons.mp m' with q' | q'
   ·rw [q,q']
   ·exact (h.1 (List.mem_map.mpr ⟨r',q',by rw [<- e,q]⟩)).elim
  ·rcases List.mem_cons.mp m' with q' | q'
   ·exact (h.1 (List.mem_map.mpr ⟨r,q,by rw [e,q']⟩)).elim
   ·exact ih h.2 q q'
def DN (r:Str×List Str):Key:=.inr r.1
theorem makers_loop {sc:T} {names above:List Str} {ks0:List Key} {vs0:List T} {k first:Str} {rows:List (Str×List Str)} {x7 x8:Option Sl} (f7:Fre x7) (f8:Fre x8)
  (hnm:∀ r∈rows,Bv [vl (.str r.1)]=.ok (.t (.bl true)) [vl (.str r.1)]) (hnd:(ks0++rows.map DN).Nodup) (hlen:ks0.length+rows.length < 1000) (h2:∀ r∈rows,r.2.length<=2) (hp:∀ r∈rows,∀ x∈r.2,x∈names) (hg:∀ r∈rows,r.1=first->∀ x∈r.2,x∈above) :
  ∃ (y7 y8:Option Sl) (vs:List T),Fre y7/\Fre y8/\Ei (Bo 2 (As (tgN 7) (As (tgN 8) Bn))) (AL (Bi (Al (Az 4 Bq) (Ad (fz (Aa 7)) (Ad (fz (Aa 8)) (Ad (Aa 3) (Ad (fz (Aa 1)) Am))))))
  (AL (ifS (asB (Ag (gEq false) (Aa 7) (Aa 6))) (Bi (Al (Az 3 Bk) (Ad (fz (Aa 7)) (Ad (fz (Aa 8)) (Ad (Aa 2) Am))))) nxS)
  (CH (gc (.bl true)) (Aa 3) (fz (Aa 7))))) (rows.map CB) [vl sc,vl (.lst (names.map T.str)),some (.own (.lst (above.map T.str))),some (.own (.dK ks0 vs0)),vl (.str k),vl (.lst (rows.map CB)),vl (.str first),x7,x8] =
   .nx [vl sc,vl (.lst (names.map T.str)),some (.own (.lst (above.map T.str))),some (.own (.dK (ks0++rows.map DN) vs)),vl (.str k),vl (.lst (rows.map CB)),vl (.str first),y7,y8]:=by
 obtain ⟨fs',ef,D,R,y7,y8,vs,rfl,eD,eR,g7,g8⟩:=Bx (gt:=Bo 2 (As (tgN 7) (As (tgN 8) Bn))) (body:=AL (Bi (Al (Az 4 Bq) (Ad (fz (Aa 7)) (Ad (fz (Aa 8)) (Ad (Aa 3) (Ad (fz (Aa 1)) Am))))))
  (AL (ifS (asB (Ag (gEq false) (Aa 7) (Aa 6))) (Bi (Al (Az 3 Bk) (Ad (fz (Aa 7)) (Ad (fz (Aa 8)) (Ad (Aa 2) Am))))) nxS)
  (CH (gc (.bl true)) (Aa 3) (fz (Aa 7)))))
  (fun ts fs=>∃ (D R:List (Str×List Str)) (y7 y8:Option Sl) (vs:List T),fs=[vl sc,vl (.lst (names.map T.str)),some (.own (.lst (above.map T.str))),some (.own (.dK (ks0++D.map DN) vs)),vl (.str k),vl (.lst (rows.map CB)),vl (.str first),y7,y8]/\D++R=rows/\ts=R.map CB/\Fre y7/\Fre y8)
  (fun t' ts fs h=>by
   obtain ⟨D,R,y7,y8,vs,rfl,eD,eR,g7,g8⟩:=h
   cases R with
   | nil=>cases eR
   | cons r R =>
    rw [List.map_cons] at eR
    obtain ⟨e1,e2⟩:=List.cons.inj eR
    subst e1
    have hm:r∈rows:=by rw [<- eD];simp
    have hnot:(.inr r.1:Key)∉ks0++D.map DN:=by
     rw [<- eD,List.map_append,List.map_cons,<- List.append_assoc,List.nodup_append] at hnd
     intro m
     exact hnd.2.2 _ m (DN r) (by simp) rfl
    have hl:(ks0++D.map DN).length < big:=by
     have:=congrArg List.length eD
     simp at this
     rw [List.length_append,List.length_map]
     show _ < 1000000
     omega
    refine ⟨[vl sc,vl (.lst (names.map T.str)),some (.own (.lst (above.map T.str))),some (.own (.dK (ks0++D.map DN) vs)),vl (.str k),vl (.lst (rows.map CB)),vl (.str first),vl (.str r.1),vl (.tup (r.2.map T.str))],
     [vl sc,vl (.lst (names.map T.str)),some (.own (.lst (above.map T.str))),some (.own (.dK (ks0++D.map DN++[.inr r.1]) (vs++[.bl true]))),vl (.str k),vl (.lst (rows.map CB)),vl (.str first),vl (.str r.1),vl (.tup (r.2.map T.str))],Er (by unfold tgN;exact AR rfl g7) (by unfold tgN;exact AR rfl g8),?_,D++[r],R,vl (.str r.1),vl (.tup (r.2.map T.str)),vs++[.bl true],?_,by rw [<- eD];simp,e2,AS,AS⟩
    ·refine sq (HI (DC (Aj (Ay (Ab (t:=.str r.1) rfl)) (Aj (Ay (Ab (t:=.tup (r.2.map T.str)) rfl)) (Aj (CC (i:=3) rfl) (Aj (Ay (Ab (t:=.lst (names.map T.str)) rfl)) A8)))) rfl (by rw [show Dd _ _=[3] from rfl];simp) (BS (hnm r hm) hnot (h2 r hm) (hp r hm)) rfl)) ?_
     refine sq (fs':=[vl sc,vl (.lst (names.map T.str)),some (.own (.lst (above.map T.str))),some (.own (.dK (ks0++D.map DN) vs)),vl (.str k),vl (.lst (rows.map CB)),vl (.str first),vl (.str r.1),vl (.tup (r.2.map T.str))]) ?_ ?_
     ·by_cases hf:r.1=first
      ·refine Ff ((eqS_ok (Ab (t:=.str r.1) rfl) (Ab (t:=.str first) rfl)).trans (by rw [decide_eq_true hf])) ?_
       exact HI (DC (Aj (Ay (Ab (t:=.str r.1) rfl)) (Aj (Ay (Ab (t:=.tup (r.2.map T.str)) rfl)) (Aj (CC (i:=2) rfl) A8))) rfl (by rw [show Dd _ _=[2] from rfl];simp) (BE (hg r hm hf)) rfl)
      ·exact BW ((eqS_ok (Ab (t:=.str r.1) rfl) (Ab (t:=.str first) rfl)).trans (by rw [decide_eq_false hf])) rfl
     ·exact put_ok (o:=3) (v:=.bl true) (k:=r.1) rfl AA (Ay (Ab rfl)) (any_false hnot) hl rfl
    ·rw [List.map_append,<- List.append_assoc]
     rfl)
  (rows.map CB) [vl sc,vl (.lst (names.map T.str)),some (.own (.lst (above.map T.str))),some (.own (.dK ks0 vs0)),vl (.str k),vl (.lst (rows.map CB)),vl (.str first),x7,x8] ⟨[],rows,x7,x8,vs0,by simp,rfl,rfl,f7,f8⟩
 have hR:R=[]:=by
  cases R with
  | nil=>rfl
  | cons a b=>cases eR
 subst hR
 rw [List.append_nil] at eD
 subst eD
 exact ⟨y7,y8,vs,g7,g8,ef⟩
theorem Gr (D:Kd) (kd:Str×List (Str×List Str)):BN (D++[kd])=BN D++kd.2.map DN:=by
 unfold BN
 rw [mks_app,GU,List.map_append,List.map_append,List.map_map]
 simp [mks,DN,Function.comp_def]
theorem HB {xs:List Str} (h:xs.Nodup):(xs.map fun m=>(.inr m:Key)).Nodup:=by
 induction xs with
 | nil=>simp
 | cons x xs ih =>
  rw [List.nodup_cons] at h
  rw [List.map_cons,List.nodup_cons]
  refine ⟨fun m=>?_,ih h.2⟩
  rw [List.mem_map] at m
  obtain ⟨y,my,e⟩:=m
  have:y=x:=by simpa using e
  exact h.1 (this▸my)
theorem Well.part {K:Kd} (W:Well K) {D R:Kd} {kd:Str×List (Str×List Str)} (e:D++kd :: R=K):(BN D++kd.2.map DN).Nodup/\(BN D).length+kd.2.length < 1000/\kd∈K/\(kd.2.map (·.1)).Nodup:=by
 have h:=W.mnd
 have hl:=mks_len W.hi fun kd m=>(W.rw kd m).2
 rw [<- e,mks_app,GU] at h hl
 refine ⟨?_,?_,by rw [<- e];simp,?_⟩
 ·rw [<- Gr]
  refine HB ?_
  rw [mks_app,GU]
  simp only [mks,List.flatMap_nil,List.append_nil]
  rw [<- List.append_assoc] at h
  exact (List.nodup_append.mp h).1
 ·unfold BN
  rw [List.length_map]
  simp at hl
  omega
 ·exact (List.nodup_append.mp (List.nodup_append.mp h).2.1).1
theorem BD {K:Kd} (W:Well K):Cd [vl (.lst (K.map Ax))]=.ok (.t .non) [vl (.lst (K.map Ax))]:=by
 have all:∃ x1 x2 x3 x4 x5 x6 x7 x8,Cy [vl (.lst (K.map Ax)),none,none,none,none,none,none,none,none]=.nx [vl (.lst (K.map Ax)),x1,x2,x3,x4,x5,x6,x7,x8]:=by
  unfold Cy
  have c1:Cp false [none,none] (itU (fz (Aa 0))) (Bo 2 (As (tgN 0) (As (tgN 1) Bn))) EZ (fz (Aa 0)) [vl (.lst (K.map Ax)),none,none,none,none,none,none,none,none]=.ok (.t (.lst ((K.map (·.1)).map T.str))) [vl (.lst (K.map Ax)),none,none,none,none,none,none,none,none]:=by
   obtain ⟨x,y,_,_,e⟩:=FV (fe:=fz (Aa 0)) (f:=fun kd:Str×List (Str×List Str)=>.str kd.1) (g:=fun kd=>.lst (kd.2.map CB)) (h:=fun kd=>.str kd.1) (rest:=[]) K none none [] Au Au (fun kd _=>Ay (Ab rfl)) (by have:=W.hi;show 0+_<=1000000;omega)
   have:=D2 (src:=[none,none]) (fi:=itU (fz (Aa 0))) (fs:=[vl (.lst (K.map Ax)),none,none,none,none,none,none,none,none]) (ts:=K.map Ax) rfl ⟨by rw [show Dd [vl (.lst (K.map Ax)),none,none,none,none,none,none,none,none] _=[] from rfl];exact List.nodup_nil,by rfl⟩ e (AZ rfl)
   rw [this,List.nil_append,List.map_map]
   rfl
  have s1:AY 1 (Cp false [none,none] (itU (fz (Aa 0))) (Bo 2 (As (tgN 0) (As (tgN 1) Bn))) EZ (fz (Aa 0))) [vl (.lst (K.map Ax)),none,none,none,none,none,none,none,none]=.nx [vl (.lst (K.map Ax)),vl (.lst ((K.map (·.1)).map T.str)),none,none,none,none,none,none,none]:=Bs c1 rfl
  generalize hN:K.map (·.1)=names at s1
  obtain ⟨fs',ef,D,R,x4,x5,x6,x7,x8,vs,rfl,eD,eR,g4,g5,g6,g7,g8⟩:=Bx (gt:=Bo 2 (As (tgN 4) (As (tgN 5) Bn))) (body:=(AL (AY 6 (Ag AH (Ag AH (Aa 5) (gc (.int 0))) (gc (.int 0))))
  (AL (Df (itU (fz (Aa 5))) (Bo 2 (As (tgN 7) (As (tgN 8) Bn))) (AL (Bi (Al (Az 4 Bq) (Ad (fz (Aa 7)) (Ad (fz (Aa 8)) (Ad (Aa 3) (Ad (fz (Aa 1)) Am))))))
  (AL (ifS (asB (Ag (gEq false) (Aa 7) (Aa 6))) (Bi (Al (Az 3 Bk) (Ad (fz (Aa 7)) (Ad (fz (Aa 8)) (Ad (Aa 2) Am))))) nxS)
  (CH (gc (.bl true)) (Aa 3) (fz (Aa 7))))))
  (Bi (A0 Ex (Aa 2) (Ac (fz (Aa 4)) Am))))))
   (fun ts fs=>∃ (D R:Kd) (x4 x5 x6 x7 x8:Option Sl) (vs:List T),fs=[vl (.lst (K.map Ax)),vl (.lst (names.map T.str)),some (.own (.lst ((D.map (·.1)).map T.str))),some (.own (.dK (BN D) vs)),x4,x5,x6,x7,x8]/\D++R=K/\ts=R.map Ax/\Fre x4/\Fre x5/\Fre x6/\Fre x7/\Fre x8)
   (fun t' ts fs h=>by
    obtain ⟨D,R,x4,x5,x6,x7,x8,vs,rfl,eD,eR,g4,g5,g6,g7,g8⟩:=h
    cases R with
    | nil=>cases eR
    | cons kd R =>
     rw [List.map_cons] at eR
     obtain ⟨e1,e2⟩:=List.cons.inj eR
     subst e1
     obtain ⟨w1,w2,hm,w3⟩:=W.part eD
     obtain ⟨r0,rs,er⟩:∃ r0 rs,kd.2=r0 :: rs:=by
      have:=(W.rw kd hm).1
      cases h:kd.2 with
      | nil=>rw [h] at this;simp at this
      | cons a b=>exact ⟨a,b,rfl⟩
     obtain ⟨y7,y8,vs',f7,f8,el⟩:=makers_loop (sc:=.lst (K.map Ax)) (names:=names) (above:=D.map (·.1)) (ks0:=BN D) (vs0:=vs) (k:=kd.1) (first:=r0.1) (rows:=kd.2) (x7:=x7) (x8:=x8) g7 g8 (fun r m=>W.mnm _ (mem_mks hm m)) w1 w2 (W.two kd hm) (fun r m x hx=>hN▸W.prt kd hm r m x hx) (fun r m e x hx=>by
      have:r=r0:=rows_one w3 m (by rw [er];simp) e
      subst this
      exact W.gr D kd R eD.symm r (by rw [er];rfl) x hx)
     refine ⟨[vl (.lst (K.map Ax)),vl (.lst (names.map T.str)),some (.own (.lst ((D.map (·.1)).map T.str))),some (.own (.dK (BN D) vs)),vl (.str kd.1),vl (.lst (kd.2.map CB)),x6,x7,x8],[vl (.lst (K.map Ax)),vl (.lst (names.map T.str)),some (.own (.lst ((D.map (·.1)).map T.str++[.str kd.1]))),some (.own (.dK (BN D++kd.2.map DN) vs')),vl (.str kd.1),vl (.lst (kd.2.map CB)),vl (.str r0.1),y7,y8],Er (by unfold tgN;exact AR rfl g4) (by unfold tgN;exact AR rfl g5),?_,D++[kd],R,vl (.str kd.1),vl (.lst (kd.2.map CB)),vl (.str r0.1),y7,y8,vs',?_,by rw [<- eD];simp,e2,AS,AS,AS,f7,f8⟩
     ·have q1:atI (kd.2.map CB) 0=some (CB r0):=AD (j:=0) (by rw [er];rfl)
      refine sq (Bs (Af (Af (Ab rfl) AA (BJ rfl q1)) AA (show AH (.t (CB r0)) (.t (.int 0)) _=.ok (.t (.str r0.1)) _ from rfl)) (AR rfl g6)) ?_
      refine sq (show Df _ _ _ _=_ from el) ?_
      exact app_ok (i:=2) rfl (Ay (Ab rfl)) (by
       have:=congrArg List.length eD
       have h4:=W.hi
       simp at this
       rw [List.length_map,List.length_map]
       show _ < 1000000
       omega) rfl
     ·rw [Gr,List.map_append,List.map_append]
      rfl)
   (K.map Ax) [vl (.lst (K.map Ax)),vl (.lst (names.map T.str)),some (.own (.lst [])),some (.own (.dK [] [])),none,none,none,none,none] ⟨[],K,none,none,none,none,none,[],rfl,rfl,rfl,Au,Au,Au,Au,Au⟩
  refine ⟨vl (.lst (names.map T.str)),some (.own (.lst ((D.map (·.1)).map T.str))),some (.own (.dK (BN D) vs)),x4,x5,x6,x7,x8,?_⟩
  refine sq s1 ?_
  refine sq (fs':=[vl (.lst (K.map Ax)),vl (.lst (names.map T.str)),some (.own (.lst [])),none,none,none,none,none,none]) rfl ?_
  exact sq (fs':=[vl (.lst (K.map Ax)),vl (.lst (names.map T.str)),some (.own (.lst [])),some (.own (.dK [] [])),none,none,none,none,none]) rfl ef
 obtain ⟨x1,x2,x3,x4,x5,x6,x7,x8,all⟩:=all
 unfold Cd CV
 show (match Cy [vl (.lst (K.map Ax)),none,none,none,none,none,none,none,none] with | .nx τ=>_ | .ret (.t t) τ=>_ | .ret (.nw o) τ=>_ | .ret (.rf i) τ=>_ | .exc c τ=>_ | _=>_)=_
 rw [all]
 rfl
theorem fld_ok {C:Addr} {f:Str} {i:Nat} {fv:FS->Out Rv} {fs fs1 fs':FS} {gs gs':List Str} {os os':List FO} {o:FO} (hv:fv fs=.ok (.nw o) fs1) (h0:fs1[i]?=some (some (.bor (.ins C gs os)))) (hl:gs.length < 900) (hp:HX gs os f o=some (gs',os')) (e:fs1.set i (some (.bor (.ins C gs' os')))=fs'):fldS C f i fv fs=.nx fs':=by
 unfold fldS
 rw [hv]
 simp only [SO.of,asFO,objB h0]
 rw [if_pos ⟨trivial,hl⟩,hp]
 simp only
 unfold FL.putAt
 rw [h0]
 simp only [Sl.put,e]
theorem dput_ok {C:Addr} {f:Str} {i j:Nat} {fv:FS->Out Rv} {fs fs1 fs':FS} {gs:List Str} {os:List FO} {ks:List Key} {ts:List T} {k:Str} {t:T} (hv:fv fs=.ok (.t t) fs1) (h0:fs1[i]?=some (some (.bor (.ins C gs os)))) (hj:fs1[j]?=some (vl (.str k))) (hf:Eu gs os f=some (.dK ks ts)) (hn:(.inr k:Key)∉ks) (hl:ks.length < big)
  (e:fs1.set i (some (.bor (.ins C gs (Gi gs os f (.dK (ks++[.inr k]) (ts++[t]))))))=fs'):Ef C f i j fv fs=.nx fs':=by
 have h3:Hk ks ts (.inr k:Key) t=(ks++[.inr k],ts++[t]):=by
  unfold Hk
  rw [any_false hn]
  rfl
 unfold Ef
 rw [hv]
 simp only [SO.of,objB h0,hj,tKey,hf,if_true,hl,h3]
 unfold FL.putAt
 rw [h0]
 simp only [Sl.put,e]
def prtR (rows:List (Str×List Str)):List T:=rows.map fun r=>T.tup (r.2.map T.str)
def prtK (K:Kd):List T:=K.flatMap fun kd=>prtR kd.2
def EK (K:Kd):List T:=K.map fun kd=>T.lst ((kd.2.map (·.1)).map T.str)
theorem prtK_snoc (D:Kd) (kd:Str×List (Str×List Str)):prtK (D++[kd])=prtK D++prtR kd.2:=by unfold prtK;simp
theorem init_rows {C:Addr} {A B H:Str} (hAB:A≠B) (hAH:A≠H) (hBH:B≠H) {oA:FO} {sc mk:T} {k:Str} {rows:List (Str×List Str)} {ks0:List Key} {ps0 hs0:List T} {x4 x5:Option Sl} (f4:Fre x4) (f5:Fre x5) (hnd:(ks0++rows.map DN).Nodup) (hlen:ks0.length+rows.length < 1000) :
  ∃ (y4 y5:Option Sl) (hs:List T),Fre y4/\Fre y5/\Ei (Bo 2 (As (tgN 4) (As (tgN 5) Bn))) (AL (Ef C B 0 4 (Al FJ (Ac (Aa 5) Am)))
  (Ef C H 0 4 (fz (Aa 2)))) (rows.map CB) [some (.bor (.ins C [A,B,H] [oA,.dK ks0 ps0,.dK ks0 hs0])),vl sc,vl (.str k),vl mk,x4,x5] =
   .nx [some (.bor (.ins C [A,B,H] [oA,.dK (ks0++rows.map DN) (ps0++prtR rows),.dK (ks0++rows.map DN) hs])),vl sc,vl (.str k),vl mk,y4,y5]:=by
 obtain ⟨fs',ef,D,R,y4,y5,hs,rfl,eD,eR,g4,g5⟩:=Bx (gt:=Bo 2 (As (tgN 4) (As (tgN 5) Bn))) (body:=AL (Ef C B 0 4 (Al FJ (Ac (Aa 5) Am)))
  (Ef C H 0 4 (fz (Aa 2))))
  (fun ts fs=>∃ (D R:List (Str×List Str)) (y4 y5:Option Sl) (hs:List T),fs=[some (.bor (.ins C [A,B,H] [oA,.dK (ks0++D.map DN) (ps0++prtR D),.dK (ks0++D.map DN) hs])),vl sc,vl (.str k),vl mk,y4,y5]/\D++R=rows/\ts=R.map CB/\Fre y4/\Fre y5)
  (fun t' ts fs h=>by
   obtain ⟨D,R,y4,y5,hs,rfl,eD,eR,g4,g5⟩:=h
   cases R with
   | nil=>cases eR
   | cons r R =>
    rw [List.map_cons] at eR
    obtain ⟨e1,e2⟩:=List.cons.inj eR
    subst e1
    have hnot:(.inr r.1:Key)∉ks0++D.map DN:=by
     rw [<- eD,List.map_append,List.map_cons,<- List.append_assoc,List.nodup_append] at hnd
     intro m
     exact hnd.2.2 _ m (DN r) (by simp) rfl
    have hl:(ks0++D.map DN).length < big:=by
     have:=congrArg List.length eD
     simp at this
     rw [List.length_append,List.length_map]
     show _ < 1000000
     omega
    have v1:Eu [A,B,H] [oA,.dK (ks0++D.map DN) (ps0++prtR D),.dK (ks0++D.map DN) hs] B=some (.dK (ks0++D.map DN) (ps0++prtR D)):=by
     simp [Eu,Ne.symm hAB]
    have s1:Gi [A,B,H] [oA,.dK (ks0++D.map DN) (ps0++prtR D),.dK (ks0++D.map DN) hs] B (.dK (ks0++D.map DN++[.inr r.1]) (ps0++prtR D++[.tup (r.2.map T.str)]))=[oA,.dK (ks0++D.map DN++[.inr r.1]) (ps0++prtR D++[.tup (r.2.map T.str)]),.dK (ks0++D.map DN) hs]:=by
     simp [Gi,Ne.symm hAB]
    have v2:Eu [A,B,H] [oA,.dK (ks0++D.map DN++[.inr r.1]) (ps0++prtR D++[.tup (r.2.map T.str)]),.dK (ks0++D.map DN) hs] H=some (.dK (ks0++D.map DN) hs):=by
     simp [Eu,Ne.symm hAH,Ne.symm hBH]
    have s2:Gi [A,B,H] [oA,.dK (ks0++D.map DN++[.inr r.1]) (ps0++prtR D++[.tup (r.2.map T.str)]),.dK (ks0++D.map DN) hs] H (.dK (ks0++D.map DN++[.inr r.1]) (hs++[.str k]))=[oA,.dK (ks0++D.map DN++[.inr r.1]) (ps0++prtR D++[.tup (r.2.map T.str)]),.dK (ks0++D.map DN++[.inr r.1]) (hs++[.str k])]:=by
     simp [Gi,Ne.symm hAH,Ne.symm hBH]
    refine ⟨[some (.bor (.ins C [A,B,H] [oA,.dK (ks0++D.map DN) (ps0++prtR D),.dK (ks0++D.map DN) hs])),vl sc,vl (.str k),vl mk,vl (.str r.1),vl (.tup (r.2.map T.str))],[some (.bor (.ins C [A,B,H] [oA,.dK (ks0++D.map DN++[.inr r.1]) (ps0++prtR D++[.tup (r.2.map T.str)]),.dK (ks0++D.map DN++[.inr r.1]) (hs++[.str k])])),vl sc,vl (.str k),vl mk,vl (.str r.1),vl (.tup (r.2.map T.str))],Er (by unfold tgN;exact AR rfl g4) (by unfold tgN;exact AR rfl g5),?_,D++[r],R,vl (.str r.1),vl (.tup (r.2.map T.str)),hs++[.str k],?_,by rw [<- eD];simp,e2,AS,AS⟩
    ·refine sq (dput_ok (t:=.tup (r.2.map T.str)) (DE (AK (Ab rfl) rfl) rfl) rfl rfl v1 hnot hl rfl) ?_
     rw [s1]
     refine dput_ok (t:=.str k) (Ay (Ab rfl)) rfl rfl v2 hnot hl ?_
     rw [s2]
     rfl
    ·unfold prtR
     rw [List.map_append,List.map_append,<- List.append_assoc,<- List.append_assoc]
     rfl)
  (rows.map CB) [some (.bor (.ins C [A,B,H] [oA,.dK ks0 ps0,.dK ks0 hs0])),vl sc,vl (.str k),vl mk,x4,x5] ⟨[],rows,x4,x5,hs0,by simp [prtR],rfl,rfl,f4,f5⟩
 have hR:R=[]:=by
  cases R with
  | nil=>rfl
  | cons a b=>cases eR
 subst hR
 rw [List.append_nil] at eD
 subst eD
 exact ⟨y4,y5,hs,g4,g5,ef⟩
theorem names_ne:("makers_by_kind":Str)≠("parts_by_maker":Str)/\("makers_by_kind":Str)≠("home_by_maker":Str)/\("parts_by_maker":Str)≠("home_by_maker":Str):=by decide +kernel
def stockO (C:Addr) (K:Kd) (hs:List T):FO:=.ins C ["makers_by_kind","parts_by_maker","home_by_maker"] [.dK (Bw K) (EK K),.dK (BN K) (prtK K),.dK (BN K) hs]
theorem stock_init {C:Addr} {K:Kd} (W:Well K):∃ hs,Ci C [some (.bor (.ins C [] [])),vl (.lst (K.map Ax))]=.ok (.t .non) [some (.bor (stockO C K hs)),vl (.lst (K.map Ax))]:=by
 have hck:=BU W.lo W.hi W.nd W.nm W.rw
 have hcm:=BD W
 have all:∃ hs x2 x3 x4 x5,Dq C [some (.bor (.ins C [] [])),vl (.lst (K.map Ax)),none,none,none,none]=.nx [some (.bor (stockO C K hs)),vl (.lst (K.map Ax)),x2,x3,x4,x5]:=by
  unfold Dq stockO
  obtain ⟨hAB,hAH,hBH⟩:=names_ne
  generalize ("makers_by_kind":Str)=A at hAB hAH ⊢
  generalize ("parts_by_maker":Str)=B at hAB hBH ⊢
  generalize ("home_by_maker":Str)=H at hAH hBH ⊢
  obtain ⟨fs',ef,D,R,x2,x3,x4,x5,hs,rfl,eD,eR,g2,g3,g4,g5⟩:=Bx (gt:=Bo 2 (As (tgN 2) (As (tgN 3) Bn))) (body:=(AL (Ef C A 0 2 (Cp false [none,none] (itU (fz (Aa 3))) (Bo 2 (As (tgN 0) (As (tgN 1) Bn))) EZ (fz (Aa 0))))
  (Df (itU (fz (Aa 3))) (Bo 2 (As (tgN 4) (As (tgN 5) Bn))) (AL (Ef C B 0 4 (Al FJ (Ac (Aa 5) Am)))
  (Ef C H 0 4 (fz (Aa 2)))))))
   (fun ts fs=>∃ (D R:Kd) (x2 x3 x4 x5:Option Sl) (hs:List T),fs=[some (.bor (.ins C [A,B,H] [.dK (Bw D) (EK D),.dK (BN D) (prtK D),.dK (BN D) hs])),vl (.lst (K.map Ax)),x2,x3,x4,x5]/\D++R=K/\ts=R.map Ax/\Fre x2/\Fre x3/\Fre x4/\Fre x5)
   (fun t' ts fs h=>by
    obtain ⟨D,R,x2,x3,x4,x5,hs,rfl,eD,eR,g2,g3,g4,g5⟩:=h
    cases R with
    | nil=>cases eR
    | cons kd R =>
     rw [List.map_cons] at eR
     obtain ⟨e1,e2⟩:=List.cons.inj eR
     subst e1
     obtain ⟨w1,w2,hm,w3⟩:=W.part eD
     have hnd:=W.nd
     have hnot:(.inr kd.1:Key)∉Bw D:=by
      intro m
      unfold Bw at m
      rw [List.mem_map] at m
      obtain ⟨kd',m',e'⟩:=m
      have e'':kd'.1=kd.1:=by simpa using e'
      rw [<- eD,List.map_append,List.nodup_append] at hnd
      exact hnd.2.2 kd'.1 (List.mem_map.mpr ⟨kd',m',rfl⟩) kd.1 (by simp) e''
     have hlen:(Bw D).length < big:=by
      unfold Bw
      rw [List.length_map]
      have:=congrArg List.length eD
      have h4:=W.hi
      simp at this
      show D.length < 1000000
      omega
     have v1:Eu [A,B,H] [.dK (Bw D) (EK D),.dK (BN D) (prtK D),.dK (BN D) hs] A=some (.dK (Bw D) (EK D)):=by simp [Eu]
     have s1:Gi [A,B,H] [.dK (Bw D) (EK D),.dK (BN D) (prtK D),.dK (BN D) hs] A (.dK (Bw D++[.inr kd.1]) (EK D++[.lst ((kd.2.map (·.1)).map T.str)]))=[.dK (Bw D++[.inr kd.1]) (EK D++[.lst ((kd.2.map (·.1)).map T.str)]),.dK (BN D) (prtK D),.dK (BN D) hs]:=by simp [Gi]
     have c1:Cp false [none,none] (itU (fz (Aa 3))) (Bo 2 (As (tgN 0) (As (tgN 1) Bn))) EZ (fz (Aa 0)) [some (.bor (.ins C [A,B,H] [.dK (Bw D) (EK D),.dK (BN D) (prtK D),.dK (BN D) hs])),vl (.lst (K.map Ax)),vl (.str kd.1),vl (.lst (kd.2.map CB)),x4,x5]=.ok (.t (.lst ((kd.2.map (·.1)).map T.str))) [some (.bor (.ins C [A,B,H] [.dK (Bw D) (EK D),.dK (BN D) (prtK D),.dK (BN D) hs])),vl (.lst (K.map Ax)),vl (.str kd.1),vl (.lst (kd.2.map CB)),x4,x5]:=by
      obtain ⟨x,y,_,_,e⟩:=FV (fe:=fz (Aa 0)) (f:=fun r:Str×List Str=>.str r.1) (g:=fun r=>.tup (r.2.map T.str)) (h:=fun r=>.str r.1) (rest:=[]) kd.2 none none [] Au Au (fun kd _=>Ay (Ab rfl)) (by have:=(W.rw kd hm).2;show 0+_<=1000000;omega)
      have:=D2 (src:=[none,none]) (fi:=itU (fz (Aa 3))) (fs:=[some (.bor (.ins C [A,B,H] [.dK (Bw D) (EK D),.dK (BN D) (prtK D),.dK (BN D) hs])),vl (.lst (K.map Ax)),vl (.str kd.1),vl (.lst (kd.2.map CB)),x4,x5]) (ts:=kd.2.map CB) rfl ⟨by rw [show Dd _ (List.map _ [none,none])=[] from rfl];exact List.nodup_nil,by rfl⟩ e (AZ rfl)
      rw [this,List.nil_append,List.map_map]
      rfl
     obtain ⟨y4,y5,hs',f4,f5,el⟩:=init_rows (C:=C) hAB hAH hBH (oA:=.dK (Bw D++[.inr kd.1]) (EK D++[.lst ((kd.2.map (·.1)).map T.str)])) (sc:=.lst (K.map Ax)) (mk:=.lst (kd.2.map CB)) (k:=kd.1) (rows:=kd.2) (ks0:=BN D) (ps0:=prtK D) (hs0:=hs) (x4:=x4) (x5:=x5) g4 g5 w1 w2
     refine ⟨[some (.bor (.ins C [A,B,H] [.dK (Bw D) (EK D),.dK (BN D) (prtK D),.dK (BN D) hs])),vl (.lst (K.map Ax)),vl (.str kd.1),vl (.lst (kd.2.map CB)),x4,x5],[some (.bor (.ins C [A,B,H] [.dK (Bw D++[.inr kd.1]) (EK D++[.lst ((kd.2.map (·.1)).map T.str)]),.dK (BN D++kd.2.map DN) (prtK D++prtR kd.2),.dK (BN D++kd.2.map DN) hs'])),vl (.lst (K.map Ax)),vl (.str kd.1),vl (.lst (kd.2.map CB)),y4,y5],Er (by unfold tgN;exact AR rfl g2) (by unfold tgN;exact AR rfl g3),?_,D++[kd],R,vl (.str kd.1),vl (.lst (kd.2.map CB)),y4,y5,hs',?_,by rw [<- eD];simp,e2,AS,AS,f4,f5⟩
     ·refine sq (dput_ok (t:=.lst ((kd.2.map (·.1)).map T.str)) c1 rfl rfl v1 hnot hlen rfl) ?_
      rw [s1]
      exact el
     ·rw [Gr,prtK_snoc]
      unfold Bw EK
      rw [List.map_append,List.map_append]
      rfl)
   (K.map Ax) [some (.bor (.ins C [A,B,H] [.dK [] [],.dK [] [],.dK [] []])),vl (.lst (K.map Ax)),none,none,none,none] ⟨[],K,none,none,none,none,[],rfl,rfl,rfl,Au,Au,Au,Au⟩
  have hR:R=[]:=by
   cases R with
   | nil=>rfl
   | cons a b=>cases eR
  subst hR
  rw [List.append_nil] at eD
  subst eD
  refine ⟨hs,x2,x3,x4,x5,?_⟩
  refine sq (HI (D3 (Aj (Ay (Ab (t:=.lst (D.map Ax)) rfl)) A8) rfl rfl hck)) ?_
  refine sq (HI (D3 (Aj (Ay (Ab (t:=.lst (D.map Ax)) rfl)) A8) rfl rfl hcm)) ?_
  refine sq (fs':=[some (.bor (.ins C [A] [.dK [] []])),vl (.lst (D.map Ax)),none,none,none,none]) (fld_ok (o:=.dK [] []) rfl rfl (show 0 < 900 by decide) rfl rfl) ?_
  refine sq (fs':=[some (.bor (.ins C [A,B] [.dK [] [],.dK [] []])),vl (.lst (D.map Ax)),none,none,none,none]) (fld_ok (o:=.dK [] []) rfl rfl (show 1 < 900 by decide) (by simp [HX,hAB]) rfl) ?_
  refine sq (fs':=[some (.bor (.ins C [A,B,H] [.dK [] [],.dK [] [],.dK [] []])),vl (.lst (D.map Ax)),none,none,none,none]) (fld_ok (o:=.dK [] []) rfl rfl (show 2 < 900 by decide) (by simp [HX,hAH,hBH]) rfl) ?_
  exact ef
 obtain ⟨hs,x2,x3,x4,x5,all⟩:=all
 refine ⟨hs,?_⟩
 unfold Ci CV
 show (match Dq C [some (.bor (.ins C [] [])),vl (.lst (K.map Ax)),none,none,none,none] with | .nx τ=>_ | .ret (.t t) τ=>_ | .ret (.nw o) τ=>_ | .ret (.rf i) τ=>_ | .exc c τ=>_ | _=>_)=_
 rw [all]
 rfl
def Aw (C:Addr) (K:Kd) (hs:List T):T:=.ins C ["makers_by_kind","parts_by_maker","home_by_maker"] [.dK (Bw K) (EK K),.dK (BN K) (prtK K),.dK (BN K) hs]
theorem fld_mk {C:Addr} {K:Kd} {hs:List T} {i:Nat} {fs:FS} (h:fs[i]?=some (vl (Aw C K hs))):fldF C "makers_by_kind" (Aa i) fs=.ok (.t (.dK (Bw K) (EK K))) fs:=by
 unfold fldF
 rw [Ab h]
 obtain ⟨hAB,hAH,hBH⟩:=names_ne
 unfold Aw
 generalize ("makers_by_kind":Str)=A at *
 simp [Out.bnd,Out.bind,gFld,valF,okT]
theorem fld_pt {C:Addr} {K:Kd} {hs:List T} {i:Nat} {fs:FS} (h:fs[i]?=some (vl (Aw C K hs))):fldF C "parts_by_maker" (Aa i) fs=.ok (.t (.dK (BN K) (prtK K))) fs:=by
 unfold fldF
 rw [Ab h]
 obtain ⟨hAB,hAH,hBH⟩:=names_ne
 unfold Aw
 generalize ("makers_by_kind":Str)=A at *
 generalize ("parts_by_maker":Str)=B at *
 simp [Out.bnd,Out.bind,gFld,valF,okT,Ne.symm hAB]
theorem st_kinds {C:Addr} {K:Kd} {hs:List T}:Bd C [vl (Aw C K hs)]=.ok (.nw (.lst ((K.map (·.1)).map T.str))) [vl (Aw C K hs)]:=by
 have all:CT C [vl (Aw C K hs)]=.ret (.nw (.lst ((K.map (·.1)).map T.str))) [vl (Aw C K hs)]:=by
  unfold CT
  refine Du (DE (AK (fld_mk rfl) rfl) ?_)
  show Out.ok (Rv.nw (.lst ((Bw K).map keyT))) _=_
  unfold Bw
  rw [List.map_map,List.map_map]
  rfl
 unfold Bd CV
 show (match CT C [vl (Aw C K hs)] with | .nx τ=>_ | .ret (.t t) τ=>_ | .ret (.nw o) τ=>_ | .ret (.rf i) τ=>_ | .exc c τ=>_ | _=>_)=_
 rw [all]
 rfl
theorem Hy {K:Kd} (W:Well K):(K.map fun kd=>(.inr kd.1:Key)).Nodup:=by
 have:=HB W.nd
 rwa [List.map_map] at this
theorem val_mk {K:Kd} (W:Well K) {kd:Str×List (Str×List Str)} (m:kd∈K):DP (Bw K) (EK K) (.inr kd.1:Key)=some (.lst ((kd.2.map (·.1)).map T.str)) :=
 Fy (f:=fun kd:Str×List (Str×List Str)=>(.inr kd.1:Key)) (g:=fun kd:Str×List (Str×List Str)=>T.lst ((kd.2.map (fun r:Str×List Str=>r.1)).map T.str)) m (Hy W)
theorem val_rows {K:Kd} (W:Well K) {kd:Str×List (Str×List Str)} (m:kd∈K):DP (Bw K) (rowsK K) (.inr kd.1:Key)=some (.lst (kd.2.map CB)) :=
 Fy (f:=fun kd:Str×List (Str×List Str)=>(.inr kd.1:Key)) (g:=fun kd=>T.lst (kd.2.map CB)) m (Hy W)
def allR (K:Kd):List (Str×List Str):=K.flatMap (·.2)
theorem mkeys_all (K:Kd):BN K=(allR K).map DN:=by
 unfold BN mks allR
 rw [List.map_flatMap,List.map_flatMap]
 simp only [List.map_map]
 rfl
theorem prtK_all (K:Kd):prtK K=(allR K).map fun r=>T.tup (r.2.map T.str):=by
 unfold prtK prtR allR
 rw [List.map_flatMap]
theorem val_pt {K:Kd} (W:Well K) {kd:Str×List (Str×List Str)} {r:Str×List Str} (m:kd∈K) (m2:r∈kd.2):DP (BN K) (prtK K) (.inr r.1:Key)=some (.tup (r.2.map T.str)):=by
 have h:=HB W.mnd
 have h2:=mkeys_all K
 unfold BN at h2
 rw [h2] at h
 rw [mkeys_all,prtK_all]
 exact Fy (f:=DN) (g:=fun r=>T.tup (r.2.map T.str)) (x:=r) (List.mem_flatMap.mpr ⟨kd,m,m2⟩) h
theorem get_t {k:Str} {ks:List Key} {ts:List T} {t:T} {fs:FS} (h:DP ks ts (.inr k:Key)=some t):AH (.t (.dK ks ts)) (.t (.str k)) fs=.ok (.t t) fs:=by
 have e:gDGet (.t (.dK ks ts)) (.t (.str k)) fs=.ok (.t t) fs:=by
  simp only [gDGet,dget,tKey,Option.map_some,h,okT]
 exact e
theorem st_makers {C:Addr} {K:Kd} {hs:List T} (W:Well K) {kd:Str×List (Str×List Str)} (m:kd∈K):BG C [vl (Aw C K hs),vl (.str kd.1)]=.ok (.nw (.lst ((kd.2.map (·.1)).map T.str))) [vl (Aw C K hs),vl (.str kd.1)]:=by
 have all:CA C [vl (Aw C K hs),vl (.str kd.1)]=.ret (.nw (.lst ((kd.2.map (·.1)).map T.str))) [vl (Aw C K hs),vl (.str kd.1)]:=by
  unfold CA
  refine sq (BW (Dr (b:=false) (Af (Ay (Ab (t:=.str kd.1) rfl)) (fld_mk rfl) ?_)) rfl) ?_
  ·rw [in_t,val_mk W m]
   rfl
  exact Du (DE (AK (Af (fld_mk rfl) (Ay (Ab (t:=.str kd.1) rfl)) (get_t (val_mk W m))) rfl) rfl)
 unfold BG CV
 show (match CA C [vl (Aw C K hs),vl (.str kd.1)] with | .nx τ=>_ | .ret (.t t) τ=>_ | .ret (.nw o) τ=>_ | .ret (.rf i) τ=>_ | .exc c τ=>_ | _=>_)=_
 rw [all]
 rfl
theorem st_parts {C:Addr} {K:Kd} {hs:List T} (W:Well K) {kd:Str×List (Str×List Str)} {r:Str×List Str} (m:kd∈K) (m2:r∈kd.2):BC C [vl (Aw C K hs),vl (.str r.1)]=.ok (.t (.tup (r.2.map T.str))) [vl (Aw C K hs),vl (.str r.1)]:=by
 have all:CS C [vl (Aw C K hs),vl (.str r.1)]=.ret (.t (.tup (r.2.map T.str))) [vl (Aw C K hs),vl (.str r.1)]:=by
  unfold CS
  refine sq (BW (Dr (b:=false) (Af (Ay (Ab (t:=.str r.1) rfl)) (fld_pt rfl) ?_)) rfl) ?_
  ·rw [in_t,val_pt W m m2]
   rfl
  exact Du (Af (fld_pt rfl) (Ay (Ab (t:=.str r.1) rfl)) (get_t (val_pt W m m2)))
 unfold BC CV
 show (match CS C [vl (Aw C K hs),vl (.str r.1)] with | .nx τ=>_ | .ret (.t t) τ=>_ | .ret (.nw o) τ=>_ | .ret (.rf i) τ=>_ | .exc c τ=>_ | _=>_)=_
 rw [all]
 rfl
theorem GV {C:Addr} {mt:Str} {p:Nat} {Fn:FS->Out Rv} {fo:FS->Out Rv} {fa:FS->Out (List Rv)} {fs τ:FS} {K:Kd} {hs:List T} {rs:List Rv} {r:Rv} (ho:fo fs=.ok (.t (Aw C K hs)) fs) (hi:insOk C mt fs (.t (Aw C K hs))=true) (ha:fa fs=.ok rs fs) (hp:rs.length+1=p) (hl:Dd fs ((Rv.t (Aw C K hs) :: rs).map Dl)=[]) (hf:Fn (EM fs ((Rv.t (Aw C K hs) :: rs).map Dl))=.ok r τ) (hr:(∃ t,r=.t t)∨∃ o,r=.nw o) :
  Fw C mt p Fn fo fa fs=.ok r fs:=by
 unfold Fw
 rw [ho]
 show (if insOk C mt fs (.t (Aw C K hs))=true then _ else _)=_
 rw [if_pos hi,ha]
 show Az p Fn (Rv.t (Aw C K hs) :: rs) fs=_
 unfold Az
 rw [if_pos (by simpa using hp)]
 unfold callR
 rw [if_pos (by rw [hl];exact List.nodup_nil),hf]
 rcases hr with ⟨t,rfl⟩ | ⟨o,rfl⟩
 ·dsimp only
  rw [AZ hl]
 ·dsimp only
  rw [AZ hl]
theorem FG:(["makers_by_kind","parts_by_maker","home_by_maker"]:List Str).any (· == ("kinds":Str))=false/\(["makers_by_kind","parts_by_maker","home_by_maker"]:List Str).any (· == ("makers":Str))=false/\(["makers_by_kind","parts_by_maker","home_by_maker"]:List Str).any (· == ("parts":Str))=false:=by decide +kernel
theorem GW {C:Addr} {mt:Str} {fs:FS} {K:Kd} {hs:List T} (h:(["makers_by_kind","parts_by_maker","home_by_maker"]:List Str).any (· == mt)=false):insOk C mt fs (.t (Aw C K hs))=true:=by
 unfold insOk Aw
 simp only [h]
 simp
def fnd (rows:List (Str×List Str)) (m:Str):Option (Str×List Str):=rows.find? fun r=>decide (r.1=m)
theorem fnd_some {rows:List (Str×List Str)} {m:Str} {r:Str×List Str} (h:fnd rows m=some r):r∈rows/\r.1=m:=⟨List.mem_of_find?_eq_some h,by simpa using List.find?_some h⟩
theorem fnd_none {rows:List (Str×List Str)} {m:Str} (h:fnd rows m=none):m∉rows.map (·.1):=by
 intro q
 rw [List.mem_map] at q
 obtain ⟨r,mr,e⟩:=q
 have:=List.find?_eq_none.mp h r mr
 simp [e] at this
theorem gEq_n {x y:Nat} {fs:FS}:gEq false (.t (.int (x:Int))) (.t (.int (y:Int))) fs=.ok (.t (.bl (decide (x=y)))) fs:=by
 have q:decide (V.int (x:Int)=V.int (y:Int))=decide (x=y):=by
  by_cases h:x=y
  ·subst h;simp
  ·rw [decide_eq_false h,decide_eq_false (by intro z;cases z;exact h (by omega))]
 show (if scal (V.int (x:Int)) (V.int (y:Int))=true then okT (.bl (if false=true then _ else decide (V.int (x:Int)=V.int (y:Int)))) fs else .bad)=_
 rw [if_pos (show scal (V.int (x:Int)) (V.int (y:Int))=true from rfl),q]
 rfl
def IsTh:Nat->T->Prop
 | 0,_=>False
 | d+1,t=>∃ m ps,t=.tup [.str m,.tup ps]/\∀ p∈ps,IsTh d p
def kf (K:Kd) (k:Str):Option (Str×List (Str×List Str)):=K.find? fun kd=>decide (kd.1=k)
def thg (K:Kd):Nat->Str->T->Bool
 | 0,_,_=>false
 | d+1,k,.tup [.str m,.tup ps]=>match kf K k with
  | none=>false
  | some kd=>match fnd kd.2 m with
   | none=>false
   | some r=>decide (r.2.length=ps.length) && (r.2.zip ps).all fun p=>thg K d p.1 p.2
 | _+1,_,_=>false
theorem Hw {K:Kd} {k:Str} {kd:Str×List (Str×List Str)} (h:kf K k=some kd):kd∈K/\kd.1=k:=⟨List.mem_of_find?_eq_some h,by simpa using List.find?_some h⟩
theorem kf_none {K:Kd} {k:Str} (h:kf K k=none):k∉K.map (·.1):=by
 intro q
 rw [List.mem_map] at q
 obtain ⟨r,mr,e⟩:=q
 have:=List.find?_eq_none.mp h r mr
 simp [e] at this
def AX (K:Kd):T:=.dK (Bw K) (rowsK K)
theorem pairs_go {K:Kd} {d n:Nat} {sk st:T} {x3 x4:Option Sl} (hrec:∀ k t,IsTh d t->AN n [vl (AX K),vl (.str k),vl t]=.ok (.t (.bl (thg K d k t))) [vl (AX K),vl (.str k),vl t]):∀ (ks:List Str) (ps:List T) (x5 x6:Option Sl),(∀ p∈ps,IsTh d p)->Fre x5->Fre x6 ->
  ∃ y5 y6,Fre y5/\Fre y6/\Ei (Bo 2 (As (tgN 5) (As (tgN 6) Bn))) (ifS (DZ (Ew (fz (Al (Az 3 (AN n)) (Ad (fz (Aa 0)) (Ad (fz (Aa 5)) (Ad (fz (Aa 6)) Am))))))) (retS (gc (.bl false))) nxS) (FL.pairs (ks.map T.str) ps) [vl (AX K),vl sk,vl st,x3,x4,x5,x6] =
   if ((ks.zip ps).all fun p=>thg K d p.1 p.2)=true then .nx [vl (AX K),vl sk,vl st,x3,x4,y5,y6] else .ret (.t (.bl false)) [vl (AX K),vl sk,vl st,x3,x4,y5,y6]
 | [],ps,x5,x6,_,f5,f6=>⟨x5,x6,f5,f6,by simp [FL.pairs,Ei]⟩
 | k :: ks,[],x5,x6,_,f5,f6=>⟨x5,x6,f5,f6,by simp [FL.pairs,Ei]⟩
 | k :: ks,p :: ps,x5,x6,hp,f5,f6=>by
  have g1:Bo 2 (As (tgN 5) (As (tgN 6) Bn)) (.tup [.str k,p]) [vl (AX K),vl sk,vl st,x3,x4,x5,x6]=some [vl (AX K),vl sk,vl st,x3,x4,vl (.str k),vl p]:=Er (by unfold tgN;exact AR rfl f5) (by unfold tgN;exact AR rfl f6)
  have c1:DZ (Ew (fz (Al (Az 3 (AN n)) (Ad (fz (Aa 0)) (Ad (fz (Aa 5)) (Ad (fz (Aa 6)) Am)))))) [vl (AX K),vl sk,vl st,x3,x4,vl (.str k),vl p]=.ok (!thg K d k p) [vl (AX K),vl sk,vl st,x3,x4,vl (.str k),vl p] :=
   DY (DW (C7 (D3 (Aj (Ay (Ab (t:=AX K) rfl)) (Aj (Ay (Ab (t:=.str k) rfl)) (Aj (Ay (Ab (t:=p) rfl)) A8))) rfl rfl (hrec k p (hp p List.mem_cons_self)))))
  cases hb:thg K d k p with
  | true =>
   rw [hb] at c1
   have b1:=BW (g:=retS (gc (.bl false))) (h:=nxS) c1 rfl
   obtain ⟨y5,y6,g5,g6,e⟩:=pairs_go (sk:=sk) (st:=st) (x3:=x3) (x4:=x4) hrec ks ps (vl (.str k)) (vl p) (fun p m=>hp p (List.mem_cons_of_mem _ m)) AS AS
   refine ⟨y5,y6,g5,g6,?_⟩
   have:Ei (Bo 2 (As (tgN 5) (As (tgN 6) Bn))) (ifS (DZ (Ew (fz (Al (Az 3 (AN n)) (Ad (fz (Aa 0)) (Ad (fz (Aa 5)) (Ad (fz (Aa 6)) Am))))))) (retS (gc (.bl false))) nxS) (FL.pairs ((k :: ks).map T.str) (p :: ps)) [vl (AX K),vl sk,vl st,x3,x4,x5,x6]=Ei (Bo 2 (As (tgN 5) (As (tgN 6) Bn))) (ifS (DZ (Ew (fz (Al (Az 3 (AN n)) (Ad (fz (Aa 0)) (Ad (fz (Aa 5)) (Ad (fz (Aa 6)) Am))))))) (retS (gc (.bl false))) nxS) (FL.pairs (ks.map T.str) ps) [vl (AX K),vl sk,vl st,x3,x4,vl (.str k),vl p]:=by
    rw [List.map_cons]
    simp only [FL.pairs,Ei,g1,b1]
    rfl
   rw [this,e,List.zip_cons_cons,List.all_cons,hb,Bool.true_and]
  | false =>
   rw [hb] at c1
   have b1:=Ff (g:=retS (gc (.bl false))) (h:=nxS) c1 rfl
   refine ⟨vl (.str k),vl p,AS,AS,?_⟩
   rw [List.map_cons,List.zip_cons_cons,List.all_cons,hb]
   simp only [FL.pairs,Ei,g1,b1]
   rfl
theorem rows_go {K:Kd} {d n:Nat} {sk:T} {m:Str} {ps:List T} (hps:∀ p∈ps,IsTh d p) (hrec:∀ k t,IsTh d t->AN n [vl (AX K),vl (.str k),vl t]=.ok (.t (.bl (thg K d k t))) [vl (AX K),vl (.str k),vl t]):∀ (rows:List (Str×List Str)) (x3 x4 x5 x6:Option Sl),Fre x3->Fre x4->Fre x5->Fre x6 ->
  ∃ y3 y4 y5 y6,Ei (Bo 2 (As (tgN 3) (As (tgN 4) Bn))) (ifS (asB (Ag (gEq false) (Aa 3) (Ag AH (Aa 2) (gc (.int 0))))) (AL (ifS (asB (Ag (gEq true) (Al Bm (Ac (Aa 4) Am)) (Al Bm (Ac (Ag AH (Aa 2) (gc (.int 1))) Am)))) (retS (gc (.bl false))) nxS)
  (AL (Df (itZ (Aa 4) (Ag AH (Aa 2) (gc (.int 1)))) (Bo 2 (As (tgN 5) (As (tgN 6) Bn))) (ifS (DZ (Ew (fz (Al (Az 3 (AN n)) (Ad (fz (Aa 0)) (Ad (fz (Aa 5)) (Ad (fz (Aa 6)) Am))))))) (retS (gc (.bl false))) nxS))
  (retS (gc (.bl true))))) nxS) (rows.map CB) [vl (AX K),vl sk,vl (.tup [.str m,.tup ps]),x3,x4,x5,x6] =
   match fnd rows m with
   | none=>.nx [vl (AX K),vl sk,vl (.tup [.str m,.tup ps]),y3,y4,y5,y6]
   | some r=>.ret (.t (.bl (decide (r.2.length=ps.length) && (r.2.zip ps).all fun p=>thg K d p.1 p.2))) [vl (AX K),vl sk,vl (.tup [.str m,.tup ps]),y3,y4,y5,y6]
 | [],x3,x4,x5,x6,_,_,_,_=>⟨x3,x4,x5,x6,rfl⟩
 | r :: rows,x3,x4,x5,x6,f3,f4,f5,f6=>by
  have g1:Bo 2 (As (tgN 3) (As (tgN 4) Bn)) (CB r) [vl (AX K),vl sk,vl (.tup [.str m,.tup ps]),x3,x4,x5,x6]=some [vl (AX K),vl sk,vl (.tup [.str m,.tup ps]),vl (.str r.1),vl (.tup (r.2.map T.str)),x5,x6]:=Er (by unfold tgN;exact AR rfl f3) (by unfold tgN;exact AR rfl f4)
  have c1:asB (Ag (gEq false) (Aa 3) (Ag AH (Aa 2) (gc (.int 0)))) [vl (AX K),vl sk,vl (.tup [.str m,.tup ps]),vl (.str r.1),vl (.tup (r.2.map T.str)),x5,x6]=.ok (decide (r.1=m)) [vl (AX K),vl sk,vl (.tup [.str m,.tup ps]),vl (.str r.1),vl (.tup (r.2.map T.str)),x5,x6]:=eqS_ok (Ab rfl) (Af (Ab rfl) AA rfl)
  by_cases hm:r.1=m
  ·have hf:fnd (r :: rows) m=some r:=by unfold fnd;rw [List.find?_cons_of_pos (by simpa using hm)]
   rw [decide_eq_true hm] at c1
   obtain ⟨y5,y6,g5,g6,e⟩:=pairs_go (sk:=sk) (st:=.tup [.str m,.tup ps]) (x3:=vl (.str r.1)) (x4:=vl (.tup (r.2.map T.str))) hrec r.2 ps x5 x6 hps f5 f6
   have l1:Al Bm (Ac (Aa 4) Am) [vl (AX K),vl sk,vl (.tup [.str m,.tup ps]),vl (.str r.1),vl (.tup (r.2.map T.str)),x5,x6]=.ok (.t (.int (r.2.length:Int))) [vl (AX K),vl sk,vl (.tup [.str m,.tup ps]),vl (.str r.1),vl (.tup (r.2.map T.str)),x5,x6]:=by
    have:=D1 (f:=Aa 4) (fs:=[vl (AX K),vl sk,vl (.tup [.str m,.tup ps]),vl (.str r.1),vl (.tup (r.2.map T.str)),x5,x6]) (ts:=r.2.map T.str) (Ab rfl) (.inr rfl)
    rwa [List.length_map] at this
   have l2:Al Bm (Ac (Ag AH (Aa 2) (gc (.int 1))) Am) [vl (AX K),vl sk,vl (.tup [.str m,.tup ps]),vl (.str r.1),vl (.tup (r.2.map T.str)),x5,x6]=.ok (.t (.int (ps.length:Int))) [vl (AX K),vl sk,vl (.tup [.str m,.tup ps]),vl (.str r.1),vl (.tup (r.2.map T.str)),x5,x6]:=D1 (Af (Ab rfl) AA rfl) (.inr rfl)
   have q:gEq true (.t (.int (r.2.length:Int))) (.t (.int (ps.length:Int))) [vl (AX K),vl sk,vl (.tup [.str m,.tup ps]),vl (.str r.1),vl (.tup (r.2.map T.str)),x5,x6]=.ok (.t (.bl (!decide (r.2.length=ps.length)))) [vl (AX K),vl sk,vl (.tup [.str m,.tup ps]),vl (.str r.1),vl (.tup (r.2.map T.str)),x5,x6]:=by
    have q:decide (V.int (r.2.length:Int)=V.int (ps.length:Int))=decide (r.2.length=ps.length):=by
     by_cases h:r.2.length=ps.length
     ·rw [h];simp
     ·rw [decide_eq_false h,decide_eq_false (by intro z;injection z with z;exact h (by omega))]
    show (if scal (V.int (r.2.length:Int)) (V.int (ps.length:Int))=true then okT (.bl (if true=true then !decide (V.int (r.2.length:Int)=V.int (ps.length:Int)) else _)) _ else .bad)=_
    rw [if_pos (show scal (V.int (r.2.length:Int)) (V.int (ps.length:Int))=true from rfl),q]
    rfl
   have c2:=Dr (Af l1 l2 q)
   have bd:∃ z5 z6,(AL (ifS (asB (Ag (gEq true) (Al Bm (Ac (Aa 4) Am)) (Al Bm (Ac (Ag AH (Aa 2) (gc (.int 1))) Am)))) (retS (gc (.bl false))) nxS)
  (AL (Df (itZ (Aa 4) (Ag AH (Aa 2) (gc (.int 1)))) (Bo 2 (As (tgN 5) (As (tgN 6) Bn))) (ifS (DZ (Ew (fz (Al (Az 3 (AN n)) (Ad (fz (Aa 0)) (Ad (fz (Aa 5)) (Ad (fz (Aa 6)) Am))))))) (retS (gc (.bl false))) nxS))
  (retS (gc (.bl true))))) [vl (AX K),vl sk,vl (.tup [.str m,.tup ps]),vl (.str r.1),vl (.tup (r.2.map T.str)),x5,x6]=.ret (.t (.bl (decide (r.2.length=ps.length) && (r.2.zip ps).all fun p=>thg K d p.1 p.2))) [vl (AX K),vl sk,vl (.tup [.str m,.tup ps]),vl (.str r.1),vl (.tup (r.2.map T.str)),z5,z6]:=by
    by_cases hl:r.2.length=ps.length
    ·rw [decide_eq_true hl] at c2 ⊢
     refine ⟨y5,y6,?_⟩
     refine sq (BW c2 rfl) ?_
     rw [Bool.true_and]
     cases ha:(r.2.zip ps).all fun p=>thg K d p.1 p.2 with
     | true =>
      rw [ha,if_pos rfl] at e
      refine sq (show Df _ _ _ _=_ from e) rfl
     | false =>
      rw [ha,if_neg (by simp)] at e
      exact Dz (show Df _ _ _ _=_ from e)
    ·rw [decide_eq_false hl] at c2 ⊢
     exact ⟨x5,x6,Dz (Ff c2 rfl)⟩
   obtain ⟨z5,z6,bd⟩:=bd
   have b1:=Ff (h:=nxS) c1 bd
   refine ⟨vl (.str r.1),vl (.tup (r.2.map T.str)),z5,z6,?_⟩
   rw [hf,List.map_cons]
   simp only [Ei,g1,b1]
  ·have hf:fnd (r :: rows) m=fnd rows m:=by unfold fnd;rw [List.find?_cons_of_neg (by simpa using hm)]
   rw [decide_eq_false hm] at c1
   obtain ⟨y3,y4,y5,y6,e⟩:=rows_go (sk:=sk) hps hrec rows (vl (.str r.1)) (vl (.tup (r.2.map T.str))) x5 x6 AS AS f5 f6
   refine ⟨y3,y4,y5,y6,?_⟩
   rw [hf,<- e,List.map_cons]
   have b1:=fun g=>BW (g:=g) (h:=nxS) c1 rfl
   rw [Ei,g1]
   simp only
   rw [b1]
   rfl
theorem lis {K:Kd} (W:Well K):∀ (d n:Nat),d<=n->∀ (k:Str) (t:T),IsTh d t->AN n [vl (AX K),vl (.str k),vl t]=.ok (.t (.bl (thg K d k t))) [vl (AX K),vl (.str k),vl t]
 | 0,_,_,_,_,h=>h.elim
 | d+1,0,h,_,_,_=>absurd h (by omega)
 | d+1,n+1,hn,k,t,⟨m,ps,et,hp⟩=>by
  subst et
  have hrec:=lis W d n (by omega)
  have all:∃ y3 y4 y5 y6,Dc (AN n) [vl (AX K),vl (.str k),vl (.tup [.str m,.tup ps]),none,none,none,none]=.ret (.t (.bl (thg K (d+1) k (.tup [.str m,.tup ps])))) [vl (AX K),vl (.str k),vl (.tup [.str m,.tup ps]),y3,y4,y5,y6]:=by
   unfold Dc
   cases hk:kf K k with
   | none =>
    have hno:(.inr k:Key)∉Bw K:=by
     intro q
     unfold Bw at q
     rw [List.mem_map] at q
     obtain ⟨kd,mk,e⟩:=q
     exact kf_none hk (List.mem_map.mpr ⟨kd,mk,by simpa using e⟩)
    refine ⟨none,none,none,none,?_⟩
    simp only [thg,hk]
    refine Dz (Ff (Dr (b:=true) (Af (Ay (Ab (t:=.str k) rfl)) (Ab (t:=AX K) rfl) ?_)) rfl)
    unfold AX
    rw [in_t,Ey hno]
    rfl
   | some kd =>
    obtain ⟨mk,ek⟩:=Hw hk
    subst ek
    obtain ⟨y3,y4,y5,y6,e⟩:=rows_go (sk:=.str kd.1) hp hrec kd.2 none none none none Au Au Au Au
    refine ⟨y3,y4,y5,y6,?_⟩
    simp only [thg,hk]
    refine sq (BW (Dr (b:=false) (Af (Ay (Ab (t:=.str kd.1) rfl)) (Ab (t:=AX K) rfl) ?_)) rfl) ?_
    ·unfold AX
     rw [in_t,val_rows W mk]
     rfl
    have ei:itU (Ag AH (Aa 0) (fz (Aa 1))) [vl (AX K),vl (.str kd.1),vl (.tup [.str m,.tup ps]),none,none,none,none]=.ok (kd.2.map CB) [vl (AX K),vl (.str kd.1),vl (.tup [.str m,.tup ps]),none,none,none,none]:=by
     have:=Af (fa:=Aa 0) (fb:=fz (Aa 1)) (fs:=[vl (AX K),vl (.str kd.1),vl (.tup [.str m,.tup ps]),none,none,none,none]) (Ab (t:=AX K) rfl) (Ay (Ab (t:=.str kd.1) rfl)) (get_t (val_rows W mk))
     unfold itU
     rw [this]
     rfl
    cases hf:fnd kd.2 m with
    | none =>
     rw [hf] at e
     simp only at e ⊢
     refine sq (fs':=[vl (AX K),vl (.str kd.1),vl (.tup [.str m,.tup ps]),y3,y4,y5,y6]) ?_ rfl
     unfold Df
     rw [ei]
     exact e
    | some r =>
     rw [hf] at e
     simp only at e ⊢
     refine Dz ?_
     unfold Df
     rw [ei]
     exact e
  obtain ⟨y3,y4,y5,y6,all⟩:=all
  show CV 4 (Dc (AN n)) _=_
  unfold CV
  show (match Dc (AN n) [vl (AX K),vl (.str k),vl (.tup [.str m,.tup ps]),none,none,none,none] with | .nx τ=>_ | .ret (.t t) τ=>_ | .ret (.nw o) τ=>_ | .ret (.rf i) τ=>_ | .exc c τ=>_ | _=>_)=_
  rw [all]
  rfl
theorem ext_ok {i:Nat} {f:FS->Out Rv} {fs fs':FS} {us ts:List T} (h0:fs[i]?=some (some (.own (.lst ts)))) (h:f fs=.ok (.t (.lst us)) fs) (hl:ts.length+us.length<=big) (e:fs.set i (some (.own (.lst (ts++us))))=fs'):Bi (A0 gExtU (Aa i) (Ac f Am)) fs=.nx fs':=by
 have h1:Aa i fs=.ok (.rf i) fs:=CC h0
 have h2:FL.A9 fs i=some (.lst ts):=objO h0
 have h3:Dt fs (.rf i)=some ts:=by simp only [Dt,h2]
 have h4:Ac f Am fs=.ok [.t (.lst us)] fs:=AK h rfl
 have h5:gExt (.rf i) [.t (.lst us)] fs=.ok (.t .non) fs':=by
  simp only [gExt,h2]
  rw [if_pos hl]
  have:FL.putAt fs i (.lst (ts++us))=fs':=by
   unfold FL.putAt
   rw [h0]
   exact e
  rw [this]
 have h5':gExtU (.rf i) [.t (.lst us)] fs=.ok (.t .non) fs':=by
  unfold gExtU FL.orM
  rw [h5]
 have h6:A0 gExtU (Aa i) (Ac f Am) fs=.ok (.t .non) fs':=by
  unfold A0
  rw [h1]
  show (if (Dt fs (.rf i)).isSome=true then _ else _)=_
  rw [h3,if_pos (show (some ts).isSome=true from rfl),h4]
  exact h5'
 unfold Bi
 rw [h6]
 rfl
theorem for_nx {gt:T->FS->Option FS} {body:FS->SO} {t:T} {ts:List T} {fs fs1 fs2:FS} (h1:gt t fs=some fs1) (h2:body fs1=.nx fs2):Ei gt body (t :: ts) fs=Ei gt body ts fs2:=by
 simp only [Ei,h1,h2]
theorem callB_st {g:List Rv->FS->Out Rv} {fa:FS->Out (List Rv)} {fs fs1:FS} {rs:List Rv} {r:Out Rv} (h:fa fs=.ok rs fs1) (h2:g rs fs1=r):Al g fa fs=r:=by
 unfold Al
 rw [h]
 exact h2
theorem bin2_rf1 {g:Rv->Rv->FS->Out Rv} {fa fb:FS->Out Rv} {fs:FS} {y:T} {i:Nat} {r:Out Rv} (h1:fa fs=.ok (.rf i) fs) (h2:fb fs=.ok (.t y) fs) (h3:g (.rf i) (.t y) fs=r):Ag g fa fb fs=r:=by
 unfold Ag
 rw [h1]
 show (fb fs).bnd _=r
 rw [h2]
 exact h3
theorem seq_rf {fs:FS} {i:Nat} {ts:List T} (h:fs[i]?=some (some (.own (.lst ts)))):Dt fs (.rf i)=some ts:=by simp only [Dt,objO h]
theorem cat_ok {ps us:List T} {fs:FS} (h:ps.length+us.length<=big):AF (.t (.tup ps)) (.t (.tup us)) fs=.ok (.t (.tup (ps++us))) fs:=by
 cases ps with
 | nil=>rfl
 | cons p ps =>
  have:gCatT (.t (.tup (p :: ps))) (.t (.tup us)) fs=.ok (.t (.tup (p :: ps++us))) fs:=if_pos ⟨by simp,h⟩
  show (match gCatT (.t (.tup (p :: ps))) (.t (.tup us)) fs with | .bad=>_ | o=>o)=_
  rw [this]
open Builtin.Int (intBits)
theorem Gy {x:Int} {n:Nat}:intBits x<=n↔x.natAbs < 2 ^ n:=by
 unfold intBits
 by_cases h:x=0
 ·subst h
  simp [Nat.two_pow_pos]
 ·have h':(x == 0)=false:=by simpa using h
  rw [h']
  have hn:x.natAbs≠0:=by omega
  have:=Nat.log2_lt hn (k:=n)
  simp only [Bool.false_eq_true,if_false]
  omega
theorem bits_add {x y:Int} {n:Nat} (h1:intBits x<=n) (h2:intBits y<=n):intBits (x+y)<=n+1:=by
 rw [Gy] at h1 h2 ⊢
 rw [Nat.pow_succ]
 generalize 2 ^ n=m at *
 omega
theorem bits_mul {x y:Int} {n m:Nat} (h1:intBits x<=n) (h2:intBits y<=m):intBits (x * y)<=n+m:=by
 rw [Gy] at h1 h2 ⊢
 rw [Int.natAbs_mul,Nat.pow_add]
 have hp:0 < 2 ^ n:=Nat.two_pow_pos n
 calc x.natAbs * y.natAbs<=2 ^ n * y.natAbs:=Nat.mul_le_mul_right _ (by omega)
  _ < 2 ^ n * 2 ^ m:=Nat.mul_lt_mul_of_pos_left h2 hp
theorem bits_sum {n:Nat}:∀ zs:List Int,(∀ z∈zs,intBits z<=n)->zs.sum.natAbs<=zs.length * 2 ^ n
 | [],_=>by simp
 | z :: zs,h=>by
  have h1:=bits_sum zs fun z m=>h z (List.mem_cons_of_mem _ m)
  have h2:=h z List.mem_cons_self
  rw [Gy] at h2
  rw [List.sum_cons,List.length_cons,Nat.add_mul,Nat.one_mul]
  generalize zs.length * 2 ^ n=q at *
  generalize 2 ^ n=m at *
  omega
theorem bits_all:∀ {ns:List Int} {z:Int},z∈ns->intBits z<=CN ns
 | n :: ns,z,h=>by
  simp only [CN]
  rcases List.mem_cons.mp h with rfl | h
  ·omega
  ·have:=bits_all h
   omega
theorem bits_get {ns:List Int} {N:Nat} (hb:CN ns<=N) (i:Nat):intBits (ns.getD i 0)<=N:=by
 by_cases h:i < ns.length
 ·have:ns.getD i 0∈ns:=by
   simp [List.getD,h]
  have:=bits_all this
  omega
 ·have:ns.getD i 0=0:=by simp [List.getD,List.getElem?_eq_none (by omega:ns.length<=i)]
  rw [this,Gy]
  exact Nat.two_pow_pos N
theorem Gz {x:Int} {n:Nat} (h:x.natAbs < 2 ^ n):intBits x<=n:=Gy.mpr h
theorem mixed {ns:List Int} {N:Nat} (hN:N<=2 ^ 20) (hb:CN ns<=N) {a4 bb:Int} (ha0:0<=a4) (ha1:a4<=4) (hb0:1<=bb) (hb1:bb<=10):∃ v τ,DB [vl (.scr (ns.map T.int)),iv a4,iv bb]=.ok (.t (.int v)) τ:=by
 have all:∃ v τ,Gf [vl (.scr (ns.map T.int)),iv a4,iv bb,none,none]=.ret (.t (.int v)) τ:=by
  unfold Gf
  obtain ⟨zs,⟨hl,hz⟩,e1⟩:=drawn (t:=.scr (ns.map T.int)) (ns:=ns) (.inl rfl) (a:=a4) (b:=bb) ha0 (by omega) hb0 (by omega) [none,none]
  have hs:intBits zs.sum<=N+6:=by
   have:=bits_sum (n:=N) zs fun z m=>by
    obtain ⟨i,rfl⟩:=hz z m
    exact bits_get hb i
   rw [Gy,Nat.pow_add]
   have hp:=Nat.two_pow_pos N
   have h2:zs.length * 2 ^ N<=63 * 2 ^ N:=Nat.mul_le_mul_right _ hl
   generalize 2 ^ N=m at *
   omega
  generalize zs.sum=c at e1 hs
  generalize T.scr (ns.map T.int)=sc at e1 ⊢
  have s3:AY 3 (Al gSum (Ac (Cp false [none,some 0] (itR3 (Ac (Aa 1) (Ac (Al Gv (Ac (Al Bm (Ac (Aa 0) Am)) (Ac (gc (.int 63)) Am))) (Ac (Aa 2) Am)))) (tgN 0) EZ (Ag AH (Aa 1) (fz (Aa 0)))) Am)) [vl sc,iv a4,iv bb,none,none]=.nx [vl sc,iv a4,iv bb,iv c,none]:=Bs e1 rfl
  have ce:=HH (fa:=Ag Cu (Aa 3) (gc (.int 2))) (fb:=gc (.int 0)) (fs:=[vl sc,iv a4,iv bb,iv c,none]) (i:=c % 2) (Af (Ab rfl) AA (Cw (by decide))) AA
  by_cases h0:c % 2=0
  ·rw [decide_eq_true h0] at ce
   have hp:gPow (.t (.int 10)) (.t (.int 60)) [vl sc,iv a4,iv bb,iv c,none]=.ok (.t (.int (10 ^ 60))) [vl sc,iv a4,iv bb,iv c,none]:=by
    show (if (0:Int)<=60/\(60:Int)<=1000000/\(10:Int).natAbs < 2 ^ 64 then okT (.int (10 ^ (60:Int).toNat)) _ else .bad)=_
    rw [if_pos ⟨by decide,by decide,by decide⟩]
    rfl
   have hq:(0:Int) < 10 ^ 60:=by decide
   generalize (10:Int) ^ 60=P at hp hq
   exact ⟨_,_,sq s3 (Dz (Ff ce (Du (Af (Af (Ab rfl) AA (FK ⟨by decide,by decide⟩)) (Af AA AA hp) (Cw hq)))))⟩
  ·rw [decide_eq_false h0] at ce
   have hN6:N+6<=2 ^ 26:=by
                   have:(2:Nat) ^ 20=1048576:=by decide
                   have:(2:Nat) ^ 26=67108864:=by decide
                   omega
   have b1:intBits (c * c)<=(N+6)+(N+6):=bits_mul hs hs
   have b2:intBits (c * c+c)<=(N+6)+(N+6)+1:=bits_add b1 (by omega)
   have b3:intBits (c * c+c+a4)<=(N+6)+(N+6)+1+1:=bits_add b2 (Nat.le_trans (Gz (n:=3) (by omega)) (by omega))
   have b4:intBits (c * c+c+a4+1)<=(N+6)+(N+6)+1+1+1:=bits_add b3 (Nat.le_trans (Gz (n:=3) (by decide)) (by omega))
   have b5:intBits ((c * c+c+a4+1) * 982451653)<=(N+6)+(N+6)+1+1+1+30:=bits_mul b4 (Gz (by decide))
   have m1:Ag Bt (Aa 3) (Aa 3) [vl sc,iv a4,iv bb,iv c,none]=.ok (.t (.int (c * c))) [vl sc,iv a4,iv bb,iv c,none]:=Af (Ab rfl) (Ab rfl) (gMulU_b ⟨by omega,by omega⟩)
   have m2:Ag Bt (Ag AF (Ag AF (Ag AF (Ag Bt (Aa 3) (Aa 3)) (Aa 3)) (Aa 1)) (gc (.int 1))) (gc (.int 982451653)) [vl sc,iv a4,iv bb,iv c,none]=.ok (.t (.int ((c * c+c+a4+1) * 982451653))) [vl sc,iv a4,iv bb,iv c,none] :=
    Af (Af (Af (Af m1 (Ab rfl) Bh) (Ab rfl) Bh) AA Bh) AA (gMulU_r ⟨by decide,by decide⟩)
   generalize (c * c+c+a4+1) * 982451653=f at m2 b5
   have s4:=Bs (i:=4) m2 (fs':=[vl sc,iv a4,iv bb,iv c,iv f]) rfl
   have hff:intBits f<=2 ^ 26:=by
    have:(2:Nat) ^ 20=1048576:=by decide
    have:(2:Nat) ^ 26=67108864:=by decide
    omega
   have hp:gPow (.t (.int 10)) (.t (.int 18)) [vl sc,iv a4,iv bb,iv c,iv f]=.ok (.t (.int 1000000000000000000)) [vl sc,iv a4,iv bb,iv c,iv f]:=by
    show (if (0:Int)<=18/\(18:Int)<=1000000/\(10:Int).natAbs < 2 ^ 64 then okT (.int (10 ^ (18:Int).toNat)) _ else .bad)=_
    rw [if_pos ⟨by decide,by decide,by decide⟩]
    rfl
   have m3:Ag Cu (Ag Bt (Aa 4) (Aa 4)) (Ag AF (Ag gPow (gc (.int 10)) (gc (.int 18))) (gc (.int 9))) [vl sc,iv a4,iv bb,iv c,iv f]=.ok (.t (.int (f * f % (1000000000000000000+9)))) [vl sc,iv a4,iv bb,iv c,iv f] :=
    Af (Af (Ab rfl) (Ab rfl) (gMulU_b ⟨hff,hff⟩)) (Af (Af AA AA hp) AA Bh) (Cw (by decide))
   have hg:-(2 ^ 64) < f * f % (1000000000000000000+9)/\f * f % (1000000000000000000+9) < 2 ^ 64:=by
    have h1:=Int.emod_nonneg (f * f) (show (1000000000000000000+9:Int)≠0 by decide)
    have h2:=Int.emod_lt_of_pos (f * f) (show (0:Int) < 1000000000000000000+9 by decide)
    generalize f * f % (1000000000000000000+9)=g at h1 h2 ⊢
    omega
   generalize f * f % (1000000000000000000+9)=g at m3 hg
   have m4:Ag AF (Ag Cu (Aa 4) (gc (.int 2147483629))) (gc (.int 7)) [vl sc,iv a4,iv bb,iv c,iv f]=.ok (.t (.int (f % 2147483629+7))) [vl sc,iv a4,iv bb,iv c,iv f]:=Af (Af (Ab rfl) AA (Cw (by decide))) AA Bh
   exact ⟨_,_,sq s3 (sq (BW ce rfl) (sq s4 (Du (Af m3 m4 (EN hg)))))⟩
 obtain ⟨v,τ,all⟩:=all
 refine ⟨v,τ.take 3,?_⟩
 unfold DB CV
 show (match Gf [vl (.scr (ns.map T.int)),iv a4,iv bb,none,none] with | .nx τ=>_ | .ret (.t t) τ=>_ | .ret (.nw o) τ=>_ | .ret (.rf i) τ=>_ | .exc c τ=>_ | _=>_)=_
 rw [all]
 rfl
theorem nms_nodup (c:Int) {n:Nat} (h:n<=12):(nms c n).Nodup:=by
 unfold nms
 rw [List.nodup_iff_pairwise_ne,List.pairwise_map]
 refine List.Pairwise.imp_of_mem ?_ (List.nodup_iff_pairwise_ne.mp (List.nodup_range (n:=n)))
 intro a b ma mb hab e
 rw [List.mem_range] at ma mb
 exact hab (nmS_inj (by omega) (by omega) e)
theorem nms_mem {c:Int} {n:Nat} {x:Str} (h:x∈nms c n):∃ k,x=nmS c k:=by
 unfold nms at h
 rw [List.mem_map] at h
 obtain ⟨k,_,e⟩:=h
 exact ⟨k,e.symm⟩
theorem nmS_len (c:Int) (k:Nat):(nmS c k).length<=12:=by
 show (Nm.codes c k).toArray.size<=12
 rw [List.size_toArray]
 exact Nm.codes_hi c k
theorem used_snoc' (K:Kd) (kd:Str×List (Str×List Str)):used (K++[kd])=used K+kd.2.length:=by
 unfold used
 simp
theorem mks_take {names makers:List Str} {K:Kd} (h:KOk names makers K) (hu:used K<=makers.length):∀ a,a<=K.length->mks (K.take a)=makers.take (used (K.take a))/\used (K.take a)<=used K
 | 0,_=>by simp [mks,used]
 | a+1,ha=>by
  obtain ⟨i1,i2⟩:=mks_take h hu a (by omega)
  have hlt:a < K.length:=by omega
  obtain ⟨_,_,_,R⟩:=h.at_ a K[a] (List.getElem?_eq_getElem hlt)
  have e:K.take (a+1)=K.take a++[K[a]]:=by rw [List.take_succ_eq_append_getElem hlt]
  have hle:used (K.take (a+1))<=used K:=by
   have:K=K.take (a+1)++K.drop (a+1):=(List.take_append_drop _ _).symm
   conv=>rhs;rw [this]
   unfold used
   rw [List.map_append,List.sum_append]
   omega
  refine ⟨?_,hle⟩
  rw [e] at hle ⊢
  rw [mks_app,used_snoc',i1,GU]
  rw [used_snoc'] at hle
  simp only [mks,List.flatMap_nil,List.append_nil]
  rw [R.mks]
  generalize used (K.take a)=u at *
  generalize K[a].2.length=l at *
  rw [List.take_add]
  congr 1
  refine List.ext_getElem? fun j=>?_
  rw [List.getElem?_take]
  by_cases hj:j < l
  ·rw [if_pos hj,List.getElem?_drop,List.getElem?_map,List.getElem?_range hj]
   have:u+j < makers.length:=by omega
   simp [List.getD,this]
  ·rw [if_neg hj,List.getElem?_eq_none (by simp;omega)]
theorem well {c0 c1:Int} {K:Kd} (h1:1<=K.length) (h4:K.length<=4) (h:KOk (nms c0 K.length) (nms c1 12) K) (hu:used K<=12):Well K:=by
 have hnames:K.map (·.1)=nms c0 K.length:=by
  refine List.ext_getElem? fun i=>?_
  rw [List.getElem?_map]
  by_cases hi:i < K.length
  ·have:=(h.at_ i K[i] (List.getElem?_eq_getElem hi)).1
   rw [List.getElem?_eq_getElem hi,Option.map_some,this,List.getElem?_eq_getElem (by rw [Gq];exact hi)]
   simp [List.getD,Gq,hi]
  ·rw [List.getElem?_eq_none (by omega),List.getElem?_eq_none (by rw [Gq];omega)]
   rfl
 have hmks:mks K=(nms c1 12).take (used K):=by
  have:=(mks_take h (by rw [Gq];exact hu) K.length (Nat.le_refl _)).1
  rwa [List.take_length] at this
 have hat:∀ kd∈K,∃ a,a < K.length/\1<=kd.2.length/\kd.2.length<=4/\Rows (nms c0 K.length) (nms c1 12) a (used (K.take a)) kd.2:=fun kd m=>by
  obtain ⟨a,ha,ea⟩:=List.mem_iff_getElem.mp m
  obtain ⟨_,q1,q2,R⟩:=h.at_ a kd (by rw [List.getElem?_eq_getElem ha,ea])
  exact ⟨a,ha,q1,q2,R⟩
 have hmm:∀ m∈mks K,∃ k,m=nmS c1 k:=fun m hm=>by
  rw [hmks] at hm
  exact nms_mem (List.mem_of_mem_take hm)
 refine ⟨h1,h4,?_,fun kd m=>?_,fun kd m=>?_,?_,fun m hm=>?_,fun m hm=>?_,fun kd m r hr=>?_,fun kd m r hr x hx=>?_,fun D kd R e r hr x hx=>?_⟩
 ·rw [hnames]
  exact nms_nodup c0 (by omega)
 ·have:kd.1∈nms c0 K.length:=by rw [<- hnames];exact List.mem_map.mpr ⟨kd,m,rfl⟩
  obtain ⟨k,e⟩:=nms_mem this
  rw [e]
  exact is_name_nm c0 k
 ·obtain ⟨a,_,q1,q2,_⟩:=hat kd m
  exact ⟨q1,q2⟩
 ·rw [hmks]
  exact (nms_nodup c1 (Nat.le_refl 12)).sublist (List.take_sublist _ _)
 ·obtain ⟨k,e⟩:=hmm m hm
  rw [e]
  exact is_name_nm c1 k
 ·obtain ⟨k,e⟩:=hmm m hm
  rw [e]
  exact nmS_len c1 k
 ·obtain ⟨a,_,_,_,R⟩:=hat kd m
  exact R.two r hr
 ·obtain ⟨a,_,_,_,R⟩:=hat kd m
  rw [hnames]
  exact R.prt r hr x hx
 ·obtain ⟨_,_,_,Rw⟩:=h.at_ D.length kd (by rw [e];simp)
  have:=Rw.fst r hr x hx
  rw [<- hnames,e,List.map_append] at this
  rwa [List.take_left' (by simp)] at this
theorem make_ok {C:Addr} {p:Nat} {Fn:FS->Out Rv} {fa:FS->Out (List Rv)} {fs fs1 τ:FS} {rs:List Rv} {o:FO} (ha:fa fs=.ok rs fs1) (hp:rs.length+1=p) (hl:Dd fs1 (rs.map Dl)=[]) (hf:Fn (some (.bor (.ins C [] [])) :: EM fs1 (rs.map Dl))=.ok (.t .non) (some (.bor o) :: τ)):Al (makeR C p Fn) fa fs=.ok (.nw o) fs1:=by
 unfold Al
 rw [ha]
 show makeR C p Fn rs fs1=_
 unfold makeR
 rw [if_pos ⟨by rw [hl];exact List.nodup_nil,hp⟩,hf]
 dsimp only
 rw [AZ hl]
theorem orT_f {f g:FS->Out Bool} {fs:FS} {r:Out Bool} (h:f fs=.ok false fs) (e:g fs=r):orT f g fs=r:=by
 unfold orT
 rw [h]
 exact e
def rws (L:Nat->Str->List T):List Str->Nat->List (List T)
 | [],m=>if m=0 then [[]] else []
 | k :: ks,m=>(List.range m).flatMap fun i=>(L (i+1) k).flatMap fun f=>(rws L ks (m - (i+1))).map fun r=>f :: r
def thT (m:Str) (ps:List T):T:=.tup [.str m,.tup ps]
def ofK (K:Kd) (L:Nat->Str->List T) (n:Nat) (k:Str):List T:=match kf K k with
 | none=>[]
 | some kd=>kd.2.flatMap fun r=>(rws L r.2 n).map (thT r.1)
def tab (K:Kd):Nat->Nat->Str->List T
 | 0,_,_=>[]
 | n+1,s,k=>if s=n+1 then ofK K (tab K n) n k else tab K n s k
def LL (K:Kd) (s:Nat) (k:Str):List T:=tab K s s k
theorem tab_le (K:Kd) (k:Str):∀ (n s:Nat),s<=n->tab K n s k=LL K s k
 | 0,s,h=>by
  have:s=0:=by omega
  subst this
  rfl
 | n+1,s,h=>by
  by_cases e:s=n+1
  ·subst e;rfl
  ·show (if s=n+1 then _ else tab K n s k)=_
   rw [if_neg e]
   exact tab_le K k n s (by omega)
theorem Ec {α β:Type} {f g:α->List β}:∀ {xs:List α},(∀ x∈xs,f x=g x)->xs.flatMap f=xs.flatMap g
 | [],_=>rfl
 | x :: xs,h=>by rw [List.flatMap_cons,List.flatMap_cons,h x List.mem_cons_self,Ec fun y m=>h y (List.mem_cons_of_mem _ m)]
theorem rws_congr {L L':Nat->Str->List T}:∀ (ks:List Str) (m:Nat),(∀ s k,1<=s->s<=m->L s k=L' s k)->rws L ks m=rws L' ks m
 | [],m,_=>rfl
 | k :: ks,m,h=>by
  unfold rws
  have:∀ i∈List.range m,((L (i+1) k).flatMap fun f=>(rws L ks (m - (i+1))).map fun r=>f :: r)=((L' (i+1) k).flatMap fun f=>(rws L' ks (m - (i+1))).map fun r=>f :: r):=fun i hi=>by
   rw [List.mem_range] at hi
   rw [h (i+1) k (by omega) (by omega),rws_congr ks (m - (i+1)) fun s k h1 h2=>h s k h1 (by omega)]
  exact Ec this
theorem Dv (K:Kd) (k:Str):LL K 0 k=[]:=rfl
theorem LL_succ (K:Kd) (n:Nat) (k:Str):LL K (n+1) k=ofK K (LL K) n k:=by
 show (if n+1=n+1 then ofK K (tab K n) n k else _)=_
 rw [if_pos rfl]
 unfold ofK
 cases kf K k with
 | none=>rfl
 | some kd =>
  simp only
  exact Ec fun r _=>by rw [rws_congr r.2 n fun s k _ h2=>tab_le K k n s h2]
theorem Gk (L:Nat->Str->List T) (m:Nat):rws L [] m=if m=0 then [[]] else []:=rfl
theorem range_last {β:Type} {f:Nat->List β} {m:Nat} (h:∀ i,i < m->f i=[]):(List.range m).flatMap f=[]:=by
 rw [List.flatMap_eq_nil_iff]
 intro i hi
 exact h i (List.mem_range.mp hi)
theorem rws_one {L:Nat->Str->List T} {a:Str} (h0:L 0 a=[]) (m:Nat):rws L [a] m=(L m a).map fun p=>[p]:=by
 cases m with
 | zero=>rw [h0];rfl
 | succ m =>
  have e:rws L [a] (m+1)=(List.range (m+1)).flatMap fun i=>(L (i+1) a).flatMap fun f=>(if m+1 - (i+1)=0 then [[]] else []).map fun r=>f :: r:=rfl
  rw [e,List.range_succ,List.flatMap_append,range_last,List.nil_append,List.flatMap_cons,List.flatMap_nil,List.append_nil]
  ·have:m+1 - (m+1)=0:=by omega
   rw [if_pos this]
   rw [List.map_eq_flatMap]
   rfl
  ·intro i hi
   have:¬ (m+1 - (i+1)=0):=by omega
   rw [if_neg this]
   rw [List.flatMap_eq_nil_iff]
   intro _ _
   rfl
theorem rws_two {L:Nat->Str->List T} {a b:Str} (h0:L 0 b=[]) (m:Nat):rws L [a,b] m=(List.range m).flatMap fun i=>(L (i+1) a).flatMap fun p=>(L (m - (i+1)) b).map fun q=>[p,q]:=by
 have e:rws L [a,b] m=(List.range m).flatMap fun i=>(L (i+1) a).flatMap fun f=>(rws L [b] (m - (i+1))).map fun r=>f :: r:=rfl
 rw [e]
 refine Ec fun i _=>Ec fun f _=>?_
 rw [rws_one h0,List.map_map]
 rfl
def sumTo (m:Nat) (g:Nat->Nat):Nat:=((List.range m).map g).sum
theorem DF (m:Nat) (g:Nat->Nat):sumTo (m+1) g=sumTo m g+g m:=by
 unfold sumTo
 rw [List.range_succ,List.map_append,List.sum_append]
 simp
theorem El {α β:Type} (f:α->List β) (xs:List α):(xs.flatMap f).length=(xs.map fun x=>(f x).length).sum:=by
 induction xs with
 | nil=>rfl
 | cons x xs ih=>rw [List.flatMap_cons,List.length_append,ih,List.map_cons,List.sum_cons]
theorem FU {α:Type} (xs:List α) (c:Nat):(xs.map fun _=>c).sum=xs.length * c:=by
 induction xs with
 | nil=>simp
 | cons x xs ih=>rw [List.map_cons,List.sum_cons,ih,List.length_cons,Nat.add_mul];omega
theorem two_len {L:Nat->Str->List T} {a b:Str} (h0:L 0 b=[]) (m:Nat):(rws L [a,b] m).length=sumTo m fun i=>(L (i+1) a).length * (L (m - (i+1)) b).length:=by
 rw [rws_two h0,El]
 unfold sumTo
 congr 1
 refine List.map_congr_left fun i _=>?_
 rw [El]
 simp only [List.length_map]
 exact FU _ _
theorem one_len {L:Nat->Str->List T} {a:Str} (h0:L 0 a=[]) (m:Nat):(rws L [a] m).length=(L m a).length:=by
 rw [rws_one h0,List.length_map]
def bnd:Nat->Nat
 | 1=>4 | 2=>16 | 3=>64 | 4=>512 | 5=>3072 | 6=>24576 | 7=>180224 | _=>0
theorem sum_mono {m:Nat} {g g':Nat->Nat} (h:∀ i,i < m->g i<=g' i):sumTo m g<=sumTo m g':=by
 induction m with
 | zero=>exact Nat.le_refl _
 | succ m ih =>
  rw [DF,DF]
  have:=ih fun i hi=>h i (by omega)
  have:=h m (by omega)
  omega
def bnd2 (m:Nat):Nat:=sumTo m fun i=>bnd (i+1) * bnd (m - (i+1))
theorem bnd_step:∀ n,n < 7->4<=bnd (n+1)/\4 * bnd n<=bnd (n+1)/\4 * bnd2 n<=bnd (n+1):=by decide
theorem sum_le {α:Type} {g:α->Nat} {c:Nat}:∀ (xs:List α),(∀ x∈xs,g x<=c)->(xs.map g).sum<=xs.length * c
 | [],_=>by simp
 | x :: xs,h=>by
  rw [List.map_cons,List.sum_cons,List.length_cons,Nat.add_mul]
  have:=sum_le xs fun y m=>h y (List.mem_cons_of_mem _ m)
  have:=h x List.mem_cons_self
  omega
theorem rws_bnd {K:Kd} {n:Nat} (hn:n < 7) (ih:∀ s k,s<=n->(LL K s k).length<=bnd s) {ks:List Str} (h2:ks.length<=2):4 * (rws (LL K) ks n).length<=bnd (n+1):=by
 obtain ⟨b0,b1,b2⟩:=bnd_step n hn
 match ks,h2 with
 | [],_ =>
  rw [Gk]
  split
  ·simpa using b0
  ·simp
 | [a],_ =>
  rw [one_len (Dv K a)]
  have:=ih n a (Nat.le_refl _)
  omega
 | [a,b],_ =>
  rw [two_len (Dv K b)]
  have:(sumTo n fun i=>(LL K (i+1) a).length * (LL K (n - (i+1)) b).length)<=bnd2 n:=sum_mono fun i hi=>Nat.mul_le_mul (ih _ _ (by omega)) (ih _ _ (by omega))
  omega
 | _ :: _ :: _ :: _,h=>simp at h
theorem LL_bnd {K:Kd} (W:Well K):∀ (n:Nat),n<=7->∀ s k,s<=n->(LL K s k).length<=bnd s
 | 0,_,s,k,h=>by
  have:s=0:=by omega
  subst this
  simp [Dv]
 | n+1,hn,s,k,h=>by
  have ih:=LL_bnd W n (by omega)
  by_cases e:s=n+1
  ·subst e
   rw [LL_succ]
   unfold ofK
   cases hk:kf K k with
   | none=>simp
   | some kd =>
    simp only
    have hm:=(Hw hk).1
    rw [El]
    simp only [List.length_map]
    have h4:=(W.rw kd hm).2
    have hb:∀ r∈kd.2,4 * (rws (LL K) r.2 n).length<=bnd (n+1):=fun r mr=>rws_bnd (by omega) ih (W.two kd hm r mr)
    have:(kd.2.map fun r=>(rws (LL K) r.2 n).length).sum<=kd.2.length * (bnd (n+1) / 4):=sum_le _ fun r mr=>by
     have:=hb r mr
     omega
    have h5:kd.2.length * (bnd (n+1) / 4)<=4 * (bnd (n+1) / 4):=Nat.mul_le_mul_right _ h4
    omega
  ·exact ih s k (by omega)
theorem bnd_all:∀ n,n<=7->bnd n<=180224:=by decide
theorem LL_len {K:Kd} (W:Well K) {n:Nat} (hn:n<=7) (k:Str):(LL K n k).length<=180224:=Nat.le_trans (LL_bnd W n hn n k (Nat.le_refl _)) (bnd_all n hn)
theorem rws_len {K:Kd} (W:Well K) {n:Nat} (hn:n < 7) {ks:List Str} (h2:ks.length<=2):(rws (LL K) ks n).length<=180224:=by
 have h1:=rws_bnd (K:=K) hn (LL_bnd W n (by omega)) h2
 have h3:=bnd_all (n+1) (by omega)
 omega
theorem FN {α β:Type} (f:α->List β):∀ (xs:List α) (i:Nat) (y:β),(xs.flatMap f)[i]?=some y->∃ j x i',xs[j]?=some x/\(f x)[i']?=some y/\i=((xs.take j).map fun x=>(f x).length).sum+i'
 | [],i,y,h=>by simp at h
 | x :: xs,i,y,h=>by
  rw [List.flatMap_cons] at h
  by_cases hi:i < (f x).length
  ·rw [List.getElem?_append_left hi] at h
   exact ⟨0,x,i,rfl,h,by simp⟩
  ·rw [List.getElem?_append_right (by omega)] at h
   obtain ⟨j,x',i',h1,h2,h3⟩:=FN f xs (i - (f x).length) y h
   refine ⟨j+1,x',i',by simpa using h1,h2,?_⟩
   rw [List.take_succ_cons,List.map_cons,List.sum_cons]
   omega
theorem map_idx {α β:Type} {f:α->β} {xs:List α} {i:Nat} {y:β} (h:(xs.map f)[i]?=some y):∃ x,xs[i]?=some x/\f x=y:=by
 rw [List.getElem?_map,Option.map_eq_some_iff] at h
 exact h
theorem Fo {j m:Nat} (h:j<=m) (g:Nat->Nat):(((List.range m).take j).map g).sum=sumTo j g:=by
 unfold sumTo
 rw [List.take_range,Nat.min_eq_left h]
theorem two_idx {L:Nat->Str->List T} {a b:Str} (h0:L 0 b=[]) {m i:Nat} {ps:List T} (h:(rws L [a,b] m)[i]?=some ps) :
  ∃ s p q ip iq,1<=s/\s<=m/\ps=[p,q]/\(L s a)[ip]?=some p/\(L (m - s) b)[iq]?=some q/\i=(sumTo (s - 1) fun f=>(L (f+1) a).length * (L (m - (f+1)) b).length)+ip * (L (m - s) b).length+iq:=by
 rw [rws_two h0] at h
 obtain ⟨j,x,i',h1,h2,h3⟩:=FN _ _ _ _ h
 have hj:j < m/\x=j:=by
  have hlt:j < (List.range m).length:=(List.getElem?_eq_some_iff.mp h1).1
  rw [List.length_range] at hlt
  rw [List.getElem?_range hlt] at h1
  exact ⟨hlt,(Option.some.inj h1).symm⟩
 obtain ⟨hj,rfl⟩:=hj
 obtain ⟨ip,p,iq,h4,h5,h6⟩:=FN _ _ _ _ h2
 obtain ⟨q,h7,h8⟩:=map_idx h5
 refine ⟨x+1,p,q,ip,iq,by omega,by omega,h8.symm,h4,h7,?_⟩
 have e1:(((List.range m).take x).map fun i=>((L (i+1) a).flatMap fun p=>(L (m - (i+1)) b).map fun q=>[p,q]).length).sum=sumTo x fun f=>(L (f+1) a).length * (L (m - (f+1)) b).length:=by
  rw [Fo (by omega)]
  unfold sumTo
  congr 1
  refine List.map_congr_left fun i _=>?_
  rw [El]
  simp only [List.length_map]
  exact FU _ _
 have e2:(((L (x+1) a).take ip).map fun p=>((L (m - (x+1)) b).map fun q=>[p,q]).length).sum=ip * (L (m - (x+1)) b).length:=by
  simp only [List.length_map]
  rw [FU,List.length_take]
  have:=(List.getElem?_eq_some_iff.mp h4).1
  rw [Nat.min_eq_left (by omega)]
 rw [e1] at h3
 rw [e2] at h6
 rw [h3,h6,Nat.add_sub_cancel]
 omega
theorem LL_idx {K:Kd} {n i:Nat} {k:Str} {t:T} (h:(LL K (n+1) k)[i]?=some t):∃ kd j r ps i',kf K k=some kd/\kd.2[j]?=some r/\t=thT r.1 ps/\(rws (LL K) r.2 n)[i']?=some ps/\i=((kd.2.take j).map fun r=>(rws (LL K) r.2 n).length).sum+i':=by
 rw [LL_succ] at h
 unfold ofK at h
 cases hk:kf K k with
 | none=>rw [hk] at h;simp at h
 | some kd =>
  rw [hk] at h
  simp only at h
  obtain ⟨j,r,i',h1,h2,h3⟩:=FN _ _ _ _ h
  obtain ⟨ps,h4,h5⟩:=map_idx h2
  refine ⟨kd,j,r,ps,i',rfl,h1,h5.symm,h4,?_⟩
  simpa only [List.length_map] using h3
def cat (K:Kd) (k:Str) (w:Nat):List T:=(List.range w).flatMap fun i=>LL K (i+1) k
theorem FY (K:Kd) (k:Str) (w:Nat):cat K k (w+1)=cat K k w++LL K (w+1) k:=by
 unfold cat
 rw [List.range_succ,List.flatMap_append]
 simp
theorem cat_idx {K:Kd} {k:Str} {w i:Nat} {t:T} (h:(cat K k w)[i]?=some t):∃ s i',1<=s/\s<=w/\(LL K s k)[i']?=some t/\i=(sumTo (s - 1) fun f=>(LL K (f+1) k).length)+i':=by
 unfold cat at h
 obtain ⟨j,x,i',h1,h2,h3⟩:=FN _ _ _ _ h
 have hlt:j < (List.range w).length:=(List.getElem?_eq_some_iff.mp h1).1
 rw [List.length_range] at hlt
 rw [List.getElem?_range hlt] at h1
 have:x=j:=(Option.some.inj h1).symm
 subst this
 refine ⟨x+1,i',by omega,by omega,h2,?_⟩
 rw [Fo (by omega)] at h3
 rw [Nat.add_sub_cancel]
 exact h3
theorem cat_len {K:Kd} (W:Well K) (k:Str):∀ w,w<=7->(cat K k w).length<=w * 140000
 | 0,_=>by simp [cat]
 | w+1,h=>by
  have:=cat_len W k w (by omega)
  have h1:=LL_bnd W (w+1) h (w+1) k (Nat.le_refl _)
  rw [FY,List.length_append]
  have:w+1=7∨w+1<=6:=by omega
  rcases this with q | q
  ·have h2:(cat K k w).length<=6 * 24576:=by
    have:w=6:=by omega
    subst this
    have hc:∀ u,u<=6->(cat K k u).length<=u * 24576:=by
     intro u
     induction u with
     | zero=>intro _;simp [cat]
     | succ u ih =>
      intro hu
      have a1:=ih (by omega)
      have a2:=LL_bnd W (u+1) (by omega) (u+1) k (Nat.le_refl _)
      have a3:∀ n,n<=6->bnd n<=24576:=by decide
      have a4:=a3 (u+1) hu
      rw [FY,List.length_append,Nat.add_mul]
      omega
    exact hc 6 (Nat.le_refl _)
   have h3:=bnd_all (w+1) (by omega)
   rw [Nat.add_mul]
   omega
  ·have a3:∀ n,n<=6->bnd n<=24576:=by decide
   have:=a3 (w+1) q
   rw [Nat.add_mul]
   omega
theorem cat_pre {K:Kd} {k:Str} {w:Nat}:∀ v,w<=v->∃ more,cat K k v=cat K k w++more
 | v,h=>by
  obtain ⟨d,rfl⟩:∃ d,v=w+d:=⟨v - w,by omega⟩
  induction d with
  | zero=>exact ⟨[],by simp⟩
  | succ d ih =>
   obtain ⟨m,e⟩:=ih (by omega)
   exact ⟨m++LL K (w+d+1) k,by rw [<- Nat.add_assoc,FY,e,List.append_assoc]⟩
def BO (p:Str×Nat):List Key:=[.inr p.1,.inl (p.2:Int)]
theorem Hz {p q:Str×Nat} (h:BO p=BO q):p=q:=by
 obtain ⟨a,b⟩:=p
 obtain ⟨c,d⟩:=q
 unfold BO at h
 simp only [List.cons.injEq,Sum.inr.injEq,Sum.inl.injEq,and_true] at h
 obtain ⟨h1,h2⟩:=h
 subst h1
 have:b=d:=by omega
 subst this
 rfl
theorem valT_fun {κ α:Type} [DecidableEq κ] {f:α->κ} {g:α->T}:∀ {xs:List α} {x:α},x∈xs->(∀ y∈xs,f y=f x->g y=g x)->DP (xs.map f) (xs.map g) (f x)=some (g x)
 | y :: ys,x,m,h=>by
  rw [List.map_cons,List.map_cons]
  unfold DP
  by_cases e:f y=f x
  ·rw [if_pos e,h y List.mem_cons_self e]
  ·rw [if_neg e]
   rcases List.mem_cons.mp m with rfl | m
   ·exact (e rfl).elim
   ·exact valT_fun m fun z mz=>h z (List.mem_cons_of_mem _ mz)
theorem Hb {P:List (Str×Nat)} {g:Str×Nat->T} {k:Str} {s:Nat} (h:(k,s)∈P):DP (P.map BO) (P.map g) ([.inr k,.inl (s:Int)]:List Key)=some (g (k,s)) :=
 valT_fun (f:=BO) (g:=g) (x:=(k,s)) h fun y _ e=>by rw [Hz e]
theorem HV {P:List (Str×Nat)} {g:Str×Nat->T} {k:Str} {s:Nat} (h:(k,s)∉P):DP (P.map BO) (P.map g) ([.inr k,.inl (s:Int)]:List Key)=none :=
 Ey (k:=BO (k,s)) fun m=>by
  rw [List.mem_map] at m
  obtain ⟨y,my,e⟩:=m
  exact h (Hz e▸my)
def DT (fs:FS) (i:Nat) (ks:List (List Key)) (vs:List T):Prop:=fs[i]?=some (vl (.dT ks vs))∨fs[i]?=some (some (.bor (.dT ks vs)))∨fs[i]?=some (some (.own (.dT ks vs)))
theorem ixD_ok {fs:FS} {i:Nat} {ks:List (List Key)} {vs:List T} {fk:FS->Out Rv} {k:Str} {s:Int} {t:T} (h:DT fs i ks vs) (hk:fk fs=.ok (.t (.tup [.str k,.int s])) fs) (hv:DP ks vs ([.inr k,.inl s]:List Key)=some t):Ag AH (Aa i) fk fs=.ok (.t t) fs:=by
 have key:∀ x,dget fs x (.tup [.str k,.int s])=some (some t)->gIx x (.t (.tup [.str k,.int s])) fs=.bad->AH x (.t (.tup [.str k,.int s])) fs=.ok (.t t) fs:=fun x h1 h2=>by
  unfold AH orG
  rw [h2]
  simp only [gDGet,h1,okT]
 have hbad:∀ x,gIx x (.t (.tup [.str k,.int s])) fs=.bad:=fun x=>by cases x <;> rfl
 rcases h with h | h | h
 ·refine Af (Ab h) hk (key _ ?_ (hbad _))
  simp only [dget,Fz,tKey,Option.bind_some,Option.map_some,hv]
 ·refine bin2_rf1 (De h) hk (key _ ?_ (hbad _))
  simp only [dget,objB h,Fz,tKey,Option.bind_some,Option.map_some,hv]
 ·refine bin2_rf1 (CC h) hk (key _ ?_ (hbad _))
  simp only [dget,objO h,Fz,tKey,Option.bind_some,Option.map_some,hv]
theorem getF_ok {fs:FS} {i:Nat} {ks:List (List Key)} {vs:List T} {fk fd:FS->Out Rv} {k:Str} {s:Int} {z:T} (h:DT fs i ks vs) (hk:fk fs=.ok (.t (.tup [.str k,.int s])) fs) (hd:fd fs=.ok (.t z) fs):getF (Aa i) fk fd fs=.ok (.t ((DP ks vs ([.inr k,.inl s]:List Key)).getD z)) fs:=by
 have key:∀ x,isDR fs x=true->dget fs x (.tup [.str k,.int s])=some (DP ks vs ([.inr k,.inl s]:List Key))->(Aa i fs=.ok x fs)->(∀ o,x≠.nw o)->getF (Aa i) fk fd fs=.ok (.t ((DP ks vs ([.inr k,.inl s]:List Key)).getD z)) fs:=fun x h1 h2 h3 h4=>by
  unfold getF
  rw [h3]
  cases x with
  | nw o=>exact (h4 o rfl).elim
  | t t=>simp only [Out.bnd,Out.bind,h1,if_true,hk,hd,h2,okT]
  | rf j=>simp only [Out.bnd,Out.bind,h1,if_true,hk,hd,h2,okT]
 rcases h with h | h | h
 ·exact key _ rfl (by simp only [dget,Fz,tKey,Option.bind_some,Option.map_some]) (Ab h) (fun o e=>by cases e)
 ·exact key _ (by simp only [isDR,objB h]) (by simp only [dget,objB h,Fz,tKey,Option.bind_some,Option.map_some]) (De h) (fun o e=>by cases e)
 ·exact key _ (by simp only [isDR,objO h]) (by simp only [dget,objO h,Fz,tKey,Option.bind_some,Option.map_some]) (CC h) (fun o e=>by cases e)
theorem DI {i j:Int} {fs fs1:FS} {fa:FS->Out (List Rv)} (e:fa fs=.ok [.t (.int i),.t (.int j)] fs1) (h1:-(2 ^ 62)<=i/\i < 2 ^ 62) (h2:-(2 ^ 62)<=j/\j < 2 ^ 62):itR2 fa fs=.ok (FL.upTo i (j - i).toNat) fs1:=by
 unfold itR2
 rw [e]
 simp only [Out.bind]
 exact if_pos ⟨h1.1,h1.2,h2.1,h2.2⟩
theorem C8 {src:FS->Out (List T)} {gt:T->FS->Option FS} {body:FS->SO} {fs fs1:FS} {ts:List T} {r:SO} (e:src fs=.ok ts fs1) (ef:Ei gt body ts fs1=r):Df src gt body fs=r:=by
 unfold Df
 rw [e]
 exact ef
theorem for_brk {gt:T->FS->Option FS} {body:FS->SO} {t:T} {ts:List T} {fs fs1 fs2:FS} (h1:gt t fs=some fs1) (h2:body fs1=.brk fs2):Ei gt body (t :: ts) fs=.nx fs2:=by
 simp only [Ei,h1,h2]
theorem D4 {f g:FS->Out Rv} {fs:FS} {x y:T} (h1:f fs=.ok (.t x) fs) (h2:g fs=.ok (.t y) fs):AE Ba (Ac f (Ac g Am)) fs=.ok (.t (.tup [x,y])) fs:=HJ (g:=Ba) (BR h1 (BR h2 A8)) rfl (show 2<=big by decide) rfl
theorem runF_rf {n:Nat} {g:FS->SO} {args τ fs':FS} {i:Nat} {o:FO} (h:g (args++List.replicate n none)=.ret (.rf i) τ) (ho:τ[i]?=some (some (.own o))) (e:(τ.set i none).take args.length=fs'):CV n g args=.ok (.nw o) fs':=by
 unfold CV
 rw [h]
 simp only [ho,e]
theorem Hh {n:Nat} {g:FS->SO} {args τ fs':FS} {t:T} (h:g (args++List.replicate n none)=.ret (.t t) τ) (e:τ.take args.length=fs'):CV n g args=.ok (.t t) fs':=by
 unfold CV
 rw [h]
 simp only [e]
theorem runF_nw {n:Nat} {g:FS->SO} {args τ fs':FS} {o:FO} (h:g (args++List.replicate n none)=.ret (.nw o) τ) (e:τ.take args.length=fs'):CV n g args=.ok (.nw o) fs':=by
 unfold CV
 rw [h]
 simp only [e]
theorem BV {ts:List T} {i:Int} {t:T} {fs:FS} (e:atI ts i=some t):AH (.t (.tup ts)) (.t (.int i)) fs=.ok (.t t) fs:=by
 have:gIx (.t (.tup ts)) (.t (.int i)) fs=.ok (.t t) fs:=by
  simp only [gIx,Dt,e,okT]
 unfold AH orG
 rw [this]
theorem Hg {L:Nat->Str->List T}:∀ (ks:List Str) (m:Nat) (r:List T),r∈rws L ks m->r.length=ks.length
 | [],m,r,h=>by
  rw [Gk] at h
  split at h
  ·rw [List.mem_singleton.mp h];rfl
  ·cases h
 | k :: ks,m,r,h=>by
  unfold rws at h
  obtain ⟨i,_,h⟩:=List.mem_flatMap.mp h
  obtain ⟨f,_,h⟩:=List.mem_flatMap.mp h
  obtain ⟨r',h',e⟩:=List.mem_map.mp h
  subst e
  rw [List.length_cons,List.length_cons,Hg ks _ r' h']
theorem firsts_go {x0 x1 x2 x4:Option Sl} {R:List (List T)} (hR:∀ r∈R,r.length<=2) (hRl:R.length<=1000000):∀ (Fs acc:List T) (x6:Option Sl),Fre x6->acc.length+Fs.length * R.length<=big->∃ y6,Fre y6 /\
  Ei (tgN 6) (Bi (A0 gExtU (Aa 3) (Ac (Cp false [none,some 6] (itU (fz (Aa 5))) (tgN 0) EZ (Ag AF (AE Ba (Ac (fz (Aa 1)) Am)) (Aa 0))) Am))) Fs [x0,x1,x2,some (.own (.lst acc)),x4,vl (.lst (R.map T.tup)),x6] =
   .nx [x0,x1,x2,some (.own (.lst (acc++Fs.flatMap fun f=>R.map fun r=>T.tup (f :: r)))),x4,vl (.lst (R.map T.tup)),y6]
 | [],acc,x6,f6,_=>⟨x6,f6,by simp [Ei]⟩
 | f :: Fs,acc,x6,f6,hb=>by
  have hb':acc.length+R.length+Fs.length * R.length<=big:=by rw [List.length_cons,Nat.add_mul] at hb;omega
  obtain ⟨y6,g6,e⟩:=firsts_go (x0:=x0) (x1:=x1) (x2:=x2) (x4:=x4) hR hRl Fs (acc++R.map fun r=>T.tup (f :: r)) (vl f) AS (by rw [List.length_append,List.length_map];exact hb')
  refine ⟨y6,g6,?_⟩
  have e1:itU (fz (Aa 5)) [x0,x1,x2,some (.own (.lst acc)),x4,vl (.lst (R.map T.tup)),vl f]=.ok (R.map T.tup) [x0,x1,x2,some (.own (.lst acc)),x4,vl (.lst (R.map T.tup)),vl f]:=rfl
  obtain ⟨y,hy,e2⟩:=Dp (fe:=Ag AF (AE Ba (Ac (fz (Aa 1)) Am)) (Aa 0)) (f:=fun t'=>match t' with | .tup r=>.tup (f :: r) | _=>.non) (rest:=[vl f]) (R.map T.tup) none [] Au (fun t' mt=>by
   rw [List.mem_map] at mt
   obtain ⟨r,mr,rfl⟩:=mt
   have:=hR r mr
   exact Af (HJ (g:=Ba) (ts:=[f]) (BR (Ay (Ab (t:=f) rfl)) A8) rfl (show 1<=big by decide) rfl) (Ab (t:=.tup r) rfl) (cat_ok (by show 1+_<=1000000;omega))) (by rw [List.length_map];show 0+_<=1000000;omega)
  have e3:=D2 (src:=[none,some 6]) e1 ⟨by rw [show Dd _ (List.map _ [none,some 6])=[] from rfl];exact List.nodup_nil,by rfl⟩ e2 (AZ rfl)
  have e4:(R.map T.tup).map (fun t'=>match t' with | .tup r=>T.tup (f :: r) | _=>T.non)=R.map fun r=>T.tup (f :: r):=by
   rw [List.map_map]
   rfl
  rw [List.nil_append,e4] at e3
  have b1:=ext_ok (i:=3) (ts:=acc) rfl e3 (by rw [List.length_map];omega) rfl
  rw [List.flatMap_cons,<- List.append_assoc]
  exact (for_nx (fs1:=[x0,x1,x2,some (.own (.lst acc)),x4,vl (.lst (R.map T.tup)),vl f]) (by unfold tgN;exact AR rfl f6) b1).trans e
def isV (r:Rv) (X:List T):Prop:=r=.t (.lst X)∨r=.nw (.lst X)
theorem callV {p:Nat} {Fn:FS->Out Rv} {fa:FS->Out (List Rv)} {fs fs1 fs' τ:FS} {rs:List Rv} {r:Rv} {X:List T} (hr:isV r X) (ha:fa fs=.ok rs fs1) (hp:rs.length=p) (hn:(Dd fs1 (rs.map Dl)).Nodup) (hf:Fn (EM fs1 (rs.map Dl))=.ok r τ) (hb:backF (rs.map Dl) τ fs1=some fs') :
  fz (Al (Az p Fn) fa) fs=.ok (.t (.lst X)) fs':=by
 rcases hr with rfl | rfl
 ·exact C7 (DC ha hp hn hf hb)
 ·exact GL (DD ha hp hn hf hb)
theorem rows_ok {K:Kd} (W:Well K) {ks:List (List Key)} {vs:List T} {N:Nat} (hN:N < 7) (hM:∀ k∈K.map (·.1),∀ s:Nat,1<=s->s<=N->DP ks vs ([.inr k,.inl (s:Int)]:List Key)=some (.lst (LL K s k))) :
  ∀ (qs:List Str) (n m:Nat),qs.length < n->qs.length<=2->(∀ q∈qs,q∈K.map (·.1))->m<=N->∃ r,isV r ((rws (LL K) qs m).map T.tup)/\AO n [vl (.tup (qs.map T.str)),iv (m:Int),some (.bor (.dT ks vs))]=.ok r [vl (.tup (qs.map T.str)),iv (m:Int),some (.bor (.dT ks vs))]
 | _,0,_,h,_,_,_=>absurd h (by omega)
 | [],n+1,m,_,_,_,hm=>by
  have all:Bl (AO n) [vl (.tup []),iv (m:Int),some (.bor (.dT ks vs)),none,none,none,none]=.ret (.t (.lst ((rws (LL K) [] m).map T.tup))) [vl (.tup []),iv (m:Int),some (.bor (.dT ks vs)),none,none,none,none]:=by
   unfold Bl
   refine Dz (Ff (show DZ (Ew (Aa 0)) _=.ok true _ from rfl) (Du ?_))
   have c:=HH (fa:=Aa 1) (fb:=gc (.int 0)) (fs:=[vl (.tup []),iv (m:Int),some (.bor (.dT ks vs)),none,none,none,none]) (i:=(m:Int)) (Ab rfl) AA
   unfold ifV
   rw [c,Gk]
   by_cases h0:m=0
   ·subst h0;rfl
   ·have:¬ ((m:Int)=0):=by omega
    rw [decide_eq_false this,if_neg h0]
    rfl
  refine ⟨_,.inl rfl,?_⟩
  show CV 4 (Bl (AO n)) _=_
  unfold CV
  show (match Bl (AO n) [vl (.tup []),iv (m:Int),some (.bor (.dT ks vs)),none,none,none,none] with | .nx τ=>_ | .ret (.t t) τ=>_ | .ret (.nw o) τ=>_ | .ret (.rf i) τ=>_ | .exc c τ=>_ | _=>_)=_
  rw [all]
  rfl
 | q :: qs,n+1,m,hn,h2,hq,hm=>by
  have hlen:=rws_len (K:=K) W (n:=m) (by omega) (ks:=q :: qs) h2
  have hql:qs.length<=1:=by simp at h2;omega
  obtain ⟨fs',ef,j,x4,x5,x6,rfl,hj,hts,f4,f5,f6⟩:=Bx (gt:=tgN 4) (body:=(AL (AY 5 (fz (Al (Az 3 (AO n)) (Ad (slF (Aa 0) (EA (gc (.int 1))) noP) (Ad (Ag Cv (Aa 1) (Aa 4)) (Ad (Aa 2) Am))))))
  (Df (itU (Ag AH (Aa 2) (AE Ba (Ac (Ag AH (Aa 0) (gc (.int 0))) (Ac (fz (Aa 4)) Am))))) (tgN 6) (Bi (A0 gExtU (Aa 3) (Ac (Cp false [none,some 6] (itU (fz (Aa 5))) (tgN 0) EZ (Ag AF (AE Ba (Ac (fz (Aa 1)) Am)) (Aa 0))) Am))))))
   (fun ts fs=>∃ (j:Nat) (x4 x5 x6:Option Sl),fs=[vl (.tup ((q :: qs).map T.str)),iv (m:Int),some (.bor (.dT ks vs)),some (.own (.lst (((List.range j).flatMap fun i=>(LL K (i+1) q).flatMap fun f=>(rws (LL K) qs (m - (i+1))).map fun r=>f :: r).map T.tup))),x4,x5,x6]/\j<=m/\ts=(FL.upTo 1 m).drop j/\Fre x4/\Fre x5/\Fre x6)
   (fun t' ts fs h=>by
    obtain ⟨j,x4,x5,x6,rfl,hj,hts,f4,f5,f6⟩:=h
    have hlt:j < m:=by
     have:=congrArg List.length hts
     simp [FL.upTo] at this
     omega
    have hc:=List.drop_eq_getElem_cons (l:=FL.upTo 1 m) (i:=j) (by simp [FL.upTo];exact hlt)
    rw [hc] at hts
    obtain ⟨e1,e2⟩:=List.cons.inj hts
    have e3:t'=T.int ((j+1:Nat):Int):=by
     rw [e1]
     simp [FL.upTo]
     omega
    subst e3
    obtain ⟨r,hr,er⟩:=rows_ok W hN hM qs n (m - (j+1)) (by simp at hn;omega) (by omega) (fun x mx=>hq x (List.mem_cons_of_mem _ mx)) (by omega)
    generalize hacc:((List.range j).flatMap fun i=>(LL K (i+1) q).flatMap fun f=>(rws (LL K) qs (m - (i+1))).map fun r=>f :: r)=acc
    have hsub:(Ag Cv (Aa 1) (Aa 4)) [vl (.tup ((q :: qs).map T.str)),iv (m:Int),some (.bor (.dT ks vs)),some (.own (.lst (acc.map T.tup))),iv ((j+1:Nat):Int),x5,x6]=.ok (.t (.int ((m - (j+1):Nat):Int))) [vl (.tup ((q :: qs).map T.str)),iv (m:Int),some (.bor (.dT ks vs)),some (.own (.lst (acc.map T.tup))),iv ((j+1:Nat):Int),x5,x6]:=by
     have:((m - (j+1):Nat):Int)=(m:Int) - ((j+1:Nat):Int):=by omega
     rw [this]
     exact Af (Ab rfl) (Ab rfl) Fq
    have hsl:slF (Aa 0) (EA (gc (.int 1))) noP [vl (.tup ((q :: qs).map T.str)),iv (m:Int),some (.bor (.dT ks vs)),some (.own (.lst (acc.map T.tup))),iv ((j+1:Nat):Int),x5,x6]=.ok (.t (.tup (qs.map T.str))) [vl (.tup ((q :: qs).map T.str)),iv (m:Int),some (.bor (.dT ks vs)),some (.own (.lst (acc.map T.tup))),iv ((j+1:Nat):Int),x5,x6]:=by
     unfold slF
     rw [Ab (t:=.tup ((q :: qs).map T.str)) rfl]
     show okT (.tup (cutT ((q :: qs).map T.str) (some 1) none)) _=_
     rw [cutT_drop (by decide) (by simp)]
     rfl
    have s5:=C3 (i:=5) (callV (p:=3) hr (Aj hsl (Aj hsub (Aj (De (i:=2) rfl) A8))) rfl (by rw [show Dd _ _=[2] from rfl];simp) er rfl) (fs':=[vl (.tup ((q :: qs).map T.str)),iv (m:Int),some (.bor (.dT ks vs)),some (.own (.lst (acc.map T.tup))),iv ((j+1:Nat):Int),vl (.lst ((rws (LL K) qs (m - (j+1))).map T.tup)),x6]) (AR rfl f5)
    have hix:Ag AH (Aa 2) (AE Ba (Ac (Ag AH (Aa 0) (gc (.int 0))) (Ac (fz (Aa 4)) Am))) [vl (.tup ((q :: qs).map T.str)),iv (m:Int),some (.bor (.dT ks vs)),some (.own (.lst (acc.map T.tup))),iv ((j+1:Nat):Int),vl (.lst ((rws (LL K) qs (m - (j+1))).map T.tup)),x6]=.ok (.t (.lst (LL K (j+1) q))) [vl (.tup ((q :: qs).map T.str)),iv (m:Int),some (.bor (.dT ks vs)),some (.own (.lst (acc.map T.tup))),iv ((j+1:Nat):Int),vl (.lst ((rws (LL K) qs (m - (j+1))).map T.tup)),x6] :=
     ixD_ok (.inr (.inl rfl)) (D4 (Af (Ab rfl) AA (BV (AD (j:=0) rfl))) (Ay (Ab rfl))) (hM q (hq q List.mem_cons_self) (j+1) (by omega) (by omega))
    have htot:acc.length+(LL K (j+1) q).length * (rws (LL K) qs (m - (j+1))).length<=180224:=by
     have e:(List.range m)=List.range (j+1)++(List.range (m - (j+1))).map fun x=>(j+1)+x:=by
      rw [<- List.range_add]
      congr 1
      omega
     have hl2:=hlen
     unfold rws at hl2
     rw [e,List.flatMap_append,List.length_append,List.range_succ,List.flatMap_append,List.length_append,hacc] at hl2
     have:([j].flatMap fun i=>(LL K (i+1) q).flatMap fun f=>(rws (LL K) qs (m - (i+1))).map fun r=>f :: r).length=(LL K (j+1) q).length * (rws (LL K) qs (m - (j+1))).length:=by
      rw [List.flatMap_cons,List.flatMap_nil,List.append_nil,El]
      simp only [List.length_map]
      exact FU _ _
     rw [this] at hl2
     omega
    obtain ⟨y6,g6,el⟩:=firsts_go (x0:=vl (.tup ((q :: qs).map T.str))) (x1:=iv (m:Int)) (x2:=some (.bor (.dT ks vs))) (x4:=iv ((j+1:Nat):Int)) (R:=rws (LL K) qs (m - (j+1))) (fun r mr=>by rw [Hg _ _ r mr];omega) (by
     have:=rws_len (K:=K) W (n:=m - (j+1)) (by omega) (ks:=qs) (by omega)
     omega) (LL K (j+1) q) (acc.map T.tup) x6 f6 (by rw [List.length_map];show _<=1000000;omega)
    refine ⟨_,_,(by unfold tgN;exact AR rfl f4),sq s5 (C8 (show itU _ _=.ok (LL K (j+1) q) _ from by unfold itU;rw [hix];rfl) el),j+1,iv ((j+1:Nat):Int),vl (.lst ((rws (LL K) qs (m - (j+1))).map T.tup)),y6,?_,by omega,by rw [e2],AS,AS,g6⟩
    rw [List.range_succ,List.flatMap_append,hacc,List.map_append]
    have:([j].flatMap fun i=>(LL K (i+1) q).flatMap fun f=>(rws (LL K) qs (m - (i+1))).map fun r=>f :: r).map T.tup=(LL K (j+1) q).flatMap fun f=>(rws (LL K) qs (m - (j+1))).map fun r=>T.tup (f :: r):=by
     rw [List.flatMap_cons,List.flatMap_nil,List.append_nil,List.map_flatMap]
     simp only [List.map_map]
     rfl
    rw [this])
   (FL.upTo 1 m) [vl (.tup ((q :: qs).map T.str)),iv (m:Int),some (.bor (.dT ks vs)),some (.own (.lst [])),none,none,none] ⟨0,none,none,none,rfl,Nat.zero_le _,rfl,Au,Au,Au⟩
  have hj2:j=m:=by
   have:=congrArg List.length hts
   simp [FL.upTo] at this
   omega
  subst hj2
  have all:Bl (AO n) [vl (.tup ((q :: qs).map T.str)),iv (j:Int),some (.bor (.dT ks vs)),none,none,none,none]=.ret (.rf 3) [vl (.tup ((q :: qs).map T.str)),iv (j:Int),some (.bor (.dT ks vs)),some (.own (.lst ((rws (LL K) (q :: qs) j).map T.tup))),x4,x5,x6]:=by
   unfold Bl
   refine sq (BW (show DZ (Ew (Aa 0)) _=.ok false _ from rfl) rfl) ?_
   refine sq (fs':=[vl (.tup ((q :: qs).map T.str)),iv (j:Int),some (.bor (.dT ks vs)),some (.own (.lst [])),none,none,none]) rfl ?_
   have hr:=DI (fa:=Ac (gc (.int 1)) (Ac (Ag AF (Aa 1) (gc (.int 1))) Am)) (fs:=[vl (.tup ((q :: qs).map T.str)),iv (j:Int),some (.bor (.dT ks vs)),some (.own (.lst [])),none,none,none]) (i:=1) (j:=(j:Int)+1) (AK AA (AK (Af (Ab rfl) AA Bh) rfl)) ⟨by omega,by omega⟩ ⟨by omega,by omega⟩
   have:((j:Int)+1 - 1).toNat=j:=by omega
   rw [this] at hr
   exact sq (C8 hr ef) rfl
  exact ⟨_,.inr rfl,runF_rf (g:=Bl (AO n)) all rfl rfl⟩
theorem kf_self {K:Kd} (W:Well K) {kd:Str×List (Str×List Str)} (m:kd∈K):kf K kd.1=some kd:=by
 cases h:kf K kd.1 with
 | none=>exact (kf_none h (List.mem_map.mpr ⟨kd,m,rfl⟩)).elim
 | some kd' =>
  obtain ⟨m',e'⟩:=Hw h
  have:∀ {xs:Kd},(xs.map (·.1)).Nodup->∀ {a b:Str×List (Str×List Str)},a∈xs->b∈xs->a.1=b.1->a=b:=by
   intro xs hn
   induction xs with
   | nil=>intro a b ha;cases ha
   | cons x xs ih =>
    intro a b ha hb e
    rw [List.map_cons,List.nodup_cons] at hn
    rcases List.mem_cons.mp ha with q | q
    ·rcases List.mem_cons.mp hb with q' | q'
     ·rw [q,q']
     ·exact (hn.1 (List.mem_map.mpr ⟨b,q',by rw [<- e,q]⟩)).elim
    ·rcases List.mem_cons.mp hb with q' | q'
     ·exact (hn.1 (List.mem_map.mpr ⟨a,q,by rw [e,q']⟩)).elim
     ·exact ih hn.2 q q' e
  rw [this W.nd m' m e']
theorem LL_kd {K:Kd} (W:Well K) {kd:Str×List (Str×List Str)} (m:kd∈K) (n:Nat):LL K (n+1) kd.1=kd.2.flatMap fun r=>(rws (LL K) r.2 n).map (thT r.1):=by
 rw [LL_succ]
 unfold ofK
 rw [kf_self W m]
theorem parts_go {x0 x1 x2 x3:Option Sl} {m:Str}:∀ (X:List (List T)) (acc:List T) (x6:Option Sl),Fre x6->acc.length+X.length<=1000000->∃ y6,Fre y6 /\
  Ei (tgN 6) (Bi (A0 Ex (Aa 4) (Ac (AE Ba (Ac (fz (Aa 5)) (Ac (fz (Aa 6)) Am))) Am))) (X.map T.tup) [x0,x1,x2,x3,some (.own (.lst acc)),vl (.str m),x6]=.nx [x0,x1,x2,x3,some (.own (.lst (acc++X.map (thT m)))),vl (.str m),y6]
 | [],acc,x6,f6,_=>⟨x6,f6,by simp [Ei]⟩
 | p :: X,acc,x6,f6,hb=>by
  obtain ⟨y6,g6,e⟩:=parts_go (x0:=x0) (x1:=x1) (x2:=x2) (x3:=x3) (m:=m) X (acc++[thT m p]) (vl (.tup p)) AS (by simp at hb ⊢;omega)
  refine ⟨y6,g6,?_⟩
  rw [List.map_cons,List.map_cons]
  have b1:=app_ok (i:=4) (fs:=[x0,x1,x2,x3,some (.own (.lst acc)),vl (.str m),vl (.tup p)]) (ts:=acc) rfl (D4 (Ay (Ab (i:=5) (t:=.str m) rfl)) (Ay (Ab (i:=6) (t:=.tup p) rfl))) (by show _ < 1000000;simp at hb;omega) rfl
  rw [List.append_assoc] at e
  exact (for_nx (ts:=X.map T.tup) (fs1:=[x0,x1,x2,x3,some (.own (.lst acc)),vl (.str m),vl (.tup p)]) (by unfold tgN;exact AR rfl f6) b1).trans e
theorem tos {C:Addr} {K:Kd} {hs:List T} (W:Well K) {ks:List (List Key)} {vs:List T} {N:Nat} (hN:N < 7) (hM:∀ k∈K.map (·.1),∀ s:Nat,1<=s->s<=N->DP ks vs ([.inr k,.inl (s:Int)]:List Key)=some (.lst (LL K s k))) {kd:Str×List (Str×List Str)} (mk:kd∈K) :
  Bg C [vl (Aw C K hs),vl (.str kd.1),iv ((N+1:Nat):Int),some (.bor (.dT ks vs))]=.ok (.nw (.lst (LL K (N+1) kd.1))) [vl (Aw C K hs),vl (.str kd.1),iv ((N+1:Nat):Int),some (.bor (.dT ks vs))]:=by
 have hlen:=LL_len W (n:=N+1) (by omega) kd.1
 rw [LL_kd W mk] at hlen ⊢
 obtain ⟨fs',ef,D,R,x5,x6,rfl,eD,eR,f5,f6⟩:=Bx (gt:=tgN 5) (body:=(Df (itU (fz (Al (Az 3 (AO 60)) (Ad (fz (Fw C "parts" 2 (BC C) (fz (Aa 0)) (Ad (fz (Aa 5)) Am))) (Ad (Ag Cv (Aa 2) (gc (.int 1))) (Ad (Aa 3) Am)))))) (tgN 6) (Bi (A0 Ex (Aa 4) (Ac (AE Ba (Ac (fz (Aa 5)) (Ac (fz (Aa 6)) Am))) Am)))))
  (fun ts fs=>∃ (D R:List (Str×List Str)) (x5 x6:Option Sl),fs=[vl (Aw C K hs),vl (.str kd.1),iv ((N+1:Nat):Int),some (.bor (.dT ks vs)),some (.own (.lst (D.flatMap fun r=>(rws (LL K) r.2 N).map (thT r.1)))),x5,x6]/\D++R=kd.2/\ts=(R.map (·.1)).map T.str/\Fre x5/\Fre x6)
  (fun t' ts fs h=>by
   obtain ⟨D,R,x5,x6,rfl,eD,eR,f5,f6⟩:=h
   cases R with
   | nil=>cases eR
   | cons r R =>
    rw [List.map_cons,List.map_cons] at eR
    obtain ⟨e1,e2⟩:=List.cons.inj eR
    subst e1
    have hr:r∈kd.2:=by rw [<- eD];simp
    obtain ⟨rv,hv,er⟩:=rows_ok W hN hM r.2 60 N (by have:=W.two kd mk r hr;omega) (W.two kd mk r hr) (W.prt kd mk r hr) (Nat.le_refl _)
    generalize hacc:(D.flatMap fun r=>(rws (LL K) r.2 N).map (thT r.1))=acc
    have htot:acc.length+(rws (LL K) r.2 N).length<=180224:=by
     rw [<- eD,List.flatMap_append,List.length_append,hacc,List.flatMap_cons,List.length_append,List.length_map] at hlen
     omega
    have e3:fz (Fw C "parts" 2 (BC C) (fz (Aa 0)) (Ad (fz (Aa 5)) Am)) [vl (Aw C K hs),vl (.str kd.1),iv ((N+1:Nat):Int),some (.bor (.dT ks vs)),some (.own (.lst acc)),vl (.str r.1),x6]=.ok (.t (.tup (r.2.map T.str))) [vl (Aw C K hs),vl (.str kd.1),iv ((N+1:Nat):Int),some (.bor (.dT ks vs)),some (.own (.lst acc)),vl (.str r.1),x6] :=
     Ay (GV (Ay (Ab rfl)) (GW FG.2.2) (Aj (Ay (Ab (t:=.str r.1) rfl)) A8) rfl rfl (st_parts W mk hr) (.inl ⟨_,rfl⟩))
    have e4:Ag Cv (Aa 2) (gc (.int 1)) [vl (Aw C K hs),vl (.str kd.1),iv ((N+1:Nat):Int),some (.bor (.dT ks vs)),some (.own (.lst acc)),vl (.str r.1),x6]=.ok (.t (.int (N:Int))) [vl (Aw C K hs),vl (.str kd.1),iv ((N+1:Nat):Int),some (.bor (.dT ks vs)),some (.own (.lst acc)),vl (.str r.1),x6]:=by
     have:(N:Int)=((N+1:Nat):Int) - 1:=by omega
     rw [this]
     exact Af (Ab rfl) AA Fq
    have e5:=callV (p:=3) hv (Aj e3 (Aj e4 (Aj (De (i:=3) rfl) A8))) rfl (by rw [show Dd _ _=[3] from rfl];simp) er rfl
    obtain ⟨y6,g6,el⟩:=parts_go (x0:=vl (Aw C K hs)) (x1:=vl (.str kd.1)) (x2:=iv ((N+1:Nat):Int)) (x3:=some (.bor (.dT ks vs))) (m:=r.1) (rws (LL K) r.2 N) acc x6 f6 (by omega)
    refine ⟨[vl (Aw C K hs),vl (.str kd.1),iv ((N+1:Nat):Int),some (.bor (.dT ks vs)),some (.own (.lst acc)),vl (.str r.1),x6],_,(by unfold tgN;exact AR rfl f5),C8 (show itU _ _=.ok ((rws (LL K) r.2 N).map T.tup) _ from by unfold itU;rw [e5];rfl) el,D++[r],R,vl (.str r.1),y6,?_,by rw [<- eD];simp,e2,AS,g6⟩
    rw [List.flatMap_append,hacc,List.flatMap_cons,List.flatMap_nil,List.append_nil])
  ((kd.2.map (·.1)).map T.str) [vl (Aw C K hs),vl (.str kd.1),iv ((N+1:Nat):Int),some (.bor (.dT ks vs)),some (.own (.lst [])),none,none] ⟨[],kd.2,none,none,rfl,rfl,rfl,Au,Au⟩
 have hR:R=[]:=by
  cases R with
  | nil=>rfl
  | cons a b=>cases eR
 subst hR
 rw [List.append_nil] at eD
 subst eD
 have all:BX C [vl (Aw C K hs),vl (.str kd.1),iv ((N+1:Nat):Int),some (.bor (.dT ks vs)),none,none,none]=.ret (.rf 4) [vl (Aw C K hs),vl (.str kd.1),iv ((N+1:Nat):Int),some (.bor (.dT ks vs)),some (.own (.lst (kd.2.flatMap fun r=>(rws (LL K) r.2 N).map (thT r.1)))),x5,x6]:=by
  unfold BX
  refine sq (fs':=[vl (Aw C K hs),vl (.str kd.1),iv ((N+1:Nat):Int),some (.bor (.dT ks vs)),some (.own (.lst [])),none,none]) rfl ?_
  have e1:fz (Fw C "makers" 2 (BG C) (fz (Aa 0)) (Ad (fz (Aa 1)) Am)) [vl (Aw C K hs),vl (.str kd.1),iv ((N+1:Nat):Int),some (.bor (.dT ks vs)),some (.own (.lst [])),none,none]=.ok (.t (.lst ((kd.2.map (·.1)).map T.str))) [vl (Aw C K hs),vl (.str kd.1),iv ((N+1:Nat):Int),some (.bor (.dT ks vs)),some (.own (.lst [])),none,none] :=
   GL (GV (Ay (Ab rfl)) (GW FG.2.1) (Aj (Ay (Ab (t:=.str kd.1) rfl)) A8) rfl rfl (st_makers W mk) (.inr ⟨_,rfl⟩))
  exact sq (C8 (show itU _ _=.ok ((kd.2.map (·.1)).map T.str) _ from by unfold itU;rw [e1];rfl) ef) rfl
 exact runF_rf (g:=BX C) all rfl rfl
def prs (K:Kd) (w:Nat):List (Str×Nat):=(List.range w).flatMap fun i=>K.map fun kd=>(kd.1,i+1)
theorem EH {K:Kd} {w:Nat} {k:Str} {s:Nat}:(k,s)∈prs K w↔k∈K.map (·.1)/\1<=s/\s<=w:=by
 unfold prs
 rw [List.mem_flatMap]
 constructor
 ·rintro ⟨i,hi,h⟩
  rw [List.mem_range] at hi
  obtain ⟨kd,mk,e⟩:=List.mem_map.mp h
  cases e
  exact ⟨List.mem_map.mpr ⟨kd,mk,rfl⟩,by omega,by omega⟩
 ·rintro ⟨h,h1,h2⟩
  obtain ⟨kd,mk,e⟩:=List.mem_map.mp h
  refine ⟨s - 1,List.mem_range.mpr (by omega),List.mem_map.mpr ⟨kd,mk,?_⟩⟩
  rw [e]
  have:s - 1+1=s:=by omega
  rw [this]
theorem prs_succ (K:Kd) (w:Nat):prs K (w+1)=prs K w++K.map fun kd=>(kd.1,w+1):=by
 unfold prs
 rw [List.range_succ,List.flatMap_append]
 simp
theorem prs_len {K:Kd} (h:K.length<=4):∀ w,(prs K w).length<=4 * w
 | 0=>by simp [prs]
 | w+1=>by
  have:=prs_len h w
  rw [prs_succ,List.length_append,List.length_map]
  omega
theorem putD_ok {fv fi:FS->Out Rv} {o:Nat} {fs fs1 fs':FS} {v:T} {k:Str} {s:Nat} {P:List (Str×Nat)} {g:Str×Nat->T} (h0:fs1[o]?=some (some (.own (.dT (P.map BO) (P.map g))))) (hv:fv fs=.ok (.t v) fs1) (hi:fi fs1=.ok (.t (.tup [.str k,.int (s:Int)])) fs1) (hn:(k,s)∉P) (hl:P.length < 1000000) (hg:v=g (k,s))
  (e:fs1.set o (some (.own (.dT ((P++[(k,s)]).map BO) ((P++[(k,s)]).map g))))=fs'):CH fv (Aa o) fi fs=.nx fs':=by
 have h1:Aa o fs1=.ok (.rf o) fs1:=CC h0
 have h2:FL.A9 fs1 o=some (.dT (P.map BO) (P.map g)):=objO h0
 have hnot:((P.map BO).any fun k'=>decide (k'=BO (k,s)))=false:=by
  rw [List.any_eq_false]
  intro x hx
  rw [decide_eq_true_eq]
  rintro rfl
  obtain ⟨y,my,ey⟩:=List.mem_map.mp hx
  exact hn (Hz ey▸my)
 have h3:Hk (P.map BO) (P.map g) (BO (k,s)) v=((P++[(k,s)]).map BO,(P++[(k,s)]).map g):=by
  unfold Hk
  rw [hnot,List.map_append,List.map_append,hg]
  rfl
 have h4:FL.putAt fs1 o (.dT ((P++[(k,s)]).map BO) ((P++[(k,s)]).map g))=fs':=by
  unfold FL.putAt
  rw [h0]
  exact e
 have h5:gSetL (.rf o) (.t (.tup [.str k,.int (s:Int)])) (.t v) fs1=.bad:=rfl
 have h6:gSetD (.rf o) (.t (.tup [.str k,.int (s:Int)])) (.t v) fs1=.nx fs':=by
  have hl':(P.map BO).length < big:=by rw [List.length_map];exact hl
  simp only [gSetD,h2,Fz,tKey,Option.bind_some,Option.map_some,hl',if_true]
  show SO.nx (FL.putAt fs1 o (.dT (Hk (P.map BO) (P.map g) (BO (k,s)) v).1 (Hk (P.map BO) (P.map g) (BO (k,s)) v).2))=_
  rw [h3,h4]
 unfold CH
 rw [hv]
 simp only [Out.bnd,Out.bind]
 rw [h1]
 simp only
 rw [hi]
 simp only [SO.of]
 unfold gSetU
 rw [h5]
 exact h6
theorem len_own {i:Nat} {fs:FS} {ts:List T} (h:fs[i]?=some (some (.own (.lst ts)))):Al Bm (Ac (Aa i) Am) fs=.ok (.t (.int ts.length)) fs:=by
 have h1:Ac (Aa i) Am fs=.ok [.rf i] fs:=by
  unfold Ac
  rw [CC h]
  rfl
 unfold Al
 rw [h1]
 have:gLen [.rf i] fs=.ok (.t (.int ts.length)) fs:=by
  simp only [gLen,seq_rf h,okT]
 show Bm [.rf i] fs=_
 unfold Bm orC
 rw [this]
theorem cutT_up {xs:List T} {n:Nat}:cutT xs none (some (n:Int))=xs.take n:=by
 unfold cutT
 rw [HT.sIx_nat,HT.sIx_none,List.drop_zero,Nat.sub_zero]
 by_cases h:n<=xs.length
 ·rw [Nat.min_eq_left h]
 ·rw [Nat.min_eq_right (by omega),List.take_length,List.take_of_length_le (by omega)]
def gLst (K:Kd) (p:Str×Nat):T:=.lst (LL K p.2 p.1)
def dM (K:Kd) (P:List (Str×Nat)):FO:=.dT (P.map BO) (P.map (gLst K))
theorem size_go {C:Addr} {K:Kd} {hs:List T} (W:Well K) {x1 x2 x3:Option Sl} {w:Nat} (hw:w < 7):∀ (R D:Kd) (x6:Option Sl),D++R=K->Fre x6->∃ y6,Fre y6 /\
  Ei (tgN 6) (CH (fz (Al (Az 4 (Bg C)) (Ad (fz (Aa 0)) (Ad (fz (Aa 6)) (Ad (fz (Aa 5)) (Ad (Aa 4) Am)))))) (Aa 4) (AE Ba (Ac (fz (Aa 6)) (Ac (fz (Aa 5)) Am)))) ((R.map (·.1)).map T.str) [vl (Aw C K hs),x1,x2,x3,some (.own (dM K (prs K w++D.map fun kd=>(kd.1,w+1)))),iv ((w+1:Nat):Int),x6] =
   .nx [vl (Aw C K hs),x1,x2,x3,some (.own (dM K (prs K (w+1)))),iv ((w+1:Nat):Int),y6]
 | [],D,x6,eD,f6=>by
  rw [List.append_nil] at eD
  subst eD
  refine ⟨x6,f6,?_⟩
  rw [prs_succ]
  rfl
 | kd :: R,D,x6,eD,f6=>by
  obtain ⟨y6,g6,e⟩:=size_go (C:=C) (hs:=hs) W (x1:=x1) (x2:=x2) (x3:=x3) hw R (D++[kd]) (vl (.str kd.1)) (by rw [<- eD];simp) AS
  refine ⟨y6,g6,?_⟩
  have mk:kd∈K:=by rw [<- eD];simp
  have hnd:=W.nd
  have hnot:(kd.1,w+1)∉prs K w++D.map fun kd=>(kd.1,w+1):=by
   intro m
   rcases List.mem_append.mp m with q | q
   ·have:=(EH.mp q).2.2
    omega
   ·obtain ⟨kd',m',e'⟩:=List.mem_map.mp q
    have e'':kd'.1=kd.1:=by simpa using e'
    rw [<- eD,List.map_append,List.nodup_append] at hnd
    exact hnd.2.2 kd'.1 (List.mem_map.mpr ⟨kd',m',rfl⟩) kd.1 (by simp) e''
  have hM:∀ k∈K.map (·.1),∀ s:Nat,1<=s->s<=w->DP ((prs K w++D.map fun kd=>(kd.1,w+1)).map BO) ((prs K w++D.map fun kd=>(kd.1,w+1)).map (gLst K)) ([.inr k,.inl (s:Int)]:List Key)=some (.lst (LL K s k)):=fun k hk s h1 h2 =>
   Hb (g:=gLst K) (List.mem_append.mpr (.inl (EH.mpr ⟨hk,h1,h2⟩)))
  have hl:(prs K w++D.map fun kd=>(kd.1,w+1)).length < 1000000:=by
   have:=prs_len W.hi w
   have h4:=W.hi
   have h5:=congrArg List.length eD
   simp at h5
   rw [List.length_append,List.length_map]
   omega
  have et:=tos (C:=C) (hs:=hs) W hw hM mk
  generalize hP:prs K w++D.map (fun kd=>(kd.1,w+1))=P at hnot hM hl et
  have ec:fz (Al (Az 4 (Bg C)) (Ad (fz (Aa 0)) (Ad (fz (Aa 6)) (Ad (fz (Aa 5)) (Ad (Aa 4) Am))))) [vl (Aw C K hs),x1,x2,x3,some (.own (dM K P)),iv ((w+1:Nat):Int),vl (.str kd.1)]=.ok (.t (.lst (LL K (w+1) kd.1))) [vl (Aw C K hs),x1,x2,x3,some (.own (dM K P)),iv ((w+1:Nat):Int),vl (.str kd.1)] :=
   GL (DD (fs1:=[vl (Aw C K hs),x1,x2,x3,some (.own (dM K P)),iv ((w+1:Nat):Int),vl (.str kd.1)]) (Aj (Ay (Ab (t:=Aw C K hs) rfl)) (Aj (Ay (Ab (t:=.str kd.1) rfl)) (Aj (Ay (Ab (t:=.int ((w+1:Nat):Int)) rfl)) (Aj (CC (i:=4) (o:=dM K P) rfl) A8)))) rfl (by rw [show Dd _ _=[4] from rfl];simp) et rfl)
  have b1:=putD_ok (o:=4) (P:=P) (g:=gLst K) (k:=kd.1) (s:=w+1) rfl ec (D4 (Ay (Ab (i:=6) (t:=.str kd.1) rfl)) (Ay (Ab (i:=5) (t:=.int ((w+1:Nat):Int)) rfl))) hnot hl rfl rfl
  rw [List.map_append,<- List.append_assoc,hP] at e
  rw [List.map_cons,List.map_cons]
  exact (for_nx (fs1:=[vl (Aw C K hs),x1,x2,x3,some (.own (dM K P)),iv ((w+1:Nat):Int),vl (.str kd.1)]) (by unfold tgN;exact AR rfl f6) b1).trans e
def thBody (C:Addr):FS->SO:=(AL (Df (itU (fz (Fw C "kinds" 1 (Bd C) (fz (Aa 0)) Am))) (tgN 6) (CH (fz (Al (Az 4 (Bg C)) (Ad (fz (Aa 0)) (Ad (fz (Aa 6)) (Ad (fz (Aa 5)) (Ad (Aa 4) Am)))))) (Aa 4) (AE Ba (Ac (fz (Aa 6)) (Ac (fz (Aa 5)) Am)))))
  (AL (Bi (A0 gExtU (Aa 3) (Ac (Ag AH (Aa 4) (AE Ba (Ac (fz (Aa 1)) (Ac (fz (Aa 5)) Am)))) Am)))
  (ifS (asB (Ag gGe (Al Bm (Ac (Aa 3) Am)) (Aa 2))) (fun fs=>.brk fs) nxS)))
theorem things_go {C:Addr} {K:Kd} {hs:List T} (W:Well K) {kd:Str×List (Str×List Str)} (mk:kd∈K) {most:Nat}:∀ (d w:Nat) (x5 x6:Option Sl),w+d=7->Fre x5->Fre x6->∃ v y4 y5 y6,v<=7/\(v=7∨most<=(cat K kd.1 v).length) /\
  Ei (tgN 5) (thBody C) ((FL.upTo 1 7).drop w) [vl (Aw C K hs),vl (.str kd.1),iv (most:Int),some (.own (.lst (cat K kd.1 w))),some (.own (dM K (prs K w))),x5,x6]=.nx [vl (Aw C K hs),vl (.str kd.1),iv (most:Int),some (.own (.lst (cat K kd.1 v))),y4,y5,y6]
 | 0,w,x5,x6,h,f5,f6=>by
  have:w=7:=by omega
  subst this
  exact ⟨7,_,_,_,Nat.le_refl _,.inl rfl,rfl⟩
 | d+1,w,x5,x6,h,f5,f6=>by
  have hw:w < 7:=by omega
  obtain ⟨y6,g6,e⟩:=size_go (C:=C) (hs:=hs) W (x1:=vl (.str kd.1)) (x2:=iv (most:Int)) (x3:=some (.own (.lst (cat K kd.1 w)))) hw K [] x6 rfl f6
  rw [List.map_nil,List.append_nil] at e
  have ek:fz (Fw C "kinds" 1 (Bd C) (fz (Aa 0)) Am) [vl (Aw C K hs),vl (.str kd.1),iv (most:Int),some (.own (.lst (cat K kd.1 w))),some (.own (dM K (prs K w))),iv ((w+1:Nat):Int),x6]=.ok (.t (.lst ((K.map (·.1)).map T.str))) [vl (Aw C K hs),vl (.str kd.1),iv (most:Int),some (.own (.lst (cat K kd.1 w))),some (.own (dM K (prs K w))),iv ((w+1:Nat):Int),x6] :=
   GL (GV (Ay (Ab rfl)) (GW FG.1) A8 rfl rfl st_kinds (.inr ⟨_,rfl⟩))
  have s1:=C8 (show itU (fz (Fw C "kinds" 1 (Bd C) (fz (Aa 0)) Am)) _=.ok ((K.map (·.1)).map T.str) _ from by unfold itU;rw [ek];rfl) e
  have hix:=ixD_ok (i:=4) (fs:=[vl (Aw C K hs),vl (.str kd.1),iv (most:Int),some (.own (.lst (cat K kd.1 w))),some (.own (dM K (prs K (w+1)))),iv ((w+1:Nat):Int),y6]) (t:=.lst (LL K (w+1) kd.1)) (.inr (.inr rfl)) (D4 (Ay (Ab (i:=1) (t:=.str kd.1) rfl)) (Ay (Ab (i:=5) (t:=.int ((w+1:Nat):Int)) rfl))) (Hb (g:=gLst K) (EH.mpr ⟨List.mem_map.mpr ⟨kd,mk,rfl⟩,by omega,Nat.le_refl _⟩))
  have hcl:=cat_len W kd.1 (w+1) (by omega)
  have hcl2:(cat K kd.1 (w+1)).length<=1000000:=by
   have:(w+1) * 140000<=7 * 140000:=Nat.mul_le_mul_right _ (by omega)
   omega
  have s2:=ext_ok (i:=3) (ts:=cat K kd.1 w) rfl hix (by rw [<- List.length_append,<- FY];exact hcl2) (fs':=[vl (Aw C K hs),vl (.str kd.1),iv (most:Int),some (.own (.lst (cat K kd.1 (w+1)))),some (.own (dM K (prs K (w+1)))),iv ((w+1:Nat):Int),y6]) (by rw [FY];rfl)
  have c3:asB (Ag gGe (Al Bm (Ac (Aa 3) Am)) (Aa 2)) [vl (Aw C K hs),vl (.str kd.1),iv (most:Int),some (.own (.lst (cat K kd.1 (w+1)))),some (.own (dM K (prs K (w+1)))),iv ((w+1:Nat):Int),y6]=.ok (decide ((most:Int)<=((cat K kd.1 (w+1)).length:Int))) [vl (Aw C K hs),vl (.str kd.1),iv (most:Int),some (.own (.lst (cat K kd.1 (w+1)))),some (.own (dM K (prs K (w+1)))),iv ((w+1:Nat):Int),y6] :=
   Dr (Af (len_own rfl) (Ab rfl) rfl)
  have hc:=List.drop_eq_getElem_cons (l:=FL.upTo 1 7) (i:=w) (by simp [FL.upTo];exact hw)
  have et:(FL.upTo 1 7)[w]'(by simp [FL.upTo];exact hw)=T.int ((w+1:Nat):Int):=by
   simp [FL.upTo]
   omega
  rw [et] at hc
  rw [hc]
  by_cases hge:most<=(cat K kd.1 (w+1)).length
  ·rw [decide_eq_true (by omega)] at c3
   refine ⟨w+1,some (.own (dM K (prs K (w+1)))),iv ((w+1:Nat):Int),y6,by omega,.inr hge,for_brk (fs1:=[vl (Aw C K hs),vl (.str kd.1),iv (most:Int),some (.own (.lst (cat K kd.1 w))),some (.own (dM K (prs K w))),iv ((w+1:Nat):Int),x6]) (by unfold tgN;exact AR rfl f5) ?_⟩
   unfold thBody
   exact sq s1 (sq s2 (Ff c3 rfl))
  ·rw [decide_eq_false (by omega)] at c3
   obtain ⟨v,y4,y5,y6',h1,h2,e3⟩:=things_go (C:=C) (hs:=hs) W mk (most:=most) d (w+1) (iv ((w+1:Nat):Int)) y6 (by omega) AS g6
   refine ⟨v,y4,y5,y6',h1,h2,(for_nx (fs1:=[vl (Aw C K hs),vl (.str kd.1),iv (most:Int),some (.own (.lst (cat K kd.1 w))),some (.own (dM K (prs K w))),iv ((w+1:Nat):Int),x6]) (fs2:=[vl (Aw C K hs),vl (.str kd.1),iv (most:Int),some (.own (.lst (cat K kd.1 (w+1)))),some (.own (dM K (prs K (w+1)))),iv ((w+1:Nat):Int),y6]) (by unfold tgN;exact AR rfl f5) ?_).trans e3⟩
   unfold thBody
   exact sq s1 (sq s2 (BW c3 rfl))
theorem things {C:Addr} {K:Kd} {hs:List T} (W:Well K) {kd:Str×List (Str×List Str)} (mk:kd∈K) {most:Nat} (hmost:most<=1000) :
  ∃ τ,Dg C [vl (Aw C K hs),vl (.str kd.1),iv (most:Int)]=.ok (.nw (.lst ((cat K kd.1 7).take most))) τ:=by
 obtain ⟨v,y4,y5,y6,h1,h2,e⟩:=things_go (C:=C) (hs:=hs) W mk (most:=most) 7 0 none none (by omega) Au Au
 have hcut:(cat K kd.1 v).take most=(cat K kd.1 7).take most:=by
  obtain ⟨more,em⟩:=cat_pre (K:=K) (k:=kd.1) 7 h1
  rcases h2 with rfl | h2
  ·rfl
  ·rw [em,List.take_append_of_le_length h2]
 have all:FZ C [vl (Aw C K hs),vl (.str kd.1),iv (most:Int),none,none,none,none]=.ret (.nw (.lst ((cat K kd.1 7).take most))) [vl (Aw C K hs),vl (.str kd.1),iv (most:Int),some (.own (.lst (cat K kd.1 v))),y4,y5,y6]:=by
  unfold FZ
  have ek:fz (Fw C "kinds" 1 (Bd C) (fz (Aa 0)) Am) [vl (Aw C K hs),vl (.str kd.1),iv (most:Int),none,none,none,none]=.ok (.t (.lst ((K.map (·.1)).map T.str))) [vl (Aw C K hs),vl (.str kd.1),iv (most:Int),none,none,none,none] :=
   GL (GV (Ay (Ab rfl)) (GW FG.1) A8 rfl rfl st_kinds (.inr ⟨_,rfl⟩))
  refine sq (BW (Dr (b:=false) (Af (Ay (Ab (t:=.str kd.1) rfl)) ek ?_)) rfl) ?_
  ·rw [in_lst,decide_eq_true (List.mem_map.mpr ⟨kd,mk,rfl⟩)]
   rfl
  refine sq (fs':=[vl (Aw C K hs),vl (.str kd.1),iv (most:Int),some (.own (.lst [])),none,none,none]) rfl ?_
  refine sq (fs':=[vl (Aw C K hs),vl (.str kd.1),iv (most:Int),some (.own (.lst [])),some (.own (.dT [] [])),none,none]) rfl ?_
  have hr:=DI (fa:=Ac (gc (.int 1)) (Ac (Ag AF (gc (.int 7)) (gc (.int 1))) Am)) (fs:=[vl (Aw C K hs),vl (.str kd.1),iv (most:Int),some (.own (.lst [])),some (.own (.dT [] [])),none,none]) (i:=1) (j:=7+1) (AK AA (AK (Af AA AA Bh) rfl)) ⟨by omega,by omega⟩ ⟨by omega,by omega⟩
  refine sq (C8 hr (show Ei (tgN 5) (thBody C) (FL.upTo 1 7) _=_ from e)) (Du ?_)
  unfold slN
  rw [CC (i:=3) (o:=.lst (cat K kd.1 v)) rfl]
  show (match Dt [vl (Aw C K hs),vl (.str kd.1),iv (most:Int),some (.own (.lst (cat K kd.1 v))),y4,y5,y6] (.rf 3) with | some ts=>Out.ok (Rv.nw (.lst (cutT ts none (some (most:Int))))) _ | none=>.bad)=_
  rw [seq_rf (ts:=cat K kd.1 v) rfl]
  simp only
  rw [cutT_up,hcut]
 exact ⟨_,runF_nw (g:=FZ C) all rfl⟩
def cnt (K:Kd) (s:Nat) (k:Str):Int:=((LL K s k).length:Nat)
def gCnt (K:Kd) (p:Str×Nat):T:=.int (cnt K p.2 p.1)
structure Cts (K:Kd) (ks:List (List Key)) (vs:List T) (N:Nat):Prop where
 at_:∀ k∈K.map (·.1),∀ s:Nat,1<=s->s<=N->DP ks vs ([.inr k,.inl (s:Int)]:List Key)=some (.int (cnt K s k))
 zero:∀ k,DP ks vs ([.inr k,.inl ((0:Nat):Int)]:List Key)=none
theorem Cts.get {K:Kd} {ks:List (List Key)} {vs:List T} {N:Nat} (c:Cts K ks vs N) {k:Str} (hk:k∈K.map (·.1)) {s:Nat} (hs:s<=N):(DP ks vs ([.inr k,.inl (s:Int)]:List Key)).getD (.int 0)=.int (cnt K s k):=by
 cases s with
 | zero=>rw [c.zero];rfl
 | succ s=>rw [c.at_ k hk (s+1) (by omega) hs];rfl
theorem cts_of {K:Kd} {P:List (Str×Nat)} {N:Nat} (h:∀ k∈K.map (·.1),∀ s:Nat,1<=s->s<=N->(k,s)∈P) (h0:∀ k,(k,0)∉P):Cts K (P.map BO) (P.map (gCnt K)) N :=
 ⟨fun k hk s h1 h2=>Hb (g:=gCnt K) (h k hk s h1 h2),fun k=>HV (h0 k)⟩
def slD (sl:Option Sl) (ks:List (List Key)) (vs:List T):Prop:=sl=vl (.dT ks vs)∨sl=some (.bor (.dT ks vs))
theorem slD.dt {sl:Option Sl} {ks:List (List Key)} {vs:List T} (h:slD sl ks vs) {fs:FS} {i:Nat} (e:fs[i]?=some sl):DT fs i ks vs:=by
 rcases h with rfl | rfl
 ·exact .inl e
 ·exact .inr (.inl e)
theorem getC {K:Kd} {ks:List (List Key)} {vs:List T} {N s i:Nat} {fs:FS} {fk:FS->Out Rv} {k:Str} (h:DT fs i ks vs) (hC:Cts K ks vs N) (hk:k∈K.map (·.1)) (hs:s<=N) (hkey:fk fs=.ok (.t (.tup [.str k,.int (s:Int)])) fs):getF (Aa i) fk (gc (.int 0)) fs=.ok (.t (.int (cnt K s k))) fs:=by
 rw [getF_ok h hkey AA,hC.get hk hs]
theorem cnt_b {K:Kd} (W:Well K) {s:Nat} (h:s<=7) (k:Str):0<=cnt K s k/\cnt K s k<=180224:=by
 have:=LL_len W h k
 unfold cnt
 omega
theorem len_tup {i:Nat} {fs:FS} {ts:List T} (h:fs[i]?=some (vl (.tup ts))):Al Bm (Ac (Aa i) Am) fs=.ok (.t (.int ts.length)) fs:=D1 (Ab h) (.inr rfl)
theorem ofm {K:Kd} (W:Well K) {ks:List (List Key)} {vs:List T} {sl:Option Sl} (hsl:slD sl ks vs) {N:Nat} (hN:N < 7) (hC:Cts K ks vs N) {qs:List Str} (h2:qs.length<=2) (hq:∀ q∈qs,q∈K.map (·.1)) :
  Be [sl,vl (.tup (qs.map T.str)),iv ((N+1:Nat):Int)]=.ok (.t (.int ((rws (LL K) qs N).length:Nat))) [sl,vl (.tup (qs.map T.str)),iv ((N+1:Nat):Int)]:=by
 have all:∃ x3 x4,DM [sl,vl (.tup (qs.map T.str)),iv ((N+1:Nat):Int),none,none]=.ret (.t (.int ((rws (LL K) qs N).length:Nat))) [sl,vl (.tup (qs.map T.str)),iv ((N+1:Nat):Int),x3,x4]:=by
  unfold DM
  have c0:∀ n:Int,asB (Ag (gEq false) (Al Bm (Ac (Aa 1) Am)) (gc (.int n))) [sl,vl (.tup (qs.map T.str)),iv ((N+1:Nat):Int),none,none]=.ok (decide ((qs.length:Int)=n)) [sl,vl (.tup (qs.map T.str)),iv ((N+1:Nat):Int),none,none]:=fun n=>by
   have:=len_tup (i:=1) (fs:=[sl,vl (.tup (qs.map T.str)),iv ((N+1:Nat):Int),none,none]) (ts:=qs.map T.str) rfl
   rw [List.length_map] at this
   exact HH this AA
  match qs,h2,hq with
  | [],_,_ =>
   refine ⟨none,none,Dz (Ff (c0 0) (Du ?_))⟩
   have q:gEq false (.t (.int ((N+1:Nat):Int))) (.t (.int 1)) [sl,vl (.tup ([].map T.str)),iv ((N+1:Nat):Int),none,none]=.ok (.t (.bl (decide (N+1=1)))) [sl,vl (.tup ([].map T.str)),iv ((N+1:Nat):Int),none,none]:=gEq_n (x:=N+1) (y:=1)
   refine DE (AK (Af (Ab rfl) AA q) rfl) ?_
   show okT (.int (if decide (N+1=1)=true then 1 else 0)) _=_
   rw [Gk]
   by_cases h0:N=0
   ·subst h0;rfl
   ·rw [decide_eq_false (by omega),if_neg h0];rfl
  | [a],_,hq =>
   refine ⟨none,none,sq (BW (c0 0) rfl) (Dz (Ff (c0 1) (Du ?_)))⟩
   have hs:Ag Cv (Aa 2) (gc (.int 1)) [sl,vl (.tup ([a].map T.str)),iv ((N+1:Nat):Int),none,none]=.ok (.t (.int (N:Int))) [sl,vl (.tup ([a].map T.str)),iv ((N+1:Nat):Int),none,none]:=by
    have:(N:Int)=((N+1:Nat):Int) - 1:=by omega
    rw [this]
    exact Af (Ab rfl) AA Fq
   rw [one_len (Dv K a)]
   exact getC (hsl.dt rfl) hC (hq a (by simp)) (Nat.le_refl _) (D4 (Af (Ab (t:=.tup ([a].map T.str)) rfl) AA (BV (AD (j:=0) rfl))) hs)
  | [a,b],_,hq =>
   have ha:=hq a (by simp)
   have hb:=hq b (by simp)
   obtain ⟨fs',ef,j,x4,rfl,hj,hts,f4⟩:=Bx (gt:=tgN 4) (body:=(AY 3 (Ag AF (Aa 3) (Ag Bt (fz (getF (Aa 0) (AE Ba (Ac (Ag AH (Aa 1) (gc (.int 0))) (Ac (fz (Aa 4)) Am))) (gc (.int 0)))) (fz (getF (Aa 0) (AE Ba (Ac (Ag AH (Aa 1) (gc (.int 1))) (Ac (Ag Cv (Ag Cv (Aa 2) (gc (.int 1))) (Aa 4)) Am))) (gc (.int 0))))))))
    (fun ts fs=>∃ (j:Nat) (x4:Option Sl),fs=[sl,vl (.tup ([a,b].map T.str)),iv ((N+1:Nat):Int),iv ((sumTo j fun i=>(LL K (i+1) a).length * (LL K (N - (i+1)) b).length:Nat):Int),x4]/\j<=N - 1/\ts=(FL.upTo 1 (N - 1)).drop j/\Fre x4)
    (fun t' ts fs h=>by
     obtain ⟨j,x4,rfl,hj,hts,f4⟩:=h
     have hlt:j < N - 1:=by
      have:=congrArg List.length hts
      simp [FL.upTo] at this
      omega
     have hc:=List.drop_eq_getElem_cons (l:=FL.upTo 1 (N - 1)) (i:=j) (by simp [FL.upTo];exact hlt)
     rw [hc] at hts
     obtain ⟨e1,e2⟩:=List.cons.inj hts
     have e3:t'=T.int ((j+1:Nat):Int):=by
      rw [e1]
      simp [FL.upTo]
      omega
     subst e3
     generalize hg:(sumTo j fun i=>(LL K (i+1) a).length * (LL K (N - (i+1)) b).length)=g
     have q1:fz (getF (Aa 0) (AE Ba (Ac (Ag AH (Aa 1) (gc (.int 0))) (Ac (fz (Aa 4)) Am))) (gc (.int 0))) [sl,vl (.tup ([a,b].map T.str)),iv ((N+1:Nat):Int),iv (g:Int),iv ((j+1:Nat):Int)]=.ok (.t (.int (cnt K (j+1) a))) [sl,vl (.tup ([a,b].map T.str)),iv ((N+1:Nat):Int),iv (g:Int),iv ((j+1:Nat):Int)]:=by
      exact Ay (getC (hsl.dt rfl) hC ha (by omega) (D4 (Af (Ab (t:=.tup ([a,b].map T.str)) rfl) AA (BV (AD (j:=0) rfl))) (Ay (Ab (i:=4) (t:=.int ((j+1:Nat):Int)) rfl))))
     have q2s:Ag Cv (Ag Cv (Aa 2) (gc (.int 1))) (Aa 4) [sl,vl (.tup ([a,b].map T.str)),iv ((N+1:Nat):Int),iv (g:Int),iv ((j+1:Nat):Int)]=.ok (.t (.int ((N - (j+1):Nat):Int))) [sl,vl (.tup ([a,b].map T.str)),iv ((N+1:Nat):Int),iv (g:Int),iv ((j+1:Nat):Int)]:=by
      have:((N - (j+1):Nat):Int)=((N+1:Nat):Int) - 1 - ((j+1:Nat):Int):=by omega
      rw [this]
      exact Af (Af (Ab rfl) AA Fq) (Ab rfl) Fq
     have q2:fz (getF (Aa 0) (AE Ba (Ac (Ag AH (Aa 1) (gc (.int 1))) (Ac (Ag Cv (Ag Cv (Aa 2) (gc (.int 1))) (Aa 4)) Am))) (gc (.int 0))) [sl,vl (.tup ([a,b].map T.str)),iv ((N+1:Nat):Int),iv (g:Int),iv ((j+1:Nat):Int)]=.ok (.t (.int (cnt K (N - (j+1)) b))) [sl,vl (.tup ([a,b].map T.str)),iv ((N+1:Nat):Int),iv (g:Int),iv ((j+1:Nat):Int)]:=by
      exact Ay (getC (hsl.dt rfl) hC hb (by omega) (D4 (Af (Ab (t:=.tup ([a,b].map T.str)) rfl) AA (BV (AD (j:=1) rfl))) q2s))
     have hbd:=cnt_b W (s:=j+1) (by omega) a
     refine ⟨_,_,(by unfold tgN;exact AR rfl f4),Bs (Af (Ab (t:=.int (g:Int)) rfl) (Af q1 q2 (EN ⟨by omega,by omega⟩)) Bh) rfl,j+1,iv ((j+1:Nat):Int),?_,by omega,by rw [e2],AS⟩
     rw [DF,hg]
     unfold cnt
     have:((g+(LL K (j+1) a).length * (LL K (N - (j+1)) b).length:Nat):Int)=(g:Int)+((LL K (j+1) a).length:Int) * ((LL K (N - (j+1)) b).length:Int):=by
      rw [Int.natCast_add,Int.natCast_mul]
     rw [this]
     rfl)
    (FL.upTo 1 (N - 1)) [sl,vl (.tup ([a,b].map T.str)),iv ((N+1:Nat):Int),iv 0,none] ⟨0,none,rfl,Nat.zero_le _,rfl,Au⟩
   have hj2:j=N - 1:=by
    have:=congrArg List.length hts
    simp [FL.upTo] at this
    omega
   subst hj2
   have hlast:(sumTo (N - 1) fun i=>(LL K (i+1) a).length * (LL K (N - (i+1)) b).length)=(rws (LL K) [a,b] N).length:=by
    rw [two_len (Dv K b)]
    cases N with
    | zero=>rfl
    | succ n =>
     rw [Nat.add_sub_cancel,DF]
     have:n+1 - (n+1)=0:=by omega
     rw [this,Dv]
     simp
   rw [hlast] at ef
   refine ⟨iv ((rws (LL K) [a,b] N).length:Nat),x4,sq (BW (c0 0) rfl) (sq (BW (c0 1) rfl) (sq (fs':=[sl,vl (.tup ([a,b].map T.str)),iv ((N+1:Nat):Int),iv 0,none]) rfl (sq (fs':=[sl,vl (.tup ([a,b].map T.str)),iv ((N+1:Nat):Int),iv ((rws (LL K) [a,b] N).length:Nat),x4]) (C8 (DI (i:=1) (j:=(N:Int)) (AK AA (AK ?_ rfl)) ⟨by omega,by omega⟩ ⟨by omega,by omega⟩) ?_) rfl)))⟩
   ·have:(N:Int)=((N+1:Nat):Int) - 1:=by omega
    rw [this]
    exact Af (Ab rfl) AA Fq
   ·have:((N:Int) - 1).toNat=N - 1:=by omega
    rw [this]
    exact ef
  | _ :: _ :: _ :: _,h,_=>simp at h
 obtain ⟨x3,x4,all⟩:=all
 exact Hh (g:=DM) all rfl
theorem sum_int:∀ xs:List Nat,(xs.map fun (n:Nat)=>(n:Int)).sum=((xs.sum:Nat):Int)
 | []=>rfl
 | x :: xs=>by rw [List.map_cons,List.sum_cons,List.sum_cons,sum_int xs,Int.natCast_add]
theorem counts_go {K:Kd} (W:Well K) {w:Nat} (hw:w < 7):∀ (R D:Kd) (x3 x4:Option Sl),D++R=K->Fre x3->Fre x4->∃ y3 y4,Fre y3/\Fre y4 /\
  Ei (Bo 2 (As (tgN 3) (As (tgN 4) Bn))) (CH (Al gSum (Ac (Cp false [none,none,some 1,some 2] (itU (fz (Aa 4))) (Bo 2 (As (tgN 0) (As (tgN 1) Bn))) EZ (fz (Al (Az 3 Be) (Ad (Aa 2) (Ad (fz (Aa 1)) (Ad (fz (Aa 3)) Am)))))) Am)) (Aa 1) (AE Ba (Ac (fz (Aa 3)) (Ac (fz (Aa 2)) Am)))) (R.map Ax) [vl (.lst (K.map Ax)),some (.own (.dT ((prs K w++D.map fun kd=>(kd.1,w+1)).map BO) ((prs K w++D.map fun kd=>(kd.1,w+1)).map (gCnt K)))),iv ((w+1:Nat):Int),x3,x4] =
   .nx [vl (.lst (K.map Ax)),some (.own (.dT ((prs K (w+1)).map BO) ((prs K (w+1)).map (gCnt K)))),iv ((w+1:Nat):Int),y3,y4]
 | [],D,x3,x4,eD,f3,f4=>by
  rw [List.append_nil] at eD
  subst eD
  refine ⟨x3,x4,f3,f4,?_⟩
  rw [prs_succ]
  rfl
 | kd :: R,D,x3,x4,eD,f3,f4=>by
  obtain ⟨y3,y4,g3,g4,e⟩:=counts_go W hw R (D++[kd]) (vl (.str kd.1)) (vl (.lst (kd.2.map CB))) (by rw [<- eD];simp) AS AS
  refine ⟨y3,y4,g3,g4,?_⟩
  have mk:kd∈K:=by rw [<- eD];simp
  have hnd:=W.nd
  have hnot:(kd.1,w+1)∉prs K w++D.map fun kd=>(kd.1,w+1):=by
   intro m
   rcases List.mem_append.mp m with q | q
   ·have:=(EH.mp q).2.2
    omega
   ·obtain ⟨kd',m',e'⟩:=List.mem_map.mp q
    have e'':kd'.1=kd.1:=by simpa using e'
    rw [<- eD,List.map_append,List.nodup_append] at hnd
    exact hnd.2.2 kd'.1 (List.mem_map.mpr ⟨kd',m',rfl⟩) kd.1 (by simp) e''
  have hC:Cts K ((prs K w++D.map fun kd=>(kd.1,w+1)).map BO) ((prs K w++D.map fun kd=>(kd.1,w+1)).map (gCnt K)) w :=
   cts_of (fun k hk s h1 h2=>List.mem_append.mpr (.inl (EH.mpr ⟨hk,h1,h2⟩))) fun k m=>by
    rcases List.mem_append.mp m with q | q
    ·have:=(EH.mp q).2.1
     omega
    ·obtain ⟨kd',m',e'⟩:=List.mem_map.mp q
     cases e'
  have hl:(prs K w++D.map fun kd=>(kd.1,w+1)).length < 1000000:=by
   have:=prs_len W.hi w
   have h4:=W.hi
   have h5:=congrArg List.length eD
   simp at h5
   rw [List.length_append,List.length_map]
   omega
  generalize hP:prs K w++D.map (fun kd=>(kd.1,w+1))=P at hnot hC hl
  obtain ⟨z0,z1,_,_,ec⟩:=FV (fe:=fz (Al (Az 3 Be) (Ad (Aa 2) (Ad (fz (Aa 1)) (Ad (fz (Aa 3)) Am))))) (f:=fun r:Str×List Str=>.str r.1) (g:=fun r=>.tup (r.2.map T.str)) (h:=fun r=>.int ((rws (LL K) r.2 w).length:Nat)) (rest:=[some (.bor (.dT (P.map BO) (P.map (gCnt K)))),iv ((w+1:Nat):Int)]) kd.2 none none [] Au Au (fun r mr=>by
   exact C7 (DC (fs1:=[vl (.str r.1),vl (.tup (r.2.map T.str)),some (.bor (.dT (P.map BO) (P.map (gCnt K)))),iv ((w+1:Nat):Int)]) (Aj (De (i:=2) rfl) (Aj (Ay (Ab (t:=.tup (r.2.map T.str)) rfl)) (Aj (Ay (Ab (t:=.int ((w+1:Nat):Int)) rfl)) A8))) rfl (by rw [show Dd _ _=[2] from rfl];simp) (ofm W (.inr rfl) hw hC (W.two kd mk r mr) (W.prt kd mk r mr)) rfl)) (by
   have:=(W.rw kd mk).2
   show 0+_<=1000000
   omega)
  have ec2:=D2 (src:=[none,none,some 1,some 2]) (fi:=itU (fz (Aa 4))) (fs:=[vl (.lst (K.map Ax)),some (.own (.dT (P.map BO) (P.map (gCnt K)))),iv ((w+1:Nat):Int),vl (.str kd.1),vl (.lst (kd.2.map CB))]) (fs':=[vl (.lst (K.map Ax)),some (.own (.dT (P.map BO) (P.map (gCnt K)))),iv ((w+1:Nat):Int),vl (.str kd.1),vl (.lst (kd.2.map CB))]) (ts:=kd.2.map CB) rfl ⟨by rw [show Dd _ (List.map _ [none,none,some 1,some 2])=[1] from rfl];simp,by rfl⟩ ec rfl
  have e4:kd.2.map (fun r=>T.int ((rws (LL K) r.2 w).length:Nat))=((kd.2.map fun r=>(rws (LL K) r.2 w).length).map fun (n:Nat)=>(n:Int)).map T.int:=by
   rw [List.map_map,List.map_map]
   rfl
  rw [List.nil_append,e4] at ec2
  have es:Al gSum (Ac (Cp false [none,none,some 1,some 2] (itU (fz (Aa 4))) (Bo 2 (As (tgN 0) (As (tgN 1) Bn))) EZ (fz (Al (Az 3 Be) (Ad (Aa 2) (Ad (fz (Aa 1)) (Ad (fz (Aa 3)) Am)))))) Am) [vl (.lst (K.map Ax)),some (.own (.dT (P.map BO) (P.map (gCnt K)))),iv ((w+1:Nat):Int),vl (.str kd.1),vl (.lst (kd.2.map CB))]=.ok (.t (.int (cnt K (w+1) kd.1))) [vl (.lst (K.map Ax)),some (.own (.dT (P.map BO) (P.map (gCnt K)))),iv ((w+1:Nat):Int),vl (.str kd.1),vl (.lst (kd.2.map CB))]:=by
   refine callB_st (BR ec2 A8) ?_
   simp only [gSum,Dt,Option.bind_some,Eh,okT]
   rw [sum_int]
   unfold cnt
   rw [LL_kd W mk,El]
   simp only [List.length_map]
  have b1:=putD_ok (o:=1) (P:=P) (g:=gCnt K) (k:=kd.1) (s:=w+1) rfl es (D4 (Ay (Ab (i:=3) (t:=.str kd.1) rfl)) (Ay (Ab (i:=2) (t:=.int ((w+1:Nat):Int)) rfl))) hnot hl rfl rfl
  have hD:prs K w++(D++[kd]).map (fun kd=>(kd.1,w+1))=P++[(kd.1,w+1)]:=by
   rw [List.map_append,<- List.append_assoc,hP]
   rfl
  rw [hD] at e
  rw [List.map_cons]
  exact (for_nx (fs1:=[vl (.lst (K.map Ax)),some (.own (.dT (P.map BO) (P.map (gCnt K)))),iv ((w+1:Nat):Int),vl (.str kd.1),vl (.lst (kd.2.map CB))]) (Er (by unfold tgN;exact AR rfl f3) (by unfold tgN;exact AR rfl f4)) b1).trans e
theorem counts {K:Kd} (W:Well K):Ee [vl (.lst (K.map Ax))]=.ok (.nw (.dT ((prs K 7).map BO) ((prs K 7).map (gCnt K)))) [vl (.lst (K.map Ax))]:=by
 obtain ⟨fs',ef,j,x2,x3,x4,rfl,hj,hts,f2,f3,f4⟩:=Bx (gt:=tgN 2) (body:=(Df (itU (fz (Aa 0))) (Bo 2 (As (tgN 3) (As (tgN 4) Bn))) (CH (Al gSum (Ac (Cp false [none,none,some 1,some 2] (itU (fz (Aa 4))) (Bo 2 (As (tgN 0) (As (tgN 1) Bn))) EZ (fz (Al (Az 3 Be) (Ad (Aa 2) (Ad (fz (Aa 1)) (Ad (fz (Aa 3)) Am)))))) Am)) (Aa 1) (AE Ba (Ac (fz (Aa 3)) (Ac (fz (Aa 2)) Am))))))
  (fun ts fs=>∃ (j:Nat) (x2 x3 x4:Option Sl),fs=[vl (.lst (K.map Ax)),some (.own (.dT ((prs K j).map BO) ((prs K j).map (gCnt K)))),x2,x3,x4]/\j<=7/\ts=(FL.upTo 1 7).drop j/\Fre x2/\Fre x3/\Fre x4)
  (fun t' ts fs h=>by
   obtain ⟨j,x2,x3,x4,rfl,hj,hts,f2,f3,f4⟩:=h
   have hlt:j < 7:=by
    have:=congrArg List.length hts
    simp [FL.upTo] at this
    omega
   have hc:=List.drop_eq_getElem_cons (l:=FL.upTo 1 7) (i:=j) (by simp [FL.upTo];exact hlt)
   rw [hc] at hts
   obtain ⟨e1,e2⟩:=List.cons.inj hts
   have e3:t'=T.int ((j+1:Nat):Int):=by
    rw [e1]
    simp [FL.upTo]
    omega
   subst e3
   obtain ⟨y3,y4,g3,g4,e⟩:=counts_go W hlt K [] x3 x4 rfl f3 f4
   rw [List.map_nil,List.append_nil] at e
   exact ⟨_,_,(by unfold tgN;exact AR rfl f2),C8 rfl e,j+1,iv ((j+1:Nat):Int),y3,y4,rfl,by omega,by rw [e2],AS,g3,g4⟩)
  (FL.upTo 1 7) [vl (.lst (K.map Ax)),some (.own (.dT [] [])),none,none,none] ⟨0,none,none,none,rfl,Nat.zero_le _,rfl,Au,Au,Au⟩
 have hj2:j=7:=by
  have:=congrArg List.length hts
  simp [FL.upTo] at this
  omega
 subst hj2
 have all:EX [vl (.lst (K.map Ax)),none,none,none,none]=.ret (.rf 1) [vl (.lst (K.map Ax)),some (.own (.dT ((prs K 7).map BO) ((prs K 7).map (gCnt K)))),x2,x3,x4]:=by
  unfold EX
  refine sq (fs':=[vl (.lst (K.map Ax)),some (.own (.dT [] [])),none,none,none]) rfl ?_
  exact sq (C8 (DI (i:=1) (j:=8) (AK AA (AK AA rfl)) ⟨by omega,by omega⟩ ⟨by omega,by omega⟩) ef) rfl
 exact runF_rf (g:=EX) all rfl rfl
def Th2:Nat->T->Prop
 | 0,_=>False
 | d+1,t=>∃ m ps,t=thT m ps/\ps.length<=2/\∀ p∈ps,Th2 d p
theorem Th2.th:∀ {d:Nat} {t:T},Th2 d t->IsTh d t
 | 0,_,h=>h.elim
 | d+1,t,⟨m,ps,et,_,hp⟩=>⟨m,ps,et,fun p mp=>(hp p mp).th⟩
def szT:Nat->T->Int
 | 0,_=>0
 | n+1,.tup [_,.tup ps]=>1+(ps.map (szT n)).sum
 | _+1,_=>0
theorem Well.rnd {K:Kd} (W:Well K) {kd:Str×List (Str×List Str)} (mk:kd∈K):(kd.2.map (·.1)).Nodup:=by
 obtain ⟨D,R,e⟩:=List.append_of_mem mk
 exact (W.part e.symm).2.2.2
theorem fnd_self {rows:List (Str×List Str)} (h:(rows.map (·.1)).Nodup) {r:Str×List Str} (m:r∈rows):fnd rows r.1=some r:=by
 cases e:fnd rows r.1 with
 | none=>exact (fnd_none e (List.mem_map.mpr ⟨r,m,rfl⟩)).elim
 | some r' =>
  obtain ⟨m',e'⟩:=fnd_some e
  rw [rows_one h m' m e']
theorem HU {K:Kd} (W:Well K):∀ (N n:Nat),n<=N->∀ (k:Str) (t:T),t∈LL K n k->∀ d,n<=d->Th2 d t/\thg K d k t=true/\szT d t=(n:Int)
 | N,0,_,k,t,h,_,_=>by rw [Dv] at h;cases h
 | 0,n+1,hn,_,_,_,_,_=>absurd hn (by omega)
 | N+1,n+1,hn,k,t,h,0,hd=>absurd hd (by omega)
 | N+1,n+1,hn,k,t,h,d+1,hd=>by
  obtain ⟨i,hi⟩:=List.getElem?_of_mem h
  obtain ⟨kd,j,r,ps,i',hk,hr,et,hps,_⟩:=LL_idx hi
  obtain ⟨mk,ek⟩:=Hw hk
  have mr:r∈kd.2:=List.mem_of_getElem? hr
  have hf:=fnd_self (W.rnd mk) mr
  subst et
  have hthg:thg K (d+1) k (thT r.1 ps)=(decide (r.2.length=ps.length) && (r.2.zip ps).all fun p=>thg K d p.1 p.2):=by
   simp only [thT,thg,hk,hf]
  have hsz:szT (d+1) (thT r.1 ps)=1+(ps.map (szT d)).sum:=rfl
  rw [hthg,hsz]
  match e2:r.2,W.two kd mk r mr with
  | [],_ =>
   rw [e2,Gk] at hps
   split at hps
   ·have:ps=[]:=by
     have:=List.mem_of_getElem? hps
     simpa using this
    subst this
    refine ⟨⟨r.1,[],rfl,by simp,(fun p m=>nomatch m)⟩,rfl,?_⟩
    simp
    omega
   ·simp at hps
  | [a],_ =>
   rw [e2,rws_one (Dv K a)] at hps
   obtain ⟨p,hp,e⟩:=map_idx hps
   subst e
   have mp:=List.mem_of_getElem? hp
   obtain ⟨g1,g2,g3⟩:=HU W N n (by omega) a p mp d (by omega)
   refine ⟨⟨r.1,[p],rfl,by simp,fun x mx=>by rw [List.mem_singleton.mp mx];exact g1⟩,by simp [g2],?_⟩
   simp [g3]
   omega
  | [a,b],_ =>
   rw [e2] at hps
   obtain ⟨s,p,q,ip,iq,h1,h2,e,hp,hq,_⟩:=two_idx (Dv K b) hps
   subst e
   have mp:=List.mem_of_getElem? hp
   have mq:=List.mem_of_getElem? hq
   obtain ⟨g1,g2,g3⟩:=HU W N s (by omega) a p mp d (by omega)
   obtain ⟨k1,k2,k3⟩:=HU W N (n - s) (by omega) b q mq d (by omega)
   refine ⟨⟨r.1,[p,q],rfl,by simp,fun x mx=>?_⟩,by simp [g2,k2],?_⟩
   ·rcases List.mem_cons.mp mx with rfl | mx
    ·exact g1
    ·rw [List.mem_singleton.mp mx];exact k1
   ·simp [g3,k3]
    omega
  | _ :: _ :: _ :: _,h=>simp at h
theorem size_f:∀ (d n:Nat) (t:T),d<=n->Th2 d t->BH n [vl t]=.ok (.t (.int (szT d t))) [vl t]
 | 0,_,_,_,h=>h.elim
 | d+1,0,_,h,_=>absurd h (by omega)
 | d+1,n+1,t,hn,⟨m,ps,et,h2,hp⟩=>by
  subst et
  have all:HR (BH n) [vl (thT m ps)]=.ret (.t (.int (1+(ps.map (szT d)).sum))) [vl (thT m ps)]:=by
   unfold HR
   have e1:itU (Ag AH (Aa 0) (gc (.int 1))) [vl (thT m ps)]=.ok ps [vl (thT m ps)]:=rfl
   obtain ⟨y,hy,e2⟩:=Dp (fe:=fz (Al (Az 1 (BH n)) (Ad (fz (Aa 0)) Am))) (f:=fun p=>.int (szT d p)) (rest:=[]) ps none [] Au (fun p mp=>C7 (D3 (Aj (Ay (Ab (t:=p) rfl)) A8) rfl rfl (size_f d n p (by omega) (hp p mp)))) (by show 0+_<=1000000;omega)
   have e3:=D2 (src:=[none]) e1 ⟨by rw [show Dd _ (List.map _ [none])=[] from rfl];exact List.nodup_nil,by rfl⟩ e2 (AZ rfl)
   have e4:ps.map (fun p=>T.int (szT d p))=(ps.map (szT d)).map T.int:=by rw [List.map_map];rfl
   rw [List.nil_append,e4] at e3
   refine Du (Af AA (callB_st (BR e3 A8) (r:=.ok (.t (.int (ps.map (szT d)).sum)) _) ?_) Bh)
   simp only [gSum,Dt,Option.bind_some,Eh,okT]
  exact Hh (g:=HR (BH n)) all rfl
theorem ty_facts:HW "tuple" "tuple"=true/\HW "str" "str"=true/\HW "list" "list"=true:=by decide
theorem isF_ok {Tn:String} {f:FS->Out Rv} {fs:FS} {t:T} {n:String} (h:f fs=.ok (.t t) fs) (e:tyT t=some n) (hs:HW n Tn=true):DZ (Ew (isF Tn f)) fs=.ok false fs:=by
 refine DY (b:=true) (DW ?_)
 unfold isF
 rw [h]
 simp only [Out.bnd,Out.bind,e,hs]
theorem shape_f:∀ (d n:Nat) (t:T),d<=n->IsTh d t->CF n [vl t]=.ok (.t (.bl true)) [vl t]
 | 0,_,_,_,h=>h.elim
 | d+1,0,_,h,_=>absurd h (by omega)
 | d+1,n+1,t,hn,⟨m,ps,et,hp⟩=>by
  subst et
  have all:∃ x1,Gb (CF n) [vl (.tup [.str m,.tup ps]),none]=.ret (.t (.bl true)) [vl (.tup [.str m,.tup ps]),x1]:=by
   unfold Gb
   obtain ⟨fs',ef,x1,rfl,f1,_⟩:=Bx (gt:=tgN 1) (body:=(ifS (DZ (Ew (fz (Al (Az 1 (CF n)) (Ad (fz (Aa 1)) Am))))) (retS (gc (.bl false))) nxS))
    (fun ts fs=>∃ x1,fs=[vl (.tup [.str m,.tup ps]),x1]/\Fre x1/\∀ t∈ts,IsTh d t)
    (fun t' ts fs h=>by
     obtain ⟨x1,rfl,f1,ht⟩:=h
     exact ⟨_,_,(by unfold tgN;exact AR rfl f1),ifS_st (DY (DW (C7 (D3 (Aj (Ay (Ab (t:=t') rfl)) A8) rfl rfl (shape_f d n t' (by omega) (ht t' List.mem_cons_self)))))) rfl,_,rfl,AS,fun t m=>ht t (List.mem_cons_of_mem _ m)⟩)
    ps [vl (.tup [.str m,.tup ps]),none] ⟨none,rfl,Au,hp⟩
   obtain ⟨q1,q2,_⟩:=ty_facts
   have c1:=orT_f (isF_ok (Tn:="tuple") (Ab (i:=0) (t:=.tup [.str m,.tup ps]) (fs:=[vl (.tup [.str m,.tup ps]),none]) rfl) rfl q1) (show asB (Ag (gEq true) (Al Bm (Ac (Aa 0) Am)) (gc (.int 2))) [vl (.tup [.str m,.tup ps]),none]=.ok false [vl (.tup [.str m,.tup ps]),none] from rfl)
   have c2:=orT_f (isF_ok (Tn:="str") (f:=Ag AH (Aa 0) (gc (.int 0))) (t:=.str m) (fs:=[vl (.tup [.str m,.tup ps]),none]) rfl rfl q2) (isF_ok (Tn:="tuple") (f:=Ag AH (Aa 0) (gc (.int 1))) (t:=.tup ps) rfl rfl q1)
   exact ⟨x1,sq (BW c1 rfl) (sq (BW c2 rfl) (sq (C8 (show itU (Ag AH (Aa 0) (gc (.int 1))) _=.ok ps _ from rfl) ef) rfl))⟩
  obtain ⟨x1,all⟩:=all
  exact Hh (g:=Gb (CF n)) all rfl
theorem gNe_s {x y:Str} {fs:FS}:gEq true (.t (.str x)) (.t (.str y)) fs=.ok (.t (.bl (!decide (x=y)))) fs:=by
 have q:decide (V.str x=V.str y)=decide (x=y):=by
  by_cases h:x=y
  ·subst h;simp
  ·rw [decide_eq_false h,decide_eq_false (by intro z;cases z;exact h rfl)]
 show (if scal (V.str x) (V.str y)=true then okT (.bl (if true=true then !decide (V.str x=V.str y) else _)) fs else .bad)=_
 rw [if_pos (show scal (V.str x) (V.str y)=true from rfl),q]
 rfl
theorem ahead_go {K:Kd} (W:Well K) {ks:List (List Key)} {vs:List T} {N:Nat} (hN:N < 7) (hC:Cts K ks vs N) {x0 x2 x8 x9 x10:Option Sl} {m:Str} {ps:List T}:∀ (rows:List (Str×List Str)) (j:Nat) (r:Str×List Str) (g:Nat) (x6 x7:Option Sl),rows[j]?=some r->r.1=m->(rows.map (·.1)).Nodup->(∀ r∈rows,r.2.length<=2/\∀ q∈r.2,q∈K.map (·.1))->Fre x6->Fre x7 ->
  Ei (Bo 2 (As (tgN 6) (As (tgN 7) Bn))) (ifS (asB (Ag (gEq true) (Aa 6) (Ag AH (Aa 3) (gc (.int 0))))) (AY 5 (Ag AF (Aa 5) (fz (Al (Az 3 Be) (Ad (fz (Aa 1)) (Ad (fz (Aa 7)) (Ad (fz (Aa 4)) Am))))))) (fun fs=>.brk fs)) (rows.map CB) [x0,vl (.dT ks vs),x2,vl (thT m ps),iv ((N+1:Nat):Int),iv (g:Int),x6,x7,x8,x9,x10] =
   .nx [x0,vl (.dT ks vs),x2,vl (thT m ps),iv ((N+1:Nat):Int),iv ((g+((rows.take j).map fun r=>(rws (LL K) r.2 N).length).sum:Nat):Int),vl (.str r.1),vl (.tup (r.2.map T.str)),x8,x9,x10]
 | [],j,r,g,x6,x7,h,_,_,_,_,_=>by simp at h
 | r0 :: rows,0,r,g,x6,x7,h,hm,_,_,f6,f7=>by
  have:r0=r:=by simpa using h
  subst this
  have g1:Bo 2 (As (tgN 6) (As (tgN 7) Bn)) (CB r0) [x0,vl (.dT ks vs),x2,vl (thT m ps),iv ((N+1:Nat):Int),iv (g:Int),x6,x7,x8,x9,x10]=some [x0,vl (.dT ks vs),x2,vl (thT m ps),iv ((N+1:Nat):Int),iv (g:Int),vl (.str r0.1),vl (.tup (r0.2.map T.str)),x8,x9,x10]:=Er (by unfold tgN;exact AR rfl f6) (by unfold tgN;exact AR rfl f7)
  have c1:asB (Ag (gEq true) (Aa 6) (Ag AH (Aa 3) (gc (.int 0)))) [x0,vl (.dT ks vs),x2,vl (thT m ps),iv ((N+1:Nat):Int),iv (g:Int),vl (.str r0.1),vl (.tup (r0.2.map T.str)),x8,x9,x10]=.ok (!decide (r0.1=m)) [x0,vl (.dT ks vs),x2,vl (thT m ps),iv ((N+1:Nat):Int),iv (g:Int),vl (.str r0.1),vl (.tup (r0.2.map T.str)),x8,x9,x10]:=Dr (Af (Ab rfl) (Af (Ab rfl) AA (BV (AD (j:=0) rfl))) gNe_s)
  rw [decide_eq_true hm] at c1
  rw [List.map_cons]
  have:=for_brk (ts:=rows.map CB) (body:=(ifS (asB (Ag (gEq true) (Aa 6) (Ag AH (Aa 3) (gc (.int 0))))) (AY 5 (Ag AF (Aa 5) (fz (Al (Az 3 Be) (Ad (fz (Aa 1)) (Ad (fz (Aa 7)) (Ad (fz (Aa 4)) Am))))))) (fun fs=>.brk fs))) g1 (BW c1 rfl)
  rw [this]
  simp
 | r0 :: rows,j+1,r,g,x6,x7,h,hm,hnd,hall,f6,f7=>by
  have hr:rows[j]?=some r:=by simpa using h
  rw [List.map_cons,List.nodup_cons] at hnd
  have hne:¬ (r0.1=m):=fun e=>hnd.1 (List.mem_map.mpr ⟨r,List.mem_of_getElem? hr,by rw [hm,e]⟩)
  have g1:Bo 2 (As (tgN 6) (As (tgN 7) Bn)) (CB r0) [x0,vl (.dT ks vs),x2,vl (thT m ps),iv ((N+1:Nat):Int),iv (g:Int),x6,x7,x8,x9,x10]=some [x0,vl (.dT ks vs),x2,vl (thT m ps),iv ((N+1:Nat):Int),iv (g:Int),vl (.str r0.1),vl (.tup (r0.2.map T.str)),x8,x9,x10]:=Er (by unfold tgN;exact AR rfl f6) (by unfold tgN;exact AR rfl f7)
  have c1:asB (Ag (gEq true) (Aa 6) (Ag AH (Aa 3) (gc (.int 0)))) [x0,vl (.dT ks vs),x2,vl (thT m ps),iv ((N+1:Nat):Int),iv (g:Int),vl (.str r0.1),vl (.tup (r0.2.map T.str)),x8,x9,x10]=.ok (!decide (r0.1=m)) [x0,vl (.dT ks vs),x2,vl (thT m ps),iv ((N+1:Nat):Int),iv (g:Int),vl (.str r0.1),vl (.tup (r0.2.map T.str)),x8,x9,x10]:=Dr (Af (Ab rfl) (Af (Ab rfl) AA (BV (AD (j:=0) rfl))) gNe_s)
  rw [decide_eq_false hne] at c1
  obtain ⟨h2,hq⟩:=hall r0 List.mem_cons_self
  have ec:=C7 (D3 (fs:=[x0,vl (.dT ks vs),x2,vl (thT m ps),iv ((N+1:Nat):Int),iv (g:Int),vl (.str r0.1),vl (.tup (r0.2.map T.str)),x8,x9,x10]) (p:=3) (Fn:=Be) (Aj (Ay (Ab (i:=1) (t:=.dT ks vs) rfl)) (Aj (Ay (Ab (i:=7) (t:=.tup (r0.2.map T.str)) rfl)) (Aj (Ay (Ab (i:=4) (t:=.int ((N+1:Nat):Int)) rfl)) A8))) rfl rfl (ofm W (.inl rfl) hN hC h2 hq))
  have s5:=Bs (i:=5) (Af (Ab (i:=5) (t:=.int (g:Int)) rfl) ec Bh) (fs':=[x0,vl (.dT ks vs),x2,vl (thT m ps),iv ((N+1:Nat):Int),iv ((g+(rws (LL K) r0.2 N).length:Nat):Int),vl (.str r0.1),vl (.tup (r0.2.map T.str)),x8,x9,x10]) (by rw [Int.natCast_add];rfl)
  have e:=ahead_go W hN hC (x0:=x0) (x2:=x2) (x8:=x8) (x9:=x9) (x10:=x10) (m:=m) (ps:=ps) rows j r (g+(rws (LL K) r0.2 N).length) (vl (.str r0.1)) (vl (.tup (r0.2.map T.str))) hr hm hnd.2 (fun r mr=>hall r (List.mem_cons_of_mem _ mr)) AS AS
  rw [List.map_cons]
  refine (for_nx g1 (Ff c1 s5)).trans (e.trans ?_)
  rw [List.take_succ_cons,List.map_cons,List.sum_cons,Nat.add_assoc]
theorem lows_go {K:Kd} (W:Well K) {ks:List (List Key)} {vs:List T} {N:Nat} (hN:N < 7) (hC:Cts K ks vs N) {x0 x2 x3 x6:Option Sl} {a b:Str} (ha:a∈K.map (·.1)) (hb:b∈K.map (·.1)) {low:Nat} (hl1:1<=low) (hl:low<=N) (g:Nat) :
  ∃ y9 y10,Fre y9/\Fre y10/\Ei (tgN 9) (AL (AY 10 (fz (getF (Aa 1) (AE Ba (Ac (Ag AH (Aa 7) (gc (.int 1))) (Ac (Ag Cv (Ag Cv (Aa 4) (gc (.int 1))) (Aa 9)) Am))) (gc (.int 0)))))
  (AY 5 (Ag AF (Aa 5) (Ag Bt (fz (getF (Aa 1) (AE Ba (Ac (Ag AH (Aa 7) (gc (.int 0))) (Ac (fz (Aa 9)) Am))) (gc (.int 0)))) (Aa 10))))) (FL.upTo 1 (low - 1)) [x0,vl (.dT ks vs),x2,x3,iv ((N+1:Nat):Int),iv (g:Int),x6,vl (.tup ([a,b].map T.str)),iv (low:Int),none,none] =
   .nx [x0,vl (.dT ks vs),x2,x3,iv ((N+1:Nat):Int),iv ((g+(sumTo (low - 1) fun i=>(LL K (i+1) a).length * (LL K (N - (i+1)) b).length):Nat):Int),x6,vl (.tup ([a,b].map T.str)),iv (low:Int),y9,y10]:=by
 obtain ⟨fs',ef,j,x9,x10,rfl,hj,hts,f9,f10⟩:=Bx (gt:=tgN 9) (body:=(AL (AY 10 (fz (getF (Aa 1) (AE Ba (Ac (Ag AH (Aa 7) (gc (.int 1))) (Ac (Ag Cv (Ag Cv (Aa 4) (gc (.int 1))) (Aa 9)) Am))) (gc (.int 0)))))
  (AY 5 (Ag AF (Aa 5) (Ag Bt (fz (getF (Aa 1) (AE Ba (Ac (Ag AH (Aa 7) (gc (.int 0))) (Ac (fz (Aa 9)) Am))) (gc (.int 0)))) (Aa 10))))))
  (fun ts fs=>∃ (j:Nat) (x9 x10:Option Sl),fs=[x0,vl (.dT ks vs),x2,x3,iv ((N+1:Nat):Int),iv ((g+(sumTo j fun i=>(LL K (i+1) a).length * (LL K (N - (i+1)) b).length):Nat):Int),x6,vl (.tup ([a,b].map T.str)),iv (low:Int),x9,x10]/\j<=low - 1/\ts=(FL.upTo 1 (low - 1)).drop j/\Fre x9/\Fre x10)
  (fun t' ts fs h=>by
   obtain ⟨j,x9,x10,rfl,hj,hts,f9,f10⟩:=h
   have hlt:j < low - 1:=by
    have:=congrArg List.length hts
    simp [FL.upTo] at this
    omega
   have hc:=List.drop_eq_getElem_cons (l:=FL.upTo 1 (low - 1)) (i:=j) (by simp [FL.upTo];exact hlt)
   rw [hc] at hts
   obtain ⟨e1,e2⟩:=List.cons.inj hts
   have e3:t'=T.int ((j+1:Nat):Int):=by
    rw [e1]
    simp [FL.upTo]
    omega
   subst e3
   generalize hg:g+(sumTo j fun i=>(LL K (i+1) a).length * (LL K (N - (i+1)) b).length)=G
   have q2s:Ag Cv (Ag Cv (Aa 4) (gc (.int 1))) (Aa 9) [x0,vl (.dT ks vs),x2,x3,iv ((N+1:Nat):Int),iv (G:Int),x6,vl (.tup ([a,b].map T.str)),iv (low:Int),iv ((j+1:Nat):Int),x10]=.ok (.t (.int ((N - (j+1):Nat):Int))) [x0,vl (.dT ks vs),x2,x3,iv ((N+1:Nat):Int),iv (G:Int),x6,vl (.tup ([a,b].map T.str)),iv (low:Int),iv ((j+1:Nat):Int),x10]:=by
    have:((N - (j+1):Nat):Int)=((N+1:Nat):Int) - 1 - ((j+1:Nat):Int):=by omega
    rw [this]
    exact Af (Af (Ab rfl) AA Fq) (Ab rfl) Fq
   have s10:=Bs (i:=10) (Ay (getC (i:=1) (.inl rfl) hC hb (by omega) (D4 (Af (Ab (i:=7) (t:=.tup ([a,b].map T.str)) rfl) AA (BV (AD (j:=1) rfl))) q2s))) (fs':=[x0,vl (.dT ks vs),x2,x3,iv ((N+1:Nat):Int),iv (G:Int),x6,vl (.tup ([a,b].map T.str)),iv (low:Int),iv ((j+1:Nat):Int),iv (cnt K (N - (j+1)) b)]) (AR rfl f10)
   have hbd:=cnt_b W (s:=j+1) (by omega) a
   have s5:=Bs (i:=5) (fs:=[x0,vl (.dT ks vs),x2,x3,iv ((N+1:Nat):Int),iv (G:Int),x6,vl (.tup ([a,b].map T.str)),iv (low:Int),iv ((j+1:Nat):Int),iv (cnt K (N - (j+1)) b)]) (Af (Ab (i:=5) (t:=.int (G:Int)) rfl) (Af (Ay (getC (i:=1) (.inl rfl) hC ha (s:=j+1) (by omega) (D4 (Af (Ab (i:=7) (t:=.tup ([a,b].map T.str)) rfl) AA (BV (AD (j:=0) rfl))) (Ay (Ab (i:=9) (t:=.int ((j+1:Nat):Int)) rfl))))) (Ab (i:=10) (t:=.int (cnt K (N - (j+1)) b)) rfl) (EN ⟨by omega,by omega⟩)) Bh) rfl
   refine ⟨_,_,(by unfold tgN;exact AR rfl f9),sq s10 s5,j+1,iv ((j+1:Nat):Int),iv (cnt K (N - (j+1)) b),?_,by omega,by rw [e2],AS,AS⟩
   rw [DF,<- Nat.add_assoc,hg]
   unfold cnt
   have:((G+(LL K (j+1) a).length * (LL K (N - (j+1)) b).length:Nat):Int)=(G:Int)+((LL K (j+1) a).length:Int) * ((LL K (N - (j+1)) b).length:Int):=by
    rw [Int.natCast_add,Int.natCast_mul]
   rw [this]
   rfl)
  (FL.upTo 1 (low - 1)) [x0,vl (.dT ks vs),x2,x3,iv ((N+1:Nat):Int),iv (g:Int),x6,vl (.tup ([a,b].map T.str)),iv (low:Int),none,none] ⟨0,none,none,rfl,Nat.zero_le _,rfl,Au,Au⟩
 have hj2:j=low - 1:=by
  have:=congrArg List.length hts
  simp [FL.upTo] at this
  omega
 subst hj2
 exact ⟨x9,x10,f9,f10,ef⟩
theorem within {K:Kd} (W:Well K) {ks:List (List Key)} {vs:List T} (hC:Cts K ks vs 7):∀ (s n:Nat),s<=n->s<=7->∀ (k:Str) (t:T) (i:Nat),(LL K s k)[i]?=some t->BK n [vl (AX K),vl (.dT ks vs),vl (.str k),vl t]=.ok (.t (.int (i:Int))) [vl (AX K),vl (.dT ks vs),vl (.str k),vl t]
 | 0,_,_,_,k,t,i,h=>by rw [Dv] at h;simp at h
 | s+1,0,h,_,_,_,_,_=>absurd h (by omega)
 | s+1,n+1,hn,h7,k,t,i,h=>by
  have hmem:=HU W 7 (s+1) h7 k t (List.mem_of_getElem? h) 7 h7
  have esz:=size_f 7 60 t (by decide) hmem.1
  rw [hmem.2.2] at esz
  obtain ⟨kd,j,r,ps,i',hk,hr,et,hps,ei⟩:=LL_idx h
  obtain ⟨mk,ek⟩:=Hw hk
  subst ek
  subst et
  have mr:r∈kd.2:=List.mem_of_getElem? hr
  have hC':Cts K ks vs s:=⟨fun k hk s' h1 h2=>hC.at_ k hk s' h1 (by omega),hC.zero⟩
  have s4:AY 4 (fz (Al (Az 1 (BH 60)) (Ad (fz (Aa 3)) Am))) [vl (AX K),vl (.dT ks vs),vl (.str kd.1),vl (thT r.1 ps),none,none,none,none,none,none,none]=.nx [vl (AX K),vl (.dT ks vs),vl (.str kd.1),vl (thT r.1 ps),iv ((s+1:Nat):Int),none,none,none,none,none,none] :=
   C3 (C7 (D3 (Aj (Ay (Ab (t:=thT r.1 ps) rfl)) A8) rfl rfl esz)) rfl
  have el:=ahead_go W (N:=s) (by omega) hC' (x0:=vl (AX K)) (x2:=vl (.str kd.1)) (x8:=none) (x9:=none) (x10:=none) (m:=r.1) (ps:=ps) kd.2 j r 0 none none hr rfl (W.rnd mk) (fun r mr=>⟨W.two kd mk r mr,W.prt kd mk r mr⟩) Au Au
  rw [Nat.zero_add] at el
  generalize hA:((kd.2.take j).map fun r=>(rws (LL K) r.2 s).length).sum=A at el ei
  have s6:=C8 (src:=itU (Ag AH (Aa 0) (fz (Aa 2)))) (fs:=[vl (AX K),vl (.dT ks vs),vl (.str kd.1),vl (thT r.1 ps),iv ((s+1:Nat):Int),iv 0,none,none,none,none,none]) (by
   have:=Af (fa:=Aa 0) (fb:=fz (Aa 2)) (fs:=[vl (AX K),vl (.dT ks vs),vl (.str kd.1),vl (thT r.1 ps),iv ((s+1:Nat):Int),iv 0,none,none,none,none,none]) (Ab (t:=AX K) rfl) (Ay (Ab (t:=.str kd.1) rfl)) (get_t (val_rows W mk))
   show itU _ _=.ok (kd.2.map CB) _
   unfold itU
   rw [this]
   rfl) el
  have hlen:∀ c:Int,asB (Ag (gEq false) (Al Bm (Ac (Ag AH (Aa 3) (gc (.int 1))) Am)) (gc (.int c))) [vl (AX K),vl (.dT ks vs),vl (.str kd.1),vl (thT r.1 ps),iv ((s+1:Nat):Int),iv (A:Int),vl (.str r.1),vl (.tup (r.2.map T.str)),none,none,none]=.ok (decide ((ps.length:Int)=c)) [vl (AX K),vl (.dT ks vs),vl (.str kd.1),vl (thT r.1 ps),iv ((s+1:Nat):Int),iv (A:Int),vl (.str r.1),vl (.tup (r.2.map T.str)),none,none,none]:=fun c =>
   HH (D1 (Af (Ab (t:=thT r.1 ps) rfl) AA (BV (AD (j:=1) rfl))) (.inr rfl)) AA
  have key:∃ τ,EV (BK n) [vl (AX K),vl (.dT ks vs),vl (.str kd.1),vl (thT r.1 ps),none,none,none,none,none,none,none]=.ret (.t (.int (i:Int))) τ/\τ.take 4=[vl (AX K),vl (.dT ks vs),vl (.str kd.1),vl (thT r.1 ps)]:=by
   unfold EV
   match e2:r.2,W.two kd mk r mr,W.prt kd mk r mr with
   | [],_,_ =>
    rw [e2,Gk] at hps
    split at hps
    ·have hp0:ps=[]/\i'=0:=by
      have hlt:=(List.getElem?_eq_some_iff.mp hps).1
      have hi0:i'=0:=by simpa using hlt
      subst hi0
      exact ⟨by simpa using hps.symm,rfl⟩
     obtain ⟨rfl,rfl⟩:=hp0
     have hi:i=A:=by omega
     rw [hi]
     have l1:=hlen 1
     have l2:=hlen 2
     rw [decide_eq_false (by simp)] at l1 l2
     refine ⟨[vl (AX K),vl (.dT ks vs),vl (.str kd.1),vl (thT r.1 []),iv ((s+1:Nat):Int),iv (A:Int),vl (.str r.1),vl (.tup (r.2.map T.str)),none,none,none],?_,rfl⟩
     exact sq s4 (sq (fs':=[vl (AX K),vl (.dT ks vs),vl (.str kd.1),vl (thT r.1 []),iv ((s+1:Nat):Int),iv 0,none,none,none,none,none]) rfl (sq s6 (sq (BW l1 rfl) (sq (BW l2 rfl) rfl))))
    ·simp at hps
   | [a],_,hq =>
    rw [e2,rws_one (Dv K a)] at hps
    obtain ⟨p,hp,e⟩:=map_idx hps
    subst e
    have hw:=within W hC s n (by omega) (by omega) a p i' hp
    rw [e2] at s6 hlen
    have s5:AY 5 (Ag AF (Aa 5) (fz (Al (Az 4 (BK n)) (Ad (fz (Aa 0)) (Ad (fz (Aa 1)) (Ad (Ag AH (Aa 7) (gc (.int 0))) (Ad (Ag AH (Ag AH (Aa 3) (gc (.int 1))) (gc (.int 0))) Am))))))) [vl (AX K),vl (.dT ks vs),vl (.str kd.1),vl (thT r.1 [p]),iv ((s+1:Nat):Int),iv (A:Int),vl (.str r.1),vl (.tup ([a].map T.str)),none,none,none]=.nx [vl (AX K),vl (.dT ks vs),vl (.str kd.1),vl (thT r.1 [p]),iv ((s+1:Nat):Int),iv ((A:Int)+(i':Int)),vl (.str r.1),vl (.tup ([a].map T.str)),none,none,none] :=
     Bs (Af (Ab rfl) (C7 (D3 (Aj (Ay (Ab (t:=AX K) rfl)) (Aj (Ay (Ab (t:=.dT ks vs) rfl)) (Aj (Af (Ab (t:=.tup ([a].map T.str)) rfl) AA (BV (t:=.str a) (AD (j:=0) rfl))) (Aj (Af (Af (Ab (t:=thT r.1 [p]) rfl) AA (BV (t:=.tup [p]) (AD (j:=1) rfl))) AA (BV (t:=p) (AD (j:=0) rfl))) A8)))) rfl rfl hw)) Bh) rfl
    have hi:(i:Int)=(A:Int)+(i':Int):=by omega
    rw [hi]
    have c2:asB (Ag (gEq false) (Al Bm (Ac (Ag AH (Aa 3) (gc (.int 1))) Am)) (gc (.int 2))) [vl (AX K),vl (.dT ks vs),vl (.str kd.1),vl (thT r.1 [p]),iv ((s+1:Nat):Int),iv ((A:Int)+(i':Int)),vl (.str r.1),vl (.tup ([a].map T.str)),none,none,none]=.ok false [vl (AX K),vl (.dT ks vs),vl (.str kd.1),vl (thT r.1 [p]),iv ((s+1:Nat):Int),iv ((A:Int)+(i':Int)),vl (.str r.1),vl (.tup ([a].map T.str)),none,none,none] :=
     HH (D1 (Af (Ab (t:=thT r.1 [p]) rfl) AA (BV (AD (j:=1) rfl))) (.inr rfl)) AA
    exact ⟨_,sq s4 (sq (fs':=[vl (AX K),vl (.dT ks vs),vl (.str kd.1),vl (thT r.1 [p]),iv ((s+1:Nat):Int),iv 0,none,none,none,none,none]) rfl (sq s6 (sq (Ff (hlen 1) s5) (sq (BW c2 rfl) rfl)))),rfl⟩
   | [a,b],_,hq =>
    rw [e2] at hps
    obtain ⟨sp,p,q,ip,iq,h1,h2,e,hp,hqq,ei'⟩:=two_idx (Dv K b) hps
    subst e
    have ha:=hq a (by simp)
    have hb:=hq b (by simp)
    rw [e2] at s6 hlen
    have hwp:=within W hC sp n (by omega) (by omega) a p ip hp
    have hsq:s - sp<=n:=by omega
    have hwq:=within W hC (s - sp) n hsq (by omega) b q iq hqq
    have hmp:=HU W 7 sp (by omega) a p (List.mem_of_getElem? hp) 7 (by omega)
    have eszp:=size_f 7 60 p (by decide) hmp.1
    rw [hmp.2.2] at eszp
    obtain ⟨y9,y10,f9,f10,elo⟩:=lows_go W (N:=s) (by omega) hC' (x0:=vl (AX K)) (x2:=vl (.str kd.1)) (x3:=vl (thT r.1 [p,q])) (x6:=vl (.str r.1)) ha hb h1 (low:=sp) h2 A
    generalize hS:(sumTo (sp - 1) fun f=>(LL K (f+1) a).length * (LL K (s - (f+1)) b).length)=S at elo ei'
    have s8:AY 8 (fz (Al (Az 1 (BH 60)) (Ad (Ag AH (Ag AH (Aa 3) (gc (.int 1))) (gc (.int 0))) Am))) [vl (AX K),vl (.dT ks vs),vl (.str kd.1),vl (thT r.1 [p,q]),iv ((s+1:Nat):Int),iv (A:Int),vl (.str r.1),vl (.tup ([a,b].map T.str)),none,none,none]=.nx [vl (AX K),vl (.dT ks vs),vl (.str kd.1),vl (thT r.1 [p,q]),iv ((s+1:Nat):Int),iv (A:Int),vl (.str r.1),vl (.tup ([a,b].map T.str)),iv (sp:Int),none,none] :=
     C3 (C7 (D3 (Aj (Af (Af (Ab (t:=thT r.1 [p,q]) rfl) AA (BV (t:=.tup [p,q]) (AD (j:=1) rfl))) AA (BV (t:=p) (AD (j:=0) rfl))) A8) rfl rfl eszp)) rfl
    have s9:=C8 (src:=itR2 (Ac (gc (.int 1)) (Ac (Aa 8) Am))) (fs:=[vl (AX K),vl (.dT ks vs),vl (.str kd.1),vl (thT r.1 [p,q]),iv ((s+1:Nat):Int),iv (A:Int),vl (.str r.1),vl (.tup ([a,b].map T.str)),iv (sp:Int),none,none]) (ts:=FL.upTo 1 (sp - 1)) (by
     have:=DI (fa:=Ac (gc (.int 1)) (Ac (Aa 8) Am)) (fs:=[vl (AX K),vl (.dT ks vs),vl (.str kd.1),vl (thT r.1 [p,q]),iv ((s+1:Nat):Int),iv (A:Int),vl (.str r.1),vl (.tup ([a,b].map T.str)),iv (sp:Int),none,none]) (i:=1) (j:=(sp:Int)) (AK AA (AK (Ab rfl) rfl)) ⟨by omega,by omega⟩ ⟨by omega,by omega⟩
     have e:((sp:Int) - 1).toNat=sp - 1:=by omega
     rw [e] at this
     exact this) elo
    have q10:Ag Cv (Ag Cv (Aa 4) (gc (.int 1))) (Aa 8) [vl (AX K),vl (.dT ks vs),vl (.str kd.1),vl (thT r.1 [p,q]),iv ((s+1:Nat):Int),iv ((A+S:Nat):Int),vl (.str r.1),vl (.tup ([a,b].map T.str)),iv (sp:Int),y9,y10]=.ok (.t (.int ((s - sp:Nat):Int))) [vl (AX K),vl (.dT ks vs),vl (.str kd.1),vl (thT r.1 [p,q]),iv ((s+1:Nat):Int),iv ((A+S:Nat):Int),vl (.str r.1),vl (.tup ([a,b].map T.str)),iv (sp:Int),y9,y10]:=by
     have:((s - sp:Nat):Int)=((s+1:Nat):Int) - 1 - (sp:Int):=by omega
     rw [this]
     exact Af (Af (Ab rfl) AA Fq) (Ab rfl) Fq
    have s10:=Bs (i:=10) (Ay (getC (i:=1) (.inl rfl) hC' hb (by omega) (D4 (Af (Ab (i:=7) (t:=.tup ([a,b].map T.str)) rfl) AA (BV (AD (j:=1) rfl))) q10))) (fs':=[vl (AX K),vl (.dT ks vs),vl (.str kd.1),vl (thT r.1 [p,q]),iv ((s+1:Nat):Int),iv ((A+S:Nat):Int),vl (.str r.1),vl (.tup ([a,b].map T.str)),iv (sp:Int),y9,iv (cnt K (s - sp) b)]) (AR rfl f10)
    have hip:ip < (LL K sp a).length:=(List.getElem?_eq_some_iff.mp hp).1
    have hipl:=LL_len W (n:=sp) (by omega) a
    have s11:AY 5 (Ag AF (Aa 5) (Ag Bt (fz (Al (Az 4 (BK n)) (Ad (fz (Aa 0)) (Ad (fz (Aa 1)) (Ad (Ag AH (Aa 7) (gc (.int 0))) (Ad (Ag AH (Ag AH (Aa 3) (gc (.int 1))) (gc (.int 0))) Am)))))) (Aa 10))) [vl (AX K),vl (.dT ks vs),vl (.str kd.1),vl (thT r.1 [p,q]),iv ((s+1:Nat):Int),iv ((A+S:Nat):Int),vl (.str r.1),vl (.tup ([a,b].map T.str)),iv (sp:Int),y9,iv (cnt K (s - sp) b)]=.nx [vl (AX K),vl (.dT ks vs),vl (.str kd.1),vl (thT r.1 [p,q]),iv ((s+1:Nat):Int),iv (((A+S:Nat):Int)+(ip:Int) * cnt K (s - sp) b),vl (.str r.1),vl (.tup ([a,b].map T.str)),iv (sp:Int),y9,iv (cnt K (s - sp) b)] :=
     Bs (Af (Ab rfl) (Af (C7 (D3 (Aj (Ay (Ab (t:=AX K) rfl)) (Aj (Ay (Ab (t:=.dT ks vs) rfl)) (Aj (Af (Ab (t:=.tup ([a,b].map T.str)) rfl) AA (BV (t:=.str a) (AD (j:=0) rfl))) (Aj (Af (Af (Ab (t:=thT r.1 [p,q]) rfl) AA (BV (t:=.tup [p,q]) (AD (j:=1) rfl))) AA (BV (t:=p) (AD (j:=0) rfl))) A8)))) rfl rfl hwp)) (Ab rfl) (EN ⟨by omega,by omega⟩)) Bh) rfl
    have s12:AY 5 (Ag AF (Aa 5) (fz (Al (Az 4 (BK n)) (Ad (fz (Aa 0)) (Ad (fz (Aa 1)) (Ad (Ag AH (Aa 7) (gc (.int 1))) (Ad (Ag AH (Ag AH (Aa 3) (gc (.int 1))) (gc (.int 1))) Am))))))) [vl (AX K),vl (.dT ks vs),vl (.str kd.1),vl (thT r.1 [p,q]),iv ((s+1:Nat):Int),iv (((A+S:Nat):Int)+(ip:Int) * cnt K (s - sp) b),vl (.str r.1),vl (.tup ([a,b].map T.str)),iv (sp:Int),y9,iv (cnt K (s - sp) b)]=.nx [vl (AX K),vl (.dT ks vs),vl (.str kd.1),vl (thT r.1 [p,q]),iv ((s+1:Nat):Int),iv (((A+S:Nat):Int)+(ip:Int) * cnt K (s - sp) b+(iq:Int)),vl (.str r.1),vl (.tup ([a,b].map T.str)),iv (sp:Int),y9,iv (cnt K (s - sp) b)] :=
     Bs (Af (Ab rfl) (C7 (D3 (Aj (Ay (Ab (t:=AX K) rfl)) (Aj (Ay (Ab (t:=.dT ks vs) rfl)) (Aj (Af (Ab (t:=.tup ([a,b].map T.str)) rfl) AA (BV (t:=.str b) (AD (j:=1) rfl))) (Aj (Af (Af (Ab (t:=thT r.1 [p,q]) rfl) AA (BV (t:=.tup [p,q]) (AD (j:=1) rfl))) AA (BV (t:=q) (AD (j:=1) rfl))) A8)))) rfl rfl hwq)) Bh) rfl
    have hi:(i:Int)=((A+S:Nat):Int)+(ip:Int) * cnt K (s - sp) b+(iq:Int):=by
     rw [ei,ei']
     unfold cnt
     rw [Int.natCast_add,Int.natCast_add,Int.natCast_add,Int.natCast_add,Int.natCast_mul]
     omega
    rw [hi]
    exact ⟨_,sq s4 (sq (fs':=[vl (AX K),vl (.dT ks vs),vl (.str kd.1),vl (thT r.1 [p,q]),iv ((s+1:Nat):Int),iv 0,none,none,none,none,none]) rfl (sq s6 (sq (BW (hlen 1) rfl) (sq (Ff (hlen 2) (sq s8 (sq s9 (sq s10 (sq s11 s12))))) rfl)))),rfl⟩
   | _ :: _ :: _ :: _,h,_=>simp at h
  obtain ⟨τ,k1,k2⟩:=key
  exact Hh (g:=EV (BK n)) k1 k2
theorem ahead {K:Kd} (W:Well K) {ks:List (List Key)} {vs:List T} (hC:Cts K ks vs 7) {k:Str} (hk:k∈K.map (·.1)) {s i:Nat} {t:T} (h1:1<=s) (h7:s<=7) (h:(LL K s k)[i]?=some t) :
  DU [vl (AX K),vl (.dT ks vs),vl (.str k),vl t]=.ok (.t (.int (((sumTo (s - 1) fun f=>(LL K (f+1) k).length)+i:Nat):Int))) [vl (AX K),vl (.dT ks vs),vl (.str k),vl t]:=by
 have hmem:=HU W 7 s h7 k t (List.mem_of_getElem? h) 7 h7
 have esz:=size_f 7 60 t (by decide) hmem.1
 rw [hmem.2.2] at esz
 have hw:=within W hC s 60 (by omega) h7 k t i h
 have s4:AY 4 (fz (Al (Az 4 (BK 60)) (Ad (fz (Aa 0)) (Ad (fz (Aa 1)) (Ad (fz (Aa 2)) (Ad (fz (Aa 3)) Am)))))) [vl (AX K),vl (.dT ks vs),vl (.str k),vl t,none,none]=.nx [vl (AX K),vl (.dT ks vs),vl (.str k),vl t,iv (i:Int),none] :=
  C3 (C7 (D3 (Aj (Ay (Ab (t:=AX K) rfl)) (Aj (Ay (Ab (t:=.dT ks vs) rfl)) (Aj (Ay (Ab (t:=.str k) rfl)) (Aj (Ay (Ab (t:=t) rfl)) A8)))) rfl rfl hw)) rfl
 obtain ⟨fs',ef,j,x5,rfl,hj,hts,f5⟩:=Bx (gt:=tgN 5) (body:=(AY 4 (Ag AF (Aa 4) (Ag AH (Aa 1) (AE Ba (Ac (fz (Aa 2)) (Ac (fz (Aa 5)) Am)))))))
  (fun ts fs=>∃ (j:Nat) (x5:Option Sl),fs=[vl (AX K),vl (.dT ks vs),vl (.str k),vl t,iv (((sumTo j fun f=>(LL K (f+1) k).length)+i:Nat):Int),x5]/\j<=s - 1/\ts=(FL.upTo 1 (s - 1)).drop j/\Fre x5)
  (fun t' ts fs h=>by
   obtain ⟨j,x5,rfl,hj,hts,f5⟩:=h
   have hlt:j < s - 1:=by
    have:=congrArg List.length hts
    simp [FL.upTo] at this
    omega
   have hc:=List.drop_eq_getElem_cons (l:=FL.upTo 1 (s - 1)) (i:=j) (by simp [FL.upTo];exact hlt)
   rw [hc] at hts
   obtain ⟨e1,e2⟩:=List.cons.inj hts
   have e3:t'=T.int ((j+1:Nat):Int):=by
    rw [e1]
    simp [FL.upTo]
    omega
   subst e3
   have q:=ixD_ok (i:=1) (fs:=[vl (AX K),vl (.dT ks vs),vl (.str k),vl t,iv (((sumTo j fun f=>(LL K (f+1) k).length)+i:Nat):Int),iv ((j+1:Nat):Int)]) (.inl rfl) (D4 (Ay (Ab (i:=2) (t:=.str k) rfl)) (Ay (Ab (i:=5) (t:=.int ((j+1:Nat):Int)) rfl))) (hC.at_ k hk (j+1) (by omega) (by omega))
   refine ⟨_,_,(by unfold tgN;exact AR rfl f5),Bs (Af (Ab rfl) q Bh) rfl,j+1,iv ((j+1:Nat):Int),?_,by omega,by rw [e2],AS⟩
   rw [DF]
   unfold cnt
   have:(((sumTo j fun f=>(LL K (f+1) k).length)+(LL K (j+1) k).length+i:Nat):Int)=(((sumTo j fun f=>(LL K (f+1) k).length)+i:Nat):Int)+((LL K (j+1) k).length:Int):=by omega
   rw [this]
   rfl)
  (FL.upTo 1 (s - 1)) [vl (AX K),vl (.dT ks vs),vl (.str k),vl t,iv (i:Int),none] ⟨0,none,by simp [sumTo],Nat.zero_le _,rfl,Au⟩
 have hj2:j=s - 1:=by
  have:=congrArg List.length hts
  simp [FL.upTo] at this
  omega
 subst hj2
 have all:Gh [vl (AX K),vl (.dT ks vs),vl (.str k),vl t,none,none]=.ret (.t (.int (((sumTo (s - 1) fun f=>(LL K (f+1) k).length)+i:Nat):Int))) [vl (AX K),vl (.dT ks vs),vl (.str k),vl t,iv (((sumTo (s - 1) fun f=>(LL K (f+1) k).length)+i:Nat):Int),x5]:=by
  unfold Gh
  have hr:=DI (fa:=Ac (gc (.int 1)) (Ac (fz (Al (Az 1 (BH 60)) (Ad (fz (Aa 3)) Am))) Am)) (fs:=[vl (AX K),vl (.dT ks vs),vl (.str k),vl t,iv (i:Int),none]) (i:=1) (j:=(s:Int)) (AK AA (AK (C7 (D3 (Aj (Ay (Ab (t:=t) rfl)) A8) rfl rfl esz)) rfl)) ⟨by omega,by omega⟩ ⟨by omega,by omega⟩
  have e:((s:Int) - 1).toNat=s - 1:=by omega
  rw [e] at hr
  exact sq s4 (sq (C8 hr ef) rfl)
 exact Hh (g:=Gh) all rfl
def SQ (fs:FS) (i:Nat) (X:List T):Prop:=fs[i]?=some (vl (.lst X))∨fs[i]?=some (some (.bor (.lst X)))
theorem SQ.rf {fs:FS} {i:Nat} {X:List T} (h:fs[i]?=some (some (.bor (.lst X)))):Dt fs (.rf i)=some X:=by simp only [Dt,objB h]
theorem SQ.len {fs:FS} {i:Nat} {X:List T} (h:SQ fs i X):Al Bm (Ac (Aa i) Am) fs=.ok (.t (.int X.length)) fs:=by
 rcases h with h | h
 ·exact D1 (Ab h) (.inl rfl)
 ·have h1:Ac (Aa i) Am fs=.ok [.rf i] fs:=by
   unfold Ac
   rw [De h]
   rfl
  unfold Al
  rw [h1]
  have:gLen [.rf i] fs=.ok (.t (.int X.length)) fs:=by
   simp only [gLen,SQ.rf h,okT]
  show Bm [.rf i] fs=_
  unfold Bm orC
  rw [this]
theorem SQ.ix {fs:FS} {i:Nat} {X:List T} (h:SQ fs i X) {fk:FS->Out Rv} {j:Int} {x:T} (hk:fk fs=.ok (.t (.int j)) fs) (e:atI X j=some x):Ag AH (Aa i) fk fs=.ok (.t x) fs:=by
 rcases h with h | h
 ·exact Af (Ab h) hk (BJ rfl e)
 ·exact bin2_rf1 (De h) hk (BJ (SQ.rf h) e)
theorem SQ.is {fs:FS} {i:Nat} {X:List T} (h:SQ fs i X):DZ (Ew (isG "list" (Aa i))) fs=.ok false fs:=by
 refine DY (b:=true) (DW ?_)
 have hs:=ty_facts.2.2
 unfold isG
 rcases h with h | h
 ·rw [Ab h]
  show Out.ok (Rv.t (.bl (HW "list" "list"))) _=_
  rw [hs]
 ·rw [De h]
  show (match FL.A9 fs i with | some (.lst _)=>Out.ok (Rv.t (.bl (HW "list" "list"))) fs | _=>.bad)=_
  rw [objB h,hs]
theorem gNe_n {x y:Nat} {fs:FS}:gEq true (.t (.int (x:Int))) (.t (.int (y:Int))) fs=.ok (.t (.bl (!decide (x=y)))) fs:=by
 have q:decide (V.int (x:Int)=V.int (y:Int))=decide (x=y):=by
  by_cases h:x=y
  ·subst h;simp
  ·rw [decide_eq_false h,decide_eq_false (by intro z;injection z with z;exact h (by omega))]
 show (if scal (V.int (x:Int)) (V.int (y:Int))=true then okT (.bl (if true=true then !decide (V.int (x:Int)=V.int (y:Int)) else _)) fs else .bad)=_
 rw [if_pos (show scal (V.int (x:Int)) (V.int (y:Int))=true from rfl),q]
 rfl
theorem cat_total (K:Kd) (k:Str) (w:Nat):(cat K k w).length=sumTo w fun i=>(LL K (i+1) k).length:=by
 unfold cat sumTo
 exact El _ _
theorem right {K:Kd} (W:Well K) {ks:List (List Key)} {vs:List T} (hC:Cts K ks vs 7) {k:Str} (hk:k∈K.map (·.1)) {most:Nat} (hm:most<=1000) {sl:Option Sl} (hsl:sl=vl (.lst ((cat K k 7).take most))∨sl=some (.bor (.lst ((cat K k 7).take most)))) :
  Dh [vl (AX K),vl (.dT ks vs),vl (.str k),iv (most:Int),sl]=.ok (.t (.bl true)) [vl (AX K),vl (.dT ks vs),vl (.str k),iv (most:Int),sl]:=by
 have hSQ:∀ x5:Option Sl,SQ [vl (AX K),vl (.dT ks vs),vl (.str k),iv (most:Int),sl,x5] 4 ((cat K k 7).take most):=fun x5=>by
  rcases hsl with rfl | rfl
  ·exact .inl rfl
  ·exact .inr rfl
 have hXl:((cat K k 7).take most).length<=1000:=by rw [List.length_take];omega
 have hXi:∀ (j:Nat) (t:T),((cat K k 7).take most)[j]?=some t->(cat K k 7)[j]?=some t:=fun j t h=>by
  rw [List.getElem?_take] at h
  split at h
  ·exact h
  ·cases h
 have hXn:((cat K k 7).take most).length=if (cat K k 7).length < most then (cat K k 7).length else most:=by
  rw [List.length_take]
  split <;> omega
 generalize hX:(cat K k 7).take most=X at hSQ hXl hXi hXn hsl
 have csum:Al gSum (Ac (Cp false [none,some 1,some 2] (itR2 (Ac (gc (.int 1)) (Ac (gc (.int 8)) Am))) (tgN 0) EZ (Ag AH (Aa 1) (AE Ba (Ac (fz (Aa 2)) (Ac (fz (Aa 0)) Am))))) Am) [vl (AX K),vl (.dT ks vs),vl (.str k),iv (most:Int),sl,none]=.ok (.t (.int ((cat K k 7).length:Nat))) [vl (AX K),vl (.dT ks vs),vl (.str k),iv (most:Int),sl,none]:=by
  have e1:=DI (fa:=Ac (gc (.int 1)) (Ac (gc (.int 8)) Am)) (fs:=[vl (AX K),vl (.dT ks vs),vl (.str k),iv (most:Int),sl,none]) (i:=1) (j:=8) (AK AA (AK AA rfl)) ⟨by omega,by omega⟩ ⟨by omega,by omega⟩
  obtain ⟨y,hy,e2⟩:=Dp (fe:=Ag AH (Aa 1) (AE Ba (Ac (fz (Aa 2)) (Ac (fz (Aa 0)) Am)))) (f:=fun t'=>match t' with | .int i=>.int (cnt K i.toNat k) | _=>.non) (rest:=[vl (.dT ks vs),vl (.str k)]) (FL.upTo 1 7) none [] Au (fun t' mt=>by
   unfold FL.upTo at mt
   rw [List.mem_map] at mt
   obtain ⟨i,mi,rfl⟩:=mt
   have hi:=List.mem_range.mp mi
   have hi1:(1+(i:Int)).toNat=i+1:=by omega
   have hi2:(1:Int)+(i:Int)=((i+1:Nat):Int):=by omega
   rw [hi2]
   have:=ixD_ok (i:=1) (fs:=[iv ((i+1:Nat):Int),vl (.dT ks vs),vl (.str k)]) (.inl rfl) (D4 (Ay (Ab (i:=2) (t:=.str k) rfl)) (Ay (Ab (i:=0) (t:=.int ((i+1:Nat):Int)) rfl))) (hC.at_ k hk (i+1) (by omega) (by omega))
   rw [this]
   simp only [Int.toNat_natCast]) (by
   unfold FL.upTo
   rw [List.length_map,List.length_range]
   decide)
  have e3:=D2 (src:=[none,some 1,some 2]) e1 ⟨by rw [show Dd _ (List.map _ [none,some 1,some 2])=[] from rfl];exact List.nodup_nil,by rfl⟩ e2 (AZ rfl)
  have e4:(FL.upTo 1 7).map (fun t'=>match t' with | .int i=>T.int (cnt K i.toNat k) | _=>T.non)=(((List.range 7).map fun i=>(LL K (i+1) k).length).map fun (n:Nat)=>(n:Int)).map T.int:=by
   unfold FL.upTo
   rw [List.map_map,List.map_map,List.map_map]
   refine List.map_congr_left fun i _=>?_
   have hi1:(1+(i:Int)).toNat=i+1:=by omega
   simp only [Function.comp_apply,hi1,cnt]
  rw [List.nil_append,e4] at e3
  refine callB_st (BR e3 A8) ?_
  simp only [gSum,Dt,Option.bind_some,Eh,okT]
  rw [sum_int,cat_total]
  rfl
 have c2:asB (Ag (gEq true) (Al Bm (Ac (Aa 4) Am)) (Al Gv (Ac (Aa 3) (Ac (Al gSum (Ac (Cp false [none,some 1,some 2] (itR2 (Ac (gc (.int 1)) (Ac (gc (.int 8)) Am))) (tgN 0) EZ (Ag AH (Aa 1) (AE Ba (Ac (fz (Aa 2)) (Ac (fz (Aa 0)) Am))))) Am)) Am)))) [vl (AX K),vl (.dT ks vs),vl (.str k),iv (most:Int),sl,none]=.ok false [vl (AX K),vl (.dT ks vs),vl (.str k),iv (most:Int),sl,none]:=by
  have q:Al Gv (Ac (Aa 3) (Ac (Al gSum (Ac (Cp false [none,some 1,some 2] (itR2 (Ac (gc (.int 1)) (Ac (gc (.int 8)) Am))) (tgN 0) EZ (Ag AH (Aa 1) (AE Ba (Ac (fz (Aa 2)) (Ac (fz (Aa 0)) Am))))) Am)) Am)) [vl (AX K),vl (.dT ks vs),vl (.str k),iv (most:Int),sl,none]=.ok (.t (.int (X.length:Nat))) [vl (AX K),vl (.dT ks vs),vl (.str k),iv (most:Int),sl,none]:=by
   refine DE (AK (Ab (t:=.int (most:Int)) rfl) (AK csum rfl)) ?_
   show okT (.int (if ((cat K k 7).length:Int) < (most:Int) then ((cat K k 7).length:Int) else (most:Int))) _=_
   rw [hXn]
   by_cases hlt:(cat K k 7).length < most
   ·rw [if_pos (by omega),if_pos hlt];rfl
   ·rw [if_neg (by omega),if_neg hlt];rfl
  refine Dr (Af (hSQ none).len q ?_)
  rw [gNe_n,decide_eq_true rfl]
  rfl
 obtain ⟨fs',ef,j,x5,rfl,hj,hts,f5⟩:=Bx (gt:=tgN 5) (body:=(AL (ifS (orT (DZ (Ew (fz (Al (Az 1 (CF 60)) (Ad (Ag AH (Aa 4) (fz (Aa 5))) Am))))) (DZ (Ew (fz (Al (Az 3 (AN 60)) (Ad (fz (Aa 0)) (Ad (fz (Aa 2)) (Ad (Ag AH (Aa 4) (fz (Aa 5))) Am)))))))) (retS (gc (.bl false))) nxS)
  (ifS (orT (asB (Ag gGt (fz (Al (Az 1 (BH 60)) (Ad (Ag AH (Aa 4) (fz (Aa 5))) Am))) (gc (.int 7)))) (asB (Ag (gEq true) (fz (Al (Az 4 DU) (Ad (fz (Aa 0)) (Ad (fz (Aa 1)) (Ad (fz (Aa 2)) (Ad (Ag AH (Aa 4) (fz (Aa 5))) Am)))))) (Aa 5)))) (retS (gc (.bl false))) nxS)))
  (fun ts fs=>∃ (j:Nat) (x5:Option Sl),fs=[vl (AX K),vl (.dT ks vs),vl (.str k),iv (most:Int),sl,x5]/\j<=X.length/\ts=(FL.upTo 0 X.length).drop j/\Fre x5)
  (fun t' ts fs h=>by
   obtain ⟨j,x5,rfl,hj,hts,f5⟩:=h
   have hlt:j < X.length:=by
    have:=congrArg List.length hts
    simp [FL.upTo] at this
    omega
   have hc:=List.drop_eq_getElem_cons (l:=FL.upTo 0 X.length) (i:=j) (by simp [FL.upTo];exact hlt)
   rw [hc] at hts
   obtain ⟨e1,e2⟩:=List.cons.inj hts
   have e3:t'=T.int (j:Int):=by
    rw [e1]
    simp [FL.upTo]
   subst e3
   have hx:X[j]?=some X[j]:=List.getElem?_eq_getElem hlt
   generalize X[j]=t at hx
   obtain ⟨s,i',h1,h7,hi,ei⟩:=cat_idx (hXi j t hx)
   have hmem:=HU W 7 s h7 k t (List.mem_of_getElem? hi) 7 h7
   have esz:=size_f 7 60 t (by decide) hmem.1
   rw [hmem.2.2] at esz
   have esh:=shape_f 7 60 t (by decide) hmem.1.th
   have eis:=lis W 7 60 (by decide) k t hmem.1.th
   rw [hmem.2.1] at eis
   have eah:=ahead W hC hk h1 h7 hi
   rw [<- ei] at eah
   have q:=(hSQ (iv (j:Int))).ix (Ay (Ab (i:=5) (t:=.int (j:Int)) rfl)) (AD hx)
   have c1:=orT_f (DY (DW (C7 (D3 (p:=1) (Fn:=CF 60) (Aj q A8) rfl rfl esh)))) (DY (DW (C7 (D3 (p:=3) (Fn:=AN 60) (Aj (Ay (Ab (i:=0) (t:=AX K) rfl)) (Aj (Ay (Ab (i:=2) (t:=.str k) rfl)) (Aj q A8))) rfl rfl eis))))
   have c3:asB (Ag gGt (fz (Al (Az 1 (BH 60)) (Ad (Ag AH (Aa 4) (fz (Aa 5))) Am))) (gc (.int 7))) [vl (AX K),vl (.dT ks vs),vl (.str k),iv (most:Int),sl,iv (j:Int)]=.ok false [vl (AX K),vl (.dT ks vs),vl (.str k),iv (most:Int),sl,iv (j:Int)] :=
    gt_f (C7 (D3 (p:=1) (Fn:=BH 60) (Aj q A8) rfl rfl esz)) AA (by omega)
   have c4:asB (Ag (gEq true) (fz (Al (Az 4 DU) (Ad (fz (Aa 0)) (Ad (fz (Aa 1)) (Ad (fz (Aa 2)) (Ad (Ag AH (Aa 4) (fz (Aa 5))) Am)))))) (Aa 5)) [vl (AX K),vl (.dT ks vs),vl (.str k),iv (most:Int),sl,iv (j:Int)]=.ok false [vl (AX K),vl (.dT ks vs),vl (.str k),iv (most:Int),sl,iv (j:Int)]:=by
    refine Dr (Af (C7 (D3 (p:=4) (Fn:=DU) (Aj (Ay (Ab (i:=0) (t:=AX K) rfl)) (Aj (Ay (Ab (i:=1) (t:=.dT ks vs) rfl)) (Aj (Ay (Ab (i:=2) (t:=.str k) rfl)) (Aj q A8)))) rfl rfl eah)) (Ab (i:=5) (t:=.int (j:Int)) rfl) ?_)
    rw [gNe_n,decide_eq_true rfl]
    rfl
   exact ⟨[vl (AX K),vl (.dT ks vs),vl (.str k),iv (most:Int),sl,iv (j:Int)],[vl (AX K),vl (.dT ks vs),vl (.str k),iv (most:Int),sl,iv (j:Int)],(by unfold tgN;exact AR rfl f5),sq (BW c1 rfl) (BW (orT_f c3 c4) rfl),j+1,iv (j:Int),rfl,by omega,by rw [e2],AS⟩)
  (FL.upTo 0 X.length) [vl (AX K),vl (.dT ks vs),vl (.str k),iv (most:Int),sl,none] ⟨0,none,rfl,Nat.zero_le _,rfl,Au⟩
 have all:Gd [vl (AX K),vl (.dT ks vs),vl (.str k),iv (most:Int),sl,none]=.ret (.t (.bl true)) [vl (AX K),vl (.dT ks vs),vl (.str k),iv (most:Int),sl,x5]:=by
  unfold Gd
  refine sq (BW (hSQ none).is rfl) (sq (BW c2 rfl) (sq (for1_ok (n:=X.length) (AK (hSQ none).len rfl) (by omega) ef) rfl))
 exact Hh (g:=Gd) all rfl
theorem clear_ok {i:Nat} {fs fs':FS} {ts:List T} (h0:fs[i]?=some (some (.own (.lst ts)))) (e:fs.set i (some (.own (.lst [])))=fs'):Bi (A0 GI (Aa i) Am) fs=.nx fs':=by
 have h5:GI (.rf i) [] fs=.ok (.t .non) fs':=by
  have:FL.putAt fs i (.lst [])=fs':=by
   unfold FL.putAt
   rw [h0]
   exact e
  simp only [GI,objO h0,this]
 have h6:A0 GI (Aa i) Am fs=.ok (.t .non) fs':=by
  unfold A0
  rw [CC h0]
  show (if (Dt fs (.rf i)).isSome=true then _ else _)=_
  rw [seq_rf h0,if_pos (show (some ts).isSome=true from rfl)]
  exact h5
 exact HI h6
theorem good (cStock:Addr):∀ ns:List Int,ns.length<=63->L2.CN ns<=2 ^ 20->∃ fs,f_law cStock [some (.val (.scr (ns.map T.int)))]=.ok (.t (.bl true)) fs:=by
 intro ns hlen hb
 have hbit:=fun i=>bits_get hb i
 obtain ⟨K,h1,h4,KO,hu,ek⟩:=kinds (ns:=ns) (hbit 0) (hbit 1)
 have W:=well h1 h4 KO hu
 have et:=table W.nd (by omega)
 have ec:=counts W
 have hC:Cts K ((prs K 7).map BO) ((prs K 7).map (gCnt K)) 7:=cts_of (fun k hk s h1 h2=>EH.mpr ⟨hk,h1,h2⟩) fun k m=>by
  have:=(EH.mp m).2.1
  omega
 obtain ⟨hs,ei⟩:=stock_init (C:=cStock) W
 have emx:∀ j:Nat,j < K.length->∃ v τ,DB [vl (.scr (ns.map T.int)),iv (j:Int),iv 4]=.ok (.t (.int v)) τ:=fun j hj=>mixed (ns:=ns) (Nat.le_refl _) hb (a4:=(j:Int)) (bb:=4) (by omega) (by omega) (by decide) (by decide)
 generalize T.scr (ns.map T.int)=sc at ek emx ⊢
 generalize (prs K 7).map BO=cks at ec hC
 generalize (prs K 7).map (gCnt K)=cvs at ec hC
 have all:∃ τ,b_law cStock [vl sc,none,none,none,none,none,none,none,none]=.ret (.t (.bl true)) τ:=by
  unfold b_law
  have s1:AY 1 (fz (Al (Az 1 Eo) (Ad (fz (Aa 0)) Am))) [vl sc,none,none,none,none,none,none,none,none]=.nx [vl sc,vl (.lst (K.map Ax)),none,none,none,none,none,none,none] :=
   C3 (GL (DD (Aj (Ay (Ab (t:=sc) rfl)) A8) rfl (by rw [show Dd _ _=[] from rfl];exact List.nodup_nil) ek (AZ rfl))) rfl
  have s2:AY 2 (fz (Al (Az 1 En) (Ad (fz (Aa 1)) Am))) [vl sc,vl (.lst (K.map Ax)),none,none,none,none,none,none,none]=.nx [vl sc,vl (.lst (K.map Ax)),vl (AX K),none,none,none,none,none,none] :=
   C3 (GL (DD (Aj (Ay (Ab (t:=.lst (K.map Ax)) rfl)) A8) rfl (by rw [show Dd _ _=[] from rfl];exact List.nodup_nil) et (AZ rfl))) rfl
  have s3:AY 3 (fz (Al (Az 1 Ee) (Ad (fz (Aa 1)) Am))) [vl sc,vl (.lst (K.map Ax)),vl (AX K),none,none,none,none,none,none]=.nx [vl sc,vl (.lst (K.map Ax)),vl (AX K),vl (.dT cks cvs),none,none,none,none,none] :=
   C3 (GL (DD (Aj (Ay (Ab (t:=.lst (K.map Ax)) rfl)) A8) rfl (by rw [show Dd _ _=[] from rfl];exact List.nodup_nil) ec (AZ rfl))) rfl
  have s4:AY 4 (fz (Al (makeR cStock 2 (Ci cStock)) (Ad (fz (Aa 1)) Am))) [vl sc,vl (.lst (K.map Ax)),vl (AX K),vl (.dT cks cvs),none,none,none,none,none]=.nx [vl sc,vl (.lst (K.map Ax)),vl (AX K),vl (.dT cks cvs),vl (Aw cStock K hs),none,none,none,none] :=
   C3 (GL (make_ok (Aj (Ay (Ab (t:=.lst (K.map Ax)) rfl)) A8) rfl rfl ei)) rfl
  obtain ⟨fs',ef,j,x5,x6,x7,x8,rfl,hj,hts,f5,f6,f7,f8⟩:=Bx (gt:=tgN 5) (body:=(AL (AY 6 (Ag EO (fz (Al (Az 3 DB) (Ad (fz (Aa 0)) (Ad (fz (Aa 5)) (Ad (gc (.int 4)) Am))))) (gc (.int 11))))
  (AL (AY 7 (Ag AF (gc (.int 1)) (Ag Cu (Ag EO (Aa 6) (gc (.int 2))) (Ag AH (AE CY (Ac (gc (.int 6)) (Ac (gc (.int 60)) Am))) (Ag Cu (Aa 6) (gc (.int 2)))))))
  (AL (AY 8 (Al (Az 3 (Dg cStock)) (Ad (fz (Aa 4)) (Ad (Ag AH (Ag AH (Aa 1) (fz (Aa 5))) (gc (.int 0))) (Ad (fz (Aa 7)) Am)))))
  (AL (ifS (DZ (Ew (fz (Al (Az 5 Dh) (Ad (fz (Aa 2)) (Ad (fz (Aa 3)) (Ad (Ag AH (Ag AH (Aa 1) (fz (Aa 5))) (gc (.int 0))) (Ad (fz (Aa 7)) (Ad (Aa 8) Am))))))))) (retS (gc (.bl false))) nxS)
  (AL (Bi (A0 GI (Aa 8) Am))
  (ifS (DZ (Ew (fz (Al (Az 5 Dh) (Ad (fz (Aa 2)) (Ad (fz (Aa 3)) (Ad (Ag AH (Ag AH (Aa 1) (fz (Aa 5))) (gc (.int 0))) (Ad (fz (Aa 7)) (Ad (fz (Al (Az 3 (Dg cStock)) (Ad (fz (Aa 4)) (Ad (Ag AH (Ag AH (Aa 1) (fz (Aa 5))) (gc (.int 0))) (Ad (fz (Aa 7)) Am))))) Am))))))))) (retS (gc (.bl false))) nxS)))))))
   (fun ts fs=>∃ (j:Nat) (x5 x6 x7 x8:Option Sl),fs=[vl sc,vl (.lst (K.map Ax)),vl (AX K),vl (.dT cks cvs),vl (Aw cStock K hs),x5,x6,x7,x8]/\j<=K.length/\ts=(FL.upTo 0 K.length).drop j/\Fre x5/\Fre x6/\Fre x7/\Fre x8)
   (fun t' ts fs h=>by
    obtain ⟨j,x5,x6,x7,x8,rfl,hj,hts,f5,f6,f7,f8⟩:=h
    have hlt:j < K.length:=by
     have:=congrArg List.length hts
     simp [FL.upTo] at this
     omega
    have hc:=List.drop_eq_getElem_cons (l:=FL.upTo 0 K.length) (i:=j) (by simp [FL.upTo];exact hlt)
    rw [hc] at hts
    obtain ⟨e1,e2⟩:=List.cons.inj hts
    have e3:t'=T.int (j:Int):=by
     rw [e1]
     simp [FL.upTo]
    subst e3
    obtain ⟨v,τm,em⟩:=emx j hlt
    obtain ⟨kd,hkd⟩:∃ kd,kd=K[j]:=⟨_,rfl⟩
    have mk:kd∈K:=by rw [hkd];exact List.getElem_mem hlt
    have q1:atI (K.map Ax) (j:Int)=some (Ax kd):=by
     rw [hkd]
     exact AD (by rw [List.getElem?_map,List.getElem?_eq_getElem hlt];rfl)
    have s6:AY 6 (Ag EO (fz (Al (Az 3 DB) (Ad (fz (Aa 0)) (Ad (fz (Aa 5)) (Ad (gc (.int 4)) Am))))) (gc (.int 11))) [vl sc,vl (.lst (K.map Ax)),vl (AX K),vl (.dT cks cvs),vl (Aw cStock K hs),iv (j:Int),x6,x7,x8]=.nx [vl sc,vl (.lst (K.map Ax)),vl (AX K),vl (.dT cks cvs),vl (Aw cStock K hs),iv (j:Int),iv (v / 11),x7,x8] :=
     Bs (Af (C7 (D3 (Aj (Ay (Ab (t:=sc) rfl)) (Aj (Ay (Ab (t:=.int (j:Int)) rfl)) (Aj AA A8))) rfl rfl em)) AA (FK ⟨by decide,by decide⟩)) (AR rfl f6)
    generalize v / 11=w at s6
    obtain ⟨most,hm,em7⟩:∃ most:Nat,most<=60/\Ag AF (gc (.int 1)) (Ag Cu (Ag EO (Aa 6) (gc (.int 2))) (Ag AH (AE CY (Ac (gc (.int 6)) (Ac (gc (.int 60)) Am))) (Ag Cu (Aa 6) (gc (.int 2))))) [vl sc,vl (.lst (K.map Ax)),vl (AX K),vl (.dT cks cvs),vl (Aw cStock K hs),iv (j:Int),iv w,x7,x8]=.ok (.t (.int (most:Int))) [vl sc,vl (.lst (K.map Ax)),vl (AX K),vl (.dT cks cvs),vl (Aw cStock K hs),iv (j:Int),iv w,x7,x8]:=by
     have hz:∃ z:Int,1<=z/\z<=60/\atI [T.int 6,T.int 60] (w % 2)=some (T.int z):=by
      have h:w % 2=((0:Nat):Int)∨w % 2=((1:Nat):Int):=by omega
      rcases h with h | h <;> rw [h]
      ·exact ⟨6,by decide,by decide,AD rfl⟩
      ·exact ⟨60,by decide,by decide,AD rfl⟩
     obtain ⟨z,z1,z2,ez⟩:=hz
     have hlo:=Int.emod_nonneg (w / 2) (show z≠0 by omega)
     have hhi:=Int.emod_lt_of_pos (w / 2) (show 0 < z by omega)
     refine ⟨(1+w / 2 % z).toNat,by omega,?_⟩
     have:((1+w / 2 % z).toNat:Int)=1+w / 2 % z:=by omega
     rw [this]
     exact Af AA (Af (Af (Ab rfl) AA (FK ⟨by decide,by decide⟩)) (Af (FR (ts:=[.int 6,.int 60]) (AK AA (AK AA rfl)) rfl (by decide)) (Af (Ab rfl) AA (Cw (by decide))) (BJ rfl ez)) (Cw (by omega))) Bh
    have s7:=Bs (i:=7) em7 (fs':=[vl sc,vl (.lst (K.map Ax)),vl (AX K),vl (.dT cks cvs),vl (Aw cStock K hs),iv (j:Int),iv w,iv (most:Int),x8]) (AR rfl f7)
    obtain ⟨τt,eth⟩:=things (C:=cStock) (hs:=hs) W mk (most:=most) (by omega)
    have hkn:∀ x8:Option Sl,Ag AH (Ag AH (Aa 1) (fz (Aa 5))) (gc (.int 0)) [vl sc,vl (.lst (K.map Ax)),vl (AX K),vl (.dT cks cvs),vl (Aw cStock K hs),iv (j:Int),iv w,iv (most:Int),x8]=.ok (.t (.str kd.1)) [vl sc,vl (.lst (K.map Ax)),vl (AX K),vl (.dT cks cvs),vl (Aw cStock K hs),iv (j:Int),iv w,iv (most:Int),x8]:=fun x8 =>
     Af (Af (Ab rfl) (Ay (Ab rfl)) (BJ rfl q1)) AA (BV (AD (j:=0) rfl))
    have eth1:∀ x8:Option Sl,Al (Az 3 (Dg cStock)) (Ad (fz (Aa 4)) (Ad (Ag AH (Ag AH (Aa 1) (fz (Aa 5))) (gc (.int 0))) (Ad (fz (Aa 7)) Am))) [vl sc,vl (.lst (K.map Ax)),vl (AX K),vl (.dT cks cvs),vl (Aw cStock K hs),iv (j:Int),iv w,iv (most:Int),x8]=.ok (.nw (.lst ((cat K kd.1 7).take most))) [vl sc,vl (.lst (K.map Ax)),vl (AX K),vl (.dT cks cvs),vl (Aw cStock K hs),iv (j:Int),iv w,iv (most:Int),x8]:=fun x8 =>
     DD (fs1:=[vl sc,vl (.lst (K.map Ax)),vl (AX K),vl (.dT cks cvs),vl (Aw cStock K hs),iv (j:Int),iv w,iv (most:Int),x8]) (Aj (Ay (Ab (t:=Aw cStock K hs) rfl)) (Aj (hkn x8) (Aj (Ay (Ab (t:=.int (most:Int)) rfl)) A8))) rfl (by rw [show Dd _ _=[] from rfl];exact List.nodup_nil) eth (AZ rfl)
    have s8:AY 8 (Al (Az 3 (Dg cStock)) (Ad (fz (Aa 4)) (Ad (Ag AH (Ag AH (Aa 1) (fz (Aa 5))) (gc (.int 0))) (Ad (fz (Aa 7)) Am)))) [vl sc,vl (.lst (K.map Ax)),vl (AX K),vl (.dT cks cvs),vl (Aw cStock K hs),iv (j:Int),iv w,iv (most:Int),x8]=.nx [vl sc,vl (.lst (K.map Ax)),vl (AX K),vl (.dT cks cvs),vl (Aw cStock K hs),iv (j:Int),iv w,iv (most:Int),some (.own (.lst ((cat K kd.1 7).take most)))]:=by
     refine setS_nw (eth1 x8) ?_
     cases x8 with
     | none=>rfl
     | some s=>cases s with
      | val t=>rfl
      | own o=>rfl
      | bor o=>exact f8.elim
    have hkm:kd.1∈K.map (·.1):=List.mem_map.mpr ⟨kd,mk,rfl⟩
    have er1:=right W hC hkm (most:=most) (by omega) (.inr rfl)
    have er2:=right W hC hkm (most:=most) (by omega) (.inl rfl)
    have c9:=DY (DW (C7 (DC (p:=5) (Fn:=Dh) (fs:=[vl sc,vl (.lst (K.map Ax)),vl (AX K),vl (.dT cks cvs),vl (Aw cStock K hs),iv (j:Int),iv w,iv (most:Int),some (.own (.lst ((cat K kd.1 7).take most)))]) (fs1:=[vl sc,vl (.lst (K.map Ax)),vl (AX K),vl (.dT cks cvs),vl (Aw cStock K hs),iv (j:Int),iv w,iv (most:Int),some (.own (.lst ((cat K kd.1 7).take most)))]) (fs':=[vl sc,vl (.lst (K.map Ax)),vl (AX K),vl (.dT cks cvs),vl (Aw cStock K hs),iv (j:Int),iv w,iv (most:Int),some (.own (.lst ((cat K kd.1 7).take most)))]) (Aj (Ay (Ab (i:=2) (t:=AX K) rfl)) (Aj (Ay (Ab (i:=3) (t:=.dT cks cvs) rfl)) (Aj (hkn _) (Aj (Ay (Ab (i:=7) (t:=.int (most:Int)) rfl)) (Aj (CC (i:=8) (o:=.lst ((cat K kd.1 7).take most)) rfl) A8))))) rfl (by rw [show Dd _ _=[8] from rfl];simp) er1 rfl)))
    have s10:=clear_ok (i:=8) (fs:=[vl sc,vl (.lst (K.map Ax)),vl (AX K),vl (.dT cks cvs),vl (Aw cStock K hs),iv (j:Int),iv w,iv (most:Int),some (.own (.lst ((cat K kd.1 7).take most)))]) (fs':=[vl sc,vl (.lst (K.map Ax)),vl (AX K),vl (.dT cks cvs),vl (Aw cStock K hs),iv (j:Int),iv w,iv (most:Int),some (.own (.lst []))]) rfl rfl
    have c11:=DY (DW (C7 (D3 (p:=5) (Fn:=Dh) (fs:=[vl sc,vl (.lst (K.map Ax)),vl (AX K),vl (.dT cks cvs),vl (Aw cStock K hs),iv (j:Int),iv w,iv (most:Int),some (.own (.lst []))]) (Aj (Ay (Ab (i:=2) (t:=AX K) rfl)) (Aj (Ay (Ab (i:=3) (t:=.dT cks cvs) rfl)) (Aj (hkn _) (Aj (Ay (Ab (i:=7) (t:=.int (most:Int)) rfl)) (Aj (GL (eth1 _)) A8))))) rfl rfl er2)))
    exact ⟨[vl sc,vl (.lst (K.map Ax)),vl (AX K),vl (.dT cks cvs),vl (Aw cStock K hs),iv (j:Int),x6,x7,x8],[vl sc,vl (.lst (K.map Ax)),vl (AX K),vl (.dT cks cvs),vl (Aw cStock K hs),iv (j:Int),iv w,iv (most:Int),some (.own (.lst []))],(by unfold tgN;exact AR rfl f5),sq s6 (sq s7 (sq s8 (sq (BW c9 rfl) (sq s10 (BW c11 rfl))))),j+1,iv (j:Int),iv w,iv (most:Int),some (.own (.lst [])),rfl,by omega,by rw [e2],AS,AS,AS,True.intro⟩)
   (FL.upTo 0 K.length) [vl sc,vl (.lst (K.map Ax)),vl (AX K),vl (.dT cks cvs),vl (Aw cStock K hs),none,none,none,none] ⟨0,none,none,none,none,rfl,Nat.zero_le _,rfl,Au,Au,Au,Au⟩
  have el:=D1 (f:=Aa 1) (fs:=[vl sc,vl (.lst (K.map Ax)),vl (AX K),vl (.dT cks cvs),vl (Aw cStock K hs),none,none,none,none]) (ts:=K.map Ax) (Ab rfl) (.inl rfl)
  rw [List.length_map] at el
  exact ⟨_,sq s1 (sq s2 (sq s3 (sq s4 (sq (for1_ok (n:=K.length) (AK el rfl) (by omega) ef) rfl))))⟩
 obtain ⟨τ,all⟩:=all
 exact ⟨τ.take 1,Hh (g:=b_law cStock) all rfl⟩
theorem us1 {α:Type} {us:List α} (e:us.length=1):∃ a,us=[a]:=by
 match us,e with
 | [a],_=>exact ⟨a,rfl⟩
theorem us2 {α:Type} {us:List α} (e:us.length=2):∃ a b,us=[a,b]:=by
 match us,e with
 | [a,b],_=>exact ⟨a,b,rfl⟩
theorem us3 {α:Type} {us:List α} (e:us.length=3):∃ a b c,us=[a,b,c]:=by
 match us,e with
 | [a,b,c],_=>exact ⟨a,b,c,rfl⟩
theorem us4 {α:Type} {us:List α} (e:us.length=4):∃ a b c d,us=[a,b,c,d]:=by
 match us,e with
 | [a,b,c,d],_=>exact ⟨a,b,c,d,rfl⟩
theorem us5 {α:Type} {us:List α} (e:us.length=5):∃ a b c d e,us=[a,b,c,d,e]:=by
 match us,e with
 | [a,b,c,d,e],_=>exact ⟨a,b,c,d,e,rfl⟩
def spLaw (K:PySem.W.Frag):Sp:=fun vs H Q _=>∃ (a:Addr) (ns:List Int),vs=[.ref a]/\SqL K H a (ns.map V.int)/\ns.length<=63/\CN ns<=2 ^ 20/\∀ H',Q (.bl true) H'
theorem rel_ints {K:PySem.W.Frag} {F:Wd} {H:Hp}:∀ (ns:List Int),Ao K F H (ns.map T.int) (ns.map V.int)
 | []=>by simp [Ao]
 | n :: ns=>by
  simp only [List.map_cons,Ao]
  exact ⟨_,_,rfl,by simp [Bj],rel_ints ns⟩
theorem law_sp {K:PySem.W.Frag} {Fn:FS->Out Rv} (good:∀ ns:List Int,ns.length<=63->CN ns<=2 ^ 20->∃ fs,Fn [some (.val (.scr (ns.map T.int)))]=.ok (.t (.bl true)) fs):∀ vs H Q E,spLaw K vs H Q E->spF K 1 Fn vs H Q E:=by
 intro vs H Q E ⟨a,ns,e,hs,hl,hb,k⟩
 subst e
 obtain ⟨fs,eg⟩:=good ns hl hb
 have key:∀ F:Wd,StL K F H a (ns.map V.int)->(∀ b,F b->H b≠none)->(∀ b,¬ F.p b)->spF K 1 Fn [.ref a] H Q E:=fun F st fd np=>by
  refine ⟨rfl,F,[some (.val (.scr (ns.map T.int)))],⟨[],?_,List.nodup_nil,(fun _ m=>nomatch m),fd,?_,fun b p=>(np b p).elim,fun b _ p=>np b p,(fun _ m=>nomatch m)⟩,?_⟩
  ·show AI K F H [some (.val (.scr (ns.map T.int)))] [some (.ref a)] []
   simp only [AI]
   exact ⟨_,_,rfl,by simp only [Bj];exact ⟨a,_,rfl,st,rel_ints ns⟩,by first | exact ⟨rfl,rfl⟩ | trivial⟩
  ·intro i o e
   cases i with
   | zero=>cases e
   | succ i=>simp at e
  ·rw [eg]
   intro F' H' u σ' _ q
   obtain ⟨L,L',_,⟨_,qu⟩,_⟩:=q
   have:u=.bl true:=qu
   subst this
   exact k H'
 rcases hs with hs | hs
 ·exact key ⟨fun b=>b=a,fun _=>False⟩ (.inl ⟨rfl,hs⟩) (fun b e=>by
   have e':b=a:=e
   subst e'
   rcases hs with z | ⟨o,z⟩ <;> (rw [z];exact fun q=>nomatch q)) fun _ p=>p
 ·exact key ⟨fun _=>False,fun _=>False⟩ (.inr hs) (fun b e=>e.elim) fun _ p=>p
theorem all_mk {l:PySem.W.OpenLaw} {w:World} {K:PySem.W.Frag} {h:Heap} {mg:Str->Option Value} {fa:Addr} {cStock:Addr} (X:K.In h) (G:h.Ns mainGlobals mg) (hfa:mg "law"=some (.ref fa))
  {f0:Addr} {od0 an0:Option Addr} {sl0:Array (Option Value)} {oc0 kV0 dc0 pm0 cd0 ct0:Value}
  {f1:Addr} {od1 an1:Option Addr} {sl1:Array (Option Value)} {oc1 kV1 dc1 pm1 cd1 ct1:Value}
  {f2:Addr} {od2 an2:Option Addr} {sl2:Array (Option Value)} {oc2 kV2 dc2 pm2 cd2 ct2:Value}
  {f3:Addr} {od3 an3:Option Addr} {sl3:Array (Option Value)} {oc3 kV3 dc3 pm3 cd3 ct3:Value}
  {f4:Addr} {od4 an4:Option Addr} {sl4:Array (Option Value)} {oc4 kV4 dc4 pm4 cd4 ct4:Value}
  {f5:Addr} {od5 an5:Option Addr} {sl5:Array (Option Value)} {oc5 kV5 dc5 pm5 cd5 ct5:Value}
  {f6:Addr} {od6 an6:Option Addr} {sl6:Array (Option Value)} {oc6 kV6 dc6 pm6 cd6 ct6:Value}
  {f7:Addr} {od7 an7:Option Addr} {sl7:Array (Option Value)} {oc7 kV7 dc7 pm7 cd7 ct7:Value}
  {f8:Addr} {od8 an8:Option Addr} {sl8:Array (Option Value)} {oc8 kV8 dc8 pm8 cd8 ct8:Value}
  {f9:Addr} {od9 an9:Option Addr} {sl9:Array (Option Value)} {oc9 kV9 dc9 pm9 cd9 ct9:Value}
  {f10:Addr} {od10 an10:Option Addr} {sl10:Array (Option Value)} {oc10 kV10 dc10 pm10 cd10 ct10:Value}
  {f11:Addr} {od11 an11:Option Addr} {sl11:Array (Option Value)} {oc11 kV11 dc11 pm11 cd11 ct11:Value}
  {f12:Addr} {od12 an12:Option Addr} {sl12:Array (Option Value)} {oc12 kV12 dc12 pm12 cd12 ct12:Value}
  {f13:Addr} {od13 an13:Option Addr} {sl13:Array (Option Value)} {oc13 kV13 dc13 pm13 cd13 ct13:Value}
  {f14:Addr} {od14 an14:Option Addr} {sl14:Array (Option Value)} {oc14 kV14 dc14 pm14 cd14 ct14:Value}
  {f15:Addr} {od15 an15:Option Addr} {sl15:Array (Option Value)} {oc15 kV15 dc15 pm15 cd15 ct15:Value}
  {f16:Addr} {od16 an16:Option Addr} {sl16:Array (Option Value)} {oc16 kV16 dc16 pm16 cd16 ct16:Value}
  {f17:Addr} {od17 an17:Option Addr} {sl17:Array (Option Value)} {oc17 kV17 dc17 pm17 cd17 ct17:Value}
  {f18:Addr} {od18 an18:Option Addr} {sl18:Array (Option Value)} {oc18 kV18 dc18 pm18 cd18 ct18:Value}
  {f19:Addr} {od19 an19:Option Addr} {sl19:Array (Option Value)} {oc19 kV19 dc19 pm19 cd19 ct19:Value}
  {f20:Addr} {od20 an20:Option Addr} {sl20:Array (Option Value)} {oc20 kV20 dc20 pm20 cd20 ct20:Value}
  {f21:Addr} {od21 an21:Option Addr} {sl21:Array (Option Value)} {oc21 kV21 dc21 pm21 cd21 ct21:Value}
  {f22:Addr} {od22 an22:Option Addr} {sl22:Array (Option Value)} {oc22 kV22 dc22 pm22 cd22 ct22:Value}
  {f23:Addr} {od23 an23:Option Addr} {sl23:Array (Option Value)} {oc23 kV23 dc23 pm23 cd23 ct23:Value}
  {f24:Addr} {od24 an24:Option Addr} {sl24:Array (Option Value)} {oc24 kV24 dc24 pm24 cd24 ct24:Value}
  {f25:Addr} {od25 an25:Option Addr} {sl25:Array (Option Value)} {oc25 kV25 dc25 pm25 cd25 ct25:Value}
  {f26:Addr} {od26 an26:Option Addr} {sl26:Array (Option Value)} {oc26 kV26 dc26 pm26 cd26 ct26:Value}
  {f27:Addr} {od27 an27:Option Addr} {sl27:Array (Option Value)} {oc27 kV27 dc27 pm27 cd27 ct27:Value}
  {t_LETTERS:Tok}
  {t_MOST_KINDS:Tok}
  {t_MOST_LETTERS:Tok}
  {t_MOST_MAKERS:Tok}
  {t_MOST_PARTS:Tok}
  {t_MOST_SIZE:Tok}
  (aC_Stock:PySem.W.nsIn K mainGlobals "Stock"=some (some (.ref cStock)))
  (pg_Stock:PySem.W.plainGet K cStock Str.empty=true)
  (hd_Stock:PySem.W.hasDictIn K cStock=true)
  (po_Stock:PySem.W.plainOver K cStock=true)
  (sa_Stock:PySem.W.findIn K (.ref cStock) "__setattr__"=some (some (.builtin "object.__setattr__")))
  (mk_Stock:PySem.W.makesIn K cStock=true)
  (kc_Stock:PySem.W.keepIn K (.ref cStock)=true)
  (a0:PySem.W.nsIn K mainGlobals "_law_digits"=some (some (.ref f0)))
  (l0:K.lookup f0=some ⟨oc0,od0,.func (PySem.W.fnOf "_law_digits" "_law_digits" (A1 D8) (AW D8) (Ar D8) .none kV0 dc0 pm0 an0 cd0 ct0),sl0⟩) (c0:PySem.W.codeIn K cd0 "_law_digits"=true) (k0:PySem.W.keepIn K (.ref f0)=true)
  (a1:PySem.W.nsIn K mainGlobals "_law_names"=some (some (.ref f1)))
  (l1:K.lookup f1=some ⟨oc1,od1,.func (PySem.W.fnOf "_law_names" "_law_names" (A1 E6) (AW E6) (Ar E6) .none kV1 dc1 pm1 an1 cd1 ct1),sl1⟩) (c1:PySem.W.codeIn K cd1 "_law_names"=true) (k1:PySem.W.keepIn K (.ref f1)=true)
  (a2:PySem.W.nsIn K mainGlobals "_law_cell_at"=some (some (.ref f2)))
  (l2:K.lookup f2=some ⟨oc2,od2,.func (PySem.W.fnOf "_law_cell_at" "_law_cell_at" (A1 DG) (AW DG) (Ar DG) .none kV2 dc2 pm2 an2 cd2 ct2),sl2⟩) (c2:PySem.W.codeIn K cd2 "_law_cell_at"=true) (k2:PySem.W.keepIn K (.ref f2)=true)
  (a3:PySem.W.nsIn K mainGlobals "_law_parts"=some (some (.ref f3)))
  (l3:K.lookup f3=some ⟨oc3,od3,.func (PySem.W.fnOf "_law_parts" "_law_parts" (A1 E5) (AW E5) (Ar E5) .none kV3 dc3 pm3 an3 cd3 ct3),sl3⟩) (c3:PySem.W.codeIn K cd3 "_law_parts"=true) (k3:PySem.W.keepIn K (.ref f3)=true)
  (a4:PySem.W.nsIn K mainGlobals "_law_kinds"=some (some (.ref f4)))
  (l4:K.lookup f4=some ⟨oc4,od4,.func (PySem.W.fnOf "_law_kinds" "_law_kinds" (A1 E8) (AW E8) (Ar E8) .none kV4 dc4 pm4 an4 cd4 ct4),sl4⟩) (c4:PySem.W.codeIn K cd4 "_law_kinds"=true) (k4:PySem.W.keepIn K (.ref f4)=true)
  (a5:PySem.W.nsIn K mainGlobals "_law_table"=some (some (.ref f5)))
  (l5:K.lookup f5=some ⟨oc5,od5,.func (PySem.W.fnOf "_law_table" "_law_table" (A1 E2) (AW E2) (Ar E2) .none kV5 dc5 pm5 an5 cd5 ct5),sl5⟩) (c5:PySem.W.codeIn K cd5 "_law_table"=true) (k5:PySem.W.keepIn K (.ref f5)=true)
  (a6:PySem.W.nsIn K mainGlobals "_law_of_maker"=some (some (.ref f6)))
  (l6:K.lookup f6=some ⟨oc6,od6,.func (PySem.W.fnOf "_law_of_maker" "_law_of_maker" (A1 C4) (AW C4) (Ar C4) .none kV6 dc6 pm6 an6 cd6 ct6),sl6⟩) (c6:PySem.W.codeIn K cd6 "_law_of_maker"=true) (k6:PySem.W.keepIn K (.ref f6)=true)
  (a7:PySem.W.nsIn K mainGlobals "_law_counts"=some (some (.ref f7)))
  (l7:K.lookup f7=some ⟨oc7,od7,.func (PySem.W.fnOf "_law_counts" "_law_counts" (A1 D9) (AW D9) (Ar D9) .none kV7 dc7 pm7 an7 cd7 ct7),sl7⟩) (c7:PySem.W.codeIn K cd7 "_law_counts"=true) (k7:PySem.W.keepIn K (.ref f7)=true)
  (a8:PySem.W.nsIn K mainGlobals "is_name"=some (some (.ref f8)))
  (l8:K.lookup f8=some ⟨oc8,od8,.func (PySem.W.fnOf "is_name" "is_name" (A1 D6) (AW D6) (Ar D6) .none kV8 dc8 pm8 an8 cd8 ct8),sl8⟩) (c8:PySem.W.codeIn K cd8 "is_name"=true) (k8:PySem.W.keepIn K (.ref f8)=true)
  (a9:PySem.W.nsIn K mainGlobals "check_kinds"=some (some (.ref f9)))
  (l9:K.lookup f9=some ⟨oc9,od9,.func (PySem.W.fnOf "check_kinds" "check_kinds" (A1 Ck) (AW Ck) (Ar Ck) .none kV9 dc9 pm9 an9 cd9 ct9),sl9⟩) (c9:PySem.W.codeIn K cd9 "check_kinds"=true) (k9:PySem.W.keepIn K (.ref f9)=true)
  (a10:PySem.W.nsIn K mainGlobals "check_maker"=some (some (.ref f10)))
  (l10:K.lookup f10=some ⟨oc10,od10,.func (PySem.W.fnOf "check_maker" "check_maker" (A1 Cj) (AW Cj) (Ar Cj) .none kV10 dc10 pm10 an10 cd10 ct10),sl10⟩) (c10:PySem.W.codeIn K cd10 "check_maker"=true) (k10:PySem.W.keepIn K (.ref f10)=true)
  (a11:PySem.W.nsIn K mainGlobals "check_ground"=some (some (.ref f11)))
  (l11:K.lookup f11=some ⟨oc11,od11,.func (PySem.W.fnOf "check_ground" "check_ground" (A1 Ca) (AW Ca) (Ar Ca) .none kV11 dc11 pm11 an11 cd11 ct11),sl11⟩) (c11:PySem.W.codeIn K cd11 "check_ground"=true) (k11:PySem.W.keepIn K (.ref f11)=true)
  (a12:PySem.W.nsIn K mainGlobals "check_makers"=some (some (.ref f12)))
  (l12:K.lookup f12=some ⟨oc12,od12,.func (PySem.W.fnOf "check_makers" "check_makers" (A1 BZ) (AW BZ) (Ar BZ) .none kV12 dc12 pm12 an12 cd12 ct12),sl12⟩) (c12:PySem.W.codeIn K cd12 "check_makers"=true) (k12:PySem.W.keepIn K (.ref f12)=true)
  (a13:PySem.W.findIn K (.ref cStock) "__init__"=some (some (.ref f13))) (i13:PySem.W.isFn K (.ref f13)=true)
  (l13:K.lookup f13=some ⟨oc13,od13,.func (PySem.W.fnOf "__init__" "Stock.__init__" (A1 CJ) (AW CJ) (Ar CJ) .none kV13 dc13 pm13 an13 cd13 ct13),sl13⟩) (c13:PySem.W.codeIn K cd13 "Stock.__init__"=true) (k13:PySem.W.keepIn K (.ref f13)=true)
  (a14:PySem.W.findIn K (.ref cStock) "kinds"=some (some (.ref f14))) (i14:PySem.W.isFn K (.ref f14)=true)
  (l14:K.lookup f14=some ⟨oc14,od14,.func (PySem.W.fnOf "kinds" "Stock.kinds" (A1 Cn) (AW Cn) (Ar Cn) .none kV14 dc14 pm14 an14 cd14 ct14),sl14⟩) (c14:PySem.W.codeIn K cd14 "Stock.kinds"=true) (k14:PySem.W.keepIn K (.ref f14)=true)
  (a15:PySem.W.findIn K (.ref cStock) "makers"=some (some (.ref f15))) (i15:PySem.W.isFn K (.ref f15)=true)
  (l15:K.lookup f15=some ⟨oc15,od15,.func (PySem.W.fnOf "makers" "Stock.makers" (A1 Cb) (AW Cb) (Ar Cb) .none kV15 dc15 pm15 an15 cd15 ct15),sl15⟩) (c15:PySem.W.codeIn K cd15 "Stock.makers"=true) (k15:PySem.W.keepIn K (.ref f15)=true)
  (a16:PySem.W.nsIn K mainGlobals "rows_of_size"=some (some (.ref f16)))
  (l16:K.lookup f16=some ⟨oc16,od16,.func (PySem.W.fnOf "rows_of_size" "rows_of_size" (A1 BY) (AW BY) (Ar BY) .none kV16 dc16 pm16 an16 cd16 ct16),sl16⟩) (c16:PySem.W.codeIn K cd16 "rows_of_size"=true) (k16:PySem.W.keepIn K (.ref f16)=true)
  (a17:PySem.W.findIn K (.ref cStock) "parts"=some (some (.ref f17))) (i17:PySem.W.isFn K (.ref f17)=true)
  (l17:K.lookup f17=some ⟨oc17,od17,.func (PySem.W.fnOf "parts" "Stock.parts" (A1 Cm) (AW Cm) (Ar Cm) .none kV17 dc17 pm17 an17 cd17 ct17),sl17⟩) (c17:PySem.W.codeIn K cd17 "Stock.parts"=true) (k17:PySem.W.keepIn K (.ref f17)=true)
  (a18:PySem.W.nsIn K mainGlobals "things_of_size"=some (some (.ref f18)))
  (l18:K.lookup f18=some ⟨oc18,od18,.func (PySem.W.fnOf "things_of_size" "things_of_size" (A1 By) (AW By) (Ar By) .none kV18 dc18 pm18 an18 cd18 ct18),sl18⟩) (c18:PySem.W.codeIn K cd18 "things_of_size"=true) (k18:PySem.W.keepIn K (.ref f18)=true)
  (a19:PySem.W.nsIn K mainGlobals "things"=some (some (.ref f19)))
  (l19:K.lookup f19=some ⟨oc19,od19,.func (PySem.W.fnOf "things" "things" (A1 E1) (AW E1) (Ar E1) .none kV19 dc19 pm19 an19 cd19 ct19),sl19⟩) (c19:PySem.W.codeIn K cd19 "things"=true) (k19:PySem.W.keepIn K (.ref f19)=true)
  (a20:PySem.W.nsIn K mainGlobals "_law_mixed"=some (some (.ref f20)))
  (l20:K.lookup f20=some ⟨oc20,od20,.func (PySem.W.fnOf "_law_mixed" "_law_mixed" (A1 E7) (AW E7) (Ar E7) .none kV20 dc20 pm20 an20 cd20 ct20),sl20⟩) (c20:PySem.W.codeIn K cd20 "_law_mixed"=true) (k20:PySem.W.keepIn K (.ref f20)=true)
  (a21:PySem.W.nsIn K mainGlobals "_law_shape"=some (some (.ref f21)))
  (l21:K.lookup f21=some ⟨oc21,od21,.func (PySem.W.fnOf "_law_shape" "_law_shape" (A1 E3) (AW E3) (Ar E3) .none kV21 dc21 pm21 an21 cd21 ct21),sl21⟩) (c21:PySem.W.codeIn K cd21 "_law_shape"=true) (k21:PySem.W.keepIn K (.ref f21)=true)
  (a22:PySem.W.nsIn K mainGlobals "_law_is_thing"=some (some (.ref f22)))
  (l22:K.lookup f22=some ⟨oc22,od22,.func (PySem.W.fnOf "_law_is_thing" "_law_is_thing" (A1 C5) (AW C5) (Ar C5) .none kV22 dc22 pm22 an22 cd22 ct22),sl22⟩) (c22:PySem.W.codeIn K cd22 "_law_is_thing"=true) (k22:PySem.W.keepIn K (.ref f22)=true)
  (a23:PySem.W.nsIn K mainGlobals "_law_size"=some (some (.ref f23)))
  (l23:K.lookup f23=some ⟨oc23,od23,.func (PySem.W.fnOf "_law_size" "_law_size" (A1 Gj) (AW Gj) (Ar Gj) .none kV23 dc23 pm23 an23 cd23 ct23),sl23⟩) (c23:PySem.W.codeIn K cd23 "_law_size"=true) (k23:PySem.W.keepIn K (.ref f23)=true)
  (a24:PySem.W.nsIn K mainGlobals "_law_within"=some (some (.ref f24)))
  (l24:K.lookup f24=some ⟨oc24,od24,.func (PySem.W.fnOf "_law_within" "_law_within" (A1 D7) (AW D7) (Ar D7) .none kV24 dc24 pm24 an24 cd24 ct24),sl24⟩) (c24:PySem.W.codeIn K cd24 "_law_within"=true) (k24:PySem.W.keepIn K (.ref f24)=true)
  (a25:PySem.W.nsIn K mainGlobals "_law_ahead"=some (some (.ref f25)))
  (l25:K.lookup f25=some ⟨oc25,od25,.func (PySem.W.fnOf "_law_ahead" "_law_ahead" (A1 E9) (AW E9) (Ar E9) .none kV25 dc25 pm25 an25 cd25 ct25),sl25⟩) (c25:PySem.W.codeIn K cd25 "_law_ahead"=true) (k25:PySem.W.keepIn K (.ref f25)=true)
  (a26:PySem.W.nsIn K mainGlobals "_law_right"=some (some (.ref f26)))
  (l26:K.lookup f26=some ⟨oc26,od26,.func (PySem.W.fnOf "_law_right" "_law_right" (A1 E4) (AW E4) (Ar E4) .none kV26 dc26 pm26 an26 cd26 ct26),sl26⟩) (c26:PySem.W.codeIn K cd26 "_law_right"=true) (k26:PySem.W.keepIn K (.ref f26)=true)
  (a27:PySem.W.nsIn K mainGlobals "law"=some (some (.ref f27)))
  (l27:K.lookup f27=some ⟨oc27,od27,.func (PySem.W.fnOf "law" "law" (A1 s_law) (AW s_law) (Ar s_law) .none kV27 dc27 pm27 an27 cd27 ct27),sl27⟩) (c27:PySem.W.codeIn K cd27 "law"=true) (k27:PySem.W.keepIn K (.ref f27)=true)
  (z_all:PySem.W.nsIn K mainGlobals "all"=some none)
  (z_int:PySem.W.nsIn K mainGlobals "int"=some none)
  (z_isinstance:PySem.W.nsIn K mainGlobals "isinstance"=some none)
  (z_len:PySem.W.nsIn K mainGlobals "len"=some none)
  (z_list:PySem.W.nsIn K mainGlobals "list"=some none)
  (z_min:PySem.W.nsIn K mainGlobals "min"=some none)
  (z_range:PySem.W.nsIn K mainGlobals "range"=some none)
  (z_reversed:PySem.W.nsIn K mainGlobals "reversed"=some none)
  (z_str:PySem.W.nsIn K mainGlobals "str"=some none)
  (z_sum:PySem.W.nsIn K mainGlobals "sum"=some none)
  (z_tuple:PySem.W.nsIn K mainGlobals "tuple"=some none)
  (z_zip:PySem.W.nsIn K mainGlobals "zip"=some none)
  (g_LETTERS:PySem.W.nsIn K mainGlobals "LETTERS"=some (some (.str ("abcdefghijklmnopqrstuvwxyz":Str) t_LETTERS)))
  (g_MOST_KINDS:PySem.W.nsIn K mainGlobals "MOST_KINDS"=some (some (.int 4 t_MOST_KINDS)))
  (g_MOST_LETTERS:PySem.W.nsIn K mainGlobals "MOST_LETTERS"=some (some (.int 12 t_MOST_LETTERS)))
  (g_MOST_MAKERS:PySem.W.nsIn K mainGlobals "MOST_MAKERS"=some (some (.int 4 t_MOST_MAKERS)))
  (g_MOST_PARTS:PySem.W.nsIn K mainGlobals "MOST_PARTS"=some (some (.int 2 t_MOST_PARTS)))
  (g_MOST_SIZE:PySem.W.nsIn K mainGlobals "MOST_SIZE"=some (some (.int 7 t_MOST_SIZE)))
  (n_Stock_home_by_maker:PySem.W.findIn K (.ref cStock) "home_by_maker"=some none)
  (n_Stock_makers_by_kind:PySem.W.findIn K (.ref cStock) "makers_by_kind"=some none)
  (n_Stock_parts_by_maker:PySem.W.findIn K (.ref cStock) "parts_by_maker"=some none) :
  ∃ fd:FuncData,(∀ (s:Shared) (v:Value),BindsTo s fd ⟨[v],[]⟩ [("_law_script",v)])/\∀ base:Heap,K.In base->base.Ns mainGlobals mg->Ds l.prog w K mg base CX0 125 fa fd ["_law_script"] (spLaw K):=by
 have e:=hfa.symm.trans (PySem.W.mg_of X G a27)
 cases e
 have T:Tx K mg cStock:=⟨PySem.W.mg_none_of X G z_all,PySem.W.mg_none_of X G z_int,PySem.W.mg_none_of X G z_isinstance,PySem.W.mg_none_of X G z_len,PySem.W.mg_none_of X G z_list,PySem.W.mg_none_of X G z_min,PySem.W.mg_none_of X G z_range,PySem.W.mg_none_of X G z_reversed,PySem.W.mg_none_of X G z_str,PySem.W.mg_none_of X G z_sum,PySem.W.mg_none_of X G z_tuple,PySem.W.mg_none_of X G z_zip,⟨_,PySem.W.mg_of X G g_LETTERS⟩,⟨_,PySem.W.mg_of X G g_MOST_KINDS⟩,⟨_,PySem.W.mg_of X G g_MOST_LETTERS⟩,⟨_,PySem.W.mg_of X G g_MOST_MAKERS⟩,⟨_,PySem.W.mg_of X G g_MOST_PARTS⟩,⟨_,PySem.W.mg_of X G g_MOST_SIZE⟩,⟨pg_Stock,hd_Stock,po_Stock,sa_Stock⟩,n_Stock_home_by_maker,n_Stock_makers_by_kind,n_Stock_parts_by_maker⟩
 have F0:=BI (st:=D8) l0 c0 k0
 have B0:=F0.binds (ps:=["_law_script","_law_at","_law_parts_here"]) fun _ _ _ _ _ _ us hl=>by obtain ⟨a,b,c,rfl⟩:=us3 hl;rfl
 have F1:=BI (st:=E6) l1 c1 k1
 have B1:=F1.binds (ps:=["_law_cell","_law_count"]) fun _ _ _ _ _ _ us hl=>by obtain ⟨a,b,rfl⟩:=us2 hl;rfl
 have F2:=BI (st:=DG) l2 c2 k2
 have B2:=F2.binds (ps:=["_law_script","_law_k"]) fun _ _ _ _ _ _ us hl=>by obtain ⟨a,b,rfl⟩:=us2 hl;rfl
 have F3:=BI (st:=E5) l3 c3 k3
 have B3:=F3.binds (ps:=["_law_names_here","_law_at","_law_first","_law_purse"]) fun _ _ _ _ _ _ us hl=>by obtain ⟨a,b,c,d,rfl⟩:=us4 hl;rfl
 have F4:=BI (st:=E8) l4 c4 k4
 have B4:=F4.binds (ps:=["_law_script"]) fun _ _ _ _ _ _ us hl=>by obtain ⟨a,rfl⟩:=us1 hl;rfl
 have F5:=BI (st:=E2) l5 c5 k5
 have B5:=F5.binds (ps:=["_law_kinds_here"]) fun _ _ _ _ _ _ us hl=>by obtain ⟨a,rfl⟩:=us1 hl;rfl
 have F6:=BI (st:=C4) l6 c6 k6
 have B6:=F6.binds (ps:=["_law_counts_here","_law_parts_here","_law_many"]) fun _ _ _ _ _ _ us hl=>by obtain ⟨a,b,c,rfl⟩:=us3 hl;rfl
 have F7:=BI (st:=D9) l7 c7 k7
 have B7:=F7.binds (ps:=["_law_kinds_here"]) fun _ _ _ _ _ _ us hl=>by obtain ⟨a,rfl⟩:=us1 hl;rfl
 have F8:=BI (st:=D6) l8 c8 k8
 have B8:=F8.binds (ps:=["text"]) fun _ _ _ _ _ _ us hl=>by obtain ⟨a,rfl⟩:=us1 hl;rfl
 have F9:=BI (st:=Ck) l9 c9 k9
 have B9:=F9.binds (ps:=["kinds"]) fun _ _ _ _ _ _ us hl=>by obtain ⟨a,rfl⟩:=us1 hl;rfl
 have F10:=BI (st:=Cj) l10 c10 k10
 have B10:=F10.binds (ps:=["maker","parts","makers_ahead","all_kinds"]) fun _ _ _ _ _ _ us hl=>by obtain ⟨a,b,c,d,rfl⟩:=us4 hl;rfl
 have F11:=BI (st:=Ca) l11 c11 k11
 have B11:=F11.binds (ps:=["maker","parts","kinds_above"]) fun _ _ _ _ _ _ us hl=>by obtain ⟨a,b,c,rfl⟩:=us3 hl;rfl
 have F12:=BI (st:=BZ) l12 c12 k12
 have B12:=F12.binds (ps:=["kinds"]) fun _ _ _ _ _ _ us hl=>by obtain ⟨a,rfl⟩:=us1 hl;rfl
 have F13:=BI (st:=CJ) l13 c13 k13
 have B13:=F13.binds (ps:=["self","kinds"]) fun _ _ _ _ _ _ us hl=>by obtain ⟨a,b,rfl⟩:=us2 hl;rfl
 have F14:=BI (st:=Cn) l14 c14 k14
 have B14:=F14.binds (ps:=["self"]) fun _ _ _ _ _ _ us hl=>by obtain ⟨a,rfl⟩:=us1 hl;rfl
 have F15:=BI (st:=Cb) l15 c15 k15
 have B15:=F15.binds (ps:=["self","kind"]) fun _ _ _ _ _ _ us hl=>by obtain ⟨a,b,rfl⟩:=us2 hl;rfl
 have F16:=BI (st:=BY) l16 c16 k16
 have B16:=F16.binds (ps:=["kinds","whole","made"]) fun _ _ _ _ _ _ us hl=>by obtain ⟨a,b,c,rfl⟩:=us3 hl;rfl
 have F17:=BI (st:=Cm) l17 c17 k17
 have B17:=F17.binds (ps:=["self","maker"]) fun _ _ _ _ _ _ us hl=>by obtain ⟨a,b,rfl⟩:=us2 hl;rfl
 have F18:=BI (st:=By) l18 c18 k18
 have B18:=F18.binds (ps:=["stock","kind","whole","made"]) fun _ _ _ _ _ _ us hl=>by obtain ⟨a,b,c,d,rfl⟩:=us4 hl;rfl
 have F19:=BI (st:=E1) l19 c19 k19
 have B19:=F19.binds (ps:=["stock","kind","most"]) fun _ _ _ _ _ _ us hl=>by obtain ⟨a,b,c,rfl⟩:=us3 hl;rfl
 have F20:=BI (st:=E7) l20 c20 k20
 have B20:=F20.binds (ps:=["_law_script","_law_at","_law_many"]) fun _ _ _ _ _ _ us hl=>by obtain ⟨a,b,c,rfl⟩:=us3 hl;rfl
 have F21:=BI (st:=E3) l21 c21 k21
 have B21:=F21.binds (ps:=["_law_thing"]) fun _ _ _ _ _ _ us hl=>by obtain ⟨a,rfl⟩:=us1 hl;rfl
 have F22:=BI (st:=C5) l22 c22 k22
 have B22:=F22.binds (ps:=["_law_table_here","_law_kind","_law_thing"]) fun _ _ _ _ _ _ us hl=>by obtain ⟨a,b,c,rfl⟩:=us3 hl;rfl
 have F23:=BI (st:=Gj) l23 c23 k23
 have B23:=F23.binds (ps:=["_law_thing"]) fun _ _ _ _ _ _ us hl=>by obtain ⟨a,rfl⟩:=us1 hl;rfl
 have F24:=BI (st:=D7) l24 c24 k24
 have B24:=F24.binds (ps:=["_law_table_here","_law_counts_here","_law_kind","_law_thing"]) fun _ _ _ _ _ _ us hl=>by obtain ⟨a,b,c,d,rfl⟩:=us4 hl;rfl
 have F25:=BI (st:=E9) l25 c25 k25
 have B25:=F25.binds (ps:=["_law_table_here","_law_counts_here","_law_kind","_law_thing"]) fun _ _ _ _ _ _ us hl=>by obtain ⟨a,b,c,d,rfl⟩:=us4 hl;rfl
 have F26:=BI (st:=E4) l26 c26 k26
 have B26:=F26.binds (ps:=["_law_table_here","_law_counts_here","_law_kind","_law_most","_law_got"]) fun _ _ _ _ _ _ us hl=>by obtain ⟨a,b,c,d,e,rfl⟩:=us5 hl;rfl
 have F27:=BI (st:=s_law) l27 c27 k27
 have B27:=F27.binds (ps:=["_law_script"]) fun _ _ _ _ _ _ us hl=>by obtain ⟨a,rfl⟩:=us1 hl;rfl
 refine ⟨PySem.W.fnOf "law" "law" (A1 s_law) (AW s_law) (Ar s_law) .none kV27 dc27 pm27 an27 cd27 ct27,fun s v=>.of_eq rfl,fun base _ _=>?_⟩
 have O0:=ok_Ldigits (P:=l.prog) (w:=w) (base:=base) F0 T
 have G0:FnAt l.prog w K mg base CX0 "_law_digits" 1 ["_law_script","_law_at","_law_parts_here"] (spF K 3 Dn):=⟨_,_,O0,PySem.W.mg_of X G a0,k0,B0⟩
 have O1:=ok_Lnames (P:=l.prog) (w:=w) (base:=base) F1 T
 have G1:FnAt l.prog w K mg base CX0 "_law_names" 1 ["_law_cell","_law_count"] (spF K 2 CM):=⟨_,_,O1,PySem.W.mg_of X G a1,k1,B1⟩
 have O2:=ok_Lcell_at (P:=l.prog) (w:=w) (base:=base) F2 T
 have G2:FnAt l.prog w K mg base CX0 "_law_cell_at" 1 ["_law_script","_law_k"] (spF K 2 BL):=⟨_,_,O2,PySem.W.mg_of X G a2,k2,B2⟩
 have O3:=ok_Lparts (P:=l.prog) (w:=w) (base:=base) F3 T
 have G3:FnAt l.prog w K mg base CX0 "_law_parts" 1 ["_law_names_here","_law_at","_law_first","_law_purse"] (spF K 4 Cg):=⟨_,_,O3,PySem.W.mg_of X G a3,k3,B3⟩
 have O4:=ok_Lkinds (P:=l.prog) (w:=w) (base:=base) F4 T G3 G2 G1 G0
 have G4:FnAt l.prog w K mg base CX0 "_law_kinds" 2 ["_law_script"] (spF K 1 Eo):=⟨_,_,O4,PySem.W.mg_of X G a4,k4,B4⟩
 have O5:=ok_Ltable (P:=l.prog) (w:=w) (base:=base) F5 T
 have G5:FnAt l.prog w K mg base CX0 "_law_table" 1 ["_law_kinds_here"] (spF K 1 En):=⟨_,_,O5,PySem.W.mg_of X G a5,k5,B5⟩
 have O6:=ok_Lof_maker (P:=l.prog) (w:=w) (base:=base) F6 T
 have G6:FnAt l.prog w K mg base CX0 "_law_of_maker" 1 ["_law_counts_here","_law_parts_here","_law_many"] (spF K 3 Be):=⟨_,_,O6,PySem.W.mg_of X G a6,k6,B6⟩
 have O7:=ok_Lcounts (P:=l.prog) (w:=w) (base:=base) F7 T G6
 have G7:FnAt l.prog w K mg base CX0 "_law_counts" 2 ["_law_kinds_here"] (spF K 1 Ee):=⟨_,_,O7,PySem.W.mg_of X G a7,k7,B7⟩
 have O8:=ok_is_name (P:=l.prog) (w:=w) (base:=base) F8 T
 have G8:FnAt l.prog w K mg base CX0 "is_name" 1 ["text"] (spF K 1 Bv):=⟨_,_,O8,PySem.W.mg_of X G a8,k8,B8⟩
 have O9:=ok_check_kinds (P:=l.prog) (w:=w) (base:=base) F9 T G8
 have G9:FnAt l.prog w K mg base CX0 "check_kinds" 2 ["kinds"] (spF K 1 Co):=⟨_,_,O9,PySem.W.mg_of X G a9,k9,B9⟩
 have O10:=ok_check_maker (P:=l.prog) (w:=w) (base:=base) F10 T G8
 have G10:FnAt l.prog w K mg base CX0 "check_maker" 2 ["maker","parts","makers_ahead","all_kinds"] (spF K 4 Bq):=⟨_,_,O10,PySem.W.mg_of X G a10,k10,B10⟩
 have O11:=Hm (P:=l.prog) (w:=w) (base:=base) F11 T
 have G11:FnAt l.prog w K mg base CX0 "check_ground" 1 ["maker","parts","kinds_above"] (spF K 3 Bk):=⟨_,_,O11,PySem.W.mg_of X G a11,k11,B11⟩
 have O12:=Hl (P:=l.prog) (w:=w) (base:=base) F12 T G11 G10
 have G12:FnAt l.prog w K mg base CX0 "check_makers" 3 ["kinds"] (spF K 1 Cd):=⟨_,_,O12,PySem.W.mg_of X G a12,k12,B12⟩
 have O13:=ok_Stock_init (P:=l.prog) (w:=w) (base:=base) F13 T G12 G9
 have G13:MkAt l.prog w K mg base CX0 "Stock" cStock 4 ["self","kinds"] (spF K 2 (Ci cStock)):=⟨PySem.W.mg_of X G aC_Stock,_,_,O13,⟨mk_Stock,a13,i13,kc_Stock⟩,B13⟩
 have O14:=ok_Stock_kinds (P:=l.prog) (w:=w) (base:=base) F14 T
 have G14:MtAt l.prog w K mg base CX0 cStock "kinds" 1 ["self"] (spF K 1 (Bd cStock)):=⟨T.cl_Stock,_,_,O14,⟨a14,i14,k14⟩,B14⟩
 have O15:=Ho (P:=l.prog) (w:=w) (base:=base) F15 T
 have G15:MtAt l.prog w K mg base CX0 cStock "makers" 1 ["self","kind"] (spF K 2 (BG cStock)):=⟨T.cl_Stock,_,_,O15,⟨a15,i15,k15⟩,B15⟩
 have O16:=EJ (P:=l.prog) (w:=w) (base:=base) F16 T  (fun k sp o=>⟨_,_,o,PySem.W.mg_of X G a16,k16,B16⟩) 60
 have G16:FnAt l.prog w K mg base CX0 "rows_of_size" 61 ["kinds","whole","made"] (spF K 3 (AO 60)):=⟨_,_,O16,PySem.W.mg_of X G a16,k16,B16⟩
 have O17:=ok_Stock_parts (P:=l.prog) (w:=w) (base:=base) F17 T
 have G17:MtAt l.prog w K mg base CX0 cStock "parts" 1 ["self","maker"] (spF K 2 (BC cStock)):=⟨T.cl_Stock,_,_,O17,⟨a17,i17,k17⟩,B17⟩
 have O18:=Gp (P:=l.prog) (w:=w) (base:=base) F18 T G15 G17 G16
 have G18:FnAt l.prog w K mg base CX0 "things_of_size" 62 ["stock","kind","whole","made"] (spF K 4 (Bg cStock)):=⟨_,_,O18,PySem.W.mg_of X G a18,k18,B18⟩
 have O19:=ok_things (P:=l.prog) (w:=w) (base:=base) F19 T G14 G18
 have G19:FnAt l.prog w K mg base CX0 "things" 63 ["stock","kind","most"] (spF K 3 (Dg cStock)):=⟨_,_,O19,PySem.W.mg_of X G a19,k19,B19⟩
 have O20:=ok_Lmixed (P:=l.prog) (w:=w) (base:=base) F20 T
 have G20:FnAt l.prog w K mg base CX0 "_law_mixed" 1 ["_law_script","_law_at","_law_many"] (spF K 3 DB):=⟨_,_,O20,PySem.W.mg_of X G a20,k20,B20⟩
 have O21:=ok_Lshape (P:=l.prog) (w:=w) (base:=base) F21 T  (fun k sp o=>⟨_,_,o,PySem.W.mg_of X G a21,k21,B21⟩) 60
 have G21:FnAt l.prog w K mg base CX0 "_law_shape" 61 ["_law_thing"] (spF K 1 (CF 60)):=⟨_,_,O21,PySem.W.mg_of X G a21,k21,B21⟩
 have O22:=GH (P:=l.prog) (w:=w) (base:=base) F22 T  (fun k sp o=>⟨_,_,o,PySem.W.mg_of X G a22,k22,B22⟩) 60
 have G22:FnAt l.prog w K mg base CX0 "_law_is_thing" 61 ["_law_table_here","_law_kind","_law_thing"] (spF K 3 (AN 60)):=⟨_,_,O22,PySem.W.mg_of X G a22,k22,B22⟩
 have O23:=ok_Lsize (P:=l.prog) (w:=w) (base:=base) F23 T  (fun k sp o=>⟨_,_,o,PySem.W.mg_of X G a23,k23,B23⟩) 60
 have G23:FnAt l.prog w K mg base CX0 "_law_size" 61 ["_law_thing"] (spF K 1 (BH 60)):=⟨_,_,O23,PySem.W.mg_of X G a23,k23,B23⟩
 have O24:=ok_Lwithin (P:=l.prog) (w:=w) (base:=base) F24 T G23 G6 (fun k sp o=>⟨_,_,o,PySem.W.mg_of X G a24,k24,B24⟩) 60
 have G24:FnAt l.prog w K mg base CX0 "_law_within" 122 ["_law_table_here","_law_counts_here","_law_kind","_law_thing"] (spF K 4 (BK 60)):=⟨_,_,O24,PySem.W.mg_of X G a24,k24,B24⟩
 have O25:=ok_Lahead (P:=l.prog) (w:=w) (base:=base) F25 T G23 G24
 have G25:FnAt l.prog w K mg base CX0 "_law_ahead" 123 ["_law_table_here","_law_counts_here","_law_kind","_law_thing"] (spF K 4 DU):=⟨_,_,O25,PySem.W.mg_of X G a25,k25,B25⟩
 have O26:=ok_Lright (P:=l.prog) (w:=w) (base:=base) F26 T G25 G23 G22 G21
 have G26:FnAt l.prog w K mg base CX0 "_law_right" 124 ["_law_table_here","_law_counts_here","_law_kind","_law_most","_law_got"] (spF K 5 Dh):=⟨_,_,O26,PySem.W.mg_of X G a26,k26,B26⟩
 have O27:=ok_law (P:=l.prog) (w:=w) (base:=base) F27 T G19 G26 G20 G13 G7 G5 G4
 exact O27.imp (law_sp (good cStock))
theorem walk {l:PySem.W.OpenLaw} {q:Program} {loose:List Str} {XP:(Str->Option Value)->Heap->Prop} {d:DefRec} {K:Params->PySem.W.Frag} {as:List Addr} {N tk:Nat} (hn:l.most=some 63) (hdf:d.params.defaults=[]) (hK:∀ P:Params,as=(K P).map (·.1))
  (F:∀ (w:World) (mg:Str->Option Value) (fa:Addr) (h:Heap),(K w.params).In h->h.Ns mainGlobals mg->mg d.name=some (.ref fa) ->
   ∃ fd:FuncData,(∀ (s:Shared) (u:Value),BindsTo s fd ⟨[u],[]⟩ [("_law_script",u)])/\∀ base:Heap,(K w.params).In base->base.Ns mainGlobals mg->Ds l.prog w (K w.params) mg base CX0 125 fa fd ["_law_script"] (spLaw (K w.params))) :
  PySem.W.WalkX q loose XP (PySem.W.X.obsZ as) (PySem.W.X.valZ K N tk) l.row.toRowW d [] (fun f vs=>PySem.call f vs) :=
 L2.walkX_bits (n:=63) (k:=125) (x:="_law_script") (CX:=CX0) (sp:=spLaw) hn (by decide) hdf ⟨rfl,by decide,by decide⟩ hK F (fun _ _ a ns hl hb _ hS=>⟨a,ns,rfl,hS,hl,hb,fun _=>rfl⟩) fun _ _ _ _ z=>z
end Sy
def PySem.W.Fast.tw7142455549949661824:=()
def PySem.W.Fast.tw4731168448600157537:=()
def PySem.W.Fast.tw17365883051466551196:=()
def PySem.W.Fast.tw18291438838472604696:=()
def PySem.W.Fast.tw3736205272227335783:=()
def PySem.W.Fast.tw18114257175909336043:=()
def PySem.W.Fast.tw2605929690013923978:=()
def PySem.W.Fast.tw7981510865202645525:=()
def PySem.W.Fast.tw6837809370535371352:=()
def PySem.W.Fast.tw8362638439079507139:=()
def PySem.W.Fast.tw4306338888658767245:=()
def PySem.W.Fast.tw10205405320708413335:=()
def PySem.W.Fast.tw13266146612326395757:=()
def PySem.W.Fast.tw11548111480362210993:=()
def PySem.W.Fast.tw2046683625661031050:=()
def PySem.W.Fast.tw1682713101615288354:=()
open PySem PySem.W PyProof.Rows
set_option maxRecDepth 100000 in
set_option maxHeartbeats 0 in
theorem PySem.Challenge.cw_stairsay_k05_whole_things_in_order_holds : PySem.Challenge.rw_stairsay_k05_whole_things_in_order.Holds := by
 w_on;o_law;z_head;(case hw=>w_witness2)
 k_fill
 refine Sy.walk (l:=PySem.Challenge.rw_stairsay_k05_whole_things_in_order) rfl rfl (fun P=>rfl) ?F
 case F =>
  intro w mg fa h KX G hmg
  refine' Sy.all_mk KX G hmg ?aC_Stock ?pg_Stock ?hd_Stock ?po_Stock ?sa_Stock ?mk_Stock ?kc_Stock ?a0 ?l0 ?c0 ?k0 ?a1 ?l1 ?c1 ?k1 ?a2 ?l2 ?c2 ?k2 ?a3 ?l3 ?c3 ?k3 ?a4 ?l4 ?c4 ?k4 ?a5 ?l5 ?c5 ?k5 ?a6 ?l6 ?c6 ?k6 ?a7 ?l7 ?c7 ?k7 ?a8 ?l8 ?c8 ?k8 ?a9 ?l9 ?c9 ?k9 ?a10 ?l10 ?c10 ?k10 ?a11 ?l11 ?c11 ?k11 ?a12 ?l12 ?c12 ?k12 ?a13 ?i13 ?l13 ?c13 ?k13 ?a14 ?i14 ?l14 ?c14 ?k14 ?a15 ?i15 ?l15 ?c15 ?k15 ?a16 ?l16 ?c16 ?k16 ?a17 ?i17 ?l17 ?c17 ?k17 ?a18 ?l18 ?c18 ?k18 ?a19 ?l19 ?c19 ?k19 ?a20 ?l20 ?c20 ?k20 ?a21 ?l21 ?c21 ?k21 ?a22 ?l22 ?c22 ?k22 ?a23 ?l23 ?c23 ?k23 ?a24 ?l24 ?c24 ?k24 ?a25 ?l25 ?c25 ?k25 ?a26 ?l26 ?c26 ?k26 ?a27 ?l27 ?c27 ?k27 ?z_all ?z_int ?z_isinstance ?z_len ?z_list ?z_min ?z_range ?z_reversed ?z_str ?z_sum ?z_tuple ?z_zip ?g_LETTERS ?g_MOST_KINDS ?g_MOST_LETTERS ?g_MOST_MAKERS ?g_MOST_PARTS ?g_MOST_SIZE ?n_Stock_home_by_maker ?n_Stock_makers_by_kind ?n_Stock_parts_by_maker
  (case aC_Stock=>k_is)
  (case pg_Stock=>k_is)
  (case hd_Stock=>k_is)
  (case po_Stock=>k_is)
  (case sa_Stock=>k_is)
  (case mk_Stock=>k_is)
  (case kc_Stock=>k_is)
  (case a0=>k_is)
  (case l0=>k_is)
  (case c0=>k_is)
  (case k0=>k_is)
  (case a1=>k_is)
  (case l1=>k_is)
  (case c1=>k_is)
  (case k1=>k_is)
  (case a2=>k_is)
  (case l2=>k_is)
  (case c2=>k_is)
  (case k2=>k_is)
  (case a3=>k_is)
  (case l3=>k_is)
  (case c3=>k_is)
  (case k3=>k_is)
  (case a4=>k_is)
  (case l4=>k_is)
  (case c4=>k_is)
  (case k4=>k_is)
  (case a5=>k_is)
  (case l5=>k_is)
  (case c5=>k_is)
  (case k5=>k_is)
  (case a6=>k_is)
  (case l6=>k_is)
  (case c6=>k_is)
  (case k6=>k_is)
  (case a7=>k_is)
  (case l7=>k_is)
  (case c7=>k_is)
  (case k7=>k_is)
  (case a8=>k_is)
  (case l8=>k_is)
  (case c8=>k_is)
  (case k8=>k_is)
  (case a9=>k_is)
  (case l9=>k_is)
  (case c9=>k_is)
  (case k9=>k_is)
  (case a10=>k_is)
  (case l10=>k_is)
  (case c10=>k_is)
  (case k10=>k_is)
  (case a11=>k_is)
  (case l11=>k_is)
  (case c11=>k_is)
  (case k11=>k_is)
  (case a12=>k_is)
  (case l12=>k_is)
  (case c12=>k_is)
  (case k12=>k_is)
  (case a13=>k_is)
  (case i13=>k_is)
  (case l13=>k_is)
  (case c13=>k_is)
  (case k13=>k_is)
  (case a14=>k_is)
  (case i14=>k_is)
  (case l14=>k_is)
  (case c14=>k_is)
  (case k14=>k_is)
  (case a15=>k_is)
  (case i15=>k_is)
  (case l15=>k_is)
  (case c15=>k_is)
  (case k15=>k_is)
  (case a16=>k_is)
  (case l16=>k_is)
  (case c16=>k_is)
  (case k16=>k_is)
  (case a17=>k_is)
  (case i17=>k_is)
  (case l17=>k_is)
  (case c17=>k_is)
  (case k17=>k_is)
  (case a18=>k_is)
  (case l18=>k_is)
  (case c18=>k_is)
  (case k18=>k_is)
  (case a19=>k_is)
  (case l19=>k_is)
  (case c19=>k_is)
  (case k19=>k_is)
  (case a20=>k_is)
  (case l20=>k_is)
  (case c20=>k_is)
  (case k20=>k_is)
  (case a21=>k_is)
  (case l21=>k_is)
  (case c21=>k_is)
  (case k21=>k_is)
  (case a22=>k_is)
  (case l22=>k_is)
  (case c22=>k_is)
  (case k22=>k_is)
  (case a23=>k_is)
  (case l23=>k_is)
  (case c23=>k_is)
  (case k23=>k_is)
  (case a24=>k_is)
  (case l24=>k_is)
  (case c24=>k_is)
  (case k24=>k_is)
  (case a25=>k_is)
  (case l25=>k_is)
  (case c25=>k_is)
  (case k25=>k_is)
  (case a26=>k_is)
  (case l26=>k_is)
  (case c26=>k_is)
  (case k26=>k_is)
  (case a27=>k_is)
  (case l27=>k_is)
  (case c27=>k_is)
  (case k27=>k_is)
  (case z_all=>k_is)
  (case z_int=>k_is)
  (case z_isinstance=>k_is)
  (case z_len=>k_is)
  (case z_list=>k_is)
  (case z_min=>k_is)
  (case z_range=>k_is)
  (case z_reversed=>k_is)
  (case z_str=>k_is)
  (case z_sum=>k_is)
  (case z_tuple=>k_is)
  (case z_zip=>k_is)
  (case g_LETTERS=>k_is)
  (case g_MOST_KINDS=>k_is)
  (case g_MOST_LETTERS=>k_is)
  (case g_MOST_MAKERS=>k_is)
  (case g_MOST_PARTS=>k_is)
  (case g_MOST_SIZE=>k_is)
  (case n_Stock_home_by_maker=>k_is)
  (case n_Stock_makers_by_kind=>k_is)
  (case n_Stock_parts_by_maker=>k_is)
