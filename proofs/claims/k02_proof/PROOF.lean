import PyProof.Rows.All
import Wide.All
import OpenK.AllK
import Wide.FinOn
import PyProof.EqAt
import PyProof.EqKinds
import PyProof.TupleCall
import PyProof.DictWalks
import KE.KSortTup
import KE.KTryMore
import PyProof.NsDelKeeps
import PyProof.ReprStr
import PyProof.StrLawsRepr
import PyProof.Rows.FStr
import KE.KEqDict
import PySem.Challenge.RW_stairsay_k02_stocks_told
set_option Elab.async false
set_option linter.all false
set_option maxRecDepth 100000
set_option maxHeartbeats 4000000
abbrev Fg:=PySem.W.Frag
namespace L2
open PySem PySem.Spec PyProof.Rows
abbrev Key:=Sum Int Str
def Iy:Key->Value->Bool
 | .inl k,v=>Value.isInt k v
 | .inr x,v=>Value.isStrOf x v
def XC (w:World):Key->Int
 | .inl k=>hashInt k
 | .inr x=>hashStr w x
theorem Bt:∀ {k:Key} {v:Value},Iy k v=true->(∃ i t,k=Sum.inl i/\v=Value.int i t)∨(∃ x t,k=Sum.inr x/\v=Value.str x t)
 | .inl i,v,h=>by
  obtain ⟨t,e⟩:=Value.isInt_shape (k:=i) (v:=v) h
  exact .inl ⟨i,t,rfl,e⟩
 | .inr x,v,h=>by
  obtain ⟨t,e⟩:=Value.isStrOf_shape (x:=x) (v:=v) h
  exact .inr ⟨x,t,rfl,e⟩
theorem NW (i:Int) (t:Tok):Iy (.inl i) (.int i t)=true:=by simp [Iy,Value.isInt]
theorem NU (x:Str) (t:Tok):Iy (.inr x) (.str x t)=true:=by simp [Iy,Value.isStrOf]
theorem Vd (a b:Int):decide ((Sum.inl a:Key)=Sum.inl b)=(a == b):=by
 by_cases e:a=b
 ·subst e;simp
 ·have h:¬ (Sum.inl a:Key)=Sum.inl b:=fun q=>e (Sum.inl.inj q)
  rw [decide_eq_false h]
  exact (beq_eq_false_iff_ne.mpr e).symm
theorem Va (a b:Str):decide ((Sum.inr a:Key)=Sum.inr b)=decide (a=b):=by
 by_cases e:a=b
 ·subst e;simp
 ·have h:¬ (Sum.inr a:Key)=Sum.inr b:=fun q=>e (Sum.inr.inj q)
  rw [decide_eq_false h,decide_eq_false e]
theorem Vc (a:Int) (b:Str):decide ((Sum.inl a:Key)=Sum.inr b)=false:=decide_eq_false (fun q=>nomatch q)
theorem Vb (a:Str) (b:Int):decide ((Sum.inr a:Key)=Sum.inl b)=false:=decide_eq_false (fun q=>nomatch q)
def Cp (prog:Program) (w:World):PySem.KeyKind prog w Key where
 is:=Iy
 hash:=XC w
 inj:=fun v a b ha hb=>by
  rcases Bt ha with ⟨i,t,rfl,rfl⟩ | ⟨x,t,rfl,rfl⟩
  ·rcases Bt hb with ⟨j,u,rfl,e⟩ | ⟨y,u,rfl,e⟩
   ·injection e with e1 _;rw [e1]
   ·exact nomatch e
  ·rcases Bt hb with ⟨j,u,rfl,e⟩ | ⟨y,u,rfl,e⟩
   ·exact nomatch e
   ·injection e with e1 _;rw [e1]
 byValue:=fun k v h=>by
  rcases Bt h with ⟨i,t,rfl,rfl⟩ | ⟨x,t,rfl,rfl⟩ <;> rfl
 pyHash:=fun hv h=>by
  rcases Bt hv with ⟨i,t,rfl,rfl⟩ | ⟨x,t,rfl,rfl⟩
  ·exact wpAny_pyHash_int h
  ·exact wpAny_pyHash_str h
 eqBool:=fun hu hv h=>by
  rcases Bt hu with ⟨i,t,rfl,rfl⟩ | ⟨x,t,rfl,rfl⟩
  ·rcases Bt hv with ⟨j,u,rfl,rfl⟩ | ⟨y,u,rfl,rfl⟩
   ·rw [Vd] at h;exact wpAny_eqBool_int h
   ·rw [Vc] at h;exact SeqAt.EqAt.int_str i t y u _ _ _ _ h
  ·rcases Bt hv with ⟨j,u,rfl,rfl⟩ | ⟨y,u,rfl,rfl⟩
   ·rw [Vb] at h;exact SeqAt.EqAt.str_int x t j u _ _ _ _ h
   ·rw [Va] at h;exact wpAny_eqBool_str h
 «strs»:=fun k x t v h=>by
  rcases Bt h with ⟨i,u,rfl,e⟩ | ⟨y,u,rfl,e⟩
  ·exact nomatch e
  ·injection e with e1 _
   subst e1
   cases v <;> rfl
theorem Km (prog:Program) (w:World) (i:Int) (t:Tok):(Cp prog w).is (.inl i) (.int i t)=true:=NW i t
theorem Kl (prog:Program) (w:World) (x:Str) (t:Tok):(Cp prog w).is (.inr x) (.str x t)=true:=NU x t
inductive V where
 | non | bl (b:Bool) | int (i:Int) | str (x:Str) | byt (b:Array UInt8) | flt (b:UInt64) | ref (a:Addr) | ty (n:String)
 deriving DecidableEq
def RelV:V->Value->Prop
 | .non,u=>u=Value.none
 | .bl b,u=>u=Value.bool b
 | .int i,u=>∃ t,u=Value.int i t
 | .str x,u=>∃ t,u=Value.str x t
 | .byt b,u=>∃ t,u=Value.bytes b t
 | .flt b,u=>∃ t,u=Value.float b t
 | .ref a,u=>u=Value.ref a
 | .ty n,u=>u=Value.type n
abbrev Vals:List V->List Value->Prop:=Paired RelV
theorem Vals.length {xs:List V} {us:List Value} (r:Vals xs us):xs.length=us.length:=Paired.length r
theorem Vals.get:∀ {xs:List V} {us:List Value} {i:Nat} {x:V},Vals xs us->xs[i]?=some x->∃ u,us[i]?=some u/\RelV x u
 | _,_,_,_,.nil,e=>by simp at e
 | _,_,0,_,.cons r _,e=>by simp at e;subst e;exact ⟨_,rfl,r⟩
 | _,_,i+1,x,.cons _ t,e=>by
  obtain ⟨u,h1,h2⟩:=Vals.get (i:=i) (x:=x) t (by simpa using e)
  exact ⟨u,by simpa using h1,h2⟩
theorem Vals.set {x:V} {u:Value} (r:RelV x u):∀ {xs:List V} {us:List Value} (i:Nat),Vals xs us->Vals (xs.set i x) (us.set i u)
 | _,_,_,.nil=>.nil
 | _,_,0,.cons _ t=>.cons r t
 | _,_,i+1,.cons q t=>.cons q (Vals.set r i t)
theorem Vals.append:∀ {xs ys:List V} {us ws:List Value},Vals xs us->Vals ys ws->Vals (xs++ys) (us++ws)
 | _,_,_,_,.nil,s=>s
 | _,_,_,_,.cons r t,s=>.cons r (Vals.append t s)
theorem Vals.take:∀ {xs:List V} {us:List Value} (n:Nat),Vals xs us->Vals (xs.take n) (us.take n)
 | _,_,0,_=>.nil
 | _,_,_+1,.nil=>.nil
 | _,_,n+1,.cons r t=>.cons r (Vals.take n t)
theorem Vals.drop:∀ {xs:List V} {us:List Value} (n:Nat),Vals xs us->Vals (xs.drop n) (us.drop n)
 | _,_,0,r=>r
 | _,_,_+1,.nil=>.nil
 | _,_,n+1,.cons _ t=>Vals.drop n t
def AK:Option V->Option Value->Prop
 | some v,some u=>RelV v u
 | none,none=>True
 | _,_=>False
def KV {κ:Type}:List (κ×V)->List (κ×Value)->Prop:=Paired fun (p:κ×V) (q:κ×Value)=>p.1=q.1/\RelV p.2 q.2
def kV:Key->V
 | .inl i=>.int i
 | .inr x=>.str x
inductive HO where
 | lst (xs:List V)
 | tup (xs:List V)
 | dK (kvs:List (Key×V)) | dT (kvs:List (List Key×V))
 | set (S:Int->Bool) (n:Nat)
 | ins (C dx:Addr) (fs:List (Str×V))
 | own (x:Addr)
 | xd (fs:List (Str×V))
 | met (f x:Addr)
 | rng (lo hi:Int)
 | frz (o:Obj) (u:HO)
 | tbl (ps:Array Value)
 | ext (φ:Heap->Prop)
abbrev Hp:=Addr->Option HO
def upd (H:Hp) (a:Addr) (o:HO):Hp:=fun b=>if b=a then some o else H b
theorem AF {H:Hp} {a:Addr} {o:HO}:upd H a o a=some o:=by unfold upd;rw [if_pos rfl]
theorem Aq {H:Hp} {a b:Addr} {o:HO} (h:b≠a):upd H a o b=H b:=by unfold upd;rw [if_neg h]
theorem WD {H:Hp} {a b:Addr} {o u:HO} (h:H a=some o) (h':H b=some u) (d:o≠u):a≠b:=by
 intro e;subst e;rw [h] at h';exact d (Option.some.inj h')
theorem A3 {H:Hp} {a b:Addr} {o:HO} (h:H a=some o) (h':H b=none):a≠b:=by
 intro e;subst e;rw [h] at h';cases h'
section
variable (P:Program) (w:World)
def Cg (H:Hp) (h:Heap) (a:Addr):HO->Prop
 | .lst xs=>xs.length<=sizeLine/\∃ (its:List Value) (n:Nat),Vals xs its/\h.get? a=some { cls:=.type "list",data:=.seq its.toArray n }
 | .tup xs=>xs.length<=sizeLine/\∃ its:List Value,Vals xs its/\IsTup h a its.toArray
 | .dK kvs=>kvs.length<=sizeLine/\(a == sysModules)=false/\∃ vs,KV kvs vs/\h.DictOf (Cp P w) a vs
 | .dT kvs=>kvs.length<=sizeLine/\(a == sysModules)=false/\∃ xs:List (List Key×Addr×Value),
   Paired (fun (p:List Key×V) (q:List Key×Addr×Value)=>p.1=q.1/\H q.2.1=some (.tup (p.1.map kV))/\RelV p.2 q.2.2) kvs xs /\
   ∃ o es ep,h.get? a=some o/\o.ExactDict/\o.data=.dict es ep/\es.toList=xs.map (entryOfKey (tupleKind (Cp P w)))/\(xs.map (·.1)).Nodup
 | .set S n=>h.SetOf (intKind P w) a S n
 | .ins C dx fs=>H dx=some (.own a)/\fs.length<=1000/\dx≠a/\h.get? a=some (PySem.W.instObj C dx) /\
   ∃ mA,h.Ns1 dx mA/\(∀ f,AK (fs.lookup f) (mA f))/\PySem.Within mA (fs.map (·.1))
 | .own _=>∃ o,h.get? a=some o
 | .xd fs=>∃ mA,h.Ns1 a mA/\∀ f,AK (fs.lookup f) (mA f)
 | .rng lo hi=>∃ t u v,h.get? a=some { cls:=.type "range",data:=.fields #[.int lo t,.int hi u,.int 1 v] }
 | .frz o u=>h.get? a=some o/\Cg H h a u
 | .tbl ps=>h.get? a=some { cls:=.none,data:=.fields ps }
 | .met f x=>h.get? a=some (PySem.W.methodObj (.ref f) (.ref x))
 | .ext φ=>φ h/\(∃ o,h.get? a=some o)/\∀ h1 h2:Heap,φ h1->(∀ o,h1.get? a=some o->h2.get? a=some o)->φ h2
def HOk (H:Hp) (h:Heap):Prop:=∀ a o,H a=some o->Cg P w H h a o
end
section
variable {P:Program} {w:World} {H H':Hp} {h h':Heap} {a:Addr} {o:HO}
theorem Cg.lt (x:Cg P w H h a o):a < h.objs.size:=by
 cases o with
 | lst xs=>obtain ⟨_,_,_,_,e⟩:=x;exact Heap.lt_size e
 | tup xs=>obtain ⟨_,_,_,p⟩:=x;exact p.lt
 | dK kvs=>obtain ⟨_,_,_,_,o,_,_,e,_⟩:=x;exact Heap.lt_size e
 | dT kvs=>obtain ⟨_,_,_,_,o,_,_,e,_⟩:=x;exact Heap.lt_size e
 | set S n=>obtain ⟨o,_,_,_,e,_⟩:=x;exact Heap.lt_size e
 | ins C dx fs=>obtain ⟨_,_,_,e,_⟩:=x;exact Heap.lt_size e
 | own y=>obtain ⟨_,e⟩:=x;exact Heap.lt_size e
 | xd fs=>obtain ⟨_,⟨_,_,_,e,_⟩,_⟩:=x;exact Heap.lt_size e
 | rng lo hi=>obtain ⟨_,_,_,e⟩:=x;exact Heap.lt_size e
 | frz ob u=>obtain ⟨e,_⟩:=x;exact Heap.lt_size e
 | tbl ps=>exact Heap.lt_size (show h.get? a=some _ from x)
 | met f y=>exact Heap.lt_size (show h.get? a=some _ from x)
 | ext φ=>obtain ⟨_,⟨_,e⟩,_⟩:=x;exact Heap.lt_size e
theorem Paired.WE {α β:Type} {F G:α->β->Prop}:∀ {l₁:List α} {l₂:List β},Paired F l₁ l₂->(∀ a b,F a b->G a b)->Paired G l₁ l₂
 | _,_,.nil,_=>.nil
 | _,_,.cons r t,f=>.cons (f _ _ r) (Paired.WE t f)
theorem Cg.Pw (x:Cg P w H h a o) (k:∀ b u,(b=a∨H b=some (.own a))->h.get? b=some u->h'.get? b=some u)
  (ho:∀ b,H b=some (.own a)->H' b=some (.own a)) (ht:∀ b xs,H b=some (.tup xs)->H' b=some (.tup xs)):Cg P w H' h' a o:=by
 induction o with
 | lst xs=>obtain ⟨z,its,n,r,e⟩:=x;exact ⟨z,its,n,r,k _ _ (.inl rfl) e⟩
 | tup xs=>obtain ⟨z,its,r,ob,e,c⟩:=x;exact ⟨z,its,r,ob,k _ _ (.inl rfl) e,c⟩
 | dK kvs=>obtain ⟨z,y,vs,r,ob,es,ep,e,c⟩:=x;exact ⟨z,y,vs,r,ob,es,ep,k _ _ (.inl rfl) e,c⟩
 | dT kvs =>
  obtain ⟨z,y,xs,r,ob,es,ep,e,c⟩:=x
  exact ⟨z,y,xs,Paired.WE r fun p q z=>⟨z.1,ht _ _ z.2.1,z.2.2⟩,ob,es,ep,k _ _ (.inl rfl) e,c⟩
 | set S n=>obtain ⟨ob,es,ep,t,e,c⟩:=x;exact ⟨ob,es,ep,t,k _ _ (.inl rfl) e,c⟩
 | ins C dx fs =>
  obtain ⟨d,z,ne,e,mA,⟨od,es,ep,e2,c⟩,r⟩:=x
  exact ⟨ho _ d,z,ne,k _ _ (.inl rfl) e,mA,⟨od,es,ep,k _ _ (.inr d) e2,c⟩,r⟩
 | own y=>obtain ⟨ob,e⟩:=x;exact ⟨ob,k _ _ (.inl rfl) e⟩
 | xd fs=>obtain ⟨mA,⟨od,es,ep,e,c⟩,r⟩:=x;exact ⟨mA,⟨od,es,ep,k _ _ (.inl rfl) e,c⟩,r⟩
 | rng lo hi=>obtain ⟨t,u,v,e⟩:=x;exact ⟨t,u,v,k _ _ (.inl rfl) e⟩
 | frz ob u ih=>obtain ⟨e,q⟩:=x;exact ⟨k _ _ (.inl rfl) e,ih q⟩
 | tbl ps =>
  have e:h.get? a=some { cls:=.none,data:=.fields ps }:=x
  show h'.get? a=some { cls:=.none,data:=.fields ps }
  exact k a _ (.inl rfl) e
 | met f y =>
  have e:h.get? a=some (PySem.W.methodObj (.ref f) (.ref y)):=x
  show h'.get? a=some (PySem.W.methodObj (.ref f) (.ref y))
  exact k a _ (.inl rfl) e
 | ext φ=>obtain ⟨p,⟨o,e⟩,st⟩:=x;exact ⟨st _ _ p fun o q=>k _ _ (.inl rfl) q,⟨o,k _ _ (.inl rfl) e⟩,st⟩
theorem HOk.lt (x:HOk P w H h) (e:H a=some o):a < h.objs.size:=(x a o e).lt
theorem HOk.fresh (x:HOk P w H h) (e:h.objs.size<=a):H a=none:=by
 cases q:H a with
 | none=>rfl
 | some u=>exact absurd (Nat.lt_of_lt_of_le (x.lt q) e) (Nat.lt_irrefl _)
theorem HOk.kept (x:HOk P w H h) (k:∀ b u,h.get? b=some u->h'.get? b=some u):HOk P w H h':=fun a o e =>
 (x a o e).Pw (fun b u _ q=>k b u q) (fun _ q=>q) fun _ _ q=>q
theorem HOk.laid (x:HOk P w H h) (k:∀ b u,h.get? b=some u->h'.get? b=some u) (hp:h.objs.size<=a) (new:Cg P w (upd H a o) h' a o):HOk P w (upd H a o) h':=fun b u e=>by
 have hn:=x.fresh hp
 by_cases hb:b=a
 ·subst hb;rw [AF] at e;cases e;exact new
 ·rw [Aq hb] at e
  exact (x b u e).Pw (fun c v _ q=>k c v q) (fun c q=>by rw [Aq (A3 q hn)];exact q) fun c xs q=>by rw [Aq (A3 q hn)];exact q
end
def Rd (H:Hp) (a:Addr) (u:HO):Prop:=H a=some u∨∃ o,H a=some (.frz o u)
theorem Rd.ok {P:Program} {w:World} {H:Hp} {h:Heap} {a:Addr} {u:HO} (r:Rd H a u) (x:HOk P w H h):Cg P w H h a u:=by
 rcases r with r | ⟨o,r⟩
 ·exact x a u r
 ·obtain ⟨_,q⟩:=x a _ r
  exact q
def Mut:Option HO->Prop
 | some (.lst _)=>True
 | some (.dK _)=>True
 | some (.dT _)=>True
 | some (.set _ _)=>True
 | some (.ins _ _ _)=>True
 | some (.ext _)=>True
 | _=>False
section
variable {P:Program} {w:World} {H:Hp} {h h':Heap} {x e:Addr} {o':HO}
theorem HOk.write (ok:HOk P w H h) (mu:Mut (H x)) (he:e=x∨H e=some (.own x)) (k:∀ b u,b≠e->h.get? b=some u->h'.get? b=some u) (heo:∃ u,h'.get? e=some u)
  (new:Cg P w (upd H x o') h' x o'):HOk P w (upd H x o') h':=fun b u q=>by
 have nown:∀ c y,H c=some (.own y)->c≠x:=fun c y r z=>by subst z;rw [r] at mu;exact mu
 have ntup:∀ c xs,H c=some (.tup xs)->c≠x:=fun c xs r z=>by subst z;rw [r] at mu;exact mu
 by_cases hb:b=x
 ·subst hb;rw [AF] at q;cases q;exact new
 ·rw [Aq hb] at q
  by_cases hbe:b=e
  ·have q':H b=some (.own x):=by
    rcases he with z | z
    ·exact absurd (hbe.trans z) hb
    ·rw [hbe];exact z
   rw [q] at q';cases q'
   obtain ⟨v,hv⟩:=heo
   exact ⟨v,by rw [hbe];exact hv⟩
  ·refine (ok b u q).Pw (fun c v hc r=>k c v ?_ r) (fun c r=>by rw [Aq (nown c b r)];exact r) fun c xs r=>by rw [Aq (ntup c xs r)];exact r
   rcases hc with rfl | hc
   ·exact hbe
   ·rintro rfl
    rcases he with z | z
    ·exact nown c b hc z
    ·rw [hc] at z;cases z;exact hb rfl
end
structure Un (fs ex:List Addr) (H H':Hp) (h h':Heap):Prop where
 keep:∀ b o,h.get? b=some o->H b=none->b∉fs->b∉ex->h'.get? b=some o
 slot:∀ b o,h.get? b=some o->H b=none->b∈fs->b∉ex->∃ sl,h'.get? b=some { o with slots:=sl }
 free:∀ b o,h.get? b=some o->H b=none->b∉ex->H' b=none
 there:∀ b o,h.get? b=some o->b∉ex->∃ o',h'.get? b=some o'
 tups:∀ b xs,H b=some (.tup xs)->H' b=some (.tup xs)
 frzs:∀ b o u,H b=some (.frz o u)->H' b=some (.frz o u)
 tbls:∀ b ps,H b=some (.tbl ps)->∃ more,H' b=some (.tbl (ps++more))
section
variable {fs fs' ex ex':List Addr} {H H1 H2:Hp} {h h1 h2 h':Heap} {a x e:Addr} {o:HO}
theorem Un.any (u:Un fs ex H H1 h h1) {b:Addr} {ob:Obj} (q:h.get? b=some ob) (n:H b=none) (hx:b∉ex):∃ sl,h1.get? b=some { ob with slots:=sl }:=by
 by_cases hb:b∈fs
 ·exact u.slot b ob q n hb hx
 ·exact ⟨ob.slots,u.keep b ob q n hb hx⟩
theorem Un.kept (k:∀ b u,h.get? b=some u->h'.get? b=some u):Un fs ex H H h h' :=
 ⟨fun b ob q _ _ _=>k b ob q,fun b ob q _ _ _=>⟨ob.slots,k b ob q⟩,fun _ _ _ n _=>n,fun b ob q _=>⟨ob,k b ob q⟩,fun _ _ q=>q,fun _ _ _ q=>q,fun _ ps q=>⟨#[],by rw [q];simp⟩⟩
theorem Un.refl:Un fs ex H H h h:=Un.kept fun _ _ q=>q
theorem Un.laid (k:∀ b u,h.get? b=some u->h'.get? b=some u) (hp:h.objs.size<=a) (hn:H a=none):Un fs ex H (upd H a o) h h' where
 keep:=fun b u q _ _ _=>k b u q
 slot:=fun b u q _ _ _=>⟨u.slots,k b u q⟩
 free:=fun b u q n _=>by rw [Aq (Nat.ne_of_lt (Nat.lt_of_lt_of_le (Heap.lt_size q) hp))];exact n
 there:=fun b u q _=>⟨u,k b u q⟩
 tups:=fun b xs q=>by rw [Aq (A3 q hn)];exact q
 frzs:=fun b u xs q=>by rw [Aq (A3 q hn)];exact q
 tbls:=fun b ps q=>⟨#[],by rw [Aq (A3 q hn),q];simp⟩
theorem Un.write (mu:Mut (H x)) (he:e=x∨H e=some (.own x)) (k:∀ b u,b≠e->h.get? b=some u->h'.get? b=some u) (heo:∃ u,h'.get? e=some u):Un fs ex H (upd H x o) h h':=by
 have hx:∀ b,H b=none->b≠x:=fun b n z=>by subst z;rw [n] at mu;exact mu
 have hb:∀ b,H b=none->b≠e:=fun b n z=>by
  subst z
  rcases he with r | r
  ·exact hx b n r
  ·rw [n] at r;cases r
 have hm:∀ b u,H b=some u->¬ Mut (some u)->b≠x:=fun b u q nm z=>by subst z;rw [q] at mu;exact nm mu
 refine ⟨fun b u q n _ _=>k b u (hb b n) q,fun b u q n _ _=>⟨u.slots,k b u (hb b n) q⟩,fun b u q n _=>by rw [Aq (hx b n)];exact n,fun b u q _=>?_,
  fun b xs q=>by rw [Aq (hm b _ q fun z=>z)];exact q,fun b u xs q=>by rw [Aq (hm b _ q fun z=>z)];exact q,fun b ps q=>⟨#[],by rw [Aq (hm b _ q fun z=>z),q];simp⟩⟩
 by_cases hbe:b=e
 ·subst hbe;exact heo
 ·exact ⟨u,k b u hbe q⟩
end
def trk (h:Heap) (H:Hp):List Addr:=(List.range h.objs.size).filter fun a=>(H a).isSome
def Qt (h:Heap) (H:Hp):Heap:=PySem.W.hideAll h (trk h H)
theorem N9 (h:Heap) (H:Hp):(Qt h H).objs.size=h.objs.size:=PySem.W.hideAll_size _ _
theorem Qr {h:Heap} {H:Hp} {b:Addr} {o:Obj} (e:h.get? b=some o) (n:H b=none):(Qt h H).get? b=some o :=
 PySem.W.hideAll_get _ e fun hm=>by
  have q:(H b).isSome=true:=(List.mem_filter.mp hm).2
  rw [n] at q;simp at q
theorem SG {h:Heap} {H:Hp} {b:Addr} {o:Obj} (e:(Qt h H).get? b=some o):h.get? b=some o/\H b=none:=by
 have e':h.get? b=some o:=PySem.W.of_hideAll (trk h H) e
 refine ⟨e',?_⟩
 cases q:H b with
 | none=>rfl
 | some x =>
  have hm:b∈trk h H:=List.mem_filter.mpr ⟨List.mem_range.mpr (Heap.lt_size e'),by simp [q]⟩
  have z:(Qt h H).get? b=none:=PySem.W.hideAll_none (trk h H) hm
  rw [z] at e;cases e
structure Mod (K:Fg) (mg:Str->Option Value) (base:Heap):Prop where
 kin:K.In base
 glob:base.Ns mainGlobals mg
 blt:∃ mb,base.Ns builtinsNs mb/\∀ x:Str,x≠"__name__"->mb x=bootBuiltins x
 nolimit:base.NoLimit
structure Cx where
 prog:Program
 w:World
 K:Fg
 mg:Str->Option Value
 base:Heap
 A:Around
 N:List Str
 s₀:Shared
 H₀:Hp
 env:Env
 outer:List Env
 stack:List Env
 ex:List Addr
 fn:Str->Bool
 calm:Bool
 pn:List (Addr×Obj)
 xe:Value->Shared->Prop
def frs (l:List Env):List Addr:=l.filterMap (·.frame)
abbrev Cx.fs (X:Cx):List Addr:=frs X.outer
def Vis (sc:Scope) (x:Str):Prop:=sc.names.lookup x=some .local∨sc.names.lookup x=some .cell∨sc.names.lookup x=some .free
def Loc (sc:Scope) (x:Str):Prop:=sc.names.lookup x=some .local∨sc.names.lookup x=some .cell
def Look (env:Env) (h:Heap) (m:Str->Option Value) (x:Str) (u:Value):Prop :=
 (env.kindOf x=some .local/\m x=some u)∨((env.kindOf x=some .cell∨env.kindOf x=some .free)/\∃ c,env.cells.lookup x=some c/\h.IsCell c (some u))
structure Cx.Ok (X:Cx):Prop where
 mod:Mod X.K X.mg X.base
 kind:X.env.scope.kind=.function
 glob:X.env.globals=mainGlobals
 blt:X.env.builtins=builtinsNs
 above:X.s₀.heap.objs.size<=X.env.locals
 inj:∀ x y c,X.env.cells.lookup x=some c->X.env.cells.lookup y=some c->x=y
 has:∀ x,(X.env.kindOf x=some .cell∨X.env.kindOf x=some .free)->∃ c,X.env.cells.lookup x=some c
 cab:∀ x c,X.fn x=true->X.env.cells.lookup x=some c->X.s₀.heap.objs.size<=c
 hd:X.calm=true->X.A.handled=none
 frames:X.A.frames=some X.stack
 stk:X.stack=X.outer∨(X.stack=X.env :: X.outer/\X.env.frame=some X.env.locals)
 exf:∀ b∈X.ex,b≠X.env.locals/\∀ x c,X.env.cells.lookup x=some c->c≠b
 bs:∀ b o,X.base.get? b=some o->X.s₀.heap.get? b=some o/\X.H₀ b=none
 bsz:X.base.objs.size<=X.s₀.heap.objs.size
 noex:∀ b o,X.base.get? b=some o->b∉X.ex
 exfs:∀ b∈X.ex,b∉X.fs
 Lq:X.s₀.heap.FunFrames X.base X.outer
 frf:∀ b∈X.fs,X.H₀ b=none
structure Inv (X:Cx) (pins:List (Addr×Obj)) (σ:List (Option V)) (H:Hp) (s:Shared):Prop where
 ok:X.Ok
 os:s.os=X.s₀.os
 bare:AllBare s.gens
 base:Un X.fs X.ex X.H₀ H X.s₀.heap s.heap
 loc:∃ m,s.heap.Ns X.env.locals m/\∀ (i:Nat) (x:Str) (v:V),X.N[i]?=some x->σ[i]?=some (some v)->Vis X.env.scope x->∃ u,RelV v u/\Look X.env s.heap m x u
 cell:∀ x c,X.env.cells.lookup x=some c->∃ v,s.heap.IsCell c v
 free:H X.env.locals=none
 freeC:∀ x c,X.env.cells.lookup x=some c->H c=none
 pin:∀ p∈X.pn++pins,s.heap.get? p.1=some p.2/\H p.1=none/\p.1≠X.env.locals/\p.1∉X.fs/\∀ v,p.2.data≠.cell v
 hok:HOk X.prog X.w H s.heap
 len:σ.length=X.N.length
section
variable {X:Cx} {pins:List (Addr×Obj)} {σ:List (Option V)} {H H':Hp} {s:Shared} {h':Heap}
theorem Cx.Ok.Xz (ok:X.Ok) {b:Addr} {o:Obj} (e:X.base.get? b=some o):b∉X.fs:=fun hb=>by
 have:=(ok.Lq.mem hb).1
 rw [e] at this;cases this
theorem Inv.bs (I:Inv X pins σ H s):∀ b o,X.base.get? b=some o->s.heap.get? b=some o/\H b=none:=fun b o e =>
 ⟨I.base.keep b o (I.ok.bs b o e).1 (I.ok.bs b o e).2 (I.ok.Xz e) (I.ok.noex b o e),I.base.free b o (I.ok.bs b o e).1 (I.ok.bs b o e).2 (I.ok.noex b o e)⟩
theorem Inv.bk (I:Inv X pins σ H s):∀ b o,X.base.get? b=some o->s.heap.get? b=some o:=fun b o e=>(I.bs b o e).1
theorem Inv.mod (I:Inv X pins σ H s):Mod X.K X.mg X.base:=I.ok.mod
theorem Inv.kIn (I:Inv X pins σ H s):X.K.In s.heap:=I.ok.mod.kin.keeps I.bk
theorem Inv.lt (I:Inv X pins σ H s):X.env.locals < s.heap.objs.size:=let ⟨_,hn,_⟩:=I.loc;hn.lt
theorem Inv.sz (I:Inv X pins σ H s):X.s₀.heap.objs.size<=s.heap.objs.size:=Nat.le_trans I.ok.above (Nat.le_of_lt I.lt)
theorem Inv.Xy (I:Inv X pins σ H s) {a:Addr} (h:s.heap.objs.size<=a):a∉X.fs:=fun hb=>by
 obtain ⟨_,o,ho,_⟩:=I.ok.Lq.mem hb
 exact absurd (Nat.lt_of_lt_of_le (Heap.lt_size ho) (Nat.le_trans I.sz h)) (Nat.lt_irrefl _)
theorem Inv.cne (I:Inv X pins σ H s):∀ x c,X.env.cells.lookup x=some c->c≠X.env.locals:=fun x c e z=>by
 obtain ⟨v,o,ho,hd⟩:=I.cell x c e
 obtain ⟨m,⟨o',es,ep,ho',hd',_⟩,_⟩:=I.loc
 rw [z,ho'] at ho;cases ho;rw [hd'] at hd;cases hd
theorem Inv.Lq (I:Inv X pins σ H s):s.heap.FunFrames X.base X.outer:=by
 have all:∀ (l:List Env),(∀ b∈frs l,b∈X.fs)->X.s₀.heap.FunFrames X.base l->s.heap.FunFrames X.base l:=by
  intro l
  induction l with
  | nil=>intro _ _;trivial
  | cons env r ih =>
   intro hs hl
   obtain ⟨hk,⟨L,o,hf,hn,ho,hd⟩,hr⟩:=hl
   have hL:L∈X.fs:=hs L (by unfold frs;rw [List.filterMap_cons,hf];exact List.mem_cons_self)
   obtain ⟨sl,e⟩:=I.base.slot L o ho (I.ok.frf L hL) hL fun z=>I.ok.exfs L z hL
   exact ⟨hk,⟨L,_,hf,hn,e,hd⟩,ih (fun b hb=>hs b (by unfold frs;rw [List.filterMap_cons,hf];exact List.mem_cons_of_mem _ hb)) hr⟩
 exact all X.outer (fun _ hb=>hb) I.ok.Lq
theorem Inv.stack (I:Inv X pins σ H s):s.heap.FunFrames X.base X.stack:=by
 rcases I.ok.stk with e | ⟨e,hf⟩
 ·rw [e];exact I.Lq
 ·rw [e]
  obtain ⟨m,hn,_⟩:=I.loc
  refine .cons (by rw [I.ok.kind];decide) hf hn ?_ I.Lq
  exact Heap.get?_none_of_le (Nat.le_trans I.ok.bsz I.ok.above)
theorem Inv.Ja (I:Inv X pins σ H s):∀ b∈frs X.stack,b∈X.env.locals :: X.fs:=fun b hb=>by
 rcases I.ok.stk with e | ⟨e,hf⟩
 ·rw [e] at hb;exact List.mem_cons_of_mem _ hb
 ·rw [e] at hb
  unfold frs at hb
  rw [List.filterMap_cons,hf] at hb
  exact hb
theorem Inv.J5 (I:Inv X pins σ H s):∀ b∈frs X.stack,H b=none:=fun b hb=>by
 rcases List.mem_cons.mp (I.Ja b hb) with e | hb
 ·rw [e];exact I.free
 ·obtain ⟨_,o,ho,_⟩:=I.ok.Lq.mem hb
  exact I.base.free b o ho (I.ok.frf b hb) fun z=>I.ok.exfs b z hb
theorem Inv.step {g':Array GenState} {t':Nat} {d':Drawn} {ch:List Addr} (I:Inv X pins σ H s)
  (hch:∀ b∈ch,(b∈X.ex∨X.s₀.heap.objs.size<=b)/\b≠X.env.locals/\(∀ x c,X.env.cells.lookup x=some c->c≠b)/\∀ p∈X.pn++pins,p.1≠b)
  (keep:∀ b o,b≠X.env.locals->b∉X.fs->b∉ch->s.heap.get? b=some o->H b=none->h'.get? b=some o)
  (slot:∀ b o,b≠X.env.locals->b∈X.fs->b∉ch->s.heap.get? b=some o->H b=none->∃ sl,h'.get? b=some { o with slots:=sl }) (free:∀ b o,b∉ch->s.heap.get? b=some o->H b=none->H' b=none)
  (there:∀ b o,b∉ch->s.heap.get? b=some o->∃ o',h'.get? b=some o')
  (tups:∀ b xs,H b=some (.tup xs)->H' b=some (.tup xs)) (frzs:∀ b o u,H b=some (.frz o u)->H' b=some (.frz o u)) (tbls:∀ b ps,H b=some (.tbl ps)->∃ more,H' b=some (.tbl (ps++more)))
  (ns:∀ m,s.heap.Ns X.env.locals m->h'.Ns X.env.locals m) (hok:HOk X.prog X.w H' h') (hg:AllBare g') :
  Inv X pins σ H' { s with heap:=h',gens:=g',drawn:=d',toks:=t' }:=by
 have neL:∀ b o,X.s₀.heap.get? b=some o->b≠X.env.locals:=fun b o e=>Nat.ne_of_lt (Nat.lt_of_lt_of_le (Heap.lt_size e) I.ok.above)
 have neC:∀ b o,X.s₀.heap.get? b=some o->b∉X.ex->b∉ch:=fun b o e hx hb=>by
  rcases (hch b hb).1 with z | z
  ·exact hx z
  ·exact absurd (Nat.lt_of_lt_of_le (Heap.lt_size e) z) (Nat.lt_irrefl _)
 have cellK:∀ x c,X.env.cells.lookup x=some c->∀ v,s.heap.IsCell c v->h'.IsCell c v:=fun x c e v ⟨o,ho,hd⟩=>by
  have nch:c∉ch:=fun z=>(hch c z).2.2.1 x c e rfl
  by_cases hc:c∈X.fs
  ·obtain ⟨sl,q⟩:=slot c o (I.cne x c e) hc nch ho (I.freeC x c e)
   exact ⟨_,q,hd⟩
  ·exact ⟨o,keep c o (I.cne x c e) hc nch ho (I.freeC x c e),hd⟩
 refine ⟨I.ok,I.os,hg,⟨fun b o e n hb hx=>?_,fun b o e n hb hx=>?_,fun b o e n hx=>?_,fun b o e hx=>?_,fun b xs e=>tups b xs (I.base.tups b xs e),fun b o xs e=>frzs b o xs (I.base.frzs b o xs e),fun b ps e=>?_⟩,?_,fun x c e=>?_,?_,fun x c e=>?_,fun p hp=>?_,hok,I.len⟩
 ·exact keep b o (neL b o e) hb (neC b o e hx) (I.base.keep b o e n hb hx) (I.base.free b o e n hx)
 ·obtain ⟨sl,e1⟩:=I.base.slot b o e n hb hx
  obtain ⟨sl',e2⟩:=slot b _ (neL b o e) hb (neC b o e hx) e1 (I.base.free b o e n hx)
  exact ⟨sl',e2⟩
 ·obtain ⟨o',e1⟩:=I.base.there b o e hx
  exact free b o' (neC b o e hx) e1 (I.base.free b o e n hx)
 ·obtain ⟨o',e1⟩:=I.base.there b o e hx
  exact there b o' (neC b o e hx) e1
 ·obtain ⟨m1,e1⟩:=I.base.tbls b ps e
  obtain ⟨m2,e2⟩:=tbls b _ e1
  exact ⟨m1++m2,by rw [e2,Array.append_assoc]⟩
 ·obtain ⟨m,hn,hl⟩:=I.loc
  refine ⟨m,ns m hn,fun i x v e1 e2 e3=>?_⟩
  obtain ⟨u,r,l⟩:=hl i x v e1 e2 e3
  refine ⟨u,r,?_⟩
  rcases l with l | ⟨k,c,e,z⟩
  ·exact .inl l
  ·exact .inr ⟨k,c,e,cellK x c e _ z⟩
 ·obtain ⟨v,z⟩:=I.cell x c e
  exact ⟨v,cellK x c e v z⟩
 ·obtain ⟨m,⟨o,_,_,ho,_⟩,_⟩:=I.loc
  exact free _ o (fun z=>(hch _ z).2.1 rfl) ho I.free
 ·obtain ⟨v,o,ho,hd⟩:=I.cell x c e
  exact free c o (fun z=>(hch c z).2.2.1 x c e rfl) ho (I.freeC x c e)
 ·obtain ⟨e,n,ne,nf,d⟩:=I.pin p hp
  have nch:p.1∉ch:=fun z=>(hch p.1 z).2.2.2 p hp rfl
  exact ⟨keep p.1 p.2 ne nf nch e n,free p.1 p.2 nch e n,ne,nf,d⟩
theorem Inv.un {t':Nat} (I:Inv X pins σ H s) (u:Un X.fs [] H H' s.heap h') (hok:HOk X.prog X.w H' h'):Inv X pins σ H' { s with heap:=h',toks:=t' }:=by
 obtain ⟨m,⟨o,es,ep,ho,r⟩,_⟩:=id I.loc
 obtain ⟨sl,hL⟩:=u.any ho I.free (by simp)
 exact I.step (g':=s.gens) (d':=s.drawn) (ch:=[]) (fun _ z=>nomatch z) (fun b o _ hb _ e n=>u.keep b o e n hb (by simp)) (fun b o _ hb _ e n=>u.slot b o e n hb (by simp)) (fun b o _ e n=>u.free b o e n (by simp)) (fun b o _ e=>u.there b o e (by simp)) u.tups u.frzs u.tbls (fun m' hm=>by
  obtain ⟨o',es',ep',ho',r'⟩:=hm
  rw [ho] at ho';cases ho'
  exact ⟨_,es',ep',hL,r'⟩) hok I.bare
theorem Inv.call {g':Array GenState} {t':Nat} {d':Drawn} {ch:List Addr} (I:Inv X pins σ H s) (u:Un (frs X.stack) ch H H' s.heap h') (hok:HOk X.prog X.w H' h') (hg:AllBare g')
  (hch:∀ b∈ch,(b∈X.ex∨X.s₀.heap.objs.size<=b)/\b≠X.env.locals/\(∀ x c,X.env.cells.lookup x=some c->c≠b)/\∀ p∈X.pn++pins,p.1≠b) :
  Inv X pins σ H' { s with heap:=h',gens:=g',drawn:=d',toks:=t' }:=by
 obtain ⟨m,⟨o,es,ep,ho,r⟩,_⟩:=id I.loc
 obtain ⟨sl,hL⟩:=u.any ho I.free fun z=>(hch _ z).2.1 rfl
 exact I.step (ch:=ch) hch (fun b o hL hb hc e n=>u.keep b o e n (fun z=>(List.mem_cons.mp (I.Ja b z)).elim hL hb) hc) (fun b o _ _ hc e n=>u.any e n hc) (fun b o hc e n=>u.free b o e n hc) (fun b o hc e=>u.there b o e hc) u.tups u.frzs u.tbls (fun m' hm=>by
  obtain ⟨o',es',ep',ho',r'⟩:=hm
  rw [ho] at ho';cases ho'
  exact ⟨_,es',ep',hL,r'⟩) hok hg
theorem Inv.turned {t':Nat} {it:Addr} (I:Inv X pins σ H s) (k:∀ b o,b≠it->s.heap.get? b=some o->h'.get? b=some o) (hn:H it=none) (hL:it≠X.env.locals)
  (h1:it∈X.ex∨X.s₀.heap.objs.size<=it) (h2:∀ x c,X.env.cells.lookup x=some c->c≠it) (h3:∀ p∈X.pn++pins,p.1≠it):Inv X pins σ H { s with heap:=h',toks:=t' }:=by
 have nit:∀ b u,H b=some u->b≠it:=fun b u e z=>by rw [z,hn] at e;cases e
 refine I.step (g':=s.gens) (d':=s.drawn) (ch:=[it]) (fun b hb=>?_) (fun b o _ _ hc e _=>k b o (fun z=>hc (by simp [z])) e) (fun b o _ _ hc e _=>⟨o.slots,k b o (fun z=>hc (by simp [z])) e⟩) (fun _ _ _ _ n=>n)
  (fun b o hc e=>⟨o,k b o (fun z=>hc (by simp [z])) e⟩) (fun _ _ e=>e) (fun _ _ _ e=>e) (fun b ps e=>⟨#[],by rw [e];simp⟩) (fun m hm=>?_) (fun b u e=>?_) I.bare
 ·have e:b=it:=by simpa using hb
  subst e
  exact ⟨h1,hL,h2,h3⟩
 ·obtain ⟨o,es,ep,ho,r⟩:=hm
  exact ⟨o,es,ep,k _ o (Ne.symm hL) ho,r⟩
 ·refine (I.hok b u e).Pw (fun c v hc q=>k c v ?_ q) (fun _ q=>q) fun _ _ q=>q
  rcases hc with z | z
  ·rw [z];exact nit b u e
  ·exact nit c _ z
theorem Inv.tok (I:Inv X pins σ H s) (t:Nat):Inv X pins σ H { s with toks:=t }:=I.un (h':=s.heap) (t':=t) Un.refl I.hok
theorem Inv.kept {t':Nat} (I:Inv X pins σ H s) (k:∀ b u,s.heap.get? b=some u->h'.get? b=some u):Inv X pins σ H { s with heap:=h',toks:=t' }:=I.un (Un.kept k) (I.hok.kept k)
theorem Inv.laid {a:Addr} {o:HO} {t':Nat} (I:Inv X pins σ H s) (k:∀ b u,s.heap.get? b=some u->h'.get? b=some u) (hp:s.heap.objs.size<=a) (new:Cg X.prog X.w (upd H a o) h' a o) :
  Inv X pins σ (upd H a o) { s with heap:=h',toks:=t' }:=I.un (Un.laid k hp (I.hok.fresh hp)) (I.hok.laid k hp new)
theorem Inv.write {x e:Addr} {o:HO} {t':Nat} (I:Inv X pins σ H s) (mu:Mut (H x)) (he:e=x∨H e=some (.own x)) (k:∀ b u,b≠e->s.heap.get? b=some u->h'.get? b=some u) (heo:∃ u,h'.get? e=some u)
  (new:Cg X.prog X.w (upd H x o) h' x o):Inv X pins σ (upd H x o) { s with heap:=h',toks:=t' }:=I.un (Un.write mu he k heo) (I.hok.write mu he k heo new)
theorem Inv.Im {pins':List (Addr×Obj)} (I:Inv X pins σ H s) (h:∀ p∈pins',s.heap.get? p.1=some p.2/\H p.1=none/\p.1≠X.env.locals/\p.1∉X.fs/\∀ v,p.2.data≠.cell v):Inv X pins' σ H s :=
 ⟨I.ok,I.os,I.bare,I.base,I.loc,I.cell,I.free,I.freeC,fun p hp=>(List.mem_append.mp hp).elim (fun z=>I.pin p (List.mem_append_left _ z)) (h p),I.hok,I.len⟩
theorem Iq {N:List Str} (hN:N.Nodup) {i j:Nat} {x:Str} (a:N[i]?=some x) (b:N[j]?=some x):i=j:=by
 obtain ⟨h1,e1⟩:=List.getElem?_eq_some_iff.mp a
 obtain ⟨h2,e2⟩:=List.getElem?_eq_some_iff.mp b
 exact (List.getElem_inj hN).mp (e1.trans e2.symm)
theorem I0 {M:Model} {A:Around} {E:Value->Shared->Prop} {i:Nat} {x:Str} {v:V} {u:Value} {Q:Unit->Shared->Prop} (I:Inv X pins σ H s) (hN:X.N.Nodup) (hi:X.N[i]?=some x) (hx:Loc X.env.scope x) (r:RelV v u)
  (h:∀ s',Inv X pins (σ.set i (some v)) H s'->(∃ a,Heap.SameBut a s.heap s'.heap/\(a=X.env.locals∨X.env.cells.lookup x=some a))->Q () s') (hf:X.fn x=true∨X.env.scope.names.lookup x=some .local:=by first | exact .inl rfl | exact .inr rfl | assumption):wpAny M A (storeName X.env x u) Q E s:=by
 obtain ⟨m,hn,hl⟩:=id I.loc
 have hcls:(X.env.scope.kind == .class || (X.env.scope.kind == .module && X.env.locals != X.env.globals))=false:=by rw [I.ok.kind];rfl
 have hiσ:i < σ.length:=by rw [I.len];exact (List.getElem?_eq_some_iff.mp hi).1
 have cne:=I.cne
 have tracked:∀ {a:Addr} {h':Heap},(∃ o,s.heap.get? a=some o/\H a=none)->Heap.SameBut a s.heap h'->HOk X.prog X.w H h':=fun {a h'} ha hs b ob e=>by
  obtain ⟨_,_,hfree⟩:=ha
  refine (I.hok b ob e).Pw (fun c w' hc q=>(hs.2 c ?_).trans q) (fun _ q=>q) fun _ _ q=>q
  rintro rfl
  rcases hc with rfl | hc
  ·rw [hfree] at e;cases e
  ·rw [hfree] at hc;cases hc
 rcases hx with hk | hk
 ·refine wpAny_storeName_local hk hn (fun h' hn' hs=>?_) hcls
  obtain ⟨oL,_,_,hoL,_⟩:=id hn
  refine h _ ⟨I.ok,I.os,I.bare,⟨fun b o e n hb hx=>?_,fun b o e n hb hx=>?_,I.base.free,fun b o e hx=>?_,I.base.tups,I.base.frzs,I.base.tbls⟩,⟨_,hn',fun j y v' e1 e2 e3=>?_⟩,fun y c e=>?_,I.free,I.freeC,fun p hp=>?_,tracked ⟨oL,hoL,I.free⟩ hs,by simpa using I.len⟩ ⟨_,hs,.inl rfl⟩
  ·exact (hs.2 b (Nat.ne_of_lt (Nat.lt_of_lt_of_le (Heap.lt_size e) I.ok.above))).trans (I.base.keep b o e n hb hx)
  ·obtain ⟨sl,e1⟩:=I.base.slot b o e n hb hx
   exact ⟨sl,(hs.2 b (Nat.ne_of_lt (Nat.lt_of_lt_of_le (Heap.lt_size e) I.ok.above))).trans e1⟩
  ·obtain ⟨o',e1⟩:=I.base.there b o e hx
   exact ⟨o',(hs.2 b (Nat.ne_of_lt (Nat.lt_of_lt_of_le (Heap.lt_size e) I.ok.above))).trans e1⟩
  ·by_cases hj:j=i
   ·subst hj
    rw [hi] at e1;cases e1
    rw [List.getElem?_set_self hiσ] at e2
    cases e2
    exact ⟨u,r,.inl ⟨hk,by simp⟩⟩
   ·rw [List.getElem?_set_ne (Ne.symm hj)] at e2
    obtain ⟨u',r',q⟩:=hl j y v' e1 e2 e3
    refine ⟨u',r',?_⟩
    rcases q with ⟨k,e⟩ | ⟨k,c,e,z⟩
    ·refine .inl ⟨k,?_⟩
     have:y≠x:=fun e=>hj (Iq hN e1 (e▸hi))
     simp [this,e]
    ·exact .inr ⟨k,c,e,z.sameBut hs (cne y c e)⟩
  ·obtain ⟨w',z⟩:=I.cell y c e
   exact ⟨w',z.sameBut hs (cne y c e)⟩
  ·obtain ⟨e,n,ne,nf,d⟩:=I.pin p hp
   exact ⟨(hs.2 p.1 ne).trans e,n,ne,nf,d⟩
 ·have hfn:X.fn x=true:=by
   rcases hf with z | z
   ·exact z
   ·rw [z] at hk;cases hk
  obtain ⟨c,hc⟩:=I.ok.has x (.inl hk)
  obtain ⟨w',z⟩:=I.cell x c hc
  refine wpAny_storeName_cell I.ok.kind hk hc z (fun h' hc' hs=>?_)
  obtain ⟨oc,hoc,hocd⟩:=id z
  refine h { s with heap:=h' } ⟨I.ok,I.os,I.bare,⟨fun b o e n hb hx=>?_,fun b o e n hb hx=>?_,I.base.free,fun b o e hx=>?_,I.base.tups,I.base.frzs,I.base.tbls⟩,⟨m,hn.sameBut hs (Ne.symm (cne x c hc)),fun j y v' e1 e2 e3=>?_⟩,fun y c' e=>?_,I.free,I.freeC,fun p hp=>?_,tracked ⟨oc,hoc,I.freeC x c hc⟩ hs,by simpa using I.len⟩ ⟨c,hs,.inr hc⟩
  ·exact (hs.2 b (Nat.ne_of_lt (Nat.lt_of_lt_of_le (Heap.lt_size e) (I.ok.cab x c hfn hc)))).trans (I.base.keep b o e n hb hx)
  ·obtain ⟨sl,e1⟩:=I.base.slot b o e n hb hx
   exact ⟨sl,(hs.2 b (Nat.ne_of_lt (Nat.lt_of_lt_of_le (Heap.lt_size e) (I.ok.cab x c hfn hc)))).trans e1⟩
  ·obtain ⟨o',e1⟩:=I.base.there b o e hx
   exact ⟨o',(hs.2 b (Nat.ne_of_lt (Nat.lt_of_lt_of_le (Heap.lt_size e) (I.ok.cab x c hfn hc)))).trans e1⟩
  ·by_cases hj:j=i
   ·subst hj
    rw [hi] at e1;cases e1
    rw [List.getElem?_set_self hiσ] at e2
    cases e2
    exact ⟨u,r,.inr ⟨.inl hk,c,hc,hc'⟩⟩
   ·rw [List.getElem?_set_ne (Ne.symm hj)] at e2
    obtain ⟨u',r',q⟩:=hl j y v' e1 e2 e3
    refine ⟨u',r',?_⟩
    rcases q with q | ⟨k,c',e,z'⟩
    ·exact .inl q
    ·refine .inr ⟨k,c',e,z'.sameBut hs ?_⟩
     rintro rfl
     exact hj (Iq hN e1 (I.ok.inj _ _ _ e hc▸hi))
  ·by_cases hcc:c'=c
   ·subst hcc;exact ⟨_,hc'⟩
   ·obtain ⟨w2,z2⟩:=I.cell y c' e
    exact ⟨w2,z2.sameBut hs hcc⟩
  ·obtain ⟨e,n,ne,nf,d⟩:=I.pin p hp
   refine ⟨(hs.2 p.1 ?_).trans e,n,ne,nf,d⟩
   intro q
   rw [q,hoc] at e
   have q':oc=p.2:=Option.some.inj e
   exact d w' (by rw [<- q'];exact hocd)
theorem FU {M:Model} {A:Around} {E:Value->Shared->Prop} {i:Nat} {x:Str} {v:V} {u:Value} {Q:Unit->Shared->Prop} (I:Inv X pins σ H s) (hN:X.N.Nodup) (hi:X.N[i]?=some x) (hx:Loc X.env.scope x) (r:RelV v u)
  (h:∀ s',Inv X pins (σ.set i (some v)) H s'->Q () s') (hf:X.fn x=true∨X.env.scope.names.lookup x=some .local:=by first | exact .inl rfl | exact .inr rfl | assumption):wpAny M A (storeName X.env x u) Q E s :=
 I0 I hN hi hx r (fun s' I' _=>h s' I') hf
theorem Inv.VJ {s':Shared} {ch:List Addr} (I:Inv X pins σ H s) (ho:s'.os=s.os) (u:Un (frs X.stack) ch H H' s.heap s'.heap) (hok:HOk X.prog X.w H' s'.heap) (hg:AllBare s'.gens)
  (hch:∀ b∈ch,(b∈X.ex∨X.s₀.heap.objs.size<=b)/\b≠X.env.locals/\(∀ x c,X.env.cells.lookup x=some c->c≠b)/\∀ p∈X.pn++pins,p.1≠b):Inv X pins σ H' s':=by
 obtain ⟨h',g',d',t',o'⟩:=s'
 have e:o'=s.os:=ho
 subst e
 exact I.call (g':=g') (t':=t') (d':=d') u hok hg hch
end
abbrev XK:=Value->Option Addr->Hp->Prop
abbrev St:=List (Option V)
abbrev VK:=V->Hp->Prop
abbrev TE:=St->Hp->VK->Prop
abbrev TT:=St->Hp->(Bool->Hp->Prop)->Prop
abbrev TA:=St->Hp->(List V->Hp->Prop)->Prop
structure Ends where
 nx:St->Hp->Prop
 rt:VK
 bk:St->Hp->Prop:=fun _ _=>False
 ct:St->Hp->Prop:=fun _ _=>False
abbrev TS:=Ends->St->Hp->Prop
def EP (X:Cx) (pins:List (Addr×Obj)) (σ:St) (Q:VK) (u:Value) (s':Shared):Prop:=∃ v H',Inv X pins σ H' s'/\RelV v u/\Q v H'
def TP (X:Cx) (pins:List (Addr×Obj)) (σ:St) (Q:Bool->Hp->Prop) (b:Bool) (s':Shared):Prop:=∃ H',Inv X pins σ H' s'/\Q b H'
def AP (X:Cx) (pins:List (Addr×Obj)) (σ:St) (Q:List V->Hp->Prop) (us:List Value) (s':Shared):Prop:=∃ vs H',Inv X pins σ H' s'/\Vals vs us/\Q vs H'
def SP (X:Cx) (pins:List (Addr×Obj)) (D:Ends) (f:Flow) (s':Shared):Prop :=
 match f with
 | .next=>∃ σ' H',Inv X pins σ' H' s'/\D.nx σ' H'
 | .brk=>∃ σ' H',Inv X pins σ' H' s'/\D.bk σ' H'
 | .cont=>∃ σ' H',Inv X pins σ' H' s'/\D.ct σ' H'
 | .ret u=>∃ v σ' H',Inv X pins σ' H' s'/\RelV v u/\D.rt v H'
def PE (X:Cx) (e:Expr) (t:TE):Prop :=
 ∀ (pins:List (Addr×Obj)) (s:Shared) (σ:St) (H:Hp) (Q:VK),Inv X pins σ H s->t σ H Q->wpAny (model X.prog X.w) X.A (eval e X.env) (EP X pins σ Q) X.xe s
def PT (X:Cx) (e:Expr) (t:TT):Prop :=
 ∀ (pins:List (Addr×Obj)) (s:Shared) (σ:St) (H:Hp) (Q:Bool->Hp->Prop),Inv X pins σ H s->t σ H Q->wpAny (model X.prog X.w) X.A (isTrue e X.env (eval e X.env)) (TP X pins σ Q) X.xe s
def PW (X:Cx) (e:Expr) (t:TT):Prop :=
 ∀ (whole:Sem Value) (pins:List (Addr×Obj)) (s:Shared) (σ:St) (H:Hp) (Q:Bool->Hp->Prop),Inv X pins σ H s->t σ H Q->wpAny (model X.prog X.w) X.A (isTrue e X.env whole) (TP X pins σ Q) X.xe s
theorem PW.pt {X:Cx} {e:Expr} {t:TT} (h:PW X e t):PT X e t:=h _
def PA (X:Cx) (es:List Expr) (t:TA):Prop :=
 ∀ (pos:Pos) (pins:List (Addr×Obj)) (s:Shared) (σ:St) (H:Hp) (Q:List V->Hp->Prop),Inv X pins σ H s->t σ H Q->wpAny (model X.prog X.w) X.A (spliced (backTo pos (starEach es X.env))) (AP X pins σ Q) X.xe s
def PS (X:Cx) (st:Stmt) (t:TS):Prop :=
 ∀ (pins:List (Addr×Obj)) (s:Shared) (σ:St) (H:Hp) (D:Ends),Inv X pins σ H s->t D σ H->wpAny (model X.prog X.w) X.A (exec st X.env) (SP X pins D) X.xe s
def PSs (X:Cx) (st:List Stmt) (t:TS):Prop :=
 ∀ (pins:List (Addr×Obj)) (s:Shared) (σ:St) (H:Hp) (D:Ends),Inv X pins σ H s->t D σ H->wpAny (model X.prog X.w) X.A (execs st X.env) (SP X pins D) X.xe s
theorem thn {α:Type} {t:Sem α} {Q Q':α->Shared->Prop} {M:Model} {A:Around} {E:Value->Shared->Prop} {s:Shared} (h:wpAny M A t Q E s) (hQ:∀ a s,Q a s->Q' a s):wpAny M A t Q' E s:=wpAny_mono h hQ fun _ _ x=>x
section
variable {X:Cx}
def Uk (i:Nat):TE:=fun σ H Q=>∃ v,σ[i]?=some (some v)/\Q v H
def tC (v:V):TE:=fun _ H Q=>Q v H
theorem UK {i:Nat} {x:Str} {pos:Pos} (hN:X.N[i]?=some x) (hv:Vis X.env.scope x) (hd:(x == ("__debug__":Str))=false:=by decide) (hcd:(x == ("__classdict__":Str))=false:=by decide):PE X (.Name x pos) (Uk i):=by
 intro pins s σ H Q I h
 obtain ⟨v,e,h⟩:=h
 obtain ⟨m,hn,hl⟩:=I.loc
 obtain ⟨u,r,l⟩:=hl i x v hN e hv
 have fin:EP X pins σ Q u s:=⟨v,H,I,r,h⟩
 rcases l with ⟨hk,hm⟩ | ⟨hk,c,hc,hcell⟩
 ·exact wpAny_Name (wpAny_loadName_local I.ok.kind hk hn hm fin) hd
 ·rcases hk with hk | hk
  ·exact wpAny_Name (wpAny_loadName_cell I.ok.kind hk hc hcell fin) hd
  ·exact wpAny_Name (wpAny_loadName_free I.ok.kind hk hc hcell fin hcd) hd
theorem UP {i j pos}:PE X (.Constant (.int i) j pos) (tC (.int i)):=fun _ _ _ H _ I h=>wpAny_Constant_int ⟨.int i,H,I.tok _,⟨_,rfl⟩,h⟩
theorem Wu {b j pos}:PE X (.Constant (.bool b) j pos) (tC (.bl b)):=fun _ _ _ H _ I h=>Constant_bool ⟨.bl b,H,I,rfl,h⟩
theorem UM {j pos}:PE X (.Constant .none j pos) (tC .non):=fun _ _ _ H _ I h=>Constant_none ⟨.non,H,I,rfl,h⟩
theorem Rr {x j pos}:PE X (.Constant (.str x) j pos) (tC (.str x)):=fun _ _ _ H _ I h=>Calls.Constant_str ⟨.str x,H,I.tok _,⟨_,rfl⟩,h⟩
def Gl (X:Cx) (x:Str):Prop:=X.env.kindOf x=some .globalImplicit
theorem Fm {E:Value->Shared->Prop} {pins:List (Addr×Obj)} {s:Shared} {σ:St} {H:Hp} {x:Str} {u:Value} {pos:Pos} {Q:Value->Shared->Prop} (I:Inv X pins σ H s) (hg:Gl X x) (hm:X.mg x=some u) (h:Q u s)
  (hd:(x == ("__debug__":Str))=false:=by decide):wpAny (model X.prog X.w) X.A (eval (.Name x pos) X.env) Q E s :=
 Calls.Name_function_global I.ok.kind hg (Calls.loadGlobal_global (by rw [I.ok.glob];exact I.mod.glob.keeps I.bk) hm h) hd
theorem GF {E:Value->Shared->Prop} {pins:List (Addr×Obj)} {s:Shared} {σ:St} {H:Hp} {x:Str} {u:Value} {pos:Pos} {Q:Value->Shared->Prop} (I:Inv X pins σ H s) (hg:Gl X x) (hm:X.mg x=none) (hv:bootBuiltins x=some u) (h:Q u s)
  (hn:x≠"__name__":=by decide) (hd:(x == ("__debug__":Str))=false:=by decide):wpAny (model X.prog X.w) X.A (eval (.Name x pos) X.env) Q E s:=by
 obtain ⟨mb,h1,h2⟩:=I.mod.blt
 exact Calls.Name_function_global I.ok.kind hg (Calls.loadGlobal_builtin (by rw [I.ok.glob];exact I.mod.glob.keeps I.bk) hm (by rw [I.ok.blt];exact h1.keeps I.bk) ((h2 x hn).trans hv) h) hd
theorem Ni {x:Str} {v:V} {u:Value} {pos:Pos} (hg:Gl X x) (hm:X.mg x=some u) (r:RelV v u) (hd:(x == ("__debug__":Str))=false:=by decide):PE X (.Name x pos) (tC v) :=
 fun _ _ _ H _ I h=>Fm I hg hm ⟨v,H,I,r,h⟩ hd
theorem Kc {x:Str} {v:V} {u:Value} {pos:Pos} (hg:Gl X x) (hm:X.mg x=none) (hv:bootBuiltins x=some u) (r:RelV v u) (hn:x≠"__name__":=by decide) (hd:(x == ("__debug__":Str))=false:=by decide):PE X (.Name x pos) (tC v) :=
 fun _ _ _ H _ I h=>GF I hg hm hv ⟨v,H,I,r,h⟩ hn hd
variable {a b:Expr} {ta tb:TE} {pos:Pos}
variable {tA tB':TT} {rest:List Expr}
def Xs (t u:TT):TT:=fun σ H Q=>t σ H fun c H1=>if c=true then u σ H1 Q else Q false H1
def tOr (t u:TT):TT:=fun σ H Q=>t σ H fun c H1=>if c=true then Q true H1 else u σ H1 Q
def Xm (t:TT):TT:=fun σ H Q=>t σ H fun c H1=>Q (!c) H1
theorem Sh (ha:PT X a tA):PW X (.BoolOp .And [a] pos) tA:=by
 intro wh pins s σ H Q I h
 refine isTrue_and (thn (ha pins s σ H Q I h) fun c s1 e=>?_)
 cases c with
 | true=>exact isTrue_and_nil e
 | false=>exact e
theorem UD (ha:PT X a tA):PW X (.BoolOp .Or [a] pos) tA:=by
 intro wh pins s σ H Q I h
 refine isTrue_or (thn (ha pins s σ H Q I h) fun c s1 e=>?_)
 cases c with
 | false=>exact isTrue_or_nil e
 | true=>exact e
theorem UE (ha:PT X a tA) (hb:PW X (.BoolOp .And (b :: rest) pos) tB'):PW X (.BoolOp .And (a :: b :: rest) pos) (Xs tA tB'):=by
 intro wh pins s σ H Q I h
 refine isTrue_and (thn (ha pins s σ H _ I h) fun c s1 ⟨H1,I1,q1⟩=>?_)
 cases c with
 | true=>exact hb wh pins s1 σ H1 Q I1 q1
 | false=>exact ⟨H1,I1,q1⟩
theorem Wk (ha:PT X a tA) (hb:PW X (.BoolOp .Or (b :: rest) pos) tB'):PW X (.BoolOp .Or (a :: b :: rest) pos) (tOr tA tB'):=by
 intro wh pins s σ H Q I h
 refine isTrue_or (thn (ha pins s σ H _ I h) fun c s1 ⟨H1,I1,q1⟩=>?_)
 cases c with
 | true=>exact ⟨H1,I1,q1⟩
 | false=>exact hb wh pins s1 σ H1 Q I1 q1
theorem UG (ha:PT X a tA):PT X (.UnaryOp .Not a pos) (Xm tA):=by
 intro pins s σ H Q I h
 exact isTrue_not (ha pins s σ H (fun c H1=>Q (!c) H1) I h)
def Wg (ta tb:TE):TE:=fun σ H Q=>ta σ H fun x H1=>∃ c,x=.bl c/\if c=true then tb σ H1 Q else Q (.bl false) H1
theorem UL {op} {t:TE} (h:PE X a t):PE X (.BoolOp op [a] pos) t:=fun pins s σ H Q I hw=>BoolOp_one (h pins s σ H Q I hw)
theorem US (ha:PE X a ta) (hb:PE X (.BoolOp .And (b :: rest) pos) tb):PE X (.BoolOp .And (a :: b :: rest) pos) (Wg ta tb):=by
 intro pins s σ H Q I h
 refine BoolOp_and (thn (ha pins s σ H _ I h) fun v s1 ⟨x,H1,I1,r1,q1⟩=>?_)
 obtain ⟨c,rfl,q1⟩:=q1
 cases r1
 refine wpAny_truthy_bool ?_
 cases c with
 | true=>exact hb pins s1 σ H1 Q I1 q1
 | false=>exact ⟨.bl false,H1,I1,rfl,q1⟩
end
def SqL (K:Fg) (H:Hp) (a:Addr) (xs:List V):Prop :=
 Rd H a (.lst xs) ∨
  ∃ (o:Obj) (its:Array Value) (n:Nat),K.lookup a=some o/\o.cls=.type "list"/\o.dict=none/\o.data=.seq its n/\its.size<=sizeLine/\Vals xs its.toList
def SqT (K:Fg) (H:Hp) (a:Addr) (xs:List V):Prop :=
 Rd H a (.tup xs) ∨
  ∃ (o:Obj) (its:Array Value) (n:Nat),K.lookup a=some o/\o.cls=.type "tuple"/\o.data=.seq its n/\its.size<=sizeLine/\Vals xs its.toList
def XJ:Value->Option V
 | .none=>some .non
 | .bool b=>some (.bl b)
 | .int i _=>some (.int i)
 | .str x _=>some (.str x)
 | .bytes b _=>some (.byt b)
 | .float b _=>some (.flt b)
 | .ref a=>some (.ref a)
 | .type n=>some (.ty n)
 | _=>none
theorem RelV.abs {x:V} {u:Value} (r:RelV x u):XJ u=some x:=by
 cases x with
 | non=>cases r;rfl
 | bl _=>cases r;rfl
 | int _=>obtain ⟨t,rfl⟩:=r;rfl
 | str _=>obtain ⟨t,rfl⟩:=r;rfl
 | byt _=>obtain ⟨t,rfl⟩:=r;rfl
 | flt _=>obtain ⟨t,rfl⟩:=r;rfl
 | ref _=>cases r;rfl
 | ty _=>cases r;rfl
theorem RelV.inj {x y:V} {u:Value} (r:RelV x u) (q:RelV y u):x=y:=Option.some.inj (r.abs.symm.trans q.abs)
theorem Vals.inj:∀ {xs ys:List V} {us:List Value},Vals xs us->Vals ys us->xs=ys
 | _,_,_,.nil,.nil=>rfl
 | _,_,_,.cons r t,.cons r' t'=>by rw [r.inj r',Vals.inj t t']
section
variable {X:Cx} {pins:List (Addr×Obj)} {σ:St} {H:Hp} {s:Shared} {a:Addr} {xs ys:List V}
theorem SqL.of {K:Fg} (h:H a=some (.lst xs)):SqL K H a xs:=.inl (.inl h)
theorem SqT.of {K:Fg} (h:H a=some (.tup xs)):SqT K H a xs:=.inl (.inl h)
theorem Inv.list (I:Inv X pins σ H s) (h:SqL X.K H a xs):∃ its:List Value,Vals xs its/\PlainL s.heap a its.toArray/\xs.length<=sizeLine:=by
 rcases h with h | ⟨o,its,n,hk,hc,hd,hs,hz,r⟩
 ·obtain ⟨z,its,n,r,e⟩:=h.ok I.hok
  exact ⟨its,r,⟨_,n,e,rfl,rfl,rfl⟩,z⟩
 ·refine ⟨its.toList,r,⟨o,n,I.kIn a o hk,hc,hd,by simpa using hs⟩,?_⟩
  have e:=r.length
  simp only [Array.length_toList] at e
  omega
theorem Inv.tuple (I:Inv X pins σ H s) (h:SqT X.K H a xs):∃ its:List Value,Vals xs its/\IsTup s.heap a its.toArray/\xs.length<=sizeLine:=by
 rcases h with h | ⟨o,its,n,hk,hc,hs,hz,r⟩
 ·obtain ⟨z,its,r,p⟩:=h.ok I.hok
  exact ⟨its,r,p,z⟩
 ·refine ⟨its.toList,r,⟨o,I.kIn a o hk,hc,n,by simpa using hs⟩,?_⟩
  have e:=r.length
  simp only [Array.length_toList] at e
  omega
theorem Inv.Ql (I:Inv X pins σ H s) (h:SqL X.K H a xs) (h':SqL X.K H a ys):xs=ys:=by
 obtain ⟨its,r,⟨o,n,e,_,_,d⟩,_⟩:=I.list h
 obtain ⟨its',r',⟨o',n',e',_,_,d'⟩,_⟩:=I.list h'
 rw [e] at e';cases e'
 rw [d] at d'
 injection d' with d1 _
 have:its=its':=by simpa using congrArg Array.toList d1
 subst this
 exact r.inj r'
theorem Inv.MN (I:Inv X pins σ H s) (h:SqT X.K H a xs) (h':SqT X.K H a ys):xs=ys:=by
 obtain ⟨its,r,⟨o,e,_,n,d⟩,_⟩:=I.tuple h
 obtain ⟨its',r',⟨o',e',_,n',d'⟩,_⟩:=I.tuple h'
 rw [e] at e';cases e'
 rw [d] at d'
 injection d' with d1 _
 have:its=its':=by simpa using congrArg Array.toList d1
 subst this
 exact r.inj r'
end
abbrev Cx.Ge (X:Cx) (E:Value->Shared->Prop):Cx:={ X with xe:=E }
theorem Cx.Ok.Ge {X:Cx} (ok:X.Ok) (E:Value->Shared->Prop):(X.Ge E).Ok :=
 ⟨ok.mod,ok.kind,ok.glob,ok.blt,ok.above,ok.inj,ok.has,ok.cab,ok.hd,ok.frames,ok.stk,ok.exf,ok.bs,ok.bsz,ok.noex,ok.exfs,ok.Lq,ok.frf⟩
theorem Cx.Ok.Ez {X:Cx} {E:Value->Shared->Prop} (ok:(X.Ge E).Ok):X.Ok :=
 ⟨ok.mod,ok.kind,ok.glob,ok.blt,ok.above,ok.inj,ok.has,ok.cab,ok.hd,ok.frames,ok.stk,ok.exf,ok.bs,ok.bsz,ok.noex,ok.exfs,ok.Lq,ok.frf⟩
section
variable {X:Cx} {pins:List (Addr×Obj)} {σ:St} {H:Hp} {s:Shared} {E:Value->Shared->Prop}
theorem Inv.Ge (I:Inv X pins σ H s) (E:Value->Shared->Prop):Inv (X.Ge E) pins σ H s:=⟨I.ok.Ge E,I.os,I.bare,I.base,I.loc,I.cell,I.free,I.freeC,I.pin,I.hok,I.len⟩
theorem Inv.Ez (I:Inv (X.Ge E) pins σ H s):Inv X pins σ H s:=⟨I.ok.Ez,I.os,I.bare,I.base,I.loc,I.cell,I.free,I.freeC,I.pin,I.hok,I.len⟩
theorem SP.Ez {D:Ends} {f:Flow} {s':Shared} (h:SP (X.Ge E) pins D f s'):SP X pins D f s':=by
 cases f with
 | next=>obtain ⟨σ',H',I,q⟩:=h;exact ⟨σ',H',I.Ez,q⟩
 | brk=>obtain ⟨σ',H',I,q⟩:=h;exact ⟨σ',H',I.Ez,q⟩
 | cont=>obtain ⟨σ',H',I,q⟩:=h;exact ⟨σ',H',I.Ez,q⟩
 | ret u=>obtain ⟨v,σ',H',I,r,q⟩:=h;exact ⟨v,σ',H',I.Ez,r,q⟩
end
section
variable {X:Cx} {st:Stmt} {rest:List Stmt} {t u:TS} {e:Expr} {te:TE} {pos:Pos}
def Wc:TS:=fun D σ H=>D.nx σ H
def W9 (t u:TS):TS:=fun D σ H=>t { D with nx:=u D } σ H
theorem M5:PSs X [] Wc:=fun _ _ σ H _ I h=>wpAny_execs_nil ⟨σ,H,I,h⟩
theorem FV (h1:PS X st t) (h2:PSs X rest u):PSs X (st :: rest) (W9 t u):=by
 intro pins s σ H D I h
 refine wpAny_execs_cons (thn (h1 pins s σ H { D with nx:=u D } I h) fun f s1 q=>?_)
 cases f with
 | next =>
  obtain ⟨σ',H',I',q⟩:=q
  exact h2 pins s1 σ' H' D I' q
 | ret v=>exact q
 | brk=>exact q
 | cont=>exact q
theorem Sj (h1:PS X st t):PSs X [st] t:=by
 intro pins s σ H D I h
 refine wpAny_execs_cons (thn (h1 pins s σ H D I h) fun f s1 q=>?_)
 cases f with
 | next=>exact wpAny_execs_nil q
 | ret v=>exact q
 | brk=>exact q
 | cont=>exact q
theorem Inv.quiet {pins:List (Addr×Obj)} {σ:St} {H:Hp} {s:Shared} (I:Inv X pins σ H s):interactive X.env=false:=by simp [interactive,I.ok.kind]
def We (te:TE):TS:=fun D σ H=>te σ H fun _ H1=>D.nx σ H1
theorem J8 (he:PE X e te) (hs:swapsWith e none pos.line X.env=pure false:=by rfl):PS X (.Expr e pos) (We te):=by
 intro pins s σ H D I h
 exact wpAny_Expr_any (thn (he pins s σ H _ I h) fun v s1 ⟨x,H1,I1,r1,q1⟩=>⟨σ,H1,I1,q1⟩) I.quiet hs
def Xl (te:TE):TS:=fun D σ H=>te σ H D.rt
theorem UI (he:PE X e te):PS X (.Return (some e) pos) (Xl te):=by
 intro pins s σ H D I h
 exact wpAny_Return_some (thn (he pins s σ H _ I h) fun v s1 ⟨x,H1,I1,r1,q1⟩=>⟨x,σ,H1,I1,r1,q1⟩)
def Xo (c:TT) (t u:TS):TS:=fun D σ H=>c σ H fun b H1=>if b=true then t D σ H1 else u D σ H1
theorem Wl {c:Expr} {a b:List Stmt} {tc:TT} (hc:PT X c tc) (ha:PSs X a t) (hb:PSs X b u):PS X (.If c a b pos) (Xo tc t u):=by
 intro pins s σ H D I h
 refine wpAny_If (thn (hc pins s σ H _ I h) fun d s1 ⟨H1,I1,q1⟩=>?_)
 cases d with
 | true=>exact ha pins s1 σ H1 D I1 q1
 | false=>exact hb pins s1 σ H1 D I1 q1
def Um:TS:=fun _ _ _=>False
theorem PX:PS X st Um:=fun _ _ _ _ _ _ h=>h.elim
end
abbrev TG:=V->St->Hp->(St->Hp->Prop)->Prop
abbrev TGs:=List V->St->Hp->(St->Hp->Prop)->Prop
def PG (X:Cx) (target:Expr) (t:TG):Prop :=
 ∀ (pins:List (Addr×Obj)) (s:Shared) (σ:St) (H:Hp) (v:V) (u:Value) (Q:St->Hp->Prop),Inv X pins σ H s->RelV v u->t v σ H Q ->
  wpAny (model X.prog X.w) X.A (assign target X.env u) (fun _ s'=>∃ σ' H',Inv X pins σ' H' s'/\Q σ' H') X.xe s
def PGs (X:Cx) (ts:List Expr) (t:TGs):Prop :=
 ∀ (pins:List (Addr×Obj)) (s:Shared) (σ:St) (H:Hp) (vs:List V) (us:List Value) (Q:St->Hp->Prop),Inv X pins σ H s->Vals vs us->t vs σ H Q ->
  wpAny (model X.prog X.w) X.A (assignInOrder ((assignEach ts X.env).map (·.2)) us) (fun _ s'=>∃ σ' H',Inv X pins σ' H' s'/\Q σ' H') X.xe s
abbrev R0:=V->V->V->Hp->(Hp->Prop)->Prop
def Q4 (X:Cx) (t:R0):Prop :=
 ∀ (pins:List (Addr×Obj)) (s:Shared) (σ:St) (H:Hp) (o i v:V) (ov iv u:Value) (Q:Hp->Prop),Inv X pins σ H s->RelV o ov->RelV i iv->RelV v u->t o i v H Q ->
  wpAny (model X.prog X.w) X.A (setItem ov iv u) (fun _ s'=>∃ H',Inv X pins σ H' s'/\Q H') X.xe s
section
variable {X:Cx} {pos:Pos}
def QC (i:Nat):TG:=fun v σ H Q=>Q (σ.set i (some v)) H
theorem Kb {i:Nat} {x:Str} (hN:X.N.Nodup) (hi:X.N[i]?=some x) (hx:Loc X.env.scope x) (hf:X.fn x=true∨X.env.scope.names.lookup x=some .local:=by first | exact .inl rfl | exact .inr rfl | assumption):PG X (.Name x pos) (QC i):=by
 intro pins s σ H v u Q I r h
 exact wpAny_assign_Name (FU I hN hi hx r (fun s' I'=>⟨_,H,I',h⟩) hf)
def XH:TGs:=fun vs σ H Q=>vs=[]/\Q σ H
def Vm (t:TG) (u:TGs):TGs:=fun vs σ H Q=>∃ v r,vs=v :: r/\t v σ H fun σ' H'=>u r σ' H' Q
theorem Ng:PGs X [] XH:=by
 intro pins s σ H vs us Q I r h
 obtain ⟨e,h⟩:=h
 subst e
 cases r
 exact assignInOrder_nil ⟨σ,H,I,h⟩
theorem AE {e:Expr} {es:List Expr} {t:TG} {u:TGs} (h1:PG X e t) (h2:PGs X es u)
  (hs:(assignEach (e :: es) X.env).map (·.2)=assign e X.env :: (assignEach es X.env).map (·.2):=by rfl):PGs X (e :: es) (Vm t u):=by
 intro pins s σ H vs us Q I r h
 obtain ⟨v,vr,e1,h⟩:=h
 subst e1
 cases r with
 | cons r rr =>
  rw [hs]
  refine assignInOrder_cons (thn (h1 pins s σ H _ _ _ I r h) fun _ s1 ⟨σ1,H1,I1,q1⟩=>?_)
  exact h2 pins s1 σ1 H1 _ _ Q I1 rr q1
def XG (K:Fg) (n:Nat) (t:TGs):TG:=fun v σ H Q=>∃ a xs,v=.ref a/\SqT K H a xs/\xs.length=n/\t xs σ H Q
theorem Rn {es:List Expr} {k:Nat} {t:TGs} {n:Nat} (hc:X.calm=true) (h:PGs X es t)
  (hn:(assignEach es X.env).length=n:=by rfl) (hst:(assignEach es X.env).findIdx? (·.1)=none:=by rfl):PG X (.Tuple es k pos) (XG X.K n t):=by
 intro pins s σ H v u Q I r hw
 obtain ⟨a,xs,e1,hq,hl,hw⟩:=hw
 subst e1
 cases r
 obtain ⟨its,rv,ht,hz⟩:=I.tuple hq
 refine assign_Tuple_tuple (I.ok.hd hc) ht (by simp [hn,<- hl,rv.length]) hst fun h' hx=>?_
 have I1:Inv X pins σ H { s with heap:=h' }:=I.kept (t':=s.toks) fun b o e=>hx b o (Nat.ne_of_lt (Heap.lt_size e)) e
 exact h pins _ σ H xs _ Q I1 (by simpa using rv) hw
def WM (to ti:TE) (t:R0):TG:=fun v σ H Q=>to σ H fun o H1=>ti σ H1 fun i H2=>t o i v H2 fun H3=>Q σ H3
theorem Ro {o i:Expr} {to ti:TE} {t:R0} (ho:PE X o to) (hi:PE X i ti) (hs:Q4 X t)
  (ha:∀ v,assign (.Subscript o i pos) X.env v=(do
   let ov <- holding [v] (eval o X.env)
   let iv <- holding [v,ov] (eval i X.env)
   standAt pos
   holding [v,ov,iv] (setItem ov iv v)
   release [v,ov,iv] []):=by intro _;rfl):PG X (.Subscript o i pos) (WM to ti t):=by
 intro pins s σ H v u Q I r h
 rw [ha]
 refine wpAny_bind (wpAny_holding (thn (ho pins s σ H _ I h) fun ov s1 ⟨x,H1,I1,r1,q1⟩=>?_))
 refine wpAny_bind (wpAny_holding (thn (hi pins s1 σ H1 _ I1 q1) fun iv s2 ⟨y,H2,I2,r2,q2⟩=>?_))
 refine wpAny_bind (wpAny_standAt (wpAny_bind (wpAny_holding (thn (hs pins s2 σ H2 x y v ov iv u _ I2 r1 r2 r q2) fun _ s3 ⟨H3,I3,q3⟩=>?_))))
 exact wpAny_release ⟨σ,H3,I3,q3⟩
def Us (te:TE) (g:TG):TS:=fun D σ H=>te σ H fun x H1=>g x σ H1 D.nx
theorem Rk {tg e:Expr} {te:TE} {g:TG} (he:PE X e te) (hg:PG X tg g) (hs:swapsWithSole [tg] e pos.line X.env=pure false:=by rfl) (hw:swappedStores [tg] e X.env=pure none:=by rfl)
  (h1:(assignEach [tg] X.env).map (·.2)=[assign tg X.env]:=by rfl):PS X (.Assign [tg] e pos) (Us te g):=by
 intro pins s σ H D I h
 refine wpAny_Assign_stores (thn (he pins s σ H _ I h) fun v s1 ⟨x,H1,I1,r1,q1⟩=>?_) hs hw
 rw [h1]
 exact thn (hg pins s1 σ H1 x v _ I1 r1 q1) fun _ s2 q=>q
theorem UH {i:Nat} {x:Str} {e:Expr} {te:TE} {pos':Pos} (hN:X.N.Nodup) (hi:X.N[i]?=some x) (hx:Loc X.env.scope x) (he:PE X e te) (hs:swapsWith e (some (.Name x pos')) pos.line X.env=pure false:=by rfl) (hf:X.fn x=true∨X.env.scope.names.lookup x=some .local:=by first | exact .inl rfl | exact .inr rfl | assumption) :
  PS X (.Assign [.Name x pos'] e pos) (Us te (QC i)):=by
 intro pins s σ H D I h
 refine wpAny_Assign_Name (thn (he pins s σ H _ I h) fun v s1 ⟨y,H1,I1,r1,q1⟩=>?_) hs
 exact FU I1 hN hi hx r1 (fun s2 I2=>⟨_,H1,I2,q1⟩) hf
end
section
variable {X:Cx} {pos:Pos}
end
structure It where
 go:Nat->Hp->Prop
 yld:Nat->Hp->V->Hp->Prop
 stop:Nat->Hp->Prop
def LR (X:Cx) (pins:List (Addr×Obj)) (H:Hp) (b:Addr):Prop :=
 H b=none/\b≠X.env.locals/\b∉X.fs/\(b∈X.ex∨X.s₀.heap.objs.size<=b)/\(∀ x c,X.env.cells.lookup x=some c->c≠b)/\∀ p∈X.pn++pins,p.1≠b
theorem Inv.Tn {X:Cx} {pins:List (Addr×Obj)} {σ:St} {H H':Hp} {s:Shared} {b:Addr} (I:Inv X pins σ H s) (hb:s.heap.objs.size<=b) (hn:H' b=none):LR X pins H' b:=by
 refine ⟨hn,Nat.ne_of_gt (Nat.lt_of_lt_of_le I.lt hb),I.Xy hb,.inr (Nat.le_trans I.sz hb),fun x c e z=>?_,fun p hp z=>?_⟩
 ·obtain ⟨v,q⟩:=I.cell x c e
  exact absurd (Nat.lt_of_lt_of_le q.lt (by rw [z];exact hb)) (Nat.lt_irrefl _)
 ·exact absurd (Nat.lt_of_lt_of_le (Heap.lt_size (I.pin p hp).1) (by rw [z];exact hb)) (Nat.lt_irrefl _)
structure Turn (P:Program) (w:World) (K:Fg) (tg:Expr) (J:It) (fp:List Addr) (it:Addr) (tn:Nat->Heap->Prop):Prop where
 mem:it∈fp
 obj:∀ i h,tn i h->∀ b∈fp,∃ o,h.get? b=some o/\∀ v,o.data≠.cell v
 keep:∀ i h h',tn i h->(∀ b∈fp,∀ o,h.get? b=some o->h'.get? b=some o)->tn i h'
 item:∀ (X:Cx),X.prog=P->X.w=w->X.K=K->X.calm=true->∀ (i:Nat) (pins:List (Addr×Obj)) (s:Shared) (σ:St) (H:Hp) (E:Value->Shared->Prop),Inv X pins σ H s->(∀ b∈fp,LR X pins H b)->tn i s.heap->J.go i H ->
  wpAny (model P w) X.A (pyNext (.ref it)) (fun r s1=>∃ u,r=some u /\
   wpAny (model P w) X.A (letOwnedTupleGo tg (.ref it) u) (fun _ s2=>∃ x H',Inv X pins σ H' s2/\RelV x u/\J.yld i H x H'/\tn (i+1) s2.heap/\∀ b∈fp,H' b=none) E s1) E s
 done:∀ (X:Cx),X.prog=P->X.w=w->X.K=K->X.calm=true->∀ (i:Nat) (pins:List (Addr×Obj)) (s:Shared) (σ:St) (H:Hp) (E:Value->Shared->Prop),Inv X pins σ H s->(∀ b∈fp,LR X pins H b)->tn i s.heap->J.stop i H ->
  wpAny (model P w) X.A (pyNext (.ref it)) (fun r s1=>r=none/\Inv X pins σ H s1) E s
 self:∀ (A:Around) (i:Nat) (s:Shared) (Q:Value->Shared->Prop) (E:Value->Shared->Prop),tn i s.heap->Q (.ref it) s->wpAny (model P w) A (pyIter (.ref it)) Q E s
abbrev TI:=St->Hp->(It->Hp->Prop)->Prop
def PIE (X:Cx) (pins:List (Addr×Obj)) (σ:St) (tg:Expr) (R:It->Hp->Prop) (itv:Value) (s2:Shared):Prop :=
 ∃ (it:Addr) (fp:List Addr) (tn:Nat->Heap->Prop) (J:It) (H':Hp),itv=.ref it/\Inv X pins σ H' s2/\Turn X.prog X.w X.K tg J fp it tn/\tn 0 s2.heap/\(∀ b∈fp,LR X pins H' b)/\R J H'
def PI (X:Cx) (tg iter:Expr) (wi:TI):Prop :=
 ∀ (pins:List (Addr×Obj)) (s:Shared) (σ:St) (H:Hp) (R:It->Hp->Prop),Inv X pins σ H s->wi σ H R ->
  wpAny (model X.prog X.w) X.A (eval iter X.env) (fun v s1=>wpAny (model X.prog X.w) X.A (pyIter v) (PIE X pins σ tg R) X.xe s1) X.xe s
theorem Qx {M:Model} {A:Around} {E:Value->Shared->Prop} {s:Shared} {tg:Expr} {it:Addr} {u:Value} {o:Obj} {n:String} {vs:Array Value} {Q:Unit->Shared->Prop} (ho:s.heap.get? it=some o) (hc:o.cls=.type n) (hd:o.data=.fields vs)
    (hn:["enumerate","zip","dict_itemiterator","dict_reverseitemiterator","odict_iterator","itertools.zip_longest","itertools.pairwise"].contains n=false) (hQ:Q () s):wpAny M A (letOwnedTupleGo tg (.ref it) u) Q E s:=by
  unfold letOwnedTupleGo
  cases tg <;> first
    | exact wpAny_pure hQ
    | (cases u <;> first
        | exact wpAny_pure hQ
        | (refine wpAny_bind (wpAny_load ho ?_)
           rw [hc,hd]
           show wpAny M A (if (["enumerate","zip","dict_itemiterator","dict_reverseitemiterator","odict_iterator","itertools.zip_longest","itertools.pairwise"].contains n && vs[0]? == some (rawInt _))=true then _ else _) Q E s
           rw [if_neg (by intro h;rw [hn,Bool.false_and] at h;cases h)]
           exact wpAny_pure hQ))
def Itl (K:Fg) (a:Addr):It :=
 ⟨fun i H=>∃ xs x,SqL K H a xs/\xs[i]?=some x,fun i H x H'=>H'=H/\∀ xs,SqL K H a xs->xs[i]?=some x,fun i H=>∃ xs,SqL K H a xs/\xs.length<=i⟩
def Itt (K:Fg) (a:Addr):It :=
 ⟨fun i H=>∃ xs x,SqT K H a xs/\xs[i]?=some x,fun i H x H'=>H'=H/\∀ xs,SqT K H a xs->xs[i]?=some x,fun i H=>∃ xs,SqT K H a xs/\xs.length<=i⟩
def Itr (lo:Int) (n:Nat):It:=⟨fun i _=>i < n,fun i H x H'=>H'=H/\x=.int (lo+i),fun i _=>n<=i⟩
theorem IY {P:Program} {w:World} {K:Fg} {tg:Expr} (a it:Addr):Turn P w K tg (Itl K a) [it] it (fun i h=>h.IsListIter it a i) where
 mem:=by simp
 obj:=fun i h st b hb=>by
  have e:b=it:=by simpa using hb
  subst e
  obtain ⟨o,e,c,d⟩:=st
  exact ⟨o,e,fun v z=>by rw [d] at z;cases z⟩
 keep:=fun i h h' st k=>st.at fun o e=>k it (by simp) o e
 item:=by
  intro X hP hw hK hc i pins s σ H E I hf st hg
  subst hP hw hK
  obtain ⟨xs,x,hq,hx⟩:=hg
  obtain ⟨its,rv,p,hz⟩:=I.list hq
  obtain ⟨u,hu,ru⟩:=rv.get hx
  obtain ⟨f0,f1,f2,f3,f4,f5⟩:=hf it (by simp)
  refine wpAny_pyNext_list_item st p.isList (x:=u) (by simpa using hu) fun h' st' sb=>?_
  have I1:Inv X pins σ H { s with heap:=h' }:=I.turned (t':=s.toks) (fun b o hb e=>(sb.2 b hb).trans e) f0 f1 f3 f4 f5
  obtain ⟨o,e,c,d⟩:=id st'
  exact ⟨u,rfl,Qx (s:={ s with heap:=h' }) e c d (by decide) ⟨x,H,I1,ru,⟨rfl,fun ys hy=>by rw [I.Ql hy hq];exact hx⟩,st',fun b hb=>(hf b hb).1⟩⟩
 done:=by
  intro X hP hw hK hc i pins s σ H E I hf st hg
  subst hP hw hK
  obtain ⟨xs,hq,hx⟩:=hg
  obtain ⟨its,rv,p,hz⟩:=I.list hq
  obtain ⟨f0,f1,f2,f3,f4,f5⟩:=hf it (by simp)
  have hl:=rv.length
  exact wpAny_pyNext_list_end (I.ok.hd hc) st p.isList (by simp;omega) fun h' eb=>⟨rfl,I.turned (t':=s.toks) (fun b o hb e=>eb b o hb e) f0 f1 f3 f4 f5⟩
 self:=fun _ _ _ _ _ st h=>wpAny_pyIter_listiter st h
theorem LY {P:Program} {w:World} {K:Fg} {tg:Expr} (a it:Addr):Turn P w K tg (Itt K a) [it] it (fun i h=>h.IsTupleIter it a i) where
 mem:=by simp
 obj:=fun i h st b hb=>by
  have e:b=it:=by simpa using hb
  subst e
  obtain ⟨o,e,c,d⟩:=st
  exact ⟨o,e,fun v z=>by rw [d] at z;cases z⟩
 keep:=fun i h h' st k=>st.at fun o e=>k it (by simp) o e
 item:=by
  intro X hP hw hK hc i pins s σ H E I hf st hg
  subst hP hw hK
  obtain ⟨xs,x,hq,hx⟩:=hg
  obtain ⟨its,rv,p,hz⟩:=I.tuple hq
  obtain ⟨u,hu,ru⟩:=rv.get hx
  obtain ⟨f0,f1,f2,f3,f4,f5⟩:=hf it (by simp)
  refine wpAny_pyNext_tuple_item st (show s.heap.IsTuple a its.toArray from p) (x:=u) (by simpa using hu) fun h' st' sb=>?_
  have I1:Inv X pins σ H { s with heap:=h' }:=I.turned (t':=s.toks) (fun b o hb e=>(sb.2 b hb).trans e) f0 f1 f3 f4 f5
  obtain ⟨o,e,c,d⟩:=id st'
  exact ⟨u,rfl,Qx (s:={ s with heap:=h' }) e c d (by decide) ⟨x,H,I1,ru,⟨rfl,fun ys hy=>by rw [I.MN hy hq];exact hx⟩,st',fun b hb=>(hf b hb).1⟩⟩
 done:=by
  intro X hP hw hK hc i pins s σ H E I hf st hg
  subst hP hw hK
  obtain ⟨xs,hq,hx⟩:=hg
  obtain ⟨its,rv,p,hz⟩:=I.tuple hq
  obtain ⟨f0,f1,f2,f3,f4,f5⟩:=hf it (by simp)
  have hl:=rv.length
  exact wpAny_pyNext_tuple_end (I.ok.hd hc) st (show s.heap.IsTuple a its.toArray from p) (by simp;omega) fun h' eb=>⟨rfl,I.turned (t':=s.toks) (fun b o hb e=>eb b o hb e) f0 f1 f3 f4 f5⟩
 self:=fun _ _ _ _ _ st h=>wpAny_pyIter_tupleiter st h
theorem LZ {P:Program} {w:World} {K:Fg} {tg:Expr} (it:Addr) (lo:Int) (n:Nat):Turn P w K tg (Itr lo n) [it] it (fun i h=>IsRangeIter h it (lo+(i:Nat) * 1) ((n:Int) - (i:Nat)) 1) where
 mem:=by simp
 obj:=fun i h st b hb=>by
  have e:b=it:=by simpa using hb
  subst e
  exact ⟨_,st,fun v z=>by
   have z':Data.fields _=Data.cell v:=z
   cases z'⟩
 keep:=fun i h h' st k=>k it (by simp) _ st
 item:=by
  intro X hP hw hK hc i pins s σ H E I hf st hg
  subst hP hw hK
  obtain ⟨f0,f1,f2,f3,f4,f5⟩:=hf it (by simp)
  have W:=Walks.range (prog:=X.prog) (w:=X.w) (I.ok.hd hc) it lo 1 n
  refine W.item i s _ _ hg st fun v h' tk hv st' kk=>?_
  obtain ⟨t,rfl⟩:=hv
  have I1:Inv X pins σ H { s with heap:=h',toks:=tk }:=I.turned (fun b o hb e=>kk b o (by simpa using hb) e) f0 f1 f3 f4 f5
  refine ⟨_,rfl,Qx (s:={ s with heap:=h',toks:=tk }) (n:="range_iterator") st' rfl rfl (by decide) ⟨.int (lo+i),H,I1,⟨t,?_⟩,⟨rfl,rfl⟩,st',fun b hb=>(hf b hb).1⟩⟩
  rw [Int.mul_one]
 done:=by
  intro X hP hw hK hc i pins s σ H E I hf st hg
  subst hP hw hK
  obtain ⟨f0,f1,f2,f3,f4,f5⟩:=hf it (by simp)
  exact wpAny_pyNext_range_end (I.ok.hd hc) st (by have:n<=i:=hg;omega) fun h' eb=>⟨rfl,I.turned (t':=s.toks) (fun b o hb e=>eb b o hb e) f0 f1 f3 f4 f5⟩
 self:=fun _ _ _ _ _ st h=>wpAny_pyIter_rangeiter st h
section
variable {X:Cx} {tg:Expr}
def WK (K:Fg) (tl:TE):TI:=fun σ H R=>tl σ H fun x H1=>∃ a,x=.ref a/\(∃ xs,SqL K H1 a xs)/\R (Itl K a) H1
theorem Sr {l:Expr} {tl:TE} (hl:PE X l tl):PI X tg l (WK X.K tl):=by
 intro pins s σ H R I h
 refine thn (hl pins s σ H _ I h) fun v s1 ⟨x,H1,I1,r1,q1⟩=>?_
 obtain ⟨a,e,⟨xs,hq⟩,q⟩:=q1
 subst e
 cases r1
 obtain ⟨its,rv,p,hz⟩:=I1.list hq
 refine wpAny_pyIter_list p.isList ?_
 refine ⟨s1.heap.objs.size,[s1.heap.objs.size],_,_,H1,rfl,I1.kept (t':=s1.toks) fun b o e=>Heap.get?_push_of_some _ e,IY a _,⟨_,Heap.get?_push_size _ rfl,rfl,rfl⟩,fun b hb=>?_,q⟩
 have e:b=s1.heap.objs.size:=by simpa using hb
 subst e
 exact I1.Tn (Nat.le_refl _) (I1.hok.fresh (Nat.le_refl _))
theorem PN {pins:List (Addr×Obj)} {σ:St} {H:Hp} {s:Shared} {R:It->Hp->Prop} {E:Value->Shared->Prop} {lo hi:Int} {t u v:Tok} {tk:Nat} (I:Inv X pins σ H s) (h1:-(2 ^ 62)<=lo) (h2:lo < 2 ^ 62) (h3:-(2 ^ 62)<=hi) (h4:hi < 2 ^ 62)
  (q:R (Itr lo (hi - lo).toNat) H):wpAny (model X.prog X.w) X.A (pyIter (.ref s.heap.objs.size)) (PIE X pins σ tg R) E { s with heap:=s.heap.push { cls:=.type "range",data:=.fields #[.int lo t,.int hi u,.int 1 v] },toks:=tk }:=by
 refine wpAny_pyIter_range (IsRange.new ..) (small_one h1 h2 h3 h4) ?_
 have I1:Inv X pins σ H { s with heap:=s.heap.push { cls:=.type "range",data:=.fields #[.int lo t,.int hi u,.int 1 v] },toks:=tk }:=I.kept fun b o e=>Heap.get?_push_of_some _ e
 refine ⟨(s.heap.push { cls:=.type "range",data:=.fields #[.int lo t,.int hi u,.int 1 v] }).objs.size,[(s.heap.push { cls:=.type "range",data:=.fields #[.int lo t,.int hi u,.int 1 v] }).objs.size],_,_,H,rfl,
  I1.kept (t':=tk) fun b o e=>Heap.get?_push_of_some _ e,LZ _ lo (hi - lo).toNat,?_,fun b hb=>?_,q⟩
 ·have e1:lo+((0:Nat):Int) * 1=lo:=by simp
  have e2:(((hi - lo).toNat:Nat):Int) - ((0:Nat):Int)=Builtin.Range.rangeSize lo hi 1:=by rw [rangeSize_one];split <;> omega
  show IsRangeIter _ _ (lo+((0:Nat):Int) * 1) ((((hi - lo).toNat:Nat):Int) - ((0:Nat):Int)) 1
  rw [e1,e2]
  exact Heap.get?_push_size _ rfl
 ·have e:b=(s.heap.push { cls:=.type "range",data:=.fields #[.int lo t,.int hi u,.int 1 v] }).objs.size:=by simpa using hb
  subst e
  exact I1.Tn (Nat.le_refl _) (I1.hok.fresh (Nat.le_refl _))
def WJ (ta:TA):TI:=fun σ H R=>ta σ H fun vs H1=>∃ j:Int,vs=[.int j]/\-(2 ^ 62)<=j/\j < 2 ^ 62/\R (Itr 0 j.toNat) H1
theorem Nd {a:Expr} {ta:TA} {p pos:Pos} (hg:Gl X "range") (hm:X.mg "range"=none) (ha:PA X [a] ta) (hs:starEach [a] X.env=[(false,eval a X.env)]:=by rfl):PI X tg (.Call (.Name "range" p) [a] [] pos) (WJ ta):=by
 intro pins s σ H R I h
 refine Call_ (GF I hg hm boot_range (PyProof.Rows.callWith_type1 (thn (ha pos pins s σ H _ I h) fun us s1 ⟨vs,H1,I1,r1,q1⟩=>?_) hs rfl))
 obtain ⟨j,e,q1,q2,q⟩:=q1
 subst e
 cases r1 with
 | cons r rr =>
  cases rr
  obtain ⟨t,rfl⟩:=r
  exact call_range_1 (PN I1 (by omega) (by omega) q1 q2 (by simpa using q))
def Xq (wi:TI) (g:TG) (tb:TS):TS:=fun D σ H=>wi σ H fun J H1=>∃ W:Nat->Nat->St->Hp->Prop,(∃ m,W 0 m σ H1)/\∀ i m σ H,W i m σ H ->
 (J.stop i H/\D.nx σ H)∨(J.go i H/\∃ N:St->Hp->Prop,(∀ σ' H',N σ' H'->∃ m',m' < m/\W (i+1) m' σ' H')/\∀ x H',J.yld i H x H'->g x σ H' fun σ2 H2=>tb { D with nx:=N,ct:=N,bk:=D.nx } σ2 H2)
def Jl (fp:List Addr) (h:Heap):List (Addr×Obj):=fp.filterMap fun b=>(h.get? b).map fun o=>(b,o)
theorem Ep {fp:List Addr} {h:Heap} {b:Addr} {o:Obj} (hb:b∈fp) (e:h.get? b=some o):(b,o)∈Jl fp h:=List.mem_filterMap.mpr ⟨b,hb,by rw [e];rfl⟩
theorem NB {fp:List Addr} {h:Heap} {p:Addr×Obj} (hp:p∈Jl fp h):p.1∈fp/\h.get? p.1=some p.2:=by
 obtain ⟨b,hb,e⟩:=List.mem_filterMap.mp hp
 cases q:h.get? b with
 | none=>rw [q] at e;cases e
 | some o =>
  rw [q] at e
  have e':(b,o)=p:=Option.some.inj e
  subst e'
  exact ⟨hb,q⟩
theorem Inv.pinned {pins:List (Addr×Obj)} {σ:St} {H:Hp} {s:Shared} {fp:List Addr} (I:Inv X pins σ H s) (hf:∀ b∈fp,LR X pins H b) (ho:∀ b∈fp,∃ o,s.heap.get? b=some o/\∀ v,o.data≠.cell v):Inv X (pins++Jl fp s.heap) σ H s :=
 I.Im fun p hp=>(List.mem_append.mp hp).elim (fun z=>I.pin p (List.mem_append_right _ z)) fun z=>by
  obtain ⟨hb,e⟩:=NB z
  obtain ⟨f0,f1,f2,_⟩:=hf p.1 hb
  obtain ⟨o,e',d⟩:=ho p.1 hb
  rw [e] at e';cases e'
  exact ⟨e,f0,f1,f2,d⟩
theorem Inv.FQ {pins pl:List (Addr×Obj)} {σ:St} {H:Hp} {s:Shared} (I:Inv X (pins++pl) σ H s):Inv X pins σ H s:=I.Im fun p hp=>I.pin p (List.mem_append_right _ (List.mem_append_left _ hp))
theorem Rj {iter:Expr} {body:List Stmt} {wi:TI} {g:TG} {tb:TS} {pos:Pos} (hp:PassesOwn (model X.prog X.w) X.A X.env X.xe) (hc:X.calm=true) (hi:PI X tg iter wi) (hg:PG X tg g) (hb:PSs X body tb)
  (hs:∀ x,foldedSetIterable iter X.env x=pure x:=by intro _;rfl):PS X (.For tg iter body [] pos) (Xq wi g tb):=by
 intro pins s σ H D I h
 refine wpAny_For (thn (hi pins s σ H _ I h) fun v s1 h1=>thn h1 fun itv s2 h2=>?_) hs
 obtain ⟨it,fp,tn,J,H2,e,I2,T,st2,f2,W,⟨m0,w0⟩,turn⟩:=h2
 subst e
 have stat:∀ {H':Hp},(∀ b∈fp,H' b=none)->∀ b∈fp,LR X pins H' b:=fun hn b hb=>⟨hn b hb,(f2 b hb).2⟩
 refine codeAny_forLoop_any (fun n s'=>∃ i σ' H',Inv X pins σ' H' s'/\tn i s'.heap/\(∀ b∈fp,H' b=none)/\W i n σ' H') ?_ m0 ⟨0,σ,H2,I2,st2,fun b hb=>(f2 b hb).1,w0⟩
 rintro n s3 ⟨i,σ3,H3,I3,st3,fr3,w3⟩
 rcases turn i n σ3 H3 w3 with ⟨stop,qn⟩ | ⟨go,N,hN,step⟩
 ·refine wpAny_passesOwn hp (thn (T.done X rfl rfl rfl hc i pins s3 σ3 H3 X.xe I3 (stat fr3) st3 stop) fun r s4 ⟨hr,I4⟩=>?_)
  subst hr
  exact wpAny_execs_nil ⟨σ3,H3,I4,qn⟩
 ·refine wpAny_passesOwn hp (thn (T.item X rfl rfl rfl hc i pins s3 σ3 H3 X.xe I3 (stat fr3) st3 go) fun r s4 ⟨u,hr,h4⟩=>?_)
  subst hr
  refine wpAny_passesOwn hp (thn h4 fun _ s5 ⟨x,H5,I5,r5,y5,st5,fr5⟩=>?_)
  have I5':=I5.pinned (stat fr5) (T.obj _ _ st5)
  refine wpAny_passesOwn hp (thn (hg _ s5 σ3 H5 x u _ I5' r5 (step x H5 y5)) fun _ s6 ⟨σ6,H6,I6,q6⟩=>?_)
  refine wpAny_passesOwn hp (thn (hb _ s6 σ6 H6 _ I6 q6) fun f s7 q7=>?_)
  have again:∀ {σ7:St} {H7:Hp},Inv X (pins++Jl fp s5.heap) σ7 H7 s7->N σ7 H7->∃ m,m < n/\∃ i σ' H',Inv X pins σ' H' s7/\tn i s7.heap/\(∀ b∈fp,H' b=none)/\W i m σ' H':=fun {σ7 H7} I7 n7=>by
   obtain ⟨m',hm,w7⟩:=hN σ7 H7 n7
   refine ⟨m',hm,i+1,σ7,H7,I7.FQ,T.keep _ _ _ st5 fun b hb o e=>(I7.pin (b,o) (List.mem_append_right _ (List.mem_append_right _ (Ep hb e)))).1,fun b hb=>?_,w7⟩
   obtain ⟨o,e,d⟩:=T.obj _ _ st5 b hb
   exact (I7.pin (b,o) (List.mem_append_right _ (List.mem_append_right _ (Ep hb e)))).2.1
  cases f with
  | next=>obtain ⟨σ7,H7,I7,n7⟩:=q7;exact again I7 n7
  | cont=>obtain ⟨σ7,H7,I7,n7⟩:=q7;exact again I7 n7
  | brk=>obtain ⟨σ7,H7,I7,q7⟩:=q7;exact ⟨σ7,H7,I7.FQ,q7⟩
  | ret v=>obtain ⟨x7,σ7,H7,I7,r7,q7⟩:=q7;exact ⟨x7,σ7,H7,I7.FQ,r7,q7⟩
end
abbrev R2:=V->V->Hp->VK->Prop
def OpR (X:Cx) (f:Value->Value->Sem Value) (r:R2):Prop :=
 ∀ (pins:List (Addr×Obj)) (s:Shared) (σ:St) (H:Hp) (x y:V) (v u:Value) (Q:VK),Inv X pins σ H s->RelV x v->RelV y u->r x y H Q ->
  wpAny (model X.prog X.w) X.A (f v u) (EP X pins σ Q) X.xe s
def UnR (X:Cx) (f:Value->Sem Value) (r:V->Hp->VK->Prop):Prop :=
 ∀ (pins:List (Addr×Obj)) (s:Shared) (σ:St) (H:Hp) (x:V) (v:Value) (Q:VK),Inv X pins σ H s->RelV x v->r x H Q ->
  wpAny (model X.prog X.w) X.A (f v) (EP X pins σ Q) X.xe s
def Dj (X:Cx) (f:Value) (r:List V->Hp->VK->Prop):Prop :=
 ∀ (pins:List (Addr×Obj)) (s:Shared) (σ:St) (H:Hp) (xs:List V) (us:List Value) (Q:VK),Inv X pins σ H s->Vals xs us->r xs H Q ->
  wpAny (model X.prog X.w) X.A (call f us) (EP X pins σ Q) X.xe s
def XQ (X:Cx) (r:V->Hp->(Bool->Hp->Prop)->Prop):Prop :=
 ∀ (pins:List (Addr×Obj)) (s:Shared) (σ:St) (H:Hp) (x:V) (v:Value) (Q:Bool->Hp->Prop),Inv X pins σ H s->RelV x v->r x H Q ->
  wpAny (model X.prog X.w) X.A (truthy v) (TP X pins σ Q) X.xe s
def tOp (r:R2) (ta tb:TE):TE:=fun σ H Q=>ta σ H fun x H1=>tb σ H1 fun y H2=>r x y H2 Q
def tUn (r:V->Hp->VK->Prop) (ta:TE):TE:=fun σ H Q=>ta σ H fun x H1=>r x H1 Q
def rI (C:Int->Int->Prop) (g:Int->Int->V):R2:=fun x y H Q=>∃ i j,x=.int i/\y=.int j/\C i j/\Q (g i j) H
def rI0 (g:Int->Int->V):R2:=fun x y H Q=>∃ i j,x=.int i/\y=.int j/\Q (g i j) H
def rU (g:Int->V):V->Hp->VK->Prop:=fun x H Q=>∃ i,x=.int i/\Q (g i) H
section
variable {X:Cx} {a b c:Expr} {ta tb tc:TE} {pos:Pos}
theorem W0 (ha:PE X a ta) (hb:PE X b tb) {pins:List (Addr×Obj)} {s:Shared} {σ:St} {H:Hp} {R:V->V->Hp->Prop} (I:Inv X pins σ H s)
  (h:ta σ H fun x H1=>tb σ H1 fun y H2=>R x y H2) {Q:Value->Shared->Prop} {f:Value->Value->Sem Value}
  (hf:∀ v u s2 x y H2,Inv X pins σ H2 s2->RelV x v->RelV y u->R x y H2->wpAny (model X.prog X.w) X.A (f v u) Q X.xe s2) :
  wpAny (model X.prog X.w) X.A (eval a X.env) (fun v s₁=>wpAny (model X.prog X.w) X.A (eval b X.env) (fun u s₂=>wpAny (model X.prog X.w) X.A (f v u) Q X.xe s₂) X.xe s₁) X.xe s:=by
 refine thn (ha pins s σ H _ I h) fun v s1 ⟨x,H1,I1,r1,q1⟩=>?_
 refine thn (hb pins s1 σ H1 _ I1 q1) fun u s2 ⟨y,H2,I2,r2,q2⟩=>?_
 exact hf v u s2 x y H2 I2 r1 r2 q2
theorem Wn {op:Operator} {r:R2} (ho:OpR X (binaryOp op) r) (ha:PE X a ta) (hb:PE X b tb):PE X (.BinOp a op b pos) (tOp r ta tb):=by
 intro pins s σ H Q I h
 exact wpAny_BinOp (W0 ha hb I h fun v u s2 x y H2 I2 rx ry q=>ho pins s2 σ H2 x y v u Q I2 rx ry q)
theorem Wm {op:UnaryOp} {r:V->Hp->VK->Prop} (ho:UnR X (unaryOp op) r) (ha:PE X a ta):PE X (.UnaryOp op a pos) (tUn r ta):=by
 intro pins s σ H Q I h
 exact UnaryOp_ (thn (ha pins s σ H _ I h) fun v s1 ⟨x,H1,I1,r1,q1⟩=>ho pins s1 σ H1 x v Q I1 r1 q1)
theorem opI {f:Value->Value->Sem Value} {C:Int->Int->Prop} {g:Int->Int->Int}
  (rule:∀ (i j:Int) (t u:Tok) (s:Shared) (Q:Value->Shared->Prop) (E:Value->Shared->Prop),C i j->Q (.int (g i j) s.toks) { s with toks:=s.toks+1 }->wpAny (model X.prog X.w) X.A (f (.int i t) (.int j u)) Q E s) :
  OpR X f (rI C fun i j=>.int (g i j)):=by
 intro pins s σ H x y v u Q I rx ry h
 obtain ⟨i,j,rfl,rfl,hc,q⟩:=h
 obtain ⟨t,rfl⟩:=rx
 obtain ⟨t',rfl⟩:=ry
 exact rule i j t t' s _ _ hc ⟨.int (g i j),H,I.tok _,⟨_,rfl⟩,q⟩
theorem Xx {f:Value->Value->Sem Value} {g:Int->Int->Int}
  (rule:∀ (i j:Int) (t u:Tok) (s:Shared) (Q:Value->Shared->Prop) (E:Value->Shared->Prop),Q (.int (g i j) s.toks) { s with toks:=s.toks+1 }->wpAny (model X.prog X.w) X.A (f (.int i t) (.int j u)) Q E s) :
  OpR X f (rI0 fun i j=>.int (g i j)):=by
 intro pins s σ H x y v u Q I rx ry h
 obtain ⟨i,j,rfl,rfl,q⟩:=h
 obtain ⟨t,rfl⟩:=rx
 obtain ⟨t',rfl⟩:=ry
 exact rule i j t t' s _ _ ⟨.int (g i j),H,I.tok _,⟨_,rfl⟩,q⟩
theorem Wy {f:Value->Value->Sem Value} {g:Int->Int->Bool}
  (rule:∀ (i j:Int) (t u:Tok) (s:Shared) (Q:Value->Shared->Prop) (E:Value->Shared->Prop),Q (.bool (g i j)) s->wpAny (model X.prog X.w) X.A (f (.int i t) (.int j u)) Q E s) :
  OpR X f (rI0 fun i j=>.bl (g i j)):=by
 intro pins s σ H x y v u Q I rx ry h
 obtain ⟨i,j,rfl,rfl,q⟩:=h
 obtain ⟨t,rfl⟩:=rx
 obtain ⟨t',rfl⟩:=ry
 exact rule i j t t' s _ _ ⟨.bl (g i j),H,I,rfl,q⟩
def Xi (i j:Int):Prop:=0 < j/\j < 1073741824
def V6 (i j:Int):Prop:=(-(2 ^ 64) < i/\i < 2 ^ 64)∨(-(2 ^ 64) < j/\j < 2 ^ 64)
theorem V6.ok {i j:Int} (h:V6 i j):IntMulOk i j:=by
 rcases h with ⟨h1,h2⟩ | ⟨h1,h2⟩
 ·exact .of_left (intBits_le_64 h1 h2)
 ·exact .of_right (intBits_le_64 h1 h2)
theorem U0:OpR X (binaryOp .Add) (rI0 fun i j=>.int (i+j)):=Xx fun _ _ _ _ _ _ _ q=>add_int q
theorem SA:OpR X (binaryOp .FloorDiv) (rI Xi fun i j=>.int (i / j)):=opI fun i j _ _ _ _ _ hc q=>by
 have h1:(0:Int) < j:=hc.1
 have h2:j < 1073741824:=hc.2
 exact floordiv_int (by omega) (by rw [Int.fdiv_eq_ediv_of_nonneg i (by omega)];exact q) (.inl (PyProof.noPylong_small (by omega)))
theorem UW:OpR X (binaryOp .Mod) (rI (fun _ j=>0 < j) fun i j=>.int (i % j)):=opI fun i j _ _ _ _ _ hc q=>by
 have h1:(0:Int) < j:=hc
 exact mod_int' (by omega) (by rw [Int.fmod_eq_emod_of_nonneg i (by omega)];exact q)
theorem unI {f:Value->Sem Value} {g:Int->Int}
  (rule:∀ (i:Int) (t:Tok) (s:Shared) (Q:Value->Shared->Prop) (E:Value->Shared->Prop),Q (.int (g i) s.toks) { s with toks:=s.toks+1 }->wpAny (model X.prog X.w) X.A (f (.int i t)) Q E s) :
  UnR X f (rU fun i=>.int (g i)):=by
 intro pins s σ H x v Q I rx h
 obtain ⟨i,rfl,q⟩:=h
 obtain ⟨t,rfl⟩:=rx
 exact rule i t s _ _ ⟨.int (g i),H,I.tok _,⟨_,rfl⟩,q⟩
theorem Ug:UnR X (unaryOp .USub) (rU fun i=>.int (-i)):=unI fun _ _ _ _ _ q=>neg_int q
end
def L8:V->V->Bool
 | .non,.non=>true | .non,.int _=>true | .int _,.non=>true | .non,.bl _=>true | .bl _,.non=>true | .non,.str _=>true | .str _,.non=>true
 | .int _,.int _=>true | .bl _,.bl _=>true | .str _,.str _=>true | .byt _,.byt _=>true
 | .int _,.str _=>true | .str _,.int _=>true | .bl _,.str _=>true | .str _,.bl _=>true
 | _,_=>false
def rEq:R2:=fun x y H Q=>L8 x y=true/\Q (.bl (decide (x=y))) H
def rNe:R2:=fun x y H Q=>L8 x y=true/\Q (.bl (!decide (x=y))) H
theorem OJ {i j:Int}:decide (V.int i=V.int j)=(i == j):=by
 rw [Bool.eq_iff_iff]
 simp
theorem RQ {i j:Bool}:decide (V.bl i=V.bl j)=(i == j):=by
 rw [Bool.eq_iff_iff]
 simp
theorem OI {i j:Str}:decide (V.str i=V.str j)=(i == j):=by
 rw [Bool.eq_iff_iff]
 simp
theorem OK {i j:Array UInt8}:decide (V.byt i=V.byt j)=(i.toList == j.toList):=by
 rw [Bool.eq_iff_iff]
 cases i
 cases j
 simp
section
variable {X:Cx} {a b c:Expr} {ta tb tc:TE} {pos:Pos}
theorem Bl {pins:List (Addr×Obj)} {σ:St} {H:Hp} {s:Shared} {Q:VK} {k k':Bool} (I:Inv X pins σ H s) (q:Q (.bl k) H) (e:k=k'):EP X pins σ Q (.bool k') s:=by
 subst e
 exact ⟨.bl k,H,I,rfl,q⟩
theorem UY:OpR X (compareOp .Eq) rEq:=by
 intro pins s σ H x y v u Q I rx ry h
 obtain ⟨hs,q⟩:=h
 cases x with
 | non =>
  cases rx
  cases y with
  | non=>cases ry;exact PySem.EqNone.eq_none_none (Bl I q (by simp))
  | bl j=>cases ry;exact PySem.EqNone.eq_none_bool (Bl I q (by simp))
  | int j=>obtain ⟨t',rfl⟩:=ry;exact PySem.EqNone.eq_none_int (Bl I q (by simp))
  | str j=>obtain ⟨t',rfl⟩:=ry;exact PySem.EqNone.eq_none_str (Bl I q (by simp))
  | _=>exact absurd (show false=true from hs) Bool.false_ne_true
 | bl i =>
  cases rx
  cases y with
  | non=>cases ry;exact PySem.EqNone.eq_bool_none (Bl I q (by simp))
  | bl j=>cases ry;exact eq_bool (Bl I q RQ)
  | str j=>obtain ⟨t',rfl⟩:=ry;exact PySem.EqMixed.eq_bool_str (Bl I q (by simp))
  | _=>exact absurd (show false=true from hs) Bool.false_ne_true
 | int i =>
  obtain ⟨t,rfl⟩:=rx
  cases y with
  | non=>cases ry;exact PySem.EqNone.eq_int_none (Bl I q (by simp))
  | int j=>obtain ⟨t',rfl⟩:=ry;exact eq_int (Bl I q OJ)
  | str j=>obtain ⟨t',rfl⟩:=ry;exact PySem.EqMixed.eq_int_str (Bl I q (by simp))
  | _=>exact absurd (show false=true from hs) Bool.false_ne_true
 | str i =>
  obtain ⟨t,rfl⟩:=rx
  cases y with
  | non=>cases ry;exact PySem.EqNone.eq_str_none (Bl I q (by simp))
  | bl j=>cases ry;exact PySem.EqMixed.eq_str_bool (Bl I q (by simp))
  | int j=>obtain ⟨t',rfl⟩:=ry;exact PySem.EqMixed.eq_str_int (Bl I q (by simp))
  | str j=>obtain ⟨t',rfl⟩:=ry;exact eq_str (Bl I q OI)
  | _=>exact absurd (show false=true from hs) Bool.false_ne_true
 | byt i =>
  obtain ⟨t,rfl⟩:=rx
  cases y with
  | byt j=>obtain ⟨t',rfl⟩:=ry;exact PySem.W.eq_bytes (Bl I q OK)
  | _=>exact absurd (show false=true from hs) Bool.false_ne_true
 | _=>cases y <;> exact absurd (show false=true from hs) Bool.false_ne_true
theorem Wv:OpR X (compareOp .NotEq) rNe:=by
 intro pins s σ H x y v u Q I rx ry h
 obtain ⟨hs,q⟩:=h
 cases x with
 | non =>
  cases rx
  cases y with
  | non=>cases ry;exact PySem.EqNone.ne_none_none (Bl I q (by simp))
  | bl j=>cases ry;exact PySem.EqNone.ne_none_bool (Bl I q (by simp))
  | int j=>obtain ⟨t',rfl⟩:=ry;exact PySem.EqNone.ne_none_int (Bl I q (by simp))
  | str j=>obtain ⟨t',rfl⟩:=ry;exact PySem.EqNone.ne_none_str (Bl I q (by simp))
  | _=>exact absurd (show false=true from hs) Bool.false_ne_true
 | bl i =>
  cases rx
  cases y with
  | non=>cases ry;exact PySem.EqNone.ne_bool_none (Bl I q (by simp))
  | bl j=>cases ry;exact ne_bool (Bl I q (congrArg not RQ))
  | str j=>obtain ⟨t',rfl⟩:=ry;exact PySem.EqMixed.ne_bool_str (Bl I q (by simp))
  | _=>exact absurd (show false=true from hs) Bool.false_ne_true
 | int i =>
  obtain ⟨t,rfl⟩:=rx
  cases y with
  | non=>cases ry;exact PySem.EqNone.ne_int_none (Bl I q (by simp))
  | int j=>obtain ⟨t',rfl⟩:=ry;exact ne_int (Bl I q (congrArg not OJ))
  | str j=>obtain ⟨t',rfl⟩:=ry;exact PySem.EqMixed.ne_int_str (Bl I q (by simp))
  | _=>exact absurd (show false=true from hs) Bool.false_ne_true
 | str i =>
  obtain ⟨t,rfl⟩:=rx
  cases y with
  | non=>cases ry;exact PySem.EqNone.ne_str_none (Bl I q (by simp))
  | bl j=>cases ry;exact PySem.EqMixed.ne_str_bool (Bl I q (by simp))
  | int j=>obtain ⟨t',rfl⟩:=ry;exact PySem.EqMixed.ne_str_int (Bl I q (by simp))
  | str j=>obtain ⟨t',rfl⟩:=ry;exact ne_str (Bl I q (congrArg not OI))
  | _=>exact absurd (show false=true from hs) Bool.false_ne_true
 | byt i =>
  obtain ⟨t,rfl⟩:=rx
  cases y with
  | byt j=>obtain ⟨t',rfl⟩:=ry;exact PySem.W.ne_bytes (Bl I q (congrArg not OK))
  | _=>exact absurd (show false=true from hs) Bool.false_ne_true
 | _=>cases y <;> exact absurd (show false=true from hs) Bool.false_ne_true
theorem Ww:OpR X (compareOp .Lt) (rI0 fun i j=>.bl (decide (i < j))):=Wy fun _ _ _ _ _ _ _ q=>lt_int q
theorem Me:OpR X (compareOp .LtE) (rI0 fun i j=>.bl (decide (i<=j))):=Wy fun _ _ _ _ _ _ _ q=>le_int q
theorem Wx:OpR X (compareOp .Gt) (rI0 fun i j=>.bl (decide (j < i))):=Wy fun _ _ _ _ _ _ _ q=>gt_int q
theorem Jo:OpR X (compareOp .In) (fun x y H Q=>∃ i j,x=.str i/\y=.str j/\Q (.bl (!(Builtin.Str.occurrences j i 0 j.length 1).isEmpty)) H):=by
 intro pins s σ H x y v u Q I rx ry h
 obtain ⟨i,j,rfl,rfl,q⟩:=h
 obtain ⟨t,rfl⟩:=rx
 obtain ⟨t',rfl⟩:=ry
 exact in_str (Bl I q rfl)
theorem Gw (b:Expr) {op:CmpOp} (h:op≠.In:=by decide) (h2:op≠.NotIn:=by decide):behindInMarks op b=false:=by
 have e1:(op == CmpOp.In)=false:=by cases op <;> first | rfl | exact absurd rfl h
 have e2:(op == CmpOp.NotIn)=false:=by cases op <;> first | rfl | exact absurd rfl h2
 cases b <;> simp [behindInMarks,e1,e2]
theorem Sv {op:CmpOp} {r:R2} (ho:OpR X (compareOp op) r) (ha:PE X a ta) (hb:PE X b tb) (hm:behindInMarks op b=false):PE X (.Compare a [op] [b] pos) (tOp r ta tb):=by
 intro pins s σ H Q I h
 exact wpAny_Compare1 (W0 ha hb I h fun v u s2 x y H2 I2 rx ry q=>ho pins s2 σ H2 x y v u Q I2 rx ry q) hm
def R7 (t:TE):TT:=fun σ H Q=>t σ H fun x H'=>∃ k,x=.bl k/\Q k H'
theorem Si {op:CmpOp} {r:R2} (ho:OpR X (compareOp op) r) (ha:PE X a ta) (hb:PE X b tb) (hm:behindInMarks op b=false):PT X (.Compare a [op] [b] pos) (R7 (tOp r ta tb)):=by
 intro pins s σ H Q I h
 refine wpAny_isTrue_Compare1 (thn (ha pins s σ H _ I h) fun v s1 ⟨x,H1,I1,r1,q1⟩=>thn (hb pins s1 σ H1 _ I1 q1) fun u s2 ⟨y,H2,I2,r2,q2⟩ =>
  thn (ho pins s2 σ H2 x y v u _ I2 r1 r2 q2) fun c s3 ⟨z,H3,I3,r3,k,e,q3⟩=>?_) hm
 subst e
 cases r3
 exact wpAny_truthy_bool ⟨H3,I3,q3⟩
def MQ (r r':R2) (ta tb tc:TE):TE:=fun σ H Q=>ta σ H fun x H1=>tb σ H1 fun y H2=>r x y H2 fun z H3=>∃ k,z=.bl k /\
 (if k=true then tc σ H3 fun w' H4=>r' y w' H4 Q else Q (.bl false) H3)
theorem Ij {op op':CmpOp} {r r':R2} (ho:OpR X (compareOp op) r) (ho':OpR X (compareOp op') r') (ha:PE X a ta) (hb:PE X b tb) (hc:PE X c tc)
  (hm:lastMarks [op,op'] [b,c]=false:=by with_unfolding_all rfl):PT X (.Compare a [op,op'] [b,c] pos) (R7 (MQ r r' ta tb tc)):=by
 intro pins s σ H Q I h
 refine isTrue_chain (thn (ha pins s σ H _ I h) fun v s1 ⟨x,H1,I1,r1,q1⟩=>test_link (thn (hb pins s1 σ H1 _ I1 q1) fun u s2 ⟨y,H2,I2,r2,q2⟩ =>
  thn (ho pins s2 σ H2 x y v u _ I2 r1 r2 q2) fun d s3 ⟨z,H3,I3,r3,k,e,q3⟩=>?_)) hm
 subst e
 cases r3
 refine wpAny_truthy_bool ?_
 cases k with
 | false =>
  obtain ⟨k',e',q'⟩:=q3
  cases e'
  exact ite_ff ⟨H3,I3,q'⟩
 | true =>
  refine ite_tt (test_last (thn (hc pins s3 σ H3 _ I3 q3) fun w' s4 ⟨z',H4,I4,r4,q4⟩=>thn (ho' pins s4 σ H4 y z' u w' _ I4 r2 r4 q4) fun d' s5 ⟨z2,H5,I5,r5,k2,e2,q5⟩=>?_))
  subst e2
  cases r5
  exact wpAny_truthy_bool ⟨H5,I5,q5⟩
def W7 (K:Fg) (x:V) (H:Hp) (k:Bool):Prop :=
 match x with
 | .non=>k=false
 | .bl b=>k=b
 | .int i=>k=(i != 0)
 | .str y=>y.length<=sizeLine/\k=((y.length:Int) != 0)
 | .byt y=>y.size<=sizeLine/\k=((y.size:Int) != 0)
 | .ref p=>(∃ xs,SqL K H p xs/\k=!xs.isEmpty)∨(∃ xs,SqT K H p xs/\k=!xs.isEmpty)∨∃ kvs,H p=some (.dK kvs)/\k=!kvs.isEmpty
 | _=>False
theorem Mq {κ:Type} {kvs:List (κ×V)} {vs:List (κ×Value)} (r:KV kvs vs):(!vs.isEmpty)=!kvs.isEmpty:=by
 cases r <;> rfl
theorem HE {xs:List V} {its:List Value} (r:Vals xs its):(!its.toArray.isEmpty)=!xs.isEmpty:=by
 cases r <;> simp
theorem GB:(sizeLine:Nat) < 2 ^ 63:=by rw [sizeLine_eq];decide
theorem Ui:XQ X (fun x H Q=>∃ k,W7 X.K x H k/\Q k H):=by
 intro pins s σ H x v Q I rx h
 obtain ⟨k,e,q⟩:=h
 have hl:=GB
 have hs:sizeLine=16777216:=sizeLine_eq
 cases x with
 | non =>
  cases rx
  have e':k=false:=e
  subst e'
  exact truthy_none ⟨H,I,q⟩
 | bl b =>
  cases rx
  have e':k=b:=e
  subst e'
  exact wpAny_truthy_bool ⟨H,I,q⟩
 | int i =>
  obtain ⟨t,rfl⟩:=rx
  have e':k=(i != 0):=e
  subst e'
  exact PySem.P.truthy_int ⟨H,I,q⟩
 | str y =>
  obtain ⟨t,rfl⟩:=rx
  obtain ⟨hy,e'⟩:y.length<=sizeLine/\k=((y.length:Int) != 0):=e
  subst e'
  exact PySem.P.truthy_str (by omega) ⟨H,I.tok _,q⟩
 | byt y =>
  obtain ⟨t,rfl⟩:=rx
  obtain ⟨hy,e'⟩:y.size<=sizeLine/\k=((y.size:Int) != 0):=e
  subst e'
  exact PySem.W.truthy_bytes (by omega) ⟨H,I.tok _,q⟩
 | ref p =>
  cases rx
  have e':(∃ xs,SqL X.K H p xs/\k=!xs.isEmpty)∨(∃ xs,SqT X.K H p xs/\k=!xs.isEmpty)∨∃ kvs,H p=some (.dK kvs)/\k=!kvs.isEmpty:=e
  rcases e' with ⟨xs,hx,e'⟩ | ⟨xs,hx,e'⟩ | ⟨kvs,hx,e'⟩
  ·subst e'
   obtain ⟨its,r,pl,hz⟩:=I.list hx
   have hlen:=r.length
   exact wpAny_truthy_list pl.isList (by simp only [List.size_toArray];omega) ⟨H,I.tok _,by rw [HE r];exact q⟩
  ·subst e'
   obtain ⟨its,r,pl,hz⟩:=I.tuple hx
   have hlen:=r.length
   exact truthy_tuple pl (by simp only [List.size_toArray];omega) ⟨H,I.tok _,by rw [HE r];exact q⟩
  ·subst e'
   obtain ⟨hz,hS,vs,r,m⟩:kvs.length<=sizeLine/\(p == sysModules)=false/\∃ vs,KV kvs vs/\s.heap.DictOf (Cp X.prog X.w) p vs:=I.hok p _ hx
   have hlen:kvs.length=vs.length:=Paired.length r
   exact wpAny_truthy_dict hS m (by omega) ⟨H,I.tok _,by rw [Mq r];exact q⟩
 | _=>exact (show False from e).elim
theorem PV (ha:PE X a ta) (he:∀ whole,isTrue a X.env whole=(do let v <- whole;standAt a.pos;holding [v] (truthy v))) :
  PT X a (fun σ H Q=>ta σ H fun x H'=>∃ k,W7 X.K x H' k/\Q k H'):=by
 intro pins s σ H Q I h
 exact isTrue_plain (thn (ha pins s σ H _ I h) fun v s1 ⟨x,H1,I1,r1,q1⟩=>Ui pins s1 σ H1 x v Q I1 r1 q1) (he _)
theorem Mf:OpR X (binaryOp .Add) (fun x y H Q=>∃ i j,x=.str i/\y=.str j/\i.length+j.length<=sizeLine/\Q (.str (i++j)) H):=by
 intro pins s σ H x y v u Q I rx ry h
 obtain ⟨i,j,rfl,rfl,hz,q⟩:=h
 obtain ⟨t,rfl⟩:=rx
 obtain ⟨t',rfl⟩:=ry
 exact add_str (fun t' tk=>⟨.str (i++j),H,I.tok _,⟨_,rfl⟩,q⟩) hz
theorem vals1 {x:V} {us:List Value} (r:Vals [x] us):∃ u,us=[u]/\RelV x u:=by
 cases r with
 | cons r1 r2=>cases r2;exact ⟨_,rfl,r1⟩
theorem vals2 {x y:V} {us:List Value} (r:Vals [x,y] us):∃ u w',us=[u,w']/\RelV x u/\RelV y w':=by
 cases r with
 | cons r1 r2 =>
  cases r2 with
  | cons r3 r4=>cases r4;exact ⟨_,_,rfl,r1,r3⟩
theorem OV (hc:X.calm=true):Dj X (.builtin "min") (fun xs H Q=>∃ i j,xs=[.int i,.int j]/\Q (.int (if j < i then j else i)) H):=by
 intro pins s σ H xs us Q I r h
 obtain ⟨i,j,rfl,q⟩:=h
 obtain ⟨u,w',rfl,⟨t,rfl⟩,⟨t',rfl⟩⟩:=vals2 r
 refine min_two_ints (I.ok.hd hc) fun h' tk k=>⟨_,H,I.kept k,?_,q⟩
 by_cases hj:j < i
 ·rw [if_pos hj,if_pos hj];exact ⟨_,rfl⟩
 ·rw [if_neg hj,if_neg hj];exact ⟨_,rfl⟩
theorem OW:Dj X (.type "int") (fun xs H Q=>(∃ i,xs=[.int i]/\Q (.int i) H)∨∃ k,xs=[.bl k]/\Q (.int (if k then 1 else 0)) H):=by
 intro pins s σ H xs us Q I r h
 rcases h with ⟨i,rfl,q⟩ | ⟨k,rfl,q⟩
 ·obtain ⟨u,rfl,t,rfl⟩:=vals1 r
  exact call_int_int ⟨.int i,H,I,⟨_,rfl⟩,q⟩
 ·obtain ⟨u,rfl,r1⟩:=vals1 r
  cases r1
  exact call_int_bool ⟨.int (if k then 1 else 0),H,I.tok _,⟨_,rfl⟩,q⟩
end
structure T4 (h:Heap) (x dx C:Addr) (mA:Str->Option Value):Prop where
 obj:h.get? x=some (PySem.W.instObj C dx)
 ns:h.Ns1 dx mA
 ne:dx≠x
theorem NO {h:Heap} {dx:Addr} {mA:Str->Option Value} (n:h.Ns1 dx mA):∃ od,h.get? dx=some od/\∀ name,PySem.W.lookIn name od=some (mA name):=by
 obtain ⟨o,es,ep,ho,hd,hk,_,hm⟩:=n
 refine ⟨o,ho,fun name=>?_⟩
 have e:=hm name
 unfold nsFind findBy at e
 rw [<- Array.find?_toList] at e
 unfold PySem.W.lookIn
 rw [hd]
 dsimp only
 split
 ·rename_i y q
  rw [q] at e
  exact congrArg some e
 ·rename_i q
  rw [q] at e
  have a:es.toList.any (·.refKey)=false:=by
   rw [List.any_eq_false]
   intro y hy
   obtain ⟨z,t,hkey⟩:=hk y (Array.mem_toList_iff.mp hy)
   simp [DictEntry.refKey,hkey]
  have a':¬ es.toList.any (·.refKey)=true:=by rw [a];exact Bool.false_ne_true
  rw [if_neg a']
  exact congrArg some e
theorem T4.look {h:Heap} {x dx C:Addr} {mA:Str->Option Value} (I:T4 h x dx C mA):∃ od,PySem.W.InstAt h x (PySem.W.instObj C dx) C (some od)/\∀ name,PySem.W.lookIn name od=some (mA name) :=
 let ⟨od,ho,hl⟩:=NO I.ns
 ⟨od,⟨I.obj,rfl,rfl,ho⟩,hl⟩
section
variable {prog:Program} {w:World} {A:Around} {E:Value->Shared->Prop} {s:Shared} {K:Fg} {x dx C f:Addr} {mA:Str->Option Value} {name:Str} {v:Value}
theorem get_map {expr:Bool} {Q:Value->Shared->Prop} (X:K.In s.heap) (I:T4 s.heap x dx C mA) (hg:PySem.W.plainGet K C name=true) (hh:PySem.W.hasDictIn K C=true)
  (ha:PySem.W.findIn K (.ref C) name=some none) (hv:mA name=some v) (hv':PySem.W.handedIn v=true) (h:Q v { s with toks:=s.toks+1 }) :
  wpAny (model prog w) A (getAttr (.ref x) name expr) Q E s:=by
 obtain ⟨od,J,hl⟩:=I.look
 exact PySem.W.get_value X J (PySem.W.plainGet_of hg).1 (PySem.W.findObj_own hh ha rfl (by rw [hl,hv])) hv' h
theorem Qy {pl:Sem Bool} {Q:Value×List Value->Shared->Prop} (X:K.In s.heap) (I:T4 s.heap x dx C mA) (hg:PySem.W.plainGet K C name=true)
  (hf:PySem.W.findIn K (.ref C) name=some (some (.ref f))) (ht:PySem.W.isFn K (.ref f)=true) (hv:mA name=none) (h:Q (.ref f,[.ref x]) s) :
  wpAny (model prog w) A (getMethod (.ref x) name pl) Q E s:=by
 obtain ⟨od,J,hl⟩:=I.look
 exact PySem.W.method_fn X J (PySem.W.plainGet_of hg).1 (PySem.W.plainGet_of hg).2 hf (beq_iff_eq.mp ht) (by show (PySem.W.lookIn name od).map (·.isSome)=some false;rw [hl,hv];rfl) h
theorem Sf {ns:List Str} {Q:Unit->Shared->Prop} (X:K.In s.heap) (I:T4 s.heap x dx C mA)
  (hs:PySem.W.findIn K (.ref C) "__setattr__"=some (some (.builtin "object.__setattr__"))) (hp:PySem.W.plainOver K C=true) (ht:PySem.W.takerIn K C name=some none) (hh:PySem.W.hasDictIn K C=true)
  (hw:PySem.Within mA ns) (hsz:ns.length<=sizeLine)
  (h:∀ h',T4 h' x dx C (fun y=>if y=name then some v else mA y)->Heap.SameBut dx s.heap h'->Q () { s with heap:=h',toks:=s.toks+2 }) :
  wpAny (model prog w) A (setAttr (.ref x) name v) Q E s:=by
 obtain ⟨od,J,hl⟩:=I.look
 refine PySem.W.set_plain X J hs (PySem.W.osa_open (s:={ s with toks:=s.toks+1 }) (r:=none) X J hp ht fun b=>?_)
 obtain ⟨cd,hc,hd'⟩:=PySem.W.any_some hh
 have hx:s.heap.get? x=some ⟨.ref C,some dx,.plain,#[]⟩:=I.obj
 refine wpAny_bind (wpAny_pure (wpAny_bind (wpAny_bind (wpAny_loadPart hx (wpAny_bind (PySem.W.Looks.here (s:={ s with toks:=s.toks+1 }) (PySem.W.looks_clsIn X hc) ?_))))))
 rw [hd']
 refine wpAny_pure (a:=some dx) (wpAny_bind (wpAny_pure (wpAny_bind ?_)))
 refine wpAny_nsSet1 (s:={ s with toks:=s.toks+1 }) I.ns fun h' hn2 hs2=>?_
 obtain ⟨oD,esD,epD,hoD,hdD,hcD⟩:=hn2.count (PySem.Within.cons name v hw)
 refine wpAny_bind (wpAny_lookBehind hoD (by rw [hdD];exact pastItsLine_dict (Nat.le_trans hcD (by rw [List.length_cons];omega))) ?_)
 exact wpAny_pure (h _ ⟨(hs2.2 _ (Ne.symm I.ne)).trans I.obj,hn2,I.ne⟩ hs2)
theorem Qj {R:Result->Shared->Prop} {vs:List Value} {kw:List (Str×Value)} (X:K.In s.heap) (hm:PySem.W.makesIn K C=true)
  (hi:PySem.W.findIn K (.ref C) "__init__"=some (some (.ref f))) (hf:PySem.W.typeIn K (.ref f)=some (.type "function"))
  (h:codeAny (model prog w) (A.under (.builtin "type.__call__" ⟨.ref C :: vs,kw⟩)) (.call (.ref f) ⟨.ref (s.heap.objs.size+1) :: vs,kw⟩) (PySem.W.InitBack (s.heap.objs.size+1) R)
   { s with heap:=(s.heap.push PySem.W.emptyDict).push (PySem.W.instObj C s.heap.objs.size) }) :
  codeAny (model prog w) A (.call (.ref C) ⟨vs,kw⟩) R s:=by
 obtain ⟨hh,g,d,t,os⟩:=s
 exact PySem.W.make_core (PySem.W.makes_of X hm) (PySem.W.looks_findIn X hi) (fun self=>PySem.W.bind_fn X self hf) (.inl rfl) h
end
def Fz (f:Str) (v:V):List (Str×V)->List (Str×V)
 | []=>[(f,v)]
 | (g,x) :: r=>if g=f then (g,v) :: r else (g,x) :: Fz f v r
theorem GA (f g:Str) (v:V):∀ fs:List (Str×V),(Fz f v fs).lookup g=if g=f then some v else fs.lookup g
 | []=>by
  show List.lookup g [(f,v)]=_
  by_cases h:g=f
  ·have hb:(g == f)=true:=beq_iff_eq.mpr h
   simp only [List.lookup,hb,if_pos h]
  ·have hb:(g == f)=false:=beq_eq_false_iff_ne.mpr h
   simp only [List.lookup,hb,if_neg h]
 | (k,x) :: r=>by
  have ih:=GA f g v r
  rw [show Fz f v ((k,x) :: r)=(if k=f then (k,v) :: r else (k,x) :: Fz f v r) from rfl]
  by_cases hk:k=f
  ·rw [if_pos hk]
   by_cases h:g=k
   ·have hb:(g == k)=true:=beq_iff_eq.mpr h
    simp only [List.lookup,hb,if_pos (h.trans hk)]
   ·have hb:(g == k)=false:=beq_eq_false_iff_ne.mpr h
    simp only [List.lookup,hb,if_neg (fun e:g=f=>h (e.trans hk.symm))]
  ·rw [if_neg hk]
   by_cases h:g=k
   ·have hb:(g == k)=true:=beq_iff_eq.mpr h
    simp only [List.lookup,hb,if_neg (fun e:g=f=>hk (h.symm.trans e))]
   ·have hb:(g == k)=false:=beq_eq_false_iff_ne.mpr h
    simp only [List.lookup,hb]
    exact ih
theorem GG (f:Str) (v:V):∀ fs:List (Str×V),f∈(Fz f v fs).map (·.1)/\∀ g,g∈fs.map (·.1)->g∈(Fz f v fs).map (·.1)
 | []=>⟨by simp [Fz],fun g h=>by simp at h⟩
 | (k,x) :: r=>by
  obtain ⟨i1,i2⟩:=GG f v r
  rw [show Fz f v ((k,x) :: r)=(if k=f then (k,v) :: r else (k,x) :: Fz f v r) from rfl]
  by_cases hk:k=f
  ·rw [if_pos hk]
   subst hk
   exact ⟨by simp,fun g h=>by simpa using h⟩
  ·rw [if_neg hk]
   refine ⟨?_,fun g h=>?_⟩
   ·rw [List.map_cons]
    exact List.mem_cons_of_mem _ i1
   ·rw [List.map_cons] at h ⊢
    rcases List.mem_cons.mp h with e | e
    ·exact List.mem_cons.mpr (.inl e)
    ·exact List.mem_cons_of_mem _ (i2 g e)
theorem GD (f:Str) (v:V):∀ fs:List (Str×V),(Fz f v fs).length<=fs.length+1
 | []=>by simp [Fz]
 | (k,x) :: r=>by
  have ih:=GD f v r
  rw [show Fz f v ((k,x) :: r)=(if k=f then (k,v) :: r else (k,x) :: Fz f v r) from rfl]
  by_cases hk:k=f
  ·rw [if_pos hk,List.length_cons,List.length_cons];omega
  ·rw [if_neg hk,List.length_cons,List.length_cons];omega
theorem AK.some_of {v:V} {o:Option Value} (r:AK (some v) o):∃ u,o=some u/\RelV v u:=by
 cases o with
 | none=>exact (show False from r).elim
 | some u=>exact ⟨u,rfl,r⟩
theorem AK.none_of {o:Option Value} (r:AK none o):o=none:=by
 cases o with
 | none=>rfl
 | some u=>exact (show False from r).elim
theorem Ob {v:V} {u:Value} (r:RelV v u):PySem.W.handedIn u=true:=by
 cases v with
 | non=>cases (show u=Value.none from r);rfl
 | bl b=>cases (show u=Value.bool b from r);rfl
 | int i=>obtain ⟨t,e⟩:=(show ∃ t,u=Value.int i t from r);cases e;rfl
 | str x=>obtain ⟨t,e⟩:=(show ∃ t,u=Value.str x t from r);cases e;rfl
 | byt b=>obtain ⟨t,e⟩:=(show ∃ t,u=Value.bytes b t from r);cases e;rfl
 | flt b=>obtain ⟨t,e⟩:=(show ∃ t,u=Value.float b t from r);cases e;rfl
 | ref a=>cases (show u=Value.ref a from r);rfl
 | ty n=>cases (show u=Value.type n from r);rfl
section
variable {P:Program} {w:World} {H H':Hp} {h h':Heap} {a C dx:Addr} {fs fs':List (Str×V)}
theorem IA (hok:HOk P w H h) (e:H a=some (.ins C dx fs)):∃ mA,T4 h a dx C mA/\(∀ f,AK (fs.lookup f) (mA f))/\PySem.Within mA (fs.map (·.1))/\fs.length<=1000/\H dx=some (.own a):=by
 obtain ⟨d,z,ne,ob,mA,n,r,q⟩:=(show Cg P w H h a (.ins C dx fs) from hok a _ e)
 exact ⟨mA,⟨ob,n,ne⟩,r,q,z,d⟩
end
structure Cls (K:Fg) (C:Addr):Prop where
 pg:PySem.W.plainGet K C Str.empty=true
 hd:PySem.W.hasDictIn K C=true
 po:PySem.W.plainOver K C=true
 sa:PySem.W.findIn K (.ref C) "__setattr__"=some (some (.builtin "object.__setattr__"))
theorem Cls.get {K:Fg} {C:Addr} (c:Cls K C) (f:Str):PySem.W.plainGet K C f=true:=c.pg
def DX (K:Fg) (C:Addr) (f:Str):Prop:=PySem.W.findIn K (.ref C) f=some none
theorem DX.Wa {K:Fg} {C:Addr} {f:Str} (n:DX K C f):PySem.W.takerIn K C f=some none:=by
 unfold PySem.W.takerIn
 rw [show PySem.W.findIn K (.ref C) f=some none from n]
 rfl
structure Meth (K:Fg) (C:Addr) (m:Str) (f:Addr):Prop where
 at_:PySem.W.findIn K (.ref C) m=some (some (.ref f))
 fn:PySem.W.isFn K (.ref f)=true
 kp:PySem.W.keepIn K (.ref f)=true
section
variable {X:Cx} {pins:List (Addr×Obj)} {σ:St} {H:Hp} {s:Shared} {a C dx:Addr} {fs:List (Str×V)} {f:Str} {v:V} {A:Around} {E:Value->Shared->Prop}
theorem Ms {b:Bool} {Q:Value->Shared->Prop} (I:Inv X pins σ H s) (e:H a=some (.ins C dx fs)) (c:Cls X.K C) (n:DX X.K C f) (l:fs.lookup f=some v)
  (h:∀ u s',Inv X pins σ H s'->RelV v u->Q u s'):wpAny (model X.prog X.w) A (getAttr (.ref a) f b) Q E s:=by
 obtain ⟨mA,O,r,_,_,_⟩:=IA I.hok e
 obtain ⟨u,hu,ru⟩:=AK.some_of (v:=v) (o:=mA f) (by rw [<- l];exact r f)
 exact get_map I.kIn O (c.get f) c.hd n hu (Ob ru) (h u _ (I.tok _) ru)
theorem HG {m:Str} {g:Addr} {pl:Sem Bool} {Q:Value×List Value->Shared->Prop} (I:Inv X pins σ H s) (e:H a=some (.ins C dx fs)) (c:Cls X.K C) (k:Meth X.K C m g) (l:fs.lookup m=none)
  (h:Q (.ref g,[.ref a]) s):wpAny (model X.prog X.w) A (getMethod (.ref a) m pl) Q E s:=by
 obtain ⟨mA,O,r,_,_,_⟩:=IA I.hok e
 have hn:mA m=none:=AK.none_of (by rw [<- l];exact r m)
 exact Qy I.kIn O (c.get m) k.at_ k.fn hn h
theorem L7 {y:V} {u:Value} {Q:Unit->Shared->Prop} (I:Inv X pins σ H s) (e:H a=some (.ins C dx fs)) (c:Cls X.K C) (n:DX X.K C f) (hl:fs.length < 1000) (ry:RelV y u)
  (h:∀ s',Inv X pins σ (upd H a (.ins C dx (Fz f y fs))) s'->Q () s'):wpAny (model X.prog X.w) A (setAttr (.ref a) f u) Q E s:=by
 obtain ⟨mA,O,r,wi,_,ho⟩:=IA I.hok e
 have hz:(fs.map (·.1)).length<=sizeLine:=by rw [List.length_map,sizeLine_eq];omega
 refine Sf I.kIn O c.sa c.po n.Wa c.hd wi hz fun h' O' sb=>h _ ?_
 have hd:∃ o,h'.get? dx=some o:=let ⟨o,_,_,e',_⟩:=O'.ns;⟨o,e'⟩
 refine I.write (x:=a) (e:=dx) (by rw [e];exact True.intro) (.inr ho) (fun b q hb z=>(sb.2 b hb).trans z) hd ?_
 refine ⟨by rw [Aq O.ne];exact ho,?_,O.ne,O'.obj,_,O'.ns,fun g=>?_,fun g hg=>?_⟩
 ·have:=GD f y fs;omega
 ·show AK ((Fz f y fs).lookup g) (if g=f then some u else mA g)
  rw [GA]
  by_cases q:g=f
  ·rw [if_pos q,if_pos q];exact ry
  ·rw [if_neg q,if_neg q];exact r g
 ·by_cases q:g=f
  ·rw [q];exact (GG f y fs).1
  ·refine (GG f y fs).2 g (wi g fun z=>hg ?_)
   show (if g=f then some u else mA g)=none
   rw [if_neg q];exact z
theorem Inv.made (I:Inv X pins σ H s):Inv X pins σ (upd (upd H s.heap.objs.size (.own (s.heap.objs.size+1))) (s.heap.objs.size+1) (.ins C s.heap.objs.size []))
  { s with heap:=(s.heap.push PySem.W.emptyDict).push (PySem.W.instObj C s.heap.objs.size) }:=by
 have e1:(s.heap.push PySem.W.emptyDict).get? s.heap.objs.size=some PySem.W.emptyDict:=Heap.get?_push_size s.heap rfl
 have e2:((s.heap.push PySem.W.emptyDict).push (PySem.W.instObj C s.heap.objs.size)).get? (s.heap.objs.size+1)=some (PySem.W.instObj C s.heap.objs.size):=by
  have:=Heap.get?_push_size (s.heap.push PySem.W.emptyDict) (o:=PySem.W.instObj C s.heap.objs.size) rfl
  rwa [Heap.size_push] at this
 have e3:(s.heap.push PySem.W.emptyDict).Ns s.heap.objs.size (fun _=>none):=⟨PySem.W.emptyDict,#[],_,e1,rfl,(fun e he=>absurd he (by simp)),fun _=>rfl⟩
 have I1:=I.laid (a:=s.heap.objs.size) (o:=.own (s.heap.objs.size+1)) (h':=s.heap.push PySem.W.emptyDict) (t':=s.toks) (fun b u q=>Heap.get?_push_of_some _ q) (Nat.le_refl _) ⟨_,e1⟩
 refine I1.laid (a:=s.heap.objs.size+1) (o:=.ins C s.heap.objs.size []) (t':=s.toks) (fun b u q=>Heap.get?_push_of_some _ q) (Nat.le_of_eq (Heap.size_push _ _)) ?_
 have ne:s.heap.objs.size≠s.heap.objs.size+1:=Nat.ne_of_lt (Nat.lt_succ_self _)
 refine ⟨by rw [Aq ne,AF],Nat.zero_le _,ne,e2,fun _=>none,(Heap.Ns1.of_empty e3).at fun o q=>Heap.get?_push_of_some _ q,fun _=>True.intro,fun y hy=>absurd rfl hy⟩
theorem TZ {prog:Program} {w:World} {env:Env} {e:Expr} {f:Str} {pos:Pos} {s:Shared} {Q:Value->Shared->Prop} (hb:attributeBase e f env (eval e env)=eval e env)
  (h:wpAny (model prog w) A (eval e env) (fun o s₁=>wpAny (model prog w) A (getAttr o f true) Q E s₁) E s):wpAny (model prog w) A (eval (.Attribute e f pos) env) Q E s :=
 Attribute_any_ h (by rw [arm_eval_Attribute,hb])
end
def Xa (K:Fg) (ta:TE) (f:Str):TE:=fun σ H Q=>ta σ H fun x H1=>∃ a C dx fs v,x=.ref a/\H1 a=some (.ins C dx fs)/\Cls K C/\DX K C f/\fs.lookup f=some v/\Q v H1
def Xb (K:Fg) (ta tv:TE) (f:Str):TS:=fun D σ H=>tv σ H fun y H1=>ta σ H1 fun x H2=>∃ a C dx fs,x=.ref a/\H2 a=some (.ins C dx fs)/\Cls K C/\DX K C f/\fs.length < 1000 /\
 D.nx σ (upd H2 a (.ins C dx (Fz f y fs)))
section
variable {X:Cx} {o e value:Expr} {f:Str} {pos pos' tpos:Pos} {ta tv:TE}
theorem K7 (he:PE X e ta) (hb:attributeBase e f X.env (eval e X.env)=eval e X.env):PE X (.Attribute e f pos) (Xa X.K ta f):=by
 intro pins s σ H Q I h
 refine TZ hb (thn (he pins s σ H _ I h) fun u s1 ⟨x,H1,I1,rx,a,C,dx,fs,v,ex,ea,c,n,l,q⟩=>?_)
 subst ex
 obtain rfl:u=Value.ref a:=rx
 exact Ms I1 ea c n l fun u' s2 I2 ru=>⟨v,H1,I2,ru,q⟩
theorem M7 (ha:PE X o ta) (hv:PE X value tv) (hs:swapsWith value (some (.Attribute o f pos')) pos.line X.env=pure false):PS X (.Assign [.Attribute o f pos'] value pos) (Xb X.K ta tv f):=by
 intro pins s σ H D I h
 refine plainObj_wpAny_Assign_Attribute (thn (hv pins s σ H _ I h) fun u s1 ⟨y,H1,I1,ry,q⟩=>thn (ha pins s1 σ H1 _ I1 q) fun ov s2 ⟨x,H2,I2,rx,a,C,dx,fs,ex,ea,c,n,l,q2⟩=>?_) hs
 subst ex
 obtain rfl:ov=Value.ref a:=rx
 exact L7 I2 ea c n l ry fun s3 I3=>⟨σ,_,I3,q2⟩
end
section
variable {X:Cx} {pins:List (Addr×Obj)} {σ:St} {H:Hp} {s:Shared} {A:Around} {E:Value->Shared->Prop} {Q:Value->Shared->Prop} {c:Value} {b:Bool}
inductive LQ (K:Fg) (H:Hp):V->Value->Prop where
 | non:LQ K H .non (.type "NoneType")
 | bl (x:Bool):LQ K H (.bl x) (.type "bool")
 | int (i:Int):LQ K H (.int i) (.type "int")
 | str (x:Str):LQ K H (.str x) (.type "str")
 | flt (x:UInt64):LQ K H (.flt x) (.type "float")
 | lst {a:Addr} {xs:List V} (e:H a=some (.lst xs)):LQ K H (.ref a) (.type "list")
 | frz {a:Addr} {o:Obj} {xs:List V} (e:H a=some (.frz o (.lst xs))):LQ K H (.ref a) (.type "list")
 | tup {a:Addr} {xs:List V} (e:H a=some (.tup xs)):LQ K H (.ref a) (.type "tuple")
 | dK {a:Addr} {kvs:List (Key×V)} (e:H a=some (.dK kvs)):LQ K H (.ref a) (.type "dict")
 | dT {a:Addr} {kvs:List (List Key×V)} (e:H a=some (.dT kvs)):LQ K H (.ref a) (.type "dict")
 | ins {a C dx:Addr} {fs:List (Str×V)} (e:H a=some (.ins C dx fs)) (cl:Cls K C) (ha:PySem.W.findIn K (.ref C) "__class__"=some (some (.builtin "object.__class__")))
   (hn:PySem.W.specialIn K (.builtin "object.__class__") "__get__"=some (some (.builtin "getset_descriptor.__get__"))) (htk:PySem.W.takesIn K (.builtin "object.__class__")=some true)
   (hm:PySem.W.mroIn K C (.type "object")=some true):LQ K H (.ref a) (.ref C)
theorem N0 {x:V} {u t:Value} (I:Inv X pins σ H s) (rx:RelV x u) (ty:LQ X.K H x t) (e:PySem.W.kitOne X.K t c=some b) (h:∀ tk,Q (.bool b) { s with toks:=tk }) :
  wpAny (model X.prog X.w) A (call (.builtin "isinstance") [u,c]) Q E s:=by
 cases ty with
 | non=>cases (show u=Value.none from rx);exact PySem.W.kia_one PySem.W.kitx_none I.kIn True.intro e (fun z=>nomatch z) h
 | bl y=>cases (show u=Value.bool y from rx);exact PySem.W.kia_one PySem.W.kitx_bool I.kIn True.intro e (fun z=>nomatch z) h
 | int i=>obtain ⟨t,q⟩:=(show ∃ t,u=Value.int i t from rx);cases q;exact PySem.W.kia_one PySem.W.kitx_int I.kIn True.intro e (fun z=>nomatch z) h
 | str y=>obtain ⟨t,q⟩:=(show ∃ t,u=Value.str y t from rx);cases q;exact PySem.W.kia_one PySem.W.kitx_str I.kIn True.intro e (fun z=>nomatch z) h
 | flt y=>obtain ⟨t,q⟩:=(show ∃ t,u=Value.float y t from rx);cases q;exact PySem.W.kia_one PySem.W.kitx_float I.kIn True.intro e (fun z=>nomatch z) h
 | @lst a xs ea =>
  cases (show u=Value.ref a from rx)
  obtain ⟨_,_,n,_,h1⟩:=(show Cg X.prog X.w H s.heap a (.lst xs) from I.hok a _ ea)
  exact PySem.W.kia_one PySem.W.kitx_list I.kIn ⟨_,h1,rfl⟩ e (fun z=>nomatch z) h
 | @frz a ob xs ea =>
  cases (show u=Value.ref a from rx)
  obtain ⟨_,_,_,n,_,h1⟩:=(show Cg X.prog X.w H s.heap a (.frz ob (.lst xs)) from I.hok a _ ea)
  exact PySem.W.kia_one PySem.W.kitx_list I.kIn ⟨_,h1,rfl⟩ e (fun z=>nomatch z) h
 | @tup a xs ea =>
  cases (show u=Value.ref a from rx)
  obtain ⟨_,_,_,p⟩:=(show Cg X.prog X.w H s.heap a (.tup xs) from I.hok a _ ea)
  obtain ⟨o,h1,h2,_⟩:=p
  exact PySem.W.kia_one PySem.W.kitx_tuple I.kIn ⟨o,h1,h2⟩ e (fun z=>nomatch z) h
 | @dK a kvs ea =>
  cases (show u=Value.ref a from rx)
  obtain ⟨_,_,vs,_,p⟩:=(show Cg X.prog X.w H s.heap a (.dK kvs) from I.hok a _ ea)
  obtain ⟨o,es,ep,h1,h2,_⟩:=p
  exact PySem.W.kia_one PySem.W.kitx_dict I.kIn ⟨o,h1,h2.1⟩ e (fun z=>nomatch z) h
 | @dT a kvs ea =>
  cases (show u=Value.ref a from rx)
  obtain ⟨_,_,xs,_,o,es,ep,h1,h2,_⟩:=(show Cg X.prog X.w H s.heap a (.dT kvs) from I.hok a _ ea)
  exact PySem.W.kia_one PySem.W.kitx_dict I.kIn ⟨o,h1,h2.1⟩ e (fun z=>nomatch z) h
 | @ins a C dx fs ea cl ha hn htk hm =>
  cases (show u=Value.ref a from rx)
  obtain ⟨mA,O,_⟩:=IA I.hok ea
  obtain ⟨od,J,_⟩:=O.look
  exact PySem.W.kia_one (PySem.W.kitx_own (cl.get _) cl.hd ha hn htk hm) I.kIn J e (fun z=>nomatch z) h
end
structure Eh (k:Nat) (A:Around):Prop where
 hd:A.handled=none
 dp:A.depth+3 * k+5 < recursionLimit
 un:A.units+16 * k+200 < cLine
theorem Eh.mono {j k:Nat} {A:Around} (r:Eh k A) (h:j<=k):Eh j A:=⟨r.hd,by have:=r.dp;omega,by have:=r.un;omega⟩
theorem Eh.deeper {k:Nat} {A:Around} (r:Eh (k+1) A) (env:Env):Eh k (A.deeper env) :=
 ⟨r.hd,by have:=r.dp;show A.depth+1+3 * k+5 < _;omega,by have:=r.un;show A.units+3+16 * k+200 < _;omega⟩
theorem Mm {A:Around} {C:Addr} {us:List Value} {kw:List (Str×Value)}:(A.under (.builtin "type.__call__" ⟨.ref C :: us,kw⟩)).depth=A.depth+1:=by
 first | rfl | simp [Around.under,Code.weight,Code.isCreation,Code.isGuard,Code.isCaller,Code.frames,Code.isFrame,guardIds]
theorem Ml {A:Around} {C:Addr} {us:List Value} {kw:List (Str×Value)}:(A.under (.builtin "type.__call__" ⟨.ref C :: us,kw⟩)).units=A.units+1:=by
 first | rfl | simp [Around.under,Code.cUnits,Code.frames,Code.isFrame]
theorem Eh.make {k:Nat} {A:Around} (r:Eh (k+1) A) (C:Addr) (us:List Value) (kw:List (Str×Value)):Eh k (A.under (.builtin "type.__call__" ⟨.ref C :: us,kw⟩)) :=
 ⟨r.hd,by have:=r.dp;rw [Mm];omega,by have:=r.un;rw [Ml];omega⟩
theorem Eh.depth {k:Nat} {A:Around} (r:Eh k A):A.depth < recursionLimit:=by have:=r.dp;omega
theorem Eh.units {k:Nat} {A:Around} (r:Eh k A):A.units+64 < cLine:=by have:=r.un;omega
def VS:TA:=fun _ H Q=>Q [] H
def Wf (ta:TE) (tr:TA):TA:=fun σ H Q=>ta σ H fun x H1=>tr σ H1 fun xs H2=>Q (x :: xs) H2
section
variable {X:Cx} {e:Expr} {es:List Expr} {te:TE} {t:TA} {pos:Pos}
theorem Gr:PA X [] VS:=fun _ _ _ _ H Q I h=>Calls.spliced_nil ⟨[],H,I,.nil,h⟩
theorem Dc (ha:PE X e te) (hr:PA X es t) (hs:starEach (e :: es) X.env=(false,eval e X.env) :: starEach es X.env:=by rfl):PA X (e :: es) (Wf te t):=by
 intro pos pins s σ H Q I h
 rw [hs]
 show wpAny _ _ (spliced ((false,eval e X.env) :: backTo pos (starEach es X.env))) _ _ s
 refine Calls.spliced_cons (thn (ha pins s σ H _ I h) fun u s1 ⟨x,H1,I1,r1,q1⟩=>?_)
 exact thn (hr pos pins s1 σ H1 _ I1 q1) fun us s2 ⟨xs,H2,I2,r2,q2⟩=>⟨x :: xs,H2,I2,.cons r1 r2,q2⟩
def Xk (t:TA):TE:=fun σ H Q=>t σ H fun xs H1=>xs.length<=sizeLine/\∀ p,H1 p=none->Q (.ref p) (upd H1 p (.tup xs))
def Xn (t:TA):TE:=fun σ H Q=>t σ H fun xs H1=>xs.length<=sizeLine/\∀ p,H1 p=none->Q (.ref p) (upd H1 p (.lst xs))
theorem Rq {x1} (h:PA X es t):PE X (.Tuple es x1 pos) (Xk t):=by
 intro pins s σ H Q I hq
 refine wpAny_Tuple_spliced (thn (h pos pins s σ H _ I hq) fun us s1 ⟨xs,H1,I1,r,z,q⟩=>⟨by rw [<- r.length];exact z,?_⟩)
 have hf:H1 s1.heap.objs.size=none:=I1.hok.fresh (Nat.le_refl _)
 refine ⟨.ref s1.heap.objs.size,upd H1 s1.heap.objs.size (.tup xs),I1.laid (t':=s1.toks) (fun b u e=>Heap.get?_push_of_some _ e) (Nat.le_refl _) ?_,rfl,q _ hf⟩
 exact ⟨z,us,r,⟨_,Heap.get?_push_size _ rfl,rfl,_,rfl⟩⟩
theorem Rt (h:PA X es t):PE X (.List es pos) (Xn t):=by
 intro pins s σ H Q I hq
 refine wpAny_List_spliced (thn (h pos pins s σ H _ I hq) fun us s1 ⟨xs,H1,I1,r,z,q⟩=>⟨by rw [<- r.length];exact z,?_⟩)
 have hf:H1 s1.heap.objs.size=none:=I1.hok.fresh (Nat.le_refl _)
 refine ⟨.ref s1.heap.objs.size,upd H1 s1.heap.objs.size (.lst xs),I1.laid (t':=s1.toks) (fun b u e=>Heap.get?_push_of_some _ e) (Nat.le_refl _) ?_,rfl,q _ hf⟩
 exact ⟨z,us,0,r,Heap.get?_push_size _ rfl⟩
end
abbrev Sp:=List V->Hp->VK->XK->Prop
abbrev CXT:=List Env->Hp->Shared->XK->Value->Shared->Prop
structure T6 (P:Program) (w:World) (K:Fg) (mg:Str->Option Value) (base:Heap) (A:Around) (outer:List Env) (s:Shared) (H:Hp):Prop where
 frames:A.frames=some outer
 mod:Mod K mg base
 bs:∀ b o,base.get? b=some o->s.heap.get? b=some o/\H b=none
 bsz:base.objs.size<=s.heap.objs.size
 Lq:s.heap.FunFrames base outer
 frf:∀ b∈frs outer,H b=none
 hok:HOk P w H s.heap
 bare:AllBare s.gens
def CE (outer:List Env) (P:Program) (w:World) (H:Hp) (s:Shared) (Q:VK) (u:Value) (s':Shared):Prop :=
 ∃ v H',s'.os=s.os/\AllBare s'.gens/\Un (frs outer) [] H H' s.heap s'.heap/\HOk P w H' s'.heap/\RelV v u/\Q v H'
def CR (CX:CXT) (outer:List Env) (P:Program) (w:World) (H:Hp) (s:Shared) (Q:VK) (E:XK) (r:Result) (s':Shared):Prop :=
 match r with
 | .ok (.ret u)=>CE outer P w H s Q u s'
 | .ok _=>False
 | .error e=>CX outer H s E e s'
structure DL (P:Program) (w:World) (K:Fg) (mg:Str->Option Value) (base:Heap) (CX:CXT) (k:Nat) (f:Addr) (fd:FuncData) (ps:List Str) (sp:Sp):Prop where
 len:∀ vs H Q E,sp vs H Q E->vs.length=ps.length
 run:∀ (A:Around) (outer:List Env) (s:Shared) (H:Hp) (args:Args) (us:List Value) (vs:List V) (Q:VK) (E:XK),Eh k A->T6 P w K mg base A outer s H->BindsTo s fd args (ps.zip us)->Vals vs us->sp vs H Q E ->
  codeAny (model P w) A (.call (.ref f) args) (CR CX outer P w H s Q E) s
theorem DL.imp {P:Program} {w:World} {K:Fg} {mg:Str->Option Value} {base:Heap} {CX:CXT} {k:Nat} {f:Addr} {fd:FuncData} {ps:List Str} {sp sp':Sp} (F:DL P w K mg base CX k f fd ps sp)
  (h:∀ vs H Q E,sp' vs H Q E->sp vs H Q E):DL P w K mg base CX k f fd ps sp' :=
 ⟨fun vs H Q E q=>F.len vs H Q E (h _ _ _ _ q),fun A outer s H args us vs Q E hr he hb hv hs=>F.run A outer s H args us vs Q E hr he hb hv (h _ _ _ _ hs)⟩
theorem T6.make {P:Program} {w:World} {K:Fg} {mg:Str->Option Value} {base:Heap} {A:Around} {outer:List Env} {s:Shared} {H:Hp} (e:T6 P w K mg base A outer s H) (C:Addr) (us:List Value) (kw:List (Str×Value)) :
  T6 P w K mg base (A.under (.builtin "type.__call__" ⟨.ref C :: us,kw⟩)) outer s H:=⟨by first | exact e.frames | (simpa [Around.under,Code.envs,Code.isFrame,pushEnvs] using e.frames),e.mod,e.bs,e.bsz,e.Lq,e.frf,e.hok,e.bare⟩
section
variable {X:Cx} {pins:List (Addr×Obj)} {σ:St} {H:Hp} {s s':Shared}
theorem Inv.WW (I:Inv X pins σ H s):T6 X.prog X.w X.K X.mg X.base X.A X.stack s H :=
 ⟨I.ok.frames,I.ok.mod,I.bs,Nat.le_trans I.ok.bsz I.sz,I.stack,I.J5,I.hok,I.bare⟩
theorem Inv.after {Q:VK} {u:Value} (I:Inv X pins σ H s) (h:CE X.stack X.prog X.w H s Q u s'):EP X pins σ Q u s':=by
 obtain ⟨v,H',os,bare,un,hok,r,q⟩:=h
 obtain ⟨hh,g,d,t,os'⟩:=s'
 obtain rfl:os'=s.os:=os
 exact ⟨v,H',I.call (h':=hh) (g':=g) (d':=d) (t':=t) (ch:=[]) un hok bare (fun b z=>absurd z (by simp)),r,q⟩
end
def R9 (C:Addr) (m:Str) (sp:Sp) (dvs:List V) (E:XK) (ta:TE) (t:TA):TE:=fun σ H Q=>ta σ H fun x H1=>∃ a dx fs,x=.ref a/\H1 a=some (.ins C dx fs)/\fs.lookup m=none /\
 t σ H1 fun vs H2=>sp (x :: (vs++dvs)) H2 Q E
def Up (C:Addr) (sp:Sp) (dvs:List V) (E:XK) (t:TA):TE:=fun σ H Q=>t σ H fun vs H1=>∀ x dx,H1 x=none->H1 dx=none->dx≠x ->
 sp (.ref x :: (vs++dvs)) (upd (upd H1 dx (.own x)) x (.ins C dx [])) (fun v H2=>v=.non/\Q (.ref x) H2) E
def Binds (K:Fg) (fd:FuncData) (ps:List Str) (ds:List Value):Prop :=
 ∀ (s:Shared) (us:List Value),K.In s.heap->(us++ds).length=ps.length->BindsTo s fd ⟨us,[]⟩ (ps.zip (us++ds))
theorem Binds.all {K:Fg} {fd:FuncData} {ps:List Str} (h:∀ us:List Value,us.length=ps.length->bindArgs fd ⟨us,[]⟩=pure (ps.zip us)):Binds K fd ps []:=fun s us _ hl=>by
 rw [List.append_nil] at hl ⊢
 exact .of_eq (h us hl)
def Passes (CX:CXT) (X:Cx) (E:XK):Prop:=∀ (pins:List (Addr×Obj)) (σ:St) (H:Hp) (s:Shared) (e:Value) (s':Shared),Inv X pins σ H s->CX X.stack H s E e s'->X.xe e s'
section
variable {X:Cx} {CX:CXT} {k:Nat} {f C:Addr} {fd:FuncData} {ps:List Str} {sp:Sp} {dvs:List V} {ds:List Value} {E:XK} {x m:Str} {p pos apos:Pos} {e o:Expr} {es:List Expr} {ta:TE} {t:TA}
theorem Uz {pins:List (Addr×Obj)} {σ:St} {H:Hp} {s:Shared} {Q:VK} {us:List Value} {vs:List V} (F:DL X.prog X.w X.K X.mg X.base CX k f fd ps sp) (hr:Eh k X.A) (hb:Binds X.K fd ps ds) (hd:Vals dvs ds) (hx:Passes CX X E)
  (I:Inv X pins σ H s) (r:Vals vs us) (h:sp (vs++dvs) H Q E):wpAny (model X.prog X.w) X.A (call (.ref f) us) (EP X pins σ Q) X.xe s:=by
 have r2:Vals (vs++dvs) (us++ds):=r.append hd
 have hl:(us++ds).length=ps.length:=by rw [<- r2.length];exact F.len _ _ _ _ h
 refine wpAny_call (codeAny_mono (F.run X.A X.stack s H ⟨us,[]⟩ (us++ds) (vs++dvs) Q E hr I.WW (hb s us I.kIn hl) r2 h) fun r s' hq=>?_)
 cases r with
 | error e=>exact hx pins σ H s e s' I hq
 | ok fl =>
  cases fl with
  | ret u=>exact I.after hq
  | next=>exact False.elim hq
  | brk=>exact False.elim hq
  | cont=>exact False.elim hq
theorem P4 {pl:Sem Bool} (he:PE X o ta) (c:Cls X.K C) (hm:Meth X.K C m f) (F:DL X.prog X.w X.K X.mg X.base CX k f fd ps sp) (hr:Eh k X.A) (hb:Binds X.K fd ps ds) (hd:Vals dvs ds) (hx:Passes CX X E)
  (ht:eval (.Call (.Attribute o m apos) [] [] pos) X.env=(do
   let ov <- eval o X.env
   standAt apos.atName
   let (f,first) <- holding [ov] (getMethod ov m pl)
   callWith pos f first (backTo pos (starEach [] X.env)) (backToKw pos (keywordEach [] X.env))):=by rfl) :
  PE X (.Call (.Attribute o m apos) [] [] pos) (R9 C m sp dvs E ta VS):=by
 intro pins s σ H Q I h
 refine PySem.W.methodCall_KW (pl:=pl) (thn (he pins s σ H _ I h) fun u s1 ⟨x,H1,I1,rx,a,dx,fs,ex,ea,l,q⟩=>?_) ht
 subst ex
 obtain rfl:u=Value.ref a:=rx
 refine HG I1 ea c hm l ?_
 exact PySem.W.callWith_K0 (first:=[.ref a]) I1.kIn hm.kp (Uz (us:=[.ref a]) (vs:=[.ref a]) F hr hb hd hx I1 (.cons rfl .nil) q)
structure Mk (K:Fg) (C f:Addr):Prop where
 makes:PySem.W.makesIn K C=true
 init:PySem.W.findIn K (.ref C) "__init__"=some (some (.ref f))
 fn:PySem.W.isFn K (.ref f)=true
 kp:PySem.W.keepIn K (.ref C)=true
theorem PF {pins:List (Addr×Obj)} {σ:St} {H:Hp} {s:Shared} {Q:VK} {us:List Value} {vs:List V} (M:Mk X.K C f) (F:DL X.prog X.w X.K X.mg X.base CX k f fd ps sp) (hr:Eh (k+1) X.A) (hb:Binds X.K fd ps ds) (hd:Vals dvs ds)
  (hx:Passes CX X E) (I:Inv X pins σ H s) (r:Vals vs us)
  (h:∀ x dx,H x=none->H dx=none->dx≠x->sp (.ref x :: (vs++dvs)) (upd (upd H dx (.own x)) x (.ins C dx [])) (fun v H2=>v=.non/\Q (.ref x) H2) E) :
  wpAny (model X.prog X.w) X.A (call (.ref C) us) (EP X pins σ Q) X.xe s:=by
 have hq:=h (s.heap.objs.size+1) s.heap.objs.size (I.hok.fresh (Nat.le_succ _)) (I.hok.fresh (Nat.le_refl _)) (Nat.ne_of_lt (Nat.lt_succ_self _))
 have I2:=Inv.made (C:=C) I
 have r2:Vals (V.ref (s.heap.objs.size+1) :: (vs++dvs)) (Value.ref (s.heap.objs.size+1) :: (us++ds)):=.cons rfl (r.append hd)
 have hl:(Value.ref (s.heap.objs.size+1) :: us++ds).length=ps.length:=by
  have e:=r2.length
  rw [F.len _ _ _ _ hq] at e
  exact e.symm
 refine wpAny_call (Qj (f:=f) I.kIn M.makes M.init (beq_iff_eq.mp M.fn) (codeAny_mono (F.run _ X.stack _ _ ⟨Value.ref (s.heap.objs.size+1) :: us,[]⟩ (Value.ref (s.heap.objs.size+1) :: (us++ds)) _ _ E (hr.make C us [])
  (I2.WW.make C us []) (hb _ (Value.ref (s.heap.objs.size+1) :: us) I2.kIn hl) r2 hq) fun r s' hq'=>?_))
 cases r with
 | error e=>exact hx pins σ _ _ e s' I2 hq'
 | ok fl =>
  cases fl with
  | ret u =>
   obtain ⟨v,H',I3,rv,ev,q3⟩:=I2.after hq'
   subst ev
   exact ⟨rv,⟨V.ref (s.heap.objs.size+1),H',I3,rfl,q3⟩⟩
  | next=>exact False.elim hq'
  | brk=>exact False.elim hq'
  | cont=>exact False.elim hq'
theorem Ss (M:Mk X.K C f) (F:DL X.prog X.w X.K X.mg X.base CX k f fd ps sp) (hr:Eh (k+1) X.A) (hg:Gl X x) (hm:X.mg x=some (.ref C)) (hb:Binds X.K fd ps ds) (hd:Vals dvs ds) (hx:Passes CX X E)
  (ha:PA X (e :: es) t) (hdb:(x == ("__debug__":Str))=false:=by decide) (he:starEach (e :: es) X.env=(false,eval e X.env) :: starEach es X.env:=by rfl) (hpl:(backTo pos (starEach es X.env)).any (·.1)=false:=by rfl) :
  PE X (.Call (.Name x p) (e :: es) [] pos) (Up C sp dvs E t):=by
 intro pins s σ H Q I h
 refine wpAny_Call_Name_kw (Fm I hg hm ?_ hdb)
 refine PySem.W.callWith_K (h₀:=X.base) I.ok.mod.kin M.kp (thn (ha pos pins s σ H _ I h) fun us s1 ⟨vs,H1,I1,r,q⟩=>⟨I1.kIn,?_⟩) he hpl
 exact PF M F hr hb hd hx I1 r q
end
section
variable {X:Cx} {CX:CXT} {k:Nat} {f C:Addr} {fd:FuncData} {ps ks:List Str} {sp:Sp} {E:XK} {x m:Str} {p pos apos kpos:Pos} {e o:Expr} {es:List Expr} {kws:List Keyword} {te ta:TE} {t tk:TA} {nm:Option Str}
variable {g:List Value->List Value->List Value} {gV:List V->List V->List V}
end
structure Bb (N P:List Str) (sc:Scope):Prop where
 kind:sc.kind=.function
 co:sc.isCoroutine=false
 gen:sc.isGenerator=false
 nd:N.Nodup
 pre:N.take P.length=P
 par:∀ x∈P,sc.names.lookup x=some .local∨sc.names.lookup x=some .cell
 nofree:∀ y∈sc.names,y.2≠.free
theorem JN {kindOf:Str->Option NameKind} {x:Str}:∀ {binds:List (Str×Value)} {m:Str->Option Value},(∀ v,(x,v)∉binds)->bindL kindOf binds m x=m x
 | [],_,_=>rfl
 | (n,v) :: r,m,h=>by
  unfold bindL
  rw [JN fun w hw=>h w (List.mem_cons_of_mem _ hw)]
  split
  ·have:x≠n:=by rintro rfl;exact h v List.mem_cons_self
   simp [this]
  ·rfl
theorem JP {kindOf:Str->Option NameKind} {x:Str}:∀ {binds:List (Str×Value)} {m:Str->Option Value},(∀ v,(x,v)∉binds)->bindC kindOf binds m x=m x
 | [],_,_=>rfl
 | (n,v) :: r,m,h=>by
  unfold bindC
  rw [JP fun w hw=>h w (List.mem_cons_of_mem _ hw)]
  split
  ·rfl
  ·have:x≠n:=by rintro rfl;exact h v List.mem_cons_self
   simp [this]
theorem JO {kindOf:Str->Option NameKind} {x:Str} {v:Value}:∀ {P:List Str} {vs:List Value} {i:Nat} {m:Str->Option Value},P.Nodup->P[i]?=some x->vs[i]?=some v->kindOf x=some .local ->
  bindL kindOf (P.zip vs) m x=some v
 | [],_,_,_,_,h,_,_=>by simp at h
 | _ :: _,[],_,_,_,_,h,_=>by simp at h
 | p :: P,w :: vs,0,m,nd,h1,h2,hk=>by
  simp at h1 h2;subst h1;subst h2
  show bindL kindOf ((p,w) :: P.zip vs) m p=_
  unfold bindL
  rw [JN fun v hv=>(List.nodup_cons.mp nd).1 (List.of_mem_zip hv).1,if_pos hk]
  simp
 | p :: P,w :: vs,i+1,m,nd,h1,h2,hk=>by
  show bindL kindOf ((p,w) :: P.zip vs) m x=_
  unfold bindL
  exact JO (i:=i) (List.nodup_cons.mp nd).2 (by simpa using h1) (by simpa using h2) hk
theorem JQ {kindOf:Str->Option NameKind} {x:Str} {v:Value}:∀ {P:List Str} {vs:List Value} {i:Nat} {m:Str->Option Value},P.Nodup->P[i]?=some x->vs[i]?=some v->kindOf x≠some .local ->
  bindC kindOf (P.zip vs) m x=some v
 | [],_,_,_,_,h,_,_=>by simp at h
 | _ :: _,[],_,_,_,_,h,_=>by simp at h
 | p :: P,w :: vs,0,m,nd,h1,h2,hk=>by
  simp at h1 h2;subst h1;subst h2
  show bindC kindOf ((p,w) :: P.zip vs) m p=_
  unfold bindC
  rw [JP fun v hv=>(List.nodup_cons.mp nd).1 (List.of_mem_zip hv).1,if_neg hk]
  simp
 | p :: P,w :: vs,i+1,m,nd,h1,h2,hk=>by
  show bindC kindOf ((p,w) :: P.zip vs) m x=_
  unfold bindC
  exact JQ (i:=i) (List.nodup_cons.mp nd).2 (by simpa using h1) (by simpa using h2) hk
def start (N:List Str) (vs:List V):St:=vs.map some++List.replicate (N.length - vs.length) none
def MC (CX:CXT) (P:Program) (w:World) (K:Fg) (mg:Str->Option Value) (base:Heap) (N:List Str) (qual:Str) (scope:Scope) (f:Addr) (cd:Value) (A:Around) (outer:List Env) (s:Shared) (H:Hp) (E:XK):Cx where
 prog:=P
 w:=w
 K:=K
 mg:=mg
 base:=base
 A:=A.deeper (envOfC qual scope s.heap.objs.size f cd)
 N:=N
 s₀:=s
 H₀:=H
 env:=envOfC qual scope s.heap.objs.size f cd
 outer:=outer
 stack:=envOfC qual scope s.heap.objs.size f cd :: outer
 ex:=[]
 calm:=true
 fn:=fun _=>true
 pn:=[]
 xe:=fun e s'=>wpAny (model P w) (A.deeper (envOfC qual scope s.heap.objs.size f cd)) (leaving (envOfC qual scope s.heap.objs.size f cd) e) (fun _ s''=>CX outer H s E e s'') (fun e' s''=>CX outer H s E e' s'') s'
theorem LK {sc:Scope} {n:Nat} {x:Str} (h:sc.names.lookup x=some .cell):∃ c,(cellsFrom n sc.names []).lookup x=some c:=by
 have q:=PySem.W.cellsFrom_some sc.names n [] (.inl h)
 exact Option.isSome_iff_exists.mp q
theorem N4 {CX:CXT} {P:Program} {w:World} {K:Fg} {mg:Str->Option Value} {base:Heap} {N ps:List Str} {qual:Str} {scope:Scope} {f:Addr} {cd:Value} {A:Around} {outer:List Env} {s s1:Shared} {H:Hp} {E:XK} {us:List Value} {vs:List V}
  (S:Bb N ps scope) (hd:A.handled=none) (e0:T6 P w K mg base A outer s H) (hl:vs.length=ps.length) (r:Vals vs us)
  (x:InCallC s s.heap.objs.size (bindL (envOfC qual scope s.heap.objs.size f cd).kindOf (ps.zip us) fun _=>none) (cellsFrom (s.heap.objs.size+1) scope.names []) (bindC (envOfC qual scope s.heap.objs.size f cd).kindOf (ps.zip us) fun _=>none) s1) :
  Inv (MC CX P w K mg base N qual scope f cd A outer s H E) [] (start N vs) H s1:=by
 have hpl:ps.length<=N.length:=by have:=congrArg List.length S.pre;rw [List.length_take] at this;omega
 obtain ⟨h1,tk,rfl,hk⟩:=x.done
 have noA:∀ b:Addr,b∉(MC CX P w K mg base N qual scope f cd A outer s H E).ex:=fun b z=>absurd (show b∈([]:List Addr) from z) (by simp)
 refine ⟨⟨e0.mod,S.kind,rfl,rfl,Nat.le_refl _,fun y z c h1 h2=>?_,fun y hy=>?_,fun y c _ h=>?_,fun _=>hd,Around.frames_deeper e0.frames,.inr ⟨rfl,rfl⟩,fun b z=>absurd z (noA b),e0.bs,e0.bsz,fun b _ _=>noA b,fun b z=>absurd z (noA b),e0.Lq,e0.frf⟩,
  rfl,e0.bare,Un.kept hk,⟨_,x.toInCall.ns,fun i y v h1 h2 h3=>?_⟩,fun y c h=>⟨_,x.cell y c h⟩,e0.hok.fresh (Nat.le_refl _),fun y c h=>?_,fun p hp=>absurd (show p∈([]:List (Addr×Obj)) from hp) (by simp),e0.hok.kept hk,?_⟩
 ·exact name_of_addr x.apart (PySem.mem_of_lookup h1) (PySem.mem_of_lookup h2)
 ·have hy:scope.names.lookup y=some .cell∨scope.names.lookup y=some .free:=hy
  rcases hy with hy | hy
  ·exact LK hy
  ·exact absurd rfl (S.nofree _ (PySem.mem_of_lookup hy))
 ·exact Nat.le_of_lt (x.above y c (PySem.mem_of_lookup h))
 ·have hi:i < vs.length:=by
   unfold start at h2
   by_cases hi:i < vs.length
   ·exact hi
   ·rw [List.getElem?_append_right (by simpa using hi)] at h2
    rw [List.getElem?_replicate] at h2
    split at h2 <;> cases h2
  have ha:vs[i]?=some v:=by
   unfold start at h2
   rw [List.getElem?_append_left (by simpa using hi),List.getElem?_map] at h2
   cases e:vs[i]? with
   | none=>rw [e] at h2;cases h2
   | some a=>rw [e] at h2;cases h2;rfl
  obtain ⟨u,hu,rv⟩:=r.get ha
  have hp:ps[i]?=some y:=by
   rw [<- S.pre,List.getElem?_take_of_lt (by omega)];exact h1
  have ndP:ps.Nodup:=by rw [<- S.pre];exact S.nd.sublist (List.take_sublist _ _)
  refine ⟨u,rv,?_⟩
  rcases S.par y (List.mem_of_getElem? hp) with k | k
  ·exact .inl ⟨k,JO ndP hp hu k⟩
  ·obtain ⟨c,e⟩:=LK (n:=s.heap.objs.size+1) k
   refine .inr ⟨.inl k,c,e,?_⟩
   have q:=x.cell y c e
   rw [JQ ndP hp hu (by show scope.names.lookup y≠_;rw [k];decide)] at q
   exact q
 ·exact e0.hok.fresh (Nat.le_of_lt (x.above y c (PySem.mem_of_lookup h)))
 ·unfold start
  show _=N.length
  rw [List.length_append,List.length_map,List.length_replicate]
  omega
section
variable {X:Cx} {x:Str} {p pos:Pos} {e:Expr} {es:List Expr} {t:TA} {id T:String} {r:List V->Hp->VK->Prop}
def tCB (r:List V->Hp->VK->Prop) (t:TA):TE:=fun σ H Q=>t σ H fun vs H1=>r vs H1 Q
theorem EV (hc:Dj X (.builtin id) r) (hg:Gl X x) (hm:X.mg x=none) (hv:bootBuiltins x=some (.builtin id)) (ha:PA X (e :: es) t) (hn:x≠"__name__":=by decide) (hdb:(x == ("__debug__":Str))=false:=by decide)
  (he:starEach (e :: es) X.env=(false,eval e X.env) :: starEach es X.env:=by rfl) (hpl:(backTo pos (starEach es X.env)).any (·.1)=false:=by rfl):PE X (.Call (.Name x p) (e :: es) [] pos) (tCB r t):=by
 intro pins s σ H Q I h
 refine wpAny_Call_Name_kw (GF I hg hm hv ?_ hn hdb)
 exact PyProof.Rows.callWith_builtin1 (thn (ha pos pins s σ H _ I h) fun us s1 ⟨vs,H1,I1,r1,q1⟩=>hc pins s1 σ H1 vs us Q I1 r1 q1) he hpl
theorem Nj (hc:Dj X (.type T) r) (hg:Gl X x) (hm:X.mg x=none) (hv:bootBuiltins x=some (.type T)) (ha:PA X (e :: es) t) (hn:x≠"__name__":=by decide) (hdb:(x == ("__debug__":Str))=false:=by decide)
  (he:starEach (e :: es) X.env=(false,eval e X.env) :: starEach es X.env:=by rfl) (hpl:(backTo pos (starEach es X.env)).any (·.1)=false:=by rfl):PE X (.Call (.Name x p) (e :: es) [] pos) (tCB r t):=by
 intro pins s σ H Q I h
 refine wpAny_Call_Name_kw (GF I hg hm hv ?_ hn hdb)
 exact PyProof.Rows.callWith_type1 (thn (ha pos pins s σ H _ I h) fun us s1 ⟨vs,H1,I1,r1,q1⟩=>hc pins s1 σ H1 vs us Q I1 r1 q1) he hpl
end
end L2
namespace HT
open PySem PyProof.Rows
section
open PySem.SeqAt
open PySem.AutoSeq1 (wpAny_loadPart')
open PySem.MeetsSeq PySem.MeetsSeq2 PySem.MeetsSeq3
end
section
variable {prog:Program} {w:World} {A:Around} {E:Value->Shared->Prop} {s:Shared}
theorem TU {t b:Addr} {vs ws:List Value} {Q:Value->Shared->Prop} (ht:IsTup s.heap t vs.toArray) (hb:IsTup s.heap b ws.toArray) (hv:vs≠[])
  (h1:ws=[]->Q (.ref t) s) (h2:ws≠[]->Q (.ref s.heap.objs.size) { s with heap:=s.heap.push { cls:=.type "tuple",data:=.seq (vs++ws).toArray } })
  (hsz:vs.length+ws.length<=sizeLine):wpAny (model prog w) A (binaryOp .Add (.ref t) (.ref b)) Q E s:=by
 obtain ⟨⟨cls,dd,data,sl⟩,ho,hc,n,hd⟩:=id ht
 obtain ⟨⟨cls2,dd2,data2,sl2⟩,ho2,hc2,n2,hd2⟩:=id hb
 simp only at hc hd hc2 hd2
 subst hc hd hc2 hd2
 have e:vs.toArray++ws.toArray=(vs++ws).toArray:=by simp
 by_cases hw:ws=[]
 ·exact concat_meets ⟨_,ho,rfl⟩ ⟨_,ho2,rfl⟩ noFill_tuple_add seq_tuple_add PySem.F.slot_tuple_add PySem.F.entry_tuple_add (PySem.F.args_tuple_add_2 _ _)
   (tuple_addW1 t b vs.toArray ws.toArray n n2 dd dd2 sl sl2 (by simpa using hv) (by simp [hw])) ⟨ho,ho2,h1 hw⟩
 ·refine concat_meets ⟨_,ho,rfl⟩ ⟨_,ho2,rfl⟩ noFill_tuple_add seq_tuple_add PySem.F.slot_tuple_add PySem.F.entry_tuple_add (PySem.F.args_tuple_add_2 _ _)
   (tuple_addW2 t b vs.toArray ws.toArray n n2 dd dd2 sl sl2 (by simpa using hv) (by simpa using hw) (by rw [List.size_toArray,List.size_toArray];exact hsz)) ⟨ho,ho2,?_⟩
  rw [e]
  exact h2 hw
def sIx (n d:Nat):Option Int->Nat
 | none=>d
 | some v=>if v < 0 then (v+(n:Int)).toNat else min v.toNat n
theorem Ux (n d:Nat) (hd:d<=n) (o:Option Int):sIx n d o<=n:=by
 cases o with
 | none=>exact hd
 | some v =>
  show (if v < 0 then (v+(n:Int)).toNat else min v.toNat n)<=n
  by_cases hv:v < 0
  ·rw [if_pos hv];omega
  ·rw [if_neg hv];exact Nat.min_le_right _ _
theorem OR (v:Int) (n d:Nat):(if v < 0 then max (v+(n:Int)) 0 else min v (n:Int))=((sIx n d (some v):Nat):Int):=by
 show (if v < 0 then max (v+(n:Int)) 0 else min v (n:Int))=(((if v < 0 then (v+(n:Int)).toNat else min v.toNat n):Nat):Int)
 by_cases hv:v < 0
 ·simp only [if_pos hv];omega
 ·simp only [if_neg hv];omega
theorem MH (lo hi:Option Int) (n:Nat):Builtin.Slice.sliceAdjust lo hi 1 (n:Int)=(((sIx n 0 lo:Nat):Int),((sIx n n hi:Nat):Int)):=by
 have h1:¬ ((1:Int) < 0):=by omega
 unfold Builtin.Slice.sliceAdjust
 simp only [h1,if_false]
 refine Prod.ext ?_ ?_
 ·cases lo with
  | none=>rfl
  | some v=>exact OR v n 0
 ·cases hi with
  | none=>rfl
  | some v=>exact OR v n n
theorem Mb (i j:Nat):Builtin.Slice.slicePlaces (i:Int) (j:Int) 1=j - i:=by
 unfold Builtin.Slice.slicePlaces
 have h1:(1:Int) > 0:=by omega
 simp only [h1,if_true,Int.ediv_one]
 split <;> omega
theorem Hv {v:Value} {o:Option Int} {Q:Option Int->Shared->Prop} (p:IsPart v o) (h:Q o s):wpAny (model prog w) A (Builtin.Slice.slicePartIndex v) Q E s:=by
 cases p with
 | none=>exact slicePart_none h
 | int i t=>exact slicePart_int h
theorem DW {sl:Addr} {vl vu:Value} {lo hi:Option Int} {n:Nat} {Q:Int×Int×Nat->Shared->Prop} (hs:s.heap.IsSliceOf sl vl vu .none) (pl:IsPart vl lo) (pu:IsPart vu hi)
  (h:Q (((sIx n 0 lo:Nat):Int),1,sIx n n hi - sIx n 0 lo) s):wpAny (model prog w) A (Builtin.Slice.sliceApplied (.ref sl) (pure (n:Int))) Q E s:=by
 obtain ⟨os,hos,hcs,hds⟩:=id hs
 unfold Builtin.Slice.sliceApplied Builtin.Slice.sliceFields
 refine wpAny_bind (wpAny_bind (wpAny_field hos hds (x:=vl) rfl (wpAny_bind (wpAny_field hos hds (x:=vu) rfl (wpAny_bind (wpAny_field hos hds (x:=.none) rfl (wpAny_pure ?_)))))))
 refine wpAny_bind (slicePart_none ?_)
 show wpAny _ _ (if ((1:Int) == 0)=true then _ else _) _ _ s
 rw [if_neg (by decide)]
 refine wpAny_bind (Hv pl (wpAny_bind (Hv pu (wpAny_bind (wpAny_pure ?_)))))
 show wpAny _ _ (match Builtin.Slice.sliceAdjust lo hi 1 (n:Int) with | (lo,hi)=>pure (lo,(1:Int),Builtin.Slice.slicePlaces lo hi 1)) _ _ s
 rw [MH lo hi n]
 show wpAny _ _ (pure (((sIx n 0 lo:Nat):Int),(1:Int),Builtin.Slice.slicePlaces ((sIx n 0 lo:Nat):Int) ((sIx n n hi:Nat):Int) 1)) _ _ s
 rw [Mb]
 exact wpAny_pure h
theorem P1 (xs:Array Value) (i k:Nat):((List.range k).filterMap fun (m:Nat)=>xs[((i:Int)+(m:Int) * 1).toNat]?).toArray=((xs.toList.drop i).take k).toArray:=by
 have e:(fun (m:Nat)=>xs[((i:Int)+(m:Int) * 1).toNat]?)=fun m=>xs[i+m]?:=by
  funext m
  have:((i:Int)+(m:Int) * 1).toNat=i+m:=by omega
  rw [this]
 rw [e]
 have:=pick_run xs i k
 rw [List.filterMap_map] at this
 have e2:((fun x=>xs[x]?)∘fun x=>i+x)=fun m=>xs[i+m]?:=rfl
 rw [e2] at this
 rw [this]
theorem Fo {t sl:Addr} {items:Array Value} {vl vu:Value} {lo hi:Option Int} {Q:Value->Shared->Prop} (ht:IsTup s.heap t items) (hs:s.heap.IsSliceOf sl vl vu .none) (pl:IsPart vl lo) (pu:IsPart vu hi)
  (hw:¬ (sIx items.size 0 lo=0/\sIx items.size items.size hi=items.size))
  (h:Q (.ref s.heap.objs.size) { s with heap:=s.heap.push { cls:=.type "tuple",data:=.seq ((items.toList.drop (sIx items.size 0 lo)).take (sIx items.size items.size hi - sIx items.size 0 lo)).toArray } })
  (hsz:items.size<=sizeLine):wpAny (model prog w) A (getItem (.ref t) (.ref sl)) Q E s:=by
 have htake:sizeOk (.seq ((items.toList.drop (sIx items.size 0 lo)).take (sIx items.size items.size hi - sIx items.size 0 lo)).toArray):=by
  show ((items.toList.drop (sIx items.size 0 lo)).take (sIx items.size items.size hi - sIx items.size 0 lo)).toArray.size<=sizeLine
  rw [List.size_toArray,List.length_take,List.length_drop,Array.length_toList]
  omega
 have hj:sIx items.size items.size hi<=items.size:=Ux _ _ (Nat.le_refl _) hi
 obtain ⟨os,hos,hcs,hds⟩:=id hs
 have hTs:s.TypeIs (.ref sl) "slice":=⟨os,hos,hcs⟩
 unfold getItem
 try with_reducible refine wpAny_holding ?_
 first | refine wpAny_bind (wpAny_pure ?_) | skip
 refine wpAny_bind (wpAny_sequenceKey ht.typeIs (by decide) ?_)
 refine wpAny_bind (wpAny_callSpecial?_slot (name:=Str.ofString "__getitem__") ht.typeIs PyProof.Rows.slot_tuple_getitem
  (wpAny_call_entry PyProof.Rows.slot_tuple_getitem ht.typeIs entry_tuple_getitem ?_ (args_tuple_getitem _ _)))
 show wpAny _ _ (Builtin.Tuple.tupleItemsOf (.ref t) >>= _) _ _ s
 refine wpAny_bind (tupleItemsOf_ ht ?_)
 refine wpAny_bind (wpAny_typeOf hTs ?_)
 rw [if_pos (by decide)]
 refine wpAny_bind (DW hs pl pu ?_)
 have hno:¬ ((((sIx items.size 0 lo:Nat):Int) == 0 && (1:Int) == 1 && (sIx items.size items.size hi - sIx items.size 0 lo) == items.size)=true):=by
  intro q
  rw [Bool.and_eq_true,Bool.and_eq_true] at q
  have q1:((sIx items.size 0 lo:Nat):Int)=0:=eq_of_beq q.1.1
  have q2:sIx items.size items.size hi - sIx items.size 0 lo=items.size:=eq_of_beq q.2
  exact hw ⟨by omega,by omega⟩
 show wpAny _ _ (if (((sIx items.size 0 lo:Nat):Int) == 0 && (1:Int) == 1 && (sIx items.size items.size hi - sIx items.size 0 lo) == items.size)=true then _ else _) _ _ s
 rw [if_neg hno,P1]
 first
  | exact wpAny_bind (m:=Builtin.Tuple.tupleExact _) (wpAny_newObj_type (wpAny_pure ⟨_,rfl,wpAny_pure h⟩) htake)
  | exact wpAny_bind (m:=Builtin.Tuple.tupleExact _) (wpAny_newObj_type (wpAny_bind (wpAny_pure (wpAny_pure ⟨_,rfl,wpAny_pure h⟩))) htake)
  | exact wpAny_bind (wpAny_bind (m:=Builtin.Tuple.tupleExact _) (wpAny_newObj_type (wpAny_pure (wpAny_pure ⟨_,rfl,wpAny_pure h⟩)) htake))
  | exact wpAny_bind (wpAny_bind (m:=Builtin.Tuple.tupleExact _) (wpAny_newObj_type (wpAny_pure ⟨_,rfl,wpAny_pure h⟩) htake))
end
end HT
namespace L2
open PySem PySem.Spec PyProof.Rows
abbrev TO:=St->Hp->(Option Int->Hp->Prop)->Prop
def PO (X:Cx) (e:Option Expr) (t:TO):Prop :=
 ∀ (pins:List (Addr×Obj)) (s:Shared) (σ:St) (H:Hp) (Q:Option Int->Hp->Prop),Inv X pins σ H s->t σ H Q ->
  wpAny (model X.prog X.w) X.A (evalPart e X.env) (fun u s'=>∃ o H',Inv X pins σ H' s'/\IsPart u o/\Q o H') X.xe s
def R8:TO:=fun _ H Q=>Q none H
def Wb (t:TE):TO:=fun σ H Q=>t σ H fun x H1=>∃ i,x=.int i/\Q (some i) H1
theorem intsAre_of {ns:List Int}:∀ {us:List Value},Vals (ns.map V.int) us->IntsAre us ns:=by
 induction ns with
 | nil=>intro us r;rw [List.map_nil] at r;cases r;exact .nil
 | cons n ns ih =>
  intro us r
  rw [List.map_cons] at r
  cases r with
  | cons r1 r2 =>
   obtain ⟨t,e⟩:=r1
   subst e
   exact .cons n t (ih r2)
section
variable {X:Cx} {e:Expr} {te:TE} {lo hi:Option Expr} {tl th:TO} {pos p2:Pos}
theorem Sn:PO X none R8:=by
 intro pins s σ H Q I h
 rw [evalPart_none]
 exact wpAny_pure ⟨none,H,I,.none,h⟩
theorem Sm (h:PE X e te):PO X (some e) (Wb te):=by
 intro pins s σ H Q I hw
 rw [evalPart_some]
 refine thn (h pins s σ H _ I hw) fun u s1 ⟨x,H1,I1,r1,q1⟩=>?_
 obtain ⟨i,rfl,q⟩:=q1
 obtain ⟨t,rfl⟩:=r1
 exact ⟨some i,H1,I1,.int i t,q⟩
def SlR (X:Cx) (r:V->Option Int->Option Int->Hp->VK->Prop):Prop :=
 ∀ (pins:List (Addr×Obj)) (s:Shared) (σ:St) (H:Hp) (x:V) (v vl vu:Value) (lo hi:Option Int) (sl:Addr) (Q:VK),Inv X pins σ H s->RelV x v->s.heap.IsSliceOf sl vl vu .none->IsPart vl lo->IsPart vu hi->r x lo hi H Q ->
  ∃ T id,typeLookup (.type T) "__getitem__"=pure (some (.builtin id))/\s.TypeIs v T/\wpAny (model X.prog X.w) X.A (getItem v (.ref sl)) (EP X pins σ Q) X.xe s
theorem SlR.or {r r':V->Option Int->Option Int->Hp->VK->Prop} (h:SlR X r) (h':SlR X r'):SlR X (fun x lo hi H Q=>r x lo hi H Q∨r' x lo hi H Q):=by
 intro pins s σ H x v vl vu lo hi sl Q I rx hs pl pu q
 rcases q with q | q
 ·exact h pins s σ H x v vl vu lo hi sl Q I rx hs pl pu q
 ·exact h' pins s σ H x v vl vu lo hi sl Q I rx hs pl pu q
def tSl (r:V->Option Int->Option Int->Hp->VK->Prop) (te:TE) (tl th:TO):TE:=fun σ H Q=>te σ H fun x H1=>tl σ H1 fun l H2=>th σ H2 fun u H3=>r x l u H3 Q
theorem P2 {r:V->Option Int->Option Int->Hp->VK->Prop} (hr:SlR X r) (he:PE X e te) (hl:PO X lo tl) (hu:PO X hi th):PE X (.Subscript e (.Slice lo hi none p2) pos) (tSl r te tl th):=by
 intro pins s σ H Q I h
 refine Subscript_ (thn (he pins s σ H _ I h) fun v s1 ⟨x,H1,I1,r1,q1⟩=>?_)
 refine wpAny_Slice (thn (hl pins s1 σ H1 _ I1 q1) fun vl s2 ⟨l,H2,I2,pl,q2⟩=>thn (hu pins s2 σ H2 _ I2 q2) fun vu s3 ⟨u,H3,I3,pu,q3⟩=>?_)
 rw [evalPart_none]
 refine wpAny_pure ?_
 have I4:Inv X pins σ H3 { s3 with heap:=s3.heap.push { cls:=.type "slice",data:=.fields #[vl,vu,.none] } }:=I3.kept (t':=s3.toks) fun b ob q=>Heap.get?_push_of_some _ q
 obtain ⟨T,id,hT,ht,hg⟩:=hr pins { s3 with heap:=s3.heap.push { cls:=.type "slice",data:=.fields #[vl,vu,.none] } } σ H3 x v vl vu l u s3.heap.objs.size Q I4 r1 (Heap.IsSliceOf.new ..) pl pu q3
 show wpAny (model X.prog X.w) X.A (subscriptTail e (.Slice lo hi none p2) v (.ref s3.heap.objs.size)) (EP X pins σ Q) X.xe { s3 with heap:=s3.heap.push { cls:=.type "slice",data:=.fields #[vl,vu,.none] } }
 exact tail_any (ops:=[.ref s3.heap.objs.size,v]) ht hT hg (by with_unfolding_all rfl)
def RS (xs:List V) (lo hi:Option Int):List V:=(xs.drop (HT.sIx xs.length 0 lo)).take (HT.sIx xs.length xs.length hi - HT.sIx xs.length 0 lo)
theorem GW (xs:List V) (lo hi:Option Int):(RS xs lo hi).length<=xs.length:=by
 unfold RS
 rw [List.length_take,List.length_drop]
 omega
def Xt (K:Fg):V->Option Int->Option Int->Hp->VK->Prop:=fun x lo hi H Q=>∃ a xs,x=.ref a/\SqT K H a xs /\
 ¬ (HT.sIx xs.length 0 lo=0/\HT.sIx xs.length xs.length hi=xs.length)/\∀ p,H p=none->Q (.ref p) (upd H p (.tup (RS xs lo hi)))
theorem Uv:SlR X (Xt X.K):=by
 intro pins s σ H x v vl vu lo hi sl Q I rx hs pl pu h
 obtain ⟨a,xs,rfl,hx,hw,q⟩:=h
 cases rx
 obtain ⟨its,r,ht,hz⟩:=I.tuple hx
 have hlen:its.toArray.size=xs.length:=by rw [List.size_toArray];exact r.length.symm
 refine ⟨"tuple",_,PyProof.Rows.slot_tuple_getitem.lookup,ht.typeIs,?_⟩
 refine HT.Fo ht hs pl pu (by rw [hlen];exact hw) ?_ (by rw [hlen];exact hz)
 rw [hlen]
 refine ⟨.ref s.heap.objs.size,_,I.laid (t':=s.toks) (o:=.tup (RS xs lo hi)) (fun b ob q=>Heap.get?_push_of_some _ q) (Nat.le_refl _) ?_,rfl,q _ (I.hok.fresh (Nat.le_refl _))⟩
 exact ⟨Nat.le_trans (GW xs lo hi) hz,_,(r.drop (HT.sIx xs.length 0 lo)).take (HT.sIx xs.length xs.length hi - HT.sIx xs.length 0 lo),IsTup.new _ _⟩
def UC (K:Fg):R2:=fun x y H Q=>∃ a b xs ys,x=.ref a/\y=.ref b/\SqT K H a xs/\SqT K H b ys/\xs≠[]/\xs.length+ys.length<=sizeLine /\
 (ys=[]->Q (.ref a) H)/\(ys≠[]->∀ p,H p=none->Q (.ref p) (upd H p (.tup (xs++ys))))
theorem Vals.Kk {xs:List V} {us:List Value} (r:Vals xs us):us=[]↔xs=[]:=by
 cases r with
 | nil=>simp
 | cons _ _=>simp
theorem SD:OpR X (binaryOp .Add) (UC X.K):=by
 intro pins s σ H x y v u Q I rx ry h
 obtain ⟨a,b,xs,ys,rfl,rfl,ha,hb,hx,hz,q1,q2⟩:=h
 cases rx
 cases ry
 obtain ⟨its,r1,p1,_⟩:=I.tuple ha
 obtain ⟨its2,r2,p2,_⟩:=I.tuple hb
 refine HT.TU p1 p2 (fun z=>hx (r1.Kk.mp z)) (fun z=>⟨.ref a,H,I,rfl,q1 (r2.Kk.mp z)⟩) (fun z=>?_) (by rw [<- r1.length,<- r2.length];exact hz)
 refine ⟨.ref s.heap.objs.size,_,I.laid (t':=s.toks) (o:=.tup (xs++ys)) (fun b ob q=>Heap.get?_push_of_some _ q) (Nat.le_refl _) ?_,rfl,q2 (fun w=>z (r2.Kk.mpr w)) _ (I.hok.fresh (Nat.le_refl _))⟩
 exact ⟨by rw [List.length_append];exact hz,_,r1.append r2,IsTup.new _ _⟩
end
def ixN (n:Nat) (i:Int):Option Nat:=if 0<=i then (if i < n then some i.toNat else none) else if -(n:Int)<=i then some (i+n).toNat else none
def atI {α:Type} (xs:List α) (i:Int):Option α:=(ixN xs.length i).bind fun j=>xs[j]?
theorem NZ {n:Nat} {i:Int} {j:Nat} (h:ixN n i=some j):seqIndex? i n=some j/\j < n/\-(n:Int)<=i/\i < n:=by
 unfold ixN at h
 by_cases h0:0<=i
 ·rw [if_pos h0] at h
  by_cases h1:i < n
  ·rw [if_pos h1] at h
   have e:i.toNat=j:=Option.some.inj h
   exact ⟨by rw [seqIndex_of h0 h1,e],by omega,by omega,h1⟩
  ·rw [if_neg h1] at h;cases h
 ·rw [if_neg h0] at h
  by_cases h1:-(n:Int)<=i
  ·rw [if_pos h1] at h
   have e:(i+n).toNat=j:=Option.some.inj h
   exact ⟨by rw [seqIndex_neg (by omega) h1,e],by omega,h1,by omega⟩
  ·rw [if_neg h1] at h;cases h
theorem KJ {α:Type} {xs:List α} {i:Int} {v:α} (h:atI xs i=some v):∃ j,seqIndex? i xs.length=some j/\xs[j]?=some v/\j < xs.length/\-(xs.length:Int)<=i/\i < xs.length:=by
 unfold atI at h
 cases e:ixN xs.length i with
 | none=>rw [e] at h;cases h
 | some j =>
  rw [e] at h
  obtain ⟨h1,h2,h3,h4⟩:=NZ e
  exact ⟨j,h1,h,h2,h3,h4⟩
theorem A9 {α:Type} {xs:List α} {j:Nat} {v:α} (h:xs[j]?=some v):atI xs (j:Int)=some v:=by
 have hj:j < xs.length:=(List.getElem?_eq_some_iff.mp h).1
 have e:ixN xs.length (j:Int)=some j:=by
  unfold ixN
  rw [if_pos (by omega),if_pos (by omega)];simp
 unfold atI;rw [e];exact h
def KQ (b:Expr):Prop:=∀ o i,subscripted b false o i=operate [o,i] (getItem o i)
def IxR (X:Cx) (r:R2):Prop :=
 ∀ (value slice:Expr) (pins:List (Addr×Obj)) (s:Shared) (σ:St) (H:Hp) (x y:V) (v u:Value) (Q:VK),Inv X pins σ H s->RelV x v->RelV y u->r x y H Q ->
  subscripted slice false v u=operate [v,u] (getItem v u)->wpAny (model X.prog X.w) X.A (subscriptTail value slice v u) (EP X pins σ Q) X.xe s
def MtR (X:Cx) (id:String) (r:V->List V->Hp->VK->Prop):Prop :=
 ∀ (pins:List (Addr×Obj)) (s:Shared) (σ:St) (H:Hp) (x:V) (xs:List V) (v:Value) (us:List Value) (Q:VK),Inv X pins σ H s->RelV x v->Vals xs us->r x xs H Q ->
  wpAny (model X.prog X.w) X.A (call (.builtin id) (v :: us)) (EP X pins σ Q) X.xe s
section
variable {X:Cx} {a b:Expr} {ta tb:TE} {pos:Pos}
theorem IxR.or {r r':R2} (h:IxR X r) (h':IxR X r'):IxR X (fun x y H Q=>r x y H Q∨r' x y H Q):=by
 intro value slice pins s σ H x y v u Q I rx ry q hs
 rcases q with q | q
 ·exact h value slice pins s σ H x y v u Q I rx ry q hs
 ·exact h' value slice pins s σ H x y v u Q I rx ry q hs
theorem Wq {r:R2} (hr:IxR X r) (ha:PE X a ta) (hb:PE X b tb) (hs:KQ b):PE X (.Subscript a b pos) (tOp r ta tb):=by
 intro pins s σ H Q I h
 exact Subscript_ (W0 ha hb I h fun v u s2 x y H2 I2 rx ry q=>hr a b pins s2 σ H2 x y v u Q I2 rx ry q (hs _ _))
def Xf (K:Fg):R2:=fun x y H Q=>∃ p xs i v,x=.ref p/\y=.int i/\SqL K H p xs/\atI xs i=some v/\Q v H
def Xd (K:Fg):R2:=fun x y H Q=>∃ p xs i v,x=.ref p/\y=.int i/\SqT K H p xs/\atI xs i=some v/\Q v H
def Xe:R2:=fun x y H Q=>∃ z i c,x=.str z/\y=.int i/\z.length<=sizeLine/\atI z.cps.toList i=some c/\Q (.str ⟨#[c]⟩) H
theorem S5:IxR X (Xf X.K):=by
 intro value slice pins s σ H x y v u Q I rx ry h hs
 obtain ⟨p,xs,i,z,rfl,rfl,hq,he,q⟩:=h
 cases rx
 obtain ⟨t,rfl⟩:=ry
 obtain ⟨its,r,pl,hz⟩:=I.list hq
 obtain ⟨j,h1,h2,h3,h4,h5⟩:=KJ he
 obtain ⟨w,ew,rw'⟩:=r.get h2
 have hl:=r.length
 have hn:=GB
 have fin:EP X pins σ Q w s:=⟨z,H,I,rw',q⟩
 by_cases h0:0<=i
 ·have hj:i.toNat=j:=by
   rw [seqIndex_of h0 h5] at h1
   exact Option.some.inj h1
  exact item_listR pl.isList h0 (by omega) (by rw [hj];simpa using ew) fin hs
 ·have hj:(i+(its.toArray.size:Int)).toNat=j:=by
   rw [seqIndex_neg (by omega) h4] at h1
   rw [List.size_toArray,<- hl]
   exact Option.some.inj h1
  exact subscriptTail_builtinR (x:=w) pl.isList.typeIs slot_list_getitem.lookup
   (wpAny_getItem_list_neg (Q:=fun r s'=>r=w/\EP X pins σ Q r s') pl.isList (by omega) (by rw [List.size_toArray] <;> omega) (by omega) (by rw [hj];simpa using ew) ⟨rfl,fin⟩) hs
theorem Ve:IxR X (Xd X.K):=by
 intro value slice pins s σ H x y v u Q I rx ry h hs
 obtain ⟨p,xs,i,z,rfl,rfl,hq,he,q⟩:=h
 cases rx
 obtain ⟨t,rfl⟩:=ry
 obtain ⟨its,r,pl,hz⟩:=I.tuple hq
 obtain ⟨j,h1,h2,h3,h4,h5⟩:=KJ he
 obtain ⟨w,ew,rw'⟩:=r.get h2
 have hl:=r.length
 have hn:=GB
 have fin:EP X pins σ Q w s:=⟨z,H,I,rw',q⟩
 exact subscriptTail_builtinR (x:=w) pl.typeIs slot_tuple_getitem.lookup
  (getItem_tuple (j:=j) (Q:=fun r s'=>r=w/\EP X pins σ Q r s') pl (by omega) (by omega) (by rw [List.size_toArray,<- hl];exact h1) (by simpa using ew) ⟨rfl,fin⟩) hs
theorem Vf:IxR X Xe:=by
 intro value slice pins s σ H x y v u Q I rx ry h hs
 obtain ⟨z,i,c,rfl,rfl,hz,he,q⟩:=h
 obtain ⟨t,rfl⟩:=rx
 obtain ⟨t',rfl⟩:=ry
 obtain ⟨j,h1,h2,h3,h4,h5⟩:=KJ he
 have hl:z.cps.toList.length=z.length:=by simp [Str.length]
 rw [hl] at h1 h4 h5
 have hn:=GB
 exact tail_any (typeIs_str s z t) slot_str_getitem.lookup (getItem_str (c:=c) (by
  have e1:decide (i < -(2 ^ 63:Int))=false:=decide_eq_false (by omega)
  have e2:decide (i≥2 ^ 63)=false:=decide_eq_false (by omega)
  rw [e1,e2,Bool.or_false]) (by rw [h1];simpa using h2) ⟨.str ⟨#[c]⟩,H,I.tok _,⟨_,rfl⟩,q⟩) hs
def rIx (K:Fg):R2:=fun x y H Q=>Xf K x y H Q∨Xd K x y H Q∨Xe x y H Q
theorem Vg:IxR X (rIx X.K):=S5.or (Ve.or Vf)
theorem Mj (its:List Value) (n j:Nat) (u:Value):Obj.mapSeq (·.setIfInBounds j u) { cls:=.type "list",data:=.seq its.toArray n }={ cls:=.type "list",data:=.seq (its.set j u).toArray n }:=by
 simp [Obj.mapSeq]
theorem Inv.lst {pins:List (Addr×Obj)} {σ:St} {H:Hp} {s:Shared} {p:Addr} {xs:List V} (I:Inv X pins σ H s) (h:H p=some (.lst xs)) :
  ∃ (its:List Value) (n:Nat),Vals xs its/\s.heap.get? p=some { cls:=.type "list",data:=.seq its.toArray n }/\xs.length<=sizeLine:=by
 obtain ⟨z,its,n,r,e⟩:=I.hok p _ h
 exact ⟨its,n,r,e,z⟩
theorem Inv.U7 {pins:List (Addr×Obj)} {σ:St} {H:Hp} {s:Shared} {p:Addr} {xs ys:List V} {its its':List Value} {n n':Nat} {f:Obj->Obj} (I:Inv X pins σ H s) (h:H p=some (.lst xs))
  (ho:s.heap.get? p=some { cls:=.type "list",data:=.seq its.toArray n }) (hf:f { cls:=.type "list",data:=.seq its.toArray n }={ cls:=.type "list",data:=.seq its'.toArray n' }) (r:Vals ys its') (hz:ys.length<=sizeLine) (t:Nat) :
  Inv X pins σ (upd H p (.lst ys)) { s with heap:=s.heap.update p f,toks:=t }:=by
 have e:(s.heap.update p f).get? p=some { cls:=.type "list",data:=.seq its'.toArray n' }:=by
  rw [Heap.get?_update_self f ho (by rw [hf] <;> rfl),hf]
 refine I.write (x:=p) (e:=p) (by rw [h];trivial) (.inl rfl) (fun b u hb q=>(Heap.get?_update_other _ _ (Ne.symm hb)).trans q) ⟨_,e⟩ ?_
 exact ⟨hz,its',n',r,e⟩
def PR:V->V->V->Hp->(Hp->Prop)->Prop:=fun o i v H Q=>∃ p xs k j,o=.ref p/\i=.int k/\H p=some (.lst xs)/\ixN xs.length k=some j/\Q (upd H p (.lst (xs.set j v)))
theorem set_list:Q4 X PR:=by
 intro pins s σ H o i v ov iv u Q I ro ri rv h
 obtain ⟨p,xs,k,j,rfl,rfl,hp,hj,q⟩:=h
 cases ro
 obtain ⟨t,rfl⟩:=ri
 obtain ⟨its,n,r,ho,hz⟩:=I.lst hp
 obtain ⟨h1,h2,h3,h4⟩:=NZ hj
 have hl:=r.length
 have hn:=GB
 have I':Inv X pins σ (upd H p (.lst (xs.set j v))) { s with heap:=s.heap.update p (Obj.mapSeq (·.setIfInBounds j u)) } :=
  I.U7 hp ho (Mj its n j u) (r.set rv j) (by rw [List.length_set];exact hz) s.toks
 by_cases h0:0<=k
 ·have hk:k.toNat=j:=by
   rw [seqIndex_of h0 h4] at h1
   exact Option.some.inj h1
  exact PySem.W.ki_setAt ho h0 (by omega) (by rw [List.size_toArray,<- hl];exact h4) (by rw [hk];exact ⟨_,I',q⟩)
 ·have hk:(k+(its.toArray.size:Int)).toNat=j:=by
   rw [seqIndex_neg (by omega) h3] at h1
   rw [List.size_toArray,<- hl]
   exact Option.some.inj h1
  exact PySem.W.ki_setBack ho (by omega) (by rw [List.size_toArray,<- hl];exact h3) (by omega) (by rw [hk];exact ⟨_,I',q⟩)
theorem Jb (lo hi:Option Int) (n:Nat):(sliceBounds lo hi none n).1=((HT.sIx n 0 lo:Nat):Int)/\(sliceBounds lo hi none n).2.1=((HT.sIx n n hi:Nat):Int)/\(sliceBounds lo hi none n).2.2=1:=by
 refine ⟨?_,?_,rfl⟩
 ·cases lo with
  | none=>simp [sliceBounds,HT.sIx]
  | some i =>
   simp only [sliceBounds,HT.sIx,Option.getD_none,show (1:Int) > 0 by decide,if_true]
   by_cases h:i < 0
   ·simp only [h,if_true] <;> omega
   ·simp only [h,if_false] <;> omega
 ·cases hi with
  | none=>simp [sliceBounds,HT.sIx]
  | some i =>
   simp only [sliceBounds,HT.sIx,Option.getD_none,show (1:Int) > 0 by decide,if_true]
   by_cases h:i < 0
   ·simp only [h,if_true] <;> omega
   ·simp only [h,if_false] <;> omega
theorem H0 (its:List Value) (lo hi:Option Int):slicePick its.toArray lo hi none=((its.drop (HT.sIx its.length 0 lo)).take (HT.sIx its.length its.length hi - HT.sIx its.length 0 lo)).toArray:=by
 obtain ⟨h1,h2,h3⟩:=Jb lo hi its.toArray.size
 unfold slicePick
 rw [h1,h2,h3]
 simp only [sliceRange_one,pick_run,List.size_toArray] <;> rfl
def Xu (K:Fg):V->Option Int->Option Int->Hp->VK->Prop:=fun x lo hi H Q=>∃ a xs,x=.ref a/\SqL K H a xs/\∀ p,H p=none->Q (.ref p) (upd H p (.lst (RS xs lo hi)))
theorem Sd:SlR X (Xu X.K):=by
 intro pins s σ H x v vl vu lo hi sl Q I rx hs pl pu h
 obtain ⟨a,xs,rfl,hx,q⟩:=h
 cases rx
 obtain ⟨its,r,ht,hz⟩:=I.list hx
 have hlen:=r.length
 refine ⟨"list",_,slot_list_getitem.lookup,ht.isList.typeIs,?_⟩
 refine wpAny_getItem_list_slice ht.isList hs pl pu .none (by simp) ?_ (by rw [List.size_toArray] <;> omega)
 rw [H0,<- hlen]
 refine ⟨.ref s.heap.objs.size,_,I.laid (t':=s.toks) (o:=.lst (RS xs lo hi)) (fun b ob q=>Heap.get?_push_of_some _ q) (Nat.le_refl _) ?_,rfl,q _ (I.hok.fresh (Nat.le_refl _))⟩
 exact ⟨Nat.le_trans (GW xs lo hi) hz,_,0,(r.drop (HT.sIx xs.length 0 lo)).take (HT.sIx xs.length xs.length hi - HT.sIx xs.length 0 lo),Heap.get?_push_size _ rfl⟩
def Fq:V->Bool
 | .non=>true
 | .bl _=>true
 | .int _=>true
 | .str _=>true
 | _=>false
def eqV:V->V->Bool
 | .non,.non=>true
 | .bl a,.bl b=>a == b
 | .bl a,.int b=>(if a then 1 else 0) == b
 | .int a,.bl b=>a == (if b then 1 else 0)
 | .int a,.int b=>a == b
 | .str a,.str b=>a == b
 | _,_=>false
theorem RO {A:Around} {s:Shared} {y x:V} {u v:Value} (ry:RelV y u) (rx:RelV x v) (fy:Fq y=true) (fx:Fq x=true):SeqAt.EqAt A s u v (eqV y x):=by
 cases y with
 | non =>
  cases ry
  cases x with
  | non=>cases rx;exact SeqAt.EqAt.same _
  | bl b=>cases rx;exact SeqAt.EqAt.none_bool b
  | int b=>obtain ⟨t,rfl⟩:=rx;exact SeqAt.EqAt.none_int b t
  | str b=>obtain ⟨t,rfl⟩:=rx;exact SeqAt.EqAt.none_str b t
  | _=>exact absurd (show false=true from fx) Bool.false_ne_true
 | bl a =>
  cases ry
  cases x with
  | non=>cases rx;exact SeqAt.EqAt.bool_none a
  | bl b=>cases rx;exact SeqAt.EqAt.bool_bool a b
  | int b=>obtain ⟨t,rfl⟩:=rx;exact SeqAt.EqAt.bool_int a b t
  | str b=>obtain ⟨t,rfl⟩:=rx;exact SeqAt.EqAt.bool_str a b t
  | _=>exact absurd (show false=true from fx) Bool.false_ne_true
 | int a =>
  obtain ⟨t',rfl⟩:=ry
  cases x with
  | non=>cases rx;exact SeqAt.EqAt.int_none a t'
  | bl b=>cases rx;exact SeqAt.EqAt.int_bool a t' b
  | int b=>obtain ⟨t,rfl⟩:=rx;exact SeqAt.EqAt.int_int a t' b t
  | str b=>obtain ⟨t,rfl⟩:=rx;exact SeqAt.EqAt.int_str a t' b t
  | _=>exact absurd (show false=true from fx) Bool.false_ne_true
 | str a =>
  obtain ⟨t',rfl⟩:=ry
  cases x with
  | non=>cases rx;exact SeqAt.EqAt.str_none a t'
  | bl b=>cases rx;exact SeqAt.EqAt.str_bool a t' b
  | int b=>obtain ⟨t,rfl⟩:=rx;exact SeqAt.EqAt.str_int a t' b t
  | str b=>obtain ⟨t,rfl⟩:=rx;exact SeqAt.EqAt.str_str a t' b t
  | _=>exact absurd (show false=true from fx) Bool.false_ne_true
 | _=>exact absurd (show false=true from fy) Bool.false_ne_true
def eqU (x:V) (u:Value):Bool:=match u with
 | .none=>eqV .non x
 | .bool b=>eqV (.bl b) x
 | .int i _=>eqV (.int i) x
 | .str z _=>eqV (.str z) x
 | _=>false
theorem RL {x y:V} {u:Value} (r:RelV y u) (f:Fq y=true):eqU x u=eqV y x:=by
 cases y with
 | non=>cases r;rfl
 | bl b=>cases r;rfl
 | int i=>obtain ⟨t,rfl⟩:=r;rfl
 | str z=>obtain ⟨t,rfl⟩:=r;rfl
 | _=>exact absurd (show false=true from f) Bool.false_ne_true
theorem Hc {x:V}:∀ {xs:List V} {us:List Value},Vals xs us->xs.all Fq=true->us.any (eqU x)=xs.any fun y=>eqV y x
 | _,_,.nil,_=>rfl
 | y :: xs,u :: us,.cons r t,f=>by
  rw [List.all_cons,Bool.and_eq_true] at f
  rw [List.any_cons,List.any_cons,RL r f.1,Hc t f.2]
theorem EW {A:Around} {s:Shared} {x:V} {v:Value} (rx:RelV x v) (fx:Fq x=true):∀ {xs:List V} {us:List Value},Vals xs us->xs.all Fq=true->∀ u∈us,SeqAt.EqAt A s u v (eqU x u)
 | _,_,.nil,_=>fun u hu=>by cases hu
 | y :: xs,u :: us,.cons r t,f=>fun u' hu=>by
  rw [List.all_cons,Bool.and_eq_true] at f
  rcases List.mem_cons.mp hu with rfl | hu
  ·rw [RL r f.1];exact RO r rx f.1 fx
  ·exact EW rx fx t f.2 u' hu
def inV (x:V) (xs:List V):Bool:=xs.any fun y=>eqV y x
def rIn (K:Fg) (neg:Bool):R2:=fun x y H Q=>∃ p xs,y=.ref p/\(SqL K H p xs∨SqT K H p xs)/\Fq x=true/\xs.all Fq=true/\Q (.bl (if neg then !inV x xs else inV x xs)) H
theorem Jp:OpR X (compareOp .In) (rIn X.K false):=by
 intro pins s σ H x y v u Q I rx ry h
 obtain ⟨p,xs,rfl,hq,fx,fs,q⟩:=h
 cases ry
 rcases hq with hq | hq
 ·obtain ⟨its,r,pl,hz⟩:=I.list hq
  refine SeqAt.in_listAt (eqU x) pl.isList (fun w hw=>EW rx fx r fs w (by simpa using hw)) ⟨.bl _,H,I,rfl,?_⟩
  rw [show its.toArray.any (eqU x)=its.any (eqU x) by simp,Hc r fs]
  exact q
 ·obtain ⟨its,r,pl,hz⟩:=I.tuple hq
  refine SeqAt.in_tupleAt (eqU x) pl (fun w hw=>EW rx fx r fs w (by simpa using hw)) ⟨.bl _,H,I,rfl,?_⟩
  rw [show its.toArray.any (eqU x)=its.any (eqU x) by simp,Hc r fs]
  exact q
theorem Jn:OpR X (compareOp .NotIn) (rIn X.K true):=by
 intro pins s σ H x y v u Q I rx ry h
 obtain ⟨p,xs,rfl,hq,fx,fs,q⟩:=h
 cases ry
 rcases hq with hq | hq
 ·obtain ⟨its,r,pl,hz⟩:=I.list hq
  refine SeqAt.notIn_listAt (eqU x) pl.isList (fun w hw=>EW rx fx r fs w (by simpa using hw)) ⟨.bl _,H,I,rfl,?_⟩
  rw [show its.toArray.any (eqU x)=its.any (eqU x) by simp,Hc r fs]
  exact q
 ·obtain ⟨its,r,pl,hz⟩:=I.tuple hq
  refine SeqAt.notIn_tupleAt (eqU x) pl (fun w hw=>EW rx fx r fs w (by simpa using hw)) ⟨.bl _,H,I,rfl,?_⟩
  rw [show its.toArray.any (eqU x)=its.any (eqU x) by simp,Hc r fs]
  exact q
theorem Jm:OpR X (compareOp .NotIn) (fun x y H Q=>∃ i j,x=.str i/\y=.str j/\Q (.bl (!(!(Builtin.Str.occurrences j i 0 j.length 1).isEmpty))) H):=by
 intro pins s σ H x y v u Q I rx ry h
 obtain ⟨i,j,rfl,rfl,q⟩:=h
 obtain ⟨t,rfl⟩:=rx
 obtain ⟨t',rfl⟩:=ry
 exact notIn_str ⟨.bl _,H,I,rfl,q⟩
theorem JL:Dj X (.builtin "len") (fun xs H Q=>∃ p ys,xs=[.ref p]/\(SqL X.K H p ys∨SqT X.K H p ys)/\Q (.int ys.length) H):=by
 intro pins s σ H xs us Q I r h
 obtain ⟨p,ys,rfl,hq,q⟩:=h
 obtain ⟨u,rfl,rx⟩:=vals1 r
 cases rx
 have hn:=GB
 rcases hq with hq | hq
 ·obtain ⟨its,r',pl,hz⟩:=I.list hq
  have hlen:=r'.length
  exact Calls.call_len_list pl.isList (by simp only [List.size_toArray] <;> omega) ⟨.int ys.length,H,I.tok _,⟨s.toks+1,by rw [List.size_toArray,hlen]⟩,q⟩
 ·obtain ⟨its,r',pl,hz⟩:=I.tuple hq
  have hlen:=r'.length
  exact len_tuple pl (by simp only [List.size_toArray] <;> omega) ⟨.int ys.length,H,I.tok _,⟨s.toks+1,by rw [List.size_toArray,hlen]⟩,q⟩
theorem JK:Dj X (.builtin "len") (fun xs H Q=>∃ z,xs=[.str z]/\z.length<=sizeLine/\Q (.int z.length) H):=by
 intro pins s σ H xs us Q I r h
 obtain ⟨z,rfl,hz,q⟩:=h
 obtain ⟨u,rfl,t,rfl⟩:=vals1 r
 have hn:=GB
 exact len_str (by omega) ⟨.int z.length,H,I.tok _,⟨_,rfl⟩,q⟩
theorem JJ:Dj X (.type "list") (fun xs H Q=>∃ p ys,xs=[.ref p]/\(SqL X.K H p ys∨SqT X.K H p ys)/\∀ l,H l=none->Q (.ref l) (upd H l (.lst ys))):=by
 intro pins s σ H xs us Q I r h
 obtain ⟨p,ys,rfl,hq,q⟩:=h
 obtain ⟨u,rfl,rx⟩:=vals1 r
 cases rx
 have fin:∀ (its:List Value),Vals ys its->ys.length<=sizeLine->∀ (h':Heap) (c':Nat),(∀ b o',s.heap.get? b=some o'->h'.get? b=some o') ->
   h'.get? s.heap.objs.size=some { cls:=.type "list",dict:=none,data:=.seq its.toArray c',slots:=#[] }->EP X pins σ Q (.ref s.heap.objs.size) { s with heap:=h' }:=fun its r' hz h' c' kp e =>
  ⟨.ref s.heap.objs.size,_,I.laid (t':=s.toks) kp (Nat.le_refl _) (show Cg X.prog X.w _ h' _ (.lst ys) from ⟨hz,its,c',r',e⟩),rfl,q _ (I.hok.fresh (Nat.le_refl _))⟩
 rcases hq with hq | hq
 ·obtain ⟨its,r',pl,hz⟩:=I.list hq
  have hlen:=r'.length
  obtain ⟨o,ho,hc,n,hd⟩:=pl.isList
  exact call_list_seq p (.inl rfl) ho hc hd (fun h' c' kp e=>fin its r' hz h' c' kp e) (by simp only [List.size_toArray] <;> omega)
 ·obtain ⟨its,r',pl,hz⟩:=I.tuple hq
  have hlen:=r'.length
  obtain ⟨o,ho,hc,n,hd⟩:=pl
  exact call_list_seq p (.inr rfl) ho hc hd (fun h' c' kp e=>fin its r' hz h' c' kp e) (by simp only [List.size_toArray] <;> omega)
theorem II:Dj X (.type "tuple") (fun xs H Q=>∃ p ys,xs=[.ref p]/\((SqL X.K H p ys/\∀ l,H l=none->Q (.ref l) (upd H l (.tup ys)))∨(SqT X.K H p ys/\Q (.ref p) H))):=by
 intro pins s σ H xs us Q I r h
 obtain ⟨p,ys,rfl,h⟩:=h
 obtain ⟨u,rfl,rx⟩:=vals1 r
 cases rx
 rcases h with ⟨hq,q⟩ | ⟨hq,q⟩
 ·obtain ⟨its,r',pl,hz⟩:=I.list hq
  have hlen:=r'.length
  refine call_tuple_list pl.isList (fun h' kp=>?_) (by simp only [List.size_toArray] <;> omega)
  have I1:Inv X pins σ H { s with heap:=h' }:=I.kept (t':=s.toks) kp
  have I2:Inv X pins σ (upd H h'.objs.size (.tup ys)) { s with heap:=h'.push { cls:=.type "tuple",data:=.seq its.toArray } } :=
   I1.laid (t':=s.toks) (fun b o e=>Heap.get?_push_of_some _ e) (Nat.le_refl _) (show Cg X.prog X.w _ _ _ (.tup ys) from ⟨hz,its,r',IsTup.new _ _⟩)
  exact ⟨.ref h'.objs.size,_,I2,rfl,q _ (I1.hok.fresh (Nat.le_refl _))⟩
 ·obtain ⟨its,r',pl,hz⟩:=I.tuple hq
  exact call_tuple_same pl ⟨.ref p,H,I,rfl,q⟩
def tyV (K:Fg) (T:String) (x:V) (H:Hp):Prop:=match x with
 | .str _=>T="str"
 | .int _=>T="int"
 | .ref p=>(T="list"/\∃ xs,SqL K H p xs)∨(T="tuple"/\∃ o,K.lookup p=some o/\o.cls=.type "tuple"/\o.dict=none) ∨
   (T="dict"/\((∃ kvs,H p=some (.dK kvs))∨∃ kvs,H p=some (.dT kvs)))∨(T="set"/\∃ S n,H p=some (.set S n))
 | _=>False
theorem Q8 {pins:List (Addr×Obj)} {σ:St} {H:Hp} {s:Shared} {T:String} {x:V} {v:Value} (I:Inv X pins σ H s) (r:RelV x v) (ty:tyV X.K T x H) :
  s.TypeIs v T/\∀ a,v=.ref a->∃ ob,s.heap.get? a=some ob/\ob.dict=none:=by
 cases x with
 | str z =>
  obtain ⟨t,rfl⟩:=r
  cases (show T="str" from ty)
  exact ⟨typeIs_str s z t,fun _ e=>nomatch e⟩
 | int i =>
  obtain ⟨t,rfl⟩:=r
  cases (show T="int" from ty)
  exact ⟨typeIs_int s i t,fun _ e=>nomatch e⟩
 | ref p =>
  cases r
  rcases ty with ⟨rfl,xs,hq⟩ | ⟨rfl,o,hk,hc,hd⟩ | ⟨rfl,hk⟩ | ⟨rfl,S,n,hk⟩
  ·obtain ⟨its,_,pl,_⟩:=I.list hq
   refine ⟨pl.isList.typeIs,fun a e=>?_⟩
   cases e
   obtain ⟨o,n,e,c,hd,_⟩:=pl
   exact ⟨o,e,hd⟩
  ·refine ⟨⟨o,I.kIn p o hk,hc⟩,fun a e=>?_⟩
   cases e
   exact ⟨o,I.kIn _ o hk,hd⟩
  ·have z:∃ o,s.heap.get? p=some o/\o.ExactDict:=by
    rcases hk with ⟨kvs,hk⟩ | ⟨kvs,hk⟩
    ·obtain ⟨_,_,_,_,o,_,_,e,ex,_⟩:=I.hok p _ hk
     exact ⟨o,e,ex⟩
    ·obtain ⟨_,_,_,_,o,_,_,e,ex,_⟩:=I.hok p _ hk
     exact ⟨o,e,ex⟩
   obtain ⟨o,e,ex⟩:=z
   refine ⟨⟨o,e,ex.1⟩,fun a e2=>?_⟩
   cases e2
   exact ⟨o,e,ex.2.1⟩
  ·obtain ⟨o,_,_,_,e,ex,_⟩:=I.hok p _ hk
   refine ⟨⟨o,e,ex.1⟩,fun a e2=>?_⟩
   cases e2
   exact ⟨o,e,ex.2.1⟩
 | _=>exact False.elim ty
def Xr (K:Fg) (T:String) (r:V->List V->Hp->VK->Prop) (to:TE):TE:=fun σ H Q=>to σ H fun x H1=>tyV K T x H1/\r x [] H1 Q
def tBM (K:Fg) (T:String) (r:V->List V->Hp->VK->Prop) (to:TE) (t:TA):TE:=fun σ H Q=>to σ H fun x H1=>tyV K T x H1/\t σ H1 fun xs H2=>r x xs H2 Q
variable {o e:Expr} {es:List Expr} {to:TE} {t:TA} {name:Str} {apos cpos:Pos} {T id:String} {r:V->List V->Hp->VK->Prop}
theorem Nk (pa:PlainAttrs T) (slot:Slot T name id) (hty:typeOf (.builtin id)=pure (.type "method_descriptor")) (hm:MtR X id r) (ho:PE X o to)
  (hbase:attributeBase o name X.env (eval o X.env)=eval o X.env:=by rfl) (hline:(apos.endLine == cpos.line)=true:=by rfl):PE X (.Call (.Attribute o name apos) [] [] cpos) (Xr X.K T r to):=by
 intro pins s σ H Q I h
 refine wpAny_Call_method0_late hbase hline (thn (ho pins s σ H _ I h) fun v s1 ⟨x,H1,I1,r1,ty,q1⟩=>?_)
 obtain ⟨h1,h2⟩:=Q8 I1 r1 ty
 exact ⟨T,id,pa,slot,hty,h1,h2,Calls.callWith_builtin rfl (PySem.evalArgs_none (hm pins s1 σ H1 x [] v [] Q I1 r1 .nil q1))⟩
theorem UR (pa:PlainAttrs T) (slot:Slot T name id) (hty:typeOf (.builtin id)=pure (.type "method_descriptor")) (hm:MtR X id r) (ho:PE X o to) (ha:PA X (e :: es) t)
  (hbase:attributeBase o name X.env (eval o X.env)=eval o X.env:=by rfl)
  (hfew:((backTo cpos (starEach (e :: es) X.env)).all (fun x=>!x.1) && (backToKw cpos (keywordEach [] X.env)).all (fun x=>x.1.isSome)
   && decide ((e :: es).length+([]:List Keyword).length+(if ([]:List Keyword).isEmpty then 0 else 1) < 30))=true:=by rfl)
  (hline:(apos.endLine == cpos.line)=true:=by rfl) (hs:starEach (e :: es) X.env=(false,eval e X.env) :: starEach es X.env:=by rfl) (hplain:(backTo cpos (starEach es X.env)).any (·.1)=false:=by rfl) :
  PE X (.Call (.Attribute o name apos) (e :: es) [] cpos) (tBM X.K T r to t):=by
 intro pins s σ H Q I h
 refine wpAny_Call_method_late hbase hfew hline rfl (thn (ho pins s σ H _ I h) fun v s1 ⟨x,H1,I1,r1,ty,q1⟩=>?_)
 obtain ⟨h1,h2⟩:=Q8 I1 r1 ty
 refine ⟨T,id,pa,slot,hty,h1,h2,?_⟩
 have hA:=ha cpos pins s1 σ H1 _ I1 q1
 rw [hs] at hA ⊢
 refine Calls.callWith_builtin (by show (false || (backTo cpos (starEach es X.env)).any (·.1))=false;rw [hplain] <;> rfl) (Calls.evalArgs_plain ?_)
 exact thn hA fun us s2 ⟨vs,H2,I2,r2,q2⟩=>hm pins s2 σ H2 x vs v us Q I2 r1 r2 q2
end
def MtM (X:Cx) (id:String) (r:V->List V->Hp->VK->Prop):Prop :=
 ∀ (pins:List (Addr×Obj)) (s:Shared) (σ:St) (H:Hp) (x:V) (xs:List V) (v:Value) (us:List Value) (Q:VK),Inv X pins σ H s->RelV x v->Vals xs us->r x xs H Q ->
  wpAny (model X.prog X.w) X.A (call (.builtin id) (v :: us)) (EP X pins σ Q) X.xe s
theorem Vals.one:∀ {x:V} {us:List Value},Vals [x] us->∃ u,us=[u]/\RelV x u
 | _,_,.cons r .nil=>⟨_,rfl,r⟩
theorem Vals.zero:∀ {us:List Value},Vals [] us->us=[]
 | _,.nil=>rfl
theorem Vals.dropLast {xs:List V} {us:List Value} (h:Vals xs us):Vals xs.dropLast us.dropLast:=by
 induction h with
 | nil=>exact .nil
 | cons r t ih =>
  cases t with
  | nil=>exact .nil
  | cons q t'=>exact .cons r ih
theorem Vals.reverse {xs:List V} {us:List Value} (h:Vals xs us):Vals xs.reverse us.reverse:=by
 induction h with
 | nil=>exact .nil
 | cons r t ih=>rw [List.reverse_cons,List.reverse_cons];exact Vals.append ih (.cons r .nil)
theorem MB {α:Type} (l:List α):l.eraseIdx (l.length - 1)=l.dropLast:=by
 induction l with
 | nil=>rfl
 | cons a r ih =>
  cases r with
  | nil=>rfl
  | cons b r =>
   have e:(a :: b :: r).length - 1=((b :: r).length - 1)+1:=by
    have h1:(a :: b :: r).length=r.length+2:=rfl
    have h2:(b :: r).length=r.length+1:=rfl
    omega
   rw [e,List.eraseIdx_cons_succ,ih]
   all_goals rfl
section
variable {X:Cx} {pins:List (Addr×Obj)} {σ:St} {H:Hp} {s:Shared} {l b:Addr} {xs ys zs:List V}
theorem Inv.WG {its its':List Value} {n:Nat} {f:Array Value->Array Value} {t':Nat} (I:Inv X pins σ H s) (hH:H l=some (.lst xs))
  (e:s.heap.get? l=some { cls:=.type "list",data:=.seq its.toArray n }) (hf:f its.toArray=its'.toArray) (hv:Vals ys its') (hz:ys.length<=sizeLine) :
  Inv X pins σ (upd H l (.lst ys)) { s with heap:=s.heap.update l (Obj.mapSeq f),toks:=t' }:=by
 have q:=PySem.IsL.update e f
 rw [hf] at q
 refine I.write (x:=l) (e:=l) (by rw [hH];exact trivial) (.inl rfl) (fun b' u hb hu=>(Heap.get?_update_other s.heap (Obj.mapSeq f) (Ne.symm hb)).trans hu) ⟨_,q⟩ ?_
 exact ⟨hz,its',_,hv,q⟩
theorem Inv.XB {its:List Value} {t':Nat} (I:Inv X pins σ H s) (hv:Vals ys its) (hz:ys.length<=sizeLine) :
  Inv X pins σ (upd H s.heap.objs.size (.lst ys)) { s with heap:=s.heap.push { cls:=.type "list",data:=.seq its.toArray },toks:=t' } :=
 I.laid (fun _ _ q=>Heap.get?_push_of_some _ q) (Nat.le_refl _) ⟨hz,its,0,hv,Heap.get?_push_size _ rfl⟩
theorem Inv.fresh (I:Inv X pins σ H s):H s.heap.objs.size=none:=I.hok.fresh (Nat.le_refl _)
theorem Inv.U8 (I:Inv X pins σ H s) (hH:H l=some (.lst xs)):xs.length<=sizeLine/\∃ (its:List Value) (n:Nat),Vals xs its/\xs.length=its.length/\s.heap.get? l=some { cls:=.type "list",data:=.seq its.toArray n }:=by
 obtain ⟨z,its,n,r,e⟩:=I.hok l _ hH
 exact ⟨z,its,n,r,r.length,e⟩
end
section
variable {X:Cx}
def M0:V->List V->Hp->VK->Prop:=fun x vs H Q=>∃ l xs y,x=.ref l/\vs=[y]/\H l=some (.lst xs)/\xs.length < sizeLine/\Q .non (upd H l (.lst (xs++[y])))
theorem Co:MtM X "list.append" M0:=by
 intro pins s σ H x vs v us Q I rx rv h
 obtain ⟨l,xs,y,rfl,rfl,hH,hz,q⟩:=h
 cases rx
 obtain ⟨u,rfl,ru⟩:=rv.one
 obtain ⟨z,its,n,r,hl,e⟩:=I.U8 hH
 refine call_meets F.slot_list_append ⟨_,e,rfl⟩ F.entry_list_append (F.args_list_append_2 _ _) (PySem.list_append l its.toArray n u (by rw [List.size_toArray];omega)) ⟨e,?_⟩
 refine ⟨.non,_,I.WG (its':=its++[u]) hH e (by simp) (r.append (.cons ru .nil)) ?_,rfl,q⟩
 rw [List.length_append,List.length_singleton]
 omega
def Xw:V->List V->Hp->VK->Prop:=fun x vs H Q=>∃ l xs y,x=.ref l/\vs=[]/\H l=some (.lst xs)/\xs[xs.length - 1]?=some y/\Q y (upd H l (.lst xs.dropLast))
theorem U6:MtM X "list.pop" Xw:=by
 intro pins s σ H x vs v us Q I rx rv h
 obtain ⟨l,xs,y,rfl,rfl,hH,hy,q⟩:=h
 cases rx
 have hus:=rv.zero
 subst hus
 obtain ⟨z,its,n,r,hl,e⟩:=I.U8 hH
 obtain ⟨u,hu,ru⟩:=r.get hy
 have hy':its.toArray[its.toArray.size - 1]?=some u:=by
  show its.toArray[its.length - 1]?=some u
  rw [<- Array.getElem?_toList,<- hl]
  exact hu
 refine call_meets F.slot_list_pop ⟨_,e,rfl⟩ F.entry_list_pop (F.args_list_pop_1 _) (MeetsSeq.list_pop_last l its.toArray n u hy' (by rw [List.size_toArray];omega)) ⟨e,?_⟩
 refine ⟨y,_,I.WG (its':=its.dropLast) hH e ?_ r.dropLast ?_,ru,q⟩
 ·show its.toArray.eraseIdxIfInBounds (its.toArray.size - 1)=its.dropLast.toArray
  rw [List.size_toArray,List.eraseIdxIfInBounds_toArray,MB]
 ·rw [List.length_dropLast]
  omega
def Rf:V->List V->Hp->VK->Prop:=fun x vs H Q=>∃ l xs,x=.ref l/\vs=[]/\H l=some (.lst xs)/\Q .non (upd H l (.lst []))
theorem Ir:MtM X "list.clear" Rf:=by
 intro pins s σ H x vs v us Q I rx rv h
 obtain ⟨l,xs,rfl,rfl,hH,q⟩:=h
 cases rx
 have hus:=rv.zero
 subst hus
 obtain ⟨z,its,n,r,hl,e⟩:=I.U8 hH
 refine call_meets F.slot_list_clear ⟨_,e,rfl⟩ F.entry_list_clear (F.args_list_clear_1 _) (AutoSeq1.list_clear_list_0 l its.toArray n (by rw [List.size_toArray];omega)) ⟨e,?_⟩
 exact ⟨.non,_,I.WG (its':=[]) (ys:=[]) hH e rfl .nil (Nat.zero_le _),rfl,q⟩
def Xg:R2:=fun x y H Q=>∃ l b xs zs,x=.ref l/\y=.ref b/\H l=some (.lst xs)/\H b=some (.lst zs)/\xs.length+zs.length<=sizeLine/\∀ p,H p=none->Q (.ref p) (upd H p (.lst (xs++zs)))
theorem UZ:OpR X (binaryOp .Add) Xg:=by
 intro pins s σ H x y v u Q I rx ry h
 obtain ⟨l,b,xs,zs,rfl,rfl,hH,hB,hz,q⟩:=h
 cases rx
 cases ry
 obtain ⟨z,its,n,r,hl,e⟩:=I.U8 hH
 obtain ⟨z2,its2,n2,r2,hl2,e2⟩:=I.U8 hB
 refine PySem.P.add_list e e2 ?_ (by rw [List.size_toArray,List.size_toArray];omega)
 have ea:its.toArray++its2.toArray=(its++its2).toArray:=by simp
 rw [ea]
 exact ⟨.ref _,_,I.XB (t':=s.toks) (r.append r2) (by rw [List.length_append];omega),rfl,q _ I.fresh⟩
end
section
variable {prog:Program} {w:World} {A:Around} {E:Value->Shared->Prop} {s:Shared}
set_option maxRecDepth 100000 in
end
section
variable {X:Cx}
end
section
variable {κ:Type} [DecidableEq κ]
def LX (kvs:List (κ×V)) (k:κ):Option V:=(kvs.find? fun kv=>decide (kv.1=k)).map (·.2)
def putK (kvs:List (κ×V)) (k:κ) (v:V):List (κ×V) :=
 if (kvs.any fun kv=>decide (kv.1=k))=true then kvs.map (fun kv=>if kv.1=k then (kv.1,v) else kv) else kvs++[(k,v)]
theorem FK {p:κ×V} {r:List (κ×V)} {k:κ} (e:p.1=k):LX (p :: r) k=some p.2:=by simp [LX,List.find?_cons,e]
theorem FN {p:κ×V} {r:List (κ×V)} {k:κ} (e:¬ p.1=k):LX (p :: r) k=LX r k:=by simp [LX,List.find?_cons,e]
theorem KU (k:κ):∀ kvs:List (κ×V),(kvs.any fun kv=>decide (kv.1=k))=(LX kvs k).isSome
 | []=>rfl
 | p :: r=>by
  rw [List.any_cons]
  by_cases e:p.1=k
  ·simp only [FK e,decide_eq_true e,Bool.true_or,Option.isSome_some]
  ·rw [FN e,decide_eq_false e,Bool.false_or];exact KU k r
theorem GC (kvs:List (κ×V)) (k:κ) (v:V):(putK kvs k v).length<=kvs.length+1:=by
 unfold putK
 split
 ·rw [List.length_map];omega
 ·rw [List.length_append,List.length_cons,List.length_nil];omega
theorem AK.D9 {o:Option V} {u:Option Value} (r:AK o u):o.isSome=u.isSome:=by
 cases o with
 | none=>cases u with
  | none=>rfl
  | some _=>exact (show False from r).elim
 | some _=>cases u with
  | none=>exact (show False from r).elim
  | some _=>rfl
theorem KV.val {kvs:List (κ×V)} {vs:List (κ×Value)} (r:KV kvs vs) (k:κ):AK (LX kvs k) (valueAt vs k):=by
 unfold KV at r
 induction r with
 | nil=>exact True.intro
 | @cons p q ps qs h t ih =>
  obtain ⟨h1,h2⟩:=h
  by_cases e:p.1=k
  ·have e':q.1=k:=h1.symm.trans e
   have b:valueAt (q :: qs) k=some q.2:=by simp [valueAt,List.find?_cons,e']
   rw [FK e,b];exact h2
  ·have e':¬ q.1=k:=fun z=>e (h1.trans z)
   have b:valueAt (q :: qs) k=valueAt qs k:=by simp [valueAt,List.find?_cons,e']
   rw [FN e,b];exact ih
theorem KV.any {kvs:List (κ×V)} {vs:List (κ×Value)} (r:KV kvs vs) (k:κ):(kvs.any fun kv=>decide (kv.1=k))=vs.any fun kv=>decide (kv.1=k):=by
 unfold KV at r
 induction r with
 | nil=>rfl
 | cons h t ih=>rw [List.any_cons,List.any_cons,ih,h.1]
theorem KV.Wh {kvs:List (κ×V)} {vs:List (κ×Value)} (r:KV kvs vs) (k:κ) {y:V} {u:Value} (ry:RelV y u) :
  KV (kvs.map fun kv=>if kv.1=k then (kv.1,y) else kv) (vs.map fun kv=>if kv.1=k then (kv.1,u) else kv):=by
 unfold KV at r ⊢
 induction r with
 | nil=>exact .nil
 | @cons p q ps qs h t ih =>
  rw [List.map_cons,List.map_cons]
  refine .cons ?_ ih
  obtain ⟨h1,h2⟩:=h
  by_cases e:p.1=k
  ·rw [if_pos e,if_pos (h1.symm.trans e)];exact ⟨h1,ry⟩
  ·rw [if_neg e,if_neg (fun z=>e (h1.trans z))];exact ⟨h1,h2⟩
theorem KV.put {kvs:List (κ×V)} {vs:List (κ×Value)} (r:KV kvs vs) (k:κ) {y:V} {u:Value} (ry:RelV y u):KV (putK kvs k y) (stored vs k u):=by
 unfold putK stored
 rw [r.any k]
 by_cases e:(vs.any fun kv=>decide (kv.1=k))=true
 ·rw [if_pos e,if_pos e];exact r.Wh k ry
 ·rw [if_neg e,if_neg e];exact Paired.snoc r ⟨rfl,ry⟩
theorem KV.length {kvs:List (κ×V)} {vs:List (κ×Value)} (r:KV kvs vs):kvs.length=vs.length:=Paired.length r
end
theorem NX {P:Program} {w:World} {k:Key} {u:Value} (r:RelV (kV k) u):(Cp P w).is k u=true:=by
 cases k with
 | inl i=>obtain ⟨t,e⟩:=(show ∃ t,u=Value.int i t from r);subst e;exact Km P w i t
 | inr x=>obtain ⟨t,e⟩:=(show ∃ t,u=Value.str x t from r);subst e;exact Kl P w x t
theorem Jv {P:Program} {w:World}:∀ {ks:List Key} {us:List Value},Vals (ks.map kV) us->ItemsAre (Cp P w) ks us
 | [],_,r=>by rw [List.map_nil] at r;cases r;exact .nil
 | k :: ks,_,r=>by
  rw [List.map_cons] at r
  cases r with
  | cons h t=>exact .cons (NX h) (Jv t)
abbrev KT (H:Hp):List (List Key×V)->List (List Key×Addr×Value)->Prop:=Paired fun p q=>p.1=q.1/\H q.2.1=some (.tup (p.1.map kV))/\RelV p.2 q.2.2
theorem KT.val {H:Hp} {kvs:List (List Key×V)} {xs:List (List Key×Addr×Value)} (r:KT H kvs xs) (k:List Key):AK (LX kvs k) ((atKey xs k).map (·.2)):=by
 induction r with
 | nil=>exact True.intro
 | @cons p q ps qs h t ih =>
  obtain ⟨h1,_,h2⟩:=h
  by_cases e:p.1=k
  ·have e':q.1=k:=h1.symm.trans e
   have b:atKey (q :: qs) k=some q.2:=by simp [atKey,List.find?_cons,e']
   rw [FK e,b];exact h2
  ·have e':¬ q.1=k:=fun z=>e (h1.trans z)
   have b:atKey (q :: qs) k=atKey qs k:=by simp [atKey,List.find?_cons,e']
   rw [FN e,b];exact ih
theorem KT.Wh {H:Hp} {kvs:List (List Key×V)} {xs:List (List Key×Addr×Value)} (r:KT H kvs xs) (k:List Key) {y:V} {u:Value} (ry:RelV y u) :
  KT H (kvs.map fun kv=>if kv.1=k then (kv.1,y) else kv) (xs.map (putAt k u)):=by
 induction r with
 | nil=>exact .nil
 | @cons p q ps qs h t ih =>
  rw [List.map_cons,List.map_cons]
  refine .cons ?_ ih
  obtain ⟨h1,h2,h3⟩:=h
  unfold putAt
  by_cases e:p.1=k
  ·rw [if_pos e,if_pos (h1.symm.trans e)];exact ⟨h1,h2,ry⟩
  ·rw [if_neg e,if_neg (fun z=>e (h1.trans z))];exact ⟨h1,h2,h3⟩
theorem KT.put {H:Hp} {kvs:List (List Key×V)} {xs:List (List Key×Addr×Value)} (r:KT H kvs xs) (k:List Key) {b:Addr} {y:V} {u:Value} (hb:H b=some (.tup (k.map kV))) (ry:RelV y u) :
  KT H (putK kvs k y) (storedH xs k b u):=by
 have e:(kvs.any fun kv=>decide (kv.1=k))=(atKey xs k).isSome:=by
  rw [KU,(r.val k).D9,Option.isSome_map]
 unfold putK storedH
 rw [e]
 by_cases q:(atKey xs k).isSome=true
 ·rw [if_pos q,if_pos q];exact r.Wh k ry
 ·rw [if_neg q,if_neg q];exact Paired.snoc r ⟨rfl,hb,ry⟩
theorem KT.keeps {H H':Hp} {kvs:List (List Key×V)} {xs:List (List Key×Addr×Value)} (r:KT H kvs xs) (ht:∀ b ys,H b=some (.tup ys)->H' b=some (.tup ys)):KT H' kvs xs :=
 Paired.WE r fun _ _ z=>⟨z.1,ht _ _ z.2.1,z.2.2⟩
section
variable {P:Program} {w:World} {H:Hp} {h:Heap} {a:Addr}
theorem UA {u:HO} (ok:HOk P w H h) (e:Rd H a u):Cg P w H h a u:=e.ok ok
theorem Kz {kvs:List (Key×V)} (ok:HOk P w H h) (e:Rd H a (.dK kvs)):kvs.length<=sizeLine/\(a == sysModules)=false/\∃ vs,KV kvs vs/\h.DictOf (Cp P w) a vs :=
 show Cg P w H h a (.dK kvs) from UA ok e
theorem WY {kvs:List (Key×V)} (ok:HOk P w H h) (e:H a=some (.dK kvs)):kvs.length<=sizeLine/\(a == sysModules)=false/\∃ vs,KV kvs vs/\h.DictOf (Cp P w) a vs:=Kz ok (.inl e)
theorem Ju {ks:List Key} (ok:HOk P w H h) (e:H a=some (.tup (ks.map kV))):(tupleKind (Cp P w)).is h ks a:=by
 obtain ⟨_,its,r,o,h1,h2,n,h3⟩:=(show Cg P w H h a (.tup (ks.map kV)) from ok a _ e)
 exact ⟨o,its.toArray,n,h1,h2,h3,by simpa using Jv r⟩
theorem OF {kvs:List (List Key×V)} (ok:HOk P w H h) (e:Rd H a (.dT kvs)):kvs.length<=sizeLine/\(a == sysModules)=false /\
  ∃ xs,KT H kvs xs/\h.DictOfH (tupleKind (Cp P w)) a xs:=by
 obtain ⟨z,y,xs,r,o,es,ep,h1,h2,h3,h4,h5⟩:=(show Cg P w H h a (.dT kvs) from UA ok e)
 refine ⟨z,y,xs,r,o,es,ep,h1,h2,h3,h4,fun x hx=>?_,h5⟩
 have all:∀ {l:List (List Key×V)} {m:List (List Key×Addr×Value)},KT H l m->∀ x∈m,(tupleKind (Cp P w)).is h x.1 x.2.1:=by
  intro l m q
  induction q with
  | nil=>intro x hx;exact nomatch hx
  | @cons p q ps qs hq t ih =>
   intro x hx
   rcases List.mem_cons.mp hx with e | hx
   ·subst e
    exact Ju ok (by rw [<- hq.1];exact hq.2.1)
   ·exact ih x hx
 exact all r x hx
theorem WX {kvs:List (List Key×V)} (ok:HOk P w H h) (e:H a=some (.dT kvs)):kvs.length<=sizeLine/\(a == sysModules)=false /\
  ∃ xs,KT H kvs xs/\h.DictOfH (tupleKind (Cp P w)) a xs:=OF ok (.inl e)
end
def MJ (H:Hp) (a:Addr) (y:V) (r:Option V):Prop :=
 (∃ kvs k,Rd H a (.dK kvs)/\y=kV k/\r=LX kvs k)∨∃ kvs k b,Rd H a (.dT kvs)/\y=.ref b/\H b=some (.tup (k.map kV))/\r=LX kvs k
def Ph (H:Hp) (a:Addr) (y v:V) (H':Hp):Prop :=
 (∃ kvs k,H a=some (.dK kvs)/\y=kV k/\kvs.length < sizeLine/\H'=upd H a (.dK (putK kvs k v))) ∨
 ∃ kvs k b,H a=some (.dT kvs)/\y=.ref b/\H b=some (.tup (k.map kV))/\kvs.length < sizeLine/\H'=upd H a (.dT (putK kvs k v))
theorem MJ.t {H:Hp} {a b:Addr} {kvs:List (List Key×V)} {k:List Key} (e:H a=some (.dT kvs)) (eb:H b=some (.tup (k.map kV))):MJ H a (.ref b) (LX kvs k):=.inr ⟨kvs,k,b,.inl e,rfl,eb,rfl⟩
theorem Ph.k {H:Hp} {a:Addr} {kvs:List (Key×V)} {k:Key} {v:V} (e:H a=some (.dK kvs)) (hl:kvs.length < sizeLine):Ph H a (kV k) v (upd H a (.dK (putK kvs k v))):=.inl ⟨kvs,k,e,rfl,hl,rfl⟩
theorem Ph.t {H:Hp} {a b:Addr} {kvs:List (List Key×V)} {k:List Key} {v:V} (e:H a=some (.dT kvs)) (eb:H b=some (.tup (k.map kV))) (hl:kvs.length < sizeLine) :
  Ph H a (.ref b) v (upd H a (.dT (putK kvs k v))):=.inr ⟨kvs,k,b,e,rfl,eb,hl,rfl⟩
section
variable {X:Cx} {pins:List (Addr×Obj)} {σ:St} {H:Hp} {s:Shared} {a:Addr} {y v:V} {u r:Value} {o:Option V} {A:Around} {E:Value->Shared->Prop}
theorem Inv.big (I:Inv X pins σ H s):sysModules < s.heap.objs.size:=by
 have h:mainGlobals < s.heap.objs.size:=(I.mod.glob.keeps I.bk).lt
 exact Nat.lt_trans (by decide) h
theorem OM {Q:Value->Shared->Prop} (hu:A.units+1 < cLine) (I:Inv X pins σ H s) (g:MJ H a y (some v)) (ry:RelV y u) (h:∀ w' s',Inv X pins σ H s'->RelV v w'->Q w' s') :
  wpAny (model X.prog X.w) A (getItem (.ref a) u) Q E s:=by
 rcases g with ⟨kvs,k,e,ey,l⟩ | ⟨kvs,k,b,e,ey,eb,l⟩
 ·subst ey
  obtain ⟨z,hd,vs,rel,dd⟩:=Kz I.hok e
  obtain ⟨w',hw,rw'⟩:=AK.some_of (v:=v) (o:=valueAt vs k) (by rw [l];exact rel.val k)
  exact wpAny_getItem_of (NX ry) dd.mapOf hw (h w' _ (I.tok _) rw')
 ·subst ey
  cases (show u=Value.ref b from ry)
  obtain ⟨z,hd,xs,rel,dd⟩:=OF I.hok e
  obtain ⟨w',hw,rw'⟩:=AK.some_of (v:=v) (o:=(atKey xs k).map (·.2)) (by rw [l];exact rel.val k)
  obtain ⟨p,hp,hp2⟩:=Option.map_eq_some_iff.mp hw
  refine wpAny_getItem_heap (tupleKind_room_in1 hu) (Ju I.hok eb) dd hp ?_
  rw [hp2]
  exact h w' _ (I.tok _) rw'
theorem XI {Q:Value->Shared->Prop} (hu:A.units+1 < cLine) (I:Inv X pins σ H s) (g:MJ H a y o) (ry:RelV y u) (h:∀ s',Inv X pins σ H s'->Q (.bool o.isSome) s') :
  wpAny (model X.prog X.w) A (compareOp .In u (.ref a)) Q E s:=by
 rcases g with ⟨kvs,k,e,ey,l⟩ | ⟨kvs,k,b,e,ey,eb,l⟩
 ·subst ey
  obtain ⟨z,hd,vs,rel,dd⟩:=Kz I.hok e
  refine wpAny_in_of (NX ry) hd dd.mapOf ?_
  rw [<- (rel.val k).D9,<- l]
  exact h _ (I.tok _)
 ·subst ey
  cases (show u=Value.ref b from ry)
  obtain ⟨z,hd,xs,rel,dd⟩:=OF I.hok e
  refine wpAny_in_heap (tupleKind_room_in1 hu) (Ju I.hok eb) hd dd ?_
  have q:=(rel.val k).D9
  rw [Option.isSome_map] at q
  rw [<- q,<- l]
  exact h _ (I.tok _)
theorem TH {Q:Value->Shared->Prop} (hu:A.units+1 < cLine) (I:Inv X pins σ H s) (g:MJ H a y o) (ry:RelV y u) (h:∀ s',Inv X pins σ H s'->Q (.bool (!o.isSome)) s') :
  wpAny (model X.prog X.w) A (compareOp .NotIn u (.ref a)) Q E s:=by
 rcases g with ⟨kvs,k,e,ey,l⟩ | ⟨kvs,k,b,e,ey,eb,l⟩
 ·subst ey
  obtain ⟨z,hd,vs,rel,dd⟩:=Kz I.hok e
  refine wpAny_notIn_of (NX ry) hd dd.mapOf ?_
  rw [<- (rel.val k).D9,<- l]
  exact h _ (I.tok _)
 ·subst ey
  cases (show u=Value.ref b from ry)
  obtain ⟨z,hd,xs,rel,dd⟩:=OF I.hok e
  refine wpAny_notIn_heap (tupleKind_room_in1 hu) (Ju I.hok eb) hd dd ?_
  have q:=(rel.val k).D9
  rw [Option.isSome_map] at q
  rw [<- q,<- l]
  exact h _ (I.tok _)
theorem OL {h':Heap} {t':Nat} {ob:HO} (I:Inv X pins σ H s) (mu:Mut (H a)) (hs:Heap.SameBut a s.heap h') (he:∃ q,h'.get? a=some q) (new:Cg X.prog X.w (upd H a ob) h' a ob) :
  Inv X pins σ (upd H a ob) { s with heap:=h',toks:=t' } :=
 I.write (x:=a) (e:=a) mu (.inl rfl) (fun b q hb z=>(hs.2 b hb).trans z) he new
theorem VD {P:Program} {w:World} {H':Hp} {h':Heap} {kvs:List (Key×V)} {vs:List (Key×Value)} (z:kvs.length<=sizeLine) (hd:(a == sysModules)=false) (rel:KV kvs vs) (dd:h'.DictOf (Cp P w) a vs) :
  Cg P w H' h' a (.dK kvs):=⟨z,hd,vs,rel,dd⟩
theorem JD {H':Hp} {Q:Unit->Shared->Prop} (hu:A.units+1 < cLine) (I:Inv X pins σ H s) (g:Ph H a y v H') (ry:RelV y u) (rv:RelV v r) (h:∀ s',Inv X pins σ H' s'->Q () s') :
  wpAny (model X.prog X.w) A (setItem (.ref a) u r) Q E s:=by
 rcases g with ⟨kvs,k,e,ey,l,eH⟩ | ⟨kvs,k,b,e,ey,eb,l,eH⟩
 ·subst ey eH
  obtain ⟨z,hd,vs,rel,dd⟩:=WY I.hok e
  have hz:vs.length<=sizeLine:=by rw [<- rel.length];exact z
  have hl:(putK kvs k v).length<=sizeLine:=by have:=GC kvs k v;omega
  refine wpAny_setItem_pairs (hsz:=hz) (NX ry) dd fun h' dd' hs=>h _ ?_
  have he:∃ q,h'.get? a=some q:=let ⟨q,_,_,hq,_⟩:=dd';⟨q,hq⟩
  exact OL I (by rw [e];exact True.intro) hs he (VD hl hd (rel.put k rv) dd')
 ·subst ey eH
  cases (show u=Value.ref b from ry)
  obtain ⟨z,hd,xs,rel,dd⟩:=WX I.hok e
  have hz:xs.length<=sizeLine:=by rw [<- Paired.length rel];exact z
  have hl:(putK kvs k v).length<=sizeLine:=by have:=GC kvs k v;omega
  refine wpAny_setItem_heap (hsz:=hz) (tupleKind_room_in1 hu) (Ju I.hok eb) dd fun h' dd' hs=>h _ ?_
  obtain ⟨q,es,ep,hq,h2,h3,h4,_,h5⟩:=dd'
  refine OL I (by rw [e];exact True.intro) hs ⟨q,hq⟩ ⟨hl,hd,_,(rel.put k eb rv).keeps fun c ys ec=>?_,q,es,ep,hq,h2,h3,h4,h5⟩
  rw [Aq (WD ec e (fun z=>nomatch z))]
  exact ec
end
section
variable {X:Cx} {pins:List (Addr×Obj)} {σ:St} {H:Hp} {s:Shared} {a:Addr} {kvs:List (Key×V)} {k:Key} {u:Value} {A:Around} {E:Value->Shared->Prop}
theorem WZ {Q:Value->Shared->Prop} (I:Inv X pins σ H s) (e:Rd H a (.dK kvs)) (h:∀ t s',Inv X pins σ H s'->Q (.int kvs.length t) s'):wpAny (model X.prog X.w) A (call (.builtin "len") [.ref a]) Q E s:=by
 obtain ⟨z,hd,vs,rel,dd⟩:=Kz I.hok e
 refine call_len_dict hd dd (by rw [<- rel.length];rw [sizeLine_eq] at z;omega) ?_
 rw [<- rel.length]
 exact h _ _ (I.tok _)
end
theorem KC {X:Cx} {pins:List (Addr×Obj)} {σ:St} {H:Hp} {s:Shared} {a:Addr} {y:V} {o:Option V} (I:Inv X pins σ H s) (g:MJ H a y o):s.TypeIs (.ref a) "dict":=by
 rcases g with ⟨kvs,k,e,_,_⟩ | ⟨kvs,k,b,e,_,_,_⟩
 ·obtain ⟨_,_,vs,_,dd⟩:=Kz I.hok e
  exact dd.typeIs
 ·obtain ⟨_,_,xs,_,dd⟩:=OF I.hok e
  exact dd.typeIs
def Uy (td ty tv:TE):TS:=fun D σ H=>tv σ H fun v H1=>td σ H1 fun x H2=>ty σ H2 fun y H3=>∃ a H4,x=.ref a/\Ph H3 a y v H4/\D.nx σ H4
section
variable {X:Cx} {o i e value:Expr} {pos pos' tpos:Pos} {td ty tv:TE}
theorem J9 (hu:X.A.units+1 < cLine) (ho:PE X o td) (hi:PE X i ty) (hv:PE X value tv) (hs:swapsWith value (some (.Subscript o i pos')) pos.line X.env=pure false) :
  PS X (.Assign [.Subscript o i pos'] value pos) (Uy td ty tv):=by
 intro pins s σ H D I h
 refine wpAny_Assign_Subscript (thn (hv pins s σ H _ I h) fun r s1 ⟨v,H1,I1,rv,q1⟩=>thn (ho pins s1 σ H1 _ I1 q1) fun u s2 ⟨x,H2,I2,rx,q2⟩=>thn (hi pins s2 σ H2 _ I2 q2) fun iv s3 ⟨y,H3,I3,ry,a,H4,ex,g,q3⟩=>?_) hs
 subst ex
 obtain rfl:u=Value.ref a:=rx
 exact JD hu I3 g ry rv fun s4 I4=>⟨σ,H4,I4,q3⟩
end
theorem QK {P:Program} {w:World} {H:Hp} (h:Heap) (hb:sysModules < h.objs.size):Cg P w H (h.push { cls:=.type "dict",data:=.dict #[] }) h.objs.size (.dK []) :=
 ⟨Nat.zero_le _,beq_eq_false_iff_ne.mpr (Ne.symm (Nat.ne_of_lt hb)),[],.nil,Heap.DictOf.new h⟩
def Uq:TE:=fun _ H Q=>∀ p,H p=none->Q (.ref p) (upd H p (.dK []))
section
variable {X:Cx} {pos:Pos}
theorem P5:PE X (.Dict [] [] pos) Uq:=fun pins s σ H Q I h =>
 wpAny_Dict_empty ⟨.ref s.heap.objs.size,_,I.laid (a:=s.heap.objs.size) (o:=.dK []) (t':=s.toks) (fun _ _ q=>Heap.get?_push_of_some _ q) (Nat.le_refl _) (QK s.heap I.big),rfl,h _ (I.hok.fresh (Nat.le_refl _))⟩
end
section
variable {X:Cx} {pins:List (Addr×Obj)} {σ:St} {H:Hp} {s:Shared} {a:Addr} {y d:V} {u r:Value} {o:Option V} {A:Around} {E:Value->Shared->Prop}
end
section
variable {X:Cx} {o e f:Expr} {apos cpos:Pos} {td ty tx:TE}
end
section
variable {X:Cx} {pins:List (Addr×Obj)} {σ:St} {H:Hp} {s:Shared} {a:Addr} {kvs:List (Key×V)} {A:Around} {E:Value->Shared->Prop}
end
section
variable {X:Cx} {pins:List (Addr×Obj)} {σ:St} {H:Hp} {s:Shared} {a:Addr} {y:V} {u:Value} {A:Around} {E:Value->Shared->Prop}
end
end L2
namespace Att
open PySem PySem.W PySem.Calls PyProof.Rows
theorem GH {P:Params} {h:Heap}:∀ (ns:List Int) (vs:List Value),WellAll P h vs (ns.map WData.int)->IntsAre vs ns:=by
 intro ns
 induction ns with
 | nil =>
  intro vs w
  rw [List.map_nil] at w
  cases w
  exact .nil
 | cons n ns ih =>
  intro vs w
  rw [List.map_cons] at w
  cases w with
  | cons a b =>
   cases a
   exact .cons _ _ (ih _ b)
theorem MV {l:OpenLaw} {n:Nat} (hn:l.most=some n) {P:Params} {h:Heap} {args:List WData} {vals:List Value}
  (hpre:l.row.toRowW.claim.pre args=true) (hwl:WellAll P h vals args) :
  ∃ a vs ns,vals=[Value.ref a]/\args=[WData.list (ns.map WData.int)]/\h.get? a=some { cls:=.type "list",data:=.seq vs.toArray }/\IntsAre vs ns/\ns.length<=n:=by
 have hsh:WShape.hasAll [] args [.list .int]=true:=(pre_splitW hpre).1
 have hc:l.pre.holds [] { args:=args }=true:=(pre_splitW hpre).2
 obtain ⟨d,r,rfl,h1,h2⟩:=hasAllW_cons hsh
 obtain rfl:=hasAllW_nil h2
 obtain ⟨xs,rfl,h3⟩:=hasW_list h1
 obtain ⟨ns,rfl⟩:=items_int h3
 have hlen:ns.length<=n:=by
  unfold OpenLaw.pre at hc
  have h4:(WTm.not (.lt (.lit (.int (n:Int))) (.len (.arg 0)))).holds [] { args:=[.list (ns.map .int)] }=true:=by
   have h4:=(holds_andW hc).1
   rw [hn] at h4
   exact h4
  have h5:=condW_of h4 (w_not (w_lt w_lit (w_len_list (w_arg rfl))))
  rw [List.length_map] at h5
  refine Nat.le_of_not_lt fun q=>?_
  have q':(n:Int) < ((ns.length:Nat):Int):=by omega
  first
   | (rw [decide_eq_true q'] at h5;exact absurd h5 (by decide))
   | (simp at h5;omega)
 cases hwl with
 | cons w1 w2 =>
  cases w2
  cases w1 with
  | list ho hall=>exact ⟨_,_,ns,rfl,rfl,ho,GH ns _ hall,hlen⟩
theorem Na (l:OpenLaw) (args:List WData):l.row.toRowW.claim.post args (.bool true) args=true :=
 postW_of (r:=l.row.toRowW) (X:=(true == true))
  (show WShape.has [] (.bool true) .bool=true by first | rfl | decide | simp [WShape.has,WShape.arms,WShape.armsAll])
  (show (WTm.eq .res (.lit (.bool true))).value [] { args:=args,res:=some (.bool true),after:=args }=some (.bool (true == true)) from w_eq_bool (w_res rfl) w_lit) rfl
section
variable {prog:Program} {w:World} {A:Around} {E:Value->Shared->Prop} {s:Shared} {K:Frag}
end
end Att
namespace L2
open PySem PySem.Spec PyProof.Rows
theorem IU:∀ {vs:List Value} {ns:List Int},IntsAre vs ns->Vals (ns.map V.int) vs
 | _,_,.nil=>.nil
 | _,_,.cons n t h=>.cons ⟨t,rfl⟩ (IU h)
def V1 (H:Hp):Prop:=∀ b,H b=none∨∃ o xs,H b=some (.frz o (.lst xs))
theorem Qm {P:Program} {w:World} {K:Fg} {mg mb:Str->Option Value} {CX:CXT} {k:Nat} {fa a:Addr} {fd:FuncData} {x:Str} {sp:Sp} {s₁:Shared} {vs:List Value} {ns:List Int}
  (KX:K.In s₁.heap) (hns:s₁.heap.Ns mainGlobals mg) (hb:s₁.heap.Ns builtinsNs mb) (hbb:∀ x:Str,x≠"__name__"->mb x=bootBuiltins x) (hlim:s₁.heap.NoLimit) (hg:s₁.gens=#[])
  (ha:s₁.heap.get? a=some { cls:=.type "list",data:=.seq vs.toArray }) (hi:IntsAre vs ns) (hl:ns.length<=sizeLine) (hr:Eh k callerA)
  (F:∀ base:Heap,K.In base->base.Ns mainGlobals mg->DL P w K mg base CX k fa fd [x] sp) (hbind:∀ (s:Shared) (u:Value),BindsTo s fd ⟨[u],[]⟩ [(x,u)])
  (hsp:∀ H:Hp,V1 H->SqL K H a (ns.map V.int)->sp [.ref a] H (fun v _=>v=.bl true) fun _ _ _=>False)
  (hCX:∀ H e s',CX [] H s₁ (fun _ _ _=>False) e s'->False) :
  codeAny (model P w) callerA (.call (.ref fa) ⟨[.ref a],[]⟩) (fun r s'=>r=.ok (.ret (.bool true))/\OldK s₁.heap s'.heap/\s'.os=s₁.os/\AllBare s'.gens) s₁:=by
 have rv:=IU hi
 have lenV:=hi.length
 have core:∀ H:Hp,V1 H->SqL K H a (ns.map V.int)->HOk P w H s₁.heap->(∀ b,H b≠none->b=a)->(H a≠none->K.lookup a=none) ->
   codeAny (model P w) callerA (.call (.ref fa) ⟨[.ref a],[]⟩) (fun r s'=>r=.ok (.ret (.bool true))/\OldK s₁.heap s'.heap/\s'.os=s₁.os/\AllBare s'.gens) s₁:=by
  intro H hO hS hok hA hK
  have base_of:∀ {b:Addr} {o:Obj},s₁.heap.get? b=some o->H b=none->(Qt s₁.heap H).get? b=some o:=fun e n=>Qr e n
  have noA:∀ {b:Addr} {o:Obj} {es:Array DictEntry} {ep:Nat},s₁.heap.get? b=some o->o.data=.dict es ep->H b=none:=fun {b o es ep} e d=>by
   cases q:H b with
   | none=>rfl
   | some u =>
    have e':b=a:=hA b (by rw [q];simp)
    subst e'
    rw [ha] at e;cases e
    have d':Data.seq vs.toArray _=Data.dict es ep:=d
    cases d'
  have nsK:∀ {b:Addr} {m:Str->Option Value},s₁.heap.Ns b m->(Qt s₁.heap H).Ns b m:=fun {b m} ⟨o,es,ep,e,d,r⟩=>⟨o,es,ep,base_of e (noA e d),d,r⟩
  have hKb:K.In (Qt s₁.heap H):=fun b o e=>base_of (KX b o e) (by
   cases q:H b with
   | none=>rfl
   | some u =>
    have e':b=a:=hA b (by rw [q];simp)
    subst e'
    rw [hK (by rw [q];simp)] at e;cases e)
  have hM:Mod K mg (Qt s₁.heap H):=⟨hKb,nsK hns,⟨mb,nsK hb,hbb⟩,let ⟨mc,h1,h2⟩:=hlim;⟨mc,nsK h1,h2⟩⟩
  have e0:T6 P w K mg (Qt s₁.heap H) callerA [] s₁ H:=⟨rfl,hM,fun b o e=>SG e,Nat.le_of_eq (N9 _ _),trivial,fun b hb=>absurd (show b∈([]:List Addr) from hb) (by simp),hok,.of_eq hg⟩
  refine codeAny_mono ((F _ hKb (nsK hns)).run callerA [] s₁ H ⟨[.ref a],[]⟩ [.ref a] [.ref a] _ _ hr e0 (hbind s₁ (.ref a)) (.cons rfl .nil) (hsp H hO hS)) fun r s' h=>?_
  cases r with
  | error e=>exact (hCX H e s' h).elim
  | ok fl =>
   cases fl with
   | next=>exact False.elim h
   | brk=>exact False.elim h
   | cont=>exact False.elim h
   | ret u =>
    obtain ⟨v,H',os,bare,un,hok',r',q⟩:=h
    have q':v=.bl true:=q
    subst q'
    obtain rfl:u=Value.bool true:=r'
    refine ⟨rfl,OldK.of_keep fun b o e=>?_,os,bare⟩
    cases q:H b with
    | none=>exact un.keep b o e q (by intro z;exact absurd (show b∈([]:List Addr) from z) (by simp)) (by simp)
    | some u =>
     rcases hO b with z | ⟨ob,xs,z⟩
     ·rw [q] at z;cases z
     ·have z2:=un.frzs b ob _ z
      obtain ⟨e1,_⟩:=hok b _ z
      obtain ⟨e2,_⟩:=hok' b _ z2
      rw [e] at e1;cases e1
      exact e2
 cases hk:K.lookup a with
 | some o =>
  have e:=KX a o hk
  rw [ha] at e
  cases e
  refine core (fun _=>none) (fun _=>.inl rfl) (.inr ⟨_,vs.toArray,_,hk,rfl,rfl,rfl,by rw [List.size_toArray,lenV];exact hl,by simpa using rv⟩) (fun b u z=>by have z':(none:Option HO)=some u:=z;cases z') (fun b z=>absurd rfl z) fun z=>absurd rfl z
 | none =>
  refine core (fun b=>if b=a then some (.frz { cls:=.type "list",data:=.seq vs.toArray } (.lst (ns.map V.int))) else none) (fun b=>?_) (.inl (.inr ⟨{ cls:=.type "list",data:=.seq vs.toArray },if_pos rfl⟩)) (fun b u z=>?_) (fun b z=>?_) fun _=>hk
  ·by_cases hb:b=a
   ·exact .inr ⟨_,_,if_pos hb⟩
   ·exact .inl (if_neg hb)
  ·by_cases hb:b=a
   ·have z':=(if_pos hb).symm.trans z
    cases z'
    subst hb
    exact ⟨ha,by rw [List.length_map];exact hl,vs,_,rv,ha⟩
   ·have z':=(if_neg hb).symm.trans z
    cases z'
  ·by_cases hb:b=a
   ·exact hb
   ·exact absurd (if_neg hb) z
def inClass (s:Stmt) (j:Nat):Stmt:=match s with
 | .ClassDef _ _ _ body _ _ _ _ _ _ _=>body.getD j (.Pass ⟨0,0,0,0⟩)
 | _=>.Pass ⟨0,0,0,0⟩
def A8 (s:Stmt):Arguments:=match s with
 | .FunctionDef _ a _ _ _ _ _ _ _ _=>a
 | _=>{ posonlyargs:=[],args:=[],vararg:=none,kwonlyargs:=[],kw_defaults:=[],kwarg:=none,defaults:=[] }
def A0 (s:Stmt):List Stmt:=match s with
 | .FunctionDef _ _ b _ _ _ _ _ _ _=>b
 | _=>[]
def Ao (s:Stmt):Scope:=match s with
 | .FunctionDef _ _ _ _ _ _ sc _ _ _=>sc
 | _=>{ kind:=.function,names:=[],isGenerator:=false,isCoroutine:=false }
abbrev E0:XK:=fun _ _ _=>False
structure Fun (K:Fg) (x qual:Str) (st:Stmt) (f:Addr) (fd:FuncData):Prop where
 ex:∃ (oc:Value) (od:Option Addr) (kV doc pm:Value) (an:Option Addr) (cdv ct:Value) (osl:Array (Option Value)),
  fd=PySem.W.fnOf x qual (A8 st) (A0 st) (Ao st) .none kV doc pm an cdv ct/\K.lookup f=some ⟨oc,od,.func fd,osl⟩/\PySem.W.codeIn K cdv qual=true
 kp:PySem.W.keepIn K (.ref f)=true
section
variable {P:Program} {w:World} {K:Fg} {mg:Str->Option Value} {base:Heap}
theorem Fun.binds {x qual:Str} {st:Stmt} {f:Addr} {fd:FuncData} {ps:List Str} (F:Fun K x qual st f fd)
  (h:∀ (kV doc pm:Value) (an:Option Addr) (cdv ct:Value) (us:List Value),us.length=ps.length->bindArgs (PySem.W.fnOf x qual (A8 st) (A0 st) (Ao st) .none kV doc pm an cdv ct) ⟨us,[]⟩=pure (ps.zip us)):Binds K fd ps []:=by
 obtain ⟨oc,od,kV,doc,pm,an,cdv,ct,osl,rfl,lk,hcd⟩:=F.ex
 exact .all (h kV doc pm an cdv ct)
theorem Ca {x qual:Str} {st:Stmt} {f:Addr} {oc:Value} {od an:Option Addr} {osl:Array (Option Value)} {kV doc pm cdv ct:Value} (l:K.lookup f=some ⟨oc,od,.func (PySem.W.fnOf x qual (A8 st) (A0 st) (Ao st) .none kV doc pm an cdv ct),osl⟩)
  (c:PySem.W.codeIn K cdv qual=true) (k:PySem.W.keepIn K (.ref f)=true):Fun K x qual st f (PySem.W.fnOf x qual (A8 st) (A0 st) (Ao st) .none kV doc pm an cdv ct):=⟨⟨oc,od,kV,doc,pm,an,cdv,ct,osl,rfl,l,c⟩,k⟩
end
theorem Dz {A:Around} {k:Nat} (hr:Eh k A):A.units+1 < cLine:=Nat.lt_of_le_of_lt (Nat.add_le_add_left (by decide:1<=64) _) hr.units
section
variable {X:Cx}
theorem pv (i:Nat) {x:Str} {pos:Pos} (hN:X.N[i]?=some x:=by rfl) (hv:Vis X.env.scope x:=by first | exact Or.inl rfl | exact Or.inr (Or.inl rfl) | exact Or.inr (Or.inr rfl)) (hd:(x == ("__debug__":Str))=false:=by decide)
  (hcd:(x == ("__classdict__":Str))=false:=by decide):PE X (.Name x pos) (Uk i):=UK hN hv hd hcd
end
section
variable {κ:Type} [DecidableEq κ]
end
theorem EM {env:Env}:∀ (l:List (Str×NameKind)) (cs:List (Str×Addr)),(∀ y∈l,y.2=.free->∃ c,env.cells.lookup y.1=some c)->(∀ n c,cs.lookup n=some c->env.cells.lookup n=some c) ->
  ∃ cl,(forIn l cs fun (x:Str×NameKind) (r:List (Str×Addr))=>match x with | (name,kind)=>if (kind == NameKind.free)=true then do let c <- cellOf env name;pure (ForInStep.yield ((name,c) :: r)) else pure (ForInStep.yield r))=(pure cl:Sem _) /\
   (∀ n c,cl.lookup n=some c->env.cells.lookup n=some c)/\(∀ y∈l,y.2=.free->∃ c,cl.lookup y.1=some c)/\(∀ n c,cs.lookup n=some c->∃ c',cl.lookup n=some c')
 | [],cs,_,h2=>⟨cs,rfl,h2,(fun _ h=>nomatch h),fun n c h=>⟨c,h⟩⟩
 | (n,k) :: r,cs,h1,h2=>by
  by_cases e:k=.free
  ·subst e
   obtain ⟨c,hc⟩:=h1 (n,.free) List.mem_cons_self rfl
   have e1:cellOf env n=(pure c:Sem _):=by unfold cellOf;rw [hc]
   have h3:∀ n' c',((n,c) :: cs).lookup n'=some c'->env.cells.lookup n'=some c':=fun n' c' q=>by
    rw [List.lookup_cons] at q
    cases hb:n' == n with
    | true=>rw [hb] at q;cases q;rw [beq_iff_eq.mp hb];exact hc
    | false=>rw [hb] at q;exact h2 _ _ q
   obtain ⟨cl,q1,q2,q3,q4⟩:=EM r ((n,c) :: cs) (fun y hy=>h1 y (List.mem_cons_of_mem _ hy)) h3
   have hself:∃ c',cl.lookup n=some c':=q4 n c (by simp)
   refine ⟨cl,?_,q2,fun y hy hf=>?_,fun n' c' q=>?_⟩
   ·rw [List.forIn_cons]
    simp only [beq_self_eq_true,if_true,e1,pure_bind]
    exact q1
   ·rcases List.mem_cons.mp hy with rfl | hy
    ·exact hself
    ·exact q3 y hy hf
   ·by_cases hb:n'=n
    ·subst hb;exact hself
    ·exact q4 n' c' (by rw [List.lookup_cons,beq_eq_false_iff_ne.mpr hb];exact q)
  ·obtain ⟨cl,q1,q2,q3,q4⟩:=EM r cs (fun y hy=>h1 y (List.mem_cons_of_mem _ hy)) h2
   refine ⟨cl,?_,q2,fun y hy hf=>?_,q4⟩
   ·rw [List.forIn_cons]
    have hb:(k == NameKind.free)=false:=by simpa using e
    simp only [hb,Bool.false_eq_true,if_false,pure_bind]
    exact q1
   ·rcases List.mem_cons.mp hy with rfl | hy
    ·exact absurd hf e
    ·exact q3 y hy hf
theorem E6 {sc:Scope} {env:Env} (h:∀ y∈sc.names,y.2=.free->∃ c,env.cells.lookup y.1=some c) :
  ∃ cl,closureFor sc env=pure cl/\(∀ n c,cl.lookup n=some c->env.cells.lookup n=some c)/\(∀ y∈sc.names,y.2=.free->∃ c,cl.lookup y.1=some c):=by
 obtain ⟨cl,q1,q2,q3,_⟩:=EM (env:=env) sc.names [] h (fun n c q=>by simp at q)
 refine ⟨cl,?_,q2,q3⟩
 unfold closureFor
 simp only [bind_pure]
 refine Eq.trans ?_ q1
 congr 1
section
variable {prog:Program} {w:World} {A:Around} {R:Result->Shared->Prop} {s:Shared}
theorem JF {elt target iter:Expr} {ifs:List Expr} {scope:Scope} {pos:Pos} {it acc:Value} {env:Env} (I:Nat->Shared->Prop)
  (turn:∀ n s,I n s->wpAny (model prog w) A (pyNext it) (fun r s₁=>match r with
   | none=>R (.ok .next) s₁
   | some v=>wpAny (model prog w) A (letOwnedTupleGo target it v) (fun _ s₁=>wpAny (model prog w) A (assign target env v) (fun _ s₂ =>
     wpAny (model prog w) A (forIn ifs true fun c r=>if r=true then do let ok <- isTrue c env (eval c env);pure (ForInStep.yield ok) else pure (ForInStep.yield r)) (fun ok s₃ =>
      if ok=true then wpAny (model prog w) A (eval elt env) (fun x s₄ =>
       wpAny (model prog w) A (call (.builtin "list.append") [acc,x]) (fun _ s₅=>∃ m,m < n/\I m s₅) (fun _ _=>False) s₄) (fun _ _=>False) s₃
      else ∃ m,m < n/\I m s₃) (fun _ _=>False) s₂) (fun _ _=>False) s₁) (fun _ _=>False) s₁) (fun _ _=>False) s)
  (n:Nat) (h:I n s) :
  codeAny (model prog w) A (.compLoop (.ListComp elt [⟨target,iter,ifs,0⟩] scope pos) 0 it acc env) R s:=by
 refine codeAny_loop rfl I (fun n s hI=>?_) n h
 show wpAny _ A ((compTurn (.ListComp elt [⟨target,iter,ifs,0⟩] scope pos) 0 it acc env).onRaise (fun x=>do noteFrame x env;theTreesLotGoes x)) _ _ s
 refine wpAny_noted ?_
 rw [compTurn_list]
 refine wpAny_bind (wpAny_standAt (wpAny_bind (wpAny_mono (turn n s hI) (fun r s₁ h₁=>?_) fun _ _ h'=>h'.elim)))
 cases r with
 | none=>exact wpAny_pure h₁
 | some v =>
  refine wpAny_bind (wpAny_mono h₁ (fun _ s₁' h₁'=>?_) fun _ _ h'=>h'.elim)
  refine wpAny_bind (wpAny_mono h₁' (fun _ s₂ h₂=>wpAny_bind (wpAny_mono h₂ (fun ok s₃ h₃=>?_) fun _ _ h'=>h'.elim)) fun _ _ h'=>h'.elim)
  cases ok with
  | false=>exact wpAny_pure ⟨rfl,h₃⟩
  | true =>
   exact wpAny_bind (wpAny_bind (wpAny_mono h₃ (fun x s₄ h₄=>wpAny_bind (wpAny_mono h₄ (fun _ s₅ h₅=>wpAny_pure (wpAny_pure ⟨rfl,h₅⟩)) fun _ _ h'=>h'.elim)) fun _ _ h'=>h'.elim))
end
structure LS (fn sc:Scope):Prop where
 kind:sc.kind=.function
 nocell:∀ y∈sc.names,y.2≠.cell
 loc:∀ y∈sc.names,y.2=.local->sc.names.lookup y.1=some .local
 fr:∀ y∈sc.names,y.2=.free->fn.names.lookup y.1=some .cell∨fn.names.lookup y.1=some .free
def GX (fn sc:Scope):Bool :=
 decide (sc.kind=.function) && sc.names.all fun y=>decide (y.2≠.cell) && (decide (y.2≠.local) || decide (sc.names.lookup y.1=some .local)) &&
  (decide (y.2≠.free) || decide (fn.names.lookup y.1=some .cell) || decide (fn.names.lookup y.1=some .free))
theorem JE {fn sc:Scope} (h:GX fn sc=true):LS fn sc:=by
 unfold GX at h
 rw [Bool.and_eq_true,List.all_eq_true] at h
 obtain ⟨h1,h2⟩:=h
 refine ⟨of_decide_eq_true h1,fun y hy=>?_,fun y hy e=>?_,fun y hy e=>?_⟩
 all_goals
  have q:=h2 y hy
  rw [Bool.and_eq_true,Bool.and_eq_true] at q
  obtain ⟨⟨q1,q2⟩,q3⟩:=q
 ·exact of_decide_eq_true q1
 ·rw [Bool.or_eq_true] at q2
  rcases q2 with q | q
  ·exact absurd e (of_decide_eq_true q)
  ·exact of_decide_eq_true q
 ·rw [Bool.or_eq_true,Bool.or_eq_true] at q3
  rcases q3 with (q | q) | q
  ·exact absurd e (of_decide_eq_true q)
  ·exact .inl (of_decide_eq_true q)
  ·exact .inr (of_decide_eq_true q)
theorem Dw {env:Env} {x:Str} {k':NameKind}:∀ {names:List (Str×NameKind)},
  (names.map fun (n,k)=>if (k == NameKind.free && env.scope.kind == .function && env.kindOf n == some .cell) then (n,NameKind.cell) else (n,k)).lookup x=some k'->∃ k,names.lookup x=some k/\(k'=k∨(k=.free/\k'=.cell))
 | [],h=>by simp at h
 | (n,k) :: r,h=>by
  have h:List.lookup x ((if (k == NameKind.free && env.scope.kind == .function && env.kindOf n == some .cell)=true then (n,NameKind.cell) else (n,k)) :: _)=some k':=h
  cases hx:x == n with
  | true =>
   refine ⟨k,by simp [List.lookup_cons,hx],?_⟩
   by_cases hc:(k == NameKind.free && env.scope.kind == .function && env.kindOf n == some .cell)=true
   ·rw [if_pos hc] at h
    simp only [List.lookup_cons,hx] at h
    cases h
    rw [Bool.and_eq_true,Bool.and_eq_true] at hc
    exact .inr ⟨beq_iff_eq.mp hc.1.1,rfl⟩
   ·rw [if_neg hc] at h
    simp only [List.lookup_cons,hx] at h
    cases h
    exact .inl rfl
  | false =>
   have h':List.lookup x (r.map fun (n,k)=>if (k == NameKind.free && env.scope.kind == .function && env.kindOf n == some .cell) then (n,NameKind.cell) else (n,k))=some k':=by
    by_cases hc:(k == NameKind.free && env.scope.kind == .function && env.kindOf n == some .cell)=true
    ·rw [if_pos hc] at h
     simpa only [List.lookup_cons,hx] using h
    ·rw [if_neg hc] at h
     simpa only [List.lookup_cons,hx] using h
   obtain ⟨k0,e1,e2⟩:=Dw h'
   exact ⟨k0,by simp only [List.lookup_cons,hx];exact e1,e2⟩
def Cr (X:Cx) (N:List Str) (sc:Scope) (cl:List (Str×Addr)) (C:Addr) (s:Shared) (H:Hp) (ex:List Addr):Cx :=
 { X with N:=N,s₀:=s,H₀:=H,env:=compEnvC sc cl C X.env,outer:=X.stack,stack:=X.stack,ex:=ex,fn:=fun _=>false,xe:=fun _ _=>False }
def E7 (XN:List Str) (sc:Scope):List Str->List (Option Nat)->Bool
 | [],[]=>true
 | n :: r,none :: q=>E7 XN sc r q
 | n :: r,some i :: q=>decide (XN[i]?=some n) && decide (sc.names.lookup n=some .free) && E7 XN sc r q
 | _,_=>false
def EN (σ:St) (src:List (Option Nat)):St:=src.map fun o=>o.bind fun i=>(σ[i]?).join
theorem GY {XN:List Str} {sc:Scope}:∀ {N:List Str} {src:List (Option Nat)},E7 XN sc N src=true->src.length=N.length
 | [],[],_=>rfl
 | _ :: r,none :: q,h=>by rw [List.length_cons,List.length_cons,GY (N:=r) (src:=q) h]
 | _ :: r,some i :: q,h=>by
  unfold E7 at h
  rw [Bool.and_eq_true] at h
  rw [List.length_cons,List.length_cons,GY (N:=r) (src:=q) h.2]
 | [],_ :: _,h=>by cases h
 | _ :: _,[],h=>by cases h
theorem JI {XN:List Str} {sc:Scope}:∀ {N:List Str} {src:List (Option Nat)} {j i:Nat} {n:Str},E7 XN sc N src=true->N[j]?=some n->src[j]?=some (some i)->XN[i]?=some n/\sc.names.lookup n=some .free
 | [],_,j,i,n,_,h1,_=>by simp at h1
 | _ :: _,[],j,i,n,_,_,h2=>by simp at h2
 | n0 :: r,o :: q,0,i,n,h,h1,h2=>by
  simp at h1 h2
  subst h1
  subst h2
  unfold E7 at h
  rw [Bool.and_eq_true,Bool.and_eq_true] at h
  exact ⟨of_decide_eq_true h.1.1,of_decide_eq_true h.1.2⟩
 | n0 :: r,o :: q,j+1,i,n,h,h1,h2=>by
  refine JI (N:=r) (src:=q) (j:=j) ?_ (by simpa using h1) (by simpa using h2)
  cases o with
  | none=>exact h
  | some k =>
   unfold E7 at h
   rw [Bool.and_eq_true] at h
   exact h.2
section
variable {X:Cx} {pins:List (Addr×Obj)} {σ:St} {H:Hp} {s:Shared} {fp:List Addr} {N:List Str} {sc:Scope} {cl:List (Str×Addr)} {C:Addr} {src:List (Option Nat)}
theorem VL (I:Inv X pins σ H s) (hf:∀ b∈fp,LR X pins H b) (hfs:∀ b∈fp,b < s.heap.objs.size) (hS:LS X.env.scope sc) (hC:s.heap.objs.size<=C)
  (hc1:∀ n c,cl.lookup n=some c->X.env.cells.lookup n=some c) (hc2:∀ y∈sc.names,y.2=.free->∃ c,cl.lookup y.1=some c):(Cr X N sc cl C s H fp).Ok where
 mod:=I.ok.mod
 kind:=hS.kind
 glob:=I.ok.glob
 blt:=I.ok.blt
 above:=hC
 inj:=fun x y c h1 h2=>I.ok.inj x y c (hc1 _ _ h1) (hc1 _ _ h2)
 has:=fun x hx=>by
  have free:∀ k',(k'=NameKind.cell∨k'=NameKind.free)->(relabel sc X.env).names.lookup x=some k'->∃ c,cl.lookup x=some c:=fun k' hk e=>by
   obtain ⟨k,e1,e2⟩:=Dw (env:=X.env) e
   have hm:=PySem.mem_of_lookup e1
   have hk2:k=.free:=by
    rcases e2 with e2 | ⟨e2,_⟩
    ·subst e2
     rcases hk with hk | hk
     ·exact absurd hk (hS.nocell _ hm)
     ·exact hk
    ·exact e2
   exact hc2 _ hm hk2
  rcases hx with hx | hx
  ·exact free _ (.inl rfl) hx
  ·exact free _ (.inr rfl) hx
 cab:=fun x c h _=>absurd (show false=true from h) Bool.false_ne_true
 hd:=I.ok.hd
 frames:=I.ok.frames
 stk:=.inl rfl
 exf:=fun b hb=>⟨Nat.ne_of_lt (Nat.lt_of_lt_of_le (hfs b hb) hC),fun x c e=>(hf b hb).2.2.2.2.1 x c (hc1 x c e)⟩
 bs:=I.bs
 bsz:=Nat.le_trans I.ok.bsz I.sz
 noex:=fun b o e hb=>by
  rcases (hf b hb).2.2.2.1 with z | z
  ·exact I.ok.noex b o e z
  ·exact absurd (Nat.lt_of_lt_of_le (Heap.lt_size e) (Nat.le_trans I.ok.bsz z)) (Nat.lt_irrefl _)
 exfs:=fun b hb hz=>by
  rcases List.mem_cons.mp (I.Ja b hz) with z | z
  ·exact (hf b hb).2.1 z
  ·exact (hf b hb).2.2.1 z
 Lq:=I.stack
 frf:=I.J5
theorem TX {D:Addr} {h':Heap} {tk:Nat} {m:Str->Option Value} (I:Inv X pins σ H s) (hf:∀ b∈fp,LR X pins H b) (hfs:∀ b∈fp,b < s.heap.objs.size) (hS:LS X.env.scope sc)
  (hc1:∀ n c,cl.lookup n=some c->X.env.cells.lookup n=some c) (hc2:∀ y∈sc.names,y.2=.free->∃ c,cl.lookup y.1=some c) (hcap:E7 X.N sc N src=true)
  (hD:s.heap.objs.size<=D) (hC:s.heap.objs.size<=C) (hDC:D≠C) (hk:∀ b o,s.heap.get? b=some o->h'.get? b=some o) (hn:h'.Ns C m) (hl:h'.get? D=some { cls:=.type "list",data:=.seq (#[]:Array Value) }) :
  Inv (Cr X N sc cl C s H fp) pins (EN σ src) (upd H D (.lst [])) { s with heap:=h',toks:=tk }:=by
 have fD:H D=none:=I.hok.fresh hD
 have fC:H C=none:=I.hok.fresh hC
 have old:∀ {b:Addr} {o:Obj},s.heap.get? b=some o->b≠D/\b≠C:=fun {b o} e=>⟨Nat.ne_of_lt (Nat.lt_of_lt_of_le (Heap.lt_size e) hD),Nat.ne_of_lt (Nat.lt_of_lt_of_le (Heap.lt_size e) hC)⟩
 refine ⟨VL I hf hfs hS hC hc1 hc2,rfl,I.bare,Un.laid hk hD fD,⟨m,hn,fun j x v e1 e2 e3=>?_⟩,fun x c e=>?_,?_,fun x c e=>?_,fun p hp=>?_,I.hok.laid hk hD ⟨Nat.zero_le _,[],0,.nil,hl⟩,?_⟩
 ·unfold EN at e2
  rw [List.getElem?_map] at e2
  cases q:src[j]? with
  | none=>rw [q] at e2;cases e2
  | some o =>
   rw [q] at e2
   cases o with
   | none=>cases e2
   | some i =>
    have e2':(σ[i]?).join=some v:=Option.some.inj e2
    have e4:σ[i]?=some (some v):=by
     cases r:σ[i]? with
     | none=>rw [r] at e2';cases e2'
     | some u=>rw [r] at e2';cases u with
      | none=>cases e2'
      | some u=>have e5:some u=some v:=e2';cases e5;rfl
    obtain ⟨g1,g2⟩:=JI hcap e1 q
    obtain ⟨m0,_,hl0⟩:=I.loc
    have hfr:=hS.fr _ (PySem.mem_of_lookup g2) rfl
    obtain ⟨u,ru,lk⟩:=hl0 i x v g1 e4 (hfr.elim (fun z=>.inr (.inl z)) fun z=>.inr (.inr z))
    refine ⟨u,ru,.inr ⟨?_,?_⟩⟩
    ·rcases e3 with e3 | e3 | e3
     ·obtain ⟨k,r1,r2⟩:=Dw (env:=X.env) (show (relabel sc X.env).names.lookup x=some .local from e3)
      rw [g2] at r1
      cases r1
      rcases r2 with r2 | ⟨_,r2⟩ <;> cases r2
     ·exact .inl e3
     ·exact .inr e3
    ·obtain ⟨c,hc⟩:=hc2 _ (PySem.mem_of_lookup g2) rfl
     refine ⟨c,hc,?_⟩
     rcases lk with ⟨lk,_⟩ | ⟨_,c',hc',z⟩
     ·rcases hfr with z | z
      ·have z':X.env.kindOf x=some .cell:=z
       rw [lk] at z';cases z'
      ·have z':X.env.kindOf x=some .free:=z
       rw [lk] at z';cases z'
     ·have:=hc1 _ _ hc
      rw [hc'] at this
      cases this
      obtain ⟨o,ho,hd⟩:=z
      exact ⟨o,hk _ _ ho,hd⟩
 ·obtain ⟨v,o,ho,hd⟩:=I.cell x c (hc1 x c e)
  exact ⟨v,o,hk _ _ ho,hd⟩
 ·show upd H D (.lst []) C=none
  rw [Aq (Ne.symm hDC)]
  exact fC
 ·obtain ⟨v,o,ho,hd⟩:=I.cell x c (hc1 x c e)
  rw [Aq (old ho).1]
  exact I.freeC x c (hc1 x c e)
 ·obtain ⟨p1,p2,p3,p4,p5⟩:=I.pin p hp
  refine ⟨hk _ _ p1,by rw [Aq (old p1).1];exact p2,(old p1).2,fun z=>?_,p5⟩
  rcases List.mem_cons.mp (I.Ja _ z) with z | z
  ·exact p3 z
  ·exact p4 z
 ·show (EN σ src).length=N.length
  unfold EN
  rw [List.length_map]
  exact GY hcap
end
def R3 (X:Cx) (ifs:List Expr) (t:TT):Prop :=
 ∀ (pins:List (Addr×Obj)) (s:Shared) (σ:St) (H:Hp) (Q:Bool->Hp->Prop),Inv X pins σ H s->t σ H Q ->
  wpAny (model X.prog X.w) X.A (forIn ifs true fun c r=>if r=true then do let ok <- isTrue c X.env (eval c X.env);pure (ForInStep.yield ok) else pure (ForInStep.yield r)) (TP X pins σ Q) X.xe s
def Xj:TT:=fun _ H Q=>Q true H
theorem PZ {X:Cx}:R3 X [] Xj:=fun pins s σ H Q I h=>wpAny_pure ⟨H,I,h⟩
theorem PY {X:Cx} {c:Expr} {t:TT} (h:PT X c t):R3 X [c] t:=by
 intro pins s σ H Q I q
 rw [List.forIn_cons]
 simp only [if_true]
 refine wpAny_bind (wpAny_bind (thn (h pins s σ H Q I q) fun b s1 q1=>wpAny_pure ?_))
 exact wpAny_pure q1
def VF (J:It) (g:TG) (tt:TT) (te:TE) (Q:VK) (τ0:St) (H1:Hp):Prop:=∀ D,H1 D=none ->
 ∃ W:Nat->Nat->St->Hp->Prop,(∃ m,W 0 m τ0 (upd H1 D (.lst [])))/\∀ i m τ H2,W i m τ H2 ->
  (J.stop i H2/\Q (.ref D) H2)∨(J.go i H2/\∃ N:St->Hp->Prop,(∀ τ' H',N τ' H'->∃ m',m' < m/\W (i+1) m' τ' H')/\∀ x H3,J.yld i H2 x H3->g x τ H3 fun τ2 H4=>tt τ2 H4 fun b H5 =>
   if b=true then te τ2 H5 fun y H6=>∃ ys,H6 D=some (.lst ys)/\ys.length < sizeLine/\N τ2 (upd H6 D (.lst (ys++[y]))) else N τ2 H5)
def Pu (src:List (Option Nat)) (wi:TI) (g:TG) (tt:TT) (te:TE):TE:=fun σ H Q=>wi σ H fun J H1=>VF J g tt te Q (EN σ src) H1
section
variable {X:Cx} {tg iter elt:Expr} {ifs:List Expr} {sc:Scope} {pos:Pos} {N:List Str} {src:List (Option Nat)} {wi:TI} {g:TG} {tt:TT} {te:TE}
theorem LF (hcalm:X.calm=true) (hS:LS X.env.scope sc) (hcap:E7 X.N sc N src=true)
  (hg:∀ cl C s H fp,PG (Cr X N sc cl C s H fp) tg g) (ht:∀ cl C s H fp,R3 (Cr X N sc cl C s H fp) ifs tt) (he:∀ cl C s H fp,PE (Cr X N sc cl C s H fp) elt te)
  {pins:List (Addr×Obj)} {s:Shared} {σ:St} {H:Hp} {it:Addr} {fp:List Addr} {tn:Nat->Heap->Prop} {J:It} {cl:List (Str×Addr)} {Q:VK} {E:Value->Shared->Prop} {RR:Value->Addr->Result->Shared->Prop}
  (hc1:∀ n c,cl.lookup n=some c->X.env.cells.lookup n=some c) (hc2:∀ y∈sc.names,y.2=.free->∃ c,cl.lookup y.1=some c)
  (I:Inv X pins σ H s) (T:Turn X.prog X.w X.K tg J fp it tn) (t0:tn 0 s.heap) (hf:∀ b∈fp,LR X pins H b) (hw:VF J g tt te Q (EN σ src) H)
  (hR:∀ (D C:Addr) (s':Shared) (τ:St) (H':Hp) (m:Str->Option Value),s.heap.objs.size<=C->s'.heap.Ns C m->Inv (Cr X N sc cl C s H fp) pins τ H' s'->(∀ b∈fp,H' b=none)->Q (.ref D) H'->RR (.ref D) C (.ok .next) s') :
  wpAny (model X.prog X.w) X.A (newList []) (fun acc s₃=>wpAny (model X.prog X.w) X.A (newFunctionEnv sc X.env.globals cl [] X.env.qual none .none (some X.env)) (fun cenv s₄ =>
   codeAny (model X.prog X.w) X.A (.compStart (.ListComp elt [⟨tg,iter,ifs,0⟩] sc pos) 0 (.ref it) acc { cenv with scope:=relabel sc X.env }) (RR acc cenv.locals) s₄) E s₃) E s:=by
 have hfs:∀ b∈fp,b < s.heap.objs.size:=fun b hb=>by
  obtain ⟨o,e,_⟩:=T.obj 0 _ t0 b hb
  exact Heap.lt_size e
 refine wpAny_newObj_type (wpAny_newFunctionEnv hS.nocell (by intro y hy;simp at hy) (fun h₁ hns₁ hsb₁=>?_) hS.kind)
 dsimp only at hns₁ hsb₁ ⊢
 generalize hH2:s.heap.push { cls:=.type "list",dict:=none,data:=.seq ([]:List Value).toArray }=H2 at hns₁ hsb₁ ⊢
 have hC:H2.objs.size=s.heap.objs.size+1:=by rw [<- hH2,Heap.size_push]
 have hDC:s.heap.objs.size≠H2.objs.size:=by rw [hC];exact Nat.ne_of_lt (Nat.lt_succ_self _)
 have hCle:s.heap.objs.size<=H2.objs.size:=by rw [hC];exact Nat.le_succ _
 have old:∀ b o,s.heap.get? b=some o->h₁.get? b=some o:=fun b o e=>hsb₁.extBut b o (Nat.ne_of_lt (Nat.lt_of_lt_of_le (Heap.lt_size e) hCle)) (Heap.get?_push_of_some _ (hH2▸Heap.get?_push_of_some _ e))
 have hacc:h₁.get? s.heap.objs.size=some { cls:=.type "list",data:=.seq (#[]:Array Value) }:=hsb₁.extBut _ _ hDC (Heap.get?_push_of_some _ (hH2▸Heap.get?_push_size _ rfl))
 have fresh:H s.heap.objs.size=none:=I.hok.fresh (Nat.le_refl _)
 obtain ⟨W,⟨m0,w0⟩,turn⟩:=hw s.heap.objs.size fresh
 have Y0:Inv (Cr X N sc cl H2.objs.size s H fp) pins (EN σ src) (upd H s.heap.objs.size (.lst [])) { s with heap:=h₁,toks:=s.toks+([]:List (Str×Value)).length } :=
  TX I hf hfs hS hc1 hc2 hcap (Nat.le_refl _) hCle hDC old hns₁ hacc
 have t1:tn 0 h₁:=T.keep 0 _ _ t0 fun b _ o e=>old b o e
 have fp0:∀ b∈fp,upd H s.heap.objs.size (.lst []) b=none:=fun b hb=>by
  rw [Aq (Nat.ne_of_lt (hfs b hb))]
  exact (hf b hb).1
 have stat:∀ {H':Hp},(∀ b∈fp,H' b=none)->∀ b∈fp,LR (Cr X N sc cl H2.objs.size s H fp) pins H' b:=fun {H'} hn b hb =>
  ⟨hn b hb,Nat.ne_of_lt (Nat.lt_of_lt_of_le (hfs b hb) hCle),Y0.ok.exfs b hb,.inl hb,(Y0.ok.exf b hb).2,(hf b hb).2.2.2.2.2⟩
 have loop:∀ s₃:Shared,s₃={ s with heap:=h₁,toks:=s.toks+([]:List (Str×Value)).length } ->
   codeAny (model X.prog X.w) X.A (.compLoop (.ListComp elt [⟨tg,iter,ifs,0⟩] sc pos) 0 (.ref it) (.ref s.heap.objs.size) (compEnvC sc cl H2.objs.size X.env)) (RR (.ref s.heap.objs.size) H2.objs.size) s₃:=by
  rintro s₃ rfl
  refine JF (fun n s'=>∃ i τ H',Inv (Cr X N sc cl H2.objs.size s H fp) pins τ H' s'/\tn i s'.heap/\(∀ b∈fp,H' b=none)/\W i n τ H') ?_ m0 ⟨0,_,_,Y0,t1,fp0,w0⟩
  rintro n s4 ⟨i,τ,H4,I4,t4,fr4,w4⟩
  rcases turn i n τ H4 w4 with ⟨stop,qn⟩ | ⟨go,Nx,hNx,step⟩
  ·refine thn (T.done (Cr X N sc cl H2.objs.size s H fp) rfl rfl rfl hcalm i pins s4 τ H4 _ I4 (stat fr4) t4 stop) fun r s5 ⟨hr,I5⟩=>?_
   subst hr
   obtain ⟨m5,hn5,_⟩:=I5.loc
   exact hR _ _ s5 τ H4 m5 hCle hn5 I5 fr4 qn
  ·refine thn (T.item (Cr X N sc cl H2.objs.size s H fp) rfl rfl rfl hcalm i pins s4 τ H4 _ I4 (stat fr4) t4 go) fun r s5 ⟨u,hr,h5⟩=>?_
   subst hr
   refine thn h5 fun _ s6 ⟨x,H6,I6,r6,y6,st6,fr6⟩=>?_
   have I6':=I6.pinned (stat fr6) (T.obj _ _ st6)
   have again:∀ {τ7:St} {H7:Hp} {s7:Shared} {m':Nat},Inv (Cr X N sc cl H2.objs.size s H fp) (pins++Jl fp s6.heap) τ7 H7 s7->m' < n->W (i+1) m' τ7 H7 ->
     ∃ m,m < n/\∃ i τ H',Inv (Cr X N sc cl H2.objs.size s H fp) pins τ H' s7/\tn i s7.heap/\(∀ b∈fp,H' b=none)/\W i m τ H':=fun {τ7 H7 s7 m'} I7 hm w7=>by
    refine ⟨m',hm,i+1,τ7,H7,I7.FQ,T.keep _ _ _ st6 fun b hb o e=>(I7.pin (b,o) (List.mem_append_right _ (List.mem_append_right _ (Ep hb e)))).1,fun b hb=>?_,w7⟩
    obtain ⟨o,e,d⟩:=T.obj _ _ st6 b hb
    exact (I7.pin (b,o) (List.mem_append_right _ (List.mem_append_right _ (Ep hb e)))).2.1
   refine thn (hg cl H2.objs.size s H fp _ s6 τ H6 x u _ I6' r6 (step x H6 y6)) fun _ s7 ⟨τ7,H7,I7,q7⟩=>?_
   refine thn (ht cl H2.objs.size s H fp _ s7 τ7 H7 _ I7 q7) fun b s8 ⟨H8,I8,q8⟩=>?_
   cases b with
   | false =>
    rw [if_neg Bool.false_ne_true] at q8 ⊢
    obtain ⟨m',hm,w8⟩:=hNx _ _ q8
    exact again I8 hm w8
   | true =>
    rw [if_pos rfl] at q8 ⊢
    refine thn (he cl H2.objs.size s H fp _ s8 τ7 H8 _ I8 q8) fun v s9 ⟨y,H9,I9,r9,ys,hD9,hz,w9⟩=>?_
    obtain ⟨m',hm,w9⟩:=hNx _ _ w9
    refine thn (Co _ s9 τ7 H9 (.ref s.heap.objs.size) [y] (.ref s.heap.objs.size) [v] (fun _ Hn=>W (i+1) m' τ7 Hn) I9 rfl (.cons r9 .nil) ⟨_,ys,y,rfl,rfl,hD9,hz,w9⟩) fun _ s10 ⟨_,H10,I10,_,w10⟩=>?_
    exact again I10 hm w10
 exact codeAny_compStart_list (loop _ rfl) (T.self X.A 0 _ _ _ t1 (loop _ rfl))
theorem OZ {pins:List (Addr×Obj)} {s s':Shared} {σ τ:St} {H H':Hp} {fp:List Addr} {cl:List (Str×Addr)} {C:Addr} (I:Inv X pins σ H s) (hf:∀ b∈fp,LR X pins H b) (J:Inv (Cr X N sc cl C s H fp) pins τ H' s'):Inv X pins σ H' s' :=
 I.VJ (ch:=fp) J.os J.base J.hok J.bare fun b hb=>⟨(hf b hb).2.2.2.1,(hf b hb).2.1,(hf b hb).2.2.2.2.1,(hf b hb).2.2.2.2.2⟩
theorem TV {pins:List (Addr×Obj)} {s s':Shared} {σ τ:St} {H H':Hp} {fp:List Addr} {cl:List (Str×Addr)} {C:Addr} {h':Heap} (I:Inv X pins σ H s) (hC:s.heap.objs.size<=C) (hf:∀ b∈fp,LR X pins H b)
  (J:Inv (Cr X N sc cl C s H fp) pins τ H' s') (hs:Heap.SameBut C s'.heap h'):Inv X pins σ H' { s' with heap:=h' }:=by
 have I':=OZ I hf J
 refine I'.turned (it:=C) (t':=s'.toks) (fun b o hb e=>hs.extBut b o hb e) J.free (Nat.ne_of_gt (Nat.lt_of_lt_of_le I.lt hC)) (.inr (Nat.le_trans I.sz hC)) (fun x c e z=>?_) fun p hp z=>?_
 ·obtain ⟨v,q⟩:=I.cell x c e
  exact absurd (Nat.lt_of_lt_of_le q.lt (by rw [z];exact hC)) (Nat.lt_irrefl _)
 ·exact absurd (Nat.lt_of_lt_of_le (Heap.lt_size (I.pin p hp).1) (by rw [z];exact hC)) (Nat.lt_irrefl _)
theorem Su (N:List Str) (src:List (Option Nat)) (hcalm:X.calm=true) (hi:PI X tg iter wi) (hg:∀ cl C s H fp,PG (Cr X N sc cl C s H fp) tg g) (ht:∀ cl C s H fp,R3 (Cr X N sc cl C s H fp) ifs tt)
  (he:∀ cl C s H fp,PE (Cr X N sc cl C s H fp) elt te) (hS:GX X.env.scope sc=true:=by rfl) (hcap:E7 X.N sc N src=true:=by rfl)
  (hs:∀ x,foldedSetIterable iter X.env x=pure x:=by intro _;rfl):PE X (.ListComp elt [⟨tg,iter,ifs,0⟩] sc pos) (Pu src wi g tt te):=by
 intro pins s σ H Q I h
 have S:=JE hS
 obtain ⟨cl,hcl,hc1,hc2⟩:=E6 (sc:=sc) (env:=X.env) fun y hy e=>I.ok.has y.1 (S.fr y hy e)
 rw [eval_ListComp]
 refine wpAny_comprehension_free (use:=none) rfl hs hcl S.kind S.loc (thn (hi pins s σ H _ I h) fun v s1 h1=>thn h1 fun itv s2 h2=>?_)
 obtain ⟨it,fp,tn,J,H2,e,I2,T,t2,f2,hw⟩:=h2
 subst e
 refine LF hcalm S hcap hg ht he hc1 hc2 I2 T t2 f2 hw (RR:=fun acc C=>compPost (model X.prog X.w) X.A X.xe none (EP X pins σ Q) acc C) fun D C s' τ H' m hC hn J' _ q=>?_
 exact ⟨m,hn,fun h' hsb=>⟨.ref D,H',TV I2 hC f2 J' hsb,rfl,q⟩⟩
theorem HA {i:Nat} {y:Str} {pos' spos:Pos} (N:List Str) (src:List (Option Nat)) (hcalm:X.calm=true) (hN:X.N.Nodup) (hiy:X.N[i]?=some y) (hy:Loc X.env.scope y) (hi:PI X tg iter wi) (hg:∀ cl C s H fp,PG (Cr X N sc cl C s H fp) tg g) (ht:∀ cl C s H fp,R3 (Cr X N sc cl C s H fp) ifs tt)
  (he:∀ cl C s H fp,PE (Cr X N sc cl C s H fp) elt te) (hS:GX X.env.scope sc=true:=by rfl) (hcap:E7 X.N sc N src=true:=by rfl)
  (hs:∀ x,foldedSetIterable iter X.env x=pure x:=by intro _;rfl) (hsw:swapsWith (.ListComp elt [⟨tg,iter,ifs,0⟩] sc pos) (some (.Name y pos')) spos.line X.env=pure true:=by rfl)
  (hf:X.fn y=true∨X.env.scope.names.lookup y=some .local:=by first | exact .inl rfl | exact .inr rfl | assumption) :
  PS X (.Assign [.Name y pos'] (.ListComp elt [⟨tg,iter,ifs,0⟩] sc pos) spos) (Us (Pu src wi g tt te) (QC i)):=by
 intro pins s σ H D0 I h
 have S:=JE hS
 obtain ⟨cl,hcl,hc1,hc2⟩:=E6 (sc:=sc) (env:=X.env) fun y hy e=>I.ok.has y.1 (S.fr y hy e)
 rw [exec_Assign_Name_used _ _ _ _ hsw]
 refine wpAny_bind (wpAny_standAt (wpAny_bind ?_))
 show wpAny _ X.A (do let _ <- comprehension (.ListComp elt [⟨tg,iter,ifs,0⟩] sc pos) sc X.env _ (newList []) false (eval iter X.env) (some (assign (.Name y pos') X.env))) _ _ s
 refine wpAny_bind (wpAny_mono (wpAny_comprehension_free (use:=some (assign (.Name y pos') X.env)) (Q:=fun _ s'=>SP X pins D0 .next s') rfl hs hcl S.kind S.loc
  (thn (hi pins s σ H _ I h) fun v s1 h1=>thn h1 fun itv s2 h2=>?_)) (fun _ s' hq=>wpAny_pure (wpAny_pure hq)) fun _ _ e=>e)
 obtain ⟨it,fp,tn,J,H2,e,I2,T,t2,f2,hw⟩:=h2
 subst e
 refine LF hcalm S hcap hg ht he hc1 hc2 I2 T t2 f2 hw (RR:=fun acc C=>compPost (model X.prog X.w) X.A X.xe (some (assign (.Name y pos') X.env)) (fun _ s'=>SP X pins D0 .next s') acc C) fun D C s' τ H' m hC hn J' _ q=>?_
 show wpAny _ X.A (assign (.Name y pos') X.env (.ref D)) _ _ s'
 have I':=OZ I2 f2 J'
 have ltC:∀ {b:Addr} {o:Obj},s2.heap.get? b=some o->b≠C:=fun e=>Nat.ne_of_lt (Nat.lt_of_lt_of_le (Heap.lt_size e) hC)
 have cC:∀ x c,X.env.cells.lookup x=some c->c≠C:=fun x c e=>by
  obtain ⟨v,o,ho,_⟩:=I2.cell x c e
  exact ltC ho
 have lC:X.env.locals≠C:=Nat.ne_of_lt (Nat.lt_of_lt_of_le I2.lt hC)
 refine wpAny_assign_Name (I0 I' hN hiy hy (v:=.ref D) rfl (fun s3 I3 ⟨a,sb,ha⟩=>?_) hf)
 have naC:C≠a:=by
  rcases ha with rfl | ha
  ·exact Ne.symm lC
  ·exact Ne.symm (cC _ _ ha)
 refine ⟨m,hn.sameBut sb naC,fun h' hs'=>⟨_,H',I3.turned (it:=C) (t':=s3.toks) (fun b o hb e=>hs'.extBut b o hb e) J'.free (Ne.symm lC) (.inr (Nat.le_trans I2.sz hC)) cC (fun p hp z=>ltC (I2.pin p hp).1 z),q⟩⟩
end
section
variable {K:Fg} {a:Addr} {xs:List V} {g:TG} {tt:TT} {te:TE} {Q:VK} {τ0:St} {H1:Hp}
end
end L2
namespace PySem
namespace F
theorem ND:typeLookup (.type "list_reverseiterator") "__len__"=pure none:=by rw [typeLookup_type,builtinLookup_eq_fast];kernel_rfl
theorem Qq:typeLookup (.type "list_reverseiterator") "__length_hint__"=pure (some (.builtin "list_reverseiterator.__length_hint__")):=by rw [typeLookup_type,builtinLookup_eq_fast];kernel_rfl
end F
section
variable {prog:Program} {w:World} {A:Around} {s:Shared} {R:Result->Shared->Prop}
variable {I:Addr} {fp wr:List Addr} {G:Array GenState->Array GenState->Prop} {n:Nat} {P:Nat->Value->Prop} {St:Nat->Shared->Prop}
theorem FG (W:WalksS prog w A.in1 I fp wr G n P St) (hT:∀ i s,St i s->s.TypeIs (.ref I) "list_reverseiterator") (S:Addr) (res:Value) (c₀:Nat) (hst:St 0 s) (hSf:S∉fp) (hI:I∈fp)
  (hS:s.heap.get? S=some { cls:=.type "list",data:=.seq #[] c₀ })
  (hR:∀ s' acc' c',Moved (S :: wr) G s s'->s'.heap.get? S=some { cls:=.type "list",dict:=none,data:=.seq acc' c',slots:=#[] }->ItemsOf P acc' n->R (.ok (.ret res)) s') (hn:n<=sizeLine) :
  wpAny (model prog w) A.in1 (Builtin.List.listExtendWith (.ref S) (.ref I) res)
   (fun fin s'=>match fin with | .done f=>R (.ok f) s' | .again c'=>c'.quiet=true/\codeAny (model prog w) A c' R s') (fun e s'=>R (.error e) s') s:=by
 have hSI:S≠I:=fun e=>hSf (e▸hI)
 unfold Builtin.List.listExtendWith
 refine wpAny_bind (wpAny_typeOf (hT 0 _ hst) ?_)
 have h1:Builtin.List.listSameRef (.ref S) (.ref I)=false:=by simp [Builtin.List.listSameRef,hSI]
 have h2:(Value.type "list_reverseiterator" == Value.type "list")=false:=by decide
 have h3:(Value.type "list_reverseiterator" == Value.type "tuple")=false:=by decide
 simp only [h1,h2,h3,Bool.or_false,Bool.false_eq_true,if_false]
 refine wpAny_bind (W.self 0 _ _ _ hst ?_)
 refine wpAny_bind (wpAny_holding ?_)
 unfold Builtin.List.listLengthHint
 refine wpAny_bind (wpAny_specialOf (hT 0 _ hst) F.ND ?_)
 show wpAny _ A.in1 (specialOf (Value.ref I) (Str.ofString "__length_hint__") >>= _) _ _ _
 refine wpAny_bind (wpAny_specialOf (hT 0 _ hst) F.Qq ?_)
 generalize hid:("list_reverseiterator.__length_hint__":String)=id0
 wp_delta
 rw [show splitId id0=some ("list_reverseiterator","__length_hint__") from by subst hid;decide +kernel]
 subst hid
 refine wpAny_bind (wpAny_isInstance (b:=true) (hT 0 _ hst) (by rw [isSubtype_type];kernel_rfl) ?_)
 refine wpAny_pure ?_
 rw [if_neg (by decide)]
 refine wpAny_pure ⟨plainId_quiet F.plain_extend_loop _,codeAny_extend_loopS W hn _ hSf _ n 0 _ _ _ rfl (Nat.zero_le _) hst hS (ItemsOf.nil P) fun s' acc' c' hm hS' hacc=>?_⟩
 exact hR s' acc' c' hm hS' hacc
theorem EG (W:WalksS prog w A.in1 I fp wr G n P St) (hT:∀ i s,St i s->s.TypeIs (.ref I) "list_reverseiterator") (S:Addr) (hst:St 0 s) (hSf:S∉fp) (hI:I∈fp)
  (hS:s.heap.get? S=some { cls:=.type "list",data:=.seq #[] })
  (hR:∀ s' acc' c',Moved (S :: wr) G s s'->s'.heap.get? S=some { cls:=.type "list",dict:=none,data:=.seq acc' c',slots:=#[] }->ItemsOf P acc' n->R (.ok (.ret .none)) s') (hn:n<=sizeLine) :
  wpAny (model prog w) A.in1 (Builtin.«list.__init__» ⟨[.ref S,.ref I],[]⟩)
   (fun fin s'=>match fin with | .done f=>R (.ok f) s' | .again c'=>c'.quiet=true/\codeAny (model prog w) A c' R s') (fun e s'=>R (.error e) s') s:=by
 show wpAny _ A.in1 (do let old <- Builtin.List.listItems (.ref S);Builtin.List.listUpdate (.ref S) (fun _=>#[]);letGo old.toList.reverse;Builtin.List.listExtendWith (.ref S) (.ref I) .none) _ _ s
 refine wpAny_bind ?_
 unfold Builtin.List.listItems
 refine wpAny_bind (wpAny_seqItems hS rfl (wpAny_pure ?_))
 show wpAny _ A.in1 (updateSeq S (fun _=>#[]) >>= fun _=>letGo (#[]:Array Value).toList.reverse >>= fun _=>Builtin.List.listExtendWith (.ref S) (.ref I) .none) _ _ s
 refine wpAny_bind (wpAny_updateSeq hS rfl ?_)
 have hS₂:=Heap.get?_update_self (Obj.mapSeq (fun _=>(#[]:Array Value))) hS rfl
 have oth:∀ b o,b≠S->s.heap.get? b=some o->(s.heap.update S (Obj.mapSeq (fun _=>(#[]:Array Value)))).get? b=some o :=
  fun b o hb e=>(Heap.get?_update_other _ _ (Ne.symm hb)).trans e
 refine wpAny_bind (wpAny_letGo ?_)
 refine FG (hn:=hn) W hT S .none _ (W.frame 0 s _ s.toks hst (Nat.le_refl _) fun b hb o e=>oth b o (fun h=>hSf (h▸hb)) e) hSf hI hS₂ fun s' acc' c' hm hS' hacc=>?_
 exact hR s' acc' c' (Moved.trans W.gtrans ((Moved.refl W.grefl).then_heap (Nat.le_refl _) fun b o hb e=>oth b o (fun h=>hb (h▸List.mem_cons_self)) e) hm) hS' hacc
end
section
variable {prog:Program} {w:World} {A:Around} {E:Value->Shared->Prop} {s:Shared}
theorem Ft {it l:Addr} {items:Array Value} {Q:Value->Shared->Prop} (hh:A.handled=none) (hne:l≠it) (hit:s.heap.IsRevIter it l ((items.size:Int) - 1)) (hl:s.heap.IsList l items) (hz:items.size<=sizeLine)
  (hQ:∀ h' tk acc' c',(∀ b o,b≠it->s.heap.get? b=some o->h'.get? b=some o) ->
   h'.get? s.heap.objs.size=some { cls:=.type "list",dict:=none,data:=.seq acc' c',slots:=#[] }->ItemsOf (fun i v=>items[items.size - 1 - i]?=some v) acc' items.size->Q (.ref s.heap.objs.size) { s with heap:=h',toks:=tk }) :
  wpAny (model prog w) A (call (.type "list") [.ref it]) Q E s:=by
 refine callType_codes (Q₁:=fun obj s₁=>obj=.ref s.heap.objs.size/\s₁={ s with heap:=s.heap.push { cls:=.type "list",data:=.seq #[] } }) F.called_list (F.typeCall_list_1 _) F.entry_list_init
  (code_list_new _ ⟨rfl,rfl⟩) fun obj s₁ h₁=>?_
 obtain ⟨rfl,rfl⟩:=h₁
 have hS:(s.heap.push { cls:=.type "list",data:=.seq #[] }).get? s.heap.objs.size=some { cls:=.type "list",data:=.seq #[] }:=Heap.get?_push_size _ rfl
 have hlt:it < s.heap.objs.size:=by obtain ⟨o,e,_⟩:=hit;exact Heap.lt_size e
 have hlt2:l < s.heap.objs.size:=by obtain ⟨o,e,_⟩:=hl;exact Heap.lt_size e
 have W:=(Walks.listRev (prog:=prog) (w:=w) (A:=A.in1.in1) hh it l hne items).toS
 have e0:(items.size:Int) - 1 - ((0:Nat):Int)=(items.size:Int) - 1:=by simp
 refine ⟨⟨_,hS,rfl⟩,F.args_list_init_2 _ _,EG (A:=A.in1) W (fun i s' st=>?_) _ ?_ ?_ (by simp) hS (fun s' acc' c' hm hS' hacc=>?_) hz⟩
 ·exact st.2.1.typeIs
 ·refine ⟨Nat.zero_le _,?_,hl.push _⟩
  rw [e0]
  exact hit.at fun o e=>Heap.get?_push_of_some _ e
 ·intro hm
  rcases List.mem_cons.mp hm with e | hm
  ·exact absurd hlt (by rw [e];exact Nat.lt_irrefl _)
  ·exact absurd hlt2 (by rw [List.mem_singleton.mp hm];exact Nat.lt_irrefl _)
 ·rw [Moved.eq_with hm] at hS' ⊢
  refine ⟨rfl,hQ s'.heap s'.toks acc' c' (fun b o hb e=>hm.heap b o (fun hmem=>?_) (Heap.get?_push_of_some _ e)) hS' hacc⟩
  rcases List.mem_cons.mp hmem with e' | hmem
  ·exact absurd (Heap.lt_size e) (by rw [e'];exact Nat.lt_irrefl _)
  ·exact hb (List.mem_singleton.mp hmem)
end
end PySem
namespace L2
open PySem PySem.Spec PyProof.Rows
section
variable {X:Cx} {pins:List (Addr×Obj)} {σ:St} {H:Hp} {s:Shared}
theorem Inv.OP {it d:Addr} {h':Heap} {t':Nat} {ys:List V} {its:List Value} {n:Nat} (I:Inv X pins σ H s) (hf:LR X pins H it) (hd:s.heap.objs.size<=d) (k:∀ b o,b≠it->s.heap.get? b=some o->h'.get? b=some o)
  (hz:ys.length<=sizeLine) (r:Vals ys its) (e:h'.get? d=some { cls:=.type "list",data:=.seq its.toArray n }):Inv X pins σ (upd H d (.lst ys)) { s with heap:=h',toks:=t' }:=by
 obtain ⟨f0,f1,f2,f3,f4,f5⟩:=hf
 have fd:H d=none:=I.hok.fresh hd
 have nd:∀ {b:Addr} {o:Obj},s.heap.get? b=some o->b≠d:=fun e=>Nat.ne_of_lt (Nat.lt_of_lt_of_le (Heap.lt_size e) hd)
 have nit:∀ {b:Addr} {u:HO},H b=some u->b≠it:=fun {b u} e z=>by rw [z,f0] at e;cases e
 refine I.step (g':=s.gens) (d':=s.drawn) (ch:=[it]) (fun b hb=>?_) (fun b o _ _ hc e _=>k b o (fun z=>hc (by simp [z])) e) (fun b o _ _ hc e _=>⟨o.slots,k b o (fun z=>hc (by simp [z])) e⟩)
  (fun b o _ e n=>by rw [Aq (nd e)];exact n) (fun b o hc e=>⟨o,k b o (fun z=>hc (by simp [z])) e⟩) (fun b xs e=>by rw [Aq (A3 e fd)];exact e) (fun b o u e=>by rw [Aq (A3 e fd)];exact e)
  (fun b ps e=>⟨#[],by rw [Aq (A3 e fd),e];simp⟩) (fun m hm=>?_) (fun b u e=>?_) I.bare
 ·have e:b=it:=by simpa using hb
  subst e
  exact ⟨f3,f1,f4,f5⟩
 ·obtain ⟨o,es,ep,ho,r⟩:=hm
  exact ⟨o,es,ep,k _ o (Ne.symm f1) ho,r⟩
 ·by_cases hb:b=d
  ·subst hb
   rw [AF] at e
   cases e
   exact ⟨hz,its,n,r,‹_›⟩
  ·rw [Aq hb] at e
   refine (I.hok b u e).Pw (fun c v hc q=>k c v ?_ q) (fun c q=>by rw [Aq (A3 q fd)];exact q) fun c xs q=>by rw [Aq (A3 q fd)];exact q
   rcases hc with z | z
   ·rw [z];exact nit e
   ·exact nit z
end
theorem Pk {ys:List V} {its:List Value} (r:Vals ys its) {acc:Array Value} (h:ItemsOf (fun i v=>its.toArray[its.toArray.size - 1 - i]?=some v) acc its.toArray.size):Vals ys.reverse acc.toList:=by
 have e:acc.toList=its.reverse:=by
  apply List.ext_getElem?
  intro i
  obtain ⟨h1,h2⟩:=h
  have hs:its.toArray.size=its.length:=by simp
  by_cases hi:i < its.length
  ·have ha:acc[i]?=some (acc[i]'(by omega)):=by simp
   have q:=h2 i _ ha
   rw [List.getElem?_reverse (by omega)]
   have q':its[its.length - 1 - i]?=some (acc[i]'(by omega)):=by simpa using q
   rw [q']
   simp
  ·rw [List.getElem?_eq_none (by simp;omega),List.getElem?_eq_none (by simp;omega)]
 rw [e]
 exact r.reverse
section
variable {X:Cx} {a:Expr} {ta:TE} {p1 p2 pos1 pos2:Pos}
def Pt (K:Fg) (ta:TE):TE:=fun σ H Q=>ta σ H fun x H1=>∃ l ys,x=.ref l/\SqL K H1 l ys/\∀ d,H1 d=none->Q (.ref d) (upd H1 d (.lst ys.reverse))
theorem Mc (hc:X.calm=true) (hm1:X.mg "list"=none) (hm2:X.mg "reversed"=none) (ha:PE X a ta) (hg1:Gl X "list":=by rfl) (hg2:Gl X "reversed":=by rfl)
  (he:starEach [(.Call (.Name "reversed" p2) [a] [] pos2:Expr)] X.env=[(false,eval (.Call (.Name "reversed" p2) [a] [] pos2) X.env)]:=by rfl) (he2:starEach [a] X.env=[(false,eval a X.env)]:=by rfl) :
  PE X (.Call (.Name "list" p1) [.Call (.Name "reversed" p2) [a] [] pos2] [] pos1) (Pt X.K ta):=by
 intro pins s σ H Q I h
 refine wpAny_Call_Name_kw (GF I hg1 hm1 boot_list ?_)
 refine PyProof.Rows.callWith_type1 ?_ he rfl
 rw [he]
 refine Calls.spliced_cons ?_
 refine wpAny_Call_Name_kw (GF I hg2 hm2 boot_reversed ?_)
 refine PyProof.Rows.callWith_type1 ?_ he2 rfl
 rw [he2]
 refine Calls.spliced_cons (thn (ha pins s σ H _ I h) fun u s1 ⟨x,H1,I1,r1,l,ys,ex,hq,q⟩=>?_)
 subst ex
 cases r1
 obtain ⟨its,rv,pl,hz⟩:=I1.list hq
 have hlen:=rv.length
 refine Calls.spliced_nil (call_reversed_list pl.isList ?_)
 refine Calls.spliced_nil ?_
 have I2:Inv X pins σ H1 { s1 with heap:=s1.heap.push (revObj l ((its.toArray.size:Int) - 1)) }:=I1.kept (t':=s1.toks) fun b o e=>Heap.get?_push_of_some _ e
 have hf:LR X pins H1 s1.heap.objs.size:=I1.Tn (Nat.le_refl _) (I1.hok.fresh (Nat.le_refl _))
 have hlt:l < s1.heap.objs.size:=by obtain ⟨o,n,e,_⟩:=pl;exact Heap.lt_size e
 refine Ft (s:={ s1 with heap:=s1.heap.push (revObj l ((its.toArray.size:Int) - 1)) }) (I.ok.hd hc) (Nat.ne_of_lt hlt) ⟨_,Heap.get?_push_size _ rfl,rfl,rfl⟩ (pl.isList.push _) (by rw [List.size_toArray];omega) fun h' tk acc c kp e hacc=>?_
 refine ⟨.ref _,_,I2.OP (n:=c) hf (Nat.le_refl _) kp (by rw [List.length_reverse];exact hz) (Pk rv hacc) (by simpa using e),rfl,q _ (I2.hok.fresh (Nat.le_refl _))⟩
theorem QS (hc:X.calm=true):Dj X (.builtin "sum") (fun xs H Q=>∃ (l:Addr) (ns:List Int),xs=[.ref l]/\SqL X.K H l (ns.map V.int)/\Q (.int ns.sum) H):=by
 intro pins s σ H xs us Q I r h
 obtain ⟨l,ns,rfl,hq,q⟩:=h
 obtain ⟨u,rfl,rx⟩:=vals1 r
 cases rx
 obtain ⟨its,rv,pl,hz⟩:=I.list hq
 have hi:=intsAre_of rv
 obtain ⟨zs,hx⟩:=hi.allInts.items
 have hl':s.heap.IsList l (intItems zs):=hx▸pl.isList
 refine sum_intListG (I.ok.hd hc) hl' fun h' tk t' hk=>?_
 have e1:ns=zs.toList.map (·.1):=by
  rw [<- nums_intItems,<- hx]
  exact (show numsOf its.toArray.toList=ns from hi.numsOf).symm
 have e2:preSum (numAt zs) zs.size=ns.sum:=by
  rw [preSum_eq,List.take_of_length_le (by simp),e1]
 rw [e2]
 exact ⟨.int ns.sum,H,I.kept hk,⟨_,rfl⟩,q⟩
theorem Di:∀ {bs:List Bool} {us:List Value},Vals (bs.map V.bl) us->us=bs.map Value.bool
 | [],_,.nil=>rfl
 | b :: bs,_,.cons r t=>by
  cases (show _=Value.bool b from r)
  rw [List.map_cons,Di t]
theorem QT (hc:X.calm=true):Dj X (.builtin "all") (fun xs H Q=>∃ (l:Addr) (bs:List Bool),xs=[.ref l]/\SqL X.K H l (bs.map V.bl)/\Q (.bl (bs.all id)) H):=by
 intro pins s σ H xs us Q I r h
 obtain ⟨l,bs,rfl,hq,q⟩:=h
 obtain ⟨u,rfl,rx⟩:=vals1 r
 cases rx
 obtain ⟨its,rv,pl,hz⟩:=I.list hq
 have hb:=Di rv
 have hl:=pl.isList
 have hlt:l < s.heap.objs.size:=by obtain ⟨_,e,_⟩:=hl;exact Heap.lt_size e
 refine call_all_walk (wpAny_pyIter_list hl ?_)
 refine ⟨s.heap.objs.size,[s.heap.objs.size,l],[s.heap.objs.size],its.toArray.size,_,_,fun i=>(bs[i]?).getD true,rfl,Walks.list (A:=X.A.in1) (I.ok.hd hc) _ l (Nat.ne_of_lt hlt) its.toArray,
  ⟨⟨_,Heap.get?_push_size _ rfl,rfl,rfl⟩,hl.push _⟩,fun i v s' Q' E' hP hQ=>?_,fun h' tk hk=>?_⟩
 ·have e:its[i]?=some v:=by simpa using hP
  rw [hb,List.getElem?_map] at e
  cases eb:bs[i]? with
  | none=>rw [eb] at e;cases e
  | some b =>
   rw [eb] at e
   have e':Value.bool b=v:=Option.some.inj e
   subst e'
   simp only [eb,Option.getD_some] at hQ
   exact wpAny_truthy_bool hQ
 ·have e:((List.range its.toArray.size).all fun i=>(bs[i]?).getD true)=bs.all id:=by
   have hlen:its.toArray.size=bs.length:=by rw [hb];simp
   rw [hlen]
   rw [Bool.eq_iff_iff,List.all_eq_true,List.all_eq_true]
   constructor
   ·intro hh b hm
    obtain ⟨i,hi,rfl⟩:=List.getElem_of_mem hm
    have:=hh i (List.mem_range.mpr hi)
    simpa [List.getElem?_eq_getElem hi] using this
   ·intro hh i hi
    have hi':=List.mem_range.mp hi
    have:=hh _ (List.getElem_mem hi')
    simpa [List.getElem?_eq_getElem hi'] using this
  rw [e]
  have kp:∀ b o,s.heap.get? b=some o->h'.get? b=some o:=fun b o e=>hk b o (fun hm=>by rw [List.mem_singleton.mp hm] at e;exact Nat.lt_irrefl _ (Heap.lt_size e)) (Heap.get?_push_of_some _ e)
  exact ⟨.bl _,H,I.kept kp,rfl,q⟩
theorem Sz:OpR X (binaryOp .Mult) (rI IntMulOk fun i j=>.int (i * j)):=opI fun _ _ _ _ _ _ _ hc q=>mul_int q hc
theorem Nn:OpR X (binaryOp .Mult) (fun x y H Q=>∃ z n,x=.str z/\y=.int n/\MulOk z n/\Q (.str (Txt.mul z n)) H):=by
 intro pins s σ H x y v u Q I rx ry h
 obtain ⟨z,n,rfl,rfl,hok,q⟩:=h
 obtain ⟨t,rfl⟩:=rx
 obtain ⟨t',rfl⟩:=ry
 exact SB.mul hok fun t' k=>⟨.str _,H,I.tok _,⟨_,rfl⟩,q⟩
theorem Gj:∀ {ys:List Str} {us:List Value},Vals (ys.map V.str) us->StrsAre us ys
 | [],_,.nil=>.nil
 | y :: ys,_,.cons r t=>by
  obtain ⟨tk,rfl⟩:=(show ∃ tk,_=Value.str y tk from r)
  exact .cons _ _ (Gj t)
theorem NI:MtR X "str.join" (fun x xs H Q=>∃ (z:Str) (l:Addr) (ys:List Str),x=.str z/\xs=[.ref l]/\SqL X.K H l (ys.map V.str)/\(ys.map (·.length)).sum+ys.length * z.length<=16777216/\Q (.str (Txt.join z ys)) H):=by
 intro pins s σ H x xs v us Q I rx rv h
 obtain ⟨z,l,ys,rfl,rfl,hq,hok,q⟩:=h
 obtain ⟨t,rfl⟩:=rx
 obtain ⟨u,rfl,ru⟩:=vals1 rv
 cases ru
 obtain ⟨its,r,pl,hz⟩:=I.list hq
 exact join_list pl.isList (Gj r) hok fun t' k=>⟨.str _,H,I.tok _,⟨_,rfl⟩,q⟩
end
def V4 (lo st:Int) (n:Nat):It:=⟨fun i _=>i < n,fun i H x H'=>H'=H/\x=.int (lo+i * st),fun i _=>n<=i⟩
theorem J2 {P:Program} {w:World} {K:Fg} {tg:Expr} (it:Addr) (lo st:Int) (n:Nat):Turn P w K tg (V4 lo st n) [it] it (fun i h=>IsRangeIter h it (lo+(i:Nat) * st) ((n:Int) - (i:Nat)) st) where
 mem:=by simp
 obj:=fun i h st b hb=>by
  have e:b=it:=by simpa using hb
  subst e
  exact ⟨_,st,fun v z=>by
   have z':Data.fields _=Data.cell v:=z
   cases z'⟩
 keep:=fun i h h' st k=>k it (by simp) _ st
 item:=by
  intro X hP hw hK hc i pins s σ H E I hf stt hg
  subst hP hw hK
  obtain ⟨f0,f1,f2,f3,f4,f5⟩:=hf it (by simp)
  have W:=Walks.range (prog:=X.prog) (w:=X.w) (I.ok.hd hc) it lo st n
  refine W.item i s _ _ hg stt fun v h' tk hv st' kk=>?_
  obtain ⟨t,rfl⟩:=hv
  have I1:Inv X pins σ H { s with heap:=h',toks:=tk }:=I.turned (fun b o hb e=>kk b o (by simpa using hb) e) f0 f1 f3 f4 f5
  exact ⟨_,rfl,Qx (s:={ s with heap:=h',toks:=tk }) (n:="range_iterator") st' rfl rfl (by decide) ⟨.int (lo+i * st),H,I1,⟨t,rfl⟩,⟨rfl,rfl⟩,st',fun b hb=>(hf b hb).1⟩⟩
 done:=by
  intro X hP hw hK hc i pins s σ H E I hf st hg
  subst hP hw hK
  obtain ⟨f0,f1,f2,f3,f4,f5⟩:=hf it (by simp)
  exact wpAny_pyNext_range_end (I.ok.hd hc) st (by have:n<=i:=hg;omega) fun h' eb=>⟨rfl,I.turned (t':=s.toks) (fun b o hb e=>eb b o hb e) f0 f1 f3 f4 f5⟩
 self:=fun _ _ _ _ _ st h=>wpAny_pyIter_rangeiter st h
def Vi (ta:TA):TI:=fun σ H R=>ta σ H fun vs H1=>∃ i j c:Int,vs=[.int i,.int j,.int c]/\0 < c/\c < 1073741824/\Builtin.Range.small i j c=true/\0<=Builtin.Range.rangeSize i j c/\R (V4 i c (Builtin.Range.rangeSize i j c).toNat) H1
section
variable {X:Cx} {tg:Expr}
theorem Nc {a b c:Expr} {ta:TA} {p pos:Pos} (hg:Gl X "range") (hm:X.mg "range"=none) (ha:PA X [a,b,c] ta) (hs:starEach [a,b,c] X.env=[(false,eval a X.env),(false,eval b X.env),(false,eval c X.env)]:=by rfl)
  (hs2:starEach [b,c] X.env=[(false,eval b X.env),(false,eval c X.env)]:=by rfl):PI X tg (.Call (.Name "range" p) [a,b,c] [] pos) (Vi ta):=by
 intro pins s σ H R I h
 refine Call_ (GF I hg hm boot_range (PyProof.Rows.callWith_type1 (thn (ha pos pins s σ H _ I h) fun us s1 ⟨vs,H1,I1,r1,q1⟩=>?_) (by rw [hs,hs2]) (by rw [hs2];rfl)))
 obtain ⟨i,j,k,e,h0,hk,hsm,hn,q⟩:=q1
 subst e
 cases r1 with
 | cons r rr =>
  cases rr with
  | cons r' rr =>
   cases rr with
   | cons r'' rr =>
    cases rr
    obtain ⟨t,rfl⟩:=r
    obtain ⟨t',rfl⟩:=r'
    obtain ⟨t'',rfl⟩:=r''
    refine call_range_3 (by omega) ?_ (.inl (PyProof.noPylong_small (by omega)))
    refine wpAny_pyIter_range (IsRange.new ..) hsm ?_
    have I2:Inv X pins σ H1 { s1 with heap:=s1.heap.push { cls:=.type "range",data:=.fields #[.int i t,.int j t',.int k t''] },toks:=s1.toks }:=I1.kept fun b o e=>Heap.get?_push_of_some _ e
    refine ⟨(s1.heap.push { cls:=.type "range",data:=.fields #[.int i t,.int j t',.int k t''] }).objs.size,[(s1.heap.push { cls:=.type "range",data:=.fields #[.int i t,.int j t',.int k t''] }).objs.size],_,_,H1,rfl,
     I2.kept (t':=s1.toks) fun b o e=>Heap.get?_push_of_some _ e,J2 _ i k (Builtin.Range.rangeSize i j k).toNat,?_,fun b hb=>?_,q⟩
    ·have e1:i+((0:Nat):Int) * k=i:=by simp
     have e2:(((Builtin.Range.rangeSize i j k).toNat:Nat):Int) - ((0:Nat):Int)=Builtin.Range.rangeSize i j k:=by omega
     show IsRangeIter _ _ (i+((0:Nat):Int) * k) ((((Builtin.Range.rangeSize i j k).toNat:Nat):Int) - ((0:Nat):Int)) k
     rw [e1,e2]
     exact Heap.get?_push_size _ rfl
    ·have e:b=(s1.heap.push { cls:=.type "range",data:=.fields #[.int i t,.int j t',.int k t''] }).objs.size:=by simpa using hb
     subst e
     exact I2.Tn (Nat.le_refl _) (I2.hok.fresh (Nat.le_refl _))
def Its (z:Str):It:=⟨fun i _=>i < z.cps.size,fun i H x H'=>H'=H/\∃ c,z.cps[i]?=some c/\x=.str ⟨#[c]⟩,fun i _=>z.cps.size<=i⟩
theorem Vj {M:Model} {A:Around} {E:Value->Shared->Prop} {s:Shared} {tg:Expr} {it:Value} {x:Str} {t:Tok} {Q:Unit->Shared->Prop} (hQ:Q () s):wpAny M A (letOwnedTupleGo tg it (.str x t)) Q E s:=by
 unfold letOwnedTupleGo
 cases tg <;> first
  | exact wpAny_pure hQ
  | (cases it <;> exact wpAny_pure hQ)
theorem Pm {P:Program} {w:World} {K:Fg} {tg:Expr} (it:Addr) (ty:String) (z:Str) (t:Tok) (hty:ty="str_ascii_iterator"∨ty="str_iterator"):Turn P w K tg (Its z) [it] it (fun i h=>h.IsStrIter it ty z t i) where
 mem:=by simp
 obj:=fun i h st b hb=>by
  have e:b=it:=by simpa using hb
  subst e
  obtain ⟨o,e,c,d⟩:=st
  exact ⟨o,e,fun v z=>by rw [d] at z;cases z⟩
 keep:=fun i h h' st k=>by
  obtain ⟨o,e,c,d⟩:=st
  exact ⟨o,k it (by simp) o e,c,d⟩
 item:=by
  intro X hP hw hK hc i pins s σ H E I hf st hg
  subst hP hw hK
  obtain ⟨f0,f1,f2,f3,f4,f5⟩:=hf it (by simp)
  have fin:∀ (v:Value) (h':Heap) (tk:Nat),SignAt z i v->h'.IsStrIter it ty z t (i+1)->(∀ b o,b∉[it]->s.heap.get? b=some o->h'.get? b=some o) ->
    ∃ u,some v=some u/\wpAny (model X.prog X.w) X.A (letOwnedTupleGo tg (.ref it) u) (fun _ s2=>∃ x H',Inv X pins σ H' s2/\RelV x u/\(Its z).yld i H x H'/\s2.heap.IsStrIter it ty z t (i+1)/\∀ b∈[it],H' b=none) E { s with heap:=h',toks:=tk }:=fun v h' tk hv st' kk=>by
   obtain ⟨c,u,hcs,rfl⟩:=hv
   have I1:Inv X pins σ H { s with heap:=h',toks:=tk }:=I.turned (fun b o hb e=>kk b o (by simpa using hb) e) f0 f1 f3 f4 f5
   exact ⟨_,rfl,Vj ⟨.str ⟨#[c]⟩,H,I1,⟨u,rfl⟩,⟨rfl,c,hcs,rfl⟩,st',fun b hb=>(hf b hb).1⟩⟩
  rcases hty with rfl | rfl
  ·exact (Walks.strAscii (prog:=X.prog) (w:=X.w) (I.ok.hd hc) it z t).item i s _ _ hg st fin
  ·exact (Walks.strWide (prog:=X.prog) (w:=X.w) (I.ok.hd hc) it z t).item i s _ _ hg st fin
 done:=by
  intro X hP hw hK hc i pins s σ H E I hf st hg
  subst hP hw hK
  obtain ⟨f0,f1,f2,f3,f4,f5⟩:=hf it (by simp)
  have hz:z.cps[i]?=none:=Array.getElem?_eq_none hg
  rcases hty with rfl | rfl
  ·exact wpAny_pyNext_ascii_end (I.ok.hd hc) st hz fun h' he'=>⟨rfl,I.turned (t':=s.toks) (fun b o hb e=>he' b o hb e) f0 f1 f3 f4 f5⟩
  ·exact wpAny_pyNext_wide_end (I.ok.hd hc) st hz fun h' he'=>⟨rfl,I.turned (t':=s.toks) (fun b o hb e=>he' b o hb e) f0 f1 f3 f4 f5⟩
 self:=fun _ _ _ _ _ st h=>by
  rcases hty with rfl | rfl
  ·exact wpAny_pyIter_striter_ascii st h
  ·exact wpAny_pyIter_striter_wide st h
end
section
variable {K:Fg} {a:Addr} {xs:List V} {g:TG} {te:TE} {Q:VK} {τ0:St} {H1:Hp}
end
section
variable {X:Cx} (K:Fg)
end
theorem Gx {X:Cx}:MtM X "list.pop" (fun x vs H Q=>∃ l e z,x=.ref l/\vs=[]/\H l=some (.lst (e++[z]))/\Q z (upd H l (.lst e))):=by
 intro pins s σ H x vs v us Q I rx rv h
 obtain ⟨l,e,z,rfl,rfl,hH,q⟩:=h
 refine U6 pins s σ H _ _ v us Q I rx rv ⟨l,e++[z],z,rfl,rfl,hH,by simp,?_⟩
 rw [List.dropLast_concat]
 exact q
structure FnAt (P:Program) (w:World) (K:Fg) (mg:Str->Option Value) (base:Heap) (CX:CXT) (x:Str) (k:Nat) (ps:List Str) (sp:Sp):Prop where
 ex:∃ f fd,DL P w K mg base CX k f fd ps sp/\mg x=some (.ref f)/\PySem.W.keepIn K (.ref f)=true/\Binds K fd ps []
section
variable {X:Cx} {CX:CXT} {k:Nat} {ps:List Str} {sp:Sp} {E:XK} {x:Str} {p pos:Pos} {e:Expr} {es:List Expr} {t:TA}
end
section
variable {X:Cx} {x:Str} {pos:Pos}
theorem Ws {i:Int} (h:∃ t,X.mg x=some (.int i t)) (hg:Gl X x:=by rfl) (hd:(x == ("__debug__":Str))=false:=by decide):PE X (.Name x pos) (tC (.int i)):=by
 obtain ⟨t,h⟩:=h
 exact Ni hg h ⟨t,rfl⟩ hd
theorem Wr {z:Str} (h:∃ t,X.mg x=some (.str z t)) (hg:Gl X x:=by rfl) (hd:(x == ("__debug__":Str))=false:=by decide):PE X (.Name x pos) (tC (.str z)):=by
 obtain ⟨t,h⟩:=h
 exact Ni hg h ⟨t,rfl⟩ hd
theorem NV {k:Key} {v:Value} (h:Iy k v=true):RelV (kV k) v:=by
 rcases Bt h with ⟨i,t,rfl,rfl⟩ | ⟨x,t,rfl,rfl⟩
 ·exact ⟨t,rfl⟩
 ·exact ⟨t,rfl⟩
theorem ML {kvs:List (Key×V)} {vs:List (Key×Value)} {acc:Array Value} (r:KV kvs vs) (h:ItemsOf (fun i v=>∃ k x,vs[i]?=some (k,x)/\Iy k v=true) acc vs.length):Vals (kvs.map fun kv=>kV kv.1) acc.toList:=by
 obtain ⟨h1,h2⟩:=h
 have key:∀ (kvs:List (Key×V)) (vs:List (Key×Value)) (l:List Value),KV kvs vs->l.length=vs.length->(∀ (j:Nat) (v:Value),l[j]?=some v->∃ k x,vs[j]?=some (k,x)/\Iy k v=true)->Vals (kvs.map fun kv=>kV kv.1) l:=by
  intro kvs
  induction kvs with
  | nil =>
   intro vs l r hl _
   cases r
   have:l=[]:=List.eq_nil_of_length_eq_zero (by simpa using hl)
   subst this
   exact .nil
  | cons p kvs ih =>
   intro vs l r hl hh
   cases r with
   | @cons _ q _ vr e t =>
    cases l with
    | nil=>simp at hl
    | cons v l =>
     obtain ⟨k,x,e1,e2⟩:=hh 0 v rfl
     have e1':q=(k,x):=Option.some.inj e1
     refine .cons ?_ (ih vr l t (by simpa using hl) fun j w hw=>?_)
     ·have:p.1=k:=by rw [e.1,e1']
      show RelV (kV p.1) v
      rw [this]
      exact NV e2
     ·exact hh (j+1) w hw
 exact key kvs vs acc.toList r (by rw [Array.length_toList];exact h1) fun j v e=>h2 j v (by rw [<- Array.getElem?_toList];exact e)
end
structure KR (P:Program) (w:World) (K:Fg) (mg:Str->Option Value) (base:Heap) (CX:CXT) (C:Addr) (m:Str) (k:Nat) (ps:List Str) (sp:Sp):Prop where
 cl:Cls K C
 ex:∃ f fd,DL P w K mg base CX k f fd ps sp/\Meth K C m f/\Binds K fd ps []
structure V3 (P:Program) (w:World) (K:Fg) (mg:Str->Option Value) (base:Heap) (CX:CXT) (x:Str) (C:Addr) (k:Nat) (ps:List Str) (sp:Sp):Prop where
 at_:mg x=some (.ref C)
 ex:∃ f fd,DL P w K mg base CX k f fd ps sp/\Mk K C f/\Binds K fd ps []
section
variable {X:Cx} {CX:CXT} {k:Nat} {C:Addr} {ps:List Str} {sp:Sp} {E:XK} {x m:Str} {p pos apos:Pos} {e o:Expr} {es:List Expr} {ta:TE} {t:TA}
theorem UO {pl:Sem Bool} (G:KR X.prog X.w X.K X.mg X.base CX C m k ps sp) (hr:Eh k X.A) (hx:Passes CX X E) (he:PE X o ta)
  (ht:eval (.Call (.Attribute o m apos) [] [] pos) X.env=(do
   let ov <- eval o X.env
   standAt apos.atName
   let (f,first) <- holding [ov] (getMethod ov m pl)
   callWith pos f first (backTo pos (starEach [] X.env)) (backToKw pos (keywordEach [] X.env))):=by rfl) :
  PE X (.Call (.Attribute o m apos) [] [] pos) (R9 C m sp [] E ta VS):=by
 obtain ⟨f,fd,F,hm,hb⟩:=G.ex
 exact P4 he G.cl hm F hr hb .nil hx ht
theorem Wo (G:V3 X.prog X.w X.K X.mg X.base CX x C k ps sp) (hr:Eh (k+1) X.A) (hx:Passes CX X E) (ha:PA X (e :: es) t) (hg:Gl X x:=by rfl) (hdb:(x == ("__debug__":Str))=false:=by decide)
  (he:starEach (e :: es) X.env=(false,eval e X.env) :: starEach es X.env:=by rfl) (hpl:(backTo pos (starEach es X.env)).any (·.1)=false:=by rfl):PE X (.Call (.Name x p) (e :: es) [] pos) (Up C sp [] E t):=by
 obtain ⟨f,fd,F,M,hb⟩:=G.ex
 exact Ss M F hr hg G.at_ hb .nil hx ha hdb he hpl
end
def orR (r r':R2):R2:=fun x y H Q=>r x y H Q∨r' x y H Q
section
variable {X:Cx}
theorem OpR.orR {f:Value->Value->Sem Value} {r r':R2} (h:OpR X f r) (h':OpR X f r'):OpR X f (orR r r'):=fun pins s σ H x y v u Q I rx ry q=>q.elim (h pins s σ H x y v u Q I rx ry) (h' pins s σ H x y v u Q I rx ry)
theorem IxR.orR {r r':R2} (h:IxR X r) (h':IxR X r'):IxR X (L2.orR r r'):=fun value slice pins s σ H x y v u Q I rx ry q e=>q.elim (fun q=>h value slice pins s σ H x y v u Q I rx ry q e) (fun q=>h' value slice pins s σ H x y v u Q I rx ry q e)
def UB:R2:=fun x y H Q=>∃ a v,x=.ref a/\MJ H a y (some v)/\Q v H
def Wj (neg:Bool):R2:=fun y x H Q=>∃ a o,x=.ref a/\MJ H a y o/\Q (.bl (if neg then !o.isSome else o.isSome)) H
theorem Rx (hu:X.A.units+1 < cLine):OpR X (compareOp .In) (Wj false):=by
 intro pins s σ H y x v u Q I ry rx h
 obtain ⟨a,o,rfl,g,q⟩:=h
 obtain rfl:u=Value.ref a:=rx
 exact XI hu I g ry fun s3 I3=>⟨.bl o.isSome,H,I3,rfl,q⟩
theorem Np (hu:X.A.units+1 < cLine):OpR X (compareOp .NotIn) (Wj true):=by
 intro pins s σ H y x v u Q I ry rx h
 obtain ⟨a,o,rfl,g,q⟩:=h
 obtain rfl:u=Value.ref a:=rx
 exact TH hu I g ry fun s3 I3=>⟨.bl (!o.isSome),H,I3,rfl,q⟩
theorem S6 (hu:X.A.units+1 < cLine):IxR X UB:=by
 intro value slice pins s σ H x y v u Q I rx ry h hs
 obtain ⟨a,w,rfl,g,q⟩:=h
 obtain rfl:v=Value.ref a:=rx
 have hT:=KC I g
 have h₂:wpAny (model X.prog X.w) X.A (getItem (.ref a) u) (EP X pins σ Q) X.xe s:=OM hu I g ry fun w' s3 I3 rw'=>⟨w,H,I3,rw',q⟩
 unfold subscriptTail
 refine wpAny_bind ?_
 rw [getitemInPython_of_ne hT.not_modules]
 refine wpAny_bind (wpAny_specialOf hT PySem.F.slot_dict_getitem.lookup ?_)
 have fin:wpAny (model X.prog X.w) X.A (subscripted slice false (.ref a) u) (fun r s₃=>wpAny (model X.prog X.w) X.A (letTemporaryGo value (.ref a) r >>= fun _=>pure r) (EP X pins σ Q) X.xe s₃) X.xe s:=by
  rw [hs]
  exact wpAny_operating (wpAny_mono h₂ (fun r s₃ h₃=>wpAny_bind (wpAny_letTemporaryGo (wpAny_pure h₃))) fun _ _ x=>x)
 first
  | exact wpAny_pure (wpAny_bind fin)
  | exact wpAny_bind (wpAny_pure (wpAny_bind fin))
  | exact wpAny_bind fin
def Sw (r r':R0):R0:=fun o i v H Q=>r o i v H Q∨r' o i v H Q
theorem Q4.orR {r r':R0} (h:Q4 X r) (h':Q4 X r'):Q4 X (Sw r r'):=fun pins s σ H o i v ov iv u Q I r1 r2 r3 q=>q.elim (h pins s σ H o i v ov iv u Q I r1 r2 r3) (h' pins s σ H o i v ov iv u Q I r1 r2 r3)
def PU:R0:=fun o i v H Q=>∃ a H4,o=.ref a/\Ph H a i v H4/\Q H4
theorem set_dict (hu:X.A.units+1 < cLine):Q4 X PU:=by
 intro pins s σ H o i v ov iv u Q I ro ri rv h
 obtain ⟨a,H4,rfl,g,q⟩:=h
 obtain rfl:ov=Value.ref a:=ro
 exact JD hu I g ri rv fun s4 I4=>⟨H4,I4,q⟩
def Ru (r r':List V->Hp->VK->Prop):List V->Hp->VK->Prop:=fun vs H Q=>r vs H Q∨r' vs H Q
theorem Dj.orR {f:Value} {r r':List V->Hp->VK->Prop} (h:Dj X f r) (h':Dj X f r'):Dj X f (Ru r r'):=fun pins s σ H xs us Q I rx q=>q.elim (h pins s σ H xs us Q I rx) (h' pins s σ H xs us Q I rx)
def XD (K:Fg) (tl:TE):TI:=fun σ H R=>tl σ H fun x H1=>(∃ a,x=.ref a/\(∃ xs,SqL K H1 a xs)/\R (Itl K a) H1)∨(∃ a,x=.ref a/\(∃ xs,SqT K H1 a xs)/\R (Itt K a) H1)∨(∃ z,x=.str z/\R (Its z) H1)
variable {tg:Expr}
theorem UJ {l:Expr} {tl:TE} (hl:PE X l tl):PI X tg l (XD X.K tl):=by
 intro pins s σ H R I h
 have key:∀ (x:V) (H1:Hp) (v:Value) (s1:Shared),Inv X pins σ H1 s1->RelV x v->((∃ a,x=.ref a/\(∃ xs,SqL X.K H1 a xs)/\R (Itl X.K a) H1)∨(∃ a,x=.ref a/\(∃ xs,SqT X.K H1 a xs)/\R (Itt X.K a) H1)∨(∃ z,x=.str z/\R (Its z) H1)) ->
   wpAny (model X.prog X.w) X.A (pyIter v) (PIE X pins σ tg R) X.xe s1:=by
  intro x H1 v s1 I1 r1 q1
  rcases q1 with ⟨a,e,⟨xs,hq⟩,q⟩ | ⟨a,e,⟨xs,hq⟩,q⟩ | ⟨z,e,q⟩
  ·subst e
   cases r1
   obtain ⟨its,rv,p,hz⟩:=I1.list hq
   refine wpAny_pyIter_list p.isList ?_
   refine ⟨s1.heap.objs.size,[s1.heap.objs.size],_,_,H1,rfl,I1.kept (t':=s1.toks) fun b o e=>Heap.get?_push_of_some _ e,IY a _,⟨_,Heap.get?_push_size _ rfl,rfl,rfl⟩,fun b hb=>?_,q⟩
   have e:b=s1.heap.objs.size:=by simpa using hb
   subst e
   exact I1.Tn (Nat.le_refl _) (I1.hok.fresh (Nat.le_refl _))
  ·subst e
   cases r1
   obtain ⟨its,rv,p,hz⟩:=I1.tuple hq
   refine wpAny_pyIter_tuple (show s1.heap.IsTuple a its.toArray from p) ?_
   refine ⟨s1.heap.objs.size,[s1.heap.objs.size],_,_,H1,rfl,I1.kept (t':=s1.toks) fun b o e=>Heap.get?_push_of_some _ e,LY a _,⟨_,Heap.get?_push_size _ rfl,rfl,rfl⟩,fun b hb=>?_,q⟩
   have e:b=s1.heap.objs.size:=by simpa using hb
   subst e
   exact I1.Tn (Nat.le_refl _) (I1.hok.fresh (Nat.le_refl _))
  ·subst e
   obtain ⟨t,rfl⟩:=r1
   have go:∀ (ty:String),(ty="str_ascii_iterator"∨ty="str_iterator")->PIE X pins σ tg R (.ref s1.heap.objs.size) { s1 with heap:=s1.heap.push { cls:=.type ty,data:=.fields #[.str z t,.int 0 0] } }:=fun ty hty=>by
    refine ⟨s1.heap.objs.size,[s1.heap.objs.size],_,_,H1,rfl,I1.kept (t':=s1.toks) fun b o e=>Heap.get?_push_of_some _ e,Pm _ ty z t hty,⟨_,Heap.get?_push_size _ rfl,rfl,rfl⟩,fun b hb=>?_,q⟩
    have e:b=s1.heap.objs.size:=by simpa using hb
    subst e
    exact I1.Tn (Nat.le_refl _) (I1.hok.fresh (Nat.le_refl _))
   cases ha:z.cps.all (· < 128)
   ·exact wpAny_pyIter_wide ha (go _ (.inr rfl))
   ·exact wpAny_pyIter_ascii ha (go _ (.inl rfl))
 exact thn (hl pins s σ H _ I h) fun v s1 ⟨x,H1,I1,r1,q1⟩=>key x H1 v s1 I1 r1 q1
end
end L2
namespace PySem
namespace Zp
section
variable {prog:Program} {w:World} {A:Around} {E:Value->Shared->Prop} {s:Shared}
end
section
variable {prog:Program} {w:World} {A:Around} {E:Value->Shared->Prop} {s:Shared} {z TI TO i1 i2 l1 l2:Addr} {xs ys:Array Value} {S1 S2:Nat->Heap->Prop}
end
end Zp
end PySem
namespace PySem
namespace Zp
section
variable {prog:Program} {w:World} {A:Around} {E:Value->Shared->Prop} {s:Shared} {z TI TO i1 i2 l1 l2:Addr} {xs ys:Array Value} {S1 S2:Nat->Heap->Prop}
end
end Zp
end PySem
namespace L2
open PySem PySem.Spec PyProof.Rows
section
variable {X:Cx} {pins:List (Addr×Obj)} {σ:St} {H:Hp} {s:Shared} {a:Addr} {xs ys:List V} {b:Bool}
end
end L2
namespace PySem
namespace Zp
end Zp
end PySem
namespace L2
open PySem PySem.Spec PyProof.Rows
end L2
namespace PySem
end PySem
namespace L2
open PySem PySem.Spec PyProof.Rows
section
variable {X:Cx}
def Rg (K:Fg):R2:=fun x y H Q=>∃ a b ys,x=.ref a/\y=.ref b/\SqT K H a []/\SqT K H b ys/\Q (.ref b) H
theorem P7:OpR X (binaryOp .Add) (Rg X.K):=by
 intro pins s σ H x y v u Q I rx ry h
 obtain ⟨a,b,ys,rfl,rfl,ha,hb,q⟩:=h
 cases rx
 cases ry
 obtain ⟨its,r1,⟨⟨cls,dd,data,sl⟩,ho,hc,n,hd⟩,_⟩:=I.tuple ha
 obtain ⟨its2,r2,⟨⟨cls2,dd2,data2,sl2⟩,ho2,hc2,n2,hd2⟩,_⟩:=I.tuple hb
 simp only at hc hd hc2 hd2
 subst hc hd hc2 hd2
 cases r1
 exact concat_meets ⟨_,ho,rfl⟩ ⟨_,ho2,rfl⟩ noFill_tuple_add seq_tuple_add PySem.F.slot_tuple_add PySem.F.entry_tuple_add (PySem.F.args_tuple_add_2 _ _) (tuple_addW0 a b _ _ n n2 dd dd2 sl sl2 (by simp)) ⟨ho,ho2,⟨.ref b,H,I,rfl,q⟩⟩
theorem Ha (T:String):Dj X (.builtin "isinstance") (fun xs H Q=>∃ x t b,xs=[x,.ty T]/\LQ X.K H x t/\PySem.W.kitOne X.K t (.type T)=some b/\Q (.bl b) H):=by
 intro pins s σ H xs us Q I r h
 obtain ⟨x,t,b,rfl,ty,e,q⟩:=h
 cases r with
 | cons r1 rr =>
  cases rr with
  | cons r2 rr =>
   cases rr
   obtain rfl:_=Value.type T:=r2
   exact N0 I r1 ty e fun tk=>⟨.bl b,H,I.tok tk,rfl,q⟩
end
end L2
namespace PySem
namespace Zp
section
variable {prog:Program} {w:World} {A:Around} {E:Value->Shared->Prop} {s:Shared} {z TI TO i1 i2 l1 l2 ad:Addr} {xs ys:Array Value} {S1 S2:Nat->Heap->Prop}
end
section
variable {prog:Program} {w:World} {A:Around} {E:Value->Shared->Prop} {s:Shared} {z TI TO i1 i2 l1 l2 ad lo S:Addr} {xs ys:Array Value} {b1 b2:Bool} {R:Result->Shared->Prop}
end
end Zp
end PySem
namespace PySem
namespace F
end F
namespace Zp
section
variable {prog:Program} {w:World} {A:Around} {E:Value->Shared->Prop} {s:Shared} {z TI TO i1 i2 l1 l2 S:Addr} {xs ys:Array Value} {b1 b2:Bool} {R:Result->Shared->Prop}
end
end Zp
end PySem
namespace L2
open PySem PySem.Spec PyProof.Rows
section
variable {X:Cx} {pins:List (Addr×Obj)} {σ:St} {H H':Hp} {s:Shared}
end
end L2
namespace PySem
namespace F
end F
end PySem
namespace PySem
open PyProof.Rows (IsTup)
namespace Rv
section
variable {prog:Program} {w:World} {A:Around} {E:Value->Shared->Prop} {s:Shared}
end
section
variable {prog:Program} {w:World} {A:Around} {E:Value->Shared->Prop} {s:Shared}
end
end Rv
end PySem
namespace PySem
open PyProof.Rows (IsTup)
namespace Rv
section
variable {prog:Program} {w:World} {A:Around} {E:Value->Shared->Prop} {s:Shared}
end
end Rv
end PySem
namespace L2
open PySem PySem.Spec PyProof.Rows
end L2
namespace HT
open PySem PyProof.Rows
section
variable {prog:Program} {w:World} {A:Around} {E:Value->Shared->Prop} {s:Shared}
theorem Fp {t sl:Addr} {items:Array Value} {vl vu:Value} {lo hi:Option Int} {Q:Value->Shared->Prop} (ht:IsTup s.heap t items) (hs:s.heap.IsSliceOf sl vl vu .none) (pl:IsPart vl lo) (pu:IsPart vu hi)
  (hw:sIx items.size 0 lo=0/\sIx items.size items.size hi=items.size) (h:Q (.ref t) s):wpAny (model prog w) A (getItem (.ref t) (.ref sl)) Q E s:=by
 obtain ⟨os,hos,hcs,hds⟩:=id hs
 have hTs:s.TypeIs (.ref sl) "slice":=⟨os,hos,hcs⟩
 unfold getItem
 try with_reducible refine wpAny_holding ?_
 first | refine wpAny_bind (wpAny_pure ?_) | skip
 refine wpAny_bind (wpAny_sequenceKey ht.typeIs (by decide) ?_)
 refine wpAny_bind (wpAny_callSpecial?_slot (name:=Str.ofString "__getitem__") ht.typeIs PyProof.Rows.slot_tuple_getitem
  (wpAny_call_entry PyProof.Rows.slot_tuple_getitem ht.typeIs entry_tuple_getitem ?_ (args_tuple_getitem _ _)))
 show wpAny _ _ (Builtin.Tuple.tupleItemsOf (.ref t) >>= _) _ _ s
 refine wpAny_bind (tupleItemsOf_ ht ?_)
 refine wpAny_bind (wpAny_typeOf hTs ?_)
 rw [if_pos (by decide)]
 refine wpAny_bind (DW hs pl pu ?_)
 have hyes:(((sIx items.size 0 lo:Nat):Int) == 0 && (1:Int) == 1 && (sIx items.size items.size hi - sIx items.size 0 lo) == items.size)=true:=by
  rw [hw.1,hw.2]
  simp
 show wpAny _ _ (if (((sIx items.size 0 lo:Nat):Int) == 0 && (1:Int) == 1 && (sIx items.size items.size hi - sIx items.size 0 lo) == items.size)=true then _ else _) _ _ s
 rw [if_pos hyes]
 refine wpAny_bind ?_
 unfold Builtin.Tuple.tupleIsExact
 refine wpAny_bind (wpAny_typeOf ht.typeIs (wpAny_pure ?_))
 rw [if_pos (by decide)]
 exact wpAny_bind (wpAny_rule (wpAny_pure ⟨_,rfl,wpAny_pure h⟩))
end
end HT
namespace L2
open PySem PySem.Spec PyProof.Rows
def Xv (K:Fg):V->Option Int->Option Int->Hp->VK->Prop:=fun x lo hi H Q=>∃ a xs,x=.ref a/\SqT K H a xs/\(HT.sIx xs.length 0 lo=0/\HT.sIx xs.length xs.length hi=xs.length)/\Q (.ref a) H
theorem Uw {X:Cx}:SlR X (Xv X.K):=by
 intro pins s σ H x v vl vu lo hi sl Q I rx hs pl pu h
 obtain ⟨a,xs,rfl,hx,hw,q⟩:=h
 cases rx
 obtain ⟨its,r,ht,hz⟩:=I.tuple hx
 have hlen:its.toArray.size=xs.length:=by rw [List.size_toArray];exact r.length.symm
 refine ⟨"tuple",_,PyProof.Rows.slot_tuple_getitem.lookup,ht.typeIs,?_⟩
 exact HT.Fp ht hs pl pu (by rw [hlen];exact hw) ⟨.ref a,H,I,rfl,q⟩
end L2
namespace L2
open PySem PySem.Spec PySem.W PyProof.Rows
def CD:List Int->Nat
 | []=>0
 | n :: ns=>Builtin.Int.intBits n+1+CD ns
theorem Hb:∀ ns:List Int,WData.weightAll (ns.map WData.int)=CD ns
 | []=>by simp [WData.weightAll,CD]
 | n :: ns=>by
  simp only [List.map_cons,WData.weightAll,CD,WData.weight,Hb ns]
  rfl
end L2
namespace L2
open PySem PySem.Spec
section
variable {prog:Program} {w:World} {K:Type} [DecidableEq K] {knd:KeyKind prog w K} {A:Around} {E:Value->Shared->Prop} {s:Shared}
end
section
variable {X:Cx} {pins:List (Addr×Obj)} {σ:St} {H:Hp} {s:Shared} {a:Addr} {A:Around} {E:Value->Shared->Prop}
variable {o e f:Expr} {td ty tx:TE} {apos cpos:Pos}
end
section
variable {X:Cx} {pins:List (Addr×Obj)} {σ:St} {H:Hp} {s:Shared} {a:Addr} {o:Obj} {kvs:List (Key×V)}
end
section
variable {X:Cx} {tg:Expr}
end
section
variable {X:Cx}
theorem GZ (hc:X.calm=true):Dj X (.type "list") (fun xs H Q=>∃ p kvs,xs=[.ref p]/\Rd H p (.dK kvs)/\∀ l,H l=none->Q (.ref l) (upd H l (.lst (kvs.map fun kv=>kV kv.1)))):=by
 intro pins s σ H xs us Q I r h
 obtain ⟨p,kvs,rfl,hp,q⟩:=h
 obtain ⟨u,rfl,rx⟩:=vals1 r
 cases rx
 obtain ⟨z,hd,vs,rel,dd⟩:=Kz I.hok hp
 obtain ⟨ep,da⟩:=dd.dictAt
 have hlen:kvs.length=vs.length:=Paired.length rel
 refine PySem.W.kdl_call (PySem.W.kdl_dict (ep:=ep) hd) (I.ok.hd hc) da (by rw [<- hlen];exact z) fun h' tk acc c' kp e hacc=>?_
 refine ⟨.ref s.heap.objs.size,_,I.laid (t':=tk) kp (Nat.le_refl _) (show Cg X.prog X.w _ h' _ (.lst (kvs.map fun kv=>kV kv.1)) from ⟨by rw [List.length_map];exact z,acc.toList,c',ML rel hacc,by simpa using e⟩),rfl,q _ (I.hok.fresh (Nat.le_refl _))⟩
theorem ME:Dj X (.builtin "len") (fun xs H Q=>∃ a kvs,xs=[V.ref a]/\Rd H a (.dK kvs)/\Q (.int kvs.length) H):=by
 intro pins s σ H xs us Q I r h
 obtain ⟨a,kvs,rfl,ha,q⟩:=h
 obtain ⟨u,rfl,ru⟩:=vals1 r
 cases ru
 exact WZ I ha fun t s' I'=>⟨.int kvs.length,H,I',⟨t,rfl⟩,q⟩
end
end L2
namespace PySem
open PyProof.Rows
namespace So
section
variable {prog:Program} {w:World} {A:Around} {E:Value->Shared->Prop} {s:Shared}
end
end So
end PySem
namespace PySem
open PyProof.Rows
namespace So
section
variable {prog:Program} {w:World} {A:Around} {E:Value->Shared->Prop} {s:Shared}
end
end So
end PySem
namespace PySem
open PyProof.Rows
namespace So
section
variable {prog:Program} {w:World} {A:Around} {E:Value->Shared->Prop} {s:Shared}
end
end So
end PySem
namespace L2
open PySem PySem.Spec
section
variable {X:Cx} {pins:List (Addr×Obj)} {σ:St} {H:Hp} {s:Shared}
end
end L2
namespace PySem
open PyProof.Rows (IsTup)
namespace Rv
section
variable {prog:Program} {w:World} {A:Around} {E:Value->Shared->Prop} {s:Shared}
end
end Rv
end PySem
namespace L2
open PySem PySem.Spec PyProof.Rows
end L2
namespace L2
open PySem PySem.Spec
section
variable {X:Cx} {tg:Expr}
end
end L2
namespace L2
open PySem PySem.Spec PyProof.Rows PySem.W
theorem NN {h:Heap}:∀ (K:Fg),(K.map (·.1)).map h.get?=K.map (fun p=>some p.2)->K.In h
 | [],_=>fun a o e=>by cases e
 | p :: K,hk=>fun a o e=>by
  simp only [List.map_cons,List.cons.injEq] at hk
  rw [List.lookup_cons] at e
  by_cases q:a=p.1
  ·subst q
   rw [show (p.1 == p.1)=true by simp] at e
   cases e
   exact hk.1
  ·rw [show (a == p.1)=false by simpa using q] at e
   exact NN K hk.2 a o e
end L2
namespace L2
open PySem PySem.Spec PyProof.Rows
def ExT (h:Heap) (vs:Array Value) (a:Addr) (fl:Value):Option Addr->Prop
 | none=>vs[1]?=some .none
 | some T=>vs[1]?=some (.ref T)/\T≠a/\∃ oT ts,h.get? T=some oT/\oT.data=.fields ts/\ts[3]?=some fl
def Q5 (h:Heap) (a:Addr) (c:Value) (T:Option Addr) (fl:Value):Prop:=∃ oe vs,h.get? a=some oe/\oe.cls=c/\oe.dict=none/\oe.data=.fields vs/\ExT h vs a fl T
theorem Obj.OG (o:Obj) (f:Array Value->Array Value):(o.mapFields f).dict=o.dict:=by
 obtain ⟨_,_,dt,_⟩:=o
 cases dt <;> rfl
section
variable {M:Model} {A:Around} {E:Value->Shared->Prop} {s:Shared}
theorem LB {base:Heap} {env:Env} {outer:List Env} {L e:Addr} {oe:Obj} {vs:Array Value} {head:Value} {hadNext:Bool} {Q:Unit->Shared->Prop}
  (hfr:A.frames=some (env :: outer)) (hl:s.heap.FunFrames base (env :: outer)) (hf:env.frame=some L) (he:s.heap.get? e=some oe) (hdi:oe.dict=none) (hd:oe.data=.fields vs) (hsz:1 < vs.size)
  (h:∀ h' T,s.heap.objs.size<=T->(∀ b o,s.heap.get? b=some o->b∉frs (env :: outer)->b≠e->h'.get? b=some o)->(∀ b o,s.heap.get? b=some o->b∈frs (env :: outer)->∃ sl,h'.get? b=some { o with slots:=sl }) ->
   Q5 h' e oe.cls (some T) (rawInt L)->Q () { s with heap:=h' }) :
  wpAny M A (do let a <- frameOf env;let pl <- entryPlaceOf L hadNext;let b <- EntryCells.newEntry head a .none (rawInt L) .none pl;setField (.ref e) 1 b) Q E s:=by
 have nfe:e∉(env :: outer).filterMap (·.frame):=fun hm=>by
  obtain ⟨_,o,ho,hnf⟩:=hl.mem hm
  rw [he] at ho;injection ho with ho;subst ho;exact hnf vs hd
 refine wpAny_bind (wpAny_frameOf_fun hfr hl hf fun h₁ hs₁=>?_)
 refine wpAny_bind (wpAny_entryPlaceOf fun pl hpl=>?_)
 unfold EntryCells.newEntry newFields
 refine wpAny_bind (wpAny_newObj_type ?_ (hpl.sizeOk5 _ _ _ _ _))
 have he₁:h₁.get? e=some oe:=(hs₁.2.1 e nfe).trans he
 have he₂:=Heap.get?_push_of_some (h:=h₁) { cls:=.type "traceback",dict:=none,data:=.fields ([head,.ref L,.none,rawInt L,.none]++(if pl.isEmpty then List.replicate 6 Value.none else pl)).toArray } he₁
 refine wpAny_setField he₂ hd hsz ?_
 have hTe:h₁.objs.size≠e:=Nat.ne_of_gt (Heap.lt_size he₁)
 have hd₃:=Obj.data_mapFields hd (·.setIfInBounds 1 (Value.ref h₁.objs.size))
 have he₃:=Heap.get?_update_self (Obj.mapFields (·.setIfInBounds 1 (Value.ref h₁.objs.size))) he₂ (Obj.isFreed_of_fields hd₃)
 have hT₃:=(Heap.get?_update_other (h₁.push { cls:=.type "traceback",dict:=none,data:=.fields ([head,.ref L,.none,rawInt L,.none]++(if pl.isEmpty then List.replicate 6 Value.none else pl)).toArray })
  (Obj.mapFields (·.setIfInBounds 1 (Value.ref h₁.objs.size))) (Ne.symm hTe)).trans (Heap.get?_push_size h₁ rfl)
 have keep:∀ b o,b≠e->h₁.get? b=some o ->
   ((h₁.push { cls:=.type "traceback",dict:=none,data:=.fields ([head,.ref L,.none,rawInt L,.none]++(if pl.isEmpty then List.replicate 6 Value.none else pl)).toArray }).update e (Obj.mapFields (·.setIfInBounds 1 (Value.ref h₁.objs.size)))).get? b=some o:=fun b o hbe hb=>by
  rw [Heap.get?_update_other _ _ (Ne.symm hbe)]
  exact Heap.get?_push_of_some _ hb
 refine h _ h₁.objs.size (by rw [hs₁.1];exact Nat.le_refl _) (fun b o hb hn hbe=>keep b o hbe ((hs₁.2.1 b hn).trans hb)) (fun b o hb hn=>?_) ?_
 ·obtain ⟨sl,q⟩:=hs₁.2.2 b o hb
  exact ⟨sl,keep b _ (fun z=>nfe (by rw [<- z];exact hn)) q⟩
 ·exact ⟨_,_,he₃,Obj.cls_mapFields _ _,(Obj.OG _ _).trans hdi,hd₃,by simp [hsz],hTe,_,_,hT₃,rfl,by first | (simp;done) | (rcases hpl with rfl | ⟨_,_,_,_,_,_,_,rfl⟩ <;> simp)⟩
end
structure Pe (X:Cx):Prop where
 pn:X.pn=[]
 ex:X.ex=[]
 st:X.stack=X.env :: X.outer
 fr:X.env.frame=some X.env.locals
theorem Cg.get {P:Program} {w:World} {H:Hp} {h:Heap} {a:Addr} {o:HO} (x:Cg P w H h a o):∃ u,h.get? a=some u:=by
 cases o with
 | lst xs=>obtain ⟨_,_,_,_,e⟩:=x;exact ⟨_,e⟩
 | tup xs=>obtain ⟨_,_,_,ob,e,_⟩:=x;exact ⟨_,e⟩
 | dK kvs=>obtain ⟨_,_,_,_,o,_,_,e,_⟩:=x;exact ⟨_,e⟩
 | dT kvs=>obtain ⟨_,_,_,_,o,_,_,e,_⟩:=x;exact ⟨_,e⟩
 | set S n=>obtain ⟨o,_,_,_,e,_⟩:=x;exact ⟨_,e⟩
 | ins C dx fs=>obtain ⟨_,_,_,e,_⟩:=x;exact ⟨_,e⟩
 | own y=>obtain ⟨_,e⟩:=x;exact ⟨_,e⟩
 | xd fs=>obtain ⟨_,⟨_,_,_,e,_⟩,_⟩:=x;exact ⟨_,e⟩
 | rng lo hi=>obtain ⟨_,_,_,e⟩:=x;exact ⟨_,e⟩
 | frz ob u=>obtain ⟨e,_⟩:=x;exact ⟨_,e⟩
 | tbl ps=>exact ⟨_,(show h.get? a=some _ from x)⟩
 | met f y=>exact ⟨_,(show h.get? a=some _ from x)⟩
 | ext φ=>obtain ⟨_,⟨_,e⟩,_⟩:=x;exact ⟨_,e⟩
theorem HOk.none {P:Program} {w:World} {H:Hp} {h:Heap} {a:Addr} (x:HOk P w H h) (e:h.get? a=none):H a=none:=by
 cases q:H a with
 | none=>rfl
 | some u =>
  obtain ⟨o,z⟩:=(x a u q).get
  rw [e] at z;cases z
section
variable {X:Cx} {σ:St} {H:Hp} {s:Shared} {h':Heap} {ch:List Addr}
theorem Inv.kp {pins:List (Addr×Obj)} (I:Inv X pins σ H s) (hpn:X.pn=[]) (k:∀ b o,s.heap.get? b=some o->b∉frs X.stack->b∉ch->h'.get? b=some o) (sl:∀ b o,s.heap.get? b=some o->b∈frs X.stack->∃ sl,h'.get? b=some { o with slots:=sl })
  (nc:∀ b∈ch,X.s₀.heap.get? b=none/\H b=none/\∃ o vs,s.heap.get? b=some o/\o.data=.fields vs):Inv X [] σ H { s with heap:=h' }:=by
 have any:∀ b o,s.heap.get? b=some o->b∉ch->∃ l,h'.get? b=some { o with slots:=l }:=fun b o e n=>by
  by_cases hb:b∈frs X.stack
  ·exact sl b o e hb
  ·exact ⟨o.slots,k b o e hb n⟩
 have n0:∀ b o,X.s₀.heap.get? b=some o->b∉ch:=fun b o e z=>by
  have:=(nc b z).1
  rw [e] at this;cases this
 have nf:∀ b o,s.heap.get? b=some o->(∀ vs,o.data≠.fields vs)->b∉ch:=fun b o e hd z=>by
  obtain ⟨_,_,o',vs,e',d⟩:=nc b z
  rw [e] at e';cases e';exact hd vs d
 have cellK:∀ x c,X.env.cells.lookup x=some c->∀ v,s.heap.IsCell c v->h'.IsCell c v:=fun x c e v ⟨o,ho,hd⟩=>by
  obtain ⟨l,q⟩:=any c o ho (nf c o ho fun vs z=>by rw [hd] at z;cases z)
  exact ⟨_,q,hd⟩
 refine ⟨I.ok,I.os,I.bare,⟨fun b o e n hb hx=>?_,fun b o e n hb hx=>?_,I.base.free,fun b o e hx=>?_,I.base.tups,I.base.frzs,I.base.tbls⟩,?_,fun x c e=>?_,I.free,I.freeC,fun p hp=>?_,fun b u e=>?_,I.len⟩
 ·refine k b o (I.base.keep b o e n hb hx) (fun z=>?_) (n0 b o e)
  rcases List.mem_cons.mp (I.Ja b z) with z | z
  ·exact Nat.ne_of_lt (Nat.lt_of_lt_of_le (Heap.lt_size e) I.ok.above) z
  ·exact hb z
 ·obtain ⟨l,e1⟩:=I.base.slot b o e n hb hx
  obtain ⟨l',e2⟩:=any b _ e1 (n0 b o e)
  exact ⟨l',e2⟩
 ·obtain ⟨o',e1⟩:=I.base.there b o e hx
  obtain ⟨l',e2⟩:=any b _ e1 (n0 b o e)
  exact ⟨_,e2⟩
 ·obtain ⟨m,⟨o,es,ep,ho,hd,r⟩,hl⟩:=I.loc
  obtain ⟨l,q⟩:=any _ o ho (nf _ o ho fun vs z=>by rw [hd] at z;cases z)
  refine ⟨m,⟨_,es,ep,q,hd,r⟩,fun i x v e1 e2 e3=>?_⟩
  obtain ⟨u,rv,z⟩:=hl i x v e1 e2 e3
  refine ⟨u,rv,?_⟩
  rcases z with z | ⟨kk,c,e,z⟩
  ·exact .inl z
  ·exact .inr ⟨kk,c,e,cellK x c e _ z⟩
 ·obtain ⟨v,z⟩:=I.cell x c e
  exact ⟨v,cellK x c e v z⟩
 ·rw [hpn] at hp;cases hp
 ·have nn:∀ c,(c=b∨H c=some (.own b))->H c≠none:=fun c hc z=>by
   rcases hc with rfl | hc
   ·rw [z] at e;cases e
   ·rw [z] at hc;cases hc
  exact (I.hok b u e).Pw (fun c v hc q=>k c v q (fun z=>nn c hc (I.J5 c z)) fun z=>nn c hc (nc c z).2.1) (fun _ q=>q) fun _ _ q=>q
theorem Inv.new {pins:List (Addr×Obj)} {b:Addr} (I:Inv X pins σ H s) (D:X.ex=[]) (e:s.heap.get? b=none):X.s₀.heap.get? b=none/\H b=none:=by
 refine ⟨?_,I.hok.none e⟩
 cases q:X.s₀.heap.get? b with
 | none=>rfl
 | some o =>
  obtain ⟨o',z⟩:=I.base.there b o q (by rw [D];simp)
  rw [e] at z;cases z
end
section
variable {X:Cx} {σ:St} {H:Hp} {s:Shared} {a:Addr} {c fl:Value} {T:Option Addr} {M:Model} {A:Around} {E:Value->Shared->Prop} {Q:Unit->Shared->Prop}
def V2 (X:Cx) (H:Hp) (a:Addr) (T:Option Addr):Prop:=∀ b,b=a∨T=some b->X.s₀.heap.get? b=none/\H b=none
theorem Q5.there (e:Q5 s.heap a c T fl):∀ b,b=a∨T=some b->∃ o vs,s.heap.get? b=some o/\o.data=.fields vs:=by
 obtain ⟨oe,vs,h1,h2,h3,h4,h5⟩:=e
 intro b hb
 rcases hb with rfl | rfl
 ·exact ⟨oe,vs,h1,h4⟩
 ·obtain ⟨_,_,oT,ts,q1,q2,_⟩:=h5
  exact ⟨oT,ts,q1,q2⟩
theorem Ki (D:Pe X) (hfr:A.frames=some X.stack) (I:Inv X [] σ H s) (e:Q5 s.heap a c T fl) (hfl:fl=.none∨fl=rawInt X.env.locals) (nw:V2 X H a T)
  (h:∀ h' T',Q5 h' a c (some T') (rawInt X.env.locals)->V2 X H a (some T')->Inv X [] σ H { s with heap:=h' }->Q () { s with heap:=h' }):wpAny M A (noteFrame (.ref a) X.env) Q E s:=by
 have hl:=I.stack
 rw [D.st] at hfr hl
 obtain ⟨oe,vs,he,hcls,hdi,hd,ht⟩:=id e
 have th:=e.there
 subst hcls
 unfold noteFrame
 simp only [D.fr]
 cases T with
 | none =>
  refine wpAny_bind (wpAny_field he hd ht ?_)
  rw [if_neg (by decide)]
  refine LB hfr hl D.fr he hdi hd (Array.getElem?_eq_some_iff.mp ht).1 fun h' T' q1 q2 q3 q4=>?_
  have nT:=I.new D.ex (Heap.get?_none_of_le q1)
  refine h h' T' q4 (fun b hb=>hb.elim (fun z=>nw b (.inl z)) fun z=>by cases z;exact nT) (I.kp (ch:=[a]) D.pn (fun b o x y z=>q2 b o x (by rw [<- D.st];exact y) fun w=>z (by simp [w])) (fun b o x y=>q3 b o x (by rw [<- D.st];exact y)) fun b hb=>?_)
  rw [List.mem_singleton.mp hb]
  exact ⟨(nw a (.inl rfl)).1,(nw a (.inl rfl)).2,oe,vs,he,hd⟩
 | some T =>
  obtain ⟨h1,hTe,oT,ts,hT,hdT,h3⟩:=ht
  refine wpAny_bind (wpAny_field he hd h1 ?_)
  rw [if_pos (show (Value.ref T != Value.none)=true from by simp)]
  refine wpAny_bind (wpAny_field hT hdT h3 ?_)
  rcases hfl with rfl | rfl
  ·rw [if_neg (show ¬ ((Value.none == rawInt X.env.locals)=true) from by simp [rawInt])]
   refine wpAny_bind (wpAny_setField hT hdT (Array.getElem?_eq_some_iff.mp h3).1 ?_)
   have other:∀ b,b≠T->(s.heap.update T (Obj.mapFields (·.setIfInBounds 3 Value.none))).get? b=s.heap.get? b:=fun b hb=>Heap.get?_update_other _ _ (Ne.symm hb)
   have nr:∀ b o,s.heap.get? b=some o->(∀ vs,o.data≠.fields vs)->b≠T:=fun b o hb hnf q=>by
    rw [q,hT] at hb;injection hb with hb;subst hb;exact hnf ts hdT
   have nfT:T∉frs X.stack:=fun hm=>by
    obtain ⟨_,o,ho,hnf⟩:=I.stack.mem hm
    rw [hT] at ho;injection ho with ho;subst ho;exact hnf ts hdT
   refine LB hfr (hl.of_keeps fun b o hb hnf=>⟨o,(other b (nr b o hb hnf)).trans hb,rfl⟩) D.fr ((other a (Ne.symm hTe)).trans he) hdi hd (Array.getElem?_eq_some_iff.mp h1).1 fun h' T' q1 q2 q3 q4=>?_
   have sz:s.heap.objs.size<=T':=by
    have:(s.heap.update T (Obj.mapFields (·.setIfInBounds 3 Value.none))).objs.size=s.heap.objs.size:=Heap.size_after_update ..
    rw [<- this];exact q1
   have nT:=I.new D.ex (Heap.get?_none_of_le sz)
   refine h h' T' q4 (fun b hb=>hb.elim (fun z=>nw b (.inl z)) fun z=>by cases z;exact nT) (I.kp (ch:=[a,T]) D.pn (fun b o x y z=>?_) (fun b o x y=>?_) fun b hb=>?_)
   ·exact q2 b o ((other b fun w=>z (by simp [w])).trans x) (by rw [<- D.st];exact y) fun w=>z (by simp [w])
   ·exact q3 b o ((other b fun w=>nfT (by rw [<- w];exact y)).trans x) (by rw [<- D.st];exact y)
   ·have hb':b=a∨some T=some b:=by
     rcases List.mem_cons.mp hb with z | z
     ·exact .inl z
     ·exact .inr (by rw [List.mem_singleton.mp z])
    exact ⟨(nw b hb').1,(nw b hb').2,th b hb'⟩
  ·rw [if_pos (show (rawInt X.env.locals == rawInt X.env.locals)=true from by simp)]
   exact wpAny_pure (h s.heap T e nw I)
theorem E3 {f:Option Addr} (hpn:X.pn=[]) (I:Inv X [] σ H s) (e:Q5 s.heap a c T fl) (nw:V2 X H a T)
  (h:∀ h',Q5 h' a c T (f.elim .none fun f=>rawInt f)->Inv X [] σ H { s with heap:=h' }->Q () { s with heap:=h' }):wpAny M A (setFlight (.ref a) f) Q E s:=by
 obtain ⟨oe,vs,he,hcls,hdi,hd,ht⟩:=id e
 have th:=e.there
 unfold setFlight
 cases T with
 | none =>
  refine wpAny_bind (wpAny_field he hd ht ?_)
  rw [if_neg (by decide)]
  exact wpAny_pure (h s.heap ⟨oe,vs,he,hcls,hdi,hd,ht⟩ I)
 | some T =>
  obtain ⟨h1,hTe,oT,ts,hT,hdT,h3⟩:=ht
  have hsz:=(Array.getElem?_eq_some_iff.mp h3).1
  refine wpAny_bind (wpAny_field he hd h1 ?_)
  rw [if_pos (show (Value.ref T != Value.none)=true from by simp)]
  have other:∀ b,b≠T->(s.heap.update T (Obj.mapFields (·.setIfInBounds 3 (f.elim Value.none fun f=>rawInt f)))).get? b=s.heap.get? b:=fun b hb=>Heap.get?_update_other _ _ (Ne.symm hb)
  refine wpAny_setField hT hdT hsz (h _ ⟨oe,vs,(other a (Ne.symm hTe)).trans he,hcls,hdi,hd,h1,hTe,_,_,Heap.get?_update_self _ hT (Obj.isFreed_of_fields (Obj.data_mapFields hdT _)),Obj.data_mapFields hdT _,by simp [hsz]⟩ (I.kp (ch:=[T]) hpn (fun b o x _ z=>(other b fun w=>z (by simp [w])).trans x) (fun b o x y=>?_) fun b hb=>?_))
  ·refine ⟨o.slots,(other b fun w=>?_).trans x⟩
   obtain ⟨_,o',ho',hnf⟩:=I.stack.mem y
   rw [w,hT] at ho';injection ho' with ho';subst ho';exact hnf ts hdT
  ·rw [List.mem_singleton.mp hb]
   exact ⟨(nw T (.inr rfl)).1,(nw T (.inr rfl)).2,th T (.inr rfl)⟩
end
abbrev XE:=Value->St->Hp->Prop
def XW (X:Cx) (Z:XE) (e:Value) (s:Shared):Prop:=∃ a c T fl σ H,e=.ref a/\Inv X [] σ H s/\Q5 s.heap a c T fl/\(fl=.none∨fl=rawInt X.env.locals)/\V2 X H a T/\Z c σ H
def CX1 (P:Program) (w:World):CXT:=fun outer H s E e s'=>∃ a c T H',e=.ref a/\s'.os=s.os/\AllBare s'.gens/\Un (frs outer) [] H H' s.heap s'.heap/\HOk P w H' s'.heap/\Q5 s'.heap a c T .none /\
 (∀ b,b=a∨T=some b->s.heap.get? b=none/\H' b=none)/\E c none H'
section
variable {X:Cx} {Z Z':XE} {e:Value} {s s':Shared} {pins:List (Addr×Obj)} {σ:St} {H:Hp}
theorem XW.imp (h:XW X Z e s) (k:∀ c σ H,Z c σ H->Z' c σ H):XW X Z' e s :=
 let ⟨a,c,T,fl,σ,H,q1,q2,q3,q4,q5,q6⟩:=h
 ⟨a,c,T,fl,σ,H,q1,q2,q3,q4,q5,k _ _ _ q6⟩
theorem XW.Ge {E:Value->Shared->Prop} (h:XW (X.Ge E) Z e s):XW X Z e s :=
 let ⟨a,c,T,fl,σ,H,q1,q2,q3,q4,q5,q6⟩:=h
 ⟨a,c,T,fl,σ,H,q1,q2.Ez,q3,q4,q5,q6⟩
theorem CX1.xw (D:X.ex=[]) (I:Inv X pins σ H s) (h:CX1 X.prog X.w X.stack H s (fun c _ H'=>Z c σ H') e s'):XW X Z e s':=by
 obtain ⟨a,c,T,H',rfl,q1,q2,q3,q4,q5,q6,q7⟩:=h
 have I':Inv X pins σ H' s':=I.VJ (ch:=[]) q1 q3 q4 q2 fun b z=>absurd z (by simp)
 exact ⟨a,c,T,.none,σ,H',rfl,I'.Im fun _ z=>absurd z (by simp),q5,.inl rfl,fun b hb=>⟨(I.new D (q6 b hb).1).1,(q6 b hb).2⟩,q7⟩
theorem XW.own (D:Pe X):PassesOwn (model X.prog X.w) X.A X.env (XW X Z):=by
 intro e s' h
 obtain ⟨a,c,T,fl,σ,H,rfl,I,q3,q4,q5,q6⟩:=h
 refine Ki D I.ok.frames I q3 q4 q5 fun h1 T1 e1 n1 I1=>?_
 obtain ⟨oe,vs,he,hc,hdi,hd,ht⟩:=id e1
 refine wpAny_bind (wpAny_field he hd ht.1 ?_)
 rw [if_neg (show ¬ ((Value.ref T1 == Value.none)=true) from by simp)]
 rw [D.fr]
 exact E3 (f:=some X.env.locals) D.pn I1 e1 n1 fun h2 e2 I2=>⟨a,c,some T1,rawInt X.env.locals,σ,H,rfl,I2,e2,.inr rfl,n1,q6⟩
end
section
variable {P:Program} {w:World} {K:Fg} {mg:Str->Option Value} {base:Heap} {N:List Str} {qual:Str} {scope:Scope} {f:Addr} {cd:Value} {A:Around} {outer:List Env} {s:Shared} {H:Hp} {E:XK}
theorem VE:Pe (MC (CX1 P w) P w K mg base N qual scope f cd A outer s H E):=⟨rfl,rfl,rfl,rfl⟩
theorem V7 {e:Value} {s':Shared} (h:XW (MC (CX1 P w) P w K mg base N qual scope f cd A outer s H E) (fun c _ H'=>E c none H') e s'):(MC (CX1 P w) P w K mg base N qual scope f cd A outer s H E).xe e s':=by
 obtain ⟨a,c,T,fl,σ,H',rfl,I,q3,q4,q5,q6⟩:=h
 show wpAny _ _ (leaving (MC (CX1 P w) P w K mg base N qual scope f cd A outer s H E).env (.ref a)) _ _ s'
 unfold leaving
 refine wpAny_bind (Ki VE I.ok.frames I q3 q4 q5 fun h1 T1 e1 n1 I1=>?_)
 refine E3 (f:=none) rfl I1 e1 n1 fun h2 e2 I2=>?_
 exact ⟨a,c,some T1,H',rfl,I2.os,I2.bare,I2.base,I2.hok,e2,n1,q6⟩
end
def Lk (X:Cx) (Z:XE):Prop:=∀ (pins:List (Addr×Obj)) (σ:St) (H:Hp) (s:Shared) (e:Value) (s':Shared),Inv X pins σ H s->CX1 X.prog X.w X.stack H s (fun c _ H'=>Z c σ H') e s'->X.xe e s'
theorem Lk.of {X:Cx} {Z:XE} (D:X.ex=[]) (k:∀ e s,XW X Z e s->X.xe e s):Lk X Z:=fun _ _ _ _ _ _ I h=>k _ _ (CX1.xw D I h)
section
variable {X:Cx} {k:Nat} {f C:Addr} {fd:FuncData} {ps:List Str} {sp:Sp} {Z:XE} {x m:Str} {p pos apos:Pos} {e o:Expr} {es:List Expr} {ta:TE} {t:TA}
def Ur (sp:Sp) (Z:XE) (t:TA):TE:=fun σ H Q=>t σ H fun vs H1=>sp vs H1 Q fun c _ H'=>Z c σ H'
theorem MW {pins:List (Addr×Obj)} {σ:St} {H:Hp} {s:Shared} {Q:VK} {us:List Value} {vs:List V} (F:DL X.prog X.w X.K X.mg X.base (CX1 X.prog X.w) k f fd ps sp) (hr:Eh k X.A) (hb:Binds X.K fd ps []) (hx:Lk X Z)
  (I:Inv X pins σ H s) (r:Vals vs us) (h:sp vs H Q fun c _ H'=>Z c σ H'):wpAny (model X.prog X.w) X.A (call (.ref f) us) (EP X pins σ Q) X.xe s:=by
 have hl:us.length=ps.length:=by rw [<- r.length];exact F.len _ _ _ _ h
 have b:=hb s us I.kIn (by rw [List.append_nil];exact hl)
 rw [List.append_nil] at b
 refine wpAny_call (codeAny_mono (F.run X.A X.stack s H ⟨us,[]⟩ us vs Q _ hr I.WW b r h) fun r s' hq=>?_)
 cases r with
 | error e=>exact hx pins σ H s e s' I hq
 | ok fl =>
  cases fl with
  | ret u=>exact I.after hq
  | next=>exact False.elim hq
  | brk=>exact False.elim hq
  | cont=>exact False.elim hq
theorem UQ (G:FnAt X.prog X.w X.K X.mg X.base (CX1 X.prog X.w) x k ps sp) (hr:Eh k X.A) (hx:Lk X Z) (ha:PA X (e :: es) t) (hg:Gl X x:=by rfl) (hdb:(x == ("__debug__":Str))=false:=by decide)
  (he:starEach (e :: es) X.env=(false,eval e X.env) :: starEach es X.env:=by rfl) (hpl:(backTo pos (starEach es X.env)).any (·.1)=false:=by rfl):PE X (.Call (.Name x p) (e :: es) [] pos) (Ur sp Z t):=by
 obtain ⟨f,fd,F,hm,hk,hb⟩:=G.ex
 intro pins s σ H Q I h
 refine wpAny_Call_Name_kw (Fm I hg hm ?_ hdb)
 refine PySem.W.callWith_K (h₀:=X.base) I.ok.mod.kin hk (thn (ha pos pins s σ H _ I h) fun us s1 ⟨vs,H1,I1,r,q⟩=>⟨I1.kIn,?_⟩) he hpl
 exact MW F hr hb hx I1 r q
end
def Ue:List Value:=[.type "ValueError",.type "Exception",.type "BaseException",.type "object"]
structure ExC (K:Fg) (mg:Str->Option Value) (x:Str) (C:Addr):Prop where
 at_:mg x=some (.ref C)
 ok:PySem.W.excIn K C Ue "ValueError.__new__"=true
def Ul (C:Addr) (Z:XE) (t:TA):TS:=fun _ σ H=>t σ H fun vs H1=>vs.length<=1000/\Z (.ref C) σ H1
theorem ExC.own {K:Fg} {mg:Str->Option Value} {x:Str} {C:Addr} {h:Heap} (c:ExC K mg x C) (X:K.In h):OwnCls x C Ue "ValueError.__new__" mg h:=by
 refine ⟨c.at_,?_⟩
 have q:=c.ok
 unfold PySem.W.excIn at q
 split at q
 ·rename_i dd cd sl ho
  split at q
  ·rename_i C' bm k0 k1 k2 k3 n k5 hm hs
   simp only [Bool.and_eq_true,beq_iff_eq,Bool.not_eq_true'] at q
   obtain ⟨⟨⟨⟨⟨rfl,rfl⟩,hdel⟩,ht⟩,hok⟩,hni⟩:=q
   obtain ⟨nm,bs,mro,ns,qn,hd,sn,sub,ab,col,del⟩:=cd
   dsimp only at hm hdel hok hni
   subst hm hdel
   have hsl:sl=#[k0,k1,k2,k3,some (.builtin "ValueError.__new__"),k5]:=by
    obtain ⟨l⟩:=sl
    simp only at hs
    rw [hs]
   subst hsl
   exact ⟨bm,ns,nm,qn,bs,hd,sn,sub,ab,col,dd,k0,k1,k2,k3,k5,_,X _ _ ho,.of_isNs (PySem.W.isNs_of_in X hok),PySem.W.nsMap_none_of_in X hok hni,PySem.W.tail_of_in X ht⟩
  ·cases q
 ·cases q
section
variable {X:Cx} {C:Addr} {Z:XE} {x:Str} {np cpos pos:Pos} {e:Expr} {es:List Expr} {t:TA}
theorem SV {pins:List (Addr×Obj)} {σ:St} {H:Hp} {s:Shared} {h':Heap} {a:Addr} {us:List Value} (D:X.ex=[]) (I:Inv X pins σ H s) (hm:Heap.MadeExcOf s.heap h' a (.ref C) us) (q:Z (.ref C) σ H):XW X Z (.ref a) { s with heap:=h' }:=by
 obtain ⟨t,ht,_,_⟩:=hm.there
 refine ⟨a,.ref C,none,.none,σ,H,rfl,(I.kept (t':=s.toks) hm.keeps).Im fun _ z=>absurd z (by simp),⟨_,_,ht,rfl,rfl,rfl,rfl⟩,.inl rfl,fun b hb=>?_,q⟩
 rcases hb with rfl | hb
 ·exact I.new D hm.new
 ·cases hb
theorem K4 (c:ExC X.K X.mg x C) (D:X.ex=[]) (hc:X.calm=true) (hx:∀ e s,XW X Z e s->X.xe e s) (ha:PA X (e :: es) t) (hg:Gl X x:=by rfl) (hdb:(x == ("__debug__":Str))=false:=by decide)
  (he:starEach (e :: es) X.env=(false,eval e X.env) :: starEach es X.env:=by rfl) (hpl:(backTo cpos (starEach es X.env)).any (·.1)=false:=by rfl) :
  PS X (.Raise (some (.Call (.Name x np) (e :: es) [] cpos)) none pos) (Ul C Z t):=by
 intro pins s σ H D' I h
 obtain ⟨tl,N,nm,q,bs,hdct,sn,sub,ab,col,dd,k0,k1,k2,k3,k5,mN,hC,hN,hni,T⟩:=(c.own I.ok.mod.kin).obj
 refine wpAny_Raise_call_subT (C:=C) (nm:=nm) (q:=q) (N:=N) (bs:=bs) (bm:=tl) (hdct:=hdct) (sn:=sn) (sub:=sub) (ab:=ab) (col:=col) (dd:=dd) (k0:=k0) (k1:=k1) (k2:=k2) (k3:=k3) (k5:=k5)
  PySem.F.excBase_ValueError (mN:=mN) (T.hasType PySem.F.excBase_ValueError.hasBase) (I.ok.hd hc) (by rw [he];show (false || (backTo cpos (starEach es X.env)).any (·.1))=false;rw [hpl];rfl) hni (Fm I hg c.at_ ⟨rfl,?_⟩ hdb)
 have h1:=ha cpos pins s σ H _ I h
 rw [he] at h1 ⊢
 refine Calls.evalArgs_plain (thn h1 fun us s2 ⟨vs,H1,I1,r,hl,hz⟩=>⟨rfl,?_,I1.bk _ _ hC,hN.keeps I1.bk,T.keeps I1.bk,fun h' a hm=>hx _ _ (SV D I1 hm hz)⟩)
 show us.length<=sizeLine
 rw [<- r.length,sizeLine_eq]
 omega
end
def exO (c:Value) (a:Addr):HO:=.ext fun h=>∃ o vs,h.get? a=some o/\o.cls=c/\o.dict=none/\o.data=.fields vs
abbrev Cx.hand (X:Cx) (a:Addr):Cx:={ X with A:=X.A.mark (some (.ref a)),calm:=false,xe:=fun _ _=>False }
section
variable {X:Cx} {pins:List (Addr×Obj)} {σ:St} {H:Hp} {s:Shared} {a:Addr}
theorem Cx.Ok.hand (ok:X.Ok):(X.hand a).Ok :=
 ⟨ok.mod,ok.kind,ok.glob,ok.blt,ok.above,ok.inj,ok.has,ok.cab,(fun z=>nomatch z),ok.frames,ok.stk,ok.exf,ok.bs,ok.bsz,ok.noex,ok.exfs,ok.Lq,ok.frf⟩
theorem Inv.hand (I:Inv X pins σ H s):Inv (X.hand a) pins σ H s:=⟨I.ok.hand,I.os,I.bare,I.base,I.loc,I.cell,I.free,I.freeC,I.pin,I.hok,I.len⟩
theorem Inv.Hs (ok:X.Ok) (I:Inv (X.hand a) pins σ H s):Inv X pins σ H s:=⟨ok,I.os,I.bare,I.base,I.loc,I.cell,I.free,I.freeC,I.pin,I.hok,I.len⟩
theorem Inv.V9 {o:HO} (I:Inv X [] σ H s) (hpn:X.pn=[]) (h0:X.s₀.heap.get? a=none) (hn:H a=none) (hf:∃ u vs,s.heap.get? a=some u/\u.data=.fields vs) (new:Cg X.prog X.w (upd H a o) s.heap a o):Inv X [] σ (upd H a o) s:=by
 have ne0:∀ b u,X.s₀.heap.get? b=some u->b≠a:=fun b u e z=>by rw [z,h0] at e;cases e
 obtain ⟨u,vs,hu,hd⟩:=hf
 refine ⟨I.ok,I.os,I.bare,⟨I.base.keep,I.base.slot,fun b o e n hx=>?_,I.base.there,fun b xs e=>?_,fun b o u e=>?_,fun b ps e=>?_⟩,I.loc,I.cell,?_,fun x c e=>?_,fun p hp=>?_,fun b u e=>?_,I.len⟩
 ·rw [Aq (ne0 b o e)]
  exact I.base.free b o e n hx
 ·have q:=I.base.tups b xs e
  rw [Aq (A3 q hn)];exact q
 ·have q:=I.base.frzs b o u e
  rw [Aq (A3 q hn)];exact q
 ·obtain ⟨more,q⟩:=I.base.tbls b ps e
  exact ⟨more,by rw [Aq (A3 q hn)];exact q⟩
 ·rw [Aq]
  ·exact I.free
  ·intro z
   obtain ⟨m,⟨o',_,_,ho',hd',_⟩,_⟩:=I.loc
   rw [z,hu] at ho';cases ho';rw [hd] at hd';cases hd'
 ·rw [Aq]
  ·exact I.freeC x c e
  ·intro z
   obtain ⟨v,o',ho',hd'⟩:=I.cell x c e
   rw [z,hu] at ho';cases ho';rw [hd] at hd';cases hd'
 ·rw [hpn] at hp;cases hp
 ·by_cases hb:b=a
  ·subst hb;rw [AF] at e;cases e;exact new
  ·rw [Aq hb] at e
   exact (I.hok b u e).Pw (fun _ _ _ q=>q) (fun c q=>by rw [Aq (A3 q hn)];exact q) fun c xs q=>by rw [Aq (A3 q hn)];exact q
theorem ID {M:Model} {A:Around} {E:Value->Shared->Prop} {i:Nat} {n:Str} {pos:Pos} {Q:Unit->Shared->Prop} (I:Inv X [] σ H s) (hpn:X.pn=[]) (hN:X.N.Nodup) (hi:X.N[i]?=some n) (hl:X.env.scope.names.lookup n=some .local)
  (h:∀ s',Inv X [] (σ.set i none) H s'->Q () s'):wpAny M A (do bindName X.env n .none;unbindBehindTheSuite X.env n pos) Q E s:=by
 have hcls:(X.env.scope.kind == .class || (X.env.scope.kind == .module && X.env.locals != X.env.globals))=false:=by rw [I.ok.kind];rfl
 have hk:X.env.kindOf n=some .local:=hl
 refine wpAny_bind (wpAny_bindName (FU I hN hi (.inl hl) (v:=V.non) (u:=Value.none) rfl (fun s1 I1=>?_) (.inr hl)))
 unfold unbindBehindTheSuite
 refine wpAny_onRaise ?_
 unfold unbindName
 refine wpAny_bind (wpAny_point (wpAny_bind ?_))
 unfold deleteName
 simp only [hk,hcls]
 rw [if_neg (by decide)]
 obtain ⟨m,hn,hl'⟩:=id I1.loc
 have hiσ:i < σ.length:=by rw [I.len];exact (List.getElem?_eq_some_iff.mp hi).1
 have hmn:(m n).isSome=true:=by
  obtain ⟨u,_,z⟩:=hl' i n V.non hi (by rw [List.getElem?_set_self hiσ]) (.inl hl)
  rcases z with ⟨_,z⟩ | ⟨z,_⟩
  ·rw [z];rfl
  ·rw [hk] at z;rcases z with z | z <;> cases z
 refine wpAny_bind (wpAny_nsDel_keeps hn fun h2 v hn2 hs2=>?_)
 simp only [hmn,Bool.not_true,Bool.false_eq_true,if_false]
 refine wpAny_pure (wpAny_point ?_)
 have cne:=I1.cne
 have neL:∀ b o,X.s₀.heap.get? b=some o->b≠X.env.locals:=fun b o e=>Nat.ne_of_lt (Nat.lt_of_lt_of_le (Heap.lt_size e) I.ok.above)
 have key:Inv X [] (σ.set i none) H { s1 with heap:=h2 }:=by
  refine ⟨I1.ok,I1.os,I1.bare,⟨fun b o e n hb hx=>(hs2.2 b (neL b o e)).trans (I1.base.keep b o e n hb hx),fun b o e n hb hx=>?_,I1.base.free,fun b o e hx=>?_,I1.base.tups,I1.base.frzs,I1.base.tbls⟩,⟨_,hn2,fun j y v' e1 e2 e3=>?_⟩,fun y c e=>?_,I1.free,I1.freeC,fun p hp=>?_,fun b ob e=>?_,by simpa using I1.len⟩
  ·obtain ⟨sl,e1⟩:=I1.base.slot b o e n hb hx
   exact ⟨sl,(hs2.2 b (neL b o e)).trans e1⟩
  ·obtain ⟨o',e1⟩:=I1.base.there b o e hx
   exact ⟨o',(hs2.2 b (neL b o e)).trans e1⟩
  ·by_cases hj:j=i
   ·subst hj
    rw [List.getElem?_set_self hiσ] at e2
    cases e2
   ·rw [List.getElem?_set_ne (Ne.symm hj)] at e2
    obtain ⟨u',r',q⟩:=hl' j y v' e1 (by rw [List.getElem?_set_ne (Ne.symm hj)];exact e2) e3
    refine ⟨u',r',?_⟩
    rcases q with ⟨k,e⟩ | ⟨k,c,e,z⟩
    ·refine .inl ⟨k,?_⟩
     have:y≠n:=fun e=>hj (Iq hN e1 (e▸hi))
     simp [this,e]
    ·exact .inr ⟨k,c,e,z.sameBut hs2 (cne y c e)⟩
  ·obtain ⟨w',z⟩:=I1.cell y c e
   exact ⟨w',z.sameBut hs2 (cne y c e)⟩
  ·rw [hpn] at hp;cases hp
  ·refine (I1.hok b ob e).Pw (fun c w' hc q=>(hs2.2 c ?_).trans q) (fun _ q=>q) fun _ _ q=>q
   rintro rfl
   rcases hc with rfl | hc
   ·rw [I1.free] at e;cases e
   ·rw [I1.free] at hc;cases hc
 first
  | exact h _ key
  | exact h _ (key.tok _)
end
def PS0 (X:Cx) (st:Stmt) (t:TS):Prop:=∀ (s:Shared) (σ:St) (H:Hp) (D:Ends),Inv X [] σ H s->t D σ H->wpAny (model X.prog X.w) X.A (exec st X.env) (SP X [] D) X.xe s
def Q3 (X:Cx) (st:List Stmt) (t:TS):Prop:=∀ (s:Shared) (σ:St) (H:Hp) (D:Ends),Inv X [] σ H s->t D σ H->wpAny (model X.prog X.w) X.A (execs st X.env) (SP X [] D) X.xe s
section
variable {X:Cx} {st:Stmt} {rest:List Stmt} {t u:TS}
theorem PS.zero (h:PS X st t):PS0 X st t:=fun s σ H D I q=>h [] s σ H D I q
theorem PSs.zero (h:PSs X rest t):Q3 X rest t:=fun s σ H D I q=>h [] s σ H D I q
theorem M6 (h1:PS0 X st t) (h2:Q3 X rest u):Q3 X (st :: rest) (W9 t u):=by
 intro s σ H D I h
 refine wpAny_execs_cons (thn (h1 s σ H { D with nx:=u D } I h) fun f s1 q=>?_)
 cases f with
 | next =>
  obtain ⟨σ',H',I',q⟩:=q
  exact h2 s1 σ' H' D I' q
 | ret v=>exact q
 | brk=>exact q
 | cont=>exact q
theorem Q3.unw {E:Value->Shared->Prop} (h:Q3 (X.Ge E) rest t) (k:∀ e s,E e s->X.xe e s):Q3 X rest t:=fun s σ H D I hw =>
 wpAny_mono (h s σ H D (I.Ge _) hw) (fun _ _ q=>q.Ez) fun e s z=>k e s z
end
theorem Vq {CX:CXT} {P:Program} {w:World} {K:Fg} {mg:Str->Option Value} {base:Heap} {k:Nat} {f:Addr} {name qual:Str} {params:Arguments} {body:List Stmt} {scope:Scope} {dV kV doc pm cdv ct oc:Value} {an od:Option Addr}
  {osl:Array (Option Value)} {N ps:List Str} {sp:Sp} (lk:K.lookup f=some ⟨oc,od,.func (PySem.W.fnOf name qual params body scope dV kV doc pm an cdv ct),osl⟩) (hcd:PySem.W.codeIn K cdv qual=true) (S:Bb N ps scope)
  (len:∀ vs H Q E,sp vs H Q E->vs.length=ps.length)
  (hbody:∀ (A:Around) (outer:List Env) (s:Shared) (H:Hp) (vs:List V) (Q:VK) (E:XK),Eh k (A.deeper (envOfC qual scope s.heap.objs.size f cdv))->sp vs H Q E ->
   ∃ t,Q3 (MC CX P w K mg base N qual scope f cdv A outer s H E) body t/\t { nx:=fun _ H'=>Q .non H',rt:=Q } (start N vs) H) :
  DL P w K mg base CX (k+1) f (PySem.W.fnOf name qual params body scope dV kV doc pm an cdv ct) ps sp:=by
 refine ⟨len,fun A outer s H args us vs Q E hr e0 hb r hsp=>?_⟩
 have hl:=len _ _ _ _ hsp
 have KX:K.In s.heap:=e0.mod.kin.keeps fun b o e=>(e0.bs b o e).1
 have lim:s.heap.NoLimit:=e0.mod.nolimit.keeps fun b o e=>(e0.bs b o e).1
 have hkind:∀ y∈ps.zip us,scope.names.lookup y.1=some .local∨(scope.names.lookup y.1=some .cell/\((cellsFrom (s.heap.objs.size+1) scope.names []).lookup y.1).isSome=true):=fun ⟨n,v⟩ hy=>by
  rcases S.par n (List.of_mem_zip hy).1 with q | q
  ·exact .inl q
  ·exact .inr ⟨q,PySem.W.cellsFrom_some _ _ _ (.inl q)⟩
 refine codeAny_call_function hr.depth (KX _ _ lk) rfl S.co S.gen rfl (PySem.W.codeRec_of KX hcd) (hb _ _ _ _ ?_)
 refine wpAny_newFunctionEnv_cells S.kind hkind fun env he s1 x=>?_
 subst he
 refine ⟨lim.keeps x.toInCall.keep,codeAny_func ?_⟩
 obtain ⟨t,ht,hq⟩:=hbody A outer s H vs Q E (hr.deeper _) hsp
 have I:Inv (MC CX P w K mg base N qual scope f cdv A outer s H E) [] (start N vs) H s1:=N4 S hr.hd e0 hl r x
 refine wpAny_mono (ht s1 (start N vs) H _ I hq) (fun fl s' hs=>?_) fun e s' hs=>hs
 have fin:∀ {σ':St} {H':Hp} {v:V} {u:Value},Inv (MC CX P w K mg base N qual scope f cdv A outer s H E) [] σ' H' s'->RelV v u->Q v H'->CE outer P w H s Q u s' :=
  fun {σ' H' v u} J rv q=>⟨v,H',J.os,J.bare,J.base,J.hok,rv,q⟩
 cases fl with
 | ret u =>
  obtain ⟨v,σ',H',J,rv,q⟩:=hs
  exact fin J rv q
 | next =>
  obtain ⟨σ',H',J,q⟩:=hs
  exact fin (v:=V.non) (u:=Value.none) J rfl q
 | brk =>
  obtain ⟨_,_,_,q⟩:=hs
  exact False.elim q
 | cont =>
  obtain ⟨_,_,_,q⟩:=hs
  exact False.elim q
theorem Fun.ok0 {P:Program} {w:World} {K:Fg} {mg:Str->Option Value} {base:Heap} {N:List Str} {qual:Str} {f:Addr} {x:Str} {st:Stmt} {fd:FuncData} {ps:List Str} {k:Nat} {sp:Sp} (F:Fun K x qual st f fd) (S:Bb N ps (Ao st)) (len:∀ vs H Q E,sp vs H Q E->vs.length=ps.length)
  (hbody:∀ (cdv:Value) (A:Around) (outer:List Env) (s:Shared) (H:Hp) (vs:List V) (Q:VK) (E:XK),Eh k (A.deeper (envOfC qual (Ao st) s.heap.objs.size f cdv))->sp vs H Q E ->
   ∃ t,Q3 ((MC (CX1 P w) P w K mg base N qual (Ao st) f cdv A outer s H E).Ge (XW (MC (CX1 P w) P w K mg base N qual (Ao st) f cdv A outer s H E) fun c _ H'=>E c none H')) (A0 st) t/\t { nx:=fun _ H'=>Q .non H',rt:=Q } (start N vs) H) :
  DL P w K mg base (CX1 P w) (k+1) f fd ps sp:=by
 obtain ⟨oc,od,kV,doc,pm,an,cdv,ct,osl,rfl,lk,hcd⟩:=F.ex
 refine Vq lk hcd S len fun A outer s H vs Q E hr hsp=>?_
 obtain ⟨t,h,q⟩:=hbody cdv A outer s H vs Q E hr hsp
 exact ⟨t,h.unw fun _ _=>V7,q⟩
def RX (i:Nat) (D:Ends):Ends:={ nx:=fun σ H=>D.nx (σ.set i none) H,rt:=D.rt,bk:=fun σ H=>D.bk (σ.set i none) H,ct:=fun σ H=>D.ct (σ.set i none) H }
def XO (K:Fg) (C:Addr) (i:Nat) (th:TS) (D:Ends):XE:=fun c σ H=>PySem.W.exmOne K c (.ref C)=some true/\∀ a,H a=none->th (RX i D) (σ.set i (some (.ref a))) (upd H a (exO c a))
section
variable {X:Cx} {C:Addr} {x n:Str} {i:Nat} {np pos hpos:Pos} {body suite:List Stmt} {b₀:Stmt} {tb:Ends->TS} {th:TS}
theorem SP.Hs {a:Addr} {f:Flow} {s':Shared} {D:Ends} (ok:X.Ok) (h:SP (X.hand a) [] D f s'):SP X [] D f s':=by
 cases f with
 | next=>obtain ⟨σ',H',I,q⟩:=h;exact ⟨σ',H',I.Hs ok,q⟩
 | brk=>obtain ⟨σ',H',I,q⟩:=h;exact ⟨σ',H',I.Hs ok,q⟩
 | cont=>obtain ⟨σ',H',I,q⟩:=h;exact ⟨σ',H',I.Hs ok,q⟩
 | ret u=>obtain ⟨v,σ',H',I,r,q⟩:=h;exact ⟨v,σ',H',I.Hs ok,r,q⟩
theorem Sk (D:Pe X) (hC:X.mg x=some (.ref C)) (hN:X.N.Nodup) (hb:∀ D,PSs (X.Ge (XW X (XO X.K C i th D))) body (tb D)) (hs:∀ a,PSs (X.hand a) (b₀ :: suite) th) (hi:X.N[i]?=some n:=by rfl) (hl:X.env.scope.names.lookup n=some .local:=by rfl)
  (hg:Gl X x:=by rfl) (hdb:(x == ("__debug__":Str))=false:=by decide) :
  PS0 X (.Try body [.ExceptHandler (some (.Name x np)) (some n) (b₀ :: suite) hpos] [] [] pos) (fun D=>tb D D):=by
 intro s σ H D' I h
 refine wpAny_Try_except (wpAny_mono (hb D' [] s σ H D' (I.Ge _) h) (fun f s1 q=>?_) fun e s1 q=>?_)
 ·have q:=q.Ez
  cases f with
  | next=>exact wpAny_execs_nil q
  | ret v=>exact q
  | brk=>exact q
  | cont=>exact q
 ·obtain ⟨a,c,T,fl,σ1,H1,rfl,I1,e1,f1,n1,z1,z2⟩:=q
  refine Ki D I1.ok.frames I1 e1 f1 n1 fun h2 T2 e2 n2 I2=>?_
  refine E3 (f:=none) D.pn I2 e2 n2 fun h3 e3 I3=>?_
  refine wpAny_handleBy_cons (codeAny_handlers_test (Fm (X:=X.hand a) I3.hand hg hC ?_ hdb)) (by intro q;cases q)
  obtain ⟨oe,vs,he,hcls,hdi,hd,ht⟩:=id e3
  have LT:PySem.W.Looks (model X.prog X.w) h3 (typeOf (.ref a)) c:=hcls▸(PySem.W.Looks.ld he).andThen .now
  refine PySem.W.Looks.here (s:={ s1 with heap:=h3 }) (PySem.W.exm_one I3.kIn LT z1) ?_
  refine codeAny_handlers_suite_as ?_
  refine E3 (f:=none) D.pn I3 e3 n2 fun h4 e4 I4=>?_
  obtain ⟨oe4,vs4,he4,hcls4,hdi4,hd4,ht4⟩:=id e4
  have hna:=n2 a (.inl rfl)
  have I5:Inv X [] σ1 (upd H1 a (exO c a)) { s1 with heap:=h4 }:=I4.V9 D.pn hna.1 hna.2 ⟨oe4,vs4,he4,hd4⟩ ⟨⟨oe4,vs4,he4,hcls4,hdi4,hd4⟩,⟨oe4,he4⟩,fun g1 g2 ⟨o,v,q1,q2⟩ k=>⟨o,v,k o q1,q2⟩⟩
  refine FU I5 hN hi (.inl hl) (v:=V.ref a) (u:=Value.ref a) rfl (fun s6 I6=>?_) (.inr hl)
  refine wpAny_mono (hs a [] s6 _ _ (RX i D') I6.hand (z2 a hna.2)) (fun f s7 q=>?_) fun _ _ z=>False.elim z
  have q:=q.Hs I.ok
  cases f with
  | next =>
   obtain ⟨σ',H',I',q⟩:=q
   exact ID I' D.pn hN hi hl fun s8 I8=>⟨_,_,I8,q⟩
  | ret u =>
   obtain ⟨v,σ',H',I',r,q⟩:=q
   exact ID I' D.pn hN hi hl fun s8 I8=>⟨v,_,_,I8,r,q⟩
  | brk =>
   obtain ⟨σ',H',I',q⟩:=q
   exact ID I' D.pn hN hi hl fun s8 I8=>⟨_,_,I8,q⟩
  | cont =>
   obtain ⟨σ',H',I',q⟩:=q
   exact ID I' D.pn hN hi hl fun s8 I8=>⟨_,_,I8,q⟩
end
end L2
namespace PySem.W
open PySem PySem.Spec PySem.Calls PyProof.Rows
section
variable {prog:Program} {w:World} {A:Around} {E:Value->Shared->Prop} {K:Frag} {x D:Addr} {ox:Obj}
structure ExK (K:Frag) (D:Addr):Prop where
 ga:findIn K (.ref D) "__getattribute__"=some (some (.builtin "BaseException.__getattribute__"))
 gt:findIn K (.ref D) "__getattr__"=some none
 ca:findIn K (.ref D) "__class__"=some (some (.builtin "object.__class__"))
 gs:specialIn K (.builtin "object.__class__") "__get__"=some (some (.builtin "getset_descriptor.__get__"))
 tk:takesIn K (.builtin "object.__class__")=some true
 mo:mroIn K D (.type "object")=some true
 mb:mroIn K D (.type "BaseException")=some true
theorem ExK.find (k:ExK K D) (hc:(clsIn K D).isSome=true):findObj K D none "__class__"=some (.bind (.builtin "getset_descriptor.__get__") (.builtin "object.__class__")):=by
 obtain ⟨cd,hc⟩:=Option.isSome_iff_exists.mp hc
 unfold findObj
 rw [hc,Option.bind_some,k.ca,Option.bind_some]
 simp [k.gs,k.tk]
theorem OA {tk:Tok} {Q:Fin->Shared->Prop} {s:Shared} (k:ExK K D) (hc:(clsIn K D).isSome=true) (X:K.In s.heap) (I:InstAt s.heap x ox D none) (h:Q (.done (.ret (.ref D))) s) :
  wpAny (model prog w) A (Builtin.«object.__getattribute__» ⟨[.ref x,.str "__class__" tk],[]⟩) Q E s:=by
 obtain ⟨hh,g,d,t,os⟩:=s
 have L0:=I.type (M:=model prog w)
 have L1:=looks_find (M:=model prog w) X I (k.find hc)
 unfold Builtin.«object.__getattribute__»
 repeat (any_goals (first | assumption | with_reducible refine L0.at ?_ | with_reducible refine L1.at ?_ | wp_step))
 exact class_get (s:=⟨hh,g,d,t,os⟩) X I k.mo (wpAny_pure h)
theorem OC {M:Model} {nameV:Value} {Q:Unit->Shared->Prop} {s:Shared} (k:ExK K D) (X:K.In s.heap) (I:InstAt s.heap x ox D none) (h:Q () s):wpAny M A (checkBuiltinCall "BaseException.__getattribute__" ⟨[.ref x,nameV],[]⟩) Q E s:=by
 obtain ⟨hh,g,d,t,os⟩:=s
 have hk:builtinKind "BaseException.__getattribute__"=some .slot:=by decide +kernel
 have hsplit:splitId "BaseException.__getattribute__"=some ("BaseException","__getattribute__"):=by decide +kernel
 have L0:=I.type (M:=M)
 have L1:=looks_mroIn (M:=M) X k.mb
 have ha:=F.args_bexc_ga (.ref x) nameV
 simp only [checkBuiltinCall,hk,hsplit]
 refine wpAny_bind ?_
 unfold isInstance
 repeat (first | with_reducible refine L0.at ?_ | with_reducible refine L1.at ?_ | wp_step)
 exact h
theorem QI {tk:Tok} {R:Result->Shared->Prop} {s:Shared} (k:ExK K D) (hc:(clsIn K D).isSome=true) (X:K.In s.heap) (I:InstAt s.heap x ox D none) (h:R (.ok (.ret (.ref D))) s) :
  codeAny (model prog w) A (.call (.builtin "BaseException.__getattribute__") ⟨[.ref x,.str "__class__" tk],[]⟩) R s :=
 codeAny_call_builtin PySem.F.excAttr_ValueError.ga.plain F.entry_bexc_ga (OC k X I (OA k hc X I h))
theorem VC {tk:Tok} {Q:Value->Shared->Prop} {s:Shared} (k:ExK K D) (hc:(clsIn K D).isSome=true) (X:K.In s.heap) (I:InstAt s.heap x ox D none) (h:Q (.ref D) s) :
  wpAny (model prog w) A (getAttrBy (.ref x) (.str "__class__" tk) false) Q E s:=by
 obtain ⟨hh,g,d,t,os⟩:=s
 have L0:=I.type (M:=model prog w)
 have L1:=looks_findIn (M:=model prog w) X k.ga
 have L2:=looks_findIn (M:=model prog w) X k.gt
 have f3:=PySem.F.excAttr_ValueError.ga.bind (.ref x)
 have hx2:(Value.builtin "BaseException.__getattribute__" == Value.builtin "object.__getattribute__")=false:=by decide +kernel
 have hx1:(onTheHeap (Value.ref D) && Value.builtin "BaseException.__getattribute__" == Value.builtin "object.__getattribute__")=false:=by rw [hx2];rfl
 have hx0:(false && onTheHeap (Value.builtin "BaseException.__getattribute__"))=false:=rfl
 repeat (any_goals (first | assumption | with_reducible refine L0.at ?_ | with_reducible refine L1.at ?_ | with_reducible refine L2.at ?_ | wp_step))
 refine QI (s:=⟨hh,g,d,t,os⟩) k hc X I ?_
 repeat (any_goals (first | assumption | wp_step))
theorem OB {Q:Option Value->Shared->Prop} {s:Shared} (k:ExK K D) (hc:(clsIn K D).isSome=true) (X:K.In s.heap) (I:InstAt s.heap x ox D none) (h:Q (some (.ref D)) { s with toks:=s.toks+1 }) :
  wpAny (model prog w) A (getAttr? (.ref x) "__class__") Q E s:=by
 obtain ⟨hh,g,d,t,os⟩:=s
 unfold getAttr? getAttrBy?
 exact wpAny_bind (wpAny_mkText (wpAny_bind (wpAny_attempt (VC (s:=⟨hh,g,d,t+1,os⟩) k hc X I (wpAny_pure h)))))
theorem Qn (k:ExK K D) (hc:(clsIn K D).isSome=true):KitX K (.ref x) (.ref D) (fun h=>InstAt h x ox D none) where
 ty:=fun _ _ _ I=>I.type
 it:=fun _ _ X _=>by
  unfold clsIn at hc
  split at hc
  ·rename_i c' d' cd' sl' ho
   intro A' Q' E' s' k q
   unfold isType loadHead
   exact wpAny_bind (wpAny_loadPart (k _ _ (X _ _ ho)) (wpAny_pure q))
  ·cases hc
 ne:=fun h tp dd its n sl X htp=>by
  refine Bool.eq_false_iff.mpr fun q=>?_
  have e:D=tp:=Value.ref.inj (beq_iff_eq.mp q)
  subst e
  unfold clsIn at hc
  split at hc
  ·rename_i c' d' cd' sl' ho
   have z:=(X _ _ ho).symm.trans htp
   cases z
  ·cases hc
 ca:=fun X I q=>OB k hc X I q
end
end PySem.W
namespace L2
open PySem PySem.Spec PyProof.Rows
section
variable {X:Cx}
theorem HQ:Dj X (.builtin "isinstance") (fun xs H Q=>∃ a D y c b,xs=[.ref a,y]/\(∀ u,RelV y u->u=c)/\H a=some (exO (.ref D) a)/\PySem.W.ExK X.K D/\(PySem.W.clsIn X.K D).isSome=true/\PySem.W.kitOne X.K (.ref D) c=some b/\Q (.bl b) H):=by
 intro pins s σ H xs us Q I r h
 obtain ⟨a,D,y,c,b,rfl,hy,ha,k,hc,e,q⟩:=h
 cases r with
 | cons r1 rr =>
  cases rr with
  | cons r2 rr =>
   cases rr
   cases (show _=Value.ref a from r1)
   cases hy _ r2
   obtain ⟨⟨o,vs,h1,h2,h3,h4⟩,_⟩:=(show Cg X.prog X.w H s.heap a (exO (.ref D) a) from I.hok a _ ha)
   have J:PySem.W.InstAt s.heap a o D none:=⟨h1,h2,by unfold PySem.W.notCls;rw [h4],by rw [h3];trivial⟩
   exact PySem.W.kia_one (PySem.W.Qn k hc) I.kIn J e (fun z=>nomatch z) fun tk=>⟨.bl b,H,I.tok tk,rfl,q⟩
theorem QW {bs:List Bool} {its:List Value} (rv:Vals (bs.map V.bl) its):∀ y,y∈its.toArray->∃ b,y=Value.bool b:=by
 intro y hy
 rw [Di rv] at hy
 simp only [List.mem_toArray,List.mem_map] at hy
 obtain ⟨b,_,rfl⟩:=hy
 exact ⟨b,rfl⟩
def isT:Value->Bool
 | .bool b=>b == true
 | _=>false
theorem RK {A:Around} {s:Shared} {its:List Value} {bs:List Bool} (rv:Vals (bs.map V.bl) its):∀ y,y∈its.toArray->SeqAt.EqAt A s y (.bool true) (isT y):=fun y hy=>by
 obtain ⟨b,rfl⟩:=QW rv y hy
 exact SeqAt.EqAt.bool_bool b true
theorem Qd:MtR X "list.count" (fun x vs H Q=>∃ (l:Addr) (bs:List Bool),x=.ref l/\vs=[.bl true]/\SqL X.K H l (bs.map V.bl)/\Q (.int ((bs.countP id:Nat):Int)) H):=by
 intro pins s σ H x vs v us Q I rx rv h
 obtain ⟨l,bs,rfl,rfl,hq,q⟩:=h
 cases rx
 obtain ⟨u,rfl,ru⟩:=rv.one
 cases (show u=Value.bool true from ru)
 obtain ⟨its,rv,⟨⟨cls,dd,data,sl⟩,n,ho,hc,hdd,hd⟩,hz⟩:=I.list hq
 simp only at hc hdd hd
 subst hc hdd hd
 have hb:=Di rv
 refine call_meets F.slot_list_count ⟨_,ho,rfl⟩ F.entry_list_count (F.args_list_count_2 _ _) (SeqAt.list_countAt l its.toArray n none sl (.bool true) isT) ⟨ho,RK rv,?_⟩
 refine ⟨.int _,H,I.tok _,⟨_,rfl⟩,?_⟩
 have e:its.toArray.toList.countP isT=bs.countP id:=by
  rw [hb]
  simp only [List.countP_map]
  exact List.countP_congr fun b _=>by cases b <;> simp [isT]
 rw [e]
 exact q
theorem Qc:MtR X "list.index" (fun x vs H Q=>∃ (l:Addr) (bs:List Bool) (j:Nat),x=.ref l/\vs=[.bl true]/\SqL X.K H l (bs.map V.bl)/\bs[j]?=some true/\(∀ m,m < j->bs[m]?=some false)/\Q (.int ((j:Nat):Int)) H):=by
 intro pins s σ H x vs v us Q I rx rv h
 obtain ⟨l,bs,j,rfl,rfl,hq,hj,hno,q⟩:=h
 cases rx
 obtain ⟨u,rfl,ru⟩:=rv.one
 cases (show u=Value.bool true from ru)
 obtain ⟨its,rv,⟨⟨cls,dd,data,sl⟩,n,ho,hc,hdd,hd⟩,hz⟩:=I.list hq
 simp only at hc hdd hd
 subst hc hdd hd
 have hb:=Di rv
 subst hb
 have hjl:j < bs.length:=(List.getElem?_eq_some_iff.mp hj).1
 rw [List.length_map,sizeLine_eq] at hz
 refine call_meets F.slot_list_index ⟨_,ho,rfl⟩ F.entry_list_index (F.args_list_index_2 _ _) (SeqAt.list_indexAt l (bs.map Value.bool).toArray n none sl (.bool true) isT j (by simpa using hjl) (by omega) ?_ ?_) ⟨ho,RK rv,?_⟩
 ·have:=(List.getElem?_eq_some_iff.mp hj).2
  simp [isT,this]
 ·intro m hm hmj
  have e:=hno m hmj
  have:=(List.getElem?_eq_some_iff.mp e).2
  simp [isT,this]
 ·exact ⟨.int _,H,I.tok _,⟨_,rfl⟩,q⟩
end
end L2
namespace L2
open PySem PySem.Spec PySem.W PyProof.Rows
theorem LW {l:PySem.W.OpenLaw} {n k:Nat} {q:Program} {loose:List Str} {XP:(Str->Option Value)->Heap->Prop} {YP:World->Heap->Prop} {d:DefRec} {K:Params->Fg} {CX:World->CXT} {sp:Fg->Sp} {x:Str}
  (hn:l.most=some n) (hn2:n<=sizeLine) (hdf:d.params.defaults=[]) (hr:Eh k callerA)
  (hY:∀ (w:World) (h:Heap),YP w h->(K w.params).In h)
  (F:∀ (w:World) (mg:Str->Option Value) (fa:Addr) (h:Heap),(K w.params).In h->h.Ns mainGlobals mg->mg d.name=some (.ref fa) ->
   ∃ fd:FuncData,(∀ (s:Shared) (u:Value),BindsTo s fd ⟨[u],[]⟩ [(x,u)]) /\
    ∀ base:Heap,(K w.params).In base->base.Ns mainGlobals mg->DL l.prog w (K w.params) mg base (CX w) k fa fd [x] (sp (K w.params)))
  (hsp:∀ (K:Fg) (H:Hp) (a:Addr) (ns:List Int),ns.length<=n->CD ns<=2 ^ 20->V1 H->SqL K H a (ns.map V.int)->sp K [.ref a] H (fun v _=>v=.bl true) fun _ _ _=>False)
  (hCX:∀ (w:World) (H:Hp) (s:Shared) (e:Value) (s':Shared),CX w [] H s (fun _ _ _=>False) e s'->False) :
  PySem.W.WalkO q loose XP YP l.row.toRowW d [] (fun f vs=>PySem.call f vs):=by
 intro w s₀ s₁ mg mb G Y fa o pm cd doc dV kV ho hd hcd hD hmg hg args vals as hpre hlay hrd hwl hlo
 obtain rfl:dV=.none:=Dflts.none hD hdf
 obtain rfl:kV=.none:=Dflts.noKw hD
 obtain ⟨a,vs,ns,rfl,rfl,hobj,hints,hlen⟩:=Att.MV hn hpre hwl
 have hw:CD ns<=2 ^ 20:=by
  have h1:(WData.list (ns.map WData.int)).layable=true:=by
   unfold WData.layableAll at hlay
   simpa using hlay
  unfold WData.layable at h1
  rw [Bool.and_eq_true] at h1
  have h2:=of_decide_eq_true h1.2
  simp only [WData.weight] at h2
  rw [<- Hb]
  exact h2
 have KX:=hY w _ Y
 obtain ⟨fd,hb,hF⟩:=F w mg fa _ KX G.T.g hmg
 refine PySem.W.enter_call (codeAny_mono (Qm KX G.T.g G.T.b G.T.builtins G.T.nolimit hg hobj hints (Nat.le_trans hlen hn2) hr hF hb (fun H hO hS=>hsp (K w.params) H a ns hlen hw hO hS) fun H e s'=>hCX w H s₁ e s') fun r s' hq=>?_)
 obtain ⟨rfl,h2,h3,h4⟩:=hq
 exact ⟨.inl ⟨.bool true,.bool true,[],rfl,fun _=>rfl,.bool true,Att.Na l _,fun _=>⟨List.Pairwise.nil,fun _ hm=>(nomatch hm)⟩⟩,h2,h3,h4⟩
theorem J1 {l:PySem.W.OpenLaw} {n k N tk:Nat} {q:Program} {loose:List Str} {XP:(Str->Option Value)->Heap->Prop} {d:DefRec} {K:Params->Fg} {as:List Addr} {CX:World->CXT} {sp:Fg->Sp} {x:Str}
  (hn:l.most=some n) (hn2:n<=sizeLine) (hdf:d.params.defaults=[]) (hr:Eh k callerA)
  (hK:∀ P:Params,as=(K P).map (·.1))
  (F:∀ (w:World) (mg:Str->Option Value) (fa:Addr) (h:Heap),(K w.params).In h->h.Ns mainGlobals mg->mg d.name=some (.ref fa) ->
   ∃ fd:FuncData,(∀ (s:Shared) (u:Value),BindsTo s fd ⟨[u],[]⟩ [(x,u)]) /\
    ∀ base:Heap,(K w.params).In base->base.Ns mainGlobals mg->DL l.prog w (K w.params) mg base (CX w) k fa fd [x] (sp (K w.params)))
  (hsp:∀ (K:Fg) (H:Hp) (a:Addr) (ns:List Int),ns.length<=n->CD ns<=2 ^ 20->V1 H->SqL K H a (ns.map V.int)->sp K [.ref a] H (fun v _=>v=.bl true) fun _ _ _=>False)
  (hCX:∀ (w:World) (H:Hp) (s:Shared) (e:Value) (s':Shared),CX w [] H s (fun _ _ _=>False) e s'->False) :
  PySem.W.WalkX q loose XP (PySem.W.X.obsZ as) (PySem.W.X.valZ K N tk) l.row.toRowW d [] (fun f vs=>PySem.call f vs):=by
 intro w s₀ s₁ mg mb G Y fa o pm cd doc dV kV ho hd hcd hD hmg hg args vals ads hL hpre hlay hrd hwl hlo
 have W:=LW (l:=l) (q:=q) (loose:=loose) (XP:=XP) (YP:=fun w h=>(K w.params).In h) (d:=d) (K:=K) (CX:=CX) (sp:=sp) (x:=x) hn hn2 hdf hr (fun _ _ h=>h) F hsp hCX
 refine W w s₀ s₁ mg mb G ?_ fa o pm cd doc dV kV ho hd hcd hD hmg hg args vals ads hpre hlay hrd hwl hlo
 have h1:as.map s₀.heap.get?=(K w.params).map (fun p=>some p.2):=congrArg Prod.fst Y
 rw [hK w.params] at h1
 exact fun a o e=>hL.keeps a o (NN _ h1 a o e)
end L2
namespace L2
open PySem PySem.Spec PyProof.Rows
section
variable {X:Cx} {k:Nat} {C:Addr} {ps:List Str} {sp:Sp} {Z:XE} {x m:Str} {p pos apos:Pos} {e o:Expr} {es:List Expr} {ta:TE} {t:TA}
def Uo (C:Addr) (m:Str) (sp:Sp) (Z:XE) (ta:TE) (t:TA):TE:=fun σ H Q=>ta σ H fun x H1=>∃ a dx fs,x=.ref a/\H1 a=some (.ins C dx fs)/\fs.lookup m=none /\
 t σ H1 fun vs H2=>sp (x :: vs) H2 Q fun c _ H'=>Z c σ H'
theorem UN {pl:Sem Bool} (G:KR X.prog X.w X.K X.mg X.base (CX1 X.prog X.w) C m k ps sp) (hr:Eh k X.A) (hx:Lk X Z) (he:PE X o ta) (ha:PA X (e :: es) t)
  (hst:starEach (e :: es) X.env=(false,eval e X.env) :: starEach es X.env:=by rfl) (hpl:(backTo pos (starEach es X.env)).any (·.1)=false:=by rfl)
  (ht:eval (.Call (.Attribute o m apos) (e :: es) [] pos) X.env=(do
   let ov <- eval o X.env
   standAt apos.atName
   let (f,first) <- holding [ov] (getMethod ov m pl)
   callWith pos f first (backTo pos (starEach (e :: es) X.env)) (backToKw pos (keywordEach [] X.env))):=by rfl) :
  PE X (.Call (.Attribute o m apos) (e :: es) [] pos) (Uo C m sp Z ta t):=by
 obtain ⟨f,fd,F,hm,hb⟩:=G.ex
 intro pins s σ H Q I h
 refine PySem.W.methodCall_KW (pl:=pl) (thn (he pins s σ H _ I h) fun u s1 ⟨x,H1,I1,rx,a,dx,fs,ex,ea,l,q⟩=>?_) ht
 subst ex
 obtain rfl:u=Value.ref a:=rx
 refine HG I1 ea G.cl hm l ?_
 refine PySem.W.callWith_K (first:=[.ref a]) (h₀:=X.base) I.ok.mod.kin hm.kp (thn (ha pos pins s1 σ H1 _ I1 q) fun us s2 ⟨vs,H2,I2,r,q2⟩=>⟨I2.kIn,?_⟩) hst hpl
 exact MW (us:=.ref a :: us) (vs:=.ref a :: vs) F hr hb hx I2 (.cons rfl r) q2
theorem UT {X:Cx}:Passes (CX1 X.prog X.w) X E0:=fun _ _ _ _ _ _ _ ⟨_,_,_,_,_,_,_,_,_,_,_,q⟩=>q.elim
end
def DN (z:Str):Bool:=decide (z.length<=1000) && z.cps.toList.all fun c=>decide (c < 16 ^ 8)
theorem NA {z:Str} (h:DN z=true):(reprText z).length<=20000:=by
 unfold DN at h
 rw [Bool.and_eq_true] at h
 have h1:=of_decide_eq_true h.1
 have h2:=PySem.StrLaws.reprText_len z fun c m=>of_decide_eq_true (List.all_eq_true.mp h.2 c m)
 omega
section
variable {X:Cx} {v:Expr} {ta:TE} {a:Str} {j:Nat} {cp fp jp:Pos}
def tFr (ta:TE):TE:=fun σ H Q=>ta σ H fun x H1=>∃ z,x=.str z/\DN z=true/\∀ r,Q (.str r) H1
theorem Wt (hv:PE X v ta) (hl:a.length<=1000:=by decide):PE X (.JoinedStr [.Constant (.str a) j cp,.FormattedValue v 114 none fp] jp) (tFr ta):=by
 intro pins s σ H Q I h
 refine wpAny_JoinedStr ?_
 show wpAny _ _ (eval (.Constant (.str a) j cp) X.env) _ _ s
 refine thn (Rr pins s σ H (fun u H1=>u=.str a/\H1=H) I ⟨rfl,rfl⟩) fun u s1 ⟨x,H1,I1,r1,q1,q2⟩=>?_
 subst q1 q2
 obtain ⟨t1,rfl⟩:=r1
 have e0:(Str.empty++a).length=a.length:=by rw [strLen_append];exact Nat.zero_add _
 refine ⟨a,t1,rfl,by rw [e0,sizeLine_eq];omega,?_⟩
 show wpAny _ _ (eval (.FormattedValue v 114 none fp) X.env) _ _ s1
 refine wpAny_FormattedValue_repr (thn (hv pins s1 σ H1 _ I1 h) fun u s2 ⟨x,H2,I2,r2,z,ez,hz,q⟩=>?_)
 subst ez
 obtain ⟨t2,rfl⟩:=r2
 have hr:=NA hz
 refine wpAny_pyReprObj_str ?_ (by rw [sizeLine_eq];omega)
 have e1:(Str.empty++a++reprText z).length<=21000:=by rw [strLen_append,e0];omega
 refine formatField_str (fun t' tk=>⟨_,t',rfl,by rw [sizeLine_eq];omega,?_⟩) (by rw [sizeLine_eq];omega)
 refine ⟨by rw [sizeLine_eq];omega,.str (Str.empty++a++reprText z),H2,?_,⟨_,rfl⟩,q _⟩
 exact (I2.tok _).tok _
end
section
variable {X:Cx}
end
section
variable {X:Cx} {v:Expr} {ta:TE} {fp:Pos}
end
end L2
namespace FL
open PySem PySem.Spec L2
inductive T where
 | non | bl (b:Bool) | int (i:Int) | str (x:Str)
 | tup (ts:List T) | lst (ts:List T)
 | scr (ts:List T)
 | dK (ks:List Key) (ts:List T) | dT (ks:List (List Key)) (ts:List T)
 | ins (C:Addr) (fs:List Str) (ts:List T)
 | dF (ks:List Key) (ts:List T)
 | exn (c:Str)
inductive FO where
 | lst (ts:List T) | dK (ks:List Key) (ts:List T) | dT (ks:List (List Key)) (ts:List T)
 | ins (C:Addr) (fs:List Str) (os:List FO) | val (t:T)
 | los (os:List FO) | tpl (os:List FO)
inductive Sl where
 | val (t:T) | own (o:FO) | bor (o:FO)
abbrev FS:=List (Option Sl)
inductive Rv where
 | t (t:T) | nw (o:FO) | rf (i:Nat)
inductive Out (α:Type) where
 | ok (a:α) (fs:FS) | exc (c:Str) (fs:FS) | bad
inductive SO where
 | nx (fs:FS) | ret (r:Rv) (fs:FS) | brk (fs:FS) | cnt (fs:FS) | exc (c:Str) (fs:FS) | bad
structure Wd where
 f:Addr->Prop
 p:Addr->Prop
instance:CoeFun Wd fun _=>Addr->Prop:=⟨Wd.f⟩
structure Le (F:Wd) (H:Hp) (F':Wd) (H':Hp):Prop where
 f:∀ a,F a->F' a/\H' a=H a
 p:∀ a,F.p a->F'.p a/\H' a=H a
theorem Le.refl {F:Wd} {H:Hp}:Le F H F H:=⟨fun _ h=>⟨h,rfl⟩,fun _ h=>⟨h,rfl⟩⟩
theorem Le.trans {F F1 F2:Wd} {H H1 H2:Hp} (x:Le F H F1 H1) (y:Le F1 H1 F2 H2):Le F H F2 H2 :=
 ⟨fun a h=>let ⟨p,q⟩:=x.f a h;let ⟨p2,q2⟩:=y.f a p;⟨p2,q2.trans q⟩,fun a h=>let ⟨p,q⟩:=x.p a h;let ⟨p2,q2⟩:=y.p a p;⟨p2,q2.trans q⟩⟩
section
variable (K:Fg)
def KL (a:Addr) (vs:List V):Prop:=∃ (o:Obj) (its:Array Value) (n:Nat),K.lookup a=some o/\o.cls=.type "list"/\o.dict=none/\o.data=.seq its n/\its.size<=sizeLine/\Vals vs its.toList
def StL (F:Wd) (H:Hp) (a:Addr) (vs:List V):Prop:=(F a/\Rd H a (.lst vs))∨KL K a vs
def StT (F:Wd) (H:Hp) (a:Addr) (vs:List V):Prop:=K=K/\F a/\H a=some (.tup vs)
end
section
variable {K:Fg} {F F':Wd} {H H':Hp} {a:Addr} {vs:List V}
theorem StL.sq (h:StL K F H a vs):SqL K H a vs:=by
 rcases h with ⟨_,h⟩ | h
 ·exact .inl h
 ·exact .inr h
theorem StT.sq (h:StT K F H a vs):SqT K H a vs:=SqT.of h.2.2
theorem Rd.same {u:HO} (h:Rd H a u) (e:H' a=H a):Rd H' a u:=by
 unfold Rd at *
 rw [e]
 exact h
theorem StL.le (h:StL K F H a vs) (l:Le F H F' H'):StL K F' H' a vs:=by
 rcases h with ⟨f,h⟩ | h
 ·exact .inl ⟨(l.f a f).1,FL.Rd.same h (l.f a f).2⟩
 ·exact .inr h
theorem StT.le (h:StT K F H a vs) (l:Le F H F' H'):StT K F' H' a vs:=⟨rfl,(l.f a h.2.1).1,(l.f a h.2.1).2.trans h.2.2⟩
end
def DJ (K:Fg) (c:Str):Option Addr:=match PySem.W.nsIn K mainGlobals c with
 | some (some (.ref C))=>some C
 | _=>none
section
variable (K:Fg) (F:Wd) (H:Hp)
mutual
def AQ:T->V->Prop
 | .non,v=>v=.non
 | .bl b,v=>v=.bl b
 | .int i,v=>v=.int i
 | .str x,v=>v=.str x
 | .tup ts,v=>∃ a vs,v=.ref a/\StT K F H a vs/\Ad ts vs
 | .lst ts,v=>∃ a vs,v=.ref a/\F a/\H a=some (.lst vs)/\Ad ts vs
 | .scr ts,v=>∃ a vs,v=.ref a/\StL K F H a vs/\Ad ts vs
 | .dK ks ts,v=>∃ a kvs,v=.ref a/\F a/\Rd H a (.dK kvs)/\kvs.map (·.1)=ks/\Ad ts (kvs.map (·.2))
 | .dT ks ts,v=>∃ a kvs,v=.ref a/\F a/\H a=some (.dT kvs)/\kvs.map (·.1)=ks/\Ad ts (kvs.map (·.2))
 | .ins C fs ts,v=>∃ a dx kvs,v=.ref a/\F a/\H a=some (.ins C dx kvs)/\kvs.map (·.1)=fs/\Ad ts (kvs.map (·.2))
 | .dF ks ts,v=>∃ a kvs,v=.ref a/\F a/\(∃ o,H a=some (.frz o (.dK kvs)))/\kvs.map (·.1)=ks/\Ad ts (kvs.map (·.2))
 | .exn c,v=>∃ a C,v=.ref a/\F a/\H a=some (exO (.ref C) a)/\DJ K c=some C
def Ad:List T->List V->Prop
 | [],vs=>vs=[]
 | t :: ts,vs=>∃ v r,vs=v :: r/\AQ t v/\Ad ts r
end
mutual
def AK:FO->V->List Addr->Prop
 | .val t,v,L=>L=[]/\AQ K F H t v
 | .lst ts,v,L=>∃ a vs,v=.ref a/\H a=some (.lst vs)/\Ad K F H ts vs/\L=[a]
 | .dK ks ts,v,L=>∃ a kvs,v=.ref a/\H a=some (.dK kvs)/\kvs.map (·.1)=ks/\Ad K F H ts (kvs.map (·.2))/\L=[a]
 | .dT ks ts,v,L=>∃ a kvs,v=.ref a/\H a=some (.dT kvs)/\kvs.map (·.1)=ks/\Ad K F H ts (kvs.map (·.2))/\L=[a]
 | .ins C fs os,v,L=>∃ a dx kvs L',v=.ref a/\H a=some (.ins C dx kvs)/\kvs.map (·.1)=fs/\AA os (kvs.map (·.2)) L'/\L=a :: L'
 | .los os,v,L=>∃ a vs L',v=.ref a/\H a=some (.lst vs)/\AA os vs L'/\L=a :: L'
 | .tpl os,v,L=>∃ a vs L',v=.ref a/\H a=some (.tup vs)/\AA os vs L'/\L=a :: L'
def AA:List FO->List V->List Addr->Prop
 | [],vs,L=>vs=[]/\L=[]
 | o :: os,vs,L=>∃ v r L1 L2,vs=v :: r/\AK o v L1/\AA os r L2/\L=L1++L2
end
mutual
def toT:FO->T
 | .val t=>t
 | .lst ts=>.lst ts
 | .dK ks ts=>.dK ks ts
 | .dT ks ts=>.dT ks ts
 | .ins C fs os=>.ins C fs (Pg os)
 | .los os=>.lst (Pg os)
 | .tpl os=>.tup (Pg os)
def Pg:List FO->List T
 | []=>[]
 | o :: os=>toT o :: Pg os
end
def Az:FS->St->List Addr->Prop
 | [],σ,L=>σ=[]/\L=[]
 | none :: r,σ,L=>∃ v σ',σ=v :: σ'/\Az r σ' L
 | some (.val t) :: r,σ,L=>∃ v σ',σ=some v :: σ'/\AQ K F H t v/\Az r σ' L
 | some (.own o) :: r,σ,L=>∃ v σ' L1 L2,σ=some v :: σ'/\AK K F H o v L1/\Az r σ' L2/\L=L1++L2
 | some (.bor o) :: r,σ,L=>∃ v σ' L1 L2,σ=some v :: σ'/\AK K F H o v L1/\Az r σ' L2/\L=L1++L2
end
section
variable {K:Fg} {F F':Wd} {H H':Hp}
mutual
theorem AQ.le (l:Le F H F' H'):∀ {t:T} {v:V},AQ K F H t v->AQ K F' H' t v
 | .non,_,h=>h
 | .bl _,_,h=>h
 | .int _,_,h=>h
 | .str _,_,h=>h
 | .tup ts,_,h=>by
  simp only [AQ] at h ⊢
  obtain ⟨a,vs,e,s,r⟩:=h
  exact ⟨a,vs,e,s.le l,Ad.le l r⟩
 | .lst ts,_,h=>by
  simp only [AQ] at h ⊢
  obtain ⟨a,vs,e,f,s,r⟩:=h
  exact ⟨a,vs,e,(l.f a f).1,(l.f a f).2.trans s,Ad.le l r⟩
 | .scr ts,_,h=>by
  simp only [AQ] at h ⊢
  obtain ⟨a,vs,e,s,r⟩:=h
  exact ⟨a,vs,e,s.le l,Ad.le l r⟩
 | .dK ks ts,_,h=>by
  simp only [AQ] at h ⊢
  obtain ⟨a,kvs,e,f,s,k,r⟩:=h
  exact ⟨a,kvs,e,(l.f a f).1,FL.Rd.same s (l.f a f).2,k,Ad.le l r⟩
 | .dT ks ts,_,h=>by
  simp only [AQ] at h ⊢
  obtain ⟨a,kvs,e,f,s,k,r⟩:=h
  exact ⟨a,kvs,e,(l.f a f).1,(l.f a f).2.trans s,k,Ad.le l r⟩
 | .ins C fs ts,_,h=>by
  simp only [AQ] at h ⊢
  obtain ⟨a,dx,kvs,e,f,s,k,r⟩:=h
  exact ⟨a,dx,kvs,e,(l.f a f).1,(l.f a f).2.trans s,k,Ad.le l r⟩
 | .dF ks ts,_,h=>by
  simp only [AQ] at h ⊢
  obtain ⟨a,kvs,e,f,⟨o,s⟩,k,r⟩:=h
  exact ⟨a,kvs,e,(l.f a f).1,⟨o,(l.f a f).2.trans s⟩,k,Ad.le l r⟩
 | .exn c,_,h=>by
  simp only [AQ] at h ⊢
  obtain ⟨a,C,e,f,s,k⟩:=h
  exact ⟨a,C,e,(l.f a f).1,(l.f a f).2.trans s,k⟩
theorem Ad.le (l:Le F H F' H'):∀ {ts:List T} {vs:List V},Ad K F H ts vs->Ad K F' H' ts vs
 | [],_,h=>h
 | t :: ts,_,h=>by
  simp only [Ad] at h ⊢
  obtain ⟨v,r,e,h1,h2⟩:=h
  exact ⟨v,r,e,AQ.le l h1,Ad.le l h2⟩
end
theorem Ad.len:∀ {ts:List T} {vs:List V},Ad K F H ts vs->vs.length=ts.length
 | [],_,h=>by simp only [Ad] at h;subst h;rfl
 | t :: ts,_,h=>by
  simp only [Ad] at h
  obtain ⟨v,r,rfl,_,h2⟩:=h
  simp [Ad.len h2]
theorem Ad.at:∀ {ts:List T} {vs:List V} {i:Nat} {t:T},Ad K F H ts vs->ts[i]?=some t->∃ v,vs[i]?=some v/\AQ K F H t v
 | [],_,_,_,_,e=>by simp at e
 | t :: ts,_,0,_,h,e=>by
  simp only [Ad] at h
  obtain ⟨v,r,rfl,h1,_⟩:=h
  simp at e;subst e
  exact ⟨v,rfl,h1⟩
 | t :: ts,_,i+1,_,h,e=>by
  simp only [Ad] at h
  obtain ⟨v,r,rfl,_,h2⟩:=h
  obtain ⟨u,e1,e2⟩:=Ad.at (i:=i) h2 (by simpa using e)
  exact ⟨u,by simpa using e1,e2⟩
theorem Ad.app:∀ {ts us:List T} {vs ws:List V},Ad K F H ts vs->Ad K F H us ws->Ad K F H (ts++us) (vs++ws)
 | [],_,_,_,h,h'=>by simp only [Ad] at h;subst h;exact h'
 | t :: ts,us,_,ws,h,h'=>by
  simp only [Ad] at h
  obtain ⟨v,r,rfl,h1,h2⟩:=h
  show Ad K F H (t :: (ts++us)) (v :: (r++ws))
  simp only [Ad]
  exact ⟨v,r++ws,rfl,h1,Ad.app h2 h'⟩
theorem Ad.one {t:T} {v:V} (h:AQ K F H t v):Ad K F H [t] [v]:=by
 simp only [Ad]
 exact ⟨v,[],rfl,h,rfl⟩
theorem Ad.take:∀ {ts:List T} {vs:List V} (n:Nat),Ad K F H ts vs->Ad K F H (ts.take n) (vs.take n)
 | [],_,n,h=>by simp only [Ad] at h;subst h;simp [Ad]
 | t :: ts,_,0,h=>by simp [Ad]
 | t :: ts,_,n+1,h=>by
  simp only [Ad] at h
  obtain ⟨v,r,rfl,h1,h2⟩:=h
  simp only [List.take_succ_cons,Ad]
  exact ⟨v,_,rfl,h1,Ad.take n h2⟩
theorem Ad.drop:∀ {ts:List T} {vs:List V} (n:Nat),Ad K F H ts vs->Ad K F H (ts.drop n) (vs.drop n)
 | [],_,n,h=>by simp only [Ad] at h;subst h;simp [Ad]
 | t :: ts,_,0,h=>by simpa using h
 | t :: ts,_,n+1,h=>by
  simp only [Ad] at h
  obtain ⟨v,r,rfl,h1,h2⟩:=h
  simp only [List.drop_succ_cons]
  exact Ad.drop n h2
theorem Ad.set {t:T} {v:V} (q:AQ K F H t v):∀ {ts:List T} {vs:List V} (n:Nat),Ad K F H ts vs->Ad K F H (ts.set n t) (vs.set n v)
 | [],_,n,h=>by simp only [Ad] at h;subst h;simp [Ad]
 | u :: ts,_,0,h=>by
  simp only [Ad] at h
  obtain ⟨w,r,rfl,h1,h2⟩:=h
  simp only [List.set_cons_zero,Ad]
  exact ⟨v,r,rfl,q,h2⟩
 | u :: ts,_,n+1,h=>by
  simp only [Ad] at h
  obtain ⟨w,r,rfl,h1,h2⟩:=h
  simp only [List.set_cons_succ,Ad]
  exact ⟨w,_,rfl,h1,Ad.set q n h2⟩
theorem Ad.rev:∀ {ts:List T} {vs:List V},Ad K F H ts vs->Ad K F H ts.reverse vs.reverse
 | [],_,h=>by simp only [Ad] at h;subst h;simp [Ad]
 | t :: ts,_,h=>by
  simp only [Ad] at h
  obtain ⟨v,r,rfl,h1,h2⟩:=h
  rw [List.reverse_cons,List.reverse_cons]
  exact Ad.app (Ad.rev h2) (Ad.one h1)
mutual
theorem AK.le (l:Le F H F' H'):∀ {o:FO} {v:V} {L:List Addr},(∀ a∈L,H' a=H a)->AK K F H o v L->AK K F' H' o v L
 | .val t,_,L,k,h=>by
  simp only [AK] at h ⊢
  exact ⟨h.1,h.2.le l⟩
 | .lst ts,_,L,k,h=>by
  simp only [AK] at h ⊢
  obtain ⟨a,vs,e,s,r,rfl⟩:=h
  exact ⟨a,vs,e,(k a (by simp)).trans s,r.le l,rfl⟩
 | .dK ks ts,_,L,k,h=>by
  simp only [AK] at h ⊢
  obtain ⟨a,vs,e,s,q,r,rfl⟩:=h
  exact ⟨a,vs,e,(k a (by simp)).trans s,q,r.le l,rfl⟩
 | .dT ks ts,_,L,k,h=>by
  simp only [AK] at h ⊢
  obtain ⟨a,vs,e,s,q,r,rfl⟩:=h
  exact ⟨a,vs,e,(k a (by simp)).trans s,q,r.le l,rfl⟩
 | .ins C fs os,_,L,k,h=>by
  simp only [AK] at h ⊢
  obtain ⟨a,dx,kvs,L',e,s,q,r,rfl⟩:=h
  exact ⟨a,dx,kvs,L',e,(k a (by simp)).trans s,q,AA.le l (fun b hb=>k b (List.mem_cons_of_mem _ hb)) r,rfl⟩
 | .los os,_,L,k,h=>by
  simp only [AK] at h ⊢
  obtain ⟨a,vs,L',e,s,r,rfl⟩:=h
  exact ⟨a,vs,L',e,(k a (by simp)).trans s,AA.le l (fun b hb=>k b (List.mem_cons_of_mem _ hb)) r,rfl⟩
 | .tpl os,_,L,k,h=>by
  simp only [AK] at h ⊢
  obtain ⟨a,vs,L',e,s,r,rfl⟩:=h
  exact ⟨a,vs,L',e,(k a (by simp)).trans s,AA.le l (fun b hb=>k b (List.mem_cons_of_mem _ hb)) r,rfl⟩
theorem AA.le (l:Le F H F' H'):∀ {os:List FO} {vs:List V} {L:List Addr},(∀ a∈L,H' a=H a)->AA K F H os vs L->AA K F' H' os vs L
 | [],_,L,k,h=>h
 | o :: os,_,L,k,h=>by
  simp only [AA] at h ⊢
  obtain ⟨v,r,L1,L2,e,h1,h2,rfl⟩:=h
  exact ⟨v,r,L1,L2,e,AK.le l (fun a ha=>k a (List.mem_append_left _ ha)) h1,AA.le l (fun a ha=>k a (List.mem_append_right _ ha)) h2,rfl⟩
end
mutual
theorem AK.def:∀ {o:FO} {v:V} {L:List Addr},AK K F H o v L->∀ a∈L,H a≠none
 | .val t,_,L,h,a,m=>by
  simp only [AK] at h
  rw [h.1] at m
  cases m
 | .lst ts,_,L,h,a,m=>by
  simp only [AK] at h
  obtain ⟨b,vs,e,s,r,rfl⟩:=h
  rw [List.mem_singleton.mp m,s]
  simp
 | .dK ks ts,_,L,h,a,m=>by
  simp only [AK] at h
  obtain ⟨b,vs,e,s,q,r,rfl⟩:=h
  rw [List.mem_singleton.mp m,s]
  simp
 | .dT ks ts,_,L,h,a,m=>by
  simp only [AK] at h
  obtain ⟨b,vs,e,s,q,r,rfl⟩:=h
  rw [List.mem_singleton.mp m,s]
  simp
 | .ins C fs os,_,L,h,a,m=>by
  simp only [AK] at h
  obtain ⟨b,dx,kvs,L',e,s,q,r,rfl⟩:=h
  rcases List.mem_cons.mp m with m | m
  ·rw [m,s]
   simp
  ·exact AA.def r a m
 | .los os,_,L,h,a,m=>by
  simp only [AK] at h
  obtain ⟨b,vs,L',e,s,r,rfl⟩:=h
  rcases List.mem_cons.mp m with m | m
  ·rw [m,s]
   simp
  ·exact AA.def r a m
 | .tpl os,_,L,h,a,m=>by
  simp only [AK] at h
  obtain ⟨b,vs,L',e,s,r,rfl⟩:=h
  rcases List.mem_cons.mp m with m | m
  ·rw [m,s]
   simp
  ·exact AA.def r a m
theorem AA.def:∀ {os:List FO} {vs:List V} {L:List Addr},AA K F H os vs L->∀ a∈L,H a≠none
 | [],_,L,h,a,m=>by
  simp only [AA] at h
  rw [h.2] at m
  cases m
 | o :: os,_,L,h,a,m=>by
  simp only [AA] at h
  obtain ⟨v,r,L1,L2,e,h1,h2,rfl⟩:=h
  rcases List.mem_append.mp m with m | m
  ·exact AK.def h1 a m
  ·exact AA.def h2 a m
end
mutual
theorem AK.frz (l:Le F H F' H):∀ {o:FO} {v:V} {L:List Addr},(∀ a∈L,F' a)->AK K F H o v L->AQ K F' H (toT o) v
 | .val t,_,L,k,h=>by
  simp only [AK] at h
  exact AQ.le l h.2
 | .lst ts,_,L,k,h=>by
  simp only [AK] at h
  obtain ⟨a,vs,e,s,r,rfl⟩:=h
  simp only [toT,AQ]
  exact ⟨a,vs,e,k a (by simp),s,Ad.le l r⟩
 | .dK ks ts,_,L,k,h=>by
  simp only [AK] at h
  obtain ⟨a,vs,e,s,q,r,rfl⟩:=h
  simp only [toT,AQ]
  exact ⟨a,vs,e,k a (by simp),.inl s,q,Ad.le l r⟩
 | .dT ks ts,_,L,k,h=>by
  simp only [AK] at h
  obtain ⟨a,vs,e,s,q,r,rfl⟩:=h
  simp only [toT,AQ]
  exact ⟨a,vs,e,k a (by simp),s,q,Ad.le l r⟩
 | .ins C fs os,_,L,k,h=>by
  simp only [AK] at h
  obtain ⟨a,dx,kvs,L',e,s,q,r,rfl⟩:=h
  simp only [toT,AQ]
  exact ⟨a,dx,kvs,e,k a (by simp),s,q,AA.frz l (fun b hb=>k b (List.mem_cons_of_mem _ hb)) r⟩
 | .los os,_,L,k,h=>by
  simp only [AK] at h
  obtain ⟨a,vs,L',e,s,r,rfl⟩:=h
  simp only [toT,AQ]
  exact ⟨a,vs,e,k a (by simp),s,AA.frz l (fun b hb=>k b (List.mem_cons_of_mem _ hb)) r⟩
 | .tpl os,_,L,k,h=>by
  simp only [AK] at h
  obtain ⟨a,vs,L',e,s,r,rfl⟩:=h
  simp only [toT,AQ]
  exact ⟨a,vs,e,⟨rfl,k a (by simp),s⟩,AA.frz l (fun b hb=>k b (List.mem_cons_of_mem _ hb)) r⟩
theorem AA.frz (l:Le F H F' H):∀ {os:List FO} {vs:List V} {L:List Addr},(∀ a∈L,F' a)->AA K F H os vs L->Ad K F' H (Pg os) vs
 | [],_,L,k,h=>by
  simp only [AA] at h
  simp only [Pg,Ad]
  exact h.1
 | o :: os,_,L,k,h=>by
  simp only [AA] at h
  obtain ⟨v,r,L1,L2,e,h1,h2,rfl⟩:=h
  simp only [Pg,Ad]
  exact ⟨v,r,e,AK.frz l (fun a ha=>k a (List.mem_append_left _ ha)) h1,AA.frz l (fun a ha=>k a (List.mem_append_right _ ha)) h2⟩
end
theorem Az.len:∀ {fs:FS} {σ:St} {L:List Addr},Az K F H fs σ L->σ.length=fs.length
 | [],_,_,h=>by simp only [Az] at h;rw [h.1];rfl
 | none :: r,_,_,h=>by
  simp only [Az] at h
  obtain ⟨v,σ',rfl,h⟩:=h
  simp [Az.len h]
 | some (.val t) :: r,_,_,h=>by
  simp only [Az] at h
  obtain ⟨v,σ',rfl,_,h⟩:=h
  simp [Az.len h]
 | some (.own t) :: r,_,_,h=>by
  simp only [Az] at h
  obtain ⟨v,σ',L1,L2,rfl,_,h,_⟩:=h
  simp [Az.len h]
 | some (.bor t) :: r,_,_,h=>by
  simp only [Az] at h
  obtain ⟨v,σ',L1,L2,rfl,_,h,_⟩:=h
  simp [Az.len h]
theorem Az.le (l:Le F H F' H'):∀ {fs:FS} {σ:St} {L:List Addr},(∀ a∈L,H' a=H a)->Az K F H fs σ L->Az K F' H' fs σ L
 | [],_,_,k,h=>h
 | none :: r,_,_,k,h=>by
  simp only [Az] at h ⊢
  obtain ⟨v,σ',e,h⟩:=h
  exact ⟨v,σ',e,Az.le l k h⟩
 | some (.val t) :: r,_,_,k,h=>by
  simp only [Az] at h ⊢
  obtain ⟨v,σ',e,q,h⟩:=h
  exact ⟨v,σ',e,q.le l,Az.le l k h⟩
 | some (.own t) :: r,_,_,k,h=>by
  simp only [Az] at h ⊢
  obtain ⟨v,σ',L1,L2,e,q,h,rfl⟩:=h
  exact ⟨v,σ',L1,L2,e,q.le l fun a ha=>k a (List.mem_append_left _ ha),Az.le l (fun a ha=>k a (List.mem_append_right _ ha)) h,rfl⟩
 | some (.bor t) :: r,_,_,k,h=>by
  simp only [Az] at h ⊢
  obtain ⟨v,σ',L1,L2,e,q,h,rfl⟩:=h
  exact ⟨v,σ',L1,L2,e,q.le l fun a ha=>k a (List.mem_append_left _ ha),Az.le l (fun a ha=>k a (List.mem_append_right _ ha)) h,rfl⟩
theorem Az.def:∀ {fs:FS} {σ:St} {L:List Addr},Az K F H fs σ L->∀ a∈L,H a≠none
 | [],_,_,h,a,m=>by simp only [Az] at h;rw [h.2] at m;cases m
 | none :: r,_,_,h,a,m=>by
  simp only [Az] at h
  obtain ⟨v,σ',e,h⟩:=h
  exact Az.def h a m
 | some (.val t) :: r,_,_,h,a,m=>by
  simp only [Az] at h
  obtain ⟨v,σ',e,q,h⟩:=h
  exact Az.def h a m
 | some (.own t) :: r,_,_,h,a,m=>by
  simp only [Az] at h
  obtain ⟨v,σ',L1,L2,e,q,h,rfl⟩:=h
  rcases List.mem_append.mp m with m | m
  ·exact q.def a m
  ·exact Az.def h a m
 | some (.bor t) :: r,_,_,h,a,m=>by
  simp only [Az] at h
  obtain ⟨v,σ',L1,L2,e,q,h,rfl⟩:=h
  rcases List.mem_append.mp m with m | m
  ·exact q.def a m
  ·exact Az.def h a m
def J0 (K:Fg) (F:Wd) (H:Hp):Option Sl->Option V->List Addr->Prop
 | none,_,L=>L=[]
 | some (.val t),v,L=>∃ u,v=some u/\AQ K F H t u/\L=[]
 | some (.own o),v,L=>∃ u,v=some u/\AK K F H o u L
 | some (.bor o),v,L=>∃ u,v=some u/\AK K F H o u L
theorem Az.cons {s:Option Sl} {r:FS} {v:Option V} {σ:St} {L1 L2:List Addr} (h1:J0 K F H s v L1) (h2:Az K F H r σ L2):Az K F H (s :: r) (v :: σ) (L1++L2):=by
 cases s with
 | none =>
  simp only [J0] at h1
  subst h1
  simp only [Az]
  exact ⟨v,σ,rfl,h2⟩
 | some s =>
  cases s with
  | val t =>
   simp only [J0] at h1
   obtain ⟨u,rfl,q,rfl⟩:=h1
   simp only [Az]
   exact ⟨u,σ,rfl,q,h2⟩
  | own o =>
   simp only [J0] at h1
   obtain ⟨u,rfl,q⟩:=h1
   simp only [Az]
   exact ⟨u,σ,L1,L2,rfl,q,h2,rfl⟩
  | bor o =>
   simp only [J0] at h1
   obtain ⟨u,rfl,q⟩:=h1
   simp only [Az]
   exact ⟨u,σ,L1,L2,rfl,q,h2,rfl⟩
theorem Az.IX {s:Option Sl} {r:FS} {σ:St} {L:List Addr} (h:Az K F H (s :: r) σ L):∃ v σ' L1 L2,σ=v :: σ'/\J0 K F H s v L1/\Az K F H r σ' L2/\L=L1++L2:=by
 cases s with
 | none =>
  simp only [Az] at h
  obtain ⟨v,σ',rfl,h⟩:=h
  exact ⟨v,σ',[],L,rfl,rfl,h,rfl⟩
 | some s =>
  cases s with
  | val t =>
   simp only [Az] at h
   obtain ⟨v,σ',rfl,q,h⟩:=h
   exact ⟨some v,σ',[],L,rfl,⟨v,rfl,q,rfl⟩,h,rfl⟩
  | own o =>
   simp only [Az] at h
   obtain ⟨v,σ',L1,L2,rfl,q,h,rfl⟩:=h
   exact ⟨some v,σ',L1,L2,rfl,⟨v,rfl,q⟩,h,rfl⟩
  | bor o =>
   simp only [Az] at h
   obtain ⟨v,σ',L1,L2,rfl,q,h,rfl⟩:=h
   exact ⟨some v,σ',L1,L2,rfl,⟨v,rfl,q⟩,h,rfl⟩
theorem Az.pick:∀ {fs:FS} {σ:St} {L:List Addr} {i:Nat} {s:Option Sl},Az K F H fs σ L->fs[i]?=some s->∃ v L1 L2 L3,σ[i]?=some v/\L=L1++(L2++L3)/\J0 K F H s v L2 /\
  ∀ (F':Wd) (H':Hp) (s':Option Sl) (v':Option V) (L2':List Addr),Le F H F' H'->(∀ a∈L1++L3,H' a=H a)->J0 K F' H' s' v' L2'->Az K F' H' (fs.set i s') (σ.set i v') (L1++(L2'++L3))
 | [],_,_,_,_,_,e=>by simp at e
 | s :: r,_,_,0,_,h,e=>by
  obtain ⟨v,σ',L1,L2,rfl,h1,h2,rfl⟩:=h.IX
  simp at e
  subst e
  refine ⟨v,[],L1,L2,rfl,rfl,h1,fun F' H' s' v' L2' l k q=>?_⟩
  have h3:=Az.cons q (h2.le l fun a ha=>k a (by simpa using ha))
  exact h3
 | s :: r,_,_,i+1,_,h,e=>by
  obtain ⟨v,σ',L1,L2,rfl,h1,h2,rfl⟩:=h.IX
  obtain ⟨w,M1,M2,M3,e1,rfl,h3,h4⟩:=Az.pick (i:=i) h2 (by simpa using e)
  refine ⟨w,L1++M1,M2,M3,by simpa using e1,by simp,h3,fun F' H' s' v' L2' l k q=>?_⟩
  have h5:=h4 F' H' s' v' L2' l (fun a ha=>k a (by simp at ha ⊢;rcases ha with ha | ha;exact .inr (.inl ha);exact .inr (.inr ha))) q
  have h6:J0 K F' H' s v L1:=by
   cases s with
   | none=>exact h1
   | some s =>
    cases s with
    | val t =>
     obtain ⟨u,e,q,z⟩:=h1
     exact ⟨u,e,q.le l,z⟩
    | own o =>
     obtain ⟨u,e,q⟩:=h1
     exact ⟨u,e,q.le l fun a ha=>k a (by simp [ha])⟩
    | bor o =>
     obtain ⟨u,e,q⟩:=h1
     exact ⟨u,e,q.le l fun a ha=>k a (by simp [ha])⟩
  have h7:=Az.cons h6 h5
  simpa using h7
mutual
theorem AQ.wp {p:Addr->Prop}:∀ {t:T} {v:V},AQ K F H t v->AQ K ⟨F.f,p⟩ H t v
 | .non,_,h=>h
 | .bl _,_,h=>h
 | .int _,_,h=>h
 | .str _,_,h=>h
 | .tup ts,_,h=>by
  simp only [AQ] at h ⊢
  obtain ⟨a,vs,e,s,r⟩:=h
  exact ⟨a,vs,e,s,Ad.wp r⟩
 | .lst ts,_,h=>by
  simp only [AQ] at h ⊢
  obtain ⟨a,vs,e,f,s,r⟩:=h
  exact ⟨a,vs,e,f,s,Ad.wp r⟩
 | .scr ts,_,h=>by
  simp only [AQ] at h ⊢
  obtain ⟨a,vs,e,s,r⟩:=h
  exact ⟨a,vs,e,s,Ad.wp r⟩
 | .dK ks ts,_,h=>by
  simp only [AQ] at h ⊢
  obtain ⟨a,kvs,e,f,s,k,r⟩:=h
  exact ⟨a,kvs,e,f,s,k,Ad.wp r⟩
 | .dT ks ts,_,h=>by
  simp only [AQ] at h ⊢
  obtain ⟨a,kvs,e,f,s,k,r⟩:=h
  exact ⟨a,kvs,e,f,s,k,Ad.wp r⟩
 | .ins C fs ts,_,h=>by
  simp only [AQ] at h ⊢
  obtain ⟨a,dx,kvs,e,f,s,k,r⟩:=h
  exact ⟨a,dx,kvs,e,f,s,k,Ad.wp r⟩
 | .dF ks ts,_,h=>by
  simp only [AQ] at h ⊢
  obtain ⟨a,kvs,e,f,s,k,r⟩:=h
  exact ⟨a,kvs,e,f,s,k,Ad.wp r⟩
 | .exn c,_,h=>by
  simp only [AQ] at h ⊢
  obtain ⟨a,C,e,f,s,k⟩:=h
  exact ⟨a,C,e,f,s,k⟩
theorem Ad.wp {p:Addr->Prop}:∀ {ts:List T} {vs:List V},Ad K F H ts vs->Ad K ⟨F.f,p⟩ H ts vs
 | [],_,h=>h
 | t :: ts,_,h=>by
  simp only [Ad] at h ⊢
  obtain ⟨v,r,e,h1,h2⟩:=h
  exact ⟨v,r,e,AQ.wp h1,Ad.wp h2⟩
end
mutual
theorem AK.wp {p:Addr->Prop}:∀ {o:FO} {v:V} {L:List Addr},AK K F H o v L->AK K ⟨F.f,p⟩ H o v L
 | .val t,_,L,h=>by
  simp only [AK] at h ⊢
  exact ⟨h.1,h.2.wp⟩
 | .lst ts,_,L,h=>by
  simp only [AK] at h ⊢
  obtain ⟨a,vs,e,s,r,q⟩:=h
  exact ⟨a,vs,e,s,r.wp,q⟩
 | .dK ks ts,_,L,h=>by
  simp only [AK] at h ⊢
  obtain ⟨a,vs,e,s,q,r,z⟩:=h
  exact ⟨a,vs,e,s,q,r.wp,z⟩
 | .dT ks ts,_,L,h=>by
  simp only [AK] at h ⊢
  obtain ⟨a,vs,e,s,q,r,z⟩:=h
  exact ⟨a,vs,e,s,q,r.wp,z⟩
 | .ins C fs os,_,L,h=>by
  simp only [AK] at h ⊢
  obtain ⟨a,dx,kvs,L',e,s,q,r,z⟩:=h
  exact ⟨a,dx,kvs,L',e,s,q,AA.wp r,z⟩
 | .los os,_,L,h=>by
  simp only [AK] at h ⊢
  obtain ⟨a,vs,L',e,s,r,z⟩:=h
  exact ⟨a,vs,L',e,s,AA.wp r,z⟩
 | .tpl os,_,L,h=>by
  simp only [AK] at h ⊢
  obtain ⟨a,vs,L',e,s,r,z⟩:=h
  exact ⟨a,vs,L',e,s,AA.wp r,z⟩
theorem AA.wp {p:Addr->Prop}:∀ {os:List FO} {vs:List V} {L:List Addr},AA K F H os vs L->AA K ⟨F.f,p⟩ H os vs L
 | [],_,L,h=>h
 | o :: os,_,L,h=>by
  simp only [AA] at h ⊢
  obtain ⟨v,r,L1,L2,e,h1,h2,z⟩:=h
  exact ⟨v,r,L1,L2,e,AK.wp h1,AA.wp h2,z⟩
end
theorem Az.wp {p:Addr->Prop}:∀ {fs:FS} {σ:St} {L:List Addr},Az K F H fs σ L->Az K ⟨F.f,p⟩ H fs σ L
 | [],_,_,h=>h
 | none :: r,_,_,h=>by
  simp only [Az] at h ⊢
  obtain ⟨v,σ',e,h⟩:=h
  exact ⟨v,σ',e,Az.wp h⟩
 | some (.val t) :: r,_,_,h=>by
  simp only [Az] at h ⊢
  obtain ⟨v,σ',e,q,h⟩:=h
  exact ⟨v,σ',e,q.wp,Az.wp h⟩
 | some (.own t) :: r,_,_,h=>by
  simp only [Az] at h ⊢
  obtain ⟨v,σ',L1,L2,e,q,h,z⟩:=h
  exact ⟨v,σ',L1,L2,e,q.wp,Az.wp h,z⟩
 | some (.bor t) :: r,_,_,h=>by
  simp only [Az] at h ⊢
  obtain ⟨v,σ',L1,L2,e,q,h,z⟩:=h
  exact ⟨v,σ',L1,L2,e,q.wp,Az.wp h,z⟩
theorem J0.le (l:Le F H F' H') {s:Option Sl} {v:Option V} {L:List Addr} (k:∀ a∈L,H' a=H a) (h:J0 K F H s v L):J0 K F' H' s v L:=by
 cases s with
 | none=>exact h
 | some s =>
  cases s with
  | val t =>
   obtain ⟨u,e,q,z⟩:=h
   exact ⟨u,e,q.le l,z⟩
  | own o =>
   obtain ⟨u,e,q⟩:=h
   exact ⟨u,e,q.le l k⟩
  | bor o =>
   obtain ⟨u,e,q⟩:=h
   exact ⟨u,e,q.le l k⟩
end
def Hd (B:Nat->Option V) (fs:FS) (σ:St):Prop:=∀ (i:Nat) (o:FO),fs[i]?=some (some (.bor o))->∃ v,σ[i]?=some (some v)/\B i=some v
structure Ok (K:Fg) (F:Wd) (B:Nat->Option V) (H:Hp) (fs:FS) (σ:St) (L:List Addr):Prop where
 sl:Az K F H fs σ L
 nd:L.Nodup
 nf:∀ a∈L,¬ F a
 fd:∀ a,F a->H a≠none
 bo:Hd B fs σ
 pd:∀ a,F.p a->H a≠none
 pf:∀ a,F a->¬ F.p a
 pl:∀ a∈L,¬ F.p a
def Okk (K:Fg) (F:Wd) (B:Nat->Option V) (H:Hp) (fs:FS) (σ:St):Prop:=∃ L,Ok K F B H fs σ L
structure Xp where
 p:Wd->(Nat->Option V)->Hp->Str->FS->Prop
 mono:∀ {F:Wd} {B:Nat->Option V} {H:Hp} {c:Str} {fs:FS} {F':Wd} {H':Hp},p F B H c fs->Le F H F' H'->p F' B H' c fs
def Xp.no:Xp:=⟨fun _ _ _ _ _=>False,fun h _=>h⟩
def sat (Z:Xp) (B:Nat->Option V) {α β:Type} (R:Wd->Hp->FS->α->β->Prop) (F:Wd) (H:Hp) (o:Out α) (Q:β->Hp->Prop):Prop :=
 match o with
 | .ok a fs=>∀ F' H' b,Le F H F' H'->R F' H' fs a b->Q b H'
 | .exc c fs=>Z.p F B H c fs
 | .bad=>False
theorem sat.le {Z:Xp} {B:Nat->Option V} {α β:Type} {R:Wd->Hp->FS->α->β->Prop} {F F':Wd} {H H':Hp} {o:Out α} {Q:β->Hp->Prop} (h:sat Z B R F H o Q) (l:Le F H F' H'):sat Z B R F' H' o Q:=by
 cases o with
 | ok a fs=>exact fun F2 H2 b l2 r=>h F2 H2 b (l.trans l2) r
 | exc c fs=>exact Z.mono h l
 | bad=>exact h
def Out.bind {α β:Type} (o:Out α) (k:α->FS->Out β):Out β:=match o with
 | .ok a fs=>k a fs
 | .exc c fs=>.exc c fs
 | .bad=>.bad
theorem AU {Z:Xp} {B:Nat->Option V} {α β γ δ:Type} {R1:Wd->Hp->FS->α->β->Prop} {R2:Wd->Hp->FS->γ->δ->Prop} {F:Wd} {H:Hp} {o:Out α} {k:α->FS->Out γ} {Q:δ->Hp->Prop} {Q':β->Hp->Prop}
  (h:sat Z B R2 F H (o.bind k) Q) (hk:∀ a fs F' H' b,Le F H F' H'->R1 F' H' fs a b->sat Z B R2 F' H' (k a fs) Q->Q' b H'):sat Z B R1 F H o Q':=by
 cases o with
 | ok a fs=>exact fun F2 H2 b l r=>hk a fs F2 H2 b l r (sat.le h l)
 | exc c fs=>exact h
 | bad=>exact h
def MI (K:Fg) (F:Wd) (H:Hp) (σ:St):Rv->V->List Addr->Prop
 | .t t,v,L=>L=[]/\AQ K F H t v
 | .nw o,v,L=>AK K F H o v L
 | .rf i,v,L=>L=[]/\σ[i]?=some (some v)
def RR (K:Fg) (B:Nat->Option V) (σ:St):Wd->Hp->FS->Rv->V->Prop:=fun F H fs r u=>∃ L L',Ok K F B H fs σ L/\MI K F H σ r u L'/\(L++L').Nodup/\∀ a∈L',¬ F a/\¬ F.p a
def CM (K:Fg) (F:Wd) (H:Hp) (σ:St):Rv->V->Prop
 | .t t,v=>AQ K F H t v
 | .nw _,_=>False
 | .rf i,v=>σ[i]?=some (some v)
def Out.bnd {α:Type} (o:Out Rv) (k:Rv->FS->Out α):Out α:=o.bind fun r fs=>match r with
 | .nw _=>.bad
 | .t t=>k (.t t) fs
 | .rf i=>k (.rf i) fs
section
variable {K:Fg} {Z:Xp} {B:Nat->Option V} {F F':Wd} {H H':Hp} {σ:St} {fs:FS} {r:Rv} {u:V}
theorem CM.le (h:CM K F H σ r u) (l:Le F H F' H'):CM K F' H' σ r u:=by
 cases r with
 | t t=>exact AQ.le l h
 | nw o=>exact h
 | rf i=>exact h
theorem RR.of (h:Okk K F B H fs σ) (q:CM K F H σ r u):RR K B σ F H fs r u:=by
 obtain ⟨L,h⟩:=h
 refine ⟨L,[],h,?_,by simpa using h.nd,(fun _ m=>nomatch m)⟩
 cases r with
 | t t=>exact ⟨rfl,q⟩
 | nw o=>exact q.elim
 | rf i=>exact ⟨rfl,q⟩
theorem RR.ok (h:RR K B σ F H fs r u):Okk K F B H fs σ:=let ⟨L,_,h,_⟩:=h;⟨L,h⟩
theorem A2 {γ δ:Type} {R2:Wd->Hp->FS->γ->δ->Prop} {o:Out Rv} {k:Rv->FS->Out γ} {Q:δ->Hp->Prop} {Q':V->Hp->Prop}
  (h:sat Z B R2 F H (o.bnd k) Q) (hk:∀ r fs F' H' u,Le F H F' H'->Okk K F' B H' fs σ->CM K F' H' σ r u->sat Z B R2 F' H' (k r fs) Q->Q' u H'):sat Z B (RR K B σ) F H o Q':=by
 refine AU h fun r fs F' H' u l q s=>?_
 cases r with
 | t t =>
  obtain ⟨L,L',q1,q2,_⟩:=q
  exact hk (.t t) fs F' H' u l ⟨L,q1⟩ q2.2 s
 | nw o=>exact s.elim
 | rf i =>
  obtain ⟨L,L',q1,q2,_⟩:=q
  exact hk (.rf i) fs F' H' u l ⟨L,q1⟩ q2.2 s
end
def tF (K:Fg) (Z:Xp) (f:FS->Out Rv):TE:=fun σ H Q=>∃ F B fs,Okk K F B H fs σ/\sat Z B (RR K B σ) F H (f fs) Q
def RB (K:Fg) (B:Nat->Option V) (σ:St):Wd->Hp->FS->Bool->Bool->Prop:=fun F H fs b b'=>Okk K F B H fs σ/\b'=b
def tT (K:Fg) (Z:Xp) (f:FS->Out Bool):TT:=fun σ H Q=>∃ F B fs,Okk K F B H fs σ/\sat Z B (RB K B σ) F H (f fs) Q
def IQ (K:Fg) (F:Wd) (H:Hp) (σ:St):List Rv->List V->Prop
 | [],vs=>vs=[]
 | r :: rs,vs=>∃ v w,vs=v :: w/\CM K F H σ r v/\IQ K F H σ rs w
def RA (K:Fg) (B:Nat->Option V) (σ:St):Wd->Hp->FS->List Rv->List V->Prop:=fun F H fs rs vs=>Okk K F B H fs σ/\IQ K F H σ rs vs
def tA (K:Fg) (Z:Xp) (f:FS->Out (List Rv)):TA:=fun σ H Q=>∃ F B fs,Okk K F B H fs σ/\sat Z B (RA K B σ) F H (f fs) Q
def FE (X:Cx) (Z:Xp) (e:Expr) (f:FS->Out Rv):Prop:=PE X e (tF X.K Z f)
def FT (X:Cx) (Z:Xp) (e:Expr) (f:FS->Out Bool):Prop:=PT X e (tT X.K Z f)
def FA (X:Cx) (Z:Xp) (es:List Expr) (f:FS->Out (List Rv)):Prop:=PA X es (tA X.K Z f)
theorem Bi {X:Cx} {e:Expr} {t t':TE} (h:PE X e t) (i:∀ σ H Q,t' σ H Q->t σ H Q):PE X e t':=fun pins s σ H Q I q=>h pins s σ H Q I (i _ _ _ q)
theorem K3 {X:Cx} {e:Expr} {t t':TT} (h:PT X e t) (i:∀ σ H Q,t' σ H Q->t σ H Q):PT X e t':=fun pins s σ H Q I q=>h pins s σ H Q I (i _ _ _ q)
theorem K8 {X:Cx} {e:List Expr} {t t':TA} (h:PA X e t) (i:∀ σ H Q,t' σ H Q->t σ H Q):PA X e t':=fun pos pins s σ H Q I q=>h pos pins s σ H Q I (i _ _ _ q)
theorem DF {X:Cx} {e:Stmt} {t t':TS} (h:PS X e t) (i:∀ D σ H,t' D σ H->t D σ H):PS X e t':=fun pins s σ H D I q=>h pins s σ H D I (i _ _ _ q)
theorem J7 {X:Cx} {e:List Stmt} {t t':TS} (h:PSs X e t) (i:∀ D σ H,t' D σ H->t D σ H):PSs X e t':=fun pins s σ H D I q=>h pins s σ H D I (i _ _ _ q)
section
variable {K:Fg} {B:Nat->Option V} {F:Wd} {H:Hp} {σ:St} {fs:FS} {p:Addr} {o:HO}
def Q2 (F:Wd) (p:Addr):Wd:=⟨fun a=>F a∨a=p,F.p⟩
theorem Cj (h:Okk K F B H fs σ) (hp:H p=none):Le F H (Q2 F p) (upd H p o) :=
 let ⟨_,h⟩:=h
 ⟨fun a f=>⟨.inl f,Aq fun e=>h.fd a f (e▸hp)⟩,fun a f=>⟨f,Aq fun e=>h.pd a f (e▸hp)⟩⟩
theorem Bp (h:Okk K F B H fs σ) (hp:H p=none):Le F H F (upd H p o) :=
 let ⟨_,h⟩:=h
 ⟨fun a f=>⟨f,Aq fun e=>h.fd a f (e▸hp)⟩,fun a f=>⟨f,Aq fun e=>h.pd a f (e▸hp)⟩⟩
theorem CP {a:Addr} (h:H a≠none):upd H p o a≠none:=by
 by_cases e:a=p
 ·subst e
  rw [AF]
  simp
 ·rw [Aq e]
  exact h
theorem Ok.Qp {L:List Addr} (h:Ok K F B H fs σ L) (hp:H p=none):∀ a∈L,(upd H p o) a=H a:=fun a m=>Aq fun e=>h.sl.def a m (e▸hp)
theorem Okk.fd (h:Okk K F B H fs σ):∀ a,F a->H a≠none:=let ⟨_,h⟩:=h;h.fd
theorem Okk.alloc (h:Okk K F B H fs σ) (hp:H p=none):Okk K (Q2 F p) B (upd H p o) fs σ:=by
 obtain ⟨L,h⟩:=h
 refine ⟨L,h.sl.le (Cj ⟨L,h⟩ hp) (h.Qp hp),h.nd,fun a m q=>?_,fun a q=>?_,h.bo,fun a q=>CP (h.pd a q),fun a q z=>?_,h.pl⟩
 rotate_left 2
 ·rcases q with q | q
  ·exact h.pf a q z
  ·exact h.pd a z (q▸hp)
 ·rcases q with q | q
  ·exact h.nf a m q
  ·exact h.sl.def a m (q▸hp)
 ·rcases q with q | q
  ·exact CP (h.fd a q)
  ·rw [q,AF]
   simp
theorem RR.alloc {ob:FO} (h:Okk K F B H fs σ) (hp:H p=none) (q:AK K F (upd H p o) ob (.ref p) [p]):RR K B σ F (upd H p o) fs (.nw ob) (.ref p):=by
 obtain ⟨L,h⟩:=h
 refine ⟨L,[p],⟨h.sl.le (Bp ⟨L,h⟩ hp) (h.Qp hp),h.nd,h.nf,fun a q=>CP (h.fd a q),h.bo,fun a q=>CP (h.pd a q),h.pf,h.pl⟩,q,?_,fun a m=>?_⟩
 ·rw [List.nodup_append]
  exact ⟨h.nd,by simp,fun a ma b mb e=>h.sl.def a ma (by rw [e,List.mem_singleton.mp mb];exact hp)⟩
 ·rw [List.mem_singleton.mp m]
  exact ⟨fun f=>h.fd p f hp,fun f=>h.pd p f hp⟩
end
def Sl.put:Sl->FO->Sl
 | .own _,o=>.own o
 | .bor _,o=>.bor o
 | .val t,_=>.val t
def A1 (fs:FS) (i:Nat):Option FO:=match fs[i]? with
 | some (some (.own o))=>some o
 | some (some (.bor o))=>some o
 | _=>none
def putAt (fs:FS) (i:Nat) (o:FO):FS:=match fs[i]? with
 | some (some s)=>fs.set i (some (s.put o))
 | _=>fs
section
variable {K:Fg} {B:Nat->Option V} {F F':Wd} {H H':Hp} {σ:St} {fs:FS} {i:Nat} {ob:FO}
theorem Hd.put {s:Option Sl} {v:Option V} (h:Hd B fs σ) (hs:∀ o,s=some (.bor o)->∃ u,v=some u/\B i=some u) (hl:σ.length=fs.length):Hd B (fs.set i s) (σ.set i v):=by
 intro j o e
 by_cases hj:i=j
 ·subst hj
  have hi:i < fs.length:=by
   have:=(List.getElem?_eq_some_iff.mp e).1
   simpa using this
  rw [List.getElem?_set_self hi] at e
  obtain ⟨u,e1,e2⟩:=hs o (by simpa using e)
  exact ⟨u,by rw [List.getElem?_set_self (by omega),e1],e2⟩
 ·rw [List.getElem?_set_ne hj] at e
  obtain ⟨v,e1,e2⟩:=h j o e
  exact ⟨v,by rw [List.getElem?_set_ne hj];exact e1,e2⟩
theorem Ci {α:Type} {l:List α} {i:Nat} {x:α} (h:l[i]?=some x):l.set i x=l:=by
 apply List.ext_getElem?
 intro j
 by_cases hj:i=j
 ·subst hj
  rw [List.getElem?_set_self (List.getElem?_eq_some_iff.mp h).1,h]
 ·rw [List.getElem?_set_ne hj]
theorem CA {L1 L2 L3 M:List Addr} (h:(L1++(L2++L3)).Nodup) (hm:M.Nodup) (d:∀ a∈M,a∉L1++L3):(L1++(M++L3)).Nodup:=by
 rw [List.nodup_append] at h ⊢
 obtain ⟨h1,h2,h3⟩:=h
 rw [List.nodup_append] at h2
 obtain ⟨h4,h5,h6⟩:=h2
 refine ⟨h1,?_,fun a ha b hb e=>?_⟩
 ·rw [List.nodup_append]
  exact ⟨hm,h5,fun a ha b hb e=>d a ha (by rw [e];exact List.mem_append_right _ hb)⟩
 ·rcases List.mem_append.mp hb with hb | hb
  ·exact d b hb (by rw [<- e];exact List.mem_append_left _ ha)
  ·exact h3 a ha b (List.mem_append_right _ hb) e
theorem Okk.own (h:Okk K F B H fs σ) (e:A1 fs i=some ob):∃ v L2,σ[i]?=some (some v)/\AK K F H ob v L2/\(∀ a∈L2,¬ F a/\¬ F.p a)/\L2.Nodup /\
  ∀ ob' H',(∀ a,a∉L2->H a≠none->H' a=H a)->AK K F H' ob' v L2->Okk K F B H' (putAt fs i ob') σ/\Le F H F H':=by
 obtain ⟨L,h⟩:=h
 have key:∀ s:Sl,fs[i]?=some (some s)->(s=.own ob∨s=.bor ob)->∃ v L2,σ[i]?=some (some v)/\AK K F H ob v L2/\(∀ a∈L2,¬ F a/\¬ F.p a)/\L2.Nodup /\
  ∀ ob' H',(∀ a,a∉L2->H a≠none->H' a=H a)->AK K F H' ob' v L2->Okk K F B H' (fs.set i (some (s.put ob'))) σ/\Le F H F H':=by
  intro s es ho
  obtain ⟨v,L1,L2,L3,e1,rfl,h1,h2⟩:=h.sl.pick es
  obtain ⟨u,rfl,q⟩:∃ u,v=some u/\AK K F H ob u L2:=by
   rcases ho with rfl | rfl
   ·exact h1
   ·exact h1
  have nd:=h.nd
  have dis:∀ a∈L1++L3,a∉L2:=fun a ha hb=>by
   rw [List.nodup_append] at nd
   rcases List.mem_append.mp ha with ha | ha
   ·exact nd.2.2 a ha a (List.mem_append_left _ hb) rfl
   ·have:=(List.nodup_append.mp nd.2.1).2.2
    exact this a hb a ha rfl
  refine ⟨u,L2,e1,q,fun a m=>⟨h.nf a (by simp [m]),h.pl a (by simp [m])⟩,?_,fun ob' H' k q'=>?_⟩
  ·rw [List.nodup_append] at nd
   exact (List.nodup_append.mp nd.2.1).1
  ·have l:Le F H F H':=⟨fun a f=>⟨f,k a (fun m=>h.nf a (by simp [m]) f) (h.fd a f)⟩,fun a f=>⟨f,k a (fun m=>h.pl a (by simp [m]) f) (h.pd a f)⟩⟩
   refine ⟨⟨L1++(L2++L3),?_,nd,h.nf,fun a f=>by rw [(l.f a f).2];exact h.fd a f,?_,fun a f=>by rw [(l.p a f).2];exact h.pd a f,h.pf,h.pl⟩,l⟩
   ·have hL:∀ a∈L1++L3,H' a=H a:=fun a m=>k a (dis a m) (h.sl.def a (by
      rcases List.mem_append.mp m with m | m
      ·simp [m]
      ·simp [m]))
    have h3:=h2 F H' (some (s.put ob')) (some u) L2 l hL (by
     rcases ho with rfl | rfl
     ·exact ⟨u,rfl,q'⟩
     ·exact ⟨u,rfl,q'⟩)
    rwa [Ci e1] at h3
   ·have:=Hd.put (i:=i) (s:=some (s.put ob')) (v:=some u) h.bo (fun o eo=>by
     rcases ho with rfl | rfl
     ·cases eo
     ·obtain ⟨w,e3,e4⟩:=h.bo i ob es
      rw [e1] at e3
      have e5:u=w:=by simpa using e3
      exact ⟨u,rfl,by rw [e5];exact e4⟩) h.sl.len
    rwa [Ci e1] at this
 unfold A1 at e
 split at e
 ·rename_i o es
  cases e
  obtain ⟨v,L2,a1,a2,a3,a4,a5⟩:=key _ es (.inl rfl)
  refine ⟨v,L2,a1,a2,a3,a4,fun ob' H' k q=>?_⟩
  have:=a5 ob' H' k q
  unfold putAt
  rw [es]
  exact this
 ·rename_i o es
  cases e
  obtain ⟨v,L2,a1,a2,a3,a4,a5⟩:=key _ es (.inr rfl)
  refine ⟨v,L2,a1,a2,a3,a4,fun ob' H' k q=>?_⟩
  have:=a5 ob' H' k q
  unfold putAt
  rw [es]
  exact this
 ·cases e
end
def Aa (i:Nat):FS->Out Rv:=fun fs=>match fs[i]? with
 | some (some (.val t))=>.ok (.t t) fs
 | some (some (.own _))=>.ok (.rf i) fs
 | some (some (.bor _))=>.ok (.rf i) fs
 | _=>.bad
def gc (t:T):FS->Out Rv:=fun fs=>.ok (.t t) fs
section
variable {X:Cx} {Z:Xp} {e:Expr}
theorem Au (i:Nat) {x:Str} {pos:Pos} (hN:X.N[i]?=some x:=by rfl) (hv:Vis X.env.scope x:=by first | exact Or.inl rfl | exact Or.inr (Or.inl rfl) | exact Or.inr (Or.inr rfl)) (hd:(x == ("__debug__":Str))=false:=by decide)
  (hcd:(x == ("__classdict__":Str))=false:=by decide):FE X Z (.Name x pos) (Aa i):=by
 refine Bi (pv i hN hv hd hcd) fun σ H Q h=>?_
 obtain ⟨F,B,fs,ok,s⟩:=h
 obtain ⟨L,o⟩:=id ok
 unfold Aa at s
 split at s
 ·rename_i t es
  obtain ⟨v,L1,L2,L3,e1,_,h1,_⟩:=o.sl.pick es
  obtain ⟨u,rfl,q,_⟩:=h1
  exact ⟨u,e1,s F H u Le.refl (RR.of ok q)⟩
 ·rename_i t es
  obtain ⟨v,L1,L2,L3,e1,_,h1,_⟩:=o.sl.pick es
  obtain ⟨u,rfl,q⟩:=h1
  exact ⟨u,e1,s F H u Le.refl (RR.of ok e1)⟩
 ·rename_i t es
  obtain ⟨v,L1,L2,L3,e1,_,h1,_⟩:=o.sl.pick es
  obtain ⟨u,rfl,q⟩:=h1
  exact ⟨u,e1,s F H u Le.refl (RR.of ok e1)⟩
 ·exact s.elim
theorem Ud {v:V} (t:T) (h:PE X e (tC v)) (r:∀ K F H,AQ K F H t v):FE X Z e (gc t) :=
 Bi h fun σ H Q ⟨F,B,fs,ok,s⟩=>s F H v Le.refl (RR.of ok (r _ _ _))
theorem As {i j pos}:FE X Z (.Constant (.int i) j pos) (gc (.int i)):=Ud _ UP fun _ _ _=>rfl
theorem FJ {b j pos}:FE X Z (.Constant (.bool b) j pos) (gc (.bl b)):=Ud _ Wu fun _ _ _=>rfl
theorem Vw {j pos}:FE X Z (.Constant .none j pos) (gc .non):=Ud _ UM fun _ _ _=>rfl
theorem GN {x j pos}:FE X Z (.Constant (.str x) j pos) (gc (.str x)):=Ud _ Rr fun _ _ _=>rfl
theorem QH {x:Str} {pos:Pos} {i:Int} (h:∃ t,X.mg x=some (.int i t)) (hg:Gl X x:=by rfl) (hd:(x == ("__debug__":Str))=false:=by decide):FE X Z (.Name x pos) (gc (.int i)):=Ud _ (Ws h hg hd) fun _ _ _=>rfl
theorem WV {x:Str} {pos:Pos} {z:Str} (h:∃ t,X.mg x=some (.str z t)) (hg:Gl X x:=by rfl) (hd:(x == ("__debug__":Str))=false:=by decide):FE X Z (.Name x pos) (gc (.str z)):=Ud _ (Wr h hg hd) fun _ _ _=>rfl
end
def fz (f:FS->Out Rv):FS->Out Rv:=fun fs=>(f fs).bind fun r fs=>match r with
 | .t t=>.ok (.t t) fs
 | .nw o=>.ok (.t (toT o)) fs
 | .rf i=>match fs[i]? with
  | some (some (.own o))=>.ok (.t (toT o)) (fs.set i (some (.val (toT o))))
  | _=>.bad
section
variable {X:Cx} {Z:Xp} {e:Expr} {f:FS->Out Rv}
def Q1 (F:Wd) (L:List Addr):Wd:=⟨fun a=>F a∨a∈L,F.p⟩
theorem orF {F:Wd} {L:List Addr} {H:Hp}:Le F H (Q1 F L) H:=⟨fun _ f=>⟨.inl f,rfl⟩,fun _ f=>⟨f,rfl⟩⟩
theorem Am (h:FE X Z e f):FE X Z e (fz f):=by
 refine Bi h fun σ H Q ⟨F,B,fs,ok,s⟩=>⟨F,B,fs,ok,?_⟩
 refine AU s fun r fs F' H' u l q s=>?_
 cases r with
 | t t=>exact s F' H' u Le.refl q
 | nw o =>
  obtain ⟨L,L',o1,q,nd,nf⟩:=q
  refine s (Q1 F' L') H' u orF (RR.of ⟨L,?_⟩ (AK.frz orF (fun a m=>.inr m) q))
  refine ⟨o1.sl.le orF fun _ _=>rfl,o1.nd,fun a m z=>?_,fun a z=>?_,o1.bo,o1.pd,fun a z=>?_,o1.pl⟩
  ·rcases z with z | z
   ·exact o1.nf a m z
   ·exact (List.nodup_append.mp nd).2.2 a m a z rfl
  ·rcases z with z | z
   ·exact o1.fd a z
   ·exact AK.def q a z
  ·rcases z with z | z
   ·exact o1.pf a z
   ·exact (nf a z).2
 | rf i =>
  dsimp only at s
  split at s
  ·rename_i o es
   obtain ⟨L,L',o1,⟨_,q⟩,nd,nf⟩:=q
   obtain ⟨v,L1,L2,L3,e1,rfl,h1,h2⟩:=o1.sl.pick es
   obtain ⟨w,rfl,q2⟩:=h1
   rw [e1] at q
   have eu:w=u:=by simpa using q
   subst eu
   have l2:Le F' H' (Q1 F' L2) H':=orF
   have r2:AQ X.K (Q1 F' L2) H' (toT o) w:=AK.frz orF (fun a m=>.inr m) q2
   refine s (Q1 F' L2) H' w l2 (RR.of ⟨L1++([]++L3),?_⟩ r2)
   have h3:=h2 (Q1 F' L2) H' (some (.val (toT o))) (some w) [] l2 (fun _ _=>rfl) ⟨w,rfl,r2,rfl⟩
   rw [Ci e1] at h3
   have nd1:=o1.nd
   refine ⟨h3,CA nd1 List.nodup_nil (fun _ m=>nomatch m),fun a m z=>?_,fun a z=>?_,?_,o1.pd,fun a z=>?_,fun a m=>o1.pl a ?_⟩
   ·have m':a∈L1∨a∈L3:=by simpa using m
    rcases z with z | z
    ·exact o1.nf a (by rcases m' with m | m <;> simp [m]) z
    ·rw [List.nodup_append] at nd1
     rcases m' with m | m
     ·exact nd1.2.2 a m a (List.mem_append_left _ z) rfl
     ·exact (List.nodup_append.mp nd1.2.1).2.2 a z a m rfl
   ·rcases z with z | z
    ·exact o1.fd a z
    ·exact AK.def q2 a z
   ·have:=Hd.put (i:=i) (s:=some (.val (toT o))) (v:=some w) o1.bo (fun o eo=>by cases eo) o1.sl.len
    rwa [Ci e1] at this
   ·rcases z with z | z
    ·exact o1.pf a z
    ·exact o1.pl a (by simp [z])
   ·have m':a∈L1∨a∈L3:=by simpa using m
    rcases m' with m | m <;> simp [m]
  ·exact s.elim
end
def big:Nat:=1000000
theorem EF:big<=sizeLine:=by rw [sizeLine_eq];decide
theorem HR:big < sizeLine:=by rw [sizeLine_eq];decide
def C6 (fs:FS):Rv->Option (List T)
 | .t (.lst ts)=>some ts
 | .t (.scr ts)=>some ts
 | .rf i=>match A1 fs i with
  | some (.lst ts)=>some ts
  | _=>none
 | _=>none
def MU:Rv->Option (List T)
 | .t (.tup ts)=>some ts
 | _=>none
section
variable {K:Fg} {B:Nat->Option V} {F F':Wd} {H H':Hp} {σ:St} {fs:FS} {x:Rv} {u:V} {ts:List T}
theorem BF (h:Okk K F B H fs σ) (r:CM K F H σ x u) (e:C6 fs x=some ts):∃ a vs,u=.ref a/\SqL K H a vs/\Ad K F H ts vs:=by
 unfold C6 at e
 split at e
 ·cases e
  simp only [CM,AQ] at r
  obtain ⟨a,vs,e,f,s,q⟩:=r
  exact ⟨a,vs,e,SqL.of s,q⟩
 ·cases e
  simp only [CM,AQ] at r
  obtain ⟨a,vs,e,s,q⟩:=r
  exact ⟨a,vs,e,s.sq,q⟩
 ·rename_i i
  split at e
  ·rename_i ts' eo
   cases e
   obtain ⟨v,L2,e1,q,_⟩:=h.own eo
   have e2:σ[i]?=some (some u):=r
   rw [e1] at e2
   have e3:v=u:=by simpa using e2
   subst e3
   simp only [AK] at q
   obtain ⟨a,vs,e,s,q,_⟩:=q
   exact ⟨a,vs,e,SqL.of s,q⟩
  ·cases e
 ·cases e
theorem Cy (r:CM K F H σ x u) (e:MU x=some ts):∃ a vs,u=.ref a/\SqT K H a vs/\Ad K F H ts vs:=by
 unfold MU at e
 split at e
 ·cases e
  simp only [CM,AQ] at r
  obtain ⟨a,vs,e,s,q⟩:=r
  exact ⟨a,vs,e,s.sq,q⟩
 ·cases e
theorem Pc {vs:List V} {i:Int} {t:T} (r:Ad K F H ts vs) (e:atI ts i=some t):∃ v,atI vs i=some v/\AQ K F H t v:=by
 unfold atI at e ⊢
 rw [r.len]
 cases q:ixN ts.length i with
 | none=>rw [q] at e;cases e
 | some j =>
  rw [q] at e
  exact r.at e
theorem Ad.ints:∀ {ns:List Int} {vs:List V},Ad K F H (ns.map T.int) vs->vs=ns.map V.int
 | [],_,h=>by simpa [Ad] using h
 | n :: ns,_,h=>by
  simp only [List.map_cons,Ad,AQ] at h
  obtain ⟨v,r,rfl,rfl,h⟩:=h
  rw [List.map_cons,Ad.ints h]
theorem Ad.bls:∀ {ns:List Bool} {vs:List V},Ad K F H (ns.map T.bl) vs->vs=ns.map V.bl
 | [],_,h=>by simpa [Ad] using h
 | n :: ns,_,h=>by
  simp only [List.map_cons,Ad,AQ] at h
  obtain ⟨v,r,rfl,rfl,h⟩:=h
  rw [List.map_cons,Ad.bls h]
theorem Ad.strs:∀ {ns:List Str} {vs:List V},Ad K F H (ns.map T.str) vs->vs=ns.map V.str
 | [],_,h=>by simpa [Ad] using h
 | n :: ns,_,h=>by
  simp only [List.map_cons,Ad,AQ] at h
  obtain ⟨v,r,rfl,rfl,h⟩:=h
  rw [List.map_cons,Ad.strs h]
end
def C1:List T->Option (List Int)
 | []=>some []
 | .int i :: r=>(C1 r).map (i :: ·)
 | _=>none
def D4:List T->Option (List Bool)
 | []=>some []
 | .bl i :: r=>(D4 r).map (i :: ·)
 | _=>none
def C0:List T->Option (List Str)
 | []=>some []
 | .str i :: r=>(C0 r).map (i :: ·)
 | _=>none
theorem JW:∀ {ts:List T} {ns:List Int},C1 ts=some ns->ts=ns.map T.int
 | [],_,e=>by cases e;rfl
 | .int i :: r,_,e=>by
  simp only [C1,Option.map_eq_some_iff] at e
  obtain ⟨ns,e,rfl⟩:=e
  rw [List.map_cons,<- JW e]
 | .non :: r,_,e=>by simp [C1] at e
 | .bl _ :: r,_,e=>by simp [C1] at e
 | .str _ :: r,_,e=>by simp [C1] at e
 | .tup _ :: r,_,e=>by simp [C1] at e
 | .lst _ :: r,_,e=>by simp [C1] at e
 | .scr _ :: r,_,e=>by simp [C1] at e
 | .dK _ _ :: r,_,e=>by simp [C1] at e
 | .dT _ _ :: r,_,e=>by simp [C1] at e
 | .ins _ _ _ :: r,_,e=>by simp [C1] at e
 | .dF _ _ :: r,_,e=>by simp [C1] at e
theorem Gb:∀ {ts:List T} {ns:List Bool},D4 ts=some ns->ts=ns.map T.bl
 | [],_,e=>by cases e;rfl
 | .bl i :: r,_,e=>by
  simp only [D4,Option.map_eq_some_iff] at e
  obtain ⟨ns,e,rfl⟩:=e
  rw [List.map_cons,<- Gb e]
 | .non :: r,_,e=>by simp [D4] at e
 | .int _ :: r,_,e=>by simp [D4] at e
 | .str _ :: r,_,e=>by simp [D4] at e
 | .tup _ :: r,_,e=>by simp [D4] at e
 | .lst _ :: r,_,e=>by simp [D4] at e
 | .scr _ :: r,_,e=>by simp [D4] at e
 | .dK _ _ :: r,_,e=>by simp [D4] at e
 | .dT _ _ :: r,_,e=>by simp [D4] at e
 | .ins _ _ _ :: r,_,e=>by simp [D4] at e
 | .dF _ _ :: r,_,e=>by simp [D4] at e
theorem JV:∀ {ts:List T} {ns:List Str},C0 ts=some ns->ts=ns.map T.str
 | [],_,e=>by cases e;rfl
 | .str i :: r,_,e=>by
  simp only [C0,Option.map_eq_some_iff] at e
  obtain ⟨ns,e,rfl⟩:=e
  rw [List.map_cons,<- JV e]
 | .non :: r,_,e=>by simp [C0] at e
 | .int _ :: r,_,e=>by simp [C0] at e
 | .bl _ :: r,_,e=>by simp [C0] at e
 | .tup _ :: r,_,e=>by simp [C0] at e
 | .lst _ :: r,_,e=>by simp [C0] at e
 | .scr _ :: r,_,e=>by simp [C0] at e
 | .dK _ _ :: r,_,e=>by simp [C0] at e
 | .dT _ _ :: r,_,e=>by simp [C0] at e
 | .ins _ _ _ :: r,_,e=>by simp [C0] at e
 | .dF _ _ :: r,_,e=>by simp [C0] at e
def Ag (g:Rv->Rv->FS->Out Rv) (fa fb:FS->Out Rv):FS->Out Rv:=fun fs=>(fa fs).bnd fun x fs=>(fb fs).bnd fun y fs=>g x y fs
def OpF (K:Fg) (Z:Xp) (r:R2) (g:Rv->Rv->FS->Out Rv):Prop:=∀ (F:Wd) (B:Nat->Option V) (H:Hp) (σ:St) (fs:FS) (x y:Rv) (u w:V) (Q:VK),Okk K F B H fs σ->CM K F H σ x u->CM K F H σ y w ->
 sat Z B (RR K B σ) F H (g x y fs) Q->r u w H Q
def asB (f:FS->Out Rv):FS->Out Bool:=fun fs=>(f fs).bind fun r fs=>match r with
 | .t (.bl b)=>.ok b fs
 | _=>.bad
section
variable {X:Cx} {K:Fg} {Z:Xp} {a b c:Expr} {fa fb fc f:FS->Out Rv} {r r':R2} {g g':Rv->Rv->FS->Out Rv} {pos:Pos} {σ:St} {H:Hp}
theorem Ga {Q:VK} (hg:OpF K Z r g) (h:tF K Z (Ag g fa fb) σ H Q):tOp r (tF K Z fa) (tF K Z fb) σ H Q:=by
 obtain ⟨F,B,fs,ok,s⟩:=h
 exact ⟨F,B,fs,ok,A2 s fun x fs1 F1 H1 u l ok1 rx s1=>⟨F1,B,fs1,ok1,A2 s1 fun y fs2 F2 H2 w l2 ok2 ry s2=>hg F2 B H2 σ fs2 x y u w Q ok2 (rx.le l2) ry s2⟩⟩
theorem RY {Q:Bool->Hp->Prop} (h:tT K Z (asB f) σ H Q):tF K Z f σ H fun x H'=>∃ k,x=.bl k/\Q k H':=by
 obtain ⟨F,B,fs,ok,s⟩:=h
 refine ⟨F,B,fs,ok,AU s fun r fs1 F1 H1 u l q s1=>?_⟩
 split at s1
 ·rename_i b
  obtain ⟨L,L',o1,⟨_,q⟩,_⟩:=q
  exact ⟨b,q,s1 F1 H1 b Le.refl ⟨⟨L,o1⟩,rfl⟩⟩
 ·exact s1.elim
theorem QG {op:Operator} (hg:OpF X.K Z r g) (ho:OpR X (binaryOp op) r) (ha:FE X Z a fa) (hb:FE X Z b fb):FE X Z (.BinOp a op b pos) (Ag g fa fb) :=
 Bi (Wn ho ha hb) fun _ _ _ h=>Ga hg h
theorem Oz {op:CmpOp} (hg:OpF X.K Z r g) (ho:OpR X (compareOp op) r) (ha:FE X Z a fa) (hb:FE X Z b fb) (hm:behindInMarks op b=false):FE X Z (.Compare a [op] [b] pos) (Ag g fa fb) :=
 Bi (Sv ho ha hb hm) fun _ _ _ h=>Ga hg h
theorem GL {op:CmpOp} (hg:OpF X.K Z r g) (ho:OpR X (compareOp op) r) (ha:FE X Z a fa) (hb:FE X Z b fb) (hm:behindInMarks op b=false):FT X Z (.Compare a [op] [b] pos) (asB (Ag g fa fb)) :=
 K3 (Si ho ha hb hm) fun _ _ _ h=>Ga hg (RY h)
theorem WT (hg:OpF X.K Z r g) (hr:IxR X r) (ha:FE X Z a fa) (hb:FE X Z b fb) (hs:KQ b):FE X Z (.Subscript a b pos) (Ag g fa fb) :=
 Bi (Wq hr ha hb hs) fun _ _ _ h=>Ga hg h
def chain (g g':Rv->Rv->FS->Out Rv) (fa fb fc:FS->Out Rv):FS->Out Rv:=fun fs=>(fa fs).bnd fun x fs=>(fb fs).bnd fun y fs=>(g x y fs).bnd fun z fs=>match z with
 | .t (.bl true)=>(fc fs).bnd fun w fs=>g' y w fs
 | .t (.bl false)=>.ok (.t (.bl false)) fs
 | _=>.bad
theorem TK {Q:VK} (hg:OpF K Z r g) (hg':OpF K Z r' g') (h:tF K Z (chain g g' fa fb fc) σ H Q):MQ r r' (tF K Z fa) (tF K Z fb) (tF K Z fc) σ H Q:=by
 obtain ⟨F,B,fs,ok,s⟩:=h
 refine ⟨F,B,fs,ok,A2 s fun x fs1 F1 H1 u l ok1 rx s1=>⟨F1,B,fs1,ok1,A2 s1 fun y fs2 F2 H2 w l2 ok2 ry s2=>hg F2 B H2 σ fs2 x y u w _ ok2 (rx.le l2) ry ?_⟩⟩
 refine A2 s2 fun z fs3 F3 H3 v l3 ok3 rz s3=>?_
 split at s3
 ·refine ⟨true,rz,?_⟩
  rw [if_pos rfl]
  exact ⟨F3,B,fs3,ok3,A2 s3 fun w' fs4 F4 H4 v' l4 ok4 rw' s4=>hg' F4 B H4 σ fs4 y w' w v' Q ok4 ((ry.le l3).le l4) rw' s4⟩
 ·refine ⟨false,rz,?_⟩
  rw [if_neg (by decide)]
  exact s3 F3 H3 (.bl false) Le.refl (RR.of ok3 rfl)
 ·exact s3.elim
end
theorem Qb {a b:Int} (ha:Builtin.Int.intBits a<=2 ^ 26) (hb:Builtin.Int.intBits b<=2 ^ 26):IntMulOk a b:=by
 intro h
 rw [Bool.and_eq_true] at h
 have h2:=of_decide_eq_true (show decide _=true from h.2)
 have e:bitsLine=134217728:=rfl
 rw [e] at h2
 omega
def gI (g:Int->Int->FS->Out Rv):Rv->Rv->FS->Out Rv
 | .t (.int i),.t (.int j),fs=>g i j fs
 | _,_,_=>.bad
def okT (t:T) (fs:FS):Out Rv:=.ok (.t t) fs
def WQ:=gI fun i j=>okT (.int (i+j))
def Ub:=gI fun i j fs=>if (decide (-(2 ^ 64) < i/\i < 2 ^ 64) || decide (-(2 ^ 64) < j/\j < 2 ^ 64) || (decide (Builtin.Int.intBits i<=2 ^ 26) && decide (Builtin.Int.intBits j<=2 ^ 26)))=true then okT (.int (i * j)) fs else .bad
def CF:=gI fun i j fs=>if 0 < j then okT (.int (i % j)) fs else .bad
def Fc:=gI fun i j fs=>if 0 < j/\j < 1073741824 then okT (.int (i / j)) fs else .bad
def gLt:=gI fun i j=>okT (.bl (decide (i < j)))
def gLe:=gI fun i j=>okT (.bl (decide (i<=j)))
def gGt:=gI fun i j=>okT (.bl (decide (j < i)))
section
variable {K:Fg} {Z:Xp}
theorem Sx {g:Int->Int->FS->Out Rv} {C:Int->Int->Prop} {v:Int->Int->V} {t:Int->Int->T} (hv:∀ K F H i j,AQ K F H (t i j) (v i j)) (hg:∀ i j fs,g i j fs=.bad∨(C i j/\g i j fs=okT (t i j) fs)):OpF K Z (rI C v) (gI g):=by
 intro F B H σ fs x y u w Q ok rx ry s
 unfold gI at s
 split at s
 ·rename_i i j
  simp only [CM,AQ] at rx ry
  rcases hg i j fs with e | ⟨c,e⟩
  ·rw [e] at s
   exact s.elim
  ·rw [e] at s
   exact ⟨i,j,rx,ry,c,s F H _ Le.refl (RR.of ok (hv _ _ _ _ _))⟩
 ·exact s.elim
theorem K9 {v:Int->Int->V} {t:Int->Int->T} (hv:∀ K F H i j,AQ K F H (t i j) (v i j)):OpF K Z (rI0 v) (gI fun i j=>okT (t i j)):=by
 intro F B H σ fs x y u w Q ok rx ry s
 unfold gI at s
 split at s
 ·rename_i i j
  simp only [CM,AQ] at rx ry
  exact ⟨i,j,rx,ry,s F H _ Le.refl (RR.of ok (hv _ _ _ _ _))⟩
 ·exact s.elim
theorem U5:OpF K Z (rI0 fun i j=>.int (i+j)) WQ:=K9 fun _ _ _ _ _=>rfl
theorem of_lt:OpF K Z (rI0 fun i j=>.bl (decide (i < j))) gLt:=K9 fun _ _ _ _ _=>rfl
theorem of_le:OpF K Z (rI0 fun i j=>.bl (decide (i<=j))) gLe:=K9 fun _ _ _ _ _=>rfl
theorem WB:OpF K Z (rI0 fun i j=>.bl (decide (j < i))) gGt:=K9 fun _ _ _ _ _=>rfl
theorem U3:OpF K Z (rI (fun _ j=>0 < j) fun i j=>.int (i % j)) CF:=Sx (t:=fun i j=>.int (i % j)) (fun _ _ _ _ _=>rfl) fun i j fs=>by
 by_cases h:0 < j
 ·exact .inr ⟨h,if_pos h⟩
 ·exact .inl (if_neg h)
theorem U4:OpF K Z (rI Xi fun i j=>.int (i / j)) Fc:=Sx (t:=fun i j=>.int (i / j)) (fun _ _ _ _ _=>rfl) fun i j fs=>by
 by_cases h:0 < j/\j < 1073741824
 ·exact .inr ⟨h,if_pos h⟩
 ·exact .inl (if_neg h)
theorem U2:OpF K Z (rI IntMulOk fun i j=>.int (i * j)) Ub:=Sx (t:=fun i j=>.int (i * j)) (fun _ _ _ _ _=>rfl) fun i j fs=>by
 by_cases h:(decide (-(2 ^ 64) < i/\i < 2 ^ 64) || decide (-(2 ^ 64) < j/\j < 2 ^ 64) || (decide (Builtin.Int.intBits i<=2 ^ 26) && decide (Builtin.Int.intBits j<=2 ^ 26)))=true
 ·refine .inr ⟨?_,if_pos h⟩
  rw [Bool.or_eq_true,Bool.or_eq_true,Bool.and_eq_true] at h
  rcases h with (h | h) | ⟨h1,h2⟩
  ·exact V6.ok (.inl (of_decide_eq_true h))
  ·exact V6.ok (.inr (of_decide_eq_true h))
  ·exact Qb (of_decide_eq_true h1) (of_decide_eq_true h2)
 ·exact .inl (if_neg h)
end
def plV:T->Option V
 | .non=>some .non
 | .bl b=>some (.bl b)
 | .int i=>some (.int i)
 | .str x=>some (.str x)
 | _=>none
theorem Cz {K:Fg} {F:Wd} {H:Hp} {t:T} {u v:V} (e:plV t=some v) (r:AQ K F H t u):u=v:=by
 cases t with
 | non=>cases e;exact r
 | bl b=>cases e;exact r
 | int i=>cases e;exact r
 | str x=>cases e;exact r
 | tup ts=>cases e
 | lst ts=>cases e
 | scr ts=>cases e
 | dK ks ts=>cases e
 | dT ks ts=>cases e
 | ins C fs ts=>cases e
 | dF ks ts=>cases e
 | exn c=>cases e
def gEq (neg:Bool):Rv->Rv->FS->Out Rv
 | .t x,.t y,fs=>match plV x,plV y with
  | some u,some w=>if L8 u w=true then okT (.bl (if neg then !decide (u=w) else decide (u=w))) fs else .bad
  | _,_=>.bad
 | _,_,_=>.bad
def Sq:List T->Option (List V)
 | []=>some []
 | t :: r=>(plV t).bind fun v=>(Sq r).map (v :: ·)
theorem Ik {K:Fg} {F:Wd} {H:Hp}:∀ {ts:List T} {us vs:List V},Sq ts=some vs->Ad K F H ts us->us=vs/\vs.all Fq=true
 | [],_,_,e,r=>by
  cases e
  simp only [Ad] at r
  exact ⟨r,rfl⟩
 | t :: ts,_,_,e,r=>by
  simp only [Ad] at r
  obtain ⟨v,w,rfl,r1,r2⟩:=r
  simp only [Sq,Option.bind_eq_some_iff,Option.map_eq_some_iff] at e
  obtain ⟨v',e1,ws,e2,rfl⟩:=e
  obtain ⟨rfl,h⟩:=Ik e2 r2
  have:=Cz e1 r1
  subst this
  refine ⟨rfl,?_⟩
  rw [List.all_cons,h,Bool.and_true]
  cases t <;> first | (cases e1;rfl) | cases e1
theorem Dm {t:T} {v:V} (e:plV t=some v):Fq v=true:=by
 cases t <;> first | (cases e;rfl) | cases e
def gIn (neg:Bool):Rv->Rv->FS->Out Rv
 | .t x,y,fs=>match plV x with
  | some v=>match (match C6 fs y with
    | some ts=>Sq ts
    | none=>(MU y).bind Sq) with
   | some vs=>okT (.bl (if neg then !inV v vs else inV v vs)) fs
   | none=>.bad
  | none=>.bad
 | _,_,_=>.bad
def Jy (neg:Bool):Rv->Rv->FS->Out Rv
 | .t (.str i),.t (.str j),fs=>okT (.bl (if neg then !(!(Builtin.Str.occurrences j i 0 j.length 1).isEmpty) else !(Builtin.Str.occurrences j i 0 j.length 1).isEmpty)) fs
 | _,_,_=>.bad
section
variable {K:Fg} {Z:Xp}
theorem of_eq:OpF K Z rEq (gEq false):=by
 intro F B H σ fs x y u w Q ok rx ry s
 unfold gEq at s
 split at s
 ·split at s
  ·rename_i e1 e2
   split at s
   ·rename_i hs
    have h1:=Cz e1 rx
    have h2:=Cz e2 ry
    subst h1 h2
    exact ⟨hs,s F H _ Le.refl (RR.of ok rfl)⟩
   ·exact s.elim
  ·exact s.elim
 ·exact s.elim
theorem Wz:OpF K Z rNe (gEq true):=by
 intro F B H σ fs x y u w Q ok rx ry s
 unfold gEq at s
 split at s
 ·split at s
  ·rename_i e1 e2
   split at s
   ·rename_i hs
    have h1:=Cz e1 rx
    have h2:=Cz e2 ry
    subst h1 h2
    exact ⟨hs,s F H _ Le.refl (RR.of ok rfl)⟩
   ·exact s.elim
  ·exact s.elim
 ·exact s.elim
theorem SF (neg:Bool):OpF K Z (rIn K neg) (gIn neg):=by
 intro F B H σ fs x y u w Q ok rx ry s
 unfold gIn at s
 split at s
 ·split at s
  ·rename_i v e1
   split at s
   ·rename_i vs e2
    have h1:=Cz e1 rx
    subst h1
    split at e2
    ·rename_i ts e3
     obtain ⟨a,us,rfl,hs,q⟩:=BF ok ry e3
     obtain ⟨rfl,hf⟩:=Ik e2 q
     exact ⟨a,us,rfl,.inl hs,Dm e1,hf,s F H _ Le.refl (RR.of ok rfl)⟩
    ·rw [Option.bind_eq_some_iff] at e2
     obtain ⟨ts,e3,e2⟩:=e2
     obtain ⟨a,us,rfl,hs,q⟩:=Cy ry e3
     obtain ⟨rfl,hf⟩:=Ik e2 q
     exact ⟨a,us,rfl,.inr hs,Dm e1,hf,s F H _ Le.refl (RR.of ok rfl)⟩
   ·exact s.elim
  ·exact s.elim
 ·exact s.elim
theorem Lb:OpF K Z (fun x y H Q=>∃ i j,x=.str i/\y=.str j/\Q (.bl (!(Builtin.Str.occurrences j i 0 j.length 1).isEmpty)) H) (Jy false):=by
 intro F B H σ fs x y u w Q ok rx ry s
 unfold Jy at s
 split at s
 ·rename_i i j
  exact ⟨i,j,rx,ry,s F H _ Le.refl (RR.of ok rfl)⟩
 ·exact s.elim
theorem Kh:OpF K Z (fun x y H Q=>∃ i j,x=.str i/\y=.str j/\Q (.bl (!(!(Builtin.Str.occurrences j i 0 j.length 1).isEmpty))) H) (Jy true):=by
 intro F B H σ fs x y u w Q ok rx ry s
 unfold Jy at s
 split at s
 ·rename_i i j
  exact ⟨i,j,rx,ry,s F H _ Le.refl (RR.of ok rfl)⟩
 ·exact s.elim
end
def gIx:Rv->Rv->FS->Out Rv
 | x,.t (.int i),fs=>match C6 fs x with
  | some ts=>match atI ts i with
   | some t=>okT t fs
   | none=>.bad
  | none=>match x with
   | .t (.tup ts)=>match atI ts i with
    | some t=>okT t fs
    | none=>.bad
   | .t (.str z)=>if z.length<=big then match atI z.cps.toList i with
     | some c=>okT (.str ⟨#[c]⟩) fs
     | none=>.bad
    else .bad
   | _=>.bad
 | _,_,_=>.bad
section
variable {K:Fg} {Z:Xp}
theorem WA:OpF K Z (rIx K) gIx:=by
 intro F B H σ fs x y u w Q ok rx ry s
 unfold gIx at s
 split at s
 ·rename_i i
  split at s
  ·rename_i ts e
   split at s
   ·rename_i t et
    obtain ⟨a,vs,rfl,hs,q⟩:=BF ok rx e
    obtain ⟨v,ev,rv⟩:=Pc q et
    exact .inl ⟨a,vs,i,v,rfl,ry,hs,ev,s F H v Le.refl (RR.of ok rv)⟩
   ·exact s.elim
  ·split at s
   ·rename_i ts _
    split at s
    ·rename_i t et
     obtain ⟨a,vs,rfl,hs,q⟩:=Cy (ts:=ts) rx rfl
     obtain ⟨v,ev,rv⟩:=Pc q et
     exact .inr (.inl ⟨a,vs,i,v,rfl,ry,hs,ev,s F H v Le.refl (RR.of ok rv)⟩)
    ·exact s.elim
   ·rename_i z _
    split at s
    ·rename_i hz
     split at s
     ·rename_i c ec
      exact .inr (.inr ⟨z,i,c,rx,ry,Nat.le_trans hz EF,ec,s F H _ Le.refl (RR.of ok rfl)⟩)
     ·exact s.elim
    ·exact s.elim
   ·exact s.elim
 ·exact s.elim
end
def QF:Rv->Rv->FS->Out Rv
 | .t (.str i),.t (.str j),fs=>if i.length+j.length<=big then okT (.str (i++j)) fs else .bad
 | _,_,_=>.bad
def QD:Rv->Rv->FS->Out Rv
 | .t (.str z),.t (.int n),fs=>if z.length=1/\1<=n/\n<=1000 then okT (.str (Txt.mul z n)) fs else .bad
 | _,_,_=>.bad
theorem SS {z:Str} {n:Int} (hz:z.length=1) (h0:1<=n) (h1:n<=1000):MulOk z n:=by
 refine ⟨?_,fun _ _=>?_,fun _ _=>?_⟩
 ·rw [Bool.or_eq_false_iff]
  exact ⟨decide_eq_false (by omega),decide_eq_false (by omega)⟩
 ·have h:(n:Int)<=2 ^ 63 - 1:=by omega
  have h2:1<=((2:Int) ^ 63 - 1) / n:=(Int.le_ediv_iff_mul_le (by omega)).mpr (by omega)
  rw [hz]
  show ¬ ((1:Nat):Int) > _
  omega
 ·unfold Builtin.Str.tooLong
  have:n.toNat<=1000:=by omega
  refine decide_eq_false ?_
  rw [hz]
  have h3:(1000:Nat)<=sizeLine:=by rw [sizeLine_eq];decide
  omega
section
variable {K:Fg} {Z:Xp}
theorem SK:OpF K Z (fun x y H Q=>∃ i j,x=.str i/\y=.str j/\i.length+j.length<=sizeLine/\Q (.str (i++j)) H) QF:=by
 intro F B H σ fs x y u w Q ok rx ry s
 unfold QF at s
 split at s
 ·rename_i i j
  split at s
  ·rename_i h
   exact ⟨i,j,rx,ry,Nat.le_trans h EF,s F H _ Le.refl (RR.of ok rfl)⟩
  ·exact s.elim
 ·exact s.elim
theorem SE:OpF K Z (fun x y H Q=>∃ z n,x=.str z/\y=.int n/\MulOk z n/\Q (.str (Txt.mul z n)) H) QD:=by
 intro F B H σ fs x y u w Q ok rx ry s
 unfold QD at s
 split at s
 ·rename_i i j
  split at s
  ·rename_i h
   exact ⟨i,j,rx,ry,SS h.1 h.2.1 h.2.2,s F H _ Le.refl (RR.of ok rfl)⟩
  ·exact s.elim
 ·exact s.elim
end
def V8 (fs:FS):Rv->Option Bool
 | .t .non=>some false
 | .t (.bl b)=>some b
 | .t (.int i)=>some (i != 0)
 | .t (.str x)=>if x.length<=big then some ((x.length:Int) != 0) else none
 | .t (.lst ts)=>some !ts.isEmpty
 | .t (.tup ts)=>some !ts.isEmpty
 | .rf i=>match A1 fs i with
  | some (.lst ts)=>some !ts.isEmpty
  | some (.dK ks _)=>some !ks.isEmpty
  | _=>none
 | _=>none
def EH (f:FS->Out Rv):FS->Out Bool:=fun fs=>(f fs).bnd fun r fs=>match V8 fs r with
 | some b=>.ok b fs
 | none=>.bad
def Eu (f:FS->Out Bool):FS->Out Bool:=fun fs=>(f fs).bind fun b fs=>.ok (!b) fs
def LP (f g:FS->Out Bool):FS->Out Bool:=fun fs=>(f fs).bind fun b fs=>if b=true then g fs else .ok false fs
def orT (f g:FS->Out Bool):FS->Out Bool:=fun fs=>(f fs).bind fun b fs=>if b=true then .ok true fs else g fs
def VZ (f g:FS->Out Rv):FS->Out Rv:=fun fs=>(f fs).bnd fun r fs=>match r with
 | .t (.bl true)=>g fs
 | .t (.bl false)=>okT (.bl false) fs
 | _=>.bad
theorem DO {α β:Type} {xs:List α} {ys:List β} (h:ys.length=xs.length):(!ys.isEmpty)=!xs.isEmpty:=by
 cases xs <;> cases ys <;> simp_all
section
variable {K:Fg} {B:Nat->Option V} {F:Wd} {H:Hp} {σ:St} {fs:FS} {x:Rv} {u:V}
theorem R5 {b:Bool} (h:Okk K F B H fs σ) (r:CM K F H σ x u) (e:V8 fs x=some b):W7 K u H b:=by
 unfold V8 at e
 split at e
 ·cases e;cases r;rfl
 ·cases e;cases r;rfl
 ·cases e;cases r;rfl
 ·split at e
  ·rename_i hz
   cases e;cases r
   exact ⟨Nat.le_trans hz EF,rfl⟩
  ·cases e
 ·cases e
  obtain ⟨a,vs,rfl,hs,q⟩:=BF h r rfl
  exact .inl ⟨vs,hs,(DO q.len).symm⟩
 ·cases e
  obtain ⟨a,vs,rfl,hs,q⟩:=Cy r rfl
  exact .inr (.inl ⟨vs,hs,(DO q.len).symm⟩)
 ·rename_i i
  split at e
  ·rename_i ts eo
   cases e
   obtain ⟨a,vs,rfl,hs,q⟩:=BF (ts:=ts) h r (by simp [C6,eo])
   exact .inl ⟨vs,hs,(DO q.len).symm⟩
  ·rename_i ks ts eo
   cases e
   obtain ⟨v,L2,e1,q,_⟩:=h.own eo
   have e2:σ[i]?=some (some u):=r
   rw [e1] at e2
   have e3:v=u:=by simpa using e2
   subst e3
   simp only [AK] at q
   obtain ⟨a,kvs,rfl,hd,rfl,_⟩:=q
   exact .inr (.inr ⟨kvs,hd,(DO (by simp))⟩)
  ·cases e
 ·cases e
end
section
variable {X:Cx} {Z:Xp} {a b c:Expr} {fa fb:FS->Out Rv} {ga gb:FS->Out Bool} {pos:Pos} {rest:List Expr}
theorem BR (ha:FE X Z a fa) (he:∀ whole,isTrue a X.env whole=(do let v <- whole;standAt a.pos;holding [v] (truthy v))):FT X Z a (EH fa):=by
 refine K3 (PV ha he) fun σ H Q ⟨F,B,fs,ok,s⟩=>⟨F,B,fs,ok,A2 s fun r fs1 F1 H1 u l ok1 rx s1=>?_⟩
 split at s1
 ·rename_i b e
  exact ⟨b,R5 ok1 rx e,s1 F1 H1 b Le.refl ⟨ok1,rfl⟩⟩
 ·exact s1.elim
theorem Dq (ha:FT X Z a ga):FT X Z (.UnaryOp .Not a pos) (Eu ga):=by
 refine K3 (UG ha) fun σ H Q ⟨F,B,fs,ok,s⟩=>⟨F,B,fs,ok,AU s fun b fs1 F1 H1 b' l q s1=>?_⟩
 obtain ⟨ok1,rfl⟩:=q
 exact s1 F1 H1 _ Le.refl ⟨ok1,rfl⟩
def FW (X:Cx) (Z:Xp) (e:Expr) (f:FS->Out Bool):Prop:=PW X e (tT X.K Z f)
theorem FW.ft (h:FW X Z a ga):FT X Z a ga:=PW.pt h
theorem Rh {e:Expr} {t t':TT} (h:PW X e t) (i:∀ σ H Q,t' σ H Q->t σ H Q):PW X e t':=fun whole pins s σ H Q I q=>h whole pins s σ H Q I (i _ _ _ q)
theorem Ku (ha:FT X Z a ga):FW X Z (.BoolOp .And [a] pos) ga:=Sh ha
theorem Jz (ha:FT X Z a ga):FW X Z (.BoolOp .Or [a] pos) ga:=UD ha
theorem Oj (ha:FT X Z a ga) (hb:FW X Z (.BoolOp .And (b :: rest) pos) gb):FW X Z (.BoolOp .And (a :: b :: rest) pos) (LP ga gb):=by
 refine Rh (UE ha hb) fun σ H Q ⟨F,B,fs,ok,s⟩=>⟨F,B,fs,ok,AU s fun b fs1 F1 H1 b' l q s1=>?_⟩
 obtain ⟨ok1,rfl⟩:=q
 cases b' with
 | true =>
  rw [if_pos rfl] at s1 ⊢
  exact ⟨F1,B,fs1,ok1,s1⟩
 | false =>
  rw [if_neg (by decide)] at s1 ⊢
  exact s1 F1 H1 _ Le.refl ⟨ok1,rfl⟩
theorem Mx (ha:FT X Z a ga) (hb:FW X Z (.BoolOp .Or (b :: rest) pos) gb):FW X Z (.BoolOp .Or (a :: b :: rest) pos) (orT ga gb):=by
 refine Rh (Wk ha hb) fun σ H Q ⟨F,B,fs,ok,s⟩=>⟨F,B,fs,ok,AU s fun b fs1 F1 H1 b' l q s1=>?_⟩
 obtain ⟨ok1,rfl⟩:=q
 cases b' with
 | true =>
  rw [if_pos rfl] at s1 ⊢
  exact s1 F1 H1 _ Le.refl ⟨ok1,rfl⟩
 | false =>
  rw [if_neg (by decide)] at s1 ⊢
  exact ⟨F1,B,fs1,ok1,s1⟩
theorem Vv {op} (h:FE X Z a fa):FE X Z (.BoolOp op [a] pos) fa:=UL h
theorem Vz (ha:FE X Z a fa) (hb:FE X Z (.BoolOp .And (b :: rest) pos) fb):FE X Z (.BoolOp .And (a :: b :: rest) pos) (VZ fa fb):=by
 refine Bi (US ha hb) fun σ H Q ⟨F,B,fs,ok,s⟩=>⟨F,B,fs,ok,A2 s fun r fs1 F1 H1 u l ok1 rx s1=>?_⟩
 split at s1
 ·exact ⟨true,rx,by rw [if_pos rfl];exact ⟨F1,B,fs1,ok1,s1⟩⟩
 ·exact ⟨false,rx,by rw [if_neg (by decide)];exact s1 F1 H1 _ Le.refl (RR.of ok1 rfl)⟩
 ·exact s1.elim
end
section
variable {X:Cx} {Z:Xp} {a b c:Expr} {fa fb fc:FS->Out Rv} {r r':R2} {g g':Rv->Rv->FS->Out Rv} {pos:Pos}
theorem IG {op op':CmpOp} (hg:OpF X.K Z r g) (hg':OpF X.K Z r' g') (ha:FE X Z a fa) (hb:FE X Z b fb) (hc:FE X Z c fc)
  (h:∀ {ta tb tc:TE},PE X a ta->PE X b tb->PE X c tc->PT X (.Compare a [op,op'] [b,c] pos) (R7 (MQ r r' ta tb tc))):FT X Z (.Compare a [op,op'] [b,c] pos) (asB (chain g g' fa fb fc)) :=
 K3 (h ha hb hc) fun _ _ _ q=>TK hg hg' (RY q)
end
def Ak:FS->Out (List Rv):=fun fs=>.ok [] fs
def Ac (f:FS->Out Rv) (g:FS->Out (List Rv)):FS->Out (List Rv):=fun fs=>(f fs).bnd fun r fs=>(g fs).bind fun rs fs=>.ok (r :: rs) fs
def KP:List Rv->Option (List T)
 | []=>some []
 | .t t :: r=>(KP r).map (t :: ·)
 | _=>none
theorem Gd {K:Fg} {F:Wd} {H:Hp} {σ:St}:∀ {rs:List Rv} {vs:List V} {ts:List T},IQ K F H σ rs vs->KP rs=some ts->Ad K F H ts vs
 | [],_,_,h,e=>by cases e;exact h
 | .t t :: r,_,_,h,e=>by
  simp only [KP,Option.map_eq_some_iff] at e
  obtain ⟨ts,e,rfl⟩:=e
  obtain ⟨v,w,rfl,h1,h2⟩:=h
  simp only [Ad]
  exact ⟨v,w,rfl,h1,Gd h2 e⟩
 | .nw _ :: r,_,_,h,e=>by simp [KP] at e
 | .rf _ :: r,_,_,h,e=>by simp [KP] at e
def AG (g:List T->FS->Out Rv) (f:FS->Out (List Rv)):FS->Out Rv:=fun fs=>(f fs).bind fun rs fs=>match KP rs with
 | some ts=>if ts.length<=big then g ts fs else .bad
 | none=>.bad
def CH (ts:List T) (fs:FS):Out Rv:=.ok (.t (.tup ts)) fs
def Bq (ts:List T) (fs:FS):Out Rv:=.ok (.t (.lst ts)) fs
def Eb (ts:List T) (fs:FS):Out Rv:=.ok (.nw (.lst ts)) fs
section
variable {X:Cx} {Z:Xp} {e:Expr} {es:List Expr} {f:FS->Out Rv} {g:FS->Out (List Rv)} {pos:Pos}
theorem AB:FA X Z [] Ak:=K8 Gr fun σ H Q ⟨F,B,fs,ok,s⟩=>s F H [] Le.refl ⟨ok,rfl⟩
theorem Af (ha:FE X Z e f) (hr:FA X Z es g) (hs:starEach (e :: es) X.env=(false,eval e X.env) :: starEach es X.env:=by rfl):FA X Z (e :: es) (Ac f g):=by
 refine K8 (Dc ha hr hs) fun σ H Q ⟨F,B,fs,ok,s⟩=>⟨F,B,fs,ok,A2 s fun r fs1 F1 H1 u l ok1 rx s1=>⟨F1,B,fs1,ok1,AU s1 fun rs fs2 F2 H2 us l2 q s2=>?_⟩⟩
 exact s2 F2 H2 (u :: us) Le.refl ⟨q.1,u,us,rfl,rx.le l2,q.2⟩
theorem HI {x1} (h:FA X Z es g):FE X Z (.Tuple es x1 pos) (AG CH g):=by
 refine Bi (Rq h) fun σ H Q ⟨F,B,fs,ok,s⟩=>⟨F,B,fs,ok,AU s fun rs fs1 F1 H1 us l q s1=>?_⟩
 obtain ⟨ok1,q⟩:=q
 split at s1
 ·rename_i ts e
  have r:=Gd q e
  split at s1
  ·rename_i hl
   refine ⟨by rw [r.len];exact Nat.le_trans hl EF,fun p hp=>s1 (Q2 F1 p) (upd H1 p (.tup us)) (.ref p) (Cj ok1 hp) (RR.of (ok1.alloc hp) ?_)⟩
   simp only [CM,AQ]
   exact ⟨p,us,rfl,⟨rfl,.inr rfl,AF⟩,r.le (Cj ok1 hp)⟩
  ·exact s1.elim
 ·exact s1.elim
theorem CZ (h:FA X Z es g):FE X Z (.List es pos) (AG Bq g):=by
 refine Bi (Rt h) fun σ H Q ⟨F,B,fs,ok,s⟩=>⟨F,B,fs,ok,AU s fun rs fs1 F1 H1 us l q s1=>?_⟩
 obtain ⟨ok1,q⟩:=q
 split at s1
 ·rename_i ts e
  have r:=Gd q e
  split at s1
  ·rename_i hl
   refine ⟨by rw [r.len];exact Nat.le_trans hl EF,fun p hp=>s1 (Q2 F1 p) (upd H1 p (.lst us)) (.ref p) (Cj ok1 hp) (RR.of (ok1.alloc hp) ?_)⟩
   simp only [CM,AQ]
   exact ⟨p,us,rfl,.inr rfl,AF,r.le (Cj ok1 hp)⟩
  ·exact s1.elim
 ·exact s1.elim
theorem Dl {K:Fg} {F:Wd} {H:Hp} {p:Addr} {ts:List T} {us:List V} (h:H p=some (.lst us)) (r:Ad K F H ts us):AK K F H (.lst ts) (.ref p) [p]:=by
 simp only [AK]
 exact ⟨p,us,rfl,h,r,rfl⟩
theorem Fs (h:FA X Z es g):FE X Z (.List es pos) (AG Eb g):=by
 refine Bi (Rt h) fun σ H Q ⟨F,B,fs,ok,s⟩=>⟨F,B,fs,ok,AU s fun rs fs1 F1 H1 us l q s1=>?_⟩
 obtain ⟨ok1,q⟩:=q
 split at s1
 ·rename_i ts e
  have r:=Gd q e
  split at s1
  ·rename_i hl
   exact ⟨by rw [r.len];exact Nat.le_trans hl EF,fun p hp=>s1 F1 (upd H1 p (.lst us)) (.ref p) (Bp ok1 hp) (RR.alloc ok1 hp (Dl AF (r.le (Bp ok1 hp))))⟩
  ·exact s1.elim
 ·exact s1.elim
def Mt:FS->Out Rv:=fun fs=>.ok (.nw (.dK [] [])) fs
theorem E4:FE X Z (.Dict [] [] pos) Mt:=by
 refine Bi P5 fun σ H Q ⟨F,B,fs,ok,s⟩ p hp=>s F (upd H p (.dK [])) (.ref p) (Bp ok hp) (RR.alloc ok hp ?_)
 simp only [AK,Ad]
 exact ⟨p,[],rfl,AF,rfl,rfl,rfl⟩
end
def DV (K:Fg) (Z:Xp) (r:List V->Hp->VK->Prop) (g:List Rv->FS->Out Rv):Prop:=∀ (F:Wd) (B:Nat->Option V) (H:Hp) (σ:St) (fs:FS) (rs:List Rv) (vs:List V) (Q:VK),Okk K F B H fs σ->IQ K F H σ rs vs ->
 sat Z B (RR K B σ) F H (g rs fs) Q->r vs H Q
def Ar (g:List Rv->FS->Out Rv) (f:FS->Out (List Rv)):FS->Out Rv:=fun fs=>(f fs).bind fun rs fs=>g rs fs
section
variable {X:Cx} {Z:Xp} {e:Expr} {es:List Expr} {fa:FS->Out (List Rv)} {g:List Rv->FS->Out Rv} {r:List V->Hp->VK->Prop} {pos p:Pos} {x:Str} {id Ty:String}
theorem FZ (hg':DV X.K Z r g) (hc:Dj X (.builtin id) r) (hm:X.mg x=none) (hv:bootBuiltins x=some (.builtin id)) (ha:FA X Z (e :: es) fa) (hg:Gl X x:=by rfl) (hn:x≠"__name__":=by decide) (hdb:(x == ("__debug__":Str))=false:=by decide)
  (he:starEach (e :: es) X.env=(false,eval e X.env) :: starEach es X.env:=by rfl) (hpl:(backTo pos (starEach es X.env)).any (·.1)=false:=by rfl):FE X Z (.Call (.Name x p) (e :: es) [] pos) (Ar g fa) :=
 Bi (EV hc hg hm hv ha hn hdb he hpl) fun σ H Q ⟨F,B,fs,ok,s⟩=>⟨F,B,fs,ok,AU s fun rs fs1 F1 H1 us l q s1=>hg' F1 B H1 σ fs1 rs us Q q.1 q.2 s1⟩
theorem GR (hg':DV X.K Z r g) (hc:Dj X (.type Ty) r) (hm:X.mg x=none) (hv:bootBuiltins x=some (.type Ty)) (ha:FA X Z (e :: es) fa) (hg:Gl X x:=by rfl) (hn:x≠"__name__":=by decide) (hdb:(x == ("__debug__":Str))=false:=by decide)
  (he:starEach (e :: es) X.env=(false,eval e X.env) :: starEach es X.env:=by rfl) (hpl:(backTo pos (starEach es X.env)).any (·.1)=false:=by rfl):FE X Z (.Call (.Name x p) (e :: es) [] pos) (Ar g fa) :=
 Bi (Nj hc hg hm hv ha hn hdb he hpl) fun σ H Q ⟨F,B,fs,ok,s⟩=>⟨F,B,fs,ok,AU s fun rs fs1 F1 H1 us l q s1=>hg' F1 B H1 σ fs1 rs us Q q.1 q.2 s1⟩
end
def WN:List Rv->FS->Out Rv
 | [x],fs=>match C6 fs x with
  | some ts=>okT (.int ts.length) fs
  | none=>match MU x with
   | some ts=>okT (.int ts.length) fs
   | none=>.bad
 | _,_=>.bad
def Of:List Rv->FS->Out Rv
 | [.t (.str z)],fs=>if z.length<=big then okT (.int z.length) fs else .bad
 | _,_=>.bad
def Jx:List Rv->FS->Out Rv
 | [.t (.int i),.t (.int j)],fs=>okT (.int (if j < i then j else i)) fs
 | _,_=>.bad
def IF:List Rv->FS->Out Rv
 | [.t (.int i)],fs=>okT (.int i) fs
 | [.t (.bl k)],fs=>okT (.int (if k then 1 else 0)) fs
 | _,_=>.bad
def Tc:List Rv->FS->Out Rv
 | [x],fs=>match (C6 fs x).bind C1 with
  | some ns=>okT (.int ns.sum) fs
  | none=>.bad
 | _,_=>.bad
def Vn:List Rv->FS->Out Rv
 | [x],fs=>match (C6 fs x).bind D4 with
  | some ns=>okT (.bl (ns.all id)) fs
  | none=>.bad
 | _,_=>.bad
def Th:List Rv->FS->Out Rv
 | [x],fs=>match C6 fs x with
  | some ts=>.ok (.nw (.lst ts)) fs
  | none=>match MU x with
   | some ts=>.ok (.nw (.lst ts)) fs
   | none=>.bad
 | _,_=>.bad
def EY:List Rv->FS->Out Rv
 | [x],fs=>match C6 fs x with
  | some ts=>okT (.tup ts) fs
  | none=>match MU x with
   | some ts=>okT (.tup ts) fs
   | none=>.bad
 | _,_=>.bad
def T9:Key->T
 | .inl i=>.int i
 | .inr x=>.str x
def Oe:List Rv->FS->Out Rv
 | [.t (.dK ks _)],fs=>.ok (.nw (.lst (ks.map T9))) fs
 | _,_=>.bad
section
variable {K:Fg} {Z:Xp}
theorem BW {F:Wd} {H:Hp} {σ:St} {x:Rv} {vs:List V} (h:IQ K F H σ [x] vs):∃ v,vs=[v]/\CM K F H σ x v:=by
 obtain ⟨v,w,rfl,h1,h2⟩:=h
 have:w=[]:=h2
 subst this
 exact ⟨v,rfl,h1⟩
theorem VH:DV K Z (fun xs H Q=>∃ p ys,xs=[.ref p]/\(SqL K H p ys∨SqT K H p ys)/\Q (.int ys.length) H) WN:=by
 intro F B H σ fs rs vs Q ok q s
 unfold WN at s
 split at s
 ·obtain ⟨v,rfl,qq⟩:=BW q
  have q:=qq
  split at s
  ·rename_i ts e
   obtain ⟨a,us,rfl,hs,r⟩:=BF ok q e
   exact ⟨a,us,rfl,.inl hs,by rw [r.len];exact s F H _ Le.refl (RR.of ok rfl)⟩
  ·split at s
   ·rename_i ts e
    obtain ⟨a,us,rfl,hs,r⟩:=Cy q e
    exact ⟨a,us,rfl,.inr hs,by rw [r.len];exact s F H _ Le.refl (RR.of ok rfl)⟩
   ·exact s.elim
 ·exact s.elim
theorem TN:DV K Z (fun xs H Q=>∃ z,xs=[.str z]/\z.length<=sizeLine/\Q (.int z.length) H) Of:=by
 intro F B H σ fs rs vs Q ok q s
 unfold Of at s
 split at s
 ·rename_i z
  obtain ⟨v,rfl,qq⟩:=BW q
  have q:=qq
  cases q
  split at s
  ·rename_i hz
   exact ⟨z,rfl,Nat.le_trans hz EF,s F H _ Le.refl (RR.of ok rfl)⟩
  ·exact s.elim
 ·exact s.elim
theorem TL:DV K Z (fun xs H Q=>∃ i j,xs=[.int i,.int j]/\Q (.int (if j < i then j else i)) H) Jx:=by
 intro F B H σ fs rs vs Q ok q s
 unfold Jx at s
 split at s
 ·rename_i i j
  obtain ⟨v,w,rfl,q1,v2,w2,rfl,q2,q3⟩:=q
  cases q1
  cases q2
  cases q3
  exact ⟨i,j,rfl,s F H _ Le.refl (RR.of ok rfl)⟩
 ·exact s.elim
theorem TR:DV K Z (fun xs H Q=>(∃ i,xs=[.int i]/\Q (.int i) H)∨∃ k,xs=[.bl k]/\Q (.int (if k then 1 else 0)) H) IF:=by
 intro F B H σ fs rs vs Q ok q s
 unfold IF at s
 split at s
 ·obtain ⟨v,rfl,qq⟩:=BW q
  have q:=qq
  cases q
  exact .inl ⟨_,rfl,s F H _ Le.refl (RR.of ok rfl)⟩
 ·obtain ⟨v,rfl,qq⟩:=BW q
  have q:=qq
  cases q
  exact .inr ⟨_,rfl,s F H _ Le.refl (RR.of ok rfl)⟩
 ·exact s.elim
theorem VG:DV K Z (fun xs H Q=>∃ (l:Addr) (ns:List Int),xs=[.ref l]/\SqL K H l (ns.map V.int)/\Q (.int ns.sum) H) Tc:=by
 intro F B H σ fs rs vs Q ok q s
 unfold Tc at s
 split at s
 ·obtain ⟨v,rfl,qq⟩:=BW q
  have q:=qq
  split at s
  ·rename_i ns e
   rw [Option.bind_eq_some_iff] at e
   obtain ⟨ts,e1,e2⟩:=e
   obtain ⟨a,us,rfl,hs,r⟩:=BF ok q e1
   rw [JW e2] at r
   rw [Ad.ints r] at hs
   exact ⟨a,ns,rfl,hs,s F H _ Le.refl (RR.of ok rfl)⟩
  ·exact s.elim
 ·exact s.elim
theorem VI:DV K Z (fun xs H Q=>∃ (l:Addr) (bs:List Bool),xs=[.ref l]/\SqL K H l (bs.map V.bl)/\Q (.bl (bs.all id)) H) Vn:=by
 intro F B H σ fs rs vs Q ok q s
 unfold Vn at s
 split at s
 ·obtain ⟨v,rfl,qq⟩:=BW q
  have q:=qq
  split at s
  ·rename_i ns e
   rw [Option.bind_eq_some_iff] at e
   obtain ⟨ts,e1,e2⟩:=e
   obtain ⟨a,us,rfl,hs,r⟩:=BF ok q e1
   rw [Gb e2] at r
   rw [Ad.bls r] at hs
   exact ⟨a,ns,rfl,hs,s F H _ Le.refl (RR.of ok rfl)⟩
  ·exact s.elim
 ·exact s.elim
theorem TM:DV K Z (fun xs H Q=>∃ p ys,xs=[.ref p]/\(SqL K H p ys∨SqT K H p ys)/\∀ l,H l=none->Q (.ref l) (upd H l (.lst ys))) Th:=by
 intro F B H σ fs rs vs Q ok q s
 unfold Th at s
 split at s
 ·obtain ⟨v,rfl,qq⟩:=BW q
  have q:=qq
  split at s
  ·rename_i ts e
   obtain ⟨a,us,rfl,hs,r⟩:=BF ok q e
   exact ⟨a,us,rfl,.inl hs,fun p hp=>s F (upd H p (.lst us)) (.ref p) (Bp ok hp) (RR.alloc ok hp (Dl AF (r.le (Bp ok hp))))⟩
  ·split at s
   ·rename_i ts e
    obtain ⟨a,us,rfl,hs,r⟩:=Cy q e
    exact ⟨a,us,rfl,.inr hs,fun p hp=>s F (upd H p (.lst us)) (.ref p) (Bp ok hp) (RR.alloc ok hp (Dl AF (r.le (Bp ok hp))))⟩
   ·exact s.elim
 ·exact s.elim
theorem Ff {F:Wd} {H:Hp} {ts:List T} {us:List V} {p:Addr} {σ:St} {B:Nat->Option V} {fs:FS} (ok:Okk K F B H fs σ) (hp:H p=none) (r:Ad K F H ts us):RR K B σ (Q2 F p) (upd H p (.tup us)) fs (.t (.tup ts)) (.ref p):=by
 refine RR.of (ok.alloc hp) ?_
 simp only [CM,AQ]
 exact ⟨p,us,rfl,⟨rfl,.inr rfl,AF⟩,r.le (Cj ok hp)⟩
theorem Ma {F:Wd} {H:Hp} {ts:List T} {us:List V} {p:Addr} {σ:St} {B:Nat->Option V} {fs:FS} (ok:Okk K F B H fs σ) (hp:H p=none) (r:Ad K F H ts us):RR K B σ (Q2 F p) (upd H p (.lst us)) fs (.t (.lst ts)) (.ref p):=by
 refine RR.of (ok.alloc hp) ?_
 simp only [CM,AQ]
 exact ⟨p,us,rfl,.inr rfl,AF,r.le (Cj ok hp)⟩
theorem QQ:DV K Z (fun xs H Q=>∃ p ys,xs=[.ref p]/\((SqL K H p ys/\∀ l,H l=none->Q (.ref l) (upd H l (.tup ys)))∨(SqT K H p ys/\Q (.ref p) H))) EY:=by
 intro F B H σ fs rs vs Q ok q s
 unfold EY at s
 split at s
 ·rename_i x
  obtain ⟨v,rfl,qq⟩:=BW q
  have q:=qq
  split at s
  ·rename_i ts e
   obtain ⟨a,us,rfl,hs,r⟩:=BF ok q e
   exact ⟨a,us,rfl,.inl ⟨hs,fun p hp=>s _ _ (.ref p) (Cj ok hp) (Ff ok hp r)⟩⟩
  ·split at s
   ·rename_i ts e
    obtain ⟨a,us,rfl,hs,r⟩:=Cy q e
    have ex:x=.t (.tup ts):=by
     unfold MU at e
     split at e
     ·cases e;rfl
     ·cases e
    rw [ex] at q
    exact ⟨a,us,rfl,.inr ⟨hs,s F H _ Le.refl (RR.of ok q)⟩⟩
   ·exact s.elim
 ·exact s.elim
theorem Iw {F:Wd} {H:Hp}:∀ ks:List Key,Ad K F H (ks.map T9) (ks.map kV)
 | []=>by simp [Ad]
 | .inl i :: r=>by
  simp only [List.map_cons,Ad]
  exact ⟨_,_,rfl,rfl,Iw r⟩
 | .inr i :: r=>by
  simp only [List.map_cons,Ad]
  exact ⟨_,_,rfl,rfl,Iw r⟩
theorem QR:DV K Z (fun xs H Q=>∃ p kvs,xs=[.ref p]/\Rd H p (.dK kvs)/\∀ l,H l=none->Q (.ref l) (upd H l (.lst (kvs.map fun kv=>kV kv.1)))) Oe:=by
 intro F B H σ fs rs vs Q ok q s
 unfold Oe at s
 split at s
 ·rename_i ks ts
  obtain ⟨v,rfl,qq⟩:=BW q
  have q:=qq
  simp only [CM,AQ] at q
  obtain ⟨a,kvs,rfl,f,hd,rfl,r⟩:=q
  refine ⟨a,kvs,rfl,hd,fun p hp=>s F _ (.ref p) (Bp ok hp) (RR.alloc ok hp (Dl AF ?_))⟩
  have e:(kvs.map fun kv=>kV kv.1)=(kvs.map (·.1)).map kV:=by rw [List.map_map];rfl
  rw [e]
  exact Iw _
 ·exact s.elim
end
def MtF (K:Fg) (Z:Xp) (r:V->List V->Hp->VK->Prop) (g:Rv->List Rv->FS->Out Rv):Prop:=∀ (F:Wd) (B:Nat->Option V) (H:Hp) (σ:St) (fs:FS) (x:Rv) (rs:List Rv) (u:V) (vs:List V) (Q:VK),Okk K F B H fs σ->CM K F H σ x u->IQ K F H σ rs vs ->
 sat Z B (RR K B σ) F H (g x rs fs) Q->r u vs H Q
def AV (g:Rv->List Rv->FS->Out Rv) (fo:FS->Out Rv) (fa:FS->Out (List Rv)):FS->Out Rv:=fun fs=>(fo fs).bnd fun x fs=>if (C6 fs x).isSome=true then (fa fs).bind fun rs fs=>g x rs fs else .bad
def FH (g:Rv->List Rv->FS->Out Rv) (fo:FS->Out Rv) (fa:FS->Out (List Rv)):FS->Out Rv:=fun fs=>(fo fs).bnd fun x fs=>match x with
 | .t (.str _)=>(fa fs).bind fun rs fs=>g x rs fs
 | _=>.bad
section
variable {X:Cx} {Z:Xp} {o e:Expr} {es:List Expr} {fo:FS->Out Rv} {fa:FS->Out (List Rv)} {g:Rv->List Rv->FS->Out Rv} {r:V->List V->Hp->VK->Prop} {apos cpos:Pos} {name:Str} {id:String}
theorem Hq (hg:MtF X.K Z r g) (slot:Slot "list" name id) (hty:typeOf (.builtin id)=pure (.type "method_descriptor")) (hm:MtR X id r) (ho:FE X Z o fo) (ha:FA X Z (e :: es) fa)
  (hbase:attributeBase o name X.env (eval o X.env)=eval o X.env:=by rfl)
  (hfew:((backTo cpos (starEach (e :: es) X.env)).all (fun x=>!x.1) && (backToKw cpos (keywordEach [] X.env)).all (fun x=>x.1.isSome)
   && decide ((e :: es).length+([]:List Keyword).length+(if ([]:List Keyword).isEmpty then 0 else 1) < 30))=true:=by rfl)
  (hline:(apos.endLine == cpos.line)=true:=by rfl) (hs:starEach (e :: es) X.env=(false,eval e X.env) :: starEach es X.env:=by rfl) (hplain:(backTo cpos (starEach es X.env)).any (·.1)=false:=by rfl) :
  FE X Z (.Call (.Attribute o name apos) (e :: es) [] cpos) (AV g fo fa):=by
 refine Bi (UR PySem.F.plainAttrs_list slot hty hm ho ha hbase hfew hline hs hplain) fun σ H Q ⟨F,B,fs,ok,s⟩=>⟨F,B,fs,ok,A2 s fun x fs1 F1 H1 u l ok1 rx s1=>?_⟩
 split at s1
 ·rename_i he
  obtain ⟨ts,ets⟩:=Option.isSome_iff_exists.mp he
  obtain ⟨a,vs,rfl,hs,q⟩:=BF ok1 rx ets
  exact ⟨.inl ⟨rfl,vs,hs⟩,F1,B,fs1,ok1,AU s1 fun rs fs2 F2 H2 us l2 q2 s2=>hg F2 B H2 σ fs2 x rs _ us Q q2.1 (rx.le l2) q2.2 s2⟩
 ·exact s1.elim
theorem HK (hg:MtF X.K Z r g) (slot:Slot "list" name id) (hty:typeOf (.builtin id)=pure (.type "method_descriptor")) (hm:MtR X id r) (ho:FE X Z o fo)
  (hbase:attributeBase o name X.env (eval o X.env)=eval o X.env:=by rfl) (hline:(apos.endLine == cpos.line)=true:=by rfl):FE X Z (.Call (.Attribute o name apos) [] [] cpos) (AV g fo Ak):=by
 refine Bi (Nk PySem.F.plainAttrs_list slot hty hm ho hbase hline) fun σ H Q ⟨F,B,fs,ok,s⟩=>⟨F,B,fs,ok,A2 s fun x fs1 F1 H1 u l ok1 rx s1=>?_⟩
 split at s1
 ·rename_i he
  obtain ⟨ts,ets⟩:=Option.isSome_iff_exists.mp he
  obtain ⟨a,vs,rfl,hs,q⟩:=BF ok1 rx ets
  exact ⟨.inl ⟨rfl,vs,hs⟩,hg F1 B H1 σ fs1 x [] _ [] Q ok1 rx rfl s1⟩
 ·exact s1.elim
theorem RH (hg:MtF X.K Z r g) (slot:Slot "str" name id) (hty:typeOf (.builtin id)=pure (.type "method_descriptor")) (hm:MtR X id r) (ho:FE X Z o fo) (ha:FA X Z (e :: es) fa)
  (hbase:attributeBase o name X.env (eval o X.env)=eval o X.env:=by rfl)
  (hfew:((backTo cpos (starEach (e :: es) X.env)).all (fun x=>!x.1) && (backToKw cpos (keywordEach [] X.env)).all (fun x=>x.1.isSome)
   && decide ((e :: es).length+([]:List Keyword).length+(if ([]:List Keyword).isEmpty then 0 else 1) < 30))=true:=by rfl)
  (hline:(apos.endLine == cpos.line)=true:=by rfl) (hs:starEach (e :: es) X.env=(false,eval e X.env) :: starEach es X.env:=by rfl) (hplain:(backTo cpos (starEach es X.env)).any (·.1)=false:=by rfl) :
  FE X Z (.Call (.Attribute o name apos) (e :: es) [] cpos) (FH g fo fa):=by
 refine Bi (UR PySem.F.plainAttrs_str slot hty hm ho ha hbase hfew hline hs hplain) fun σ H Q ⟨F,B,fs,ok,s⟩=>⟨F,B,fs,ok,A2 s fun x fs1 F1 H1 u l ok1 rx s1=>?_⟩
 split at s1
 ·have rx2:=rx
  cases rx
  exact ⟨rfl,F1,B,fs1,ok1,AU s1 fun rs fs2 F2 H2 us l2 q2 s2=>hg F2 B H2 σ fs2 _ rs _ us Q q2.1 (CM.le rx2 l2) q2.2 s2⟩
 ·exact s1.elim
end
def D1:Rv->List Rv->FS->Out Rv
 | .rf i,[.t t],fs=>match A1 fs i with
  | some (.lst ts)=>if ts.length < big then .ok (.t .non) (putAt fs i (.lst (ts++[t]))) else .bad
  | _=>.bad
 | _,_,_=>.bad
def Ho:Rv->List Rv->FS->Out Rv
 | .rf i,[],fs=>match A1 fs i with
  | some (.lst ts)=>match ts.getLast? with
   | some t=>.ok (.t t) (putAt fs i (.lst ts.dropLast))
   | none=>.bad
  | _=>.bad
 | _,_,_=>.bad
def E1:Rv->List Rv->FS->Out Rv
 | .rf i,[],fs=>match A1 fs i with
  | some (.lst _)=>.ok (.t .non) (putAt fs i (.lst []))
  | _=>.bad
 | _,_,_=>.bad
def GK:Rv->List Rv->FS->Out Rv
 | .t (.str z),[x],fs=>match (C6 fs x).bind C0 with
  | some ys=>if (ys.map (·.length)).sum+ys.length * z.length<=big then okT (.str (Txt.join z ys)) fs else .bad
  | none=>.bad
 | _,_,_=>.bad
section
variable {K:Fg} {Z:Xp} {B:Nat->Option V} {F:Wd} {H:Hp} {σ:St} {fs:FS} {i:Nat} {u:V} {ts:List T}
theorem Ad.last {vs:List V} {t:T} (r:Ad K F H ts vs) (e:ts.getLast?=some t):∃ z,vs=vs.dropLast++[z]/\AQ K F H t z/\Ad K F H ts.dropLast vs.dropLast:=by
 have hl:=r.len
 rw [List.getLast?_eq_getElem?] at e
 obtain ⟨z,ez,rz⟩:=r.at e
 have hpos:0 < ts.length:=by
  have:=(List.getElem?_eq_some_iff.mp e).1
  omega
 refine ⟨z,?_,rz,?_⟩
 ·have hne:vs≠[]:=by intro q;rw [q] at hl;simp at hl;omega
  have h1:=(List.dropLast_concat_getLast hne).symm
  have h2:vs.getLast hne=z:=by
   rw [List.getLast_eq_getElem]
   have:=(List.getElem?_eq_some_iff.mp ez)
   obtain ⟨h3,h4⟩:=this
   rw [<- h4]
   congr 1
   rw [hl]
  rw [h2] at h1
  exact h1
 ·rw [List.dropLast_eq_take,List.dropLast_eq_take,hl]
  exact r.take _
theorem Okk.list (h:Okk K F B H fs σ) (r:σ[i]?=some (some u)) (e:A1 fs i=some (.lst ts)):∃ a vs,u=.ref a/\H a=some (.lst vs)/\Ad K F H ts vs /\
  ∀ ts' vs',Ad K F H ts' vs'->Okk K F B (upd H a (.lst vs')) (putAt fs i (.lst ts')) σ/\Le F H F (upd H a (.lst vs')):=by
 obtain ⟨v,L2,e1,q,nf,_,k⟩:=h.own e
 rw [e1] at r
 have e3:v=u:=by simpa using r
 subst e3
 simp only [AK] at q
 obtain ⟨a,vs,rfl,hs,q,rfl⟩:=q
 refine ⟨a,vs,rfl,hs,q,fun ts' vs' q'=>?_⟩
 have l:Le F H F (upd H a (.lst vs')):=⟨fun b f=>⟨f,Aq fun z=>(nf a (by simp)).1 (z▸f)⟩,fun b f=>⟨f,Aq fun z=>(nf a (by simp)).2 (z▸f)⟩⟩
 exact k _ _ (fun b hb _=>Aq (by simpa using hb)) (Dl AF (q'.le l))
theorem FC:MtF K Z M0 D1:=by
 intro F B H σ fs x rs u vs Q ok rx q s
 unfold D1 at s
 split at s
 ·rename_i i t
  obtain ⟨v,rfl,qq⟩:=BW q
  have q:=qq
  split at s
  ·rename_i ts e
   split at s
   ·rename_i hl
    obtain ⟨a,us,rfl,hs,r,k⟩:=ok.list rx e
    obtain ⟨ok',l⟩:=k (ts++[t]) (us++[v]) (r.app (Ad.one q))
    exact ⟨a,us,v,rfl,rfl,hs,by rw [r.len];exact Nat.lt_trans hl HR,s F _ _ l (RR.of ok' rfl)⟩
   ·exact s.elim
  ·exact s.elim
 ·exact s.elim
theorem Jr:MtF K Z (fun x vs H Q=>∃ l e z,x=.ref l/\vs=[]/\H l=some (.lst (e++[z]))/\Q z (upd H l (.lst e))) Ho:=by
 intro F B H σ fs x rs u vs Q ok rx q s
 unfold Ho at s
 split at s
 ·have:vs=[]:=q
  subst this
  split at s
  ·rename_i ts e
   split at s
   ·rename_i t et
    obtain ⟨a,us,rfl,hs,r,k⟩:=ok.list rx e
    obtain ⟨z,ez,rz,rd⟩:=r.last et
    obtain ⟨ok',l⟩:=k _ _ rd
    refine ⟨a,us.dropLast,z,rfl,rfl,by rw [<- ez];exact hs,s F _ z l (RR.of ok' (AQ.le l rz))⟩
   ·exact s.elim
  ·exact s.elim
 ·exact s.elim
theorem Qg:MtF K Z Rf E1:=by
 intro F B H σ fs x rs u vs Q ok rx q s
 unfold E1 at s
 split at s
 ·have:vs=[]:=q
  subst this
  split at s
  ·rename_i ts e
   obtain ⟨a,us,rfl,hs,r,k⟩:=ok.list rx e
   obtain ⟨ok',l⟩:=k [] [] rfl
   exact ⟨a,us,rfl,rfl,hs,s F _ _ l (RR.of ok' rfl)⟩
  ·exact s.elim
 ·exact s.elim
theorem NK:MtF K Z (fun x xs H Q=>∃ (z:Str) (l:Addr) (ys:List Str),x=.str z/\xs=[.ref l]/\SqL K H l (ys.map V.str)/\(ys.map (·.length)).sum+ys.length * z.length<=16777216/\Q (.str (Txt.join z ys)) H) GK:=by
 intro F B H σ fs x rs u vs Q ok rx q s
 unfold GK at s
 split at s
 ·rename_i z x
  obtain ⟨v,rfl,qq⟩:=BW q
  have q:=qq
  cases rx
  split at s
  ·rename_i ys e
   rw [Option.bind_eq_some_iff] at e
   obtain ⟨ts,e1,e2⟩:=e
   split at s
   ·rename_i hl
    obtain ⟨a,us,rfl,hs,r⟩:=BF ok q e1
    rw [JV e2] at r
    rw [Ad.strs r] at hs
    exact ⟨z,a,ys,rfl,rfl,hs,Nat.le_trans hl (by decide),s F H _ Le.refl (RR.of ok rfl)⟩
   ·exact s.elim
  ·exact s.elim
 ·exact s.elim
end
def L5:T->Option Key
 | .int i=>some (.inl i)
 | .str x=>some (.inr x)
 | _=>none
def J4:List T->Option (List Key)
 | []=>some []
 | t :: r=>(L5 t).bind fun k=>(J4 r).map (k :: ·)
theorem FR {K:Fg} {F:Wd} {H:Hp} {t:T} {u:V} {k:Key} (e:L5 t=some k) (r:AQ K F H t u):u=kV k:=by
 unfold L5 at e
 split at e
 ·cases e;exact r
 ·cases e;exact r
 ·cases e
theorem Gi {K:Fg} {F:Wd} {H:Hp}:∀ {ts:List T} {us:List V} {ks:List Key},J4 ts=some ks->Ad K F H ts us->us=ks.map kV
 | [],_,_,e,r=>by cases e;exact r
 | t :: ts,_,_,e,r=>by
  simp only [J4,Option.bind_eq_some_iff,Option.map_eq_some_iff] at e
  obtain ⟨k,e1,ks,e2,rfl⟩:=e
  simp only [Ad] at r
  obtain ⟨v,w,rfl,r1,r2⟩:=r
  rw [List.map_cons,Gi e2 r2,FR e1 r1]
def EO {κ:Type} [DecidableEq κ]:List κ->List T->κ->Option T
 | k :: ks,t :: ts,j=>if k=j then some t else EO ks ts j
 | _,_,_=>none
def Ii {κ:Type} [DecidableEq κ] (ks:List κ) (ts:List T) (j:κ) (v:T):List κ×List T :=
 if (ks.any fun k=>decide (k=j))=true then (ks,List.zipWith (fun k t=>if k=j then v else t) ks ts) else (ks++[j],ts++[v])
section
variable {K:Fg} {F:Wd} {H:Hp} {κ:Type} [DecidableEq κ]
theorem HW:∀ {kvs:List (κ×V)} {ts:List T} {j:κ},Ad K F H ts (kvs.map (·.2))->(EO (kvs.map (·.1)) ts j=none/\LX kvs j=none)∨∃ t v,EO (kvs.map (·.1)) ts j=some t/\LX kvs j=some v/\AQ K F H t v
 | [],ts,j,r=>by
  have h:=r.len
  cases ts with
  | nil=>exact .inl ⟨rfl,rfl⟩
  | cons t ts=>simp at h
 | (k,v) :: kvs,ts,j,r=>by
  cases ts with
  | nil =>
   have h:=r.len
   simp at h
  | cons t ts =>
   simp only [List.map_cons,Ad] at r
   obtain ⟨v',w,e,r1,r2⟩:=r
   cases e
   by_cases hk:k=j
   ·refine .inr ⟨t,v,?_,FK hk,r1⟩
    simp only [List.map_cons,EO]
    rw [if_pos hk]
   ·have e1:EO (((k,v) :: kvs).map (·.1)) (t :: ts) j=EO (kvs.map (·.1)) ts j:=by
     simp only [List.map_cons,EO]
     rw [if_neg hk]
    rw [e1,FN (p:=(k,v)) hk]
    exact HW r2
theorem MK {j:κ} {t:T} {w:V} (q:AQ K F H t w):∀ {kvs:List (κ×V)} {ts:List T},Ad K F H ts (kvs.map (·.2)) ->
  Ad K F H (List.zipWith (fun k t'=>if k=j then t else t') (kvs.map (·.1)) ts) ((kvs.map fun kv=>if kv.1=j then (kv.1,w) else kv).map (·.2))
 | [],ts,r=>by
  have h:=r.len
  cases ts with
  | cons t ts=>simp at h
  | nil=>exact rfl
 | (k,v) :: kvs,ts,r=>by
  cases ts with
  | nil =>
   have h:=r.len
   simp at h
  | cons t' ts =>
   simp only [List.map_cons,Ad] at r
   obtain ⟨v',w',e,r1,r2⟩:=r
   cases e
   have ih:=MK q (j:=j) r2
   simp only [List.map_cons,List.zipWith_cons_cons,Ad]
   by_cases hk:k=j
   ·rw [if_pos hk,if_pos hk]
    exact ⟨w,_,rfl,q,ih⟩
   ·rw [if_neg hk,if_neg hk]
    exact ⟨v,_,rfl,r1,ih⟩
theorem Ih {j:κ} {t:T} {w:V} (q:AQ K F H t w) {kvs:List (κ×V)} {ts:List T} (r:Ad K F H ts (kvs.map (·.2))) :
  (putK kvs j w).map (·.1)=(Ii (kvs.map (·.1)) ts j t).1/\Ad K F H (Ii (kvs.map (·.1)) ts j t).2 ((putK kvs j w).map (·.2)):=by
 have e:((kvs.map (·.1)).any fun k=>decide (k=j))=(kvs.any fun kv=>decide (kv.1=j)):=by rw [List.any_map];rfl
 unfold putK Ii
 rw [e]
 by_cases h:(kvs.any fun kv=>decide (kv.1=j))=true
 ·rw [if_pos h,if_pos h]
  refine ⟨?_,MK q r⟩
  rw [List.map_map]
  refine List.map_congr_left fun p hp=>?_
  show (if p.1=j then (p.1,w) else p).1=p.1
  split <;> rfl
 ·rw [if_neg h,if_neg h]
  refine ⟨by rw [List.map_append];rfl,?_⟩
  rw [List.map_append]
  exact r.app (Ad.one q)
end
def TF (fs:FS):Rv->T->Option (Option T)
 | .t (.dK ks ts),y=>(L5 y).map fun k=>EO ks ts k
 | .t (.dF ks ts),y=>(L5 y).map fun k=>EO ks ts k
 | .t (.dT ks ts),.tup y=>(J4 y).map fun k=>EO ks ts k
 | .rf i,y=>match A1 fs i with
  | some (.dK ks ts)=>(L5 y).map fun k=>EO ks ts k
  | some (.dT ks ts)=>match y with
   | .tup y=>(J4 y).map fun k=>EO ks ts k
   | _=>none
  | _=>none
 | _,_=>none
section
variable {K:Fg} {B:Nat->Option V} {F:Wd} {H:Hp} {σ:St} {fs:FS} {x:Rv} {y:T} {u w:V}
theorem OH {o:Option T} (h:Okk K F B H fs σ) (rx:CM K F H σ x u) (ry:AQ K F H y w) (e:TF fs x y=some o) :
  ∃ a o',u=.ref a/\MJ H a w o'/\((o=none/\o'=none)∨∃ t v,o=some t/\o'=some v/\AQ K F H t v):=by
 have key:∀ {a:Addr} {kvs:List (Key×V)} {ts:List T},Rd H a (.dK kvs)->Ad K F H ts (kvs.map (·.2))->(L5 y).map (fun k=>EO (kvs.map (·.1)) ts k)=some o ->
   ∃ o',MJ H a w o'/\((o=none/\o'=none)∨∃ t v,o=some t/\o'=some v/\AQ K F H t v):=by
  intro a kvs ts hd r e
  rw [Option.map_eq_some_iff] at e
  obtain ⟨k,ek,eo⟩:=e
  have:=FR ek ry
  subst this
  refine ⟨_,.inl ⟨kvs,k,hd,rfl,rfl⟩,?_⟩
  rcases HW (j:=k) r with ⟨h1,h2⟩ | ⟨t,v,h1,h2,h3⟩
  ·exact .inl ⟨eo.symm.trans h1,h2⟩
  ·exact .inr ⟨t,v,eo.symm.trans h1,h2,h3⟩
 have T9:∀ {a:Addr} {kvs:List (List Key×V)} {ts ys:List T},H a=some (.dT kvs)->Ad K F H ts (kvs.map (·.2))->y=.tup ys->(J4 ys).map (fun k=>EO (kvs.map (·.1)) ts k)=some o ->
   ∃ o',MJ H a w o'/\((o=none/\o'=none)∨∃ t v,o=some t/\o'=some v/\AQ K F H t v):=by
  intro a kvs ts ys hd r ey e
  rw [Option.map_eq_some_iff] at e
  obtain ⟨k,ek,eo⟩:=e
  subst ey
  simp only [AQ] at ry
  obtain ⟨b,vs,rfl,hb,rb⟩:=ry
  have:=Gi ek rb
  subst this
  refine ⟨_,MJ.t hd hb.2.2,?_⟩
  rcases HW (j:=k) r with ⟨h1,h2⟩ | ⟨t,v,h1,h2,h3⟩
  ·exact .inl ⟨eo.symm.trans h1,h2⟩
  ·exact .inr ⟨t,v,eo.symm.trans h1,h2,h3⟩
 unfold TF at e
 split at e
 ·simp only [CM,AQ] at rx
  obtain ⟨a,kvs,rfl,f,hd,rfl,r⟩:=rx
  obtain ⟨o',h1,h2⟩:=key hd r e
  exact ⟨a,o',rfl,h1,h2⟩
 ·simp only [CM,AQ] at rx
  obtain ⟨a,kvs,rfl,f,⟨ob,hd⟩,rfl,r⟩:=rx
  obtain ⟨o',h1,h2⟩:=key (.inr ⟨ob,hd⟩) r e
  exact ⟨a,o',rfl,h1,h2⟩
 ·simp only [CM,AQ] at rx
  obtain ⟨a,kvs,rfl,f,hd,rfl,r⟩:=rx
  obtain ⟨o',h1,h2⟩:=T9 hd r rfl e
  exact ⟨a,o',rfl,h1,h2⟩
 ·rename_i y' i
  have e2:σ[i]?=some (some u):=rx
  split at e
  ·rename_i eo
   obtain ⟨v,L2,e1,q,_⟩:=h.own eo
   rw [e1] at e2
   have e3:v=u:=by simpa using e2
   subst e3
   simp only [AK] at q
   obtain ⟨a,kvs,rfl,hd,rfl,r,_⟩:=q
   obtain ⟨o',h1,h2⟩:=key (.inl hd) r e
   exact ⟨a,o',rfl,h1,h2⟩
  ·rename_i eo
   split at e
   ·obtain ⟨v,L2,e1,q,_⟩:=h.own eo
    rw [e1] at e2
    have e3:v=u:=by simpa using e2
    subst e3
    simp only [AK] at q
    obtain ⟨a,kvs,rfl,hd,rfl,r,_⟩:=q
    obtain ⟨o',h1,h2⟩:=T9 hd r rfl e
    exact ⟨a,o',rfl,h1,h2⟩
   ·cases e
  ·cases e
 ·cases e
end
def Og:Rv->Rv->FS->Out Rv
 | x,.t y,fs=>match TF fs x y with
  | some (some t)=>okT t fs
  | _=>.bad
 | _,_,_=>.bad
def Ti (neg:Bool):Rv->Rv->FS->Out Rv
 | .t y,x,fs=>match TF fs x y with
  | some o=>okT (.bl (if neg then !o.isSome else o.isSome)) fs
  | _=>.bad
 | _,_,_=>.bad
section
variable {X:Cx} {Z:Xp} {o i:Expr} {fo fi:FS->Out Rv} {pos:Pos}
end
def Pl:List Str->List T->Str->Option T
 | f :: fs,t :: ts,g=>if g == f then some t else Pl fs ts g
 | _,_,_=>none
def DZ:List Str->List FO->Str->Option FO
 | f :: fs,t :: ts,g=>if g == f then some t else DZ fs ts g
 | _,_,_=>none
def Vl (C:Addr) (f:Str):Rv->FS->Out Rv
 | .t (.ins C' fs ts),st=>if C'=C then match Pl fs ts f with
   | some t=>okT t st
   | none=>.bad
  else .bad
 | .rf i,st=>match A1 st i with
  | some (.ins C' fs os)=>if C'=C then match DZ fs os f with
    | some (.val t)=>okT t st
    | _=>.bad
   else .bad
  | _=>.bad
 | _,_=>.bad
theorem KW {K:Fg} {F:Wd} {H:Hp} {g:Str}:∀ {kvs:List (Str×V)} {ts:List T} {t:T},Ad K F H ts (kvs.map (·.2))->Pl (kvs.map (·.1)) ts g=some t->∃ v,kvs.lookup g=some v/\AQ K F H t v
 | [],ts,t,r,e=>by cases ts <;> simp [Pl] at e
 | (k,v) :: kvs,ts,t,r,e=>by
  cases ts with
  | nil=>simp [Pl] at e
  | cons t' ts =>
   simp only [List.map_cons,Ad] at r
   obtain ⟨v',w',ee,r1,r2⟩:=r
   cases ee
   simp only [List.map_cons,Pl] at e
   rw [List.lookup_cons]
   cases hb:g == k with
   | true =>
    rw [hb] at e
    cases e
    exact ⟨v,rfl,r1⟩
   | false =>
    rw [hb] at e
    exact KW r2 (by simpa using e)
theorem IV {K:Fg} {F:Wd} {H:Hp} {g:Str}:∀ {kvs:List (Str×V)} {ts:List FO} {L:List Addr} {t:FO},AA K F H ts (kvs.map (·.2)) L->DZ (kvs.map (·.1)) ts g=some t->∃ v L',kvs.lookup g=some v/\AK K F H t v L'/\∀ a∈L',a∈L
 | [],ts,L,t,r,e=>by cases ts <;> simp [DZ] at e
 | (k,v) :: kvs,ts,L,t,r,e=>by
  cases ts with
  | nil=>simp [DZ] at e
  | cons t' ts =>
   simp only [List.map_cons,AA] at r
   obtain ⟨v',w',L1,L2,ee,r1,r2,rfl⟩:=r
   cases ee
   simp only [List.map_cons,DZ] at e
   rw [List.lookup_cons]
   cases hb:g == k with
   | true =>
    rw [hb] at e
    cases e
    exact ⟨v,L1,rfl,r1,fun a m=>List.mem_append_left _ m⟩
   | false =>
    rw [hb] at e
    obtain ⟨v2,L',h1,h2,h3⟩:=IV r2 (by simpa using e)
    exact ⟨v2,L',h1,h2,fun a m=>List.mem_append_right _ (h3 a m)⟩
def JA (C:Addr) (f:Str) (fo:FS->Out Rv):FS->Out Rv:=fun fs=>(fo fs).bnd fun x fs=>Vl C f x fs
section
variable {X:Cx} {Z:Xp} {o:Expr} {fo:FS->Out Rv} {pos:Pos} {C:Addr} {f:Str}
theorem GQ (c:Cls X.K C) (n:DX X.K C f) (ho:FE X Z o fo) (hb:attributeBase o f X.env (eval o X.env)=eval o X.env:=by rfl):FE X Z (.Attribute o f pos) (JA C f fo):=by
 refine Bi (K7 ho hb) fun σ H Q ⟨F,B,fs,ok,s⟩=>⟨F,B,fs,ok,A2 s fun x fs1 F1 H1 u l ok1 rx s1=>?_⟩
 unfold Vl at s1
 split at s1
 ·rename_i C' gs ts
  split at s1
  ·rename_i hC
   subst hC
   split at s1
   ·rename_i t e
    simp only [CM,AQ] at rx
    obtain ⟨a,dx,kvs,rfl,ff,hd,rfl,r⟩:=rx
    obtain ⟨v,e1,rv⟩:=KW r e
    exact ⟨a,C',dx,kvs,v,rfl,hd,c,n,e1,s1 F1 H1 v Le.refl (RR.of ok1 rv)⟩
   ·exact s1.elim
  ·exact s1.elim
 ·rename_i i
  split at s1
  ·rename_i C' gs os eo
   split at s1
   ·rename_i hC
    subst hC
    split at s1
    ·rename_i t e
     obtain ⟨v,L2,e1,q,_⟩:=ok1.own eo
     have e2:σ[i]?=some (some u):=rx
     rw [e1] at e2
     have e3:v=u:=by simpa using e2
     subst e3
     simp only [AK] at q
     obtain ⟨a,dx,kvs,L',rfl,hd,rfl,r,_⟩:=q
     obtain ⟨v2,L3,e4,r4,_⟩:=IV r e
     simp only [AK] at r4
     exact ⟨a,C',dx,kvs,v2,rfl,hd,c,n,e4,s1 F1 H1 v2 Le.refl (RR.of ok1 r4.2)⟩
    ·exact s1.elim
   ·exact s1.elim
  ·exact s1.elim
 ·exact s1.elim
end
def Hg (K:Fg) (Z:Xp) (B:Nat->Option V) (F:Wd) (H:Hp) (o:SO) (D:Ends):Prop:=match o with
 | .nx fs=>∀ F' H' σ,Le F H F' H'->Okk K F' B H' fs σ->D.nx σ H'
 | .ret r fs=>∀ F' H' σ u,Le F H F' H'->RR K B σ F' H' fs r u->D.rt u H'
 | .brk fs=>∀ F' H' σ,Le F H F' H'->Okk K F' B H' fs σ->D.bk σ H'
 | .cnt fs=>∀ F' H' σ,Le F H F' H'->Okk K F' B H' fs σ->D.ct σ H'
 | .exc c fs=>Z.p F B H c fs
 | .bad=>False
def tSt (K:Fg) (Z:Xp) (g:FS->SO):TS:=fun D σ H=>∃ F B fs,Okk K F B H fs σ/\Hg K Z B F H (g fs) D
def GS (X:Cx) (Z:Xp) (st:Stmt) (g:FS->SO):Prop:=PS X st (tSt X.K Z g)
def GSs (X:Cx) (Z:Xp) (sts:List Stmt) (g:FS->SO):Prop:=PSs X sts (tSt X.K Z g)
theorem Hg.le {K:Fg} {Z:Xp} {B:Nat->Option V} {F F':Wd} {H H':Hp} {o:SO} {D:Ends} (h:Hg K Z B F H o D) (l:Le F H F' H'):Hg K Z B F' H' o D:=by
 cases o with
 | nx fs=>exact fun F2 H2 σ l2 k=>h F2 H2 σ (l.trans l2) k
 | ret r fs=>exact fun F2 H2 σ u l2 k=>h F2 H2 σ u (l.trans l2) k
 | brk fs=>exact fun F2 H2 σ l2 k=>h F2 H2 σ (l.trans l2) k
 | cnt fs=>exact fun F2 H2 σ l2 k=>h F2 H2 σ (l.trans l2) k
 | exc c fs=>exact Z.mono h l
 | bad=>exact h
def nxS:FS->SO:=fun fs=>.nx fs
def AN (g h:FS->SO):FS->SO:=fun fs=>match g fs with
 | .nx fs=>h fs
 | o=>o
def SO.of {α:Type} (o:Out α) (k:α->FS->SO):SO:=match o with
 | .ok a fs=>k a fs
 | .exc c fs=>.exc c fs
 | .bad=>.bad
theorem Dv {K:Fg} {Z:Xp} {B:Nat->Option V} {F:Wd} {H:Hp} {α β:Type} {R:Wd->Hp->FS->α->β->Prop} {o:Out α} {k:α->FS->SO} {D:Ends} {Q:β->Hp->Prop} (h:Hg K Z B F H (SO.of o k) D)
  (hk:∀ a fs F' H' b,Le F H F' H'->R F' H' fs a b->Hg K Z B F' H' (k a fs) D->Q b H'):sat Z B R F H o Q:=by
 cases o with
 | ok a fs=>exact fun F2 H2 b l r=>hk a fs F2 H2 b l r (Hg.le h l)
 | exc c fs=>exact h
 | bad=>exact h
def M4 (i:Nat) (r:Rv) (fs:FS):Option FS:=match r with
 | .t t=>some (fs.set i (some (.val t)))
 | .nw o=>some (fs.set i (some (.own o)))
 | .rf _=>none
def HZ (i:Nat) (r:Rv) (fs:FS):Option FS:=match fs[i]? with
 | none=>none
 | some (some (.bor _))=>none
 | some _=>M4 i r fs
theorem J6 {K:Fg} {B:Nat->Option V} {σ:St} {F:Wd} {H:Hp} {fs fs':FS} {r:Rv} {u:V} {i:Nat} (h:RR K B σ F H fs r u) (e:HZ i r fs=some fs'):Okk K F B H fs' (σ.set i (some u)):=by
 obtain ⟨L,L',ok,q,nd,nf⟩:=h
 have key:∀ s:Option Sl,fs[i]?=some s->(∀ o,s≠some (.bor o))->M4 i r fs=some fs'->Okk K F B H fs' (σ.set i (some u)):=by
  intro s es hb e
  obtain ⟨v,L1,L2,L3,e1,rfl,h1,h2⟩:=ok.sl.pick es
  have dis:∀ a∈L',a∉L1++L3:=fun a m m2=>(List.nodup_append.mp nd).2.2 a (by
   rcases List.mem_append.mp m2 with m2 | m2
   ·simp [m2]
   ·simp [m2]) a m rfl
  have nf3:∀ a∈L1++(L'++L3),¬ F a/\¬ F.p a:=fun a m=>by
   rcases List.mem_append.mp m with m | m
   ·exact ⟨ok.nf a (by simp [m]),ok.pl a (by simp [m])⟩
   ·rcases List.mem_append.mp m with m | m
    ·exact nf a m
    ·exact ⟨ok.nf a (by simp [m]),ok.pl a (by simp [m])⟩
  cases r with
  | t t =>
   cases e
   obtain ⟨rfl,q⟩:=q
   refine ⟨L1++([]++L3),h2 F H (some (.val t)) (some u) [] Le.refl (fun _ _=>rfl) ⟨u,rfl,q,rfl⟩,CA ok.nd List.nodup_nil (fun _ m=>nomatch m),fun a m=>(nf3 a m).1,ok.fd,?_,ok.pd,ok.pf,fun a m=>(nf3 a m).2⟩
   exact Hd.put ok.bo (fun o eo=>by cases eo) ok.sl.len
  | nw o =>
   cases e
   refine ⟨L1++(L'++L3),h2 F H (some (.own o)) (some u) L' Le.refl (fun _ _=>rfl) ⟨u,rfl,q⟩,CA ok.nd (List.nodup_append.mp nd).2.1 dis,fun a m=>(nf3 a m).1,ok.fd,?_,ok.pd,ok.pf,fun a m=>(nf3 a m).2⟩
   exact Hd.put ok.bo (fun o eo=>by cases eo) ok.sl.len
  | rf j=>cases e
 unfold HZ at e
 split at e
 ·cases e
 ·cases e
 ·rename_i s hb es
  exact key s es (fun o z=>hb o z) e
def AY (i:Nat) (f:FS->Out Rv):FS->SO:=fun fs=>SO.of (f fs) fun r fs=>match HZ i r fs with
 | some fs=>.nx fs
 | none=>.bad
def AZ (f:FS->Out Rv):FS->SO:=fun fs=>SO.of (f fs) fun _ fs=>.nx fs
def retS (f:FS->Out Rv):FS->SO:=fun fs=>SO.of (f fs) fun r fs=>.ret r fs
def ifS (c:FS->Out Bool) (g h:FS->SO):FS->SO:=fun fs=>SO.of (c fs) fun b fs=>if b=true then g fs else h fs
section
variable {X:Cx} {Z:Xp} {st:Stmt} {rest a b:List Stmt} {e c:Expr} {f:FS->Out Rv} {fc:FS->Out Bool} {g h:FS->SO} {pos:Pos}
theorem Bg:GSs X Z [] nxS:=J7 M5 fun D σ H ⟨F,B,fs,ok,s⟩=>s F H σ Le.refl ok
theorem Ae (h1:GS X Z st g) (h2:GSs X Z rest h):GSs X Z (st :: rest) (AN g h):=by
 refine J7 (FV h1 h2) fun D σ H ⟨F,B,fs,ok,s⟩=>⟨F,B,fs,ok,?_⟩
 unfold AN at s
 cases e:g fs with
 | nx fs1 =>
  rw [e] at s
  exact fun F1 H1 σ1 l k=>⟨F1,B,fs1,k,Hg.le s l⟩
 | ret r fs1=>rw [e] at s;exact s
 | brk fs1=>rw [e] at s;exact s
 | cnt fs1=>rw [e] at s;exact s
 | exc c fs1=>rw [e] at s;exact s
 | bad=>rw [e] at s;exact s
theorem Ap (h1:GS X Z st g):GSs X Z [st] g:=Sj h1
theorem BY (he:FE X Z e f) (hs:swapsWith e none pos.line X.env=pure false:=by rfl):GS X Z (.Expr e pos) (AZ f) :=
 DF (J8 he hs) fun D σ H ⟨F,B,fs,ok,s⟩=>⟨F,B,fs,ok,Dv s fun r fs1 F1 H1 u l q s1=>s1 F1 H1 σ Le.refl q.ok⟩
theorem Bw (he:FE X Z e f):GS X Z (.Return (some e) pos) (retS f) :=
 DF (UI he) fun D σ H ⟨F,B,fs,ok,s⟩=>⟨F,B,fs,ok,Dv s fun r fs1 F1 H1 u l q s1=>s1 F1 H1 σ u Le.refl q⟩
theorem CB (hc:FT X Z c fc) (ha:GSs X Z a g) (hb:GSs X Z b h):GS X Z (.If c a b pos) (ifS fc g h):=by
 refine DF (Wl hc ha hb) fun D σ H ⟨F,B,fs,ok,s⟩=>⟨F,B,fs,ok,Dv s fun r fs1 F1 H1 u l q s1=>?_⟩
 obtain ⟨ok1,rfl⟩:=q
 cases u with
 | true =>
  rw [if_pos rfl] at s1 ⊢
  exact ⟨F1,B,fs1,ok1,s1⟩
 | false =>
  rw [if_neg (by decide)] at s1 ⊢
  exact ⟨F1,B,fs1,ok1,s1⟩
theorem Se {i:Nat} {D:Ends} {σ:St} {H:Hp} {K:Fg} (s:tSt K Z (AY i f) D σ H):Us (tF K Z f) (QC i) D σ H:=by
 obtain ⟨F,B,fs,ok,s⟩:=s
 refine ⟨F,B,fs,ok,Dv s fun r fs1 F1 H1 u l q s1=>?_⟩
 split at s1
 ·rename_i fs2 e2
  exact s1 F1 H1 _ Le.refl (J6 q e2)
 ·exact s1.elim
theorem AR (i:Nat) {x:Str} {pos':Pos} (hN:X.N.Nodup) (hx:Loc X.env.scope x) (he:FE X Z e f) (hi:X.N[i]?=some x:=by rfl) (hs:swapsWith e (some (.Name x pos')) pos.line X.env=pure false:=by rfl) (hf:X.fn x=true∨X.env.scope.names.lookup x=some .local:=by first | exact .inl rfl | exact .inr rfl | assumption) :
  GS X Z (.Assign [.Name x pos'] e pos) (AY i f) :=
 DF (UH hN hi hx he hs hf) fun _ _ _ s=>Se s
end
def tG (K:Fg) (gt:T->FS->Option FS):TG:=fun v σ H Q=>∃ F B fs t,Okk K F B H fs σ/\AQ K F H t v/\match gt t fs with
 | some fs'=>∀ F' H' σ',Le F H F' H'->Okk K F' B H' fs' σ'->Q σ' H'
 | none=>False
def tGs (K:Fg) (gt:List T->FS->Option FS):TGs:=fun vs σ H Q=>∃ F B fs ts,Okk K F B H fs σ/\Ad K F H ts vs/\match gt ts fs with
 | some fs'=>∀ F' H' σ',Le F H F' H'->Okk K F' B H' fs' σ'->Q σ' H'
 | none=>False
def GT (X:Cx) (tg:Expr) (gt:T->FS->Option FS):Prop:=PG X tg (tG X.K gt)
def GTs (X:Cx) (tgs:List Expr) (gt:List T->FS->Option FS):Prop:=PGs X tgs (tGs X.K gt)
theorem Rp {X:Cx} {e:Expr} {t t':TG} (h:PG X e t) (i:∀ v σ H Q,t' v σ H Q->t v σ H Q):PG X e t':=fun pins s σ H v u Q I r q=>h pins s σ H v u Q I r (i _ _ _ _ q)
theorem Nh {X:Cx} {e:List Expr} {t t':TGs} (h:PGs X e t) (i:∀ v σ H Q,t' v σ H Q->t v σ H Q):PGs X e t':=fun pins s σ H v u Q I r q=>h pins s σ H v u Q I r (i _ _ _ _ q)
def tgN (i:Nat):T->FS->Option FS:=fun t fs=>HZ i (.t t) fs
def A5:List T->FS->Option FS
 | [],fs=>some fs
 | _,_=>none
def Ai (g:T->FS->Option FS) (h:List T->FS->Option FS):List T->FS->Option FS
 | t :: ts,fs=>(g t fs).bind fun fs=>h ts fs
 | _,_=>none
def A7 (n:Nat) (h:List T->FS->Option FS):T->FS->Option FS
 | .tup ts,fs=>if ts.length=n then h ts fs else none
 | _,_=>none
section
variable {X:Cx} {e:Expr} {es:List Expr} {g:T->FS->Option FS} {h:List T->FS->Option FS} {pos:Pos}
theorem AD (i:Nat) {x:Str} (hN:X.N.Nodup) (hx:Loc X.env.scope x) (hi:X.N[i]?=some x:=by rfl) (hf:X.fn x=true∨X.env.scope.names.lookup x=some .local:=by first | exact .inl rfl | exact .inr rfl | assumption):GT X (.Name x pos) (tgN i):=by
 refine Rp (Kb hN hi hx hf) fun v σ H Q ⟨F,B,fs,t,ok,r,s⟩=>?_
 split at s
 ·rename_i fs' e
  exact s F H _ Le.refl (J6 (RR.of (r:=.t t) ok r) e)
 ·exact s.elim
theorem BX:GTs X [] A5:=by
 refine Nh Ng fun v σ H Q ⟨F,B,fs,ts,ok,r,s⟩=>?_
 cases ts with
 | nil=>exact ⟨r,s F H σ Le.refl ok⟩
 | cons t ts=>exact s.elim
theorem AH (h1:GT X e g) (h2:GTs X es h)
  (hc:∀ {t:TG} {u:TGs},PG X e t->PGs X es u->PGs X (e :: es) (Vm t u)):GTs X (e :: es) (Ai g h):=by
 refine Nh (hc h1 h2) fun v σ H Q ⟨F,B,fs,ts,ok,r,s⟩=>?_
 cases ts with
 | nil=>exact s.elim
 | cons t ts =>
  simp only [Ad] at r
  obtain ⟨v',w,rfl,r1,r2⟩:=r
  refine ⟨v',w,rfl,F,B,fs,t,ok,r1,?_⟩
  simp only [Ai] at s
  cases e1:g t fs with
  | none=>rw [e1] at s;exact s.elim
  | some fs1 =>
   rw [e1] at s
   exact fun F1 H1 σ1 l k=>⟨F1,B,fs1,ts,k,r2.le l,by
    simp only [Option.bind_some] at s
    split at s
    ·exact fun F2 H2 σ2 l2 k2=>s F2 H2 σ2 (l.trans l2) k2
    ·exact s.elim⟩
theorem CW {k n:Nat} (hc:X.calm=true) (h1:GTs X es h) (hn:(assignEach es X.env).length=n:=by rfl) (hst:(assignEach es X.env).findIdx? (·.1)=none:=by rfl):GT X (.Tuple es k pos) (A7 n h):=by
 refine Rp (Rn hc h1 hn hst) fun v σ H Q ⟨F,B,fs,t,ok,r,s⟩=>?_
 unfold A7 at s
 split at s
 ·rename_i fs' e
  split at e
  ·rename_i ts
   split at e
   ·rename_i hl
    simp only [AQ] at r
    obtain ⟨a,vs,rfl,hs,r⟩:=r
    refine ⟨a,vs,rfl,hs.sq,by rw [r.len];exact hl,F,B,fs,ts,ok,r,?_⟩
    rw [e]
    exact s
   ·cases e
  ·cases e
 ·exact s.elim
end
section
variable {X:Cx} {Z:Xp} {e tg:Expr} {f:FS->Out Rv} {g:T->FS->Option FS} {pos:Pos}
end
def Nw (K:Fg) (F:Wd) (H:Hp) (F':Wd) (H':Hp):Prop:=Le F H F' H'/\∀ B fs σ,Okk K F B H fs σ->Okk K F' B H' fs σ
theorem Nw.refl {K:Fg} {F:Wd} {H:Hp}:Nw K F H F H:=⟨Le.refl,fun _ _ _ h=>h⟩
def JOk (K:Fg) (F:Wd) (H:Hp) (J:It) (ts:List T):Prop:=∀ (F':Wd) (H':Hp),(∀ a,F a->F' a/\H' a=H a)->(∃ B fs σ,Okk K F' B H' fs σ)->∀ i,(∀ t,ts[i]?=some t->J.go i H'/\∀ x H'',J.yld i H' x H''->∃ F'',Nw K F' H' F'' H''/\AQ K F'' H'' t x)/\(ts.length<=i->J.stop i H')
theorem JOk.within {K:Fg} {F:Wd} {p:Addr->Prop} {H:Hp} {J:It} {ts:List T} (h:JOk K F H J ts):JOk K ⟨F.f,p⟩ H J ts:=fun F2 H2 l2=>h F2 H2 l2
theorem Ad.lf {K:Fg} {F F':Wd} {H H':Hp} {ts:List T} {vs:List V} (l:∀ a,F a->F' a/\H' a=H a) (r:Ad K F H ts vs):Ad K F' H' ts vs :=
 Ad.le (F:=⟨F.f,fun _=>False⟩) ⟨l,fun _ z=>z.elim⟩ (Ad.wp r)
theorem StL.lf {K:Fg} {F F':Wd} {H H':Hp} {a:Addr} {vs:List V} (l:∀ a,F a->F' a/\H' a=H a) (r:StL K F H a vs):StL K F' H' a vs:=by
 rcases r with ⟨f,h⟩ | h
 ·exact .inl ⟨(l a f).1,FL.Rd.same h (l a f).2⟩
 ·exact .inr h
theorem stays {K:Fg} {F:Wd} {H H':Hp} {t:T} {x:V} (e:H'=H) (r:AQ K F H t x):∃ F',Nw K F H F' H'/\AQ K F' H' t x:=by subst e;exact ⟨F,Nw.refl,r⟩
def RJ (K:Fg) (B:Nat->Option V) (σ:St):Wd->Hp->FS->List T->It->Prop:=fun F H fs ts J=>Okk K F B H fs σ/\JOk K F H J ts
def tI (K:Fg) (Z:Xp) (f:FS->Out (List T)):TI:=fun σ H R=>∃ F B fs,Okk K F B H fs σ/\sat Z B (RJ K B σ) F H (f fs) R
def FI (X:Cx) (Z:Xp) (tg iter:Expr) (f:FS->Out (List T)):Prop:=PI X tg iter (tI X.K Z f)
theorem Nf {X:Cx} {tg e:Expr} {t t':TI} (h:PI X tg e t) (i:∀ σ H Q,t' σ H Q->t σ H Q):PI X tg e t':=fun pins s σ H Q I q=>h pins s σ H Q I (i _ _ _ q)
def signs (z:Str):List T:=z.cps.toList.map fun c=>T.str ⟨#[c]⟩
def upTo (lo:Int) (n:Nat):List T:=(List.range n).map fun i=>T.int (lo+(i:Nat))
def Pf (lo st:Int) (n:Nat):List T:=(List.range n).map fun i=>T.int (lo+(i:Nat) * st)
def Iz (f:FS->Out (List Rv)):FS->Out (List T):=fun fs=>(f fs).bind fun rs fs=>match rs with
 | [.t (.int j)]=>if -(2 ^ 62)<=j/\j < 2 ^ 62 then .ok (upTo 0 j.toNat) fs else .bad
 | _=>.bad
def S7 (f:FS->Out (List Rv)):FS->Out (List T):=fun fs=>(f fs).bind fun rs fs=>match rs with
 | [.t (.int i),.t (.int j),.t (.int c)]=>if 0 < c/\c < 1073741824/\Builtin.Range.small i j c=true/\0<=Builtin.Range.rangeSize i j c then .ok (Pf i c (Builtin.Range.rangeSize i j c).toNat) fs else .bad
 | _=>.bad
section
variable {X:Cx} {Z:Xp} {tg l a b c:Expr} {f:FS->Out Rv} {fa:FS->Out (List Rv)} {p pos:Pos} {K:Fg} {F:Wd} {H:Hp}
theorem Ld {a:Addr} {vs:List V} {ts:List T} (hs:∀ (F':Wd) H',(∀ a,F a->F' a/\H' a=H a)->SqL K H' a vs) (r:Ad K F H ts vs):JOk K F H (Itl K a) ts:=by
 intro F' H' l _ i
 have r':=Ad.lf l r
 refine ⟨fun t et=>?_,fun hl=>⟨vs,hs F' H' l,by rw [r.len];exact hl⟩⟩
 obtain ⟨v,ev,rv⟩:=r'.at et
 refine ⟨⟨vs,v,hs F' H' l,ev⟩,fun x H'' hy=>stays hy.1 ?_⟩
 have:=hy.2 vs (hs F' H' l)
 rw [ev] at this
 cases this
 exact rv
theorem S0 {a:Addr} {vs:List V} {ts:List T} (hs:∀ (F':Wd) H',(∀ a,F a->F' a/\H' a=H a)->SqT K H' a vs) (r:Ad K F H ts vs):JOk K F H (Itt K a) ts:=by
 intro F' H' l _ i
 have r':=Ad.lf l r
 refine ⟨fun t et=>?_,fun hl=>⟨vs,hs F' H' l,by rw [r.len];exact hl⟩⟩
 obtain ⟨v,ev,rv⟩:=r'.at et
 refine ⟨⟨vs,v,hs F' H' l,ev⟩,fun x H'' hy=>stays hy.1 ?_⟩
 have:=hy.2 vs (hs F' H' l)
 rw [ev] at this
 cases this
 exact rv
theorem NY {lo:Int} {n:Nat}:JOk K F H (Itr lo n) (upTo lo n):=by
 intro F' H' l _ i
 refine ⟨fun t et=>?_,fun hl=>by unfold upTo at hl;simpa [Itr] using hl⟩
 unfold upTo at et
 rw [List.getElem?_map] at et
 have hi:i < n:=by
  by_cases h:i < n
  ·exact h
  ·rw [List.getElem?_eq_none (by simpa using h)] at et;cases et
 rw [List.getElem?_range hi] at et
 cases et
 exact ⟨hi,fun x H'' hy=>stays hy.1 hy.2⟩
theorem Mo {lo st:Int} {n:Nat}:JOk K F H (V4 lo st n) (Pf lo st n):=by
 intro F' H' l _ i
 refine ⟨fun t et=>?_,fun hl=>by unfold Pf at hl;simpa [V4] using hl⟩
 unfold Pf at et
 rw [List.getElem?_map] at et
 have hi:i < n:=by
  by_cases h:i < n
  ·exact h
  ·rw [List.getElem?_eq_none (by simpa using h)] at et;cases et
 rw [List.getElem?_range hi] at et
 cases et
 exact ⟨hi,fun x H'' hy=>stays hy.1 hy.2⟩
theorem S3 {z:Str}:JOk K F H (Its z) (signs z):=by
 intro F' H' l _ i
 refine ⟨fun t et=>?_,fun hl=>by unfold signs at hl;simpa [Its] using hl⟩
 unfold signs at et
 rw [List.getElem?_map,Option.map_eq_some_iff] at et
 obtain ⟨c,ec,rfl⟩:=et
 have hi:i < z.cps.size:=by
  have:=(List.getElem?_eq_some_iff.mp ec).1
  simpa using this
 refine ⟨hi,fun x H'' hy=>stays hy.1 ?_⟩
 obtain ⟨c',e1,e2⟩:=hy.2
 rw [Array.getElem?_toList] at ec
 rw [ec] at e1
 cases e1
 exact e2
theorem DH (hm:X.mg "range"=none) (ha:FA X Z [a] fa) (hg:Gl X "range":=by rfl) (hs:starEach [a] X.env=[(false,eval a X.env)]:=by rfl):FI X Z tg (.Call (.Name "range" p) [a] [] pos) (Iz fa):=by
 refine Nf (Nd hg hm ha hs) fun σ H Q ⟨F,B,fs,ok,s⟩=>⟨F,B,fs,ok,AU s fun rs fs1 F1 H1 us l q s1=>?_⟩
 obtain ⟨ok1,q⟩:=q
 split at s1
 ·rename_i j
  split at s1
  ·rename_i hj
   obtain ⟨v,rfl,qq⟩:=BW q
   have q:=qq
   cases q
   exact ⟨j,rfl,hj.1,hj.2,s1 F1 H1 _ Le.refl ⟨ok1,NY⟩⟩
  ·exact s1.elim
 ·exact s1.elim
theorem Oy (ha:FA X Z [a,b,c] fa)
  (h:∀ {ta:TA},PA X [a,b,c] ta->PI X tg (.Call (.Name "range" p) [a,b,c] [] pos) (Vi ta)):FI X Z tg (.Call (.Name "range" p) [a,b,c] [] pos) (S7 fa):=by
 refine Nf (h ha) fun σ H Q ⟨F,B,fs,ok,s⟩=>⟨F,B,fs,ok,AU s fun rs fs1 F1 H1 us l q s1=>?_⟩
 obtain ⟨ok1,q⟩:=q
 split at s1
 ·rename_i i j k
  split at s1
  ·rename_i hj
   obtain ⟨v,w,rfl,q1,v2,w2,rfl,q2,v3,w3,rfl,q3,q4⟩:=q
   cases q1
   cases q2
   cases q3
   cases q4
   exact ⟨i,j,k,rfl,hj.1,hj.2.1,hj.2.2.1,hj.2.2.2,s1 F1 H1 _ Le.refl ⟨ok1,Mo⟩⟩
  ·exact s1.elim
 ·exact s1.elim
end
def FY (gt:T->FS->Option FS) (body:FS->SO):List T->FS->SO
 | [],fs=>.nx fs
 | t :: ts,fs=>match gt t fs with
  | none=>.bad
  | some fs=>match body fs with
   | .nx fs=>FY gt body ts fs
   | .cnt fs=>FY gt body ts fs
   | .brk fs=>.nx fs
   | o=>o
def Ex (src:FS->Out (List T)) (gt:T->FS->Option FS) (body:FS->SO):FS->SO:=fun fs=>SO.of (src fs) fun ts fs=>FY gt body ts fs
section
variable {X:Cx} {Z:Xp} {tg iter c:Expr} {src:FS->Out (List T)} {gt:T->FS->Option FS} {g:FS->SO} {body:List Stmt} {pos:Pos} {fc:FS->Out Bool}
theorem Df (hp:PassesOwn (model X.prog X.w) X.A X.env X.xe) (hc:X.calm=true) (hi:FI X Z tg iter src) (hg:GT X tg gt) (hb:GSs X Z body g)
  (hs:∀ x,foldedSetIterable iter X.env x=pure x:=by intro _;rfl):GS X Z (.For tg iter body [] pos) (Ex src gt g):=by
 refine DF (Rj hp hc hi hg hb hs) fun D σ H ⟨F,B,fs,ok,s⟩=>⟨F,B,fs,ok,Dv s fun ts fs1 F1 H1 J l q s1=>?_⟩
 obtain ⟨ok1,jk⟩:=q
 refine ⟨fun i m σ H=>m=ts.length - i/\∃ F' fs',Le F1 H1 F' H/\Okk X.K F' B H fs' σ/\Hg X.K Z B F' H (FY gt g (ts.drop i) fs') D,⟨ts.length,rfl,F1,fs1,Le.refl,ok1,s1⟩,?_⟩
 rintro i m σ H ⟨rfl,F2,fs2,l2,ok2,s2⟩
 by_cases hi:i < ts.length
 ·refine .inr ?_
  have ei:ts[i]?=some ts[i]:=List.getElem?_eq_getElem hi
  have ed:ts.drop i=ts[i] :: ts.drop (i+1):=List.drop_eq_getElem_cons hi
  rw [ed] at s2
  obtain ⟨j1,j2⟩:=(jk F2 H l2.f ⟨_,_,_,ok2⟩ i).1 _ ei
  refine ⟨j1,fun σ' H'=>∃ F' fs',Le F1 H1 F' H'/\Okk X.K F' B H' fs' σ'/\Hg X.K Z B F' H' (FY gt g (ts.drop (i+1)) fs') D,fun σ' H' h=>⟨ts.length - (i+1),by omega,rfl,h⟩,fun x H' hy=>?_⟩
  obtain ⟨F2',⟨l22,nw⟩,rx⟩:=j2 x H' hy
  replace l2:=l2.trans l22
  replace s2:=Hg.le s2 l22
  replace ok2:=nw _ _ _ ok2
  refine ⟨F2',B,fs2,ts[i],ok2,rx,?_⟩
  simp only [FY] at s2
  cases eg:gt ts[i] fs2 with
  | none=>rw [eg] at s2;exact s2.elim
  | some fs3 =>
   rw [eg] at s2
   intro F3 H3 σ3 l3 ok3
   refine ⟨F3,B,fs3,ok3,?_⟩
   have s3:=Hg.le s2 l3
   simp only at s3
   cases eb:g fs3 with
   | nx fs4 =>
    rw [eb] at s3
    exact fun F4 H4 σ4 l4 ok4=>⟨F4,fs4,(l2.trans l3).trans l4,ok4,Hg.le s3 l4⟩
   | cnt fs4 =>
    rw [eb] at s3
    exact fun F4 H4 σ4 l4 ok4=>⟨F4,fs4,(l2.trans l3).trans l4,ok4,Hg.le s3 l4⟩
   | brk fs4=>rw [eb] at s3;exact s3
   | ret r fs4=>rw [eb] at s3;exact s3
   | exc c fs4=>rw [eb] at s3;exact s3
   | bad=>rw [eb] at s3;exact s3
 ·refine .inl ⟨(jk F2 H l2.f ⟨_,_,_,ok2⟩ i).2 (by omega),?_⟩
  rw [List.drop_eq_nil_of_le (by omega)] at s2
  exact s2 F2 H σ Le.refl ok2
end
section
variable {K:Fg} {F F':Wd} {H H':Hp} {B:Nat->Option V} {fs:FS} {σ:St} {L:List Addr}
theorem Az.toP:∀ {fs:FS} {σ:St} {L:List Addr},Az K F H fs σ L->∃ ℓ:Nat->List Addr,(∀ i s,fs[i]?=some s->∃ v,σ[i]?=some v/\J0 K F H s v (ℓ i))/\(∀ i a,a∈ℓ i->a∈L) /\
  (L.Nodup->(∀ i,(ℓ i).Nodup)/\∀ i j a,i≠j->a∈ℓ i->a∉ℓ j)/\∀ i,fs.length<=i->ℓ i=[]
 | [],σ,L,h=>⟨fun _=>[],(fun i s e=>by simp at e),(fun i a m=>nomatch m),(fun _=>⟨fun _=>List.nodup_nil,(fun _ _ _ _ m=>nomatch m)⟩),fun _ _=>rfl⟩
 | s :: r,σ,L,h=>by
  obtain ⟨v,σ',L1,L2,rfl,h1,h2,rfl⟩:=h.IX
  obtain ⟨ℓ,q1,q2,q3,q4⟩:=Az.toP h2
  refine ⟨fun i=>match i with | 0=>L1 | i+1=>ℓ i,fun i s' e=>?_,fun i a m=>?_,fun nd=>?_,fun i hi=>?_⟩
  ·cases i with
   | zero =>
    simp at e
    subst e
    exact ⟨v,rfl,h1⟩
   | succ i =>
    obtain ⟨w,e1,e2⟩:=q1 i s' (by simpa using e)
    exact ⟨w,by simpa using e1,e2⟩
  ·cases i with
   | zero=>exact List.mem_append_left _ m
   | succ i=>exact List.mem_append_right _ (q2 i a m)
  ·rw [List.nodup_append] at nd
   obtain ⟨n1,n2,n3⟩:=nd
   obtain ⟨m1,m2⟩:=q3 n2
   refine ⟨fun i=>?_,fun i j a hij hi hj=>?_⟩
   ·cases i with
    | zero=>exact n1
    | succ i=>exact m1 i
   ·cases i with
    | zero =>
     cases j with
     | zero=>exact hij rfl
     | succ j=>exact n3 a hi a (q2 j a hj) rfl
    | succ i =>
     cases j with
     | zero=>exact n3 a hj a (q2 i a hi) rfl
     | succ j=>exact m2 i j a (fun e=>hij (by rw [e])) hi hj
  ·cases i with
   | zero=>simp at hi
   | succ i=>exact q4 i (by simpa using hi)
theorem Az.ofP:∀ {fs:FS} {σ:St} (ℓ:Nat->List Addr),σ.length=fs.length->(∀ i s,fs[i]?=some s->∃ v,σ[i]?=some v/\J0 K F H s v (ℓ i))->(∀ i,(ℓ i).Nodup)->(∀ i j a,i≠j->a∈ℓ i->a∉ℓ j) ->
  ∃ L,Az K F H fs σ L/\L.Nodup/\∀ a∈L,∃ i,i < fs.length/\a∈ℓ i
 | [],σ,ℓ,hl,h,nd,dj=>by
  have:σ=[]:=List.eq_nil_of_length_eq_zero (by simpa using hl)
  subst this
  exact ⟨[],⟨rfl,rfl⟩,List.nodup_nil,fun _ m=>nomatch m⟩
 | s :: r,[],ℓ,hl,h,nd,dj=>by simp at hl
 | s :: r,v :: σ,ℓ,hl,h,nd,dj=>by
  obtain ⟨L,h1,h2,h3⟩:=Az.ofP (fs:=r) (σ:=σ) (fun i=>ℓ (i+1)) (by simpa using hl) (fun i s' e=>by
   obtain ⟨w,e1,e2⟩:=h (i+1) s' (by simpa using e)
   exact ⟨w,by simpa using e1,e2⟩) (fun i=>nd (i+1)) (fun i j a hij=>dj (i+1) (j+1) a (by omega))
  obtain ⟨w,e1,e2⟩:=h 0 s rfl
  simp at e1
  subst e1
  refine ⟨ℓ 0++L,Az.cons e2 h1,?_,fun a m=>?_⟩
  ·rw [List.nodup_append]
   refine ⟨nd 0,h2,fun a ha b hb e=>?_⟩
   obtain ⟨i,_,hi⟩:=h3 b hb
   exact dj 0 (i+1) a (by omega) ha (by rw [e];exact hi)
  ·rcases List.mem_append.mp m with m | m
   ·exact ⟨0,by simp,m⟩
   ·obtain ⟨i,hi,q⟩:=h3 a m
    exact ⟨i+1,by simp;exact hi,q⟩
theorem Ok.take (h:Ok K F B H fs σ L) (n:Nat):∃ L',Ok K F B H (fs.take n) (σ.take n) L'/\∀ a∈L',a∈L:=by
 obtain ⟨ℓ,q1,q2,q3,q4⟩:=h.sl.toP
 obtain ⟨n1,n2⟩:=q3 h.nd
 have hl:(σ.take n).length=(fs.take n).length:=by rw [List.length_take,List.length_take,h.sl.len]
 obtain ⟨L',p1,p2,p3⟩:=Az.ofP (K:=K) (F:=F) (H:=H) (fs:=fs.take n) (σ:=σ.take n) ℓ hl (fun i s e=>by
  have hi:i < n:=by
   have:=(List.getElem?_eq_some_iff.mp e).1
   rw [List.length_take] at this
   omega
  rw [List.getElem?_take_of_lt hi] at e ⊢
  exact q1 i s e) n1 n2
 have sub:∀ a∈L',a∈L:=fun a m=>let ⟨i,_,q⟩:=p3 a m;q2 i a q
 refine ⟨L',⟨p1,p2,fun a m=>h.nf a (sub a m),h.fd,fun i o e=>?_,h.pd,h.pf,fun a m=>h.pl a (sub a m)⟩,sub⟩
 have hi:i < n:=by
  have:=(List.getElem?_eq_some_iff.mp e).1
  rw [List.length_take] at this
  omega
 rw [List.getElem?_take_of_lt hi] at e ⊢
 exact h.bo i o e
theorem RR.take {r:Rv} {u:V} (h:RR K B σ F H fs r u) (n:Nat) (hr:∀ i,r≠.rf i):RR K B (σ.take n) F H (fs.take n) r u:=by
 obtain ⟨L,L',ok,q,nd,nf⟩:=h
 obtain ⟨L2,ok2,sub⟩:=ok.take n
 refine ⟨L2,L',ok2,?_,?_,nf⟩
 ·cases r with
  | t t=>exact q
  | nw o=>exact q
  | rf i=>exact (hr i rfl).elim
 ·rw [List.nodup_append] at nd ⊢
  exact ⟨ok2.nd,nd.2.1,fun a ha b hb=>nd.2.2 a (sub a ha) b hb⟩
theorem Ok.more (h:Ok K F B H fs σ L) (n:Nat):Ok K F B H (fs++List.replicate n none) (σ++List.replicate n none) L:=by
 have key:∀ n:Nat,Az K F H (List.replicate n none) (List.replicate n none) []:=by
  intro n
  induction n with
  | zero=>exact ⟨rfl,rfl⟩
  | succ n ih =>
   rw [List.replicate_succ,List.replicate_succ]
   simp only [Az]
   exact ⟨none,_,rfl,ih⟩
 have app:∀ {fs gs:FS} {σ τ:St} {L M:List Addr},Az K F H fs σ L->Az K F H gs τ M->Az K F H (fs++gs) (σ++τ) (L++M):=by
  intro fs
  induction fs with
  | nil =>
   intro gs σ τ L M h1 h2
   simp only [Az] at h1
   obtain ⟨rfl,rfl⟩:=h1
   exact h2
  | cons s r ih =>
   intro gs σ τ L M h1 h2
   obtain ⟨v,σ',L1,L2,rfl,q1,q2,rfl⟩:=h1.IX
   have:=Az.cons q1 (ih q2 h2)
   simpa using this
 refine ⟨by simpa using app h.sl (key n),h.nd,h.nf,h.fd,fun i o e=>?_,h.pd,h.pf,h.pl⟩
 by_cases hi:i < fs.length
 ·rw [List.getElem?_append_left hi] at e
  obtain ⟨v,e1,e2⟩:=h.bo i o e
  exact ⟨v,by rw [List.getElem?_append_left (by rw [h.sl.len];exact hi)];exact e1,e2⟩
 ·rw [List.getElem?_append_right (by omega)] at e
  have:=List.mem_of_getElem? e
  simp at this
theorem RR.mv {u:V} {i:Nat} {o:FO} (q:RR K B σ F H fs (.rf i) u) (es:fs[i]?=some (some (.own o))):RR K B σ F H (fs.set i none) (.nw o) u:=by
 obtain ⟨L,L',o1,⟨_,q⟩,nd,nf⟩:=q
 obtain ⟨v,L1,L2,L3,e1,rfl,h1,h2⟩:=o1.sl.pick es
 obtain ⟨w,rfl,q2⟩:=h1
 rw [e1] at q
 have eu:w=u:=by simpa using q
 subst eu
 have h3:=h2 F H none (some w) [] Le.refl (fun _ _=>rfl) rfl
 rw [Ci e1] at h3
 have nd1:=o1.nd
 refine ⟨L1++([]++L3),L2,⟨h3,CA nd1 List.nodup_nil (fun _ m=>nomatch m),fun a m=>o1.nf a ?_,o1.fd,?_,o1.pd,o1.pf,fun a m=>o1.pl a ?_⟩,q2,?_,fun a m=>⟨o1.nf a (by simp [m]),o1.pl a (by simp [m])⟩⟩
 ·have m':a∈L1∨a∈L3:=by simpa using m
  rcases m' with m | m <;> simp [m]
 ·have:=Hd.put (i:=i) (s:=none) (v:=some w) o1.bo (fun o eo=>by cases eo) o1.sl.len
  rwa [Ci e1] at this
 ·have m':a∈L1∨a∈L3:=by simpa using m
  rcases m' with m | m <;> simp [m]
 ·have p:(L1++(L2++L3)).Perm ((L1++([]++L3))++L2):=by
   rw [List.nil_append,List.append_assoc]
   exact List.Perm.append_left _ List.perm_append_comm
  exact p.nodup_iff.mp nd1
end
inductive Ini where
 | no | val (t:T) | slot (j:Nat) | new (o:FO)
def WI (fs:FS):Ini->Option Sl
 | .no=>none
 | .val t=>some (.val t)
 | .new o=>some (.bor o)
 | .slot j=>match fs[j]? with
  | some (some (.val t))=>some (.val t)
  | some (some (.own o))=>some (.bor o)
  | some (some (.bor o))=>some (.bor o)
  | _=>none
def De (fs:FS) (is:List Ini):FS:=is.map (WI fs)
def Dn (fs:FS):Ini->Option Nat
 | .slot j=>if (A1 fs j).isSome=true then some j else none
 | _=>none
def CN (fs:FS) (is:List Ini):List Nat:=is.filterMap (Dn fs)
def placeOf (fs:FS) (j:Nat):List Ini->Nat->Option Nat
 | [],_=>none
 | i :: r,k=>if Dn fs i=some j then some k else placeOf fs j r (k+1)
def Pa (fs:FS) (is:List Ini) (τ:FS) (j:Nat) (s:Option Sl):Option (Option Sl):=match placeOf fs j is 0 with
 | none=>some s
 | some k=>match τ[k]?,s with
  | some (some (.bor o)),some s=>some (some (s.put o))
  | _,_=>none
def KI (fs:FS) (is:List Ini) (τ:FS):Nat->FS->Option FS
 | _,[]=>some []
 | j,s :: r=>match Pa fs is τ j s,KI fs is τ (j+1) r with
  | some s',some r'=>some (s' :: r')
  | _,_=>none
def D3 (is:List Ini) (τ fs:FS):Option FS:=KI fs is τ 0 fs
theorem placeOf_some {fs:FS} {j:Nat}:∀ {is:List Ini} {k k':Nat},placeOf fs j is k=some k'->k<=k'/\∃ i,is[k' - k]?=some i/\Dn fs i=some j
 | [],_,_,e=>by simp [placeOf] at e
 | i :: r,k,k',e=>by
  simp only [placeOf] at e
  split at e
  ·rename_i h
   cases e
   exact ⟨Nat.le_refl _,i,by simp,h⟩
  ·obtain ⟨h1,i',h2,h3⟩:=placeOf_some e
   refine ⟨by omega,i',?_,h3⟩
   rw [show k' - k=(k' - (k+1))+1 by omega]
   simpa using h2
theorem placeOf_none {fs:FS} {j:Nat}:∀ {is:List Ini} {k:Nat},placeOf fs j is k=none->j∉CN fs is
 | [],_,_,h=>by simp [CN] at h
 | i :: r,k,e,h=>by
  simp only [placeOf] at e
  split at e
  ·cases e
  ·rename_i hn
   unfold CN at h
   rw [List.filterMap_cons] at h
   cases q:Dn fs i with
   | none =>
    rw [q] at h
    exact placeOf_none e h
   | some j' =>
    rw [q] at h
    rcases List.mem_cons.mp h with h | h
    ·exact hn (by rw [q,h])
    ·exact placeOf_none e h
theorem Jt {fs:FS}:∀ {is:List Ini} {k k':Nat} {i i':Ini} {j:Nat},(CN fs is).Nodup->is[k]?=some i->is[k']?=some i'->Dn fs i=some j->Dn fs i'=some j->k=k'
 | [],_,_,_,_,_,_,e,_,_,_=>by simp at e
 | i0 :: r,k,k',i,i',j,nd,e,e',h,h'=>by
  have mem:∀ {m:Nat} {x:Ini},r[m]?=some x->Dn fs x=some j->j∈CN fs r:=fun hm hx=>List.mem_filterMap.mpr ⟨_,List.mem_of_getElem? hm,hx⟩
  unfold CN at nd
  rw [List.filterMap_cons] at nd
  cases k with
  | zero =>
   simp at e
   subst e
   rw [h] at nd
   have nd':(j :: CN fs r).Nodup:=nd
   cases k' with
   | zero=>rfl
   | succ k'=>exact ((List.nodup_cons.mp nd').1 (mem (by simpa using e') h')).elim
  | succ k =>
   cases k' with
   | zero =>
    simp at e'
    subst e'
    rw [h'] at nd
    have nd':(j :: CN fs r).Nodup:=nd
    exact ((List.nodup_cons.mp nd').1 (mem (by simpa using e) h)).elim
   | succ k' =>
    have nd':(CN fs r).Nodup:=by
     cases q:Dn fs i0 with
     | none=>rw [q] at nd;exact nd
     | some j'=>rw [q] at nd;exact (List.nodup_cons.mp nd).2
    exact congrArg (·+1) (Jt (k:=k) (k':=k') nd' (by simpa using e) (by simpa using e') h h')
theorem LN {fs:FS} {is:List Ini} {τ:FS}:∀ {r r':FS} {j:Nat},KI fs is τ j r=some r'->r'.length=r.length/\∀ i s,r[i]?=some s->∃ s',r'[i]?=some s'/\Pa fs is τ (j+i) s=some s'
 | [],_,_,e=>by
  simp only [KI] at e
  cases e
  exact ⟨rfl,fun i s q=>by simp at q⟩
 | s :: r,_,j,e=>by
  simp only [KI] at e
  split at e
  ·rename_i s' r' h1 h2
   cases e
   obtain ⟨q1,q2⟩:=LN h2
   refine ⟨by simp [q1],fun i s0 q=>?_⟩
   cases i with
   | zero =>
    simp at q
    subst q
    exact ⟨s',rfl,h1⟩
   | succ i =>
    obtain ⟨s1,e1,e2⟩:=q2 i s0 (by simpa using q)
    exact ⟨s1,by simpa using e1,by rw [show j+(i+1)=j+1+i by omega];exact e2⟩
  ·cases e
def T5 (K:Fg) (F:Wd) (H:Hp) (σ:St) (i:Ini) (v:Option V) (M:List Addr):Prop:=match i with
 | .no=>True
 | .val t=>∃ u,v=some u/\AQ K F H t u
 | .slot j=>σ[j]?=some v
 | .new o=>∃ u,v=some u/\AK K F H o u M
structure Mu (F:Wd) (H:Hp) (L:List Addr) (μ:Nat->List Addr):Prop where
 out:∀ k a,a∈μ k->¬ F a/\¬ F.p a/\a∉L/\H a≠none
 nd:∀ k,(μ k).Nodup
 dj:∀ k k' a,k≠k'->a∈μ k->a∉μ k'
theorem Mu.no {F:Wd} {H:Hp} {L:List Addr}:Mu F H L (fun _=>[]):=⟨(fun _ _ m=>nomatch m),fun _=>List.nodup_nil,(fun _ _ _ _ m=>nomatch m)⟩
theorem lend {K:Fg} {F:Wd} {H:Hp} {B:Nat->Option V} {fs:FS} {σ σi:St} {is:List Ini} {L:List Addr} {μ:Nat->List Addr} (ok:Ok K F B H fs σ L) (hl:σi.length=is.length) (hi:∀ (k:Nat) (i:Ini) (v:Option V),is[k]?=some i->σi[k]?=some v->T5 K F H σ i v (μ k)) (nd:(CN fs is).Nodup) (hμ:Mu F H L μ) :
  ∃ P:Addr->Prop,(∀ a,F.p a->P a)/\Okk K ⟨F.f,P⟩ (fun k=>(σi[k]?).join) H (De fs is) σi/\(∀ a,P a->H a≠none) /\
   ∀ (F2:Wd) (H2:Hp) (τ:FS) (σ2:St) (Li:List Addr) (fs':FS),Le ⟨F.f,P⟩ H F2 H2->Ok K F2 (fun k=>(σi[k]?).join) H2 τ σ2 Li->D3 is τ fs=some fs' ->
    Le F H ⟨F2.f,F.p⟩ H2/\∃ L,Ok K ⟨F2.f,F.p⟩ B H2 fs' σ L/\∀ a∈L,a∈Li∨P a:=by
 obtain ⟨ℓ,q1,q2,q3,q4⟩:=ok.sl.toP
 obtain ⟨n1,n2⟩:=q3 ok.nd
 have objSl:∀ j,(A1 fs j).isSome=true->∃ o s,A1 fs j=some o/\fs[j]?=some (some s)/\(s=.own o∨s=.bor o):=by
  intro j hj
  unfold A1 at hj ⊢
  split at hj
  ·rename_i o es
   exact ⟨o,_,rfl,es,.inl rfl⟩
  ·rename_i o es
   exact ⟨o,_,rfl,es,.inr rfl⟩
  ·cases hj
 refine ⟨fun a=>F.p a∨∃ j,a∈ℓ j/\j∉CN fs is,fun a p=>.inl p,?_,fun a p=>?_,?_⟩
 ·
  obtain ⟨L',p1,p2,p3⟩:=Az.ofP (K:=K) (F:=⟨F.f,fun a=>F.p a∨∃ j,a∈ℓ j/\j∉CN fs is⟩) (H:=H) (fs:=De fs is) (σ:=σi) (fun k=>match is[k]? with | some i=>(match Dn fs i with | some j=>ℓ j | none=>(match i with | .new _=>μ k | _=>[])) | none=>[]) (by unfold De;rw [List.length_map];exact hl)
   (fun k s e=>by
    unfold De at e
    rw [List.getElem?_map,Option.map_eq_some_iff] at e
    obtain ⟨i,ei,rfl⟩:=e
    have hk:k < σi.length:=by rw [hl];exact (List.getElem?_eq_some_iff.mp ei).1
    refine ⟨σi[k],List.getElem?_eq_getElem hk,?_⟩
    have io:=hi k i _ ei (List.getElem?_eq_getElem hk)
    simp only [ei]
    have lw:∀ (t:T) (u:V),AQ K F H t u->AQ K ⟨F.f,fun a=>F.p a∨∃ j,a∈ℓ j/\j∉CN fs is⟩ H t u:=fun t u r=>AQ.wp r
    cases i with
    | no=>rfl
    | val t =>
     obtain ⟨u,eu,r⟩:=io
     exact ⟨u,eu,lw t u r,rfl⟩
    | new o =>
     obtain ⟨u,eu,r⟩:=io
     exact ⟨u,eu,AK.wp r⟩
    | slot j =>
     have ej:σ[j]?=some σi[k]:=io
     simp only [WI,Dn]
     cases es:fs[j]? with
     | none =>
      have:A1 fs j=none:=by unfold A1;rw [es]
      rw [this]
      rfl
     | some s =>
      obtain ⟨v,e1,e2⟩:=q1 j s es
      rw [ej] at e1
      cases e1
      cases s with
      | none =>
       have:A1 fs j=none:=by unfold A1;rw [es]
       rw [this]
       rfl
      | some s =>
       cases s with
       | val t =>
        have:A1 fs j=none:=by unfold A1;rw [es]
        rw [this]
        obtain ⟨u,eu,r,_⟩:=e2
        exact ⟨u,eu,lw t u r,rfl⟩
       | own o =>
        have:A1 fs j=some o:=by unfold A1;rw [es]
        rw [this]
        obtain ⟨u,eu,r⟩:=e2
        exact ⟨u,eu,AK.wp r⟩
       | bor o =>
        have:A1 fs j=some o:=by unfold A1;rw [es]
        rw [this]
        obtain ⟨u,eu,r⟩:=e2
        exact ⟨u,eu,AK.wp r⟩)
   (fun k=>by
    try dsimp only
    split
    ·split
     ·exact n1 _
     ·split
      ·exact hμ.nd _
      ·exact List.nodup_nil
    ·exact List.nodup_nil)
   (fun k k' a hk ha hb=>by
    try dsimp only at ha hb
    split at ha
    ·rename_i i ei
     split at ha
     ·rename_i j ej
      split at hb
      ·rename_i i' ei'
       split at hb
       ·rename_i j' ej'
        by_cases e:j=j'
        ·subst e
         exact hk (Jt nd ei ei' ej ej')
        ·exact n2 j j' a e ha hb
       ·split at hb
        ·exact (hμ.out _ a hb).2.2.1 (q2 j a ha)
        ·cases hb
      ·cases hb
     ·split at ha
      ·split at hb
       ·split at hb
        ·rename_i j' ej'
         exact (hμ.out _ a ha).2.2.1 (q2 j' a hb)
        ·split at hb
         ·exact hμ.dj k k' a hk ha hb
         ·cases hb
       ·cases hb
      ·cases ha
    ·cases ha)
  have mem:∀ a∈L',(∃ j,j∈CN fs is/\a∈ℓ j)∨∃ k,a∈μ k:=fun a m=>by
   obtain ⟨k,_,q⟩:=p3 a m
   try dsimp only at q
   split at q
   ·rename_i i ei
    split at q
    ·rename_i j ej
     exact .inl ⟨j,List.mem_filterMap.mpr ⟨i,List.mem_of_getElem? ei,ej⟩,q⟩
    ·split at q
     ·exact .inr ⟨k,q⟩
     ·cases q
   ·cases q
  refine ⟨L',p1,p2,fun a m=>?_,ok.fd,fun k o e=>?_,fun a p=>?_,fun a f p=>?_,fun a m p=>?_⟩
  ·rcases mem a m with ⟨j,_,q⟩ | ⟨k,q⟩
   ·exact ok.nf a (q2 j a q)
   ·exact (hμ.out k a q).1
  ·unfold De at e
   rw [List.getElem?_map,Option.map_eq_some_iff] at e
   obtain ⟨i,ei,e⟩:=e
   have hk:k < σi.length:=by rw [hl];exact (List.getElem?_eq_some_iff.mp ei).1
   cases i with
   | no=>cases e
   | val t=>cases e
   | new o' =>
    obtain ⟨u,eu,_⟩:=hi k _ _ ei (List.getElem?_eq_getElem hk)
    exact ⟨u,by rw [List.getElem?_eq_getElem hk,eu],by show (σi[k]?).join=some u;rw [List.getElem?_eq_getElem hk,eu];rfl⟩
   | slot j =>
    have ej:σ[j]?=some σi[k]:=hi k _ _ ei (List.getElem?_eq_getElem hk)
    simp only [WI] at e
    have:∃ o s,fs[j]?=some (some s)/\(s=.own o∨s=.bor o):=by
     split at e
     ·cases e
     ·rename_i o' es
      exact ⟨o',_,es,.inl rfl⟩
     ·rename_i o' es
      exact ⟨o',_,es,.inr rfl⟩
     ·cases e
    obtain ⟨o',s,es,hs⟩:=this
    obtain ⟨v,e1,e2⟩:=q1 j _ es
    rw [ej] at e1
    cases e1
    obtain ⟨u,eu⟩:∃ u,σi[k]=some u:=by
     rcases hs with rfl | rfl
     ·exact ⟨_,e2.choose_spec.1⟩
     ·exact ⟨_,e2.choose_spec.1⟩
    exact ⟨u,by rw [List.getElem?_eq_getElem hk,eu],by show (σi[k]?).join=some u;rw [List.getElem?_eq_getElem hk,eu];rfl⟩
  ·rcases p with p | ⟨j,p,_⟩
   ·exact ok.pd a p
   ·exact ok.sl.def a (q2 j a p)
  ·rcases p with p | ⟨j,p,_⟩
   ·exact ok.pf a f p
   ·exact ok.nf a (q2 j a p) f
  ·rcases mem a m with ⟨j,hj,q⟩ | ⟨k,q⟩
   ·rcases p with p | ⟨j',p,hj'⟩
    ·exact ok.pl a (q2 j a q) p
    ·by_cases e:j=j'
     ·subst e
      exact hj' hj
     ·exact n2 j j' a e q p
   ·rcases p with p | ⟨j',p,hj'⟩
    ·exact (hμ.out k a q).2.1 p
    ·exact (hμ.out k a q).2.2.1 (q2 j' a p)
 ·rcases p with p | ⟨j,p,_⟩
  ·exact ok.pd a p
  ·exact ok.sl.def a (q2 j a p)
 ·
  intro F2 H2 τ σ2 Li fs' l ok2 eb
  have le:Le F H ⟨F2.f,F.p⟩ H2:=⟨fun a f=>l.f a f,fun a f=>⟨f,(l.p a (.inl f)).2⟩⟩
  obtain ⟨ℓ2,r1,r2,r3,r4⟩:=ok2.sl.toP
  obtain ⟨m1,m2⟩:=r3 ok2.nd
  obtain ⟨b1,b2⟩:=LN eb
  have restP:∀ j a,a∈ℓ j->j∉CN fs is->F2.p a/\H2 a=H a:=fun j a q hj=>l.p a (.inr ⟨j,q,hj⟩)
  refine ⟨le,?_⟩
  obtain ⟨L',p1,p2,p3⟩:=Az.ofP (K:=K) (F:=⟨F2.f,F.p⟩) (H:=H2) (fs:=fs') (σ:=σ) (fun j=>match placeOf fs j is 0 with | some k=>ℓ2 k | none=>ℓ j) (by rw [b1];exact ok.sl.len)
   (fun j s' e=>by
    have hj:j < fs.length:=by rw [<- b1];exact (List.getElem?_eq_some_iff.mp e).1
    obtain ⟨s1,e1,e2⟩:=b2 j fs[j] (List.getElem?_eq_getElem hj)
    rw [e] at e1
    cases e1
    rw [Nat.zero_add] at e2
    obtain ⟨v,e3,e4⟩:=q1 j fs[j] (List.getElem?_eq_getElem hj)
    refine ⟨v,e3,?_⟩
    unfold Pa at e2
    cases ep:placeOf fs j is 0 with
    | none =>
     rw [ep] at e2
     cases e2
     have hn:=placeOf_none ep
     exact J0.le le (fun a m=>(restP j a m hn).2) e4
    | some k =>
     rw [ep] at e2
     obtain ⟨_,i,ei,hlo⟩:=placeOf_some ep
     rw [Nat.sub_zero] at ei
     dsimp only at e2 ⊢
     split at e2
     ·rename_i o s et es
      cases e2
      obtain ⟨w,e5,e6⟩:=r1 k _ et
      obtain ⟨u,e7,e8⟩:=ok2.bo k o et
      rw [e5] at e7
      cases e7
      have ij:i=.slot j:=by
       cases i with
       | no=>cases hlo
       | val t=>cases hlo
       | new o=>cases hlo
       | slot j' =>
        simp only [Dn] at hlo
        split at hlo
        ·cases hlo;rfl
        ·cases hlo
      subst ij
      have hk:k < σi.length:=by rw [hl];exact (List.getElem?_eq_some_iff.mp ei).1
      have io:σ[j]?=some σi[k]:=hi k _ _ ei (List.getElem?_eq_getElem hk)
      rw [e3] at io
      cases io
      have e9:(σi[k]?).join=some u:=e8
      rw [List.getElem?_eq_getElem hk] at e9
      have e10:σi[k]=some u:=by simpa using e9
      rw [e10]
      obtain ⟨u',eu,ro⟩:=e6
      cases eu
      have ob:∃ o0,s=.own o0∨s=.bor o0:=by
       simp only [Dn] at hlo
       split at hlo
       ·rename_i hob
        obtain ⟨o0,s0,_,es0,hs0⟩:=objSl j hob
        rw [List.getElem?_eq_getElem hj,es] at es0
        cases es0
        exact ⟨o0,hs0⟩
       ·cases hlo
      obtain ⟨o0,ob⟩:=ob
      have ro':AK K ⟨F2.f,F.p⟩ H2 o u (ℓ2 k):=AK.wp ro
      rcases ob with rfl | rfl
      ·exact ⟨u,rfl,ro'⟩
      ·exact ⟨u,rfl,ro'⟩
     ·cases e2)
   (fun j=>by
    try dsimp only
    split
    ·exact m1 _
    ·exact n1 _)
   (fun j j' a hj ha hb=>by
    try dsimp only at ha hb
    split at ha
    ·rename_i k ek
     split at hb
     ·rename_i k' ek'
      by_cases e:k=k'
      ·subst e
       obtain ⟨_,i,ei,h1⟩:=placeOf_some ek
       obtain ⟨_,i',ei',h2⟩:=placeOf_some ek'
       rw [ei] at ei'
       cases ei'
       rw [h1] at h2
       cases h2
       exact hj rfl
      ·exact m2 k k' a e ha hb
     ·rename_i ek'
      exact ok2.pl a (r2 k a ha) (restP j' a hb (placeOf_none ek')).1
    ·rename_i ek
     split at hb
     ·rename_i k' ek'
      exact ok2.pl a (r2 k' a hb) (restP j a ha (placeOf_none ek)).1
     ·exact n2 j j' a hj ha hb)
  have src:∀ a∈L',(a∈Li/\¬ F2.p a)∨∃ j,a∈ℓ j/\j∉CN fs is:=fun a m=>by
   obtain ⟨j,_,q⟩:=p3 a m
   try dsimp only at q
   split at q
   ·rename_i k ek
    exact .inl ⟨r2 k a q,ok2.pl a (r2 k a q)⟩
   ·rename_i ek
    exact .inr ⟨j,q,placeOf_none ek⟩
  refine ⟨L',⟨p1,p2,fun a m f=>?_,fun a f=>ok2.fd a f,fun j o e=>?_,fun a p=>?_,fun a f p=>?_,fun a m p=>?_⟩,fun a m=>?_⟩
  ·rcases src a m with ⟨q,_⟩ | ⟨j,q,hj⟩
   ·exact ok2.nf a q f
   ·exact ok2.pf a f (restP j a q hj).1
  ·have hj:j < fs.length:=by rw [<- b1];exact (List.getElem?_eq_some_iff.mp e).1
   obtain ⟨s1,e1,e2⟩:=b2 j fs[j] (List.getElem?_eq_getElem hj)
   rw [e] at e1
   cases e1
   rw [Nat.zero_add] at e2
   have:∃ o',fs[j]?=some (some (.bor o')):=by
    unfold Pa at e2
    split at e2
    ·exact ⟨o,by rw [List.getElem?_eq_getElem hj];exact e2⟩
    ·split at e2
     ·rename_i o1 s et es
      cases s with
      | val t=>cases e2
      | own o2=>cases e2
      | bor o2=>exact ⟨o2,by rw [List.getElem?_eq_getElem hj,es]⟩
     ·cases e2
   obtain ⟨o',eo⟩:=this
   exact ok.bo j o' eo
  ·rw [(l.p a (.inl p)).2]
   exact ok.pd a p
  ·exact ok2.pf a f (l.p a (.inl p)).1
  ·rcases src a m with ⟨_,q⟩ | ⟨j,q,hj⟩
   ·exact q (l.p a (.inl p)).1
   ·exact ok.pl a (q2 j a q) p
  ·rcases src a m with ⟨q,_⟩ | ⟨j,q,hj⟩
   ·exact .inl q
   ·exact .inr (.inr ⟨j,q,hj⟩)
def Bof (σ:St):Nat->Option V:=fun k=>(σ[k]?).join
def spF (K:Fg) (p:Nat) (Fn:FS->Out Rv):Sp:=fun vs H Q _=>vs.length=p/\∃ F fs0,Okk K F (Bof (vs.map some)) H fs0 (vs.map some)/\match Fn fs0 with
 | .ok r τ=>∀ F' H' u σ',Le F H F' H'->RR K (Bof (vs.map some)) σ' F' H' τ r u->Q u H'
 | _=>False
def Dk (n:Nat) (g:FS->SO):FS->Out Rv:=fun args=>match g (args++List.replicate n none) with
 | .nx τ=>.ok (.t .non) (τ.take args.length)
 | .ret (.t t) τ=>.ok (.t t) (τ.take args.length)
 | .ret (.nw o) τ=>.ok (.nw o) (τ.take args.length)
 | .ret (.rf i) τ=>match τ[i]? with
  | some (some (.own o))=>.ok (.nw o) ((τ.set i none).take args.length)
  | _=>.bad
 | .exc c τ=>.exc c (τ.take args.length)
 | _=>.bad
section
variable {P:Program} {w:World} {K:Fg} {mg:Str->Option Value} {base:Heap}
end
def Bx:Rv->Ini
 | .t t=>.val t
 | .rf i=>.slot i
 | .nw o=>.new o
def QV (Fn:FS->Out Rv) (rs:List Rv) (fs:FS):Out Rv :=
 if (CN fs (rs.map Bx)).Nodup then (match Fn (De fs (rs.map Bx)) with
  | .ok (.t t) τ=>(match D3 (rs.map Bx) τ fs with
   | some fs'=>.ok (.t t) fs'
   | none=>.bad)
  | .ok (.nw o) τ=>(match D3 (rs.map Bx) τ fs with
   | some fs'=>.ok (.nw o) fs'
   | none=>.bad)
  | _=>.bad) else .bad
theorem IQ.len {K:Fg} {F:Wd} {H:Hp} {σ:St}:∀ {rs:List Rv} {vs:List V},IQ K F H σ rs vs->vs.length=rs.length
 | [],_,h=>by cases h;rfl
 | r :: rs,_,h=>by
  obtain ⟨v,w,rfl,h1,h2⟩:=h
  simp [IQ.len h2]
def Ey (K:Fg) (F:Wd) (H:Hp) (σ:St):List Rv->List V->List Addr->Prop
 | [],vs,L=>vs=[]/\L=[]
 | r :: rs,vs,L=>∃ v w L1 L2,vs=v :: w/\MI K F H σ r v L1/\Ey K F H σ rs w L2/\L=L1++L2
def RAn (K:Fg) (B:Nat->Option V) (σ:St):Wd->Hp->FS->List Rv->List V->Prop:=fun F H fs rs vs=>∃ L M,Ok K F B H fs σ L/\Ey K F H σ rs vs M/\(L++M).Nodup/\∀ a∈M,¬ F a/\¬ F.p a
def tAn (K:Fg) (Z:Xp) (f:FS->Out (List Rv)):TA:=fun σ H Q=>∃ F B fs,Okk K F B H fs σ/\sat Z B (RAn K B σ) F H (f fs) Q
def FAn (X:Cx) (Z:Xp) (es:List Expr) (f:FS->Out (List Rv)):Prop:=PA X es (tAn X.K Z f)
def Ah (f:FS->Out Rv) (g:FS->Out (List Rv)):FS->Out (List Rv):=fun fs=>(f fs).bind fun r fs=>(g fs).bind fun rs fs=>.ok (r :: rs) fs
section
variable {K:Fg} {F F':Wd} {H H':Hp} {B:Nat->Option V} {fs:FS} {σ:St} {rs:List Rv} {vs:List V} {Z:Xp} {Q:VK} {Fn:FS->Out Rv} {E:XK}
theorem Ey.len:∀ {rs:List Rv} {vs:List V} {M:List Addr},Ey K F H σ rs vs M->vs.length=rs.length
 | [],_,_,h=>by obtain ⟨rfl,_⟩:=h;rfl
 | r :: rs,_,_,h=>by
  obtain ⟨v,w,L1,L2,rfl,_,h,_⟩:=h
  simp [Ey.len h]
theorem MI.def {r:Rv} {v:V} {L:List Addr} (h:MI K F H σ r v L):∀ a∈L,H a≠none:=by
 cases r with
 | t t=>obtain ⟨rfl,_⟩:=h;exact fun a m=>nomatch m
 | nw o=>exact AK.def h
 | rf i=>obtain ⟨rfl,_⟩:=h;exact fun a m=>nomatch m
theorem MI.lf {r:Rv} {v:V} {L:List Addr} (l:∀ a,F a->F' a/\H' a=H a) (k:∀ a∈L,H' a=H a) (h:MI K F H σ r v L):MI K F' H' σ r v L:=by
 cases r with
 | t t=>exact ⟨h.1,AQ.le (F:=⟨F.f,fun _=>False⟩) ⟨l,fun _ z=>z.elim⟩ (AQ.wp h.2)⟩
 | nw o=>exact AK.le (F:=⟨F.f,fun _=>False⟩) ⟨l,fun _ z=>z.elim⟩ k (AK.wp h)
 | rf i=>exact h
theorem Ey.lf (l:∀ a,F a->F' a/\H' a=H a):∀ {rs:List Rv} {vs:List V} {M:List Addr},(∀ a∈M,H' a=H a)->Ey K F H σ rs vs M->Ey K F' H' σ rs vs M
 | [],_,_,_,h=>h
 | r :: rs,_,_,k,h=>by
  obtain ⟨v,w,L1,L2,e,h1,h2,rfl⟩:=h
  exact ⟨v,w,L1,L2,e,h1.lf l fun a m=>k a (List.mem_append_left _ m),Ey.lf l (fun a m=>k a (List.mem_append_right _ m)) h2,rfl⟩
theorem Ey.toP:∀ {rs:List Rv} {vs:List V} {M:List Addr},Ey K F H σ rs vs M->∃ μ:Nat->List Addr,(∀ k r,rs[k]?=some r->∃ v,vs[k]?=some v/\MI K F H σ r v (μ k))/\(∀ k a,a∈μ k->a∈M/\H a≠none) /\
  (M.Nodup->(∀ k,(μ k).Nodup)/\∀ i j a,i≠j->a∈μ i->a∉μ j)
 | [],_,_,h=>⟨fun _=>[],(fun k r e=>by simp at e),(fun _ _ m=>nomatch m),fun _=>⟨fun _=>List.nodup_nil,(fun _ _ _ _ m=>nomatch m)⟩⟩
 | r :: rs,_,_,h=>by
  obtain ⟨v,w,L1,L2,rfl,h1,h2,rfl⟩:=h
  obtain ⟨μ,q1,q2,q3⟩:=Ey.toP h2
  refine ⟨fun i=>match i with | 0=>L1 | i+1=>μ i,fun k r' e=>?_,fun k a m=>?_,fun nd=>?_⟩
  ·cases k with
   | zero =>
    simp at e
    subst e
    exact ⟨v,rfl,h1⟩
   | succ k =>
    obtain ⟨u,e1,e2⟩:=q1 k r' (by simpa using e)
    exact ⟨u,by simpa using e1,e2⟩
  ·cases k with
   | zero=>exact ⟨List.mem_append_left _ m,h1.def a m⟩
   | succ k=>exact ⟨List.mem_append_right _ (q2 k a m).1,(q2 k a m).2⟩
  ·rw [List.nodup_append] at nd
   obtain ⟨n1,n2,n3⟩:=nd
   obtain ⟨m1,m2⟩:=q3 n2
   refine ⟨fun i=>?_,fun i j a hij hi hj=>?_⟩
   ·cases i with
    | zero=>exact n1
    | succ i=>exact m1 i
   ·cases i with
    | zero =>
     cases j with
     | zero=>exact hij rfl
     | succ j=>exact n3 a hi a (q2 j a hj).1 rfl
    | succ i =>
     cases j with
     | zero=>exact n3 a hj a (q2 i a hi).1 rfl
     | succ j=>exact m2 i j a (fun e=>hij (by rw [e])) hi hj
theorem N7 (q:RAn K B σ F H fs rs vs):∃ L μ,Ok K F B H fs σ L/\Mu F H L μ/\(vs.map some).length=(rs.map Bx).length/\∀ (k:Nat) (i:Ini) (v:Option V),(rs.map Bx)[k]?=some i->(vs.map some)[k]?=some v->T5 K F H σ i v (μ k):=by
 obtain ⟨L,M,ok,q,nd,nf⟩:=q
 obtain ⟨μ,q1,q2,q3⟩:=q.toP
 rw [List.nodup_append] at nd
 obtain ⟨m1,m2⟩:=q3 nd.2.1
 refine ⟨L,μ,ok,⟨fun k a m=>⟨(nf a (q2 k a m).1).1,(nf a (q2 k a m).1).2,fun z=>nd.2.2 a z a (q2 k a m).1 rfl,(q2 k a m).2⟩,m1,m2⟩,by simp [q.len],fun k i v e1 e2=>?_⟩
 rw [List.getElem?_map,Option.map_eq_some_iff] at e1 e2
 obtain ⟨r,er,rfl⟩:=e1
 obtain ⟨u,eu,rfl⟩:=e2
 obtain ⟨u',e3,rr⟩:=q1 k r er
 rw [eu] at e3
 cases e3
 cases r with
 | t t=>exact ⟨u,rfl,rr.2⟩
 | nw o=>exact ⟨u,rfl,rr⟩
 | rf i=>exact rr.2
theorem RAn.len (q:RAn K B σ F H fs rs vs):vs.length=rs.length:=by
 obtain ⟨L,M,ok,q,_⟩:=q
 exact q.len
theorem QU (q:RAn K B σ F H fs rs vs) (s:sat Z B (RR K B σ) F H (QV Fn rs fs) Q):spF K rs.length Fn vs H Q E:=by
 unfold QV at s
 split at s
 ·rename_i nd
  obtain ⟨L9,μ,ok,hμ,hl,hi⟩:=N7 q
  obtain ⟨Pp,p1,p2,p3,p4⟩:=lend ok hl hi nd hμ
  refine ⟨q.len,⟨F.f,Pp⟩,De fs (rs.map Bx),p2,?_⟩
  split at s
  ·rename_i t τ e
   rw [e]
   split at s
   ·rename_i fs' eb
    intro F' H' u σ' l k
    obtain ⟨Li,L',o1,⟨_,r⟩,_⟩:=k
    obtain ⟨le,L,o2,_⟩:=p4 F' H' τ σ' Li fs' l o1 eb
    exact s ⟨F'.f,F.p⟩ H' u le (RR.of ⟨L,o2⟩ (AQ.wp r))
   ·exact s.elim
  ·rename_i o τ e
   rw [e]
   split at s
   ·rename_i fs' eb
    intro F' H' u σ' l k
    obtain ⟨Li,L',o1,r,nd,nf⟩:=k
    obtain ⟨le,L,o2,sub⟩:=p4 F' H' τ σ' Li fs' l o1 eb
    refine s ⟨F'.f,F.p⟩ H' u le ⟨L,L',o2,AK.wp r,?_,fun a m=>⟨(nf a m).1,fun p=>(nf a m).2 (l.p a (p1 a p)).1⟩⟩
    rw [List.nodup_append] at nd ⊢
    refine ⟨o2.nd,nd.2.1,fun a ha b hb e=>?_⟩
    rcases sub a ha with z | z
    ·exact nd.2.2 a z b hb e
    ·exact (nf b hb).2 (l.p b (e▸z)).1
   ·exact s.elim
  ·exact s.elim
 ·exact s.elim
end
section
variable {X:Cx} {Z:Xp} {e:Expr} {es:List Expr} {f:FS->Out Rv} {g:FS->Out (List Rv)}
theorem AS:FAn X Z [] Ak:=K8 Gr fun σ H Q ⟨F,B,fs,⟨L,ok⟩,s⟩=>s F H [] Le.refl ⟨L,[],ok,⟨rfl,rfl⟩,by simpa using ok.nd,(fun _ m=>nomatch m)⟩
theorem Aj (ha:FE X Z e f) (hr:FAn X Z es g) (hs:starEach (e :: es) X.env=(false,eval e X.env) :: starEach es X.env:=by rfl):FAn X Z (e :: es) (Ah f g):=by
 refine K8 (Dc ha hr hs) fun σ H Q ⟨F,B,fs,ok,s⟩=>⟨F,B,fs,ok,AU s fun r fs1 F1 H1 u l q s1=>?_⟩
 obtain ⟨L,L1,o1,r1,nd,nf⟩:=q
 have nda:=List.nodup_append.mp nd
 have le1:Le F1 H1 ⟨F1.f,fun a=>F1.p a∨a∈L1⟩ H1:=⟨fun a f=>⟨f,rfl⟩,fun a f=>⟨.inl f,rfl⟩⟩
 refine ⟨⟨F1.f,fun a=>F1.p a∨a∈L1⟩,B,fs1,⟨L,o1.sl.le le1 fun _ _=>rfl,o1.nd,o1.nf,o1.fd,o1.bo,fun a p=>?_,fun a f p=>?_,fun a m p=>?_⟩,?_⟩
 ·rcases p with p | p
  ·exact o1.pd a p
  ·exact r1.def a p
 ·rcases p with p | p
  ·exact o1.pf a f p
  ·exact (nf a p).1 f
 ·rcases p with p | p
  ·exact o1.pl a m p
  ·exact nda.2.2 a m a p rfl
 ·cases eg:g fs1 with
  | bad=>rw [eg] at s1;exact s1.elim
  | exc c t=>rw [eg] at s1;exact Z.mono s1 le1
  | ok rs fs2 =>
   rw [eg] at s1
   intro F2 H2 us l2 q2
   obtain ⟨L2,M2,o2,r2,nd2,nf2⟩:=q2
   have le2:Le F1 H1 ⟨F2.f,F1.p⟩ H2:=⟨fun a f=>l2.f a f,fun a f=>⟨f,(l2.p a (.inl f)).2⟩⟩
   have hp:∀ a∈L1,F2.p a/\H2 a=H1 a:=fun a m=>l2.p a (.inr m)
   have nd2':=List.nodup_append.mp nd2
   refine s1 ⟨F2.f,F1.p⟩ H2 (u :: us) le2 ⟨L2,L1++M2,⟨Az.wp o2.sl,o2.nd,o2.nf,o2.fd,o2.bo,fun a f=>by rw [(le2.p a f).2];exact o1.pd a f,fun a f p=>o2.pf a f (l2.p a (.inl p)).1,fun a m p=>o2.pl a m (l2.p a (.inl p)).1⟩,⟨u,us,L1,M2,rfl,MI.lf (F:=F1) (F':=⟨F2.f,F1.p⟩) (H:=H1) (H':=H2) (fun a f=>l2.f a f) (fun a m=>(hp a m).2) r1,Ey.lf (F:=F2) (F':=⟨F2.f,F1.p⟩) (fun a f=>⟨f,rfl⟩) (fun _ _=>rfl) r2,rfl⟩,?_,fun a m=>?_⟩
   ·rw [List.nodup_append]
    refine ⟨o2.nd,?_,fun a ha b hb e=>?_⟩
    ·rw [List.nodup_append]
     exact ⟨nda.2.1,nd2'.2.1,fun a ha b hb e=>(nf2 b hb).2 (e▸(hp a ha).1)⟩
    ·rcases List.mem_append.mp hb with hb | hb
     ·exact o2.pl a ha (e▸(hp b hb).1)
     ·exact nd2'.2.2 a ha b hb e
   ·rcases List.mem_append.mp m with m | m
    ·exact ⟨fun f=>o2.pf a f (hp a m).1,(nf a m).2⟩
    ·exact ⟨(nf2 a m).1,fun p=>(nf2 a m).2 (l2.p a (.inl p)).1⟩
end
section
variable {X:Cx} {Z:Xp} {x:Str} {k p:Nat} {ps:List Str} {Fn:FS->Out Rv} {e o:Expr} {es:List Expr} {fa:FS->Out (List Rv)} {fo:FS->Out Rv} {pp pos apos:Pos} {C:Addr} {m:Str}
def OY (p:Nat) (Fn:FS->Out Rv):List Rv->FS->Out Rv:=fun rs fs=>if rs.length=p then QV Fn rs fs else .bad
def Hm (C:Addr) (m:Str) (fs:FS):Rv->Bool
 | .t (.ins C' gs _)=>decide (C'=C) && !gs.any (· == m)
 | .rf i=>match A1 fs i with
  | some (.ins C' gs _)=>decide (C'=C) && !gs.any (· == m)
  | _=>false
 | _=>false
theorem Js {kvs:List (Str×V)} {m:Str} (h:((kvs.map (·.1)).any (· == m))=false):kvs.lookup m=none:=by
 induction kvs with
 | nil=>rfl
 | cons p r ih =>
  rw [List.map_cons,List.any_cons,Bool.or_eq_false_iff] at h
  obtain ⟨k,v⟩:=p
  rw [List.lookup_cons]
  have:(m == k)=false:=by
   have h1:(k == m)=false:=h.1
   rw [beq_eq_false_iff_ne] at h1 ⊢
   exact fun e=>h1 e.symm
  rw [this]
  exact ih h.2
theorem Lm {K:Fg} {F:Wd} {H:Hp} {B:Nat->Option V} {fs:FS} {σ:St} {r:Rv} {u:V} (ok:Okk K F B H fs σ) (q:CM K F H σ r u) (h:Hm C m fs r=true):∃ a dx kvs,u=.ref a/\H a=some (.ins C dx kvs)/\kvs.lookup m=none:=by
 unfold Hm at h
 split at h
 ·rename_i C' gs ts
  rw [Bool.and_eq_true] at h
  have hC:=of_decide_eq_true h.1
  subst hC
  simp only [CM,AQ] at q
  obtain ⟨a,dx,kvs,rfl,f,hd,rfl,r⟩:=q
  exact ⟨a,dx,kvs,rfl,hd,Js (by simpa using h.2)⟩
 ·rename_i i
  split at h
  ·rename_i C' gs os eo
   rw [Bool.and_eq_true] at h
   have hC:=of_decide_eq_true h.1
   subst hC
   obtain ⟨v,L2,e1,q2,_⟩:=ok.own eo
   have e2:σ[i]?=some (some u):=q
   rw [e1] at e2
   have e3:v=u:=by simpa using e2
   subst e3
   simp only [AK] at q2
   obtain ⟨a,dx,kvs,L',rfl,hd,rfl,_⟩:=q2
   exact ⟨a,dx,kvs,rfl,hd,Js (by simpa using h.2)⟩
  ·cases h
 ·cases h
def Qh (C:Addr) (m:Str) (p:Nat) (Fn:FS->Out Rv) (fo:FS->Out Rv) (fa:FS->Out (List Rv)):FS->Out Rv:=fun fs=>(fo fs).bnd fun x fs=>if Hm C m fs x=true then (fa fs).bind fun rs fs=>OY p Fn (x :: rs) fs else .bad
def Gz (C:Addr) (p:Nat) (Fn:FS->Out Rv) (rs:List Rv) (fs:FS):Out Rv :=
 if (CN fs (rs.map Bx)).Nodup/\rs.length+1=p then (match Fn (some (.bor (.ins C [] [])) :: De fs (rs.map Bx)) with
  | .ok (.t .non) (some (.bor o) :: τ)=>(match D3 (rs.map Bx) τ fs with
   | some fs'=>.ok (.nw o) fs'
   | none=>.bad)
  | _=>.bad) else .bad
theorem Qk {K:Fg} {F:Wd} {H:Hp} {B:Nat->Option V} {fs:FS} {σ:St} {rs:List Rv} {vs:List V} {Q:VK} {E:XK} (q:RAn K B σ F H fs rs vs) (s:sat Z B (RR K B σ) F H (Gz C p Fn rs fs) Q)
  {x dx:Addr} (hx:H x=none) (hdx:H dx=none) (hne:dx≠x):spF K p Fn (.ref x :: vs) (upd (upd H dx (.own x)) x (.ins C dx [])) (fun v H2=>v=.non/\Q (.ref x) H2) E:=by
 unfold Gz at s
 split at s
 ·rename_i hh
  obtain ⟨nd,hp⟩:=hh
  obtain ⟨L9,μ,ok,hμ,hl,hi⟩:=N7 q
  obtain ⟨Pp,p1,⟨L0,p2⟩,p3,p4⟩:=lend ok hl hi nd hμ
  have l0:∀ a,H a≠none->(upd (upd H dx (.own x)) x (.ins C dx [])) a=H a:=fun a h=>by
   rw [Aq (fun e=>h (by rw [e];exact hx)),Aq (fun e=>h (by rw [e];exact hdx))]
  have le0:Le ⟨F.f,Pp⟩ H ⟨F.f,Pp⟩ (upd (upd H dx (.own x)) x (.ins C dx [])):=⟨fun a f=>⟨f,l0 a (p2.fd a f)⟩,fun a f=>⟨f,l0 a (p3 a f)⟩⟩
  refine ⟨by rw [List.length_cons,q.len];exact hp,⟨F.f,Pp⟩,some (.bor (.ins C [] [])) :: De fs (rs.map Bx),?_,?_⟩
  ·refine ⟨[x]++L0,Az.cons ⟨.ref x,rfl,?_⟩ (p2.sl.le le0 fun a m=>l0 a (p2.sl.def a m)),?_,fun a m=>?_,fun a f=>?_,fun i o e=>?_,fun a f=>?_,p2.pf,fun a m=>?_⟩
   ·simp only [AK]
    exact ⟨x,dx,[],[],rfl,AF,rfl,⟨rfl,rfl⟩,rfl⟩
   ·rw [List.nodup_append]
    exact ⟨by simp,p2.nd,fun a ha b hb e=>p2.sl.def b hb (by rw [<- e,List.mem_singleton.mp ha];exact hx)⟩
   ·rcases List.mem_append.mp m with m | m
    ·rw [List.mem_singleton.mp m]
     exact fun f=>p2.fd x f hx
    ·exact p2.nf a m
   ·rw [l0 a (p2.fd a f)]
    exact p2.fd a f
   ·cases i with
    | zero=>exact ⟨.ref x,rfl,rfl⟩
    | succ i=>exact p2.bo i o (by simpa using e)
   ·rw [l0 a (p3 a f)]
    exact p3 a f
   ·rcases List.mem_append.mp m with m | m
    ·rw [List.mem_singleton.mp m]
     exact fun f=>p3 x f hx
    ·exact p2.pl a m
  ·split at s
   ·rename_i o τ e
    rw [e]
    split at s
    ·rename_i fs' eb
     intro F' H' u σ' l k
     obtain ⟨Lall,L',o1,⟨_,r⟩,_⟩:=k
     refine ⟨r,?_⟩
     obtain ⟨v,σ2,L1,L2,rfl,h1,h2,rfl⟩:=o1.sl.IX
     obtain ⟨w,rfl,ro⟩:=h1
     obtain ⟨w',e3,e4⟩:=o1.bo 0 o rfl
     have ew:w=.ref x:=by
      have z1:some (some w)=some (some w'):=e3
      have z2:some (V.ref x)=some w':=e4
      cases z1
      cases z2
      rfl
     subst ew
     have nd1:=List.nodup_append.mp o1.nd
     have o2:Ok K F' (Bof (vs.map some)) H' τ σ2 L2:=⟨h2,nd1.2.1,fun a m=>o1.nf a (List.mem_append_right _ m),o1.fd,fun i ob eo=>by
      obtain ⟨v,z1,z2⟩:=o1.bo (i+1) ob (by simpa using eo)
      exact ⟨v,by simpa using z1,by
       have z3:(((V.ref x :: vs).map some)[i+1]?).join=some v:=z2
       simpa [Bof] using z3⟩,o1.pd,o1.pf,fun a m=>o1.pl a (List.mem_append_right _ m)⟩
     have l':Le ⟨F.f,Pp⟩ H F' H':=le0.trans l
     obtain ⟨le,L,o3,sub⟩:=p4 F' H' τ σ2 L2 fs' l' o2 eb
     refine s ⟨F'.f,F.p⟩ H' (.ref x) le ⟨L,L1,o3,AK.wp ro,?_,fun a m=>⟨o1.nf a (List.mem_append_left _ m),fun p=>o1.pl a (List.mem_append_left _ m) (l'.p a (p1 a p)).1⟩⟩
     rw [List.nodup_append]
     refine ⟨o3.nd,nd1.1,fun a ha b hb e=>?_⟩
     rcases sub a ha with z | z
     ·exact nd1.2.2 b hb a z e.symm
     ·exact o1.pl b (List.mem_append_left _ hb) (l'.p b (e▸z)).1
    ·exact s.elim
   ·exact s.elim
 ·exact s.elim
end
def D2 (gt:T->FS->Option FS) (ft:FS->Out Bool) (fe:FS->Out Rv):List T->FS->List T->Option (List T×FS)
 | [],τ,acc=>some (acc,τ)
 | t :: ts,τ,acc=>match gt t τ with
  | none=>none
  | some τ=>match ft τ with
   | .ok true τ=>(match fe τ with
    | .ok (.t v) τ=>if acc.length < big then D2 gt ft fe ts τ (acc++[v]) else none
    | _=>none)
   | .ok false τ=>D2 gt ft fe ts τ acc
   | _=>none
def DY:FS->Out Bool:=fun fs=>.ok true fs
def BK (new:Bool) (src:List (Option Nat)) (fi:FS->Out (List T)) (gt:T->FS->Option FS) (ft:FS->Out Bool) (fe:FS->Out Rv):FS->Out Rv:=fun fs=>(fi fs).bind fun ts fs =>
 if (CN fs (src.map fun o=>o.elim Ini.no Ini.slot)).Nodup/\(src.all fun o=>o.elim true fun j=>decide (j < fs.length))=true then (match D2 gt ft fe ts (De fs (src.map fun o=>o.elim Ini.no Ini.slot)) [] with
  | some (vs,τ)=>(match D3 (src.map fun o=>o.elim Ini.no Ini.slot) τ fs with
   | some fs'=>if new=true then .ok (.nw (.lst vs)) fs' else .ok (.t (.lst vs)) fs'
   | none=>.bad)
  | none=>.bad) else .bad
def FIf (X:Cx) (ifs:List Expr) (ft:FS->Out Bool):Prop:=R3 X ifs (tT X.K Xp.no ft)
theorem P0 {X:Cx} {e:List Expr} {t t':TT} (h:R3 X e t) (i:∀ σ H Q,t' σ H Q->t σ H Q):R3 X e t':=fun pins s σ H Q I q=>h pins s σ H Q I (i _ _ _ q)
theorem CV {X:Cx}:FIf X [] DY:=P0 PZ fun σ H Q ⟨F,B,fs,ok,s⟩=>s F H true Le.refl ⟨ok,rfl⟩
theorem Tp {X:Cx} {c:Expr} {ft:FS->Out Bool} (h:FT X Xp.no c ft):FIf X [c] ft:=PY h
section
variable {K:Fg} {F:Wd} {H:Hp} {B:Nat->Option V} {fs:FS} {σ:St}
theorem Okk.hide {p:Addr} {o:HO} (h:Okk K F B H fs σ) (hp:H p=none):Okk K ⟨F.f,fun a=>F.p a∨a=p⟩ B (upd H p o) fs σ:=by
 obtain ⟨L,h⟩:=h
 have l:Le F H ⟨F.f,fun a=>F.p a∨a=p⟩ (upd H p o):=⟨fun a f=>⟨f,Aq fun e=>h.fd a f (e▸hp)⟩,fun a f=>⟨.inl f,Aq fun e=>h.pd a f (e▸hp)⟩⟩
 refine ⟨L,h.sl.le l (h.Qp hp),h.nd,h.nf,fun a q=>CP (h.fd a q),h.bo,fun a q=>?_,fun a f q=>?_,fun a m q=>?_⟩
 ·rcases q with q | q
  ·exact CP (h.pd a q)
  ·rw [q,AF];simp
 ·rcases q with q | q
  ·exact h.pf a f q
  ·exact h.fd a f (q▸hp)
 ·rcases q with q | q
  ·exact h.pl a m q
  ·exact h.sl.def a m (q▸hp)
theorem Okk.upP {p:Addr} {o:HO} (h:Okk K F B H fs σ) (hp:F.p p):Okk K F B (upd H p o) fs σ:=by
 obtain ⟨L,h⟩:=h
 have hf:∀ a,F a->(upd H p o) a=H a:=fun a f=>Aq fun e=>h.pf a f (e▸hp)
 have l:Le ⟨F.f,fun _=>False⟩ H ⟨F.f,F.p⟩ (upd H p o):=⟨fun a f=>⟨f,hf a f⟩,fun a f=>f.elim⟩
 have sl:Az K ⟨F.f,fun _=>False⟩ H fs σ L:=Az.wp h.sl
 refine ⟨L,sl.le l fun a m=>Aq fun e=>h.pl a m (e▸hp),h.nd,h.nf,fun a q=>CP (h.fd a q),h.bo,fun a q=>CP (h.pd a q),h.pf,h.pl⟩
theorem Ad.upP {p:Addr} {o:HO} {ts:List T} {vs:List V} (h:Okk K F B H fs σ) (hp:F.p p) (r:Ad K F H ts vs):Ad K F (upd H p o) ts vs:=by
 obtain ⟨L,h⟩:=h
 have l:Le ⟨F.f,fun _=>False⟩ H ⟨F.f,F.p⟩ (upd H p o):=⟨fun a f=>⟨f,Aq fun e=>h.pf a f (e▸hp)⟩,fun a f=>f.elim⟩
 exact Ad.le l (Ad.wp r)
end
section
variable {X:Cx} {Z:Xp} {N:List Str} {sc:Scope} {tg iter elt:Expr} {ifs:List Expr} {fi:FS->Out (List T)} {gt:T->FS->Option FS} {ft:FS->Out Bool} {fe:FS->Out Rv} {pos:Pos} {K:Fg}
inductive CI (K:Fg) (W:Wd) (H1:Hp) (D:Addr) (Bc:Nat->Option V) (gt:T->FS->Option FS) (ft:FS->Out Bool) (fe:FS->Out Rv) (r:List T×FS) (l:List T) (τσ:St) (H2:Hp):Prop
 | mk (F2:Wd) (τ:FS) (acc:List T) (ys:List V) (l2:Le W H1 F2 H2) (pD:F2.p D) (ok2:Okk K F2 Bc H2 τ τσ) (hD2:H2 D=some (.lst ys)) (racc:Ad K F2 H2 acc ys) (ec:D2 gt ft fe l τ acc=some r):CI K W H1 D Bc gt ft fe r l τσ H2
theorem CI.put {W F6:Wd} {H1 H6:Hp} {D:Addr} {Bc:Nat->Option V} {r:List T×FS} {l:List T} {τσ:St} {τ3:FS} {acc:List T} {ys:List V} {v:T} {y:V} {L6:List Addr} (nP:¬ W.p D) (l16:Le W H1 F6 H6) (p6:F6.p D) (o6:Ok K F6 Bc H6 τ3 τσ L6) (racc6:Ad K F6 H6 acc ys) (rv:AQ K F6 H6 v y)
  (ec2:D2 gt ft fe l τ3 (acc++[v])=some r):CI K W H1 D Bc gt ft fe r l τσ (upd H6 D (.lst (ys++[y]))) :=
 .mk F6 τ3 (acc++[v]) (ys++[y]) ⟨fun a f=>⟨(l16.f a f).1,by rw [Aq fun e=>o6.pf a (l16.f a f).1 (by rw [e];exact p6)];exact (l16.f a f).2⟩,fun a f=>⟨(l16.p a f).1,by rw [Aq fun e=>nP (by rw [<- e];exact f)];exact (l16.p a f).2⟩⟩
  p6 (Okk.upP ⟨L6,o6⟩ p6) AF (Ad.upP ⟨L6,o6⟩ p6 (racc6.app (Ad.one rv))) ec2
theorem CI.one {W F5:Wd} {H1 H5:Hp} {D:Addr} {Bc:Nat->Option V} {r:List T×FS} {l:List T} {τσ:St} {τ2:FS} {acc:List T} {ys:List V} (nP:¬ W.p D) (l15:Le W H1 F5 H5) (p5:F5.p D) (ok5:Okk K F5 Bc H5 τ2 τσ) (hD5:H5 D=some (.lst ys)) (racc5:Ad K F5 H5 acc ys)
  (ec2:(match fe τ2 with | .ok (.t v) τ=>if acc.length < big then D2 gt ft fe l τ (acc++[v]) else none | _=>none)=some r) :
  tF K Xp.no fe τσ H5 fun y H6=>∃ ys,H6 D=some (.lst ys)/\ys.length < sizeLine/\CI K W H1 D Bc gt ft fe r l τσ (upd H6 D (.lst (ys++[y]))):=by
 refine ⟨F5,Bc,τ2,ok5,?_⟩
 cases ee:fe τ2 with
 | exc c τ3=>rw [ee] at ec2;cases ec2
 | bad=>rw [ee] at ec2;cases ec2
 | ok w τ3 =>
  rw [ee] at ec2
  cases w with
  | nw o=>cases ec2
  | rf o=>cases ec2
  | t v =>
   dsimp only at ec2
   by_cases hlen:acc.length < big
   ·rw [if_pos hlen] at ec2
    intro F6 H6 y l6 q6
    obtain ⟨L6,L6',o6,⟨_,rv⟩,_⟩:=q6
    have p6:=l6.p D p5
    exact ⟨ys,p6.2.trans hD5,by rw [racc5.len];exact Nat.lt_trans hlen HR,CI.put nP (l15.trans l6) p6.1 o6 (racc5.le l6) rv ec2⟩
   ·rw [if_neg hlen] at ec2
    cases ec2
theorem CI.turn {W F3:Wd} {H1 H3:Hp} {D:Addr} {Bc:Nat->Option V} {r:List T×FS} {t:T} {l:List T} {τσ:St} {τ:FS} {acc:List T} {ys:List V} {x:V} (nP:¬ W.p D) (l2:Le W H1 F3 H3) (pD:F3.p D) (ok2:Okk K F3 Bc H3 τ τσ) (hD2:H3 D=some (.lst ys)) (racc:Ad K F3 H3 acc ys)
  (ec2:D2 gt ft fe (t :: l) τ acc=some r) (rx:AQ K F3 H3 t x) :
  tG K gt x τσ H3 fun τ2 H4=>tT K Xp.no ft τ2 H4 fun b H5=>if b=true then tF K Xp.no fe τ2 H5 fun y H6=>∃ ys,H6 D=some (.lst ys)/\ys.length < sizeLine/\CI K W H1 D Bc gt ft fe r l τ2 (upd H6 D (.lst (ys++[y]))) else CI K W H1 D Bc gt ft fe r l τ2 H5:=by
 simp only [D2] at ec2
 refine ⟨F3,Bc,τ,t,ok2,rx,?_⟩
 cases eg:gt t τ with
 | none=>rw [eg] at ec2;cases ec2
 | some τ1 =>
  rw [eg] at ec2
  intro F4 H4 τσ4 l4 ok4
  refine ⟨F4,Bc,τ1,ok4,?_⟩
  dsimp only at ec2
  cases et:ft τ1 with
  | exc c τ2=>rw [et] at ec2;cases ec2
  | bad=>rw [et] at ec2;cases ec2
  | ok b τ2 =>
   rw [et] at ec2
   intro F5 H5 b' l5 q5
   obtain ⟨ok5,rfl⟩:=q5
   have p4:=l4.p D pD
   have p5:=l5.p D p4.1
   have h5:=(p5.2.trans p4.2).trans hD2
   have l15:=(l2.trans l4).trans l5
   have r5:=(racc.le l4).le l5
   cases b' with
   | false =>
    rw [if_neg (by decide)]
    exact .mk F5 τ2 acc ys l15 p5.1 ok5 h5 r5 ec2
   | true =>
    rw [if_pos rfl]
    exact CI.one nP l15 p5.1 ok5 h5 r5 ec2
theorem OU {F:Wd} {H:Hp} {B:Nat->Option V} {fs:FS} {σ:St} {src:List (Option Nat)} (ok:Okk K F B H fs σ) (hall:(src.all fun o=>o.elim true fun j=>decide (j < fs.length))=true) (k:Nat) (i:Ini) (v:Option V) (e1:(src.map fun o=>o.elim Ini.no Ini.slot)[k]?=some i) (e2:(EN σ src)[k]?=some v):T5 K F H σ i v []:=by
 unfold EN at e2
 rw [List.getElem?_map,Option.map_eq_some_iff] at e1 e2
 obtain ⟨o,eo,rfl⟩:=e1
 obtain ⟨o',eo',rfl⟩:=e2
 rw [eo] at eo'
 cases eo'
 cases o with
 | none=>exact trivial
 | some j =>
  have hj:j < σ.length:=by
   obtain ⟨L1,o1⟩:=ok
   rw [o1.sl.len]
   exact of_decide_eq_true (List.all_eq_true.mp hall _ (List.mem_of_getElem? eo))
  show σ[j]?=some ((σ[j]?).join)
  rw [List.getElem?_eq_getElem hj]
  rfl
theorem QM {F1 F2:Wd} {H2:Hp} {B:Nat->Option V} {fs':FS} {σ:St} {D:Addr} {ys:List V} {acc:List T} {L:List Addr} (o3:Ok K ⟨F2.f,F1.p⟩ B H2 fs' σ L) (hD2:H2 D=some (.lst ys)) (racc:Ad K F2 H2 acc ys) (nL:D∉L) (nF:¬ F2 D) (np:¬ F1.p D):RR K B σ ⟨F2.f,F1.p⟩ H2 fs' (.nw (.lst acc)) (.ref D):=by
 refine ⟨L,[D],o3,Dl hD2 (Ad.wp racc),?_,fun a m=>?_⟩
 ·rw [List.nodup_append]
  exact ⟨o3.nd,by simp,fun a ha b hb e=>nL (by rw [<- List.mem_singleton.mp hb,<- e];exact ha)⟩
 ·rw [List.mem_singleton.mp m]
  exact ⟨nF,np⟩
theorem QL {F1 F2:Wd} {H2:Hp} {B:Nat->Option V} {fs':FS} {σ:St} {D:Addr} {ys:List V} {acc:List T} {L:List Addr} (o3:Ok K ⟨F2.f,F1.p⟩ B H2 fs' σ L) (hD2:H2 D=some (.lst ys)) (racc:Ad K F2 H2 acc ys) (nL:D∉L) (np:¬ F1.p D):RR K B σ (Q1 ⟨F2.f,F1.p⟩ [D]) H2 fs' (.t (.lst acc)) (.ref D):=by
 have l3:Le ⟨F2.f,F1.p⟩ H2 (Q1 ⟨F2.f,F1.p⟩ [D]) H2:=orF
 refine RR.of ⟨L,?_⟩ ?_
 ·refine ⟨o3.sl.le l3 fun _ _=>rfl,o3.nd,fun a m z=>?_,fun a z=>?_,o3.bo,o3.pd,fun a z=>?_,o3.pl⟩
  ·rcases z with z | z
   ·exact o3.nf a m z
   ·exact nL (by rw [<- List.mem_singleton.mp z];exact m)
  ·rcases z with z | z
   ·exact o3.fd a z
   ·rw [List.mem_singleton.mp z,hD2];simp
  ·rcases z with z | z
   ·exact o3.pf a z
   ·rw [List.mem_singleton.mp z];exact np
 ·simp only [CM,AQ]
  exact ⟨D,ys,rfl,.inr (by simp),hD2,Ad.le l3 (Ad.wp racc)⟩
theorem RU {new:Bool} {src:List (Option Nat)} {σ:St} {H:Hp} {Q:VK} (h:tF K Z (BK new src fi gt ft fe) σ H Q):Pu src (tI K Z fi) (tG K gt) (tT K Xp.no ft) (tF K Xp.no fe) σ H Q:=by
 obtain ⟨F,B,fs,ok,s⟩:=h
 refine ⟨F,B,fs,ok,AU s fun ts fs1 F1 H1 J l q s1=>?_⟩
 obtain ⟨ok1,jk⟩:=q
 split at s1
 ·rename_i hnd
  obtain ⟨L9,ok9⟩:=id ok1
  obtain ⟨Pp,p1,p2,p3,p4⟩:=lend (μ:=fun _=>[]) ok9 (by unfold EN;simp) (OU ok1 hnd.2) hnd.1 Mu.no
  have jI:JOk K ⟨F1.f,Pp⟩ H1 J ts:=jk.within
  split at s1
  ·rename_i vs τe ec
   split at s1
   ·rename_i fs' eb
    intro D hD
    have nP:¬ Pp D:=fun z=>p3 D z hD
    refine ⟨fun i m τσ H2=>m=ts.length - i/\CI K ⟨F1.f,Pp⟩ H1 D (Bof (EN σ src)) gt ft fe (vs,τe) (ts.drop i) τσ H2,
     ⟨ts.length,rfl,.mk ⟨F1.f,fun a=>Pp a∨a=D⟩ _ [] [] ⟨fun a f=>⟨f,Aq fun e=>p2.fd a f (e▸hD)⟩,fun a f=>⟨.inl f,Aq fun e=>nP (e▸f)⟩⟩ (.inr rfl) (p2.hide hD) AF rfl ec⟩,fun i m τσ H2 hc=>?_⟩
    obtain ⟨rfl,F2,τ,acc,ys,l2,pD,ok2,hD2,racc,ec2⟩:=hc
    by_cases hit:i < ts.length
    ·have ei:ts[i]?=some ts[i]:=List.getElem?_eq_getElem hit
     rw [List.drop_eq_getElem_cons hit] at ec2
     obtain ⟨j1,j2⟩:=(jI F2 H2 l2.f ⟨_,_,_,ok2⟩ i).1 _ ei
     refine .inr ⟨j1,CI K ⟨F1.f,Pp⟩ H1 D (Bof (EN σ src)) gt ft fe (vs,τe) (ts.drop (i+1)),fun τσ' H' h=>⟨ts.length - (i+1),by omega,rfl,h⟩,fun x H3 hy=>?_⟩
     obtain ⟨F3,⟨l23,nw⟩,rx⟩:=j2 x H3 hy
     exact CI.turn nP (l2.trans l23) (l23.p D pD).1 (nw _ _ _ ok2) ((l23.p D pD).2.trans hD2) (racc.le l23) ec2 rx
    ·refine .inl ⟨(jI F2 H2 l2.f ⟨_,_,_,ok2⟩ i).2 (by omega),?_⟩
     rw [List.drop_eq_nil_of_le (by omega)] at ec2
     simp only [D2] at ec2
     cases ec2
     obtain ⟨Li,o2⟩:=ok2
     obtain ⟨le,L,o3,sub⟩:=p4 F2 H2 τe τσ Li fs' l2 o2 eb
     have nL:D∉L:=fun m=>(sub D m).elim (fun z=>o2.pl D z pD) nP
     have np:¬ F1.p D:=fun z=>nP (p1 D z)
     cases new with
     | true =>
      rw [if_pos rfl] at s1
      exact s1 ⟨F2.f,F1.p⟩ H2 (.ref D) le (QM o3 hD2 racc nL (fun f=>o2.pf D f pD) np)
     | false =>
      rw [if_neg (by decide)] at s1
      exact s1 (Q1 ⟨F2.f,F1.p⟩ [D]) H2 (.ref D) (le.trans orF) (QL o3 hD2 racc nL np)
   ·exact s1.elim
  ·exact s1.elim
 ·exact s1.elim
theorem DA (new:Bool) (N:List Str) (src:List (Option Nat)) (hcalm:X.calm=true) (hi:FI X Z tg iter fi) (hg:∀ cl C s H fp,GT (Cr X N sc cl C s H fp) tg gt) (ht:∀ cl C s H fp,FIf (Cr X N sc cl C s H fp) ifs ft)
  (he:∀ cl C s H fp,FE (Cr X N sc cl C s H fp) Xp.no elt fe) (hS:GX X.env.scope sc=true:=by rfl) (hcap:E7 X.N sc N src=true:=by rfl)
  (hs:∀ x,foldedSetIterable iter X.env x=pure x:=by intro _;rfl):FE X Z (.ListComp elt [⟨tg,iter,ifs,0⟩] sc pos) (BK new src fi gt ft fe) :=
 Bi (Su (g:=tG X.K gt) (tt:=tT X.K Xp.no ft) (te:=tF X.K Xp.no fe) N src hcalm hi hg ht he hS hcap hs) fun _ _ _ h=>RU h
theorem HF (new:Bool) (i:Nat) {y:Str} {pos' spos:Pos} (N:List Str) (src:List (Option Nat)) (hcalm:X.calm=true) (hN:X.N.Nodup) (hy:Loc X.env.scope y) (hi:FI X Z tg iter fi) (hg:∀ cl C s H fp,GT (Cr X N sc cl C s H fp) tg gt) (ht:∀ cl C s H fp,FIf (Cr X N sc cl C s H fp) ifs ft)
  (he:∀ cl C s H fp,FE (Cr X N sc cl C s H fp) Xp.no elt fe) (hiy:X.N[i]?=some y:=by rfl) (hS:GX X.env.scope sc=true:=by rfl) (hcap:E7 X.N sc N src=true:=by rfl)
  (hs:∀ x,foldedSetIterable iter X.env x=pure x:=by intro _;rfl) (hsw:swapsWith (.ListComp elt [⟨tg,iter,ifs,0⟩] sc pos) (some (.Name y pos')) spos.line X.env=pure true:=by rfl)
  (hf:X.fn y=true∨X.env.scope.names.lookup y=some .local:=by first | exact .inl rfl | exact .inr rfl | assumption) :
  GS X Z (.Assign [.Name y pos'] (.ListComp elt [⟨tg,iter,ifs,0⟩] sc pos) spos) (AY i (BK new src fi gt ft fe)) :=
 DF (HA (g:=tG X.K gt) (tt:=tT X.K Xp.no ft) (te:=tF X.K Xp.no fe) N src hcalm hN hiy hy hi hg ht he hS hcap hs hsw hf) fun _ _ _ s=>RU (Se s)
end
def orG (g g':Rv->Rv->FS->Out Rv):Rv->Rv->FS->Out Rv:=fun x y fs=>match g x y fs with
 | .bad=>g' x y fs
 | o=>o
theorem OpF.or {K:Fg} {Z:Xp} {r r':R2} {g g':Rv->Rv->FS->Out Rv} (h:OpF K Z r g) (h':OpF K Z r' g'):OpF K Z (orR r r') (orG g g'):=by
 intro F B H σ fs x y u w Q ok rx ry s
 unfold orG at s
 cases e:g x y fs with
 | ok a t=>rw [e] at s;exact .inl (h F B H σ fs x y u w Q ok rx ry (by rw [e];exact s))
 | exc c t=>rw [e] at s;exact .inl (h F B H σ fs x y u w Q ok rx ry (by rw [e];exact s))
 | bad=>rw [e] at s;exact .inr (h' F B H σ fs x y u w Q ok rx ry s)
def orC (g g':List Rv->FS->Out Rv):List Rv->FS->Out Rv:=fun x fs=>match g x fs with
 | .bad=>g' x fs
 | o=>o
theorem DV.or {K:Fg} {Z:Xp} {r r':List V->Hp->VK->Prop} {g g':List Rv->FS->Out Rv} (h:DV K Z r g) (h':DV K Z r' g'):DV K Z (Ru r r') (orC g g'):=by
 intro F B H σ fs x u Q ok rx s
 unfold orC at s
 cases e:g x fs with
 | ok a t=>rw [e] at s;exact .inl (h F B H σ fs x u Q ok rx (by rw [e];exact s))
 | exc c t=>rw [e] at s;exact .inl (h F B H σ fs x u Q ok rx (by rw [e];exact s))
 | bad=>rw [e] at s;exact .inr (h' F B H σ fs x u Q ok rx s)
def exL (fs:FS):Rv->Option (List T)
 | .t (.lst ts)=>some ts
 | .rf i=>match A1 fs i with
  | some (.lst ts)=>some ts
  | _=>none
 | _=>none
theorem RI {K:Fg} {B:Nat->Option V} {F:Wd} {H:Hp} {σ:St} {fs:FS} {x:Rv} {u:V} {ts:List T} (h:Okk K F B H fs σ) (r:CM K F H σ x u) (e:exL fs x=some ts):∃ a vs,u=.ref a/\H a=some (.lst vs)/\Ad K F H ts vs:=by
 unfold exL at e
 split at e
 ·cases e
  simp only [CM,AQ] at r
  obtain ⟨a,vs,e,f,s,q⟩:=r
  exact ⟨a,vs,e,s,q⟩
 ·rename_i i
  split at e
  ·rename_i ts' eo
   cases e
   obtain ⟨v,L2,e1,q,_⟩:=h.own eo
   have e2:σ[i]?=some (some u):=r
   rw [e1] at e2
   have e3:v=u:=by simpa using e2
   subst e3
   simp only [AK] at q
   obtain ⟨a,vs,e,s,q,_⟩:=q
   exact ⟨a,vs,e,s,q⟩
  ·cases e
 ·cases e
def Mw:Rv->Rv->FS->Out Rv:=fun x y fs=>match exL fs x,exL fs y with
 | some ts,some us=>if ts.length+us.length<=big then .ok (.nw (.lst (ts++us))) fs else .bad
 | _,_=>.bad
def Tj:Rv->Rv->FS->Out Rv
 | .t (.tup ts),.t (.tup us),fs=>if ts≠[]/\ts.length+us.length<=big then okT (.tup (ts++us)) fs else .bad
 | _,_,_=>.bad
section
variable {K:Fg} {Z:Xp}
theorem SJ:OpF K Z Xg Mw:=by
 intro F B H σ fs x y u w Q ok rx ry s
 unfold Mw at s
 split at s
 ·rename_i ts us e1 e2
  split at s
  ·rename_i hl
   obtain ⟨a,vs,rfl,hs,r⟩:=RI ok rx e1
   obtain ⟨b,ws,rfl,hs2,r2⟩:=RI ok ry e2
   exact ⟨a,b,vs,ws,rfl,rfl,hs,hs2,by rw [r.len,r2.len];exact Nat.le_trans hl EF,fun p hp=>s F _ (.ref p) (Bp ok hp) (RR.alloc ok hp (Dl AF ((r.app r2).le (Bp ok hp))))⟩
  ·exact s.elim
 ·exact s.elim
theorem SI:OpF K Z (UC K) Tj:=by
 intro F B H σ fs x y u w Q ok rx ry s
 unfold Tj at s
 split at s
 ·rename_i ts us
  split at s
  ·rename_i hl
   obtain ⟨a,vs,rfl,hs,r⟩:=Cy (ts:=ts) rx rfl
   obtain ⟨b,ws,rfl,hs2,r2⟩:=Cy (ts:=us) ry rfl
   refine ⟨a,b,vs,ws,rfl,rfl,hs,hs2,fun z=>hl.1 ?_,by rw [r.len,r2.len];exact Nat.le_trans hl.2 EF,fun z=>?_,fun _ p hp=>s _ _ (.ref p) (Cj ok hp) (Ff ok hp (r.app r2))⟩
   ·have:=r.len
    rw [z] at this
    exact List.eq_nil_of_length_eq_zero this.symm
   ·have e:us=[]:=by
     have:=r2.len
     rw [z] at this
     exact List.eq_nil_of_length_eq_zero this.symm
    subst e
    rw [List.append_nil] at s
    exact s F H _ Le.refl (RR.of ok rx)
  ·exact s.elim
 ·exact s.elim
def Oh:Rv->Rv->FS->Out Rv
 | .t (.tup []),.t (.tup us),fs=>okT (.tup us) fs
 | _,_,_=>.bad
theorem Qa:OpF K Z (Rg K) Oh:=by
 intro F B H σ fs x y u w Q ok rx ry s
 unfold Oh at s
 split at s
 ·rename_i us
  obtain ⟨a,vs,rfl,hs,r⟩:=Cy (ts:=[]) rx rfl
  obtain ⟨b,ws,rfl,hs2,r2⟩:=Cy (ts:=us) ry rfl
  have e:vs=[]:=by simpa [Ad] using r
  subst e
  exact ⟨a,b,ws,rfl,rfl,hs,hs2,s F H _ Le.refl (RR.of ok ry)⟩
 ·exact s.elim
theorem SH:OpF K Z UB Og:=by
 intro F B H σ fs x y u w Q ok rx ry s
 unfold Og at s
 split at s
 ·split at s
  ·rename_i t e
   obtain ⟨a,o',rfl,hd,h⟩:=OH ok rx ry e
   rcases h with ⟨h1,_⟩ | ⟨t',v,h1,h2,h3⟩
   ·cases h1
   ·cases h1
    subst h2
    exact ⟨a,v,rfl,hd,s F H v Le.refl (RR.of ok h3)⟩
  ·exact s.elim
 ·exact s.elim
theorem NC (neg:Bool):OpF K Z (Wj neg) (Ti neg):=by
 intro F B H σ fs y x w u Q ok ry rx s
 unfold Ti at s
 split at s
 ·split at s
  ·rename_i t e
   obtain ⟨a,o',rfl,hd,h⟩:=OH ok rx ry e
   refine ⟨a,o',rfl,hd,?_⟩
   have:o'.isSome=t.isSome:=by
    rcases h with ⟨h1,h2⟩ | ⟨t',v,h1,h2,h3⟩
    ·rw [h1,h2];rfl
    ·rw [h1,h2];rfl
   rw [this]
   exact s F H _ Le.refl (RR.of ok rfl)
  ·exact s.elim
 ·exact s.elim
end
def AL:=orG WQ (orG QF (orG Mw (orG Tj Oh)))
def BZ:=orG Ub QD
def Bn:=orG gIx Og
def EK (neg:Bool):=orG (Ti neg) (orG (Jy neg) (gIn neg))
def QE:List Rv->FS->Out Rv
 | [.t (.dK ks _)],fs=>okT (.int ks.length) fs
 | [.rf i],fs=>match A1 fs i with
  | some (.dK ks _)=>okT (.int ks.length) fs
  | _=>.bad
 | _,_=>.bad
def DQ:=orC WN (orC Of QE)
def GJ:=orC Th Oe
section
variable {K:Fg} {Z:Xp}
theorem TQ:DV K Z (fun xs H Q=>∃ a kvs,xs=[V.ref a]/\Rd H a (.dK kvs)/\Q (.int kvs.length) H) QE:=by
 intro F B H σ fs rs vs Q ok q s
 unfold QE at s
 split at s
 ·obtain ⟨v,rfl,qq⟩:=BW q
  have q:=qq
  simp only [CM,AQ] at q
  obtain ⟨a,kvs,rfl,f,hd,rfl,r⟩:=q
  rw [List.length_map] at s
  exact ⟨a,kvs,rfl,hd,s F H _ Le.refl (RR.of ok rfl)⟩
 ·rename_i i
  obtain ⟨v,rfl,qq⟩:=BW q
  have q:=qq
  split at s
  ·rename_i eo
   obtain ⟨v',L2,e1,q2,_⟩:=ok.own eo
   have e2:σ[i]?=some (some v):=q
   rw [e1] at e2
   have e3:v'=v:=by simpa using e2
   subst e3
   simp only [AK] at q2
   obtain ⟨a,kvs,rfl,hd,rfl,_⟩:=q2
   rw [List.length_map] at s
   exact ⟨a,kvs,rfl,.inl hd,s F H _ Le.refl (RR.of ok rfl)⟩
  ·exact s.elim
 ·exact s.elim
end
section
variable {X:Cx} {Z:Xp} {a b:Expr} {fa fb:FS->Out Rv} {pos:Pos}
theorem Cd (ha:FE X Z a fa) (hb:FE X Z b fb):FE X Z (.BinOp a .Add b pos) (Ag AL fa fb) :=
 QG (OpF.or U5 (OpF.or SK (OpF.or SJ (OpF.or SI Qa)))) (OpR.orR U0 (OpR.orR Mf (OpR.orR UZ (OpR.orR SD P7)))) ha hb
theorem GO (ha:FE X Z a fa) (hb:FE X Z b fb):FE X Z (.BinOp a .Mult b pos) (Ag BZ fa fb):=QG (OpF.or U2 SE) (OpR.orR Sz Nn) ha hb
theorem CY (ha:FE X Z a fa) (hb:FE X Z b fb):FE X Z (.BinOp a .Mod b pos) (Ag CF fa fb):=QG U3 UW ha hb
theorem FD (ha:FE X Z a fa) (hb:FE X Z b fb):FE X Z (.BinOp a .FloorDiv b pos) (Ag Fc fa fb):=QG U4 SA ha hb
theorem CJ (hu:X.A.units+1 < cLine) (ha:FE X Z a fa) (hb:FE X Z b fb) (hs:KQ b):FE X Z (.Subscript a b pos) (Ag Bn fa fb):=WT (OpF.or WA SH) (IxR.orR Vg (S6 hu)) ha hb hs
theorem Tu (ha:FE X Z a fa) (hb:FE X Z b fb):FE X Z (.Compare a [.Eq] [b] pos) (Ag (gEq false) fa fb):=Oz of_eq UY ha hb (Gw _)
theorem Om (ha:FE X Z a fa) (hb:FE X Z b fb):FT X Z (.Compare a [.Eq] [b] pos) (asB (Ag (gEq false) fa fb)):=GL of_eq UY ha hb (Gw _)
theorem Vo (ha:FE X Z a fa) (hb:FE X Z b fb):FT X Z (.Compare a [.NotEq] [b] pos) (asB (Ag (gEq true) fa fb)):=GL Wz Wv ha hb (Gw _)
theorem WR (ha:FE X Z a fa) (hb:FE X Z b fb):FT X Z (.Compare a [.Lt] [b] pos) (asB (Ag gLt fa fb)):=GL of_lt Ww ha hb (Gw _)
theorem WS (ha:FE X Z a fa) (hb:FE X Z b fb):FT X Z (.Compare a [.Gt] [b] pos) (asB (Ag gGt fa fb)):=GL WB Wx ha hb (Gw _)
theorem WU (hu:X.A.units+1 < cLine) (ha:FE X Z a fa) (hb:FE X Z b fb) (hm:behindInMarks .In b=false:=by rfl):FE X Z (.Compare a [.In] [b] pos) (Ag (EK false) fa fb) :=
 Oz (OpF.or (NC false) (OpF.or Lb (SF false))) (OpR.orR (Rx hu) (OpR.orR Jo Jp)) ha hb hm
theorem Vp (hu:X.A.units+1 < cLine) (ha:FE X Z a fa) (hb:FE X Z b fb) (hm:behindInMarks .In b=false:=by rfl):FT X Z (.Compare a [.In] [b] pos) (asB (Ag (EK false) fa fb)) :=
 GL (OpF.or (NC false) (OpF.or Lb (SF false))) (OpR.orR (Rx hu) (OpR.orR Jo Jp)) ha hb hm
theorem DR (hu:X.A.units+1 < cLine) (ha:FE X Z a fa) (hb:FE X Z b fb) (hm:behindInMarks .NotIn b=false:=by rfl):FT X Z (.Compare a [.NotIn] [b] pos) (asB (Ag (EK true) fa fb)) :=
 GL (OpF.or (NC true) (OpF.or Kh (SF true))) (OpR.orR (Np hu) (OpR.orR Jm Jn)) ha hb hm
end
def itU (f:FS->Out Rv):FS->Out (List T):=fun fs=>(f fs).bnd fun r fs=>match r with
 | .t (.lst ts)=>.ok ts fs
 | .t (.scr ts)=>.ok ts fs
 | .t (.tup ts)=>.ok ts fs
 | .t (.str z)=>.ok (signs z) fs
 | _=>.bad
theorem Cc {X:Cx} {Z:Xp} {tg l:Expr} {f:FS->Out Rv} (hl:FE X Z l f):FI X Z tg l (itU f):=by
 refine Nf (UJ hl) fun σ H Q ⟨F,B,fs,ok,s⟩=>⟨F,B,fs,ok,A2 s fun r fs1 F1 H1 u l ok1 rx s1=>?_⟩
 split at s1
 ·rename_i ts
  simp only [CM,AQ] at rx
  obtain ⟨a,vs,rfl,ff,hs,r⟩:=rx
  exact .inl ⟨a,rfl,⟨vs,SqL.of hs⟩,s1 F1 H1 _ Le.refl ⟨ok1,Ld (fun F' H' l=>SqL.of ((l a ff).2.trans hs)) r⟩⟩
 ·rename_i ts
  simp only [CM,AQ] at rx
  obtain ⟨a,vs,rfl,hs,r⟩:=rx
  exact .inl ⟨a,rfl,⟨vs,hs.sq⟩,s1 F1 H1 _ Le.refl ⟨ok1,Ld (fun F' H' l=>(StL.lf l hs).sq) r⟩⟩
 ·rename_i ts
  simp only [CM,AQ] at rx
  obtain ⟨a,vs,rfl,hs,r⟩:=rx
  exact .inr (.inl ⟨a,rfl,⟨vs,hs.sq⟩,s1 F1 H1 _ Le.refl ⟨ok1,S0 (fun F' H' l=>SqT.of ((l a hs.2.1).2.trans hs.2.2)) r⟩⟩)
 ·rename_i z
  exact .inr (.inr ⟨z,rx,s1 F1 H1 _ Le.refl ⟨ok1,S3⟩⟩)
 ·exact s1.elim
def QA:Rv->Rv->Rv->FS->SO
 | .rf i,.t (.int k),.t t,fs=>match A1 fs i with
  | some (.lst ts)=>match ixN ts.length k with
   | some j=>.nx (putAt fs i (.lst (ts.set j t)))
   | none=>.bad
  | _=>.bad
 | _,_,_,_=>.bad
def Od:Rv->Rv->Rv->FS->SO
 | .rf i,.t y,.t t,fs=>match A1 fs i with
  | some (.dK ks ts)=>match L5 y with
   | some k=>if ks.length < big then .nx (putAt fs i (.dK (Ii ks ts k t).1 (Ii ks ts k t).2)) else .bad
   | none=>.bad
  | some (.dT ks ts)=>match y with
   | .tup ys=>match J4 ys with
    | some k=>if ks.length < big then .nx (putAt fs i (.dT (Ii ks ts k t).1 (Ii ks ts k t).2)) else .bad
    | none=>.bad
   | _=>.bad
  | _=>.bad
 | _,_,_,_=>.bad
def Td:Rv->Rv->Rv->FS->SO:=fun o i v fs=>match QA o i v fs with
 | .bad=>Od o i v fs
 | s=>s
def ES (fv fo fi:FS->Out Rv):FS->SO:=fun fs=>SO.of ((fv fs).bnd fun v fs=>(fo fs).bnd fun o fs=>(fi fs).bnd fun i fs=>.ok (v,o,i) fs) fun (v,o,i) fs=>Td o i v fs
section
variable {K:Fg} {Z:Xp} {B:Nat->Option V} {F:Wd} {H:Hp} {σ:St} {fs:FS} {D:Ends}
theorem Qz {o i v:Rv} {uo ui uv:V} (ok:Okk K F B H fs σ) (ro:CM K F H σ o uo) (ri:CM K F H σ i ui) (rv:CM K F H σ v uv) (s:Hg K Z B F H (QA o i v fs) D):PR uo ui uv H (fun H3=>D.nx σ H3):=by
 unfold QA at s
 split at s
 ·rename_i i k t
  split at s
  ·rename_i ts e
   split at s
   ·rename_i j ej
    obtain ⟨a,us,rfl,hs,r,kk⟩:=ok.list ro e
    obtain ⟨ok',l⟩:=kk (ts.set j t) (us.set j uv) (Ad.set rv j r)
    exact ⟨a,us,k,j,rfl,ri,hs,by rw [r.len];exact ej,s F _ σ l ok'⟩
   ·exact s.elim
  ·exact s.elim
 ·exact s.elim
theorem QB {o i v:Rv} {uo ui uv:V} (ok:Okk K F B H fs σ) (ro:CM K F H σ o uo) (ri:CM K F H σ i ui) (rv:CM K F H σ v uv) (s:Hg K Z B F H (Od o i v fs) D):PU uo ui uv H (fun H3=>D.nx σ H3):=by
 unfold Od at s
 split at s
 ·rename_i i y t
  split at s
  ·rename_i ks ts e
   split at s
   ·rename_i k ek
    split at s
    ·rename_i hl
     obtain ⟨v,L2,e1,q,nf,_,kk⟩:=ok.own e
     have e2:σ[i]?=some (some uo):=ro
     rw [e1] at e2
     have e3:v=uo:=by simpa using e2
     subst e3
     simp only [AK] at q
     obtain ⟨a,kvs,rfl,hs,rfl,q,rfl⟩:=q
     have:=FR ek ri
     subst this
     refine ⟨a,_,rfl,Ph.k hs (by rw [List.length_map] at hl;exact Nat.lt_trans hl HR),?_⟩
     obtain ⟨h1,h2⟩:=Ih (j:=k) rv q
     have l:Le F H F (upd H a (.dK (putK kvs k uv))):=⟨fun b f=>⟨f,Aq fun z=>(nf a (by simp)).1 (z▸f)⟩,fun b f=>⟨f,Aq fun z=>(nf a (by simp)).2 (z▸f)⟩⟩
     obtain ⟨ok',l'⟩:=kk (.dK (Ii (kvs.map (·.1)) ts k t).1 (Ii (kvs.map (·.1)) ts k t).2) (upd H a (.dK (putK kvs k uv))) (fun b hb _=>Aq (by simpa using hb)) (by
      simp only [AK]
      exact ⟨a,_,rfl,AF,h1,h2.le l,rfl⟩)
     exact s F _ σ l' ok'
    ·exact s.elim
   ·exact s.elim
  ·rename_i ks ts e
   split at s
   ·rename_i ys
    split at s
    ·rename_i k ek
     split at s
     ·rename_i hl
      obtain ⟨v,L2,e1,q,nf,_,kk⟩:=ok.own e
      have e2:σ[i]?=some (some uo):=ro
      rw [e1] at e2
      have e3:v=uo:=by simpa using e2
      subst e3
      simp only [AK] at q
      obtain ⟨a,kvs,rfl,hs,rfl,q,rfl⟩:=q
      simp only [CM,AQ] at ri
      obtain ⟨b,vs,rfl,hb,rb⟩:=ri
      have:=Gi ek rb
      subst this
      refine ⟨a,_,rfl,Ph.t hs hb.2.2 (by rw [List.length_map] at hl;exact Nat.lt_trans hl HR),?_⟩
      obtain ⟨h1,h2⟩:=Ih (j:=k) rv q
      have l:Le F H F (upd H a (.dT (putK kvs k uv))):=⟨fun b f=>⟨f,Aq fun z=>(nf a (by simp)).1 (z▸f)⟩,fun b f=>⟨f,Aq fun z=>(nf a (by simp)).2 (z▸f)⟩⟩
      obtain ⟨ok',l'⟩:=kk (.dT (Ii (kvs.map (·.1)) ts k t).1 (Ii (kvs.map (·.1)) ts k t).2) (upd H a (.dT (putK kvs k uv))) (fun b hb _=>Aq (by simpa using hb)) (by
       simp only [AK]
       exact ⟨a,_,rfl,AF,h1,h2.le l,rfl⟩)
      exact s F _ σ l' ok'
     ·exact s.elim
    ·exact s.elim
   ·exact s.elim
  ·exact s.elim
 ·exact s.elim
end
theorem Lo {X:Cx} {Z:Xp} {o i e:Expr} {fv fo fi:FS->Out Rv} {tpos pos:Pos} (hu:X.A.units+1 < cLine) (he:FE X Z e fv) (ho:FE X Z o fo) (hi:FE X Z i fi)
  (h:∀ {te to ti:TE} {t:R0},PE X e te->PE X o to->PE X i ti->Q4 X t->PS X (.Assign [.Subscript o i tpos] e pos) (Us te (WM to ti t))):GS X Z (.Assign [.Subscript o i tpos] e pos) (ES fv fo fi):=by
 refine DF (h he ho hi (Q4.orR set_list (set_dict hu))) fun D σ H ⟨F,B,fs,ok,s⟩=>?_
 have s':sat Z B (RR X.K B σ) F H (fv fs) (fun v H1=>WM (tF X.K Z fo) (tF X.K Z fi) (Sw PR PU) v σ H1 D.nx):=by
  have s1:=Dv (R:=fun F' H' fs' (a:Rv×Rv×Rv) (b:V×V×V)=>Okk X.K F' B H' fs' σ/\CM X.K F' H' σ a.1 b.1/\CM X.K F' H' σ a.2.1 b.2.1/\CM X.K F' H' σ a.2.2 b.2.2) (Q:=fun b H3=>Sw PR PU b.2.1 b.2.2 b.1 H3 fun H4=>D.nx σ H4) s (fun a fs' F' H' b l q s2=>by
   obtain ⟨q1,q2,q3,q4⟩:=q
   obtain ⟨v,o,i⟩:=a
   dsimp only at s2 q2 q3 q4 ⊢
   unfold Td at s2
   split at s2
   ·exact .inr (QB q1 q3 q4 q2 s2)
   ·exact .inl (Qz q1 q3 q4 q2 s2))
  refine A2 s1 fun v fs1 F1 H1 uv l1 ok1 rv s2=>?_
  refine ⟨F1,B,fs1,ok1,A2 s2 fun o fs2 F2 H2 uo l2 ok2 ro s3=>⟨F2,B,fs2,ok2,A2 s3 fun i fs3 F3 H3 ui l3 ok3 ri s4=>?_⟩⟩
  exact s4 F3 H3 (uv,uo,ui) Le.refl ⟨ok3,(rv.le l2).le l3,ro.le l3,ri⟩
 exact ⟨F,B,fs,ok,s'⟩
theorem Dp {X:Cx} {Z:Xp} {st:Stmt}:GS X Z st (fun _=>.bad):=DF PX fun D σ H ⟨F,B,fs,ok,s⟩=>s.elim
section
variable {K:Fg} {B:Nat->Option V} {F F':Wd} {H H':Hp} {σ:St} {fs:FS} {i:Nat} {ob:FO} {r:Rv} {u:V}
theorem RR.put (h:RR K B σ F H fs r u) (e:A1 fs i=some ob):∃ v L2 L',σ[i]?=some (some v)/\AK K F H ob v L2/\MI K F H σ r u L'/\(L2++L').Nodup/\(∀ a∈L2++L',¬ F a/\¬ F.p a) /\
  ∀ ob' H' M,(∀ a,a∉L2->H a≠none->H' a=H a)->AK K F H' ob' v M->M.Nodup->(∀ b∈M,b∈L2∨b∈L')->Okk K F B H' (putAt fs i ob') σ/\Le F H F H':=by
 obtain ⟨L,L',h,qr,ndr,nfr⟩:=h
 have key:∀ s:Sl,fs[i]?=some (some s)->(s=.own ob∨s=.bor ob)->∃ v L2 L',σ[i]?=some (some v)/\AK K F H ob v L2/\MI K F H σ r u L'/\(L2++L').Nodup/\(∀ a∈L2++L',¬ F a/\¬ F.p a) /\
  ∀ ob' H' M,(∀ a,a∉L2->H a≠none->H' a=H a)->AK K F H' ob' v M->M.Nodup->(∀ b∈M,b∈L2∨b∈L')->Okk K F B H' (fs.set i (some (s.put ob'))) σ/\Le F H F H':=by
  intro s es ho
  obtain ⟨v,L1,L2,L3,e1,rfl,h1,h2⟩:=h.sl.pick es
  obtain ⟨u',rfl,q⟩:∃ u,v=some u/\AK K F H ob u L2:=by
   rcases ho with rfl | rfl
   ·exact h1
   ·exact h1
  have nd:=h.nd
  have dis:∀ a∈L1++L3,a∉L2:=fun a ha hb=>by
   rw [List.nodup_append] at nd
   rcases List.mem_append.mp ha with ha | ha
   ·exact nd.2.2 a ha a (List.mem_append_left _ hb) rfl
   ·have:=(List.nodup_append.mp nd.2.1).2.2
    exact this a hb a ha rfl
  have ndr':=List.nodup_append.mp ndr
  have dis':∀ a∈L1++L3,a∉L':=fun a ha hb=>ndr'.2.2 a (by
   rcases List.mem_append.mp ha with ha | ha
   ·simp [ha]
   ·simp [ha]) a hb rfl
  refine ⟨u',L2,L',e1,q,qr,?_,fun a m=>?_,fun ob' H' M k q' hm hsub=>?_⟩
  ·rw [List.nodup_append]
   refine ⟨?_,ndr'.2.1,fun a ha b hb=>ndr'.2.2 a (by simp [ha]) b hb⟩
   rw [List.nodup_append] at nd
   exact (List.nodup_append.mp nd.2.1).1
  ·rcases List.mem_append.mp m with m | m
   ·exact ⟨h.nf a (by simp [m]),h.pl a (by simp [m])⟩
   ·exact nfr a m
  ·have l:Le F H F H':=⟨fun a f=>⟨f,k a (fun m=>h.nf a (by simp [m]) f) (h.fd a f)⟩,fun a f=>⟨f,k a (fun m=>h.pl a (by simp [m]) f) (h.pd a f)⟩⟩
   have nfM:∀ a∈L1++(M++L3),¬ F a/\¬ F.p a:=fun a m=>by
    rcases List.mem_append.mp m with m | m
    ·exact ⟨h.nf a (by simp [m]),h.pl a (by simp [m])⟩
    ·rcases List.mem_append.mp m with m | m
     ·rcases hsub a m with z | z
      ·exact ⟨h.nf a (by simp [z]),h.pl a (by simp [z])⟩
      ·exact nfr a z
     ·exact ⟨h.nf a (by simp [m]),h.pl a (by simp [m])⟩
   refine ⟨⟨L1++(M++L3),?_,CA nd hm (fun a m m2=>?_),fun a m=>(nfM a m).1,fun a f=>by rw [(l.f a f).2];exact h.fd a f,?_,fun a f=>by rw [(l.p a f).2];exact h.pd a f,h.pf,fun a m=>(nfM a m).2⟩,l⟩
   ·have hL:∀ a∈L1++L3,H' a=H a:=fun a m=>k a (dis a m) (h.sl.def a (by
      rcases List.mem_append.mp m with m | m
      ·simp [m]
      ·simp [m]))
    have h3:=h2 F H' (some (s.put ob')) (some u') M l hL (by
     rcases ho with rfl | rfl
     ·exact ⟨u',rfl,q'⟩
     ·exact ⟨u',rfl,q'⟩)
    rwa [Ci e1] at h3
   ·rcases hsub a m with z | z
    ·exact dis a m2 z
    ·exact dis' a m2 z
   ·have:=Hd.put (i:=i) (s:=some (s.put ob')) (v:=some u') h.bo (fun o eo=>by
     rcases ho with rfl | rfl
     ·cases eo
     ·obtain ⟨w,e3,e4⟩:=h.bo i ob es
      rw [e1] at e3
      have e5:u'=w:=by simpa using e3
      exact ⟨u',rfl,by rw [e5];exact e4⟩) h.sl.len
    rwa [Ci e1] at this
 unfold A1 at e
 split at e
 ·rename_i o es
  cases e
  obtain ⟨v,L2,L',a1,a2,a3,a4,a5,a6⟩:=key _ es (.inl rfl)
  refine ⟨v,L2,L',a1,a2,a3,a4,a5,fun ob' H' M k q m1 m2=>?_⟩
  have:=a6 ob' H' M k q m1 m2
  unfold putAt
  rw [es]
  exact this
 ·rename_i o es
  cases e
  obtain ⟨v,L2,L',a1,a2,a3,a4,a5,a6⟩:=key _ es (.inr rfl)
  refine ⟨v,L2,L',a1,a2,a3,a4,a5,fun ob' H' M k q m1 m2=>?_⟩
  have:=a6 ob' H' M k q m1 m2
  unfold putAt
  rw [es]
  exact this
 ·cases e
end
def W5:Rv->Option FO
 | .t t=>some (.val t)
 | .nw o=>some o
 | .rf _=>none
def Hh:List Str->List FO->Str->FO->Option (List Str×List FO)
 | [],[],f,o=>some ([f],[o])
 | g :: gs,x :: os,f,o=>if g=f then (match x with
   | .val _=>some (g :: gs,o :: os)
   | _=>none) else (Hh gs os f o).map fun p=>(g :: p.1,x :: p.2)
 | _,_,_,_=>none
theorem Jj {K:Fg} {F:Wd} {H:Hp} {f:Str} {o:FO} {y:V} {L':List Addr} (ro:AK K F H o y L'):∀ {kvs:List (Str×V)} {os os':List FO} {gs':List Str} {L:List Addr},AA K F H os (kvs.map (·.2)) L->Hh (kvs.map (·.1)) os f o=some (gs',os') ->
  ∃ M,(Fz f y kvs).map (·.1)=gs'/\AA K F H os' ((Fz f y kvs).map (·.2)) M/\(∀ a∈M,a∈L∨a∈L')/\((L++L').Nodup->M.Nodup)
 | [],os,os',gs',L,r,e=>by
  cases os with
  | cons x os=>simp [Hh] at e
  | nil =>
   simp only [List.map_nil,Hh,Option.some.injEq,Prod.mk.injEq] at e
   obtain ⟨rfl,rfl⟩:=e
   refine ⟨L',rfl,?_,fun a m=>.inr m,fun nd=>(List.nodup_append.mp nd).2.1⟩
   simp only [Fz,List.map_cons,List.map_nil,AA]
   exact ⟨y,[],L',[],rfl,ro,⟨rfl,rfl⟩,by simp⟩
 | (g,x) :: kvs,os,os',gs',L,r,e=>by
  cases os with
  | nil=>simp [Hh] at e
  | cons o1 os =>
   simp only [List.map_cons,AA] at r
   obtain ⟨v,w,L1,L2,ee,r1,r2,rfl⟩:=r
   cases ee
   simp only [List.map_cons,Hh] at e
   by_cases hg:g=f
   ·rw [if_pos hg] at e
    cases o1 with
    | val t =>
     simp only [Option.some.injEq,Prod.mk.injEq] at e
     obtain ⟨rfl,rfl⟩:=e
     simp only [AK] at r1
     obtain ⟨rfl,_⟩:=r1
     refine ⟨L'++L2,?_,?_,fun a m=>?_,fun nd=>?_⟩
     ·simp only [Fz];rw [if_pos hg];rfl
     ·simp only [Fz]
      rw [if_pos hg]
      simp only [List.map_cons,AA]
      exact ⟨y,_,L',L2,rfl,ro,r2,rfl⟩
     ·rcases List.mem_append.mp m with m | m
      ·exact .inr m
      ·exact .inl (by simpa using m)
     ·rw [List.nil_append] at nd
      exact (List.perm_append_comm).nodup_iff.mp nd
    | lst _=>cases e
    | dK _ _=>cases e
    | dT _ _=>cases e
    | ins _ _ _=>cases e
    | los _=>cases e
    | tpl _=>cases e
   ·rw [if_neg hg,Option.map_eq_some_iff] at e
    obtain ⟨p,ep,e⟩:=e
    simp only [Prod.mk.injEq] at e
    obtain ⟨rfl,rfl⟩:=e
    obtain ⟨M,m1,m2,m3,m4⟩:=Jj ro r2 (gs':=p.1) (os':=p.2) (by rw [ep])
    refine ⟨L1++M,?_,?_,fun a m=>?_,fun nd=>?_⟩
    ·simp only [Fz];rw [if_neg hg,List.map_cons,m1]
    ·simp only [Fz]
     rw [if_neg hg]
     simp only [List.map_cons,AA]
     exact ⟨x,_,L1,M,rfl,r1,m2,rfl⟩
    ·rcases List.mem_append.mp m with m | m
     ·exact .inl (List.mem_append_left _ m)
     ·rcases m3 a m with z | z
      ·exact .inl (List.mem_append_right _ z)
      ·exact .inr z
    ·rw [List.append_assoc,List.nodup_append] at nd
     rw [List.nodup_append]
     refine ⟨nd.1,m4 nd.2.1,fun a ha b hb e=>?_⟩
     rcases m3 b hb with z | z
     ·exact nd.2.2 a ha b (List.mem_append_left _ z) e
     ·exact nd.2.2 a ha b (List.mem_append_right _ z) e
def Uc (C:Addr) (f:Str) (i:Nat) (fv:FS->Out Rv):FS->SO:=fun fs=>SO.of (fv fs) fun r fs=>match W5 r,A1 fs i with
 | some o,some (.ins C' gs os)=>if C'=C/\gs.length < 900 then (match Hh gs os f o with
   | some p=>.nx (putAt fs i (.ins C p.1 p.2))
   | none=>.bad) else .bad
 | _,_=>.bad
theorem Oc {X:Cx} {Z:Xp} {x f:Str} {e:Expr} {fv:FS->Out Rv} {C:Addr} {p1 p2 pos:Pos} (c:Cls X.K C) (n:DX X.K C f) (i:Nat) (he:FE X Z e fv)
  (h:∀ {tv:TE},PE X e tv->PS X (.Assign [.Attribute (.Name x p1) f p2] e pos) (Xb X.K (Uk i) tv f)):GS X Z (.Assign [.Attribute (.Name x p1) f p2] e pos) (Uc C f i fv):=by
 refine DF (h he) fun D σ H ⟨F,B,fs,ok,s⟩=>⟨F,B,fs,ok,Dv s fun r fs1 F1 H1 u l q s1=>?_⟩
 split at s1
 ·rename_i o C' gs os e1 e2
  split at s1
  ·rename_i hC
   obtain ⟨rfl,hl⟩:=hC
   split at s1
   ·rename_i p ep
    obtain ⟨v,L2,L',a1,a2,a3,a4,a5,a6⟩:=RR.put q e2
    simp only [AK] at a2
    obtain ⟨a,dx,kvs,L3,rfl,hd,rfl,ro,rfl⟩:=a2
    have rfo:AK X.K F1 H1 o u L':=by
     cases r with
     | t t =>
      cases e1
      simp only [AK]
      exact a3
     | nw o'=>cases e1;exact a3
     | rf j=>cases e1
    obtain ⟨M,m1,m2,m3,m4⟩:=Jj rfo ro (gs':=p.1) (os':=p.2) (by rw [ep])
    have nd2:(L3++L').Nodup:=(List.nodup_cons.mp a4).2
    have na:a∉L3++L':=(List.nodup_cons.mp a4).1
    have naM:a∉M:=fun z=>na (by
     rcases m3 a z with z | z
     ·exact List.mem_append_left _ z
     ·exact List.mem_append_right _ z)
    have k1:∀ b,b∉a :: L3->H1 b≠none->(upd H1 a (.ins C' dx (Fz f u kvs))) b=H1 b:=fun b hb _=>Aq fun z=>hb (by rw [z];simp)
    have l1:Le F1 H1 F1 (upd H1 a (.ins C' dx (Fz f u kvs))):=⟨fun b f=>⟨f,Aq fun z=>(a5 a (by simp)).1 (z▸f)⟩,fun b f=>⟨f,Aq fun z=>(a5 a (by simp)).2 (z▸f)⟩⟩
    obtain ⟨ok',l'⟩:=a6 (.ins C' p.1 p.2) (upd H1 a (.ins C' dx (Fz f u kvs))) (a :: M) k1 (by
     simp only [AK]
     exact ⟨a,dx,_,M,rfl,AF,m1,AA.le l1 (fun b hb=>Aq fun z=>naM (z▸hb)) m2,rfl⟩) (List.nodup_cons.mpr ⟨naM,m4 nd2⟩) (fun b hb=>by
     rcases List.mem_cons.mp hb with z | z
     ·exact .inl (by rw [z];simp)
     ·rcases m3 b z with z | z
      ·exact .inl (List.mem_cons_of_mem _ z)
      ·exact .inr z)
    exact ⟨_,a1,a,C',dx,kvs,rfl,hd,c,n,by rw [List.length_map] at hl;omega,s1 F1 _ σ l' ok'⟩
   ·exact s1.elim
  ·exact s1.elim
 ·exact s1.elim
def Fe:List Str->List FO->Str->FO->List FO
 | g :: gs,x :: os,f,o=>if f == g then o :: os else x :: Fe gs os f o
 | _,os,_,_=>os
theorem Jc {K:Fg} {F:Wd} {H:Hp} {f:Str} {ks:List Key} {ts:List T}:∀ {kvs:List (Str×V)} {os:List FO} {L:List Addr},AA K F H os (kvs.map (·.2)) L->L.Nodup->DZ (kvs.map (·.1)) os f=some (.dK ks ts) ->
  ∃ b dkvs,kvs.lookup f=some (.ref b)/\b∈L/\H b=some (.dK dkvs)/\dkvs.map (·.1)=ks/\Ad K F H ts (dkvs.map (·.2)) /\
   ∀ H' o',(∀ a∈L,a≠b->H' a=H a)->Le F H F H'->AK K F H' o' (.ref b) [b]->AA K F H' (Fe (kvs.map (·.1)) os f o') (kvs.map (·.2)) L
 | [],os,L,r,nd,e=>by cases os <;> simp [DZ] at e
 | (g,x) :: kvs,os,L,r,nd,e=>by
  cases os with
  | nil=>simp [DZ] at e
  | cons o1 os =>
   simp only [List.map_cons,AA] at r
   obtain ⟨v,w,L1,L2,ee,r1,r2,rfl⟩:=r
   cases ee
   simp only [List.map_cons,DZ] at e
   rw [List.lookup_cons]
   have nd':=List.nodup_append.mp nd
   cases hb:f == g with
   | true =>
    rw [hb] at e
    cases e
    simp only [AK] at r1
    obtain ⟨b,dkvs,rfl,hd,rfl,rt,rfl⟩:=r1
    refine ⟨b,dkvs,rfl,by simp,hd,rfl,rt,fun H' o' k l ro=>?_⟩
    simp only [List.map_cons,Fe,hb,if_true,AA]
    refine ⟨.ref b,_,[b],L2,rfl,ro,AA.le l (fun a m=>k a (by simp [m]) fun z=>nd'.2.2 b (by simp) a m z.symm) r2,rfl⟩
   | false =>
    rw [hb] at e
    obtain ⟨b,dkvs,h1,h2,h3,h4,h5,h6⟩:=Jc r2 nd'.2.1 (by simpa using e)
    refine ⟨b,dkvs,h1,List.mem_append_right _ h2,h3,h4,h5,fun H' o' k l ro=>?_⟩
    have:=h6 H' o' (fun a m=>k a (List.mem_append_right _ m)) l ro
    simp only [List.map_cons,Fe,hb,AA]
    exact ⟨x,_,L1,L2,rfl,r1.le l fun a m=>k a (List.mem_append_left _ m) fun z=>nd'.2.2 a m b h2 z,this,rfl⟩
def DI (C:Addr) (f:Str) (i j:Nat) (fv:FS->Out Rv):FS->SO:=fun fs=>SO.of (fv fs) fun r fs=>match r,A1 fs i,fs[j]? with
 | .t t,some (.ins C' gs os),some (some (.val y))=>if C'=C then (match DZ gs os f,L5 y with
   | some (.dK ks ts),some k=>if ks.length < big then .nx (putAt fs i (.ins C gs (Fe gs os f (.dK (Ii ks ts k t).1 (Ii ks ts k t).2)))) else .bad
   | _,_=>.bad) else .bad
 | _,_,_=>.bad
theorem IC {X:Cx} {Z:Xp} {x y f:Str} {e:Expr} {fv:FS->Out Rv} {C:Addr} {p1 p2 p3 p4 pos:Pos} (c:Cls X.K C) (n:DX X.K C f) (i j:Nat) (he:FE X Z e fv)
  (h:∀ {tv:TE},PE X e tv->PS X (.Assign [.Subscript (.Attribute (.Name x p1) f p2) (.Name y p3) p4] e pos) (Uy (Xa X.K (Uk i) f) (Uk j) tv)) :
  GS X Z (.Assign [.Subscript (.Attribute (.Name x p1) f p2) (.Name y p3) p4] e pos) (DI C f i j fv):=by
 refine DF (h he) fun D σ H ⟨F,B,fs,ok,s⟩=>⟨F,B,fs,ok,Dv s fun r fs1 F1 H1 u l q s1=>?_⟩
 split at s1
 ·rename_i t C' gs os y' e2 e3
  split at s1
  ·rename_i hC
   subst hC
   split at s1
   ·rename_i ks ts k e4 e5
    split at s1
    ·rename_i hl
     have rt:AQ X.K F1 H1 t u:=by obtain ⟨_,_,_,⟨_,q⟩,_⟩:=q;exact q
     have ok1:=q.ok
     obtain ⟨v,L2,a1,a2,a3,a4,a5⟩:=ok1.own e2
     simp only [AK] at a2
     obtain ⟨a,dx,kvs,L3,rfl,hd,rfl,ro,rfl⟩:=a2
     have ndc:=List.nodup_cons.mp a4
     obtain ⟨b,dkvs,b1,b2,b3,rfl,b5,b6⟩:=Jc ro ndc.2 e4
     obtain ⟨L9,o9⟩:=id ok1
     obtain ⟨w,M1,M2,M3,e6,_,h1,_⟩:=o9.sl.pick e3
     obtain ⟨uy,rfl,ry,_⟩:=h1
     have:=FR e5 ry
     subst this
     have hab:a≠b:=fun z=>ndc.1 (z▸b2)
     obtain ⟨h1,h2⟩:=Ih (j:=k) rt b5
     have nb:=a3 b (List.mem_cons_of_mem _ b2)
     have l1:Le F1 H1 F1 (upd H1 b (.dK (putK dkvs k u))):=⟨fun z f=>⟨f,Aq fun q=>nb.1 (q▸f)⟩,fun z f=>⟨f,Aq fun q=>nb.2 (q▸f)⟩⟩
     obtain ⟨ok',l'⟩:=a5 (.ins C' (kvs.map (·.1)) (Fe (kvs.map (·.1)) os f (.dK (Ii (dkvs.map (·.1)) ts k t).1 (Ii (dkvs.map (·.1)) ts k t).2))) (upd H1 b (.dK (putK dkvs k u))) (fun z hz _=>Aq fun q=>hz (by rw [q];exact List.mem_cons_of_mem _ b2)) (by
      simp only [AK]
      refine ⟨a,dx,kvs,L3,rfl,by rw [Aq hab];exact hd,rfl,b6 _ _ (fun z _ hz=>Aq hz) l1 ?_,rfl⟩
      simp only [AK]
      exact ⟨b,_,rfl,AF,h1,h2.le l1,rfl⟩)
     exact ⟨_,a1,a,C',dx,kvs,.ref b,rfl,hd,c,n,b1,kV k,e6,b,_,rfl,Ph.k b3 (by rw [List.length_map] at hl;exact Nat.lt_trans hl HR),s1 F1 _ σ l' ok'⟩
    ·exact s1.elim
   ·exact s1.elim
  ·exact s1.elim
 ·exact s1.elim
section
variable {X:Cx} {Z:Xp} {e:Expr} {es:List Expr} {fa:FS->Out (List Rv)} {pos p:Pos}
theorem GP (hm:X.mg "len"=none) (ha:FA X Z (e :: es) fa) (hg:Gl X "len":=by rfl) (he:starEach (e :: es) X.env=(false,eval e X.env) :: starEach es X.env:=by rfl) (hpl:(backTo pos (starEach es X.env)).any (·.1)=false:=by rfl) :
  FE X Z (.Call (.Name "len" p) (e :: es) [] pos) (Ar DQ fa):=FZ (DV.or VH (DV.or TN TQ)) (Dj.orR JL (Dj.orR JK ME)) hm PySem.boot_len ha hg (by decide) (by decide) he hpl
theorem Ts (hm:X.mg "min"=none) (ha:FA X Z (e :: es) fa) (hc:X.calm=true:=by rfl) (hg:Gl X "min":=by rfl) (he:starEach (e :: es) X.env=(false,eval e X.env) :: starEach es X.env:=by rfl) (hpl:(backTo pos (starEach es X.env)).any (·.1)=false:=by rfl) :
  FE X Z (.Call (.Name "min" p) (e :: es) [] pos) (Ar Jx fa):=FZ TL (OV hc) hm PyProof.Rows.boot_min ha hg (by decide) (by decide) he hpl
theorem Vt (hm:X.mg "sum"=none) (ha:FA X Z (e :: es) fa) (hc:X.calm=true:=by rfl) (hg:Gl X "sum":=by rfl) (he:starEach (e :: es) X.env=(false,eval e X.env) :: starEach es X.env:=by rfl) (hpl:(backTo pos (starEach es X.env)).any (·.1)=false:=by rfl) :
  FE X Z (.Call (.Name "sum" p) (e :: es) [] pos) (Ar Tc fa):=FZ VG (QS hc) hm PyProof.Rows.boot_sum ha hg (by decide) (by decide) he hpl
theorem VA (hm:X.mg "all"=none) (ha:FA X Z (e :: es) fa) (hc:X.calm=true:=by rfl) (hg:Gl X "all":=by rfl) (he:starEach (e :: es) X.env=(false,eval e X.env) :: starEach es X.env:=by rfl) (hpl:(backTo pos (starEach es X.env)).any (·.1)=false:=by rfl) :
  FE X Z (.Call (.Name "all" p) (e :: es) [] pos) (Ar Vn fa):=FZ VI (QT hc) hm PyProof.Rows.boot_all ha hg (by decide) (by decide) he hpl
theorem Kw (hm:X.mg "list"=none) (ha:FA X Z (e :: es) fa) (hc:X.calm=true:=by rfl) (hg:Gl X "list":=by rfl) (he:starEach (e :: es) X.env=(false,eval e X.env) :: starEach es X.env:=by rfl) (hpl:(backTo pos (starEach es X.env)).any (·.1)=false:=by rfl) :
  FE X Z (.Call (.Name "list" p) (e :: es) [] pos) (Ar GJ fa):=GR (DV.or TM QR) (Dj.orR JJ (GZ hc)) hm PyProof.Rows.boot_list ha hg (by decide) (by decide) he hpl
theorem Lv (hm:X.mg "tuple"=none) (ha:FA X Z (e :: es) fa) (hg:Gl X "tuple":=by rfl) (he:starEach (e :: es) X.env=(false,eval e X.env) :: starEach es X.env:=by rfl) (hpl:(backTo pos (starEach es X.env)).any (·.1)=false:=by rfl) :
  FE X Z (.Call (.Name "tuple" p) (e :: es) [] pos) (Ar EY fa):=GR QQ II hm PyProof.Rows.boot_tuple ha hg (by decide) (by decide) he hpl
theorem Tt (hm:X.mg "int"=none) (ha:FA X Z (e :: es) fa) (hg:Gl X "int":=by rfl) (he:starEach (e :: es) X.env=(false,eval e X.env) :: starEach es X.env:=by rfl) (hpl:(backTo pos (starEach es X.env)).any (·.1)=false:=by rfl) :
  FE X Z (.Call (.Name "int" p) (e :: es) [] pos) (Ar IF fa):=GR TR OW hm PyProof.Rows.boot_int ha hg (by decide) (by decide) he hpl
end
def Xc (f:FS->Out Rv):FS->Out Rv:=fun fs=>(f fs).bnd fun r fs=>match C6 fs r with
 | some ts=>.ok (.nw (.lst ts.reverse)) fs
 | none=>.bad
theorem Mz {X:Cx} {Z:Xp} {a:Expr} {f:FS->Out Rv} {p1 p2 pos1 pos2:Pos} (hc:X.calm=true) (hm1:X.mg "list"=none) (hm2:X.mg "reversed"=none) (ha:FE X Z a f) (hg1:Gl X "list":=by rfl) (hg2:Gl X "reversed":=by rfl)
  (he:starEach [(.Call (.Name "reversed" p2) [a] [] pos2:Expr)] X.env=[(false,eval (.Call (.Name "reversed" p2) [a] [] pos2) X.env)]:=by rfl) (he2:starEach [a] X.env=[(false,eval a X.env)]:=by rfl) :
  FE X Z (.Call (.Name "list" p1) [.Call (.Name "reversed" p2) [a] [] pos2] [] pos1) (Xc f):=by
 refine Bi (Mc hc hm1 hm2 ha hg1 hg2 he he2) fun σ H Q ⟨F,B,fs,ok,s⟩=>⟨F,B,fs,ok,A2 s fun r fs1 F1 H1 u l ok1 rx s1=>?_⟩
 split at s1
 ·rename_i ts ets
  obtain ⟨a,vs,rfl,hs,q⟩:=BF ok1 rx ets
  exact ⟨a,vs,rfl,hs,fun d hd=>s1 F1 _ (.ref d) (Bp ok1 hd) (RR.alloc ok1 hd (Dl AF ((q.rev).le (Bp ok1 hd))))⟩
 ·exact s1.elim
def JZ (f:FS->Out Rv):FS->Out Rv:=fun fs=>(f fs).bnd fun r fs=>match r with
 | .t (.int i)=>okT (.int (-i)) fs
 | _=>.bad
theorem Lx {X:Cx} {Z:Xp} {a:Expr} {f:FS->Out Rv} {pos:Pos} (ha:FE X Z a f):FE X Z (.UnaryOp .USub a pos) (JZ f):=by
 refine Bi (Wm Ug ha) fun σ H Q ⟨F,B,fs,ok,s⟩=>⟨F,B,fs,ok,A2 s fun r fs1 F1 H1 u l ok1 rx s1=>?_⟩
 split at s1
 ·exact ⟨_,rx,s1 F1 H1 _ Le.refl (RR.of ok1 rfl)⟩
 ·exact s1.elim
def RP (K:Fg) (B:Nat->Option V) (σ:St):Wd->Hp->FS->Option Int->Option Int->Prop:=fun F H fs a b=>Okk K F B H fs σ/\b=a
def tP (K:Fg) (Z:Xp) (f:FS->Out (Option Int)):TO:=fun σ H Q=>∃ F B fs,Okk K F B H fs σ/\sat Z B (RP K B σ) F H (f fs) Q
def FP (X:Cx) (Z:Xp) (e:Option Expr) (f:FS->Out (Option Int)):Prop:=PO X e (tP X.K Z f)
theorem Rl {X:Cx} {e:Option Expr} {t t':TO} (h:PO X e t) (i:∀ σ H Q,t' σ H Q->t σ H Q):PO X e t':=fun pins s σ H Q I q=>h pins s σ H Q I (i _ _ _ q)
def noP:FS->Out (Option Int):=fun fs=>.ok none fs
def Fd (f:FS->Out Rv):FS->Out (Option Int):=fun fs=>(f fs).bnd fun r fs=>match r with
 | .t (.int i)=>.ok (some i) fs
 | _=>.bad
def RT (ts:List T) (lo hi:Option Int):List T:=(ts.drop (HT.sIx ts.length 0 lo)).take (HT.sIx ts.length ts.length hi - HT.sIx ts.length 0 lo)
theorem LD {K:Fg} {F:Wd} {H:Hp} {ts:List T} {vs:List V} {lo hi:Option Int} (r:Ad K F H ts vs):Ad K F H (RT ts lo hi) (RS vs lo hi):=by
 unfold RT RS
 rw [r.len]
 exact (r.drop _).take _
def VW:Rv->Option Int->Option Int->FS->Out Rv:=fun x lo hi fs=>match C6 fs x with
 | some ts=>okT (.lst (RT ts lo hi)) fs
 | none=>match x with
  | .t (.tup ts)=>okT (.tup (RT ts lo hi)) fs
  | _=>.bad
def slF (f:FS->Out Rv) (l h:FS->Out (Option Int)):FS->Out Rv:=fun fs=>(f fs).bnd fun x fs=>(l fs).bind fun lo fs=>(h fs).bind fun hi fs=>VW x lo hi fs
section
variable {X:Cx} {Z:Xp} {e:Expr} {lo hi:Option Expr} {f:FS->Out Rv} {l h:FS->Out (Option Int)} {pos p2:Pos}
theorem Ot:FP X Z none noP:=Rl Sn fun σ H Q ⟨F,B,fs,ok,s⟩=>s F H none Le.refl ⟨ok,rfl⟩
theorem Oq (he:FE X Z e f):FP X Z (some e) (Fd f):=by
 refine Rl (Sm he) fun σ H Q ⟨F,B,fs,ok,s⟩=>⟨F,B,fs,ok,A2 s fun r fs1 F1 H1 u l ok1 rx s1=>?_⟩
 split at s1
 ·exact ⟨_,rx,s1 F1 H1 _ Le.refl ⟨ok1,rfl⟩⟩
 ·exact s1.elim
theorem Vu (he:FE X Z e f) (hl:FP X Z lo l) (hu:FP X Z hi h):FE X Z (.Subscript e (.Slice lo hi none p2) pos) (slF f l h):=by
 refine Bi (P2 (SlR.or Sd (SlR.or Uv Uw)) he hl hu) fun σ H Q ⟨F,B,fs,ok,s⟩=>⟨F,B,fs,ok,A2 s fun x fs1 F1 H1 u l1 ok1 rx s1=>⟨F1,B,fs1,ok1,AU s1 fun lo fs2 F2 H2 lo' l2 q2 s2=>?_⟩⟩
 obtain ⟨ok2,rfl⟩:=q2
 refine ⟨F2,B,fs2,ok2,AU s2 fun hi fs3 F3 H3 hi' l3 q3 s3=>?_⟩
 obtain ⟨ok3,rfl⟩:=q3
 have rx3:=(rx.le l2).le l3
 unfold VW at s3
 split at s3
 ·rename_i ts e
  obtain ⟨a,vs,rfl,hs,r⟩:=BF ok3 rx3 e
  exact .inl ⟨a,vs,rfl,hs,fun p hp=>s3 _ _ (.ref p) (Cj ok3 hp) (Ma ok3 hp (LD r))⟩
 ·split at s3
  ·rename_i ts _
   obtain ⟨a,vs,rfl,hs,r⟩:=Cy (ts:=ts) rx3 rfl
   by_cases hw:HT.sIx ts.length 0 lo'=0/\HT.sIx ts.length ts.length hi'=ts.length
   ·refine .inr (.inr ⟨a,vs,rfl,hs,by rw [r.len];exact hw,s3 F3 H3 _ Le.refl (RR.of ok3 ?_)⟩)
    have e:RT ts lo' hi'=ts:=by
     unfold RT
     rw [hw.1,hw.2]
     simp
    rw [e]
    exact rx3
   ·exact .inr (.inl ⟨a,vs,rfl,hs,by rw [r.len];exact hw,fun p hp=>s3 _ _ (.ref p) (Cj ok3 hp) (Ff ok3 hp (LD r))⟩)
  ·exact s3.elim
end
def tyT:T->Option String
 | .non=>some "NoneType"
 | .bl _=>some "bool"
 | .int _=>some "int"
 | .str _=>some "str"
 | .tup _=>some "tuple"
 | .lst _=>some "list"
 | .dT _ _=>some "dict"
 | _=>none
def Gg:List String:=["NoneType","bool","int","str","tuple","list","dict"]
def Hf (t T:String):Bool:=t == T || (t == "bool" && T == "int")
def Kit (K:Fg) (T:String):Prop:=∀ t,t∈Gg->PySem.W.kitOne K (.type t) (.type T)=some (Hf t T)
theorem Q9 {K:Fg} {F:Wd} {H:Hp} {t:T} {u:V} {n:String} (r:AQ K F H t u) (e:tyT t=some n):LQ K H u (.type n)/\n∈Gg:=by
 cases t <;> simp only [tyT,Option.some.injEq,reduceCtorEq] at e <;> (try subst e) <;> (try simp only [AQ] at r)
 ·subst r;exact ⟨.non,by decide⟩
 ·subst r;exact ⟨.bl _,by decide⟩
 ·subst r;exact ⟨.int _,by decide⟩
 ·subst r;exact ⟨.str _,by decide⟩
 ·obtain ⟨a,vs,rfl,hs,_⟩:=r;exact ⟨.tup hs.2.2,by decide⟩
 ·obtain ⟨a,vs,rfl,f,hs,_⟩:=r;exact ⟨.lst hs,by decide⟩
 ·obtain ⟨a,kvs,rfl,f,hs,_⟩:=r;exact ⟨.dT hs,by decide⟩
def isF (T:String) (f:FS->Out Rv):FS->Out Rv:=fun fs=>(f fs).bnd fun r fs=>match r with
 | .t t=>match tyT t with
  | some n=>.ok (.t (.bl (Hf n T))) fs
  | none=>.bad
 | _=>.bad
theorem JC {X:Cx} {Z:Xp} {a:Expr} {f:FS->Out Rv} {p p2 pos:Pos} {x:Str} {T:String} (k:Kit X.K T) (hb:bootBuiltins x=some (.type T)) (hm:X.mg "isinstance"=none) (hm2:X.mg x=none) (ha:FE X Z a f) (hg:Gl X "isinstance":=by rfl) (hg2:Gl X x:=by rfl)
  (hn:x≠"__name__":=by decide) (hdb:(x == ("__debug__":Str))=false:=by decide)
  (hs:starEach [a,.Name x p2] X.env=(false,eval a X.env) :: starEach [.Name x p2] X.env:=by rfl) (hs2:starEach [.Name x p2] X.env=[(false,eval (.Name x p2) X.env)]:=by rfl) (hpl:(backTo pos (starEach [.Name x p2] X.env)).any (·.1)=false:=by rfl) :
  FE X Z (.Call (.Name "isinstance" p) [a,.Name x p2] [] pos) (isF T f):=by
 refine Bi (EV (Ha T) hg hm PyProof.Rows.boot_isinstance (Dc ha (Dc (Kc (v:=.ty T) hg2 hm2 hb rfl hn hdb) Gr hs2) hs) (by decide) (by decide) hs hpl) fun σ H Q ⟨F,B,fs,ok,s⟩=>?_
 refine ⟨F,B,fs,ok,A2 s fun r fs1 F1 H1 u l1 ok1 rx s1=>?_⟩
 split at s1
 ·rename_i t
  split at s1
  ·rename_i n e
   obtain ⟨ty,mem⟩:=Q9 rx e
   exact ⟨u,_,_,rfl,ty,k n mem,s1 F1 H1 _ Le.refl (RR.of ok1 rfl)⟩
  ·exact s1.elim
 ·exact s1.elim
section
variable {K:Fg}
theorem SX:Kit K "str":=fun t h=>by simp only [Gg,List.mem_cons,List.not_mem_nil,or_false] at h;rcases h with rfl | rfl | rfl | rfl | rfl | rfl | rfl <;> rfl
theorem Qo:Kit K "list":=fun t h=>by simp only [Gg,List.mem_cons,List.not_mem_nil,or_false] at h;rcases h with rfl | rfl | rfl | rfl | rfl | rfl | rfl <;> rfl
theorem kit_tuple:Kit K "tuple":=fun t h=>by simp only [Gg,List.mem_cons,List.not_mem_nil,or_false] at h;rcases h with rfl | rfl | rfl | rfl | rfl | rfl | rfl <;> rfl
end
section
variable {X:Cx} {Z:Xp} {o e f:Expr} {fo fk fd:FS->Out Rv} {apos cpos:Pos}
end
def isG (T:String) (f:FS->Out Rv):FS->Out Rv:=fun fs=>(f fs).bnd fun r fs=>match r with
 | .t t=>match tyT t with
  | some n=>.ok (.t (.bl (Hf n T))) fs
  | none=>.bad
 | .rf i=>match A1 fs i with
  | some (.lst _)=>.ok (.t (.bl (Hf "list" T))) fs
  | _=>.bad
 | _=>.bad
theorem MA {X:Cx} {Z:Xp} {a:Expr} {f:FS->Out Rv} {p p2 pos:Pos} {x:Str} {T:String} (k:Kit X.K T) (hb:bootBuiltins x=some (.type T)) (hm:X.mg "isinstance"=none) (hm2:X.mg x=none) (ha:FE X Z a f) (hg:Gl X "isinstance":=by rfl) (hg2:Gl X x:=by rfl)
  (hn:x≠"__name__":=by decide) (hdb:(x == ("__debug__":Str))=false:=by decide)
  (hs:starEach [a,.Name x p2] X.env=(false,eval a X.env) :: starEach [.Name x p2] X.env:=by rfl) (hs2:starEach [.Name x p2] X.env=[(false,eval (.Name x p2) X.env)]:=by rfl) (hpl:(backTo pos (starEach [.Name x p2] X.env)).any (·.1)=false:=by rfl) :
  FE X Z (.Call (.Name "isinstance" p) [a,.Name x p2] [] pos) (isG T f):=by
 refine Bi (EV (Ha T) hg hm PyProof.Rows.boot_isinstance (Dc ha (Dc (Kc (v:=.ty T) hg2 hm2 hb rfl hn hdb) Gr hs2) hs) (by decide) (by decide) hs hpl) fun σ H Q ⟨F,B,fs,ok,s⟩=>?_
 refine ⟨F,B,fs,ok,A2 s fun r fs1 F1 H1 u l1 ok1 rx s1=>?_⟩
 split at s1
 ·rename_i t
  split at s1
  ·rename_i n e
   obtain ⟨ty,mem⟩:=Q9 rx e
   exact ⟨u,_,_,rfl,ty,k n mem,s1 F1 H1 _ Le.refl (RR.of ok1 rfl)⟩
  ·exact s1.elim
 ·rename_i i
  have e2:σ[i]?=some (some u):=rx
  split at s1
  ·rename_i eo
   obtain ⟨v,L2,e1,q,_⟩:=ok1.own eo
   rw [e1] at e2
   have e3:v=u:=by simpa using e2
   subst e3
   simp only [AK] at q
   obtain ⟨a',vs,rfl,hd,_⟩:=q
   exact ⟨.ref a',_,_,rfl,.lst hd,k "list" (by decide),s1 F1 H1 _ Le.refl (RR.of ok1 rfl)⟩
  ·exact s1.elim
 ·exact s1.elim
def Gh:T->Option (List T)
 | .tup ts=>some ts
 | _=>none
theorem Pn {t:T} {ts:List T} (e:Gh t=some ts):t=.tup ts:=by
 cases t <;> first | (cases e;rfl) | cases e
def Ly (f:T->T->Option Bool):List T->List T->Option Bool
 | x :: xs,y :: ys=>(f x y).bind fun b=>(Ly f xs ys).map (b && ·)
 | _,_=>some true
def eqT:Nat->T->T->Option Bool
 | 0,x,y=>(plV x).bind fun u=>(plV y).map (eqV u)
 | n+1,x,y=>match Gh x with
  | some xs=>match Gh y with
   | some ys=>(Ly (eqT n) xs ys).map (· && xs.length == ys.length)
   | none=>(plV y).map fun _=>false
  | none=>match Gh y with
   | some _=>(plV x).map fun _=>false
   | none=>(plV x).bind fun u=>(plV y).map (eqV u)
def eAt (f:T->T->Option Bool) (xs ys:List T) (j:Nat):Bool:=(f (xs.getD j .non) (ys.getD j .non)).getD false
theorem C4 {f:T->T->Option Bool}:∀ {xs ys:List T} {b:Bool},Ly f xs ys=some b->b=(List.range (min xs.length ys.length)).all (eAt f xs ys)
 | [],_,_,e=>by cases e;simp
 | _ :: _,[],_,e=>by cases e;simp
 | x :: xs,y :: ys,b,e=>by
  simp only [Ly,Option.bind_eq_some_iff,Option.map_eq_some_iff] at e
  obtain ⟨c,e1,d,e2,rfl⟩:=e
  have ih:=C4 e2
  rw [List.length_cons,List.length_cons,Nat.succ_min_succ,List.range_succ_eq_map,List.all_cons,List.all_map,ih]
  have h0:eAt f (x :: xs) (y :: ys) 0=c:=by simp [eAt,e1]
  rw [h0]
  congr 1
theorem Kx {f:T->T->Option Bool}:∀ {xs ys:List T} {b:Bool},Ly f xs ys=some b->∀ (j:Nat) (x y:T),xs[j]?=some x->ys[j]?=some y->f x y=some (eAt f xs ys j)
 | [],_,_,e=>by intro j x y h;simp at h
 | _ :: _,[],_,e=>by intro j x y _ h;simp at h
 | x :: xs,y :: ys,b,e=>by
  simp only [Ly,Option.bind_eq_some_iff,Option.map_eq_some_iff] at e
  obtain ⟨c,e1,d,e2,rfl⟩:=e
  intro j x' y' h1 h2
  cases j with
  | zero =>
   simp only [List.getElem?_cons_zero,Option.some.injEq] at h1 h2
   subst h1 h2
   simp [eAt,e1]
  | succ j =>
   rw [List.getElem?_cons_succ] at h1 h2
   have:=Kx e2 _ _ _ h1 h2
   rw [this]
   simp [eAt]
theorem QJ {v:V} (h:Fq v=true):eqV v v=true:=by
 cases v <;> first | rfl | (simp [eqV];done) | (simp [Fq] at h)
theorem Rm {K:Fg} {F:Wd} {H:Hp} {x y:T} {v:V} {b:Bool} (rx:AQ K F H x v) (ry:AQ K F H y v) (e:((plV x).bind fun u=>(plV y).map (eqV u))=some b):b=true:=by
 simp only [Option.bind_eq_some_iff,Option.map_eq_some_iff] at e
 obtain ⟨u,e1,w,e2,rfl⟩:=e
 have h1:=Cz e1 rx
 have h2:=Cz e2 ry
 subst h1 h2
 exact QJ (Dm e1)
theorem Jk {K:Fg} {F:Wd} {H:Hp} {x:T} {v u:V} {a:Addr} (e:plV x=some u) (r:AQ K F H x v):v≠.ref a:=by
 have h1:=Cz e r
 subst h1
 have:=Dm e
 intro h
 subst h
 cases this
theorem DC {K:Fg} {F:Wd} {H:Hp} {t:T} {ts:List T} {v:V} (e:Gh t=some ts) (r:AQ K F H t v):∃ a vs,v=.ref a/\StT K F H a vs/\Ad K F H ts vs:=by
 cases Pn e
 simpa only [AQ] using r
theorem Lz {K:Fg} {F:Wd} {H:Hp}:∀ {n:Nat} {x y:T} {v:V} {b:Bool},eqT n x y=some b->AQ K F H x v->AQ K F H y v->b=true
 | 0,x,y,v,b,e,rx,ry=>Rm rx ry e
 | n+1,x,y,v,b,e,rx,ry=>by
  unfold eqT at e
  cases e1:Gh x with
  | none =>
   rw [e1] at e
   cases e2:Gh y with
   | none=>rw [e2] at e;exact Rm rx ry e
   | some ys =>
    rw [e2] at e
    obtain ⟨a,vs,rfl,_⟩:=DC e2 ry
    obtain ⟨u,e3,_⟩:=Option.map_eq_some_iff.mp e
    exact absurd rfl (Jk e3 rx)
  | some xs =>
   rw [e1] at e
   obtain ⟨a,vs,rfl,sx,rxs⟩:=DC e1 rx
   cases e2:Gh y with
   | none =>
    rw [e2] at e
    obtain ⟨u,e3,_⟩:=Option.map_eq_some_iff.mp e
    exact absurd rfl (Jk e3 ry)
   | some ys =>
    rw [e2] at e
    obtain ⟨a',vs',ea,sy,rys⟩:=DC e2 ry
    cases ea
    have hv:vs=vs':=by
     have:=sx.2.2.symm.trans sy.2.2
     injection this with this
     injection this
    subst hv
    obtain ⟨c,e3,rfl⟩:=Option.map_eq_some_iff.mp e
    have hl:xs.length=ys.length:=by rw [<- rxs.len,<- rys.len]
    rw [Bool.and_eq_true]
    refine ⟨?_,by simp [hl]⟩
    rw [C4 e3,List.all_eq_true]
    intro j hj
    rw [List.mem_range] at hj
    have h1:j < xs.length:=by omega
    have h2:j < ys.length:=by omega
    have g1:xs[j]?=some xs[j]:=List.getElem?_eq_getElem h1
    have g2:ys[j]?=some ys[j]:=List.getElem?_eq_getElem h2
    obtain ⟨v1,q1,r1⟩:=rxs.at g1
    obtain ⟨v2,q2,r2⟩:=rys.at g2
    have:v1=v2:=by rw [q1] at q2;injection q2
    subst this
    exact Lz (Kx e3 _ _ _ g1 g2) r1 r2
section
variable {X:Cx} {pins:List (Addr×Obj)} {σ:St} {H:Hp} {s:Shared} {F:Wd}
theorem Lu {A:Around} {l:Addr} {items:Array Value} {y:V} {u:Value} (hl:s.heap.IsTuple l items) (hu:A.units < cLine) (ry:RelV y u) (fy:Fq y=true) :
  SeqAt.EqAt A s (.ref l) u false/\SeqAt.EqAt A s u (.ref l) false/\SeqAt.RcAt A s (.ref l) u false/\SeqAt.RcAt A s u (.ref l) false:=by
 cases y with
 | non=>cases ry;exact ⟨.tuple_none hl hu,.none_tuple hl hu,.tuple_none hl hu,.none_tuple hl hu⟩
 | bl b=>cases ry;exact ⟨.tuple_bool _ hl hu,.bool_tuple _ hl hu,.tuple_bool _ hl hu,.bool_tuple _ hl hu⟩
 | int b=>obtain ⟨t,rfl⟩:=ry;exact ⟨.tuple_int _ _ hl hu,.int_tuple _ _ hl hu,.tuple_int _ _ hl hu,.int_tuple _ _ hl hu⟩
 | str b=>obtain ⟨t,rfl⟩:=ry;exact ⟨.tuple_str _ _ hl hu,.str_tuple _ _ hl hu,.tuple_str _ _ hl hu,.str_tuple _ _ hl hu⟩
 | _=>cases fy
theorem K6 {A:Around} {x y:T} {v w:V} {u u':Value} {b:Bool} (rx:AQ X.K F H x v) (ry:AQ X.K F H y w) (qx:RelV v u) (qy:RelV w u') (e:((plV x).bind fun u=>(plV y).map (eqV u))=some b):SeqAt.EqAt A s u u' b:=by
 simp only [Option.bind_eq_some_iff,Option.map_eq_some_iff] at e
 obtain ⟨p,e1,q,e2,rfl⟩:=e
 have h1:=Cz e1 rx
 have h2:=Cz e2 ry
 subst h1 h2
 exact RO qx qy (Dm e1) (Dm e2)
theorem items_eqAt {A:Around} {xs ys:List T} {vs ws:List V} {us us':List Value} {f:T->T->Option Bool} {b:Bool} (e:Ly f xs ys=some b) (rx:Ad X.K F H xs vs) (ry:Ad X.K F H ys ws) (qx:Vals vs us) (qy:Vals ws us')
  (ih:∀ {x y:T} {v w:V} {u u':Value} {b:Bool},f x y=some b->AQ X.K F H x v->AQ X.K F H y w->RelV v u->RelV w u'->SeqAt.EqAt A s u u' b) :
  ∀ j (h1:j < us.toArray.size) (h2:j < us'.toArray.size),SeqAt.EqAt A s us.toArray[j] us'.toArray[j] (eAt f xs ys j):=by
 intro j h1 h2
 have l1:=rx.len
 have l2:=ry.len
 have l3:=qx.length
 have l4:=qy.length
 rw [List.size_toArray] at h1 h2
 have g1:xs[j]?=some (xs[j]'(by omega)):=List.getElem?_eq_getElem (by omega)
 have g2:ys[j]?=some (ys[j]'(by omega)):=List.getElem?_eq_getElem (by omega)
 obtain ⟨v,q1,r1⟩:=rx.at g1
 obtain ⟨w,q2,r2⟩:=ry.at g2
 obtain ⟨u,p1,o1⟩:=qx.get q1
 obtain ⟨u',p2,o2⟩:=qy.get q2
 rw [List.getElem?_eq_getElem h1] at p1
 rw [List.getElem?_eq_getElem h2] at p2
 injection p1 with p1
 injection p2 with p2
 rw [show us.toArray[j]=us[j] by simp,show us'.toArray[j]=us'[j] by simp,p1,p2]
 exact ih (Kx e _ _ _ g1 g2) r1 r2 o1 o2
theorem OD (I:Inv X pins σ H s):∀ {n:Nat} {A:Around} {x y:T} {v w:V} {u u':Value} {b:Bool},A.units+n < cLine->eqT n x y=some b->AQ X.K F H x v->AQ X.K F H y w->RelV v u->RelV w u'->SeqAt.EqAt A s u u' b
 | 0,A,x,y,v,w,u,u',b,hu,e,rx,ry,qx,qy=>K6 rx ry qx qy e
 | n+1,A,x,y,v,w,u,u',b,hu,e,rx,ry,qx,qy=>by
  have e0:=e
  unfold eqT at e
  cases e1:Gh x with
  | none =>
   rw [e1] at e
   cases e2:Gh y with
   | none=>rw [e2] at e;exact K6 rx ry qx qy e
   | some ys =>
    rw [e2] at e
    obtain ⟨a,vs,rfl,st,_⟩:=DC e2 ry
    obtain ⟨p,e3,rfl⟩:=Option.map_eq_some_iff.mp e
    have h1:=Cz e3 rx
    subst h1
    cases qy
    obtain ⟨its,_,ht,_⟩:=I.tuple st.sq
    exact (Lu ht (by omega) qx (Dm e3)).2.1
  | some xs =>
   rw [e1] at e
   obtain ⟨a,vs,rfl,sx,rxs⟩:=DC e1 rx
   cases qx
   obtain ⟨its,vx,ht,_⟩:=I.tuple sx.sq
   cases e2:Gh y with
   | none =>
    rw [e2] at e
    obtain ⟨p,e3,rfl⟩:=Option.map_eq_some_iff.mp e
    have h1:=Cz e3 ry
    subst h1
    exact (Lu ht (by omega) qy (Dm e3)).1
   | some ys =>
    rw [e2] at e
    obtain ⟨a',vs',rfl,sy,rys⟩:=DC e2 ry
    cases qy
    obtain ⟨its',vx',ht',_⟩:=I.tuple sy.sq
    by_cases hab:a=a'
    ·subst hab
     rw [Lz e0 rx ry]
     exact SeqAt.EqAt.same _
    ·obtain ⟨c,e3,rfl⟩:=Option.map_eq_some_iff.mp e
     have l1:its.length=xs.length:=by rw [<- vx.length,rxs.len]
     have l2:its'.length=ys.length:=by rw [<- vx'.length,rys.len]
     have:=SeqAt.RcAt.tuples ht ht' (A:=A) (by omega) (items_eqAt e3 rxs rys vx vx' (fun h r1 r2 o1 o2=>OD I (n:=n) (A:=A.in1) (by show A.units+1+n < _;omega) h r1 r2 o1 o2))
     rw [List.size_toArray,List.size_toArray,l1,l2,<- C4 e3] at this
     exact SeqAt.EqAt.of_refs hab this
end
def eqB (neg:Bool) (xs ys:List T) (fs:FS):Out Rv:=match Ly (eqT 60) xs ys with
 | some b=>okT (.bl (if neg then !(b && xs.length == ys.length) else (b && xs.length == ys.length))) fs
 | none=>.bad
def Mv (neg:Bool):Rv->Rv->FS->Out Rv:=fun x y fs=>match MU x with
 | some xs=>match MU y with
  | some ys=>eqB neg xs ys fs
  | none=>.bad
 | none=>match C6 fs x with
  | some xs=>match C6 fs y with
   | some ys=>eqB neg xs ys fs
   | none=>.bad
  | none=>.bad
def EqS (X:Cx) (neg:Bool) (H:Hp) (x y:V) (b:Bool):Prop:=∀ (pins:List (Addr×Obj)) (σ:St) (s:Shared) (u w:Value),Inv X pins σ H s->RelV x u->RelV y w ->
 if neg then SeqAt.RcNeAt X.A s u w (!b) else SeqAt.RcAt X.A s u w b
def Wi (X:Cx) (neg:Bool):R2:=fun x y H Q=>∃ b,EqS X neg H x y b/\Q (.bl (if neg then !b else b)) H
theorem UX {X:Cx}:OpR X (compareOp .Eq) (Wi X false):=by
 intro pins s σ H x y v u Q I rx ry h
 obtain ⟨b,e,q⟩:=h
 have e:SeqAt.RcAt X.A s v u b:=e pins σ s v u I rx ry
 exact e X.prog X.w X.xe _ ⟨.bl b,H,I,rfl,q⟩
theorem UU {X:Cx}:OpR X (compareOp .NotEq) (Wi X true):=by
 intro pins s σ H x y v u Q I rx ry h
 obtain ⟨b,e,q⟩:=h
 have e:SeqAt.RcNeAt X.A s v u (!b):=e pins σ s v u I rx ry
 exact e X.prog X.w X.xe _ ⟨.bl (!b),H,I,rfl,q⟩
theorem TB {X:Cx} {neg:Bool} {F:Wd} {H:Hp} {a a':Addr} {xs ys:List T} {vs ws:List V} {b:Bool} (hu:X.A.units+61 < cLine) (e:Ly (eqT 60) xs ys=some b) (sx:SqT X.K H a vs) (sy:SqT X.K H a' ws) (rx:Ad X.K F H xs vs) (ry:Ad X.K F H ys ws) :
  EqS X neg H (.ref a) (.ref a') (b && xs.length == ys.length):=by
 intro pins σ s u w I qx qy
 cases qx
 cases qy
 obtain ⟨its,vx,ht,_⟩:=I.tuple sx
 obtain ⟨its',vx',ht',_⟩:=I.tuple sy
 have l1:its.length=xs.length:=by rw [<- vx.length,rx.len]
 have l2:its'.length=ys.length:=by rw [<- vx'.length,ry.len]
 have he:=items_eqAt (s:=s) (A:=X.A.in1) e rx ry vx vx' (fun h r1 r2 o1 o2=>OD I (n:=60) (A:=X.A.in1) (by show X.A.units+1+60 < _;omega) h r1 r2 o1 o2)
 cases neg with
 | false =>
  have:=SeqAt.RcAt.tuples ht ht' (A:=X.A) (by omega) he
  rw [List.size_toArray,List.size_toArray,l1,l2,<- C4 e] at this
  exact this
 | true =>
  have:=SeqAt.RcNeAt.tuples ht ht' (A:=X.A) (by omega) he
  rw [List.size_toArray,List.size_toArray,l1,l2,<- C4 e] at this
  exact this
theorem TC {X:Cx} {neg:Bool} {F:Wd} {H:Hp} {a a':Addr} {xs ys:List T} {vs ws:List V} {b:Bool} (hu:X.A.units+61 < cLine) (e:Ly (eqT 60) xs ys=some b) (sx:SqL X.K H a vs) (sy:SqL X.K H a' ws) (rx:Ad X.K F H xs vs) (ry:Ad X.K F H ys ws) :
  EqS X neg H (.ref a) (.ref a') (b && xs.length == ys.length):=by
 intro pins σ s u w I qx qy
 cases qx
 cases qy
 obtain ⟨its,vx,ht,_⟩:=I.list sx
 obtain ⟨its',vx',ht',_⟩:=I.list sy
 have l1:its.length=xs.length:=by rw [<- vx.length,rx.len]
 have l2:its'.length=ys.length:=by rw [<- vx'.length,ry.len]
 have he:=items_eqAt (s:=s) (A:=X.A.in1) e rx ry vx vx' (fun h r1 r2 o1 o2=>OD I (n:=60) (A:=X.A.in1) (by show X.A.units+1+60 < _;omega) h r1 r2 o1 o2)
 by_cases hl:xs.length=ys.length
 ·have hs:its.toArray.size=its'.toArray.size:=by rw [List.size_toArray,List.size_toArray];omega
  have hb:(b && xs.length == ys.length)=(List.range its.toArray.size).all (eAt (eqT 60) xs ys):=by
   rw [C4 e,hl,Nat.min_self,List.size_toArray,l1,hl]
   simp
  rw [hb]
  cases neg with
  | false=>exact SeqAt.RcAt.lists ht.isList ht'.isList hs (A:=X.A) (by omega) he
  | true=>exact SeqAt.RcNeAt.lists ht.isList ht'.isList hs (A:=X.A) (by omega) he
 ·have hs:(its.toArray.size != its'.toArray.size)=true:=by rw [List.size_toArray,List.size_toArray,bne_iff_ne];omega
  have hb:(b && xs.length == ys.length)=false:=by simp [hl]
  rw [hb]
  cases neg with
  | false=>exact SeqAt.RcAt.lists_lengths ht.isList ht'.isList hs (A:=X.A) (by omega)
  | true=>exact SeqAt.RcNeAt.lists_lengths ht.isList ht'.isList hs (A:=X.A) (by omega)
theorem Ry {X:Cx} {Z:Xp} (neg:Bool) (hu:X.A.units+61 < cLine):OpF X.K Z (Wi X neg) (Mv neg):=by
 intro F B H σ fs x y u w Q ok rx ry s
 unfold Mv at s
 cases e1:MU x with
 | some xs =>
  rw [e1] at s
  cases e2:MU y with
  | none=>rw [e2] at s;exact s.elim
  | some ys =>
   rw [e2] at s
   obtain ⟨a,vs,rfl,sx,r1⟩:=Cy rx e1
   obtain ⟨a',ws,rfl,sy,r2⟩:=Cy ry e2
   simp only [eqB] at s
   cases e3:Ly (eqT 60) xs ys with
   | none=>rw [e3] at s;exact s.elim
   | some b =>
    rw [e3] at s
    exact ⟨_,TB hu e3 sx sy r1 r2,s F H _ Le.refl (RR.of ok rfl)⟩
 | none =>
  rw [e1] at s
  cases e2:C6 fs x with
  | none=>rw [e2] at s;exact s.elim
  | some xs =>
   rw [e2] at s
   cases e3:C6 fs y with
   | none=>rw [e3] at s;exact s.elim
   | some ys =>
    rw [e3] at s
    obtain ⟨a,vs,rfl,sx,r1⟩:=BF ok rx e2
    obtain ⟨a',ws,rfl,sy,r2⟩:=BF ok ry e3
    simp only [eqB] at s
    cases e4:Ly (eqT 60) xs ys with
    | none=>rw [e4] at s;exact s.elim
    | some b =>
     rw [e4] at s
     exact ⟨_,TC hu e4 sx sy r1 r2,s F H _ Le.refl (RR.of ok rfl)⟩
section
variable {X:Cx} {Z:Xp} {a b:Expr} {fa fb:FS->Out Rv} {pos:Pos}
end
section
variable {X:Cx} {Z:Xp} {a b:Expr} {fa fb:FS->Out Rv} {pos:Pos}
end
section
variable {X:Cx} {Z:Xp} {a b:Expr} {fa fb:FS->Out Rv} {pos:Pos}
end
theorem VV {A:Around} {k:Nat} (hr:Eh k A):A.units+61 < cLine:=by have:=hr.units;omega
section
variable {X:Cx} {Z:Xp} {a b:Expr} {fa fb:FS->Out Rv} {pos:Pos}
end
section
variable {K:Fg} {Z:Xp}
end
section
variable {X:Cx} {Z:Xp} {a:Expr} {f:FS->Out Rv} {fa:FS->Out (List Rv)} {p p1 p2 pos pos1 pos2:Pos}
end
def EZ (K:Fg) (Z:Xp):XE:=fun cv σ H=>∃ F B fs c C,DJ K c=some C/\cv=.ref C/\Okk K F B H fs σ/\Z.p F B H c fs
def Lks (X:Cx) (Z:Xp):Prop:=Lk X (EZ X.K Z)
structure LkD (X:Cx) (Z:Xp):Prop where
 d:Pe X
 k:∀ e s,XW X (EZ X.K Z) e s->X.xe e s
 own:PassesOwn (model X.prog X.w) X.A X.env X.xe
theorem LkD.lk {X:Cx} {Z:Xp} (l:LkD X Z):Lks X Z:=Lk.of l.d.ex l.k
def Zd (K:Fg) (E:XK):Xp:=⟨fun F B H c fs=>∀ C,DJ K c=some C->∀ F' H' σ',Le F H F' H'->Okk K F' B H' fs σ'->E (.ref C) none H',fun h l C hC F' H' σ' l' k=>h C hC F' H' σ' (l.trans l') k⟩
def spX (K:Fg) (p:Nat) (Fn:FS->Out Rv):Sp:=fun vs H Q E=>vs.length=p/\∃ F fs0,Okk K F (Bof (vs.map some)) H fs0 (vs.map some)/\match Fn fs0 with
 | .ok r τ=>∀ F' H' u σ',Le F H F' H'->RR K (Bof (vs.map some)) σ' F' H' τ r u->Q u H'
 | .exc c τ=>∀ C,DJ K c=some C->∀ F' H' σ',Le F H F' H'->Okk K F' (Bof (vs.map some)) H' τ σ'->E (.ref C) none H'
 | .bad=>False
def GS0 (X:Cx) (Z:Xp) (st:Stmt) (g:FS->SO):Prop:=PS0 X st (tSt X.K Z g)
def V5 (X:Cx) (Z:Xp) (sts:List Stmt) (g:FS->SO):Prop:=Q3 X sts (tSt X.K Z g)
section
variable {X:Cx} {Z:Xp} {st:Stmt} {rest:List Stmt} {g h:FS->SO}
theorem GS.zero (q:GS X Z st g):GS0 X Z st g:=PS.zero q
theorem GSs.zero (q:GSs X Z rest g):V5 X Z rest g:=PSs.zero q
theorem Jw (h1:GS0 X Z st g) (h2:V5 X Z rest h):V5 X Z (st :: rest) (AN g h):=by
 intro s0 σ H D I q
 refine M6 h1 h2 s0 σ H D I ?_
 obtain ⟨F,B,fs,ok,s⟩:=q
 refine ⟨F,B,fs,ok,?_⟩
 unfold AN at s
 cases e:g fs with
 | nx fs1 =>
  rw [e] at s
  exact fun F1 H1 σ1 l k=>⟨F1,B,fs1,k,Hg.le s l⟩
 | ret r fs1=>rw [e] at s;exact s
 | brk fs1=>rw [e] at s;exact s
 | cnt fs1=>rw [e] at s;exact s
 | exc c fs1=>rw [e] at s;exact s
 | bad=>rw [e] at s;exact s
end
section
variable {P:Program} {w:World} {K:Fg} {mg:Str->Option Value} {base:Heap}
theorem Cb {x qual:Str} {st:Stmt} {f:Addr} {fd:FuncData} {N ps:List Str} {k:Nat} {g:FS->SO} (Fu:Fun K x qual st f fd) (S:Bb N ps (Ao st)) (p n:Nat) (hp:ps.length=p) (hn:N.length=p+n)
  (hb:∀ cdv (A:Around) outer (s:Shared) H E E' (Z:Xp),Eh k (A.deeper (PyProof.Rows.envOfC qual (Ao st) s.heap.objs.size f cdv))->LkD ((MC (CX1 P w) P w K mg base N qual (Ao st) f cdv A outer s H E).Ge E') Z ->
   V5 ((MC (CX1 P w) P w K mg base N qual (Ao st) f cdv A outer s H E).Ge E') Z (A0 st) g):DL P w K mg base (CX1 P w) (k+1) f fd ps (spX K p (Dk n g)):=by
 refine Fu.ok0 S (fun vs H Q E h=>by rw [h.1,hp]) (fun cdv A outer s H vs Q E hr h=>⟨_,hb cdv A outer s H E _ (Zd K E) hr ⟨⟨rfl,rfl,rfl,rfl⟩,fun e s q=>?_,XW.own VE⟩,?_⟩)
 ·refine XW.imp (XW.Ge q) fun c σ H z=>?_
  obtain ⟨F,B,fs,c,C,hC,rfl,ok,z⟩:=z
  exact z C hC F H σ Le.refl ok
 obtain ⟨hl,F,fs0,⟨L,ok⟩,h⟩:=h
 have hfl:fs0.length=p:=by rw [<- ok.sl.len,List.length_map];exact hl
 have es:L2.start N vs=vs.map some++List.replicate n none:=by
  unfold L2.start
  rw [hl,hn,Nat.add_sub_cancel_left]
 rw [es]
 refine ⟨F,Bof (vs.map some),fs0++List.replicate n none,⟨L,ok.more n⟩,?_⟩
 unfold Dk at h
 cases e:g (fs0++List.replicate n none) with
 | nx τ =>
  rw [e] at h
  intro F' H' σ' l k
  exact h F' H' .non (σ'.take fs0.length) l (RR.take (RR.of (r:=.t .non) k rfl) _ (fun i z=>nomatch z))
 | ret r τ =>
  rw [e] at h
  intro F' H' σ' u l k
  cases r with
  | t t=>exact h F' H' u (σ'.take fs0.length) l (RR.take k _ (fun i z=>nomatch z))
  | nw o=>exact h F' H' u (σ'.take fs0.length) l (RR.take k _ (fun i z=>nomatch z))
  | rf i =>
   dsimp only at h
   split at h
   ·rename_i r' τ' e2
    split at e2
    ·rename_i o eo
     cases e2
     exact h F' H' u (σ'.take fs0.length) l (RR.take (RR.mv k eo) _ (fun i z=>nomatch z))
    ·cases e2
   ·rename_i c τ' e2
    split at e2
    ·cases e2
    ·cases e2
   ·exact h.elim
 | brk τ=>rw [e] at h;exact h.elim
 | cnt τ=>rw [e] at h;exact h.elim
 | exc c τ =>
  rw [e] at h
  intro C hC F' H' σ' l k
  exact h C hC F' H' (σ'.take fs0.length) l (RR.take (RR.of (r:=.t .non) k rfl) _ (fun i z=>nomatch z)).ok
 | bad=>rw [e] at h;exact h.elim
end
def FF (Fn:FS->Out Rv) (rs:List Rv) (fs:FS):Out Rv :=
 if (CN fs (rs.map Bx)).Nodup then (match Fn (De fs (rs.map Bx)) with
  | .ok (.t t) τ=>(match D3 (rs.map Bx) τ fs with
   | some fs'=>.ok (.t t) fs'
   | none=>.bad)
  | .ok (.nw o) τ=>(match D3 (rs.map Bx) τ fs with
   | some fs'=>.ok (.nw o) fs'
   | none=>.bad)
  | .exc c τ=>(match D3 (rs.map Bx) τ fs with
   | some fs'=>.exc c fs'
   | none=>.bad)
  | _=>.bad) else .bad
def Ay (p:Nat) (Fn:FS->Out Rv):List Rv->FS->Out Rv:=fun rs fs=>if rs.length=p then FF Fn rs fs else .bad
section
variable {K:Fg} {F F':Wd} {H H':Hp} {B:Nat->Option V} {fs:FS} {σ:St} {rs:List Rv} {vs:List V} {Z:Xp} {Q:VK} {Fn:FS->Out Rv}
theorem JM (q:RAn K B σ F H fs rs vs) (s:sat Z B (RR K B σ) F H (FF Fn rs fs) Q):spX K rs.length Fn vs H Q fun c _ H'=>EZ K Z c σ H':=by
 unfold FF at s
 split at s
 ·rename_i nd
  obtain ⟨L9,μ,ok,hμ,hl,hi⟩:=N7 q
  obtain ⟨Pp,p1,p2,p3,p4⟩:=lend ok hl hi nd hμ
  refine ⟨q.len,⟨F.f,Pp⟩,De fs (rs.map Bx),p2,?_⟩
  split at s
  ·rename_i t τ e
   rw [e]
   split at s
   ·rename_i fs' eb
    intro F' H' u σ' l k
    obtain ⟨Li,L',o1,⟨_,r⟩,_⟩:=k
    obtain ⟨le,L,o2,_⟩:=p4 F' H' τ σ' Li fs' l o1 eb
    exact s ⟨F'.f,F.p⟩ H' u le (RR.of ⟨L,o2⟩ (AQ.wp r))
   ·exact s.elim
  ·rename_i o τ e
   rw [e]
   split at s
   ·rename_i fs' eb
    intro F' H' u σ' l k
    obtain ⟨Li,L',o1,r,nd,nf⟩:=k
    obtain ⟨le,L,o2,sub⟩:=p4 F' H' τ σ' Li fs' l o1 eb
    refine s ⟨F'.f,F.p⟩ H' u le ⟨L,L',o2,AK.wp r,?_,fun a m=>⟨(nf a m).1,fun p=>(nf a m).2 (l.p a (p1 a p)).1⟩⟩
    rw [List.nodup_append] at nd ⊢
    refine ⟨o2.nd,nd.2.1,fun a ha b hb e=>?_⟩
    rcases sub a ha with z | z
    ·exact nd.2.2 a z b hb e
    ·exact (nf b hb).2 (l.p b (e▸z)).1
   ·exact s.elim
  ·rename_i c τ e
   rw [e]
   split at s
   ·rename_i fs' eb
    intro C hC F' H' σ' l k
    obtain ⟨Li,o1⟩:=k
    obtain ⟨le,L,o2,_⟩:=p4 F' H' τ σ' Li fs' l o1 eb
    exact ⟨⟨F'.f,F.p⟩,B,fs',c,C,hC,rfl,⟨L,o2⟩,Z.mono s le⟩
   ·exact s.elim
  ·exact s.elim
 ·exact s.elim
end
section
variable {X:Cx} {Z:Xp} {x:Str} {k p:Nat} {ps:List Str} {Fn:FS->Out Rv} {e:Expr} {es:List Expr} {fa:FS->Out (List Rv)} {pp pos np cpos:Pos} {C:Addr}
theorem BI (G:FnAt X.prog X.w X.K X.mg X.base (CX1 X.prog X.w) x k ps (spX X.K p Fn)) (hr:Eh k X.A) (lk:Lks X Z) (ha:FAn X Z (e :: es) fa) (hg:Gl X x:=by rfl) (hdb:(x == ("__debug__":Str))=false:=by decide)
  (he:starEach (e :: es) X.env=(false,eval e X.env) :: starEach es X.env:=by rfl) (hpl:(backTo pos (starEach es X.env)).any (·.1)=false:=by rfl):FE X Z (.Call (.Name x pp) (e :: es) [] pos) (Ar (Ay p Fn) fa):=by
 refine Bi (UQ G hr lk ha hg hdb he hpl) fun σ H Q ⟨F,B,fs,ok,s⟩=>⟨F,B,fs,ok,AU s fun rs fs1 F1 H1 us l q s1=>?_⟩
 unfold Ay at s1
 split at s1
 ·rename_i hp
  rw [<- hp]
  exact JM q s1
 ·exact s1.elim
structure W8 (K:Fg) (mg:Str->Option Value) (x:Str):Prop where
 ex:∃ C,mg x=some (.ref C)/\DJ K x=some C/\PySem.W.excIn K C Ue "ValueError.__new__"=true
def Rc (c:Str) (fa:FS->Out (List Rv)):FS->SO:=fun fs=>SO.of (fa fs) fun rs fs=>if rs.length<=1000 then .exc c fs else .bad
theorem Qv (c:W8 X.K X.mg x) (l:LkD X Z) (hc:X.calm=true) (ha:FA X Z (e :: es) fa) (hg:Gl X x:=by rfl) (hdb:(x == ("__debug__":Str))=false:=by decide)
  (he:starEach (e :: es) X.env=(false,eval e X.env) :: starEach es X.env:=by rfl) (hpl:(backTo cpos (starEach es X.env)).any (·.1)=false:=by rfl) :
  GS X Z (.Raise (some (.Call (.Name x np) (e :: es) [] cpos)) none pos) (Rc x fa):=by
 obtain ⟨C,h1,h2,h3⟩:=c.ex
 refine DF (K4 (C:=C) (Z:=EZ X.K Z) ⟨h1,h3⟩ l.d.ex hc l.k ha hg hdb he hpl) fun D σ H ⟨F,B,fs,ok,s⟩=>⟨F,B,fs,ok,Dv s fun rs fs1 F1 H1 us l q s1=>?_⟩
 split at s1
 ·rename_i hl
  exact ⟨by rw [q.2.len];exact hl,F1,B,fs1,x,C,h2,rfl,q.1,s1⟩
 ·exact s1.elim
end
def T8 (i:Nat) (okc:Str->Bool) (h:FS->SO) (c:Str) (fs:FS):SO:=if okc c=true then (match HZ i (.t (.exn c)) fs with
 | some fs=>(match h fs with
  | .nx fs=>(match fs[i]? with
   | some (some (.val _))=>.nx (fs.set i none)
   | _=>.bad)
  | .ret (.t t) fs=>.ret (.t t) fs
  | _=>.bad)
 | none=>.bad) else .bad
def T7 (i:Nat) (okc:Str->Bool) (g h:FS->SO):FS->SO:=fun fs=>match g fs with
 | .exc c fs=>T8 i okc h c fs
 | o=>o
section
variable {X:Cx} {Z:Xp} {K:Fg} {B:Nat->Option V} {F:Wd} {H:Hp} {σ:St} {fs:FS}
theorem Okk.forget {i:Nat} {t:T} (h:Okk K F B H fs σ) (e:fs[i]?=some (some (.val t))):Okk K F B H (fs.set i none) (σ.set i none):=by
 obtain ⟨L,ok⟩:=h
 obtain ⟨v,L1,L2,L3,e1,rfl,h1,h2⟩:=ok.sl.pick e
 have e2:L2=[]:=by obtain ⟨u,rfl,q,z⟩:=h1;exact z
 subst e2
 exact ⟨L1++([]++L3),h2 F H none none [] Le.refl (fun _ _=>rfl) rfl,ok.nd,ok.nf,ok.fd,Hd.put ok.bo (fun o eo=>by cases eo) ok.sl.len,ok.pd,ok.pf,ok.pl⟩
def XM (K:Fg) (Z:Xp) (i:Nat) (okc:Str->Bool) (h:FS->SO) (D:Ends):Xp:=⟨fun F B H c fs=>Hg K Z B F H (T8 i okc h c fs) D,fun q l=>Hg.le q l⟩
theorem Ta {x n:Str} {C:Addr} {i:Nat} {np pos hpos:Pos} {body suite:List Stmt} {b₀:Stmt} {g h:FS->SO} (okc:Str->Bool) (i:Nat) (l:LkD X Z) (hC:X.mg x=some (.ref C)) (hN:X.N.Nodup) (hk:∀ c C',okc c=true->DJ X.K c=some C'->PySem.W.exmOne X.K (.ref C') (.ref C)=some true)
  (hb:∀ E' Z',LkD (X.Ge E') Z'->GSs (X.Ge E') Z' body g) (hs:∀ a,GSs (X.hand a) Xp.no (b₀ :: suite) h) (hi:X.N[i]?=some n:=by rfl) (hl:X.env.scope.names.lookup n=some .local:=by rfl) (hg:Gl X x:=by rfl) (hdb:(x == ("__debug__":Str))=false:=by decide) :
  GS0 X Z (.Try body [.ExceptHandler (some (.Name x np)) (some n) (b₀ :: suite) hpos] [] [] pos) (T7 i okc g h):=by
 have key:=Sk (X:=X) (C:=C) (x:=x) (n:=n) (i:=i) (np:=np) (pos:=pos) (hpos:=hpos) (body:=body) (b₀:=b₀) (suite:=suite) (th:=tSt X.K Xp.no h) (tb:=fun D=>tSt X.K (XM X.K Z i okc h D) g) l.d hC hN (fun D=>?_) hs hi hl hg hdb
 ·intro s0 σ H D I q
  refine key s0 σ H D I ?_
  obtain ⟨F,B,fs,ok,s⟩:=q
  refine ⟨F,B,fs,ok,?_⟩
  unfold T7 at s
  cases e:g fs with
  | nx fs1=>rw [e] at s;exact s
  | ret r fs1=>rw [e] at s;exact s
  | brk fs1=>rw [e] at s;exact s
  | cnt fs1=>rw [e] at s;exact s
  | exc c fs1=>rw [e] at s;exact s
  | bad=>rw [e] at s;exact s
 ·refine hb _ _ ⟨⟨l.d.pn,l.d.ex,l.d.st,l.d.fr⟩,fun e s q=>XW.imp (XW.Ge q) fun cv σ H z=>?_,XW.own l.d⟩
  obtain ⟨F,B,fs,c,C',hC',rfl,ok,z⟩:=z
  have z:Hg X.K Z B F H (T8 i okc h c fs) D:=z
  unfold T8 at z
  split at z
  ·rename_i hoc
   refine ⟨hk c C' hoc hC',fun a ha=>?_⟩
   split at z
   ·rename_i fs2 e2
    have ok2:Okk X.K (Q2 F a) B (upd H a (exO (.ref C') a)) fs2 (σ.set i (some (.ref a))):=J6 (RR.of (r:=.t (.exn c)) (u:=.ref a) (Okk.alloc ok ha) (by
     simp only [CM,AQ]
     exact ⟨a,C',rfl,.inr rfl,AF,hC'⟩)) e2
    have le2:Le F H (Q2 F a) (upd H a (exO (.ref C') a)):=Cj ok ha
    refine ⟨Q2 F a,B,fs2,ok2,?_⟩
    cases eh:h fs2 with
    | nx fs3 =>
     rw [eh] at z
     dsimp only at z
     split at z
     ·rename_i t et
      exact fun F' H' σ' l k=>z F' H' _ (le2.trans l) (k.forget et)
     ·exact z.elim
    | ret r fs3 =>
     rw [eh] at z
     cases r with
     | t t =>
      intro F' H' σ' u l k
      exact z F' H' σ' u (le2.trans l) k
     | nw o=>exact z.elim
     | rf j=>exact z.elim
    | brk fs3=>rw [eh] at z;exact z.elim
    | cnt fs3=>rw [eh] at z;exact z.elim
    | exc c fs3=>rw [eh] at z;exact z.elim
    | bad=>rw [eh] at z;exact z.elim
   ·exact z.elim
  ·exact z.elim
end
def Tv (K:Fg) (ds:List Str) (tab:Str->Str->Bool) (c:Str):Bool:=match DJ K c with
 | some C=>PySem.W.excIn K C Ue "ValueError.__new__" && (PySem.W.findIn K (.ref C) "__getattribute__" == some (some (.builtin "BaseException.__getattribute__"))) && (PySem.W.findIn K (.ref C) "__getattr__" == some none) &&
  (PySem.W.findIn K (.ref C) "__class__" == some (some (.builtin "object.__class__"))) && (PySem.W.specialIn K (.builtin "object.__class__") "__get__" == some (some (.builtin "getset_descriptor.__get__"))) && (PySem.W.takesIn K (.builtin "object.__class__") == some true) &&
  (PySem.W.mroIn K C (.type "object") == some true) && (PySem.W.mroIn K C (.type "BaseException") == some true) && (PySem.W.clsIn K C).isSome && (PySem.W.kitOne K (.ref C) (.type "ValueError") == some true) &&
  ds.all fun d=>match DJ K d with
   | some D=>(PySem.W.kitOne K (.ref C) (.ref D) == some (tab c d)) && (!tab c d || PySem.W.exmOne K (.ref C) (.ref D) == some true)
   | none=>false
 | none=>false
def Tw (K:Fg) (rs ds:List Str) (tab:Str->Str->Bool):Bool:=rs.all (Tv K ds tab) && ds.all fun d=>(DJ K d).isSome
structure IS (K:Fg) (mg:Str->Option Value) (rs ds:List Str) (tab:Str->Str->Bool):Prop where
 k:∀ c∈rs,∀ C,DJ K c=some C->PySem.W.ExK K C/\(PySem.W.clsIn K C).isSome=true
 own:∀ c∈rs,∀ d∈ds,∀ C D,DJ K c=some C->DJ K d=some D->PySem.W.kitOne K (.ref C) (.ref D)=some (tab c d)/\(tab c d=true->PySem.W.exmOne K (.ref C) (.ref D)=some true)
 ve:∀ c∈rs,∀ C,DJ K c=some C->PySem.W.kitOne K (.ref C) (.type "ValueError")=some true
 at_:∀ c∈rs,∃ C,mg c=some (.ref C)/\DJ K c=some C/\PySem.W.excIn K C Ue "ValueError.__new__"=true
 atd:∀ d∈ds,∃ D,mg d=some (.ref D)/\DJ K d=some D
theorem RV {K:Fg} {h:Heap} {mg:Str->Option Value} {c:Str} {C:Addr} (X:K.In h) (G:h.Ns mainGlobals mg) (e:DJ K c=some C):mg c=some (.ref C):=by
 unfold DJ at e
 split at e
 ·rename_i D q
  cases e
  exact PySem.W.mg_of X G q
 ·cases e
theorem IS.of {K:Fg} {h:Heap} {mg:Str->Option Value} {rs ds:List Str} {tab:Str->Str->Bool} (X:K.In h) (G:h.Ns mainGlobals mg) (e:Tw K rs ds tab=true):IS K mg rs ds tab:=by
 unfold Tw at e
 rw [Bool.and_eq_true] at e
 obtain ⟨e1,e2⟩:=e
 have one:∀ c∈rs,∀ C,DJ K c=some C->PySem.W.excIn K C Ue "ValueError.__new__"=true/\PySem.W.ExK K C/\(PySem.W.clsIn K C).isSome=true/\PySem.W.kitOne K (.ref C) (.type "ValueError")=some true /\
   ∀ d∈ds,∀ D,DJ K d=some D->PySem.W.kitOne K (.ref C) (.ref D)=some (tab c d)/\(tab c d=true->PySem.W.exmOne K (.ref C) (.ref D)=some true):=fun c hc C hC=>by
  have q:=List.all_eq_true.mp e1 c hc
  unfold Tv at q
  rw [hC] at q
  simp only [Bool.and_eq_true,beq_iff_eq] at q
  obtain ⟨⟨⟨⟨⟨⟨⟨⟨⟨⟨q1,q2⟩,q3⟩,q4⟩,q5⟩,q6⟩,q7⟩,q8⟩,q9⟩,q10⟩,q11⟩:=q
  refine ⟨q1,⟨q2,q3,q4,q5,q6,q7,q8⟩,q9,q10,fun d hd D hD=>?_⟩
  have z:=List.all_eq_true.mp q11 d hd
  rw [hD] at z
  simp only [Bool.and_eq_true,beq_iff_eq] at z
  refine ⟨z.1,fun ht=>?_⟩
  have z2:=z.2
  rw [ht] at z2
  simpa using z2
 refine ⟨fun c hc C hC=>⟨(one c hc C hC).2.1,(one c hc C hC).2.2.1⟩,fun c hc d hd C D hC hD=>(one c hc C hC).2.2.2.2 d hd D hD,fun c hc C hC=>(one c hc C hC).2.2.2.1,fun c hc=>?_,fun d hd=>?_⟩
 ·have q:=List.all_eq_true.mp e1 c hc
  unfold Tv at q
  cases hC:DJ K c with
  | none=>rw [hC] at q;cases q
  | some C=>exact ⟨C,RV X G hC,rfl,(one c hc C hC).1⟩
 ·obtain ⟨D,hD⟩:=Option.isSome_iff_exists.mp (List.all_eq_true.mp e2 d hd)
  exact ⟨D,RV X G hD,hD⟩
theorem IS.t1 {K:Fg} {mg:Str->Option Value} {rs ds:List Str} {tab:Str->Str->Bool} (t:IS K mg rs ds tab) {c:Str} (h:c∈rs):W8 K mg c:=⟨t.at_ c h⟩
def isX (cs:List Str) (tab:Str->Str->Bool) (d:Str) (f:FS->Out Rv):FS->Out Rv:=fun fs=>(f fs).bnd fun r fs=>match r with
 | .t (.exn c)=>if cs.contains c=true then okT (.bl (tab c d)) fs else .bad
 | _=>.bad
section
variable {X:Cx} {Z:Xp} {a:Expr} {f:FS->Out Rv} {p p2 pos:Pos} {x:Str} {cs ds:List Str} {tab:Str->Str->Bool}
theorem Dh (t:IS X.K X.mg cs ds tab) (hm:X.mg "isinstance"=none) (hx:x∈ds) (ha:FE X Z a f) (hg:Gl X "isinstance":=by rfl) (hg2:Gl X x:=by rfl) (hdb:(x == ("__debug__":Str))=false:=by decide)
  (hs:starEach [a,.Name x p2] X.env=(false,eval a X.env) :: starEach [.Name x p2] X.env:=by rfl) (hs2:starEach [.Name x p2] X.env=[(false,eval (.Name x p2) X.env)]:=by rfl) (hpl:(backTo pos (starEach [.Name x p2] X.env)).any (·.1)=false:=by rfl) :
  FE X Z (.Call (.Name "isinstance" p) [a,.Name x p2] [] pos) (isX cs tab x f):=by
 obtain ⟨D,h1,h2⟩:=t.atd x hx
 have hD:PE X (.Name x p2) (tC (.ref D)):=fun pins s σ H Q I h=>Fm I hg2 h1 ⟨.ref D,H,I,rfl,h⟩ hdb
 refine Bi (EV HQ hg hm PyProof.Rows.boot_isinstance (Dc ha (Dc hD Gr hs2) hs) (by decide) (by decide) hs hpl) fun σ H Q ⟨F,B,fs,ok,s⟩=>?_
 refine ⟨F,B,fs,ok,A2 s fun r fs1 F1 H1 u l1 ok1 rx s1=>?_⟩
 split at s1
 ·rename_i c
  split at s1
  ·rename_i hc
   have hc:c∈cs:=by simpa using hc
   simp only [CM,AQ] at rx
   obtain ⟨b,C,rfl,fb,hb,hC⟩:=rx
   exact ⟨b,C,.ref D,.ref D,_,rfl,(fun u z=>z),hb,(t.k c hc C hC).1,(t.k c hc C hC).2,(t.own c hc x hx C D hC h2).1,s1 F1 H1 _ Le.refl (RR.of ok1 rfl)⟩
  ·exact s1.elim
 ·exact s1.elim
def isV (cs:List Str) (f:FS->Out Rv):FS->Out Rv:=fun fs=>(f fs).bnd fun r fs=>match r with
 | .t (.exn c)=>if cs.contains c=true then okT (.bl true) fs else .bad
 | _=>.bad
theorem Vx (t:IS X.K X.mg cs ds tab) (hm:X.mg "isinstance"=none) (hm2:X.mg "ValueError"=none) (ha:FE X Z a f) (hg:Gl X "isinstance":=by rfl) (hg2:Gl X "ValueError":=by rfl)
  (hs:starEach [a,.Name "ValueError" p2] X.env=(false,eval a X.env) :: starEach [.Name "ValueError" p2] X.env:=by rfl) (hs2:starEach [.Name "ValueError" p2] X.env=[(false,eval (.Name "ValueError" p2) X.env)]:=by rfl) (hpl:(backTo pos (starEach [.Name "ValueError" p2] X.env)).any (·.1)=false:=by rfl) :
  FE X Z (.Call (.Name "isinstance" p) [a,.Name "ValueError" p2] [] pos) (isV cs f):=by
 refine Bi (EV HQ hg hm PyProof.Rows.boot_isinstance (Dc ha (Dc (Kc (v:=.ty "ValueError") hg2 hm2 PyProof.Rows.Boot.«ValueError» rfl) Gr hs2) hs) (by decide) (by decide) hs hpl) fun σ H Q ⟨F,B,fs,ok,s⟩=>?_
 refine ⟨F,B,fs,ok,A2 s fun r fs1 F1 H1 u l1 ok1 rx s1=>?_⟩
 split at s1
 ·rename_i c
  split at s1
  ·rename_i hc
   have hc:c∈cs:=by simpa using hc
   simp only [CM,AQ] at rx
   obtain ⟨b,C,rfl,fb,hb,hC⟩:=rx
   exact ⟨b,C,.ty "ValueError",.type "ValueError",_,rfl,(fun u z=>z),hb,(t.k c hc C hC).1,(t.k c hc C hC).2,t.ve c hc C hC,s1 F1 H1 _ Le.refl (RR.of ok1 rfl)⟩
  ·exact s1.elim
 ·exact s1.elim
end
theorem Qw {X:Cx} {Z:Xp} {x n:Str} {np pos hpos:Pos} {body suite:List Stmt} {b₀:Stmt} {g h:FS->SO} {rs ds:List Str} {tab:Str->Str->Bool} (t:IS X.K X.mg rs ds tab) (hx:x∈ds) (i:Nat) (l:LkD X Z) (hN:X.N.Nodup)
  (hb:∀ E' Z',LkD (X.Ge E') Z'->GSs (X.Ge E') Z' body g) (hs:∀ a,GSs (X.hand a) Xp.no (b₀ :: suite) h) (hi:X.N[i]?=some n:=by rfl) (hl:X.env.scope.names.lookup n=some .local:=by rfl) (hg:Gl X x:=by rfl) (hdb:(x == ("__debug__":Str))=false:=by decide) :
  GS0 X Z (.Try body [.ExceptHandler (some (.Name x np)) (some n) (b₀ :: suite) hpos] [] [] pos) (T7 i (fun c=>rs.contains c && tab c x) g h):=by
 obtain ⟨C,h1,h2⟩:=t.atd x hx
 refine Ta (i:=i) _ i l h1 hN (fun c C' ho hc=>?_) hb hs hi hl hg hdb
 rw [Bool.and_eq_true] at ho
 exact (t.own c (by simpa using ho.1) x hx C' C hc h2).2 ho.2
def VY:Rv->List Rv->FS->Out Rv
 | x,[.t (.bl true)],fs=>match (C6 fs x).bind D4 with
  | some bs=>okT (.int ((bs.countP id:Nat):Int)) fs
  | none=>.bad
 | _,_,_=>.bad
def VX:Rv->List Rv->FS->Out Rv
 | x,[.t (.bl true)],fs=>match (C6 fs x).bind D4 with
  | some bs=>match bs.findIdx? id with
   | some j=>okT (.int ((j:Nat):Int)) fs
   | none=>.bad
  | none=>.bad
 | _,_,_=>.bad
section
variable {K:Fg} {Z:Xp}
theorem Qf:MtF K Z (fun x vs H Q=>∃ (l:Addr) (bs:List Bool),x=.ref l/\vs=[.bl true]/\SqL K H l (bs.map V.bl)/\Q (.int ((bs.countP id:Nat):Int)) H) VY:=by
 intro F B H σ fs x rs u vs Q ok rx q s
 unfold VY at s
 split at s
 ·obtain ⟨v,rfl,qq⟩:=BW q
  have q':v=V.bl true:=by simpa only [CM,AQ] using qq
  subst q'
  split at s
  ·rename_i bs e
   rw [Option.bind_eq_some_iff] at e
   obtain ⟨ts,e1,e2⟩:=e
   obtain ⟨a,us,rfl,hs,r⟩:=BF ok rx e1
   rw [Gb e2] at r
   rw [Ad.bls r] at hs
   exact ⟨a,bs,rfl,rfl,hs,s F H _ Le.refl (RR.of ok rfl)⟩
  ·exact s.elim
 ·exact s.elim
theorem Qe:MtF K Z (fun x vs H Q=>∃ (l:Addr) (bs:List Bool) (j:Nat),x=.ref l/\vs=[.bl true]/\SqL K H l (bs.map V.bl)/\bs[j]?=some true/\(∀ m,m < j->bs[m]?=some false)/\Q (.int ((j:Nat):Int)) H) VX:=by
 intro F B H σ fs x rs u vs Q ok rx q s
 unfold VX at s
 split at s
 ·obtain ⟨v,rfl,qq⟩:=BW q
  have q':v=V.bl true:=by simpa only [CM,AQ] using qq
  subst q'
  split at s
  ·rename_i bs e
   rw [Option.bind_eq_some_iff] at e
   obtain ⟨ts,e1,e2⟩:=e
   obtain ⟨a,us,rfl,hs,r⟩:=BF ok rx e1
   rw [Gb e2] at r
   rw [Ad.bls r] at hs
   split at s
   ·rename_i j ej
    obtain ⟨hj,h1,h2⟩:=List.findIdx?_eq_some_iff_getElem.mp ej
    refine ⟨a,bs,j,rfl,rfl,hs,by rw [List.getElem?_eq_getElem hj];exact congrArg some h1,fun m hm=>?_,s F H _ Le.refl (RR.of ok rfl)⟩
    have:=h2 m hm
    rw [List.getElem?_eq_getElem (Nat.lt_trans hm hj)]
    simpa using this
   ·exact s.elim
  ·exact s.elim
 ·exact s.elim
end
end FL
namespace L2
open PySem PySem.Spec PyProof.Rows
end L2
namespace FL
open PySem PySem.Spec L2
theorem Uu {K:Fg} {p:Nat} {Fn:FS->Out Rv} {vs:List V} {H:Hp} {Q:VK} {E E':XK} (h:spF K p Fn vs H Q E):spX K p Fn vs H Q E':=by
 obtain ⟨h1,F,fs0,ok,h⟩:=h
 refine ⟨h1,F,fs0,ok,?_⟩
 cases e:Fn fs0 with
 | ok r τ=>rw [e] at h;exact h
 | exc c τ=>rw [e] at h;exact h.elim
 | bad=>rw [e] at h;exact h.elim
section
variable {X:Cx} {Z:Xp} {x:Str} {k p:Nat} {ps:List Str} {Fn:FS->Out Rv} {e o:Expr} {es:List Expr} {fa:FS->Out (List Rv)} {fo f:FS->Out Rv} {pp pos apos np cpos cp fp jp:Pos} {C:Addr} {m:Str} {v:Expr} {a:Str} {j:Nat}
def Ew (C:Addr) (m:Str) (p:Nat) (Fn:FS->Out Rv) (fo:FS->Out Rv) (fa:FS->Out (List Rv)):FS->Out Rv:=fun fs=>(fo fs).bnd fun x fs=>if Hm C m fs x=true then (fa fs).bind fun rs fs=>Ay p Fn (x :: rs) fs else .bad
theorem HJ {pl:Sem Bool} (G:KR X.prog X.w X.K X.mg X.base (CX1 X.prog X.w) C m k ps (spX X.K p Fn)) (hr:Eh k X.A) (lk:Lks X Z) (ho:FE X Z o fo) (ha:FAn X Z (e :: es) fa)
  (hst:starEach (e :: es) X.env=(false,eval e X.env) :: starEach es X.env:=by rfl) (hpl:(backTo pos (starEach es X.env)).any (·.1)=false:=by rfl)
  (ht:eval (.Call (.Attribute o m apos) (e :: es) [] pos) X.env=(do
   let ov <- eval o X.env
   standAt apos.atName
   let (f,first) <- holding [ov] (getMethod ov m pl)
   callWith pos f first (backTo pos (starEach (e :: es) X.env)) (backToKw pos (keywordEach [] X.env))):=by rfl) :
  FE X Z (.Call (.Attribute o m apos) (e :: es) [] pos) (Ew C m p Fn fo fa):=by
 refine Bi (UN G hr lk ho ha hst hpl ht) fun σ H Q ⟨F,B,fs,ok,s⟩=>⟨F,B,fs,ok,A2 s fun r fs1 F1 H1 u l ok1 rx s1=>?_⟩
 split at s1
 ·rename_i hi
  obtain ⟨a,dx,kvs,rfl,hd,hn⟩:=Lm ok1 rx hi
  refine ⟨a,dx,kvs,rfl,hd,hn,F1,B,fs1,ok1,AU s1 fun rs fs2 F2 H2 us l2 q s2=>?_⟩
  unfold Ay at s2
  split at s2
  ·rename_i hp
   rw [<- hp]
   obtain ⟨L9,M9,o9,q9,nd9,nf9⟩:=q
   refine JM (rs:=r :: rs) (vs:=.ref a :: us) ⟨L9,M9,o9,⟨_,us,[],M9,rfl,?_,q9,rfl⟩,nd9,nf9⟩ s2
   have rx2:=rx.le l2
   cases r with
   | t t=>exact ⟨rfl,rx2⟩
   | nw o=>exact rx2.elim
   | rf i=>exact ⟨rfl,rx2⟩
  ·exact s2.elim
 ·exact s1.elim
theorem Tr (G:KR X.prog X.w X.K X.mg X.base (CX1 X.prog X.w) C m k ps (spX X.K p Fn)) (hr:Eh k X.A) (ho:FE X Z o fo)
  (h:∀ {ta:TE},PE X o ta->PE X (.Call (.Attribute o m apos) [] [] pos) (R9 C m (spX X.K p Fn) [] E0 ta VS)):FE X Z (.Call (.Attribute o m apos) [] [] pos) (Qh C m p Fn fo Ak):=by
 refine Bi (h ho) fun σ H Q ⟨F,B,fs,ok,s⟩=>⟨F,B,fs,ok,A2 s fun r fs1 F1 H1 u l ok1 rx s1=>?_⟩
 split at s1
 ·rename_i hi
  obtain ⟨a,dx,kvs,rfl,hd,hn⟩:=Lm ok1 rx hi
  refine ⟨a,dx,kvs,rfl,hd,hn,?_⟩
  have s2:sat Z B (RR X.K B σ) F1 H1 (OY p Fn [r] fs1) Q:=s1
  unfold OY at s2
  split at s2
  ·rename_i hp
   show spX X.K p Fn (.ref a :: ([]++[])) H1 Q E0
   rw [<- hp]
   obtain ⟨L9,o9⟩:=ok1
   refine Uu (E:=E0) (QU (rs:=[r]) (vs:=[.ref a]) ⟨L9,[],o9,⟨_,[],[],[],rfl,?_,⟨rfl,rfl⟩,rfl⟩,by simpa using o9.nd,(fun _ m=>nomatch m)⟩ s2)
   cases r with
   | t t=>exact ⟨rfl,rx⟩
   | nw o=>exact rx.elim
   | rf i=>exact ⟨rfl,rx⟩
  ·exact s2.elim
 ·exact s1.elim
theorem RG (G:V3 X.prog X.w X.K X.mg X.base (CX1 X.prog X.w) x C k ps (spX X.K p Fn)) (hr:Eh (k+1) X.A) (ha:FAn X Z (e :: es) fa) (hg:Gl X x:=by rfl) (hdb:(x == ("__debug__":Str))=false:=by decide)
  (he:starEach (e :: es) X.env=(false,eval e X.env) :: starEach es X.env:=by rfl) (hpl:(backTo pos (starEach es X.env)).any (·.1)=false:=by rfl):FE X Z (.Call (.Name x pp) (e :: es) [] pos) (Ar (Gz C p Fn) fa):=by
 refine Bi (Wo G hr UT ha hg hdb he hpl) fun σ H Q ⟨F,B,fs,ok,s⟩=>⟨F,B,fs,ok,AU s fun rs fs1 F1 H1 us l q s1=>?_⟩
 intro a dx h1 h2 h3
 rw [List.append_nil]
 exact Uu (E:=E0) (Qk q s1 h1 h2 h3)
theorem Ol {a b:Expr} {fa fb:FS->Out Rv} (hu:X.A.units+61 < cLine) (ha:FE X Z a fa) (hb:FE X Z b fb):FT X Z (.Compare a [.NotEq] [b] pos) (asB (Ag (Mv true) fa fb)):=GL (Ry true hu) UU ha hb (Gw _)
def Hz (c:Str) (f:FS->Out Rv):FS->SO:=fun fs=>SO.of (f fs) fun r fs=>match r with
 | .t (.str z)=>if DN z=true then .exc c fs else .bad
 | _=>.bad
theorem GI (c:W8 X.K X.mg x) (l:LkD X Z) (hc:X.calm=true) (ha:FE X Z v f) (hl:a.length<=1000:=by decide) (hg:Gl X x:=by rfl) (hdb:(x == ("__debug__":Str))=false:=by decide)
  (he:starEach [(.JoinedStr [.Constant (.str a) j cp,.FormattedValue v 114 none fp] jp:Expr)] X.env=[(false,eval (.JoinedStr [.Constant (.str a) j cp,.FormattedValue v 114 none fp] jp) X.env)]:=by rfl) :
  GS X Z (.Raise (some (.Call (.Name x np) [.JoinedStr [.Constant (.str a) j cp,.FormattedValue v 114 none fp] jp] [] cpos)) none pos) (Hz x f):=by
 obtain ⟨C,h1,h2,h3⟩:=c.ex
 refine DF (K4 (C:=C) (Z:=EZ X.K Z) ⟨h1,h3⟩ l.d.ex hc l.k (Dc (Wt ha hl) Gr he) hg hdb he rfl) fun D σ H ⟨F,B,fs,ok,s⟩=>⟨F,B,fs,ok,Dv s fun r fs1 F1 H1 u l q s1=>?_⟩
 split at s1
 ·rename_i z
  split at s1
  ·rename_i hz
   have hok:=q.ok
   obtain ⟨L,L',_,⟨_,qu⟩,_⟩:=q
   have eu:u=.str z:=qu
   subst eu
   exact ⟨z,rfl,hz,fun r'=>⟨by simp,F1,B,fs1,x,C,h2,rfl,hok,s1⟩⟩
  ·exact s1.elim
 ·exact s1.elim
end
section
variable {K:Fg} {B:Nat->Option V} {F F':Wd} {H H':Hp} {σ:St} {fs:FS} {i:Nat} {ob:FO}
theorem AA.app:∀ {os:List FO} {o:FO} {vs:List V} {v:V} {L1 L2:List Addr},AA K F H os vs L1->AK K F H o v L2->AA K F H (os++[o]) (vs++[v]) (L1++L2)
 | [],o,vs,v,L1,L2,h,g=>by
  obtain ⟨rfl,rfl⟩:=(show vs=[]/\L1=[] by simpa only [AA] using h)
  simp only [List.nil_append,AA]
  exact ⟨v,[],L2,[],rfl,g,⟨rfl,rfl⟩,by simp⟩
 | x :: os,o,vs,v,L1,L2,h,g=>by
  simp only [AA] at h
  obtain ⟨w,r,M1,M2,rfl,h1,h2,rfl⟩:=h
  simp only [List.cons_append,AA]
  exact ⟨w,r++[v],M1,M2++L2,rfl,h1,AA.app h2 g,by simp⟩
theorem AA.len:∀ {os:List FO} {vs:List V} {L:List Addr},AA K F H os vs L->vs.length=os.length
 | [],vs,L,h=>by
  obtain ⟨rfl,rfl⟩:=(show vs=[]/\L=[] by simpa only [AA] using h)
  rfl
 | o :: os,_,_,h=>by
  simp only [AA] at h
  obtain ⟨w,r,M1,M2,rfl,h1,h2,rfl⟩:=h
  rw [List.length_cons,List.length_cons,AA.len h2]
end
section
variable {X:Cx} {Z:Xp} {x:Str} {e:Expr} {f:FS->Out Rv} {p1 p2 p ap cp pos:Pos}
end
section
variable {X:Cx} {Z:Xp} {x:Str} {e:Expr} {f:FS->Out Rv} {p1 p2 p ap cp pos q1 q2:Pos} {j:Nat}
end
section
variable {X:Cx} {Z:Xp} {x:Str} {e a:Expr} {es:List Expr} {f:FS->Out Rv} {fa:FS->Out (List Rv)} {p pos pos':Pos}
end
section
variable {X:Cx} {Z:Xp} {v v1 v2:Expr} {es:List Expr} {f:FS->Out Rv} {gs:List (FS->Out Rv)} {fp jp:Pos}
end
section
variable {X:Cx} {Z:Xp} {a:Expr} {x:Str} {ts:List Str} {f:FS->Out Rv} {p pos:Pos}
end
end FL
namespace FL
open PySem PySem.Spec L2 PyProof.Rows
section
variable {X:Cx} {Z:Xp} {a b:Expr} {x:Str} {tab:List (Str×List Str)} {fa fb:FS->Out Rv} {p p2 pos:Pos}
end
theorem Vy {X:Cx} {Z:Xp} {a b:Expr} {fa fb:FS->Out Rv} {pos:Pos} (hu:X.A.units+61 < cLine) (ha:FE X Z a fa) (hb:FE X Z b fb):FE X Z (.Compare a [.Eq] [b] pos) (Ag (Mv false) fa fb):=Oz (Ry false hu) UX ha hb (Gw _)
end FL
namespace FL
open PySem PySem.Spec L2
def Pd:List Rv->Option (List FO)
 | []=>some []
 | r :: rs=>match W5 r,Pd rs with
  | some o,some os=>some (o :: os)
  | _,_=>none
def Uj (g:FS->Out (List Rv)):FS->Out Rv:=fun fs=>(g fs).bind fun rs fs=>match Pd rs with
 | some os=>if os.length<=big then .ok (.nw (.tpl os)) fs else .bad
 | none=>.bad
section
variable {K:Fg} {F F':Wd} {H H':Hp} {σ:St}
theorem Ey.os:∀ {rs:List Rv} {os:List FO} {vs:List V} {M:List Addr},Ey K F H σ rs vs M->Pd rs=some os->AA K F H os vs M
 | [],os,vs,M,h,e=>by
  simp only [Pd] at e
  cases e
  exact h
 | r :: rs,os,vs,M,h,e=>by
  simp only [Pd] at e
  obtain ⟨v,w,L1,L2,rfl,h1,h2,rfl⟩:=h
  split at e
  ·rename_i o os' e1 e2
   cases e
   simp only [AA]
   refine ⟨v,w,L1,L2,rfl,?_,Ey.os h2 e2,rfl⟩
   cases r with
   | t t=>cases e1;simp only [AK];exact h1
   | nw o'=>cases e1;exact h1
   | rf j=>cases e1
  ·cases e
end
section
variable {X:Cx} {Z:Xp} {es:List Expr} {g:FS->Out (List Rv)} {pos:Pos}
theorem Vs {x1} (h:FAn X Z es g):FE X Z (.Tuple es x1 pos) (Uj g):=by
 refine Bi (Rq h) fun σ H Q ⟨F,B,fs,ok,s⟩=>⟨F,B,fs,ok,AU s fun rs fs1 F1 H1 us l q s1=>?_⟩
 obtain ⟨L,M,o,rr,nd,fr⟩:=q
 split at s1
 ·rename_i os e
  have ro:=rr.os e
  split at s1
  ·rename_i hl
   refine ⟨by rw [AA.len ro];exact Nat.le_trans hl EF,fun p hp=>?_⟩
   have lp:Le F1 H1 F1 (upd H1 p (.tup us)):=Bp ⟨L,o⟩ hp
   have nM:p∉M:=fun m=>AA.def ro p m hp
   have nL:p∉L:=fun m=>o.sl.def p m hp
   have nd':=List.nodup_append.mp nd
   refine s1 F1 _ (.ref p) lp ⟨L,p :: M,⟨o.sl.le lp (o.Qp hp),o.nd,o.nf,fun a f=>CP (o.fd a f),o.bo,fun a f=>CP (o.pd a f),o.pf,o.pl⟩,?_,?_,fun a m=>?_⟩
   ·simp only [MI,AK]
    exact ⟨p,us,M,rfl,AF,AA.le lp (fun a m=>Aq fun e=>nM (e▸m)) ro,rfl⟩
   ·rw [List.nodup_append]
    refine ⟨o.nd,List.nodup_cons.mpr ⟨nM,nd'.2.1⟩,fun a ha b hb e=>?_⟩
    subst e
    rcases List.mem_cons.mp hb with rfl | hb
    ·exact nL ha
    ·exact nd'.2.2 a ha a hb rfl
   ·rcases List.mem_cons.mp m with rfl | m
    ·exact ⟨fun f=>o.fd a f hp,fun f=>o.pd a f hp⟩
    ·exact fr a m
  ·exact s1.elim
 ·exact s1.elim
end
def Ee (gt:T->FS->Option FS) (fe:FS->Out Rv):List T->FS->List FO->Option (List FO×FS)
 | [],τ,acc=>some (acc,τ)
 | t :: ts,τ,acc=>match gt t τ with
  | none=>none
  | some τ=>match fe τ with
   | .ok (.nw v) τ=>if acc.length < big then Ee gt fe ts τ (acc++[v]) else none
   | _=>none
def KD (src:List (Option Nat)) (fi:FS->Out (List T)) (gt:T->FS->Option FS) (fe:FS->Out Rv):FS->Out Rv:=fun fs=>(fi fs).bind fun ts fs =>
 if (CN fs (src.map fun o=>o.elim Ini.no Ini.slot)).Nodup/\(src.all fun o=>o.elim true fun j=>decide (j < fs.length))=true then (match Ee gt fe ts (De fs (src.map fun o=>o.elim Ini.no Ini.slot)) [] with
  | some (os,τ)=>(match D3 (src.map fun o=>o.elim Ini.no Ini.slot) τ fs with
   | some fs'=>.ok (.nw (.los os)) fs'
   | none=>.bad)
  | none=>.bad) else .bad
section
variable {X:Cx} {Z:Xp} {N:List Str} {sc:Scope} {tg iter elt:Expr} {fi:FS->Out (List T)} {gt:T->FS->Option FS} {fe:FS->Out Rv} {pos:Pos} {K:Fg}
inductive CO (K:Fg) (W:Wd) (H1:Hp) (D:Addr) (Bc:Nat->Option V) (gt:T->FS->Option FS) (fe:FS->Out Rv) (r:List FO×FS) (l:List T) (τσ:St) (H2:Hp):Prop
 | mk (F2:Wd) (τ:FS) (acc:List FO) (ys:List V) (M:List Addr) (l2:Le W H1 F2 H2) (pD:F2.p D) (pM:∀ a∈M,F2.p a/\a≠D/\¬ W.p a) (ndM:M.Nodup) (ok2:Okk K F2 Bc H2 τ τσ) (hD2:H2 D=some (.lst ys)) (racc:AA K F2 H2 acc ys M) (ec:Ee gt fe l τ acc=some r):CO K W H1 D Bc gt fe r l τσ H2
theorem AA.lw {K:Fg} {F F':Wd} {H H':Hp} {os:List FO} {vs:List V} {M:List Addr} (l:∀ a,F a->F' a/\H' a=H a) (k:∀ a∈M,H' a=H a) (r:AA K F H os vs M):AA K F' H' os vs M :=
 AA.le (F:=⟨F.f,fun _=>False⟩) ⟨l,fun _ z=>z.elim⟩ k (AA.wp r)
theorem AK.lw {K:Fg} {F F':Wd} {H H':Hp} {o:FO} {v:V} {M:List Addr} (l:∀ a,F a->F' a/\H' a=H a) (k:∀ a∈M,H' a=H a) (r:AK K F H o v M):AK K F' H' o v M :=
 AK.le (F:=⟨F.f,fun _=>False⟩) ⟨l,fun _ z=>z.elim⟩ k (AK.wp r)
theorem CO.put {W F6:Wd} {H1 H6:Hp} {D:Addr} {Bc:Nat->Option V} {r:List FO×FS} {l:List T} {τσ:St} {τ3:FS} {acc:List FO} {ys:List V} {v:FO} {y:V} {L6 L' M:List Addr} (nP:¬ W.p D) (l16:Le W H1 F6 H6) (p6:F6.p D) (o6:Ok K F6 Bc H6 τ3 τσ L6)
  (racc6:AA K F6 H6 acc ys M) (pM:∀ a∈M,F6.p a/\a≠D/\¬ W.p a) (ndM:M.Nodup) (rv:AK K F6 H6 v y L') (nd:(L6++L').Nodup) (fr:∀ a∈L',¬ F6 a/\¬ F6.p a)
  (ec2:Ee gt fe l τ3 (acc++[v])=some r):CO K W H1 D Bc gt fe r l τσ (upd H6 D (.lst (ys++[y]))):=by
 have nd':=List.nodup_append.mp nd
 have hf:∀ a,F6 a->F6 a/\upd H6 D (.lst (ys++[y])) a=H6 a:=fun a f=>⟨f,Aq fun e=>o6.pf a f (by rw [e];exact p6)⟩
 refine .mk ⟨F6.f,fun a=>F6.p a∨a∈L'⟩ τ3 (acc++[v]) (ys++[y]) (M++L') ⟨fun a f=>⟨(l16.f a f).1,(hf a (l16.f a f).1).2.trans (l16.f a f).2⟩,fun a f=>⟨.inl (l16.p a f).1,by rw [Aq fun e=>nP (by rw [<- e];exact f)];exact (l16.p a f).2⟩⟩
  (.inl p6) (fun a m=>?_) ?_ ?_ AF ?_ ec2
 ·rcases List.mem_append.mp m with m | m
  ·exact ⟨.inl (pM a m).1,(pM a m).2⟩
  ·exact ⟨.inr m,fun e=>(fr a m).2 (e▸p6),fun z=>(fr a m).2 (l16.p a z).1⟩
 ·rw [List.nodup_append]
  exact ⟨ndM,nd'.2.1,fun a ha b hb e=>(fr b hb).2 (e▸(pM a ha).1)⟩
 ·refine Okk.upP ⟨L6,Az.wp o6.sl,o6.nd,o6.nf,o6.fd,o6.bo,fun a z=>?_,fun a f z=>?_,fun a m z=>?_⟩ (.inl p6)
  ·rcases z with z | z
   ·exact o6.pd a z
   ·exact AK.def rv a z
  ·rcases z with z | z
   ·exact o6.pf a f z
   ·exact (fr a z).1 f
  ·rcases z with z | z
   ·exact o6.pl a m z
   ·exact nd'.2.2 a m a z rfl
 ·exact AA.app (AA.lw hf (fun a m=>Aq fun e=>(pM a m).2.1 e) racc6) (AK.lw hf (fun a m=>Aq fun e=>(fr a m).2 (e▸p6)) rv)
theorem CO.turn {W F3:Wd} {H1 H3:Hp} {D:Addr} {Bc:Nat->Option V} {r:List FO×FS} {t:T} {l:List T} {τσ:St} {τ:FS} {acc:List FO} {ys:List V} {x:V} {M:List Addr} (nP:¬ W.p D) (l2:Le W H1 F3 H3) (pD:F3.p D) (ok2:Okk K F3 Bc H3 τ τσ) (hD2:H3 D=some (.lst ys))
  (racc:AA K F3 H3 acc ys M) (pM:∀ a∈M,F3.p a/\a≠D/\¬ W.p a) (ndM:M.Nodup) (ec2:Ee gt fe (t :: l) τ acc=some r) (rx:AQ K F3 H3 t x) :
  tG K gt x τσ H3 fun τ2 H4=>tT K Xp.no DY τ2 H4 fun b H5=>if b=true then tF K Xp.no fe τ2 H5 fun y H6=>∃ ys,H6 D=some (.lst ys)/\ys.length < sizeLine/\CO K W H1 D Bc gt fe r l τ2 (upd H6 D (.lst (ys++[y]))) else CO K W H1 D Bc gt fe r l τ2 H5:=by
 simp only [Ee] at ec2
 refine ⟨F3,Bc,τ,t,ok2,rx,?_⟩
 cases eg:gt t τ with
 | none=>rw [eg] at ec2;cases ec2
 | some τ1 =>
  rw [eg] at ec2
  intro F4 H4 τσ4 l4 ok4
  refine ⟨F4,Bc,τ1,ok4,?_⟩
  dsimp only at ec2
  intro F5 H5 b' l5 q5
  obtain ⟨ok5,rfl⟩:=q5
  rw [if_pos rfl]
  have l45:=l4.trans l5
  have p5:=l45.p D pD
  refine ⟨F5,Bc,τ1,ok5,?_⟩
  cases ee:fe τ1 with
  | exc c τ3=>rw [ee] at ec2;cases ec2
  | bad=>rw [ee] at ec2;cases ec2
  | ok w τ3 =>
   rw [ee] at ec2
   cases w with
   | t o=>cases ec2
   | rf o=>cases ec2
   | nw v =>
    dsimp only at ec2
    by_cases hlen:acc.length < big
    ·rw [if_pos hlen] at ec2
     intro F6 H6 y l6 q6
     obtain ⟨L6,L6',o6,rv,nd,fr⟩:=q6
     have l36:=l45.trans l6
     have p6:=l36.p D pD
     exact ⟨ys,p6.2.trans hD2,by rw [AA.len racc];exact Nat.lt_trans hlen HR,CO.put nP (l2.trans l36) p6.1 o6 (AA.le l36 (fun a m=>(l36.p a (pM a m).1).2) racc) (fun a m=>⟨(l36.p a (pM a m).1).1,(pM a m).2⟩) ndM rv nd fr ec2⟩
    ·rw [if_neg hlen] at ec2
     cases ec2
theorem TJ {src:List (Option Nat)} {σ:St} {H:Hp} {Q:VK} (h:tF K Z (KD src fi gt fe) σ H Q):Pu src (tI K Z fi) (tG K gt) (tT K Xp.no DY) (tF K Xp.no fe) σ H Q:=by
 obtain ⟨F,B,fs,ok,s⟩:=h
 refine ⟨F,B,fs,ok,AU s fun ts fs1 F1 H1 J l q s1=>?_⟩
 obtain ⟨ok1,jk⟩:=q
 split at s1
 ·rename_i hnd
  obtain ⟨L9,ok9⟩:=id ok1
  obtain ⟨Pp,p1,p2,p3,p4⟩:=lend (μ:=fun _=>[]) ok9 (by unfold EN;simp) (OU ok1 hnd.2) hnd.1 Mu.no
  have jI:JOk K ⟨F1.f,Pp⟩ H1 J ts:=jk.within
  split at s1
  ·rename_i vs τe ec
   split at s1
   ·rename_i fs' eb
    intro D hD
    have nP:¬ Pp D:=fun z=>p3 D z hD
    refine ⟨fun i m τσ H2=>m=ts.length - i/\CO K ⟨F1.f,Pp⟩ H1 D (Bof (EN σ src)) gt fe (vs,τe) (ts.drop i) τσ H2,
     ⟨ts.length,rfl,.mk ⟨F1.f,fun a=>Pp a∨a=D⟩ _ [] [] [] ⟨fun a f=>⟨f,Aq fun e=>p2.fd a f (e▸hD)⟩,fun a f=>⟨.inl f,Aq fun e=>nP (e▸f)⟩⟩ (.inr rfl) (fun _ m=>nomatch m) List.nodup_nil (p2.hide hD) AF ⟨rfl,rfl⟩ ec⟩,fun i m τσ H2 hc=>?_⟩
    obtain ⟨rfl,F2,τ,acc,ys,M,l2,pD,pM,ndM,ok2,hD2,racc,ec2⟩:=hc
    by_cases hit:i < ts.length
    ·have ei:ts[i]?=some ts[i]:=List.getElem?_eq_getElem hit
     rw [List.drop_eq_getElem_cons hit] at ec2
     obtain ⟨j1,j2⟩:=(jI F2 H2 l2.f ⟨_,_,_,ok2⟩ i).1 _ ei
     refine .inr ⟨j1,CO K ⟨F1.f,Pp⟩ H1 D (Bof (EN σ src)) gt fe (vs,τe) (ts.drop (i+1)),fun τσ' H' h=>⟨ts.length - (i+1),by omega,rfl,h⟩,fun x H3 hy=>?_⟩
     obtain ⟨F3,⟨l23,nw⟩,rx⟩:=j2 x H3 hy
     exact CO.turn nP (l2.trans l23) (l23.p D pD).1 (nw _ _ _ ok2) ((l23.p D pD).2.trans hD2) (AA.le l23 (fun a m=>(l23.p a (pM a m).1).2) racc) (fun a m=>⟨(l23.p a (pM a m).1).1,(pM a m).2⟩) ndM ec2 rx
    ·refine .inl ⟨(jI F2 H2 l2.f ⟨_,_,_,ok2⟩ i).2 (by omega),?_⟩
     rw [List.drop_eq_nil_of_le (by omega)] at ec2
     simp only [Ee] at ec2
     cases ec2
     obtain ⟨Li,o2⟩:=ok2
     obtain ⟨le,L,o3,sub⟩:=p4 F2 H2 τe τσ Li fs' l2 o2 eb
     have nL:D∉L:=fun m=>(sub D m).elim (fun z=>o2.pl D z pD) nP
     have np:¬ F1.p D:=fun z=>nP (p1 D z)
     refine s1 ⟨F2.f,F1.p⟩ H2 (.ref D) le ⟨L,D :: M,o3,?_,?_,fun a m=>?_⟩
     ·simp only [MI,AK]
      exact ⟨D,ys,M,rfl,hD2,AA.wp racc,rfl⟩
     ·rw [List.nodup_append]
      refine ⟨o3.nd,List.nodup_cons.mpr ⟨fun m=>(pM D m).2.1 rfl,ndM⟩,fun a ha b hb e=>?_⟩
      subst e
      rcases List.mem_cons.mp hb with rfl | hb
      ·exact nL ha
      ·exact (sub a ha).elim (fun z=>o2.pl a z (pM a hb).1) (pM a hb).2.2
     ·rcases List.mem_cons.mp m with rfl | m
      ·exact ⟨fun f=>o2.pf a f pD,np⟩
      ·exact ⟨fun f=>o2.pf a f (pM a m).1,fun z=>(pM a m).2.2 (p1 a z)⟩
   ·exact s1.elim
  ·exact s1.elim
 ·exact s1.elim
theorem Ks (i:Nat) {y:Str} {pos' spos:Pos} (N:List Str) (src:List (Option Nat)) (hcalm:X.calm=true) (hN:X.N.Nodup) (hy:Loc X.env.scope y) (hi:FI X Z tg iter fi) (hg:∀ cl C s H fp,GT (Cr X N sc cl C s H fp) tg gt)
  (he:∀ cl C s H fp,FE (Cr X N sc cl C s H fp) Xp.no elt fe) (hiy:X.N[i]?=some y:=by rfl) (hS:GX X.env.scope sc=true:=by rfl) (hcap:E7 X.N sc N src=true:=by rfl)
  (hs:∀ x,foldedSetIterable iter X.env x=pure x:=by intro _;rfl) (hsw:swapsWith (.ListComp elt [⟨tg,iter,[],0⟩] sc pos) (some (.Name y pos')) spos.line X.env=pure true:=by rfl)
  (hf:X.fn y=true∨X.env.scope.names.lookup y=some .local:=by first | exact .inl rfl | exact .inr rfl | assumption) :
  GS X Z (.Assign [.Name y pos'] (.ListComp elt [⟨tg,iter,[],0⟩] sc pos) spos) (AY i (KD src fi gt fe)) :=
 DF (HA (g:=tG X.K gt) (tt:=tT X.K Xp.no DY) (te:=tF X.K Xp.no fe) N src hcalm hN hiy hy hi hg (fun _ _ _ _ _=>CV) he hS hcap hs hsw hf) fun _ _ _ s=>TJ (Se s)
end
def JR:T->Bool
 | .non=>true
 | .bl _=>true
 | .int _=>true
 | .str _=>true
 | _=>false
def IH:T->Bool
 | .tup ts=>ts.all JR
 | .lst ts=>ts.all JR
 | t=>JR t
def EL:FO->Bool
 | .val t=>IH t
 | .lst ts=>ts.all IH
 | .dK _ ts=>ts.all IH
 | _=>false
def Kv:FO->Bool
 | .ins _ _ os=>os.all EL
 | _=>false
def J3:FO->Bool
 | .tpl [.val _,.lst (.tup _ :: _)]=>true
 | _=>false
def Rfy (H:Hp) (a:Addr):Prop:=∃ ws b,(H a=some (.lst ws)∨H a=some (.tup ws))/\V.ref b∈ws
section
variable {K:Fg} {F F':Wd} {H:Hp}
theorem AQ.atom:∀ {t:T} {v:V},JR t=true->AQ K F H t v->AQ K F' H t v/\∀ b,v≠.ref b
 | .non,_,_,h=>by cases h;exact ⟨rfl,fun _=>nofun⟩
 | .bl _,_,_,h=>by cases h;exact ⟨rfl,fun _=>nofun⟩
 | .int _,_,_,h=>by cases h;exact ⟨rfl,fun _=>nofun⟩
 | .str _,_,_,h=>by cases h;exact ⟨rfl,fun _=>nofun⟩
 | .tup _,_,e,_=>by cases e
 | .lst _,_,e,_=>by cases e
 | .scr _,_,e,_=>by cases e
 | .dK _ _,_,e,_=>by cases e
 | .dT _ _,_,e,_=>by cases e
 | .ins _ _ _,_,e,_=>by cases e
 | .dF _ _,_,e,_=>by cases e
 | .exn _,_,e,_=>by cases e
theorem Ad.atom:∀ {ts:List T} {vs:List V},ts.all JR=true->Ad K F H ts vs->Ad K F' H ts vs/\∀ b,V.ref b∉vs
 | [],_,_,h=>by simp only [Ad] at h;subst h;exact ⟨rfl,fun _=>nofun⟩
 | t :: ts,_,e,h=>by
  simp only [List.all_cons,Bool.and_eq_true] at e
  simp only [Ad] at h ⊢
  obtain ⟨v,r,rfl,h1,h2⟩:=h
  obtain ⟨a1,a2⟩:=AQ.atom (F':=F') e.1 h1
  obtain ⟨b1,b2⟩:=Ad.atom e.2 h2
  exact ⟨⟨v,r,rfl,a1,b1⟩,fun b m=>(List.mem_cons.mp m).elim (fun z=>a2 b z.symm) (b2 b)⟩
theorem AQ.flat (hF:∀ a,F a->¬ Rfy H a->F' a) {t:T} {v:V} (e:IH t=true) (h:AQ K F H t v):AQ K F' H t v:=by
 unfold IH at e
 split at e
 ·rename_i ts
  simp only [AQ] at h ⊢
  obtain ⟨a,vs,rfl,⟨_,f,s⟩,r⟩:=h
  obtain ⟨r',nr⟩:=Ad.atom (F':=F') e r
  refine ⟨a,vs,rfl,⟨rfl,hF a f fun ⟨ws,b,z,m⟩=>?_,s⟩,r'⟩
  rcases z with z | z
  ·rw [s] at z;cases z
  ·rw [s] at z;cases z;exact nr b m
 ·rename_i ts
  simp only [AQ] at h ⊢
  obtain ⟨a,vs,rfl,f,s,r⟩:=h
  obtain ⟨r',nr⟩:=Ad.atom (F':=F') e r
  refine ⟨a,vs,rfl,hF a f fun ⟨ws,b,z,m⟩=>?_,s,r'⟩
  rcases z with z | z
  ·rw [s] at z;cases z;exact nr b m
  ·rw [s] at z;cases z
 ·exact (AQ.atom e h).1
theorem Ad.flat (hF:∀ a,F a->¬ Rfy H a->F' a):∀ {ts:List T} {vs:List V},ts.all IH=true->Ad K F H ts vs->Ad K F' H ts vs
 | [],_,_,h=>h
 | t :: ts,_,e,h=>by
  simp only [List.all_cons,Bool.and_eq_true] at e
  simp only [Ad] at h ⊢
  obtain ⟨v,r,rfl,h1,h2⟩:=h
  exact ⟨v,r,rfl,AQ.flat hF e.1 h1,Ad.flat hF e.2 h2⟩
theorem AK.EL (hF:∀ a,F a->¬ Rfy H a->F' a) {o:FO} {v:V} {L:List Addr} (e:EL o=true) (h:AK K F H o v L):AK K F' H o v L:=by
 unfold FL.EL at e
 split at e
 ·simp only [AK] at h ⊢
  exact ⟨h.1,AQ.flat hF e h.2⟩
 ·simp only [AK] at h ⊢
  obtain ⟨a,vs,e1,s,r,z⟩:=h
  exact ⟨a,vs,e1,s,Ad.flat hF e r,z⟩
 ·simp only [AK] at h ⊢
  obtain ⟨a,vs,e1,s,k,r,z⟩:=h
  exact ⟨a,vs,e1,s,k,Ad.flat hF e r,z⟩
 ·cases e
theorem AA.EL (hF:∀ a,F a->¬ Rfy H a->F' a):∀ {os:List FO} {vs:List V} {L:List Addr},os.all FL.EL=true->AA K F H os vs L->AA K F' H os vs L
 | [],_,_,_,h=>h
 | o :: os,_,_,e,h=>by
  simp only [List.all_cons,Bool.and_eq_true] at e
  simp only [AA] at h ⊢
  obtain ⟨v,r,L1,L2,rfl,h1,h2,rfl⟩:=h
  exact ⟨v,r,L1,L2,rfl,AK.EL hF e.1 h1,AA.EL hF e.2 h2,rfl⟩
theorem AK.Kv (hF:∀ a,F a->¬ Rfy H a->F' a) {o:FO} {v:V} {L:List Addr} (e:Kv o=true) (h:AK K F H o v L):AK K F' H o v L:=by
 unfold FL.Kv at e
 split at e
 ·simp only [AK] at h ⊢
  obtain ⟨a,dx,kvs,L',e1,s,k,r,z⟩:=h
  exact ⟨a,dx,kvs,L',e1,s,k,AA.EL hF e r,z⟩
 ·cases e
theorem Pq {o:FO} (h:J3 o=true):∃ t ts r,o=.tpl [.val t,.lst (.tup ts :: r)]:=by
 unfold J3 at h
 split at h
 ·exact ⟨_,_,_,rfl⟩
 ·cases h
theorem AA.th:∀ {os:List FO} {vs:List V} {M:List Addr},os.all J3=true->AA K F H os vs M->∃ Q:List (V×Addr×Addr),vs=Q.map (fun q=>.ref q.2.1)/\M=Q.flatMap (fun q=>[q.2.1,q.2.2]) /\
  ∀ q∈Q,H q.2.1=some (.tup [q.1,.ref q.2.2])/\∃ us b,H q.2.2=some (.lst us)/\V.ref b∈us
 | [],_,_,_,h=>by
  obtain ⟨rfl,rfl⟩:=(show _=[]/\_=[] by simpa only [AA] using h)
  exact ⟨[],rfl,rfl,fun _=>nofun⟩
 | o :: os,_,_,e,h=>by
  simp only [List.all_cons,Bool.and_eq_true] at e
  simp only [AA] at h
  obtain ⟨v,r,L1,L2,rfl,h1,h2,rfl⟩:=h
  obtain ⟨Q,rfl,rfl,hQ⟩:=AA.th e.2 h2
  obtain ⟨t,ts,rr,rfl⟩:=Pq e.1
  simp only [AK,AA,Ad,AQ] at h1
  obtain ⟨a,vs,L',rfl,s,⟨κ,w,M1,M2,rfl,⟨rfl,q1⟩,⟨u,w2,N1,N2,rfl,⟨b,us,rfl,sb,⟨x,us',rfl,⟨c,_,rfl,_⟩,_⟩,rfl⟩,⟨rfl,rfl⟩,rfl⟩,rfl⟩,rfl⟩:=h1
  refine ⟨(κ,a,b) :: Q,rfl,by simp,fun q m=>?_⟩
  rcases List.mem_cons.mp m with rfl | m
  ·exact ⟨s,_,c,sb,by simp⟩
  ·exact hQ q m
end
def L4 (j:Nat) (f:FS->Out Rv):FS->Out Rv:=fun fs=>match fs[j]? with
 | some (some (.own (.los (o :: os))))=>if (o :: os).all J3=true then (match f ((List.replicate fs.length none).set j (some (.val (toT (.los (o :: os)))))) with
   | .ok (.nw ro) _=>if Kv ro=true then .ok (.nw ro) fs else .bad
   | _=>.bad) else .bad
 | _=>.bad
section
variable {K:Fg} {F:Wd} {H:Hp} {B:Nat->Option V}
theorem Az.none:∀ (σ:St),Az K F H (List.replicate σ.length none) σ []
 | []=>⟨rfl,rfl⟩
 | v :: σ=>by
  simp only [List.length_cons,List.replicate_succ,Az]
  exact ⟨v,σ,rfl,Az.none σ⟩
theorem Ok.NR {fs:FS} {σ:St} {L:List Addr} {j:Nat} {o:FO} (ok:Ok K F B H fs σ L) (es:fs[j]?=some (some (.own o))):∃ u Lj F1,AK K F H o u Lj/\Okk K F1 B H ((List.replicate fs.length none).set j (some (.val (toT o)))) σ /\
  ∀ (F2:Wd) (H2:Hp) (τ:FS) (L2:List Addr),Le F1 H F2 H2->Ok K F2 B H2 τ σ L2->∃ F3:Wd,Le F H F3 H2/\Ok K F3 B H2 fs σ L/\(∀ a,F3 a↔F2 a/\a∉Lj)/\(∀ a,F3.p a->F2.p a)/\(∀ a∈L,F2 a∨F2.p a)/\∀ a∈Lj,H2 a=H a:=by
 obtain ⟨v,L1,Lj,L3,e1,rfl,h1,h2⟩:=ok.sl.pick es
 obtain ⟨u,rfl,q⟩:=h1
 have nd:=ok.nd
 have dis:∀ a∈L1++L3,a∉Lj:=fun a ha hb=>by
  rw [List.nodup_append] at nd
  rcases List.mem_append.mp ha with ha | ha
  ·exact nd.2.2 a ha a (List.mem_append_left _ hb) rfl
  ·exact (List.nodup_append.mp nd.2.1).2.2 a hb a ha rfl
 have mL:∀ a,a∈L1++(Lj++L3)↔a∈L1++L3∨a∈Lj:=fun a=>by
  simp only [List.mem_append]
  constructor
  ·rintro (h | h | h)
   ·exact .inl (.inl h)
   ·exact .inr h
   ·exact .inl (.inr h)
  ·rintro ((h | h) | h)
   ·exact .inl h
   ·exact .inr (.inr h)
   ·exact .inr (.inl h)
 have lF:Le F H ⟨fun a=>F a∨a∈Lj,F.p⟩ H:=⟨fun a f=>⟨.inl f,rfl⟩,fun a f=>⟨f,rfl⟩⟩
 have rt:AQ K ⟨fun a=>F a∨a∈Lj,fun a=>F.p a∨a∈L1++L3⟩ H (toT o) u:=AQ.wp (AK.frz lF (fun a m=>.inr m) q)
 have ln:σ.length=fs.length:=ok.sl.len
 have hj:j < fs.length:=(List.getElem?_eq_some_iff.mp es).1
 refine ⟨u,Lj,⟨fun a=>F a∨a∈Lj,fun a=>F.p a∨a∈L1++L3⟩,q,⟨[],?_,List.nodup_nil,(fun _ m=>nomatch m),fun a f=>?_,fun i ob e=>?_,fun a f=>?_,fun a f z=>?_,(fun _ m=>nomatch m)⟩,fun F2 H2 τ L2 l2 o2=>?_⟩
 ·have h0:=Az.none (K:=K) (F:=⟨fun a=>F a∨a∈Lj,fun a=>F.p a∨a∈L1++L3⟩) (H:=H) σ
  rw [ln] at h0
  obtain ⟨v',M1,M2,M3,z1,z2,z3,z4⟩:=h0.pick (i:=j) (s:=none) (by rw [List.getElem?_replicate];simp [hj])
  have zM:M1=[]/\M2=[]/\M3=[]:=by simpa using z2.symm
  obtain ⟨rfl,rfl,rfl⟩:=zM
  have z5:=z4 _ H (some (.val (toT o))) (some u) [] Le.refl (fun _ m=>nomatch m) ⟨u,rfl,rt,rfl⟩
  rwa [Ci e1] at z5
 ·rcases f with f | f
  ·exact ok.fd a f
  ·exact AK.def q a f
 ·exfalso
  by_cases hij:j=i
  ·subst hij
   rw [List.getElem?_set_self (by simpa using hj)] at e
   cases e
  ·rw [List.getElem?_set_ne hij,List.getElem?_replicate] at e
   split at e
   ·cases e
   ·cases e
 ·rcases f with f | f
  ·exact ok.pd a f
  ·exact ok.sl.def a ((mL a).mpr (.inl f))
 ·rcases f with f | f
  ·rcases z with z | z
   ·exact ok.pf a f z
   ·exact ok.nf a ((mL a).mpr (.inl z)) f
  ·rcases z with z | z
   ·exact ok.pl a ((mL a).mpr (.inr f)) z
   ·exact dis a z f
 ·have kj:∀ a∈Lj,H2 a=H a:=fun a m=>(l2.f a (.inr m)).2
  have kl:∀ a∈L1++L3,H2 a=H a:=fun a m=>(l2.p a (.inr m)).2
  have l3:Le F H ⟨fun a=>F2 a/\a∉Lj,F.p⟩ H2:=⟨fun a f=>⟨⟨(l2.f a (.inl f)).1,fun m=>ok.nf a ((mL a).mpr (.inr m)) f⟩,(l2.f a (.inl f)).2⟩,fun a f=>⟨f,(l2.p a (.inl f)).2⟩⟩
  have kk:∀ a∈L1++(Lj++L3),H2 a=H a:=fun a m=>((mL a).mp m).elim (kl a) (kj a)
  refine ⟨⟨fun a=>F2 a/\a∉Lj,F.p⟩,l3,⟨ok.sl.le l3 kk,nd,fun a m f=>?_,fun a f=>o2.fd a f.1,ok.bo,fun a f=>by rw [(l3.p a f).2];exact ok.pd a f,fun a f z=>o2.pf a f.1 (l2.p a (.inl z)).1,ok.pl⟩,fun a=>Iff.rfl,fun a z=>(l2.p a (.inl z)).1,fun a m=>?_,kj⟩
  ·rcases (mL a).mp m with m | m
   ·exact o2.pf a f.1 (l2.p a (.inr m)).1
   ·exact f.2 m
  ·rcases (mL a).mp m with m | m
   ·exact .inr (l2.p a (.inr m)).1
   ·exact .inl (l2.f a (.inr m)).1
theorem Tq {X:Cx} {Z:Xp} {e:Expr} {f:FS->Out Rv} (j:Nat) (he:FE X Z e f):FE X Z e (L4 j f):=by
 refine Bi he fun σ H Q ⟨F,B,fs,⟨L,ok⟩,s⟩=>?_
 unfold L4 at s
 split at s
 ·rename_i o os es
  split at s
  ·rename_i hth
   obtain ⟨u,Lj,F1,q,ok1,back⟩:=ok.NR es
   have rfy:∀ a∈Lj,Rfy H a:=by
    simp only [AK] at q
    obtain ⟨a0,vs,M,rfl,s0,ro,rfl⟩:=q
    obtain ⟨Qs,rfl,rfl,hQ⟩:=AA.th hth ro
    intro a m
    rcases List.mem_cons.mp m with rfl | m
    ·cases Qs with
     | nil=>have:=AA.len ro;simp at this
     | cons x Qs=>exact ⟨_,x.2.1,.inl s0,by simp⟩
    ·obtain ⟨x,hx,m⟩:=List.mem_flatMap.mp m
     obtain ⟨g1,us,b,g2,g3⟩:=hQ x hx
     rcases List.mem_cons.mp m with rfl | m
     ·exact ⟨_,x.2.2,.inr g1,by simp⟩
     ·rw [List.mem_singleton.mp m]
      exact ⟨us,b,.inl g2,g3⟩
   refine ⟨F1,B,_,ok1,?_⟩
   cases ef:f ((List.replicate fs.length none).set j (some (.val (toT (.los (o :: os)))))) with
   | exc c τ=>rw [ef] at s;exact s.elim
   | bad=>rw [ef] at s;exact s.elim
   | ok r τ =>
    rw [ef] at s
    cases r with
    | t t=>exact s.elim
    | rf t=>exact s.elim
    | nw ro =>
     dsimp only at s
     split at s
     ·rename_i hfl
      intro F2 H2 w l2 q2
      obtain ⟨L2,L',o2,rv,nd2,fr⟩:=q2
      obtain ⟨F3,l3,ok3,f3,p3,m3,kj⟩:=back F2 H2 τ L2 l2 o2
      refine s F3 H2 w l3 ⟨L,L',ok3,AK.Kv (F:=F2) (fun a f nr=>(f3 a).mpr ⟨f,fun m=>nr ?_⟩) hfl rv,?_,fun a m=>⟨fun f=>(fr a m).1 ((f3 a).mp f).1,fun z=>(fr a m).2 (p3 a z)⟩⟩
      ·obtain ⟨ws,b,z,mb⟩:=rfy a m
       exact ⟨ws,b,by rw [kj a m];exact z,mb⟩
      ·rw [List.nodup_append]
       refine ⟨ok.nd,(List.nodup_append.mp nd2).2.1,fun a ha b hb e=>?_⟩
       subst e
       exact (m3 a ha).elim (fr a hb).1 (fr a hb).2
     ·exact s.elim
  ·exact s.elim
 ·exact s.elim
def HY (j:Nat) (f:FS->Out Rv):FS->Out Rv:=fun fs=>match fs[j]? with
 | some (some (.own o))=>(match f ((List.replicate fs.length none).set j (some (.val (toT o)))) with
  | .ok (.t t) _=>if JR t=true then .ok (.t t) fs else .bad
  | _=>.bad)
 | _=>.bad
theorem Lw {X:Cx} {Z:Xp} {e:Expr} {f:FS->Out Rv} (j:Nat) (he:FE X Z e f):FE X Z e (HY j f):=by
 refine Bi he fun σ H Q ⟨F,B,fs,⟨L,ok⟩,s⟩=>?_
 unfold HY at s
 split at s
 ·rename_i o es
  obtain ⟨u,Lj,F1,q,ok1,back⟩:=ok.NR es
  refine ⟨F1,B,_,ok1,?_⟩
  cases ef:f ((List.replicate fs.length none).set j (some (.val (toT o)))) with
  | exc c τ=>rw [ef] at s;exact s.elim
  | bad=>rw [ef] at s;exact s.elim
  | ok r τ =>
   rw [ef] at s
   cases r with
   | nw t=>exact s.elim
   | rf t=>exact s.elim
   | t t =>
    dsimp only at s
    split at s
    ·rename_i hfl
     intro F2 H2 w l2 q2
     obtain ⟨L2,L',o2,⟨_,rv⟩,_,_⟩:=q2
     obtain ⟨F3,l3,ok3,_⟩:=back F2 H2 τ L2 l2 o2
     exact s F3 H2 w l3 (RR.of ⟨L,ok3⟩ (AQ.atom hfl rv).1)
    ·exact s.elim
 ·exact s.elim
end
section
variable {K:Fg} {B:Nat->Option V} {F:Wd} {H:Hp} {σ:St} {fs:FS} {i:Nat} {L:List Addr}
theorem Ok.drop {s:Option Sl} (h:Ok K F B H fs σ L) (e:fs[i]?=some s):∃ v L2 L',σ[i]?=some v/\J0 K F H s v L2/\Ok K F B H (fs.set i none) σ L'/\L2.Nodup/\(∀ a∈L',a∈L)/\∀ a∈L2,a∈L/\a∉L':=by
 obtain ⟨v,L1,L2,L3,e1,rfl,h1,h2⟩:=h.sl.pick e
 have nd:=List.nodup_append.mp h.nd
 have nd2:=List.nodup_append.mp nd.2.1
 have z:=h2 F H none v [] Le.refl (fun _ _=>rfl) rfl
 rw [Ci e1] at z
 have sub:∀ a∈L1++([]++L3),a∈L1++(L2++L3):=fun a m=>by
  rcases List.mem_append.mp m with m | m
  ·simp [m]
  ·simp only [List.nil_append] at m;simp [m]
 refine ⟨v,L2,_,e1,h1,⟨z,CA h.nd List.nodup_nil (fun _ m=>nomatch m),fun a m=>h.nf a (sub a m),h.fd,fun j o ej=>?_,h.pd,h.pf,fun a m=>h.pl a (sub a m)⟩,nd2.1,sub,fun a m=>⟨by simp [m],fun z=>?_⟩⟩
 ·by_cases hj:i=j
  ·subst hj
   rw [List.getElem?_set_self (List.getElem?_eq_some_iff.mp e).1] at ej
   cases ej
  ·rw [List.getElem?_set_ne hj] at ej
   exact h.bo j o ej
 ·rcases List.mem_append.mp z with z | z
  ·exact nd.2.2 a z a (by simp [m]) rfl
  ·simp only [List.nil_append] at z
   exact nd2.2.2 a m a z rfl
theorem Ok.any (h:Ok K F B H fs σ L) (e:fs[i]?=some none) (v:Option V):Ok K F B H fs (σ.set i v) L:=by
 obtain ⟨w,L1,L2,L3,e1,rfl,h1,h2⟩:=h.sl.pick e
 have z:=h2 F H none v L2 Le.refl (fun _ _=>rfl) h1
 rw [Ci e] at z
 refine ⟨z,h.nd,h.nf,h.fd,fun j o ej=>?_,h.pd,h.pf,h.pl⟩
 by_cases hj:i=j
 ·subst hj
  rw [e] at ej
  cases ej
 ·rw [List.getElem?_set_ne hj]
  exact h.bo j o ej
theorem Ok.upd {p:Addr} {o:HO} (h:Ok K F B H fs σ L) (n1:p∉L) (n2:¬ F p) (n3:¬ F.p p):Ok K F B (L2.upd H p o) fs σ L :=
 have l:Le F H F (L2.upd H p o):=⟨fun a f=>⟨f,Aq fun e=>n2 (e▸f)⟩,fun a f=>⟨f,Aq fun e=>n3 (e▸f)⟩⟩
 ⟨h.sl.le l fun a m=>Aq fun e=>n1 (e▸m),h.nd,h.nf,fun a f=>CP (h.fd a f),h.bo,fun a f=>CP (h.pd a f),h.pf,h.pl⟩
theorem Ok.fill {o:FO} {v:V} {M:List Addr} (h:Ok K F B H fs σ L) (e:fs[i]?=some none) (e2:σ[i]?=some (some v)) (q:AK K F H o v M) (nd:M.Nodup) (d:∀ a∈M,a∉L/\¬ F a/\¬ F.p a):Okk K F B H (fs.set i (some (.own o))) σ:=by
 obtain ⟨w,L1,L2,L3,e1,rfl,h1,h2⟩:=h.sl.pick e
 have z:=h2 F H (some (.own o)) (some v) M Le.refl (fun _ _=>rfl) ⟨v,rfl,q⟩
 rw [Ci e2] at z
 have nm:(L1++(M++L3)).Nodup:=CA h.nd nd fun a m z=>(d a m).1 (by
  rcases List.mem_append.mp z with z | z
  ·simp [z]
  ·simp [z])
 have own:∀ a∈L1++(M++L3),¬ F a/\¬ F.p a:=fun a m=>by
  rcases List.mem_append.mp m with m | m
  ·exact ⟨h.nf a (by simp [m]),h.pl a (by simp [m])⟩
  ·rcases List.mem_append.mp m with m | m
   ·exact (d a m).2
   ·exact ⟨h.nf a (by simp [m]),h.pl a (by simp [m])⟩
 refine ⟨_,z,nm,fun a m=>(own a m).1,h.fd,fun j ob ej=>?_,h.pd,h.pf,fun a m=>(own a m).2⟩
 by_cases hj:i=j
 ·subst hj
  rw [List.getElem?_set_self (List.getElem?_eq_some_iff.mp e).1] at ej
  cases ej
 ·rw [List.getElem?_set_ne hj] at ej
  exact h.bo j ob ej
end
def LU (ih ia ib:Nat):FS->SO:=fun fs=>match fs[ih]? with
 | some (some (.own (.los os)))=>if os.all J3=true/\ih≠ia/\ih≠ib/\ia≠ib/\ia < fs.length/\ib < fs.length then .nx ((((fs.set ih none).set ia none).set ib none).set ih (some (.own (.lst [])))) else .bad
 | _=>.bad
section
variable {X:Cx} {Z:Xp} {a b h:Str} {k:Nat} {pa pb tp ph p1 p2 p3 p4 p5 p6 p7 p8 pos:Pos} {sts:List Stmt} {g:FS->SO}
theorem Qu (ih ia ib:Nat) (hp:PassesOwn (model X.prog X.w) X.A X.env X.xe) (hc:X.calm=true) (hN:X.N.Nodup) (la:Loc X.env.scope a) (lb:Loc X.env.scope b) (hr:GSs X Z sts g)
  (na:X.N[ia]?=some a:=by rfl) (nb:X.N[ib]?=some b:=by rfl) (nh:X.N[ih]?=some h:=by rfl)
  (fa:X.fn a=true∨X.env.scope.names.lookup a=some .local:=by first | exact .inl rfl | exact .inr rfl | assumption)
  (fb:X.fn b=true∨X.env.scope.names.lookup b=some .local:=by first | exact .inl rfl | exact .inr rfl | assumption)
  (vb:Vis X.env.scope b:=by first | exact Or.inl rfl | exact Or.inr (Or.inl rfl) | exact Or.inr (Or.inr rfl))
  (vh:Vis X.env.scope h:=by first | exact Or.inl rfl | exact Or.inr (Or.inl rfl) | exact Or.inr (Or.inr rfl))
  (db:(b == ("__debug__":Str))=false:=by decide) (cb:(b == ("__classdict__":Str))=false:=by decide) (dh:(h == ("__debug__":Str))=false:=by decide) (ch:(h == ("__classdict__":Str))=false:=by decide)
  (c1:(assignEach [.Name a pa,.Name b pb] X.env).length=2:=by rfl) (c2:(assignEach [.Name a pa,.Name b pb] X.env).findIdx? (·.1)=none:=by rfl)
  (c3:(assignEach [.Name a pa,.Name b pb] X.env).map (·.2)=assign (.Name a pa) X.env :: (assignEach [.Name b pb] X.env).map (·.2):=by rfl)
  (c4:(assignEach [.Name b pb] X.env).map (·.2)=assign (.Name b pb) X.env :: (assignEach [] X.env).map (·.2):=by rfl)
  (c5:∀ x,foldedSetIterable (.Name h ph) X.env x=pure x:=by intro _;rfl)
  (b1:attributeBase (.Name b p1) "clear" X.env (eval (.Name b p1) X.env)=eval (.Name b p1) X.env:=by rfl) (b2:(p2.endLine == p3.line)=true:=by rfl)
  (b3:swapsWith (.Call (.Attribute (.Name b p1) "clear" p2) [] [] p3) none p4.line X.env=pure false:=by rfl)
  (e1:attributeBase (.Name h p5) "clear" X.env (eval (.Name h p5) X.env)=eval (.Name h p5) X.env:=by rfl) (e2:(p6.endLine == p7.line)=true:=by rfl)
  (e3:swapsWith (.Call (.Attribute (.Name h p5) "clear" p6) [] [] p7) none p8.line X.env=pure false:=by rfl) :
  GSs X Z (.For (.Tuple [.Name a pa,.Name b pb] k tp) (.Name h ph) [.Expr (.Call (.Attribute (.Name b p1) "clear" p2) [] [] p3) p4] [] pos :: .Expr (.Call (.Attribute (.Name h p5) "clear" p6) [] [] p7) p8 :: sts) (AN (LU ih ia ib) g):=by
 refine J7 (FV (Rj hp hc (Sr (pv ih nh vh dh ch)) (Rn hc (AE (Kb hN na la fa) (AE (Kb hN nb lb fb) Ng c4) c3) c1 c2)
  (FV (J8 (Nk PySem.F.plainAttrs_list PySem.F.slot_list_clear PySem.F.type_list_clear Ir (pv ib nb vb db cb) b1 b2) b3) M5) c5)
  (FV (J8 (Nk PySem.F.plainAttrs_list PySem.F.slot_list_clear PySem.F.type_list_clear Ir (pv ih nh vh dh ch) e1 e2) e3) hr)) fun D σ H ⟨F,B,fs,⟨L,ok⟩,s⟩=>?_
 unfold AN LU at s
 cases es:fs[ih]? with
 | none=>rw [es] at s;exact s.elim
 | some sl =>
  rw [es] at s
  split at s
  ·rename_i fs' ew
   split at ew
   ·rename_i os ez
    split at ew
    ·rename_i hcond
     obtain ⟨hth,n1,n2,n3,ha,hb⟩:=hcond
     cases ew
     cases ez
     obtain ⟨v,Lh,L0,σh,⟨u,rfl,q⟩,ok0,ndh,sub0,dis0⟩:=ok.drop es
     have ea:(fs.set ih none)[ia]?=some (fs.set ih none)[ia]?.join:=by
      have:ia < (fs.set ih none).length:=by simpa using ha
      rw [List.getElem?_eq_getElem this];rfl
     obtain ⟨_,_,L1,_,_,ok1,_,sub1,_⟩:=ok0.drop ea
     have eb:((fs.set ih none).set ia none)[ib]?=some ((fs.set ih none).set ia none)[ib]?.join:=by
      have:ib < ((fs.set ih none).set ia none).length:=by simpa using hb
      rw [List.getElem?_eq_getElem this];rfl
     obtain ⟨_,_,L2,_,_,ok2,_,sub2,_⟩:=ok1.drop eb
     have hlen:σ.length=fs.length:=ok.sl.len
     have fr:∀ x∈Lh,x∉L2/\¬ F x/\¬ F.p x:=fun x m=>⟨fun z=>(dis0 x m).2 (sub1 x (sub2 x z)),ok.nf x (dis0 x m).1,ok.pl x (dis0 x m).1⟩
     simp only [AK] at q
     obtain ⟨a0,vs,M,rfl,s0,ro,rfl⟩:=q
     obtain ⟨Qs,rfl,rfl,hQ⟩:=AA.th hth ro
     have nM:=(List.nodup_cons.mp ndh).1
     have hn0:∀ j,(j=ih∨j=ia∨j=ib)->(((fs.set ih none).set ia none).set ib none)[j]?=some none:=fun j hj=>by
      have hi:ih < fs.length:=(List.getElem?_eq_some_iff.mp es).1
      rcases hj with rfl | rfl | rfl
      ·rw [List.getElem?_set_ne (Ne.symm n2),List.getElem?_set_ne (Ne.symm n1),List.getElem?_set_self hi]
      ·rw [List.getElem?_set_ne (Ne.symm n3),List.getElem?_set_self (by simpa using ha)]
      ·rw [List.getElem?_set_self (by simpa using hb)]
     refine ⟨_,σh,a0,rfl,⟨_,SqL.of s0⟩,fun i m σ' H'=>m=Qs.length - i/\Le F H F H'/\Ok X.K F B H' (((fs.set ih none).set ia none).set ib none) σ' L2/\σ'[ih]?=some (some (.ref a0))/\σ'.length=fs.length/\H' a0=some (.lst (Qs.map fun q=>V.ref q.2.1))/\∀ q∈Qs,H' q.2.1=some (.tup [q.1,.ref q.2.2])/\∃ us,H' q.2.2=some (.lst us),
      ⟨Qs.length,rfl,Le.refl,ok2,σh,hlen,s0,fun q m=>⟨(hQ q m).1,let ⟨us,_,e,_⟩:=(hQ q m).2;⟨us,e⟩⟩⟩,?_⟩
     rintro i m σ' H' ⟨rfl,l',ok',σ1,len',h0,hq⟩
     by_cases hi:i < Qs.length
     ·refine .inr ⟨⟨_,.ref Qs[i].2.1,SqL.of h0,by rw [List.getElem?_map,List.getElem?_eq_getElem hi];rfl⟩,fun σ' H'=>Le F H F H'/\Ok X.K F B H' (((fs.set ih none).set ia none).set ib none) σ' L2/\σ'[ih]?=some (some (.ref a0))/\σ'.length=fs.length/\H' a0=some (.lst (Qs.map fun q=>V.ref q.2.1))/\∀ q∈Qs,H' q.2.1=some (.tup [q.1,.ref q.2.2])/\∃ us,H' q.2.2=some (.lst us),
       fun σ2 H2 hh=>⟨Qs.length - (i+1),by omega,rfl,hh⟩,fun x H2 hy=>?_⟩
      obtain ⟨rfl,hx⟩:=hy
      have ex:=hx _ (SqL.of h0)
      rw [List.getElem?_map,List.getElem?_eq_getElem hi] at ex
      cases ex
      have mq:Qs[i]∈Qs:=List.getElem_mem hi
      obtain ⟨t1,us,t2⟩:=hq _ mq
      have mb:Qs[i].2.2∈a0 :: Qs.flatMap (fun q=>[q.2.1,q.2.2]):=List.mem_cons_of_mem _ (List.mem_flatMap.mpr ⟨_,mq,by simp⟩)
      have nb0:a0≠Qs[i].2.2:=fun z=>nM (by rw [z];exact List.mem_flatMap.mpr ⟨_,mq,by simp⟩)
      refine ⟨_,_,rfl,SqT.of t1,rfl,_,_,rfl,_,_,rfl,rfl,?_⟩
      refine ⟨.ref Qs[i].2.2,?_,.inl ⟨rfl,us,SqL.of t2⟩,_,us,rfl,rfl,t2,?_⟩
      ·exact List.getElem?_set_self (by rw [List.length_set,len'];exact hb)
      ·have f2:=fr _ mb
       refine ⟨l'.trans ⟨fun c f=>⟨f,Aq fun z=>f2.2.1 (z▸f)⟩,fun c f=>⟨f,Aq fun z=>f2.2.2 (z▸f)⟩⟩,((ok'.any (hn0 ia (.inr (.inl rfl))) _).any (hn0 ib (.inr (.inr rfl))) _).upd f2.1 f2.2.1 f2.2.2,?_,by simpa using len',by rw [Aq nb0];exact h0,fun q m=>?_⟩
       ·rw [List.getElem?_set_ne (Ne.symm n2),List.getElem?_set_ne (Ne.symm n1)]
        exact σ1
       ·obtain ⟨g1,us',g2⟩:=hq q m
        refine ⟨(Aq fun z=>?_).trans g1,?_⟩
        ·rw [z,t2] at g1;cases g1
        ·by_cases z:q.2.2=Qs[i].2.2
         ·rw [z];exact ⟨_,AF⟩
         ·rw [Aq z];exact ⟨us',g2⟩
     ·refine .inl ⟨⟨_,SqL.of h0,by simpa using hi⟩,?_⟩
      have f0:=fr a0 (by simp)
      refine ⟨_,σ1,.inl ⟨rfl,_,SqL.of h0⟩,a0,_,rfl,rfl,h0,F,B,_,(ok'.upd f0.1 f0.2.1 f0.2.2).fill (o:=.lst []) (M:=[a0]) (hn0 ih (.inl rfl)) σ1 (by simp only [AK];exact ⟨a0,[],rfl,AF,rfl,rfl⟩) (by simp) (fun c m=>by rw [List.mem_singleton.mp m];exact f0),?_⟩
      exact Hg.le s (l'.trans ⟨fun c f=>⟨f,Aq fun z=>f0.2.1 (z▸f)⟩,fun c f=>⟨f,Aq fun z=>f0.2.2 (z▸f)⟩⟩)
    ·cases ew
   ·cases ew
  ·rename_i hno
   split at s
   ·rename_i os ez
    split at s
    ·rename_i hcond
     cases ez;exact (hno _ (if_pos hcond)).elim
    ·exact s.elim
   ·exact s.elim
end
end FL
namespace Sy
open PySem PySem.Spec L2 FL
abbrev xrs:List Str:=["BadCount","NoKind","NoMaker"]
abbrev xds:List Str:=["BadCount","BadKind","BadName","BadText","Groundless","NoFunction","NoKind","NoMaker","NoName","NoPlace","NoSaying","NotLess","NotShown","SayError","TooLong","Twice"]
def Du (c d:Str):Bool:=c == d || d == "SayError"
def top (i:Nat):Stmt:=PySem.Challenge.pw_stairsay_k02_stocks_told.main.body.getD i (.Pass ⟨0,0,0,0⟩)
structure Tx (K:Fg) (mg:Str->Option Value) (cStock:Addr):Prop where
 b_ValueError:mg "ValueError"=none
 b_all:mg "all"=none
 b_int:mg "int"=none
 b_isinstance:mg "isinstance"=none
 b_len:mg "len"=none
 b_list:mg "list"=none
 b_min:mg "min"=none
 b_range:mg "range"=none
 b_reversed:mg "reversed"=none
 b_str:mg "str"=none
 b_sum:mg "sum"=none
 b_tuple:mg "tuple"=none
 g_LETTERS:∃ t,mg "LETTERS"=some (.str ("abcdefghijklmnopqrstuvwxyz":Str) t)
 g_MOST_KINDS:∃ t,mg "MOST_KINDS"=some (.int 4 t)
 g_MOST_LETTERS:∃ t,mg "MOST_LETTERS"=some (.int 12 t)
 g_MOST_MAKERS:∃ t,mg "MOST_MAKERS"=some (.int 4 t)
 g_MOST_PARTS:∃ t,mg "MOST_PARTS"=some (.int 2 t)
 cl_Stock:Cls K cStock
 na_Stock_home_by_maker:DX K cStock "home_by_maker"
 na_Stock_makers_by_kind:DX K cStock "makers_by_kind"
 na_Stock_parts_by_maker:DX K cStock "parts_by_maker"
 xt:IS K mg xrs xds Du
def Eg:FS->SO :=
  (AN (AY 3 (Ar Tc (Ac (BK false [none,some 0] (S7 (Ac (Aa 1) (Ac (Ar Jx (Ac (Ar DQ (Ac (Aa 0) Ak)) (Ac (gc (.int 63)) Ak))) (Ac (Aa 2) Ak)))) (tgN 0) DY (Ag Bn (Aa 1) (fz (Aa 0)))) Ak)))
  (AN (AY 4 (AG Eb Ak))
  (AN (AY 5 (Ag CF (Aa 3) (gc (.int 2147483629))))
  (AN (AY 6 (Ag Fc (Aa 3) (gc (.int 2))))
  (AN (Ex (Iz (Ac (gc (.int 150)) Ak)) (tgN 7) (AN (AY 5 (Ag CF (Ag AL (Ag AL (Ag BZ (Aa 5) (Aa 5)) (Aa 3)) (Aa 7)) (gc (.int 2147483629))))
  (AN (AZ (AV D1 (Aa 4) (Ac (Ag CF (Ag Bn (AG Bq (Ac (fz (Aa 6)) (Ac (Ag CF (Ag BZ (Aa 5) (Aa 5)) (gc (.int 2147483587))) Ak))) (Ag CF (Aa 3) (gc (.int 2)))) (gc (.int 1000003))) Ak)))
  (AY 6 (Ag Fc (Aa 6) (gc (.int 1000003)))))))
  (retS (Xc (Aa 4))))))))
def CK:FS->Out Rv:=Dk 5 (Eg)
def E9:FS->SO :=
  (AN (AY 2 (gc (.str ("abcdefghijklmnopqrstuvwxyz":Str))))
  (AN (AY 3 (Ag BZ (Ag AL (Ag AL (Ag BZ (Aa 0) (Aa 0)) (Aa 0)) (gc (.int 1))) (gc (.int 982451653))))
  (AN (AY 4 (Ag AL (gc (.int 1)) (Ag CF (Aa 3) (gc (.int 12)))))
  (AN (AY 5 (Ag CF (Ag Fc (Aa 3) (gc (.int 12))) (Aa 4)))
  (AN (AY 6 (BK false [none,some 2,some 3] (Iz (Ac (Aa 4) Ak)) (tgN 0) DY (Ag Bn (Aa 1) (Ag CF (Ag AL (Ag Fc (Aa 2) (Ag AL (Aa 0) (gc (.int 5)))) (Ag BZ (Aa 0) (Aa 0))) (gc (.int 26))))))
  (AN (AY 7 (Ag Bn (AG Bq (Ac (gc (.int 1)) (Ac (gc (.int 3)) (Ac (gc (.int 5)) (Ac (gc (.int 7)) (Ac (gc (.int 9)) (Ac (gc (.int 11)) Ak))))))) (Ag CF (Ag Fc (Aa 3) (gc (.int 144))) (gc (.int 6)))))
  (AN (AY 8 (AG Eb Ak))
  (AN (Ex (Iz (Ac (Aa 1) Ak)) (tgN 9) (AN (AY 10 (Ag Bn (Aa 2) (Ag CF (Ag AL (Ag Fc (Aa 3) (gc (.int 864))) (Ag BZ (Aa 9) (Aa 7))) (gc (.int 26)))))
  (ifS (asB (Ag (gEq false) (Ag CF (Ag Fc (Aa 3) (gc (.int 900))) (gc (.int 3))) (gc (.int 1)))) (AZ (AV D1 (Aa 8) (Ac (Ag BZ (Ag Bn (Aa 6) (gc (.int 0))) (Ag AL (Ag CF (Ag AL (Aa 9) (Ag Fc (Aa 3) (gc (.int 7)))) (gc (.int 12))) (gc (.int 1)))) Ak))) (AZ (AV D1 (Aa 8) (Ac (Ag AL (Ag AL (fz (FH GK (gc (.str ("":Str))) (Ac (slF (Aa 6) noP (Fd (Aa 5))) Ak))) (Aa 10)) (fz (FH GK (gc (.str ("":Str))) (Ac (slF (Aa 6) (Fd (Ag AL (Aa 5) (gc (.int 1)))) noP) Ak)))) Ak))))))
  (retS (Aa 8))))))))))
def Cq:FS->Out Rv:=Dk 9 (E9)
def DK:FS->SO :=
  (AN (ifS (asB (Ag gLt (Aa 1) (Ar DQ (Ac (Aa 0) Ak)))) (retS (Ag Bn (Aa 0) (fz (Aa 1)))) nxS)
  (retS (gc (.int 0))))
def Bv:FS->Out Rv:=Dk 0 (DK)
def Dt:FS->SO :=
  (AN (AY 4 (Ag Bn (AG Bq (Ac (gc (.int 0)) (Ac (gc (.int 1)) (Ac (gc (.int 1)) (Ac (gc (.int 2)) Ak))))) (Ag CF (fz (AV Ho (Aa 3) Ak)) (gc (.int 4)))))
  (AN (AY 5 (AG Bq (Ac (fz (AV Ho (Aa 3) Ak)) (Ac (fz (AV Ho (Aa 3) Ak)) Ak))))
  (AN (AY 6 (Ar DQ (Ac (Aa 0) Ak)))
  (AN (ifS (EH (Aa 2)) (AY 6 (fz (Aa 1))) nxS)
  (AN (ifS (asB (Ag (gEq false) (Aa 6) (gc (.int 0)))) (retS (AG CH Ak)) nxS)
  (retS (Ar EY (Ac (BK false [none,some 0,some 6,some 5] (Iz (Ac (Aa 4) Ak)) (tgN 0) DY (Ag Bn (Aa 1) (Ag CF (Ag Bn (Aa 3) (fz (Aa 0))) (Aa 2)))) Ak))))))))
def BJ:FS->Out Rv:=Dk 3 (Dt)
def Fb:FS->SO :=
  (AN (AY 1 (Ar (Ay 3 CK) (Ah (fz (Aa 0)) (Ah (gc (.int 0)) (Ah (gc (.int 3)) Ak)))))
  (AN (AY 2 (Ag Bn (AG Bq (Ac (gc (.int 1)) (Ac (gc (.int 2)) (Ac (gc (.int 3)) (Ac (gc (.int 2)) (Ac (gc (.int 1)) (Ac (gc (.int 4)) (Ac (gc (.int 2)) (Ac (gc (.int 3)) Ak))))))))) (Ag CF (fz (AV Ho (Aa 1) Ak)) (gc (.int 8)))))
  (AN (AY 3 (fz (Ar (Ay 2 Cq) (Ah (fz (Ar (Ay 2 Bv) (Ah (fz (Aa 0)) (Ah (gc (.int 0)) Ak)))) (Ah (fz (Aa 2)) Ak)))))
  (AN (AY 4 (fz (Ar (Ay 2 Cq) (Ah (fz (Ar (Ay 2 Bv) (Ah (fz (Aa 0)) (Ah (gc (.int 1)) Ak)))) (Ah (gc (.int 12)) Ak)))))
  (AN (AY 5 (AG Eb Ak))
  (AN (AY 6 (gc (.int 0)))
  (AN (Ex (Iz (Ac (Aa 2) Ak)) (tgN 7) (AN (AY 8 (AG Eb Ak))
  (AN (Ex (Iz (Ac (Ag AL (gc (.int 1)) (Ag CF (fz (AV Ho (Aa 1) Ak)) (Ag Bn (AG Bq (Ac (gc (.int 4)) (Ac (gc (.int 3)) Ak))) (Ar IF (Ac (Ag (gEq false) (Aa 2) (gc (.int 4))) Ak))))) Ak)) (tgN 9) (AN (AZ (AV D1 (Aa 8) (Ac (AG CH (Ac (Ag Bn (Aa 4) (fz (Aa 6))) (Ac (fz (Ar (Ay 4 BJ) (Ah (fz (Aa 3)) (Ah (fz (Aa 7)) (Ah (Ag (gEq false) (Aa 9) (gc (.int 0))) (Ah (Aa 1) Ak)))))) Ak))) Ak)))
  (AY 6 (Ag AL (Aa 6) (gc (.int 1))))))
  (AZ (AV D1 (Aa 5) (Ac (AG CH (Ac (Ag Bn (Aa 3) (fz (Aa 7))) (Ac (fz (Aa 8)) Ak))) Ak))))))
  (retS (Aa 5)))))))))
def DS:FS->Out Rv:=Dk 9 (Fb)
def Ef:FS->SO :=
  (AN (ifS (Eu (asB (chain gLe gLe (gc (.int 1)) (Ar DQ (Ac (Aa 0) Ak)) (gc (.int 12))))) (retS (gc (.bl false))) nxS)
  (retS (Ar Vn (Ac (BK false [none] (itU (fz (Aa 0))) (tgN 0) DY (Ag (EK false) (fz (Aa 0)) (gc (.str ("abcdefghijklmnopqrstuvwxyz":Str))))) Ak))))
def Bm:FS->Out Rv:=Dk 0 (Ef)
def Cu:FS->SO :=
  (AN (ifS (Eu (asB (chain gLe gLe (gc (.int 1)) (Ar DQ (Ac (Aa 0) Ak)) (gc (.int 4))))) (Rc "BadCount" (Ac (gc (.str ("a stock has one to four kinds":Str))) Ak)) nxS)
  (AN (AY 1 Mt)
  (Ex (itU (fz (Aa 0))) (A7 2 (Ai (tgN 2) (Ai (tgN 3) A5))) (AN (ifS (Eu (EH (fz (Ar (Ay 1 Bm) (Ah (fz (Aa 2)) Ak))))) (fun _=>.bad) nxS)
  (AN (ifS (asB (Ag (EK false) (fz (Aa 2)) (Aa 1))) (fun _=>.bad) nxS)
  (AN (ifS (Eu (asB (chain gLe gLe (gc (.int 1)) (Ar DQ (Ac (Aa 3) Ak)) (gc (.int 4))))) (fun _=>.bad) nxS)
  (ES (gc (.bl true)) (Aa 1) (fz (Aa 2)))))))))
def BS:FS->Out Rv:=Dk 3 (Cu)
def Ct:FS->SO :=
  (AN (ifS (Eu (EH (fz (Ar (Ay 1 Bm) (Ah (fz (Aa 0)) Ak))))) (fun _=>.bad) nxS)
  (AN (ifS (asB (Ag (EK false) (fz (Aa 0)) (Aa 2))) (fun _=>.bad) nxS)
  (AN (ifS (asB (Ag gGt (Ar DQ (Ac (Aa 1) Ak)) (gc (.int 2)))) (fun _=>.bad) nxS)
  (Ex (itU (fz (Aa 1))) (tgN 4) (ifS (asB (Ag (EK true) (fz (Aa 4)) (Aa 3))) (fun _=>.bad) nxS)))))
def Bh:FS->Out Rv:=Dk 1 (Ct)
def Cf:FS->SO :=
  (Ex (itU (fz (Aa 1))) (tgN 3) (ifS (asB (Ag (EK true) (fz (Aa 3)) (Aa 2))) (fun _=>.bad) nxS))
def A6:FS->Out Rv:=Dk 1 (Cf)
def Ce:FS->SO :=
  (AN (AY 1 (BK false [none,none] (itU (fz (Aa 0))) (A7 2 (Ai (tgN 0) (Ai (tgN 1) A5))) DY (fz (Aa 0))))
  (AN (AY 2 (AG Eb Ak))
  (AN (AY 3 Mt)
  (Ex (itU (fz (Aa 0))) (A7 2 (Ai (tgN 4) (Ai (tgN 5) A5))) (AN (AY 6 (Ag Bn (Ag Bn (Aa 5) (gc (.int 0))) (gc (.int 0))))
  (AN (Ex (itU (fz (Aa 5))) (A7 2 (Ai (tgN 7) (Ai (tgN 8) A5))) (AN (AZ (Ar (Ay 4 Bh) (Ah (fz (Aa 7)) (Ah (fz (Aa 8)) (Ah (Aa 3) (Ah (fz (Aa 1)) Ak))))))
  (AN (ifS (asB (Ag (gEq false) (Aa 7) (Aa 6))) (AZ (Ar (Ay 3 A6) (Ah (fz (Aa 7)) (Ah (fz (Aa 8)) (Ah (Aa 2) Ak))))) nxS)
  (ES (gc (.bl true)) (Aa 3) (fz (Aa 7))))))
  (AZ (AV D1 (Aa 2) (Ac (fz (Aa 4)) Ak)))))))))
def BD:FS->Out Rv:=Dk 8 (Ce)
def CL (cStock:Addr):FS->SO :=
  (AN (AZ (Ar (Ay 1 BS) (Ah (fz (Aa 1)) Ak)))
  (AN (AZ (Ar (Ay 1 BD) (Ah (fz (Aa 1)) Ak)))
  (AN (Uc cStock "makers_by_kind" 0 Mt)
  (AN (Uc cStock "parts_by_maker" 0 Mt)
  (AN (Uc cStock "home_by_maker" 0 Mt)
  (Ex (itU (fz (Aa 1))) (A7 2 (Ai (tgN 2) (Ai (tgN 3) A5))) (AN (DI cStock "makers_by_kind" 0 2 (BK false [none,none] (itU (fz (Aa 3))) (A7 2 (Ai (tgN 0) (Ai (tgN 1) A5))) DY (fz (Aa 0))))
  (Ex (itU (fz (Aa 3))) (A7 2 (Ai (tgN 4) (Ai (tgN 5) A5))) (AN (DI cStock "parts_by_maker" 0 4 (Ar EY (Ac (Aa 5) Ak)))
  (DI cStock "home_by_maker" 0 4 (fz (Aa 2))))))))))))
def Bj (cStock:Addr):FS->Out Rv:=Dk 4 (CL cStock)
def Cv (cStock:Addr):FS->SO :=
  (retS (Ar GJ (Ac (JA cStock "makers_by_kind" (Aa 0)) Ak)))
def BU (cStock:Addr):FS->Out Rv:=Dk 0 (Cv cStock)
def BE (cStock:Addr):FS->SO :=
  (AN (ifS (asB (Ag (EK true) (fz (Aa 1)) (JA cStock "makers_by_kind" (Aa 0)))) (Hz "NoKind" (Aa 1)) nxS)
  (retS (Ar GJ (Ac (Ag Bn (JA cStock "makers_by_kind" (Aa 0)) (fz (Aa 1))) Ak))))
def AO (cStock:Addr):FS->Out Rv:=Dk 0 (BE cStock)
def IM:FS->SO :=
  (retS (VZ (isG "list" (Aa 0)) (Ag (Mv false) (BK false [none] (itU (fz (Aa 0))) (tgN 0) (Eu (EH (isF "str" (Aa 0)))) (fz (Aa 0))) (AG Bq Ak))))
def C2:FS->Out Rv:=Dk 0 (IM)
def BV (cStock:Addr):FS->SO :=
  (AN (ifS (asB (Ag (EK true) (fz (Aa 1)) (JA cStock "parts_by_maker" (Aa 0)))) (Hz "NoMaker" (Aa 1)) nxS)
  (retS (Ag Bn (JA cStock "parts_by_maker" (Aa 0)) (fz (Aa 1)))))
def AX (cStock:Addr):FS->Out Rv:=Dk 0 (BV cStock)
def Fy:FS->SO :=
  (AN (AY 1 (AG Bq (Ac (isX xrs Du "BadName" (Aa 0)) (Ac (isX xrs Du "Twice" (Aa 0)) (Ac (isX xrs Du "BadCount" (Aa 0)) Ak)))))
  (AN (AY 1 (fz (Ag AL (Aa 1) (AG Bq (Ac (isX xrs Du "NoKind" (Aa 0)) (Ac (isX xrs Du "Groundless" (Aa 0)) (Ac (isX xrs Du "NoMaker" (Aa 0)) Ak)))))))
  (AN (AY 1 (fz (Ag AL (Aa 1) (AG Bq (Ac (isX xrs Du "NoName" (Aa 0)) (Ac (isX xrs Du "NoFunction" (Aa 0)) (Ac (isX xrs Du "NotLess" (Aa 0)) Ak)))))))
  (AN (AY 1 (fz (Ag AL (Aa 1) (AG Bq (Ac (isX xrs Du "BadKind" (Aa 0)) (Ac (isX xrs Du "TooLong" (Aa 0)) (Ac (isX xrs Du "NoPlace" (Aa 0)) Ak)))))))
  (retS (Ag AL (Aa 1) (AG Bq (Ac (isX xrs Du "NotShown" (Aa 0)) (Ac (isX xrs Du "NoSaying" (Aa 0)) (Ac (isX xrs Du "BadText" (Aa 0)) Ak))))))))))
def CC:FS->Out Rv:=Dk 1 (Fy)
def IL:FS->SO :=
  (AN (ifS (orT (Eu (EH (isV xrs (Aa 0)))) (asB (Ag (gEq true) (fz (AV VY (fz (Ar (Ay 1 CC) (Ah (fz (Aa 0)) Ak))) (Ac (gc (.bl true)) Ak))) (gc (.int 1))))) (retS (JZ (gc (.int 1)))) nxS)
  (retS (AV VX (fz (Ar (Ay 1 CC) (Ah (fz (Aa 0)) Ak))) (Ac (gc (.bl true)) Ak))))
def Dr:FS->Out Rv:=Dk 0 (IL)
def Cn (cStock:Addr):FS->SO :=
  (AN (ifS (asB (Ag (EK true) (fz (Aa 1)) (JA cStock "home_by_maker" (Aa 0)))) (Hz "NoMaker" (Aa 1)) nxS)
  (retS (Ag Bn (JA cStock "home_by_maker" (Aa 0)) (fz (Aa 1)))))
def Bk (cStock:Addr):FS->Out Rv:=Dk 0 (Cn cStock)
def Fx (cStock:Addr):FS->SO :=
  (AN (AY 3 (gc .non))
  (AN (T7 4 (fun c=>xrs.contains c && Du c "SayError") (ifS (asB (Ag (gEq false) (Aa 1) (gc (.int 0)))) (AZ (Ew cStock "makers" 2 (AO cStock) (fz (Aa 0)) (Ah (fz (Aa 2)) Ak))) (ifS (asB (Ag (gEq false) (Aa 1) (gc (.int 1)))) (AZ (Ew cStock "parts" 2 (AX cStock) (fz (Aa 0)) (Ah (fz (Aa 2)) Ak))) (AZ (Ew cStock "home" 2 (Bk cStock) (fz (Aa 0)) (Ah (fz (Aa 2)) Ak))))) (AY 3 (fz (Aa 4))))
  (retS (Ag (gEq false) (fz (Ar (Ay 1 Dr) (Ah (fz (Aa 3)) Ak))) (Ag Bn (AG Bq (Ac (gc (.int 3)) (Ac (gc (.int 5)) (Ac (gc (.int 5)) Ak)))) (fz (Aa 1)))))))
def A4 (cStock:Addr):FS->Out Rv:=Dk 2 (Fx cStock)
def IP (cStock:Addr):FS->SO :=
  (AN (AY 3 (Qh cStock "kinds" 1 (BU cStock) (fz (Aa 0)) Ak))
  (AN (ifS (orT (Eu (EH (fz (HY 3 (Ar (Ay 1 C2) (Ah (Aa 3) Ak)))))) (asB (Ag (Mv true) (Aa 3) (BK false [none,none] (itU (fz (Aa 1))) (A7 2 (Ai (tgN 0) (Ai (tgN 1) A5))) DY (fz (Aa 0)))))) (retS (gc (.bl false))) nxS)
  (AN (AZ (AV D1 (Aa 3) (Ac (gc (.str ("z":Str))) Ak)))
  (AN (AY 4 (AG Eb Ak))
  (AN (Ex (itU (fz (Aa 1))) (A7 2 (Ai (tgN 5) (Ai (tgN 6) A5))) (AN (AY 7 (Ew cStock "makers" 2 (AO cStock) (fz (Aa 0)) (Ah (fz (Aa 5)) Ak)))
  (AN (ifS (orT (Eu (EH (fz (HY 7 (Ar (Ay 1 C2) (Ah (Aa 7) Ak)))))) (asB (Ag (Mv true) (Aa 7) (BK false [none,none] (itU (fz (Aa 6))) (A7 2 (Ai (tgN 0) (Ai (tgN 1) A5))) DY (fz (Aa 0)))))) (retS (gc (.bl false))) nxS)
  (AN (AZ (AV E1 (Aa 7) Ak))
  (Ex (itU (fz (Aa 6))) (A7 2 (Ai (tgN 8) (Ai (tgN 9) A5))) (AN (AY 10 (fz (Ew cStock "parts" 2 (AX cStock) (fz (Aa 0)) (Ah (fz (Aa 8)) Ak))))
  (AN (ifS (orT (Eu (EH (isF "tuple" (Aa 10)))) (orT (asB (Ag (Mv true) (Aa 10) (Aa 9))) (asB (Ag (gEq true) (fz (Ew cStock "home" 2 (Bk cStock) (fz (Aa 0)) (Ah (fz (Aa 8)) Ak))) (Aa 5))))) (retS (gc (.bl false))) nxS)
  (AZ (AV D1 (Aa 4) (Ac (fz (Aa 8)) Ak))))))))))
  (AN (Ex (itU (fz (Aa 2))) (tgN 11) (AN (ifS (LP (asB (Ag (EK true) (fz (Aa 11)) (BK false [none,none] (itU (fz (Aa 1))) (A7 2 (Ai (tgN 0) (Ai (tgN 1) A5))) DY (fz (Aa 0))))) (Eu (EH (fz (Ar (Ay 3 (A4 cStock)) (Ah (fz (Aa 0)) (Ah (gc (.int 0)) (Ah (fz (Aa 11)) Ak)))))))) (retS (gc (.bl false))) nxS)
  (ifS (LP (asB (Ag (EK true) (fz (Aa 11)) (Aa 4))) (Eu (LP (EH (fz (Ar (Ay 3 (A4 cStock)) (Ah (fz (Aa 0)) (Ah (gc (.int 1)) (Ah (fz (Aa 11)) Ak)))))) (EH (fz (Ar (Ay 3 (A4 cStock)) (Ah (fz (Aa 0)) (Ah (gc (.int 2)) (Ah (fz (Aa 11)) Ak))))))))) (retS (gc (.bl false))) nxS)))
  (retS (gc (.bl true)))))))))
def C3 (cStock:Addr):FS->Out Rv:=Dk 9 (IP cStock)
def QZ (cStock:Addr):FS->SO :=
  (AN (AY 1 (fz (Ar (Ay 1 DS) (Ah (fz (Aa 0)) Ak))))
  (AN (AY 2 (fz (Ag AL (BK false [none,none] (itU (fz (Aa 1))) (A7 2 (Ai (tgN 0) (Ai (tgN 1) A5))) DY (fz (Aa 0))) (AG Bq (Ac (gc (.str ("":Str))) (Ac (gc (.str ("abcdefghijklm":Str))) Ak))))))
  (AN (Ex (itU (fz (Aa 1))) (A7 2 (Ai (tgN 3) (Ai (tgN 4) A5))) (AY 2 (fz (Ag AL (Aa 2) (BK false [none,none] (itU (fz (Aa 4))) (A7 2 (Ai (tgN 0) (Ai (tgN 1) A5))) DY (fz (Aa 0)))))))
  (AN (AY 5 (KD [none,none] (itU (fz (Aa 1))) (A7 2 (Ai (tgN 0) (Ai (tgN 1) A5))) (Uj (Ah (fz (Aa 0)) (Ah (Ar GJ (Ac (Aa 1) Ak)) Ak)))))
  (AN (AY 6 (fz (L4 5 (Ar (Gz cStock 2 (Bj cStock)) (Ah (Aa 5) Ak)))))
  (AN (LU 5 3 4)
  (AN (AY 7 (AG Bq (Ac (AG CH (Ac (Ag Bn (Ag Bn (Aa 1) (JZ (gc (.int 1)))) (gc (.int 0))) (Ac (AG Bq (Ac (AG CH (Ac (Ag Bn (Ag Bn (Ag Bn (Ag Bn (Aa 1) (JZ (gc (.int 1)))) (gc (.int 1))) (JZ (gc (.int 1)))) (gc (.int 0))) (Ac (AG CH Ak) Ak))) Ak)) Ak))) Ak)))
  (AN (AY 8 (fz (Ar (Gz cStock 2 (Bj cStock)) (Ah (fz (Aa 7)) Ak))))
  (AN (ifS (orT (Eu (EH (fz (Ar (Ay 3 (C3 cStock)) (Ah (fz (Aa 6)) (Ah (fz (Aa 1)) (Ah (fz (Aa 2)) Ak))))))) (Eu (EH (fz (Ar (Ay 3 (C3 cStock)) (Ah (fz (Aa 8)) (Ah (fz (Aa 7)) (Ah (fz (Aa 2)) Ak)))))))) (retS (gc (.bl false))) nxS)
  (retS (Ar (Ay 3 (C3 cStock)) (Ah (fz (Aa 6)) (Ah (fz (Aa 1)) (Ah (fz (Aa 2)) Ak))))))))))))))
def VB (cStock:Addr):FS->Out Rv:=Dk 8 (QZ cStock)
section
variable {P:Program} {w:World} {K:Fg} {mg:Str->Option Value} {base:Heap}
abbrev C9:Stmt:=top 31
theorem Gn:Bb ["_law_script","_law_k"] ["_law_script","_law_k"] (Ao C9):=⟨rfl,rfl,rfl,by decide +kernel,rfl,by decide +kernel,by decide +kernel⟩
theorem Kg {f:Addr} {fd:FuncData} {cStock:Addr} (Fu:Fun K "_law_cell_at" "_law_cell_at" C9 f fd) (T:Tx K mg cStock) :DL P w K mg base (CX1 P w) 1 f fd ["_law_script","_law_k"] (spX K 2 (Bv)) :=
 Cb (k:=0) (g:=DK) Fu Gn 2 0 rfl rfl (fun cdv A outer s H E _ _ hr lk=>by
  have nd:=Gn.nd
  have hu:=Dz hr
  exact (GSs.zero (Ae (CB (WR (Au 1) (GP T.b_len (Af (Au 0) AB))) (Ap (Bw (CJ hu (Au 0) (Am (Au 1)) (fun _ _=>rfl)))) Bg)
   (Ap (Bw As)))))
abbrev C8:Stmt:=top 37
theorem Gm:Bb ["_law_kept","_law_got"] ["_law_kept"] (Ao C8):=⟨rfl,rfl,rfl,by decide +kernel,rfl,by decide +kernel,by decide +kernel⟩
theorem Kf {f:Addr} {fd:FuncData} {cStock:Addr} (Fu:Fun K "_law_classes" "_law_classes" C8 f fd) (T:Tx K mg cStock) :DL P w K mg base (CX1 P w) 1 f fd ["_law_kept"] (spX K 1 (CC)) :=
 Cb (k:=0) (g:=Fy) Fu Gm 1 1 rfl rfl (fun cdv A outer s H E _ _ hr lk=>by
  have nd:=Gm.nd
  have hu:=Dz hr
  exact (GSs.zero (Ae (AR 1 nd (Or.inl rfl) (CZ (Af (Dh T.xt T.b_isinstance (by decide +kernel) (Au 0)) (Af (Dh T.xt T.b_isinstance (by decide +kernel) (Au 0)) (Af (Dh T.xt T.b_isinstance (by decide +kernel) (Au 0)) AB)))))
   (Ae (AR 1 nd (Or.inl rfl) (Am (Cd (Au 1) (CZ (Af (Dh T.xt T.b_isinstance (by decide +kernel) (Au 0)) (Af (Dh T.xt T.b_isinstance (by decide +kernel) (Au 0)) (Af (Dh T.xt T.b_isinstance (by decide +kernel) (Au 0)) AB)))))))
   (Ae (AR 1 nd (Or.inl rfl) (Am (Cd (Au 1) (CZ (Af (Dh T.xt T.b_isinstance (by decide +kernel) (Au 0)) (Af (Dh T.xt T.b_isinstance (by decide +kernel) (Au 0)) (Af (Dh T.xt T.b_isinstance (by decide +kernel) (Au 0)) AB)))))))
   (Ae (AR 1 nd (Or.inl rfl) (Am (Cd (Au 1) (CZ (Af (Dh T.xt T.b_isinstance (by decide +kernel) (Au 0)) (Af (Dh T.xt T.b_isinstance (by decide +kernel) (Au 0)) (Af (Dh T.xt T.b_isinstance (by decide +kernel) (Au 0)) AB)))))))
   (Ap (Bw (Cd (Au 1) (CZ (Af (Dh T.xt T.b_isinstance (by decide +kernel) (Au 0)) (Af (Dh T.xt T.b_isinstance (by decide +kernel) (Au 0)) (Af (Dh T.xt T.b_isinstance (by decide +kernel) (Au 0)) AB)))))))))))))
abbrev DE:Stmt:=top 33
theorem Hx:Bb ["_law_script","_law_at","_law_parts_here","_law_drawn","_law_got","_law_first","_law_rest","_law_k"] ["_law_script","_law_at","_law_parts_here"] (Ao DE):=⟨rfl,rfl,rfl,by decide +kernel,rfl,by decide +kernel,by decide +kernel⟩
theorem Mh {f:Addr} {fd:FuncData} {cStock:Addr} (Fu:Fun K "_law_digits" "_law_digits" DE f fd) (T:Tx K mg cStock) :DL P w K mg base (CX1 P w) 1 f fd ["_law_script","_law_at","_law_parts_here"] (spX K 3 (CK)) :=
 Cb (k:=0) (g:=Eg) Fu Hx 3 5 rfl rfl (fun cdv A outer s H E _ _ hr lk=>by
  have nd:=Hx.nd
  have hu:=Dz hr
  exact (GSs.zero (Ae (AR 3 nd (Or.inl rfl) (Vt T.b_sum (Af (DA false ["_law_k","_law_script"] [none,some 0] rfl (Oy (Af (Au 1) (Af (Ts T.b_min (Af (GP T.b_len (Af (Au 0) AB)) (Af As AB))) (Af (Au 2) AB))) (fun ha=>Nc rfl T.b_range ha)) (fun _ _ _ _ _=>(AD 0 (by show List.Nodup (["_law_k","_law_script"]:List Str);decide +kernel) (Or.inl rfl) (hf:=.inr rfl))) (fun _ _ _ _ _=>CV) (fun _ _ _ _ _=>(CJ hu (Au 1) (Am (Au 0)) (fun _ _=>rfl)))) AB)))
   (Ae (AR 4 nd (Or.inl rfl) (Fs AB))
   (Ae (AR 5 nd (Or.inl rfl) (CY (Au 3) As))
   (Ae (AR 6 nd (Or.inl rfl) (FD (Au 3) As))
   (Ae (Df lk.own rfl (DH T.b_range (Af As AB)) (AD 7 nd (Or.inl rfl)) (Ae (AR 5 nd (Or.inl rfl) (CY (Cd (Cd (GO (Au 5) (Au 5)) (Au 3)) (Au 7)) As))
   (Ae (BY (Hq FC PySem.F.slot_list_append PySem.F.type_list_append Co (Au 4) (Af (CY (CJ hu (CZ (Af (Am (Au 6)) (Af (CY (GO (Au 5) (Au 5)) As) AB))) (CY (Au 3) As) (fun _ _=>rfl)) As) AB)))
   (Ap (AR 6 nd (Or.inl rfl) (FD (Au 6) As))))))
   (Ap (Bw (Mz rfl T.b_list T.b_reversed (Au 4)))))))))))
abbrev En:Stmt:=top 36
theorem Ji:Bb ["_law_script","_law_purse","_law_many","_law_names_here","_law_makers","_law_got","_law_used","_law_at","_law_rows","_law_k"] ["_law_script"] (Ao En):=⟨rfl,rfl,rfl,by decide +kernel,rfl,by decide +kernel,by decide +kernel⟩
theorem Nz {f:Addr} {fd:FuncData} {cStock:Addr} (Fu:Fun K "_law_kinds" "_law_kinds" En f fd) (T:Tx K mg cStock) (G_Lparts:FnAt P w K mg base (CX1 P w) "_law_parts" 1 ["_law_names_here","_law_at","_law_first","_law_purse"] (spX K 4 BJ)) (G_Lcell_at:FnAt P w K mg base (CX1 P w) "_law_cell_at" 1 ["_law_script","_law_k"] (spX K 2 Bv)) (G_Lnames:FnAt P w K mg base (CX1 P w) "_law_names" 1 ["_law_cell","_law_count"] (spX K 2 Cq)) (G_Ldigits:FnAt P w K mg base (CX1 P w) "_law_digits" 1 ["_law_script","_law_at","_law_parts_here"] (spX K 3 CK)):DL P w K mg base (CX1 P w) 2 f fd ["_law_script"] (spX K 1 (DS)) :=
 Cb (k:=1) (g:=Fb) Fu Ji 1 9 rfl rfl (fun cdv A outer s H E _ _ hr lk=>by
  have nd:=Ji.nd
  have hu:=Dz hr
  exact (GSs.zero (Ae (AR 1 nd (Or.inl rfl) (BI G_Ldigits (hr.mono (by first | decide | omega)) lk.lk (Aj (Am (Au 0)) (Aj As (Aj As AS)))))
   (Ae (AR 2 nd (Or.inl rfl) (CJ hu (CZ (Af As (Af As (Af As (Af As (Af As (Af As (Af As (Af As AB))))))))) (CY (Am (HK Jr PySem.F.slot_list_pop PySem.F.type_list_pop Gx (Au 1))) As) (fun _ _=>rfl)))
   (Ae (AR 3 nd (Or.inl rfl) (Am (BI G_Lnames (hr.mono (by first | decide | omega)) lk.lk (Aj (Am (BI G_Lcell_at (hr.mono (by first | decide | omega)) lk.lk (Aj (Am (Au 0)) (Aj As AS)))) (Aj (Am (Au 2)) AS)))))
   (Ae (AR 4 nd (Or.inl rfl) (Am (BI G_Lnames (hr.mono (by first | decide | omega)) lk.lk (Aj (Am (BI G_Lcell_at (hr.mono (by first | decide | omega)) lk.lk (Aj (Am (Au 0)) (Aj As AS)))) (Aj As AS)))))
   (Ae (AR 5 nd (Or.inl rfl) (Fs AB))
   (Ae (AR 6 nd (Or.inl rfl) As)
   (Ae (Df lk.own rfl (DH T.b_range (Af (Au 2) AB)) (AD 7 nd (Or.inl rfl)) (Ae (AR 8 nd (Or.inl rfl) (Fs AB))
   (Ae (Df lk.own rfl (DH T.b_range (Af (Cd As (CY (Am (HK Jr PySem.F.slot_list_pop PySem.F.type_list_pop Gx (Au 1))) (CJ hu (CZ (Af As (Af As AB))) (Tt T.b_int (Af (Tu (Au 2) As) AB)) (fun _ _=>rfl)))) AB)) (AD 9 nd (Or.inl rfl)) (Ae (BY (Hq FC PySem.F.slot_list_append PySem.F.type_list_append Co (Au 8) (Af (HI (Af (CJ hu (Au 4) (Am (Au 6)) (fun _ _=>rfl)) (Af (Am (BI G_Lparts (hr.mono (by first | decide | omega)) lk.lk (Aj (Am (Au 3)) (Aj (Am (Au 7)) (Aj (Tu (Au 9) As) (Aj (Au 1) AS)))))) AB))) AB)))
   (Ap (AR 6 nd (Or.inl rfl) (Cd (Au 6) As)))))
   (Ap (BY (Hq FC PySem.F.slot_list_append PySem.F.type_list_append Co (Au 5) (Af (HI (Af (CJ hu (Au 3) (Am (Au 7)) (fun _ _=>rfl)) (Af (Am (Au 8)) AB))) AB)))))))
   (Ap (Bw (Au 5))))))))))))
abbrev Em:Stmt:=top 34
theorem Jh:Bb ["_law_cell","_law_count","_law_letters","_law_mixed","_law_wide","_law_at","_law_base","_law_step","_law_got","_law_k","_law_turned_on"] ["_law_cell","_law_count"] (Ao Em):=⟨rfl,rfl,rfl,by decide +kernel,rfl,by decide +kernel,by decide +kernel⟩
theorem Ny {f:Addr} {fd:FuncData} {cStock:Addr} (Fu:Fun K "_law_names" "_law_names" Em f fd) (T:Tx K mg cStock) :DL P w K mg base (CX1 P w) 1 f fd ["_law_cell","_law_count"] (spX K 2 (Cq)) :=
 Cb (k:=0) (g:=E9) Fu Jh 2 9 rfl rfl (fun cdv A outer s H E _ _ hr lk=>by
  have nd:=Jh.nd
  have hu:=Dz hr
  exact (GSs.zero (Ae (AR 2 nd (Or.inr rfl) GN)
   (Ae (AR 3 nd (Or.inr rfl) (GO (Cd (Cd (GO (Au 0) (Au 0)) (Au 0)) As) As))
   (Ae (AR 4 nd (Or.inl rfl) (Cd As (CY (Au 3) As)))
   (Ae (AR 5 nd (Or.inl rfl) (CY (FD (Au 3) As) (Au 4)))
   (Ae (HF false 6 ["_law_k","_law_letters","_law_mixed"] [none,some 2,some 3] rfl nd (Or.inl rfl) (DH T.b_range (Af (Au 4) AB)) (fun _ _ _ _ _=>(AD 0 (by show List.Nodup (["_law_k","_law_letters","_law_mixed"]:List Str);decide +kernel) (Or.inl rfl) (hf:=.inr rfl))) (fun _ _ _ _ _=>CV) (fun _ _ _ _ _=>(CJ hu (Au 1) (CY (Cd (FD (Au 2) (Cd (Au 0) As)) (GO (Au 0) (Au 0))) As) (fun _ _=>rfl))))
   (Ae (AR 7 nd (Or.inl rfl) (CJ hu (CZ (Af As (Af As (Af As (Af As (Af As (Af As AB))))))) (CY (FD (Au 3) As) As) (fun _ _=>rfl)))
   (Ae (AR 8 nd (Or.inl rfl) (Fs AB))
   (Ae (Df lk.own rfl (DH T.b_range (Af (Au 1) AB)) (AD 9 nd (Or.inl rfl)) (Ae (AR 10 nd (Or.inl rfl) (CJ hu (Au 2) (CY (Cd (FD (Au 3) As) (GO (Au 9) (Au 7))) As) (fun _ _=>rfl)))
   (Ap (CB (Om (CY (FD (Au 3) As) As) As) (Ap (BY (Hq FC PySem.F.slot_list_append PySem.F.type_list_append Co (Au 8) (Af (GO (CJ hu (Au 6) As (fun _ _=>rfl)) (Cd (CY (Cd (Au 9) (FD (Au 3) As)) As) As)) AB)))) (Ap (BY (Hq FC PySem.F.slot_list_append PySem.F.type_list_append Co (Au 8) (Af (Cd (Cd (Am (RH NK PySem.F.slot_str_join PySem.F.type_str_join NI GN (Af (Vu (Au 6) Ot (Oq (Au 5))) AB))) (Au 10)) (Am (RH NK PySem.F.slot_str_join PySem.F.type_str_join NI GN (Af (Vu (Au 6) (Oq (Cd (Au 5) As)) Ot) AB)))) AB))))))))
   (Ap (Bw (Au 8)))))))))))))
abbrev El:Stmt:=top 35
theorem Jg:Bb ["_law_names_here","_law_at","_law_first","_law_purse","_law_many","_law_picks","_law_open_to"] ["_law_names_here","_law_at","_law_first","_law_purse"] (Ao El):=⟨rfl,rfl,rfl,by decide +kernel,rfl,by decide +kernel,by decide +kernel⟩
theorem Nv {f:Addr} {fd:FuncData} {cStock:Addr} (Fu:Fun K "_law_parts" "_law_parts" El f fd) (T:Tx K mg cStock) :DL P w K mg base (CX1 P w) 1 f fd ["_law_names_here","_law_at","_law_first","_law_purse"] (spX K 4 (BJ)) :=
 Cb (k:=0) (g:=Dt) Fu Jg 4 3 rfl rfl (fun cdv A outer s H E _ _ hr lk=>by
  have nd:=Jg.nd
  have hu:=Dz hr
  exact (GSs.zero (Ae (AR 4 nd (Or.inl rfl) (CJ hu (CZ (Af As (Af As (Af As (Af As AB))))) (CY (Am (HK Jr PySem.F.slot_list_pop PySem.F.type_list_pop Gx (Au 3))) As) (fun _ _=>rfl)))
   (Ae (AR 5 nd (Or.inr rfl) (CZ (Af (Am (HK Jr PySem.F.slot_list_pop PySem.F.type_list_pop Gx (Au 3))) (Af (Am (HK Jr PySem.F.slot_list_pop PySem.F.type_list_pop Gx (Au 3))) AB))))
   (Ae (AR 6 nd (Or.inr rfl) (GP T.b_len (Af (Au 0) AB)))
   (Ae (CB (BR (Au 2) (fun _=>rfl)) (Ap (AR 6 nd (Or.inr rfl) (Am (Au 1)))) Bg)
   (Ae (CB (Om (Au 6) As) (Ap (Bw (HI AB))) Bg)
   (Ap (Bw (Lv T.b_tuple (Af (DA false ["_law_k","_law_names_here","_law_open_to","_law_picks"] [none,some 0,some 6,some 5] rfl (DH T.b_range (Af (Au 4) AB)) (fun _ _ _ _ _=>(AD 0 (by show List.Nodup (["_law_k","_law_names_here","_law_open_to","_law_picks"]:List Str);decide +kernel) (Or.inl rfl) (hf:=.inr rfl))) (fun _ _ _ _ _=>CV) (fun _ _ _ _ _=>(CJ hu (Au 1) (CY (CJ hu (Au 3) (Am (Au 0)) (fun _ _=>rfl)) (Au 2)) (fun _ _=>rfl)))) AB)))))))))))
abbrev C7:Stmt:=top 39
theorem Gk:Bb ["_law_stock","_law_way","_law_name","_law_kept","e"] ["_law_stock","_law_way","_law_name"] (Ao C7):=⟨rfl,rfl,rfl,by decide +kernel,rfl,by decide +kernel,by decide +kernel⟩
theorem Ke {f:Addr} {fd:FuncData} {cStock:Addr} (Fu:Fun K "_law_refused" "_law_refused" C7 f fd) (T:Tx K mg cStock) (G_Stock_makers:KR P w K mg base (CX1 P w) cStock "makers" 1 ["self","kind"] (spX K 2 (AO cStock))) (G_Stock_parts:KR P w K mg base (CX1 P w) cStock "parts" 1 ["self","maker"] (spX K 2 (AX cStock))) (G_Stock_home:KR P w K mg base (CX1 P w) cStock "home" 1 ["self","maker"] (spX K 2 (Bk cStock))) (G_Lwhich:FnAt P w K mg base (CX1 P w) "_law_which" 2 ["_law_kept"] (spX K 1 Dr)):DL P w K mg base (CX1 P w) 3 f fd ["_law_stock","_law_way","_law_name"] (spX K 3 (A4 cStock)) :=
 Cb (k:=2) (g:=Fx cStock) Fu Gk 3 2 rfl rfl (fun cdv A outer s H E _ _ hr lk=>by
  have nd:=Gk.nd
  have hu:=Dz hr
  exact (Jw (GS.zero (AR 3 nd (Or.inl rfl) Vw))
   (Jw (Qw T.xt (by decide +kernel) 4 lk nd (fun _ _ lk=>(Ap (CB (Om (Au 1) As) (Ap (BY (HJ G_Stock_makers (hr.mono (by first | decide | omega)) lk.lk (Am (Au 0)) (Aj (Am (Au 2)) AS)))) (Ap (CB (Om (Au 1) As) (Ap (BY (HJ G_Stock_parts (hr.mono (by first | decide | omega)) lk.lk (Am (Au 0)) (Aj (Am (Au 2)) AS)))) (Ap (BY (HJ G_Stock_home (hr.mono (by first | decide | omega)) lk.lk (Am (Au 0)) (Aj (Am (Au 2)) AS))))))))) (fun _=>(Ap (AR 3 nd (Or.inl rfl) (Am (Au 4))))))
   (GSs.zero (Ap (Bw (Tu (Am (BI G_Lwhich (hr.mono (by first | decide | omega)) lk.lk (Aj (Am (Au 3)) AS))) (CJ hu (CZ (Af As (Af As (Af As AB)))) (Am (Au 1)) (fun _ _=>rfl)))))))))
abbrev Ek:Stmt:=top 41
theorem Jf:Bb ["_law_stock","_law_kinds_here","_law_names_here","_law_told","_law_makers","_law_kind","_law_rows","_law_one","_law_maker","_law_parts_here","_law_got","_law_name"] ["_law_stock","_law_kinds_here","_law_names_here"] (Ao Ek):=⟨rfl,rfl,rfl,by decide +kernel,rfl,by decide +kernel,by decide +kernel⟩
theorem Nu {f:Addr} {fd:FuncData} {cStock:Addr} (Fu:Fun K "_law_right" "_law_right" Ek f fd) (T:Tx K mg cStock) (G_Lrefused:FnAt P w K mg base (CX1 P w) "_law_refused" 3 ["_law_stock","_law_way","_law_name"] (spX K 3 (A4 cStock))) (G_Stock_home:KR P w K mg base (CX1 P w) cStock "home" 1 ["self","maker"] (spX K 2 (Bk cStock))) (G_Stock_parts:KR P w K mg base (CX1 P w) cStock "parts" 1 ["self","maker"] (spX K 2 (AX cStock))) (G_Ltexts:FnAt P w K mg base (CX1 P w) "_law_texts" 1 ["_law_got"] (spX K 1 C2)) (G_Stock_makers:KR P w K mg base (CX1 P w) cStock "makers" 1 ["self","kind"] (spX K 2 (AO cStock))) (G_Stock_kinds:KR P w K mg base (CX1 P w) cStock "kinds" 1 ["self"] (spX K 1 (BU cStock))):DL P w K mg base (CX1 P w) 4 f fd ["_law_stock","_law_kinds_here","_law_names_here"] (spX K 3 (C3 cStock)) :=
 Cb (k:=3) (g:=IP cStock) Fu Jf 3 9 rfl rfl (fun cdv A outer s H E _ _ hr lk=>by
  have nd:=Jf.nd
  have hu:=Dz hr
  exact (GSs.zero (Ae (AR 3 nd (Or.inl rfl) (Tr G_Stock_kinds (hr.mono (by first | decide | omega)) (Am (Au 0)) (fun ho=>UO G_Stock_kinds (hr.mono (by first | decide | omega)) UT ho)))
   (Ae (CB (FW.ft (Mx (Dq (BR (Am (Lw 3 (BI G_Ltexts (hr.mono (by first | decide | omega)) lk.lk (Aj (Au 3) AS)))) (fun _=>rfl))) (Jz (Ol (VV hr) (Au 3) (DA false ["_law_kind","_law_rows"] [none,none] rfl (Cc (Am (Au 1))) (fun _ _ _ _ _=>(CW rfl (AH (AD 0 (by show List.Nodup (["_law_kind","_law_rows"]:List Str);decide +kernel) (Or.inl rfl) (hf:=.inr rfl)) (AH (AD 1 (by show List.Nodup (["_law_kind","_law_rows"]:List Str);decide +kernel) (Or.inl rfl) (hf:=.inr rfl)) BX (fun h1 h2=>AE h1 h2)) (fun h1 h2=>AE h1 h2)))) (fun _ _ _ _ _=>CV) (fun _ _ _ _ _=>(Am (Au 0)))))))) (Ap (Bw FJ)) Bg)
   (Ae (BY (Hq FC PySem.F.slot_list_append PySem.F.type_list_append Co (Au 3) (Af GN AB)))
   (Ae (AR 4 nd (Or.inl rfl) (Fs AB))
   (Ae (Df lk.own rfl (Cc (Am (Au 1))) (CW rfl (AH (AD 5 nd (Or.inl rfl)) (AH (AD 6 nd (Or.inl rfl)) BX (fun h1 h2=>AE h1 h2)) (fun h1 h2=>AE h1 h2))) (Ae (AR 7 nd (Or.inl rfl) (HJ G_Stock_makers (hr.mono (by first | decide | omega)) lk.lk (Am (Au 0)) (Aj (Am (Au 5)) AS)))
   (Ae (CB (FW.ft (Mx (Dq (BR (Am (Lw 7 (BI G_Ltexts (hr.mono (by first | decide | omega)) lk.lk (Aj (Au 7) AS)))) (fun _=>rfl))) (Jz (Ol (VV hr) (Au 7) (DA false ["_law_maker","_law_parts_here"] [none,none] rfl (Cc (Am (Au 6))) (fun _ _ _ _ _=>(CW rfl (AH (AD 0 (by show List.Nodup (["_law_maker","_law_parts_here"]:List Str);decide +kernel) (Or.inl rfl) (hf:=.inr rfl)) (AH (AD 1 (by show List.Nodup (["_law_maker","_law_parts_here"]:List Str);decide +kernel) (Or.inl rfl) (hf:=.inr rfl)) BX (fun h1 h2=>AE h1 h2)) (fun h1 h2=>AE h1 h2)))) (fun _ _ _ _ _=>CV) (fun _ _ _ _ _=>(Am (Au 0)))))))) (Ap (Bw FJ)) Bg)
   (Ae (BY (HK Qg PySem.F.slot_list_clear PySem.F.type_list_clear Ir (Au 7)))
   (Ap (Df lk.own rfl (Cc (Am (Au 6))) (CW rfl (AH (AD 8 nd (Or.inl rfl)) (AH (AD 9 nd (Or.inl rfl)) BX (fun h1 h2=>AE h1 h2)) (fun h1 h2=>AE h1 h2))) (Ae (AR 10 nd (Or.inl rfl) (Am (HJ G_Stock_parts (hr.mono (by first | decide | omega)) lk.lk (Am (Au 0)) (Aj (Am (Au 8)) AS))))
   (Ae (CB (FW.ft (Mx (Dq (BR (JC kit_tuple PyProof.Rows.boot_tuple T.b_isinstance T.b_tuple (Au 10)) (fun _=>rfl))) (Mx (Ol (VV hr) (Au 10) (Au 9)) (Jz (Vo (Am (HJ G_Stock_home (hr.mono (by first | decide | omega)) lk.lk (Am (Au 0)) (Aj (Am (Au 8)) AS))) (Au 5)))))) (Ap (Bw FJ)) Bg)
   (Ap (BY (Hq FC PySem.F.slot_list_append PySem.F.type_list_append Co (Au 4) (Af (Am (Au 8)) AB))))))))))))
   (Ae (Df lk.own rfl (Cc (Am (Au 2))) (AD 11 nd (Or.inl rfl)) (Ae (CB (FW.ft (Oj (DR hu (Am (Au 11)) (DA false ["_law_kind","_law_rows"] [none,none] rfl (Cc (Am (Au 1))) (fun _ _ _ _ _=>(CW rfl (AH (AD 0 (by show List.Nodup (["_law_kind","_law_rows"]:List Str);decide +kernel) (Or.inl rfl) (hf:=.inr rfl)) (AH (AD 1 (by show List.Nodup (["_law_kind","_law_rows"]:List Str);decide +kernel) (Or.inl rfl) (hf:=.inr rfl)) BX (fun h1 h2=>AE h1 h2)) (fun h1 h2=>AE h1 h2)))) (fun _ _ _ _ _=>CV) (fun _ _ _ _ _=>(Am (Au 0))))) (Ku (Dq (BR (Am (BI G_Lrefused (hr.mono (by first | decide | omega)) lk.lk (Aj (Am (Au 0)) (Aj As (Aj (Am (Au 11)) AS))))) (fun _=>rfl)))))) (Ap (Bw FJ)) Bg)
   (Ap (CB (FW.ft (Oj (DR hu (Am (Au 11)) (Au 4)) (Ku (Dq (FW.ft (Oj (BR (Am (BI G_Lrefused (hr.mono (by first | decide | omega)) lk.lk (Aj (Am (Au 0)) (Aj As (Aj (Am (Au 11)) AS))))) (fun _=>rfl)) (Ku (BR (Am (BI G_Lrefused (hr.mono (by first | decide | omega)) lk.lk (Aj (Am (Au 0)) (Aj As (Aj (Am (Au 11)) AS))))) (fun _=>rfl))))))))) (Ap (Bw FJ)) Bg))))
   (Ap (Bw FJ))))))))))
abbrev Ej:Stmt:=top 40
theorem Je:Bb ["_law_got"] ["_law_got"] (Ao Ej):=⟨rfl,rfl,rfl,by decide +kernel,rfl,by decide +kernel,by decide +kernel⟩
theorem Nt {f:Addr} {fd:FuncData} {cStock:Addr} (Fu:Fun K "_law_texts" "_law_texts" Ej f fd) (T:Tx K mg cStock) :DL P w K mg base (CX1 P w) 1 f fd ["_law_got"] (spX K 1 (C2)) :=
 Cb (k:=0) (g:=IM) Fu Je 1 0 rfl rfl (fun cdv A outer s H E _ _ hr lk=>by
  have nd:=Je.nd
  have hu:=Dz hr
  exact (GSs.zero (Ap (Bw (Vz (MA Qo PyProof.Rows.boot_list T.b_isinstance T.b_list (Au 0)) (Vv (Vy (VV hr) (DA false ["_law_one"] [none] rfl (Cc (Am (Au 0))) (fun _ _ _ _ _=>(AD 0 (by show List.Nodup (["_law_one"]:List Str);decide +kernel) (Or.inl rfl) (hf:=.inr rfl))) (fun _ _ _ _ _=>(Tp (Dq (BR (JC SX PyProof.Rows.boot_str T.b_isinstance T.b_str (Au 0)) (fun _=>rfl))))) (fun _ _ _ _ _=>(Am (Au 0)))) (CZ AB))))))))
abbrev Ei:Stmt:=top 38
theorem Jd:Bb ["_law_kept"] ["_law_kept"] (Ao Ei):=⟨rfl,rfl,rfl,by decide +kernel,rfl,by decide +kernel,by decide +kernel⟩
theorem Nr {f:Addr} {fd:FuncData} {cStock:Addr} (Fu:Fun K "_law_which" "_law_which" Ei f fd) (T:Tx K mg cStock) (G_Lclasses:FnAt P w K mg base (CX1 P w) "_law_classes" 1 ["_law_kept"] (spX K 1 CC)):DL P w K mg base (CX1 P w) 2 f fd ["_law_kept"] (spX K 1 (Dr)) :=
 Cb (k:=1) (g:=IL) Fu Jd 1 0 rfl rfl (fun cdv A outer s H E _ _ hr lk=>by
  have nd:=Jd.nd
  have hu:=Dz hr
  exact (GSs.zero (Ae (CB (FW.ft (Mx (Dq (BR (Vx T.xt T.b_isinstance T.b_ValueError (Au 0)) (fun _=>rfl))) (Jz (Vo (Am (Hq Qf PySem.F.slot_list_count PySem.F.type_list_count Qd (Am (BI G_Lclasses (hr.mono (by first | decide | omega)) lk.lk (Aj (Am (Au 0)) AS))) (Af FJ AB))) As)))) (Ap (Bw (Lx As))) Bg)
   (Ap (Bw (Hq Qe PySem.F.slot_list_index PySem.F.type_list_index Qc (Am (BI G_Lclasses (hr.mono (by first | decide | omega)) lk.lk (Aj (Am (Au 0)) AS))) (Af FJ AB)))))))
abbrev Cm:Stmt:=inClass (top 25) 4
theorem EU:Bb ["self","maker"] ["self","maker"] (Ao Cm):=⟨rfl,rfl,rfl,by decide +kernel,rfl,by decide +kernel,by decide +kernel⟩
theorem Ip {f:Addr} {fd:FuncData} {cStock:Addr} (Fu:Fun K "home" "Stock.home" Cm f fd) (T:Tx K mg cStock) :DL P w K mg base (CX1 P w) 1 f fd ["self","maker"] (spX K 2 (Bk cStock)) :=
 Cb (k:=0) (g:=Cn cStock) Fu EU 2 0 rfl rfl (fun cdv A outer s H E _ _ hr lk=>by
  have nd:=EU.nd
  have hu:=Dz hr
  exact (GSs.zero (Ae (CB (DR hu (Am (Au 1)) (GQ T.cl_Stock T.na_Stock_home_by_maker (Au 0))) (Ap (GI (T.xt.t1 (by decide +kernel)) lk rfl (Au 1))) Bg)
   (Ap (Bw (CJ hu (GQ T.cl_Stock T.na_Stock_home_by_maker (Au 0)) (Am (Au 1)) (fun _ _=>rfl)))))))
abbrev Ck:Stmt:=inClass (top 25) 0
theorem ET:Bb ["self","kinds","kind","makers","maker","parts"] ["self","kinds"] (Ao Ck):=⟨rfl,rfl,rfl,by decide +kernel,rfl,by decide +kernel,by decide +kernel⟩
theorem Io {f:Addr} {fd:FuncData} {cStock:Addr} (Fu:Fun K "__init__" "Stock.__init__" Ck f fd) (T:Tx K mg cStock) (G_check_makers:FnAt P w K mg base (CX1 P w) "check_makers" 3 ["kinds"] (spX K 1 BD)) (G_check_kinds:FnAt P w K mg base (CX1 P w) "check_kinds" 2 ["kinds"] (spX K 1 BS)):DL P w K mg base (CX1 P w) 4 f fd ["self","kinds"] (spX K 2 (Bj cStock)) :=
 Cb (k:=3) (g:=CL cStock) Fu ET 2 4 rfl rfl (fun cdv A outer s H E _ _ hr lk=>by
  have nd:=ET.nd
  have hu:=Dz hr
  exact (GSs.zero (Ae (BY (BI G_check_kinds (hr.mono (by first | decide | omega)) lk.lk (Aj (Am (Au 1)) AS)))
   (Ae (BY (BI G_check_makers (hr.mono (by first | decide | omega)) lk.lk (Aj (Am (Au 1)) AS)))
   (Ae (Oc T.cl_Stock T.na_Stock_makers_by_kind 0 E4 (fun hv=>M7 (pv 0) hv rfl))
   (Ae (Oc T.cl_Stock T.na_Stock_parts_by_maker 0 E4 (fun hv=>M7 (pv 0) hv rfl))
   (Ae (Oc T.cl_Stock T.na_Stock_home_by_maker 0 E4 (fun hv=>M7 (pv 0) hv rfl))
   (Ap (Df lk.own rfl (Cc (Am (Au 1))) (CW rfl (AH (AD 2 nd (Or.inl rfl)) (AH (AD 3 nd (Or.inl rfl)) BX (fun h1 h2=>AE h1 h2)) (fun h1 h2=>AE h1 h2))) (Ae (IC T.cl_Stock T.na_Stock_makers_by_kind 0 2 (DA false ["maker","parts"] [none,none] rfl (Cc (Am (Au 3))) (fun _ _ _ _ _=>(CW rfl (AH (AD 0 (by show List.Nodup (["maker","parts"]:List Str);decide +kernel) (Or.inl rfl) (hf:=.inr rfl)) (AH (AD 1 (by show List.Nodup (["maker","parts"]:List Str);decide +kernel) (Or.inl rfl) (hf:=.inr rfl)) BX (fun h1 h2=>AE h1 h2)) (fun h1 h2=>AE h1 h2)))) (fun _ _ _ _ _=>CV) (fun _ _ _ _ _=>(Am (Au 0)))) (fun hv=>J9 hu (K7 (pv 0) rfl) (pv 2) hv rfl))
   (Ap (Df lk.own rfl (Cc (Am (Au 3))) (CW rfl (AH (AD 4 nd (Or.inl rfl)) (AH (AD 5 nd (Or.inl rfl)) BX (fun h1 h2=>AE h1 h2)) (fun h1 h2=>AE h1 h2))) (Ae (IC T.cl_Stock T.na_Stock_parts_by_maker 0 4 (Lv T.b_tuple (Af (Au 5) AB)) (fun hv=>J9 hu (K7 (pv 0) rfl) (pv 4) hv rfl))
   (Ap (IC T.cl_Stock T.na_Stock_home_by_maker 0 4 (Am (Au 2)) (fun hv=>J9 hu (K7 (pv 0) rfl) (pv 4) hv rfl))))))))))))))))
abbrev BQ:Stmt:=inClass (top 25) 1
theorem EE:Bb ["self"] ["self"] (Ao BQ):=⟨rfl,rfl,rfl,by decide +kernel,rfl,by decide +kernel,by decide +kernel⟩
theorem Hl {f:Addr} {fd:FuncData} {cStock:Addr} (Fu:Fun K "kinds" "Stock.kinds" BQ f fd) (T:Tx K mg cStock) :DL P w K mg base (CX1 P w) 1 f fd ["self"] (spX K 1 (BU cStock)) :=
 Cb (k:=0) (g:=Cv cStock) Fu EE 1 0 rfl rfl (fun cdv A outer s H E _ _ hr lk=>by
  have nd:=EE.nd
  have hu:=Dz hr
  exact (GSs.zero (Ap (Bw (Kw T.b_list (Af (GQ T.cl_Stock T.na_Stock_makers_by_kind (Au 0)) AB))))))
abbrev BC:Stmt:=inClass (top 25) 2
theorem D8:Bb ["self","kind"] ["self","kind"] (Ao BC):=⟨rfl,rfl,rfl,by decide +kernel,rfl,by decide +kernel,by decide +kernel⟩
theorem Gv {f:Addr} {fd:FuncData} {cStock:Addr} (Fu:Fun K "makers" "Stock.makers" BC f fd) (T:Tx K mg cStock) :DL P w K mg base (CX1 P w) 1 f fd ["self","kind"] (spX K 2 (AO cStock)) :=
 Cb (k:=0) (g:=BE cStock) Fu D8 2 0 rfl rfl (fun cdv A outer s H E _ _ hr lk=>by
  have nd:=D8.nd
  have hu:=Dz hr
  exact (GSs.zero (Ae (CB (DR hu (Am (Au 1)) (GQ T.cl_Stock T.na_Stock_makers_by_kind (Au 0))) (Ap (GI (T.xt.t1 (by decide +kernel)) lk rfl (Au 1))) Bg)
   (Ap (Bw (Kw T.b_list (Af (CJ hu (GQ T.cl_Stock T.na_Stock_makers_by_kind (Au 0)) (Am (Au 1)) (fun _ _=>rfl)) AB)))))))
abbrev BP:Stmt:=inClass (top 25) 3
theorem ED:Bb ["self","maker"] ["self","maker"] (Ao BP):=⟨rfl,rfl,rfl,by decide +kernel,rfl,by decide +kernel,by decide +kernel⟩
theorem Hk {f:Addr} {fd:FuncData} {cStock:Addr} (Fu:Fun K "parts" "Stock.parts" BP f fd) (T:Tx K mg cStock) :DL P w K mg base (CX1 P w) 1 f fd ["self","maker"] (spX K 2 (AX cStock)) :=
 Cb (k:=0) (g:=BV cStock) Fu ED 2 0 rfl rfl (fun cdv A outer s H E _ _ hr lk=>by
  have nd:=ED.nd
  have hu:=Dz hr
  exact (GSs.zero (Ae (CB (DR hu (Am (Au 1)) (GQ T.cl_Stock T.na_Stock_parts_by_maker (Au 0))) (Ap (GI (T.xt.t1 (by decide +kernel)) lk rfl (Au 1))) Bg)
   (Ap (Bw (CJ hu (GQ T.cl_Stock T.na_Stock_parts_by_maker (Au 0)) (Am (Au 1)) (fun _ _=>rfl)))))))
abbrev BB:Stmt:=top 29
theorem D7:Bb ["maker","parts","kinds_above","part"] ["maker","parts","kinds_above"] (Ao BB):=⟨rfl,rfl,rfl,by decide +kernel,rfl,by decide +kernel,by decide +kernel⟩
theorem Gu {f:Addr} {fd:FuncData} {cStock:Addr} (Fu:Fun K "check_ground" "check_ground" BB f fd) (T:Tx K mg cStock) :DL P w K mg base (CX1 P w) 1 f fd ["maker","parts","kinds_above"] (spX K 3 (A6)) :=
 Cb (k:=0) (g:=Cf) Fu D7 3 1 rfl rfl (fun cdv A outer s H E _ _ hr lk=>by
  have nd:=D7.nd
  have hu:=Dz hr
  exact (GSs.zero (Ap (Df lk.own rfl (Cc (Am (Au 1))) (AD 3 nd (Or.inl rfl)) (Ap (CB (DR hu (Am (Au 3)) (Au 2)) (Ap Dp) Bg))))))
abbrev BO:Stmt:=top 26
theorem EC:Bb ["kinds","above","kind","makers"] ["kinds"] (Ao BO):=⟨rfl,rfl,rfl,by decide +kernel,rfl,by decide +kernel,by decide +kernel⟩
theorem Hj {f:Addr} {fd:FuncData} {cStock:Addr} (Fu:Fun K "check_kinds" "check_kinds" BO f fd) (T:Tx K mg cStock) (G_is_name:FnAt P w K mg base (CX1 P w) "is_name" 1 ["text"] (spX K 1 Bm)):DL P w K mg base (CX1 P w) 2 f fd ["kinds"] (spX K 1 (BS)) :=
 Cb (k:=1) (g:=Cu) Fu EC 1 3 rfl rfl (fun cdv A outer s H E _ _ hr lk=>by
  have nd:=EC.nd
  have hu:=Dz hr
  exact (GSs.zero (Ae (CB (Dq (IG of_le of_le As (GP T.b_len (Af (Au 0) AB)) (QH T.g_MOST_KINDS) (fun ha hb hc=>Ij Me Me ha hb hc))) (Ap (Qv (T.xt.t1 (by decide +kernel)) lk rfl (Af GN AB))) Bg)
   (Ae (AR 1 nd (Or.inl rfl) E4)
   (Ap (Df lk.own rfl (Cc (Am (Au 0))) (CW rfl (AH (AD 2 nd (Or.inl rfl)) (AH (AD 3 nd (Or.inl rfl)) BX (fun h1 h2=>AE h1 h2)) (fun h1 h2=>AE h1 h2))) (Ae (CB (Dq (BR (Am (BI G_is_name (hr.mono (by first | decide | omega)) lk.lk (Aj (Am (Au 2)) AS))) (fun _=>rfl))) (Ap Dp) Bg)
   (Ae (CB (Vp hu (Am (Au 2)) (Au 1)) (Ap Dp) Bg)
   (Ae (CB (Dq (IG of_le of_le As (GP T.b_len (Af (Au 3) AB)) (QH T.g_MOST_MAKERS) (fun ha hb hc=>Ij Me Me ha hb hc))) (Ap Dp) Bg)
   (Ap (Lo hu FJ (Au 1) (Am (Au 2)) (fun he ho hi hs=>Rk he (Ro ho hi hs)))))))))))))
abbrev BN:Stmt:=top 28
theorem EB:Bb ["maker","parts","makers_ahead","all_kinds","part"] ["maker","parts","makers_ahead","all_kinds"] (Ao BN):=⟨rfl,rfl,rfl,by decide +kernel,rfl,by decide +kernel,by decide +kernel⟩
theorem Hi {f:Addr} {fd:FuncData} {cStock:Addr} (Fu:Fun K "check_maker" "check_maker" BN f fd) (T:Tx K mg cStock) (G_is_name:FnAt P w K mg base (CX1 P w) "is_name" 1 ["text"] (spX K 1 Bm)):DL P w K mg base (CX1 P w) 2 f fd ["maker","parts","makers_ahead","all_kinds"] (spX K 4 (Bh)) :=
 Cb (k:=1) (g:=Ct) Fu EB 4 1 rfl rfl (fun cdv A outer s H E _ _ hr lk=>by
  have nd:=EB.nd
  have hu:=Dz hr
  exact (GSs.zero (Ae (CB (Dq (BR (Am (BI G_is_name (hr.mono (by first | decide | omega)) lk.lk (Aj (Am (Au 0)) AS))) (fun _=>rfl))) (Ap Dp) Bg)
   (Ae (CB (Vp hu (Am (Au 0)) (Au 2)) (Ap Dp) Bg)
   (Ae (CB (WS (GP T.b_len (Af (Au 1) AB)) (QH T.g_MOST_PARTS)) (Ap Dp) Bg)
   (Ap (Df lk.own rfl (Cc (Am (Au 1))) (AD 4 nd (Or.inl rfl)) (Ap (CB (DR hu (Am (Au 4)) (Au 3)) (Ap Dp) Bg)))))))))
abbrev BA:Stmt:=top 27
theorem D6:Bb ["kinds","all_kinds","kinds_above","makers_ahead","kind","makers","first","maker","parts"] ["kinds"] (Ao BA):=⟨rfl,rfl,rfl,by decide +kernel,rfl,by decide +kernel,by decide +kernel⟩
theorem Gs {f:Addr} {fd:FuncData} {cStock:Addr} (Fu:Fun K "check_makers" "check_makers" BA f fd) (T:Tx K mg cStock) (G_check_ground:FnAt P w K mg base (CX1 P w) "check_ground" 1 ["maker","parts","kinds_above"] (spX K 3 A6)) (G_check_maker:FnAt P w K mg base (CX1 P w) "check_maker" 2 ["maker","parts","makers_ahead","all_kinds"] (spX K 4 Bh)):DL P w K mg base (CX1 P w) 3 f fd ["kinds"] (spX K 1 (BD)) :=
 Cb (k:=2) (g:=Ce) Fu D6 1 8 rfl rfl (fun cdv A outer s H E _ _ hr lk=>by
  have nd:=D6.nd
  have hu:=Dz hr
  exact (GSs.zero (Ae (HF false 1 ["kind","makers"] [none,none] rfl nd (Or.inl rfl) (Cc (Am (Au 0))) (fun _ _ _ _ _=>(CW rfl (AH (AD 0 (by show List.Nodup (["kind","makers"]:List Str);decide +kernel) (Or.inl rfl) (hf:=.inr rfl)) (AH (AD 1 (by show List.Nodup (["kind","makers"]:List Str);decide +kernel) (Or.inl rfl) (hf:=.inr rfl)) BX (fun h1 h2=>AE h1 h2)) (fun h1 h2=>AE h1 h2)))) (fun _ _ _ _ _=>CV) (fun _ _ _ _ _=>(Am (Au 0))))
   (Ae (AR 2 nd (Or.inl rfl) (Fs AB))
   (Ae (AR 3 nd (Or.inl rfl) E4)
   (Ap (Df lk.own rfl (Cc (Am (Au 0))) (CW rfl (AH (AD 4 nd (Or.inl rfl)) (AH (AD 5 nd (Or.inl rfl)) BX (fun h1 h2=>AE h1 h2)) (fun h1 h2=>AE h1 h2))) (Ae (AR 6 nd (Or.inl rfl) (CJ hu (CJ hu (Au 5) As (fun _ _=>rfl)) As (fun _ _=>rfl)))
   (Ae (Df lk.own rfl (Cc (Am (Au 5))) (CW rfl (AH (AD 7 nd (Or.inl rfl)) (AH (AD 8 nd (Or.inl rfl)) BX (fun h1 h2=>AE h1 h2)) (fun h1 h2=>AE h1 h2))) (Ae (BY (BI G_check_maker (hr.mono (by first | decide | omega)) lk.lk (Aj (Am (Au 7)) (Aj (Am (Au 8)) (Aj (Au 3) (Aj (Am (Au 1)) AS))))))
   (Ae (CB (Om (Au 7) (Au 6)) (Ap (BY (BI G_check_ground (hr.mono (by first | decide | omega)) lk.lk (Aj (Am (Au 7)) (Aj (Am (Au 8)) (Aj (Au 2) AS)))))) Bg)
   (Ap (Lo hu FJ (Au 3) (Am (Au 7)) (fun he ho hi hs=>Rk he (Ro ho hi hs)))))))
   (Ap (BY (Hq FC PySem.F.slot_list_append PySem.F.type_list_append Co (Au 2) (Af (Am (Au 4)) AB)))))))))))))
abbrev DD:Stmt:=top 20
theorem Hw:Bb ["text"] ["text"] (Ao DD):=⟨rfl,rfl,rfl,by decide +kernel,rfl,by decide +kernel,by decide +kernel⟩
theorem Mg {f:Addr} {fd:FuncData} {cStock:Addr} (Fu:Fun K "is_name" "is_name" DD f fd) (T:Tx K mg cStock) :DL P w K mg base (CX1 P w) 1 f fd ["text"] (spX K 1 (Bm)) :=
 Cb (k:=0) (g:=Ef) Fu Hw 1 0 rfl rfl (fun cdv A outer s H E _ _ hr lk=>by
  have nd:=Hw.nd
  have hu:=Dz hr
  exact (GSs.zero (Ae (CB (Dq (IG of_le of_le As (GP T.b_len (Af (Au 0) AB)) (QH T.g_MOST_LETTERS) (fun ha hb hc=>Ij Me Me ha hb hc))) (Ap (Bw FJ)) Bg)
   (Ap (Bw (VA T.b_all (Af (DA false ["sign"] [none] rfl (Cc (Am (Au 0))) (fun _ _ _ _ _=>(AD 0 (by show List.Nodup (["sign"]:List Str);decide +kernel) (Or.inl rfl) (hf:=.inr rfl))) (fun _ _ _ _ _=>CV) (fun _ _ _ _ _=>(WU hu (Am (Au 0)) (WV T.g_LETTERS)))) AB)))))))
abbrev Ic:Stmt:=top 42
theorem Rb:Bb ["_law_script","_law_kinds_here","_law_names_here","_law_kind","_law_rows","_law_handed","_law_stock","_law_few","_law_beside"] ["_law_script"] (Ao Ic):=⟨rfl,rfl,rfl,by decide +kernel,rfl,by decide +kernel,by decide +kernel⟩
theorem U1 {f:Addr} {fd:FuncData} {cStock:Addr} (Fu:Fun K "law" "law" Ic f fd) (T:Tx K mg cStock) (G_Lright:FnAt P w K mg base (CX1 P w) "_law_right" 4 ["_law_stock","_law_kinds_here","_law_names_here"] (spX K 3 (C3 cStock))) (G_Stock_init:V3 P w K mg base (CX1 P w) "Stock" cStock 4 ["self","kinds"] (spX K 2 (Bj cStock))) (G_Lkinds:FnAt P w K mg base (CX1 P w) "_law_kinds" 2 ["_law_script"] (spX K 1 DS)):DL P w K mg base (CX1 P w) 6 f fd ["_law_script"] (spX K 1 (VB cStock)) :=
 Cb (k:=5) (g:=QZ cStock) Fu Rb 1 8 rfl rfl (fun cdv A outer s H E _ _ hr lk=>by
  have nd:=Rb.nd
  have hu:=Dz hr
  exact (GSs.zero (Ae (AR 1 nd (Or.inl rfl) (Am (BI G_Lkinds (hr.mono (by first | decide | omega)) lk.lk (Aj (Am (Au 0)) AS))))
   (Ae (AR 2 nd (Or.inl rfl) (Am (Cd (DA false ["_law_kind","_law_rows"] [none,none] rfl (Cc (Am (Au 1))) (fun _ _ _ _ _=>(CW rfl (AH (AD 0 (by show List.Nodup (["_law_kind","_law_rows"]:List Str);decide +kernel) (Or.inl rfl) (hf:=.inr rfl)) (AH (AD 1 (by show List.Nodup (["_law_kind","_law_rows"]:List Str);decide +kernel) (Or.inl rfl) (hf:=.inr rfl)) BX (fun h1 h2=>AE h1 h2)) (fun h1 h2=>AE h1 h2)))) (fun _ _ _ _ _=>CV) (fun _ _ _ _ _=>(Am (Au 0)))) (CZ (Af GN (Af GN AB))))))
   (Ae (Df lk.own rfl (Cc (Am (Au 1))) (CW rfl (AH (AD 3 nd (Or.inl rfl)) (AH (AD 4 nd (Or.inl rfl)) BX (fun h1 h2=>AE h1 h2)) (fun h1 h2=>AE h1 h2))) (Ap (AR 2 nd (Or.inl rfl) (Am (Cd (Au 2) (DA false ["_law_maker","_law_parts_here"] [none,none] rfl (Cc (Am (Au 4))) (fun _ _ _ _ _=>(CW rfl (AH (AD 0 (by show List.Nodup (["_law_maker","_law_parts_here"]:List Str);decide +kernel) (Or.inl rfl) (hf:=.inr rfl)) (AH (AD 1 (by show List.Nodup (["_law_maker","_law_parts_here"]:List Str);decide +kernel) (Or.inl rfl) (hf:=.inr rfl)) BX (fun h1 h2=>AE h1 h2)) (fun h1 h2=>AE h1 h2)))) (fun _ _ _ _ _=>CV) (fun _ _ _ _ _=>(Am (Au 0)))))))))
   (Ae (Ks 5 ["_law_kind","_law_rows"] [none,none] rfl nd (Or.inl rfl) (Cc (Am (Au 1))) (fun _ _ _ _ _=>(CW rfl (AH (AD 0 (by show List.Nodup (["_law_kind","_law_rows"]:List Str);decide +kernel) (Or.inl rfl) (hf:=.inr rfl)) (AH (AD 1 (by show List.Nodup (["_law_kind","_law_rows"]:List Str);decide +kernel) (Or.inl rfl) (hf:=.inr rfl)) BX (fun h1 h2=>AE h1 h2)) (fun h1 h2=>AE h1 h2)))) (fun _ _ _ _ _=>(Vs (Aj (Am (Au 0)) (Aj (Kw T.b_list (Af (Au 1) AB)) AS)))))
   (Ae (AR 6 nd (Or.inl rfl) (Am (Tq 5 (RG G_Stock_init (hr.mono (by first | decide | omega)) (Aj (Au 5) AS)))))
   (Qu 5 3 4 lk.own rfl nd (Or.inl rfl) (Or.inl rfl)
   (Ae (AR 7 nd (Or.inl rfl) (CZ (Af (HI (Af (CJ hu (CJ hu (Au 1) (Lx As) (fun _ _=>rfl)) As (fun _ _=>rfl)) (Af (CZ (Af (HI (Af (CJ hu (CJ hu (CJ hu (CJ hu (Au 1) (Lx As) (fun _ _=>rfl)) As (fun _ _=>rfl)) (Lx As) (fun _ _=>rfl)) As (fun _ _=>rfl)) (Af (HI AB) AB))) AB)) AB))) AB)))
   (Ae (AR 8 nd (Or.inl rfl) (Am (RG G_Stock_init (hr.mono (by first | decide | omega)) (Aj (Am (Au 7)) AS))))
   (Ae (CB (FW.ft (Mx (Dq (BR (Am (BI G_Lright (hr.mono (by first | decide | omega)) lk.lk (Aj (Am (Au 6)) (Aj (Am (Au 1)) (Aj (Am (Au 2)) AS))))) (fun _=>rfl))) (Jz (Dq (BR (Am (BI G_Lright (hr.mono (by first | decide | omega)) lk.lk (Aj (Am (Au 8)) (Aj (Am (Au 7)) (Aj (Am (Au 2)) AS))))) (fun _=>rfl)))))) (Ap (Bw FJ)) Bg)
   (Ap (Bw (BI G_Lright (hr.mono (by first | decide | omega)) lk.lk (Aj (Am (Au 6)) (Aj (Am (Au 1)) (Aj (Am (Au 2)) AS)))))))))))))))))
end
end Sy
namespace Nm
def M (c:Int):Int:=(c * c+c+1) * 982451653
def W (c:Int):Int:=1+M c % 12
def At (c:Int):Int:=M c / 12 % W c
def CG (i:Int):Nat:=97+(i % 26).toNat
def base (c:Int) (j:Nat):Nat:=CG (M c / ((j:Int)+5)+(j:Int) * j)
def stepI (c:Int):Nat:=(M c / 144 % 6).toNat
def step (c:Int):Int:=([1,3,5,7,9,11]:List Int).getD (stepI c) 1
def one (c:Int) (k:Nat):Nat:=CG (M c / 864+(k:Int) * step c)
def JG (c:Int) (k:Nat):List Nat:=List.replicate (((k:Int)+M c / 7) % 12+1).toNat (base c 0)
def HP (c:Int) (k:Nat):List Nat:=(List.range (At c).toNat).map (base c)++[one c k]++(List.range ((W c).toNat - ((At c).toNat+1))).map fun j=>base c ((At c).toNat+1+j)
def codes (c:Int) (k:Nat):List Nat:=if M c / 900 % 3=1 then JG c k else HP c k
theorem VP (c:Int):1<=W c:=by unfold W;omega
theorem W6 (c:Int):W c<=12:=by unfold W;omega
theorem VQ (c:Int):0<=At c:=Int.emod_nonneg _ (by have:=VP c;omega)
theorem VR (c:Int):At c < W c:=Int.emod_lt_of_pos _ (by have:=VP c;omega)
theorem NP (i:Int):97<=CG i:=by unfold CG;omega
theorem NQ (i:Int):CG i<=122:=by unfold CG;omega
theorem KY (c:Int):step c=1∨step c=3∨step c=5∨step c=7∨step c=9∨step c=11:=by
 have h:stepI c < 6:=by unfold stepI;omega
 unfold step
 generalize stepI c=i at h
 match i,h with
 | 0,_=>simp
 | 1,_=>simp
 | 2,_=>simp
 | 3,_=>simp
 | 4,_=>simp
 | 5,_=>simp
theorem one_inj {c:Int} {k k':Nat} (hk:k < 12) (hk':k' < 12) (h:one c k=one c k'):k=k':=by
 unfold one CG at h
 have h':((M c / 864+(k:Int) * step c) % 26)=((M c / 864+(k':Int) * step c) % 26):=by omega
 generalize M c / 864=m at h'
 rcases KY c with e | e | e | e | e | e <;> rw [e] at h' <;> omega
theorem Es (c:Int) (k:Nat):(JG c k).length=(((k:Int)+M c / 7) % 12+1).toNat:=by unfold JG;simp
theorem HN (c:Int) (k:Nat):(HP c k).length=(W c).toNat:=by
 unfold HP
 simp only [List.length_append,List.length_map,List.length_range,List.length_singleton]
 have:=VQ c;have:=VR c
 omega
theorem QO (c:Int) (k:Nat):1<=(codes c k).length:=by
 unfold codes
 split
 ·rw [Es];omega
 ·rw [HN];have:=VP c;omega
theorem LG (c:Int) (k:Nat):(codes c k).length<=12:=by
 unfold codes
 split
 ·rw [Es];omega
 ·rw [HN];have:=W6 c;omega
theorem E5 (c:Int) (k:Nat):∀ x∈codes c k,97<=x/\x<=122:=by
 intro x hx
 have key:∃ i,x=CG i:=by
  unfold codes at hx
  split at hx
  ·unfold JG at hx
   exact ⟨_,(List.mem_replicate.mp hx).2⟩
  ·unfold HP at hx
   rcases List.mem_append.mp hx with hx | hx
   ·rcases List.mem_append.mp hx with hx | hx
    ·obtain ⟨j,_,rfl⟩:=List.mem_map.mp hx
     exact ⟨_,rfl⟩
    ·rw [List.mem_singleton.mp hx]
     exact ⟨_,rfl⟩
   ·obtain ⟨j,_,rfl⟩:=List.mem_map.mp hx
    exact ⟨_,rfl⟩
 obtain ⟨i,rfl⟩:=key
 exact ⟨NP i,NQ i⟩
theorem OQ {c:Int} {k k':Nat} (hk:k < 12) (hk':k' < 12) (h:codes c k=codes c k'):k=k':=by
 unfold codes at h
 split at h
 ·have e:=congrArg List.length h
  rw [Es,Es] at e
  omega
 ·unfold HP at h
  rw [List.append_assoc,List.append_assoc] at h
  have h1:=List.append_cancel_left h
  rw [List.singleton_append,List.singleton_append] at h1
  exact one_inj hk hk' (List.cons.inj h1).1
end Nm
namespace Sy
open PySem PySem.Spec L2 FL
theorem AJ {g h:FS->SO} {fs fs':FS} (e:g fs=.nx fs'):AN g h fs=h fs':=by unfold AN;rw [e]
abbrev vl (t:T):Option Sl:=some (.val t)
abbrev iv (i:Int):Option Sl:=some (.val (.int i))
def Fre:Option Sl->Prop
 | some (.bor _)=>False
 | _=>True
theorem Aw:Fre none:=True.intro
theorem Be {t:T}:Fre (vl t):=True.intro
theorem Bd {fs:FS} {i:Nat} {t:T} {x:Option Sl} (e:fs[i]?=some x) (h:Fre x):HZ i (.t t) fs=some (fs.set i (vl t)):=by
 unfold HZ
 rw [e]
 cases x with
 | none=>rfl
 | some s=>cases s with
  | val t=>rfl
  | own o=>rfl
  | bor o=>exact h.elim
theorem Ed {fe:FS->Out Rv} {f:T->T} {rest:FS}:∀ (ts:List T) (x:Option Sl) (acc:List T),Fre x->(∀ t∈ts,fe (vl t :: rest)=.ok (.t (f t)) (vl t :: rest))->acc.length+ts.length<=big ->
  ∃ y,Fre y/\D2 (tgN 0) DY fe ts (x :: rest) acc=some (acc++ts.map f,y :: rest)
 | [],x,acc,hx,_,_=>⟨x,hx,by simp [D2]⟩
 | t :: ts,x,acc,hx,h,hl=>by
  obtain ⟨y,hy,e⟩:=Ed ts (vl t) (acc++[f t]) Be (fun t' m=>h t' (List.mem_cons_of_mem _ m)) (by simp at hl ⊢;omega)
  refine ⟨y,hy,?_⟩
  have h1:tgN 0 t (x :: rest)=some (vl t :: rest):=by
   unfold tgN
   rw [Bd (x:=x) rfl hx]
   rfl
  have h2:=h t List.mem_cons_self
  have h3:acc.length < big:=by simp at hl;omega
  simp only [D2,h1,DY,h2,if_pos h3,e]
  simp
theorem CU {gt:T->FS->Option FS} {body:FS->SO} (P:List T->FS->Prop) (step:∀ t ts fs,P (t :: ts) fs->∃ fs1 fs2,gt t fs=some fs1/\body fs1=.nx fs2/\P ts fs2):∀ (ts:List T) (fs:FS),P ts fs->∃ fs',FY gt body ts fs=.nx fs'/\P [] fs'
 | [],fs,h=>⟨fs,rfl,h⟩
 | t :: ts,fs,h=>by
  obtain ⟨fs1,fs2,e1,e2,h2⟩:=step t ts fs h
  obtain ⟨fs',e,hp⟩:=CU P step ts fs2 h2
  exact ⟨fs',by simp only [FY,e1,e2,e],hp⟩
theorem HV:∀ ns:List Int,C1 (ns.map T.int)=some ns
 | []=>rfl
 | n :: ns=>by simp [C1,HV ns]
def IsI (t:T) (ns:List Int):Prop:=t=.scr (ns.map T.int)∨t=.lst (ns.map T.int)
theorem IsI.seq {t:T} {ns:List Int} (h:IsI t ns) (fs:FS):C6 fs (.t t)=some (ns.map T.int):=by rcases h with rfl | rfl <;> rfl
theorem PQ {a j c:Int} {i:Nat} (hc:0 < c) (h:i < (Builtin.Range.rangeSize a j c).toNat):a+i * c < j:=by
 unfold Builtin.Range.rangeSize at h
 rw [if_pos hc] at h
 by_cases haj:a < j
 ·rw [if_pos haj] at h
  have h2:(i:Int)<=(j - a - 1) / c:=by omega
  have h3:=(Int.le_ediv_iff_mul_le hc).mp h2
  omega
 ·rw [if_neg haj] at h
  simp at h
theorem K1 {a j c:Int} (hc:0 < c):0<=Builtin.Range.rangeSize a j c:=by
 unfold Builtin.Range.rangeSize
 rw [if_pos hc]
 by_cases haj:a < j
 ·rw [if_pos haj]
  have:0<=(j - a - 1) / c:=Int.ediv_nonneg (by omega) (by omega)
  omega
 ·rw [if_neg haj]
  exact Int.le_refl 0
theorem Gp {a j c:Int} (hc:0 < c) (h0:0<=a) (h:j<=63):(Builtin.Range.rangeSize a j c).toNat<=63:=by
 unfold Builtin.Range.rangeSize
 rw [if_pos hc]
 by_cases haj:a < j
 ·rw [if_pos haj]
  have:(j - a - 1) / c<=j - a - 1:=Int.ediv_le_self _ (by omega)
  omega
 ·rw [if_neg haj]
  simp
theorem MT {a b c:Int} (a0:0<=a) (a1:a<=1000) (b0:0<=b) (b1:b<=63) (c0:1<=c) (c1:c<=1000):Builtin.Range.small a b c=true:=by
 have h1:=K1 (a:=a) (j:=b) (c:=c) (by omega)
 have h2:=Gp (a:=a) (j:=b) (c:=c) (by omega) a0 b1
 unfold Builtin.Range.small
 simp only [Builtin.Range.rangeFitsLong,Bool.and_eq_true,Bool.or_eq_true,decide_eq_true_eq,beq_iff_eq,show c > 0 by omega,if_true]
 omega
section
variable {i j:Int} {fs:FS}
theorem CT:AL (.t (.int i)) (.t (.int j)) fs=.ok (.t (.int (i+j))) fs:=rfl
theorem Dg (h:0 < j):CF (.t (.int i)) (.t (.int j)) fs=.ok (.t (.int (i % j))) fs:=if_pos h
theorem HH (h:0 < j/\j < 1073741824):Fc (.t (.int i)) (.t (.int j)) fs=.ok (.t (.int (i / j))) fs:=if_pos h
theorem IE (h:-(2 ^ 64) < i/\i < 2 ^ 64):BZ (.t (.int i)) (.t (.int j)) fs=.ok (.t (.int (i * j))) fs:=by
 have e:Ub (.t (.int i)) (.t (.int j)) fs=.ok (.t (.int (i * j))) fs:=if_pos (by rw [decide_eq_true h];rfl)
 unfold BZ orG
 rw [e]
theorem Tg (h:Builtin.Int.intBits i<=2 ^ 26/\Builtin.Int.intBits j<=2 ^ 26):BZ (.t (.int i)) (.t (.int j)) fs=.ok (.t (.int (i * j))) fs:=by
 have e:Ub (.t (.int i)) (.t (.int j)) fs=.ok (.t (.int (i * j))) fs:=if_pos (by rw [decide_eq_true h.1,decide_eq_true h.2];simp)
 unfold BZ orG
 rw [e]
end
theorem BH {x:Rv} {ts:List T} {i:Int} {t:T} {fs:FS} (h:C6 fs x=some ts) (e:atI ts i=some t):Bn x (.t (.int i)) fs=.ok (.t t) fs:=by
 have e':gIx x (.t (.int i)) fs=.ok (.t t) fs:=by
  simp only [gIx,h,e,okT]
 unfold Bn orG
 rw [e']
theorem RE {t:T} {ns:List Int} {i:Int} {fs:FS} (h:IsI t ns) (h0:0<=i) (h1:i < ns.length):Bn (.t t) (.t (.int i)) fs=.ok (.t (.int (ns.getD i.toNat 0))) fs:=by
 refine BH (h.seq fs) ?_
 have e:(ns.map T.int)[i.toNat]?=some (T.int (ns.getD i.toNat 0)):=by
  have:i.toNat < ns.length:=by omega
  simp [this]
 have:=A9 e
 rwa [Int.toNat_of_nonneg h0] at this
theorem HB {fs:FS} {j:Nat}:∀ {is:List Ini} {k:Nat},(∀ i∈is,Dn fs i=none)->FL.placeOf fs j is k=none
 | [],_,_=>rfl
 | i :: is,k,h=>by
  simp only [FL.placeOf]
  rw [h i List.mem_cons_self,if_neg (by simp)]
  exact HB fun i' m=>h i' (List.mem_cons_of_mem _ m)
theorem HS {fs:FS} {is:List Ini} {τ:FS} (h:∀ i∈is,Dn fs i=none):∀ (gs:FS) (j:Nat),KI fs is τ j gs=some gs
 | [],_=>rfl
 | g :: gs,j=>by
  simp only [KI,Pa,HB h,HS h gs (j+1)]
theorem AM {fs:FS} {is:List Ini} {τ:FS} (h:CN fs is=[]):D3 is τ fs=some fs:=HS (List.filterMap_eq_nil_iff.mp h) fs 0
theorem DT {src:List (Option Nat)} {fi:FS->Out (List T)} {gt:T->FS->Option FS} {ft:FS->Out Bool} {fe:FS->Out Rv} {fs fs':FS} {ts vs:List T} {τ:FS} (h1:fi fs=.ok ts fs) (h2:(CN fs (src.map fun o=>o.elim Ini.no Ini.slot)).Nodup/\(src.all fun o=>o.elim true fun j=>decide (j < fs.length))=true)
  (h3:D2 gt ft fe ts (De fs (src.map fun o=>o.elim Ini.no Ini.slot)) []=some (vs,τ)) (h4:D3 (src.map fun o=>o.elim Ini.no Ini.slot) τ fs=some fs'):BK false src fi gt ft fe fs=.ok (.t (.lst vs)) fs':=by
 unfold BK
 rw [h1]
 simp only [Out.bind]
 rw [if_pos h2,h3]
 dsimp only
 rw [h4]
 rfl
theorem MY {a j c:Int} {fs:FS} {fa:FS->Out (List Rv)} (e:fa fs=.ok [.t (.int a),.t (.int j),.t (.int c)] fs) (a0:0<=a) (a1:a<=1000) (b0:0<=j) (b1:j<=63) (c0:1<=c) (c1:c<=1000):S7 fa fs=.ok (Pf a c (Builtin.Range.rangeSize a j c).toNat) fs:=by
 unfold S7
 rw [e]
 simp only [Out.bind]
 exact if_pos ⟨by omega,by omega,MT a0 a1 b0 b1 c0 c1,K1 (by omega)⟩
theorem drawn {t:T} {ns:List Int} (ht:IsI t ns) {a b:Int} (a0:0<=a) (a1:a<=1000) (b0:1<=b) (b1:b<=1000) (more:FS) :
  ∃ zs:List Int,(zs.length<=63/\∀ z∈zs,∃ i,z=ns.getD i 0)/\Ar Tc (Ac (BK false [none,some 0] (S7 (Ac (Aa 1) (Ac (Ar Jx (Ac (Ar DQ (Ac (Aa 0) Ak)) (Ac (gc (.int 63)) Ak))) (Ac (Aa 2) Ak)))) (tgN 0) DY (Ag Bn (Aa 1) (fz (Aa 0)))) Ak) (vl t :: iv a :: iv b :: more)=.ok (.t (.int zs.sum)) (vl t :: iv a :: iv b :: more):=by
 have hj:∃ j:Int,0<=j/\j<=63/\j<=ns.length/\(Ac (Aa 1) (Ac (Ar Jx (Ac (Ar DQ (Ac (Aa 0) Ak)) (Ac (gc (.int 63)) Ak))) (Ac (Aa 2) Ak))) (vl t :: iv a :: iv b :: more)=.ok [.t (.int a),.t (.int j),.t (.int b)] (vl t :: iv a :: iv b :: more):=by
  refine ⟨if (63:Int) < ((ns.map T.int).length:Int) then 63 else ((ns.map T.int).length:Int),?_,?_,?_,?_⟩
  ·split <;> omega
  ·split <;> omega
  ·rw [List.length_map];split <;> omega
  ·rcases ht with rfl | rfl <;> rfl
 obtain ⟨j,j0,j1,j2,ej⟩:=hj
 have e1:=MY ej a0 a1 j0 j1 b0 b1
 obtain ⟨y,hy,e2⟩:=Ed (fe:=Ag Bn (Aa 1) (fz (Aa 0))) (f:=fun t'=>match t' with | .int i=>.int (ns.getD i.toNat 0) | _=>.non) (rest:=[vl t]) (Pf a b (Builtin.Range.rangeSize a j b).toNat) none [] Aw (fun t' m=>by
   unfold Pf at m
   rw [List.mem_map] at m
   obtain ⟨k,mk,rfl⟩:=m
   have hk:=PQ (a:=a) (j:=j) (c:=b) (i:=k) (by omega) (List.mem_range.mp mk)
   have hp:0<=(k:Int) * b:=Int.mul_nonneg (by omega) (by omega)
   simp only [AN,AY,AZ,retS,nxS,ifS,SO.of,Ag,Aa,gc,fz,Ac,Ah,Ak,Ar,AG,KP,CH,Bq,Eb,AV,FH,Out.bnd,Out.bind,HZ,M4,okT,asB,Eu,LP,orT,EH,Option.map_some,Option.bind_some,Option.isSome_some,List.getElem?_cons_zero,List.getElem?_cons_succ,List.set_cons_zero,List.set_cons_succ,List.length_cons,List.length_nil,List.length_map,if_true,if_false,Bool.false_eq_true,FL.A1,FL.putAt,FL.Sl.put,RE ht (i:=a+(k:Int) * b) (by omega) (by omega)]) (by
   have:=Gp (a:=a) (j:=j) (c:=b) (by omega) a0 j1
   unfold Pf
   rw [List.length_map,List.length_range]
   show 0+_<=1000000
   omega)
 have e3:BK false [none,some 0] (S7 (Ac (Aa 1) (Ac (Ar Jx (Ac (Ar DQ (Ac (Aa 0) Ak)) (Ac (gc (.int 63)) Ak))) (Ac (Aa 2) Ak)))) (tgN 0) DY (Ag Bn (Aa 1) (fz (Aa 0))) (vl t :: iv a :: iv b :: more)=.ok (.t (.lst _)) (vl t :: iv a :: iv b :: more) :=
  DT e1 ⟨by rw [show CN (vl t :: iv a :: iv b :: more) _=[] from rfl];exact List.nodup_nil,by simp⟩ e2 (AM rfl)
 refine ⟨(List.range (Builtin.Range.rangeSize a j b).toNat).map fun (k:Nat)=>ns.getD (a+(k:Int) * b).toNat 0,⟨by
  rw [List.length_map,List.length_range]
  exact Gp (a:=a) (j:=j) (c:=b) (by omega) a0 j1,fun z m=>by
  rw [List.mem_map] at m
  obtain ⟨k,_,rfl⟩:=m
  exact ⟨_,rfl⟩⟩,?_⟩
 have e4:(Pf a b (Builtin.Range.rangeSize a j b).toNat).map (fun t'=>match t' with | .int i=>T.int (ns.getD i.toNat 0) | _=>.non)=((List.range (Builtin.Range.rangeSize a j b).toNat).map fun (k:Nat)=>ns.getD (a+(k:Int) * b).toNat 0).map T.int:=by
  unfold Pf
  rw [List.map_map,List.map_map]
  rfl
 rw [List.nil_append,e4] at e3
 simp only [Ar,Ac,e3,Out.bnd,Out.bind,Ak,Tc,C6,Option.bind_some,HV,okT]
theorem MM {n:Nat}:∀ t∈FL.upTo 0 n,∃ i:Int,t=.int i:=fun t m=>by
 unfold FL.upTo at m
 rw [List.mem_map] at m
 obtain ⟨k,_,rfl⟩:=m
 exact ⟨_,rfl⟩
theorem digits {t:T} {ns:List Int} (ht:IsI t ns) {a b:Int} (a0:0<=a) (a1:a<=1000) (b0:1<=b) (b1:b<=1000) :
  ∃ ds:List Int,ds.length=150/\CK [vl t,iv a,iv b]=.ok (.nw (.lst (ds.map T.int))) [vl t,iv a,iv b]:=by
 obtain ⟨zs,_,e1⟩:=drawn ht a0 a1 b0 b1 [none,none,none,none,none]
 generalize zs.sum=D at e1
 have hloop:=CU (gt:=tgN 7) (body:=(AN (AY 5 (Ag CF (Ag AL (Ag AL (Ag BZ (Aa 5) (Aa 5)) (Aa 3)) (Aa 7)) (gc (.int 2147483629))))
  (AN (AZ (AV D1 (Aa 4) (Ac (Ag CF (Ag Bn (AG Bq (Ac (fz (Aa 6)) (Ac (Ag CF (Ag BZ (Aa 5) (Aa 5)) (gc (.int 2147483587))) Ak))) (Ag CF (Aa 3) (gc (.int 2)))) (gc (.int 1000003))) Ak)))
  (AY 6 (Ag Fc (Aa 6) (gc (.int 1000003)))))))
  (fun ts fs=>∃ (ds:List Int) (f r:Int) (x:Option Sl),fs=[vl t,iv a,iv b,iv D,some (.own (.lst (ds.map T.int))),iv f,iv r,x]/\0<=f/\f < 2147483629/\ds.length+ts.length=150/\Fre x/\∀ t∈ts,∃ i:Int,t=.int i) (fun t' ts fs h=>?_) (FL.upTo 0 150) [vl t,iv a,iv b,iv D,some (.own (.lst [])),iv (D % 2147483629),iv (D / 2),none]
  ⟨[],_,_,_,rfl,Int.emod_nonneg _ (by decide),Int.emod_lt_of_pos _ (by decide),by simp [FL.upTo],Aw,MM⟩
 ·obtain ⟨fs',ef,ds,f,r,x,rfl,_,_,hl,_,_⟩:=hloop
  refine ⟨ds.reverse,by rw [List.length_reverse];simpa using hl,?_⟩
  have s1:AY 3 (Ar Tc (Ac (BK false [none,some 0] (S7 (Ac (Aa 1) (Ac (Ar Jx (Ac (Ar DQ (Ac (Aa 0) Ak)) (Ac (gc (.int 63)) Ak))) (Ac (Aa 2) Ak)))) (tgN 0) DY (Ag Bn (Aa 1) (fz (Aa 0)))) Ak)) [vl t,iv a,iv b,none,none,none,none,none]=.nx [vl t,iv a,iv b,iv D,none,none,none,none]:=by
   unfold AY
   rw [e1]
   rfl
  have s5:Ex (Iz (Ac (gc (.int 150)) Ak)) (tgN 7) (AN (AY 5 (Ag CF (Ag AL (Ag AL (Ag BZ (Aa 5) (Aa 5)) (Aa 3)) (Aa 7)) (gc (.int 2147483629))))
  (AN (AZ (AV D1 (Aa 4) (Ac (Ag CF (Ag Bn (AG Bq (Ac (fz (Aa 6)) (Ac (Ag CF (Ag BZ (Aa 5) (Aa 5)) (gc (.int 2147483587))) Ak))) (Ag CF (Aa 3) (gc (.int 2)))) (gc (.int 1000003))) Ak)))
  (AY 6 (Ag Fc (Aa 6) (gc (.int 1000003)))))) [vl t,iv a,iv b,iv D,some (.own (.lst [])),iv (D % 2147483629),iv (D / 2),none]=.nx [vl t,iv a,iv b,iv D,some (.own (.lst (ds.map T.int))),iv f,iv r,x]:=ef
  have all:Eg [vl t,iv a,iv b,none,none,none,none,none]=.ret (.nw (.lst (ds.reverse.map T.int))) [vl t,iv a,iv b,iv D,some (.own (.lst (ds.map T.int))),iv f,iv r,x]:=by
   unfold Eg
   rw [AJ s1,AJ (show AY 4 (AG Eb Ak) [vl t,iv a,iv b,iv D,none,none,none,none]=.nx [vl t,iv a,iv b,iv D,some (.own (.lst [])),none,none,none] from rfl),
    AJ (show AY 5 (Ag CF (Aa 3) (gc (.int 2147483629))) [vl t,iv a,iv b,iv D,some (.own (.lst [])),none,none,none]=.nx [vl t,iv a,iv b,iv D,some (.own (.lst [])),iv (D % 2147483629),none,none] from rfl),
    AJ (show AY 6 (Ag Fc (Aa 3) (gc (.int 2))) [vl t,iv a,iv b,iv D,some (.own (.lst [])),iv (D % 2147483629),none,none]=.nx [vl t,iv a,iv b,iv D,some (.own (.lst [])),iv (D % 2147483629),iv (D / 2),none] from rfl),AJ s5]
   rw [List.map_reverse]
   rfl
  unfold CK Dk
  show (match Eg [vl t,iv a,iv b,none,none,none,none,none] with | .nx τ=>_ | .ret (.t t) τ=>_ | .ret (.nw o) τ=>_ | .ret (.rf i) τ=>_ | .exc c τ=>_ | _=>_)=_
  rw [all]
  rfl
 ·obtain ⟨ds,f,r,x,rfl,f0,f1,hl,hx,hi⟩:=h
  obtain ⟨k,rfl⟩:=hi t' List.mem_cons_self
  have hg:tgN 7 (.int k) [vl t,iv a,iv b,iv D,some (.own (.lst (ds.map T.int))),iv f,iv r,x]=some [vl t,iv a,iv b,iv D,some (.own (.lst (ds.map T.int))),iv f,iv r,iv k]:=by
   unfold tgN
   rw [Bd (x:=x) rfl hx]
   rfl
  have eA:AY 5 (Ag CF (Ag AL (Ag AL (Ag BZ (Aa 5) (Aa 5)) (Aa 3)) (Aa 7)) (gc (.int 2147483629))) [vl t,iv a,iv b,iv D,some (.own (.lst (ds.map T.int))),iv f,iv r,iv k]=.nx [vl t,iv a,iv b,iv D,some (.own (.lst (ds.map T.int))),iv ((f * f+D+k) % 2147483629),iv r,iv k]:=by
   simp only [AN,AY,AZ,retS,nxS,ifS,SO.of,Ag,Aa,gc,fz,Ac,Ah,Ak,Ar,AG,KP,CH,Bq,Eb,AV,FH,Out.bnd,Out.bind,HZ,M4,okT,asB,Eu,LP,orT,EH,Option.map_some,Option.bind_some,Option.isSome_some,List.getElem?_cons_zero,List.getElem?_cons_succ,List.set_cons_zero,List.set_cons_succ,List.length_cons,List.length_nil,List.length_map,if_true,if_false,Bool.false_eq_true,FL.A1,FL.putAt,FL.Sl.put,IE (i:=f) (j:=f) ⟨by omega,by omega⟩,CT,Dg (show (0:Int) < 2147483629 by decide)]
  have f0':0<=(f * f+D+k) % 2147483629:=Int.emod_nonneg _ (by decide)
  have f1':(f * f+D+k) % 2147483629 < 2147483629:=Int.emod_lt_of_pos _ (by decide)
  generalize (f * f+D+k) % 2147483629=f' at eA f0' f1'
  have hz:∃ z,atI [T.int r,T.int (f' * f' % 2147483587)] (D % 2)=some (T.int z):=by
   have h:D % 2=((0:Nat):Int)∨D % 2=((1:Nat):Int):=by omega
   rcases h with h | h
   ·rw [h];exact ⟨r,A9 rfl⟩
   ·rw [h];exact ⟨_,A9 rfl⟩
  obtain ⟨z,ez⟩:=hz
  have hlen:ds.length < big:=by
   simp at hl
   show ds.length < 1000000
   omega
  have eB:AZ (AV D1 (Aa 4) (Ac (Ag CF (Ag Bn (AG Bq (Ac (fz (Aa 6)) (Ac (Ag CF (Ag BZ (Aa 5) (Aa 5)) (gc (.int 2147483587))) Ak))) (Ag CF (Aa 3) (gc (.int 2)))) (gc (.int 1000003))) Ak)) [vl t,iv a,iv b,iv D,some (.own (.lst (ds.map T.int))),iv f',iv r,iv k]=.nx [vl t,iv a,iv b,iv D,some (.own (.lst ((ds++[z % 1000003]).map T.int))),iv f',iv r,iv k]:=by
   simp only [AN,AY,AZ,retS,nxS,ifS,SO.of,Ag,Aa,gc,fz,Ac,Ah,Ak,Ar,AG,KP,CH,Bq,Eb,AV,FH,Out.bnd,Out.bind,HZ,M4,okT,asB,Eu,LP,orT,EH,Option.map_some,Option.bind_some,Option.isSome_some,List.getElem?_cons_zero,List.getElem?_cons_succ,List.set_cons_zero,List.set_cons_succ,List.length_cons,List.length_nil,List.length_map,if_true,if_false,Bool.false_eq_true,FL.A1,FL.putAt,FL.Sl.put,IE (i:=f') (j:=f') ⟨by omega,by omega⟩,Dg (show (0:Int) < 2147483587 by decide),Dg (show (0:Int) < 2 by decide),BH (x:=.t (.lst [T.int r,T.int (f' * f' % 2147483587)])) rfl ez,Dg (show (0:Int) < 1000003 by decide),C6,D1,hlen,show (0+1+1<=big) from by decide]
   simp
  have eC:AY 6 (Ag Fc (Aa 6) (gc (.int 1000003))) [vl t,iv a,iv b,iv D,some (.own (.lst ((ds++[z % 1000003]).map T.int))),iv f',iv r,iv k]=.nx [vl t,iv a,iv b,iv D,some (.own (.lst ((ds++[z % 1000003]).map T.int))),iv f',iv (r / 1000003),iv k]:=rfl
  refine ⟨_,_,hg,?_,ds++[z % 1000003],f',r / 1000003,iv k,rfl,f0',f1',by simp at hl ⊢;omega,Be,fun t' m=>hi t' (List.mem_cons_of_mem _ m)⟩
  rw [AJ eA,AJ eB]
  exact eC
def nmS (c:Int) (k:Nat):Str:=⟨(Nm.codes c k).toArray⟩
def nms (c:Int) (n:Nat):List Str:=(List.range n).map (nmS c)
def ABC:Str:="abcdefghijklmnopqrstuvwxyz"
theorem VO:∀ j,j < 26->ABC.cps.toList[j]?=some (97+j):=by decide +kernel
theorem Pb (x:Int):atI ABC.cps.toList (x % 26)=some (Nm.CG x):=by
 have h:(x % 26).toNat < 26:=by omega
 have e:=A9 (VO _ h)
 rw [Int.toNat_of_nonneg (by omega)] at e
 exact e
theorem HC:∀ ys:List Str,(Str.join (⟨#[]⟩:Str) ys).cps.toList=(ys.map fun y=>y.cps.toList).flatten
 | []=>rfl
 | [x]=>by simp [Str.join]
 | x :: y :: r=>by
  have ih:=HC (y :: r)
  show (x++(⟨#[]⟩:Str)++Str.join ⟨#[]⟩ (y :: r)).cps.toList=_
  show (x.cps++#[]++(Str.join ⟨#[]⟩ (y :: r)).cps).toList=_
  rw [List.map_cons,List.flatten_cons,<- ih]
  simp
theorem join_ones (f:Nat->Nat) (js:List Nat):(Txt.join (⟨#[]⟩:Str) (js.map fun j=>(⟨#[f j]⟩:Str))).cps.toList=js.map f:=by
 show (Builtin.Str.glued _ _).cps.toList=_
 rw [StrLaws.glued_eq_join,HC]
 induction js with
 | nil=>rfl
 | cons j r ih =>
  rw [List.map_cons,List.map_cons,List.flatten_cons,ih,List.map_cons]
  rfl
theorem Sa {x y:Str} (h:x.cps.toList=y.cps.toList):x=y:=by
 obtain ⟨a⟩:=x
 obtain ⟨b⟩:=y
 have:a=b:=by simpa using h
 rw [this]
theorem NH (c:Nat) (n:Int) (h0:1<=n):(Txt.mul (⟨#[c]⟩:Str) n).cps.toList=List.replicate n.toNat c:=by
 unfold Txt.mul
 rw [if_neg (by omega)]
 by_cases h1:n=1
 ·subst h1
  rfl
 ·rw [if_neg (by simp [h1,Str.length])]
  have key:∀ (m:Nat) (acc:Array Nat),((List.replicate m #[c]).foldl (·++·) acc).toList=acc.toList++List.replicate m c:=by
   intro m
   induction m with
   | zero=>intro acc;simp
   | succ m ih =>
    intro acc
    rw [List.replicate_succ,List.foldl_cons,ih,List.replicate_succ]
    simp
  have:=key n.toNat #[]
  simpa using this
theorem OE:Str.ofString ""=(⟨#[]⟩:Str):=by decide +kernel
theorem P8 (f:Nat->Nat) (js:List Nat):((js.map fun j=>(⟨#[f j]⟩:Str)).map (·.length)).sum=js.length:=by
 induction js with
 | nil=>rfl
 | cons j r ih =>
  rw [List.map_cons,List.map_cons,List.sum_cons,ih,List.length_cons]
  show 1+r.length=_
  omega
theorem Lf (f:Nat->Nat) (js:List Nat):(Txt.join (⟨#[]⟩:Str) (js.map fun j=>(⟨#[f j]⟩:Str))).length=js.length:=by
 have e:=congrArg List.length (join_ones f js)
 rw [List.length_map] at e
 rw [<- e]
 simp [Str.length]
def Cs (c:Int) (n:Nat):List Str:=(List.range n).map fun j=>(⟨#[Nm.base c j]⟩:Str)
theorem MF (c:Int) (n k:Nat) (h:k<=n):(Cs c n).take k=Cs c k:=by
 unfold Cs
 rw [<- List.map_take,List.take_range,Nat.min_eq_left h]
theorem MG (c:Int) (n k:Nat):(Cs c n).drop k=(List.range (n - k)).map fun j=>(⟨#[Nm.base c (k+j)]⟩:Str):=by
 unfold Cs
 rw [<- List.map_drop]
 apply List.ext_getElem?
 intro i
 rw [List.getElem?_map,List.getElem?_map,List.getElem?_drop]
 by_cases hi:k+i < n
 ·rw [List.getElem?_range hi,List.getElem?_range (by omega)]
  rfl
 ·rw [List.getElem?_eq_none (by simp;omega),List.getElem?_eq_none (by simp;omega)]
  rfl
theorem Tf {i j:Int} {fs:FS} (h:-(2 ^ 64) < j/\j < 2 ^ 64):BZ (.t (.int i)) (.t (.int j)) fs=.ok (.t (.int (i * j))) fs:=by
 have e:Ub (.t (.int i)) (.t (.int j)) fs=.ok (.t (.int (i * j))) fs:=if_pos (by rw [decide_eq_true h];simp)
 unfold BZ orG
 rw [e]
theorem Te {z:Str} {n:Int} {fs:FS} (h:z.length=1/\1<=n/\n<=1000):BZ (.t (.str z)) (.t (.int n)) fs=.ok (.t (.str (Txt.mul z n))) fs:=by
 have e:QD (.t (.str z)) (.t (.int n)) fs=.ok (.t (.str (Txt.mul z n))) fs:=if_pos h
 have e2:Ub (.t (.str z)) (.t (.int n)) fs=.bad:=rfl
 unfold BZ orG
 rw [e2]
 exact e
theorem Oi {x y:Str} {fs:FS} (h:x.length+y.length<=big):AL (.t (.str x)) (.t (.str y)) fs=.ok (.t (.str (x++y))) fs:=by
 have e:QF (.t (.str x)) (.t (.str y)) fs=.ok (.t (.str (x++y))) fs:=if_pos h
 have e2:WQ (.t (.str x)) (.t (.str y)) fs=.bad:=rfl
 unfold AL orG
 rw [e2]
 dsimp only
 rw [e]
theorem Lp {z:Str} {i:Int} {c:Nat} {fs:FS} (hz:z.length<=big) (e:atI z.cps.toList i=some c):Bn (.t (.str z)) (.t (.int i)) fs=.ok (.t (.str ⟨#[c]⟩)) fs:=by
 have e':gIx (.t (.str z)) (.t (.int i)) fs=.ok (.t (.str ⟨#[c]⟩)) fs:=by
  simp only [gIx,C6,hz,if_true,e,okT]
 unfold Bn orG
 rw [e']
theorem HU:∀ xs:List Str,C0 (xs.map T.str)=some xs
 | []=>rfl
 | n :: ns=>by simp [C0,HU ns]
theorem ON {xs:List T} {v:Int} (h0:0<=v) (h1:v.toNat<=xs.length):RT xs none (some v)=xs.take v.toNat:=by
 show (xs.drop 0).take ((if v < 0 then (v+(xs.length:Int)).toNat else min v.toNat xs.length) - 0)=_
 rw [if_neg (by omega),Nat.min_eq_left h1]
 simp
theorem OO {xs:List T} {v:Int} (h0:0<=v) (h1:v.toNat<=xs.length):RT xs (some v) none=xs.drop v.toNat:=by
 show (xs.drop (if v < 0 then (v+(xs.length:Int)).toNat else min v.toNat xs.length)).take (xs.length - (if v < 0 then (v+(xs.length:Int)).toNat else min v.toNat xs.length))=_
 rw [if_neg (by omega),Nat.min_eq_left h1]
 exact List.take_of_length_le (by rw [List.length_drop];omega)
theorem Q0 (c:Int):atI [T.int 1,T.int 3,T.int 5,T.int 7,T.int 9,T.int 11] (Nm.M c / 144 % 6)=some (T.int (Nm.step c)):=by
 have h:Nm.stepI c < 6:=by unfold Nm.stepI;omega
 have e:([T.int 1,T.int 3,T.int 5,T.int 7,T.int 9,T.int 11]:List T)[Nm.stepI c]?=some (T.int (Nm.step c)):=by
  unfold Nm.step
  generalize Nm.stepI c=i at h
  match i,h with
  | 0,_=>rfl
  | 1,_=>rfl
  | 2,_=>rfl
  | 3,_=>rfl
  | 4,_=>rfl
  | 5,_=>rfl
 have e2:=A9 e
 unfold Nm.stepI at e2
 rwa [Int.toNat_of_nonneg (by omega)] at e2
theorem T3:ABC.length<=big:=by decide +kernel
theorem S4 {f:Nat->Nat} {js:List Nat} {fs:FS} (h:js.length<=1000):GK (.t (.str ("":Str))) [.t (.lst ((js.map fun j=>(⟨#[f j]⟩:Str)).map T.str))] fs=.ok (.t (.str (Txt.join (⟨#[]⟩:Str) (js.map fun j=>(⟨#[f j]⟩:Str))))) fs:=by
 have e0:("":Str).length=0:=by decide +kernel
 simp only [GK,C6,Option.bind_some,HU,P8,e0,Nat.mul_zero,Nat.add_zero]
 rw [if_pos (show js.length<=big from Nat.le_trans h (by decide)),show ("":Str)=(⟨#[]⟩:Str) from OE]
 simp only [okT]
theorem Gq {j:Int} {fs:FS} {fa:FS->Out (List Rv)} (e:fa fs=.ok [.t (.int j)] fs) (h:-(2 ^ 62)<=j/\j < 2 ^ 62):Iz fa fs=.ok (FL.upTo 0 j.toNat) fs:=by
 unfold Iz
 rw [e]
 simp only [Out.bind]
 exact if_pos h
theorem Al {g:Rv->Rv->FS->Out Rv} {fa fb:FS->Out Rv} {fs:FS} {x y:T} {r:Out Rv} (h1:fa fs=.ok (.t x) fs) (h2:fb fs=.ok (.t y) fs) (h3:g (.t x) (.t y) fs=r):Ag g fa fb fs=r:=by
 unfold Ag
 rw [h1]
 show (fb fs).bnd _=r
 rw [h2]
 exact h3
theorem Ab {i:Nat} {fs:FS} {t:T} (h:fs[i]?=some (vl t)):Aa i fs=.ok (.t t) fs:=by unfold Aa;rw [h]
theorem Ba {t:T} {fs:FS}:gc t fs=.ok (.t t) fs:=rfl
theorem WC {L:Str} (hL2:L.length<=big) (hL:∀ x:Int,atI L.cps.toList (x % 26)=some (Nm.CG x)) (m:Int) (k:Nat) (hk:k < 12) :
  Ag Bn (Aa 1) (Ag CF (Ag AL (Ag Fc (Aa 2) (Ag AL (Aa 0) (gc (.int 5)))) (Ag BZ (Aa 0) (Aa 0))) (gc (.int 26))) [iv (k:Int),vl (.str L),iv m]=.ok (.t (.str ⟨#[Nm.CG (m / ((k:Int)+5)+(k:Int) * (k:Int))]⟩)) [iv (k:Int),vl (.str L),iv m] :=
 Al (Ab rfl) (Al (Al (Al (Ab rfl) (Al (Ab rfl) Ba CT) (HH ⟨by omega,by omega⟩)) (Al (Ab rfl) (Ab rfl) (IE ⟨by omega,by omega⟩)) CT) Ba (Dg (by decide))) (Lp hL2 (hL _))
theorem BL {i:Nat} {f:FS->Out Rv} {fs fs':FS} {t:T} (h:f fs=.ok (.t t) fs) (hs:HZ i (.t t) fs=some fs'):AY i f fs=.nx fs':=by
 unfold AY
 rw [h]
 show (match HZ i (.t t) fs with | some fs=>SO.nx fs | none=>.bad)=_
 rw [hs]
theorem AW {f:FS->Out Rv} {g:FS->Out (List Rv)} {fs:FS} {t:T} {rs:List Rv} (h1:f fs=.ok (.t t) fs) (h2:g fs=.ok rs fs):Ac f g fs=.ok (.t t :: rs) fs:=by
 unfold Ac
 rw [h1]
 show (g fs).bind _=_
 rw [h2]
 rfl
theorem AI {f:FS->Out Rv} {fs:FS} {t:T} (h:f fs=.ok (.t t) fs):fz f fs=.ok (.t t) fs:=by
 unfold fz
 rw [h]
 rfl
theorem DU {g:List Rv->FS->Out Rv} {fa:FS->Out (List Rv)} {fs:FS} {rs:List Rv} {r:Out Rv} (h:fa fs=.ok rs fs) (h2:g rs fs=r):Ar g fa fs=r:=by
 unfold Ar
 rw [h]
 exact h2
theorem JY {i:Nat} {f:FS->Out Rv} {fs fs':FS} {t:T} {ts:List T} (h0:fs[i]?=some (some (.own (.lst ts)))) (h:f fs=.ok (.t t) fs) (hl:ts.length < big) (e:fs.set i (some (.own (.lst (ts++[t]))))=fs'):AZ (AV D1 (Aa i) (Ac f Ak)) fs=.nx fs':=by
 have h1:Aa i fs=.ok (.rf i) fs:=by unfold Aa;rw [h0]
 have h2:FL.A1 fs i=some (.lst ts):=by unfold FL.A1;rw [h0]
 have h3:C6 fs (.rf i)=some ts:=by simp only [C6,h2]
 have h4:Ac f Ak fs=.ok [.t t] fs:=AW h rfl
 have h5:D1 (.rf i) [.t t] fs=.ok (.t .non) fs':=by
  simp only [D1,h2]
  rw [if_pos hl]
  have:FL.putAt fs i (.lst (ts++[t]))=fs':=by
   unfold FL.putAt
   rw [h0]
   exact e
  rw [this]
 have h6:AV D1 (Aa i) (Ac f Ak) fs=.ok (.t .non) fs':=by
  unfold AV
  rw [h1]
  show (if (C6 fs (.rf i)).isSome=true then _ else _)=_
  rw [h3,if_pos (show (some ts).isSome=true from rfl),h4]
  exact h5
 unfold AZ
 rw [h6]
 rfl
theorem IB {c:FS->Out Bool} {g h:FS->SO} {fs:FS} {r:SO} (hc:c fs=.ok true fs) (e:g fs=r):ifS c g h fs=r:=by
 unfold ifS
 rw [hc]
 exact e
theorem CS {c:FS->Out Bool} {g h:FS->SO} {fs:FS} {r:SO} (hc:c fs=.ok false fs) (e:h fs=r):ifS c g h fs=r:=by
 unfold ifS
 rw [hc]
 exact e
theorem RN {fa fb:FS->Out Rv} {fs:FS} {i j:Int} (h1:fa fs=.ok (.t (.int i)) fs) (h2:fb fs=.ok (.t (.int j)) fs):asB (Ag (gEq false) fa fb) fs=.ok (decide (i=j)) fs:=by
 have e:gEq false (.t (.int i)) (.t (.int j)) fs=.ok (.t (.bl (decide (i=j)))) fs:=by
  have q:decide (V.int i=V.int j)=decide (i=j):=by
   by_cases h:i=j
   ·subst h;simp
   ·rw [decide_eq_false h,decide_eq_false (by intro z;cases z;exact h rfl)]
  show (if L8 (V.int i) (V.int j)=true then okT (.bl (if false=true then _ else decide (V.int i=V.int j))) fs else .bad)=_
  rw [if_pos (show L8 (V.int i) (V.int j)=true from rfl),q]
  rfl
 unfold asB
 rw [Al h1 h2 e]
 rfl
theorem Ds {fa:FS->Out (List Rv)} {fs:FS} {rs:List Rv} {ts:List T} (h:fa fs=.ok rs fs) (h2:KP rs=some ts) (h3:ts.length<=big):AG Bq fa fs=.ok (.t (.lst ts)) fs:=by
 unfold AG
 rw [h]
 show (match KP rs with | some ts=>_ | none=>_)=_
 rw [h2]
 exact if_pos h3
theorem PB {f g:FS->Out Rv} {fs:FS} {ts:List T} {v:Int} (h1:f fs=.ok (.t (.lst ts)) fs) (h2:g fs=.ok (.t (.int v)) fs) (h0:0<=v) (hl:v.toNat<=ts.length):slF f noP (Fd g) fs=.ok (.t (.lst (ts.take v.toNat))) fs:=by
 unfold slF
 rw [h1]
 show ((Fd g) fs).bind _=_
 unfold Fd
 rw [h2]
 simp only [Out.bnd,Out.bind]
 simp only [VW,C6,okT]
 rw [ON h0 hl]
theorem PC {f g:FS->Out Rv} {fs:FS} {ts:List T} {v:Int} (h1:f fs=.ok (.t (.lst ts)) fs) (h2:g fs=.ok (.t (.int v)) fs) (h0:0<=v) (hl:v.toNat<=ts.length):slF f (Fd g) noP fs=.ok (.t (.lst (ts.drop v.toNat))) fs:=by
 unfold slF
 rw [h1]
 show ((Fd g) fs).bind _=_
 unfold Fd
 rw [h2]
 simp only [Out.bnd,Out.bind,noP]
 simp only [VW,C6,okT]
 rw [OO h0 hl]
theorem Lg {f:FS->Out Rv} {fs:FS} {g:Nat->Nat} {js:List Nat} (h:f fs=.ok (.t (.lst ((js.map fun j=>(⟨#[g j]⟩:Str)).map T.str))) fs) (hl:js.length<=1000):fz (FH GK (gc (.str ("":Str))) (Ac f Ak)) fs=.ok (.t (.str (Txt.join (⟨#[]⟩:Str) (js.map fun j=>(⟨#[g j]⟩:Str))))) fs:=by
 refine AI ?_
 have h2:=AW h (show Ak fs=.ok [] fs from rfl)
 unfold FH gc
 show ((Ac f Ak fs).bind _)=_
 rw [h2]
 exact S4 hl
theorem SQ {L:Str} (hL2:L.length<=big) (hL:∀ x:Int,atI L.cps.toList (x % 26)=some (Nm.CG x)) {c w:Int} (hw0:0<=w) (hw:w<=12) (m a:Int) (hm:m=Nm.M c) (x0 x1 x6 x7 x8 x9 x10:Option Sl) :
  BK false [none,some 2,some 3] (Iz (Ac (Aa 4) Ak)) (tgN 0) DY (Ag Bn (Aa 1) (Ag CF (Ag AL (Ag Fc (Aa 2) (Ag AL (Aa 0) (gc (.int 5)))) (Ag BZ (Aa 0) (Aa 0))) (gc (.int 26)))) [x0,x1,vl (.str L),iv m,iv w,iv a,x6,x7,x8,x9,x10]=.ok (.t (.lst ((Cs c w.toNat).map T.str))) [x0,x1,vl (.str L),iv m,iv w,iv a,x6,x7,x8,x9,x10]:=by
 have e1:=Gq (fa:=Ac (Aa 4) Ak) (fs:=[x0,x1,vl (.str L),iv m,iv w,iv a,x6,x7,x8,x9,x10]) (j:=w) (AW (Ab rfl) rfl) ⟨by omega,by omega⟩
 obtain ⟨y,hy,e2⟩:=Ed (fe:=Ag Bn (Aa 1) (Ag CF (Ag AL (Ag Fc (Aa 2) (Ag AL (Aa 0) (gc (.int 5)))) (Ag BZ (Aa 0) (Aa 0))) (gc (.int 26)))) (f:=fun t'=>match t' with | .int i=>.str ⟨#[Nm.CG (m / (i+5)+i * i)]⟩ | _=>.non) (rest:=[vl (.str L),iv m]) (FL.upTo 0 w.toNat) none [] Aw (fun t' mt=>by
   unfold FL.upTo at mt
   rw [List.mem_map] at mt
   obtain ⟨k,mk,rfl⟩:=mt
   have hk:=List.mem_range.mp mk
   rw [Int.zero_add]
   exact WC hL2 hL m k (by omega)) (by
   unfold FL.upTo
   rw [List.length_map,List.length_range]
   show 0+_<=1000000
   omega)
 have e3:=DT (src:=[none,some 2,some 3]) e1 ⟨by rw [show CN [x0,x1,vl (.str L),iv m,iv w,iv a,x6,x7,x8,x9,x10] _=[] from rfl];exact List.nodup_nil,by rfl⟩ e2 (AM rfl)
 rw [e3,List.nil_append]
 have e4:(FL.upTo 0 w.toNat).map (fun t'=>match t' with | .int i=>T.str ⟨#[Nm.CG (m / (i+5)+i * i)]⟩ | _=>.non)=(Cs c w.toNat).map T.str:=by
  subst hm
  unfold FL.upTo Cs
  rw [List.map_map,List.map_map]
  refine List.map_congr_left fun k _=>?_
  simp only [Function.comp_apply,Int.zero_add,Nm.base]
 rw [e4]
theorem SN {L:Str} (hL2:L.length<=big) (hL:∀ x:Int,atI L.cps.toList (x % 26)=some (Nm.CG x)) {c m w a st n:Int} {i:Nat} (hm:m=Nm.M c) (hw:w=Nm.W c) (ha:a=Nm.At c) (hst:st=Nm.step c) (hi:i < 12) (x10:Option Sl) (hx:Fre x10) :
  ∃ y10,Fre y10/\(AN (AY 10 (Ag Bn (Aa 2) (Ag CF (Ag AL (Ag Fc (Aa 3) (gc (.int 864))) (Ag BZ (Aa 9) (Aa 7))) (gc (.int 26)))))
  (ifS (asB (Ag (gEq false) (Ag CF (Ag Fc (Aa 3) (gc (.int 900))) (gc (.int 3))) (gc (.int 1)))) (AZ (AV D1 (Aa 8) (Ac (Ag BZ (Ag Bn (Aa 6) (gc (.int 0))) (Ag AL (Ag CF (Ag AL (Aa 9) (Ag Fc (Aa 3) (gc (.int 7)))) (gc (.int 12))) (gc (.int 1)))) Ak))) (AZ (AV D1 (Aa 8) (Ac (Ag AL (Ag AL (fz (FH GK (gc (.str ("":Str))) (Ac (slF (Aa 6) noP (Fd (Aa 5))) Ak))) (Aa 10)) (fz (FH GK (gc (.str ("":Str))) (Ac (slF (Aa 6) (Fd (Ag AL (Aa 5) (gc (.int 1)))) noP) Ak)))) Ak)))))
   [iv c,iv n,vl (.str L),iv m,iv w,iv a,vl (.lst ((Cs c w.toNat).map T.str)),iv st,some (.own (.lst ((nms c i).map T.str))),iv (i:Int),x10] =
   .nx [iv c,iv n,vl (.str L),iv m,iv w,iv a,vl (.lst ((Cs c w.toNat).map T.str)),iv st,some (.own (.lst ((nms c (i+1)).map T.str))),iv (i:Int),y10]:=by
 have w0:=Nm.VP c
 have w1:=Nm.W6 c
 have a0:=Nm.VQ c
 have a1:=Nm.VR c
 rw [<- hw] at w0 w1 a1
 rw [<- ha] at a0 a1
 have hs:-20 < st/\st < 20:=by rw [hst];rcases Nm.KY c with e | e | e | e | e | e <;> omega
 have e10:Nm.one c i=Nm.CG (m / 864+(i:Int) * st):=by rw [hm,hst];rfl
 have elen:((nms c i).map T.str).length < big:=by
  unfold nms
  rw [List.length_map,List.length_map,List.length_range]
  show i < 1000000
  omega
 have enm:∀ z:Str,z.cps.toList=Nm.codes c i->(nms c i).map T.str++[T.str z]=(nms c (i+1)).map T.str:=fun z ez=>by
  unfold nms
  rw [List.range_succ,List.map_append,List.map_append]
  have:z=nmS c i:=Sa (by rw [ez];simp [nmS])
  rw [this]
  rfl
 refine ⟨vl (.str ⟨#[Nm.one c i]⟩),Be,?_⟩
 have s1:AY 10 (Ag Bn (Aa 2) (Ag CF (Ag AL (Ag Fc (Aa 3) (gc (.int 864))) (Ag BZ (Aa 9) (Aa 7))) (gc (.int 26)))) [iv c,iv n,vl (.str L),iv m,iv w,iv a,vl (.lst ((Cs c w.toNat).map T.str)),iv st,some (.own (.lst ((nms c i).map T.str))),iv (i:Int),x10] =
   .nx [iv c,iv n,vl (.str L),iv m,iv w,iv a,vl (.lst ((Cs c w.toNat).map T.str)),iv st,some (.own (.lst ((nms c i).map T.str))),iv (i:Int),vl (.str ⟨#[Nm.one c i]⟩)]:=by
  rw [e10]
  exact BL (Al (Ab rfl) (Al (Al (Al (Ab rfl) Ba (HH ⟨by decide,by decide⟩)) (Al (Ab rfl) (Ab rfl) (IE ⟨by omega,by omega⟩)) CT) Ba (Dg (by decide))) (Lp hL2 (hL _))) (Bd rfl hx)
 rw [AJ s1]
 have hc:=RN (fa:=Ag CF (Ag Fc (Aa 3) (gc (.int 900))) (gc (.int 3))) (fb:=gc (.int 1)) (fs:=[iv c,iv n,vl (.str L),iv m,iv w,iv a,vl (.lst ((Cs c w.toNat).map T.str)),iv st,some (.own (.lst ((nms c i).map T.str))),iv (i:Int),vl (.str ⟨#[Nm.one c i]⟩)])
  (Al (Al (Ab (t:=.int m) rfl) Ba (HH ⟨by decide,by decide⟩)) Ba (Dg (by decide))) Ba
 by_cases h1:m / 900 % 3=1
 ·rw [decide_eq_true h1] at hc
  have hwn:0 < w.toNat:=by omega
  have eb:((Cs c w.toNat).map T.str)[0]?=some (T.str ⟨#[Nm.base c 0]⟩):=by
   unfold Cs
   rw [List.map_map,List.getElem?_map,List.getElem?_range hwn]
   rfl
  refine IB hc (JY (t:=.str (Txt.mul ⟨#[Nm.base c 0]⟩ (((i:Int)+m / 7) % 12+1))) rfl (Al (Al (Ab rfl) Ba (BH (i:=0) rfl (A9 eb))) (Al (Al (Al (Ab rfl) (Al (Ab rfl) Ba (HH ⟨by decide,by decide⟩)) CT) Ba (Dg (by decide))) Ba CT) (Te ⟨rfl,by omega,by omega⟩)) elen ?_)
  rw [enm _ (by rw [NH _ _ (by omega),Nm.codes,<- hm,if_pos h1,Nm.JG,<- hm])]
  rfl
 ·rw [decide_eq_false h1] at hc
  have el:((Cs c w.toNat).map T.str).length=w.toNat:=by unfold Cs;rw [List.length_map,List.length_map,List.length_range]
  have et:((Cs c w.toNat).map T.str).take a.toNat=((List.range a.toNat).map fun j=>(⟨#[Nm.base c j]⟩:Str)).map T.str:=by
   rw [<- List.map_take,MF c _ _ (by omega)]
   rfl
  have ed:((Cs c w.toNat).map T.str).drop (a+1).toNat=((List.range (w.toNat - (a+1).toNat)).map fun j=>(⟨#[Nm.base c ((a+1).toNat+j)]⟩:Str)).map T.str:=by
   rw [<- List.map_drop,MG]
  have j1:=PB (f:=Aa 6) (g:=Aa 5) (fs:=[iv c,iv n,vl (.str L),iv m,iv w,iv a,vl (.lst ((Cs c w.toNat).map T.str)),iv st,some (.own (.lst ((nms c i).map T.str))),iv (i:Int),vl (.str ⟨#[Nm.one c i]⟩)]) (Ab rfl) (Ab (t:=.int a) rfl) a0 (by rw [el];omega)
  have j2:=PC (f:=Aa 6) (g:=Ag AL (Aa 5) (gc (.int 1))) (fs:=[iv c,iv n,vl (.str L),iv m,iv w,iv a,vl (.lst ((Cs c w.toNat).map T.str)),iv st,some (.own (.lst ((nms c i).map T.str))),iv (i:Int),vl (.str ⟨#[Nm.one c i]⟩)]) (v:=a+1) (Ab rfl) (Al (Ab (t:=.int a) rfl) Ba CT) (by omega) (by rw [el];omega)
  rw [et] at j1
  rw [ed] at j2
  have l1:(Txt.join (⟨#[]⟩:Str) ((List.range a.toNat).map fun j=>(⟨#[Nm.base c j]⟩:Str))).length=a.toNat:=by rw [Lf,List.length_range]
  have l2:(Txt.join (⟨#[]⟩:Str) ((List.range (w.toNat - (a+1).toNat)).map fun j=>(⟨#[Nm.base c ((a+1).toNat+j)]⟩:Str))).length=w.toNat - (a+1).toNat:=by
   rw [Lf (fun j=>Nm.base c ((a+1).toNat+j)),List.length_range]
  refine CS hc (JY (t:=.str ((Txt.join (⟨#[]⟩:Str) ((List.range a.toNat).map fun j=>(⟨#[Nm.base c j]⟩:Str))++(⟨#[Nm.one c i]⟩:Str))++Txt.join (⟨#[]⟩:Str) ((List.range (w.toNat - (a+1).toNat)).map fun j=>(⟨#[Nm.base c ((a+1).toNat+j)]⟩:Str)))) rfl (Al (Al (Lg j1 (by rw [List.length_range];omega)) (Ab rfl) (Oi ?_)) (Lg (g:=fun j=>Nm.base c ((a+1).toNat+j)) j2 (by rw [List.length_range];omega)) (Oi ?_)) elen ?_)
  ·rw [l1]
   show a.toNat+1<=1000000
   omega
  ·rw [strLen_append,l1,l2]
   show a.toNat+1+_<=1000000
   omega
  ·rw [enm _ ?_]
   ·rfl
   ·have q1:=join_ones (Nm.base c) (List.range a.toNat)
    have q2:=join_ones (fun j=>Nm.base c ((a+1).toNat+j)) (List.range (w.toNat - (a+1).toNat))
    have ea:(a+1).toNat=a.toNat+1:=by omega
    show (((Txt.join (⟨#[]⟩:Str) _).cps++#[Nm.one c i])++(Txt.join (⟨#[]⟩:Str) _).cps).toList=_
    rw [Array.toList_append,Array.toList_append,q1,q2,Nm.codes,<- hm,if_neg h1,Nm.HP,<- ha,<- hw,ea]
theorem Oo {n:Nat} {fa:FS->Out (List Rv)} {gt:T->FS->Option FS} {body:FS->SO} {fs:FS} {r:SO} (e:fa fs=.ok [.t (.int (n:Int))] fs) (h:n < 2 ^ 62) (ef:FY gt body (FL.upTo 0 n) fs=r):Ex (Iz fa) gt body fs=r:=by
 unfold Ex
 rw [Gq e ⟨by omega,by omega⟩,Int.toNat_natCast]
 exact ef
theorem Mi {c:Int} {n:Nat} (hn:n<=12) (hb:Builtin.Int.intBits c<=2 ^ 20):∃ x2 x3 x4 x5 x6 x7 x9 x10,E9 [iv c,iv n,none,none,none,none,none,none,none,none,none]=.ret (.rf 8) [iv c,iv n,x2,x3,x4,x5,x6,x7,some (.own (.lst ((nms c n).map T.str))),x9,x10]:=by
 have hb':Builtin.Int.intBits c<=2 ^ 26:=Nat.le_trans hb (by decide)
 have w0:=Nm.VP c
 have w1:=Nm.W6 c
 have hL:∀ x:Int,atI ("abcdefghijklmnopqrstuvwxyz":Str).cps.toList (x % 26)=some (Nm.CG x):=Pb
 have hL2:("abcdefghijklmnopqrstuvwxyz":Str).length<=big:=T3
 unfold E9
 generalize ("abcdefghijklmnopqrstuvwxyz":Str)=L at hL hL2
 have s2:AY 2 (gc (.str L)) [iv c,iv n,none,none,none,none,none,none,none,none,none]=.nx [iv c,iv n,vl (.str L),none,none,none,none,none,none,none,none]:=BL Ba rfl
 have s3:AY 3 (Ag BZ (Ag AL (Ag AL (Ag BZ (Aa 0) (Aa 0)) (Aa 0)) (gc (.int 1))) (gc (.int 982451653))) [iv c,iv n,vl (.str L),none,none,none,none,none,none,none,none]=.nx [iv c,iv n,vl (.str L),iv (Nm.M c),none,none,none,none,none,none,none]:=by
  unfold Nm.M
  exact BL (Al (Al (Al (Al (Ab rfl) (Ab rfl) (Tg ⟨hb',hb'⟩)) (Ab rfl) CT) Ba CT) Ba (Tf ⟨by decide,by decide⟩)) rfl
 generalize hm:Nm.M c=m at s3
 have s4:AY 4 (Ag AL (gc (.int 1)) (Ag CF (Aa 3) (gc (.int 12)))) [iv c,iv n,vl (.str L),iv m,none,none,none,none,none,none,none]=.nx [iv c,iv n,vl (.str L),iv m,iv (Nm.W c),none,none,none,none,none,none]:=by
  unfold Nm.W
  rw [hm]
  exact BL (Al Ba (Al (Ab rfl) Ba (Dg (by decide))) CT) rfl
 generalize hw:Nm.W c=w at s4 w0 w1
 have s5:AY 5 (Ag CF (Ag Fc (Aa 3) (gc (.int 12))) (Aa 4)) [iv c,iv n,vl (.str L),iv m,iv w,none,none,none,none,none,none]=.nx [iv c,iv n,vl (.str L),iv m,iv w,iv (Nm.At c),none,none,none,none,none]:=by
  unfold Nm.At
  rw [hm,hw]
  exact BL (Al (Al (Ab rfl) Ba (HH ⟨by decide,by decide⟩)) (Ab rfl) (Dg (by omega))) rfl
 generalize ha:Nm.At c=a at s5
 have s6:=BL (i:=6) (fs':=[iv c,iv n,vl (.str L),iv m,iv w,iv a,vl (.lst ((Cs c w.toNat).map T.str)),none,none,none,none]) (SQ hL2 hL (c:=c) (w:=w) (by omega) w1 m a hm.symm (iv c) (iv n) none none none none none) rfl
 have s7:AY 7 (Ag Bn (AG Bq (Ac (gc (.int 1)) (Ac (gc (.int 3)) (Ac (gc (.int 5)) (Ac (gc (.int 7)) (Ac (gc (.int 9)) (Ac (gc (.int 11)) Ak))))))) (Ag CF (Ag Fc (Aa 3) (gc (.int 144))) (gc (.int 6)))) [iv c,iv n,vl (.str L),iv m,iv w,iv a,vl (.lst ((Cs c w.toNat).map T.str)),none,none,none,none]=.nx [iv c,iv n,vl (.str L),iv m,iv w,iv a,vl (.lst ((Cs c w.toNat).map T.str)),iv (Nm.step c),none,none,none]:=by
  have e:=Q0 c
  rw [hm] at e
  exact BL (Al (Ds rfl rfl (by decide)) (Al (Al (Ab rfl) Ba (HH ⟨by decide,by decide⟩)) Ba (Dg (by decide))) (BH rfl e)) rfl
 generalize hst:Nm.step c=st at s7
 have s8:AY 8 (AG Eb Ak) [iv c,iv n,vl (.str L),iv m,iv w,iv a,vl (.lst ((Cs c w.toNat).map T.str)),iv st,none,none,none]=.nx [iv c,iv n,vl (.str L),iv m,iv w,iv a,vl (.lst ((Cs c w.toNat).map T.str)),iv st,some (.own (.lst [])),none,none]:=rfl
 have hloop:=CU (gt:=tgN 9) (body:=(AN (AY 10 (Ag Bn (Aa 2) (Ag CF (Ag AL (Ag Fc (Aa 3) (gc (.int 864))) (Ag BZ (Aa 9) (Aa 7))) (gc (.int 26)))))
  (ifS (asB (Ag (gEq false) (Ag CF (Ag Fc (Aa 3) (gc (.int 900))) (gc (.int 3))) (gc (.int 1)))) (AZ (AV D1 (Aa 8) (Ac (Ag BZ (Ag Bn (Aa 6) (gc (.int 0))) (Ag AL (Ag CF (Ag AL (Aa 9) (Ag Fc (Aa 3) (gc (.int 7)))) (gc (.int 12))) (gc (.int 1)))) Ak))) (AZ (AV D1 (Aa 8) (Ac (Ag AL (Ag AL (fz (FH GK (gc (.str ("":Str))) (Ac (slF (Aa 6) noP (Fd (Aa 5))) Ak))) (Aa 10)) (fz (FH GK (gc (.str ("":Str))) (Ac (slF (Aa 6) (Fd (Ag AL (Aa 5) (gc (.int 1)))) noP) Ak)))) Ak))))))
  (fun ts fs=>∃ (i:Nat) (x9 x10:Option Sl),fs=[iv c,iv n,vl (.str L),iv m,iv w,iv a,vl (.lst ((Cs c w.toNat).map T.str)),iv st,some (.own (.lst ((nms c i).map T.str))),x9,x10]/\Fre x9/\Fre x10/\i<=n/\ts=(FL.upTo 0 n).drop i) (fun t' ts fs h=>?_) (FL.upTo 0 n) [iv c,iv n,vl (.str L),iv m,iv w,iv a,vl (.lst ((Cs c w.toNat).map T.str)),iv st,some (.own (.lst [])),none,none]
  ⟨0,none,none,rfl,Aw,Aw,Nat.zero_le _,rfl⟩
 ·obtain ⟨fs',ef,i,x9,x10,rfl,_,_,hi,hd⟩:=hloop
  have hi2:i=n:=by
   have:=congrArg List.length hd
   simp [FL.upTo] at this
   omega
  subst hi2
  refine ⟨vl (.str L),iv m,iv w,iv a,vl (.lst ((Cs c w.toNat).map T.str)),iv st,x9,x10,?_⟩
  rw [AJ s2,AJ s3,AJ s4,AJ s5,AJ s6,AJ s7,AJ s8]
  rw [AJ (Oo (n:=i) (fa:=Ac (Aa 1) Ak) (AW (Ab rfl) rfl) (by omega) ef)]
  rfl
 ·obtain ⟨i,x9,x10,rfl,f9,f10,hi,hd⟩:=h
  have hlt:i < n:=by
   have:=congrArg List.length hd
   simp [FL.upTo] at this
   omega
  have hc:=List.drop_eq_getElem_cons (l:=FL.upTo 0 n) (i:=i) (by simp [FL.upTo];exact hlt)
  rw [hc] at hd
  obtain ⟨e1,e2⟩:=List.cons.inj hd
  have e3:t'=T.int (i:Int):=by
   rw [e1]
   simp [FL.upTo]
  subst e3
  obtain ⟨y10,fy,e⟩:=SN hL2 hL (c:=c) (m:=m) (w:=w) (a:=a) (st:=st) (n:=n) (i:=i) hm.symm hw.symm ha.symm hst.symm (by omega) x10 f10
  exact ⟨_,_,(by unfold tgN;exact Bd rfl f9),e,i+1,_,_,rfl,Be,fy,hlt,e2⟩
theorem names {c:Int} {n:Nat} (hn:n<=12) (hb:Builtin.Int.intBits c<=2 ^ 20):Cq [iv c,iv n]=.ok (.nw (.lst ((nms c n).map T.str))) [iv c,iv n]:=by
 obtain ⟨x2,x3,x4,x5,x6,x7,x9,x10,e⟩:=Mi hn hb
 unfold Cq Dk
 show (match E9 [iv c,iv n,none,none,none,none,none,none,none,none,none] with | .nx τ=>_ | .ret (.t t) τ=>_ | .ret (.nw o) τ=>_ | .ret (.rf i) τ=>_ | .exc c τ=>_ | _=>_)=_
 rw [e]
 rfl
theorem OS (ns:List Int) (k:Nat):Bv [vl (.scr (ns.map T.int)),iv k]=.ok (.t (.int (ns.getD k 0))) [vl (.scr (ns.map T.int)),iv k]:=by
 have hl:asB (Ag gLt (Aa 1) (Ar DQ (Ac (Aa 0) Ak))) [vl (.scr (ns.map T.int)),iv k]=.ok (decide ((k:Int) < ((ns.map T.int).length:Int))) [vl (.scr (ns.map T.int)),iv k]:=rfl
 unfold Bv Dk
 show (match DK [vl (.scr (ns.map T.int)),iv k] with | .nx τ=>_ | .ret (.t t) τ=>_ | .ret (.nw o) τ=>_ | .ret (.rf i) τ=>_ | .exc c τ=>_ | _=>_)=_
 have e:DK [vl (.scr (ns.map T.int)),iv k]=.ret (.t (.int (ns.getD k 0))) [vl (.scr (ns.map T.int)),iv k]:=by
  unfold DK
  by_cases h:(k:Int) < ((ns.map T.int).length:Int)
  ·rw [decide_eq_true h] at hl
   have h':k < ns.length:=by rw [List.length_map] at h;omega
   have e2:retS (Ag Bn (Aa 0) (fz (Aa 1))) [vl (.scr (ns.map T.int)),iv k]=.ret (.t (.int (ns.getD k 0))) [vl (.scr (ns.map T.int)),iv k]:=by
    have:=Al (g:=Bn) (fa:=Aa 0) (fb:=fz (Aa 1)) (fs:=[vl (.scr (ns.map T.int)),iv k]) (Ab rfl) (AI (Ab rfl)) (RE (ns:=ns) (i:=(k:Int)) (.inl rfl) (by omega) (by omega))
    unfold retS
    rw [this,Int.toNat_natCast]
    rfl
   unfold AN
   rw [IB hl e2]
  ·rw [decide_eq_false h] at hl
   have h':ns.length<=k:=by rw [List.length_map] at h;omega
   rw [AJ (CS (h:=nxS) (fs:=[vl (.scr (ns.map T.int)),iv k]) (r:=.nx [vl (.scr (ns.map T.int)),iv k]) hl rfl)]
   have:ns.getD k 0=0:=by simp [List.getD,h']
   rw [this]
   rfl
 rw [e]
 rfl
theorem Fw {g:Rv->Rv->FS->Out Rv} {fa fb:FS->Out Rv} {fs fs1 fs2:FS} {x y:T} {r:Out Rv} (h1:fa fs=.ok (.t x) fs1) (h2:fb fs1=.ok (.t y) fs2) (h3:g (.t x) (.t y) fs2=r):Ag g fa fb fs=r:=by
 unfold Ag
 rw [h1]
 show (fb fs1).bnd _=r
 rw [h2]
 exact h3
theorem D5 {i:Nat} {f:FS->Out Rv} {fs fs1 fs':FS} {t:T} (h:f fs=.ok (.t t) fs1) (hs:HZ i (.t t) fs1=some fs'):AY i f fs=.nx fs':=by
 unfold AY
 rw [h]
 show (match HZ i (.t t) fs1 with | some fs=>SO.nx fs | none=>.bad)=_
 rw [hs]
theorem C5 {f:FS->Out Rv} {g:FS->Out (List Rv)} {fs fs1 fs2:FS} {t:T} {rs:List Rv} (h1:f fs=.ok (.t t) fs1) (h2:g fs1=.ok rs fs2):Ac f g fs=.ok (.t t :: rs) fs2:=by
 unfold Ac
 rw [h1]
 show (g fs1).bind _=_
 rw [h2]
 rfl
theorem KA {g:List T->FS->Out Rv} {fa:FS->Out (List Rv)} {fs fs1:FS} {rs:List Rv} {ts:List T} {r:Out Rv} (h:fa fs=.ok rs fs1) (h2:KP rs=some ts) (h3:ts.length<=big) (e:g ts fs1=r):AG g fa fs=r:=by
 unfold AG
 rw [h]
 show (match KP rs with | some ts=>_ | none=>_)=_
 rw [h2]
 exact (if_pos h3).trans e
theorem E2 {f:FS->Out Rv} {fs fs1:FS} {t:T} (h:f fs=.ok (.t t) fs1):fz f fs=.ok (.t t) fs1:=by
 unfold fz
 rw [h]
 rfl
theorem Ka {i:Nat} {fs fs':FS} {t:T} {ts:List T} (h0:fs[i]?=some (some (.bor (.lst (ts++[t]))))) (e:fs.set i (some (.bor (.lst ts)))=fs'):fz (AV Ho (Aa i) Ak) fs=.ok (.t t) fs':=by
 have h1:Aa i fs=.ok (.rf i) fs:=by unfold Aa;rw [h0]
 have h2:FL.A1 fs i=some (.lst (ts++[t])):=by unfold FL.A1;rw [h0]
 have h3:C6 fs (.rf i)=some (ts++[t]):=by simp only [C6,h2]
 have h5:Ho (.rf i) [] fs=.ok (.t t) fs':=by
  have:FL.putAt fs i (.lst ts)=fs':=by
   unfold FL.putAt
   rw [h0]
   exact e
  simp only [Ho,h2,List.getLast?_concat,List.dropLast_concat,this,okT]
 refine E2 ?_
 unfold AV
 rw [h1]
 show (if (C6 fs (.rf i)).isSome=true then _ else _)=_
 rw [h3,if_pos (show (some (ts++[t])).isSome=true from rfl)]
 exact h5
theorem CQ {f:FS->Out Rv} {fs fs1:FS} {r:Rv} (h:f fs=.ok r fs1):retS f fs=.ret r fs1:=by
 unfold retS
 rw [h]
 rfl
theorem PD {g h:FS->SO} {fs fs':FS} {r:Rv} (e:g fs=.ret r fs'):AN g h fs=.ret r fs':=by unfold AN;rw [e]
theorem RW {names:List Str} {O:Nat} (hO:0 < O) (hl:O<=names.length) (z:Int):names.getD (z % (O:Int)).toNat ⟨#[]⟩∈names.take O/\atI (names.map T.str) (z % (O:Int))=some (T.str (names.getD (z % (O:Int)).toNat ⟨#[]⟩)):=by
 have h0:0<=z % (O:Int):=Int.emod_nonneg _ (by omega)
 have h1:z % (O:Int) < O:=Int.emod_lt_of_pos _ (by omega)
 have hi:(z % (O:Int)).toNat < O:=by omega
 have hi2:(z % (O:Int)).toNat < names.length:=by omega
 have e:names.getD (z % (O:Int)).toNat ⟨#[]⟩=names[(z % (O:Int)).toNat]:=by simp [List.getD,hi2]
 refine ⟨?_,?_⟩
 ·rw [e]
  exact List.mem_take_iff_getElem.mpr ⟨(z % (O:Int)).toNat,by omega,rfl⟩
 ·have e2:(names.map T.str)[(z % (O:Int)).toNat]?=some (T.str (names.getD (z % (O:Int)).toNat ⟨#[]⟩)):=by
   rw [e,List.getElem?_map,List.getElem?_eq_getElem hi2]
   rfl
  have:=A9 e2
  rwa [Int.toNat_of_nonneg h0] at this
def pick (z2 z3:Int) (i:Int):Int:=if i=0 then z2 else z3
theorem Md {names:List Str} {at':Int} {fi:T} {pu:List T} {q O:Nat} {z2 z3:Int} (hO:0 < O) (hl:O<=names.length) (hq:q<=2) :
  retS (Ar EY (Ac (BK false [none,some 0,some 6,some 5] (Iz (Ac (Aa 4) Ak)) (tgN 0) DY (Ag Bn (Aa 1) (Ag CF (Ag Bn (Aa 3) (fz (Aa 0))) (Aa 2)))) Ak)) [vl (.lst (names.map T.str)),iv at',vl fi,some (.bor (.lst pu)),iv (q:Int),vl (.lst [.int z2,.int z3]),iv (O:Int)] =
   .ret (.t (.tup (((List.range q).map fun (k:Nat)=>names.getD (pick z2 z3 (k:Int) % (O:Int)).toNat ⟨#[]⟩).map T.str))) [vl (.lst (names.map T.str)),iv at',vl fi,some (.bor (.lst pu)),iv (q:Int),vl (.lst [.int z2,.int z3]),iv (O:Int)]:=by
 have e1:=Gq (fa:=Ac (Aa 4) Ak) (fs:=[vl (.lst (names.map T.str)),iv at',vl fi,some (.bor (.lst pu)),iv (q:Int),vl (.lst [.int z2,.int z3]),iv (O:Int)]) (j:=(q:Int)) (AW (Ab rfl) rfl) ⟨by omega,by omega⟩
 rw [Int.toNat_natCast] at e1
 obtain ⟨y,hy,e2⟩:=Ed (fe:=Ag Bn (Aa 1) (Ag CF (Ag Bn (Aa 3) (fz (Aa 0))) (Aa 2))) (f:=fun t'=>match t' with | .int i=>.str (names.getD (pick z2 z3 i % (O:Int)).toNat ⟨#[]⟩) | _=>.non) (rest:=[vl (.lst (names.map T.str)),iv (O:Int),vl (.lst [.int z2,.int z3])]) (FL.upTo 0 q) none [] Aw (fun t' mt=>by
   unfold FL.upTo at mt
   rw [List.mem_map] at mt
   obtain ⟨k,mk,rfl⟩:=mt
   have hk:=List.mem_range.mp mk
   rw [Int.zero_add]
   have ep:atI [T.int z2,T.int z3] (k:Int)=some (T.int (pick z2 z3 (k:Int))):=by
    have:k=0∨k=1:=by omega
    rcases this with rfl | rfl
    ·exact A9 rfl
    ·exact A9 rfl
   exact Al (Ab rfl) (Al (Al (Ab rfl) (AI (Ab rfl)) (BH rfl ep)) (Ab rfl) (Dg (by omega))) (BH rfl (RW hO hl _).2)) (by
   unfold FL.upTo
   rw [List.length_map,List.length_range]
   show 0+_<=1000000
   omega)
 have e3:=DT (src:=[none,some 0,some 6,some 5]) e1 ⟨by rw [show CN [vl (.lst (names.map T.str)),iv at',vl fi,some (.bor (.lst pu)),iv (q:Int),vl (.lst [.int z2,.int z3]),iv (O:Int)] _=[] from rfl];exact List.nodup_nil,by rfl⟩ e2 (AM rfl)
 have e4:(FL.upTo 0 q).map (fun t'=>match t' with | .int i=>T.str (names.getD (pick z2 z3 i % (O:Int)).toNat ⟨#[]⟩) | _=>.non)=((List.range q).map fun (k:Nat)=>names.getD (pick z2 z3 (k:Int) % (O:Int)).toNat ⟨#[]⟩).map T.str:=by
  unfold FL.upTo
  rw [List.map_map,List.map_map]
  refine List.map_congr_left fun k _=>?_
  simp only [Function.comp_apply,Int.zero_add]
 rw [List.nil_append,e4] at e3
 exact CQ (DU (AW e3 rfl) rfl)
theorem parts {names:List Str} {at':Nat} {first:Bool} {pu:List T} {z1 z2 z3:Int} (hn:0 < names.length) (ha:at'<=names.length) :
  ∃ ps:List Str,ps.length<=2/\(∀ x∈ps,x∈names.take (if first=true then at' else names.length))/\BJ [vl (.lst (names.map T.str)),iv (at':Int),vl (.bl first),some (.bor (.lst (pu++[.int z3]++[.int z2]++[.int z1])))] =
   .ok (.t (.tup (ps.map T.str))) [vl (.lst (names.map T.str)),iv (at':Int),vl (.bl first),some (.bor (.lst pu))]:=by
 have hq:∃ q:Nat,q<=2/\atI [T.int 0,T.int 1,T.int 1,T.int 2] (z1 % 4)=some (T.int (q:Int)):=by
  have h:z1 % 4=((0:Nat):Int)∨z1 % 4=((1:Nat):Int)∨z1 % 4=((2:Nat):Int)∨z1 % 4=((3:Nat):Int):=by omega
  rcases h with h | h | h | h <;> rw [h]
  ·exact ⟨0,by omega,A9 rfl⟩
  ·exact ⟨1,by omega,A9 rfl⟩
  ·exact ⟨1,by omega,A9 rfl⟩
  ·exact ⟨2,by omega,A9 rfl⟩
 obtain ⟨q,hq,eq⟩:=hq
 have s4:AY 4 (Ag Bn (AG Bq (Ac (gc (.int 0)) (Ac (gc (.int 1)) (Ac (gc (.int 1)) (Ac (gc (.int 2)) Ak))))) (Ag CF (fz (AV Ho (Aa 3) Ak)) (gc (.int 4)))) [vl (.lst (names.map T.str)),iv (at':Int),vl (.bl first),some (.bor (.lst (pu++[.int z3]++[.int z2]++[.int z1]))),none,none,none] =
   .nx [vl (.lst (names.map T.str)),iv (at':Int),vl (.bl first),some (.bor (.lst (pu++[.int z3]++[.int z2]))),iv (q:Int),none,none] :=
  D5 (Fw (Ds rfl rfl (by decide)) (Fw (Ka (ts:=pu++[.int z3]++[.int z2]) rfl rfl) Ba (Dg (by decide))) (BH rfl eq)) rfl
 have s5:AY 5 (AG Bq (Ac (fz (AV Ho (Aa 3) Ak)) (Ac (fz (AV Ho (Aa 3) Ak)) Ak))) [vl (.lst (names.map T.str)),iv (at':Int),vl (.bl first),some (.bor (.lst (pu++[.int z3]++[.int z2]))),iv (q:Int),none,none] =
   .nx [vl (.lst (names.map T.str)),iv (at':Int),vl (.bl first),some (.bor (.lst pu)),iv (q:Int),vl (.lst [.int z2,.int z3]),none] :=
  D5 (KA (g:=Bq) (C5 (Ka (ts:=pu++[.int z3]) rfl rfl) (C5 (Ka (ts:=pu) rfl rfl) rfl)) rfl (show 2<=big by decide) rfl) rfl
 have s6:AY 6 (Ar DQ (Ac (Aa 0) Ak)) [vl (.lst (names.map T.str)),iv (at':Int),vl (.bl first),some (.bor (.lst pu)),iv (q:Int),vl (.lst [.int z2,.int z3]),none] =
   .nx [vl (.lst (names.map T.str)),iv (at':Int),vl (.bl first),some (.bor (.lst pu)),iv (q:Int),vl (.lst [.int z2,.int z3]),iv (names.length:Int)]:=by
  have:((names.map T.str).length:Int)=(names.length:Int):=by rw [List.length_map]
  rw [<- this]
  rfl
 have s7:ifS (EH (Aa 2)) (AY 6 (fz (Aa 1))) nxS [vl (.lst (names.map T.str)),iv (at':Int),vl (.bl first),some (.bor (.lst pu)),iv (q:Int),vl (.lst [.int z2,.int z3]),iv (names.length:Int)] =
   .nx [vl (.lst (names.map T.str)),iv (at':Int),vl (.bl first),some (.bor (.lst pu)),iv (q:Int),vl (.lst [.int z2,.int z3]),iv ((if first=true then at' else names.length:Nat):Int)]:=by
  cases first <;> rfl
 have hOl:(if first=true then at' else names.length)<=names.length:=by split <;> omega
 generalize (if first=true then at' else names.length)=O at s7 hOl ⊢
 have hc:=RN (fa:=Aa 6) (fb:=gc (.int 0)) (fs:=[vl (.lst (names.map T.str)),iv (at':Int),vl (.bl first),some (.bor (.lst pu)),iv (q:Int),vl (.lst [.int z2,.int z3]),iv (O:Int)]) (i:=(O:Int)) (Ab rfl) Ba
 by_cases h0:(O:Int)=0
 ·rw [decide_eq_true h0] at hc
  refine ⟨[],by simp,by simp,?_⟩
  have all:Dt [vl (.lst (names.map T.str)),iv (at':Int),vl (.bl first),some (.bor (.lst (pu++[.int z3]++[.int z2]++[.int z1]))),none,none,none]=.ret (.t (.tup [])) [vl (.lst (names.map T.str)),iv (at':Int),vl (.bl first),some (.bor (.lst pu)),iv (q:Int),vl (.lst [.int z2,.int z3]),iv (O:Int)]:=by
   unfold Dt
   rw [AJ s4,AJ s5,AJ s6,AJ s7]
   exact PD (IB hc rfl)
  unfold BJ Dk
  show (match Dt [vl (.lst (names.map T.str)),iv (at':Int),vl (.bl first),some (.bor (.lst (pu++[.int z3]++[.int z2]++[.int z1]))),none,none,none] with | .nx τ=>_ | .ret (.t t) τ=>_ | .ret (.nw o) τ=>_ | .ret (.rf i) τ=>_ | .exc c τ=>_ | _=>_)=_
  rw [all]
  rfl
 ·rw [decide_eq_false h0] at hc
  have hO:0 < O:=by omega
  refine ⟨(List.range q).map fun (k:Nat)=>names.getD (pick z2 z3 (k:Int) % (O:Int)).toNat ⟨#[]⟩,by simpa using hq,fun x m=>?_,?_⟩
  ·rw [List.mem_map] at m
   obtain ⟨k,_,rfl⟩:=m
   exact (RW hO hOl _).1
  ·have all:Dt [vl (.lst (names.map T.str)),iv (at':Int),vl (.bl first),some (.bor (.lst (pu++[.int z3]++[.int z2]++[.int z1]))),none,none,none]=.ret (.t (.tup (((List.range q).map fun (k:Nat)=>names.getD (pick z2 z3 (k:Int) % (O:Int)).toNat ⟨#[]⟩).map T.str))) [vl (.lst (names.map T.str)),iv (at':Int),vl (.bl first),some (.bor (.lst pu)),iv (q:Int),vl (.lst [.int z2,.int z3]),iv (O:Int)]:=by
    unfold Dt
    rw [AJ s4,AJ s5,AJ s6,AJ s7,AJ (CS (h:=nxS) hc rfl)]
    exact Md hO hOl hq
   unfold BJ Dk
   show (match Dt [vl (.lst (names.map T.str)),iv (at':Int),vl (.bl first),some (.bor (.lst (pu++[.int z3]++[.int z2]++[.int z1]))),none,none,none] with | .nx τ=>_ | .ret (.t t) τ=>_ | .ret (.nw o) τ=>_ | .ret (.rf i) τ=>_ | .exc c τ=>_ | _=>_)=_
   rw [all]
   rfl
theorem VN:∀ j,j < 26->(!(Builtin.Str.occurrences ABC ⟨#[97+j]⟩ 0 ABC.length 1).isEmpty)=true:=by decide +kernel
theorem JX:∀ bs:List Bool,D4 (bs.map T.bl)=some bs
 | []=>rfl
 | b :: bs=>by simp [D4,JX bs]
theorem Vk {x y:Str} {fs:FS}:EK false (.t (.str x)) (.t (.str y)) fs=.ok (.t (.bl (!(Builtin.Str.occurrences y x 0 y.length 1).isEmpty))) fs:=rfl
theorem Mp {z:Str} (h0:1<=z.length) (h1:z.length<=12) (hl:∀ x∈z.cps.toList,97<=x/\x<=122):Bm [vl (.str z)]=.ok (.t (.bl true)) [vl (.str z)]:=by
 have hin:∀ x,97<=x/\x<=122->(!(Builtin.Str.occurrences ("abcdefghijklmnopqrstuvwxyz":Str) ⟨#[x]⟩ 0 ("abcdefghijklmnopqrstuvwxyz":Str).length 1).isEmpty)=true:=fun x hx=>by
  have:=VN (x - 97) (by omega)
  rwa [show 97+(x - 97)=x by omega] at this
 have hlen:Ar DQ (Ac (Aa 0) Ak) [vl (.str z)]=.ok (.t (.int z.length)) [vl (.str z)]:=by
  have e:Of [.t (.str z)] [vl (.str z)]=.ok (.t (.int z.length)) [vl (.str z)]:=if_pos (show z.length<=1000000 by omega)
  refine DU (AW (Ab rfl) rfl) ?_
  unfold DQ orC
  show (match orC Of QE [.t (.str z)] [vl (.str z)] with | o=>o)=_
  unfold orC
  rw [e]
 have hc:Eu (asB (chain gLe gLe (gc (.int 1)) (Ar DQ (Ac (Aa 0) Ak)) (gc (.int 12)))) [vl (.str z)]=.ok false [vl (.str z)]:=by
  have e1:gLe (.t (.int 1)) (.t (.int z.length)) [vl (.str z)]=.ok (.t (.bl true)) [vl (.str z)]:=by
   show okT (.bl (decide ((1:Int)<=z.length))) _=_
   rw [decide_eq_true (by omega)]
   rfl
  have e2:gLe (.t (.int z.length)) (.t (.int 12)) [vl (.str z)]=.ok (.t (.bl true)) [vl (.str z)]:=by
   show okT (.bl (decide ((z.length:Int)<=12))) _=_
   rw [decide_eq_true (by omega)]
   rfl
  simp only [Eu,asB,chain,gc,Out.bnd,Out.bind,hlen,e1,e2,Bool.not_true]
 unfold Bm Dk
 show (match Ef [vl (.str z)] with | .nx τ=>_ | .ret (.t t) τ=>_ | .ret (.nw o) τ=>_ | .ret (.rf i) τ=>_ | .exc c τ=>_ | _=>_)=_
 have all:Ef [vl (.str z)]=.ret (.t (.bl true)) [vl (.str z)]:=by
  unfold Ef
  generalize ("abcdefghijklmnopqrstuvwxyz":Str)=L at hin
  rw [AJ (CS (h:=nxS) hc rfl)]
  have e1:itU (fz (Aa 0)) [vl (.str z)]=.ok (signs z) [vl (.str z)]:=rfl
  obtain ⟨y,hy,e2⟩:=Ed (fe:=Ag (EK false) (fz (Aa 0)) (gc (.str L))) (f:=fun _=>.bl true) (rest:=[]) (signs z) none [] Aw (fun t' mt=>by
    unfold signs at mt
    rw [List.mem_map] at mt
    obtain ⟨x,mx,rfl⟩:=mt
    refine Al (AI (Ab rfl)) Ba ?_
    rw [Vk,hin x (hl x mx)]) (by
    unfold signs
    rw [List.length_map,Array.length_toList]
    show 0+z.length<=1000000
    omega)
  have e3:=DT (src:=[none]) e1 ⟨by rw [show CN [vl (.str z)] _=[] from rfl];exact List.nodup_nil,by rfl⟩ e2 (AM rfl)
  have e4:(signs z).map (fun _=>T.bl true)=((signs z).map fun _=>true).map T.bl:=by rw [List.map_map];rfl
  rw [List.nil_append,e4] at e3
  refine CQ (DU (AW e3 rfl) ?_)
  simp only [Vn,C6,Option.bind_some,JX,okT]
  congr 3
  simp
 rw [all]
 rfl
theorem HD (c:Int) (k:Nat):Bm [vl (.str (nmS c k))]=.ok (.t (.bl true)) [vl (.str (nmS c k))]:=by
 refine Mp ?_ ?_ ?_
 ·show 1<=(Nm.codes c k).toArray.size
  rw [List.size_toArray]
  exact Nm.QO c k
 ·show (Nm.codes c k).toArray.size<=12
  rw [List.size_toArray]
  exact Nm.LG c k
 ·intro x hx
  exact Nm.E5 c k x (by simpa [nmS] using hx)
theorem SR {c:Int} {k k':Nat} (hk:k < 12) (hk':k' < 12) (h:nmS c k=nmS c k'):k=k':=by
 refine Nm.OQ (c:=c) hk hk' ?_
 have:=congrArg (fun s:Str=>s.cps.toList) h
 simpa [nmS] using this
theorem Av {f:FS->Out Rv} {g:FS->Out (List Rv)} {fs fs1 fs2:FS} {r:Rv} {rs:List Rv} (h1:f fs=.ok r fs1) (h2:g fs1=.ok rs fs2):Ah f g fs=.ok (r :: rs) fs2:=by
 unfold Ah
 rw [h1]
 show (g fs1).bind _=_
 rw [h2]
 rfl
theorem Et {p:Nat} {Fn:FS->Out Rv} {fa:FS->Out (List Rv)} {fs fs1 fs' τ:FS} {rs:List Rv} {t:T} (ha:fa fs=.ok rs fs1) (hp:rs.length=p) (hn:(CN fs1 (rs.map Bx)).Nodup) (hf:Fn (De fs1 (rs.map Bx))=.ok (.t t) τ) (hb:D3 (rs.map Bx) τ fs1=some fs') :
  Ar (Ay p Fn) fa fs=.ok (.t t) fs':=by
 unfold Ar
 rw [ha]
 show Ay p Fn rs fs1=_
 unfold Ay
 rw [if_pos hp]
 unfold FF
 rw [if_pos hn,hf]
 dsimp only
 rw [hb]
theorem E8 {p:Nat} {Fn:FS->Out Rv} {fa:FS->Out (List Rv)} {fs fs1 fs' τ:FS} {rs:List Rv} {o:FO} (ha:fa fs=.ok rs fs1) (hp:rs.length=p) (hn:(CN fs1 (rs.map Bx)).Nodup) (hf:Fn (De fs1 (rs.map Bx))=.ok (.nw o) τ) (hb:D3 (rs.map Bx) τ fs1=some fs') :
  Ar (Ay p Fn) fa fs=.ok (.nw o) fs':=by
 unfold Ar
 rw [ha]
 show Ay p Fn rs fs1=_
 unfold Ay
 rw [if_pos hp]
 unfold FF
 rw [if_pos hn,hf]
 dsimp only
 rw [hb]
theorem RZ {i:Nat} {f:FS->Out Rv} {fs fs1 fs':FS} {t:T} {us ts:List T} (h0:fs[i]?=some (some (.own (.lst us)))) (h:f fs=.ok (.t t) fs1) (h0':fs1[i]?=some (some (.own (.lst ts)))) (hl:ts.length < big) (e:fs1.set i (some (.own (.lst (ts++[t]))))=fs'):AZ (AV D1 (Aa i) (Ac f Ak)) fs=.nx fs':=by
 have h1:Aa i fs=.ok (.rf i) fs:=by unfold Aa;rw [h0]
 have h2:FL.A1 fs i=some (.lst us):=by unfold FL.A1;rw [h0]
 have h2':FL.A1 fs1 i=some (.lst ts):=by unfold FL.A1;rw [h0']
 have h3:C6 fs (.rf i)=some us:=by simp only [C6,h2]
 have h4:Ac f Ak fs=.ok [.t t] fs1:=C5 h rfl
 have h5:D1 (.rf i) [.t t] fs1=.ok (.t .non) fs':=by
  simp only [D1,h2']
  rw [if_pos hl]
  have:FL.putAt fs1 i (.lst (ts++[t]))=fs':=by
   unfold FL.putAt
   rw [h0']
   exact e
  rw [this]
 have h6:AV D1 (Aa i) (Ac f Ak) fs=.ok (.t .non) fs':=by
  unfold AV
  rw [h1]
  show (if (C6 fs (.rf i)).isSome=true then _ else _)=_
  rw [h3,if_pos (show (some us).isSome=true from rfl),h4]
  exact h5
 unfold AZ
 rw [h6]
 rfl
def BG:Str×List Str->T:=fun r=>.tup [.str r.1,.tup (r.2.map T.str)]
def An:Str×List (Str×List Str)->T:=fun k=>.tup [.str k.1,.lst (k.2.map BG)]
theorem PJ {sc:T} {many:Int} {names makers:List Str} {got:List T} {u a k:Nat} {rows:List (Str×List Str)} {pu:List T} {z1 z2 z3:Int} (hn:0 < names.length) (ha:a<=names.length) (hu:u < makers.length) (hr:rows.length < 1000) :
  ∃ ps:List Str,ps.length<=2/\(∀ x∈ps,x∈names.take (if k=0 then a else names.length)) /\
   (AN (AZ (AV D1 (Aa 8) (Ac (AG CH (Ac (Ag Bn (Aa 4) (fz (Aa 6))) (Ac (fz (Ar (Ay 4 BJ) (Ah (fz (Aa 3)) (Ah (fz (Aa 7)) (Ah (Ag (gEq false) (Aa 9) (gc (.int 0))) (Ah (Aa 1) Ak)))))) Ak))) Ak)))
  (AY 6 (Ag AL (Aa 6) (gc (.int 1))))) [vl sc,some (.own (.lst (pu++[.int z3]++[.int z2]++[.int z1]))),iv many,vl (.lst (names.map T.str)),vl (.lst (makers.map T.str)),some (.own (.lst got)),iv (u:Int),iv (a:Int),some (.own (.lst (rows.map BG))),iv (k:Int)] =
   .nx [vl sc,some (.own (.lst pu)),iv many,vl (.lst (names.map T.str)),vl (.lst (makers.map T.str)),some (.own (.lst got)),iv ((u+1:Nat):Int),iv (a:Int),some (.own (.lst ((rows++[(makers.getD u ⟨#[]⟩,ps)]).map BG))),iv (k:Int)]:=by
 obtain ⟨ps,h1,h2,h3⟩:=parts (names:=names) (at':=a) (first:=decide ((k:Int)=0)) (pu:=pu) (z1:=z1) (z2:=z2) (z3:=z3) hn ha
 refine ⟨ps,h1,?_,?_⟩
 ·by_cases hk:k=0
  ·subst hk
   simpa using h2
  ·have:¬ ((k:Int)=0):=by omega
   rw [decide_eq_false this] at h2
   rw [if_neg hk]
   simpa using h2
 ·have em:atI (makers.map T.str) (u:Int)=some (T.str (makers.getD u ⟨#[]⟩)):=A9 (by
   rw [List.getElem?_map,List.getElem?_eq_getElem hu]
   simp [List.getD,hu])
  have ek:Ag (gEq false) (Aa 9) (gc (.int 0)) [vl sc,some (.own (.lst (pu++[.int z3]++[.int z2]++[.int z1]))),iv many,vl (.lst (names.map T.str)),vl (.lst (makers.map T.str)),some (.own (.lst got)),iv (u:Int),iv (a:Int),some (.own (.lst (rows.map BG))),iv (k:Int)]=.ok (.t (.bl (decide ((k:Int)=0)))) [vl sc,some (.own (.lst (pu++[.int z3]++[.int z2]++[.int z1]))),iv many,vl (.lst (names.map T.str)),vl (.lst (makers.map T.str)),some (.own (.lst got)),iv (u:Int),iv (a:Int),some (.own (.lst (rows.map BG))),iv (k:Int)]:=by
   refine Al (Ab rfl) Ba ?_
   have q:decide (V.int (k:Int)=V.int 0)=decide ((k:Int)=0):=by
    by_cases h:(k:Int)=0
    ·rw [h];simp
    ·rw [decide_eq_false h,decide_eq_false (by intro z;cases z;exact h rfl)]
   show (if L8 (V.int (k:Int)) (V.int 0)=true then okT (.bl (if false=true then _ else decide (V.int (k:Int)=V.int 0))) _ else .bad)=_
   rw [if_pos (show L8 (V.int (k:Int)) (V.int 0)=true from rfl),q]
   rfl
  have ec:=Et (p:=4) (Fn:=BJ) (Av (AI (Ab (i:=3) rfl)) (Av (AI (Ab (i:=7) rfl)) (Av ek (Av (show Aa 1 _=.ok (.rf 1) _ from rfl) (show Ak _=.ok [] _ from rfl))))) rfl (by
   rw [show CN _ _=[1] from rfl]
   simp) h3 rfl
  rw [AJ (RZ (i:=8) rfl (KA (g:=CH) (ts:=[T.str (makers.getD u ⟨#[]⟩),T.tup (ps.map T.str)]) (C5 (Al (Ab rfl) (AI (Ab rfl)) (BH rfl em)) (C5 (E2 ec) (show Ak _=.ok [] _ from rfl))) rfl (show 2<=big by decide) rfl) rfl (by rw [List.length_map];show _ < 1000000;omega) rfl)]
  have e1:rows.map BG++[T.tup [T.str (makers.getD u ⟨#[]⟩),T.tup (ps.map T.str)]]=(rows++[(makers.getD u ⟨#[]⟩,ps)]).map BG:=by rw [List.map_append];rfl
  rw [<- e1]
  exact BL (Al (Ab rfl) Ba CT) rfl
theorem NS {α:Type} {xs:List α} (h:1<=xs.length):∃ e z,xs=e++[z]/\e.length+1=xs.length:=by
 have hne:xs≠[]:=by intro q;rw [q] at h;simp at h
 exact ⟨xs.dropLast,xs.getLast hne,(List.dropLast_concat_getLast hne).symm,by rw [List.length_dropLast];omega⟩
theorem WH {ds:List Int} (h:3<=ds.length):∃ (e:List Int) (z1 z2 z3:Int),ds.map T.int=e.map T.int++[.int z3]++[.int z2]++[.int z1]/\e.length+3=ds.length:=by
 obtain ⟨d1,z1,rfl,h1⟩:=NS (xs:=ds) (by omega)
 obtain ⟨d2,z2,rfl,h2⟩:=NS (xs:=d1) (by omega)
 obtain ⟨d3,z3,rfl,h3⟩:=NS (xs:=d2) (by omega)
 exact ⟨d3,z1,z2,z3,by simp,by simp at h ⊢⟩
structure Rows (names makers:List Str) (a u:Nat) (rows:List (Str×List Str)):Prop where
 mks:rows.map (·.1)=(List.range rows.length).map fun j=>makers.getD (u+j) ⟨#[]⟩
 two:∀ r∈rows,r.2.length<=2
 prt:∀ r∈rows,∀ x∈r.2,x∈names
 fst:∀ r,rows[0]?=some r->∀ x∈r.2,x∈names.take a
theorem Rows.nil {names makers:List Str} {a u:Nat}:Rows names makers a u []:=⟨rfl,(fun _ m=>nomatch m),(fun _ m=>nomatch m),(fun _ e=>nomatch e)⟩
theorem Rows.snoc {names makers:List Str} {a u:Nat} {rows:List (Str×List Str)} (R:Rows names makers a u rows) {ps:List Str} (h1:ps.length<=2) (h2:∀ x∈ps,x∈names.take (if rows.length=0 then a else names.length)):Rows names makers a u (rows++[(makers.getD (u+rows.length) ⟨#[]⟩,ps)]):=by
 refine ⟨?_,fun r m=>?_,fun r m x hx=>?_,fun r e x hx=>?_⟩
 ·rw [List.map_append,R.mks,List.length_append,List.length_singleton,List.range_succ,List.map_append]
  rfl
 ·rcases List.mem_append.mp m with m | m
  ·exact R.two r m
  ·rw [List.mem_singleton.mp m];exact h1
 ·rcases List.mem_append.mp m with m | m
  ·exact R.prt r m x hx
  ·rw [List.mem_singleton.mp m] at hx
   exact List.mem_of_mem_take (h2 x hx)
 ·cases rows with
  | nil =>
   have:r=(makers.getD (u+0) ⟨#[]⟩,ps):=by simpa using e.symm
   rw [this] at hx
   simpa using h2 x hx
  | cons r0 rs =>
   exact R.fst r (by simpa using e) x hx
theorem MX {sc:T} {many:Int} {names makers:List Str} {got:List T} {u a n:Nat} {ds:List Int} {x9:Option Sl} (hn:0 < names.length) (ha:a<=names.length) (hu:u+n<=makers.length) (hd:3 * n<=ds.length) (hn2:n<=100) (h9:Fre x9) :
  ∃ (rows:List (Str×List Str)) (es:List Int) (y9:Option Sl),rows.length=n/\Rows names makers a u rows/\es.length+3 * n=ds.length/\Fre y9/\FY (tgN 9) (AN (AZ (AV D1 (Aa 8) (Ac (AG CH (Ac (Ag Bn (Aa 4) (fz (Aa 6))) (Ac (fz (Ar (Ay 4 BJ) (Ah (fz (Aa 3)) (Ah (fz (Aa 7)) (Ah (Ag (gEq false) (Aa 9) (gc (.int 0))) (Ah (Aa 1) Ak)))))) Ak))) Ak)))
  (AY 6 (Ag AL (Aa 6) (gc (.int 1))))) (FL.upTo 0 n) [vl sc,some (.own (.lst (ds.map T.int))),iv many,vl (.lst (names.map T.str)),vl (.lst (makers.map T.str)),some (.own (.lst got)),iv (u:Int),iv (a:Int),some (.own (.lst [])),x9] =
   .nx [vl sc,some (.own (.lst (es.map T.int))),iv many,vl (.lst (names.map T.str)),vl (.lst (makers.map T.str)),some (.own (.lst got)),iv ((u+n:Nat):Int),iv (a:Int),some (.own (.lst (rows.map BG))),y9]:=by
 obtain ⟨fs',ef,rows,es,y9,rfl,hle,R,he,f9,hts⟩:=CU (gt:=tgN 9) (body:=(AN (AZ (AV D1 (Aa 8) (Ac (AG CH (Ac (Ag Bn (Aa 4) (fz (Aa 6))) (Ac (fz (Ar (Ay 4 BJ) (Ah (fz (Aa 3)) (Ah (fz (Aa 7)) (Ah (Ag (gEq false) (Aa 9) (gc (.int 0))) (Ah (Aa 1) Ak)))))) Ak))) Ak)))
  (AY 6 (Ag AL (Aa 6) (gc (.int 1))))))
  (fun ts fs=>∃ (rows:List (Str×List Str)) (es:List Int) (y9:Option Sl),fs=[vl sc,some (.own (.lst (es.map T.int))),iv many,vl (.lst (names.map T.str)),vl (.lst (makers.map T.str)),some (.own (.lst got)),iv ((u+rows.length:Nat):Int),iv (a:Int),some (.own (.lst (rows.map BG))),y9]/\rows.length<=n/\Rows names makers a u rows/\es.length+3 * rows.length=ds.length/\Fre y9/\ts=(FL.upTo 0 n).drop rows.length)
  (fun t' ts fs h=>by
   obtain ⟨rows,es,y9,rfl,hle,R,he,f9,hts⟩:=h
   have hlt:rows.length < n:=by
    have:=congrArg List.length hts
    simp [FL.upTo] at this
    omega
   have hc:=List.drop_eq_getElem_cons (l:=FL.upTo 0 n) (i:=rows.length) (by simp [FL.upTo];exact hlt)
   rw [hc] at hts
   obtain ⟨e1,e2⟩:=List.cons.inj hts
   have e3:t'=T.int (rows.length:Int):=by
    rw [e1]
    simp [FL.upTo]
   subst e3
   obtain ⟨e,z1,z2,z3,eds,el⟩:=WH (ds:=es) (by omega)
   obtain ⟨ps,p1,p2,p3⟩:=PJ (sc:=sc) (many:=many) (names:=names) (makers:=makers) (got:=got) (u:=u+rows.length) (a:=a) (k:=rows.length) (rows:=rows) (pu:=e.map T.int) (z1:=z1) (z2:=z2) (z3:=z3) hn ha (by omega) (by omega)
   rw [eds]
   refine ⟨_,_,(by unfold tgN;exact Bd rfl f9),p3,rows++[(makers.getD (u+rows.length) ⟨#[]⟩,ps)],e,iv (rows.length:Int),?_,by simp;omega,R.snoc p1 p2,by simp;omega,Be,?_⟩
   ·rw [List.length_append,List.length_singleton]
    rfl
   ·rw [e2,List.length_append,List.length_singleton])
  (FL.upTo 0 n) [vl sc,some (.own (.lst (ds.map T.int))),iv many,vl (.lst (names.map T.str)),vl (.lst (makers.map T.str)),some (.own (.lst got)),iv (u:Int),iv (a:Int),some (.own (.lst [])),x9] ⟨[],ds,x9,rfl,Nat.zero_le _,Rows.nil,by simp,h9,rfl⟩
 have hi2:rows.length=n:=by
  have:=congrArg List.length hts
  simp [FL.upTo] at this
  omega
 refine ⟨rows,es,y9,hi2,R,by omega,f9,?_⟩
 rw [ef,hi2]
theorem Nb {i:Nat} {fs fs':FS} {t:T} {ts:List T} (h0:fs[i]?=some (some (.own (.lst (ts++[t]))))) (e:fs.set i (some (.own (.lst ts)))=fs'):fz (AV Ho (Aa i) Ak) fs=.ok (.t t) fs':=by
 have h1:Aa i fs=.ok (.rf i) fs:=by unfold Aa;rw [h0]
 have h2:FL.A1 fs i=some (.lst (ts++[t])):=by unfold FL.A1;rw [h0]
 have h3:C6 fs (.rf i)=some (ts++[t]):=by simp only [C6,h2]
 have h5:Ho (.rf i) [] fs=.ok (.t t) fs':=by
  have:FL.putAt fs i (.lst ts)=fs':=by
   unfold FL.putAt
   rw [h0]
   exact e
  simp only [Ho,h2,List.getLast?_concat,List.dropLast_concat,this,okT]
 refine E2 ?_
 unfold AV
 rw [h1]
 show (if (C6 fs (.rf i)).isSome=true then _ else _)=_
 rw [h3,if_pos (show (some (ts++[t])).isSome=true from rfl)]
 exact h5
theorem MZ {j:Int} {fs fs1:FS} {fa:FS->Out (List Rv)} (e:fa fs=.ok [.t (.int j)] fs1) (h:-(2 ^ 62)<=j/\j < 2 ^ 62):Iz fa fs=.ok (FL.upTo 0 j.toNat) fs1:=by
 unfold Iz
 rw [e]
 simp only [Out.bind]
 exact if_pos h
theorem To {n:Nat} {fa:FS->Out (List Rv)} {gt:T->FS->Option FS} {body:FS->SO} {fs fs1:FS} {r:SO} (e:fa fs=.ok [.t (.int (n:Int))] fs1) (h:n < 2 ^ 62) (ef:FY gt body (FL.upTo 0 n) fs1=r):Ex (Iz fa) gt body fs=r:=by
 have q:=MZ e ⟨by omega,by omega⟩
 rw [Int.toNat_natCast] at q
 unfold Ex
 rw [q]
 exact ef
def Bo (many:Nat):Nat:=if many=4 then 3 else 4
theorem NT {sc:T} {many a u:Nat} {names makers:List Str} {K:List (Str×List (Str×List Str))} {ds:List Int} {x8 x9:Option Sl} (hn:names.length=many) (ha:a < many) (hu:u+Bo many<=makers.length) (hd:13<=ds.length) (h8:Fre x8) (h9:Fre x9) (hK:K.length < 100) :
  ∃ (rows:List (Str×List Str)) (es:List Int) (y8 y9:Option Sl),1<=rows.length/\rows.length<=Bo many/\Rows names makers a u rows/\ds.length<=es.length+13/\Fre y8/\Fre y9 /\
   (AN (AY 8 (AG Eb Ak))
  (AN (Ex (Iz (Ac (Ag AL (gc (.int 1)) (Ag CF (fz (AV Ho (Aa 1) Ak)) (Ag Bn (AG Bq (Ac (gc (.int 4)) (Ac (gc (.int 3)) Ak))) (Ar IF (Ac (Ag (gEq false) (Aa 2) (gc (.int 4))) Ak))))) Ak)) (tgN 9) (AN (AZ (AV D1 (Aa 8) (Ac (AG CH (Ac (Ag Bn (Aa 4) (fz (Aa 6))) (Ac (fz (Ar (Ay 4 BJ) (Ah (fz (Aa 3)) (Ah (fz (Aa 7)) (Ah (Ag (gEq false) (Aa 9) (gc (.int 0))) (Ah (Aa 1) Ak)))))) Ak))) Ak)))
  (AY 6 (Ag AL (Aa 6) (gc (.int 1))))))
  (AZ (AV D1 (Aa 5) (Ac (AG CH (Ac (Ag Bn (Aa 3) (fz (Aa 7))) (Ac (fz (Aa 8)) Ak))) Ak)))))
   [vl sc,some (.own (.lst (ds.map T.int))),iv (many:Int),vl (.lst (names.map T.str)),vl (.lst (makers.map T.str)),some (.own (.lst (K.map An))),iv (u:Int),iv (a:Int),x8,x9] =
   .nx [vl sc,some (.own (.lst (es.map T.int))),iv (many:Int),vl (.lst (names.map T.str)),vl (.lst (makers.map T.str)),some (.own (.lst ((K++[(names.getD a ⟨#[]⟩,rows)]).map An))),iv ((u+rows.length:Nat):Int),iv (a:Int),y8,y9]:=by
 obtain ⟨d1,z,rfl,hd1⟩:=NS (xs:=ds) (by omega)
 have hmr:Bo many=3∨Bo many=4:=by unfold Bo;split <;> simp
 have em:atI [T.int 4,T.int 3] (if many=4 then 1 else 0:Int)=some (T.int (Bo many:Int)):=by
  unfold Bo
  by_cases h:many=4
  ·rw [if_pos h,if_pos h];exact A9 (j:=1) rfl
  ·rw [if_neg h,if_neg h];exact A9 (j:=0) rfl
 have hz0:0<=z % (Bo many:Int):=Int.emod_nonneg _ (by omega)
 have hz1:z % (Bo many:Int) < Bo many:=Int.emod_lt_of_pos _ (by omega)
 obtain ⟨n,hn1⟩:∃ n:Nat,(n:Int)=1+z % (Bo many:Int):=⟨(1+z % (Bo many:Int)).toNat,by omega⟩
 have s8:AY 8 (AG Eb Ak) [vl sc,some (.own (.lst ((d1++[z]).map T.int))),iv (many:Int),vl (.lst (names.map T.str)),vl (.lst (makers.map T.str)),some (.own (.lst (K.map An))),iv (u:Int),iv (a:Int),x8,x9] =
   .nx [vl sc,some (.own (.lst (d1.map T.int++[T.int z]))),iv (many:Int),vl (.lst (names.map T.str)),vl (.lst (makers.map T.str)),some (.own (.lst (K.map An))),iv (u:Int),iv (a:Int),some (.own (.lst [])),x9]:=by
  rw [List.map_append]
  cases x8 with
  | none=>rfl
  | some s=>cases s with
   | val t=>rfl
   | own o=>rfl
   | bor o=>exact h8.elim
 obtain ⟨rows,es,y9,r1,R,r2,f9,er⟩:=MX (sc:=sc) (many:=(many:Int)) (names:=names) (makers:=makers) (got:=K.map An) (u:=u) (a:=a) (n:=n) (ds:=d1) (x9:=x9) (by omega) (by omega) (by omega) (by omega) (by omega) h9
 have eq4:Ag (gEq false) (Aa 2) (gc (.int 4)) [vl sc,some (.own (.lst (d1.map T.int))),iv (many:Int),vl (.lst (names.map T.str)),vl (.lst (makers.map T.str)),some (.own (.lst (K.map An))),iv (u:Int),iv (a:Int),some (.own (.lst [])),x9]=.ok (.t (.bl (decide (many=4)))) [vl sc,some (.own (.lst (d1.map T.int))),iv (many:Int),vl (.lst (names.map T.str)),vl (.lst (makers.map T.str)),some (.own (.lst (K.map An))),iv (u:Int),iv (a:Int),some (.own (.lst [])),x9]:=by
  refine Al (Ab rfl) Ba ?_
  have q:decide (V.int (many:Int)=V.int 4)=decide (many=4):=by
   by_cases h:many=4
   ·rw [h];rfl
   ·rw [decide_eq_false h,decide_eq_false (by intro z;cases z;exact h rfl)]
  show (if L8 (V.int (many:Int)) (V.int 4)=true then okT (.bl (if false=true then _ else decide (V.int (many:Int)=V.int 4))) _ else .bad)=_
  rw [if_pos (show L8 (V.int (many:Int)) (V.int 4)=true from rfl),q]
  rfl
 have ei:Ar IF (Ac (Ag (gEq false) (Aa 2) (gc (.int 4))) Ak) [vl sc,some (.own (.lst (d1.map T.int))),iv (many:Int),vl (.lst (names.map T.str)),vl (.lst (makers.map T.str)),some (.own (.lst (K.map An))),iv (u:Int),iv (a:Int),some (.own (.lst [])),x9]=.ok (.t (.int (if many=4 then 1 else 0))) [vl sc,some (.own (.lst (d1.map T.int))),iv (many:Int),vl (.lst (names.map T.str)),vl (.lst (makers.map T.str)),some (.own (.lst (K.map An))),iv (u:Int),iv (a:Int),some (.own (.lst [])),x9]:=by
  refine DU (AW eq4 rfl) ?_
  show okT (.int (if decide (many=4)=true then 1 else 0)) _=_
  by_cases h:many=4
  ·rw [if_pos h,decide_eq_true h];rfl
  ·rw [if_neg h,decide_eq_false h];rfl
 have ec:Ac (Ag AL (gc (.int 1)) (Ag CF (fz (AV Ho (Aa 1) Ak)) (Ag Bn (AG Bq (Ac (gc (.int 4)) (Ac (gc (.int 3)) Ak))) (Ar IF (Ac (Ag (gEq false) (Aa 2) (gc (.int 4))) Ak))))) Ak [vl sc,some (.own (.lst (d1.map T.int++[T.int z]))),iv (many:Int),vl (.lst (names.map T.str)),vl (.lst (makers.map T.str)),some (.own (.lst (K.map An))),iv (u:Int),iv (a:Int),some (.own (.lst [])),x9]=.ok [.t (.int (n:Int))] [vl sc,some (.own (.lst (d1.map T.int))),iv (many:Int),vl (.lst (names.map T.str)),vl (.lst (makers.map T.str)),some (.own (.lst (K.map An))),iv (u:Int),iv (a:Int),some (.own (.lst [])),x9]:=by
  rw [hn1]
  exact C5 (Fw Ba (Fw (Nb (ts:=d1.map T.int) rfl rfl) (Al (Ds rfl rfl (by decide)) ei (BH rfl em)) (Dg (by omega))) CT) rfl
 have en:atI (names.map T.str) (a:Int)=some (T.str (names.getD a ⟨#[]⟩)):=A9 (by
  have ha':a < names.length:=by omega
  rw [List.getElem?_map,List.getElem?_eq_getElem ha']
  simp [List.getD,ha'])
 refine ⟨rows,es,vl (.lst (rows.map BG)),y9,by omega,by omega,R,by simp at hd1 ⊢;omega,Be,f9,?_⟩
 rw [AJ s8,AJ (To ec (by omega) er)]
 have e1:K.map An++[T.tup [T.str (names.getD a ⟨#[]⟩),T.lst (rows.map BG)]]=(K++[(names.getD a ⟨#[]⟩,rows)]).map An:=by rw [List.map_append];rfl
 rw [<- e1,r1]
 exact RZ (i:=5) rfl (KA (g:=CH) (ts:=[T.str (names.getD a ⟨#[]⟩),T.lst (rows.map BG)]) (C5 (Al (Ab rfl) (AI (Ab rfl)) (BH rfl en)) (C5 (show fz (Aa 8) _=.ok (.t (.lst (rows.map BG))) _ from rfl) (show Ak _=.ok [] _ from rfl))) rfl (show 2<=big by decide) rfl) rfl (by rw [List.length_map];show _ < 1000000;omega) rfl
abbrev Kd:=List (Str×List (Str×List Str))
def used (K:Kd):Nat:=(K.map (·.2.length)).sum
structure KOk (names makers:List Str) (K:Kd):Prop where
 at_:∀ a kd,K[a]?=some kd->kd.1=names.getD a ⟨#[]⟩/\1<=kd.2.length/\kd.2.length<=4/\Rows names makers a (used (K.take a)) kd.2
theorem KOk.nil {names makers:List Str}:KOk names makers []:=⟨fun a kd e=>by simp at e⟩
theorem KOk.snoc {names makers:List Str} {K:Kd} (h:KOk names makers K) {rows:List (Str×List Str)} (h1:1<=rows.length) (h2:rows.length<=4) (R:Rows names makers K.length (used K) rows):KOk names makers (K++[(names.getD K.length ⟨#[]⟩,rows)]):=by
 refine ⟨fun a kd e=>?_⟩
 rcases Nat.lt_trichotomy a K.length with q | q | q
 ·rw [List.getElem?_append_left q] at e
  have:=h.at_ a kd e
  rwa [List.take_append_of_le_length (by omega)]
 ·subst q
  have e':kd=(names.getD K.length ⟨#[]⟩,rows):=by simpa using e.symm
  subst e'
  refine ⟨rfl,h1,h2,?_⟩
  rw [List.take_left']
  ·exact R
  ·rfl
 ·rw [List.getElem?_eq_none (by simp;omega)] at e
  cases e
theorem IW {K:Kd} {k:Str} {rows:List (Str×List Str)}:used (K++[(k,rows)])=used K+rows.length:=by
 unfold used
 simp
theorem Ia {i:Nat} {f:FS->Out Rv} {fs fs1 fs':FS} {o:FO} (h:f fs=.ok (.nw o) fs1) (hs:HZ i (.nw o) fs1=some fs'):AY i f fs=.nx fs':=by
 unfold AY
 rw [h]
 show (match HZ i (.nw o) fs1 with | some fs=>SO.nx fs | none=>.bad)=_
 rw [hs]
theorem Kt {f:FS->Out Rv} {fs fs1:FS} {o:FO} (h:f fs=.ok (.nw o) fs1):fz f fs=.ok (.t (toT o)) fs1:=by
 unfold fz
 rw [h]
 rfl
theorem Mn {sc:T} {many:Nat} {names makers:List Str} {ds:List Int} (hn:names.length=many) (hm:many<=4) (hm12:makers.length=12) (hd:60<=ds.length) :
  ∃ (K:Kd) (x1 x6 x7 x8 x9:Option Sl),K.length=many/\KOk names makers K/\used K<=12/\FY (tgN 7) (AN (AY 8 (AG Eb Ak))
  (AN (Ex (Iz (Ac (Ag AL (gc (.int 1)) (Ag CF (fz (AV Ho (Aa 1) Ak)) (Ag Bn (AG Bq (Ac (gc (.int 4)) (Ac (gc (.int 3)) Ak))) (Ar IF (Ac (Ag (gEq false) (Aa 2) (gc (.int 4))) Ak))))) Ak)) (tgN 9) (AN (AZ (AV D1 (Aa 8) (Ac (AG CH (Ac (Ag Bn (Aa 4) (fz (Aa 6))) (Ac (fz (Ar (Ay 4 BJ) (Ah (fz (Aa 3)) (Ah (fz (Aa 7)) (Ah (Ag (gEq false) (Aa 9) (gc (.int 0))) (Ah (Aa 1) Ak)))))) Ak))) Ak)))
  (AY 6 (Ag AL (Aa 6) (gc (.int 1))))))
  (AZ (AV D1 (Aa 5) (Ac (AG CH (Ac (Ag Bn (Aa 3) (fz (Aa 7))) (Ac (fz (Aa 8)) Ak))) Ak))))) (FL.upTo 0 many) [vl sc,some (.own (.lst (ds.map T.int))),iv (many:Int),vl (.lst (names.map T.str)),vl (.lst (makers.map T.str)),some (.own (.lst [])),iv 0,none,none,none] =
   .nx [vl sc,x1,iv (many:Int),vl (.lst (names.map T.str)),vl (.lst (makers.map T.str)),some (.own (.lst (K.map An))),x6,x7,x8,x9]:=by
 have hmr:(Bo many=3/\many=4)∨(Bo many=4/\many<=3):=by unfold Bo;split <;> omega
 obtain ⟨fs',ef,K,es,x7,x8,x9,rfl,hle,KO,hu,he,f7,f8,f9,hts⟩:=CU (gt:=tgN 7) (body:=(AN (AY 8 (AG Eb Ak))
  (AN (Ex (Iz (Ac (Ag AL (gc (.int 1)) (Ag CF (fz (AV Ho (Aa 1) Ak)) (Ag Bn (AG Bq (Ac (gc (.int 4)) (Ac (gc (.int 3)) Ak))) (Ar IF (Ac (Ag (gEq false) (Aa 2) (gc (.int 4))) Ak))))) Ak)) (tgN 9) (AN (AZ (AV D1 (Aa 8) (Ac (AG CH (Ac (Ag Bn (Aa 4) (fz (Aa 6))) (Ac (fz (Ar (Ay 4 BJ) (Ah (fz (Aa 3)) (Ah (fz (Aa 7)) (Ah (Ag (gEq false) (Aa 9) (gc (.int 0))) (Ah (Aa 1) Ak)))))) Ak))) Ak)))
  (AY 6 (Ag AL (Aa 6) (gc (.int 1))))))
  (AZ (AV D1 (Aa 5) (Ac (AG CH (Ac (Ag Bn (Aa 3) (fz (Aa 7))) (Ac (fz (Aa 8)) Ak))) Ak))))))
  (fun ts fs=>∃ (K:Kd) (es:List Int) (x7 x8 x9:Option Sl),fs=[vl sc,some (.own (.lst (es.map T.int))),iv (many:Int),vl (.lst (names.map T.str)),vl (.lst (makers.map T.str)),some (.own (.lst (K.map An))),iv ((used K:Nat):Int),x7,x8,x9]/\K.length<=many/\KOk names makers K/\used K<=K.length * Bo many/\ds.length<=es.length+13 * K.length/\Fre x7/\Fre x8/\Fre x9/\ts=(FL.upTo 0 many).drop K.length)
  (fun t' ts fs h=>by
   obtain ⟨K,es,x7,x8,x9,rfl,hle,KO,hu,he,f7,f8,f9,hts⟩:=h
   have hlt:K.length < many:=by
    have:=congrArg List.length hts
    simp [FL.upTo] at this
    omega
   have hc:=List.drop_eq_getElem_cons (l:=FL.upTo 0 many) (i:=K.length) (by simp [FL.upTo];exact hlt)
   rw [hc] at hts
   obtain ⟨e1,e2⟩:=List.cons.inj hts
   have e3:t'=T.int (K.length:Int):=by
    rw [e1]
    simp [FL.upTo]
   subst e3
   have hu2:used K+Bo many<=12:=by
    rcases hmr with ⟨q1,q2⟩ | ⟨q1,q2⟩
    ·rw [q1] at hu ⊢;omega
    ·rw [q1] at hu ⊢;omega
   obtain ⟨rows,es',y8,y9,r1,r2,R,r3,g8,g9,e⟩:=NT (sc:=sc) (many:=many) (a:=K.length) (u:=used K) (names:=names) (makers:=makers) (K:=K) (ds:=es) (x8:=x8) (x9:=x9) hn hlt (by omega) (by omega) f8 f9 (by omega)
   refine ⟨_,_,(by unfold tgN;exact Bd rfl f7),e,K++[(names.getD K.length ⟨#[]⟩,rows)],es',iv (K.length:Int),y8,y9,?_,by simp;omega,KO.snoc r1 (by omega) R,?_,by simp;omega,Be,g8,g9,?_⟩
   ·rw [IW]
   ·rw [IW,List.length_append,List.length_singleton,Nat.add_mul]
    omega
   ·rw [e2,List.length_append,List.length_singleton])
  (FL.upTo 0 many) [vl sc,some (.own (.lst (ds.map T.int))),iv (many:Int),vl (.lst (names.map T.str)),vl (.lst (makers.map T.str)),some (.own (.lst [])),iv 0,none,none,none] ⟨[],ds,none,none,none,rfl,Nat.zero_le _,KOk.nil,by simp [used],by simp,Aw,Aw,Aw,rfl⟩
 have hi2:K.length=many:=by
  have:=congrArg List.length hts
  simp [FL.upTo] at this
  omega
 refine ⟨K,_,_,_,_,_,hi2,KO,?_,ef⟩
 rcases hmr with ⟨q1,q2⟩ | ⟨q1,q2⟩
 ·rw [q1,hi2] at hu;omega
 ·rw [q1,hi2] at hu;omega
theorem Fi (c:Int) (n:Nat):(nms c n).length=n:=by unfold nms;simp
theorem kinds {ns:List Int} (h0:Builtin.Int.intBits (ns.getD 0 0)<=2 ^ 20) (h1:Builtin.Int.intBits (ns.getD 1 0)<=2 ^ 20) :
  ∃ (K:Kd),1<=K.length/\K.length<=4/\KOk (nms (ns.getD 0 0) K.length) (nms (ns.getD 1 0) 12) K/\used K<=12/\DS [vl (.scr (ns.map T.int))]=.ok (.nw (.lst (K.map An))) [vl (.scr (ns.map T.int))]:=by
 obtain ⟨ds,hd,ed⟩:=digits (t:=.scr (ns.map T.int)) (ns:=ns) (.inl rfl) (a:=0) (b:=3) (by decide) (by decide) (by decide) (by decide)
 have ec0:=OS ns 0
 have ec1:=OS ns 1
 generalize hS:T.scr (ns.map T.int)=sc at ed ec0 ec1 ⊢
 obtain ⟨d1,z,rfl,hd1⟩:=NS (xs:=ds) (by omega)
 have s1:AY 1 (Ar (Ay 3 CK) (Ah (fz (Aa 0)) (Ah (gc (.int 0)) (Ah (gc (.int 3)) Ak)))) [vl sc,none,none,none,none,none,none,none,none,none]=.nx [vl sc,some (.own (.lst (d1.map T.int++[T.int z]))),none,none,none,none,none,none,none,none]:=by
  have e:=E8 (p:=3) (Fn:=CK) (fs:=[vl sc,none,none,none,none,none,none,none,none,none]) (Av (AI (Ab (i:=0) rfl)) (Av (Ba (t:=.int 0)) (Av (Ba (t:=.int 3)) (show Ak _=.ok [] _ from rfl)))) rfl (by rw [show CN _ _=[] from rfl];exact List.nodup_nil) ed (AM rfl)
  rw [List.map_append] at e
  exact Ia e rfl
 have hq:∃ q:Nat,1<=q/\q<=4/\atI [T.int 1,T.int 2,T.int 3,T.int 2,T.int 1,T.int 4,T.int 2,T.int 3] (z % 8)=some (T.int (q:Int)):=by
  have h:z % 8=((0:Nat):Int)∨z % 8=((1:Nat):Int)∨z % 8=((2:Nat):Int)∨z % 8=((3:Nat):Int)∨z % 8=((4:Nat):Int)∨z % 8=((5:Nat):Int)∨z % 8=((6:Nat):Int)∨z % 8=((7:Nat):Int):=by omega
  rcases h with h | h | h | h | h | h | h | h <;> rw [h]
  ·exact ⟨1,by omega,by omega,A9 rfl⟩
  ·exact ⟨2,by omega,by omega,A9 rfl⟩
  ·exact ⟨3,by omega,by omega,A9 rfl⟩
  ·exact ⟨2,by omega,by omega,A9 rfl⟩
  ·exact ⟨1,by omega,by omega,A9 rfl⟩
  ·exact ⟨4,by omega,by omega,A9 rfl⟩
  ·exact ⟨2,by omega,by omega,A9 rfl⟩
  ·exact ⟨3,by omega,by omega,A9 rfl⟩
 obtain ⟨q,q1,q4,eq⟩:=hq
 have s2:AY 2 (Ag Bn (AG Bq (Ac (gc (.int 1)) (Ac (gc (.int 2)) (Ac (gc (.int 3)) (Ac (gc (.int 2)) (Ac (gc (.int 1)) (Ac (gc (.int 4)) (Ac (gc (.int 2)) (Ac (gc (.int 3)) Ak))))))))) (Ag CF (fz (AV Ho (Aa 1) Ak)) (gc (.int 8)))) [vl sc,some (.own (.lst (d1.map T.int++[T.int z]))),none,none,none,none,none,none,none,none]=.nx [vl sc,some (.own (.lst (d1.map T.int))),iv (q:Int),none,none,none,none,none,none,none] :=
  D5 (Fw (Ds rfl rfl (by decide)) (Fw (Nb (ts:=d1.map T.int) rfl rfl) Ba (Dg (by decide))) (BH rfl eq)) rfl
 have en0:=names (c:=ns.getD 0 0) (n:=q) (by omega) h0
 have en1:=names (c:=ns.getD 1 0) (n:=12) (by omega) h1
 generalize ns.getD 0 0=c0 at ec0 en0 ⊢
 generalize ns.getD 1 0=c1 at ec1 en1 ⊢
 have s3:AY 3 (fz (Ar (Ay 2 Cq) (Ah (fz (Ar (Ay 2 Bv) (Ah (fz (Aa 0)) (Ah (gc (.int 0)) Ak)))) (Ah (fz (Aa 2)) Ak)))) [vl sc,some (.own (.lst (d1.map T.int))),iv (q:Int),none,none,none,none,none,none,none]=.nx [vl sc,some (.own (.lst (d1.map T.int))),iv (q:Int),vl (.lst ((nms c0 q).map T.str)),none,none,none,none,none,none]:=by
  have e1:=Et (p:=2) (Fn:=Bv) (fs:=[vl sc,some (.own (.lst (d1.map T.int))),iv (q:Int),none,none,none,none,none,none,none]) (Av (AI (Ab (i:=0) rfl)) (Av (Ba (t:=.int 0)) (show Ak _=.ok [] _ from rfl))) rfl (by rw [show CN _ _=[] from rfl];exact List.nodup_nil) ec0 (AM rfl)
  have e2:=E8 (p:=2) (Fn:=Cq) (Av (E2 e1) (Av (AI (Ab (i:=2) rfl)) (show Ak _=.ok [] _ from rfl))) rfl (by rw [show CN _ _=[] from rfl];exact List.nodup_nil) en0 (AM rfl)
  exact D5 (Kt e2) rfl
 have s4:AY 4 (fz (Ar (Ay 2 Cq) (Ah (fz (Ar (Ay 2 Bv) (Ah (fz (Aa 0)) (Ah (gc (.int 1)) Ak)))) (Ah (gc (.int 12)) Ak)))) [vl sc,some (.own (.lst (d1.map T.int))),iv (q:Int),vl (.lst ((nms c0 q).map T.str)),none,none,none,none,none,none]=.nx [vl sc,some (.own (.lst (d1.map T.int))),iv (q:Int),vl (.lst ((nms c0 q).map T.str)),vl (.lst ((nms c1 12).map T.str)),none,none,none,none,none]:=by
  have e1:=Et (p:=2) (Fn:=Bv) (fs:=[vl sc,some (.own (.lst (d1.map T.int))),iv (q:Int),vl (.lst ((nms c0 q).map T.str)),none,none,none,none,none,none]) (Av (AI (Ab (i:=0) rfl)) (Av (Ba (t:=.int 1)) (show Ak _=.ok [] _ from rfl))) rfl (by rw [show CN _ _=[] from rfl];exact List.nodup_nil) ec1 (AM rfl)
  have e2:=E8 (p:=2) (Fn:=Cq) (Av (E2 e1) (Av (Ba (t:=.int 12)) (show Ak _=.ok [] _ from rfl))) rfl (by rw [show CN _ _=[] from rfl];exact List.nodup_nil) en1 (AM rfl)
  exact D5 (Kt e2) rfl
 obtain ⟨K,x1,x6,x7,x8,x9,hK,KO,hu,ef⟩:=Mn (sc:=sc) (many:=q) (names:=nms c0 q) (makers:=nms c1 12) (ds:=d1) (Fi _ _) q4 (Fi _ _) (by omega)
 have s5:AY 5 (AG Eb Ak) [vl sc,some (.own (.lst (d1.map T.int))),iv (q:Int),vl (.lst ((nms c0 q).map T.str)),vl (.lst ((nms c1 12).map T.str)),none,none,none,none,none]=.nx [vl sc,some (.own (.lst (d1.map T.int))),iv (q:Int),vl (.lst ((nms c0 q).map T.str)),vl (.lst ((nms c1 12).map T.str)),some (.own (.lst [])),none,none,none,none]:=rfl
 have s6:AY 6 (gc (.int 0)) [vl sc,some (.own (.lst (d1.map T.int))),iv (q:Int),vl (.lst ((nms c0 q).map T.str)),vl (.lst ((nms c1 12).map T.str)),some (.own (.lst [])),none,none,none,none]=.nx [vl sc,some (.own (.lst (d1.map T.int))),iv (q:Int),vl (.lst ((nms c0 q).map T.str)),vl (.lst ((nms c1 12).map T.str)),some (.own (.lst [])),iv 0,none,none,none]:=rfl
 have all:Fb [vl sc,none,none,none,none,none,none,none,none,none]=.ret (.rf 5) [vl sc,x1,iv (q:Int),vl (.lst ((nms c0 q).map T.str)),vl (.lst ((nms c1 12).map T.str)),some (.own (.lst (K.map An))),x6,x7,x8,x9]:=by
  unfold Fb
  rw [AJ s1,AJ s2,AJ s3,AJ s4,AJ s5,AJ s6,AJ (Oo (n:=q) (fa:=Ac (Aa 2) Ak) (AW (Ab rfl) rfl) (by omega) ef)]
  rfl
 refine ⟨K,by omega,by omega,by rw [hK];exact KO,hu,?_⟩
 unfold DS Dk
 show (match Fb [vl sc,none,none,none,none,none,none,none,none,none] with | .nx τ=>_ | .ret (.t t) τ=>_ | .ret (.nw o) τ=>_ | .ret (.rf i) τ=>_ | .exc c τ=>_ | _=>_)=_
 rw [all]
 rfl
theorem Ri {fv fi:FS->Out Rv} {o:Nat} {fs fs':FS} {v:T} {k:Str} {ks:List Key} {ts:List T} (h0:fs[o]?=some (some (.own (.dK ks ts)))) (hv:fv fs=.ok (.t v) fs) (hi:fi fs=.ok (.t (.str k)) fs) (hn:(ks.any fun k'=>decide (k'=(.inr k:Key)))=false) (hl:ks.length < big)
  (e:fs.set o (some (.own (.dK (ks++[.inr k]) (ts++[v]))))=fs'):ES fv (Aa o) fi fs=.nx fs':=by
 have h1:Aa o fs=.ok (.rf o) fs:=by unfold Aa;rw [h0]
 have h2:FL.A1 fs o=some (.dK ks ts):=by unfold FL.A1;rw [h0]
 have h3:Ii ks ts (.inr k:Key) v=(ks++[.inr k],ts++[v]):=by
  unfold Ii
  rw [hn]
  rfl
 have h4:FL.putAt fs o (.dK (ks++[.inr k]) (ts++[v]))=fs':=by
  unfold FL.putAt
  rw [h0]
  exact e
 have h5:QA (.rf o) (.t (.str k)) (.t v) fs=.bad:=rfl
 have h6:Od (.rf o) (.t (.str k)) (.t v) fs=.nx fs':=by
  simp only [Od,h2,L5,hl,if_true,h3,h4]
 unfold ES
 rw [hv]
 simp only [Out.bnd,Out.bind]
 rw [h1]
 simp only
 rw [hi]
 simp only [SO.of]
 unfold Td
 rw [h5]
 exact h6
theorem EA {i j:Nat} {fs fs1 fs2:FS} {x y:T} (h1:tgN i x fs=some fs1) (h2:tgN j y fs1=some fs2):A7 2 (Ai (tgN i) (Ai (tgN j) A5)) (.tup [x,y]) fs=some fs2:=by
 have e:A7 2 (Ai (tgN i) (Ai (tgN j) A5)) (.tup [x,y]) fs=Ai (tgN i) (Ai (tgN j) A5) [x,y] fs:=rfl
 rw [e]
 simp only [Ai,h1,h2,Option.bind_some,A5]
def BM (K:Kd):List Key:=K.map fun kd=>(.inr kd.1:Key)
theorem any_false {ks:List Key} {k:Key} (h:k∉ks):(ks.any fun k'=>decide (k'=k))=false:=by
 rw [List.any_eq_false]
 intro x hx
 rw [decide_eq_true_eq]
 intro e
 exact h (e▸hx)
theorem sq {g h:FS->SO} {fs fs':FS} {r:SO} (e:g fs=.nx fs') (e2:h fs'=r):AN g h fs=r:=(AJ e).trans e2
theorem Cw {f:FS->Out Rv} {fs fs1:FS} {b:Bool} (h:f fs=.ok (.t (.bl b)) fs1):asB f fs=.ok b fs1:=by
 unfold asB;rw [h];rfl
theorem Dx {f:FS->Out Bool} {fs fs1:FS} {b:Bool} (h:f fs=.ok b fs1):Eu f fs=.ok (!b) fs1:=by
 unfold Eu;rw [h];rfl
theorem DM {f:FS->Out Rv} {fs fs1:FS} {b:Bool} (h:f fs=.ok (.t (.bl b)) fs1):EH f fs=.ok b fs1:=by
 unfold EH;rw [h];rfl
theorem RD {c:FS->Out Bool} {g h:FS->SO} {fs fs1:FS} {r:SO} (hc:c fs=.ok false fs1) (e:h fs1=r):ifS c g h fs=r:=by
 unfold ifS
 rw [hc]
 exact e
theorem Er {i:Nat} {fs:FS} {o:FO} (h:fs[i]?=some (some (.own o))):Aa i fs=.ok (.rf i) fs:=by unfold Aa;rw [h]
theorem Ln {i:Nat} {fs:FS} {o:FO} (h:fs[i]?=some (some (.bor o))):Aa i fs=.ok (.rf i) fs:=by unfold Aa;rw [h]
theorem VT {i:Nat} {fs:FS} {o:FO} (h:fs[i]?=some (some (.own o))):FL.A1 fs i=some o:=by unfold FL.A1;rw [h]
theorem VU {i:Nat} {fs:FS} {o:FO} (h:fs[i]?=some (some (.bor o))):FL.A1 fs i=some o:=by unfold FL.A1;rw [h]
theorem IK {g:Rv->Rv->FS->Out Rv} {fa fb:FS->Out Rv} {fs:FS} {x:T} {i:Nat} {r:Out Rv} (h1:fa fs=.ok (.t x) fs) (h2:fb fs=.ok (.rf i) fs) (h3:g (.t x) (.rf i) fs=r):Ag g fa fb fs=r:=by
 unfold Ag
 rw [h1]
 show (fb fs).bnd _=r
 rw [h2]
 exact h3
theorem GU {f:FS->Out Rv} {fs fs1:FS} {r:Rv} (h:f fs=.ok r fs1):AZ f fs=.nx fs1:=by
 unfold AZ;rw [h];rfl
theorem DB {κ:Type} [DecidableEq κ]:∀ {ks:List κ} {ts:List T} {k:κ},k∉ks->EO ks ts k=none
 | [],_,_,_=>by unfold EO;rfl
 | k' :: ks,[],k,_=>by unfold EO;rfl
 | k' :: ks,t :: ts,k,h=>by
  have h1:k'≠k:=fun e=>h (e▸List.mem_cons_self)
  have h2:k∉ks:=fun m=>h (List.mem_cons_of_mem _ m)
  simp only [EO,if_neg h1,DB h2]
theorem ER {κ α:Type} [DecidableEq κ] {f:α->κ} {g:α->T}:∀ {xs:List α} {x:α},x∈xs->(xs.map f).Nodup->EO (xs.map f) (xs.map g) (f x)=some (g x)
 | y :: ys,x,m,nd=>by
  rw [List.map_cons,List.map_cons]
  unfold EO
  rw [List.map_cons,List.nodup_cons] at nd
  by_cases e:f y=f x
  ·rw [if_pos e]
   rcases List.mem_cons.mp m with rfl | m
   ·rfl
   ·exact (nd.1 (List.mem_map.mpr ⟨x,m,e.symm⟩)).elim
  ·rw [if_neg e]
   rcases List.mem_cons.mp m with rfl | m
   ·exact (e rfl).elim
   ·exact ER m nd.2
theorem Vh {neg:Bool} {k:Str} {i:Nat} {ks:List Key} {ts:List T} {fs:FS} (h:FL.A1 fs i=some (.dK ks ts)):EK neg (.t (.str k)) (.rf i) fs=.ok (.t (.bl (if neg then !(EO ks ts (.inr k:Key)).isSome else (EO ks ts (.inr k:Key)).isSome))) fs:=by
 unfold EK orG
 have e:Ti neg (.t (.str k)) (.rf i) fs=.ok (.t (.bl (if neg then !(EO ks ts (.inr k:Key)).isSome else (EO ks ts (.inr k:Key)).isSome))) fs:=by
  simp only [Ti,TF,h,L5,Option.map_some]
  rfl
 rw [e]
theorem Ua {neg:Bool} {k:Str} {ks:List Key} {ts:List T} {fs:FS}:EK neg (.t (.str k)) (.t (.dK ks ts)) fs=.ok (.t (.bl (if neg then !(EO ks ts (.inr k:Key)).isSome else (EO ks ts (.inr k:Key)).isSome))) fs:=rfl
theorem Il:∀ xs:List Str,Sq (xs.map T.str)=some (xs.map V.str)
 | []=>rfl
 | x :: xs=>by
  simp only [List.map_cons,Sq,plV,Option.bind_some,Il xs,Option.map_some]
theorem Kr (k:Str):∀ xs:List Str,inV (.str k) (xs.map V.str)=decide (k∈xs)
 | []=>by simp [inV]
 | x :: xs=>by
  have:=Kr k xs
  unfold inV at this ⊢
  rw [List.map_cons,List.any_cons,this]
  have e:eqV (.str x) (.str k)=decide (k=x):=by
   by_cases h:k=x
   ·subst h;simp [eqV]
   ·have h':x≠k:=fun e=>h e.symm
    simp [eqV,h,h']
  rw [e,Bool.eq_iff_iff]
  simp
theorem RC {neg:Bool} {k:Str} {xs:List Str} {fs:FS}:EK neg (.t (.str k)) (.t (.lst (xs.map T.str))) fs=.ok (.t (.bl (if neg then !decide (k∈xs) else decide (k∈xs)))) fs:=by
 have e:gIn neg (.t (.str k)) (.t (.lst (xs.map T.str))) fs=.ok (.t (.bl (if neg then !decide (k∈xs) else decide (k∈xs)))) fs:=by
  simp only [gIn,plV,C6,Il,okT,Kr]
 exact e
theorem Rz {neg:Bool} {k:Str} {xs:List Str} {i:Nat} {fs:FS} (h:FL.A1 fs i=some (.lst (xs.map T.str))):EK neg (.t (.str k)) (.rf i) fs=.ok (.t (.bl (if neg then !decide (k∈xs) else decide (k∈xs)))) fs:=by
 have e:gIn neg (.t (.str k)) (.rf i) fs=.ok (.t (.bl (if neg then !decide (k∈xs) else decide (k∈xs)))) fs:=by
  simp only [gIn,plV,C6,h,Il,okT,Kr]
 have e1:Ti neg (.t (.str k)) (.rf i) fs=.bad:=by
  simp only [Ti,TF,h]
 unfold EK orG
 rw [e1]
 exact e
theorem LJ {fa fb fc:FS->Out Rv} {fs:FS} {a b c:Int} (ha:fa fs=.ok (.t (.int a)) fs) (hb:fb fs=.ok (.t (.int b)) fs) (hc:fc fs=.ok (.t (.int c)) fs) (h1:a<=b) (h2:b<=c):Eu (asB (chain gLe gLe fa fb fc)) fs=.ok false fs:=by
 have e1:gLe (.t (.int a)) (.t (.int b)) fs=.ok (.t (.bl true)) fs:=by
  show okT (.bl (decide (a<=b))) _=_
  rw [decide_eq_true h1]
  rfl
 have e2:gLe (.t (.int b)) (.t (.int c)) fs=.ok (.t (.bl true)) fs:=by
  show okT (.bl (decide (b<=c))) _=_
  rw [decide_eq_true h2]
  rfl
 simp only [Eu,asB,chain,Out.bnd,Out.bind,ha,hb,hc,e1,e2,Bool.not_true]
theorem Kp {x:T} {ts:List T} {f:FS->Out Rv} {fs fs1:FS} (h:f fs=.ok (.t x) fs1) (hs:x=.lst ts∨x=.tup ts):Ar DQ (Ac f Ak) fs=.ok (.t (.int ts.length)) fs1:=by
 unfold Ar
 rw [C5 h (show Ak fs1=.ok [] fs1 from rfl)]
 rcases hs with rfl | rfl <;> rfl
theorem IJ {p:Nat} {Fn:FS->Out Rv} {fa:FS->Out (List Rv)} {fs fs1 τ:FS} {rs:List Rv} {t:T} (ha:fa fs=.ok rs fs1) (hp:rs.length=p) (hn:CN fs1 (rs.map Bx)=[]) (hf:Fn (De fs1 (rs.map Bx))=.ok (.t t) τ):Ar (Ay p Fn) fa fs=.ok (.t t) fs1 :=
 Et ha hp (by rw [hn];exact List.nodup_nil) hf (AM hn)
theorem Bu {fs:FS}:Ak fs=.ok [] fs:=rfl
theorem Bz {K:Kd} (h1:1<=K.length) (h4:K.length<=4) (hnd:(K.map (·.1)).Nodup) (hnm:∀ kd∈K,Bm [vl (.str kd.1)]=.ok (.t (.bl true)) [vl (.str kd.1)]) (hrw:∀ kd∈K,1<=kd.2.length/\kd.2.length<=4) :
  BS [vl (.lst (K.map An))]=.ok (.t .non) [vl (.lst (K.map An))]:=by
 have all:∃ x1 x2 x3,Cu [vl (.lst (K.map An)),none,none,none]=.nx [vl (.lst (K.map An)),x1,x2,x3]:=by
  unfold Cu
  obtain ⟨fs',ef,D,R,x2,x3,ts,rfl,eD,eR,f2,f3⟩:=CU (gt:=A7 2 (Ai (tgN 2) (Ai (tgN 3) A5))) (body:=(AN (ifS (Eu (EH (fz (Ar (Ay 1 Bm) (Ah (fz (Aa 2)) Ak))))) (fun _=>.bad) nxS)
  (AN (ifS (asB (Ag (EK false) (fz (Aa 2)) (Aa 1))) (fun _=>.bad) nxS)
  (AN (ifS (Eu (asB (chain gLe gLe (gc (.int 1)) (Ar DQ (Ac (Aa 3) Ak)) (gc (.int 4))))) (fun _=>.bad) nxS)
  (ES (gc (.bl true)) (Aa 1) (fz (Aa 2)))))))
   (fun ts fs=>∃ (D R:Kd) (x2 x3:Option Sl) (vs:List T),fs=[vl (.lst (K.map An)),some (.own (.dK (BM D) vs)),x2,x3]/\D++R=K/\ts=R.map An/\Fre x2/\Fre x3)
   (fun t' ts fs h=>by
    obtain ⟨D,R,x2,x3,vs,rfl,eD,eR,f2,f3⟩:=h
    cases R with
    | nil=>cases eR
    | cons kd R =>
     rw [List.map_cons] at eR
     obtain ⟨e1,e2⟩:=List.cons.inj eR
     subst e1
     have hm:kd∈K:=by rw [<- eD];simp
     have hnot:(.inr kd.1:Key)∉BM D:=by
      intro m
      unfold BM at m
      rw [List.mem_map] at m
      obtain ⟨kd',m',e'⟩:=m
      have e'':kd'.1=kd.1:=by simpa using e'
      rw [<- eD,List.map_append,List.nodup_append] at hnd
      exact hnd.2.2 kd'.1 (List.mem_map.mpr ⟨kd',m',rfl⟩) kd.1 (by simp) e''
     have hlen:(BM D).length < big:=by
      unfold BM
      rw [List.length_map]
      have:=congrArg List.length eD
      simp at this
      show D.length < 1000000
      omega
     have hr:=hrw kd hm
     refine ⟨[vl (.lst (K.map An)),some (.own (.dK (BM D) vs)),vl (.str kd.1),vl (.lst (kd.2.map BG))],[vl (.lst (K.map An)),some (.own (.dK (BM D++[.inr kd.1]) (vs++[.bl true]))),vl (.str kd.1),vl (.lst (kd.2.map BG))],EA (by unfold tgN;exact Bd rfl f2) (by unfold tgN;exact Bd rfl f3),?_,D++[kd],R,vl (.str kd.1),vl (.lst (kd.2.map BG)),vs++[.bl true],?_,by rw [<- eD];simp,e2,Be,Be⟩
     ·refine sq (RD (Dx (DM (E2 (IJ (Av (AI (Ab (t:=.str kd.1) rfl)) Bu) rfl rfl (hnm kd hm))))) rfl) ?_
      refine sq (CS (Cw (b:=false) (IK (AI (Ab (t:=.str kd.1) rfl)) (Er rfl) ?_)) rfl) ?_
      ·rw [Vh (VT rfl),DB hnot]
       rfl
      refine sq (CS (LJ Ba (Kp (Ab rfl) (.inl rfl)) Ba (by rw [List.length_map];omega) (by rw [List.length_map];omega)) rfl) ?_
      exact Ri (o:=1) (v:=.bl true) (k:=kd.1) rfl Ba (AI (Ab rfl)) (any_false hnot) hlen rfl
     ·unfold BM
      rw [List.map_append]
      rfl)
   (K.map An) [vl (.lst (K.map An)),some (.own (.dK [] [])),none,none] ⟨[],K,none,none,[],rfl,rfl,rfl,Aw,Aw⟩
  refine ⟨some (.own (.dK (BM D) ts)),x2,x3,?_⟩
  refine sq (CS (LJ Ba (Kp (Ab rfl) (.inl rfl)) Ba (by rw [List.length_map];omega) (by rw [List.length_map];omega)) rfl) ?_
  exact sq (fs':=[vl (.lst (K.map An)),some (.own (.dK [] [])),none,none]) rfl ef
 obtain ⟨x1,x2,x3,all⟩:=all
 unfold BS Dk
 show (match Cu [vl (.lst (K.map An)),none,none,none] with | .nx τ=>_ | .ret (.t t) τ=>_ | .ret (.nw o) τ=>_ | .ret (.rf i) τ=>_ | .exc c τ=>_ | _=>_)=_
 rw [all]
 rfl
theorem WL {fa fb:FS->Out Rv} {fs:FS} {a b:Int} (h1:fa fs=.ok (.t (.int a)) fs) (h2:fb fs=.ok (.t (.int b)) fs):asB (Ag gGt fa fb) fs=.ok (decide (b < a)) fs:=Cw (Al h1 h2 rfl)
theorem XF {fa fb:FS->Out Rv} {fs:FS} {a b:Int} (h1:fa fs=.ok (.t (.int a)) fs) (h2:fb fs=.ok (.t (.int b)) fs) (h:¬ b < a):asB (Ag gGt fa fb) fs=.ok false fs:=by
 rw [WL h1 h2,decide_eq_false h]
theorem WO {x y:Str} {fs:FS}:gEq false (.t (.str x)) (.t (.str y)) fs=.ok (.t (.bl (decide (x=y)))) fs:=by
 have q:decide (V.str x=V.str y)=decide (x=y):=by
  by_cases h:x=y
  ·subst h;simp
  ·rw [decide_eq_false h,decide_eq_false (by intro z;cases z;exact h rfl)]
 show (if L8 (V.str x) (V.str y)=true then okT (.bl (if false=true then _ else decide (V.str x=V.str y))) fs else .bad)=_
 rw [if_pos (show L8 (V.str x) (V.str y)=true from rfl),q]
 rfl
theorem RM {fa fb:FS->Out Rv} {fs:FS} {x y:Str} (h1:fa fs=.ok (.t (.str x)) fs) (h2:fb fs=.ok (.t (.str y)) fs):asB (Ag (gEq false) fa fb) fs=.ok (decide (x=y)) fs:=Cw (Al h1 h2 WO)
theorem By {m:Str} {ps names:List Str} {ks:List Key} {vs:List T} (hn:Bm [vl (.str m)]=.ok (.t (.bl true)) [vl (.str m)]) (hk:(.inr m:Key)∉ks) (h2:ps.length<=2) (hp:∀ p∈ps,p∈names) :
  Bh [vl (.str m),vl (.tup (ps.map T.str)),some (.bor (.dK ks vs)),vl (.lst (names.map T.str))]=.ok (.t .non) [vl (.str m),vl (.tup (ps.map T.str)),some (.bor (.dK ks vs)),vl (.lst (names.map T.str))]:=by
 have all:∃ x4,Ct [vl (.str m),vl (.tup (ps.map T.str)),some (.bor (.dK ks vs)),vl (.lst (names.map T.str)),none]=.nx [vl (.str m),vl (.tup (ps.map T.str)),some (.bor (.dK ks vs)),vl (.lst (names.map T.str)),x4]:=by
  unfold Ct
  obtain ⟨fs',ef,x4,rfl,f4,_⟩:=CU (gt:=tgN 4) (body:=(ifS (asB (Ag (EK true) (fz (Aa 4)) (Aa 3))) (fun _=>.bad) nxS))
   (fun ts fs=>∃ x4,fs=[vl (.str m),vl (.tup (ps.map T.str)),some (.bor (.dK ks vs)),vl (.lst (names.map T.str)),x4]/\Fre x4/\∀ t∈ts,∃ p∈names,t=.str p)
   (fun t' ts fs h=>by
    obtain ⟨x4,rfl,f4,ht⟩:=h
    obtain ⟨p,mp,rfl⟩:=ht t' List.mem_cons_self
    refine ⟨_,_,(by unfold tgN;exact Bd rfl f4),CS (Cw (b:=false) (Al (AI (Ab rfl)) (Ab rfl) ?_)) rfl,_,rfl,Be,fun t m=>ht t (List.mem_cons_of_mem _ m)⟩
    rw [RC,decide_eq_true mp]
    rfl)
   (ps.map T.str) [vl (.str m),vl (.tup (ps.map T.str)),some (.bor (.dK ks vs)),vl (.lst (names.map T.str)),none] ⟨none,rfl,Aw,fun t mt=>by
    rw [List.mem_map] at mt
    obtain ⟨p,mp,rfl⟩:=mt
    exact ⟨p,hp p mp,rfl⟩⟩
  refine ⟨x4,?_⟩
  refine sq (RD (Dx (DM (E2 (IJ (Av (AI (Ab (t:=.str m) rfl)) Bu) rfl rfl hn)))) rfl) ?_
  refine sq (CS (Cw (b:=false) (IK (AI (Ab (t:=.str m) rfl)) (Ln rfl) ?_)) rfl) ?_
  ·rw [Vh (VU rfl),DB hk]
   rfl
  refine sq (CS (XF (Kp (Ab rfl) (.inr rfl)) Ba (by rw [List.length_map];omega)) rfl) ?_
  exact ef
 obtain ⟨x4,all⟩:=all
 unfold Bh Dk
 show (match Ct [vl (.str m),vl (.tup (ps.map T.str)),some (.bor (.dK ks vs)),vl (.lst (names.map T.str)),none] with | .nx τ=>_ | .ret (.t t) τ=>_ | .ret (.nw o) τ=>_ | .ret (.rf i) τ=>_ | .exc c τ=>_ | _=>_)=_
 rw [all]
 rfl
theorem Bs {m:Str} {ps names:List Str} (hp:∀ p∈ps,p∈names) :
  A6 [vl (.str m),vl (.tup (ps.map T.str)),some (.bor (.lst (names.map T.str)))]=.ok (.t .non) [vl (.str m),vl (.tup (ps.map T.str)),some (.bor (.lst (names.map T.str)))]:=by
 have all:∃ x3,Cf [vl (.str m),vl (.tup (ps.map T.str)),some (.bor (.lst (names.map T.str))),none]=.nx [vl (.str m),vl (.tup (ps.map T.str)),some (.bor (.lst (names.map T.str))),x3]:=by
  unfold Cf
  obtain ⟨fs',ef,x4,rfl,f4,_⟩:=CU (gt:=tgN 3) (body:=(ifS (asB (Ag (EK true) (fz (Aa 3)) (Aa 2))) (fun _=>.bad) nxS))
   (fun ts fs=>∃ x4,fs=[vl (.str m),vl (.tup (ps.map T.str)),some (.bor (.lst (names.map T.str))),x4]/\Fre x4/\∀ t∈ts,∃ p∈names,t=.str p)
   (fun t' ts fs h=>by
    obtain ⟨x4,rfl,f4,ht⟩:=h
    obtain ⟨p,mp,rfl⟩:=ht t' List.mem_cons_self
    refine ⟨_,_,(by unfold tgN;exact Bd rfl f4),CS (Cw (b:=false) (IK (AI (Ab rfl)) (Ln rfl) ?_)) rfl,_,rfl,Be,fun t m=>ht t (List.mem_cons_of_mem _ m)⟩
    rw [Rz (VU rfl),decide_eq_true mp]
    rfl)
   (ps.map T.str) [vl (.str m),vl (.tup (ps.map T.str)),some (.bor (.lst (names.map T.str))),none] ⟨none,rfl,Aw,fun t mt=>by
    rw [List.mem_map] at mt
    obtain ⟨p,mp,rfl⟩:=mt
    exact ⟨p,hp p mp,rfl⟩⟩
  exact ⟨x4,ef⟩
 obtain ⟨x4,all⟩:=all
 unfold A6 Dk
 show (match Cf [vl (.str m),vl (.tup (ps.map T.str)),some (.bor (.lst (names.map T.str))),none] with | .nx τ=>_ | .ret (.t t) τ=>_ | .ret (.nw o) τ=>_ | .ret (.rf i) τ=>_ | .exc c τ=>_ | _=>_)=_
 rw [all]
 rfl
theorem Ec {α:Type} {fe:FS->Out Rv} {f g h:α->T} {rest:FS}:∀ (xs:List α) (x y:Option Sl) (acc:List T),Fre x->Fre y->(∀ a∈xs,fe (vl (f a) :: vl (g a) :: rest)=.ok (.t (h a)) (vl (f a) :: vl (g a) :: rest))->acc.length+xs.length<=big ->
  ∃ x' y',Fre x'/\Fre y'/\D2 (A7 2 (Ai (tgN 0) (Ai (tgN 1) A5))) DY fe (xs.map fun a=>.tup [f a,g a]) (x :: y :: rest) acc=some (acc++xs.map h,x' :: y' :: rest)
 | [],x,y,acc,hx,hy,_,_=>⟨x,y,hx,hy,by simp [D2]⟩
 | a :: xs,x,y,acc,hx,hy,he,hl=>by
  obtain ⟨x',y',fx,fy,e⟩:=Ec xs (vl (f a)) (vl (g a)) (acc++[h a]) Be Be (fun t' m=>he t' (List.mem_cons_of_mem _ m)) (by simp at hl ⊢;omega)
  refine ⟨x',y',fx,fy,?_⟩
  have h1:A7 2 (Ai (tgN 0) (Ai (tgN 1) A5)) (.tup [f a,g a]) (x :: y :: rest)=some (vl (f a) :: vl (g a) :: rest) :=
   EA (by unfold tgN;exact Bd rfl hx) (by unfold tgN;exact Bd rfl hy)
  have h2:=he a List.mem_cons_self
  have h3:acc.length < big:=by simp at hl;omega
  rw [List.map_cons]
  simp only [D2,h1,DY,h2,if_pos h3,e]
  simp
def mks (K:Kd):List Str:=K.flatMap fun kd=>kd.2.map (·.1)
def Bf (K:Kd):List Key:=(mks K).map fun m=>(.inr m:Key)
structure Well (K:Kd):Prop where
 lo:1<=K.length
 hi:K.length<=4
 nd:(K.map (·.1)).Nodup
 nm:∀ kd∈K,Bm [vl (.str kd.1)]=.ok (.t (.bl true)) [vl (.str kd.1)]
 rw:∀ kd∈K,1<=kd.2.length/\kd.2.length<=4
 mnd:(mks K).Nodup
 mnm:∀ m∈mks K,Bm [vl (.str m)]=.ok (.t (.bl true)) [vl (.str m)]
 mln:∀ m∈mks K,m.length<=12
 two:∀ kd∈K,∀ r∈kd.2,r.2.length<=2
 prt:∀ kd∈K,∀ r∈kd.2,∀ x∈r.2,x∈K.map (·.1)
 gr:∀ D kd R,K=D++kd :: R->∀ r,kd.2[0]?=some r->∀ x∈r.2,x∈D.map (·.1)
theorem Kn {K:Kd} {kd:Str×List (Str×List Str)} {r:Str×List Str} (h1:kd∈K) (h2:r∈kd.2):r.1∈mks K:=List.mem_flatMap.mpr ⟨kd,h1,List.mem_map.mpr ⟨r,h2,rfl⟩⟩
theorem SU {K:Kd} (h4:K.length<=4) (hr:∀ kd∈K,kd.2.length<=4):(mks K).length<=16:=by
 have:∀ K:Kd,(∀ kd∈K,kd.2.length<=4)->(mks K).length<=4 * K.length:=by
  intro K
  induction K with
  | nil=>intro _;simp [mks]
  | cons kd K ih =>
   intro h
   have:=ih fun kd m=>h kd (List.mem_cons_of_mem _ m)
   have h1:=h kd List.mem_cons_self
   unfold mks at this ⊢
   rw [List.flatMap_cons,List.length_append,List.length_map,List.length_cons]
   omega
 have:=this K hr
 omega
theorem Iv (D R:Kd):mks (D++R)=mks D++mks R:=by unfold mks;rw [List.flatMap_append]
theorem Eo (kd:Str×List (Str×List Str)) (R:Kd):mks (kd :: R)=kd.2.map (·.1)++mks R:=by unfold mks;rw [List.flatMap_cons]
theorem PH {rs:List (Str×List Str)} (h:(rs.map (·.1)).Nodup) {r r':Str×List Str} (m:r∈rs) (m':r'∈rs) (e:r.1=r'.1):r=r':=by
 induction rs with
 | nil=>cases m
 | cons a rs ih =>
  rw [List.map_cons,List.nodup_cons] at h
  rcases List.mem_cons.mp m with q | q
  ·rcases List.mem_cons.mp m' with q' | q'
   ·rw [q,q']
   ·exact (h.1 (List.mem_map.mpr ⟨r',q',by rw [<- e,q]⟩)).elim
  ·rcases List.mem_cons.mp m' with q' | q'
   ·exact (h.1 (List.mem_map.mpr ⟨r,q,by rw [e,q']⟩)).elim
   ·exact ih h.2 q q'
def Dd (r:Str×List Str):Key:=.inr r.1
theorem Ko {sc:T} {names above:List Str} {ks0:List Key} {vs0:List T} {k first:Str} {rows:List (Str×List Str)} {x7 x8:Option Sl} (f7:Fre x7) (f8:Fre x8)
  (hnm:∀ r∈rows,Bm [vl (.str r.1)]=.ok (.t (.bl true)) [vl (.str r.1)]) (hnd:(ks0++rows.map Dd).Nodup) (hlen:ks0.length+rows.length < 1000) (h2:∀ r∈rows,r.2.length<=2) (hp:∀ r∈rows,∀ x∈r.2,x∈names) (hg:∀ r∈rows,r.1=first->∀ x∈r.2,x∈above) :
  ∃ (y7 y8:Option Sl) (vs:List T),Fre y7/\Fre y8/\FY (A7 2 (Ai (tgN 7) (Ai (tgN 8) A5))) (AN (AZ (Ar (Ay 4 Bh) (Ah (fz (Aa 7)) (Ah (fz (Aa 8)) (Ah (Aa 3) (Ah (fz (Aa 1)) Ak))))))
  (AN (ifS (asB (Ag (gEq false) (Aa 7) (Aa 6))) (AZ (Ar (Ay 3 A6) (Ah (fz (Aa 7)) (Ah (fz (Aa 8)) (Ah (Aa 2) Ak))))) nxS)
  (ES (gc (.bl true)) (Aa 3) (fz (Aa 7))))) (rows.map BG) [vl sc,vl (.lst (names.map T.str)),some (.own (.lst (above.map T.str))),some (.own (.dK ks0 vs0)),vl (.str k),vl (.lst (rows.map BG)),vl (.str first),x7,x8] =
   .nx [vl sc,vl (.lst (names.map T.str)),some (.own (.lst (above.map T.str))),some (.own (.dK (ks0++rows.map Dd) vs)),vl (.str k),vl (.lst (rows.map BG)),vl (.str first),y7,y8]:=by
 obtain ⟨fs',ef,D,R,y7,y8,vs,rfl,eD,eR,g7,g8⟩:=CU (gt:=A7 2 (Ai (tgN 7) (Ai (tgN 8) A5))) (body:=AN (AZ (Ar (Ay 4 Bh) (Ah (fz (Aa 7)) (Ah (fz (Aa 8)) (Ah (Aa 3) (Ah (fz (Aa 1)) Ak))))))
  (AN (ifS (asB (Ag (gEq false) (Aa 7) (Aa 6))) (AZ (Ar (Ay 3 A6) (Ah (fz (Aa 7)) (Ah (fz (Aa 8)) (Ah (Aa 2) Ak))))) nxS)
  (ES (gc (.bl true)) (Aa 3) (fz (Aa 7)))))
  (fun ts fs=>∃ (D R:List (Str×List Str)) (y7 y8:Option Sl) (vs:List T),fs=[vl sc,vl (.lst (names.map T.str)),some (.own (.lst (above.map T.str))),some (.own (.dK (ks0++D.map Dd) vs)),vl (.str k),vl (.lst (rows.map BG)),vl (.str first),y7,y8]/\D++R=rows/\ts=R.map BG/\Fre y7/\Fre y8)
  (fun t' ts fs h=>by
   obtain ⟨D,R,y7,y8,vs,rfl,eD,eR,g7,g8⟩:=h
   cases R with
   | nil=>cases eR
   | cons r R =>
    rw [List.map_cons] at eR
    obtain ⟨e1,e2⟩:=List.cons.inj eR
    subst e1
    have hm:r∈rows:=by rw [<- eD];simp
    have hnot:(.inr r.1:Key)∉ks0++D.map Dd:=by
     rw [<- eD,List.map_append,List.map_cons,<- List.append_assoc,List.nodup_append] at hnd
     intro m
     exact hnd.2.2 _ m (Dd r) (by simp) rfl
    have hl:(ks0++D.map Dd).length < big:=by
     have:=congrArg List.length eD
     simp at this
     rw [List.length_append,List.length_map]
     show _ < 1000000
     omega
    refine ⟨[vl sc,vl (.lst (names.map T.str)),some (.own (.lst (above.map T.str))),some (.own (.dK (ks0++D.map Dd) vs)),vl (.str k),vl (.lst (rows.map BG)),vl (.str first),vl (.str r.1),vl (.tup (r.2.map T.str))],
     [vl sc,vl (.lst (names.map T.str)),some (.own (.lst (above.map T.str))),some (.own (.dK (ks0++D.map Dd++[.inr r.1]) (vs++[.bl true]))),vl (.str k),vl (.lst (rows.map BG)),vl (.str first),vl (.str r.1),vl (.tup (r.2.map T.str))],EA (by unfold tgN;exact Bd rfl g7) (by unfold tgN;exact Bd rfl g8),?_,D++[r],R,vl (.str r.1),vl (.tup (r.2.map T.str)),vs++[.bl true],?_,by rw [<- eD];simp,e2,Be,Be⟩
    ·refine sq (GU (Et (Av (AI (Ab (t:=.str r.1) rfl)) (Av (AI (Ab (t:=.tup (r.2.map T.str)) rfl)) (Av (Er (i:=3) rfl) (Av (AI (Ab (t:=.lst (names.map T.str)) rfl)) Bu)))) rfl (by rw [show CN _ _=[3] from rfl];simp) (By (hnm r hm) hnot (h2 r hm) (hp r hm)) rfl)) ?_
     refine sq (fs':=[vl sc,vl (.lst (names.map T.str)),some (.own (.lst (above.map T.str))),some (.own (.dK (ks0++D.map Dd) vs)),vl (.str k),vl (.lst (rows.map BG)),vl (.str first),vl (.str r.1),vl (.tup (r.2.map T.str))]) ?_ ?_
     ·by_cases hf:r.1=first
      ·refine IB ((RM (Ab (t:=.str r.1) rfl) (Ab (t:=.str first) rfl)).trans (by rw [decide_eq_true hf])) ?_
       exact GU (Et (Av (AI (Ab (t:=.str r.1) rfl)) (Av (AI (Ab (t:=.tup (r.2.map T.str)) rfl)) (Av (Er (i:=2) rfl) Bu))) rfl (by rw [show CN _ _=[2] from rfl];simp) (Bs (hg r hm hf)) rfl)
      ·exact CS ((RM (Ab (t:=.str r.1) rfl) (Ab (t:=.str first) rfl)).trans (by rw [decide_eq_false hf])) rfl
     ·exact Ri (o:=3) (v:=.bl true) (k:=r.1) rfl Ba (AI (Ab rfl)) (any_false hnot) hl rfl
    ·rw [List.map_append,<- List.append_assoc]
     rfl)
  (rows.map BG) [vl sc,vl (.lst (names.map T.str)),some (.own (.lst (above.map T.str))),some (.own (.dK ks0 vs0)),vl (.str k),vl (.lst (rows.map BG)),vl (.str first),x7,x8] ⟨[],rows,x7,x8,vs0,by simp,rfl,rfl,f7,f8⟩
 have hR:R=[]:=by
  cases R with
  | nil=>rfl
  | cons a b=>cases eR
 subst hR
 rw [List.append_nil] at eD
 subst eD
 exact ⟨y7,y8,vs,g7,g8,ef⟩
theorem Fj (D:Kd) (kd:Str×List (Str×List Str)):Bf (D++[kd])=Bf D++kd.2.map Dd:=by
 unfold Bf
 rw [Iv,Eo,List.map_append,List.map_append,List.map_map]
 simp [mks,Dd,Function.comp_def]
theorem EX {xs:List Str} (h:xs.Nodup):(xs.map fun m=>(.inr m:Key)).Nodup:=by
 induction xs with
 | nil=>simp
 | cons x xs ih =>
  rw [List.nodup_cons] at h
  rw [List.map_cons,List.nodup_cons]
  refine ⟨fun m=>?_,ih h.2⟩
  rw [List.mem_map] at m
  obtain ⟨y,my,e⟩:=m
  have:y=x:=by simpa using e
  exact h.1 (this▸my)
theorem Well.part {K:Kd} (W:Well K) {D R:Kd} {kd:Str×List (Str×List Str)} (e:D++kd :: R=K):(Bf D++kd.2.map Dd).Nodup/\(Bf D).length+kd.2.length < 1000/\kd∈K/\(kd.2.map (·.1)).Nodup:=by
 have h:=W.mnd
 have hl:=SU W.hi fun kd m=>(W.rw kd m).2
 rw [<- e,Iv,Eo] at h hl
 refine ⟨?_,?_,by rw [<- e];simp,?_⟩
 ·rw [<- Fj]
  refine EX ?_
  rw [Iv,Eo]
  simp only [mks,List.flatMap_nil,List.append_nil]
  rw [<- List.append_assoc] at h
  exact (List.nodup_append.mp h).1
 ·unfold Bf
  rw [List.length_map]
  simp at hl
  omega
 ·exact (List.nodup_append.mp (List.nodup_append.mp h).2.1).1
theorem Br {K:Kd} (W:Well K):BD [vl (.lst (K.map An))]=.ok (.t .non) [vl (.lst (K.map An))]:=by
 have all:∃ x1 x2 x3 x4 x5 x6 x7 x8,Ce [vl (.lst (K.map An)),none,none,none,none,none,none,none,none]=.nx [vl (.lst (K.map An)),x1,x2,x3,x4,x5,x6,x7,x8]:=by
  unfold Ce
  have c1:BK false [none,none] (itU (fz (Aa 0))) (A7 2 (Ai (tgN 0) (Ai (tgN 1) A5))) DY (fz (Aa 0)) [vl (.lst (K.map An)),none,none,none,none,none,none,none,none]=.ok (.t (.lst ((K.map (·.1)).map T.str))) [vl (.lst (K.map An)),none,none,none,none,none,none,none,none]:=by
   obtain ⟨x,y,_,_,e⟩:=Ec (fe:=fz (Aa 0)) (f:=fun kd:Str×List (Str×List Str)=>.str kd.1) (g:=fun kd=>.lst (kd.2.map BG)) (h:=fun kd=>.str kd.1) (rest:=[]) K none none [] Aw Aw (fun kd _=>AI (Ab rfl)) (by have:=W.hi;show 0+_<=1000000;omega)
   have:=DT (src:=[none,none]) (fi:=itU (fz (Aa 0))) (fs:=[vl (.lst (K.map An)),none,none,none,none,none,none,none,none]) (ts:=K.map An) rfl ⟨by rw [show CN [vl (.lst (K.map An)),none,none,none,none,none,none,none,none] _=[] from rfl];exact List.nodup_nil,by rfl⟩ e (AM rfl)
   rw [this,List.nil_append,List.map_map]
   rfl
  have s1:AY 1 (BK false [none,none] (itU (fz (Aa 0))) (A7 2 (Ai (tgN 0) (Ai (tgN 1) A5))) DY (fz (Aa 0))) [vl (.lst (K.map An)),none,none,none,none,none,none,none,none]=.nx [vl (.lst (K.map An)),vl (.lst ((K.map (·.1)).map T.str)),none,none,none,none,none,none,none]:=BL c1 rfl
  generalize hN:K.map (·.1)=names at s1
  obtain ⟨fs',ef,D,R,x4,x5,x6,x7,x8,vs,rfl,eD,eR,g4,g5,g6,g7,g8⟩:=CU (gt:=A7 2 (Ai (tgN 4) (Ai (tgN 5) A5))) (body:=(AN (AY 6 (Ag Bn (Ag Bn (Aa 5) (gc (.int 0))) (gc (.int 0))))
  (AN (Ex (itU (fz (Aa 5))) (A7 2 (Ai (tgN 7) (Ai (tgN 8) A5))) (AN (AZ (Ar (Ay 4 Bh) (Ah (fz (Aa 7)) (Ah (fz (Aa 8)) (Ah (Aa 3) (Ah (fz (Aa 1)) Ak))))))
  (AN (ifS (asB (Ag (gEq false) (Aa 7) (Aa 6))) (AZ (Ar (Ay 3 A6) (Ah (fz (Aa 7)) (Ah (fz (Aa 8)) (Ah (Aa 2) Ak))))) nxS)
  (ES (gc (.bl true)) (Aa 3) (fz (Aa 7))))))
  (AZ (AV D1 (Aa 2) (Ac (fz (Aa 4)) Ak))))))
   (fun ts fs=>∃ (D R:Kd) (x4 x5 x6 x7 x8:Option Sl) (vs:List T),fs=[vl (.lst (K.map An)),vl (.lst (names.map T.str)),some (.own (.lst ((D.map (·.1)).map T.str))),some (.own (.dK (Bf D) vs)),x4,x5,x6,x7,x8]/\D++R=K/\ts=R.map An/\Fre x4/\Fre x5/\Fre x6/\Fre x7/\Fre x8)
   (fun t' ts fs h=>by
    obtain ⟨D,R,x4,x5,x6,x7,x8,vs,rfl,eD,eR,g4,g5,g6,g7,g8⟩:=h
    cases R with
    | nil=>cases eR
    | cons kd R =>
     rw [List.map_cons] at eR
     obtain ⟨e1,e2⟩:=List.cons.inj eR
     subst e1
     obtain ⟨w1,w2,hm,w3⟩:=W.part eD
     obtain ⟨r0,rs,er⟩:∃ r0 rs,kd.2=r0 :: rs:=by
      have:=(W.rw kd hm).1
      cases h:kd.2 with
      | nil=>rw [h] at this;simp at this
      | cons a b=>exact ⟨a,b,rfl⟩
     obtain ⟨y7,y8,vs',f7,f8,el⟩:=Ko (sc:=.lst (K.map An)) (names:=names) (above:=D.map (·.1)) (ks0:=Bf D) (vs0:=vs) (k:=kd.1) (first:=r0.1) (rows:=kd.2) (x7:=x7) (x8:=x8) g7 g8 (fun r m=>W.mnm _ (Kn hm m)) w1 w2 (W.two kd hm) (fun r m x hx=>hN▸W.prt kd hm r m x hx) (fun r m e x hx=>by
      have:r=r0:=PH w3 m (by rw [er];simp) e
      subst this
      exact W.gr D kd R eD.symm r (by rw [er];rfl) x hx)
     refine ⟨[vl (.lst (K.map An)),vl (.lst (names.map T.str)),some (.own (.lst ((D.map (·.1)).map T.str))),some (.own (.dK (Bf D) vs)),vl (.str kd.1),vl (.lst (kd.2.map BG)),x6,x7,x8],[vl (.lst (K.map An)),vl (.lst (names.map T.str)),some (.own (.lst ((D.map (·.1)).map T.str++[.str kd.1]))),some (.own (.dK (Bf D++kd.2.map Dd) vs')),vl (.str kd.1),vl (.lst (kd.2.map BG)),vl (.str r0.1),y7,y8],EA (by unfold tgN;exact Bd rfl g4) (by unfold tgN;exact Bd rfl g5),?_,D++[kd],R,vl (.str kd.1),vl (.lst (kd.2.map BG)),vl (.str r0.1),y7,y8,vs',?_,by rw [<- eD];simp,e2,Be,Be,Be,f7,f8⟩
     ·have q1:atI (kd.2.map BG) 0=some (BG r0):=A9 (j:=0) (by rw [er];rfl)
      refine sq (BL (Al (Al (Ab rfl) Ba (BH rfl q1)) Ba (show Bn (.t (BG r0)) (.t (.int 0)) _=.ok (.t (.str r0.1)) _ from rfl)) (Bd rfl g6)) ?_
      refine sq (show Ex _ _ _ _=_ from el) ?_
      exact JY (i:=2) rfl (AI (Ab rfl)) (by
       have:=congrArg List.length eD
       have h4:=W.hi
       simp at this
       rw [List.length_map,List.length_map]
       show _ < 1000000
       omega) rfl
     ·rw [Fj,List.map_append,List.map_append]
      rfl)
   (K.map An) [vl (.lst (K.map An)),vl (.lst (names.map T.str)),some (.own (.lst [])),some (.own (.dK [] [])),none,none,none,none,none] ⟨[],K,none,none,none,none,none,[],rfl,rfl,rfl,Aw,Aw,Aw,Aw,Aw⟩
  refine ⟨vl (.lst (names.map T.str)),some (.own (.lst ((D.map (·.1)).map T.str))),some (.own (.dK (Bf D) vs)),x4,x5,x6,x7,x8,?_⟩
  refine sq s1 ?_
  refine sq (fs':=[vl (.lst (K.map An)),vl (.lst (names.map T.str)),some (.own (.lst [])),none,none,none,none,none,none]) rfl ?_
  exact sq (fs':=[vl (.lst (K.map An)),vl (.lst (names.map T.str)),some (.own (.lst [])),some (.own (.dK [] [])),none,none,none,none,none]) rfl ef
 obtain ⟨x1,x2,x3,x4,x5,x6,x7,x8,all⟩:=all
 unfold BD Dk
 show (match Ce [vl (.lst (K.map An)),none,none,none,none,none,none,none,none] with | .nx τ=>_ | .ret (.t t) τ=>_ | .ret (.nw o) τ=>_ | .ret (.rf i) τ=>_ | .exc c τ=>_ | _=>_)=_
 rw [all]
 rfl
theorem Ov {C:Addr} {f:Str} {i:Nat} {fv:FS->Out Rv} {fs fs1 fs':FS} {gs gs':List Str} {os os':List FO} {o:FO} (hv:fv fs=.ok (.nw o) fs1) (h0:fs1[i]?=some (some (.bor (.ins C gs os)))) (hl:gs.length < 900) (hp:Hh gs os f o=some (gs',os')) (e:fs1.set i (some (.bor (.ins C gs' os')))=fs'):Uc C f i fv fs=.nx fs':=by
 unfold Uc
 rw [hv]
 simp only [SO.of,W5,VU h0]
 rw [if_pos ⟨trivial,hl⟩,hp]
 simp only
 unfold FL.putAt
 rw [h0]
 simp only [Sl.put,e]
theorem Ky {C:Addr} {f:Str} {i j:Nat} {fv:FS->Out Rv} {fs fs1 fs':FS} {gs:List Str} {os:List FO} {ks:List Key} {ts:List T} {k:Str} {t:T} (hv:fv fs=.ok (.t t) fs1) (h0:fs1[i]?=some (some (.bor (.ins C gs os)))) (hj:fs1[j]?=some (vl (.str k))) (hf:DZ gs os f=some (.dK ks ts)) (hn:(.inr k:Key)∉ks) (hl:ks.length < big)
  (e:fs1.set i (some (.bor (.ins C gs (Fe gs os f (.dK (ks++[.inr k]) (ts++[t]))))))=fs'):DI C f i j fv fs=.nx fs':=by
 have h3:Ii ks ts (.inr k:Key) t=(ks++[.inr k],ts++[t]):=by
  unfold Ii
  rw [any_false hn]
  rfl
 unfold DI
 rw [hv]
 simp only [SO.of,VU h0,hj,L5,hf,if_true,hl,h3]
 unfold FL.putAt
 rw [h0]
 simp only [Sl.put,e]
def IT (rows:List (Str×List Str)):List T:=rows.map fun r=>T.tup (r.2.map T.str)
def He (K:Kd):List T:=K.flatMap fun kd=>IT kd.2
def Mr (k:Str) (rows:List (Str×List Str)):List T:=rows.map fun _=>T.str k
def EJ (K:Kd):List T:=K.flatMap fun kd=>Mr kd.1 kd.2
def DG (K:Kd):List T:=K.map fun kd=>T.lst ((kd.2.map (·.1)).map T.str)
theorem M8 (D:Kd) (kd:Str×List (Str×List Str)):He (D++[kd])=He D++IT kd.2:=by unfold He;simp
theorem N6 {C:Addr} {A B H:Str} (hAB:A≠B) (hAH:A≠H) (hBH:B≠H) {oA:FO} {sc mk:T} {k:Str} {rows:List (Str×List Str)} {ks0:List Key} {ps0 hs0:List T} {x4 x5:Option Sl} (f4:Fre x4) (f5:Fre x5) (hnd:(ks0++rows.map Dd).Nodup) (hlen:ks0.length+rows.length < 1000) :
  ∃ (y4 y5:Option Sl) (hs:List T),hs=hs0++Mr k rows/\Fre y4/\Fre y5/\FY (A7 2 (Ai (tgN 4) (Ai (tgN 5) A5))) (AN (DI C B 0 4 (Ar EY (Ac (Aa 5) Ak)))
  (DI C H 0 4 (fz (Aa 2)))) (rows.map BG) [some (.bor (.ins C [A,B,H] [oA,.dK ks0 ps0,.dK ks0 hs0])),vl sc,vl (.str k),vl mk,x4,x5] =
   .nx [some (.bor (.ins C [A,B,H] [oA,.dK (ks0++rows.map Dd) (ps0++IT rows),.dK (ks0++rows.map Dd) hs])),vl sc,vl (.str k),vl mk,y4,y5]:=by
 obtain ⟨fs',ef,D,R,y4,y5,hs,rfl,eD,eR,g4,g5,eh⟩:=CU (gt:=A7 2 (Ai (tgN 4) (Ai (tgN 5) A5))) (body:=AN (DI C B 0 4 (Ar EY (Ac (Aa 5) Ak)))
  (DI C H 0 4 (fz (Aa 2))))
  (fun ts fs=>∃ (D R:List (Str×List Str)) (y4 y5:Option Sl) (hs:List T),fs=[some (.bor (.ins C [A,B,H] [oA,.dK (ks0++D.map Dd) (ps0++IT D),.dK (ks0++D.map Dd) hs])),vl sc,vl (.str k),vl mk,y4,y5]/\D++R=rows/\ts=R.map BG/\Fre y4/\Fre y5/\hs=hs0++Mr k D)
  (fun t' ts fs h=>by
   obtain ⟨D,R,y4,y5,hs,rfl,eD,eR,g4,g5,eh⟩:=h
   cases R with
   | nil=>cases eR
   | cons r R =>
    rw [List.map_cons] at eR
    obtain ⟨e1,e2⟩:=List.cons.inj eR
    subst e1
    have hnot:(.inr r.1:Key)∉ks0++D.map Dd:=by
     rw [<- eD,List.map_append,List.map_cons,<- List.append_assoc,List.nodup_append] at hnd
     intro m
     exact hnd.2.2 _ m (Dd r) (by simp) rfl
    have hl:(ks0++D.map Dd).length < big:=by
     have:=congrArg List.length eD
     simp at this
     rw [List.length_append,List.length_map]
     show _ < 1000000
     omega
    have v1:DZ [A,B,H] [oA,.dK (ks0++D.map Dd) (ps0++IT D),.dK (ks0++D.map Dd) hs] B=some (.dK (ks0++D.map Dd) (ps0++IT D)):=by
     simp [DZ,Ne.symm hAB]
    have s1:Fe [A,B,H] [oA,.dK (ks0++D.map Dd) (ps0++IT D),.dK (ks0++D.map Dd) hs] B (.dK (ks0++D.map Dd++[.inr r.1]) (ps0++IT D++[.tup (r.2.map T.str)]))=[oA,.dK (ks0++D.map Dd++[.inr r.1]) (ps0++IT D++[.tup (r.2.map T.str)]),.dK (ks0++D.map Dd) hs]:=by
     simp [Fe,Ne.symm hAB]
    have v2:DZ [A,B,H] [oA,.dK (ks0++D.map Dd++[.inr r.1]) (ps0++IT D++[.tup (r.2.map T.str)]),.dK (ks0++D.map Dd) hs] H=some (.dK (ks0++D.map Dd) hs):=by
     simp [DZ,Ne.symm hAH,Ne.symm hBH]
    have s2:Fe [A,B,H] [oA,.dK (ks0++D.map Dd++[.inr r.1]) (ps0++IT D++[.tup (r.2.map T.str)]),.dK (ks0++D.map Dd) hs] H (.dK (ks0++D.map Dd++[.inr r.1]) (hs++[.str k]))=[oA,.dK (ks0++D.map Dd++[.inr r.1]) (ps0++IT D++[.tup (r.2.map T.str)]),.dK (ks0++D.map Dd++[.inr r.1]) (hs++[.str k])]:=by
     simp [Fe,Ne.symm hAH,Ne.symm hBH]
    refine ⟨[some (.bor (.ins C [A,B,H] [oA,.dK (ks0++D.map Dd) (ps0++IT D),.dK (ks0++D.map Dd) hs])),vl sc,vl (.str k),vl mk,vl (.str r.1),vl (.tup (r.2.map T.str))],[some (.bor (.ins C [A,B,H] [oA,.dK (ks0++D.map Dd++[.inr r.1]) (ps0++IT D++[.tup (r.2.map T.str)]),.dK (ks0++D.map Dd++[.inr r.1]) (hs++[.str k])])),vl sc,vl (.str k),vl mk,vl (.str r.1),vl (.tup (r.2.map T.str))],EA (by unfold tgN;exact Bd rfl g4) (by unfold tgN;exact Bd rfl g5),?_,D++[r],R,vl (.str r.1),vl (.tup (r.2.map T.str)),hs++[.str k],?_,by rw [<- eD];simp,e2,Be,Be,by rw [eh];simp [Mr]⟩
    ·refine sq (Ky (t:=.tup (r.2.map T.str)) (DU (AW (Ab rfl) rfl) rfl) rfl rfl v1 hnot hl rfl) ?_
     rw [s1]
     refine Ky (t:=.str k) (AI (Ab rfl)) rfl rfl v2 hnot hl ?_
     rw [s2]
     rfl
    ·unfold IT
     rw [List.map_append,List.map_append,<- List.append_assoc,<- List.append_assoc]
     rfl)
  (rows.map BG) [some (.bor (.ins C [A,B,H] [oA,.dK ks0 ps0,.dK ks0 hs0])),vl sc,vl (.str k),vl mk,x4,x5] ⟨[],rows,x4,x5,hs0,by simp [IT],rfl,rfl,f4,f5,by simp [Mr]⟩
 have hR:R=[]:=by
  cases R with
  | nil=>rfl
  | cons a b=>cases eR
 subst hR
 rw [List.append_nil] at eD
 subst eD
 exact ⟨y4,y5,hs,eh,g4,g5,ef⟩
theorem FX:("makers_by_kind":Str)≠("parts_by_maker":Str)/\("makers_by_kind":Str)≠("home_by_maker":Str)/\("parts_by_maker":Str)≠("home_by_maker":Str):=by decide +kernel
def Hu (C:Addr) (K:Kd) (hs:List T):FO:=.ins C ["makers_by_kind","parts_by_maker","home_by_maker"] [.dK (BM K) (DG K),.dK (Bf K) (He K),.dK (Bf K) hs]
theorem Ht {C:Addr} {K:Kd} (W:Well K):Bj C [some (.bor (.ins C [] [])),vl (.lst (K.map An))]=.ok (.t .non) [some (.bor (Hu C K (EJ K))),vl (.lst (K.map An))]:=by
 have hck:=Bz W.lo W.hi W.nd W.nm W.rw
 have hcm:=Br W
 have all:∃ hs x2 x3 x4 x5,hs=EJ K/\CL C [some (.bor (.ins C [] [])),vl (.lst (K.map An)),none,none,none,none]=.nx [some (.bor (Hu C K hs)),vl (.lst (K.map An)),x2,x3,x4,x5]:=by
  unfold CL Hu
  obtain ⟨hAB,hAH,hBH⟩:=FX
  generalize ("makers_by_kind":Str)=A at hAB hAH ⊢
  generalize ("parts_by_maker":Str)=B at hAB hBH ⊢
  generalize ("home_by_maker":Str)=H at hAH hBH ⊢
  obtain ⟨fs',ef,D,R,x2,x3,x4,x5,hs,rfl,eD,eR,g2,g3,g4,g5,eh⟩:=CU (gt:=A7 2 (Ai (tgN 2) (Ai (tgN 3) A5))) (body:=(AN (DI C A 0 2 (BK false [none,none] (itU (fz (Aa 3))) (A7 2 (Ai (tgN 0) (Ai (tgN 1) A5))) DY (fz (Aa 0))))
  (Ex (itU (fz (Aa 3))) (A7 2 (Ai (tgN 4) (Ai (tgN 5) A5))) (AN (DI C B 0 4 (Ar EY (Ac (Aa 5) Ak)))
  (DI C H 0 4 (fz (Aa 2)))))))
   (fun ts fs=>∃ (D R:Kd) (x2 x3 x4 x5:Option Sl) (hs:List T),fs=[some (.bor (.ins C [A,B,H] [.dK (BM D) (DG D),.dK (Bf D) (He D),.dK (Bf D) hs])),vl (.lst (K.map An)),x2,x3,x4,x5]/\D++R=K/\ts=R.map An/\Fre x2/\Fre x3/\Fre x4/\Fre x5/\hs=EJ D)
   (fun t' ts fs h=>by
    obtain ⟨D,R,x2,x3,x4,x5,hs,rfl,eD,eR,g2,g3,g4,g5,eh⟩:=h
    cases R with
    | nil=>cases eR
    | cons kd R =>
     rw [List.map_cons] at eR
     obtain ⟨e1,e2⟩:=List.cons.inj eR
     subst e1
     obtain ⟨w1,w2,hm,w3⟩:=W.part eD
     have hnd:=W.nd
     have hnot:(.inr kd.1:Key)∉BM D:=by
      intro m
      unfold BM at m
      rw [List.mem_map] at m
      obtain ⟨kd',m',e'⟩:=m
      have e'':kd'.1=kd.1:=by simpa using e'
      rw [<- eD,List.map_append,List.nodup_append] at hnd
      exact hnd.2.2 kd'.1 (List.mem_map.mpr ⟨kd',m',rfl⟩) kd.1 (by simp) e''
     have hlen:(BM D).length < big:=by
      unfold BM
      rw [List.length_map]
      have:=congrArg List.length eD
      have h4:=W.hi
      simp at this
      show D.length < 1000000
      omega
     have v1:DZ [A,B,H] [.dK (BM D) (DG D),.dK (Bf D) (He D),.dK (Bf D) hs] A=some (.dK (BM D) (DG D)):=by simp [DZ]
     have s1:Fe [A,B,H] [.dK (BM D) (DG D),.dK (Bf D) (He D),.dK (Bf D) hs] A (.dK (BM D++[.inr kd.1]) (DG D++[.lst ((kd.2.map (·.1)).map T.str)]))=[.dK (BM D++[.inr kd.1]) (DG D++[.lst ((kd.2.map (·.1)).map T.str)]),.dK (Bf D) (He D),.dK (Bf D) hs]:=by simp [Fe]
     have c1:BK false [none,none] (itU (fz (Aa 3))) (A7 2 (Ai (tgN 0) (Ai (tgN 1) A5))) DY (fz (Aa 0)) [some (.bor (.ins C [A,B,H] [.dK (BM D) (DG D),.dK (Bf D) (He D),.dK (Bf D) hs])),vl (.lst (K.map An)),vl (.str kd.1),vl (.lst (kd.2.map BG)),x4,x5]=.ok (.t (.lst ((kd.2.map (·.1)).map T.str))) [some (.bor (.ins C [A,B,H] [.dK (BM D) (DG D),.dK (Bf D) (He D),.dK (Bf D) hs])),vl (.lst (K.map An)),vl (.str kd.1),vl (.lst (kd.2.map BG)),x4,x5]:=by
      obtain ⟨x,y,_,_,e⟩:=Ec (fe:=fz (Aa 0)) (f:=fun r:Str×List Str=>.str r.1) (g:=fun r=>.tup (r.2.map T.str)) (h:=fun r=>.str r.1) (rest:=[]) kd.2 none none [] Aw Aw (fun kd _=>AI (Ab rfl)) (by have:=(W.rw kd hm).2;show 0+_<=1000000;omega)
      have:=DT (src:=[none,none]) (fi:=itU (fz (Aa 3))) (fs:=[some (.bor (.ins C [A,B,H] [.dK (BM D) (DG D),.dK (Bf D) (He D),.dK (Bf D) hs])),vl (.lst (K.map An)),vl (.str kd.1),vl (.lst (kd.2.map BG)),x4,x5]) (ts:=kd.2.map BG) rfl ⟨by rw [show CN _ (List.map _ [none,none])=[] from rfl];exact List.nodup_nil,by rfl⟩ e (AM rfl)
      rw [this,List.nil_append,List.map_map]
      rfl
     obtain ⟨y4,y5,hs',eh',f4,f5,el⟩:=N6 (C:=C) hAB hAH hBH (oA:=.dK (BM D++[.inr kd.1]) (DG D++[.lst ((kd.2.map (·.1)).map T.str)])) (sc:=.lst (K.map An)) (mk:=.lst (kd.2.map BG)) (k:=kd.1) (rows:=kd.2) (ks0:=Bf D) (ps0:=He D) (hs0:=hs) (x4:=x4) (x5:=x5) g4 g5 w1 w2
     refine ⟨[some (.bor (.ins C [A,B,H] [.dK (BM D) (DG D),.dK (Bf D) (He D),.dK (Bf D) hs])),vl (.lst (K.map An)),vl (.str kd.1),vl (.lst (kd.2.map BG)),x4,x5],[some (.bor (.ins C [A,B,H] [.dK (BM D++[.inr kd.1]) (DG D++[.lst ((kd.2.map (·.1)).map T.str)]),.dK (Bf D++kd.2.map Dd) (He D++IT kd.2),.dK (Bf D++kd.2.map Dd) hs'])),vl (.lst (K.map An)),vl (.str kd.1),vl (.lst (kd.2.map BG)),y4,y5],EA (by unfold tgN;exact Bd rfl g2) (by unfold tgN;exact Bd rfl g3),?_,D++[kd],R,vl (.str kd.1),vl (.lst (kd.2.map BG)),y4,y5,hs',?_,by rw [<- eD];simp,e2,Be,Be,f4,f5,by rw [eh',eh];simp [EJ]⟩
     ·refine sq (Ky (t:=.lst ((kd.2.map (·.1)).map T.str)) c1 rfl rfl v1 hnot hlen rfl) ?_
      rw [s1]
      exact el
     ·rw [Fj,M8]
      unfold BM DG
      rw [List.map_append,List.map_append]
      rfl)
   (K.map An) [some (.bor (.ins C [A,B,H] [.dK [] [],.dK [] [],.dK [] []])),vl (.lst (K.map An)),none,none,none,none] ⟨[],K,none,none,none,none,[],rfl,rfl,rfl,Aw,Aw,Aw,Aw,rfl⟩
  have hR:R=[]:=by
   cases R with
   | nil=>rfl
   | cons a b=>cases eR
  subst hR
  rw [List.append_nil] at eD
  subst eD
  refine ⟨hs,x2,x3,x4,x5,eh,?_⟩
  refine sq (GU (IJ (Av (AI (Ab (t:=.lst (D.map An)) rfl)) Bu) rfl rfl hck)) ?_
  refine sq (GU (IJ (Av (AI (Ab (t:=.lst (D.map An)) rfl)) Bu) rfl rfl hcm)) ?_
  refine sq (fs':=[some (.bor (.ins C [A] [.dK [] []])),vl (.lst (D.map An)),none,none,none,none]) (Ov (o:=.dK [] []) rfl rfl (show 0 < 900 by decide) rfl rfl) ?_
  refine sq (fs':=[some (.bor (.ins C [A,B] [.dK [] [],.dK [] []])),vl (.lst (D.map An)),none,none,none,none]) (Ov (o:=.dK [] []) rfl rfl (show 1 < 900 by decide) (by simp [Hh,hAB]) rfl) ?_
  refine sq (fs':=[some (.bor (.ins C [A,B,H] [.dK [] [],.dK [] [],.dK [] []])),vl (.lst (D.map An)),none,none,none,none]) (Ov (o:=.dK [] []) rfl rfl (show 2 < 900 by decide) (by simp [Hh,hAH,hBH]) rfl) ?_
  exact ef
 obtain ⟨hs,x2,x3,x4,x5,eh,all⟩:=all
 subst eh
 unfold Bj Dk
 show (match CL C [some (.bor (.ins C [] [])),vl (.lst (K.map An)),none,none,none,none] with | .nx τ=>_ | .ret (.t t) τ=>_ | .ret (.nw o) τ=>_ | .ret (.rf i) τ=>_ | .exc c τ=>_ | _=>_)=_
 rw [all]
 rfl
def Ax (C:Addr) (K:Kd) (hs:List T):T:=.ins C ["makers_by_kind","parts_by_maker","home_by_maker"] [.dK (BM K) (DG K),.dK (Bf K) (He K),.dK (Bf K) hs]
theorem Ls {C:Addr} {K:Kd} {hs:List T} {i:Nat} {fs:FS} (h:fs[i]?=some (vl (Ax C K hs))):JA C "makers_by_kind" (Aa i) fs=.ok (.t (.dK (BM K) (DG K))) fs:=by
 unfold JA
 rw [Ab h]
 obtain ⟨hAB,hAH,hBH⟩:=FX
 unfold Ax
 generalize ("makers_by_kind":Str)=A at *
 simp [Out.bnd,Out.bind,Vl,Pl,okT]
theorem Ou {C:Addr} {K:Kd} {hs:List T} {i:Nat} {fs:FS} (h:fs[i]?=some (vl (Ax C K hs))):JA C "parts_by_maker" (Aa i) fs=.ok (.t (.dK (Bf K) (He K))) fs:=by
 unfold JA
 rw [Ab h]
 obtain ⟨hAB,hAH,hBH⟩:=FX
 unfold Ax
 generalize ("makers_by_kind":Str)=A at *
 generalize ("parts_by_maker":Str)=B at *
 simp [Out.bnd,Out.bind,Vl,Pl,okT,Ne.symm hAB]
theorem Py {C:Addr} {K:Kd} {hs:List T}:BU C [vl (Ax C K hs)]=.ok (.nw (.lst ((K.map (·.1)).map T.str))) [vl (Ax C K hs)]:=by
 have all:Cv C [vl (Ax C K hs)]=.ret (.nw (.lst ((K.map (·.1)).map T.str))) [vl (Ax C K hs)]:=by
  unfold Cv
  refine CQ (DU (AW (Ls rfl) rfl) ?_)
  show Out.ok (Rv.nw (.lst ((BM K).map T9))) _=_
  unfold BM
  rw [List.map_map,List.map_map]
  rfl
 unfold BU Dk
 show (match Cv C [vl (Ax C K hs)] with | .nx τ=>_ | .ret (.t t) τ=>_ | .ret (.nw o) τ=>_ | .ret (.rf i) τ=>_ | .exc c τ=>_ | _=>_)=_
 rw [all]
 rfl
theorem Kq {K:Kd} (W:Well K):(K.map fun kd=>(.inr kd.1:Key)).Nodup:=by
 have:=EX W.nd
 rwa [List.map_map] at this
theorem val_mk {K:Kd} (W:Well K) {kd:Str×List (Str×List Str)} (m:kd∈K):EO (BM K) (DG K) (.inr kd.1:Key)=some (.lst ((kd.2.map (·.1)).map T.str)) :=
 ER (f:=fun kd:Str×List (Str×List Str)=>(.inr kd.1:Key)) (g:=fun kd:Str×List (Str×List Str)=>T.lst ((kd.2.map (fun r:Str×List Str=>r.1)).map T.str)) m (Kq W)
def allR (K:Kd):List (Str×List Str):=K.flatMap (·.2)
theorem Gy (K:Kd):Bf K=(allR K).map Dd:=by
 unfold Bf mks allR
 rw [List.map_flatMap,List.map_flatMap]
 simp only [List.map_map]
 rfl
theorem K5 (K:Kd):He K=(allR K).map fun r=>T.tup (r.2.map T.str):=by
 unfold He IT allR
 rw [List.map_flatMap]
theorem Q6 {K:Kd} (W:Well K) {kd:Str×List (Str×List Str)} {r:Str×List Str} (m:kd∈K) (m2:r∈kd.2):EO (Bf K) (He K) (.inr r.1:Key)=some (.tup (r.2.map T.str)):=by
 have h:=EX W.mnd
 have h2:=Gy K
 unfold Bf at h2
 rw [h2] at h
 rw [Gy,K5]
 exact ER (f:=Dd) (g:=fun r=>T.tup (r.2.map T.str)) (x:=r) (List.mem_flatMap.mpr ⟨kd,m,m2⟩) h
theorem Tb {k:Str} {ks:List Key} {ts:List T} {t:T} {fs:FS} (h:EO ks ts (.inr k:Key)=some t):Bn (.t (.dK ks ts)) (.t (.str k)) fs=.ok (.t t) fs:=by
 have e:Og (.t (.dK ks ts)) (.t (.str k)) fs=.ok (.t t) fs:=by
  simp only [Og,TF,L5,Option.map_some,h,okT]
 exact e
theorem MS {C:Addr} {K:Kd} {hs:List T} (W:Well K) {kd:Str×List (Str×List Str)} (m:kd∈K):AO C [vl (Ax C K hs),vl (.str kd.1)]=.ok (.nw (.lst ((kd.2.map (·.1)).map T.str))) [vl (Ax C K hs),vl (.str kd.1)]:=by
 have all:BE C [vl (Ax C K hs),vl (.str kd.1)]=.ret (.nw (.lst ((kd.2.map (·.1)).map T.str))) [vl (Ax C K hs),vl (.str kd.1)]:=by
  unfold BE
  refine sq (CS (Cw (b:=false) (Al (AI (Ab (t:=.str kd.1) rfl)) (Ls rfl) ?_)) rfl) ?_
  ·rw [Ua,val_mk W m]
   rfl
  exact CQ (DU (AW (Al (Ls rfl) (AI (Ab (t:=.str kd.1) rfl)) (Tb (val_mk W m))) rfl) rfl)
 unfold AO Dk
 show (match BE C [vl (Ax C K hs),vl (.str kd.1)] with | .nx τ=>_ | .ret (.t t) τ=>_ | .ret (.nw o) τ=>_ | .ret (.rf i) τ=>_ | .exc c τ=>_ | _=>_)=_
 rw [all]
 rfl
theorem Px {C:Addr} {K:Kd} {hs:List T} (W:Well K) {kd:Str×List (Str×List Str)} {r:Str×List Str} (m:kd∈K) (m2:r∈kd.2):AX C [vl (Ax C K hs),vl (.str r.1)]=.ok (.t (.tup (r.2.map T.str))) [vl (Ax C K hs),vl (.str r.1)]:=by
 have all:BV C [vl (Ax C K hs),vl (.str r.1)]=.ret (.t (.tup (r.2.map T.str))) [vl (Ax C K hs),vl (.str r.1)]:=by
  unfold BV
  refine sq (CS (Cw (b:=false) (Al (AI (Ab (t:=.str r.1) rfl)) (Ou rfl) ?_)) rfl) ?_
  ·rw [Ua,Q6 W m m2]
   rfl
  exact CQ (Al (Ou rfl) (AI (Ab (t:=.str r.1) rfl)) (Tb (Q6 W m m2)))
 unfold AX Dk
 show (match BV C [vl (Ax C K hs),vl (.str r.1)] with | .nx τ=>_ | .ret (.t t) τ=>_ | .ret (.nw o) τ=>_ | .ret (.rf i) τ=>_ | .exc c τ=>_ | _=>_)=_
 rw [all]
 rfl
theorem Ea:(["makers_by_kind","parts_by_maker","home_by_maker"]:List Str).any (· == ("kinds":Str))=false/\(["makers_by_kind","parts_by_maker","home_by_maker"]:List Str).any (· == ("makers":Str))=false/\(["makers_by_kind","parts_by_maker","home_by_maker"]:List Str).any (· == ("parts":Str))=false:=by decide +kernel
theorem DP {C:Addr} {mt:Str} {fs:FS} {K:Kd} {hs:List T} (h:(["makers_by_kind","parts_by_maker","home_by_maker"]:List Str).any (· == mt)=false):Hm C mt fs (.t (Ax C K hs))=true:=by
 unfold Hm Ax
 simp only [h]
 simp
theorem VM {f g:FS->Out Rv} {fs fs1:FS} {r:Out Rv} (h:f fs=.ok (.t (.bl true)) fs1) (e:g fs1=r):VZ f g fs=r:=by
 unfold VZ;rw [h];exact e
theorem Lr {gt:T->FS->Option FS} {body:FS->SO} {t:T} {ts:List T} {fs fs1 fs2:FS} (h1:gt t fs=some fs1) (h2:body fs1=.nx fs2):FY gt body (t :: ts) fs=FY gt body ts fs2:=by
 simp only [FY,h1,h2]
theorem QY {g:Rv->Rv->FS->Out Rv} {fa fb:FS->Out Rv} {fs:FS} {y:T} {i:Nat} {r:Out Rv} (h1:fa fs=.ok (.rf i) fs) (h2:fb fs=.ok (.t y) fs) (h3:g (.rf i) (.t y) fs=r):Ag g fa fb fs=r:=by
 unfold Ag
 rw [h1]
 show (fb fs).bnd _=r
 rw [h2]
 exact h3
theorem Ra {fs:FS} {i:Nat} {ts:List T} (h:fs[i]?=some (some (.own (.lst ts)))):C6 fs (.rf i)=some ts:=by simp only [C6,VT h]
theorem KN {f g:FS->Out Bool} {fs:FS} {a b:Bool} (h1:f fs=.ok a fs) (h2:g fs=.ok b fs):LP f g fs=.ok (a && b) fs:=by
 unfold LP
 rw [h1]
 cases a
 ·rfl
 ·show g fs=_
  rw [h2]
  rfl
open Builtin.Int (intBits)
theorem TY {x:Int} {n:Nat}:intBits x<=n↔x.natAbs < 2 ^ n:=by
 unfold intBits
 by_cases h:x=0
 ·subst h
  simp [Nat.two_pow_pos]
 ·have h':(x == 0)=false:=by simpa using h
  rw [h']
  have hn:x.natAbs≠0:=by omega
  have:=Nat.log2_lt hn (k:=n)
  simp only [Bool.false_eq_true,if_false]
  omega
theorem LM:∀ {ns:List Int} {z:Int},z∈ns->intBits z<=CD ns
 | n :: ns,z,h=>by
  simp only [CD]
  rcases List.mem_cons.mp h with rfl | h
  ·omega
  ·have:=LM h
   omega
theorem QX {ns:List Int} {N:Nat} (hb:CD ns<=N) (i:Nat):intBits (ns.getD i 0)<=N:=by
 by_cases h:i < ns.length
 ·have:ns.getD i 0∈ns:=by
   simp [List.getD,h]
  have:=LM this
  omega
 ·have:ns.getD i 0=0:=by simp [List.getD,List.getElem?_eq_none (by omega:ns.length<=i)]
  rw [this,TY]
  exact Nat.two_pow_pos N
theorem Jq (c:Int) {n:Nat} (h:n<=12):(nms c n).Nodup:=by
 unfold nms
 rw [List.nodup_iff_pairwise_ne,List.pairwise_map]
 refine List.Pairwise.imp_of_mem ?_ (List.nodup_iff_pairwise_ne.mp (List.nodup_range (n:=n)))
 intro a b ma mb hab e
 rw [List.mem_range] at ma mb
 exact hab (SR (by omega) (by omega) e)
theorem SM (c:Int) {n i:Nat} (h:i < n):(nms c n).getD i ⟨#[]⟩=nmS c i:=by
 unfold nms
 simp [List.getD,h]
theorem Kj {c:Int} {n:Nat} {x:Str} (h:x∈nms c n):∃ k,x=nmS c k:=by
 unfold nms at h
 rw [List.mem_map] at h
 obtain ⟨k,_,e⟩:=h
 exact ⟨k,e.symm⟩
theorem NG (c:Int) (k:Nat):(nmS c k).length<=12:=by
 show (Nm.codes c k).toArray.size<=12
 rw [List.size_toArray]
 exact Nm.LG c k
theorem Hr (K:Kd) (kd:Str×List (Str×List Str)):used (K++[kd])=used K+kd.2.length:=by
 unfold used
 simp
theorem Iu {names makers:List Str} {K:Kd} (h:KOk names makers K) (hu:used K<=makers.length):∀ a,a<=K.length->mks (K.take a)=makers.take (used (K.take a))/\used (K.take a)<=used K
 | 0,_=>by simp [mks,used]
 | a+1,ha=>by
  obtain ⟨i1,i2⟩:=Iu h hu a (by omega)
  have hlt:a < K.length:=by omega
  obtain ⟨_,_,_,R⟩:=h.at_ a K[a] (List.getElem?_eq_getElem hlt)
  have e:K.take (a+1)=K.take a++[K[a]]:=by rw [List.take_succ_eq_append_getElem hlt]
  have hle:used (K.take (a+1))<=used K:=by
   have:K=K.take (a+1)++K.drop (a+1):=(List.take_append_drop _ _).symm
   conv=>rhs;rw [this]
   unfold used
   rw [List.map_append,List.sum_append]
   omega
  refine ⟨?_,hle⟩
  rw [e] at hle ⊢
  rw [Iv,Hr,i1,Eo]
  rw [Hr] at hle
  simp only [mks,List.flatMap_nil,List.append_nil]
  rw [R.mks]
  generalize used (K.take a)=u at *
  generalize K[a].2.length=l at *
  rw [List.take_add]
  congr 1
  refine List.ext_getElem? fun j=>?_
  rw [List.getElem?_take]
  by_cases hj:j < l
  ·rw [if_pos hj,List.getElem?_drop,List.getElem?_map,List.getElem?_range hj]
   have:u+j < makers.length:=by omega
   simp [List.getD,this]
  ·rw [if_neg hj,List.getElem?_eq_none (by simp;omega)]
theorem well {c0 c1:Int} {K:Kd} (h1:1<=K.length) (h4:K.length<=4) (h:KOk (nms c0 K.length) (nms c1 12) K) (hu:used K<=12):Well K:=by
 have hnames:K.map (·.1)=nms c0 K.length:=by
  refine List.ext_getElem? fun i=>?_
  rw [List.getElem?_map]
  by_cases hi:i < K.length
  ·have:=(h.at_ i K[i] (List.getElem?_eq_getElem hi)).1
   rw [List.getElem?_eq_getElem hi,Option.map_some,this,List.getElem?_eq_getElem (by rw [Fi];exact hi)]
   simp [List.getD,Fi,hi]
  ·rw [List.getElem?_eq_none (by omega),List.getElem?_eq_none (by rw [Fi];omega)]
   rfl
 have hmks:mks K=(nms c1 12).take (used K):=by
  have:=(Iu h (by rw [Fi];exact hu) K.length (Nat.le_refl _)).1
  rwa [List.take_length] at this
 have hat:∀ kd∈K,∃ a,a < K.length/\1<=kd.2.length/\kd.2.length<=4/\Rows (nms c0 K.length) (nms c1 12) a (used (K.take a)) kd.2:=fun kd m=>by
  obtain ⟨a,ha,ea⟩:=List.mem_iff_getElem.mp m
  obtain ⟨_,q1,q2,R⟩:=h.at_ a kd (by rw [List.getElem?_eq_getElem ha,ea])
  exact ⟨a,ha,q1,q2,R⟩
 have hmm:∀ m∈mks K,∃ k,m=nmS c1 k:=fun m hm=>by
  rw [hmks] at hm
  exact Kj (List.mem_of_mem_take hm)
 refine ⟨h1,h4,?_,fun kd m=>?_,fun kd m=>?_,?_,fun m hm=>?_,fun m hm=>?_,fun kd m r hr=>?_,fun kd m r hr x hx=>?_,fun D kd R e r hr x hx=>?_⟩
 ·rw [hnames]
  exact Jq c0 (by omega)
 ·have:kd.1∈nms c0 K.length:=by rw [<- hnames];exact List.mem_map.mpr ⟨kd,m,rfl⟩
  obtain ⟨k,e⟩:=Kj this
  rw [e]
  exact HD c0 k
 ·obtain ⟨a,_,q1,q2,_⟩:=hat kd m
  exact ⟨q1,q2⟩
 ·rw [hmks]
  exact (Jq c1 (Nat.le_refl 12)).sublist (List.take_sublist _ _)
 ·obtain ⟨k,e⟩:=hmm m hm
  rw [e]
  exact HD c1 k
 ·obtain ⟨k,e⟩:=hmm m hm
  rw [e]
  exact NG c1 k
 ·obtain ⟨a,_,_,_,R⟩:=hat kd m
  exact R.two r hr
 ·obtain ⟨a,_,_,_,R⟩:=hat kd m
  rw [hnames]
  exact R.prt r hr x hx
 ·obtain ⟨_,_,_,Rw⟩:=h.at_ D.length kd (by rw [e];simp)
  have:=Rw.fst r hr x hx
  rw [<- hnames,e,List.map_append] at this
  rwa [List.take_left' (by simp)] at this
theorem NM {C:Addr} {p:Nat} {Fn:FS->Out Rv} {fa:FS->Out (List Rv)} {fs fs1 τ:FS} {rs:List Rv} {o:FO} (ha:fa fs=.ok rs fs1) (hp:rs.length+1=p) (hl:CN fs1 (rs.map Bx)=[]) (hf:Fn (some (.bor (.ins C [] [])) :: De fs1 (rs.map Bx))=.ok (.t .non) (some (.bor o) :: τ)):Ar (Gz C p Fn) fa fs=.ok (.nw o) fs1:=by
 unfold Ar
 rw [ha]
 show Gz C p Fn rs fs1=_
 unfold Gz
 rw [if_pos ⟨by rw [hl];exact List.nodup_nil,hp⟩,hf]
 dsimp only
 rw [AM hl]
theorem OT {xs ys:List T} {fs:FS} (h:xs.length+ys.length<=big):AL (.t (.lst xs)) (.t (.lst ys)) fs=.ok (.nw (.lst (xs++ys))) fs:=by
 have:Mw (.t (.lst xs)) (.t (.lst ys)) fs=.ok (.nw (.lst (xs++ys))) fs:=by
  simp only [Mw,exL]
  exact if_pos h
 show (match Mw (.t (.lst xs)) (.t (.lst ys)) fs with | .bad=>_ | o=>o)=_
 rw [this]
theorem Nl {f g:FS->Out Bool} {fs:FS} {r:Out Bool} (h:f fs=.ok false fs) (e:g fs=r):orT f g fs=r:=by
 unfold orT
 rw [h]
 exact e
theorem Ut {fs:FS} {i:Nat} {o:FO} {x:Option Sl} (e:fs[i]?=some x) (h:Fre x):HZ i (.nw o) fs=some (fs.set i (some (.own o))):=by
 unfold HZ
 rw [e]
 cases x with
 | none=>rfl
 | some s=>cases s with
  | val t=>rfl
  | own o=>rfl
  | bor o=>exact h.elim
theorem Hy {n:Nat} {g:FS->SO} {args τ:FS} {t:T} (h:g (args++List.replicate n none)=.ret (.t t) τ):Dk n g args=.ok (.t t) (τ.take args.length):=by
 unfold Dk
 rw [h]
theorem Tz (m:Nat) (a b:Str):eqT m (.str a) (.str b)=some (a == b):=by cases m <;> rfl
theorem EI {f:FS->Out Rv} {fs:FS} {ts:List T} (h:f fs=.ok (.t (.lst ts)) fs):itU f fs=.ok ts fs:=by
 unfold itU
 rw [h]
 rfl
theorem Sg {n:Nat} {g:FS->SO} {args τ:FS} {o:FO} (h:g (args++List.replicate n none)=.ret (.nw o) τ):Dk n g args=.ok (.nw o) (τ.take args.length):=by
 unfold Dk
 rw [h]
theorem Ib {g h:FS->SO} {fs fs':FS} {c:Str} (e:g fs=.exc c fs'):AN g h fs=.exc c fs':=by unfold AN;rw [e]
theorem Ie {n:Nat} {g:FS->SO} {args τ:FS} {c:Str} (h:g (args++List.replicate n none)=.exc c τ):Dk n g args=.exc c (τ.take args.length):=by
 unfold Dk
 rw [h]
theorem GV {f:FS->Out Rv} {fs fs1:FS} {c:Str} (h:f fs=.exc c fs1):AZ f fs=.exc c fs1:=by unfold AZ;rw [h];rfl
def V0 (K:Kd):List (Str×Str×List Str):=K.flatMap fun kd=>kd.2.map fun r=>(kd.1,r)
theorem NJ (K:Kd):Bf K=(V0 K).map fun q=>Dd q.2:=by
 rw [Gy]
 unfold V0 allR
 rw [List.map_flatMap,List.map_flatMap]
 simp only [List.map_map]
 rfl
theorem N8 (K:Kd):EJ K=(V0 K).map fun q=>T.str q.1:=by
 unfold EJ Mr V0
 rw [List.map_flatMap]
 simp only [List.map_map]
 rfl
theorem Q7 {K:Kd} (W:Well K) {kd:Str×List (Str×List Str)} {r:Str×List Str} (m:kd∈K) (m2:r∈kd.2):EO (Bf K) (EJ K) (.inr r.1:Key)=some (.str kd.1):=by
 have h:(Bf K).Nodup:=EX W.mnd
 rw [NJ] at h
 rw [NJ,N8]
 exact ER (f:=fun q:Str×Str×List Str=>Dd q.2) (g:=fun q=>T.str q.1) (x:=(kd.1,r)) (List.mem_flatMap.mpr ⟨kd,m,List.mem_map.mpr ⟨r,m2,rfl⟩⟩) h
abbrev stT (C:Addr) (K:Kd):T:=Ax C K (EJ K)
section
variable {C:Addr} {K:Kd} {hs:List T}
theorem Ow {i:Nat} {fs:FS} (h:fs[i]?=some (vl (Ax C K hs))):JA C "home_by_maker" (Aa i) fs=.ok (.t (.dK (Bf K) hs)) fs:=by
 unfold JA
 rw [Ab h]
 obtain ⟨hAB,hAH,hBH⟩:=FX
 unfold Ax
 generalize ("makers_by_kind":Str)=A at *
 generalize ("parts_by_maker":Str)=B at *
 generalize ("home_by_maker":Str)=H at *
 simp [Out.bnd,Out.bind,Vl,Pl,okT,Ne.symm hAH,Ne.symm hBH]
theorem Sb (W:Well K) {kd:Str×List (Str×List Str)} {r:Str×List Str} (m:kd∈K) (m2:r∈kd.2):Bk C [vl (stT C K),vl (.str r.1)]=.ok (.t (.str kd.1)) [vl (stT C K),vl (.str r.1)]:=by
 have all:Cn C [vl (stT C K),vl (.str r.1)]=.ret (.t (.str kd.1)) [vl (stT C K),vl (.str r.1)]:=by
  unfold Cn
  refine sq (CS (Cw (b:=false) (Al (AI (Ab (t:=.str r.1) rfl)) (Ow rfl) ?_)) rfl) ?_
  ·rw [Ua,Q7 W m m2]
   rfl
  exact CQ (Al (Ow rfl) (AI (Ab (t:=.str r.1) rfl)) (Tb (Q7 W m m2)))
 exact (Hy (n:=0) (g:=Cn C) (args:=[vl (stT C K),vl (.str r.1)]) all).trans rfl
theorem Ig {c:Str} {i:Nat} {z:Str} {fs:FS} (h:fs[i]?=some (vl (.str z))) (hz:DN z=true):Hz c (Aa i) fs=.exc c fs:=by
 unfold Hz
 rw [Ab h]
 show (if DN z=true then SO.exc c fs else .bad)=_
 rw [if_pos hz]
theorem N5 {k:Str} {xs:List Str} (h:k∉xs):(.inr k:Key)∉xs.map fun m=>(.inr m:Key):=fun m=>by
 obtain ⟨x,hm,e⟩:=List.mem_map.mp m
 exact h (Sum.inr.inj e▸hm)
theorem SY {k:Str} (h:k∉K.map (·.1)):(.inr k:Key)∉BM K:=by
 have:=N5 h
 rwa [List.map_map] at this
theorem NL {z:Str} (hz:DN z=true) (h:z∉K.map (·.1)):AO C [vl (Ax C K hs),vl (.str z)]=.exc "NoKind" [vl (Ax C K hs),vl (.str z)]:=by
 have c:asB (Ag (EK true) (fz (Aa 1)) (JA C "makers_by_kind" (Aa 0))) [vl (Ax C K hs),vl (.str z)]=.ok true [vl (Ax C K hs),vl (.str z)] :=
  Cw (Al (AI (Ab (t:=.str z) rfl)) (Ls rfl) (by rw [Ua,DB (SY h)];rfl))
 exact (Ie (n:=0) (g:=BE C) (args:=[vl (Ax C K hs),vl (.str z)]) (Ib (IB c (Ig rfl hz)))).trans rfl
theorem P6 {z:Str} (hz:DN z=true) (h:z∉mks K):AX C [vl (Ax C K hs),vl (.str z)]=.exc "NoMaker" [vl (Ax C K hs),vl (.str z)]:=by
 have c:asB (Ag (EK true) (fz (Aa 1)) (JA C "parts_by_maker" (Aa 0))) [vl (Ax C K hs),vl (.str z)]=.ok true [vl (Ax C K hs),vl (.str z)] :=
  Cw (Al (AI (Ab (t:=.str z) rfl)) (Ou rfl) (by rw [Ua,DB (show _∉Bf K from N5 h)];rfl))
 exact (Ie (n:=0) (g:=BV C) (args:=[vl (Ax C K hs),vl (.str z)]) (Ib (IB c (Ig rfl hz)))).trans rfl
theorem S9 {z:Str} (hz:DN z=true) (h:z∉mks K):Bk C [vl (Ax C K hs),vl (.str z)]=.exc "NoMaker" [vl (Ax C K hs),vl (.str z)]:=by
 have c:asB (Ag (EK true) (fz (Aa 1)) (JA C "home_by_maker" (Aa 0))) [vl (Ax C K hs),vl (.str z)]=.ok true [vl (Ax C K hs),vl (.str z)] :=
  Cw (Al (AI (Ab (t:=.str z) rfl)) (Ow rfl) (by rw [Ua,DB (show _∉Bf K from N5 h)];rfl))
 exact (Ie (n:=0) (g:=Cn C) (args:=[vl (Ax C K hs),vl (.str z)]) (Ib (IB c (Ig rfl hz)))).trans rfl
end
section
variable {C:Addr} {K:Kd} {hs:List T} {mt:Str} {p:Nat} {Fn fo:FS->Out Rv} {fa:FS->Out (List Rv)} {rs:List Rv} {fs τ:FS}
theorem Fl {r:Out Rv} (ho:fo fs=.ok (.t (Ax C K hs)) fs) (hi:Hm C mt fs (.t (Ax C K hs))=true) (ha:fa fs=.ok rs fs) (e:Ay p Fn (.t (Ax C K hs) :: rs) fs=r):Ew C mt p Fn fo fa fs=r:=by
 unfold Ew
 rw [ho]
 show (if Hm C mt fs (.t (Ax C K hs))=true then _ else _)=_
 rw [if_pos hi,ha]
 exact e
theorem OX {o:FO} (hp:rs.length=p) (hn:CN fs (rs.map Bx)=[]) (hf:Fn (De fs (rs.map Bx))=.ok (.nw o) τ):Ay p Fn rs fs=.ok (.nw o) fs:=by
 have hb:D3 (rs.map Bx) τ fs=some fs:=AM hn
 unfold Ay
 rw [if_pos hp]
 unfold FF
 rw [if_pos (by rw [hn];exact List.nodup_nil),hf]
 simp only [hb]
theorem LL {t:T} (hp:rs.length=p) (hn:CN fs (rs.map Bx)=[]) (hf:Fn (De fs (rs.map Bx))=.ok (.t t) τ):Ay p Fn rs fs=.ok (.t t) fs:=by
 have hb:D3 (rs.map Bx) τ fs=some fs:=AM hn
 unfold Ay
 rw [if_pos hp]
 unfold FF
 rw [if_pos (by rw [hn];exact List.nodup_nil),hf]
 simp only [hb]
theorem Fv {c:Str} (hp:rs.length=p) (hn:CN fs (rs.map Bx)=[]) (hf:Fn (De fs (rs.map Bx))=.exc c τ):Ay p Fn rs fs=.exc c fs:=by
 have hb:D3 (rs.map Bx) τ fs=some fs:=AM hn
 unfold Ay
 rw [if_pos hp]
 unfold FF
 rw [if_pos (by rw [hn];exact List.nodup_nil),hf]
 simp only [hb]
theorem Qi {o:FO} (ho:fo fs=.ok (.t (Ax C K hs)) fs) (hi:Hm C mt fs (.t (Ax C K hs))=true) (hf:Fn [vl (Ax C K hs)]=.ok (.nw o) τ):Qh C mt 1 Fn fo Ak fs=.ok (.nw o) fs:=by
 have hn:CN fs ([Rv.t (Ax C K hs)].map Bx)=[]:=rfl
 have hb:D3 ([Rv.t (Ax C K hs)].map Bx) τ fs=some fs:=AM hn
 unfold Qh
 rw [ho]
 show (if Hm C mt fs (.t (Ax C K hs))=true then _ else _)=_
 rw [if_pos hi]
 show FL.OY 1 Fn [.t (Ax C K hs)] fs=_
 unfold FL.OY
 rw [if_pos (show [Rv.t (Ax C K hs)].length=1 from rfl)]
 unfold FL.QV
 rw [if_pos (by rw [hn];exact List.nodup_nil)]
 rw [show Fn (De fs ([Rv.t (Ax C K hs)].map Bx))=.ok (.nw o) τ from hf]
 simp only [hb]
end
theorem Ll:(["makers_by_kind","parts_by_maker","home_by_maker"]:List Str).any (· == ("home":Str))=false:=by decide +kernel
section
variable {c:Str}
theorem N3 {d:Str} {fs:FS} (hc:xrs.contains c=true) (g0:Aa 0 fs=.ok (.t (.exn c)) fs):isX xrs Du d (Aa 0) fs=.ok (.t (.bl (Du c d))) fs:=by
 unfold isX
 rw [g0]
 show (if xrs.contains c=true then okT (.bl (Du c d)) fs else .bad)=_
 rw [if_pos hc]
 rfl
theorem KH {fa fb:FS->Out Rv} {fs:FS} {ts us:List T} (h1:fa fs=.ok (.t (.lst ts)) fs) (h2:fb fs=.ok (.t (.lst us)) fs) (h:ts.length+us.length<=big):fz (Ag AL fa fb) fs=.ok (.t (.lst (ts++us))) fs :=
 Kt (o:=.lst (ts++us)) (Al h1 h2 (OT h))
abbrev bl3 (c a b d:Str):List T:=[.bl (Du c a),.bl (Du c b),.bl (Du c d)]
theorem HX {a b d:Str} {fs:FS} (hc:xrs.contains c=true) (g0:Aa 0 fs=.ok (.t (.exn c)) fs) :
  AG Bq (Ac (isX xrs Du a (Aa 0)) (Ac (isX xrs Du b (Aa 0)) (Ac (isX xrs Du d (Aa 0)) Ak))) fs=.ok (.t (.lst (bl3 c a b d))) fs :=
 Ds (ts:=bl3 c a b d) (AW (N3 hc g0) (AW (N3 hc g0) (AW (N3 hc g0) Bu))) rfl (show 3<=big by decide)
def KG (c:Str):List T:=bl3 c "BadName" "Twice" "BadCount"++bl3 c "NoKind" "Groundless" "NoMaker"++bl3 c "NoName" "NoFunction" "NotLess"++bl3 c "BadKind" "TooLong" "NoPlace"++bl3 c "NotShown" "NoSaying" "BadText"
theorem MD (hc:xrs.contains c=true):CC [vl (.exn c)]=.ok (.nw (.lst (KG c))) [vl (.exn c)]:=by
 have nx:∀ (a b d:Str) (ts:List T),ts.length<=100->AY 1 (fz (Ag AL (Aa 1) (AG Bq (Ac (isX xrs Du a (Aa 0)) (Ac (isX xrs Du b (Aa 0)) (Ac (isX xrs Du d (Aa 0)) Ak)))))) [vl (.exn c),vl (.lst ts)]=.nx [vl (.exn c),vl (.lst (ts++bl3 c a b d))]:=fun a b d ts hl =>
  BL (KH (Ab rfl) (HX hc (Ab rfl)) (by show _<=1000000;simp;omega)) rfl
 have s1:AY 1 (AG Bq (Ac (isX xrs Du "BadName" (Aa 0)) (Ac (isX xrs Du "Twice" (Aa 0)) (Ac (isX xrs Du "BadCount" (Aa 0)) Ak)))) [vl (.exn c),none]=.nx [vl (.exn c),vl (.lst (bl3 c "BadName" "Twice" "BadCount"))] :=
  BL (HX hc (Ab rfl)) rfl
 have r:∀ ts:List T,ts.length<=100->Ag AL (Aa 1) (AG Bq (Ac (isX xrs Du "NotShown" (Aa 0)) (Ac (isX xrs Du "NoSaying" (Aa 0)) (Ac (isX xrs Du "BadText" (Aa 0)) Ak)))) [vl (.exn c),vl (.lst ts)]=.ok (.nw (.lst (ts++bl3 c "NotShown" "NoSaying" "BadText"))) [vl (.exn c),vl (.lst ts)]:=fun ts hl =>
  Al (Ab rfl) (HX hc (Ab rfl)) (OT (by show _<=1000000;simp;omega))
 exact (Sg (n:=1) (g:=Fy) (args:=[vl (.exn c)]) (sq s1 (sq (nx _ _ _ _ (by simp)) (sq (nx _ _ _ _ (by simp)) (sq (nx _ _ _ _ (by simp)) (CQ (r _ (by simp)))))))).trans rfl
theorem LI (hc:xrs.contains c=true):fz (Ar (Ay 1 CC) (Ah (fz (Aa 0)) Ak)) [vl (.exn c)]=.ok (.t (.lst (KG c))) [vl (.exn c)] :=
 Kt (o:=.lst (KG c)) (E8 (rs:=[.t (.exn c)]) (Av (AI (Ab rfl)) Bu) rfl (by rw [show CN _ _=[] from rfl];exact List.nodup_nil) (MD hc) (AM rfl))
theorem Lc {g:Rv->List Rv->FS->Out Rv} {f:FS->Out Rv} {fs:FS} {ts:List T} {r:Out Rv} (h:f fs=.ok (.t (.lst ts)) fs) (e:g (.t (.lst ts)) [.t (.bl true)] fs=r):AV g f (Ac (gc (.bl true)) Ak) fs=r:=by
 unfold AV
 rw [h]
 exact e
theorem KS {n:Int} (hc:xrs.contains c=true) (h1:VY (.t (.lst (KG c))) [.t (.bl true)] [vl (.exn c)]=.ok (.t (.int ((1:Nat):Int))) [vl (.exn c)]) (h2:VX (.t (.lst (KG c))) [.t (.bl true)] [vl (.exn c)]=.ok (.t (.int n)) [vl (.exn c)]):Dr [vl (.exn c)]=.ok (.t (.int n)) [vl (.exn c)]:=by
 have v:isV xrs (Aa 0) [vl (.exn c)]=.ok (.t (.bl true)) [vl (.exn c)]:=by
  unfold isV
  show (if xrs.contains c=true then okT (.bl true) [vl (.exn c)] else .bad)=_
  rw [if_pos hc]
  rfl
 have ne:gEq true (.t (.int ((1:Nat):Int))) (.t (.int 1)) [vl (.exn c)]=.ok (.t (.bl false)) [vl (.exn c)]:=rfl
 exact (Hy (n:=0) (g:=IL) (args:=[vl (.exn c)]) (sq (CS (Nl (Dx (DM v)) (Cw (Al (AI (Lc (LI hc) h1)) Ba ne))) rfl) (CQ (Lc (LI hc) h2)))).trans rfl
theorem Uh {s z:T} {w:Int} {g:FS->SO} (hc:xrs.contains c=true) (hx:Du c "SayError"=true) (hg:g [vl s,iv w,vl z,vl .non,none]=.exc c [vl s,iv w,vl z,vl .non,none]) :
  T7 4 (fun c=>xrs.contains c && Du c "SayError") g (AY 3 (fz (Aa 4))) [vl s,iv w,vl z,vl .non,none]=.nx [vl s,iv w,vl z,vl (.exn c),none]:=by
 have hc:(fun c=>xrs.contains c && Du c "SayError") c=true:=by simp only [hc,hx];rfl
 unfold T7
 rw [hg]
 show T8 4 (fun c=>xrs.contains c && Du c "SayError") (AY 3 (fz (Aa 4))) c _=_
 unfold T8
 rw [if_pos hc]
 rfl
end
abbrev bF:T:=.bl false
abbrev bT:T:=.bl true
theorem LH:KG "NoKind"=[bF,bF,bF,bT,bF,bF,bF,bF,bF,bF,bF,bF,bF,bF,bF]:=by
 have:(["BadName","Twice","BadCount","NoKind","Groundless","NoMaker","NoName","NoFunction","NotLess","BadKind","TooLong","NoPlace","NotShown","NoSaying","BadText"]:List Str).map (Du "NoKind")=[false,false,false,true,false,false,false,false,false,false,false,false,false,false,false]:=by decide +kernel
 exact congrArg (List.map T.bl) this
theorem JH:KG "NoMaker"=[bF,bF,bF,bF,bF,bT,bF,bF,bF,bF,bF,bF,bF,bF,bF]:=by
 have:(["BadName","Twice","BadCount","NoKind","Groundless","NoMaker","NoName","NoFunction","NotLess","BadKind","TooLong","NoPlace","NotShown","NoSaying","BadText"]:List Str).map (Du "NoMaker")=[false,false,false,false,false,true,false,false,false,false,false,false,false,false,false]:=by decide +kernel
 exact congrArg (List.map T.bl) this
theorem LV:Dr [vl (.exn "NoKind")]=.ok (.t (.int 3)) [vl (.exn "NoKind")]:=KS (by decide +kernel) (by rw [LH];rfl) (by rw [LH];rfl)
theorem Gf:Dr [vl (.exn "NoMaker")]=.ok (.t (.int 5)) [vl (.exn "NoMaker")]:=KS (by decide +kernel) (by rw [JH];rfl) (by rw [JH];rfl)
section
variable {C:Addr} {K:Kd} {hs:List T} {z:Str}
theorem Fh {c:Str} {w n:Int} (hc:xrs.contains c=true) (hx:Du c "SayError"=true) (hw:Dr [vl (.exn c)]=.ok (.t (.int n)) [vl (.exn c)]) (hn:n=3/\w=0∨n=5/\(w=1∨w=2))
  (hg:(ifS (asB (Ag (gEq false) (Aa 1) (gc (.int 0)))) (AZ (Ew C "makers" 2 (AO C) (fz (Aa 0)) (Ah (fz (Aa 2)) Ak))) (ifS (asB (Ag (gEq false) (Aa 1) (gc (.int 1)))) (AZ (Ew C "parts" 2 (AX C) (fz (Aa 0)) (Ah (fz (Aa 2)) Ak))) (AZ (Ew C "home" 2 (Bk C) (fz (Aa 0)) (Ah (fz (Aa 2)) Ak))))) [vl (Ax C K hs),iv w,vl (.str z),vl .non,none]=.exc c [vl (Ax C K hs),iv w,vl (.str z),vl .non,none]) :
  A4 C [vl (Ax C K hs),iv w,vl (.str z)]=.ok (.t (.bl true)) [vl (Ax C K hs),iv w,vl (.str z)]:=by
 have s3:AY 3 (gc .non) [vl (Ax C K hs),iv w,vl (.str z),none,none]=.nx [vl (Ax C K hs),iv w,vl (.str z),vl .non,none]:=BL Ba rfl
 have l3:AG Bq (Ac (gc (.int 3)) (Ac (gc (.int 5)) (Ac (gc (.int 5)) Ak))) [vl (Ax C K hs),iv w,vl (.str z),vl (.exn c),none]=.ok (.t (.lst [.int 3,.int 5,.int 5])) [vl (Ax C K hs),iv w,vl (.str z),vl (.exn c),none]:=rfl
 have ix:Ag Bn (AG Bq (Ac (gc (.int 3)) (Ac (gc (.int 5)) (Ac (gc (.int 5)) Ak)))) (fz (Aa 1)) [vl (Ax C K hs),iv w,vl (.str z),vl (.exn c),none]=.ok (.t (.int n)) [vl (Ax C K hs),iv w,vl (.str z),vl (.exn c),none]:=by
  refine Al l3 (AI (Ab (t:=.int w) rfl)) ?_
  rcases hn with ⟨rfl,rfl⟩ | ⟨rfl,rfl | rfl⟩ <;> rfl
 have eqq:gEq false (.t (.int n)) (.t (.int n)) [vl (Ax C K hs),iv w,vl (.str z),vl (.exn c),none]=.ok (.t (.bl true)) [vl (Ax C K hs),iv w,vl (.str z),vl (.exn c),none]:=by
  rcases hn with ⟨rfl,_⟩ | ⟨rfl,_⟩ <;> rfl
 exact (Hy (n:=2) (g:=Fx C) (args:=[vl (Ax C K hs),iv w,vl (.str z)]) (sq s3 (sq (Uh hc hx hg) (CQ (Al (E2 (IJ (rs:=[.t (.exn c)]) (Av (AI (Ab rfl)) Bu) rfl rfl hw)) ix eqq))))).trans rfl
theorem PM (hz:DN z=true) (h:z∉K.map (·.1)):A4 C [vl (Ax C K hs),iv 0,vl (.str z)]=.ok (.t (.bl true)) [vl (Ax C K hs),iv 0,vl (.str z)] :=
 Fh (by decide +kernel) (by decide +kernel) LV (.inl ⟨rfl,rfl⟩) (IB rfl (GV (Fl (rs:=[.t (.str z)]) (AI (Ab rfl)) (DP Ea.2.1) (Av (AI (Ab rfl)) Bu) (Fv rfl rfl (NL hz h)))))
theorem PL (hz:DN z=true) (h:z∉mks K):A4 C [vl (Ax C K hs),iv 1,vl (.str z)]=.ok (.t (.bl true)) [vl (Ax C K hs),iv 1,vl (.str z)] :=
 Fh (by decide +kernel) (by decide +kernel) Gf (.inr ⟨rfl,.inl rfl⟩) (CS rfl (IB rfl (GV (Fl (rs:=[.t (.str z)]) (AI (Ab rfl)) (DP Ea.2.2) (Av (AI (Ab rfl)) Bu) (Fv rfl rfl (P6 hz h))))))
theorem PK (hz:DN z=true) (h:z∉mks K):A4 C [vl (Ax C K hs),iv 2,vl (.str z)]=.ok (.t (.bl true)) [vl (Ax C K hs),iv 2,vl (.str z)] :=
 Fh (by decide +kernel) (by decide +kernel) Gf (.inr ⟨rfl,.inr rfl⟩) (CS rfl (CS rfl (GV (Fl (rs:=[.t (.str z)]) (AI (Ab rfl)) (DP Ll) (Av (AI (Ab rfl)) Bu) (Fv rfl rfl (S9 hz h))))))
end
theorem MR:Hf "str" "str"=true/\Hf "list" "list"=true/\Hf "tuple" "tuple"=true:=by decide
theorem S8 {i:Nat} {z:Str} {fs:FS} (h:fs[i]?=some (vl (.str z))):isF "str" (Aa i) fs=.ok (.t (.bl true)) fs:=by
 unfold isF
 rw [Ab h]
 show Out.ok (Rv.t (.bl (Hf "str" "str"))) _=_
 rw [MR.1]
theorem HL {fe:FS->Out Rv} {ft:FS->Out Bool}:∀ (zs:List Str) (x:Option Sl) (acc:List T),Fre x->(∀ z,ft [vl (.str z)]=.ok false [vl (.str z)])->∃ y,Fre y/\D2 (tgN 0) ft fe (zs.map T.str) [x] acc=some (acc,[y])
 | [],x,acc,hx,_=>⟨x,hx,rfl⟩
 | z :: zs,x,acc,hx,h=>by
  obtain ⟨y,hy,e⟩:=HL (fe:=fe) zs (vl (.str z)) acc Be h
  refine ⟨y,hy,?_⟩
  rw [List.map_cons,D2]
  rw [show tgN 0 (T.str z) [x]=some [vl (.str z)] by unfold tgN;exact Bd rfl hx]
  simp only [h z]
  exact e
theorem Pr (zs:List Str):C2 [vl (.lst (zs.map T.str))]=.ok (.t (.bl true)) [vl (.lst (zs.map T.str))]:=by
 have e1:isG "list" (Aa 0) [vl (.lst (zs.map T.str))]=.ok (.t (.bl true)) [vl (.lst (zs.map T.str))]:=by
  show Out.ok (Rv.t (.bl (Hf "list" "list"))) _=_
  rw [MR.2.1]
 obtain ⟨y,_,e⟩:=HL (fe:=fz (Aa 0)) (ft:=Eu (EH (isF "str" (Aa 0)))) zs none [] Aw fun z=>Dx (DM (S8 rfl))
 have c1:BK false [none] (itU (fz (Aa 0))) (tgN 0) (Eu (EH (isF "str" (Aa 0)))) (fz (Aa 0)) [vl (.lst (zs.map T.str))]=.ok (.t (.lst [])) [vl (.lst (zs.map T.str))] :=
  DT (ts:=zs.map T.str) rfl ⟨by rw [show CN _ (List.map _ [none])=[] from rfl];exact List.nodup_nil,by rfl⟩ e (AM rfl)
 have en:AG Bq Ak [vl (.lst (zs.map T.str))]=.ok (.t (.lst [])) [vl (.lst (zs.map T.str))]:=rfl
 exact (Hy (n:=0) (g:=IM) (args:=[vl (.lst (zs.map T.str))]) (CQ (VM e1 (Al c1 en rfl)))).trans rfl
theorem Po {j:Nat} {f:FS->Out Rv} {fs τ:FS} {o:FO} {t:T} (h:fs[j]?=some (some (.own o))) (e:f ((List.replicate fs.length none).set j (some (.val (toT o))))=.ok (.t t) τ) (ha:JR t=true):HY j f fs=.ok (.t t) fs:=by
 unfold HY
 rw [h]
 simp only [e,ha,if_true]
theorem SW {i:Nat} {fs:FS} {zs:List Str} (h:fs[i]?=some (some (.own (.lst (zs.map T.str))))) (hi:i < fs.length):EH (fz (HY i (Ar (Ay 1 C2) (Ah (Aa i) Ak)))) fs=.ok true fs:=by
 refine DM (E2 (Po h (t:=.bl true) (τ:=(List.replicate fs.length none).set i (some (.val (.lst (zs.map T.str))))) ?_ rfl))
 have g:Aa i ((List.replicate fs.length none).set i (some (.val (.lst (zs.map T.str)))))=.ok (.t (.lst (zs.map T.str))) _:=Ab (List.getElem?_set_self (by simpa using hi))
 exact IJ (rs:=[.t (.lst (zs.map T.str))]) (Av g Bu) rfl rfl (Pr zs)
theorem C4 {f:T->T->Option Bool}:∀ (ts:List T),(∀ t∈ts,f t t=some true)->Ly f ts ts=some true
 | [],_=>rfl
 | t :: ts,h=>by
  show (f t t).bind (fun b=>(Ly f ts ts).map (b && ·))=_
  rw [h t (by simp),C4 ts fun x m=>h x (List.mem_cons_of_mem _ m)]
  rfl
theorem LA {zs:List Str} {fs:FS}:eqB true (zs.map T.str) (zs.map T.str) fs=.ok (.t (.bl false)) fs:=by
 unfold eqB
 rw [C4 _ fun t m=>by
  obtain ⟨z,_,rfl⟩:=List.mem_map.mp m
  rw [Tz]
  simp]
 simp
 rfl
theorem neL {i:Nat} {f:FS->Out Rv} {fs:FS} {zs:List Str} (h:fs[i]?=some (some (.own (.lst (zs.map T.str))))) (e:f fs=.ok (.t (.lst (zs.map T.str))) fs):asB (Ag (Mv true) (Aa i) f) fs=.ok false fs:=by
 refine Cw (QY (Er h) e ?_)
 show (match C6 fs (.rf i) with | some xs=>(match C6 fs (.t (.lst (zs.map T.str))) with | some ys=>eqB true xs ys fs | none=>.bad) | none=>.bad)=_
 rw [Ra h]
 exact LA
theorem MO {i:Nat} {f:FS->Out Rv} {fs:FS} (zs:List Str) (h:fs[i]?=some (some (.own (.lst (zs.map T.str))))) (e:f fs=.ok (.t (.lst (zs.map T.str))) fs):orT (Eu (EH (fz (HY i (Ar (Ay 1 C2) (Ah (Aa i) Ak)))))) (asB (Ag (Mv true) (Aa i) f)) fs=.ok false fs :=
 Nl (Dx (SW h (List.getElem?_eq_some_iff.mp h).1)) (neL h e)
theorem neT {fa fb:FS->Out Rv} {fs:FS} {zs:List Str} (h1:fa fs=.ok (.t (.tup (zs.map T.str))) fs) (h2:fb fs=.ok (.t (.tup (zs.map T.str))) fs):asB (Ag (Mv true) fa fb) fs=.ok false fs:=Cw (Al h1 h2 LA)
theorem QP {i:Nat} {fs fs':FS} {ts:List T} (h:fs[i]?=some (some (.own (.lst ts)))) (e:fs.set i (some (.own (.lst [])))=fs'):AZ (AV E1 (Aa i) Ak) fs=.nx fs':=by
 have h2:FL.A1 fs i=some (.lst ts):=VT h
 have e2:AV E1 (Aa i) Ak fs=.ok (.t .non) fs':=by
  unfold AV
  rw [Er h]
  show (if (C6 fs (.rf i)).isSome=true then (Ak fs).bind fun rs fs=>E1 (.rf i) rs fs else .bad)=_
  rw [Ra h]
  show E1 (.rf i) [] fs=_
  unfold E1
  simp only [h2]
  unfold FL.putAt
  rw [h]
  simp only [Sl.put,e]
 exact GU e2
theorem Ox {i:Nat} {K:Kd} {fs:FS} (h:fs[i]?=some (vl (.lst (K.map An)))) (hl:K.length<=1000):BK false [none,none] (itU (fz (Aa i))) (A7 2 (Ai (tgN 0) (Ai (tgN 1) A5))) DY (fz (Aa 0)) fs=.ok (.t (.lst ((K.map (·.1)).map T.str))) fs:=by
 obtain ⟨x,y,_,_,e⟩:=Ec (fe:=fz (Aa 0)) (f:=fun kd:Str×List (Str×List Str)=>.str kd.1) (g:=fun kd=>.lst (kd.2.map BG)) (h:=fun kd=>.str kd.1) (rest:=[]) K none none [] Aw Aw (fun kd _=>AI (Ab rfl)) (by show 0+_<=1000000;omega)
 have:=DT (src:=[none,none]) (fi:=itU (fz (Aa i))) (fs:=fs) (ts:=K.map An) (EI (AI (Ab h))) ⟨by rw [show CN fs (List.map _ [none,none])=[] from rfl];exact List.nodup_nil,by rfl⟩ e (AM rfl)
 rw [this,List.nil_append,List.map_map]
 rfl
theorem RF {i:Nat} {rows:List (Str×List Str)} {fs:FS} (h:fs[i]?=some (vl (.lst (rows.map BG)))) (hl:rows.length<=1000):BK false [none,none] (itU (fz (Aa i))) (A7 2 (Ai (tgN 0) (Ai (tgN 1) A5))) DY (fz (Aa 0)) fs=.ok (.t (.lst ((rows.map (·.1)).map T.str))) fs:=by
 obtain ⟨x,y,_,_,e⟩:=Ec (fe:=fz (Aa 0)) (f:=fun r:Str×List Str=>.str r.1) (g:=fun r=>.tup (r.2.map T.str)) (h:=fun r=>.str r.1) (rest:=[]) rows none none [] Aw Aw (fun kd _=>AI (Ab rfl)) (by show 0+_<=1000000;omega)
 have:=DT (src:=[none,none]) (fi:=itU (fz (Aa i))) (fs:=fs) (ts:=rows.map BG) (EI (AI (Ab h))) ⟨by rw [show CN fs (List.map _ [none,none])=[] from rfl];exact List.nodup_nil,by rfl⟩ e (AM rfl)
 rw [this,List.nil_append,List.map_map]
 rfl
theorem XA {z:Str} {fa fb:FS->Out Rv} {fs:FS} (h1:fa fs=.ok (.t (.str z)) fs) (h2:fb fs=.ok (.t (.str z)) fs):asB (Ag (gEq true) fa fb) fs=.ok false fs:=by
 refine Cw (Al h1 h2 ?_)
 show (if L8 (V.str z) (V.str z)=true then okT (.bl (if true=true then !decide (V.str z=V.str z) else _)) fs else .bad)=_
 rw [if_pos (show L8 (V.str z) (V.str z)=true from rfl)]
 simp
 rfl
abbrev ol (zs:List Str):Option Sl:=some (.own (.lst (zs.map T.str)))
abbrev rS (s kn nm:T) (x3 x4 x5 x6 x7 x8 x9 x10 x11:Option Sl):FS:=[vl s,vl kn,vl nm,x3,x4,x5,x6,x7,x8,x9,x10,x11]
abbrev rB1 (C:Addr):FS->SO:=(AN (AY 10 (fz (Ew C "parts" 2 (AX C) (fz (Aa 0)) (Ah (fz (Aa 8)) Ak))))
  (AN (ifS (orT (Eu (EH (isF "tuple" (Aa 10)))) (orT (asB (Ag (Mv true) (Aa 10) (Aa 9))) (asB (Ag (gEq true) (fz (Ew C "home" 2 (Bk C) (fz (Aa 0)) (Ah (fz (Aa 8)) Ak))) (Aa 5))))) (retS (gc (.bl false))) nxS)
  (AZ (AV D1 (Aa 4) (Ac (fz (Aa 8)) Ak)))))
abbrev rB2 (C:Addr):FS->SO:=(AN (AY 7 (Ew C "makers" 2 (AO C) (fz (Aa 0)) (Ah (fz (Aa 5)) Ak)))
  (AN (ifS (orT (Eu (EH (fz (HY 7 (Ar (Ay 1 C2) (Ah (Aa 7) Ak)))))) (asB (Ag (Mv true) (Aa 7) (BK false [none,none] (itU (fz (Aa 6))) (A7 2 (Ai (tgN 0) (Ai (tgN 1) A5))) DY (fz (Aa 0)))))) (retS (gc (.bl false))) nxS)
  (AN (AZ (AV E1 (Aa 7) Ak))
  (Ex (itU (fz (Aa 6))) (A7 2 (Ai (tgN 8) (Ai (tgN 9) A5))) (rB1 C)))))
abbrev rB3 (C:Addr):FS->SO:=(AN (ifS (LP (asB (Ag (EK true) (fz (Aa 11)) (BK false [none,none] (itU (fz (Aa 1))) (A7 2 (Ai (tgN 0) (Ai (tgN 1) A5))) DY (fz (Aa 0))))) (Eu (EH (fz (Ar (Ay 3 (A4 C)) (Ah (fz (Aa 0)) (Ah (gc (.int 0)) (Ah (fz (Aa 11)) Ak)))))))) (retS (gc (.bl false))) nxS)
  (ifS (LP (asB (Ag (EK true) (fz (Aa 11)) (Aa 4))) (Eu (LP (EH (fz (Ar (Ay 3 (A4 C)) (Ah (fz (Aa 0)) (Ah (gc (.int 1)) (Ah (fz (Aa 11)) Ak)))))) (EH (fz (Ar (Ay 3 (A4 C)) (Ah (fz (Aa 0)) (Ah (gc (.int 2)) (Ah (fz (Aa 11)) Ak))))))))) (retS (gc (.bl false))) nxS))
section
variable {C:Addr} {K:Kd} {kn nm:T}
theorem JS (W:Well K) {kd:Str×List (Str×List Str)} (m:kd∈K) {x3 x7 x11:Option Sl}:∀ (R:List (Str×List Str)) (ms:List Str) (x8 x9 x10:Option Sl),Fre x8->Fre x9->Fre x10->(∀ r∈R,r∈kd.2)->ms.length+R.length<=1000 ->
  ∃ y8 y9 y10,Fre y8/\Fre y9/\Fre y10/\FY (A7 2 (Ai (tgN 8) (Ai (tgN 9) A5))) (rB1 C) (R.map BG) (rS (stT C K) kn nm x3 (ol ms) (vl (.str kd.1)) (vl (.lst (kd.2.map BG))) x7 x8 x9 x10 x11)=.nx (rS (stT C K) kn nm x3 (ol (ms++R.map (·.1))) (vl (.str kd.1)) (vl (.lst (kd.2.map BG))) x7 y8 y9 y10 x11)
 | [],ms,x8,x9,x10,f8,f9,f10,_,_=>⟨x8,x9,x10,f8,f9,f10,by simp [FY]⟩
 | r :: R,ms,x8,x9,x10,f8,f9,f10,hR,hl=>by
  have m2:=hR r (by simp)
  rw [List.length_cons] at hl
  obtain ⟨y8,y9,y10,g8,g9,g10,e⟩:=JS W m (x3:=x3) (x7:=x7) (x11:=x11) R (ms++[r.1]) (vl (.str r.1)) (vl (.tup (r.2.map T.str))) (vl (.tup (r.2.map T.str))) Be Be Be (fun r m=>hR r (List.mem_cons_of_mem _ m)) (by rw [List.length_append];simp;omega)
  refine ⟨y8,y9,y10,g8,g9,g10,?_⟩
  rw [List.map_cons,Lr (t:=BG r) (fs1:=rS (stT C K) kn nm x3 (ol ms) (vl (.str kd.1)) (vl (.lst (kd.2.map BG))) x7 (vl (.str r.1)) (vl (.tup (r.2.map T.str))) x10 x11) (fs2:=rS (stT C K) kn nm x3 (ol (ms++[r.1])) (vl (.str kd.1)) (vl (.lst (kd.2.map BG))) x7 (vl (.str r.1)) (vl (.tup (r.2.map T.str))) (vl (.tup (r.2.map T.str))) x11) (EA (by unfold tgN;exact Bd rfl f8) (by unfold tgN;exact Bd rfl f9)) ?_,e]
  ·simp
  ·refine sq (BL (E2 (Fl (rs:=[.t (.str r.1)]) (AI (Ab rfl)) (DP Ea.2.2) (Av (AI (Ab rfl)) Bu) (LL rfl rfl (Px W m m2)))) (Bd rfl f10)) ?_
   refine sq (CS (Nl (Dx (b:=true) (DM ?_)) (Nl (neT (Ab rfl) (Ab rfl)) (XA (E2 (Fl (rs:=[.t (.str r.1)]) (AI (Ab rfl)) (DP Ll) (Av (AI (Ab rfl)) Bu) (LL rfl rfl (Sb W m m2)))) (Ab rfl)))) rfl) ?_
   ·show Out.ok (Rv.t (.bl (Hf "tuple" "tuple"))) _=_
    rw [MR.2.2]
   ·exact JY (i:=4) rfl (AI (Ab (t:=.str r.1) rfl)) (by rw [List.length_map];show _ < 1000000;omega) (by simp)
theorem W4 (W:Well K) {kd:Str×List (Str×List Str)} (m:kd∈K) {x3 x4 x7 x8 x9 x10 x11:Option Sl} :
 Ew C "makers" 2 (AO C) (fz (Aa 0)) (Ah (fz (Aa 5)) Ak) (rS (stT C K) kn nm x3 x4 (vl (.str kd.1)) (vl (.lst (kd.2.map BG))) x7 x8 x9 x10 x11)=.ok (.nw (.lst ((kd.2.map (·.1)).map T.str))) (rS (stT C K) kn nm x3 x4 (vl (.str kd.1)) (vl (.lst (kd.2.map BG))) x7 x8 x9 x10 x11) :=
 Fl (K:=K) (hs:=EJ K) (rs:=[.t (.str kd.1)]) (AI (Ab rfl)) (DP Ea.2.1) (Av (AI (Ab rfl)) Bu) (OX rfl rfl (MS W m))
theorem W3 {kd:Str×List (Str×List Str)} {x3 x4 x7 x8 x9 x10 x11:Option Sl} (f7:Fre x7):HZ 7 (.nw (.lst ((kd.2.map (·.1)).map T.str))) (rS (stT C K) kn nm x3 x4 (vl (.str kd.1)) (vl (.lst (kd.2.map BG))) x7 x8 x9 x10 x11)=some (rS (stT C K) kn nm x3 x4 (vl (.str kd.1)) (vl (.lst (kd.2.map BG))) (ol (kd.2.map (·.1))) x8 x9 x10 x11):=Ut rfl f7
theorem JU (W:Well K) {x3 x11:Option Sl}:∀ (R:Kd) (ms:List Str) (x5 x6 x7 x8 x9 x10:Option Sl),Fre x5->Fre x6->Fre x7->Fre x8->Fre x9->Fre x10->(∀ kd∈R,kd∈K)->ms.length+4 * R.length<=1000 ->
  ∃ y5 y6 y7 y8 y9 y10,FY (A7 2 (Ai (tgN 5) (Ai (tgN 6) A5))) (rB2 C) (R.map An) (rS (stT C K) kn nm x3 (ol ms) x5 x6 x7 x8 x9 x10 x11)=.nx (rS (stT C K) kn nm x3 (ol (ms++mks R)) y5 y6 y7 y8 y9 y10 x11)
 | [],ms,x5,x6,x7,x8,x9,x10,_,_,_,_,_,_,_,_=>⟨x5,x6,x7,x8,x9,x10,by simp [FY,mks]⟩
 | kd :: R,ms,x5,x6,x7,x8,x9,x10,f5,f6,f7,f8,f9,f10,hR,hl=>by
  have m:=hR kd (by simp)
  have h4:=(W.rw kd m).2
  rw [List.length_cons] at hl
  obtain ⟨y8,y9,y10,g8,g9,g10,e1⟩:=JS (C:=C) (kn:=kn) (nm:=nm) W m (x3:=x3) (x7:=ol []) (x11:=x11) kd.2 ms x8 x9 x10 f8 f9 f10 (fun _ h=>h) (by omega)
  obtain ⟨z5,z6,z7,z8,z9,z10,e2⟩:=JU W (x3:=x3) (x11:=x11) R (ms++kd.2.map (·.1)) (vl (.str kd.1)) (vl (.lst (kd.2.map BG))) (ol []) y8 y9 y10 Be Be True.intro g8 g9 g10 (fun r m=>hR r (List.mem_cons_of_mem _ m)) (by rw [List.length_append,List.length_map];omega)
  refine ⟨z5,z6,z7,z8,z9,z10,?_⟩
  rw [List.map_cons,Lr (t:=An kd) (fs1:=rS (stT C K) kn nm x3 (ol ms) (vl (.str kd.1)) (vl (.lst (kd.2.map BG))) x7 x8 x9 x10 x11) (EA (by unfold tgN;exact Bd rfl f5) (by unfold tgN;exact Bd rfl f6)) (?_:rB2 C _=.nx (rS (stT C K) kn nm x3 (ol (ms++kd.2.map (·.1))) (vl (.str kd.1)) (vl (.lst (kd.2.map BG))) (ol []) y8 y9 y10 x11)),e2]
  ·rw [Eo,List.append_assoc]
  ·refine sq (Ia (W4 W m) (W3 f7)) ?_
   refine sq (CS (MO (kd.2.map (·.1)) rfl (RF (i:=6) rfl (by omega))) rfl) ?_
   refine sq (fs':=rS (stT C K) kn nm x3 (ol ms) (vl (.str kd.1)) (vl (.lst (kd.2.map BG))) (ol []) x8 x9 x10 x11) (QP (i:=7) rfl rfl) ?_
   unfold Ex
   rw [EI (AI (Ab (t:=.lst (kd.2.map BG)) rfl))]
   exact e1
theorem JT {x3 x5 x6 x7 x8 x9 x10:Option Sl} (hK:K.length<=4):∀ (zs:List Str) (x11:Option Sl),Fre x11->(∀ z∈zs,DN z=true) ->
  ∃ y11,FY (tgN 11) (rB3 C) (zs.map T.str) (rS (stT C K) (.lst (K.map An)) nm x3 (ol (mks K)) x5 x6 x7 x8 x9 x10 x11)=.nx (rS (stT C K) (.lst (K.map An)) nm x3 (ol (mks K)) x5 x6 x7 x8 x9 x10 y11)
 | [],x11,_,_=>⟨x11,rfl⟩
 | z :: zs,x11,f11,hz=>by
  obtain ⟨y11,e⟩:=JT hK (x3:=x3) (x5:=x5) (x6:=x6) (x7:=x7) (x8:=x8) (x9:=x9) (x10:=x10) zs (vl (.str z)) Be (fun z m=>hz z (List.mem_cons_of_mem _ m))
  refine ⟨y11,?_⟩
  have h0:=hz z (by simp)
  rw [List.map_cons,Lr (fs1:=rS (stT C K) (.lst (K.map An)) nm x3 (ol (mks K)) x5 x6 x7 x8 x9 x10 (vl (.str z))) (by unfold tgN;exact Bd rfl f11) (?_:rB3 C _=.nx (rS (stT C K) (.lst (K.map An)) nm x3 (ol (mks K)) x5 x6 x7 x8 x9 x10 (vl (.str z)))),e]
  have r:∀ {w:Int},A4 C [vl (stT C K),iv w,vl (.str z)]=.ok (.t (.bl true)) [vl (stT C K),iv w,vl (.str z)]->EH (fz (Ar (Ay 3 (A4 C)) (Ah (fz (Aa 0)) (Ah (gc (.int w)) (Ah (fz (Aa 11)) Ak))))) (rS (stT C K) (.lst (K.map An)) nm x3 (ol (mks K)) x5 x6 x7 x8 x9 x10 (vl (.str z)))=.ok true (rS (stT C K) (.lst (K.map An)) nm x3 (ol (mks K)) x5 x6 x7 x8 x9 x10 (vl (.str z))):=fun {w} h =>
   DM (E2 (IJ (rs:=[.t (stT C K),.t (.int w),.t (.str z)]) (Av (AI (Ab rfl)) (Av Ba (Av (AI (Ab rfl)) Bu))) rfl rfl h))
  refine sq (CS ?_ rfl) (CS ?_ rfl)
  ·have c:asB (Ag (EK true) (fz (Aa 11)) (BK false [none,none] (itU (fz (Aa 1))) (A7 2 (Ai (tgN 0) (Ai (tgN 1) A5))) DY (fz (Aa 0)))) (rS (stT C K) (.lst (K.map An)) nm x3 (ol (mks K)) x5 x6 x7 x8 x9 x10 (vl (.str z)))=.ok (!decide (z∈K.map (·.1))) _:=Cw (Al (AI (Ab (t:=.str z) rfl)) (Ox (i:=1) rfl (by omega)) RC)
   by_cases h:z∈K.map (·.1)
   ·rw [decide_eq_true h] at c
    unfold LP
    rw [c]
    rfl
   ·rw [decide_eq_false h] at c
    exact KN c (Dx (r (PM h0 h)))
  ·have c:asB (Ag (EK true) (fz (Aa 11)) (Aa 4)) (rS (stT C K) (.lst (K.map An)) nm x3 (ol (mks K)) x5 x6 x7 x8 x9 x10 (vl (.str z)))=.ok (!decide (z∈mks K)) _:=Cw (IK (AI (Ab (t:=.str z) rfl)) (Er rfl) (Rz (xs:=mks K) (VT rfl)))
   by_cases h:z∈mks K
   ·rw [decide_eq_true h] at c
    unfold LP
    rw [c]
    rfl
   ·rw [decide_eq_false h] at c
    exact KN c (Dx (KN (r (PL h0 h)) (r (PK h0 h))))
theorem KZ (W:Well K) {zs:List Str} (hz:∀ z∈zs,DN z=true):C3 C [vl (stT C K),vl (.lst (K.map An)),vl (.lst (zs.map T.str))]=.ok (.t (.bl true)) [vl (stT C K),vl (.lst (K.map An)),vl (.lst (zs.map T.str))]:=by
 have h4:=W.hi
 obtain ⟨x5,x6,x7,x8,x9,x10,e1⟩:=JU (C:=C) (kn:=.lst (K.map An)) (nm:=.lst (zs.map T.str)) W (x3:=ol (K.map (·.1)++[("z":Str)])) (x11:=none) K [] none none none none none none Aw Aw Aw Aw Aw Aw (fun _ h=>h) (by simp;omega)
 rw [List.nil_append] at e1
 obtain ⟨x11,e2⟩:=JT (C:=C) (K:=K) (nm:=.lst (zs.map T.str)) (x3:=ol (K.map (·.1)++[("z":Str)])) (x5:=x5) (x6:=x6) (x7:=x7) (x8:=x8) (x9:=x9) (x10:=x10) h4 zs none Aw hz
 refine (Hy (n:=9) (g:=IP C) (args:=[vl (stT C K),vl (.lst (K.map An)),vl (.lst (zs.map T.str))]) (τ:=rS (stT C K) (.lst (K.map An)) (.lst (zs.map T.str)) (ol (K.map (·.1)++[("z":Str)])) (ol (mks K)) x5 x6 x7 x8 x9 x10 x11) ?_).trans rfl
 refine sq (fs':=rS (stT C K) (.lst (K.map An)) (.lst (zs.map T.str)) (ol (K.map (·.1))) none none none none none none none none) (Ia (Qi (AI (Ab rfl)) (DP Ea.1) Py) rfl) ?_
 refine sq (CS (MO (K.map (·.1)) rfl (Ox (i:=1) rfl (by omega))) rfl) ?_
 refine sq (fs':=rS (stT C K) (.lst (K.map An)) (.lst (zs.map T.str)) (ol (K.map (·.1)++[("z":Str)])) none none none none none none none none) (JY (i:=3) rfl Ba (by rw [List.length_map,List.length_map];show _ < 1000000;omega) (by simp)) ?_
 refine sq (fs':=rS (stT C K) (.lst (K.map An)) (.lst (zs.map T.str)) (ol (K.map (·.1)++[("z":Str)])) (ol []) none none none none none none none) rfl ?_
 refine sq (fs':=rS (stT C K) (.lst (K.map An)) (.lst (zs.map T.str)) (ol (K.map (·.1)++[("z":Str)])) (ol (mks K)) x5 x6 x7 x8 x9 x10 none) ?_ ?_
 ·unfold Ex
  rw [EI (AI (Ab (t:=.lst (K.map An)) rfl))]
  exact e1
 refine sq (fs':=rS (stT C K) (.lst (K.map An)) (.lst (zs.map T.str)) (ol (K.map (·.1)++[("z":Str)])) (ol (mks K)) x5 x6 x7 x8 x9 x10 x11) ?_ (CQ Ba)
 unfold Ex
 rw [EI (AI (Ab (t:=.lst (zs.map T.str)) rfl))]
 exact e2
end
theorem La (c:Int) (k:Nat):DN (nmS c k)=true:=by
 have h1:=NG c k
 unfold DN
 rw [decide_eq_true (show (nmS c k).length<=1000 by omega),Bool.true_and,List.all_eq_true]
 intro x hx
 have:=Nm.E5 c k x (by simpa [nmS] using hx)
 exact decide_eq_true (Nat.lt_of_le_of_lt this.2 (by decide))
theorem P9 {c0 c1:Int} {K:Kd} (h:KOk (nms c0 K.length) (nms c1 12) K):∀ z∈K.map (·.1),DN z=true:=by
 intro z m
 obtain ⟨kd,hm,rfl⟩:=List.mem_map.mp m
 obtain ⟨a,ha,e⟩:=List.getElem_of_mem hm
 have:=(h.at_ a kd (by rw [List.getElem?_eq_getElem ha,e])).1
 rw [this,SM _ ha]
 exact La _ _
theorem Nq {c0 c1:Int} {K:Kd} (h:KOk (nms c0 K.length) (nms c1 12) K) (hu:used K<=12):∀ z∈mks K,DN z=true:=by
 intro z m
 have hl:(nms c1 12).length=12:=by simp [nms]
 have e:=(Iu h (by rw [hl];exact hu) K.length (Nat.le_refl _)).1
 rw [List.take_length] at e
 rw [e] at m
 obtain ⟨k,rfl⟩:=Kj (List.mem_of_mem_take m)
 exact La _ _
def Dy (kd:Str×List (Str×List Str)):FO:=.tpl [.val (.str kd.1),.lst (kd.2.map BG)]
theorem IZ:∀ K:Kd,Pg (K.map Dy)=K.map An
 | []=>rfl
 | kd :: K=>by
  show toT (Dy kd) :: Pg (K.map Dy)=_
  rw [IZ K]
  rfl
theorem MP {K:Kd} (W:Well K):(K.map Dy).all J3=true:=by
 rw [List.all_eq_true]
 intro o m
 obtain ⟨kd,hm,rfl⟩:=List.mem_map.mp m
 obtain ⟨r,rs,e⟩:∃ r rs,kd.2=r :: rs:=by
  have:=(W.rw kd hm).1
  cases h:kd.2 with
  | nil=>rw [h] at this;simp at this
  | cons a b=>exact ⟨a,b,rfl⟩
 unfold Dy
 rw [e]
 rfl
theorem JB (zs:List Str):(zs.map T.str).all JR=true:=by
 rw [List.all_eq_true]
 intro t m
 obtain ⟨z,_,rfl⟩:=List.mem_map.mp m
 rfl
theorem My {C:Addr} {K:Kd}:Kv (Hu C K (EJ K))=true:=by
 have h1:(DG K).all IH=true:=by
  rw [List.all_eq_true]
  intro t m
  obtain ⟨kd,_,rfl⟩:=List.mem_map.mp m
  exact JB _
 have h2:(He K).all IH=true:=by
  rw [K5,List.all_eq_true]
  intro t m
  obtain ⟨r,_,rfl⟩:=List.mem_map.mp m
  exact JB _
 have h3:(EJ K).all IH=true:=by
  rw [N8,List.all_eq_true]
  intro t m
  obtain ⟨r,_,rfl⟩:=List.mem_map.mp m
  rfl
 show (EL (.dK (BM K) (DG K)) && (EL (.dK (Bf K) (He K)) && (EL (.dK (Bf K) (EJ K)) && true)))=true
 rw [show EL (.dK (BM K) (DG K))=true from h1,show EL (.dK (Bf K) (He K))=true from h2,show EL (.dK (Bf K) (EJ K))=true from h3]
 rfl
theorem HM {fe:FS->Out Rv}:∀ (K:Kd) (x y:Option Sl) (acc:List FO),Fre x->Fre y->(∀ kd:Str×List (Str×List Str),fe [vl (.str kd.1),vl (.lst (kd.2.map BG))]=.ok (.nw (Dy kd)) [vl (.str kd.1),vl (.lst (kd.2.map BG))])->acc.length+K.length<=1000 ->
  ∃ x' y',Ee (A7 2 (Ai (tgN 0) (Ai (tgN 1) A5))) fe (K.map An) [x,y] acc=some (acc++K.map Dy,[x',y'])
 | [],x,y,acc,_,_,_,_=>⟨x,y,by simp [Ee]⟩
 | kd :: K,x,y,acc,fx,fy,he,hl=>by
  rw [List.length_cons] at hl
  obtain ⟨x',y',e⟩:=HM (fe:=fe) K (vl (.str kd.1)) (vl (.lst (kd.2.map BG))) (acc++[Dy kd]) Be Be he (by rw [List.length_append];simp;omega)
  refine ⟨x',y',?_⟩
  have g:A7 2 (Ai (tgN 0) (Ai (tgN 1) A5)) (An kd) [x,y]=some [vl (.str kd.1),vl (.lst (kd.2.map BG))]:=EA (by unfold tgN;exact Bd rfl fx) (by unfold tgN;exact Bd rfl fy)
  rw [List.map_cons,Ee]
  simp only [g,he]
  rw [if_pos (show acc.length < big by show _ < 1000000;omega),e]
  simp
theorem QN {src:List (Option Nat)} {fi:FS->Out (List T)} {gt:T->FS->Option FS} {fe:FS->Out Rv} {fs fs' τ:FS} {ts:List T} {os:List FO} (h1:fi fs=.ok ts fs) (h2:(CN fs (src.map fun o=>o.elim Ini.no Ini.slot)).Nodup/\(src.all fun o=>o.elim true fun j=>decide (j < fs.length))=true)
  (h3:Ee gt fe ts (De fs (src.map fun o=>o.elim Ini.no Ini.slot)) []=some (os,τ)) (h4:D3 (src.map fun o=>o.elim Ini.no Ini.slot) τ fs=some fs'):KD src fi gt fe fs=.ok (.nw (.los os)) fs':=by
 unfold KD
 rw [h1]
 simp only [Out.bind]
 rw [if_pos h2,h3]
 simp only [h4]
theorem Oa {i:Nat} {K:Kd} {fs:FS} (h:fs[i]?=some (vl (.lst (K.map An)))) (hl:K.length<=4):KD [none,none] (itU (fz (Aa i))) (A7 2 (Ai (tgN 0) (Ai (tgN 1) A5))) (Uj (Ah (fz (Aa 0)) (Ah (Ar GJ (Ac (Aa 1) Ak)) Ak))) fs=.ok (.nw (.los (K.map Dy))) fs:=by
 obtain ⟨x,y,e⟩:=HM (fe:=Uj (Ah (fz (Aa 0)) (Ah (Ar GJ (Ac (Aa 1) Ak)) Ak))) K none none [] Aw Aw (fun kd=>rfl) (by simp;omega)
 rw [List.nil_append] at e
 exact QN (EI (AI (Ab h))) ⟨by rw [show CN fs (List.map _ [none,none])=[] from rfl];exact List.nodup_nil,by rfl⟩ e (AM rfl)
theorem R6 {j:Nat} {f:FS->Out Rv} {fs τ:FS} {K:Kd} {ro:FO} (W:Well K) (h:fs[j]?=some (some (.own (.los (K.map Dy))))) (e:f ((List.replicate fs.length none).set j (vl (.lst (K.map An))))=.ok (.nw ro) τ) (hf:Kv ro=true):L4 j f fs=.ok (.nw ro) fs:=by
 have ht:=MP W
 have et:toT (.los (K.map Dy))=.lst (K.map An):=by
  show T.lst (Pg (K.map Dy))=_
  rw [IZ]
 obtain ⟨k0,K',rfl⟩:∃ k0 K',K=k0 :: K':=by
  have:=W.lo
  cases K with
  | nil=>simp at this
  | cons a b=>exact ⟨a,b,rfl⟩
 have e':f ((List.replicate fs.length none).set j (some (.val (toT (.los (Dy k0 :: K'.map Dy))))))=.ok (.nw ro) τ:=by
  rw [<- List.map_cons,et]
  exact e
 unfold L4
 rw [h]
 simp only [List.map_cons]
 rw [if_pos (show (Dy k0 :: K'.map Dy).all J3=true from ht),e']
 simp only [hf,if_true]
theorem R4 {K:Kd} {fs:FS} {ih ia ib:Nat} (W:Well K) (h:fs[ih]?=some (some (.own (.los (K.map Dy))))) (n1:ih≠ia) (n2:ih≠ib) (n3:ia≠ib) (l1:ia < fs.length) (l2:ib < fs.length):LU ih ia ib fs=.nx ((((fs.set ih none).set ia none).set ib none).set ih (some (.own (.lst [])))):=by
 unfold LU
 rw [h]
 simp only
 rw [if_pos ⟨MP W,n1,n2,n3,l1,l2⟩]
theorem NF {K:Kd} (W:Well K) {s kn x5 x6 x7 x8:Option Sl}:∀ (R:Kd) (zs:List Str) (x3 x4:Option Sl),Fre x3->Fre x4->(∀ kd∈R,kd∈K)->zs.length+4 * R.length<=1000 ->
  ∃ y3 y4,Fre y3/\Fre y4/\FY (A7 2 (Ai (tgN 3) (Ai (tgN 4) A5))) (AY 2 (fz (Ag AL (Aa 2) (BK false [none,none] (itU (fz (Aa 4))) (A7 2 (Ai (tgN 0) (Ai (tgN 1) A5))) DY (fz (Aa 0)))))) (R.map An) [s,kn,vl (.lst (zs.map T.str)),x3,x4,x5,x6,x7,x8]=.nx [s,kn,vl (.lst ((zs++mks R).map T.str)),y3,y4,x5,x6,x7,x8]
 | [],zs,x3,x4,f3,f4,_,_=>⟨x3,x4,f3,f4,by simp [FY,mks]⟩
 | kd :: R,zs,x3,x4,f3,f4,hR,hl=>by
  have h4:=(W.rw kd (hR kd (by simp))).2
  rw [List.length_cons] at hl
  obtain ⟨y3,y4,g3,g4,e⟩:=NF W (s:=s) (kn:=kn) (x5:=x5) (x6:=x6) (x7:=x7) (x8:=x8) R (zs++kd.2.map (·.1)) (vl (.str kd.1)) (vl (.lst (kd.2.map BG))) Be Be (fun r m=>hR r (List.mem_cons_of_mem _ m)) (by rw [List.length_append,List.length_map];omega)
  refine ⟨y3,y4,g3,g4,?_⟩
  have c:=RF (i:=4) (rows:=kd.2) (fs:=[s,kn,vl (.lst (zs.map T.str)),vl (.str kd.1),vl (.lst (kd.2.map BG)),x5,x6,x7,x8]) rfl (by omega)
  have b:=KH (fa:=Aa 2) (ts:=zs.map T.str) (Ab rfl) c (by rw [List.length_map,List.length_map,List.length_map];show _<=1000000;omega)
  have t:AY 2 (fz (Ag AL (Aa 2) (BK false [none,none] (itU (fz (Aa 4))) (A7 2 (Ai (tgN 0) (Ai (tgN 1) A5))) DY (fz (Aa 0))))) [s,kn,vl (.lst (zs.map T.str)),vl (.str kd.1),vl (.lst (kd.2.map BG)),x5,x6,x7,x8]=.nx [s,kn,vl (.lst (zs.map T.str++(kd.2.map (·.1)).map T.str)),vl (.str kd.1),vl (.lst (kd.2.map BG)),x5,x6,x7,x8]:=BL b rfl
  rw [<- List.map_append] at t
  rw [List.map_cons,Lr (t:=An kd) (fs1:=[s,kn,vl (.lst (zs.map T.str)),vl (.str kd.1),vl (.lst (kd.2.map BG)),x5,x6,x7,x8]) (EA (by unfold tgN;exact Bd rfl f3) (by unfold tgN;exact Bd rfl f4)) t,e,Eo,List.append_assoc]
theorem Pj {K:Kd} (W:Well K) {kd:Str×List (Str×List Str)} {r:Str×List Str} (m:kd∈K) (m2:r∈kd.2):Well [(kd.1,[(r.1,[])])] where
 lo:=by simp
 hi:=by simp
 nd:=by simp
 nm:=fun k h=>by rw [List.mem_singleton.mp h];exact W.nm kd m
 rw:=fun k h=>by rw [List.mem_singleton.mp h];simp
 mnd:=by simp [mks]
 mnm:=fun x h=>by
  have:x=r.1:=by simpa [mks] using h
  rw [this]
  exact W.mnm _ (Kn m m2)
 mln:=fun x h=>by
  have:x=r.1:=by simpa [mks] using h
  rw [this]
  exact W.mln _ (Kn m m2)
 two:=fun k h q hq=>by
  rw [List.mem_singleton.mp h] at hq
  rw [List.mem_singleton.mp hq]
  simp
 prt:=fun k h q hq x hx=>by
  rw [List.mem_singleton.mp h] at hq
  rw [List.mem_singleton.mp hq] at hx
  simp at hx
 gr:=fun D k R e q hq x hx=>by
  have hk:k∈[(kd.1,[(r.1,([]:List Str))])]:=by rw [e];simp
  rw [List.mem_singleton.mp hk] at hq
  have:q=(r.1,[]):=by simpa using hq.symm
  rw [this] at hx
  simp at hx
abbrev gS (ns:List Int) (x1 x2 x3 x4 x5 x6 x7 x8:Option Sl):FS:=[vl (.scr (ns.map T.int)),x1,x2,x3,x4,x5,x6,x7,x8]
theorem Xh {fs:FS}:JZ (gc (.int 1)) fs=.ok (.t (.int (-1))) fs:=rfl
theorem LO {α:Type} {xs:List α} {v:α} (h:xs.getLast?=some v):atI xs (-1)=some v:=by
 have hl:0 < xs.length:=by
  cases xs with
  | nil=>simp at h
  | cons a b=>simp
 have e:ixN xs.length (-1)=some (xs.length - 1):=by
  unfold ixN
  rw [if_neg (by decide),if_pos (by omega)]
  congr 1
  omega
 unfold atI
 rw [e]
 rw [List.getLast?_eq_getElem?] at h
 exact h
theorem LC {fa:FS->Out (List Rv)} {fs:FS} {rs:List Rv} {ts:List T} (h:fa fs=.ok rs fs) (h2:KP rs=some ts) (h3:ts.length<=big):AG CH fa fs=.ok (.t (.tup ts)) fs:=by
 unfold AG
 rw [h]
 show (match KP rs with | some ts=>_ | none=>_)=_
 rw [h2]
 exact if_pos h3
theorem Vr {K:Kd} {fs:FS} {kd:Str×List (Str×List Str)} {r:Str×List Str} (h:fs[1]?=some (vl (.lst (K.map An)))) (hk:K.getLast?=some kd) (hr:kd.2.getLast?=some r) :
  AG Bq (Ac (AG CH (Ac (Ag Bn (Ag Bn (Aa 1) (JZ (gc (.int 1)))) (gc (.int 0))) (Ac (AG Bq (Ac (AG CH (Ac (Ag Bn (Ag Bn (Ag Bn (Ag Bn (Aa 1) (JZ (gc (.int 1)))) (gc (.int 1))) (JZ (gc (.int 1)))) (gc (.int 0))) (Ac (AG CH Ak) Ak))) Ak)) Ak))) Ak) fs=.ok (.t (.lst ([(kd.1,[(r.1,([]:List Str))])].map An))) fs:=by
 have e1:Ag Bn (Aa 1) (JZ (gc (.int 1))) fs=.ok (.t (An kd)) fs:=Al (Ab h) Xh (BH rfl (LO (by rw [List.getLast?_map,hk];rfl)))
 have e2:Ag Bn (Ag Bn (Aa 1) (JZ (gc (.int 1)))) (gc (.int 0)) fs=.ok (.t (.str kd.1)) fs:=Al e1 Ba rfl
 have e3:Ag Bn (Ag Bn (Aa 1) (JZ (gc (.int 1)))) (gc (.int 1)) fs=.ok (.t (.lst (kd.2.map BG))) fs:=Al e1 Ba rfl
 have e4:Ag Bn (Ag Bn (Ag Bn (Aa 1) (JZ (gc (.int 1)))) (gc (.int 1))) (JZ (gc (.int 1))) fs=.ok (.t (BG r)) fs:=Al e3 Xh (BH rfl (LO (by rw [List.getLast?_map,hr];rfl)))
 have e5:Ag Bn (Ag Bn (Ag Bn (Ag Bn (Aa 1) (JZ (gc (.int 1)))) (gc (.int 1))) (JZ (gc (.int 1)))) (gc (.int 0)) fs=.ok (.t (.str r.1)) fs:=Al e4 Ba rfl
 have t0:AG CH Ak fs=.ok (.t (.tup [])) fs:=rfl
 have t1:=LC (ts:=[.str r.1,.tup []]) (AW e5 (AW t0 Bu)) rfl (show 2<=big by decide)
 have t2:=Ds (ts:=[.tup [.str r.1,.tup []]]) (AW t1 Bu) rfl (show 1<=big by decide)
 have t3:=LC (ts:=[.str kd.1,.lst [.tup [.str r.1,.tup []]]]) (AW e2 (AW t2 Bu)) rfl (show 2<=big by decide)
 exact Ds (ts:=[.tup [.str kd.1,.lst [.tup [.str r.1,.tup []]]]]) (AW t3 Bu) rfl (show 1<=big by decide)
theorem good (cStock:Addr):∀ ns:List Int,ns.length<=63->L2.CD ns<=2 ^ 20->∃ fs,VB cStock [some (.val (.scr (ns.map T.int)))]=.ok (.t (.bl true)) fs:=by
 intro ns hlen hb
 have hbit:=fun i=>QX hb i
 obtain ⟨K,h1,h4,KO,hu,ek⟩:=kinds (ns:=ns) (hbit 0) (hbit 1)
 have W:=well h1 h4 KO hu
 have ei:=Ht (C:=cStock) W
 obtain ⟨kd,hk⟩:∃ kd,K.getLast?=some kd:=by
  cases h:K.getLast? with
  | none=>rw [List.getLast?_eq_none_iff.mp h] at h1;simp at h1
  | some kd=>exact ⟨kd,rfl⟩
 have mk:=List.mem_of_getLast? hk
 obtain ⟨r,hr⟩:∃ r,kd.2.getLast?=some r:=by
  have:=(W.rw kd mk).1
  cases h:kd.2.getLast? with
  | none=>rw [List.getLast?_eq_none_iff.mp h] at this;simp at this
  | some r=>exact ⟨r,rfl⟩
 have mr:=List.mem_of_getLast? hr
 have W2:=Pj W mk mr
 have ei2:=Ht (C:=cStock) W2
 have hz:∀ z∈K.map (·.1)++[("":Str),("abcdefghijklm":Str)]++mks K,DN z=true:=fun z m=>by
  rcases List.mem_append.mp m with m | m
  ·rcases List.mem_append.mp m with m | m
   ·exact P9 KO z m
   ·rcases List.mem_cons.mp m with rfl | m
    ·decide +kernel
    ·rw [List.mem_singleton.mp m]
     decide +kernel
  ·exact Nq KO hu z m
 obtain ⟨y3,y4,g3,g4,en⟩:=NF W (s:=vl (.scr (ns.map T.int))) (kn:=vl (.lst (K.map An))) (x5:=none) (x6:=none) (x7:=none) (x8:=none) K (K.map (·.1)++[("":Str),("abcdefghijklm":Str)]) none none Aw Aw (fun _ h=>h) (by simp;omega)
 generalize hzs:K.map (·.1)++[("":Str),("abcdefghijklm":Str)]++mks K=zs at en hz
 have r1:=KZ (C:=cStock) W hz
 have r2:=KZ (C:=cStock) W2 hz
 have s1:AY 1 (fz (Ar (Ay 1 DS) (Ah (fz (Aa 0)) Ak))) (gS ns none none none none none none none none)=.nx (gS ns (vl (.lst (K.map An))) none none none none none none none) :=
  D5 (Kt (E8 (Av (AI (Ab (t:=.scr (ns.map T.int)) rfl)) Bu) rfl (by rw [show CN _ _=[] from rfl];exact List.nodup_nil) ek (AM rfl))) rfl
 have l2:AG Bq (Ac (gc (.str ("":Str))) (Ac (gc (.str ("abcdefghijklm":Str))) Ak)) (gS ns (vl (.lst (K.map An))) none none none none none none none)=.ok (.t (.lst ([("":Str),("abcdefghijklm":Str)].map T.str))) (gS ns (vl (.lst (K.map An))) none none none none none none none) :=
  Ds (ts:=[.str ("":Str),.str ("abcdefghijklm":Str)]) (AW Ba (AW Ba Bu)) rfl (show 2<=big by decide)
 have s2:AY 2 (fz (Ag AL (BK false [none,none] (itU (fz (Aa 1))) (A7 2 (Ai (tgN 0) (Ai (tgN 1) A5))) DY (fz (Aa 0))) (AG Bq (Ac (gc (.str ("":Str))) (Ac (gc (.str ("abcdefghijklm":Str))) Ak))))) (gS ns (vl (.lst (K.map An))) none none none none none none none)=.nx (gS ns (vl (.lst (K.map An))) (vl (.lst ((K.map (·.1)).map T.str++[("":Str),("abcdefghijklm":Str)].map T.str))) none none none none none none) :=
  BL (KH (Ox (i:=1) rfl (by omega)) l2 (by rw [List.length_map,List.length_map];show K.length+2<=1000000;omega)) rfl
 rw [<- List.map_append] at s2
 have s3:Ex (itU (fz (Aa 1))) (A7 2 (Ai (tgN 3) (Ai (tgN 4) A5))) (AY 2 (fz (Ag AL (Aa 2) (BK false [none,none] (itU (fz (Aa 4))) (A7 2 (Ai (tgN 0) (Ai (tgN 1) A5))) DY (fz (Aa 0)))))) (gS ns (vl (.lst (K.map An))) (vl (.lst ((K.map (·.1)++[("":Str),("abcdefghijklm":Str)]).map T.str))) none none none none none none)=.nx (gS ns (vl (.lst (K.map An))) (vl (.lst (zs.map T.str))) y3 y4 none none none none):=by
  unfold Ex
  rw [EI (AI (Ab (t:=.lst (K.map An)) rfl))]
  exact en
 have s4:AY 5 (KD [none,none] (itU (fz (Aa 1))) (A7 2 (Ai (tgN 0) (Ai (tgN 1) A5))) (Uj (Ah (fz (Aa 0)) (Ah (Ar GJ (Ac (Aa 1) Ak)) Ak)))) (gS ns (vl (.lst (K.map An))) (vl (.lst (zs.map T.str))) y3 y4 none none none none)=.nx (gS ns (vl (.lst (K.map An))) (vl (.lst (zs.map T.str))) y3 y4 (some (.own (.los (K.map Dy)))) none none none) :=
  Ia (Oa rfl h4) rfl
 have t5:Ar (Gz cStock 2 (Bj cStock)) (Ah (Aa 5) Ak) [none,none,none,none,none,vl (.lst (K.map An)),none,none,none]=.ok (.nw (Hu cStock K (EJ K))) [none,none,none,none,none,vl (.lst (K.map An)),none,none,none] :=
  NM (rs:=[.t (.lst (K.map An))]) (Av (Ab rfl) Bu) rfl rfl ei
 have s5:AY 6 (fz (L4 5 (Ar (Gz cStock 2 (Bj cStock)) (Ah (Aa 5) Ak)))) (gS ns (vl (.lst (K.map An))) (vl (.lst (zs.map T.str))) y3 y4 (some (.own (.los (K.map Dy)))) none none none)=.nx (gS ns (vl (.lst (K.map An))) (vl (.lst (zs.map T.str))) y3 y4 (some (.own (.los (K.map Dy)))) (vl (stT cStock K)) none none) :=
  D5 (Kt (R6 W rfl t5 My)) rfl
 have s6:LU 5 3 4 (gS ns (vl (.lst (K.map An))) (vl (.lst (zs.map T.str))) y3 y4 (some (.own (.los (K.map Dy)))) (vl (stT cStock K)) none none)=.nx (gS ns (vl (.lst (K.map An))) (vl (.lst (zs.map T.str))) none none (some (.own (.lst []))) (vl (stT cStock K)) none none) :=
  R4 W rfl (by decide) (by decide) (by decide) (show 3 < 9 by decide) (show 4 < 9 by decide)
 have s7:=BL (i:=7) (Vr (K:=K) (fs:=gS ns (vl (.lst (K.map An))) (vl (.lst (zs.map T.str))) none none (some (.own (.lst []))) (vl (stT cStock K)) none none) rfl hk hr) (Bd rfl Aw)
 have s8:AY 8 (fz (Ar (Gz cStock 2 (Bj cStock)) (Ah (fz (Aa 7)) Ak))) (gS ns (vl (.lst (K.map An))) (vl (.lst (zs.map T.str))) none none (some (.own (.lst []))) (vl (stT cStock K)) (vl (.lst ([(kd.1,[(r.1,([]:List Str))])].map An))) none)=.nx (gS ns (vl (.lst (K.map An))) (vl (.lst (zs.map T.str))) none none (some (.own (.lst []))) (vl (stT cStock K)) (vl (.lst ([(kd.1,[(r.1,([]:List Str))])].map An))) (vl (stT cStock [(kd.1,[(r.1,([]:List Str))])]))) :=
  D5 (Kt (o:=Hu cStock [(kd.1,[(r.1,([]:List Str))])] (EJ [(kd.1,[(r.1,([]:List Str))])])) (NM (rs:=[.t (.lst ([(kd.1,[(r.1,([]:List Str))])].map An))]) (Av (AI (Ab rfl)) Bu) rfl rfl ei2)) rfl
 generalize [(kd.1,[(r.1,([]:List Str))])]=K2 at s7 s8 r2
 have q1:Ar (Ay 3 (C3 cStock)) (Ah (fz (Aa 6)) (Ah (fz (Aa 1)) (Ah (fz (Aa 2)) Ak))) (gS ns (vl (.lst (K.map An))) (vl (.lst (zs.map T.str))) none none (some (.own (.lst []))) (vl (stT cStock K)) (vl (.lst (K2.map An))) (vl (stT cStock K2)))=.ok (.t (.bl true)) (gS ns (vl (.lst (K.map An))) (vl (.lst (zs.map T.str))) none none (some (.own (.lst []))) (vl (stT cStock K)) (vl (.lst (K2.map An))) (vl (stT cStock K2))) :=
  IJ (rs:=[.t (stT cStock K),.t (.lst (K.map An)),.t (.lst (zs.map T.str))]) (Av (AI (Ab rfl)) (Av (AI (Ab rfl)) (Av (AI (Ab rfl)) Bu))) rfl rfl r1
 have q2:Ar (Ay 3 (C3 cStock)) (Ah (fz (Aa 8)) (Ah (fz (Aa 7)) (Ah (fz (Aa 2)) Ak))) (gS ns (vl (.lst (K.map An))) (vl (.lst (zs.map T.str))) none none (some (.own (.lst []))) (vl (stT cStock K)) (vl (.lst (K2.map An))) (vl (stT cStock K2)))=.ok (.t (.bl true)) (gS ns (vl (.lst (K.map An))) (vl (.lst (zs.map T.str))) none none (some (.own (.lst []))) (vl (stT cStock K)) (vl (.lst (K2.map An))) (vl (stT cStock K2))) :=
  IJ (rs:=[.t (stT cStock K2),.t (.lst (K2.map An)),.t (.lst (zs.map T.str))]) (Av (AI (Ab rfl)) (Av (AI (Ab rfl)) (Av (AI (Ab rfl)) Bu))) rfl rfl r2
 have c9:=Nl (Dx (DM (E2 q1))) (Dx (DM (E2 q2)))
 have all:QZ cStock (gS ns none none none none none none none none)=.ret (.t (.bl true)) (gS ns (vl (.lst (K.map An))) (vl (.lst (zs.map T.str))) none none (some (.own (.lst []))) (vl (stT cStock K)) (vl (.lst (K2.map An))) (vl (stT cStock K2))) :=
  sq s1 (sq s2 (sq s3 (sq s4 (sq s5 (sq s6 (sq s7 (sq s8 (sq (CS c9 rfl) (CQ q1)))))))))
 exact ⟨_,Hy (n:=8) (g:=QZ cStock) (args:=[vl (.scr (ns.map T.int))]) all⟩
theorem us1 {α:Type} {us:List α} (e:us.length=1):∃ a,us=[a]:=by
 match us,e with
 | [a],_=>exact ⟨a,rfl⟩
theorem us2 {α:Type} {us:List α} (e:us.length=2):∃ a b,us=[a,b]:=by
 match us,e with
 | [a,b],_=>exact ⟨a,b,rfl⟩
theorem us3 {α:Type} {us:List α} (e:us.length=3):∃ a b c,us=[a,b,c]:=by
 match us,e with
 | [a,b,c],_=>exact ⟨a,b,c,rfl⟩
theorem us4 {α:Type} {us:List α} (e:us.length=4):∃ a b c d,us=[a,b,c,d]:=by
 match us,e with
 | [a,b,c,d],_=>exact ⟨a,b,c,d,rfl⟩
theorem us5 {α:Type} {us:List α} (e:us.length=5):∃ a b c d e,us=[a,b,c,d,e]:=by
 match us,e with
 | [a,b,c,d,e],_=>exact ⟨a,b,c,d,e,rfl⟩
def Pz (K:Fg):Sp:=fun vs H Q _=>∃ (a:Addr) (ns:List Int),vs=[.ref a]/\SqL K H a (ns.map V.int)/\ns.length<=63/\CD ns<=2 ^ 20/\∀ H',Q (.bl true) H'
theorem K0 {K:Fg} {F:Wd} {H:Hp}:∀ (ns:List Int),Ad K F H (ns.map T.int) (ns.map V.int)
 | []=>by simp [Ad]
 | n :: ns=>by
  simp only [List.map_cons,Ad]
  exact ⟨_,_,rfl,by simp [AQ],K0 ns⟩
theorem U9 {K:Fg} {Fn:FS->Out Rv} (good:∀ ns:List Int,ns.length<=63->CD ns<=2 ^ 20->∃ fs,Fn [some (.val (.scr (ns.map T.int)))]=.ok (.t (.bl true)) fs):∀ vs H Q E,Pz K vs H Q E->spX K 1 Fn vs H Q E:=by
 intro vs H Q E ⟨a,ns,e,hs,hl,hb,k⟩
 subst e
 obtain ⟨fs,eg⟩:=good ns hl hb
 have key:∀ F:Wd,StL K F H a (ns.map V.int)->(∀ b,F b->H b≠none)->(∀ b,¬ F.p b)->spX K 1 Fn [.ref a] H Q E:=fun F st fd np=>by
  refine ⟨rfl,F,[some (.val (.scr (ns.map T.int)))],⟨[],?_,List.nodup_nil,(fun _ m=>nomatch m),fd,?_,fun b p=>(np b p).elim,fun b _ p=>np b p,(fun _ m=>nomatch m)⟩,?_⟩
  ·show Az K F H [some (.val (.scr (ns.map T.int)))] [some (.ref a)] []
   simp only [Az]
   exact ⟨_,_,rfl,by simp only [AQ];exact ⟨a,_,rfl,st,K0 ns⟩,by first | exact ⟨rfl,rfl⟩ | trivial⟩
  ·intro i o e
   cases i with
   | zero=>cases e
   | succ i=>simp at e
  ·rw [eg]
   intro F' H' u σ' _ q
   obtain ⟨L,L',_,⟨_,qu⟩,_⟩:=q
   have:u=.bl true:=qu
   subst this
   exact k H'
 rcases hs with hs | hs
 ·exact key ⟨fun b=>b=a,fun _=>False⟩ (.inl ⟨rfl,hs⟩) (fun b e=>by
   have e':b=a:=e
   subst e'
   rcases hs with z | ⟨o,z⟩ <;> (rw [z];exact fun q=>nomatch q)) fun _ p=>p
 ·exact key ⟨fun _=>False,fun _=>False⟩ (.inr hs) (fun b e=>e.elim) fun _ p=>p
theorem all_mk {l:PySem.W.OpenLaw} {w:World} {K:Fg} {h:Heap} {mg:Str->Option Value} {fa:Addr} {cStock:Addr} (X:K.In h) (G:h.Ns mainGlobals mg) (hfa:mg "law"=some (.ref fa))
  {f0 f1 f2 f3 f4 f5 f6 f7 f8 f9 f10 f11 f12 f13 f14 f15 f16 f17 f18 f19 f20:Addr} {od0 an0 od1 an1 od2 an2 od3 an3 od4 an4 od5 an5 od6 an6 od7 an7 od8 an8 od9 an9 od10 an10 od11 an11 od12 an12 od13 an13 od14 an14 od15 an15 od16 an16 od17 an17 od18 an18 od19 an19 od20 an20:Option Addr} {sl0 sl1 sl2 sl3 sl4 sl5 sl6 sl7 sl8 sl9 sl10 sl11 sl12 sl13 sl14 sl15 sl16 sl17 sl18 sl19 sl20:Array (Option Value)} {oc0 kV0 dc0 pm0 cd0 ct0 oc1 kV1 dc1 pm1 cd1 ct1 oc2 kV2 dc2 pm2 cd2 ct2 oc3 kV3 dc3 pm3 cd3 ct3 oc4 kV4 dc4 pm4 cd4 ct4 oc5 kV5 dc5 pm5 cd5 ct5 oc6 kV6 dc6 pm6 cd6 ct6 oc7 kV7 dc7 pm7 cd7 ct7 oc8 kV8 dc8 pm8 cd8 ct8 oc9 kV9 dc9 pm9 cd9 ct9 oc10 kV10 dc10 pm10 cd10 ct10 oc11 kV11 dc11 pm11 cd11 ct11 oc12 kV12 dc12 pm12 cd12 ct12 oc13 kV13 dc13 pm13 cd13 ct13 oc14 kV14 dc14 pm14 cd14 ct14 oc15 kV15 dc15 pm15 cd15 ct15 oc16 kV16 dc16 pm16 cd16 ct16 oc17 kV17 dc17 pm17 cd17 ct17 oc18 kV18 dc18 pm18 cd18 ct18 oc19 kV19 dc19 pm19 cd19 ct19 oc20 kV20 dc20 pm20 cd20 ct20:Value}
  {t_LETTERS:Tok}
  {t_MOST_KINDS:Tok}
  {t_MOST_LETTERS:Tok}
  {t_MOST_MAKERS:Tok}
  {t_MOST_PARTS:Tok}
  (aC_Stock:PySem.W.nsIn K mainGlobals "Stock"=some (some (.ref cStock)))
  (pg_Stock:PySem.W.plainGet K cStock Str.empty=true)
  (hd_Stock:PySem.W.hasDictIn K cStock=true)
  (po_Stock:PySem.W.plainOver K cStock=true)
  (sa_Stock:PySem.W.findIn K (.ref cStock) "__setattr__"=some (some (.builtin "object.__setattr__")))
  (mk_Stock:PySem.W.makesIn K cStock=true)
  (kc_Stock:PySem.W.keepIn K (.ref cStock)=true)
  (a0:PySem.W.nsIn K mainGlobals "_law_digits"=some (some (.ref f0)))
  (l0:K.lookup f0=some ⟨oc0,od0,.func (PySem.W.fnOf "_law_digits" "_law_digits" (A8 DE) (A0 DE) (Ao DE) .none kV0 dc0 pm0 an0 cd0 ct0),sl0⟩) (c0:PySem.W.codeIn K cd0 "_law_digits"=true) (k0:PySem.W.keepIn K (.ref f0)=true)
  (a1:PySem.W.nsIn K mainGlobals "_law_names"=some (some (.ref f1)))
  (l1:K.lookup f1=some ⟨oc1,od1,.func (PySem.W.fnOf "_law_names" "_law_names" (A8 Em) (A0 Em) (Ao Em) .none kV1 dc1 pm1 an1 cd1 ct1),sl1⟩) (c1:PySem.W.codeIn K cd1 "_law_names"=true) (k1:PySem.W.keepIn K (.ref f1)=true)
  (a2:PySem.W.nsIn K mainGlobals "_law_cell_at"=some (some (.ref f2)))
  (l2:K.lookup f2=some ⟨oc2,od2,.func (PySem.W.fnOf "_law_cell_at" "_law_cell_at" (A8 C9) (A0 C9) (Ao C9) .none kV2 dc2 pm2 an2 cd2 ct2),sl2⟩) (c2:PySem.W.codeIn K cd2 "_law_cell_at"=true) (k2:PySem.W.keepIn K (.ref f2)=true)
  (a3:PySem.W.nsIn K mainGlobals "_law_parts"=some (some (.ref f3)))
  (l3:K.lookup f3=some ⟨oc3,od3,.func (PySem.W.fnOf "_law_parts" "_law_parts" (A8 El) (A0 El) (Ao El) .none kV3 dc3 pm3 an3 cd3 ct3),sl3⟩) (c3:PySem.W.codeIn K cd3 "_law_parts"=true) (k3:PySem.W.keepIn K (.ref f3)=true)
  (a4:PySem.W.nsIn K mainGlobals "_law_kinds"=some (some (.ref f4)))
  (l4:K.lookup f4=some ⟨oc4,od4,.func (PySem.W.fnOf "_law_kinds" "_law_kinds" (A8 En) (A0 En) (Ao En) .none kV4 dc4 pm4 an4 cd4 ct4),sl4⟩) (c4:PySem.W.codeIn K cd4 "_law_kinds"=true) (k4:PySem.W.keepIn K (.ref f4)=true)
  (a5:PySem.W.nsIn K mainGlobals "is_name"=some (some (.ref f5)))
  (l5:K.lookup f5=some ⟨oc5,od5,.func (PySem.W.fnOf "is_name" "is_name" (A8 DD) (A0 DD) (Ao DD) .none kV5 dc5 pm5 an5 cd5 ct5),sl5⟩) (c5:PySem.W.codeIn K cd5 "is_name"=true) (k5:PySem.W.keepIn K (.ref f5)=true)
  (a6:PySem.W.nsIn K mainGlobals "check_kinds"=some (some (.ref f6)))
  (l6:K.lookup f6=some ⟨oc6,od6,.func (PySem.W.fnOf "check_kinds" "check_kinds" (A8 BO) (A0 BO) (Ao BO) .none kV6 dc6 pm6 an6 cd6 ct6),sl6⟩) (c6:PySem.W.codeIn K cd6 "check_kinds"=true) (k6:PySem.W.keepIn K (.ref f6)=true)
  (a7:PySem.W.nsIn K mainGlobals "check_maker"=some (some (.ref f7)))
  (l7:K.lookup f7=some ⟨oc7,od7,.func (PySem.W.fnOf "check_maker" "check_maker" (A8 BN) (A0 BN) (Ao BN) .none kV7 dc7 pm7 an7 cd7 ct7),sl7⟩) (c7:PySem.W.codeIn K cd7 "check_maker"=true) (k7:PySem.W.keepIn K (.ref f7)=true)
  (a8:PySem.W.nsIn K mainGlobals "check_ground"=some (some (.ref f8)))
  (l8:K.lookup f8=some ⟨oc8,od8,.func (PySem.W.fnOf "check_ground" "check_ground" (A8 BB) (A0 BB) (Ao BB) .none kV8 dc8 pm8 an8 cd8 ct8),sl8⟩) (c8:PySem.W.codeIn K cd8 "check_ground"=true) (k8:PySem.W.keepIn K (.ref f8)=true)
  (a9:PySem.W.nsIn K mainGlobals "check_makers"=some (some (.ref f9)))
  (l9:K.lookup f9=some ⟨oc9,od9,.func (PySem.W.fnOf "check_makers" "check_makers" (A8 BA) (A0 BA) (Ao BA) .none kV9 dc9 pm9 an9 cd9 ct9),sl9⟩) (c9:PySem.W.codeIn K cd9 "check_makers"=true) (k9:PySem.W.keepIn K (.ref f9)=true)
  (a10:PySem.W.findIn K (.ref cStock) "__init__"=some (some (.ref f10))) (i10:PySem.W.isFn K (.ref f10)=true)
  (l10:K.lookup f10=some ⟨oc10,od10,.func (PySem.W.fnOf "__init__" "Stock.__init__" (A8 Ck) (A0 Ck) (Ao Ck) .none kV10 dc10 pm10 an10 cd10 ct10),sl10⟩) (c10:PySem.W.codeIn K cd10 "Stock.__init__"=true) (k10:PySem.W.keepIn K (.ref f10)=true)
  (a11:PySem.W.findIn K (.ref cStock) "kinds"=some (some (.ref f11))) (i11:PySem.W.isFn K (.ref f11)=true)
  (l11:K.lookup f11=some ⟨oc11,od11,.func (PySem.W.fnOf "kinds" "Stock.kinds" (A8 BQ) (A0 BQ) (Ao BQ) .none kV11 dc11 pm11 an11 cd11 ct11),sl11⟩) (c11:PySem.W.codeIn K cd11 "Stock.kinds"=true) (k11:PySem.W.keepIn K (.ref f11)=true)
  (a12:PySem.W.findIn K (.ref cStock) "makers"=some (some (.ref f12))) (i12:PySem.W.isFn K (.ref f12)=true)
  (l12:K.lookup f12=some ⟨oc12,od12,.func (PySem.W.fnOf "makers" "Stock.makers" (A8 BC) (A0 BC) (Ao BC) .none kV12 dc12 pm12 an12 cd12 ct12),sl12⟩) (c12:PySem.W.codeIn K cd12 "Stock.makers"=true) (k12:PySem.W.keepIn K (.ref f12)=true)
  (a13:PySem.W.nsIn K mainGlobals "_law_texts"=some (some (.ref f13)))
  (l13:K.lookup f13=some ⟨oc13,od13,.func (PySem.W.fnOf "_law_texts" "_law_texts" (A8 Ej) (A0 Ej) (Ao Ej) .none kV13 dc13 pm13 an13 cd13 ct13),sl13⟩) (c13:PySem.W.codeIn K cd13 "_law_texts"=true) (k13:PySem.W.keepIn K (.ref f13)=true)
  (a14:PySem.W.findIn K (.ref cStock) "parts"=some (some (.ref f14))) (i14:PySem.W.isFn K (.ref f14)=true)
  (l14:K.lookup f14=some ⟨oc14,od14,.func (PySem.W.fnOf "parts" "Stock.parts" (A8 BP) (A0 BP) (Ao BP) .none kV14 dc14 pm14 an14 cd14 ct14),sl14⟩) (c14:PySem.W.codeIn K cd14 "Stock.parts"=true) (k14:PySem.W.keepIn K (.ref f14)=true)
  (a15:PySem.W.nsIn K mainGlobals "_law_classes"=some (some (.ref f15)))
  (l15:K.lookup f15=some ⟨oc15,od15,.func (PySem.W.fnOf "_law_classes" "_law_classes" (A8 C8) (A0 C8) (Ao C8) .none kV15 dc15 pm15 an15 cd15 ct15),sl15⟩) (c15:PySem.W.codeIn K cd15 "_law_classes"=true) (k15:PySem.W.keepIn K (.ref f15)=true)
  (a16:PySem.W.nsIn K mainGlobals "_law_which"=some (some (.ref f16)))
  (l16:K.lookup f16=some ⟨oc16,od16,.func (PySem.W.fnOf "_law_which" "_law_which" (A8 Ei) (A0 Ei) (Ao Ei) .none kV16 dc16 pm16 an16 cd16 ct16),sl16⟩) (c16:PySem.W.codeIn K cd16 "_law_which"=true) (k16:PySem.W.keepIn K (.ref f16)=true)
  (a17:PySem.W.findIn K (.ref cStock) "home"=some (some (.ref f17))) (i17:PySem.W.isFn K (.ref f17)=true)
  (l17:K.lookup f17=some ⟨oc17,od17,.func (PySem.W.fnOf "home" "Stock.home" (A8 Cm) (A0 Cm) (Ao Cm) .none kV17 dc17 pm17 an17 cd17 ct17),sl17⟩) (c17:PySem.W.codeIn K cd17 "Stock.home"=true) (k17:PySem.W.keepIn K (.ref f17)=true)
  (a18:PySem.W.nsIn K mainGlobals "_law_refused"=some (some (.ref f18)))
  (l18:K.lookup f18=some ⟨oc18,od18,.func (PySem.W.fnOf "_law_refused" "_law_refused" (A8 C7) (A0 C7) (Ao C7) .none kV18 dc18 pm18 an18 cd18 ct18),sl18⟩) (c18:PySem.W.codeIn K cd18 "_law_refused"=true) (k18:PySem.W.keepIn K (.ref f18)=true)
  (a19:PySem.W.nsIn K mainGlobals "_law_right"=some (some (.ref f19)))
  (l19:K.lookup f19=some ⟨oc19,od19,.func (PySem.W.fnOf "_law_right" "_law_right" (A8 Ek) (A0 Ek) (Ao Ek) .none kV19 dc19 pm19 an19 cd19 ct19),sl19⟩) (c19:PySem.W.codeIn K cd19 "_law_right"=true) (k19:PySem.W.keepIn K (.ref f19)=true)
  (a20:PySem.W.nsIn K mainGlobals "law"=some (some (.ref f20)))
  (l20:K.lookup f20=some ⟨oc20,od20,.func (PySem.W.fnOf "law" "law" (A8 Ic) (A0 Ic) (Ao Ic) .none kV20 dc20 pm20 an20 cd20 ct20),sl20⟩) (c20:PySem.W.codeIn K cd20 "law"=true) (k20:PySem.W.keepIn K (.ref f20)=true)
  (z_ValueError:PySem.W.nsIn K mainGlobals "ValueError"=some none)
  (z_all:PySem.W.nsIn K mainGlobals "all"=some none)
  (z_int:PySem.W.nsIn K mainGlobals "int"=some none)
  (z_isinstance:PySem.W.nsIn K mainGlobals "isinstance"=some none)
  (z_len:PySem.W.nsIn K mainGlobals "len"=some none)
  (z_list:PySem.W.nsIn K mainGlobals "list"=some none)
  (z_min:PySem.W.nsIn K mainGlobals "min"=some none)
  (z_range:PySem.W.nsIn K mainGlobals "range"=some none)
  (z_reversed:PySem.W.nsIn K mainGlobals "reversed"=some none)
  (z_str:PySem.W.nsIn K mainGlobals "str"=some none)
  (z_sum:PySem.W.nsIn K mainGlobals "sum"=some none)
  (z_tuple:PySem.W.nsIn K mainGlobals "tuple"=some none)
  (g_LETTERS:PySem.W.nsIn K mainGlobals "LETTERS"=some (some (.str ("abcdefghijklmnopqrstuvwxyz":Str) t_LETTERS)))
  (g_MOST_KINDS:PySem.W.nsIn K mainGlobals "MOST_KINDS"=some (some (.int 4 t_MOST_KINDS)))
  (g_MOST_LETTERS:PySem.W.nsIn K mainGlobals "MOST_LETTERS"=some (some (.int 12 t_MOST_LETTERS)))
  (g_MOST_MAKERS:PySem.W.nsIn K mainGlobals "MOST_MAKERS"=some (some (.int 4 t_MOST_MAKERS)))
  (g_MOST_PARTS:PySem.W.nsIn K mainGlobals "MOST_PARTS"=some (some (.int 2 t_MOST_PARTS)))
  (n_Stock_home_by_maker:PySem.W.findIn K (.ref cStock) "home_by_maker"=some none)
  (n_Stock_makers_by_kind:PySem.W.findIn K (.ref cStock) "makers_by_kind"=some none)
  (n_Stock_parts_by_maker:PySem.W.findIn K (.ref cStock) "parts_by_maker"=some none)
  (x_all:Tw K xrs xds Du=true) :
  ∃ fd:FuncData,(∀ (s:Shared) (v:Value),BindsTo s fd ⟨[v],[]⟩ [("_law_script",v)])/\∀ base:Heap,K.In base->base.Ns mainGlobals mg->DL l.prog w K mg base (CX1 l.prog w) 6 fa fd ["_law_script"] (Pz K):=by
 have e:=hfa.symm.trans (PySem.W.mg_of X G a20)
 cases e
 have T:Tx K mg cStock:=⟨PySem.W.mg_none_of X G z_ValueError,PySem.W.mg_none_of X G z_all,PySem.W.mg_none_of X G z_int,PySem.W.mg_none_of X G z_isinstance,PySem.W.mg_none_of X G z_len,PySem.W.mg_none_of X G z_list,PySem.W.mg_none_of X G z_min,PySem.W.mg_none_of X G z_range,PySem.W.mg_none_of X G z_reversed,PySem.W.mg_none_of X G z_str,PySem.W.mg_none_of X G z_sum,PySem.W.mg_none_of X G z_tuple,⟨_,PySem.W.mg_of X G g_LETTERS⟩,⟨_,PySem.W.mg_of X G g_MOST_KINDS⟩,⟨_,PySem.W.mg_of X G g_MOST_LETTERS⟩,⟨_,PySem.W.mg_of X G g_MOST_MAKERS⟩,⟨_,PySem.W.mg_of X G g_MOST_PARTS⟩,⟨pg_Stock,hd_Stock,po_Stock,sa_Stock⟩,n_Stock_home_by_maker,n_Stock_makers_by_kind,n_Stock_parts_by_maker,IS.of X G x_all⟩
 have F0:=Ca (st:=DE) l0 c0 k0
 have B0:=F0.binds (ps:=["_law_script","_law_at","_law_parts_here"]) fun _ _ _ _ _ _ us hl=>by obtain ⟨a,b,c,rfl⟩:=us3 hl;rfl
 have F1:=Ca (st:=Em) l1 c1 k1
 have B1:=F1.binds (ps:=["_law_cell","_law_count"]) fun _ _ _ _ _ _ us hl=>by obtain ⟨a,b,rfl⟩:=us2 hl;rfl
 have F2:=Ca (st:=C9) l2 c2 k2
 have B2:=F2.binds (ps:=["_law_script","_law_k"]) fun _ _ _ _ _ _ us hl=>by obtain ⟨a,b,rfl⟩:=us2 hl;rfl
 have F3:=Ca (st:=El) l3 c3 k3
 have B3:=F3.binds (ps:=["_law_names_here","_law_at","_law_first","_law_purse"]) fun _ _ _ _ _ _ us hl=>by obtain ⟨a,b,c,d,rfl⟩:=us4 hl;rfl
 have F4:=Ca (st:=En) l4 c4 k4
 have B4:=F4.binds (ps:=["_law_script"]) fun _ _ _ _ _ _ us hl=>by obtain ⟨a,rfl⟩:=us1 hl;rfl
 have F5:=Ca (st:=DD) l5 c5 k5
 have B5:=F5.binds (ps:=["text"]) fun _ _ _ _ _ _ us hl=>by obtain ⟨a,rfl⟩:=us1 hl;rfl
 have F6:=Ca (st:=BO) l6 c6 k6
 have B6:=F6.binds (ps:=["kinds"]) fun _ _ _ _ _ _ us hl=>by obtain ⟨a,rfl⟩:=us1 hl;rfl
 have F7:=Ca (st:=BN) l7 c7 k7
 have B7:=F7.binds (ps:=["maker","parts","makers_ahead","all_kinds"]) fun _ _ _ _ _ _ us hl=>by obtain ⟨a,b,c,d,rfl⟩:=us4 hl;rfl
 have F8:=Ca (st:=BB) l8 c8 k8
 have B8:=F8.binds (ps:=["maker","parts","kinds_above"]) fun _ _ _ _ _ _ us hl=>by obtain ⟨a,b,c,rfl⟩:=us3 hl;rfl
 have F9:=Ca (st:=BA) l9 c9 k9
 have B9:=F9.binds (ps:=["kinds"]) fun _ _ _ _ _ _ us hl=>by obtain ⟨a,rfl⟩:=us1 hl;rfl
 have F10:=Ca (st:=Ck) l10 c10 k10
 have B10:=F10.binds (ps:=["self","kinds"]) fun _ _ _ _ _ _ us hl=>by obtain ⟨a,b,rfl⟩:=us2 hl;rfl
 have F11:=Ca (st:=BQ) l11 c11 k11
 have B11:=F11.binds (ps:=["self"]) fun _ _ _ _ _ _ us hl=>by obtain ⟨a,rfl⟩:=us1 hl;rfl
 have F12:=Ca (st:=BC) l12 c12 k12
 have B12:=F12.binds (ps:=["self","kind"]) fun _ _ _ _ _ _ us hl=>by obtain ⟨a,b,rfl⟩:=us2 hl;rfl
 have F13:=Ca (st:=Ej) l13 c13 k13
 have B13:=F13.binds (ps:=["_law_got"]) fun _ _ _ _ _ _ us hl=>by obtain ⟨a,rfl⟩:=us1 hl;rfl
 have F14:=Ca (st:=BP) l14 c14 k14
 have B14:=F14.binds (ps:=["self","maker"]) fun _ _ _ _ _ _ us hl=>by obtain ⟨a,b,rfl⟩:=us2 hl;rfl
 have F15:=Ca (st:=C8) l15 c15 k15
 have B15:=F15.binds (ps:=["_law_kept"]) fun _ _ _ _ _ _ us hl=>by obtain ⟨a,rfl⟩:=us1 hl;rfl
 have F16:=Ca (st:=Ei) l16 c16 k16
 have B16:=F16.binds (ps:=["_law_kept"]) fun _ _ _ _ _ _ us hl=>by obtain ⟨a,rfl⟩:=us1 hl;rfl
 have F17:=Ca (st:=Cm) l17 c17 k17
 have B17:=F17.binds (ps:=["self","maker"]) fun _ _ _ _ _ _ us hl=>by obtain ⟨a,b,rfl⟩:=us2 hl;rfl
 have F18:=Ca (st:=C7) l18 c18 k18
 have B18:=F18.binds (ps:=["_law_stock","_law_way","_law_name"]) fun _ _ _ _ _ _ us hl=>by obtain ⟨a,b,c,rfl⟩:=us3 hl;rfl
 have F19:=Ca (st:=Ek) l19 c19 k19
 have B19:=F19.binds (ps:=["_law_stock","_law_kinds_here","_law_names_here"]) fun _ _ _ _ _ _ us hl=>by obtain ⟨a,b,c,rfl⟩:=us3 hl;rfl
 have F20:=Ca (st:=Ic) l20 c20 k20
 have B20:=F20.binds (ps:=["_law_script"]) fun _ _ _ _ _ _ us hl=>by obtain ⟨a,rfl⟩:=us1 hl;rfl
 refine ⟨PySem.W.fnOf "law" "law" (A8 Ic) (A0 Ic) (Ao Ic) .none kV20 dc20 pm20 an20 cd20 ct20,fun s v=>.of_eq rfl,fun base _ _=>?_⟩
 have O0:=Mh (P:=l.prog) (w:=w) (base:=base) F0 T
 have G0:FnAt l.prog w K mg base (CX1 l.prog w) "_law_digits" 1 ["_law_script","_law_at","_law_parts_here"] (spX K 3 CK):=⟨_,_,O0,PySem.W.mg_of X G a0,k0,B0⟩
 have O1:=Ny (P:=l.prog) (w:=w) (base:=base) F1 T
 have G1:FnAt l.prog w K mg base (CX1 l.prog w) "_law_names" 1 ["_law_cell","_law_count"] (spX K 2 Cq):=⟨_,_,O1,PySem.W.mg_of X G a1,k1,B1⟩
 have O2:=Kg (P:=l.prog) (w:=w) (base:=base) F2 T
 have G2:FnAt l.prog w K mg base (CX1 l.prog w) "_law_cell_at" 1 ["_law_script","_law_k"] (spX K 2 Bv):=⟨_,_,O2,PySem.W.mg_of X G a2,k2,B2⟩
 have O3:=Nv (P:=l.prog) (w:=w) (base:=base) F3 T
 have G3:FnAt l.prog w K mg base (CX1 l.prog w) "_law_parts" 1 ["_law_names_here","_law_at","_law_first","_law_purse"] (spX K 4 BJ):=⟨_,_,O3,PySem.W.mg_of X G a3,k3,B3⟩
 have O4:=Nz (P:=l.prog) (w:=w) (base:=base) F4 T G3 G2 G1 G0
 have G4:FnAt l.prog w K mg base (CX1 l.prog w) "_law_kinds" 2 ["_law_script"] (spX K 1 DS):=⟨_,_,O4,PySem.W.mg_of X G a4,k4,B4⟩
 have O5:=Mg (P:=l.prog) (w:=w) (base:=base) F5 T
 have G5:FnAt l.prog w K mg base (CX1 l.prog w) "is_name" 1 ["text"] (spX K 1 Bm):=⟨_,_,O5,PySem.W.mg_of X G a5,k5,B5⟩
 have O6:=Hj (P:=l.prog) (w:=w) (base:=base) F6 T G5
 have G6:FnAt l.prog w K mg base (CX1 l.prog w) "check_kinds" 2 ["kinds"] (spX K 1 BS):=⟨_,_,O6,PySem.W.mg_of X G a6,k6,B6⟩
 have O7:=Hi (P:=l.prog) (w:=w) (base:=base) F7 T G5
 have G7:FnAt l.prog w K mg base (CX1 l.prog w) "check_maker" 2 ["maker","parts","makers_ahead","all_kinds"] (spX K 4 Bh):=⟨_,_,O7,PySem.W.mg_of X G a7,k7,B7⟩
 have O8:=Gu (P:=l.prog) (w:=w) (base:=base) F8 T
 have G8:FnAt l.prog w K mg base (CX1 l.prog w) "check_ground" 1 ["maker","parts","kinds_above"] (spX K 3 A6):=⟨_,_,O8,PySem.W.mg_of X G a8,k8,B8⟩
 have O9:=Gs (P:=l.prog) (w:=w) (base:=base) F9 T G8 G7
 have G9:FnAt l.prog w K mg base (CX1 l.prog w) "check_makers" 3 ["kinds"] (spX K 1 BD):=⟨_,_,O9,PySem.W.mg_of X G a9,k9,B9⟩
 have O10:=Io (P:=l.prog) (w:=w) (base:=base) F10 T G9 G6
 have G10:V3 l.prog w K mg base (CX1 l.prog w) "Stock" cStock 4 ["self","kinds"] (spX K 2 (Bj cStock)):=⟨PySem.W.mg_of X G aC_Stock,_,_,O10,⟨mk_Stock,a10,i10,kc_Stock⟩,B10⟩
 have O11:=Hl (P:=l.prog) (w:=w) (base:=base) F11 T
 have G11:KR l.prog w K mg base (CX1 l.prog w) cStock "kinds" 1 ["self"] (spX K 1 (BU cStock)):=⟨T.cl_Stock,_,_,O11,⟨a11,i11,k11⟩,B11⟩
 have O12:=Gv (P:=l.prog) (w:=w) (base:=base) F12 T
 have G12:KR l.prog w K mg base (CX1 l.prog w) cStock "makers" 1 ["self","kind"] (spX K 2 (AO cStock)):=⟨T.cl_Stock,_,_,O12,⟨a12,i12,k12⟩,B12⟩
 have O13:=Nt (P:=l.prog) (w:=w) (base:=base) F13 T
 have G13:FnAt l.prog w K mg base (CX1 l.prog w) "_law_texts" 1 ["_law_got"] (spX K 1 C2):=⟨_,_,O13,PySem.W.mg_of X G a13,k13,B13⟩
 have O14:=Hk (P:=l.prog) (w:=w) (base:=base) F14 T
 have G14:KR l.prog w K mg base (CX1 l.prog w) cStock "parts" 1 ["self","maker"] (spX K 2 (AX cStock)):=⟨T.cl_Stock,_,_,O14,⟨a14,i14,k14⟩,B14⟩
 have O15:=Kf (P:=l.prog) (w:=w) (base:=base) F15 T
 have G15:FnAt l.prog w K mg base (CX1 l.prog w) "_law_classes" 1 ["_law_kept"] (spX K 1 CC):=⟨_,_,O15,PySem.W.mg_of X G a15,k15,B15⟩
 have O16:=Nr (P:=l.prog) (w:=w) (base:=base) F16 T G15
 have G16:FnAt l.prog w K mg base (CX1 l.prog w) "_law_which" 2 ["_law_kept"] (spX K 1 Dr):=⟨_,_,O16,PySem.W.mg_of X G a16,k16,B16⟩
 have O17:=Ip (P:=l.prog) (w:=w) (base:=base) F17 T
 have G17:KR l.prog w K mg base (CX1 l.prog w) cStock "home" 1 ["self","maker"] (spX K 2 (Bk cStock)):=⟨T.cl_Stock,_,_,O17,⟨a17,i17,k17⟩,B17⟩
 have O18:=Ke (P:=l.prog) (w:=w) (base:=base) F18 T G12 G14 G17 G16
 have G18:FnAt l.prog w K mg base (CX1 l.prog w) "_law_refused" 3 ["_law_stock","_law_way","_law_name"] (spX K 3 (A4 cStock)):=⟨_,_,O18,PySem.W.mg_of X G a18,k18,B18⟩
 have O19:=Nu (P:=l.prog) (w:=w) (base:=base) F19 T G18 G17 G14 G13 G12 G11
 have G19:FnAt l.prog w K mg base (CX1 l.prog w) "_law_right" 4 ["_law_stock","_law_kinds_here","_law_names_here"] (spX K 3 (C3 cStock)):=⟨_,_,O19,PySem.W.mg_of X G a19,k19,B19⟩
 have O20:=U1 (P:=l.prog) (w:=w) (base:=base) F20 T G19 G10 G4
 exact O20.imp (U9 (good cStock))
theorem walk {l:PySem.W.OpenLaw} {q:Program} {loose:List Str} {XP:(Str->Option Value)->Heap->Prop} {d:DefRec} {K:Params->Fg} {as:List Addr} {N tk:Nat} (hn:l.most=some 63) (hdf:d.params.defaults=[]) (hK:∀ P:Params,as=(K P).map (·.1))
  (F:∀ (w:World) (mg:Str->Option Value) (fa:Addr) (h:Heap),(K w.params).In h->h.Ns mainGlobals mg->mg d.name=some (.ref fa) ->
   ∃ fd:FuncData,(∀ (s:Shared) (u:Value),BindsTo s fd ⟨[u],[]⟩ [("_law_script",u)])/\∀ base:Heap,(K w.params).In base->base.Ns mainGlobals mg->DL l.prog w (K w.params) mg base (CX1 l.prog w) 6 fa fd ["_law_script"] (Pz (K w.params))) :
  PySem.W.WalkX q loose XP (PySem.W.X.obsZ as) (PySem.W.X.valZ K N tk) l.row.toRowW d [] (fun f vs=>PySem.call f vs) :=
 L2.J1 (n:=63) (k:=6) (x:="_law_script") (CX:=fun w=>CX1 l.prog w) (sp:=Pz) hn (by decide) hdf ⟨rfl,by decide,by decide⟩ hK F (fun _ _ a ns hl hb _ hS=>⟨a,ns,rfl,hS,hl,hb,fun _=>rfl⟩) fun _ _ _ _ _ ⟨_,_,_,_,_,_,_,_,_,_,_,q⟩=>q
end Sy
def PySem.W.Fast.tw4668441841721565334:=()
def PySem.W.Fast.tw7411585393473386604:=()
def PySem.W.Fast.tw11533351603353746000:=()
def PySem.W.Fast.tw12825436525232976255:=()
def PySem.W.Fast.tw7796624662460178824:=()
def PySem.W.Fast.tw1341884051115658788:=()
def PySem.W.Fast.tw247137086224963447:=()
def PySem.W.Fast.tw5334028926997881138:=()
def PySem.W.Fast.tw10199090298789055677:=()
def PySem.W.Fast.tw16139693445619980644:=()
def PySem.W.Fast.tw568983979843655770:=()
def PySem.W.Fast.tw13096361310381861940:=()
def PySem.W.Fast.tw8118801431175192525:=()
def PySem.W.Fast.tw7334189962887731443:=()
def PySem.W.Fast.tw1626911167345726645:=()
def PySem.W.Fast.tw12129564710661164248:=()
def PySem.W.Fast.tw527145003505451193:=()
def PySem.W.Fast.tw13870639547219457359:=()
def PySem.W.Fast.tw8500006250892650568:=()
def PySem.W.Fast.tw2620891124204023514:=()
def PySem.W.Fast.tw3824155091678452461:=()
def PySem.W.Fast.tw9048865812734221926:=()
def PySem.W.Fast.tw789937009137804714:=()
def PySem.W.Fast.tw8429718452352354150:=()
open PySem PySem.W PyProof.Rows
set_option maxRecDepth 100000 in
set_option maxHeartbeats 0 in
theorem PySem.Challenge.cw_stairsay_k02_stocks_told_holds : PySem.Challenge.rw_stairsay_k02_stocks_told.Holds := by
 w_on;o_law;z_head;(case hw=>w_witness2)
 k_fill
 refine Sy.walk (l:=PySem.Challenge.rw_stairsay_k02_stocks_told) rfl rfl (fun P=>rfl) ?F
 case F =>
  intro w mg fa h KX G hmg
  refine' Sy.all_mk KX G hmg ?aC_Stock ?pg_Stock ?hd_Stock ?po_Stock ?sa_Stock ?mk_Stock ?kc_Stock ?a0 ?l0 ?c0 ?k0 ?a1 ?l1 ?c1 ?k1 ?a2 ?l2 ?c2 ?k2 ?a3 ?l3 ?c3 ?k3 ?a4 ?l4 ?c4 ?k4 ?a5 ?l5 ?c5 ?k5 ?a6 ?l6 ?c6 ?k6 ?a7 ?l7 ?c7 ?k7 ?a8 ?l8 ?c8 ?k8 ?a9 ?l9 ?c9 ?k9 ?a10 ?i10 ?l10 ?c10 ?k10 ?a11 ?i11 ?l11 ?c11 ?k11 ?a12 ?i12 ?l12 ?c12 ?k12 ?a13 ?l13 ?c13 ?k13 ?a14 ?i14 ?l14 ?c14 ?k14 ?a15 ?l15 ?c15 ?k15 ?a16 ?l16 ?c16 ?k16 ?a17 ?i17 ?l17 ?c17 ?k17 ?a18 ?l18 ?c18 ?k18 ?a19 ?l19 ?c19 ?k19 ?a20 ?l20 ?c20 ?k20 ?z_ValueError ?z_all ?z_int ?z_isinstance ?z_len ?z_list ?z_min ?z_range ?z_reversed ?z_str ?z_sum ?z_tuple ?g_LETTERS ?g_MOST_KINDS ?g_MOST_LETTERS ?g_MOST_MAKERS ?g_MOST_PARTS ?n_Stock_home_by_maker ?n_Stock_makers_by_kind ?n_Stock_parts_by_maker ?x_all
  (case aC_Stock=>k_is)
  (case pg_Stock=>k_is)
  (case hd_Stock=>k_is)
  (case po_Stock=>k_is)
  (case sa_Stock=>k_is)
  (case mk_Stock=>k_is)
  (case kc_Stock=>k_is)
  (case a0=>k_is)
  (case l0=>k_is)
  (case c0=>k_is)
  (case k0=>k_is)
  (case a1=>k_is)
  (case l1=>k_is)
  (case c1=>k_is)
  (case k1=>k_is)
  (case a2=>k_is)
  (case l2=>k_is)
  (case c2=>k_is)
  (case k2=>k_is)
  (case a3=>k_is)
  (case l3=>k_is)
  (case c3=>k_is)
  (case k3=>k_is)
  (case a4=>k_is)
  (case l4=>k_is)
  (case c4=>k_is)
  (case k4=>k_is)
  (case a5=>k_is)
  (case l5=>k_is)
  (case c5=>k_is)
  (case k5=>k_is)
  (case a6=>k_is)
  (case l6=>k_is)
  (case c6=>k_is)
  (case k6=>k_is)
  (case a7=>k_is)
  (case l7=>k_is)
  (case c7=>k_is)
  (case k7=>k_is)
  (case a8=>k_is)
  (case l8=>k_is)
  (case c8=>k_is)
  (case k8=>k_is)
  (case a9=>k_is)
  (case l9=>k_is)
  (case c9=>k_is)
  (case k9=>k_is)
  (case a10=>k_is)
  (case i10=>k_is)
  (case l10=>k_is)
  (case c10=>k_is)
  (case k10=>k_is)
  (case a11=>k_is)
  (case i11=>k_is)
  (case l11=>k_is)
  (case c11=>k_is)
  (case k11=>k_is)
  (case a12=>k_is)
  (case i12=>k_is)
  (case l12=>k_is)
  (case c12=>k_is)
  (case k12=>k_is)
  (case a13=>k_is)
  (case l13=>k_is)
  (case c13=>k_is)
  (case k13=>k_is)
  (case a14=>k_is)
  (case i14=>k_is)
  (case l14=>k_is)
  (case c14=>k_is)
  (case k14=>k_is)
  (case a15=>k_is)
  (case l15=>k_is)
  (case c15=>k_is)
  (case k15=>k_is)
  (case a16=>k_is)
  (case l16=>k_is)
  (case c16=>k_is)
  (case k16=>k_is)
  (case a17=>k_is)
  (case i17=>k_is)
  (case l17=>k_is)
  (case c17=>k_is)
  (case k17=>k_is)
  (case a18=>k_is)
  (case l18=>k_is)
  (case c18=>k_is)
  (case k18=>k_is)
  (case a19=>k_is)
  (case l19=>k_is)
  (case c19=>k_is)
  (case k19=>k_is)
  (case a20=>k_is)
  (case l20=>k_is)
  (case c20=>k_is)
  (case k20=>k_is)
  (case z_ValueError=>k_is)
  (case z_all=>k_is)
  (case z_int=>k_is)
  (case z_isinstance=>k_is)
  (case z_len=>k_is)
  (case z_list=>k_is)
  (case z_min=>k_is)
  (case z_range=>k_is)
  (case z_reversed=>k_is)
  (case z_str=>k_is)
  (case z_sum=>k_is)
  (case z_tuple=>k_is)
  (case g_LETTERS=>k_is)
  (case g_MOST_KINDS=>k_is)
  (case g_MOST_LETTERS=>k_is)
  (case g_MOST_MAKERS=>k_is)
  (case g_MOST_PARTS=>k_is)
  (case n_Stock_home_by_maker=>k_is)
  (case n_Stock_makers_by_kind=>k_is)
  (case n_Stock_parts_by_maker=>k_is)
  (case x_all=>kernel_rfl)
