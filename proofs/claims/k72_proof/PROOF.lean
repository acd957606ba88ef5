import PyProof.Rows.All
import Wide.All
import OpenK.AllK
import Wide.FinOn
import PyProof.EqAt
import PyProof.EqKinds
import PyProof.TupleCall
import PyProof.DictWalks
import KE.KSortTup
import KE.KTryMore
import PyProof.NsDelKeeps
import PyProof.ReprStr
import PyProof.StrLawsRepr
import PyProof.Rows.FStr
import KE.KEqDict
import PySem.Challenge.RW_stairsay_k72_texts
set_option Elab.async false
set_option linter.all false
set_option maxRecDepth 100000
set_option maxHeartbeats 4000000
abbrev Fg:=PySem.W.Frag
namespace L2
open PySem PySem.Spec PyProof.Rows
abbrev Key:=Sum Int Str
def Jy:Key->Value->Bool
 | .inl k,v=>Value.isInt k v
 | .inr x,v=>Value.isStrOf x v
def Y6 (w:World):Key->Int
 | .inl k=>hashInt k
 | .inr x=>hashStr w x
theorem BH:∀ {k:Key} {v:Value},Jy k v=true->(∃ i t,k=Sum.inl i/\v=Value.int i t)∨(∃ x t,k=Sum.inr x/\v=Value.str x t)
 | .inl i,v,h=>by
  obtain ⟨t,e⟩:=Value.isInt_shape (k:=i) (v:=v) h
  exact .inl ⟨i,t,rfl,e⟩
 | .inr x,v,h=>by
  obtain ⟨t,e⟩:=Value.isStrOf_shape (x:=x) (v:=v) h
  exact .inr ⟨x,t,rfl,e⟩
theorem OS (i:Int) (t:Tok):Jy (.inl i) (.int i t)=true:=by simp [Jy,Value.isInt]
theorem OQ (x:Str) (t:Tok):Jy (.inr x) (.str x t)=true:=by simp [Jy,Value.isStrOf]
theorem VV (a b:Int):decide ((Sum.inl a:Key)=Sum.inl b)=(a == b):=by
 by_cases e:a=b
 ·subst e;simp
 ·have h:¬ (Sum.inl a:Key)=Sum.inl b:=fun q=>e (Sum.inl.inj q)
  rw [decide_eq_false h]
  exact (beq_eq_false_iff_ne.mpr e).symm
theorem VS (a b:Str):decide ((Sum.inr a:Key)=Sum.inr b)=decide (a=b):=by
 by_cases e:a=b
 ·subst e;simp
 ·have h:¬ (Sum.inr a:Key)=Sum.inr b:=fun q=>e (Sum.inr.inj q)
  rw [decide_eq_false h,decide_eq_false e]
theorem VU (a:Int) (b:Str):decide ((Sum.inl a:Key)=Sum.inr b)=false:=decide_eq_false (fun q=>nomatch q)
theorem VT (a:Str) (b:Int):decide ((Sum.inr a:Key)=Sum.inl b)=false:=decide_eq_false (fun q=>nomatch q)
def BZ (prog:Program) (w:World):PySem.KeyKind prog w Key where
 is:=Jy
 hash:=Y6 w
 inj:=fun v a b ha hb=>by
  rcases BH ha with ⟨i,t,rfl,rfl⟩ | ⟨x,t,rfl,rfl⟩
  ·rcases BH hb with ⟨j,u,rfl,e⟩ | ⟨y,u,rfl,e⟩
   ·injection e with e1 _;rw [e1]
   ·exact nomatch e
  ·rcases BH hb with ⟨j,u,rfl,e⟩ | ⟨y,u,rfl,e⟩
   ·exact nomatch e
   ·injection e with e1 _;rw [e1]
 byValue:=fun k v h=>by
  rcases BH h with ⟨i,t,rfl,rfl⟩ | ⟨x,t,rfl,rfl⟩ <;> rfl
 pyHash:=fun hv h=>by
  rcases BH hv with ⟨i,t,rfl,rfl⟩ | ⟨x,t,rfl,rfl⟩
  ·exact wpAny_pyHash_int h
  ·exact wpAny_pyHash_str h
 eqBool:=fun hu hv h=>by
  rcases BH hu with ⟨i,t,rfl,rfl⟩ | ⟨x,t,rfl,rfl⟩
  ·rcases BH hv with ⟨j,u,rfl,rfl⟩ | ⟨y,u,rfl,rfl⟩
   ·rw [VV] at h;exact wpAny_eqBool_int h
   ·rw [VU] at h;exact SeqAt.EqAt.int_str i t y u _ _ _ _ h
  ·rcases BH hv with ⟨j,u,rfl,rfl⟩ | ⟨y,u,rfl,rfl⟩
   ·rw [VT] at h;exact SeqAt.EqAt.str_int x t j u _ _ _ _ h
   ·rw [VS] at h;exact wpAny_eqBool_str h
 «strs»:=fun k x t v h=>by
  rcases BH h with ⟨i,u,rfl,e⟩ | ⟨y,u,rfl,e⟩
  ·exact nomatch e
  ·injection e with e1 _
   subst e1
   cases v <;> rfl
theorem Ls (prog:Program) (w:World) (i:Int) (t:Tok):(BZ prog w).is (.inl i) (.int i t)=true:=OS i t
theorem En (prog:Program) (w:World) (x:Str) (t:Tok):(BZ prog w).is (.inr x) (.str x t)=true:=OQ x t
inductive V where
 | non | bl (b:Bool) | int (i:Int) | str (x:Str) | byt (b:Array UInt8) | flt (b:UInt64) | ref (a:Addr) | ty (n:String)
 deriving DecidableEq
def RelV:V->Value->Prop
 | .non,u=>u=Value.none
 | .bl b,u=>u=Value.bool b
 | .int i,u=>∃ t,u=Value.int i t
 | .str x,u=>∃ t,u=Value.str x t
 | .byt b,u=>∃ t,u=Value.bytes b t
 | .flt b,u=>∃ t,u=Value.float b t
 | .ref a,u=>u=Value.ref a
 | .ty n,u=>u=Value.type n
abbrev Vals:List V->List Value->Prop:=Paired RelV
theorem Vals.length {xs:List V} {us:List Value} (r:Vals xs us):xs.length=us.length:=Paired.length r
theorem Vals.get:∀ {xs:List V} {us:List Value} {i:Nat} {x:V},Vals xs us->xs[i]?=some x->∃ u,us[i]?=some u/\RelV x u
 | _,_,_,_,.nil,e=>by simp at e
 | _,_,0,_,.cons r _,e=>by simp at e;subst e;exact ⟨_,rfl,r⟩
 | _,_,i+1,x,.cons _ t,e=>by
  obtain ⟨u,h1,h2⟩:=Vals.get (i:=i) (x:=x) t (by simpa using e)
  exact ⟨u,by simpa using h1,h2⟩
theorem Vals.set {x:V} {u:Value} (r:RelV x u):∀ {xs:List V} {us:List Value} (i:Nat),Vals xs us->Vals (xs.set i x) (us.set i u)
 | _,_,_,.nil=>.nil
 | _,_,0,.cons _ t=>.cons r t
 | _,_,i+1,.cons q t=>.cons q (Vals.set r i t)
theorem Vals.append:∀ {xs ys:List V} {us ws:List Value},Vals xs us->Vals ys ws->Vals (xs++ys) (us++ws)
 | _,_,_,_,.nil,s=>s
 | _,_,_,_,.cons r t,s=>.cons r (Vals.append t s)
theorem Vals.take:∀ {xs:List V} {us:List Value} (n:Nat),Vals xs us->Vals (xs.take n) (us.take n)
 | _,_,0,_=>.nil
 | _,_,_+1,.nil=>.nil
 | _,_,n+1,.cons r t=>.cons r (Vals.take n t)
theorem Vals.drop:∀ {xs:List V} {us:List Value} (n:Nat),Vals xs us->Vals (xs.drop n) (us.drop n)
 | _,_,0,r=>r
 | _,_,_+1,.nil=>.nil
 | _,_,n+1,.cons _ t=>Vals.drop n t
def AQ:Option V->Option Value->Prop
 | some v,some u=>RelV v u
 | none,none=>True
 | _,_=>False
def KV {κ:Type}:List (κ×V)->List (κ×Value)->Prop:=Paired fun (p:κ×V) (q:κ×Value)=>p.1=q.1/\RelV p.2 q.2
def kV:Key->V
 | .inl i=>.int i
 | .inr x=>.str x
inductive HO where
 | lst (xs:List V)
 | tup (xs:List V)
 | dK (kvs:List (Key×V)) | dT (kvs:List (List Key×V))
 | set (S:Int->Bool) (n:Nat)
 | ins (C dx:Addr) (fs:List (Str×V))
 | own (x:Addr)
 | xd (fs:List (Str×V))
 | met (f x:Addr)
 | rng (lo hi:Int)
 | frz (o:Obj) (u:HO)
 | tbl (ps:Array Value)
 | ext (φ:Heap->Prop)
abbrev Hp:=Addr->Option HO
def upd (H:Hp) (a:Addr) (o:HO):Hp:=fun b=>if b=a then some o else H b
theorem AL {H:Hp} {a:Addr} {o:HO}:upd H a o a=some o:=by unfold upd;rw [if_pos rfl]
theorem Aw {H:Hp} {a b:Addr} {o:HO} (h:b≠a):upd H a o b=H b:=by unfold upd;rw [if_neg h]
theorem XZ {H:Hp} {a b:Addr} {o u:HO} (h:H a=some o) (h':H b=some u) (d:o≠u):a≠b:=by
 intro e;subst e;rw [h] at h';exact d (Option.some.inj h')
theorem BX {H:Hp} {a b:Addr} {o:HO} (h:H a=some o) (h':H b=none):a≠b:=by
 intro e;subst e;rw [h] at h';cases h'
section
variable (P:Program) (w:World)
def C3 (H:Hp) (h:Heap) (a:Addr):HO->Prop
 | .lst xs=>xs.length<=sizeLine/\∃ (its:List Value) (n:Nat),Vals xs its/\h.get? a=some { cls:=.type "list",data:=.seq its.toArray n }
 | .tup xs=>xs.length<=sizeLine/\∃ its:List Value,Vals xs its/\IsTup h a its.toArray
 | .dK kvs=>kvs.length<=sizeLine/\(a == sysModules)=false/\∃ vs,KV kvs vs/\h.DictOf (BZ P w) a vs
 | .dT kvs=>kvs.length<=sizeLine/\(a == sysModules)=false/\∃ xs:List (List Key×Addr×Value),
   Paired (fun (p:List Key×V) (q:List Key×Addr×Value)=>p.1=q.1/\H q.2.1=some (.tup (p.1.map kV))/\RelV p.2 q.2.2) kvs xs /\
   ∃ o es ep,h.get? a=some o/\o.ExactDict/\o.data=.dict es ep/\es.toList=xs.map (entryOfKey (tupleKind (BZ P w)))/\(xs.map (·.1)).Nodup
 | .set S n=>h.SetOf (intKind P w) a S n
 | .ins C dx fs=>H dx=some (.own a)/\fs.length<=1000/\dx≠a/\h.get? a=some (PySem.W.instObj C dx) /\
   ∃ mA,h.Ns1 dx mA/\(∀ f,AQ (fs.lookup f) (mA f))/\PySem.Within mA (fs.map (·.1))
 | .own _=>∃ o,h.get? a=some o
 | .xd fs=>∃ mA,h.Ns1 a mA/\∀ f,AQ (fs.lookup f) (mA f)
 | .rng lo hi=>∃ t u v,h.get? a=some { cls:=.type "range",data:=.fields #[.int lo t,.int hi u,.int 1 v] }
 | .frz o u=>h.get? a=some o/\C3 H h a u
 | .tbl ps=>h.get? a=some { cls:=.none,data:=.fields ps }
 | .met f x=>h.get? a=some (PySem.W.methodObj (.ref f) (.ref x))
 | .ext φ=>φ h/\(∃ o,h.get? a=some o)/\∀ h1 h2:Heap,φ h1->(∀ o,h1.get? a=some o->h2.get? a=some o)->φ h2
def HOk (H:Hp) (h:Heap):Prop:=∀ a o,H a=some o->C3 P w H h a o
end
section
variable {P:Program} {w:World} {H H':Hp} {h h':Heap} {a:Addr} {o:HO}
theorem C3.lt (x:C3 P w H h a o):a < h.objs.size:=by
 cases o with
 | lst xs=>obtain ⟨_,_,_,_,e⟩:=x;exact Heap.lt_size e
 | tup xs=>obtain ⟨_,_,_,p⟩:=x;exact p.lt
 | dK kvs=>obtain ⟨_,_,_,_,o,_,_,e,_⟩:=x;exact Heap.lt_size e
 | dT kvs=>obtain ⟨_,_,_,_,o,_,_,e,_⟩:=x;exact Heap.lt_size e
 | set S n=>obtain ⟨o,_,_,_,e,_⟩:=x;exact Heap.lt_size e
 | ins C dx fs=>obtain ⟨_,_,_,e,_⟩:=x;exact Heap.lt_size e
 | own y=>obtain ⟨_,e⟩:=x;exact Heap.lt_size e
 | xd fs=>obtain ⟨_,⟨_,_,_,e,_⟩,_⟩:=x;exact Heap.lt_size e
 | rng lo hi=>obtain ⟨_,_,_,e⟩:=x;exact Heap.lt_size e
 | frz ob u=>obtain ⟨e,_⟩:=x;exact Heap.lt_size e
 | tbl ps=>exact Heap.lt_size (show h.get? a=some _ from x)
 | met f y=>exact Heap.lt_size (show h.get? a=some _ from x)
 | ext φ=>obtain ⟨_,⟨_,e⟩,_⟩:=x;exact Heap.lt_size e
theorem Paired.X2 {α β:Type} {F G:α->β->Prop}:∀ {l₁:List α} {l₂:List β},Paired F l₁ l₂->(∀ a b,F a b->G a b)->Paired G l₁ l₂
 | _,_,.nil,_=>.nil
 | _,_,.cons r t,f=>.cons (f _ _ r) (Paired.X2 t f)
theorem C3.SM (x:C3 P w H h a o) (k:∀ b u,(b=a∨H b=some (.own a))->h.get? b=some u->h'.get? b=some u)
  (ho:∀ b,H b=some (.own a)->H' b=some (.own a)) (ht:∀ b xs,H b=some (.tup xs)->H' b=some (.tup xs)):C3 P w H' h' a o:=by
 induction o with
 | lst xs=>obtain ⟨z,its,n,r,e⟩:=x;exact ⟨z,its,n,r,k _ _ (.inl rfl) e⟩
 | tup xs=>obtain ⟨z,its,r,ob,e,c⟩:=x;exact ⟨z,its,r,ob,k _ _ (.inl rfl) e,c⟩
 | dK kvs=>obtain ⟨z,y,vs,r,ob,es,ep,e,c⟩:=x;exact ⟨z,y,vs,r,ob,es,ep,k _ _ (.inl rfl) e,c⟩
 | dT kvs =>
  obtain ⟨z,y,xs,r,ob,es,ep,e,c⟩:=x
  exact ⟨z,y,xs,Paired.X2 r fun p q z=>⟨z.1,ht _ _ z.2.1,z.2.2⟩,ob,es,ep,k _ _ (.inl rfl) e,c⟩
 | set S n=>obtain ⟨ob,es,ep,t,e,c⟩:=x;exact ⟨ob,es,ep,t,k _ _ (.inl rfl) e,c⟩
 | ins C dx fs =>
  obtain ⟨d,z,ne,e,mA,⟨od,es,ep,e2,c⟩,r⟩:=x
  exact ⟨ho _ d,z,ne,k _ _ (.inl rfl) e,mA,⟨od,es,ep,k _ _ (.inr d) e2,c⟩,r⟩
 | own y=>obtain ⟨ob,e⟩:=x;exact ⟨ob,k _ _ (.inl rfl) e⟩
 | xd fs=>obtain ⟨mA,⟨od,es,ep,e,c⟩,r⟩:=x;exact ⟨mA,⟨od,es,ep,k _ _ (.inl rfl) e,c⟩,r⟩
 | rng lo hi=>obtain ⟨t,u,v,e⟩:=x;exact ⟨t,u,v,k _ _ (.inl rfl) e⟩
 | frz ob u ih=>obtain ⟨e,q⟩:=x;exact ⟨k _ _ (.inl rfl) e,ih q⟩
 | tbl ps =>
  have e:h.get? a=some { cls:=.none,data:=.fields ps }:=x
  show h'.get? a=some { cls:=.none,data:=.fields ps }
  exact k a _ (.inl rfl) e
 | met f y =>
  have e:h.get? a=some (PySem.W.methodObj (.ref f) (.ref y)):=x
  show h'.get? a=some (PySem.W.methodObj (.ref f) (.ref y))
  exact k a _ (.inl rfl) e
 | ext φ=>obtain ⟨p,⟨o,e⟩,st⟩:=x;exact ⟨st _ _ p fun o q=>k _ _ (.inl rfl) q,⟨o,k _ _ (.inl rfl) e⟩,st⟩
theorem HOk.lt (x:HOk P w H h) (e:H a=some o):a < h.objs.size:=(x a o e).lt
theorem HOk.fresh (x:HOk P w H h) (e:h.objs.size<=a):H a=none:=by
 cases q:H a with
 | none=>rfl
 | some u=>exact absurd (Nat.lt_of_lt_of_le (x.lt q) e) (Nat.lt_irrefl _)
theorem HOk.kept (x:HOk P w H h) (k:∀ b u,h.get? b=some u->h'.get? b=some u):HOk P w H h':=fun a o e =>
 (x a o e).SM (fun b u _ q=>k b u q) (fun _ q=>q) fun _ _ q=>q
theorem HOk.laid (x:HOk P w H h) (k:∀ b u,h.get? b=some u->h'.get? b=some u) (hp:h.objs.size<=a) (new:C3 P w (upd H a o) h' a o):HOk P w (upd H a o) h':=fun b u e=>by
 have hn:=x.fresh hp
 by_cases hb:b=a
 ·subst hb;rw [AL] at e;cases e;exact new
 ·rw [Aw hb] at e
  exact (x b u e).SM (fun c v _ q=>k c v q) (fun c q=>by rw [Aw (BX q hn)];exact q) fun c xs q=>by rw [Aw (BX q hn)];exact q
end
def Rd (H:Hp) (a:Addr) (u:HO):Prop:=H a=some u∨∃ o,H a=some (.frz o u)
theorem Rd.ok {P:Program} {w:World} {H:Hp} {h:Heap} {a:Addr} {u:HO} (r:Rd H a u) (x:HOk P w H h):C3 P w H h a u:=by
 rcases r with r | ⟨o,r⟩
 ·exact x a u r
 ·obtain ⟨_,q⟩:=x a _ r
  exact q
def Mut:Option HO->Prop
 | some (.lst _)=>True
 | some (.dK _)=>True
 | some (.dT _)=>True
 | some (.set _ _)=>True
 | some (.ins _ _ _)=>True
 | some (.ext _)=>True
 | _=>False
section
variable {P:Program} {w:World} {H:Hp} {h h':Heap} {x e:Addr} {o':HO}
theorem HOk.write (ok:HOk P w H h) (mu:Mut (H x)) (he:e=x∨H e=some (.own x)) (k:∀ b u,b≠e->h.get? b=some u->h'.get? b=some u) (heo:∃ u,h'.get? e=some u)
  (new:C3 P w (upd H x o') h' x o'):HOk P w (upd H x o') h':=fun b u q=>by
 have nown:∀ c y,H c=some (.own y)->c≠x:=fun c y r z=>by subst z;rw [r] at mu;exact mu
 have ntup:∀ c xs,H c=some (.tup xs)->c≠x:=fun c xs r z=>by subst z;rw [r] at mu;exact mu
 by_cases hb:b=x
 ·subst hb;rw [AL] at q;cases q;exact new
 ·rw [Aw hb] at q
  by_cases hbe:b=e
  ·have q':H b=some (.own x):=by
    rcases he with z | z
    ·exact absurd (hbe.trans z) hb
    ·rw [hbe];exact z
   rw [q] at q';cases q'
   obtain ⟨v,hv⟩:=heo
   exact ⟨v,by rw [hbe];exact hv⟩
  ·refine (ok b u q).SM (fun c v hc r=>k c v ?_ r) (fun c r=>by rw [Aw (nown c b r)];exact r) fun c xs r=>by rw [Aw (ntup c xs r)];exact r
   rcases hc with rfl | hc
   ·exact hbe
   ·rintro rfl
    rcases he with z | z
    ·exact nown c b hc z
    ·rw [hc] at z;cases z;exact hb rfl
end
structure Un (fs ex:List Addr) (H H':Hp) (h h':Heap):Prop where
 keep:∀ b o,h.get? b=some o->H b=none->b∉fs->b∉ex->h'.get? b=some o
 slot:∀ b o,h.get? b=some o->H b=none->b∈fs->b∉ex->∃ sl,h'.get? b=some { o with slots:=sl }
 free:∀ b o,h.get? b=some o->H b=none->b∉ex->H' b=none
 there:∀ b o,h.get? b=some o->b∉ex->∃ o',h'.get? b=some o'
 tups:∀ b xs,H b=some (.tup xs)->H' b=some (.tup xs)
 frzs:∀ b o u,H b=some (.frz o u)->H' b=some (.frz o u)
 tbls:∀ b ps,H b=some (.tbl ps)->∃ more,H' b=some (.tbl (ps++more))
section
variable {fs fs' ex ex':List Addr} {H H1 H2:Hp} {h h1 h2 h':Heap} {a x e:Addr} {o:HO}
theorem Un.any (u:Un fs ex H H1 h h1) {b:Addr} {ob:Obj} (q:h.get? b=some ob) (n:H b=none) (hx:b∉ex):∃ sl,h1.get? b=some { ob with slots:=sl }:=by
 by_cases hb:b∈fs
 ·exact u.slot b ob q n hb hx
 ·exact ⟨ob.slots,u.keep b ob q n hb hx⟩
theorem Un.kept (k:∀ b u,h.get? b=some u->h'.get? b=some u):Un fs ex H H h h' :=
 ⟨fun b ob q _ _ _=>k b ob q,fun b ob q _ _ _=>⟨ob.slots,k b ob q⟩,fun _ _ _ n _=>n,fun b ob q _=>⟨ob,k b ob q⟩,fun _ _ q=>q,fun _ _ _ q=>q,fun _ ps q=>⟨#[],by rw [q];simp⟩⟩
theorem Un.refl:Un fs ex H H h h:=Un.kept fun _ _ q=>q
theorem Un.laid (k:∀ b u,h.get? b=some u->h'.get? b=some u) (hp:h.objs.size<=a) (hn:H a=none):Un fs ex H (upd H a o) h h' where
 keep:=fun b u q _ _ _=>k b u q
 slot:=fun b u q _ _ _=>⟨u.slots,k b u q⟩
 free:=fun b u q n _=>by rw [Aw (Nat.ne_of_lt (Nat.lt_of_lt_of_le (Heap.lt_size q) hp))];exact n
 there:=fun b u q _=>⟨u,k b u q⟩
 tups:=fun b xs q=>by rw [Aw (BX q hn)];exact q
 frzs:=fun b u xs q=>by rw [Aw (BX q hn)];exact q
 tbls:=fun b ps q=>⟨#[],by rw [Aw (BX q hn),q];simp⟩
theorem Un.write (mu:Mut (H x)) (he:e=x∨H e=some (.own x)) (k:∀ b u,b≠e->h.get? b=some u->h'.get? b=some u) (heo:∃ u,h'.get? e=some u):Un fs ex H (upd H x o) h h':=by
 have hx:∀ b,H b=none->b≠x:=fun b n z=>by subst z;rw [n] at mu;exact mu
 have hb:∀ b,H b=none->b≠e:=fun b n z=>by
  subst z
  rcases he with r | r
  ·exact hx b n r
  ·rw [n] at r;cases r
 have hm:∀ b u,H b=some u->¬ Mut (some u)->b≠x:=fun b u q nm z=>by subst z;rw [q] at mu;exact nm mu
 refine ⟨fun b u q n _ _=>k b u (hb b n) q,fun b u q n _ _=>⟨u.slots,k b u (hb b n) q⟩,fun b u q n _=>by rw [Aw (hx b n)];exact n,fun b u q _=>?_,
  fun b xs q=>by rw [Aw (hm b _ q fun z=>z)];exact q,fun b u xs q=>by rw [Aw (hm b _ q fun z=>z)];exact q,fun b ps q=>⟨#[],by rw [Aw (hm b _ q fun z=>z),q];simp⟩⟩
 by_cases hbe:b=e
 ·subst hbe;exact heo
 ·exact ⟨u,k b u hbe q⟩
end
def trk (h:Heap) (H:Hp):List Addr:=(List.range h.objs.size).filter fun a=>(H a).isSome
def QZ (h:Heap) (H:Hp):Heap:=PySem.W.hideAll h (trk h H)
theorem Pb (h:Heap) (H:Hp):(QZ h H).objs.size=h.objs.size:=PySem.W.hideAll_size _ _
theorem QY {h:Heap} {H:Hp} {b:Addr} {o:Obj} (e:h.get? b=some o) (n:H b=none):(QZ h H).get? b=some o :=
 PySem.W.hideAll_get _ e fun hm=>by
  have q:(H b).isSome=true:=(List.mem_filter.mp hm).2
  rw [n] at q;simp at q
theorem Tg {h:Heap} {H:Hp} {b:Addr} {o:Obj} (e:(QZ h H).get? b=some o):h.get? b=some o/\H b=none:=by
 have e':h.get? b=some o:=PySem.W.of_hideAll (trk h H) e
 refine ⟨e',?_⟩
 cases q:H b with
 | none=>rfl
 | some x =>
  have hm:b∈trk h H:=List.mem_filter.mpr ⟨List.mem_range.mpr (Heap.lt_size e'),by simp [q]⟩
  have z:(QZ h H).get? b=none:=PySem.W.hideAll_none (trk h H) hm
  rw [z] at e;cases e
structure Mod (K:Fg) (mg:Str->Option Value) (base:Heap):Prop where
 kin:K.In base
 glob:base.Ns mainGlobals mg
 blt:∃ mb,base.Ns builtinsNs mb/\∀ x:Str,x≠"__name__"->mb x=bootBuiltins x
 nolimit:base.NoLimit
structure Cx where
 prog:Program
 w:World
 K:Fg
 mg:Str->Option Value
 base:Heap
 A:Around
 N:List Str
 s₀:Shared
 H₀:Hp
 env:Env
 outer:List Env
 stack:List Env
 ex:List Addr
 fn:Str->Bool
 calm:Bool
 pn:List (Addr×Obj)
 xe:Value->Shared->Prop
def frs (l:List Env):List Addr:=l.filterMap (·.frame)
abbrev Cx.fs (X:Cx):List Addr:=frs X.outer
def Vis (sc:Scope) (x:Str):Prop:=sc.names.lookup x=some .local∨sc.names.lookup x=some .cell∨sc.names.lookup x=some .free
def Loc (sc:Scope) (x:Str):Prop:=sc.names.lookup x=some .local∨sc.names.lookup x=some .cell
def Look (env:Env) (h:Heap) (m:Str->Option Value) (x:Str) (u:Value):Prop :=
 (env.kindOf x=some .local/\m x=some u)∨((env.kindOf x=some .cell∨env.kindOf x=some .free)/\∃ c,env.cells.lookup x=some c/\h.IsCell c (some u))
structure Cx.Ok (X:Cx):Prop where
 mod:Mod X.K X.mg X.base
 kind:X.env.scope.kind=.function
 glob:X.env.globals=mainGlobals
 blt:X.env.builtins=builtinsNs
 above:X.s₀.heap.objs.size<=X.env.locals
 inj:∀ x y c,X.env.cells.lookup x=some c->X.env.cells.lookup y=some c->x=y
 has:∀ x,(X.env.kindOf x=some .cell∨X.env.kindOf x=some .free)->∃ c,X.env.cells.lookup x=some c
 cab:∀ x c,X.fn x=true->X.env.cells.lookup x=some c->X.s₀.heap.objs.size<=c
 hd:X.calm=true->X.A.handled=none
 frames:X.A.frames=some X.stack
 stk:X.stack=X.outer∨(X.stack=X.env :: X.outer/\X.env.frame=some X.env.locals)
 exf:∀ b∈X.ex,b≠X.env.locals/\∀ x c,X.env.cells.lookup x=some c->c≠b
 bs:∀ b o,X.base.get? b=some o->X.s₀.heap.get? b=some o/\X.H₀ b=none
 bsz:X.base.objs.size<=X.s₀.heap.objs.size
 noex:∀ b o,X.base.get? b=some o->b∉X.ex
 exfs:∀ b∈X.ex,b∉X.fs
 Nr:X.s₀.heap.FunFrames X.base X.outer
 frf:∀ b∈X.fs,X.H₀ b=none
structure Inv (X:Cx) (pins:List (Addr×Obj)) (σ:List (Option V)) (H:Hp) (s:Shared):Prop where
 ok:X.Ok
 os:s.os=X.s₀.os
 bare:AllBare s.gens
 base:Un X.fs X.ex X.H₀ H X.s₀.heap s.heap
 loc:∃ m,s.heap.Ns X.env.locals m/\∀ (i:Nat) (x:Str) (v:V),X.N[i]?=some x->σ[i]?=some (some v)->Vis X.env.scope x->∃ u,RelV v u/\Look X.env s.heap m x u
 cell:∀ x c,X.env.cells.lookup x=some c->∃ v,s.heap.IsCell c v
 free:H X.env.locals=none
 freeC:∀ x c,X.env.cells.lookup x=some c->H c=none
 pin:∀ p∈X.pn++pins,s.heap.get? p.1=some p.2/\H p.1=none/\p.1≠X.env.locals/\p.1∉X.fs/\∀ v,p.2.data≠.cell v
 hok:HOk X.prog X.w H s.heap
 len:σ.length=X.N.length
section
variable {X:Cx} {pins:List (Addr×Obj)} {σ:List (Option V)} {H H':Hp} {s:Shared} {h':Heap}
theorem Cx.Ok.Y4 (ok:X.Ok) {b:Addr} {o:Obj} (e:X.base.get? b=some o):b∉X.fs:=fun hb=>by
 have:=(ok.Nr.mem hb).1
 rw [e] at this;cases this
theorem Inv.bs (I:Inv X pins σ H s):∀ b o,X.base.get? b=some o->s.heap.get? b=some o/\H b=none:=fun b o e =>
 ⟨I.base.keep b o (I.ok.bs b o e).1 (I.ok.bs b o e).2 (I.ok.Y4 e) (I.ok.noex b o e),I.base.free b o (I.ok.bs b o e).1 (I.ok.bs b o e).2 (I.ok.noex b o e)⟩
theorem Inv.bk (I:Inv X pins σ H s):∀ b o,X.base.get? b=some o->s.heap.get? b=some o:=fun b o e=>(I.bs b o e).1
theorem Inv.mod (I:Inv X pins σ H s):Mod X.K X.mg X.base:=I.ok.mod
theorem Inv.kIn (I:Inv X pins σ H s):X.K.In s.heap:=I.ok.mod.kin.keeps I.bk
theorem Inv.lt (I:Inv X pins σ H s):X.env.locals < s.heap.objs.size:=let ⟨_,hn,_⟩:=I.loc;hn.lt
theorem Inv.sz (I:Inv X pins σ H s):X.s₀.heap.objs.size<=s.heap.objs.size:=Nat.le_trans I.ok.above (Nat.le_of_lt I.lt)
theorem Inv.Y3 (I:Inv X pins σ H s) {a:Addr} (h:s.heap.objs.size<=a):a∉X.fs:=fun hb=>by
 obtain ⟨_,o,ho,_⟩:=I.ok.Nr.mem hb
 exact absurd (Nat.lt_of_lt_of_le (Heap.lt_size ho) (Nat.le_trans I.sz h)) (Nat.lt_irrefl _)
theorem Inv.cne (I:Inv X pins σ H s):∀ x c,X.env.cells.lookup x=some c->c≠X.env.locals:=fun x c e z=>by
 obtain ⟨v,o,ho,hd⟩:=I.cell x c e
 obtain ⟨m,⟨o',es,ep,ho',hd',_⟩,_⟩:=I.loc
 rw [z,ho'] at ho;cases ho;rw [hd'] at hd;cases hd
theorem Inv.Nr (I:Inv X pins σ H s):s.heap.FunFrames X.base X.outer:=by
 have all:∀ (l:List Env),(∀ b∈frs l,b∈X.fs)->X.s₀.heap.FunFrames X.base l->s.heap.FunFrames X.base l:=by
  intro l
  induction l with
  | nil=>intro _ _;trivial
  | cons env r ih =>
   intro hs hl
   obtain ⟨hk,⟨L,o,hf,hn,ho,hd⟩,hr⟩:=hl
   have hL:L∈X.fs:=hs L (by unfold frs;rw [List.filterMap_cons,hf];exact List.mem_cons_self)
   obtain ⟨sl,e⟩:=I.base.slot L o ho (I.ok.frf L hL) hL fun z=>I.ok.exfs L z hL
   exact ⟨hk,⟨L,_,hf,hn,e,hd⟩,ih (fun b hb=>hs b (by unfold frs;rw [List.filterMap_cons,hf];exact List.mem_cons_of_mem _ hb)) hr⟩
 exact all X.outer (fun _ hb=>hb) I.ok.Nr
theorem Inv.stack (I:Inv X pins σ H s):s.heap.FunFrames X.base X.stack:=by
 rcases I.ok.stk with e | ⟨e,hf⟩
 ·rw [e];exact I.Nr
 ·rw [e]
  obtain ⟨m,hn,_⟩:=I.loc
  refine .cons (by rw [I.ok.kind];decide) hf hn ?_ I.Nr
  exact Heap.get?_none_of_le (Nat.le_trans I.ok.bsz I.ok.above)
theorem Inv.LX (I:Inv X pins σ H s):∀ b∈frs X.stack,b∈X.env.locals :: X.fs:=fun b hb=>by
 rcases I.ok.stk with e | ⟨e,hf⟩
 ·rw [e] at hb;exact List.mem_cons_of_mem _ hb
 ·rw [e] at hb
  unfold frs at hb
  rw [List.filterMap_cons,hf] at hb
  exact hb
theorem Inv.NZ (I:Inv X pins σ H s):∀ b∈frs X.stack,H b=none:=fun b hb=>by
 rcases List.mem_cons.mp (I.LX b hb) with e | hb
 ·rw [e];exact I.free
 ·obtain ⟨_,o,ho,_⟩:=I.ok.Nr.mem hb
  exact I.base.free b o ho (I.ok.frf b hb) fun z=>I.ok.exfs b z hb
theorem Inv.step {g':Array GenState} {t':Nat} {d':Drawn} {ch:List Addr} (I:Inv X pins σ H s)
  (hch:∀ b∈ch,(b∈X.ex∨X.s₀.heap.objs.size<=b)/\b≠X.env.locals/\(∀ x c,X.env.cells.lookup x=some c->c≠b)/\∀ p∈X.pn++pins,p.1≠b)
  (keep:∀ b o,b≠X.env.locals->b∉X.fs->b∉ch->s.heap.get? b=some o->H b=none->h'.get? b=some o)
  (slot:∀ b o,b≠X.env.locals->b∈X.fs->b∉ch->s.heap.get? b=some o->H b=none->∃ sl,h'.get? b=some { o with slots:=sl }) (free:∀ b o,b∉ch->s.heap.get? b=some o->H b=none->H' b=none)
  (there:∀ b o,b∉ch->s.heap.get? b=some o->∃ o',h'.get? b=some o')
  (tups:∀ b xs,H b=some (.tup xs)->H' b=some (.tup xs)) (frzs:∀ b o u,H b=some (.frz o u)->H' b=some (.frz o u)) (tbls:∀ b ps,H b=some (.tbl ps)->∃ more,H' b=some (.tbl (ps++more)))
  (ns:∀ m,s.heap.Ns X.env.locals m->h'.Ns X.env.locals m) (hok:HOk X.prog X.w H' h') (hg:AllBare g') :
  Inv X pins σ H' { s with heap:=h',gens:=g',drawn:=d',toks:=t' }:=by
 have neL:∀ b o,X.s₀.heap.get? b=some o->b≠X.env.locals:=fun b o e=>Nat.ne_of_lt (Nat.lt_of_lt_of_le (Heap.lt_size e) I.ok.above)
 have neC:∀ b o,X.s₀.heap.get? b=some o->b∉X.ex->b∉ch:=fun b o e hx hb=>by
  rcases (hch b hb).1 with z | z
  ·exact hx z
  ·exact absurd (Nat.lt_of_lt_of_le (Heap.lt_size e) z) (Nat.lt_irrefl _)
 have cellK:∀ x c,X.env.cells.lookup x=some c->∀ v,s.heap.IsCell c v->h'.IsCell c v:=fun x c e v ⟨o,ho,hd⟩=>by
  have nch:c∉ch:=fun z=>(hch c z).2.2.1 x c e rfl
  by_cases hc:c∈X.fs
  ·obtain ⟨sl,q⟩:=slot c o (I.cne x c e) hc nch ho (I.freeC x c e)
   exact ⟨_,q,hd⟩
  ·exact ⟨o,keep c o (I.cne x c e) hc nch ho (I.freeC x c e),hd⟩
 refine ⟨I.ok,I.os,hg,⟨fun b o e n hb hx=>?_,fun b o e n hb hx=>?_,fun b o e n hx=>?_,fun b o e hx=>?_,fun b xs e=>tups b xs (I.base.tups b xs e),fun b o xs e=>frzs b o xs (I.base.frzs b o xs e),fun b ps e=>?_⟩,?_,fun x c e=>?_,?_,fun x c e=>?_,fun p hp=>?_,hok,I.len⟩
 ·exact keep b o (neL b o e) hb (neC b o e hx) (I.base.keep b o e n hb hx) (I.base.free b o e n hx)
 ·obtain ⟨sl,e1⟩:=I.base.slot b o e n hb hx
  obtain ⟨sl',e2⟩:=slot b _ (neL b o e) hb (neC b o e hx) e1 (I.base.free b o e n hx)
  exact ⟨sl',e2⟩
 ·obtain ⟨o',e1⟩:=I.base.there b o e hx
  exact free b o' (neC b o e hx) e1 (I.base.free b o e n hx)
 ·obtain ⟨o',e1⟩:=I.base.there b o e hx
  exact there b o' (neC b o e hx) e1
 ·obtain ⟨m1,e1⟩:=I.base.tbls b ps e
  obtain ⟨m2,e2⟩:=tbls b _ e1
  exact ⟨m1++m2,by rw [e2,Array.append_assoc]⟩
 ·obtain ⟨m,hn,hl⟩:=I.loc
  refine ⟨m,ns m hn,fun i x v e1 e2 e3=>?_⟩
  obtain ⟨u,r,l⟩:=hl i x v e1 e2 e3
  refine ⟨u,r,?_⟩
  rcases l with l | ⟨k,c,e,z⟩
  ·exact .inl l
  ·exact .inr ⟨k,c,e,cellK x c e _ z⟩
 ·obtain ⟨v,z⟩:=I.cell x c e
  exact ⟨v,cellK x c e v z⟩
 ·obtain ⟨m,⟨o,_,_,ho,_⟩,_⟩:=I.loc
  exact free _ o (fun z=>(hch _ z).2.1 rfl) ho I.free
 ·obtain ⟨v,o,ho,hd⟩:=I.cell x c e
  exact free c o (fun z=>(hch c z).2.2.1 x c e rfl) ho (I.freeC x c e)
 ·obtain ⟨e,n,ne,nf,d⟩:=I.pin p hp
  have nch:p.1∉ch:=fun z=>(hch p.1 z).2.2.2 p hp rfl
  exact ⟨keep p.1 p.2 ne nf nch e n,free p.1 p.2 nch e n,ne,nf,d⟩
theorem Inv.un {t':Nat} (I:Inv X pins σ H s) (u:Un X.fs [] H H' s.heap h') (hok:HOk X.prog X.w H' h'):Inv X pins σ H' { s with heap:=h',toks:=t' }:=by
 obtain ⟨m,⟨o,es,ep,ho,r⟩,_⟩:=id I.loc
 obtain ⟨sl,hL⟩:=u.any ho I.free (by simp)
 exact I.step (g':=s.gens) (d':=s.drawn) (ch:=[]) (fun _ z=>nomatch z) (fun b o _ hb _ e n=>u.keep b o e n hb (by simp)) (fun b o _ hb _ e n=>u.slot b o e n hb (by simp)) (fun b o _ e n=>u.free b o e n (by simp)) (fun b o _ e=>u.there b o e (by simp)) u.tups u.frzs u.tbls (fun m' hm=>by
  obtain ⟨o',es',ep',ho',r'⟩:=hm
  rw [ho] at ho';cases ho'
  exact ⟨_,es',ep',hL,r'⟩) hok I.bare
theorem Inv.call {g':Array GenState} {t':Nat} {d':Drawn} {ch:List Addr} (I:Inv X pins σ H s) (u:Un (frs X.stack) ch H H' s.heap h') (hok:HOk X.prog X.w H' h') (hg:AllBare g')
  (hch:∀ b∈ch,(b∈X.ex∨X.s₀.heap.objs.size<=b)/\b≠X.env.locals/\(∀ x c,X.env.cells.lookup x=some c->c≠b)/\∀ p∈X.pn++pins,p.1≠b) :
  Inv X pins σ H' { s with heap:=h',gens:=g',drawn:=d',toks:=t' }:=by
 obtain ⟨m,⟨o,es,ep,ho,r⟩,_⟩:=id I.loc
 obtain ⟨sl,hL⟩:=u.any ho I.free fun z=>(hch _ z).2.1 rfl
 exact I.step (ch:=ch) hch (fun b o hL hb hc e n=>u.keep b o e n (fun z=>(List.mem_cons.mp (I.LX b z)).elim hL hb) hc) (fun b o _ _ hc e n=>u.any e n hc) (fun b o hc e n=>u.free b o e n hc) (fun b o hc e=>u.there b o e hc) u.tups u.frzs u.tbls (fun m' hm=>by
  obtain ⟨o',es',ep',ho',r'⟩:=hm
  rw [ho] at ho';cases ho'
  exact ⟨_,es',ep',hL,r'⟩) hok hg
theorem Inv.turned {t':Nat} {it:Addr} (I:Inv X pins σ H s) (k:∀ b o,b≠it->s.heap.get? b=some o->h'.get? b=some o) (hn:H it=none) (hL:it≠X.env.locals)
  (h1:it∈X.ex∨X.s₀.heap.objs.size<=it) (h2:∀ x c,X.env.cells.lookup x=some c->c≠it) (h3:∀ p∈X.pn++pins,p.1≠it):Inv X pins σ H { s with heap:=h',toks:=t' }:=by
 have nit:∀ b u,H b=some u->b≠it:=fun b u e z=>by rw [z,hn] at e;cases e
 refine I.step (g':=s.gens) (d':=s.drawn) (ch:=[it]) (fun b hb=>?_) (fun b o _ _ hc e _=>k b o (fun z=>hc (by simp [z])) e) (fun b o _ _ hc e _=>⟨o.slots,k b o (fun z=>hc (by simp [z])) e⟩) (fun _ _ _ _ n=>n)
  (fun b o hc e=>⟨o,k b o (fun z=>hc (by simp [z])) e⟩) (fun _ _ e=>e) (fun _ _ _ e=>e) (fun b ps e=>⟨#[],by rw [e];simp⟩) (fun m hm=>?_) (fun b u e=>?_) I.bare
 ·have e:b=it:=by simpa using hb
  subst e
  exact ⟨h1,hL,h2,h3⟩
 ·obtain ⟨o,es,ep,ho,r⟩:=hm
  exact ⟨o,es,ep,k _ o (Ne.symm hL) ho,r⟩
 ·refine (I.hok b u e).SM (fun c v hc q=>k c v ?_ q) (fun _ q=>q) fun _ _ q=>q
  rcases hc with z | z
  ·rw [z];exact nit b u e
  ·exact nit c _ z
theorem Inv.tok (I:Inv X pins σ H s) (t:Nat):Inv X pins σ H { s with toks:=t }:=I.un (h':=s.heap) (t':=t) Un.refl I.hok
theorem Inv.kept {t':Nat} (I:Inv X pins σ H s) (k:∀ b u,s.heap.get? b=some u->h'.get? b=some u):Inv X pins σ H { s with heap:=h',toks:=t' }:=I.un (Un.kept k) (I.hok.kept k)
theorem Inv.laid {a:Addr} {o:HO} {t':Nat} (I:Inv X pins σ H s) (k:∀ b u,s.heap.get? b=some u->h'.get? b=some u) (hp:s.heap.objs.size<=a) (new:C3 X.prog X.w (upd H a o) h' a o) :
  Inv X pins σ (upd H a o) { s with heap:=h',toks:=t' }:=I.un (Un.laid k hp (I.hok.fresh hp)) (I.hok.laid k hp new)
theorem Inv.write {x e:Addr} {o:HO} {t':Nat} (I:Inv X pins σ H s) (mu:Mut (H x)) (he:e=x∨H e=some (.own x)) (k:∀ b u,b≠e->s.heap.get? b=some u->h'.get? b=some u) (heo:∃ u,h'.get? e=some u)
  (new:C3 X.prog X.w (upd H x o) h' x o):Inv X pins σ (upd H x o) { s with heap:=h',toks:=t' }:=I.un (Un.write mu he k heo) (I.hok.write mu he k heo new)
theorem Inv.Oj {pins':List (Addr×Obj)} (I:Inv X pins σ H s) (h:∀ p∈pins',s.heap.get? p.1=some p.2/\H p.1=none/\p.1≠X.env.locals/\p.1∉X.fs/\∀ v,p.2.data≠.cell v):Inv X pins' σ H s :=
 ⟨I.ok,I.os,I.bare,I.base,I.loc,I.cell,I.free,I.freeC,fun p hp=>(List.mem_append.mp hp).elim (fun z=>I.pin p (List.mem_append_left _ z)) (h p),I.hok,I.len⟩
theorem Mj {N:List Str} (hN:N.Nodup) {i j:Nat} {x:Str} (a:N[i]?=some x) (b:N[j]?=some x):i=j:=by
 obtain ⟨h1,e1⟩:=List.getElem?_eq_some_iff.mp a
 obtain ⟨h2,e2⟩:=List.getElem?_eq_some_iff.mp b
 exact (List.getElem_inj hN).mp (e1.trans e2.symm)
theorem J5 {M:Model} {A:Around} {E:Value->Shared->Prop} {i:Nat} {x:Str} {v:V} {u:Value} {Q:Unit->Shared->Prop} (I:Inv X pins σ H s) (hN:X.N.Nodup) (hi:X.N[i]?=some x) (hx:Loc X.env.scope x) (r:RelV v u)
  (h:∀ s',Inv X pins (σ.set i (some v)) H s'->(∃ a,Heap.SameBut a s.heap s'.heap/\(a=X.env.locals∨X.env.cells.lookup x=some a))->Q () s') (hf:X.fn x=true∨X.env.scope.names.lookup x=some .local:=by first | exact .inl rfl | exact .inr rfl | assumption):wpAny M A (storeName X.env x u) Q E s:=by
 obtain ⟨m,hn,hl⟩:=id I.loc
 have hcls:(X.env.scope.kind == .class || (X.env.scope.kind == .module && X.env.locals != X.env.globals))=false:=by rw [I.ok.kind];rfl
 have hiσ:i < σ.length:=by rw [I.len];exact (List.getElem?_eq_some_iff.mp hi).1
 have cne:=I.cne
 have tracked:∀ {a:Addr} {h':Heap},(∃ o,s.heap.get? a=some o/\H a=none)->Heap.SameBut a s.heap h'->HOk X.prog X.w H h':=fun {a h'} ha hs b ob e=>by
  obtain ⟨_,_,hfree⟩:=ha
  refine (I.hok b ob e).SM (fun c w' hc q=>(hs.2 c ?_).trans q) (fun _ q=>q) fun _ _ q=>q
  rintro rfl
  rcases hc with rfl | hc
  ·rw [hfree] at e;cases e
  ·rw [hfree] at hc;cases hc
 rcases hx with hk | hk
 ·refine wpAny_storeName_local hk hn (fun h' hn' hs=>?_) hcls
  obtain ⟨oL,_,_,hoL,_⟩:=id hn
  refine h _ ⟨I.ok,I.os,I.bare,⟨fun b o e n hb hx=>?_,fun b o e n hb hx=>?_,I.base.free,fun b o e hx=>?_,I.base.tups,I.base.frzs,I.base.tbls⟩,⟨_,hn',fun j y v' e1 e2 e3=>?_⟩,fun y c e=>?_,I.free,I.freeC,fun p hp=>?_,tracked ⟨oL,hoL,I.free⟩ hs,by simpa using I.len⟩ ⟨_,hs,.inl rfl⟩
  ·exact (hs.2 b (Nat.ne_of_lt (Nat.lt_of_lt_of_le (Heap.lt_size e) I.ok.above))).trans (I.base.keep b o e n hb hx)
  ·obtain ⟨sl,e1⟩:=I.base.slot b o e n hb hx
   exact ⟨sl,(hs.2 b (Nat.ne_of_lt (Nat.lt_of_lt_of_le (Heap.lt_size e) I.ok.above))).trans e1⟩
  ·obtain ⟨o',e1⟩:=I.base.there b o e hx
   exact ⟨o',(hs.2 b (Nat.ne_of_lt (Nat.lt_of_lt_of_le (Heap.lt_size e) I.ok.above))).trans e1⟩
  ·by_cases hj:j=i
   ·subst hj
    rw [hi] at e1;cases e1
    rw [List.getElem?_set_self hiσ] at e2
    cases e2
    exact ⟨u,r,.inl ⟨hk,by simp⟩⟩
   ·rw [List.getElem?_set_ne (Ne.symm hj)] at e2
    obtain ⟨u',r',q⟩:=hl j y v' e1 e2 e3
    refine ⟨u',r',?_⟩
    rcases q with ⟨k,e⟩ | ⟨k,c,e,z⟩
    ·refine .inl ⟨k,?_⟩
     have:y≠x:=fun e=>hj (Mj hN e1 (e▸hi))
     simp [this,e]
    ·exact .inr ⟨k,c,e,z.sameBut hs (cne y c e)⟩
  ·obtain ⟨w',z⟩:=I.cell y c e
   exact ⟨w',z.sameBut hs (cne y c e)⟩
  ·obtain ⟨e,n,ne,nf,d⟩:=I.pin p hp
   exact ⟨(hs.2 p.1 ne).trans e,n,ne,nf,d⟩
 ·have hfn:X.fn x=true:=by
   rcases hf with z | z
   ·exact z
   ·rw [z] at hk;cases hk
  obtain ⟨c,hc⟩:=I.ok.has x (.inl hk)
  obtain ⟨w',z⟩:=I.cell x c hc
  refine wpAny_storeName_cell I.ok.kind hk hc z (fun h' hc' hs=>?_)
  obtain ⟨oc,hoc,hocd⟩:=id z
  refine h { s with heap:=h' } ⟨I.ok,I.os,I.bare,⟨fun b o e n hb hx=>?_,fun b o e n hb hx=>?_,I.base.free,fun b o e hx=>?_,I.base.tups,I.base.frzs,I.base.tbls⟩,⟨m,hn.sameBut hs (Ne.symm (cne x c hc)),fun j y v' e1 e2 e3=>?_⟩,fun y c' e=>?_,I.free,I.freeC,fun p hp=>?_,tracked ⟨oc,hoc,I.freeC x c hc⟩ hs,by simpa using I.len⟩ ⟨c,hs,.inr hc⟩
  ·exact (hs.2 b (Nat.ne_of_lt (Nat.lt_of_lt_of_le (Heap.lt_size e) (I.ok.cab x c hfn hc)))).trans (I.base.keep b o e n hb hx)
  ·obtain ⟨sl,e1⟩:=I.base.slot b o e n hb hx
   exact ⟨sl,(hs.2 b (Nat.ne_of_lt (Nat.lt_of_lt_of_le (Heap.lt_size e) (I.ok.cab x c hfn hc)))).trans e1⟩
  ·obtain ⟨o',e1⟩:=I.base.there b o e hx
   exact ⟨o',(hs.2 b (Nat.ne_of_lt (Nat.lt_of_lt_of_le (Heap.lt_size e) (I.ok.cab x c hfn hc)))).trans e1⟩
  ·by_cases hj:j=i
   ·subst hj
    rw [hi] at e1;cases e1
    rw [List.getElem?_set_self hiσ] at e2
    cases e2
    exact ⟨u,r,.inr ⟨.inl hk,c,hc,hc'⟩⟩
   ·rw [List.getElem?_set_ne (Ne.symm hj)] at e2
    obtain ⟨u',r',q⟩:=hl j y v' e1 e2 e3
    refine ⟨u',r',?_⟩
    rcases q with q | ⟨k,c',e,z'⟩
    ·exact .inl q
    ·refine .inr ⟨k,c',e,z'.sameBut hs ?_⟩
     rintro rfl
     exact hj (Mj hN e1 (I.ok.inj _ _ _ e hc▸hi))
  ·by_cases hcc:c'=c
   ·subst hcc;exact ⟨_,hc'⟩
   ·obtain ⟨w2,z2⟩:=I.cell y c' e
    exact ⟨w2,z2.sameBut hs hcc⟩
  ·obtain ⟨e,n,ne,nf,d⟩:=I.pin p hp
   refine ⟨(hs.2 p.1 ?_).trans e,n,ne,nf,d⟩
   intro q
   rw [q,hoc] at e
   have q':oc=p.2:=Option.some.inj e
   exact d w' (by rw [<- q'];exact hocd)
theorem Jd {M:Model} {A:Around} {E:Value->Shared->Prop} {i:Nat} {x:Str} {v:V} {u:Value} {Q:Unit->Shared->Prop} (I:Inv X pins σ H s) (hN:X.N.Nodup) (hi:X.N[i]?=some x) (hx:Loc X.env.scope x) (r:RelV v u)
  (h:∀ s',Inv X pins (σ.set i (some v)) H s'->Q () s') (hf:X.fn x=true∨X.env.scope.names.lookup x=some .local:=by first | exact .inl rfl | exact .inr rfl | assumption):wpAny M A (storeName X.env x u) Q E s :=
 J5 I hN hi hx r (fun s' I' _=>h s' I') hf
theorem Inv.Yq {s':Shared} {ch:List Addr} (I:Inv X pins σ H s) (ho:s'.os=s.os) (u:Un (frs X.stack) ch H H' s.heap s'.heap) (hok:HOk X.prog X.w H' s'.heap) (hg:AllBare s'.gens)
  (hch:∀ b∈ch,(b∈X.ex∨X.s₀.heap.objs.size<=b)/\b≠X.env.locals/\(∀ x c,X.env.cells.lookup x=some c->c≠b)/\∀ p∈X.pn++pins,p.1≠b):Inv X pins σ H' s':=by
 obtain ⟨h',g',d',t',o'⟩:=s'
 have e:o'=s.os:=ho
 subst e
 exact I.call (g':=g') (t':=t') (d':=d') u hok hg hch
end
abbrev XK:=Value->Option Addr->Hp->Prop
abbrev St:=List (Option V)
abbrev VK:=V->Hp->Prop
abbrev TE:=St->Hp->VK->Prop
abbrev TT:=St->Hp->(Bool->Hp->Prop)->Prop
abbrev TA:=St->Hp->(List V->Hp->Prop)->Prop
structure Ends where
 nx:St->Hp->Prop
 rt:VK
 bk:St->Hp->Prop:=fun _ _=>False
 ct:St->Hp->Prop:=fun _ _=>False
abbrev TS:=Ends->St->Hp->Prop
def EP (X:Cx) (pins:List (Addr×Obj)) (σ:St) (Q:VK) (u:Value) (s':Shared):Prop:=∃ v H',Inv X pins σ H' s'/\RelV v u/\Q v H'
def TP (X:Cx) (pins:List (Addr×Obj)) (σ:St) (Q:Bool->Hp->Prop) (b:Bool) (s':Shared):Prop:=∃ H',Inv X pins σ H' s'/\Q b H'
def AP (X:Cx) (pins:List (Addr×Obj)) (σ:St) (Q:List V->Hp->Prop) (us:List Value) (s':Shared):Prop:=∃ vs H',Inv X pins σ H' s'/\Vals vs us/\Q vs H'
def SP (X:Cx) (pins:List (Addr×Obj)) (D:Ends) (f:Flow) (s':Shared):Prop :=
 match f with
 | .next=>∃ σ' H',Inv X pins σ' H' s'/\D.nx σ' H'
 | .brk=>∃ σ' H',Inv X pins σ' H' s'/\D.bk σ' H'
 | .cont=>∃ σ' H',Inv X pins σ' H' s'/\D.ct σ' H'
 | .ret u=>∃ v σ' H',Inv X pins σ' H' s'/\RelV v u/\D.rt v H'
def PE (X:Cx) (e:Expr) (t:TE):Prop :=
 ∀ (pins:List (Addr×Obj)) (s:Shared) (σ:St) (H:Hp) (Q:VK),Inv X pins σ H s->t σ H Q->wpAny (model X.prog X.w) X.A (eval e X.env) (EP X pins σ Q) X.xe s
def PT (X:Cx) (e:Expr) (t:TT):Prop :=
 ∀ (pins:List (Addr×Obj)) (s:Shared) (σ:St) (H:Hp) (Q:Bool->Hp->Prop),Inv X pins σ H s->t σ H Q->wpAny (model X.prog X.w) X.A (isTrue e X.env (eval e X.env)) (TP X pins σ Q) X.xe s
def PW (X:Cx) (e:Expr) (t:TT):Prop :=
 ∀ (whole:Sem Value) (pins:List (Addr×Obj)) (s:Shared) (σ:St) (H:Hp) (Q:Bool->Hp->Prop),Inv X pins σ H s->t σ H Q->wpAny (model X.prog X.w) X.A (isTrue e X.env whole) (TP X pins σ Q) X.xe s
theorem PW.pt {X:Cx} {e:Expr} {t:TT} (h:PW X e t):PT X e t:=h _
def PA (X:Cx) (es:List Expr) (t:TA):Prop :=
 ∀ (pos:Pos) (pins:List (Addr×Obj)) (s:Shared) (σ:St) (H:Hp) (Q:List V->Hp->Prop),Inv X pins σ H s->t σ H Q->wpAny (model X.prog X.w) X.A (spliced (backTo pos (starEach es X.env))) (AP X pins σ Q) X.xe s
def PS (X:Cx) (st:Stmt) (t:TS):Prop :=
 ∀ (pins:List (Addr×Obj)) (s:Shared) (σ:St) (H:Hp) (D:Ends),Inv X pins σ H s->t D σ H->wpAny (model X.prog X.w) X.A (exec st X.env) (SP X pins D) X.xe s
def PSs (X:Cx) (st:List Stmt) (t:TS):Prop :=
 ∀ (pins:List (Addr×Obj)) (s:Shared) (σ:St) (H:Hp) (D:Ends),Inv X pins σ H s->t D σ H->wpAny (model X.prog X.w) X.A (execs st X.env) (SP X pins D) X.xe s
theorem thn {α:Type} {t:Sem α} {Q Q':α->Shared->Prop} {M:Model} {A:Around} {E:Value->Shared->Prop} {s:Shared} (h:wpAny M A t Q E s) (hQ:∀ a s,Q a s->Q' a s):wpAny M A t Q' E s:=wpAny_mono h hQ fun _ _ x=>x
section
variable {X:Cx}
def UY (i:Nat):TE:=fun σ H Q=>∃ v,σ[i]?=some (some v)/\Q v H
def tC (v:V):TE:=fun _ H Q=>Q v H
theorem Vp {i:Nat} {x:Str} {pos:Pos} (hN:X.N[i]?=some x) (hv:Vis X.env.scope x) (hd:(x == ("__debug__":Str))=false:=by decide) (hcd:(x == ("__classdict__":Str))=false:=by decide):PE X (.Name x pos) (UY i):=by
 intro pins s σ H Q I h
 obtain ⟨v,e,h⟩:=h
 obtain ⟨m,hn,hl⟩:=I.loc
 obtain ⟨u,r,l⟩:=hl i x v hN e hv
 have fin:EP X pins σ Q u s:=⟨v,H,I,r,h⟩
 rcases l with ⟨hk,hm⟩ | ⟨hk,c,hc,hcell⟩
 ·exact wpAny_Name (wpAny_loadName_local I.ok.kind hk hn hm fin) hd
 ·rcases hk with hk | hk
  ·exact wpAny_Name (wpAny_loadName_cell I.ok.kind hk hc hcell fin) hd
  ·exact wpAny_Name (wpAny_loadName_free I.ok.kind hk hc hcell fin hcd) hd
theorem Mc {i j pos}:PE X (.Constant (.int i) j pos) (tC (.int i)):=fun _ _ _ H _ I h=>wpAny_Constant_int ⟨.int i,H,I.tok _,⟨_,rfl⟩,h⟩
theorem XM {b j pos}:PE X (.Constant (.bool b) j pos) (tC (.bl b)):=fun _ _ _ H _ I h=>Constant_bool ⟨.bl b,H,I,rfl,h⟩
theorem Vr {x j pos}:PE X (.Constant (.str x) j pos) (tC (.str x)):=fun _ _ _ H _ I h=>Calls.Constant_str ⟨.str x,H,I.tok _,⟨_,rfl⟩,h⟩
def Gl (X:Cx) (x:Str):Prop:=X.env.kindOf x=some .globalImplicit
theorem Lv {E:Value->Shared->Prop} {pins:List (Addr×Obj)} {s:Shared} {σ:St} {H:Hp} {x:Str} {u:Value} {pos:Pos} {Q:Value->Shared->Prop} (I:Inv X pins σ H s) (hg:Gl X x) (hm:X.mg x=some u) (h:Q u s)
  (hd:(x == ("__debug__":Str))=false:=by decide):wpAny (model X.prog X.w) X.A (eval (.Name x pos) X.env) Q E s :=
 Calls.Name_function_global I.ok.kind hg (Calls.loadGlobal_global (by rw [I.ok.glob];exact I.mod.glob.keeps I.bk) hm h) hd
theorem GZ {E:Value->Shared->Prop} {pins:List (Addr×Obj)} {s:Shared} {σ:St} {H:Hp} {x:Str} {u:Value} {pos:Pos} {Q:Value->Shared->Prop} (I:Inv X pins σ H s) (hg:Gl X x) (hm:X.mg x=none) (hv:bootBuiltins x=some u) (h:Q u s)
  (hn:x≠"__name__":=by decide) (hd:(x == ("__debug__":Str))=false:=by decide):wpAny (model X.prog X.w) X.A (eval (.Name x pos) X.env) Q E s:=by
 obtain ⟨mb,h1,h2⟩:=I.mod.blt
 exact Calls.Name_function_global I.ok.kind hg (Calls.loadGlobal_builtin (by rw [I.ok.glob];exact I.mod.glob.keeps I.bk) hm (by rw [I.ok.blt];exact h1.keeps I.bk) ((h2 x hn).trans hv) h) hd
theorem HD {x:Str} {v:V} {u:Value} {pos:Pos} (hg:Gl X x) (hm:X.mg x=some u) (r:RelV v u) (hd:(x == ("__debug__":Str))=false:=by decide):PE X (.Name x pos) (tC v) :=
 fun _ _ _ H _ I h=>Lv I hg hm ⟨v,H,I,r,h⟩ hd
theorem S8 {x:Str} {v:V} {u:Value} {pos:Pos} (hg:Gl X x) (hm:X.mg x=none) (hv:bootBuiltins x=some u) (r:RelV v u) (hn:x≠"__name__":=by decide) (hd:(x == ("__debug__":Str))=false:=by decide):PE X (.Name x pos) (tC v) :=
 fun _ _ _ H _ I h=>GZ I hg hm hv ⟨v,H,I,r,h⟩ hn hd
variable {a b:Expr} {ta tb:TE} {pos:Pos}
variable {tA tB':TT} {rest:List Expr}
def YX (t u:TT):TT:=fun σ H Q=>t σ H fun c H1=>if c=true then u σ H1 Q else Q false H1
def tOr (t u:TT):TT:=fun σ H Q=>t σ H fun c H1=>if c=true then Q true H1 else u σ H1 Q
def YR (t:TT):TT:=fun σ H Q=>t σ H fun c H1=>Q (!c) H1
theorem SS (ha:PT X a tA):PW X (.BoolOp .And [a] pos) tA:=by
 intro wh pins s σ H Q I h
 refine isTrue_and (thn (ha pins s σ H Q I h) fun c s1 e=>?_)
 cases c with
 | true=>exact isTrue_and_nil e
 | false=>exact e
theorem Vf (ha:PT X a tA):PW X (.BoolOp .Or [a] pos) tA:=by
 intro wh pins s σ H Q I h
 refine isTrue_or (thn (ha pins s σ H Q I h) fun c s1 e=>?_)
 cases c with
 | false=>exact isTrue_or_nil e
 | true=>exact e
theorem Vg (ha:PT X a tA) (hb:PW X (.BoolOp .And (b :: rest) pos) tB'):PW X (.BoolOp .And (a :: b :: rest) pos) (YX tA tB'):=by
 intro wh pins s σ H Q I h
 refine isTrue_and (thn (ha pins s σ H _ I h) fun c s1 ⟨H1,I1,q1⟩=>?_)
 cases c with
 | true=>exact hb wh pins s1 σ H1 Q I1 q1
 | false=>exact ⟨H1,I1,q1⟩
theorem Xw (ha:PT X a tA) (hb:PW X (.BoolOp .Or (b :: rest) pos) tB'):PW X (.BoolOp .Or (a :: b :: rest) pos) (tOr tA tB'):=by
 intro wh pins s σ H Q I h
 refine isTrue_or (thn (ha pins s σ H _ I h) fun c s1 ⟨H1,I1,q1⟩=>?_)
 cases c with
 | true=>exact ⟨H1,I1,q1⟩
 | false=>exact hb wh pins s1 σ H1 Q I1 q1
theorem Vh (ha:PT X a tA):PT X (.UnaryOp .Not a pos) (YR tA):=by
 intro pins s σ H Q I h
 exact isTrue_not (ha pins s σ H (fun c H1=>Q (!c) H1) I h)
def Xs (ta tb:TE):TE:=fun σ H Q=>ta σ H fun x H1=>∃ c,x=.bl c/\if c=true then tb σ H1 Q else Q (.bl false) H1
theorem Vs {op} {t:TE} (h:PE X a t):PE X (.BoolOp op [a] pos) t:=fun pins s σ H Q I hw=>BoolOp_one (h pins s σ H Q I hw)
theorem Vu (ha:PE X a ta) (hb:PE X (.BoolOp .And (b :: rest) pos) tb):PE X (.BoolOp .And (a :: b :: rest) pos) (Xs ta tb):=by
 intro pins s σ H Q I h
 refine BoolOp_and (thn (ha pins s σ H _ I h) fun v s1 ⟨x,H1,I1,r1,q1⟩=>?_)
 obtain ⟨c,rfl,q1⟩:=q1
 cases r1
 refine wpAny_truthy_bool ?_
 cases c with
 | true=>exact hb pins s1 σ H1 Q I1 q1
 | false=>exact ⟨.bl false,H1,I1,rfl,q1⟩
def tIf (t:TT) (ta tb:TE):TE:=fun σ H Q=>t σ H fun c H1=>if c=true then ta σ H1 Q else tb σ H1 Q
theorem QJ {c:Expr} (hc:PT X c tA) (ha:PE X a ta) (hb:PE X b tb):PE X (.IfExp c a b pos) (tIf tA ta tb):=by
 intro pins s σ H Q I h
 refine wpAny_IfExp (thn (hc pins s σ H _ I h) fun d s1 ⟨H1,I1,q1⟩=>?_)
 cases d with
 | true=>exact ha pins s1 σ H1 Q I1 q1
 | false=>exact hb pins s1 σ H1 Q I1 q1
end
def SqL (K:Fg) (H:Hp) (a:Addr) (xs:List V):Prop :=
 Rd H a (.lst xs) ∨
  ∃ (o:Obj) (its:Array Value) (n:Nat),K.lookup a=some o/\o.cls=.type "list"/\o.dict=none/\o.data=.seq its n/\its.size<=sizeLine/\Vals xs its.toList
def SqT (K:Fg) (H:Hp) (a:Addr) (xs:List V):Prop :=
 Rd H a (.tup xs) ∨
  ∃ (o:Obj) (its:Array Value) (n:Nat),K.lookup a=some o/\o.cls=.type "tuple"/\o.data=.seq its n/\its.size<=sizeLine/\Vals xs its.toList
def Zg:Value->Option V
 | .none=>some .non
 | .bool b=>some (.bl b)
 | .int i _=>some (.int i)
 | .str x _=>some (.str x)
 | .bytes b _=>some (.byt b)
 | .float b _=>some (.flt b)
 | .ref a=>some (.ref a)
 | .type n=>some (.ty n)
 | _=>none
theorem RelV.abs {x:V} {u:Value} (r:RelV x u):Zg u=some x:=by
 cases x with
 | non=>cases r;rfl
 | bl _=>cases r;rfl
 | int _=>obtain ⟨t,rfl⟩:=r;rfl
 | str _=>obtain ⟨t,rfl⟩:=r;rfl
 | byt _=>obtain ⟨t,rfl⟩:=r;rfl
 | flt _=>obtain ⟨t,rfl⟩:=r;rfl
 | ref _=>cases r;rfl
 | ty _=>cases r;rfl
theorem RelV.inj {x y:V} {u:Value} (r:RelV x u) (q:RelV y u):x=y:=Option.some.inj (r.abs.symm.trans q.abs)
theorem Vals.inj:∀ {xs ys:List V} {us:List Value},Vals xs us->Vals ys us->xs=ys
 | _,_,_,.nil,.nil=>rfl
 | _,_,_,.cons r t,.cons r' t'=>by rw [r.inj r',Vals.inj t t']
section
variable {X:Cx} {pins:List (Addr×Obj)} {σ:St} {H:Hp} {s:Shared} {a:Addr} {xs ys:List V}
theorem SqL.of {K:Fg} (h:H a=some (.lst xs)):SqL K H a xs:=.inl (.inl h)
theorem SqT.of {K:Fg} (h:H a=some (.tup xs)):SqT K H a xs:=.inl (.inl h)
theorem Inv.list (I:Inv X pins σ H s) (h:SqL X.K H a xs):∃ its:List Value,Vals xs its/\PlainL s.heap a its.toArray/\xs.length<=sizeLine:=by
 rcases h with h | ⟨o,its,n,hk,hc,hd,hs,hz,r⟩
 ·obtain ⟨z,its,n,r,e⟩:=h.ok I.hok
  exact ⟨its,r,⟨_,n,e,rfl,rfl,rfl⟩,z⟩
 ·refine ⟨its.toList,r,⟨o,n,I.kIn a o hk,hc,hd,by simpa using hs⟩,?_⟩
  have e:=r.length
  simp only [Array.length_toList] at e
  omega
theorem Inv.tuple (I:Inv X pins σ H s) (h:SqT X.K H a xs):∃ its:List Value,Vals xs its/\IsTup s.heap a its.toArray/\xs.length<=sizeLine:=by
 rcases h with h | ⟨o,its,n,hk,hc,hs,hz,r⟩
 ·obtain ⟨z,its,r,p⟩:=h.ok I.hok
  exact ⟨its,r,p,z⟩
 ·refine ⟨its.toList,r,⟨o,I.kIn a o hk,hc,n,by simpa using hs⟩,?_⟩
  have e:=r.length
  simp only [Array.length_toList] at e
  omega
theorem Inv.Mn (I:Inv X pins σ H s) (h:SqL X.K H a xs) (h':SqL X.K H a ys):xs=ys:=by
 obtain ⟨its,r,⟨o,n,e,_,_,d⟩,_⟩:=I.list h
 obtain ⟨its',r',⟨o',n',e',_,_,d'⟩,_⟩:=I.list h'
 rw [e] at e';cases e'
 rw [d] at d'
 injection d' with d1 _
 have:its=its':=by simpa using congrArg Array.toList d1
 subst this
 exact r.inj r'
theorem Inv.J4 (I:Inv X pins σ H s) (h:SqT X.K H a xs) (h':SqT X.K H a ys):xs=ys:=by
 obtain ⟨its,r,⟨o,e,_,n,d⟩,_⟩:=I.tuple h
 obtain ⟨its',r',⟨o',e',_,n',d'⟩,_⟩:=I.tuple h'
 rw [e] at e';cases e'
 rw [d] at d'
 injection d' with d1 _
 have:its=its':=by simpa using congrArg Array.toList d1
 subst this
 exact r.inj r'
end
abbrev Cx.Qd (X:Cx) (E:Value->Shared->Prop):Cx:={ X with xe:=E }
abbrev Cx.nox (X:Cx):Cx:=X.Qd fun _ _=>False
theorem Cx.Ok.Qd {X:Cx} (ok:X.Ok) (E:Value->Shared->Prop):(X.Qd E).Ok :=
 ⟨ok.mod,ok.kind,ok.glob,ok.blt,ok.above,ok.inj,ok.has,ok.cab,ok.hd,ok.frames,ok.stk,ok.exf,ok.bs,ok.bsz,ok.noex,ok.exfs,ok.Nr,ok.frf⟩
theorem Cx.Ok.GR {X:Cx} {E:Value->Shared->Prop} (ok:(X.Qd E).Ok):X.Ok :=
 ⟨ok.mod,ok.kind,ok.glob,ok.blt,ok.above,ok.inj,ok.has,ok.cab,ok.hd,ok.frames,ok.stk,ok.exf,ok.bs,ok.bsz,ok.noex,ok.exfs,ok.Nr,ok.frf⟩
section
variable {X:Cx} {pins:List (Addr×Obj)} {σ:St} {H:Hp} {s:Shared} {E:Value->Shared->Prop}
theorem Inv.Qd (I:Inv X pins σ H s) (E:Value->Shared->Prop):Inv (X.Qd E) pins σ H s:=⟨I.ok.Qd E,I.os,I.bare,I.base,I.loc,I.cell,I.free,I.freeC,I.pin,I.hok,I.len⟩
theorem Inv.GR (I:Inv (X.Qd E) pins σ H s):Inv X pins σ H s:=⟨I.ok.GR,I.os,I.bare,I.base,I.loc,I.cell,I.free,I.freeC,I.pin,I.hok,I.len⟩
theorem SP.GR {D:Ends} {f:Flow} {s':Shared} (h:SP (X.Qd E) pins D f s'):SP X pins D f s':=by
 cases f with
 | next=>obtain ⟨σ',H',I,q⟩:=h;exact ⟨σ',H',I.GR,q⟩
 | brk=>obtain ⟨σ',H',I,q⟩:=h;exact ⟨σ',H',I.GR,q⟩
 | cont=>obtain ⟨σ',H',I,q⟩:=h;exact ⟨σ',H',I.GR,q⟩
 | ret u=>obtain ⟨v,σ',H',I,r,q⟩:=h;exact ⟨v,σ',H',I.GR,r,q⟩
theorem PSs.nox {st:List Stmt} {t:TS} (h:PSs X.nox st t):PSs X st t:=fun pins s σ H D I hw =>
 wpAny_mono (h pins s σ H D (I.Qd _) hw) (fun _ _ q=>q.GR) fun _ _ z=>False.elim z
end
section
variable {X:Cx} {st:Stmt} {rest:List Stmt} {t u:TS} {e:Expr} {te:TE} {pos:Pos}
def Xo:TS:=fun D σ H=>D.nx σ H
def YO (t u:TS):TS:=fun D σ H=>t { D with nx:=u D } σ H
theorem SV:PSs X [] Xo:=fun _ _ σ H _ I h=>wpAny_execs_nil ⟨σ,H,I,h⟩
theorem QB (h1:PS X st t) (h2:PSs X rest u):PSs X (st :: rest) (YO t u):=by
 intro pins s σ H D I h
 refine wpAny_execs_cons (thn (h1 pins s σ H { D with nx:=u D } I h) fun f s1 q=>?_)
 cases f with
 | next =>
  obtain ⟨σ',H',I',q⟩:=q
  exact h2 pins s1 σ' H' D I' q
 | ret v=>exact q
 | brk=>exact q
 | cont=>exact q
theorem SU (h1:PS X st t):PSs X [st] t:=by
 intro pins s σ H D I h
 refine wpAny_execs_cons (thn (h1 pins s σ H D I h) fun f s1 q=>?_)
 cases f with
 | next=>exact wpAny_execs_nil q
 | ret v=>exact q
 | brk=>exact q
 | cont=>exact q
theorem Inv.quiet {pins:List (Addr×Obj)} {σ:St} {H:Hp} {s:Shared} (I:Inv X pins σ H s):interactive X.env=false:=by simp [interactive,I.ok.kind]
def Xq (te:TE):TS:=fun D σ H=>te σ H fun _ H1=>D.nx σ H1
theorem Lk (he:PE X e te) (hs:swapsWith e none pos.line X.env=pure false:=by rfl):PS X (.Expr e pos) (Xq te):=by
 intro pins s σ H D I h
 exact wpAny_Expr_any (thn (he pins s σ H _ I h) fun v s1 ⟨x,H1,I1,r1,q1⟩=>⟨σ,H1,I1,q1⟩) I.quiet hs
def YQ (te:TE):TS:=fun D σ H=>te σ H D.rt
theorem Vj (he:PE X e te):PS X (.Return (some e) pos) (YQ te):=by
 intro pins s σ H D I h
 exact wpAny_Return_some (thn (he pins s σ H _ I h) fun v s1 ⟨x,H1,I1,r1,q1⟩=>⟨x,σ,H1,I1,r1,q1⟩)
def YT (c:TT) (t u:TS):TS:=fun D σ H=>c σ H fun b H1=>if b=true then t D σ H1 else u D σ H1
theorem Xx {c:Expr} {a b:List Stmt} {tc:TT} (hc:PT X c tc) (ha:PSs X a t) (hb:PSs X b u):PS X (.If c a b pos) (YT tc t u):=by
 intro pins s σ H D I h
 refine wpAny_If (thn (hc pins s σ H _ I h) fun d s1 ⟨H1,I1,q1⟩=>?_)
 cases d with
 | true=>exact ha pins s1 σ H1 D I1 q1
 | false=>exact hb pins s1 σ H1 D I1 q1
def UZ:TS:=fun _ _ _=>False
theorem QC:PS X st UZ:=fun _ _ _ _ _ _ h=>h.elim
end
abbrev TG:=V->St->Hp->(St->Hp->Prop)->Prop
abbrev TGs:=List V->St->Hp->(St->Hp->Prop)->Prop
def PG (X:Cx) (target:Expr) (t:TG):Prop :=
 ∀ (pins:List (Addr×Obj)) (s:Shared) (σ:St) (H:Hp) (v:V) (u:Value) (Q:St->Hp->Prop),Inv X pins σ H s->RelV v u->t v σ H Q ->
  wpAny (model X.prog X.w) X.A (assign target X.env u) (fun _ s'=>∃ σ' H',Inv X pins σ' H' s'/\Q σ' H') X.xe s
def PGs (X:Cx) (ts:List Expr) (t:TGs):Prop :=
 ∀ (pins:List (Addr×Obj)) (s:Shared) (σ:St) (H:Hp) (vs:List V) (us:List Value) (Q:St->Hp->Prop),Inv X pins σ H s->Vals vs us->t vs σ H Q ->
  wpAny (model X.prog X.w) X.A (assignInOrder ((assignEach ts X.env).map (·.2)) us) (fun _ s'=>∃ σ' H',Inv X pins σ' H' s'/\Q σ' H') X.xe s
abbrev Ss:=V->V->V->Hp->(Hp->Prop)->Prop
def Rx (X:Cx) (t:Ss):Prop :=
 ∀ (pins:List (Addr×Obj)) (s:Shared) (σ:St) (H:Hp) (o i v:V) (ov iv u:Value) (Q:Hp->Prop),Inv X pins σ H s->RelV o ov->RelV i iv->RelV v u->t o i v H Q ->
  wpAny (model X.prog X.w) X.A (setItem ov iv u) (fun _ s'=>∃ H',Inv X pins σ H' s'/\Q H') X.xe s
abbrev TIp:=V->V->Hp->VK->Prop
def PIp (X:Cx) (op:Operator) (t:TIp):Prop :=
 ∀ (pins:List (Addr×Obj)) (s:Shared) (σ:St) (H:Hp) (x y:V) (v u:Value) (Q:VK),Inv X pins σ H s->RelV x v->RelV y u->t x y H Q ->
  wpAny (model X.prog X.w) X.A (inplaceOp op v u) (EP X pins σ Q) X.xe s
section
variable {X:Cx} {pos:Pos}
def Q6 (i:Nat):TG:=fun v σ H Q=>Q (σ.set i (some v)) H
theorem S0 {i:Nat} {x:Str} (hN:X.N.Nodup) (hi:X.N[i]?=some x) (hx:Loc X.env.scope x) (hf:X.fn x=true∨X.env.scope.names.lookup x=some .local:=by first | exact .inl rfl | exact .inr rfl | assumption):PG X (.Name x pos) (Q6 i):=by
 intro pins s σ H v u Q I r h
 exact wpAny_assign_Name (Jd I hN hi hx r (fun s' I'=>⟨_,H,I',h⟩) hf)
def Zc:TGs:=fun vs σ H Q=>vs=[]/\Q σ H
def Wj (t:TG) (u:TGs):TGs:=fun vs σ H Q=>∃ v r,vs=v :: r/\t v σ H fun σ' H'=>u r σ' H' Q
theorem SY:PGs X [] Zc:=by
 intro pins s σ H vs us Q I r h
 obtain ⟨e,h⟩:=h
 subst e
 cases r
 exact assignInOrder_nil ⟨σ,H,I,h⟩
theorem A0 {e:Expr} {es:List Expr} {t:TG} {u:TGs} (h1:PG X e t) (h2:PGs X es u)
  (hs:(assignEach (e :: es) X.env).map (·.2)=assign e X.env :: (assignEach es X.env).map (·.2):=by rfl):PGs X (e :: es) (Wj t u):=by
 intro pins s σ H vs us Q I r h
 obtain ⟨v,vr,e1,h⟩:=h
 subst e1
 cases r with
 | cons r rr =>
  rw [hs]
  refine assignInOrder_cons (thn (h1 pins s σ H _ _ _ I r h) fun _ s1 ⟨σ1,H1,I1,q1⟩=>?_)
  exact h2 pins s1 σ1 H1 _ _ Q I1 rr q1
def Zb (K:Fg) (n:Nat) (t:TGs):TG:=fun v σ H Q=>∃ a xs,v=.ref a/\SqT K H a xs/\xs.length=n/\t xs σ H Q
theorem Vo {es:List Expr} {k:Nat} {t:TGs} {n:Nat} (hc:X.calm=true) (h:PGs X es t)
  (hn:(assignEach es X.env).length=n:=by rfl) (hst:(assignEach es X.env).findIdx? (·.1)=none:=by rfl):PG X (.Tuple es k pos) (Zb X.K n t):=by
 intro pins s σ H v u Q I r hw
 obtain ⟨a,xs,e1,hq,hl,hw⟩:=hw
 subst e1
 cases r
 obtain ⟨its,rv,ht,hz⟩:=I.tuple hq
 refine assign_Tuple_tuple (I.ok.hd hc) ht (by simp [hn,<- hl,rv.length]) hst fun h' hx=>?_
 have I1:Inv X pins σ H { s with heap:=h' }:=I.kept (t':=s.toks) fun b o e=>hx b o (Nat.ne_of_lt (Heap.lt_size e)) e
 exact h pins _ σ H xs _ Q I1 (by simpa using rv) hw
def Yc (to ti:TE) (t:Ss):TG:=fun v σ H Q=>to σ H fun o H1=>ti σ H1 fun i H2=>t o i v H2 fun H3=>Q σ H3
theorem RS {o i:Expr} {to ti:TE} {t:Ss} (ho:PE X o to) (hi:PE X i ti) (hs:Rx X t)
  (ha:∀ v,assign (.Subscript o i pos) X.env v=(do
   let ov <- holding [v] (eval o X.env)
   let iv <- holding [v,ov] (eval i X.env)
   standAt pos
   holding [v,ov,iv] (setItem ov iv v)
   release [v,ov,iv] []):=by intro _;rfl):PG X (.Subscript o i pos) (Yc to ti t):=by
 intro pins s σ H v u Q I r h
 rw [ha]
 refine wpAny_bind (wpAny_holding (thn (ho pins s σ H _ I h) fun ov s1 ⟨x,H1,I1,r1,q1⟩=>?_))
 refine wpAny_bind (wpAny_holding (thn (hi pins s1 σ H1 _ I1 q1) fun iv s2 ⟨y,H2,I2,r2,q2⟩=>?_))
 refine wpAny_bind (wpAny_standAt (wpAny_bind (wpAny_holding (thn (hs pins s2 σ H2 x y v ov iv u _ I2 r1 r2 r q2) fun _ s3 ⟨H3,I3,q3⟩=>?_))))
 exact wpAny_release ⟨σ,H3,I3,q3⟩
def U3 (te:TE) (g:TG):TS:=fun D σ H=>te σ H fun x H1=>g x σ H1 D.nx
theorem Og {tg e:Expr} {te:TE} {g:TG} (he:PE X e te) (hg:PG X tg g) (hs:swapsWithSole [tg] e pos.line X.env=pure false:=by rfl) (hw:swappedStores [tg] e X.env=pure none:=by rfl)
  (h1:(assignEach [tg] X.env).map (·.2)=[assign tg X.env]:=by rfl):PS X (.Assign [tg] e pos) (U3 te g):=by
 intro pins s σ H D I h
 refine wpAny_Assign_stores (thn (he pins s σ H _ I h) fun v s1 ⟨x,H1,I1,r1,q1⟩=>?_) hs hw
 rw [h1]
 exact thn (hg pins s1 σ H1 x v _ I1 r1 q1) fun _ s2 q=>q
theorem Vi {i:Nat} {x:Str} {e:Expr} {te:TE} {pos':Pos} (hN:X.N.Nodup) (hi:X.N[i]?=some x) (hx:Loc X.env.scope x) (he:PE X e te) (hs:swapsWith e (some (.Name x pos')) pos.line X.env=pure false:=by rfl) (hf:X.fn x=true∨X.env.scope.names.lookup x=some .local:=by first | exact .inl rfl | exact .inr rfl | assumption) :
  PS X (.Assign [.Name x pos'] e pos) (U3 te (Q6 i)):=by
 intro pins s σ H D I h
 refine wpAny_Assign_Name (thn (he pins s σ H _ I h) fun v s1 ⟨y,H1,I1,r1,q1⟩=>?_) hs
 exact Jd I1 hN hi hx r1 (fun s2 I2=>⟨_,H1,I2,q1⟩) hf
def YW (i:Nat) (te:TE) (ti:TIp):TS:=fun D σ H=>∃ x,σ[i]?=some (some x)/\te σ H fun y H1=>ti x y H1 fun z H2=>D.nx (σ.set i (some z)) H2
theorem Of {i:Nat} {x:Str} {e:Expr} {te:TE} {op:Operator} {ti:TIp} {pos':Pos} (hN:X.N.Nodup) (hi:X.N[i]?=some x) (hx:Loc X.env.scope x) (he:PE X e te) (ho:PIp X op ti) (hf:X.fn x=true∨X.env.scope.names.lookup x=some .local:=by first | exact .inl rfl | exact .inr rfl | assumption) :
  PS X (.AugAssign (.Name x pos') op e pos) (YW i te ti):=by
 intro pins s σ H D I h
 obtain ⟨v,e1,h⟩:=h
 obtain ⟨m,hn,hl⟩:=I.loc
 have vis:Vis X.env.scope x:=by rcases hx with k | k;exact .inl k;exact .inr (.inl k)
 obtain ⟨u,r,l⟩:=hl i x v hi e1 vis
 refine wpAny_AugAssign_Name ?_
 have go:wpAny (model X.prog X.w) X.A (eval e X.env) (fun w s₂=>wpAny (model X.prog X.w) X.A (inplaceOp op u w) (fun r s₃=>wpAny (model X.prog X.w) X.A (storeName X.env x r) (fun _=>SP X pins D .next) X.xe s₃) X.xe s₂) X.xe s:=by
  refine thn (he pins s σ H _ I h) fun w s1 ⟨y,H1,I1,r1,q1⟩=>?_
  refine thn (ho pins s1 σ H1 v y u w _ I1 r r1 q1) fun z s2 ⟨zv,H2,I2,r2,q2⟩=>?_
  exact Jd I2 hN hi hx r2 (fun s3 I3=>⟨_,H2,I3,q2⟩) hf
 rcases l with ⟨hk,hm⟩ | ⟨hk,c,hc,hcell⟩
 ·exact wpAny_loadName_local I.ok.kind hk hn hm go
 ·rcases hk with hk | hk
  ·exact wpAny_loadName_cell I.ok.kind hk hc hcell go
  ·rcases hx with k | k
   ·have:X.env.scope.names.lookup x=some .free:=hk
    rw [k] at this;cases this
   ·have:X.env.scope.names.lookup x=some .free:=hk
    rw [k] at this;cases this
def ipI (f:Int->Int->Int):TIp:=fun x y H Q=>∃ i j,x=.int i/\y=.int j/\Q (.int (f i j)) H
theorem V4:PIp X .Add (ipI fun i j=>i+j):=by
 intro pins s σ H x y v u Q I r1 r2 h
 obtain ⟨i,j,e1,e2,q⟩:=h
 subst e1;subst e2
 obtain ⟨t,rfl⟩:=r1
 obtain ⟨t',rfl⟩:=r2
 exact iadd_int ⟨.int _,H,I.tok _,⟨_,rfl⟩,q⟩
theorem V3:PIp X .Sub (ipI fun i j=>i - j):=by
 intro pins s σ H x y v u Q I r1 r2 h
 obtain ⟨i,j,e1,e2,q⟩:=h
 subst e1;subst e2
 obtain ⟨t,rfl⟩:=r1
 obtain ⟨t',rfl⟩:=r2
 exact isub_int ⟨.int _,H,I.tok _,⟨_,rfl⟩,q⟩
end
section
variable {X:Cx} {pos:Pos}
end
structure It where
 go:Nat->Hp->Prop
 yld:Nat->Hp->V->Hp->Prop
 stop:Nat->Hp->Prop
def Lc (X:Cx) (pins:List (Addr×Obj)) (H:Hp) (b:Addr):Prop :=
 H b=none/\b≠X.env.locals/\b∉X.fs/\(b∈X.ex∨X.s₀.heap.objs.size<=b)/\(∀ x c,X.env.cells.lookup x=some c->c≠b)/\∀ p∈X.pn++pins,p.1≠b
theorem Inv.Ug {X:Cx} {pins:List (Addr×Obj)} {σ:St} {H H':Hp} {s:Shared} {b:Addr} (I:Inv X pins σ H s) (hb:s.heap.objs.size<=b) (hn:H' b=none):Lc X pins H' b:=by
 refine ⟨hn,Nat.ne_of_gt (Nat.lt_of_lt_of_le I.lt hb),I.Y3 hb,.inr (Nat.le_trans I.sz hb),fun x c e z=>?_,fun p hp z=>?_⟩
 ·obtain ⟨v,q⟩:=I.cell x c e
  exact absurd (Nat.lt_of_lt_of_le q.lt (by rw [z];exact hb)) (Nat.lt_irrefl _)
 ·exact absurd (Nat.lt_of_lt_of_le (Heap.lt_size (I.pin p hp).1) (by rw [z];exact hb)) (Nat.lt_irrefl _)
structure Turn (P:Program) (w:World) (K:Fg) (tg:Expr) (J:It) (fp:List Addr) (it:Addr) (tn:Nat->Heap->Prop):Prop where
 mem:it∈fp
 obj:∀ i h,tn i h->∀ b∈fp,∃ o,h.get? b=some o/\∀ v,o.data≠.cell v
 keep:∀ i h h',tn i h->(∀ b∈fp,∀ o,h.get? b=some o->h'.get? b=some o)->tn i h'
 item:∀ (X:Cx),X.prog=P->X.w=w->X.K=K->X.calm=true->∀ (i:Nat) (pins:List (Addr×Obj)) (s:Shared) (σ:St) (H:Hp) (E:Value->Shared->Prop),Inv X pins σ H s->(∀ b∈fp,Lc X pins H b)->tn i s.heap->J.go i H ->
  wpAny (model P w) X.A (pyNext (.ref it)) (fun r s1=>∃ u,r=some u /\
   wpAny (model P w) X.A (letOwnedTupleGo tg (.ref it) u) (fun _ s2=>∃ x H',Inv X pins σ H' s2/\RelV x u/\J.yld i H x H'/\tn (i+1) s2.heap/\∀ b∈fp,H' b=none) E s1) E s
 done:∀ (X:Cx),X.prog=P->X.w=w->X.K=K->X.calm=true->∀ (i:Nat) (pins:List (Addr×Obj)) (s:Shared) (σ:St) (H:Hp) (E:Value->Shared->Prop),Inv X pins σ H s->(∀ b∈fp,Lc X pins H b)->tn i s.heap->J.stop i H ->
  wpAny (model P w) X.A (pyNext (.ref it)) (fun r s1=>r=none/\Inv X pins σ H s1) E s
 self:∀ (A:Around) (i:Nat) (s:Shared) (Q:Value->Shared->Prop) (E:Value->Shared->Prop),tn i s.heap->Q (.ref it) s->wpAny (model P w) A (pyIter (.ref it)) Q E s
abbrev TI:=St->Hp->(It->Hp->Prop)->Prop
def PIE (X:Cx) (pins:List (Addr×Obj)) (σ:St) (tg:Expr) (R:It->Hp->Prop) (itv:Value) (s2:Shared):Prop :=
 ∃ (it:Addr) (fp:List Addr) (tn:Nat->Heap->Prop) (J:It) (H':Hp),itv=.ref it/\Inv X pins σ H' s2/\Turn X.prog X.w X.K tg J fp it tn/\tn 0 s2.heap/\(∀ b∈fp,Lc X pins H' b)/\R J H'
def PI (X:Cx) (tg iter:Expr) (wi:TI):Prop :=
 ∀ (pins:List (Addr×Obj)) (s:Shared) (σ:St) (H:Hp) (R:It->Hp->Prop),Inv X pins σ H s->wi σ H R ->
  wpAny (model X.prog X.w) X.A (eval iter X.env) (fun v s1=>wpAny (model X.prog X.w) X.A (pyIter v) (PIE X pins σ tg R) X.xe s1) X.xe s
theorem Q1 {M:Model} {A:Around} {E:Value->Shared->Prop} {s:Shared} {tg:Expr} {it:Addr} {u:Value} {o:Obj} {n:String} {vs:Array Value} {Q:Unit->Shared->Prop} (ho:s.heap.get? it=some o) (hc:o.cls=.type n) (hd:o.data=.fields vs)
    (hn:["enumerate","zip","dict_itemiterator","dict_reverseitemiterator","odict_iterator","itertools.zip_longest","itertools.pairwise"].contains n=false) (hQ:Q () s):wpAny M A (letOwnedTupleGo tg (.ref it) u) Q E s:=by
  unfold letOwnedTupleGo
  cases tg <;> first
    | exact wpAny_pure hQ
    | (cases u <;> first
        | exact wpAny_pure hQ
        | (refine wpAny_bind (wpAny_load ho ?_)
           rw [hc,hd]
           show wpAny M A (if (["enumerate","zip","dict_itemiterator","dict_reverseitemiterator","odict_iterator","itertools.zip_longest","itertools.pairwise"].contains n && vs[0]? == some (rawInt _))=true then _ else _) Q E s
           rw [if_neg (by intro h;rw [hn,Bool.false_and] at h;cases h)]
           exact wpAny_pure hQ))
def Itl (K:Fg) (a:Addr):It :=
 ⟨fun i H=>∃ xs x,SqL K H a xs/\xs[i]?=some x,fun i H x H'=>H'=H/\∀ xs,SqL K H a xs->xs[i]?=some x,fun i H=>∃ xs,SqL K H a xs/\xs.length<=i⟩
def Itt (K:Fg) (a:Addr):It :=
 ⟨fun i H=>∃ xs x,SqT K H a xs/\xs[i]?=some x,fun i H x H'=>H'=H/\∀ xs,SqT K H a xs->xs[i]?=some x,fun i H=>∃ xs,SqT K H a xs/\xs.length<=i⟩
def Itr (lo:Int) (n:Nat):It:=⟨fun i _=>i < n,fun i H x H'=>H'=H/\x=.int (lo+i),fun i _=>n<=i⟩
theorem NS {P:Program} {w:World} {K:Fg} {tg:Expr} (a it:Addr):Turn P w K tg (Itl K a) [it] it (fun i h=>h.IsListIter it a i) where
 mem:=by simp
 obj:=fun i h st b hb=>by
  have e:b=it:=by simpa using hb
  subst e
  obtain ⟨o,e,c,d⟩:=st
  exact ⟨o,e,fun v z=>by rw [d] at z;cases z⟩
 keep:=fun i h h' st k=>st.at fun o e=>k it (by simp) o e
 item:=by
  intro X hP hw hK hc i pins s σ H E I hf st hg
  subst hP hw hK
  obtain ⟨xs,x,hq,hx⟩:=hg
  obtain ⟨its,rv,p,hz⟩:=I.list hq
  obtain ⟨u,hu,ru⟩:=rv.get hx
  obtain ⟨f0,f1,f2,f3,f4,f5⟩:=hf it (by simp)
  refine wpAny_pyNext_list_item st p.isList (x:=u) (by simpa using hu) fun h' st' sb=>?_
  have I1:Inv X pins σ H { s with heap:=h' }:=I.turned (t':=s.toks) (fun b o hb e=>(sb.2 b hb).trans e) f0 f1 f3 f4 f5
  obtain ⟨o,e,c,d⟩:=id st'
  exact ⟨u,rfl,Q1 (s:={ s with heap:=h' }) e c d (by decide) ⟨x,H,I1,ru,⟨rfl,fun ys hy=>by rw [I.Mn hy hq];exact hx⟩,st',fun b hb=>(hf b hb).1⟩⟩
 done:=by
  intro X hP hw hK hc i pins s σ H E I hf st hg
  subst hP hw hK
  obtain ⟨xs,hq,hx⟩:=hg
  obtain ⟨its,rv,p,hz⟩:=I.list hq
  obtain ⟨f0,f1,f2,f3,f4,f5⟩:=hf it (by simp)
  have hl:=rv.length
  exact wpAny_pyNext_list_end (I.ok.hd hc) st p.isList (by simp;omega) fun h' eb=>⟨rfl,I.turned (t':=s.toks) (fun b o hb e=>eb b o hb e) f0 f1 f3 f4 f5⟩
 self:=fun _ _ _ _ _ st h=>wpAny_pyIter_listiter st h
theorem MS {P:Program} {w:World} {K:Fg} {tg:Expr} (a it:Addr):Turn P w K tg (Itt K a) [it] it (fun i h=>h.IsTupleIter it a i) where
 mem:=by simp
 obj:=fun i h st b hb=>by
  have e:b=it:=by simpa using hb
  subst e
  obtain ⟨o,e,c,d⟩:=st
  exact ⟨o,e,fun v z=>by rw [d] at z;cases z⟩
 keep:=fun i h h' st k=>st.at fun o e=>k it (by simp) o e
 item:=by
  intro X hP hw hK hc i pins s σ H E I hf st hg
  subst hP hw hK
  obtain ⟨xs,x,hq,hx⟩:=hg
  obtain ⟨its,rv,p,hz⟩:=I.tuple hq
  obtain ⟨u,hu,ru⟩:=rv.get hx
  obtain ⟨f0,f1,f2,f3,f4,f5⟩:=hf it (by simp)
  refine wpAny_pyNext_tuple_item st (show s.heap.IsTuple a its.toArray from p) (x:=u) (by simpa using hu) fun h' st' sb=>?_
  have I1:Inv X pins σ H { s with heap:=h' }:=I.turned (t':=s.toks) (fun b o hb e=>(sb.2 b hb).trans e) f0 f1 f3 f4 f5
  obtain ⟨o,e,c,d⟩:=id st'
  exact ⟨u,rfl,Q1 (s:={ s with heap:=h' }) e c d (by decide) ⟨x,H,I1,ru,⟨rfl,fun ys hy=>by rw [I.J4 hy hq];exact hx⟩,st',fun b hb=>(hf b hb).1⟩⟩
 done:=by
  intro X hP hw hK hc i pins s σ H E I hf st hg
  subst hP hw hK
  obtain ⟨xs,hq,hx⟩:=hg
  obtain ⟨its,rv,p,hz⟩:=I.tuple hq
  obtain ⟨f0,f1,f2,f3,f4,f5⟩:=hf it (by simp)
  have hl:=rv.length
  exact wpAny_pyNext_tuple_end (I.ok.hd hc) st (show s.heap.IsTuple a its.toArray from p) (by simp;omega) fun h' eb=>⟨rfl,I.turned (t':=s.toks) (fun b o hb e=>eb b o hb e) f0 f1 f3 f4 f5⟩
 self:=fun _ _ _ _ _ st h=>wpAny_pyIter_tupleiter st h
theorem MT {P:Program} {w:World} {K:Fg} {tg:Expr} (it:Addr) (lo:Int) (n:Nat):Turn P w K tg (Itr lo n) [it] it (fun i h=>IsRangeIter h it (lo+(i:Nat) * 1) ((n:Int) - (i:Nat)) 1) where
 mem:=by simp
 obj:=fun i h st b hb=>by
  have e:b=it:=by simpa using hb
  subst e
  exact ⟨_,st,fun v z=>by
   have z':Data.fields _=Data.cell v:=z
   cases z'⟩
 keep:=fun i h h' st k=>k it (by simp) _ st
 item:=by
  intro X hP hw hK hc i pins s σ H E I hf st hg
  subst hP hw hK
  obtain ⟨f0,f1,f2,f3,f4,f5⟩:=hf it (by simp)
  have W:=Walks.range (prog:=X.prog) (w:=X.w) (I.ok.hd hc) it lo 1 n
  refine W.item i s _ _ hg st fun v h' tk hv st' kk=>?_
  obtain ⟨t,rfl⟩:=hv
  have I1:Inv X pins σ H { s with heap:=h',toks:=tk }:=I.turned (fun b o hb e=>kk b o (by simpa using hb) e) f0 f1 f3 f4 f5
  refine ⟨_,rfl,Q1 (s:={ s with heap:=h',toks:=tk }) (n:="range_iterator") st' rfl rfl (by decide) ⟨.int (lo+i),H,I1,⟨t,?_⟩,⟨rfl,rfl⟩,st',fun b hb=>(hf b hb).1⟩⟩
  rw [Int.mul_one]
 done:=by
  intro X hP hw hK hc i pins s σ H E I hf st hg
  subst hP hw hK
  obtain ⟨f0,f1,f2,f3,f4,f5⟩:=hf it (by simp)
  exact wpAny_pyNext_range_end (I.ok.hd hc) st (by have:n<=i:=hg;omega) fun h' eb=>⟨rfl,I.turned (t':=s.toks) (fun b o hb e=>eb b o hb e) f0 f1 f3 f4 f5⟩
 self:=fun _ _ _ _ _ st h=>wpAny_pyIter_rangeiter st h
section
variable {X:Cx} {tg:Expr}
theorem Qv {pins:List (Addr×Obj)} {σ:St} {H:Hp} {s:Shared} {R:It->Hp->Prop} {E:Value->Shared->Prop} {lo hi:Int} {t u v:Tok} {tk:Nat} (I:Inv X pins σ H s) (h1:-(2 ^ 62)<=lo) (h2:lo < 2 ^ 62) (h3:-(2 ^ 62)<=hi) (h4:hi < 2 ^ 62)
  (q:R (Itr lo (hi - lo).toNat) H):wpAny (model X.prog X.w) X.A (pyIter (.ref s.heap.objs.size)) (PIE X pins σ tg R) E { s with heap:=s.heap.push { cls:=.type "range",data:=.fields #[.int lo t,.int hi u,.int 1 v] },toks:=tk }:=by
 refine wpAny_pyIter_range (IsRange.new ..) (small_one h1 h2 h3 h4) ?_
 have I1:Inv X pins σ H { s with heap:=s.heap.push { cls:=.type "range",data:=.fields #[.int lo t,.int hi u,.int 1 v] },toks:=tk }:=I.kept fun b o e=>Heap.get?_push_of_some _ e
 refine ⟨(s.heap.push { cls:=.type "range",data:=.fields #[.int lo t,.int hi u,.int 1 v] }).objs.size,[(s.heap.push { cls:=.type "range",data:=.fields #[.int lo t,.int hi u,.int 1 v] }).objs.size],_,_,H,rfl,
  I1.kept (t':=tk) fun b o e=>Heap.get?_push_of_some _ e,MT _ lo (hi - lo).toNat,?_,fun b hb=>?_,q⟩
 ·have e1:lo+((0:Nat):Int) * 1=lo:=by simp
  have e2:(((hi - lo).toNat:Nat):Int) - ((0:Nat):Int)=Builtin.Range.rangeSize lo hi 1:=by rw [rangeSize_one];split <;> omega
  show IsRangeIter _ _ (lo+((0:Nat):Int) * 1) ((((hi - lo).toNat:Nat):Int) - ((0:Nat):Int)) 1
  rw [e1,e2]
  exact Heap.get?_push_size _ rfl
 ·have e:b=(s.heap.push { cls:=.type "range",data:=.fields #[.int lo t,.int hi u,.int 1 v] }).objs.size:=by simpa using hb
  subst e
  exact I1.Ug (Nat.le_refl _) (I1.hok.fresh (Nat.le_refl _))
def Ya (ta:TA):TI:=fun σ H R=>ta σ H fun vs H1=>∃ j:Int,vs=[.int j]/\-(2 ^ 62)<=j/\j < 2 ^ 62/\R (Itr 0 j.toNat) H1
theorem Om {a:Expr} {ta:TA} {p pos:Pos} (hg:Gl X "range") (hm:X.mg "range"=none) (ha:PA X [a] ta) (hs:starEach [a] X.env=[(false,eval a X.env)]:=by rfl):PI X tg (.Call (.Name "range" p) [a] [] pos) (Ya ta):=by
 intro pins s σ H R I h
 refine Call_ (GZ I hg hm boot_range (PyProof.Rows.callWith_type1 (thn (ha pos pins s σ H _ I h) fun us s1 ⟨vs,H1,I1,r1,q1⟩=>?_) hs rfl))
 obtain ⟨j,e,q1,q2,q⟩:=q1
 subst e
 cases r1 with
 | cons r rr =>
  cases rr
  obtain ⟨t,rfl⟩:=r
  exact call_range_1 (Qv I1 (by omega) (by omega) q1 q2 (by simpa using q))
def YU (wi:TI) (g:TG) (tb:TS):TS:=fun D σ H=>wi σ H fun J H1=>∃ W:Nat->Nat->St->Hp->Prop,(∃ m,W 0 m σ H1)/\∀ i m σ H,W i m σ H ->
 (J.stop i H/\D.nx σ H)∨(J.go i H/\∃ N:St->Hp->Prop,(∀ σ' H',N σ' H'->∃ m',m' < m/\W (i+1) m' σ' H')/\∀ x H',J.yld i H x H'->g x σ H' fun σ2 H2=>tb { D with nx:=N,ct:=N,bk:=D.nx } σ2 H2)
def Ki (fp:List Addr) (h:Heap):List (Addr×Obj):=fp.filterMap fun b=>(h.get? b).map fun o=>(b,o)
theorem Fc {fp:List Addr} {h:Heap} {b:Addr} {o:Obj} (hb:b∈fp) (e:h.get? b=some o):(b,o)∈Ki fp h:=List.mem_filterMap.mpr ⟨b,hb,by rw [e];rfl⟩
theorem OB {fp:List Addr} {h:Heap} {p:Addr×Obj} (hp:p∈Ki fp h):p.1∈fp/\h.get? p.1=some p.2:=by
 obtain ⟨b,hb,e⟩:=List.mem_filterMap.mp hp
 cases q:h.get? b with
 | none=>rw [q] at e;cases e
 | some o =>
  rw [q] at e
  have e':(b,o)=p:=Option.some.inj e
  subst e'
  exact ⟨hb,q⟩
theorem Inv.pinned {pins:List (Addr×Obj)} {σ:St} {H:Hp} {s:Shared} {fp:List Addr} (I:Inv X pins σ H s) (hf:∀ b∈fp,Lc X pins H b) (ho:∀ b∈fp,∃ o,s.heap.get? b=some o/\∀ v,o.data≠.cell v):Inv X (pins++Ki fp s.heap) σ H s :=
 I.Oj fun p hp=>(List.mem_append.mp hp).elim (fun z=>I.pin p (List.mem_append_right _ z)) fun z=>by
  obtain ⟨hb,e⟩:=OB z
  obtain ⟨f0,f1,f2,_⟩:=hf p.1 hb
  obtain ⟨o,e',d⟩:=ho p.1 hb
  rw [e] at e';cases e'
  exact ⟨e,f0,f1,f2,d⟩
theorem Inv.Hi {pins pl:List (Addr×Obj)} {σ:St} {H:Hp} {s:Shared} (I:Inv X (pins++pl) σ H s):Inv X pins σ H s:=I.Oj fun p hp=>I.pin p (List.mem_append_right _ (List.mem_append_left _ hp))
theorem Vk {iter:Expr} {body:List Stmt} {wi:TI} {g:TG} {tb:TS} {pos:Pos} (hp:PassesOwn (model X.prog X.w) X.A X.env X.xe) (hc:X.calm=true) (hi:PI X tg iter wi) (hg:PG X tg g) (hb:PSs X body tb)
  (hs:∀ x,foldedSetIterable iter X.env x=pure x:=by intro _;rfl):PS X (.For tg iter body [] pos) (YU wi g tb):=by
 intro pins s σ H D I h
 refine wpAny_For (thn (hi pins s σ H _ I h) fun v s1 h1=>thn h1 fun itv s2 h2=>?_) hs
 obtain ⟨it,fp,tn,J,H2,e,I2,T,st2,f2,W,⟨m0,w0⟩,turn⟩:=h2
 subst e
 have stat:∀ {H':Hp},(∀ b∈fp,H' b=none)->∀ b∈fp,Lc X pins H' b:=fun hn b hb=>⟨hn b hb,(f2 b hb).2⟩
 refine codeAny_forLoop_any (fun n s'=>∃ i σ' H',Inv X pins σ' H' s'/\tn i s'.heap/\(∀ b∈fp,H' b=none)/\W i n σ' H') ?_ m0 ⟨0,σ,H2,I2,st2,fun b hb=>(f2 b hb).1,w0⟩
 rintro n s3 ⟨i,σ3,H3,I3,st3,fr3,w3⟩
 rcases turn i n σ3 H3 w3 with ⟨stop,qn⟩ | ⟨go,N,hN,step⟩
 ·refine wpAny_passesOwn hp (thn (T.done X rfl rfl rfl hc i pins s3 σ3 H3 X.xe I3 (stat fr3) st3 stop) fun r s4 ⟨hr,I4⟩=>?_)
  subst hr
  exact wpAny_execs_nil ⟨σ3,H3,I4,qn⟩
 ·refine wpAny_passesOwn hp (thn (T.item X rfl rfl rfl hc i pins s3 σ3 H3 X.xe I3 (stat fr3) st3 go) fun r s4 ⟨u,hr,h4⟩=>?_)
  subst hr
  refine wpAny_passesOwn hp (thn h4 fun _ s5 ⟨x,H5,I5,r5,y5,st5,fr5⟩=>?_)
  have I5':=I5.pinned (stat fr5) (T.obj _ _ st5)
  refine wpAny_passesOwn hp (thn (hg _ s5 σ3 H5 x u _ I5' r5 (step x H5 y5)) fun _ s6 ⟨σ6,H6,I6,q6⟩=>?_)
  refine wpAny_passesOwn hp (thn (hb _ s6 σ6 H6 _ I6 q6) fun f s7 q7=>?_)
  have again:∀ {σ7:St} {H7:Hp},Inv X (pins++Ki fp s5.heap) σ7 H7 s7->N σ7 H7->∃ m,m < n/\∃ i σ' H',Inv X pins σ' H' s7/\tn i s7.heap/\(∀ b∈fp,H' b=none)/\W i m σ' H':=fun {σ7 H7} I7 n7=>by
   obtain ⟨m',hm,w7⟩:=hN σ7 H7 n7
   refine ⟨m',hm,i+1,σ7,H7,I7.Hi,T.keep _ _ _ st5 fun b hb o e=>(I7.pin (b,o) (List.mem_append_right _ (List.mem_append_right _ (Fc hb e)))).1,fun b hb=>?_,w7⟩
   obtain ⟨o,e,d⟩:=T.obj _ _ st5 b hb
   exact (I7.pin (b,o) (List.mem_append_right _ (List.mem_append_right _ (Fc hb e)))).2.1
  cases f with
  | next=>obtain ⟨σ7,H7,I7,n7⟩:=q7;exact again I7 n7
  | cont=>obtain ⟨σ7,H7,I7,n7⟩:=q7;exact again I7 n7
  | brk=>obtain ⟨σ7,H7,I7,q7⟩:=q7;exact ⟨σ7,H7,I7.Hi,q7⟩
  | ret v=>obtain ⟨x7,σ7,H7,I7,r7,q7⟩:=q7;exact ⟨x7,σ7,H7,I7.Hi,r7,q7⟩
end
abbrev R2:=V->V->Hp->VK->Prop
def OpR (X:Cx) (f:Value->Value->Sem Value) (r:R2):Prop :=
 ∀ (pins:List (Addr×Obj)) (s:Shared) (σ:St) (H:Hp) (x y:V) (v u:Value) (Q:VK),Inv X pins σ H s->RelV x v->RelV y u->r x y H Q ->
  wpAny (model X.prog X.w) X.A (f v u) (EP X pins σ Q) X.xe s
def UnR (X:Cx) (f:Value->Sem Value) (r:V->Hp->VK->Prop):Prop :=
 ∀ (pins:List (Addr×Obj)) (s:Shared) (σ:St) (H:Hp) (x:V) (v:Value) (Q:VK),Inv X pins σ H s->RelV x v->r x H Q ->
  wpAny (model X.prog X.w) X.A (f v) (EP X pins σ Q) X.xe s
def DU (X:Cx) (f:Value) (r:List V->Hp->VK->Prop):Prop :=
 ∀ (pins:List (Addr×Obj)) (s:Shared) (σ:St) (H:Hp) (xs:List V) (us:List Value) (Q:VK),Inv X pins σ H s->Vals xs us->r xs H Q ->
  wpAny (model X.prog X.w) X.A (call f us) (EP X pins σ Q) X.xe s
def Zh (X:Cx) (r:V->Hp->(Bool->Hp->Prop)->Prop):Prop :=
 ∀ (pins:List (Addr×Obj)) (s:Shared) (σ:St) (H:Hp) (x:V) (v:Value) (Q:Bool->Hp->Prop),Inv X pins σ H s->RelV x v->r x H Q ->
  wpAny (model X.prog X.w) X.A (truthy v) (TP X pins σ Q) X.xe s
def tOp (r:R2) (ta tb:TE):TE:=fun σ H Q=>ta σ H fun x H1=>tb σ H1 fun y H2=>r x y H2 Q
def tUn (r:V->Hp->VK->Prop) (ta:TE):TE:=fun σ H Q=>ta σ H fun x H1=>r x H1 Q
def rI (C:Int->Int->Prop) (g:Int->Int->V):R2:=fun x y H Q=>∃ i j,x=.int i/\y=.int j/\C i j/\Q (g i j) H
def rI0 (g:Int->Int->V):R2:=fun x y H Q=>∃ i j,x=.int i/\y=.int j/\Q (g i j) H
def rU (g:Int->V):V->Hp->VK->Prop:=fun x H Q=>∃ i,x=.int i/\Q (g i) H
section
variable {X:Cx} {a b c:Expr} {ta tb tc:TE} {pos:Pos}
theorem Yt (ha:PE X a ta) (hb:PE X b tb) {pins:List (Addr×Obj)} {s:Shared} {σ:St} {H:Hp} {R:V->V->Hp->Prop} (I:Inv X pins σ H s)
  (h:ta σ H fun x H1=>tb σ H1 fun y H2=>R x y H2) {Q:Value->Shared->Prop} {f:Value->Value->Sem Value}
  (hf:∀ v u s2 x y H2,Inv X pins σ H2 s2->RelV x v->RelV y u->R x y H2->wpAny (model X.prog X.w) X.A (f v u) Q X.xe s2) :
  wpAny (model X.prog X.w) X.A (eval a X.env) (fun v s₁=>wpAny (model X.prog X.w) X.A (eval b X.env) (fun u s₂=>wpAny (model X.prog X.w) X.A (f v u) Q X.xe s₂) X.xe s₁) X.xe s:=by
 refine thn (ha pins s σ H _ I h) fun v s1 ⟨x,H1,I1,r1,q1⟩=>?_
 refine thn (hb pins s1 σ H1 _ I1 q1) fun u s2 ⟨y,H2,I2,r2,q2⟩=>?_
 exact hf v u s2 x y H2 I2 r1 r2 q2
theorem XA {op:Operator} {r:R2} (ho:OpR X (binaryOp op) r) (ha:PE X a ta) (hb:PE X b tb):PE X (.BinOp a op b pos) (tOp r ta tb):=by
 intro pins s σ H Q I h
 exact wpAny_BinOp (Yt ha hb I h fun v u s2 x y H2 I2 rx ry q=>ho pins s2 σ H2 x y v u Q I2 rx ry q)
theorem Xz {op:UnaryOp} {r:V->Hp->VK->Prop} (ho:UnR X (unaryOp op) r) (ha:PE X a ta):PE X (.UnaryOp op a pos) (tUn r ta):=by
 intro pins s σ H Q I h
 exact UnaryOp_ (thn (ha pins s σ H _ I h) fun v s1 ⟨x,H1,I1,r1,q1⟩=>ho pins s1 σ H1 x v Q I1 r1 q1)
theorem opI {f:Value->Value->Sem Value} {C:Int->Int->Prop} {g:Int->Int->Int}
  (rule:∀ (i j:Int) (t u:Tok) (s:Shared) (Q:Value->Shared->Prop) (E:Value->Shared->Prop),C i j->Q (.int (g i j) s.toks) { s with toks:=s.toks+1 }->wpAny (model X.prog X.w) X.A (f (.int i t) (.int j u)) Q E s) :
  OpR X f (rI C fun i j=>.int (g i j)):=by
 intro pins s σ H x y v u Q I rx ry h
 obtain ⟨i,j,rfl,rfl,hc,q⟩:=h
 obtain ⟨t,rfl⟩:=rx
 obtain ⟨t',rfl⟩:=ry
 exact rule i j t t' s _ _ hc ⟨.int (g i j),H,I.tok _,⟨_,rfl⟩,q⟩
theorem YF {f:Value->Value->Sem Value} {g:Int->Int->Int}
  (rule:∀ (i j:Int) (t u:Tok) (s:Shared) (Q:Value->Shared->Prop) (E:Value->Shared->Prop),Q (.int (g i j) s.toks) { s with toks:=s.toks+1 }->wpAny (model X.prog X.w) X.A (f (.int i t) (.int j u)) Q E s) :
  OpR X f (rI0 fun i j=>.int (g i j)):=by
 intro pins s σ H x y v u Q I rx ry h
 obtain ⟨i,j,rfl,rfl,q⟩:=h
 obtain ⟨t,rfl⟩:=rx
 obtain ⟨t',rfl⟩:=ry
 exact rule i j t t' s _ _ ⟨.int (g i j),H,I.tok _,⟨_,rfl⟩,q⟩
theorem XT {f:Value->Value->Sem Value} {g:Int->Int->Bool}
  (rule:∀ (i j:Int) (t u:Tok) (s:Shared) (Q:Value->Shared->Prop) (E:Value->Shared->Prop),Q (.bool (g i j)) s->wpAny (model X.prog X.w) X.A (f (.int i t) (.int j u)) Q E s) :
  OpR X f (rI0 fun i j=>.bl (g i j)):=by
 intro pins s σ H x y v u Q I rx ry h
 obtain ⟨i,j,rfl,rfl,q⟩:=h
 obtain ⟨t,rfl⟩:=rx
 obtain ⟨t',rfl⟩:=ry
 exact rule i j t t' s _ _ ⟨.bl (g i j),H,I,rfl,q⟩
def YL (i j:Int):Prop:=0 < j/\j < 1073741824
def Xh (i j:Int):Prop:=(-(2 ^ 64) < i/\i < 2 ^ 64)∨(-(2 ^ 64) < j/\j < 2 ^ 64)
theorem Xh.ok {i j:Int} (h:Xh i j):IntMulOk i j:=by
 rcases h with ⟨h1,h2⟩ | ⟨h1,h2⟩
 ·exact .of_left (intBits_le_64 h1 h2)
 ·exact .of_right (intBits_le_64 h1 h2)
theorem VB:OpR X (binaryOp .Add) (rI0 fun i j=>.int (i+j)):=YF fun _ _ _ _ _ _ _ q=>add_int q
theorem Vv:OpR X (binaryOp .Sub) (rI0 fun i j=>.int (i - j)):=YF fun _ _ _ _ _ _ _ q=>sub_int q
theorem Tc:OpR X (binaryOp .FloorDiv) (rI YL fun i j=>.int (i / j)):=opI fun i j _ _ _ _ _ hc q=>by
 have h1:(0:Int) < j:=hc.1
 have h2:j < 1073741824:=hc.2
 exact floordiv_int (by omega) (by rw [Int.fdiv_eq_ediv_of_nonneg i (by omega)];exact q) (.inl (PyProof.noPylong_small (by omega)))
theorem Vx:OpR X (binaryOp .Mod) (rI (fun _ j=>0 < j) fun i j=>.int (i % j)):=opI fun i j _ _ _ _ _ hc q=>by
 have h1:(0:Int) < j:=hc
 exact mod_int' (by omega) (by rw [Int.fmod_eq_emod_of_nonneg i (by omega)];exact q)
theorem unI {f:Value->Sem Value} {g:Int->Int}
  (rule:∀ (i:Int) (t:Tok) (s:Shared) (Q:Value->Shared->Prop) (E:Value->Shared->Prop),Q (.int (g i) s.toks) { s with toks:=s.toks+1 }->wpAny (model X.prog X.w) X.A (f (.int i t)) Q E s) :
  UnR X f (rU fun i=>.int (g i)):=by
 intro pins s σ H x v Q I rx h
 obtain ⟨i,rfl,q⟩:=h
 obtain ⟨t,rfl⟩:=rx
 exact rule i t s _ _ ⟨.int (g i),H,I.tok _,⟨_,rfl⟩,q⟩
theorem UT:UnR X (unaryOp .USub) (rU fun i=>.int (-i)):=unI fun _ _ _ _ _ q=>neg_int q
end
def Lj:V->V->Bool
 | .non,.non=>true | .non,.int _=>true | .int _,.non=>true | .non,.bl _=>true | .bl _,.non=>true | .non,.str _=>true | .str _,.non=>true
 | .int _,.int _=>true | .bl _,.bl _=>true | .str _,.str _=>true | .byt _,.byt _=>true
 | .int _,.str _=>true | .str _,.int _=>true | .bl _,.str _=>true | .str _,.bl _=>true
 | _,_=>false
def rEq:R2:=fun x y H Q=>Lj x y=true/\Q (.bl (decide (x=y))) H
def rNe:R2:=fun x y H Q=>Lj x y=true/\Q (.bl (!decide (x=y))) H
theorem PM {i j:Int}:decide (V.int i=V.int j)=(i == j):=by
 rw [Bool.eq_iff_iff]
 simp
theorem Sg {i j:Bool}:decide (V.bl i=V.bl j)=(i == j):=by
 rw [Bool.eq_iff_iff]
 simp
theorem PL {i j:Str}:decide (V.str i=V.str j)=(i == j):=by
 rw [Bool.eq_iff_iff]
 simp
theorem PN {i j:Array UInt8}:decide (V.byt i=V.byt j)=(i.toList == j.toList):=by
 rw [Bool.eq_iff_iff]
 cases i
 cases j
 simp
section
variable {X:Cx} {a b c:Expr} {ta tb tc:TE} {pos:Pos}
theorem Bu {pins:List (Addr×Obj)} {σ:St} {H:Hp} {s:Shared} {Q:VK} {k k':Bool} (I:Inv X pins σ H s) (q:Q (.bl k) H) (e:k=k'):EP X pins σ Q (.bool k') s:=by
 subst e
 exact ⟨.bl k,H,I,rfl,q⟩
theorem Vz:OpR X (compareOp .Eq) rEq:=by
 intro pins s σ H x y v u Q I rx ry h
 obtain ⟨hs,q⟩:=h
 cases x with
 | non =>
  cases rx
  cases y with
  | non=>cases ry;exact PySem.EqNone.eq_none_none (Bu I q (by simp))
  | bl j=>cases ry;exact PySem.EqNone.eq_none_bool (Bu I q (by simp))
  | int j=>obtain ⟨t',rfl⟩:=ry;exact PySem.EqNone.eq_none_int (Bu I q (by simp))
  | str j=>obtain ⟨t',rfl⟩:=ry;exact PySem.EqNone.eq_none_str (Bu I q (by simp))
  | _=>exact absurd (show false=true from hs) Bool.false_ne_true
 | bl i =>
  cases rx
  cases y with
  | non=>cases ry;exact PySem.EqNone.eq_bool_none (Bu I q (by simp))
  | bl j=>cases ry;exact eq_bool (Bu I q Sg)
  | str j=>obtain ⟨t',rfl⟩:=ry;exact PySem.EqMixed.eq_bool_str (Bu I q (by simp))
  | _=>exact absurd (show false=true from hs) Bool.false_ne_true
 | int i =>
  obtain ⟨t,rfl⟩:=rx
  cases y with
  | non=>cases ry;exact PySem.EqNone.eq_int_none (Bu I q (by simp))
  | int j=>obtain ⟨t',rfl⟩:=ry;exact eq_int (Bu I q PM)
  | str j=>obtain ⟨t',rfl⟩:=ry;exact PySem.EqMixed.eq_int_str (Bu I q (by simp))
  | _=>exact absurd (show false=true from hs) Bool.false_ne_true
 | str i =>
  obtain ⟨t,rfl⟩:=rx
  cases y with
  | non=>cases ry;exact PySem.EqNone.eq_str_none (Bu I q (by simp))
  | bl j=>cases ry;exact PySem.EqMixed.eq_str_bool (Bu I q (by simp))
  | int j=>obtain ⟨t',rfl⟩:=ry;exact PySem.EqMixed.eq_str_int (Bu I q (by simp))
  | str j=>obtain ⟨t',rfl⟩:=ry;exact eq_str (Bu I q PL)
  | _=>exact absurd (show false=true from hs) Bool.false_ne_true
 | byt i =>
  obtain ⟨t,rfl⟩:=rx
  cases y with
  | byt j=>obtain ⟨t',rfl⟩:=ry;exact PySem.W.eq_bytes (Bu I q PN)
  | _=>exact absurd (show false=true from hs) Bool.false_ne_true
 | _=>cases y <;> exact absurd (show false=true from hs) Bool.false_ne_true
theorem XQ:OpR X (compareOp .NotEq) rNe:=by
 intro pins s σ H x y v u Q I rx ry h
 obtain ⟨hs,q⟩:=h
 cases x with
 | non =>
  cases rx
  cases y with
  | non=>cases ry;exact PySem.EqNone.ne_none_none (Bu I q (by simp))
  | bl j=>cases ry;exact PySem.EqNone.ne_none_bool (Bu I q (by simp))
  | int j=>obtain ⟨t',rfl⟩:=ry;exact PySem.EqNone.ne_none_int (Bu I q (by simp))
  | str j=>obtain ⟨t',rfl⟩:=ry;exact PySem.EqNone.ne_none_str (Bu I q (by simp))
  | _=>exact absurd (show false=true from hs) Bool.false_ne_true
 | bl i =>
  cases rx
  cases y with
  | non=>cases ry;exact PySem.EqNone.ne_bool_none (Bu I q (by simp))
  | bl j=>cases ry;exact ne_bool (Bu I q (congrArg not Sg))
  | str j=>obtain ⟨t',rfl⟩:=ry;exact PySem.EqMixed.ne_bool_str (Bu I q (by simp))
  | _=>exact absurd (show false=true from hs) Bool.false_ne_true
 | int i =>
  obtain ⟨t,rfl⟩:=rx
  cases y with
  | non=>cases ry;exact PySem.EqNone.ne_int_none (Bu I q (by simp))
  | int j=>obtain ⟨t',rfl⟩:=ry;exact ne_int (Bu I q (congrArg not PM))
  | str j=>obtain ⟨t',rfl⟩:=ry;exact PySem.EqMixed.ne_int_str (Bu I q (by simp))
  | _=>exact absurd (show false=true from hs) Bool.false_ne_true
 | str i =>
  obtain ⟨t,rfl⟩:=rx
  cases y with
  | non=>cases ry;exact PySem.EqNone.ne_str_none (Bu I q (by simp))
  | bl j=>cases ry;exact PySem.EqMixed.ne_str_bool (Bu I q (by simp))
  | int j=>obtain ⟨t',rfl⟩:=ry;exact PySem.EqMixed.ne_str_int (Bu I q (by simp))
  | str j=>obtain ⟨t',rfl⟩:=ry;exact ne_str (Bu I q (congrArg not PL))
  | _=>exact absurd (show false=true from hs) Bool.false_ne_true
 | byt i =>
  obtain ⟨t,rfl⟩:=rx
  cases y with
  | byt j=>obtain ⟨t',rfl⟩:=ry;exact PySem.W.ne_bytes (Bu I q (congrArg not PN))
  | _=>exact absurd (show false=true from hs) Bool.false_ne_true
 | _=>cases y <;> exact absurd (show false=true from hs) Bool.false_ne_true
theorem XR:OpR X (compareOp .Lt) (rI0 fun i j=>.bl (decide (i < j))):=XT fun _ _ _ _ _ _ _ q=>lt_int q
theorem M6:OpR X (compareOp .LtE) (rI0 fun i j=>.bl (decide (i<=j))):=XT fun _ _ _ _ _ _ _ q=>le_int q
theorem XS:OpR X (compareOp .Gt) (rI0 fun i j=>.bl (decide (j < i))):=XT fun _ _ _ _ _ _ _ q=>gt_int q
theorem Kn:OpR X (compareOp .In) (fun x y H Q=>∃ i j,x=.str i/\y=.str j/\Q (.bl (!(Builtin.Str.occurrences j i 0 j.length 1).isEmpty)) H):=by
 intro pins s σ H x y v u Q I rx ry h
 obtain ⟨i,j,rfl,rfl,q⟩:=h
 obtain ⟨t,rfl⟩:=rx
 obtain ⟨t',rfl⟩:=ry
 exact in_str (Bu I q rfl)
theorem HK (b:Expr) {op:CmpOp} (h:op≠.In:=by decide) (h2:op≠.NotIn:=by decide):behindInMarks op b=false:=by
 have e1:(op == CmpOp.In)=false:=by cases op <;> first | rfl | exact absurd rfl h
 have e2:(op == CmpOp.NotIn)=false:=by cases op <;> first | rfl | exact absurd rfl h2
 cases b <;> simp [behindInMarks,e1,e2]
theorem S6 {op:CmpOp} {r:R2} (ho:OpR X (compareOp op) r) (ha:PE X a ta) (hb:PE X b tb) (hm:behindInMarks op b=false):PE X (.Compare a [op] [b] pos) (tOp r ta tb):=by
 intro pins s σ H Q I h
 exact wpAny_Compare1 (Yt ha hb I h fun v u s2 x y H2 I2 rx ry q=>ho pins s2 σ H2 x y v u Q I2 rx ry q) hm
def SH (t:TE):TT:=fun σ H Q=>t σ H fun x H'=>∃ k,x=.bl k/\Q k H'
theorem Jk {op:CmpOp} {r:R2} (ho:OpR X (compareOp op) r) (ha:PE X a ta) (hb:PE X b tb) (hm:behindInMarks op b=false):PT X (.Compare a [op] [b] pos) (SH (tOp r ta tb)):=by
 intro pins s σ H Q I h
 refine wpAny_isTrue_Compare1 (thn (ha pins s σ H _ I h) fun v s1 ⟨x,H1,I1,r1,q1⟩=>thn (hb pins s1 σ H1 _ I1 q1) fun u s2 ⟨y,H2,I2,r2,q2⟩ =>
  thn (ho pins s2 σ H2 x y v u _ I2 r1 r2 q2) fun c s3 ⟨z,H3,I3,r3,k,e,q3⟩=>?_) hm
 subst e
 cases r3
 exact wpAny_truthy_bool ⟨H3,I3,q3⟩
def NV (r r':R2) (ta tb tc:TE):TE:=fun σ H Q=>ta σ H fun x H1=>tb σ H1 fun y H2=>r x y H2 fun z H3=>∃ k,z=.bl k /\
 (if k=true then tc σ H3 fun w' H4=>r' y w' H4 Q else Q (.bl false) H3)
theorem Jl {op op':CmpOp} {r r':R2} (ho:OpR X (compareOp op) r) (ho':OpR X (compareOp op') r') (ha:PE X a ta) (hb:PE X b tb) (hc:PE X c tc)
  (hm:lastMarks [op,op'] [b,c]=false:=by with_unfolding_all rfl):PT X (.Compare a [op,op'] [b,c] pos) (SH (NV r r' ta tb tc)):=by
 intro pins s σ H Q I h
 refine isTrue_chain (thn (ha pins s σ H _ I h) fun v s1 ⟨x,H1,I1,r1,q1⟩=>test_link (thn (hb pins s1 σ H1 _ I1 q1) fun u s2 ⟨y,H2,I2,r2,q2⟩ =>
  thn (ho pins s2 σ H2 x y v u _ I2 r1 r2 q2) fun d s3 ⟨z,H3,I3,r3,k,e,q3⟩=>?_)) hm
 subst e
 cases r3
 refine wpAny_truthy_bool ?_
 cases k with
 | false =>
  obtain ⟨k',e',q'⟩:=q3
  cases e'
  exact ite_ff ⟨H3,I3,q'⟩
 | true =>
  refine ite_tt (test_last (thn (hc pins s3 σ H3 _ I3 q3) fun w' s4 ⟨z',H4,I4,r4,q4⟩=>thn (ho' pins s4 σ H4 y z' u w' _ I4 r2 r4 q4) fun d' s5 ⟨z2,H5,I5,r5,k2,e2,q5⟩=>?_))
  subst e2
  cases r5
  exact wpAny_truthy_bool ⟨H5,I5,q5⟩
def Yv (K:Fg) (x:V) (H:Hp) (k:Bool):Prop :=
 match x with
 | .non=>k=false
 | .bl b=>k=b
 | .int i=>k=(i != 0)
 | .str y=>y.length<=sizeLine/\k=((y.length:Int) != 0)
 | .byt y=>y.size<=sizeLine/\k=((y.size:Int) != 0)
 | .ref p=>(∃ xs,SqL K H p xs/\k=!xs.isEmpty)∨(∃ xs,SqT K H p xs/\k=!xs.isEmpty)∨∃ kvs,H p=some (.dK kvs)/\k=!kvs.isEmpty
 | _=>False
theorem Nn {κ:Type} {kvs:List (κ×V)} {vs:List (κ×Value)} (r:KV kvs vs):(!vs.isEmpty)=!kvs.isEmpty:=by
 cases r <;> rfl
theorem IL {xs:List V} {its:List Value} (r:Vals xs its):(!its.toArray.isEmpty)=!xs.isEmpty:=by
 cases r <;> simp
theorem HN:(sizeLine:Nat) < 2 ^ 63:=by rw [sizeLine_eq];decide
theorem UW:Zh X (fun x H Q=>∃ k,Yv X.K x H k/\Q k H):=by
 intro pins s σ H x v Q I rx h
 obtain ⟨k,e,q⟩:=h
 have hl:=HN
 have hs:sizeLine=16777216:=sizeLine_eq
 cases x with
 | non =>
  cases rx
  have e':k=false:=e
  subst e'
  exact truthy_none ⟨H,I,q⟩
 | bl b =>
  cases rx
  have e':k=b:=e
  subst e'
  exact wpAny_truthy_bool ⟨H,I,q⟩
 | int i =>
  obtain ⟨t,rfl⟩:=rx
  have e':k=(i != 0):=e
  subst e'
  exact PySem.P.truthy_int ⟨H,I,q⟩
 | str y =>
  obtain ⟨t,rfl⟩:=rx
  obtain ⟨hy,e'⟩:y.length<=sizeLine/\k=((y.length:Int) != 0):=e
  subst e'
  exact PySem.P.truthy_str (by omega) ⟨H,I.tok _,q⟩
 | byt y =>
  obtain ⟨t,rfl⟩:=rx
  obtain ⟨hy,e'⟩:y.size<=sizeLine/\k=((y.size:Int) != 0):=e
  subst e'
  exact PySem.W.truthy_bytes (by omega) ⟨H,I.tok _,q⟩
 | ref p =>
  cases rx
  have e':(∃ xs,SqL X.K H p xs/\k=!xs.isEmpty)∨(∃ xs,SqT X.K H p xs/\k=!xs.isEmpty)∨∃ kvs,H p=some (.dK kvs)/\k=!kvs.isEmpty:=e
  rcases e' with ⟨xs,hx,e'⟩ | ⟨xs,hx,e'⟩ | ⟨kvs,hx,e'⟩
  ·subst e'
   obtain ⟨its,r,pl,hz⟩:=I.list hx
   have hlen:=r.length
   exact wpAny_truthy_list pl.isList (by simp only [List.size_toArray];omega) ⟨H,I.tok _,by rw [IL r];exact q⟩
  ·subst e'
   obtain ⟨its,r,pl,hz⟩:=I.tuple hx
   have hlen:=r.length
   exact truthy_tuple pl (by simp only [List.size_toArray];omega) ⟨H,I.tok _,by rw [IL r];exact q⟩
  ·subst e'
   obtain ⟨hz,hS,vs,r,m⟩:kvs.length<=sizeLine/\(p == sysModules)=false/\∃ vs,KV kvs vs/\s.heap.DictOf (BZ X.prog X.w) p vs:=I.hok p _ hx
   have hlen:kvs.length=vs.length:=Paired.length r
   exact wpAny_truthy_dict hS m (by omega) ⟨H,I.tok _,by rw [Nn r];exact q⟩
 | _=>exact (show False from e).elim
theorem QA (ha:PE X a ta) (he:∀ whole,isTrue a X.env whole=(do let v <- whole;standAt a.pos;holding [v] (truthy v))) :
  PT X a (fun σ H Q=>ta σ H fun x H'=>∃ k,Yv X.K x H' k/\Q k H'):=by
 intro pins s σ H Q I h
 exact isTrue_plain (thn (ha pins s σ H _ I h) fun v s1 ⟨x,H1,I1,r1,q1⟩=>UW pins s1 σ H1 x v Q I1 r1 q1) (he _)
theorem M7:OpR X (binaryOp .Add) (fun x y H Q=>∃ i j,x=.str i/\y=.str j/\i.length+j.length<=sizeLine/\Q (.str (i++j)) H):=by
 intro pins s σ H x y v u Q I rx ry h
 obtain ⟨i,j,rfl,rfl,hz,q⟩:=h
 obtain ⟨t,rfl⟩:=rx
 obtain ⟨t',rfl⟩:=ry
 exact add_str (fun t' tk=>⟨.str (i++j),H,I.tok _,⟨_,rfl⟩,q⟩) hz
theorem vals1 {x:V} {us:List Value} (r:Vals [x] us):∃ u,us=[u]/\RelV x u:=by
 cases r with
 | cons r1 r2=>cases r2;exact ⟨_,rfl,r1⟩
theorem vals2 {x y:V} {us:List Value} (r:Vals [x,y] us):∃ u w',us=[u,w']/\RelV x u/\RelV y w':=by
 cases r with
 | cons r1 r2 =>
  cases r2 with
  | cons r3 r4=>cases r4;exact ⟨_,_,rfl,r1,r3⟩
theorem P0 (hc:X.calm=true):DU X (.builtin "min") (fun xs H Q=>∃ i j,xs=[.int i,.int j]/\Q (.int (if j < i then j else i)) H):=by
 intro pins s σ H xs us Q I r h
 obtain ⟨i,j,rfl,q⟩:=h
 obtain ⟨u,w',rfl,⟨t,rfl⟩,⟨t',rfl⟩⟩:=vals2 r
 refine min_two_ints (I.ok.hd hc) fun h' tk k=>⟨_,H,I.kept k,?_,q⟩
 by_cases hj:j < i
 ·rw [if_pos hj,if_pos hj];exact ⟨_,rfl⟩
 ·rw [if_neg hj,if_neg hj];exact ⟨_,rfl⟩
theorem P4:DU X (.type "int") (fun xs H Q=>(∃ i,xs=[.int i]/\Q (.int i) H)∨∃ k,xs=[.bl k]/\Q (.int (if k then 1 else 0)) H):=by
 intro pins s σ H xs us Q I r h
 rcases h with ⟨i,rfl,q⟩ | ⟨k,rfl,q⟩
 ·obtain ⟨u,rfl,t,rfl⟩:=vals1 r
  exact call_int_int ⟨.int i,H,I,⟨_,rfl⟩,q⟩
 ·obtain ⟨u,rfl,r1⟩:=vals1 r
  cases r1
  exact call_int_bool ⟨.int (if k then 1 else 0),H,I.tok _,⟨_,rfl⟩,q⟩
end
structure UJ (h:Heap) (x dx C:Addr) (mA:Str->Option Value):Prop where
 obj:h.get? x=some (PySem.W.instObj C dx)
 ns:h.Ns1 dx mA
 ne:dx≠x
theorem OK {h:Heap} {dx:Addr} {mA:Str->Option Value} (n:h.Ns1 dx mA):∃ od,h.get? dx=some od/\∀ name,PySem.W.lookIn name od=some (mA name):=by
 obtain ⟨o,es,ep,ho,hd,hk,_,hm⟩:=n
 refine ⟨o,ho,fun name=>?_⟩
 have e:=hm name
 unfold nsFind findBy at e
 rw [<- Array.find?_toList] at e
 unfold PySem.W.lookIn
 rw [hd]
 dsimp only
 split
 ·rename_i y q
  rw [q] at e
  exact congrArg some e
 ·rename_i q
  rw [q] at e
  have a:es.toList.any (·.refKey)=false:=by
   rw [List.any_eq_false]
   intro y hy
   obtain ⟨z,t,hkey⟩:=hk y (Array.mem_toList_iff.mp hy)
   simp [DictEntry.refKey,hkey]
  have a':¬ es.toList.any (·.refKey)=true:=by rw [a];exact Bool.false_ne_true
  rw [if_neg a']
  exact congrArg some e
theorem UJ.look {h:Heap} {x dx C:Addr} {mA:Str->Option Value} (I:UJ h x dx C mA):∃ od,PySem.W.InstAt h x (PySem.W.instObj C dx) C (some od)/\∀ name,PySem.W.lookIn name od=some (mA name) :=
 let ⟨od,ho,hl⟩:=OK I.ns
 ⟨od,⟨I.obj,rfl,rfl,ho⟩,hl⟩
section
variable {prog:Program} {w:World} {A:Around} {E:Value->Shared->Prop} {s:Shared} {K:Fg} {x dx C f:Addr} {mA:Str->Option Value} {name:Str} {v:Value}
theorem get_map {expr:Bool} {Q:Value->Shared->Prop} (X:K.In s.heap) (I:UJ s.heap x dx C mA) (hg:PySem.W.plainGet K C name=true) (hh:PySem.W.hasDictIn K C=true)
  (ha:PySem.W.findIn K (.ref C) name=some none) (hv:mA name=some v) (hv':PySem.W.handedIn v=true) (h:Q v { s with toks:=s.toks+1 }) :
  wpAny (model prog w) A (getAttr (.ref x) name expr) Q E s:=by
 obtain ⟨od,J,hl⟩:=I.look
 exact PySem.W.get_value X J (PySem.W.plainGet_of hg).1 (PySem.W.findObj_own hh ha rfl (by rw [hl,hv])) hv' h
theorem Q2 {pl:Sem Bool} {Q:Value×List Value->Shared->Prop} (X:K.In s.heap) (I:UJ s.heap x dx C mA) (hg:PySem.W.plainGet K C name=true)
  (hf:PySem.W.findIn K (.ref C) name=some (some (.ref f))) (ht:PySem.W.isFn K (.ref f)=true) (hv:mA name=none) (h:Q (.ref f,[.ref x]) s) :
  wpAny (model prog w) A (getMethod (.ref x) name pl) Q E s:=by
 obtain ⟨od,J,hl⟩:=I.look
 exact PySem.W.method_fn X J (PySem.W.plainGet_of hg).1 (PySem.W.plainGet_of hg).2 hf (beq_iff_eq.mp ht) (by show (PySem.W.lookIn name od).map (·.isSome)=some false;rw [hl,hv];rfl) h
theorem SR {ns:List Str} {Q:Unit->Shared->Prop} (X:K.In s.heap) (I:UJ s.heap x dx C mA)
  (hs:PySem.W.findIn K (.ref C) "__setattr__"=some (some (.builtin "object.__setattr__"))) (hp:PySem.W.plainOver K C=true) (ht:PySem.W.takerIn K C name=some none) (hh:PySem.W.hasDictIn K C=true)
  (hw:PySem.Within mA ns) (hsz:ns.length<=sizeLine)
  (h:∀ h',UJ h' x dx C (fun y=>if y=name then some v else mA y)->Heap.SameBut dx s.heap h'->Q () { s with heap:=h',toks:=s.toks+2 }) :
  wpAny (model prog w) A (setAttr (.ref x) name v) Q E s:=by
 obtain ⟨od,J,hl⟩:=I.look
 refine PySem.W.set_plain X J hs (PySem.W.osa_open (s:={ s with toks:=s.toks+1 }) (r:=none) X J hp ht fun b=>?_)
 obtain ⟨cd,hc,hd'⟩:=PySem.W.any_some hh
 have hx:s.heap.get? x=some ⟨.ref C,some dx,.plain,#[]⟩:=I.obj
 refine wpAny_bind (wpAny_pure (wpAny_bind (wpAny_bind (wpAny_loadPart hx (wpAny_bind (PySem.W.Looks.here (s:={ s with toks:=s.toks+1 }) (PySem.W.looks_clsIn X hc) ?_))))))
 rw [hd']
 refine wpAny_pure (a:=some dx) (wpAny_bind (wpAny_pure (wpAny_bind ?_)))
 refine wpAny_nsSet1 (s:={ s with toks:=s.toks+1 }) I.ns fun h' hn2 hs2=>?_
 obtain ⟨oD,esD,epD,hoD,hdD,hcD⟩:=hn2.count (PySem.Within.cons name v hw)
 refine wpAny_bind (wpAny_lookBehind hoD (by rw [hdD];exact pastItsLine_dict (Nat.le_trans hcD (by rw [List.length_cons];omega))) ?_)
 exact wpAny_pure (h _ ⟨(hs2.2 _ (Ne.symm I.ne)).trans I.obj,hn2,I.ne⟩ hs2)
theorem QS {R:Result->Shared->Prop} {vs:List Value} {kw:List (Str×Value)} (X:K.In s.heap) (hm:PySem.W.makesIn K C=true)
  (hi:PySem.W.findIn K (.ref C) "__init__"=some (some (.ref f))) (hf:PySem.W.typeIn K (.ref f)=some (.type "function"))
  (h:codeAny (model prog w) (A.under (.builtin "type.__call__" ⟨.ref C :: vs,kw⟩)) (.call (.ref f) ⟨.ref (s.heap.objs.size+1) :: vs,kw⟩) (PySem.W.InitBack (s.heap.objs.size+1) R)
   { s with heap:=(s.heap.push PySem.W.emptyDict).push (PySem.W.instObj C s.heap.objs.size) }) :
  codeAny (model prog w) A (.call (.ref C) ⟨vs,kw⟩) R s:=by
 obtain ⟨hh,g,d,t,os⟩:=s
 exact PySem.W.make_core (PySem.W.makes_of X hm) (PySem.W.looks_findIn X hi) (fun self=>PySem.W.bind_fn X self hf) (.inl rfl) h
end
def GW (f:Str) (v:V):List (Str×V)->List (Str×V)
 | []=>[(f,v)]
 | (g,x) :: r=>if g=f then (g,v) :: r else (g,x) :: GW f v r
theorem HM (f g:Str) (v:V):∀ fs:List (Str×V),(GW f v fs).lookup g=if g=f then some v else fs.lookup g
 | []=>by
  show List.lookup g [(f,v)]=_
  by_cases h:g=f
  ·have hb:(g == f)=true:=beq_iff_eq.mpr h
   simp only [List.lookup,hb,if_pos h]
  ·have hb:(g == f)=false:=beq_eq_false_iff_ne.mpr h
   simp only [List.lookup,hb,if_neg h]
 | (k,x) :: r=>by
  have ih:=HM f g v r
  rw [show GW f v ((k,x) :: r)=(if k=f then (k,v) :: r else (k,x) :: GW f v r) from rfl]
  by_cases hk:k=f
  ·rw [if_pos hk]
   by_cases h:g=k
   ·have hb:(g == k)=true:=beq_iff_eq.mpr h
    simp only [List.lookup,hb,if_pos (h.trans hk)]
   ·have hb:(g == k)=false:=beq_eq_false_iff_ne.mpr h
    simp only [List.lookup,hb,if_neg (fun e:g=f=>h (e.trans hk.symm))]
  ·rw [if_neg hk]
   by_cases h:g=k
   ·have hb:(g == k)=true:=beq_iff_eq.mpr h
    simp only [List.lookup,hb,if_neg (fun e:g=f=>hk (h.symm.trans e))]
   ·have hb:(g == k)=false:=beq_eq_false_iff_ne.mpr h
    simp only [List.lookup,hb]
    exact ih
theorem HR (f:Str) (v:V):∀ fs:List (Str×V),f∈(GW f v fs).map (·.1)/\∀ g,g∈fs.map (·.1)->g∈(GW f v fs).map (·.1)
 | []=>⟨by simp [GW],fun g h=>by simp at h⟩
 | (k,x) :: r=>by
  obtain ⟨i1,i2⟩:=HR f v r
  rw [show GW f v ((k,x) :: r)=(if k=f then (k,v) :: r else (k,x) :: GW f v r) from rfl]
  by_cases hk:k=f
  ·rw [if_pos hk]
   subst hk
   exact ⟨by simp,fun g h=>by simpa using h⟩
  ·rw [if_neg hk]
   refine ⟨?_,fun g h=>?_⟩
   ·rw [List.map_cons]
    exact List.mem_cons_of_mem _ i1
   ·rw [List.map_cons] at h ⊢
    rcases List.mem_cons.mp h with e | e
    ·exact List.mem_cons.mpr (.inl e)
    ·exact List.mem_cons_of_mem _ (i2 g e)
theorem HQ (f:Str) (v:V):∀ fs:List (Str×V),(GW f v fs).length<=fs.length+1
 | []=>by simp [GW]
 | (k,x) :: r=>by
  have ih:=HQ f v r
  rw [show GW f v ((k,x) :: r)=(if k=f then (k,v) :: r else (k,x) :: GW f v r) from rfl]
  by_cases hk:k=f
  ·rw [if_pos hk,List.length_cons,List.length_cons];omega
  ·rw [if_neg hk,List.length_cons,List.length_cons];omega
theorem AQ.some_of {v:V} {o:Option Value} (r:AQ (some v) o):∃ u,o=some u/\RelV v u:=by
 cases o with
 | none=>exact (show False from r).elim
 | some u=>exact ⟨u,rfl,r⟩
theorem AQ.none_of {o:Option Value} (r:AQ none o):o=none:=by
 cases o with
 | none=>rfl
 | some u=>exact (show False from r).elim
theorem Pc {v:V} {u:Value} (r:RelV v u):PySem.W.handedIn u=true:=by
 cases v with
 | non=>cases (show u=Value.none from r);rfl
 | bl b=>cases (show u=Value.bool b from r);rfl
 | int i=>obtain ⟨t,e⟩:=(show ∃ t,u=Value.int i t from r);cases e;rfl
 | str x=>obtain ⟨t,e⟩:=(show ∃ t,u=Value.str x t from r);cases e;rfl
 | byt b=>obtain ⟨t,e⟩:=(show ∃ t,u=Value.bytes b t from r);cases e;rfl
 | flt b=>obtain ⟨t,e⟩:=(show ∃ t,u=Value.float b t from r);cases e;rfl
 | ref a=>cases (show u=Value.ref a from r);rfl
 | ty n=>cases (show u=Value.type n from r);rfl
section
variable {P:Program} {w:World} {H H':Hp} {h h':Heap} {a C dx:Addr} {fs fs':List (Str×V)}
theorem JB (hok:HOk P w H h) (e:H a=some (.ins C dx fs)):∃ mA,UJ h a dx C mA/\(∀ f,AQ (fs.lookup f) (mA f))/\PySem.Within mA (fs.map (·.1))/\fs.length<=1000/\H dx=some (.own a):=by
 obtain ⟨d,z,ne,ob,mA,n,r,q⟩:=(show C3 P w H h a (.ins C dx fs) from hok a _ e)
 exact ⟨mA,⟨ob,n,ne⟩,r,q,z,d⟩
end
structure Cls (K:Fg) (C:Addr):Prop where
 pg:PySem.W.plainGet K C Str.empty=true
 hd:PySem.W.hasDictIn K C=true
 po:PySem.W.plainOver K C=true
 sa:PySem.W.findIn K (.ref C) "__setattr__"=some (some (.builtin "object.__setattr__"))
theorem Cls.get {K:Fg} {C:Addr} (c:Cls K C) (f:Str):PySem.W.plainGet K C f=true:=c.pg
def Ez (K:Fg) (C:Addr) (f:Str):Prop:=PySem.W.findIn K (.ref C) f=some none
theorem Ez.Xl {K:Fg} {C:Addr} {f:Str} (n:Ez K C f):PySem.W.takerIn K C f=some none:=by
 unfold PySem.W.takerIn
 rw [show PySem.W.findIn K (.ref C) f=some none from n]
 rfl
structure Meth (K:Fg) (C:Addr) (m:Str) (f:Addr):Prop where
 at_:PySem.W.findIn K (.ref C) m=some (some (.ref f))
 fn:PySem.W.isFn K (.ref f)=true
 kp:PySem.W.keepIn K (.ref f)=true
section
variable {X:Cx} {pins:List (Addr×Obj)} {σ:St} {H:Hp} {s:Shared} {a C dx:Addr} {fs:List (Str×V)} {f:Str} {v:V} {A:Around} {E:Value->Shared->Prop}
theorem Np {b:Bool} {Q:Value->Shared->Prop} (I:Inv X pins σ H s) (e:H a=some (.ins C dx fs)) (c:Cls X.K C) (n:Ez X.K C f) (l:fs.lookup f=some v)
  (h:∀ u s',Inv X pins σ H s'->RelV v u->Q u s'):wpAny (model X.prog X.w) A (getAttr (.ref a) f b) Q E s:=by
 obtain ⟨mA,O,r,_,_,_⟩:=JB I.hok e
 obtain ⟨u,hu,ru⟩:=AQ.some_of (v:=v) (o:=mA f) (by rw [<- l];exact r f)
 exact get_map I.kIn O (c.get f) c.hd n hu (Pc ru) (h u _ (I.tok _) ru)
theorem IS {m:Str} {g:Addr} {pl:Sem Bool} {Q:Value×List Value->Shared->Prop} (I:Inv X pins σ H s) (e:H a=some (.ins C dx fs)) (c:Cls X.K C) (k:Meth X.K C m g) (l:fs.lookup m=none)
  (h:Q (.ref g,[.ref a]) s):wpAny (model X.prog X.w) A (getMethod (.ref a) m pl) Q E s:=by
 obtain ⟨mA,O,r,_,_,_⟩:=JB I.hok e
 have hn:mA m=none:=AQ.none_of (by rw [<- l];exact r m)
 exact Q2 I.kIn O (c.get m) k.at_ k.fn hn h
theorem MV {y:V} {u:Value} {Q:Unit->Shared->Prop} (I:Inv X pins σ H s) (e:H a=some (.ins C dx fs)) (c:Cls X.K C) (n:Ez X.K C f) (hl:fs.length < 1000) (ry:RelV y u)
  (h:∀ s',Inv X pins σ (upd H a (.ins C dx (GW f y fs))) s'->Q () s'):wpAny (model X.prog X.w) A (setAttr (.ref a) f u) Q E s:=by
 obtain ⟨mA,O,r,wi,_,ho⟩:=JB I.hok e
 have hz:(fs.map (·.1)).length<=sizeLine:=by rw [List.length_map,sizeLine_eq];omega
 refine SR I.kIn O c.sa c.po n.Xl c.hd wi hz fun h' O' sb=>h _ ?_
 have hd:∃ o,h'.get? dx=some o:=let ⟨o,_,_,e',_⟩:=O'.ns;⟨o,e'⟩
 refine I.write (x:=a) (e:=dx) (by rw [e];exact True.intro) (.inr ho) (fun b q hb z=>(sb.2 b hb).trans z) hd ?_
 refine ⟨by rw [Aw O.ne];exact ho,?_,O.ne,O'.obj,_,O'.ns,fun g=>?_,fun g hg=>?_⟩
 ·have:=HQ f y fs;omega
 ·show AQ ((GW f y fs).lookup g) (if g=f then some u else mA g)
  rw [HM]
  by_cases q:g=f
  ·rw [if_pos q,if_pos q];exact ry
  ·rw [if_neg q,if_neg q];exact r g
 ·by_cases q:g=f
  ·rw [q];exact (HR f y fs).1
  ·refine (HR f y fs).2 g (wi g fun z=>hg ?_)
   show (if g=f then some u else mA g)=none
   rw [if_neg q];exact z
theorem Inv.made (I:Inv X pins σ H s):Inv X pins σ (upd (upd H s.heap.objs.size (.own (s.heap.objs.size+1))) (s.heap.objs.size+1) (.ins C s.heap.objs.size []))
  { s with heap:=(s.heap.push PySem.W.emptyDict).push (PySem.W.instObj C s.heap.objs.size) }:=by
 have e1:(s.heap.push PySem.W.emptyDict).get? s.heap.objs.size=some PySem.W.emptyDict:=Heap.get?_push_size s.heap rfl
 have e2:((s.heap.push PySem.W.emptyDict).push (PySem.W.instObj C s.heap.objs.size)).get? (s.heap.objs.size+1)=some (PySem.W.instObj C s.heap.objs.size):=by
  have:=Heap.get?_push_size (s.heap.push PySem.W.emptyDict) (o:=PySem.W.instObj C s.heap.objs.size) rfl
  rwa [Heap.size_push] at this
 have e3:(s.heap.push PySem.W.emptyDict).Ns s.heap.objs.size (fun _=>none):=⟨PySem.W.emptyDict,#[],_,e1,rfl,(fun e he=>absurd he (by simp)),fun _=>rfl⟩
 have I1:=I.laid (a:=s.heap.objs.size) (o:=.own (s.heap.objs.size+1)) (h':=s.heap.push PySem.W.emptyDict) (t':=s.toks) (fun b u q=>Heap.get?_push_of_some _ q) (Nat.le_refl _) ⟨_,e1⟩
 refine I1.laid (a:=s.heap.objs.size+1) (o:=.ins C s.heap.objs.size []) (t':=s.toks) (fun b u q=>Heap.get?_push_of_some _ q) (Nat.le_of_eq (Heap.size_push _ _)) ?_
 have ne:s.heap.objs.size≠s.heap.objs.size+1:=Nat.ne_of_lt (Nat.lt_succ_self _)
 refine ⟨by rw [Aw ne,AL],Nat.zero_le _,ne,e2,fun _=>none,(Heap.Ns1.of_empty e3).at fun o q=>Heap.get?_push_of_some _ q,fun _=>True.intro,fun y hy=>absurd rfl hy⟩
theorem UD {prog:Program} {w:World} {env:Env} {e:Expr} {f:Str} {pos:Pos} {s:Shared} {Q:Value->Shared->Prop} (hb:attributeBase e f env (eval e env)=eval e env)
  (h:wpAny (model prog w) A (eval e env) (fun o s₁=>wpAny (model prog w) A (getAttr o f true) Q E s₁) E s):wpAny (model prog w) A (eval (.Attribute e f pos) env) Q E s :=
 Attribute_any_ h (by rw [arm_eval_Attribute,hb])
end
def Yx (K:Fg) (ta:TE) (f:Str):TE:=fun σ H Q=>ta σ H fun x H1=>∃ a C dx fs v,x=.ref a/\H1 a=some (.ins C dx fs)/\Cls K C/\Ez K C f/\fs.lookup f=some v/\Q v H1
def Yy (K:Fg) (ta tv:TE) (f:Str):TS:=fun D σ H=>tv σ H fun y H1=>ta σ H1 fun x H2=>∃ a C dx fs,x=.ref a/\H2 a=some (.ins C dx fs)/\Cls K C/\Ez K C f/\fs.length < 1000 /\
 D.nx σ (upd H2 a (.ins C dx (GW f y fs)))
section
variable {X:Cx} {o e value:Expr} {f:Str} {pos pos' tpos:Pos} {ta tv:TE}
theorem Md (he:PE X e ta) (hb:attributeBase e f X.env (eval e X.env)=eval e X.env):PE X (.Attribute e f pos) (Yx X.K ta f):=by
 intro pins s σ H Q I h
 refine UD hb (thn (he pins s σ H _ I h) fun u s1 ⟨x,H1,I1,rx,a,C,dx,fs,v,ex,ea,c,n,l,q⟩=>?_)
 subst ex
 obtain rfl:u=Value.ref a:=rx
 exact Np I1 ea c n l fun u' s2 I2 ru=>⟨v,H1,I2,ru,q⟩
theorem Oe (ha:PE X o ta) (hv:PE X value tv) (hs:swapsWith value (some (.Attribute o f pos')) pos.line X.env=pure false):PS X (.Assign [.Attribute o f pos'] value pos) (Yy X.K ta tv f):=by
 intro pins s σ H D I h
 refine plainObj_wpAny_Assign_Attribute (thn (hv pins s σ H _ I h) fun u s1 ⟨y,H1,I1,ry,q⟩=>thn (ha pins s1 σ H1 _ I1 q) fun ov s2 ⟨x,H2,I2,rx,a,C,dx,fs,ex,ea,c,n,l,q2⟩=>?_) hs
 subst ex
 obtain rfl:ov=Value.ref a:=rx
 exact MV I2 ea c n l ry fun s3 I3=>⟨σ,_,I3,q2⟩
end
section
variable {X:Cx} {pins:List (Addr×Obj)} {σ:St} {H:Hp} {s:Shared} {A:Around} {E:Value->Shared->Prop} {Q:Value->Shared->Prop} {c:Value} {b:Bool}
inductive MM (K:Fg) (H:Hp):V->Value->Prop where
 | non:MM K H .non (.type "NoneType")
 | bl (x:Bool):MM K H (.bl x) (.type "bool")
 | int (i:Int):MM K H (.int i) (.type "int")
 | str (x:Str):MM K H (.str x) (.type "str")
 | flt (x:UInt64):MM K H (.flt x) (.type "float")
 | lst {a:Addr} {xs:List V} (e:H a=some (.lst xs)):MM K H (.ref a) (.type "list")
 | frz {a:Addr} {o:Obj} {xs:List V} (e:H a=some (.frz o (.lst xs))):MM K H (.ref a) (.type "list")
 | tup {a:Addr} {xs:List V} (e:H a=some (.tup xs)):MM K H (.ref a) (.type "tuple")
 | dK {a:Addr} {kvs:List (Key×V)} (e:H a=some (.dK kvs)):MM K H (.ref a) (.type "dict")
 | dT {a:Addr} {kvs:List (List Key×V)} (e:H a=some (.dT kvs)):MM K H (.ref a) (.type "dict")
 | ins {a C dx:Addr} {fs:List (Str×V)} (e:H a=some (.ins C dx fs)) (cl:Cls K C) (ha:PySem.W.findIn K (.ref C) "__class__"=some (some (.builtin "object.__class__")))
   (hn:PySem.W.specialIn K (.builtin "object.__class__") "__get__"=some (some (.builtin "getset_descriptor.__get__"))) (htk:PySem.W.takesIn K (.builtin "object.__class__")=some true)
   (hm:PySem.W.mroIn K C (.type "object")=some true):MM K H (.ref a) (.ref C)
theorem OX {x:V} {u t:Value} (I:Inv X pins σ H s) (rx:RelV x u) (ty:MM X.K H x t) (e:PySem.W.kitOne X.K t c=some b) (h:∀ tk,Q (.bool b) { s with toks:=tk }) :
  wpAny (model X.prog X.w) A (call (.builtin "isinstance") [u,c]) Q E s:=by
 cases ty with
 | non=>cases (show u=Value.none from rx);exact PySem.W.kia_one PySem.W.kitx_none I.kIn True.intro e (fun z=>nomatch z) h
 | bl y=>cases (show u=Value.bool y from rx);exact PySem.W.kia_one PySem.W.kitx_bool I.kIn True.intro e (fun z=>nomatch z) h
 | int i=>obtain ⟨t,q⟩:=(show ∃ t,u=Value.int i t from rx);cases q;exact PySem.W.kia_one PySem.W.kitx_int I.kIn True.intro e (fun z=>nomatch z) h
 | str y=>obtain ⟨t,q⟩:=(show ∃ t,u=Value.str y t from rx);cases q;exact PySem.W.kia_one PySem.W.kitx_str I.kIn True.intro e (fun z=>nomatch z) h
 | flt y=>obtain ⟨t,q⟩:=(show ∃ t,u=Value.float y t from rx);cases q;exact PySem.W.kia_one PySem.W.kitx_float I.kIn True.intro e (fun z=>nomatch z) h
 | @lst a xs ea =>
  cases (show u=Value.ref a from rx)
  obtain ⟨_,_,n,_,h1⟩:=(show C3 X.prog X.w H s.heap a (.lst xs) from I.hok a _ ea)
  exact PySem.W.kia_one PySem.W.kitx_list I.kIn ⟨_,h1,rfl⟩ e (fun z=>nomatch z) h
 | @frz a ob xs ea =>
  cases (show u=Value.ref a from rx)
  obtain ⟨_,_,_,n,_,h1⟩:=(show C3 X.prog X.w H s.heap a (.frz ob (.lst xs)) from I.hok a _ ea)
  exact PySem.W.kia_one PySem.W.kitx_list I.kIn ⟨_,h1,rfl⟩ e (fun z=>nomatch z) h
 | @tup a xs ea =>
  cases (show u=Value.ref a from rx)
  obtain ⟨_,_,_,p⟩:=(show C3 X.prog X.w H s.heap a (.tup xs) from I.hok a _ ea)
  obtain ⟨o,h1,h2,_⟩:=p
  exact PySem.W.kia_one PySem.W.kitx_tuple I.kIn ⟨o,h1,h2⟩ e (fun z=>nomatch z) h
 | @dK a kvs ea =>
  cases (show u=Value.ref a from rx)
  obtain ⟨_,_,vs,_,p⟩:=(show C3 X.prog X.w H s.heap a (.dK kvs) from I.hok a _ ea)
  obtain ⟨o,es,ep,h1,h2,_⟩:=p
  exact PySem.W.kia_one PySem.W.kitx_dict I.kIn ⟨o,h1,h2.1⟩ e (fun z=>nomatch z) h
 | @dT a kvs ea =>
  cases (show u=Value.ref a from rx)
  obtain ⟨_,_,xs,_,o,es,ep,h1,h2,_⟩:=(show C3 X.prog X.w H s.heap a (.dT kvs) from I.hok a _ ea)
  exact PySem.W.kia_one PySem.W.kitx_dict I.kIn ⟨o,h1,h2.1⟩ e (fun z=>nomatch z) h
 | @ins a C dx fs ea cl ha hn htk hm =>
  cases (show u=Value.ref a from rx)
  obtain ⟨mA,O,_⟩:=JB I.hok ea
  obtain ⟨od,J,_⟩:=O.look
  exact PySem.W.kia_one (PySem.W.kitx_own (cl.get _) cl.hd ha hn htk hm) I.kIn J e (fun z=>nomatch z) h
end
structure EE (k:Nat) (A:Around):Prop where
 hd:A.handled=none
 dp:A.depth+3 * k+5 < recursionLimit
 un:A.units+16 * k+200 < cLine
theorem EE.mono {j k:Nat} {A:Around} (r:EE k A) (h:j<=k):EE j A:=⟨r.hd,by have:=r.dp;omega,by have:=r.un;omega⟩
theorem EE.deeper {k:Nat} {A:Around} (r:EE (k+1) A) (env:Env):EE k (A.deeper env) :=
 ⟨r.hd,by have:=r.dp;show A.depth+1+3 * k+5 < _;omega,by have:=r.un;show A.units+3+16 * k+200 < _;omega⟩
theorem Ni {A:Around} {C:Addr} {us:List Value} {kw:List (Str×Value)}:(A.under (.builtin "type.__call__" ⟨.ref C :: us,kw⟩)).depth=A.depth+1:=by
 first | rfl | simp [Around.under,Code.weight,Code.isCreation,Code.isGuard,Code.isCaller,Code.frames,Code.isFrame,guardIds]
theorem Nh {A:Around} {C:Addr} {us:List Value} {kw:List (Str×Value)}:(A.under (.builtin "type.__call__" ⟨.ref C :: us,kw⟩)).units=A.units+1:=by
 first | rfl | simp [Around.under,Code.cUnits,Code.frames,Code.isFrame]
theorem EE.make {k:Nat} {A:Around} (r:EE (k+1) A) (C:Addr) (us:List Value) (kw:List (Str×Value)):EE k (A.under (.builtin "type.__call__" ⟨.ref C :: us,kw⟩)) :=
 ⟨r.hd,by have:=r.dp;rw [Ni];omega,by have:=r.un;rw [Nh];omega⟩
theorem EE.depth {k:Nat} {A:Around} (r:EE k A):A.depth < recursionLimit:=by have:=r.dp;omega
theorem EE.units {k:Nat} {A:Around} (r:EE k A):A.units+64 < cLine:=by have:=r.un;omega
def WZ:TA:=fun _ H Q=>Q [] H
def Xr (ta:TE) (tr:TA):TA:=fun σ H Q=>ta σ H fun x H1=>tr σ H1 fun xs H2=>Q (x :: xs) H2
section
variable {X:Cx} {e:Expr} {es:List Expr} {te:TE} {t:TA} {pos:Pos}
theorem GX:PA X [] WZ:=fun _ _ _ _ H Q I h=>Calls.spliced_nil ⟨[],H,I,.nil,h⟩
theorem El (ha:PE X e te) (hr:PA X es t) (hs:starEach (e :: es) X.env=(false,eval e X.env) :: starEach es X.env:=by rfl):PA X (e :: es) (Xr te t):=by
 intro pos pins s σ H Q I h
 rw [hs]
 show wpAny _ _ (spliced ((false,eval e X.env) :: backTo pos (starEach es X.env))) _ _ s
 refine Calls.spliced_cons (thn (ha pins s σ H _ I h) fun u s1 ⟨x,H1,I1,r1,q1⟩=>?_)
 exact thn (hr pos pins s1 σ H1 _ I1 q1) fun us s2 ⟨xs,H2,I2,r2,q2⟩=>⟨x :: xs,H2,I2,.cons r1 r2,q2⟩
def YN (t:TA):TE:=fun σ H Q=>t σ H fun xs H1=>xs.length<=sizeLine/\∀ p,H1 p=none->Q (.ref p) (upd H1 p (.tup xs))
def YS (t:TA):TE:=fun σ H Q=>t σ H fun xs H1=>xs.length<=sizeLine/\∀ p,H1 p=none->Q (.ref p) (upd H1 p (.lst xs))
theorem Vq {x1} (h:PA X es t):PE X (.Tuple es x1 pos) (YN t):=by
 intro pins s σ H Q I hq
 refine wpAny_Tuple_spliced (thn (h pos pins s σ H _ I hq) fun us s1 ⟨xs,H1,I1,r,z,q⟩=>⟨by rw [<- r.length];exact z,?_⟩)
 have hf:H1 s1.heap.objs.size=none:=I1.hok.fresh (Nat.le_refl _)
 refine ⟨.ref s1.heap.objs.size,upd H1 s1.heap.objs.size (.tup xs),I1.laid (t':=s1.toks) (fun b u e=>Heap.get?_push_of_some _ e) (Nat.le_refl _) ?_,rfl,q _ hf⟩
 exact ⟨z,us,r,⟨_,Heap.get?_push_size _ rfl,rfl,_,rfl⟩⟩
theorem Mb (h:PA X es t):PE X (.List es pos) (YS t):=by
 intro pins s σ H Q I hq
 refine wpAny_List_spliced (thn (h pos pins s σ H _ I hq) fun us s1 ⟨xs,H1,I1,r,z,q⟩=>⟨by rw [<- r.length];exact z,?_⟩)
 have hf:H1 s1.heap.objs.size=none:=I1.hok.fresh (Nat.le_refl _)
 refine ⟨.ref s1.heap.objs.size,upd H1 s1.heap.objs.size (.lst xs),I1.laid (t':=s1.toks) (fun b u e=>Heap.get?_push_of_some _ e) (Nat.le_refl _) ?_,rfl,q _ hf⟩
 exact ⟨z,us,0,r,Heap.get?_push_size _ rfl⟩
end
abbrev Sp:=List V->Hp->VK->XK->Prop
abbrev CXT:=List Env->Hp->Shared->XK->Value->Shared->Prop
structure UL (P:Program) (w:World) (K:Fg) (mg:Str->Option Value) (base:Heap) (A:Around) (outer:List Env) (s:Shared) (H:Hp):Prop where
 frames:A.frames=some outer
 mod:Mod K mg base
 bs:∀ b o,base.get? b=some o->s.heap.get? b=some o/\H b=none
 bsz:base.objs.size<=s.heap.objs.size
 Nr:s.heap.FunFrames base outer
 frf:∀ b∈frs outer,H b=none
 hok:HOk P w H s.heap
 bare:AllBare s.gens
def CE (outer:List Env) (P:Program) (w:World) (H:Hp) (s:Shared) (Q:VK) (u:Value) (s':Shared):Prop :=
 ∃ v H',s'.os=s.os/\AllBare s'.gens/\Un (frs outer) [] H H' s.heap s'.heap/\HOk P w H' s'.heap/\RelV v u/\Q v H'
def CR (CX:CXT) (outer:List Env) (P:Program) (w:World) (H:Hp) (s:Shared) (Q:VK) (E:XK) (r:Result) (s':Shared):Prop :=
 match r with
 | .ok (.ret u)=>CE outer P w H s Q u s'
 | .ok _=>False
 | .error e=>CX outer H s E e s'
structure Dv (P:Program) (w:World) (K:Fg) (mg:Str->Option Value) (base:Heap) (CX:CXT) (k:Nat) (f:Addr) (fd:FuncData) (ps:List Str) (sp:Sp):Prop where
 len:∀ vs H Q E,sp vs H Q E->vs.length=ps.length
 run:∀ (A:Around) (outer:List Env) (s:Shared) (H:Hp) (args:Args) (us:List Value) (vs:List V) (Q:VK) (E:XK),EE k A->UL P w K mg base A outer s H->BindsTo s fd args (ps.zip us)->Vals vs us->sp vs H Q E ->
  codeAny (model P w) A (.call (.ref f) args) (CR CX outer P w H s Q E) s
theorem Dv.imp {P:Program} {w:World} {K:Fg} {mg:Str->Option Value} {base:Heap} {CX:CXT} {k:Nat} {f:Addr} {fd:FuncData} {ps:List Str} {sp sp':Sp} (F:Dv P w K mg base CX k f fd ps sp)
  (h:∀ vs H Q E,sp' vs H Q E->sp vs H Q E):Dv P w K mg base CX k f fd ps sp' :=
 ⟨fun vs H Q E q=>F.len vs H Q E (h _ _ _ _ q),fun A outer s H args us vs Q E hr he hb hv hs=>F.run A outer s H args us vs Q E hr he hb hv (h _ _ _ _ hs)⟩
theorem UL.make {P:Program} {w:World} {K:Fg} {mg:Str->Option Value} {base:Heap} {A:Around} {outer:List Env} {s:Shared} {H:Hp} (e:UL P w K mg base A outer s H) (C:Addr) (us:List Value) (kw:List (Str×Value)) :
  UL P w K mg base (A.under (.builtin "type.__call__" ⟨.ref C :: us,kw⟩)) outer s H:=⟨by first | exact e.frames | (simpa [Around.under,Code.envs,Code.isFrame,pushEnvs] using e.frames),e.mod,e.bs,e.bsz,e.Nr,e.frf,e.hok,e.bare⟩
section
variable {X:Cx} {pins:List (Addr×Obj)} {σ:St} {H:Hp} {s s':Shared}
theorem Inv.YI (I:Inv X pins σ H s):UL X.prog X.w X.K X.mg X.base X.A X.stack s H :=
 ⟨I.ok.frames,I.ok.mod,I.bs,Nat.le_trans I.ok.bsz I.sz,I.stack,I.NZ,I.hok,I.bare⟩
theorem Inv.after {Q:VK} {u:Value} (I:Inv X pins σ H s) (h:CE X.stack X.prog X.w H s Q u s'):EP X pins σ Q u s':=by
 obtain ⟨v,H',os,bare,un,hok,r,q⟩:=h
 obtain ⟨hh,g,d,t,os'⟩:=s'
 obtain rfl:os'=s.os:=os
 exact ⟨v,H',I.call (h':=hh) (g':=g) (d':=d) (t':=t) (ch:=[]) un hok bare (fun b z=>absurd z (by simp)),r,q⟩
end
def U2 (sp:Sp) (dvs:List V) (E:XK) (t:TA):TE:=fun σ H Q=>t σ H fun vs H1=>sp (vs++dvs) H1 Q E
def NU (C:Addr) (m:Str) (sp:Sp) (dvs:List V) (E:XK) (ta:TE) (t:TA):TE:=fun σ H Q=>ta σ H fun x H1=>∃ a dx fs,x=.ref a/\H1 a=some (.ins C dx fs)/\fs.lookup m=none /\
 t σ H1 fun vs H2=>sp (x :: (vs++dvs)) H2 Q E
def U0 (C:Addr) (sp:Sp) (dvs:List V) (E:XK) (t:TA):TE:=fun σ H Q=>t σ H fun vs H1=>∀ x dx,H1 x=none->H1 dx=none->dx≠x ->
 sp (.ref x :: (vs++dvs)) (upd (upd H1 dx (.own x)) x (.ins C dx [])) (fun v H2=>v=.non/\Q (.ref x) H2) E
def Binds (K:Fg) (fd:FuncData) (ps:List Str) (ds:List Value):Prop :=
 ∀ (s:Shared) (us:List Value),K.In s.heap->(us++ds).length=ps.length->BindsTo s fd ⟨us,[]⟩ (ps.zip (us++ds))
theorem Binds.all {K:Fg} {fd:FuncData} {ps:List Str} (h:∀ us:List Value,us.length=ps.length->bindArgs fd ⟨us,[]⟩=pure (ps.zip us)):Binds K fd ps []:=fun s us _ hl=>by
 rw [List.append_nil] at hl ⊢
 exact .of_eq (h us hl)
def Passes (CX:CXT) (X:Cx) (E:XK):Prop:=∀ (pins:List (Addr×Obj)) (σ:St) (H:Hp) (s:Shared) (e:Value) (s':Shared),Inv X pins σ H s->CX X.stack H s E e s'->X.xe e s'
section
variable {X:Cx} {CX:CXT} {k:Nat} {f C:Addr} {fd:FuncData} {ps:List Str} {sp:Sp} {dvs:List V} {ds:List Value} {E:XK} {x m:Str} {p pos apos:Pos} {e o:Expr} {es:List Expr} {ta:TE} {t:TA}
theorem N7 {pins:List (Addr×Obj)} {σ:St} {H:Hp} {s:Shared} {Q:VK} {us:List Value} {vs:List V} (F:Dv X.prog X.w X.K X.mg X.base CX k f fd ps sp) (hr:EE k X.A) (hb:Binds X.K fd ps ds) (hd:Vals dvs ds) (hx:Passes CX X E)
  (I:Inv X pins σ H s) (r:Vals vs us) (h:sp (vs++dvs) H Q E):wpAny (model X.prog X.w) X.A (call (.ref f) us) (EP X pins σ Q) X.xe s:=by
 have r2:Vals (vs++dvs) (us++ds):=r.append hd
 have hl:(us++ds).length=ps.length:=by rw [<- r2.length];exact F.len _ _ _ _ h
 refine wpAny_call (codeAny_mono (F.run X.A X.stack s H ⟨us,[]⟩ (us++ds) (vs++dvs) Q E hr I.YI (hb s us I.kIn hl) r2 h) fun r s' hq=>?_)
 cases r with
 | error e=>exact hx pins σ H s e s' I hq
 | ok fl =>
  cases fl with
  | ret u=>exact I.after hq
  | next=>exact False.elim hq
  | brk=>exact False.elim hq
  | cont=>exact False.elim hq
theorem S7 (F:Dv X.prog X.w X.K X.mg X.base CX k f fd ps sp) (hr:EE k X.A) (hg:Gl X x) (hm:X.mg x=some (.ref f)) (hk:PySem.W.keepIn X.K (.ref f)=true) (hb:Binds X.K fd ps ds) (hd:Vals dvs ds) (hx:Passes CX X E)
  (ha:PA X (e :: es) t) (hdb:(x == ("__debug__":Str))=false:=by decide) (he:starEach (e :: es) X.env=(false,eval e X.env) :: starEach es X.env:=by rfl) (hpl:(backTo pos (starEach es X.env)).any (·.1)=false:=by rfl) :
  PE X (.Call (.Name x p) (e :: es) [] pos) (U2 sp dvs E t):=by
 intro pins s σ H Q I h
 refine wpAny_Call_Name_kw (Lv I hg hm ?_ hdb)
 refine PySem.W.callWith_K (h₀:=X.base) I.ok.mod.kin hk (thn (ha pos pins s σ H _ I h) fun us s1 ⟨vs,H1,I1,r,q⟩=>⟨I1.kIn,?_⟩) he hpl
 exact N7 F hr hb hd hx I1 r q
theorem S3 {pl:Sem Bool} (he:PE X o ta) (c:Cls X.K C) (hm:Meth X.K C m f) (F:Dv X.prog X.w X.K X.mg X.base CX k f fd ps sp) (hr:EE k X.A) (hb:Binds X.K fd ps ds) (hd:Vals dvs ds) (hx:Passes CX X E) (ha:PA X (e :: es) t)
  (hst:starEach (e :: es) X.env=(false,eval e X.env) :: starEach es X.env:=by rfl) (hpl:(backTo pos (starEach es X.env)).any (·.1)=false:=by rfl)
  (ht:eval (.Call (.Attribute o m apos) (e :: es) [] pos) X.env=(do
   let ov <- eval o X.env
   standAt apos.atName
   let (f,first) <- holding [ov] (getMethod ov m pl)
   callWith pos f first (backTo pos (starEach (e :: es) X.env)) (backToKw pos (keywordEach [] X.env))):=by rfl) :
  PE X (.Call (.Attribute o m apos) (e :: es) [] pos) (NU C m sp dvs E ta t):=by
 intro pins s σ H Q I h
 refine PySem.W.methodCall_KW (pl:=pl) (thn (he pins s σ H _ I h) fun u s1 ⟨x,H1,I1,rx,a,dx,fs,ex,ea,l,q⟩=>?_) ht
 subst ex
 obtain rfl:u=Value.ref a:=rx
 refine IS I1 ea c hm l ?_
 refine PySem.W.callWith_K (first:=[.ref a]) (h₀:=X.base) I.ok.mod.kin hm.kp (thn (ha pos pins s1 σ H1 _ I1 q) fun us s2 ⟨vs,H2,I2,r,q2⟩=>⟨I2.kIn,?_⟩) hst hpl
 exact N7 (us:=.ref a :: us) (vs:=.ref a :: vs) F hr hb hd hx I2 (.cons rfl r) q2
theorem QI {pl:Sem Bool} (he:PE X o ta) (c:Cls X.K C) (hm:Meth X.K C m f) (F:Dv X.prog X.w X.K X.mg X.base CX k f fd ps sp) (hr:EE k X.A) (hb:Binds X.K fd ps ds) (hd:Vals dvs ds) (hx:Passes CX X E)
  (ht:eval (.Call (.Attribute o m apos) [] [] pos) X.env=(do
   let ov <- eval o X.env
   standAt apos.atName
   let (f,first) <- holding [ov] (getMethod ov m pl)
   callWith pos f first (backTo pos (starEach [] X.env)) (backToKw pos (keywordEach [] X.env))):=by rfl) :
  PE X (.Call (.Attribute o m apos) [] [] pos) (NU C m sp dvs E ta WZ):=by
 intro pins s σ H Q I h
 refine PySem.W.methodCall_KW (pl:=pl) (thn (he pins s σ H _ I h) fun u s1 ⟨x,H1,I1,rx,a,dx,fs,ex,ea,l,q⟩=>?_) ht
 subst ex
 obtain rfl:u=Value.ref a:=rx
 refine IS I1 ea c hm l ?_
 exact PySem.W.callWith_K0 (first:=[.ref a]) I1.kIn hm.kp (N7 (us:=[.ref a]) (vs:=[.ref a]) F hr hb hd hx I1 (.cons rfl .nil) q)
structure Mk (K:Fg) (C f:Addr):Prop where
 makes:PySem.W.makesIn K C=true
 init:PySem.W.findIn K (.ref C) "__init__"=some (some (.ref f))
 fn:PySem.W.isFn K (.ref f)=true
 kp:PySem.W.keepIn K (.ref C)=true
theorem Qs {pins:List (Addr×Obj)} {σ:St} {H:Hp} {s:Shared} {Q:VK} {us:List Value} {vs:List V} (M:Mk X.K C f) (F:Dv X.prog X.w X.K X.mg X.base CX k f fd ps sp) (hr:EE (k+1) X.A) (hb:Binds X.K fd ps ds) (hd:Vals dvs ds)
  (hx:Passes CX X E) (I:Inv X pins σ H s) (r:Vals vs us)
  (h:∀ x dx,H x=none->H dx=none->dx≠x->sp (.ref x :: (vs++dvs)) (upd (upd H dx (.own x)) x (.ins C dx [])) (fun v H2=>v=.non/\Q (.ref x) H2) E) :
  wpAny (model X.prog X.w) X.A (call (.ref C) us) (EP X pins σ Q) X.xe s:=by
 have hq:=h (s.heap.objs.size+1) s.heap.objs.size (I.hok.fresh (Nat.le_succ _)) (I.hok.fresh (Nat.le_refl _)) (Nat.ne_of_lt (Nat.lt_succ_self _))
 have I2:=Inv.made (C:=C) I
 have r2:Vals (V.ref (s.heap.objs.size+1) :: (vs++dvs)) (Value.ref (s.heap.objs.size+1) :: (us++ds)):=.cons rfl (r.append hd)
 have hl:(Value.ref (s.heap.objs.size+1) :: us++ds).length=ps.length:=by
  have e:=r2.length
  rw [F.len _ _ _ _ hq] at e
  exact e.symm
 refine wpAny_call (QS (f:=f) I.kIn M.makes M.init (beq_iff_eq.mp M.fn) (codeAny_mono (F.run _ X.stack _ _ ⟨Value.ref (s.heap.objs.size+1) :: us,[]⟩ (Value.ref (s.heap.objs.size+1) :: (us++ds)) _ _ E (hr.make C us [])
  (I2.YI.make C us []) (hb _ (Value.ref (s.heap.objs.size+1) :: us) I2.kIn hl) r2 hq) fun r s' hq'=>?_))
 cases r with
 | error e=>exact hx pins σ _ _ e s' I2 hq'
 | ok fl =>
  cases fl with
  | ret u =>
   obtain ⟨v,H',I3,rv,ev,q3⟩:=I2.after hq'
   subst ev
   exact ⟨rv,⟨V.ref (s.heap.objs.size+1),H',I3,rfl,q3⟩⟩
  | next=>exact False.elim hq'
  | brk=>exact False.elim hq'
  | cont=>exact False.elim hq'
theorem S4 (M:Mk X.K C f) (F:Dv X.prog X.w X.K X.mg X.base CX k f fd ps sp) (hr:EE (k+1) X.A) (hg:Gl X x) (hm:X.mg x=some (.ref C)) (hb:Binds X.K fd ps ds) (hd:Vals dvs ds) (hx:Passes CX X E)
  (ha:PA X (e :: es) t) (hdb:(x == ("__debug__":Str))=false:=by decide) (he:starEach (e :: es) X.env=(false,eval e X.env) :: starEach es X.env:=by rfl) (hpl:(backTo pos (starEach es X.env)).any (·.1)=false:=by rfl) :
  PE X (.Call (.Name x p) (e :: es) [] pos) (U0 C sp dvs E t):=by
 intro pins s σ H Q I h
 refine wpAny_Call_Name_kw (Lv I hg hm ?_ hdb)
 refine PySem.W.callWith_K (h₀:=X.base) I.ok.mod.kin M.kp (thn (ha pos pins s σ H _ I h) fun us s1 ⟨vs,H1,I1,r,q⟩=>⟨I1.kIn,?_⟩) he hpl
 exact Qs M F hr hb hd hx I1 r q
end
section
variable {X:Cx} {CX:CXT} {k:Nat} {f C:Addr} {fd:FuncData} {ps ks:List Str} {sp:Sp} {E:XK} {x m:Str} {p pos apos kpos:Pos} {e o:Expr} {es:List Expr} {kws:List Keyword} {te ta:TE} {t tk:TA} {nm:Option Str}
variable {g:List Value->List Value->List Value} {gV:List V->List V->List V}
end
structure AZ (N P:List Str) (sc:Scope):Prop where
 kind:sc.kind=.function
 co:sc.isCoroutine=false
 gen:sc.isGenerator=false
 nd:N.Nodup
 pre:N.take P.length=P
 par:∀ x∈P,sc.names.lookup x=some .local∨sc.names.lookup x=some .cell
 nofree:∀ y∈sc.names,y.2≠.free
theorem K0 {kindOf:Str->Option NameKind} {x:Str}:∀ {binds:List (Str×Value)} {m:Str->Option Value},(∀ v,(x,v)∉binds)->bindL kindOf binds m x=m x
 | [],_,_=>rfl
 | (n,v) :: r,m,h=>by
  unfold bindL
  rw [K0 fun w hw=>h w (List.mem_cons_of_mem _ hw)]
  split
  ·have:x≠n:=by rintro rfl;exact h v List.mem_cons_self
   simp [this]
  ·rfl
theorem K5 {kindOf:Str->Option NameKind} {x:Str}:∀ {binds:List (Str×Value)} {m:Str->Option Value},(∀ v,(x,v)∉binds)->bindC kindOf binds m x=m x
 | [],_,_=>rfl
 | (n,v) :: r,m,h=>by
  unfold bindC
  rw [K5 fun w hw=>h w (List.mem_cons_of_mem _ hw)]
  split
  ·rfl
  ·have:x≠n:=by rintro rfl;exact h v List.mem_cons_self
   simp [this]
theorem K4 {kindOf:Str->Option NameKind} {x:Str} {v:Value}:∀ {P:List Str} {vs:List Value} {i:Nat} {m:Str->Option Value},P.Nodup->P[i]?=some x->vs[i]?=some v->kindOf x=some .local ->
  bindL kindOf (P.zip vs) m x=some v
 | [],_,_,_,_,h,_,_=>by simp at h
 | _ :: _,[],_,_,_,_,h,_=>by simp at h
 | p :: P,w :: vs,0,m,nd,h1,h2,hk=>by
  simp at h1 h2;subst h1;subst h2
  show bindL kindOf ((p,w) :: P.zip vs) m p=_
  unfold bindL
  rw [K0 fun v hv=>(List.nodup_cons.mp nd).1 (List.of_mem_zip hv).1,if_pos hk]
  simp
 | p :: P,w :: vs,i+1,m,nd,h1,h2,hk=>by
  show bindL kindOf ((p,w) :: P.zip vs) m x=_
  unfold bindL
  exact K4 (i:=i) (List.nodup_cons.mp nd).2 (by simpa using h1) (by simpa using h2) hk
theorem K6 {kindOf:Str->Option NameKind} {x:Str} {v:Value}:∀ {P:List Str} {vs:List Value} {i:Nat} {m:Str->Option Value},P.Nodup->P[i]?=some x->vs[i]?=some v->kindOf x≠some .local ->
  bindC kindOf (P.zip vs) m x=some v
 | [],_,_,_,_,h,_,_=>by simp at h
 | _ :: _,[],_,_,_,_,h,_=>by simp at h
 | p :: P,w :: vs,0,m,nd,h1,h2,hk=>by
  simp at h1 h2;subst h1;subst h2
  show bindC kindOf ((p,w) :: P.zip vs) m p=_
  unfold bindC
  rw [K5 fun v hv=>(List.nodup_cons.mp nd).1 (List.of_mem_zip hv).1,if_neg hk]
  simp
 | p :: P,w :: vs,i+1,m,nd,h1,h2,hk=>by
  show bindC kindOf ((p,w) :: P.zip vs) m x=_
  unfold bindC
  exact K6 (i:=i) (List.nodup_cons.mp nd).2 (by simpa using h1) (by simpa using h2) hk
def start (N:List Str) (vs:List V):St:=vs.map some++List.replicate (N.length - vs.length) none
def Ur (CX:CXT) (P:Program) (w:World) (K:Fg) (mg:Str->Option Value) (base:Heap) (N:List Str) (qual:Str) (scope:Scope) (f:Addr) (cd:Value) (A:Around) (outer:List Env) (s:Shared) (H:Hp) (E:XK):Cx where
 prog:=P
 w:=w
 K:=K
 mg:=mg
 base:=base
 A:=A.deeper (envOfC qual scope s.heap.objs.size f cd)
 N:=N
 s₀:=s
 H₀:=H
 env:=envOfC qual scope s.heap.objs.size f cd
 outer:=outer
 stack:=envOfC qual scope s.heap.objs.size f cd :: outer
 ex:=[]
 calm:=true
 fn:=fun _=>true
 pn:=[]
 xe:=fun e s'=>wpAny (model P w) (A.deeper (envOfC qual scope s.heap.objs.size f cd)) (leaving (envOfC qual scope s.heap.objs.size f cd) e) (fun _ s''=>CX outer H s E e s'') (fun e' s''=>CX outer H s E e' s'') s'
theorem MF {sc:Scope} {n:Nat} {x:Str} (h:sc.names.lookup x=some .cell):∃ c,(cellsFrom n sc.names []).lookup x=some c:=by
 have q:=PySem.W.cellsFrom_some sc.names n [] (.inl h)
 exact Option.isSome_iff_exists.mp q
theorem OY {CX:CXT} {P:Program} {w:World} {K:Fg} {mg:Str->Option Value} {base:Heap} {N ps:List Str} {qual:Str} {scope:Scope} {f:Addr} {cd:Value} {A:Around} {outer:List Env} {s s1:Shared} {H:Hp} {E:XK} {us:List Value} {vs:List V}
  (S:AZ N ps scope) (hd:A.handled=none) (e0:UL P w K mg base A outer s H) (hl:vs.length=ps.length) (r:Vals vs us)
  (x:InCallC s s.heap.objs.size (bindL (envOfC qual scope s.heap.objs.size f cd).kindOf (ps.zip us) fun _=>none) (cellsFrom (s.heap.objs.size+1) scope.names []) (bindC (envOfC qual scope s.heap.objs.size f cd).kindOf (ps.zip us) fun _=>none) s1) :
  Inv (Ur CX P w K mg base N qual scope f cd A outer s H E) [] (start N vs) H s1:=by
 have hpl:ps.length<=N.length:=by have:=congrArg List.length S.pre;rw [List.length_take] at this;omega
 obtain ⟨h1,tk,rfl,hk⟩:=x.done
 have noA:∀ b:Addr,b∉(Ur CX P w K mg base N qual scope f cd A outer s H E).ex:=fun b z=>absurd (show b∈([]:List Addr) from z) (by simp)
 refine ⟨⟨e0.mod,S.kind,rfl,rfl,Nat.le_refl _,fun y z c h1 h2=>?_,fun y hy=>?_,fun y c _ h=>?_,fun _=>hd,Around.frames_deeper e0.frames,.inr ⟨rfl,rfl⟩,fun b z=>absurd z (noA b),e0.bs,e0.bsz,fun b _ _=>noA b,fun b z=>absurd z (noA b),e0.Nr,e0.frf⟩,
  rfl,e0.bare,Un.kept hk,⟨_,x.toInCall.ns,fun i y v h1 h2 h3=>?_⟩,fun y c h=>⟨_,x.cell y c h⟩,e0.hok.fresh (Nat.le_refl _),fun y c h=>?_,fun p hp=>absurd (show p∈([]:List (Addr×Obj)) from hp) (by simp),e0.hok.kept hk,?_⟩
 ·exact name_of_addr x.apart (PySem.mem_of_lookup h1) (PySem.mem_of_lookup h2)
 ·have hy:scope.names.lookup y=some .cell∨scope.names.lookup y=some .free:=hy
  rcases hy with hy | hy
  ·exact MF hy
  ·exact absurd rfl (S.nofree _ (PySem.mem_of_lookup hy))
 ·exact Nat.le_of_lt (x.above y c (PySem.mem_of_lookup h))
 ·have hi:i < vs.length:=by
   unfold start at h2
   by_cases hi:i < vs.length
   ·exact hi
   ·rw [List.getElem?_append_right (by simpa using hi)] at h2
    rw [List.getElem?_replicate] at h2
    split at h2 <;> cases h2
  have ha:vs[i]?=some v:=by
   unfold start at h2
   rw [List.getElem?_append_left (by simpa using hi),List.getElem?_map] at h2
   cases e:vs[i]? with
   | none=>rw [e] at h2;cases h2
   | some a=>rw [e] at h2;cases h2;rfl
  obtain ⟨u,hu,rv⟩:=r.get ha
  have hp:ps[i]?=some y:=by
   rw [<- S.pre,List.getElem?_take_of_lt (by omega)];exact h1
  have ndP:ps.Nodup:=by rw [<- S.pre];exact S.nd.sublist (List.take_sublist _ _)
  refine ⟨u,rv,?_⟩
  rcases S.par y (List.mem_of_getElem? hp) with k | k
  ·exact .inl ⟨k,K4 ndP hp hu k⟩
  ·obtain ⟨c,e⟩:=MF (n:=s.heap.objs.size+1) k
   refine .inr ⟨.inl k,c,e,?_⟩
   have q:=x.cell y c e
   rw [K6 ndP hp hu (by show scope.names.lookup y≠_;rw [k];decide)] at q
   exact q
 ·exact e0.hok.fresh (Nat.le_of_lt (x.above y c (PySem.mem_of_lookup h)))
 ·unfold start
  show _=N.length
  rw [List.length_append,List.length_map,List.length_replicate]
  omega
theorem Yg {CX:CXT} {P:Program} {w:World} {K:Fg} {mg:Str->Option Value} {base:Heap} {k:Nat} {f:Addr} {name qual:Str} {params:Arguments} {body:List Stmt} {scope:Scope} {dV kV doc pm cdv ct oc:Value} {an od:Option Addr}
  {osl:Array (Option Value)} {N ps:List Str} {sp:Sp} (lk:K.lookup f=some ⟨oc,od,.func (PySem.W.fnOf name qual params body scope dV kV doc pm an cdv ct),osl⟩) (hcd:PySem.W.codeIn K cdv qual=true) (S:AZ N ps scope)
  (len:∀ vs H Q E,sp vs H Q E->vs.length=ps.length)
  (hbody:∀ (A:Around) (outer:List Env) (s:Shared) (H:Hp) (vs:List V) (Q:VK) (E:XK),EE k (A.deeper (envOfC qual scope s.heap.objs.size f cdv))->sp vs H Q E ->
   ∃ t,PSs (Ur CX P w K mg base N qual scope f cdv A outer s H E) body t/\t { nx:=fun _ H'=>Q .non H',rt:=Q } (start N vs) H) :
  Dv P w K mg base CX (k+1) f (PySem.W.fnOf name qual params body scope dV kV doc pm an cdv ct) ps sp:=by
 refine ⟨len,fun A outer s H args us vs Q E hr e0 hb r hsp=>?_⟩
 have hl:=len _ _ _ _ hsp
 have KX:K.In s.heap:=e0.mod.kin.keeps fun b o e=>(e0.bs b o e).1
 have lim:s.heap.NoLimit:=e0.mod.nolimit.keeps fun b o e=>(e0.bs b o e).1
 have hkind:∀ y∈ps.zip us,scope.names.lookup y.1=some .local∨(scope.names.lookup y.1=some .cell/\((cellsFrom (s.heap.objs.size+1) scope.names []).lookup y.1).isSome=true):=fun ⟨n,v⟩ hy=>by
  rcases S.par n (List.of_mem_zip hy).1 with q | q
  ·exact .inl q
  ·exact .inr ⟨q,PySem.W.cellsFrom_some _ _ _ (.inl q)⟩
 refine codeAny_call_function hr.depth (KX _ _ lk) rfl S.co S.gen rfl (PySem.W.codeRec_of KX hcd) (hb _ _ _ _ ?_)
 refine wpAny_newFunctionEnv_cells S.kind hkind fun env he s1 x=>?_
 subst he
 refine ⟨lim.keeps x.toInCall.keep,codeAny_func ?_⟩
 obtain ⟨t,ht,hq⟩:=hbody A outer s H vs Q E (hr.deeper _) hsp
 have I:Inv (Ur CX P w K mg base N qual scope f cdv A outer s H E) [] (start N vs) H s1:=OY S hr.hd e0 hl r x
 refine wpAny_mono (ht [] s1 (start N vs) H _ I hq) (fun fl s' hs=>?_) fun e s' hs=>hs
 have fin:∀ {σ':St} {H':Hp} {v:V} {u:Value},Inv (Ur CX P w K mg base N qual scope f cdv A outer s H E) [] σ' H' s'->RelV v u->Q v H'->CE outer P w H s Q u s' :=
  fun {σ' H' v u} J rv q=>⟨v,H',J.os,J.bare,J.base,J.hok,rv,q⟩
 cases fl with
 | ret u =>
  obtain ⟨v,σ',H',J,rv,q⟩:=hs
  exact fin J rv q
 | next =>
  obtain ⟨σ',H',J,q⟩:=hs
  exact fin (v:=V.non) (u:=Value.none) J rfl q
 | brk =>
  obtain ⟨_,_,_,q⟩:=hs
  exact False.elim q
 | cont =>
  obtain ⟨_,_,_,q⟩:=hs
  exact False.elim q
section
variable {X:Cx} {x:Str} {p pos:Pos} {e:Expr} {es:List Expr} {t:TA} {id T:String} {r:List V->Hp->VK->Prop}
def tCB (r:List V->Hp->VK->Prop) (t:TA):TE:=fun σ H Q=>t σ H fun vs H1=>r vs H1 Q
theorem Me (hc:DU X (.builtin id) r) (hg:Gl X x) (hm:X.mg x=none) (hv:bootBuiltins x=some (.builtin id)) (ha:PA X (e :: es) t) (hn:x≠"__name__":=by decide) (hdb:(x == ("__debug__":Str))=false:=by decide)
  (he:starEach (e :: es) X.env=(false,eval e X.env) :: starEach es X.env:=by rfl) (hpl:(backTo pos (starEach es X.env)).any (·.1)=false:=by rfl):PE X (.Call (.Name x p) (e :: es) [] pos) (tCB r t):=by
 intro pins s σ H Q I h
 refine wpAny_Call_Name_kw (GZ I hg hm hv ?_ hn hdb)
 exact PyProof.Rows.callWith_builtin1 (thn (ha pos pins s σ H _ I h) fun us s1 ⟨vs,H1,I1,r1,q1⟩=>hc pins s1 σ H1 vs us Q I1 r1 q1) he hpl
theorem Ot (hc:DU X (.type T) r) (hg:Gl X x) (hm:X.mg x=none) (hv:bootBuiltins x=some (.type T)) (ha:PA X (e :: es) t) (hn:x≠"__name__":=by decide) (hdb:(x == ("__debug__":Str))=false:=by decide)
  (he:starEach (e :: es) X.env=(false,eval e X.env) :: starEach es X.env:=by rfl) (hpl:(backTo pos (starEach es X.env)).any (·.1)=false:=by rfl):PE X (.Call (.Name x p) (e :: es) [] pos) (tCB r t):=by
 intro pins s σ H Q I h
 refine wpAny_Call_Name_kw (GZ I hg hm hv ?_ hn hdb)
 exact PyProof.Rows.callWith_type1 (thn (ha pos pins s σ H _ I h) fun us s1 ⟨vs,H1,I1,r1,q1⟩=>hc pins s1 σ H1 vs us Q I1 r1 q1) he hpl
end
end L2
namespace HT
open PySem PyProof.Rows
section
open PySem.SeqAt
open PySem.AutoSeq1 (wpAny_loadPart')
open PySem.MeetsSeq PySem.MeetsSeq2 PySem.MeetsSeq3
end
section
variable {prog:Program} {w:World} {A:Around} {E:Value->Shared->Prop} {s:Shared}
theorem Uy {t b:Addr} {vs ws:List Value} {Q:Value->Shared->Prop} (ht:IsTup s.heap t vs.toArray) (hb:IsTup s.heap b ws.toArray) (hv:vs≠[])
  (h1:ws=[]->Q (.ref t) s) (h2:ws≠[]->Q (.ref s.heap.objs.size) { s with heap:=s.heap.push { cls:=.type "tuple",data:=.seq (vs++ws).toArray } })
  (hsz:vs.length+ws.length<=sizeLine):wpAny (model prog w) A (binaryOp .Add (.ref t) (.ref b)) Q E s:=by
 obtain ⟨⟨cls,dd,data,sl⟩,ho,hc,n,hd⟩:=id ht
 obtain ⟨⟨cls2,dd2,data2,sl2⟩,ho2,hc2,n2,hd2⟩:=id hb
 simp only at hc hd hc2 hd2
 subst hc hd hc2 hd2
 have e:vs.toArray++ws.toArray=(vs++ws).toArray:=by simp
 by_cases hw:ws=[]
 ·exact concat_meets ⟨_,ho,rfl⟩ ⟨_,ho2,rfl⟩ noFill_tuple_add seq_tuple_add PySem.F.slot_tuple_add PySem.F.entry_tuple_add (PySem.F.args_tuple_add_2 _ _)
   (tuple_addW1 t b vs.toArray ws.toArray n n2 dd dd2 sl sl2 (by simpa using hv) (by simp [hw])) ⟨ho,ho2,h1 hw⟩
 ·refine concat_meets ⟨_,ho,rfl⟩ ⟨_,ho2,rfl⟩ noFill_tuple_add seq_tuple_add PySem.F.slot_tuple_add PySem.F.entry_tuple_add (PySem.F.args_tuple_add_2 _ _)
   (tuple_addW2 t b vs.toArray ws.toArray n n2 dd dd2 sl sl2 (by simpa using hv) (by simpa using hw) (by rw [List.size_toArray,List.size_toArray];exact hsz)) ⟨ho,ho2,?_⟩
  rw [e]
  exact h2 hw
def sIx (n d:Nat):Option Int->Nat
 | none=>d
 | some v=>if v < 0 then (v+(n:Int)).toNat else min v.toNat n
theorem U7 (n d:Nat) (hd:d<=n) (o:Option Int):sIx n d o<=n:=by
 cases o with
 | none=>exact hd
 | some v =>
  show (if v < 0 then (v+(n:Int)).toNat else min v.toNat n)<=n
  by_cases hv:v < 0
  ·rw [if_pos hv];omega
  ·rw [if_neg hv];exact Nat.min_le_right _ _
theorem PY (v:Int) (n d:Nat):(if v < 0 then max (v+(n:Int)) 0 else min v (n:Int))=((sIx n d (some v):Nat):Int):=by
 show (if v < 0 then max (v+(n:Int)) 0 else min v (n:Int))=(((if v < 0 then (v+(n:Int)).toNat else min v.toNat n):Nat):Int)
 by_cases hv:v < 0
 ·simp only [if_pos hv];omega
 ·simp only [if_neg hv];omega
theorem NF (lo hi:Option Int) (n:Nat):Builtin.Slice.sliceAdjust lo hi 1 (n:Int)=(((sIx n 0 lo:Nat):Int),((sIx n n hi:Nat):Int)):=by
 have h1:¬ ((1:Int) < 0):=by omega
 unfold Builtin.Slice.sliceAdjust
 simp only [h1,if_false]
 refine Prod.ext ?_ ?_
 ·cases lo with
  | none=>rfl
  | some v=>exact PY v n 0
 ·cases hi with
  | none=>rfl
  | some v=>exact PY v n n
theorem M0 (i j:Nat):Builtin.Slice.slicePlaces (i:Int) (j:Int) 1=j - i:=by
 unfold Builtin.Slice.slicePlaces
 have h1:(1:Int) > 0:=by omega
 simp only [h1,if_true,Int.ediv_one]
 split <;> omega
theorem IA {v:Value} {o:Option Int} {Q:Option Int->Shared->Prop} (p:IsPart v o) (h:Q o s):wpAny (model prog w) A (Builtin.Slice.slicePartIndex v) Q E s:=by
 cases p with
 | none=>exact slicePart_none h
 | int i t=>exact slicePart_int h
theorem Ew {sl:Addr} {vl vu:Value} {lo hi:Option Int} {n:Nat} {Q:Int×Int×Nat->Shared->Prop} (hs:s.heap.IsSliceOf sl vl vu .none) (pl:IsPart vl lo) (pu:IsPart vu hi)
  (h:Q (((sIx n 0 lo:Nat):Int),1,sIx n n hi - sIx n 0 lo) s):wpAny (model prog w) A (Builtin.Slice.sliceApplied (.ref sl) (pure (n:Int))) Q E s:=by
 obtain ⟨os,hos,hcs,hds⟩:=id hs
 unfold Builtin.Slice.sliceApplied Builtin.Slice.sliceFields
 refine wpAny_bind (wpAny_bind (wpAny_field hos hds (x:=vl) rfl (wpAny_bind (wpAny_field hos hds (x:=vu) rfl (wpAny_bind (wpAny_field hos hds (x:=.none) rfl (wpAny_pure ?_)))))))
 refine wpAny_bind (slicePart_none ?_)
 show wpAny _ _ (if ((1:Int) == 0)=true then _ else _) _ _ s
 rw [if_neg (by decide)]
 refine wpAny_bind (IA pl (wpAny_bind (IA pu (wpAny_bind (wpAny_pure ?_)))))
 show wpAny _ _ (match Builtin.Slice.sliceAdjust lo hi 1 (n:Int) with | (lo,hi)=>pure (lo,(1:Int),Builtin.Slice.slicePlaces lo hi 1)) _ _ s
 rw [NF lo hi n]
 show wpAny _ _ (pure (((sIx n 0 lo:Nat):Int),(1:Int),Builtin.Slice.slicePlaces ((sIx n 0 lo:Nat):Int) ((sIx n n hi:Nat):Int) 1)) _ _ s
 rw [M0]
 exact wpAny_pure h
theorem QG (xs:Array Value) (i k:Nat):((List.range k).filterMap fun (m:Nat)=>xs[((i:Int)+(m:Int) * 1).toNat]?).toArray=((xs.toList.drop i).take k).toArray:=by
 have e:(fun (m:Nat)=>xs[((i:Int)+(m:Int) * 1).toNat]?)=fun m=>xs[i+m]?:=by
  funext m
  have:((i:Int)+(m:Int) * 1).toNat=i+m:=by omega
  rw [this]
 rw [e]
 have:=pick_run xs i k
 rw [List.filterMap_map] at this
 have e2:((fun x=>xs[x]?)∘fun x=>i+x)=fun m=>xs[i+m]?:=rfl
 rw [e2] at this
 rw [this]
theorem GF {t sl:Addr} {items:Array Value} {vl vu:Value} {lo hi:Option Int} {Q:Value->Shared->Prop} (ht:IsTup s.heap t items) (hs:s.heap.IsSliceOf sl vl vu .none) (pl:IsPart vl lo) (pu:IsPart vu hi)
  (hw:¬ (sIx items.size 0 lo=0/\sIx items.size items.size hi=items.size))
  (h:Q (.ref s.heap.objs.size) { s with heap:=s.heap.push { cls:=.type "tuple",data:=.seq ((items.toList.drop (sIx items.size 0 lo)).take (sIx items.size items.size hi - sIx items.size 0 lo)).toArray } })
  (hsz:items.size<=sizeLine):wpAny (model prog w) A (getItem (.ref t) (.ref sl)) Q E s:=by
 have htake:sizeOk (.seq ((items.toList.drop (sIx items.size 0 lo)).take (sIx items.size items.size hi - sIx items.size 0 lo)).toArray):=by
  show ((items.toList.drop (sIx items.size 0 lo)).take (sIx items.size items.size hi - sIx items.size 0 lo)).toArray.size<=sizeLine
  rw [List.size_toArray,List.length_take,List.length_drop,Array.length_toList]
  omega
 have hj:sIx items.size items.size hi<=items.size:=U7 _ _ (Nat.le_refl _) hi
 obtain ⟨os,hos,hcs,hds⟩:=id hs
 have hTs:s.TypeIs (.ref sl) "slice":=⟨os,hos,hcs⟩
 unfold getItem
 try with_reducible refine wpAny_holding ?_
 first | refine wpAny_bind (wpAny_pure ?_) | skip
 refine wpAny_bind (wpAny_sequenceKey ht.typeIs (by decide) ?_)
 refine wpAny_bind (wpAny_callSpecial?_slot (name:=Str.ofString "__getitem__") ht.typeIs PyProof.Rows.slot_tuple_getitem
  (wpAny_call_entry PyProof.Rows.slot_tuple_getitem ht.typeIs entry_tuple_getitem ?_ (args_tuple_getitem _ _)))
 show wpAny _ _ (Builtin.Tuple.tupleItemsOf (.ref t) >>= _) _ _ s
 refine wpAny_bind (tupleItemsOf_ ht ?_)
 refine wpAny_bind (wpAny_typeOf hTs ?_)
 rw [if_pos (by decide)]
 refine wpAny_bind (Ew hs pl pu ?_)
 have hno:¬ ((((sIx items.size 0 lo:Nat):Int) == 0 && (1:Int) == 1 && (sIx items.size items.size hi - sIx items.size 0 lo) == items.size)=true):=by
  intro q
  rw [Bool.and_eq_true,Bool.and_eq_true] at q
  have q1:((sIx items.size 0 lo:Nat):Int)=0:=eq_of_beq q.1.1
  have q2:sIx items.size items.size hi - sIx items.size 0 lo=items.size:=eq_of_beq q.2
  exact hw ⟨by omega,by omega⟩
 show wpAny _ _ (if (((sIx items.size 0 lo:Nat):Int) == 0 && (1:Int) == 1 && (sIx items.size items.size hi - sIx items.size 0 lo) == items.size)=true then _ else _) _ _ s
 rw [if_neg hno,QG]
 first
  | exact wpAny_bind (m:=Builtin.Tuple.tupleExact _) (wpAny_newObj_type (wpAny_pure ⟨_,rfl,wpAny_pure h⟩) htake)
  | exact wpAny_bind (m:=Builtin.Tuple.tupleExact _) (wpAny_newObj_type (wpAny_bind (wpAny_pure (wpAny_pure ⟨_,rfl,wpAny_pure h⟩))) htake)
  | exact wpAny_bind (wpAny_bind (m:=Builtin.Tuple.tupleExact _) (wpAny_newObj_type (wpAny_pure (wpAny_pure ⟨_,rfl,wpAny_pure h⟩)) htake))
  | exact wpAny_bind (wpAny_bind (m:=Builtin.Tuple.tupleExact _) (wpAny_newObj_type (wpAny_pure ⟨_,rfl,wpAny_pure h⟩) htake))
end
end HT
namespace L2
open PySem PySem.Spec PyProof.Rows
abbrev TO:=St->Hp->(Option Int->Hp->Prop)->Prop
def PO (X:Cx) (e:Option Expr) (t:TO):Prop :=
 ∀ (pins:List (Addr×Obj)) (s:Shared) (σ:St) (H:Hp) (Q:Option Int->Hp->Prop),Inv X pins σ H s->t σ H Q ->
  wpAny (model X.prog X.w) X.A (evalPart e X.env) (fun u s'=>∃ o H',Inv X pins σ H' s'/\IsPart u o/\Q o H') X.xe s
def SI:TO:=fun _ H Q=>Q none H
def Xn (t:TE):TO:=fun σ H Q=>t σ H fun x H1=>∃ i,x=.int i/\Q (some i) H1
theorem intsAre_of {ns:List Int}:∀ {us:List Value},Vals (ns.map V.int) us->IntsAre us ns:=by
 induction ns with
 | nil=>intro us r;rw [List.map_nil] at r;cases r;exact .nil
 | cons n ns ih =>
  intro us r
  rw [List.map_cons] at r
  cases r with
  | cons r1 r2 =>
   obtain ⟨t,e⟩:=r1
   subst e
   exact .cons n t (ih r2)
section
variable {X:Cx} {e:Expr} {te:TE} {lo hi:Option Expr} {tl th:TO} {pos p2:Pos}
theorem SX:PO X none SI:=by
 intro pins s σ H Q I h
 rw [evalPart_none]
 exact wpAny_pure ⟨none,H,I,.none,h⟩
theorem SW (h:PE X e te):PO X (some e) (Xn te):=by
 intro pins s σ H Q I hw
 rw [evalPart_some]
 refine thn (h pins s σ H _ I hw) fun u s1 ⟨x,H1,I1,r1,q1⟩=>?_
 obtain ⟨i,rfl,q⟩:=q1
 obtain ⟨t,rfl⟩:=r1
 exact ⟨some i,H1,I1,.int i t,q⟩
def SlR (X:Cx) (r:V->Option Int->Option Int->Hp->VK->Prop):Prop :=
 ∀ (pins:List (Addr×Obj)) (s:Shared) (σ:St) (H:Hp) (x:V) (v vl vu:Value) (lo hi:Option Int) (sl:Addr) (Q:VK),Inv X pins σ H s->RelV x v->s.heap.IsSliceOf sl vl vu .none->IsPart vl lo->IsPart vu hi->r x lo hi H Q ->
  ∃ T id,typeLookup (.type T) "__getitem__"=pure (some (.builtin id))/\s.TypeIs v T/\wpAny (model X.prog X.w) X.A (getItem v (.ref sl)) (EP X pins σ Q) X.xe s
theorem SlR.or {r r':V->Option Int->Option Int->Hp->VK->Prop} (h:SlR X r) (h':SlR X r'):SlR X (fun x lo hi H Q=>r x lo hi H Q∨r' x lo hi H Q):=by
 intro pins s σ H x v vl vu lo hi sl Q I rx hs pl pu q
 rcases q with q | q
 ·exact h pins s σ H x v vl vu lo hi sl Q I rx hs pl pu q
 ·exact h' pins s σ H x v vl vu lo hi sl Q I rx hs pl pu q
def tSl (r:V->Option Int->Option Int->Hp->VK->Prop) (te:TE) (tl th:TO):TE:=fun σ H Q=>te σ H fun x H1=>tl σ H1 fun l H2=>th σ H2 fun u H3=>r x l u H3 Q
theorem QH {r:V->Option Int->Option Int->Hp->VK->Prop} (hr:SlR X r) (he:PE X e te) (hl:PO X lo tl) (hu:PO X hi th):PE X (.Subscript e (.Slice lo hi none p2) pos) (tSl r te tl th):=by
 intro pins s σ H Q I h
 refine Subscript_ (thn (he pins s σ H _ I h) fun v s1 ⟨x,H1,I1,r1,q1⟩=>?_)
 refine wpAny_Slice (thn (hl pins s1 σ H1 _ I1 q1) fun vl s2 ⟨l,H2,I2,pl,q2⟩=>thn (hu pins s2 σ H2 _ I2 q2) fun vu s3 ⟨u,H3,I3,pu,q3⟩=>?_)
 rw [evalPart_none]
 refine wpAny_pure ?_
 have I4:Inv X pins σ H3 { s3 with heap:=s3.heap.push { cls:=.type "slice",data:=.fields #[vl,vu,.none] } }:=I3.kept (t':=s3.toks) fun b ob q=>Heap.get?_push_of_some _ q
 obtain ⟨T,id,hT,ht,hg⟩:=hr pins { s3 with heap:=s3.heap.push { cls:=.type "slice",data:=.fields #[vl,vu,.none] } } σ H3 x v vl vu l u s3.heap.objs.size Q I4 r1 (Heap.IsSliceOf.new ..) pl pu q3
 show wpAny (model X.prog X.w) X.A (subscriptTail e (.Slice lo hi none p2) v (.ref s3.heap.objs.size)) (EP X pins σ Q) X.xe { s3 with heap:=s3.heap.push { cls:=.type "slice",data:=.fields #[vl,vu,.none] } }
 exact tail_any (ops:=[.ref s3.heap.objs.size,v]) ht hT hg (by with_unfolding_all rfl)
def Sh (xs:List V) (lo hi:Option Int):List V:=(xs.drop (HT.sIx xs.length 0 lo)).take (HT.sIx xs.length xs.length hi - HT.sIx xs.length 0 lo)
theorem Ia (xs:List V) (lo hi:Option Int):(Sh xs lo hi).length<=xs.length:=by
 unfold Sh
 rw [List.length_take,List.length_drop]
 omega
def YY (K:Fg):V->Option Int->Option Int->Hp->VK->Prop:=fun x lo hi H Q=>∃ a xs,x=.ref a/\SqT K H a xs /\
 ¬ (HT.sIx xs.length 0 lo=0/\HT.sIx xs.length xs.length hi=xs.length)/\∀ p,H p=none->Q (.ref p) (upd H p (.tup (Sh xs lo hi)))
theorem U4:SlR X (YY X.K):=by
 intro pins s σ H x v vl vu lo hi sl Q I rx hs pl pu h
 obtain ⟨a,xs,rfl,hx,hw,q⟩:=h
 cases rx
 obtain ⟨its,r,ht,hz⟩:=I.tuple hx
 have hlen:its.toArray.size=xs.length:=by rw [List.size_toArray];exact r.length.symm
 refine ⟨"tuple",_,PyProof.Rows.slot_tuple_getitem.lookup,ht.typeIs,?_⟩
 refine HT.GF ht hs pl pu (by rw [hlen];exact hw) ?_ (by rw [hlen];exact hz)
 rw [hlen]
 refine ⟨.ref s.heap.objs.size,_,I.laid (t':=s.toks) (o:=.tup (Sh xs lo hi)) (fun b ob q=>Heap.get?_push_of_some _ q) (Nat.le_refl _) ?_,rfl,q _ (I.hok.fresh (Nat.le_refl _))⟩
 exact ⟨Nat.le_trans (Ia xs lo hi) hz,_,(r.drop (HT.sIx xs.length 0 lo)).take (HT.sIx xs.length xs.length hi - HT.sIx xs.length 0 lo),IsTup.new _ _⟩
def Ve (K:Fg):R2:=fun x y H Q=>∃ a b xs ys,x=.ref a/\y=.ref b/\SqT K H a xs/\SqT K H b ys/\xs≠[]/\xs.length+ys.length<=sizeLine /\
 (ys=[]->Q (.ref a) H)/\(ys≠[]->∀ p,H p=none->Q (.ref p) (upd H p (.tup (xs++ys))))
theorem Vals.Lr {xs:List V} {us:List Value} (r:Vals xs us):us=[]↔xs=[]:=by
 cases r with
 | nil=>simp
 | cons _ _=>simp
theorem Td:OpR X (binaryOp .Add) (Ve X.K):=by
 intro pins s σ H x y v u Q I rx ry h
 obtain ⟨a,b,xs,ys,rfl,rfl,ha,hb,hx,hz,q1,q2⟩:=h
 cases rx
 cases ry
 obtain ⟨its,r1,p1,_⟩:=I.tuple ha
 obtain ⟨its2,r2,p2,_⟩:=I.tuple hb
 refine HT.Uy p1 p2 (fun z=>hx (r1.Lr.mp z)) (fun z=>⟨.ref a,H,I,rfl,q1 (r2.Lr.mp z)⟩) (fun z=>?_) (by rw [<- r1.length,<- r2.length];exact hz)
 refine ⟨.ref s.heap.objs.size,_,I.laid (t':=s.toks) (o:=.tup (xs++ys)) (fun b ob q=>Heap.get?_push_of_some _ q) (Nat.le_refl _) ?_,rfl,q2 (fun w=>z (r2.Lr.mpr w)) _ (I.hok.fresh (Nat.le_refl _))⟩
 exact ⟨by rw [List.length_append];exact hz,_,r1.append r2,IsTup.new _ _⟩
end
def ixN (n:Nat) (i:Int):Option Nat:=if 0<=i then (if i < n then some i.toNat else none) else if -(n:Int)<=i then some (i+n).toNat else none
def atI {α:Type} (xs:List α) (i:Int):Option α:=(ixN xs.length i).bind fun j=>xs[j]?
theorem OV {n:Nat} {i:Int} {j:Nat} (h:ixN n i=some j):seqIndex? i n=some j/\j < n/\-(n:Int)<=i/\i < n:=by
 unfold ixN at h
 by_cases h0:0<=i
 ·rw [if_pos h0] at h
  by_cases h1:i < n
  ·rw [if_pos h1] at h
   have e:i.toNat=j:=Option.some.inj h
   exact ⟨by rw [seqIndex_of h0 h1,e],by omega,by omega,h1⟩
  ·rw [if_neg h1] at h;cases h
 ·rw [if_neg h0] at h
  by_cases h1:-(n:Int)<=i
  ·rw [if_pos h1] at h
   have e:(i+n).toNat=j:=Option.some.inj h
   exact ⟨by rw [seqIndex_neg (by omega) h1,e],by omega,h1,by omega⟩
  ·rw [if_neg h1] at h;cases h
theorem LR {α:Type} {xs:List α} {i:Int} {v:α} (h:atI xs i=some v):∃ j,seqIndex? i xs.length=some j/\xs[j]?=some v/\j < xs.length/\-(xs.length:Int)<=i/\i < xs.length:=by
 unfold atI at h
 cases e:ixN xs.length i with
 | none=>rw [e] at h;cases h
 | some j =>
  rw [e] at h
  obtain ⟨h1,h2,h3,h4⟩:=OV e
  exact ⟨j,h1,h,h2,h3,h4⟩
theorem AW {α:Type} {xs:List α} {j:Nat} {v:α} (h:xs[j]?=some v):atI xs (j:Int)=some v:=by
 have hj:j < xs.length:=(List.getElem?_eq_some_iff.mp h).1
 have e:ixN xs.length (j:Int)=some j:=by
  unfold ixN
  rw [if_pos (by omega),if_pos (by omega)];simp
 unfold atI;rw [e];exact h
theorem Rt {α:Type} (xs:List α) (v:α):atI (xs++[v]) (-1)=some v:=by
 have hl:(xs++[v]).length=xs.length+1:=by simp
 have e:ixN (xs++[v]).length (-1)=some xs.length:=by
  unfold ixN
  rw [hl,if_neg (by decide),if_pos (by omega)]
  congr 1
  omega
 unfold atI
 rw [e]
 show (xs++[v])[xs.length]?=some v
 simp
def JX (b:Expr):Prop:=∀ o i,subscripted b false o i=operate [o,i] (getItem o i)
def IxR (X:Cx) (r:R2):Prop :=
 ∀ (value slice:Expr) (pins:List (Addr×Obj)) (s:Shared) (σ:St) (H:Hp) (x y:V) (v u:Value) (Q:VK),Inv X pins σ H s->RelV x v->RelV y u->r x y H Q ->
  subscripted slice false v u=operate [v,u] (getItem v u)->wpAny (model X.prog X.w) X.A (subscriptTail value slice v u) (EP X pins σ Q) X.xe s
def MtR (X:Cx) (id:String) (r:V->List V->Hp->VK->Prop):Prop :=
 ∀ (pins:List (Addr×Obj)) (s:Shared) (σ:St) (H:Hp) (x:V) (xs:List V) (v:Value) (us:List Value) (Q:VK),Inv X pins σ H s->RelV x v->Vals xs us->r x xs H Q ->
  wpAny (model X.prog X.w) X.A (call (.builtin id) (v :: us)) (EP X pins σ Q) X.xe s
section
variable {X:Cx} {a b:Expr} {ta tb:TE} {pos:Pos}
theorem IxR.or {r r':R2} (h:IxR X r) (h':IxR X r'):IxR X (fun x y H Q=>r x y H Q∨r' x y H Q):=by
 intro value slice pins s σ H x y v u Q I rx ry q hs
 rcases q with q | q
 ·exact h value slice pins s σ H x y v u Q I rx ry q hs
 ·exact h' value slice pins s σ H x y v u Q I rx ry q hs
theorem Oq {r:R2} (hr:IxR X r) (ha:PE X a ta) (hb:PE X b tb) (hs:JX b):PE X (.Subscript a b pos) (tOp r ta tb):=by
 intro pins s σ H Q I h
 exact Subscript_ (Yt ha hb I h fun v u s2 x y H2 I2 rx ry q=>hr a b pins s2 σ H2 x y v u Q I2 rx ry q (hs _ _))
def YC (K:Fg):R2:=fun x y H Q=>∃ p xs i v,x=.ref p/\y=.int i/\SqL K H p xs/\atI xs i=some v/\Q v H
def YA (K:Fg):R2:=fun x y H Q=>∃ p xs i v,x=.ref p/\y=.int i/\SqT K H p xs/\atI xs i=some v/\Q v H
def YB:R2:=fun x y H Q=>∃ z i c,x=.str z/\y=.int i/\z.length<=sizeLine/\atI z.cps.toList i=some c/\Q (.str ⟨#[c]⟩) H
theorem JA:IxR X (YC X.K):=by
 intro value slice pins s σ H x y v u Q I rx ry h hs
 obtain ⟨p,xs,i,z,rfl,rfl,hq,he,q⟩:=h
 cases rx
 obtain ⟨t,rfl⟩:=ry
 obtain ⟨its,r,pl,hz⟩:=I.list hq
 obtain ⟨j,h1,h2,h3,h4,h5⟩:=LR he
 obtain ⟨w,ew,rw'⟩:=r.get h2
 have hl:=r.length
 have hn:=HN
 have fin:EP X pins σ Q w s:=⟨z,H,I,rw',q⟩
 by_cases h0:0<=i
 ·have hj:i.toNat=j:=by
   rw [seqIndex_of h0 h5] at h1
   exact Option.some.inj h1
  exact item_listR pl.isList h0 (by omega) (by rw [hj];simpa using ew) fin hs
 ·have hj:(i+(its.toArray.size:Int)).toNat=j:=by
   rw [seqIndex_neg (by omega) h4] at h1
   rw [List.size_toArray,<- hl]
   exact Option.some.inj h1
  exact subscriptTail_builtinR (x:=w) pl.isList.typeIs slot_list_getitem.lookup
   (wpAny_getItem_list_neg (Q:=fun r s'=>r=w/\EP X pins σ Q r s') pl.isList (by omega) (by rw [List.size_toArray] <;> omega) (by omega) (by rw [hj];simpa using ew) ⟨rfl,fin⟩) hs
theorem VY:IxR X (YA X.K):=by
 intro value slice pins s σ H x y v u Q I rx ry h hs
 obtain ⟨p,xs,i,z,rfl,rfl,hq,he,q⟩:=h
 cases rx
 obtain ⟨t,rfl⟩:=ry
 obtain ⟨its,r,pl,hz⟩:=I.tuple hq
 obtain ⟨j,h1,h2,h3,h4,h5⟩:=LR he
 obtain ⟨w,ew,rw'⟩:=r.get h2
 have hl:=r.length
 have hn:=HN
 have fin:EP X pins σ Q w s:=⟨z,H,I,rw',q⟩
 exact subscriptTail_builtinR (x:=w) pl.typeIs slot_tuple_getitem.lookup
  (getItem_tuple (j:=j) (Q:=fun r s'=>r=w/\EP X pins σ Q r s') pl (by omega) (by omega) (by rw [List.size_toArray,<- hl];exact h1) (by simpa using ew) ⟨rfl,fin⟩) hs
theorem VZ:IxR X YB:=by
 intro value slice pins s σ H x y v u Q I rx ry h hs
 obtain ⟨z,i,c,rfl,rfl,hz,he,q⟩:=h
 obtain ⟨t,rfl⟩:=rx
 obtain ⟨t',rfl⟩:=ry
 obtain ⟨j,h1,h2,h3,h4,h5⟩:=LR he
 have hl:z.cps.toList.length=z.length:=by simp [Str.length]
 rw [hl] at h1 h4 h5
 have hn:=HN
 exact tail_any (typeIs_str s z t) slot_str_getitem.lookup (getItem_str (c:=c) (by
  have e1:decide (i < -(2 ^ 63:Int))=false:=decide_eq_false (by omega)
  have e2:decide (i≥2 ^ 63)=false:=decide_eq_false (by omega)
  rw [e1,e2,Bool.or_false]) (by rw [h1];simpa using h2) ⟨.str ⟨#[c]⟩,H,I.tok _,⟨_,rfl⟩,q⟩) hs
def rIx (K:Fg):R2:=fun x y H Q=>YC K x y H Q∨YA K x y H Q∨YB x y H Q
theorem V0:IxR X (rIx X.K):=JA.or (VY.or VZ)
theorem Ng (its:List Value) (n j:Nat) (u:Value):Obj.mapSeq (·.setIfInBounds j u) { cls:=.type "list",data:=.seq its.toArray n }={ cls:=.type "list",data:=.seq (its.set j u).toArray n }:=by
 simp [Obj.mapSeq]
theorem Inv.lst {pins:List (Addr×Obj)} {σ:St} {H:Hp} {s:Shared} {p:Addr} {xs:List V} (I:Inv X pins σ H s) (h:H p=some (.lst xs)) :
  ∃ (its:List Value) (n:Nat),Vals xs its/\s.heap.get? p=some { cls:=.type "list",data:=.seq its.toArray n }/\xs.length<=sizeLine:=by
 obtain ⟨z,its,n,r,e⟩:=I.hok p _ h
 exact ⟨its,n,r,e,z⟩
theorem Inv.VQ {pins:List (Addr×Obj)} {σ:St} {H:Hp} {s:Shared} {p:Addr} {xs ys:List V} {its its':List Value} {n n':Nat} {f:Obj->Obj} (I:Inv X pins σ H s) (h:H p=some (.lst xs))
  (ho:s.heap.get? p=some { cls:=.type "list",data:=.seq its.toArray n }) (hf:f { cls:=.type "list",data:=.seq its.toArray n }={ cls:=.type "list",data:=.seq its'.toArray n' }) (r:Vals ys its') (hz:ys.length<=sizeLine) (t:Nat) :
  Inv X pins σ (upd H p (.lst ys)) { s with heap:=s.heap.update p f,toks:=t }:=by
 have e:(s.heap.update p f).get? p=some { cls:=.type "list",data:=.seq its'.toArray n' }:=by
  rw [Heap.get?_update_self f ho (by rw [hf] <;> rfl),hf]
 refine I.write (x:=p) (e:=p) (by rw [h];trivial) (.inl rfl) (fun b u hb q=>(Heap.get?_update_other _ _ (Ne.symm hb)).trans q) ⟨_,e⟩ ?_
 exact ⟨hz,its',n',r,e⟩
def Qx:V->V->V->Hp->(Hp->Prop)->Prop:=fun o i v H Q=>∃ p xs k j,o=.ref p/\i=.int k/\H p=some (.lst xs)/\ixN xs.length k=some j/\Q (upd H p (.lst (xs.set j v)))
theorem set_list:Rx X Qx:=by
 intro pins s σ H o i v ov iv u Q I ro ri rv h
 obtain ⟨p,xs,k,j,rfl,rfl,hp,hj,q⟩:=h
 cases ro
 obtain ⟨t,rfl⟩:=ri
 obtain ⟨its,n,r,ho,hz⟩:=I.lst hp
 obtain ⟨h1,h2,h3,h4⟩:=OV hj
 have hl:=r.length
 have hn:=HN
 have I':Inv X pins σ (upd H p (.lst (xs.set j v))) { s with heap:=s.heap.update p (Obj.mapSeq (·.setIfInBounds j u)) } :=
  I.VQ hp ho (Ng its n j u) (r.set rv j) (by rw [List.length_set];exact hz) s.toks
 by_cases h0:0<=k
 ·have hk:k.toNat=j:=by
   rw [seqIndex_of h0 h4] at h1
   exact Option.some.inj h1
  exact PySem.W.ki_setAt ho h0 (by omega) (by rw [List.size_toArray,<- hl];exact h4) (by rw [hk];exact ⟨_,I',q⟩)
 ·have hk:(k+(its.toArray.size:Int)).toNat=j:=by
   rw [seqIndex_neg (by omega) h3] at h1
   rw [List.size_toArray,<- hl]
   exact Option.some.inj h1
  exact PySem.W.ki_setBack ho (by omega) (by rw [List.size_toArray,<- hl];exact h3) (by omega) (by rw [hk];exact ⟨_,I',q⟩)
theorem J6 (lo hi:Option Int) (n:Nat):(sliceBounds lo hi none n).1=((HT.sIx n 0 lo:Nat):Int)/\(sliceBounds lo hi none n).2.1=((HT.sIx n n hi:Nat):Int)/\(sliceBounds lo hi none n).2.2=1:=by
 refine ⟨?_,?_,rfl⟩
 ·cases lo with
  | none=>simp [sliceBounds,HT.sIx]
  | some i =>
   simp only [sliceBounds,HT.sIx,Option.getD_none,show (1:Int) > 0 by decide,if_true]
   by_cases h:i < 0
   ·simp only [h,if_true] <;> omega
   ·simp only [h,if_false] <;> omega
 ·cases hi with
  | none=>simp [sliceBounds,HT.sIx]
  | some i =>
   simp only [sliceBounds,HT.sIx,Option.getD_none,show (1:Int) > 0 by decide,if_true]
   by_cases h:i < 0
   ·simp only [h,if_true] <;> omega
   ·simp only [h,if_false] <;> omega
theorem Je (its:List Value) (lo hi:Option Int):slicePick its.toArray lo hi none=((its.drop (HT.sIx its.length 0 lo)).take (HT.sIx its.length its.length hi - HT.sIx its.length 0 lo)).toArray:=by
 obtain ⟨h1,h2,h3⟩:=J6 lo hi its.toArray.size
 unfold slicePick
 rw [h1,h2,h3]
 simp only [sliceRange_one,pick_run,List.size_toArray] <;> rfl
def YZ (K:Fg):V->Option Int->Option Int->Hp->VK->Prop:=fun x lo hi H Q=>∃ a xs,x=.ref a/\SqL K H a xs/\∀ p,H p=none->Q (.ref p) (upd H p (.lst (Sh xs lo hi)))
theorem SQ:SlR X (YZ X.K):=by
 intro pins s σ H x v vl vu lo hi sl Q I rx hs pl pu h
 obtain ⟨a,xs,rfl,hx,q⟩:=h
 cases rx
 obtain ⟨its,r,ht,hz⟩:=I.list hx
 have hlen:=r.length
 refine ⟨"list",_,slot_list_getitem.lookup,ht.isList.typeIs,?_⟩
 refine wpAny_getItem_list_slice ht.isList hs pl pu .none (by simp) ?_ (by rw [List.size_toArray] <;> omega)
 rw [Je,<- hlen]
 refine ⟨.ref s.heap.objs.size,_,I.laid (t':=s.toks) (o:=.lst (Sh xs lo hi)) (fun b ob q=>Heap.get?_push_of_some _ q) (Nat.le_refl _) ?_,rfl,q _ (I.hok.fresh (Nat.le_refl _))⟩
 exact ⟨Nat.le_trans (Ia xs lo hi) hz,_,0,(r.drop (HT.sIx xs.length 0 lo)).take (HT.sIx xs.length xs.length hi - HT.sIx xs.length 0 lo),Heap.get?_push_size _ rfl⟩
def FH:V->Bool
 | .non=>true
 | .bl _=>true
 | .int _=>true
 | .str _=>true
 | _=>false
def eqV:V->V->Bool
 | .non,.non=>true
 | .bl a,.bl b=>a == b
 | .bl a,.int b=>(if a then 1 else 0) == b
 | .int a,.bl b=>a == (if b then 1 else 0)
 | .int a,.int b=>a == b
 | .str a,.str b=>a == b
 | _,_=>false
theorem Sf {A:Around} {s:Shared} {y x:V} {u v:Value} (ry:RelV y u) (rx:RelV x v) (fy:FH y=true) (fx:FH x=true):SeqAt.EqAt A s u v (eqV y x):=by
 cases y with
 | non =>
  cases ry
  cases x with
  | non=>cases rx;exact SeqAt.EqAt.same _
  | bl b=>cases rx;exact SeqAt.EqAt.none_bool b
  | int b=>obtain ⟨t,rfl⟩:=rx;exact SeqAt.EqAt.none_int b t
  | str b=>obtain ⟨t,rfl⟩:=rx;exact SeqAt.EqAt.none_str b t
  | _=>exact absurd (show false=true from fx) Bool.false_ne_true
 | bl a =>
  cases ry
  cases x with
  | non=>cases rx;exact SeqAt.EqAt.bool_none a
  | bl b=>cases rx;exact SeqAt.EqAt.bool_bool a b
  | int b=>obtain ⟨t,rfl⟩:=rx;exact SeqAt.EqAt.bool_int a b t
  | str b=>obtain ⟨t,rfl⟩:=rx;exact SeqAt.EqAt.bool_str a b t
  | _=>exact absurd (show false=true from fx) Bool.false_ne_true
 | int a =>
  obtain ⟨t',rfl⟩:=ry
  cases x with
  | non=>cases rx;exact SeqAt.EqAt.int_none a t'
  | bl b=>cases rx;exact SeqAt.EqAt.int_bool a t' b
  | int b=>obtain ⟨t,rfl⟩:=rx;exact SeqAt.EqAt.int_int a t' b t
  | str b=>obtain ⟨t,rfl⟩:=rx;exact SeqAt.EqAt.int_str a t' b t
  | _=>exact absurd (show false=true from fx) Bool.false_ne_true
 | str a =>
  obtain ⟨t',rfl⟩:=ry
  cases x with
  | non=>cases rx;exact SeqAt.EqAt.str_none a t'
  | bl b=>cases rx;exact SeqAt.EqAt.str_bool a t' b
  | int b=>obtain ⟨t,rfl⟩:=rx;exact SeqAt.EqAt.str_int a t' b t
  | str b=>obtain ⟨t,rfl⟩:=rx;exact SeqAt.EqAt.str_str a t' b t
  | _=>exact absurd (show false=true from fx) Bool.false_ne_true
 | _=>exact absurd (show false=true from fy) Bool.false_ne_true
def eqU (x:V) (u:Value):Bool:=match u with
 | .none=>eqV .non x
 | .bool b=>eqV (.bl b) x
 | .int i _=>eqV (.int i) x
 | .str z _=>eqV (.str z) x
 | _=>false
theorem Sd {x y:V} {u:Value} (r:RelV y u) (f:FH y=true):eqU x u=eqV y x:=by
 cases y with
 | non=>cases r;rfl
 | bl b=>cases r;rfl
 | int i=>obtain ⟨t,rfl⟩:=r;rfl
 | str z=>obtain ⟨t,rfl⟩:=r;rfl
 | _=>exact absurd (show false=true from f) Bool.false_ne_true
theorem Ij {x:V}:∀ {xs:List V} {us:List Value},Vals xs us->xs.all FH=true->us.any (eqU x)=xs.any fun y=>eqV y x
 | _,_,.nil,_=>rfl
 | y :: xs,u :: us,.cons r t,f=>by
  rw [List.all_cons,Bool.and_eq_true] at f
  rw [List.any_cons,List.any_cons,Sd r f.1,Ij t f.2]
theorem Gd {A:Around} {s:Shared} {x:V} {v:Value} (rx:RelV x v) (fx:FH x=true):∀ {xs:List V} {us:List Value},Vals xs us->xs.all FH=true->∀ u∈us,SeqAt.EqAt A s u v (eqU x u)
 | _,_,.nil,_=>fun u hu=>by cases hu
 | y :: xs,u :: us,.cons r t,f=>fun u' hu=>by
  rw [List.all_cons,Bool.and_eq_true] at f
  rcases List.mem_cons.mp hu with rfl | hu
  ·rw [Sd r f.1];exact Sf r rx f.1 fx
  ·exact Gd rx fx t f.2 u' hu
def inV (x:V) (xs:List V):Bool:=xs.any fun y=>eqV y x
def rIn (K:Fg) (neg:Bool):R2:=fun x y H Q=>∃ p xs,y=.ref p/\(SqL K H p xs∨SqT K H p xs)/\FH x=true/\xs.all FH=true/\Q (.bl (if neg then !inV x xs else inV x xs)) H
theorem HE:OpR X (compareOp .In) (rIn X.K false):=by
 intro pins s σ H x y v u Q I rx ry h
 obtain ⟨p,xs,rfl,hq,fx,fs,q⟩:=h
 cases ry
 rcases hq with hq | hq
 ·obtain ⟨its,r,pl,hz⟩:=I.list hq
  refine SeqAt.in_listAt (eqU x) pl.isList (fun w hw=>Gd rx fx r fs w (by simpa using hw)) ⟨.bl _,H,I,rfl,?_⟩
  rw [show its.toArray.any (eqU x)=its.any (eqU x) by simp,Ij r fs]
  exact q
 ·obtain ⟨its,r,pl,hz⟩:=I.tuple hq
  refine SeqAt.in_tupleAt (eqU x) pl (fun w hw=>Gd rx fx r fs w (by simpa using hw)) ⟨.bl _,H,I,rfl,?_⟩
  rw [show its.toArray.any (eqU x)=its.any (eqU x) by simp,Ij r fs]
  exact q
theorem EL:OpR X (compareOp .NotIn) (rIn X.K true):=by
 intro pins s σ H x y v u Q I rx ry h
 obtain ⟨p,xs,rfl,hq,fx,fs,q⟩:=h
 cases ry
 rcases hq with hq | hq
 ·obtain ⟨its,r,pl,hz⟩:=I.list hq
  refine SeqAt.notIn_listAt (eqU x) pl.isList (fun w hw=>Gd rx fx r fs w (by simpa using hw)) ⟨.bl _,H,I,rfl,?_⟩
  rw [show its.toArray.any (eqU x)=its.any (eqU x) by simp,Ij r fs]
  exact q
 ·obtain ⟨its,r,pl,hz⟩:=I.tuple hq
  refine SeqAt.notIn_tupleAt (eqU x) pl (fun w hw=>Gd rx fx r fs w (by simpa using hw)) ⟨.bl _,H,I,rfl,?_⟩
  rw [show its.toArray.any (eqU x)=its.any (eqU x) by simp,Ij r fs]
  exact q
theorem Km:OpR X (compareOp .NotIn) (fun x y H Q=>∃ i j,x=.str i/\y=.str j/\Q (.bl (!(!(Builtin.Str.occurrences j i 0 j.length 1).isEmpty))) H):=by
 intro pins s σ H x y v u Q I rx ry h
 obtain ⟨i,j,rfl,rfl,q⟩:=h
 obtain ⟨t,rfl⟩:=rx
 obtain ⟨t',rfl⟩:=ry
 exact notIn_str ⟨.bl _,H,I,rfl,q⟩
theorem KZ:DU X (.builtin "len") (fun xs H Q=>∃ p ys,xs=[.ref p]/\(SqL X.K H p ys∨SqT X.K H p ys)/\Q (.int ys.length) H):=by
 intro pins s σ H xs us Q I r h
 obtain ⟨p,ys,rfl,hq,q⟩:=h
 obtain ⟨u,rfl,rx⟩:=vals1 r
 cases rx
 have hn:=HN
 rcases hq with hq | hq
 ·obtain ⟨its,r',pl,hz⟩:=I.list hq
  have hlen:=r'.length
  exact Calls.call_len_list pl.isList (by simp only [List.size_toArray] <;> omega) ⟨.int ys.length,H,I.tok _,⟨s.toks+1,by rw [List.size_toArray,hlen]⟩,q⟩
 ·obtain ⟨its,r',pl,hz⟩:=I.tuple hq
  have hlen:=r'.length
  exact len_tuple pl (by simp only [List.size_toArray] <;> omega) ⟨.int ys.length,H,I.tok _,⟨s.toks+1,by rw [List.size_toArray,hlen]⟩,q⟩
theorem KY:DU X (.builtin "len") (fun xs H Q=>∃ z,xs=[.str z]/\z.length<=sizeLine/\Q (.int z.length) H):=by
 intro pins s σ H xs us Q I r h
 obtain ⟨z,rfl,hz,q⟩:=h
 obtain ⟨u,rfl,t,rfl⟩:=vals1 r
 have hn:=HN
 exact len_str (by omega) ⟨.int z.length,H,I.tok _,⟨_,rfl⟩,q⟩
theorem KW:DU X (.type "list") (fun xs H Q=>∃ p ys,xs=[.ref p]/\(SqL X.K H p ys∨SqT X.K H p ys)/\∀ l,H l=none->Q (.ref l) (upd H l (.lst ys))):=by
 intro pins s σ H xs us Q I r h
 obtain ⟨p,ys,rfl,hq,q⟩:=h
 obtain ⟨u,rfl,rx⟩:=vals1 r
 cases rx
 have fin:∀ (its:List Value),Vals ys its->ys.length<=sizeLine->∀ (h':Heap) (c':Nat),(∀ b o',s.heap.get? b=some o'->h'.get? b=some o') ->
   h'.get? s.heap.objs.size=some { cls:=.type "list",dict:=none,data:=.seq its.toArray c',slots:=#[] }->EP X pins σ Q (.ref s.heap.objs.size) { s with heap:=h' }:=fun its r' hz h' c' kp e =>
  ⟨.ref s.heap.objs.size,_,I.laid (t':=s.toks) kp (Nat.le_refl _) (show C3 X.prog X.w _ h' _ (.lst ys) from ⟨hz,its,c',r',e⟩),rfl,q _ (I.hok.fresh (Nat.le_refl _))⟩
 rcases hq with hq | hq
 ·obtain ⟨its,r',pl,hz⟩:=I.list hq
  have hlen:=r'.length
  obtain ⟨o,ho,hc,n,hd⟩:=pl.isList
  exact call_list_seq p (.inl rfl) ho hc hd (fun h' c' kp e=>fin its r' hz h' c' kp e) (by simp only [List.size_toArray] <;> omega)
 ·obtain ⟨its,r',pl,hz⟩:=I.tuple hq
  have hlen:=r'.length
  obtain ⟨o,ho,hc,n,hd⟩:=pl
  exact call_list_seq p (.inr rfl) ho hc hd (fun h' c' kp e=>fin its r' hz h' c' kp e) (by simp only [List.size_toArray] <;> omega)
theorem JQ:DU X (.type "tuple") (fun xs H Q=>∃ p ys,xs=[.ref p]/\((SqL X.K H p ys/\∀ l,H l=none->Q (.ref l) (upd H l (.tup ys)))∨(SqT X.K H p ys/\Q (.ref p) H))):=by
 intro pins s σ H xs us Q I r h
 obtain ⟨p,ys,rfl,h⟩:=h
 obtain ⟨u,rfl,rx⟩:=vals1 r
 cases rx
 rcases h with ⟨hq,q⟩ | ⟨hq,q⟩
 ·obtain ⟨its,r',pl,hz⟩:=I.list hq
  have hlen:=r'.length
  refine call_tuple_list pl.isList (fun h' kp=>?_) (by simp only [List.size_toArray] <;> omega)
  have I1:Inv X pins σ H { s with heap:=h' }:=I.kept (t':=s.toks) kp
  have I2:Inv X pins σ (upd H h'.objs.size (.tup ys)) { s with heap:=h'.push { cls:=.type "tuple",data:=.seq its.toArray } } :=
   I1.laid (t':=s.toks) (fun b o e=>Heap.get?_push_of_some _ e) (Nat.le_refl _) (show C3 X.prog X.w _ _ _ (.tup ys) from ⟨hz,its,r',IsTup.new _ _⟩)
  exact ⟨.ref h'.objs.size,_,I2,rfl,q _ (I1.hok.fresh (Nat.le_refl _))⟩
 ·obtain ⟨its,r',pl,hz⟩:=I.tuple hq
  exact call_tuple_same pl ⟨.ref p,H,I,rfl,q⟩
def tyV (K:Fg) (T:String) (x:V) (H:Hp):Prop:=match x with
 | .str _=>T="str"
 | .int _=>T="int"
 | .ref p=>(T="list"/\∃ xs,SqL K H p xs)∨(T="tuple"/\∃ o,K.lookup p=some o/\o.cls=.type "tuple"/\o.dict=none) ∨
   (T="dict"/\((∃ kvs,H p=some (.dK kvs))∨∃ kvs,H p=some (.dT kvs)))∨(T="set"/\∃ S n,H p=some (.set S n))
 | _=>False
theorem Rz {pins:List (Addr×Obj)} {σ:St} {H:Hp} {s:Shared} {T:String} {x:V} {v:Value} (I:Inv X pins σ H s) (r:RelV x v) (ty:tyV X.K T x H) :
  s.TypeIs v T/\∀ a,v=.ref a->∃ ob,s.heap.get? a=some ob/\ob.dict=none:=by
 cases x with
 | str z =>
  obtain ⟨t,rfl⟩:=r
  cases (show T="str" from ty)
  exact ⟨typeIs_str s z t,fun _ e=>nomatch e⟩
 | int i =>
  obtain ⟨t,rfl⟩:=r
  cases (show T="int" from ty)
  exact ⟨typeIs_int s i t,fun _ e=>nomatch e⟩
 | ref p =>
  cases r
  rcases ty with ⟨rfl,xs,hq⟩ | ⟨rfl,o,hk,hc,hd⟩ | ⟨rfl,hk⟩ | ⟨rfl,S,n,hk⟩
  ·obtain ⟨its,_,pl,_⟩:=I.list hq
   refine ⟨pl.isList.typeIs,fun a e=>?_⟩
   cases e
   obtain ⟨o,n,e,c,hd,_⟩:=pl
   exact ⟨o,e,hd⟩
  ·refine ⟨⟨o,I.kIn p o hk,hc⟩,fun a e=>?_⟩
   cases e
   exact ⟨o,I.kIn _ o hk,hd⟩
  ·have z:∃ o,s.heap.get? p=some o/\o.ExactDict:=by
    rcases hk with ⟨kvs,hk⟩ | ⟨kvs,hk⟩
    ·obtain ⟨_,_,_,_,o,_,_,e,ex,_⟩:=I.hok p _ hk
     exact ⟨o,e,ex⟩
    ·obtain ⟨_,_,_,_,o,_,_,e,ex,_⟩:=I.hok p _ hk
     exact ⟨o,e,ex⟩
   obtain ⟨o,e,ex⟩:=z
   refine ⟨⟨o,e,ex.1⟩,fun a e2=>?_⟩
   cases e2
   exact ⟨o,e,ex.2.1⟩
  ·obtain ⟨o,_,_,_,e,ex,_⟩:=I.hok p _ hk
   refine ⟨⟨o,e,ex.1⟩,fun a e2=>?_⟩
   cases e2
   exact ⟨o,e,ex.2.1⟩
 | _=>exact False.elim ty
def YV (K:Fg) (T:String) (r:V->List V->Hp->VK->Prop) (to:TE):TE:=fun σ H Q=>to σ H fun x H1=>tyV K T x H1/\r x [] H1 Q
def tBM (K:Fg) (T:String) (r:V->List V->Hp->VK->Prop) (to:TE) (t:TA):TE:=fun σ H Q=>to σ H fun x H1=>tyV K T x H1/\t σ H1 fun xs H2=>r x xs H2 Q
variable {o e:Expr} {es:List Expr} {to:TE} {t:TA} {name:Str} {apos cpos:Pos} {T id:String} {r:V->List V->Hp->VK->Prop}
theorem RU (pa:PlainAttrs T) (slot:Slot T name id) (hty:typeOf (.builtin id)=pure (.type "method_descriptor")) (hm:MtR X id r) (ho:PE X o to)
  (hbase:attributeBase o name X.env (eval o X.env)=eval o X.env:=by rfl) (hline:(apos.endLine == cpos.line)=true:=by rfl):PE X (.Call (.Attribute o name apos) [] [] cpos) (YV X.K T r to):=by
 intro pins s σ H Q I h
 refine wpAny_Call_method0_late hbase hline (thn (ho pins s σ H _ I h) fun v s1 ⟨x,H1,I1,r1,ty,q1⟩=>?_)
 obtain ⟨h1,h2⟩:=Rz I1 r1 ty
 exact ⟨T,id,pa,slot,hty,h1,h2,Calls.callWith_builtin rfl (PySem.evalArgs_none (hm pins s1 σ H1 x [] v [] Q I1 r1 .nil q1))⟩
theorem QL (pa:PlainAttrs T) (slot:Slot T name id) (hty:typeOf (.builtin id)=pure (.type "method_descriptor")) (hm:MtR X id r) (ho:PE X o to) (ha:PA X (e :: es) t)
  (hbase:attributeBase o name X.env (eval o X.env)=eval o X.env:=by rfl)
  (hfew:((backTo cpos (starEach (e :: es) X.env)).all (fun x=>!x.1) && (backToKw cpos (keywordEach [] X.env)).all (fun x=>x.1.isSome)
   && decide ((e :: es).length+([]:List Keyword).length+(if ([]:List Keyword).isEmpty then 0 else 1) < 30))=true:=by rfl)
  (hline:(apos.endLine == cpos.line)=true:=by rfl) (hs:starEach (e :: es) X.env=(false,eval e X.env) :: starEach es X.env:=by rfl) (hplain:(backTo cpos (starEach es X.env)).any (·.1)=false:=by rfl) :
  PE X (.Call (.Attribute o name apos) (e :: es) [] cpos) (tBM X.K T r to t):=by
 intro pins s σ H Q I h
 refine wpAny_Call_method_late hbase hfew hline rfl (thn (ho pins s σ H _ I h) fun v s1 ⟨x,H1,I1,r1,ty,q1⟩=>?_)
 obtain ⟨h1,h2⟩:=Rz I1 r1 ty
 refine ⟨T,id,pa,slot,hty,h1,h2,?_⟩
 have hA:=ha cpos pins s1 σ H1 _ I1 q1
 rw [hs] at hA ⊢
 refine Calls.callWith_builtin (by show (false || (backTo cpos (starEach es X.env)).any (·.1))=false;rw [hplain] <;> rfl) (Calls.evalArgs_plain ?_)
 exact thn hA fun us s2 ⟨vs,H2,I2,r2,q2⟩=>hm pins s2 σ H2 x vs v us Q I2 r1 r2 q2
end
def MtM (X:Cx) (id:String) (r:V->List V->Hp->VK->Prop):Prop :=
 ∀ (pins:List (Addr×Obj)) (s:Shared) (σ:St) (H:Hp) (x:V) (xs:List V) (v:Value) (us:List Value) (Q:VK),Inv X pins σ H s->RelV x v->Vals xs us->r x xs H Q ->
  wpAny (model X.prog X.w) X.A (call (.builtin id) (v :: us)) (EP X pins σ Q) X.xe s
theorem Vals.one:∀ {x:V} {us:List Value},Vals [x] us->∃ u,us=[u]/\RelV x u
 | _,_,.cons r .nil=>⟨_,rfl,r⟩
theorem Vals.zero:∀ {us:List Value},Vals [] us->us=[]
 | _,.nil=>rfl
theorem Vals.dropLast {xs:List V} {us:List Value} (h:Vals xs us):Vals xs.dropLast us.dropLast:=by
 induction h with
 | nil=>exact .nil
 | cons r t ih =>
  cases t with
  | nil=>exact .nil
  | cons q t'=>exact .cons r ih
theorem Vals.reverse {xs:List V} {us:List Value} (h:Vals xs us):Vals xs.reverse us.reverse:=by
 induction h with
 | nil=>exact .nil
 | cons r t ih=>rw [List.reverse_cons,List.reverse_cons];exact Vals.append ih (.cons r .nil)
theorem Nv {α:Type} (l:List α):l.eraseIdx (l.length - 1)=l.dropLast:=by
 induction l with
 | nil=>rfl
 | cons a r ih =>
  cases r with
  | nil=>rfl
  | cons b r =>
   have e:(a :: b :: r).length - 1=((b :: r).length - 1)+1:=by
    have h1:(a :: b :: r).length=r.length+2:=rfl
    have h2:(b :: r).length=r.length+1:=rfl
    omega
   rw [e,List.eraseIdx_cons_succ,ih]
   all_goals rfl
section
variable {X:Cx} {pins:List (Addr×Obj)} {σ:St} {H:Hp} {s:Shared} {l b:Addr} {xs ys zs:List V}
theorem Inv.W6 {its its':List Value} {n:Nat} {f:Array Value->Array Value} {t':Nat} (I:Inv X pins σ H s) (hH:H l=some (.lst xs))
  (e:s.heap.get? l=some { cls:=.type "list",data:=.seq its.toArray n }) (hf:f its.toArray=its'.toArray) (hv:Vals ys its') (hz:ys.length<=sizeLine) :
  Inv X pins σ (upd H l (.lst ys)) { s with heap:=s.heap.update l (Obj.mapSeq f),toks:=t' }:=by
 have q:=PySem.IsL.update e f
 rw [hf] at q
 refine I.write (x:=l) (e:=l) (by rw [hH];exact trivial) (.inl rfl) (fun b' u hb hu=>(Heap.get?_update_other s.heap (Obj.mapSeq f) (Ne.symm hb)).trans hu) ⟨_,q⟩ ?_
 exact ⟨hz,its',_,hv,q⟩
theorem Inv.Y5 {its:List Value} {t':Nat} (I:Inv X pins σ H s) (hv:Vals ys its) (hz:ys.length<=sizeLine) :
  Inv X pins σ (upd H s.heap.objs.size (.lst ys)) { s with heap:=s.heap.push { cls:=.type "list",data:=.seq its.toArray },toks:=t' } :=
 I.laid (fun _ _ q=>Heap.get?_push_of_some _ q) (Nat.le_refl _) ⟨hz,its,0,hv,Heap.get?_push_size _ rfl⟩
theorem Inv.fresh (I:Inv X pins σ H s):H s.heap.objs.size=none:=I.hok.fresh (Nat.le_refl _)
theorem Inv.TF (I:Inv X pins σ H s) (hH:H l=some (.lst xs)):xs.length<=sizeLine/\∃ (its:List Value) (n:Nat),Vals xs its/\xs.length=its.length/\s.heap.get? l=some { cls:=.type "list",data:=.seq its.toArray n }:=by
 obtain ⟨z,its,n,r,e⟩:=I.hok l _ hH
 exact ⟨z,its,n,r,r.length,e⟩
theorem Mi {n:Nat} (h:n<=sizeLine):Builtin.List.listTooLong n=false:=by
 unfold Builtin.List.listTooLong
 exact decide_eq_false (by omega)
end
section
variable {X:Cx}
def Ob:V->List V->Hp->VK->Prop:=fun x vs H Q=>∃ l xs y,x=.ref l/\vs=[y]/\H l=some (.lst xs)/\xs.length < sizeLine/\Q .non (upd H l (.lst (xs++[y])))
theorem Ci:MtM X "list.append" Ob:=by
 intro pins s σ H x vs v us Q I rx rv h
 obtain ⟨l,xs,y,rfl,rfl,hH,hz,q⟩:=h
 cases rx
 obtain ⟨u,rfl,ru⟩:=rv.one
 obtain ⟨z,its,n,r,hl,e⟩:=I.TF hH
 refine call_meets F.slot_list_append ⟨_,e,rfl⟩ F.entry_list_append (F.args_list_append_2 _ _) (PySem.list_append l its.toArray n u (by rw [List.size_toArray];omega)) ⟨e,?_⟩
 refine ⟨.non,_,I.W6 (its':=its++[u]) hH e (by simp) (r.append (.cons ru .nil)) ?_,rfl,q⟩
 rw [List.length_append,List.length_singleton]
 omega
def Jh:V->List V->Hp->VK->Prop:=fun x vs H Q=>∃ l b xs zs,x=.ref l/\vs=[.ref b]/\H l=some (.lst xs)/\H b=some (.lst zs)/\xs.length+zs.length<=sizeLine/\Q .non (upd H l (.lst (xs++zs)))
theorem OF:MtM X "list.extend" Jh:=by
 intro pins s σ H x vs v us Q I rx rv h
 obtain ⟨l,b,xs,zs,rfl,rfl,hH,hB,hz,q⟩:=h
 cases rx
 obtain ⟨u,rfl,ru⟩:=rv.one
 cases ru
 obtain ⟨z,its,n,r,hl,e⟩:=I.TF hH
 obtain ⟨z2,its2,n2,r2,hl2,e2⟩:=I.TF hB
 have hsz:its.toArray.size+its2.toArray.size<=sizeLine:=by rw [List.size_toArray,List.size_toArray];omega
 have hlong:¬ (!its.toArray.isEmpty && Builtin.List.listTooLong (its.toArray.size+its2.toArray.size))=true:=by
  rw [Mi hsz,Bool.and_false]
  exact Bool.false_ne_true
 refine call_meets F.slot_list_extend ⟨_,e,rfl⟩ F.entry_list_extend (F.args_list_extend_2 _ _)
  (AutoSeq1.list_extend_list_list_0 l its.toArray n b its2.toArray n2 hlong (by rw [List.size_toArray];omega) (by omega)) ⟨e,e2,?_⟩
 refine ⟨.non,_,I.W6 (its':=its++its2) hH e (by simp) (r.append r2) ?_,rfl,q⟩
 rw [List.length_append]
 omega
def Y2:V->List V->Hp->VK->Prop:=fun x vs H Q=>∃ l xs y,x=.ref l/\vs=[]/\H l=some (.lst xs)/\xs[xs.length - 1]?=some y/\Q y (upd H l (.lst xs.dropLast))
theorem VM:MtM X "list.pop" Y2:=by
 intro pins s σ H x vs v us Q I rx rv h
 obtain ⟨l,xs,y,rfl,rfl,hH,hy,q⟩:=h
 cases rx
 have hus:=rv.zero
 subst hus
 obtain ⟨z,its,n,r,hl,e⟩:=I.TF hH
 obtain ⟨u,hu,ru⟩:=r.get hy
 have hy':its.toArray[its.toArray.size - 1]?=some u:=by
  show its.toArray[its.length - 1]?=some u
  rw [<- Array.getElem?_toList,<- hl]
  exact hu
 refine call_meets F.slot_list_pop ⟨_,e,rfl⟩ F.entry_list_pop (F.args_list_pop_1 _) (MeetsSeq.list_pop_last l its.toArray n u hy' (by rw [List.size_toArray];omega)) ⟨e,?_⟩
 refine ⟨y,_,I.W6 (its':=its.dropLast) hH e ?_ r.dropLast ?_,ru,q⟩
 ·show its.toArray.eraseIdxIfInBounds (its.toArray.size - 1)=its.dropLast.toArray
  rw [List.size_toArray,List.eraseIdxIfInBounds_toArray,Nv]
 ·rw [List.length_dropLast]
  omega
def YD:R2:=fun x y H Q=>∃ l b xs zs,x=.ref l/\y=.ref b/\H l=some (.lst xs)/\H b=some (.lst zs)/\xs.length+zs.length<=sizeLine/\∀ p,H p=none->Q (.ref p) (upd H p (.lst (xs++zs)))
theorem VA:OpR X (binaryOp .Add) YD:=by
 intro pins s σ H x y v u Q I rx ry h
 obtain ⟨l,b,xs,zs,rfl,rfl,hH,hB,hz,q⟩:=h
 cases rx
 cases ry
 obtain ⟨z,its,n,r,hl,e⟩:=I.TF hH
 obtain ⟨z2,its2,n2,r2,hl2,e2⟩:=I.TF hB
 refine PySem.P.add_list e e2 ?_ (by rw [List.size_toArray,List.size_toArray];omega)
 have ea:its.toArray++its2.toArray=(its++its2).toArray:=by simp
 rw [ea]
 exact ⟨.ref _,_,I.Y5 (t':=s.toks) (r.append r2) (by rw [List.length_append];omega),rfl,q _ I.fresh⟩
end
section
variable {prog:Program} {w:World} {A:Around} {E:Value->Shared->Prop} {s:Shared}
set_option maxRecDepth 100000 in
end
section
variable {X:Cx}
end
section
variable {κ:Type} [DecidableEq κ]
def MR (kvs:List (κ×V)) (k:κ):Option V:=(kvs.find? fun kv=>decide (kv.1=k)).map (·.2)
def putK (kvs:List (κ×V)) (k:κ) (v:V):List (κ×V) :=
 if (kvs.any fun kv=>decide (kv.1=k))=true then kvs.map (fun kv=>if kv.1=k then (kv.1,v) else kv) else kvs++[(k,v)]
theorem Hg {p:κ×V} {r:List (κ×V)} {k:κ} (e:p.1=k):MR (p :: r) k=some p.2:=by simp [MR,List.find?_cons,e]
theorem Hh {p:κ×V} {r:List (κ×V)} {k:κ} (e:¬ p.1=k):MR (p :: r) k=MR r k:=by simp [MR,List.find?_cons,e]
theorem LU (k:κ):∀ kvs:List (κ×V),(kvs.any fun kv=>decide (kv.1=k))=(MR kvs k).isSome
 | []=>rfl
 | p :: r=>by
  rw [List.any_cons]
  by_cases e:p.1=k
  ·simp only [Hg e,decide_eq_true e,Bool.true_or,Option.isSome_some]
  ·rw [Hh e,decide_eq_false e,Bool.false_or];exact LU k r
theorem HP (kvs:List (κ×V)) (k:κ) (v:V):(putK kvs k v).length<=kvs.length+1:=by
 unfold putK
 split
 ·rw [List.length_map];omega
 ·rw [List.length_append,List.length_cons,List.length_nil];omega
theorem AQ.ER {o:Option V} {u:Option Value} (r:AQ o u):o.isSome=u.isSome:=by
 cases o with
 | none=>cases u with
  | none=>rfl
  | some _=>exact (show False from r).elim
 | some _=>cases u with
  | none=>exact (show False from r).elim
  | some _=>rfl
theorem KV.val {kvs:List (κ×V)} {vs:List (κ×Value)} (r:KV kvs vs) (k:κ):AQ (MR kvs k) (valueAt vs k):=by
 unfold KV at r
 induction r with
 | nil=>exact True.intro
 | @cons p q ps qs h t ih =>
  obtain ⟨h1,h2⟩:=h
  by_cases e:p.1=k
  ·have e':q.1=k:=h1.symm.trans e
   have b:valueAt (q :: qs) k=some q.2:=by simp [valueAt,List.find?_cons,e']
   rw [Hg e,b];exact h2
  ·have e':¬ q.1=k:=fun z=>e (h1.trans z)
   have b:valueAt (q :: qs) k=valueAt qs k:=by simp [valueAt,List.find?_cons,e']
   rw [Hh e,b];exact ih
theorem KV.any {kvs:List (κ×V)} {vs:List (κ×Value)} (r:KV kvs vs) (k:κ):(kvs.any fun kv=>decide (kv.1=k))=vs.any fun kv=>decide (kv.1=k):=by
 unfold KV at r
 induction r with
 | nil=>rfl
 | cons h t ih=>rw [List.any_cons,List.any_cons,ih,h.1]
theorem KV.Xt {kvs:List (κ×V)} {vs:List (κ×Value)} (r:KV kvs vs) (k:κ) {y:V} {u:Value} (ry:RelV y u) :
  KV (kvs.map fun kv=>if kv.1=k then (kv.1,y) else kv) (vs.map fun kv=>if kv.1=k then (kv.1,u) else kv):=by
 unfold KV at r ⊢
 induction r with
 | nil=>exact .nil
 | @cons p q ps qs h t ih =>
  rw [List.map_cons,List.map_cons]
  refine .cons ?_ ih
  obtain ⟨h1,h2⟩:=h
  by_cases e:p.1=k
  ·rw [if_pos e,if_pos (h1.symm.trans e)];exact ⟨h1,ry⟩
  ·rw [if_neg e,if_neg (fun z=>e (h1.trans z))];exact ⟨h1,h2⟩
theorem KV.put {kvs:List (κ×V)} {vs:List (κ×Value)} (r:KV kvs vs) (k:κ) {y:V} {u:Value} (ry:RelV y u):KV (putK kvs k y) (stored vs k u):=by
 unfold putK stored
 rw [r.any k]
 by_cases e:(vs.any fun kv=>decide (kv.1=k))=true
 ·rw [if_pos e,if_pos e];exact r.Xt k ry
 ·rw [if_neg e,if_neg e];exact Paired.snoc r ⟨rfl,ry⟩
theorem KV.length {kvs:List (κ×V)} {vs:List (κ×Value)} (r:KV kvs vs):kvs.length=vs.length:=Paired.length r
end
theorem OT {P:Program} {w:World} {k:Key} {u:Value} (r:RelV (kV k) u):(BZ P w).is k u=true:=by
 cases k with
 | inl i=>obtain ⟨t,e⟩:=(show ∃ t,u=Value.int i t from r);subst e;exact Ls P w i t
 | inr x=>obtain ⟨t,e⟩:=(show ∃ t,u=Value.str x t from r);subst e;exact En P w x t
theorem Kv {P:Program} {w:World}:∀ {ks:List Key} {us:List Value},Vals (ks.map kV) us->ItemsAre (BZ P w) ks us
 | [],_,r=>by rw [List.map_nil] at r;cases r;exact .nil
 | k :: ks,_,r=>by
  rw [List.map_cons] at r
  cases r with
  | cons h t=>exact .cons (OT h) (Kv t)
abbrev KT (H:Hp):List (List Key×V)->List (List Key×Addr×Value)->Prop:=Paired fun p q=>p.1=q.1/\H q.2.1=some (.tup (p.1.map kV))/\RelV p.2 q.2.2
theorem KT.val {H:Hp} {kvs:List (List Key×V)} {xs:List (List Key×Addr×Value)} (r:KT H kvs xs) (k:List Key):AQ (MR kvs k) ((atKey xs k).map (·.2)):=by
 induction r with
 | nil=>exact True.intro
 | @cons p q ps qs h t ih =>
  obtain ⟨h1,_,h2⟩:=h
  by_cases e:p.1=k
  ·have e':q.1=k:=h1.symm.trans e
   have b:atKey (q :: qs) k=some q.2:=by simp [atKey,List.find?_cons,e']
   rw [Hg e,b];exact h2
  ·have e':¬ q.1=k:=fun z=>e (h1.trans z)
   have b:atKey (q :: qs) k=atKey qs k:=by simp [atKey,List.find?_cons,e']
   rw [Hh e,b];exact ih
theorem KT.Xt {H:Hp} {kvs:List (List Key×V)} {xs:List (List Key×Addr×Value)} (r:KT H kvs xs) (k:List Key) {y:V} {u:Value} (ry:RelV y u) :
  KT H (kvs.map fun kv=>if kv.1=k then (kv.1,y) else kv) (xs.map (putAt k u)):=by
 induction r with
 | nil=>exact .nil
 | @cons p q ps qs h t ih =>
  rw [List.map_cons,List.map_cons]
  refine .cons ?_ ih
  obtain ⟨h1,h2,h3⟩:=h
  unfold putAt
  by_cases e:p.1=k
  ·rw [if_pos e,if_pos (h1.symm.trans e)];exact ⟨h1,h2,ry⟩
  ·rw [if_neg e,if_neg (fun z=>e (h1.trans z))];exact ⟨h1,h2,h3⟩
theorem KT.put {H:Hp} {kvs:List (List Key×V)} {xs:List (List Key×Addr×Value)} (r:KT H kvs xs) (k:List Key) {b:Addr} {y:V} {u:Value} (hb:H b=some (.tup (k.map kV))) (ry:RelV y u) :
  KT H (putK kvs k y) (storedH xs k b u):=by
 have e:(kvs.any fun kv=>decide (kv.1=k))=(atKey xs k).isSome:=by
  rw [LU,(r.val k).ER,Option.isSome_map]
 unfold putK storedH
 rw [e]
 by_cases q:(atKey xs k).isSome=true
 ·rw [if_pos q,if_pos q];exact r.Xt k ry
 ·rw [if_neg q,if_neg q];exact Paired.snoc r ⟨rfl,hb,ry⟩
theorem KT.keeps {H H':Hp} {kvs:List (List Key×V)} {xs:List (List Key×Addr×Value)} (r:KT H kvs xs) (ht:∀ b ys,H b=some (.tup ys)->H' b=some (.tup ys)):KT H' kvs xs :=
 Paired.X2 r fun _ _ z=>⟨z.1,ht _ _ z.2.1,z.2.2⟩
section
variable {P:Program} {w:World} {H:Hp} {h:Heap} {a:Addr}
theorem Vc {u:HO} (ok:HOk P w H h) (e:Rd H a u):C3 P w H h a u:=e.ok ok
theorem LH {kvs:List (Key×V)} (ok:HOk P w H h) (e:Rd H a (.dK kvs)):kvs.length<=sizeLine/\(a == sysModules)=false/\∃ vs,KV kvs vs/\h.DictOf (BZ P w) a vs :=
 show C3 P w H h a (.dK kvs) from Vc ok e
theorem Yn {kvs:List (Key×V)} (ok:HOk P w H h) (e:H a=some (.dK kvs)):kvs.length<=sizeLine/\(a == sysModules)=false/\∃ vs,KV kvs vs/\h.DictOf (BZ P w) a vs:=LH ok (.inl e)
theorem Ku {ks:List Key} (ok:HOk P w H h) (e:H a=some (.tup (ks.map kV))):(tupleKind (BZ P w)).is h ks a:=by
 obtain ⟨_,its,r,o,h1,h2,n,h3⟩:=(show C3 P w H h a (.tup (ks.map kV)) from ok a _ e)
 exact ⟨o,its.toArray,n,h1,h2,h3,by simpa using Kv r⟩
theorem PJ {kvs:List (List Key×V)} (ok:HOk P w H h) (e:Rd H a (.dT kvs)):kvs.length<=sizeLine/\(a == sysModules)=false /\
  ∃ xs,KT H kvs xs/\h.DictOfH (tupleKind (BZ P w)) a xs:=by
 obtain ⟨z,y,xs,r,o,es,ep,h1,h2,h3,h4,h5⟩:=(show C3 P w H h a (.dT kvs) from Vc ok e)
 refine ⟨z,y,xs,r,o,es,ep,h1,h2,h3,h4,fun x hx=>?_,h5⟩
 have all:∀ {l:List (List Key×V)} {m:List (List Key×Addr×Value)},KT H l m->∀ x∈m,(tupleKind (BZ P w)).is h x.1 x.2.1:=by
  intro l m q
  induction q with
  | nil=>intro x hx;exact nomatch hx
  | @cons p q ps qs hq t ih =>
   intro x hx
   rcases List.mem_cons.mp hx with e | hx
   ·subst e
    exact Ku ok (by rw [<- hq.1];exact hq.2.1)
   ·exact ih x hx
 exact all r x hx
theorem Ym {kvs:List (List Key×V)} (ok:HOk P w H h) (e:H a=some (.dT kvs)):kvs.length<=sizeLine/\(a == sysModules)=false /\
  ∃ xs,KT H kvs xs/\h.DictOfH (tupleKind (BZ P w)) a xs:=PJ ok (.inl e)
end
def NI (H:Hp) (a:Addr) (y:V) (r:Option V):Prop :=
 (∃ kvs k,Rd H a (.dK kvs)/\y=kV k/\r=MR kvs k)∨∃ kvs k b,Rd H a (.dT kvs)/\y=.ref b/\H b=some (.tup (k.map kV))/\r=MR kvs k
def Qg (H:Hp) (a:Addr) (y v:V) (H':Hp):Prop :=
 (∃ kvs k,H a=some (.dK kvs)/\y=kV k/\kvs.length < sizeLine/\H'=upd H a (.dK (putK kvs k v))) ∨
 ∃ kvs k b,H a=some (.dT kvs)/\y=.ref b/\H b=some (.tup (k.map kV))/\kvs.length < sizeLine/\H'=upd H a (.dT (putK kvs k v))
theorem NI.t {H:Hp} {a b:Addr} {kvs:List (List Key×V)} {k:List Key} (e:H a=some (.dT kvs)) (eb:H b=some (.tup (k.map kV))):NI H a (.ref b) (MR kvs k):=.inr ⟨kvs,k,b,.inl e,rfl,eb,rfl⟩
theorem Qg.k {H:Hp} {a:Addr} {kvs:List (Key×V)} {k:Key} {v:V} (e:H a=some (.dK kvs)) (hl:kvs.length < sizeLine):Qg H a (kV k) v (upd H a (.dK (putK kvs k v))):=.inl ⟨kvs,k,e,rfl,hl,rfl⟩
theorem Qg.t {H:Hp} {a b:Addr} {kvs:List (List Key×V)} {k:List Key} {v:V} (e:H a=some (.dT kvs)) (eb:H b=some (.tup (k.map kV))) (hl:kvs.length < sizeLine) :
  Qg H a (.ref b) v (upd H a (.dT (putK kvs k v))):=.inr ⟨kvs,k,b,e,rfl,eb,hl,rfl⟩
section
variable {X:Cx} {pins:List (Addr×Obj)} {σ:St} {H:Hp} {s:Shared} {a:Addr} {y v:V} {u r:Value} {o:Option V} {A:Around} {E:Value->Shared->Prop}
theorem Inv.big (I:Inv X pins σ H s):sysModules < s.heap.objs.size:=by
 have h:mainGlobals < s.heap.objs.size:=(I.mod.glob.keeps I.bk).lt
 exact Nat.lt_trans (by decide) h
theorem PR {Q:Value->Shared->Prop} (hu:A.units+1 < cLine) (I:Inv X pins σ H s) (g:NI H a y (some v)) (ry:RelV y u) (h:∀ w' s',Inv X pins σ H s'->RelV v w'->Q w' s') :
  wpAny (model X.prog X.w) A (getItem (.ref a) u) Q E s:=by
 rcases g with ⟨kvs,k,e,ey,l⟩ | ⟨kvs,k,b,e,ey,eb,l⟩
 ·subst ey
  obtain ⟨z,hd,vs,rel,dd⟩:=LH I.hok e
  obtain ⟨w',hw,rw'⟩:=AQ.some_of (v:=v) (o:=valueAt vs k) (by rw [l];exact rel.val k)
  exact wpAny_getItem_of (OT ry) dd.mapOf hw (h w' _ (I.tok _) rw')
 ·subst ey
  cases (show u=Value.ref b from ry)
  obtain ⟨z,hd,xs,rel,dd⟩:=PJ I.hok e
  obtain ⟨w',hw,rw'⟩:=AQ.some_of (v:=v) (o:=(atKey xs k).map (·.2)) (by rw [l];exact rel.val k)
  obtain ⟨p,hp,hp2⟩:=Option.map_eq_some_iff.mp hw
  refine wpAny_getItem_heap (tupleKind_room_in1 hu) (Ku I.hok eb) dd hp ?_
  rw [hp2]
  exact h w' _ (I.tok _) rw'
theorem Zd {Q:Value->Shared->Prop} (hu:A.units+1 < cLine) (I:Inv X pins σ H s) (g:NI H a y o) (ry:RelV y u) (h:∀ s',Inv X pins σ H s'->Q (.bool o.isSome) s') :
  wpAny (model X.prog X.w) A (compareOp .In u (.ref a)) Q E s:=by
 rcases g with ⟨kvs,k,e,ey,l⟩ | ⟨kvs,k,b,e,ey,eb,l⟩
 ·subst ey
  obtain ⟨z,hd,vs,rel,dd⟩:=LH I.hok e
  refine wpAny_in_of (OT ry) hd dd.mapOf ?_
  rw [<- (rel.val k).ER,<- l]
  exact h _ (I.tok _)
 ·subst ey
  cases (show u=Value.ref b from ry)
  obtain ⟨z,hd,xs,rel,dd⟩:=PJ I.hok e
  refine wpAny_in_heap (tupleKind_room_in1 hu) (Ku I.hok eb) hd dd ?_
  have q:=(rel.val k).ER
  rw [Option.isSome_map] at q
  rw [<- q,<- l]
  exact h _ (I.tok _)
theorem Uq {Q:Value->Shared->Prop} (hu:A.units+1 < cLine) (I:Inv X pins σ H s) (g:NI H a y o) (ry:RelV y u) (h:∀ s',Inv X pins σ H s'->Q (.bool (!o.isSome)) s') :
  wpAny (model X.prog X.w) A (compareOp .NotIn u (.ref a)) Q E s:=by
 rcases g with ⟨kvs,k,e,ey,l⟩ | ⟨kvs,k,b,e,ey,eb,l⟩
 ·subst ey
  obtain ⟨z,hd,vs,rel,dd⟩:=LH I.hok e
  refine wpAny_notIn_of (OT ry) hd dd.mapOf ?_
  rw [<- (rel.val k).ER,<- l]
  exact h _ (I.tok _)
 ·subst ey
  cases (show u=Value.ref b from ry)
  obtain ⟨z,hd,xs,rel,dd⟩:=PJ I.hok e
  refine wpAny_notIn_heap (tupleKind_room_in1 hu) (Ku I.hok eb) hd dd ?_
  have q:=(rel.val k).ER
  rw [Option.isSome_map] at q
  rw [<- q,<- l]
  exact h _ (I.tok _)
theorem PQ {h':Heap} {t':Nat} {ob:HO} (I:Inv X pins σ H s) (mu:Mut (H a)) (hs:Heap.SameBut a s.heap h') (he:∃ q,h'.get? a=some q) (new:C3 X.prog X.w (upd H a ob) h' a ob) :
  Inv X pins σ (upd H a ob) { s with heap:=h',toks:=t' } :=
 I.write (x:=a) (e:=a) mu (.inl rfl) (fun b q hb z=>(hs.2 b hb).trans z) he new
theorem WH {P:Program} {w:World} {H':Hp} {h':Heap} {kvs:List (Key×V)} {vs:List (Key×Value)} (z:kvs.length<=sizeLine) (hd:(a == sysModules)=false) (rel:KV kvs vs) (dd:h'.DictOf (BZ P w) a vs) :
  C3 P w H' h' a (.dK kvs):=⟨z,hd,vs,rel,dd⟩
theorem KN {H':Hp} {Q:Unit->Shared->Prop} (hu:A.units+1 < cLine) (I:Inv X pins σ H s) (g:Qg H a y v H') (ry:RelV y u) (rv:RelV v r) (h:∀ s',Inv X pins σ H' s'->Q () s') :
  wpAny (model X.prog X.w) A (setItem (.ref a) u r) Q E s:=by
 rcases g with ⟨kvs,k,e,ey,l,eH⟩ | ⟨kvs,k,b,e,ey,eb,l,eH⟩
 ·subst ey eH
  obtain ⟨z,hd,vs,rel,dd⟩:=Yn I.hok e
  have hz:vs.length<=sizeLine:=by rw [<- rel.length];exact z
  have hl:(putK kvs k v).length<=sizeLine:=by have:=HP kvs k v;omega
  refine wpAny_setItem_pairs (hsz:=hz) (OT ry) dd fun h' dd' hs=>h _ ?_
  have he:∃ q,h'.get? a=some q:=let ⟨q,_,_,hq,_⟩:=dd';⟨q,hq⟩
  exact PQ I (by rw [e];exact True.intro) hs he (WH hl hd (rel.put k rv) dd')
 ·subst ey eH
  cases (show u=Value.ref b from ry)
  obtain ⟨z,hd,xs,rel,dd⟩:=Ym I.hok e
  have hz:xs.length<=sizeLine:=by rw [<- Paired.length rel];exact z
  have hl:(putK kvs k v).length<=sizeLine:=by have:=HP kvs k v;omega
  refine wpAny_setItem_heap (hsz:=hz) (tupleKind_room_in1 hu) (Ku I.hok eb) dd fun h' dd' hs=>h _ ?_
  obtain ⟨q,es,ep,hq,h2,h3,h4,_,h5⟩:=dd'
  refine PQ I (by rw [e];exact True.intro) hs ⟨q,hq⟩ ⟨hl,hd,_,(rel.put k eb rv).keeps fun c ys ec=>?_,q,es,ep,hq,h2,h3,h4,h5⟩
  rw [Aw (XZ ec e (fun z=>nomatch z))]
  exact ec
end
section
variable {X:Cx} {pins:List (Addr×Obj)} {σ:St} {H:Hp} {s:Shared} {a:Addr} {kvs:List (Key×V)} {k:Key} {u:Value} {A:Around} {E:Value->Shared->Prop}
theorem Yo {Q:Value->Shared->Prop} (I:Inv X pins σ H s) (e:Rd H a (.dK kvs)) (h:∀ t s',Inv X pins σ H s'->Q (.int kvs.length t) s'):wpAny (model X.prog X.w) A (call (.builtin "len") [.ref a]) Q E s:=by
 obtain ⟨z,hd,vs,rel,dd⟩:=LH I.hok e
 refine call_len_dict hd dd (by rw [<- rel.length];rw [sizeLine_eq] at z;omega) ?_
 rw [<- rel.length]
 exact h _ _ (I.tok _)
end
theorem LI {X:Cx} {pins:List (Addr×Obj)} {σ:St} {H:Hp} {s:Shared} {a:Addr} {y:V} {o:Option V} (I:Inv X pins σ H s) (g:NI H a y o):s.TypeIs (.ref a) "dict":=by
 rcases g with ⟨kvs,k,e,_,_⟩ | ⟨kvs,k,b,e,_,_,_⟩
 ·obtain ⟨_,_,vs,_,dd⟩:=LH I.hok e
  exact dd.typeIs
 ·obtain ⟨_,_,xs,_,dd⟩:=PJ I.hok e
  exact dd.typeIs
def U8 (td ty tv:TE):TS:=fun D σ H=>tv σ H fun v H1=>td σ H1 fun x H2=>ty σ H2 fun y H3=>∃ a H4,x=.ref a/\Qg H3 a y v H4/\D.nx σ H4
section
variable {X:Cx} {o i e value:Expr} {pos pos' tpos:Pos} {td ty tv:TE}
theorem Ll (hu:X.A.units+1 < cLine) (ho:PE X o td) (hi:PE X i ty) (hv:PE X value tv) (hs:swapsWith value (some (.Subscript o i pos')) pos.line X.env=pure false) :
  PS X (.Assign [.Subscript o i pos'] value pos) (U8 td ty tv):=by
 intro pins s σ H D I h
 refine wpAny_Assign_Subscript (thn (hv pins s σ H _ I h) fun r s1 ⟨v,H1,I1,rv,q1⟩=>thn (ho pins s1 σ H1 _ I1 q1) fun u s2 ⟨x,H2,I2,rx,q2⟩=>thn (hi pins s2 σ H2 _ I2 q2) fun iv s3 ⟨y,H3,I3,ry,a,H4,ex,g,q3⟩=>?_) hs
 subst ex
 obtain rfl:u=Value.ref a:=rx
 exact KN hu I3 g ry rv fun s4 I4=>⟨σ,H4,I4,q3⟩
end
theorem Rh {P:Program} {w:World} {H:Hp} (h:Heap) (hb:sysModules < h.objs.size):C3 P w H (h.push { cls:=.type "dict",data:=.dict #[] }) h.objs.size (.dK []) :=
 ⟨Nat.zero_le _,beq_eq_false_iff_ne.mpr (Ne.symm (Nat.ne_of_lt hb)),[],.nil,Heap.DictOf.new h⟩
def U1:TE:=fun _ H Q=>∀ p,H p=none->Q (.ref p) (upd H p (.dK []))
section
variable {X:Cx} {pos:Pos}
theorem QK:PE X (.Dict [] [] pos) U1:=fun pins s σ H Q I h =>
 wpAny_Dict_empty ⟨.ref s.heap.objs.size,_,I.laid (a:=s.heap.objs.size) (o:=.dK []) (t':=s.toks) (fun _ _ q=>Heap.get?_push_of_some _ q) (Nat.le_refl _) (Rh s.heap I.big),rfl,h _ (I.hok.fresh (Nat.le_refl _))⟩
end
section
variable {X:Cx} {pins:List (Addr×Obj)} {σ:St} {H:Hp} {s:Shared} {a:Addr} {y d:V} {u r:Value} {o:Option V} {A:Around} {E:Value->Shared->Prop}
end
section
variable {X:Cx} {o e f:Expr} {apos cpos:Pos} {td ty tx:TE}
end
section
variable {X:Cx} {pins:List (Addr×Obj)} {σ:St} {H:Hp} {s:Shared} {a:Addr} {kvs:List (Key×V)} {A:Around} {E:Value->Shared->Prop}
end
section
variable {X:Cx} {pins:List (Addr×Obj)} {σ:St} {H:Hp} {s:Shared} {a:Addr} {y:V} {u:Value} {A:Around} {E:Value->Shared->Prop}
end
end L2
namespace Att
open PySem PySem.W PySem.Calls PyProof.Rows
theorem HU {P:Params} {h:Heap}:∀ (ns:List Int) (vs:List Value),WellAll P h vs (ns.map WData.int)->IntsAre vs ns:=by
 intro ns
 induction ns with
 | nil =>
  intro vs w
  rw [List.map_nil] at w
  cases w
  exact .nil
 | cons n ns ih =>
  intro vs w
  rw [List.map_cons] at w
  cases w with
  | cons a b =>
   cases a
   exact .cons _ _ (ih _ b)
theorem N6 {l:OpenLaw} {n:Nat} (hn:l.most=some n) {P:Params} {h:Heap} {args:List WData} {vals:List Value}
  (hpre:l.row.toRowW.claim.pre args=true) (hwl:WellAll P h vals args) :
  ∃ a vs ns,vals=[Value.ref a]/\args=[WData.list (ns.map WData.int)]/\h.get? a=some { cls:=.type "list",data:=.seq vs.toArray }/\IntsAre vs ns/\ns.length<=n:=by
 have hsh:WShape.hasAll [] args [.list .int]=true:=(pre_splitW hpre).1
 have hc:l.pre.holds [] { args:=args }=true:=(pre_splitW hpre).2
 obtain ⟨d,r,rfl,h1,h2⟩:=hasAllW_cons hsh
 obtain rfl:=hasAllW_nil h2
 obtain ⟨xs,rfl,h3⟩:=hasW_list h1
 obtain ⟨ns,rfl⟩:=items_int h3
 have hlen:ns.length<=n:=by
  unfold OpenLaw.pre at hc
  have h4:(WTm.not (.lt (.lit (.int (n:Int))) (.len (.arg 0)))).holds [] { args:=[.list (ns.map .int)] }=true:=by
   have h4:=(holds_andW hc).1
   rw [hn] at h4
   exact h4
  have h5:=condW_of h4 (w_not (w_lt w_lit (w_len_list (w_arg rfl))))
  rw [List.length_map] at h5
  refine Nat.le_of_not_lt fun q=>?_
  have q':(n:Int) < ((ns.length:Nat):Int):=by omega
  first
   | (rw [decide_eq_true q'] at h5;exact absurd h5 (by decide))
   | (simp at h5;omega)
 cases hwl with
 | cons w1 w2 =>
  cases w2
  cases w1 with
  | list ho hall=>exact ⟨_,_,ns,rfl,rfl,ho,HU ns _ hall,hlen⟩
theorem Oi (l:OpenLaw) (args:List WData):l.row.toRowW.claim.post args (.bool true) args=true :=
 postW_of (r:=l.row.toRowW) (X:=(true == true))
  (show WShape.has [] (.bool true) .bool=true by first | rfl | decide | simp [WShape.has,WShape.arms,WShape.armsAll])
  (show (WTm.eq .res (.lit (.bool true))).value [] { args:=args,res:=some (.bool true),after:=args }=some (.bool (true == true)) from w_eq_bool (w_res rfl) w_lit) rfl
section
variable {prog:Program} {w:World} {A:Around} {E:Value->Shared->Prop} {s:Shared} {K:Frag}
end
end Att
namespace L2
open PySem PySem.Spec PyProof.Rows
theorem JZ:∀ {vs:List Value} {ns:List Int},IntsAre vs ns->Vals (ns.map V.int) vs
 | _,_,.nil=>.nil
 | _,_,.cons n t h=>.cons ⟨t,rfl⟩ (JZ h)
def Xd (H:Hp):Prop:=∀ b,H b=none∨∃ o xs,H b=some (.frz o (.lst xs))
theorem QU {P:Program} {w:World} {K:Fg} {mg mb:Str->Option Value} {CX:CXT} {k:Nat} {fa a:Addr} {fd:FuncData} {x:Str} {sp:Sp} {s₁:Shared} {vs:List Value} {ns:List Int}
  (KX:K.In s₁.heap) (hns:s₁.heap.Ns mainGlobals mg) (hb:s₁.heap.Ns builtinsNs mb) (hbb:∀ x:Str,x≠"__name__"->mb x=bootBuiltins x) (hlim:s₁.heap.NoLimit) (hg:s₁.gens=#[])
  (ha:s₁.heap.get? a=some { cls:=.type "list",data:=.seq vs.toArray }) (hi:IntsAre vs ns) (hl:ns.length<=sizeLine) (hr:EE k callerA)
  (F:∀ base:Heap,K.In base->base.Ns mainGlobals mg->Dv P w K mg base CX k fa fd [x] sp) (hbind:∀ (s:Shared) (u:Value),BindsTo s fd ⟨[u],[]⟩ [(x,u)])
  (hsp:∀ H:Hp,Xd H->SqL K H a (ns.map V.int)->sp [.ref a] H (fun v _=>v=.bl true) fun _ _ _=>False)
  (hCX:∀ H e s',CX [] H s₁ (fun _ _ _=>False) e s'->False) :
  codeAny (model P w) callerA (.call (.ref fa) ⟨[.ref a],[]⟩) (fun r s'=>r=.ok (.ret (.bool true))/\OldK s₁.heap s'.heap/\s'.os=s₁.os/\AllBare s'.gens) s₁:=by
 have rv:=JZ hi
 have lenV:=hi.length
 have core:∀ H:Hp,Xd H->SqL K H a (ns.map V.int)->HOk P w H s₁.heap->(∀ b,H b≠none->b=a)->(H a≠none->K.lookup a=none) ->
   codeAny (model P w) callerA (.call (.ref fa) ⟨[.ref a],[]⟩) (fun r s'=>r=.ok (.ret (.bool true))/\OldK s₁.heap s'.heap/\s'.os=s₁.os/\AllBare s'.gens) s₁:=by
  intro H hO hS hok hA hK
  have base_of:∀ {b:Addr} {o:Obj},s₁.heap.get? b=some o->H b=none->(QZ s₁.heap H).get? b=some o:=fun e n=>QY e n
  have noA:∀ {b:Addr} {o:Obj} {es:Array DictEntry} {ep:Nat},s₁.heap.get? b=some o->o.data=.dict es ep->H b=none:=fun {b o es ep} e d=>by
   cases q:H b with
   | none=>rfl
   | some u =>
    have e':b=a:=hA b (by rw [q];simp)
    subst e'
    rw [ha] at e;cases e
    have d':Data.seq vs.toArray _=Data.dict es ep:=d
    cases d'
  have nsK:∀ {b:Addr} {m:Str->Option Value},s₁.heap.Ns b m->(QZ s₁.heap H).Ns b m:=fun {b m} ⟨o,es,ep,e,d,r⟩=>⟨o,es,ep,base_of e (noA e d),d,r⟩
  have hKb:K.In (QZ s₁.heap H):=fun b o e=>base_of (KX b o e) (by
   cases q:H b with
   | none=>rfl
   | some u =>
    have e':b=a:=hA b (by rw [q];simp)
    subst e'
    rw [hK (by rw [q];simp)] at e;cases e)
  have hM:Mod K mg (QZ s₁.heap H):=⟨hKb,nsK hns,⟨mb,nsK hb,hbb⟩,let ⟨mc,h1,h2⟩:=hlim;⟨mc,nsK h1,h2⟩⟩
  have e0:UL P w K mg (QZ s₁.heap H) callerA [] s₁ H:=⟨rfl,hM,fun b o e=>Tg e,Nat.le_of_eq (Pb _ _),trivial,fun b hb=>absurd (show b∈([]:List Addr) from hb) (by simp),hok,.of_eq hg⟩
  refine codeAny_mono ((F _ hKb (nsK hns)).run callerA [] s₁ H ⟨[.ref a],[]⟩ [.ref a] [.ref a] _ _ hr e0 (hbind s₁ (.ref a)) (.cons rfl .nil) (hsp H hO hS)) fun r s' h=>?_
  cases r with
  | error e=>exact (hCX H e s' h).elim
  | ok fl =>
   cases fl with
   | next=>exact False.elim h
   | brk=>exact False.elim h
   | cont=>exact False.elim h
   | ret u =>
    obtain ⟨v,H',os,bare,un,hok',r',q⟩:=h
    have q':v=.bl true:=q
    subst q'
    obtain rfl:u=Value.bool true:=r'
    refine ⟨rfl,OldK.of_keep fun b o e=>?_,os,bare⟩
    cases q:H b with
    | none=>exact un.keep b o e q (by intro z;exact absurd (show b∈([]:List Addr) from z) (by simp)) (by simp)
    | some u =>
     rcases hO b with z | ⟨ob,xs,z⟩
     ·rw [q] at z;cases z
     ·have z2:=un.frzs b ob _ z
      obtain ⟨e1,_⟩:=hok b _ z
      obtain ⟨e2,_⟩:=hok' b _ z2
      rw [e] at e1;cases e1
      exact e2
 cases hk:K.lookup a with
 | some o =>
  have e:=KX a o hk
  rw [ha] at e
  cases e
  refine core (fun _=>none) (fun _=>.inl rfl) (.inr ⟨_,vs.toArray,_,hk,rfl,rfl,rfl,by rw [List.size_toArray,lenV];exact hl,by simpa using rv⟩) (fun b u z=>by have z':(none:Option HO)=some u:=z;cases z') (fun b z=>absurd rfl z) fun z=>absurd rfl z
 | none =>
  refine core (fun b=>if b=a then some (.frz { cls:=.type "list",data:=.seq vs.toArray } (.lst (ns.map V.int))) else none) (fun b=>?_) (.inl (.inr ⟨{ cls:=.type "list",data:=.seq vs.toArray },if_pos rfl⟩)) (fun b u z=>?_) (fun b z=>?_) fun _=>hk
  ·by_cases hb:b=a
   ·exact .inr ⟨_,_,if_pos hb⟩
   ·exact .inl (if_neg hb)
  ·by_cases hb:b=a
   ·have z':=(if_pos hb).symm.trans z
    cases z'
    subst hb
    exact ⟨ha,by rw [List.length_map];exact hl,vs,_,rv,ha⟩
   ·have z':=(if_neg hb).symm.trans z
    cases z'
  ·by_cases hb:b=a
   ·exact hb
   ·exact absurd (if_neg hb) z
def inClass (s:Stmt) (j:Nat):Stmt:=match s with
 | .ClassDef _ _ _ body _ _ _ _ _ _ _=>body.getD j (.Pass ⟨0,0,0,0⟩)
 | _=>.Pass ⟨0,0,0,0⟩
def AV (s:Stmt):Arguments:=match s with
 | .FunctionDef _ a _ _ _ _ _ _ _ _=>a
 | _=>{ posonlyargs:=[],args:=[],vararg:=none,kwonlyargs:=[],kw_defaults:=[],kwarg:=none,defaults:=[] }
def AU (s:Stmt):List Stmt:=match s with
 | .FunctionDef _ _ b _ _ _ _ _ _ _=>b
 | _=>[]
def Ao (s:Stmt):Scope:=match s with
 | .FunctionDef _ _ _ _ _ _ sc _ _ _=>sc
 | _=>{ kind:=.function,names:=[],isGenerator:=false,isCoroutine:=false }
abbrev CX0:CXT:=fun _ _ _ _ _ _=>False
abbrev E0:XK:=fun _ _ _=>False
theorem QM {X:Cx}:Passes CX0 X E0:=fun _ _ _ _ _ _ _ h=>h.elim
structure Fun (K:Fg) (x qual:Str) (st:Stmt) (f:Addr) (fd:FuncData):Prop where
 ex:∃ (oc:Value) (od:Option Addr) (kV doc pm:Value) (an:Option Addr) (cdv ct:Value) (osl:Array (Option Value)),
  fd=PySem.W.fnOf x qual (AV st) (AU st) (Ao st) .none kV doc pm an cdv ct/\K.lookup f=some ⟨oc,od,.func fd,osl⟩/\PySem.W.codeIn K cdv qual=true
 kp:PySem.W.keepIn K (.ref f)=true
section
variable {P:Program} {w:World} {K:Fg} {mg:Str->Option Value} {base:Heap}
theorem Fun.ok {x qual:Str} {st:Stmt} {f:Addr} {fd:FuncData} {N ps:List Str} {k:Nat} {sp:Sp} (F:Fun K x qual st f fd) (S:AZ N ps (Ao st)) (len:∀ vs H Q E,sp vs H Q E->vs.length=ps.length)
  (hbody:∀ (cdv:Value) (A:Around) (outer:List Env) (s:Shared) (H:Hp) (vs:List V) (Q:VK) (E:XK),EE k (A.deeper (envOfC qual (Ao st) s.heap.objs.size f cdv))->sp vs H Q E ->
   ∃ t,PSs (Ur CX0 P w K mg base N qual (Ao st) f cdv A outer s H E).nox (AU st) t/\t { nx:=fun _ H'=>Q .non H',rt:=Q } (start N vs) H):Dv P w K mg base CX0 (k+1) f fd ps sp:=by
 obtain ⟨oc,od,kV,doc,pm,an,cdv,ct,osl,rfl,lk,hcd⟩:=F.ex
 refine Yg lk hcd S len fun A outer s H vs Q E hr hsp=>?_
 obtain ⟨t,h,q⟩:=hbody cdv A outer s H vs Q E hr hsp
 exact ⟨t,h.nox,q⟩
theorem Fun.binds {x qual:Str} {st:Stmt} {f:Addr} {fd:FuncData} {ps:List Str} (F:Fun K x qual st f fd)
  (h:∀ (kV doc pm:Value) (an:Option Addr) (cdv ct:Value) (us:List Value),us.length=ps.length->bindArgs (PySem.W.fnOf x qual (AV st) (AU st) (Ao st) .none kV doc pm an cdv ct) ⟨us,[]⟩=pure (ps.zip us)):Binds K fd ps []:=by
 obtain ⟨oc,od,kV,doc,pm,an,cdv,ct,osl,rfl,lk,hcd⟩:=F.ex
 exact .all (h kV doc pm an cdv ct)
theorem BI {x qual:Str} {st:Stmt} {f:Addr} {oc:Value} {od an:Option Addr} {osl:Array (Option Value)} {kV doc pm cdv ct:Value} (l:K.lookup f=some ⟨oc,od,.func (PySem.W.fnOf x qual (AV st) (AU st) (Ao st) .none kV doc pm an cdv ct),osl⟩)
  (c:PySem.W.codeIn K cdv qual=true) (k:PySem.W.keepIn K (.ref f)=true):Fun K x qual st f (PySem.W.fnOf x qual (AV st) (AU st) (Ao st) .none kV doc pm an cdv ct):=⟨⟨oc,od,kV,doc,pm,an,cdv,ct,osl,rfl,l,c⟩,k⟩
end
theorem CZ {A:Around} {k:Nat} (hr:EE k A):A.units+1 < cLine:=Nat.lt_of_le_of_lt (Nat.add_le_add_left (by decide:1<=64) _) hr.units
section
variable {X:Cx}
theorem pv (i:Nat) {x:Str} {pos:Pos} (hN:X.N[i]?=some x:=by rfl) (hv:Vis X.env.scope x:=by first | exact Or.inl rfl | exact Or.inr (Or.inl rfl) | exact Or.inr (Or.inr rfl)) (hd:(x == ("__debug__":Str))=false:=by decide)
  (hcd:(x == ("__classdict__":Str))=false:=by decide):PE X (.Name x pos) (UY i):=Vp hN hv hd hcd
end
section
variable {κ:Type} [DecidableEq κ]
end
theorem FJ {env:Env}:∀ (l:List (Str×NameKind)) (cs:List (Str×Addr)),(∀ y∈l,y.2=.free->∃ c,env.cells.lookup y.1=some c)->(∀ n c,cs.lookup n=some c->env.cells.lookup n=some c) ->
  ∃ cl,(forIn l cs fun (x:Str×NameKind) (r:List (Str×Addr))=>match x with | (name,kind)=>if (kind == NameKind.free)=true then do let c <- cellOf env name;pure (ForInStep.yield ((name,c) :: r)) else pure (ForInStep.yield r))=(pure cl:Sem _) /\
   (∀ n c,cl.lookup n=some c->env.cells.lookup n=some c)/\(∀ y∈l,y.2=.free->∃ c,cl.lookup y.1=some c)/\(∀ n c,cs.lookup n=some c->∃ c',cl.lookup n=some c')
 | [],cs,_,h2=>⟨cs,rfl,h2,(fun _ h=>nomatch h),fun n c h=>⟨c,h⟩⟩
 | (n,k) :: r,cs,h1,h2=>by
  by_cases e:k=.free
  ·subst e
   obtain ⟨c,hc⟩:=h1 (n,.free) List.mem_cons_self rfl
   have e1:cellOf env n=(pure c:Sem _):=by unfold cellOf;rw [hc]
   have h3:∀ n' c',((n,c) :: cs).lookup n'=some c'->env.cells.lookup n'=some c':=fun n' c' q=>by
    rw [List.lookup_cons] at q
    cases hb:n' == n with
    | true=>rw [hb] at q;cases q;rw [beq_iff_eq.mp hb];exact hc
    | false=>rw [hb] at q;exact h2 _ _ q
   obtain ⟨cl,q1,q2,q3,q4⟩:=FJ r ((n,c) :: cs) (fun y hy=>h1 y (List.mem_cons_of_mem _ hy)) h3
   have hself:∃ c',cl.lookup n=some c':=q4 n c (by simp)
   refine ⟨cl,?_,q2,fun y hy hf=>?_,fun n' c' q=>?_⟩
   ·rw [List.forIn_cons]
    simp only [beq_self_eq_true,if_true,e1,pure_bind]
    exact q1
   ·rcases List.mem_cons.mp hy with rfl | hy
    ·exact hself
    ·exact q3 y hy hf
   ·by_cases hb:n'=n
    ·subst hb;exact hself
    ·exact q4 n' c' (by rw [List.lookup_cons,beq_eq_false_iff_ne.mpr hb];exact q)
  ·obtain ⟨cl,q1,q2,q3,q4⟩:=FJ r cs (fun y hy=>h1 y (List.mem_cons_of_mem _ hy)) h2
   refine ⟨cl,?_,q2,fun y hy hf=>?_,q4⟩
   ·rw [List.forIn_cons]
    have hb:(k == NameKind.free)=false:=by simpa using e
    simp only [hb,Bool.false_eq_true,if_false,pure_bind]
    exact q1
   ·rcases List.mem_cons.mp hy with rfl | hy
    ·exact absurd hf e
    ·exact q3 y hy hf
theorem Gm {sc:Scope} {env:Env} (h:∀ y∈sc.names,y.2=.free->∃ c,env.cells.lookup y.1=some c) :
  ∃ cl,closureFor sc env=pure cl/\(∀ n c,cl.lookup n=some c->env.cells.lookup n=some c)/\(∀ y∈sc.names,y.2=.free->∃ c,cl.lookup y.1=some c):=by
 obtain ⟨cl,q1,q2,q3,_⟩:=FJ (env:=env) sc.names [] h (fun n c q=>by simp at q)
 refine ⟨cl,?_,q2,q3⟩
 unfold closureFor
 simp only [bind_pure]
 refine Eq.trans ?_ q1
 congr 1
section
variable {prog:Program} {w:World} {A:Around} {R:Result->Shared->Prop} {s:Shared}
theorem KR {elt target iter:Expr} {ifs:List Expr} {scope:Scope} {pos:Pos} {it acc:Value} {env:Env} (I:Nat->Shared->Prop)
  (turn:∀ n s,I n s->wpAny (model prog w) A (pyNext it) (fun r s₁=>match r with
   | none=>R (.ok .next) s₁
   | some v=>wpAny (model prog w) A (letOwnedTupleGo target it v) (fun _ s₁=>wpAny (model prog w) A (assign target env v) (fun _ s₂ =>
     wpAny (model prog w) A (forIn ifs true fun c r=>if r=true then do let ok <- isTrue c env (eval c env);pure (ForInStep.yield ok) else pure (ForInStep.yield r)) (fun ok s₃ =>
      if ok=true then wpAny (model prog w) A (eval elt env) (fun x s₄ =>
       wpAny (model prog w) A (call (.builtin "list.append") [acc,x]) (fun _ s₅=>∃ m,m < n/\I m s₅) (fun _ _=>False) s₄) (fun _ _=>False) s₃
      else ∃ m,m < n/\I m s₃) (fun _ _=>False) s₂) (fun _ _=>False) s₁) (fun _ _=>False) s₁) (fun _ _=>False) s)
  (n:Nat) (h:I n s) :
  codeAny (model prog w) A (.compLoop (.ListComp elt [⟨target,iter,ifs,0⟩] scope pos) 0 it acc env) R s:=by
 refine codeAny_loop rfl I (fun n s hI=>?_) n h
 show wpAny _ A ((compTurn (.ListComp elt [⟨target,iter,ifs,0⟩] scope pos) 0 it acc env).onRaise (fun x=>do noteFrame x env;theTreesLotGoes x)) _ _ s
 refine wpAny_noted ?_
 rw [compTurn_list]
 refine wpAny_bind (wpAny_standAt (wpAny_bind (wpAny_mono (turn n s hI) (fun r s₁ h₁=>?_) fun _ _ h'=>h'.elim)))
 cases r with
 | none=>exact wpAny_pure h₁
 | some v =>
  refine wpAny_bind (wpAny_mono h₁ (fun _ s₁' h₁'=>?_) fun _ _ h'=>h'.elim)
  refine wpAny_bind (wpAny_mono h₁' (fun _ s₂ h₂=>wpAny_bind (wpAny_mono h₂ (fun ok s₃ h₃=>?_) fun _ _ h'=>h'.elim)) fun _ _ h'=>h'.elim)
  cases ok with
  | false=>exact wpAny_pure ⟨rfl,h₃⟩
  | true =>
   exact wpAny_bind (wpAny_bind (wpAny_mono h₃ (fun x s₄ h₄=>wpAny_bind (wpAny_mono h₄ (fun _ s₅ h₅=>wpAny_pure (wpAny_pure ⟨rfl,h₅⟩)) fun _ _ h'=>h'.elim)) fun _ _ h'=>h'.elim))
end
structure MO (fn sc:Scope):Prop where
 kind:sc.kind=.function
 nocell:∀ y∈sc.names,y.2≠.cell
 loc:∀ y∈sc.names,y.2=.local->sc.names.lookup y.1=some .local
 fr:∀ y∈sc.names,y.2=.free->fn.names.lookup y.1=some .cell∨fn.names.lookup y.1=some .free
def IW (fn sc:Scope):Bool :=
 decide (sc.kind=.function) && sc.names.all fun y=>decide (y.2≠.cell) && (decide (y.2≠.local) || decide (sc.names.lookup y.1=some .local)) &&
  (decide (y.2≠.free) || decide (fn.names.lookup y.1=some .cell) || decide (fn.names.lookup y.1=some .free))
theorem KQ {fn sc:Scope} (h:IW fn sc=true):MO fn sc:=by
 unfold IW at h
 rw [Bool.and_eq_true,List.all_eq_true] at h
 obtain ⟨h1,h2⟩:=h
 refine ⟨of_decide_eq_true h1,fun y hy=>?_,fun y hy e=>?_,fun y hy e=>?_⟩
 all_goals
  have q:=h2 y hy
  rw [Bool.and_eq_true,Bool.and_eq_true] at q
  obtain ⟨⟨q1,q2⟩,q3⟩:=q
 ·exact of_decide_eq_true q1
 ·rw [Bool.or_eq_true] at q2
  rcases q2 with q | q
  ·exact absurd e (of_decide_eq_true q)
  ·exact of_decide_eq_true q
 ·rw [Bool.or_eq_true,Bool.or_eq_true] at q3
  rcases q3 with (q | q) | q
  ·exact absurd e (of_decide_eq_true q)
  ·exact .inl (of_decide_eq_true q)
  ·exact .inr (of_decide_eq_true q)
theorem D2 {env:Env} {x:Str} {k':NameKind}:∀ {names:List (Str×NameKind)},
  (names.map fun (n,k)=>if (k == NameKind.free && env.scope.kind == .function && env.kindOf n == some .cell) then (n,NameKind.cell) else (n,k)).lookup x=some k'->∃ k,names.lookup x=some k/\(k'=k∨(k=.free/\k'=.cell))
 | [],h=>by simp at h
 | (n,k) :: r,h=>by
  have h:List.lookup x ((if (k == NameKind.free && env.scope.kind == .function && env.kindOf n == some .cell)=true then (n,NameKind.cell) else (n,k)) :: _)=some k':=h
  cases hx:x == n with
  | true =>
   refine ⟨k,by simp [List.lookup_cons,hx],?_⟩
   by_cases hc:(k == NameKind.free && env.scope.kind == .function && env.kindOf n == some .cell)=true
   ·rw [if_pos hc] at h
    simp only [List.lookup_cons,hx] at h
    cases h
    rw [Bool.and_eq_true,Bool.and_eq_true] at hc
    exact .inr ⟨beq_iff_eq.mp hc.1.1,rfl⟩
   ·rw [if_neg hc] at h
    simp only [List.lookup_cons,hx] at h
    cases h
    exact .inl rfl
  | false =>
   have h':List.lookup x (r.map fun (n,k)=>if (k == NameKind.free && env.scope.kind == .function && env.kindOf n == some .cell) then (n,NameKind.cell) else (n,k))=some k':=by
    by_cases hc:(k == NameKind.free && env.scope.kind == .function && env.kindOf n == some .cell)=true
    ·rw [if_pos hc] at h
     simpa only [List.lookup_cons,hx] using h
    ·rw [if_neg hc] at h
     simpa only [List.lookup_cons,hx] using h
   obtain ⟨k0,e1,e2⟩:=D2 h'
   exact ⟨k0,by simp only [List.lookup_cons,hx];exact e1,e2⟩
def Dd (X:Cx) (N:List Str) (sc:Scope) (cl:List (Str×Addr)) (C:Addr) (s:Shared) (H:Hp) (ex:List Addr):Cx :=
 { X with N:=N,s₀:=s,H₀:=H,env:=compEnvC sc cl C X.env,outer:=X.stack,stack:=X.stack,ex:=ex,fn:=fun _=>false,xe:=fun _ _=>False }
def GK (XN:List Str) (sc:Scope):List Str->List (Option Nat)->Bool
 | [],[]=>true
 | n :: r,none :: q=>GK XN sc r q
 | n :: r,some i :: q=>decide (XN[i]?=some n) && decide (sc.names.lookup n=some .free) && GK XN sc r q
 | _,_=>false
def Hf (σ:St) (src:List (Option Nat)):St:=src.map fun o=>o.bind fun i=>(σ[i]?).join
theorem Ic {XN:List Str} {sc:Scope}:∀ {N:List Str} {src:List (Option Nat)},GK XN sc N src=true->src.length=N.length
 | [],[],_=>rfl
 | _ :: r,none :: q,h=>by rw [List.length_cons,List.length_cons,Ic (N:=r) (src:=q) h]
 | _ :: r,some i :: q,h=>by
  unfold GK at h
  rw [Bool.and_eq_true] at h
  rw [List.length_cons,List.length_cons,Ic (N:=r) (src:=q) h.2]
 | [],_ :: _,h=>by cases h
 | _ :: _,[],h=>by cases h
theorem KU {XN:List Str} {sc:Scope}:∀ {N:List Str} {src:List (Option Nat)} {j i:Nat} {n:Str},GK XN sc N src=true->N[j]?=some n->src[j]?=some (some i)->XN[i]?=some n/\sc.names.lookup n=some .free
 | [],_,j,i,n,_,h1,_=>by simp at h1
 | _ :: _,[],j,i,n,_,_,h2=>by simp at h2
 | n0 :: r,o :: q,0,i,n,h,h1,h2=>by
  simp at h1 h2
  subst h1
  subst h2
  unfold GK at h
  rw [Bool.and_eq_true,Bool.and_eq_true] at h
  exact ⟨of_decide_eq_true h.1.1,of_decide_eq_true h.1.2⟩
 | n0 :: r,o :: q,j+1,i,n,h,h1,h2=>by
  refine KU (N:=r) (src:=q) (j:=j) ?_ (by simpa using h1) (by simpa using h2)
  cases o with
  | none=>exact h
  | some k =>
   unfold GK at h
   rw [Bool.and_eq_true] at h
   exact h.2
section
variable {X:Cx} {pins:List (Addr×Obj)} {σ:St} {H:Hp} {s:Shared} {fp:List Addr} {N:List Str} {sc:Scope} {cl:List (Str×Addr)} {C:Addr} {src:List (Option Nat)}
theorem WN (I:Inv X pins σ H s) (hf:∀ b∈fp,Lc X pins H b) (hfs:∀ b∈fp,b < s.heap.objs.size) (hS:MO X.env.scope sc) (hC:s.heap.objs.size<=C)
  (hc1:∀ n c,cl.lookup n=some c->X.env.cells.lookup n=some c) (hc2:∀ y∈sc.names,y.2=.free->∃ c,cl.lookup y.1=some c):(Dd X N sc cl C s H fp).Ok where
 mod:=I.ok.mod
 kind:=hS.kind
 glob:=I.ok.glob
 blt:=I.ok.blt
 above:=hC
 inj:=fun x y c h1 h2=>I.ok.inj x y c (hc1 _ _ h1) (hc1 _ _ h2)
 has:=fun x hx=>by
  have free:∀ k',(k'=NameKind.cell∨k'=NameKind.free)->(relabel sc X.env).names.lookup x=some k'->∃ c,cl.lookup x=some c:=fun k' hk e=>by
   obtain ⟨k,e1,e2⟩:=D2 (env:=X.env) e
   have hm:=PySem.mem_of_lookup e1
   have hk2:k=.free:=by
    rcases e2 with e2 | ⟨e2,_⟩
    ·subst e2
     rcases hk with hk | hk
     ·exact absurd hk (hS.nocell _ hm)
     ·exact hk
    ·exact e2
   exact hc2 _ hm hk2
  rcases hx with hx | hx
  ·exact free _ (.inl rfl) hx
  ·exact free _ (.inr rfl) hx
 cab:=fun x c h _=>absurd (show false=true from h) Bool.false_ne_true
 hd:=I.ok.hd
 frames:=I.ok.frames
 stk:=.inl rfl
 exf:=fun b hb=>⟨Nat.ne_of_lt (Nat.lt_of_lt_of_le (hfs b hb) hC),fun x c e=>(hf b hb).2.2.2.2.1 x c (hc1 x c e)⟩
 bs:=I.bs
 bsz:=Nat.le_trans I.ok.bsz I.sz
 noex:=fun b o e hb=>by
  rcases (hf b hb).2.2.2.1 with z | z
  ·exact I.ok.noex b o e z
  ·exact absurd (Nat.lt_of_lt_of_le (Heap.lt_size e) (Nat.le_trans I.ok.bsz z)) (Nat.lt_irrefl _)
 exfs:=fun b hb hz=>by
  rcases List.mem_cons.mp (I.LX b hz) with z | z
  ·exact (hf b hb).2.1 z
  ·exact (hf b hb).2.2.1 z
 Nr:=I.stack
 frf:=I.NZ
theorem UB {D:Addr} {h':Heap} {tk:Nat} {m:Str->Option Value} (I:Inv X pins σ H s) (hf:∀ b∈fp,Lc X pins H b) (hfs:∀ b∈fp,b < s.heap.objs.size) (hS:MO X.env.scope sc)
  (hc1:∀ n c,cl.lookup n=some c->X.env.cells.lookup n=some c) (hc2:∀ y∈sc.names,y.2=.free->∃ c,cl.lookup y.1=some c) (hcap:GK X.N sc N src=true)
  (hD:s.heap.objs.size<=D) (hC:s.heap.objs.size<=C) (hDC:D≠C) (hk:∀ b o,s.heap.get? b=some o->h'.get? b=some o) (hn:h'.Ns C m) (hl:h'.get? D=some { cls:=.type "list",data:=.seq (#[]:Array Value) }) :
  Inv (Dd X N sc cl C s H fp) pins (Hf σ src) (upd H D (.lst [])) { s with heap:=h',toks:=tk }:=by
 have fD:H D=none:=I.hok.fresh hD
 have fC:H C=none:=I.hok.fresh hC
 have old:∀ {b:Addr} {o:Obj},s.heap.get? b=some o->b≠D/\b≠C:=fun {b o} e=>⟨Nat.ne_of_lt (Nat.lt_of_lt_of_le (Heap.lt_size e) hD),Nat.ne_of_lt (Nat.lt_of_lt_of_le (Heap.lt_size e) hC)⟩
 refine ⟨WN I hf hfs hS hC hc1 hc2,rfl,I.bare,Un.laid hk hD fD,⟨m,hn,fun j x v e1 e2 e3=>?_⟩,fun x c e=>?_,?_,fun x c e=>?_,fun p hp=>?_,I.hok.laid hk hD ⟨Nat.zero_le _,[],0,.nil,hl⟩,?_⟩
 ·unfold Hf at e2
  rw [List.getElem?_map] at e2
  cases q:src[j]? with
  | none=>rw [q] at e2;cases e2
  | some o =>
   rw [q] at e2
   cases o with
   | none=>cases e2
   | some i =>
    have e2':(σ[i]?).join=some v:=Option.some.inj e2
    have e4:σ[i]?=some (some v):=by
     cases r:σ[i]? with
     | none=>rw [r] at e2';cases e2'
     | some u=>rw [r] at e2';cases u with
      | none=>cases e2'
      | some u=>have e5:some u=some v:=e2';cases e5;rfl
    obtain ⟨g1,g2⟩:=KU hcap e1 q
    obtain ⟨m0,_,hl0⟩:=I.loc
    have hfr:=hS.fr _ (PySem.mem_of_lookup g2) rfl
    obtain ⟨u,ru,lk⟩:=hl0 i x v g1 e4 (hfr.elim (fun z=>.inr (.inl z)) fun z=>.inr (.inr z))
    refine ⟨u,ru,.inr ⟨?_,?_⟩⟩
    ·rcases e3 with e3 | e3 | e3
     ·obtain ⟨k,r1,r2⟩:=D2 (env:=X.env) (show (relabel sc X.env).names.lookup x=some .local from e3)
      rw [g2] at r1
      cases r1
      rcases r2 with r2 | ⟨_,r2⟩ <;> cases r2
     ·exact .inl e3
     ·exact .inr e3
    ·obtain ⟨c,hc⟩:=hc2 _ (PySem.mem_of_lookup g2) rfl
     refine ⟨c,hc,?_⟩
     rcases lk with ⟨lk,_⟩ | ⟨_,c',hc',z⟩
     ·rcases hfr with z | z
      ·have z':X.env.kindOf x=some .cell:=z
       rw [lk] at z';cases z'
      ·have z':X.env.kindOf x=some .free:=z
       rw [lk] at z';cases z'
     ·have:=hc1 _ _ hc
      rw [hc'] at this
      cases this
      obtain ⟨o,ho,hd⟩:=z
      exact ⟨o,hk _ _ ho,hd⟩
 ·obtain ⟨v,o,ho,hd⟩:=I.cell x c (hc1 x c e)
  exact ⟨v,o,hk _ _ ho,hd⟩
 ·show upd H D (.lst []) C=none
  rw [Aw (Ne.symm hDC)]
  exact fC
 ·obtain ⟨v,o,ho,hd⟩:=I.cell x c (hc1 x c e)
  rw [Aw (old ho).1]
  exact I.freeC x c (hc1 x c e)
 ·obtain ⟨p1,p2,p3,p4,p5⟩:=I.pin p hp
  refine ⟨hk _ _ p1,by rw [Aw (old p1).1];exact p2,(old p1).2,fun z=>?_,p5⟩
  rcases List.mem_cons.mp (I.LX _ z) with z | z
  ·exact p3 z
  ·exact p4 z
 ·show (Hf σ src).length=N.length
  unfold Hf
  rw [List.length_map]
  exact Ic hcap
end
def Su (X:Cx) (ifs:List Expr) (t:TT):Prop :=
 ∀ (pins:List (Addr×Obj)) (s:Shared) (σ:St) (H:Hp) (Q:Bool->Hp->Prop),Inv X pins σ H s->t σ H Q ->
  wpAny (model X.prog X.w) X.A (forIn ifs true fun c r=>if r=true then do let ok <- isTrue c X.env (eval c X.env);pure (ForInStep.yield ok) else pure (ForInStep.yield r)) (TP X pins σ Q) X.xe s
def YM:TT:=fun _ H Q=>Q true H
theorem QE {X:Cx}:Su X [] YM:=fun pins s σ H Q I h=>wpAny_pure ⟨H,I,h⟩
theorem QD {X:Cx} {c:Expr} {t:TT} (h:PT X c t):Su X [c] t:=by
 intro pins s σ H Q I q
 rw [List.forIn_cons]
 simp only [if_true]
 refine wpAny_bind (wpAny_bind (thn (h pins s σ H Q I q) fun b s1 q1=>wpAny_pure ?_))
 exact wpAny_pure q1
def WI (J:It) (g:TG) (tt:TT) (te:TE) (Q:VK) (τ0:St) (H1:Hp):Prop:=∀ D,H1 D=none ->
 ∃ W:Nat->Nat->St->Hp->Prop,(∃ m,W 0 m τ0 (upd H1 D (.lst [])))/\∀ i m τ H2,W i m τ H2 ->
  (J.stop i H2/\Q (.ref D) H2)∨(J.go i H2/\∃ N:St->Hp->Prop,(∀ τ' H',N τ' H'->∃ m',m' < m/\W (i+1) m' τ' H')/\∀ x H3,J.yld i H2 x H3->g x τ H3 fun τ2 H4=>tt τ2 H4 fun b H5 =>
   if b=true then te τ2 H5 fun y H6=>∃ ys,H6 D=some (.lst ys)/\ys.length < sizeLine/\N τ2 (upd H6 D (.lst (ys++[y]))) else N τ2 H5)
def SJ (src:List (Option Nat)) (wi:TI) (g:TG) (tt:TT) (te:TE):TE:=fun σ H Q=>wi σ H fun J H1=>WI J g tt te Q (Hf σ src) H1
section
variable {X:Cx} {tg iter elt:Expr} {ifs:List Expr} {sc:Scope} {pos:Pos} {N:List Str} {src:List (Option Nat)} {wi:TI} {g:TG} {tt:TT} {te:TE}
theorem MC (hcalm:X.calm=true) (hS:MO X.env.scope sc) (hcap:GK X.N sc N src=true)
  (hg:∀ cl C s H fp,PG (Dd X N sc cl C s H fp) tg g) (ht:∀ cl C s H fp,Su (Dd X N sc cl C s H fp) ifs tt) (he:∀ cl C s H fp,PE (Dd X N sc cl C s H fp) elt te)
  {pins:List (Addr×Obj)} {s:Shared} {σ:St} {H:Hp} {it:Addr} {fp:List Addr} {tn:Nat->Heap->Prop} {J:It} {cl:List (Str×Addr)} {Q:VK} {E:Value->Shared->Prop} {RR:Value->Addr->Result->Shared->Prop}
  (hc1:∀ n c,cl.lookup n=some c->X.env.cells.lookup n=some c) (hc2:∀ y∈sc.names,y.2=.free->∃ c,cl.lookup y.1=some c)
  (I:Inv X pins σ H s) (T:Turn X.prog X.w X.K tg J fp it tn) (t0:tn 0 s.heap) (hf:∀ b∈fp,Lc X pins H b) (hw:WI J g tt te Q (Hf σ src) H)
  (hR:∀ (D C:Addr) (s':Shared) (τ:St) (H':Hp) (m:Str->Option Value),s.heap.objs.size<=C->s'.heap.Ns C m->Inv (Dd X N sc cl C s H fp) pins τ H' s'->(∀ b∈fp,H' b=none)->Q (.ref D) H'->RR (.ref D) C (.ok .next) s') :
  wpAny (model X.prog X.w) X.A (newList []) (fun acc s₃=>wpAny (model X.prog X.w) X.A (newFunctionEnv sc X.env.globals cl [] X.env.qual none .none (some X.env)) (fun cenv s₄ =>
   codeAny (model X.prog X.w) X.A (.compStart (.ListComp elt [⟨tg,iter,ifs,0⟩] sc pos) 0 (.ref it) acc { cenv with scope:=relabel sc X.env }) (RR acc cenv.locals) s₄) E s₃) E s:=by
 have hfs:∀ b∈fp,b < s.heap.objs.size:=fun b hb=>by
  obtain ⟨o,e,_⟩:=T.obj 0 _ t0 b hb
  exact Heap.lt_size e
 refine wpAny_newObj_type (wpAny_newFunctionEnv hS.nocell (by intro y hy;simp at hy) (fun h₁ hns₁ hsb₁=>?_) hS.kind)
 dsimp only at hns₁ hsb₁ ⊢
 generalize hH2:s.heap.push { cls:=.type "list",dict:=none,data:=.seq ([]:List Value).toArray }=H2 at hns₁ hsb₁ ⊢
 have hC:H2.objs.size=s.heap.objs.size+1:=by rw [<- hH2,Heap.size_push]
 have hDC:s.heap.objs.size≠H2.objs.size:=by rw [hC];exact Nat.ne_of_lt (Nat.lt_succ_self _)
 have hCle:s.heap.objs.size<=H2.objs.size:=by rw [hC];exact Nat.le_succ _
 have old:∀ b o,s.heap.get? b=some o->h₁.get? b=some o:=fun b o e=>hsb₁.extBut b o (Nat.ne_of_lt (Nat.lt_of_lt_of_le (Heap.lt_size e) hCle)) (Heap.get?_push_of_some _ (hH2▸Heap.get?_push_of_some _ e))
 have hacc:h₁.get? s.heap.objs.size=some { cls:=.type "list",data:=.seq (#[]:Array Value) }:=hsb₁.extBut _ _ hDC (Heap.get?_push_of_some _ (hH2▸Heap.get?_push_size _ rfl))
 have fresh:H s.heap.objs.size=none:=I.hok.fresh (Nat.le_refl _)
 obtain ⟨W,⟨m0,w0⟩,turn⟩:=hw s.heap.objs.size fresh
 have Y0:Inv (Dd X N sc cl H2.objs.size s H fp) pins (Hf σ src) (upd H s.heap.objs.size (.lst [])) { s with heap:=h₁,toks:=s.toks+([]:List (Str×Value)).length } :=
  UB I hf hfs hS hc1 hc2 hcap (Nat.le_refl _) hCle hDC old hns₁ hacc
 have t1:tn 0 h₁:=T.keep 0 _ _ t0 fun b _ o e=>old b o e
 have fp0:∀ b∈fp,upd H s.heap.objs.size (.lst []) b=none:=fun b hb=>by
  rw [Aw (Nat.ne_of_lt (hfs b hb))]
  exact (hf b hb).1
 have stat:∀ {H':Hp},(∀ b∈fp,H' b=none)->∀ b∈fp,Lc (Dd X N sc cl H2.objs.size s H fp) pins H' b:=fun {H'} hn b hb =>
  ⟨hn b hb,Nat.ne_of_lt (Nat.lt_of_lt_of_le (hfs b hb) hCle),Y0.ok.exfs b hb,.inl hb,(Y0.ok.exf b hb).2,(hf b hb).2.2.2.2.2⟩
 have loop:∀ s₃:Shared,s₃={ s with heap:=h₁,toks:=s.toks+([]:List (Str×Value)).length } ->
   codeAny (model X.prog X.w) X.A (.compLoop (.ListComp elt [⟨tg,iter,ifs,0⟩] sc pos) 0 (.ref it) (.ref s.heap.objs.size) (compEnvC sc cl H2.objs.size X.env)) (RR (.ref s.heap.objs.size) H2.objs.size) s₃:=by
  rintro s₃ rfl
  refine KR (fun n s'=>∃ i τ H',Inv (Dd X N sc cl H2.objs.size s H fp) pins τ H' s'/\tn i s'.heap/\(∀ b∈fp,H' b=none)/\W i n τ H') ?_ m0 ⟨0,_,_,Y0,t1,fp0,w0⟩
  rintro n s4 ⟨i,τ,H4,I4,t4,fr4,w4⟩
  rcases turn i n τ H4 w4 with ⟨stop,qn⟩ | ⟨go,Nx,hNx,step⟩
  ·refine thn (T.done (Dd X N sc cl H2.objs.size s H fp) rfl rfl rfl hcalm i pins s4 τ H4 _ I4 (stat fr4) t4 stop) fun r s5 ⟨hr,I5⟩=>?_
   subst hr
   obtain ⟨m5,hn5,_⟩:=I5.loc
   exact hR _ _ s5 τ H4 m5 hCle hn5 I5 fr4 qn
  ·refine thn (T.item (Dd X N sc cl H2.objs.size s H fp) rfl rfl rfl hcalm i pins s4 τ H4 _ I4 (stat fr4) t4 go) fun r s5 ⟨u,hr,h5⟩=>?_
   subst hr
   refine thn h5 fun _ s6 ⟨x,H6,I6,r6,y6,st6,fr6⟩=>?_
   have I6':=I6.pinned (stat fr6) (T.obj _ _ st6)
   have again:∀ {τ7:St} {H7:Hp} {s7:Shared} {m':Nat},Inv (Dd X N sc cl H2.objs.size s H fp) (pins++Ki fp s6.heap) τ7 H7 s7->m' < n->W (i+1) m' τ7 H7 ->
     ∃ m,m < n/\∃ i τ H',Inv (Dd X N sc cl H2.objs.size s H fp) pins τ H' s7/\tn i s7.heap/\(∀ b∈fp,H' b=none)/\W i m τ H':=fun {τ7 H7 s7 m'} I7 hm w7=>by
    refine ⟨m',hm,i+1,τ7,H7,I7.Hi,T.keep _ _ _ st6 fun b hb o e=>(I7.pin (b,o) (List.mem_append_right _ (List.mem_append_right _ (Fc hb e)))).1,fun b hb=>?_,w7⟩
    obtain ⟨o,e,d⟩:=T.obj _ _ st6 b hb
    exact (I7.pin (b,o) (List.mem_append_right _ (List.mem_append_right _ (Fc hb e)))).2.1
   refine thn (hg cl H2.objs.size s H fp _ s6 τ H6 x u _ I6' r6 (step x H6 y6)) fun _ s7 ⟨τ7,H7,I7,q7⟩=>?_
   refine thn (ht cl H2.objs.size s H fp _ s7 τ7 H7 _ I7 q7) fun b s8 ⟨H8,I8,q8⟩=>?_
   cases b with
   | false =>
    rw [if_neg Bool.false_ne_true] at q8 ⊢
    obtain ⟨m',hm,w8⟩:=hNx _ _ q8
    exact again I8 hm w8
   | true =>
    rw [if_pos rfl] at q8 ⊢
    refine thn (he cl H2.objs.size s H fp _ s8 τ7 H8 _ I8 q8) fun v s9 ⟨y,H9,I9,r9,ys,hD9,hz,w9⟩=>?_
    obtain ⟨m',hm,w9⟩:=hNx _ _ w9
    refine thn (Ci _ s9 τ7 H9 (.ref s.heap.objs.size) [y] (.ref s.heap.objs.size) [v] (fun _ Hn=>W (i+1) m' τ7 Hn) I9 rfl (.cons r9 .nil) ⟨_,ys,y,rfl,rfl,hD9,hz,w9⟩) fun _ s10 ⟨_,H10,I10,_,w10⟩=>?_
    exact again I10 hm w10
 exact codeAny_compStart_list (loop _ rfl) (T.self X.A 0 _ _ _ t1 (loop _ rfl))
theorem P5 {pins:List (Addr×Obj)} {s s':Shared} {σ τ:St} {H H':Hp} {fp:List Addr} {cl:List (Str×Addr)} {C:Addr} (I:Inv X pins σ H s) (hf:∀ b∈fp,Lc X pins H b) (J:Inv (Dd X N sc cl C s H fp) pins τ H' s'):Inv X pins σ H' s' :=
 I.Yq (ch:=fp) J.os J.base J.hok J.bare fun b hb=>⟨(hf b hb).2.2.2.1,(hf b hb).2.1,(hf b hb).2.2.2.2.1,(hf b hb).2.2.2.2.2⟩
theorem UA {pins:List (Addr×Obj)} {s s':Shared} {σ τ:St} {H H':Hp} {fp:List Addr} {cl:List (Str×Addr)} {C:Addr} {h':Heap} (I:Inv X pins σ H s) (hC:s.heap.objs.size<=C) (hf:∀ b∈fp,Lc X pins H b)
  (J:Inv (Dd X N sc cl C s H fp) pins τ H' s') (hs:Heap.SameBut C s'.heap h'):Inv X pins σ H' { s' with heap:=h' }:=by
 have I':=P5 I hf J
 refine I'.turned (it:=C) (t':=s'.toks) (fun b o hb e=>hs.extBut b o hb e) J.free (Nat.ne_of_gt (Nat.lt_of_lt_of_le I.lt hC)) (.inr (Nat.le_trans I.sz hC)) (fun x c e z=>?_) fun p hp z=>?_
 ·obtain ⟨v,q⟩:=I.cell x c e
  exact absurd (Nat.lt_of_lt_of_le q.lt (by rw [z];exact hC)) (Nat.lt_irrefl _)
 ·exact absurd (Nat.lt_of_lt_of_le (Heap.lt_size (I.pin p hp).1) (by rw [z];exact hC)) (Nat.lt_irrefl _)
theorem S5 (N:List Str) (src:List (Option Nat)) (hcalm:X.calm=true) (hi:PI X tg iter wi) (hg:∀ cl C s H fp,PG (Dd X N sc cl C s H fp) tg g) (ht:∀ cl C s H fp,Su (Dd X N sc cl C s H fp) ifs tt)
  (he:∀ cl C s H fp,PE (Dd X N sc cl C s H fp) elt te) (hS:IW X.env.scope sc=true:=by rfl) (hcap:GK X.N sc N src=true:=by rfl)
  (hs:∀ x,foldedSetIterable iter X.env x=pure x:=by intro _;rfl):PE X (.ListComp elt [⟨tg,iter,ifs,0⟩] sc pos) (SJ src wi g tt te):=by
 intro pins s σ H Q I h
 have S:=KQ hS
 obtain ⟨cl,hcl,hc1,hc2⟩:=Gm (sc:=sc) (env:=X.env) fun y hy e=>I.ok.has y.1 (S.fr y hy e)
 rw [eval_ListComp]
 refine wpAny_comprehension_free (use:=none) rfl hs hcl S.kind S.loc (thn (hi pins s σ H _ I h) fun v s1 h1=>thn h1 fun itv s2 h2=>?_)
 obtain ⟨it,fp,tn,J,H2,e,I2,T,t2,f2,hw⟩:=h2
 subst e
 refine MC hcalm S hcap hg ht he hc1 hc2 I2 T t2 f2 hw (RR:=fun acc C=>compPost (model X.prog X.w) X.A X.xe none (EP X pins σ Q) acc C) fun D C s' τ H' m hC hn J' _ q=>?_
 exact ⟨m,hn,fun h' hsb=>⟨.ref D,H',UA I2 hC f2 J' hsb,rfl,q⟩⟩
theorem MZ {i:Nat} {y:Str} {pos' spos:Pos} (N:List Str) (src:List (Option Nat)) (hcalm:X.calm=true) (hN:X.N.Nodup) (hiy:X.N[i]?=some y) (hy:Loc X.env.scope y) (hi:PI X tg iter wi) (hg:∀ cl C s H fp,PG (Dd X N sc cl C s H fp) tg g) (ht:∀ cl C s H fp,Su (Dd X N sc cl C s H fp) ifs tt)
  (he:∀ cl C s H fp,PE (Dd X N sc cl C s H fp) elt te) (hS:IW X.env.scope sc=true:=by rfl) (hcap:GK X.N sc N src=true:=by rfl)
  (hs:∀ x,foldedSetIterable iter X.env x=pure x:=by intro _;rfl) (hsw:swapsWith (.ListComp elt [⟨tg,iter,ifs,0⟩] sc pos) (some (.Name y pos')) spos.line X.env=pure true:=by rfl)
  (hf:X.fn y=true∨X.env.scope.names.lookup y=some .local:=by first | exact .inl rfl | exact .inr rfl | assumption) :
  PS X (.Assign [.Name y pos'] (.ListComp elt [⟨tg,iter,ifs,0⟩] sc pos) spos) (U3 (SJ src wi g tt te) (Q6 i)):=by
 intro pins s σ H D0 I h
 have S:=KQ hS
 obtain ⟨cl,hcl,hc1,hc2⟩:=Gm (sc:=sc) (env:=X.env) fun y hy e=>I.ok.has y.1 (S.fr y hy e)
 rw [exec_Assign_Name_used _ _ _ _ hsw]
 refine wpAny_bind (wpAny_standAt (wpAny_bind ?_))
 show wpAny _ X.A (do let _ <- comprehension (.ListComp elt [⟨tg,iter,ifs,0⟩] sc pos) sc X.env _ (newList []) false (eval iter X.env) (some (assign (.Name y pos') X.env))) _ _ s
 refine wpAny_bind (wpAny_mono (wpAny_comprehension_free (use:=some (assign (.Name y pos') X.env)) (Q:=fun _ s'=>SP X pins D0 .next s') rfl hs hcl S.kind S.loc
  (thn (hi pins s σ H _ I h) fun v s1 h1=>thn h1 fun itv s2 h2=>?_)) (fun _ s' hq=>wpAny_pure (wpAny_pure hq)) fun _ _ e=>e)
 obtain ⟨it,fp,tn,J,H2,e,I2,T,t2,f2,hw⟩:=h2
 subst e
 refine MC hcalm S hcap hg ht he hc1 hc2 I2 T t2 f2 hw (RR:=fun acc C=>compPost (model X.prog X.w) X.A X.xe (some (assign (.Name y pos') X.env)) (fun _ s'=>SP X pins D0 .next s') acc C) fun D C s' τ H' m hC hn J' _ q=>?_
 show wpAny _ X.A (assign (.Name y pos') X.env (.ref D)) _ _ s'
 have I':=P5 I2 f2 J'
 have ltC:∀ {b:Addr} {o:Obj},s2.heap.get? b=some o->b≠C:=fun e=>Nat.ne_of_lt (Nat.lt_of_lt_of_le (Heap.lt_size e) hC)
 have cC:∀ x c,X.env.cells.lookup x=some c->c≠C:=fun x c e=>by
  obtain ⟨v,o,ho,_⟩:=I2.cell x c e
  exact ltC ho
 have lC:X.env.locals≠C:=Nat.ne_of_lt (Nat.lt_of_lt_of_le I2.lt hC)
 refine wpAny_assign_Name (J5 I' hN hiy hy (v:=.ref D) rfl (fun s3 I3 ⟨a,sb,ha⟩=>?_) hf)
 have naC:C≠a:=by
  rcases ha with rfl | ha
  ·exact Ne.symm lC
  ·exact Ne.symm (cC _ _ ha)
 refine ⟨m,hn.sameBut sb naC,fun h' hs'=>⟨_,H',I3.turned (it:=C) (t':=s3.toks) (fun b o hb e=>hs'.extBut b o hb e) J'.free (Ne.symm lC) (.inr (Nat.le_trans I2.sz hC)) cC (fun p hp z=>ltC (I2.pin p hp).1 z),q⟩⟩
end
section
variable {K:Fg} {a:Addr} {xs:List V} {g:TG} {tt:TT} {te:TE} {Q:VK} {τ0:St} {H1:Hp}
end
end L2
namespace PySem
namespace F
theorem OD:typeLookup (.type "list_reverseiterator") "__len__"=pure none:=by rw [typeLookup_type,builtinLookup_eq_fast];kernel_rfl
theorem QX:typeLookup (.type "list_reverseiterator") "__length_hint__"=pure (some (.builtin "list_reverseiterator.__length_hint__")):=by rw [typeLookup_type,builtinLookup_eq_fast];kernel_rfl
end F
section
variable {prog:Program} {w:World} {A:Around} {s:Shared} {R:Result->Shared->Prop}
variable {I:Addr} {fp wr:List Addr} {G:Array GenState->Array GenState->Prop} {n:Nat} {P:Nat->Value->Prop} {St:Nat->Shared->Prop}
theorem Hc (W:WalksS prog w A.in1 I fp wr G n P St) (hT:∀ i s,St i s->s.TypeIs (.ref I) "list_reverseiterator") (S:Addr) (res:Value) (c₀:Nat) (hst:St 0 s) (hSf:S∉fp) (hI:I∈fp)
  (hS:s.heap.get? S=some { cls:=.type "list",data:=.seq #[] c₀ })
  (hR:∀ s' acc' c',Moved (S :: wr) G s s'->s'.heap.get? S=some { cls:=.type "list",dict:=none,data:=.seq acc' c',slots:=#[] }->ItemsOf P acc' n->R (.ok (.ret res)) s') (hn:n<=sizeLine) :
  wpAny (model prog w) A.in1 (Builtin.List.listExtendWith (.ref S) (.ref I) res)
   (fun fin s'=>match fin with | .done f=>R (.ok f) s' | .again c'=>c'.quiet=true/\codeAny (model prog w) A c' R s') (fun e s'=>R (.error e) s') s:=by
 have hSI:S≠I:=fun e=>hSf (e▸hI)
 unfold Builtin.List.listExtendWith
 refine wpAny_bind (wpAny_typeOf (hT 0 _ hst) ?_)
 have h1:Builtin.List.listSameRef (.ref S) (.ref I)=false:=by simp [Builtin.List.listSameRef,hSI]
 have h2:(Value.type "list_reverseiterator" == Value.type "list")=false:=by decide
 have h3:(Value.type "list_reverseiterator" == Value.type "tuple")=false:=by decide
 simp only [h1,h2,h3,Bool.or_false,Bool.false_eq_true,if_false]
 refine wpAny_bind (W.self 0 _ _ _ hst ?_)
 refine wpAny_bind (wpAny_holding ?_)
 unfold Builtin.List.listLengthHint
 refine wpAny_bind (wpAny_specialOf (hT 0 _ hst) F.OD ?_)
 show wpAny _ A.in1 (specialOf (Value.ref I) (Str.ofString "__length_hint__") >>= _) _ _ _
 refine wpAny_bind (wpAny_specialOf (hT 0 _ hst) F.QX ?_)
 generalize hid:("list_reverseiterator.__length_hint__":String)=id0
 wp_delta
 rw [show splitId id0=some ("list_reverseiterator","__length_hint__") from by subst hid;decide +kernel]
 subst hid
 refine wpAny_bind (wpAny_isInstance (b:=true) (hT 0 _ hst) (by rw [isSubtype_type];kernel_rfl) ?_)
 refine wpAny_pure ?_
 rw [if_neg (by decide)]
 refine wpAny_pure ⟨plainId_quiet F.plain_extend_loop _,codeAny_extend_loopS W hn _ hSf _ n 0 _ _ _ rfl (Nat.zero_le _) hst hS (ItemsOf.nil P) fun s' acc' c' hm hS' hacc=>?_⟩
 exact hR s' acc' c' hm hS' hacc
theorem Fx (W:WalksS prog w A.in1 I fp wr G n P St) (hT:∀ i s,St i s->s.TypeIs (.ref I) "list_reverseiterator") (S:Addr) (hst:St 0 s) (hSf:S∉fp) (hI:I∈fp)
  (hS:s.heap.get? S=some { cls:=.type "list",data:=.seq #[] })
  (hR:∀ s' acc' c',Moved (S :: wr) G s s'->s'.heap.get? S=some { cls:=.type "list",dict:=none,data:=.seq acc' c',slots:=#[] }->ItemsOf P acc' n->R (.ok (.ret .none)) s') (hn:n<=sizeLine) :
  wpAny (model prog w) A.in1 (Builtin.«list.__init__» ⟨[.ref S,.ref I],[]⟩)
   (fun fin s'=>match fin with | .done f=>R (.ok f) s' | .again c'=>c'.quiet=true/\codeAny (model prog w) A c' R s') (fun e s'=>R (.error e) s') s:=by
 show wpAny _ A.in1 (do let old <- Builtin.List.listItems (.ref S);Builtin.List.listUpdate (.ref S) (fun _=>#[]);letGo old.toList.reverse;Builtin.List.listExtendWith (.ref S) (.ref I) .none) _ _ s
 refine wpAny_bind ?_
 unfold Builtin.List.listItems
 refine wpAny_bind (wpAny_seqItems hS rfl (wpAny_pure ?_))
 show wpAny _ A.in1 (updateSeq S (fun _=>#[]) >>= fun _=>letGo (#[]:Array Value).toList.reverse >>= fun _=>Builtin.List.listExtendWith (.ref S) (.ref I) .none) _ _ s
 refine wpAny_bind (wpAny_updateSeq hS rfl ?_)
 have hS₂:=Heap.get?_update_self (Obj.mapSeq (fun _=>(#[]:Array Value))) hS rfl
 have oth:∀ b o,b≠S->s.heap.get? b=some o->(s.heap.update S (Obj.mapSeq (fun _=>(#[]:Array Value)))).get? b=some o :=
  fun b o hb e=>(Heap.get?_update_other _ _ (Ne.symm hb)).trans e
 refine wpAny_bind (wpAny_letGo ?_)
 refine Hc (hn:=hn) W hT S .none _ (W.frame 0 s _ s.toks hst (Nat.le_refl _) fun b hb o e=>oth b o (fun h=>hSf (h▸hb)) e) hSf hI hS₂ fun s' acc' c' hm hS' hacc=>?_
 exact hR s' acc' c' (Moved.trans W.gtrans ((Moved.refl W.grefl).then_heap (Nat.le_refl _) fun b o hb e=>oth b o (fun h=>hb (h▸List.mem_cons_self)) e) hm) hS' hacc
end
section
variable {prog:Program} {w:World} {A:Around} {E:Value->Shared->Prop} {s:Shared}
theorem GL {it l:Addr} {items:Array Value} {Q:Value->Shared->Prop} (hh:A.handled=none) (hne:l≠it) (hit:s.heap.IsRevIter it l ((items.size:Int) - 1)) (hl:s.heap.IsList l items) (hz:items.size<=sizeLine)
  (hQ:∀ h' tk acc' c',(∀ b o,b≠it->s.heap.get? b=some o->h'.get? b=some o) ->
   h'.get? s.heap.objs.size=some { cls:=.type "list",dict:=none,data:=.seq acc' c',slots:=#[] }->ItemsOf (fun i v=>items[items.size - 1 - i]?=some v) acc' items.size->Q (.ref s.heap.objs.size) { s with heap:=h',toks:=tk }) :
  wpAny (model prog w) A (call (.type "list") [.ref it]) Q E s:=by
 refine callType_codes (Q₁:=fun obj s₁=>obj=.ref s.heap.objs.size/\s₁={ s with heap:=s.heap.push { cls:=.type "list",data:=.seq #[] } }) F.called_list (F.typeCall_list_1 _) F.entry_list_init
  (code_list_new _ ⟨rfl,rfl⟩) fun obj s₁ h₁=>?_
 obtain ⟨rfl,rfl⟩:=h₁
 have hS:(s.heap.push { cls:=.type "list",data:=.seq #[] }).get? s.heap.objs.size=some { cls:=.type "list",data:=.seq #[] }:=Heap.get?_push_size _ rfl
 have hlt:it < s.heap.objs.size:=by obtain ⟨o,e,_⟩:=hit;exact Heap.lt_size e
 have hlt2:l < s.heap.objs.size:=by obtain ⟨o,e,_⟩:=hl;exact Heap.lt_size e
 have W:=(Walks.listRev (prog:=prog) (w:=w) (A:=A.in1.in1) hh it l hne items).toS
 have e0:(items.size:Int) - 1 - ((0:Nat):Int)=(items.size:Int) - 1:=by simp
 refine ⟨⟨_,hS,rfl⟩,F.args_list_init_2 _ _,Fx (A:=A.in1) W (fun i s' st=>?_) _ ?_ ?_ (by simp) hS (fun s' acc' c' hm hS' hacc=>?_) hz⟩
 ·exact st.2.1.typeIs
 ·refine ⟨Nat.zero_le _,?_,hl.push _⟩
  rw [e0]
  exact hit.at fun o e=>Heap.get?_push_of_some _ e
 ·intro hm
  rcases List.mem_cons.mp hm with e | hm
  ·exact absurd hlt (by rw [e];exact Nat.lt_irrefl _)
  ·exact absurd hlt2 (by rw [List.mem_singleton.mp hm];exact Nat.lt_irrefl _)
 ·rw [Moved.eq_with hm] at hS' ⊢
  refine ⟨rfl,hQ s'.heap s'.toks acc' c' (fun b o hb e=>hm.heap b o (fun hmem=>?_) (Heap.get?_push_of_some _ e)) hS' hacc⟩
  rcases List.mem_cons.mp hmem with e' | hmem
  ·exact absurd (Heap.lt_size e) (by rw [e'];exact Nat.lt_irrefl _)
  ·exact hb (List.mem_singleton.mp hmem)
end
end PySem
namespace L2
open PySem PySem.Spec PyProof.Rows
section
variable {X:Cx} {pins:List (Addr×Obj)} {σ:St} {H:Hp} {s:Shared}
theorem Inv.PV {it d:Addr} {h':Heap} {t':Nat} {ys:List V} {its:List Value} {n:Nat} (I:Inv X pins σ H s) (hf:Lc X pins H it) (hd:s.heap.objs.size<=d) (k:∀ b o,b≠it->s.heap.get? b=some o->h'.get? b=some o)
  (hz:ys.length<=sizeLine) (r:Vals ys its) (e:h'.get? d=some { cls:=.type "list",data:=.seq its.toArray n }):Inv X pins σ (upd H d (.lst ys)) { s with heap:=h',toks:=t' }:=by
 obtain ⟨f0,f1,f2,f3,f4,f5⟩:=hf
 have fd:H d=none:=I.hok.fresh hd
 have nd:∀ {b:Addr} {o:Obj},s.heap.get? b=some o->b≠d:=fun e=>Nat.ne_of_lt (Nat.lt_of_lt_of_le (Heap.lt_size e) hd)
 have nit:∀ {b:Addr} {u:HO},H b=some u->b≠it:=fun {b u} e z=>by rw [z,f0] at e;cases e
 refine I.step (g':=s.gens) (d':=s.drawn) (ch:=[it]) (fun b hb=>?_) (fun b o _ _ hc e _=>k b o (fun z=>hc (by simp [z])) e) (fun b o _ _ hc e _=>⟨o.slots,k b o (fun z=>hc (by simp [z])) e⟩)
  (fun b o _ e n=>by rw [Aw (nd e)];exact n) (fun b o hc e=>⟨o,k b o (fun z=>hc (by simp [z])) e⟩) (fun b xs e=>by rw [Aw (BX e fd)];exact e) (fun b o u e=>by rw [Aw (BX e fd)];exact e)
  (fun b ps e=>⟨#[],by rw [Aw (BX e fd),e];simp⟩) (fun m hm=>?_) (fun b u e=>?_) I.bare
 ·have e:b=it:=by simpa using hb
  subst e
  exact ⟨f3,f1,f4,f5⟩
 ·obtain ⟨o,es,ep,ho,r⟩:=hm
  exact ⟨o,es,ep,k _ o (Ne.symm f1) ho,r⟩
 ·by_cases hb:b=d
  ·subst hb
   rw [AL] at e
   cases e
   exact ⟨hz,its,n,r,‹_›⟩
  ·rw [Aw hb] at e
   refine (I.hok b u e).SM (fun c v hc q=>k c v ?_ q) (fun c q=>by rw [Aw (BX q fd)];exact q) fun c xs q=>by rw [Aw (BX q fd)];exact q
   rcases hc with z | z
   ·rw [z];exact nit e
   ·exact nit z
end
theorem Qj {ys:List V} {its:List Value} (r:Vals ys its) {acc:Array Value} (h:ItemsOf (fun i v=>its.toArray[its.toArray.size - 1 - i]?=some v) acc its.toArray.size):Vals ys.reverse acc.toList:=by
 have e:acc.toList=its.reverse:=by
  apply List.ext_getElem?
  intro i
  obtain ⟨h1,h2⟩:=h
  have hs:its.toArray.size=its.length:=by simp
  by_cases hi:i < its.length
  ·have ha:acc[i]?=some (acc[i]'(by omega)):=by simp
   have q:=h2 i _ ha
   rw [List.getElem?_reverse (by omega)]
   have q':its[its.length - 1 - i]?=some (acc[i]'(by omega)):=by simpa using q
   rw [q']
   simp
  ·rw [List.getElem?_eq_none (by simp;omega),List.getElem?_eq_none (by simp;omega)]
 rw [e]
 exact r.reverse
section
variable {X:Cx} {a:Expr} {ta:TE} {p1 p2 pos1 pos2:Pos}
def Qo (K:Fg) (ta:TE):TE:=fun σ H Q=>ta σ H fun x H1=>∃ l ys,x=.ref l/\SqL K H1 l ys/\∀ d,H1 d=none->Q (.ref d) (upd H1 d (.lst ys.reverse))
theorem M4 (hc:X.calm=true) (hm1:X.mg "list"=none) (hm2:X.mg "reversed"=none) (ha:PE X a ta) (hg1:Gl X "list":=by rfl) (hg2:Gl X "reversed":=by rfl)
  (he:starEach [(.Call (.Name "reversed" p2) [a] [] pos2:Expr)] X.env=[(false,eval (.Call (.Name "reversed" p2) [a] [] pos2) X.env)]:=by rfl) (he2:starEach [a] X.env=[(false,eval a X.env)]:=by rfl) :
  PE X (.Call (.Name "list" p1) [.Call (.Name "reversed" p2) [a] [] pos2] [] pos1) (Qo X.K ta):=by
 intro pins s σ H Q I h
 refine wpAny_Call_Name_kw (GZ I hg1 hm1 boot_list ?_)
 refine PyProof.Rows.callWith_type1 ?_ he rfl
 rw [he]
 refine Calls.spliced_cons ?_
 refine wpAny_Call_Name_kw (GZ I hg2 hm2 boot_reversed ?_)
 refine PyProof.Rows.callWith_type1 ?_ he2 rfl
 rw [he2]
 refine Calls.spliced_cons (thn (ha pins s σ H _ I h) fun u s1 ⟨x,H1,I1,r1,l,ys,ex,hq,q⟩=>?_)
 subst ex
 cases r1
 obtain ⟨its,rv,pl,hz⟩:=I1.list hq
 have hlen:=rv.length
 refine Calls.spliced_nil (call_reversed_list pl.isList ?_)
 refine Calls.spliced_nil ?_
 have I2:Inv X pins σ H1 { s1 with heap:=s1.heap.push (revObj l ((its.toArray.size:Int) - 1)) }:=I1.kept (t':=s1.toks) fun b o e=>Heap.get?_push_of_some _ e
 have hf:Lc X pins H1 s1.heap.objs.size:=I1.Ug (Nat.le_refl _) (I1.hok.fresh (Nat.le_refl _))
 have hlt:l < s1.heap.objs.size:=by obtain ⟨o,n,e,_⟩:=pl;exact Heap.lt_size e
 refine GL (s:={ s1 with heap:=s1.heap.push (revObj l ((its.toArray.size:Int) - 1)) }) (I.ok.hd hc) (Nat.ne_of_lt hlt) ⟨_,Heap.get?_push_size _ rfl,rfl,rfl⟩ (pl.isList.push _) (by rw [List.size_toArray];omega) fun h' tk acc c kp e hacc=>?_
 refine ⟨.ref _,_,I2.PV (n:=c) hf (Nat.le_refl _) kp (by rw [List.length_reverse];exact hz) (Qj rv hacc) (by simpa using e),rfl,q _ (I2.hok.fresh (Nat.le_refl _))⟩
theorem Rn (hc:X.calm=true):DU X (.builtin "sum") (fun xs H Q=>∃ (l:Addr) (ns:List Int),xs=[.ref l]/\SqL X.K H l (ns.map V.int)/\Q (.int ns.sum) H):=by
 intro pins s σ H xs us Q I r h
 obtain ⟨l,ns,rfl,hq,q⟩:=h
 obtain ⟨u,rfl,rx⟩:=vals1 r
 cases rx
 obtain ⟨its,rv,pl,hz⟩:=I.list hq
 have hi:=intsAre_of rv
 obtain ⟨zs,hx⟩:=hi.allInts.items
 have hl':s.heap.IsList l (intItems zs):=hx▸pl.isList
 refine sum_intListG (I.ok.hd hc) hl' fun h' tk t' hk=>?_
 have e1:ns=zs.toList.map (·.1):=by
  rw [<- nums_intItems,<- hx]
  exact (show numsOf its.toArray.toList=ns from hi.numsOf).symm
 have e2:preSum (numAt zs) zs.size=ns.sum:=by
  rw [preSum_eq,List.take_of_length_le (by simp),e1]
 rw [e2]
 exact ⟨.int ns.sum,H,I.kept hk,⟨_,rfl⟩,q⟩
theorem FK:∀ {bs:List Bool} {us:List Value},Vals (bs.map V.bl) us->us=bs.map Value.bool
 | [],_,.nil=>rfl
 | b :: bs,_,.cons r t=>by
  cases (show _=Value.bool b from r)
  rw [List.map_cons,FK t]
theorem Rp (hc:X.calm=true):DU X (.builtin "all") (fun xs H Q=>∃ (l:Addr) (bs:List Bool),xs=[.ref l]/\SqL X.K H l (bs.map V.bl)/\Q (.bl (bs.all id)) H):=by
 intro pins s σ H xs us Q I r h
 obtain ⟨l,bs,rfl,hq,q⟩:=h
 obtain ⟨u,rfl,rx⟩:=vals1 r
 cases rx
 obtain ⟨its,rv,pl,hz⟩:=I.list hq
 have hb:=FK rv
 have hl:=pl.isList
 have hlt:l < s.heap.objs.size:=by obtain ⟨_,e,_⟩:=hl;exact Heap.lt_size e
 refine call_all_walk (wpAny_pyIter_list hl ?_)
 refine ⟨s.heap.objs.size,[s.heap.objs.size,l],[s.heap.objs.size],its.toArray.size,_,_,fun i=>(bs[i]?).getD true,rfl,Walks.list (A:=X.A.in1) (I.ok.hd hc) _ l (Nat.ne_of_lt hlt) its.toArray,
  ⟨⟨_,Heap.get?_push_size _ rfl,rfl,rfl⟩,hl.push _⟩,fun i v s' Q' E' hP hQ=>?_,fun h' tk hk=>?_⟩
 ·have e:its[i]?=some v:=by simpa using hP
  rw [hb,List.getElem?_map] at e
  cases eb:bs[i]? with
  | none=>rw [eb] at e;cases e
  | some b =>
   rw [eb] at e
   have e':Value.bool b=v:=Option.some.inj e
   subst e'
   simp only [eb,Option.getD_some] at hQ
   exact wpAny_truthy_bool hQ
 ·have e:((List.range its.toArray.size).all fun i=>(bs[i]?).getD true)=bs.all id:=by
   have hlen:its.toArray.size=bs.length:=by rw [hb];simp
   rw [hlen]
   rw [Bool.eq_iff_iff,List.all_eq_true,List.all_eq_true]
   constructor
   ·intro hh b hm
    obtain ⟨i,hi,rfl⟩:=List.getElem_of_mem hm
    have:=hh i (List.mem_range.mpr hi)
    simpa [List.getElem?_eq_getElem hi] using this
   ·intro hh i hi
    have hi':=List.mem_range.mp hi
    have:=hh _ (List.getElem_mem hi')
    simpa [List.getElem?_eq_getElem hi'] using this
  rw [e]
  have kp:∀ b o,s.heap.get? b=some o->h'.get? b=some o:=fun b o e=>hk b o (fun hm=>by rw [List.mem_singleton.mp hm] at e;exact Nat.lt_irrefl _ (Heap.lt_size e)) (Heap.get?_push_of_some _ e)
  exact ⟨.bl _,H,I.kept kp,rfl,q⟩
theorem Tb:OpR X (binaryOp .Mult) (rI IntMulOk fun i j=>.int (i * j)):=opI fun _ _ _ _ _ _ _ hc q=>mul_int q hc
theorem Ov:OpR X (binaryOp .Mult) (fun x y H Q=>∃ z n,x=.str z/\y=.int n/\MulOk z n/\Q (.str (Txt.mul z n)) H):=by
 intro pins s σ H x y v u Q I rx ry h
 obtain ⟨z,n,rfl,rfl,hok,q⟩:=h
 obtain ⟨t,rfl⟩:=rx
 obtain ⟨t',rfl⟩:=ry
 exact SB.mul hok fun t' k=>⟨.str _,H,I.tok _,⟨_,rfl⟩,q⟩
theorem Hv:∀ {ys:List Str} {us:List Value},Vals (ys.map V.str) us->StrsAre us ys
 | [],_,.nil=>.nil
 | y :: ys,_,.cons r t=>by
  obtain ⟨tk,rfl⟩:=(show ∃ tk,_=Value.str y tk from r)
  exact .cons _ _ (Hv t)
theorem Js:MtR X "str.join" (fun x xs H Q=>∃ (z:Str) (l:Addr) (ys:List Str),x=.str z/\xs=[.ref l]/\SqL X.K H l (ys.map V.str)/\(ys.map (·.length)).sum+ys.length * z.length<=16777216/\Q (.str (Txt.join z ys)) H):=by
 intro pins s σ H x xs v us Q I rx rv h
 obtain ⟨z,l,ys,rfl,rfl,hq,hok,q⟩:=h
 obtain ⟨t,rfl⟩:=rx
 obtain ⟨u,rfl,ru⟩:=vals1 rv
 cases ru
 obtain ⟨its,r,pl,hz⟩:=I.list hq
 exact join_list pl.isList (Hv r) hok fun t' k=>⟨.str _,H,I.tok _,⟨_,rfl⟩,q⟩
end
def Xf (lo st:Int) (n:Nat):It:=⟨fun i _=>i < n,fun i H x H'=>H'=H/\x=.int (lo+i * st),fun i _=>n<=i⟩
theorem Ld {P:Program} {w:World} {K:Fg} {tg:Expr} (it:Addr) (lo st:Int) (n:Nat):Turn P w K tg (Xf lo st n) [it] it (fun i h=>IsRangeIter h it (lo+(i:Nat) * st) ((n:Int) - (i:Nat)) st) where
 mem:=by simp
 obj:=fun i h st b hb=>by
  have e:b=it:=by simpa using hb
  subst e
  exact ⟨_,st,fun v z=>by
   have z':Data.fields _=Data.cell v:=z
   cases z'⟩
 keep:=fun i h h' st k=>k it (by simp) _ st
 item:=by
  intro X hP hw hK hc i pins s σ H E I hf stt hg
  subst hP hw hK
  obtain ⟨f0,f1,f2,f3,f4,f5⟩:=hf it (by simp)
  have W:=Walks.range (prog:=X.prog) (w:=X.w) (I.ok.hd hc) it lo st n
  refine W.item i s _ _ hg stt fun v h' tk hv st' kk=>?_
  obtain ⟨t,rfl⟩:=hv
  have I1:Inv X pins σ H { s with heap:=h',toks:=tk }:=I.turned (fun b o hb e=>kk b o (by simpa using hb) e) f0 f1 f3 f4 f5
  exact ⟨_,rfl,Q1 (s:={ s with heap:=h',toks:=tk }) (n:="range_iterator") st' rfl rfl (by decide) ⟨.int (lo+i * st),H,I1,⟨t,rfl⟩,⟨rfl,rfl⟩,st',fun b hb=>(hf b hb).1⟩⟩
 done:=by
  intro X hP hw hK hc i pins s σ H E I hf st hg
  subst hP hw hK
  obtain ⟨f0,f1,f2,f3,f4,f5⟩:=hf it (by simp)
  exact wpAny_pyNext_range_end (I.ok.hd hc) st (by have:n<=i:=hg;omega) fun h' eb=>⟨rfl,I.turned (t':=s.toks) (fun b o hb e=>eb b o hb e) f0 f1 f3 f4 f5⟩
 self:=fun _ _ _ _ _ st h=>wpAny_pyIter_rangeiter st h
def V9 (ta:TA):TI:=fun σ H R=>ta σ H fun vs H1=>∃ i j c:Int,vs=[.int i,.int j,.int c]/\0 < c/\c < 1073741824/\Builtin.Range.small i j c=true/\0<=Builtin.Range.rangeSize i j c/\R (Xf i c (Builtin.Range.rangeSize i j c).toNat) H1
section
variable {X:Cx} {tg:Expr}
theorem Ol {a b c:Expr} {ta:TA} {p pos:Pos} (hg:Gl X "range") (hm:X.mg "range"=none) (ha:PA X [a,b,c] ta) (hs:starEach [a,b,c] X.env=[(false,eval a X.env),(false,eval b X.env),(false,eval c X.env)]:=by rfl)
  (hs2:starEach [b,c] X.env=[(false,eval b X.env),(false,eval c X.env)]:=by rfl):PI X tg (.Call (.Name "range" p) [a,b,c] [] pos) (V9 ta):=by
 intro pins s σ H R I h
 refine Call_ (GZ I hg hm boot_range (PyProof.Rows.callWith_type1 (thn (ha pos pins s σ H _ I h) fun us s1 ⟨vs,H1,I1,r1,q1⟩=>?_) (by rw [hs,hs2]) (by rw [hs2];rfl)))
 obtain ⟨i,j,k,e,h0,hk,hsm,hn,q⟩:=q1
 subst e
 cases r1 with
 | cons r rr =>
  cases rr with
  | cons r' rr =>
   cases rr with
   | cons r'' rr =>
    cases rr
    obtain ⟨t,rfl⟩:=r
    obtain ⟨t',rfl⟩:=r'
    obtain ⟨t'',rfl⟩:=r''
    refine call_range_3 (by omega) ?_ (.inl (PyProof.noPylong_small (by omega)))
    refine wpAny_pyIter_range (IsRange.new ..) hsm ?_
    have I2:Inv X pins σ H1 { s1 with heap:=s1.heap.push { cls:=.type "range",data:=.fields #[.int i t,.int j t',.int k t''] },toks:=s1.toks }:=I1.kept fun b o e=>Heap.get?_push_of_some _ e
    refine ⟨(s1.heap.push { cls:=.type "range",data:=.fields #[.int i t,.int j t',.int k t''] }).objs.size,[(s1.heap.push { cls:=.type "range",data:=.fields #[.int i t,.int j t',.int k t''] }).objs.size],_,_,H1,rfl,
     I2.kept (t':=s1.toks) fun b o e=>Heap.get?_push_of_some _ e,Ld _ i k (Builtin.Range.rangeSize i j k).toNat,?_,fun b hb=>?_,q⟩
    ·have e1:i+((0:Nat):Int) * k=i:=by simp
     have e2:(((Builtin.Range.rangeSize i j k).toNat:Nat):Int) - ((0:Nat):Int)=Builtin.Range.rangeSize i j k:=by omega
     show IsRangeIter _ _ (i+((0:Nat):Int) * k) ((((Builtin.Range.rangeSize i j k).toNat:Nat):Int) - ((0:Nat):Int)) k
     rw [e1,e2]
     exact Heap.get?_push_size _ rfl
    ·have e:b=(s1.heap.push { cls:=.type "range",data:=.fields #[.int i t,.int j t',.int k t''] }).objs.size:=by simpa using hb
     subst e
     exact I2.Ug (Nat.le_refl _) (I2.hok.fresh (Nat.le_refl _))
def Its (z:Str):It:=⟨fun i _=>i < z.cps.size,fun i H x H'=>H'=H/\∃ c,z.cps[i]?=some c/\x=.str ⟨#[c]⟩,fun i _=>z.cps.size<=i⟩
theorem Wf {M:Model} {A:Around} {E:Value->Shared->Prop} {s:Shared} {tg:Expr} {it:Value} {x:Str} {t:Tok} {Q:Unit->Shared->Prop} (hQ:Q () s):wpAny M A (letOwnedTupleGo tg it (.str x t)) Q E s:=by
 unfold letOwnedTupleGo
 cases tg <;> first
  | exact wpAny_pure hQ
  | (cases it <;> exact wpAny_pure hQ)
theorem Ql {P:Program} {w:World} {K:Fg} {tg:Expr} (it:Addr) (ty:String) (z:Str) (t:Tok) (hty:ty="str_ascii_iterator"∨ty="str_iterator"):Turn P w K tg (Its z) [it] it (fun i h=>h.IsStrIter it ty z t i) where
 mem:=by simp
 obj:=fun i h st b hb=>by
  have e:b=it:=by simpa using hb
  subst e
  obtain ⟨o,e,c,d⟩:=st
  exact ⟨o,e,fun v z=>by rw [d] at z;cases z⟩
 keep:=fun i h h' st k=>by
  obtain ⟨o,e,c,d⟩:=st
  exact ⟨o,k it (by simp) o e,c,d⟩
 item:=by
  intro X hP hw hK hc i pins s σ H E I hf st hg
  subst hP hw hK
  obtain ⟨f0,f1,f2,f3,f4,f5⟩:=hf it (by simp)
  have fin:∀ (v:Value) (h':Heap) (tk:Nat),SignAt z i v->h'.IsStrIter it ty z t (i+1)->(∀ b o,b∉[it]->s.heap.get? b=some o->h'.get? b=some o) ->
    ∃ u,some v=some u/\wpAny (model X.prog X.w) X.A (letOwnedTupleGo tg (.ref it) u) (fun _ s2=>∃ x H',Inv X pins σ H' s2/\RelV x u/\(Its z).yld i H x H'/\s2.heap.IsStrIter it ty z t (i+1)/\∀ b∈[it],H' b=none) E { s with heap:=h',toks:=tk }:=fun v h' tk hv st' kk=>by
   obtain ⟨c,u,hcs,rfl⟩:=hv
   have I1:Inv X pins σ H { s with heap:=h',toks:=tk }:=I.turned (fun b o hb e=>kk b o (by simpa using hb) e) f0 f1 f3 f4 f5
   exact ⟨_,rfl,Wf ⟨.str ⟨#[c]⟩,H,I1,⟨u,rfl⟩,⟨rfl,c,hcs,rfl⟩,st',fun b hb=>(hf b hb).1⟩⟩
  rcases hty with rfl | rfl
  ·exact (Walks.strAscii (prog:=X.prog) (w:=X.w) (I.ok.hd hc) it z t).item i s _ _ hg st fin
  ·exact (Walks.strWide (prog:=X.prog) (w:=X.w) (I.ok.hd hc) it z t).item i s _ _ hg st fin
 done:=by
  intro X hP hw hK hc i pins s σ H E I hf st hg
  subst hP hw hK
  obtain ⟨f0,f1,f2,f3,f4,f5⟩:=hf it (by simp)
  have hz:z.cps[i]?=none:=Array.getElem?_eq_none hg
  rcases hty with rfl | rfl
  ·exact wpAny_pyNext_ascii_end (I.ok.hd hc) st hz fun h' he'=>⟨rfl,I.turned (t':=s.toks) (fun b o hb e=>he' b o hb e) f0 f1 f3 f4 f5⟩
  ·exact wpAny_pyNext_wide_end (I.ok.hd hc) st hz fun h' he'=>⟨rfl,I.turned (t':=s.toks) (fun b o hb e=>he' b o hb e) f0 f1 f3 f4 f5⟩
 self:=fun _ _ _ _ _ st h=>by
  rcases hty with rfl | rfl
  ·exact wpAny_pyIter_striter_ascii st h
  ·exact wpAny_pyIter_striter_wide st h
end
section
variable {K:Fg} {a:Addr} {xs:List V} {g:TG} {te:TE} {Q:VK} {τ0:St} {H1:Hp}
end
section
variable {X:Cx} (K:Fg)
end
theorem EN {X:Cx}:MtM X "list.pop" (fun x vs H Q=>∃ l e z,x=.ref l/\vs=[]/\H l=some (.lst (e++[z]))/\Q z (upd H l (.lst e))):=by
 intro pins s σ H x vs v us Q I rx rv h
 obtain ⟨l,e,z,rfl,rfl,hH,q⟩:=h
 refine VM pins s σ H _ _ v us Q I rx rv ⟨l,e++[z],z,rfl,rfl,hH,by simp,?_⟩
 rw [List.dropLast_concat]
 exact q
structure FnAt (P:Program) (w:World) (K:Fg) (mg:Str->Option Value) (base:Heap) (CX:CXT) (x:Str) (k:Nat) (ps:List Str) (sp:Sp):Prop where
 ex:∃ f fd,Dv P w K mg base CX k f fd ps sp/\mg x=some (.ref f)/\PySem.W.keepIn K (.ref f)=true/\Binds K fd ps []
section
variable {X:Cx} {CX:CXT} {k:Nat} {ps:List Str} {sp:Sp} {E:XK} {x:Str} {p pos:Pos} {e:Expr} {es:List Expr} {t:TA}
theorem XJ (G:FnAt X.prog X.w X.K X.mg X.base CX x k ps sp) (hr:EE k X.A) (hx:Passes CX X E) (ha:PA X (e :: es) t) (hg:Gl X x:=by rfl) (hdb:(x == ("__debug__":Str))=false:=by decide)
  (he:starEach (e :: es) X.env=(false,eval e X.env) :: starEach es X.env:=by rfl) (hpl:(backTo pos (starEach es X.env)).any (·.1)=false:=by rfl):PE X (.Call (.Name x p) (e :: es) [] pos) (U2 sp [] E t):=by
 obtain ⟨f,fd,F,hm,hk,hb⟩:=G.ex
 exact S7 F hr hg hm hk hb .nil hx ha hdb he hpl
end
section
variable {X:Cx} {x:Str} {pos:Pos}
theorem XH {i:Int} (h:∃ t,X.mg x=some (.int i t)) (hg:Gl X x:=by rfl) (hd:(x == ("__debug__":Str))=false:=by decide):PE X (.Name x pos) (tC (.int i)):=by
 obtain ⟨t,h⟩:=h
 exact HD hg h ⟨t,rfl⟩ hd
theorem XG {z:Str} (h:∃ t,X.mg x=some (.str z t)) (hg:Gl X x:=by rfl) (hd:(x == ("__debug__":Str))=false:=by decide):PE X (.Name x pos) (tC (.str z)):=by
 obtain ⟨t,h⟩:=h
 exact HD hg h ⟨t,rfl⟩ hd
theorem OR {k:Key} {v:Value} (h:Jy k v=true):RelV (kV k) v:=by
 rcases BH h with ⟨i,t,rfl,rfl⟩ | ⟨x,t,rfl,rfl⟩
 ·exact ⟨t,rfl⟩
 ·exact ⟨t,rfl⟩
theorem NP {kvs:List (Key×V)} {vs:List (Key×Value)} {acc:Array Value} (r:KV kvs vs) (h:ItemsOf (fun i v=>∃ k x,vs[i]?=some (k,x)/\Jy k v=true) acc vs.length):Vals (kvs.map fun kv=>kV kv.1) acc.toList:=by
 obtain ⟨h1,h2⟩:=h
 have key:∀ (kvs:List (Key×V)) (vs:List (Key×Value)) (l:List Value),KV kvs vs->l.length=vs.length->(∀ (j:Nat) (v:Value),l[j]?=some v->∃ k x,vs[j]?=some (k,x)/\Jy k v=true)->Vals (kvs.map fun kv=>kV kv.1) l:=by
  intro kvs
  induction kvs with
  | nil =>
   intro vs l r hl _
   cases r
   have:l=[]:=List.eq_nil_of_length_eq_zero (by simpa using hl)
   subst this
   exact .nil
  | cons p kvs ih =>
   intro vs l r hl hh
   cases r with
   | @cons _ q _ vr e t =>
    cases l with
    | nil=>simp at hl
    | cons v l =>
     obtain ⟨k,x,e1,e2⟩:=hh 0 v rfl
     have e1':q=(k,x):=Option.some.inj e1
     refine .cons ?_ (ih vr l t (by simpa using hl) fun j w hw=>?_)
     ·have:p.1=k:=by rw [e.1,e1']
      show RelV (kV p.1) v
      rw [this]
      exact OR e2
     ·exact hh (j+1) w hw
 exact key kvs vs acc.toList r (by rw [Array.length_toList];exact h1) fun j v e=>h2 j v (by rw [<- Array.getElem?_toList];exact e)
end
structure Sv (P:Program) (w:World) (K:Fg) (mg:Str->Option Value) (base:Heap) (CX:CXT) (C:Addr) (m:Str) (k:Nat) (ps:List Str) (sp:Sp):Prop where
 cl:Cls K C
 ex:∃ f fd,Dv P w K mg base CX k f fd ps sp/\Meth K C m f/\Binds K fd ps []
structure Xe (P:Program) (w:World) (K:Fg) (mg:Str->Option Value) (base:Heap) (CX:CXT) (x:Str) (C:Addr) (k:Nat) (ps:List Str) (sp:Sp):Prop where
 at_:mg x=some (.ref C)
 ex:∃ f fd,Dv P w K mg base CX k f fd ps sp/\Mk K C f/\Binds K fd ps []
section
variable {X:Cx} {CX:CXT} {k:Nat} {C:Addr} {ps:List Str} {sp:Sp} {E:XK} {x m:Str} {p pos apos:Pos} {e o:Expr} {es:List Expr} {ta:TE} {t:TA}
theorem XB {pl:Sem Bool} (G:Sv X.prog X.w X.K X.mg X.base CX C m k ps sp) (hr:EE k X.A) (hx:Passes CX X E) (he:PE X o ta) (ha:PA X (e :: es) t)
  (hst:starEach (e :: es) X.env=(false,eval e X.env) :: starEach es X.env:=by rfl) (hpl:(backTo pos (starEach es X.env)).any (·.1)=false:=by rfl)
  (ht:eval (.Call (.Attribute o m apos) (e :: es) [] pos) X.env=(do
   let ov <- eval o X.env
   standAt apos.atName
   let (f,first) <- holding [ov] (getMethod ov m pl)
   callWith pos f first (backTo pos (starEach (e :: es) X.env)) (backToKw pos (keywordEach [] X.env))):=by rfl) :
  PE X (.Call (.Attribute o m apos) (e :: es) [] pos) (NU C m sp [] E ta t):=by
 obtain ⟨f,fd,F,hm,hb⟩:=G.ex
 exact S3 he G.cl hm F hr hb .nil hx ha hst hpl ht
theorem Vt {pl:Sem Bool} (G:Sv X.prog X.w X.K X.mg X.base CX C m k ps sp) (hr:EE k X.A) (hx:Passes CX X E) (he:PE X o ta)
  (ht:eval (.Call (.Attribute o m apos) [] [] pos) X.env=(do
   let ov <- eval o X.env
   standAt apos.atName
   let (f,first) <- holding [ov] (getMethod ov m pl)
   callWith pos f first (backTo pos (starEach [] X.env)) (backToKw pos (keywordEach [] X.env))):=by rfl) :
  PE X (.Call (.Attribute o m apos) [] [] pos) (NU C m sp [] E ta WZ):=by
 obtain ⟨f,fd,F,hm,hb⟩:=G.ex
 exact QI he G.cl hm F hr hb .nil hx ht
theorem XC (G:Xe X.prog X.w X.K X.mg X.base CX x C k ps sp) (hr:EE (k+1) X.A) (hx:Passes CX X E) (ha:PA X (e :: es) t) (hg:Gl X x:=by rfl) (hdb:(x == ("__debug__":Str))=false:=by decide)
  (he:starEach (e :: es) X.env=(false,eval e X.env) :: starEach es X.env:=by rfl) (hpl:(backTo pos (starEach es X.env)).any (·.1)=false:=by rfl):PE X (.Call (.Name x p) (e :: es) [] pos) (U0 C sp [] E t):=by
 obtain ⟨f,fd,F,M,hb⟩:=G.ex
 exact S4 M F hr hg G.at_ hb .nil hx ha hdb he hpl
end
def orR (r r':R2):R2:=fun x y H Q=>r x y H Q∨r' x y H Q
section
variable {X:Cx}
theorem OpR.orR {f:Value->Value->Sem Value} {r r':R2} (h:OpR X f r) (h':OpR X f r'):OpR X f (orR r r'):=fun pins s σ H x y v u Q I rx ry q=>q.elim (h pins s σ H x y v u Q I rx ry) (h' pins s σ H x y v u Q I rx ry)
theorem IxR.orR {r r':R2} (h:IxR X r) (h':IxR X r'):IxR X (L2.orR r r'):=fun value slice pins s σ H x y v u Q I rx ry q e=>q.elim (fun q=>h value slice pins s σ H x y v u Q I rx ry q e) (fun q=>h' value slice pins s σ H x y v u Q I rx ry q e)
def Vd:R2:=fun x y H Q=>∃ a v,x=.ref a/\NI H a y (some v)/\Q v H
def Xv (neg:Bool):R2:=fun y x H Q=>∃ a o,x=.ref a/\NI H a y o/\Q (.bl (if neg then !o.isSome else o.isSome)) H
theorem RW (hu:X.A.units+1 < cLine):OpR X (compareOp .In) (Xv false):=by
 intro pins s σ H y x v u Q I ry rx h
 obtain ⟨a,o,rfl,g,q⟩:=h
 obtain rfl:u=Value.ref a:=rx
 exact Zd hu I g ry fun s3 I3=>⟨.bl o.isSome,H,I3,rfl,q⟩
theorem Ow (hu:X.A.units+1 < cLine):OpR X (compareOp .NotIn) (Xv true):=by
 intro pins s σ H y x v u Q I ry rx h
 obtain ⟨a,o,rfl,g,q⟩:=h
 obtain rfl:u=Value.ref a:=rx
 exact Uq hu I g ry fun s3 I3=>⟨.bl (!o.isSome),H,I3,rfl,q⟩
theorem TQ (hu:X.A.units+1 < cLine):IxR X Vd:=by
 intro value slice pins s σ H x y v u Q I rx ry h hs
 obtain ⟨a,w,rfl,g,q⟩:=h
 obtain rfl:v=Value.ref a:=rx
 have hT:=LI I g
 have h₂:wpAny (model X.prog X.w) X.A (getItem (.ref a) u) (EP X pins σ Q) X.xe s:=PR hu I g ry fun w' s3 I3 rw'=>⟨w,H,I3,rw',q⟩
 unfold subscriptTail
 refine wpAny_bind ?_
 rw [getitemInPython_of_ne hT.not_modules]
 refine wpAny_bind (wpAny_specialOf hT PySem.F.slot_dict_getitem.lookup ?_)
 have fin:wpAny (model X.prog X.w) X.A (subscripted slice false (.ref a) u) (fun r s₃=>wpAny (model X.prog X.w) X.A (letTemporaryGo value (.ref a) r >>= fun _=>pure r) (EP X pins σ Q) X.xe s₃) X.xe s:=by
  rw [hs]
  exact wpAny_operating (wpAny_mono h₂ (fun r s₃ h₃=>wpAny_bind (wpAny_letTemporaryGo (wpAny_pure h₃))) fun _ _ x=>x)
 first
  | exact wpAny_pure (wpAny_bind fin)
  | exact wpAny_bind (wpAny_pure (wpAny_bind fin))
  | exact wpAny_bind fin
def S9 (r r':Ss):Ss:=fun o i v H Q=>r o i v H Q∨r' o i v H Q
theorem Rx.orR {r r':Ss} (h:Rx X r) (h':Rx X r'):Rx X (S9 r r'):=fun pins s σ H o i v ov iv u Q I r1 r2 r3 q=>q.elim (h pins s σ H o i v ov iv u Q I r1 r2 r3) (h' pins s σ H o i v ov iv u Q I r1 r2 r3)
def Qz:Ss:=fun o i v H Q=>∃ a H4,o=.ref a/\Qg H a i v H4/\Q H4
theorem set_dict (hu:X.A.units+1 < cLine):Rx X Qz:=by
 intro pins s σ H o i v ov iv u Q I ro ri rv h
 obtain ⟨a,H4,rfl,g,q⟩:=h
 obtain rfl:ov=Value.ref a:=ro
 exact KN hu I g ri rv fun s4 I4=>⟨H4,I4,q⟩
def RV (r r':List V->Hp->VK->Prop):List V->Hp->VK->Prop:=fun vs H Q=>r vs H Q∨r' vs H Q
theorem DU.orR {f:Value} {r r':List V->Hp->VK->Prop} (h:DU X f r) (h':DU X f r'):DU X f (RV r r'):=fun pins s σ H xs us Q I rx q=>q.elim (h pins s σ H xs us Q I rx) (h' pins s σ H xs us Q I rx)
def W4 (r r':V->List V->Hp->VK->Prop):V->List V->Hp->VK->Prop:=fun x vs H Q=>r x vs H Q∨r' x vs H Q
theorem MtR.orR {id:String} {r r':V->List V->Hp->VK->Prop} (h:MtR X id r) (h':MtR X id r'):MtR X id (W4 r r'):=fun pins s σ H x xs v us Q I rx rs q=>q.elim (h pins s σ H x xs v us Q I rx rs) (h' pins s σ H x xs v us Q I rx rs)
def Y9 (K:Fg) (tl:TE):TI:=fun σ H R=>tl σ H fun x H1=>(∃ a,x=.ref a/\(∃ xs,SqL K H1 a xs)/\R (Itl K a) H1)∨(∃ a,x=.ref a/\(∃ xs,SqT K H1 a xs)/\R (Itt K a) H1)∨(∃ z,x=.str z/\R (Its z) H1)
variable {tg:Expr}
theorem Vn {l:Expr} {tl:TE} (hl:PE X l tl):PI X tg l (Y9 X.K tl):=by
 intro pins s σ H R I h
 have key:∀ (x:V) (H1:Hp) (v:Value) (s1:Shared),Inv X pins σ H1 s1->RelV x v->((∃ a,x=.ref a/\(∃ xs,SqL X.K H1 a xs)/\R (Itl X.K a) H1)∨(∃ a,x=.ref a/\(∃ xs,SqT X.K H1 a xs)/\R (Itt X.K a) H1)∨(∃ z,x=.str z/\R (Its z) H1)) ->
   wpAny (model X.prog X.w) X.A (pyIter v) (PIE X pins σ tg R) X.xe s1:=by
  intro x H1 v s1 I1 r1 q1
  rcases q1 with ⟨a,e,⟨xs,hq⟩,q⟩ | ⟨a,e,⟨xs,hq⟩,q⟩ | ⟨z,e,q⟩
  ·subst e
   cases r1
   obtain ⟨its,rv,p,hz⟩:=I1.list hq
   refine wpAny_pyIter_list p.isList ?_
   refine ⟨s1.heap.objs.size,[s1.heap.objs.size],_,_,H1,rfl,I1.kept (t':=s1.toks) fun b o e=>Heap.get?_push_of_some _ e,NS a _,⟨_,Heap.get?_push_size _ rfl,rfl,rfl⟩,fun b hb=>?_,q⟩
   have e:b=s1.heap.objs.size:=by simpa using hb
   subst e
   exact I1.Ug (Nat.le_refl _) (I1.hok.fresh (Nat.le_refl _))
  ·subst e
   cases r1
   obtain ⟨its,rv,p,hz⟩:=I1.tuple hq
   refine wpAny_pyIter_tuple (show s1.heap.IsTuple a its.toArray from p) ?_
   refine ⟨s1.heap.objs.size,[s1.heap.objs.size],_,_,H1,rfl,I1.kept (t':=s1.toks) fun b o e=>Heap.get?_push_of_some _ e,MS a _,⟨_,Heap.get?_push_size _ rfl,rfl,rfl⟩,fun b hb=>?_,q⟩
   have e:b=s1.heap.objs.size:=by simpa using hb
   subst e
   exact I1.Ug (Nat.le_refl _) (I1.hok.fresh (Nat.le_refl _))
  ·subst e
   obtain ⟨t,rfl⟩:=r1
   have go:∀ (ty:String),(ty="str_ascii_iterator"∨ty="str_iterator")->PIE X pins σ tg R (.ref s1.heap.objs.size) { s1 with heap:=s1.heap.push { cls:=.type ty,data:=.fields #[.str z t,.int 0 0] } }:=fun ty hty=>by
    refine ⟨s1.heap.objs.size,[s1.heap.objs.size],_,_,H1,rfl,I1.kept (t':=s1.toks) fun b o e=>Heap.get?_push_of_some _ e,Ql _ ty z t hty,⟨_,Heap.get?_push_size _ rfl,rfl,rfl⟩,fun b hb=>?_,q⟩
    have e:b=s1.heap.objs.size:=by simpa using hb
    subst e
    exact I1.Ug (Nat.le_refl _) (I1.hok.fresh (Nat.le_refl _))
   cases ha:z.cps.all (· < 128)
   ·exact wpAny_pyIter_wide ha (go _ (.inr rfl))
   ·exact wpAny_pyIter_ascii ha (go _ (.inl rfl))
 exact thn (hl pins s σ H _ I h) fun v s1 ⟨x,H1,I1,r1,q1⟩=>key x H1 v s1 I1 r1 q1
end
end L2
namespace PySem
namespace Zp
section
variable {prog:Program} {w:World} {A:Around} {E:Value->Shared->Prop} {s:Shared}
theorem Qm {it t:Addr} {i:Nat} {items:Array Value} {x:Value} {Q:Value->Shared->Prop} (hit:s.heap.IsTupleIter it t i) (ht:s.heap.IsTuple t items) (hx:items[i]?=some x)
  (hQ:∀ h',h'.IsTupleIter it t (i+1)->Heap.SameBut it s.heap h'->Q x { s with heap:=h' }):wpAny (model prog w) A (Builtin.SmallTypes.nextOf (.ref it)) Q E s:=by
 obtain ⟨o,ho,hc,hd⟩:=id hit;obtain ⟨ol,hol,_,nl,hdl⟩:=ht
 unfold Builtin.SmallTypes.nextOf
 refine wpAny_bind (wpAny_callSpecial?_slot (name:=Str.ofString "__next__") hit.typeIs F.slot_tuple_iterator_next (wpAny_call_entry F.slot_tuple_iterator_next hit.typeIs F.entry_tuple_iterator_next ?_ (F.args_tuple_iterator_next_1 _)))
 show wpAny _ _ (field (.ref it) 0 >>= _) _ _ s;refine wpAny_bind (wpAny_field ho hd (x:=.ref t) rfl ?_)
 show wpAny _ _ (if (Value.ref t == Value.none)=true then _ else _) _ _ s;rw [if_neg (show ¬ ((Value.ref t == Value.none)=true) from Bool.false_ne_true)]
 show wpAny _ _ (field (.ref it) 1 >>= _) _ _ s;refine wpAny_bind (wpAny_field ho hd (x:=.int i 0) rfl ?_)
 show wpAny _ _ (seqItems? (.ref t) >>= _) _ _ s;refine wpAny_bind (wpAny_seqItems hol hdl ?_);simp only [Int.toNat_natCast,hx]
 refine wpAny_bind (wpAny_setField ho hd (by simp) (wpAny_pure ⟨x,rfl,wpAny_pure (hQ _ ?_ (Heap.SameBut.update ..))⟩));exact ⟨_,Heap.get?_update_self _ ho (Obj.isFreed_of_fields (Obj.data_mapFields hd _)),(Obj.cls_mapFields ..).trans hc,by rw [Obj.data_mapFields hd];simp [rawInt]⟩
theorem SD {it t:Addr} {i:Nat} {items:Array Value} {Q:Value->Shared->Prop} (hh:A.handled=none) (hit:s.heap.IsTupleIter it t i) (ht:s.heap.IsTuple t items) (hx:items[i]?=none)
  (hE:∀ h' e,Heap.ExtBut it s.heap h'->(∃ o,h'.get? e=some o/\o.cls=.type "StopIteration")->E (.ref e) { s with heap:=h' }):wpAny (model prog w) A (Builtin.SmallTypes.nextOf (.ref it)) Q E s:=by
 obtain ⟨o,ho,hc,hd⟩:=id hit;obtain ⟨ol,hol,_,nl,hdl⟩:=ht
 unfold Builtin.SmallTypes.nextOf
 refine wpAny_bind (wpAny_callSpecial?_slot (name:=Str.ofString "__next__") hit.typeIs F.slot_tuple_iterator_next (wpAny_call_entry F.slot_tuple_iterator_next hit.typeIs F.entry_tuple_iterator_next ?_ (F.args_tuple_iterator_next_1 _)))
 show wpAny _ _ (field (.ref it) 0 >>= _) _ _ s;refine wpAny_bind (wpAny_field ho hd (x:=.ref t) rfl ?_)
 show wpAny _ _ (if (Value.ref t == Value.none)=true then _ else _) _ _ s;rw [if_neg (show ¬ ((Value.ref t == Value.none)=true) from Bool.false_ne_true)]
 show wpAny _ _ (field (.ref it) 1 >>= _) _ _ s;refine wpAny_bind (wpAny_field ho hd (x:=.int i 0) rfl ?_)
 show wpAny _ _ (seqItems? (.ref t) >>= _) _ _ s;refine wpAny_bind (wpAny_seqItems hol hdl ?_);simp only [Int.toNat_natCast,hx]
 refine wpAny_bind (wpAny_rule (wpAny_bind (wpAny_setField ho hd (by simp) ?_)));show wpAny _ _ (newExc (.type "StopIteration") [] >>= _) _ _ _
 refine wpAny_bind ?_;simp only [newExc,newTuple];refine wpAny_bind (wpAny_newObj_type ?_ (by size_fits))
 refine wpAny_bind (m:=firstArgMember _ _) (wpAny_of_eq (a:=Value.none) (by first | rfl | (simp only [firstArgMember];rfl)) ?_);refine wpAny_newObj_type ?_ (by size_fits)
 simp only [raiseNew];refine wpAny_bind (wpAny_handled ?_);first | rw [show A.in1.handled=none from hh] | rw [hh]
 refine wpAny_bind (wpAny_pure (wpAny_throw ?_));exact hE _ _ (((Heap.SameBut.update ..).extBut.push _).push _) ⟨_,Heap.get?_push_size _ rfl,rfl⟩
end
structure Draws (prog:Program) (w:World) (it src:Addr) (xs:Array Value) (S:Nat->Heap->Prop):Prop where
 ne:src≠it
 obj:∀ k h,S k h->∃ o,h.get? it=some o/\∀ v,o.data≠.cell v
 sob:∀ k h,S k h->∃ o,h.get? src=some o/\(o.cls=.type "list"∨o.cls=.type "tuple")
 keep:∀ k (h h':Heap),S k h->(∀ o,h.get? it=some o->h'.get? it=some o)->(∀ o,h.get? src=some o->h'.get? src=some o)->S k h'
 item:∀ (A:Around) (s:Shared) (k:Nat) (x:Value) (Q:Value->Shared->Prop) (E:Value->Shared->Prop),S k s.heap->xs[k]?=some x->(∀ h',S (k+1) h'->Heap.SameBut it s.heap h'->Q x { s with heap:=h' }) ->
  wpAny (model prog w) A (Builtin.SmallTypes.nextOf (.ref it)) Q E s
 stop:∀ (A:Around) (s:Shared) (k:Nat) (Q:Value->Shared->Prop) (E:Value->Shared->Prop),A.handled=none->S k s.heap->xs[k]?=none ->
  (∀ h' e,Heap.ExtBut it s.heap h'->(∃ o,h'.get? e=some o/\o.cls=.type "StopIteration")->E (.ref e) { s with heap:=h' })->wpAny (model prog w) A (Builtin.SmallTypes.nextOf (.ref it)) Q E s
theorem Draws.tup {prog:Program} {w:World} {it t:Addr} {xs:Array Value} (hne:t≠it):Draws prog w it t xs (fun k h=>h.IsTupleIter it t k/\h.IsTuple t xs) where
 ne:=hne
 obj:=fun k h st=>by
  obtain ⟨⟨o,e,c,d⟩,_⟩:=st
  exact ⟨o,e,fun v z=>by rw [d] at z;cases z⟩
 sob:=fun k h st=>by
  obtain ⟨_,o,e,c,_⟩:=st
  exact ⟨o,e,.inr c⟩
 keep:=fun k h h' st k1 k2=>⟨st.1.at k1,st.2.at k2⟩
 item:=fun A s k x Q E st hx hQ=>Qm st.1 st.2 hx fun h' a b=>hQ h' ⟨a,st.2.at fun o e=>(b.2 t hne).trans e⟩ b
 stop:=fun A s k Q E hh st hx hE=>SD hh st.1 st.2 hx hE
theorem Draws.lst {prog:Program} {w:World} {it t:Addr} {xs:Array Value} (hne:t≠it):Draws prog w it t xs (fun k h=>h.IsListIter it t k/\h.IsList t xs) where
 ne:=hne
 obj:=fun k h st=>by
  obtain ⟨⟨o,e,c,d⟩,_⟩:=st
  exact ⟨o,e,fun v z=>by rw [d] at z;cases z⟩
 sob:=fun k h st=>by
  obtain ⟨_,o,e,c,_⟩:=st
  exact ⟨o,e,.inl c⟩
 keep:=fun k h h' st k1 k2=>⟨st.1.at k1,st.2.at k2⟩
 item:=fun A s k x Q E st hx hQ=>wpAny_nextOf_list_item st.1 st.2 hx fun h' a b=>hQ h' ⟨a,st.2.at fun o e=>(b.2 t hne).trans e⟩ b
 stop:=fun A s k Q E hh st hx hE=>wpAny_nextOf_list_end hh st.1 st.2 hx hE
structure Apart (z TI TO i1 i2 l1 l2:Addr):Prop where
 zs:TI≠z/\TO≠z/\i1≠z/\i2≠z/\l1≠z/\l2≠z
 ts:TI≠TO/\TI≠i1/\TI≠i2/\TO≠i1/\TO≠i2/\i1≠i2
 ls:l1≠TO/\l1≠i1/\l1≠i2/\l2≠TO/\l2≠i1/\l2≠i2
section
variable {prog:Program} {w:World} {A:Around} {E:Value->Shared->Prop} {s:Shared} {z TI TO i1 i2 l1 l2:Addr} {xs ys:Array Value} {S1 S2:Nat->Heap->Prop}
theorem QQ (D:Apart z TI TO i1 i2 l1 l2) (W1:Draws prog w i1 l1 xs S1) (W2:Draws prog w i2 l2 ys S2) {k:Nat} {x y a b:Value} {Q:Value->Shared->Prop}
  (hz:IsZip s.heap z TI TO .none) (hTI:IsPair s.heap TI (.ref i1) (.ref i2)) (hTO:IsPair s.heap TO a b) (h1:S1 k s.heap) (h2:S2 k s.heap) (hx:xs[k]?=some x) (hy:ys[k]?=some y)
  (hQ:∀ h',IsZip h' z TI TO (rawInt s.heap.objs.size)->IsPair h' TO x y->S1 (k+1) h'->S2 (k+1) h'->IsPair h' s.heap.objs.size x y->h'.objs.size=s.heap.objs.size+1 ->
   (∀ c o,c≠z->c≠TO->c≠i1->c≠i2->s.heap.get? c=some o->h'.get? c=some o)->Q (.ref s.heap.objs.size) { s with heap:=h' }) :
  wpAny (model prog w) A (Builtin.«zip.__next__» ⟨[.ref z],[]⟩) (fun fin s'=>∃ v,fin=.done (.ret v)/\Q v s') E s:=by
 obtain ⟨⟨TIz,TOz,i1z,i2z,l1z,l2z⟩,⟨TITO,TIi1,TIi2,TOi1,TOi2,i12⟩,⟨l1TO,l1i1,l1i2,l2TO,l2i1,l2i2⟩⟩:=D
 show wpAny _ _ (field (.ref z) 2 >>= _) _ _ _;refine wpAny_bind (wpAny_field hz rfl (x:=.bool false) rfl ?_)
 show wpAny _ _ (field (.ref z) 3 >>= _) _ _ _;refine wpAny_bind (wpAny_field hz rfl (x:=.ref TI) rfl ?_);refine wpAny_bind (wpAny_seqItems hTI rfl ?_)
 show wpAny _ _ (Builtin.SmallTypes.ownedTupleIsFree (.ref z) >>= _) _ _ _;refine wpAny_bind ?_;unfold Builtin.SmallTypes.ownedTupleIsFree
 refine wpAny_bind (wpAny_field hz rfl (x:=.none) rfl (wpAny_pure ?_));simp only [if_true]
 refine wpAny_bind (wpAny_rule ?_);refine wpAny_bind (wpAny_field hz rfl (x:=.ref TO) rfl ?_)
 refine wpAny_bind (wpAny_setField_rec hz (by simp) fun ha hza hsa=>?_);replace hza:IsZip ha z TI TO .ellipsis:=hza
 refine wpAny_bind ?_;simp only [List.zipIdx_cons,List.zipIdx_nil,List.forIn_cons,List.forIn_nil]
 refine wpAny_bind (wpAny_bind (wpAny_onRaise ?_));show wpAny _ _ (Builtin.SmallTypes.nextOf (.ref i1) >>= _) _ _ _
 have h1a:S1 k ha:=W1.keep _ _ _ h1 (fun o e=>hsa.extBut _ _ i1z e) fun o e=>hsa.extBut _ _ l1z e
 refine wpAny_bind (W1.item _ _ k x _ _ h1a hx fun hb h1b hsb=>wpAny_pure ?_)
 have hTOb:IsPair hb TO a b:=hsb.extBut _ _ TOi1 (hsa.extBut _ _ TOz hTO)
 refine wpAny_bind (wpAny_seqItems hTOb rfl ?_);refine wpAny_bind (wpAny_updateSeq_pair hTOb fun hc hTOc hsc=>?_);replace hTOc:IsPair hc TO x b:=hTOc
 refine wpAny_bind (wpAny_letGo (wpAny_pure ?_));refine wpAny_bind (wpAny_bind (wpAny_onRaise ?_));show wpAny _ _ (Builtin.SmallTypes.nextOf (.ref i2) >>= _) _ _ _
 have h2c:S2 k hc:=W2.keep _ _ _ h2 (fun o e=>hsc.extBut _ _ (Ne.symm TOi2) (hsb.extBut _ _ (Ne.symm i12) (hsa.extBut _ _ i2z e))) fun o e=>hsc.extBut _ _ l2TO (hsb.extBut _ _ l2i1 (hsa.extBut _ _ l2z e))
 refine wpAny_bind (W2.item _ _ k y _ _ h2c hy fun hd h2d hsd=>wpAny_pure ?_)
 have hTOd:IsPair hd TO x b:=hsd.extBut _ _ TOi2 hTOc
 refine wpAny_bind (wpAny_seqItems hTOd rfl ?_);refine wpAny_bind (wpAny_updateSeq_pair hTOd fun he hTOe hse=>?_);replace hTOe:IsPair he TO x y:=hTOe
 refine wpAny_bind (wpAny_letGo (wpAny_pure (wpAny_pure ?_)));refine wpAny_bind (wpAny_seqItems hTOe rfl ?_);refine wpAny_bind (wpAny_newTuple ?_)
 have hsz:he.objs.size=s.heap.objs.size:=by rw [hse.1,hsd.1,hsc.1,hsb.1,hsa.1]
 have hze:IsZip he z TI TO .ellipsis:=hse.extBut _ _ (Ne.symm TOz) (hsd.extBut _ _ (Ne.symm i2z) (hsc.extBut _ _ (Ne.symm TOz) (hsb.extBut _ _ (Ne.symm i1z) hza)))
 have hke:∀ c o,c≠z->c≠TO->c≠i1->c≠i2->s.heap.get? c=some o->he.get? c=some o:=fun c o c1 c2 c3 c4 e=>hse.extBut _ _ c2 (hsd.extBut _ _ c4 (hsc.extBut _ _ c2 (hsb.extBut _ _ c3 (hsa.extBut _ _ c1 e))))
 have h1e:S1 (k+1) he:=W1.keep _ _ _ h1b (fun o e=>hse.extBut _ _ (Ne.symm TOi1) (hsd.extBut _ _ i12 (hsc.extBut _ _ (Ne.symm TOi1) e))) fun o e=>hse.extBut _ _ l1TO (hsd.extBut _ _ l1i2 (hsc.extBut _ _ l1TO e))
 have h2e:S2 (k+1) he:=W2.keep _ _ _ h2d (fun o e=>hse.extBut _ _ (Ne.symm TOi2) e) fun o e=>hse.extBut _ _ l2TO e
 have ltz:z < he.objs.size:=Heap.lt_size hze
 show wpAny _ _ (Builtin.SmallTypes.ownedTupleHandOut (.ref z) (.ref he.objs.size) >>= _) _ _ _;refine wpAny_bind ?_;unfold Builtin.SmallTypes.ownedTupleHandOut
 have hzf:IsZip (he.push { cls:=.type "tuple",data:=.seq #[x,y] }) z TI TO .ellipsis:=Heap.get?_push_of_some _ hze
 refine wpAny_bind (wpAny_setField_rec hzf (by simp) fun hg hzg hsg=>?_);replace hzg:IsZip hg z TI TO (rawInt he.objs.size):=hzg
 refine wpAny_setField_rec hzg (by simp) fun hi hzi hsi=>?_;replace hzi:IsZip hi z TI TO (rawInt he.objs.size):=hzi
 have up:∀ c o,c≠z->he.get? c=some o->hi.get? c=some o:=fun c o c1 e=>hsi.extBut _ _ c1 (hsg.extBut _ _ c1 (Heap.get?_push_of_some _ e))
 have hTi:IsPair hi he.objs.size x y:=hsi.extBut _ _ (Nat.ne_of_gt ltz) (hsg.extBut _ _ (Nat.ne_of_gt ltz) (Heap.get?_push_size _ rfl))
 have szi:hi.objs.size=he.objs.size+1:=by rw [hsi.1,hsg.1,Heap.size_push]
 rw [hsz] at hzi hTi szi;refine wpAny_pure ⟨_,rfl,?_⟩;show Q (.ref he.objs.size) _;rw [hsz]
 exact hQ hi hzi (up _ _ TOz hTOe) (W1.keep _ _ _ h1e (fun o e=>up _ o i1z e) fun o e=>up _ o l1z e) (W2.keep _ _ _ h2e (fun o e=>up _ o i2z e) fun o e=>up _ o l2z e) hTi szi fun c o c1 c2 c3 c4 e=>up c o c1 (hke c o c1 c2 c3 c4 e)
theorem next_end (hh:A.handled=none) (D:Apart z TI TO i1 i2 l1 l2) (W1:Draws prog w i1 l1 xs S1) (W2:Draws prog w i2 l2 ys S2) {k:Nat} {a b:Value} {Q:Fin->Shared->Prop}
  (hz:IsZip s.heap z TI TO .none) (hTI:IsPair s.heap TI (.ref i1) (.ref i2)) (hTO:IsPair s.heap TO a b) (h1:S1 k s.heap) (h2:S2 k s.heap) (hend:xs[k]?=none∨ys[k]?=none)
  (hE:∀ h' e,(∀ c o,c≠z->c≠TO->c≠i1->c≠i2->s.heap.get? c=some o->h'.get? c=some o)->(∃ o,h'.get? e=some o/\o.cls=.type "StopIteration")->E (.ref e) { s with heap:=h' }) :
  wpAny (model prog w) A (Builtin.«zip.__next__» ⟨[.ref z],[]⟩) Q E s:=by
 obtain ⟨⟨TIz,TOz,i1z,i2z,l1z,l2z⟩,⟨TITO,TIi1,TIi2,TOi1,TOi2,i12⟩,⟨l1TO,l1i1,l1i2,l2TO,l2i1,l2i2⟩⟩:=D
 show wpAny _ _ (field (.ref z) 2 >>= _) _ _ _;refine wpAny_bind (wpAny_field hz rfl (x:=.bool false) rfl ?_)
 show wpAny _ _ (field (.ref z) 3 >>= _) _ _ _;refine wpAny_bind (wpAny_field hz rfl (x:=.ref TI) rfl ?_);refine wpAny_bind (wpAny_seqItems hTI rfl ?_)
 show wpAny _ _ (Builtin.SmallTypes.ownedTupleIsFree (.ref z) >>= _) _ _ _;refine wpAny_bind ?_;unfold Builtin.SmallTypes.ownedTupleIsFree
 refine wpAny_bind (wpAny_field hz rfl (x:=.none) rfl (wpAny_pure ?_));simp only [if_true]
 refine wpAny_bind (wpAny_rule ?_);refine wpAny_bind (wpAny_field hz rfl (x:=.ref TO) rfl ?_)
 refine wpAny_bind (wpAny_setField_rec hz (by simp) fun ha hza hsa=>?_);replace hza:IsZip ha z TI TO .ellipsis:=hza
 refine wpAny_bind ?_;simp only [List.zipIdx_cons,List.zipIdx_nil,List.forIn_cons,List.forIn_nil]
 refine wpAny_bind (wpAny_bind (wpAny_onRaise ?_));show wpAny _ _ (Builtin.SmallTypes.nextOf (.ref i1) >>= _) _ _ _
 have h1a:S1 k ha:=W1.keep _ _ _ h1 (fun o e=>hsa.extBut _ _ i1z e) fun o e=>hsa.extBut _ _ l1z e
 cases hx:xs[k]? with
 | none =>
  refine wpAny_bind (W1.stop _ _ k _ _ hh h1a hx fun hb e hsb he=>?_)
  obtain ⟨oe,hoe,hce⟩:=he
  have hzb:IsZip hb z TI TO .ellipsis:=hsb _ _ (Ne.symm i1z) hza
  have hez:e≠z:=fun q=>by subst q;rw [hzb] at hoe;cases hoe;simp at hce
  refine wpAny_setField_rec hzb (by simp) fun hc _ hsc=>hE hc e (fun c o c1 _ c3 _ q=>hsc.extBut _ _ c1 (hsb _ _ c3 (hsa.extBut _ _ c1 q))) ⟨oe,hsc.extBut _ _ hez hoe,hce⟩
 | some x =>
  have hy:ys[k]?=none:=by rcases hend with h | h;rw [hx] at h;cases h;exact h
  refine wpAny_bind (W1.item _ _ k x _ _ h1a hx fun hb h1b hsb=>wpAny_pure ?_)
  have hTOb:IsPair hb TO a b:=hsb.extBut _ _ TOi1 (hsa.extBut _ _ TOz hTO)
  refine wpAny_bind (wpAny_seqItems hTOb rfl ?_);refine wpAny_bind (wpAny_updateSeq_pair hTOb fun hc hTOc hsc=>?_)
  refine wpAny_bind (wpAny_letGo (wpAny_pure ?_));refine wpAny_bind (wpAny_bind (wpAny_onRaise ?_));show wpAny _ _ (Builtin.SmallTypes.nextOf (.ref i2) >>= _) _ _ _
  have h2c:S2 k hc:=W2.keep _ _ _ h2 (fun o e=>hsc.extBut _ _ (Ne.symm TOi2) (hsb.extBut _ _ (Ne.symm i12) (hsa.extBut _ _ i2z e))) fun o e=>hsc.extBut _ _ l2TO (hsb.extBut _ _ l2i1 (hsa.extBut _ _ l2z e))
  refine wpAny_bind (W2.stop _ _ k _ _ hh h2c hy fun hd e hsd he=>?_)
  obtain ⟨oe,hoe,hce⟩:=he
  have hzd:IsZip hd z TI TO .ellipsis:=hsd _ _ (Ne.symm i2z) (hsc.extBut _ _ (Ne.symm TOz) (hsb.extBut _ _ (Ne.symm i1z) hza))
  have hez:e≠z:=fun q=>by subst q;rw [hzd] at hoe;cases hoe;simp at hce
  refine wpAny_setField_rec hzd (by simp) fun hf _ hsf=>hE hf e (fun c o c1 c2 c3 c4 q=>hsf.extBut _ _ c1 (hsd _ _ c4 (hsc.extBut _ _ c2 (hsb.extBut _ _ c3 (hsa.extBut _ _ c1 q))))) ⟨oe,hsf.extBut _ _ hez hoe,hce⟩
end
end Zp
end PySem
namespace PySem
namespace Zp
def OW (T:String) (l:Addr):Obj:={ cls:=.type T,data:=.fields #[.ref l,.int 0 0] }
def z1 (h:Heap) (T1:String) (l1:Addr):Heap:=h.push (OW T1 l1)
def z2 (h:Heap) (T1 T2:String) (l1 l2:Addr):Heap:=(z1 h T1 l1).push (OW T2 l2)
def z3 (h:Heap) (T1 T2:String) (l1 l2:Addr):Heap:=(z2 h T1 T2 l1 l2).push { cls:=.type "tuple",data:=.seq #[.ref h.objs.size,.ref (z1 h T1 l1).objs.size] }
def z4 (h:Heap) (T1 T2:String) (l1 l2:Addr):Heap:=(z3 h T1 T2 l1 l2).push { cls:=.type "tuple",data:=.seq #[.none,.none] }
def z5 (h:Heap) (T1 T2:String) (l1 l2:Addr):Heap:=(z4 h T1 T2 l1 l2).push { cls:=.type "zip",data:=.fields #[.none,.bool false,.bool false,.ref (z2 h T1 T2 l1 l2).objs.size,.ref (z3 h T1 T2 l1 l2).objs.size] }
abbrev Its (T:String) (l:Addr) (C:Heap->Prop):Prop:=∀ {prog:Program} {w:World} {A:Around} {E:Value->Shared->Prop} {s:Shared} {Q:Value->Shared->Prop},C s.heap->Q (.ref s.heap.objs.size) { s with heap:=s.heap.push (OW T l) }->wpAny (model prog w) A (pyIter (.ref l)) Q E s
theorem OH (T1 T2:String) (l1 l2:Addr) (C1 C2:Heap->Prop) (p1:Its T1 l1 C1) (p2:Its T2 l2 C2) (k2:∀ h o,C2 h->C2 (Heap.push h o)) :
  Meets (Builtin.«zip.__new__» ⟨[.type "zip",.ref l1,.ref l2],[]⟩) (fun _ R s=>C1 s.heap/\C2 s.heap/\R (.ok (.ret (.ref (z4 s.heap T1 T2 l1 l2).objs.size))) { s with heap:=z5 s.heap T1 T2 l1 l2 }) :=
 .of_wp fun prog w A R s h=>by
  obtain ⟨hp,g,d,tk,os⟩:=s;obtain ⟨c1,c2,h⟩:=h
  have hsub:=sub_zip
  have a1:C1 (Shared.heap ⟨hp,g,d,tk,os⟩):=c1
  have a2:C2 (Shared.heap ⟨hp.push (OW T1 l1),g,d,tk,os⟩):=k2 _ _ c2
  wp_walk using p1 a1,p2 a2
  exact ⟨_,rfl,h⟩
section
variable {prog:Program} {w:World} {A:Around} {E:Value->Shared->Prop} {s:Shared} {z TI TO i1 i2 l1 l2:Addr} {xs ys:Array Value} {S1 S2:Nat->Heap->Prop}
theorem Rm {T1 T2:String} {C1 C2:Heap->Prop} {Q:Value->Shared->Prop} (p1:Its T1 l1 C1) (p2:Its T2 l2 C2) (k2:∀ h o,C2 h->C2 (Heap.push h o)) (c1:C1 s.heap) (c2:C2 s.heap)
  (h:Q (.ref (z4 s.heap T1 T2 l1 l2).objs.size) { s with heap:=z5 s.heap T1 T2 l1 l2 }):wpAny (model prog w) A (call (.type "zip") [.ref l1,.ref l2]) Q E s :=
 callType_new F.called_zip (by decide) (F.typeCall_zip_2 _ _) (F.newCall_zip_2 _ _) (fun obj=>F.args_object_init_3 obj _ _) F.entry_zip_new (OH T1 T2 l1 l2 C1 C2 p1 p2 k2)
  ⟨c1,c2,⟨_,Heap.get?_push_size _ rfl,rfl⟩,h⟩
theorem MX (D:Apart z TI TO i1 i2 l1 l2) (W1:Draws prog w i1 l1 xs S1) (W2:Draws prog w i2 l2 ys S2) {k:Nat} {x y a b:Value} {Q:Option Value->Shared->Prop}
  (hz:IsZip s.heap z TI TO .none) (hTI:IsPair s.heap TI (.ref i1) (.ref i2)) (hTO:IsPair s.heap TO a b) (h1:S1 k s.heap) (h2:S2 k s.heap) (hx:xs[k]?=some x) (hy:ys[k]?=some y)
  (hQ:∀ h',IsZip h' z TI TO (rawInt s.heap.objs.size)->IsPair h' TO x y->S1 (k+1) h'->S2 (k+1) h'->IsPair h' s.heap.objs.size x y->h'.objs.size=s.heap.objs.size+1 ->
   (∀ c o,c≠z->c≠TO->c≠i1->c≠i2->s.heap.get? c=some o->h'.get? c=some o)->Q (some (.ref s.heap.objs.size)) { s with heap:=h' }) :
  wpAny (model prog w) A (pyNext (.ref z)) Q E s:=by
 have hT:s.TypeIs (.ref z) "zip":=⟨_,hz,rfl⟩
 unfold pyNext
 exact wpAny_bind (wpAny_attempt (wpAny_callSpecial?_slot (name:=Str.ofString "__next__") hT F.slot_zip_next (wpAny_call_entry F.slot_zip_next hT F.entry_zip_next
  (QQ D W1 W2 hz hTI hTO h1 h2 hx hy fun h' a1 a2 a3 a4 a5 a6 a7=>wpAny_pure (hQ h' a1 a2 a3 a4 a5 a6 a7)) (F.args_zip_next_1 _))))
theorem MY (hh:A.handled=none) (D:Apart z TI TO i1 i2 l1 l2) (W1:Draws prog w i1 l1 xs S1) (W2:Draws prog w i2 l2 ys S2) {k:Nat} {a b:Value} {Q:Option Value->Shared->Prop}
  (hz:IsZip s.heap z TI TO .none) (hTI:IsPair s.heap TI (.ref i1) (.ref i2)) (hTO:IsPair s.heap TO a b) (h1:S1 k s.heap) (h2:S2 k s.heap) (hend:xs[k]?=none∨ys[k]?=none)
  (hQ:∀ h',(∀ c o,c≠z->c≠TO->c≠i1->c≠i2->s.heap.get? c=some o->h'.get? c=some o)->Q none { s with heap:=h' }):wpAny (model prog w) A (pyNext (.ref z)) Q E s:=by
 have hT:s.TypeIs (.ref z) "zip":=⟨_,hz,rfl⟩
 unfold pyNext
 refine wpAny_bind (wpAny_attempt (wpAny_callSpecial?_slot (name:=Str.ofString "__next__") hT F.slot_zip_next (wpAny_call_entry F.slot_zip_next hT F.entry_zip_next
  (next_end (A:=A.in1) (show A.in1.handled=none from hh) D W1 W2 hz hTI hTO h1 h2 hend fun h' e hk he=>?_) (F.args_zip_next_1 _))))
 obtain ⟨o,ho,hc⟩:=he
 refine wpAny_bind (wpAny_isInstance (T:="StopIteration") (b:=true) ⟨o,ho,hc⟩ isSubtype_stop ?_);exact wpAny_pure (hQ _ hk)
end
def MN:Bool->Heap->Addr->Addr->Nat->Prop
 | true,h,it,l,k=>h.IsTupleIter it l k
 | false,h,it,l,k=>h.IsListIter it l k
def NJ:Bool->Heap->Addr->Array Value->Prop
 | true,h,l,xs=>h.IsTuple l xs
 | false,h,l,xs=>h.IsList l xs
def Fv:Bool->String
 | true=>"tuple_iterator"
 | false=>"list_iterator"
theorem Hl (b:Bool) {prog:Program} {w:World} {it t:Addr} {xs:Array Value} (hne:t≠it):Draws prog w it t xs (fun k h=>MN b h it t k/\NJ b h t xs):=by
 cases b
 ·exact Draws.lst hne
 ·exact Draws.tup hne
theorem R0 (b:Bool) (l:Addr) (xs:Array Value):Its (Fv b) l (fun h=>NJ b h l xs):=by
 intro prog w A E s Q c q
 cases b
 ·exact wpAny_pyIter_list c q
 ·exact wpAny_pyIter_tuple c q
theorem NJ.at {b:Bool} {h h':Heap} {l:Addr} {xs:Array Value} (c:NJ b h l xs) (e:∀ o,h.get? l=some o->h'.get? l=some o):NJ b h' l xs:=by
 cases b
 ·exact Heap.IsList.at c e
 ·exact Heap.IsTuple.at c e
theorem MN.at {b:Bool} {h h':Heap} {it l:Addr} {k:Nat} (c:MN b h it l k) (e:∀ o,h.get? it=some o->h'.get? it=some o):MN b h' it l k:=by
 cases b
 ·exact Heap.IsListIter.at c e
 ·exact Heap.IsTupleIter.at c e
theorem MN.obj {b:Bool} {h:Heap} {it l:Addr} {k:Nat} (c:MN b h it l k):∃ o,h.get? it=some o/\∀ v,o.data≠.cell v:=by
 cases b
 ·obtain ⟨o,e,_,d⟩:=c
  exact ⟨o,e,fun v z=>by rw [d] at z;cases z⟩
 ·obtain ⟨o,e,_,d⟩:=c
  exact ⟨o,e,fun v z=>by rw [d] at z;cases z⟩
theorem MN.new {b:Bool} {h:Heap} {it l:Addr} (e:h.get? it=some (OW (Fv b) l)):MN b h it l 0:=by
 cases b
 ·exact ⟨_,e,rfl,rfl⟩
 ·exact ⟨_,e,rfl,rfl⟩
end Zp
end PySem
namespace L2
open PySem PySem.Spec PyProof.Rows
def SqB (b:Bool) (K:Fg) (H:Hp) (a:Addr) (xs:List V):Prop:=match b with
 | true=>SqT K H a xs
 | false=>SqL K H a xs
section
variable {X:Cx} {pins:List (Addr×Obj)} {σ:St} {H:Hp} {s:Shared} {a:Addr} {xs ys:List V} {b:Bool}
theorem Inv.sqb (I:Inv X pins σ H s) (h:SqB b X.K H a xs):∃ its:List Value,Vals xs its/\Zp.NJ b s.heap a its.toArray/\xs.length<=sizeLine:=by
 cases b
 ·obtain ⟨its,r,p,z⟩:=I.list h
  exact ⟨its,r,p.isList,z⟩
 ·obtain ⟨its,r,p,z⟩:=I.tuple h
  exact ⟨its,r,p,z⟩
theorem Inv.N1 (I:Inv X pins σ H s) (h:SqB b X.K H a xs) (h':SqB b X.K H a ys):xs=ys:=by
 cases b
 ·exact I.Mn h h'
 ·exact I.J4 h h'
theorem Inv.NR {h':Heap} {t':Nat} {fp:List Addr} (I:Inv X pins σ H s) (k:∀ b o,b∉fp->s.heap.get? b=some o->h'.get? b=some o) (hf:∀ b∈fp,Lc X pins H b):Inv X pins σ H { s with heap:=h',toks:=t' }:=by
 have nit:∀ b u,H b=some u->b∉fp:=fun b u e z=>by rw [(hf b z).1] at e;cases e
 refine I.step (g':=s.gens) (d':=s.drawn) (ch:=fp) (fun b hb=>?_) (fun b o _ _ hc e _=>k b o hc e) (fun b o _ _ hc e _=>⟨o.slots,k b o hc e⟩) (fun _ _ _ _ n=>n)
  (fun b o hc e=>⟨o,k b o hc e⟩) (fun _ _ e=>e) (fun _ _ _ e=>e) (fun b ps e=>⟨#[],by rw [e];simp⟩) (fun m hm=>?_) (fun b u e=>?_) I.bare
 ·obtain ⟨f0,f1,f2,f3,f4,f5⟩:=hf b hb
  exact ⟨f3,f1,f4,f5⟩
 ·obtain ⟨o,es,ep,ho,r⟩:=hm
  exact ⟨o,es,ep,k _ o (fun z=>(hf _ z).2.1 rfl) ho,r⟩
 ·refine (I.hok b u e).SM (fun c v hc q=>k c v ?_ q) (fun _ q=>q) fun _ _ q=>q
  rcases hc with z | z
  ·rw [z];exact nit b u e
  ·exact nit c _ z
end
def Itz (K:Fg) (b1:Bool) (a1:Addr) (b2:Bool) (a2:Addr):It :=
  ⟨fun i H=>∃ xs ys x y,SqB b1 K H a1 xs/\SqB b2 K H a2 ys/\xs[i]?=some x/\ys[i]?=some y,
   fun i H x H'=>∃ T vx vy,H T=none/\x=.ref T/\H'=upd H T (.tup [vx,vy])/\(∀ xs,SqB b1 K H a1 xs->xs[i]?=some vx)/\∀ ys,SqB b2 K H a2 ys->ys[i]?=some vy,
   fun i H=>∃ xs ys,SqB b1 K H a1 xs/\SqB b2 K H a2 ys/\(xs.length<=i∨ys.length<=i)⟩
theorem Qk {P:Program} {w:World} {K:Fg} {elts:List Expr} {k0:Nat} {tpos:Pos} {b1 b2:Bool} {a1 a2 z TI TO i1 i2:Addr} (D:Zp.Apart z TI TO i1 i2 a1 a2) :
  Turn P w K (.Tuple elts k0 tpos) (Itz K b1 a1 b2 a2) [z,TI,TO,i1,i2] z (fun i h=>IsZip h z TI TO .none/\IsPair h TI (.ref i1) (.ref i2)/\(∃ a b,IsPair h TO a b)/\Zp.MN b1 h i1 a1 i/\Zp.MN b2 h i2 a2 i) where
 mem:=by simp
 obj:=fun i h st b hb=>by
  obtain ⟨hz,hTI,⟨ta,tb,hTO⟩,h1,h2⟩:=st
  simp only [List.mem_cons,List.not_mem_nil,or_false] at hb
  rcases hb with rfl | rfl | rfl | rfl | rfl
  ·exact ⟨_,hz,fun v z=>nomatch z⟩
  ·exact ⟨_,hTI,fun v z=>nomatch z⟩
  ·exact ⟨_,hTO,fun v z=>nomatch z⟩
  ·exact h1.obj
  ·exact h2.obj
 keep:=fun i h h' st k=>by
  obtain ⟨hz,hTI,⟨ta,tb,hTO⟩,h1,h2⟩:=st
  exact ⟨k z (by simp) _ hz,k TI (by simp) _ hTI,⟨ta,tb,k TO (by simp) _ hTO⟩,h1.at fun o e=>k i1 (by simp) o e,h2.at fun o e=>k i2 (by simp) o e⟩
 item:=by
  intro X hP hw hK hc i pins s σ H E I hf st hg
  subst hP hw hK
  obtain ⟨hz,hTI,⟨ta,tb,hTO⟩,h1,h2⟩:=st
  obtain ⟨xs,ys,x,y,q1,q2,ex,ey⟩:=hg
  obtain ⟨its1,r1,c1,z1⟩:=I.sqb q1
  obtain ⟨its2,r2,c2,z2⟩:=I.sqb q2
  obtain ⟨u1,hu1,ru1⟩:=r1.get ex
  obtain ⟨u2,hu2,ru2⟩:=r2.get ey
  obtain ⟨⟨TIz,TOz,i1z,i2z,l1z,l2z⟩,⟨TITO,TIi1,TIi2,TOi1,TOi2,i12⟩,⟨l1TO,l1i1,l1i2,l2TO,l2i1,l2i2⟩⟩:=id D
  refine Zp.MX D (Zp.Hl b1 l1i1) (Zp.Hl b2 l2i2) hz hTI hTO ⟨h1,c1⟩ ⟨h2,c2⟩ (x:=u1) (y:=u2) (by simpa using hu1) (by simpa using hu2) fun h' hz' hTO' s1' s2' hT' hs' hk'=>⟨_,rfl,?_⟩
  refine wpAny_letOwnedTupleGo_zip hz' fun h2' hz2 sb=>?_
  have hTne:∀ {c o},s.heap.get? c=some o->c≠s.heap.objs.size:=fun e=>Nat.ne_of_lt (Heap.lt_size e)
  have Il:Inv X pins σ (upd H s.heap.objs.size (.tup [x,y])) { s with heap:=s.heap.push { cls:=.type "tuple",data:=.seq #[u1,u2] },toks:=s.toks } :=
   I.laid (fun b o e=>Heap.get?_push_of_some _ e) (Nat.le_refl _) ⟨by show 2<=sizeLine;rw [sizeLine_eq];decide,[u1,u2],.cons ru1 (.cons ru2 .nil),⟨_,Heap.get?_push_size _ rfl,rfl,_,rfl⟩⟩
  have hlt:∀ b∈[z,TI,TO,i1,i2],b≠s.heap.objs.size:=fun b hb=>by
   simp only [List.mem_cons,List.not_mem_nil,or_false] at hb
   rcases hb with rfl | rfl | rfl | rfl | rfl
   ·exact hTne hz
   ·exact hTne hTI
   ·exact hTne hTO
   ·obtain ⟨o,e,_⟩:=h1.obj
    exact hTne e
   ·obtain ⟨o,e,_⟩:=h2.obj
    exact hTne e
  have hf':∀ b∈[z,TI,TO,i1,i2],Lc X pins (upd H s.heap.objs.size (.tup [x,y])) b:=fun b hb=>by
   obtain ⟨f0,f⟩:=hf b hb
   exact ⟨by rw [Aw (hlt b hb)];exact f0,f⟩
  have I2:Inv X pins σ (upd H s.heap.objs.size (.tup [x,y])) { s with heap:=h2',toks:=s.toks }:=Il.NR (t':=s.toks) (fun b o hb e=>by
   have nz:b≠z:=fun q=>hb (by simp [q])
   refine sb.extBut _ _ nz ?_
   by_cases hbT:b=s.heap.objs.size
   ·subst hbT
    have e':(s.heap.push { cls:=.type "tuple",data:=.seq #[u1,u2] }).get? s.heap.objs.size=some o:=e
    rw [Heap.get?_push_size _ rfl] at e'
    cases e'
    exact hT'
   ·have e':(s.heap.push { cls:=.type "tuple",data:=.seq #[u1,u2] }).get? b=some o:=e
    rw [Heap.get?_push_ne _ _ _ hbT] at e'
    exact hk' b o nz (fun q=>hb (by simp [q])) (fun q=>hb (by simp [q])) (fun q=>hb (by simp [q])) e') hf'
  refine ⟨.ref s.heap.objs.size,_,I2,rfl,⟨s.heap.objs.size,x,y,I.hok.fresh (Nat.le_refl _),rfl,rfl,fun zs hz=>by rw [I.N1 hz q1];exact ex,fun zs hz=>by rw [I.N1 hz q2];exact ey⟩,?_,fun b hb=>(hf' b hb).1⟩
  exact ⟨hz2,sb.extBut _ _ TIz (hk' _ _ TIz TITO TIi1 TIi2 hTI),⟨_,_,sb.extBut _ _ TOz hTO'⟩,s1'.1.at fun o e=>sb.extBut _ _ i1z e,s2'.1.at fun o e=>sb.extBut _ _ i2z e⟩
 done:=by
  intro X hP hw hK hc i pins s σ H E I hf st hg
  subst hP hw hK
  obtain ⟨hz,hTI,⟨ta,tb,hTO⟩,h1,h2⟩:=st
  obtain ⟨xs,ys,q1,q2,hend⟩:=hg
  obtain ⟨its1,r1,c1,z1⟩:=I.sqb q1
  obtain ⟨its2,r2,c2,z2⟩:=I.sqb q2
  have e1:=r1.length
  have e2:=r2.length
  obtain ⟨_,_,⟨l1TO,l1i1,l1i2,l2TO,l2i1,l2i2⟩⟩:=id D
  refine Zp.MY (I.ok.hd hc) D (Zp.Hl b1 l1i1) (Zp.Hl b2 l2i2) hz hTI hTO ⟨h1,c1⟩ ⟨h2,c2⟩ ?_ fun h' hk=>⟨rfl,I.NR (t':=s.toks) (fun b o hb e=>hk b o (fun q=>hb (by simp [q])) (fun q=>hb (by simp [q])) (fun q=>hb (by simp [q])) (fun q=>hb (by simp [q])) e) hf⟩
  rcases hend with z | z
  ·exact .inl (by simp;omega)
  ·exact .inr (by simp;omega)
 self:=fun _ _ _ _ _ st h=>wpAny_pyIter_zip st.1 h
end L2
namespace PySem
namespace Zp
theorem made {h:Heap} {b1 b2:Bool} {l1 l2:Addr} {xs ys:Array Value} (c1:NJ b1 h l1 xs) (c2:NJ b2 h l2 ys) :
  ∃ z TI TO i1 i2,z=(z4 h (Fv b1) (Fv b2) l1 l2).objs.size/\h.objs.size<=z/\h.objs.size<=TI/\h.objs.size<=TO/\h.objs.size<=i1/\h.objs.size<=i2/\Apart z TI TO i1 i2 l1 l2 /\
   IsZip (z5 h (Fv b1) (Fv b2) l1 l2) z TI TO .none/\IsPair (z5 h (Fv b1) (Fv b2) l1 l2) TI (.ref i1) (.ref i2)/\IsPair (z5 h (Fv b1) (Fv b2) l1 l2) TO .none .none /\
   MN b1 (z5 h (Fv b1) (Fv b2) l1 l2) i1 l1 0/\MN b2 (z5 h (Fv b1) (Fv b2) l1 l2) i2 l2 0/\∀ c o,h.get? c=some o->(z5 h (Fv b1) (Fv b2) l1 l2).get? c=some o:=by
 have s1:(z1 h (Fv b1) l1).objs.size=h.objs.size+1:=Heap.size_push ..
 have s2:(z2 h (Fv b1) (Fv b2) l1 l2).objs.size=h.objs.size+2:=by unfold z2;rw [Heap.size_push,s1]
 have s3:(z3 h (Fv b1) (Fv b2) l1 l2).objs.size=h.objs.size+3:=by unfold z3;rw [Heap.size_push,s2]
 have s4:(z4 h (Fv b1) (Fv b2) l1 l2).objs.size=h.objs.size+4:=by unfold z4;rw [Heap.size_push,s3]
 have lt:∀ {b:Bool} {l:Addr} {xs:Array Value},NJ b h l xs->l < h.objs.size:=fun {b l xs} c=>by
  cases b
  ·obtain ⟨o,e,_⟩:=c
   exact Heap.lt_size e
  ·obtain ⟨o,e,_⟩:=c
   exact Heap.lt_size e
 have t1:@LT.lt Nat _ l1 h.objs.size:=lt c1
 have t2:@LT.lt Nat _ l2 h.objs.size:=lt c2
 refine ⟨(z4 h (Fv b1) (Fv b2) l1 l2).objs.size,(z2 h (Fv b1) (Fv b2) l1 l2).objs.size,(z3 h (Fv b1) (Fv b2) l1 l2).objs.size,h.objs.size,(z1 h (Fv b1) l1).objs.size,rfl,by omega,by omega,by omega,by omega,by omega,⟨?_,?_,?_⟩,?_,?_,?_,?_,?_,?_⟩
 ·rw [s1,s2,s3,s4]
  refine ⟨?_,?_,?_,?_,?_,?_⟩ <;> (intro e;have e2:@Eq Nat _ _:=e;omega)
 ·rw [s1,s2,s3]
  refine ⟨?_,?_,?_,?_,?_,?_⟩ <;> (intro e;have e2:@Eq Nat _ _:=e;omega)
 ·rw [s1,s3]
  refine ⟨?_,?_,?_,?_,?_,?_⟩ <;> (intro e;have e2:@Eq Nat _ _:=e;omega)
 ·exact Heap.get?_push_size _ rfl
 ·exact Heap.get?_push_of_some _ (Heap.get?_push_of_some _ (Heap.get?_push_size _ rfl))
 ·exact Heap.get?_push_of_some _ (Heap.get?_push_size _ rfl)
 ·exact MN.new (Heap.get?_push_of_some _ (Heap.get?_push_of_some _ (Heap.get?_push_of_some _ (Heap.get?_push_of_some _ (Heap.get?_push_size _ rfl)))))
 ·exact MN.new (Heap.get?_push_of_some _ (Heap.get?_push_of_some _ (Heap.get?_push_of_some _ (Heap.get?_push_size _ rfl))))
 ·exact fun c o e=>Heap.get?_push_of_some _ (Heap.get?_push_of_some _ (Heap.get?_push_of_some _ (Heap.get?_push_of_some _ (Heap.get?_push_of_some _ e))))
end Zp
end PySem
namespace L2
open PySem PySem.Spec PyProof.Rows
def Y8 (K:Fg) (ta:TA):TI:=fun σ H R=>ta σ H fun vs H1=>∃ b1 a1 b2 a2,vs=[.ref a1,.ref a2]/\(∃ xs,SqB b1 K H1 a1 xs)/\(∃ ys,SqB b2 K H1 a2 ys)/\R (Itz K b1 a1 b2 a2) H1
theorem Vm {X:Cx} {a b:Expr} {ta:TA} {p pos tpos:Pos} {elts:List Expr} {k0:Nat} (hg:Gl X "zip") (hm:X.mg "zip"=none) (ha:PA X [a,b] ta) (hs:starEach [a,b] X.env=[(false,eval a X.env),(false,eval b X.env)]:=by rfl) (hs2:starEach [b] X.env=[(false,eval b X.env)]:=by rfl) :
  PI X (.Tuple elts k0 tpos) (.Call (.Name "zip" p) [a,b] [] pos) (Y8 X.K ta):=by
 intro pins s σ H R I h
 refine Call_ (GZ I hg hm boot_zip (PyProof.Rows.callWith_type1 (thn (ha pos pins s σ H _ I h) fun us s1 ⟨vs,H1,I1,r1,q1⟩=>?_) (by rw [hs,hs2]) (by rw [hs2];rfl)))
 obtain ⟨b1,a1,b2,a2,e,⟨xs,hx⟩,⟨ys,hy⟩,q⟩:=q1
 subst e
 cases r1 with
 | cons r rr =>
  cases rr with
  | cons r' rr =>
   cases rr
   cases r
   cases r'
   obtain ⟨its1,rv1,c1,_⟩:=I1.sqb hx
   obtain ⟨its2,rv2,c2,_⟩:=I1.sqb hy
   refine Zp.Rm (T1:=Zp.Fv b1) (T2:=Zp.Fv b2) (C1:=fun h=>Zp.NJ b1 h a1 its1.toArray) (C2:=fun h=>Zp.NJ b2 h a2 its2.toArray) (Zp.R0 b1 a1 its1.toArray) (Zp.R0 b2 a2 its2.toArray) (fun h o c=>Zp.NJ.at (b:=b2) c fun o e=>Heap.get?_push_of_some _ e) c1 c2 ?_
   obtain ⟨z,TI,TO,i1,i2,ez,g0,g1,g2,g3,g4,D,hz,hTI,hTO,t1,t2,hk⟩:=Zp.made c1 c2
   rw [<- ez]
   refine wpAny_pyIter_zip hz ⟨z,[z,TI,TO,i1,i2],_,Itz X.K b1 a1 b2 a2,H1,rfl,I1.kept (t':=s1.toks) hk,Qk D,⟨hz,hTI,⟨_,_,hTO⟩,t1,t2⟩,fun b hb=>?_,q⟩
   have hge:s1.heap.objs.size<=b:=by
    simp only [List.mem_cons,List.not_mem_nil,or_false] at hb
    rcases hb with rfl | rfl | rfl | rfl | rfl <;> assumption
   exact I1.Ug hge (I1.hok.fresh hge)
end L2
namespace PySem
theorem LC (l b:Addr) (items items2:Array Value) (n n2:Nat) (dd2:Option Addr) (sl2:Array (Option Value)) (hs0:¬(!items.isEmpty && Builtin.List.listTooLong (items.size+items2.size))=true) (hs1:items.size<=sizeLine) (hs2:items.size+items2.size<=sizeLine+1) :
  Meets (Builtin.«list.extend» ⟨[.ref l,.ref b],[]⟩) (fun _ R s=>s.heap.get? l=some { cls:=.type "list",dict:=none,data:=.seq items n,slots:=#[] }/\s.heap.get? b=some { cls:=.type "tuple",dict:=dd2,data:=.seq items2 n2,slots:=sl2 } /\
   R (.ok (.ret Value.none)) { s with heap:=s.heap.update l (Obj.mapSeq fun x=>x++items2),toks:=s.toks }) :=
 .of_wp fun prog w A R s h=>by
  obtain ⟨hp,g,d,tk,os⟩:=s;obtain ⟨hl,hb,h⟩:=h;have f1:=AutoSeq1.idx_int;have f2:=AutoSeq1.sub_tuple_tuple;have f3:=AutoSeq1.sub_list_list;have f4:=AutoSeq1.sub_tuple_list;have f5:=AutoSeq1.sub_list_tuple
  have hz':(items++items2).size<=sizeLine+1:=by rw [Array.size_append];exact hs2
  wp_walk using (wpAny_updateSeq hl rfl (hz:=hs1) (_hz':=hz')),wpAny_loadPart' hl,wpAny_loadPart' hb
  exact ⟨_,rfl,h⟩
end PySem
namespace L2
open PySem PySem.Spec PyProof.Rows
section
variable {X:Cx}
def Qy (K:Fg):V->List V->Hp->VK->Prop:=fun x vs H Q=>∃ l b xs zs,x=.ref l/\vs=[.ref b]/\H l=some (.lst xs)/\SqT K H b zs/\xs.length+zs.length<=sizeLine/\Q .non (upd H l (.lst (xs++zs)))
theorem Tv:MtM X "list.extend" (Qy X.K):=by
 intro pins s σ H x vs v us Q I rx rv h
 obtain ⟨l,b,xs,zs,rfl,rfl,hH,hB,hz,q⟩:=h
 cases rx
 obtain ⟨u,rfl,ru⟩:=rv.one
 cases ru
 obtain ⟨z,its,n,r,hl,e⟩:=I.TF hH
 obtain ⟨its2,r2,⟨⟨cls,dd,data,sl⟩,ho,hc,n2,hd⟩,z2⟩:=I.tuple hB
 simp only at hc hd
 subst hc hd
 have e1:=r.length
 have e2:=r2.length
 have hsz:its.toArray.size+its2.toArray.size<=sizeLine:=by rw [List.size_toArray,List.size_toArray];omega
 have hlong:¬ (!its.toArray.isEmpty && Builtin.List.listTooLong (its.toArray.size+its2.toArray.size))=true:=by
  rw [Mi hsz,Bool.and_false]
  exact Bool.false_ne_true
 refine call_meets F.slot_list_extend ⟨_,e,rfl⟩ F.entry_list_extend (F.args_list_extend_2 _ _) (LC l b its.toArray its2.toArray n n2 dd sl hlong (by rw [List.size_toArray];omega) (by omega)) ⟨e,ho,?_⟩
 refine ⟨.non,_,I.W6 (its':=its++its2) hH e (by simp) (r.append r2) ?_,rfl,q⟩
 rw [List.length_append]
 omega
def RH (K:Fg):R2:=fun x y H Q=>∃ a b ys,x=.ref a/\y=.ref b/\SqT K H a []/\SqT K H b ys/\Q (.ref b) H
theorem QN:OpR X (binaryOp .Add) (RH X.K):=by
 intro pins s σ H x y v u Q I rx ry h
 obtain ⟨a,b,ys,rfl,rfl,ha,hb,q⟩:=h
 cases rx
 cases ry
 obtain ⟨its,r1,⟨⟨cls,dd,data,sl⟩,ho,hc,n,hd⟩,_⟩:=I.tuple ha
 obtain ⟨its2,r2,⟨⟨cls2,dd2,data2,sl2⟩,ho2,hc2,n2,hd2⟩,_⟩:=I.tuple hb
 simp only at hc hd hc2 hd2
 subst hc hd hc2 hd2
 cases r1
 exact concat_meets ⟨_,ho,rfl⟩ ⟨_,ho2,rfl⟩ noFill_tuple_add seq_tuple_add PySem.F.slot_tuple_add PySem.F.entry_tuple_add (PySem.F.args_tuple_add_2 _ _) (tuple_addW0 a b _ _ n n2 dd dd2 sl sl2 (by simp)) ⟨ho,ho2,⟨.ref b,H,I,rfl,q⟩⟩
theorem LO (T:String):DU X (.builtin "isinstance") (fun xs H Q=>∃ x t b,xs=[x,.ty T]/\MM X.K H x t/\PySem.W.kitOne X.K t (.type T)=some b/\Q (.bl b) H):=by
 intro pins s σ H xs us Q I r h
 obtain ⟨x,t,b,rfl,ty,e,q⟩:=h
 cases r with
 | cons r1 rr =>
  cases rr with
  | cons r2 rr =>
   cases rr
   obtain rfl:_=Value.type T:=r2
   exact OX I r1 ty e fun tk=>⟨.bl b,H,I.tok tk,rfl,q⟩
end
end L2
namespace PySem
namespace Zp
section
variable {prog:Program} {w:World} {A:Around} {E:Value->Shared->Prop} {s:Shared} {z TI TO i1 i2 l1 l2 ad:Addr} {xs ys:Array Value} {S1 S2:Nat->Heap->Prop}
end
section
variable {prog:Program} {w:World} {A:Around} {E:Value->Shared->Prop} {s:Shared} {z TI TO i1 i2 l1 l2 ad lo S:Addr} {xs ys:Array Value} {b1 b2:Bool} {R:Result->Shared->Prop}
end
end Zp
end PySem
namespace PySem
namespace F
end F
namespace Zp
section
variable {prog:Program} {w:World} {A:Around} {E:Value->Shared->Prop} {s:Shared} {z TI TO i1 i2 l1 l2 S:Addr} {xs ys:Array Value} {b1 b2:Bool} {R:Result->Shared->Prop}
end
end Zp
end PySem
namespace L2
open PySem PySem.Spec PyProof.Rows
section
variable {X:Cx} {pins:List (Addr×Obj)} {σ:St} {H H':Hp} {s:Shared}
end
end L2
namespace PySem
namespace F
end F
end PySem
namespace PySem
open PyProof.Rows (IsTup)
namespace Rv
section
variable {prog:Program} {w:World} {A:Around} {E:Value->Shared->Prop} {s:Shared}
end
section
variable {prog:Program} {w:World} {A:Around} {E:Value->Shared->Prop} {s:Shared}
end
end Rv
end PySem
namespace PySem
open PyProof.Rows (IsTup)
namespace Rv
section
variable {prog:Program} {w:World} {A:Around} {E:Value->Shared->Prop} {s:Shared}
end
end Rv
end PySem
namespace L2
open PySem PySem.Spec PyProof.Rows
end L2
namespace HT
open PySem PyProof.Rows
section
variable {prog:Program} {w:World} {A:Around} {E:Value->Shared->Prop} {s:Shared}
theorem GG {t sl:Addr} {items:Array Value} {vl vu:Value} {lo hi:Option Int} {Q:Value->Shared->Prop} (ht:IsTup s.heap t items) (hs:s.heap.IsSliceOf sl vl vu .none) (pl:IsPart vl lo) (pu:IsPart vu hi)
  (hw:sIx items.size 0 lo=0/\sIx items.size items.size hi=items.size) (h:Q (.ref t) s):wpAny (model prog w) A (getItem (.ref t) (.ref sl)) Q E s:=by
 obtain ⟨os,hos,hcs,hds⟩:=id hs
 have hTs:s.TypeIs (.ref sl) "slice":=⟨os,hos,hcs⟩
 unfold getItem
 try with_reducible refine wpAny_holding ?_
 first | refine wpAny_bind (wpAny_pure ?_) | skip
 refine wpAny_bind (wpAny_sequenceKey ht.typeIs (by decide) ?_)
 refine wpAny_bind (wpAny_callSpecial?_slot (name:=Str.ofString "__getitem__") ht.typeIs PyProof.Rows.slot_tuple_getitem
  (wpAny_call_entry PyProof.Rows.slot_tuple_getitem ht.typeIs entry_tuple_getitem ?_ (args_tuple_getitem _ _)))
 show wpAny _ _ (Builtin.Tuple.tupleItemsOf (.ref t) >>= _) _ _ s
 refine wpAny_bind (tupleItemsOf_ ht ?_)
 refine wpAny_bind (wpAny_typeOf hTs ?_)
 rw [if_pos (by decide)]
 refine wpAny_bind (Ew hs pl pu ?_)
 have hyes:(((sIx items.size 0 lo:Nat):Int) == 0 && (1:Int) == 1 && (sIx items.size items.size hi - sIx items.size 0 lo) == items.size)=true:=by
  rw [hw.1,hw.2]
  simp
 show wpAny _ _ (if (((sIx items.size 0 lo:Nat):Int) == 0 && (1:Int) == 1 && (sIx items.size items.size hi - sIx items.size 0 lo) == items.size)=true then _ else _) _ _ s
 rw [if_pos hyes]
 refine wpAny_bind ?_
 unfold Builtin.Tuple.tupleIsExact
 refine wpAny_bind (wpAny_typeOf ht.typeIs (wpAny_pure ?_))
 rw [if_pos (by decide)]
 exact wpAny_bind (wpAny_rule (wpAny_pure ⟨_,rfl,wpAny_pure h⟩))
end
end HT
namespace L2
open PySem PySem.Spec PyProof.Rows
def Y1 (K:Fg):V->Option Int->Option Int->Hp->VK->Prop:=fun x lo hi H Q=>∃ a xs,x=.ref a/\SqT K H a xs/\(HT.sIx xs.length 0 lo=0/\HT.sIx xs.length xs.length hi=xs.length)/\Q (.ref a) H
theorem U5 {X:Cx}:SlR X (Y1 X.K):=by
 intro pins s σ H x v vl vu lo hi sl Q I rx hs pl pu h
 obtain ⟨a,xs,rfl,hx,hw,q⟩:=h
 cases rx
 obtain ⟨its,r,ht,hz⟩:=I.tuple hx
 have hlen:its.toArray.size=xs.length:=by rw [List.size_toArray];exact r.length.symm
 refine ⟨"tuple",_,PyProof.Rows.slot_tuple_getitem.lookup,ht.typeIs,?_⟩
 exact HT.GG ht hs pl pu (by rw [hlen];exact hw) ⟨.ref a,H,I,rfl,q⟩
end L2
namespace L2
open PySem PySem.Spec PySem.W PyProof.Rows
def Df:List Int->Nat
 | []=>0
 | n :: ns=>Builtin.Int.intBits n+1+Df ns
theorem Ig:∀ ns:List Int,WData.weightAll (ns.map WData.int)=Df ns
 | []=>by simp [WData.weightAll,Df]
 | n :: ns=>by
  simp only [List.map_cons,WData.weightAll,Df,WData.weight,Ig ns]
  rfl
theorem NO {l:PySem.W.OpenLaw} {n k:Nat} {q:Program} {loose:List Str} {XP:(Str->Option Value)->Heap->Prop} {YP:World->Heap->Prop} {d:DefRec} {K:Params->Fg} {CX:CXT} {sp:Fg->Sp} {x:Str}
  (hn:l.most=some n) (hn2:n<=sizeLine) (hdf:d.params.defaults=[]) (hr:EE k callerA)
  (hY:∀ (w:World) (h:Heap),YP w h->(K w.params).In h)
  (F:∀ (w:World) (mg:Str->Option Value) (fa:Addr) (h:Heap),(K w.params).In h->h.Ns mainGlobals mg->mg d.name=some (.ref fa) ->
   ∃ fd:FuncData,(∀ (s:Shared) (u:Value),BindsTo s fd ⟨[u],[]⟩ [(x,u)]) /\
    ∀ base:Heap,(K w.params).In base->base.Ns mainGlobals mg->Dv l.prog w (K w.params) mg base CX k fa fd [x] (sp (K w.params)))
  (hsp:∀ (K:Fg) (H:Hp) (a:Addr) (ns:List Int),ns.length<=n->Df ns<=2 ^ 20->Xd H->SqL K H a (ns.map V.int)->sp K [.ref a] H (fun v _=>v=.bl true) fun _ _ _=>False)
  (hCX:∀ (H:Hp) (s:Shared) (e:Value) (s':Shared),CX [] H s (fun _ _ _=>False) e s'->False) :
  PySem.W.WalkO q loose XP YP l.row.toRowW d [] (fun f vs=>PySem.call f vs):=by
 intro w s₀ s₁ mg mb G Y fa o pm cd doc dV kV ho hd hcd hD hmg hg args vals as hpre hlay hrd hwl hlo
 obtain rfl:dV=.none:=Dflts.none hD hdf
 obtain rfl:kV=.none:=Dflts.noKw hD
 obtain ⟨a,vs,ns,rfl,rfl,hobj,hints,hlen⟩:=Att.N6 hn hpre hwl
 have hw:Df ns<=2 ^ 20:=by
  have h1:(WData.list (ns.map WData.int)).layable=true:=by
   unfold WData.layableAll at hlay
   simpa using hlay
  unfold WData.layable at h1
  rw [Bool.and_eq_true] at h1
  have h2:=of_decide_eq_true h1.2
  simp only [WData.weight] at h2
  rw [<- Ig]
  exact h2
 have KX:=hY w _ Y
 obtain ⟨fd,hb,hF⟩:=F w mg fa _ KX G.T.g hmg
 refine PySem.W.enter_call (codeAny_mono (QU KX G.T.g G.T.b G.T.builtins G.T.nolimit hg hobj hints (Nat.le_trans hlen hn2) hr hF hb (fun H hO hS=>hsp (K w.params) H a ns hlen hw hO hS) fun H e s'=>hCX H s₁ e s') fun r s' hq=>?_)
 obtain ⟨rfl,h2,h3,h4⟩:=hq
 exact ⟨.inl ⟨.bool true,.bool true,[],rfl,fun _=>rfl,.bool true,Att.Oi l _,fun _=>⟨List.Pairwise.nil,fun _ hm=>(nomatch hm)⟩⟩,h2,h3,h4⟩
end L2
namespace L2
open PySem PySem.Spec
section
variable {prog:Program} {w:World} {K:Type} [DecidableEq K] {knd:KeyKind prog w K} {A:Around} {E:Value->Shared->Prop} {s:Shared}
end
section
variable {X:Cx} {pins:List (Addr×Obj)} {σ:St} {H:Hp} {s:Shared} {a:Addr} {A:Around} {E:Value->Shared->Prop}
variable {o e f:Expr} {td ty tx:TE} {apos cpos:Pos}
end
section
variable {X:Cx} {pins:List (Addr×Obj)} {σ:St} {H:Hp} {s:Shared} {a:Addr} {o:Obj} {kvs:List (Key×V)}
end
section
variable {X:Cx} {tg:Expr}
end
section
variable {X:Cx}
theorem Ie (hc:X.calm=true):DU X (.type "list") (fun xs H Q=>∃ p kvs,xs=[.ref p]/\Rd H p (.dK kvs)/\∀ l,H l=none->Q (.ref l) (upd H l (.lst (kvs.map fun kv=>kV kv.1)))):=by
 intro pins s σ H xs us Q I r h
 obtain ⟨p,kvs,rfl,hp,q⟩:=h
 obtain ⟨u,rfl,rx⟩:=vals1 r
 cases rx
 obtain ⟨z,hd,vs,rel,dd⟩:=LH I.hok hp
 obtain ⟨ep,da⟩:=dd.dictAt
 have hlen:kvs.length=vs.length:=Paired.length rel
 refine PySem.W.kdl_call (PySem.W.kdl_dict (ep:=ep) hd) (I.ok.hd hc) da (by rw [<- hlen];exact z) fun h' tk acc c' kp e hacc=>?_
 refine ⟨.ref s.heap.objs.size,_,I.laid (t':=tk) kp (Nat.le_refl _) (show C3 X.prog X.w _ h' _ (.lst (kvs.map fun kv=>kV kv.1)) from ⟨by rw [List.length_map];exact z,acc.toList,c',NP rel hacc,by simpa using e⟩),rfl,q _ (I.hok.fresh (Nat.le_refl _))⟩
theorem Nz:DU X (.builtin "len") (fun xs H Q=>∃ a kvs,xs=[V.ref a]/\Rd H a (.dK kvs)/\Q (.int kvs.length) H):=by
 intro pins s σ H xs us Q I r h
 obtain ⟨a,kvs,rfl,ha,q⟩:=h
 obtain ⟨u,rfl,ru⟩:=vals1 r
 cases ru
 exact Yo I ha fun t s' I'=>⟨.int kvs.length,H,I',⟨t,rfl⟩,q⟩
end
end L2
namespace PySem
open PyProof.Rows
namespace So
section
variable {prog:Program} {w:World} {A:Around} {E:Value->Shared->Prop} {s:Shared}
end
end So
end PySem
namespace PySem
open PyProof.Rows
namespace So
section
variable {prog:Program} {w:World} {A:Around} {E:Value->Shared->Prop} {s:Shared}
end
end So
end PySem
namespace PySem
open PyProof.Rows
namespace So
section
variable {prog:Program} {w:World} {A:Around} {E:Value->Shared->Prop} {s:Shared}
end
end So
end PySem
namespace L2
open PySem PySem.Spec
section
variable {X:Cx} {pins:List (Addr×Obj)} {σ:St} {H:Hp} {s:Shared}
end
end L2
namespace PySem
open PyProof.Rows (IsTup)
namespace Rv
section
variable {prog:Program} {w:World} {A:Around} {E:Value->Shared->Prop} {s:Shared}
end
end Rv
end PySem
namespace L2
open PySem PySem.Spec PyProof.Rows
end L2
namespace L2
open PySem PySem.Spec
section
variable {X:Cx} {tg:Expr}
end
end L2
namespace L2
open PySem PySem.Spec PyProof.Rows PySem.W
theorem OJ {h:Heap}:∀ (K:Fg),(K.map (·.1)).map h.get?=K.map (fun p=>some p.2)->K.In h
 | [],_=>fun a o e=>by cases e
 | p :: K,hk=>fun a o e=>by
  simp only [List.map_cons,List.cons.injEq] at hk
  rw [List.lookup_cons] at e
  by_cases q:a=p.1
  ·subst q
   rw [show (p.1 == p.1)=true by simp] at e
   cases e
   exact hk.1
  ·rw [show (a == p.1)=false by simpa using q] at e
   exact OJ K hk.2 a o e
theorem MP {l:PySem.W.OpenLaw} {n k N tk:Nat} {q:Program} {loose:List Str} {XP:(Str->Option Value)->Heap->Prop} {d:DefRec} {K:Params->Fg} {as:List Addr} {CX:CXT} {sp:Fg->Sp} {x:Str}
  (hn:l.most=some n) (hn2:n<=sizeLine) (hdf:d.params.defaults=[]) (hr:EE k callerA)
  (hK:∀ P:Params,as=(K P).map (·.1))
  (F:∀ (w:World) (mg:Str->Option Value) (fa:Addr) (h:Heap),(K w.params).In h->h.Ns mainGlobals mg->mg d.name=some (.ref fa) ->
   ∃ fd:FuncData,(∀ (s:Shared) (u:Value),BindsTo s fd ⟨[u],[]⟩ [(x,u)]) /\
    ∀ base:Heap,(K w.params).In base->base.Ns mainGlobals mg->Dv l.prog w (K w.params) mg base CX k fa fd [x] (sp (K w.params)))
  (hsp:∀ (K:Fg) (H:Hp) (a:Addr) (ns:List Int),ns.length<=n->Df ns<=2 ^ 20->Xd H->SqL K H a (ns.map V.int)->sp K [.ref a] H (fun v _=>v=.bl true) fun _ _ _=>False)
  (hCX:∀ (H:Hp) (s:Shared) (e:Value) (s':Shared),CX [] H s (fun _ _ _=>False) e s'->False) :
  PySem.W.WalkX q loose XP (PySem.W.X.obsZ as) (PySem.W.X.valZ K N tk) l.row.toRowW d [] (fun f vs=>PySem.call f vs):=by
 intro w s₀ s₁ mg mb G Y fa o pm cd doc dV kV ho hd hcd hD hmg hg args vals ads hL hpre hlay hrd hwl hlo
 have W:=NO (l:=l) (q:=q) (loose:=loose) (XP:=XP) (YP:=fun w h=>(K w.params).In h) (d:=d) (K:=K) (CX:=CX) (sp:=sp) (x:=x) hn hn2 hdf hr (fun _ _ h=>h) F hsp hCX
 refine W w s₀ s₁ mg mb G ?_ fa o pm cd doc dV kV ho hd hcd hD hmg hg args vals ads hpre hlay hrd hwl hlo
 have h1:as.map s₀.heap.get?=(K w.params).map (fun p=>some p.2):=congrArg Prod.fst Y
 rw [hK w.params] at h1
 exact fun a o e=>hL.keeps a o (OJ _ h1 a o e)
end L2
namespace L2
open PySem PySem.Spec PyProof.Rows
section
variable {M:Model} {A:Around} {E:Value->Shared->Prop} {s:Shared}
end
section
variable {X:Cx} {σ:St} {H:Hp} {s:Shared} {h':Heap} {ch:List Addr}
end
section
variable {X:Cx} {σ:St} {H:Hp} {s:Shared} {a:Addr} {c fl:Value} {T:Option Addr} {M:Model} {A:Around} {E:Value->Shared->Prop} {Q:Unit->Shared->Prop}
end
section
variable {X:Cx} {Z Z':XE} {e:Value} {s s':Shared} {pins:List (Addr×Obj)} {σ:St} {H:Hp}
end
section
variable {P:Program} {w:World} {K:Fg} {mg:Str->Option Value} {base:Heap} {N:List Str} {qual:Str} {scope:Scope} {f:Addr} {cd:Value} {A:Around} {outer:List Env} {s:Shared} {H:Hp} {E:XK}
end
section
variable {X:Cx} {k:Nat} {f C:Addr} {fd:FuncData} {ps:List Str} {sp:Sp} {Z:XE} {x m:Str} {p pos apos:Pos} {e o:Expr} {es:List Expr} {ta:TE} {t:TA}
end
section
variable {X:Cx} {C:Addr} {Z:XE} {x:Str} {np cpos pos:Pos} {e:Expr} {es:List Expr} {t:TA}
end
def exO (c:Value) (a:Addr):HO:=.ext fun h=>∃ o vs,h.get? a=some o/\o.cls=c/\o.dict=none/\o.data=.fields vs
section
variable {X:Cx} {pins:List (Addr×Obj)} {σ:St} {H:Hp} {s:Shared} {a:Addr}
end
section
variable {X:Cx} {st:Stmt} {rest:List Stmt} {t u:TS}
end
section
variable {X:Cx} {C:Addr} {x n:Str} {i:Nat} {np pos hpos:Pos} {body suite:List Stmt} {b₀:Stmt} {tb:Ends->TS} {th:TS}
end
end L2
namespace PySem.W
open PySem PySem.Spec PySem.Calls PyProof.Rows
section
variable {prog:Program} {w:World} {A:Around} {E:Value->Shared->Prop} {K:Frag} {x D:Addr} {ox:Obj}
end
end PySem.W
namespace L2
open PySem PySem.Spec PyProof.Rows
section
variable {X:Cx}
end
end L2
namespace L2
open PySem PySem.Spec PySem.W PyProof.Rows
end L2
namespace L2
open PySem PySem.Spec PyProof.Rows
section
variable {X:Cx} {k:Nat} {C:Addr} {ps:List Str} {sp:Sp} {Z:XE} {x m:Str} {p pos apos:Pos} {e o:Expr} {es:List Expr} {ta:TE} {t:TA}
end
section
variable {X:Cx} {v:Expr} {ta:TE} {a:Str} {j:Nat} {cp fp jp:Pos}
end
section
variable {X:Cx}
theorem Ro (hc:X.calm=true):DU X (.builtin "any") (fun xs H Q=>∃ (l:Addr) (bs:List Bool),xs=[.ref l]/\SqL X.K H l (bs.map V.bl)/\Q (.bl (bs.any id)) H):=by
 intro pins s σ H xs us Q I r h
 obtain ⟨l,bs,rfl,hq,q⟩:=h
 obtain ⟨u,rfl,rx⟩:=vals1 r
 cases rx
 obtain ⟨its,rv,pl,hz⟩:=I.list hq
 have hb:=FK rv
 have hl:=pl.isList
 have hlt:l < s.heap.objs.size:=by obtain ⟨_,e,_⟩:=hl;exact Heap.lt_size e
 refine call_any_walk (wpAny_pyIter_list hl ?_)
 refine ⟨s.heap.objs.size,[s.heap.objs.size,l],[s.heap.objs.size],its.toArray.size,_,_,fun i=>(bs[i]?).getD false,rfl,Walks.list (A:=X.A.in1) (I.ok.hd hc) _ l (Nat.ne_of_lt hlt) its.toArray,
  ⟨⟨_,Heap.get?_push_size _ rfl,rfl,rfl⟩,hl.push _⟩,fun i v s' Q' E' hP hQ=>?_,fun h' tk hk=>?_⟩
 ·have e:its[i]?=some v:=by simpa using hP
  rw [hb,List.getElem?_map] at e
  cases eb:bs[i]? with
  | none=>rw [eb] at e;cases e
  | some b =>
   rw [eb] at e
   have e':Value.bool b=v:=Option.some.inj e
   subst e'
   simp only [eb,Option.getD_some] at hQ
   exact wpAny_truthy_bool hQ
 ·have e:((List.range its.toArray.size).any fun i=>(bs[i]?).getD false)=bs.any id:=by
   have hlen:its.toArray.size=bs.length:=by rw [hb];simp
   rw [hlen]
   rw [Bool.eq_iff_iff,List.any_eq_true,List.any_eq_true]
   constructor
   ·rintro ⟨i,hi,hh⟩
    have hi':=List.mem_range.mp hi
    exact ⟨bs[i],List.getElem_mem hi',by simpa [List.getElem?_eq_getElem hi'] using hh⟩
   ·rintro ⟨b,hm,hh⟩
    obtain ⟨i,hi,rfl⟩:=List.getElem_of_mem hm
    exact ⟨i,List.mem_range.mpr hi,by simpa [List.getElem?_eq_getElem hi] using hh⟩
  rw [e]
  have kp:∀ b o,s.heap.get? b=some o->h'.get? b=some o:=fun b o e=>hk b o (fun hm=>by rw [List.mem_singleton.mp hm] at e;exact Nat.lt_irrefl _ (Heap.lt_size e)) (Heap.get?_push_of_some _ e)
  exact ⟨.bl _,H,I.kept kp,rfl,q⟩
def ipS:TIp:=fun x y H Q=>∃ i j,x=.str i/\y=.str j/\i.length+j.length<=sizeLine/\Q (.str (i++j)) H
theorem TU:PIp X .Add ipS:=by
 intro pins s σ H x y v u Q I r1 r2 h
 obtain ⟨i,j,e1,e2,hl,q⟩:=h
 subst e1;subst e2
 obtain ⟨t,rfl⟩:=r1
 obtain ⟨t',rfl⟩:=r2
 exact iadd_str (fun t2 tk=>⟨.str _,H,I.tok _,⟨_,rfl⟩,q⟩) hl
end
section
variable {X:Cx} {v:Expr} {ta:TE} {fp:Pos}
def tFv (ta:TE):TE:=fun σ H Q=>ta σ H fun x H1=>∃ z,x=.str z/\z.length<=sizeLine/\Q (.str z) H1
theorem XI (hv:PE X v ta):PE X (.FormattedValue v (-1) none fp) (tFv ta):=by
 intro pins s σ H Q I h
 refine wpAny_FormattedValue_plain (thn (hv pins s σ H _ I h) fun u s1 ⟨x,H1,I1,r1,z,ez,hz,q⟩=>?_)
 subst ez
 obtain ⟨t,rfl⟩:=r1
 exact formatField_str (fun t' tk=>⟨.str z,H1,I1.tok _,⟨_,rfl⟩,q⟩) hz
def tJs:List TE->Str->TE
 | [],acc=>fun _ H Q=>acc.length<=sizeLine/\Q (.str acc) H
 | t :: ts,acc=>fun σ H Q=>t σ H fun x H1=>∃ z,x=.str z/\(acc++z).length<=sizeLine/\tJs ts (acc++z) σ H1 Q
inductive PEs (X:Cx):List Expr->List TE->Prop
 | nil:PEs X [] []
 | cons {e:Expr} {t:TE} {es:List Expr} {ts:List TE} (h:PE X e t) (r:PEs X es ts):PEs X (e :: es) (t :: ts)
theorem QV {X:Cx}:∀ {es:List Expr} {ts:List TE},PEs X es ts->∀ (acc:Str) {pins:List (Addr×Obj)} {s:Shared} {σ:St} {H:Hp} {Q:VK},Inv X pins σ H s->tJs ts acc σ H Q ->
  Joins (model X.prog X.w) X.A X.xe (evalEach es X.env) acc (fun out s₁=>out.length<=sizeLine/\EP X pins σ Q (.str out s₁.toks) { s₁ with toks:=s₁.toks+1 }) s:=by
 intro es ts p
 induction p with
 | nil =>
  intro acc pins s σ H Q I h
  exact ⟨h.1,.str acc,H,I.tok _,⟨_,rfl⟩,h.2⟩
 | @cons e t es ts h r ih =>
  intro acc pins s σ H Q I q
  show wpAny _ _ (eval e X.env) _ _ s
  refine thn (h pins s σ H _ I q) fun u s1 ⟨x,H1,I1,r1,z,ez,hz,q1⟩=>?_
  subst ez
  obtain ⟨t,rfl⟩:=r1
  exact ⟨z,t,rfl,hz,ih (acc++z) I1 q1⟩
theorem XF {v1 v2:Expr} {es:List Expr} {ts:List TE} {jp:Pos} (p:PEs X (v1 :: v2 :: es) ts):PE X (.JoinedStr (v1 :: v2 :: es) jp) (tJs ts Str.empty):=fun pins s σ H Q I h =>
 wpAny_JoinedStr (QV p Str.empty I h)
end
end L2
namespace FL
open PySem PySem.Spec L2
inductive T where
 | non | bl (b:Bool) | int (i:Int) | str (x:Str)
 | tup (ts:List T) | lst (ts:List T)
 | scr (ts:List T)
 | dK (ks:List Key) (ts:List T) | dT (ks:List (List Key)) (ts:List T)
 | ins (C:Addr) (fs:List Str) (ts:List T)
 | dF (ks:List Key) (ts:List T)
 | exn (c:Str)
inductive FO where
 | lst (ts:List T) | dK (ks:List Key) (ts:List T) | dT (ks:List (List Key)) (ts:List T)
 | ins (C:Addr) (fs:List Str) (os:List FO) | val (t:T)
 | los (os:List FO) | tpl (os:List FO)
inductive Sl where
 | val (t:T) | own (o:FO) | bor (o:FO)
abbrev FS:=List (Option Sl)
inductive Rv where
 | t (t:T) | nw (o:FO) | rf (i:Nat)
inductive Out (α:Type) where
 | ok (a:α) (fs:FS) | exc (c:Str) (fs:FS) | bad
inductive SO where
 | nx (fs:FS) | ret (r:Rv) (fs:FS) | brk (fs:FS) | cnt (fs:FS) | exc (c:Str) (fs:FS) | bad
structure Wd where
 f:Addr->Prop
 p:Addr->Prop
instance:CoeFun Wd fun _=>Addr->Prop:=⟨Wd.f⟩
structure Le (F:Wd) (H:Hp) (F':Wd) (H':Hp):Prop where
 f:∀ a,F a->F' a/\H' a=H a
 p:∀ a,F.p a->F'.p a/\H' a=H a
theorem Le.refl {F:Wd} {H:Hp}:Le F H F H:=⟨fun _ h=>⟨h,rfl⟩,fun _ h=>⟨h,rfl⟩⟩
theorem Le.trans {F F1 F2:Wd} {H H1 H2:Hp} (x:Le F H F1 H1) (y:Le F1 H1 F2 H2):Le F H F2 H2 :=
 ⟨fun a h=>let ⟨p,q⟩:=x.f a h;let ⟨p2,q2⟩:=y.f a p;⟨p2,q2.trans q⟩,fun a h=>let ⟨p,q⟩:=x.p a h;let ⟨p2,q2⟩:=y.p a p;⟨p2,q2.trans q⟩⟩
section
variable (K:Fg)
def KL (a:Addr) (vs:List V):Prop:=∃ (o:Obj) (its:Array Value) (n:Nat),K.lookup a=some o/\o.cls=.type "list"/\o.dict=none/\o.data=.seq its n/\its.size<=sizeLine/\Vals vs its.toList
def StL (F:Wd) (H:Hp) (a:Addr) (vs:List V):Prop:=(F a/\Rd H a (.lst vs))∨KL K a vs
def StT (F:Wd) (H:Hp) (a:Addr) (vs:List V):Prop:=K=K/\F a/\H a=some (.tup vs)
end
section
variable {K:Fg} {F F':Wd} {H H':Hp} {a:Addr} {vs:List V}
theorem StL.sq (h:StL K F H a vs):SqL K H a vs:=by
 rcases h with ⟨_,h⟩ | h
 ·exact .inl h
 ·exact .inr h
theorem StT.sq (h:StT K F H a vs):SqT K H a vs:=SqT.of h.2.2
theorem Rd.same {u:HO} (h:Rd H a u) (e:H' a=H a):Rd H' a u:=by
 unfold Rd at *
 rw [e]
 exact h
theorem StL.le (h:StL K F H a vs) (l:Le F H F' H'):StL K F' H' a vs:=by
 rcases h with ⟨f,h⟩ | h
 ·exact .inl ⟨(l.f a f).1,FL.Rd.same h (l.f a f).2⟩
 ·exact .inr h
theorem StT.le (h:StT K F H a vs) (l:Le F H F' H'):StT K F' H' a vs:=⟨rfl,(l.f a h.2.1).1,(l.f a h.2.1).2.trans h.2.2⟩
end
def Yp (K:Fg) (c:Str):Option Addr:=match PySem.W.nsIn K mainGlobals c with
 | some (some (.ref C))=>some C
 | _=>none
section
variable (K:Fg) (F:Wd) (H:Hp)
mutual
def A3:T->V->Prop
 | .non,v=>v=.non
 | .bl b,v=>v=.bl b
 | .int i,v=>v=.int i
 | .str x,v=>v=.str x
 | .tup ts,v=>∃ a vs,v=.ref a/\StT K F H a vs/\Ag ts vs
 | .lst ts,v=>∃ a vs,v=.ref a/\F a/\H a=some (.lst vs)/\Ag ts vs
 | .scr ts,v=>∃ a vs,v=.ref a/\StL K F H a vs/\Ag ts vs
 | .dK ks ts,v=>∃ a kvs,v=.ref a/\F a/\Rd H a (.dK kvs)/\kvs.map (·.1)=ks/\Ag ts (kvs.map (·.2))
 | .dT ks ts,v=>∃ a kvs,v=.ref a/\F a/\H a=some (.dT kvs)/\kvs.map (·.1)=ks/\Ag ts (kvs.map (·.2))
 | .ins C fs ts,v=>∃ a dx kvs,v=.ref a/\F a/\H a=some (.ins C dx kvs)/\kvs.map (·.1)=fs/\Ag ts (kvs.map (·.2))
 | .dF ks ts,v=>∃ a kvs,v=.ref a/\F a/\(∃ o,H a=some (.frz o (.dK kvs)))/\kvs.map (·.1)=ks/\Ag ts (kvs.map (·.2))
 | .exn c,v=>∃ a C,v=.ref a/\F a/\H a=some (exO (.ref C) a)/\Yp K c=some C
def Ag:List T->List V->Prop
 | [],vs=>vs=[]
 | t :: ts,vs=>∃ v r,vs=v :: r/\A3 t v/\Ag ts r
end
mutual
def AQ:FO->V->List Addr->Prop
 | .val t,v,L=>L=[]/\A3 K F H t v
 | .lst ts,v,L=>∃ a vs,v=.ref a/\H a=some (.lst vs)/\Ag K F H ts vs/\L=[a]
 | .dK ks ts,v,L=>∃ a kvs,v=.ref a/\H a=some (.dK kvs)/\kvs.map (·.1)=ks/\Ag K F H ts (kvs.map (·.2))/\L=[a]
 | .dT ks ts,v,L=>∃ a kvs,v=.ref a/\H a=some (.dT kvs)/\kvs.map (·.1)=ks/\Ag K F H ts (kvs.map (·.2))/\L=[a]
 | .ins C fs os,v,L=>∃ a dx kvs L',v=.ref a/\H a=some (.ins C dx kvs)/\kvs.map (·.1)=fs/\AM os (kvs.map (·.2)) L'/\L=a :: L'
 | .los os,v,L=>∃ a vs L',v=.ref a/\H a=some (.lst vs)/\AM os vs L'/\L=a :: L'
 | .tpl os,v,L=>∃ a vs L',v=.ref a/\H a=some (.tup vs)/\AM os vs L'/\L=a :: L'
def AM:List FO->List V->List Addr->Prop
 | [],vs,L=>vs=[]/\L=[]
 | o :: os,vs,L=>∃ v r L1 L2,vs=v :: r/\AQ o v L1/\AM os r L2/\L=L1++L2
end
mutual
def toT:FO->T
 | .val t=>t
 | .lst ts=>.lst ts
 | .dK ks ts=>.dK ks ts
 | .dT ks ts=>.dT ks ts
 | .ins C fs os=>.ins C fs (SF os)
 | .los os=>.lst (SF os)
 | .tpl os=>.tup (SF os)
def SF:List FO->List T
 | []=>[]
 | o :: os=>toT o :: SF os
end
def AG:FS->St->List Addr->Prop
 | [],σ,L=>σ=[]/\L=[]
 | none :: r,σ,L=>∃ v σ',σ=v :: σ'/\AG r σ' L
 | some (.val t) :: r,σ,L=>∃ v σ',σ=some v :: σ'/\A3 K F H t v/\AG r σ' L
 | some (.own o) :: r,σ,L=>∃ v σ' L1 L2,σ=some v :: σ'/\AQ K F H o v L1/\AG r σ' L2/\L=L1++L2
 | some (.bor o) :: r,σ,L=>∃ v σ' L1 L2,σ=some v :: σ'/\AQ K F H o v L1/\AG r σ' L2/\L=L1++L2
end
section
variable {K:Fg} {F F':Wd} {H H':Hp}
mutual
theorem A3.le (l:Le F H F' H'):∀ {t:T} {v:V},A3 K F H t v->A3 K F' H' t v
 | .non,_,h=>h
 | .bl _,_,h=>h
 | .int _,_,h=>h
 | .str _,_,h=>h
 | .tup ts,_,h=>by
  simp only [A3] at h ⊢
  obtain ⟨a,vs,e,s,r⟩:=h
  exact ⟨a,vs,e,s.le l,Ag.le l r⟩
 | .lst ts,_,h=>by
  simp only [A3] at h ⊢
  obtain ⟨a,vs,e,f,s,r⟩:=h
  exact ⟨a,vs,e,(l.f a f).1,(l.f a f).2.trans s,Ag.le l r⟩
 | .scr ts,_,h=>by
  simp only [A3] at h ⊢
  obtain ⟨a,vs,e,s,r⟩:=h
  exact ⟨a,vs,e,s.le l,Ag.le l r⟩
 | .dK ks ts,_,h=>by
  simp only [A3] at h ⊢
  obtain ⟨a,kvs,e,f,s,k,r⟩:=h
  exact ⟨a,kvs,e,(l.f a f).1,FL.Rd.same s (l.f a f).2,k,Ag.le l r⟩
 | .dT ks ts,_,h=>by
  simp only [A3] at h ⊢
  obtain ⟨a,kvs,e,f,s,k,r⟩:=h
  exact ⟨a,kvs,e,(l.f a f).1,(l.f a f).2.trans s,k,Ag.le l r⟩
 | .ins C fs ts,_,h=>by
  simp only [A3] at h ⊢
  obtain ⟨a,dx,kvs,e,f,s,k,r⟩:=h
  exact ⟨a,dx,kvs,e,(l.f a f).1,(l.f a f).2.trans s,k,Ag.le l r⟩
 | .dF ks ts,_,h=>by
  simp only [A3] at h ⊢
  obtain ⟨a,kvs,e,f,⟨o,s⟩,k,r⟩:=h
  exact ⟨a,kvs,e,(l.f a f).1,⟨o,(l.f a f).2.trans s⟩,k,Ag.le l r⟩
 | .exn c,_,h=>by
  simp only [A3] at h ⊢
  obtain ⟨a,C,e,f,s,k⟩:=h
  exact ⟨a,C,e,(l.f a f).1,(l.f a f).2.trans s,k⟩
theorem Ag.le (l:Le F H F' H'):∀ {ts:List T} {vs:List V},Ag K F H ts vs->Ag K F' H' ts vs
 | [],_,h=>h
 | t :: ts,_,h=>by
  simp only [Ag] at h ⊢
  obtain ⟨v,r,e,h1,h2⟩:=h
  exact ⟨v,r,e,A3.le l h1,Ag.le l h2⟩
end
theorem Ag.len:∀ {ts:List T} {vs:List V},Ag K F H ts vs->vs.length=ts.length
 | [],_,h=>by simp only [Ag] at h;subst h;rfl
 | t :: ts,_,h=>by
  simp only [Ag] at h
  obtain ⟨v,r,rfl,_,h2⟩:=h
  simp [Ag.len h2]
theorem Ag.at:∀ {ts:List T} {vs:List V} {i:Nat} {t:T},Ag K F H ts vs->ts[i]?=some t->∃ v,vs[i]?=some v/\A3 K F H t v
 | [],_,_,_,_,e=>by simp at e
 | t :: ts,_,0,_,h,e=>by
  simp only [Ag] at h
  obtain ⟨v,r,rfl,h1,_⟩:=h
  simp at e;subst e
  exact ⟨v,rfl,h1⟩
 | t :: ts,_,i+1,_,h,e=>by
  simp only [Ag] at h
  obtain ⟨v,r,rfl,_,h2⟩:=h
  obtain ⟨u,e1,e2⟩:=Ag.at (i:=i) h2 (by simpa using e)
  exact ⟨u,by simpa using e1,e2⟩
theorem Ag.app:∀ {ts us:List T} {vs ws:List V},Ag K F H ts vs->Ag K F H us ws->Ag K F H (ts++us) (vs++ws)
 | [],_,_,_,h,h'=>by simp only [Ag] at h;subst h;exact h'
 | t :: ts,us,_,ws,h,h'=>by
  simp only [Ag] at h
  obtain ⟨v,r,rfl,h1,h2⟩:=h
  show Ag K F H (t :: (ts++us)) (v :: (r++ws))
  simp only [Ag]
  exact ⟨v,r++ws,rfl,h1,Ag.app h2 h'⟩
theorem Ag.one {t:T} {v:V} (h:A3 K F H t v):Ag K F H [t] [v]:=by
 simp only [Ag]
 exact ⟨v,[],rfl,h,rfl⟩
theorem Ag.take:∀ {ts:List T} {vs:List V} (n:Nat),Ag K F H ts vs->Ag K F H (ts.take n) (vs.take n)
 | [],_,n,h=>by simp only [Ag] at h;subst h;simp [Ag]
 | t :: ts,_,0,h=>by simp [Ag]
 | t :: ts,_,n+1,h=>by
  simp only [Ag] at h
  obtain ⟨v,r,rfl,h1,h2⟩:=h
  simp only [List.take_succ_cons,Ag]
  exact ⟨v,_,rfl,h1,Ag.take n h2⟩
theorem Ag.drop:∀ {ts:List T} {vs:List V} (n:Nat),Ag K F H ts vs->Ag K F H (ts.drop n) (vs.drop n)
 | [],_,n,h=>by simp only [Ag] at h;subst h;simp [Ag]
 | t :: ts,_,0,h=>by simpa using h
 | t :: ts,_,n+1,h=>by
  simp only [Ag] at h
  obtain ⟨v,r,rfl,h1,h2⟩:=h
  simp only [List.drop_succ_cons]
  exact Ag.drop n h2
theorem Ag.set {t:T} {v:V} (q:A3 K F H t v):∀ {ts:List T} {vs:List V} (n:Nat),Ag K F H ts vs->Ag K F H (ts.set n t) (vs.set n v)
 | [],_,n,h=>by simp only [Ag] at h;subst h;simp [Ag]
 | u :: ts,_,0,h=>by
  simp only [Ag] at h
  obtain ⟨w,r,rfl,h1,h2⟩:=h
  simp only [List.set_cons_zero,Ag]
  exact ⟨v,r,rfl,q,h2⟩
 | u :: ts,_,n+1,h=>by
  simp only [Ag] at h
  obtain ⟨w,r,rfl,h1,h2⟩:=h
  simp only [List.set_cons_succ,Ag]
  exact ⟨w,_,rfl,h1,Ag.set q n h2⟩
theorem Ag.rev:∀ {ts:List T} {vs:List V},Ag K F H ts vs->Ag K F H ts.reverse vs.reverse
 | [],_,h=>by simp only [Ag] at h;subst h;simp [Ag]
 | t :: ts,_,h=>by
  simp only [Ag] at h
  obtain ⟨v,r,rfl,h1,h2⟩:=h
  rw [List.reverse_cons,List.reverse_cons]
  exact Ag.app (Ag.rev h2) (Ag.one h1)
mutual
theorem AQ.le (l:Le F H F' H'):∀ {o:FO} {v:V} {L:List Addr},(∀ a∈L,H' a=H a)->AQ K F H o v L->AQ K F' H' o v L
 | .val t,_,L,k,h=>by
  simp only [AQ] at h ⊢
  exact ⟨h.1,h.2.le l⟩
 | .lst ts,_,L,k,h=>by
  simp only [AQ] at h ⊢
  obtain ⟨a,vs,e,s,r,rfl⟩:=h
  exact ⟨a,vs,e,(k a (by simp)).trans s,r.le l,rfl⟩
 | .dK ks ts,_,L,k,h=>by
  simp only [AQ] at h ⊢
  obtain ⟨a,vs,e,s,q,r,rfl⟩:=h
  exact ⟨a,vs,e,(k a (by simp)).trans s,q,r.le l,rfl⟩
 | .dT ks ts,_,L,k,h=>by
  simp only [AQ] at h ⊢
  obtain ⟨a,vs,e,s,q,r,rfl⟩:=h
  exact ⟨a,vs,e,(k a (by simp)).trans s,q,r.le l,rfl⟩
 | .ins C fs os,_,L,k,h=>by
  simp only [AQ] at h ⊢
  obtain ⟨a,dx,kvs,L',e,s,q,r,rfl⟩:=h
  exact ⟨a,dx,kvs,L',e,(k a (by simp)).trans s,q,AM.le l (fun b hb=>k b (List.mem_cons_of_mem _ hb)) r,rfl⟩
 | .los os,_,L,k,h=>by
  simp only [AQ] at h ⊢
  obtain ⟨a,vs,L',e,s,r,rfl⟩:=h
  exact ⟨a,vs,L',e,(k a (by simp)).trans s,AM.le l (fun b hb=>k b (List.mem_cons_of_mem _ hb)) r,rfl⟩
 | .tpl os,_,L,k,h=>by
  simp only [AQ] at h ⊢
  obtain ⟨a,vs,L',e,s,r,rfl⟩:=h
  exact ⟨a,vs,L',e,(k a (by simp)).trans s,AM.le l (fun b hb=>k b (List.mem_cons_of_mem _ hb)) r,rfl⟩
theorem AM.le (l:Le F H F' H'):∀ {os:List FO} {vs:List V} {L:List Addr},(∀ a∈L,H' a=H a)->AM K F H os vs L->AM K F' H' os vs L
 | [],_,L,k,h=>h
 | o :: os,_,L,k,h=>by
  simp only [AM] at h ⊢
  obtain ⟨v,r,L1,L2,e,h1,h2,rfl⟩:=h
  exact ⟨v,r,L1,L2,e,AQ.le l (fun a ha=>k a (List.mem_append_left _ ha)) h1,AM.le l (fun a ha=>k a (List.mem_append_right _ ha)) h2,rfl⟩
end
mutual
theorem AQ.def:∀ {o:FO} {v:V} {L:List Addr},AQ K F H o v L->∀ a∈L,H a≠none
 | .val t,_,L,h,a,m=>by
  simp only [AQ] at h
  rw [h.1] at m
  cases m
 | .lst ts,_,L,h,a,m=>by
  simp only [AQ] at h
  obtain ⟨b,vs,e,s,r,rfl⟩:=h
  rw [List.mem_singleton.mp m,s]
  simp
 | .dK ks ts,_,L,h,a,m=>by
  simp only [AQ] at h
  obtain ⟨b,vs,e,s,q,r,rfl⟩:=h
  rw [List.mem_singleton.mp m,s]
  simp
 | .dT ks ts,_,L,h,a,m=>by
  simp only [AQ] at h
  obtain ⟨b,vs,e,s,q,r,rfl⟩:=h
  rw [List.mem_singleton.mp m,s]
  simp
 | .ins C fs os,_,L,h,a,m=>by
  simp only [AQ] at h
  obtain ⟨b,dx,kvs,L',e,s,q,r,rfl⟩:=h
  rcases List.mem_cons.mp m with m | m
  ·rw [m,s]
   simp
  ·exact AM.def r a m
 | .los os,_,L,h,a,m=>by
  simp only [AQ] at h
  obtain ⟨b,vs,L',e,s,r,rfl⟩:=h
  rcases List.mem_cons.mp m with m | m
  ·rw [m,s]
   simp
  ·exact AM.def r a m
 | .tpl os,_,L,h,a,m=>by
  simp only [AQ] at h
  obtain ⟨b,vs,L',e,s,r,rfl⟩:=h
  rcases List.mem_cons.mp m with m | m
  ·rw [m,s]
   simp
  ·exact AM.def r a m
theorem AM.def:∀ {os:List FO} {vs:List V} {L:List Addr},AM K F H os vs L->∀ a∈L,H a≠none
 | [],_,L,h,a,m=>by
  simp only [AM] at h
  rw [h.2] at m
  cases m
 | o :: os,_,L,h,a,m=>by
  simp only [AM] at h
  obtain ⟨v,r,L1,L2,e,h1,h2,rfl⟩:=h
  rcases List.mem_append.mp m with m | m
  ·exact AQ.def h1 a m
  ·exact AM.def h2 a m
end
mutual
theorem AQ.frz (l:Le F H F' H):∀ {o:FO} {v:V} {L:List Addr},(∀ a∈L,F' a)->AQ K F H o v L->A3 K F' H (toT o) v
 | .val t,_,L,k,h=>by
  simp only [AQ] at h
  exact A3.le l h.2
 | .lst ts,_,L,k,h=>by
  simp only [AQ] at h
  obtain ⟨a,vs,e,s,r,rfl⟩:=h
  simp only [toT,A3]
  exact ⟨a,vs,e,k a (by simp),s,Ag.le l r⟩
 | .dK ks ts,_,L,k,h=>by
  simp only [AQ] at h
  obtain ⟨a,vs,e,s,q,r,rfl⟩:=h
  simp only [toT,A3]
  exact ⟨a,vs,e,k a (by simp),.inl s,q,Ag.le l r⟩
 | .dT ks ts,_,L,k,h=>by
  simp only [AQ] at h
  obtain ⟨a,vs,e,s,q,r,rfl⟩:=h
  simp only [toT,A3]
  exact ⟨a,vs,e,k a (by simp),s,q,Ag.le l r⟩
 | .ins C fs os,_,L,k,h=>by
  simp only [AQ] at h
  obtain ⟨a,dx,kvs,L',e,s,q,r,rfl⟩:=h
  simp only [toT,A3]
  exact ⟨a,dx,kvs,e,k a (by simp),s,q,AM.frz l (fun b hb=>k b (List.mem_cons_of_mem _ hb)) r⟩
 | .los os,_,L,k,h=>by
  simp only [AQ] at h
  obtain ⟨a,vs,L',e,s,r,rfl⟩:=h
  simp only [toT,A3]
  exact ⟨a,vs,e,k a (by simp),s,AM.frz l (fun b hb=>k b (List.mem_cons_of_mem _ hb)) r⟩
 | .tpl os,_,L,k,h=>by
  simp only [AQ] at h
  obtain ⟨a,vs,L',e,s,r,rfl⟩:=h
  simp only [toT,A3]
  exact ⟨a,vs,e,⟨rfl,k a (by simp),s⟩,AM.frz l (fun b hb=>k b (List.mem_cons_of_mem _ hb)) r⟩
theorem AM.frz (l:Le F H F' H):∀ {os:List FO} {vs:List V} {L:List Addr},(∀ a∈L,F' a)->AM K F H os vs L->Ag K F' H (SF os) vs
 | [],_,L,k,h=>by
  simp only [AM] at h
  simp only [SF,Ag]
  exact h.1
 | o :: os,_,L,k,h=>by
  simp only [AM] at h
  obtain ⟨v,r,L1,L2,e,h1,h2,rfl⟩:=h
  simp only [SF,Ag]
  exact ⟨v,r,e,AQ.frz l (fun a ha=>k a (List.mem_append_left _ ha)) h1,AM.frz l (fun a ha=>k a (List.mem_append_right _ ha)) h2⟩
end
theorem AG.len:∀ {fs:FS} {σ:St} {L:List Addr},AG K F H fs σ L->σ.length=fs.length
 | [],_,_,h=>by simp only [AG] at h;rw [h.1];rfl
 | none :: r,_,_,h=>by
  simp only [AG] at h
  obtain ⟨v,σ',rfl,h⟩:=h
  simp [AG.len h]
 | some (.val t) :: r,_,_,h=>by
  simp only [AG] at h
  obtain ⟨v,σ',rfl,_,h⟩:=h
  simp [AG.len h]
 | some (.own t) :: r,_,_,h=>by
  simp only [AG] at h
  obtain ⟨v,σ',L1,L2,rfl,_,h,_⟩:=h
  simp [AG.len h]
 | some (.bor t) :: r,_,_,h=>by
  simp only [AG] at h
  obtain ⟨v,σ',L1,L2,rfl,_,h,_⟩:=h
  simp [AG.len h]
theorem AG.le (l:Le F H F' H'):∀ {fs:FS} {σ:St} {L:List Addr},(∀ a∈L,H' a=H a)->AG K F H fs σ L->AG K F' H' fs σ L
 | [],_,_,k,h=>h
 | none :: r,_,_,k,h=>by
  simp only [AG] at h ⊢
  obtain ⟨v,σ',e,h⟩:=h
  exact ⟨v,σ',e,AG.le l k h⟩
 | some (.val t) :: r,_,_,k,h=>by
  simp only [AG] at h ⊢
  obtain ⟨v,σ',e,q,h⟩:=h
  exact ⟨v,σ',e,q.le l,AG.le l k h⟩
 | some (.own t) :: r,_,_,k,h=>by
  simp only [AG] at h ⊢
  obtain ⟨v,σ',L1,L2,e,q,h,rfl⟩:=h
  exact ⟨v,σ',L1,L2,e,q.le l fun a ha=>k a (List.mem_append_left _ ha),AG.le l (fun a ha=>k a (List.mem_append_right _ ha)) h,rfl⟩
 | some (.bor t) :: r,_,_,k,h=>by
  simp only [AG] at h ⊢
  obtain ⟨v,σ',L1,L2,e,q,h,rfl⟩:=h
  exact ⟨v,σ',L1,L2,e,q.le l fun a ha=>k a (List.mem_append_left _ ha),AG.le l (fun a ha=>k a (List.mem_append_right _ ha)) h,rfl⟩
theorem AG.def:∀ {fs:FS} {σ:St} {L:List Addr},AG K F H fs σ L->∀ a∈L,H a≠none
 | [],_,_,h,a,m=>by simp only [AG] at h;rw [h.2] at m;cases m
 | none :: r,_,_,h,a,m=>by
  simp only [AG] at h
  obtain ⟨v,σ',e,h⟩:=h
  exact AG.def h a m
 | some (.val t) :: r,_,_,h,a,m=>by
  simp only [AG] at h
  obtain ⟨v,σ',e,q,h⟩:=h
  exact AG.def h a m
 | some (.own t) :: r,_,_,h,a,m=>by
  simp only [AG] at h
  obtain ⟨v,σ',L1,L2,e,q,h,rfl⟩:=h
  rcases List.mem_append.mp m with m | m
  ·exact q.def a m
  ·exact AG.def h a m
 | some (.bor t) :: r,_,_,h,a,m=>by
  simp only [AG] at h
  obtain ⟨v,σ',L1,L2,e,q,h,rfl⟩:=h
  rcases List.mem_append.mp m with m | m
  ·exact q.def a m
  ·exact AG.def h a m
def LS (K:Fg) (F:Wd) (H:Hp):Option Sl->Option V->List Addr->Prop
 | none,_,L=>L=[]
 | some (.val t),v,L=>∃ u,v=some u/\A3 K F H t u/\L=[]
 | some (.own o),v,L=>∃ u,v=some u/\AQ K F H o u L
 | some (.bor o),v,L=>∃ u,v=some u/\AQ K F H o u L
theorem AG.cons {s:Option Sl} {r:FS} {v:Option V} {σ:St} {L1 L2:List Addr} (h1:LS K F H s v L1) (h2:AG K F H r σ L2):AG K F H (s :: r) (v :: σ) (L1++L2):=by
 cases s with
 | none =>
  simp only [LS] at h1
  subst h1
  simp only [AG]
  exact ⟨v,σ,rfl,h2⟩
 | some s =>
  cases s with
  | val t =>
   simp only [LS] at h1
   obtain ⟨u,rfl,q,rfl⟩:=h1
   simp only [AG]
   exact ⟨u,σ,rfl,q,h2⟩
  | own o =>
   simp only [LS] at h1
   obtain ⟨u,rfl,q⟩:=h1
   simp only [AG]
   exact ⟨u,σ,L1,L2,rfl,q,h2,rfl⟩
  | bor o =>
   simp only [LS] at h1
   obtain ⟨u,rfl,q⟩:=h1
   simp only [AG]
   exact ⟨u,σ,L1,L2,rfl,q,h2,rfl⟩
theorem AG.J3 {s:Option Sl} {r:FS} {σ:St} {L:List Addr} (h:AG K F H (s :: r) σ L):∃ v σ' L1 L2,σ=v :: σ'/\LS K F H s v L1/\AG K F H r σ' L2/\L=L1++L2:=by
 cases s with
 | none =>
  simp only [AG] at h
  obtain ⟨v,σ',rfl,h⟩:=h
  exact ⟨v,σ',[],L,rfl,rfl,h,rfl⟩
 | some s =>
  cases s with
  | val t =>
   simp only [AG] at h
   obtain ⟨v,σ',rfl,q,h⟩:=h
   exact ⟨some v,σ',[],L,rfl,⟨v,rfl,q,rfl⟩,h,rfl⟩
  | own o =>
   simp only [AG] at h
   obtain ⟨v,σ',L1,L2,rfl,q,h,rfl⟩:=h
   exact ⟨some v,σ',L1,L2,rfl,⟨v,rfl,q⟩,h,rfl⟩
  | bor o =>
   simp only [AG] at h
   obtain ⟨v,σ',L1,L2,rfl,q,h,rfl⟩:=h
   exact ⟨some v,σ',L1,L2,rfl,⟨v,rfl,q⟩,h,rfl⟩
theorem AG.pick:∀ {fs:FS} {σ:St} {L:List Addr} {i:Nat} {s:Option Sl},AG K F H fs σ L->fs[i]?=some s->∃ v L1 L2 L3,σ[i]?=some v/\L=L1++(L2++L3)/\LS K F H s v L2 /\
  ∀ (F':Wd) (H':Hp) (s':Option Sl) (v':Option V) (L2':List Addr),Le F H F' H'->(∀ a∈L1++L3,H' a=H a)->LS K F' H' s' v' L2'->AG K F' H' (fs.set i s') (σ.set i v') (L1++(L2'++L3))
 | [],_,_,_,_,_,e=>by simp at e
 | s :: r,_,_,0,_,h,e=>by
  obtain ⟨v,σ',L1,L2,rfl,h1,h2,rfl⟩:=h.J3
  simp at e
  subst e
  refine ⟨v,[],L1,L2,rfl,rfl,h1,fun F' H' s' v' L2' l k q=>?_⟩
  have h3:=AG.cons q (h2.le l fun a ha=>k a (by simpa using ha))
  exact h3
 | s :: r,_,_,i+1,_,h,e=>by
  obtain ⟨v,σ',L1,L2,rfl,h1,h2,rfl⟩:=h.J3
  obtain ⟨w,M1,M2,M3,e1,rfl,h3,h4⟩:=AG.pick (i:=i) h2 (by simpa using e)
  refine ⟨w,L1++M1,M2,M3,by simpa using e1,by simp,h3,fun F' H' s' v' L2' l k q=>?_⟩
  have h5:=h4 F' H' s' v' L2' l (fun a ha=>k a (by simp at ha ⊢;rcases ha with ha | ha;exact .inr (.inl ha);exact .inr (.inr ha))) q
  have h6:LS K F' H' s v L1:=by
   cases s with
   | none=>exact h1
   | some s =>
    cases s with
    | val t =>
     obtain ⟨u,e,q,z⟩:=h1
     exact ⟨u,e,q.le l,z⟩
    | own o =>
     obtain ⟨u,e,q⟩:=h1
     exact ⟨u,e,q.le l fun a ha=>k a (by simp [ha])⟩
    | bor o =>
     obtain ⟨u,e,q⟩:=h1
     exact ⟨u,e,q.le l fun a ha=>k a (by simp [ha])⟩
  have h7:=AG.cons h6 h5
  simpa using h7
mutual
theorem A3.wp {p:Addr->Prop}:∀ {t:T} {v:V},A3 K F H t v->A3 K ⟨F.f,p⟩ H t v
 | .non,_,h=>h
 | .bl _,_,h=>h
 | .int _,_,h=>h
 | .str _,_,h=>h
 | .tup ts,_,h=>by
  simp only [A3] at h ⊢
  obtain ⟨a,vs,e,s,r⟩:=h
  exact ⟨a,vs,e,s,Ag.wp r⟩
 | .lst ts,_,h=>by
  simp only [A3] at h ⊢
  obtain ⟨a,vs,e,f,s,r⟩:=h
  exact ⟨a,vs,e,f,s,Ag.wp r⟩
 | .scr ts,_,h=>by
  simp only [A3] at h ⊢
  obtain ⟨a,vs,e,s,r⟩:=h
  exact ⟨a,vs,e,s,Ag.wp r⟩
 | .dK ks ts,_,h=>by
  simp only [A3] at h ⊢
  obtain ⟨a,kvs,e,f,s,k,r⟩:=h
  exact ⟨a,kvs,e,f,s,k,Ag.wp r⟩
 | .dT ks ts,_,h=>by
  simp only [A3] at h ⊢
  obtain ⟨a,kvs,e,f,s,k,r⟩:=h
  exact ⟨a,kvs,e,f,s,k,Ag.wp r⟩
 | .ins C fs ts,_,h=>by
  simp only [A3] at h ⊢
  obtain ⟨a,dx,kvs,e,f,s,k,r⟩:=h
  exact ⟨a,dx,kvs,e,f,s,k,Ag.wp r⟩
 | .dF ks ts,_,h=>by
  simp only [A3] at h ⊢
  obtain ⟨a,kvs,e,f,s,k,r⟩:=h
  exact ⟨a,kvs,e,f,s,k,Ag.wp r⟩
 | .exn c,_,h=>by
  simp only [A3] at h ⊢
  obtain ⟨a,C,e,f,s,k⟩:=h
  exact ⟨a,C,e,f,s,k⟩
theorem Ag.wp {p:Addr->Prop}:∀ {ts:List T} {vs:List V},Ag K F H ts vs->Ag K ⟨F.f,p⟩ H ts vs
 | [],_,h=>h
 | t :: ts,_,h=>by
  simp only [Ag] at h ⊢
  obtain ⟨v,r,e,h1,h2⟩:=h
  exact ⟨v,r,e,A3.wp h1,Ag.wp h2⟩
end
mutual
theorem AQ.wp {p:Addr->Prop}:∀ {o:FO} {v:V} {L:List Addr},AQ K F H o v L->AQ K ⟨F.f,p⟩ H o v L
 | .val t,_,L,h=>by
  simp only [AQ] at h ⊢
  exact ⟨h.1,h.2.wp⟩
 | .lst ts,_,L,h=>by
  simp only [AQ] at h ⊢
  obtain ⟨a,vs,e,s,r,q⟩:=h
  exact ⟨a,vs,e,s,r.wp,q⟩
 | .dK ks ts,_,L,h=>by
  simp only [AQ] at h ⊢
  obtain ⟨a,vs,e,s,q,r,z⟩:=h
  exact ⟨a,vs,e,s,q,r.wp,z⟩
 | .dT ks ts,_,L,h=>by
  simp only [AQ] at h ⊢
  obtain ⟨a,vs,e,s,q,r,z⟩:=h
  exact ⟨a,vs,e,s,q,r.wp,z⟩
 | .ins C fs os,_,L,h=>by
  simp only [AQ] at h ⊢
  obtain ⟨a,dx,kvs,L',e,s,q,r,z⟩:=h
  exact ⟨a,dx,kvs,L',e,s,q,AM.wp r,z⟩
 | .los os,_,L,h=>by
  simp only [AQ] at h ⊢
  obtain ⟨a,vs,L',e,s,r,z⟩:=h
  exact ⟨a,vs,L',e,s,AM.wp r,z⟩
 | .tpl os,_,L,h=>by
  simp only [AQ] at h ⊢
  obtain ⟨a,vs,L',e,s,r,z⟩:=h
  exact ⟨a,vs,L',e,s,AM.wp r,z⟩
theorem AM.wp {p:Addr->Prop}:∀ {os:List FO} {vs:List V} {L:List Addr},AM K F H os vs L->AM K ⟨F.f,p⟩ H os vs L
 | [],_,L,h=>h
 | o :: os,_,L,h=>by
  simp only [AM] at h ⊢
  obtain ⟨v,r,L1,L2,e,h1,h2,z⟩:=h
  exact ⟨v,r,L1,L2,e,AQ.wp h1,AM.wp h2,z⟩
end
theorem AG.wp {p:Addr->Prop}:∀ {fs:FS} {σ:St} {L:List Addr},AG K F H fs σ L->AG K ⟨F.f,p⟩ H fs σ L
 | [],_,_,h=>h
 | none :: r,_,_,h=>by
  simp only [AG] at h ⊢
  obtain ⟨v,σ',e,h⟩:=h
  exact ⟨v,σ',e,AG.wp h⟩
 | some (.val t) :: r,_,_,h=>by
  simp only [AG] at h ⊢
  obtain ⟨v,σ',e,q,h⟩:=h
  exact ⟨v,σ',e,q.wp,AG.wp h⟩
 | some (.own t) :: r,_,_,h=>by
  simp only [AG] at h ⊢
  obtain ⟨v,σ',L1,L2,e,q,h,z⟩:=h
  exact ⟨v,σ',L1,L2,e,q.wp,AG.wp h,z⟩
 | some (.bor t) :: r,_,_,h=>by
  simp only [AG] at h ⊢
  obtain ⟨v,σ',L1,L2,e,q,h,z⟩:=h
  exact ⟨v,σ',L1,L2,e,q.wp,AG.wp h,z⟩
theorem LS.le (l:Le F H F' H') {s:Option Sl} {v:Option V} {L:List Addr} (k:∀ a∈L,H' a=H a) (h:LS K F H s v L):LS K F' H' s v L:=by
 cases s with
 | none=>exact h
 | some s =>
  cases s with
  | val t =>
   obtain ⟨u,e,q,z⟩:=h
   exact ⟨u,e,q.le l,z⟩
  | own o =>
   obtain ⟨u,e,q⟩:=h
   exact ⟨u,e,q.le l k⟩
  | bor o =>
   obtain ⟨u,e,q⟩:=h
   exact ⟨u,e,q.le l k⟩
end
def GQ (B:Nat->Option V) (fs:FS) (σ:St):Prop:=∀ (i:Nat) (o:FO),fs[i]?=some (some (.bor o))->∃ v,σ[i]?=some (some v)/\B i=some v
structure Ok (K:Fg) (F:Wd) (B:Nat->Option V) (H:Hp) (fs:FS) (σ:St) (L:List Addr):Prop where
 sl:AG K F H fs σ L
 nd:L.Nodup
 nf:∀ a∈L,¬ F a
 fd:∀ a,F a->H a≠none
 bo:GQ B fs σ
 pd:∀ a,F.p a->H a≠none
 pf:∀ a,F a->¬ F.p a
 pl:∀ a∈L,¬ F.p a
def Okk (K:Fg) (F:Wd) (B:Nat->Option V) (H:Hp) (fs:FS) (σ:St):Prop:=∃ L,Ok K F B H fs σ L
structure Xp where
 p:Wd->(Nat->Option V)->Hp->Str->FS->Prop
 mono:∀ {F:Wd} {B:Nat->Option V} {H:Hp} {c:Str} {fs:FS} {F':Wd} {H':Hp},p F B H c fs->Le F H F' H'->p F' B H' c fs
def Xp.no:Xp:=⟨fun _ _ _ _ _=>False,fun h _=>h⟩
def sat (Z:Xp) (B:Nat->Option V) {α β:Type} (R:Wd->Hp->FS->α->β->Prop) (F:Wd) (H:Hp) (o:Out α) (Q:β->Hp->Prop):Prop :=
 match o with
 | .ok a fs=>∀ F' H' b,Le F H F' H'->R F' H' fs a b->Q b H'
 | .exc c fs=>Z.p F B H c fs
 | .bad=>False
theorem sat.le {Z:Xp} {B:Nat->Option V} {α β:Type} {R:Wd->Hp->FS->α->β->Prop} {F F':Wd} {H H':Hp} {o:Out α} {Q:β->Hp->Prop} (h:sat Z B R F H o Q) (l:Le F H F' H'):sat Z B R F' H' o Q:=by
 cases o with
 | ok a fs=>exact fun F2 H2 b l2 r=>h F2 H2 b (l.trans l2) r
 | exc c fs=>exact Z.mono h l
 | bad=>exact h
def Out.bind {α β:Type} (o:Out α) (k:α->FS->Out β):Out β:=match o with
 | .ok a fs=>k a fs
 | .exc c fs=>.exc c fs
 | .bad=>.bad
theorem A5 {Z:Xp} {B:Nat->Option V} {α β γ δ:Type} {R1:Wd->Hp->FS->α->β->Prop} {R2:Wd->Hp->FS->γ->δ->Prop} {F:Wd} {H:Hp} {o:Out α} {k:α->FS->Out γ} {Q:δ->Hp->Prop} {Q':β->Hp->Prop}
  (h:sat Z B R2 F H (o.bind k) Q) (hk:∀ a fs F' H' b,Le F H F' H'->R1 F' H' fs a b->sat Z B R2 F' H' (k a fs) Q->Q' b H'):sat Z B R1 F H o Q':=by
 cases o with
 | ok a fs=>exact fun F2 H2 b l r=>hk a fs F2 H2 b l r (sat.le h l)
 | exc c fs=>exact h
 | bad=>exact h
def NH (K:Fg) (F:Wd) (H:Hp) (σ:St):Rv->V->List Addr->Prop
 | .t t,v,L=>L=[]/\A3 K F H t v
 | .nw o,v,L=>AQ K F H o v L
 | .rf i,v,L=>L=[]/\σ[i]?=some (some v)
def RR (K:Fg) (B:Nat->Option V) (σ:St):Wd->Hp->FS->Rv->V->Prop:=fun F H fs r u=>∃ L L',Ok K F B H fs σ L/\NH K F H σ r u L'/\(L++L').Nodup/\∀ a∈L',¬ F a/\¬ F.p a
def DF (K:Fg) (F:Wd) (H:Hp) (σ:St):Rv->V->Prop
 | .t t,v=>A3 K F H t v
 | .nw _,_=>False
 | .rf i,v=>σ[i]?=some (some v)
def Out.bnd {α:Type} (o:Out Rv) (k:Rv->FS->Out α):Out α:=o.bind fun r fs=>match r with
 | .nw _=>.bad
 | .t t=>k (.t t) fs
 | .rf i=>k (.rf i) fs
section
variable {K:Fg} {Z:Xp} {B:Nat->Option V} {F F':Wd} {H H':Hp} {σ:St} {fs:FS} {r:Rv} {u:V}
theorem DF.le (h:DF K F H σ r u) (l:Le F H F' H'):DF K F' H' σ r u:=by
 cases r with
 | t t=>exact A3.le l h
 | nw o=>exact h
 | rf i=>exact h
theorem RR.of (h:Okk K F B H fs σ) (q:DF K F H σ r u):RR K B σ F H fs r u:=by
 obtain ⟨L,h⟩:=h
 refine ⟨L,[],h,?_,by simpa using h.nd,(fun _ m=>nomatch m)⟩
 cases r with
 | t t=>exact ⟨rfl,q⟩
 | nw o=>exact q.elim
 | rf i=>exact ⟨rfl,q⟩
theorem RR.ok (h:RR K B σ F H fs r u):Okk K F B H fs σ:=let ⟨L,_,h,_⟩:=h;⟨L,h⟩
theorem A6 {γ δ:Type} {R2:Wd->Hp->FS->γ->δ->Prop} {o:Out Rv} {k:Rv->FS->Out γ} {Q:δ->Hp->Prop} {Q':V->Hp->Prop}
  (h:sat Z B R2 F H (o.bnd k) Q) (hk:∀ r fs F' H' u,Le F H F' H'->Okk K F' B H' fs σ->DF K F' H' σ r u->sat Z B R2 F' H' (k r fs) Q->Q' u H'):sat Z B (RR K B σ) F H o Q':=by
 refine A5 h fun r fs F' H' u l q s=>?_
 cases r with
 | t t =>
  obtain ⟨L,L',q1,q2,_⟩:=q
  exact hk (.t t) fs F' H' u l ⟨L,q1⟩ q2.2 s
 | nw o=>exact s.elim
 | rf i =>
  obtain ⟨L,L',q1,q2,_⟩:=q
  exact hk (.rf i) fs F' H' u l ⟨L,q1⟩ q2.2 s
end
def tF (K:Fg) (Z:Xp) (f:FS->Out Rv):TE:=fun σ H Q=>∃ F B fs,Okk K F B H fs σ/\sat Z B (RR K B σ) F H (f fs) Q
def RB (K:Fg) (B:Nat->Option V) (σ:St):Wd->Hp->FS->Bool->Bool->Prop:=fun F H fs b b'=>Okk K F B H fs σ/\b'=b
def tT (K:Fg) (Z:Xp) (f:FS->Out Bool):TT:=fun σ H Q=>∃ F B fs,Okk K F B H fs σ/\sat Z B (RB K B σ) F H (f fs) Q
def NG (K:Fg) (F:Wd) (H:Hp) (σ:St):List Rv->List V->Prop
 | [],vs=>vs=[]
 | r :: rs,vs=>∃ v w,vs=v :: w/\DF K F H σ r v/\NG K F H σ rs w
def RA (K:Fg) (B:Nat->Option V) (σ:St):Wd->Hp->FS->List Rv->List V->Prop:=fun F H fs rs vs=>Okk K F B H fs σ/\NG K F H σ rs vs
def tA (K:Fg) (Z:Xp) (f:FS->Out (List Rv)):TA:=fun σ H Q=>∃ F B fs,Okk K F B H fs σ/\sat Z B (RA K B σ) F H (f fs) Q
def FE (X:Cx) (Z:Xp) (e:Expr) (f:FS->Out Rv):Prop:=PE X e (tF X.K Z f)
def FT (X:Cx) (Z:Xp) (e:Expr) (f:FS->Out Bool):Prop:=PT X e (tT X.K Z f)
def FA (X:Cx) (Z:Xp) (es:List Expr) (f:FS->Out (List Rv)):Prop:=PA X es (tA X.K Z f)
theorem Bo {X:Cx} {e:Expr} {t t':TE} (h:PE X e t) (i:∀ σ H Q,t' σ H Q->t σ H Q):PE X e t':=fun pins s σ H Q I q=>h pins s σ H Q I (i _ _ _ q)
theorem HC {X:Cx} {e:Expr} {t t':TT} (h:PT X e t) (i:∀ σ H Q,t' σ H Q->t σ H Q):PT X e t':=fun pins s σ H Q I q=>h pins s σ H Q I (i _ _ _ q)
theorem Mf {X:Cx} {e:List Expr} {t t':TA} (h:PA X e t) (i:∀ σ H Q,t' σ H Q->t σ H Q):PA X e t':=fun pos pins s σ H Q I q=>h pos pins s σ H Q I (i _ _ _ q)
theorem DC {X:Cx} {e:Stmt} {t t':TS} (h:PS X e t) (i:∀ D σ H,t' D σ H->t D σ H):PS X e t':=fun pins s σ H D I q=>h pins s σ H D I (i _ _ _ q)
theorem Od {X:Cx} {e:List Stmt} {t t':TS} (h:PSs X e t) (i:∀ D σ H,t' D σ H->t D σ H):PSs X e t':=fun pins s σ H D I q=>h pins s σ H D I (i _ _ _ q)
section
variable {K:Fg} {B:Nat->Option V} {F:Wd} {H:Hp} {σ:St} {fs:FS} {p:Addr} {o:HO}
def UH (F:Wd) (p:Addr):Wd:=⟨fun a=>F a∨a=p,F.p⟩
theorem Cb (h:Okk K F B H fs σ) (hp:H p=none):Le F H (UH F p) (upd H p o) :=
 let ⟨_,h⟩:=h
 ⟨fun a f=>⟨.inl f,Aw fun e=>h.fd a f (e▸hp)⟩,fun a f=>⟨f,Aw fun e=>h.pd a f (e▸hp)⟩⟩
theorem BJ (h:Okk K F B H fs σ) (hp:H p=none):Le F H F (upd H p o) :=
 let ⟨_,h⟩:=h
 ⟨fun a f=>⟨f,Aw fun e=>h.fd a f (e▸hp)⟩,fun a f=>⟨f,Aw fun e=>h.pd a f (e▸hp)⟩⟩
theorem EG {a:Addr} (h:H a≠none):upd H p o a≠none:=by
 by_cases e:a=p
 ·subst e
  rw [AL]
  simp
 ·rw [Aw e]
  exact h
theorem Ok.TJ {L:List Addr} (h:Ok K F B H fs σ L) (hp:H p=none):∀ a∈L,(upd H p o) a=H a:=fun a m=>Aw fun e=>h.sl.def a m (e▸hp)
theorem Okk.fd (h:Okk K F B H fs σ):∀ a,F a->H a≠none:=let ⟨_,h⟩:=h;h.fd
theorem Okk.alloc (h:Okk K F B H fs σ) (hp:H p=none):Okk K (UH F p) B (upd H p o) fs σ:=by
 obtain ⟨L,h⟩:=h
 refine ⟨L,h.sl.le (Cb ⟨L,h⟩ hp) (h.TJ hp),h.nd,fun a m q=>?_,fun a q=>?_,h.bo,fun a q=>EG (h.pd a q),fun a q z=>?_,h.pl⟩
 rotate_left 2
 ·rcases q with q | q
  ·exact h.pf a q z
  ·exact h.pd a z (q▸hp)
 ·rcases q with q | q
  ·exact h.nf a m q
  ·exact h.sl.def a m (q▸hp)
 ·rcases q with q | q
  ·exact EG (h.fd a q)
  ·rw [q,AL]
   simp
theorem RR.alloc {ob:FO} (h:Okk K F B H fs σ) (hp:H p=none) (q:AQ K F (upd H p o) ob (.ref p) [p]):RR K B σ F (upd H p o) fs (.nw ob) (.ref p):=by
 obtain ⟨L,h⟩:=h
 refine ⟨L,[p],⟨h.sl.le (BJ ⟨L,h⟩ hp) (h.TJ hp),h.nd,h.nf,fun a q=>EG (h.fd a q),h.bo,fun a q=>EG (h.pd a q),h.pf,h.pl⟩,q,?_,fun a m=>?_⟩
 ·rw [List.nodup_append]
  exact ⟨h.nd,by simp,fun a ma b mb e=>h.sl.def a ma (by rw [e,List.mem_singleton.mp mb];exact hp)⟩
 ·rw [List.mem_singleton.mp m]
  exact ⟨fun f=>h.fd p f hp,fun f=>h.pd p f hp⟩
end
def Sl.put:Sl->FO->Sl
 | .own _,o=>.own o
 | .bor _,o=>.bor o
 | .val t,_=>.val t
def A1 (fs:FS) (i:Nat):Option FO:=match fs[i]? with
 | some (some (.own o))=>some o
 | some (some (.bor o))=>some o
 | _=>none
def putAt (fs:FS) (i:Nat) (o:FO):FS:=match fs[i]? with
 | some (some s)=>fs.set i (some (s.put o))
 | _=>fs
section
variable {K:Fg} {B:Nat->Option V} {F F':Wd} {H H':Hp} {σ:St} {fs:FS} {i:Nat} {ob:FO}
theorem GQ.put {s:Option Sl} {v:Option V} (h:GQ B fs σ) (hs:∀ o,s=some (.bor o)->∃ u,v=some u/\B i=some u) (hl:σ.length=fs.length):GQ B (fs.set i s) (σ.set i v):=by
 intro j o e
 by_cases hj:i=j
 ·subst hj
  have hi:i < fs.length:=by
   have:=(List.getElem?_eq_some_iff.mp e).1
   simpa using this
  rw [List.getElem?_set_self hi] at e
  obtain ⟨u,e1,e2⟩:=hs o (by simpa using e)
  exact ⟨u,by rw [List.getElem?_set_self (by omega),e1],e2⟩
 ·rw [List.getElem?_set_ne hj] at e
  obtain ⟨v,e1,e2⟩:=h j o e
  exact ⟨v,by rw [List.getElem?_set_ne hj];exact e1,e2⟩
theorem Ca {α:Type} {l:List α} {i:Nat} {x:α} (h:l[i]?=some x):l.set i x=l:=by
 apply List.ext_getElem?
 intro j
 by_cases hj:i=j
 ·subst hj
  rw [List.getElem?_set_self (List.getElem?_eq_some_iff.mp h).1,h]
 ·rw [List.getElem?_set_ne hj]
theorem CK {L1 L2 L3 M:List Addr} (h:(L1++(L2++L3)).Nodup) (hm:M.Nodup) (d:∀ a∈M,a∉L1++L3):(L1++(M++L3)).Nodup:=by
 rw [List.nodup_append] at h ⊢
 obtain ⟨h1,h2,h3⟩:=h
 rw [List.nodup_append] at h2
 obtain ⟨h4,h5,h6⟩:=h2
 refine ⟨h1,?_,fun a ha b hb e=>?_⟩
 ·rw [List.nodup_append]
  exact ⟨hm,h5,fun a ha b hb e=>d a ha (by rw [e];exact List.mem_append_right _ hb)⟩
 ·rcases List.mem_append.mp hb with hb | hb
  ·exact d b hb (by rw [<- e];exact List.mem_append_left _ ha)
  ·exact h3 a ha b (List.mem_append_right _ hb) e
theorem Okk.own (h:Okk K F B H fs σ) (e:A1 fs i=some ob):∃ v L2,σ[i]?=some (some v)/\AQ K F H ob v L2/\(∀ a∈L2,¬ F a/\¬ F.p a)/\L2.Nodup /\
  ∀ ob' H',(∀ a,a∉L2->H a≠none->H' a=H a)->AQ K F H' ob' v L2->Okk K F B H' (putAt fs i ob') σ/\Le F H F H':=by
 obtain ⟨L,h⟩:=h
 have key:∀ s:Sl,fs[i]?=some (some s)->(s=.own ob∨s=.bor ob)->∃ v L2,σ[i]?=some (some v)/\AQ K F H ob v L2/\(∀ a∈L2,¬ F a/\¬ F.p a)/\L2.Nodup /\
  ∀ ob' H',(∀ a,a∉L2->H a≠none->H' a=H a)->AQ K F H' ob' v L2->Okk K F B H' (fs.set i (some (s.put ob'))) σ/\Le F H F H':=by
  intro s es ho
  obtain ⟨v,L1,L2,L3,e1,rfl,h1,h2⟩:=h.sl.pick es
  obtain ⟨u,rfl,q⟩:∃ u,v=some u/\AQ K F H ob u L2:=by
   rcases ho with rfl | rfl
   ·exact h1
   ·exact h1
  have nd:=h.nd
  have dis:∀ a∈L1++L3,a∉L2:=fun a ha hb=>by
   rw [List.nodup_append] at nd
   rcases List.mem_append.mp ha with ha | ha
   ·exact nd.2.2 a ha a (List.mem_append_left _ hb) rfl
   ·have:=(List.nodup_append.mp nd.2.1).2.2
    exact this a hb a ha rfl
  refine ⟨u,L2,e1,q,fun a m=>⟨h.nf a (by simp [m]),h.pl a (by simp [m])⟩,?_,fun ob' H' k q'=>?_⟩
  ·rw [List.nodup_append] at nd
   exact (List.nodup_append.mp nd.2.1).1
  ·have l:Le F H F H':=⟨fun a f=>⟨f,k a (fun m=>h.nf a (by simp [m]) f) (h.fd a f)⟩,fun a f=>⟨f,k a (fun m=>h.pl a (by simp [m]) f) (h.pd a f)⟩⟩
   refine ⟨⟨L1++(L2++L3),?_,nd,h.nf,fun a f=>by rw [(l.f a f).2];exact h.fd a f,?_,fun a f=>by rw [(l.p a f).2];exact h.pd a f,h.pf,h.pl⟩,l⟩
   ·have hL:∀ a∈L1++L3,H' a=H a:=fun a m=>k a (dis a m) (h.sl.def a (by
      rcases List.mem_append.mp m with m | m
      ·simp [m]
      ·simp [m]))
    have h3:=h2 F H' (some (s.put ob')) (some u) L2 l hL (by
     rcases ho with rfl | rfl
     ·exact ⟨u,rfl,q'⟩
     ·exact ⟨u,rfl,q'⟩)
    rwa [Ca e1] at h3
   ·have:=GQ.put (i:=i) (s:=some (s.put ob')) (v:=some u) h.bo (fun o eo=>by
     rcases ho with rfl | rfl
     ·cases eo
     ·obtain ⟨w,e3,e4⟩:=h.bo i ob es
      rw [e1] at e3
      have e5:u=w:=by simpa using e3
      exact ⟨u,rfl,by rw [e5];exact e4⟩) h.sl.len
    rwa [Ca e1] at this
 unfold A1 at e
 split at e
 ·rename_i o es
  cases e
  obtain ⟨v,L2,a1,a2,a3,a4,a5⟩:=key _ es (.inl rfl)
  refine ⟨v,L2,a1,a2,a3,a4,fun ob' H' k q=>?_⟩
  have:=a5 ob' H' k q
  unfold putAt
  rw [es]
  exact this
 ·rename_i o es
  cases e
  obtain ⟨v,L2,a1,a2,a3,a4,a5⟩:=key _ es (.inr rfl)
  refine ⟨v,L2,a1,a2,a3,a4,fun ob' H' k q=>?_⟩
  have:=a5 ob' H' k q
  unfold putAt
  rw [es]
  exact this
 ·cases e
end
def Ab (i:Nat):FS->Out Rv:=fun fs=>match fs[i]? with
 | some (some (.val t))=>.ok (.t t) fs
 | some (some (.own _))=>.ok (.rf i) fs
 | some (some (.bor _))=>.ok (.rf i) fs
 | _=>.bad
def gc (t:T):FS->Out Rv:=fun fs=>.ok (.t t) fs
section
variable {X:Cx} {Z:Xp} {e:Expr}
theorem As (i:Nat) {x:Str} {pos:Pos} (hN:X.N[i]?=some x:=by rfl) (hv:Vis X.env.scope x:=by first | exact Or.inl rfl | exact Or.inr (Or.inl rfl) | exact Or.inr (Or.inr rfl)) (hd:(x == ("__debug__":Str))=false:=by decide)
  (hcd:(x == ("__classdict__":Str))=false:=by decide):FE X Z (.Name x pos) (Ab i):=by
 refine Bo (pv i hN hv hd hcd) fun σ H Q h=>?_
 obtain ⟨F,B,fs,ok,s⟩:=h
 obtain ⟨L,o⟩:=id ok
 unfold Ab at s
 split at s
 ·rename_i t es
  obtain ⟨v,L1,L2,L3,e1,_,h1,_⟩:=o.sl.pick es
  obtain ⟨u,rfl,q,_⟩:=h1
  exact ⟨u,e1,s F H u Le.refl (RR.of ok q)⟩
 ·rename_i t es
  obtain ⟨v,L1,L2,L3,e1,_,h1,_⟩:=o.sl.pick es
  obtain ⟨u,rfl,q⟩:=h1
  exact ⟨u,e1,s F H u Le.refl (RR.of ok e1)⟩
 ·rename_i t es
  obtain ⟨v,L1,L2,L3,e1,_,h1,_⟩:=o.sl.pick es
  obtain ⟨u,rfl,q⟩:=h1
  exact ⟨u,e1,s F H u Le.refl (RR.of ok e1)⟩
 ·exact s.elim
theorem WA {v:V} (t:T) (h:PE X e (tC v)) (r:∀ K F H,A3 K F H t v):FE X Z e (gc t) :=
 Bo h fun σ H Q ⟨F,B,fs,ok,s⟩=>s F H v Le.refl (RR.of ok (r _ _ _))
theorem An {i j pos}:FE X Z (.Constant (.int i) j pos) (gc (.int i)):=WA _ Mc fun _ _ _=>rfl
theorem KH {b j pos}:FE X Z (.Constant (.bool b) j pos) (gc (.bl b)):=WA _ XM fun _ _ _=>rfl
theorem Bh {x j pos}:FE X Z (.Constant (.str x) j pos) (gc (.str x)):=WA _ Vr fun _ _ _=>rfl
theorem Rf {x:Str} {pos:Pos} {i:Int} (h:∃ t,X.mg x=some (.int i t)) (hg:Gl X x:=by rfl) (hd:(x == ("__debug__":Str))=false:=by decide):FE X Z (.Name x pos) (gc (.int i)):=WA _ (XH h hg hd) fun _ _ _=>rfl
theorem Yl {x:Str} {pos:Pos} {z:Str} (h:∃ t,X.mg x=some (.str z t)) (hg:Gl X x:=by rfl) (hd:(x == ("__debug__":Str))=false:=by decide):FE X Z (.Name x pos) (gc (.str z)):=WA _ (XG h hg hd) fun _ _ _=>rfl
end
def fz (f:FS->Out Rv):FS->Out Rv:=fun fs=>(f fs).bind fun r fs=>match r with
 | .t t=>.ok (.t t) fs
 | .nw o=>.ok (.t (toT o)) fs
 | .rf i=>match fs[i]? with
  | some (some (.own o))=>.ok (.t (toT o)) (fs.set i (some (.val (toT o))))
  | _=>.bad
section
variable {X:Cx} {Z:Xp} {e:Expr} {f:FS->Out Rv}
def Ru (F:Wd) (L:List Addr):Wd:=⟨fun a=>F a∨a∈L,F.p⟩
theorem orF {F:Wd} {L:List Addr} {H:Hp}:Le F H (Ru F L) H:=⟨fun _ f=>⟨.inl f,rfl⟩,fun _ f=>⟨f,rfl⟩⟩
theorem Aq (h:FE X Z e f):FE X Z e (fz f):=by
 refine Bo h fun σ H Q ⟨F,B,fs,ok,s⟩=>⟨F,B,fs,ok,?_⟩
 refine A5 s fun r fs F' H' u l q s=>?_
 cases r with
 | t t=>exact s F' H' u Le.refl q
 | nw o =>
  obtain ⟨L,L',o1,q,nd,nf⟩:=q
  refine s (Ru F' L') H' u orF (RR.of ⟨L,?_⟩ (AQ.frz orF (fun a m=>.inr m) q))
  refine ⟨o1.sl.le orF fun _ _=>rfl,o1.nd,fun a m z=>?_,fun a z=>?_,o1.bo,o1.pd,fun a z=>?_,o1.pl⟩
  ·rcases z with z | z
   ·exact o1.nf a m z
   ·exact (List.nodup_append.mp nd).2.2 a m a z rfl
  ·rcases z with z | z
   ·exact o1.fd a z
   ·exact AQ.def q a z
  ·rcases z with z | z
   ·exact o1.pf a z
   ·exact (nf a z).2
 | rf i =>
  dsimp only at s
  split at s
  ·rename_i o es
   obtain ⟨L,L',o1,⟨_,q⟩,nd,nf⟩:=q
   obtain ⟨v,L1,L2,L3,e1,rfl,h1,h2⟩:=o1.sl.pick es
   obtain ⟨w,rfl,q2⟩:=h1
   rw [e1] at q
   have eu:w=u:=by simpa using q
   subst eu
   have l2:Le F' H' (Ru F' L2) H':=orF
   have r2:A3 X.K (Ru F' L2) H' (toT o) w:=AQ.frz orF (fun a m=>.inr m) q2
   refine s (Ru F' L2) H' w l2 (RR.of ⟨L1++([]++L3),?_⟩ r2)
   have h3:=h2 (Ru F' L2) H' (some (.val (toT o))) (some w) [] l2 (fun _ _=>rfl) ⟨w,rfl,r2,rfl⟩
   rw [Ca e1] at h3
   have nd1:=o1.nd
   refine ⟨h3,CK nd1 List.nodup_nil (fun _ m=>nomatch m),fun a m z=>?_,fun a z=>?_,?_,o1.pd,fun a z=>?_,fun a m=>o1.pl a ?_⟩
   ·have m':a∈L1∨a∈L3:=by simpa using m
    rcases z with z | z
    ·exact o1.nf a (by rcases m' with m | m <;> simp [m]) z
    ·rw [List.nodup_append] at nd1
     rcases m' with m | m
     ·exact nd1.2.2 a m a (List.mem_append_left _ z) rfl
     ·exact (List.nodup_append.mp nd1.2.1).2.2 a z a m rfl
   ·rcases z with z | z
    ·exact o1.fd a z
    ·exact AQ.def q2 a z
   ·have:=GQ.put (i:=i) (s:=some (.val (toT o))) (v:=some w) o1.bo (fun o eo=>by cases eo) o1.sl.len
    rwa [Ca e1] at this
   ·rcases z with z | z
    ·exact o1.pf a z
    ·exact o1.pl a (by simp [z])
   ·have m':a∈L1∨a∈L3:=by simpa using m
    rcases m' with m | m <;> simp [m]
  ·exact s.elim
end
def big:Nat:=1000000
theorem DT:big<=sizeLine:=by rw [sizeLine_eq];decide
theorem K7:big < sizeLine:=by rw [sizeLine_eq];decide
def DN (fs:FS):Rv->Option (List T)
 | .t (.lst ts)=>some ts
 | .t (.scr ts)=>some ts
 | .rf i=>match A1 fs i with
  | some (.lst ts)=>some ts
  | _=>none
 | _=>none
def N4:Rv->Option (List T)
 | .t (.tup ts)=>some ts
 | _=>none
section
variable {K:Fg} {B:Nat->Option V} {F F':Wd} {H H':Hp} {σ:St} {fs:FS} {x:Rv} {u:V} {ts:List T}
theorem Cf (h:Okk K F B H fs σ) (r:DF K F H σ x u) (e:DN fs x=some ts):∃ a vs,u=.ref a/\SqL K H a vs/\Ag K F H ts vs:=by
 unfold DN at e
 split at e
 ·cases e
  simp only [DF,A3] at r
  obtain ⟨a,vs,e,f,s,q⟩:=r
  exact ⟨a,vs,e,SqL.of s,q⟩
 ·cases e
  simp only [DF,A3] at r
  obtain ⟨a,vs,e,s,q⟩:=r
  exact ⟨a,vs,e,s.sq,q⟩
 ·rename_i i
  split at e
  ·rename_i ts' eo
   cases e
   obtain ⟨v,L2,e1,q,_⟩:=h.own eo
   have e2:σ[i]?=some (some u):=r
   rw [e1] at e2
   have e3:v=u:=by simpa using e2
   subst e3
   simp only [AQ] at q
   obtain ⟨a,vs,e,s,q,_⟩:=q
   exact ⟨a,vs,e,SqL.of s,q⟩
  ·cases e
 ·cases e
theorem C5 (r:DF K F H σ x u) (e:N4 x=some ts):∃ a vs,u=.ref a/\SqT K H a vs/\Ag K F H ts vs:=by
 unfold N4 at e
 split at e
 ·cases e
  simp only [DF,A3] at r
  obtain ⟨a,vs,e,s,q⟩:=r
  exact ⟨a,vs,e,s.sq,q⟩
 ·cases e
theorem P9 {vs:List V} {i:Int} {t:T} (r:Ag K F H ts vs) (e:atI ts i=some t):∃ v,atI vs i=some v/\A3 K F H t v:=by
 unfold atI at e ⊢
 rw [r.len]
 cases q:ixN ts.length i with
 | none=>rw [q] at e;cases e
 | some j =>
  rw [q] at e
  exact r.at e
theorem Ag.ints:∀ {ns:List Int} {vs:List V},Ag K F H (ns.map T.int) vs->vs=ns.map V.int
 | [],_,h=>by simpa [Ag] using h
 | n :: ns,_,h=>by
  simp only [List.map_cons,Ag,A3] at h
  obtain ⟨v,r,rfl,rfl,h⟩:=h
  rw [List.map_cons,Ag.ints h]
theorem Ag.bls:∀ {ns:List Bool} {vs:List V},Ag K F H (ns.map T.bl) vs->vs=ns.map V.bl
 | [],_,h=>by simpa [Ag] using h
 | n :: ns,_,h=>by
  simp only [List.map_cons,Ag,A3] at h
  obtain ⟨v,r,rfl,rfl,h⟩:=h
  rw [List.map_cons,Ag.bls h]
theorem Ag.strs:∀ {ns:List Str} {vs:List V},Ag K F H (ns.map T.str) vs->vs=ns.map V.str
 | [],_,h=>by simpa [Ag] using h
 | n :: ns,_,h=>by
  simp only [List.map_cons,Ag,A3] at h
  obtain ⟨v,r,rfl,rfl,h⟩:=h
  rw [List.map_cons,Ag.strs h]
end
def DE:List T->Option (List Int)
 | []=>some []
 | .int i :: r=>(DE r).map (i :: ·)
 | _=>none
def EC:List T->Option (List Bool)
 | []=>some []
 | .bl i :: r=>(EC r).map (i :: ·)
 | _=>none
def Dt:List T->Option (List Str)
 | []=>some []
 | .str i :: r=>(Dt r).map (i :: ·)
 | _=>none
theorem K9:∀ {ts:List T} {ns:List Int},DE ts=some ns->ts=ns.map T.int
 | [],_,e=>by cases e;rfl
 | .int i :: r,_,e=>by
  simp only [DE,Option.map_eq_some_iff] at e
  obtain ⟨ns,e,rfl⟩:=e
  rw [List.map_cons,<- K9 e]
 | .non :: r,_,e=>by simp [DE] at e
 | .bl _ :: r,_,e=>by simp [DE] at e
 | .str _ :: r,_,e=>by simp [DE] at e
 | .tup _ :: r,_,e=>by simp [DE] at e
 | .lst _ :: r,_,e=>by simp [DE] at e
 | .scr _ :: r,_,e=>by simp [DE] at e
 | .dK _ _ :: r,_,e=>by simp [DE] at e
 | .dT _ _ :: r,_,e=>by simp [DE] at e
 | .ins _ _ _ :: r,_,e=>by simp [DE] at e
 | .dF _ _ :: r,_,e=>by simp [DE] at e
theorem JW:∀ {ts:List T} {ns:List Bool},EC ts=some ns->ts=ns.map T.bl
 | [],_,e=>by cases e;rfl
 | .bl i :: r,_,e=>by
  simp only [EC,Option.map_eq_some_iff] at e
  obtain ⟨ns,e,rfl⟩:=e
  rw [List.map_cons,<- JW e]
 | .non :: r,_,e=>by simp [EC] at e
 | .int _ :: r,_,e=>by simp [EC] at e
 | .str _ :: r,_,e=>by simp [EC] at e
 | .tup _ :: r,_,e=>by simp [EC] at e
 | .lst _ :: r,_,e=>by simp [EC] at e
 | .scr _ :: r,_,e=>by simp [EC] at e
 | .dK _ _ :: r,_,e=>by simp [EC] at e
 | .dT _ _ :: r,_,e=>by simp [EC] at e
 | .ins _ _ _ :: r,_,e=>by simp [EC] at e
 | .dF _ _ :: r,_,e=>by simp [EC] at e
theorem K8:∀ {ts:List T} {ns:List Str},Dt ts=some ns->ts=ns.map T.str
 | [],_,e=>by cases e;rfl
 | .str i :: r,_,e=>by
  simp only [Dt,Option.map_eq_some_iff] at e
  obtain ⟨ns,e,rfl⟩:=e
  rw [List.map_cons,<- K8 e]
 | .non :: r,_,e=>by simp [Dt] at e
 | .int _ :: r,_,e=>by simp [Dt] at e
 | .bl _ :: r,_,e=>by simp [Dt] at e
 | .tup _ :: r,_,e=>by simp [Dt] at e
 | .lst _ :: r,_,e=>by simp [Dt] at e
 | .scr _ :: r,_,e=>by simp [Dt] at e
 | .dK _ _ :: r,_,e=>by simp [Dt] at e
 | .dT _ _ :: r,_,e=>by simp [Dt] at e
 | .ins _ _ _ :: r,_,e=>by simp [Dt] at e
 | .dF _ _ :: r,_,e=>by simp [Dt] at e
def Af (g:Rv->Rv->FS->Out Rv) (fa fb:FS->Out Rv):FS->Out Rv:=fun fs=>(fa fs).bnd fun x fs=>(fb fs).bnd fun y fs=>g x y fs
def OpF (K:Fg) (Z:Xp) (r:R2) (g:Rv->Rv->FS->Out Rv):Prop:=∀ (F:Wd) (B:Nat->Option V) (H:Hp) (σ:St) (fs:FS) (x y:Rv) (u w:V) (Q:VK),Okk K F B H fs σ->DF K F H σ x u->DF K F H σ y w ->
 sat Z B (RR K B σ) F H (g x y fs) Q->r u w H Q
def asB (f:FS->Out Rv):FS->Out Bool:=fun fs=>(f fs).bind fun r fs=>match r with
 | .t (.bl b)=>.ok b fs
 | _=>.bad
section
variable {X:Cx} {K:Fg} {Z:Xp} {a b c:Expr} {fa fb fc f:FS->Out Rv} {r r':R2} {g g':Rv->Rv->FS->Out Rv} {pos:Pos} {σ:St} {H:Hp}
theorem Hm {Q:VK} (hg:OpF K Z r g) (h:tF K Z (Af g fa fb) σ H Q):tOp r (tF K Z fa) (tF K Z fb) σ H Q:=by
 obtain ⟨F,B,fs,ok,s⟩:=h
 exact ⟨F,B,fs,ok,A6 s fun x fs1 F1 H1 u l ok1 rx s1=>⟨F1,B,fs1,ok1,A6 s1 fun y fs2 F2 H2 w l2 ok2 ry s2=>hg F2 B H2 σ fs2 x y u w Q ok2 (rx.le l2) ry s2⟩⟩
theorem La {Q:Bool->Hp->Prop} (h:tT K Z (asB f) σ H Q):tF K Z f σ H fun x H'=>∃ k,x=.bl k/\Q k H':=by
 obtain ⟨F,B,fs,ok,s⟩:=h
 refine ⟨F,B,fs,ok,A5 s fun r fs1 F1 H1 u l q s1=>?_⟩
 split at s1
 ·rename_i b
  obtain ⟨L,L',o1,⟨_,q⟩,_⟩:=q
  exact ⟨b,q,s1 F1 H1 b Le.refl ⟨⟨L,o1⟩,rfl⟩⟩
 ·exact s1.elim
theorem Pu {op:Operator} (hg:OpF X.K Z r g) (ho:OpR X (binaryOp op) r) (ha:FE X Z a fa) (hb:FE X Z b fb):FE X Z (.BinOp a op b pos) (Af g fa fb) :=
 Bo (XA ho ha hb) fun _ _ _ h=>Hm hg h
theorem PB {op:CmpOp} (hg:OpF X.K Z r g) (ho:OpR X (compareOp op) r) (ha:FE X Z a fa) (hb:FE X Z b fb) (hm:behindInMarks op b=false):FE X Z (.Compare a [op] [b] pos) (Af g fa fb) :=
 Bo (S6 ho ha hb hm) fun _ _ _ h=>Hm hg h
theorem HX {op:CmpOp} (hg:OpF X.K Z r g) (ho:OpR X (compareOp op) r) (ha:FE X Z a fa) (hb:FE X Z b fb) (hm:behindInMarks op b=false):FT X Z (.Compare a [op] [b] pos) (asB (Af g fa fb)) :=
 HC (Jk ho ha hb hm) fun _ _ _ h=>Hm hg (La h)
theorem Yj (hg:OpF X.K Z r g) (hr:IxR X r) (ha:FE X Z a fa) (hb:FE X Z b fb) (hs:JX b):FE X Z (.Subscript a b pos) (Af g fa fb) :=
 Bo (Oq hr ha hb hs) fun _ _ _ h=>Hm hg h
def chain (g g':Rv->Rv->FS->Out Rv) (fa fb fc:FS->Out Rv):FS->Out Rv:=fun fs=>(fa fs).bnd fun x fs=>(fb fs).bnd fun y fs=>(g x y fs).bnd fun z fs=>match z with
 | .t (.bl true)=>(fc fs).bnd fun w fs=>g' y w fs
 | .t (.bl false)=>.ok (.t (.bl false)) fs
 | _=>.bad
theorem Us {Q:VK} (hg:OpF K Z r g) (hg':OpF K Z r' g') (h:tF K Z (chain g g' fa fb fc) σ H Q):NV r r' (tF K Z fa) (tF K Z fb) (tF K Z fc) σ H Q:=by
 obtain ⟨F,B,fs,ok,s⟩:=h
 refine ⟨F,B,fs,ok,A6 s fun x fs1 F1 H1 u l ok1 rx s1=>⟨F1,B,fs1,ok1,A6 s1 fun y fs2 F2 H2 w l2 ok2 ry s2=>hg F2 B H2 σ fs2 x y u w _ ok2 (rx.le l2) ry ?_⟩⟩
 refine A6 s2 fun z fs3 F3 H3 v l3 ok3 rz s3=>?_
 split at s3
 ·refine ⟨true,rz,?_⟩
  rw [if_pos rfl]
  exact ⟨F3,B,fs3,ok3,A6 s3 fun w' fs4 F4 H4 v' l4 ok4 rw' s4=>hg' F4 B H4 σ fs4 y w' w v' Q ok4 ((ry.le l3).le l4) rw' s4⟩
 ·refine ⟨false,rz,?_⟩
  rw [if_neg (by decide)]
  exact s3 F3 H3 (.bl false) Le.refl (RR.of ok3 rfl)
 ·exact s3.elim
end
theorem QR {a b:Int} (ha:Builtin.Int.intBits a<=2 ^ 26) (hb:Builtin.Int.intBits b<=2 ^ 26):IntMulOk a b:=by
 intro h
 rw [Bool.and_eq_true] at h
 have h2:=of_decide_eq_true (show decide _=true from h.2)
 have e:bitsLine=134217728:=rfl
 rw [e] at h2
 omega
def gI (g:Int->Int->FS->Out Rv):Rv->Rv->FS->Out Rv
 | .t (.int i),.t (.int j),fs=>g i j fs
 | _,_,_=>.bad
def okT (t:T) (fs:FS):Out Rv:=.ok (.t t) fs
def Yf:=gI fun i j=>okT (.int (i+j))
def KA:=gI fun i j=>okT (.int (i - j))
def UN:=gI fun i j fs=>if (decide (-(2 ^ 64) < i/\i < 2 ^ 64) || decide (-(2 ^ 64) < j/\j < 2 ^ 64) || (decide (Builtin.Int.intBits i<=2 ^ 26) && decide (Builtin.Int.intBits j<=2 ^ 26)))=true then okT (.int (i * j)) fs else .bad
def CB:=gI fun i j fs=>if 0 < j then okT (.int (i % j)) fs else .bad
def ES:=gI fun i j fs=>if 0 < j/\j < 1073741824 then okT (.int (i / j)) fs else .bad
def gLt:=gI fun i j=>okT (.bl (decide (i < j)))
def gLe:=gI fun i j=>okT (.bl (decide (i<=j)))
def gGt:=gI fun i j=>okT (.bl (decide (j < i)))
section
variable {K:Fg} {Z:Xp}
theorem Ta {g:Int->Int->FS->Out Rv} {C:Int->Int->Prop} {v:Int->Int->V} {t:Int->Int->T} (hv:∀ K F H i j,A3 K F H (t i j) (v i j)) (hg:∀ i j fs,g i j fs=.bad∨(C i j/\g i j fs=okT (t i j) fs)):OpF K Z (rI C v) (gI g):=by
 intro F B H σ fs x y u w Q ok rx ry s
 unfold gI at s
 split at s
 ·rename_i i j
  simp only [DF,A3] at rx ry
  rcases hg i j fs with e | ⟨c,e⟩
  ·rw [e] at s
   exact s.elim
  ·rw [e] at s
   exact ⟨i,j,rx,ry,c,s F H _ Le.refl (RR.of ok (hv _ _ _ _ _))⟩
 ·exact s.elim
theorem Kl {v:Int->Int->V} {t:Int->Int->T} (hv:∀ K F H i j,A3 K F H (t i j) (v i j)):OpF K Z (rI0 v) (gI fun i j=>okT (t i j)):=by
 intro F B H σ fs x y u w Q ok rx ry s
 unfold gI at s
 split at s
 ·rename_i i j
  simp only [DF,A3] at rx ry
  exact ⟨i,j,rx,ry,s F H _ Le.refl (RR.of ok (hv _ _ _ _ _))⟩
 ·exact s.elim
theorem VH:OpF K Z (rI0 fun i j=>.int (i+j)) Yf:=Kl fun _ _ _ _ _=>rfl
theorem VD:OpF K Z (rI0 fun i j=>.int (i - j)) KA:=Kl fun _ _ _ _ _=>rfl
theorem of_lt:OpF K Z (rI0 fun i j=>.bl (decide (i < j))) gLt:=Kl fun _ _ _ _ _=>rfl
theorem of_le:OpF K Z (rI0 fun i j=>.bl (decide (i<=j))) gLe:=Kl fun _ _ _ _ _=>rfl
theorem XX:OpF K Z (rI0 fun i j=>.bl (decide (j < i))) gGt:=Kl fun _ _ _ _ _=>rfl
theorem VF:OpF K Z (rI (fun _ j=>0 < j) fun i j=>.int (i % j)) CB:=Ta (t:=fun i j=>.int (i % j)) (fun _ _ _ _ _=>rfl) fun i j fs=>by
 by_cases h:0 < j
 ·exact .inr ⟨h,if_pos h⟩
 ·exact .inl (if_neg h)
theorem VG:OpF K Z (rI YL fun i j=>.int (i / j)) ES:=Ta (t:=fun i j=>.int (i / j)) (fun _ _ _ _ _=>rfl) fun i j fs=>by
 by_cases h:0 < j/\j < 1073741824
 ·exact .inr ⟨h,if_pos h⟩
 ·exact .inl (if_neg h)
theorem VE:OpF K Z (rI IntMulOk fun i j=>.int (i * j)) UN:=Ta (t:=fun i j=>.int (i * j)) (fun _ _ _ _ _=>rfl) fun i j fs=>by
 by_cases h:(decide (-(2 ^ 64) < i/\i < 2 ^ 64) || decide (-(2 ^ 64) < j/\j < 2 ^ 64) || (decide (Builtin.Int.intBits i<=2 ^ 26) && decide (Builtin.Int.intBits j<=2 ^ 26)))=true
 ·refine .inr ⟨?_,if_pos h⟩
  rw [Bool.or_eq_true,Bool.or_eq_true,Bool.and_eq_true] at h
  rcases h with (h | h) | ⟨h1,h2⟩
  ·exact Xh.ok (.inl (of_decide_eq_true h))
  ·exact Xh.ok (.inr (of_decide_eq_true h))
  ·exact QR (of_decide_eq_true h1) (of_decide_eq_true h2)
 ·exact .inl (if_neg h)
end
def plV:T->Option V
 | .non=>some .non
 | .bl b=>some (.bl b)
 | .int i=>some (.int i)
 | .str x=>some (.str x)
 | _=>none
theorem C8 {K:Fg} {F:Wd} {H:Hp} {t:T} {u v:V} (e:plV t=some v) (r:A3 K F H t u):u=v:=by
 cases t with
 | non=>cases e;exact r
 | bl b=>cases e;exact r
 | int i=>cases e;exact r
 | str x=>cases e;exact r
 | tup ts=>cases e
 | lst ts=>cases e
 | scr ts=>cases e
 | dK ks ts=>cases e
 | dT ks ts=>cases e
 | ins C fs ts=>cases e
 | dF ks ts=>cases e
 | exn c=>cases e
def gEq (neg:Bool):Rv->Rv->FS->Out Rv
 | .t x,.t y,fs=>match plV x,plV y with
  | some u,some w=>if Lj u w=true then okT (.bl (if neg then !decide (u=w) else decide (u=w))) fs else .bad
  | _,_=>.bad
 | _,_,_=>.bad
def RO:List T->Option (List V)
 | []=>some []
 | t :: r=>(plV t).bind fun v=>(RO r).map (v :: ·)
theorem Jo {K:Fg} {F:Wd} {H:Hp}:∀ {ts:List T} {us vs:List V},RO ts=some vs->Ag K F H ts us->us=vs/\vs.all FH=true
 | [],_,_,e,r=>by
  cases e
  simp only [Ag] at r
  exact ⟨r,rfl⟩
 | t :: ts,_,_,e,r=>by
  simp only [Ag] at r
  obtain ⟨v,w,rfl,r1,r2⟩:=r
  simp only [RO,Option.bind_eq_some_iff,Option.map_eq_some_iff] at e
  obtain ⟨v',e1,ws,e2,rfl⟩:=e
  obtain ⟨rfl,h⟩:=Jo e2 r2
  have:=C8 e1 r1
  subst this
  refine ⟨rfl,?_⟩
  rw [List.all_cons,h,Bool.and_true]
  cases t <;> first | (cases e1;rfl) | cases e1
theorem DW {t:T} {v:V} (e:plV t=some v):FH v=true:=by
 cases t <;> first | (cases e;rfl) | cases e
def gIn (neg:Bool):Rv->Rv->FS->Out Rv
 | .t x,y,fs=>match plV x with
  | some v=>match (match DN fs y with
    | some ts=>RO ts
    | none=>(N4 y).bind RO) with
   | some vs=>okT (.bl (if neg then !inV v vs else inV v vs)) fs
   | none=>.bad
  | none=>.bad
 | _,_,_=>.bad
def KD (neg:Bool):Rv->Rv->FS->Out Rv
 | .t (.str i),.t (.str j),fs=>okT (.bl (if neg then !(!(Builtin.Str.occurrences j i 0 j.length 1).isEmpty) else !(Builtin.Str.occurrences j i 0 j.length 1).isEmpty)) fs
 | _,_,_=>.bad
section
variable {K:Fg} {Z:Xp}
theorem of_eq:OpF K Z rEq (gEq false):=by
 intro F B H σ fs x y u w Q ok rx ry s
 unfold gEq at s
 split at s
 ·split at s
  ·rename_i e1 e2
   split at s
   ·rename_i hs
    have h1:=C8 e1 rx
    have h2:=C8 e2 ry
    subst h1 h2
    exact ⟨hs,s F H _ Le.refl (RR.of ok rfl)⟩
   ·exact s.elim
  ·exact s.elim
 ·exact s.elim
theorem XU:OpF K Z rNe (gEq true):=by
 intro F B H σ fs x y u w Q ok rx ry s
 unfold gEq at s
 split at s
 ·split at s
  ·rename_i e1 e2
   split at s
   ·rename_i hs
    have h1:=C8 e1 rx
    have h2:=C8 e2 ry
    subst h1 h2
    exact ⟨hs,s F H _ Le.refl (RR.of ok rfl)⟩
   ·exact s.elim
  ·exact s.elim
 ·exact s.elim
theorem Tf (neg:Bool):OpF K Z (rIn K neg) (gIn neg):=by
 intro F B H σ fs x y u w Q ok rx ry s
 unfold gIn at s
 split at s
 ·split at s
  ·rename_i v e1
   split at s
   ·rename_i vs e2
    have h1:=C8 e1 rx
    subst h1
    split at e2
    ·rename_i ts e3
     obtain ⟨a,us,rfl,hs,q⟩:=Cf ok ry e3
     obtain ⟨rfl,hf⟩:=Jo e2 q
     exact ⟨a,us,rfl,.inl hs,DW e1,hf,s F H _ Le.refl (RR.of ok rfl)⟩
    ·rw [Option.bind_eq_some_iff] at e2
     obtain ⟨ts,e3,e2⟩:=e2
     obtain ⟨a,us,rfl,hs,q⟩:=C5 ry e3
     obtain ⟨rfl,hf⟩:=Jo e2 q
     exact ⟨a,us,rfl,.inr hs,DW e1,hf,s F H _ Le.refl (RR.of ok rfl)⟩
   ·exact s.elim
  ·exact s.elim
 ·exact s.elim
theorem Mh:OpF K Z (fun x y H Q=>∃ i j,x=.str i/\y=.str j/\Q (.bl (!(Builtin.Str.occurrences j i 0 j.length 1).isEmpty)) H) (KD false):=by
 intro F B H σ fs x y u w Q ok rx ry s
 unfold KD at s
 split at s
 ·rename_i i j
  exact ⟨i,j,rx,ry,s F H _ Le.refl (RR.of ok rfl)⟩
 ·exact s.elim
theorem Lq:OpF K Z (fun x y H Q=>∃ i j,x=.str i/\y=.str j/\Q (.bl (!(!(Builtin.Str.occurrences j i 0 j.length 1).isEmpty))) H) (KD true):=by
 intro F B H σ fs x y u w Q ok rx ry s
 unfold KD at s
 split at s
 ·rename_i i j
  exact ⟨i,j,rx,ry,s F H _ Le.refl (RR.of ok rfl)⟩
 ·exact s.elim
end
def gIx:Rv->Rv->FS->Out Rv
 | x,.t (.int i),fs=>match DN fs x with
  | some ts=>match atI ts i with
   | some t=>okT t fs
   | none=>.bad
  | none=>match x with
   | .t (.tup ts)=>match atI ts i with
    | some t=>okT t fs
    | none=>.bad
   | .t (.str z)=>if z.length<=big then match atI z.cps.toList i with
     | some c=>okT (.str ⟨#[c]⟩) fs
     | none=>.bad
    else .bad
   | _=>.bad
 | _,_,_=>.bad
section
variable {K:Fg} {Z:Xp}
theorem XW:OpF K Z (rIx K) gIx:=by
 intro F B H σ fs x y u w Q ok rx ry s
 unfold gIx at s
 split at s
 ·rename_i i
  split at s
  ·rename_i ts e
   split at s
   ·rename_i t et
    obtain ⟨a,vs,rfl,hs,q⟩:=Cf ok rx e
    obtain ⟨v,ev,rv⟩:=P9 q et
    exact .inl ⟨a,vs,i,v,rfl,ry,hs,ev,s F H v Le.refl (RR.of ok rv)⟩
   ·exact s.elim
  ·split at s
   ·rename_i ts _
    split at s
    ·rename_i t et
     obtain ⟨a,vs,rfl,hs,q⟩:=C5 (ts:=ts) rx rfl
     obtain ⟨v,ev,rv⟩:=P9 q et
     exact .inr (.inl ⟨a,vs,i,v,rfl,ry,hs,ev,s F H v Le.refl (RR.of ok rv)⟩)
    ·exact s.elim
   ·rename_i z _
    split at s
    ·rename_i hz
     split at s
     ·rename_i c ec
      exact .inr (.inr ⟨z,i,c,rx,ry,Nat.le_trans hz DT,ec,s F H _ Le.refl (RR.of ok rfl)⟩)
     ·exact s.elim
    ·exact s.elim
   ·exact s.elim
 ·exact s.elim
end
def Q9:Rv->Rv->FS->Out Rv
 | .t (.str i),.t (.str j),fs=>if i.length+j.length<=big then okT (.str (i++j)) fs else .bad
 | _,_,_=>.bad
def Q7:Rv->Rv->FS->Out Rv
 | .t (.str z),.t (.int n),fs=>if z.length=1/\1<=n/\n<=1000 then okT (.str (Txt.mul z n)) fs else .bad
 | _,_,_=>.bad
theorem Tt {z:Str} {n:Int} (hz:z.length=1) (h0:1<=n) (h1:n<=1000):MulOk z n:=by
 refine ⟨?_,fun _ _=>?_,fun _ _=>?_⟩
 ·rw [Bool.or_eq_false_iff]
  exact ⟨decide_eq_false (by omega),decide_eq_false (by omega)⟩
 ·have h:(n:Int)<=2 ^ 63 - 1:=by omega
  have h2:1<=((2:Int) ^ 63 - 1) / n:=(Int.le_ediv_iff_mul_le (by omega)).mpr (by omega)
  rw [hz]
  show ¬ ((1:Nat):Int) > _
  omega
 ·unfold Builtin.Str.tooLong
  have:n.toNat<=1000:=by omega
  refine decide_eq_false ?_
  rw [hz]
  have h3:(1000:Nat)<=sizeLine:=by rw [sizeLine_eq];decide
  omega
section
variable {K:Fg} {Z:Xp}
theorem Tn:OpF K Z (fun x y H Q=>∃ i j,x=.str i/\y=.str j/\i.length+j.length<=sizeLine/\Q (.str (i++j)) H) Q9:=by
 intro F B H σ fs x y u w Q ok rx ry s
 unfold Q9 at s
 split at s
 ·rename_i i j
  split at s
  ·rename_i h
   exact ⟨i,j,rx,ry,Nat.le_trans h DT,s F H _ Le.refl (RR.of ok rfl)⟩
  ·exact s.elim
 ·exact s.elim
theorem Te:OpF K Z (fun x y H Q=>∃ z n,x=.str z/\y=.int n/\MulOk z n/\Q (.str (Txt.mul z n)) H) Q7:=by
 intro F B H σ fs x y u w Q ok rx ry s
 unfold Q7 at s
 split at s
 ·rename_i i j
  split at s
  ·rename_i h
   exact ⟨i,j,rx,ry,Tt h.1 h.2.1 h.2.2,s F H _ Le.refl (RR.of ok rfl)⟩
  ·exact s.elim
 ·exact s.elim
end
def Xk (fs:FS):Rv->Option Bool
 | .t .non=>some false
 | .t (.bl b)=>some b
 | .t (.int i)=>some (i != 0)
 | .t (.str x)=>if x.length<=big then some ((x.length:Int) != 0) else none
 | .t (.lst ts)=>some !ts.isEmpty
 | .t (.tup ts)=>some !ts.isEmpty
 | .rf i=>match A1 fs i with
  | some (.lst ts)=>some !ts.isEmpty
  | some (.dK ks _)=>some !ks.isEmpty
  | _=>none
 | _=>none
def FQ (f:FS->Out Rv):FS->Out Bool:=fun fs=>(f fs).bnd fun r fs=>match Xk fs r with
 | some b=>.ok b fs
 | none=>.bad
def Fl (f:FS->Out Bool):FS->Out Bool:=fun fs=>(f fs).bind fun b fs=>.ok (!b) fs
def Sn (f g:FS->Out Bool):FS->Out Bool:=fun fs=>(f fs).bind fun b fs=>if b=true then g fs else .ok false fs
def orT (f g:FS->Out Bool):FS->Out Bool:=fun fs=>(f fs).bind fun b fs=>if b=true then .ok true fs else g fs
def Xc (f g:FS->Out Rv):FS->Out Rv:=fun fs=>(f fs).bnd fun r fs=>match r with
 | .t (.bl true)=>g fs
 | .t (.bl false)=>okT (.bl false) fs
 | _=>.bad
def ifV (c:FS->Out Bool) (f g:FS->Out Rv):FS->Out Rv:=fun fs=>(c fs).bind fun b fs=>if b=true then f fs else g fs
theorem Eo {α β:Type} {xs:List α} {ys:List β} (h:ys.length=xs.length):(!ys.isEmpty)=!xs.isEmpty:=by
 cases xs <;> cases ys <;> simp_all
section
variable {K:Fg} {B:Nat->Option V} {F:Wd} {H:Hp} {σ:St} {fs:FS} {x:Rv} {u:V}
theorem SE {b:Bool} (h:Okk K F B H fs σ) (r:DF K F H σ x u) (e:Xk fs x=some b):Yv K u H b:=by
 unfold Xk at e
 split at e
 ·cases e;cases r;rfl
 ·cases e;cases r;rfl
 ·cases e;cases r;rfl
 ·split at e
  ·rename_i hz
   cases e;cases r
   exact ⟨Nat.le_trans hz DT,rfl⟩
  ·cases e
 ·cases e
  obtain ⟨a,vs,rfl,hs,q⟩:=Cf h r rfl
  exact .inl ⟨vs,hs,(Eo q.len).symm⟩
 ·cases e
  obtain ⟨a,vs,rfl,hs,q⟩:=C5 r rfl
  exact .inr (.inl ⟨vs,hs,(Eo q.len).symm⟩)
 ·rename_i i
  split at e
  ·rename_i ts eo
   cases e
   obtain ⟨a,vs,rfl,hs,q⟩:=Cf (ts:=ts) h r (by simp [DN,eo])
   exact .inl ⟨vs,hs,(Eo q.len).symm⟩
  ·rename_i ks ts eo
   cases e
   obtain ⟨v,L2,e1,q,_⟩:=h.own eo
   have e2:σ[i]?=some (some u):=r
   rw [e1] at e2
   have e3:v=u:=by simpa using e2
   subst e3
   simp only [AQ] at q
   obtain ⟨a,kvs,rfl,hd,rfl,_⟩:=q
   exact .inr (.inr ⟨kvs,hd,(Eo (by simp))⟩)
  ·cases e
 ·cases e
end
section
variable {X:Cx} {Z:Xp} {a b c:Expr} {fa fb:FS->Out Rv} {ga gb:FS->Out Bool} {pos:Pos} {rest:List Expr}
theorem CC (ha:FE X Z a fa) (he:∀ whole,isTrue a X.env whole=(do let v <- whole;standAt a.pos;holding [v] (truthy v))):FT X Z a (FQ fa):=by
 refine HC (QA ha he) fun σ H Q ⟨F,B,fs,ok,s⟩=>⟨F,B,fs,ok,A6 s fun r fs1 F1 H1 u l ok1 rx s1=>?_⟩
 split at s1
 ·rename_i b e
  exact ⟨b,SE ok1 rx e,s1 F1 H1 b Le.refl ⟨ok1,rfl⟩⟩
 ·exact s1.elim
theorem Ee (ha:FT X Z a ga):FT X Z (.UnaryOp .Not a pos) (Fl ga):=by
 refine HC (Vh ha) fun σ H Q ⟨F,B,fs,ok,s⟩=>⟨F,B,fs,ok,A5 s fun b fs1 F1 H1 b' l q s1=>?_⟩
 obtain ⟨ok1,rfl⟩:=q
 exact s1 F1 H1 _ Le.refl ⟨ok1,rfl⟩
def FW (X:Cx) (Z:Xp) (e:Expr) (f:FS->Out Bool):Prop:=PW X e (tT X.K Z f)
theorem FW.ft (h:FW X Z a ga):FT X Z a ga:=PW.pt h
theorem RI {e:Expr} {t t':TT} (h:PW X e t) (i:∀ σ H Q,t' σ H Q->t σ H Q):PW X e t':=fun whole pins s σ H Q I q=>h whole pins s σ H Q I (i _ _ _ q)
theorem Uc (ha:FT X Z a ga):FW X Z (.BoolOp .And [a] pos) ga:=SS ha
theorem IT (ha:FT X Z a ga):FW X Z (.BoolOp .Or [a] pos) ga:=Vf ha
theorem Wn (ha:FT X Z a ga) (hb:FW X Z (.BoolOp .And (b :: rest) pos) gb):FW X Z (.BoolOp .And (a :: b :: rest) pos) (Sn ga gb):=by
 refine RI (Vg ha hb) fun σ H Q ⟨F,B,fs,ok,s⟩=>⟨F,B,fs,ok,A5 s fun b fs1 F1 H1 b' l q s1=>?_⟩
 obtain ⟨ok1,rfl⟩:=q
 cases b' with
 | true =>
  rw [if_pos rfl] at s1 ⊢
  exact ⟨F1,B,fs1,ok1,s1⟩
 | false =>
  rw [if_neg (by decide)] at s1 ⊢
  exact s1 F1 H1 _ Le.refl ⟨ok1,rfl⟩
theorem LA (ha:FT X Z a ga) (hb:FW X Z (.BoolOp .Or (b :: rest) pos) gb):FW X Z (.BoolOp .Or (a :: b :: rest) pos) (orT ga gb):=by
 refine RI (Xw ha hb) fun σ H Q ⟨F,B,fs,ok,s⟩=>⟨F,B,fs,ok,A5 s fun b fs1 F1 H1 b' l q s1=>?_⟩
 obtain ⟨ok1,rfl⟩:=q
 cases b' with
 | true =>
  rw [if_pos rfl] at s1 ⊢
  exact s1 F1 H1 _ Le.refl ⟨ok1,rfl⟩
 | false =>
  rw [if_neg (by decide)] at s1 ⊢
  exact ⟨F1,B,fs1,ok1,s1⟩
theorem Wv {op} (h:FE X Z a fa):FE X Z (.BoolOp op [a] pos) fa:=Vs h
theorem WC (ha:FE X Z a fa) (hb:FE X Z (.BoolOp .And (b :: rest) pos) fb):FE X Z (.BoolOp .And (a :: b :: rest) pos) (Xc fa fb):=by
 refine Bo (Vu ha hb) fun σ H Q ⟨F,B,fs,ok,s⟩=>⟨F,B,fs,ok,A6 s fun r fs1 F1 H1 u l ok1 rx s1=>?_⟩
 split at s1
 ·exact ⟨true,rx,by rw [if_pos rfl];exact ⟨F1,B,fs1,ok1,s1⟩⟩
 ·exact ⟨false,rx,by rw [if_neg (by decide)];exact s1 F1 H1 _ Le.refl (RR.of ok1 rfl)⟩
 ·exact s1.elim
theorem Yk (hc:FT X Z c ga) (ha:FE X Z a fa) (hb:FE X Z b fb):FE X Z (.IfExp c a b pos) (ifV ga fa fb):=by
 refine Bo (QJ hc ha hb) fun σ H Q ⟨F,B,fs,ok,s⟩=>⟨F,B,fs,ok,A5 s fun b fs1 F1 H1 b' l q s1=>?_⟩
 obtain ⟨ok1,rfl⟩:=q
 cases b' with
 | true =>
  rw [if_pos rfl] at s1 ⊢
  exact ⟨F1,B,fs1,ok1,s1⟩
 | false =>
  rw [if_neg (by decide)] at s1 ⊢
  exact ⟨F1,B,fs1,ok1,s1⟩
end
section
variable {X:Cx} {Z:Xp} {a b c:Expr} {fa fb fc:FS->Out Rv} {r r':R2} {g g':Rv->Rv->FS->Out Rv} {pos:Pos}
theorem JI {op op':CmpOp} (hg:OpF X.K Z r g) (hg':OpF X.K Z r' g') (ha:FE X Z a fa) (hb:FE X Z b fb) (hc:FE X Z c fc)
  (h:∀ {ta tb tc:TE},PE X a ta->PE X b tb->PE X c tc->PT X (.Compare a [op,op'] [b,c] pos) (SH (NV r r' ta tb tc))):FT X Z (.Compare a [op,op'] [b,c] pos) (asB (chain g g' fa fb fc)) :=
 HC (h ha hb hc) fun _ _ _ q=>Us hg hg' (La q)
end
def Ak:FS->Out (List Rv):=fun fs=>.ok [] fs
def Ac (f:FS->Out Rv) (g:FS->Out (List Rv)):FS->Out (List Rv):=fun fs=>(f fs).bnd fun r fs=>(g fs).bind fun rs fs=>.ok (r :: rs) fs
def ND:List Rv->Option (List T)
 | []=>some []
 | .t t :: r=>(ND r).map (t :: ·)
 | _=>none
theorem Hq {K:Fg} {F:Wd} {H:Hp} {σ:St}:∀ {rs:List Rv} {vs:List V} {ts:List T},NG K F H σ rs vs->ND rs=some ts->Ag K F H ts vs
 | [],_,_,h,e=>by cases e;exact h
 | .t t :: r,_,_,h,e=>by
  simp only [ND,Option.map_eq_some_iff] at e
  obtain ⟨ts,e,rfl⟩:=e
  obtain ⟨v,w,rfl,h1,h2⟩:=h
  simp only [Ag]
  exact ⟨v,w,rfl,h1,Hq h2 e⟩
 | .nw _ :: r,_,_,h,e=>by simp [ND] at e
 | .rf _ :: r,_,_,h,e=>by simp [ND] at e
def AD (g:List T->FS->Out Rv) (f:FS->Out (List Rv)):FS->Out Rv:=fun fs=>(f fs).bind fun rs fs=>match ND rs with
 | some ts=>if ts.length<=big then g ts fs else .bad
 | none=>.bad
def Bp (ts:List T) (fs:FS):Out Rv:=.ok (.t (.tup ts)) fs
def By (ts:List T) (fs:FS):Out Rv:=.ok (.t (.lst ts)) fs
def DH (ts:List T) (fs:FS):Out Rv:=.ok (.nw (.lst ts)) fs
section
variable {X:Cx} {Z:Xp} {e:Expr} {es:List Expr} {f:FS->Out Rv} {g:FS->Out (List Rv)} {pos:Pos}
theorem Au:FA X Z [] Ak:=Mf GX fun σ H Q ⟨F,B,fs,ok,s⟩=>s F H [] Le.refl ⟨ok,rfl⟩
theorem Ae (ha:FE X Z e f) (hr:FA X Z es g) (hs:starEach (e :: es) X.env=(false,eval e X.env) :: starEach es X.env:=by rfl):FA X Z (e :: es) (Ac f g):=by
 refine Mf (El ha hr hs) fun σ H Q ⟨F,B,fs,ok,s⟩=>⟨F,B,fs,ok,A6 s fun r fs1 F1 H1 u l ok1 rx s1=>⟨F1,B,fs1,ok1,A5 s1 fun rs fs2 F2 H2 us l2 q s2=>?_⟩⟩
 exact s2 F2 H2 (u :: us) Le.refl ⟨q.1,u,us,rfl,rx.le l2,q.2⟩
theorem DY {x1} (h:FA X Z es g):FE X Z (.Tuple es x1 pos) (AD Bp g):=by
 refine Bo (Vq h) fun σ H Q ⟨F,B,fs,ok,s⟩=>⟨F,B,fs,ok,A5 s fun rs fs1 F1 H1 us l q s1=>?_⟩
 obtain ⟨ok1,q⟩:=q
 split at s1
 ·rename_i ts e
  have r:=Hq q e
  split at s1
  ·rename_i hl
   refine ⟨by rw [r.len];exact Nat.le_trans hl DT,fun p hp=>s1 (UH F1 p) (upd H1 p (.tup us)) (.ref p) (Cb ok1 hp) (RR.of (ok1.alloc hp) ?_)⟩
   simp only [DF,A3]
   exact ⟨p,us,rfl,⟨rfl,.inr rfl,AL⟩,r.le (Cb ok1 hp)⟩
  ·exact s1.elim
 ·exact s1.elim
theorem DD (h:FA X Z es g):FE X Z (.List es pos) (AD By g):=by
 refine Bo (Mb h) fun σ H Q ⟨F,B,fs,ok,s⟩=>⟨F,B,fs,ok,A5 s fun rs fs1 F1 H1 us l q s1=>?_⟩
 obtain ⟨ok1,q⟩:=q
 split at s1
 ·rename_i ts e
  have r:=Hq q e
  split at s1
  ·rename_i hl
   refine ⟨by rw [r.len];exact Nat.le_trans hl DT,fun p hp=>s1 (UH F1 p) (upd H1 p (.lst us)) (.ref p) (Cb ok1 hp) (RR.of (ok1.alloc hp) ?_)⟩
   simp only [DF,A3]
   exact ⟨p,us,rfl,.inr rfl,AL,r.le (Cb ok1 hp)⟩
  ·exact s1.elim
 ·exact s1.elim
theorem DV {K:Fg} {F:Wd} {H:Hp} {p:Addr} {ts:List T} {us:List V} (h:H p=some (.lst us)) (r:Ag K F H ts us):AQ K F H (.lst ts) (.ref p) [p]:=by
 simp only [AQ]
 exact ⟨p,us,rfl,h,r,rfl⟩
theorem Es (h:FA X Z es g):FE X Z (.List es pos) (AD DH g):=by
 refine Bo (Mb h) fun σ H Q ⟨F,B,fs,ok,s⟩=>⟨F,B,fs,ok,A5 s fun rs fs1 F1 H1 us l q s1=>?_⟩
 obtain ⟨ok1,q⟩:=q
 split at s1
 ·rename_i ts e
  have r:=Hq q e
  split at s1
  ·rename_i hl
   exact ⟨by rw [r.len];exact Nat.le_trans hl DT,fun p hp=>s1 F1 (upd H1 p (.lst us)) (.ref p) (BJ ok1 hp) (RR.alloc ok1 hp (DV AL (r.le (BJ ok1 hp))))⟩
  ·exact s1.elim
 ·exact s1.elim
def Nq:FS->Out Rv:=fun fs=>.ok (.nw (.dK [] [])) fs
theorem Gf:FE X Z (.Dict [] [] pos) Nq:=by
 refine Bo QK fun σ H Q ⟨F,B,fs,ok,s⟩ p hp=>s F (upd H p (.dK [])) (.ref p) (BJ ok hp) (RR.alloc ok hp ?_)
 simp only [AQ,Ag]
 exact ⟨p,[],rfl,AL,rfl,rfl,rfl⟩
end
def Ei (K:Fg) (Z:Xp) (r:List V->Hp->VK->Prop) (g:List Rv->FS->Out Rv):Prop:=∀ (F:Wd) (B:Nat->Option V) (H:Hp) (σ:St) (fs:FS) (rs:List Rv) (vs:List V) (Q:VK),Okk K F B H fs σ->NG K F H σ rs vs ->
 sat Z B (RR K B σ) F H (g rs fs) Q->r vs H Q
def Am (g:List Rv->FS->Out Rv) (f:FS->Out (List Rv)):FS->Out Rv:=fun fs=>(f fs).bind fun rs fs=>g rs fs
section
variable {X:Cx} {Z:Xp} {e:Expr} {es:List Expr} {fa:FS->Out (List Rv)} {g:List Rv->FS->Out Rv} {r:List V->Hp->VK->Prop} {pos p:Pos} {x:Str} {id Ty:String}
theorem Gg (hg':Ei X.K Z r g) (hc:DU X (.builtin id) r) (hm:X.mg x=none) (hv:bootBuiltins x=some (.builtin id)) (ha:FA X Z (e :: es) fa) (hg:Gl X x:=by rfl) (hn:x≠"__name__":=by decide) (hdb:(x == ("__debug__":Str))=false:=by decide)
  (he:starEach (e :: es) X.env=(false,eval e X.env) :: starEach es X.env:=by rfl) (hpl:(backTo pos (starEach es X.env)).any (·.1)=false:=by rfl):FE X Z (.Call (.Name x p) (e :: es) [] pos) (Am g fa) :=
 Bo (Me hc hg hm hv ha hn hdb he hpl) fun σ H Q ⟨F,B,fs,ok,s⟩=>⟨F,B,fs,ok,A5 s fun rs fs1 F1 H1 us l q s1=>hg' F1 B H1 σ fs1 rs us Q q.1 q.2 s1⟩
theorem HZ (hg':Ei X.K Z r g) (hc:DU X (.type Ty) r) (hm:X.mg x=none) (hv:bootBuiltins x=some (.type Ty)) (ha:FA X Z (e :: es) fa) (hg:Gl X x:=by rfl) (hn:x≠"__name__":=by decide) (hdb:(x == ("__debug__":Str))=false:=by decide)
  (he:starEach (e :: es) X.env=(false,eval e X.env) :: starEach es X.env:=by rfl) (hpl:(backTo pos (starEach es X.env)).any (·.1)=false:=by rfl):FE X Z (.Call (.Name x p) (e :: es) [] pos) (Am g fa) :=
 Bo (Ot hc hg hm hv ha hn hdb he hpl) fun σ H Q ⟨F,B,fs,ok,s⟩=>⟨F,B,fs,ok,A5 s fun rs fs1 F1 H1 us l q s1=>hg' F1 B H1 σ fs1 rs us Q q.1 q.2 s1⟩
end
def UO:List Rv->FS->Out Rv
 | [x],fs=>match DN fs x with
  | some ts=>okT (.int ts.length) fs
  | none=>match N4 x with
   | some ts=>okT (.int ts.length) fs
   | none=>.bad
 | _,_=>.bad
def Pj:List Rv->FS->Out Rv
 | [.t (.str z)],fs=>if z.length<=big then okT (.int z.length) fs else .bad
 | _,_=>.bad
def KC:List Rv->FS->Out Rv
 | [.t (.int i),.t (.int j)],fs=>okT (.int (if j < i then j else i)) fs
 | _,_=>.bad
def Hd:List Rv->FS->Out Rv
 | [.t (.int i)],fs=>okT (.int i) fs
 | [.t (.bl k)],fs=>okT (.int (if k then 1 else 0)) fs
 | _,_=>.bad
def TZ:List Rv->FS->Out Rv
 | [x],fs=>match (DN fs x).bind DE with
  | some ns=>okT (.int ns.sum) fs
  | none=>.bad
 | _,_=>.bad
def Wm:List Rv->FS->Out Rv
 | [x],fs=>match (DN fs x).bind EC with
  | some ns=>okT (.bl (ns.all id)) fs
  | none=>.bad
 | _,_=>.bad
def T7:List Rv->FS->Out Rv
 | [x],fs=>match DN fs x with
  | some ts=>.ok (.nw (.lst ts)) fs
  | none=>match N4 x with
   | some ts=>.ok (.nw (.lst ts)) fs
   | none=>.bad
 | _,_=>.bad
def CN:List Rv->FS->Out Rv
 | [x],fs=>match DN fs x with
  | some ts=>okT (.tup ts) fs
  | none=>match N4 x with
   | some ts=>okT (.tup ts) fs
   | none=>.bad
 | _,_=>.bad
def UM:Key->T
 | .inl i=>.int i
 | .inr x=>.str x
def Ph:List Rv->FS->Out Rv
 | [.t (.dK ks _)],fs=>.ok (.nw (.lst (ks.map UM))) fs
 | _,_=>.bad
section
variable {K:Fg} {Z:Xp}
theorem Cg {F:Wd} {H:Hp} {σ:St} {x:Rv} {vs:List V} (h:NG K F H σ [x] vs):∃ v,vs=[v]/\DF K F H σ x v:=by
 obtain ⟨v,w,rfl,h1,h2⟩:=h
 have:w=[]:=h2
 subst this
 exact ⟨v,rfl,h1⟩
theorem WK:Ei K Z (fun xs H Q=>∃ p ys,xs=[.ref p]/\(SqL K H p ys∨SqT K H p ys)/\Q (.int ys.length) H) UO:=by
 intro F B H σ fs rs vs Q ok q s
 unfold UO at s
 split at s
 ·obtain ⟨v,rfl,qq⟩:=Cg q
  have q:=qq
  split at s
  ·rename_i ts e
   obtain ⟨a,us,rfl,hs,r⟩:=Cf ok q e
   exact ⟨a,us,rfl,.inl hs,by rw [r.len];exact s F H _ Le.refl (RR.of ok rfl)⟩
  ·split at s
   ·rename_i ts e
    obtain ⟨a,us,rfl,hs,r⟩:=C5 q e
    exact ⟨a,us,rfl,.inr hs,by rw [r.len];exact s F H _ Le.refl (RR.of ok rfl)⟩
   ·exact s.elim
 ·exact s.elim
theorem Uv:Ei K Z (fun xs H Q=>∃ z,xs=[.str z]/\z.length<=sizeLine/\Q (.int z.length) H) Pj:=by
 intro F B H σ fs rs vs Q ok q s
 unfold Pj at s
 split at s
 ·rename_i z
  obtain ⟨v,rfl,qq⟩:=Cg q
  have q:=qq
  cases q
  split at s
  ·rename_i hz
   exact ⟨z,rfl,Nat.le_trans hz DT,s F H _ Le.refl (RR.of ok rfl)⟩
  ·exact s.elim
 ·exact s.elim
theorem Ut:Ei K Z (fun xs H Q=>∃ i j,xs=[.int i,.int j]/\Q (.int (if j < i then j else i)) H) KC:=by
 intro F B H σ fs rs vs Q ok q s
 unfold KC at s
 split at s
 ·rename_i i j
  obtain ⟨v,w,rfl,q1,v2,w2,rfl,q2,q3⟩:=q
  cases q1
  cases q2
  cases q3
  exact ⟨i,j,rfl,s F H _ Le.refl (RR.of ok rfl)⟩
 ·exact s.elim
theorem Ux:Ei K Z (fun xs H Q=>(∃ i,xs=[.int i]/\Q (.int i) H)∨∃ k,xs=[.bl k]/\Q (.int (if k then 1 else 0)) H) Hd:=by
 intro F B H σ fs rs vs Q ok q s
 unfold Hd at s
 split at s
 ·obtain ⟨v,rfl,qq⟩:=Cg q
  have q:=qq
  cases q
  exact .inl ⟨_,rfl,s F H _ Le.refl (RR.of ok rfl)⟩
 ·obtain ⟨v,rfl,qq⟩:=Cg q
  have q:=qq
  cases q
  exact .inr ⟨_,rfl,s F H _ Le.refl (RR.of ok rfl)⟩
 ·exact s.elim
theorem WJ:Ei K Z (fun xs H Q=>∃ (l:Addr) (ns:List Int),xs=[.ref l]/\SqL K H l (ns.map V.int)/\Q (.int ns.sum) H) TZ:=by
 intro F B H σ fs rs vs Q ok q s
 unfold TZ at s
 split at s
 ·obtain ⟨v,rfl,qq⟩:=Cg q
  have q:=qq
  split at s
  ·rename_i ns e
   rw [Option.bind_eq_some_iff] at e
   obtain ⟨ts,e1,e2⟩:=e
   obtain ⟨a,us,rfl,hs,r⟩:=Cf ok q e1
   rw [K9 e2] at r
   rw [Ag.ints r] at hs
   exact ⟨a,ns,rfl,hs,s F H _ Le.refl (RR.of ok rfl)⟩
  ·exact s.elim
 ·exact s.elim
theorem WM:Ei K Z (fun xs H Q=>∃ (l:Addr) (bs:List Bool),xs=[.ref l]/\SqL K H l (bs.map V.bl)/\Q (.bl (bs.all id)) H) Wm:=by
 intro F B H σ fs rs vs Q ok q s
 unfold Wm at s
 split at s
 ·obtain ⟨v,rfl,qq⟩:=Cg q
  have q:=qq
  split at s
  ·rename_i ns e
   rw [Option.bind_eq_some_iff] at e
   obtain ⟨ts,e1,e2⟩:=e
   obtain ⟨a,us,rfl,hs,r⟩:=Cf ok q e1
   rw [JW e2] at r
   rw [Ag.bls r] at hs
   exact ⟨a,ns,rfl,hs,s F H _ Le.refl (RR.of ok rfl)⟩
  ·exact s.elim
 ·exact s.elim
theorem Uu:Ei K Z (fun xs H Q=>∃ p ys,xs=[.ref p]/\(SqL K H p ys∨SqT K H p ys)/\∀ l,H l=none->Q (.ref l) (upd H l (.lst ys))) T7:=by
 intro F B H σ fs rs vs Q ok q s
 unfold T7 at s
 split at s
 ·obtain ⟨v,rfl,qq⟩:=Cg q
  have q:=qq
  split at s
  ·rename_i ts e
   obtain ⟨a,us,rfl,hs,r⟩:=Cf ok q e
   exact ⟨a,us,rfl,.inl hs,fun p hp=>s F (upd H p (.lst us)) (.ref p) (BJ ok hp) (RR.alloc ok hp (DV AL (r.le (BJ ok hp))))⟩
  ·split at s
   ·rename_i ts e
    obtain ⟨a,us,rfl,hs,r⟩:=C5 q e
    exact ⟨a,us,rfl,.inr hs,fun p hp=>s F (upd H p (.lst us)) (.ref p) (BJ ok hp) (RR.alloc ok hp (DV AL (r.le (BJ ok hp))))⟩
   ·exact s.elim
 ·exact s.elim
theorem Gw {F:Wd} {H:Hp} {ts:List T} {us:List V} {p:Addr} {σ:St} {B:Nat->Option V} {fs:FS} (ok:Okk K F B H fs σ) (hp:H p=none) (r:Ag K F H ts us):RR K B σ (UH F p) (upd H p (.tup us)) fs (.t (.tup ts)) (.ref p):=by
 refine RR.of (ok.alloc hp) ?_
 simp only [DF,A3]
 exact ⟨p,us,rfl,⟨rfl,.inr rfl,AL⟩,r.le (Cb ok hp)⟩
theorem MW {F:Wd} {H:Hp} {ts:List T} {us:List V} {p:Addr} {σ:St} {B:Nat->Option V} {fs:FS} (ok:Okk K F B H fs σ) (hp:H p=none) (r:Ag K F H ts us):RR K B σ (UH F p) (upd H p (.lst us)) fs (.t (.lst ts)) (.ref p):=by
 refine RR.of (ok.alloc hp) ?_
 simp only [DF,A3]
 exact ⟨p,us,rfl,.inr rfl,AL,r.le (Cb ok hp)⟩
theorem Rk:Ei K Z (fun xs H Q=>∃ p ys,xs=[.ref p]/\((SqL K H p ys/\∀ l,H l=none->Q (.ref l) (upd H l (.tup ys)))∨(SqT K H p ys/\Q (.ref p) H))) CN:=by
 intro F B H σ fs rs vs Q ok q s
 unfold CN at s
 split at s
 ·rename_i x
  obtain ⟨v,rfl,qq⟩:=Cg q
  have q:=qq
  split at s
  ·rename_i ts e
   obtain ⟨a,us,rfl,hs,r⟩:=Cf ok q e
   exact ⟨a,us,rfl,.inl ⟨hs,fun p hp=>s _ _ (.ref p) (Cb ok hp) (Gw ok hp r)⟩⟩
  ·split at s
   ·rename_i ts e
    obtain ⟨a,us,rfl,hs,r⟩:=C5 q e
    have ex:x=.t (.tup ts):=by
     unfold N4 at e
     split at e
     ·cases e;rfl
     ·cases e
    rw [ex] at q
    exact ⟨a,us,rfl,.inr ⟨hs,s F H _ Le.refl (RR.of ok q)⟩⟩
   ·exact s.elim
 ·exact s.elim
theorem Jx {F:Wd} {H:Hp}:∀ ks:List Key,Ag K F H (ks.map UM) (ks.map kV)
 | []=>by simp [Ag]
 | .inl i :: r=>by
  simp only [List.map_cons,Ag]
  exact ⟨_,_,rfl,rfl,Jx r⟩
 | .inr i :: r=>by
  simp only [List.map_cons,Ag]
  exact ⟨_,_,rfl,rfl,Jx r⟩
theorem Rl:Ei K Z (fun xs H Q=>∃ p kvs,xs=[.ref p]/\Rd H p (.dK kvs)/\∀ l,H l=none->Q (.ref l) (upd H l (.lst (kvs.map fun kv=>kV kv.1)))) Ph:=by
 intro F B H σ fs rs vs Q ok q s
 unfold Ph at s
 split at s
 ·rename_i ks ts
  obtain ⟨v,rfl,qq⟩:=Cg q
  have q:=qq
  simp only [DF,A3] at q
  obtain ⟨a,kvs,rfl,f,hd,rfl,r⟩:=q
  refine ⟨a,kvs,rfl,hd,fun p hp=>s F _ (.ref p) (BJ ok hp) (RR.alloc ok hp (DV AL ?_))⟩
  have e:(kvs.map fun kv=>kV kv.1)=(kvs.map (·.1)).map kV:=by rw [List.map_map];rfl
  rw [e]
  exact Jx _
 ·exact s.elim
end
def MtF (K:Fg) (Z:Xp) (r:V->List V->Hp->VK->Prop) (g:Rv->List Rv->FS->Out Rv):Prop:=∀ (F:Wd) (B:Nat->Option V) (H:Hp) (σ:St) (fs:FS) (x:Rv) (rs:List Rv) (u:V) (vs:List V) (Q:VK),Okk K F B H fs σ->DF K F H σ x u->NG K F H σ rs vs ->
 sat Z B (RR K B σ) F H (g x rs fs) Q->r u vs H Q
def AX (g:Rv->List Rv->FS->Out Rv) (fo:FS->Out Rv) (fa:FS->Out (List Rv)):FS->Out Rv:=fun fs=>(fo fs).bnd fun x fs=>if (DN fs x).isSome=true then (fa fs).bind fun rs fs=>g x rs fs else .bad
def Fm (g:Rv->List Rv->FS->Out Rv) (fo:FS->Out Rv) (fa:FS->Out (List Rv)):FS->Out Rv:=fun fs=>(fo fs).bnd fun x fs=>match x with
 | .t (.str _)=>(fa fs).bind fun rs fs=>g x rs fs
 | _=>.bad
section
variable {X:Cx} {Z:Xp} {o e:Expr} {es:List Expr} {fo:FS->Out Rv} {fa:FS->Out (List Rv)} {g:Rv->List Rv->FS->Out Rv} {r:V->List V->Hp->VK->Prop} {apos cpos:Pos} {name:Str} {id:String}
theorem JL (hg:MtF X.K Z r g) (slot:Slot "list" name id) (hty:typeOf (.builtin id)=pure (.type "method_descriptor")) (hm:MtR X id r) (ho:FE X Z o fo) (ha:FA X Z (e :: es) fa)
  (hbase:attributeBase o name X.env (eval o X.env)=eval o X.env:=by rfl)
  (hfew:((backTo cpos (starEach (e :: es) X.env)).all (fun x=>!x.1) && (backToKw cpos (keywordEach [] X.env)).all (fun x=>x.1.isSome)
   && decide ((e :: es).length+([]:List Keyword).length+(if ([]:List Keyword).isEmpty then 0 else 1) < 30))=true:=by rfl)
  (hline:(apos.endLine == cpos.line)=true:=by rfl) (hs:starEach (e :: es) X.env=(false,eval e X.env) :: starEach es X.env:=by rfl) (hplain:(backTo cpos (starEach es X.env)).any (·.1)=false:=by rfl) :
  FE X Z (.Call (.Attribute o name apos) (e :: es) [] cpos) (AX g fo fa):=by
 refine Bo (QL PySem.F.plainAttrs_list slot hty hm ho ha hbase hfew hline hs hplain) fun σ H Q ⟨F,B,fs,ok,s⟩=>⟨F,B,fs,ok,A6 s fun x fs1 F1 H1 u l ok1 rx s1=>?_⟩
 split at s1
 ·rename_i he
  obtain ⟨ts,ets⟩:=Option.isSome_iff_exists.mp he
  obtain ⟨a,vs,rfl,hs,q⟩:=Cf ok1 rx ets
  exact ⟨.inl ⟨rfl,vs,hs⟩,F1,B,fs1,ok1,A5 s1 fun rs fs2 F2 H2 us l2 q2 s2=>hg F2 B H2 σ fs2 x rs _ us Q q2.1 (rx.le l2) q2.2 s2⟩
 ·exact s1.elim
theorem H0 (hg:MtF X.K Z r g) (slot:Slot "list" name id) (hty:typeOf (.builtin id)=pure (.type "method_descriptor")) (hm:MtR X id r) (ho:FE X Z o fo)
  (hbase:attributeBase o name X.env (eval o X.env)=eval o X.env:=by rfl) (hline:(apos.endLine == cpos.line)=true:=by rfl):FE X Z (.Call (.Attribute o name apos) [] [] cpos) (AX g fo Ak):=by
 refine Bo (RU PySem.F.plainAttrs_list slot hty hm ho hbase hline) fun σ H Q ⟨F,B,fs,ok,s⟩=>⟨F,B,fs,ok,A6 s fun x fs1 F1 H1 u l ok1 rx s1=>?_⟩
 split at s1
 ·rename_i he
  obtain ⟨ts,ets⟩:=Option.isSome_iff_exists.mp he
  obtain ⟨a,vs,rfl,hs,q⟩:=Cf ok1 rx ets
  exact ⟨.inl ⟨rfl,vs,hs⟩,hg F1 B H1 σ fs1 x [] _ [] Q ok1 rx rfl s1⟩
 ·exact s1.elim
theorem Mz (hg:MtF X.K Z r g) (slot:Slot "str" name id) (hty:typeOf (.builtin id)=pure (.type "method_descriptor")) (hm:MtR X id r) (ho:FE X Z o fo) (ha:FA X Z (e :: es) fa)
  (hbase:attributeBase o name X.env (eval o X.env)=eval o X.env:=by rfl)
  (hfew:((backTo cpos (starEach (e :: es) X.env)).all (fun x=>!x.1) && (backToKw cpos (keywordEach [] X.env)).all (fun x=>x.1.isSome)
   && decide ((e :: es).length+([]:List Keyword).length+(if ([]:List Keyword).isEmpty then 0 else 1) < 30))=true:=by rfl)
  (hline:(apos.endLine == cpos.line)=true:=by rfl) (hs:starEach (e :: es) X.env=(false,eval e X.env) :: starEach es X.env:=by rfl) (hplain:(backTo cpos (starEach es X.env)).any (·.1)=false:=by rfl) :
  FE X Z (.Call (.Attribute o name apos) (e :: es) [] cpos) (Fm g fo fa):=by
 refine Bo (QL PySem.F.plainAttrs_str slot hty hm ho ha hbase hfew hline hs hplain) fun σ H Q ⟨F,B,fs,ok,s⟩=>⟨F,B,fs,ok,A6 s fun x fs1 F1 H1 u l ok1 rx s1=>?_⟩
 split at s1
 ·have rx2:=rx
  cases rx
  exact ⟨rfl,F1,B,fs1,ok1,A5 s1 fun rs fs2 F2 H2 us l2 q2 s2=>hg F2 B H2 σ fs2 _ rs _ us Q q2.1 (DF.le rx2 l2) q2.2 s2⟩
 ·exact s1.elim
end
def Er:Rv->List Rv->FS->Out Rv
 | .rf i,[.t t],fs=>match A1 fs i with
  | some (.lst ts)=>if ts.length < big then .ok (.t .non) (putAt fs i (.lst (ts++[t]))) else .bad
  | _=>.bad
 | _,_,_=>.bad
def Ha:Rv->List Rv->FS->Out Rv
 | .rf i,[],fs=>match A1 fs i with
  | some (.lst ts)=>match ts.getLast? with
   | some t=>.ok (.t t) (putAt fs i (.lst ts.dropLast))
   | none=>.bad
  | _=>.bad
 | _,_,_=>.bad
def Wi:Rv->List Rv->FS->Out Rv
 | .rf i,[.t (.lst us)],fs=>match A1 fs i with
  | some (.lst ts)=>if ts.length+us.length<=big then .ok (.t .non) (putAt fs i (.lst (ts++us))) else .bad
  | _=>.bad
 | _,_,_=>.bad
def FF:Rv->List Rv->FS->Out Rv
 | .t (.str z),[x],fs=>match (DN fs x).bind Dt with
  | some ys=>if (ys.map (·.length)).sum+ys.length * z.length<=big then okT (.str (Txt.join z ys)) fs else .bad
  | none=>.bad
 | _,_,_=>.bad
section
variable {K:Fg} {Z:Xp} {B:Nat->Option V} {F:Wd} {H:Hp} {σ:St} {fs:FS} {i:Nat} {u:V} {ts:List T}
theorem Ag.last {vs:List V} {t:T} (r:Ag K F H ts vs) (e:ts.getLast?=some t):∃ z,vs=vs.dropLast++[z]/\A3 K F H t z/\Ag K F H ts.dropLast vs.dropLast:=by
 have hl:=r.len
 rw [List.getLast?_eq_getElem?] at e
 obtain ⟨z,ez,rz⟩:=r.at e
 have hpos:0 < ts.length:=by
  have:=(List.getElem?_eq_some_iff.mp e).1
  omega
 refine ⟨z,?_,rz,?_⟩
 ·have hne:vs≠[]:=by intro q;rw [q] at hl;simp at hl;omega
  have h1:=(List.dropLast_concat_getLast hne).symm
  have h2:vs.getLast hne=z:=by
   rw [List.getLast_eq_getElem]
   have:=(List.getElem?_eq_some_iff.mp ez)
   obtain ⟨h3,h4⟩:=this
   rw [<- h4]
   congr 1
   rw [hl]
  rw [h2] at h1
  exact h1
 ·rw [List.dropLast_eq_take,List.dropLast_eq_take,hl]
  exact r.take _
theorem Okk.list (h:Okk K F B H fs σ) (r:σ[i]?=some (some u)) (e:A1 fs i=some (.lst ts)):∃ a vs,u=.ref a/\H a=some (.lst vs)/\Ag K F H ts vs /\
  ∀ ts' vs',Ag K F H ts' vs'->Okk K F B (upd H a (.lst vs')) (putAt fs i (.lst ts')) σ/\Le F H F (upd H a (.lst vs')):=by
 obtain ⟨v,L2,e1,q,nf,_,k⟩:=h.own e
 rw [e1] at r
 have e3:v=u:=by simpa using r
 subst e3
 simp only [AQ] at q
 obtain ⟨a,vs,rfl,hs,q,rfl⟩:=q
 refine ⟨a,vs,rfl,hs,q,fun ts' vs' q'=>?_⟩
 have l:Le F H F (upd H a (.lst vs')):=⟨fun b f=>⟨f,Aw fun z=>(nf a (by simp)).1 (z▸f)⟩,fun b f=>⟨f,Aw fun z=>(nf a (by simp)).2 (z▸f)⟩⟩
 exact k _ _ (fun b hb _=>Aw (by simpa using hb)) (DV AL (q'.le l))
theorem GY:MtF K Z Ob Er:=by
 intro F B H σ fs x rs u vs Q ok rx q s
 unfold Er at s
 split at s
 ·rename_i i t
  obtain ⟨v,rfl,qq⟩:=Cg q
  have q:=qq
  split at s
  ·rename_i ts e
   split at s
   ·rename_i hl
    obtain ⟨a,us,rfl,hs,r,k⟩:=ok.list rx e
    obtain ⟨ok',l⟩:=k (ts++[t]) (us++[v]) (r.app (Ag.one q))
    exact ⟨a,us,v,rfl,rfl,hs,by rw [r.len];exact Nat.lt_trans hl K7,s F _ _ l (RR.of ok' rfl)⟩
   ·exact s.elim
  ·exact s.elim
 ·exact s.elim
theorem HL:MtF K Z (fun x vs H Q=>∃ l e z,x=.ref l/\vs=[]/\H l=some (.lst (e++[z]))/\Q z (upd H l (.lst e))) Ha:=by
 intro F B H σ fs x rs u vs Q ok rx q s
 unfold Ha at s
 split at s
 ·have:vs=[]:=q
  subst this
  split at s
  ·rename_i ts e
   split at s
   ·rename_i t et
    obtain ⟨a,us,rfl,hs,r,k⟩:=ok.list rx e
    obtain ⟨z,ez,rz,rd⟩:=r.last et
    obtain ⟨ok',l⟩:=k _ _ rd
    refine ⟨a,us.dropLast,z,rfl,rfl,by rw [<- ez];exact hs,s F _ z l (RR.of ok' (A3.le l rz))⟩
   ·exact s.elim
  ·exact s.elim
 ·exact s.elim
theorem VN:MtF K Z Jh Wi:=by
 intro F B H σ fs x rs u vs Q ok rx q s
 unfold Wi at s
 split at s
 ·rename_i i ws
  obtain ⟨v,rfl,qq⟩:=Cg q
  have q:=qq
  split at s
  ·rename_i ts e
   split at s
   ·rename_i hl
    obtain ⟨a,us,rfl,hs,r,k⟩:=ok.list rx e
    simp only [DF,A3] at q
    obtain ⟨b,zs,rfl,f,hb,rz⟩:=q
    obtain ⟨ok',l⟩:=k _ _ (r.app rz)
    exact ⟨a,b,us,zs,rfl,rfl,hs,hb,by rw [r.len,rz.len];exact Nat.le_trans hl DT,s F _ _ l (RR.of ok' rfl)⟩
   ·exact s.elim
  ·exact s.elim
 ·exact s.elim
theorem Jw:MtF K Z (fun x xs H Q=>∃ (z:Str) (l:Addr) (ys:List Str),x=.str z/\xs=[.ref l]/\SqL K H l (ys.map V.str)/\(ys.map (·.length)).sum+ys.length * z.length<=16777216/\Q (.str (Txt.join z ys)) H) FF:=by
 intro F B H σ fs x rs u vs Q ok rx q s
 unfold FF at s
 split at s
 ·rename_i z x
  obtain ⟨v,rfl,qq⟩:=Cg q
  have q:=qq
  cases rx
  split at s
  ·rename_i ys e
   rw [Option.bind_eq_some_iff] at e
   obtain ⟨ts,e1,e2⟩:=e
   split at s
   ·rename_i hl
    obtain ⟨a,us,rfl,hs,r⟩:=Cf ok q e1
    rw [K8 e2] at r
    rw [Ag.strs r] at hs
    exact ⟨z,a,ys,rfl,rfl,hs,Nat.le_trans hl (by decide),s F H _ Le.refl (RR.of ok rfl)⟩
   ·exact s.elim
  ·exact s.elim
 ·exact s.elim
end
def MU:T->Option Key
 | .int i=>some (.inl i)
 | .str x=>some (.inr x)
 | _=>none
def Lf:List T->Option (List Key)
 | []=>some []
 | t :: r=>(MU t).bind fun k=>(Lf r).map (k :: ·)
theorem Hj {K:Fg} {F:Wd} {H:Hp} {t:T} {u:V} {k:Key} (e:MU t=some k) (r:A3 K F H t u):u=kV k:=by
 unfold MU at e
 split at e
 ·cases e;exact r
 ·cases e;exact r
 ·cases e
theorem Hu {K:Fg} {F:Wd} {H:Hp}:∀ {ts:List T} {us:List V} {ks:List Key},Lf ts=some ks->Ag K F H ts us->us=ks.map kV
 | [],_,_,e,r=>by cases e;exact r
 | t :: ts,_,_,e,r=>by
  simp only [Lf,Option.bind_eq_some_iff,Option.map_eq_some_iff] at e
  obtain ⟨k,e1,ks,e2,rfl⟩:=e
  simp only [Ag] at r
  obtain ⟨v,w,rfl,r1,r2⟩:=r
  rw [List.map_cons,Hu e2 r2,Hj e1 r1]
def Gs {κ:Type} [DecidableEq κ]:List κ->List T->κ->Option T
 | k :: ks,t :: ts,j=>if k=j then some t else Gs ks ts j
 | _,_,_=>none
def Jj {κ:Type} [DecidableEq κ] (ks:List κ) (ts:List T) (j:κ) (v:T):List κ×List T :=
 if (ks.any fun k=>decide (k=j))=true then (ks,List.zipWith (fun k t=>if k=j then v else t) ks ts) else (ks++[j],ts++[v])
section
variable {K:Fg} {F:Wd} {H:Hp} {κ:Type} [DecidableEq κ]
theorem Jb:∀ {kvs:List (κ×V)} {ts:List T} {j:κ},Ag K F H ts (kvs.map (·.2))->(Gs (kvs.map (·.1)) ts j=none/\MR kvs j=none)∨∃ t v,Gs (kvs.map (·.1)) ts j=some t/\MR kvs j=some v/\A3 K F H t v
 | [],ts,j,r=>by
  have h:=r.len
  cases ts with
  | nil=>exact .inl ⟨rfl,rfl⟩
  | cons t ts=>simp at h
 | (k,v) :: kvs,ts,j,r=>by
  cases ts with
  | nil =>
   have h:=r.len
   simp at h
  | cons t ts =>
   simp only [List.map_cons,Ag] at r
   obtain ⟨v',w,e,r1,r2⟩:=r
   cases e
   by_cases hk:k=j
   ·refine .inr ⟨t,v,?_,Hg hk,r1⟩
    simp only [List.map_cons,Gs]
    rw [if_pos hk]
   ·have e1:Gs (((k,v) :: kvs).map (·.1)) (t :: ts) j=Gs (kvs.map (·.1)) ts j:=by
     simp only [List.map_cons,Gs]
     rw [if_neg hk]
    rw [e1,Hh (p:=(k,v)) hk]
    exact Jb r2
theorem NK {j:κ} {t:T} {w:V} (q:A3 K F H t w):∀ {kvs:List (κ×V)} {ts:List T},Ag K F H ts (kvs.map (·.2)) ->
  Ag K F H (List.zipWith (fun k t'=>if k=j then t else t') (kvs.map (·.1)) ts) ((kvs.map fun kv=>if kv.1=j then (kv.1,w) else kv).map (·.2))
 | [],ts,r=>by
  have h:=r.len
  cases ts with
  | cons t ts=>simp at h
  | nil=>exact rfl
 | (k,v) :: kvs,ts,r=>by
  cases ts with
  | nil =>
   have h:=r.len
   simp at h
  | cons t' ts =>
   simp only [List.map_cons,Ag] at r
   obtain ⟨v',w',e,r1,r2⟩:=r
   cases e
   have ih:=NK q (j:=j) r2
   simp only [List.map_cons,List.zipWith_cons_cons,Ag]
   by_cases hk:k=j
   ·rw [if_pos hk,if_pos hk]
    exact ⟨w,_,rfl,q,ih⟩
   ·rw [if_neg hk,if_neg hk]
    exact ⟨v,_,rfl,r1,ih⟩
theorem Ji {j:κ} {t:T} {w:V} (q:A3 K F H t w) {kvs:List (κ×V)} {ts:List T} (r:Ag K F H ts (kvs.map (·.2))) :
  (putK kvs j w).map (·.1)=(Jj (kvs.map (·.1)) ts j t).1/\Ag K F H (Jj (kvs.map (·.1)) ts j t).2 ((putK kvs j w).map (·.2)):=by
 have e:((kvs.map (·.1)).any fun k=>decide (k=j))=(kvs.any fun kv=>decide (kv.1=j)):=by rw [List.any_map];rfl
 unfold putK Jj
 rw [e]
 by_cases h:(kvs.any fun kv=>decide (kv.1=j))=true
 ·rw [if_pos h,if_pos h]
  refine ⟨?_,NK q r⟩
  rw [List.map_map]
  refine List.map_congr_left fun p hp=>?_
  show (if p.1=j then (p.1,w) else p).1=p.1
  split <;> rfl
 ·rw [if_neg h,if_neg h]
  refine ⟨by rw [List.map_append];rfl,?_⟩
  rw [List.map_append]
  exact r.app (Ag.one q)
end
def Up (fs:FS):Rv->T->Option (Option T)
 | .t (.dK ks ts),y=>(MU y).map fun k=>Gs ks ts k
 | .t (.dF ks ts),y=>(MU y).map fun k=>Gs ks ts k
 | .t (.dT ks ts),.tup y=>(Lf y).map fun k=>Gs ks ts k
 | .rf i,y=>match A1 fs i with
  | some (.dK ks ts)=>(MU y).map fun k=>Gs ks ts k
  | some (.dT ks ts)=>match y with
   | .tup y=>(Lf y).map fun k=>Gs ks ts k
   | _=>none
  | _=>none
 | _,_=>none
section
variable {K:Fg} {B:Nat->Option V} {F:Wd} {H:Hp} {σ:St} {fs:FS} {x:Rv} {y:T} {u w:V}
theorem PK {o:Option T} (h:Okk K F B H fs σ) (rx:DF K F H σ x u) (ry:A3 K F H y w) (e:Up fs x y=some o) :
  ∃ a o',u=.ref a/\NI H a w o'/\((o=none/\o'=none)∨∃ t v,o=some t/\o'=some v/\A3 K F H t v):=by
 have key:∀ {a:Addr} {kvs:List (Key×V)} {ts:List T},Rd H a (.dK kvs)->Ag K F H ts (kvs.map (·.2))->(MU y).map (fun k=>Gs (kvs.map (·.1)) ts k)=some o ->
   ∃ o',NI H a w o'/\((o=none/\o'=none)∨∃ t v,o=some t/\o'=some v/\A3 K F H t v):=by
  intro a kvs ts hd r e
  rw [Option.map_eq_some_iff] at e
  obtain ⟨k,ek,eo⟩:=e
  have:=Hj ek ry
  subst this
  refine ⟨_,.inl ⟨kvs,k,hd,rfl,rfl⟩,?_⟩
  rcases Jb (j:=k) r with ⟨h1,h2⟩ | ⟨t,v,h1,h2,h3⟩
  ·exact .inl ⟨eo.symm.trans h1,h2⟩
  ·exact .inr ⟨t,v,eo.symm.trans h1,h2,h3⟩
 have UM:∀ {a:Addr} {kvs:List (List Key×V)} {ts ys:List T},H a=some (.dT kvs)->Ag K F H ts (kvs.map (·.2))->y=.tup ys->(Lf ys).map (fun k=>Gs (kvs.map (·.1)) ts k)=some o ->
   ∃ o',NI H a w o'/\((o=none/\o'=none)∨∃ t v,o=some t/\o'=some v/\A3 K F H t v):=by
  intro a kvs ts ys hd r ey e
  rw [Option.map_eq_some_iff] at e
  obtain ⟨k,ek,eo⟩:=e
  subst ey
  simp only [A3] at ry
  obtain ⟨b,vs,rfl,hb,rb⟩:=ry
  have:=Hu ek rb
  subst this
  refine ⟨_,NI.t hd hb.2.2,?_⟩
  rcases Jb (j:=k) r with ⟨h1,h2⟩ | ⟨t,v,h1,h2,h3⟩
  ·exact .inl ⟨eo.symm.trans h1,h2⟩
  ·exact .inr ⟨t,v,eo.symm.trans h1,h2,h3⟩
 unfold Up at e
 split at e
 ·simp only [DF,A3] at rx
  obtain ⟨a,kvs,rfl,f,hd,rfl,r⟩:=rx
  obtain ⟨o',h1,h2⟩:=key hd r e
  exact ⟨a,o',rfl,h1,h2⟩
 ·simp only [DF,A3] at rx
  obtain ⟨a,kvs,rfl,f,⟨ob,hd⟩,rfl,r⟩:=rx
  obtain ⟨o',h1,h2⟩:=key (.inr ⟨ob,hd⟩) r e
  exact ⟨a,o',rfl,h1,h2⟩
 ·simp only [DF,A3] at rx
  obtain ⟨a,kvs,rfl,f,hd,rfl,r⟩:=rx
  obtain ⟨o',h1,h2⟩:=UM hd r rfl e
  exact ⟨a,o',rfl,h1,h2⟩
 ·rename_i y' i
  have e2:σ[i]?=some (some u):=rx
  split at e
  ·rename_i eo
   obtain ⟨v,L2,e1,q,_⟩:=h.own eo
   rw [e1] at e2
   have e3:v=u:=by simpa using e2
   subst e3
   simp only [AQ] at q
   obtain ⟨a,kvs,rfl,hd,rfl,r,_⟩:=q
   obtain ⟨o',h1,h2⟩:=key (.inl hd) r e
   exact ⟨a,o',rfl,h1,h2⟩
  ·rename_i eo
   split at e
   ·obtain ⟨v,L2,e1,q,_⟩:=h.own eo
    rw [e1] at e2
    have e3:v=u:=by simpa using e2
    subst e3
    simp only [AQ] at q
    obtain ⟨a,kvs,rfl,hd,rfl,r,_⟩:=q
    obtain ⟨o',h1,h2⟩:=UM hd r rfl e
    exact ⟨a,o',rfl,h1,h2⟩
   ·cases e
  ·cases e
 ·cases e
end
def Pk:Rv->Rv->FS->Out Rv
 | x,.t y,fs=>match Up fs x y with
  | some (some t)=>okT t fs
  | _=>.bad
 | _,_,_=>.bad
def Ua (neg:Bool):Rv->Rv->FS->Out Rv
 | .t y,x,fs=>match Up fs x y with
  | some o=>okT (.bl (if neg then !o.isSome else o.isSome)) fs
  | _=>.bad
 | _,_,_=>.bad
section
variable {X:Cx} {Z:Xp} {o i:Expr} {fo fi:FS->Out Rv} {pos:Pos}
end
def SA:List Str->List T->Str->Option T
 | f :: fs,t :: ts,g=>if g == f then some t else SA fs ts g
 | _,_,_=>none
def EA:List Str->List FO->Str->Option FO
 | f :: fs,t :: ts,g=>if g == f then some t else EA fs ts g
 | _,_,_=>none
def Yd (C:Addr) (f:Str):Rv->FS->Out Rv
 | .t (.ins C' fs ts),st=>if C'=C then match SA fs ts f with
   | some t=>okT t st
   | none=>.bad
  else .bad
 | .rf i,st=>match A1 st i with
  | some (.ins C' fs os)=>if C'=C then match EA fs os f with
    | some (.val t)=>okT t st
    | _=>.bad
   else .bad
  | _=>.bad
 | _,_=>.bad
theorem LV {K:Fg} {F:Wd} {H:Hp} {g:Str}:∀ {kvs:List (Str×V)} {ts:List T} {t:T},Ag K F H ts (kvs.map (·.2))->SA (kvs.map (·.1)) ts g=some t->∃ v,kvs.lookup g=some v/\A3 K F H t v
 | [],ts,t,r,e=>by cases ts <;> simp [SA] at e
 | (k,v) :: kvs,ts,t,r,e=>by
  cases ts with
  | nil=>simp [SA] at e
  | cons t' ts =>
   simp only [List.map_cons,Ag] at r
   obtain ⟨v',w',ee,r1,r2⟩:=r
   cases ee
   simp only [List.map_cons,SA] at e
   rw [List.lookup_cons]
   cases hb:g == k with
   | true =>
    rw [hb] at e
    cases e
    exact ⟨v,rfl,r1⟩
   | false =>
    rw [hb] at e
    exact LV r2 (by simpa using e)
theorem J1 {K:Fg} {F:Wd} {H:Hp} {g:Str}:∀ {kvs:List (Str×V)} {ts:List FO} {L:List Addr} {t:FO},AM K F H ts (kvs.map (·.2)) L->EA (kvs.map (·.1)) ts g=some t->∃ v L',kvs.lookup g=some v/\AQ K F H t v L'/\∀ a∈L',a∈L
 | [],ts,L,t,r,e=>by cases ts <;> simp [EA] at e
 | (k,v) :: kvs,ts,L,t,r,e=>by
  cases ts with
  | nil=>simp [EA] at e
  | cons t' ts =>
   simp only [List.map_cons,AM] at r
   obtain ⟨v',w',L1,L2,ee,r1,r2,rfl⟩:=r
   cases ee
   simp only [List.map_cons,EA] at e
   rw [List.lookup_cons]
   cases hb:g == k with
   | true =>
    rw [hb] at e
    cases e
    exact ⟨v,L1,rfl,r1,fun a m=>List.mem_append_left _ m⟩
   | false =>
    rw [hb] at e
    obtain ⟨v2,L',h1,h2,h3⟩:=J1 r2 (by simpa using e)
    exact ⟨v2,L',h1,h2,fun a m=>List.mem_append_right _ (h3 a m)⟩
def UQ (C:Addr) (f:Str) (fo:FS->Out Rv):FS->Out Rv:=fun fs=>(fo fs).bnd fun x fs=>Yd C f x fs
section
variable {X:Cx} {Z:Xp} {o:Expr} {fo:FS->Out Rv} {pos:Pos} {C:Addr} {f:Str}
theorem Py (c:Cls X.K C) (n:Ez X.K C f) (ho:FE X Z o fo) (hb:attributeBase o f X.env (eval o X.env)=eval o X.env:=by rfl):FE X Z (.Attribute o f pos) (UQ C f fo):=by
 refine Bo (Md ho hb) fun σ H Q ⟨F,B,fs,ok,s⟩=>⟨F,B,fs,ok,A6 s fun x fs1 F1 H1 u l ok1 rx s1=>?_⟩
 unfold Yd at s1
 split at s1
 ·rename_i C' gs ts
  split at s1
  ·rename_i hC
   subst hC
   split at s1
   ·rename_i t e
    simp only [DF,A3] at rx
    obtain ⟨a,dx,kvs,rfl,ff,hd,rfl,r⟩:=rx
    obtain ⟨v,e1,rv⟩:=LV r e
    exact ⟨a,C',dx,kvs,v,rfl,hd,c,n,e1,s1 F1 H1 v Le.refl (RR.of ok1 rv)⟩
   ·exact s1.elim
  ·exact s1.elim
 ·rename_i i
  split at s1
  ·rename_i C' gs os eo
   split at s1
   ·rename_i hC
    subst hC
    split at s1
    ·rename_i t e
     obtain ⟨v,L2,e1,q,_⟩:=ok1.own eo
     have e2:σ[i]?=some (some u):=rx
     rw [e1] at e2
     have e3:v=u:=by simpa using e2
     subst e3
     simp only [AQ] at q
     obtain ⟨a,dx,kvs,L',rfl,hd,rfl,r,_⟩:=q
     obtain ⟨v2,L3,e4,r4,_⟩:=J1 r e
     simp only [AQ] at r4
     exact ⟨a,C',dx,kvs,v2,rfl,hd,c,n,e4,s1 F1 H1 v2 Le.refl (RR.of ok1 r4.2)⟩
    ·exact s1.elim
   ·exact s1.elim
  ·exact s1.elim
 ·exact s1.elim
end
def Lb (K:Fg) (Z:Xp) (B:Nat->Option V) (F:Wd) (H:Hp) (o:SO) (D:Ends):Prop:=match o with
 | .nx fs=>∀ F' H' σ,Le F H F' H'->Okk K F' B H' fs σ->D.nx σ H'
 | .ret r fs=>∀ F' H' σ u,Le F H F' H'->RR K B σ F' H' fs r u->D.rt u H'
 | .brk fs=>∀ F' H' σ,Le F H F' H'->Okk K F' B H' fs σ->D.bk σ H'
 | .cnt fs=>∀ F' H' σ,Le F H F' H'->Okk K F' B H' fs σ->D.ct σ H'
 | .exc c fs=>Z.p F B H c fs
 | .bad=>False
def tSt (K:Fg) (Z:Xp) (g:FS->SO):TS:=fun D σ H=>∃ F B fs,Okk K F B H fs σ/\Lb K Z B F H (g fs) D
def GS (X:Cx) (Z:Xp) (st:Stmt) (g:FS->SO):Prop:=PS X st (tSt X.K Z g)
def GSs (X:Cx) (Z:Xp) (sts:List Stmt) (g:FS->SO):Prop:=PSs X sts (tSt X.K Z g)
theorem Lb.le {K:Fg} {Z:Xp} {B:Nat->Option V} {F F':Wd} {H H':Hp} {o:SO} {D:Ends} (h:Lb K Z B F H o D) (l:Le F H F' H'):Lb K Z B F' H' o D:=by
 cases o with
 | nx fs=>exact fun F2 H2 σ l2 k=>h F2 H2 σ (l.trans l2) k
 | ret r fs=>exact fun F2 H2 σ u l2 k=>h F2 H2 σ u (l.trans l2) k
 | brk fs=>exact fun F2 H2 σ l2 k=>h F2 H2 σ (l.trans l2) k
 | cnt fs=>exact fun F2 H2 σ l2 k=>h F2 H2 σ (l.trans l2) k
 | exc c fs=>exact Z.mono h l
 | bad=>exact h
def nxS:FS->SO:=fun fs=>.nx fs
def AN (g h:FS->SO):FS->SO:=fun fs=>match g fs with
 | .nx fs=>h fs
 | o=>o
def SO.of {α:Type} (o:Out α) (k:α->FS->SO):SO:=match o with
 | .ok a fs=>k a fs
 | .exc c fs=>.exc c fs
 | .bad=>.bad
theorem C6 {K:Fg} {Z:Xp} {B:Nat->Option V} {F:Wd} {H:Hp} {α β:Type} {R:Wd->Hp->FS->α->β->Prop} {o:Out α} {k:α->FS->SO} {D:Ends} {Q:β->Hp->Prop} (h:Lb K Z B F H (SO.of o k) D)
  (hk:∀ a fs F' H' b,Le F H F' H'->R F' H' fs a b->Lb K Z B F' H' (k a fs) D->Q b H'):sat Z B R F H o Q:=by
 cases o with
 | ok a fs=>exact fun F2 H2 b l r=>hk a fs F2 H2 b l r (Lb.le h l)
 | exc c fs=>exact h
 | bad=>exact h
def Oc (i:Nat) (r:Rv) (fs:FS):Option FS:=match r with
 | .t t=>some (fs.set i (some (.val t)))
 | .nw o=>some (fs.set i (some (.own o)))
 | .rf _=>none
def JY (i:Nat) (r:Rv) (fs:FS):Option FS:=match fs[i]? with
 | none=>none
 | some (some (.bor _))=>none
 | some _=>Oc i r fs
theorem Hw {K:Fg} {B:Nat->Option V} {σ:St} {F:Wd} {H:Hp} {fs fs':FS} {r:Rv} {u:V} {i:Nat} (h:RR K B σ F H fs r u) (e:JY i r fs=some fs'):Okk K F B H fs' (σ.set i (some u)):=by
 obtain ⟨L,L',ok,q,nd,nf⟩:=h
 have key:∀ s:Option Sl,fs[i]?=some s->(∀ o,s≠some (.bor o))->Oc i r fs=some fs'->Okk K F B H fs' (σ.set i (some u)):=by
  intro s es hb e
  obtain ⟨v,L1,L2,L3,e1,rfl,h1,h2⟩:=ok.sl.pick es
  have dis:∀ a∈L',a∉L1++L3:=fun a m m2=>(List.nodup_append.mp nd).2.2 a (by
   rcases List.mem_append.mp m2 with m2 | m2
   ·simp [m2]
   ·simp [m2]) a m rfl
  have nf3:∀ a∈L1++(L'++L3),¬ F a/\¬ F.p a:=fun a m=>by
   rcases List.mem_append.mp m with m | m
   ·exact ⟨ok.nf a (by simp [m]),ok.pl a (by simp [m])⟩
   ·rcases List.mem_append.mp m with m | m
    ·exact nf a m
    ·exact ⟨ok.nf a (by simp [m]),ok.pl a (by simp [m])⟩
  cases r with
  | t t =>
   cases e
   obtain ⟨rfl,q⟩:=q
   refine ⟨L1++([]++L3),h2 F H (some (.val t)) (some u) [] Le.refl (fun _ _=>rfl) ⟨u,rfl,q,rfl⟩,CK ok.nd List.nodup_nil (fun _ m=>nomatch m),fun a m=>(nf3 a m).1,ok.fd,?_,ok.pd,ok.pf,fun a m=>(nf3 a m).2⟩
   exact GQ.put ok.bo (fun o eo=>by cases eo) ok.sl.len
  | nw o =>
   cases e
   refine ⟨L1++(L'++L3),h2 F H (some (.own o)) (some u) L' Le.refl (fun _ _=>rfl) ⟨u,rfl,q⟩,CK ok.nd (List.nodup_append.mp nd).2.1 dis,fun a m=>(nf3 a m).1,ok.fd,?_,ok.pd,ok.pf,fun a m=>(nf3 a m).2⟩
   exact GQ.put ok.bo (fun o eo=>by cases eo) ok.sl.len
  | rf j=>cases e
 unfold JY at e
 split at e
 ·cases e
 ·cases e
 ·rename_i s hb es
  exact key s es (fun o z=>hb o z) e
def AY (i:Nat) (f:FS->Out Rv):FS->SO:=fun fs=>SO.of (f fs) fun r fs=>match JY i r fs with
 | some fs=>.nx fs
 | none=>.bad
def Bb (f:FS->Out Rv):FS->SO:=fun fs=>SO.of (f fs) fun _ fs=>.nx fs
def retS (f:FS->Out Rv):FS->SO:=fun fs=>SO.of (f fs) fun r fs=>.ret r fs
def ifS (c:FS->Out Bool) (g h:FS->SO):FS->SO:=fun fs=>SO.of (c fs) fun b fs=>if b=true then g fs else h fs
section
variable {X:Cx} {Z:Xp} {st:Stmt} {rest a b:List Stmt} {e c:Expr} {f:FS->Out Rv} {fc:FS->Out Bool} {g h:FS->SO} {pos:Pos}
theorem AR:GSs X Z [] nxS:=Od SV fun D σ H ⟨F,B,fs,ok,s⟩=>s F H σ Le.refl ok
theorem Ad (h1:GS X Z st g) (h2:GSs X Z rest h):GSs X Z (st :: rest) (AN g h):=by
 refine Od (QB h1 h2) fun D σ H ⟨F,B,fs,ok,s⟩=>⟨F,B,fs,ok,?_⟩
 unfold AN at s
 cases e:g fs with
 | nx fs1 =>
  rw [e] at s
  exact fun F1 H1 σ1 l k=>⟨F1,B,fs1,k,Lb.le s l⟩
 | ret r fs1=>rw [e] at s;exact s
 | brk fs1=>rw [e] at s;exact s
 | cnt fs1=>rw [e] at s;exact s
 | exc c fs1=>rw [e] at s;exact s
 | bad=>rw [e] at s;exact s
theorem Al (h1:GS X Z st g):GSs X Z [st] g:=SU h1
theorem CF (he:FE X Z e f) (hs:swapsWith e none pos.line X.env=pure false:=by rfl):GS X Z (.Expr e pos) (Bb f) :=
 DC (Lk he hs) fun D σ H ⟨F,B,fs,ok,s⟩=>⟨F,B,fs,ok,C6 s fun r fs1 F1 H1 u l q s1=>s1 F1 H1 σ Le.refl q.ok⟩
theorem Bf (he:FE X Z e f):GS X Z (.Return (some e) pos) (retS f) :=
 DC (Vj he) fun D σ H ⟨F,B,fs,ok,s⟩=>⟨F,B,fs,ok,C6 s fun r fs1 F1 H1 u l q s1=>s1 F1 H1 σ u Le.refl q⟩
theorem BK (hc:FT X Z c fc) (ha:GSs X Z a g) (hb:GSs X Z b h):GS X Z (.If c a b pos) (ifS fc g h):=by
 refine DC (Xx hc ha hb) fun D σ H ⟨F,B,fs,ok,s⟩=>⟨F,B,fs,ok,C6 s fun r fs1 F1 H1 u l q s1=>?_⟩
 obtain ⟨ok1,rfl⟩:=q
 cases u with
 | true =>
  rw [if_pos rfl] at s1 ⊢
  exact ⟨F1,B,fs1,ok1,s1⟩
 | false =>
  rw [if_neg (by decide)] at s1 ⊢
  exact ⟨F1,B,fs1,ok1,s1⟩
theorem U6 {i:Nat} {D:Ends} {σ:St} {H:Hp} {K:Fg} (s:tSt K Z (AY i f) D σ H):U3 (tF K Z f) (Q6 i) D σ H:=by
 obtain ⟨F,B,fs,ok,s⟩:=s
 refine ⟨F,B,fs,ok,C6 s fun r fs1 F1 H1 u l q s1=>?_⟩
 split at s1
 ·rename_i fs2 e2
  exact s1 F1 H1 _ Le.refl (Hw q e2)
 ·exact s1.elim
theorem AK (i:Nat) {x:Str} {pos':Pos} (hN:X.N.Nodup) (hx:Loc X.env.scope x) (he:FE X Z e f) (hi:X.N[i]?=some x:=by rfl) (hs:swapsWith e (some (.Name x pos')) pos.line X.env=pure false:=by rfl) (hf:X.fn x=true∨X.env.scope.names.lookup x=some .local:=by first | exact .inl rfl | exact .inr rfl | assumption) :
  GS X Z (.Assign [.Name x pos'] e pos) (AY i f) :=
 DC (Vi hN hi hx he hs hf) fun _ _ _ s=>U6 s
end
def tG (K:Fg) (gt:T->FS->Option FS):TG:=fun v σ H Q=>∃ F B fs t,Okk K F B H fs σ/\A3 K F H t v/\match gt t fs with
 | some fs'=>∀ F' H' σ',Le F H F' H'->Okk K F' B H' fs' σ'->Q σ' H'
 | none=>False
def tGs (K:Fg) (gt:List T->FS->Option FS):TGs:=fun vs σ H Q=>∃ F B fs ts,Okk K F B H fs σ/\Ag K F H ts vs/\match gt ts fs with
 | some fs'=>∀ F' H' σ',Le F H F' H'->Okk K F' B H' fs' σ'->Q σ' H'
 | none=>False
def GT (X:Cx) (tg:Expr) (gt:T->FS->Option FS):Prop:=PG X tg (tG X.K gt)
def GTs (X:Cx) (tgs:List Expr) (gt:List T->FS->Option FS):Prop:=PGs X tgs (tGs X.K gt)
theorem RT {X:Cx} {e:Expr} {t t':TG} (h:PG X e t) (i:∀ v σ H Q,t' v σ H Q->t v σ H Q):PG X e t':=fun pins s σ H v u Q I r q=>h pins s σ H v u Q I r (i _ _ _ _ q)
theorem Oo {X:Cx} {e:List Expr} {t t':TGs} (h:PGs X e t) (i:∀ v σ H Q,t' v σ H Q->t v σ H Q):PGs X e t':=fun pins s σ H v u Q I r q=>h pins s σ H v u Q I r (i _ _ _ _ q)
def tgN (i:Nat):T->FS->Option FS:=fun t fs=>JY i (.t t) fs
def Bs:List T->FS->Option FS
 | [],fs=>some fs
 | _,_=>none
def Ar (g:T->FS->Option FS) (h:List T->FS->Option FS):List T->FS->Option FS
 | t :: ts,fs=>(g t fs).bind fun fs=>h ts fs
 | _,_=>none
def BC (n:Nat) (h:List T->FS->Option FS):T->FS->Option FS
 | .tup ts,fs=>if ts.length=n then h ts fs else none
 | _,_=>none
section
variable {X:Cx} {e:Expr} {es:List Expr} {g:T->FS->Option FS} {h:List T->FS->Option FS} {pos:Pos}
theorem AH (i:Nat) {x:Str} (hN:X.N.Nodup) (hx:Loc X.env.scope x) (hi:X.N[i]?=some x:=by rfl) (hf:X.fn x=true∨X.env.scope.names.lookup x=some .local:=by first | exact .inl rfl | exact .inr rfl | assumption):GT X (.Name x pos) (tgN i):=by
 refine RT (S0 hN hi hx hf) fun v σ H Q ⟨F,B,fs,t,ok,r,s⟩=>?_
 split at s
 ·rename_i fs' e
  exact s F H _ Le.refl (Hw (RR.of (r:=.t t) ok r) e)
 ·exact s.elim
theorem Dw:GTs X [] Bs:=by
 refine Oo SY fun v σ H Q ⟨F,B,fs,ts,ok,r,s⟩=>?_
 cases ts with
 | nil=>exact ⟨r,s F H σ Le.refl ok⟩
 | cons t ts=>exact s.elim
theorem A2 (h1:GT X e g) (h2:GTs X es h)
  (hc:∀ {t:TG} {u:TGs},PG X e t->PGs X es u->PGs X (e :: es) (Wj t u)):GTs X (e :: es) (Ar g h):=by
 refine Oo (hc h1 h2) fun v σ H Q ⟨F,B,fs,ts,ok,r,s⟩=>?_
 cases ts with
 | nil=>exact s.elim
 | cons t ts =>
  simp only [Ag] at r
  obtain ⟨v',w,rfl,r1,r2⟩:=r
  refine ⟨v',w,rfl,F,B,fs,t,ok,r1,?_⟩
  simp only [Ar] at s
  cases e1:g t fs with
  | none=>rw [e1] at s;exact s.elim
  | some fs1 =>
   rw [e1] at s
   exact fun F1 H1 σ1 l k=>⟨F1,B,fs1,ts,k,r2.le l,by
    simp only [Option.bind_some] at s
    split at s
    ·exact fun F2 H2 σ2 l2 k2=>s F2 H2 σ2 (l.trans l2) k2
    ·exact s.elim⟩
theorem Ex {k n:Nat} (hc:X.calm=true) (h1:GTs X es h) (hn:(assignEach es X.env).length=n:=by rfl) (hst:(assignEach es X.env).findIdx? (·.1)=none:=by rfl):GT X (.Tuple es k pos) (BC n h):=by
 refine RT (Vo hc h1 hn hst) fun v σ H Q ⟨F,B,fs,t,ok,r,s⟩=>?_
 unfold BC at s
 split at s
 ·rename_i fs' e
  split at e
  ·rename_i ts
   split at e
   ·rename_i hl
    simp only [A3] at r
    obtain ⟨a,vs,rfl,hs,r⟩:=r
    refine ⟨a,vs,rfl,hs.sq,by rw [r.len];exact hl,F,B,fs,ts,ok,r,?_⟩
    rw [e]
    exact s
   ·cases e
  ·cases e
 ·exact s.elim
end
def Sm (f:FS->Out Rv) (g:T->FS->Option FS):FS->SO:=fun fs=>SO.of (f fs) fun r fs=>match r with
 | .t t=>match g t fs with
  | some fs=>.nx fs
  | none=>.bad
 | _=>.bad
section
variable {X:Cx} {Z:Xp} {e tg:Expr} {f:FS->Out Rv} {g:T->FS->Option FS} {pos:Pos}
theorem R6 (he:FE X Z e f) (hg:GT X tg g) (hs:swapsWithSole [tg] e pos.line X.env=pure false:=by rfl) (hw:swappedStores [tg] e X.env=pure none:=by rfl)
  (h1:(assignEach [tg] X.env).map (·.2)=[assign tg X.env]:=by rfl):GS X Z (.Assign [tg] e pos) (Sm f g):=by
 refine DC (Og he hg hs hw h1) fun D σ H ⟨F,B,fs,ok,s⟩=>⟨F,B,fs,ok,C6 s fun r fs1 F1 H1 u l q s1=>?_⟩
 split at s1
 ·rename_i t
  obtain ⟨L,L',o1,⟨_,q⟩,_⟩:=q
  refine ⟨F1,B,fs1,t,⟨L,o1⟩,q,?_⟩
  split at s1
  ·rename_i fs2 e2
   exact fun F2 H2 σ2 l2 k2=>s1 F2 H2 σ2 l2 k2
  ·exact s1.elim
 ·exact s1.elim
end
def Nw (K:Fg) (F:Wd) (H:Hp) (F':Wd) (H':Hp):Prop:=Le F H F' H'/\∀ B fs σ,Okk K F B H fs σ->Okk K F' B H' fs σ
theorem Nw.refl {K:Fg} {F:Wd} {H:Hp}:Nw K F H F H:=⟨Le.refl,fun _ _ _ h=>h⟩
def JOk (K:Fg) (F:Wd) (H:Hp) (J:It) (ts:List T):Prop:=∀ (F':Wd) (H':Hp),(∀ a,F a->F' a/\H' a=H a)->(∃ B fs σ,Okk K F' B H' fs σ)->∀ i,(∀ t,ts[i]?=some t->J.go i H'/\∀ x H'',J.yld i H' x H''->∃ F'',Nw K F' H' F'' H''/\A3 K F'' H'' t x)/\(ts.length<=i->J.stop i H')
theorem JOk.within {K:Fg} {F:Wd} {p:Addr->Prop} {H:Hp} {J:It} {ts:List T} (h:JOk K F H J ts):JOk K ⟨F.f,p⟩ H J ts:=fun F2 H2 l2=>h F2 H2 l2
theorem Ag.lf {K:Fg} {F F':Wd} {H H':Hp} {ts:List T} {vs:List V} (l:∀ a,F a->F' a/\H' a=H a) (r:Ag K F H ts vs):Ag K F' H' ts vs :=
 Ag.le (F:=⟨F.f,fun _=>False⟩) ⟨l,fun _ z=>z.elim⟩ (Ag.wp r)
theorem StL.lf {K:Fg} {F F':Wd} {H H':Hp} {a:Addr} {vs:List V} (l:∀ a,F a->F' a/\H' a=H a) (r:StL K F H a vs):StL K F' H' a vs:=by
 rcases r with ⟨f,h⟩ | h
 ·exact .inl ⟨(l a f).1,FL.Rd.same h (l a f).2⟩
 ·exact .inr h
theorem stays {K:Fg} {F:Wd} {H H':Hp} {t:T} {x:V} (e:H'=H) (r:A3 K F H t x):∃ F',Nw K F H F' H'/\A3 K F' H' t x:=by subst e;exact ⟨F,Nw.refl,r⟩
def RJ (K:Fg) (B:Nat->Option V) (σ:St):Wd->Hp->FS->List T->It->Prop:=fun F H fs ts J=>Okk K F B H fs σ/\JOk K F H J ts
def tI (K:Fg) (Z:Xp) (f:FS->Out (List T)):TI:=fun σ H R=>∃ F B fs,Okk K F B H fs σ/\sat Z B (RJ K B σ) F H (f fs) R
def FI (X:Cx) (Z:Xp) (tg iter:Expr) (f:FS->Out (List T)):Prop:=PI X tg iter (tI X.K Z f)
theorem Ma {X:Cx} {tg e:Expr} {t t':TI} (h:PI X tg e t) (i:∀ σ H Q,t' σ H Q->t σ H Q):PI X tg e t':=fun pins s σ H Q I q=>h pins s σ H Q I (i _ _ _ q)
def signs (z:Str):List T:=z.cps.toList.map fun c=>T.str ⟨#[c]⟩
def upTo (lo:Int) (n:Nat):List T:=(List.range n).map fun i=>T.int (lo+(i:Nat))
def Qe (lo st:Int) (n:Nat):List T:=(List.range n).map fun i=>T.int (lo+(i:Nat) * st)
def Iu (f:FS->Out (List Rv)):FS->Out (List T):=fun fs=>(f fs).bind fun rs fs=>match rs with
 | [.t (.int j)]=>if -(2 ^ 62)<=j/\j < 2 ^ 62 then .ok (upTo 0 j.toNat) fs else .bad
 | _=>.bad
def TR (f:FS->Out (List Rv)):FS->Out (List T):=fun fs=>(f fs).bind fun rs fs=>match rs with
 | [.t (.int i),.t (.int j),.t (.int c)]=>if 0 < c/\c < 1073741824/\Builtin.Range.small i j c=true/\0<=Builtin.Range.rangeSize i j c then .ok (Qe i c (Builtin.Range.rangeSize i j c).toNat) fs else .bad
 | _=>.bad
section
variable {X:Cx} {Z:Xp} {tg l a b c:Expr} {f:FS->Out Rv} {fa:FS->Out (List Rv)} {p pos:Pos} {K:Fg} {F:Wd} {H:Hp}
theorem Mo {a:Addr} {vs:List V} {ts:List T} (hs:∀ (F':Wd) H',(∀ a,F a->F' a/\H' a=H a)->SqL K H' a vs) (r:Ag K F H ts vs):JOk K F H (Itl K a) ts:=by
 intro F' H' l _ i
 have r':=Ag.lf l r
 refine ⟨fun t et=>?_,fun hl=>⟨vs,hs F' H' l,by rw [r.len];exact hl⟩⟩
 obtain ⟨v,ev,rv⟩:=r'.at et
 refine ⟨⟨vs,v,hs F' H' l,ev⟩,fun x H'' hy=>stays hy.1 ?_⟩
 have:=hy.2 vs (hs F' H' l)
 rw [ev] at this
 cases this
 exact rv
theorem TL {a:Addr} {vs:List V} {ts:List T} (hs:∀ (F':Wd) H',(∀ a,F a->F' a/\H' a=H a)->SqT K H' a vs) (r:Ag K F H ts vs):JOk K F H (Itt K a) ts:=by
 intro F' H' l _ i
 have r':=Ag.lf l r
 refine ⟨fun t et=>?_,fun hl=>⟨vs,hs F' H' l,by rw [r.len];exact hl⟩⟩
 obtain ⟨v,ev,rv⟩:=r'.at et
 refine ⟨⟨vs,v,hs F' H' l,ev⟩,fun x H'' hy=>stays hy.1 ?_⟩
 have:=hy.2 vs (hs F' H' l)
 rw [ev] at this
 cases this
 exact rv
theorem OU {lo:Int} {n:Nat}:JOk K F H (Itr lo n) (upTo lo n):=by
 intro F' H' l _ i
 refine ⟨fun t et=>?_,fun hl=>by unfold upTo at hl;simpa [Itr] using hl⟩
 unfold upTo at et
 rw [List.getElem?_map] at et
 have hi:i < n:=by
  by_cases h:i < n
  ·exact h
  ·rw [List.getElem?_eq_none (by simpa using h)] at et;cases et
 rw [List.getElem?_range hi] at et
 cases et
 exact ⟨hi,fun x H'' hy=>stays hy.1 hy.2⟩
theorem Nl {lo st:Int} {n:Nat}:JOk K F H (Xf lo st n) (Qe lo st n):=by
 intro F' H' l _ i
 refine ⟨fun t et=>?_,fun hl=>by unfold Qe at hl;simpa [Xf] using hl⟩
 unfold Qe at et
 rw [List.getElem?_map] at et
 have hi:i < n:=by
  by_cases h:i < n
  ·exact h
  ·rw [List.getElem?_eq_none (by simpa using h)] at et;cases et
 rw [List.getElem?_range hi] at et
 cases et
 exact ⟨hi,fun x H'' hy=>stays hy.1 hy.2⟩
theorem TM {z:Str}:JOk K F H (Its z) (signs z):=by
 intro F' H' l _ i
 refine ⟨fun t et=>?_,fun hl=>by unfold signs at hl;simpa [Its] using hl⟩
 unfold signs at et
 rw [List.getElem?_map,Option.map_eq_some_iff] at et
 obtain ⟨c,ec,rfl⟩:=et
 have hi:i < z.cps.size:=by
  have:=(List.getElem?_eq_some_iff.mp ec).1
  simpa using this
 refine ⟨hi,fun x H'' hy=>stays hy.1 ?_⟩
 obtain ⟨c',e1,e2⟩:=hy.2
 rw [Array.getElem?_toList] at ec
 rw [ec] at e1
 cases e1
 exact e2
theorem DR (hm:X.mg "range"=none) (ha:FA X Z [a] fa) (hg:Gl X "range":=by rfl) (hs:starEach [a] X.env=[(false,eval a X.env)]:=by rfl):FI X Z tg (.Call (.Name "range" p) [a] [] pos) (Iu fa):=by
 refine Ma (Om hg hm ha hs) fun σ H Q ⟨F,B,fs,ok,s⟩=>⟨F,B,fs,ok,A5 s fun rs fs1 F1 H1 us l q s1=>?_⟩
 obtain ⟨ok1,q⟩:=q
 split at s1
 ·rename_i j
  split at s1
  ·rename_i hj
   obtain ⟨v,rfl,qq⟩:=Cg q
   have q:=qq
   cases q
   exact ⟨j,rfl,hj.1,hj.2,s1 F1 H1 _ Le.refl ⟨ok1,OU⟩⟩
  ·exact s1.elim
 ·exact s1.elim
theorem Pt (ha:FA X Z [a,b,c] fa)
  (h:∀ {ta:TA},PA X [a,b,c] ta->PI X tg (.Call (.Name "range" p) [a,b,c] [] pos) (V9 ta)):FI X Z tg (.Call (.Name "range" p) [a,b,c] [] pos) (TR fa):=by
 refine Ma (h ha) fun σ H Q ⟨F,B,fs,ok,s⟩=>⟨F,B,fs,ok,A5 s fun rs fs1 F1 H1 us l q s1=>?_⟩
 obtain ⟨ok1,q⟩:=q
 split at s1
 ·rename_i i j k
  split at s1
  ·rename_i hj
   obtain ⟨v,w,rfl,q1,v2,w2,rfl,q2,v3,w3,rfl,q3,q4⟩:=q
   cases q1
   cases q2
   cases q3
   cases q4
   exact ⟨i,j,k,rfl,hj.1,hj.2.1,hj.2.2.1,hj.2.2.2,s1 F1 H1 _ Le.refl ⟨ok1,Nl⟩⟩
  ·exact s1.elim
 ·exact s1.elim
end
def CQ (gt:T->FS->Option FS) (body:FS->SO):List T->FS->SO
 | [],fs=>.nx fs
 | t :: ts,fs=>match gt t fs with
  | none=>.bad
  | some fs=>match body fs with
   | .nx fs=>CQ gt body ts fs
   | .cnt fs=>CQ gt body ts fs
   | .brk fs=>.nx fs
   | o=>o
def Ef (src:FS->Out (List T)) (gt:T->FS->Option FS) (body:FS->SO):FS->SO:=fun fs=>SO.of (src fs) fun ts fs=>CQ gt body ts fs
section
variable {X:Cx} {Z:Xp} {tg iter c:Expr} {src:FS->Out (List T)} {gt:T->FS->Option FS} {g:FS->SO} {body:List Stmt} {pos:Pos} {fc:FS->Out Bool}
theorem Dn (hp:PassesOwn (model X.prog X.w) X.A X.env X.xe) (hc:X.calm=true) (hi:FI X Z tg iter src) (hg:GT X tg gt) (hb:GSs X Z body g)
  (hs:∀ x,foldedSetIterable iter X.env x=pure x:=by intro _;rfl):GS X Z (.For tg iter body [] pos) (Ef src gt g):=by
 refine DC (Vk hp hc hi hg hb hs) fun D σ H ⟨F,B,fs,ok,s⟩=>⟨F,B,fs,ok,C6 s fun ts fs1 F1 H1 J l q s1=>?_⟩
 obtain ⟨ok1,jk⟩:=q
 refine ⟨fun i m σ H=>m=ts.length - i/\∃ F' fs',Le F1 H1 F' H/\Okk X.K F' B H fs' σ/\Lb X.K Z B F' H (CQ gt g (ts.drop i) fs') D,⟨ts.length,rfl,F1,fs1,Le.refl,ok1,s1⟩,?_⟩
 rintro i m σ H ⟨rfl,F2,fs2,l2,ok2,s2⟩
 by_cases hi:i < ts.length
 ·refine .inr ?_
  have ei:ts[i]?=some ts[i]:=List.getElem?_eq_getElem hi
  have ed:ts.drop i=ts[i] :: ts.drop (i+1):=List.drop_eq_getElem_cons hi
  rw [ed] at s2
  obtain ⟨j1,j2⟩:=(jk F2 H l2.f ⟨_,_,_,ok2⟩ i).1 _ ei
  refine ⟨j1,fun σ' H'=>∃ F' fs',Le F1 H1 F' H'/\Okk X.K F' B H' fs' σ'/\Lb X.K Z B F' H' (CQ gt g (ts.drop (i+1)) fs') D,fun σ' H' h=>⟨ts.length - (i+1),by omega,rfl,h⟩,fun x H' hy=>?_⟩
  obtain ⟨F2',⟨l22,nw⟩,rx⟩:=j2 x H' hy
  replace l2:=l2.trans l22
  replace s2:=Lb.le s2 l22
  replace ok2:=nw _ _ _ ok2
  refine ⟨F2',B,fs2,ts[i],ok2,rx,?_⟩
  simp only [CQ] at s2
  cases eg:gt ts[i] fs2 with
  | none=>rw [eg] at s2;exact s2.elim
  | some fs3 =>
   rw [eg] at s2
   intro F3 H3 σ3 l3 ok3
   refine ⟨F3,B,fs3,ok3,?_⟩
   have s3:=Lb.le s2 l3
   simp only at s3
   cases eb:g fs3 with
   | nx fs4 =>
    rw [eb] at s3
    exact fun F4 H4 σ4 l4 ok4=>⟨F4,fs4,(l2.trans l3).trans l4,ok4,Lb.le s3 l4⟩
   | cnt fs4 =>
    rw [eb] at s3
    exact fun F4 H4 σ4 l4 ok4=>⟨F4,fs4,(l2.trans l3).trans l4,ok4,Lb.le s3 l4⟩
   | brk fs4=>rw [eb] at s3;exact s3
   | ret r fs4=>rw [eb] at s3;exact s3
   | exc c fs4=>rw [eb] at s3;exact s3
   | bad=>rw [eb] at s3;exact s3
 ·refine .inl ⟨(jk F2 H l2.f ⟨_,_,_,ok2⟩ i).2 (by omega),?_⟩
  rw [List.drop_eq_nil_of_le (by omega)] at s2
  exact s2 F2 H σ Le.refl ok2
end
section
variable {K:Fg} {F F':Wd} {H H':Hp} {B:Nat->Option V} {fs:FS} {σ:St} {L:List Addr}
theorem AG.toP:∀ {fs:FS} {σ:St} {L:List Addr},AG K F H fs σ L->∃ ℓ:Nat->List Addr,(∀ i s,fs[i]?=some s->∃ v,σ[i]?=some v/\LS K F H s v (ℓ i))/\(∀ i a,a∈ℓ i->a∈L) /\
  (L.Nodup->(∀ i,(ℓ i).Nodup)/\∀ i j a,i≠j->a∈ℓ i->a∉ℓ j)/\∀ i,fs.length<=i->ℓ i=[]
 | [],σ,L,h=>⟨fun _=>[],(fun i s e=>by simp at e),(fun i a m=>nomatch m),(fun _=>⟨fun _=>List.nodup_nil,(fun _ _ _ _ m=>nomatch m)⟩),fun _ _=>rfl⟩
 | s :: r,σ,L,h=>by
  obtain ⟨v,σ',L1,L2,rfl,h1,h2,rfl⟩:=h.J3
  obtain ⟨ℓ,q1,q2,q3,q4⟩:=AG.toP h2
  refine ⟨fun i=>match i with | 0=>L1 | i+1=>ℓ i,fun i s' e=>?_,fun i a m=>?_,fun nd=>?_,fun i hi=>?_⟩
  ·cases i with
   | zero =>
    simp at e
    subst e
    exact ⟨v,rfl,h1⟩
   | succ i =>
    obtain ⟨w,e1,e2⟩:=q1 i s' (by simpa using e)
    exact ⟨w,by simpa using e1,e2⟩
  ·cases i with
   | zero=>exact List.mem_append_left _ m
   | succ i=>exact List.mem_append_right _ (q2 i a m)
  ·rw [List.nodup_append] at nd
   obtain ⟨n1,n2,n3⟩:=nd
   obtain ⟨m1,m2⟩:=q3 n2
   refine ⟨fun i=>?_,fun i j a hij hi hj=>?_⟩
   ·cases i with
    | zero=>exact n1
    | succ i=>exact m1 i
   ·cases i with
    | zero =>
     cases j with
     | zero=>exact hij rfl
     | succ j=>exact n3 a hi a (q2 j a hj) rfl
    | succ i =>
     cases j with
     | zero=>exact n3 a hj a (q2 i a hi) rfl
     | succ j=>exact m2 i j a (fun e=>hij (by rw [e])) hi hj
  ·cases i with
   | zero=>simp at hi
   | succ i=>exact q4 i (by simpa using hi)
theorem AG.ofP:∀ {fs:FS} {σ:St} (ℓ:Nat->List Addr),σ.length=fs.length->(∀ i s,fs[i]?=some s->∃ v,σ[i]?=some v/\LS K F H s v (ℓ i))->(∀ i,(ℓ i).Nodup)->(∀ i j a,i≠j->a∈ℓ i->a∉ℓ j) ->
  ∃ L,AG K F H fs σ L/\L.Nodup/\∀ a∈L,∃ i,i < fs.length/\a∈ℓ i
 | [],σ,ℓ,hl,h,nd,dj=>by
  have:σ=[]:=List.eq_nil_of_length_eq_zero (by simpa using hl)
  subst this
  exact ⟨[],⟨rfl,rfl⟩,List.nodup_nil,fun _ m=>nomatch m⟩
 | s :: r,[],ℓ,hl,h,nd,dj=>by simp at hl
 | s :: r,v :: σ,ℓ,hl,h,nd,dj=>by
  obtain ⟨L,h1,h2,h3⟩:=AG.ofP (fs:=r) (σ:=σ) (fun i=>ℓ (i+1)) (by simpa using hl) (fun i s' e=>by
   obtain ⟨w,e1,e2⟩:=h (i+1) s' (by simpa using e)
   exact ⟨w,by simpa using e1,e2⟩) (fun i=>nd (i+1)) (fun i j a hij=>dj (i+1) (j+1) a (by omega))
  obtain ⟨w,e1,e2⟩:=h 0 s rfl
  simp at e1
  subst e1
  refine ⟨ℓ 0++L,AG.cons e2 h1,?_,fun a m=>?_⟩
  ·rw [List.nodup_append]
   refine ⟨nd 0,h2,fun a ha b hb e=>?_⟩
   obtain ⟨i,_,hi⟩:=h3 b hb
   exact dj 0 (i+1) a (by omega) ha (by rw [e];exact hi)
  ·rcases List.mem_append.mp m with m | m
   ·exact ⟨0,by simp,m⟩
   ·obtain ⟨i,hi,q⟩:=h3 a m
    exact ⟨i+1,by simp;exact hi,q⟩
theorem Ok.take (h:Ok K F B H fs σ L) (n:Nat):∃ L',Ok K F B H (fs.take n) (σ.take n) L'/\∀ a∈L',a∈L:=by
 obtain ⟨ℓ,q1,q2,q3,q4⟩:=h.sl.toP
 obtain ⟨n1,n2⟩:=q3 h.nd
 have hl:(σ.take n).length=(fs.take n).length:=by rw [List.length_take,List.length_take,h.sl.len]
 obtain ⟨L',p1,p2,p3⟩:=AG.ofP (K:=K) (F:=F) (H:=H) (fs:=fs.take n) (σ:=σ.take n) ℓ hl (fun i s e=>by
  have hi:i < n:=by
   have:=(List.getElem?_eq_some_iff.mp e).1
   rw [List.length_take] at this
   omega
  rw [List.getElem?_take_of_lt hi] at e ⊢
  exact q1 i s e) n1 n2
 have sub:∀ a∈L',a∈L:=fun a m=>let ⟨i,_,q⟩:=p3 a m;q2 i a q
 refine ⟨L',⟨p1,p2,fun a m=>h.nf a (sub a m),h.fd,fun i o e=>?_,h.pd,h.pf,fun a m=>h.pl a (sub a m)⟩,sub⟩
 have hi:i < n:=by
  have:=(List.getElem?_eq_some_iff.mp e).1
  rw [List.length_take] at this
  omega
 rw [List.getElem?_take_of_lt hi] at e ⊢
 exact h.bo i o e
theorem RR.take {r:Rv} {u:V} (h:RR K B σ F H fs r u) (n:Nat) (hr:∀ i,r≠.rf i):RR K B (σ.take n) F H (fs.take n) r u:=by
 obtain ⟨L,L',ok,q,nd,nf⟩:=h
 obtain ⟨L2,ok2,sub⟩:=ok.take n
 refine ⟨L2,L',ok2,?_,?_,nf⟩
 ·cases r with
  | t t=>exact q
  | nw o=>exact q
  | rf i=>exact (hr i rfl).elim
 ·rw [List.nodup_append] at nd ⊢
  exact ⟨ok2.nd,nd.2.1,fun a ha b hb=>nd.2.2 a (sub a ha) b hb⟩
theorem Ok.more (h:Ok K F B H fs σ L) (n:Nat):Ok K F B H (fs++List.replicate n none) (σ++List.replicate n none) L:=by
 have key:∀ n:Nat,AG K F H (List.replicate n none) (List.replicate n none) []:=by
  intro n
  induction n with
  | zero=>exact ⟨rfl,rfl⟩
  | succ n ih =>
   rw [List.replicate_succ,List.replicate_succ]
   simp only [AG]
   exact ⟨none,_,rfl,ih⟩
 have app:∀ {fs gs:FS} {σ τ:St} {L M:List Addr},AG K F H fs σ L->AG K F H gs τ M->AG K F H (fs++gs) (σ++τ) (L++M):=by
  intro fs
  induction fs with
  | nil =>
   intro gs σ τ L M h1 h2
   simp only [AG] at h1
   obtain ⟨rfl,rfl⟩:=h1
   exact h2
  | cons s r ih =>
   intro gs σ τ L M h1 h2
   obtain ⟨v,σ',L1,L2,rfl,q1,q2,rfl⟩:=h1.J3
   have:=AG.cons q1 (ih q2 h2)
   simpa using this
 refine ⟨by simpa using app h.sl (key n),h.nd,h.nf,h.fd,fun i o e=>?_,h.pd,h.pf,h.pl⟩
 by_cases hi:i < fs.length
 ·rw [List.getElem?_append_left hi] at e
  obtain ⟨v,e1,e2⟩:=h.bo i o e
  exact ⟨v,by rw [List.getElem?_append_left (by rw [h.sl.len];exact hi)];exact e1,e2⟩
 ·rw [List.getElem?_append_right (by omega)] at e
  have:=List.mem_of_getElem? e
  simp at this
theorem RR.mv {u:V} {i:Nat} {o:FO} (q:RR K B σ F H fs (.rf i) u) (es:fs[i]?=some (some (.own o))):RR K B σ F H (fs.set i none) (.nw o) u:=by
 obtain ⟨L,L',o1,⟨_,q⟩,nd,nf⟩:=q
 obtain ⟨v,L1,L2,L3,e1,rfl,h1,h2⟩:=o1.sl.pick es
 obtain ⟨w,rfl,q2⟩:=h1
 rw [e1] at q
 have eu:w=u:=by simpa using q
 subst eu
 have h3:=h2 F H none (some w) [] Le.refl (fun _ _=>rfl) rfl
 rw [Ca e1] at h3
 have nd1:=o1.nd
 refine ⟨L1++([]++L3),L2,⟨h3,CK nd1 List.nodup_nil (fun _ m=>nomatch m),fun a m=>o1.nf a ?_,o1.fd,?_,o1.pd,o1.pf,fun a m=>o1.pl a ?_⟩,q2,?_,fun a m=>⟨o1.nf a (by simp [m]),o1.pl a (by simp [m])⟩⟩
 ·have m':a∈L1∨a∈L3:=by simpa using m
  rcases m' with m | m <;> simp [m]
 ·have:=GQ.put (i:=i) (s:=none) (v:=some w) o1.bo (fun o eo=>by cases eo) o1.sl.len
  rwa [Ca e1] at this
 ·have m':a∈L1∨a∈L3:=by simpa using m
  rcases m' with m | m <;> simp [m]
 ·have p:(L1++(L2++L3)).Perm ((L1++([]++L3))++L2):=by
   rw [List.nil_append,List.append_assoc]
   exact List.Perm.append_left _ List.perm_append_comm
  exact p.nodup_iff.mp nd1
end
inductive Ini where
 | no | val (t:T) | slot (j:Nat) | new (o:FO)
def X7 (fs:FS):Ini->Option Sl
 | .no=>none
 | .val t=>some (.val t)
 | .new o=>some (.bor o)
 | .slot j=>match fs[j]? with
  | some (some (.val t))=>some (.val t)
  | some (some (.own o))=>some (.bor o)
  | some (some (.bor o))=>some (.bor o)
  | _=>none
def Fp (fs:FS) (is:List Ini):FS:=is.map (X7 fs)
def DX (fs:FS):Ini->Option Nat
 | .slot j=>if (A1 fs j).isSome=true then some j else none
 | _=>none
def Dm (fs:FS) (is:List Ini):List Nat:=is.filterMap (DX fs)
def placeOf (fs:FS) (j:Nat):List Ini->Nat->Option Nat
 | [],_=>none
 | i :: r,k=>if DX fs i=some j then some k else placeOf fs j r (k+1)
def P6 (fs:FS) (is:List Ini) (τ:FS) (j:Nat) (s:Option Sl):Option (Option Sl):=match placeOf fs j is 0 with
 | none=>some s
 | some k=>match τ[k]?,s with
  | some (some (.bor o)),some s=>some (some (s.put o))
  | _,_=>none
def LQ (fs:FS) (is:List Ini) (τ:FS):Nat->FS->Option FS
 | _,[]=>some []
 | j,s :: r=>match P6 fs is τ j s,LQ fs is τ (j+1) r with
  | some s',some r'=>some (s' :: r')
  | _,_=>none
def JT (is:List Ini) (τ fs:FS):Option FS:=LQ fs is τ 0 fs
theorem placeOf_some {fs:FS} {j:Nat}:∀ {is:List Ini} {k k':Nat},placeOf fs j is k=some k'->k<=k'/\∃ i,is[k' - k]?=some i/\DX fs i=some j
 | [],_,_,e=>by simp [placeOf] at e
 | i :: r,k,k',e=>by
  simp only [placeOf] at e
  split at e
  ·rename_i h
   cases e
   exact ⟨Nat.le_refl _,i,by simp,h⟩
  ·obtain ⟨h1,i',h2,h3⟩:=placeOf_some e
   refine ⟨by omega,i',?_,h3⟩
   rw [show k' - k=(k' - (k+1))+1 by omega]
   simpa using h2
theorem placeOf_none {fs:FS} {j:Nat}:∀ {is:List Ini} {k:Nat},placeOf fs j is k=none->j∉Dm fs is
 | [],_,_,h=>by simp [Dm] at h
 | i :: r,k,e,h=>by
  simp only [placeOf] at e
  split at e
  ·cases e
  ·rename_i hn
   unfold Dm at h
   rw [List.filterMap_cons] at h
   cases q:DX fs i with
   | none =>
    rw [q] at h
    exact placeOf_none e h
   | some j' =>
    rw [q] at h
    rcases List.mem_cons.mp h with h | h
    ·exact hn (by rw [q,h])
    ·exact placeOf_none e h
theorem Kt {fs:FS}:∀ {is:List Ini} {k k':Nat} {i i':Ini} {j:Nat},(Dm fs is).Nodup->is[k]?=some i->is[k']?=some i'->DX fs i=some j->DX fs i'=some j->k=k'
 | [],_,_,_,_,_,_,e,_,_,_=>by simp at e
 | i0 :: r,k,k',i,i',j,nd,e,e',h,h'=>by
  have mem:∀ {m:Nat} {x:Ini},r[m]?=some x->DX fs x=some j->j∈Dm fs r:=fun hm hx=>List.mem_filterMap.mpr ⟨_,List.mem_of_getElem? hm,hx⟩
  unfold Dm at nd
  rw [List.filterMap_cons] at nd
  cases k with
  | zero =>
   simp at e
   subst e
   rw [h] at nd
   have nd':(j :: Dm fs r).Nodup:=nd
   cases k' with
   | zero=>rfl
   | succ k'=>exact ((List.nodup_cons.mp nd').1 (mem (by simpa using e') h')).elim
  | succ k =>
   cases k' with
   | zero =>
    simp at e'
    subst e'
    rw [h'] at nd
    have nd':(j :: Dm fs r).Nodup:=nd
    exact ((List.nodup_cons.mp nd').1 (mem (by simpa using e) h)).elim
   | succ k' =>
    have nd':(Dm fs r).Nodup:=by
     cases q:DX fs i0 with
     | none=>rw [q] at nd;exact nd
     | some j'=>rw [q] at nd;exact (List.nodup_cons.mp nd).2
    exact congrArg (·+1) (Kt (k:=k) (k':=k') nd' (by simpa using e) (by simpa using e') h h')
theorem MJ {fs:FS} {is:List Ini} {τ:FS}:∀ {r r':FS} {j:Nat},LQ fs is τ j r=some r'->r'.length=r.length/\∀ i s,r[i]?=some s->∃ s',r'[i]?=some s'/\P6 fs is τ (j+i) s=some s'
 | [],_,_,e=>by
  simp only [LQ] at e
  cases e
  exact ⟨rfl,fun i s q=>by simp at q⟩
 | s :: r,_,j,e=>by
  simp only [LQ] at e
  split at e
  ·rename_i s' r' h1 h2
   cases e
   obtain ⟨q1,q2⟩:=MJ h2
   refine ⟨by simp [q1],fun i s0 q=>?_⟩
   cases i with
   | zero =>
    simp at q
    subst q
    exact ⟨s',rfl,h1⟩
   | succ i =>
    obtain ⟨s1,e1,e2⟩:=q2 i s0 (by simpa using q)
    exact ⟨s1,by simpa using e1,by rw [show j+(i+1)=j+1+i by omega];exact e2⟩
  ·cases e
def UK (K:Fg) (F:Wd) (H:Hp) (σ:St) (i:Ini) (v:Option V) (M:List Addr):Prop:=match i with
 | .no=>True
 | .val t=>∃ u,v=some u/\A3 K F H t u
 | .slot j=>σ[j]?=some v
 | .new o=>∃ u,v=some u/\AQ K F H o u M
structure Mu (F:Wd) (H:Hp) (L:List Addr) (μ:Nat->List Addr):Prop where
 out:∀ k a,a∈μ k->¬ F a/\¬ F.p a/\a∉L/\H a≠none
 nd:∀ k,(μ k).Nodup
 dj:∀ k k' a,k≠k'->a∈μ k->a∉μ k'
theorem Mu.no {F:Wd} {H:Hp} {L:List Addr}:Mu F H L (fun _=>[]):=⟨(fun _ _ m=>nomatch m),fun _=>List.nodup_nil,(fun _ _ _ _ m=>nomatch m)⟩
theorem lend {K:Fg} {F:Wd} {H:Hp} {B:Nat->Option V} {fs:FS} {σ σi:St} {is:List Ini} {L:List Addr} {μ:Nat->List Addr} (ok:Ok K F B H fs σ L) (hl:σi.length=is.length) (hi:∀ (k:Nat) (i:Ini) (v:Option V),is[k]?=some i->σi[k]?=some v->UK K F H σ i v (μ k)) (nd:(Dm fs is).Nodup) (hμ:Mu F H L μ) :
  ∃ P:Addr->Prop,(∀ a,F.p a->P a)/\Okk K ⟨F.f,P⟩ (fun k=>(σi[k]?).join) H (Fp fs is) σi/\(∀ a,P a->H a≠none) /\
   ∀ (F2:Wd) (H2:Hp) (τ:FS) (σ2:St) (Li:List Addr) (fs':FS),Le ⟨F.f,P⟩ H F2 H2->Ok K F2 (fun k=>(σi[k]?).join) H2 τ σ2 Li->JT is τ fs=some fs' ->
    Le F H ⟨F2.f,F.p⟩ H2/\∃ L,Ok K ⟨F2.f,F.p⟩ B H2 fs' σ L/\∀ a∈L,a∈Li∨P a:=by
 obtain ⟨ℓ,q1,q2,q3,q4⟩:=ok.sl.toP
 obtain ⟨n1,n2⟩:=q3 ok.nd
 have objSl:∀ j,(A1 fs j).isSome=true->∃ o s,A1 fs j=some o/\fs[j]?=some (some s)/\(s=.own o∨s=.bor o):=by
  intro j hj
  unfold A1 at hj ⊢
  split at hj
  ·rename_i o es
   exact ⟨o,_,rfl,es,.inl rfl⟩
  ·rename_i o es
   exact ⟨o,_,rfl,es,.inr rfl⟩
  ·cases hj
 refine ⟨fun a=>F.p a∨∃ j,a∈ℓ j/\j∉Dm fs is,fun a p=>.inl p,?_,fun a p=>?_,?_⟩
 ·
  obtain ⟨L',p1,p2,p3⟩:=AG.ofP (K:=K) (F:=⟨F.f,fun a=>F.p a∨∃ j,a∈ℓ j/\j∉Dm fs is⟩) (H:=H) (fs:=Fp fs is) (σ:=σi) (fun k=>match is[k]? with | some i=>(match DX fs i with | some j=>ℓ j | none=>(match i with | .new _=>μ k | _=>[])) | none=>[]) (by unfold Fp;rw [List.length_map];exact hl)
   (fun k s e=>by
    unfold Fp at e
    rw [List.getElem?_map,Option.map_eq_some_iff] at e
    obtain ⟨i,ei,rfl⟩:=e
    have hk:k < σi.length:=by rw [hl];exact (List.getElem?_eq_some_iff.mp ei).1
    refine ⟨σi[k],List.getElem?_eq_getElem hk,?_⟩
    have io:=hi k i _ ei (List.getElem?_eq_getElem hk)
    simp only [ei]
    have lw:∀ (t:T) (u:V),A3 K F H t u->A3 K ⟨F.f,fun a=>F.p a∨∃ j,a∈ℓ j/\j∉Dm fs is⟩ H t u:=fun t u r=>A3.wp r
    cases i with
    | no=>rfl
    | val t =>
     obtain ⟨u,eu,r⟩:=io
     exact ⟨u,eu,lw t u r,rfl⟩
    | new o =>
     obtain ⟨u,eu,r⟩:=io
     exact ⟨u,eu,AQ.wp r⟩
    | slot j =>
     have ej:σ[j]?=some σi[k]:=io
     simp only [X7,DX]
     cases es:fs[j]? with
     | none =>
      have:A1 fs j=none:=by unfold A1;rw [es]
      rw [this]
      rfl
     | some s =>
      obtain ⟨v,e1,e2⟩:=q1 j s es
      rw [ej] at e1
      cases e1
      cases s with
      | none =>
       have:A1 fs j=none:=by unfold A1;rw [es]
       rw [this]
       rfl
      | some s =>
       cases s with
       | val t =>
        have:A1 fs j=none:=by unfold A1;rw [es]
        rw [this]
        obtain ⟨u,eu,r,_⟩:=e2
        exact ⟨u,eu,lw t u r,rfl⟩
       | own o =>
        have:A1 fs j=some o:=by unfold A1;rw [es]
        rw [this]
        obtain ⟨u,eu,r⟩:=e2
        exact ⟨u,eu,AQ.wp r⟩
       | bor o =>
        have:A1 fs j=some o:=by unfold A1;rw [es]
        rw [this]
        obtain ⟨u,eu,r⟩:=e2
        exact ⟨u,eu,AQ.wp r⟩)
   (fun k=>by
    try dsimp only
    split
    ·split
     ·exact n1 _
     ·split
      ·exact hμ.nd _
      ·exact List.nodup_nil
    ·exact List.nodup_nil)
   (fun k k' a hk ha hb=>by
    try dsimp only at ha hb
    split at ha
    ·rename_i i ei
     split at ha
     ·rename_i j ej
      split at hb
      ·rename_i i' ei'
       split at hb
       ·rename_i j' ej'
        by_cases e:j=j'
        ·subst e
         exact hk (Kt nd ei ei' ej ej')
        ·exact n2 j j' a e ha hb
       ·split at hb
        ·exact (hμ.out _ a hb).2.2.1 (q2 j a ha)
        ·cases hb
      ·cases hb
     ·split at ha
      ·split at hb
       ·split at hb
        ·rename_i j' ej'
         exact (hμ.out _ a ha).2.2.1 (q2 j' a hb)
        ·split at hb
         ·exact hμ.dj k k' a hk ha hb
         ·cases hb
       ·cases hb
      ·cases ha
    ·cases ha)
  have mem:∀ a∈L',(∃ j,j∈Dm fs is/\a∈ℓ j)∨∃ k,a∈μ k:=fun a m=>by
   obtain ⟨k,_,q⟩:=p3 a m
   try dsimp only at q
   split at q
   ·rename_i i ei
    split at q
    ·rename_i j ej
     exact .inl ⟨j,List.mem_filterMap.mpr ⟨i,List.mem_of_getElem? ei,ej⟩,q⟩
    ·split at q
     ·exact .inr ⟨k,q⟩
     ·cases q
   ·cases q
  refine ⟨L',p1,p2,fun a m=>?_,ok.fd,fun k o e=>?_,fun a p=>?_,fun a f p=>?_,fun a m p=>?_⟩
  ·rcases mem a m with ⟨j,_,q⟩ | ⟨k,q⟩
   ·exact ok.nf a (q2 j a q)
   ·exact (hμ.out k a q).1
  ·unfold Fp at e
   rw [List.getElem?_map,Option.map_eq_some_iff] at e
   obtain ⟨i,ei,e⟩:=e
   have hk:k < σi.length:=by rw [hl];exact (List.getElem?_eq_some_iff.mp ei).1
   cases i with
   | no=>cases e
   | val t=>cases e
   | new o' =>
    obtain ⟨u,eu,_⟩:=hi k _ _ ei (List.getElem?_eq_getElem hk)
    exact ⟨u,by rw [List.getElem?_eq_getElem hk,eu],by show (σi[k]?).join=some u;rw [List.getElem?_eq_getElem hk,eu];rfl⟩
   | slot j =>
    have ej:σ[j]?=some σi[k]:=hi k _ _ ei (List.getElem?_eq_getElem hk)
    simp only [X7] at e
    have:∃ o s,fs[j]?=some (some s)/\(s=.own o∨s=.bor o):=by
     split at e
     ·cases e
     ·rename_i o' es
      exact ⟨o',_,es,.inl rfl⟩
     ·rename_i o' es
      exact ⟨o',_,es,.inr rfl⟩
     ·cases e
    obtain ⟨o',s,es,hs⟩:=this
    obtain ⟨v,e1,e2⟩:=q1 j _ es
    rw [ej] at e1
    cases e1
    obtain ⟨u,eu⟩:∃ u,σi[k]=some u:=by
     rcases hs with rfl | rfl
     ·exact ⟨_,e2.choose_spec.1⟩
     ·exact ⟨_,e2.choose_spec.1⟩
    exact ⟨u,by rw [List.getElem?_eq_getElem hk,eu],by show (σi[k]?).join=some u;rw [List.getElem?_eq_getElem hk,eu];rfl⟩
  ·rcases p with p | ⟨j,p,_⟩
   ·exact ok.pd a p
   ·exact ok.sl.def a (q2 j a p)
  ·rcases p with p | ⟨j,p,_⟩
   ·exact ok.pf a f p
   ·exact ok.nf a (q2 j a p) f
  ·rcases mem a m with ⟨j,hj,q⟩ | ⟨k,q⟩
   ·rcases p with p | ⟨j',p,hj'⟩
    ·exact ok.pl a (q2 j a q) p
    ·by_cases e:j=j'
     ·subst e
      exact hj' hj
     ·exact n2 j j' a e q p
   ·rcases p with p | ⟨j',p,hj'⟩
    ·exact (hμ.out k a q).2.1 p
    ·exact (hμ.out k a q).2.2.1 (q2 j' a p)
 ·rcases p with p | ⟨j,p,_⟩
  ·exact ok.pd a p
  ·exact ok.sl.def a (q2 j a p)
 ·
  intro F2 H2 τ σ2 Li fs' l ok2 eb
  have le:Le F H ⟨F2.f,F.p⟩ H2:=⟨fun a f=>l.f a f,fun a f=>⟨f,(l.p a (.inl f)).2⟩⟩
  obtain ⟨ℓ2,r1,r2,r3,r4⟩:=ok2.sl.toP
  obtain ⟨m1,m2⟩:=r3 ok2.nd
  obtain ⟨b1,b2⟩:=MJ eb
  have restP:∀ j a,a∈ℓ j->j∉Dm fs is->F2.p a/\H2 a=H a:=fun j a q hj=>l.p a (.inr ⟨j,q,hj⟩)
  refine ⟨le,?_⟩
  obtain ⟨L',p1,p2,p3⟩:=AG.ofP (K:=K) (F:=⟨F2.f,F.p⟩) (H:=H2) (fs:=fs') (σ:=σ) (fun j=>match placeOf fs j is 0 with | some k=>ℓ2 k | none=>ℓ j) (by rw [b1];exact ok.sl.len)
   (fun j s' e=>by
    have hj:j < fs.length:=by rw [<- b1];exact (List.getElem?_eq_some_iff.mp e).1
    obtain ⟨s1,e1,e2⟩:=b2 j fs[j] (List.getElem?_eq_getElem hj)
    rw [e] at e1
    cases e1
    rw [Nat.zero_add] at e2
    obtain ⟨v,e3,e4⟩:=q1 j fs[j] (List.getElem?_eq_getElem hj)
    refine ⟨v,e3,?_⟩
    unfold P6 at e2
    cases ep:placeOf fs j is 0 with
    | none =>
     rw [ep] at e2
     cases e2
     have hn:=placeOf_none ep
     exact LS.le le (fun a m=>(restP j a m hn).2) e4
    | some k =>
     rw [ep] at e2
     obtain ⟨_,i,ei,hlo⟩:=placeOf_some ep
     rw [Nat.sub_zero] at ei
     dsimp only at e2 ⊢
     split at e2
     ·rename_i o s et es
      cases e2
      obtain ⟨w,e5,e6⟩:=r1 k _ et
      obtain ⟨u,e7,e8⟩:=ok2.bo k o et
      rw [e5] at e7
      cases e7
      have ij:i=.slot j:=by
       cases i with
       | no=>cases hlo
       | val t=>cases hlo
       | new o=>cases hlo
       | slot j' =>
        simp only [DX] at hlo
        split at hlo
        ·cases hlo;rfl
        ·cases hlo
      subst ij
      have hk:k < σi.length:=by rw [hl];exact (List.getElem?_eq_some_iff.mp ei).1
      have io:σ[j]?=some σi[k]:=hi k _ _ ei (List.getElem?_eq_getElem hk)
      rw [e3] at io
      cases io
      have e9:(σi[k]?).join=some u:=e8
      rw [List.getElem?_eq_getElem hk] at e9
      have e10:σi[k]=some u:=by simpa using e9
      rw [e10]
      obtain ⟨u',eu,ro⟩:=e6
      cases eu
      have ob:∃ o0,s=.own o0∨s=.bor o0:=by
       simp only [DX] at hlo
       split at hlo
       ·rename_i hob
        obtain ⟨o0,s0,_,es0,hs0⟩:=objSl j hob
        rw [List.getElem?_eq_getElem hj,es] at es0
        cases es0
        exact ⟨o0,hs0⟩
       ·cases hlo
      obtain ⟨o0,ob⟩:=ob
      have ro':AQ K ⟨F2.f,F.p⟩ H2 o u (ℓ2 k):=AQ.wp ro
      rcases ob with rfl | rfl
      ·exact ⟨u,rfl,ro'⟩
      ·exact ⟨u,rfl,ro'⟩
     ·cases e2)
   (fun j=>by
    try dsimp only
    split
    ·exact m1 _
    ·exact n1 _)
   (fun j j' a hj ha hb=>by
    try dsimp only at ha hb
    split at ha
    ·rename_i k ek
     split at hb
     ·rename_i k' ek'
      by_cases e:k=k'
      ·subst e
       obtain ⟨_,i,ei,h1⟩:=placeOf_some ek
       obtain ⟨_,i',ei',h2⟩:=placeOf_some ek'
       rw [ei] at ei'
       cases ei'
       rw [h1] at h2
       cases h2
       exact hj rfl
      ·exact m2 k k' a e ha hb
     ·rename_i ek'
      exact ok2.pl a (r2 k a ha) (restP j' a hb (placeOf_none ek')).1
    ·rename_i ek
     split at hb
     ·rename_i k' ek'
      exact ok2.pl a (r2 k' a hb) (restP j a ha (placeOf_none ek)).1
     ·exact n2 j j' a hj ha hb)
  have src:∀ a∈L',(a∈Li/\¬ F2.p a)∨∃ j,a∈ℓ j/\j∉Dm fs is:=fun a m=>by
   obtain ⟨j,_,q⟩:=p3 a m
   try dsimp only at q
   split at q
   ·rename_i k ek
    exact .inl ⟨r2 k a q,ok2.pl a (r2 k a q)⟩
   ·rename_i ek
    exact .inr ⟨j,q,placeOf_none ek⟩
  refine ⟨L',⟨p1,p2,fun a m f=>?_,fun a f=>ok2.fd a f,fun j o e=>?_,fun a p=>?_,fun a f p=>?_,fun a m p=>?_⟩,fun a m=>?_⟩
  ·rcases src a m with ⟨q,_⟩ | ⟨j,q,hj⟩
   ·exact ok2.nf a q f
   ·exact ok2.pf a f (restP j a q hj).1
  ·have hj:j < fs.length:=by rw [<- b1];exact (List.getElem?_eq_some_iff.mp e).1
   obtain ⟨s1,e1,e2⟩:=b2 j fs[j] (List.getElem?_eq_getElem hj)
   rw [e] at e1
   cases e1
   rw [Nat.zero_add] at e2
   have:∃ o',fs[j]?=some (some (.bor o')):=by
    unfold P6 at e2
    split at e2
    ·exact ⟨o,by rw [List.getElem?_eq_getElem hj];exact e2⟩
    ·split at e2
     ·rename_i o1 s et es
      cases s with
      | val t=>cases e2
      | own o2=>cases e2
      | bor o2=>exact ⟨o2,by rw [List.getElem?_eq_getElem hj,es]⟩
     ·cases e2
   obtain ⟨o',eo⟩:=this
   exact ok.bo j o' eo
  ·rw [(l.p a (.inl p)).2]
   exact ok.pd a p
  ·exact ok2.pf a f (l.p a (.inl p)).1
  ·rcases src a m with ⟨_,q⟩ | ⟨j,q,hj⟩
   ·exact q (l.p a (.inl p)).1
   ·exact ok.pl a (q2 j a q) p
  ·rcases src a m with ⟨q,_⟩ | ⟨j,q,hj⟩
   ·exact .inl q
   ·exact .inr (.inr ⟨j,q,hj⟩)
def Bof (σ:St):Nat->Option V:=fun k=>(σ[k]?).join
def spF (K:Fg) (p:Nat) (Fn:FS->Out Rv):Sp:=fun vs H Q _=>vs.length=p/\∃ F fs0,Okk K F (Bof (vs.map some)) H fs0 (vs.map some)/\match Fn fs0 with
 | .ok r τ=>∀ F' H' u σ',Le F H F' H'->RR K (Bof (vs.map some)) σ' F' H' τ r u->Q u H'
 | _=>False
def Dj (n:Nat) (g:FS->SO):FS->Out Rv:=fun args=>match g (args++List.replicate n none) with
 | .nx τ=>.ok (.t .non) (τ.take args.length)
 | .ret (.t t) τ=>.ok (.t t) (τ.take args.length)
 | .ret (.nw o) τ=>.ok (.nw o) (τ.take args.length)
 | .ret (.rf i) τ=>match τ[i]? with
  | some (some (.own o))=>.ok (.nw o) ((τ.set i none).take args.length)
  | _=>.bad
 | .exc c τ=>.exc c (τ.take args.length)
 | _=>.bad
section
variable {P:Program} {w:World} {K:Fg} {mg:Str->Option Value} {base:Heap}
theorem C0 {x qual:Str} {st:Stmt} {f:Addr} {fd:FuncData} {N ps:List Str} {k:Nat} {g:FS->SO} (Fu:Fun K x qual st f fd) (S:AZ N ps (Ao st)) (p n:Nat) (hp:ps.length=p) (hn:N.length=p+n)
  (hb:∀ cdv (A:Around) outer (s:Shared) H E,EE k (A.deeper (PyProof.Rows.envOfC qual (Ao st) s.heap.objs.size f cdv))->GSs (Ur CX0 P w K mg base N qual (Ao st) f cdv A outer s H E).nox Xp.no (AU st) g):Dv P w K mg base CX0 (k+1) f fd ps (spF K p (Dj n g)):=by
 refine Fu.ok S (fun vs H Q E h=>by rw [h.1,hp]) (fun cdv A outer s H vs Q E hr h=>⟨_,hb cdv A outer s H E hr,?_⟩)
 obtain ⟨hl,F,fs0,⟨L,ok⟩,h⟩:=h
 have hfl:fs0.length=p:=by rw [<- ok.sl.len,List.length_map];exact hl
 have es:L2.start N vs=vs.map some++List.replicate n none:=by
  unfold L2.start
  rw [hl,hn,Nat.add_sub_cancel_left]
 rw [es]
 refine ⟨F,Bof (vs.map some),fs0++List.replicate n none,⟨L,ok.more n⟩,?_⟩
 unfold Dj at h
 cases e:g (fs0++List.replicate n none) with
 | nx τ =>
  rw [e] at h
  intro F' H' σ' l k
  exact h F' H' .non (σ'.take fs0.length) l (RR.take (RR.of (r:=.t .non) k rfl) _ (fun i z=>nomatch z))
 | ret r τ =>
  rw [e] at h
  intro F' H' σ' u l k
  cases r with
  | t t=>exact h F' H' u (σ'.take fs0.length) l (RR.take k _ (fun i z=>nomatch z))
  | nw o=>exact h F' H' u (σ'.take fs0.length) l (RR.take k _ (fun i z=>nomatch z))
  | rf i =>
   dsimp only at h
   split at h
   ·rename_i r' τ' e2
    split at e2
    ·rename_i o eo
     cases e2
     exact h F' H' u (σ'.take fs0.length) l (RR.take (RR.mv k eo) _ (fun i z=>nomatch z))
    ·cases e2
   ·exact h.elim
 | brk τ=>rw [e] at h;exact h.elim
 | cnt τ=>rw [e] at h;exact h.elim
 | exc c τ=>rw [e] at h;exact h.elim
 | bad=>rw [e] at h;exact h.elim
end
def DP:Rv->Ini
 | .t t=>.val t
 | .rf i=>.slot i
 | .nw o=>.new o
def NA (Fn:FS->Out Rv) (rs:List Rv) (fs:FS):Out Rv :=
 if (Dm fs (rs.map DP)).Nodup then (match Fn (Fp fs (rs.map DP)) with
  | .ok (.t t) τ=>(match JT (rs.map DP) τ fs with
   | some fs'=>.ok (.t t) fs'
   | none=>.bad)
  | .ok (.nw o) τ=>(match JT (rs.map DP) τ fs with
   | some fs'=>.ok (.nw o) fs'
   | none=>.bad)
  | _=>.bad) else .bad
def GP (K:Fg) (F:Wd) (H:Hp) (σ:St):List Rv->List V->List Addr->Prop
 | [],vs,L=>vs=[]/\L=[]
 | r :: rs,vs,L=>∃ v w L1 L2,vs=v :: w/\NH K F H σ r v L1/\GP K F H σ rs w L2/\L=L1++L2
def RAn (K:Fg) (B:Nat->Option V) (σ:St):Wd->Hp->FS->List Rv->List V->Prop:=fun F H fs rs vs=>∃ L M,Ok K F B H fs σ L/\GP K F H σ rs vs M/\(L++M).Nodup/\∀ a∈M,¬ F a/\¬ F.p a
def tAn (K:Fg) (Z:Xp) (f:FS->Out (List Rv)):TA:=fun σ H Q=>∃ F B fs,Okk K F B H fs σ/\sat Z B (RAn K B σ) F H (f fs) Q
def FAn (X:Cx) (Z:Xp) (es:List Expr) (f:FS->Out (List Rv)):Prop:=PA X es (tAn X.K Z f)
def Ah (f:FS->Out Rv) (g:FS->Out (List Rv)):FS->Out (List Rv):=fun fs=>(f fs).bind fun r fs=>(g fs).bind fun rs fs=>.ok (r :: rs) fs
section
variable {K:Fg} {F F':Wd} {H H':Hp} {B:Nat->Option V} {fs:FS} {σ:St} {rs:List Rv} {vs:List V} {Z:Xp} {Q:VK} {Fn:FS->Out Rv} {E:XK}
theorem GP.len:∀ {rs:List Rv} {vs:List V} {M:List Addr},GP K F H σ rs vs M->vs.length=rs.length
 | [],_,_,h=>by obtain ⟨rfl,_⟩:=h;rfl
 | r :: rs,_,_,h=>by
  obtain ⟨v,w,L1,L2,rfl,_,h,_⟩:=h
  simp [GP.len h]
theorem NH.def {r:Rv} {v:V} {L:List Addr} (h:NH K F H σ r v L):∀ a∈L,H a≠none:=by
 cases r with
 | t t=>obtain ⟨rfl,_⟩:=h;exact fun a m=>nomatch m
 | nw o=>exact AQ.def h
 | rf i=>obtain ⟨rfl,_⟩:=h;exact fun a m=>nomatch m
theorem NH.lf {r:Rv} {v:V} {L:List Addr} (l:∀ a,F a->F' a/\H' a=H a) (k:∀ a∈L,H' a=H a) (h:NH K F H σ r v L):NH K F' H' σ r v L:=by
 cases r with
 | t t=>exact ⟨h.1,A3.le (F:=⟨F.f,fun _=>False⟩) ⟨l,fun _ z=>z.elim⟩ (A3.wp h.2)⟩
 | nw o=>exact AQ.le (F:=⟨F.f,fun _=>False⟩) ⟨l,fun _ z=>z.elim⟩ k (AQ.wp h)
 | rf i=>exact h
theorem GP.lf (l:∀ a,F a->F' a/\H' a=H a):∀ {rs:List Rv} {vs:List V} {M:List Addr},(∀ a∈M,H' a=H a)->GP K F H σ rs vs M->GP K F' H' σ rs vs M
 | [],_,_,_,h=>h
 | r :: rs,_,_,k,h=>by
  obtain ⟨v,w,L1,L2,e,h1,h2,rfl⟩:=h
  exact ⟨v,w,L1,L2,e,h1.lf l fun a m=>k a (List.mem_append_left _ m),GP.lf l (fun a m=>k a (List.mem_append_right _ m)) h2,rfl⟩
theorem GP.toP:∀ {rs:List Rv} {vs:List V} {M:List Addr},GP K F H σ rs vs M->∃ μ:Nat->List Addr,(∀ k r,rs[k]?=some r->∃ v,vs[k]?=some v/\NH K F H σ r v (μ k))/\(∀ k a,a∈μ k->a∈M/\H a≠none) /\
  (M.Nodup->(∀ k,(μ k).Nodup)/\∀ i j a,i≠j->a∈μ i->a∉μ j)
 | [],_,_,h=>⟨fun _=>[],(fun k r e=>by simp at e),(fun _ _ m=>nomatch m),fun _=>⟨fun _=>List.nodup_nil,(fun _ _ _ _ m=>nomatch m)⟩⟩
 | r :: rs,_,_,h=>by
  obtain ⟨v,w,L1,L2,rfl,h1,h2,rfl⟩:=h
  obtain ⟨μ,q1,q2,q3⟩:=GP.toP h2
  refine ⟨fun i=>match i with | 0=>L1 | i+1=>μ i,fun k r' e=>?_,fun k a m=>?_,fun nd=>?_⟩
  ·cases k with
   | zero =>
    simp at e
    subst e
    exact ⟨v,rfl,h1⟩
   | succ k =>
    obtain ⟨u,e1,e2⟩:=q1 k r' (by simpa using e)
    exact ⟨u,by simpa using e1,e2⟩
  ·cases k with
   | zero=>exact ⟨List.mem_append_left _ m,h1.def a m⟩
   | succ k=>exact ⟨List.mem_append_right _ (q2 k a m).1,(q2 k a m).2⟩
  ·rw [List.nodup_append] at nd
   obtain ⟨n1,n2,n3⟩:=nd
   obtain ⟨m1,m2⟩:=q3 n2
   refine ⟨fun i=>?_,fun i j a hij hi hj=>?_⟩
   ·cases i with
    | zero=>exact n1
    | succ i=>exact m1 i
   ·cases i with
    | zero =>
     cases j with
     | zero=>exact hij rfl
     | succ j=>exact n3 a hi a (q2 j a hj).1 rfl
    | succ i =>
     cases j with
     | zero=>exact n3 a hj a (q2 i a hi).1 rfl
     | succ j=>exact m2 i j a (fun e=>hij (by rw [e])) hi hj
theorem R3 (q:RAn K B σ F H fs rs vs):∃ L μ,Ok K F B H fs σ L/\Mu F H L μ/\(vs.map some).length=(rs.map DP).length/\∀ (k:Nat) (i:Ini) (v:Option V),(rs.map DP)[k]?=some i->(vs.map some)[k]?=some v->UK K F H σ i v (μ k):=by
 obtain ⟨L,M,ok,q,nd,nf⟩:=q
 obtain ⟨μ,q1,q2,q3⟩:=q.toP
 rw [List.nodup_append] at nd
 obtain ⟨m1,m2⟩:=q3 nd.2.1
 refine ⟨L,μ,ok,⟨fun k a m=>⟨(nf a (q2 k a m).1).1,(nf a (q2 k a m).1).2,fun z=>nd.2.2 a z a (q2 k a m).1 rfl,(q2 k a m).2⟩,m1,m2⟩,by simp [q.len],fun k i v e1 e2=>?_⟩
 rw [List.getElem?_map,Option.map_eq_some_iff] at e1 e2
 obtain ⟨r,er,rfl⟩:=e1
 obtain ⟨u,eu,rfl⟩:=e2
 obtain ⟨u',e3,rr⟩:=q1 k r er
 rw [eu] at e3
 cases e3
 cases r with
 | t t=>exact ⟨u,rfl,rr.2⟩
 | nw o=>exact ⟨u,rfl,rr⟩
 | rf i=>exact rr.2
theorem RAn.len (q:RAn K B σ F H fs rs vs):vs.length=rs.length:=by
 obtain ⟨L,M,ok,q,_⟩:=q
 exact q.len
theorem JR (q:RAn K B σ F H fs rs vs) (s:sat Z B (RR K B σ) F H (NA Fn rs fs) Q):spF K rs.length Fn vs H Q E:=by
 unfold NA at s
 split at s
 ·rename_i nd
  obtain ⟨L9,μ,ok,hμ,hl,hi⟩:=R3 q
  obtain ⟨Pp,p1,p2,p3,p4⟩:=lend ok hl hi nd hμ
  refine ⟨q.len,⟨F.f,Pp⟩,Fp fs (rs.map DP),p2,?_⟩
  split at s
  ·rename_i t τ e
   rw [e]
   split at s
   ·rename_i fs' eb
    intro F' H' u σ' l k
    obtain ⟨Li,L',o1,⟨_,r⟩,_⟩:=k
    obtain ⟨le,L,o2,_⟩:=p4 F' H' τ σ' Li fs' l o1 eb
    exact s ⟨F'.f,F.p⟩ H' u le (RR.of ⟨L,o2⟩ (A3.wp r))
   ·exact s.elim
  ·rename_i o τ e
   rw [e]
   split at s
   ·rename_i fs' eb
    intro F' H' u σ' l k
    obtain ⟨Li,L',o1,r,nd,nf⟩:=k
    obtain ⟨le,L,o2,sub⟩:=p4 F' H' τ σ' Li fs' l o1 eb
    refine s ⟨F'.f,F.p⟩ H' u le ⟨L,L',o2,AQ.wp r,?_,fun a m=>⟨(nf a m).1,fun p=>(nf a m).2 (l.p a (p1 a p)).1⟩⟩
    rw [List.nodup_append] at nd ⊢
    refine ⟨o2.nd,nd.2.1,fun a ha b hb e=>?_⟩
    rcases sub a ha with z | z
    ·exact nd.2.2 a z b hb e
    ·exact (nf b hb).2 (l.p b (e▸z)).1
   ·exact s.elim
  ·exact s.elim
 ·exact s.elim
end
section
variable {X:Cx} {Z:Xp} {e:Expr} {es:List Expr} {f:FS->Out Rv} {g:FS->Out (List Rv)}
theorem AJ:FAn X Z [] Ak:=Mf GX fun σ H Q ⟨F,B,fs,⟨L,ok⟩,s⟩=>s F H [] Le.refl ⟨L,[],ok,⟨rfl,rfl⟩,by simpa using ok.nd,(fun _ m=>nomatch m)⟩
theorem Ai (ha:FE X Z e f) (hr:FAn X Z es g) (hs:starEach (e :: es) X.env=(false,eval e X.env) :: starEach es X.env:=by rfl):FAn X Z (e :: es) (Ah f g):=by
 refine Mf (El ha hr hs) fun σ H Q ⟨F,B,fs,ok,s⟩=>⟨F,B,fs,ok,A5 s fun r fs1 F1 H1 u l q s1=>?_⟩
 obtain ⟨L,L1,o1,r1,nd,nf⟩:=q
 have nda:=List.nodup_append.mp nd
 have le1:Le F1 H1 ⟨F1.f,fun a=>F1.p a∨a∈L1⟩ H1:=⟨fun a f=>⟨f,rfl⟩,fun a f=>⟨.inl f,rfl⟩⟩
 refine ⟨⟨F1.f,fun a=>F1.p a∨a∈L1⟩,B,fs1,⟨L,o1.sl.le le1 fun _ _=>rfl,o1.nd,o1.nf,o1.fd,o1.bo,fun a p=>?_,fun a f p=>?_,fun a m p=>?_⟩,?_⟩
 ·rcases p with p | p
  ·exact o1.pd a p
  ·exact r1.def a p
 ·rcases p with p | p
  ·exact o1.pf a f p
  ·exact (nf a p).1 f
 ·rcases p with p | p
  ·exact o1.pl a m p
  ·exact nda.2.2 a m a p rfl
 ·cases eg:g fs1 with
  | bad=>rw [eg] at s1;exact s1.elim
  | exc c t=>rw [eg] at s1;exact Z.mono s1 le1
  | ok rs fs2 =>
   rw [eg] at s1
   intro F2 H2 us l2 q2
   obtain ⟨L2,M2,o2,r2,nd2,nf2⟩:=q2
   have le2:Le F1 H1 ⟨F2.f,F1.p⟩ H2:=⟨fun a f=>l2.f a f,fun a f=>⟨f,(l2.p a (.inl f)).2⟩⟩
   have hp:∀ a∈L1,F2.p a/\H2 a=H1 a:=fun a m=>l2.p a (.inr m)
   have nd2':=List.nodup_append.mp nd2
   refine s1 ⟨F2.f,F1.p⟩ H2 (u :: us) le2 ⟨L2,L1++M2,⟨AG.wp o2.sl,o2.nd,o2.nf,o2.fd,o2.bo,fun a f=>by rw [(le2.p a f).2];exact o1.pd a f,fun a f p=>o2.pf a f (l2.p a (.inl p)).1,fun a m p=>o2.pl a m (l2.p a (.inl p)).1⟩,⟨u,us,L1,M2,rfl,NH.lf (F:=F1) (F':=⟨F2.f,F1.p⟩) (H:=H1) (H':=H2) (fun a f=>l2.f a f) (fun a m=>(hp a m).2) r1,GP.lf (F:=F2) (F':=⟨F2.f,F1.p⟩) (fun a f=>⟨f,rfl⟩) (fun _ _=>rfl) r2,rfl⟩,?_,fun a m=>?_⟩
   ·rw [List.nodup_append]
    refine ⟨o2.nd,?_,fun a ha b hb e=>?_⟩
    ·rw [List.nodup_append]
     exact ⟨nda.2.1,nd2'.2.1,fun a ha b hb e=>(nf2 b hb).2 (e▸(hp a ha).1)⟩
    ·rcases List.mem_append.mp hb with hb | hb
     ·exact o2.pl a ha (e▸(hp b hb).1)
     ·exact nd2'.2.2 a ha b hb e
   ·rcases List.mem_append.mp m with m | m
    ·exact ⟨fun f=>o2.pf a f (hp a m).1,(nf a m).2⟩
    ·exact ⟨(nf2 a m).1,fun p=>(nf2 a m).2 (l2.p a (.inl p)).1⟩
end
section
variable {X:Cx} {Z:Xp} {x:Str} {k p:Nat} {ps:List Str} {Fn:FS->Out Rv} {e o:Expr} {es:List Expr} {fa:FS->Out (List Rv)} {fo:FS->Out Rv} {pp pos apos:Pos} {C:Addr} {m:Str}
def AA (p:Nat) (Fn:FS->Out Rv):List Rv->FS->Out Rv:=fun rs fs=>if rs.length=p then NA Fn rs fs else .bad
theorem BL (G:FnAt X.prog X.w X.K X.mg X.base CX0 x k ps (spF X.K p Fn)) (hr:EE k X.A) (ha:FAn X Z (e :: es) fa) (hg:Gl X x:=by rfl) (hdb:(x == ("__debug__":Str))=false:=by decide)
  (he:starEach (e :: es) X.env=(false,eval e X.env) :: starEach es X.env:=by rfl) (hpl:(backTo pos (starEach es X.env)).any (·.1)=false:=by rfl):FE X Z (.Call (.Name x pp) (e :: es) [] pos) (Am (AA p Fn) fa):=by
 refine Bo (XJ G hr QM ha hg hdb he hpl) fun σ H Q ⟨F,B,fs,ok,s⟩=>⟨F,B,fs,ok,A5 s fun rs fs1 F1 H1 us l q s1=>?_⟩
 unfold AA at s1
 split at s1
 ·rename_i hp
  rw [List.append_nil,<- hp]
  exact JR q s1
 ·exact s1.elim
def Ly (C:Addr) (m:Str) (fs:FS):Rv->Bool
 | .t (.ins C' gs _)=>decide (C'=C) && !gs.any (· == m)
 | .rf i=>match A1 fs i with
  | some (.ins C' gs _)=>decide (C'=C) && !gs.any (· == m)
  | _=>false
 | _=>false
theorem Ks {kvs:List (Str×V)} {m:Str} (h:((kvs.map (·.1)).any (· == m))=false):kvs.lookup m=none:=by
 induction kvs with
 | nil=>rfl
 | cons p r ih =>
  rw [List.map_cons,List.any_cons,Bool.or_eq_false_iff] at h
  obtain ⟨k,v⟩:=p
  rw [List.lookup_cons]
  have:(m == k)=false:=by
   have h1:(k == m)=false:=h.1
   rw [beq_eq_false_iff_ne] at h1 ⊢
   exact fun e=>h1 e.symm
  rw [this]
  exact ih h.2
theorem Ms {K:Fg} {F:Wd} {H:Hp} {B:Nat->Option V} {fs:FS} {σ:St} {r:Rv} {u:V} (ok:Okk K F B H fs σ) (q:DF K F H σ r u) (h:Ly C m fs r=true):∃ a dx kvs,u=.ref a/\H a=some (.ins C dx kvs)/\kvs.lookup m=none:=by
 unfold Ly at h
 split at h
 ·rename_i C' gs ts
  rw [Bool.and_eq_true] at h
  have hC:=of_decide_eq_true h.1
  subst hC
  simp only [DF,A3] at q
  obtain ⟨a,dx,kvs,rfl,f,hd,rfl,r⟩:=q
  exact ⟨a,dx,kvs,rfl,hd,Ks (by simpa using h.2)⟩
 ·rename_i i
  split at h
  ·rename_i C' gs os eo
   rw [Bool.and_eq_true] at h
   have hC:=of_decide_eq_true h.1
   subst hC
   obtain ⟨v,L2,e1,q2,_⟩:=ok.own eo
   have e2:σ[i]?=some (some u):=q
   rw [e1] at e2
   have e3:v=u:=by simpa using e2
   subst e3
   simp only [AQ] at q2
   obtain ⟨a,dx,kvs,L',rfl,hd,rfl,_⟩:=q2
   exact ⟨a,dx,kvs,rfl,hd,Ks (by simpa using h.2)⟩
  ·cases h
 ·cases h
def GB (C:Addr) (m:Str) (p:Nat) (Fn:FS->Out Rv) (fo:FS->Out Rv) (fa:FS->Out (List Rv)):FS->Out Rv:=fun fs=>(fo fs).bnd fun x fs=>if Ly C m fs x=true then (fa fs).bind fun rs fs=>AA p Fn (x :: rs) fs else .bad
theorem Yh {pl:Sem Bool} (G:Sv X.prog X.w X.K X.mg X.base CX0 C m k ps (spF X.K p Fn)) (hr:EE k X.A) (ho:FE X Z o fo) (ha:FAn X Z (e :: es) fa)
  (hst:starEach (e :: es) X.env=(false,eval e X.env) :: starEach es X.env:=by rfl) (hpl:(backTo pos (starEach es X.env)).any (·.1)=false:=by rfl)
  (ht:eval (.Call (.Attribute o m apos) (e :: es) [] pos) X.env=(do
   let ov <- eval o X.env
   standAt apos.atName
   let (f,first) <- holding [ov] (getMethod ov m pl)
   callWith pos f first (backTo pos (starEach (e :: es) X.env)) (backToKw pos (keywordEach [] X.env))):=by rfl) :
  FE X Z (.Call (.Attribute o m apos) (e :: es) [] pos) (GB C m p Fn fo fa):=by
 refine Bo (XB G hr QM ho ha hst hpl ht) fun σ H Q ⟨F,B,fs,ok,s⟩=>⟨F,B,fs,ok,A6 s fun r fs1 F1 H1 u l ok1 rx s1=>?_⟩
 split at s1
 ·rename_i hi
  obtain ⟨a,dx,kvs,rfl,hd,hn⟩:=Ms ok1 rx hi
  refine ⟨a,dx,kvs,rfl,hd,hn,F1,B,fs1,ok1,A5 s1 fun rs fs2 F2 H2 us l2 q s2=>?_⟩
  unfold AA at s2
  split at s2
  ·rename_i hp
   rw [List.append_nil,<- hp]
   obtain ⟨L9,M9,o9,q9,nd9,nf9⟩:=q
   refine JR (rs:=r :: rs) (vs:=.ref a :: us) ⟨L9,M9,o9,⟨_,us,[],M9,rfl,?_,q9,rfl⟩,nd9,nf9⟩ s2
   have rx2:=rx.le l2
   cases r with
   | t t=>exact ⟨rfl,rx2⟩
   | nw o=>exact rx2.elim
   | rf i=>exact ⟨rfl,rx2⟩
  ·exact s2.elim
 ·exact s1.elim
theorem Ww (G:Sv X.prog X.w X.K X.mg X.base CX0 C m k ps (spF X.K p Fn)) (hr:EE k X.A) (ho:FE X Z o fo)
  (h:∀ {ta:TE},PE X o ta->PE X (.Call (.Attribute o m apos) [] [] pos) (NU C m (spF X.K p Fn) [] E0 ta WZ)):FE X Z (.Call (.Attribute o m apos) [] [] pos) (GB C m p Fn fo Ak):=by
 refine Bo (h ho) fun σ H Q ⟨F,B,fs,ok,s⟩=>⟨F,B,fs,ok,A6 s fun r fs1 F1 H1 u l ok1 rx s1=>?_⟩
 split at s1
 ·rename_i hi
  obtain ⟨a,dx,kvs,rfl,hd,hn⟩:=Ms ok1 rx hi
  refine ⟨a,dx,kvs,rfl,hd,hn,?_⟩
  have s2:sat Z B (RR X.K B σ) F1 H1 (AA p Fn [r] fs1) Q:=s1
  unfold AA at s2
  split at s2
  ·rename_i hp
   show spF X.K p Fn (.ref a :: ([]++[])) H1 Q E0
   rw [<- hp]
   obtain ⟨L9,o9⟩:=ok1
   refine JR (rs:=[r]) (vs:=[.ref a]) ⟨L9,[],o9,⟨_,[],[],[],rfl,?_,⟨rfl,rfl⟩,rfl⟩,by simpa using o9.nd,(fun _ m=>nomatch m)⟩ s2
   cases r with
   | t t=>exact ⟨rfl,rx⟩
   | nw o=>exact rx.elim
   | rf i=>exact ⟨rfl,rx⟩
  ·exact s2.elim
 ·exact s1.elim
def Kr (C:Addr) (p:Nat) (Fn:FS->Out Rv) (rs:List Rv) (fs:FS):Out Rv :=
 if (Dm fs (rs.map DP)).Nodup/\rs.length+1=p then (match Fn (some (.bor (.ins C [] [])) :: Fp fs (rs.map DP)) with
  | .ok (.t .non) (some (.bor o) :: τ)=>(match JT (rs.map DP) τ fs with
   | some fs'=>.ok (.nw o) fs'
   | none=>.bad)
  | _=>.bad) else .bad
theorem QT {K:Fg} {F:Wd} {H:Hp} {B:Nat->Option V} {fs:FS} {σ:St} {rs:List Rv} {vs:List V} {Q:VK} {E:XK} (q:RAn K B σ F H fs rs vs) (s:sat Z B (RR K B σ) F H (Kr C p Fn rs fs) Q)
  {x dx:Addr} (hx:H x=none) (hdx:H dx=none) (hne:dx≠x):spF K p Fn (.ref x :: vs) (upd (upd H dx (.own x)) x (.ins C dx [])) (fun v H2=>v=.non/\Q (.ref x) H2) E:=by
 unfold Kr at s
 split at s
 ·rename_i hh
  obtain ⟨nd,hp⟩:=hh
  obtain ⟨L9,μ,ok,hμ,hl,hi⟩:=R3 q
  obtain ⟨Pp,p1,⟨L0,p2⟩,p3,p4⟩:=lend ok hl hi nd hμ
  have l0:∀ a,H a≠none->(upd (upd H dx (.own x)) x (.ins C dx [])) a=H a:=fun a h=>by
   rw [Aw (fun e=>h (by rw [e];exact hx)),Aw (fun e=>h (by rw [e];exact hdx))]
  have le0:Le ⟨F.f,Pp⟩ H ⟨F.f,Pp⟩ (upd (upd H dx (.own x)) x (.ins C dx [])):=⟨fun a f=>⟨f,l0 a (p2.fd a f)⟩,fun a f=>⟨f,l0 a (p3 a f)⟩⟩
  refine ⟨by rw [List.length_cons,q.len];exact hp,⟨F.f,Pp⟩,some (.bor (.ins C [] [])) :: Fp fs (rs.map DP),?_,?_⟩
  ·refine ⟨[x]++L0,AG.cons ⟨.ref x,rfl,?_⟩ (p2.sl.le le0 fun a m=>l0 a (p2.sl.def a m)),?_,fun a m=>?_,fun a f=>?_,fun i o e=>?_,fun a f=>?_,p2.pf,fun a m=>?_⟩
   ·simp only [AQ]
    exact ⟨x,dx,[],[],rfl,AL,rfl,⟨rfl,rfl⟩,rfl⟩
   ·rw [List.nodup_append]
    exact ⟨by simp,p2.nd,fun a ha b hb e=>p2.sl.def b hb (by rw [<- e,List.mem_singleton.mp ha];exact hx)⟩
   ·rcases List.mem_append.mp m with m | m
    ·rw [List.mem_singleton.mp m]
     exact fun f=>p2.fd x f hx
    ·exact p2.nf a m
   ·rw [l0 a (p2.fd a f)]
    exact p2.fd a f
   ·cases i with
    | zero=>exact ⟨.ref x,rfl,rfl⟩
    | succ i=>exact p2.bo i o (by simpa using e)
   ·rw [l0 a (p3 a f)]
    exact p3 a f
   ·rcases List.mem_append.mp m with m | m
    ·rw [List.mem_singleton.mp m]
     exact fun f=>p3 x f hx
    ·exact p2.pl a m
  ·split at s
   ·rename_i o τ e
    rw [e]
    split at s
    ·rename_i fs' eb
     intro F' H' u σ' l k
     obtain ⟨Lall,L',o1,⟨_,r⟩,_⟩:=k
     refine ⟨r,?_⟩
     obtain ⟨v,σ2,L1,L2,rfl,h1,h2,rfl⟩:=o1.sl.J3
     obtain ⟨w,rfl,ro⟩:=h1
     obtain ⟨w',e3,e4⟩:=o1.bo 0 o rfl
     have ew:w=.ref x:=by
      have z1:some (some w)=some (some w'):=e3
      have z2:some (V.ref x)=some w':=e4
      cases z1
      cases z2
      rfl
     subst ew
     have nd1:=List.nodup_append.mp o1.nd
     have o2:Ok K F' (Bof (vs.map some)) H' τ σ2 L2:=⟨h2,nd1.2.1,fun a m=>o1.nf a (List.mem_append_right _ m),o1.fd,fun i ob eo=>by
      obtain ⟨v,z1,z2⟩:=o1.bo (i+1) ob (by simpa using eo)
      exact ⟨v,by simpa using z1,by
       have z3:(((V.ref x :: vs).map some)[i+1]?).join=some v:=z2
       simpa [Bof] using z3⟩,o1.pd,o1.pf,fun a m=>o1.pl a (List.mem_append_right _ m)⟩
     have l':Le ⟨F.f,Pp⟩ H F' H':=le0.trans l
     obtain ⟨le,L,o3,sub⟩:=p4 F' H' τ σ2 L2 fs' l' o2 eb
     refine s ⟨F'.f,F.p⟩ H' (.ref x) le ⟨L,L1,o3,AQ.wp ro,?_,fun a m=>⟨o1.nf a (List.mem_append_left _ m),fun p=>o1.pl a (List.mem_append_left _ m) (l'.p a (p1 a p)).1⟩⟩
     rw [List.nodup_append]
     refine ⟨o3.nd,nd1.1,fun a ha b hb e=>?_⟩
     rcases sub a ha with z | z
     ·exact nd1.2.2 b hb a z e.symm
     ·exact o1.pl b (List.mem_append_left _ hb) (l'.p b (e▸z)).1
    ·exact s.elim
   ·exact s.elim
 ·exact s.elim
theorem Wx (G:Xe X.prog X.w X.K X.mg X.base CX0 x C k ps (spF X.K p Fn)) (hr:EE (k+1) X.A) (ha:FAn X Z (e :: es) fa) (hg:Gl X x:=by rfl) (hdb:(x == ("__debug__":Str))=false:=by decide)
  (he:starEach (e :: es) X.env=(false,eval e X.env) :: starEach es X.env:=by rfl) (hpl:(backTo pos (starEach es X.env)).any (·.1)=false:=by rfl):FE X Z (.Call (.Name x pp) (e :: es) [] pos) (Am (Kr C p Fn) fa):=by
 refine Bo (XC G hr QM ha hg hdb he hpl) fun σ H Q ⟨F,B,fs,ok,s⟩=>⟨F,B,fs,ok,A5 s fun rs fs1 F1 H1 us l q s1=>?_⟩
 intro a dx h1 h2 h3
 rw [List.append_nil]
 exact QT q s1 h1 h2 h3
end
def Dq (gt:T->FS->Option FS) (ft:FS->Out Bool) (fe:FS->Out Rv):List T->FS->List T->Option (List T×FS)
 | [],τ,acc=>some (acc,τ)
 | t :: ts,τ,acc=>match gt t τ with
  | none=>none
  | some τ=>match ft τ with
   | .ok true τ=>(match fe τ with
    | .ok (.t v) τ=>if acc.length < big then Dq gt ft fe ts τ (acc++[v]) else none
    | _=>none)
   | .ok false τ=>Dq gt ft fe ts τ acc
   | _=>none
def EF:FS->Out Bool:=fun fs=>.ok true fs
def BN (new:Bool) (src:List (Option Nat)) (fi:FS->Out (List T)) (gt:T->FS->Option FS) (ft:FS->Out Bool) (fe:FS->Out Rv):FS->Out Rv:=fun fs=>(fi fs).bind fun ts fs =>
 if (Dm fs (src.map fun o=>o.elim Ini.no Ini.slot)).Nodup/\(src.all fun o=>o.elim true fun j=>decide (j < fs.length))=true then (match Dq gt ft fe ts (Fp fs (src.map fun o=>o.elim Ini.no Ini.slot)) [] with
  | some (vs,τ)=>(match JT (src.map fun o=>o.elim Ini.no Ini.slot) τ fs with
   | some fs'=>if new=true then .ok (.nw (.lst vs)) fs' else .ok (.t (.lst vs)) fs'
   | none=>.bad)
  | none=>.bad) else .bad
def FIf (X:Cx) (ifs:List Expr) (ft:FS->Out Bool):Prop:=Su X ifs (tT X.K Xp.no ft)
theorem QF {X:Cx} {e:List Expr} {t t':TT} (h:Su X e t) (i:∀ σ H Q,t' σ H Q->t σ H Q):Su X e t':=fun pins s σ H Q I q=>h pins s σ H Q I (i _ _ _ q)
theorem DQ {X:Cx}:FIf X [] EF:=QF QE fun σ H Q ⟨F,B,fs,ok,s⟩=>s F H true Le.refl ⟨ok,rfl⟩
theorem LB {X:Cx} {c:Expr} {ft:FS->Out Bool} (h:FT X Xp.no c ft):FIf X [c] ft:=QD h
section
variable {K:Fg} {F:Wd} {H:Hp} {B:Nat->Option V} {fs:FS} {σ:St}
theorem Okk.hide {p:Addr} {o:HO} (h:Okk K F B H fs σ) (hp:H p=none):Okk K ⟨F.f,fun a=>F.p a∨a=p⟩ B (upd H p o) fs σ:=by
 obtain ⟨L,h⟩:=h
 have l:Le F H ⟨F.f,fun a=>F.p a∨a=p⟩ (upd H p o):=⟨fun a f=>⟨f,Aw fun e=>h.fd a f (e▸hp)⟩,fun a f=>⟨.inl f,Aw fun e=>h.pd a f (e▸hp)⟩⟩
 refine ⟨L,h.sl.le l (h.TJ hp),h.nd,h.nf,fun a q=>EG (h.fd a q),h.bo,fun a q=>?_,fun a f q=>?_,fun a m q=>?_⟩
 ·rcases q with q | q
  ·exact EG (h.pd a q)
  ·rw [q,AL];simp
 ·rcases q with q | q
  ·exact h.pf a f q
  ·exact h.fd a f (q▸hp)
 ·rcases q with q | q
  ·exact h.pl a m q
  ·exact h.sl.def a m (q▸hp)
theorem Okk.upP {p:Addr} {o:HO} (h:Okk K F B H fs σ) (hp:F.p p):Okk K F B (upd H p o) fs σ:=by
 obtain ⟨L,h⟩:=h
 have hf:∀ a,F a->(upd H p o) a=H a:=fun a f=>Aw fun e=>h.pf a f (e▸hp)
 have l:Le ⟨F.f,fun _=>False⟩ H ⟨F.f,F.p⟩ (upd H p o):=⟨fun a f=>⟨f,hf a f⟩,fun a f=>f.elim⟩
 have sl:AG K ⟨F.f,fun _=>False⟩ H fs σ L:=AG.wp h.sl
 refine ⟨L,sl.le l fun a m=>Aw fun e=>h.pl a m (e▸hp),h.nd,h.nf,fun a q=>EG (h.fd a q),h.bo,fun a q=>EG (h.pd a q),h.pf,h.pl⟩
theorem Ag.upP {p:Addr} {o:HO} {ts:List T} {vs:List V} (h:Okk K F B H fs σ) (hp:F.p p) (r:Ag K F H ts vs):Ag K F (upd H p o) ts vs:=by
 obtain ⟨L,h⟩:=h
 have l:Le ⟨F.f,fun _=>False⟩ H ⟨F.f,F.p⟩ (upd H p o):=⟨fun a f=>⟨f,Aw fun e=>h.pf a f (e▸hp)⟩,fun a f=>f.elim⟩
 exact Ag.le l (Ag.wp r)
end
section
variable {X:Cx} {Z:Xp} {N:List Str} {sc:Scope} {tg iter elt:Expr} {ifs:List Expr} {fi:FS->Out (List T)} {gt:T->FS->Option FS} {ft:FS->Out Bool} {fe:FS->Out Rv} {pos:Pos} {K:Fg}
inductive CI (K:Fg) (W:Wd) (H1:Hp) (D:Addr) (Bc:Nat->Option V) (gt:T->FS->Option FS) (ft:FS->Out Bool) (fe:FS->Out Rv) (r:List T×FS) (l:List T) (τσ:St) (H2:Hp):Prop
 | mk (F2:Wd) (τ:FS) (acc:List T) (ys:List V) (l2:Le W H1 F2 H2) (pD:F2.p D) (ok2:Okk K F2 Bc H2 τ τσ) (hD2:H2 D=some (.lst ys)) (racc:Ag K F2 H2 acc ys) (ec:Dq gt ft fe l τ acc=some r):CI K W H1 D Bc gt ft fe r l τσ H2
theorem CI.put {W F6:Wd} {H1 H6:Hp} {D:Addr} {Bc:Nat->Option V} {r:List T×FS} {l:List T} {τσ:St} {τ3:FS} {acc:List T} {ys:List V} {v:T} {y:V} {L6:List Addr} (nP:¬ W.p D) (l16:Le W H1 F6 H6) (p6:F6.p D) (o6:Ok K F6 Bc H6 τ3 τσ L6) (racc6:Ag K F6 H6 acc ys) (rv:A3 K F6 H6 v y)
  (ec2:Dq gt ft fe l τ3 (acc++[v])=some r):CI K W H1 D Bc gt ft fe r l τσ (upd H6 D (.lst (ys++[y]))) :=
 .mk F6 τ3 (acc++[v]) (ys++[y]) ⟨fun a f=>⟨(l16.f a f).1,by rw [Aw fun e=>o6.pf a (l16.f a f).1 (by rw [e];exact p6)];exact (l16.f a f).2⟩,fun a f=>⟨(l16.p a f).1,by rw [Aw fun e=>nP (by rw [<- e];exact f)];exact (l16.p a f).2⟩⟩
  p6 (Okk.upP ⟨L6,o6⟩ p6) AL (Ag.upP ⟨L6,o6⟩ p6 (racc6.app (Ag.one rv))) ec2
theorem CI.one {W F5:Wd} {H1 H5:Hp} {D:Addr} {Bc:Nat->Option V} {r:List T×FS} {l:List T} {τσ:St} {τ2:FS} {acc:List T} {ys:List V} (nP:¬ W.p D) (l15:Le W H1 F5 H5) (p5:F5.p D) (ok5:Okk K F5 Bc H5 τ2 τσ) (hD5:H5 D=some (.lst ys)) (racc5:Ag K F5 H5 acc ys)
  (ec2:(match fe τ2 with | .ok (.t v) τ=>if acc.length < big then Dq gt ft fe l τ (acc++[v]) else none | _=>none)=some r) :
  tF K Xp.no fe τσ H5 fun y H6=>∃ ys,H6 D=some (.lst ys)/\ys.length < sizeLine/\CI K W H1 D Bc gt ft fe r l τσ (upd H6 D (.lst (ys++[y]))):=by
 refine ⟨F5,Bc,τ2,ok5,?_⟩
 cases ee:fe τ2 with
 | exc c τ3=>rw [ee] at ec2;cases ec2
 | bad=>rw [ee] at ec2;cases ec2
 | ok w τ3 =>
  rw [ee] at ec2
  cases w with
  | nw o=>cases ec2
  | rf o=>cases ec2
  | t v =>
   dsimp only at ec2
   by_cases hlen:acc.length < big
   ·rw [if_pos hlen] at ec2
    intro F6 H6 y l6 q6
    obtain ⟨L6,L6',o6,⟨_,rv⟩,_⟩:=q6
    have p6:=l6.p D p5
    exact ⟨ys,p6.2.trans hD5,by rw [racc5.len];exact Nat.lt_trans hlen K7,CI.put nP (l15.trans l6) p6.1 o6 (racc5.le l6) rv ec2⟩
   ·rw [if_neg hlen] at ec2
    cases ec2
theorem CI.turn {W F3:Wd} {H1 H3:Hp} {D:Addr} {Bc:Nat->Option V} {r:List T×FS} {t:T} {l:List T} {τσ:St} {τ:FS} {acc:List T} {ys:List V} {x:V} (nP:¬ W.p D) (l2:Le W H1 F3 H3) (pD:F3.p D) (ok2:Okk K F3 Bc H3 τ τσ) (hD2:H3 D=some (.lst ys)) (racc:Ag K F3 H3 acc ys)
  (ec2:Dq gt ft fe (t :: l) τ acc=some r) (rx:A3 K F3 H3 t x) :
  tG K gt x τσ H3 fun τ2 H4=>tT K Xp.no ft τ2 H4 fun b H5=>if b=true then tF K Xp.no fe τ2 H5 fun y H6=>∃ ys,H6 D=some (.lst ys)/\ys.length < sizeLine/\CI K W H1 D Bc gt ft fe r l τ2 (upd H6 D (.lst (ys++[y]))) else CI K W H1 D Bc gt ft fe r l τ2 H5:=by
 simp only [Dq] at ec2
 refine ⟨F3,Bc,τ,t,ok2,rx,?_⟩
 cases eg:gt t τ with
 | none=>rw [eg] at ec2;cases ec2
 | some τ1 =>
  rw [eg] at ec2
  intro F4 H4 τσ4 l4 ok4
  refine ⟨F4,Bc,τ1,ok4,?_⟩
  dsimp only at ec2
  cases et:ft τ1 with
  | exc c τ2=>rw [et] at ec2;cases ec2
  | bad=>rw [et] at ec2;cases ec2
  | ok b τ2 =>
   rw [et] at ec2
   intro F5 H5 b' l5 q5
   obtain ⟨ok5,rfl⟩:=q5
   have p4:=l4.p D pD
   have p5:=l5.p D p4.1
   have h5:=(p5.2.trans p4.2).trans hD2
   have l15:=(l2.trans l4).trans l5
   have r5:=(racc.le l4).le l5
   cases b' with
   | false =>
    rw [if_neg (by decide)]
    exact .mk F5 τ2 acc ys l15 p5.1 ok5 h5 r5 ec2
   | true =>
    rw [if_pos rfl]
    exact CI.one nP l15 p5.1 ok5 h5 r5 ec2
theorem Uz {F:Wd} {H:Hp} {B:Nat->Option V} {fs:FS} {σ:St} {src:List (Option Nat)} (ok:Okk K F B H fs σ) (hall:(src.all fun o=>o.elim true fun j=>decide (j < fs.length))=true) (k:Nat) (i:Ini) (v:Option V) (e1:(src.map fun o=>o.elim Ini.no Ini.slot)[k]?=some i) (e2:(Hf σ src)[k]?=some v):UK K F H σ i v []:=by
 unfold Hf at e2
 rw [List.getElem?_map,Option.map_eq_some_iff] at e1 e2
 obtain ⟨o,eo,rfl⟩:=e1
 obtain ⟨o',eo',rfl⟩:=e2
 rw [eo] at eo'
 cases eo'
 cases o with
 | none=>exact trivial
 | some j =>
  have hj:j < σ.length:=by
   obtain ⟨L1,o1⟩:=ok
   rw [o1.sl.len]
   exact of_decide_eq_true (List.all_eq_true.mp hall _ (List.mem_of_getElem? eo))
  show σ[j]?=some ((σ[j]?).join)
  rw [List.getElem?_eq_getElem hj]
  rfl
theorem Rj {F1 F2:Wd} {H2:Hp} {B:Nat->Option V} {fs':FS} {σ:St} {D:Addr} {ys:List V} {acc:List T} {L:List Addr} (o3:Ok K ⟨F2.f,F1.p⟩ B H2 fs' σ L) (hD2:H2 D=some (.lst ys)) (racc:Ag K F2 H2 acc ys) (nL:D∉L) (nF:¬ F2 D) (np:¬ F1.p D):RR K B σ ⟨F2.f,F1.p⟩ H2 fs' (.nw (.lst acc)) (.ref D):=by
 refine ⟨L,[D],o3,DV hD2 (Ag.wp racc),?_,fun a m=>?_⟩
 ·rw [List.nodup_append]
  exact ⟨o3.nd,by simp,fun a ha b hb e=>nL (by rw [<- List.mem_singleton.mp hb,<- e];exact ha)⟩
 ·rw [List.mem_singleton.mp m]
  exact ⟨nF,np⟩
theorem Ri {F1 F2:Wd} {H2:Hp} {B:Nat->Option V} {fs':FS} {σ:St} {D:Addr} {ys:List V} {acc:List T} {L:List Addr} (o3:Ok K ⟨F2.f,F1.p⟩ B H2 fs' σ L) (hD2:H2 D=some (.lst ys)) (racc:Ag K F2 H2 acc ys) (nL:D∉L) (np:¬ F1.p D):RR K B σ (Ru ⟨F2.f,F1.p⟩ [D]) H2 fs' (.t (.lst acc)) (.ref D):=by
 have l3:Le ⟨F2.f,F1.p⟩ H2 (Ru ⟨F2.f,F1.p⟩ [D]) H2:=orF
 refine RR.of ⟨L,?_⟩ ?_
 ·refine ⟨o3.sl.le l3 fun _ _=>rfl,o3.nd,fun a m z=>?_,fun a z=>?_,o3.bo,o3.pd,fun a z=>?_,o3.pl⟩
  ·rcases z with z | z
   ·exact o3.nf a m z
   ·exact nL (by rw [<- List.mem_singleton.mp z];exact m)
  ·rcases z with z | z
   ·exact o3.fd a z
   ·rw [List.mem_singleton.mp z,hD2];simp
  ·rcases z with z | z
   ·exact o3.pf a z
   ·rw [List.mem_singleton.mp z];exact np
 ·simp only [DF,A3]
  exact ⟨D,ys,rfl,.inr (by simp),hD2,Ag.le l3 (Ag.wp racc)⟩
theorem Si {new:Bool} {src:List (Option Nat)} {σ:St} {H:Hp} {Q:VK} (h:tF K Z (BN new src fi gt ft fe) σ H Q):SJ src (tI K Z fi) (tG K gt) (tT K Xp.no ft) (tF K Xp.no fe) σ H Q:=by
 obtain ⟨F,B,fs,ok,s⟩:=h
 refine ⟨F,B,fs,ok,A5 s fun ts fs1 F1 H1 J l q s1=>?_⟩
 obtain ⟨ok1,jk⟩:=q
 split at s1
 ·rename_i hnd
  obtain ⟨L9,ok9⟩:=id ok1
  obtain ⟨Pp,p1,p2,p3,p4⟩:=lend (μ:=fun _=>[]) ok9 (by unfold Hf;simp) (Uz ok1 hnd.2) hnd.1 Mu.no
  have jI:JOk K ⟨F1.f,Pp⟩ H1 J ts:=jk.within
  split at s1
  ·rename_i vs τe ec
   split at s1
   ·rename_i fs' eb
    intro D hD
    have nP:¬ Pp D:=fun z=>p3 D z hD
    refine ⟨fun i m τσ H2=>m=ts.length - i/\CI K ⟨F1.f,Pp⟩ H1 D (Bof (Hf σ src)) gt ft fe (vs,τe) (ts.drop i) τσ H2,
     ⟨ts.length,rfl,.mk ⟨F1.f,fun a=>Pp a∨a=D⟩ _ [] [] ⟨fun a f=>⟨f,Aw fun e=>p2.fd a f (e▸hD)⟩,fun a f=>⟨.inl f,Aw fun e=>nP (e▸f)⟩⟩ (.inr rfl) (p2.hide hD) AL rfl ec⟩,fun i m τσ H2 hc=>?_⟩
    obtain ⟨rfl,F2,τ,acc,ys,l2,pD,ok2,hD2,racc,ec2⟩:=hc
    by_cases hit:i < ts.length
    ·have ei:ts[i]?=some ts[i]:=List.getElem?_eq_getElem hit
     rw [List.drop_eq_getElem_cons hit] at ec2
     obtain ⟨j1,j2⟩:=(jI F2 H2 l2.f ⟨_,_,_,ok2⟩ i).1 _ ei
     refine .inr ⟨j1,CI K ⟨F1.f,Pp⟩ H1 D (Bof (Hf σ src)) gt ft fe (vs,τe) (ts.drop (i+1)),fun τσ' H' h=>⟨ts.length - (i+1),by omega,rfl,h⟩,fun x H3 hy=>?_⟩
     obtain ⟨F3,⟨l23,nw⟩,rx⟩:=j2 x H3 hy
     exact CI.turn nP (l2.trans l23) (l23.p D pD).1 (nw _ _ _ ok2) ((l23.p D pD).2.trans hD2) (racc.le l23) ec2 rx
    ·refine .inl ⟨(jI F2 H2 l2.f ⟨_,_,_,ok2⟩ i).2 (by omega),?_⟩
     rw [List.drop_eq_nil_of_le (by omega)] at ec2
     simp only [Dq] at ec2
     cases ec2
     obtain ⟨Li,o2⟩:=ok2
     obtain ⟨le,L,o3,sub⟩:=p4 F2 H2 τe τσ Li fs' l2 o2 eb
     have nL:D∉L:=fun m=>(sub D m).elim (fun z=>o2.pl D z pD) nP
     have np:¬ F1.p D:=fun z=>nP (p1 D z)
     cases new with
     | true =>
      rw [if_pos rfl] at s1
      exact s1 ⟨F2.f,F1.p⟩ H2 (.ref D) le (Rj o3 hD2 racc nL (fun f=>o2.pf D f pD) np)
     | false =>
      rw [if_neg (by decide)] at s1
      exact s1 (Ru ⟨F2.f,F1.p⟩ [D]) H2 (.ref D) (le.trans orF) (Ri o3 hD2 racc nL np)
   ·exact s1.elim
  ·exact s1.elim
 ·exact s1.elim
theorem Dz (new:Bool) (N:List Str) (src:List (Option Nat)) (hcalm:X.calm=true) (hi:FI X Z tg iter fi) (hg:∀ cl C s H fp,GT (Dd X N sc cl C s H fp) tg gt) (ht:∀ cl C s H fp,FIf (Dd X N sc cl C s H fp) ifs ft)
  (he:∀ cl C s H fp,FE (Dd X N sc cl C s H fp) Xp.no elt fe) (hS:IW X.env.scope sc=true:=by rfl) (hcap:GK X.N sc N src=true:=by rfl)
  (hs:∀ x,foldedSetIterable iter X.env x=pure x:=by intro _;rfl):FE X Z (.ListComp elt [⟨tg,iter,ifs,0⟩] sc pos) (BN new src fi gt ft fe) :=
 Bo (S5 (g:=tG X.K gt) (tt:=tT X.K Xp.no ft) (te:=tF X.K Xp.no fe) N src hcalm hi hg ht he hS hcap hs) fun _ _ _ h=>Si h
theorem IP (new:Bool) (i:Nat) {y:Str} {pos' spos:Pos} (N:List Str) (src:List (Option Nat)) (hcalm:X.calm=true) (hN:X.N.Nodup) (hy:Loc X.env.scope y) (hi:FI X Z tg iter fi) (hg:∀ cl C s H fp,GT (Dd X N sc cl C s H fp) tg gt) (ht:∀ cl C s H fp,FIf (Dd X N sc cl C s H fp) ifs ft)
  (he:∀ cl C s H fp,FE (Dd X N sc cl C s H fp) Xp.no elt fe) (hiy:X.N[i]?=some y:=by rfl) (hS:IW X.env.scope sc=true:=by rfl) (hcap:GK X.N sc N src=true:=by rfl)
  (hs:∀ x,foldedSetIterable iter X.env x=pure x:=by intro _;rfl) (hsw:swapsWith (.ListComp elt [⟨tg,iter,ifs,0⟩] sc pos) (some (.Name y pos')) spos.line X.env=pure true:=by rfl)
  (hf:X.fn y=true∨X.env.scope.names.lookup y=some .local:=by first | exact .inl rfl | exact .inr rfl | assumption) :
  GS X Z (.Assign [.Name y pos'] (.ListComp elt [⟨tg,iter,ifs,0⟩] sc pos) spos) (AY i (BN new src fi gt ft fe)) :=
 DC (MZ (g:=tG X.K gt) (tt:=tT X.K Xp.no ft) (te:=tF X.K Xp.no fe) N src hcalm hN hiy hy hi hg ht he hS hcap hs hsw hf) fun _ _ _ s=>Si (U6 s)
end
def orG (g g':Rv->Rv->FS->Out Rv):Rv->Rv->FS->Out Rv:=fun x y fs=>match g x y fs with
 | .bad=>g' x y fs
 | o=>o
theorem OpF.or {K:Fg} {Z:Xp} {r r':R2} {g g':Rv->Rv->FS->Out Rv} (h:OpF K Z r g) (h':OpF K Z r' g'):OpF K Z (orR r r') (orG g g'):=by
 intro F B H σ fs x y u w Q ok rx ry s
 unfold orG at s
 cases e:g x y fs with
 | ok a t=>rw [e] at s;exact .inl (h F B H σ fs x y u w Q ok rx ry (by rw [e];exact s))
 | exc c t=>rw [e] at s;exact .inl (h F B H σ fs x y u w Q ok rx ry (by rw [e];exact s))
 | bad=>rw [e] at s;exact .inr (h' F B H σ fs x y u w Q ok rx ry s)
def orC (g g':List Rv->FS->Out Rv):List Rv->FS->Out Rv:=fun x fs=>match g x fs with
 | .bad=>g' x fs
 | o=>o
theorem Ei.or {K:Fg} {Z:Xp} {r r':List V->Hp->VK->Prop} {g g':List Rv->FS->Out Rv} (h:Ei K Z r g) (h':Ei K Z r' g'):Ei K Z (RV r r') (orC g g'):=by
 intro F B H σ fs x u Q ok rx s
 unfold orC at s
 cases e:g x fs with
 | ok a t=>rw [e] at s;exact .inl (h F B H σ fs x u Q ok rx (by rw [e];exact s))
 | exc c t=>rw [e] at s;exact .inl (h F B H σ fs x u Q ok rx (by rw [e];exact s))
 | bad=>rw [e] at s;exact .inr (h' F B H σ fs x u Q ok rx s)
def exL (fs:FS):Rv->Option (List T)
 | .t (.lst ts)=>some ts
 | .rf i=>match A1 fs i with
  | some (.lst ts)=>some ts
  | _=>none
 | _=>none
theorem Sb {K:Fg} {B:Nat->Option V} {F:Wd} {H:Hp} {σ:St} {fs:FS} {x:Rv} {u:V} {ts:List T} (h:Okk K F B H fs σ) (r:DF K F H σ x u) (e:exL fs x=some ts):∃ a vs,u=.ref a/\H a=some (.lst vs)/\Ag K F H ts vs:=by
 unfold exL at e
 split at e
 ·cases e
  simp only [DF,A3] at r
  obtain ⟨a,vs,e,f,s,q⟩:=r
  exact ⟨a,vs,e,s,q⟩
 ·rename_i i
  split at e
  ·rename_i ts' eo
   cases e
   obtain ⟨v,L2,e1,q,_⟩:=h.own eo
   have e2:σ[i]?=some (some u):=r
   rw [e1] at e2
   have e3:v=u:=by simpa using e2
   subst e3
   simp only [AQ] at q
   obtain ⟨a,vs,e,s,q,_⟩:=q
   exact ⟨a,vs,e,s,q⟩
  ·cases e
 ·cases e
def KG:Rv->Rv->FS->Out Rv:=fun x y fs=>match exL fs x,exL fs y with
 | some ts,some us=>if ts.length+us.length<=big then .ok (.nw (.lst (ts++us))) fs else .bad
 | _,_=>.bad
def Ub:Rv->Rv->FS->Out Rv
 | .t (.tup ts),.t (.tup us),fs=>if ts≠[]/\ts.length+us.length<=big then okT (.tup (ts++us)) fs else .bad
 | _,_,_=>.bad
section
variable {K:Fg} {Z:Xp}
theorem Tj:OpF K Z YD KG:=by
 intro F B H σ fs x y u w Q ok rx ry s
 unfold KG at s
 split at s
 ·rename_i ts us e1 e2
  split at s
  ·rename_i hl
   obtain ⟨a,vs,rfl,hs,r⟩:=Sb ok rx e1
   obtain ⟨b,ws,rfl,hs2,r2⟩:=Sb ok ry e2
   exact ⟨a,b,vs,ws,rfl,rfl,hs,hs2,by rw [r.len,r2.len];exact Nat.le_trans hl DT,fun p hp=>s F _ (.ref p) (BJ ok hp) (RR.alloc ok hp (DV AL ((r.app r2).le (BJ ok hp))))⟩
  ·exact s.elim
 ·exact s.elim
theorem Ti:OpF K Z (Ve K) Ub:=by
 intro F B H σ fs x y u w Q ok rx ry s
 unfold Ub at s
 split at s
 ·rename_i ts us
  split at s
  ·rename_i hl
   obtain ⟨a,vs,rfl,hs,r⟩:=C5 (ts:=ts) rx rfl
   obtain ⟨b,ws,rfl,hs2,r2⟩:=C5 (ts:=us) ry rfl
   refine ⟨a,b,vs,ws,rfl,rfl,hs,hs2,fun z=>hl.1 ?_,by rw [r.len,r2.len];exact Nat.le_trans hl.2 DT,fun z=>?_,fun _ p hp=>s _ _ (.ref p) (Cb ok hp) (Gw ok hp (r.app r2))⟩
   ·have:=r.len
    rw [z] at this
    exact List.eq_nil_of_length_eq_zero this.symm
   ·have e:us=[]:=by
     have:=r2.len
     rw [z] at this
     exact List.eq_nil_of_length_eq_zero this.symm
    subst e
    rw [List.append_nil] at s
    exact s F H _ Le.refl (RR.of ok rx)
  ·exact s.elim
 ·exact s.elim
def Pl:Rv->Rv->FS->Out Rv
 | .t (.tup []),.t (.tup us),fs=>okT (.tup us) fs
 | _,_,_=>.bad
theorem QP:OpF K Z (RH K) Pl:=by
 intro F B H σ fs x y u w Q ok rx ry s
 unfold Pl at s
 split at s
 ·rename_i us
  obtain ⟨a,vs,rfl,hs,r⟩:=C5 (ts:=[]) rx rfl
  obtain ⟨b,ws,rfl,hs2,r2⟩:=C5 (ts:=us) ry rfl
  have e:vs=[]:=by simpa [Ag] using r
  subst e
  exact ⟨a,b,ws,rfl,rfl,hs,hs2,s F H _ Le.refl (RR.of ok ry)⟩
 ·exact s.elim
theorem Th:OpF K Z Vd Pk:=by
 intro F B H σ fs x y u w Q ok rx ry s
 unfold Pk at s
 split at s
 ·split at s
  ·rename_i t e
   obtain ⟨a,o',rfl,hd,h⟩:=PK ok rx ry e
   rcases h with ⟨h1,_⟩ | ⟨t',v,h1,h2,h3⟩
   ·cases h1
   ·cases h1
    subst h2
    exact ⟨a,v,rfl,hd,s F H v Le.refl (RR.of ok h3)⟩
  ·exact s.elim
 ·exact s.elim
theorem OC (neg:Bool):OpF K Z (Xv neg) (Ua neg):=by
 intro F B H σ fs y x w u Q ok ry rx s
 unfold Ua at s
 split at s
 ·split at s
  ·rename_i t e
   obtain ⟨a,o',rfl,hd,h⟩:=PK ok rx ry e
   refine ⟨a,o',rfl,hd,?_⟩
   have:o'.isSome=t.isSome:=by
    rcases h with ⟨h1,h2⟩ | ⟨t',v,h1,h2,h3⟩
    ·rw [h1,h2];rfl
    ·rw [h1,h2];rfl
   rw [this]
   exact s F H _ Le.refl (RR.of ok rfl)
  ·exact s.elim
 ·exact s.elim
end
def AS:=orG Yf (orG Q9 (orG KG (orG Ub Pl)))
def Cw:=orG UN Q7
def Bd:=orG gIx Pk
def FR (neg:Bool):=orG (Ua neg) (orG (KD neg) (gIn neg))
def Q8:List Rv->FS->Out Rv
 | [.t (.dK ks _)],fs=>okT (.int ks.length) fs
 | [.rf i],fs=>match A1 fs i with
  | some (.dK ks _)=>okT (.int ks.length) fs
  | _=>.bad
 | _,_=>.bad
def CO:=orC UO (orC Pj Q8)
def Pg:=orC T7 Ph
section
variable {K:Fg} {Z:Xp}
theorem Uw:Ei K Z (fun xs H Q=>∃ a kvs,xs=[V.ref a]/\Rd H a (.dK kvs)/\Q (.int kvs.length) H) Q8:=by
 intro F B H σ fs rs vs Q ok q s
 unfold Q8 at s
 split at s
 ·obtain ⟨v,rfl,qq⟩:=Cg q
  have q:=qq
  simp only [DF,A3] at q
  obtain ⟨a,kvs,rfl,f,hd,rfl,r⟩:=q
  rw [List.length_map] at s
  exact ⟨a,kvs,rfl,hd,s F H _ Le.refl (RR.of ok rfl)⟩
 ·rename_i i
  obtain ⟨v,rfl,qq⟩:=Cg q
  have q:=qq
  split at s
  ·rename_i eo
   obtain ⟨v',L2,e1,q2,_⟩:=ok.own eo
   have e2:σ[i]?=some (some v):=q
   rw [e1] at e2
   have e3:v'=v:=by simpa using e2
   subst e3
   simp only [AQ] at q2
   obtain ⟨a,kvs,rfl,hd,rfl,_⟩:=q2
   rw [List.length_map] at s
   exact ⟨a,kvs,rfl,.inl hd,s F H _ Le.refl (RR.of ok rfl)⟩
  ·exact s.elim
 ·exact s.elim
end
section
variable {X:Cx} {Z:Xp} {a b:Expr} {fa fb:FS->Out Rv} {pos:Pos}
theorem Cu (ha:FE X Z a fa) (hb:FE X Z b fb):FE X Z (.BinOp a .Add b pos) (Af AS fa fb) :=
 Pu (OpF.or VH (OpF.or Tn (OpF.or Tj (OpF.or Ti QP)))) (OpR.orR VB (OpR.orR M7 (OpR.orR VA (OpR.orR Td QN)))) ha hb
theorem Wu (ha:FE X Z a fa) (hb:FE X Z b fb):FE X Z (.BinOp a .Sub b pos) (Af KA fa fb):=Pu VD Vv ha hb
theorem HY (ha:FE X Z a fa) (hb:FE X Z b fb):FE X Z (.BinOp a .Mult b pos) (Af Cw fa fb):=Pu (OpF.or VE Te) (OpR.orR Tb Ov) ha hb
theorem CL (ha:FE X Z a fa) (hb:FE X Z b fb):FE X Z (.BinOp a .Mod b pos) (Af CB fa fb):=Pu VF Vx ha hb
theorem ET (ha:FE X Z a fa) (hb:FE X Z b fb):FE X Z (.BinOp a .FloorDiv b pos) (Af ES fa fb):=Pu VG Tc ha hb
theorem BQ (hu:X.A.units+1 < cLine) (ha:FE X Z a fa) (hb:FE X Z b fb) (hs:JX b):FE X Z (.Subscript a b pos) (Af Bd fa fb):=Yj (OpF.or XW Th) (IxR.orR V0 (TQ hu)) ha hb hs
theorem Pz (ha:FE X Z a fa) (hb:FE X Z b fb):FE X Z (.Compare a [.Eq] [b] pos) (Af (gEq false) fa fb):=PB of_eq Vz ha hb (HK _)
theorem FG (ha:FE X Z a fa) (hb:FE X Z b fb):FT X Z (.Compare a [.Eq] [b] pos) (asB (Af (gEq false) fa fb)):=HX of_eq Vz ha hb (HK _)
theorem Ue (ha:FE X Z a fa) (hb:FE X Z b fb):FT X Z (.Compare a [.NotEq] [b] pos) (asB (Af (gEq true) fa fb)):=HX XU XQ ha hb (HK _)
theorem Wq (ha:FE X Z a fa) (hb:FE X Z b fb):FT X Z (.Compare a [.Lt] [b] pos) (asB (Af gLt fa fb)):=HX of_lt XR ha hb (HK _)
theorem Wr (ha:FE X Z a fa) (hb:FE X Z b fb):FT X Z (.Compare a [.Gt] [b] pos) (asB (Af gGt fa fb)):=HX XX XS ha hb (HK _)
theorem Wy (hu:X.A.units+1 < cLine) (ha:FE X Z a fa) (hb:FE X Z b fb) (hm:behindInMarks .In b=false:=by rfl):FE X Z (.Compare a [.In] [b] pos) (Af (FR false) fa fb) :=
 PB (OpF.or (OC false) (OpF.or Mh (Tf false))) (OpR.orR (RW hu) (OpR.orR Kn HE)) ha hb hm
theorem Ra (hu:X.A.units+1 < cLine) (ha:FE X Z a fa) (hb:FE X Z b fb) (hm:behindInMarks .In b=false:=by rfl):FT X Z (.Compare a [.In] [b] pos) (asB (Af (FR false) fa fb)) :=
 HX (OpF.or (OC false) (OpF.or Mh (Tf false))) (OpR.orR (RW hu) (OpR.orR Kn HE)) ha hb hm
theorem JH (hu:X.A.units+1 < cLine) (ha:FE X Z a fa) (hb:FE X Z b fb) (hm:behindInMarks .NotIn b=false:=by rfl):FT X Z (.Compare a [.NotIn] [b] pos) (asB (Af (FR true) fa fb)) :=
 HX (OpF.or (OC true) (OpF.or Lq (Tf true))) (OpR.orR (Ow hu) (OpR.orR Km EL)) ha hb hm
end
def itU (f:FS->Out Rv):FS->Out (List T):=fun fs=>(f fs).bnd fun r fs=>match r with
 | .t (.lst ts)=>.ok ts fs
 | .t (.scr ts)=>.ok ts fs
 | .t (.tup ts)=>.ok ts fs
 | .t (.str z)=>.ok (signs z) fs
 | _=>.bad
theorem Ct {X:Cx} {Z:Xp} {tg l:Expr} {f:FS->Out Rv} (hl:FE X Z l f):FI X Z tg l (itU f):=by
 refine Ma (Vn hl) fun σ H Q ⟨F,B,fs,ok,s⟩=>⟨F,B,fs,ok,A6 s fun r fs1 F1 H1 u l ok1 rx s1=>?_⟩
 split at s1
 ·rename_i ts
  simp only [DF,A3] at rx
  obtain ⟨a,vs,rfl,ff,hs,r⟩:=rx
  exact .inl ⟨a,rfl,⟨vs,SqL.of hs⟩,s1 F1 H1 _ Le.refl ⟨ok1,Mo (fun F' H' l=>SqL.of ((l a ff).2.trans hs)) r⟩⟩
 ·rename_i ts
  simp only [DF,A3] at rx
  obtain ⟨a,vs,rfl,hs,r⟩:=rx
  exact .inl ⟨a,rfl,⟨vs,hs.sq⟩,s1 F1 H1 _ Le.refl ⟨ok1,Mo (fun F' H' l=>(StL.lf l hs).sq) r⟩⟩
 ·rename_i ts
  simp only [DF,A3] at rx
  obtain ⟨a,vs,rfl,hs,r⟩:=rx
  exact .inr (.inl ⟨a,rfl,⟨vs,hs.sq⟩,s1 F1 H1 _ Le.refl ⟨ok1,TL (fun F' H' l=>SqT.of ((l a hs.2.1).2.trans hs.2.2)) r⟩⟩)
 ·rename_i z
  exact .inr (.inr ⟨z,rx,s1 F1 H1 _ Le.refl ⟨ok1,TM⟩⟩)
 ·exact s1.elim
def Q4:Rv->Rv->Rv->FS->SO
 | .rf i,.t (.int k),.t t,fs=>match A1 fs i with
  | some (.lst ts)=>match ixN ts.length k with
   | some j=>.nx (putAt fs i (.lst (ts.set j t)))
   | none=>.bad
  | _=>.bad
 | _,_,_,_=>.bad
def Pf:Rv->Rv->Rv->FS->SO
 | .rf i,.t y,.t t,fs=>match A1 fs i with
  | some (.dK ks ts)=>match MU y with
   | some k=>if ks.length < big then .nx (putAt fs i (.dK (Jj ks ts k t).1 (Jj ks ts k t).2)) else .bad
   | none=>.bad
  | some (.dT ks ts)=>match y with
   | .tup ys=>match Lf ys with
    | some k=>if ks.length < big then .nx (putAt fs i (.dT (Jj ks ts k t).1 (Jj ks ts k t).2)) else .bad
    | none=>.bad
   | _=>.bad
  | _=>.bad
 | _,_,_,_=>.bad
def T3:Rv->Rv->Rv->FS->SO:=fun o i v fs=>match Q4 o i v fs with
 | .bad=>Pf o i v fs
 | s=>s
def FX (fv fo fi:FS->Out Rv):FS->SO:=fun fs=>SO.of ((fv fs).bnd fun v fs=>(fo fs).bnd fun o fs=>(fi fs).bnd fun i fs=>.ok (v,o,i) fs) fun (v,o,i) fs=>T3 o i v fs
section
variable {K:Fg} {Z:Xp} {B:Nat->Option V} {F:Wd} {H:Hp} {σ:St} {fs:FS} {D:Ends}
theorem Q3 {o i v:Rv} {uo ui uv:V} (ok:Okk K F B H fs σ) (ro:DF K F H σ o uo) (ri:DF K F H σ i ui) (rv:DF K F H σ v uv) (s:Lb K Z B F H (Q4 o i v fs) D):Qx uo ui uv H (fun H3=>D.nx σ H3):=by
 unfold Q4 at s
 split at s
 ·rename_i i k t
  split at s
  ·rename_i ts e
   split at s
   ·rename_i j ej
    obtain ⟨a,us,rfl,hs,r,kk⟩:=ok.list ro e
    obtain ⟨ok',l⟩:=kk (ts.set j t) (us.set j uv) (Ag.set rv j r)
    exact ⟨a,us,k,j,rfl,ri,hs,by rw [r.len];exact ej,s F _ σ l ok'⟩
   ·exact s.elim
  ·exact s.elim
 ·exact s.elim
theorem Q5 {o i v:Rv} {uo ui uv:V} (ok:Okk K F B H fs σ) (ro:DF K F H σ o uo) (ri:DF K F H σ i ui) (rv:DF K F H σ v uv) (s:Lb K Z B F H (Pf o i v fs) D):Qz uo ui uv H (fun H3=>D.nx σ H3):=by
 unfold Pf at s
 split at s
 ·rename_i i y t
  split at s
  ·rename_i ks ts e
   split at s
   ·rename_i k ek
    split at s
    ·rename_i hl
     obtain ⟨v,L2,e1,q,nf,_,kk⟩:=ok.own e
     have e2:σ[i]?=some (some uo):=ro
     rw [e1] at e2
     have e3:v=uo:=by simpa using e2
     subst e3
     simp only [AQ] at q
     obtain ⟨a,kvs,rfl,hs,rfl,q,rfl⟩:=q
     have:=Hj ek ri
     subst this
     refine ⟨a,_,rfl,Qg.k hs (by rw [List.length_map] at hl;exact Nat.lt_trans hl K7),?_⟩
     obtain ⟨h1,h2⟩:=Ji (j:=k) rv q
     have l:Le F H F (upd H a (.dK (putK kvs k uv))):=⟨fun b f=>⟨f,Aw fun z=>(nf a (by simp)).1 (z▸f)⟩,fun b f=>⟨f,Aw fun z=>(nf a (by simp)).2 (z▸f)⟩⟩
     obtain ⟨ok',l'⟩:=kk (.dK (Jj (kvs.map (·.1)) ts k t).1 (Jj (kvs.map (·.1)) ts k t).2) (upd H a (.dK (putK kvs k uv))) (fun b hb _=>Aw (by simpa using hb)) (by
      simp only [AQ]
      exact ⟨a,_,rfl,AL,h1,h2.le l,rfl⟩)
     exact s F _ σ l' ok'
    ·exact s.elim
   ·exact s.elim
  ·rename_i ks ts e
   split at s
   ·rename_i ys
    split at s
    ·rename_i k ek
     split at s
     ·rename_i hl
      obtain ⟨v,L2,e1,q,nf,_,kk⟩:=ok.own e
      have e2:σ[i]?=some (some uo):=ro
      rw [e1] at e2
      have e3:v=uo:=by simpa using e2
      subst e3
      simp only [AQ] at q
      obtain ⟨a,kvs,rfl,hs,rfl,q,rfl⟩:=q
      simp only [DF,A3] at ri
      obtain ⟨b,vs,rfl,hb,rb⟩:=ri
      have:=Hu ek rb
      subst this
      refine ⟨a,_,rfl,Qg.t hs hb.2.2 (by rw [List.length_map] at hl;exact Nat.lt_trans hl K7),?_⟩
      obtain ⟨h1,h2⟩:=Ji (j:=k) rv q
      have l:Le F H F (upd H a (.dT (putK kvs k uv))):=⟨fun b f=>⟨f,Aw fun z=>(nf a (by simp)).1 (z▸f)⟩,fun b f=>⟨f,Aw fun z=>(nf a (by simp)).2 (z▸f)⟩⟩
      obtain ⟨ok',l'⟩:=kk (.dT (Jj (kvs.map (·.1)) ts k t).1 (Jj (kvs.map (·.1)) ts k t).2) (upd H a (.dT (putK kvs k uv))) (fun b hb _=>Aw (by simpa using hb)) (by
       simp only [AQ]
       exact ⟨a,_,rfl,AL,h1,h2.le l,rfl⟩)
      exact s F _ σ l' ok'
     ·exact s.elim
    ·exact s.elim
   ·exact s.elim
  ·exact s.elim
 ·exact s.elim
end
theorem Mt {X:Cx} {Z:Xp} {o i e:Expr} {fv fo fi:FS->Out Rv} {tpos pos:Pos} (hu:X.A.units+1 < cLine) (he:FE X Z e fv) (ho:FE X Z o fo) (hi:FE X Z i fi)
  (h:∀ {te to ti:TE} {t:Ss},PE X e te->PE X o to->PE X i ti->Rx X t->PS X (.Assign [.Subscript o i tpos] e pos) (U3 te (Yc to ti t))):GS X Z (.Assign [.Subscript o i tpos] e pos) (FX fv fo fi):=by
 refine DC (h he ho hi (Rx.orR set_list (set_dict hu))) fun D σ H ⟨F,B,fs,ok,s⟩=>?_
 have s':sat Z B (RR X.K B σ) F H (fv fs) (fun v H1=>Yc (tF X.K Z fo) (tF X.K Z fi) (S9 Qx Qz) v σ H1 D.nx):=by
  have s1:=C6 (R:=fun F' H' fs' (a:Rv×Rv×Rv) (b:V×V×V)=>Okk X.K F' B H' fs' σ/\DF X.K F' H' σ a.1 b.1/\DF X.K F' H' σ a.2.1 b.2.1/\DF X.K F' H' σ a.2.2 b.2.2) (Q:=fun b H3=>S9 Qx Qz b.2.1 b.2.2 b.1 H3 fun H4=>D.nx σ H4) s (fun a fs' F' H' b l q s2=>by
   obtain ⟨q1,q2,q3,q4⟩:=q
   obtain ⟨v,o,i⟩:=a
   dsimp only at s2 q2 q3 q4 ⊢
   unfold T3 at s2
   split at s2
   ·exact .inr (Q5 q1 q3 q4 q2 s2)
   ·exact .inl (Q3 q1 q3 q4 q2 s2))
  refine A6 s1 fun v fs1 F1 H1 uv l1 ok1 rv s2=>?_
  refine ⟨F1,B,fs1,ok1,A6 s2 fun o fs2 F2 H2 uo l2 ok2 ro s3=>⟨F2,B,fs2,ok2,A6 s3 fun i fs3 F3 H3 ui l3 ok3 ri s4=>?_⟩⟩
  exact s4 F3 H3 (uv,uo,ui) Le.refl ⟨ok3,(rv.le l2).le l3,ro.le l3,ri⟩
 exact ⟨F,B,fs,ok,s'⟩
theorem BM {X:Cx} {Z:Xp} {st:Stmt}:GS X Z st (fun _=>.bad):=DC QC fun D σ H ⟨F,B,fs,ok,s⟩=>s.elim
section
variable {K:Fg} {B:Nat->Option V} {F F':Wd} {H H':Hp} {σ:St} {fs:FS} {i:Nat} {ob:FO} {r:Rv} {u:V}
theorem RR.put (h:RR K B σ F H fs r u) (e:A1 fs i=some ob):∃ v L2 L',σ[i]?=some (some v)/\AQ K F H ob v L2/\NH K F H σ r u L'/\(L2++L').Nodup/\(∀ a∈L2++L',¬ F a/\¬ F.p a) /\
  ∀ ob' H' M,(∀ a,a∉L2->H a≠none->H' a=H a)->AQ K F H' ob' v M->M.Nodup->(∀ b∈M,b∈L2∨b∈L')->Okk K F B H' (putAt fs i ob') σ/\Le F H F H':=by
 obtain ⟨L,L',h,qr,ndr,nfr⟩:=h
 have key:∀ s:Sl,fs[i]?=some (some s)->(s=.own ob∨s=.bor ob)->∃ v L2 L',σ[i]?=some (some v)/\AQ K F H ob v L2/\NH K F H σ r u L'/\(L2++L').Nodup/\(∀ a∈L2++L',¬ F a/\¬ F.p a) /\
  ∀ ob' H' M,(∀ a,a∉L2->H a≠none->H' a=H a)->AQ K F H' ob' v M->M.Nodup->(∀ b∈M,b∈L2∨b∈L')->Okk K F B H' (fs.set i (some (s.put ob'))) σ/\Le F H F H':=by
  intro s es ho
  obtain ⟨v,L1,L2,L3,e1,rfl,h1,h2⟩:=h.sl.pick es
  obtain ⟨u',rfl,q⟩:∃ u,v=some u/\AQ K F H ob u L2:=by
   rcases ho with rfl | rfl
   ·exact h1
   ·exact h1
  have nd:=h.nd
  have dis:∀ a∈L1++L3,a∉L2:=fun a ha hb=>by
   rw [List.nodup_append] at nd
   rcases List.mem_append.mp ha with ha | ha
   ·exact nd.2.2 a ha a (List.mem_append_left _ hb) rfl
   ·have:=(List.nodup_append.mp nd.2.1).2.2
    exact this a hb a ha rfl
  have ndr':=List.nodup_append.mp ndr
  have dis':∀ a∈L1++L3,a∉L':=fun a ha hb=>ndr'.2.2 a (by
   rcases List.mem_append.mp ha with ha | ha
   ·simp [ha]
   ·simp [ha]) a hb rfl
  refine ⟨u',L2,L',e1,q,qr,?_,fun a m=>?_,fun ob' H' M k q' hm hsub=>?_⟩
  ·rw [List.nodup_append]
   refine ⟨?_,ndr'.2.1,fun a ha b hb=>ndr'.2.2 a (by simp [ha]) b hb⟩
   rw [List.nodup_append] at nd
   exact (List.nodup_append.mp nd.2.1).1
  ·rcases List.mem_append.mp m with m | m
   ·exact ⟨h.nf a (by simp [m]),h.pl a (by simp [m])⟩
   ·exact nfr a m
  ·have l:Le F H F H':=⟨fun a f=>⟨f,k a (fun m=>h.nf a (by simp [m]) f) (h.fd a f)⟩,fun a f=>⟨f,k a (fun m=>h.pl a (by simp [m]) f) (h.pd a f)⟩⟩
   have nfM:∀ a∈L1++(M++L3),¬ F a/\¬ F.p a:=fun a m=>by
    rcases List.mem_append.mp m with m | m
    ·exact ⟨h.nf a (by simp [m]),h.pl a (by simp [m])⟩
    ·rcases List.mem_append.mp m with m | m
     ·rcases hsub a m with z | z
      ·exact ⟨h.nf a (by simp [z]),h.pl a (by simp [z])⟩
      ·exact nfr a z
     ·exact ⟨h.nf a (by simp [m]),h.pl a (by simp [m])⟩
   refine ⟨⟨L1++(M++L3),?_,CK nd hm (fun a m m2=>?_),fun a m=>(nfM a m).1,fun a f=>by rw [(l.f a f).2];exact h.fd a f,?_,fun a f=>by rw [(l.p a f).2];exact h.pd a f,h.pf,fun a m=>(nfM a m).2⟩,l⟩
   ·have hL:∀ a∈L1++L3,H' a=H a:=fun a m=>k a (dis a m) (h.sl.def a (by
      rcases List.mem_append.mp m with m | m
      ·simp [m]
      ·simp [m]))
    have h3:=h2 F H' (some (s.put ob')) (some u') M l hL (by
     rcases ho with rfl | rfl
     ·exact ⟨u',rfl,q'⟩
     ·exact ⟨u',rfl,q'⟩)
    rwa [Ca e1] at h3
   ·rcases hsub a m with z | z
    ·exact dis a m2 z
    ·exact dis' a m2 z
   ·have:=GQ.put (i:=i) (s:=some (s.put ob')) (v:=some u') h.bo (fun o eo=>by
     rcases ho with rfl | rfl
     ·cases eo
     ·obtain ⟨w,e3,e4⟩:=h.bo i ob es
      rw [e1] at e3
      have e5:u'=w:=by simpa using e3
      exact ⟨u',rfl,by rw [e5];exact e4⟩) h.sl.len
    rwa [Ca e1] at this
 unfold A1 at e
 split at e
 ·rename_i o es
  cases e
  obtain ⟨v,L2,L',a1,a2,a3,a4,a5,a6⟩:=key _ es (.inl rfl)
  refine ⟨v,L2,L',a1,a2,a3,a4,a5,fun ob' H' M k q m1 m2=>?_⟩
  have:=a6 ob' H' M k q m1 m2
  unfold putAt
  rw [es]
  exact this
 ·rename_i o es
  cases e
  obtain ⟨v,L2,L',a1,a2,a3,a4,a5,a6⟩:=key _ es (.inr rfl)
  refine ⟨v,L2,L',a1,a2,a3,a4,a5,fun ob' H' M k q m1 m2=>?_⟩
  have:=a6 ob' H' M k q m1 m2
  unfold putAt
  rw [es]
  exact this
 ·cases e
end
def Xb:Rv->Option FO
 | .t t=>some (.val t)
 | .nw o=>some o
 | .rf _=>none
def Im:List Str->List FO->Str->FO->Option (List Str×List FO)
 | [],[],f,o=>some ([f],[o])
 | g :: gs,x :: os,f,o=>if g=f then (match x with
   | .val _=>some (g :: gs,o :: os)
   | _=>none) else (Im gs os f o).map fun p=>(g :: p.1,x :: p.2)
 | _,_,_,_=>none
theorem Ke {K:Fg} {F:Wd} {H:Hp} {f:Str} {o:FO} {y:V} {L':List Addr} (ro:AQ K F H o y L'):∀ {kvs:List (Str×V)} {os os':List FO} {gs':List Str} {L:List Addr},AM K F H os (kvs.map (·.2)) L->Im (kvs.map (·.1)) os f o=some (gs',os') ->
  ∃ M,(GW f y kvs).map (·.1)=gs'/\AM K F H os' ((GW f y kvs).map (·.2)) M/\(∀ a∈M,a∈L∨a∈L')/\((L++L').Nodup->M.Nodup)
 | [],os,os',gs',L,r,e=>by
  cases os with
  | cons x os=>simp [Im] at e
  | nil =>
   simp only [List.map_nil,Im,Option.some.injEq,Prod.mk.injEq] at e
   obtain ⟨rfl,rfl⟩:=e
   refine ⟨L',rfl,?_,fun a m=>.inr m,fun nd=>(List.nodup_append.mp nd).2.1⟩
   simp only [GW,List.map_cons,List.map_nil,AM]
   exact ⟨y,[],L',[],rfl,ro,⟨rfl,rfl⟩,by simp⟩
 | (g,x) :: kvs,os,os',gs',L,r,e=>by
  cases os with
  | nil=>simp [Im] at e
  | cons o1 os =>
   simp only [List.map_cons,AM] at r
   obtain ⟨v,w,L1,L2,ee,r1,r2,rfl⟩:=r
   cases ee
   simp only [List.map_cons,Im] at e
   by_cases hg:g=f
   ·rw [if_pos hg] at e
    cases o1 with
    | val t =>
     simp only [Option.some.injEq,Prod.mk.injEq] at e
     obtain ⟨rfl,rfl⟩:=e
     simp only [AQ] at r1
     obtain ⟨rfl,_⟩:=r1
     refine ⟨L'++L2,?_,?_,fun a m=>?_,fun nd=>?_⟩
     ·simp only [GW];rw [if_pos hg];rfl
     ·simp only [GW]
      rw [if_pos hg]
      simp only [List.map_cons,AM]
      exact ⟨y,_,L',L2,rfl,ro,r2,rfl⟩
     ·rcases List.mem_append.mp m with m | m
      ·exact .inr m
      ·exact .inl (by simpa using m)
     ·rw [List.nil_append] at nd
      exact (List.perm_append_comm).nodup_iff.mp nd
    | lst _=>cases e
    | dK _ _=>cases e
    | dT _ _=>cases e
    | ins _ _ _=>cases e
    | los _=>cases e
    | tpl _=>cases e
   ·rw [if_neg hg,Option.map_eq_some_iff] at e
    obtain ⟨p,ep,e⟩:=e
    simp only [Prod.mk.injEq] at e
    obtain ⟨rfl,rfl⟩:=e
    obtain ⟨M,m1,m2,m3,m4⟩:=Ke ro r2 (gs':=p.1) (os':=p.2) (by rw [ep])
    refine ⟨L1++M,?_,?_,fun a m=>?_,fun nd=>?_⟩
    ·simp only [GW];rw [if_neg hg,List.map_cons,m1]
    ·simp only [GW]
     rw [if_neg hg]
     simp only [List.map_cons,AM]
     exact ⟨x,_,L1,M,rfl,r1,m2,rfl⟩
    ·rcases List.mem_append.mp m with m | m
     ·exact .inl (List.mem_append_left _ m)
     ·rcases m3 a m with z | z
      ·exact .inl (List.mem_append_right _ z)
      ·exact .inr z
    ·rw [List.append_assoc,List.nodup_append] at nd
     rw [List.nodup_append]
     refine ⟨nd.1,m4 nd.2.1,fun a ha b hb e=>?_⟩
     rcases m3 b hb with z | z
     ·exact nd.2.2 a ha b (List.mem_append_left _ z) e
     ·exact nd.2.2 a ha b (List.mem_append_right _ z) e
def UP (C:Addr) (f:Str) (i:Nat) (fv:FS->Out Rv):FS->SO:=fun fs=>SO.of (fv fs) fun r fs=>match Xb r,A1 fs i with
 | some o,some (.ins C' gs os)=>if C'=C/\gs.length < 900 then (match Im gs os f o with
   | some p=>.nx (putAt fs i (.ins C p.1 p.2))
   | none=>.bad) else .bad
 | _,_=>.bad
theorem Pd {X:Cx} {Z:Xp} {x f:Str} {e:Expr} {fv:FS->Out Rv} {C:Addr} {p1 p2 pos:Pos} (c:Cls X.K C) (n:Ez X.K C f) (i:Nat) (he:FE X Z e fv)
  (h:∀ {tv:TE},PE X e tv->PS X (.Assign [.Attribute (.Name x p1) f p2] e pos) (Yy X.K (UY i) tv f)):GS X Z (.Assign [.Attribute (.Name x p1) f p2] e pos) (UP C f i fv):=by
 refine DC (h he) fun D σ H ⟨F,B,fs,ok,s⟩=>⟨F,B,fs,ok,C6 s fun r fs1 F1 H1 u l q s1=>?_⟩
 split at s1
 ·rename_i o C' gs os e1 e2
  split at s1
  ·rename_i hC
   obtain ⟨rfl,hl⟩:=hC
   split at s1
   ·rename_i p ep
    obtain ⟨v,L2,L',a1,a2,a3,a4,a5,a6⟩:=RR.put q e2
    simp only [AQ] at a2
    obtain ⟨a,dx,kvs,L3,rfl,hd,rfl,ro,rfl⟩:=a2
    have rfo:AQ X.K F1 H1 o u L':=by
     cases r with
     | t t =>
      cases e1
      simp only [AQ]
      exact a3
     | nw o'=>cases e1;exact a3
     | rf j=>cases e1
    obtain ⟨M,m1,m2,m3,m4⟩:=Ke rfo ro (gs':=p.1) (os':=p.2) (by rw [ep])
    have nd2:(L3++L').Nodup:=(List.nodup_cons.mp a4).2
    have na:a∉L3++L':=(List.nodup_cons.mp a4).1
    have naM:a∉M:=fun z=>na (by
     rcases m3 a z with z | z
     ·exact List.mem_append_left _ z
     ·exact List.mem_append_right _ z)
    have k1:∀ b,b∉a :: L3->H1 b≠none->(upd H1 a (.ins C' dx (GW f u kvs))) b=H1 b:=fun b hb _=>Aw fun z=>hb (by rw [z];simp)
    have l1:Le F1 H1 F1 (upd H1 a (.ins C' dx (GW f u kvs))):=⟨fun b f=>⟨f,Aw fun z=>(a5 a (by simp)).1 (z▸f)⟩,fun b f=>⟨f,Aw fun z=>(a5 a (by simp)).2 (z▸f)⟩⟩
    obtain ⟨ok',l'⟩:=a6 (.ins C' p.1 p.2) (upd H1 a (.ins C' dx (GW f u kvs))) (a :: M) k1 (by
     simp only [AQ]
     exact ⟨a,dx,_,M,rfl,AL,m1,AM.le l1 (fun b hb=>Aw fun z=>naM (z▸hb)) m2,rfl⟩) (List.nodup_cons.mpr ⟨naM,m4 nd2⟩) (fun b hb=>by
     rcases List.mem_cons.mp hb with z | z
     ·exact .inl (by rw [z];simp)
     ·rcases m3 b z with z | z
      ·exact .inl (List.mem_cons_of_mem _ z)
      ·exact .inr z)
    exact ⟨_,a1,a,C',dx,kvs,rfl,hd,c,n,by rw [List.length_map] at hl;omega,s1 F1 _ σ l' ok'⟩
   ·exact s1.elim
  ·exact s1.elim
 ·exact s1.elim
def Gu:List Str->List FO->Str->FO->List FO
 | g :: gs,x :: os,f,o=>if f == g then o :: os else x :: Gu gs os f o
 | _,os,_,_=>os
theorem J7 {K:Fg} {F:Wd} {H:Hp} {f:Str} {ks:List Key} {ts:List T}:∀ {kvs:List (Str×V)} {os:List FO} {L:List Addr},AM K F H os (kvs.map (·.2)) L->L.Nodup->EA (kvs.map (·.1)) os f=some (.dK ks ts) ->
  ∃ b dkvs,kvs.lookup f=some (.ref b)/\b∈L/\H b=some (.dK dkvs)/\dkvs.map (·.1)=ks/\Ag K F H ts (dkvs.map (·.2)) /\
   ∀ H' o',(∀ a∈L,a≠b->H' a=H a)->Le F H F H'->AQ K F H' o' (.ref b) [b]->AM K F H' (Gu (kvs.map (·.1)) os f o') (kvs.map (·.2)) L
 | [],os,L,r,nd,e=>by cases os <;> simp [EA] at e
 | (g,x) :: kvs,os,L,r,nd,e=>by
  cases os with
  | nil=>simp [EA] at e
  | cons o1 os =>
   simp only [List.map_cons,AM] at r
   obtain ⟨v,w,L1,L2,ee,r1,r2,rfl⟩:=r
   cases ee
   simp only [List.map_cons,EA] at e
   rw [List.lookup_cons]
   have nd':=List.nodup_append.mp nd
   cases hb:f == g with
   | true =>
    rw [hb] at e
    cases e
    simp only [AQ] at r1
    obtain ⟨b,dkvs,rfl,hd,rfl,rt,rfl⟩:=r1
    refine ⟨b,dkvs,rfl,by simp,hd,rfl,rt,fun H' o' k l ro=>?_⟩
    simp only [List.map_cons,Gu,hb,if_true,AM]
    refine ⟨.ref b,_,[b],L2,rfl,ro,AM.le l (fun a m=>k a (by simp [m]) fun z=>nd'.2.2 b (by simp) a m z.symm) r2,rfl⟩
   | false =>
    rw [hb] at e
    obtain ⟨b,dkvs,h1,h2,h3,h4,h5,h6⟩:=J7 r2 nd'.2.1 (by simpa using e)
    refine ⟨b,dkvs,h1,List.mem_append_right _ h2,h3,h4,h5,fun H' o' k l ro=>?_⟩
    have:=h6 H' o' (fun a m=>k a (List.mem_append_right _ m)) l ro
    simp only [List.map_cons,Gu,hb,AM]
    exact ⟨x,_,L1,L2,rfl,r1.le l fun a m=>k a (List.mem_append_left _ m) fun z=>nd'.2.2 a m b h2 z,this,rfl⟩
def Eg (C:Addr) (f:Str) (i j:Nat) (fv:FS->Out Rv):FS->SO:=fun fs=>SO.of (fv fs) fun r fs=>match r,A1 fs i,fs[j]? with
 | .t t,some (.ins C' gs os),some (some (.val y))=>if C'=C then (match EA gs os f,MU y with
   | some (.dK ks ts),some k=>if ks.length < big then .nx (putAt fs i (.ins C gs (Gu gs os f (.dK (Jj ks ts k t).1 (Jj ks ts k t).2)))) else .bad
   | _,_=>.bad) else .bad
 | _,_,_=>.bad
theorem JF {X:Cx} {Z:Xp} {x y f:Str} {e:Expr} {fv:FS->Out Rv} {C:Addr} {p1 p2 p3 p4 pos:Pos} (c:Cls X.K C) (n:Ez X.K C f) (i j:Nat) (he:FE X Z e fv)
  (h:∀ {tv:TE},PE X e tv->PS X (.Assign [.Subscript (.Attribute (.Name x p1) f p2) (.Name y p3) p4] e pos) (U8 (Yx X.K (UY i) f) (UY j) tv)) :
  GS X Z (.Assign [.Subscript (.Attribute (.Name x p1) f p2) (.Name y p3) p4] e pos) (Eg C f i j fv):=by
 refine DC (h he) fun D σ H ⟨F,B,fs,ok,s⟩=>⟨F,B,fs,ok,C6 s fun r fs1 F1 H1 u l q s1=>?_⟩
 split at s1
 ·rename_i t C' gs os y' e2 e3
  split at s1
  ·rename_i hC
   subst hC
   split at s1
   ·rename_i ks ts k e4 e5
    split at s1
    ·rename_i hl
     have rt:A3 X.K F1 H1 t u:=by obtain ⟨_,_,_,⟨_,q⟩,_⟩:=q;exact q
     have ok1:=q.ok
     obtain ⟨v,L2,a1,a2,a3,a4,a5⟩:=ok1.own e2
     simp only [AQ] at a2
     obtain ⟨a,dx,kvs,L3,rfl,hd,rfl,ro,rfl⟩:=a2
     have ndc:=List.nodup_cons.mp a4
     obtain ⟨b,dkvs,b1,b2,b3,rfl,b5,b6⟩:=J7 ro ndc.2 e4
     obtain ⟨L9,o9⟩:=id ok1
     obtain ⟨w,M1,M2,M3,e6,_,h1,_⟩:=o9.sl.pick e3
     obtain ⟨uy,rfl,ry,_⟩:=h1
     have:=Hj e5 ry
     subst this
     have hab:a≠b:=fun z=>ndc.1 (z▸b2)
     obtain ⟨h1,h2⟩:=Ji (j:=k) rt b5
     have nb:=a3 b (List.mem_cons_of_mem _ b2)
     have l1:Le F1 H1 F1 (upd H1 b (.dK (putK dkvs k u))):=⟨fun z f=>⟨f,Aw fun q=>nb.1 (q▸f)⟩,fun z f=>⟨f,Aw fun q=>nb.2 (q▸f)⟩⟩
     obtain ⟨ok',l'⟩:=a5 (.ins C' (kvs.map (·.1)) (Gu (kvs.map (·.1)) os f (.dK (Jj (dkvs.map (·.1)) ts k t).1 (Jj (dkvs.map (·.1)) ts k t).2))) (upd H1 b (.dK (putK dkvs k u))) (fun z hz _=>Aw fun q=>hz (by rw [q];exact List.mem_cons_of_mem _ b2)) (by
      simp only [AQ]
      refine ⟨a,dx,kvs,L3,rfl,by rw [Aw hab];exact hd,rfl,b6 _ _ (fun z _ hz=>Aw hz) l1 ?_,rfl⟩
      simp only [AQ]
      exact ⟨b,_,rfl,AL,h1,h2.le l1,rfl⟩)
     exact ⟨_,a1,a,C',dx,kvs,.ref b,rfl,hd,c,n,b1,kV k,e6,b,_,rfl,Qg.k b3 (by rw [List.length_map] at hl;exact Nat.lt_trans hl K7),s1 F1 _ σ l' ok'⟩
    ·exact s1.elim
   ·exact s1.elim
  ·exact s1.elim
 ·exact s1.elim
section
variable {X:Cx} {Z:Xp} {e:Expr} {es:List Expr} {fa:FS->Out (List Rv)} {pos p:Pos}
theorem Ey (hm:X.mg "len"=none) (ha:FA X Z (e :: es) fa) (hg:Gl X "len":=by rfl) (he:starEach (e :: es) X.env=(false,eval e X.env) :: starEach es X.env:=by rfl) (hpl:(backTo pos (starEach es X.env)).any (·.1)=false:=by rfl) :
  FE X Z (.Call (.Name "len" p) (e :: es) [] pos) (Am CO fa):=Gg (Ei.or WK (Ei.or Uv Uw)) (DU.orR KZ (DU.orR KY Nz)) hm PySem.boot_len ha hg (by decide) (by decide) he hpl
theorem Uj (hm:X.mg "min"=none) (ha:FA X Z (e :: es) fa) (hc:X.calm=true:=by rfl) (hg:Gl X "min":=by rfl) (he:starEach (e :: es) X.env=(false,eval e X.env) :: starEach es X.env:=by rfl) (hpl:(backTo pos (starEach es X.env)).any (·.1)=false:=by rfl) :
  FE X Z (.Call (.Name "min" p) (e :: es) [] pos) (Am KC fa):=Gg Ut (P0 hc) hm PyProof.Rows.boot_min ha hg (by decide) (by decide) he hpl
theorem Wt (hm:X.mg "sum"=none) (ha:FA X Z (e :: es) fa) (hc:X.calm=true:=by rfl) (hg:Gl X "sum":=by rfl) (he:starEach (e :: es) X.env=(false,eval e X.env) :: starEach es X.env:=by rfl) (hpl:(backTo pos (starEach es X.env)).any (·.1)=false:=by rfl) :
  FE X Z (.Call (.Name "sum" p) (e :: es) [] pos) (Am TZ fa):=Gg WJ (Rn hc) hm PyProof.Rows.boot_sum ha hg (by decide) (by decide) he hpl
theorem WD (hm:X.mg "all"=none) (ha:FA X Z (e :: es) fa) (hc:X.calm=true:=by rfl) (hg:Gl X "all":=by rfl) (he:starEach (e :: es) X.env=(false,eval e X.env) :: starEach es X.env:=by rfl) (hpl:(backTo pos (starEach es X.env)).any (·.1)=false:=by rfl) :
  FE X Z (.Call (.Name "all" p) (e :: es) [] pos) (Am Wm fa):=Gg WM (Rp hc) hm PyProof.Rows.boot_all ha hg (by decide) (by decide) he hpl
theorem Pw (hm:X.mg "list"=none) (ha:FA X Z (e :: es) fa) (hc:X.calm=true:=by rfl) (hg:Gl X "list":=by rfl) (he:starEach (e :: es) X.env=(false,eval e X.env) :: starEach es X.env:=by rfl) (hpl:(backTo pos (starEach es X.env)).any (·.1)=false:=by rfl) :
  FE X Z (.Call (.Name "list" p) (e :: es) [] pos) (Am Pg fa):=HZ (Ei.or Uu Rl) (DU.orR KW (Ie hc)) hm PyProof.Rows.boot_list ha hg (by decide) (by decide) he hpl
theorem Fd (hm:X.mg "tuple"=none) (ha:FA X Z (e :: es) fa) (hg:Gl X "tuple":=by rfl) (he:starEach (e :: es) X.env=(false,eval e X.env) :: starEach es X.env:=by rfl) (hpl:(backTo pos (starEach es X.env)).any (·.1)=false:=by rfl) :
  FE X Z (.Call (.Name "tuple" p) (e :: es) [] pos) (Am CN fa):=HZ Rk JQ hm PyProof.Rows.boot_tuple ha hg (by decide) (by decide) he hpl
theorem Px (hm:X.mg "int"=none) (ha:FA X Z (e :: es) fa) (hg:Gl X "int":=by rfl) (he:starEach (e :: es) X.env=(false,eval e X.env) :: starEach es X.env:=by rfl) (hpl:(backTo pos (starEach es X.env)).any (·.1)=false:=by rfl) :
  FE X Z (.Call (.Name "int" p) (e :: es) [] pos) (Am Hd fa):=HZ Ux P4 hm PyProof.Rows.boot_int ha hg (by decide) (by decide) he hpl
end
def Yz (f:FS->Out Rv):FS->Out Rv:=fun fs=>(f fs).bnd fun r fs=>match DN fs r with
 | some ts=>.ok (.nw (.lst ts.reverse)) fs
 | none=>.bad
theorem Nt {X:Cx} {Z:Xp} {a:Expr} {f:FS->Out Rv} {p1 p2 pos1 pos2:Pos} (hc:X.calm=true) (hm1:X.mg "list"=none) (hm2:X.mg "reversed"=none) (ha:FE X Z a f) (hg1:Gl X "list":=by rfl) (hg2:Gl X "reversed":=by rfl)
  (he:starEach [(.Call (.Name "reversed" p2) [a] [] pos2:Expr)] X.env=[(false,eval (.Call (.Name "reversed" p2) [a] [] pos2) X.env)]:=by rfl) (he2:starEach [a] X.env=[(false,eval a X.env)]:=by rfl) :
  FE X Z (.Call (.Name "list" p1) [.Call (.Name "reversed" p2) [a] [] pos2] [] pos1) (Yz f):=by
 refine Bo (M4 hc hm1 hm2 ha hg1 hg2 he he2) fun σ H Q ⟨F,B,fs,ok,s⟩=>⟨F,B,fs,ok,A6 s fun r fs1 F1 H1 u l ok1 rx s1=>?_⟩
 split at s1
 ·rename_i ts ets
  obtain ⟨a,vs,rfl,hs,q⟩:=Cf ok1 rx ets
  exact ⟨a,vs,rfl,hs,fun d hd=>s1 F1 _ (.ref d) (BJ ok1 hd) (RR.alloc ok1 hd (DV AL ((q.rev).le (BJ ok1 hd))))⟩
 ·exact s1.elim
def RP (K:Fg) (B:Nat->Option V) (σ:St):Wd->Hp->FS->Option Int->Option Int->Prop:=fun F H fs a b=>Okk K F B H fs σ/\b=a
def tP (K:Fg) (Z:Xp) (f:FS->Out (Option Int)):TO:=fun σ H Q=>∃ F B fs,Okk K F B H fs σ/\sat Z B (RP K B σ) F H (f fs) Q
def FP (X:Cx) (Z:Xp) (e:Option Expr) (f:FS->Out (Option Int)):Prop:=PO X e (tP X.K Z f)
theorem RN {X:Cx} {e:Option Expr} {t t':TO} (h:PO X e t) (i:∀ σ H Q,t' σ H Q->t σ H Q):PO X e t':=fun pins s σ H Q I q=>h pins s σ H Q I (i _ _ _ q)
def noP:FS->Out (Option Int):=fun fs=>.ok none fs
def D6 (f:FS->Out Rv):FS->Out (Option Int):=fun fs=>(f fs).bnd fun r fs=>match r with
 | .t (.int i)=>.ok (some i) fs
 | _=>.bad
def Qf (ts:List T) (lo hi:Option Int):List T:=(ts.drop (HT.sIx ts.length 0 lo)).take (HT.sIx ts.length ts.length hi - HT.sIx ts.length 0 lo)
theorem MB {K:Fg} {F:Wd} {H:Hp} {ts:List T} {vs:List V} {lo hi:Option Int} (r:Ag K F H ts vs):Ag K F H (Qf ts lo hi) (Sh vs lo hi):=by
 unfold Qf Sh
 rw [r.len]
 exact (r.drop _).take _
def W7:Rv->Option Int->Option Int->FS->Out Rv:=fun x lo hi fs=>match DN fs x with
 | some ts=>okT (.lst (Qf ts lo hi)) fs
 | none=>match x with
  | .t (.tup ts)=>okT (.tup (Qf ts lo hi)) fs
  | _=>.bad
def slF (f:FS->Out Rv) (l h:FS->Out (Option Int)):FS->Out Rv:=fun fs=>(f fs).bnd fun x fs=>(l fs).bind fun lo fs=>(h fs).bind fun hi fs=>W7 x lo hi fs
section
variable {X:Cx} {Z:Xp} {e:Expr} {lo hi:Option Expr} {f:FS->Out Rv} {l h:FS->Out (Option Int)} {pos p2:Pos}
theorem JK:FP X Z none noP:=RN SX fun σ H Q ⟨F,B,fs,ok,s⟩=>s F H none Le.refl ⟨ok,rfl⟩
theorem JJ (he:FE X Z e f):FP X Z (some e) (D6 f):=by
 refine RN (SW he) fun σ H Q ⟨F,B,fs,ok,s⟩=>⟨F,B,fs,ok,A6 s fun r fs1 F1 H1 u l ok1 rx s1=>?_⟩
 split at s1
 ·exact ⟨_,rx,s1 F1 H1 _ Le.refl ⟨ok1,rfl⟩⟩
 ·exact s1.elim
theorem Rb (he:FE X Z e f) (hl:FP X Z lo l) (hu:FP X Z hi h):FE X Z (.Subscript e (.Slice lo hi none p2) pos) (slF f l h):=by
 refine Bo (QH (SlR.or SQ (SlR.or U4 U5)) he hl hu) fun σ H Q ⟨F,B,fs,ok,s⟩=>⟨F,B,fs,ok,A6 s fun x fs1 F1 H1 u l1 ok1 rx s1=>⟨F1,B,fs1,ok1,A5 s1 fun lo fs2 F2 H2 lo' l2 q2 s2=>?_⟩⟩
 obtain ⟨ok2,rfl⟩:=q2
 refine ⟨F2,B,fs2,ok2,A5 s2 fun hi fs3 F3 H3 hi' l3 q3 s3=>?_⟩
 obtain ⟨ok3,rfl⟩:=q3
 have rx3:=(rx.le l2).le l3
 unfold W7 at s3
 split at s3
 ·rename_i ts e
  obtain ⟨a,vs,rfl,hs,r⟩:=Cf ok3 rx3 e
  exact .inl ⟨a,vs,rfl,hs,fun p hp=>s3 _ _ (.ref p) (Cb ok3 hp) (MW ok3 hp (MB r))⟩
 ·split at s3
  ·rename_i ts _
   obtain ⟨a,vs,rfl,hs,r⟩:=C5 (ts:=ts) rx3 rfl
   by_cases hw:HT.sIx ts.length 0 lo'=0/\HT.sIx ts.length ts.length hi'=ts.length
   ·refine .inr (.inr ⟨a,vs,rfl,hs,by rw [r.len];exact hw,s3 F3 H3 _ Le.refl (RR.of ok3 ?_)⟩)
    have e:Qf ts lo' hi'=ts:=by
     unfold Qf
     rw [hw.1,hw.2]
     simp
    rw [e]
    exact rx3
   ·exact .inr (.inl ⟨a,vs,rfl,hs,by rw [r.len];exact hw,fun p hp=>s3 _ _ (.ref p) (Cb ok3 hp) (Gw ok3 hp (MB r))⟩)
  ·exact s3.elim
end
def W9 (i:Nat) (f:FS->Out Rv):FS->SO:=fun fs=>match fs[i]? with
 | some (some (.val (.int a)))=>SO.of (f fs) fun r fs=>(match r with
  | .t (.int b)=>(match JY i (.t (.int (a+b))) fs with
   | some fs=>.nx fs
   | none=>.bad)
  | _=>.bad)
 | _=>.bad
theorem We {X:Cx} {Z:Xp} {x:Str} {e:Expr} {f:FS->Out Rv} {pos pos':Pos} (i:Nat) (hN:X.N.Nodup) (hx:Loc X.env.scope x) (he:FE X Z e f) (hi:X.N[i]?=some x:=by rfl)
  (hf:X.fn x=true∨X.env.scope.names.lookup x=some .local:=by first | exact .inl rfl | exact .inr rfl | assumption):GS X Z (.AugAssign (.Name x pos') .Add e pos) (W9 i f):=by
 refine DC (Of hN hi hx he V4 hf) fun D σ H ⟨F,B,fs,ok,s⟩=>?_
 unfold W9 at s
 split at s
 ·rename_i a ea
  obtain ⟨L,o⟩:=id ok
  obtain ⟨v,L1,L2,L3,e1,_,h1,_⟩:=o.sl.pick ea
  obtain ⟨u,rfl,q,_⟩:=h1
  refine ⟨u,e1,F,B,fs,ok,C6 s fun r fs1 F1 H1 y l q1 s1=>?_⟩
  split at s1
  ·rename_i b
   obtain ⟨L,L',o1,⟨_,qb⟩,_⟩:=q1
   split at s1
   ·rename_i fs2 e2
    exact ⟨a,b,q,qb,s1 F1 H1 _ Le.refl (Hw (RR.of (r:=.t (.int (a+b))) ⟨L,o1⟩ rfl) e2)⟩
   ·exact s1.elim
  ·exact s1.elim
 ·exact s.elim
def W0:T->Option (List T)
 | .lst ts=>some ts
 | .scr ts=>some ts
 | .tup ts=>some ts
 | _=>none
def pairs:List T->List T->List T
 | x :: xs,y :: ys=>.tup [x,y] :: pairs xs ys
 | _,_=>[]
theorem pairs_at:∀ {xs ys:List T} {i:Nat} {t:T},(pairs xs ys)[i]?=some t->∃ x y,xs[i]?=some x/\ys[i]?=some y/\t=.tup [x,y]
 | [],_,i,t,h=>by simp [pairs] at h
 | _ :: _,[],i,t,h=>by simp [pairs] at h
 | x :: xs,y :: ys,0,t,h=>by
  simp only [pairs,List.getElem?_cons_zero,Option.some.injEq] at h
  exact ⟨x,y,rfl,rfl,h.symm⟩
 | x :: xs,y :: ys,i+1,t,h=>by
  simp only [pairs,List.getElem?_cons_succ] at h
  simpa using pairs_at h
theorem pairs_len:∀ {xs ys:List T} {i:Nat},(pairs xs ys).length<=i->xs.length<=i∨ys.length<=i
 | [],_,i,h=>.inl (by simp)
 | _ :: _,[],i,h=>.inr (by simp)
 | x :: xs,y :: ys,0,h=>by simp [pairs] at h
 | x :: xs,y :: ys,i+1,h=>by
  simp only [pairs,List.length_cons,Nat.add_le_add_iff_right] at h
  simpa using pairs_len h
theorem N5 {K:Fg} {F:Wd} {H:Hp} {t:T} {ts:List T} {u:V} (r:A3 K F H t u) (e:W0 t=some ts):∃ b a vs,u=.ref a/\Ag K F H ts vs/\∀ (F':Wd) (H':Hp),(∀ a,F a->F' a/\H' a=H a)->SqB b K H' a vs:=by
 unfold W0 at e
 split at e
 ·cases e
  simp only [A3] at r
  obtain ⟨a,vs,rfl,f,hs,r⟩:=r
  exact ⟨false,a,vs,rfl,r,fun F' H' l=>SqL.of ((l a f).2.trans hs)⟩
 ·cases e
  simp only [A3] at r
  obtain ⟨a,vs,rfl,hs,r⟩:=r
  exact ⟨false,a,vs,rfl,r,fun F' H' l=>(StL.lf l hs).sq⟩
 ·cases e
  simp only [A3] at r
  obtain ⟨a,vs,rfl,hs,r⟩:=r
  exact ⟨true,a,vs,rfl,r,fun F' H' l=>SqT.of ((l a hs.2.1).2.trans hs.2.2)⟩
 ·cases e
def itZ (f g:FS->Out Rv):FS->Out (List T):=fun fs=>(f fs).bnd fun r fs=>(g fs).bnd fun r' fs=>match r,r' with
 | .t x,.t y=>match W0 x,W0 y with
  | some xs,some ys=>.ok (pairs xs ys) fs
  | _,_=>.bad
 | _,_=>.bad
theorem TK {K:Fg} {F:Wd} {H:Hp} {b1 b2:Bool} {a1 a2:Addr} {vs ws:List V} {xs ys:List T} (h1:∀ (F':Wd) (H':Hp),(∀ a,F a->F' a/\H' a=H a)->SqB b1 K H' a1 vs) (h2:∀ (F':Wd) (H':Hp),(∀ a,F a->F' a/\H' a=H a)->SqB b2 K H' a2 ws)
  (r1:Ag K F H xs vs) (r2:Ag K F H ys ws):JOk K F H (Itz K b1 a1 b2 a2) (pairs xs ys):=by
 intro F' H' l ⟨B,fs,σ,ok⟩ i
 have q1:=Ag.lf l r1
 have q2:=Ag.lf l r2
 refine ⟨fun t et=>?_,fun hl=>⟨vs,ws,h1 F' H' l,h2 F' H' l,by rw [r1.len,r2.len];exact pairs_len hl⟩⟩
 obtain ⟨x,y,ex,ey,rfl⟩:=pairs_at et
 obtain ⟨v,ev,rv⟩:=q1.at ex
 obtain ⟨w,ew,rw'⟩:=q2.at ey
 refine ⟨⟨vs,ws,v,w,h1 F' H' l,h2 F' H' l,ev,ew⟩,fun z H'' hy=>?_⟩
 obtain ⟨T,vx,vy,hn,rfl,rfl,g1,g2⟩:=hy
 have e1:=g1 vs (h1 F' H' l)
 have e2:=g2 ws (h2 F' H' l)
 rw [ev] at e1
 rw [ew] at e2
 cases e1
 cases e2
 refine ⟨UH F' T,⟨Cb ok hn,fun B fs σ k=>k.alloc hn⟩,?_⟩
 simp only [A3]
 exact ⟨T,[v,w],rfl,⟨rfl,.inr rfl,AL⟩,by
  simp only [Ag]
  exact ⟨v,[w],rfl,rv.le (Cb ok hn),w,[],rfl,rw'.le (Cb ok hn),rfl⟩⟩
theorem Ws {X:Cx} {Z:Xp} {a b:Expr} {fa fb:FS->Out Rv} {p pos tpos:Pos} {elts:List Expr} {k0:Nat} (hm:X.mg "zip"=none) (ha:FE X Z a fa) (hb:FE X Z b fb) (hg:Gl X "zip":=by rfl)
  (hs:starEach [a,b] X.env=[(false,eval a X.env),(false,eval b X.env)]:=by rfl) (hs2:starEach [b] X.env=[(false,eval b X.env)]:=by rfl):FI X Z (.Tuple elts k0 tpos) (.Call (.Name "zip" p) [a,b] [] pos) (itZ fa fb):=by
 refine Ma (Vm hg hm (El ha (El hb GX hs2) (by rw [hs,hs2])) hs hs2) fun σ H Q ⟨F,B,fs,ok,s⟩=>?_
 refine ⟨F,B,fs,ok,A6 s fun r fs1 F1 H1 u l1 ok1 rx s1=>⟨F1,B,fs1,ok1,A6 s1 fun r' fs2 F2 H2 u' l2 ok2 ry s2=>?_⟩⟩
 split at s2
 ·rename_i x y
  split at s2
  ·rename_i xs ys e1 e2
   obtain ⟨b1,a1,vs,rfl,q1,h1⟩:=N5 (A3.le l2 rx) e1
   obtain ⟨b2,a2,ws,rfl,q2,h2⟩:=N5 ry e2
   exact ⟨b1,a1,b2,a2,rfl,⟨vs,h1 F2 H2 fun _ f=>⟨f,rfl⟩⟩,⟨ws,h2 F2 H2 fun _ f=>⟨f,rfl⟩⟩,s2 F2 H2 _ Le.refl ⟨ok2,TK h1 h2 q1 q2⟩⟩
  ·exact s2.elim
 ·exact s2.elim
def tyT:T->Option String
 | .non=>some "NoneType"
 | .bl _=>some "bool"
 | .int _=>some "int"
 | .str _=>some "str"
 | .tup _=>some "tuple"
 | .lst _=>some "list"
 | .dT _ _=>some "dict"
 | _=>none
def Jc:List String:=["NoneType","bool","int","str","tuple","list","dict"]
def SK (t T:String):Bool:=t == T || (t == "bool" && T == "int")
def Kit (K:Fg) (T:String):Prop:=∀ t,t∈Jc->PySem.W.kitOne K (.type t) (.type T)=some (SK t T)
theorem UU {K:Fg} {F:Wd} {H:Hp} {t:T} {u:V} {n:String} (r:A3 K F H t u) (e:tyT t=some n):MM K H u (.type n)/\n∈Jc:=by
 cases t <;> simp only [tyT,Option.some.injEq,reduceCtorEq] at e <;> (try subst e) <;> (try simp only [A3] at r)
 ·subst r;exact ⟨.non,by decide⟩
 ·subst r;exact ⟨.bl _,by decide⟩
 ·subst r;exact ⟨.int _,by decide⟩
 ·subst r;exact ⟨.str _,by decide⟩
 ·obtain ⟨a,vs,rfl,hs,_⟩:=r;exact ⟨.tup hs.2.2,by decide⟩
 ·obtain ⟨a,vs,rfl,f,hs,_⟩:=r;exact ⟨.lst hs,by decide⟩
 ·obtain ⟨a,kvs,rfl,f,hs,_⟩:=r;exact ⟨.dT hs,by decide⟩
def isF (T:String) (f:FS->Out Rv):FS->Out Rv:=fun fs=>(f fs).bnd fun r fs=>match r with
 | .t t=>match tyT t with
  | some n=>.ok (.t (.bl (SK n T))) fs
  | none=>.bad
 | _=>.bad
theorem Ge {X:Cx} {Z:Xp} {a:Expr} {f:FS->Out Rv} {p p2 pos:Pos} {x:Str} {T:String} (k:Kit X.K T) (hb:bootBuiltins x=some (.type T)) (hm:X.mg "isinstance"=none) (hm2:X.mg x=none) (ha:FE X Z a f) (hg:Gl X "isinstance":=by rfl) (hg2:Gl X x:=by rfl)
  (hn:x≠"__name__":=by decide) (hdb:(x == ("__debug__":Str))=false:=by decide)
  (hs:starEach [a,.Name x p2] X.env=(false,eval a X.env) :: starEach [.Name x p2] X.env:=by rfl) (hs2:starEach [.Name x p2] X.env=[(false,eval (.Name x p2) X.env)]:=by rfl) (hpl:(backTo pos (starEach [.Name x p2] X.env)).any (·.1)=false:=by rfl) :
  FE X Z (.Call (.Name "isinstance" p) [a,.Name x p2] [] pos) (isF T f):=by
 refine Bo (Me (LO T) hg hm PyProof.Rows.boot_isinstance (El ha (El (S8 (v:=.ty T) hg2 hm2 hb rfl hn hdb) GX hs2) hs) (by decide) (by decide) hs hpl) fun σ H Q ⟨F,B,fs,ok,s⟩=>?_
 refine ⟨F,B,fs,ok,A6 s fun r fs1 F1 H1 u l1 ok1 rx s1=>?_⟩
 split at s1
 ·rename_i t
  split at s1
  ·rename_i n e
   obtain ⟨ty,mem⟩:=UU rx e
   exact ⟨u,_,_,rfl,ty,k n mem,s1 F1 H1 _ Le.refl (RR.of ok1 rfl)⟩
  ·exact s1.elim
 ·exact s1.elim
section
variable {K:Fg}
theorem OO:Kit K "str":=fun t h=>by simp only [Jc,List.mem_cons,List.not_mem_nil,or_false] at h;rcases h with rfl | rfl | rfl | rfl | rfl | rfl | rfl <;> rfl
theorem kit_tuple:Kit K "tuple":=fun t h=>by simp only [Jc,List.mem_cons,List.not_mem_nil,or_false] at h;rcases h with rfl | rfl | rfl | rfl | rfl | rfl | rfl <;> rfl
end
def orM (g g':Rv->List Rv->FS->Out Rv):Rv->List Rv->FS->Out Rv:=fun x rs fs=>match g x rs fs with
 | .bad=>g' x rs fs
 | o=>o
theorem MtF.or {K:Fg} {Z:Xp} {r r':V->List V->Hp->VK->Prop} {g g':Rv->List Rv->FS->Out Rv} (h:MtF K Z r g) (h':MtF K Z r' g'):MtF K Z (W4 r r') (orM g g'):=by
 intro F B H σ fs x rs u vs Q ok rx q s
 unfold orM at s
 cases e:g x rs fs with
 | ok a t=>rw [e] at s;exact .inl (h F B H σ fs x rs u vs Q ok rx q (by rw [e];exact s))
 | exc c t=>rw [e] at s;exact .inl (h F B H σ fs x rs u vs Q ok rx q (by rw [e];exact s))
 | bad=>rw [e] at s;exact .inr (h' F B H σ fs x rs u vs Q ok rx q s)
def T8:Rv->List Rv->FS->Out Rv
 | .rf i,[.t (.tup us)],fs=>match A1 fs i with
  | some (.lst ts)=>if ts.length+us.length<=big then .ok (.t .non) (putAt fs i (.lst (ts++us))) else .bad
  | _=>.bad
 | _,_,_=>.bad
theorem Tz {K:Fg} {Z:Xp}:MtF K Z (Qy K) T8:=by
 intro F B H σ fs x rs u vs Q ok rx q s
 unfold T8 at s
 split at s
 ·rename_i i ws
  obtain ⟨v,rfl,qq⟩:=Cg q
  have q:=qq
  split at s
  ·rename_i ts e
   split at s
   ·rename_i hl
    obtain ⟨a,us,rfl,hs,r,k⟩:=ok.list rx e
    simp only [DF,A3] at q
    obtain ⟨b,zs,rfl,hb,rz⟩:=q
    obtain ⟨ok',l⟩:=k _ _ (r.app rz)
    exact ⟨a,b,us,zs,rfl,rfl,hs,hb.sq,by rw [r.len,rz.len];exact Nat.le_trans hl DT,s F _ _ l (RR.of ok' rfl)⟩
   ·exact s.elim
  ·exact s.elim
 ·exact s.elim
def Lz:=orM Wi T8
theorem Tw {K:Fg} {Z:Xp}:MtF K Z (W4 Jh (Qy K)) Lz:=MtF.or VN Tz
theorem Tu {X:Cx}:MtR X "list.extend" (W4 Jh (Qy X.K)):=MtR.orR OF Tv
section
variable {X:Cx} {Z:Xp} {o e f:Expr} {fo fk fd:FS->Out Rv} {apos cpos:Pos}
end
def Ht:T->Option (List T)
 | .tup ts=>some ts
 | _=>none
theorem Qn {t:T} {ts:List T} (e:Ht t=some ts):t=.tup ts:=by
 cases t <;> first | (cases e;rfl) | cases e
def IU (f:T->T->Option Bool):List T->List T->Option Bool
 | x :: xs,y :: ys=>(f x y).bind fun b=>(IU f xs ys).map (b && ·)
 | _,_=>some true
def eqT:Nat->T->T->Option Bool
 | 0,x,y=>(plV x).bind fun u=>(plV y).map (eqV u)
 | n+1,x,y=>match Ht x with
  | some xs=>match Ht y with
   | some ys=>(IU (eqT n) xs ys).map (· && xs.length == ys.length)
   | none=>(plV y).map fun _=>false
  | none=>match Ht y with
   | some _=>(plV x).map fun _=>false
   | none=>(plV x).bind fun u=>(plV y).map (eqV u)
def eAt (f:T->T->Option Bool) (xs ys:List T) (j:Nat):Bool:=(f (xs.getD j .non) (ys.getD j .non)).getD false
theorem Ff {f:T->T->Option Bool}:∀ {xs ys:List T} {b:Bool},IU f xs ys=some b->b=(List.range (min xs.length ys.length)).all (eAt f xs ys)
 | [],_,_,e=>by cases e;simp
 | _ :: _,[],_,e=>by cases e;simp
 | x :: xs,y :: ys,b,e=>by
  simp only [IU,Option.bind_eq_some_iff,Option.map_eq_some_iff] at e
  obtain ⟨c,e1,d,e2,rfl⟩:=e
  have ih:=Ff e2
  rw [List.length_cons,List.length_cons,Nat.succ_min_succ,List.range_succ_eq_map,List.all_cons,List.all_map,ih]
  have h0:eAt f (x :: xs) (y :: ys) 0=c:=by simp [eAt,e1]
  rw [h0]
  congr 1
theorem LF {f:T->T->Option Bool}:∀ {xs ys:List T} {b:Bool},IU f xs ys=some b->∀ (j:Nat) (x y:T),xs[j]?=some x->ys[j]?=some y->f x y=some (eAt f xs ys j)
 | [],_,_,e=>by intro j x y h;simp at h
 | _ :: _,[],_,e=>by intro j x y _ h;simp at h
 | x :: xs,y :: ys,b,e=>by
  simp only [IU,Option.bind_eq_some_iff,Option.map_eq_some_iff] at e
  obtain ⟨c,e1,d,e2,rfl⟩:=e
  intro j x' y' h1 h2
  cases j with
  | zero =>
   simp only [List.getElem?_cons_zero,Option.some.injEq] at h1 h2
   subst h1 h2
   simp [eAt,e1]
  | succ j =>
   rw [List.getElem?_cons_succ] at h1 h2
   have:=LF e2 _ _ _ h1 h2
   rw [this]
   simp [eAt]
theorem Rg {v:V} (h:FH v=true):eqV v v=true:=by
 cases v <;> first | rfl | (simp [eqV];done) | (simp [FH] at h)
theorem RQ {K:Fg} {F:Wd} {H:Hp} {x y:T} {v:V} {b:Bool} (rx:A3 K F H x v) (ry:A3 K F H y v) (e:((plV x).bind fun u=>(plV y).map (eqV u))=some b):b=true:=by
 simp only [Option.bind_eq_some_iff,Option.map_eq_some_iff] at e
 obtain ⟨u,e1,w,e2,rfl⟩:=e
 have h1:=C8 e1 rx
 have h2:=C8 e2 ry
 subst h1 h2
 exact Rg (DW e1)
theorem Kh {K:Fg} {F:Wd} {H:Hp} {x:T} {v u:V} {a:Addr} (e:plV x=some u) (r:A3 K F H x v):v≠.ref a:=by
 have h1:=C8 e r
 subst h1
 have:=DW e
 intro h
 subst h
 cases this
theorem D5 {K:Fg} {F:Wd} {H:Hp} {t:T} {ts:List T} {v:V} (e:Ht t=some ts) (r:A3 K F H t v):∃ a vs,v=.ref a/\StT K F H a vs/\Ag K F H ts vs:=by
 cases Qn e
 simpa only [A3] using r
theorem MA {K:Fg} {F:Wd} {H:Hp}:∀ {n:Nat} {x y:T} {v:V} {b:Bool},eqT n x y=some b->A3 K F H x v->A3 K F H y v->b=true
 | 0,x,y,v,b,e,rx,ry=>RQ rx ry e
 | n+1,x,y,v,b,e,rx,ry=>by
  unfold eqT at e
  cases e1:Ht x with
  | none =>
   rw [e1] at e
   cases e2:Ht y with
   | none=>rw [e2] at e;exact RQ rx ry e
   | some ys =>
    rw [e2] at e
    obtain ⟨a,vs,rfl,_⟩:=D5 e2 ry
    obtain ⟨u,e3,_⟩:=Option.map_eq_some_iff.mp e
    exact absurd rfl (Kh e3 rx)
  | some xs =>
   rw [e1] at e
   obtain ⟨a,vs,rfl,sx,rxs⟩:=D5 e1 rx
   cases e2:Ht y with
   | none =>
    rw [e2] at e
    obtain ⟨u,e3,_⟩:=Option.map_eq_some_iff.mp e
    exact absurd rfl (Kh e3 ry)
   | some ys =>
    rw [e2] at e
    obtain ⟨a',vs',ea,sy,rys⟩:=D5 e2 ry
    cases ea
    have hv:vs=vs':=by
     have:=sx.2.2.symm.trans sy.2.2
     injection this with this
     injection this
    subst hv
    obtain ⟨c,e3,rfl⟩:=Option.map_eq_some_iff.mp e
    have hl:xs.length=ys.length:=by rw [<- rxs.len,<- rys.len]
    rw [Bool.and_eq_true]
    refine ⟨?_,by simp [hl]⟩
    rw [Ff e3,List.all_eq_true]
    intro j hj
    rw [List.mem_range] at hj
    have h1:j < xs.length:=by omega
    have h2:j < ys.length:=by omega
    have g1:xs[j]?=some xs[j]:=List.getElem?_eq_getElem h1
    have g2:ys[j]?=some ys[j]:=List.getElem?_eq_getElem h2
    obtain ⟨v1,q1,r1⟩:=rxs.at g1
    obtain ⟨v2,q2,r2⟩:=rys.at g2
    have:v1=v2:=by rw [q1] at q2;injection q2
    subst this
    exact MA (LF e3 _ _ _ g1 g2) r1 r2
section
variable {X:Cx} {pins:List (Addr×Obj)} {σ:St} {H:Hp} {s:Shared} {F:Wd}
theorem My {A:Around} {l:Addr} {items:Array Value} {y:V} {u:Value} (hl:s.heap.IsTuple l items) (hu:A.units < cLine) (ry:RelV y u) (fy:FH y=true) :
  SeqAt.EqAt A s (.ref l) u false/\SeqAt.EqAt A s u (.ref l) false/\SeqAt.RcAt A s (.ref l) u false/\SeqAt.RcAt A s u (.ref l) false:=by
 cases y with
 | non=>cases ry;exact ⟨.tuple_none hl hu,.none_tuple hl hu,.tuple_none hl hu,.none_tuple hl hu⟩
 | bl b=>cases ry;exact ⟨.tuple_bool _ hl hu,.bool_tuple _ hl hu,.tuple_bool _ hl hu,.bool_tuple _ hl hu⟩
 | int b=>obtain ⟨t,rfl⟩:=ry;exact ⟨.tuple_int _ _ hl hu,.int_tuple _ _ hl hu,.tuple_int _ _ hl hu,.int_tuple _ _ hl hu⟩
 | str b=>obtain ⟨t,rfl⟩:=ry;exact ⟨.tuple_str _ _ hl hu,.str_tuple _ _ hl hu,.tuple_str _ _ hl hu,.str_tuple _ _ hl hu⟩
 | _=>cases fy
theorem L8 {A:Around} {x y:T} {v w:V} {u u':Value} {b:Bool} (rx:A3 X.K F H x v) (ry:A3 X.K F H y w) (qx:RelV v u) (qy:RelV w u') (e:((plV x).bind fun u=>(plV y).map (eqV u))=some b):SeqAt.EqAt A s u u' b:=by
 simp only [Option.bind_eq_some_iff,Option.map_eq_some_iff] at e
 obtain ⟨p,e1,q,e2,rfl⟩:=e
 have h1:=C8 e1 rx
 have h2:=C8 e2 ry
 subst h1 h2
 exact Sf qx qy (DW e1) (DW e2)
theorem items_eqAt {A:Around} {xs ys:List T} {vs ws:List V} {us us':List Value} {f:T->T->Option Bool} {b:Bool} (e:IU f xs ys=some b) (rx:Ag X.K F H xs vs) (ry:Ag X.K F H ys ws) (qx:Vals vs us) (qy:Vals ws us')
  (ih:∀ {x y:T} {v w:V} {u u':Value} {b:Bool},f x y=some b->A3 X.K F H x v->A3 X.K F H y w->RelV v u->RelV w u'->SeqAt.EqAt A s u u' b) :
  ∀ j (h1:j < us.toArray.size) (h2:j < us'.toArray.size),SeqAt.EqAt A s us.toArray[j] us'.toArray[j] (eAt f xs ys j):=by
 intro j h1 h2
 have l1:=rx.len
 have l2:=ry.len
 have l3:=qx.length
 have l4:=qy.length
 rw [List.size_toArray] at h1 h2
 have g1:xs[j]?=some (xs[j]'(by omega)):=List.getElem?_eq_getElem (by omega)
 have g2:ys[j]?=some (ys[j]'(by omega)):=List.getElem?_eq_getElem (by omega)
 obtain ⟨v,q1,r1⟩:=rx.at g1
 obtain ⟨w,q2,r2⟩:=ry.at g2
 obtain ⟨u,p1,o1⟩:=qx.get q1
 obtain ⟨u',p2,o2⟩:=qy.get q2
 rw [List.getElem?_eq_getElem h1] at p1
 rw [List.getElem?_eq_getElem h2] at p2
 injection p1 with p1
 injection p2 with p2
 rw [show us.toArray[j]=us[j] by simp,show us'.toArray[j]=us'[j] by simp,p1,p2]
 exact ih (LF e _ _ _ g1 g2) r1 r2 o1 o2
theorem PC (I:Inv X pins σ H s):∀ {n:Nat} {A:Around} {x y:T} {v w:V} {u u':Value} {b:Bool},A.units+n < cLine->eqT n x y=some b->A3 X.K F H x v->A3 X.K F H y w->RelV v u->RelV w u'->SeqAt.EqAt A s u u' b
 | 0,A,x,y,v,w,u,u',b,hu,e,rx,ry,qx,qy=>L8 rx ry qx qy e
 | n+1,A,x,y,v,w,u,u',b,hu,e,rx,ry,qx,qy=>by
  have e0:=e
  unfold eqT at e
  cases e1:Ht x with
  | none =>
   rw [e1] at e
   cases e2:Ht y with
   | none=>rw [e2] at e;exact L8 rx ry qx qy e
   | some ys =>
    rw [e2] at e
    obtain ⟨a,vs,rfl,st,_⟩:=D5 e2 ry
    obtain ⟨p,e3,rfl⟩:=Option.map_eq_some_iff.mp e
    have h1:=C8 e3 rx
    subst h1
    cases qy
    obtain ⟨its,_,ht,_⟩:=I.tuple st.sq
    exact (My ht (by omega) qx (DW e3)).2.1
  | some xs =>
   rw [e1] at e
   obtain ⟨a,vs,rfl,sx,rxs⟩:=D5 e1 rx
   cases qx
   obtain ⟨its,vx,ht,_⟩:=I.tuple sx.sq
   cases e2:Ht y with
   | none =>
    rw [e2] at e
    obtain ⟨p,e3,rfl⟩:=Option.map_eq_some_iff.mp e
    have h1:=C8 e3 ry
    subst h1
    exact (My ht (by omega) qy (DW e3)).1
   | some ys =>
    rw [e2] at e
    obtain ⟨a',vs',rfl,sy,rys⟩:=D5 e2 ry
    cases qy
    obtain ⟨its',vx',ht',_⟩:=I.tuple sy.sq
    by_cases hab:a=a'
    ·subst hab
     rw [MA e0 rx ry]
     exact SeqAt.EqAt.same _
    ·obtain ⟨c,e3,rfl⟩:=Option.map_eq_some_iff.mp e
     have l1:its.length=xs.length:=by rw [<- vx.length,rxs.len]
     have l2:its'.length=ys.length:=by rw [<- vx'.length,rys.len]
     have:=SeqAt.RcAt.tuples ht ht' (A:=A) (by omega) (items_eqAt e3 rxs rys vx vx' (fun h r1 r2 o1 o2=>PC I (n:=n) (A:=A.in1) (by show A.units+1+n < _;omega) h r1 r2 o1 o2))
     rw [List.size_toArray,List.size_toArray,l1,l2,<- Ff e3] at this
     exact SeqAt.EqAt.of_refs hab this
end
def eqB (neg:Bool) (xs ys:List T) (fs:FS):Out Rv:=match IU (eqT 60) xs ys with
 | some b=>okT (.bl (if neg then !(b && xs.length == ys.length) else (b && xs.length == ys.length))) fs
 | none=>.bad
def Mw (neg:Bool):Rv->Rv->FS->Out Rv:=fun x y fs=>match N4 x with
 | some xs=>match N4 y with
  | some ys=>eqB neg xs ys fs
  | none=>.bad
 | none=>match DN fs x with
  | some xs=>match DN fs y with
   | some ys=>eqB neg xs ys fs
   | none=>.bad
  | none=>.bad
def EqS (X:Cx) (neg:Bool) (H:Hp) (x y:V) (b:Bool):Prop:=∀ (pins:List (Addr×Obj)) (σ:St) (s:Shared) (u w:Value),Inv X pins σ H s->RelV x u->RelV y w ->
 if neg then SeqAt.RcNeAt X.A s u w (!b) else SeqAt.RcAt X.A s u w b
def Xu (X:Cx) (neg:Bool):R2:=fun x y H Q=>∃ b,EqS X neg H x y b/\Q (.bl (if neg then !b else b)) H
theorem Vy {X:Cx}:OpR X (compareOp .Eq) (Xu X false):=by
 intro pins s σ H x y v u Q I rx ry h
 obtain ⟨b,e,q⟩:=h
 have e:SeqAt.RcAt X.A s v u b:=e pins σ s v u I rx ry
 exact e X.prog X.w X.xe _ ⟨.bl b,H,I,rfl,q⟩
theorem Vw {X:Cx}:OpR X (compareOp .NotEq) (Xu X true):=by
 intro pins s σ H x y v u Q I rx ry h
 obtain ⟨b,e,q⟩:=h
 have e:SeqAt.RcNeAt X.A s v u (!b):=e pins σ s v u I rx ry
 exact e X.prog X.w X.xe _ ⟨.bl (!b),H,I,rfl,q⟩
theorem Um {X:Cx} {neg:Bool} {F:Wd} {H:Hp} {a a':Addr} {xs ys:List T} {vs ws:List V} {b:Bool} (hu:X.A.units+61 < cLine) (e:IU (eqT 60) xs ys=some b) (sx:SqT X.K H a vs) (sy:SqT X.K H a' ws) (rx:Ag X.K F H xs vs) (ry:Ag X.K F H ys ws) :
  EqS X neg H (.ref a) (.ref a') (b && xs.length == ys.length):=by
 intro pins σ s u w I qx qy
 cases qx
 cases qy
 obtain ⟨its,vx,ht,_⟩:=I.tuple sx
 obtain ⟨its',vx',ht',_⟩:=I.tuple sy
 have l1:its.length=xs.length:=by rw [<- vx.length,rx.len]
 have l2:its'.length=ys.length:=by rw [<- vx'.length,ry.len]
 have he:=items_eqAt (s:=s) (A:=X.A.in1) e rx ry vx vx' (fun h r1 r2 o1 o2=>PC I (n:=60) (A:=X.A.in1) (by show X.A.units+1+60 < _;omega) h r1 r2 o1 o2)
 cases neg with
 | false =>
  have:=SeqAt.RcAt.tuples ht ht' (A:=X.A) (by omega) he
  rw [List.size_toArray,List.size_toArray,l1,l2,<- Ff e] at this
  exact this
 | true =>
  have:=SeqAt.RcNeAt.tuples ht ht' (A:=X.A) (by omega) he
  rw [List.size_toArray,List.size_toArray,l1,l2,<- Ff e] at this
  exact this
theorem Uo {X:Cx} {neg:Bool} {F:Wd} {H:Hp} {a a':Addr} {xs ys:List T} {vs ws:List V} {b:Bool} (hu:X.A.units+61 < cLine) (e:IU (eqT 60) xs ys=some b) (sx:SqL X.K H a vs) (sy:SqL X.K H a' ws) (rx:Ag X.K F H xs vs) (ry:Ag X.K F H ys ws) :
  EqS X neg H (.ref a) (.ref a') (b && xs.length == ys.length):=by
 intro pins σ s u w I qx qy
 cases qx
 cases qy
 obtain ⟨its,vx,ht,_⟩:=I.list sx
 obtain ⟨its',vx',ht',_⟩:=I.list sy
 have l1:its.length=xs.length:=by rw [<- vx.length,rx.len]
 have l2:its'.length=ys.length:=by rw [<- vx'.length,ry.len]
 have he:=items_eqAt (s:=s) (A:=X.A.in1) e rx ry vx vx' (fun h r1 r2 o1 o2=>PC I (n:=60) (A:=X.A.in1) (by show X.A.units+1+60 < _;omega) h r1 r2 o1 o2)
 by_cases hl:xs.length=ys.length
 ·have hs:its.toArray.size=its'.toArray.size:=by rw [List.size_toArray,List.size_toArray];omega
  have hb:(b && xs.length == ys.length)=(List.range its.toArray.size).all (eAt (eqT 60) xs ys):=by
   rw [Ff e,hl,Nat.min_self,List.size_toArray,l1,hl]
   simp
  rw [hb]
  cases neg with
  | false=>exact SeqAt.RcAt.lists ht.isList ht'.isList hs (A:=X.A) (by omega) he
  | true=>exact SeqAt.RcNeAt.lists ht.isList ht'.isList hs (A:=X.A) (by omega) he
 ·have hs:(its.toArray.size != its'.toArray.size)=true:=by rw [List.size_toArray,List.size_toArray,bne_iff_ne];omega
  have hb:(b && xs.length == ys.length)=false:=by simp [hl]
  rw [hb]
  cases neg with
  | false=>exact SeqAt.RcAt.lists_lengths ht.isList ht'.isList hs (A:=X.A) (by omega)
  | true=>exact SeqAt.RcNeAt.lists_lengths ht.isList ht'.isList hs (A:=X.A) (by omega)
theorem RY {X:Cx} {Z:Xp} (neg:Bool) (hu:X.A.units+61 < cLine):OpF X.K Z (Xu X neg) (Mw neg):=by
 intro F B H σ fs x y u w Q ok rx ry s
 unfold Mw at s
 cases e1:N4 x with
 | some xs =>
  rw [e1] at s
  cases e2:N4 y with
  | none=>rw [e2] at s;exact s.elim
  | some ys =>
   rw [e2] at s
   obtain ⟨a,vs,rfl,sx,r1⟩:=C5 rx e1
   obtain ⟨a',ws,rfl,sy,r2⟩:=C5 ry e2
   simp only [eqB] at s
   cases e3:IU (eqT 60) xs ys with
   | none=>rw [e3] at s;exact s.elim
   | some b =>
    rw [e3] at s
    exact ⟨_,Um hu e3 sx sy r1 r2,s F H _ Le.refl (RR.of ok rfl)⟩
 | none =>
  rw [e1] at s
  cases e2:DN fs x with
  | none=>rw [e2] at s;exact s.elim
  | some xs =>
   rw [e2] at s
   cases e3:DN fs y with
   | none=>rw [e3] at s;exact s.elim
   | some ys =>
    rw [e3] at s
    obtain ⟨a,vs,rfl,sx,r1⟩:=Cf ok rx e2
    obtain ⟨a',ws,rfl,sy,r2⟩:=Cf ok ry e3
    simp only [eqB] at s
    cases e4:IU (eqT 60) xs ys with
    | none=>rw [e4] at s;exact s.elim
    | some b =>
     rw [e4] at s
     exact ⟨_,Uo hu e4 sx sy r1 r2,s F H _ Le.refl (RR.of ok rfl)⟩
section
variable {X:Cx} {Z:Xp} {a b:Expr} {fa fb:FS->Out Rv} {pos:Pos}
end
section
variable {X:Cx} {Z:Xp} {a b:Expr} {fa fb:FS->Out Rv} {pos:Pos}
end
section
variable {X:Cx} {Z:Xp} {a b:Expr} {fa fb:FS->Out Rv} {pos:Pos}
end
theorem Wa {A:Around} {k:Nat} (hr:EE k A):A.units+61 < cLine:=by have:=hr.units;omega
section
variable {X:Cx} {Z:Xp} {a b:Expr} {fa fb:FS->Out Rv} {pos:Pos}
end
section
variable {K:Fg} {Z:Xp}
end
section
variable {X:Cx} {Z:Xp} {a:Expr} {f:FS->Out Rv} {fa:FS->Out (List Rv)} {p p1 p2 pos pos1 pos2:Pos}
end
section
variable {X:Cx} {Z:Xp} {st:Stmt} {rest:List Stmt} {g h:FS->SO}
end
section
variable {P:Program} {w:World} {K:Fg} {mg:Str->Option Value} {base:Heap}
end
section
variable {K:Fg} {F F':Wd} {H H':Hp} {B:Nat->Option V} {fs:FS} {σ:St} {rs:List Rv} {vs:List V} {Z:Xp} {Q:VK} {Fn:FS->Out Rv}
end
section
variable {X:Cx} {Z:Xp} {x:Str} {k p:Nat} {ps:List Str} {Fn:FS->Out Rv} {e:Expr} {es:List Expr} {fa:FS->Out (List Rv)} {pp pos np cpos:Pos} {C:Addr}
end
section
variable {X:Cx} {Z:Xp} {K:Fg} {B:Nat->Option V} {F:Wd} {H:Hp} {σ:St} {fs:FS}
end
section
variable {X:Cx} {Z:Xp} {a:Expr} {f:FS->Out Rv} {p p2 pos:Pos} {x:Str} {cs ds:List Str} {tab:Str->Str->Bool}
end
section
variable {K:Fg} {Z:Xp}
end
end FL
namespace L2
open PySem PySem.Spec PyProof.Rows
end L2
namespace FL
open PySem PySem.Spec L2
section
variable {X:Cx} {Z:Xp} {x:Str} {k p:Nat} {ps:List Str} {Fn:FS->Out Rv} {e o:Expr} {es:List Expr} {fa:FS->Out (List Rv)} {fo f:FS->Out Rv} {pp pos apos np cpos cp fp jp:Pos} {C:Addr} {m:Str} {v:Expr} {a:Str} {j:Nat}
theorem Pn {a b:Expr} {fa fb:FS->Out Rv} (hu:X.A.units+61 < cLine) (ha:FE X Z a fa) (hb:FE X Z b fb):FT X Z (.Compare a [.NotEq] [b] pos) (asB (Af (Mw true) fa fb)):=HX (RY true hu) Vw ha hb (HK _)
end
section
variable {K:Fg} {B:Nat->Option V} {F F':Wd} {H H':Hp} {σ:St} {fs:FS} {i:Nat} {ob:FO}
theorem Okk.cut (h:Okk K F B H fs σ) (e:A1 fs i=some ob):∃ v L2,σ[i]?=some (some v)/\AQ K F H ob v L2/\(∀ a∈L2,¬ F a/\¬ F.p a)/\L2.Nodup /\
  ∀ ob' H' M o' u' N',(∀ a,a∉L2->H a≠none->H' a=H a)->AQ K F H' ob' v M->AQ K F H' o' u' N'->(M++N').Nodup->(∀ a∈M++N',a∈L2)->RR K B σ F H' (putAt fs i ob') (.nw o') u'/\Le F H F H':=by
 obtain ⟨L,h⟩:=h
 have key:∀ s:Sl,fs[i]?=some (some s)->(s=.own ob∨s=.bor ob)->∃ v L2,σ[i]?=some (some v)/\AQ K F H ob v L2/\(∀ a∈L2,¬ F a/\¬ F.p a)/\L2.Nodup /\
  ∀ ob' H' M o' u' N',(∀ a,a∉L2->H a≠none->H' a=H a)->AQ K F H' ob' v M->AQ K F H' o' u' N'->(M++N').Nodup->(∀ a∈M++N',a∈L2)->RR K B σ F H' (fs.set i (some (s.put ob'))) (.nw o') u'/\Le F H F H':=by
  intro s es ho
  obtain ⟨v,L1,L2,L3,e1,rfl,h1,h2⟩:=h.sl.pick es
  obtain ⟨u,rfl,q⟩:∃ u,v=some u/\AQ K F H ob u L2:=by
   rcases ho with rfl | rfl
   ·exact h1
   ·exact h1
  have nd:=h.nd
  have dis:∀ a∈L1++L3,a∉L2:=fun a ha hb=>by
   rw [List.nodup_append] at nd
   rcases List.mem_append.mp ha with ha | ha
   ·exact nd.2.2 a ha a (List.mem_append_left _ hb) rfl
   ·have:=(List.nodup_append.mp nd.2.1).2.2
    exact this a hb a ha rfl
  refine ⟨u,L2,e1,q,fun a m=>⟨h.nf a (by simp [m]),h.pl a (by simp [m])⟩,?_,fun ob' H' M o' u' N' k q' q2 hnd hsub=>?_⟩
  ·rw [List.nodup_append] at nd
   exact (List.nodup_append.mp nd.2.1).1
  ·have l:Le F H F H':=⟨fun a f=>⟨f,k a (fun m=>h.nf a (by simp [m]) f) (h.fd a f)⟩,fun a f=>⟨f,k a (fun m=>h.pl a (by simp [m]) f) (h.pd a f)⟩⟩
   have hM:=List.nodup_append.mp hnd
   have sM:∀ a∈M,a∈L2:=fun a m=>hsub a (List.mem_append_left _ m)
   have sN:∀ a∈N',a∈L2:=fun a m=>hsub a (List.mem_append_right _ m)
   have own:∀ a∈L1++(M++L3),¬ F a/\¬ F.p a:=fun a m=>by
    rcases List.mem_append.mp m with m | m
    ·exact ⟨h.nf a (by simp [m]),h.pl a (by simp [m])⟩
    ·rcases List.mem_append.mp m with m | m
     ·exact ⟨h.nf a (by simp [sM a m]),h.pl a (by simp [sM a m])⟩
     ·exact ⟨h.nf a (by simp [m]),h.pl a (by simp [m])⟩
   have ndM:(L1++(M++L3)).Nodup:=CK nd hM.1 fun a m z=>dis a z (sM a m)
   refine ⟨⟨L1++(M++L3),N',⟨?_,ndM,fun a m=>(own a m).1,fun a f=>by rw [(l.f a f).2];exact h.fd a f,?_,fun a f=>by rw [(l.p a f).2];exact h.pd a f,h.pf,fun a m=>(own a m).2⟩,q2,?_,fun a m=>⟨h.nf a (by simp [sN a m]),h.pl a (by simp [sN a m])⟩⟩,l⟩
   ·have hL:∀ a∈L1++L3,H' a=H a:=fun a m=>k a (dis a m) (h.sl.def a (by
      rcases List.mem_append.mp m with m | m
      ·simp [m]
      ·simp [m]))
    have h3:=h2 F H' (some (s.put ob')) (some u) M l hL (by
     rcases ho with rfl | rfl
     ·exact ⟨u,rfl,q'⟩
     ·exact ⟨u,rfl,q'⟩)
    rwa [Ca e1] at h3
   ·have:=GQ.put (i:=i) (s:=some (s.put ob')) (v:=some u) h.bo (fun o eo=>by
     rcases ho with rfl | rfl
     ·cases eo
     ·obtain ⟨w,e3,e4⟩:=h.bo i ob es
      rw [e1] at e3
      have e5:u=w:=by simpa using e3
      exact ⟨u,rfl,by rw [e5];exact e4⟩) h.sl.len
    rwa [Ca e1] at this
   ·rw [List.nodup_append]
    refine ⟨ndM,hM.2.1,fun a ha b hb e=>?_⟩
    subst e
    rcases List.mem_append.mp ha with ha | ha
    ·exact dis a (List.mem_append_left _ ha) (sN a hb)
    ·rcases List.mem_append.mp ha with ha | ha
     ·exact hM.2.2 a ha a hb rfl
     ·exact dis a (List.mem_append_right _ ha) (sN a hb)
 unfold A1 at e
 split at e
 ·rename_i o es
  cases e
  obtain ⟨v,L2,a1,a2,a3,a4,a5⟩:=key _ es (.inl rfl)
  refine ⟨v,L2,a1,a2,a3,a4,fun ob' H' M o' u' N' k q q2 n s=>?_⟩
  have:=a5 ob' H' M o' u' N' k q q2 n s
  unfold putAt
  rw [es]
  exact this
 ·rename_i o es
  cases e
  obtain ⟨v,L2,a1,a2,a3,a4,a5⟩:=key _ es (.inr rfl)
  refine ⟨v,L2,a1,a2,a3,a4,fun ob' H' M o' u' N' k q q2 n s=>?_⟩
  have:=a5 ob' H' M o' u' N' k q q2 n s
  unfold putAt
  rw [es]
  exact this
 ·cases e
theorem AM.snoc:∀ {os:List FO} {o:FO} {vs:List V} {L:List Addr},AM K F H (os++[o]) vs L->∃ vs' v L1 L2,vs=vs'++[v]/\AM K F H os vs' L1/\AQ K F H o v L2/\L=L1++L2
 | [],o,vs,L,h=>by
  simp only [List.nil_append,AM] at h
  obtain ⟨v,r,L1,L2,rfl,h1,⟨rfl,rfl⟩,rfl⟩:=h
  exact ⟨[],v,[],L1,rfl,⟨rfl,rfl⟩,h1,by simp⟩
 | x :: os,o,vs,L,h=>by
  simp only [List.cons_append,AM] at h
  obtain ⟨v,r,L1,L2,rfl,h1,h2,rfl⟩:=h
  obtain ⟨vs',w,M1,M2,rfl,g1,g2,rfl⟩:=AM.snoc h2
  exact ⟨v :: vs',w,L1++M1,M2,rfl,by simp only [AM];exact ⟨v,vs',L1,M1,rfl,h1,g1,rfl⟩,g2,by simp⟩
theorem AM.app:∀ {os:List FO} {o:FO} {vs:List V} {v:V} {L1 L2:List Addr},AM K F H os vs L1->AQ K F H o v L2->AM K F H (os++[o]) (vs++[v]) (L1++L2)
 | [],o,vs,v,L1,L2,h,g=>by
  obtain ⟨rfl,rfl⟩:=(show vs=[]/\L1=[] by simpa only [AM] using h)
  simp only [List.nil_append,AM]
  exact ⟨v,[],L2,[],rfl,g,⟨rfl,rfl⟩,by simp⟩
 | x :: os,o,vs,v,L1,L2,h,g=>by
  simp only [AM] at h
  obtain ⟨w,r,M1,M2,rfl,h1,h2,rfl⟩:=h
  simp only [List.cons_append,AM]
  exact ⟨w,r++[v],M1,M2++L2,rfl,h1,AM.app h2 g,by simp⟩
theorem AM.len:∀ {os:List FO} {vs:List V} {L:List Addr},AM K F H os vs L->vs.length=os.length
 | [],vs,L,h=>by
  obtain ⟨rfl,rfl⟩:=(show vs=[]/\L=[] by simpa only [AM] using h)
  rfl
 | o :: os,_,_,h=>by
  simp only [AM] at h
  obtain ⟨w,r,M1,M2,rfl,h1,h2,rfl⟩:=h
  rw [List.length_cons,List.length_cons,AM.len h2]
end
section
variable {X:Cx} {Z:Xp} {x:Str} {e:Expr} {f:FS->Out Rv} {p1 p2 p ap cp pos:Pos}
def Ts:FS->Out Rv:=fun fs=>.ok (.nw (.los [.lst []])) fs
theorem Rc (hs:starEach [(.List [] p1:Expr)] X.env=[(false,eval (.List [] p1) X.env)]:=by rfl):FE X Z (.List [.List [] p1] p2) Ts:=by
 refine Bo (Mb (El (Mb GX) GX hs)) fun σ H Q ⟨F,B,fs,ok,s⟩=>?_
 refine ⟨Nat.zero_le _,fun b hb=>⟨by rw [sizeLine_eq];show 1<=_;decide,fun p hp=>?_⟩⟩
 have hpb:p≠b:=fun e=>by subst e;rw [AL] at hp;cases hp
 have hp0:H p=none:=by rwa [Aw hpb] at hp
 obtain ⟨L,o⟩:=ok
 have k:∀ a,H a≠none->(upd (upd H b (.lst [])) p (.lst [.ref b])) a=H a:=fun a h=>by rw [Aw (fun e=>h (by rw [e];exact hp0)),Aw (fun e=>h (by rw [e];exact hb))]
 have l:Le F H F (upd (upd H b (.lst [])) p (.lst [.ref b])):=⟨fun a f=>⟨f,k a (o.fd a f)⟩,fun a f=>⟨f,k a (o.pd a f)⟩⟩
 refine s F _ (.ref p) l ⟨L,[p,b],⟨o.sl.le l fun a m=>k a (o.sl.def a m),o.nd,o.nf,fun a f=>by rw [k a (o.fd a f)];exact o.fd a f,o.bo,fun a f=>by rw [k a (o.pd a f)];exact o.pd a f,o.pf,o.pl⟩,?_,?_,fun a m=>?_⟩
 ·simp only [NH,AQ,AM]
  exact ⟨p,[.ref b],[b],rfl,AL,⟨.ref b,[],[b],[],rfl,⟨b,[],rfl,by rw [Aw hpb.symm];exact AL,by simp only [Ag],rfl⟩,⟨rfl,rfl⟩,by simp⟩,rfl⟩
 ·rw [List.nodup_append]
  refine ⟨o.nd,by simp [hpb],fun a ha c hc e=>?_⟩
  subst e
  rcases List.mem_cons.mp hc with rfl | hc
  ·exact o.sl.def a ha hp0
  ·rw [List.mem_singleton.mp hc] at ha
   exact o.sl.def b ha hb
 ·rcases List.mem_cons.mp m with rfl | m
  ·exact ⟨fun f=>o.fd a f hp0,fun f=>o.pd a f hp0⟩
  ·rw [List.mem_singleton.mp m]
   exact ⟨fun f=>o.fd b f hb,fun f=>o.pd b f hb⟩
def RM (i:Nat):FS->Out Rv:=fun fs=>match A1 fs i with
 | some (.los os)=>(match os.getLast? with
  | some o=>.ok (.nw o) (putAt fs i (.los os.dropLast))
  | none=>.bad)
 | _=>.bad
theorem Ui (i:Nat) (hN:X.N[i]?=some x:=by rfl) (hv:Vis X.env.scope x:=by first | exact Or.inl rfl | exact Or.inr (Or.inl rfl) | exact Or.inr (Or.inr rfl)) (hd:(x == ("__debug__":Str))=false:=by decide) (hcd:(x == ("__classdict__":Str))=false:=by decide)
  (hbase:attributeBase (.Name x p) "pop" X.env (eval (.Name x p) X.env)=eval (.Name x p) X.env:=by rfl) (hline:(ap.endLine == cp.line)=true:=by rfl) :
  FE X Z (.Call (.Attribute (.Name x p) "pop" ap) [] [] cp) (RM i):=by
 refine Bo (RU PySem.F.plainAttrs_list PySem.F.slot_list_pop PySem.F.type_list_pop EN (pv i hN hv hd hcd) hbase hline) fun σ H Q ⟨F,B,fs,ok,s⟩=>?_
 unfold RM at s
 split at s
 ·rename_i os eo
  split at s
  ·rename_i o el
   obtain ⟨v,L2,a1,a2,a3,a4,a5⟩:=Okk.cut ok eo
   simp only [AQ] at a2
   obtain ⟨a,vs,L',rfl,hd,ro,rfl⟩:=a2
   have eos:os=os.dropLast++[o]:=by
    obtain ⟨hne,h⟩:=List.getLast?_eq_some_iff.mp el |>.imp fun _ h=>h
    rw [h]
    simp
   rw [eos] at ro
   obtain ⟨vs',w,M1,M2,rfl,g1,g2,rfl⟩:=AM.snoc ro
   have nd:=List.nodup_cons.mp a4
   have na1:a∉M1:=fun z=>nd.1 (List.mem_append_left _ z)
   have na2:a∉M2:=fun z=>nd.1 (List.mem_append_right _ z)
   have l1:Le F H F (upd H a (.lst vs')):=⟨fun b f=>⟨f,Aw fun z=>(a3 a (by simp)).1 (z▸f)⟩,fun b f=>⟨f,Aw fun z=>(a3 a (by simp)).2 (z▸f)⟩⟩
   obtain ⟨rr,l⟩:=a5 (.los os.dropLast) (upd H a (.lst vs')) (a :: M1) o w M2 (fun b hb _=>Aw fun z=>hb (by rw [z];simp)) (by
    simp only [AQ]
    exact ⟨a,vs',M1,rfl,AL,AM.le l1 (fun b hb=>Aw fun z=>na1 (z▸hb)) g1,rfl⟩) (AQ.le l1 (fun b hb=>Aw fun z=>na2 (z▸hb)) g2) (by
    rw [List.cons_append]
    exact a4) (fun b hb=>by rw [List.cons_append] at hb;exact hb)
   exact ⟨_,a1,.inl ⟨rfl,_,SqL.of hd⟩,a,vs',w,rfl,rfl,hd,s F _ w l rr⟩
  ·exact s.elim
 ·exact s.elim
def UR (i:Nat) (f:FS->Out Rv):FS->SO:=fun fs=>match A1 fs i with
 | some (.los _)=>SO.of (f fs) fun r fs=>(match Xb r,A1 fs i with
  | some o,some (.los os)=>if os.length < 1000 then .nx (putAt fs i (.los (os++[o]))) else .bad
  | _,_=>.bad)
 | _=>.bad
theorem TY (i:Nat) (he:FE X Z e f) (hN:X.N[i]?=some x:=by rfl) (hv:Vis X.env.scope x:=by first | exact Or.inl rfl | exact Or.inr (Or.inl rfl) | exact Or.inr (Or.inr rfl)) (hd:(x == ("__debug__":Str))=false:=by decide) (hcd:(x == ("__classdict__":Str))=false:=by decide)
  (hbase:attributeBase (.Name x p) "append" X.env (eval (.Name x p) X.env)=eval (.Name x p) X.env:=by rfl)
  (hfew:((backTo cp (starEach [e] X.env)).all (fun x=>!x.1) && (backToKw cp (keywordEach [] X.env)).all (fun x=>x.1.isSome) && decide ([e].length+([]:List Keyword).length+(if ([]:List Keyword).isEmpty then 0 else 1) < 30))=true:=by rfl)
  (hline:(ap.endLine == cp.line)=true:=by rfl) (hs:starEach [e] X.env=[(false,eval e X.env)]:=by rfl) (hsw:swapsWith (.Call (.Attribute (.Name x p) "append" ap) [e] [] cp) none pos.line X.env=pure false:=by rfl) :
  GS X Z (.Expr (.Call (.Attribute (.Name x p) "append" ap) [e] [] cp) pos) (UR i f):=by
 refine DC (Lk (QL PySem.F.plainAttrs_list PySem.F.slot_list_append PySem.F.type_list_append Ci (pv i hN hv hd hcd) (El he GX hs) hbase hfew hline hs rfl) hsw) fun D σ H ⟨F,B,fs,ok,s⟩=>?_
 unfold UR at s
 split at s
 ·rename_i os0 e0
  obtain ⟨v,L2,a1,a2,_⟩:=ok.own e0
  simp only [AQ] at a2
  obtain ⟨a,vs,L0,rfl,hd0,_,_⟩:=a2
  refine ⟨_,a1,.inl ⟨rfl,_,SqL.of hd0⟩,F,B,fs,ok,C6 s fun r fs1 F1 H1 u l q s1=>?_⟩
  split at s1
  ·rename_i o os e1 e2
   split at s1
   ·rename_i hl
    obtain ⟨v',L2',L',b1,b2,b3,b4,b5,b6⟩:=RR.put q e2
    have ev:v'=.ref a:=by
     rw [a1] at b1
     simpa using b1.symm
    subst ev
    simp only [AQ] at b2
    obtain ⟨a',vs1,M,ea,hd1,ro,rfl⟩:=b2
    cases ea
    have rfo:AQ X.K F1 H1 o u L':=by
     cases r with
     | t t =>
      cases e1
      simp only [AQ]
      exact b3
     | nw o'=>cases e1;exact b3
     | rf j=>cases e1
    have nda:=List.nodup_append.mp b4
    have na:a∉M:=(List.nodup_cons.mp nda.1).1
    have na':a∉L':=fun z=>nda.2.2 a (by simp) a z rfl
    have l1:Le F1 H1 F1 (upd H1 a (.lst (vs1++[u]))):=⟨fun b f=>⟨f,Aw fun z=>(b5 a (by simp)).1 (z▸f)⟩,fun b f=>⟨f,Aw fun z=>(b5 a (by simp)).2 (z▸f)⟩⟩
    obtain ⟨ok',l'⟩:=b6 (.los (os++[o])) (upd H1 a (.lst (vs1++[u]))) (a :: (M++L')) (fun b hb _=>Aw fun z=>hb (by rw [z];simp)) (by
     simp only [AQ]
     exact ⟨a,_,_,rfl,AL,AM.app (AM.le l1 (fun b hb=>Aw fun z=>na (z▸hb)) ro) (AQ.le l1 (fun b hb=>Aw fun z=>na' (z▸hb)) rfo),rfl⟩) (by rw [<- List.cons_append];exact b4) (fun b hb=>by
     rw [<- List.cons_append] at hb
     exact List.mem_append.mp hb)
    exact ⟨a,vs1,u,rfl,rfl,hd1,by rw [AM.len ro,sizeLine_eq];omega,s1 F1 _ σ l' ok'⟩
   ·exact s1.elim
  ·exact s1.elim
 ·exact s.elim
def X4 (i:Nat):FS->Out Rv:=fun fs=>match A1 fs i with
 | some (.los (.lst (t :: _) :: _))=>okT t fs
 | _=>.bad
theorem Uk (i:Nat) {q1 q2:Pos} {j1 j2:Nat} (hN:X.N[i]?=some x:=by rfl) (hv:Vis X.env.scope x:=by first | exact Or.inl rfl | exact Or.inr (Or.inl rfl) | exact Or.inr (Or.inr rfl)) (hd:(x == ("__debug__":Str))=false:=by decide) (hcd:(x == ("__classdict__":Str))=false:=by decide) :
  FE X Z (.Subscript (.Subscript (.Name x p) (.Constant (.int 0) j1 q1) p1) (.Constant (.int 0) j2 q2) p2) (X4 i):=by
 refine Bo (Oq JA (Oq JA (pv i hN hv hd hcd) Mc (fun _ _=>rfl)) Mc (fun _ _=>rfl)) fun σ H Q ⟨F,B,fs,ok,s⟩=>?_
 unfold X4 at s
 split at s
 ·rename_i t ts os eo
  obtain ⟨v,L2,a1,a2,_⟩:=ok.own eo
  simp only [AQ,AM] at a2
  obtain ⟨a,vs,L',rfl,hd0,⟨w,r,M1,M2,rfl,⟨b,us,rfl,hb,ru,_⟩,_⟩,_⟩:=a2
  simp only [Ag] at ru
  obtain ⟨u,us',rfl,ru,_⟩:=ru
  exact ⟨_,a1,a,_,0,_,rfl,rfl,SqL.of hd0,AW (j:=0) rfl,b,_,0,u,rfl,rfl,SqL.of hb,AW (j:=0) rfl,s F H u Le.refl (RR.of ok ru)⟩
 ·exact s.elim
end
def E4 (i:Nat) (f:FS->Out Rv):FS->SO:=fun fs=>match fs[i]? with
 | some (some (.own (.los os)))=>(match os.getLast? with
  | some (.lst ts)=>SO.of (f (fs.set i none)) fun r fs1=>(match r,fs1[i]? with
   | .t t,some none=>if ts.length < 1000 then .nx (fs1.set i (some (.own (.los (os.dropLast++[.lst (ts++[t])]))))) else .bad
   | _,_=>.bad)
  | _=>.bad)
 | _=>.bad
theorem XD {X:Cx} {j:Nat} {q1 q2:Pos}:PE X (.UnaryOp .USub (.Constant (.int 1) j q1) q2) (tC (.int (-1))):=Bo (Xz UT Mc) fun σ H Q h=>⟨1,rfl,h⟩
section
variable {X:Cx} {Z:Xp} {x:Str} {e:Expr} {f:FS->Out Rv} {p1 p2 p ap cp pos q1 q2:Pos} {j:Nat}
theorem IQ (i:Nat) (he:FE X Z e f) (hN:X.N[i]?=some x:=by rfl) (hv:Vis X.env.scope x:=by first | exact Or.inl rfl | exact Or.inr (Or.inl rfl) | exact Or.inr (Or.inr rfl)) (hd:(x == ("__debug__":Str))=false:=by decide) (hcd:(x == ("__classdict__":Str))=false:=by decide)
  (hbase:attributeBase (.Subscript (.Name x p) (.UnaryOp .USub (.Constant (.int 1) j q1) q2) p1) "append" X.env (eval (.Subscript (.Name x p) (.UnaryOp .USub (.Constant (.int 1) j q1) q2) p1) X.env)=eval (.Subscript (.Name x p) (.UnaryOp .USub (.Constant (.int 1) j q1) q2) p1) X.env:=by rfl)
  (hfew:((backTo cp (starEach [e] X.env)).all (fun x=>!x.1) && (backToKw cp (keywordEach [] X.env)).all (fun x=>x.1.isSome) && decide ([e].length+([]:List Keyword).length+(if ([]:List Keyword).isEmpty then 0 else 1) < 30))=true:=by rfl)
  (hline:(ap.endLine == cp.line)=true:=by rfl) (hs:starEach [e] X.env=[(false,eval e X.env)]:=by rfl) (hsw:swapsWith (.Call (.Attribute (.Subscript (.Name x p) (.UnaryOp .USub (.Constant (.int 1) j q1) q2) p1) "append" ap) [e] [] cp) none pos.line X.env=pure false:=by rfl) :
  GS X Z (.Expr (.Call (.Attribute (.Subscript (.Name x p) (.UnaryOp .USub (.Constant (.int 1) j q1) q2) p1) "append" ap) [e] [] cp) pos) (E4 i f):=by
 refine DC (Lk (QL PySem.F.plainAttrs_list PySem.F.slot_list_append PySem.F.type_list_append Ci (Oq JA (pv i hN hv hd hcd) XD (fun _ _=>rfl)) (El he GX hs) hbase hfew hline hs rfl) hsw) fun D σ H ⟨F,B,fs,ok,s⟩=>?_
 unfold E4 at s
 split at s
 ·rename_i os es
  split at s
  ·rename_i ts el
   obtain ⟨L,h⟩:=ok
   obtain ⟨v,L1,L2,L3,e1,rfl,h1,h2⟩:=h.sl.pick es
   obtain ⟨u0,rfl,q⟩:=h1
   simp only [AQ] at q
   obtain ⟨a,vs,LL,rfl,hda,ro,rfl⟩:=q
   have eos:os=os.dropLast++[.lst ts]:=by
    obtain ⟨ys,h⟩:=List.getLast?_eq_some_iff.mp el
    rw [h]
    simp
   rw [eos] at ro
   obtain ⟨vs',w,M1,M2,rfl,g1,g2,rfl⟩:=AM.snoc ro
   simp only [AQ] at g2
   obtain ⟨b,us,rfl,hb,ru,rfl⟩:=g2
   have nd:=h.nd
   have dis:∀ c∈L1++L3,c∉a :: (M1++[b]):=fun c hc hz=>by
    rw [List.nodup_append] at nd
    rcases List.mem_append.mp hc with hc | hc
    ·exact nd.2.2 c hc c (List.mem_append_left _ hz) rfl
    ·have:=(List.nodup_append.mp nd.2.1).2.2
     exact this c hz c hc rfl
   have nd2:(a :: (M1++[b])).Nodup:=by
    rw [List.nodup_append] at nd
    exact (List.nodup_append.mp nd.2.1).1
   have nf2:∀ c∈a :: (M1++[b]),¬ F c/\¬ F.p c:=fun c m=>⟨h.nf c (List.mem_append_right _ (List.mem_append_left _ m)),h.pl c (List.mem_append_right _ (List.mem_append_left _ m))⟩
   have df2:∀ c∈a :: (M1++[b]),H c≠none:=fun c m=>h.sl.def c (List.mem_append_right _ (List.mem_append_left _ m))
   have le0:Le F H ⟨F.f,fun c=>F.p c∨c∈a :: (M1++[b])⟩ H:=⟨fun c f=>⟨f,rfl⟩,fun c f=>⟨.inl f,rfl⟩⟩
   have ok0:Okk X.K ⟨F.f,fun c=>F.p c∨c∈a :: (M1++[b])⟩ B H (fs.set i none) σ:=by
    refine ⟨L1++([]++L3),?_,?_,fun c m=>?_,h.fd,?_,fun c p=>?_,fun c f p=>?_,fun c m p=>?_⟩
    ·have h3:=h2 _ H none (some (.ref a)) [] le0 (fun _ _=>rfl) rfl
     rwa [Ca e1] at h3
    ·exact CK nd List.nodup_nil fun c m=>(nomatch m)
    ·exact h.nf c (by
      rcases List.mem_append.mp m with m | m
      ·simp [m]
      ·simp only [List.nil_append] at m
       simp [m])
    ·have:=GQ.put (i:=i) (s:=none) (v:=some (.ref a)) h.bo (fun o eo=>by cases eo) h.sl.len
     rwa [Ca e1] at this
    ·rcases p with p | p
     ·exact h.pd c p
     ·exact df2 c p
    ·rcases p with p | p
     ·exact h.pf c f p
     ·exact (nf2 c p).1 f
    ·rcases p with p | p
     ·exact h.pl c (by
       rcases List.mem_append.mp m with m | m
       ·simp [m]
       ·simp only [List.nil_append] at m
        simp [m]) p
     ·exact dis c (by simpa using m) p
   refine ⟨.ref a,e1,a,_,-1,.ref b,rfl,rfl,SqL.of hda,Rt vs' _,.inl ⟨rfl,us,SqL.of hb⟩,⟨F.f,fun c=>F.p c∨c∈a :: (M1++[b])⟩,B,fs.set i none,ok0,?_⟩
   cases eg:f (fs.set i none) with
   | bad=>rw [eg] at s;exact s.elim
   | exc c τ=>rw [eg] at s;exact Z.mono s le0
   | ok r fs1 =>
    rw [eg] at s
    intro F2 H2 u l2 q2
    dsimp only [SO.of] at s
    split at s
    ·rename_i t e2
     split at s
     ·rename_i hl
      obtain ⟨L',M',o2,⟨rfl,rt⟩,nd',nf'⟩:=q2
      obtain ⟨v',K1,K2,K3,e3,rfl,k1,k2⟩:=AG.pick (AG.wp (p:=F.p) o2.sl) e2
      have ek:K2=[]:=k1
      subst ek
      have ev:v'=some (.ref a):=by
       rw [e1] at e3
       simpa using e3.symm
      subst ev
      have pin:∀ c∈a :: (M1++[b]),F2.p c/\H2 c=H c:=fun c m=>l2.p c (.inr m)
      have hb2:H2 b=some (.lst us):=(pin b (by simp)).2.trans hb
      have nab:a≠b:=fun z=>(List.nodup_cons.mp nd2).1 (by rw [z];simp)
      have nbM:b∉M1:=fun z=>(List.nodup_append.mp (List.nodup_cons.mp nd2).2).2.2 b z b (by simp) rfl
      have dis2:∀ c∈K1++K3,c∉a :: (M1++[b]):=fun c hc hz=>o2.pl c (by
       rcases List.mem_append.mp hc with hc | hc
       ·simp [hc]
       ·simp [hc]) (pin c hz).1
      have kp:∀ c,c≠b->(upd H2 b (.lst (us++[u]))) c=H2 c:=fun c z=>Aw z
      have lf:Le ⟨F2.f,F.p⟩ H2 ⟨F2.f,F.p⟩ (upd H2 b (.lst (us++[u]))):=⟨fun c f=>⟨f,kp c fun z=>o2.pf c f (z▸(pin b (by simp)).1)⟩,fun c f=>⟨f,kp c fun z=>(nf2 b (by simp)).2 (z▸f)⟩⟩
      have lt:Le F H ⟨F2.f,F.p⟩ (upd H2 b (.lst (us++[u]))):=⟨fun c f=>⟨(l2.f c f).1,(lf.f c (l2.f c f).1).2.trans (l2.f c f).2⟩,fun c f=>⟨f,(lf.p c f).2.trans (l2.p c (.inl f)).2⟩⟩
      have rt':A3 X.K ⟨F2.f,F.p⟩ (upd H2 b (.lst (us++[u]))) t u:=A3.le lf (A3.wp rt)
      have og:AQ X.K ⟨F2.f,F.p⟩ (upd H2 b (.lst (us++[u]))) (.los (os.dropLast++[.lst (ts++[t])])) (.ref a) (a :: (M1++[b])):=by
       simp only [AQ]
       refine ⟨a,vs'++[.ref b],M1++[b],rfl,by rw [kp a nab,(pin a (by simp)).2];exact hda,AM.app (AM.le lt (fun c hc=>by rw [kp c fun z=>nbM (z▸hc),(pin c (by simp [hc])).2]) g1) ?_,rfl⟩
       simp only [AQ]
       exact ⟨b,us++[u],rfl,AL,Ag.app (Ag.le lt ru) (Ag.one rt'),rfl⟩
      refine ⟨b,us,u,rfl,rfl,hb2,by rw [ru.len,sizeLine_eq];omega,s ⟨F2.f,F.p⟩ _ σ lt ⟨K1++((a :: (M1++[b]))++K3),?_,?_,fun c m=>?_,fun c f=>?_,?_,fun c f=>?_,fun c f p=>?_,fun c m=>?_⟩⟩
      ·have hin:∀ c∈K1++K3,c∈K1++([]++K3):=fun c m=>by simpa using m
       have h3:=k2 ⟨F2.f,F.p⟩ (upd H2 b (.lst (us++[u]))) (some (.own (.los (os.dropLast++[.lst (ts++[t])])))) (some (.ref a)) (a :: (M1++[b])) lf (fun c m=>kp c fun z=>dis2 c m (by rw [z];simp)) ⟨.ref a,rfl,og⟩
       rwa [Ca e3] at h3
      ·exact CK o2.nd nd2 fun c m z=>dis2 c z m
      ·rcases List.mem_append.mp m with m | m
       ·exact o2.nf c (by simp [m])
       ·rcases List.mem_append.mp m with m | m
        ·exact fun f=>o2.pf c f (pin c m).1
        ·exact o2.nf c (by simp [m])
      ·rw [(lf.f c f).2]
       exact o2.fd c f
      ·have:=GQ.put (i:=i) (s:=some (.own (.los (os.dropLast++[.lst (ts++[t])])))) (v:=some (.ref a)) o2.bo (fun o eo=>by cases eo) o2.sl.len
       rwa [Ca e3] at this
      ·rw [(lf.p c f).2]
       exact o2.pd c (l2.p c (.inl f)).1
      ·exact o2.pf c f (l2.p c (.inl p)).1
      ·rcases List.mem_append.mp m with m | m
       ·exact fun p=>o2.pl c (by simp [m]) (l2.p c (.inl p)).1
       ·rcases List.mem_append.mp m with m | m
        ·exact (nf2 c m).2
        ·exact fun p=>o2.pl c (by simp [m]) (l2.p c (.inl p)).1
     ·exact s.elim
    ·exact s.elim
  ·exact s.elim
 ·exact s.elim
end
def Wk:List Rv->FS->Out Rv
 | [x],fs=>match (DN fs x).bind EC with
  | some ns=>okT (.bl (ns.any id)) fs
  | none=>.bad
 | _,_=>.bad
theorem WL {K:Fg} {Z:Xp}:Ei K Z (fun xs H Q=>∃ (l:Addr) (bs:List Bool),xs=[.ref l]/\SqL K H l (bs.map V.bl)/\Q (.bl (bs.any id)) H) Wk:=by
 intro F B H σ fs rs vs Q ok q s
 unfold Wk at s
 split at s
 ·obtain ⟨v,rfl,qq⟩:=Cg q
  have q:=qq
  split at s
  ·rename_i ns e
   rw [Option.bind_eq_some_iff] at e
   obtain ⟨ts,e1,e2⟩:=e
   obtain ⟨a,us,rfl,hs,r⟩:=Cf ok q e1
   rw [JW e2] at r
   rw [Ag.bls r] at hs
   exact ⟨a,ns,rfl,hs,s F H _ Le.refl (RR.of ok rfl)⟩
  ·exact s.elim
 ·exact s.elim
def WO (i:Nat) (f:FS->Out Rv):FS->SO:=fun fs=>match fs[i]? with
 | some (some (.val (.str a)))=>SO.of (f fs) fun r fs=>(match r with
  | .t (.str b)=>if a.length+b.length<=big then (match JY i (.t (.str (a++b))) fs with
   | some fs=>.nx fs
   | none=>.bad) else .bad
  | _=>.bad)
 | _=>.bad
def Xa (i:Nat) (f:FS->Out Rv):FS->SO:=fun fs=>match fs[i]? with
 | some (some (.val (.int a)))=>SO.of (f fs) fun r fs=>(match r with
  | .t (.int b)=>(match JY i (.t (.int (a - b))) fs with
   | some fs=>.nx fs
   | none=>.bad)
  | _=>.bad)
 | _=>.bad
section
variable {X:Cx} {Z:Xp} {x:Str} {e a:Expr} {es:List Expr} {f:FS->Out Rv} {fa:FS->Out (List Rv)} {p pos pos':Pos}
theorem WB (hm:X.mg "any"=none) (ha:FA X Z (e :: es) fa) (hc:X.calm=true:=by rfl) (hg:Gl X "any":=by rfl) (he:starEach (e :: es) X.env=(false,eval e X.env) :: starEach es X.env:=by rfl) (hpl:(backTo pos (starEach es X.env)).any (·.1)=false:=by rfl) :
  FE X Z (.Call (.Name "any" p) (e :: es) [] pos) (Am Wk fa):=Gg WL (Ro hc) hm PyProof.Rows.boot_any ha hg (by decide) (by decide) he hpl
theorem TV (i:Nat) (hN:X.N.Nodup) (hx:Loc X.env.scope x) (he:FE X Z e f) (hi:X.N[i]?=some x:=by rfl)
  (hf:X.fn x=true∨X.env.scope.names.lookup x=some .local:=by first | exact .inl rfl | exact .inr rfl | assumption):GS X Z (.AugAssign (.Name x pos') .Add e pos) (WO i f):=by
 refine DC (Of hN hi hx he TU hf) fun D σ H ⟨F,B,fs,ok,s⟩=>?_
 unfold WO at s
 split at s
 ·rename_i a ea
  obtain ⟨L,o⟩:=id ok
  obtain ⟨v,L1,L2,L3,e1,_,h1,_⟩:=o.sl.pick ea
  obtain ⟨u,rfl,q,_⟩:=h1
  refine ⟨u,e1,F,B,fs,ok,C6 s fun r fs1 F1 H1 y l q1 s1=>?_⟩
  split at s1
  ·rename_i b
   obtain ⟨L,L',o1,⟨_,qb⟩,_⟩:=q1
   split at s1
   ·rename_i hl
    split at s1
    ·rename_i fs2 e2
     exact ⟨a,b,q,qb,Nat.le_trans hl DT,s1 F1 H1 _ Le.refl (Hw (RR.of (r:=.t (.str (a++b))) ⟨L,o1⟩ rfl) e2)⟩
    ·exact s1.elim
   ·exact s1.elim
  ·exact s1.elim
 ·exact s.elim
theorem TX (i:Nat) (hN:X.N.Nodup) (hx:Loc X.env.scope x) (he:FE X Z e f) (hi:X.N[i]?=some x:=by rfl)
  (hf:X.fn x=true∨X.env.scope.names.lookup x=some .local:=by first | exact .inl rfl | exact .inr rfl | assumption):GS X Z (.AugAssign (.Name x pos') .Sub e pos) (Xa i f):=by
 refine DC (Of hN hi hx he V3 hf) fun D σ H ⟨F,B,fs,ok,s⟩=>?_
 unfold Xa at s
 split at s
 ·rename_i a ea
  obtain ⟨L,o⟩:=id ok
  obtain ⟨v,L1,L2,L3,e1,_,h1,_⟩:=o.sl.pick ea
  obtain ⟨u,rfl,q,_⟩:=h1
  refine ⟨u,e1,F,B,fs,ok,C6 s fun r fs1 F1 H1 y l q1 s1=>?_⟩
  split at s1
  ·rename_i b
   obtain ⟨L,L',o1,⟨_,qb⟩,_⟩:=q1
   split at s1
   ·rename_i fs2 e2
    exact ⟨a,b,q,qb,s1 F1 H1 _ Le.refl (Hw (RR.of (r:=.t (.int (a - b))) ⟨L,o1⟩ rfl) e2)⟩
   ·exact s1.elim
  ·exact s1.elim
 ·exact s.elim
end
def fvF (f:FS->Out Rv):FS->Out Rv:=fun fs=>(f fs).bnd fun r fs=>match r with
 | .t (.str z)=>if z.length<=big then okT (.str z) fs else .bad
 | _=>.bad
def jsF:List (FS->Out Rv)->Str->FS->Out Rv
 | [],acc=>fun fs=>if acc.length<=big then okT (.str acc) fs else .bad
 | f :: r,acc=>fun fs=>(f fs).bnd fun x fs=>match x with
  | .t (.str z)=>if (acc++z).length<=big then jsF r (acc++z) fs else .bad
  | _=>.bad
inductive FEs (X:Cx) (Z:Xp):List Expr->List (FS->Out Rv)->Prop
 | nil:FEs X Z [] []
 | cons {e:Expr} {f:FS->Out Rv} {es:List Expr} {gs:List (FS->Out Rv)} (h:FE X Z e f) (r:FEs X Z es gs):FEs X Z (e :: es) (f :: gs)
section
variable {X:Cx} {Z:Xp} {v v1 v2:Expr} {es:List Expr} {f:FS->Out Rv} {gs:List (FS->Out Rv)} {fp jp:Pos}
theorem Wz (hv:FE X Z v f):FE X Z (.FormattedValue v (-1) none fp) (fvF f):=by
 refine Bo (XI hv) fun σ H Q ⟨F,B,fs,ok,s⟩=>⟨F,B,fs,ok,A6 s fun r fs1 F1 H1 u l ok1 rx s1=>?_⟩
 split at s1
 ·rename_i z
  split at s1
  ·rename_i hz
   exact ⟨z,rx,Nat.le_trans hz DT,s1 F1 H1 _ Le.refl (RR.of ok1 rfl)⟩
  ·exact s1.elim
 ·exact s1.elim
theorem FEs.pes (h:FEs X Z es gs):PEs X es (gs.map (tF X.K Z)):=by
 induction h with
 | nil=>exact .nil
 | cons h r ih=>exact .cons h ih
theorem YH {K:Fg}:∀ (gs:List (FS->Out Rv)) (acc:Str) {σ:St} {H:Hp} {Q:VK} {F:Wd} {B:Nat->Option V} {fs:FS},Okk K F B H fs σ->sat Z B (RR K B σ) F H (jsF gs acc fs) Q->tJs (gs.map (tF K Z)) acc σ H Q
 | [],acc,σ,H,Q,F,B,fs,ok,s=>by
  unfold jsF at s
  split at s
  ·rename_i hl
   exact ⟨Nat.le_trans hl DT,s F H _ Le.refl (RR.of ok rfl)⟩
  ·exact s.elim
 | g :: gs,acc,σ,H,Q,F,B,fs,ok,s=>by
  refine ⟨F,B,fs,ok,A6 (k:=fun x fs=>match x with | .t (.str z)=>if (acc++z).length<=big then jsF gs (acc++z) fs else .bad | _=>.bad) s fun r fs1 F1 H1 u l ok1 rx s1=>?_⟩
  split at s1
  ·rename_i z
   split at s1
   ·rename_i hz
    exact ⟨z,rx,Nat.le_trans hz DT,YH gs (acc++z) ok1 s1⟩
   ·exact s1.elim
  ·exact s1.elim
theorem Yi (h:FEs X Z (v1 :: v2 :: es) gs):FE X Z (.JoinedStr (v1 :: v2 :: es) jp) (jsF gs Str.empty) :=
 Bo (XF h.pes) fun σ H Q ⟨F,B,fs,ok,s⟩=>YH gs Str.empty ok s
end
def Fy:List Str->List Value->Bool
 | [],[]=>true
 | x :: xs,.str y _ :: vs=>(x == y) && Fy xs vs
 | _,_=>false
theorem GU:∀ {xs:List Str} {vs:List Value},Fy xs vs=true->Vals (xs.map V.str) vs
  | [],[],_=>.nil
  | x :: xs,v :: vs,h=>by
    cases v <;> first
      | (simp only [Fy,Bool.and_eq_true,beq_iff_eq] at h
         obtain ⟨rfl,h⟩:=h
         exact .cons ⟨_,rfl⟩ (GU h))
      | (simp [Fy] at h)
  | [],_ :: _,h=>by simp [Fy] at h
  | _ :: _,[],h=>by simp [Fy] at h
def TH (K:Fg) (a:Addr) (ts:List Str):Bool:=match K.lookup a with
 | some o=>(o.cls == .type "tuple") && (match o.data with
  | .seq its _=>decide (its.size<=1000) && Fy ts its.toList
  | _=>false)
 | none=>false
theorem ON {K:Fg} {a:Addr} {ts:List Str} (h:TH K a ts=true) (H:Hp):SqT K H a (ts.map V.str):=by
 unfold TH at h
 split at h
 ·rename_i o eo
  rw [Bool.and_eq_true,beq_iff_eq] at h
  obtain ⟨h1,h2⟩:=h
  split at h2
  ·rename_i its n ed
   rw [Bool.and_eq_true,decide_eq_true_eq] at h2
   exact .inr ⟨o,its,n,eo,h1,ed,by rw [sizeLine_eq];omega,GU h2.2⟩
  ·cases h2
 ·cases h
def Pe (K:Fg) (x:Str) (ts:List Str):Bool:=match PySem.W.nsIn K mainGlobals x with
 | some (some (.ref a))=>TH K a ts
 | _=>false
structure US (K:Fg) (mg:Str->Option Value) (x:Str) (ts:List Str):Prop where
 ex:∃ a,mg x=some (.ref a)/\∀ H,SqT K H a (ts.map V.str)
theorem US.of {K:Fg} {h:Heap} {mg:Str->Option Value} {x:Str} {ts:List Str} (X:K.In h) (G:h.Ns mainGlobals mg) (e:Pe K x ts=true):US K mg x ts:=by
 unfold Pe at e
 split at e
 ·rename_i a q
  exact ⟨a,PySem.W.mg_of X G q,ON e⟩
 ·cases e
theorem JC (k:Str):∀ xs:List Str,inV (.str k) (xs.map V.str)=decide (k∈xs)
 | []=>by simp [inV]
 | x :: xs=>by
  have:=JC k xs
  unfold inV at this ⊢
  rw [List.map_cons,List.any_cons,this]
  have e:eqV (.str x) (.str k)=decide (k=x):=by
   by_cases h:k=x
   ·subst h;simp [eqV]
   ·have h':x≠k:=fun e=>h e.symm
    simp [eqV,h,h']
  rw [e,Bool.eq_iff_iff]
  simp
def inG (neg:Bool) (ts:List Str) (f:FS->Out Rv):FS->Out Rv:=fun fs=>(f fs).bnd fun r fs=>match r with
 | .t (.str z)=>okT (.bl (if neg then !decide (z∈ts) else decide (z∈ts))) fs
 | _=>.bad
section
variable {X:Cx} {Z:Xp} {a:Expr} {x:Str} {ts:List Str} {f:FS->Out Rv} {p pos:Pos}
theorem V8 {neg:Bool} {m:Addr} {σ:St} {H:Hp} {Q:VK} (hq:∀ H,SqT X.K H m (ts.map V.str)) (h:tF X.K Z (inG neg ts f) σ H Q):tOp (rIn X.K neg) (tF X.K Z f) (tC (.ref m)) σ H Q:=by
 obtain ⟨F,B,fs,ok,s⟩:=h
 refine ⟨F,B,fs,ok,A6 s fun r fs1 F1 H1 u l ok1 rx s1=>?_⟩
 split at s1
 ·rename_i z
  have ru:u=.str z:=rx
  subst ru
  refine ⟨m,ts.map V.str,rfl,.inr (hq H1),rfl,by simp [FH],?_⟩
  rw [JC]
  exact s1 F1 H1 _ Le.refl (RR.of ok1 rfl)
 ·exact s1.elim
theorem R8 (g:US X.K X.mg x ts) (ha:FE X Z a f) (hg:Gl X x:=by rfl) (hd:(x == ("__debug__":Str))=false:=by decide):FT X Z (.Compare a [.In] [.Name x p] pos) (asB (inG false ts f)):=by
 obtain ⟨m,hm,hq⟩:=g.ex
 exact HC (Jk HE ha (HD (v:=.ref m) hg hm rfl hd) rfl) fun σ H Q h=>V8 hq (La h)
theorem Ud (g:US X.K X.mg x ts) (ha:FE X Z a f) (hg:Gl X x:=by rfl) (hd:(x == ("__debug__":Str))=false:=by decide):FT X Z (.Compare a [.NotIn] [.Name x p] pos) (asB (inG true ts f)):=by
 obtain ⟨m,hm,hq⟩:=g.ex
 exact HC (Jk EL ha (HD (v:=.ref m) hg hm rfl hd) rfl) fun σ H Q h=>V8 hq (La h)
end
end FL
namespace FL
open PySem PySem.Spec L2 PyProof.Rows
def EU (P:Params) (K:Fg):List DictEntry->List (Str×List Str)->Prop
 | [],[]=>True
 | e :: r,kt :: tab=>e.hash=PyData.keyHash P kt.1/\(∃ t b,e.key=.str kt.1 t/\e.val=.ref b/\TH K b kt.2=true)/\EU P K r tab
 | _,_=>False
def tabAt (tab:List (Str×List Str)) (k:Str):Option (List Str):=(tab.find? fun p=>decide (p.1=k)).map (·.2)
def MQ (es:List DictEntry) (tab:List (Str×List Str)):List (Key×Value):=(tab.zip es).map fun p=>((.inr p.1.1:Key),p.2.val)
theorem PD {P:Params} {K:Fg}:∀ {es:List DictEntry} {tab:List (Str×List Str)} {k:Str} {ts:List Str},EU P K es tab->tabAt tab k=some ts->∃ b,valueAt (MQ es tab) (.inr k:Key)=some (.ref b)/\TH K b ts=true
 | [],[],k,ts,_,e=>by simp [tabAt] at e
 | e :: r,kt :: tab,k,ts,h,e2=>by
  obtain ⟨_,⟨t,b,_,hv,hk⟩,h3⟩:=h
  unfold tabAt at e2
  rw [List.find?_cons] at e2
  unfold MQ valueAt
  rw [List.zip_cons_cons,List.map_cons,List.find?_cons]
  by_cases q:kt.1=k
  ·rw [decide_eq_true q] at e2
   have e3:kt.2=ts:=by simpa using e2
   subst e3
   rw [decide_eq_true (show (Sum.inr kt.1:Key)=Sum.inr k by rw [q])]
   exact ⟨b,by simp [hv],hk⟩
  ·rw [decide_eq_false q] at e2
   rw [decide_eq_false (fun z=>q (Sum.inr.inj z))]
   exact PD h3 e2
 | [],_ :: _,_,_,h,_=>h.elim
 | _ :: _,[],_,_,h,_=>h.elim
theorem KJ {prog:Program} {w:World} {K:Fg}:∀ {es:List DictEntry} {tab:List (Str×List Str)},EU w.params K es tab->(∀ e∈es,∃ k,(BZ prog w).is k e.key=true/\e.hash=(BZ prog w).hash k)/\Pairs (BZ prog w) es (MQ es tab)/\(MQ es tab).map (·.1)=tab.map fun p=>(.inr p.1:Key)
 | [],[],_=>⟨fun e m=>(nomatch m),.nil,rfl⟩
 | e :: r,kt :: tab,h=>by
  obtain ⟨hh,⟨t,b,hk,hv,_⟩,h3⟩:=h
  obtain ⟨g1,g2,g3⟩:=KJ (prog:=prog) h3
  refine ⟨fun x m=>?_,?_,?_⟩
  ·rcases List.mem_cons.mp m with rfl | m
   ·exact ⟨.inr kt.1,by rw [hk];exact En prog w _ _,hh⟩
   ·exact g1 x m
  ·exact .cons (kv:=((.inr kt.1:Key),e.val)) (by rw [hk];exact En prog w _ _) rfl g2
  ·show (.inr kt.1:Key) :: (MQ r tab).map (·.1)=_
   rw [g3]
   rfl
 | [],_ :: _,h=>h.elim
 | _ :: _,[],h=>h.elim
structure WW (w:World) (K:Fg) (mg:Str->Option Value) (x:Str) (tab:List (Str×List Str)):Prop where
 ex:∃ a es ep,mg x=some (.ref a)/\K.lookup a=some ⟨.type "dict",none,.dict es ep,#[]⟩/\EU w.params K es.toList tab/\(tab.map fun p=>(.inr p.1:Key)).Nodup
theorem X6 {X:Cx} {m:Addr} {es:Array DictEntry} {ep:Nat} {tab:List (Str×List Str)} (hK:X.K.lookup m=some ⟨.type "dict",none,.dict es ep,#[]⟩) (he:EU X.w.params X.K es.toList tab) (hn:(tab.map fun p=>(.inr p.1:Key)).Nodup) :
  IxR X (fun x y H Q=>∃ k ts,x=.ref m/\y=.str k/\tabAt tab k=some ts/\∀ b,TH X.K b ts=true->Q (.ref b) H):=by
 intro value slice pins s σ H x y v u Q I rx ry h hs
 obtain ⟨k,ts,rfl,rfl,ht,q⟩:=h
 obtain rfl:v=Value.ref m:=rx
 obtain ⟨t,rfl⟩:=ry
 obtain ⟨g1,g2,g3⟩:=KJ (prog:=X.prog) he
 have dd:s.heap.DictOf (BZ X.prog X.w) m (MQ es.toList tab):=⟨_,es,ep,I.kIn _ _ hK,⟨rfl,rfl,rfl⟩,rfl,fun e me=>g1 e (by simpa using me),g2,by rw [g3];exact hn⟩
 obtain ⟨b,hb,hkt⟩:=PD he ht
 have hT:s.TypeIs (.ref m) "dict":=dd.mapOf.typeIs
 have h₂:wpAny (model X.prog X.w) X.A (getItem (.ref m) (.str k t)) (EP X pins σ Q) X.xe s:=wpAny_getItem_of (En X.prog X.w k t) dd.mapOf hb ⟨.ref b,H,I.tok _,rfl,q b hkt⟩
 unfold subscriptTail
 refine wpAny_bind ?_
 rw [getitemInPython_of_ne hT.not_modules]
 refine wpAny_bind (wpAny_specialOf hT PySem.F.slot_dict_getitem.lookup ?_)
 have fin:wpAny (model X.prog X.w) X.A (subscripted slice false (.ref m) (.str k t)) (fun r s₃=>wpAny (model X.prog X.w) X.A (letTemporaryGo value (.ref m) r >>= fun _=>pure r) (EP X pins σ Q) X.xe s₃) X.xe s:=by
  rw [hs]
  exact wpAny_operating (wpAny_mono h₂ (fun r s₃ h₃=>wpAny_bind (wpAny_letTemporaryGo (wpAny_pure h₃))) fun _ _ x=>x)
 first
  | exact wpAny_pure (wpAny_bind fin)
  | exact wpAny_bind (wpAny_pure (wpAny_bind fin))
  | exact wpAny_bind fin
def inB (neg:Bool) (tab:List (Str×List Str)) (fa fb:FS->Out Rv):FS->Out Rv:=fun fs=>(fa fs).bnd fun r fs=>match r with
 | .t (.str z)=>(fb fs).bnd fun r' fs=>(match r' with
  | .t (.str k)=>(match tabAt tab k with
   | some ts=>okT (.bl (if neg then !decide (z∈ts) else decide (z∈ts))) fs
   | none=>.bad)
  | _=>.bad)
 | _=>.bad
section
variable {X:Cx} {Z:Xp} {a b:Expr} {x:Str} {tab:List (Str×List Str)} {fa fb:FS->Out Rv} {p p2 pos:Pos}
theorem Pm (g:WW X.w X.K X.mg x tab) (ha:FE X Z a fa) (hb:FE X Z b fb) (hs:JX b) (hm:behindInMarks .NotIn (.Subscript (.Name x p) b p2)=false:=by rfl) (hg:Gl X x:=by rfl) (hd:(x == ("__debug__":Str))=false:=by decide) :
  FT X Z (.Compare a [.NotIn] [.Subscript (.Name x p) b p2] pos) (asB (inB true tab fa fb)):=by
 obtain ⟨m,es,ep,h1,h2,h3,h4⟩:=g.ex
 refine HC (Jk EL ha (Oq (X6 h2 h3 h4) (HD (v:=.ref m) hg h1 rfl hd) hb hs) hm) fun σ H Q h=>?_
 obtain ⟨F,B,fs,ok,s⟩:=La h
 refine ⟨F,B,fs,ok,A6 s fun r fs1 F1 H1 u l ok1 rx s1=>?_⟩
 split at s1
 ·rename_i z
  have ru:u=.str z:=rx
  subst ru
  refine ⟨F1,B,fs1,ok1,A6 s1 fun r' fs2 F2 H2 u' l2 ok2 ry s2=>?_⟩
  split at s2
  ·rename_i k
   have ru:u'=.str k:=ry
   subst ru
   split at s2
   ·rename_i ts et
    refine ⟨k,ts,rfl,rfl,et,fun b hb=>⟨b,ts.map V.str,rfl,.inr (ON hb H2),rfl,by simp [FH],?_⟩⟩
    rw [JC]
    exact s2 F2 H2 _ Le.refl (RR.of ok2 rfl)
   ·exact s2.elim
  ·exact s2.elim
 ·exact s1.elim
end
theorem Sa {X:Cx} {Z:Xp} {a b:Expr} {fa fb:FS->Out Rv} {pos:Pos} (hu:X.A.units+61 < cLine) (ha:FE X Z a fa) (hb:FE X Z b fb):FE X Z (.Compare a [.Eq] [b] pos) (Af (Mw false) fa fb):=PB (RY false hu) Vy ha hb (HK _)
end FL
namespace Sy
open PySem PySem.Spec L2 FL
abbrev Ce:List Str:=["(",")",","," "]
abbrev Dh:List (Str×List Str):=[("start",["word"]),("word",["(",")",",","end"]),("(",["word",")"]),(")",[")",",","end"]),(",",[" "]),(" ",["word"])]
def top (i:Nat):Stmt:=PySem.Challenge.pw_stairsay_k72_texts.main.body.getD i (.Pass ⟨0,0,0,0⟩)
structure Tx (w:World) (K:Fg) (mg:Str->Option Value) (cStock:Addr):Prop where
 b_all:mg "all"=none
 b_any:mg "any"=none
 b_int:mg "int"=none
 b_isinstance:mg "isinstance"=none
 b_len:mg "len"=none
 b_list:mg "list"=none
 b_min:mg "min"=none
 b_range:mg "range"=none
 b_reversed:mg "reversed"=none
 b_str:mg "str"=none
 b_sum:mg "sum"=none
 b_tuple:mg "tuple"=none
 b_zip:mg "zip"=none
 g_LETTERS:∃ t,mg "LETTERS"=some (.str ("abcdefghijklmnopqrstuvwxyz":Str) t)
 g_MOST_KINDS:∃ t,mg "MOST_KINDS"=some (.int 4 t)
 g_MOST_LETTERS:∃ t,mg "MOST_LETTERS"=some (.int 12 t)
 g_MOST_MAKERS:∃ t,mg "MOST_MAKERS"=some (.int 4 t)
 g_MOST_PARTS:∃ t,mg "MOST_PARTS"=some (.int 2 t)
 cl_Stock:Cls K cStock
 na_Stock_home_by_maker:Ez K cStock "home_by_maker"
 na_Stock_makers_by_kind:Ez K cStock "makers_by_kind"
 na_Stock_parts_by_maker:Ez K cStock "parts_by_maker"
 Dh:WW w K mg "BEHIND" Dh
 Ce:US K mg "MARKS" Ce
def E3:FS->SO :=
  (AN (AY 3 (Am TZ (Ac (BN false [none,some 0] (TR (Ac (Ab 1) (Ac (Am KC (Ac (Am CO (Ac (Ab 0) Ak)) (Ac (gc (.int 63)) Ak))) (Ac (Ab 2) Ak)))) (tgN 0) EF (Af Bd (Ab 1) (fz (Ab 0)))) Ak)))
  (AN (AY 4 (AD DH Ak))
  (AN (AY 5 (Af CB (Ab 3) (gc (.int 2147483629))))
  (AN (AY 6 (Af ES (Ab 3) (gc (.int 2))))
  (AN (Ef (Iu (Ac (gc (.int 150)) Ak)) (tgN 7) (AN (AY 5 (Af CB (Af AS (Af AS (Af Cw (Ab 5) (Ab 5)) (Ab 3)) (Ab 7)) (gc (.int 2147483629))))
  (AN (Bb (AX Er (Ab 4) (Ac (Af CB (Af Bd (AD By (Ac (fz (Ab 6)) (Ac (Af CB (Af Cw (Ab 5) (Ab 5)) (gc (.int 2147483587))) Ak))) (Af CB (Ab 3) (gc (.int 2)))) (gc (.int 1000003))) Ak)))
  (AY 6 (Af ES (Ab 6) (gc (.int 1000003)))))))
  (retS (Yz (Ab 4))))))))
def Ck:FS->Out Rv:=Dj 5 (E3)
def Gq:FS->SO :=
  (AN (AY 2 (gc (.str ("abcdefghijklmnopqrstuvwxyz":Str))))
  (AN (AY 3 (Af Cw (Af AS (Af AS (Af Cw (Ab 0) (Ab 0)) (Ab 0)) (gc (.int 1))) (gc (.int 982451653))))
  (AN (AY 4 (Af AS (gc (.int 1)) (Af CB (Ab 3) (gc (.int 12)))))
  (AN (AY 5 (Af CB (Af ES (Ab 3) (gc (.int 12))) (Ab 4)))
  (AN (AY 6 (BN false [none,some 2,some 3] (Iu (Ac (Ab 4) Ak)) (tgN 0) EF (Af Bd (Ab 1) (Af CB (Af AS (Af ES (Ab 2) (Af AS (Ab 0) (gc (.int 5)))) (Af Cw (Ab 0) (Ab 0))) (gc (.int 26))))))
  (AN (AY 7 (Af Bd (AD By (Ac (gc (.int 1)) (Ac (gc (.int 3)) (Ac (gc (.int 5)) (Ac (gc (.int 7)) (Ac (gc (.int 9)) (Ac (gc (.int 11)) Ak))))))) (Af CB (Af ES (Ab 3) (gc (.int 144))) (gc (.int 6)))))
  (AN (AY 8 (AD DH Ak))
  (AN (Ef (Iu (Ac (Ab 1) Ak)) (tgN 9) (AN (AY 10 (Af Bd (Ab 2) (Af CB (Af AS (Af ES (Ab 3) (gc (.int 864))) (Af Cw (Ab 9) (Ab 7))) (gc (.int 26)))))
  (ifS (asB (Af (gEq false) (Af CB (Af ES (Ab 3) (gc (.int 900))) (gc (.int 3))) (gc (.int 1)))) (Bb (AX Er (Ab 8) (Ac (Af Cw (Af Bd (Ab 6) (gc (.int 0))) (Af AS (Af CB (Af AS (Ab 9) (Af ES (Ab 3) (gc (.int 7)))) (gc (.int 12))) (gc (.int 1)))) Ak))) (Bb (AX Er (Ab 8) (Ac (Af AS (Af AS (fz (Fm FF (gc (.str ("":Str))) (Ac (slF (Ab 6) noP (D6 (Ab 5))) Ak))) (Ab 10)) (fz (Fm FF (gc (.str ("":Str))) (Ac (slF (Ab 6) (D6 (Af AS (Ab 5) (gc (.int 1)))) noP) Ak)))) Ak))))))
  (retS (Ab 8))))))))))
def Cd:FS->Out Rv:=Dj 9 (Gq)
def Eh:FS->SO :=
  (AN (ifS (asB (Af gLt (Ab 1) (Am CO (Ac (Ab 0) Ak)))) (retS (Af Bd (Ab 0) (fz (Ab 1)))) nxS)
  (retS (gc (.int 0))))
def Be:FS->Out Rv:=Dj 0 (Eh)
def D1:FS->SO :=
  (AN (AY 4 (Af Bd (AD By (Ac (gc (.int 0)) (Ac (gc (.int 1)) (Ac (gc (.int 1)) (Ac (gc (.int 2)) Ak))))) (Af CB (fz (AX Ha (Ab 3) Ak)) (gc (.int 4)))))
  (AN (AY 5 (AD By (Ac (fz (AX Ha (Ab 3) Ak)) (Ac (fz (AX Ha (Ab 3) Ak)) Ak))))
  (AN (AY 6 (Am CO (Ac (Ab 0) Ak)))
  (AN (ifS (FQ (Ab 2)) (AY 6 (fz (Ab 1))) nxS)
  (AN (ifS (asB (Af (gEq false) (Ab 6) (gc (.int 0)))) (retS (AD Bp Ak)) nxS)
  (retS (Am CN (Ac (BN false [none,some 0,some 6,some 5] (Iu (Ac (Ab 4) Ak)) (tgN 0) EF (Af Bd (Ab 1) (Af CB (Af Bd (Ab 3) (fz (Ab 0))) (Ab 2)))) Ak))))))))
def Cc:FS->Out Rv:=Dj 3 (D1)
def Gr:FS->SO :=
  (AN (AY 1 (Am (AA 3 Ck) (Ah (fz (Ab 0)) (Ah (gc (.int 0)) (Ah (gc (.int 3)) Ak)))))
  (AN (AY 2 (Af Bd (AD By (Ac (gc (.int 1)) (Ac (gc (.int 2)) (Ac (gc (.int 3)) (Ac (gc (.int 2)) (Ac (gc (.int 1)) (Ac (gc (.int 4)) (Ac (gc (.int 2)) (Ac (gc (.int 3)) Ak))))))))) (Af CB (fz (AX Ha (Ab 1) Ak)) (gc (.int 8)))))
  (AN (AY 3 (fz (Am (AA 2 Cd) (Ah (fz (Am (AA 2 Be) (Ah (fz (Ab 0)) (Ah (gc (.int 0)) Ak)))) (Ah (fz (Ab 2)) Ak)))))
  (AN (AY 4 (fz (Am (AA 2 Cd) (Ah (fz (Am (AA 2 Be) (Ah (fz (Ab 0)) (Ah (gc (.int 1)) Ak)))) (Ah (gc (.int 12)) Ak)))))
  (AN (AY 5 (AD DH Ak))
  (AN (AY 6 (gc (.int 0)))
  (AN (Ef (Iu (Ac (Ab 2) Ak)) (tgN 7) (AN (AY 8 (AD DH Ak))
  (AN (Ef (Iu (Ac (Af AS (gc (.int 1)) (Af CB (fz (AX Ha (Ab 1) Ak)) (Af Bd (AD By (Ac (gc (.int 4)) (Ac (gc (.int 3)) Ak))) (Am Hd (Ac (Af (gEq false) (Ab 2) (gc (.int 4))) Ak))))) Ak)) (tgN 9) (AN (Bb (AX Er (Ab 8) (Ac (AD Bp (Ac (Af Bd (Ab 4) (fz (Ab 6))) (Ac (fz (Am (AA 4 Cc) (Ah (fz (Ab 3)) (Ah (fz (Ab 7)) (Ah (Af (gEq false) (Ab 9) (gc (.int 0))) (Ah (Ab 1) Ak)))))) Ak))) Ak)))
  (AY 6 (Af AS (Ab 6) (gc (.int 1))))))
  (Bb (AX Er (Ab 5) (Ac (AD Bp (Ac (Af Bd (Ab 3) (fz (Ab 7))) (Ac (fz (Ab 8)) Ak))) Ak))))))
  (retS (Ab 5)))))))))
def Fe:FS->Out Rv:=Dj 9 (Gr)
def E2:FS->SO :=
  (AN (ifS (Fl (asB (chain gLe gLe (gc (.int 1)) (Am CO (Ac (Ab 0) Ak)) (gc (.int 12))))) (retS (gc (.bl false))) nxS)
  (retS (Am Wm (Ac (BN false [none] (itU (fz (Ab 0))) (tgN 0) EF (Af (FR false) (fz (Ab 0)) (gc (.str ("abcdefghijklmnopqrstuvwxyz":Str))))) Ak))))
def A8:FS->Out Rv:=Dj 0 (E2)
def CW:FS->SO :=
  (AN (ifS (Fl (asB (chain gLe gLe (gc (.int 1)) (Am CO (Ac (Ab 0) Ak)) (gc (.int 4))))) (fun _=>.bad) nxS)
  (AN (AY 1 Nq)
  (Ef (itU (fz (Ab 0))) (BC 2 (Ar (tgN 2) (Ar (tgN 3) Bs))) (AN (ifS (Fl (FQ (fz (Am (AA 1 A8) (Ah (fz (Ab 2)) Ak))))) (fun _=>.bad) nxS)
  (AN (ifS (asB (Af (FR false) (fz (Ab 2)) (Ab 1))) (fun _=>.bad) nxS)
  (AN (ifS (Fl (asB (chain gLe gLe (gc (.int 1)) (Am CO (Ac (Ab 3) Ak)) (gc (.int 4))))) (fun _=>.bad) nxS)
  (FX (gc (.bl true)) (Ab 1) (fz (Ab 2)))))))))
def Cr:FS->Out Rv:=Dj 3 (CW)
def CV:FS->SO :=
  (AN (ifS (Fl (FQ (fz (Am (AA 1 A8) (Ah (fz (Ab 0)) Ak))))) (fun _=>.bad) nxS)
  (AN (ifS (asB (Af (FR false) (fz (Ab 0)) (Ab 2))) (fun _=>.bad) nxS)
  (AN (ifS (asB (Af gGt (Am CO (Ac (Ab 1) Ak)) (gc (.int 2)))) (fun _=>.bad) nxS)
  (Ef (itU (fz (Ab 1))) (tgN 4) (ifS (asB (Af (FR true) (fz (Ab 4)) (Ab 3))) (fun _=>.bad) nxS)))))
def Bm:FS->Out Rv:=Dj 1 (CV)
def Cz:FS->SO :=
  (Ef (itU (fz (Ab 1))) (tgN 3) (ifS (asB (Af (FR true) (fz (Ab 3)) (Ab 2))) (fun _=>.bad) nxS))
def Bg:FS->Out Rv:=Dj 1 (Cz)
def Cy:FS->SO :=
  (AN (AY 1 (BN false [none,none] (itU (fz (Ab 0))) (BC 2 (Ar (tgN 0) (Ar (tgN 1) Bs))) EF (fz (Ab 0))))
  (AN (AY 2 (AD DH Ak))
  (AN (AY 3 Nq)
  (Ef (itU (fz (Ab 0))) (BC 2 (Ar (tgN 4) (Ar (tgN 5) Bs))) (AN (AY 6 (Af Bd (Af Bd (Ab 5) (gc (.int 0))) (gc (.int 0))))
  (AN (Ef (itU (fz (Ab 5))) (BC 2 (Ar (tgN 7) (Ar (tgN 8) Bs))) (AN (Bb (Am (AA 4 Bm) (Ah (fz (Ab 7)) (Ah (fz (Ab 8)) (Ah (Ab 3) (Ah (fz (Ab 1)) Ak))))))
  (AN (ifS (asB (Af (gEq false) (Ab 7) (Ab 6))) (Bb (Am (AA 3 Bg) (Ah (fz (Ab 7)) (Ah (fz (Ab 8)) (Ah (Ab 2) Ak))))) nxS)
  (FX (gc (.bl true)) (Ab 3) (fz (Ab 7))))))
  (Bb (AX Er (Ab 2) (Ac (fz (Ab 4)) Ak)))))))))
def BY:FS->Out Rv:=Dj 8 (Cy)
def Ds (cStock:Addr):FS->SO :=
  (AN (Bb (Am (AA 1 Cr) (Ah (fz (Ab 1)) Ak)))
  (AN (Bb (Am (AA 1 BY) (Ah (fz (Ab 1)) Ak)))
  (AN (UP cStock "makers_by_kind" 0 Nq)
  (AN (UP cStock "parts_by_maker" 0 Nq)
  (AN (UP cStock "home_by_maker" 0 Nq)
  (Ef (itU (fz (Ab 1))) (BC 2 (Ar (tgN 2) (Ar (tgN 3) Bs))) (AN (Eg cStock "makers_by_kind" 0 2 (BN false [none,none] (itU (fz (Ab 3))) (BC 2 (Ar (tgN 0) (Ar (tgN 1) Bs))) EF (fz (Ab 0))))
  (Ef (itU (fz (Ab 3))) (BC 2 (Ar (tgN 4) (Ar (tgN 5) Bs))) (AN (Eg cStock "parts_by_maker" 0 4 (Am CN (Ac (Ab 5) Ak)))
  (Eg cStock "home_by_maker" 0 4 (fz (Ab 2))))))))))))
def Cj (cStock:Addr):FS->Out Rv:=Dj 4 (Ds cStock)
def JU:FS->SO :=
  (AN (AY 2 (AD By Ak))
  (AN (Ef (itU (fz (Ab 1))) (BC 2 (Ar (tgN 3) (Ar (tgN 4) Bs))) (AY 2 (fz (Af AS (Ab 2) (BN false [none,none] (itU (fz (Ab 4))) (BC 2 (Ar (tgN 0) (Ar (tgN 1) Bs))) EF (fz (Ab 0)))))))
  (retS (AD Bp (Ac (fz (Ab 2)) (Ac (fz (Am (AA 2 Cd) (Ah (fz (Am (AA 2 Be) (Ah (fz (Ab 0)) (Ah (gc (.int 2)) Ak)))) (Ah (gc (.int 5)) Ak)))) Ak))))))
def Gh:FS->Out Rv:=Dj 3 (JU)
def Dg (rec:FS->Out Rv):FS->SO :=
  (AN (AY 4 (fz (AX Ha (Ab 2) Ak)))
  (AN (AY 5 (Af AS (Ab 1) (Ab 0)))
  (AN (ifS (orT (asB (Af (gEq false) (Ab 3) (gc (.int 0)))) (asB (Af (gEq false) (Af CB (Ab 4) (gc (.int 5))) (gc (.int 0))))) (retS (AD Bp (Ac (gc (.str ("name":Str))) (Ac (Af Bd (Ab 5) (Af CB (Af ES (Ab 4) (gc (.int 5))) (Am CO (Ac (Ab 5) Ak)))) Ak)))) nxS)
  (AN (AY 6 (AD DH Ak))
  (AN (Ef (Iu (Ac (Af Bd (AD By (Ac (gc (.int 0)) (Ac (gc (.int 1)) (Ac (gc (.int 2)) (Ac (gc (.int 3)) (Ac (gc (.int 1)) (Ac (gc (.int 2)) Ak))))))) (Af CB (Af ES (Ab 4) (gc (.int 5))) (gc (.int 6)))) Ak)) (tgN 7) (Bb (AX Er (Ab 6) (Ac (fz (Am (AA 4 rec) (Ah (fz (Ab 0)) (Ah (fz (Ab 1)) (Ah (Ab 2) (Ah (Af KA (Ab 3) (gc (.int 1))) Ak)))))) Ak))))
  (AN (AY 8 (Af Bd (Ab 5) (Af CB (Af ES (Ab 4) (gc (.int 30))) (Am CO (Ac (Ab 5) Ak)))))
  (AN (ifS (asB (Af (FR false) (fz (Ab 8)) (Ab 0))) (retS (AD Bp (Ac (gc (.str ("make":Str))) (Ac (fz (Ab 8)) (Ac (Am CN (Ac (Ab 6) Ak)) Ak))))) nxS)
  (retS (AD Bp (Ac (gc (.str ("call":Str))) (Ac (fz (Ab 8)) (Ac (Am CN (Ac (Ab 6) Ak)) Ak))))))))))))
def Br:Nat->FS->Out Rv
 | 0=>fun _=>.bad
 | n+1=>Dj 5 (Dg (Br n))
def JV (rec:FS->Out Rv):FS->SO :=
  (AN (ifS (asB (Af (gEq false) (Af Bd (Ab 0) (gc (.int 0))) (gc (.str ("name":Str))))) (retS (Af Bd (Ab 0) (gc (.int 1)))) nxS)
  (retS (Af AS (Af AS (Af AS (Af Bd (Ab 0) (gc (.int 1))) (gc (.str ("(":Str)))) (fz (Fm FF (gc (.str (", ":Str))) (Ac (BN false [none] (itU (Af Bd (Ab 0) (gc (.int 2)))) (tgN 0) EF (fz (Am (AA 1 rec) (Ah (fz (Ab 0)) Ak)))) Ak)))) (gc (.str (")":Str))))))
def DS:Nat->FS->Out Rv
 | 0=>fun _=>.bad
 | n+1=>Dj 0 (JV (DS n))
def Fj (rec:FS->Out Rv):FS->SO :=
  (AN (ifS (asB (Af (gEq false) (Af Bd (Ab 0) (gc (.int 0))) (gc (.str ("name":Str))))) (retS (Af Bd (Ab 0) (gc (.int 1)))) nxS)
  (AN (Sm (fz (Ab 0)) (BC 3 (Ar (tgN 1) (Ar (tgN 2) (Ar (tgN 3) Bs)))))
  (AN (AY 4 (fz (Fm FF (gc (.str (", ":Str))) (Ac (BN false [none] (itU (fz (Ab 3))) (tgN 0) EF (fz (Am (AA 1 rec) (Ah (fz (Ab 0)) Ak)))) Ak))))
  (retS (jsF ((fvF (Ab 2)) :: ((gc (.str ("(":Str))) :: ((fvF (Ab 4)) :: ((gc (.str (")":Str))) :: [])))) Str.empty)))))
def Bq:Nat->FS->Out Rv
 | 0=>fun _=>.bad
 | n+1=>Dj 4 (Fj (Bq n))
def FN:FS->SO :=
  (AN (AY 1 (AD DH Ak))
  (AN (AY 2 (gc (.str ("":Str))))
  (AN (Ef (itU (fz (Ab 0))) (tgN 3) (ifS (asB (inG false Ce (Ab 3))) (AN (Bb (AX Lz (Ab 1) (Ac (AD By (Ac (fz (Ab 2)) (Ac (fz (Ab 3)) Ak))) Ak)))
  (AY 2 (gc (.str ("":Str))))) (WO 2 (Ab 3))))
  (retS (BN false [none] (itU (fz (Af AS (Ab 1) (AD By (Ac (fz (Ab 2)) Ak))))) (tgN 0) (asB (Af (gEq true) (Ab 0) (gc (.str ("":Str))))) (fz (Ab 0)))))))
def C9:FS->Out Rv:=Dj 3 (FN)
def Gn:FS->SO :=
  (AN (ifS (asB (inG false Ce (Ab 0))) (retS (Ab 0)) nxS)
  (AN (ifS (Fl (FQ (fz (Am (AA 1 A8) (Ah (fz (Ab 0)) Ak))))) (fun _=>.bad) nxS)
  (retS (gc (.str ("word":Str))))))
def CS:FS->Out Rv:=Dj 0 (Gn)
def BG:FS->SO :=
  (AN (AY 1 (gc (.str ("start":Str))))
  (AN (Ef (itU (fz (Ab 0))) (tgN 2) (AN (AY 3 (fz (Am (AA 1 CS) (Ah (fz (Ab 2)) Ak))))
  (AN (ifS (asB (inB true Dh (Ab 3) (Ab 1))) (fun _=>.bad) nxS)
  (AY 1 (fz (Ab 3))))))
  (ifS (asB (inB true Dh (gc (.str ("end":Str))) (Ab 1))) (fun _=>.bad) nxS)))
def A9:FS->Out Rv:=Dj 3 (BG)
def BS:FS->SO :=
  (AN (AY 1 (gc (.int 0)))
  (AN (Ef (itU (fz (Ab 0))) (tgN 2) (AN (ifS (Sn (asB (Af (FR false) (fz (Ab 2)) (AD Bp (Ac (gc (.str (")":Str))) (Ac (gc (.str (",":Str))) Ak))))) (asB (Af (gEq false) (Ab 1) (gc (.int 0))))) (fun _=>.bad) nxS)
  (AN (ifS (asB (Af (gEq false) (Ab 2) (gc (.str ("(":Str))))) (W9 1 (gc (.int 1))) nxS)
  (ifS (asB (Af (gEq false) (Ab 2) (gc (.str (")":Str))))) (Xa 1 (gc (.int 1))) nxS))))
  (ifS (asB (Af gGt (Ab 1) (gc (.int 0)))) (fun _=>.bad) nxS)))
def Bk:FS->Out Rv:=Dj 2 (BS)
def CA (cStock:Addr):FS->SO :=
  (AN (ifS (asB (Af (FR true) (fz (Ab 1)) (UQ cStock "makers_by_kind" (Ab 0)))) (fun _=>.bad) nxS)
  (retS (Am Pg (Ac (Af Bd (UQ cStock "makers_by_kind" (Ab 0)) (fz (Ab 1))) Ak))))
def A7 (cStock:Addr):FS->Out Rv:=Dj 0 (CA cStock)
def CY (cStock:Addr):FS->SO :=
  (retS (Am Pg (Ac (UQ cStock "makers_by_kind" (Ab 0)) Ak)))
def Bn (cStock:Addr):FS->Out Rv:=Dj 0 (CY cStock)
def GN (cStock:Addr):FS->SO :=
  (retS (Am Wk (Ac (BN false [none,some 1,some 0] (itU (fz (GB cStock "kinds" 1 (Bn cStock) (fz (Ab 0)) Ak))) (tgN 0) EF (Af (FR false) (fz (Ab 1)) (fz (GB cStock "makers" 2 (A7 cStock) (fz (Ab 2)) (Ah (fz (Ab 0)) Ak))))) Ak)))
def Dc (cStock:Addr):FS->Out Rv:=Dj 0 (GN cStock)
def DA (cStock:Addr):FS->SO :=
  (retS (AD Bp (Ac (ifV (FQ (fz (Am (AA 2 (Dc cStock)) (Ah (fz (Ab 0)) (Ah (fz (Ab 1)) Ak))))) (gc (.str ("make":Str))) (gc (.str ("call":Str)))) (Ac (fz (Ab 1)) (Ac (fz (Ab 2)) Ak)))))
def BB (cStock:Addr):FS->Out Rv:=Dj 0 (DA cStock)
def E1 (cStock:Addr):FS->SO :=
  (AN (AY 2 (AD DH Ak))
  (AN (AY 3 Ts)
  (AN (Ef (itZ (Ab 1) (fz (Af AS (slF (Ab 1) (D6 (gc (.int 1))) noP) (AD By (Ac (gc (.str ("":Str))) Ak))))) (BC 2 (Ar (tgN 4) (Ar (tgN 5) Bs))) (ifS (asB (Af (gEq false) (Ab 4) (gc (.str ("(":Str))))) (UR 3 (AD DH Ak)) (ifS (asB (Af (gEq false) (Ab 4) (gc (.str (")":Str))))) (AN (AY 6 (Am CN (Ac (fz (RM 3)) Ak)))
  (E4 3 (fz (Am (AA 3 (BB cStock)) (Ah (fz (Ab 0)) (Ah (fz (AX Ha (Ab 2) Ak)) (Ah (fz (Ab 6)) Ak))))))) (ifS (asB (Af (gEq false) (Ab 5) (gc (.str ("(":Str))))) (Bb (AX Er (Ab 2) (Ac (fz (Ab 4)) Ak))) (ifS (asB (inG true Ce (Ab 4))) (E4 3 (AD Bp (Ac (gc (.str ("name":Str))) (Ac (fz (Ab 4)) Ak)))) nxS)))))
  (retS (X4 3)))))
def CM (cStock:Addr):FS->Out Rv:=Dj 5 (E1 cStock)
def Ih (cStock:Addr):FS->SO :=
  (AN (AY 2 (fz (Am (AA 1 C9) (Ah (fz (Ab 1)) Ak))))
  (AN (Bb (Am (AA 1 A9) (Ah (fz (Ab 2)) Ak)))
  (AN (Bb (Am (AA 1 Bk) (Ah (fz (Ab 2)) Ak)))
  (retS (Am (AA 2 (CM cStock)) (Ah (fz (Ab 0)) (Ah (fz (Ab 2)) Ak)))))))
def Dp (cStock:Addr):FS->Out Rv:=Dj 1 (Ih cStock)
def Ho (rec:FS->Out Rv):FS->SO :=
  (AN (ifS (orT (Fl (FQ (isF "tuple" (Ab 0)))) (orT (asB (Af gLt (Am CO (Ac (Ab 0) Ak)) (gc (.int 2)))) (asB (Af (Mw true) (BN false [none] (itU (slF (Ab 0) noP (D6 (gc (.int 2))))) (tgN 0) (Fl (FQ (isF "str" (Ab 0)))) (fz (Ab 0))) (AD By Ak))))) (retS (gc (.bl false))) nxS)
  (AN (ifS (asB (Af (gEq false) (Af Bd (Ab 0) (gc (.int 0))) (gc (.str ("name":Str))))) (retS (Af (gEq false) (Am CO (Ac (Ab 0) Ak)) (gc (.int 2)))) nxS)
  (AN (ifS (orT (asB (Af (gEq true) (Am CO (Ac (Ab 0) Ak)) (gc (.int 3)))) (Fl (FQ (isF "tuple" (Af Bd (Ab 0) (gc (.int 2))))))) (retS (gc (.bl false))) nxS)
  (retS (Af (Mw false) (BN false [none] (itU (Af Bd (Ab 0) (gc (.int 2)))) (tgN 0) (Fl (FQ (fz (Am (AA 1 rec) (Ah (fz (Ab 0)) Ak))))) (fz (Ab 0))) (AD By Ak))))))
def CD:Nat->FS->Out Rv
 | 0=>fun _=>.bad
 | n+1=>Dj 0 (Ho (CD n))
def Gp (rec:FS->Out Rv):FS->SO :=
  (AN (ifS (asB (Af (gEq false) (Af Bd (Ab 0) (gc (.int 0))) (gc (.str ("name":Str))))) (retS (Ab 0)) nxS)
  (AN (AY 2 (Af Bd (AD By (Ac (gc (.str ("call":Str))) (Ac (gc (.str ("make":Str))) Ak))) (Am Hd (Ac (Af (gEq false) (Af Bd (Ab 0) (gc (.int 1))) (Ab 1)) Ak))))
  (retS (AD Bp (Ac (fz (Ab 2)) (Ac (Af Bd (Ab 0) (gc (.int 1))) (Ac (Am CN (Ac (BN false [none,some 1] (itU (Af Bd (Ab 0) (gc (.int 2)))) (tgN 0) EF (fz (Am (AA 2 rec) (Ah (fz (Ab 0)) (Ah (fz (Ab 1)) Ak))))) Ak)) Ak)))))))
def BR:Nat->FS->Out Rv
 | 0=>fun _=>.bad
 | n+1=>Dj 1 (Gp (BR n))
def P7 (cStock:Addr):FS->SO :=
  (AN (AY 1 (fz (Am (AA 1 Fe) (Ah (fz (Ab 0)) Ak))))
  (AN (AY 2 (fz (Am (Kr cStock 2 (Cj cStock)) (Ah (fz (Ab 1)) Ak))))
  (AN (Sm (fz (Am (AA 2 Gh) (Ah (fz (Ab 0)) (Ah (fz (Ab 1)) Ak)))) (BC 2 (Ar (tgN 3) (Ar (tgN 4) Bs))))
  (AN (AY 5 (fz (Am (AA 4 (Br 60)) (Ah (fz (Ab 3)) (Ah (fz (Ab 4)) (Ah (Am (AA 3 Ck) (Ah (fz (Ab 0)) (Ah (gc (.int 1)) (Ah (gc (.int 3)) Ak)))) (Ah (gc (.int 4)) Ak)))))))
  (AN (AY 6 (fz (Am (AA 1 (DS 60)) (Ah (fz (Ab 5)) Ak))))
  (AN (AY 7 (fz (Am (AA 1 (Bq 60)) (Ah (fz (Ab 5)) Ak))))
  (AN (ifS (orT (Fl (FQ (isF "str" (Ab 7)))) (asB (Af (gEq true) (Ab 7) (Ab 6)))) (retS (gc (.bl false))) nxS)
  (AN (AY 8 (fz (Am (AA 2 (Dp cStock)) (Ah (fz (Ab 2)) (Ah (fz (Ab 6)) Ak)))))
  (AN (ifS (orT (Fl (FQ (fz (Am (AA 1 (CD 60)) (Ah (fz (Ab 8)) Ak))))) (asB (Af (Mw true) (Ab 8) (Ab 5)))) (retS (gc (.bl false))) nxS)
  (AN (AY 9 (fz (Am (Kr cStock 2 (Cj cStock)) (Ah (AD By (Ac (AD Bp (Ac (Af Bd (Af Bd (Ab 1) (gc (.int 0))) (gc (.int 0))) (Ac (AD By (Ac (AD Bp (Ac (Af Bd (Ab 3) (gc (.int 0))) (Ac (AD Bp Ak) Ak))) Ak)) Ak))) Ak)) Ak))))
  (AN (AY 10 (fz (Am (AA 2 (Dp cStock)) (Ah (fz (Ab 9)) (Ah (fz (Ab 6)) Ak)))))
  (AN (ifS (orT (Fl (FQ (fz (Am (AA 1 (CD 60)) (Ah (fz (Ab 10)) Ak))))) (asB (Af (Mw true) (Ab 10) (fz (Am (AA 2 (BR 60)) (Ah (fz (Ab 5)) (Ah (Af Bd (Ab 3) (gc (.int 0))) Ak))))))) (retS (gc (.bl false))) nxS)
  (retS (Xc (Af (Mw false) (fz (Am (AA 2 (Dp cStock)) (Ah (fz (Ab 2)) (Ah (fz (Ab 6)) Ak)))) (Ab 5)) (Af (gEq false) (fz (Am (AA 1 (Bq 60)) (Ah (fz (Ab 10)) Ak))) (Ab 6))))))))))))))))
def Ul (cStock:Addr):FS->Out Rv:=Dj 10 (P7 cStock)
section
variable {P:Program} {w:World} {K:Fg} {mg:Str->Option Value} {base:Heap}
abbrev DL:Stmt:=top 37
theorem HA:AZ ["_law_script","_law_k"] ["_law_script","_law_k"] (Ao DL):=⟨rfl,rfl,rfl,by decide +kernel,rfl,by decide +kernel,by decide +kernel⟩
theorem Lp {f:Addr} {fd:FuncData} {cStock:Addr} (Fu:Fun K "_law_cell_at" "_law_cell_at" DL f fd) (T:Tx w K mg cStock) :Dv P w K mg base CX0 1 f fd ["_law_script","_law_k"] (spF K 2 (Be)) :=
 C0 (k:=0) (g:=Eh) Fu HA 2 0 rfl rfl (fun cdv A outer s H E hr=>by
  have nd:=HA.nd
  have hu:=CZ hr
  exact (Ad (BK (Wq (As 1) (Ey T.b_len (Ae (As 0) Au))) (Al (Bf (BQ hu (As 0) (Aq (As 1)) (fun _ _=>rfl)))) AR)
   (Al (Bf An))))
abbrev Ed:Stmt:=top 39
theorem IF:AZ ["_law_script","_law_at","_law_parts_here","_law_drawn","_law_got","_law_first","_law_rest","_law_k"] ["_law_script","_law_at","_law_parts_here"] (Ao Ed):=⟨rfl,rfl,rfl,by decide +kernel,rfl,by decide +kernel,by decide +kernel⟩
theorem Nc {f:Addr} {fd:FuncData} {cStock:Addr} (Fu:Fun K "_law_digits" "_law_digits" Ed f fd) (T:Tx w K mg cStock) :Dv P w K mg base CX0 1 f fd ["_law_script","_law_at","_law_parts_here"] (spF K 3 (Ck)) :=
 C0 (k:=0) (g:=E3) Fu IF 3 5 rfl rfl (fun cdv A outer s H E hr=>by
  have nd:=IF.nd
  have hu:=CZ hr
  exact (Ad (AK 3 nd (Or.inl rfl) (Wt T.b_sum (Ae (Dz false ["_law_k","_law_script"] [none,some 0] rfl (Pt (Ae (As 1) (Ae (Uj T.b_min (Ae (Ey T.b_len (Ae (As 0) Au)) (Ae An Au))) (Ae (As 2) Au))) (fun ha=>Ol rfl T.b_range ha)) (fun _ _ _ _ _=>(AH 0 (by show List.Nodup (["_law_k","_law_script"]:List Str);decide +kernel) (Or.inl rfl) (hf:=.inr rfl))) (fun _ _ _ _ _=>DQ) (fun _ _ _ _ _=>(BQ hu (As 1) (Aq (As 0)) (fun _ _=>rfl)))) Au)))
   (Ad (AK 4 nd (Or.inl rfl) (Es Au))
   (Ad (AK 5 nd (Or.inl rfl) (CL (As 3) An))
   (Ad (AK 6 nd (Or.inl rfl) (ET (As 3) An))
   (Ad (Dn PassesOwn.never rfl (DR T.b_range (Ae An Au)) (AH 7 nd (Or.inl rfl)) (Ad (AK 5 nd (Or.inl rfl) (CL (Cu (Cu (HY (As 5) (As 5)) (As 3)) (As 7)) An))
   (Ad (CF (JL GY PySem.F.slot_list_append PySem.F.type_list_append Ci (As 4) (Ae (CL (BQ hu (DD (Ae (Aq (As 6)) (Ae (CL (HY (As 5) (As 5)) An) Au))) (CL (As 3) An) (fun _ _=>rfl)) An) Au)))
   (Al (AK 6 nd (Or.inl rfl) (ET (As 6) An))))))
   (Al (Bf (Nt rfl T.b_list T.b_reversed (As 4))))))))))
abbrev E9:Stmt:=top 42
theorem Kc:AZ ["_law_script","_law_purse","_law_many","_law_names_here","_law_makers","_law_got","_law_used","_law_at","_law_rows","_law_k"] ["_law_script"] (Ao E9):=⟨rfl,rfl,rfl,by decide +kernel,rfl,by decide +kernel,by decide +kernel⟩
theorem OA {f:Addr} {fd:FuncData} {cStock:Addr} (Fu:Fun K "_law_kinds" "_law_kinds" E9 f fd) (T:Tx w K mg cStock) (G_Lparts:FnAt P w K mg base CX0 "_law_parts" 1 ["_law_names_here","_law_at","_law_first","_law_purse"] (spF K 4 Cc)) (G_Lcell_at:FnAt P w K mg base CX0 "_law_cell_at" 1 ["_law_script","_law_k"] (spF K 2 Be)) (G_Lnames:FnAt P w K mg base CX0 "_law_names" 1 ["_law_cell","_law_count"] (spF K 2 Cd)) (G_Ldigits:FnAt P w K mg base CX0 "_law_digits" 1 ["_law_script","_law_at","_law_parts_here"] (spF K 3 Ck)):Dv P w K mg base CX0 2 f fd ["_law_script"] (spF K 1 (Fe)) :=
 C0 (k:=1) (g:=Gr) Fu Kc 1 9 rfl rfl (fun cdv A outer s H E hr=>by
  have nd:=Kc.nd
  have hu:=CZ hr
  exact (Ad (AK 1 nd (Or.inl rfl) (BL G_Ldigits (hr.mono (by first | decide | omega)) (Ai (Aq (As 0)) (Ai An (Ai An AJ)))))
   (Ad (AK 2 nd (Or.inl rfl) (BQ hu (DD (Ae An (Ae An (Ae An (Ae An (Ae An (Ae An (Ae An (Ae An Au))))))))) (CL (Aq (H0 HL PySem.F.slot_list_pop PySem.F.type_list_pop EN (As 1))) An) (fun _ _=>rfl)))
   (Ad (AK 3 nd (Or.inl rfl) (Aq (BL G_Lnames (hr.mono (by first | decide | omega)) (Ai (Aq (BL G_Lcell_at (hr.mono (by first | decide | omega)) (Ai (Aq (As 0)) (Ai An AJ)))) (Ai (Aq (As 2)) AJ)))))
   (Ad (AK 4 nd (Or.inl rfl) (Aq (BL G_Lnames (hr.mono (by first | decide | omega)) (Ai (Aq (BL G_Lcell_at (hr.mono (by first | decide | omega)) (Ai (Aq (As 0)) (Ai An AJ)))) (Ai An AJ)))))
   (Ad (AK 5 nd (Or.inl rfl) (Es Au))
   (Ad (AK 6 nd (Or.inl rfl) An)
   (Ad (Dn PassesOwn.never rfl (DR T.b_range (Ae (As 2) Au)) (AH 7 nd (Or.inl rfl)) (Ad (AK 8 nd (Or.inl rfl) (Es Au))
   (Ad (Dn PassesOwn.never rfl (DR T.b_range (Ae (Cu An (CL (Aq (H0 HL PySem.F.slot_list_pop PySem.F.type_list_pop EN (As 1))) (BQ hu (DD (Ae An (Ae An Au))) (Px T.b_int (Ae (Pz (As 2) An) Au)) (fun _ _=>rfl)))) Au)) (AH 9 nd (Or.inl rfl)) (Ad (CF (JL GY PySem.F.slot_list_append PySem.F.type_list_append Ci (As 8) (Ae (DY (Ae (BQ hu (As 4) (Aq (As 6)) (fun _ _=>rfl)) (Ae (Aq (BL G_Lparts (hr.mono (by first | decide | omega)) (Ai (Aq (As 3)) (Ai (Aq (As 7)) (Ai (Pz (As 9) An) (Ai (As 1) AJ)))))) Au))) Au)))
   (Al (AK 6 nd (Or.inl rfl) (Cu (As 6) An)))))
   (Al (CF (JL GY PySem.F.slot_list_append PySem.F.type_list_append Ci (As 5) (Ae (DY (Ae (BQ hu (As 3) (Aq (As 7)) (fun _ _=>rfl)) (Ae (Aq (As 8)) Au))) Au)))))))
   (Al (Bf (As 5)))))))))))
abbrev E8:Stmt:=top 40
theorem Kb:AZ ["_law_cell","_law_count","_law_letters","_law_mixed","_law_wide","_law_at","_law_base","_law_step","_law_got","_law_k","_law_turned_on"] ["_law_cell","_law_count"] (Ao E8):=⟨rfl,rfl,rfl,by decide +kernel,rfl,by decide +kernel,by decide +kernel⟩
theorem Oz {f:Addr} {fd:FuncData} {cStock:Addr} (Fu:Fun K "_law_names" "_law_names" E8 f fd) (T:Tx w K mg cStock) :Dv P w K mg base CX0 1 f fd ["_law_cell","_law_count"] (spF K 2 (Cd)) :=
 C0 (k:=0) (g:=Gq) Fu Kb 2 9 rfl rfl (fun cdv A outer s H E hr=>by
  have nd:=Kb.nd
  have hu:=CZ hr
  exact (Ad (AK 2 nd (Or.inr rfl) Bh)
   (Ad (AK 3 nd (Or.inr rfl) (HY (Cu (Cu (HY (As 0) (As 0)) (As 0)) An) An))
   (Ad (AK 4 nd (Or.inl rfl) (Cu An (CL (As 3) An)))
   (Ad (AK 5 nd (Or.inl rfl) (CL (ET (As 3) An) (As 4)))
   (Ad (IP false 6 ["_law_k","_law_letters","_law_mixed"] [none,some 2,some 3] rfl nd (Or.inl rfl) (DR T.b_range (Ae (As 4) Au)) (fun _ _ _ _ _=>(AH 0 (by show List.Nodup (["_law_k","_law_letters","_law_mixed"]:List Str);decide +kernel) (Or.inl rfl) (hf:=.inr rfl))) (fun _ _ _ _ _=>DQ) (fun _ _ _ _ _=>(BQ hu (As 1) (CL (Cu (ET (As 2) (Cu (As 0) An)) (HY (As 0) (As 0))) An) (fun _ _=>rfl))))
   (Ad (AK 7 nd (Or.inl rfl) (BQ hu (DD (Ae An (Ae An (Ae An (Ae An (Ae An (Ae An Au))))))) (CL (ET (As 3) An) An) (fun _ _=>rfl)))
   (Ad (AK 8 nd (Or.inl rfl) (Es Au))
   (Ad (Dn PassesOwn.never rfl (DR T.b_range (Ae (As 1) Au)) (AH 9 nd (Or.inl rfl)) (Ad (AK 10 nd (Or.inl rfl) (BQ hu (As 2) (CL (Cu (ET (As 3) An) (HY (As 9) (As 7))) An) (fun _ _=>rfl)))
   (Al (BK (FG (CL (ET (As 3) An) An) An) (Al (CF (JL GY PySem.F.slot_list_append PySem.F.type_list_append Ci (As 8) (Ae (HY (BQ hu (As 6) An (fun _ _=>rfl)) (Cu (CL (Cu (As 9) (ET (As 3) An)) An) An)) Au)))) (Al (CF (JL GY PySem.F.slot_list_append PySem.F.type_list_append Ci (As 8) (Ae (Cu (Cu (Aq (Mz Jw PySem.F.slot_str_join PySem.F.type_str_join Js Bh (Ae (Rb (As 6) JK (JJ (As 5))) Au))) (As 10)) (Aq (Mz Jw PySem.F.slot_str_join PySem.F.type_str_join Js Bh (Ae (Rb (As 6) (JJ (Cu (As 5) An)) JK) Au)))) Au))))))))
   (Al (Bf (As 8))))))))))))
abbrev E7:Stmt:=top 41
theorem Ka:AZ ["_law_names_here","_law_at","_law_first","_law_purse","_law_many","_law_picks","_law_open_to"] ["_law_names_here","_law_at","_law_first","_law_purse"] (Ao E7):=⟨rfl,rfl,rfl,by decide +kernel,rfl,by decide +kernel,by decide +kernel⟩
theorem Oy {f:Addr} {fd:FuncData} {cStock:Addr} (Fu:Fun K "_law_parts" "_law_parts" E7 f fd) (T:Tx w K mg cStock) :Dv P w K mg base CX0 1 f fd ["_law_names_here","_law_at","_law_first","_law_purse"] (spF K 4 (Cc)) :=
 C0 (k:=0) (g:=D1) Fu Ka 4 3 rfl rfl (fun cdv A outer s H E hr=>by
  have nd:=Ka.nd
  have hu:=CZ hr
  exact (Ad (AK 4 nd (Or.inl rfl) (BQ hu (DD (Ae An (Ae An (Ae An (Ae An Au))))) (CL (Aq (H0 HL PySem.F.slot_list_pop PySem.F.type_list_pop EN (As 3))) An) (fun _ _=>rfl)))
   (Ad (AK 5 nd (Or.inr rfl) (DD (Ae (Aq (H0 HL PySem.F.slot_list_pop PySem.F.type_list_pop EN (As 3))) (Ae (Aq (H0 HL PySem.F.slot_list_pop PySem.F.type_list_pop EN (As 3))) Au))))
   (Ad (AK 6 nd (Or.inr rfl) (Ey T.b_len (Ae (As 0) Au)))
   (Ad (BK (CC (As 2) (fun _=>rfl)) (Al (AK 6 nd (Or.inr rfl) (Aq (As 1)))) AR)
   (Ad (BK (FG (As 6) An) (Al (Bf (DY Au))) AR)
   (Al (Bf (Fd T.b_tuple (Ae (Dz false ["_law_k","_law_names_here","_law_open_to","_law_picks"] [none,some 0,some 6,some 5] rfl (DR T.b_range (Ae (As 4) Au)) (fun _ _ _ _ _=>(AH 0 (by show List.Nodup (["_law_k","_law_names_here","_law_open_to","_law_picks"]:List Str);decide +kernel) (Or.inl rfl) (hf:=.inr rfl))) (fun _ _ _ _ _=>DQ) (fun _ _ _ _ _=>(BQ hu (As 1) (CL (BQ hu (As 3) (Aq (As 0)) (fun _ _=>rfl)) (As 2)) (fun _ _=>rfl)))) Au))))))))))
abbrev E6:Stmt:=top 46
theorem J9:AZ ["_law_got"] ["_law_got"] (Ao E6):=⟨rfl,rfl,rfl,by decide +kernel,rfl,by decide +kernel,by decide +kernel⟩
theorem Kp {f:Addr} {fd:FuncData} {cStock:Addr} (Fu:Fun K "_law_shape" "_law_shape" E6 f fd) (T:Tx w K mg cStock)  (hat:∀ k sp,Dv P w K mg base CX0 k f fd ["_law_got"] sp->FnAt P w K mg base CX0 "_law_shape" k ["_law_got"] sp):∀ n,Dv P w K mg base CX0 (1+n) f fd ["_law_got"] (spF K 1 (CD n))
 | 0=>⟨fun vs H Q E h=>by rw [h.1];rfl,fun A outer s H args us vs Q E hr he hb hv h=>by obtain ⟨_,F,fs0,ok,h⟩:=h;exact h.elim⟩
 | n+1=>by
  have Grec:=hat _ _ (Kp Fu T  hat n)
  have hb:=C0 (P:=P) (w:=w) (mg:=mg) (base:=base) (k:=1+n) (g:=Ho (CD n)) Fu J9 1 0 rfl rfl (fun cdv A outer s H E hr=>by
  have nd:=J9.nd
  have hu:=CZ hr
  exact (Ad (BK (FW.ft (LA (Ee (CC (Ge kit_tuple PyProof.Rows.boot_tuple T.b_isinstance T.b_tuple (As 0)) (fun _=>rfl))) (LA (Wq (Ey T.b_len (Ae (As 0) Au)) An) (IT (Pn (Wa hr) (Dz false ["_law_one"] [none] rfl (Ct (Rb (As 0) JK (JJ An))) (fun _ _ _ _ _=>(AH 0 (by show List.Nodup (["_law_one"]:List Str);decide +kernel) (Or.inl rfl) (hf:=.inr rfl))) (fun _ _ _ _ _=>(LB (Ee (CC (Ge OO PyProof.Rows.boot_str T.b_isinstance T.b_str (As 0)) (fun _=>rfl))))) (fun _ _ _ _ _=>(Aq (As 0)))) (DD Au)))))) (Al (Bf KH)) AR)
   (Ad (BK (FG (BQ hu (As 0) An (fun _ _=>rfl)) Bh) (Al (Bf (Pz (Ey T.b_len (Ae (As 0) Au)) An))) AR)
   (Ad (BK (FW.ft (LA (Ue (Ey T.b_len (Ae (As 0) Au)) An) (IT (Ee (CC (Ge kit_tuple PyProof.Rows.boot_tuple T.b_isinstance T.b_tuple (BQ hu (As 0) An (fun _ _=>rfl))) (fun _=>rfl)))))) (Al (Bf KH)) AR)
   (Al (Bf (Sa (Wa hr) (Dz false ["_law_one"] [none] rfl (Ct (BQ hu (As 0) An (fun _ _=>rfl))) (fun _ _ _ _ _=>(AH 0 (by show List.Nodup (["_law_one"]:List Str);decide +kernel) (Or.inl rfl) (hf:=.inr rfl))) (fun _ _ _ _ _=>(LB (Ee (CC (Aq (BL Grec (hr.mono (by first | decide | omega)) (Ai (Aq (As 0)) AJ))) (fun _=>rfl))))) (fun _ _ _ _ _=>(Aq (As 0)))) (DD Au))))))))
  exact hb
abbrev Gv:Stmt:=top 45
theorem L4:AZ ["_law_expression"] ["_law_expression"] (Ao Gv):=⟨rfl,rfl,rfl,by decide +kernel,rfl,by decide +kernel,by decide +kernel⟩
theorem Mg {f:Addr} {fd:FuncData} {cStock:Addr} (Fu:Fun K "_law_text" "_law_text" Gv f fd) (T:Tx w K mg cStock)  (hat:∀ k sp,Dv P w K mg base CX0 k f fd ["_law_expression"] sp->FnAt P w K mg base CX0 "_law_text" k ["_law_expression"] sp):∀ n,Dv P w K mg base CX0 (1+n) f fd ["_law_expression"] (spF K 1 (DS n))
 | 0=>⟨fun vs H Q E h=>by rw [h.1];rfl,fun A outer s H args us vs Q E hr he hb hv h=>by obtain ⟨_,F,fs0,ok,h⟩:=h;exact h.elim⟩
 | n+1=>by
  have Grec:=hat _ _ (Mg Fu T  hat n)
  have hb:=C0 (P:=P) (w:=w) (mg:=mg) (base:=base) (k:=1+n) (g:=JV (DS n)) Fu L4 1 0 rfl rfl (fun cdv A outer s H E hr=>by
  have nd:=L4.nd
  have hu:=CZ hr
  exact (Ad (BK (FG (BQ hu (As 0) An (fun _ _=>rfl)) Bh) (Al (Bf (BQ hu (As 0) An (fun _ _=>rfl)))) AR)
   (Al (Bf (Cu (Cu (Cu (BQ hu (As 0) An (fun _ _=>rfl)) Bh) (Aq (Mz Jw PySem.F.slot_str_join PySem.F.type_str_join Js Bh (Ae (Dz false ["_law_one"] [none] rfl (Ct (BQ hu (As 0) An (fun _ _=>rfl))) (fun _ _ _ _ _=>(AH 0 (by show List.Nodup (["_law_one"]:List Str);decide +kernel) (Or.inl rfl) (hf:=.inr rfl))) (fun _ _ _ _ _=>DQ) (fun _ _ _ _ _=>(Aq (BL Grec (hr.mono (by first | decide | omega)) (Ai (Aq (As 0)) AJ))))) Au)))) Bh)))))
  exact hb
abbrev Ec:Stmt:=top 47
theorem IE:AZ ["_law_expression","_law_maker","_law_word"] ["_law_expression","_law_maker"] (Ao Ec):=⟨rfl,rfl,rfl,by decide +kernel,rfl,by decide +kernel,by decide +kernel⟩
theorem IH {f:Addr} {fd:FuncData} {cStock:Addr} (Fu:Fun K "_law_turned" "_law_turned" Ec f fd) (T:Tx w K mg cStock)  (hat:∀ k sp,Dv P w K mg base CX0 k f fd ["_law_expression","_law_maker"] sp->FnAt P w K mg base CX0 "_law_turned" k ["_law_expression","_law_maker"] sp):∀ n,Dv P w K mg base CX0 (1+n) f fd ["_law_expression","_law_maker"] (spF K 2 (BR n))
 | 0=>⟨fun vs H Q E h=>by rw [h.1];rfl,fun A outer s H args us vs Q E hr he hb hv h=>by obtain ⟨_,F,fs0,ok,h⟩:=h;exact h.elim⟩
 | n+1=>by
  have Grec:=hat _ _ (IH Fu T  hat n)
  have hb:=C0 (P:=P) (w:=w) (mg:=mg) (base:=base) (k:=1+n) (g:=Gp (BR n)) Fu IE 2 1 rfl rfl (fun cdv A outer s H E hr=>by
  have nd:=IE.nd
  have hu:=CZ hr
  exact (Ad (BK (FG (BQ hu (As 0) An (fun _ _=>rfl)) Bh) (Al (Bf (As 0))) AR)
   (Ad (AK 2 nd (Or.inl rfl) (BQ hu (DD (Ae Bh (Ae Bh Au))) (Px T.b_int (Ae (Pz (BQ hu (As 0) An (fun _ _=>rfl)) (As 1)) Au)) (fun _ _=>rfl)))
   (Al (Bf (DY (Ae (Aq (As 2)) (Ae (BQ hu (As 0) An (fun _ _=>rfl)) (Ae (Fd T.b_tuple (Ae (Dz false ["_law_one","_law_maker"] [none,some 1] rfl (Ct (BQ hu (As 0) An (fun _ _=>rfl))) (fun _ _ _ _ _=>(AH 0 (by show List.Nodup (["_law_one","_law_maker"]:List Str);decide +kernel) (Or.inl rfl) (hf:=.inr rfl))) (fun _ _ _ _ _=>DQ) (fun _ _ _ _ _=>(Aq (BL Grec (hr.mono (by first | decide | omega)) (Ai (Aq (As 0)) (Ai (Aq (As 1)) AJ)))))) Au)) Au)))))))))
  exact hb
abbrev E5:Stmt:=top 43
theorem J8:AZ ["_law_script","_law_kinds_here","_law_makers","_law_kind","_law_rows"] ["_law_script","_law_kinds_here"] (Ao E5):=⟨rfl,rfl,rfl,by decide +kernel,rfl,by decide +kernel,by decide +kernel⟩
theorem Ox {f:Addr} {fd:FuncData} {cStock:Addr} (Fu:Fun K "_law_words" "_law_words" E5 f fd) (T:Tx w K mg cStock) (G_Lcell_at:FnAt P w K mg base CX0 "_law_cell_at" 1 ["_law_script","_law_k"] (spF K 2 Be)) (G_Lnames:FnAt P w K mg base CX0 "_law_names" 1 ["_law_cell","_law_count"] (spF K 2 Cd)):Dv P w K mg base CX0 2 f fd ["_law_script","_law_kinds_here"] (spF K 2 (Gh)) :=
 C0 (k:=1) (g:=JU) Fu J8 2 3 rfl rfl (fun cdv A outer s H E hr=>by
  have nd:=J8.nd
  have hu:=CZ hr
  exact (Ad (AK 2 nd (Or.inl rfl) (DD Au))
   (Ad (Dn PassesOwn.never rfl (Ct (Aq (As 1))) (Ex rfl (A2 (AH 3 nd (Or.inl rfl)) (A2 (AH 4 nd (Or.inl rfl)) Dw (fun h1 h2=>A0 h1 h2)) (fun h1 h2=>A0 h1 h2))) (Al (AK 2 nd (Or.inl rfl) (Aq (Cu (As 2) (Dz false ["_law_maker","_law_parts_here"] [none,none] rfl (Ct (Aq (As 4))) (fun _ _ _ _ _=>(Ex rfl (A2 (AH 0 (by show List.Nodup (["_law_maker","_law_parts_here"]:List Str);decide +kernel) (Or.inl rfl) (hf:=.inr rfl)) (A2 (AH 1 (by show List.Nodup (["_law_maker","_law_parts_here"]:List Str);decide +kernel) (Or.inl rfl) (hf:=.inr rfl)) Dw (fun h1 h2=>A0 h1 h2)) (fun h1 h2=>A0 h1 h2)))) (fun _ _ _ _ _=>DQ) (fun _ _ _ _ _=>(Aq (As 0)))))))))
   (Al (Bf (DY (Ae (Aq (As 2)) (Ae (Aq (BL G_Lnames (hr.mono (by first | decide | omega)) (Ai (Aq (BL G_Lcell_at (hr.mono (by first | decide | omega)) (Ai (Aq (As 0)) (Ai An AJ)))) (Ai An AJ)))) Au))))))))
abbrev DK:Stmt:=top 44
theorem Hz:AZ ["_law_makers","_law_names_here","_law_purse","_law_down","_law_digit","_law_both","_law_parts_here","_law_k","_law_word"] ["_law_makers","_law_names_here","_law_purse","_law_down"] (Ao DK):=⟨rfl,rfl,rfl,by decide +kernel,rfl,by decide +kernel,by decide +kernel⟩
theorem HJ {f:Addr} {fd:FuncData} {cStock:Addr} (Fu:Fun K "_law_written" "_law_written" DK f fd) (T:Tx w K mg cStock)  (hat:∀ k sp,Dv P w K mg base CX0 k f fd ["_law_makers","_law_names_here","_law_purse","_law_down"] sp->FnAt P w K mg base CX0 "_law_written" k ["_law_makers","_law_names_here","_law_purse","_law_down"] sp):∀ n,Dv P w K mg base CX0 (1+n) f fd ["_law_makers","_law_names_here","_law_purse","_law_down"] (spF K 4 (Br n))
 | 0=>⟨fun vs H Q E h=>by rw [h.1];rfl,fun A outer s H args us vs Q E hr he hb hv h=>by obtain ⟨_,F,fs0,ok,h⟩:=h;exact h.elim⟩
 | n+1=>by
  have Grec:=hat _ _ (HJ Fu T  hat n)
  have hb:=C0 (P:=P) (w:=w) (mg:=mg) (base:=base) (k:=1+n) (g:=Dg (Br n)) Fu Hz 4 5 rfl rfl (fun cdv A outer s H E hr=>by
  have nd:=Hz.nd
  have hu:=CZ hr
  exact (Ad (AK 4 nd (Or.inl rfl) (Aq (H0 HL PySem.F.slot_list_pop PySem.F.type_list_pop EN (As 2))))
   (Ad (AK 5 nd (Or.inl rfl) (Cu (As 1) (As 0)))
   (Ad (BK (FW.ft (LA (FG (As 3) An) (IT (FG (CL (As 4) An) An)))) (Al (Bf (DY (Ae Bh (Ae (BQ hu (As 5) (CL (ET (As 4) An) (Ey T.b_len (Ae (As 5) Au))) (fun _ _=>rfl)) Au))))) AR)
   (Ad (AK 6 nd (Or.inl rfl) (Es Au))
   (Ad (Dn PassesOwn.never rfl (DR T.b_range (Ae (BQ hu (DD (Ae An (Ae An (Ae An (Ae An (Ae An (Ae An Au))))))) (CL (ET (As 4) An) An) (fun _ _=>rfl)) Au)) (AH 7 nd (Or.inl rfl)) (Al (CF (JL GY PySem.F.slot_list_append PySem.F.type_list_append Ci (As 6) (Ae (Aq (BL Grec (hr.mono (by first | decide | omega)) (Ai (Aq (As 0)) (Ai (Aq (As 1)) (Ai (As 2) (Ai (Wu (As 3) An) AJ)))))) Au)))))
   (Ad (AK 8 nd (Or.inl rfl) (BQ hu (As 5) (CL (ET (As 4) An) (Ey T.b_len (Ae (As 5) Au))) (fun _ _=>rfl)))
   (Ad (BK (Ra hu (Aq (As 8)) (As 0)) (Al (Bf (DY (Ae Bh (Ae (Aq (As 8)) (Ae (Fd T.b_tuple (Ae (As 6) Au)) Au)))))) AR)
   (Al (Bf (DY (Ae Bh (Ae (Aq (As 8)) (Ae (Fd T.b_tuple (Ae (As 6) Au)) Au))))))))))))))
  exact hb
abbrev CJ:Stmt:=inClass (top 31) 0
theorem FZ:AZ ["self","kinds","kind","makers","maker","parts"] ["self","kinds"] (Ao CJ):=⟨rfl,rfl,rfl,by decide +kernel,rfl,by decide +kernel,by decide +kernel⟩
theorem Jq {f:Addr} {fd:FuncData} {cStock:Addr} (Fu:Fun K "__init__" "Stock.__init__" CJ f fd) (T:Tx w K mg cStock) (G_check_makers:FnAt P w K mg base CX0 "check_makers" 3 ["kinds"] (spF K 1 BY)) (G_check_kinds:FnAt P w K mg base CX0 "check_kinds" 2 ["kinds"] (spF K 1 Cr)):Dv P w K mg base CX0 4 f fd ["self","kinds"] (spF K 2 (Cj cStock)) :=
 C0 (k:=3) (g:=Ds cStock) Fu FZ 2 4 rfl rfl (fun cdv A outer s H E hr=>by
  have nd:=FZ.nd
  have hu:=CZ hr
  exact (Ad (CF (BL G_check_kinds (hr.mono (by first | decide | omega)) (Ai (Aq (As 1)) AJ)))
   (Ad (CF (BL G_check_makers (hr.mono (by first | decide | omega)) (Ai (Aq (As 1)) AJ)))
   (Ad (Pd T.cl_Stock T.na_Stock_makers_by_kind 0 Gf (fun hv=>Oe (pv 0) hv rfl))
   (Ad (Pd T.cl_Stock T.na_Stock_parts_by_maker 0 Gf (fun hv=>Oe (pv 0) hv rfl))
   (Ad (Pd T.cl_Stock T.na_Stock_home_by_maker 0 Gf (fun hv=>Oe (pv 0) hv rfl))
   (Al (Dn PassesOwn.never rfl (Ct (Aq (As 1))) (Ex rfl (A2 (AH 2 nd (Or.inl rfl)) (A2 (AH 3 nd (Or.inl rfl)) Dw (fun h1 h2=>A0 h1 h2)) (fun h1 h2=>A0 h1 h2))) (Ad (JF T.cl_Stock T.na_Stock_makers_by_kind 0 2 (Dz false ["maker","parts"] [none,none] rfl (Ct (Aq (As 3))) (fun _ _ _ _ _=>(Ex rfl (A2 (AH 0 (by show List.Nodup (["maker","parts"]:List Str);decide +kernel) (Or.inl rfl) (hf:=.inr rfl)) (A2 (AH 1 (by show List.Nodup (["maker","parts"]:List Str);decide +kernel) (Or.inl rfl) (hf:=.inr rfl)) Dw (fun h1 h2=>A0 h1 h2)) (fun h1 h2=>A0 h1 h2)))) (fun _ _ _ _ _=>DQ) (fun _ _ _ _ _=>(Aq (As 0)))) (fun hv=>Ll hu (Md (pv 0) rfl) (pv 2) hv rfl))
   (Al (Dn PassesOwn.never rfl (Ct (Aq (As 3))) (Ex rfl (A2 (AH 4 nd (Or.inl rfl)) (A2 (AH 5 nd (Or.inl rfl)) Dw (fun h1 h2=>A0 h1 h2)) (fun h1 h2=>A0 h1 h2))) (Ad (JF T.cl_Stock T.na_Stock_parts_by_maker 0 4 (Fd T.b_tuple (Ae (As 5) Au)) (fun hv=>Ll hu (Md (pv 0) rfl) (pv 4) hv rfl))
   (Al (JF T.cl_Stock T.na_Stock_home_by_maker 0 4 (Aq (As 2)) (fun hv=>Ll hu (Md (pv 0) rfl) (pv 4) hv rfl)))))))))))))))
abbrev Cp:Stmt:=inClass (top 31) 1
theorem Ft:AZ ["self"] ["self"] (Ao Cp):=⟨rfl,rfl,rfl,by decide +kernel,rfl,by decide +kernel,by decide +kernel⟩
theorem Iq {f:Addr} {fd:FuncData} {cStock:Addr} (Fu:Fun K "kinds" "Stock.kinds" Cp f fd) (T:Tx w K mg cStock) :Dv P w K mg base CX0 1 f fd ["self"] (spF K 1 (Bn cStock)) :=
 C0 (k:=0) (g:=CY cStock) Fu Ft 1 0 rfl rfl (fun cdv A outer s H E hr=>by
  have nd:=Ft.nd
  have hu:=CZ hr
  exact (Al (Bf (Pw T.b_list (Ae (Py T.cl_Stock T.na_Stock_makers_by_kind (As 0)) Au)))))
abbrev BW:Stmt:=inClass (top 31) 2
theorem EK:AZ ["self","kind"] ["self","kind"] (Ao BW):=⟨rfl,rfl,rfl,by decide +kernel,rfl,by decide +kernel,by decide +kernel⟩
theorem HI {f:Addr} {fd:FuncData} {cStock:Addr} (Fu:Fun K "makers" "Stock.makers" BW f fd) (T:Tx w K mg cStock) :Dv P w K mg base CX0 1 f fd ["self","kind"] (spF K 2 (A7 cStock)) :=
 C0 (k:=0) (g:=CA cStock) Fu EK 2 0 rfl rfl (fun cdv A outer s H E hr=>by
  have nd:=EK.nd
  have hu:=CZ hr
  exact (Ad (BK (JH hu (Aq (As 1)) (Py T.cl_Stock T.na_Stock_makers_by_kind (As 0))) (Al BM) AR)
   (Al (Bf (Pw T.b_list (Ae (BQ hu (Py T.cl_Stock T.na_Stock_makers_by_kind (As 0)) (Aq (As 1)) (fun _ _=>rfl)) Au))))))
abbrev BA:Stmt:=top 24
theorem D8:AZ ["pieces","unclosed","piece"] ["pieces"] (Ao BA):=⟨rfl,rfl,rfl,by decide +kernel,rfl,by decide +kernel,by decide +kernel⟩
theorem Gy {f:Addr} {fd:FuncData} {cStock:Addr} (Fu:Fun K "check_brackets" "check_brackets" BA f fd) (T:Tx w K mg cStock) :Dv P w K mg base CX0 1 f fd ["pieces"] (spF K 1 (Bk)) :=
 C0 (k:=0) (g:=BS) Fu D8 1 2 rfl rfl (fun cdv A outer s H E hr=>by
  have nd:=D8.nd
  have hu:=CZ hr
  exact (Ad (AK 1 nd (Or.inl rfl) An)
   (Ad (Dn PassesOwn.never rfl (Ct (Aq (As 0))) (AH 2 nd (Or.inl rfl)) (Ad (BK (FW.ft (Wn (Ra hu (Aq (As 2)) (DY (Ae Bh (Ae Bh Au)))) (Uc (FG (As 1) An)))) (Al BM) AR)
   (Ad (BK (FG (As 2) Bh) (Al (We 1 nd (Or.inl rfl) An)) AR)
   (Al (BK (FG (As 2) Bh) (Al (TX 1 nd (Or.inl rfl) An)) AR)))))
   (Al (BK (Wr (As 1) An) (Al BM) AR)))))
abbrev BV:Stmt:=top 35
theorem EJ:AZ ["maker","parts","kinds_above","part"] ["maker","parts","kinds_above"] (Ao BV):=⟨rfl,rfl,rfl,by decide +kernel,rfl,by decide +kernel,by decide +kernel⟩
theorem HH {f:Addr} {fd:FuncData} {cStock:Addr} (Fu:Fun K "check_ground" "check_ground" BV f fd) (T:Tx w K mg cStock) :Dv P w K mg base CX0 1 f fd ["maker","parts","kinds_above"] (spF K 3 (Bg)) :=
 C0 (k:=0) (g:=Cz) Fu EJ 3 1 rfl rfl (fun cdv A outer s H E hr=>by
  have nd:=EJ.nd
  have hu:=CZ hr
  exact (Al (Dn PassesOwn.never rfl (Ct (Aq (As 1))) (AH 3 nd (Or.inl rfl)) (Al (BK (JH hu (Aq (As 3)) (As 2)) (Al BM) AR)))))
abbrev Co:Stmt:=top 32
theorem Fs:AZ ["kinds","above","kind","makers"] ["kinds"] (Ao Co):=⟨rfl,rfl,rfl,by decide +kernel,rfl,by decide +kernel,by decide +kernel⟩
theorem Ip {f:Addr} {fd:FuncData} {cStock:Addr} (Fu:Fun K "check_kinds" "check_kinds" Co f fd) (T:Tx w K mg cStock) (G_is_name:FnAt P w K mg base CX0 "is_name" 1 ["text"] (spF K 1 A8)):Dv P w K mg base CX0 2 f fd ["kinds"] (spF K 1 (Cr)) :=
 C0 (k:=1) (g:=CW) Fu Fs 1 3 rfl rfl (fun cdv A outer s H E hr=>by
  have nd:=Fs.nd
  have hu:=CZ hr
  exact (Ad (BK (Ee (JI of_le of_le An (Ey T.b_len (Ae (As 0) Au)) (Rf T.g_MOST_KINDS) (fun ha hb hc=>Jl M6 M6 ha hb hc))) (Al BM) AR)
   (Ad (AK 1 nd (Or.inl rfl) Gf)
   (Al (Dn PassesOwn.never rfl (Ct (Aq (As 0))) (Ex rfl (A2 (AH 2 nd (Or.inl rfl)) (A2 (AH 3 nd (Or.inl rfl)) Dw (fun h1 h2=>A0 h1 h2)) (fun h1 h2=>A0 h1 h2))) (Ad (BK (Ee (CC (Aq (BL G_is_name (hr.mono (by first | decide | omega)) (Ai (Aq (As 2)) AJ))) (fun _=>rfl))) (Al BM) AR)
   (Ad (BK (Ra hu (Aq (As 2)) (As 1)) (Al BM) AR)
   (Ad (BK (Ee (JI of_le of_le An (Ey T.b_len (Ae (As 3) Au)) (Rf T.g_MOST_MAKERS) (fun ha hb hc=>Jl M6 M6 ha hb hc))) (Al BM) AR)
   (Al (Mt hu KH (As 1) (Aq (As 2)) (fun he ho hi hs=>Og he (RS ho hi hs))))))))))))
abbrev Cn:Stmt:=top 34
theorem Fq:AZ ["maker","parts","makers_ahead","all_kinds","part"] ["maker","parts","makers_ahead","all_kinds"] (Ao Cn):=⟨rfl,rfl,rfl,by decide +kernel,rfl,by decide +kernel,by decide +kernel⟩
theorem Io {f:Addr} {fd:FuncData} {cStock:Addr} (Fu:Fun K "check_maker" "check_maker" Cn f fd) (T:Tx w K mg cStock) (G_is_name:FnAt P w K mg base CX0 "is_name" 1 ["text"] (spF K 1 A8)):Dv P w K mg base CX0 2 f fd ["maker","parts","makers_ahead","all_kinds"] (spF K 4 (Bm)) :=
 C0 (k:=1) (g:=CV) Fu Fq 4 1 rfl rfl (fun cdv A outer s H E hr=>by
  have nd:=Fq.nd
  have hu:=CZ hr
  exact (Ad (BK (Ee (CC (Aq (BL G_is_name (hr.mono (by first | decide | omega)) (Ai (Aq (As 0)) AJ))) (fun _=>rfl))) (Al BM) AR)
   (Ad (BK (Ra hu (Aq (As 0)) (As 2)) (Al BM) AR)
   (Ad (BK (Wr (Ey T.b_len (Ae (As 1) Au)) (Rf T.g_MOST_PARTS)) (Al BM) AR)
   (Al (Dn PassesOwn.never rfl (Ct (Aq (As 1))) (AH 4 nd (Or.inl rfl)) (Al (BK (JH hu (Aq (As 4)) (As 3)) (Al BM) AR))))))))
abbrev BU:Stmt:=top 33
theorem EI:AZ ["kinds","all_kinds","kinds_above","makers_ahead","kind","makers","first","maker","parts"] ["kinds"] (Ao BU):=⟨rfl,rfl,rfl,by decide +kernel,rfl,by decide +kernel,by decide +kernel⟩
theorem HG {f:Addr} {fd:FuncData} {cStock:Addr} (Fu:Fun K "check_makers" "check_makers" BU f fd) (T:Tx w K mg cStock) (G_check_ground:FnAt P w K mg base CX0 "check_ground" 1 ["maker","parts","kinds_above"] (spF K 3 Bg)) (G_check_maker:FnAt P w K mg base CX0 "check_maker" 2 ["maker","parts","makers_ahead","all_kinds"] (spF K 4 Bm)):Dv P w K mg base CX0 3 f fd ["kinds"] (spF K 1 (BY)) :=
 C0 (k:=2) (g:=Cy) Fu EI 1 8 rfl rfl (fun cdv A outer s H E hr=>by
  have nd:=EI.nd
  have hu:=CZ hr
  exact (Ad (IP false 1 ["kind","makers"] [none,none] rfl nd (Or.inl rfl) (Ct (Aq (As 0))) (fun _ _ _ _ _=>(Ex rfl (A2 (AH 0 (by show List.Nodup (["kind","makers"]:List Str);decide +kernel) (Or.inl rfl) (hf:=.inr rfl)) (A2 (AH 1 (by show List.Nodup (["kind","makers"]:List Str);decide +kernel) (Or.inl rfl) (hf:=.inr rfl)) Dw (fun h1 h2=>A0 h1 h2)) (fun h1 h2=>A0 h1 h2)))) (fun _ _ _ _ _=>DQ) (fun _ _ _ _ _=>(Aq (As 0))))
   (Ad (AK 2 nd (Or.inl rfl) (Es Au))
   (Ad (AK 3 nd (Or.inl rfl) Gf)
   (Al (Dn PassesOwn.never rfl (Ct (Aq (As 0))) (Ex rfl (A2 (AH 4 nd (Or.inl rfl)) (A2 (AH 5 nd (Or.inl rfl)) Dw (fun h1 h2=>A0 h1 h2)) (fun h1 h2=>A0 h1 h2))) (Ad (AK 6 nd (Or.inl rfl) (BQ hu (BQ hu (As 5) An (fun _ _=>rfl)) An (fun _ _=>rfl)))
   (Ad (Dn PassesOwn.never rfl (Ct (Aq (As 5))) (Ex rfl (A2 (AH 7 nd (Or.inl rfl)) (A2 (AH 8 nd (Or.inl rfl)) Dw (fun h1 h2=>A0 h1 h2)) (fun h1 h2=>A0 h1 h2))) (Ad (CF (BL G_check_maker (hr.mono (by first | decide | omega)) (Ai (Aq (As 7)) (Ai (Aq (As 8)) (Ai (As 3) (Ai (Aq (As 1)) AJ))))))
   (Ad (BK (FG (As 7) (As 6)) (Al (CF (BL G_check_ground (hr.mono (by first | decide | omega)) (Ai (Aq (As 7)) (Ai (Aq (As 8)) (Ai (As 2) AJ)))))) AR)
   (Al (Mt hu KH (As 3) (Aq (As 7)) (fun he ho hi hs=>Og he (RS ho hi hs)))))))
   (Al (CF (JL GY PySem.F.slot_list_append PySem.F.type_list_append Ci (As 2) (Ae (Aq (As 4)) Au))))))))))))
abbrev Bj:Stmt:=top 22
theorem DO:AZ ["pieces","ahead","piece","form"] ["pieces"] (Ao Bj):=⟨rfl,rfl,rfl,by decide +kernel,rfl,by decide +kernel,by decide +kernel⟩
theorem FC {f:Addr} {fd:FuncData} {cStock:Addr} (Fu:Fun K "check_neighbours" "check_neighbours" Bj f fd) (T:Tx w K mg cStock) (G_form_of:FnAt P w K mg base CX0 "form_of" 2 ["piece"] (spF K 1 CS)):Dv P w K mg base CX0 3 f fd ["pieces"] (spF K 1 (A9)) :=
 C0 (k:=2) (g:=BG) Fu DO 1 3 rfl rfl (fun cdv A outer s H E hr=>by
  have nd:=DO.nd
  have hu:=CZ hr
  exact (Ad (AK 1 nd (Or.inl rfl) Bh)
   (Ad (Dn PassesOwn.never rfl (Ct (Aq (As 0))) (AH 2 nd (Or.inl rfl)) (Ad (AK 3 nd (Or.inl rfl) (Aq (BL G_form_of (hr.mono (by first | decide | omega)) (Ai (Aq (As 2)) AJ))))
   (Ad (BK (Pm T.Dh (As 3) (As 1) (fun _ _=>rfl)) (Al BM) AR)
   (Al (AK 1 nd (Or.inl rfl) (Aq (As 3)))))))
   (Al (BK (Pm T.Dh Bh (As 1) (fun _ _=>rfl)) (Al BM) AR)))))
abbrev Eb:Stmt:=top 23
theorem ID:AZ ["piece"] ["piece"] (Ao Eb):=⟨rfl,rfl,rfl,by decide +kernel,rfl,by decide +kernel,by decide +kernel⟩
theorem Nb {f:Addr} {fd:FuncData} {cStock:Addr} (Fu:Fun K "form_of" "form_of" Eb f fd) (T:Tx w K mg cStock) (G_is_name:FnAt P w K mg base CX0 "is_name" 1 ["text"] (spF K 1 A8)):Dv P w K mg base CX0 2 f fd ["piece"] (spF K 1 (CS)) :=
 C0 (k:=1) (g:=Gn) Fu ID 1 0 rfl rfl (fun cdv A outer s H E hr=>by
  have nd:=ID.nd
  have hu:=CZ hr
  exact (Ad (BK (R8 T.Ce (As 0)) (Al (Bf (As 0))) AR)
   (Ad (BK (Ee (CC (Aq (BL G_is_name (hr.mono (by first | decide | omega)) (Ai (Aq (As 0)) AJ))) (fun _=>rfl))) (Al BM) AR)
   (Al (Bf Bh)))))
abbrev DJ:Stmt:=top 15
theorem Hy:AZ ["stock","name"] ["stock","name"] (Ao DJ):=⟨rfl,rfl,rfl,by decide +kernel,rfl,by decide +kernel,by decide +kernel⟩
theorem Lo {f:Addr} {fd:FuncData} {cStock:Addr} (Fu:Fun K "is_maker" "is_maker" DJ f fd) (T:Tx w K mg cStock) (G_Stock_kinds:Sv P w K mg base CX0 cStock "kinds" 1 ["self"] (spF K 1 (Bn cStock))) (G_Stock_makers:Sv P w K mg base CX0 cStock "makers" 1 ["self","kind"] (spF K 2 (A7 cStock))):Dv P w K mg base CX0 2 f fd ["stock","name"] (spF K 2 (Dc cStock)) :=
 C0 (k:=1) (g:=GN cStock) Fu Hy 2 0 rfl rfl (fun cdv A outer s H E hr=>by
  have nd:=Hy.nd
  have hu:=CZ hr
  exact (Al (Bf (WB T.b_any (Ae (Dz false ["kind","name","stock"] [none,some 1,some 0] rfl (Ct (Aq (Ww G_Stock_kinds (hr.mono (by first | decide | omega)) (Aq (As 0)) (fun ho=>Vt G_Stock_kinds (hr.mono (by first | decide | omega)) QM ho)))) (fun _ _ _ _ _=>(AH 0 (by show List.Nodup (["kind","name","stock"]:List Str);decide +kernel) (Or.inl rfl) (hf:=.inr rfl))) (fun _ _ _ _ _=>DQ) (fun _ _ _ _ _=>(Wy hu (Aq (As 1)) (Aq (Yh G_Stock_makers (hr.mono (by first | decide | omega)) (Aq (As 2)) (Ai (Aq (As 0)) AJ)))))) Au)))))
abbrev Ea:Stmt:=top 13
theorem IC:AZ ["text"] ["text"] (Ao Ea):=⟨rfl,rfl,rfl,by decide +kernel,rfl,by decide +kernel,by decide +kernel⟩
theorem Na {f:Addr} {fd:FuncData} {cStock:Addr} (Fu:Fun K "is_name" "is_name" Ea f fd) (T:Tx w K mg cStock) :Dv P w K mg base CX0 1 f fd ["text"] (spF K 1 (A8)) :=
 C0 (k:=0) (g:=E2) Fu IC 1 0 rfl rfl (fun cdv A outer s H E hr=>by
  have nd:=IC.nd
  have hu:=CZ hr
  exact (Ad (BK (Ee (JI of_le of_le An (Ey T.b_len (Ae (As 0) Au)) (Rf T.g_MOST_LETTERS) (fun ha hb hc=>Jl M6 M6 ha hb hc))) (Al (Bf KH)) AR)
   (Al (Bf (WD T.b_all (Ae (Dz false ["sign"] [none] rfl (Ct (Aq (As 0))) (fun _ _ _ _ _=>(AH 0 (by show List.Nodup (["sign"]:List Str);decide +kernel) (Or.inl rfl) (hf:=.inr rfl))) (fun _ _ _ _ _=>DQ) (fun _ _ _ _ _=>(Wy hu (Aq (As 0)) (Yl T.g_LETTERS)))) Au))))))
abbrev Jf:Stmt:=top 48
theorem RD:AZ ["_law_script","_law_kinds_here","_law_stock","_law_makers","_law_names_here","_law_expression","_law_text_here","_law_told","_law_got","_law_few","_law_other"] ["_law_script"] (Ao Jf):=⟨rfl,rfl,rfl,by decide +kernel,rfl,by decide +kernel,by decide +kernel⟩
theorem VC {f:Addr} {fd:FuncData} {cStock:Addr} (Fu:Fun K "law" "law" Jf f fd) (T:Tx w K mg cStock) (G_shown_as:FnAt P w K mg base CX0 "shown_as" 61 ["expression"] (spF K 1 (Bq 60))) (G_read_as:FnAt P w K mg base CX0 "read_as" 5 ["stock","text"] (spF K 2 (Dp cStock))) (G_Lturned:FnAt P w K mg base CX0 "_law_turned" 61 ["_law_expression","_law_maker"] (spF K 2 (BR 60))) (G_Lshape:FnAt P w K mg base CX0 "_law_shape" 61 ["_law_got"] (spF K 1 (CD 60))) (G_Stock_init:Xe P w K mg base CX0 "Stock" cStock 4 ["self","kinds"] (spF K 2 (Cj cStock))) (G_Ltext:FnAt P w K mg base CX0 "_law_text" 61 ["_law_expression"] (spF K 1 (DS 60))) (G_Ldigits:FnAt P w K mg base CX0 "_law_digits" 1 ["_law_script","_law_at","_law_parts_here"] (spF K 3 Ck)) (G_Lwritten:FnAt P w K mg base CX0 "_law_written" 61 ["_law_makers","_law_names_here","_law_purse","_law_down"] (spF K 4 (Br 60))) (G_Lwords:FnAt P w K mg base CX0 "_law_words" 2 ["_law_script","_law_kinds_here"] (spF K 2 Gh)) (G_Lkinds:FnAt P w K mg base CX0 "_law_kinds" 2 ["_law_script"] (spF K 1 Fe)):Dv P w K mg base CX0 62 f fd ["_law_script"] (spF K 1 (Ul cStock)) :=
 C0 (k:=61) (g:=P7 cStock) Fu RD 1 10 rfl rfl (fun cdv A outer s H E hr=>by
  have nd:=RD.nd
  have hu:=CZ hr
  exact (Ad (AK 1 nd (Or.inl rfl) (Aq (BL G_Lkinds (hr.mono (by first | decide | omega)) (Ai (Aq (As 0)) AJ))))
   (Ad (AK 2 nd (Or.inl rfl) (Aq (Wx G_Stock_init (hr.mono (by first | decide | omega)) (Ai (Aq (As 1)) AJ))))
   (Ad (R6 (Aq (BL G_Lwords (hr.mono (by first | decide | omega)) (Ai (Aq (As 0)) (Ai (Aq (As 1)) AJ)))) (Ex rfl (A2 (AH 3 nd (Or.inl rfl)) (A2 (AH 4 nd (Or.inl rfl)) Dw (fun h1 h2=>A0 h1 h2)) (fun h1 h2=>A0 h1 h2))))
   (Ad (AK 5 nd (Or.inl rfl) (Aq (BL G_Lwritten (hr.mono (by first | decide | omega)) (Ai (Aq (As 3)) (Ai (Aq (As 4)) (Ai (BL G_Ldigits (hr.mono (by first | decide | omega)) (Ai (Aq (As 0)) (Ai An (Ai An AJ)))) (Ai An AJ)))))))
   (Ad (AK 6 nd (Or.inl rfl) (Aq (BL G_Ltext (hr.mono (by first | decide | omega)) (Ai (Aq (As 5)) AJ))))
   (Ad (AK 7 nd (Or.inl rfl) (Aq (BL G_shown_as (hr.mono (by first | decide | omega)) (Ai (Aq (As 5)) AJ))))
   (Ad (BK (FW.ft (LA (Ee (CC (Ge OO PyProof.Rows.boot_str T.b_isinstance T.b_str (As 7)) (fun _=>rfl))) (IT (Ue (As 7) (As 6))))) (Al (Bf KH)) AR)
   (Ad (AK 8 nd (Or.inl rfl) (Aq (BL G_read_as (hr.mono (by first | decide | omega)) (Ai (Aq (As 2)) (Ai (Aq (As 6)) AJ)))))
   (Ad (BK (FW.ft (LA (Ee (CC (Aq (BL G_Lshape (hr.mono (by first | decide | omega)) (Ai (Aq (As 8)) AJ))) (fun _=>rfl))) (IT (Pn (Wa hr) (As 8) (As 5))))) (Al (Bf KH)) AR)
   (Ad (AK 9 nd (Or.inl rfl) (Aq (Wx G_Stock_init (hr.mono (by first | decide | omega)) (Ai (DD (Ae (DY (Ae (BQ hu (BQ hu (As 1) An (fun _ _=>rfl)) An (fun _ _=>rfl)) (Ae (DD (Ae (DY (Ae (BQ hu (As 3) An (fun _ _=>rfl)) (Ae (DY Au) Au))) Au)) Au))) Au)) AJ))))
   (Ad (AK 10 nd (Or.inl rfl) (Aq (BL G_read_as (hr.mono (by first | decide | omega)) (Ai (Aq (As 9)) (Ai (Aq (As 6)) AJ)))))
   (Ad (BK (FW.ft (LA (Ee (CC (Aq (BL G_Lshape (hr.mono (by first | decide | omega)) (Ai (Aq (As 10)) AJ))) (fun _=>rfl))) (IT (Pn (Wa hr) (As 10) (Aq (BL G_Lturned (hr.mono (by first | decide | omega)) (Ai (Aq (As 5)) (Ai (BQ hu (As 3) An (fun _ _=>rfl)) AJ)))))))) (Al (Bf KH)) AR)
   (Al (Bf (WC (Sa (Wa hr) (Aq (BL G_read_as (hr.mono (by first | decide | omega)) (Ai (Aq (As 2)) (Ai (Aq (As 6)) AJ)))) (As 5)) (Wv (Pz (Aq (BL G_shown_as (hr.mono (by first | decide | omega)) (Ai (Aq (As 10)) AJ))) (As 6)))))))))))))))))))
abbrev C7:Stmt:=top 21
theorem GV:AZ ["text","pieces","word","sign"] ["text"] (Ao C7):=⟨rfl,rfl,rfl,by decide +kernel,rfl,by decide +kernel,by decide +kernel⟩
theorem Ko {f:Addr} {fd:FuncData} {cStock:Addr} (Fu:Fun K "pieces_of" "pieces_of" C7 f fd) (T:Tx w K mg cStock) :Dv P w K mg base CX0 1 f fd ["text"] (spF K 1 (C9)) :=
 C0 (k:=0) (g:=FN) Fu GV 1 3 rfl rfl (fun cdv A outer s H E hr=>by
  have nd:=GV.nd
  have hu:=CZ hr
  exact (Ad (AK 1 nd (Or.inl rfl) (Es Au))
   (Ad (AK 2 nd (Or.inl rfl) Bh)
   (Ad (Dn PassesOwn.never rfl (Ct (Aq (As 0))) (AH 3 nd (Or.inl rfl)) (Al (BK (R8 T.Ce (As 3)) (Ad (CF (JL Tw PySem.F.slot_list_extend PySem.F.type_list_extend Tu (As 1) (Ae (DD (Ae (Aq (As 2)) (Ae (Aq (As 3)) Au))) Au)))
   (Al (AK 2 nd (Or.inl rfl) Bh))) (Al (TV 2 nd (Or.inl rfl) (As 3))))))
   (Al (Bf (Dz false ["piece"] [none] rfl (Ct (Aq (Cu (As 1) (DD (Ae (Aq (As 2)) Au))))) (fun _ _ _ _ _=>(AH 0 (by show List.Nodup (["piece"]:List Str);decide +kernel) (Or.inl rfl) (hf:=.inr rfl))) (fun _ _ _ _ _=>(LB (Ue (As 0) Bh))) (fun _ _ _ _ _=>(Aq (As 0))))))))))
abbrev D9:Stmt:=top 20
theorem IB:AZ ["stock","text","pieces"] ["stock","text"] (Ao D9):=⟨rfl,rfl,rfl,by decide +kernel,rfl,by decide +kernel,by decide +kernel⟩
theorem M8 {f:Addr} {fd:FuncData} {cStock:Addr} (Fu:Fun K "read_as" "read_as" D9 f fd) (T:Tx w K mg cStock) (G_written_by:FnAt P w K mg base CX0 "written_by" 4 ["stock","pieces"] (spF K 2 (CM cStock))) (G_check_brackets:FnAt P w K mg base CX0 "check_brackets" 1 ["pieces"] (spF K 1 Bk)) (G_check_neighbours:FnAt P w K mg base CX0 "check_neighbours" 3 ["pieces"] (spF K 1 A9)) (G_pieces_of:FnAt P w K mg base CX0 "pieces_of" 1 ["text"] (spF K 1 C9)):Dv P w K mg base CX0 5 f fd ["stock","text"] (spF K 2 (Dp cStock)) :=
 C0 (k:=4) (g:=Ih cStock) Fu IB 2 1 rfl rfl (fun cdv A outer s H E hr=>by
  have nd:=IB.nd
  have hu:=CZ hr
  exact (Ad (AK 2 nd (Or.inl rfl) (Aq (BL G_pieces_of (hr.mono (by first | decide | omega)) (Ai (Aq (As 1)) AJ))))
   (Ad (CF (BL G_check_neighbours (hr.mono (by first | decide | omega)) (Ai (Aq (As 2)) AJ)))
   (Ad (CF (BL G_check_brackets (hr.mono (by first | decide | omega)) (Ai (Aq (As 2)) AJ)))
   (Al (Bf (BL G_written_by (hr.mono (by first | decide | omega)) (Ai (Aq (As 0)) (Ai (Aq (As 2)) AJ)))))))))
abbrev DI:Stmt:=top 19
theorem Hx:AZ ["expression","form","head","arguments","inside"] ["expression"] (Ao DI):=⟨rfl,rfl,rfl,by decide +kernel,rfl,by decide +kernel,by decide +kernel⟩
theorem HF {f:Addr} {fd:FuncData} {cStock:Addr} (Fu:Fun K "shown_as" "shown_as" DI f fd) (T:Tx w K mg cStock)  (hat:∀ k sp,Dv P w K mg base CX0 k f fd ["expression"] sp->FnAt P w K mg base CX0 "shown_as" k ["expression"] sp):∀ n,Dv P w K mg base CX0 (1+n) f fd ["expression"] (spF K 1 (Bq n))
 | 0=>⟨fun vs H Q E h=>by rw [h.1];rfl,fun A outer s H args us vs Q E hr he hb hv h=>by obtain ⟨_,F,fs0,ok,h⟩:=h;exact h.elim⟩
 | n+1=>by
  have Grec:=hat _ _ (HF Fu T  hat n)
  have hb:=C0 (P:=P) (w:=w) (mg:=mg) (base:=base) (k:=1+n) (g:=Fj (Bq n)) Fu Hx 1 4 rfl rfl (fun cdv A outer s H E hr=>by
  have nd:=Hx.nd
  have hu:=CZ hr
  exact (Ad (BK (FG (BQ hu (As 0) An (fun _ _=>rfl)) Bh) (Al (Bf (BQ hu (As 0) An (fun _ _=>rfl)))) AR)
   (Ad (R6 (Aq (As 0)) (Ex rfl (A2 (AH 1 nd (Or.inl rfl)) (A2 (AH 2 nd (Or.inl rfl)) (A2 (AH 3 nd (Or.inl rfl)) Dw (fun h1 h2=>A0 h1 h2)) (fun h1 h2=>A0 h1 h2)) (fun h1 h2=>A0 h1 h2))))
   (Ad (AK 4 nd (Or.inl rfl) (Aq (Mz Jw PySem.F.slot_str_join PySem.F.type_str_join Js Bh (Ae (Dz false ["argument"] [none] rfl (Ct (Aq (As 3))) (fun _ _ _ _ _=>(AH 0 (by show List.Nodup (["argument"]:List Str);decide +kernel) (Or.inl rfl) (hf:=.inr rfl))) (fun _ _ _ _ _=>DQ) (fun _ _ _ _ _=>(Aq (BL Grec (hr.mono (by first | decide | omega)) (Ai (Aq (As 0)) AJ))))) Au))))
   (Al (Bf (Yi (FEs.cons (Wz (As 2)) (FEs.cons Bh (FEs.cons (Wz (As 4)) (FEs.cons Bh FEs.nil)))))))))))
  exact hb
abbrev Bz:Stmt:=top 26
theorem D7:AZ ["stock","word","arguments"] ["stock","word","arguments"] (Ao Bz):=⟨rfl,rfl,rfl,by decide +kernel,rfl,by decide +kernel,by decide +kernel⟩
theorem Gx {f:Addr} {fd:FuncData} {cStock:Addr} (Fu:Fun K "with_arguments" "with_arguments" Bz f fd) (T:Tx w K mg cStock) (G_is_maker:FnAt P w K mg base CX0 "is_maker" 2 ["stock","name"] (spF K 2 (Dc cStock))):Dv P w K mg base CX0 3 f fd ["stock","word","arguments"] (spF K 3 (BB cStock)) :=
 C0 (k:=2) (g:=DA cStock) Fu D7 3 0 rfl rfl (fun cdv A outer s H E hr=>by
  have nd:=D7.nd
  have hu:=CZ hr
  exact (Al (Bf (DY (Ae (Yk (CC (Aq (BL G_is_maker (hr.mono (by first | decide | omega)) (Ai (Aq (As 0)) (Ai (Aq (As 1)) AJ)))) (fun _=>rfl)) Bh Bh) (Ae (Aq (As 1)) (Ae (Aq (As 2)) Au)))))))
abbrev CH:Stmt:=top 25
theorem FY:AZ ["stock","pieces","words","rows","piece","next_piece","arguments"] ["stock","pieces"] (Ao CH):=⟨rfl,rfl,rfl,by decide +kernel,rfl,by decide +kernel,by decide +kernel⟩
theorem Jp {f:Addr} {fd:FuncData} {cStock:Addr} (Fu:Fun K "written_by" "written_by" CH f fd) (T:Tx w K mg cStock) (G_with_arguments:FnAt P w K mg base CX0 "with_arguments" 3 ["stock","word","arguments"] (spF K 3 (BB cStock))):Dv P w K mg base CX0 4 f fd ["stock","pieces"] (spF K 2 (CM cStock)) :=
 C0 (k:=3) (g:=E1 cStock) Fu FY 2 5 rfl rfl (fun cdv A outer s H E hr=>by
  have nd:=FY.nd
  have hu:=CZ hr
  exact (Ad (AK 2 nd (Or.inl rfl) (Es Au))
   (Ad (AK 3 nd (Or.inl rfl) Rc)
   (Ad (Dn PassesOwn.never rfl (Ws T.b_zip (As 1) (Aq (Cu (Rb (As 1) (JJ An) JK) (DD (Ae Bh Au))))) (Ex rfl (A2 (AH 4 nd (Or.inl rfl)) (A2 (AH 5 nd (Or.inl rfl)) Dw (fun h1 h2=>A0 h1 h2)) (fun h1 h2=>A0 h1 h2))) (Al (BK (FG (As 4) Bh) (Al (TY 3 (Es Au))) (Al (BK (FG (As 4) Bh) (Ad (AK 6 nd (Or.inl rfl) (Fd T.b_tuple (Ae (Aq (Ui 3)) Au)))
   (Al (IQ 3 (Aq (BL G_with_arguments (hr.mono (by first | decide | omega)) (Ai (Aq (As 0)) (Ai (Aq (H0 HL PySem.F.slot_list_pop PySem.F.type_list_pop EN (As 2))) (Ai (Aq (As 6)) AJ)))))))) (Al (BK (FG (As 5) Bh) (Al (CF (JL GY PySem.F.slot_list_append PySem.F.type_list_append Ci (As 2) (Ae (Aq (As 4)) Au)))) (Al (BK (Ud T.Ce (As 4)) (Al (IQ 3 (DY (Ae Bh (Ae (Aq (As 4)) Au))))) AR)))))))))
   (Al (Bf (Uk 3)))))))
end
end Sy
namespace Nm
def M (c:Int):Int:=(c * c+c+1) * 982451653
def W (c:Int):Int:=1+M c % 12
def At (c:Int):Int:=M c / 12 % W c
def Dl (i:Int):Nat:=97+(i % 26).toNat
def base (c:Int) (j:Nat):Nat:=Dl (M c / ((j:Int)+5)+(j:Int) * j)
def stepI (c:Int):Nat:=(M c / 144 % 6).toNat
def step (c:Int):Int:=([1,3,5,7,9,11]:List Int).getD (stepI c) 1
def one (c:Int) (k:Nat):Nat:=Dl (M c / 864+(k:Int) * step c)
def KS (c:Int) (k:Nat):List Nat:=List.replicate (((k:Int)+M c / 7) % 12+1).toNat (base c 0)
def IY (c:Int) (k:Nat):List Nat:=(List.range (At c).toNat).map (base c)++[one c k]++(List.range ((W c).toNat - ((At c).toNat+1))).map fun j=>base c ((At c).toNat+1+j)
def codes (c:Int) (k:Nat):List Nat:=if M c / 900 % 3=1 then KS c k else IY c k
theorem WV (c:Int):1<=W c:=by unfold W;omega
theorem Yu (c:Int):W c<=12:=by unfold W;omega
theorem WX (c:Int):0<=At c:=Int.emod_nonneg _ (by have:=WV c;omega)
theorem WY (c:Int):At c < W c:=Int.emod_lt_of_pos _ (by have:=WV c;omega)
theorem OL (i:Int):97<=Dl i:=by unfold Dl;omega
theorem OM (i:Int):Dl i<=122:=by unfold Dl;omega
theorem LY (c:Int):step c=1∨step c=3∨step c=5∨step c=7∨step c=9∨step c=11:=by
 have h:stepI c < 6:=by unfold stepI;omega
 unfold step
 generalize stepI c=i at h
 match i,h with
 | 0,_=>simp
 | 1,_=>simp
 | 2,_=>simp
 | 3,_=>simp
 | 4,_=>simp
 | 5,_=>simp
theorem one_inj {c:Int} {k k':Nat} (hk:k < 12) (hk':k' < 12) (h:one c k=one c k'):k=k':=by
 unfold one Dl at h
 have h':((M c / 864+(k:Int) * step c) % 26)=((M c / 864+(k':Int) * step c) % 26):=by omega
 generalize M c / 864=m at h'
 rcases LY c with e | e | e | e | e | e <;> rw [e] at h' <;> omega
theorem Fh (c:Int) (k:Nat):(KS c k).length=(((k:Int)+M c / 7) % 12+1).toNat:=by unfold KS;simp
theorem IX (c:Int) (k:Nat):(IY c k).length=(W c).toNat:=by
 unfold IY
 simp only [List.length_append,List.length_map,List.length_range,List.length_singleton]
 have:=WX c;have:=WY c
 omega
theorem MD (c:Int) (k:Nat):1<=(codes c k).length:=by
 unfold codes
 split
 ·rw [Fh];omega
 ·rw [IX];have:=WV c;omega
theorem JP (c:Int) (k:Nat):(codes c k).length<=12:=by
 unfold codes
 split
 ·rw [Fh];omega
 ·rw [IX];have:=Yu c;omega
theorem Gk (c:Int) (k:Nat):∀ x∈codes c k,97<=x/\x<=122:=by
 intro x hx
 have key:∃ i,x=Dl i:=by
  unfold codes at hx
  split at hx
  ·unfold KS at hx
   exact ⟨_,(List.mem_replicate.mp hx).2⟩
  ·unfold IY at hx
   rcases List.mem_append.mp hx with hx | hx
   ·rcases List.mem_append.mp hx with hx | hx
    ·obtain ⟨j,_,rfl⟩:=List.mem_map.mp hx
     exact ⟨_,rfl⟩
    ·rw [List.mem_singleton.mp hx]
     exact ⟨_,rfl⟩
   ·obtain ⟨j,_,rfl⟩:=List.mem_map.mp hx
    exact ⟨_,rfl⟩
 obtain ⟨i,rfl⟩:=key
 exact ⟨OL i,OM i⟩
theorem PX {c:Int} {k k':Nat} (hk:k < 12) (hk':k' < 12) (h:codes c k=codes c k'):k=k':=by
 unfold codes at h
 split at h
 ·have e:=congrArg List.length h
  rw [Fh,Fh] at e
  omega
 ·unfold IY at h
  rw [List.append_assoc,List.append_assoc] at h
  have h1:=List.append_cancel_left h
  rw [List.singleton_append,List.singleton_append] at h1
  exact one_inj hk hk' (List.cons.inj h1).1
end Nm
namespace Sy
open PySem PySem.Spec L2 FL
theorem AO {g h:FS->SO} {fs fs':FS} (e:g fs=.nx fs'):AN g h fs=h fs':=by unfold AN;rw [e]
abbrev vl (t:T):Option Sl:=some (.val t)
abbrev iv (i:Int):Option Sl:=some (.val (.int i))
def Fre:Option Sl->Prop
 | some (.bor _)=>False
 | _=>True
theorem Ay:Fre none:=True.intro
theorem AI {t:T}:Fre (vl t):=True.intro
theorem Bi {fs:FS} {i:Nat} {t:T} {x:Option Sl} (e:fs[i]?=some x) (h:Fre x):JY i (.t t) fs=some (fs.set i (vl t)):=by
 unfold JY
 rw [e]
 cases x with
 | none=>rfl
 | some s=>cases s with
  | val t=>rfl
  | own o=>rfl
  | bor o=>exact h.elim
theorem EW {fe:FS->Out Rv} {f:T->T} {rest:FS}:∀ (ts:List T) (x:Option Sl) (acc:List T),Fre x->(∀ t∈ts,fe (vl t :: rest)=.ok (.t (f t)) (vl t :: rest))->acc.length+ts.length<=big ->
  ∃ y,Fre y/\Dq (tgN 0) EF fe ts (x :: rest) acc=some (acc++ts.map f,y :: rest)
 | [],x,acc,hx,_,_=>⟨x,hx,by simp [Dq]⟩
 | t :: ts,x,acc,hx,h,hl=>by
  obtain ⟨y,hy,e⟩:=EW ts (vl t) (acc++[f t]) AI (fun t' m=>h t' (List.mem_cons_of_mem _ m)) (by simp at hl ⊢;omega)
  refine ⟨y,hy,?_⟩
  have h1:tgN 0 t (x :: rest)=some (vl t :: rest):=by
   unfold tgN
   rw [Bi (x:=x) rfl hx]
   rfl
  have h2:=h t List.mem_cons_self
  have h3:acc.length < big:=by simp at hl;omega
  simp only [Dq,h1,EF,h2,if_pos h3,e]
  simp
theorem Dy {gt:T->FS->Option FS} {body:FS->SO} (P:List T->FS->Prop) (step:∀ t ts fs,P (t :: ts) fs->∃ fs1 fs2,gt t fs=some fs1/\body fs1=.nx fs2/\P ts fs2):∀ (ts:List T) (fs:FS),P ts fs->∃ fs',CQ gt body ts fs=.nx fs'/\P [] fs'
 | [],fs,h=>⟨fs,rfl,h⟩
 | t :: ts,fs,h=>by
  obtain ⟨fs1,fs2,e1,e2,h2⟩:=step t ts fs h
  obtain ⟨fs',e,hp⟩:=Dy P step ts fs2 h2
  exact ⟨fs',by simp only [CQ,e1,e2,e],hp⟩
theorem I0:∀ ns:List Int,DE (ns.map T.int)=some ns
 | []=>rfl
 | n :: ns=>by simp [DE,I0 ns]
def IsI (t:T) (ns:List Int):Prop:=t=.scr (ns.map T.int)∨t=.lst (ns.map T.int)
theorem IsI.seq {t:T} {ns:List Int} (h:IsI t ns) (fs:FS):DN fs (.t t)=some (ns.map T.int):=by rcases h with rfl | rfl <;> rfl
theorem Qw {a j c:Int} {i:Nat} (hc:0 < c) (h:i < (Builtin.Range.rangeSize a j c).toNat):a+i * c < j:=by
 unfold Builtin.Range.rangeSize at h
 rw [if_pos hc] at h
 by_cases haj:a < j
 ·rw [if_pos haj] at h
  have h2:(i:Int)<=(j - a - 1) / c:=by omega
  have h3:=(Int.le_ediv_iff_mul_le hc).mp h2
  omega
 ·rw [if_neg haj] at h
  simp at h
theorem L7 {a j c:Int} (hc:0 < c):0<=Builtin.Range.rangeSize a j c:=by
 unfold Builtin.Range.rangeSize
 rw [if_pos hc]
 by_cases haj:a < j
 ·rw [if_pos haj]
  have:0<=(j - a - 1) / c:=Int.ediv_nonneg (by omega) (by omega)
  omega
 ·rw [if_neg haj]
  exact Int.le_refl 0
theorem HB {a j c:Int} (hc:0 < c) (h0:0<=a) (h:j<=63):(Builtin.Range.rangeSize a j c).toNat<=63:=by
 unfold Builtin.Range.rangeSize
 rw [if_pos hc]
 by_cases haj:a < j
 ·rw [if_pos haj]
  have:(j - a - 1) / c<=j - a - 1:=Int.ediv_le_self _ (by omega)
  omega
 ·rw [if_neg haj]
  simp
theorem N2 {a b c:Int} (a0:0<=a) (a1:a<=1000) (b0:0<=b) (b1:b<=63) (c0:1<=c) (c1:c<=1000):Builtin.Range.small a b c=true:=by
 have h1:=L7 (a:=a) (j:=b) (c:=c) (by omega)
 have h2:=HB (a:=a) (j:=b) (c:=c) (by omega) a0 b1
 unfold Builtin.Range.small
 simp only [Builtin.Range.rangeFitsLong,Bool.and_eq_true,Bool.or_eq_true,decide_eq_true_eq,beq_iff_eq,show c > 0 by omega,if_true]
 omega
section
variable {i j:Int} {fs:FS}
theorem Dx:AS (.t (.int i)) (.t (.int j)) fs=.ok (.t (.int (i+j))) fs:=rfl
theorem Wg:KA (.t (.int i)) (.t (.int j)) fs=.ok (.t (.int (i - j))) fs:=rfl
theorem C4 (h:0 < j):CB (.t (.int i)) (.t (.int j)) fs=.ok (.t (.int (i % j))) fs:=if_pos h
theorem Hb (h:0 < j/\j < 1073741824):ES (.t (.int i)) (.t (.int j)) fs=.ok (.t (.int (i / j))) fs:=if_pos h
theorem JG (h:-(2 ^ 64) < i/\i < 2 ^ 64):Cw (.t (.int i)) (.t (.int j)) fs=.ok (.t (.int (i * j))) fs:=by
 have e:UN (.t (.int i)) (.t (.int j)) fs=.ok (.t (.int (i * j))) fs:=if_pos (by rw [decide_eq_true h];rfl)
 unfold Cw orG
 rw [e]
theorem T6 (h:Builtin.Int.intBits i<=2 ^ 26/\Builtin.Int.intBits j<=2 ^ 26):Cw (.t (.int i)) (.t (.int j)) fs=.ok (.t (.int (i * j))) fs:=by
 have e:UN (.t (.int i)) (.t (.int j)) fs=.ok (.t (.int (i * j))) fs:=if_pos (by rw [decide_eq_true h.1,decide_eq_true h.2];simp)
 unfold Cw orG
 rw [e]
end
theorem Bv {x:Rv} {ts:List T} {i:Int} {t:T} {fs:FS} (h:DN fs x=some ts) (e:atI ts i=some t):Bd x (.t (.int i)) fs=.ok (.t t) fs:=by
 have e':gIx x (.t (.int i)) fs=.ok (.t t) fs:=by
  simp only [gIx,h,e,okT]
 unfold Bd orG
 rw [e']
theorem R7 {t:T} {ns:List Int} {i:Int} {fs:FS} (h:IsI t ns) (h0:0<=i) (h1:i < ns.length):Bd (.t t) (.t (.int i)) fs=.ok (.t (.int (ns.getD i.toNat 0))) fs:=by
 refine Bv (h.seq fs) ?_
 have e:(ns.map T.int)[i.toNat]?=some (T.int (ns.getD i.toNat 0)):=by
  have:i.toNat < ns.length:=by omega
  simp [this]
 have:=AW e
 rwa [Int.toNat_of_nonneg h0] at this
theorem IG {fs:FS} {j:Nat}:∀ {is:List Ini} {k:Nat},(∀ i∈is,DX fs i=none)->FL.placeOf fs j is k=none
 | [],_,_=>rfl
 | i :: is,k,h=>by
  simp only [FL.placeOf]
  rw [h i List.mem_cons_self,if_neg (by simp)]
  exact IG fun i' m=>h i' (List.mem_cons_of_mem _ m)
theorem IZ {fs:FS} {is:List Ini} {τ:FS} (h:∀ i∈is,DX fs i=none):∀ (gs:FS) (j:Nat),LQ fs is τ j gs=some gs
 | [],_=>rfl
 | g :: gs,j=>by
  simp only [LQ,P6,IG h,IZ h gs (j+1)]
theorem A4 {fs:FS} {is:List Ini} {τ:FS} (h:Dm fs is=[]):JT is τ fs=some fs:=IZ (List.filterMap_eq_nil_iff.mp h) fs 0
theorem CT {src:List (Option Nat)} {fi:FS->Out (List T)} {gt:T->FS->Option FS} {ft:FS->Out Bool} {fe:FS->Out Rv} {fs fs':FS} {ts vs:List T} {τ:FS} (h1:fi fs=.ok ts fs) (h2:(Dm fs (src.map fun o=>o.elim Ini.no Ini.slot)).Nodup/\(src.all fun o=>o.elim true fun j=>decide (j < fs.length))=true)
  (h3:Dq gt ft fe ts (Fp fs (src.map fun o=>o.elim Ini.no Ini.slot)) []=some (vs,τ)) (h4:JT (src.map fun o=>o.elim Ini.no Ini.slot) τ fs=some fs'):BN false src fi gt ft fe fs=.ok (.t (.lst vs)) fs':=by
 unfold BN
 rw [h1]
 simp only [Out.bind]
 rw [if_pos h2,h3]
 dsimp only
 rw [h4]
 rfl
theorem N9 {a j c:Int} {fs:FS} {fa:FS->Out (List Rv)} (e:fa fs=.ok [.t (.int a),.t (.int j),.t (.int c)] fs) (a0:0<=a) (a1:a<=1000) (b0:0<=j) (b1:j<=63) (c0:1<=c) (c1:c<=1000):TR fa fs=.ok (Qe a c (Builtin.Range.rangeSize a j c).toNat) fs:=by
 unfold TR
 rw [e]
 simp only [Out.bind]
 exact if_pos ⟨by omega,by omega,N2 a0 a1 b0 b1 c0 c1,L7 (by omega)⟩
theorem drawn {t:T} {ns:List Int} (ht:IsI t ns) {a b:Int} (a0:0<=a) (a1:a<=1000) (b0:1<=b) (b1:b<=1000) (more:FS) :
  ∃ zs:List Int,(zs.length<=63/\∀ z∈zs,∃ i,z=ns.getD i 0)/\Am TZ (Ac (BN false [none,some 0] (TR (Ac (Ab 1) (Ac (Am KC (Ac (Am CO (Ac (Ab 0) Ak)) (Ac (gc (.int 63)) Ak))) (Ac (Ab 2) Ak)))) (tgN 0) EF (Af Bd (Ab 1) (fz (Ab 0)))) Ak) (vl t :: iv a :: iv b :: more)=.ok (.t (.int zs.sum)) (vl t :: iv a :: iv b :: more):=by
 have hj:∃ j:Int,0<=j/\j<=63/\j<=ns.length/\(Ac (Ab 1) (Ac (Am KC (Ac (Am CO (Ac (Ab 0) Ak)) (Ac (gc (.int 63)) Ak))) (Ac (Ab 2) Ak))) (vl t :: iv a :: iv b :: more)=.ok [.t (.int a),.t (.int j),.t (.int b)] (vl t :: iv a :: iv b :: more):=by
  refine ⟨if (63:Int) < ((ns.map T.int).length:Int) then 63 else ((ns.map T.int).length:Int),?_,?_,?_,?_⟩
  ·split <;> omega
  ·split <;> omega
  ·rw [List.length_map];split <;> omega
  ·rcases ht with rfl | rfl <;> rfl
 obtain ⟨j,j0,j1,j2,ej⟩:=hj
 have e1:=N9 ej a0 a1 j0 j1 b0 b1
 obtain ⟨y,hy,e2⟩:=EW (fe:=Af Bd (Ab 1) (fz (Ab 0))) (f:=fun t'=>match t' with | .int i=>.int (ns.getD i.toNat 0) | _=>.non) (rest:=[vl t]) (Qe a b (Builtin.Range.rangeSize a j b).toNat) none [] Ay (fun t' m=>by
   unfold Qe at m
   rw [List.mem_map] at m
   obtain ⟨k,mk,rfl⟩:=m
   have hk:=Qw (a:=a) (j:=j) (c:=b) (i:=k) (by omega) (List.mem_range.mp mk)
   have hp:0<=(k:Int) * b:=Int.mul_nonneg (by omega) (by omega)
   simp only [AN,AY,Bb,retS,nxS,ifS,SO.of,Af,Ab,gc,fz,Ac,Ah,Ak,Am,AD,ND,Bp,By,DH,AX,Fm,Out.bnd,Out.bind,JY,Oc,okT,asB,Fl,Sn,orT,FQ,Option.map_some,Option.bind_some,Option.isSome_some,List.getElem?_cons_zero,List.getElem?_cons_succ,List.set_cons_zero,List.set_cons_succ,List.length_cons,List.length_nil,List.length_map,if_true,if_false,Bool.false_eq_true,FL.A1,FL.putAt,FL.Sl.put,R7 ht (i:=a+(k:Int) * b) (by omega) (by omega)]) (by
   have:=HB (a:=a) (j:=j) (c:=b) (by omega) a0 j1
   unfold Qe
   rw [List.length_map,List.length_range]
   show 0+_<=1000000
   omega)
 have e3:BN false [none,some 0] (TR (Ac (Ab 1) (Ac (Am KC (Ac (Am CO (Ac (Ab 0) Ak)) (Ac (gc (.int 63)) Ak))) (Ac (Ab 2) Ak)))) (tgN 0) EF (Af Bd (Ab 1) (fz (Ab 0))) (vl t :: iv a :: iv b :: more)=.ok (.t (.lst _)) (vl t :: iv a :: iv b :: more) :=
  CT e1 ⟨by rw [show Dm (vl t :: iv a :: iv b :: more) _=[] from rfl];exact List.nodup_nil,by simp⟩ e2 (A4 rfl)
 refine ⟨(List.range (Builtin.Range.rangeSize a j b).toNat).map fun (k:Nat)=>ns.getD (a+(k:Int) * b).toNat 0,⟨by
  rw [List.length_map,List.length_range]
  exact HB (a:=a) (j:=j) (c:=b) (by omega) a0 j1,fun z m=>by
  rw [List.mem_map] at m
  obtain ⟨k,_,rfl⟩:=m
  exact ⟨_,rfl⟩⟩,?_⟩
 have e4:(Qe a b (Builtin.Range.rangeSize a j b).toNat).map (fun t'=>match t' with | .int i=>T.int (ns.getD i.toNat 0) | _=>.non)=((List.range (Builtin.Range.rangeSize a j b).toNat).map fun (k:Nat)=>ns.getD (a+(k:Int) * b).toNat 0).map T.int:=by
  unfold Qe
  rw [List.map_map,List.map_map]
  rfl
 rw [List.nil_append,e4] at e3
 simp only [Am,Ac,e3,Out.bnd,Out.bind,Ak,TZ,DN,Option.bind_some,I0,okT]
theorem NQ {n:Nat}:∀ t∈FL.upTo 0 n,∃ i:Int,t=.int i:=fun t m=>by
 unfold FL.upTo at m
 rw [List.mem_map] at m
 obtain ⟨k,_,rfl⟩:=m
 exact ⟨_,rfl⟩
theorem digits {t:T} {ns:List Int} (ht:IsI t ns) {a b:Int} (a0:0<=a) (a1:a<=1000) (b0:1<=b) (b1:b<=1000) :
  ∃ ds:List Int,ds.length=150/\Ck [vl t,iv a,iv b]=.ok (.nw (.lst (ds.map T.int))) [vl t,iv a,iv b]:=by
 obtain ⟨zs,_,e1⟩:=drawn ht a0 a1 b0 b1 [none,none,none,none,none]
 generalize zs.sum=D at e1
 have hloop:=Dy (gt:=tgN 7) (body:=(AN (AY 5 (Af CB (Af AS (Af AS (Af Cw (Ab 5) (Ab 5)) (Ab 3)) (Ab 7)) (gc (.int 2147483629))))
  (AN (Bb (AX Er (Ab 4) (Ac (Af CB (Af Bd (AD By (Ac (fz (Ab 6)) (Ac (Af CB (Af Cw (Ab 5) (Ab 5)) (gc (.int 2147483587))) Ak))) (Af CB (Ab 3) (gc (.int 2)))) (gc (.int 1000003))) Ak)))
  (AY 6 (Af ES (Ab 6) (gc (.int 1000003)))))))
  (fun ts fs=>∃ (ds:List Int) (f r:Int) (x:Option Sl),fs=[vl t,iv a,iv b,iv D,some (.own (.lst (ds.map T.int))),iv f,iv r,x]/\0<=f/\f < 2147483629/\ds.length+ts.length=150/\Fre x/\∀ t∈ts,∃ i:Int,t=.int i) (fun t' ts fs h=>?_) (FL.upTo 0 150) [vl t,iv a,iv b,iv D,some (.own (.lst [])),iv (D % 2147483629),iv (D / 2),none]
  ⟨[],_,_,_,rfl,Int.emod_nonneg _ (by decide),Int.emod_lt_of_pos _ (by decide),by simp [FL.upTo],Ay,NQ⟩
 ·obtain ⟨fs',ef,ds,f,r,x,rfl,_,_,hl,_,_⟩:=hloop
  refine ⟨ds.reverse,by rw [List.length_reverse];simpa using hl,?_⟩
  have s1:AY 3 (Am TZ (Ac (BN false [none,some 0] (TR (Ac (Ab 1) (Ac (Am KC (Ac (Am CO (Ac (Ab 0) Ak)) (Ac (gc (.int 63)) Ak))) (Ac (Ab 2) Ak)))) (tgN 0) EF (Af Bd (Ab 1) (fz (Ab 0)))) Ak)) [vl t,iv a,iv b,none,none,none,none,none]=.nx [vl t,iv a,iv b,iv D,none,none,none,none]:=by
   unfold AY
   rw [e1]
   rfl
  have s5:Ef (Iu (Ac (gc (.int 150)) Ak)) (tgN 7) (AN (AY 5 (Af CB (Af AS (Af AS (Af Cw (Ab 5) (Ab 5)) (Ab 3)) (Ab 7)) (gc (.int 2147483629))))
  (AN (Bb (AX Er (Ab 4) (Ac (Af CB (Af Bd (AD By (Ac (fz (Ab 6)) (Ac (Af CB (Af Cw (Ab 5) (Ab 5)) (gc (.int 2147483587))) Ak))) (Af CB (Ab 3) (gc (.int 2)))) (gc (.int 1000003))) Ak)))
  (AY 6 (Af ES (Ab 6) (gc (.int 1000003)))))) [vl t,iv a,iv b,iv D,some (.own (.lst [])),iv (D % 2147483629),iv (D / 2),none]=.nx [vl t,iv a,iv b,iv D,some (.own (.lst (ds.map T.int))),iv f,iv r,x]:=ef
  have all:E3 [vl t,iv a,iv b,none,none,none,none,none]=.ret (.nw (.lst (ds.reverse.map T.int))) [vl t,iv a,iv b,iv D,some (.own (.lst (ds.map T.int))),iv f,iv r,x]:=by
   unfold E3
   rw [AO s1,AO (show AY 4 (AD DH Ak) [vl t,iv a,iv b,iv D,none,none,none,none]=.nx [vl t,iv a,iv b,iv D,some (.own (.lst [])),none,none,none] from rfl),
    AO (show AY 5 (Af CB (Ab 3) (gc (.int 2147483629))) [vl t,iv a,iv b,iv D,some (.own (.lst [])),none,none,none]=.nx [vl t,iv a,iv b,iv D,some (.own (.lst [])),iv (D % 2147483629),none,none] from rfl),
    AO (show AY 6 (Af ES (Ab 3) (gc (.int 2))) [vl t,iv a,iv b,iv D,some (.own (.lst [])),iv (D % 2147483629),none,none]=.nx [vl t,iv a,iv b,iv D,some (.own (.lst [])),iv (D % 2147483629),iv (D / 2),none] from rfl),AO s5]
   rw [List.map_reverse]
   rfl
  unfold Ck Dj
  show (match E3 [vl t,iv a,iv b,none,none,none,none,none] with | .nx τ=>_ | .ret (.t t) τ=>_ | .ret (.nw o) τ=>_ | .ret (.rf i) τ=>_ | .exc c τ=>_ | _=>_)=_
  rw [all]
  rfl
 ·obtain ⟨ds,f,r,x,rfl,f0,f1,hl,hx,hi⟩:=h
  obtain ⟨k,rfl⟩:=hi t' List.mem_cons_self
  have hg:tgN 7 (.int k) [vl t,iv a,iv b,iv D,some (.own (.lst (ds.map T.int))),iv f,iv r,x]=some [vl t,iv a,iv b,iv D,some (.own (.lst (ds.map T.int))),iv f,iv r,iv k]:=by
   unfold tgN
   rw [Bi (x:=x) rfl hx]
   rfl
  have eA:AY 5 (Af CB (Af AS (Af AS (Af Cw (Ab 5) (Ab 5)) (Ab 3)) (Ab 7)) (gc (.int 2147483629))) [vl t,iv a,iv b,iv D,some (.own (.lst (ds.map T.int))),iv f,iv r,iv k]=.nx [vl t,iv a,iv b,iv D,some (.own (.lst (ds.map T.int))),iv ((f * f+D+k) % 2147483629),iv r,iv k]:=by
   simp only [AN,AY,Bb,retS,nxS,ifS,SO.of,Af,Ab,gc,fz,Ac,Ah,Ak,Am,AD,ND,Bp,By,DH,AX,Fm,Out.bnd,Out.bind,JY,Oc,okT,asB,Fl,Sn,orT,FQ,Option.map_some,Option.bind_some,Option.isSome_some,List.getElem?_cons_zero,List.getElem?_cons_succ,List.set_cons_zero,List.set_cons_succ,List.length_cons,List.length_nil,List.length_map,if_true,if_false,Bool.false_eq_true,FL.A1,FL.putAt,FL.Sl.put,JG (i:=f) (j:=f) ⟨by omega,by omega⟩,Dx,C4 (show (0:Int) < 2147483629 by decide)]
  have f0':0<=(f * f+D+k) % 2147483629:=Int.emod_nonneg _ (by decide)
  have f1':(f * f+D+k) % 2147483629 < 2147483629:=Int.emod_lt_of_pos _ (by decide)
  generalize (f * f+D+k) % 2147483629=f' at eA f0' f1'
  have hz:∃ z,atI [T.int r,T.int (f' * f' % 2147483587)] (D % 2)=some (T.int z):=by
   have h:D % 2=((0:Nat):Int)∨D % 2=((1:Nat):Int):=by omega
   rcases h with h | h
   ·rw [h];exact ⟨r,AW rfl⟩
   ·rw [h];exact ⟨_,AW rfl⟩
  obtain ⟨z,ez⟩:=hz
  have hlen:ds.length < big:=by
   simp at hl
   show ds.length < 1000000
   omega
  have eB:Bb (AX Er (Ab 4) (Ac (Af CB (Af Bd (AD By (Ac (fz (Ab 6)) (Ac (Af CB (Af Cw (Ab 5) (Ab 5)) (gc (.int 2147483587))) Ak))) (Af CB (Ab 3) (gc (.int 2)))) (gc (.int 1000003))) Ak)) [vl t,iv a,iv b,iv D,some (.own (.lst (ds.map T.int))),iv f',iv r,iv k]=.nx [vl t,iv a,iv b,iv D,some (.own (.lst ((ds++[z % 1000003]).map T.int))),iv f',iv r,iv k]:=by
   simp only [AN,AY,Bb,retS,nxS,ifS,SO.of,Af,Ab,gc,fz,Ac,Ah,Ak,Am,AD,ND,Bp,By,DH,AX,Fm,Out.bnd,Out.bind,JY,Oc,okT,asB,Fl,Sn,orT,FQ,Option.map_some,Option.bind_some,Option.isSome_some,List.getElem?_cons_zero,List.getElem?_cons_succ,List.set_cons_zero,List.set_cons_succ,List.length_cons,List.length_nil,List.length_map,if_true,if_false,Bool.false_eq_true,FL.A1,FL.putAt,FL.Sl.put,JG (i:=f') (j:=f') ⟨by omega,by omega⟩,C4 (show (0:Int) < 2147483587 by decide),C4 (show (0:Int) < 2 by decide),Bv (x:=.t (.lst [T.int r,T.int (f' * f' % 2147483587)])) rfl ez,C4 (show (0:Int) < 1000003 by decide),DN,Er,hlen,show (0+1+1<=big) from by decide]
   simp
  have eC:AY 6 (Af ES (Ab 6) (gc (.int 1000003))) [vl t,iv a,iv b,iv D,some (.own (.lst ((ds++[z % 1000003]).map T.int))),iv f',iv r,iv k]=.nx [vl t,iv a,iv b,iv D,some (.own (.lst ((ds++[z % 1000003]).map T.int))),iv f',iv (r / 1000003),iv k]:=rfl
  refine ⟨_,_,hg,?_,ds++[z % 1000003],f',r / 1000003,iv k,rfl,f0',f1',by simp at hl ⊢;omega,AI,fun t' m=>hi t' (List.mem_cons_of_mem _ m)⟩
  rw [AO eA,AO eB]
  exact eC
def nmS (c:Int) (k:Nat):Str:=⟨(Nm.codes c k).toArray⟩
def nms (c:Int) (n:Nat):List Str:=(List.range n).map (nmS c)
def ABC:Str:="abcdefghijklmnopqrstuvwxyz"
theorem WU:∀ j,j < 26->ABC.cps.toList[j]?=some (97+j):=by decide +kernel
theorem P8 (x:Int):atI ABC.cps.toList (x % 26)=some (Nm.Dl x):=by
 have h:(x % 26).toNat < 26:=by omega
 have e:=AW (WU _ h)
 rw [Int.toNat_of_nonneg (by omega)] at e
 exact e
theorem II:∀ ys:List Str,(Str.join (⟨#[]⟩:Str) ys).cps.toList=(ys.map fun y=>y.cps.toList).flatten
 | []=>rfl
 | [x]=>by simp [Str.join]
 | x :: y :: r=>by
  have ih:=II (y :: r)
  show (x++(⟨#[]⟩:Str)++Str.join ⟨#[]⟩ (y :: r)).cps.toList=_
  show (x.cps++#[]++(Str.join ⟨#[]⟩ (y :: r)).cps).toList=_
  rw [List.map_cons,List.flatten_cons,<- ih]
  simp
theorem join_ones (f:Nat->Nat) (js:List Nat):(Txt.join (⟨#[]⟩:Str) (js.map fun j=>(⟨#[f j]⟩:Str))).cps.toList=js.map f:=by
 show (Builtin.Str.glued _ _).cps.toList=_
 rw [StrLaws.glued_eq_join,II]
 induction js with
 | nil=>rfl
 | cons j r ih =>
  rw [List.map_cons,List.map_cons,List.flatten_cons,ih,List.map_cons]
  rfl
theorem Lg {x y:Str} (h:x.cps.toList=y.cps.toList):x=y:=by
 obtain ⟨a⟩:=x
 obtain ⟨b⟩:=y
 have:a=b:=by simpa using h
 rw [this]
theorem OE (c:Nat) (n:Int) (h0:1<=n):(Txt.mul (⟨#[c]⟩:Str) n).cps.toList=List.replicate n.toNat c:=by
 unfold Txt.mul
 rw [if_neg (by omega)]
 by_cases h1:n=1
 ·subst h1
  rfl
 ·rw [if_neg (by simp [h1,Str.length])]
  have key:∀ (m:Nat) (acc:Array Nat),((List.replicate m #[c]).foldl (·++·) acc).toList=acc.toList++List.replicate m c:=by
   intro m
   induction m with
   | zero=>intro acc;simp
   | succ m ih =>
    intro acc
    rw [List.replicate_succ,List.foldl_cons,ih,List.replicate_succ]
    simp
  have:=key n.toNat #[]
  simpa using this
theorem EV:Str.ofString ""=(⟨#[]⟩:Str):=by decide +kernel
theorem QO (f:Nat->Nat) (js:List Nat):((js.map fun j=>(⟨#[f j]⟩:Str)).map (·.length)).sum=js.length:=by
 induction js with
 | nil=>rfl
 | cons j r ih =>
  rw [List.map_cons,List.map_cons,List.sum_cons,ih,List.length_cons]
  show 1+r.length=_
  omega
theorem Mp (f:Nat->Nat) (js:List Nat):(Txt.join (⟨#[]⟩:Str) (js.map fun j=>(⟨#[f j]⟩:Str))).length=js.length:=by
 have e:=congrArg List.length (join_ones f js)
 rw [List.length_map] at e
 rw [<- e]
 simp [Str.length]
def CU (c:Int) (n:Nat):List Str:=(List.range n).map fun j=>(⟨#[Nm.base c j]⟩:Str)
theorem NB (c:Int) (n k:Nat) (h:k<=n):(CU c n).take k=CU c k:=by
 unfold CU
 rw [<- List.map_take,List.take_range,Nat.min_eq_left h]
theorem NC (c:Int) (n k:Nat):(CU c n).drop k=(List.range (n - k)).map fun j=>(⟨#[Nm.base c (k+j)]⟩:Str):=by
 unfold CU
 rw [<- List.map_drop]
 apply List.ext_getElem?
 intro i
 rw [List.getElem?_map,List.getElem?_map,List.getElem?_drop]
 by_cases hi:k+i < n
 ·rw [List.getElem?_range hi,List.getElem?_range (by omega)]
  rfl
 ·rw [List.getElem?_eq_none (by simp;omega),List.getElem?_eq_none (by simp;omega)]
  rfl
theorem T5 {i j:Int} {fs:FS} (h:-(2 ^ 64) < j/\j < 2 ^ 64):Cw (.t (.int i)) (.t (.int j)) fs=.ok (.t (.int (i * j))) fs:=by
 have e:UN (.t (.int i)) (.t (.int j)) fs=.ok (.t (.int (i * j))) fs:=if_pos (by rw [decide_eq_true h];simp)
 unfold Cw orG
 rw [e]
theorem T4 {z:Str} {n:Int} {fs:FS} (h:z.length=1/\1<=n/\n<=1000):Cw (.t (.str z)) (.t (.int n)) fs=.ok (.t (.str (Txt.mul z n))) fs:=by
 have e:Q7 (.t (.str z)) (.t (.int n)) fs=.ok (.t (.str (Txt.mul z n))) fs:=if_pos h
 have e2:UN (.t (.str z)) (.t (.int n)) fs=.bad:=rfl
 unfold Cw orG
 rw [e2]
 exact e
theorem HW {x y:Str} {fs:FS} (h:x.length+y.length<=big):AS (.t (.str x)) (.t (.str y)) fs=.ok (.t (.str (x++y))) fs:=by
 have e:Q9 (.t (.str x)) (.t (.str y)) fs=.ok (.t (.str (x++y))) fs:=if_pos h
 have e2:Yf (.t (.str x)) (.t (.str y)) fs=.bad:=rfl
 unfold AS orG
 rw [e2]
 dsimp only
 rw [e]
theorem Mv {z:Str} {i:Int} {c:Nat} {fs:FS} (hz:z.length<=big) (e:atI z.cps.toList i=some c):Bd (.t (.str z)) (.t (.int i)) fs=.ok (.t (.str ⟨#[c]⟩)) fs:=by
 have e':gIx (.t (.str z)) (.t (.int i)) fs=.ok (.t (.str ⟨#[c]⟩)) fs:=by
  simp only [gIx,DN,hz,if_true,e,okT]
 unfold Bd orG
 rw [e']
theorem GO:∀ xs:List Str,Dt (xs.map T.str)=some xs
 | []=>rfl
 | n :: ns=>by simp [Dt,GO ns]
theorem KP {xs:List T} {v:Int} (h0:0<=v) (h1:v.toNat<=xs.length):Qf xs none (some v)=xs.take v.toNat:=by
 show (xs.drop 0).take ((if v < 0 then (v+(xs.length:Int)).toNat else min v.toNat xs.length) - 0)=_
 rw [if_neg (by omega),Nat.min_eq_left h1]
 simp
theorem PU {xs:List T} {v:Int} (h0:0<=v) (h1:v.toNat<=xs.length):Qf xs (some v) none=xs.drop v.toNat:=by
 show (xs.drop (if v < 0 then (v+(xs.length:Int)).toNat else min v.toNat xs.length)).take (xs.length - (if v < 0 then (v+(xs.length:Int)).toNat else min v.toNat xs.length))=_
 rw [if_neg (by omega),Nat.min_eq_left h1]
 exact List.take_of_length_le (by rw [List.length_drop];omega)
theorem Rr (c:Int):atI [T.int 1,T.int 3,T.int 5,T.int 7,T.int 9,T.int 11] (Nm.M c / 144 % 6)=some (T.int (Nm.step c)):=by
 have h:Nm.stepI c < 6:=by unfold Nm.stepI;omega
 have e:([T.int 1,T.int 3,T.int 5,T.int 7,T.int 9,T.int 11]:List T)[Nm.stepI c]?=some (T.int (Nm.step c)):=by
  unfold Nm.step
  generalize Nm.stepI c=i at h
  match i,h with
  | 0,_=>rfl
  | 1,_=>rfl
  | 2,_=>rfl
  | 3,_=>rfl
  | 4,_=>rfl
  | 5,_=>rfl
 have e2:=AW e
 unfold Nm.stepI at e2
 rwa [Int.toNat_of_nonneg (by omega)] at e2
theorem UI:ABC.length<=big:=by decide +kernel
theorem TN {f:Nat->Nat} {js:List Nat} {fs:FS} (h:js.length<=1000):FF (.t (.str ("":Str))) [.t (.lst ((js.map fun j=>(⟨#[f j]⟩:Str)).map T.str))] fs=.ok (.t (.str (Txt.join (⟨#[]⟩:Str) (js.map fun j=>(⟨#[f j]⟩:Str))))) fs:=by
 have e0:("":Str).length=0:=by decide +kernel
 simp only [FF,DN,Option.bind_some,GO,QO,e0,Nat.mul_zero,Nat.add_zero]
 rw [if_pos (show js.length<=big from Nat.le_trans h (by decide)),show ("":Str)=(⟨#[]⟩:Str) from EV]
 simp only [okT]
theorem Ga {j:Int} {fs:FS} {fa:FS->Out (List Rv)} (e:fa fs=.ok [.t (.int j)] fs) (h:-(2 ^ 62)<=j/\j < 2 ^ 62):Iu fa fs=.ok (FL.upTo 0 j.toNat) fs:=by
 unfold Iu
 rw [e]
 simp only [Out.bind]
 exact if_pos h
theorem Ap {g:Rv->Rv->FS->Out Rv} {fa fb:FS->Out Rv} {fs:FS} {x y:T} {r:Out Rv} (h1:fa fs=.ok (.t x) fs) (h2:fb fs=.ok (.t y) fs) (h3:g (.t x) (.t y) fs=r):Af g fa fb fs=r:=by
 unfold Af
 rw [h1]
 show (fb fs).bnd _=r
 rw [h2]
 exact h3
theorem Aa {i:Nat} {fs:FS} {t:T} (h:fs[i]?=some (vl t)):Ab i fs=.ok (.t t) fs:=by unfold Ab;rw [h]
theorem Az {t:T} {fs:FS}:gc t fs=.ok (.t t) fs:=rfl
theorem XY {L:Str} (hL2:L.length<=big) (hL:∀ x:Int,atI L.cps.toList (x % 26)=some (Nm.Dl x)) (m:Int) (k:Nat) (hk:k < 12) :
  Af Bd (Ab 1) (Af CB (Af AS (Af ES (Ab 2) (Af AS (Ab 0) (gc (.int 5)))) (Af Cw (Ab 0) (Ab 0))) (gc (.int 26))) [iv (k:Int),vl (.str L),iv m]=.ok (.t (.str ⟨#[Nm.Dl (m / ((k:Int)+5)+(k:Int) * (k:Int))]⟩)) [iv (k:Int),vl (.str L),iv m] :=
 Ap (Aa rfl) (Ap (Ap (Ap (Aa rfl) (Ap (Aa rfl) Az Dx) (Hb ⟨by omega,by omega⟩)) (Ap (Aa rfl) (Aa rfl) (JG ⟨by omega,by omega⟩)) Dx) Az (C4 (by decide))) (Mv hL2 (hL _))
theorem Bt {i:Nat} {f:FS->Out Rv} {fs fs':FS} {t:T} (h:f fs=.ok (.t t) fs) (hs:JY i (.t t) fs=some fs'):AY i f fs=.nx fs':=by
 unfold AY
 rw [h]
 show (match JY i (.t t) fs with | some fs=>SO.nx fs | none=>.bad)=_
 rw [hs]
theorem Av {f:FS->Out Rv} {g:FS->Out (List Rv)} {fs:FS} {t:T} {rs:List Rv} (h1:f fs=.ok (.t t) fs) (h2:g fs=.ok rs fs):Ac f g fs=.ok (.t t :: rs) fs:=by
 unfold Ac
 rw [h1]
 show (g fs).bind _=_
 rw [h2]
 rfl
theorem AF {f:FS->Out Rv} {fs:FS} {t:T} (h:f fs=.ok (.t t) fs):fz f fs=.ok (.t t) fs:=by
 unfold fz
 rw [h]
 rfl
theorem Di {g:List Rv->FS->Out Rv} {fa:FS->Out (List Rv)} {fs:FS} {rs:List Rv} {r:Out Rv} (h:fa fs=.ok rs fs) (h2:g rs fs=r):Am g fa fs=r:=by
 unfold Am
 rw [h]
 exact h2
theorem ML {i:Nat} {f:FS->Out Rv} {fs fs':FS} {t:T} {ts:List T} (h0:fs[i]?=some (some (.own (.lst ts)))) (h:f fs=.ok (.t t) fs) (hl:ts.length < big) (e:fs.set i (some (.own (.lst (ts++[t]))))=fs'):Bb (AX Er (Ab i) (Ac f Ak)) fs=.nx fs':=by
 have h1:Ab i fs=.ok (.rf i) fs:=by unfold Ab;rw [h0]
 have h2:FL.A1 fs i=some (.lst ts):=by unfold FL.A1;rw [h0]
 have h3:DN fs (.rf i)=some ts:=by simp only [DN,h2]
 have h4:Ac f Ak fs=.ok [.t t] fs:=Av h rfl
 have h5:Er (.rf i) [.t t] fs=.ok (.t .non) fs':=by
  simp only [Er,h2]
  rw [if_pos hl]
  have:FL.putAt fs i (.lst (ts++[t]))=fs':=by
   unfold FL.putAt
   rw [h0]
   exact e
  rw [this]
 have h6:AX Er (Ab i) (Ac f Ak) fs=.ok (.t .non) fs':=by
  unfold AX
  rw [h1]
  show (if (DN fs (.rf i)).isSome=true then _ else _)=_
  rw [h3,if_pos (show (some ts).isSome=true from rfl),h4]
  exact h5
 unfold Bb
 rw [h6]
 rfl
theorem EB {c:FS->Out Bool} {g h:FS->SO} {fs:FS} {r:SO} (hc:c fs=.ok true fs) (e:g fs=r):ifS c g h fs=r:=by
 unfold ifS
 rw [hc]
 exact e
theorem Bx {c:FS->Out Bool} {g h:FS->SO} {fs:FS} {r:SO} (hc:c fs=.ok false fs) (e:h fs=r):ifS c g h fs=r:=by
 unfold ifS
 rw [hc]
 exact e
theorem KI {fa fb:FS->Out Rv} {fs:FS} {i j:Int} (h1:fa fs=.ok (.t (.int i)) fs) (h2:fb fs=.ok (.t (.int j)) fs):asB (Af (gEq false) fa fb) fs=.ok (decide (i=j)) fs:=by
 have e:gEq false (.t (.int i)) (.t (.int j)) fs=.ok (.t (.bl (decide (i=j)))) fs:=by
  have q:decide (V.int i=V.int j)=decide (i=j):=by
   by_cases h:i=j
   ·subst h;simp
   ·rw [decide_eq_false h,decide_eq_false (by intro z;cases z;exact h rfl)]
  show (if Lj (V.int i) (V.int j)=true then okT (.bl (if false=true then _ else decide (V.int i=V.int j))) fs else .bad)=_
  rw [if_pos (show Lj (V.int i) (V.int j)=true from rfl),q]
  rfl
 unfold asB
 rw [Ap h1 h2 e]
 rfl
theorem Cs {fa:FS->Out (List Rv)} {fs:FS} {rs:List Rv} {ts:List T} (h:fa fs=.ok rs fs) (h2:ND rs=some ts) (h3:ts.length<=big):AD By fa fs=.ok (.t (.lst ts)) fs:=by
 unfold AD
 rw [h]
 show (match ND rs with | some ts=>_ | none=>_)=_
 rw [h2]
 exact if_pos h3
theorem Qr {f g:FS->Out Rv} {fs:FS} {ts:List T} {v:Int} (h1:f fs=.ok (.t (.lst ts)) fs) (h2:g fs=.ok (.t (.int v)) fs) (h0:0<=v) (hl:v.toNat<=ts.length):slF f noP (D6 g) fs=.ok (.t (.lst (ts.take v.toNat))) fs:=by
 unfold slF
 rw [h1]
 show ((D6 g) fs).bind _=_
 unfold D6
 rw [h2]
 simp only [Out.bnd,Out.bind]
 simp only [W7,DN,okT]
 rw [KP h0 hl]
theorem LZ {f g:FS->Out Rv} {fs:FS} {ts:List T} {v:Int} (h1:f fs=.ok (.t (.lst ts)) fs) (h2:g fs=.ok (.t (.int v)) fs) (h0:0<=v) (hl:v.toNat<=ts.length):slF f (D6 g) noP fs=.ok (.t (.lst (ts.drop v.toNat))) fs:=by
 unfold slF
 rw [h1]
 show ((D6 g) fs).bind _=_
 unfold D6
 rw [h2]
 simp only [Out.bnd,Out.bind,noP]
 simp only [W7,DN,okT]
 rw [PU h0 hl]
theorem Mq {f:FS->Out Rv} {fs:FS} {g:Nat->Nat} {js:List Nat} (h:f fs=.ok (.t (.lst ((js.map fun j=>(⟨#[g j]⟩:Str)).map T.str))) fs) (hl:js.length<=1000):fz (Fm FF (gc (.str ("":Str))) (Ac f Ak)) fs=.ok (.t (.str (Txt.join (⟨#[]⟩:Str) (js.map fun j=>(⟨#[g j]⟩:Str))))) fs:=by
 refine AF ?_
 have h2:=Av h (show Ak fs=.ok [] fs from rfl)
 unfold Fm gc
 show ((Ac f Ak fs).bind _)=_
 rw [h2]
 exact TN hl
theorem Tp {L:Str} (hL2:L.length<=big) (hL:∀ x:Int,atI L.cps.toList (x % 26)=some (Nm.Dl x)) {c w:Int} (hw0:0<=w) (hw:w<=12) (m a:Int) (hm:m=Nm.M c) (x0 x1 x6 x7 x8 x9 x10:Option Sl) :
  BN false [none,some 2,some 3] (Iu (Ac (Ab 4) Ak)) (tgN 0) EF (Af Bd (Ab 1) (Af CB (Af AS (Af ES (Ab 2) (Af AS (Ab 0) (gc (.int 5)))) (Af Cw (Ab 0) (Ab 0))) (gc (.int 26)))) [x0,x1,vl (.str L),iv m,iv w,iv a,x6,x7,x8,x9,x10]=.ok (.t (.lst ((CU c w.toNat).map T.str))) [x0,x1,vl (.str L),iv m,iv w,iv a,x6,x7,x8,x9,x10]:=by
 have e1:=Ga (fa:=Ac (Ab 4) Ak) (fs:=[x0,x1,vl (.str L),iv m,iv w,iv a,x6,x7,x8,x9,x10]) (j:=w) (Av (Aa rfl) rfl) ⟨by omega,by omega⟩
 obtain ⟨y,hy,e2⟩:=EW (fe:=Af Bd (Ab 1) (Af CB (Af AS (Af ES (Ab 2) (Af AS (Ab 0) (gc (.int 5)))) (Af Cw (Ab 0) (Ab 0))) (gc (.int 26)))) (f:=fun t'=>match t' with | .int i=>.str ⟨#[Nm.Dl (m / (i+5)+i * i)]⟩ | _=>.non) (rest:=[vl (.str L),iv m]) (FL.upTo 0 w.toNat) none [] Ay (fun t' mt=>by
   unfold FL.upTo at mt
   rw [List.mem_map] at mt
   obtain ⟨k,mk,rfl⟩:=mt
   have hk:=List.mem_range.mp mk
   rw [Int.zero_add]
   exact XY hL2 hL m k (by omega)) (by
   unfold FL.upTo
   rw [List.length_map,List.length_range]
   show 0+_<=1000000
   omega)
 have e3:=CT (src:=[none,some 2,some 3]) e1 ⟨by rw [show Dm [x0,x1,vl (.str L),iv m,iv w,iv a,x6,x7,x8,x9,x10] _=[] from rfl];exact List.nodup_nil,by rfl⟩ e2 (A4 rfl)
 rw [e3,List.nil_append]
 have e4:(FL.upTo 0 w.toNat).map (fun t'=>match t' with | .int i=>T.str ⟨#[Nm.Dl (m / (i+5)+i * i)]⟩ | _=>.non)=(CU c w.toNat).map T.str:=by
  subst hm
  unfold FL.upTo CU
  rw [List.map_map,List.map_map]
  refine List.map_congr_left fun k _=>?_
  simp only [Function.comp_apply,Int.zero_add,Nm.base]
 rw [e4]
theorem To {L:Str} (hL2:L.length<=big) (hL:∀ x:Int,atI L.cps.toList (x % 26)=some (Nm.Dl x)) {c m w a st n:Int} {i:Nat} (hm:m=Nm.M c) (hw:w=Nm.W c) (ha:a=Nm.At c) (hst:st=Nm.step c) (hi:i < 12) (x10:Option Sl) (hx:Fre x10) :
  ∃ y10,Fre y10/\(AN (AY 10 (Af Bd (Ab 2) (Af CB (Af AS (Af ES (Ab 3) (gc (.int 864))) (Af Cw (Ab 9) (Ab 7))) (gc (.int 26)))))
  (ifS (asB (Af (gEq false) (Af CB (Af ES (Ab 3) (gc (.int 900))) (gc (.int 3))) (gc (.int 1)))) (Bb (AX Er (Ab 8) (Ac (Af Cw (Af Bd (Ab 6) (gc (.int 0))) (Af AS (Af CB (Af AS (Ab 9) (Af ES (Ab 3) (gc (.int 7)))) (gc (.int 12))) (gc (.int 1)))) Ak))) (Bb (AX Er (Ab 8) (Ac (Af AS (Af AS (fz (Fm FF (gc (.str ("":Str))) (Ac (slF (Ab 6) noP (D6 (Ab 5))) Ak))) (Ab 10)) (fz (Fm FF (gc (.str ("":Str))) (Ac (slF (Ab 6) (D6 (Af AS (Ab 5) (gc (.int 1)))) noP) Ak)))) Ak)))))
   [iv c,iv n,vl (.str L),iv m,iv w,iv a,vl (.lst ((CU c w.toNat).map T.str)),iv st,some (.own (.lst ((nms c i).map T.str))),iv (i:Int),x10] =
   .nx [iv c,iv n,vl (.str L),iv m,iv w,iv a,vl (.lst ((CU c w.toNat).map T.str)),iv st,some (.own (.lst ((nms c (i+1)).map T.str))),iv (i:Int),y10]:=by
 have w0:=Nm.WV c
 have w1:=Nm.Yu c
 have a0:=Nm.WX c
 have a1:=Nm.WY c
 rw [<- hw] at w0 w1 a1
 rw [<- ha] at a0 a1
 have hs:-20 < st/\st < 20:=by rw [hst];rcases Nm.LY c with e | e | e | e | e | e <;> omega
 have e10:Nm.one c i=Nm.Dl (m / 864+(i:Int) * st):=by rw [hm,hst];rfl
 have elen:((nms c i).map T.str).length < big:=by
  unfold nms
  rw [List.length_map,List.length_map,List.length_range]
  show i < 1000000
  omega
 have enm:∀ z:Str,z.cps.toList=Nm.codes c i->(nms c i).map T.str++[T.str z]=(nms c (i+1)).map T.str:=fun z ez=>by
  unfold nms
  rw [List.range_succ,List.map_append,List.map_append]
  have:z=nmS c i:=Lg (by rw [ez];simp [nmS])
  rw [this]
  rfl
 refine ⟨vl (.str ⟨#[Nm.one c i]⟩),AI,?_⟩
 have s1:AY 10 (Af Bd (Ab 2) (Af CB (Af AS (Af ES (Ab 3) (gc (.int 864))) (Af Cw (Ab 9) (Ab 7))) (gc (.int 26)))) [iv c,iv n,vl (.str L),iv m,iv w,iv a,vl (.lst ((CU c w.toNat).map T.str)),iv st,some (.own (.lst ((nms c i).map T.str))),iv (i:Int),x10] =
   .nx [iv c,iv n,vl (.str L),iv m,iv w,iv a,vl (.lst ((CU c w.toNat).map T.str)),iv st,some (.own (.lst ((nms c i).map T.str))),iv (i:Int),vl (.str ⟨#[Nm.one c i]⟩)]:=by
  rw [e10]
  exact Bt (Ap (Aa rfl) (Ap (Ap (Ap (Aa rfl) Az (Hb ⟨by decide,by decide⟩)) (Ap (Aa rfl) (Aa rfl) (JG ⟨by omega,by omega⟩)) Dx) Az (C4 (by decide))) (Mv hL2 (hL _))) (Bi rfl hx)
 rw [AO s1]
 have hc:=KI (fa:=Af CB (Af ES (Ab 3) (gc (.int 900))) (gc (.int 3))) (fb:=gc (.int 1)) (fs:=[iv c,iv n,vl (.str L),iv m,iv w,iv a,vl (.lst ((CU c w.toNat).map T.str)),iv st,some (.own (.lst ((nms c i).map T.str))),iv (i:Int),vl (.str ⟨#[Nm.one c i]⟩)])
  (Ap (Ap (Aa (t:=.int m) rfl) Az (Hb ⟨by decide,by decide⟩)) Az (C4 (by decide))) Az
 by_cases h1:m / 900 % 3=1
 ·rw [decide_eq_true h1] at hc
  have hwn:0 < w.toNat:=by omega
  have eb:((CU c w.toNat).map T.str)[0]?=some (T.str ⟨#[Nm.base c 0]⟩):=by
   unfold CU
   rw [List.map_map,List.getElem?_map,List.getElem?_range hwn]
   rfl
  refine EB hc (ML (t:=.str (Txt.mul ⟨#[Nm.base c 0]⟩ (((i:Int)+m / 7) % 12+1))) rfl (Ap (Ap (Aa rfl) Az (Bv (i:=0) rfl (AW eb))) (Ap (Ap (Ap (Aa rfl) (Ap (Aa rfl) Az (Hb ⟨by decide,by decide⟩)) Dx) Az (C4 (by decide))) Az Dx) (T4 ⟨rfl,by omega,by omega⟩)) elen ?_)
  rw [enm _ (by rw [OE _ _ (by omega),Nm.codes,<- hm,if_pos h1,Nm.KS,<- hm])]
  rfl
 ·rw [decide_eq_false h1] at hc
  have el:((CU c w.toNat).map T.str).length=w.toNat:=by unfold CU;rw [List.length_map,List.length_map,List.length_range]
  have et:((CU c w.toNat).map T.str).take a.toNat=((List.range a.toNat).map fun j=>(⟨#[Nm.base c j]⟩:Str)).map T.str:=by
   rw [<- List.map_take,NB c _ _ (by omega)]
   rfl
  have ed:((CU c w.toNat).map T.str).drop (a+1).toNat=((List.range (w.toNat - (a+1).toNat)).map fun j=>(⟨#[Nm.base c ((a+1).toNat+j)]⟩:Str)).map T.str:=by
   rw [<- List.map_drop,NC]
  have j1:=Qr (f:=Ab 6) (g:=Ab 5) (fs:=[iv c,iv n,vl (.str L),iv m,iv w,iv a,vl (.lst ((CU c w.toNat).map T.str)),iv st,some (.own (.lst ((nms c i).map T.str))),iv (i:Int),vl (.str ⟨#[Nm.one c i]⟩)]) (Aa rfl) (Aa (t:=.int a) rfl) a0 (by rw [el];omega)
  have j2:=LZ (f:=Ab 6) (g:=Af AS (Ab 5) (gc (.int 1))) (fs:=[iv c,iv n,vl (.str L),iv m,iv w,iv a,vl (.lst ((CU c w.toNat).map T.str)),iv st,some (.own (.lst ((nms c i).map T.str))),iv (i:Int),vl (.str ⟨#[Nm.one c i]⟩)]) (v:=a+1) (Aa rfl) (Ap (Aa (t:=.int a) rfl) Az Dx) (by omega) (by rw [el];omega)
  rw [et] at j1
  rw [ed] at j2
  have l1:(Txt.join (⟨#[]⟩:Str) ((List.range a.toNat).map fun j=>(⟨#[Nm.base c j]⟩:Str))).length=a.toNat:=by rw [Mp,List.length_range]
  have l2:(Txt.join (⟨#[]⟩:Str) ((List.range (w.toNat - (a+1).toNat)).map fun j=>(⟨#[Nm.base c ((a+1).toNat+j)]⟩:Str))).length=w.toNat - (a+1).toNat:=by
   rw [Mp (fun j=>Nm.base c ((a+1).toNat+j)),List.length_range]
  refine Bx hc (ML (t:=.str ((Txt.join (⟨#[]⟩:Str) ((List.range a.toNat).map fun j=>(⟨#[Nm.base c j]⟩:Str))++(⟨#[Nm.one c i]⟩:Str))++Txt.join (⟨#[]⟩:Str) ((List.range (w.toNat - (a+1).toNat)).map fun j=>(⟨#[Nm.base c ((a+1).toNat+j)]⟩:Str)))) rfl (Ap (Ap (Mq j1 (by rw [List.length_range];omega)) (Aa rfl) (HW ?_)) (Mq (g:=fun j=>Nm.base c ((a+1).toNat+j)) j2 (by rw [List.length_range];omega)) (HW ?_)) elen ?_)
  ·rw [l1]
   show a.toNat+1<=1000000
   omega
  ·rw [strLen_append,l1,l2]
   show a.toNat+1+_<=1000000
   omega
  ·rw [enm _ ?_]
   ·rfl
   ·have q1:=join_ones (Nm.base c) (List.range a.toNat)
    have q2:=join_ones (fun j=>Nm.base c ((a+1).toNat+j)) (List.range (w.toNat - (a+1).toNat))
    have ea:(a+1).toNat=a.toNat+1:=by omega
    show (((Txt.join (⟨#[]⟩:Str) _).cps++#[Nm.one c i])++(Txt.join (⟨#[]⟩:Str) _).cps).toList=_
    rw [Array.toList_append,Array.toList_append,q1,q2,Nm.codes,<- hm,if_neg h1,Nm.IY,<- ha,<- hw,ea]
theorem Po {n:Nat} {fa:FS->Out (List Rv)} {gt:T->FS->Option FS} {body:FS->SO} {fs:FS} {r:SO} (e:fa fs=.ok [.t (.int (n:Int))] fs) (h:n < 2 ^ 62) (ef:CQ gt body (FL.upTo 0 n) fs=r):Ef (Iu fa) gt body fs=r:=by
 unfold Ef
 rw [Ga e ⟨by omega,by omega⟩,Int.toNat_natCast]
 exact ef
theorem Nf {c:Int} {n:Nat} (hn:n<=12) (hb:Builtin.Int.intBits c<=2 ^ 20):∃ x2 x3 x4 x5 x6 x7 x9 x10,Gq [iv c,iv n,none,none,none,none,none,none,none,none,none]=.ret (.rf 8) [iv c,iv n,x2,x3,x4,x5,x6,x7,some (.own (.lst ((nms c n).map T.str))),x9,x10]:=by
 have hb':Builtin.Int.intBits c<=2 ^ 26:=Nat.le_trans hb (by decide)
 have w0:=Nm.WV c
 have w1:=Nm.Yu c
 have hL:∀ x:Int,atI ("abcdefghijklmnopqrstuvwxyz":Str).cps.toList (x % 26)=some (Nm.Dl x):=P8
 have hL2:("abcdefghijklmnopqrstuvwxyz":Str).length<=big:=UI
 unfold Gq
 generalize ("abcdefghijklmnopqrstuvwxyz":Str)=L at hL hL2
 have s2:AY 2 (gc (.str L)) [iv c,iv n,none,none,none,none,none,none,none,none,none]=.nx [iv c,iv n,vl (.str L),none,none,none,none,none,none,none,none]:=Bt Az rfl
 have s3:AY 3 (Af Cw (Af AS (Af AS (Af Cw (Ab 0) (Ab 0)) (Ab 0)) (gc (.int 1))) (gc (.int 982451653))) [iv c,iv n,vl (.str L),none,none,none,none,none,none,none,none]=.nx [iv c,iv n,vl (.str L),iv (Nm.M c),none,none,none,none,none,none,none]:=by
  unfold Nm.M
  exact Bt (Ap (Ap (Ap (Ap (Aa rfl) (Aa rfl) (T6 ⟨hb',hb'⟩)) (Aa rfl) Dx) Az Dx) Az (T5 ⟨by decide,by decide⟩)) rfl
 generalize hm:Nm.M c=m at s3
 have s4:AY 4 (Af AS (gc (.int 1)) (Af CB (Ab 3) (gc (.int 12)))) [iv c,iv n,vl (.str L),iv m,none,none,none,none,none,none,none]=.nx [iv c,iv n,vl (.str L),iv m,iv (Nm.W c),none,none,none,none,none,none]:=by
  unfold Nm.W
  rw [hm]
  exact Bt (Ap Az (Ap (Aa rfl) Az (C4 (by decide))) Dx) rfl
 generalize hw:Nm.W c=w at s4 w0 w1
 have s5:AY 5 (Af CB (Af ES (Ab 3) (gc (.int 12))) (Ab 4)) [iv c,iv n,vl (.str L),iv m,iv w,none,none,none,none,none,none]=.nx [iv c,iv n,vl (.str L),iv m,iv w,iv (Nm.At c),none,none,none,none,none]:=by
  unfold Nm.At
  rw [hm,hw]
  exact Bt (Ap (Ap (Aa rfl) Az (Hb ⟨by decide,by decide⟩)) (Aa rfl) (C4 (by omega))) rfl
 generalize ha:Nm.At c=a at s5
 have s6:=Bt (i:=6) (fs':=[iv c,iv n,vl (.str L),iv m,iv w,iv a,vl (.lst ((CU c w.toNat).map T.str)),none,none,none,none]) (Tp hL2 hL (c:=c) (w:=w) (by omega) w1 m a hm.symm (iv c) (iv n) none none none none none) rfl
 have s7:AY 7 (Af Bd (AD By (Ac (gc (.int 1)) (Ac (gc (.int 3)) (Ac (gc (.int 5)) (Ac (gc (.int 7)) (Ac (gc (.int 9)) (Ac (gc (.int 11)) Ak))))))) (Af CB (Af ES (Ab 3) (gc (.int 144))) (gc (.int 6)))) [iv c,iv n,vl (.str L),iv m,iv w,iv a,vl (.lst ((CU c w.toNat).map T.str)),none,none,none,none]=.nx [iv c,iv n,vl (.str L),iv m,iv w,iv a,vl (.lst ((CU c w.toNat).map T.str)),iv (Nm.step c),none,none,none]:=by
  have e:=Rr c
  rw [hm] at e
  exact Bt (Ap (Cs rfl rfl (by decide)) (Ap (Ap (Aa rfl) Az (Hb ⟨by decide,by decide⟩)) Az (C4 (by decide))) (Bv rfl e)) rfl
 generalize hst:Nm.step c=st at s7
 have s8:AY 8 (AD DH Ak) [iv c,iv n,vl (.str L),iv m,iv w,iv a,vl (.lst ((CU c w.toNat).map T.str)),iv st,none,none,none]=.nx [iv c,iv n,vl (.str L),iv m,iv w,iv a,vl (.lst ((CU c w.toNat).map T.str)),iv st,some (.own (.lst [])),none,none]:=rfl
 have hloop:=Dy (gt:=tgN 9) (body:=(AN (AY 10 (Af Bd (Ab 2) (Af CB (Af AS (Af ES (Ab 3) (gc (.int 864))) (Af Cw (Ab 9) (Ab 7))) (gc (.int 26)))))
  (ifS (asB (Af (gEq false) (Af CB (Af ES (Ab 3) (gc (.int 900))) (gc (.int 3))) (gc (.int 1)))) (Bb (AX Er (Ab 8) (Ac (Af Cw (Af Bd (Ab 6) (gc (.int 0))) (Af AS (Af CB (Af AS (Ab 9) (Af ES (Ab 3) (gc (.int 7)))) (gc (.int 12))) (gc (.int 1)))) Ak))) (Bb (AX Er (Ab 8) (Ac (Af AS (Af AS (fz (Fm FF (gc (.str ("":Str))) (Ac (slF (Ab 6) noP (D6 (Ab 5))) Ak))) (Ab 10)) (fz (Fm FF (gc (.str ("":Str))) (Ac (slF (Ab 6) (D6 (Af AS (Ab 5) (gc (.int 1)))) noP) Ak)))) Ak))))))
  (fun ts fs=>∃ (i:Nat) (x9 x10:Option Sl),fs=[iv c,iv n,vl (.str L),iv m,iv w,iv a,vl (.lst ((CU c w.toNat).map T.str)),iv st,some (.own (.lst ((nms c i).map T.str))),x9,x10]/\Fre x9/\Fre x10/\i<=n/\ts=(FL.upTo 0 n).drop i) (fun t' ts fs h=>?_) (FL.upTo 0 n) [iv c,iv n,vl (.str L),iv m,iv w,iv a,vl (.lst ((CU c w.toNat).map T.str)),iv st,some (.own (.lst [])),none,none]
  ⟨0,none,none,rfl,Ay,Ay,Nat.zero_le _,rfl⟩
 ·obtain ⟨fs',ef,i,x9,x10,rfl,_,_,hi,hd⟩:=hloop
  have hi2:i=n:=by
   have:=congrArg List.length hd
   simp [FL.upTo] at this
   omega
  subst hi2
  refine ⟨vl (.str L),iv m,iv w,iv a,vl (.lst ((CU c w.toNat).map T.str)),iv st,x9,x10,?_⟩
  rw [AO s2,AO s3,AO s4,AO s5,AO s6,AO s7,AO s8]
  rw [AO (Po (n:=i) (fa:=Ac (Ab 1) Ak) (Av (Aa rfl) rfl) (by omega) ef)]
  rfl
 ·obtain ⟨i,x9,x10,rfl,f9,f10,hi,hd⟩:=h
  have hlt:i < n:=by
   have:=congrArg List.length hd
   simp [FL.upTo] at this
   omega
  have hc:=List.drop_eq_getElem_cons (l:=FL.upTo 0 n) (i:=i) (by simp [FL.upTo];exact hlt)
  rw [hc] at hd
  obtain ⟨e1,e2⟩:=List.cons.inj hd
  have e3:t'=T.int (i:Int):=by
   rw [e1]
   simp [FL.upTo]
  subst e3
  obtain ⟨y10,fy,e⟩:=To hL2 hL (c:=c) (m:=m) (w:=w) (a:=a) (st:=st) (n:=n) (i:=i) hm.symm hw.symm ha.symm hst.symm (by omega) x10 f10
  exact ⟨_,_,(by unfold tgN;exact Bi rfl f9),e,i+1,_,_,rfl,AI,fy,hlt,e2⟩
theorem names {c:Int} {n:Nat} (hn:n<=12) (hb:Builtin.Int.intBits c<=2 ^ 20):Cd [iv c,iv n]=.ok (.nw (.lst ((nms c n).map T.str))) [iv c,iv n]:=by
 obtain ⟨x2,x3,x4,x5,x6,x7,x9,x10,e⟩:=Nf hn hb
 unfold Cd Dj
 show (match Gq [iv c,iv n,none,none,none,none,none,none,none,none,none] with | .nx τ=>_ | .ret (.t t) τ=>_ | .ret (.nw o) τ=>_ | .ret (.rf i) τ=>_ | .exc c τ=>_ | _=>_)=_
 rw [e]
 rfl
theorem LM (ns:List Int) (k:Nat):Be [vl (.scr (ns.map T.int)),iv k]=.ok (.t (.int (ns.getD k 0))) [vl (.scr (ns.map T.int)),iv k]:=by
 have hl:asB (Af gLt (Ab 1) (Am CO (Ac (Ab 0) Ak))) [vl (.scr (ns.map T.int)),iv k]=.ok (decide ((k:Int) < ((ns.map T.int).length:Int))) [vl (.scr (ns.map T.int)),iv k]:=rfl
 unfold Be Dj
 show (match Eh [vl (.scr (ns.map T.int)),iv k] with | .nx τ=>_ | .ret (.t t) τ=>_ | .ret (.nw o) τ=>_ | .ret (.rf i) τ=>_ | .exc c τ=>_ | _=>_)=_
 have e:Eh [vl (.scr (ns.map T.int)),iv k]=.ret (.t (.int (ns.getD k 0))) [vl (.scr (ns.map T.int)),iv k]:=by
  unfold Eh
  by_cases h:(k:Int) < ((ns.map T.int).length:Int)
  ·rw [decide_eq_true h] at hl
   have h':k < ns.length:=by rw [List.length_map] at h;omega
   have e2:retS (Af Bd (Ab 0) (fz (Ab 1))) [vl (.scr (ns.map T.int)),iv k]=.ret (.t (.int (ns.getD k 0))) [vl (.scr (ns.map T.int)),iv k]:=by
    have:=Ap (g:=Bd) (fa:=Ab 0) (fb:=fz (Ab 1)) (fs:=[vl (.scr (ns.map T.int)),iv k]) (Aa rfl) (AF (Aa rfl)) (R7 (ns:=ns) (i:=(k:Int)) (.inl rfl) (by omega) (by omega))
    unfold retS
    rw [this,Int.toNat_natCast]
    rfl
   unfold AN
   rw [EB hl e2]
  ·rw [decide_eq_false h] at hl
   have h':ns.length<=k:=by rw [List.length_map] at h;omega
   rw [AO (Bx (h:=nxS) (fs:=[vl (.scr (ns.map T.int)),iv k]) (r:=.nx [vl (.scr (ns.map T.int)),iv k]) hl rfl)]
   have:ns.getD k 0=0:=by simp [List.getD,h']
   rw [this]
   rfl
 rw [e]
 rfl
theorem EZ {g:Rv->Rv->FS->Out Rv} {fa fb:FS->Out Rv} {fs fs1 fs2:FS} {x y:T} {r:Out Rv} (h1:fa fs=.ok (.t x) fs1) (h2:fb fs1=.ok (.t y) fs2) (h3:g (.t x) (.t y) fs2=r):Af g fa fb fs=r:=by
 unfold Af
 rw [h1]
 show (fb fs1).bnd _=r
 rw [h2]
 exact h3
theorem DM {i:Nat} {f:FS->Out Rv} {fs fs1 fs':FS} {t:T} (h:f fs=.ok (.t t) fs1) (hs:JY i (.t t) fs1=some fs'):AY i f fs=.nx fs':=by
 unfold AY
 rw [h]
 show (match JY i (.t t) fs1 with | some fs=>SO.nx fs | none=>.bad)=_
 rw [hs]
theorem Bw {f:FS->Out Rv} {g:FS->Out (List Rv)} {fs fs1 fs2:FS} {t:T} {rs:List Rv} (h1:f fs=.ok (.t t) fs1) (h2:g fs1=.ok rs fs2):Ac f g fs=.ok (.t t :: rs) fs2:=by
 unfold Ac
 rw [h1]
 show (g fs1).bind _=_
 rw [h2]
 rfl
theorem CG {g:List T->FS->Out Rv} {fa:FS->Out (List Rv)} {fs fs1:FS} {rs:List Rv} {ts:List T} {r:Out Rv} (h:fa fs=.ok rs fs1) (h2:ND rs=some ts) (h3:ts.length<=big) (e:g ts fs1=r):AD g fa fs=r:=by
 unfold AD
 rw [h]
 show (match ND rs with | some ts=>_ | none=>_)=_
 rw [h2]
 exact (if_pos h3).trans e
theorem CP {f:FS->Out Rv} {fs fs1:FS} {t:T} (h:f fs=.ok (.t t) fs1):fz f fs=.ok (.t t) fs1:=by
 unfold fz
 rw [h]
 rfl
theorem Jn {i:Nat} {fs fs':FS} {t:T} {ts:List T} (h0:fs[i]?=some (some (.bor (.lst (ts++[t]))))) (e:fs.set i (some (.bor (.lst ts)))=fs'):fz (AX Ha (Ab i) Ak) fs=.ok (.t t) fs':=by
 have h1:Ab i fs=.ok (.rf i) fs:=by unfold Ab;rw [h0]
 have h2:FL.A1 fs i=some (.lst (ts++[t])):=by unfold FL.A1;rw [h0]
 have h3:DN fs (.rf i)=some (ts++[t]):=by simp only [DN,h2]
 have h5:Ha (.rf i) [] fs=.ok (.t t) fs':=by
  have:FL.putAt fs i (.lst ts)=fs':=by
   unfold FL.putAt
   rw [h0]
   exact e
  simp only [Ha,h2,List.getLast?_concat,List.dropLast_concat,this,okT]
 refine CP ?_
 unfold AX
 rw [h1]
 show (if (DN fs (.rf i)).isSome=true then _ else _)=_
 rw [h3,if_pos (show (some (ts++[t])).isSome=true from rfl)]
 exact h5
theorem Bl {f:FS->Out Rv} {fs fs1:FS} {r:Rv} (h:f fs=.ok r fs1):retS f fs=.ret r fs1:=by
 unfold retS
 rw [h]
 rfl
theorem Ej {g h:FS->SO} {fs fs':FS} {r:Rv} (e:g fs=.ret r fs'):AN g h fs=.ret r fs':=by unfold AN;rw [e]
theorem Sk {names:List Str} {O:Nat} (hO:0 < O) (hl:O<=names.length) (z:Int):names.getD (z % (O:Int)).toNat ⟨#[]⟩∈names.take O/\atI (names.map T.str) (z % (O:Int))=some (T.str (names.getD (z % (O:Int)).toNat ⟨#[]⟩)):=by
 have h0:0<=z % (O:Int):=Int.emod_nonneg _ (by omega)
 have h1:z % (O:Int) < O:=Int.emod_lt_of_pos _ (by omega)
 have hi:(z % (O:Int)).toNat < O:=by omega
 have hi2:(z % (O:Int)).toNat < names.length:=by omega
 have e:names.getD (z % (O:Int)).toNat ⟨#[]⟩=names[(z % (O:Int)).toNat]:=by simp [List.getD,hi2]
 refine ⟨?_,?_⟩
 ·rw [e]
  exact List.mem_take_iff_getElem.mpr ⟨(z % (O:Int)).toNat,by omega,rfl⟩
 ·have e2:(names.map T.str)[(z % (O:Int)).toNat]?=some (T.str (names.getD (z % (O:Int)).toNat ⟨#[]⟩)):=by
   rw [e,List.getElem?_map,List.getElem?_eq_getElem hi2]
   rfl
  have:=AW e2
  rwa [Int.toNat_of_nonneg h0] at this
def pick (z2 z3:Int) (i:Int):Int:=if i=0 then z2 else z3
theorem M5 {names:List Str} {at':Int} {fi:T} {pu:List T} {q O:Nat} {z2 z3:Int} (hO:0 < O) (hl:O<=names.length) (hq:q<=2) :
  retS (Am CN (Ac (BN false [none,some 0,some 6,some 5] (Iu (Ac (Ab 4) Ak)) (tgN 0) EF (Af Bd (Ab 1) (Af CB (Af Bd (Ab 3) (fz (Ab 0))) (Ab 2)))) Ak)) [vl (.lst (names.map T.str)),iv at',vl fi,some (.bor (.lst pu)),iv (q:Int),vl (.lst [.int z2,.int z3]),iv (O:Int)] =
   .ret (.t (.tup (((List.range q).map fun (k:Nat)=>names.getD (pick z2 z3 (k:Int) % (O:Int)).toNat ⟨#[]⟩).map T.str))) [vl (.lst (names.map T.str)),iv at',vl fi,some (.bor (.lst pu)),iv (q:Int),vl (.lst [.int z2,.int z3]),iv (O:Int)]:=by
 have e1:=Ga (fa:=Ac (Ab 4) Ak) (fs:=[vl (.lst (names.map T.str)),iv at',vl fi,some (.bor (.lst pu)),iv (q:Int),vl (.lst [.int z2,.int z3]),iv (O:Int)]) (j:=(q:Int)) (Av (Aa rfl) rfl) ⟨by omega,by omega⟩
 rw [Int.toNat_natCast] at e1
 obtain ⟨y,hy,e2⟩:=EW (fe:=Af Bd (Ab 1) (Af CB (Af Bd (Ab 3) (fz (Ab 0))) (Ab 2))) (f:=fun t'=>match t' with | .int i=>.str (names.getD (pick z2 z3 i % (O:Int)).toNat ⟨#[]⟩) | _=>.non) (rest:=[vl (.lst (names.map T.str)),iv (O:Int),vl (.lst [.int z2,.int z3])]) (FL.upTo 0 q) none [] Ay (fun t' mt=>by
   unfold FL.upTo at mt
   rw [List.mem_map] at mt
   obtain ⟨k,mk,rfl⟩:=mt
   have hk:=List.mem_range.mp mk
   rw [Int.zero_add]
   have ep:atI [T.int z2,T.int z3] (k:Int)=some (T.int (pick z2 z3 (k:Int))):=by
    have:k=0∨k=1:=by omega
    rcases this with rfl | rfl
    ·exact AW rfl
    ·exact AW rfl
   exact Ap (Aa rfl) (Ap (Ap (Aa rfl) (AF (Aa rfl)) (Bv rfl ep)) (Aa rfl) (C4 (by omega))) (Bv rfl (Sk hO hl _).2)) (by
   unfold FL.upTo
   rw [List.length_map,List.length_range]
   show 0+_<=1000000
   omega)
 have e3:=CT (src:=[none,some 0,some 6,some 5]) e1 ⟨by rw [show Dm [vl (.lst (names.map T.str)),iv at',vl fi,some (.bor (.lst pu)),iv (q:Int),vl (.lst [.int z2,.int z3]),iv (O:Int)] _=[] from rfl];exact List.nodup_nil,by rfl⟩ e2 (A4 rfl)
 have e4:(FL.upTo 0 q).map (fun t'=>match t' with | .int i=>T.str (names.getD (pick z2 z3 i % (O:Int)).toNat ⟨#[]⟩) | _=>.non)=((List.range q).map fun (k:Nat)=>names.getD (pick z2 z3 (k:Int) % (O:Int)).toNat ⟨#[]⟩).map T.str:=by
  unfold FL.upTo
  rw [List.map_map,List.map_map]
  refine List.map_congr_left fun k _=>?_
  simp only [Function.comp_apply,Int.zero_add]
 rw [List.nil_append,e4] at e3
 exact Bl (Di (Av e3 rfl) rfl)
theorem parts {names:List Str} {at':Nat} {first:Bool} {pu:List T} {z1 z2 z3:Int} (hn:0 < names.length) (ha:at'<=names.length) :
  ∃ ps:List Str,ps.length<=2/\(∀ x∈ps,x∈names.take (if first=true then at' else names.length))/\Cc [vl (.lst (names.map T.str)),iv (at':Int),vl (.bl first),some (.bor (.lst (pu++[.int z3]++[.int z2]++[.int z1])))] =
   .ok (.t (.tup (ps.map T.str))) [vl (.lst (names.map T.str)),iv (at':Int),vl (.bl first),some (.bor (.lst pu))]:=by
 have hq:∃ q:Nat,q<=2/\atI [T.int 0,T.int 1,T.int 1,T.int 2] (z1 % 4)=some (T.int (q:Int)):=by
  have h:z1 % 4=((0:Nat):Int)∨z1 % 4=((1:Nat):Int)∨z1 % 4=((2:Nat):Int)∨z1 % 4=((3:Nat):Int):=by omega
  rcases h with h | h | h | h <;> rw [h]
  ·exact ⟨0,by omega,AW rfl⟩
  ·exact ⟨1,by omega,AW rfl⟩
  ·exact ⟨1,by omega,AW rfl⟩
  ·exact ⟨2,by omega,AW rfl⟩
 obtain ⟨q,hq,eq⟩:=hq
 have s4:AY 4 (Af Bd (AD By (Ac (gc (.int 0)) (Ac (gc (.int 1)) (Ac (gc (.int 1)) (Ac (gc (.int 2)) Ak))))) (Af CB (fz (AX Ha (Ab 3) Ak)) (gc (.int 4)))) [vl (.lst (names.map T.str)),iv (at':Int),vl (.bl first),some (.bor (.lst (pu++[.int z3]++[.int z2]++[.int z1]))),none,none,none] =
   .nx [vl (.lst (names.map T.str)),iv (at':Int),vl (.bl first),some (.bor (.lst (pu++[.int z3]++[.int z2]))),iv (q:Int),none,none] :=
  DM (EZ (Cs rfl rfl (by decide)) (EZ (Jn (ts:=pu++[.int z3]++[.int z2]) rfl rfl) Az (C4 (by decide))) (Bv rfl eq)) rfl
 have s5:AY 5 (AD By (Ac (fz (AX Ha (Ab 3) Ak)) (Ac (fz (AX Ha (Ab 3) Ak)) Ak))) [vl (.lst (names.map T.str)),iv (at':Int),vl (.bl first),some (.bor (.lst (pu++[.int z3]++[.int z2]))),iv (q:Int),none,none] =
   .nx [vl (.lst (names.map T.str)),iv (at':Int),vl (.bl first),some (.bor (.lst pu)),iv (q:Int),vl (.lst [.int z2,.int z3]),none] :=
  DM (CG (g:=By) (Bw (Jn (ts:=pu++[.int z3]) rfl rfl) (Bw (Jn (ts:=pu) rfl rfl) rfl)) rfl (show 2<=big by decide) rfl) rfl
 have s6:AY 6 (Am CO (Ac (Ab 0) Ak)) [vl (.lst (names.map T.str)),iv (at':Int),vl (.bl first),some (.bor (.lst pu)),iv (q:Int),vl (.lst [.int z2,.int z3]),none] =
   .nx [vl (.lst (names.map T.str)),iv (at':Int),vl (.bl first),some (.bor (.lst pu)),iv (q:Int),vl (.lst [.int z2,.int z3]),iv (names.length:Int)]:=by
  have:((names.map T.str).length:Int)=(names.length:Int):=by rw [List.length_map]
  rw [<- this]
  rfl
 have s7:ifS (FQ (Ab 2)) (AY 6 (fz (Ab 1))) nxS [vl (.lst (names.map T.str)),iv (at':Int),vl (.bl first),some (.bor (.lst pu)),iv (q:Int),vl (.lst [.int z2,.int z3]),iv (names.length:Int)] =
   .nx [vl (.lst (names.map T.str)),iv (at':Int),vl (.bl first),some (.bor (.lst pu)),iv (q:Int),vl (.lst [.int z2,.int z3]),iv ((if first=true then at' else names.length:Nat):Int)]:=by
  cases first <;> rfl
 have hOl:(if first=true then at' else names.length)<=names.length:=by split <;> omega
 generalize (if first=true then at' else names.length)=O at s7 hOl ⊢
 have hc:=KI (fa:=Ab 6) (fb:=gc (.int 0)) (fs:=[vl (.lst (names.map T.str)),iv (at':Int),vl (.bl first),some (.bor (.lst pu)),iv (q:Int),vl (.lst [.int z2,.int z3]),iv (O:Int)]) (i:=(O:Int)) (Aa rfl) Az
 by_cases h0:(O:Int)=0
 ·rw [decide_eq_true h0] at hc
  refine ⟨[],by simp,by simp,?_⟩
  have all:D1 [vl (.lst (names.map T.str)),iv (at':Int),vl (.bl first),some (.bor (.lst (pu++[.int z3]++[.int z2]++[.int z1]))),none,none,none]=.ret (.t (.tup [])) [vl (.lst (names.map T.str)),iv (at':Int),vl (.bl first),some (.bor (.lst pu)),iv (q:Int),vl (.lst [.int z2,.int z3]),iv (O:Int)]:=by
   unfold D1
   rw [AO s4,AO s5,AO s6,AO s7]
   exact Ej (EB hc rfl)
  unfold Cc Dj
  show (match D1 [vl (.lst (names.map T.str)),iv (at':Int),vl (.bl first),some (.bor (.lst (pu++[.int z3]++[.int z2]++[.int z1]))),none,none,none] with | .nx τ=>_ | .ret (.t t) τ=>_ | .ret (.nw o) τ=>_ | .ret (.rf i) τ=>_ | .exc c τ=>_ | _=>_)=_
  rw [all]
  rfl
 ·rw [decide_eq_false h0] at hc
  have hO:0 < O:=by omega
  refine ⟨(List.range q).map fun (k:Nat)=>names.getD (pick z2 z3 (k:Int) % (O:Int)).toNat ⟨#[]⟩,by simpa using hq,fun x m=>?_,?_⟩
  ·rw [List.mem_map] at m
   obtain ⟨k,_,rfl⟩:=m
   exact (Sk hO hOl _).1
  ·have all:D1 [vl (.lst (names.map T.str)),iv (at':Int),vl (.bl first),some (.bor (.lst (pu++[.int z3]++[.int z2]++[.int z1]))),none,none,none]=.ret (.t (.tup (((List.range q).map fun (k:Nat)=>names.getD (pick z2 z3 (k:Int) % (O:Int)).toNat ⟨#[]⟩).map T.str))) [vl (.lst (names.map T.str)),iv (at':Int),vl (.bl first),some (.bor (.lst pu)),iv (q:Int),vl (.lst [.int z2,.int z3]),iv (O:Int)]:=by
    unfold D1
    rw [AO s4,AO s5,AO s6,AO s7,AO (Bx (h:=nxS) hc rfl)]
    exact M5 hO hOl hq
   unfold Cc Dj
   show (match D1 [vl (.lst (names.map T.str)),iv (at':Int),vl (.bl first),some (.bor (.lst (pu++[.int z3]++[.int z2]++[.int z1]))),none,none,none] with | .nx τ=>_ | .ret (.t t) τ=>_ | .ret (.nw o) τ=>_ | .ret (.rf i) τ=>_ | .exc c τ=>_ | _=>_)=_
   rw [all]
   rfl
theorem WT:∀ j,j < 26->(!(Builtin.Str.occurrences ABC ⟨#[97+j]⟩ 0 ABC.length 1).isEmpty)=true:=by decide +kernel
theorem Ii:∀ bs:List Bool,EC (bs.map T.bl)=some bs
 | []=>rfl
 | b :: bs=>by simp [EC,Ii bs]
theorem Wh {x y:Str} {fs:FS}:FR false (.t (.str x)) (.t (.str y)) fs=.ok (.t (.bl (!(Builtin.Str.occurrences y x 0 y.length 1).isEmpty))) fs:=rfl
theorem IJ {z:Str} (h0:1<=z.length) (h1:z.length<=12) (hl:∀ x∈z.cps.toList,97<=x/\x<=122):A8 [vl (.str z)]=.ok (.t (.bl true)) [vl (.str z)]:=by
 have hin:∀ x,97<=x/\x<=122->(!(Builtin.Str.occurrences ("abcdefghijklmnopqrstuvwxyz":Str) ⟨#[x]⟩ 0 ("abcdefghijklmnopqrstuvwxyz":Str).length 1).isEmpty)=true:=fun x hx=>by
  have:=WT (x - 97) (by omega)
  rwa [show 97+(x - 97)=x by omega] at this
 have hlen:Am CO (Ac (Ab 0) Ak) [vl (.str z)]=.ok (.t (.int z.length)) [vl (.str z)]:=by
  have e:Pj [.t (.str z)] [vl (.str z)]=.ok (.t (.int z.length)) [vl (.str z)]:=if_pos (show z.length<=1000000 by omega)
  refine Di (Av (Aa rfl) rfl) ?_
  unfold CO orC
  show (match orC Pj Q8 [.t (.str z)] [vl (.str z)] with | o=>o)=_
  unfold orC
  rw [e]
 have hc:Fl (asB (chain gLe gLe (gc (.int 1)) (Am CO (Ac (Ab 0) Ak)) (gc (.int 12)))) [vl (.str z)]=.ok false [vl (.str z)]:=by
  have e1:gLe (.t (.int 1)) (.t (.int z.length)) [vl (.str z)]=.ok (.t (.bl true)) [vl (.str z)]:=by
   show okT (.bl (decide ((1:Int)<=z.length))) _=_
   rw [decide_eq_true (by omega)]
   rfl
  have e2:gLe (.t (.int z.length)) (.t (.int 12)) [vl (.str z)]=.ok (.t (.bl true)) [vl (.str z)]:=by
   show okT (.bl (decide ((z.length:Int)<=12))) _=_
   rw [decide_eq_true (by omega)]
   rfl
  simp only [Fl,asB,chain,gc,Out.bnd,Out.bind,hlen,e1,e2,Bool.not_true]
 unfold A8 Dj
 show (match E2 [vl (.str z)] with | .nx τ=>_ | .ret (.t t) τ=>_ | .ret (.nw o) τ=>_ | .ret (.rf i) τ=>_ | .exc c τ=>_ | _=>_)=_
 have all:E2 [vl (.str z)]=.ret (.t (.bl true)) [vl (.str z)]:=by
  unfold E2
  generalize ("abcdefghijklmnopqrstuvwxyz":Str)=L at hin
  rw [AO (Bx (h:=nxS) hc rfl)]
  have e1:itU (fz (Ab 0)) [vl (.str z)]=.ok (signs z) [vl (.str z)]:=rfl
  obtain ⟨y,hy,e2⟩:=EW (fe:=Af (FR false) (fz (Ab 0)) (gc (.str L))) (f:=fun _=>.bl true) (rest:=[]) (signs z) none [] Ay (fun t' mt=>by
    unfold signs at mt
    rw [List.mem_map] at mt
    obtain ⟨x,mx,rfl⟩:=mt
    refine Ap (AF (Aa rfl)) Az ?_
    rw [Wh,hin x (hl x mx)]) (by
    unfold signs
    rw [List.length_map,Array.length_toList]
    show 0+z.length<=1000000
    omega)
  have e3:=CT (src:=[none]) e1 ⟨by rw [show Dm [vl (.str z)] _=[] from rfl];exact List.nodup_nil,by rfl⟩ e2 (A4 rfl)
  have e4:(signs z).map (fun _=>T.bl true)=((signs z).map fun _=>true).map T.bl:=by rw [List.map_map];rfl
  rw [List.nil_append,e4] at e3
  refine Bl (Di (Av e3 rfl) ?_)
  simp only [Wm,DN,Option.bind_some,Ii,okT]
  congr 3
  simp
 rw [all]
 rfl
theorem IK (c:Int) (k:Nat):A8 [vl (.str (nmS c k))]=.ok (.t (.bl true)) [vl (.str (nmS c k))]:=by
 refine IJ ?_ ?_ ?_
 ·show 1<=(Nm.codes c k).toArray.size
  rw [List.size_toArray]
  exact Nm.MD c k
 ·show (Nm.codes c k).toArray.size<=12
  rw [List.size_toArray]
  exact Nm.JP c k
 ·intro x hx
  exact Nm.Gk c k x (by simpa [nmS] using hx)
theorem Tr {c:Int} {k k':Nat} (hk:k < 12) (hk':k' < 12) (h:nmS c k=nmS c k'):k=k':=by
 refine Nm.PX (c:=c) hk hk' ?_
 have:=congrArg (fun s:Str=>s.cps.toList) h
 simpa [nmS] using this
theorem Aj {f:FS->Out Rv} {g:FS->Out (List Rv)} {fs fs1 fs2:FS} {r:Rv} {rs:List Rv} (h1:f fs=.ok r fs1) (h2:g fs1=.ok rs fs2):Ah f g fs=.ok (r :: rs) fs2:=by
 unfold Ah
 rw [h1]
 show (g fs1).bind _=_
 rw [h2]
 rfl
theorem DZ {p:Nat} {Fn:FS->Out Rv} {fa:FS->Out (List Rv)} {fs fs1 fs' τ:FS} {rs:List Rv} {t:T} (ha:fa fs=.ok rs fs1) (hp:rs.length=p) (hn:(Dm fs1 (rs.map DP)).Nodup) (hf:Fn (Fp fs1 (rs.map DP))=.ok (.t t) τ) (hb:JT (rs.map DP) τ fs1=some fs') :
  Am (AA p Fn) fa fs=.ok (.t t) fs':=by
 unfold Am
 rw [ha]
 show AA p Fn rs fs1=_
 unfold AA
 rw [if_pos hp]
 unfold NA
 rw [if_pos hn,hf]
 dsimp only
 rw [hb]
theorem Fi {p:Nat} {Fn:FS->Out Rv} {fa:FS->Out (List Rv)} {fs fs1 fs' τ:FS} {rs:List Rv} {o:FO} (ha:fa fs=.ok rs fs1) (hp:rs.length=p) (hn:(Dm fs1 (rs.map DP)).Nodup) (hf:Fn (Fp fs1 (rs.map DP))=.ok (.nw o) τ) (hb:JT (rs.map DP) τ fs1=some fs') :
  Am (AA p Fn) fa fs=.ok (.nw o) fs':=by
 unfold Am
 rw [ha]
 show AA p Fn rs fs1=_
 unfold AA
 rw [if_pos hp]
 unfold NA
 rw [if_pos hn,hf]
 dsimp only
 rw [hb]
theorem Qa {i:Nat} {f:FS->Out Rv} {fs fs1 fs':FS} {t:T} {us ts:List T} (h0:fs[i]?=some (some (.own (.lst us)))) (h:f fs=.ok (.t t) fs1) (h0':fs1[i]?=some (some (.own (.lst ts)))) (hl:ts.length < big) (e:fs1.set i (some (.own (.lst (ts++[t]))))=fs'):Bb (AX Er (Ab i) (Ac f Ak)) fs=.nx fs':=by
 have h1:Ab i fs=.ok (.rf i) fs:=by unfold Ab;rw [h0]
 have h2:FL.A1 fs i=some (.lst us):=by unfold FL.A1;rw [h0]
 have h2':FL.A1 fs1 i=some (.lst ts):=by unfold FL.A1;rw [h0']
 have h3:DN fs (.rf i)=some us:=by simp only [DN,h2]
 have h4:Ac f Ak fs=.ok [.t t] fs1:=Bw h rfl
 have h5:Er (.rf i) [.t t] fs1=.ok (.t .non) fs':=by
  simp only [Er,h2']
  rw [if_pos hl]
  have:FL.putAt fs1 i (.lst (ts++[t]))=fs':=by
   unfold FL.putAt
   rw [h0']
   exact e
  rw [this]
 have h6:AX Er (Ab i) (Ac f Ak) fs=.ok (.t .non) fs':=by
  unfold AX
  rw [h1]
  show (if (DN fs (.rf i)).isSome=true then _ else _)=_
  rw [h3,if_pos (show (some us).isSome=true from rfl),h4]
  exact h5
 unfold Bb
 rw [h6]
 rfl
def Dk:Str×List Str->T:=fun r=>.tup [.str r.1,.tup (r.2.map T.str)]
def AB:Str×List (Str×List Str)->T:=fun k=>.tup [.str k.1,.lst (k.2.map Dk)]
theorem Qu {sc:T} {many:Int} {names makers:List Str} {got:List T} {u a k:Nat} {rows:List (Str×List Str)} {pu:List T} {z1 z2 z3:Int} (hn:0 < names.length) (ha:a<=names.length) (hu:u < makers.length) (hr:rows.length < 1000) :
  ∃ ps:List Str,ps.length<=2/\(∀ x∈ps,x∈names.take (if k=0 then a else names.length)) /\
   (AN (Bb (AX Er (Ab 8) (Ac (AD Bp (Ac (Af Bd (Ab 4) (fz (Ab 6))) (Ac (fz (Am (AA 4 Cc) (Ah (fz (Ab 3)) (Ah (fz (Ab 7)) (Ah (Af (gEq false) (Ab 9) (gc (.int 0))) (Ah (Ab 1) Ak)))))) Ak))) Ak)))
  (AY 6 (Af AS (Ab 6) (gc (.int 1))))) [vl sc,some (.own (.lst (pu++[.int z3]++[.int z2]++[.int z1]))),iv many,vl (.lst (names.map T.str)),vl (.lst (makers.map T.str)),some (.own (.lst got)),iv (u:Int),iv (a:Int),some (.own (.lst (rows.map Dk))),iv (k:Int)] =
   .nx [vl sc,some (.own (.lst pu)),iv many,vl (.lst (names.map T.str)),vl (.lst (makers.map T.str)),some (.own (.lst got)),iv ((u+1:Nat):Int),iv (a:Int),some (.own (.lst ((rows++[(makers.getD u ⟨#[]⟩,ps)]).map Dk))),iv (k:Int)]:=by
 obtain ⟨ps,h1,h2,h3⟩:=parts (names:=names) (at':=a) (first:=decide ((k:Int)=0)) (pu:=pu) (z1:=z1) (z2:=z2) (z3:=z3) hn ha
 refine ⟨ps,h1,?_,?_⟩
 ·by_cases hk:k=0
  ·subst hk
   simpa using h2
  ·have:¬ ((k:Int)=0):=by omega
   rw [decide_eq_false this] at h2
   rw [if_neg hk]
   simpa using h2
 ·have em:atI (makers.map T.str) (u:Int)=some (T.str (makers.getD u ⟨#[]⟩)):=AW (by
   rw [List.getElem?_map,List.getElem?_eq_getElem hu]
   simp [List.getD,hu])
  have ek:Af (gEq false) (Ab 9) (gc (.int 0)) [vl sc,some (.own (.lst (pu++[.int z3]++[.int z2]++[.int z1]))),iv many,vl (.lst (names.map T.str)),vl (.lst (makers.map T.str)),some (.own (.lst got)),iv (u:Int),iv (a:Int),some (.own (.lst (rows.map Dk))),iv (k:Int)]=.ok (.t (.bl (decide ((k:Int)=0)))) [vl sc,some (.own (.lst (pu++[.int z3]++[.int z2]++[.int z1]))),iv many,vl (.lst (names.map T.str)),vl (.lst (makers.map T.str)),some (.own (.lst got)),iv (u:Int),iv (a:Int),some (.own (.lst (rows.map Dk))),iv (k:Int)]:=by
   refine Ap (Aa rfl) Az ?_
   have q:decide (V.int (k:Int)=V.int 0)=decide ((k:Int)=0):=by
    by_cases h:(k:Int)=0
    ·rw [h];simp
    ·rw [decide_eq_false h,decide_eq_false (by intro z;cases z;exact h rfl)]
   show (if Lj (V.int (k:Int)) (V.int 0)=true then okT (.bl (if false=true then _ else decide (V.int (k:Int)=V.int 0))) _ else .bad)=_
   rw [if_pos (show Lj (V.int (k:Int)) (V.int 0)=true from rfl),q]
   rfl
  have ec:=DZ (p:=4) (Fn:=Cc) (Aj (AF (Aa (i:=3) rfl)) (Aj (AF (Aa (i:=7) rfl)) (Aj ek (Aj (show Ab 1 _=.ok (.rf 1) _ from rfl) (show Ak _=.ok [] _ from rfl))))) rfl (by
   rw [show Dm _ _=[1] from rfl]
   simp) h3 rfl
  rw [AO (Qa (i:=8) rfl (CG (g:=Bp) (ts:=[T.str (makers.getD u ⟨#[]⟩),T.tup (ps.map T.str)]) (Bw (Ap (Aa rfl) (AF (Aa rfl)) (Bv rfl em)) (Bw (CP ec) (show Ak _=.ok [] _ from rfl))) rfl (show 2<=big by decide) rfl) rfl (by rw [List.length_map];show _ < 1000000;omega) rfl)]
  have e1:rows.map Dk++[T.tup [T.str (makers.getD u ⟨#[]⟩),T.tup (ps.map T.str)]]=(rows++[(makers.getD u ⟨#[]⟩,ps)]).map Dk:=by rw [List.map_append];rfl
  rw [<- e1]
  exact Bt (Ap (Aa rfl) Az Dx) rfl
theorem Nj {α:Type} {xs:List α} (h:1<=xs.length):∃ e z,xs=e++[z]/\e.length+1=xs.length:=by
 have hne:xs≠[]:=by intro q;rw [q] at h;simp at h
 exact ⟨xs.dropLast,xs.getLast hne,(List.dropLast_concat_getLast hne).symm,by rw [List.length_dropLast];omega⟩
theorem X5 {ds:List Int} (h:3<=ds.length):∃ (e:List Int) (z1 z2 z3:Int),ds.map T.int=e.map T.int++[.int z3]++[.int z2]++[.int z1]/\e.length+3=ds.length:=by
 obtain ⟨d1,z1,rfl,h1⟩:=Nj (xs:=ds) (by omega)
 obtain ⟨d2,z2,rfl,h2⟩:=Nj (xs:=d1) (by omega)
 obtain ⟨d3,z3,rfl,h3⟩:=Nj (xs:=d2) (by omega)
 exact ⟨d3,z1,z2,z3,by simp,by simp at h ⊢⟩
structure Rows (names makers:List Str) (a u:Nat) (rows:List (Str×List Str)):Prop where
 mks:rows.map (·.1)=(List.range rows.length).map fun j=>makers.getD (u+j) ⟨#[]⟩
 two:∀ r∈rows,r.2.length<=2
 prt:∀ r∈rows,∀ x∈r.2,x∈names
 fst:∀ r,rows[0]?=some r->∀ x∈r.2,x∈names.take a
theorem Rows.nil {names makers:List Str} {a u:Nat}:Rows names makers a u []:=⟨rfl,(fun _ m=>nomatch m),(fun _ m=>nomatch m),(fun _ e=>nomatch e)⟩
theorem Rows.snoc {names makers:List Str} {a u:Nat} {rows:List (Str×List Str)} (R:Rows names makers a u rows) {ps:List Str} (h1:ps.length<=2) (h2:∀ x∈ps,x∈names.take (if rows.length=0 then a else names.length)):Rows names makers a u (rows++[(makers.getD (u+rows.length) ⟨#[]⟩,ps)]):=by
 refine ⟨?_,fun r m=>?_,fun r m x hx=>?_,fun r e x hx=>?_⟩
 ·rw [List.map_append,R.mks,List.length_append,List.length_singleton,List.range_succ,List.map_append]
  rfl
 ·rcases List.mem_append.mp m with m | m
  ·exact R.two r m
  ·rw [List.mem_singleton.mp m];exact h1
 ·rcases List.mem_append.mp m with m | m
  ·exact R.prt r m x hx
  ·rw [List.mem_singleton.mp m] at hx
   exact List.mem_of_mem_take (h2 x hx)
 ·cases rows with
  | nil =>
   have:r=(makers.getD (u+0) ⟨#[]⟩,ps):=by simpa using e.symm
   rw [this] at hx
   simpa using h2 x hx
  | cons r0 rs =>
   exact R.fst r (by simpa using e) x hx
theorem N8 {sc:T} {many:Int} {names makers:List Str} {got:List T} {u a n:Nat} {ds:List Int} {x9:Option Sl} (hn:0 < names.length) (ha:a<=names.length) (hu:u+n<=makers.length) (hd:3 * n<=ds.length) (hn2:n<=100) (h9:Fre x9) :
  ∃ (rows:List (Str×List Str)) (es:List Int) (y9:Option Sl),rows.length=n/\Rows names makers a u rows/\es.length+3 * n=ds.length/\Fre y9/\CQ (tgN 9) (AN (Bb (AX Er (Ab 8) (Ac (AD Bp (Ac (Af Bd (Ab 4) (fz (Ab 6))) (Ac (fz (Am (AA 4 Cc) (Ah (fz (Ab 3)) (Ah (fz (Ab 7)) (Ah (Af (gEq false) (Ab 9) (gc (.int 0))) (Ah (Ab 1) Ak)))))) Ak))) Ak)))
  (AY 6 (Af AS (Ab 6) (gc (.int 1))))) (FL.upTo 0 n) [vl sc,some (.own (.lst (ds.map T.int))),iv many,vl (.lst (names.map T.str)),vl (.lst (makers.map T.str)),some (.own (.lst got)),iv (u:Int),iv (a:Int),some (.own (.lst [])),x9] =
   .nx [vl sc,some (.own (.lst (es.map T.int))),iv many,vl (.lst (names.map T.str)),vl (.lst (makers.map T.str)),some (.own (.lst got)),iv ((u+n:Nat):Int),iv (a:Int),some (.own (.lst (rows.map Dk))),y9]:=by
 obtain ⟨fs',ef,rows,es,y9,rfl,hle,R,he,f9,hts⟩:=Dy (gt:=tgN 9) (body:=(AN (Bb (AX Er (Ab 8) (Ac (AD Bp (Ac (Af Bd (Ab 4) (fz (Ab 6))) (Ac (fz (Am (AA 4 Cc) (Ah (fz (Ab 3)) (Ah (fz (Ab 7)) (Ah (Af (gEq false) (Ab 9) (gc (.int 0))) (Ah (Ab 1) Ak)))))) Ak))) Ak)))
  (AY 6 (Af AS (Ab 6) (gc (.int 1))))))
  (fun ts fs=>∃ (rows:List (Str×List Str)) (es:List Int) (y9:Option Sl),fs=[vl sc,some (.own (.lst (es.map T.int))),iv many,vl (.lst (names.map T.str)),vl (.lst (makers.map T.str)),some (.own (.lst got)),iv ((u+rows.length:Nat):Int),iv (a:Int),some (.own (.lst (rows.map Dk))),y9]/\rows.length<=n/\Rows names makers a u rows/\es.length+3 * rows.length=ds.length/\Fre y9/\ts=(FL.upTo 0 n).drop rows.length)
  (fun t' ts fs h=>by
   obtain ⟨rows,es,y9,rfl,hle,R,he,f9,hts⟩:=h
   have hlt:rows.length < n:=by
    have:=congrArg List.length hts
    simp [FL.upTo] at this
    omega
   have hc:=List.drop_eq_getElem_cons (l:=FL.upTo 0 n) (i:=rows.length) (by simp [FL.upTo];exact hlt)
   rw [hc] at hts
   obtain ⟨e1,e2⟩:=List.cons.inj hts
   have e3:t'=T.int (rows.length:Int):=by
    rw [e1]
    simp [FL.upTo]
   subst e3
   obtain ⟨e,z1,z2,z3,eds,el⟩:=X5 (ds:=es) (by omega)
   obtain ⟨ps,p1,p2,p3⟩:=Qu (sc:=sc) (many:=many) (names:=names) (makers:=makers) (got:=got) (u:=u+rows.length) (a:=a) (k:=rows.length) (rows:=rows) (pu:=e.map T.int) (z1:=z1) (z2:=z2) (z3:=z3) hn ha (by omega) (by omega)
   rw [eds]
   refine ⟨_,_,(by unfold tgN;exact Bi rfl f9),p3,rows++[(makers.getD (u+rows.length) ⟨#[]⟩,ps)],e,iv (rows.length:Int),?_,by simp;omega,R.snoc p1 p2,by simp;omega,AI,?_⟩
   ·rw [List.length_append,List.length_singleton]
    rfl
   ·rw [e2,List.length_append,List.length_singleton])
  (FL.upTo 0 n) [vl sc,some (.own (.lst (ds.map T.int))),iv many,vl (.lst (names.map T.str)),vl (.lst (makers.map T.str)),some (.own (.lst got)),iv (u:Int),iv (a:Int),some (.own (.lst [])),x9] ⟨[],ds,x9,rfl,Nat.zero_le _,Rows.nil,by simp,h9,rfl⟩
 have hi2:rows.length=n:=by
  have:=congrArg List.length hts
  simp [FL.upTo] at this
  omega
 refine ⟨rows,es,y9,hi2,R,by omega,f9,?_⟩
 rw [ef,hi2]
theorem Ln {i:Nat} {fs fs':FS} {t:T} {ts:List T} (h0:fs[i]?=some (some (.own (.lst (ts++[t]))))) (e:fs.set i (some (.own (.lst ts)))=fs'):fz (AX Ha (Ab i) Ak) fs=.ok (.t t) fs':=by
 have h1:Ab i fs=.ok (.rf i) fs:=by unfold Ab;rw [h0]
 have h2:FL.A1 fs i=some (.lst (ts++[t])):=by unfold FL.A1;rw [h0]
 have h3:DN fs (.rf i)=some (ts++[t]):=by simp only [DN,h2]
 have h5:Ha (.rf i) [] fs=.ok (.t t) fs':=by
  have:FL.putAt fs i (.lst ts)=fs':=by
   unfold FL.putAt
   rw [h0]
   exact e
  simp only [Ha,h2,List.getLast?_concat,List.dropLast_concat,this,okT]
 refine CP ?_
 unfold AX
 rw [h1]
 show (if (DN fs (.rf i)).isSome=true then _ else _)=_
 rw [h3,if_pos (show (some (ts++[t])).isSome=true from rfl)]
 exact h5
theorem Oa {j:Int} {fs fs1:FS} {fa:FS->Out (List Rv)} (e:fa fs=.ok [.t (.int j)] fs1) (h:-(2 ^ 62)<=j/\j < 2 ^ 62):Iu fa fs=.ok (FL.upTo 0 j.toNat) fs1:=by
 unfold Iu
 rw [e]
 simp only [Out.bind]
 exact if_pos h
theorem Uh {n:Nat} {fa:FS->Out (List Rv)} {gt:T->FS->Option FS} {body:FS->SO} {fs fs1:FS} {r:SO} (e:fa fs=.ok [.t (.int (n:Int))] fs1) (h:n < 2 ^ 62) (ef:CQ gt body (FL.upTo 0 n) fs1=r):Ef (Iu fa) gt body fs=r:=by
 have q:=Oa e ⟨by omega,by omega⟩
 rw [Int.toNat_natCast] at q
 unfold Ef
 rw [q]
 exact ef
def BD (many:Nat):Nat:=if many=4 then 3 else 4
theorem OP {sc:T} {many a u:Nat} {names makers:List Str} {K:List (Str×List (Str×List Str))} {ds:List Int} {x8 x9:Option Sl} (hn:names.length=many) (ha:a < many) (hu:u+BD many<=makers.length) (hd:13<=ds.length) (h8:Fre x8) (h9:Fre x9) (hK:K.length < 100) :
  ∃ (rows:List (Str×List Str)) (es:List Int) (y8 y9:Option Sl),1<=rows.length/\rows.length<=BD many/\Rows names makers a u rows/\ds.length<=es.length+13/\Fre y8/\Fre y9 /\
   (AN (AY 8 (AD DH Ak))
  (AN (Ef (Iu (Ac (Af AS (gc (.int 1)) (Af CB (fz (AX Ha (Ab 1) Ak)) (Af Bd (AD By (Ac (gc (.int 4)) (Ac (gc (.int 3)) Ak))) (Am Hd (Ac (Af (gEq false) (Ab 2) (gc (.int 4))) Ak))))) Ak)) (tgN 9) (AN (Bb (AX Er (Ab 8) (Ac (AD Bp (Ac (Af Bd (Ab 4) (fz (Ab 6))) (Ac (fz (Am (AA 4 Cc) (Ah (fz (Ab 3)) (Ah (fz (Ab 7)) (Ah (Af (gEq false) (Ab 9) (gc (.int 0))) (Ah (Ab 1) Ak)))))) Ak))) Ak)))
  (AY 6 (Af AS (Ab 6) (gc (.int 1))))))
  (Bb (AX Er (Ab 5) (Ac (AD Bp (Ac (Af Bd (Ab 3) (fz (Ab 7))) (Ac (fz (Ab 8)) Ak))) Ak)))))
   [vl sc,some (.own (.lst (ds.map T.int))),iv (many:Int),vl (.lst (names.map T.str)),vl (.lst (makers.map T.str)),some (.own (.lst (K.map AB))),iv (u:Int),iv (a:Int),x8,x9] =
   .nx [vl sc,some (.own (.lst (es.map T.int))),iv (many:Int),vl (.lst (names.map T.str)),vl (.lst (makers.map T.str)),some (.own (.lst ((K++[(names.getD a ⟨#[]⟩,rows)]).map AB))),iv ((u+rows.length:Nat):Int),iv (a:Int),y8,y9]:=by
 obtain ⟨d1,z,rfl,hd1⟩:=Nj (xs:=ds) (by omega)
 have hmr:BD many=3∨BD many=4:=by unfold BD;split <;> simp
 have em:atI [T.int 4,T.int 3] (if many=4 then 1 else 0:Int)=some (T.int (BD many:Int)):=by
  unfold BD
  by_cases h:many=4
  ·rw [if_pos h,if_pos h];exact AW (j:=1) rfl
  ·rw [if_neg h,if_neg h];exact AW (j:=0) rfl
 have hz0:0<=z % (BD many:Int):=Int.emod_nonneg _ (by omega)
 have hz1:z % (BD many:Int) < BD many:=Int.emod_lt_of_pos _ (by omega)
 obtain ⟨n,hn1⟩:∃ n:Nat,(n:Int)=1+z % (BD many:Int):=⟨(1+z % (BD many:Int)).toNat,by omega⟩
 have s8:AY 8 (AD DH Ak) [vl sc,some (.own (.lst ((d1++[z]).map T.int))),iv (many:Int),vl (.lst (names.map T.str)),vl (.lst (makers.map T.str)),some (.own (.lst (K.map AB))),iv (u:Int),iv (a:Int),x8,x9] =
   .nx [vl sc,some (.own (.lst (d1.map T.int++[T.int z]))),iv (many:Int),vl (.lst (names.map T.str)),vl (.lst (makers.map T.str)),some (.own (.lst (K.map AB))),iv (u:Int),iv (a:Int),some (.own (.lst [])),x9]:=by
  rw [List.map_append]
  cases x8 with
  | none=>rfl
  | some s=>cases s with
   | val t=>rfl
   | own o=>rfl
   | bor o=>exact h8.elim
 obtain ⟨rows,es,y9,r1,R,r2,f9,er⟩:=N8 (sc:=sc) (many:=(many:Int)) (names:=names) (makers:=makers) (got:=K.map AB) (u:=u) (a:=a) (n:=n) (ds:=d1) (x9:=x9) (by omega) (by omega) (by omega) (by omega) (by omega) h9
 have eq4:Af (gEq false) (Ab 2) (gc (.int 4)) [vl sc,some (.own (.lst (d1.map T.int))),iv (many:Int),vl (.lst (names.map T.str)),vl (.lst (makers.map T.str)),some (.own (.lst (K.map AB))),iv (u:Int),iv (a:Int),some (.own (.lst [])),x9]=.ok (.t (.bl (decide (many=4)))) [vl sc,some (.own (.lst (d1.map T.int))),iv (many:Int),vl (.lst (names.map T.str)),vl (.lst (makers.map T.str)),some (.own (.lst (K.map AB))),iv (u:Int),iv (a:Int),some (.own (.lst [])),x9]:=by
  refine Ap (Aa rfl) Az ?_
  have q:decide (V.int (many:Int)=V.int 4)=decide (many=4):=by
   by_cases h:many=4
   ·rw [h];rfl
   ·rw [decide_eq_false h,decide_eq_false (by intro z;cases z;exact h rfl)]
  show (if Lj (V.int (many:Int)) (V.int 4)=true then okT (.bl (if false=true then _ else decide (V.int (many:Int)=V.int 4))) _ else .bad)=_
  rw [if_pos (show Lj (V.int (many:Int)) (V.int 4)=true from rfl),q]
  rfl
 have ei:Am Hd (Ac (Af (gEq false) (Ab 2) (gc (.int 4))) Ak) [vl sc,some (.own (.lst (d1.map T.int))),iv (many:Int),vl (.lst (names.map T.str)),vl (.lst (makers.map T.str)),some (.own (.lst (K.map AB))),iv (u:Int),iv (a:Int),some (.own (.lst [])),x9]=.ok (.t (.int (if many=4 then 1 else 0))) [vl sc,some (.own (.lst (d1.map T.int))),iv (many:Int),vl (.lst (names.map T.str)),vl (.lst (makers.map T.str)),some (.own (.lst (K.map AB))),iv (u:Int),iv (a:Int),some (.own (.lst [])),x9]:=by
  refine Di (Av eq4 rfl) ?_
  show okT (.int (if decide (many=4)=true then 1 else 0)) _=_
  by_cases h:many=4
  ·rw [if_pos h,decide_eq_true h];rfl
  ·rw [if_neg h,decide_eq_false h];rfl
 have ec:Ac (Af AS (gc (.int 1)) (Af CB (fz (AX Ha (Ab 1) Ak)) (Af Bd (AD By (Ac (gc (.int 4)) (Ac (gc (.int 3)) Ak))) (Am Hd (Ac (Af (gEq false) (Ab 2) (gc (.int 4))) Ak))))) Ak [vl sc,some (.own (.lst (d1.map T.int++[T.int z]))),iv (many:Int),vl (.lst (names.map T.str)),vl (.lst (makers.map T.str)),some (.own (.lst (K.map AB))),iv (u:Int),iv (a:Int),some (.own (.lst [])),x9]=.ok [.t (.int (n:Int))] [vl sc,some (.own (.lst (d1.map T.int))),iv (many:Int),vl (.lst (names.map T.str)),vl (.lst (makers.map T.str)),some (.own (.lst (K.map AB))),iv (u:Int),iv (a:Int),some (.own (.lst [])),x9]:=by
  rw [hn1]
  exact Bw (EZ Az (EZ (Ln (ts:=d1.map T.int) rfl rfl) (Ap (Cs rfl rfl (by decide)) ei (Bv rfl em)) (C4 (by omega))) Dx) rfl
 have en:atI (names.map T.str) (a:Int)=some (T.str (names.getD a ⟨#[]⟩)):=AW (by
  have ha':a < names.length:=by omega
  rw [List.getElem?_map,List.getElem?_eq_getElem ha']
  simp [List.getD,ha'])
 refine ⟨rows,es,vl (.lst (rows.map Dk)),y9,by omega,by omega,R,by simp at hd1 ⊢;omega,AI,f9,?_⟩
 rw [AO s8,AO (Uh ec (by omega) er)]
 have e1:K.map AB++[T.tup [T.str (names.getD a ⟨#[]⟩),T.lst (rows.map Dk)]]=(K++[(names.getD a ⟨#[]⟩,rows)]).map AB:=by rw [List.map_append];rfl
 rw [<- e1,r1]
 exact Qa (i:=5) rfl (CG (g:=Bp) (ts:=[T.str (names.getD a ⟨#[]⟩),T.lst (rows.map Dk)]) (Bw (Ap (Aa rfl) (AF (Aa rfl)) (Bv rfl en)) (Bw (show fz (Ab 8) _=.ok (.t (.lst (rows.map Dk))) _ from rfl) (show Ak _=.ok [] _ from rfl))) rfl (show 2<=big by decide) rfl) rfl (by rw [List.length_map];show _ < 1000000;omega) rfl
abbrev Kd:=List (Str×List (Str×List Str))
def used (K:Kd):Nat:=(K.map (·.2.length)).sum
structure KOk (names makers:List Str) (K:Kd):Prop where
 at_:∀ a kd,K[a]?=some kd->kd.1=names.getD a ⟨#[]⟩/\1<=kd.2.length/\kd.2.length<=4/\Rows names makers a (used (K.take a)) kd.2
theorem KOk.nil {names makers:List Str}:KOk names makers []:=⟨fun a kd e=>by simp at e⟩
theorem KOk.snoc {names makers:List Str} {K:Kd} (h:KOk names makers K) {rows:List (Str×List Str)} (h1:1<=rows.length) (h2:rows.length<=4) (R:Rows names makers K.length (used K) rows):KOk names makers (K++[(names.getD K.length ⟨#[]⟩,rows)]):=by
 refine ⟨fun a kd e=>?_⟩
 rcases Nat.lt_trichotomy a K.length with q | q | q
 ·rw [List.getElem?_append_left q] at e
  have:=h.at_ a kd e
  rwa [List.take_append_of_le_length (by omega)]
 ·subst q
  have e':kd=(names.getD K.length ⟨#[]⟩,rows):=by simpa using e.symm
  subst e'
  refine ⟨rfl,h1,h2,?_⟩
  rw [List.take_left']
  ·exact R
  ·rfl
 ·rw [List.getElem?_eq_none (by simp;omega)] at e
  cases e
theorem J2 {K:Kd} {k:Str} {rows:List (Str×List Str)}:used (K++[(k,rows)])=used K+rows.length:=by
 unfold used
 simp
theorem Lh {i:Nat} {f:FS->Out Rv} {fs fs1 fs':FS} {o:FO} (h:f fs=.ok (.nw o) fs1) (hs:JY i (.nw o) fs1=some fs'):AY i f fs=.nx fs':=by
 unfold AY
 rw [h]
 show (match JY i (.nw o) fs1 with | some fs=>SO.nx fs | none=>.bad)=_
 rw [hs]
theorem He {f:FS->Out Rv} {fs fs1:FS} {o:FO} (h:f fs=.ok (.nw o) fs1):fz f fs=.ok (.t (toT o)) fs1:=by
 unfold fz
 rw [h]
 rfl
theorem Nk {sc:T} {many:Nat} {names makers:List Str} {ds:List Int} (hn:names.length=many) (hm:many<=4) (hm12:makers.length=12) (hd:60<=ds.length) :
  ∃ (K:Kd) (x1 x6 x7 x8 x9:Option Sl),K.length=many/\KOk names makers K/\used K<=12/\CQ (tgN 7) (AN (AY 8 (AD DH Ak))
  (AN (Ef (Iu (Ac (Af AS (gc (.int 1)) (Af CB (fz (AX Ha (Ab 1) Ak)) (Af Bd (AD By (Ac (gc (.int 4)) (Ac (gc (.int 3)) Ak))) (Am Hd (Ac (Af (gEq false) (Ab 2) (gc (.int 4))) Ak))))) Ak)) (tgN 9) (AN (Bb (AX Er (Ab 8) (Ac (AD Bp (Ac (Af Bd (Ab 4) (fz (Ab 6))) (Ac (fz (Am (AA 4 Cc) (Ah (fz (Ab 3)) (Ah (fz (Ab 7)) (Ah (Af (gEq false) (Ab 9) (gc (.int 0))) (Ah (Ab 1) Ak)))))) Ak))) Ak)))
  (AY 6 (Af AS (Ab 6) (gc (.int 1))))))
  (Bb (AX Er (Ab 5) (Ac (AD Bp (Ac (Af Bd (Ab 3) (fz (Ab 7))) (Ac (fz (Ab 8)) Ak))) Ak))))) (FL.upTo 0 many) [vl sc,some (.own (.lst (ds.map T.int))),iv (many:Int),vl (.lst (names.map T.str)),vl (.lst (makers.map T.str)),some (.own (.lst [])),iv 0,none,none,none] =
   .nx [vl sc,x1,iv (many:Int),vl (.lst (names.map T.str)),vl (.lst (makers.map T.str)),some (.own (.lst (K.map AB))),x6,x7,x8,x9]:=by
 have hmr:(BD many=3/\many=4)∨(BD many=4/\many<=3):=by unfold BD;split <;> omega
 obtain ⟨fs',ef,K,es,x7,x8,x9,rfl,hle,KO,hu,he,f7,f8,f9,hts⟩:=Dy (gt:=tgN 7) (body:=(AN (AY 8 (AD DH Ak))
  (AN (Ef (Iu (Ac (Af AS (gc (.int 1)) (Af CB (fz (AX Ha (Ab 1) Ak)) (Af Bd (AD By (Ac (gc (.int 4)) (Ac (gc (.int 3)) Ak))) (Am Hd (Ac (Af (gEq false) (Ab 2) (gc (.int 4))) Ak))))) Ak)) (tgN 9) (AN (Bb (AX Er (Ab 8) (Ac (AD Bp (Ac (Af Bd (Ab 4) (fz (Ab 6))) (Ac (fz (Am (AA 4 Cc) (Ah (fz (Ab 3)) (Ah (fz (Ab 7)) (Ah (Af (gEq false) (Ab 9) (gc (.int 0))) (Ah (Ab 1) Ak)))))) Ak))) Ak)))
  (AY 6 (Af AS (Ab 6) (gc (.int 1))))))
  (Bb (AX Er (Ab 5) (Ac (AD Bp (Ac (Af Bd (Ab 3) (fz (Ab 7))) (Ac (fz (Ab 8)) Ak))) Ak))))))
  (fun ts fs=>∃ (K:Kd) (es:List Int) (x7 x8 x9:Option Sl),fs=[vl sc,some (.own (.lst (es.map T.int))),iv (many:Int),vl (.lst (names.map T.str)),vl (.lst (makers.map T.str)),some (.own (.lst (K.map AB))),iv ((used K:Nat):Int),x7,x8,x9]/\K.length<=many/\KOk names makers K/\used K<=K.length * BD many/\ds.length<=es.length+13 * K.length/\Fre x7/\Fre x8/\Fre x9/\ts=(FL.upTo 0 many).drop K.length)
  (fun t' ts fs h=>by
   obtain ⟨K,es,x7,x8,x9,rfl,hle,KO,hu,he,f7,f8,f9,hts⟩:=h
   have hlt:K.length < many:=by
    have:=congrArg List.length hts
    simp [FL.upTo] at this
    omega
   have hc:=List.drop_eq_getElem_cons (l:=FL.upTo 0 many) (i:=K.length) (by simp [FL.upTo];exact hlt)
   rw [hc] at hts
   obtain ⟨e1,e2⟩:=List.cons.inj hts
   have e3:t'=T.int (K.length:Int):=by
    rw [e1]
    simp [FL.upTo]
   subst e3
   have hu2:used K+BD many<=12:=by
    rcases hmr with ⟨q1,q2⟩ | ⟨q1,q2⟩
    ·rw [q1] at hu ⊢;omega
    ·rw [q1] at hu ⊢;omega
   obtain ⟨rows,es',y8,y9,r1,r2,R,r3,g8,g9,e⟩:=OP (sc:=sc) (many:=many) (a:=K.length) (u:=used K) (names:=names) (makers:=makers) (K:=K) (ds:=es) (x8:=x8) (x9:=x9) hn hlt (by omega) (by omega) f8 f9 (by omega)
   refine ⟨_,_,(by unfold tgN;exact Bi rfl f7),e,K++[(names.getD K.length ⟨#[]⟩,rows)],es',iv (K.length:Int),y8,y9,?_,by simp;omega,KO.snoc r1 (by omega) R,?_,by simp;omega,AI,g8,g9,?_⟩
   ·rw [J2]
   ·rw [J2,List.length_append,List.length_singleton,Nat.add_mul]
    omega
   ·rw [e2,List.length_append,List.length_singleton])
  (FL.upTo 0 many) [vl sc,some (.own (.lst (ds.map T.int))),iv (many:Int),vl (.lst (names.map T.str)),vl (.lst (makers.map T.str)),some (.own (.lst [])),iv 0,none,none,none] ⟨[],ds,none,none,none,rfl,Nat.zero_le _,KOk.nil,by simp [used],by simp,Ay,Ay,Ay,rfl⟩
 have hi2:K.length=many:=by
  have:=congrArg List.length hts
  simp [FL.upTo] at this
  omega
 refine ⟨K,_,_,_,_,_,hi2,KO,?_,ef⟩
 rcases hmr with ⟨q1,q2⟩ | ⟨q1,q2⟩
 ·rw [q1,hi2] at hu;omega
 ·rw [q1,hi2] at hu;omega
theorem EM (c:Int) (n:Nat):(nms c n).length=n:=by unfold nms;simp
theorem kinds {ns:List Int} (h0:Builtin.Int.intBits (ns.getD 0 0)<=2 ^ 20) (h1:Builtin.Int.intBits (ns.getD 1 0)<=2 ^ 20) :
  ∃ (K:Kd),1<=K.length/\K.length<=4/\KOk (nms (ns.getD 0 0) K.length) (nms (ns.getD 1 0) 12) K/\used K<=12/\Fe [vl (.scr (ns.map T.int))]=.ok (.nw (.lst (K.map AB))) [vl (.scr (ns.map T.int))]:=by
 obtain ⟨ds,hd,ed⟩:=digits (t:=.scr (ns.map T.int)) (ns:=ns) (.inl rfl) (a:=0) (b:=3) (by decide) (by decide) (by decide) (by decide)
 have ec0:=LM ns 0
 have ec1:=LM ns 1
 generalize hS:T.scr (ns.map T.int)=sc at ed ec0 ec1 ⊢
 obtain ⟨d1,z,rfl,hd1⟩:=Nj (xs:=ds) (by omega)
 have s1:AY 1 (Am (AA 3 Ck) (Ah (fz (Ab 0)) (Ah (gc (.int 0)) (Ah (gc (.int 3)) Ak)))) [vl sc,none,none,none,none,none,none,none,none,none]=.nx [vl sc,some (.own (.lst (d1.map T.int++[T.int z]))),none,none,none,none,none,none,none,none]:=by
  have e:=Fi (p:=3) (Fn:=Ck) (fs:=[vl sc,none,none,none,none,none,none,none,none,none]) (Aj (AF (Aa (i:=0) rfl)) (Aj (Az (t:=.int 0)) (Aj (Az (t:=.int 3)) (show Ak _=.ok [] _ from rfl)))) rfl (by rw [show Dm _ _=[] from rfl];exact List.nodup_nil) ed (A4 rfl)
  rw [List.map_append] at e
  exact Lh e rfl
 have hq:∃ q:Nat,1<=q/\q<=4/\atI [T.int 1,T.int 2,T.int 3,T.int 2,T.int 1,T.int 4,T.int 2,T.int 3] (z % 8)=some (T.int (q:Int)):=by
  have h:z % 8=((0:Nat):Int)∨z % 8=((1:Nat):Int)∨z % 8=((2:Nat):Int)∨z % 8=((3:Nat):Int)∨z % 8=((4:Nat):Int)∨z % 8=((5:Nat):Int)∨z % 8=((6:Nat):Int)∨z % 8=((7:Nat):Int):=by omega
  rcases h with h | h | h | h | h | h | h | h <;> rw [h]
  ·exact ⟨1,by omega,by omega,AW rfl⟩
  ·exact ⟨2,by omega,by omega,AW rfl⟩
  ·exact ⟨3,by omega,by omega,AW rfl⟩
  ·exact ⟨2,by omega,by omega,AW rfl⟩
  ·exact ⟨1,by omega,by omega,AW rfl⟩
  ·exact ⟨4,by omega,by omega,AW rfl⟩
  ·exact ⟨2,by omega,by omega,AW rfl⟩
  ·exact ⟨3,by omega,by omega,AW rfl⟩
 obtain ⟨q,q1,q4,eq⟩:=hq
 have s2:AY 2 (Af Bd (AD By (Ac (gc (.int 1)) (Ac (gc (.int 2)) (Ac (gc (.int 3)) (Ac (gc (.int 2)) (Ac (gc (.int 1)) (Ac (gc (.int 4)) (Ac (gc (.int 2)) (Ac (gc (.int 3)) Ak))))))))) (Af CB (fz (AX Ha (Ab 1) Ak)) (gc (.int 8)))) [vl sc,some (.own (.lst (d1.map T.int++[T.int z]))),none,none,none,none,none,none,none,none]=.nx [vl sc,some (.own (.lst (d1.map T.int))),iv (q:Int),none,none,none,none,none,none,none] :=
  DM (EZ (Cs rfl rfl (by decide)) (EZ (Ln (ts:=d1.map T.int) rfl rfl) Az (C4 (by decide))) (Bv rfl eq)) rfl
 have en0:=names (c:=ns.getD 0 0) (n:=q) (by omega) h0
 have en1:=names (c:=ns.getD 1 0) (n:=12) (by omega) h1
 generalize ns.getD 0 0=c0 at ec0 en0 ⊢
 generalize ns.getD 1 0=c1 at ec1 en1 ⊢
 have s3:AY 3 (fz (Am (AA 2 Cd) (Ah (fz (Am (AA 2 Be) (Ah (fz (Ab 0)) (Ah (gc (.int 0)) Ak)))) (Ah (fz (Ab 2)) Ak)))) [vl sc,some (.own (.lst (d1.map T.int))),iv (q:Int),none,none,none,none,none,none,none]=.nx [vl sc,some (.own (.lst (d1.map T.int))),iv (q:Int),vl (.lst ((nms c0 q).map T.str)),none,none,none,none,none,none]:=by
  have e1:=DZ (p:=2) (Fn:=Be) (fs:=[vl sc,some (.own (.lst (d1.map T.int))),iv (q:Int),none,none,none,none,none,none,none]) (Aj (AF (Aa (i:=0) rfl)) (Aj (Az (t:=.int 0)) (show Ak _=.ok [] _ from rfl))) rfl (by rw [show Dm _ _=[] from rfl];exact List.nodup_nil) ec0 (A4 rfl)
  have e2:=Fi (p:=2) (Fn:=Cd) (Aj (CP e1) (Aj (AF (Aa (i:=2) rfl)) (show Ak _=.ok [] _ from rfl))) rfl (by rw [show Dm _ _=[] from rfl];exact List.nodup_nil) en0 (A4 rfl)
  exact DM (He e2) rfl
 have s4:AY 4 (fz (Am (AA 2 Cd) (Ah (fz (Am (AA 2 Be) (Ah (fz (Ab 0)) (Ah (gc (.int 1)) Ak)))) (Ah (gc (.int 12)) Ak)))) [vl sc,some (.own (.lst (d1.map T.int))),iv (q:Int),vl (.lst ((nms c0 q).map T.str)),none,none,none,none,none,none]=.nx [vl sc,some (.own (.lst (d1.map T.int))),iv (q:Int),vl (.lst ((nms c0 q).map T.str)),vl (.lst ((nms c1 12).map T.str)),none,none,none,none,none]:=by
  have e1:=DZ (p:=2) (Fn:=Be) (fs:=[vl sc,some (.own (.lst (d1.map T.int))),iv (q:Int),vl (.lst ((nms c0 q).map T.str)),none,none,none,none,none,none]) (Aj (AF (Aa (i:=0) rfl)) (Aj (Az (t:=.int 1)) (show Ak _=.ok [] _ from rfl))) rfl (by rw [show Dm _ _=[] from rfl];exact List.nodup_nil) ec1 (A4 rfl)
  have e2:=Fi (p:=2) (Fn:=Cd) (Aj (CP e1) (Aj (Az (t:=.int 12)) (show Ak _=.ok [] _ from rfl))) rfl (by rw [show Dm _ _=[] from rfl];exact List.nodup_nil) en1 (A4 rfl)
  exact DM (He e2) rfl
 obtain ⟨K,x1,x6,x7,x8,x9,hK,KO,hu,ef⟩:=Nk (sc:=sc) (many:=q) (names:=nms c0 q) (makers:=nms c1 12) (ds:=d1) (EM _ _) q4 (EM _ _) (by omega)
 have s5:AY 5 (AD DH Ak) [vl sc,some (.own (.lst (d1.map T.int))),iv (q:Int),vl (.lst ((nms c0 q).map T.str)),vl (.lst ((nms c1 12).map T.str)),none,none,none,none,none]=.nx [vl sc,some (.own (.lst (d1.map T.int))),iv (q:Int),vl (.lst ((nms c0 q).map T.str)),vl (.lst ((nms c1 12).map T.str)),some (.own (.lst [])),none,none,none,none]:=rfl
 have s6:AY 6 (gc (.int 0)) [vl sc,some (.own (.lst (d1.map T.int))),iv (q:Int),vl (.lst ((nms c0 q).map T.str)),vl (.lst ((nms c1 12).map T.str)),some (.own (.lst [])),none,none,none,none]=.nx [vl sc,some (.own (.lst (d1.map T.int))),iv (q:Int),vl (.lst ((nms c0 q).map T.str)),vl (.lst ((nms c1 12).map T.str)),some (.own (.lst [])),iv 0,none,none,none]:=rfl
 have all:Gr [vl sc,none,none,none,none,none,none,none,none,none]=.ret (.rf 5) [vl sc,x1,iv (q:Int),vl (.lst ((nms c0 q).map T.str)),vl (.lst ((nms c1 12).map T.str)),some (.own (.lst (K.map AB))),x6,x7,x8,x9]:=by
  unfold Gr
  rw [AO s1,AO s2,AO s3,AO s4,AO s5,AO s6,AO (Po (n:=q) (fa:=Ac (Ab 2) Ak) (Av (Aa rfl) rfl) (by omega) ef)]
  rfl
 refine ⟨K,by omega,by omega,by rw [hK];exact KO,hu,?_⟩
 unfold Fe Dj
 show (match Gr [vl sc,none,none,none,none,none,none,none,none,none] with | .nx τ=>_ | .ret (.t t) τ=>_ | .ret (.nw o) τ=>_ | .ret (.rf i) τ=>_ | .exc c τ=>_ | _=>_)=_
 rw [all]
 rfl
theorem RK {fv fi:FS->Out Rv} {o:Nat} {fs fs':FS} {v:T} {k:Str} {ks:List Key} {ts:List T} (h0:fs[o]?=some (some (.own (.dK ks ts)))) (hv:fv fs=.ok (.t v) fs) (hi:fi fs=.ok (.t (.str k)) fs) (hn:(ks.any fun k'=>decide (k'=(.inr k:Key)))=false) (hl:ks.length < big)
  (e:fs.set o (some (.own (.dK (ks++[.inr k]) (ts++[v]))))=fs'):FX fv (Ab o) fi fs=.nx fs':=by
 have h1:Ab o fs=.ok (.rf o) fs:=by unfold Ab;rw [h0]
 have h2:FL.A1 fs o=some (.dK ks ts):=by unfold FL.A1;rw [h0]
 have h3:Jj ks ts (.inr k:Key) v=(ks++[.inr k],ts++[v]):=by
  unfold Jj
  rw [hn]
  rfl
 have h4:FL.putAt fs o (.dK (ks++[.inr k]) (ts++[v]))=fs':=by
  unfold FL.putAt
  rw [h0]
  exact e
 have h5:Q4 (.rf o) (.t (.str k)) (.t v) fs=.bad:=rfl
 have h6:Pf (.rf o) (.t (.str k)) (.t v) fs=.nx fs':=by
  simp only [Pf,h2,MU,hl,if_true,h3,h4]
 unfold FX
 rw [hv]
 simp only [Out.bnd,Out.bind]
 rw [h1]
 simp only
 rw [hi]
 simp only [SO.of]
 unfold T3
 rw [h5]
 exact h6
theorem FV {i j:Nat} {fs fs1 fs2:FS} {x y:T} (h1:tgN i x fs=some fs1) (h2:tgN j y fs1=some fs2):BC 2 (Ar (tgN i) (Ar (tgN j) Bs)) (.tup [x,y]) fs=some fs2:=by
 have e:BC 2 (Ar (tgN i) (Ar (tgN j) Bs)) (.tup [x,y]) fs=Ar (tgN i) (Ar (tgN j) Bs) [x,y] fs:=rfl
 rw [e]
 simp only [Ar,h1,h2,Option.bind_some,Bs]
def Cv (K:Kd):List Key:=K.map fun kd=>(.inr kd.1:Key)
theorem any_false {ks:List Key} {k:Key} (h:k∉ks):(ks.any fun k'=>decide (k'=k))=false:=by
 rw [List.any_eq_false]
 intro x hx
 rw [decide_eq_true_eq]
 intro e
 exact h (e▸hx)
theorem sq {g h:FS->SO} {fs fs':FS} {r:SO} (e:g fs=.nx fs') (e2:h fs'=r):AN g h fs=r:=(AO e).trans e2
theorem Du {f:FS->Out Rv} {fs fs1:FS} {b:Bool} (h:f fs=.ok (.t (.bl b)) fs1):asB f fs=.ok b fs1:=by
 unfold asB;rw [h];rfl
theorem FD {f:FS->Out Bool} {fs fs1:FS} {b:Bool} (h:f fs=.ok b fs1):Fl f fs=.ok (!b) fs1:=by
 unfold Fl;rw [h];rfl
theorem EH {f:FS->Out Rv} {fs fs1:FS} {b:Bool} (h:f fs=.ok (.t (.bl b)) fs1):FQ f fs=.ok b fs1:=by
 unfold FQ;rw [h];rfl
theorem R5 {c:FS->Out Bool} {g h:FS->SO} {fs fs1:FS} {r:SO} (hc:c fs=.ok false fs1) (e:h fs1=r):ifS c g h fs=r:=by
 unfold ifS
 rw [hc]
 exact e
theorem Ep {i:Nat} {fs:FS} {o:FO} (h:fs[i]?=some (some (.own o))):Ab i fs=.ok (.rf i) fs:=by unfold Ab;rw [h]
theorem JE {i:Nat} {fs:FS} {o:FO} (h:fs[i]?=some (some (.bor o))):Ab i fs=.ok (.rf i) fs:=by unfold Ab;rw [h]
theorem VI {i:Nat} {fs:FS} {o:FO} (h:fs[i]?=some (some (.own o))):FL.A1 fs i=some o:=by unfold FL.A1;rw [h]
theorem W5 {i:Nat} {fs:FS} {o:FO} (h:fs[i]?=some (some (.bor o))):FL.A1 fs i=some o:=by unfold FL.A1;rw [h]
theorem LP {g:Rv->Rv->FS->Out Rv} {fa fb:FS->Out Rv} {fs:FS} {x:T} {i:Nat} {r:Out Rv} (h1:fa fs=.ok (.t x) fs) (h2:fb fs=.ok (.rf i) fs) (h3:g (.t x) (.rf i) fs=r):Af g fa fb fs=r:=by
 unfold Af
 rw [h1]
 show (fb fs).bnd _=r
 rw [h2]
 exact h3
theorem JN {f:FS->Out Rv} {fs fs1:FS} {r:Rv} (h:f fs=.ok r fs1):Bb f fs=.nx fs1:=by
 unfold Bb;rw [h];rfl
theorem Hr {κ:Type} [DecidableEq κ]:∀ {ks:List κ} {ts:List T} {k:κ},k∉ks->Gs ks ts k=none
 | [],_,_,_=>by unfold Gs;rfl
 | k' :: ks,[],k,_=>by unfold Gs;rfl
 | k' :: ks,t :: ts,k,h=>by
  have h1:k'≠k:=fun e=>h (e▸List.mem_cons_self)
  have h2:k∉ks:=fun m=>h (List.mem_cons_of_mem _ m)
  simp only [Gs,if_neg h1,Hr h2]
theorem J0 {κ α:Type} [DecidableEq κ] {f:α->κ} {g:α->T}:∀ {xs:List α} {x:α},x∈xs->(xs.map f).Nodup->Gs (xs.map f) (xs.map g) (f x)=some (g x)
 | y :: ys,x,m,nd=>by
  rw [List.map_cons,List.map_cons]
  unfold Gs
  rw [List.map_cons,List.nodup_cons] at nd
  by_cases e:f y=f x
  ·rw [if_pos e]
   rcases List.mem_cons.mp m with rfl | m
   ·rfl
   ·exact (nd.1 (List.mem_map.mpr ⟨x,m,e.symm⟩)).elim
  ·rw [if_neg e]
   rcases List.mem_cons.mp m with rfl | m
   ·exact (e rfl).elim
   ·exact J0 m nd.2
theorem V7 {neg:Bool} {k:Str} {i:Nat} {ks:List Key} {ts:List T} {fs:FS} (h:FL.A1 fs i=some (.dK ks ts)):FR neg (.t (.str k)) (.rf i) fs=.ok (.t (.bl (if neg then !(Gs ks ts (.inr k:Key)).isSome else (Gs ks ts (.inr k:Key)).isSome))) fs:=by
 unfold FR orG
 have e:Ua neg (.t (.str k)) (.rf i) fs=.ok (.t (.bl (if neg then !(Gs ks ts (.inr k:Key)).isSome else (Gs ks ts (.inr k:Key)).isSome))) fs:=by
  simp only [Ua,Up,h,MU,Option.map_some]
  rfl
 rw [e]
theorem Y7 {neg:Bool} {k:Str} {ks:List Key} {ts:List T} {fs:FS}:FR neg (.t (.str k)) (.t (.dK ks ts)) fs=.ok (.t (.bl (if neg then !(Gs ks ts (.inr k:Key)).isSome else (Gs ks ts (.inr k:Key)).isSome))) fs:=rfl
theorem Hk:∀ xs:List Str,RO (xs.map T.str)=some (xs.map V.str)
 | []=>rfl
 | x :: xs=>by
  simp only [List.map_cons,RO,plV,Option.bind_some,Hk xs,Option.map_some]
theorem JD (k:Str):∀ xs:List Str,inV (.str k) (xs.map V.str)=decide (k∈xs)
 | []=>by simp [inV]
 | x :: xs=>by
  have:=JD k xs
  unfold inV at this ⊢
  rw [List.map_cons,List.any_cons,this]
  have e:eqV (.str x) (.str k)=decide (k=x):=by
   by_cases h:k=x
   ·subst h;simp [eqV]
   ·have h':x≠k:=fun e=>h e.symm
    simp [eqV,h,h']
  rw [e,Bool.eq_iff_iff]
  simp
theorem Pa {neg:Bool} {k:Str} {xs:List Str} {fs:FS}:FR neg (.t (.str k)) (.t (.lst (xs.map T.str))) fs=.ok (.t (.bl (if neg then !decide (k∈xs) else decide (k∈xs)))) fs:=by
 have e:gIn neg (.t (.str k)) (.t (.lst (xs.map T.str))) fs=.ok (.t (.bl (if neg then !decide (k∈xs) else decide (k∈xs)))) fs:=by
  simp only [gIn,plV,DN,Hk,okT,JD]
 exact e
theorem V6 {neg:Bool} {k:Str} {xs:List Str} {i:Nat} {fs:FS} (h:FL.A1 fs i=some (.lst (xs.map T.str))):FR neg (.t (.str k)) (.rf i) fs=.ok (.t (.bl (if neg then !decide (k∈xs) else decide (k∈xs)))) fs:=by
 have e:gIn neg (.t (.str k)) (.rf i) fs=.ok (.t (.bl (if neg then !decide (k∈xs) else decide (k∈xs)))) fs:=by
  simp only [gIn,plV,DN,h,Hk,okT,JD]
 have e1:Ua neg (.t (.str k)) (.rf i) fs=.bad:=by
  simp only [Ua,Up,h]
 unfold FR orG
 rw [e1]
 exact e
theorem ME {fa fb fc:FS->Out Rv} {fs:FS} {a b c:Int} (ha:fa fs=.ok (.t (.int a)) fs) (hb:fb fs=.ok (.t (.int b)) fs) (hc:fc fs=.ok (.t (.int c)) fs) (h1:a<=b) (h2:b<=c):Fl (asB (chain gLe gLe fa fb fc)) fs=.ok false fs:=by
 have e1:gLe (.t (.int a)) (.t (.int b)) fs=.ok (.t (.bl true)) fs:=by
  show okT (.bl (decide (a<=b))) _=_
  rw [decide_eq_true h1]
  rfl
 have e2:gLe (.t (.int b)) (.t (.int c)) fs=.ok (.t (.bl true)) fs:=by
  show okT (.bl (decide (b<=c))) _=_
  rw [decide_eq_true h2]
  rfl
 simp only [Fl,asB,chain,Out.bnd,Out.bind,ha,hb,hc,e1,e2,Bool.not_true]
theorem GC {x:T} {ts:List T} {f:FS->Out Rv} {fs fs1:FS} (h:f fs=.ok (.t x) fs1) (hs:x=.lst ts∨x=.tup ts):Am CO (Ac f Ak) fs=.ok (.t (.int ts.length)) fs1:=by
 unfold Am
 rw [Bw h (show Ak fs1=.ok [] fs1 from rfl)]
 rcases hs with rfl | rfl <;> rfl
theorem De {p:Nat} {Fn:FS->Out Rv} {fa:FS->Out (List Rv)} {fs fs1 τ:FS} {rs:List Rv} {t:T} (ha:fa fs=.ok rs fs1) (hp:rs.length=p) (hn:Dm fs1 (rs.map DP)=[]) (hf:Fn (Fp fs1 (rs.map DP))=.ok (.t t) τ):Am (AA p Fn) fa fs=.ok (.t t) fs1 :=
 DZ ha hp (by rw [hn];exact List.nodup_nil) hf (A4 hn)
theorem AE {fs:FS}:Ak fs=.ok [] fs:=rfl
theorem BP {K:Kd} (h1:1<=K.length) (h4:K.length<=4) (hnd:(K.map (·.1)).Nodup) (hnm:∀ kd∈K,A8 [vl (.str kd.1)]=.ok (.t (.bl true)) [vl (.str kd.1)]) (hrw:∀ kd∈K,1<=kd.2.length/\kd.2.length<=4) :
  Cr [vl (.lst (K.map AB))]=.ok (.t .non) [vl (.lst (K.map AB))]:=by
 have all:∃ x1 x2 x3,CW [vl (.lst (K.map AB)),none,none,none]=.nx [vl (.lst (K.map AB)),x1,x2,x3]:=by
  unfold CW
  obtain ⟨fs',ef,D,R,x2,x3,ts,rfl,eD,eR,f2,f3⟩:=Dy (gt:=BC 2 (Ar (tgN 2) (Ar (tgN 3) Bs))) (body:=(AN (ifS (Fl (FQ (fz (Am (AA 1 A8) (Ah (fz (Ab 2)) Ak))))) (fun _=>.bad) nxS)
  (AN (ifS (asB (Af (FR false) (fz (Ab 2)) (Ab 1))) (fun _=>.bad) nxS)
  (AN (ifS (Fl (asB (chain gLe gLe (gc (.int 1)) (Am CO (Ac (Ab 3) Ak)) (gc (.int 4))))) (fun _=>.bad) nxS)
  (FX (gc (.bl true)) (Ab 1) (fz (Ab 2)))))))
   (fun ts fs=>∃ (D R:Kd) (x2 x3:Option Sl) (vs:List T),fs=[vl (.lst (K.map AB)),some (.own (.dK (Cv D) vs)),x2,x3]/\D++R=K/\ts=R.map AB/\Fre x2/\Fre x3)
   (fun t' ts fs h=>by
    obtain ⟨D,R,x2,x3,vs,rfl,eD,eR,f2,f3⟩:=h
    cases R with
    | nil=>cases eR
    | cons kd R =>
     rw [List.map_cons] at eR
     obtain ⟨e1,e2⟩:=List.cons.inj eR
     subst e1
     have hm:kd∈K:=by rw [<- eD];simp
     have hnot:(.inr kd.1:Key)∉Cv D:=by
      intro m
      unfold Cv at m
      rw [List.mem_map] at m
      obtain ⟨kd',m',e'⟩:=m
      have e'':kd'.1=kd.1:=by simpa using e'
      rw [<- eD,List.map_append,List.nodup_append] at hnd
      exact hnd.2.2 kd'.1 (List.mem_map.mpr ⟨kd',m',rfl⟩) kd.1 (by simp) e''
     have hlen:(Cv D).length < big:=by
      unfold Cv
      rw [List.length_map]
      have:=congrArg List.length eD
      simp at this
      show D.length < 1000000
      omega
     have hr:=hrw kd hm
     refine ⟨[vl (.lst (K.map AB)),some (.own (.dK (Cv D) vs)),vl (.str kd.1),vl (.lst (kd.2.map Dk))],[vl (.lst (K.map AB)),some (.own (.dK (Cv D++[.inr kd.1]) (vs++[.bl true]))),vl (.str kd.1),vl (.lst (kd.2.map Dk))],FV (by unfold tgN;exact Bi rfl f2) (by unfold tgN;exact Bi rfl f3),?_,D++[kd],R,vl (.str kd.1),vl (.lst (kd.2.map Dk)),vs++[.bl true],?_,by rw [<- eD];simp,e2,AI,AI⟩
     ·refine sq (R5 (FD (EH (CP (De (Aj (AF (Aa (t:=.str kd.1) rfl)) AE) rfl rfl (hnm kd hm))))) rfl) ?_
      refine sq (Bx (Du (b:=false) (LP (AF (Aa (t:=.str kd.1) rfl)) (Ep rfl) ?_)) rfl) ?_
      ·rw [V7 (VI rfl),Hr hnot]
       rfl
      refine sq (Bx (ME Az (GC (Aa rfl) (.inl rfl)) Az (by rw [List.length_map];omega) (by rw [List.length_map];omega)) rfl) ?_
      exact RK (o:=1) (v:=.bl true) (k:=kd.1) rfl Az (AF (Aa rfl)) (any_false hnot) hlen rfl
     ·unfold Cv
      rw [List.map_append]
      rfl)
   (K.map AB) [vl (.lst (K.map AB)),some (.own (.dK [] [])),none,none] ⟨[],K,none,none,[],rfl,rfl,rfl,Ay,Ay⟩
  refine ⟨some (.own (.dK (Cv D) ts)),x2,x3,?_⟩
  refine sq (Bx (ME Az (GC (Aa rfl) (.inl rfl)) Az (by rw [List.length_map];omega) (by rw [List.length_map];omega)) rfl) ?_
  exact sq (fs':=[vl (.lst (K.map AB)),some (.own (.dK [] [])),none,none]) rfl ef
 obtain ⟨x1,x2,x3,all⟩:=all
 unfold Cr Dj
 show (match CW [vl (.lst (K.map AB)),none,none,none] with | .nx τ=>_ | .ret (.t t) τ=>_ | .ret (.nw o) τ=>_ | .ret (.rf i) τ=>_ | .exc c τ=>_ | _=>_)=_
 rw [all]
 rfl
theorem Wc {fa fb:FS->Out Rv} {fs:FS} {a b:Int} (h1:fa fs=.ok (.t (.int a)) fs) (h2:fb fs=.ok (.t (.int b)) fs):asB (Af gGt fa fb) fs=.ok (decide (b < a)) fs:=Du (Ap h1 h2 rfl)
theorem Za {fa fb:FS->Out Rv} {fs:FS} {a b:Int} (h1:fa fs=.ok (.t (.int a)) fs) (h2:fb fs=.ok (.t (.int b)) fs) (h:¬ b < a):asB (Af gGt fa fb) fs=.ok false fs:=by
 rw [Wc h1 h2,decide_eq_false h]
theorem T9 {x y:Str} {fs:FS}:gEq false (.t (.str x)) (.t (.str y)) fs=.ok (.t (.bl (decide (x=y)))) fs:=by
 have q:decide (V.str x=V.str y)=decide (x=y):=by
  by_cases h:x=y
  ·subst h;simp
  ·rw [decide_eq_false h,decide_eq_false (by intro z;cases z;exact h rfl)]
 show (if Lj (V.str x) (V.str y)=true then okT (.bl (if false=true then _ else decide (V.str x=V.str y))) fs else .bad)=_
 rw [if_pos (show Lj (V.str x) (V.str y)=true from rfl),q]
 rfl
theorem Gi {fa fb:FS->Out Rv} {fs:FS} {x y:Str} (h1:fa fs=.ok (.t (.str x)) fs) (h2:fb fs=.ok (.t (.str y)) fs):asB (Af (gEq false) fa fb) fs=.ok (decide (x=y)) fs:=Du (Ap h1 h2 T9)
theorem BO {m:Str} {ps names:List Str} {ks:List Key} {vs:List T} (hn:A8 [vl (.str m)]=.ok (.t (.bl true)) [vl (.str m)]) (hk:(.inr m:Key)∉ks) (h2:ps.length<=2) (hp:∀ p∈ps,p∈names) :
  Bm [vl (.str m),vl (.tup (ps.map T.str)),some (.bor (.dK ks vs)),vl (.lst (names.map T.str))]=.ok (.t .non) [vl (.str m),vl (.tup (ps.map T.str)),some (.bor (.dK ks vs)),vl (.lst (names.map T.str))]:=by
 have all:∃ x4,CV [vl (.str m),vl (.tup (ps.map T.str)),some (.bor (.dK ks vs)),vl (.lst (names.map T.str)),none]=.nx [vl (.str m),vl (.tup (ps.map T.str)),some (.bor (.dK ks vs)),vl (.lst (names.map T.str)),x4]:=by
  unfold CV
  obtain ⟨fs',ef,x4,rfl,f4,_⟩:=Dy (gt:=tgN 4) (body:=(ifS (asB (Af (FR true) (fz (Ab 4)) (Ab 3))) (fun _=>.bad) nxS))
   (fun ts fs=>∃ x4,fs=[vl (.str m),vl (.tup (ps.map T.str)),some (.bor (.dK ks vs)),vl (.lst (names.map T.str)),x4]/\Fre x4/\∀ t∈ts,∃ p∈names,t=.str p)
   (fun t' ts fs h=>by
    obtain ⟨x4,rfl,f4,ht⟩:=h
    obtain ⟨p,mp,rfl⟩:=ht t' List.mem_cons_self
    refine ⟨_,_,(by unfold tgN;exact Bi rfl f4),Bx (Du (b:=false) (Ap (AF (Aa rfl)) (Aa rfl) ?_)) rfl,_,rfl,AI,fun t m=>ht t (List.mem_cons_of_mem _ m)⟩
    rw [Pa,decide_eq_true mp]
    rfl)
   (ps.map T.str) [vl (.str m),vl (.tup (ps.map T.str)),some (.bor (.dK ks vs)),vl (.lst (names.map T.str)),none] ⟨none,rfl,Ay,fun t mt=>by
    rw [List.mem_map] at mt
    obtain ⟨p,mp,rfl⟩:=mt
    exact ⟨p,hp p mp,rfl⟩⟩
  refine ⟨x4,?_⟩
  refine sq (R5 (FD (EH (CP (De (Aj (AF (Aa (t:=.str m) rfl)) AE) rfl rfl hn)))) rfl) ?_
  refine sq (Bx (Du (b:=false) (LP (AF (Aa (t:=.str m) rfl)) (JE rfl) ?_)) rfl) ?_
  ·rw [V7 (W5 rfl),Hr hk]
   rfl
  refine sq (Bx (Za (GC (Aa rfl) (.inr rfl)) Az (by rw [List.length_map];omega)) rfl) ?_
  exact ef
 obtain ⟨x4,all⟩:=all
 unfold Bm Dj
 show (match CV [vl (.str m),vl (.tup (ps.map T.str)),some (.bor (.dK ks vs)),vl (.lst (names.map T.str)),none] with | .nx τ=>_ | .ret (.t t) τ=>_ | .ret (.nw o) τ=>_ | .ret (.rf i) τ=>_ | .exc c τ=>_ | _=>_)=_
 rw [all]
 rfl
theorem BF {m:Str} {ps names:List Str} (hp:∀ p∈ps,p∈names) :
  Bg [vl (.str m),vl (.tup (ps.map T.str)),some (.bor (.lst (names.map T.str)))]=.ok (.t .non) [vl (.str m),vl (.tup (ps.map T.str)),some (.bor (.lst (names.map T.str)))]:=by
 have all:∃ x3,Cz [vl (.str m),vl (.tup (ps.map T.str)),some (.bor (.lst (names.map T.str))),none]=.nx [vl (.str m),vl (.tup (ps.map T.str)),some (.bor (.lst (names.map T.str))),x3]:=by
  unfold Cz
  obtain ⟨fs',ef,x4,rfl,f4,_⟩:=Dy (gt:=tgN 3) (body:=(ifS (asB (Af (FR true) (fz (Ab 3)) (Ab 2))) (fun _=>.bad) nxS))
   (fun ts fs=>∃ x4,fs=[vl (.str m),vl (.tup (ps.map T.str)),some (.bor (.lst (names.map T.str))),x4]/\Fre x4/\∀ t∈ts,∃ p∈names,t=.str p)
   (fun t' ts fs h=>by
    obtain ⟨x4,rfl,f4,ht⟩:=h
    obtain ⟨p,mp,rfl⟩:=ht t' List.mem_cons_self
    refine ⟨_,_,(by unfold tgN;exact Bi rfl f4),Bx (Du (b:=false) (LP (AF (Aa rfl)) (JE rfl) ?_)) rfl,_,rfl,AI,fun t m=>ht t (List.mem_cons_of_mem _ m)⟩
    rw [V6 (W5 rfl),decide_eq_true mp]
    rfl)
   (ps.map T.str) [vl (.str m),vl (.tup (ps.map T.str)),some (.bor (.lst (names.map T.str))),none] ⟨none,rfl,Ay,fun t mt=>by
    rw [List.mem_map] at mt
    obtain ⟨p,mp,rfl⟩:=mt
    exact ⟨p,hp p mp,rfl⟩⟩
  exact ⟨x4,ef⟩
 obtain ⟨x4,all⟩:=all
 unfold Bg Dj
 show (match Cz [vl (.str m),vl (.tup (ps.map T.str)),some (.bor (.lst (names.map T.str))),none] with | .nx τ=>_ | .ret (.t t) τ=>_ | .ret (.nw o) τ=>_ | .ret (.rf i) τ=>_ | .exc c τ=>_ | _=>_)=_
 rw [all]
 rfl
theorem Gj {α:Type} {fe:FS->Out Rv} {f g h:α->T} {rest:FS}:∀ (xs:List α) (x y:Option Sl) (acc:List T),Fre x->Fre y->(∀ a∈xs,fe (vl (f a) :: vl (g a) :: rest)=.ok (.t (h a)) (vl (f a) :: vl (g a) :: rest))->acc.length+xs.length<=big ->
  ∃ x' y',Fre x'/\Fre y'/\Dq (BC 2 (Ar (tgN 0) (Ar (tgN 1) Bs))) EF fe (xs.map fun a=>.tup [f a,g a]) (x :: y :: rest) acc=some (acc++xs.map h,x' :: y' :: rest)
 | [],x,y,acc,hx,hy,_,_=>⟨x,y,hx,hy,by simp [Dq]⟩
 | a :: xs,x,y,acc,hx,hy,he,hl=>by
  obtain ⟨x',y',fx,fy,e⟩:=Gj xs (vl (f a)) (vl (g a)) (acc++[h a]) AI AI (fun t' m=>he t' (List.mem_cons_of_mem _ m)) (by simp at hl ⊢;omega)
  refine ⟨x',y',fx,fy,?_⟩
  have h1:BC 2 (Ar (tgN 0) (Ar (tgN 1) Bs)) (.tup [f a,g a]) (x :: y :: rest)=some (vl (f a) :: vl (g a) :: rest) :=
   FV (by unfold tgN;exact Bi rfl hx) (by unfold tgN;exact Bi rfl hy)
  have h2:=he a List.mem_cons_self
  have h3:acc.length < big:=by simp at hl;omega
  rw [List.map_cons]
  simp only [Dq,h1,EF,h2,if_pos h3,e]
  simp
def mks (K:Kd):List Str:=K.flatMap fun kd=>kd.2.map (·.1)
def Cq (K:Kd):List Key:=(mks K).map fun m=>(.inr m:Key)
structure Well (K:Kd):Prop where
 lo:1<=K.length
 hi:K.length<=4
 nd:(K.map (·.1)).Nodup
 nm:∀ kd∈K,A8 [vl (.str kd.1)]=.ok (.t (.bl true)) [vl (.str kd.1)]
 rw:∀ kd∈K,1<=kd.2.length/\kd.2.length<=4
 mnd:(mks K).Nodup
 mnm:∀ m∈mks K,A8 [vl (.str m)]=.ok (.t (.bl true)) [vl (.str m)]
 mln:∀ m∈mks K,m.length<=12
 two:∀ kd∈K,∀ r∈kd.2,r.2.length<=2
 prt:∀ kd∈K,∀ r∈kd.2,∀ x∈r.2,x∈K.map (·.1)
 gr:∀ D kd R,K=D++kd :: R->∀ r,kd.2[0]?=some r->∀ x∈r.2,x∈D.map (·.1)
theorem TB {K:Kd} {kd:Str×List (Str×List Str)} {r:Str×List Str} (h1:kd∈K) (h2:r∈kd.2):r.1∈mks K:=List.mem_flatMap.mpr ⟨kd,h1,List.mem_map.mpr ⟨r,h2,rfl⟩⟩
theorem OG {K:Kd} (h4:K.length<=4) (hr:∀ kd∈K,kd.2.length<=4):(mks K).length<=16:=by
 have:∀ K:Kd,(∀ kd∈K,kd.2.length<=4)->(mks K).length<=4 * K.length:=by
  intro K
  induction K with
  | nil=>intro _;simp [mks]
  | cons kd K ih =>
   intro h
   have:=ih fun kd m=>h kd (List.mem_cons_of_mem _ m)
   have h1:=h kd List.mem_cons_self
   unfold mks at this ⊢
   rw [List.flatMap_cons,List.length_append,List.length_map,List.length_cons]
   omega
 have:=this K hr
 omega
theorem Jv (D R:Kd):mks (D++R)=mks D++mks R:=by unfold mks;rw [List.flatMap_append]
theorem Em (kd:Str×List (Str×List Str)) (R:Kd):mks (kd :: R)=kd.2.map (·.1)++mks R:=by unfold mks;rw [List.flatMap_cons]
theorem Qt {rs:List (Str×List Str)} (h:(rs.map (·.1)).Nodup) {r r':Str×List Str} (m:r∈rs) (m':r'∈rs) (e:r.1=r'.1):r=r':=by
 induction rs with
 | nil=>cases m
 | cons a rs ih =>
  rw [List.map_cons,List.nodup_cons] at h
  rcases List.mem_cons.mp m with q | q
  ·rcases List.mem_cons.mp m' with q' | q'
   ·rw [q,q']
   ·exact (h.1 (List.mem_map.mpr ⟨r',q',by rw [<- e,q]⟩)).elim
  ·rcases List.mem_cons.mp m' with q' | q'
   ·exact (h.1 (List.mem_map.mpr ⟨r,q,by rw [e,q']⟩)).elim
   ·exact ih h.2 q q'
def D4 (r:Str×List Str):Key:=.inr r.1
theorem Lu {sc:T} {names above:List Str} {ks0:List Key} {vs0:List T} {k first:Str} {rows:List (Str×List Str)} {x7 x8:Option Sl} (f7:Fre x7) (f8:Fre x8)
  (hnm:∀ r∈rows,A8 [vl (.str r.1)]=.ok (.t (.bl true)) [vl (.str r.1)]) (hnd:(ks0++rows.map D4).Nodup) (hlen:ks0.length+rows.length < 1000) (h2:∀ r∈rows,r.2.length<=2) (hp:∀ r∈rows,∀ x∈r.2,x∈names) (hg:∀ r∈rows,r.1=first->∀ x∈r.2,x∈above) :
  ∃ (y7 y8:Option Sl) (vs:List T),Fre y7/\Fre y8/\CQ (BC 2 (Ar (tgN 7) (Ar (tgN 8) Bs))) (AN (Bb (Am (AA 4 Bm) (Ah (fz (Ab 7)) (Ah (fz (Ab 8)) (Ah (Ab 3) (Ah (fz (Ab 1)) Ak))))))
  (AN (ifS (asB (Af (gEq false) (Ab 7) (Ab 6))) (Bb (Am (AA 3 Bg) (Ah (fz (Ab 7)) (Ah (fz (Ab 8)) (Ah (Ab 2) Ak))))) nxS)
  (FX (gc (.bl true)) (Ab 3) (fz (Ab 7))))) (rows.map Dk) [vl sc,vl (.lst (names.map T.str)),some (.own (.lst (above.map T.str))),some (.own (.dK ks0 vs0)),vl (.str k),vl (.lst (rows.map Dk)),vl (.str first),x7,x8] =
   .nx [vl sc,vl (.lst (names.map T.str)),some (.own (.lst (above.map T.str))),some (.own (.dK (ks0++rows.map D4) vs)),vl (.str k),vl (.lst (rows.map Dk)),vl (.str first),y7,y8]:=by
 obtain ⟨fs',ef,D,R,y7,y8,vs,rfl,eD,eR,g7,g8⟩:=Dy (gt:=BC 2 (Ar (tgN 7) (Ar (tgN 8) Bs))) (body:=AN (Bb (Am (AA 4 Bm) (Ah (fz (Ab 7)) (Ah (fz (Ab 8)) (Ah (Ab 3) (Ah (fz (Ab 1)) Ak))))))
  (AN (ifS (asB (Af (gEq false) (Ab 7) (Ab 6))) (Bb (Am (AA 3 Bg) (Ah (fz (Ab 7)) (Ah (fz (Ab 8)) (Ah (Ab 2) Ak))))) nxS)
  (FX (gc (.bl true)) (Ab 3) (fz (Ab 7)))))
  (fun ts fs=>∃ (D R:List (Str×List Str)) (y7 y8:Option Sl) (vs:List T),fs=[vl sc,vl (.lst (names.map T.str)),some (.own (.lst (above.map T.str))),some (.own (.dK (ks0++D.map D4) vs)),vl (.str k),vl (.lst (rows.map Dk)),vl (.str first),y7,y8]/\D++R=rows/\ts=R.map Dk/\Fre y7/\Fre y8)
  (fun t' ts fs h=>by
   obtain ⟨D,R,y7,y8,vs,rfl,eD,eR,g7,g8⟩:=h
   cases R with
   | nil=>cases eR
   | cons r R =>
    rw [List.map_cons] at eR
    obtain ⟨e1,e2⟩:=List.cons.inj eR
    subst e1
    have hm:r∈rows:=by rw [<- eD];simp
    have hnot:(.inr r.1:Key)∉ks0++D.map D4:=by
     rw [<- eD,List.map_append,List.map_cons,<- List.append_assoc,List.nodup_append] at hnd
     intro m
     exact hnd.2.2 _ m (D4 r) (by simp) rfl
    have hl:(ks0++D.map D4).length < big:=by
     have:=congrArg List.length eD
     simp at this
     rw [List.length_append,List.length_map]
     show _ < 1000000
     omega
    refine ⟨[vl sc,vl (.lst (names.map T.str)),some (.own (.lst (above.map T.str))),some (.own (.dK (ks0++D.map D4) vs)),vl (.str k),vl (.lst (rows.map Dk)),vl (.str first),vl (.str r.1),vl (.tup (r.2.map T.str))],
     [vl sc,vl (.lst (names.map T.str)),some (.own (.lst (above.map T.str))),some (.own (.dK (ks0++D.map D4++[.inr r.1]) (vs++[.bl true]))),vl (.str k),vl (.lst (rows.map Dk)),vl (.str first),vl (.str r.1),vl (.tup (r.2.map T.str))],FV (by unfold tgN;exact Bi rfl g7) (by unfold tgN;exact Bi rfl g8),?_,D++[r],R,vl (.str r.1),vl (.tup (r.2.map T.str)),vs++[.bl true],?_,by rw [<- eD];simp,e2,AI,AI⟩
    ·refine sq (JN (DZ (Aj (AF (Aa (t:=.str r.1) rfl)) (Aj (AF (Aa (t:=.tup (r.2.map T.str)) rfl)) (Aj (Ep (i:=3) rfl) (Aj (AF (Aa (t:=.lst (names.map T.str)) rfl)) AE)))) rfl (by rw [show Dm _ _=[3] from rfl];simp) (BO (hnm r hm) hnot (h2 r hm) (hp r hm)) rfl)) ?_
     refine sq (fs':=[vl sc,vl (.lst (names.map T.str)),some (.own (.lst (above.map T.str))),some (.own (.dK (ks0++D.map D4) vs)),vl (.str k),vl (.lst (rows.map Dk)),vl (.str first),vl (.str r.1),vl (.tup (r.2.map T.str))]) ?_ ?_
     ·by_cases hf:r.1=first
      ·refine EB ((Gi (Aa (t:=.str r.1) rfl) (Aa (t:=.str first) rfl)).trans (by rw [decide_eq_true hf])) ?_
       exact JN (DZ (Aj (AF (Aa (t:=.str r.1) rfl)) (Aj (AF (Aa (t:=.tup (r.2.map T.str)) rfl)) (Aj (Ep (i:=2) rfl) AE))) rfl (by rw [show Dm _ _=[2] from rfl];simp) (BF (hg r hm hf)) rfl)
      ·exact Bx ((Gi (Aa (t:=.str r.1) rfl) (Aa (t:=.str first) rfl)).trans (by rw [decide_eq_false hf])) rfl
     ·exact RK (o:=3) (v:=.bl true) (k:=r.1) rfl Az (AF (Aa rfl)) (any_false hnot) hl rfl
    ·rw [List.map_append,<- List.append_assoc]
     rfl)
  (rows.map Dk) [vl sc,vl (.lst (names.map T.str)),some (.own (.lst (above.map T.str))),some (.own (.dK ks0 vs0)),vl (.str k),vl (.lst (rows.map Dk)),vl (.str first),x7,x8] ⟨[],rows,x7,x8,vs0,by simp,rfl,rfl,f7,f8⟩
 have hR:R=[]:=by
  cases R with
  | nil=>rfl
  | cons a b=>cases eR
 subst hR
 rw [List.append_nil] at eD
 subst eD
 exact ⟨y7,y8,vs,g7,g8,ef⟩
theorem GA (D:Kd) (kd:Str×List (Str×List Str)):Cq (D++[kd])=Cq D++kd.2.map D4:=by
 unfold Cq
 rw [Jv,Em,List.map_append,List.map_append,List.map_map]
 simp [mks,D4,Function.comp_def]
theorem Ky {xs:List Str} (h:xs.Nodup):(xs.map fun m=>(.inr m:Key)).Nodup:=by
 induction xs with
 | nil=>simp
 | cons x xs ih =>
  rw [List.nodup_cons] at h
  rw [List.map_cons,List.nodup_cons]
  refine ⟨fun m=>?_,ih h.2⟩
  rw [List.mem_map] at m
  obtain ⟨y,my,e⟩:=m
  have:y=x:=by simpa using e
  exact h.1 (this▸my)
theorem Well.part {K:Kd} (W:Well K) {D R:Kd} {kd:Str×List (Str×List Str)} (e:D++kd :: R=K):(Cq D++kd.2.map D4).Nodup/\(Cq D).length+kd.2.length < 1000/\kd∈K/\(kd.2.map (·.1)).Nodup:=by
 have h:=W.mnd
 have hl:=OG W.hi fun kd m=>(W.rw kd m).2
 rw [<- e,Jv,Em] at h hl
 refine ⟨?_,?_,by rw [<- e];simp,?_⟩
 ·rw [<- GA]
  refine Ky ?_
  rw [Jv,Em]
  simp only [mks,List.flatMap_nil,List.append_nil]
  rw [<- List.append_assoc] at h
  exact (List.nodup_append.mp h).1
 ·unfold Cq
  rw [List.length_map]
  simp at hl
  omega
 ·exact (List.nodup_append.mp (List.nodup_append.mp h).2.1).1
theorem BE {K:Kd} (W:Well K):BY [vl (.lst (K.map AB))]=.ok (.t .non) [vl (.lst (K.map AB))]:=by
 have all:∃ x1 x2 x3 x4 x5 x6 x7 x8,Cy [vl (.lst (K.map AB)),none,none,none,none,none,none,none,none]=.nx [vl (.lst (K.map AB)),x1,x2,x3,x4,x5,x6,x7,x8]:=by
  unfold Cy
  have c1:BN false [none,none] (itU (fz (Ab 0))) (BC 2 (Ar (tgN 0) (Ar (tgN 1) Bs))) EF (fz (Ab 0)) [vl (.lst (K.map AB)),none,none,none,none,none,none,none,none]=.ok (.t (.lst ((K.map (·.1)).map T.str))) [vl (.lst (K.map AB)),none,none,none,none,none,none,none,none]:=by
   obtain ⟨x,y,_,_,e⟩:=Gj (fe:=fz (Ab 0)) (f:=fun kd:Str×List (Str×List Str)=>.str kd.1) (g:=fun kd=>.lst (kd.2.map Dk)) (h:=fun kd=>.str kd.1) (rest:=[]) K none none [] Ay Ay (fun kd _=>AF (Aa rfl)) (by have:=W.hi;show 0+_<=1000000;omega)
   have:=CT (src:=[none,none]) (fi:=itU (fz (Ab 0))) (fs:=[vl (.lst (K.map AB)),none,none,none,none,none,none,none,none]) (ts:=K.map AB) rfl ⟨by rw [show Dm [vl (.lst (K.map AB)),none,none,none,none,none,none,none,none] _=[] from rfl];exact List.nodup_nil,by rfl⟩ e (A4 rfl)
   rw [this,List.nil_append,List.map_map]
   rfl
  have s1:AY 1 (BN false [none,none] (itU (fz (Ab 0))) (BC 2 (Ar (tgN 0) (Ar (tgN 1) Bs))) EF (fz (Ab 0))) [vl (.lst (K.map AB)),none,none,none,none,none,none,none,none]=.nx [vl (.lst (K.map AB)),vl (.lst ((K.map (·.1)).map T.str)),none,none,none,none,none,none,none]:=Bt c1 rfl
  generalize hN:K.map (·.1)=names at s1
  obtain ⟨fs',ef,D,R,x4,x5,x6,x7,x8,vs,rfl,eD,eR,g4,g5,g6,g7,g8⟩:=Dy (gt:=BC 2 (Ar (tgN 4) (Ar (tgN 5) Bs))) (body:=(AN (AY 6 (Af Bd (Af Bd (Ab 5) (gc (.int 0))) (gc (.int 0))))
  (AN (Ef (itU (fz (Ab 5))) (BC 2 (Ar (tgN 7) (Ar (tgN 8) Bs))) (AN (Bb (Am (AA 4 Bm) (Ah (fz (Ab 7)) (Ah (fz (Ab 8)) (Ah (Ab 3) (Ah (fz (Ab 1)) Ak))))))
  (AN (ifS (asB (Af (gEq false) (Ab 7) (Ab 6))) (Bb (Am (AA 3 Bg) (Ah (fz (Ab 7)) (Ah (fz (Ab 8)) (Ah (Ab 2) Ak))))) nxS)
  (FX (gc (.bl true)) (Ab 3) (fz (Ab 7))))))
  (Bb (AX Er (Ab 2) (Ac (fz (Ab 4)) Ak))))))
   (fun ts fs=>∃ (D R:Kd) (x4 x5 x6 x7 x8:Option Sl) (vs:List T),fs=[vl (.lst (K.map AB)),vl (.lst (names.map T.str)),some (.own (.lst ((D.map (·.1)).map T.str))),some (.own (.dK (Cq D) vs)),x4,x5,x6,x7,x8]/\D++R=K/\ts=R.map AB/\Fre x4/\Fre x5/\Fre x6/\Fre x7/\Fre x8)
   (fun t' ts fs h=>by
    obtain ⟨D,R,x4,x5,x6,x7,x8,vs,rfl,eD,eR,g4,g5,g6,g7,g8⟩:=h
    cases R with
    | nil=>cases eR
    | cons kd R =>
     rw [List.map_cons] at eR
     obtain ⟨e1,e2⟩:=List.cons.inj eR
     subst e1
     obtain ⟨w1,w2,hm,w3⟩:=W.part eD
     obtain ⟨r0,rs,er⟩:∃ r0 rs,kd.2=r0 :: rs:=by
      have:=(W.rw kd hm).1
      cases h:kd.2 with
      | nil=>rw [h] at this;simp at this
      | cons a b=>exact ⟨a,b,rfl⟩
     obtain ⟨y7,y8,vs',f7,f8,el⟩:=Lu (sc:=.lst (K.map AB)) (names:=names) (above:=D.map (·.1)) (ks0:=Cq D) (vs0:=vs) (k:=kd.1) (first:=r0.1) (rows:=kd.2) (x7:=x7) (x8:=x8) g7 g8 (fun r m=>W.mnm _ (TB hm m)) w1 w2 (W.two kd hm) (fun r m x hx=>hN▸W.prt kd hm r m x hx) (fun r m e x hx=>by
      have:r=r0:=Qt w3 m (by rw [er];simp) e
      subst this
      exact W.gr D kd R eD.symm r (by rw [er];rfl) x hx)
     refine ⟨[vl (.lst (K.map AB)),vl (.lst (names.map T.str)),some (.own (.lst ((D.map (·.1)).map T.str))),some (.own (.dK (Cq D) vs)),vl (.str kd.1),vl (.lst (kd.2.map Dk)),x6,x7,x8],[vl (.lst (K.map AB)),vl (.lst (names.map T.str)),some (.own (.lst ((D.map (·.1)).map T.str++[.str kd.1]))),some (.own (.dK (Cq D++kd.2.map D4) vs')),vl (.str kd.1),vl (.lst (kd.2.map Dk)),vl (.str r0.1),y7,y8],FV (by unfold tgN;exact Bi rfl g4) (by unfold tgN;exact Bi rfl g5),?_,D++[kd],R,vl (.str kd.1),vl (.lst (kd.2.map Dk)),vl (.str r0.1),y7,y8,vs',?_,by rw [<- eD];simp,e2,AI,AI,AI,f7,f8⟩
     ·have q1:atI (kd.2.map Dk) 0=some (Dk r0):=AW (j:=0) (by rw [er];rfl)
      refine sq (Bt (Ap (Ap (Aa rfl) Az (Bv rfl q1)) Az (show Bd (.t (Dk r0)) (.t (.int 0)) _=.ok (.t (.str r0.1)) _ from rfl)) (Bi rfl g6)) ?_
      refine sq (show Ef _ _ _ _=_ from el) ?_
      exact ML (i:=2) rfl (AF (Aa rfl)) (by
       have:=congrArg List.length eD
       have h4:=W.hi
       simp at this
       rw [List.length_map,List.length_map]
       show _ < 1000000
       omega) rfl
     ·rw [GA,List.map_append,List.map_append]
      rfl)
   (K.map AB) [vl (.lst (K.map AB)),vl (.lst (names.map T.str)),some (.own (.lst [])),some (.own (.dK [] [])),none,none,none,none,none] ⟨[],K,none,none,none,none,none,[],rfl,rfl,rfl,Ay,Ay,Ay,Ay,Ay⟩
  refine ⟨vl (.lst (names.map T.str)),some (.own (.lst ((D.map (·.1)).map T.str))),some (.own (.dK (Cq D) vs)),x4,x5,x6,x7,x8,?_⟩
  refine sq s1 ?_
  refine sq (fs':=[vl (.lst (K.map AB)),vl (.lst (names.map T.str)),some (.own (.lst [])),none,none,none,none,none,none]) rfl ?_
  exact sq (fs':=[vl (.lst (K.map AB)),vl (.lst (names.map T.str)),some (.own (.lst [])),some (.own (.dK [] [])),none,none,none,none,none]) rfl ef
 obtain ⟨x1,x2,x3,x4,x5,x6,x7,x8,all⟩:=all
 unfold BY Dj
 show (match Cy [vl (.lst (K.map AB)),none,none,none,none,none,none,none,none] with | .nx τ=>_ | .ret (.t t) τ=>_ | .ret (.nw o) τ=>_ | .ret (.rf i) τ=>_ | .exc c τ=>_ | _=>_)=_
 rw [all]
 rfl
theorem Pq {C:Addr} {f:Str} {i:Nat} {fv:FS->Out Rv} {fs fs1 fs':FS} {gs gs':List Str} {os os':List FO} {o:FO} (hv:fv fs=.ok (.nw o) fs1) (h0:fs1[i]?=some (some (.bor (.ins C gs os)))) (hl:gs.length < 900) (hp:Im gs os f o=some (gs',os')) (e:fs1.set i (some (.bor (.ins C gs' os')))=fs'):UP C f i fv fs=.nx fs':=by
 unfold UP
 rw [hv]
 simp only [SO.of,Xb,W5 h0]
 rw [if_pos ⟨trivial,hl⟩,hp]
 simp only
 unfold FL.putAt
 rw [h0]
 simp only [Sl.put,e]
theorem LG {C:Addr} {f:Str} {i j:Nat} {fv:FS->Out Rv} {fs fs1 fs':FS} {gs:List Str} {os:List FO} {ks:List Key} {ts:List T} {k:Str} {t:T} (hv:fv fs=.ok (.t t) fs1) (h0:fs1[i]?=some (some (.bor (.ins C gs os)))) (hj:fs1[j]?=some (vl (.str k))) (hf:EA gs os f=some (.dK ks ts)) (hn:(.inr k:Key)∉ks) (hl:ks.length < big)
  (e:fs1.set i (some (.bor (.ins C gs (Gu gs os f (.dK (ks++[.inr k]) (ts++[t]))))))=fs'):Eg C f i j fv fs=.nx fs':=by
 have h3:Jj ks ts (.inr k:Key) t=(ks++[.inr k],ts++[t]):=by
  unfold Jj
  rw [any_false hn]
  rfl
 unfold Eg
 rw [hv]
 simp only [SO.of,W5 h0,hj,MU,hf,if_true,hl,h3]
 unfold FL.putAt
 rw [h0]
 simp only [Sl.put,e]
def Kg (rows:List (Str×List Str)):List T:=rows.map fun r=>T.tup (r.2.map T.str)
def Lm (K:Kd):List T:=K.flatMap fun kd=>Kg kd.2
def EO (K:Kd):List T:=K.map fun kd=>T.lst ((kd.2.map (·.1)).map T.str)
theorem Oh (D:Kd) (kd:Str×List (Str×List Str)):Lm (D++[kd])=Lm D++Kg kd.2:=by unfold Lm;simp
theorem OZ {C:Addr} {A B H:Str} (hAB:A≠B) (hAH:A≠H) (hBH:B≠H) {oA:FO} {sc mk:T} {k:Str} {rows:List (Str×List Str)} {ks0:List Key} {ps0 hs0:List T} {x4 x5:Option Sl} (f4:Fre x4) (f5:Fre x5) (hnd:(ks0++rows.map D4).Nodup) (hlen:ks0.length+rows.length < 1000) :
  ∃ (y4 y5:Option Sl) (hs:List T),Fre y4/\Fre y5/\CQ (BC 2 (Ar (tgN 4) (Ar (tgN 5) Bs))) (AN (Eg C B 0 4 (Am CN (Ac (Ab 5) Ak)))
  (Eg C H 0 4 (fz (Ab 2)))) (rows.map Dk) [some (.bor (.ins C [A,B,H] [oA,.dK ks0 ps0,.dK ks0 hs0])),vl sc,vl (.str k),vl mk,x4,x5] =
   .nx [some (.bor (.ins C [A,B,H] [oA,.dK (ks0++rows.map D4) (ps0++Kg rows),.dK (ks0++rows.map D4) hs])),vl sc,vl (.str k),vl mk,y4,y5]:=by
 obtain ⟨fs',ef,D,R,y4,y5,hs,rfl,eD,eR,g4,g5⟩:=Dy (gt:=BC 2 (Ar (tgN 4) (Ar (tgN 5) Bs))) (body:=AN (Eg C B 0 4 (Am CN (Ac (Ab 5) Ak)))
  (Eg C H 0 4 (fz (Ab 2))))
  (fun ts fs=>∃ (D R:List (Str×List Str)) (y4 y5:Option Sl) (hs:List T),fs=[some (.bor (.ins C [A,B,H] [oA,.dK (ks0++D.map D4) (ps0++Kg D),.dK (ks0++D.map D4) hs])),vl sc,vl (.str k),vl mk,y4,y5]/\D++R=rows/\ts=R.map Dk/\Fre y4/\Fre y5)
  (fun t' ts fs h=>by
   obtain ⟨D,R,y4,y5,hs,rfl,eD,eR,g4,g5⟩:=h
   cases R with
   | nil=>cases eR
   | cons r R =>
    rw [List.map_cons] at eR
    obtain ⟨e1,e2⟩:=List.cons.inj eR
    subst e1
    have hnot:(.inr r.1:Key)∉ks0++D.map D4:=by
     rw [<- eD,List.map_append,List.map_cons,<- List.append_assoc,List.nodup_append] at hnd
     intro m
     exact hnd.2.2 _ m (D4 r) (by simp) rfl
    have hl:(ks0++D.map D4).length < big:=by
     have:=congrArg List.length eD
     simp at this
     rw [List.length_append,List.length_map]
     show _ < 1000000
     omega
    have v1:EA [A,B,H] [oA,.dK (ks0++D.map D4) (ps0++Kg D),.dK (ks0++D.map D4) hs] B=some (.dK (ks0++D.map D4) (ps0++Kg D)):=by
     simp [EA,Ne.symm hAB]
    have s1:Gu [A,B,H] [oA,.dK (ks0++D.map D4) (ps0++Kg D),.dK (ks0++D.map D4) hs] B (.dK (ks0++D.map D4++[.inr r.1]) (ps0++Kg D++[.tup (r.2.map T.str)]))=[oA,.dK (ks0++D.map D4++[.inr r.1]) (ps0++Kg D++[.tup (r.2.map T.str)]),.dK (ks0++D.map D4) hs]:=by
     simp [Gu,Ne.symm hAB]
    have v2:EA [A,B,H] [oA,.dK (ks0++D.map D4++[.inr r.1]) (ps0++Kg D++[.tup (r.2.map T.str)]),.dK (ks0++D.map D4) hs] H=some (.dK (ks0++D.map D4) hs):=by
     simp [EA,Ne.symm hAH,Ne.symm hBH]
    have s2:Gu [A,B,H] [oA,.dK (ks0++D.map D4++[.inr r.1]) (ps0++Kg D++[.tup (r.2.map T.str)]),.dK (ks0++D.map D4) hs] H (.dK (ks0++D.map D4++[.inr r.1]) (hs++[.str k]))=[oA,.dK (ks0++D.map D4++[.inr r.1]) (ps0++Kg D++[.tup (r.2.map T.str)]),.dK (ks0++D.map D4++[.inr r.1]) (hs++[.str k])]:=by
     simp [Gu,Ne.symm hAH,Ne.symm hBH]
    refine ⟨[some (.bor (.ins C [A,B,H] [oA,.dK (ks0++D.map D4) (ps0++Kg D),.dK (ks0++D.map D4) hs])),vl sc,vl (.str k),vl mk,vl (.str r.1),vl (.tup (r.2.map T.str))],[some (.bor (.ins C [A,B,H] [oA,.dK (ks0++D.map D4++[.inr r.1]) (ps0++Kg D++[.tup (r.2.map T.str)]),.dK (ks0++D.map D4++[.inr r.1]) (hs++[.str k])])),vl sc,vl (.str k),vl mk,vl (.str r.1),vl (.tup (r.2.map T.str))],FV (by unfold tgN;exact Bi rfl g4) (by unfold tgN;exact Bi rfl g5),?_,D++[r],R,vl (.str r.1),vl (.tup (r.2.map T.str)),hs++[.str k],?_,by rw [<- eD];simp,e2,AI,AI⟩
    ·refine sq (LG (t:=.tup (r.2.map T.str)) (Di (Av (Aa rfl) rfl) rfl) rfl rfl v1 hnot hl rfl) ?_
     rw [s1]
     refine LG (t:=.str k) (AF (Aa rfl)) rfl rfl v2 hnot hl ?_
     rw [s2]
     rfl
    ·unfold Kg
     rw [List.map_append,List.map_append,<- List.append_assoc,<- List.append_assoc]
     rfl)
  (rows.map Dk) [some (.bor (.ins C [A,B,H] [oA,.dK ks0 ps0,.dK ks0 hs0])),vl sc,vl (.str k),vl mk,x4,x5] ⟨[],rows,x4,x5,hs0,by simp [Kg],rfl,rfl,f4,f5⟩
 have hR:R=[]:=by
  cases R with
  | nil=>rfl
  | cons a b=>cases eR
 subst hR
 rw [List.append_nil] at eD
 subst eD
 exact ⟨y4,y5,hs,g4,g5,ef⟩
theorem Ml:("makers_by_kind":Str)≠("parts_by_maker":Str)/\("makers_by_kind":Str)≠("home_by_maker":Str)/\("parts_by_maker":Str)≠("home_by_maker":Str):=by decide +kernel
def NY (C:Addr) (K:Kd) (hs:List T):FO:=.ins C ["makers_by_kind","parts_by_maker","home_by_maker"] [.dK (Cv K) (EO K),.dK (Cq K) (Lm K),.dK (Cq K) hs]
theorem Iz {C:Addr} {K:Kd} (W:Well K):∃ hs,Cj C [some (.bor (.ins C [] [])),vl (.lst (K.map AB))]=.ok (.t .non) [some (.bor (NY C K hs)),vl (.lst (K.map AB))]:=by
 have hck:=BP W.lo W.hi W.nd W.nm W.rw
 have hcm:=BE W
 have all:∃ hs x2 x3 x4 x5,Ds C [some (.bor (.ins C [] [])),vl (.lst (K.map AB)),none,none,none,none]=.nx [some (.bor (NY C K hs)),vl (.lst (K.map AB)),x2,x3,x4,x5]:=by
  unfold Ds NY
  obtain ⟨hAB,hAH,hBH⟩:=Ml
  generalize ("makers_by_kind":Str)=A at hAB hAH ⊢
  generalize ("parts_by_maker":Str)=B at hAB hBH ⊢
  generalize ("home_by_maker":Str)=H at hAH hBH ⊢
  obtain ⟨fs',ef,D,R,x2,x3,x4,x5,hs,rfl,eD,eR,g2,g3,g4,g5⟩:=Dy (gt:=BC 2 (Ar (tgN 2) (Ar (tgN 3) Bs))) (body:=(AN (Eg C A 0 2 (BN false [none,none] (itU (fz (Ab 3))) (BC 2 (Ar (tgN 0) (Ar (tgN 1) Bs))) EF (fz (Ab 0))))
  (Ef (itU (fz (Ab 3))) (BC 2 (Ar (tgN 4) (Ar (tgN 5) Bs))) (AN (Eg C B 0 4 (Am CN (Ac (Ab 5) Ak)))
  (Eg C H 0 4 (fz (Ab 2)))))))
   (fun ts fs=>∃ (D R:Kd) (x2 x3 x4 x5:Option Sl) (hs:List T),fs=[some (.bor (.ins C [A,B,H] [.dK (Cv D) (EO D),.dK (Cq D) (Lm D),.dK (Cq D) hs])),vl (.lst (K.map AB)),x2,x3,x4,x5]/\D++R=K/\ts=R.map AB/\Fre x2/\Fre x3/\Fre x4/\Fre x5)
   (fun t' ts fs h=>by
    obtain ⟨D,R,x2,x3,x4,x5,hs,rfl,eD,eR,g2,g3,g4,g5⟩:=h
    cases R with
    | nil=>cases eR
    | cons kd R =>
     rw [List.map_cons] at eR
     obtain ⟨e1,e2⟩:=List.cons.inj eR
     subst e1
     obtain ⟨w1,w2,hm,w3⟩:=W.part eD
     have hnd:=W.nd
     have hnot:(.inr kd.1:Key)∉Cv D:=by
      intro m
      unfold Cv at m
      rw [List.mem_map] at m
      obtain ⟨kd',m',e'⟩:=m
      have e'':kd'.1=kd.1:=by simpa using e'
      rw [<- eD,List.map_append,List.nodup_append] at hnd
      exact hnd.2.2 kd'.1 (List.mem_map.mpr ⟨kd',m',rfl⟩) kd.1 (by simp) e''
     have hlen:(Cv D).length < big:=by
      unfold Cv
      rw [List.length_map]
      have:=congrArg List.length eD
      have h4:=W.hi
      simp at this
      show D.length < 1000000
      omega
     have v1:EA [A,B,H] [.dK (Cv D) (EO D),.dK (Cq D) (Lm D),.dK (Cq D) hs] A=some (.dK (Cv D) (EO D)):=by simp [EA]
     have s1:Gu [A,B,H] [.dK (Cv D) (EO D),.dK (Cq D) (Lm D),.dK (Cq D) hs] A (.dK (Cv D++[.inr kd.1]) (EO D++[.lst ((kd.2.map (·.1)).map T.str)]))=[.dK (Cv D++[.inr kd.1]) (EO D++[.lst ((kd.2.map (·.1)).map T.str)]),.dK (Cq D) (Lm D),.dK (Cq D) hs]:=by simp [Gu]
     have c1:BN false [none,none] (itU (fz (Ab 3))) (BC 2 (Ar (tgN 0) (Ar (tgN 1) Bs))) EF (fz (Ab 0)) [some (.bor (.ins C [A,B,H] [.dK (Cv D) (EO D),.dK (Cq D) (Lm D),.dK (Cq D) hs])),vl (.lst (K.map AB)),vl (.str kd.1),vl (.lst (kd.2.map Dk)),x4,x5]=.ok (.t (.lst ((kd.2.map (·.1)).map T.str))) [some (.bor (.ins C [A,B,H] [.dK (Cv D) (EO D),.dK (Cq D) (Lm D),.dK (Cq D) hs])),vl (.lst (K.map AB)),vl (.str kd.1),vl (.lst (kd.2.map Dk)),x4,x5]:=by
      obtain ⟨x,y,_,_,e⟩:=Gj (fe:=fz (Ab 0)) (f:=fun r:Str×List Str=>.str r.1) (g:=fun r=>.tup (r.2.map T.str)) (h:=fun r=>.str r.1) (rest:=[]) kd.2 none none [] Ay Ay (fun kd _=>AF (Aa rfl)) (by have:=(W.rw kd hm).2;show 0+_<=1000000;omega)
      have:=CT (src:=[none,none]) (fi:=itU (fz (Ab 3))) (fs:=[some (.bor (.ins C [A,B,H] [.dK (Cv D) (EO D),.dK (Cq D) (Lm D),.dK (Cq D) hs])),vl (.lst (K.map AB)),vl (.str kd.1),vl (.lst (kd.2.map Dk)),x4,x5]) (ts:=kd.2.map Dk) rfl ⟨by rw [show Dm _ (List.map _ [none,none])=[] from rfl];exact List.nodup_nil,by rfl⟩ e (A4 rfl)
      rw [this,List.nil_append,List.map_map]
      rfl
     obtain ⟨y4,y5,hs',f4,f5,el⟩:=OZ (C:=C) hAB hAH hBH (oA:=.dK (Cv D++[.inr kd.1]) (EO D++[.lst ((kd.2.map (·.1)).map T.str)])) (sc:=.lst (K.map AB)) (mk:=.lst (kd.2.map Dk)) (k:=kd.1) (rows:=kd.2) (ks0:=Cq D) (ps0:=Lm D) (hs0:=hs) (x4:=x4) (x5:=x5) g4 g5 w1 w2
     refine ⟨[some (.bor (.ins C [A,B,H] [.dK (Cv D) (EO D),.dK (Cq D) (Lm D),.dK (Cq D) hs])),vl (.lst (K.map AB)),vl (.str kd.1),vl (.lst (kd.2.map Dk)),x4,x5],[some (.bor (.ins C [A,B,H] [.dK (Cv D++[.inr kd.1]) (EO D++[.lst ((kd.2.map (·.1)).map T.str)]),.dK (Cq D++kd.2.map D4) (Lm D++Kg kd.2),.dK (Cq D++kd.2.map D4) hs'])),vl (.lst (K.map AB)),vl (.str kd.1),vl (.lst (kd.2.map Dk)),y4,y5],FV (by unfold tgN;exact Bi rfl g2) (by unfold tgN;exact Bi rfl g3),?_,D++[kd],R,vl (.str kd.1),vl (.lst (kd.2.map Dk)),y4,y5,hs',?_,by rw [<- eD];simp,e2,AI,AI,f4,f5⟩
     ·refine sq (LG (t:=.lst ((kd.2.map (·.1)).map T.str)) c1 rfl rfl v1 hnot hlen rfl) ?_
      rw [s1]
      exact el
     ·rw [GA,Oh]
      unfold Cv EO
      rw [List.map_append,List.map_append]
      rfl)
   (K.map AB) [some (.bor (.ins C [A,B,H] [.dK [] [],.dK [] [],.dK [] []])),vl (.lst (K.map AB)),none,none,none,none] ⟨[],K,none,none,none,none,[],rfl,rfl,rfl,Ay,Ay,Ay,Ay⟩
  have hR:R=[]:=by
   cases R with
   | nil=>rfl
   | cons a b=>cases eR
  subst hR
  rw [List.append_nil] at eD
  subst eD
  refine ⟨hs,x2,x3,x4,x5,?_⟩
  refine sq (JN (De (Aj (AF (Aa (t:=.lst (D.map AB)) rfl)) AE) rfl rfl hck)) ?_
  refine sq (JN (De (Aj (AF (Aa (t:=.lst (D.map AB)) rfl)) AE) rfl rfl hcm)) ?_
  refine sq (fs':=[some (.bor (.ins C [A] [.dK [] []])),vl (.lst (D.map AB)),none,none,none,none]) (Pq (o:=.dK [] []) rfl rfl (show 0 < 900 by decide) rfl rfl) ?_
  refine sq (fs':=[some (.bor (.ins C [A,B] [.dK [] [],.dK [] []])),vl (.lst (D.map AB)),none,none,none,none]) (Pq (o:=.dK [] []) rfl rfl (show 1 < 900 by decide) (by simp [Im,hAB]) rfl) ?_
  refine sq (fs':=[some (.bor (.ins C [A,B,H] [.dK [] [],.dK [] [],.dK [] []])),vl (.lst (D.map AB)),none,none,none,none]) (Pq (o:=.dK [] []) rfl rfl (show 2 < 900 by decide) (by simp [Im,hAH,hBH]) rfl) ?_
  exact ef
 obtain ⟨hs,x2,x3,x4,x5,all⟩:=all
 refine ⟨hs,?_⟩
 unfold Cj Dj
 show (match Ds C [some (.bor (.ins C [] [])),vl (.lst (K.map AB)),none,none,none,none] with | .nx τ=>_ | .ret (.t t) τ=>_ | .ret (.nw o) τ=>_ | .ret (.rf i) τ=>_ | .exc c τ=>_ | _=>_)=_
 rw [all]
 rfl
def Ax (C:Addr) (K:Kd) (hs:List T):T:=.ins C ["makers_by_kind","parts_by_maker","home_by_maker"] [.dK (Cv K) (EO K),.dK (Cq K) (Lm K),.dK (Cq K) hs]
theorem Pr {C:Addr} {K:Kd} {hs:List T} {i:Nat} {fs:FS} (h:fs[i]?=some (vl (Ax C K hs))):UQ C "makers_by_kind" (Ab i) fs=.ok (.t (.dK (Cv K) (EO K))) fs:=by
 unfold UQ
 rw [Aa h]
 obtain ⟨hAB,hAH,hBH⟩:=Ml
 unfold Ax
 generalize ("makers_by_kind":Str)=A at *
 simp [Out.bnd,Out.bind,Yd,SA,okT]
theorem Qp {C:Addr} {K:Kd} {hs:List T}:Bn C [vl (Ax C K hs)]=.ok (.nw (.lst ((K.map (·.1)).map T.str))) [vl (Ax C K hs)]:=by
 have all:CY C [vl (Ax C K hs)]=.ret (.nw (.lst ((K.map (·.1)).map T.str))) [vl (Ax C K hs)]:=by
  unfold CY
  refine Bl (Di (Av (Pr rfl) rfl) ?_)
  show Out.ok (Rv.nw (.lst ((Cv K).map UM))) _=_
  unfold Cv
  rw [List.map_map,List.map_map]
  rfl
 unfold Bn Dj
 show (match CY C [vl (Ax C K hs)] with | .nx τ=>_ | .ret (.t t) τ=>_ | .ret (.nw o) τ=>_ | .ret (.rf i) τ=>_ | .exc c τ=>_ | _=>_)=_
 rw [all]
 rfl
theorem Lx {K:Kd} (W:Well K):(K.map fun kd=>(.inr kd.1:Key)).Nodup:=by
 have:=Ky W.nd
 rwa [List.map_map] at this
theorem val_mk {K:Kd} (W:Well K) {kd:Str×List (Str×List Str)} (m:kd∈K):Gs (Cv K) (EO K) (.inr kd.1:Key)=some (.lst ((kd.2.map (·.1)).map T.str)) :=
 J0 (f:=fun kd:Str×List (Str×List Str)=>(.inr kd.1:Key)) (g:=fun kd:Str×List (Str×List Str)=>T.lst ((kd.2.map (fun r:Str×List Str=>r.1)).map T.str)) m (Lx W)
theorem Yb {k:Str} {ks:List Key} {ts:List T} {t:T} {fs:FS} (h:Gs ks ts (.inr k:Key)=some t):Bd (.t (.dK ks ts)) (.t (.str k)) fs=.ok (.t t) fs:=by
 have e:Pk (.t (.dK ks ts)) (.t (.str k)) fs=.ok (.t t) fs:=by
  simp only [Pk,Up,MU,Option.map_some,h,okT]
 exact e
theorem N0 {C:Addr} {K:Kd} {hs:List T} (W:Well K) {kd:Str×List (Str×List Str)} (m:kd∈K):A7 C [vl (Ax C K hs),vl (.str kd.1)]=.ok (.nw (.lst ((kd.2.map (·.1)).map T.str))) [vl (Ax C K hs),vl (.str kd.1)]:=by
 have all:CA C [vl (Ax C K hs),vl (.str kd.1)]=.ret (.nw (.lst ((kd.2.map (·.1)).map T.str))) [vl (Ax C K hs),vl (.str kd.1)]:=by
  unfold CA
  refine sq (Bx (Du (b:=false) (Ap (AF (Aa (t:=.str kd.1) rfl)) (Pr rfl) ?_)) rfl) ?_
  ·rw [Y7,val_mk W m]
   rfl
  exact Bl (Di (Av (Ap (Pr rfl) (AF (Aa (t:=.str kd.1) rfl)) (Yb (val_mk W m))) rfl) rfl)
 unfold A7 Dj
 show (match CA C [vl (Ax C K hs),vl (.str kd.1)] with | .nx τ=>_ | .ret (.t t) τ=>_ | .ret (.nw o) τ=>_ | .ret (.rf i) τ=>_ | .exc c τ=>_ | _=>_)=_
 rw [all]
 rfl
theorem Mm {C:Addr} {mt:Str} {p:Nat} {Fn:FS->Out Rv} {fo:FS->Out Rv} {fa:FS->Out (List Rv)} {fs τ:FS} {K:Kd} {hs:List T} {rs:List Rv} {r:Rv} (ho:fo fs=.ok (.t (Ax C K hs)) fs) (hi:Ly C mt fs (.t (Ax C K hs))=true) (ha:fa fs=.ok rs fs) (hp:rs.length+1=p) (hl:Dm fs ((Rv.t (Ax C K hs) :: rs).map DP)=[]) (hf:Fn (Fp fs ((Rv.t (Ax C K hs) :: rs).map DP))=.ok r τ) (hr:(∃ t,r=.t t)∨∃ o,r=.nw o) :
  GB C mt p Fn fo fa fs=.ok r fs:=by
 unfold GB
 rw [ho]
 show (if Ly C mt fs (.t (Ax C K hs))=true then _ else _)=_
 rw [if_pos hi,ha]
 show AA p Fn (Rv.t (Ax C K hs) :: rs) fs=_
 unfold AA
 rw [if_pos (by simpa using hp)]
 unfold NA
 rw [if_pos (by rw [hl];exact List.nodup_nil),hf]
 rcases hr with ⟨t,rfl⟩ | ⟨o,rfl⟩
 ·dsimp only
  rw [A4 hl]
 ·dsimp only
  rw [A4 hl]
theorem Kx:(["makers_by_kind","parts_by_maker","home_by_maker"]:List Str).any (· == ("kinds":Str))=false/\(["makers_by_kind","parts_by_maker","home_by_maker"]:List Str).any (· == ("makers":Str))=false/\(["makers_by_kind","parts_by_maker","home_by_maker"]:List Str).any (· == ("parts":Str))=false:=by decide +kernel
theorem Mr {C:Addr} {mt:Str} {fs:FS} {K:Kd} {hs:List T} (h:(["makers_by_kind","parts_by_maker","home_by_maker"]:List Str).any (· == mt)=false):Ly C mt fs (.t (Ax C K hs))=true:=by
 unfold Ly Ax
 simp only [h]
 simp
theorem WS {f g:FS->Out Rv} {fs fs1:FS} {r:Out Rv} (h:f fs=.ok (.t (.bl true)) fs1) (e:g fs1=r):Xc f g fs=r:=by
 unfold Xc;rw [h];exact e
theorem Ye {x y:Nat} {fs:FS}:gEq false (.t (.int (x:Int))) (.t (.int (y:Int))) fs=.ok (.t (.bl (decide (x=y)))) fs:=by
 have q:decide (V.int (x:Int)=V.int (y:Int))=decide (x=y):=by
  by_cases h:x=y
  ·subst h;simp
  ·rw [decide_eq_false h,decide_eq_false (by intro z;cases z;exact h (by omega))]
 show (if Lj (V.int (x:Int)) (V.int (y:Int))=true then okT (.bl (if false=true then _ else decide (V.int (x:Int)=V.int (y:Int)))) fs else .bad)=_
 rw [if_pos (show Lj (V.int (x:Int)) (V.int (y:Int))=true from rfl),q]
 rfl
theorem WE {i:Nat} {f:FS->Out Rv} {fs fs':FS} {us ts:List T} (h0:fs[i]?=some (some (.own (.lst ts)))) (h:f fs=.ok (.t (.lst us)) fs) (hl:ts.length+us.length<=big) (e:fs.set i (some (.own (.lst (ts++us))))=fs'):Bb (AX Lz (Ab i) (Ac f Ak)) fs=.nx fs':=by
 have h1:Ab i fs=.ok (.rf i) fs:=Ep h0
 have h2:FL.A1 fs i=some (.lst ts):=VI h0
 have h3:DN fs (.rf i)=some ts:=by simp only [DN,h2]
 have h4:Ac f Ak fs=.ok [.t (.lst us)] fs:=Av h rfl
 have h5:Wi (.rf i) [.t (.lst us)] fs=.ok (.t .non) fs':=by
  simp only [Wi,h2]
  rw [if_pos hl]
  have:FL.putAt fs i (.lst (ts++us))=fs':=by
   unfold FL.putAt
   rw [h0]
   exact e
  rw [this]
 have h5':Lz (.rf i) [.t (.lst us)] fs=.ok (.t .non) fs':=by
  unfold Lz FL.orM
  rw [h5]
 have h6:AX Lz (Ab i) (Ac f Ak) fs=.ok (.t .non) fs':=by
  unfold AX
  rw [h1]
  show (if (DN fs (.rf i)).isSome=true then _ else _)=_
  rw [h3,if_pos (show (some ts).isSome=true from rfl),h4]
  exact h5'
 unfold Bb
 rw [h6]
 rfl
theorem Fw {gt:T->FS->Option FS} {body:FS->SO} {t:T} {ts:List T} {fs fs1 fs2:FS} (h1:gt t fs=some fs1) (h2:body fs1=.nx fs2):CQ gt body (t :: ts) fs=CQ gt body ts fs2:=by
 simp only [CQ,h1,h2]
theorem JS {g:List Rv->FS->Out Rv} {fa:FS->Out (List Rv)} {fs fs1:FS} {rs:List Rv} {r:Out Rv} (h:fa fs=.ok rs fs1) (h2:g rs fs1=r):Am g fa fs=r:=by
 unfold Am
 rw [h]
 exact h2
theorem Zf {f:FS->Out Rv} {i j:Nat} {fs fs1 fs2 fs':FS} {x y:T} (h:f fs=.ok (.t (.tup [x,y])) fs1) (h1:tgN i x fs1=some fs2) (h2:tgN j y fs2=some fs'):Sm f (BC 2 (Ar (tgN i) (Ar (tgN j) Bs))) fs=.nx fs':=by
 unfold Sm
 rw [h]
 show (match BC 2 (Ar (tgN i) (Ar (tgN j) Bs)) (.tup [x,y]) fs1 with | some fs=>SO.nx fs | none=>.bad)=_
 rw [FV h1 h2]
theorem MI {g:Rv->Rv->FS->Out Rv} {fa fb:FS->Out Rv} {fs:FS} {y:T} {i:Nat} {r:Out Rv} (h1:fa fs=.ok (.rf i) fs) (h2:fb fs=.ok (.t y) fs) (h3:g (.rf i) (.t y) fs=r):Af g fa fb fs=r:=by
 unfold Af
 rw [h1]
 show (fb fs).bnd _=r
 rw [h2]
 exact h3
theorem RC {fs:FS} {i:Nat} {ts:List T} (h:fs[i]?=some (some (.own (.lst ts)))):DN fs (.rf i)=some ts:=by simp only [DN,VI h]
theorem UG {f g:FS->Out Bool} {fs:FS} {a b:Bool} (h1:f fs=.ok a fs) (h2:g fs=.ok b fs):Sn f g fs=.ok (a && b) fs:=by
 unfold Sn
 rw [h1]
 cases a
 ·rfl
 ·show g fs=_
  rw [h2]
  rfl
open PySem.Builtin.Int (intBits)
theorem UC {x:Int} {n:Nat}:intBits x<=n↔x.natAbs < 2 ^ n:=by
 unfold intBits
 by_cases h:x=0
 ·subst h
  simp [Nat.two_pow_pos]
 ·have h':(x == 0)=false:=by simpa using h
  rw [h']
  have hn:x.natAbs≠0:=by omega
  have:=Nat.log2_lt hn (k:=n)
  simp only [Bool.false_eq_true,if_false]
  omega
theorem MH:∀ {ns:List Int} {z:Int},z∈ns->intBits z<=Df ns
 | n :: ns,z,h=>by
  simp only [Df]
  rcases List.mem_cons.mp h with rfl | h
  ·omega
  ·have:=MH h
   omega
theorem Rq {ns:List Int} {N:Nat} (hb:Df ns<=N) (i:Nat):intBits (ns.getD i 0)<=N:=by
 by_cases h:i < ns.length
 ·have:ns.getD i 0∈ns:=by
   simp [List.getD,h]
  have:=MH this
  omega
 ·have:ns.getD i 0=0:=by simp [List.getD,List.getElem?_eq_none (by omega:ns.length<=i)]
  rw [this,UC]
  exact Nat.two_pow_pos N
theorem Kq (c:Int) {n:Nat} (h:n<=12):(nms c n).Nodup:=by
 unfold nms
 rw [List.nodup_iff_pairwise_ne,List.pairwise_map]
 refine List.Pairwise.imp_of_mem ?_ (List.nodup_iff_pairwise_ne.mp (List.nodup_range (n:=n)))
 intro a b ma mb hab e
 rw [List.mem_range] at ma mb
 exact hab (Tr (by omega) (by omega) e)
theorem Jr {c:Int} {n:Nat} {x:Str} (h:x∈nms c n):∃ k,x=nmS c k:=by
 unfold nms at h
 rw [List.mem_map] at h
 obtain ⟨k,_,e⟩:=h
 exact ⟨k,e.symm⟩
theorem Tq (c:Int) (k:Nat):(nmS c k).length<=12:=by
 show (Nm.codes c k).toArray.size<=12
 rw [List.size_toArray]
 exact Nm.JP c k
theorem Iw (K:Kd) (kd:Str×List (Str×List Str)):used (K++[kd])=used K+kd.2.length:=by
 unfold used
 simp
theorem Jt {names makers:List Str} {K:Kd} (h:KOk names makers K) (hu:used K<=makers.length):∀ a,a<=K.length->mks (K.take a)=makers.take (used (K.take a))/\used (K.take a)<=used K
 | 0,_=>by simp [mks,used]
 | a+1,ha=>by
  obtain ⟨i1,i2⟩:=Jt h hu a (by omega)
  have hlt:a < K.length:=by omega
  obtain ⟨_,_,_,R⟩:=h.at_ a K[a] (List.getElem?_eq_getElem hlt)
  have e:K.take (a+1)=K.take a++[K[a]]:=by rw [List.take_succ_eq_append_getElem hlt]
  have hle:used (K.take (a+1))<=used K:=by
   have:K=K.take (a+1)++K.drop (a+1):=(List.take_append_drop _ _).symm
   conv=>rhs;rw [this]
   unfold used
   rw [List.map_append,List.sum_append]
   omega
  refine ⟨?_,hle⟩
  rw [e] at hle ⊢
  rw [Jv,Iw,i1,Em]
  rw [Iw] at hle
  simp only [mks,List.flatMap_nil,List.append_nil]
  rw [R.mks]
  generalize used (K.take a)=u at *
  generalize K[a].2.length=l at *
  rw [List.take_add]
  congr 1
  refine List.ext_getElem? fun j=>?_
  rw [List.getElem?_take]
  by_cases hj:j < l
  ·rw [if_pos hj,List.getElem?_drop,List.getElem?_map,List.getElem?_range hj]
   have:u+j < makers.length:=by omega
   simp [List.getD,this]
  ·rw [if_neg hj,List.getElem?_eq_none (by simp;omega)]
theorem well {c0 c1:Int} {K:Kd} (h1:1<=K.length) (h4:K.length<=4) (h:KOk (nms c0 K.length) (nms c1 12) K) (hu:used K<=12):Well K:=by
 have hnames:K.map (·.1)=nms c0 K.length:=by
  refine List.ext_getElem? fun i=>?_
  rw [List.getElem?_map]
  by_cases hi:i < K.length
  ·have:=(h.at_ i K[i] (List.getElem?_eq_getElem hi)).1
   rw [List.getElem?_eq_getElem hi,Option.map_some,this,List.getElem?_eq_getElem (by rw [EM];exact hi)]
   simp [List.getD,EM,hi]
  ·rw [List.getElem?_eq_none (by omega),List.getElem?_eq_none (by rw [EM];omega)]
   rfl
 have hmks:mks K=(nms c1 12).take (used K):=by
  have:=(Jt h (by rw [EM];exact hu) K.length (Nat.le_refl _)).1
  rwa [List.take_length] at this
 have hat:∀ kd∈K,∃ a,a < K.length/\1<=kd.2.length/\kd.2.length<=4/\Rows (nms c0 K.length) (nms c1 12) a (used (K.take a)) kd.2:=fun kd m=>by
  obtain ⟨a,ha,ea⟩:=List.mem_iff_getElem.mp m
  obtain ⟨_,q1,q2,R⟩:=h.at_ a kd (by rw [List.getElem?_eq_getElem ha,ea])
  exact ⟨a,ha,q1,q2,R⟩
 have hmm:∀ m∈mks K,∃ k,m=nmS c1 k:=fun m hm=>by
  rw [hmks] at hm
  exact Jr (List.mem_of_mem_take hm)
 refine ⟨h1,h4,?_,fun kd m=>?_,fun kd m=>?_,?_,fun m hm=>?_,fun m hm=>?_,fun kd m r hr=>?_,fun kd m r hr x hx=>?_,fun D kd R e r hr x hx=>?_⟩
 ·rw [hnames]
  exact Kq c0 (by omega)
 ·have:kd.1∈nms c0 K.length:=by rw [<- hnames];exact List.mem_map.mpr ⟨kd,m,rfl⟩
  obtain ⟨k,e⟩:=Jr this
  rw [e]
  exact IK c0 k
 ·obtain ⟨a,_,q1,q2,_⟩:=hat kd m
  exact ⟨q1,q2⟩
 ·rw [hmks]
  exact (Kq c1 (Nat.le_refl 12)).sublist (List.take_sublist _ _)
 ·obtain ⟨k,e⟩:=hmm m hm
  rw [e]
  exact IK c1 k
 ·obtain ⟨k,e⟩:=hmm m hm
  rw [e]
  exact Tq c1 k
 ·obtain ⟨a,_,_,_,R⟩:=hat kd m
  exact R.two r hr
 ·obtain ⟨a,_,_,_,R⟩:=hat kd m
  rw [hnames]
  exact R.prt r hr x hx
 ·obtain ⟨_,_,_,Rw⟩:=h.at_ D.length kd (by rw [e];simp)
  have:=Rw.fst r hr x hx
  rw [<- hnames,e,List.map_append] at this
  rwa [List.take_left' (by simp)] at this
theorem OI {C:Addr} {p:Nat} {Fn:FS->Out Rv} {fa:FS->Out (List Rv)} {fs fs1 τ:FS} {rs:List Rv} {o:FO} (ha:fa fs=.ok rs fs1) (hp:rs.length+1=p) (hl:Dm fs1 (rs.map DP)=[]) (hf:Fn (some (.bor (.ins C [] [])) :: Fp fs1 (rs.map DP))=.ok (.t .non) (some (.bor o) :: τ)):Am (Kr C p Fn) fa fs=.ok (.nw o) fs1:=by
 unfold Am
 rw [ha]
 show Kr C p Fn rs fs1=_
 unfold Kr
 rw [if_pos ⟨by rw [hl];exact List.nodup_nil,hp⟩,hf]
 dsimp only
 rw [A4 hl]
theorem LN {xs ys:List T} {fs:FS} (h:xs.length+ys.length<=big):AS (.t (.lst xs)) (.t (.lst ys)) fs=.ok (.nw (.lst (xs++ys))) fs:=by
 have:KG (.t (.lst xs)) (.t (.lst ys)) fs=.ok (.nw (.lst (xs++ys))) fs:=by
  simp only [KG,exL]
  exact if_pos h
 show (match KG (.t (.lst xs)) (.t (.lst ys)) fs with | .bad=>_ | o=>o)=_
 rw [this]
theorem Kk {f g:FS->Out Bool} {fs:FS} {r:Out Bool} (h:f fs=.ok false fs) (e:g fs=r):orT f g fs=r:=by
 unfold orT
 rw [h]
 exact e
theorem DB {n:Nat} {g:FS->SO} {args τ:FS} {t:T} (h:g (args++List.replicate n none)=.ret (.t t) τ):Dj n g args=.ok (.t t) (τ.take args.length):=by
 unfold Dj
 rw [h]
theorem HS {f:FS->Out Rv} {fs:FS} {ts:List T} (h:f fs=.ok (.t (.tup ts)) fs):itU f fs=.ok ts fs:=by
 unfold itU
 rw [h]
 rfl
theorem EX {α:Type} {fe:FS->Out Rv} {p q:α->T} {rest:FS}:∀ (xs:List α) (x:Option Sl) (acc:List T),Fre x->(∀ a∈xs,fe (vl (p a) :: rest)=.ok (.t (q a)) (vl (p a) :: rest))->acc.length+xs.length<=big ->
  ∃ y,Fre y/\Dq (tgN 0) EF fe (xs.map p) (x :: rest) acc=some (acc++xs.map q,y :: rest)
 | [],x,acc,hx,_,_=>⟨x,hx,by simp [Dq]⟩
 | a :: xs,x,acc,hx,h,hl=>by
  obtain ⟨y,hy,e⟩:=EX xs (vl (p a)) (acc++[q a]) AI (fun b m=>h b (List.mem_cons_of_mem _ m)) (by simp at hl ⊢;omega)
  refine ⟨y,hy,?_⟩
  have h1:tgN 0 (p a) (x :: rest)=some (vl (p a) :: rest):=by
   unfold tgN
   rw [Bi (x:=x) rfl hx]
   rfl
  have h2:=h a List.mem_cons_self
  have h3:acc.length < big:=by simp at hl;omega
  simp only [List.map_cons,Dq,h1,EF,h2,if_pos h3,e]
  simp
theorem Fo {f:FS->Out Rv} {fs:FS} {ts:List T} {i:Nat} {t:T} (h:f fs=.ok (.t (.tup ts)) fs) (e:ts[i]?=some t):Af Bd f (gc (.int i)) fs=.ok (.t t) fs:=by
 refine Ap h Az ?_
 have q:=AW (j:=i) e
 unfold Bd orG gIx
 show (match (match atI ts (i:Int) with | some t=>okT t fs | none=>.bad) with | .bad=>_ | r=>r)=_
 rw [q]
 rfl
theorem GD {f:FS->Out Rv} {fs:FS} {ts:List T} (h:f fs=.ok (.t (.lst ts)) fs):itU f fs=.ok ts fs:=by
 unfold itU
 rw [h]
 rfl
theorem X8 {c:FS->Out Bool} {f g:FS->Out Rv} {fs:FS} {r:Out Rv} (h:c fs=.ok true fs) (e:f fs=r):ifV c f g fs=r:=by
 unfold ifV
 rw [h]
 exact e
theorem X9 {c:FS->Out Bool} {f g:FS->Out Rv} {fs:FS} {r:Out Rv} (h:c fs=.ok false fs) (e:g fs=r):ifV c f g fs=r:=by
 unfold ifV
 rw [h]
 exact e
def exN (s:Str):T:=.tup [.str "name",.str s]
def exP (h s:Str) (ts:List T):T:=.tup [.str h,.str s,.tup ts]
theorem XO {f g:FS->Out Bool} {fs:FS} (h:f fs=.ok true fs):orT f g fs=.ok true fs:=by
 unfold orT
 rw [h]
 rfl
def nd:Nat->Nat
 | 0=>1
 | d+1=>1+3 * nd d
theorem V1 {L:List Str} (hL:L≠[]) (x:Int):∃ s,s∈L/\atI (L.map T.str) (x % (L.length:Int))=some (.str s):=by
 have h0:0 < L.length:=List.length_pos_iff.mpr hL
 have h1:=Int.emod_lt_of_pos x (show (0:Int) < L.length by omega)
 have h2:=Int.emod_nonneg x (show (L.length:Int)≠0 by omega)
 obtain ⟨i,hi⟩:∃ i:Nat,x % (L.length:Int)=i:=⟨(x % (L.length:Int)).toNat,by omega⟩
 have hlt:i < L.length:=by omega
 refine ⟨L[i],List.getElem_mem hlt,?_⟩
 rw [hi]
 exact AW (by rw [List.getElem?_map,List.getElem?_eq_getElem hlt];rfl)
theorem WR (x:Int):∃ k:Nat,k<=3/\atI [T.int 0,T.int 1,T.int 2,T.int 3,T.int 1,T.int 2] (x % 6)=some (.int k):=by
 have h1:=Int.emod_lt_of_pos x (show (0:Int) < 6 by omega)
 have h2:=Int.emod_nonneg x (show (6:Int)≠0 by omega)
 obtain ⟨i,hi⟩:∃ i:Nat,x % 6=i:=⟨(x % 6).toNat,by omega⟩
 have hlt:i < 6:=by omega
 rw [hi]
 have:∃ k:Nat,k<=3/\([T.int 0,T.int 1,T.int 2,T.int 3,T.int 1,T.int 2]:List T)[i]?=some (.int k):=by
  rcases i with _ | _ | _ | _ | _ | _ | i
  ·exact ⟨0,by omega,rfl⟩
  ·exact ⟨1,by omega,rfl⟩
  ·exact ⟨2,by omega,rfl⟩
  ·exact ⟨3,by omega,rfl⟩
  ·exact ⟨1,by omega,rfl⟩
  ·exact ⟨2,by omega,rfl⟩
  ·omega
 obtain ⟨k,hk,e⟩:=this
 exact ⟨k,hk,AW e⟩
theorem VL:∀ d,1<=nd d
 | 0=>by simp [nd]
 | d+1=>by simp [nd]
inductive E where
 | nm (s:Str)
 | pt (h:Bool) (s:Str) (es:List E)
def hd (b:Bool):Str:=if b then "make" else "call"
mutual
def E.t:E->T
 | .nm s=>exN s
 | .pt h s es=>exP (hd h) s (E.ts es)
def E.ts:List E->List T
 | []=>[]
 | e :: es=>e.t :: E.ts es
end
mutual
def E.ok:Nat->E->Prop
 | _,.nm _=>True
 | 0,.pt _ _ _=>False
 | d+1,.pt _ _ es=>es.length<=3/\E.oks d es
def E.oks:Nat->List E->Prop
 | _,[]=>True
 | d,e :: es=>E.ok d e/\E.oks d es
end
theorem E.NT:∀ es:List E,E.ts es=es.map E.t
 | []=>by simp [E.ts]
 | e :: es=>by simp [E.ts,E.NT es]
theorem E.Fz:∀ {d:Nat} {es:List E},E.oks d es->∀ e∈es,E.ok d e
 | _,[],_,e,m=>nomatch m
 | d,x :: es,h,e,m=>by
  simp only [E.oks] at h
  rcases List.mem_cons.mp m with rfl | m
  ·exact h.1
  ·exact E.Fz h.2 e m
theorem E.RX:∀ {d:Nat} {es:List E},(∀ e∈es,E.ok d e)->E.oks d es
 | _,[],_=>by simp [E.oks]
 | d,x :: es,h=>by
  simp only [E.oks]
  exact ⟨h x (by simp),E.RX fun e m=>h e (List.mem_cons_of_mem _ m)⟩
theorem Q0 (b:Bool):hd b≠("name":Str):=by cases b <;> decide
theorem JM (m:Nat) (a b:Str):eqT m (.str a) (.str b)=some (a == b):=by cases m <;> rfl
theorem GH (m:Nat) (xs ys:List T):eqT (m+1) (.tup xs) (.tup ys)=(IU (eqT m) xs ys).map (· && xs.length == ys.length):=rfl
theorem Wb {a b:Bool} (h:hd a=hd b):a=b:=by
 cases a <;> cases b <;> first | rfl | exact absurd h (by decide)
mutual
theorem WG:∀ (d n:Nat) (e e':E),E.ok d e->2 * d+2<=n->∃ b,eqT n e.t e'.t=some b/\(b=true↔e=e')
 | d,0,e,e',_,hn=>by omega
 | d,n+1,.nm s,.nm s',_,_=>by
  refine ⟨(("name":Str) == "name" && (s == s' && true)) && (2 == 2),?_,?_⟩
  ·simp only [E.t,exN,GH,IU,JM]
   rfl
  ·simp
 | d,n+1,.nm s,.pt h s' es,_,_=>by
  refine ⟨false,?_,by simp⟩
  simp only [E.t,exN,exP,GH,IU,JM]
  simp
 | d,n+1,.pt h s es,.nm s',_,_=>by
  refine ⟨false,?_,by simp⟩
  simp only [E.t,exN,exP,GH,IU,JM]
  simp
 | 0,n+1,.pt h s es,.pt h' s' es',hok,_=>by simp [E.ok] at hok
 | d+1,n+1,.pt h s es,.pt h' s' es',hok,hn=>by
  simp only [E.ok] at hok
  obtain ⟨m,rfl⟩:∃ m,n=m+1:=⟨n - 1,by omega⟩
  obtain ⟨b,h1,h2⟩:=Se d m es es' hok.2 (by omega)
  refine ⟨((hd h == hd h') && ((s == s') && ((b && es.length == es'.length) && true))) && (3 == 3),?_,?_⟩
  ·simp only [E.t,exP,GH (m+1),IU,JM,GH m,E.NT]
   rw [h1]
   simp
  ·rw [show ((hd h == hd h') && ((s == s') && ((b && es.length == es'.length) && true)) && (3 == 3))=((hd h == hd h') && ((s == s') && (b && es.length == es'.length))) by simp]
   rw [Bool.and_eq_true,Bool.and_eq_true,h2]
   constructor
   ·rintro ⟨a1,a2,a3⟩
    rw [Wb (eq_of_beq a1),eq_of_beq a2,a3]
   ·intro q
    injection q with q1 q2 q3
    subst q1 q2 q3
    exact ⟨by simp,by simp,rfl⟩
theorem Se:∀ (d n:Nat) (es es':List E),E.oks d es->2 * d+2<=n->∃ b,IU (eqT n) (es.map E.t) (es'.map E.t)=some b/\((b && es.length == es'.length)=true↔es=es')
 | d,n,[],[],_,_=>⟨true,rfl,by simp⟩
 | d,n,[],e' :: es',_,_=>⟨true,rfl,by simp⟩
 | d,n,e :: es,[],_,_=>⟨true,rfl,by simp⟩
 | d,n,e :: es,e' :: es',hok,hn=>by
  simp only [E.oks] at hok
  obtain ⟨b,h1,h2⟩:=WG d n e e' hok.1 hn
  obtain ⟨c,h3,h4⟩:=Se d n es es' hok.2 hn
  refine ⟨b && c,?_,?_⟩
  ·simp only [List.map_cons,IU,h1,h3]
   rfl
  ·rw [List.length_cons,List.length_cons,show ((b && c) && (es.length+1 == es'.length+1))=(b && (c && (es.length == es'.length))) by simp [Bool.and_assoc],Bool.and_eq_true,h2,h4]
   constructor
   ·rintro ⟨rfl,rfl⟩;rfl
   ·intro q
    injection q with q1 q2
    exact ⟨q1,q2⟩
end
theorem SN {f:FS->Out Rv} {fs:FS} {a b:T} {ts:List T} (h1:f fs=.ok (.t (.tup (a :: b :: ts))) fs):slF f noP (D6 (gc (.int 2))) fs=.ok (.t (.tup [a,b])) fs:=by
 have:Qf (a :: b :: ts) none (some 2)=[a,b]:=by
  rw [KP (by omega) (by simp)]
  rfl
 unfold slF
 rw [h1]
 show okT (.tup (Qf (a :: b :: ts) none (some 2))) fs=_
 rw [this]
 rfl
theorem E.Xm (e:E):∃ xs,e.t=.tup xs:=by
 cases e with
 | nm s=>exact ⟨_,by simp only [E.t,exN];rfl⟩
 | pt h s es=>exact ⟨_,by simp only [E.t,exP];rfl⟩
theorem JO {α:Type} {ft:FS->Out Bool} {fe:FS->Out Rv} {p:α->T} {rest:FS}:∀ (xs:List α) (x:Option Sl) (acc:List T),Fre x->(∀ a∈xs,ft (vl (p a) :: rest)=.ok false (vl (p a) :: rest)) ->
  ∃ y,Fre y/\Dq (tgN 0) ft fe (xs.map p) (x :: rest) acc=some (acc,y :: rest)
 | [],x,acc,hx,_=>⟨x,hx,by simp [Dq]⟩
 | a :: xs,x,acc,hx,h=>by
  obtain ⟨y,hy,e⟩:=JO (fe:=fe) xs (vl (p a)) acc AI (fun b m=>h b (List.mem_cons_of_mem _ m))
  refine ⟨y,hy,?_⟩
  have h1:tgN 0 (p a) (x :: rest)=some (vl (p a) :: rest):=by
   unfold tgN
   rw [Bi (x:=x) rfl hx]
   rfl
  have h2:=h a List.mem_cons_self
  simp only [List.map_cons,Dq,h1,h2,e]
theorem QW {T':String} {n:String} {f:FS->Out Rv} {fs:FS} {t:T} (h:f fs=.ok (.t t) fs) (e:tyT t=some n) (hs:SK n T'=true):Fl (FQ (isF T' f)) fs=.ok false fs:=by
 have:isF T' f fs=.ok (.t (.bl true)) fs:=by
  unfold isF
  rw [h]
  simp only [Out.bnd,Out.bind,e,hs]
 exact FD (EH this)
theorem X3 {fa fb:FS->Out Rv} {fs:FS} {a b:Int} (h1:fa fs=.ok (.t (.int a)) fs) (h2:fb fs=.ok (.t (.int b)) fs):asB (Af gLt fa fb) fs=.ok (decide (a < b)) fs:=Du (Ap h1 h2 rfl)
theorem Ze {f:FS->Out Rv} {i j k:Nat} {fs fs1 fs2 fs3 fs':FS} {x y z:T} (h:f fs=.ok (.t (.tup [x,y,z])) fs1) (h1:tgN i x fs1=some fs2) (h2:tgN j y fs2=some fs3) (h3:tgN k z fs3=some fs'):Sm f (BC 3 (Ar (tgN i) (Ar (tgN j) (Ar (tgN k) Bs)))) fs=.nx fs':=by
 have e:BC 3 (Ar (tgN i) (Ar (tgN j) (Ar (tgN k) Bs))) (.tup [x,y,z]) fs1=some fs':=by
  have e:BC 3 (Ar (tgN i) (Ar (tgN j) (Ar (tgN k) Bs))) (.tup [x,y,z]) fs1=Ar (tgN i) (Ar (tgN j) (Ar (tgN k) Bs)) [x,y,z] fs1:=rfl
  rw [e]
  simp only [Ar,h1,h2,h3,Option.bind_some,Bs]
 unfold Sm
 rw [h]
 show (match BC 3 (Ar (tgN i) (Ar (tgN j) (Ar (tgN k) Bs))) (.tup [x,y,z]) fs1 with | some fs=>SO.nx fs | none=>.bad)=_
 rw [e]
abbrev cds (s:Str):List Nat:=s.cps.toList
theorem Ba (x y:Str):cds (x++y)=cds x++cds y:=by
 show (x.cps++y.cps).toList=_
 simp
theorem Eu (x:Str):x.length=(cds x).length:=by
 show x.cps.size=_
 simp
def inter (z:List Nat):List (List Nat)->List Nat
 | []=>[]
 | [a]=>a
 | a :: b :: r=>a++z++inter z (b :: r)
theorem MG (z:Str):∀ ys:List Str,cds (Txt.join z ys)=inter (cds z) (ys.map cds):=by
 intro ys
 show cds (Builtin.Str.glued z ys)=_
 rw [StrLaws.glued_eq_join]
 induction ys with
 | nil=>rfl
 | cons x r ih =>
  cases r with
  | nil=>simp [Str.join,inter]
  | cons y r =>
   show cds (x++z++Str.join z (y :: r))=_
   rw [Ba,Ba,ih]
   rfl
mutual
def E.tx:E->Str
 | .nm s=>s
 | .pt _ s es=>s++("(":Str)++Txt.join (", ":Str) (E.txs es)++(")":Str)
def E.txs:List E->List Str
 | []=>[]
 | e :: es=>e.tx :: E.txs es
end
theorem E.Hs:∀ es:List E,E.txs es=es.map E.tx
 | []=>by simp [E.txs]
 | e :: es=>by simp [E.txs,E.Hs es]
mutual
def E.al (p:Str->Prop):E->Prop
 | .nm s=>p s
 | .pt _ s es=>p s/\E.als p es
def E.als (p:Str->Prop):List E->Prop
 | []=>True
 | e :: es=>e.al p/\E.als p es
end
theorem E.Ik {p:Str->Prop}:∀ {es:List E},E.als p es->∀ e∈es,e.al p
 | [],_,e,m=>nomatch m
 | x :: es,h,e,m=>by
  simp only [E.als] at h
  rcases List.mem_cons.mp m with rfl | m
  ·exact h.1
  ·exact E.Ik h.2 e m
theorem E.Sq {p:Str->Prop}:∀ {es:List E},(∀ e∈es,e.al p)->E.als p es
 | [],_=>by simp [E.als]
 | x :: es,h=>by
  simp only [E.als]
  exact ⟨h x (by simp),E.Sq fun e m=>h e (List.mem_cons_of_mem _ m)⟩
structure Lw (s:Str):Prop where
 lo:1<=(cds s).length
 hi:(cds s).length<=12
 al:∀ c∈cds s,97<=c/\c<=122
def tB:Nat->Nat
 | 0=>12
 | d+1=>20+3 * tB d
theorem Kw {z:List Nat} {B:Nat}:∀ (ys:List (List Nat)),(∀ y∈ys,y.length<=B)->(inter z ys).length<=ys.length * B+ys.length * z.length
 | [],_=>by simp [inter]
 | [a],h=>by
  have:=h a (by simp)
  simp [inter]
  omega
 | a :: b :: r,h=>by
  have h1:=h a (by simp)
  have ih:=Kw (z:=z) (b :: r) fun y m=>h y (List.mem_cons_of_mem _ m)
  simp only [inter,List.length_append]
  rw [List.length_cons,Nat.add_mul,Nat.add_mul]
  omega
theorem p1:cds ("(":Str)=[40]:=by decide +kernel
theorem p2:cds (")":Str)=[41]:=by decide +kernel
theorem p3:cds (", ":Str)=[44,32]:=by decide +kernel
theorem Iy:∀ {d:Nat} {e:E},E.ok d e->e.al Lw->(cds e.tx).length<=tB d
 | d,.nm s,_,h=>by
  simp only [E.al] at h
  simp only [E.tx]
  have:∀ d,12<=tB d:=fun d=>by cases d <;> simp [tB] <;> omega
  exact Nat.le_trans h.hi (this d)
 | 0,.pt h s es,ok,_=>by simp [E.ok] at ok
 | d+1,.pt h s es,ok,hw=>by
  simp only [E.ok] at ok
  simp only [E.al] at hw
  have h1:=Kw (z:=cds (", ":Str)) (B:=tB d) (es.map fun e=>cds e.tx) (fun y m=>by
   obtain ⟨e,me,rfl⟩:=List.mem_map.mp m
   exact Iy (E.Fz ok.2 e me) (E.Ik hw.2 e me))
  have h2:=hw.1.hi
  simp only [E.tx,E.Hs]
  rw [Ba,Ba,Ba,MG,p1,p2,List.map_map]
  rw [p3,List.length_map] at h1
  rw [p3]
  have h3:es.length * tB d<=3 * tB d:=Nat.mul_le_mul_right _ ok.1
  simp only [List.length_append,tB,List.length_cons,List.length_nil] at *
  have e4:(List.map (cds∘E.tx) es)=es.map fun e=>cds e.tx:=rfl
  rw [e4]
  omega
theorem VX {f:FS->Out Rv} {fs:FS} {z:Str} {ys:List Str} (h:f fs=.ok (.t (.lst (ys.map T.str))) fs) (hl:(ys.map (·.length)).sum+ys.length * z.length<=big):fz (Fm FF (gc (.str z)) (Ac f Ak)) fs=.ok (.t (.str (Txt.join z ys))) fs:=by
 have e:FF (.t (.str z)) [.t (.lst (ys.map T.str))] fs=.ok (.t (.str (Txt.join z ys))) fs:=by
  show (match (some (ys.map T.str)).bind Dt with | some (ys:List Str)=>if (ys.map (fun (x:Str)=>x.length)).sum+ys.length * z.length<=big then okT (.str (Txt.join z ys)) fs else .bad | none=>.bad)=_
  rw [Option.bind_some,GO]
  exact if_pos hl
 refine AF ?_
 unfold Fm
 rw [Az]
 show (Ac f Ak fs).bind _=_
 rw [Av h AE]
 exact e
theorem NX {B:Nat}:∀ ys:List Str,(∀ y∈ys,y.length<=B)->(ys.map (·.length)).sum<=ys.length * B
 | [],_=>by simp
 | y :: ys,h=>by
  have h1:=h y (by simp)
  have h2:=NX ys fun y m=>h y (List.mem_cons_of_mem _ m)
  rw [List.map_cons,List.sum_cons,List.length_cons,Nat.add_mul]
  omega
theorem NW:∀ {d:Nat},d<=4->tB d<=2000
 | 0,_=>by decide
 | 1,_=>by decide
 | 2,_=>by decide
 | 3,_=>by decide
 | 4,_=>by decide
 | d+5,h=>by omega
theorem MK {d:Nat} {es:List E} (hl:es.length<=3) (ok:E.oks d es) (hw:E.als Lw es) (hd:d<=4):((es.map E.tx).map (·.length)).sum+(es.map E.tx).length * (", ":Str).length<=big:=by
 have h1:=NX (B:=2000) (es.map E.tx) fun y m=>by
  obtain ⟨e,me,rfl⟩:=List.mem_map.mp m
  rw [Eu]
  exact Nat.le_trans (Iy (E.Fz ok e me) (E.Ik hw e me)) (NW hd)
 have h2:(", ":Str).length=2:=by rw [Eu,p3];rfl
 rw [h2]
 rw [List.length_map] at *
 show _<=1000000
 omega
theorem Ny {f g:FS->Out Rv} {fs:FS} {x y:Str} (h1:f fs=.ok (.t (.str x)) fs) (h2:g fs=.ok (.t (.str y)) fs) (h:x=y):asB (Af (gEq false) f g) fs=.ok true fs:=by
 rw [Gi h1 h2,decide_eq_true h]
theorem GI {f g:FS->Out Rv} {fs:FS} {x y:Str} (h1:f fs=.ok (.t (.str x)) fs) (h2:g fs=.ok (.t (.str y)) fs) (h:x≠y):asB (Af (gEq false) f g) fs=.ok false fs:=by
 rw [Gi h1 h2,decide_eq_false h]
theorem Nu (s:Str):(E.nm s).t=.tup [.str "name",.str s]:=by simp [E.t,exN]
theorem LD (h:Bool) (s:Str) (es:List E):(E.pt h s es).t=.tup [.str (hd h),.str s,.tup (es.map E.t)]:=by simp [E.t,exP,E.NT]
theorem text:∀ (n d:Nat) (e:E),E.ok d e->d < n->d<=4->e.al Lw->DS n [vl e.t]=.ok (.t (.str e.tx)) [vl e.t]
 | 0,d,e,_,h,_,_=>by omega
 | n+1,d,.nm s,_,_,_,_=>by
  rw [Nu]
  exact (DB (n:=0) (g:=JV (DS n)) (args:=[vl (.tup [.str "name",.str s])]) (Ej (EB (Ny (Fo (i:=0) (Aa rfl) rfl) Az rfl) (Bl (Fo (i:=1) (Aa rfl) rfl))))).trans (by simp [E.tx])
 | n+1,0,.pt h s es,ok,_,_,_=>by simp [E.ok] at ok
 | n+1,d+1,.pt h s es,ok,hn,hd4,hw=>by
  have bnd:=Iy ok hw
  simp only [E.ok] at ok
  simp only [E.al] at hw
  rw [LD]
  have g0:Ab 0 [vl (.tup [.str (hd h),.str s,.tup (es.map E.t)])]=.ok (.t (.tup [.str (hd h),.str s,.tup (es.map E.t)])) [vl (.tup [.str (hd h),.str s,.tup (es.map E.t)])]:=Aa rfl
  obtain ⟨y,_,hc⟩:=EX (fe:=fz (Am (AA 1 (DS n)) (Ah (fz (Ab 0)) Ak))) (p:=E.t) (q:=fun e=>.str e.tx) (rest:=[]) es none [] Ay (fun x m =>
   CP (De (rs:=[.t x.t]) (Aj (AF (Aa rfl)) AE) rfl rfl (text n d x (E.Fz ok.2 x m) (by omega) (by omega) (E.Ik hw.2 x m)))) (by show _<=1000000;simp;omega)
  rw [List.nil_append] at hc
  have ec:BN false [none] (itU (Af Bd (Ab 0) (gc (.int 2)))) (tgN 0) EF (fz (Am (AA 1 (DS n)) (Ah (fz (Ab 0)) Ak))) [vl (.tup [.str (hd h),.str s,.tup (es.map E.t)])]=.ok (.t (.lst ((es.map E.tx).map T.str))) [vl (.tup [.str (hd h),.str s,.tup (es.map E.t)])]:=by
   rw [List.map_map]
   exact CT (src:=[none]) (HS (Fo (i:=2) g0 rfl)) ⟨by rw [show Dm _ _=[] from rfl];simp,by rfl⟩ hc rfl
  have ej:=VX (z:=(", ":Str)) ec (MK ok.1 ok.2 hw.2 (by omega))
  have htx:(E.pt h s es).tx=s++("(":Str)++Txt.join (", ":Str) (es.map E.tx)++(")":Str):=by simp [E.tx,E.Hs]
  have hB:=NW hd4
  rw [htx] at bnd ⊢
  have b0:=bnd
  rw [Ba,Ba,Ba,List.length_append,List.length_append,List.length_append] at b0
  have fit:∀ {x y:Str},(cds x).length+(cds y).length<=2000->x.length+y.length<=big:=fun {x y} hxy=>by
   rw [Eu,Eu]
   show _<=1000000
   omega
  exact (DB (n:=0) (g:=JV (DS n)) (args:=[vl (.tup [.str (hd h),.str s,.tup (es.map E.t)])]) (sq (Bx (GI (Fo (i:=0) g0 rfl) Az (Q0 h)) rfl) (Bl (Ap (Ap (Ap (Fo (i:=1) g0 rfl) Az (HW (fit (by omega)))) ej (HW (fit (by rw [Ba,List.length_append];omega)))) Az (HW (fit (by rw [Ba,Ba,List.length_append,List.length_append];omega))))))).trans rfl
theorem Jz {f:FS->Out Rv} {r:List (FS->Out Rv)} {acc z:Str} {fs:FS} {o:Out Rv} (h:f fs=.ok (.t (.str z)) fs) (hl:(acc++z).length<=big) (e:jsF r (acc++z) fs=o):jsF (f :: r) acc fs=o:=by
 unfold jsF
 rw [h]
 show (if (acc++z).length<=big then jsF r (acc++z) fs else .bad)=_
 rw [if_pos hl]
 exact e
theorem VW {acc:Str} {fs:FS} (hl:acc.length<=big):jsF [] acc fs=.ok (.t (.str acc)) fs:=by
 unfold jsF
 rw [if_pos hl]
 rfl
theorem Wo {f:FS->Out Rv} {z:Str} {fs:FS} (h:f fs=.ok (.t (.str z)) fs) (hl:z.length<=big):fvF f fs=.ok (.t (.str z)) fs:=by
 unfold fvF
 rw [h]
 show (if z.length<=big then okT (.str z) fs else .bad)=_
 rw [if_pos hl]
 rfl
theorem PH (s:Str):Str.empty++s=s:=Lg (by
 exact (Ba Str.empty s).trans rfl)
theorem shown:∀ (n d:Nat) (e:E),E.ok d e->d < n->d<=4->e.al Lw->Bq n [vl e.t]=.ok (.t (.str e.tx)) [vl e.t]
 | 0,d,e,_,h,_,_=>by omega
 | n+1,d,.nm s,_,_,_,_=>by
  rw [Nu]
  exact (DB (n:=4) (g:=Fj (Bq n)) (args:=[vl (.tup [.str "name",.str s])]) (Ej (EB (Ny (Fo (i:=0) (Aa rfl) rfl) Az rfl) (Bl (Fo (i:=1) (Aa rfl) rfl))))).trans (by simp [E.tx])
 | n+1,0,.pt h s es,ok,_,_,_=>by simp [E.ok] at ok
 | n+1,d+1,.pt h s es,ok,hn,hd4,hw=>by
  have bnd:=Iy ok hw
  simp only [E.ok] at ok
  simp only [E.al] at hw
  rw [LD]
  have g0:∀ {r:FS},Ab 0 (vl (.tup [.str (hd h),.str s,.tup (es.map E.t)]) :: r)=.ok (.t (.tup [.str (hd h),.str s,.tup (es.map E.t)])) (vl (.tup [.str (hd h),.str s,.tup (es.map E.t)]) :: r):=Aa rfl
  have s1:Sm (fz (Ab 0)) (BC 3 (Ar (tgN 1) (Ar (tgN 2) (Ar (tgN 3) Bs)))) [vl (.tup [.str (hd h),.str s,.tup (es.map E.t)]),none,none,none,none]=.nx [vl (.tup [.str (hd h),.str s,.tup (es.map E.t)]),vl (.str (hd h)),vl (.str s),vl (.tup (es.map E.t)),none] :=
   Ze (AF g0) rfl rfl rfl
  obtain ⟨y,_,hc⟩:=EX (fe:=fz (Am (AA 1 (Bq n)) (Ah (fz (Ab 0)) Ak))) (p:=E.t) (q:=fun e=>.str e.tx) (rest:=[]) es none [] Ay (fun x m =>
   CP (De (rs:=[.t x.t]) (Aj (AF (Aa rfl)) AE) rfl rfl (shown n d x (E.Fz ok.2 x m) (by omega) (by omega) (E.Ik hw.2 x m)))) (by show _<=1000000;simp;omega)
  rw [List.nil_append] at hc
  have ec:BN false [none] (itU (fz (Ab 3))) (tgN 0) EF (fz (Am (AA 1 (Bq n)) (Ah (fz (Ab 0)) Ak))) [vl (.tup [.str (hd h),.str s,.tup (es.map E.t)]),vl (.str (hd h)),vl (.str s),vl (.tup (es.map E.t)),none]=.ok (.t (.lst ((es.map E.tx).map T.str))) [vl (.tup [.str (hd h),.str s,.tup (es.map E.t)]),vl (.str (hd h)),vl (.str s),vl (.tup (es.map E.t)),none]:=by
   rw [List.map_map]
   exact CT (src:=[none]) (HS (AF (Aa rfl))) ⟨by rw [show Dm _ _=[] from rfl];simp,by rfl⟩ hc rfl
  have ej:=VX (z:=(", ":Str)) ec (MK ok.1 ok.2 hw.2 (by omega))
  have htx:(E.pt h s es).tx=s++("(":Str)++Txt.join (", ":Str) (es.map E.tx)++(")":Str):=by simp [E.tx,E.Hs]
  have hB:=NW hd4
  rw [htx] at bnd ⊢
  have b0:=bnd
  rw [Ba,Ba,Ba,List.length_append,List.length_append,List.length_append] at b0
  have s2:=Bt (i:=4) ej (fs':=[vl (.tup [.str (hd h),.str s,.tup (es.map E.t)]),vl (.str (hd h)),vl (.str s),vl (.tup (es.map E.t)),vl (.str (Txt.join (", ":Str) (es.map E.tx)))]) rfl
  have fit:∀ {x:Str},(cds x).length<=2000->x.length<=big:=fun {x} hx=>by
   rw [Eu]
   show _<=1000000
   omega
  have ejs:jsF ((fvF (Ab 2)) :: ((gc (.str ("(":Str))) :: ((fvF (Ab 4)) :: ((gc (.str (")":Str))) :: [])))) Str.empty [vl (.tup [.str (hd h),.str s,.tup (es.map E.t)]),vl (.str (hd h)),vl (.str s),vl (.tup (es.map E.t)),vl (.str (Txt.join (", ":Str) (es.map E.tx)))]=.ok (.t (.str (s++("(":Str)++Txt.join (", ":Str) (es.map E.tx)++(")":Str)))) [vl (.tup [.str (hd h),.str s,.tup (es.map E.t)]),vl (.str (hd h)),vl (.str s),vl (.tup (es.map E.t)),vl (.str (Txt.join (", ":Str) (es.map E.tx)))]:=by
   refine Jz (Wo (Aa rfl) (fit (by omega))) (by rw [PH];exact fit (by omega)) ?_
   rw [PH]
   exact Jz Az (fit (by rw [Ba,List.length_append];omega)) (Jz (Wo (Aa rfl) (fit (by omega))) (fit (by rw [Ba,Ba,List.length_append,List.length_append];omega)) (Jz Az (fit (by rw [Ba,Ba,Ba,List.length_append,List.length_append,List.length_append];omega)) (VW (fit (by rw [Ba,Ba,Ba,List.length_append,List.length_append,List.length_append];omega)))))
  exact (DB (n:=4) (g:=Fj (Bq n)) (args:=[vl (.tup [.str (hd h),.str s,.tup (es.map E.t)])]) (sq (Bx (GI (Fo (i:=0) g0 rfl) Az (Q0 h)) rfl) (sq s1 (sq s2 (Bl ejs))))).trans rfl
abbrev ch (c:Nat):Str:=⟨#[c]⟩
abbrev ED:Str:=⟨#[]⟩
def isM (c:Nat):Bool:=c == 40 || c == 41 || c == 44 || c == 32
theorem EY {a b:Nat}:ch a=ch b↔a=b:=by
 constructor
 ·intro h
  have:=congrArg cds h
  simpa [ch] using this
 ·rintro rfl;rfl
theorem mk_eq:Ce=[ch 40,ch 41,ch 44,ch 32]:=by decide +kernel
theorem LK (c:Nat):decide (ch c∈Ce)=isM c:=by
 rw [mk_eq,Bool.eq_iff_iff]
 simp [isM,EY]
 omega
theorem Ry {s:Str} (h:Lw s):s∉Ce:=by
 rw [mk_eq]
 intro m
 have key:∀ c,isM c=true->s≠ch c:=fun c hc e=>by
  have:=h.al c (by rw [e];simp [ch])
  simp [isM] at hc
  omega
 simp only [List.mem_cons,List.mem_nil_iff,or_false] at m
 rcases m with m | m | m | m
 ·exact key 40 rfl m
 ·exact key 41 rfl m
 ·exact key 44 rfl m
 ·exact key 32 rfl m
def step (st:List Str×Str) (c:Nat):List Str×Str:=if isM c=true then (st.1++[st.2,ch c],ED) else (st.1,st.2++ch c)
def prun (cs:List Nat) (st:List Str×Str):List Str×Str:=cs.foldl step st
theorem Kz {f:FS->Out Rv} {fs:FS} {z:Str} {neg:Bool} (h:f fs=.ok (.t (.str z)) fs):asB (inG neg Ce f) fs=.ok (if neg then !decide (z∈Ce) else decide (z∈Ce)) fs:=by
 refine Du ?_
 unfold inG
 rw [h]
 rfl
abbrev pcB:FS->SO:=(ifS (asB (inG false Ce (Ab 3))) (AN (Bb (AX Lz (Ab 1) (Ac (AD By (Ac (fz (Ab 2)) (Ac (fz (Ab 3)) Ak))) Ak)))
  (AY 2 (gc (.str ("":Str))))) (WO 2 (Ab 3)))
theorem Ou {x0:Option Sl}:∀ (cs:List Nat) (P:List Str) (w:Str) (x3:Option Sl),Fre x3->P.length+2 * cs.length<=100000->w.length+cs.length<=100000 ->
  ∃ y3,CQ (tgN 3) pcB (cs.map fun c=>T.str (ch c)) [x0,some (.own (.lst (P.map T.str))),vl (.str w),x3]=.nx [x0,some (.own (.lst ((prun cs (P,w)).1.map T.str))),vl (.str (prun cs (P,w)).2),y3]
 | [],P,w,x3,_,_,_=>⟨x3,by simp [CQ,prun]⟩
 | c :: cs,P,w,x3,f3,h1,h2=>by
  rw [List.length_cons] at h1 h2
  have e1:tgN 3 (.str (ch c)) [x0,some (.own (.lst (P.map T.str))),vl (.str w),x3]=some [x0,some (.own (.lst (P.map T.str))),vl (.str w),vl (.str (ch c))]:=by unfold tgN;exact Bi rfl f3
  have ct:=Kz (neg:=false) (f:=Ab 3) (z:=ch c) (fs:=[x0,some (.own (.lst (P.map T.str))),vl (.str w),vl (.str (ch c))]) (Aa rfl)
  rw [LK] at ct
  have hp:prun (c :: cs) (P,w)=prun cs (step (P,w) c):=rfl
  have b:pcB [x0,some (.own (.lst (P.map T.str))),vl (.str w),vl (.str (ch c))]=.nx [x0,some (.own (.lst ((step (P,w) c).1.map T.str))),vl (.str (step (P,w) c).2),vl (.str (ch c))]:=by
   cases hm:isM c with
   | true =>
    rw [hm] at ct
    have es:step (P,w) c=(P++[w,ch c],ED):=by unfold step;rw [if_pos hm]
    rw [es]
    refine EB ct (sq (fs':=[x0,some (.own (.lst ((P++[w,ch c]).map T.str))),vl (.str w),vl (.str (ch c))]) ?_ ?_)
    ·refine WE (i:=1) (ts:=P.map T.str) (us:=[.str w,.str (ch c)]) rfl (Cs (ts:=[.str w,.str (ch c)]) (Av (AF (Aa rfl)) (Av (AF (Aa rfl)) AE)) rfl (show 2<=big by decide)) (by show _<=1000000;rw [List.length_map];simp;omega) ?_
     rw [List.map_append]
     rfl
    ·refine Bt Az ?_
     rw [EV]
     rfl
   | false =>
    rw [hm] at ct
    have es:step (P,w) c=(P,w++ch c):=by unfold step;rw [if_neg (by rw [hm];simp)]
    rw [es]
    refine Bx ct ?_
    unfold WO
    show SO.of (Ab 3 _) _=_
    rw [Aa (t:=.str (ch c)) rfl]
    show (if w.length+(ch c).length<=big then _ else _)=_
    rw [if_pos (by show _<=1000000;have:(ch c).length=1:=rfl;omega)]
    rfl
  have hl1:(step (P,w) c).1.length+2 * cs.length<=100000:=by
   unfold step
   split <;> simp <;> omega
  have hl2:(step (P,w) c).2.length+cs.length<=100000:=by
   unfold step
   split
   ·show 0+_<=_
    omega
   ·have:(w++ch c).length=w.length+1:=by
     rw [Eu,Ba,List.length_append,<- Eu]
     rfl
    simp only [this]
    omega
  obtain ⟨y3,g⟩:=Ou (x0:=x0) cs (step (P,w) c).1 (step (P,w) c).2 (vl (.str (ch c))) AI hl1 hl2
  refine ⟨y3,?_⟩
  rw [List.map_cons,Fw e1 b,g,hp]
mutual
def E.tk:E->List Str
 | .nm s=>[s]
 | .pt _ s es=>s :: ch 40 :: (E.tks es++[ch 41])
def E.tks:List E->List Str
 | []=>[]
 | e :: es=>e.tk++E.tkr es
def E.tkr:List E->List Str
 | []=>[]
 | e :: es=>ch 44 :: ch 32 :: (e.tk++E.tkr es)
end
theorem IM (z:List Nat):∀ (a:List Nat) (r:List (List Nat)),inter z (a :: r)=a++r.flatMap fun b=>z++b
 | a,[]=>by simp [inter]
 | a,b :: r=>by
  rw [inter,IM z b r,List.flatMap_cons]
  simp
def cln (P:List Str):List Str:=P.filter fun s=>!decide (s=ED)
theorem Et (a b:List Str):cln (a++b)=cln a++cln b:=by simp [cln]
theorem GJ {s:Str} (h:s≠ED):cln [s]=[s]:=by simp [cln,h]
theorem LJ:cln [ED]=[]:=by simp [cln]
theorem PZ (c:Nat):ch c≠ED:=fun h=>by
 have:=congrArg cds h
 simp [ch,ED] at this
theorem VP {s:Str} (h:Lw s):s≠ED:=fun e=>by
 have:=h.lo
 rw [e] at this
 simp [ED] at this
theorem Ek (a b:List Nat) (st:List Str×Str):prun (a++b) st=prun b (prun a st):=List.foldl_append ..
theorem Gb {c:Nat} (h:isM c=true) (P:List Str) (w:Str):prun [c] (P,w)=(P++[w,ch c],ED):=by
 show step (P,w) c=_
 unfold step
 rw [if_pos h]
theorem Kf:∀ (cs:List Nat) (P:List Str) (w:Str),(∀ c∈cs,isM c=false)->∃ w',prun cs (P,w)=(P,w')/\cds w'=cds w++cs
 | [],P,w,_=>⟨w,rfl,by simp⟩
 | c :: cs,P,w,h=>by
  obtain ⟨w',g1,g2⟩:=Kf cs P (w++ch c) fun x m=>h x (List.mem_cons_of_mem _ m)
  refine ⟨w',?_,?_⟩
  ·show prun cs (step (P,w) c)=_
   unfold step
   rw [if_neg (by rw [h c (by simp)];simp)]
   exact g1
  ·rw [g2,Ba,List.append_assoc]
   rfl
theorem RL {s:Str} (h:Lw s) (P:List Str):prun (cds s) (P,ED)=(P,s):=by
 obtain ⟨w',g1,g2⟩:=Kf (cds s) P ED fun c m=>by
  have:=h.al c m
  simp [isM]
  omega
 rw [g1]
 have:w'=s:=Lg (g2.trans rfl)
 rw [this]
mutual
theorem W3:∀ (e:E),e.al Lw->∀ P:List Str,∃ P' w',prun (cds e.tx) (P,ED)=(P',w')/\cln (P'++[w'])=cln P++e.tk
 | .nm s,h,P=>by
  simp only [E.al] at h
  refine ⟨P,s,by simp only [E.tx];exact RL h P,?_⟩
  rw [Et,GJ (VP h)]
  simp [E.tk]
 | .pt b s es,h,P=>by
  simp only [E.al] at h
  obtain ⟨P1,w1,g1,g2⟩:=Xy es h.2 (P++[s,ch 40])
  refine ⟨P1++[w1,ch 41],ED,?_,?_⟩
  ·simp only [E.tx,E.Hs]
   rw [Ba,Ba,Ba,MG,p1,p2,p3,Ek,Ek,Ek,RL h.1,Gb (c:=40) rfl]
   rw [List.map_map]
   have g1':prun (inter [44,32] (List.map (cds∘E.tx) es)) (P++[s,ch 40],ED)=(P1,w1):=g1
   rw [g1',Gb (c:=41) rfl]
  ·have e1:P1++[w1,ch 41]++[ED]=(P1++[w1])++([ch 41]++[ED]):=by simp
   have e2:P++[s,ch 40]=P++([s]++[ch 40]):=by simp
   rw [e1,Et,g2,Et [ch 41],GJ (PZ 41),LJ,e2,Et P,Et [s],GJ (VP h.1),GJ (PZ 40)]
   simp [E.tk]
theorem Xy:∀ (es:List E),E.als Lw es->∀ P:List Str,∃ P' w',prun (inter [44,32] (es.map fun e=>cds e.tx)) (P,ED)=(P',w')/\cln (P'++[w'])=cln P++E.tks es
 | [],_,P=>⟨P,ED,rfl,by rw [Et,LJ];simp [E.tks]⟩
 | e :: es,h,P=>by
  simp only [E.als] at h
  obtain ⟨P1,w1,g1,g2⟩:=W3 e h.1 P
  obtain ⟨P2,w2,k1,k2⟩:=YE es h.2 P1 w1
  refine ⟨P2,w2,?_,?_⟩
  ·rw [List.map_cons,IM,Ek,g1,List.flatMap_map]
   exact k1
  ·rw [k2,g2]
   simp [E.tks]
theorem YE:∀ (es:List E),E.als Lw es->∀ (P:List Str) (w:Str),∃ P' w',prun (es.flatMap fun e=>[44,32]++cds e.tx) (P,w)=(P',w')/\cln (P'++[w'])=cln (P++[w])++E.tkr es
 | [],_,P,w=>⟨P,w,rfl,by simp [E.tkr]⟩
 | e :: es,h,P,w=>by
  simp only [E.als] at h
  obtain ⟨P1,w1,g1,g2⟩:=W3 e h.1 (P++[w,ch 44]++[ED,ch 32])
  obtain ⟨P2,w2,k1,k2⟩:=YE es h.2 P1 w1
  refine ⟨P2,w2,?_,?_⟩
  ·rw [List.flatMap_cons,show ([44,32]:List Nat)++cds e.tx=[44]++([32]++cds e.tx) from rfl,Ek,Ek,Ek,Gb (c:=44) rfl,Gb (c:=32) rfl,g1]
   exact k1
  ·have e1:P++[w,ch 44]++[ED,ch 32]=(P++[w])++([ch 44]++([ED]++[ch 32])):=by simp
   rw [k2,g2,e1,Et (P++[w]),Et [ch 44],Et [ED],GJ (PZ 44),LJ,GJ (PZ 32)]
   simp [E.tkr]
end
theorem Ib {α:Type} {ft:FS->Out Bool} {fe:FS->Out Rv} {p:α->T} {b:α->Bool} {rest:FS}:∀ (xs:List α) (x:Option Sl) (acc:List T),Fre x->(∀ a∈xs,ft (vl (p a) :: rest)=.ok (b a) (vl (p a) :: rest))->(∀ a∈xs,fe (vl (p a) :: rest)=.ok (.t (p a)) (vl (p a) :: rest))->acc.length+xs.length<=big ->
  ∃ y,Fre y/\Dq (tgN 0) ft fe (xs.map p) (x :: rest) acc=some (acc++(xs.filter b).map p,y :: rest)
 | [],x,acc,hx,_,_,_=>⟨x,hx,by simp [Dq]⟩
 | a :: xs,x,acc,hx,h,h',hl=>by
  rw [List.length_cons] at hl
  have h1:tgN 0 (p a) (x :: rest)=some (vl (p a) :: rest):=by
   unfold tgN
   rw [Bi (x:=x) rfl hx]
   rfl
  have h2:=h a List.mem_cons_self
  have h3:=h' a List.mem_cons_self
  have h4:acc.length < big:=by omega
  cases hb:b a with
  | true =>
   obtain ⟨y,hy,e⟩:=Ib xs (vl (p a)) (acc++[p a]) AI (fun c m=>h c (List.mem_cons_of_mem _ m)) (fun c m=>h' c (List.mem_cons_of_mem _ m)) (by simp;omega)
   refine ⟨y,hy,?_⟩
   rw [hb] at h2
   simp only [List.map_cons,Dq,h1,h2,h3,if_pos h4,e]
   simp [List.filter_cons,hb]
  | false =>
   obtain ⟨y,hy,e⟩:=Ib xs (vl (p a)) acc AI (fun c m=>h c (List.mem_cons_of_mem _ m)) (fun c m=>h' c (List.mem_cons_of_mem _ m)) (by omega)
   refine ⟨y,hy,?_⟩
   rw [hb] at h2
   simp only [List.map_cons,Dq,h1,h2,e]
   simp [List.filter_cons,hb]
theorem RZ {f g:FS->Out Rv} {fs:FS} {x y:Str} (h1:f fs=.ok (.t (.str x)) fs) (h2:g fs=.ok (.t (.str y)) fs):asB (Af (gEq true) f g) fs=.ok (!decide (x=y)) fs:=by
 refine Du (Ap h1 h2 ?_)
 have q:decide (V.str x=V.str y)=decide (x=y):=by
  by_cases h:x=y
  ·subst h;simp
  ·rw [decide_eq_false h,decide_eq_false (by intro z;cases z;exact h rfl)]
 show (if Lj (V.str x) (V.str y)=true then okT (.bl (if true=true then !decide (V.str x=V.str y) else _)) fs else .bad)=_
 rw [if_pos (show Lj (V.str x) (V.str y)=true from rfl),q]
 rfl
theorem Jm:∀ (cs:List Nat) (P:List Str) (w:Str),(prun cs (P,w)).1.length<=P.length+2 * cs.length
 | [],P,w=>by simp [prun]
 | c :: cs,P,w=>by
  show (prun cs (step (P,w) c)).1.length<=_
  have h:(step (P,w) c).1.length<=P.length+2:=by
   unfold step
   split <;> simp
  have:=Jm cs (step (P,w) c).1 (step (P,w) c).2
  rw [List.length_cons]
  have e:step (P,w) c=((step (P,w) c).1,(step (P,w) c).2):=rfl
  rw [<- e] at this
  omega
theorem pieces {d:Nat} {e:E} (ok:E.ok d e) (hd:d<=4) (hw:e.al Lw):C9 [vl (.str e.tx)]=.ok (.t (.lst (e.tk.map T.str))) [vl (.str e.tx)]:=by
 have hB:=Nat.le_trans (Iy ok hw) (NW hd)
 obtain ⟨P,w,g1,g2⟩:=W3 e hw []
 have hP:=Jm (cds e.tx) [] ED
 rw [g1] at hP
 have hP:P.length<=0+2 * (cds e.tx).length:=hP
 obtain ⟨y3,lp⟩:=Ou (x0:=vl (.str e.tx)) (cds e.tx) [] ED none Ay (by show 0+_<=_;omega) (by show 0+_<=_;omega)
 rw [g1] at lp
 have s1:AY 1 (AD DH Ak) [vl (.str e.tx),none,none,none]=.nx [vl (.str e.tx),some (.own (.lst [])),none,none]:=rfl
 have s2:AY 2 (gc (.str ("":Str))) [vl (.str e.tx),some (.own (.lst [])),none,none]=.nx [vl (.str e.tx),some (.own (.lst [])),vl (.str ED),none]:=by
  refine Bt Az ?_
  rw [EV]
  rfl
 have s3:Ef (itU (fz (Ab 0))) (tgN 3) pcB [vl (.str e.tx),some (.own (.lst [])),vl (.str ED),none]=.nx [vl (.str e.tx),some (.own (.lst (P.map T.str))),vl (.str w),y3]:=by
  have hi:itU (fz (Ab 0)) [vl (.str e.tx),some (.own (.lst [])),vl (.str ED),none]=.ok (signs e.tx) [vl (.str e.tx),some (.own (.lst [])),vl (.str ED),none]:=rfl
  unfold Ef
  rw [hi]
  exact lp
 have ecat:fz (Af AS (Ab 1) (AD By (Ac (fz (Ab 2)) Ak))) [vl (.str e.tx),some (.own (.lst (P.map T.str))),vl (.str w),y3]=.ok (.t (.lst ((P++[w]).map T.str))) [vl (.str e.tx),some (.own (.lst (P.map T.str))),vl (.str w),y3]:=by
  refine He (o:=.lst ((P++[w]).map T.str)) (MI (Ep (i:=1) rfl) (Cs (ts:=[.str w]) (Av (AF (Aa rfl)) AE) rfl (show 1<=big by decide)) ?_)
  have:KG (.rf 1) (.t (.lst [.str w])) [vl (.str e.tx),some (.own (.lst (P.map T.str))),vl (.str w),y3]=.ok (.nw (.lst ((P++[w]).map T.str))) [vl (.str e.tx),some (.own (.lst (P.map T.str))),vl (.str w),y3]:=by
   rw [List.map_append]
   exact if_pos (by show _<=1000000;rw [List.length_map];show _+1<=_;omega)
  show (match KG (.rf 1) (.t (.lst [.str w])) _ with | .bad=>_ | o=>o)=_
  rw [this]
 obtain ⟨y,_,hc⟩:=Ib (ft:=asB (Af (gEq true) (Ab 0) (gc (.str ("":Str))))) (fe:=fz (Ab 0)) (p:=T.str) (b:=fun s=>!decide (s=ED)) (rest:=[]) (P++[w]) none [] Ay (fun a _=>by
  have:=RZ (f:=Ab 0) (g:=gc (.str ("":Str))) (fs:=[vl (.str a)]) (x:=a) (Aa rfl) Az
  rw [show (("":Str)=ED) from EV] at this ⊢
  exact this) (fun a _=>AF (Aa rfl)) (by show 0+_<=1000000;rw [List.length_append];show 0+(_+1)<=_;omega)
 rw [List.nil_append] at hc
 have hf:(P++[w]).filter (fun s=>!decide (s=ED))=e.tk:=by
  have:cln (P++[w])=e.tk:=by rw [g2];simp [cln]
  exact this
 rw [hf] at hc
 have ec:=CT (src:=[none]) (fs:=[vl (.str e.tx),some (.own (.lst (P.map T.str))),vl (.str w),y3]) (GD ecat) ⟨by rw [show Dm _ _=[] from rfl];simp,by rfl⟩ hc rfl
 exact (DB (n:=3) (g:=FN) (args:=[vl (.str e.tx)]) (sq s1 (sq s2 (sq s3 (Bl ec))))).trans rfl
theorem TC {s:Str} (h:Lw s):A8 [vl (.str s)]=.ok (.t (.bl true)) [vl (.str s)]:=IJ (by rw [Eu];exact h.lo) (by rw [Eu];exact h.hi) h.al
theorem R9 {s:Str} (h:Lw s):CS [vl (.str s)]=.ok (.t (.str "word")) [vl (.str s)]:=by
 have c:=Kz (neg:=false) (f:=Ab 0) (z:=s) (fs:=[vl (.str s)]) (Aa rfl)
 rw [decide_eq_false (Ry h)] at c
 have c2:Fl (FQ (fz (Am (AA 1 A8) (Ah (fz (Ab 0)) Ak)))) [vl (.str s)]=.ok false [vl (.str s)]:=FD (EH (CP (De (rs:=[.t (.str s)]) (Aj (AF (Aa rfl)) AE) rfl rfl (TC h))))
 exact (DB (n:=0) (g:=Gn) (args:=[vl (.str s)]) (sq (Bx c rfl) (sq (Bx c2 rfl) (Bl Az)))).trans rfl
theorem Mx {c:Nat} (h:isM c=true):CS [vl (.str (ch c))]=.ok (.t (.str (ch c))) [vl (.str (ch c))]:=by
 have q:=Kz (neg:=false) (f:=Ab 0) (z:=ch c) (fs:=[vl (.str (ch c))]) (Aa rfl)
 rw [LK,h] at q
 exact (DB (n:=0) (g:=Gn) (args:=[vl (.str (ch c))]) (Ej (EB q (Bl (Aa rfl))))).trans rfl
def alw (a f:Str):Bool:=match tabAt Dh a with
 | some ts=>decide (f∈ts)
 | none=>false
theorem R4 {f g:FS->Out Rv} {fs:FS} {z k:Str} (h1:f fs=.ok (.t (.str z)) fs) (h2:g fs=.ok (.t (.str k)) fs) (h:alw k z=true):asB (inB true Dh f g) fs=.ok false fs:=by
 refine Du ?_
 unfold alw at h
 cases e:tabAt Dh k with
 | none=>rw [e] at h;cases h
 | some ts=>
  rw [e] at h
  have h':decide (z∈ts)=true:=h
  unfold inB
  simp only [h1,h2,Out.bnd,Out.bind,e,h']
  try rfl
abbrev nbB:FS->SO:=(AN (AY 3 (fz (Am (AA 1 CS) (Ah (fz (Ab 2)) Ak))))
  (AN (ifS (asB (inB true Dh (Ab 3) (Ab 1))) (fun _=>.bad) nxS)
  (AY 1 (fz (Ab 3)))))
theorem Gz {x0 x2 x3:Option Sl} {t a f:Str} {ts:List T} (f2:Fre x2) (f3:Fre x3) (hf:CS [vl (.str t)]=.ok (.t (.str f)) [vl (.str t)]) (ha:alw a f=true) :
  CQ (tgN 2) nbB (.str t :: ts) [x0,vl (.str a),x2,x3]=CQ (tgN 2) nbB ts [x0,vl (.str f),vl (.str t),vl (.str f)]:=by
 have e1:tgN 2 (.str t) [x0,vl (.str a),x2,x3]=some [x0,vl (.str a),vl (.str t),x3]:=by unfold tgN;exact Bi rfl f2
 have s3:AY 3 (fz (Am (AA 1 CS) (Ah (fz (Ab 2)) Ak))) [x0,vl (.str a),vl (.str t),x3]=.nx [x0,vl (.str a),vl (.str t),vl (.str f)] :=
  Bt (CP (De (rs:=[.t (.str t)]) (Aj (AF (Aa rfl)) AE) rfl rfl hf)) (Bi rfl f3)
 exact Fw e1 (sq s3 (sq (Bx (R4 (Aa rfl) (Aa rfl) ha) rfl) (Bt (AF (Aa rfl)) rfl)))
def Xg (a:Str):Prop:=a="word"∨a=ch 41
theorem PF {a:Str} (h:Xg a):alw a (ch 41)=true/\alw a (ch 44)=true/\alw a "end"=true:=by
 rcases h with rfl | rfl <;> decide +kernel
mutual
theorem X1 {x0:Option Sl}:∀ (e:E),e.al Lw->∀ (a:Str) (rest:List Str) (x2 x3:Option Sl),alw a "word"=true->Fre x2->Fre x3 ->
  ∃ a' y2 y3,Xg a'/\Fre y2/\Fre y3/\CQ (tgN 2) nbB ((e.tk++rest).map T.str) [x0,vl (.str a),x2,x3]=CQ (tgN 2) nbB (rest.map T.str) [x0,vl (.str a'),y2,y3]
 | .nm s,h,a,rest,x2,x3,ha,f2,f3=>by
  simp only [E.al] at h
  refine ⟨"word",vl (.str s),vl (.str "word"),.inl rfl,AI,AI,?_⟩
  simp only [E.tk,List.cons_append,List.nil_append,List.map_cons]
  exact Gz f2 f3 (R9 h) ha
 | .pt b s es,h,a,rest,x2,x3,ha,f2,f3=>by
  simp only [E.al] at h
  simp only [E.tk,List.cons_append,List.append_assoc,List.map_cons]
  rw [Gz f2 f3 (R9 h.1) ha,Gz AI AI (Mx (c:=40) rfl) (by decide +kernel)]
  obtain ⟨a',y2,y3,ha',k2,k3,g⟩:=X0 (x0:=x0) es h.2 (ch 41 :: rest) (vl (.str (ch 40))) (vl (.str (ch 40))) AI AI
  refine ⟨ch 41,vl (.str (ch 41)),vl (.str (ch 41)),.inr rfl,AI,AI,?_⟩
  rw [List.nil_append,g,List.map_cons,Gz k2 k3 (Mx (c:=41) rfl) ha']
theorem X0 {x0:Option Sl}:∀ (es:List E),E.als Lw es->∀ (rest:List Str) (x2 x3:Option Sl),Fre x2->Fre x3 ->
  ∃ a' y2 y3,alw a' (ch 41)=true/\Fre y2/\Fre y3/\CQ (tgN 2) nbB ((E.tks es++rest).map T.str) [x0,vl (.str (ch 40)),x2,x3]=CQ (tgN 2) nbB (rest.map T.str) [x0,vl (.str a'),y2,y3]
 | [],_,rest,x2,x3,f2,f3=>⟨ch 40,x2,x3,by decide +kernel,f2,f3,by simp [E.tks]⟩
 | e :: es,h,rest,x2,x3,f2,f3=>by
  simp only [E.als] at h
  obtain ⟨a1,y2,y3,ha,k2,k3,g⟩:=X1 (x0:=x0) e h.1 (ch 40) (E.tkr es++rest) x2 x3 (by decide +kernel) f2 f3
  obtain ⟨a2,z2,z3,hb,m2,m3,g'⟩:=YG (x0:=x0) es h.2 a1 rest y2 y3 ha k2 k3
  refine ⟨a2,z2,z3,(PF hb).1,m2,m3,?_⟩
  simp only [E.tks]
  rw [List.append_assoc,g,g']
theorem YG {x0:Option Sl}:∀ (es:List E),E.als Lw es->∀ (a:Str) (rest:List Str) (x2 x3:Option Sl),Xg a->Fre x2->Fre x3 ->
  ∃ a' y2 y3,Xg a'/\Fre y2/\Fre y3/\CQ (tgN 2) nbB ((E.tkr es++rest).map T.str) [x0,vl (.str a),x2,x3]=CQ (tgN 2) nbB (rest.map T.str) [x0,vl (.str a'),y2,y3]
 | [],_,a,rest,x2,x3,ha,f2,f3=>⟨a,x2,x3,ha,f2,f3,by simp [E.tkr]⟩
 | e :: es,h,a,rest,x2,x3,ha,f2,f3=>by
  simp only [E.als] at h
  simp only [E.tkr,List.cons_append,List.append_assoc,List.map_cons]
  rw [Gz f2 f3 (Mx (c:=44) rfl) (PF ha).2.1,Gz AI AI (Mx (c:=32) rfl) (by decide +kernel)]
  obtain ⟨a1,y2,y3,ha1,k2,k3,g⟩:=X1 (x0:=x0) e h.1 (ch 32) (E.tkr es++rest) (vl (.str (ch 32))) (vl (.str (ch 32))) (by decide +kernel) AI AI
  obtain ⟨a2,z2,z3,hb,m2,m3,g'⟩:=YG (x0:=x0) es h.2 a1 rest y2 y3 ha1 k2 k3
  exact ⟨a2,z2,z3,hb,m2,m3,by rw [g,g']⟩
end
theorem Nd {e:E} (hw:e.al Lw):A9 [vl (.lst (e.tk.map T.str))]=.ok (.t .non) [vl (.lst (e.tk.map T.str))]:=by
 obtain ⟨a',y2,y3,ha,_,_,g⟩:=X1 (x0:=vl (.lst (e.tk.map T.str))) e hw "start" [] none none (by decide +kernel) Ay Ay
 rw [List.append_nil] at g
 have s1:AY 1 (gc (.str ("start":Str))) [vl (.lst (e.tk.map T.str)),none,none,none]=.nx [vl (.lst (e.tk.map T.str)),vl (.str "start"),none,none]:=rfl
 have s2:Ef (itU (fz (Ab 0))) (tgN 2) nbB [vl (.lst (e.tk.map T.str)),vl (.str "start"),none,none]=.nx [vl (.lst (e.tk.map T.str)),vl (.str a'),y2,y3]:=by
  have hi:itU (fz (Ab 0)) [vl (.lst (e.tk.map T.str)),vl (.str "start"),none,none]=.ok (e.tk.map T.str) [vl (.lst (e.tk.map T.str)),vl (.str "start"),none,none]:=GD (AF (Aa rfl))
  unfold Ef
  rw [hi]
  exact g
 have all:BG [vl (.lst (e.tk.map T.str)),none,none,none]=.nx [vl (.lst (e.tk.map T.str)),vl (.str a'),y2,y3] :=
  sq s1 (sq s2 (Bx (R4 Az (Aa rfl) (PF ha).2.2) rfl))
 show Dj 3 BG _=_
 unfold Dj
 show (match BG [vl (.lst (e.tk.map T.str)),none,none,none] with | .nx τ=>_ | .ret (.t t) τ=>_ | .ret (.nw o) τ=>_ | .ret (.rf i) τ=>_ | .exc c τ=>_ | _=>_)=_
 rw [all]
 rfl
theorem V5 {k:Str} {xs:List Str} {fs:FS}:FR false (.t (.str k)) (.t (.tup (xs.map T.str))) fs=.ok (.t (.bl (decide (k∈xs)))) fs:=by
 have:gIn false (.t (.str k)) (.t (.tup (xs.map T.str))) fs=.ok (.t (.bl (decide (k∈xs)))) fs:=by
  show (match (some (xs.map T.str)).bind RO with | some vs=>okT (.bl (if false=true then !inV (.str k) vs else inV (.str k) vs)) fs | none=>.bad)=_
  rw [Option.bind_some,Hk]
  show okT (.bl (inV (.str k) (xs.map V.str))) fs=_
  rw [JD]
  rfl
 exact this
theorem c41:(")":Str)=ch 41:=by decide +kernel
theorem c44:(",":Str)=ch 44:=by decide +kernel
theorem c40:("(":Str)=ch 40:=by decide +kernel
theorem Ir {s:Str} (h:Lw s) {c:Nat} (hc:isM c=true):s≠ch c:=fun e=>by
 have:=h.al c (by rw [e];simp [cds,ch])
 simp [isM] at hc
 omega
abbrev bkB:FS->SO:=(AN (ifS (Sn (asB (Af (FR false) (fz (Ab 2)) (AD Bp (Ac (gc (.str (")":Str))) (Ac (gc (.str (",":Str))) Ak))))) (asB (Af (gEq false) (Ab 1) (gc (.int 0))))) (fun _=>.bad) nxS)
  (AN (ifS (asB (Af (gEq false) (Ab 2) (gc (.str ("(":Str))))) (W9 1 (gc (.int 1))) nxS)
  (ifS (asB (Af (gEq false) (Ab 2) (gc (.str (")":Str))))) (Xa 1 (gc (.int 1))) nxS)))
theorem Sj {x0 x2:Option Sl} {t:Str} {u:Int} {ts:List T} (f2:Fre x2) (h:t=ch 41∨t=ch 44->u≠0) :
  CQ (tgN 2) bkB (.str t :: ts) [x0,iv u,x2]=CQ (tgN 2) bkB ts [x0,iv (if t=ch 40 then u+1 else if t=ch 41 then u - 1 else u),vl (.str t)]:=by
 have e1:tgN 2 (.str t) [x0,iv u,x2]=some [x0,iv u,vl (.str t)]:=by unfold tgN;exact Bi rfl f2
 have i1:asB (Af (FR false) (fz (Ab 2)) (AD Bp (Ac (gc (.str (")":Str))) (Ac (gc (.str (",":Str))) Ak)))) [x0,iv u,vl (.str t)]=.ok (decide (t∈[(")":Str),","])) [x0,iv u,vl (.str t)] :=
  Du (Ap (AF (Aa rfl)) (CG (g:=Bp) (ts:=[.str ")",.str ","]) (Av Az (Av Az AE)) rfl (show 2<=big by decide) rfl) (V5 (xs:=[")",","])))
 have i2:=KI (fa:=Ab 1) (fb:=gc (.int 0)) (fs:=[x0,iv u,vl (.str t)]) (i:=u) (Aa rfl) Az
 have c1:=UG i1 i2
 have hf:(decide (t∈[(")":Str),","]) && decide (u=0))=false:=by
  by_cases m:t∈[(")":Str),","]
  ·rw [c41,c44] at m
   have:u≠0:=h (by simpa using m)
   rw [decide_eq_false this,Bool.and_false]
  ·rw [decide_eq_false m,Bool.false_and]
 rw [hf] at c1
 refine Fw e1 (sq (Bx c1 rfl) ?_)
 have c2:=Gi (fa:=Ab 2) (fb:=gc (.str ("(":Str))) (fs:=[x0,iv u,vl (.str t)]) (x:=t) (Aa rfl) Az
 rw [c40] at c2
 by_cases h40:t=ch 40
 ·rw [decide_eq_true h40] at c2
  rw [if_pos h40]
  have h41:t≠ch 41:=by rw [h40];intro z;exact absurd (EY.mp z) (by decide)
  refine sq (fs':=[x0,iv (u+1),vl (.str t)]) (by rw [c40];exact EB c2 rfl) ?_
  exact Bx (GI (Aa rfl) Az (by rw [c41];exact h41)) rfl
 ·rw [decide_eq_false h40] at c2
  rw [if_neg h40]
  refine sq (fs':=[x0,iv u,vl (.str t)]) (by rw [c40];exact Bx c2 rfl) ?_
  by_cases h41:t=ch 41
  ·rw [if_pos h41]
   exact EB (Ny (Aa rfl) Az (by rw [c41];exact h41)) rfl
  ·rw [if_neg h41]
   exact Bx (GI (Aa rfl) Az (by rw [c41];exact h41)) rfl
theorem YJ {x0 x2:Option Sl} {s:Str} {u:Int} {ts:List T} (f2:Fre x2) (h:Lw s):CQ (tgN 2) bkB (.str s :: ts) [x0,iv u,x2]=CQ (tgN 2) bkB ts [x0,iv u,vl (.str s)]:=by
 rw [Sj f2 (fun z=>by rcases z with z | z;exact absurd z (Ir h rfl);exact absurd z (Ir h rfl)),if_neg (Ir h rfl),if_neg (Ir h rfl)]
theorem W8 {x0 x2:Option Sl} {c:Nat} {u v:Int} {ts:List T} (f2:Fre x2) (h:c=41∨c=44->u≠0) (hv:v=if c=40 then u+1 else if c=41 then u - 1 else u):CQ (tgN 2) bkB (.str (ch c) :: ts) [x0,iv u,x2]=CQ (tgN 2) bkB ts [x0,iv v,vl (.str (ch c))]:=by
 rw [Sj f2 (fun z=>h (by rcases z with z | z;exact .inl (EY.mp z);exact .inr (EY.mp z))),hv]
 simp only [EY]
mutual
theorem Ys {x0:Option Sl}:∀ (e:E),e.al Lw->∀ (u:Int) (rest:List Str) (x2:Option Sl),0<=u->Fre x2 ->
  ∃ y2,Fre y2/\CQ (tgN 2) bkB ((e.tk++rest).map T.str) [x0,iv u,x2]=CQ (tgN 2) bkB (rest.map T.str) [x0,iv u,y2]
 | .nm s,h,u,rest,x2,hu,f2=>by
  simp only [E.al] at h
  refine ⟨vl (.str s),AI,?_⟩
  simp only [E.tk,List.cons_append,List.nil_append,List.map_cons]
  exact YJ f2 h
 | .pt b s es,h,u,rest,x2,hu,f2=>by
  simp only [E.al] at h
  simp only [E.tk,List.cons_append,List.append_assoc,List.map_cons]
  rw [YJ f2 h.1,W8 (c:=40) (v:=u+1) AI (fun z=>by omega) rfl]
  obtain ⟨y2,k2,g⟩:=Yr (x0:=x0) es h.2 (u+1) (ch 41 :: rest) (vl (.str (ch 40))) (by omega) AI
  refine ⟨vl (.str (ch 41)),AI,?_⟩
  rw [List.nil_append,g,List.map_cons,W8 (c:=41) (v:=u) k2 (fun _=>by omega) (by simp)]
theorem Yr {x0:Option Sl}:∀ (es:List E),E.als Lw es->∀ (u:Int) (rest:List Str) (x2:Option Sl),1<=u->Fre x2 ->
  ∃ y2,Fre y2/\CQ (tgN 2) bkB ((E.tks es++rest).map T.str) [x0,iv u,x2]=CQ (tgN 2) bkB (rest.map T.str) [x0,iv u,y2]
 | [],_,u,rest,x2,_,f2=>⟨x2,f2,by simp [E.tks]⟩
 | e :: es,h,u,rest,x2,hu,f2=>by
  simp only [E.als] at h
  obtain ⟨y2,k2,g⟩:=Ys (x0:=x0) e h.1 u (E.tkr es++rest) x2 (by omega) f2
  obtain ⟨z2,m2,g'⟩:=YK (x0:=x0) es h.2 u rest y2 hu k2
  refine ⟨z2,m2,?_⟩
  simp only [E.tks]
  rw [List.append_assoc,g,g']
theorem YK {x0:Option Sl}:∀ (es:List E),E.als Lw es->∀ (u:Int) (rest:List Str) (x2:Option Sl),1<=u->Fre x2 ->
  ∃ y2,Fre y2/\CQ (tgN 2) bkB ((E.tkr es++rest).map T.str) [x0,iv u,x2]=CQ (tgN 2) bkB (rest.map T.str) [x0,iv u,y2]
 | [],_,u,rest,x2,_,f2=>⟨x2,f2,by simp [E.tkr]⟩
 | e :: es,h,u,rest,x2,hu,f2=>by
  simp only [E.als] at h
  simp only [E.tkr,List.cons_append,List.append_assoc,List.map_cons]
  rw [W8 (c:=44) (v:=u) f2 (fun _=>by omega) rfl,W8 (c:=32) (v:=u) AI (fun z=>by omega) rfl]
  obtain ⟨y2,k2,g⟩:=Ys (x0:=x0) e h.1 u (E.tkr es++rest) (vl (.str (ch 32))) (by omega) AI
  obtain ⟨z2,m2,g'⟩:=YK (x0:=x0) es h.2 u rest y2 hu k2
  exact ⟨z2,m2,by rw [g,g']⟩
end
theorem brackets {e:E} (hw:e.al Lw):Bk [vl (.lst (e.tk.map T.str))]=.ok (.t .non) [vl (.lst (e.tk.map T.str))]:=by
 obtain ⟨y2,_,g⟩:=Ys (x0:=vl (.lst (e.tk.map T.str))) e hw 0 [] none (by omega) Ay
 rw [List.append_nil] at g
 have s1:AY 1 (gc (.int 0)) [vl (.lst (e.tk.map T.str)),none,none]=.nx [vl (.lst (e.tk.map T.str)),iv 0,none]:=rfl
 have s2:Ef (itU (fz (Ab 0))) (tgN 2) bkB [vl (.lst (e.tk.map T.str)),iv 0,none]=.nx [vl (.lst (e.tk.map T.str)),iv 0,y2]:=by
  have hi:itU (fz (Ab 0)) [vl (.lst (e.tk.map T.str)),iv 0,none]=.ok (e.tk.map T.str) [vl (.lst (e.tk.map T.str)),iv 0,none]:=GD (AF (Aa rfl))
  unfold Ef
  rw [hi]
  exact g
 have c:=Wc (fa:=Ab 1) (fb:=gc (.int 0)) (fs:=[vl (.lst (e.tk.map T.str)),iv 0,y2]) (Aa rfl) Az
 rw [decide_eq_false (by omega)] at c
 have all:BS [vl (.lst (e.tk.map T.str)),none,none]=.nx [vl (.lst (e.tk.map T.str)),iv 0,y2]:=sq s1 (sq s2 (Bx c rfl))
 show Dj 2 BS _=_
 unfold Dj
 show (match BS [vl (.lst (e.tk.map T.str)),none,none] with | .nx τ=>_ | .ret (.t t) τ=>_ | .ret (.nw o) τ=>_ | .ret (.rf i) τ=>_ | .exc c τ=>_ | _=>_)=_
 rw [all]
 rfl
section
variable {C:Addr} {K:Kd} {hs:List T}
theorem Qb (s:Str):∀ K:Kd,(K.map fun kd=>decide (s∈kd.2.map (·.1))).any id=decide (s∈mks K)
 | []=>by simp [mks]
 | kd :: K=>by
  rw [List.map_cons,List.any_cons,Qb s K,Em]
  by_cases h:s∈kd.2.map (·.1)
  ·rw [decide_eq_true h,decide_eq_true (List.mem_append_left _ h)]
   rfl
  ·rw [decide_eq_false h]
   by_cases h2:s∈mks K
   ·rw [decide_eq_true h2,decide_eq_true (List.mem_append_right _ h2)]
    rfl
   ·rw [decide_eq_false h2,decide_eq_false (fun m=>by rcases List.mem_append.mp m with m | m;exact h m;exact h2 m)]
    rfl
theorem DG (W:Well K) (s:Str):Dc C [vl (Ax C K hs),vl (.str s)]=.ok (.t (.bl (decide (s∈mks K)))) [vl (Ax C K hs),vl (.str s)]:=by
 have e1:fz (GB C "kinds" 1 (Bn C) (fz (Ab 0)) Ak) [vl (Ax C K hs),vl (.str s)]=.ok (.t (.lst ((K.map (·.1)).map T.str))) [vl (Ax C K hs),vl (.str s)] :=
  He (o:=.lst ((K.map (·.1)).map T.str)) (Mm (rs:=[]) (AF (Aa rfl)) (Mr Kx.1) AE rfl rfl Qp (.inr ⟨_,rfl⟩))
 obtain ⟨y,_,hc⟩:=EX (fe:=Af (FR false) (fz (Ab 1)) (fz (GB C "makers" 2 (A7 C) (fz (Ab 2)) (Ah (fz (Ab 0)) Ak)))) (p:=fun kd:Str×List (Str×List Str)=>T.str kd.1) (q:=fun kd=>T.bl (decide (s∈kd.2.map (·.1)))) (rest:=[vl (.str s),vl (Ax C K hs)]) K none [] Ay (fun kd m=>by
  have e2:fz (GB C "makers" 2 (A7 C) (fz (Ab 2)) (Ah (fz (Ab 0)) Ak)) [vl (.str kd.1),vl (.str s),vl (Ax C K hs)]=.ok (.t (.lst ((kd.2.map (·.1)).map T.str))) [vl (.str kd.1),vl (.str s),vl (Ax C K hs)] :=
   He (o:=.lst ((kd.2.map (·.1)).map T.str)) (Mm (rs:=[.t (.str kd.1)]) (AF (Aa rfl)) (Mr Kx.2.1) (Aj (AF (Aa rfl)) AE) rfl rfl (N0 W m) (.inr ⟨_,rfl⟩))
  exact Ap (AF (Aa rfl)) e2 Pa) (by show _<=1000000;have:=W.hi;simp;omega)
 rw [List.nil_append] at hc
 have ec:BN false [none,some 1,some 0] (itU (fz (GB C "kinds" 1 (Bn C) (fz (Ab 0)) Ak))) (tgN 0) EF (Af (FR false) (fz (Ab 1)) (fz (GB C "makers" 2 (A7 C) (fz (Ab 2)) (Ah (fz (Ab 0)) Ak)))) [vl (Ax C K hs),vl (.str s)]=.ok (.t (.lst ((K.map fun kd=>decide (s∈kd.2.map (·.1))).map T.bl))) [vl (Ax C K hs),vl (.str s)]:=by
  rw [List.map_map]
  rw [List.map_map] at e1
  exact CT (src:=[none,some 1,some 0]) (GD e1) ⟨by rw [show Dm _ _=[] from rfl];simp,by rfl⟩ hc rfl
 have ea:Am Wk (Ac (BN false [none,some 1,some 0] (itU (fz (GB C "kinds" 1 (Bn C) (fz (Ab 0)) Ak))) (tgN 0) EF (Af (FR false) (fz (Ab 1)) (fz (GB C "makers" 2 (A7 C) (fz (Ab 2)) (Ah (fz (Ab 0)) Ak))))) Ak) [vl (Ax C K hs),vl (.str s)]=.ok (.t (.bl (decide (s∈mks K)))) [vl (Ax C K hs),vl (.str s)]:=by
  refine Di (Av ec AE) ?_
  show (match (some ((K.map fun kd=>decide (s∈kd.2.map (·.1))).map T.bl)).bind EC with | some ns=>okT (.bl (ns.any id)) _ | none=>.bad)=_
  rw [Option.bind_some,Ii]
  show okT (.bl ((K.map fun kd=>decide (s∈kd.2.map (·.1))).any id)) _=_
  rw [Qb]
  rfl
 exact (DB (n:=0) (g:=GN C) (args:=[vl (Ax C K hs),vl (.str s)]) (Bl ea)).trans rfl
theorem NN (W:Well K) (s:Str) (ts:List T):BB C [vl (Ax C K hs),vl (.str s),vl (.tup ts)]=.ok (.t (.tup [.str (hd (decide (s∈mks K))),.str s,.tup ts])) [vl (Ax C K hs),vl (.str s),vl (.tup ts)]:=by
 have c:FQ (fz (Am (AA 2 (Dc C)) (Ah (fz (Ab 0)) (Ah (fz (Ab 1)) Ak)))) [vl (Ax C K hs),vl (.str s),vl (.tup ts)]=.ok (decide (s∈mks K)) [vl (Ax C K hs),vl (.str s),vl (.tup ts)] :=
  EH (CP (De (rs:=[.t (Ax C K hs),.t (.str s)]) (Aj (AF (Aa rfl)) (Aj (AF (Aa rfl)) AE)) rfl rfl (DG W s)))
 have ei:ifV (FQ (fz (Am (AA 2 (Dc C)) (Ah (fz (Ab 0)) (Ah (fz (Ab 1)) Ak))))) (gc (.str ("make":Str))) (gc (.str ("call":Str))) [vl (Ax C K hs),vl (.str s),vl (.tup ts)]=.ok (.t (.str (hd (decide (s∈mks K))))) [vl (Ax C K hs),vl (.str s),vl (.tup ts)]:=by
  cases hb:decide (s∈mks K) with
  | true=>rw [hb] at c;exact X8 c rfl
  | false=>rw [hb] at c;exact X9 c rfl
 exact (DB (n:=0) (g:=DA C) (args:=[vl (Ax C K hs),vl (.str s),vl (.tup ts)]) (Bl (CG (g:=Bp) (ts:=[.str (hd (decide (s∈mks K))),.str s,.tup ts]) (Av ei (Av (AF (Aa rfl)) (Av (AF (Aa rfl)) AE))) rfl (show 3<=big by decide) rfl))).trans rfl
end
mutual
def E.re (f:Str->Bool):E->E
 | .nm s=>.nm s
 | .pt _ s es=>.pt (f s) s (E.res f es)
def E.res (f:Str->Bool):List E->List E
 | []=>[]
 | e :: es=>e.re f :: E.res f es
end
theorem E.Jg (f:Str->Bool):∀ es:List E,E.res f es=es.map (E.re f)
 | []=>by simp [E.res]
 | e :: es=>by simp [E.res,E.Jg f es]
def pr2:List Str->Str->List T
 | [],_=>[]
 | a :: l,n=>.tup [.str a,.str (l.headD n)] :: pr2 l n
theorem Kj:∀ (l:List Str) (n:Str),FL.pairs (l.map T.str) ((l.drop 1++[n]).map T.str)=pr2 l n
 | [],n=>by simp [FL.pairs,pr2]
 | [a],n=>by simp [FL.pairs,pr2]
 | a :: b :: l,n=>by
  have ih:=Kj (b :: l) n
  simp only [List.drop_succ_cons,List.drop_zero,List.map_cons,List.cons_append,FL.pairs] at ih ⊢
  rw [ih]
  simp [pr2]
theorem Ja {i:Nat} {f:FS->Out Rv} {fs fs1 fs':FS} {os:List FO} {ts:List T} {t:T} (h0:fs[i]?=some (some (.own (.los (os++[.lst ts]))))) (h:f (fs.set i none)=.ok (.t t) fs1) (h1:fs1[i]?=some none) (hl:ts.length < 1000)
  (e:fs1.set i (some (.own (.los (os++[.lst (ts++[t])]))))=fs'):E4 i f fs=.nx fs':=by
 unfold E4
 rw [h0]
 simp only [List.getLast?_concat,List.dropLast_concat,h,SO.of,h1]
 rw [if_pos hl,e]
theorem Vl {i:Nat} {fs fs':FS} {os:List FO} {o:FO} (h0:fs[i]?=some (some (.own (.los (os++[o]))))) (e:fs.set i (some (.own (.los os)))=fs'):RM i fs=.ok (.nw o) fs':=by
 have h2:FL.A1 fs i=some (.los (os++[o])):=VI h0
 have h3:FL.putAt fs i (.los os)=fs':=by
  unfold FL.putAt
  rw [h0]
  exact e
 unfold RM
 simp only [h2,List.getLast?_concat,List.dropLast_concat,h3]
theorem UE {i:Nat} {f:FS->Out Rv} {fs fs':FS} {os:List FO} {o:FO} (h0:fs[i]?=some (some (.own (.los os)))) (h:f fs=.ok (.nw o) fs) (hl:os.length < 1000) (e:fs.set i (some (.own (.los (os++[o]))))=fs'):UR i f fs=.nx fs':=by
 have h2:FL.A1 fs i=some (.los os):=VI h0
 have h3:FL.putAt fs i (.los (os++[o]))=fs':=by
  unfold FL.putAt
  rw [h0]
  exact e
 unfold UR
 simp only [h2,h,SO.of,Xb]
 rw [if_pos hl,h3]
section
variable {C:Addr} {K:Kd} {hs:List T} {ps:T}
abbrev rwO (r:List E):FO:=.lst (r.map E.t)
abbrev wS (C:Addr) (K:Kd) (hs:List T) (ps:T) (W:List Str) (R:List (List E)) (x4 x5 x6:Option Sl):FS:=[vl (Ax C K hs),vl ps,some (.own (.lst (W.map T.str))),some (.own (.los (R.map rwO))),x4,x5,x6]
abbrev wrB (C:Addr):FS->SO:=(ifS (asB (Af (gEq false) (Ab 4) (gc (.str ("(":Str))))) (UR 3 (AD DH Ak)) (ifS (asB (Af (gEq false) (Ab 4) (gc (.str (")":Str))))) (AN (AY 6 (Am CN (Ac (fz (RM 3)) Ak)))
  (E4 3 (fz (Am (AA 3 (BB C)) (Ah (fz (Ab 0)) (Ah (fz (AX Ha (Ab 2) Ak)) (Ah (fz (Ab 6)) Ak))))))) (ifS (asB (Af (gEq false) (Ab 5) (gc (.str ("(":Str))))) (Bb (AX Er (Ab 2) (Ac (fz (Ab 4)) Ak))) (ifS (asB (inG true Ce (Ab 4))) (E4 3 (AD Bp (Ac (gc (.str ("name":Str))) (Ac (fz (Ab 4)) Ak)))) nxS))))
abbrev wtg:T->FS->Option FS:=BC 2 (Ar (tgN 4) (Ar (tgN 5) Bs))
variable {W:List Str} {R:List (List E)} {x4 x5 x6:Option Sl}
theorem NL {a n:Str} (f4:Fre x4) (f5:Fre x5):wtg (.tup [.str a,.str n]) (wS C K hs ps W R x4 x5 x6)=some (wS C K hs ps W R (vl (.str a)) (vl (.str n)) x6):=FV (by unfold tgN;exact Bi rfl f4) (by unfold tgN;exact Bi rfl f5)
theorem Sx {n:Str} {ts:List T} (f4:Fre x4) (f5:Fre x5) (hR:R.length < 1000):CQ wtg (wrB C) (.tup [.str (ch 40),.str n] :: ts) (wS C K hs ps W R x4 x5 x6)=CQ wtg (wrB C) ts (wS C K hs ps W (R++[[]]) (vl (.str (ch 40))) (vl (.str n)) x6):=by
 refine Fw (NL f4 f5) (EB (Ny (Aa rfl) Az c40.symm) ?_)
 exact UE (i:=3) (os:=R.map rwO) (o:=.lst []) rfl (CG (g:=DH) (ts:=[]) AE rfl (show 0<=big by decide) rfl) (by rw [List.length_map];exact hR) (by
  show [_,_,_,_,_,_,_]=[_,_,_,_,_,_,_]
  rw [List.map_append]
  rfl)
theorem Sw {s:Str} {ts:List T} (h:Lw s) (f4:Fre x4) (f5:Fre x5) (hW:W.length < 1000):CQ wtg (wrB C) (.tup [.str s,.str (ch 40)] :: ts) (wS C K hs ps W R x4 x5 x6)=CQ wtg (wrB C) ts (wS C K hs ps (W++[s]) R (vl (.str s)) (vl (.str (ch 40))) x6):=by
 refine Fw (NL f4 f5) (Bx (GI (Aa rfl) Az (by rw [c40];exact Ir h rfl)) (Bx (GI (Aa rfl) Az (by rw [c41];exact Ir h rfl)) (EB (Ny (Aa rfl) Az c40.symm) ?_)))
 exact ML (i:=2) (ts:=W.map T.str) (t:=.str s) rfl (AF (Aa rfl)) (by show _ < 1000000;rw [List.length_map];omega) (by
  show [_,_,_,_,_,_,_]=[_,_,_,_,_,_,_]
  rw [List.map_append]
  rfl)
theorem Sz {s n:Str} {ts:List T} {row:List E} (h:Lw s) (hn:n≠ch 40) (f4:Fre x4) (f5:Fre x5) (hl:row.length < 1000):CQ wtg (wrB C) (.tup [.str s,.str n] :: ts) (wS C K hs ps W (R++[row]) x4 x5 x6)=CQ wtg (wrB C) ts (wS C K hs ps W (R++[row++[.nm s]]) (vl (.str s)) (vl (.str n)) x6):=by
 have ct:=Kz (neg:=true) (f:=Ab 4) (z:=s) (fs:=wS C K hs ps W (R++[row]) (vl (.str s)) (vl (.str n)) x6) (Aa rfl)
 rw [decide_eq_false (Ry h)] at ct
 refine Fw (NL f4 f5) (Bx (GI (Aa rfl) Az (by rw [c40];exact Ir h rfl)) (Bx (GI (Aa rfl) Az (by rw [c41];exact Ir h rfl)) (Bx (GI (Aa rfl) Az (by rw [c40];exact hn)) (EB ct ?_))))
 refine Ja (i:=3) (os:=R.map rwO) (ts:=row.map E.t) (t:=(E.nm s).t) (fs1:=[vl (Ax C K hs),vl ps,some (.own (.lst (W.map T.str))),none,vl (.str s),vl (.str n),x6]) (by
  show some (some (Sl.own (.los ((R++[row]).map rwO))))=_
  rw [List.map_append]
  rfl) ?_ rfl (by rw [List.length_map];exact hl) (by
  show [_,_,_,_,_,_,_]=[_,_,_,_,_,_,_]
  rw [List.map_append,List.map_cons,List.map_nil]
  show _=[_,_,_,some (Sl.own (FO.los (R.map rwO++[.lst ((row++[E.nm s]).map E.t)]))),_,_,_]
  rw [List.map_append]
  rfl)
 rw [Nu]
 exact CG (g:=Bp) (ts:=[.str "name",.str s]) (Av Az (Av (AF (Aa rfl)) AE)) rfl (show 2<=big by decide) rfl
theorem NM {c:Nat} {n:Str} {ts:List T} (hc:c=44∨c=32) (hn:n≠ch 40) (f4:Fre x4) (f5:Fre x5):CQ wtg (wrB C) (.tup [.str (ch c),.str n] :: ts) (wS C K hs ps W R x4 x5 x6)=CQ wtg (wrB C) ts (wS C K hs ps W R (vl (.str (ch c))) (vl (.str n)) x6):=by
 have ct:=Kz (neg:=true) (f:=Ab 4) (z:=ch c) (fs:=wS C K hs ps W R (vl (.str (ch c))) (vl (.str n)) x6) (Aa rfl)
 have hm:isM c=true:=by rcases hc with rfl | rfl <;> rfl
 rw [LK,hm] at ct
 have n40:ch c≠ch 40:=fun z=>by have:=EY.mp z;omega
 have n41:ch c≠ch 41:=fun z=>by have:=EY.mp z;omega
 exact Fw (NL f4 f5) (Bx (GI (Aa rfl) Az (by rw [c40];exact n40)) (Bx (GI (Aa rfl) Az (by rw [c41];exact n41)) (Bx (GI (Aa rfl) Az (by rw [c40];exact hn)) (Bx ct rfl))))
theorem Qh (Wl:Well K) {s n:Str} {ts:List T} {row args:List E} (f4:Fre x4) (f5:Fre x5) (f6:Fre x6) (hl:row.length < 1000):CQ wtg (wrB C) (.tup [.str (ch 41),.str n] :: ts) (wS C K hs ps (W++[s]) (R++[row]++[args]) x4 x5 x6)=CQ wtg (wrB C) ts (wS C K hs ps W (R++[row++[.pt (decide (s∈mks K)) s args]]) (vl (.str (ch 41))) (vl (.str n)) (vl (.tup (args.map E.t)))):=by
 have n40:ch 41≠ch 40:=fun z=>by have:=EY.mp z;omega
 refine Fw (NL f4 f5) (Bx (GI (Aa rfl) Az (by rw [c40];exact n40)) (EB (Ny (Aa rfl) Az c41.symm) ?_))
 have e1:RM 3 (wS C K hs ps (W++[s]) (R++[row]++[args]) (vl (.str (ch 41))) (vl (.str n)) x6)=.ok (.nw (rwO args)) (wS C K hs ps (W++[s]) (R++[row]) (vl (.str (ch 41))) (vl (.str n)) x6) :=
  Vl (i:=3) (os:=(R++[row]).map rwO) (o:=rwO args) (by
   show some (some (Sl.own (.los ((R++[row]++[args]).map rwO))))=_
   rw [List.map_append (l₁:=R++[row])]
   rfl) rfl
 have s6:AY 6 (Am CN (Ac (fz (RM 3)) Ak)) (wS C K hs ps (W++[s]) (R++[row]++[args]) (vl (.str (ch 41))) (vl (.str n)) x6)=.nx (wS C K hs ps (W++[s]) (R++[row]) (vl (.str (ch 41))) (vl (.str n)) (vl (.tup (args.map E.t)))) :=
  DM (JS (g:=CN) (Bw (He (o:=rwO args) e1) AE) (r:=.ok (.t (.tup (args.map E.t))) _) rfl) (Bi rfl f6)
 refine sq s6 (Ja (i:=3) (os:=R.map rwO) (ts:=row.map E.t) (t:=(E.pt (decide (s∈mks K)) s args).t) (fs1:=[vl (Ax C K hs),vl ps,some (.own (.lst (W.map T.str))),none,vl (.str (ch 41)),vl (.str n),vl (.tup (args.map E.t))]) (by
  show some (some (Sl.own (.los ((R++[row]).map rwO))))=_
  rw [List.map_append]
  rfl) ?_ rfl (by rw [List.length_map];exact hl) (by
  show [_,_,_,_,_,_,_]=[_,_,_,_,_,_,_]
  rw [List.map_append,List.map_cons,List.map_nil]
  show _=[_,_,_,some (Sl.own (FO.los (R.map rwO++[.lst ((row++[E.pt (decide (s∈mks K)) s args]).map E.t)]))),_,_,_]
  rw [List.map_append]
  rfl))
 rw [LD]
 have ep:fz (AX Ha (Ab 2) Ak) [vl (Ax C K hs),vl ps,some (.own (.lst ((W++[s]).map T.str))),none,vl (.str (ch 41)),vl (.str n),vl (.tup (args.map E.t))]=.ok (.t (.str s)) [vl (Ax C K hs),vl ps,some (.own (.lst (W.map T.str))),none,vl (.str (ch 41)),vl (.str n),vl (.tup (args.map E.t))]:=by
  rw [List.map_append]
  exact Ln (i:=2) (ts:=W.map T.str) (t:=.str s) rfl rfl
 exact CP (De (rs:=[.t (Ax C K hs),.t (.str s),.t (.tup (args.map E.t))]) (Aj (AF (Aa rfl)) (Aj ep (Aj (AF (Aa rfl)) AE))) rfl rfl (NN Wl s (args.map E.t)))
end
section
variable {C:Addr} {K:Kd} {hs:List T} {ps:T}
abbrev mkB (K:Kd):Str->Bool:=fun s=>decide (s∈mks K)
theorem Fb (a:Str) (l:List Str) (n:Str):pr2 (a :: l) n=.tup [.str a,.str (l.headD n)] :: pr2 l n:=rfl
theorem SG {e:E} (h:e.al Lw) (l:List Str) (n:Str):(e.tk++l).headD n≠ch 40:=by
 cases e with
 | nm s =>
  simp only [E.al] at h
  simp only [E.tk,List.cons_append,List.headD_cons]
  exact Ir h rfl
 | pt b s es =>
  simp only [E.al] at h
  simp only [E.tk,List.cons_append,List.headD_cons]
  exact Ir h.1 rfl
theorem LW {es:List E} {rest:List Str} {n:Str} (h:rest.headD n≠ch 40):(E.tkr es++rest).headD n≠ch 40:=by
 cases es with
 | nil=>simpa [E.tkr] using h
 | cons e es =>
  simp only [E.tkr,List.cons_append,List.headD_cons]
  intro z
  exact absurd (EY.mp z) (by decide)
theorem V2 {f g:FS->Out Rv} {fs:FS} {xs ys:List T} (h1:f fs=.ok (.t (.lst xs)) fs) (h2:g fs=.ok (.t (.lst ys)) fs):itZ f g fs=.ok (FL.pairs xs ys) fs:=by
 unfold itZ
 rw [h1]
 have q:∀ k:Rv->FS->Out (List T),(Out.ok (Rv.t (T.lst xs)) fs).bnd k=k (.t (.lst xs)) fs:=fun _=>rfl
 rw [q,h2]
 rfl
mutual
theorem Xj (Wl:Well K):∀ (e:E),e.al Lw->∀ (d:Nat),E.ok d e->∀ (rest:List Str) (n:Str) (W:List Str) (R:List (List E)) (row:List E) (x4 x5 x6:Option Sl),rest.headD n≠ch 40->Fre x4->Fre x5->Fre x6->W.length+d<=50->R.length+d<=50->row.length<=50 ->
  ∃ y4 y5 y6,Fre y4/\Fre y5/\Fre y6/\CQ wtg (wrB C) (pr2 (e.tk++rest) n) (wS C K hs ps W (R++[row]) x4 x5 x6)=CQ wtg (wrB C) (pr2 rest n) (wS C K hs ps W (R++[row++[e.re (mkB K)]]) y4 y5 y6)
 | .nm s,h,d,ok,rest,n,W,R,row,x4,x5,x6,hr,f4,f5,f6,hW,hR,hl=>by
  simp only [E.al] at h
  refine ⟨vl (.str s),vl (.str (rest.headD n)),x6,AI,AI,f6,?_⟩
  simp only [E.tk,List.cons_append,List.nil_append,E.re]
  rw [Fb]
  exact Sz h hr f4 f5 (by omega)
 | .pt b s es,h,0,ok,rest,n,W,R,row,x4,x5,x6,hr,f4,f5,f6,hW,hR,hl=>by simp [E.ok] at ok
 | .pt b s es,h,d+1,ok,rest,n,W,R,row,x4,x5,x6,hr,f4,f5,f6,hW,hR,hl=>by
  simp only [E.al] at h
  simp only [E.ok] at ok
  simp only [E.tk,List.cons_append,List.append_assoc,List.nil_append,E.re]
  rw [Fb,Fb,List.headD_cons,Sw h.1 f4 f5 (by omega),Sx AI AI (by simp;omega)]
  obtain ⟨y4,y5,y6,k4,k5,k6,g⟩:=Xi Wl es h.2 d ok.2 (ch 41 :: rest) n (W++[s]) (R++[row]) [] (vl (.str (ch 40))) (vl (.str ((E.tks es++ch 41 :: rest).headD n))) x6 (by
   rw [List.headD_cons]
   intro z
   exact absurd (EY.mp z) (by decide)) AI AI f6 (by simp;omega) (by simp;omega) (by have:=ok.1;simp;omega)
  refine ⟨vl (.str (ch 41)),vl (.str (rest.headD n)),vl (.tup ((E.res (mkB K) es).map E.t)),AI,AI,AI,?_⟩
  rw [g,Fb,List.nil_append]
  exact Qh Wl k4 k5 k6 (by omega)
theorem Xi (Wl:Well K):∀ (es:List E),E.als Lw es->∀ (d:Nat),E.oks d es->∀ (rest:List Str) (n:Str) (W:List Str) (R:List (List E)) (row:List E) (x4 x5 x6:Option Sl),rest.headD n≠ch 40->Fre x4->Fre x5->Fre x6->W.length+d<=50->R.length+d<=50->row.length+es.length<=50 ->
  ∃ y4 y5 y6,Fre y4/\Fre y5/\Fre y6/\CQ wtg (wrB C) (pr2 (E.tks es++rest) n) (wS C K hs ps W (R++[row]) x4 x5 x6)=CQ wtg (wrB C) (pr2 rest n) (wS C K hs ps W (R++[row++E.res (mkB K) es]) y4 y5 y6)
 | [],h,d,ok,rest,n,W,R,row,x4,x5,x6,hr,f4,f5,f6,hW,hR,hl=>⟨x4,x5,x6,f4,f5,f6,by simp [E.tks,E.res]⟩
 | e :: es,h,d,ok,rest,n,W,R,row,x4,x5,x6,hr,f4,f5,f6,hW,hR,hl=>by
  simp only [E.als] at h
  simp only [E.oks] at ok
  rw [List.length_cons] at hl
  obtain ⟨y4,y5,y6,k4,k5,k6,g⟩:=Xj Wl e h.1 d ok.1 (E.tkr es++rest) n W R row x4 x5 x6 (LW hr) f4 f5 f6 hW hR (by omega)
  obtain ⟨z4,z5,z6,m4,m5,m6,g'⟩:=Yw Wl es h.2 d ok.2 rest n W R (row++[e.re (mkB K)]) y4 y5 y6 hr k4 k5 k6 hW hR (by simp;omega)
  refine ⟨z4,z5,z6,m4,m5,m6,?_⟩
  simp only [E.tks,E.res]
  rw [List.append_assoc,g,g',List.append_assoc]
  rfl
theorem Yw (Wl:Well K):∀ (es:List E),E.als Lw es->∀ (d:Nat),E.oks d es->∀ (rest:List Str) (n:Str) (W:List Str) (R:List (List E)) (row:List E) (x4 x5 x6:Option Sl),rest.headD n≠ch 40->Fre x4->Fre x5->Fre x6->W.length+d<=50->R.length+d<=50->row.length+es.length<=50 ->
  ∃ y4 y5 y6,Fre y4/\Fre y5/\Fre y6/\CQ wtg (wrB C) (pr2 (E.tkr es++rest) n) (wS C K hs ps W (R++[row]) x4 x5 x6)=CQ wtg (wrB C) (pr2 rest n) (wS C K hs ps W (R++[row++E.res (mkB K) es]) y4 y5 y6)
 | [],h,d,ok,rest,n,W,R,row,x4,x5,x6,hr,f4,f5,f6,hW,hR,hl=>⟨x4,x5,x6,f4,f5,f6,by simp [E.tkr,E.res]⟩
 | e :: es,h,d,ok,rest,n,W,R,row,x4,x5,x6,hr,f4,f5,f6,hW,hR,hl=>by
  simp only [E.als] at h
  simp only [E.oks] at ok
  rw [List.length_cons] at hl
  simp only [E.tkr,List.cons_append,List.append_assoc]
  rw [Fb,Fb,List.headD_cons,NM (c:=44) (.inl rfl) (fun z=>absurd (EY.mp z) (by decide)) f4 f5,NM (c:=32) (.inr rfl) (SG h.1 _ _) AI AI]
  obtain ⟨y4,y5,y6,k4,k5,k6,g⟩:=Xj Wl e h.1 d ok.1 (E.tkr es++rest) n W R row (vl (.str (ch 32))) (vl (.str ((e.tk++(E.tkr es++rest)).headD n))) x6 (LW hr) AI AI f6 hW hR (by omega)
  obtain ⟨z4,z5,z6,m4,m5,m6,g'⟩:=Yw Wl es h.2 d ok.2 rest n W R (row++[e.re (mkB K)]) y4 y5 y6 hr k4 k5 k6 hW hR (by simp;omega)
  refine ⟨z4,z5,z6,m4,m5,m6,?_⟩
  simp only [E.res]
  rw [g,g',List.append_assoc]
  rfl
end
theorem UX {d:Nat} {e:E} (ok:E.ok d e) (hd:d<=4) (hw:e.al Lw):e.tk.length<=10000:=by
 have hB:=Nat.le_trans (Iy ok hw) (NW hd)
 obtain ⟨P,w,g1,g2⟩:=W3 e hw []
 have hP:=Jm (cds e.tx) [] ED
 rw [g1] at hP
 have hP:P.length<=0+2 * (cds e.tx).length:=hP
 have h1:(cln (P++[w])).length<=(P++[w]).length:=List.length_filter_le ..
 rw [g2] at h1
 simp [cln] at h1
 omega
theorem Cm (Wl:Well K) {d:Nat} {e:E} (ok:E.ok d e) (hd:d<=4) (hw:e.al Lw):CM C [vl (Ax C K hs),vl (.lst (e.tk.map T.str))]=.ok (.t (e.re (mkB K)).t) [vl (Ax C K hs),vl (.lst (e.tk.map T.str))]:=by
 obtain ⟨y4,y5,y6,k4,k5,k6,g⟩:=Xj (C:=C) (hs:=hs) (ps:=.lst (e.tk.map T.str)) Wl e hw d ok [] ED [] [] [] none none none (fun z=>PZ 40 z.symm) Ay Ay Ay (by simp;omega) (by simp;omega) (by simp)
 have hl:=UX ok hd hw
 rw [List.append_nil] at g
 have s2:AY 2 (AD DH Ak) [vl (Ax C K hs),vl (.lst (e.tk.map T.str)),none,none,none,none,none]=.nx [vl (Ax C K hs),vl (.lst (e.tk.map T.str)),some (.own (.lst [])),none,none,none,none]:=rfl
 have s3:AY 3 Ts [vl (Ax C K hs),vl (.lst (e.tk.map T.str)),some (.own (.lst [])),none,none,none,none]=.nx (wS C K hs (.lst (e.tk.map T.str)) [] ([]++[[]]) none none none):=rfl
 have hi:itZ (Ab 1) (fz (Af AS (slF (Ab 1) (D6 (gc (.int 1))) noP) (AD By (Ac (gc (.str ("":Str))) Ak)))) (wS C K hs (.lst (e.tk.map T.str)) [] ([]++[[]]) none none none)=.ok (pr2 e.tk ED) (wS C K hs (.lst (e.tk.map T.str)) [] ([]++[[]]) none none none):=by
  have hp:1<=e.tk.length:=by cases e <;> simp [E.tk]
  have e1:=LZ (f:=Ab 1) (g:=gc (.int 1)) (fs:=wS C K hs (.lst (e.tk.map T.str)) [] ([]++[[]]) none none none) (ts:=e.tk.map T.str) (v:=1) (Aa rfl) Az (by omega) (by rw [List.length_map];exact hp)
  have e2:=He (Ap e1 (Cs (ts:=[.str ("":Str)]) (Av Az AE) rfl (show 1<=big by decide)) (LN (xs:=(e.tk.map T.str).drop 1) (ys:=[.str ("":Str)]) (by show _<=1000000;simp;omega)))
  refine (V2 (xs:=e.tk.map T.str) (ys:=(e.tk.map T.str).drop 1++[.str ("":Str)]) (Aa rfl) e2).trans ?_
  rw [<- Kj,show (("":Str)=ED) from EV,List.map_append,<- List.map_drop]
  rfl
 have s4:Ef (itZ (Ab 1) (fz (Af AS (slF (Ab 1) (D6 (gc (.int 1))) noP) (AD By (Ac (gc (.str ("":Str))) Ak))))) wtg (wrB C) (wS C K hs (.lst (e.tk.map T.str)) [] ([]++[[]]) none none none)=.nx (wS C K hs (.lst (e.tk.map T.str)) [] ([]++[[]++[e.re (mkB K)]]) y4 y5 y6):=by
  unfold Ef
  rw [hi]
  exact g
 exact (DB (n:=5) (g:=E1 C) (args:=[vl (Ax C K hs),vl (.lst (e.tk.map T.str))]) (sq s2 (sq s3 (sq s4 (Bl rfl))))).trans rfl
theorem D3 (Wl:Well K) {d:Nat} {e:E} (ok:E.ok d e) (hd:d<=4) (hw:e.al Lw):Dp C [vl (Ax C K hs),vl (.str e.tx)]=.ok (.t (e.re (mkB K)).t) [vl (Ax C K hs),vl (.str e.tx)]:=by
 have s1:AY 2 (fz (Am (AA 1 C9) (Ah (fz (Ab 1)) Ak))) [vl (Ax C K hs),vl (.str e.tx),none]=.nx [vl (Ax C K hs),vl (.str e.tx),vl (.lst (e.tk.map T.str))] :=
  Bt (CP (De (rs:=[.t (.str e.tx)]) (Aj (AF (Aa rfl)) AE) rfl rfl (pieces ok hd hw))) rfl
 have s2:Bb (Am (AA 1 A9) (Ah (fz (Ab 2)) Ak)) [vl (Ax C K hs),vl (.str e.tx),vl (.lst (e.tk.map T.str))]=.nx [vl (Ax C K hs),vl (.str e.tx),vl (.lst (e.tk.map T.str))]:=by
  have k:Am (AA 1 A9) (Ah (fz (Ab 2)) Ak) [vl (Ax C K hs),vl (.str e.tx),vl (.lst (e.tk.map T.str))]=.ok (.t .non) [vl (Ax C K hs),vl (.str e.tx),vl (.lst (e.tk.map T.str))]:=De (rs:=[.t (.lst (e.tk.map T.str))]) (Aj (AF (Aa rfl)) AE) rfl rfl (Nd hw)
  unfold Bb
  rw [k]
  rfl
 have s3:Bb (Am (AA 1 Bk) (Ah (fz (Ab 2)) Ak)) [vl (Ax C K hs),vl (.str e.tx),vl (.lst (e.tk.map T.str))]=.nx [vl (Ax C K hs),vl (.str e.tx),vl (.lst (e.tk.map T.str))]:=by
  have k:Am (AA 1 Bk) (Ah (fz (Ab 2)) Ak) [vl (Ax C K hs),vl (.str e.tx),vl (.lst (e.tk.map T.str))]=.ok (.t .non) [vl (Ax C K hs),vl (.str e.tx),vl (.lst (e.tk.map T.str))]:=De (rs:=[.t (.lst (e.tk.map T.str))]) (Aj (AF (Aa rfl)) AE) rfl rfl (brackets hw)
  unfold Bb
  rw [k]
  rfl
 have s4:Am (AA 2 (CM C)) (Ah (fz (Ab 0)) (Ah (fz (Ab 2)) Ak)) [vl (Ax C K hs),vl (.str e.tx),vl (.lst (e.tk.map T.str))]=.ok (.t (e.re (mkB K)).t) [vl (Ax C K hs),vl (.str e.tx),vl (.lst (e.tk.map T.str))] :=
  De (rs:=[.t (Ax C K hs),.t (.lst (e.tk.map T.str))]) (Aj (AF (Aa rfl)) (Aj (AF (Aa rfl)) AE)) rfl rfl (Cm Wl ok hd hw)
 exact (DB (n:=1) (g:=Ih C) (args:=[vl (Ax C K hs),vl (.str e.tx)]) (sq s1 (sq s2 (sq s3 (Bl s4))))).trans rfl
end
theorem len_own {f:FS->Out Rv} {fs:FS} {i:Nat} {ts:List T} (h:f fs=.ok (.rf i) fs) (h0:fs[i]?=some (some (.own (.lst ts)))):Am CO (Ac f Ak) fs=.ok (.t (.int ts.length)) fs:=by
 refine JS (g:=CO) (rs:=[.rf i]) (by unfold Ac;rw [h];rfl) ?_
 have:UO [.rf i] fs=.ok (.t (.int ts.length)) fs:=by
  simp only [UO,RC h0]
  rfl
 show (match UO [.rf i] fs with | .bad=>_ | o=>o)=_
 rw [this]
section
variable {Mk Nm:List Str} {rec:FS->Out Rv} {d c:Nat} {down z:Int}
def Dr (Mk Nm:List Str) (d:Nat) (e:E):Prop:=E.ok d e/\e.al (fun s=>s∈Nm++Mk)/\e.re (fun s=>decide (s∈Mk))=e
abbrev vS (Mk Nm:List Str) (ds:List Int) (down z:Int) (ts:List E) (x y:Option Sl):FS:=[vl (.lst (Mk.map T.str)),vl (.lst (Nm.map T.str)),some (.bor (.lst (ds.map T.int))),iv down,iv z,some (.own (.lst ((Nm++Mk).map T.str))),some (.own (.lst (ts.map E.t))),x,y]
theorem FU (hr:∀ ds:List Int,c<=ds.length->∃ (e:E) (es:List Int),Dr Mk Nm d e/\ds.length<=es.length+c/\rec [vl (.lst (Mk.map T.str)),vl (.lst (Nm.map T.str)),some (.bor (.lst (ds.map T.int))),iv (down - 1)]=.ok (.t e.t) [vl (.lst (Mk.map T.str)),vl (.lst (Nm.map T.str)),some (.bor (.lst (es.map T.int))),iv (down - 1)]) :
  ∀ (us:List T) (ds:List Int) (x:Option Sl) (acc:List E),Fre x->c * us.length<=ds.length->acc.length+us.length<=1000 ->
  ∃ (ts:List E) (es:List Int) (y:Option Sl),(∀ t∈ts,Dr Mk Nm d t)/\ts.length=us.length/\ds.length<=es.length+c * us.length /\
   CQ (tgN 7) (Bb (AX Er (Ab 6) (Ac (fz (Am (AA 4 rec) (Ah (fz (Ab 0)) (Ah (fz (Ab 1)) (Ah (Ab 2) (Ah (Af KA (Ab 3) (gc (.int 1))) Ak)))))) Ak))) us (vS Mk Nm ds down z acc x none)=.nx (vS Mk Nm es down z (acc++ts) y none)
 | [],ds,x,acc,_,_,_=>⟨[],ds,x,(fun _ m=>nomatch m),rfl,by omega,by simp [CQ]⟩
 | u :: us,ds,x,acc,fx,hd,ha=>by
  have hd':c+c * us.length<=ds.length:=by rw [List.length_cons,Nat.mul_add,Nat.mul_one] at hd;omega
  obtain ⟨t,es,h1,h2,h3⟩:=hr ds (by omega)
  obtain ⟨ts,es',y,g1,gl,g2,g3⟩:=FU hr us es (vl u) (acc++[t]) AI (by omega) (by simp at ha ⊢;omega)
  refine ⟨t :: ts,es',y,fun a m=>?_,by simp [gl],by rw [List.length_cons,Nat.mul_add,Nat.mul_one];omega,?_⟩
  ·rcases List.mem_cons.mp m with q | q
   ·rw [q];exact h1
   ·exact g1 a q
  ·have e1:tgN 7 u (vS Mk Nm ds down z acc x none)=some (vS Mk Nm ds down z acc (vl u) none):=by unfold tgN;exact Bi rfl fx
   have e2:fz (Am (AA 4 rec) (Ah (fz (Ab 0)) (Ah (fz (Ab 1)) (Ah (Ab 2) (Ah (Af KA (Ab 3) (gc (.int 1))) Ak))))) (vS Mk Nm ds down z acc (vl u) none)=.ok (.t t.t) (vS Mk Nm es down z acc (vl u) none) :=
    CP (DZ (Aj (AF (Aa (t:=.lst (Mk.map T.str)) rfl)) (Aj (AF (Aa (t:=.lst (Nm.map T.str)) rfl)) (Aj (JE (i:=2) rfl) (Aj (Ap (Aa rfl) Az Wg) AE)))) rfl (by rw [show Dm _ _=[2] from rfl];simp) h3 rfl)
   have e3:=Qa (i:=6) (us:=acc.map E.t) (ts:=acc.map E.t) (t:=t.t) (fs':=vS Mk Nm es down z (acc++[t]) (vl u) none) (f:=fz (Am (AA 4 rec) (Ah (fz (Ab 0)) (Ah (fz (Ab 1)) (Ah (Ab 2) (Ah (Af KA (Ab 3) (gc (.int 1))) Ak)))))) rfl e2 rfl (by show _ < 1000000;simp at ha ⊢;omega) (by
    show [_,_,_,_,_,_,_,_,_]=[_,_,_,_,_,_,_,_,_]
    rw [List.map_append (l₁:=acc)]
    rfl)
   rw [Fw e1 e3,g3]
   simp
end
theorem written {Mk Nm:List Str} (hL:Nm++Mk≠[]) (hl:Nm.length+Mk.length<=1000):∀ (n d:Nat) (down:Int) (ds:List Int),0<=down->down.toNat=d->d < n->nd d<=ds.length ->
  ∃ (e:E) (es:List Int),Dr Mk Nm d e/\ds.length<=es.length+nd d/\Br n [vl (.lst (Mk.map T.str)),vl (.lst (Nm.map T.str)),some (.bor (.lst (ds.map T.int))),iv down]=.ok (.t e.t) [vl (.lst (Mk.map T.str)),vl (.lst (Nm.map T.str)),some (.bor (.lst (es.map T.int))),iv down]
 | 0,d,down,ds,_,_,hn,_=>by omega
 | n+1,d,down,ds,h0,hdn,hn,hd=>by
  have hp:=VL d
  obtain ⟨d1,z,rfl,hd1⟩:=Nj (xs:=ds) (by omega)
  have s4:AY 4 (fz (AX Ha (Ab 2) Ak)) [vl (.lst (Mk.map T.str)),vl (.lst (Nm.map T.str)),some (.bor (.lst ((d1++[z]).map T.int))),iv down,none,none,none,none,none]=.nx [vl (.lst (Mk.map T.str)),vl (.lst (Nm.map T.str)),some (.bor (.lst (d1.map T.int))),iv down,iv z,none,none,none,none]:=by
   rw [List.map_append]
   exact DM (Jn (ts:=d1.map T.int) (t:=.int z) rfl rfl) rfl
  have s5:AY 5 (Af AS (Ab 1) (Ab 0)) [vl (.lst (Mk.map T.str)),vl (.lst (Nm.map T.str)),some (.bor (.lst (d1.map T.int))),iv down,iv z,none,none,none,none]=.nx [vl (.lst (Mk.map T.str)),vl (.lst (Nm.map T.str)),some (.bor (.lst (d1.map T.int))),iv down,iv z,some (.own (.lst ((Nm++Mk).map T.str))),none,none,none]:=by
   rw [List.map_append]
   exact Lh (Ap (Aa rfl) (Aa rfl) (LN (by show _<=1000000;simp;omega))) rfl
  have ixn:∀ (ds:List Int) (x6 x7 x8:Option Sl) (q:Int),0 < q->q < 1073741824->∃ s,s∈Nm++Mk/\Af Bd (Ab 5) (Af CB (Af ES (Ab 4) (gc (.int q))) (Am CO (Ac (Ab 5) Ak))) [vl (.lst (Mk.map T.str)),vl (.lst (Nm.map T.str)),some (.bor (.lst (ds.map T.int))),iv down,iv z,some (.own (.lst ((Nm++Mk).map T.str))),x6,x7,x8]=.ok (.t (.str s)) [vl (.lst (Mk.map T.str)),vl (.lst (Nm.map T.str)),some (.bor (.lst (ds.map T.int))),iv down,iv z,some (.own (.lst ((Nm++Mk).map T.str))),x6,x7,x8]:=fun ds x6 x7 x8 q hq hq2=>by
   obtain ⟨s,hs,e⟩:=V1 hL (z / q)
   have hi:[vl (.lst (Mk.map T.str)),vl (.lst (Nm.map T.str)),some (.bor (.lst (ds.map T.int))),iv down,iv z,some (.own (.lst ((Nm++Mk).map T.str))),x6,x7,x8][5]?=some (some (.own (.lst ((Nm++Mk).map T.str)))):=rfl
   have le:=len_own (f:=Ab 5) (Ep hi) hi
   rw [List.length_map] at le
   have h0L:(0:Int) < (Nm++Mk).length:=by have:=List.length_pos_iff.mpr hL;omega
   exact ⟨s,hs,MI (Ep hi) (Ap (Ap (Aa rfl) Az (Hb ⟨hq,hq2⟩)) le (C4 h0L)) (Bv (RC hi) e)⟩
  have c1:=KI (fa:=Ab 3) (fb:=gc (.int 0)) (fs:=[vl (.lst (Mk.map T.str)),vl (.lst (Nm.map T.str)),some (.bor (.lst (d1.map T.int))),iv down,iv z,some (.own (.lst ((Nm++Mk).map T.str))),none,none,none]) (Aa rfl) Az
  have c2:=KI (fa:=Af CB (Ab 4) (gc (.int 5))) (fb:=gc (.int 0)) (fs:=[vl (.lst (Mk.map T.str)),vl (.lst (Nm.map T.str)),some (.bor (.lst (d1.map T.int))),iv down,iv z,some (.own (.lst ((Nm++Mk).map T.str))),none,none,none]) (Ap (Aa rfl) Az (C4 (by omega))) Az
  have run:∀ {t:T} {es:List Int} {y4 y5 y6 y7 y8:Option Sl},Dg (Br n) [vl (.lst (Mk.map T.str)),vl (.lst (Nm.map T.str)),some (.bor (.lst ((d1++[z]).map T.int))),iv down,none,none,none,none,none]=.ret (.t t) [vl (.lst (Mk.map T.str)),vl (.lst (Nm.map T.str)),some (.bor (.lst (es.map T.int))),iv down,y4,y5,y6,y7,y8] ->
    Br (n+1) [vl (.lst (Mk.map T.str)),vl (.lst (Nm.map T.str)),some (.bor (.lst ((d1++[z]).map T.int))),iv down]=.ok (.t t) [vl (.lst (Mk.map T.str)),vl (.lst (Nm.map T.str)),some (.bor (.lst (es.map T.int))),iv down]:=fun {t es y4 y5 y6 y7 y8} k=>by
   show Dj 5 (Dg (Br n)) _=_
   unfold Dj
   show (match Dg (Br n) [vl (.lst (Mk.map T.str)),vl (.lst (Nm.map T.str)),some (.bor (.lst ((d1++[z]).map T.int))),iv down,none,none,none,none,none] with | .nx τ=>_ | .ret (.t t) τ=>_ | .ret (.nw o) τ=>_ | .ret (.rf i) τ=>_ | .exc c τ=>_ | _=>_)=_
   rw [k]
   rfl
  by_cases hc:down=0∨z % 5=0
  ·obtain ⟨s,hs,es⟩:=ixn d1 none none none 5 (by omega) (by omega)
   have ct:orT (asB (Af (gEq false) (Ab 3) (gc (.int 0)))) (asB (Af (gEq false) (Af CB (Ab 4) (gc (.int 5))) (gc (.int 0)))) [vl (.lst (Mk.map T.str)),vl (.lst (Nm.map T.str)),some (.bor (.lst (d1.map T.int))),iv down,iv z,some (.own (.lst ((Nm++Mk).map T.str))),none,none,none]=.ok true [vl (.lst (Mk.map T.str)),vl (.lst (Nm.map T.str)),some (.bor (.lst (d1.map T.int))),iv down,iv z,some (.own (.lst ((Nm++Mk).map T.str))),none,none,none]:=by
    by_cases h:down=0
    ·rw [decide_eq_true h] at c1
     exact XO c1
    ·rw [decide_eq_false h] at c1
     rw [decide_eq_true (hc.resolve_left h)] at c2
     exact Kk c1 c2
   refine ⟨.nm s,d1,⟨by simp [E.ok],by simpa only [E.al] using hs,by simp only [E.re]⟩,by simp;omega,run (y4:=iv z) (y5:=some (.own (.lst ((Nm++Mk).map T.str)))) (y6:=none) (y7:=none) (y8:=none) ?_⟩
   rw [Nu]
   unfold Dg
   refine sq s4 (sq s5 ?_)
   unfold AN
   rw [EB ct (Bl (CG (g:=Bp) (ts:=[.str "name",.str s]) (Bw Az (Bw es AE)) rfl (show 2<=big by decide) rfl))]
  ·have h1:¬ down=0:=fun h=>hc (.inl h)
   have h2:¬ z % 5=0:=fun h=>hc (.inr h)
   rw [decide_eq_false h1] at c1
   rw [decide_eq_false h2] at c2
   obtain ⟨e,rfl⟩:∃ e,d=e+1:=⟨d - 1,by omega⟩
   have hd2:1+3 * nd e<=d1.length+1:=by simpa [nd] using hd
   obtain ⟨k,hk,ek⟩:=WR (z / 5)
   have hlen:(FL.upTo 0 k).length=k:=by simp [FL.upTo]
   have hck:nd e * k<=nd e * 3:=Nat.mul_le_mul_left _ hk
   obtain ⟨ts,es,y,g1,gl,g2,g3⟩:=FU (Mk:=Mk) (Nm:=Nm) (rec:=Br n) (d:=e) (c:=nd e) (down:=down) (z:=z) (fun ds hds=>written hL hl n e (down - 1) ds (by omega) (by omega) (by omega) hds) (FL.upTo 0 k) d1 none [] Ay (by rw [hlen];omega) (by rw [hlen];simp;omega)
   rw [hlen] at gl g2
   rw [List.nil_append] at g3
   obtain ⟨s,hs,e30⟩:=ixn es (some (.own (.lst (ts.map E.t)))) y none 30 (by omega) (by omega)
   have e5:Af Bd (AD By (Ac (gc (.int 0)) (Ac (gc (.int 1)) (Ac (gc (.int 2)) (Ac (gc (.int 3)) (Ac (gc (.int 1)) (Ac (gc (.int 2)) Ak))))))) (Af CB (Af ES (Ab 4) (gc (.int 5))) (gc (.int 6))) (vS Mk Nm d1 down z [] none none)=.ok (.t (.int k)) (vS Mk Nm d1 down z [] none none) :=
    Ap (Cs (ts:=[.int 0,.int 1,.int 2,.int 3,.int 1,.int 2]) (Av Az (Av Az (Av Az (Av Az (Av Az (Av Az AE)))))) rfl (show 6<=big by decide)) (Ap (Ap (Aa rfl) Az (Hb (by omega))) Az (C4 (by omega))) (Bv rfl ek)
   have s7:Ef (Iu (Ac (Af Bd (AD By (Ac (gc (.int 0)) (Ac (gc (.int 1)) (Ac (gc (.int 2)) (Ac (gc (.int 3)) (Ac (gc (.int 1)) (Ac (gc (.int 2)) Ak))))))) (Af CB (Af ES (Ab 4) (gc (.int 5))) (gc (.int 6)))) Ak)) (tgN 7) (Bb (AX Er (Ab 6) (Ac (fz (Am (AA 4 (Br n)) (Ah (fz (Ab 0)) (Ah (fz (Ab 1)) (Ah (Ab 2) (Ah (Af KA (Ab 3) (gc (.int 1))) Ak)))))) Ak))) (vS Mk Nm d1 down z [] none none)=.nx (vS Mk Nm es down z ts y none):=by
    have:=Ga (fs:=vS Mk Nm d1 down z [] none none) (Av e5 AE) ⟨by omega,by omega⟩
    unfold Ef
    rw [this]
    rw [Int.toNat_natCast]
    exact g3
   have s8:AY 8 (Af Bd (Ab 5) (Af CB (Af ES (Ab 4) (gc (.int 30))) (Am CO (Ac (Ab 5) Ak)))) (vS Mk Nm es down z ts y none)=.nx (vS Mk Nm es down z ts y (vl (.str s))):=Bt e30 rfl
   have c8:asB (Af (FR false) (fz (Ab 8)) (Ab 0)) (vS Mk Nm es down z ts y (vl (.str s)))=.ok (decide (s∈Mk)) (vS Mk Nm es down z ts y (vl (.str s))):=Du (Ap (AF (Aa rfl)) (Aa rfl) Pa)
   have gt:Am CN (Ac (Ab 6) Ak) (vS Mk Nm es down z ts y (vl (.str s)))=.ok (.t (.tup (ts.map E.t))) (vS Mk Nm es down z ts y (vl (.str s))):=JS (g:=CN) (rs:=[.rf 6]) rfl (r:=.ok (.t (.tup (ts.map E.t))) _) rfl
   refine ⟨.pt (decide (s∈Mk)) s ts,es,⟨?_,?_,?_⟩,?_,run (y4:=iv z) (y5:=some (.own (.lst ((Nm++Mk).map T.str)))) (y6:=some (.own (.lst (ts.map E.t)))) (y7:=y) (y8:=vl (.str s)) ?_⟩
   ·simp only [E.ok]
    exact ⟨by omega,E.RX fun x m=>(g1 x m).1⟩
   ·simp only [E.al]
    exact ⟨hs,E.Sq fun x m=>(g1 x m).2.1⟩
   ·simp only [E.re]
    rw [E.Jg]
    have:ts.map (E.re fun s=>decide (s∈Mk))=ts:=by
     conv=>rhs;rw [<- List.map_id ts]
     exact List.map_congr_left fun x m=>(g1 x m).2.2
    rw [this]
   ·simp [nd]
    omega
   ·rw [LD]
    unfold Dg
    refine sq s4 (sq s5 (sq (Bx (Kk c1 c2) rfl) (sq (fs':=vS Mk Nm d1 down z [] none none) (Lh (o:=.lst []) rfl rfl) (sq s7 (sq s8 ?_)))))
    cases hb:decide (s∈Mk) with
    | true =>
     rw [hb] at c8
     exact Ej (EB c8 (Bl (CG (g:=Bp) (ts:=[.str "make",.str s,.tup (ts.map E.t)]) (Bw Az (Bw (AF (Aa rfl)) (Bw gt AE))) rfl (show 3<=big by decide) rfl)))
    | false =>
     rw [hb] at c8
     exact sq (Bx c8 rfl) (Bl (CG (g:=Bp) (ts:=[.str "call",.str s,.tup (ts.map E.t)]) (Bw Az (Bw (AF (Aa rfl)) (Bw gt AE))) rfl (show 3<=big by decide) rfl))
theorem VO (c:Int) (k:Nat):Lw (nmS c k):=⟨by
 show 1<=(Nm.codes c k).toArray.toList.length
 simp
 exact Nm.MD c k,by
 show (Nm.codes c k).toArray.toList.length<=12
 simp
 exact Nm.JP c k,fun x hx=>Nm.Gk c k x (by simpa [nmS] using hx)⟩
abbrev wdB:FS->SO:=(AY 2 (fz (Af AS (Ab 2) (BN false [none,none] (itU (fz (Ab 4))) (BC 2 (Ar (tgN 0) (Ar (tgN 1) Bs))) EF (fz (Ab 0))))))
theorem Iv {x0 x1:Option Sl}:∀ (R:Kd) (acc:List Str) (x3 x4:Option Sl),Fre x3->Fre x4->(∀ kd∈R,kd.2.length<=4)->acc.length+4 * R.length<=1000 ->
  ∃ y3 y4,CQ (BC 2 (Ar (tgN 3) (Ar (tgN 4) Bs))) wdB (R.map AB) [x0,x1,vl (.lst (acc.map T.str)),x3,x4]=.nx [x0,x1,vl (.lst ((acc++mks R).map T.str)),y3,y4]
 | [],acc,x3,x4,_,_,_,_=>⟨x3,x4,by simp [CQ,mks]⟩
 | kd :: R,acc,x3,x4,f3,f4,hr,ha=>by
  have h4:=hr kd (by simp)
  rw [List.length_cons] at ha
  obtain ⟨y3,y4,g⟩:=Iv (x0:=x0) (x1:=x1) R (acc++kd.2.map (·.1)) (vl (.str kd.1)) (vl (.lst (kd.2.map Dk))) AI AI (fun k m=>hr k (List.mem_cons_of_mem _ m)) (by simp;omega)
  refine ⟨y3,y4,?_⟩
  have e1:BC 2 (Ar (tgN 3) (Ar (tgN 4) Bs)) (AB kd) [x0,x1,vl (.lst (acc.map T.str)),x3,x4]=some [x0,x1,vl (.lst (acc.map T.str)),vl (.str kd.1),vl (.lst (kd.2.map Dk))] :=
   FV (by unfold tgN;exact Bi rfl f3) (by unfold tgN;exact Bi rfl f4)
  obtain ⟨x,y,_,_,e⟩:=Gj (fe:=fz (Ab 0)) (f:=fun r:Str×List Str=>.str r.1) (g:=fun r=>.tup (r.2.map T.str)) (h:=fun r=>.str r.1) (rest:=[]) kd.2 none none [] Ay Ay (fun kd _=>AF (Aa rfl)) (by show 0+_<=1000000;omega)
  rw [List.nil_append] at e
  have ec:BN false [none,none] (itU (fz (Ab 4))) (BC 2 (Ar (tgN 0) (Ar (tgN 1) Bs))) EF (fz (Ab 0)) [x0,x1,vl (.lst (acc.map T.str)),vl (.str kd.1),vl (.lst (kd.2.map Dk))]=.ok (.t (.lst ((kd.2.map (·.1)).map T.str))) [x0,x1,vl (.lst (acc.map T.str)),vl (.str kd.1),vl (.lst (kd.2.map Dk))]:=by
   rw [List.map_map]
   exact CT (src:=[none,none]) (GD (AF (Aa rfl))) ⟨by rw [show Dm _ (List.map _ [none,none])=[] from rfl];exact List.nodup_nil,by rfl⟩ e (A4 rfl)
  have s2:wdB [x0,x1,vl (.lst (acc.map T.str)),vl (.str kd.1),vl (.lst (kd.2.map Dk))]=.nx [x0,x1,vl (.lst ((acc++kd.2.map (·.1)).map T.str)),vl (.str kd.1),vl (.lst (kd.2.map Dk))]:=by
   rw [List.map_append]
   exact Bt (He (Ap (Aa rfl) ec (LN (by show _<=1000000;simp;omega)))) rfl
  rw [List.map_cons,Fw e1 s2,g,Em,List.append_assoc]
theorem words {ns:List Int} {K:Kd} (W:Well K) (hb:Builtin.Int.intBits (ns.getD 2 0)<=2 ^ 20):Gh [vl (.scr (ns.map T.int)),vl (.lst (K.map AB))]=.ok (.t (.tup [.lst ((mks K).map T.str),.lst ((nms (ns.getD 2 0) 5).map T.str)])) [vl (.scr (ns.map T.int)),vl (.lst (K.map AB))]:=by
 have ec:=LM ns 2
 have en:=names (c:=ns.getD 2 0) (n:=5) (by decide) hb
 generalize T.scr (ns.map T.int)=sc at ec ⊢
 have hl:=W.hi
 obtain ⟨y3,y4,g⟩:=Iv (x0:=vl sc) (x1:=vl (.lst (K.map AB))) K [] none none Ay Ay (fun kd m=>(W.rw kd m).2) (by simp;omega)
 rw [List.nil_append] at g
 have s1:AY 2 (AD By Ak) [vl sc,vl (.lst (K.map AB)),none,none,none]=.nx [vl sc,vl (.lst (K.map AB)),vl (.lst (([]:List Str).map T.str)),none,none]:=rfl
 have s2:Ef (itU (fz (Ab 1))) (BC 2 (Ar (tgN 3) (Ar (tgN 4) Bs))) wdB [vl sc,vl (.lst (K.map AB)),vl (.lst (([]:List Str).map T.str)),none,none]=.nx [vl sc,vl (.lst (K.map AB)),vl (.lst ((mks K).map T.str)),y3,y4]:=by
  have hi:itU (fz (Ab 1)) [vl sc,vl (.lst (K.map AB)),vl (.lst (([]:List Str).map T.str)),none,none]=.ok (K.map AB) [vl sc,vl (.lst (K.map AB)),vl (.lst (([]:List Str).map T.str)),none,none]:=GD (AF (Aa rfl))
  unfold Ef
  rw [hi]
  exact g
 have e1:fz (Am (AA 2 Be) (Ah (fz (Ab 0)) (Ah (gc (.int 2)) Ak))) [vl sc,vl (.lst (K.map AB)),vl (.lst ((mks K).map T.str)),y3,y4]=.ok (.t (.int (ns.getD 2 0))) [vl sc,vl (.lst (K.map AB)),vl (.lst ((mks K).map T.str)),y3,y4] :=
  CP (De (Aj (AF (Aa (t:=sc) rfl)) (Aj Az AE)) rfl rfl ec)
 have e2:fz (Am (AA 2 Cd) (Ah (fz (Am (AA 2 Be) (Ah (fz (Ab 0)) (Ah (gc (.int 2)) Ak)))) (Ah (gc (.int 5)) Ak))) [vl sc,vl (.lst (K.map AB)),vl (.lst ((mks K).map T.str)),y3,y4]=.ok (.t (.lst ((nms (ns.getD 2 0) 5).map T.str))) [vl sc,vl (.lst (K.map AB)),vl (.lst ((mks K).map T.str)),y3,y4] :=
  He (o:=.lst ((nms (ns.getD 2 0) 5).map T.str)) (Fi (Aj e1 (Aj Az AE)) rfl (by rw [show Dm _ _=[] from rfl];exact List.nodup_nil) en (A4 rfl))
 exact (DB (n:=3) (g:=JU) (args:=[vl sc,vl (.lst (K.map AB))]) (sq s1 (sq s2 (Bl (CG (g:=Bp) (ts:=[.lst ((mks K).map T.str),.lst ((nms (ns.getD 2 0) 5).map T.str)]) (Av (AF (Aa rfl)) (Av e2 AE)) rfl (show 2<=big by decide) rfl))))).trans rfl
theorem nil_eq {f:FS->Out Rv} {fs fs1:FS} (h:f fs=.ok (.t (.lst [])) fs1):Af (Mw false) f (AD By Ak) fs=.ok (.t (.bl true)) fs1 :=
 EZ h (Cs (ts:=[]) AE rfl (show 0<=big by decide)) rfl
theorem VJ {f:FS->Out Rv} {fs fs1:FS} (h:f fs=.ok (.t (.lst [])) fs1):asB (Af (Mw true) f (AD By Ak)) fs=.ok false fs1 :=
 Du (EZ h (Cs (ts:=[]) AE rfl (show 0<=big by decide)) rfl)
theorem N3 {a b:Str} {ts:List T}:orT (Fl (FQ (isF "tuple" (Ab 0)))) (orT (asB (Af gLt (Am CO (Ac (Ab 0) Ak)) (gc (.int 2)))) (asB (Af (Mw true) (BN false [none] (itU (slF (Ab 0) noP (D6 (gc (.int 2))))) (tgN 0) (Fl (FQ (isF "str" (Ab 0)))) (fz (Ab 0))) (AD By Ak)))) [vl (.tup (.str a :: .str b :: ts))]=.ok false [vl (.tup (.str a :: .str b :: ts))]:=by
 have g0:Ab 0 [vl (.tup (.str a :: .str b :: ts))]=.ok (.t (.tup (.str a :: .str b :: ts))) [vl (.tup (.str a :: .str b :: ts))]:=Aa rfl
 have l0:=X3 (GC (f:=Ab 0) g0 (.inr rfl)) (Az (t:=.int 2))
 rw [decide_eq_false (by simp;omega)] at l0
 obtain ⟨y,_,hc⟩:=JO (ft:=Fl (FQ (isF "str" (Ab 0)))) (fe:=fz (Ab 0)) (p:=T.str) (rest:=[]) [a,b] none [] Ay (fun x _=>QW (n:="str") (Aa rfl) rfl (by decide))
 have ec:BN false [none] (itU (slF (Ab 0) noP (D6 (gc (.int 2))))) (tgN 0) (Fl (FQ (isF "str" (Ab 0)))) (fz (Ab 0)) [vl (.tup (.str a :: .str b :: ts))]=.ok (.t (.lst [])) [vl (.tup (.str a :: .str b :: ts))] :=
  CT (src:=[none]) (HS (SN g0)) ⟨by rw [show Dm _ _=[] from rfl];simp,by rfl⟩ hc rfl
 exact Kk (QW (n:="tuple") g0 rfl (by decide)) (Kk l0 (VJ ec))
theorem shape:∀ (n d:Nat) (e:E),E.ok d e->d < n->CD n [vl e.t]=.ok (.t (.bl true)) [vl e.t]
 | 0,d,e,_,hn=>by omega
 | n+1,d,.nm s,_,_=>by
  rw [Nu]
  have g0:Ab 0 [vl (.tup [.str "name",.str s])]=.ok (.t (.tup [.str "name",.str s])) [vl (.tup [.str "name",.str s])]:=Aa rfl
  have c:=Gi (fa:=Af Bd (Ab 0) (gc (.int 0))) (fb:=gc (.str "name")) (Fo (i:=0) g0 rfl) Az
  rw [decide_eq_true rfl] at c
  have l0:=Ap (g:=gEq false) (GC (f:=Ab 0) g0 (.inr rfl)) (Az (t:=.int ((2:Nat):Int))) Ye
  exact DB (n:=0) (g:=Ho (CD n)) (args:=[vl (.tup [.str "name",.str s])]) (sq (Bx N3 rfl) (Ej (EB c (Bl l0))))
 | n+1,0,.pt h s es,hok,_=>by simp [E.ok] at hok
 | n+1,d+1,.pt h s es,hok,hn=>by
  simp only [E.ok] at hok
  rw [LD]
  have g0:Ab 0 [vl (.tup [.str (hd h),.str s,.tup (es.map E.t)])]=.ok (.t (.tup [.str (hd h),.str s,.tup (es.map E.t)])) [vl (.tup [.str (hd h),.str s,.tup (es.map E.t)])]:=Aa rfl
  have c:=Gi (fa:=Af Bd (Ab 0) (gc (.int 0))) (fb:=gc (.str "name")) (Fo (i:=0) g0 rfl) Az
  rw [decide_eq_false (Q0 h)] at c
  have hne:gEq true (.t (.int ((3:Nat):Int))) (.t (.int 3)) [vl (.tup [.str (hd h),.str s,.tup (es.map E.t)])]=.ok (.t (.bl false)) [vl (.tup [.str (hd h),.str s,.tup (es.map E.t)])]:=rfl
  have l0:=Du (Ap (g:=gEq true) (GC (f:=Ab 0) g0 (.inr rfl)) (Az (t:=.int 3)) hne)
  have i2:Af Bd (Ab 0) (gc (.int 2)) [vl (.tup [.str (hd h),.str s,.tup (es.map E.t)])]=.ok (.t (.tup (es.map E.t))) [vl (.tup [.str (hd h),.str s,.tup (es.map E.t)])]:=Fo (i:=2) g0 rfl
  obtain ⟨y,_,hc⟩:=JO (ft:=Fl (FQ (fz (Am (AA 1 (CD n)) (Ah (fz (Ab 0)) Ak))))) (fe:=fz (Ab 0)) (p:=E.t) (rest:=[]) es none [] Ay (fun x m =>
   FD (EH (CP (De (Aj (AF (Aa (t:=x.t) rfl)) AE) rfl rfl (shape n d x (E.Fz hok.2 x m) (by omega))))))
  have ec:BN false [none] (itU (Af Bd (Ab 0) (gc (.int 2)))) (tgN 0) (Fl (FQ (fz (Am (AA 1 (CD n)) (Ah (fz (Ab 0)) Ak))))) (fz (Ab 0)) [vl (.tup [.str (hd h),.str s,.tup (es.map E.t)])]=.ok (.t (.lst [])) [vl (.tup [.str (hd h),.str s,.tup (es.map E.t)])] :=
   CT (src:=[none]) (HS i2) ⟨by rw [show Dm _ _=[] from rfl];simp,by rfl⟩ hc rfl
  exact DB (n:=0) (g:=Ho (CD n)) (args:=[vl (.tup [.str (hd h),.str s,.tup (es.map E.t)])]) (sq (Bx N3 rfl) (sq (Bx c rfl) (sq (Bx (Kk l0 (QW (n:="tuple") i2 rfl (by decide))) rfl) (Bl (nil_eq ec)))))
theorem WQ (b:Bool):atI [T.str "call",T.str "make"] (if b then 1 else 0)=some (.str (hd b)):=by cases b <;> rfl
theorem turned {m:Str}:∀ (n d:Nat) (e:E),E.ok d e->d < n->BR n [vl e.t,vl (.str m)]=.ok (.t (e.re fun s=>decide (s=m)).t) [vl e.t,vl (.str m)]
 | 0,d,e,_,hn=>by omega
 | n+1,d,.nm s,_,_=>by
  simp only [E.re]
  rw [Nu]
  have g0:Ab 0 [vl (.tup [.str "name",.str s]),vl (.str m),none]=.ok (.t (.tup [.str "name",.str s])) [vl (.tup [.str "name",.str s]),vl (.str m),none]:=Aa rfl
  have c:=Gi (fa:=Af Bd (Ab 0) (gc (.int 0))) (fb:=gc (.str "name")) (Fo (i:=0) g0 rfl) Az
  rw [decide_eq_true rfl] at c
  exact DB (n:=1) (g:=Gp (BR n)) (args:=[vl (.tup [.str "name",.str s]),vl (.str m)]) (Ej (EB c (Bl g0)))
 | n+1,0,.pt h s es,hok,_=>by simp [E.ok] at hok
 | n+1,d+1,.pt h s es,hok,hn=>by
  simp only [E.ok] at hok
  simp only [E.re]
  rw [LD,LD,E.Jg]
  have g0:∀ x,Ab 0 [vl (.tup [.str (hd h),.str s,.tup (es.map E.t)]),vl (.str m),x]=.ok (.t (.tup [.str (hd h),.str s,.tup (es.map E.t)])) [vl (.tup [.str (hd h),.str s,.tup (es.map E.t)]),vl (.str m),x]:=fun x=>Aa rfl
  have c:=Gi (fa:=Af Bd (Ab 0) (gc (.int 0))) (fb:=gc (.str "name")) (Fo (i:=0) (g0 none) rfl) Az
  rw [decide_eq_false (Q0 h)] at c
  have e1:Af (gEq false) (Af Bd (Ab 0) (gc (.int 1))) (Ab 1) [vl (.tup [.str (hd h),.str s,.tup (es.map E.t)]),vl (.str m),none]=.ok (.t (.bl (decide (s=m)))) [vl (.tup [.str (hd h),.str s,.tup (es.map E.t)]),vl (.str m),none]:=Ap (Fo (i:=1) (g0 none) rfl) (Aa rfl) T9
  have e2:Am Hd (Ac (Af (gEq false) (Af Bd (Ab 0) (gc (.int 1))) (Ab 1)) Ak) [vl (.tup [.str (hd h),.str s,.tup (es.map E.t)]),vl (.str m),none]=.ok (.t (.int (if decide (s=m) then 1 else 0))) [vl (.tup [.str (hd h),.str s,.tup (es.map E.t)]),vl (.str m),none]:=by
   refine Di (Av e1 AE) ?_
   cases decide (s=m) <;> rfl
  have s2:AY 2 (Af Bd (AD By (Ac (gc (.str ("call":Str))) (Ac (gc (.str ("make":Str))) Ak))) (Am Hd (Ac (Af (gEq false) (Af Bd (Ab 0) (gc (.int 1))) (Ab 1)) Ak))) [vl (.tup [.str (hd h),.str s,.tup (es.map E.t)]),vl (.str m),none]=.nx [vl (.tup [.str (hd h),.str s,.tup (es.map E.t)]),vl (.str m),vl (.str (hd (decide (s=m))))] :=
   Bt (Ap (Cs (ts:=[.str "call",.str "make"]) (Av Az (Av Az AE)) rfl (show 2<=big by decide)) e2 (Bv rfl (WQ _))) rfl
  generalize hd (decide (s=m))=w at s2 ⊢
  have i2:Af Bd (Ab 0) (gc (.int 2)) [vl (.tup [.str (hd h),.str s,.tup (es.map E.t)]),vl (.str m),vl (.str w)]=.ok (.t (.tup (es.map E.t))) [vl (.tup [.str (hd h),.str s,.tup (es.map E.t)]),vl (.str m),vl (.str w)]:=Fo (i:=2) (g0 _) rfl
  obtain ⟨y,_,hc⟩:=EX (fe:=fz (Am (AA 2 (BR n)) (Ah (fz (Ab 0)) (Ah (fz (Ab 1)) Ak)))) (p:=E.t) (q:=fun e=>(e.re fun s=>decide (s=m)).t) (rest:=[vl (.str m)]) es none [] Ay (fun x mx =>
   CP (De (rs:=[.t x.t,.t (.str m)]) (Aj (AF (Aa rfl)) (Aj (AF (Aa rfl)) AE)) rfl rfl (turned n d x (E.Fz hok.2 x mx) (by omega)))) (by show 0+_<=1000000;omega)
  rw [List.nil_append] at hc
  have ec:BN false [none,some 1] (itU (Af Bd (Ab 0) (gc (.int 2)))) (tgN 0) EF (fz (Am (AA 2 (BR n)) (Ah (fz (Ab 0)) (Ah (fz (Ab 1)) Ak)))) [vl (.tup [.str (hd h),.str s,.tup (es.map E.t)]),vl (.str m),vl (.str w)]=.ok (.t (.lst (es.map fun e=>(e.re fun s=>decide (s=m)).t))) [vl (.tup [.str (hd h),.str s,.tup (es.map E.t)]),vl (.str m),vl (.str w)] :=
   CT (src:=[none,some 1]) (HS i2) ⟨by rw [show Dm _ _=[] from rfl];simp,by rfl⟩ hc rfl
  have et:Am CN (Ac (BN false [none,some 1] (itU (Af Bd (Ab 0) (gc (.int 2)))) (tgN 0) EF (fz (Am (AA 2 (BR n)) (Ah (fz (Ab 0)) (Ah (fz (Ab 1)) Ak))))) Ak) [vl (.tup [.str (hd h),.str s,.tup (es.map E.t)]),vl (.str m),vl (.str w)]=.ok (.t (.tup (es.map fun e=>(e.re fun s=>decide (s=m)).t))) [vl (.tup [.str (hd h),.str s,.tup (es.map E.t)]),vl (.str m),vl (.str w)]:=Di (Av ec AE) rfl
  rw [List.map_map]
  exact DB (n:=1) (g:=Gp (BR n)) (args:=[vl (.tup [.str (hd h),.str s,.tup (es.map E.t)]),vl (.str m)]) (sq (Bx c rfl) (sq s2 (Bl (CG (g:=Bp) (ts:=[.str w,.str s,.tup (es.map fun e=>(e.re fun s=>decide (s=m)).t)]) (Av (AF (Aa rfl)) (Av (Fo (i:=1) (g0 _) rfl) (Av et AE))) rfl (show 3<=big by decide) rfl))))
theorem HV {neg:Bool} {d:Nat} {e:E} (ok:E.ok d e) (h:d<=20) {fs:FS}:Mw neg (.t e.t) (.t e.t) fs=.ok (.t (.bl (!neg))) fs:=by
 obtain ⟨xs,ex⟩:=E.Xm e
 obtain ⟨b,h1,h2⟩:=WG d 61 e e ok (by omega)
 have hb:b=true:=h2.mpr rfl
 rw [hb,ex,GH] at h1
 rw [ex]
 show eqB neg xs xs fs=_
 unfold eqB
 cases hq:IU (eqT 60) xs xs with
 | none=>rw [hq] at h1;cases h1
 | some c =>
  rw [hq] at h1
  have h3:(c && xs.length == xs.length)=true:=by
   simpa using h1
  simp only [h3]
  cases neg <;> rfl
mutual
theorem E.Va (f:Str->Bool):∀ (d:Nat) (e:E),E.ok d e->E.ok d (e.re f)
 | d,.nm s,_=>by simp [E.re,E.ok]
 | 0,.pt h s es,k=>by simp [E.ok] at k
 | d+1,.pt h s es,k=>by
  simp only [E.ok,E.re] at k ⊢
  refine ⟨?_,E.RF f d es k.2⟩
  rw [E.Jg,List.length_map]
  exact k.1
theorem E.RF (f:Str->Bool):∀ (d:Nat) (es:List E),E.oks d es->E.oks d (E.res f es)
 | d,[],_=>by simp [E.res,E.oks]
 | d,e :: es,k=>by
  simp only [E.res,E.oks] at k ⊢
  exact ⟨E.Va f d e k.1,E.RF f d es k.2⟩
end
mutual
theorem E.Vb (f:Str->Bool) {p:Str->Prop}:∀ (e:E),e.al p->(e.re f).al p
 | .nm s,h=>by simpa only [E.re,E.al] using h
 | .pt b s es,h=>by
  simp only [E.re,E.al] at h ⊢
  exact ⟨h.1,E.RG f es h.2⟩
theorem E.RG (f:Str->Bool) {p:Str->Prop}:∀ (es:List E),E.als p es->E.als p (E.res f es)
 | [],_=>by simp [E.res,E.als]
 | e :: es,h=>by
  simp only [E.res,E.als] at h ⊢
  exact ⟨E.Vb f e h.1,E.RG f es h.2⟩
end
mutual
theorem E.U9 (f:Str->Bool):∀ (e:E),(e.re f).tx=e.tx
 | .nm s=>by simp only [E.re]
 | .pt b s es=>by
  simp only [E.re,E.tx]
  rw [E.RE f es]
theorem E.RE (f:Str->Bool):∀ (es:List E),E.txs (E.res f es)=E.txs es
 | []=>by simp only [E.res]
 | e :: es=>by
  simp only [E.res,E.txs]
  rw [E.U9 f e,E.RE f es]
end
mutual
theorem E.Sr {p q:Str->Prop} (hpq:∀ s,p s->q s):∀ (e:E),e.al p->e.al q
 | .nm s,h=>by
  simp only [E.al] at h ⊢
  exact hpq s h
 | .pt b s es,h=>by
  simp only [E.al] at h ⊢
  exact ⟨hpq s h.1,E.Qc hpq es h.2⟩
theorem E.Qc {p q:Str->Prop} (hpq:∀ s,p s->q s):∀ (es:List E),E.als p es->E.als q es
 | [],_=>by simp [E.als]
 | e :: es,h=>by
  simp only [E.als] at h ⊢
  exact ⟨E.Sr hpq e h.1,E.Qc hpq es h.2⟩
end
theorem Ju (k m:Str):mks [(k,[(m,([]:List Str))])]=[m]:=by simp [mks]
theorem Qi {K:Kd} (W:Well K) {k m:Str} (hk:k∈K.map (·.1)) (hm:m∈mks K):Well [(k,[(m,([]:List Str))])]:=by
 obtain ⟨kd,h1,h2⟩:=List.mem_map.mp hk
 refine ⟨by simp,by simp,by simp,fun x mx=>?_,fun x mx=>?_,?_,fun x mx=>?_,fun x mx=>?_,fun x mx r mr=>?_,fun x mx r mr y my=>?_,fun D x R e r hr y my=>?_⟩
 ·rw [List.mem_singleton] at mx
  rw [mx,<- h2]
  exact W.nm kd h1
 ·rw [List.mem_singleton] at mx
  rw [mx]
  simp
 ·rw [Ju]
  simp
 ·rw [Ju,List.mem_singleton] at mx
  rw [mx]
  exact W.mnm m hm
 ·rw [Ju,List.mem_singleton] at mx
  rw [mx]
  exact W.mln m hm
 ·rw [List.mem_singleton] at mx
  rw [mx] at mr
  have:r=(m,[]):=by simpa using mr
  rw [this]
  simp
 ·rw [List.mem_singleton] at mx
  rw [mx] at mr
  have:r=(m,[]):=by simpa using mr
  rw [this] at my
  simp at my
 ·have hx:x∈[(k,[(m,([]:List Str))])]:=by rw [e];simp
  rw [List.mem_singleton] at hx
  rw [hx] at hr
  have:r=(m,[]):=by simpa using hr.symm
  rw [this] at my
  simp at my
abbrev gS (C:Addr) (K:Kd) (hs:List T) (sc:T) (Nm:List Str) (a b c d e f:Option Sl):FS:=[vl sc,vl (.lst (K.map AB)),vl (Ax C K hs),vl (.lst ((mks K).map T.str)),vl (.lst (Nm.map T.str)),a,b,c,d,e,f]
theorem good (cStock:Addr):∀ ns:List Int,ns.length<=63->L2.Df ns<=2 ^ 20->∃ fs,Ul cStock [some (.val (.scr (ns.map T.int)))]=.ok (.t (.bl true)) fs:=by
 intro ns hlen hb
 have hbit:=fun i=>Rq hb i
 obtain ⟨K,h1,h4,KO,hu,ek⟩:=kinds (ns:=ns) (hbit 0) (hbit 1)
 have W:=well h1 h4 KO hu
 have ew:=words W (hbit 2)
 have hmks:mks K=(nms (ns.getD 1 0) 12).take (used K):=by
  have:=(Jt KO (by rw [EM];exact hu) K.length (Nat.le_refl _)).1
  rwa [List.take_length] at this
 have hwm:∀ s∈mks K,Lw s:=fun s hs=>by
  rw [hmks] at hs
  obtain ⟨k,rfl⟩:=Jr (List.mem_of_mem_take hs)
  exact VO _ _
 have hwn:∀ s∈nms (ns.getD 2 0) 5,Lw s:=fun s hs=>by
  obtain ⟨k,rfl⟩:=Jr hs
  exact VO _ _
 have hml:=OG h4 fun kd m=>(W.rw kd m).2
 have hnl:=EM (ns.getD 2 0) 5
 generalize nms (ns.getD 2 0) 5=Nm at ew hwn hnl
 clear hmks
 obtain ⟨ds,hd,ed⟩:=digits (t:=.scr (ns.map T.int)) (ns:=ns) (.inl rfl) (a:=1) (b:=3) (by decide) (by decide) (by decide) (by decide)
 obtain ⟨hs,ei⟩:=Iz (C:=cStock) W
 obtain ⟨k0,ks,ek0⟩:∃ k0 ks,K=k0 :: ks:=by
  cases h:K with
  | nil=>rw [h] at h1;simp at h1
  | cons a b=>exact ⟨a,b,rfl⟩
 obtain ⟨m0,ms,em0⟩:∃ m0 ms,mks K=m0 :: ms:=by
  have hrw:=(W.rw k0 (by rw [ek0];simp)).1
  cases h:k0.2 with
  | nil=>rw [h] at hrw;simp at hrw
  | cons a b=>exact ⟨a.1,b.map (·.1)++mks ks,by rw [ek0,Em,h];rfl⟩
 have W1:=Qi W (k:=k0.1) (m:=m0) (by rw [ek0];simp) (by rw [em0];simp)
 obtain ⟨hs1,ei1⟩:=Iz (C:=cStock) W1
 obtain ⟨e,es,⟨ok,al,re⟩,_,ewr⟩:=written (Mk:=mks K) (Nm:=Nm) (by rw [em0];simp) (by omega) 60 4 4 ds (by decide) rfl (by decide) (by rw [hd];decide)
 have hw:e.al Lw:=E.Sr (fun s h=>by
  rcases List.mem_append.mp h with h | h
  ·exact hwn s h
  ·exact hwm s h) e al
 have etx:=text 60 4 e ok (by decide) (by decide) hw
 have esh:=shown 60 4 e ok (by decide) (by decide) hw
 have erd:=D3 (C:=cStock) (hs:=hs) W ok (by decide) hw
 have hre:e.re (mkB K)=e:=re
 rw [hre] at erd
 have erd1:=D3 (C:=cStock) (hs:=hs1) W1 ok (by decide) hw
 have hre1:e.re (mkB [(k0.1,[(m0,[])])])=e.re fun s=>decide (s=m0):=by
  have:mkB [(k0.1,[(m0,[])])]=fun s=>decide (s=m0):=by
   funext s
   show decide (s∈mks [(k0.1,[(m0,[])])])=_
   rw [Ju]
   simp
  rw [this]
 rw [hre1] at erd1
 have etn:=turned (m:=m0) 60 4 e ok (by decide)
 have ok1:=E.Va (fun s=>decide (s=m0)) 4 e ok
 have hw1:=E.Vb (fun s=>decide (s=m0)) e hw
 have esh1:=shown 60 4 _ ok1 (by decide) (by decide) hw1
 rw [E.U9] at esh1
 have ess:=shape 60 4 e ok (by decide)
 have ess1:=shape 60 4 _ ok1 (by decide)
 generalize (e.re fun s=>decide (s=m0))=e1 at erd1 etn ok1 hw1 esh1 ess1
 generalize T.scr (ns.map T.int)=sc at ek ew ed ⊢
 have a0:atI (K.map AB) 0=some (AB k0):=AW (j:=0) (by rw [ek0];rfl)
 have a1:atI ((mks K).map T.str) 0=some (.str m0):=AW (j:=0) (by rw [em0];rfl)
 have all:∃ τ,P7 cStock [vl sc,none,none,none,none,none,none,none,none,none,none]=.ret (.t (.bl true)) τ:=by
  unfold P7
  refine ⟨gS cStock K hs sc Nm (vl e.t) (vl (.str e.tx)) (vl (.str e.tx)) (vl e.t) (vl (Ax cStock [(k0.1,[(m0,[])])] hs1)) (vl e1.t),?_⟩
  refine sq (fs':=[vl sc,vl (.lst (K.map AB)),none,none,none,none,none,none,none,none,none]) (DM (He (Fi (Aj (AF (Aa (t:=sc) rfl)) AE) rfl (by rw [show Dm _ _=[] from rfl];exact List.nodup_nil) ek (A4 rfl))) rfl) ?_
  refine sq (fs':=[vl sc,vl (.lst (K.map AB)),vl (Ax cStock K hs),none,none,none,none,none,none,none,none]) (DM (He (OI (Aj (AF (Aa (t:=.lst (K.map AB)) rfl)) AE) rfl rfl ei)) rfl) ?_
  refine sq (fs':=(gS cStock K hs sc Nm none none none none none none)) (Zf (CP (De (rs:=[.t sc,.t (.lst (K.map AB))]) (Aj (AF (Aa rfl)) (Aj (AF (Aa rfl)) AE)) rfl rfl ew)) rfl rfl) ?_
  refine sq (fs':=(gS cStock K hs sc Nm (vl e.t) none none none none none)) (by
    have e1:Am (AA 3 Ck) (Ah (fz (Ab 0)) (Ah (gc (.int 1)) (Ah (gc (.int 3)) Ak))) (gS cStock K hs sc Nm none none none none none none)=.ok (.nw (.lst (ds.map T.int))) (gS cStock K hs sc Nm none none none none none none) :=
     Fi (Aj (AF (Aa (t:=sc) rfl)) (Aj Az (Aj Az AE))) rfl (by rw [show Dm _ _=[] from rfl];exact List.nodup_nil) ed (A4 rfl)
    exact DM (CP (DZ (Aj (AF (Aa (t:=.lst ((mks K).map T.str)) rfl)) (Aj (AF (Aa (t:=.lst (Nm.map T.str)) rfl)) (Aj e1 (Aj Az AE)))) rfl (by rw [show Dm _ _=[] from rfl];exact List.nodup_nil) ewr (A4 rfl))) rfl
   ) ?_
  refine sq (fs':=(gS cStock K hs sc Nm (vl e.t) (vl (.str e.tx)) none none none none)) (Bt (CP (De (rs:=[.t e.t]) (Aj (AF (Aa rfl)) AE) rfl rfl etx)) rfl) ?_
  refine sq (fs':=(gS cStock K hs sc Nm (vl e.t) (vl (.str e.tx)) (vl (.str e.tx)) none none none)) (Bt (CP (De (rs:=[.t e.t]) (Aj (AF (Aa rfl)) AE) rfl rfl esh)) rfl) ?_
  refine sq (Bx (by
    have:=RZ (f:=Ab 7) (g:=Ab 6) (fs:=(gS cStock K hs sc Nm (vl e.t) (vl (.str e.tx)) (vl (.str e.tx)) none none none)) (x:=e.tx) (y:=e.tx) (Aa rfl) (Aa rfl)
    rw [decide_eq_true rfl] at this
    exact Kk (QW (n:="str") (Aa rfl) rfl (by decide)) this
   ) rfl) ?_
  refine sq (fs':=(gS cStock K hs sc Nm (vl e.t) (vl (.str e.tx)) (vl (.str e.tx)) (vl e.t) none none)) (Bt (CP (De (rs:=[.t (Ax cStock K hs),.t (.str e.tx)]) (Aj (AF (Aa rfl)) (Aj (AF (Aa rfl)) AE)) rfl rfl erd)) rfl) ?_
  refine sq (Bx (Kk (FD (EH (CP (De (rs:=[.t e.t]) (Aj (AF (Aa rfl)) AE) rfl rfl ess)))) (Du (Ap (Aa rfl) (Aa rfl) (HV ok (by decide))))) rfl) ?_
  refine sq (fs':=(gS cStock K hs sc Nm (vl e.t) (vl (.str e.tx)) (vl (.str e.tx)) (vl e.t) (vl (Ax cStock [(k0.1,[(m0,[])])] hs1)) none)) (by
    generalize hfs:(gS cStock K hs sc Nm (vl e.t) (vl (.str e.tx)) (vl (.str e.tx)) (vl e.t) none none)=fs
    have g1:Ab 1 fs=.ok (.t (.lst (K.map AB))) fs:=by subst hfs;exact Aa rfl
    have g3:Ab 3 fs=.ok (.t (.lst ((mks K).map T.str))) fs:=by subst hfs;exact Aa rfl
    have e1:Af Bd (Af Bd (Ab 1) (gc (.int 0))) (gc (.int 0)) fs=.ok (.t (.str k0.1)) fs:=Ap (Ap g1 Az (Bv rfl a0)) Az (show Bd (.t (AB k0)) (.t (.int 0)) _=.ok (.t (.str k0.1)) _ from rfl)
    have e2:Af Bd (Ab 3) (gc (.int 0)) fs=.ok (.t (.str m0)) fs:=Ap g3 Az (Bv rfl a1)
    have e3:AD Bp (Ac (Af Bd (Ab 3) (gc (.int 0))) (Ac (AD Bp Ak) Ak)) fs=.ok (.t (Dk (m0,[]))) fs :=
     CG (g:=Bp) (ts:=[.str m0,.tup []]) (Av e2 (Av (CG (g:=Bp) (ts:=[]) AE rfl (show 0<=big by decide) rfl) AE)) rfl (show 2<=big by decide) rfl
    have e4:AD Bp (Ac (Af Bd (Af Bd (Ab 1) (gc (.int 0))) (gc (.int 0))) (Ac (AD By (Ac (AD Bp (Ac (Af Bd (Ab 3) (gc (.int 0))) (Ac (AD Bp Ak) Ak))) Ak)) Ak)) fs=.ok (.t (AB (k0.1,[(m0,[])]))) fs :=
     CG (g:=Bp) (ts:=[.str k0.1,.lst [Dk (m0,[])]]) (Av e1 (Av (Cs (ts:=[Dk (m0,[])]) (Av e3 AE) rfl (show 1<=big by decide)) AE)) rfl (show 2<=big by decide) rfl
    have e5:=Cs (ts:=[AB (k0.1,[(m0,[])])]) (Av e4 AE) rfl (show 1<=big by decide)
    subst hfs
    exact DM (He (OI (rs:=[.t (.lst ([(k0.1,[(m0,[])])].map AB))]) (Aj e5 AE) rfl rfl ei1)) rfl
   ) ?_
  refine sq (fs':=(gS cStock K hs sc Nm (vl e.t) (vl (.str e.tx)) (vl (.str e.tx)) (vl e.t) (vl (Ax cStock [(k0.1,[(m0,[])])] hs1)) (vl e1.t))) (Bt (CP (De (rs:=[.t (Ax cStock [(k0.1,[(m0,[])])] hs1),.t (.str e.tx)]) (Aj (AF (Aa rfl)) (Aj (AF (Aa rfl)) AE)) rfl rfl erd1)) rfl) ?_
  generalize hfs:(gS cStock K hs sc Nm (vl e.t) (vl (.str e.tx)) (vl (.str e.tx)) (vl e.t) (vl (Ax cStock [(k0.1,[(m0,[])])] hs1)) (vl e1.t))=fs
  have g2:Ab 2 fs=.ok (.t (Ax cStock K hs)) fs:=by subst hfs;exact Aa rfl
  have g3:Ab 3 fs=.ok (.t (.lst ((mks K).map T.str))) fs:=by subst hfs;exact Aa rfl
  have g5:Ab 5 fs=.ok (.t e.t) fs:=by subst hfs;exact Aa rfl
  have g6:Ab 6 fs=.ok (.t (.str e.tx)) fs:=by subst hfs;exact Aa rfl
  have g10:Ab 10 fs=.ok (.t e1.t) fs:=by subst hfs;exact Aa rfl
  refine sq (Bx (Kk (FD (EH (CP (De (rs:=[.t e1.t]) (Aj (AF g10) AE) rfl rfl ess1)))) (Du (Ap g10 (CP (De (rs:=[.t e.t,.t (.str m0)]) (Aj (AF g5) (Aj (Ap g3 Az (Bv rfl a1)) AE)) rfl rfl etn)) (HV ok1 (by decide))))) rfl) ?_
  have r1:Af (Mw false) (fz (Am (AA 2 (Dp cStock)) (Ah (fz (Ab 2)) (Ah (fz (Ab 6)) Ak)))) (Ab 5) fs=.ok (.t (.bl true)) fs :=
   Ap (CP (De (rs:=[.t (Ax cStock K hs),.t (.str e.tx)]) (Aj (AF g2) (Aj (AF g6) AE)) rfl rfl erd)) g5 (HV ok (by decide))
  have r2:Af (gEq false) (fz (Am (AA 1 (Bq 60)) (Ah (fz (Ab 10)) Ak))) (Ab 6) fs=.ok (.t (.bl true)) fs:=by
   have:=Ap (g:=gEq false) (CP (De (rs:=[.t e1.t]) (Aj (AF g10) AE) rfl rfl esh1)) g6 T9
   rwa [decide_eq_true rfl] at this
  exact Bl (WS r1 r2)
 obtain ⟨τ,all⟩:=all
 refine ⟨τ.take 1,?_⟩
 unfold Ul Dj
 show (match P7 cStock [vl sc,none,none,none,none,none,none,none,none,none,none] with | .nx τ=>_ | .ret (.t t) τ=>_ | .ret (.nw o) τ=>_ | .ret (.rf i) τ=>_ | .exc c τ=>_ | _=>_)=_
 rw [all]
 rfl
theorem us1 {α:Type} {us:List α} (e:us.length=1):∃ a,us=[a]:=by
 match us,e with
 | [a],_=>exact ⟨a,rfl⟩
theorem us2 {α:Type} {us:List α} (e:us.length=2):∃ a b,us=[a,b]:=by
 match us,e with
 | [a,b],_=>exact ⟨a,b,rfl⟩
theorem us3 {α:Type} {us:List α} (e:us.length=3):∃ a b c,us=[a,b,c]:=by
 match us,e with
 | [a,b,c],_=>exact ⟨a,b,c,rfl⟩
theorem us4 {α:Type} {us:List α} (e:us.length=4):∃ a b c d,us=[a,b,c,d]:=by
 match us,e with
 | [a,b,c,d],_=>exact ⟨a,b,c,d,rfl⟩
theorem us5 {α:Type} {us:List α} (e:us.length=5):∃ a b c d e,us=[a,b,c,d,e]:=by
 match us,e with
 | [a,b,c,d,e],_=>exact ⟨a,b,c,d,e,rfl⟩
def Qq (K:Fg):Sp:=fun vs H Q _=>∃ (a:Addr) (ns:List Int),vs=[.ref a]/\SqL K H a (ns.map V.int)/\ns.length<=63/\Df ns<=2 ^ 20/\∀ H',Q (.bl true) H'
theorem L5 {K:Fg} {F:Wd} {H:Hp}:∀ (ns:List Int),Ag K F H (ns.map T.int) (ns.map V.int)
 | []=>by simp [Ag]
 | n :: ns=>by
  simp only [List.map_cons,Ag]
  exact ⟨_,_,rfl,by simp [A3],L5 ns⟩
theorem VR {K:Fg} {Fn:FS->Out Rv} (good:∀ ns:List Int,ns.length<=63->Df ns<=2 ^ 20->∃ fs,Fn [some (.val (.scr (ns.map T.int)))]=.ok (.t (.bl true)) fs):∀ vs H Q E,Qq K vs H Q E->spF K 1 Fn vs H Q E:=by
 intro vs H Q E ⟨a,ns,e,hs,hl,hb,k⟩
 subst e
 obtain ⟨fs,eg⟩:=good ns hl hb
 have key:∀ F:Wd,StL K F H a (ns.map V.int)->(∀ b,F b->H b≠none)->(∀ b,¬ F.p b)->spF K 1 Fn [.ref a] H Q E:=fun F st fd np=>by
  refine ⟨rfl,F,[some (.val (.scr (ns.map T.int)))],⟨[],?_,List.nodup_nil,(fun _ m=>nomatch m),fd,?_,fun b p=>(np b p).elim,fun b _ p=>np b p,(fun _ m=>nomatch m)⟩,?_⟩
  ·show AG K F H [some (.val (.scr (ns.map T.int)))] [some (.ref a)] []
   simp only [AG]
   exact ⟨_,_,rfl,by simp only [A3];exact ⟨a,_,rfl,st,L5 ns⟩,by first | exact ⟨rfl,rfl⟩ | trivial⟩
  ·intro i o e
   cases i with
   | zero=>cases e
   | succ i=>simp at e
  ·rw [eg]
   intro F' H' u σ' _ q
   obtain ⟨L,L',_,⟨_,qu⟩,_⟩:=q
   have:u=.bl true:=qu
   subst this
   exact k H'
 rcases hs with hs | hs
 ·exact key ⟨fun b=>b=a,fun _=>False⟩ (.inl ⟨rfl,hs⟩) (fun b e=>by
   have e':b=a:=e
   subst e'
   rcases hs with z | ⟨o,z⟩ <;> (rw [z];exact fun q=>nomatch q)) fun _ p=>p
 ·exact key ⟨fun _=>False,fun _=>False⟩ (.inr hs) (fun b e=>e.elim) fun _ p=>p
theorem IV {P:Params} {K:Fg} {e:DictEntry} {r:List DictEntry} {k:Str} {ts:List Str} {tab:List (Str×List Str)} {t:Tok} {b:Addr} (h1:e.hash=PyData.keyHash P k) (h2:e.key=.str k t) (h3:e.val=.ref b) (h4:TH K b ts=true) (h5:EU P K r tab):EU P K (e :: r) ((k,ts) :: tab):=⟨h1,⟨t,b,h2,h3,h4⟩,h5⟩
theorem all_mk {l:PySem.W.OpenLaw} {w:World} {K:Fg} {h:Heap} {mg:Str->Option Value} {fa:Addr} {cStock:Addr} (X:K.In h) (G:h.Ns mainGlobals mg) (hfa:mg "law"=some (.ref fa))
  {f0 f1 f2 f3 f4 f5 f6 f7 f8 f9 f10 f11 f12 f13 f14 f15 f16 f17 f18 f19 f20 f21 f22 f23 f24 f25 f26 f27:Addr} {od0 an0 od1 an1 od2 an2 od3 an3 od4 an4 od5 an5 od6 an6 od7 an7 od8 an8 od9 an9 od10 an10 od11 an11 od12 an12 od13 an13 od14 an14 od15 an15 od16 an16 od17 an17 od18 an18 od19 an19 od20 an20 od21 an21 od22 an22 od23 an23 od24 an24 od25 an25 od26 an26 od27 an27:Option Addr} {sl0 sl1 sl2 sl3 sl4 sl5 sl6 sl7 sl8 sl9 sl10 sl11 sl12 sl13 sl14 sl15 sl16 sl17 sl18 sl19 sl20 sl21 sl22 sl23 sl24 sl25 sl26 sl27:Array (Option Value)} {oc0 kV0 dc0 pm0 cd0 ct0 oc1 kV1 dc1 pm1 cd1 ct1 oc2 kV2 dc2 pm2 cd2 ct2 oc3 kV3 dc3 pm3 cd3 ct3 oc4 kV4 dc4 pm4 cd4 ct4 oc5 kV5 dc5 pm5 cd5 ct5 oc6 kV6 dc6 pm6 cd6 ct6 oc7 kV7 dc7 pm7 cd7 ct7 oc8 kV8 dc8 pm8 cd8 ct8 oc9 kV9 dc9 pm9 cd9 ct9 oc10 kV10 dc10 pm10 cd10 ct10 oc11 kV11 dc11 pm11 cd11 ct11 oc12 kV12 dc12 pm12 cd12 ct12 oc13 kV13 dc13 pm13 cd13 ct13 oc14 kV14 dc14 pm14 cd14 ct14 oc15 kV15 dc15 pm15 cd15 ct15 oc16 kV16 dc16 pm16 cd16 ct16 oc17 kV17 dc17 pm17 cd17 ct17 oc18 kV18 dc18 pm18 cd18 ct18 oc19 kV19 dc19 pm19 cd19 ct19 oc20 kV20 dc20 pm20 cd20 ct20 oc21 kV21 dc21 pm21 cd21 ct21 oc22 kV22 dc22 pm22 cd22 ct22 oc23 kV23 dc23 pm23 cd23 ct23 oc24 kV24 dc24 pm24 cd24 ct24 oc25 kV25 dc25 pm25 cd25 ct25 oc26 kV26 dc26 pm26 cd26 ct26 oc27 kV27 dc27 pm27 cd27 ct27:Value}
  {t_LETTERS:Tok}
  {t_MOST_KINDS:Tok}
  {t_MOST_LETTERS:Tok}
  {t_MOST_MAKERS:Tok}
  {t_MOST_PARTS:Tok}
  {aB_BEHIND:Addr} {es_BEHIND:Array DictEntry} {ep_BEHIND:Nat}
  (aC_Stock:PySem.W.nsIn K mainGlobals "Stock"=some (some (.ref cStock)))
  (pg_Stock:PySem.W.plainGet K cStock Str.empty=true)
  (hd_Stock:PySem.W.hasDictIn K cStock=true)
  (po_Stock:PySem.W.plainOver K cStock=true)
  (sa_Stock:PySem.W.findIn K (.ref cStock) "__setattr__"=some (some (.builtin "object.__setattr__")))
  (mk_Stock:PySem.W.makesIn K cStock=true)
  (kc_Stock:PySem.W.keepIn K (.ref cStock)=true)
  (a0:PySem.W.nsIn K mainGlobals "_law_digits"=some (some (.ref f0)))
  (l0:K.lookup f0=some ⟨oc0,od0,.func (PySem.W.fnOf "_law_digits" "_law_digits" (AV Ed) (AU Ed) (Ao Ed) .none kV0 dc0 pm0 an0 cd0 ct0),sl0⟩) (c0:PySem.W.codeIn K cd0 "_law_digits"=true) (k0:PySem.W.keepIn K (.ref f0)=true)
  (a1:PySem.W.nsIn K mainGlobals "_law_names"=some (some (.ref f1)))
  (l1:K.lookup f1=some ⟨oc1,od1,.func (PySem.W.fnOf "_law_names" "_law_names" (AV E8) (AU E8) (Ao E8) .none kV1 dc1 pm1 an1 cd1 ct1),sl1⟩) (c1:PySem.W.codeIn K cd1 "_law_names"=true) (k1:PySem.W.keepIn K (.ref f1)=true)
  (a2:PySem.W.nsIn K mainGlobals "_law_cell_at"=some (some (.ref f2)))
  (l2:K.lookup f2=some ⟨oc2,od2,.func (PySem.W.fnOf "_law_cell_at" "_law_cell_at" (AV DL) (AU DL) (Ao DL) .none kV2 dc2 pm2 an2 cd2 ct2),sl2⟩) (c2:PySem.W.codeIn K cd2 "_law_cell_at"=true) (k2:PySem.W.keepIn K (.ref f2)=true)
  (a3:PySem.W.nsIn K mainGlobals "_law_parts"=some (some (.ref f3)))
  (l3:K.lookup f3=some ⟨oc3,od3,.func (PySem.W.fnOf "_law_parts" "_law_parts" (AV E7) (AU E7) (Ao E7) .none kV3 dc3 pm3 an3 cd3 ct3),sl3⟩) (c3:PySem.W.codeIn K cd3 "_law_parts"=true) (k3:PySem.W.keepIn K (.ref f3)=true)
  (a4:PySem.W.nsIn K mainGlobals "_law_kinds"=some (some (.ref f4)))
  (l4:K.lookup f4=some ⟨oc4,od4,.func (PySem.W.fnOf "_law_kinds" "_law_kinds" (AV E9) (AU E9) (Ao E9) .none kV4 dc4 pm4 an4 cd4 ct4),sl4⟩) (c4:PySem.W.codeIn K cd4 "_law_kinds"=true) (k4:PySem.W.keepIn K (.ref f4)=true)
  (a5:PySem.W.nsIn K mainGlobals "is_name"=some (some (.ref f5)))
  (l5:K.lookup f5=some ⟨oc5,od5,.func (PySem.W.fnOf "is_name" "is_name" (AV Ea) (AU Ea) (Ao Ea) .none kV5 dc5 pm5 an5 cd5 ct5),sl5⟩) (c5:PySem.W.codeIn K cd5 "is_name"=true) (k5:PySem.W.keepIn K (.ref f5)=true)
  (a6:PySem.W.nsIn K mainGlobals "check_kinds"=some (some (.ref f6)))
  (l6:K.lookup f6=some ⟨oc6,od6,.func (PySem.W.fnOf "check_kinds" "check_kinds" (AV Co) (AU Co) (Ao Co) .none kV6 dc6 pm6 an6 cd6 ct6),sl6⟩) (c6:PySem.W.codeIn K cd6 "check_kinds"=true) (k6:PySem.W.keepIn K (.ref f6)=true)
  (a7:PySem.W.nsIn K mainGlobals "check_maker"=some (some (.ref f7)))
  (l7:K.lookup f7=some ⟨oc7,od7,.func (PySem.W.fnOf "check_maker" "check_maker" (AV Cn) (AU Cn) (Ao Cn) .none kV7 dc7 pm7 an7 cd7 ct7),sl7⟩) (c7:PySem.W.codeIn K cd7 "check_maker"=true) (k7:PySem.W.keepIn K (.ref f7)=true)
  (a8:PySem.W.nsIn K mainGlobals "check_ground"=some (some (.ref f8)))
  (l8:K.lookup f8=some ⟨oc8,od8,.func (PySem.W.fnOf "check_ground" "check_ground" (AV BV) (AU BV) (Ao BV) .none kV8 dc8 pm8 an8 cd8 ct8),sl8⟩) (c8:PySem.W.codeIn K cd8 "check_ground"=true) (k8:PySem.W.keepIn K (.ref f8)=true)
  (a9:PySem.W.nsIn K mainGlobals "check_makers"=some (some (.ref f9)))
  (l9:K.lookup f9=some ⟨oc9,od9,.func (PySem.W.fnOf "check_makers" "check_makers" (AV BU) (AU BU) (Ao BU) .none kV9 dc9 pm9 an9 cd9 ct9),sl9⟩) (c9:PySem.W.codeIn K cd9 "check_makers"=true) (k9:PySem.W.keepIn K (.ref f9)=true)
  (a10:PySem.W.findIn K (.ref cStock) "__init__"=some (some (.ref f10))) (i10:PySem.W.isFn K (.ref f10)=true)
  (l10:K.lookup f10=some ⟨oc10,od10,.func (PySem.W.fnOf "__init__" "Stock.__init__" (AV CJ) (AU CJ) (Ao CJ) .none kV10 dc10 pm10 an10 cd10 ct10),sl10⟩) (c10:PySem.W.codeIn K cd10 "Stock.__init__"=true) (k10:PySem.W.keepIn K (.ref f10)=true)
  (a11:PySem.W.nsIn K mainGlobals "_law_words"=some (some (.ref f11)))
  (l11:K.lookup f11=some ⟨oc11,od11,.func (PySem.W.fnOf "_law_words" "_law_words" (AV E5) (AU E5) (Ao E5) .none kV11 dc11 pm11 an11 cd11 ct11),sl11⟩) (c11:PySem.W.codeIn K cd11 "_law_words"=true) (k11:PySem.W.keepIn K (.ref f11)=true)
  (a12:PySem.W.nsIn K mainGlobals "_law_written"=some (some (.ref f12)))
  (l12:K.lookup f12=some ⟨oc12,od12,.func (PySem.W.fnOf "_law_written" "_law_written" (AV DK) (AU DK) (Ao DK) .none kV12 dc12 pm12 an12 cd12 ct12),sl12⟩) (c12:PySem.W.codeIn K cd12 "_law_written"=true) (k12:PySem.W.keepIn K (.ref f12)=true)
  (a13:PySem.W.nsIn K mainGlobals "_law_text"=some (some (.ref f13)))
  (l13:K.lookup f13=some ⟨oc13,od13,.func (PySem.W.fnOf "_law_text" "_law_text" (AV Gv) (AU Gv) (Ao Gv) .none kV13 dc13 pm13 an13 cd13 ct13),sl13⟩) (c13:PySem.W.codeIn K cd13 "_law_text"=true) (k13:PySem.W.keepIn K (.ref f13)=true)
  (a14:PySem.W.nsIn K mainGlobals "shown_as"=some (some (.ref f14)))
  (l14:K.lookup f14=some ⟨oc14,od14,.func (PySem.W.fnOf "shown_as" "shown_as" (AV DI) (AU DI) (Ao DI) .none kV14 dc14 pm14 an14 cd14 ct14),sl14⟩) (c14:PySem.W.codeIn K cd14 "shown_as"=true) (k14:PySem.W.keepIn K (.ref f14)=true)
  (a15:PySem.W.nsIn K mainGlobals "pieces_of"=some (some (.ref f15)))
  (l15:K.lookup f15=some ⟨oc15,od15,.func (PySem.W.fnOf "pieces_of" "pieces_of" (AV C7) (AU C7) (Ao C7) .none kV15 dc15 pm15 an15 cd15 ct15),sl15⟩) (c15:PySem.W.codeIn K cd15 "pieces_of"=true) (k15:PySem.W.keepIn K (.ref f15)=true)
  (a16:PySem.W.nsIn K mainGlobals "form_of"=some (some (.ref f16)))
  (l16:K.lookup f16=some ⟨oc16,od16,.func (PySem.W.fnOf "form_of" "form_of" (AV Eb) (AU Eb) (Ao Eb) .none kV16 dc16 pm16 an16 cd16 ct16),sl16⟩) (c16:PySem.W.codeIn K cd16 "form_of"=true) (k16:PySem.W.keepIn K (.ref f16)=true)
  (a17:PySem.W.nsIn K mainGlobals "check_neighbours"=some (some (.ref f17)))
  (l17:K.lookup f17=some ⟨oc17,od17,.func (PySem.W.fnOf "check_neighbours" "check_neighbours" (AV Bj) (AU Bj) (Ao Bj) .none kV17 dc17 pm17 an17 cd17 ct17),sl17⟩) (c17:PySem.W.codeIn K cd17 "check_neighbours"=true) (k17:PySem.W.keepIn K (.ref f17)=true)
  (a18:PySem.W.nsIn K mainGlobals "check_brackets"=some (some (.ref f18)))
  (l18:K.lookup f18=some ⟨oc18,od18,.func (PySem.W.fnOf "check_brackets" "check_brackets" (AV BA) (AU BA) (Ao BA) .none kV18 dc18 pm18 an18 cd18 ct18),sl18⟩) (c18:PySem.W.codeIn K cd18 "check_brackets"=true) (k18:PySem.W.keepIn K (.ref f18)=true)
  (a19:PySem.W.findIn K (.ref cStock) "makers"=some (some (.ref f19))) (i19:PySem.W.isFn K (.ref f19)=true)
  (l19:K.lookup f19=some ⟨oc19,od19,.func (PySem.W.fnOf "makers" "Stock.makers" (AV BW) (AU BW) (Ao BW) .none kV19 dc19 pm19 an19 cd19 ct19),sl19⟩) (c19:PySem.W.codeIn K cd19 "Stock.makers"=true) (k19:PySem.W.keepIn K (.ref f19)=true)
  (a20:PySem.W.findIn K (.ref cStock) "kinds"=some (some (.ref f20))) (i20:PySem.W.isFn K (.ref f20)=true)
  (l20:K.lookup f20=some ⟨oc20,od20,.func (PySem.W.fnOf "kinds" "Stock.kinds" (AV Cp) (AU Cp) (Ao Cp) .none kV20 dc20 pm20 an20 cd20 ct20),sl20⟩) (c20:PySem.W.codeIn K cd20 "Stock.kinds"=true) (k20:PySem.W.keepIn K (.ref f20)=true)
  (a21:PySem.W.nsIn K mainGlobals "is_maker"=some (some (.ref f21)))
  (l21:K.lookup f21=some ⟨oc21,od21,.func (PySem.W.fnOf "is_maker" "is_maker" (AV DJ) (AU DJ) (Ao DJ) .none kV21 dc21 pm21 an21 cd21 ct21),sl21⟩) (c21:PySem.W.codeIn K cd21 "is_maker"=true) (k21:PySem.W.keepIn K (.ref f21)=true)
  (a22:PySem.W.nsIn K mainGlobals "with_arguments"=some (some (.ref f22)))
  (l22:K.lookup f22=some ⟨oc22,od22,.func (PySem.W.fnOf "with_arguments" "with_arguments" (AV Bz) (AU Bz) (Ao Bz) .none kV22 dc22 pm22 an22 cd22 ct22),sl22⟩) (c22:PySem.W.codeIn K cd22 "with_arguments"=true) (k22:PySem.W.keepIn K (.ref f22)=true)
  (a23:PySem.W.nsIn K mainGlobals "written_by"=some (some (.ref f23)))
  (l23:K.lookup f23=some ⟨oc23,od23,.func (PySem.W.fnOf "written_by" "written_by" (AV CH) (AU CH) (Ao CH) .none kV23 dc23 pm23 an23 cd23 ct23),sl23⟩) (c23:PySem.W.codeIn K cd23 "written_by"=true) (k23:PySem.W.keepIn K (.ref f23)=true)
  (a24:PySem.W.nsIn K mainGlobals "read_as"=some (some (.ref f24)))
  (l24:K.lookup f24=some ⟨oc24,od24,.func (PySem.W.fnOf "read_as" "read_as" (AV D9) (AU D9) (Ao D9) .none kV24 dc24 pm24 an24 cd24 ct24),sl24⟩) (c24:PySem.W.codeIn K cd24 "read_as"=true) (k24:PySem.W.keepIn K (.ref f24)=true)
  (a25:PySem.W.nsIn K mainGlobals "_law_shape"=some (some (.ref f25)))
  (l25:K.lookup f25=some ⟨oc25,od25,.func (PySem.W.fnOf "_law_shape" "_law_shape" (AV E6) (AU E6) (Ao E6) .none kV25 dc25 pm25 an25 cd25 ct25),sl25⟩) (c25:PySem.W.codeIn K cd25 "_law_shape"=true) (k25:PySem.W.keepIn K (.ref f25)=true)
  (a26:PySem.W.nsIn K mainGlobals "_law_turned"=some (some (.ref f26)))
  (l26:K.lookup f26=some ⟨oc26,od26,.func (PySem.W.fnOf "_law_turned" "_law_turned" (AV Ec) (AU Ec) (Ao Ec) .none kV26 dc26 pm26 an26 cd26 ct26),sl26⟩) (c26:PySem.W.codeIn K cd26 "_law_turned"=true) (k26:PySem.W.keepIn K (.ref f26)=true)
  (a27:PySem.W.nsIn K mainGlobals "law"=some (some (.ref f27)))
  (l27:K.lookup f27=some ⟨oc27,od27,.func (PySem.W.fnOf "law" "law" (AV Jf) (AU Jf) (Ao Jf) .none kV27 dc27 pm27 an27 cd27 ct27),sl27⟩) (c27:PySem.W.codeIn K cd27 "law"=true) (k27:PySem.W.keepIn K (.ref f27)=true)
  (z_all:PySem.W.nsIn K mainGlobals "all"=some none)
  (z_any:PySem.W.nsIn K mainGlobals "any"=some none)
  (z_int:PySem.W.nsIn K mainGlobals "int"=some none)
  (z_isinstance:PySem.W.nsIn K mainGlobals "isinstance"=some none)
  (z_len:PySem.W.nsIn K mainGlobals "len"=some none)
  (z_list:PySem.W.nsIn K mainGlobals "list"=some none)
  (z_min:PySem.W.nsIn K mainGlobals "min"=some none)
  (z_range:PySem.W.nsIn K mainGlobals "range"=some none)
  (z_reversed:PySem.W.nsIn K mainGlobals "reversed"=some none)
  (z_str:PySem.W.nsIn K mainGlobals "str"=some none)
  (z_sum:PySem.W.nsIn K mainGlobals "sum"=some none)
  (z_tuple:PySem.W.nsIn K mainGlobals "tuple"=some none)
  (z_zip:PySem.W.nsIn K mainGlobals "zip"=some none)
  (g_LETTERS:PySem.W.nsIn K mainGlobals "LETTERS"=some (some (.str ("abcdefghijklmnopqrstuvwxyz":Str) t_LETTERS)))
  (g_MOST_KINDS:PySem.W.nsIn K mainGlobals "MOST_KINDS"=some (some (.int 4 t_MOST_KINDS)))
  (g_MOST_LETTERS:PySem.W.nsIn K mainGlobals "MOST_LETTERS"=some (some (.int 12 t_MOST_LETTERS)))
  (g_MOST_MAKERS:PySem.W.nsIn K mainGlobals "MOST_MAKERS"=some (some (.int 4 t_MOST_MAKERS)))
  (g_MOST_PARTS:PySem.W.nsIn K mainGlobals "MOST_PARTS"=some (some (.int 2 t_MOST_PARTS)))
  (n_Stock_home_by_maker:PySem.W.findIn K (.ref cStock) "home_by_maker"=some none)
  (n_Stock_makers_by_kind:PySem.W.findIn K (.ref cStock) "makers_by_kind"=some none)
  (n_Stock_parts_by_maker:PySem.W.findIn K (.ref cStock) "parts_by_maker"=some none)
  (aD_BEHIND:PySem.W.nsIn K mainGlobals "BEHIND"=some (some (.ref aB_BEHIND))) (lD_BEHIND:K.lookup aB_BEHIND=some ⟨.type "dict",none,.dict es_BEHIND ep_BEHIND,#[]⟩) (eD_BEHIND:EU w.params K es_BEHIND.toList Dh)
  (tM_MARKS:Pe K "MARKS" Ce=true) :
  ∃ fd:FuncData,(∀ (s:Shared) (v:Value),BindsTo s fd ⟨[v],[]⟩ [("_law_script",v)])/\∀ base:Heap,K.In base->base.Ns mainGlobals mg->Dv l.prog w K mg base CX0 62 fa fd ["_law_script"] (Qq K):=by
 have e:=hfa.symm.trans (PySem.W.mg_of X G a27)
 cases e
 have T:Tx w K mg cStock:=⟨PySem.W.mg_none_of X G z_all,PySem.W.mg_none_of X G z_any,PySem.W.mg_none_of X G z_int,PySem.W.mg_none_of X G z_isinstance,PySem.W.mg_none_of X G z_len,PySem.W.mg_none_of X G z_list,PySem.W.mg_none_of X G z_min,PySem.W.mg_none_of X G z_range,PySem.W.mg_none_of X G z_reversed,PySem.W.mg_none_of X G z_str,PySem.W.mg_none_of X G z_sum,PySem.W.mg_none_of X G z_tuple,PySem.W.mg_none_of X G z_zip,⟨_,PySem.W.mg_of X G g_LETTERS⟩,⟨_,PySem.W.mg_of X G g_MOST_KINDS⟩,⟨_,PySem.W.mg_of X G g_MOST_LETTERS⟩,⟨_,PySem.W.mg_of X G g_MOST_MAKERS⟩,⟨_,PySem.W.mg_of X G g_MOST_PARTS⟩,⟨pg_Stock,hd_Stock,po_Stock,sa_Stock⟩,n_Stock_home_by_maker,n_Stock_makers_by_kind,n_Stock_parts_by_maker,⟨_,_,_,PySem.W.mg_of X G aD_BEHIND,lD_BEHIND,eD_BEHIND,by decide +kernel⟩,US.of X G tM_MARKS⟩
 have F0:=BI (st:=Ed) l0 c0 k0
 have B0:=F0.binds (ps:=["_law_script","_law_at","_law_parts_here"]) fun _ _ _ _ _ _ us hl=>by obtain ⟨a,b,c,rfl⟩:=us3 hl;rfl
 have F1:=BI (st:=E8) l1 c1 k1
 have B1:=F1.binds (ps:=["_law_cell","_law_count"]) fun _ _ _ _ _ _ us hl=>by obtain ⟨a,b,rfl⟩:=us2 hl;rfl
 have F2:=BI (st:=DL) l2 c2 k2
 have B2:=F2.binds (ps:=["_law_script","_law_k"]) fun _ _ _ _ _ _ us hl=>by obtain ⟨a,b,rfl⟩:=us2 hl;rfl
 have F3:=BI (st:=E7) l3 c3 k3
 have B3:=F3.binds (ps:=["_law_names_here","_law_at","_law_first","_law_purse"]) fun _ _ _ _ _ _ us hl=>by obtain ⟨a,b,c,d,rfl⟩:=us4 hl;rfl
 have F4:=BI (st:=E9) l4 c4 k4
 have B4:=F4.binds (ps:=["_law_script"]) fun _ _ _ _ _ _ us hl=>by obtain ⟨a,rfl⟩:=us1 hl;rfl
 have F5:=BI (st:=Ea) l5 c5 k5
 have B5:=F5.binds (ps:=["text"]) fun _ _ _ _ _ _ us hl=>by obtain ⟨a,rfl⟩:=us1 hl;rfl
 have F6:=BI (st:=Co) l6 c6 k6
 have B6:=F6.binds (ps:=["kinds"]) fun _ _ _ _ _ _ us hl=>by obtain ⟨a,rfl⟩:=us1 hl;rfl
 have F7:=BI (st:=Cn) l7 c7 k7
 have B7:=F7.binds (ps:=["maker","parts","makers_ahead","all_kinds"]) fun _ _ _ _ _ _ us hl=>by obtain ⟨a,b,c,d,rfl⟩:=us4 hl;rfl
 have F8:=BI (st:=BV) l8 c8 k8
 have B8:=F8.binds (ps:=["maker","parts","kinds_above"]) fun _ _ _ _ _ _ us hl=>by obtain ⟨a,b,c,rfl⟩:=us3 hl;rfl
 have F9:=BI (st:=BU) l9 c9 k9
 have B9:=F9.binds (ps:=["kinds"]) fun _ _ _ _ _ _ us hl=>by obtain ⟨a,rfl⟩:=us1 hl;rfl
 have F10:=BI (st:=CJ) l10 c10 k10
 have B10:=F10.binds (ps:=["self","kinds"]) fun _ _ _ _ _ _ us hl=>by obtain ⟨a,b,rfl⟩:=us2 hl;rfl
 have F11:=BI (st:=E5) l11 c11 k11
 have B11:=F11.binds (ps:=["_law_script","_law_kinds_here"]) fun _ _ _ _ _ _ us hl=>by obtain ⟨a,b,rfl⟩:=us2 hl;rfl
 have F12:=BI (st:=DK) l12 c12 k12
 have B12:=F12.binds (ps:=["_law_makers","_law_names_here","_law_purse","_law_down"]) fun _ _ _ _ _ _ us hl=>by obtain ⟨a,b,c,d,rfl⟩:=us4 hl;rfl
 have F13:=BI (st:=Gv) l13 c13 k13
 have B13:=F13.binds (ps:=["_law_expression"]) fun _ _ _ _ _ _ us hl=>by obtain ⟨a,rfl⟩:=us1 hl;rfl
 have F14:=BI (st:=DI) l14 c14 k14
 have B14:=F14.binds (ps:=["expression"]) fun _ _ _ _ _ _ us hl=>by obtain ⟨a,rfl⟩:=us1 hl;rfl
 have F15:=BI (st:=C7) l15 c15 k15
 have B15:=F15.binds (ps:=["text"]) fun _ _ _ _ _ _ us hl=>by obtain ⟨a,rfl⟩:=us1 hl;rfl
 have F16:=BI (st:=Eb) l16 c16 k16
 have B16:=F16.binds (ps:=["piece"]) fun _ _ _ _ _ _ us hl=>by obtain ⟨a,rfl⟩:=us1 hl;rfl
 have F17:=BI (st:=Bj) l17 c17 k17
 have B17:=F17.binds (ps:=["pieces"]) fun _ _ _ _ _ _ us hl=>by obtain ⟨a,rfl⟩:=us1 hl;rfl
 have F18:=BI (st:=BA) l18 c18 k18
 have B18:=F18.binds (ps:=["pieces"]) fun _ _ _ _ _ _ us hl=>by obtain ⟨a,rfl⟩:=us1 hl;rfl
 have F19:=BI (st:=BW) l19 c19 k19
 have B19:=F19.binds (ps:=["self","kind"]) fun _ _ _ _ _ _ us hl=>by obtain ⟨a,b,rfl⟩:=us2 hl;rfl
 have F20:=BI (st:=Cp) l20 c20 k20
 have B20:=F20.binds (ps:=["self"]) fun _ _ _ _ _ _ us hl=>by obtain ⟨a,rfl⟩:=us1 hl;rfl
 have F21:=BI (st:=DJ) l21 c21 k21
 have B21:=F21.binds (ps:=["stock","name"]) fun _ _ _ _ _ _ us hl=>by obtain ⟨a,b,rfl⟩:=us2 hl;rfl
 have F22:=BI (st:=Bz) l22 c22 k22
 have B22:=F22.binds (ps:=["stock","word","arguments"]) fun _ _ _ _ _ _ us hl=>by obtain ⟨a,b,c,rfl⟩:=us3 hl;rfl
 have F23:=BI (st:=CH) l23 c23 k23
 have B23:=F23.binds (ps:=["stock","pieces"]) fun _ _ _ _ _ _ us hl=>by obtain ⟨a,b,rfl⟩:=us2 hl;rfl
 have F24:=BI (st:=D9) l24 c24 k24
 have B24:=F24.binds (ps:=["stock","text"]) fun _ _ _ _ _ _ us hl=>by obtain ⟨a,b,rfl⟩:=us2 hl;rfl
 have F25:=BI (st:=E6) l25 c25 k25
 have B25:=F25.binds (ps:=["_law_got"]) fun _ _ _ _ _ _ us hl=>by obtain ⟨a,rfl⟩:=us1 hl;rfl
 have F26:=BI (st:=Ec) l26 c26 k26
 have B26:=F26.binds (ps:=["_law_expression","_law_maker"]) fun _ _ _ _ _ _ us hl=>by obtain ⟨a,b,rfl⟩:=us2 hl;rfl
 have F27:=BI (st:=Jf) l27 c27 k27
 have B27:=F27.binds (ps:=["_law_script"]) fun _ _ _ _ _ _ us hl=>by obtain ⟨a,rfl⟩:=us1 hl;rfl
 refine ⟨PySem.W.fnOf "law" "law" (AV Jf) (AU Jf) (Ao Jf) .none kV27 dc27 pm27 an27 cd27 ct27,fun s v=>.of_eq rfl,fun base _ _=>?_⟩
 have O0:=Nc (P:=l.prog) (w:=w) (base:=base) F0 T
 have G0:FnAt l.prog w K mg base CX0 "_law_digits" 1 ["_law_script","_law_at","_law_parts_here"] (spF K 3 Ck):=⟨_,_,O0,PySem.W.mg_of X G a0,k0,B0⟩
 have O1:=Oz (P:=l.prog) (w:=w) (base:=base) F1 T
 have G1:FnAt l.prog w K mg base CX0 "_law_names" 1 ["_law_cell","_law_count"] (spF K 2 Cd):=⟨_,_,O1,PySem.W.mg_of X G a1,k1,B1⟩
 have O2:=Lp (P:=l.prog) (w:=w) (base:=base) F2 T
 have G2:FnAt l.prog w K mg base CX0 "_law_cell_at" 1 ["_law_script","_law_k"] (spF K 2 Be):=⟨_,_,O2,PySem.W.mg_of X G a2,k2,B2⟩
 have O3:=Oy (P:=l.prog) (w:=w) (base:=base) F3 T
 have G3:FnAt l.prog w K mg base CX0 "_law_parts" 1 ["_law_names_here","_law_at","_law_first","_law_purse"] (spF K 4 Cc):=⟨_,_,O3,PySem.W.mg_of X G a3,k3,B3⟩
 have O4:=OA (P:=l.prog) (w:=w) (base:=base) F4 T G3 G2 G1 G0
 have G4:FnAt l.prog w K mg base CX0 "_law_kinds" 2 ["_law_script"] (spF K 1 Fe):=⟨_,_,O4,PySem.W.mg_of X G a4,k4,B4⟩
 have O5:=Na (P:=l.prog) (w:=w) (base:=base) F5 T
 have G5:FnAt l.prog w K mg base CX0 "is_name" 1 ["text"] (spF K 1 A8):=⟨_,_,O5,PySem.W.mg_of X G a5,k5,B5⟩
 have O6:=Ip (P:=l.prog) (w:=w) (base:=base) F6 T G5
 have G6:FnAt l.prog w K mg base CX0 "check_kinds" 2 ["kinds"] (spF K 1 Cr):=⟨_,_,O6,PySem.W.mg_of X G a6,k6,B6⟩
 have O7:=Io (P:=l.prog) (w:=w) (base:=base) F7 T G5
 have G7:FnAt l.prog w K mg base CX0 "check_maker" 2 ["maker","parts","makers_ahead","all_kinds"] (spF K 4 Bm):=⟨_,_,O7,PySem.W.mg_of X G a7,k7,B7⟩
 have O8:=HH (P:=l.prog) (w:=w) (base:=base) F8 T
 have G8:FnAt l.prog w K mg base CX0 "check_ground" 1 ["maker","parts","kinds_above"] (spF K 3 Bg):=⟨_,_,O8,PySem.W.mg_of X G a8,k8,B8⟩
 have O9:=HG (P:=l.prog) (w:=w) (base:=base) F9 T G8 G7
 have G9:FnAt l.prog w K mg base CX0 "check_makers" 3 ["kinds"] (spF K 1 BY):=⟨_,_,O9,PySem.W.mg_of X G a9,k9,B9⟩
 have O10:=Jq (P:=l.prog) (w:=w) (base:=base) F10 T G9 G6
 have G10:Xe l.prog w K mg base CX0 "Stock" cStock 4 ["self","kinds"] (spF K 2 (Cj cStock)):=⟨PySem.W.mg_of X G aC_Stock,_,_,O10,⟨mk_Stock,a10,i10,kc_Stock⟩,B10⟩
 have O11:=Ox (P:=l.prog) (w:=w) (base:=base) F11 T G2 G1
 have G11:FnAt l.prog w K mg base CX0 "_law_words" 2 ["_law_script","_law_kinds_here"] (spF K 2 Gh):=⟨_,_,O11,PySem.W.mg_of X G a11,k11,B11⟩
 have O12:=HJ (P:=l.prog) (w:=w) (base:=base) F12 T  (fun k sp o=>⟨_,_,o,PySem.W.mg_of X G a12,k12,B12⟩) 60
 have G12:FnAt l.prog w K mg base CX0 "_law_written" 61 ["_law_makers","_law_names_here","_law_purse","_law_down"] (spF K 4 (Br 60)):=⟨_,_,O12,PySem.W.mg_of X G a12,k12,B12⟩
 have O13:=Mg (P:=l.prog) (w:=w) (base:=base) F13 T  (fun k sp o=>⟨_,_,o,PySem.W.mg_of X G a13,k13,B13⟩) 60
 have G13:FnAt l.prog w K mg base CX0 "_law_text" 61 ["_law_expression"] (spF K 1 (DS 60)):=⟨_,_,O13,PySem.W.mg_of X G a13,k13,B13⟩
 have O14:=HF (P:=l.prog) (w:=w) (base:=base) F14 T  (fun k sp o=>⟨_,_,o,PySem.W.mg_of X G a14,k14,B14⟩) 60
 have G14:FnAt l.prog w K mg base CX0 "shown_as" 61 ["expression"] (spF K 1 (Bq 60)):=⟨_,_,O14,PySem.W.mg_of X G a14,k14,B14⟩
 have O15:=Ko (P:=l.prog) (w:=w) (base:=base) F15 T
 have G15:FnAt l.prog w K mg base CX0 "pieces_of" 1 ["text"] (spF K 1 C9):=⟨_,_,O15,PySem.W.mg_of X G a15,k15,B15⟩
 have O16:=Nb (P:=l.prog) (w:=w) (base:=base) F16 T G5
 have G16:FnAt l.prog w K mg base CX0 "form_of" 2 ["piece"] (spF K 1 CS):=⟨_,_,O16,PySem.W.mg_of X G a16,k16,B16⟩
 have O17:=FC (P:=l.prog) (w:=w) (base:=base) F17 T G16
 have G17:FnAt l.prog w K mg base CX0 "check_neighbours" 3 ["pieces"] (spF K 1 A9):=⟨_,_,O17,PySem.W.mg_of X G a17,k17,B17⟩
 have O18:=Gy (P:=l.prog) (w:=w) (base:=base) F18 T
 have G18:FnAt l.prog w K mg base CX0 "check_brackets" 1 ["pieces"] (spF K 1 Bk):=⟨_,_,O18,PySem.W.mg_of X G a18,k18,B18⟩
 have O19:=HI (P:=l.prog) (w:=w) (base:=base) F19 T
 have G19:Sv l.prog w K mg base CX0 cStock "makers" 1 ["self","kind"] (spF K 2 (A7 cStock)):=⟨T.cl_Stock,_,_,O19,⟨a19,i19,k19⟩,B19⟩
 have O20:=Iq (P:=l.prog) (w:=w) (base:=base) F20 T
 have G20:Sv l.prog w K mg base CX0 cStock "kinds" 1 ["self"] (spF K 1 (Bn cStock)):=⟨T.cl_Stock,_,_,O20,⟨a20,i20,k20⟩,B20⟩
 have O21:=Lo (P:=l.prog) (w:=w) (base:=base) F21 T G20 G19
 have G21:FnAt l.prog w K mg base CX0 "is_maker" 2 ["stock","name"] (spF K 2 (Dc cStock)):=⟨_,_,O21,PySem.W.mg_of X G a21,k21,B21⟩
 have O22:=Gx (P:=l.prog) (w:=w) (base:=base) F22 T G21
 have G22:FnAt l.prog w K mg base CX0 "with_arguments" 3 ["stock","word","arguments"] (spF K 3 (BB cStock)):=⟨_,_,O22,PySem.W.mg_of X G a22,k22,B22⟩
 have O23:=Jp (P:=l.prog) (w:=w) (base:=base) F23 T G22
 have G23:FnAt l.prog w K mg base CX0 "written_by" 4 ["stock","pieces"] (spF K 2 (CM cStock)):=⟨_,_,O23,PySem.W.mg_of X G a23,k23,B23⟩
 have O24:=M8 (P:=l.prog) (w:=w) (base:=base) F24 T G23 G18 G17 G15
 have G24:FnAt l.prog w K mg base CX0 "read_as" 5 ["stock","text"] (spF K 2 (Dp cStock)):=⟨_,_,O24,PySem.W.mg_of X G a24,k24,B24⟩
 have O25:=Kp (P:=l.prog) (w:=w) (base:=base) F25 T  (fun k sp o=>⟨_,_,o,PySem.W.mg_of X G a25,k25,B25⟩) 60
 have G25:FnAt l.prog w K mg base CX0 "_law_shape" 61 ["_law_got"] (spF K 1 (CD 60)):=⟨_,_,O25,PySem.W.mg_of X G a25,k25,B25⟩
 have O26:=IH (P:=l.prog) (w:=w) (base:=base) F26 T  (fun k sp o=>⟨_,_,o,PySem.W.mg_of X G a26,k26,B26⟩) 60
 have G26:FnAt l.prog w K mg base CX0 "_law_turned" 61 ["_law_expression","_law_maker"] (spF K 2 (BR 60)):=⟨_,_,O26,PySem.W.mg_of X G a26,k26,B26⟩
 have O27:=VC (P:=l.prog) (w:=w) (base:=base) F27 T G14 G24 G26 G25 G10 G13 G0 G12 G11 G4
 exact O27.imp (VR (good cStock))
theorem walk {l:PySem.W.OpenLaw} {q:Program} {loose:List Str} {XP:(Str->Option Value)->Heap->Prop} {d:DefRec} {K:Params->Fg} {as:List Addr} {N tk:Nat} (hn:l.most=some 63) (hdf:d.params.defaults=[]) (hK:∀ P:Params,as=(K P).map (·.1))
  (F:∀ (w:World) (mg:Str->Option Value) (fa:Addr) (h:Heap),(K w.params).In h->h.Ns mainGlobals mg->mg d.name=some (.ref fa) ->
   ∃ fd:FuncData,(∀ (s:Shared) (u:Value),BindsTo s fd ⟨[u],[]⟩ [("_law_script",u)])/\∀ base:Heap,(K w.params).In base->base.Ns mainGlobals mg->Dv l.prog w (K w.params) mg base CX0 62 fa fd ["_law_script"] (Qq (K w.params))) :
  PySem.W.WalkX q loose XP (PySem.W.X.obsZ as) (PySem.W.X.valZ K N tk) l.row.toRowW d [] (fun f vs=>PySem.call f vs) :=
 L2.MP (n:=63) (k:=62) (x:="_law_script") (CX:=CX0) (sp:=Qq) hn (by decide) hdf ⟨rfl,by decide,by decide⟩ hK F (fun _ _ a ns hl hb _ hS=>⟨a,ns,rfl,hS,hl,hb,fun _=>rfl⟩) fun _ _ _ _ z=>z
end Sy
def PySem.W.Fast.tw8855342164294521151:=()
def PySem.W.Fast.tw1476498254546288287:=()
def PySem.W.Fast.tw3053473296272968639:=()
def PySem.W.Fast.tw9556318623136052472:=()
def PySem.W.Fast.tw10763040374065158099:=()
def PySem.W.Fast.tw5565114842552381956:=()
def PySem.W.Fast.tw1526640844039785969:=()
def PySem.W.Fast.tw5347255178792815783:=()
def PySem.W.Fast.tw14962232127082694348:=()
def PySem.W.Fast.tw16148533140971930658:=()
def PySem.W.Fast.tw2942095094412622079:=()
def PySem.W.Fast.tw1574943247072046027:=()
def PySem.W.Fast.tw14261155695703713885:=()
def PySem.W.Fast.tw5798953413734098141:=()
def PySem.W.Fast.tw8197676278780851653:=()
def PySem.W.Fast.tw6622326942364482765:=()
def PySem.W.Fast.tw7065418816709411545:=()
def PySem.W.Fast.tw11469192248876750127:=()
def PySem.W.Fast.tw10042718157670805409:=()
open PySem PySem.W PyProof.Rows
set_option maxRecDepth 100000 in
set_option maxHeartbeats 0 in
theorem PySem.Challenge.cw_stairsay_k72_texts_holds : PySem.Challenge.rw_stairsay_k72_texts.Holds := by
 w_on;o_law;z_head;(case hw=>w_witness2)
 k_fill
 refine Sy.walk (l:=PySem.Challenge.rw_stairsay_k72_texts) rfl rfl (fun P=>rfl) ?F
 case F =>
  intro w mg fa h KX G hmg
  refine' Sy.all_mk KX G hmg ?aC_Stock ?pg_Stock ?hd_Stock ?po_Stock ?sa_Stock ?mk_Stock ?kc_Stock ?a0 ?l0 ?c0 ?k0 ?a1 ?l1 ?c1 ?k1 ?a2 ?l2 ?c2 ?k2 ?a3 ?l3 ?c3 ?k3 ?a4 ?l4 ?c4 ?k4 ?a5 ?l5 ?c5 ?k5 ?a6 ?l6 ?c6 ?k6 ?a7 ?l7 ?c7 ?k7 ?a8 ?l8 ?c8 ?k8 ?a9 ?l9 ?c9 ?k9 ?a10 ?i10 ?l10 ?c10 ?k10 ?a11 ?l11 ?c11 ?k11 ?a12 ?l12 ?c12 ?k12 ?a13 ?l13 ?c13 ?k13 ?a14 ?l14 ?c14 ?k14 ?a15 ?l15 ?c15 ?k15 ?a16 ?l16 ?c16 ?k16 ?a17 ?l17 ?c17 ?k17 ?a18 ?l18 ?c18 ?k18 ?a19 ?i19 ?l19 ?c19 ?k19 ?a20 ?i20 ?l20 ?c20 ?k20 ?a21 ?l21 ?c21 ?k21 ?a22 ?l22 ?c22 ?k22 ?a23 ?l23 ?c23 ?k23 ?a24 ?l24 ?c24 ?k24 ?a25 ?l25 ?c25 ?k25 ?a26 ?l26 ?c26 ?k26 ?a27 ?l27 ?c27 ?k27 ?z_all ?z_any ?z_int ?z_isinstance ?z_len ?z_list ?z_min ?z_range ?z_reversed ?z_str ?z_sum ?z_tuple ?z_zip ?g_LETTERS ?g_MOST_KINDS ?g_MOST_LETTERS ?g_MOST_MAKERS ?g_MOST_PARTS ?n_Stock_home_by_maker ?n_Stock_makers_by_kind ?n_Stock_parts_by_maker ?aD_BEHIND ?lD_BEHIND ?eD_BEHIND ?tM_MARKS
  (case aC_Stock=>k_is)
  (case pg_Stock=>k_is)
  (case hd_Stock=>k_is)
  (case po_Stock=>k_is)
  (case sa_Stock=>k_is)
  (case mk_Stock=>k_is)
  (case kc_Stock=>k_is)
  (case a0=>k_is)
  (case l0=>k_is)
  (case c0=>k_is)
  (case k0=>k_is)
  (case a1=>k_is)
  (case l1=>k_is)
  (case c1=>k_is)
  (case k1=>k_is)
  (case a2=>k_is)
  (case l2=>k_is)
  (case c2=>k_is)
  (case k2=>k_is)
  (case a3=>k_is)
  (case l3=>k_is)
  (case c3=>k_is)
  (case k3=>k_is)
  (case a4=>k_is)
  (case l4=>k_is)
  (case c4=>k_is)
  (case k4=>k_is)
  (case a5=>k_is)
  (case l5=>k_is)
  (case c5=>k_is)
  (case k5=>k_is)
  (case a6=>k_is)
  (case l6=>k_is)
  (case c6=>k_is)
  (case k6=>k_is)
  (case a7=>k_is)
  (case l7=>k_is)
  (case c7=>k_is)
  (case k7=>k_is)
  (case a8=>k_is)
  (case l8=>k_is)
  (case c8=>k_is)
  (case k8=>k_is)
  (case a9=>k_is)
  (case l9=>k_is)
  (case c9=>k_is)
  (case k9=>k_is)
  (case a10=>k_is)
  (case i10=>k_is)
  (case l10=>k_is)
  (case c10=>k_is)
  (case k10=>k_is)
  (case a11=>k_is)
  (case l11=>k_is)
  (case c11=>k_is)
  (case k11=>k_is)
  (case a12=>k_is)
  (case l12=>k_is)
  (case c12=>k_is)
  (case k12=>k_is)
  (case a13=>k_is)
  (case l13=>k_is)
  (case c13=>k_is)
  (case k13=>k_is)
  (case a14=>k_is)
  (case l14=>k_is)
  (case c14=>k_is)
  (case k14=>k_is)
  (case a15=>k_is)
  (case l15=>k_is)
  (case c15=>k_is)
  (case k15=>k_is)
  (case a16=>k_is)
  (case l16=>k_is)
  (case c16=>k_is)
  (case k16=>k_is)
  (case a17=>k_is)
  (case l17=>k_is)
  (case c17=>k_is)
  (case k17=>k_is)
  (case a18=>k_is)
  (case l18=>k_is)
  (case c18=>k_is)
  (case k18=>k_is)
  (case a19=>k_is)
  (case i19=>k_is)
  (case l19=>k_is)
  (case c19=>k_is)
  (case k19=>k_is)
  (case a20=>k_is)
  (case i20=>k_is)
  (case l20=>k_is)
  (case c20=>k_is)
  (case k20=>k_is)
  (case a21=>k_is)
  (case l21=>k_is)
  (case c21=>k_is)
  (case k21=>k_is)
  (case a22=>k_is)
  (case l22=>k_is)
  (case c22=>k_is)
  (case k22=>k_is)
  (case a23=>k_is)
  (case l23=>k_is)
  (case c23=>k_is)
  (case k23=>k_is)
  (case a24=>k_is)
  (case l24=>k_is)
  (case c24=>k_is)
  (case k24=>k_is)
  (case a25=>k_is)
  (case l25=>k_is)
  (case c25=>k_is)
  (case k25=>k_is)
  (case a26=>k_is)
  (case l26=>k_is)
  (case c26=>k_is)
  (case k26=>k_is)
  (case a27=>k_is)
  (case l27=>k_is)
  (case c27=>k_is)
  (case k27=>k_is)
  (case z_all=>k_is)
  (case z_any=>k_is)
  (case z_int=>k_is)
  (case z_isinstance=>k_is)
  (case z_len=>k_is)
  (case z_list=>k_is)
  (case z_min=>k_is)
  (case z_range=>k_is)
  (case z_reversed=>k_is)
  (case z_str=>k_is)
  (case z_sum=>k_is)
  (case z_tuple=>k_is)
  (case z_zip=>k_is)
  (case g_LETTERS=>k_is)
  (case g_MOST_KINDS=>k_is)
  (case g_MOST_LETTERS=>k_is)
  (case g_MOST_MAKERS=>k_is)
  (case g_MOST_PARTS=>k_is)
  (case n_Stock_home_by_maker=>k_is)
  (case n_Stock_makers_by_kind=>k_is)
  (case n_Stock_parts_by_maker=>k_is)
  (case aD_BEHIND=>k_is)
  (case lD_BEHIND=>k_is)
  (case eD_BEHIND=>exact Sy.IV rfl rfl rfl (by kernel_rfl) (Sy.IV rfl rfl rfl (by kernel_rfl) (Sy.IV rfl rfl rfl (by kernel_rfl) (Sy.IV rfl rfl rfl (by kernel_rfl) (Sy.IV rfl rfl rfl (by kernel_rfl) (Sy.IV rfl rfl rfl (by kernel_rfl) (trivial)))))))
  (case tM_MARKS=>kernel_rfl)
