import PyProof.Rows.All
import Wide.All
import OpenK.AllK
import Wide.FinOn
import PyProof.EqAt
import PyProof.EqKinds
import PyProof.TupleCall
import PyProof.DictWalks
import KE.KSortTup
import KE.KTryMore
import PyProof.NsDelKeeps
import PyProof.ReprStr
import PyProof.StrLawsRepr
import PyProof.Rows.FStr
import PyProof.ListMulRoad
import PyProof.FactsAll.tuple_2
import KE.KEqDict
import PySem.Challenge.RW_stairsay_k01_stocks_refused
set_option Elab.async false
set_option linter.all false
set_option maxRecDepth 100000
set_option maxHeartbeats 4000000
abbrev Fg:=PySem.W.Frag
namespace L2
open PySem PySem.Spec PyProof.Rows
abbrev Key:=Sum Int Str
def Jd:Key->Value->Bool
 | .inl k,v=>Value.isInt k v
 | .inr x,v=>Value.isStrOf x v
def YE(w:World):Key->Int
 | .inl k=>hashInt k
 | .inr x=>hashStr w x
theorem BH:∀{k:Key} {v:Value},Jd k v=true->(∃i t,k=Sum.inl i/\v=Value.int i t)∨(∃x t,k=Sum.inr x/\v=Value.str x t)
 | .inl i,v,h=>by
  obtain⟨t,e⟩:=Value.isInt_shape (k:=i) (v:=v) h;exact .inl ⟨i,t,rfl,e⟩
 | .inr x,v,h=>by
  obtain⟨t,e⟩:=Value.isStrOf_shape (x:=x) (v:=v) h;exact .inr ⟨x,t,rfl,e⟩
theorem Ov(i:Int)(t:Tok):Jd (.inl i) (.int i t)=true:=by simp [Jd,Value.isInt]
theorem Ot(x:Str)(t:Tok):Jd (.inr x) (.str x t)=true:=by simp [Jd,Value.isStrOf]
theorem V5(a b:Int):decide ((Sum.inl a:Key)=Sum.inl b)=(a == b):=by
 by_cases e:a=b
 ·subst e;simp
 ·have h:¬ (Sum.inl a:Key)=Sum.inl b:=fun q=>e (Sum.inl.inj q)
  rw [decide_eq_false h];exact(beq_eq_false_iff_ne.mpr e).symm
theorem V2(a b:Str):decide ((Sum.inr a:Key)=Sum.inr b)=decide (a=b):=by
 by_cases e:a=b
 ·subst e;simp
 ·have h:¬ (Sum.inr a:Key)=Sum.inr b:=fun q=>e (Sum.inr.inj q)
  rw [decide_eq_false h,decide_eq_false e]
theorem V4(a:Int)(b:Str):decide ((Sum.inl a:Key)=Sum.inr b)=false:=decide_eq_false (fun q=>nomatch q)
theorem V3(a:Str)(b:Int):decide ((Sum.inr a:Key)=Sum.inl b)=false:=decide_eq_false (fun q=>nomatch q)
def CF(prog:Program)(w:World):PySem.KeyKind prog w Key where
 is:=Jd
 hash:=YE w
 inj:=fun v a b ha hb=>by
  rcases BH ha with⟨i,t,rfl,rfl⟩ | ⟨x,t,rfl,rfl⟩
  ·rcases BH hb with⟨j,u,rfl,e⟩ | ⟨y,u,rfl,e⟩
   ·injection e with e1 _;rw [e1]
   ·exact nomatch e
  ·rcases BH hb with⟨j,u,rfl,e⟩ | ⟨y,u,rfl,e⟩
   ·exact nomatch e
   ·injection e with e1 _;rw [e1]
 byValue:=fun k v h=>by
  rcases BH h with⟨i,t,rfl,rfl⟩ | ⟨x,t,rfl,rfl⟩ <;> rfl
 pyHash:=fun hv h=>by
  rcases BH hv with⟨i,t,rfl,rfl⟩ | ⟨x,t,rfl,rfl⟩
  ·exact wpAny_pyHash_int h
  ·exact wpAny_pyHash_str h
 eqBool:=fun hu hv h=>by
  rcases BH hu with⟨i,t,rfl,rfl⟩ | ⟨x,t,rfl,rfl⟩
  ·rcases BH hv with⟨j,u,rfl,rfl⟩ | ⟨y,u,rfl,rfl⟩
   ·rw [V5] at h;exact wpAny_eqBool_int h
   ·rw [V4] at h;exact SeqAt.EqAt.int_str i t y u _ _ _ _ h
  ·rcases BH hv with⟨j,u,rfl,rfl⟩ | ⟨y,u,rfl,rfl⟩
   ·rw [V3] at h;exact SeqAt.EqAt.str_int x t j u _ _ _ _ h
   ·rw [V2] at h;exact wpAny_eqBool_str h
 «strs»:=fun k x t v h=>by
  rcases BH h with⟨i,u,rfl,e⟩ | ⟨y,u,rfl,e⟩
  ·exact nomatch e
  ·injection e with e1 _
   subst e1;cases v <;> rfl
theorem K3(prog:Program)(w:World)(i:Int)(t:Tok):(CF prog w).is (.inl i) (.int i t)=true:=Ov i t
theorem K1(prog:Program)(w:World)(x:Str)(t:Tok):(CF prog w).is (.inr x) (.str x t)=true:=Ot x t
inductive V where
 | non | bl (b:Bool) | int (i:Int) | str (x:Str) | byt (b:Array UInt8) | flt (b:UInt64) | ref (a:Addr) | ty (n:String)
 deriving DecidableEq
def RelV:V->Value->Prop
 | .non,u=>u=Value.none
 | .bl b,u=>u=Value.bool b
 | .int i,u=>∃t,u=Value.int i t
 | .str x,u=>∃t,u=Value.str x t
 | .byt b,u=>∃t,u=Value.bytes b t
 | .flt b,u=>∃t,u=Value.float b t
 | .ref a,u=>u=Value.ref a
 | .ty n,u=>u=Value.type n
abbrev Vals:List V->List Value->Prop:=Paired RelV
theorem Vals.length{xs:List V}{us:List Value}(r:Vals xs us):xs.length=us.length:=Paired.length r
theorem Vals.get:∀{xs:List V} {us:List Value} {i:Nat} {x:V},Vals xs us->xs[i]?=some x->∃u,us[i]?=some u/\RelV x u
 | _,_,_,_,.nil,e=>by simp at e
 | _,_,0,_,.cons r _,e=>by simp at e;subst e;exact⟨_,rfl,r⟩
 | _,_,i+1,x,.cons _ t,e=>by
  obtain⟨u,h1,h2⟩:=Vals.get (i:=i) (x:=x) t (by simpa using e);exact⟨u,by simpa using h1,h2⟩
theorem Vals.set{x:V}{u:Value}(r:RelV x u):∀{xs:List V} {us:List Value} (i:Nat),Vals xs us->Vals (xs.set i x) (us.set i u)
 | _,_,_,.nil=>.nil
 | _,_,0,.cons _ t=>.cons r t
 | _,_,i+1,.cons q t=>.cons q (Vals.set r i t)
theorem Vals.append:∀{xs ys:List V} {us ws:List Value},Vals xs us->Vals ys ws->Vals (xs++ys) (us++ws)
 | _,_,_,_,.nil,s=>s
 | _,_,_,_,.cons r t,s=>.cons r (Vals.append t s)
theorem Vals.take:∀{xs:List V} {us:List Value} (n:Nat),Vals xs us->Vals (xs.take n) (us.take n)
 | _,_,0,_=>.nil
 | _,_,_+1,.nil=>.nil
 | _,_,n+1,.cons r t=>.cons r (Vals.take n t)
theorem Vals.drop:∀{xs:List V} {us:List Value} (n:Nat),Vals xs us->Vals (xs.drop n) (us.drop n)
 | _,_,0,r=>r
 | _,_,_+1,.nil=>.nil
 | _,_,n+1,.cons _ t=>Vals.drop n t
def AU:Option V->Option Value->Prop
 | some v,some u=>RelV v u
 | none,none=>True
 | _,_=>False
def KV{κ:Type}:List (κ×V)->List (κ×Value)->Prop:=Paired fun(p:κ×V) (q:κ×Value)=>p.1=q.1/\RelV p.2 q.2
def kV:Key->V
 | .inl i=>.int i
 | .inr x=>.str x
inductive HO where
 | lst (xs:List V)
 | tup (xs:List V)
 | dK (kvs:List (Key×V)) | dT (kvs:List (List Key×V))
 | set (S:Int->Bool) (n:Nat)
 | ins (C dx:Addr) (fs:List (Str×V))
 | own (x:Addr)
 | xd (fs:List (Str×V))
 | met (f x:Addr)
 | rng (lo hi:Int)
 | frz (o:Obj) (u:HO)
 | tbl (ps:Array Value)
 | ext (φ:Heap->Prop)
abbrev Hp:=Addr->Option HO
def upd(H:Hp)(a:Addr)(o:HO):Hp:=fun b=>if b=a then some o else H b
theorem AK{H:Hp}{a:Addr}{o:HO}:upd H a o a=some o:=by unfold upd;rw [if_pos rfl]
theorem Ay{H:Hp}{a b:Addr}{o:HO}(h:b≠a):upd H a o b=H b:=by unfold upd;rw [if_neg h]
theorem XJ{H:Hp}{a b:Addr}{o u:HO}(h:H a=some o)(h':H b=some u)(d:o≠u):a≠b:=by
 intro e;subst e;rw [h] at h';exact d (Option.some.inj h')
theorem Bl{H:Hp}{a b:Addr}{o:HO}(h:H a=some o)(h':H b=none):a≠b:=by
 intro e;subst e;rw [h] at h';cases h'
section
variable(P:Program)(w:World)
def C4(H:Hp)(h:Heap)(a:Addr):HO->Prop
 | .lst xs=>xs.length<=sizeLine/\∃(its:List Value) (n:Nat),Vals xs its/\h.get? a=some { cls:=.type "list",data:=.seq its.toArray n }
 | .tup xs=>xs.length<=sizeLine/\∃its:List Value,Vals xs its/\IsTup h a its.toArray
 | .dK kvs=>kvs.length<=sizeLine/\(a == sysModules)=false/\∃vs,KV kvs vs/\h.DictOf (CF P w) a vs
 | .dT kvs=>kvs.length<=sizeLine/\(a == sysModules)=false/\∃xs:List (List Key×Addr×Value),
   Paired (fun(p:List Key×V) (q:List Key×Addr×Value)=>p.1=q.1/\H q.2.1=some (.tup (p.1.map kV))/\RelV p.2 q.2.2) kvs xs /\
   ∃o es ep,h.get? a=some o/\o.ExactDict/\o.data=.dict es ep/\es.toList=xs.map (entryOfKey (tupleKind (CF P w)))/\(xs.map (·.1)).Nodup
 | .set S n=>h.SetOf (intKind P w) a S n
 | .ins C dx fs=>H dx=some (.own a)/\fs.length<=1000/\dx≠a/\h.get? a=some (PySem.W.instObj C dx) /\
   ∃mA,h.Ns1 dx mA/\(∀f,AU (fs.lookup f) (mA f))/\PySem.Within mA (fs.map (·.1))
 | .own _=>∃o,h.get? a=some o
 | .xd fs=>∃mA,h.Ns1 a mA/\∀f,AU (fs.lookup f) (mA f)
 | .rng lo hi=>∃t u v,h.get? a=some { cls:=.type "range",data:=.fields #[.int lo t,.int hi u,.int 1 v] }
 | .frz o u=>h.get? a=some o/\C4 H h a u
 | .tbl ps=>h.get? a=some { cls:=.none,data:=.fields ps }
 | .met f x=>h.get? a=some (PySem.W.methodObj (.ref f) (.ref x))
 | .ext φ=>φ h/\(∃o,h.get? a=some o)/\∀h1 h2:Heap,φ h1->(∀o,h1.get? a=some o->h2.get? a=some o)->φ h2
def HOk(H:Hp)(h:Heap):Prop:=∀a o,H a=some o->C4 P w H h a o
end
section
variable{P:Program}{w:World}{H H':Hp}{h h':Heap}{a:Addr}{o:HO}
theorem C4.lt(x:C4 P w H h a o):a < h.objs.size:=by
 cases o with
 | lst xs=>obtain⟨_,_,_,_,e⟩:=x;exact Heap.lt_size e
 | tup xs=>obtain⟨_,_,_,p⟩:=x;exact p.lt
 | dK kvs=>obtain⟨_,_,_,_,o,_,_,e,_⟩:=x;exact Heap.lt_size e
 | dT kvs=>obtain⟨_,_,_,_,o,_,_,e,_⟩:=x;exact Heap.lt_size e
 | set S n=>obtain⟨o,_,_,_,e,_⟩:=x;exact Heap.lt_size e
 | ins C dx fs=>obtain⟨_,_,_,e,_⟩:=x;exact Heap.lt_size e
 | own y=>obtain⟨_,e⟩:=x;exact Heap.lt_size e
 | xd fs=>obtain⟨_,⟨_,_,_,e,_⟩,_⟩:=x;exact Heap.lt_size e
 | rng lo hi=>obtain⟨_,_,_,e⟩:=x;exact Heap.lt_size e
 | frz ob u=>obtain⟨e,_⟩:=x;exact Heap.lt_size e
 | tbl ps=>exact Heap.lt_size (show h.get? a=some _ from x)
 | met f y=>exact Heap.lt_size (show h.get? a=some _ from x)
 | ext φ=>obtain⟨_,⟨_,e⟩,_⟩:=x;exact Heap.lt_size e
theorem Paired.XM{α β:Type}{F G:α->β->Prop}:∀{l₁:List α} {l₂:List β},Paired F l₁ l₂->(∀a b,F a b->G a b)->Paired G l₁ l₂
 | _,_,.nil,_=>.nil
 | _,_,.cons r t,f=>.cons (f _ _ r) (Paired.XM t f)
theorem C4.Qh(x:C4 P w H h a o)(k:∀b u,(b=a∨H b=some (.own a))->h.get? b=some u->h'.get? b=some u)
  (ho:∀b,H b=some (.own a)->H' b=some (.own a)) (ht:∀b xs,H b=some (.tup xs)->H' b=some (.tup xs)):C4 P w H' h' a o:=by
 induction o with
 | lst xs=>obtain⟨z,its,n,r,e⟩:=x;exact⟨z,its,n,r,k _ _ (.inl rfl) e⟩
 | tup xs=>obtain⟨z,its,r,ob,e,c⟩:=x;exact⟨z,its,r,ob,k _ _ (.inl rfl) e,c⟩
 | dK kvs=>obtain⟨z,y,vs,r,ob,es,ep,e,c⟩:=x;exact⟨z,y,vs,r,ob,es,ep,k _ _ (.inl rfl) e,c⟩
 | dT kvs =>
  obtain⟨z,y,xs,r,ob,es,ep,e,c⟩:=x;exact⟨z,y,xs,Paired.XM r fun p q z=>⟨z.1,ht _ _ z.2.1,z.2.2⟩,ob,es,ep,k _ _ (.inl rfl) e,c⟩
 | set S n=>obtain⟨ob,es,ep,t,e,c⟩:=x;exact⟨ob,es,ep,t,k _ _ (.inl rfl) e,c⟩
 | ins C dx fs =>
  obtain⟨d,z,ne,e,mA,⟨od,es,ep,e2,c⟩,r⟩:=x;exact⟨ho _ d,z,ne,k _ _ (.inl rfl) e,mA,⟨od,es,ep,k _ _ (.inr d) e2,c⟩,r⟩
 | own y=>obtain⟨ob,e⟩:=x;exact⟨ob,k _ _ (.inl rfl) e⟩
 | xd fs=>obtain⟨mA,⟨od,es,ep,e,c⟩,r⟩:=x;exact⟨mA,⟨od,es,ep,k _ _ (.inl rfl) e,c⟩,r⟩
 | rng lo hi=>obtain⟨t,u,v,e⟩:=x;exact⟨t,u,v,k _ _ (.inl rfl) e⟩
 | frz ob u ih=>obtain⟨e,q⟩:=x;exact⟨k _ _ (.inl rfl) e,ih q⟩
 | tbl ps =>
  have e:h.get? a=some { cls:=.none,data:=.fields ps }:=x;show h'.get? a=some { cls:=.none,data:=.fields ps };exact k a _ (.inl rfl) e
 | met f y =>
  have e:h.get? a=some (PySem.W.methodObj (.ref f) (.ref y)):=x;show h'.get? a=some (PySem.W.methodObj (.ref f) (.ref y));exact k a _ (.inl rfl) e
 | ext φ=>obtain⟨p,⟨o,e⟩,st⟩:=x;exact⟨st _ _ p fun o q=>k _ _ (.inl rfl) q,⟨o,k _ _ (.inl rfl) e⟩,st⟩
theorem HOk.lt(x:HOk P w H h)(e:H a=some o):a < h.objs.size:=(x a o e).lt
theorem HOk.fresh(x:HOk P w H h)(e:h.objs.size<=a):H a=none:=by
 cases q:H a with
 | none=>rfl
 | some u=>exact absurd (Nat.lt_of_lt_of_le (x.lt q) e) (Nat.lt_irrefl _)
theorem HOk.kept(x:HOk P w H h)(k:∀b u,h.get? b=some u->h'.get? b=some u):HOk P w H h':=fun a o e =>
 (x a o e).Qh (fun b u _ q=>k b u q) (fun _ q=>q) fun _ _ q=>q
theorem HOk.laid(x:HOk P w H h)(k:∀b u,h.get? b=some u->h'.get? b=some u)(hp:h.objs.size<=a)(new:C4 P w (upd H a o) h' a o):HOk P w (upd H a o) h':=fun b u e=>by
 have hn:=x.fresh hp;by_cases hb:b=a
 ·subst hb;rw [AK] at e;cases e;exact new
 ·rw [Ay hb] at e
  exact(x b u e).Qh (fun c v _ q=>k c v q) (fun c q=>by rw [Ay (Bl q hn)];exact q) fun c xs q=>by rw [Ay (Bl q hn)];exact q
end
def Rd(H:Hp)(a:Addr)(u:HO):Prop:=H a=some u∨∃o,H a=some (.frz o u)
theorem Rd.ok{P:Program}{w:World}{H:Hp}{h:Heap}{a:Addr}{u:HO}(r:Rd H a u)(x:HOk P w H h):C4 P w H h a u:=by
 rcases r with r | ⟨o,r⟩
 ·exact x a u r
 ·obtain⟨_,q⟩:=x a _ r
  exact q
def Mut:Option HO->Prop
 | some (.lst _)=>True
 | some (.dK _)=>True
 | some (.dT _)=>True
 | some (.set _ _)=>True
 | some (.ins _ _ _)=>True
 | some (.ext _)=>True
 | _=>False
section
variable{P:Program}{w:World}{H:Hp}{h h':Heap}{x e:Addr}{o':HO}
theorem HOk.write(ok:HOk P w H h)(mu:Mut (H x))(he:e=x∨H e=some (.own x))(k:∀b u,b≠e->h.get? b=some u->h'.get? b=some u)(heo:∃u,h'.get? e=some u)
  (new:C4 P w (upd H x o') h' x o'):HOk P w (upd H x o') h':=fun b u q=>by
 have nown:∀c y,H c=some (.own y)->c≠x:=fun c y r z=>by subst z;rw [r] at mu;exact mu
 have ntup:∀c xs,H c=some (.tup xs)->c≠x:=fun c xs r z=>by subst z;rw [r] at mu;exact mu
 by_cases hb:b=x
 ·subst hb;rw [AK] at q;cases q;exact new
 ·rw [Ay hb] at q
  by_cases hbe:b=e
  ·have q':H b=some (.own x):=by
    rcases he with z | z
    ·exact absurd (hbe.trans z) hb
    ·rw [hbe];exact z
   rw [q] at q';cases q';obtain⟨v,hv⟩:=heo;exact⟨v,by rw [hbe];exact hv⟩
  ·refine(ok b u q).Qh (fun c v hc r=>k c v ?_ r) (fun c r=>by rw [Ay (nown c b r)];exact r) fun c xs r=>by rw [Ay (ntup c xs r)];exact r
   rcases hc with rfl | hc
   ·exact hbe
   ·rintro rfl
    rcases he with z | z
    ·exact nown c b hc z
    ·rw [hc] at z;cases z;exact hb rfl
end
structure Un(fs ex:List Addr)(H H':Hp)(h h':Heap):Prop where
 keep:∀b o,h.get? b=some o->H b=none->b∉fs->b∉ex->h'.get? b=some o
 slot:∀b o,h.get? b=some o->H b=none->b∈fs->b∉ex->∃sl,h'.get? b=some { o with slots:=sl }
 free:∀b o,h.get? b=some o->H b=none->b∉ex->H' b=none
 there:∀b o,h.get? b=some o->b∉ex->∃o',h'.get? b=some o'
 tups:∀b xs,H b=some (.tup xs)->H' b=some (.tup xs)
 frzs:∀b o u,H b=some (.frz o u)->H' b=some (.frz o u)
 tbls:∀b ps,H b=some (.tbl ps)->∃more,H' b=some (.tbl (ps++more))
section
variable{fs fs' ex ex':List Addr}{H H1 H2:Hp}{h h1 h2 h':Heap}{a x e:Addr}{o:HO}
theorem Un.any(u:Un fs ex H H1 h h1){b:Addr}{ob:Obj}(q:h.get? b=some ob)(n:H b=none)(hx:b∉ex):∃sl,h1.get? b=some { ob with slots:=sl }:=by
 by_cases hb:b∈fs
 ·exact u.slot b ob q n hb hx
 ·exact⟨ob.slots,u.keep b ob q n hb hx⟩
theorem Un.kept(k:∀b u,h.get? b=some u->h'.get? b=some u):Un fs ex H H h h' :=
 ⟨fun b ob q _ _ _=>k b ob q,fun b ob q _ _ _=>⟨ob.slots,k b ob q⟩,fun _ _ _ n _=>n,fun b ob q _=>⟨ob,k b ob q⟩,fun _ _ q=>q,fun _ _ _ q=>q,fun _ ps q=>⟨#[],by rw [q];simp⟩⟩
theorem Un.refl:Un fs ex H H h h:=Un.kept fun _ _ q=>q
theorem Un.laid(k:∀b u,h.get? b=some u->h'.get? b=some u)(hp:h.objs.size<=a)(hn:H a=none):Un fs ex H (upd H a o) h h' where
 keep:=fun b u q _ _ _=>k b u q
 slot:=fun b u q _ _ _=>⟨u.slots,k b u q⟩
 free:=fun b u q n _=>by rw [Ay (Nat.ne_of_lt (Nat.lt_of_lt_of_le (Heap.lt_size q) hp))];exact n
 there:=fun b u q _=>⟨u,k b u q⟩
 tups:=fun b xs q=>by rw [Ay (Bl q hn)];exact q
 frzs:=fun b u xs q=>by rw [Ay (Bl q hn)];exact q
 tbls:=fun b ps q=>⟨#[],by rw [Ay (Bl q hn),q];simp⟩
theorem Un.write(mu:Mut (H x))(he:e=x∨H e=some (.own x))(k:∀b u,b≠e->h.get? b=some u->h'.get? b=some u)(heo:∃u,h'.get? e=some u):Un fs ex H (upd H x o) h h':=by
 have hx:∀b,H b=none->b≠x:=fun b n z=>by subst z;rw [n] at mu;exact mu
 have hb:∀b,H b=none->b≠e:=fun b n z=>by
  subst z;rcases he with r | r
  ·exact hx b n r
  ·rw [n] at r;cases r
 have hm:∀b u,H b=some u->¬ Mut (some u)->b≠x:=fun b u q nm z=>by subst z;rw [q] at mu;exact nm mu
 refine⟨fun b u q n _ _=>k b u (hb b n) q,fun b u q n _ _=>⟨u.slots,k b u (hb b n) q⟩,fun b u q n _=>by rw [Ay (hx b n)];exact n,fun b u q _=>?_,
  fun b xs q=>by rw [Ay (hm b _ q fun z=>z)];exact q,fun b u xs q=>by rw [Ay (hm b _ q fun z=>z)];exact q,fun b ps q=>⟨#[],by rw [Ay (hm b _ q fun z=>z),q];simp⟩⟩
 by_cases hbe:b=e
 ·subst hbe;exact heo
 ·exact⟨u,k b u hbe q⟩
end
def trk(h:Heap)(H:Hp):List Addr:=(List.range h.objs.size).filter fun a=>(H a).isSome
def Q0(h:Heap)(H:Hp):Heap:=PySem.W.hideAll h (trk h H)
theorem OJ(h:Heap)(H:Hp):(Q0 h H).objs.size=h.objs.size:=PySem.W.hideAll_size _ _
theorem QZ{h:Heap}{H:Hp}{b:Addr}{o:Obj}(e:h.get? b=some o)(n:H b=none):(Q0 h H).get? b=some o :=
 PySem.W.hideAll_get _ e fun hm=>by
  have q:(H b).isSome=true:=(List.mem_filter.mp hm).2;rw [n] at q;simp at q
theorem TK{h:Heap}{H:Hp}{b:Addr}{o:Obj}(e:(Q0 h H).get? b=some o):h.get? b=some o/\H b=none:=by
 have e':h.get? b=some o:=PySem.W.of_hideAll (trk h H) e;refine⟨e',?_⟩;cases q:H b with
 | none=>rfl
 | some x =>
  have hm:b∈trk h H:=List.mem_filter.mpr ⟨List.mem_range.mpr (Heap.lt_size e'),by simp [q]⟩;have z:(Q0 h H).get? b=none:=PySem.W.hideAll_none (trk h H) hm;rw [z] at e;cases e
structure Mod(K:Fg)(mg:Str->Option Value)(base:Heap):Prop where
 kin:K.In base
 glob:base.Ns mainGlobals mg
 blt:∃mb,base.Ns builtinsNs mb/\∀x:Str,x≠"__name__"->mb x=bootBuiltins x
 nolimit:base.NoLimit
structure Cx where
 prog:Program
 w:World
 K:Fg
 mg:Str->Option Value
 base:Heap
 A:Around
 N:List Str
 s₀:Shared
 H₀:Hp
 env:Env
 outer:List Env
 stack:List Env
 ex:List Addr
 fn:Str->Bool
 calm:Bool
 pn:List (Addr×Obj)
 xe:Value->Shared->Prop
def frs(l:List Env):List Addr:=l.filterMap (·.frame)
abbrev Cx.fs(X:Cx):List Addr:=frs X.outer
def Vis(sc:Scope)(x:Str):Prop:=sc.names.lookup x=some .local∨sc.names.lookup x=some .cell∨sc.names.lookup x=some .free
def Loc(sc:Scope)(x:Str):Prop:=sc.names.lookup x=some .local∨sc.names.lookup x=some .cell
def Look(env:Env)(h:Heap)(m:Str->Option Value)(x:Str)(u:Value):Prop :=
 (env.kindOf x=some .local/\m x=some u)∨((env.kindOf x=some .cell∨env.kindOf x=some .free)/\∃c,env.cells.lookup x=some c/\h.IsCell c (some u))
structure Cx.Ok(X:Cx):Prop where
 mod:Mod X.K X.mg X.base
 kind:X.env.scope.kind=.function
 glob:X.env.globals=mainGlobals
 blt:X.env.builtins=builtinsNs
 above:X.s₀.heap.objs.size<=X.env.locals
 inj:∀x y c,X.env.cells.lookup x=some c->X.env.cells.lookup y=some c->x=y
 has:∀x,(X.env.kindOf x=some .cell∨X.env.kindOf x=some .free)->∃c,X.env.cells.lookup x=some c
 cab:∀x c,X.fn x=true->X.env.cells.lookup x=some c->X.s₀.heap.objs.size<=c
 hd:X.calm=true->X.A.handled=none
 frames:X.A.frames=some X.stack
 stk:X.stack=X.outer∨(X.stack=X.env :: X.outer/\X.env.frame=some X.env.locals)
 exf:∀b∈X.ex,b≠X.env.locals/\∀x c,X.env.cells.lookup x=some c->c≠b
 bs:∀b o,X.base.get? b=some o->X.s₀.heap.get? b=some o/\X.H₀ b=none
 bsz:X.base.objs.size<=X.s₀.heap.objs.size
 noex:∀b o,X.base.get? b=some o->b∉X.ex
 exfs:∀b∈X.ex,b∉X.fs
 LZ:X.s₀.heap.FunFrames X.base X.outer
 frf:∀b∈X.fs,X.H₀ b=none
structure Inv(X:Cx)(pins:List (Addr×Obj))(σ:List (Option V))(H:Hp)(s:Shared):Prop where
 ok:X.Ok
 os:s.os=X.s₀.os
 bare:AllBare s.gens
 base:Un X.fs X.ex X.H₀ H X.s₀.heap s.heap
 loc:∃m,s.heap.Ns X.env.locals m/\∀(i:Nat) (x:Str) (v:V),X.N[i]?=some x->σ[i]?=some (some v)->Vis X.env.scope x->∃u,RelV v u/\Look X.env s.heap m x u
 cell:∀x c,X.env.cells.lookup x=some c->∃v,s.heap.IsCell c v
 free:H X.env.locals=none
 freeC:∀x c,X.env.cells.lookup x=some c->H c=none
 pin:∀p∈X.pn++pins,s.heap.get? p.1=some p.2/\H p.1=none/\p.1≠X.env.locals/\p.1∉X.fs/\∀v,p.2.data≠.cell v
 hok:HOk X.prog X.w H s.heap
 len:σ.length=X.N.length
section
variable{X:Cx}{pins:List (Addr×Obj)}{σ:List (Option V)}{H H':Hp}{s:Shared}{h':Heap}
theorem Cx.Ok.YC(ok:X.Ok){b:Addr}{o:Obj}(e:X.base.get? b=some o):b∉X.fs:=fun hb=>by
 have:=(ok.LZ.mem hb).1;rw [e] at this;cases this
theorem Inv.bs(I:Inv X pins σ H s):∀b o,X.base.get? b=some o->s.heap.get? b=some o/\H b=none:=fun b o e =>
 ⟨I.base.keep b o (I.ok.bs b o e).1 (I.ok.bs b o e).2 (I.ok.YC e) (I.ok.noex b o e),I.base.free b o (I.ok.bs b o e).1 (I.ok.bs b o e).2 (I.ok.noex b o e)⟩
theorem Inv.bk(I:Inv X pins σ H s):∀b o,X.base.get? b=some o->s.heap.get? b=some o:=fun b o e=>(I.bs b o e).1
theorem Inv.mod(I:Inv X pins σ H s):Mod X.K X.mg X.base:=I.ok.mod
theorem Inv.kIn(I:Inv X pins σ H s):X.K.In s.heap:=I.ok.mod.kin.keeps I.bk
theorem Inv.lt(I:Inv X pins σ H s):X.env.locals < s.heap.objs.size:=let⟨_,hn,_⟩:=I.loc;hn.lt
theorem Inv.sz(I:Inv X pins σ H s):X.s₀.heap.objs.size<=s.heap.objs.size:=Nat.le_trans I.ok.above (Nat.le_of_lt I.lt)
theorem Inv.YB(I:Inv X pins σ H s){a:Addr}(h:s.heap.objs.size<=a):a∉X.fs:=fun hb=>by
 obtain⟨_,o,ho,_⟩:=I.ok.LZ.mem hb;exact absurd (Nat.lt_of_lt_of_le (Heap.lt_size ho) (Nat.le_trans I.sz h)) (Nat.lt_irrefl _)
theorem Inv.cne(I:Inv X pins σ H s):∀x c,X.env.cells.lookup x=some c->c≠X.env.locals:=fun x c e z=>by
 obtain⟨v,o,ho,hd⟩:=I.cell x c e;obtain⟨m,⟨o',es,ep,ho',hd',_⟩,_⟩:=I.loc;rw [z,ho'] at ho;cases ho;rw [hd'] at hd;cases hd
theorem Inv.LZ(I:Inv X pins σ H s):s.heap.FunFrames X.base X.outer:=by
 have all:∀(l:List Env),(∀b∈frs l,b∈X.fs)->X.s₀.heap.FunFrames X.base l->s.heap.FunFrames X.base l:=by
  intro l
  induction l with
  | nil=>intro _ _;trivial
  | cons env r ih =>
   intro hs hl;obtain⟨hk,⟨L,o,hf,hn,ho,hd⟩,hr⟩:=hl;have hL:L∈X.fs:=hs L (by unfold frs;rw [List.filterMap_cons,hf];exact List.mem_cons_self);obtain⟨sl,e⟩:=I.base.slot L o ho (I.ok.frf L hL) hL fun z=>I.ok.exfs L z hL
   exact⟨hk,⟨L,_,hf,hn,e,hd⟩,ih (fun b hb=>hs b (by unfold frs;rw [List.filterMap_cons,hf];exact List.mem_cons_of_mem _ hb)) hr⟩
 exact all X.outer (fun _ hb=>hb) I.ok.LZ
theorem Inv.stack(I:Inv X pins σ H s):s.heap.FunFrames X.base X.stack:=by
 rcases I.ok.stk with e | ⟨e,hf⟩
 ·rw [e];exact I.LZ
 ·rw [e]
  obtain⟨m,hn,_⟩:=I.loc;refine .cons (by rw [I.ok.kind];decide) hf hn ?_ I.LZ;exact Heap.get?_none_of_le (Nat.le_trans I.ok.bsz I.ok.above)
theorem Inv.JE(I:Inv X pins σ H s):∀b∈frs X.stack,b∈X.env.locals :: X.fs:=fun b hb=>by
 rcases I.ok.stk with e | ⟨e,hf⟩
 ·rw [e] at hb;exact List.mem_cons_of_mem _ hb
 ·rw [e] at hb
  unfold frs at hb;rw [List.filterMap_cons,hf] at hb;exact hb
theorem Inv.KD(I:Inv X pins σ H s):∀b∈frs X.stack,H b=none:=fun b hb=>by
 rcases List.mem_cons.mp (I.JE b hb) with e | hb
 ·rw [e];exact I.free
 ·obtain⟨_,o,ho,_⟩:=I.ok.LZ.mem hb
  exact I.base.free b o ho (I.ok.frf b hb) fun z=>I.ok.exfs b z hb
theorem Inv.step{g':Array GenState}{t':Nat}{d':Drawn}{ch:List Addr}(I:Inv X pins σ H s)
  (hch:∀b∈ch,(b∈X.ex∨X.s₀.heap.objs.size<=b)/\b≠X.env.locals/\(∀x c,X.env.cells.lookup x=some c->c≠b)/\∀p∈X.pn++pins,p.1≠b)
  (keep:∀b o,b≠X.env.locals->b∉X.fs->b∉ch->s.heap.get? b=some o->H b=none->h'.get? b=some o)
  (slot:∀b o,b≠X.env.locals->b∈X.fs->b∉ch->s.heap.get? b=some o->H b=none->∃sl,h'.get? b=some { o with slots:=sl }) (free:∀b o,b∉ch->s.heap.get? b=some o->H b=none->H' b=none)
  (there:∀b o,b∉ch->s.heap.get? b=some o->∃o',h'.get? b=some o')
  (tups:∀b xs,H b=some (.tup xs)->H' b=some (.tup xs)) (frzs:∀b o u,H b=some (.frz o u)->H' b=some (.frz o u)) (tbls:∀b ps,H b=some (.tbl ps)->∃more,H' b=some (.tbl (ps++more)))
  (ns:∀m,s.heap.Ns X.env.locals m->h'.Ns X.env.locals m) (hok:HOk X.prog X.w H' h') (hg:AllBare g') :
  Inv X pins σ H' { s with heap:=h',gens:=g',drawn:=d',toks:=t' }:=by
 have neL:∀b o,X.s₀.heap.get? b=some o->b≠X.env.locals:=fun b o e=>Nat.ne_of_lt (Nat.lt_of_lt_of_le (Heap.lt_size e) I.ok.above)
 have neC:∀b o,X.s₀.heap.get? b=some o->b∉X.ex->b∉ch:=fun b o e hx hb=>by
  rcases(hch b hb).1 with z | z
  ·exact hx z
  ·exact absurd (Nat.lt_of_lt_of_le (Heap.lt_size e) z) (Nat.lt_irrefl _)
 have cellK:∀x c,X.env.cells.lookup x=some c->∀v,s.heap.IsCell c v->h'.IsCell c v:=fun x c e v ⟨o,ho,hd⟩=>by
  have nch:c∉ch:=fun z=>(hch c z).2.2.1 x c e rfl
  by_cases hc:c∈X.fs
  ·obtain⟨sl,q⟩:=slot c o (I.cne x c e) hc nch ho (I.freeC x c e)
   exact⟨_,q,hd⟩
  ·exact⟨o,keep c o (I.cne x c e) hc nch ho (I.freeC x c e),hd⟩
 refine⟨I.ok,I.os,hg,⟨fun b o e n hb hx=>?_,fun b o e n hb hx=>?_,fun b o e n hx=>?_,fun b o e hx=>?_,fun b xs e=>tups b xs (I.base.tups b xs e),fun b o xs e=>frzs b o xs (I.base.frzs b o xs e),fun b ps e=>?_⟩,?_,fun x c e=>?_,?_,fun x c e=>?_,fun p hp=>?_,hok,I.len⟩
 ·exact keep b o (neL b o e) hb (neC b o e hx) (I.base.keep b o e n hb hx) (I.base.free b o e n hx)
 ·obtain⟨sl,e1⟩:=I.base.slot b o e n hb hx
  obtain⟨sl',e2⟩:=slot b _ (neL b o e) hb (neC b o e hx) e1 (I.base.free b o e n hx);exact⟨sl',e2⟩
 ·obtain⟨o',e1⟩:=I.base.there b o e hx
  exact free b o' (neC b o e hx) e1 (I.base.free b o e n hx)
 ·obtain⟨o',e1⟩:=I.base.there b o e hx
  exact there b o' (neC b o e hx) e1
 ·obtain⟨m1,e1⟩:=I.base.tbls b ps e
  obtain⟨m2,e2⟩:=tbls b _ e1;exact⟨m1++m2,by rw [e2,Array.append_assoc]⟩
 ·obtain⟨m,hn,hl⟩:=I.loc
  refine⟨m,ns m hn,fun i x v e1 e2 e3=>?_⟩;obtain⟨u,r,l⟩:=hl i x v e1 e2 e3;refine⟨u,r,?_⟩;rcases l with l | ⟨k,c,e,z⟩
  ·exact .inl l
  ·exact .inr ⟨k,c,e,cellK x c e _ z⟩
 ·obtain⟨v,z⟩:=I.cell x c e
  exact⟨v,cellK x c e v z⟩
 ·obtain⟨m,⟨o,_,_,ho,_⟩,_⟩:=I.loc
  exact free _ o (fun z=>(hch _ z).2.1 rfl) ho I.free
 ·obtain⟨v,o,ho,hd⟩:=I.cell x c e
  exact free c o (fun z=>(hch c z).2.2.1 x c e rfl) ho (I.freeC x c e)
 ·obtain⟨e,n,ne,nf,d⟩:=I.pin p hp
  have nch:p.1∉ch:=fun z=>(hch p.1 z).2.2.2 p hp rfl
  exact⟨keep p.1 p.2 ne nf nch e n,free p.1 p.2 nch e n,ne,nf,d⟩
theorem Inv.un{t':Nat}(I:Inv X pins σ H s)(u:Un X.fs [] H H' s.heap h')(hok:HOk X.prog X.w H' h'):Inv X pins σ H' { s with heap:=h',toks:=t' }:=by
 obtain⟨m,⟨o,es,ep,ho,r⟩,_⟩:=id I.loc;obtain⟨sl,hL⟩:=u.any ho I.free (by simp);exact I.step (g':=s.gens) (d':=s.drawn) (ch:=[]) (fun _ z=>nomatch z) (fun b o _ hb _ e n=>u.keep b o e n hb (by simp)) (fun b o _ hb _ e n=>u.slot b o e n hb (by simp)) (fun b o _ e n=>u.free b o e n (by simp)) (fun b o _ e=>u.there b o e (by simp)) u.tups u.frzs u.tbls (fun m' hm=>by
  obtain⟨o',es',ep',ho',r'⟩:=hm;rw [ho] at ho';cases ho';exact⟨_,es',ep',hL,r'⟩) hok I.bare
theorem Inv.call{g':Array GenState}{t':Nat}{d':Drawn}{ch:List Addr}(I:Inv X pins σ H s)(u:Un (frs X.stack) ch H H' s.heap h')(hok:HOk X.prog X.w H' h')(hg:AllBare g')
  (hch:∀b∈ch,(b∈X.ex∨X.s₀.heap.objs.size<=b)/\b≠X.env.locals/\(∀x c,X.env.cells.lookup x=some c->c≠b)/\∀p∈X.pn++pins,p.1≠b) :
  Inv X pins σ H' { s with heap:=h',gens:=g',drawn:=d',toks:=t' }:=by
 obtain⟨m,⟨o,es,ep,ho,r⟩,_⟩:=id I.loc;obtain⟨sl,hL⟩:=u.any ho I.free fun z=>(hch _ z).2.1 rfl
 exact I.step (ch:=ch) hch (fun b o hL hb hc e n=>u.keep b o e n (fun z=>(List.mem_cons.mp (I.JE b z)).elim hL hb) hc) (fun b o _ _ hc e n=>u.any e n hc) (fun b o hc e n=>u.free b o e n hc) (fun b o hc e=>u.there b o e hc) u.tups u.frzs u.tbls (fun m' hm=>by
  obtain⟨o',es',ep',ho',r'⟩:=hm;rw [ho] at ho';cases ho';exact⟨_,es',ep',hL,r'⟩) hok hg
theorem Inv.turned{t':Nat}{it:Addr}(I:Inv X pins σ H s)(k:∀b o,b≠it->s.heap.get? b=some o->h'.get? b=some o)(hn:H it=none)(hL:it≠X.env.locals)
  (h1:it∈X.ex∨X.s₀.heap.objs.size<=it) (h2:∀x c,X.env.cells.lookup x=some c->c≠it) (h3:∀p∈X.pn++pins,p.1≠it):Inv X pins σ H { s with heap:=h',toks:=t' }:=by
 have nit:∀b u,H b=some u->b≠it:=fun b u e z=>by rw [z,hn] at e;cases e
 refine I.step (g':=s.gens) (d':=s.drawn) (ch:=[it]) (fun b hb=>?_) (fun b o _ _ hc e _=>k b o (fun z=>hc (by simp [z])) e) (fun b o _ _ hc e _=>⟨o.slots,k b o (fun z=>hc (by simp [z])) e⟩) (fun _ _ _ _ n=>n)
  (fun b o hc e=>⟨o,k b o (fun z=>hc (by simp [z])) e⟩) (fun _ _ e=>e) (fun _ _ _ e=>e) (fun b ps e=>⟨#[],by rw [e];simp⟩) (fun m hm=>?_) (fun b u e=>?_) I.bare
 ·have e:b=it:=by simpa using hb
  subst e;exact⟨h1,hL,h2,h3⟩
 ·obtain⟨o,es,ep,ho,r⟩:=hm
  exact⟨o,es,ep,k _ o (Ne.symm hL) ho,r⟩
 ·refine(I.hok b u e).Qh (fun c v hc q=>k c v ?_ q) (fun _ q=>q) fun _ _ q=>q
  rcases hc with z | z
  ·rw [z];exact nit b u e
  ·exact nit c _ z
theorem Inv.tok(I:Inv X pins σ H s)(t:Nat):Inv X pins σ H { s with toks:=t }:=I.un (h':=s.heap) (t':=t) Un.refl I.hok
theorem Inv.kept{t':Nat}(I:Inv X pins σ H s)(k:∀b u,s.heap.get? b=some u->h'.get? b=some u):Inv X pins σ H { s with heap:=h',toks:=t' }:=I.un (Un.kept k) (I.hok.kept k)
theorem Inv.laid{a:Addr}{o:HO}{t':Nat}(I:Inv X pins σ H s)(k:∀b u,s.heap.get? b=some u->h'.get? b=some u)(hp:s.heap.objs.size<=a)(new:C4 X.prog X.w (upd H a o) h' a o) :
  Inv X pins σ (upd H a o) { s with heap:=h',toks:=t' }:=I.un (Un.laid k hp (I.hok.fresh hp)) (I.hok.laid k hp new)
theorem Inv.write{x e:Addr}{o:HO}{t':Nat}(I:Inv X pins σ H s)(mu:Mut (H x))(he:e=x∨H e=some (.own x))(k:∀b u,b≠e->s.heap.get? b=some u->h'.get? b=some u)(heo:∃u,h'.get? e=some u)
  (new:C4 X.prog X.w (upd H x o) h' x o):Inv X pins σ (upd H x o) { s with heap:=h',toks:=t' }:=I.un (Un.write mu he k heo) (I.hok.write mu he k heo new)
theorem Inv.IU{pins':List (Addr×Obj)}(I:Inv X pins σ H s)(h:∀p∈pins',s.heap.get? p.1=some p.2/\H p.1=none/\p.1≠X.env.locals/\p.1∉X.fs/\∀v,p.2.data≠.cell v):Inv X pins' σ H s :=
 ⟨I.ok,I.os,I.bare,I.base,I.loc,I.cell,I.free,I.freeC,fun p hp=>(List.mem_append.mp hp).elim (fun z=>I.pin p (List.mem_append_left _ z)) (h p),I.hok,I.len⟩
theorem IY{N:List Str}(hN:N.Nodup){i j:Nat}{x:Str}(a:N[i]?=some x)(b:N[j]?=some x):i=j:=by
 obtain⟨h1,e1⟩:=List.getElem?_eq_some_iff.mp a;obtain⟨h2,e2⟩:=List.getElem?_eq_some_iff.mp b;exact(List.getElem_inj hN).mp (e1.trans e2.symm)
theorem JC{M:Model}{A:Around}{E:Value->Shared->Prop}{i:Nat}{x:Str}{v:V}{u:Value}{Q:Unit->Shared->Prop}(I:Inv X pins σ H s)(hN:X.N.Nodup)(hi:X.N[i]?=some x)(hx:Loc X.env.scope x)(r:RelV v u)
  (h:∀s',Inv X pins (σ.set i (some v)) H s'->(∃a,Heap.SameBut a s.heap s'.heap/\(a=X.env.locals∨X.env.cells.lookup x=some a))->Q () s') (hf:X.fn x=true∨X.env.scope.names.lookup x=some .local:=by first | exact .inl rfl | exact .inr rfl | assumption):wpAny M A (storeName X.env x u) Q E s:=by
 obtain⟨m,hn,hl⟩:=id I.loc;have hcls:(X.env.scope.kind == .class || (X.env.scope.kind == .module && X.env.locals != X.env.globals))=false:=by rw [I.ok.kind];rfl
 have hiσ:i < σ.length:=by rw [I.len];exact(List.getElem?_eq_some_iff.mp hi).1
 have cne:=I.cne;have tracked:∀{a:Addr} {h':Heap},(∃o,s.heap.get? a=some o/\H a=none)->Heap.SameBut a s.heap h'->HOk X.prog X.w H h':=fun {a h'} ha hs b ob e=>by
  obtain⟨_,_,hfree⟩:=ha;refine(I.hok b ob e).Qh (fun c w' hc q=>(hs.2 c ?_).trans q) (fun _ q=>q) fun _ _ q=>q
  rintro rfl
  rcases hc with rfl | hc
  ·rw [hfree] at e;cases e
  ·rw [hfree] at hc;cases hc
 rcases hx with hk | hk
 ·refine wpAny_storeName_local hk hn (fun h' hn' hs=>?_) hcls
  obtain⟨oL,_,_,hoL,_⟩:=id hn;refine h _ ⟨I.ok,I.os,I.bare,⟨fun b o e n hb hx=>?_,fun b o e n hb hx=>?_,I.base.free,fun b o e hx=>?_,I.base.tups,I.base.frzs,I.base.tbls⟩,⟨_,hn',fun j y v' e1 e2 e3=>?_⟩,fun y c e=>?_,I.free,I.freeC,fun p hp=>?_,tracked ⟨oL,hoL,I.free⟩ hs,by simpa using I.len⟩ ⟨_,hs,.inl rfl⟩
  ·exact(hs.2 b (Nat.ne_of_lt (Nat.lt_of_lt_of_le (Heap.lt_size e) I.ok.above))).trans (I.base.keep b o e n hb hx)
  ·obtain⟨sl,e1⟩:=I.base.slot b o e n hb hx
   exact⟨sl,(hs.2 b (Nat.ne_of_lt (Nat.lt_of_lt_of_le (Heap.lt_size e) I.ok.above))).trans e1⟩
  ·obtain⟨o',e1⟩:=I.base.there b o e hx
   exact⟨o',(hs.2 b (Nat.ne_of_lt (Nat.lt_of_lt_of_le (Heap.lt_size e) I.ok.above))).trans e1⟩
  ·by_cases hj:j=i
   ·subst hj
    rw [hi] at e1;cases e1;rw [List.getElem?_set_self hiσ] at e2;cases e2;exact⟨u,r,.inl ⟨hk,by simp⟩⟩
   ·rw [List.getElem?_set_ne (Ne.symm hj)] at e2
    obtain⟨u',r',q⟩:=hl j y v' e1 e2 e3;refine⟨u',r',?_⟩;rcases q with⟨k,e⟩ | ⟨k,c,e,z⟩
    ·refine .inl ⟨k,?_⟩
     have:y≠x:=fun e=>hj (IY hN e1 (e▸hi))
     simp [this,e]
    ·exact .inr ⟨k,c,e,z.sameBut hs (cne y c e)⟩
  ·obtain⟨w',z⟩:=I.cell y c e
   exact⟨w',z.sameBut hs (cne y c e)⟩
  ·obtain⟨e,n,ne,nf,d⟩:=I.pin p hp
   exact⟨(hs.2 p.1 ne).trans e,n,ne,nf,d⟩
 ·have hfn:X.fn x=true:=by
   rcases hf with z | z
   ·exact z
   ·rw [z] at hk;cases hk
  obtain⟨c,hc⟩:=I.ok.has x (.inl hk);obtain⟨w',z⟩:=I.cell x c hc;refine wpAny_storeName_cell I.ok.kind hk hc z (fun h' hc' hs=>?_);obtain⟨oc,hoc,hocd⟩:=id z;refine h { s with heap:=h' } ⟨I.ok,I.os,I.bare,⟨fun b o e n hb hx=>?_,fun b o e n hb hx=>?_,I.base.free,fun b o e hx=>?_,I.base.tups,I.base.frzs,I.base.tbls⟩,⟨m,hn.sameBut hs (Ne.symm (cne x c hc)),fun j y v' e1 e2 e3=>?_⟩,fun y c' e=>?_,I.free,I.freeC,fun p hp=>?_,tracked ⟨oc,hoc,I.freeC x c hc⟩ hs,by simpa using I.len⟩ ⟨c,hs,.inr hc⟩
  ·exact(hs.2 b (Nat.ne_of_lt (Nat.lt_of_lt_of_le (Heap.lt_size e) (I.ok.cab x c hfn hc)))).trans (I.base.keep b o e n hb hx)
  ·obtain⟨sl,e1⟩:=I.base.slot b o e n hb hx
   exact⟨sl,(hs.2 b (Nat.ne_of_lt (Nat.lt_of_lt_of_le (Heap.lt_size e) (I.ok.cab x c hfn hc)))).trans e1⟩
  ·obtain⟨o',e1⟩:=I.base.there b o e hx
   exact⟨o',(hs.2 b (Nat.ne_of_lt (Nat.lt_of_lt_of_le (Heap.lt_size e) (I.ok.cab x c hfn hc)))).trans e1⟩
  ·by_cases hj:j=i
   ·subst hj
    rw [hi] at e1;cases e1;rw [List.getElem?_set_self hiσ] at e2;cases e2;exact⟨u,r,.inr ⟨.inl hk,c,hc,hc'⟩⟩
   ·rw [List.getElem?_set_ne (Ne.symm hj)] at e2
    obtain⟨u',r',q⟩:=hl j y v' e1 e2 e3;refine⟨u',r',?_⟩;rcases q with q | ⟨k,c',e,z'⟩
    ·exact .inl q
    ·refine .inr ⟨k,c',e,z'.sameBut hs ?_⟩
     rintro rfl
     exact hj (IY hN e1 (I.ok.inj _ _ _ e hc▸hi))
  ·by_cases hcc:c'=c
   ·subst hcc;exact⟨_,hc'⟩
   ·obtain⟨w2,z2⟩:=I.cell y c' e
    exact⟨w2,z2.sameBut hs hcc⟩
  ·obtain⟨e,n,ne,nf,d⟩:=I.pin p hp
   refine⟨(hs.2 p.1 ?_).trans e,n,ne,nf,d⟩;intro q;rw [q,hoc] at e;have q':oc=p.2:=Option.some.inj e;exact d w' (by rw [<- q'];exact hocd)
theorem GL{M:Model}{A:Around}{E:Value->Shared->Prop}{i:Nat}{x:Str}{v:V}{u:Value}{Q:Unit->Shared->Prop}(I:Inv X pins σ H s)(hN:X.N.Nodup)(hi:X.N[i]?=some x)(hx:Loc X.env.scope x)(r:RelV v u)
  (h:∀s',Inv X pins (σ.set i (some v)) H s'->Q () s') (hf:X.fn x=true∨X.env.scope.names.lookup x=some .local:=by first | exact .inl rfl | exact .inr rfl | assumption):wpAny M A (storeName X.env x u) Q E s :=
 JC I hN hi hx r (fun s' I' _=>h s' I') hf
theorem Inv.WM{s':Shared}{ch:List Addr}(I:Inv X pins σ H s)(ho:s'.os=s.os)(u:Un (frs X.stack) ch H H' s.heap s'.heap)(hok:HOk X.prog X.w H' s'.heap)(hg:AllBare s'.gens)
  (hch:∀b∈ch,(b∈X.ex∨X.s₀.heap.objs.size<=b)/\b≠X.env.locals/\(∀x c,X.env.cells.lookup x=some c->c≠b)/\∀p∈X.pn++pins,p.1≠b):Inv X pins σ H' s':=by
 obtain⟨h',g',d',t',o'⟩:=s';have e:o'=s.os:=ho;subst e;exact I.call (g':=g') (t':=t') (d':=d') u hok hg hch
end
abbrev XK:=Value->Option Addr->Hp->Prop
abbrev St:=List (Option V)
abbrev VK:=V->Hp->Prop
abbrev TE:=St->Hp->VK->Prop
abbrev TT:=St->Hp->(Bool->Hp->Prop)->Prop
abbrev TA:=St->Hp->(List V->Hp->Prop)->Prop
structure Ends where
 nx:St->Hp->Prop
 rt:VK
 bk:St->Hp->Prop:=fun _ _=>False
 ct:St->Hp->Prop:=fun _ _=>False
abbrev TS:=Ends->St->Hp->Prop
def EP(X:Cx)(pins:List (Addr×Obj))(σ:St)(Q:VK)(u:Value)(s':Shared):Prop:=∃v H',Inv X pins σ H' s'/\RelV v u/\Q v H'
def TP(X:Cx)(pins:List (Addr×Obj))(σ:St)(Q:Bool->Hp->Prop)(b:Bool)(s':Shared):Prop:=∃H',Inv X pins σ H' s'/\Q b H'
def AP(X:Cx)(pins:List (Addr×Obj))(σ:St)(Q:List V->Hp->Prop)(us:List Value)(s':Shared):Prop:=∃vs H',Inv X pins σ H' s'/\Vals vs us/\Q vs H'
def SP(X:Cx)(pins:List (Addr×Obj))(D:Ends)(f:Flow)(s':Shared):Prop :=
 match f with
 | .next=>∃σ' H',Inv X pins σ' H' s'/\D.nx σ' H'
 | .brk=>∃σ' H',Inv X pins σ' H' s'/\D.bk σ' H'
 | .cont=>∃σ' H',Inv X pins σ' H' s'/\D.ct σ' H'
 | .ret u=>∃v σ' H',Inv X pins σ' H' s'/\RelV v u/\D.rt v H'
def PE(X:Cx)(e:Expr)(t:TE):Prop :=
 ∀(pins:List (Addr×Obj)) (s:Shared) (σ:St) (H:Hp) (Q:VK),Inv X pins σ H s->t σ H Q->wpAny (model X.prog X.w) X.A (eval e X.env) (EP X pins σ Q) X.xe s
def PT(X:Cx)(e:Expr)(t:TT):Prop :=
 ∀(pins:List (Addr×Obj)) (s:Shared) (σ:St) (H:Hp) (Q:Bool->Hp->Prop),Inv X pins σ H s->t σ H Q->wpAny (model X.prog X.w) X.A (isTrue e X.env (eval e X.env)) (TP X pins σ Q) X.xe s
def PW(X:Cx)(e:Expr)(t:TT):Prop :=
 ∀(whole:Sem Value) (pins:List (Addr×Obj)) (s:Shared) (σ:St) (H:Hp) (Q:Bool->Hp->Prop),Inv X pins σ H s->t σ H Q->wpAny (model X.prog X.w) X.A (isTrue e X.env whole) (TP X pins σ Q) X.xe s
theorem PW.pt{X:Cx}{e:Expr}{t:TT}(h:PW X e t):PT X e t:=h _
def PA(X:Cx)(es:List Expr)(t:TA):Prop :=
 ∀(pos:Pos) (pins:List (Addr×Obj)) (s:Shared) (σ:St) (H:Hp) (Q:List V->Hp->Prop),Inv X pins σ H s->t σ H Q->wpAny (model X.prog X.w) X.A (spliced (backTo pos (starEach es X.env))) (AP X pins σ Q) X.xe s
def PS(X:Cx)(st:Stmt)(t:TS):Prop :=
 ∀(pins:List (Addr×Obj)) (s:Shared) (σ:St) (H:Hp) (D:Ends),Inv X pins σ H s->t D σ H->wpAny (model X.prog X.w) X.A (exec st X.env) (SP X pins D) X.xe s
def PSs(X:Cx)(st:List Stmt)(t:TS):Prop :=
 ∀(pins:List (Addr×Obj)) (s:Shared) (σ:St) (H:Hp) (D:Ends),Inv X pins σ H s->t D σ H->wpAny (model X.prog X.w) X.A (execs st X.env) (SP X pins D) X.xe s
theorem thn{α:Type}{t:Sem α}{Q Q':α->Shared->Prop}{M:Model}{A:Around}{E:Value->Shared->Prop}{s:Shared}(h:wpAny M A t Q E s)(hQ:∀a s,Q a s->Q' a s):wpAny M A t Q' E s:=wpAny_mono h hQ fun _ _ x=>x
section
variable{X:Cx}
def Va(i:Nat):TE:=fun σ H Q=>∃v,σ[i]?=some (some v)/\Q v H
def tC(v:V):TE:=fun _ H Q=>Q v H
theorem Vx{i:Nat}{x:Str}{pos:Pos}(hN:X.N[i]?=some x)(hv:Vis X.env.scope x)(hd:(x == ("__debug__":Str))=false:=by decide)(hcd:(x == ("__classdict__":Str))=false:=by decide):PE X (.Name x pos) (Va i):=by
 intro pins s σ H Q I h;obtain⟨v,e,h⟩:=h;obtain⟨m,hn,hl⟩:=I.loc;obtain⟨u,r,l⟩:=hl i x v hN e hv;have fin:EP X pins σ Q u s:=⟨v,H,I,r,h⟩
 rcases l with⟨hk,hm⟩ | ⟨hk,c,hc,hcell⟩
 ·exact wpAny_Name (wpAny_loadName_local I.ok.kind hk hn hm fin) hd
 ·rcases hk with hk | hk
  ·exact wpAny_Name (wpAny_loadName_cell I.ok.kind hk hc hcell fin) hd
  ·exact wpAny_Name (wpAny_loadName_free I.ok.kind hk hc hcell fin hcd) hd
theorem VC{i j pos}:PE X (.Constant (.int i) j pos) (tC (.int i)):=fun _ _ _ H _ I h=>wpAny_Constant_int ⟨.int i,H,I.tok _,⟨_,rfl⟩,h⟩
theorem Xy{b j pos}:PE X (.Constant (.bool b) j pos) (tC (.bl b)):=fun _ _ _ H _ I h=>Constant_bool ⟨.bl b,H,I,rfl,h⟩
theorem Vy{j pos}:PE X (.Constant .none j pos) (tC .non):=fun _ _ _ H _ I h=>Constant_none ⟨.non,H,I,rfl,h⟩
theorem LJ{x j pos}:PE X (.Constant (.str x) j pos) (tC (.str x)):=fun _ _ _ H _ I h=>Calls.Constant_str ⟨.str x,H,I.tok _,⟨_,rfl⟩,h⟩
def Gl(X:Cx)(x:Str):Prop:=X.env.kindOf x=some .globalImplicit
theorem Ge{E:Value->Shared->Prop}{pins:List (Addr×Obj)}{s:Shared}{σ:St}{H:Hp}{x:Str}{u:Value}{pos:Pos}{Q:Value->Shared->Prop}(I:Inv X pins σ H s)(hg:Gl X x)(hm:X.mg x=some u)(h:Q u s)
  (hd:(x == ("__debug__":Str))=false:=by decide):wpAny (model X.prog X.w) X.A (eval (.Name x pos) X.env) Q E s :=
 Calls.Name_function_global I.ok.kind hg (Calls.loadGlobal_global (by rw [I.ok.glob];exact I.mod.glob.keeps I.bk) hm h) hd
theorem Ho{E:Value->Shared->Prop}{pins:List (Addr×Obj)}{s:Shared}{σ:St}{H:Hp}{x:Str}{u:Value}{pos:Pos}{Q:Value->Shared->Prop}(I:Inv X pins σ H s)(hg:Gl X x)(hm:X.mg x=none)(hv:bootBuiltins x=some u)(h:Q u s)
  (hn:x≠"__name__":=by decide) (hd:(x == ("__debug__":Str))=false:=by decide):wpAny (model X.prog X.w) X.A (eval (.Name x pos) X.env) Q E s:=by
 obtain⟨mb,h1,h2⟩:=I.mod.blt;exact Calls.Name_function_global I.ok.kind hg (Calls.loadGlobal_builtin (by rw [I.ok.glob];exact I.mod.glob.keeps I.bk) hm (by rw [I.ok.blt];exact h1.keeps I.bk) ((h2 x hn).trans hv) h) hd
theorem NR{x:Str}{v:V}{u:Value}{pos:Pos}(hg:Gl X x)(hm:X.mg x=some u)(r:RelV v u)(hd:(x == ("__debug__":Str))=false:=by decide):PE X (.Name x pos) (tC v) :=
 fun _ _ _ H _ I h=>Ge I hg hm ⟨v,H,I,r,h⟩ hd
theorem Tr{x:Str}{v:V}{u:Value}{pos:Pos}(hg:Gl X x)(hm:X.mg x=none)(hv:bootBuiltins x=some u)(r:RelV v u)(hn:x≠"__name__":=by decide)(hd:(x == ("__debug__":Str))=false:=by decide):PE X (.Name x pos) (tC v) :=
 fun _ _ _ H _ I h=>Ho I hg hm hv ⟨v,H,I,r,h⟩ hn hd
variable{a b:Expr}{ta tb:TE}{pos:Pos}
variable{tA tB':TT}{rest:List Expr}
def Yw(t u:TT):TT:=fun σ H Q=>t σ H fun c H1=>if c=true then u σ H1 Q else Q false H1
def tOr(t u:TT):TT:=fun σ H Q=>t σ H fun c H1=>if c=true then Q true H1 else u σ H1 Q
def Yq(t:TT):TT:=fun σ H Q=>t σ H fun c H1=>Q (!c) H1
theorem Te(ha:PT X a tA):PW X (.BoolOp .And [a] pos) tA:=by
 intro wh pins s σ H Q I h;refine isTrue_and (thn (ha pins s σ H Q I h) fun c s1 e=>?_);cases c with
 | true=>exact isTrue_and_nil e
 | false=>exact e
theorem Vp(ha:PT X a tA):PW X (.BoolOp .Or [a] pos) tA:=by
 intro wh pins s σ H Q I h;refine isTrue_or (thn (ha pins s σ H Q I h) fun c s1 e=>?_);cases c with
 | false=>exact isTrue_or_nil e
 | true=>exact e
theorem Vq(ha:PT X a tA)(hb:PW X (.BoolOp .And (b :: rest) pos) tB'):PW X (.BoolOp .And (a :: b :: rest) pos) (Yw tA tB'):=by
 intro wh pins s σ H Q I h;refine isTrue_and (thn (ha pins s σ H _ I h) fun c s1 ⟨H1,I1,q1⟩=>?_);cases c with
 | true=>exact hb wh pins s1 σ H1 Q I1 q1
 | false=>exact⟨H1,I1,q1⟩
theorem Xs(ha:PT X a tA)(hb:PW X (.BoolOp .Or (b :: rest) pos) tB'):PW X (.BoolOp .Or (a :: b :: rest) pos) (tOr tA tB'):=by
 intro wh pins s σ H Q I h;refine isTrue_or (thn (ha pins s σ H _ I h) fun c s1 ⟨H1,I1,q1⟩=>?_);cases c with
 | true=>exact⟨H1,I1,q1⟩
 | false=>exact hb wh pins s1 σ H1 Q I1 q1
theorem Vs(ha:PT X a tA):PT X (.UnaryOp .Not a pos) (Yq tA):=by
 intro pins s σ H Q I h;exact isTrue_not (ha pins s σ H (fun c H1=>Q (!c) H1) I h)
end
def SqL(K:Fg)(H:Hp)(a:Addr)(xs:List V):Prop :=
 Rd H a (.lst xs) ∨
  ∃(o:Obj) (its:Array Value) (n:Nat),K.lookup a=some o/\o.cls=.type "list"/\o.dict=none/\o.data=.seq its n/\its.size<=sizeLine/\Vals xs its.toList
def SqT(K:Fg)(H:Hp)(a:Addr)(xs:List V):Prop :=
 Rd H a (.tup xs) ∨
  ∃(o:Obj) (its:Array Value) (n:Nat),K.lookup a=some o/\o.cls=.type "tuple"/\o.data=.seq its n/\its.size<=sizeLine/\Vals xs its.toList
def YK:Value->Option V
 | .none=>some .non
 | .bool b=>some (.bl b)
 | .int i _=>some (.int i)
 | .str x _=>some (.str x)
 | .bytes b _=>some (.byt b)
 | .float b _=>some (.flt b)
 | .ref a=>some (.ref a)
 | .type n=>some (.ty n)
 | _=>none
theorem RelV.abs{x:V}{u:Value}(r:RelV x u):YK u=some x:=by
 cases x with
 | non=>cases r;rfl
 | bl _=>cases r;rfl
 | int _=>obtain⟨t,rfl⟩:=r;rfl
 | str _=>obtain⟨t,rfl⟩:=r;rfl
 | byt _=>obtain⟨t,rfl⟩:=r;rfl
 | flt _=>obtain⟨t,rfl⟩:=r;rfl
 | ref _=>cases r;rfl
 | ty _=>cases r;rfl
theorem RelV.inj{x y:V}{u:Value}(r:RelV x u)(q:RelV y u):x=y:=Option.some.inj (r.abs.symm.trans q.abs)
theorem Vals.inj:∀{xs ys:List V} {us:List Value},Vals xs us->Vals ys us->xs=ys
 | _,_,_,.nil,.nil=>rfl
 | _,_,_,.cons r t,.cons r' t'=>by rw [r.inj r',Vals.inj t t']
section
variable{X:Cx}{pins:List (Addr×Obj)}{σ:St}{H:Hp}{s:Shared}{a:Addr}{xs ys:List V}
theorem SqL.of{K:Fg}(h:H a=some (.lst xs)):SqL K H a xs:=.inl (.inl h)
theorem SqT.of{K:Fg}(h:H a=some (.tup xs)):SqT K H a xs:=.inl (.inl h)
theorem Inv.list(I:Inv X pins σ H s)(h:SqL X.K H a xs):∃its:List Value,Vals xs its/\PlainL s.heap a its.toArray/\xs.length<=sizeLine:=by
 rcases h with h | ⟨o,its,n,hk,hc,hd,hs,hz,r⟩
 ·obtain⟨z,its,n,r,e⟩:=h.ok I.hok
  exact⟨its,r,⟨_,n,e,rfl,rfl,rfl⟩,z⟩
 ·refine⟨its.toList,r,⟨o,n,I.kIn a o hk,hc,hd,by simpa using hs⟩,?_⟩
  have e:=r.length;simp only [Array.length_toList] at e;omega
theorem Inv.tuple(I:Inv X pins σ H s)(h:SqT X.K H a xs):∃its:List Value,Vals xs its/\IsTup s.heap a its.toArray/\xs.length<=sizeLine:=by
 rcases h with h | ⟨o,its,n,hk,hc,hs,hz,r⟩
 ·obtain⟨z,its,r,p⟩:=h.ok I.hok
  exact⟨its,r,p,z⟩
 ·refine⟨its.toList,r,⟨o,I.kIn a o hk,hc,n,by simpa using hs⟩,?_⟩
  have e:=r.length;simp only [Array.length_toList] at e;omega
theorem Inv.QR(I:Inv X pins σ H s)(h:SqL X.K H a xs)(h':SqL X.K H a ys):xs=ys:=by
 obtain⟨its,r,⟨o,n,e,_,_,d⟩,_⟩:=I.list h;obtain⟨its',r',⟨o',n',e',_,_,d'⟩,_⟩:=I.list h';rw [e] at e';cases e';rw [d] at d';injection d' with d1 _;have:its=its':=by simpa using congrArg Array.toList d1
 subst this;exact r.inj r'
theorem Inv.Np(I:Inv X pins σ H s)(h:SqT X.K H a xs)(h':SqT X.K H a ys):xs=ys:=by
 obtain⟨its,r,⟨o,e,_,n,d⟩,_⟩:=I.tuple h;obtain⟨its',r',⟨o',e',_,n',d'⟩,_⟩:=I.tuple h';rw [e] at e';cases e';rw [d] at d';injection d' with d1 _;have:its=its':=by simpa using congrArg Array.toList d1
 subst this;exact r.inj r'
end
abbrev Cx.GV(X:Cx)(E:Value->Shared->Prop):Cx:={ X with xe:=E }
theorem Cx.Ok.GV{X:Cx}(ok:X.Ok)(E:Value->Shared->Prop):(X.GV E).Ok :=
 ⟨ok.mod,ok.kind,ok.glob,ok.blt,ok.above,ok.inj,ok.has,ok.cab,ok.hd,ok.frames,ok.stk,ok.exf,ok.bs,ok.bsz,ok.noex,ok.exfs,ok.LZ,ok.frf⟩
theorem Cx.Ok.E1{X:Cx}{E:Value->Shared->Prop}(ok:(X.GV E).Ok):X.Ok :=
 ⟨ok.mod,ok.kind,ok.glob,ok.blt,ok.above,ok.inj,ok.has,ok.cab,ok.hd,ok.frames,ok.stk,ok.exf,ok.bs,ok.bsz,ok.noex,ok.exfs,ok.LZ,ok.frf⟩
section
variable{X:Cx}{pins:List (Addr×Obj)}{σ:St}{H:Hp}{s:Shared}{E:Value->Shared->Prop}
theorem Inv.GV(I:Inv X pins σ H s)(E:Value->Shared->Prop):Inv (X.GV E) pins σ H s:=⟨I.ok.GV E,I.os,I.bare,I.base,I.loc,I.cell,I.free,I.freeC,I.pin,I.hok,I.len⟩
theorem Inv.E1(I:Inv (X.GV E) pins σ H s):Inv X pins σ H s:=⟨I.ok.E1,I.os,I.bare,I.base,I.loc,I.cell,I.free,I.freeC,I.pin,I.hok,I.len⟩
theorem SP.E1{D:Ends}{f:Flow}{s':Shared}(h:SP (X.GV E) pins D f s'):SP X pins D f s':=by
 cases f with
 | next=>obtain⟨σ',H',I,q⟩:=h;exact⟨σ',H',I.E1,q⟩
 | brk=>obtain⟨σ',H',I,q⟩:=h;exact⟨σ',H',I.E1,q⟩
 | cont=>obtain⟨σ',H',I,q⟩:=h;exact⟨σ',H',I.E1,q⟩
 | ret u=>obtain⟨v,σ',H',I,r,q⟩:=h;exact⟨v,σ',H',I.E1,r,q⟩
end
section
variable{X:Cx}{st:Stmt}{rest:List Stmt}{t u:TS}{e:Expr}{te:TE}{pos:Pos}
def Xl:TS:=fun D σ H=>D.nx σ H
def X9(t u:TS):TS:=fun D σ H=>t { D with nx:=u D } σ H
theorem NH:PSs X [] Xl:=fun _ _ σ H _ I h=>wpAny_execs_nil ⟨σ,H,I,h⟩
theorem Fx(h1:PS X st t)(h2:PSs X rest u):PSs X (st :: rest) (X9 t u):=by
 intro pins s σ H D I h;refine wpAny_execs_cons (thn (h1 pins s σ H { D with nx:=u D } I h) fun f s1 q=>?_);cases f with
 | next =>
  obtain⟨σ',H',I',q⟩:=q;exact h2 pins s1 σ' H' D I' q
 | ret v=>exact q
 | brk=>exact q
 | cont=>exact q
theorem Tg(h1:PS X st t):PSs X [st] t:=by
 intro pins s σ H D I h;refine wpAny_execs_cons (thn (h1 pins s σ H D I h) fun f s1 q=>?_);cases f with
 | next=>exact wpAny_execs_nil q
 | ret v=>exact q
 | brk=>exact q
 | cont=>exact q
theorem Inv.quiet{pins:List (Addr×Obj)}{σ:St}{H:Hp}{s:Shared}(I:Inv X pins σ H s):interactive X.env=false:=by simp [interactive,I.ok.kind]
def Xm(te:TE):TS:=fun D σ H=>te σ H fun _ H1=>D.nx σ H1
theorem Th(he:PE X e te)(hs:swapsWith e none pos.line X.env=pure false:=by rfl):PS X (.Expr e pos) (Xm te):=by
 intro pins s σ H D I h;exact wpAny_Expr_any (thn (he pins s σ H _ I h) fun v s1 ⟨x,H1,I1,r1,q1⟩=>⟨σ,H1,I1,q1⟩) I.quiet hs
def Yp(te:TE):TS:=fun D σ H=>te σ H D.rt
theorem Vt(he:PE X e te):PS X (.Return (some e) pos) (Yp te):=by
 intro pins s σ H D I h;exact wpAny_Return_some (thn (he pins s σ H _ I h) fun v s1 ⟨x,H1,I1,r1,q1⟩=>⟨x,σ,H1,I1,r1,q1⟩)
def Ys(c:TT)(t u:TS):TS:=fun D σ H=>c σ H fun b H1=>if b=true then t D σ H1 else u D σ H1
theorem Vu{c:Expr}{a b:List Stmt}{tc:TT}(hc:PT X c tc)(ha:PSs X a t)(hb:PSs X b u):PS X (.If c a b pos) (Ys tc t u):=by
 intro pins s σ H D I h;refine wpAny_If (thn (hc pins s σ H _ I h) fun d s1 ⟨H1,I1,q1⟩=>?_);cases d with
 | true=>exact ha pins s1 σ H1 D I1 q1
 | false=>exact hb pins s1 σ H1 D I1 q1
end
abbrev TG:=V->St->Hp->(St->Hp->Prop)->Prop
abbrev TGs:=List V->St->Hp->(St->Hp->Prop)->Prop
def PG(X:Cx)(target:Expr)(t:TG):Prop :=
 ∀(pins:List (Addr×Obj)) (s:Shared) (σ:St) (H:Hp) (v:V) (u:Value) (Q:St->Hp->Prop),Inv X pins σ H s->RelV v u->t v σ H Q ->
  wpAny (model X.prog X.w) X.A (assign target X.env u) (fun _ s'=>∃σ' H',Inv X pins σ' H' s'/\Q σ' H') X.xe s
def PGs(X:Cx)(ts:List Expr)(t:TGs):Prop :=
 ∀(pins:List (Addr×Obj)) (s:Shared) (σ:St) (H:Hp) (vs:List V) (us:List Value) (Q:St->Hp->Prop),Inv X pins σ H s->Vals vs us->t vs σ H Q ->
  wpAny (model X.prog X.w) X.A (assignInOrder ((assignEach ts X.env).map (·.2)) us) (fun _ s'=>∃σ' H',Inv X pins σ' H' s'/\Q σ' H') X.xe s
abbrev RK:=V->V->V->Hp->(Hp->Prop)->Prop
def P8(X:Cx)(t:RK):Prop :=
 ∀(pins:List (Addr×Obj)) (s:Shared) (σ:St) (H:Hp) (o i v:V) (ov iv u:Value) (Q:Hp->Prop),Inv X pins σ H s->RelV o ov->RelV i iv->RelV v u->t o i v H Q ->
  wpAny (model X.prog X.w) X.A (setItem ov iv u) (fun _ s'=>∃H',Inv X pins σ H' s'/\Q H') X.xe s
section
variable{X:Cx}{pos:Pos}
def Ra(i:Nat):TG:=fun v σ H Q=>Q (σ.set i (some v)) H
theorem KN{i:Nat}{x:Str}(hN:X.N.Nodup)(hi:X.N[i]?=some x)(hx:Loc X.env.scope x)(hf:X.fn x=true∨X.env.scope.names.lookup x=some .local:=by first | exact .inl rfl | exact .inr rfl | assumption):PG X (.Name x pos) (Ra i):=by
 intro pins s σ H v u Q I r h;exact wpAny_assign_Name (GL I hN hi hx r (fun s' I'=>⟨_,H,I',h⟩) hf)
def YI:TGs:=fun vs σ H Q=>vs=[]/\Q σ H
def Wi(t:TG)(u:TGs):TGs:=fun vs σ H Q=>∃v r,vs=v :: r/\t v σ H fun σ' H'=>u r σ' H' Q
theorem NP:PGs X [] YI:=by
 intro pins s σ H vs us Q I r h;obtain⟨e,h⟩:=h;subst e;cases r;exact assignInOrder_nil ⟨σ,H,I,h⟩
theorem AW{e:Expr}{es:List Expr}{t:TG}{u:TGs}(h1:PG X e t)(h2:PGs X es u)
  (hs:(assignEach (e :: es) X.env).map (·.2)=assign e X.env :: (assignEach es X.env).map (·.2):=by rfl):PGs X (e :: es) (Wi t u):=by
 intro pins s σ H vs us Q I r h;obtain⟨v,vr,e1,h⟩:=h;subst e1;cases r with
 | cons r rr =>
  rw [hs];refine assignInOrder_cons (thn (h1 pins s σ H _ _ _ I r h) fun _ s1 ⟨σ1,H1,I1,q1⟩=>?_);exact h2 pins s1 σ1 H1 _ _ Q I1 rr q1
def YH(K:Fg)(n:Nat)(t:TGs):TG:=fun v σ H Q=>∃a xs,v=.ref a/\SqT K H a xs/\xs.length=n/\t xs σ H Q
theorem R6{es:List Expr}{k:Nat}{t:TGs}{n:Nat}(hc:X.calm=true)(h:PGs X es t)
  (hn:(assignEach es X.env).length=n:=by rfl) (hst:(assignEach es X.env).findIdx? (·.1)=none:=by rfl):PG X (.Tuple es k pos) (YH X.K n t):=by
 intro pins s σ H v u Q I r hw;obtain⟨a,xs,e1,hq,hl,hw⟩:=hw;subst e1;cases r;obtain⟨its,rv,ht,hz⟩:=I.tuple hq;refine assign_Tuple_tuple (I.ok.hd hc) ht (by simp [hn,<- hl,rv.length]) hst fun h' hx=>?_
 have I1:Inv X pins σ H { s with heap:=h' }:=I.kept (t':=s.toks) fun b o e=>hx b o (Nat.ne_of_lt (Heap.lt_size e)) e
 exact h pins _ σ H xs _ Q I1 (by simpa using rv) hw
def W2(to ti:TE)(t:RK):TG:=fun v σ H Q=>to σ H fun o H1=>ti σ H1 fun i H2=>t o i v H2 fun H3=>Q σ H3
theorem Ih{o i:Expr}{to ti:TE}{t:RK}(ho:PE X o to)(hi:PE X i ti)(hs:P8 X t)
  (ha:∀v,assign (.Subscript o i pos) X.env v=(do
   let ov <- holding [v] (eval o X.env)
   let iv <- holding [v,ov] (eval i X.env)
   standAt pos
   holding [v,ov,iv] (setItem ov iv v)
   release [v,ov,iv] []):=by intro _;rfl):PG X (.Subscript o i pos) (W2 to ti t):=by
 intro pins s σ H v u Q I r h;rw [ha];refine wpAny_bind (wpAny_holding (thn (ho pins s σ H _ I h) fun ov s1 ⟨x,H1,I1,r1,q1⟩=>?_));refine wpAny_bind (wpAny_holding (thn (hi pins s1 σ H1 _ I1 q1) fun iv s2 ⟨y,H2,I2,r2,q2⟩=>?_));refine wpAny_bind (wpAny_standAt (wpAny_bind (wpAny_holding (thn (hs pins s2 σ H2 x y v ov iv u _ I2 r1 r2 r q2) fun _ s3 ⟨H3,I3,q3⟩=>?_))));exact wpAny_release ⟨σ,H3,I3,q3⟩
def UW(te:TE)(g:TG):TS:=fun D σ H=>te σ H fun x H1=>g x σ H1 D.nx
theorem Gx{tg e:Expr}{te:TE}{g:TG}(he:PE X e te)(hg:PG X tg g)(hs:swapsWithSole [tg] e pos.line X.env=pure false:=by rfl)(hw:swappedStores [tg] e X.env=pure none:=by rfl)
  (h1:(assignEach [tg] X.env).map (·.2)=[assign tg X.env]:=by rfl):PS X (.Assign [tg] e pos) (UW te g):=by
 intro pins s σ H D I h;refine wpAny_Assign_stores (thn (he pins s σ H _ I h) fun v s1 ⟨x,H1,I1,r1,q1⟩=>?_) hs hw;rw [h1];exact thn (hg pins s1 σ H1 x v _ I1 r1 q1) fun _ s2 q=>q
theorem R3{i:Nat}{x:Str}{e:Expr}{te:TE}{pos':Pos}(hN:X.N.Nodup)(hi:X.N[i]?=some x)(hx:Loc X.env.scope x)(he:PE X e te)(hs:swapsWith e (some (.Name x pos')) pos.line X.env=pure false:=by rfl)(hf:X.fn x=true∨X.env.scope.names.lookup x=some .local:=by first | exact .inl rfl | exact .inr rfl | assumption) :
  PS X (.Assign [.Name x pos'] e pos) (UW te (Ra i)):=by
 intro pins s σ H D I h;refine wpAny_Assign_Name (thn (he pins s σ H _ I h) fun v s1 ⟨y,H1,I1,r1,q1⟩=>?_) hs;exact GL I1 hN hi hx r1 (fun s2 I2=>⟨_,H1,I2,q1⟩) hf
end
section
variable{X:Cx}{pos:Pos}
end
structure It where
 go:Nat->Hp->Prop
 yld:Nat->Hp->V->Hp->Prop
 stop:Nat->Hp->Prop
def Mr(X:Cx)(pins:List (Addr×Obj))(H:Hp)(b:Addr):Prop :=
 H b=none/\b≠X.env.locals/\b∉X.fs/\(b∈X.ex∨X.s₀.heap.objs.size<=b)/\(∀x c,X.env.cells.lookup x=some c->c≠b)/\∀p∈X.pn++pins,p.1≠b
theorem Inv.U2{X:Cx}{pins:List (Addr×Obj)}{σ:St}{H H':Hp}{s:Shared}{b:Addr}(I:Inv X pins σ H s)(hb:s.heap.objs.size<=b)(hn:H' b=none):Mr X pins H' b:=by
 refine⟨hn,Nat.ne_of_gt (Nat.lt_of_lt_of_le I.lt hb),I.YB hb,.inr (Nat.le_trans I.sz hb),fun x c e z=>?_,fun p hp z=>?_⟩
 ·obtain⟨v,q⟩:=I.cell x c e
  exact absurd (Nat.lt_of_lt_of_le q.lt (by rw [z];exact hb)) (Nat.lt_irrefl _)
 ·exact absurd (Nat.lt_of_lt_of_le (Heap.lt_size (I.pin p hp).1) (by rw [z];exact hb)) (Nat.lt_irrefl _)
structure Turn(P:Program)(w:World)(K:Fg)(tg:Expr)(J:It)(fp:List Addr)(it:Addr)(tn:Nat->Heap->Prop):Prop where
 mem:it∈fp
 obj:∀i h,tn i h->∀b∈fp,∃o,h.get? b=some o/\∀v,o.data≠.cell v
 keep:∀i h h',tn i h->(∀b∈fp,∀o,h.get? b=some o->h'.get? b=some o)->tn i h'
 item:∀(X:Cx),X.prog=P->X.w=w->X.K=K->X.calm=true->∀(i:Nat) (pins:List (Addr×Obj)) (s:Shared) (σ:St) (H:Hp) (E:Value->Shared->Prop),Inv X pins σ H s->(∀b∈fp,Mr X pins H b)->tn i s.heap->J.go i H ->
  wpAny (model P w) X.A (pyNext (.ref it)) (fun r s1=>∃u,r=some u /\
   wpAny (model P w) X.A (letOwnedTupleGo tg (.ref it) u) (fun _ s2=>∃x H',Inv X pins σ H' s2/\RelV x u/\J.yld i H x H'/\tn (i+1) s2.heap/\∀b∈fp,H' b=none) E s1) E s
 done:∀(X:Cx),X.prog=P->X.w=w->X.K=K->X.calm=true->∀(i:Nat) (pins:List (Addr×Obj)) (s:Shared) (σ:St) (H:Hp) (E:Value->Shared->Prop),Inv X pins σ H s->(∀b∈fp,Mr X pins H b)->tn i s.heap->J.stop i H ->
  wpAny (model P w) X.A (pyNext (.ref it)) (fun r s1=>r=none/\Inv X pins σ H s1) E s
 self:∀(A:Around) (i:Nat) (s:Shared) (Q:Value->Shared->Prop) (E:Value->Shared->Prop),tn i s.heap->Q (.ref it) s->wpAny (model P w) A (pyIter (.ref it)) Q E s
abbrev TI:=St->Hp->(It->Hp->Prop)->Prop
def PIE(X:Cx)(pins:List (Addr×Obj))(σ:St)(tg:Expr)(R:It->Hp->Prop)(itv:Value)(s2:Shared):Prop :=
 ∃(it:Addr) (fp:List Addr) (tn:Nat->Heap->Prop) (J:It) (H':Hp),itv=.ref it/\Inv X pins σ H' s2/\Turn X.prog X.w X.K tg J fp it tn/\tn 0 s2.heap/\(∀b∈fp,Mr X pins H' b)/\R J H'
def PI(X:Cx)(tg iter:Expr)(wi:TI):Prop :=
 ∀(pins:List (Addr×Obj)) (s:Shared) (σ:St) (H:Hp) (R:It->Hp->Prop),Inv X pins σ H s->wi σ H R ->
  wpAny (model X.prog X.w) X.A (eval iter X.env) (fun v s1=>wpAny (model X.prog X.w) X.A (pyIter v) (PIE X pins σ tg R) X.xe s1) X.xe s
theorem Q4{M:Model}{A:Around}{E:Value->Shared->Prop}{s:Shared}{tg:Expr}{it:Addr}{u:Value}{o:Obj}{n:String}{vs:Array Value}{Q:Unit->Shared->Prop}(ho:s.heap.get? it=some o)(hc:o.cls=.type n)(hd:o.data=.fields vs)
    (hn:["enumerate","zip","dict_itemiterator","dict_reverseitemiterator","odict_iterator","itertools.zip_longest","itertools.pairwise"].contains n=false) (hQ:Q () s):wpAny M A (letOwnedTupleGo tg (.ref it) u) Q E s:=by
  unfold letOwnedTupleGo;cases tg <;> first
    | exact wpAny_pure hQ
    | (cases u <;> first
        | exact wpAny_pure hQ
        | (refine wpAny_bind (wpAny_load ho ?_)
           rw [hc,hd];show wpAny M A (if(["enumerate","zip","dict_itemiterator","dict_reverseitemiterator","odict_iterator","itertools.zip_longest","itertools.pairwise"].contains n && vs[0]? == some (rawInt _))=true then _ else _) Q E s;rw [if_neg (by intro h;rw [hn,Bool.false_and] at h;cases h)];exact wpAny_pure hQ))
def Itl(K:Fg)(a:Addr):It :=
 ⟨fun i H=>∃xs x,SqL K H a xs/\xs[i]?=some x,fun i H x H'=>H'=H/\∀xs,SqL K H a xs->xs[i]?=some x,fun i H=>∃xs,SqL K H a xs/\xs.length<=i⟩
def Itt(K:Fg)(a:Addr):It :=
 ⟨fun i H=>∃xs x,SqT K H a xs/\xs[i]?=some x,fun i H x H'=>H'=H/\∀xs,SqT K H a xs->xs[i]?=some x,fun i H=>∃xs,SqT K H a xs/\xs.length<=i⟩
def Itr(lo:Int)(n:Nat):It:=⟨fun i _=>i < n,fun i H x H'=>H'=H/\x=.int (lo+i),fun i _=>n<=i⟩
theorem Nn{P:Program}{w:World}{K:Fg}{tg:Expr}(a it:Addr):Turn P w K tg (Itl K a) [it] it (fun i h=>h.IsListIter it a i) where
 mem:=by simp
 obj:=fun i h st b hb=>by
  have e:b=it:=by simpa using hb
  subst e;obtain⟨o,e,c,d⟩:=st;exact⟨o,e,fun v z=>by rw [d] at z;cases z⟩
 keep:=fun i h h' st k=>st.at fun o e=>k it (by simp) o e
 item:=by
  intro X hP hw hK hc i pins s σ H E I hf st hg;subst hP hw hK;obtain⟨xs,x,hq,hx⟩:=hg;obtain⟨its,rv,p,hz⟩:=I.list hq;obtain⟨u,hu,ru⟩:=rv.get hx;obtain⟨f0,f1,f2,f3,f4,f5⟩:=hf it (by simp);refine wpAny_pyNext_list_item st p.isList (x:=u) (by simpa using hu) fun h' st' sb=>?_
  have I1:Inv X pins σ H { s with heap:=h' }:=I.turned (t':=s.toks) (fun b o hb e=>(sb.2 b hb).trans e) f0 f1 f3 f4 f5;obtain⟨o,e,c,d⟩:=id st';exact⟨u,rfl,Q4 (s:={ s with heap:=h' }) e c d (by decide) ⟨x,H,I1,ru,⟨rfl,fun ys hy=>by rw [I.QR hy hq];exact hx⟩,st',fun b hb=>(hf b hb).1⟩⟩
 done:=by
  intro X hP hw hK hc i pins s σ H E I hf st hg;subst hP hw hK;obtain⟨xs,hq,hx⟩:=hg;obtain⟨its,rv,p,hz⟩:=I.list hq;obtain⟨f0,f1,f2,f3,f4,f5⟩:=hf it (by simp);have hl:=rv.length;exact wpAny_pyNext_list_end (I.ok.hd hc) st p.isList (by simp;omega) fun h' eb=>⟨rfl,I.turned (t':=s.toks) (fun b o hb e=>eb b o hb e) f0 f1 f3 f4 f5⟩
 self:=fun _ _ _ _ _ st h=>wpAny_pyIter_listiter st h
theorem Mw{P:Program}{w:World}{K:Fg}{tg:Expr}(a it:Addr):Turn P w K tg (Itt K a) [it] it (fun i h=>h.IsTupleIter it a i) where
 mem:=by simp
 obj:=fun i h st b hb=>by
  have e:b=it:=by simpa using hb
  subst e;obtain⟨o,e,c,d⟩:=st;exact⟨o,e,fun v z=>by rw [d] at z;cases z⟩
 keep:=fun i h h' st k=>st.at fun o e=>k it (by simp) o e
 item:=by
  intro X hP hw hK hc i pins s σ H E I hf st hg;subst hP hw hK;obtain⟨xs,x,hq,hx⟩:=hg;obtain⟨its,rv,p,hz⟩:=I.tuple hq;obtain⟨u,hu,ru⟩:=rv.get hx;obtain⟨f0,f1,f2,f3,f4,f5⟩:=hf it (by simp);refine wpAny_pyNext_tuple_item st (show s.heap.IsTuple a its.toArray from p) (x:=u) (by simpa using hu) fun h' st' sb=>?_
  have I1:Inv X pins σ H { s with heap:=h' }:=I.turned (t':=s.toks) (fun b o hb e=>(sb.2 b hb).trans e) f0 f1 f3 f4 f5;obtain⟨o,e,c,d⟩:=id st';exact⟨u,rfl,Q4 (s:={ s with heap:=h' }) e c d (by decide) ⟨x,H,I1,ru,⟨rfl,fun ys hy=>by rw [I.Np hy hq];exact hx⟩,st',fun b hb=>(hf b hb).1⟩⟩
 done:=by
  intro X hP hw hK hc i pins s σ H E I hf st hg;subst hP hw hK;obtain⟨xs,hq,hx⟩:=hg;obtain⟨its,rv,p,hz⟩:=I.tuple hq;obtain⟨f0,f1,f2,f3,f4,f5⟩:=hf it (by simp);have hl:=rv.length;exact wpAny_pyNext_tuple_end (I.ok.hd hc) st (show s.heap.IsTuple a its.toArray from p) (by simp;omega) fun h' eb=>⟨rfl,I.turned (t':=s.toks) (fun b o hb e=>eb b o hb e) f0 f1 f3 f4 f5⟩
 self:=fun _ _ _ _ _ st h=>wpAny_pyIter_tupleiter st h
theorem Mx{P:Program}{w:World}{K:Fg}{tg:Expr}(it:Addr)(lo:Int)(n:Nat):Turn P w K tg (Itr lo n) [it] it (fun i h=>IsRangeIter h it (lo+(i:Nat) * 1) ((n:Int) - (i:Nat)) 1) where
 mem:=by simp
 obj:=fun i h st b hb=>by
  have e:b=it:=by simpa using hb
  subst e;exact⟨_,st,fun v z=>by
   have z':Data.fields _=Data.cell v:=z;cases z'⟩
 keep:=fun i h h' st k=>k it (by simp) _ st
 item:=by
  intro X hP hw hK hc i pins s σ H E I hf st hg;subst hP hw hK;obtain⟨f0,f1,f2,f3,f4,f5⟩:=hf it (by simp);have W:=Walks.range (prog:=X.prog) (w:=X.w) (I.ok.hd hc) it lo 1 n;refine W.item i s _ _ hg st fun v h' tk hv st' kk=>?_
  obtain⟨t,rfl⟩:=hv;have I1:Inv X pins σ H { s with heap:=h',toks:=tk }:=I.turned (fun b o hb e=>kk b o (by simpa using hb) e) f0 f1 f3 f4 f5;refine⟨_,rfl,Q4 (s:={ s with heap:=h',toks:=tk }) (n:="range_iterator") st' rfl rfl (by decide) ⟨.int (lo+i),H,I1,⟨t,?_⟩,⟨rfl,rfl⟩,st',fun b hb=>(hf b hb).1⟩⟩;rw [Int.mul_one]
 done:=by
  intro X hP hw hK hc i pins s σ H E I hf st hg;subst hP hw hK;obtain⟨f0,f1,f2,f3,f4,f5⟩:=hf it (by simp);exact wpAny_pyNext_range_end (I.ok.hd hc) st (by have:n<=i:=hg;omega) fun h' eb=>⟨rfl,I.turned (t':=s.toks) (fun b o hb e=>eb b o hb e) f0 f1 f3 f4 f5⟩
 self:=fun _ _ _ _ _ st h=>wpAny_pyIter_rangeiter st h
section
variable{X:Cx}{tg:Expr}
theorem Qo{pins:List (Addr×Obj)}{σ:St}{H:Hp}{s:Shared}{R:It->Hp->Prop}{E:Value->Shared->Prop}{lo hi:Int}{t u v:Tok}{tk:Nat}(I:Inv X pins σ H s)(h1:-(2 ^ 62)<=lo)(h2:lo < 2 ^ 62)(h3:-(2 ^ 62)<=hi)(h4:hi < 2 ^ 62)
  (q:R (Itr lo (hi - lo).toNat) H):wpAny (model X.prog X.w) X.A (pyIter (.ref s.heap.objs.size)) (PIE X pins σ tg R) E { s with heap:=s.heap.push { cls:=.type "range",data:=.fields #[.int lo t,.int hi u,.int 1 v] },toks:=tk }:=by
 refine wpAny_pyIter_range (IsRange.new ..) (small_one h1 h2 h3 h4) ?_;have I1:Inv X pins σ H { s with heap:=s.heap.push { cls:=.type "range",data:=.fields #[.int lo t,.int hi u,.int 1 v] },toks:=tk }:=I.kept fun b o e=>Heap.get?_push_of_some _ e
 refine⟨(s.heap.push { cls:=.type "range",data:=.fields #[.int lo t,.int hi u,.int 1 v] }).objs.size,[(s.heap.push { cls:=.type "range",data:=.fields #[.int lo t,.int hi u,.int 1 v] }).objs.size],_,_,H,rfl,
  I1.kept (t':=tk) fun b o e=>Heap.get?_push_of_some _ e,Mx _ lo (hi - lo).toNat,?_,fun b hb=>?_,q⟩
 ·have e1:lo+((0:Nat):Int) * 1=lo:=by simp
  have e2:(((hi - lo).toNat:Nat):Int) - ((0:Nat):Int)=Builtin.Range.rangeSize lo hi 1:=by rw [rangeSize_one];split <;> omega
  show IsRangeIter _ _ (lo+((0:Nat):Int) * 1) ((((hi - lo).toNat:Nat):Int) - ((0:Nat):Int)) 1;rw [e1,e2];exact Heap.get?_push_size _ rfl
 ·have e:b=(s.heap.push { cls:=.type "range",data:=.fields #[.int lo t,.int hi u,.int 1 v] }).objs.size:=by simpa using hb
  subst e;exact I1.U2 (Nat.le_refl _) (I1.hok.fresh (Nat.le_refl _))
def XQ(ta:TA):TI:=fun σ H R=>ta σ H fun vs H1=>∃j:Int,vs=[.int j]/\-(2 ^ 62)<=j/\j < 2 ^ 62/\R (Itr 0 j.toNat) H1
theorem NN{a:Expr}{ta:TA}{p pos:Pos}(hg:Gl X "range")(hm:X.mg "range"=none)(ha:PA X [a] ta)(hs:starEach [a] X.env=[(false,eval a X.env)]:=by rfl):PI X tg (.Call (.Name "range" p) [a] [] pos) (XQ ta):=by
 intro pins s σ H R I h;refine Call_ (Ho I hg hm boot_range (PyProof.Rows.callWith_type1 (thn (ha pos pins s σ H _ I h) fun us s1 ⟨vs,H1,I1,r1,q1⟩=>?_) hs rfl));obtain⟨j,e,q1,q2,q⟩:=q1;subst e;cases r1 with
 | cons r rr =>
  cases rr;obtain⟨t,rfl⟩:=r;exact call_range_1 (Qo I1 (by omega) (by omega) q1 q2 (by simpa using q))
def Yu(wi:TI)(g:TG)(tb:TS):TS:=fun D σ H=>wi σ H fun J H1=>∃W:Nat->Nat->St->Hp->Prop,(∃m,W 0 m σ H1)/\∀i m σ H,W i m σ H ->
 (J.stop i H/\D.nx σ H)∨(J.go i H/\∃N:St->Hp->Prop,(∀σ' H',N σ' H'->∃m',m' < m/\W (i+1) m' σ' H')/\∀x H',J.yld i H x H'->g x σ H' fun σ2 H2=>tb { D with nx:=N,ct:=N,bk:=D.nx } σ2 H2)
def JQ(fp:List Addr)(h:Heap):List (Addr×Obj):=fp.filterMap fun b=>(h.get? b).map fun o=>(b,o)
theorem EK{fp:List Addr}{h:Heap}{b:Addr}{o:Obj}(hb:b∈fp)(e:h.get? b=some o):(b,o)∈JQ fp h:=List.mem_filterMap.mpr ⟨b,hb,by rw [e];rfl⟩
theorem N3{fp:List Addr}{h:Heap}{p:Addr×Obj}(hp:p∈JQ fp h):p.1∈fp/\h.get? p.1=some p.2:=by
 obtain⟨b,hb,e⟩:=List.mem_filterMap.mp hp;cases q:h.get? b with
 | none=>rw [q] at e;cases e
 | some o =>
  rw [q] at e;have e':(b,o)=p:=Option.some.inj e;subst e';exact⟨hb,q⟩
theorem Inv.pinned{pins:List (Addr×Obj)}{σ:St}{H:Hp}{s:Shared}{fp:List Addr}(I:Inv X pins σ H s)(hf:∀b∈fp,Mr X pins H b)(ho:∀b∈fp,∃o,s.heap.get? b=some o/\∀v,o.data≠.cell v):Inv X (pins++JQ fp s.heap) σ H s :=
 I.IU fun p hp=>(List.mem_append.mp hp).elim (fun z=>I.pin p (List.mem_append_right _ z)) fun z=>by
  obtain⟨hb,e⟩:=N3 z;obtain⟨f0,f1,f2,_⟩:=hf p.1 hb;obtain⟨o,e',d⟩:=ho p.1 hb;rw [e] at e';cases e';exact⟨e,f0,f1,f2,d⟩
theorem Inv.GJ{pins pl:List (Addr×Obj)}{σ:St}{H:Hp}{s:Shared}(I:Inv X (pins++pl) σ H s):Inv X pins σ H s:=I.IU fun p hp=>I.pin p (List.mem_append_right _ (List.mem_append_left _ hp))
theorem Vv{iter:Expr}{body:List Stmt}{wi:TI}{g:TG}{tb:TS}{pos:Pos}(hp:PassesOwn (model X.prog X.w) X.A X.env X.xe)(hc:X.calm=true)(hi:PI X tg iter wi)(hg:PG X tg g)(hb:PSs X body tb)
  (hs:∀x,foldedSetIterable iter X.env x=pure x:=by intro _;rfl):PS X (.For tg iter body [] pos) (Yu wi g tb):=by
 intro pins s σ H D I h;refine wpAny_For (thn (hi pins s σ H _ I h) fun v s1 h1=>thn h1 fun itv s2 h2=>?_) hs;obtain⟨it,fp,tn,J,H2,e,I2,T,st2,f2,W,⟨m0,w0⟩,turn⟩:=h2;subst e;have stat:∀{H':Hp},(∀b∈fp,H' b=none)->∀b∈fp,Mr X pins H' b:=fun hn b hb=>⟨hn b hb,(f2 b hb).2⟩
 refine codeAny_forLoop_any (fun n s'=>∃i σ' H',Inv X pins σ' H' s'/\tn i s'.heap/\(∀b∈fp,H' b=none)/\W i n σ' H') ?_ m0 ⟨0,σ,H2,I2,st2,fun b hb=>(f2 b hb).1,w0⟩
 rintro n s3 ⟨i,σ3,H3,I3,st3,fr3,w3⟩
 rcases turn i n σ3 H3 w3 with⟨stop,qn⟩ | ⟨go,N,hN,step⟩
 ·refine wpAny_passesOwn hp (thn (T.done X rfl rfl rfl hc i pins s3 σ3 H3 X.xe I3 (stat fr3) st3 stop) fun r s4 ⟨hr,I4⟩=>?_)
  subst hr;exact wpAny_execs_nil ⟨σ3,H3,I4,qn⟩
 ·refine wpAny_passesOwn hp (thn (T.item X rfl rfl rfl hc i pins s3 σ3 H3 X.xe I3 (stat fr3) st3 go) fun r s4 ⟨u,hr,h4⟩=>?_)
  subst hr;refine wpAny_passesOwn hp (thn h4 fun _ s5 ⟨x,H5,I5,r5,y5,st5,fr5⟩=>?_);have I5':=I5.pinned (stat fr5) (T.obj _ _ st5);refine wpAny_passesOwn hp (thn (hg _ s5 σ3 H5 x u _ I5' r5 (step x H5 y5)) fun _ s6 ⟨σ6,H6,I6,q6⟩=>?_);refine wpAny_passesOwn hp (thn (hb _ s6 σ6 H6 _ I6 q6) fun f s7 q7=>?_);have again:∀{σ7:St} {H7:Hp},Inv X (pins++JQ fp s5.heap) σ7 H7 s7->N σ7 H7->∃m,m < n/\∃i σ' H',Inv X pins σ' H' s7/\tn i s7.heap/\(∀b∈fp,H' b=none)/\W i m σ' H':=fun {σ7 H7} I7 n7=>by
   obtain⟨m',hm,w7⟩:=hN σ7 H7 n7;refine⟨m',hm,i+1,σ7,H7,I7.GJ,T.keep _ _ _ st5 fun b hb o e=>(I7.pin (b,o) (List.mem_append_right _ (List.mem_append_right _ (EK hb e)))).1,fun b hb=>?_,w7⟩;obtain⟨o,e,d⟩:=T.obj _ _ st5 b hb;exact(I7.pin (b,o) (List.mem_append_right _ (List.mem_append_right _ (EK hb e)))).2.1
  cases f with
  | next=>obtain⟨σ7,H7,I7,n7⟩:=q7;exact again I7 n7
  | cont=>obtain⟨σ7,H7,I7,n7⟩:=q7;exact again I7 n7
  | brk=>obtain⟨σ7,H7,I7,q7⟩:=q7;exact⟨σ7,H7,I7.GJ,q7⟩
  | ret v=>obtain⟨x7,σ7,H7,I7,r7,q7⟩:=q7;exact⟨x7,σ7,H7,I7.GJ,r7,q7⟩
end
abbrev R2:=V->V->Hp->VK->Prop
def OpR(X:Cx)(f:Value->Value->Sem Value)(r:R2):Prop :=
 ∀(pins:List (Addr×Obj)) (s:Shared) (σ:St) (H:Hp) (x y:V) (v u:Value) (Q:VK),Inv X pins σ H s->RelV x v->RelV y u->r x y H Q ->
  wpAny (model X.prog X.w) X.A (f v u) (EP X pins σ Q) X.xe s
def UnR(X:Cx)(f:Value->Sem Value)(r:V->Hp->VK->Prop):Prop :=
 ∀(pins:List (Addr×Obj)) (s:Shared) (σ:St) (H:Hp) (x:V) (v:Value) (Q:VK),Inv X pins σ H s->RelV x v->r x H Q ->
  wpAny (model X.prog X.w) X.A (f v) (EP X pins σ Q) X.xe s
def DJ(X:Cx)(f:Value)(r:List V->Hp->VK->Prop):Prop :=
 ∀(pins:List (Addr×Obj)) (s:Shared) (σ:St) (H:Hp) (xs:List V) (us:List Value) (Q:VK),Inv X pins σ H s->Vals xs us->r xs H Q ->
  wpAny (model X.prog X.w) X.A (call f us) (EP X pins σ Q) X.xe s
def YN(X:Cx)(r:V->Hp->(Bool->Hp->Prop)->Prop):Prop :=
 ∀(pins:List (Addr×Obj)) (s:Shared) (σ:St) (H:Hp) (x:V) (v:Value) (Q:Bool->Hp->Prop),Inv X pins σ H s->RelV x v->r x H Q ->
  wpAny (model X.prog X.w) X.A (truthy v) (TP X pins σ Q) X.xe s
def tOp(r:R2)(ta tb:TE):TE:=fun σ H Q=>ta σ H fun x H1=>tb σ H1 fun y H2=>r x y H2 Q
def tUn(r:V->Hp->VK->Prop)(ta:TE):TE:=fun σ H Q=>ta σ H fun x H1=>r x H1 Q
def rI(C:Int->Int->Prop)(g:Int->Int->V):R2:=fun x y H Q=>∃i j,x=.int i/\y=.int j/\C i j/\Q (g i j) H
def rI0(g:Int->Int->V):R2:=fun x y H Q=>∃i j,x=.int i/\y=.int j/\Q (g i j) H
def rU(g:Int->V):V->Hp->VK->Prop:=fun x H Q=>∃i,x=.int i/\Q (g i) H
section
variable{X:Cx}{a b c:Expr}{ta tb tc:TE}{pos:Pos}
theorem X5(ha:PE X a ta)(hb:PE X b tb){pins:List (Addr×Obj)}{s:Shared}{σ:St}{H:Hp}{R:V->V->Hp->Prop}(I:Inv X pins σ H s)
  (h:ta σ H fun x H1=>tb σ H1 fun y H2=>R x y H2) {Q:Value->Shared->Prop} {f:Value->Value->Sem Value}
  (hf:∀v u s2 x y H2,Inv X pins σ H2 s2->RelV x v->RelV y u->R x y H2->wpAny (model X.prog X.w) X.A (f v u) Q X.xe s2) :
  wpAny (model X.prog X.w) X.A (eval a X.env) (fun v s₁=>wpAny (model X.prog X.w) X.A (eval b X.env) (fun u s₂=>wpAny (model X.prog X.w) X.A (f v u) Q X.xe s₂) X.xe s₁) X.xe s:=by
 refine thn (ha pins s σ H _ I h) fun v s1 ⟨x,H1,I1,r1,q1⟩=>?_
 refine thn (hb pins s1 σ H1 _ I1 q1) fun u s2 ⟨y,H2,I2,r2,q2⟩=>?_
 exact hf v u s2 x y H2 I2 r1 r2 q2
theorem Xu{op:Operator}{r:R2}(ho:OpR X (binaryOp op) r)(ha:PE X a ta)(hb:PE X b tb):PE X (.BinOp a op b pos) (tOp r ta tb):=by
 intro pins s σ H Q I h;exact wpAny_BinOp (X5 ha hb I h fun v u s2 x y H2 I2 rx ry q=>ho pins s2 σ H2 x y v u Q I2 rx ry q)
theorem Xt{op:UnaryOp}{r:V->Hp->VK->Prop}(ho:UnR X (unaryOp op) r)(ha:PE X a ta):PE X (.UnaryOp op a pos) (tUn r ta):=by
 intro pins s σ H Q I h;exact UnaryOp_ (thn (ha pins s σ H _ I h) fun v s1 ⟨x,H1,I1,r1,q1⟩=>ho pins s1 σ H1 x v Q I1 r1 q1)
theorem opI{f:Value->Value->Sem Value}{C:Int->Int->Prop}{g:Int->Int->Int}
  (rule:∀(i j:Int) (t u:Tok) (s:Shared) (Q:Value->Shared->Prop) (E:Value->Shared->Prop),C i j->Q (.int (g i j) s.toks) { s with toks:=s.toks+1 }->wpAny (model X.prog X.w) X.A (f (.int i t) (.int j u)) Q E s) :
  OpR X f (rI C fun i j=>.int (g i j)):=by
 intro pins s σ H x y v u Q I rx ry h;obtain⟨i,j,rfl,rfl,hc,q⟩:=h;obtain⟨t,rfl⟩:=rx;obtain⟨t',rfl⟩:=ry;exact rule i j t t' s _ _ hc ⟨.int (g i j),H,I.tok _,⟨_,rfl⟩,q⟩
theorem Yh{f:Value->Value->Sem Value}{g:Int->Int->Int}
  (rule:∀(i j:Int) (t u:Tok) (s:Shared) (Q:Value->Shared->Prop) (E:Value->Shared->Prop),Q (.int (g i j) s.toks) { s with toks:=s.toks+1 }->wpAny (model X.prog X.w) X.A (f (.int i t) (.int j u)) Q E s) :
  OpR X f (rI0 fun i j=>.int (g i j)):=by
 intro pins s σ H x y v u Q I rx ry h;obtain⟨i,j,rfl,rfl,q⟩:=h;obtain⟨t,rfl⟩:=rx;obtain⟨t',rfl⟩:=ry;exact rule i j t t' s _ _ ⟨.int (g i j),H,I.tok _,⟨_,rfl⟩,q⟩
theorem XD{f:Value->Value->Sem Value}{g:Int->Int->Bool}
  (rule:∀(i j:Int) (t u:Tok) (s:Shared) (Q:Value->Shared->Prop) (E:Value->Shared->Prop),Q (.bool (g i j)) s->wpAny (model X.prog X.w) X.A (f (.int i t) (.int j u)) Q E s) :
  OpR X f (rI0 fun i j=>.bl (g i j)):=by
 intro pins s σ H x y v u Q I rx ry h;obtain⟨i,j,rfl,rfl,q⟩:=h;obtain⟨t,rfl⟩:=rx;obtain⟨t',rfl⟩:=ry;exact rule i j t t' s _ _ ⟨.bl (g i j),H,I,rfl,q⟩
def Ym(i j:Int):Prop:=0 < j/\j < 1073741824
def Yl(i j:Int):Prop:=0<=j/\j<=1000000/\i.natAbs < 2 ^ 64
def Xd(i j:Int):Prop:=(-(2 ^ 64) < i/\i < 2 ^ 64)∨(-(2 ^ 64) < j/\j < 2 ^ 64)
theorem Xd.ok{i j:Int}(h:Xd i j):IntMulOk i j:=by
 rcases h with⟨h1,h2⟩ | ⟨h1,h2⟩
 ·exact .of_left (intBits_le_64 h1 h2)
 ·exact .of_right (intBits_le_64 h1 h2)
theorem VO:OpR X (binaryOp .Add) (rI0 fun i j=>.int (i+j)):=Yh fun _ _ _ _ _ _ _ q=>add_int q
theorem VH:OpR X (binaryOp .Sub) (rI0 fun i j=>.int (i - j)):=Yh fun _ _ _ _ _ _ _ q=>sub_int q
theorem Tv:OpR X (binaryOp .FloorDiv) (rI Ym fun i j=>.int (i / j)):=opI fun i j _ _ _ _ _ hc q=>by
 have h1:(0:Int) < j:=hc.1;have h2:j < 1073741824:=hc.2;exact floordiv_int (by omega) (by rw [Int.fdiv_eq_ediv_of_nonneg i (by omega)];exact q) (.inl (PyProof.noPylong_small (by omega)))
theorem VJ:OpR X (binaryOp .Mod) (rI (fun _ j=>0 < j) fun i j=>.int (i % j)):=opI fun i j _ _ _ _ _ hc q=>by
 have h1:(0:Int) < j:=hc;exact mod_int' (by omega) (by rw [Int.fmod_eq_emod_of_nonneg i (by omega)];exact q)
theorem VI:OpR X (binaryOp .Pow) (rI Yl fun i j=>.int (i ^ j.toNat)):=opI fun _ _ _ _ _ _ _ hc q=>pow_int_small hc.1 hc.2.1 hc.2.2 q
theorem unI{f:Value->Sem Value}{g:Int->Int}
  (rule:∀(i:Int) (t:Tok) (s:Shared) (Q:Value->Shared->Prop) (E:Value->Shared->Prop),Q (.int (g i) s.toks) { s with toks:=s.toks+1 }->wpAny (model X.prog X.w) X.A (f (.int i t)) Q E s) :
  UnR X f (rU fun i=>.int (g i)):=by
 intro pins s σ H x v Q I rx h;obtain⟨i,rfl,q⟩:=h;obtain⟨t,rfl⟩:=rx;exact rule i t s _ _ ⟨.int (g i),H,I.tok _,⟨_,rfl⟩,q⟩
theorem U7:UnR X (unaryOp .USub) (rU fun i=>.int (-i)):=unI fun _ _ _ _ _ q=>neg_int q
end
def MC:V->V->Bool
 | .non,.non=>true | .non,.int _=>true | .int _,.non=>true | .non,.bl _=>true | .bl _,.non=>true | .non,.str _=>true | .str _,.non=>true
 | .int _,.int _=>true | .bl _,.bl _=>true | .str _,.str _=>true | .byt _,.byt _=>true
 | .int _,.str _=>true | .str _,.int _=>true | .bl _,.str _=>true | .str _,.bl _=>true
 | _,_=>false
def rEq:R2:=fun x y H Q=>MC x y=true/\Q (.bl (decide (x=y))) H
def rNe:R2:=fun x y H Q=>MC x y=true/\Q (.bl (!decide (x=y))) H
theorem Po{i j:Int}:decide (V.int i=V.int j)=(i == j):=by
 rw [Bool.eq_iff_iff];simp
theorem SG{i j:Bool}:decide (V.bl i=V.bl j)=(i == j):=by
 rw [Bool.eq_iff_iff];simp
theorem Pn{i j:Str}:decide (V.str i=V.str j)=(i == j):=by
 rw [Bool.eq_iff_iff];simp
theorem Pq{i j:Array UInt8}:decide (V.byt i=V.byt j)=(i.toList == j.toList):=by
 rw [Bool.eq_iff_iff];cases i;cases j;simp
section
variable{X:Cx}{a b c:Expr}{ta tb tc:TE}{pos:Pos}
theorem Bx{pins:List (Addr×Obj)}{σ:St}{H:Hp}{s:Shared}{Q:VK}{k k':Bool}(I:Inv X pins σ H s)(q:Q (.bl k) H)(e:k=k'):EP X pins σ Q (.bool k') s:=by
 subst e;exact⟨.bl k,H,I,rfl,q⟩
theorem VM:OpR X (compareOp .Eq) rEq:=by
 intro pins s σ H x y v u Q I rx ry h;obtain⟨hs,q⟩:=h;cases x with
 | non =>
  cases rx;cases y with
  | non=>cases ry;exact PySem.EqNone.eq_none_none (Bx I q (by simp))
  | bl j=>cases ry;exact PySem.EqNone.eq_none_bool (Bx I q (by simp))
  | int j=>obtain⟨t',rfl⟩:=ry;exact PySem.EqNone.eq_none_int (Bx I q (by simp))
  | str j=>obtain⟨t',rfl⟩:=ry;exact PySem.EqNone.eq_none_str (Bx I q (by simp))
  | _=>exact absurd (show false=true from hs) Bool.false_ne_true
 | bl i =>
  cases rx;cases y with
  | non=>cases ry;exact PySem.EqNone.eq_bool_none (Bx I q (by simp))
  | bl j=>cases ry;exact eq_bool (Bx I q SG)
  | str j=>obtain⟨t',rfl⟩:=ry;exact PySem.EqMixed.eq_bool_str (Bx I q (by simp))
  | _=>exact absurd (show false=true from hs) Bool.false_ne_true
 | int i =>
  obtain⟨t,rfl⟩:=rx;cases y with
  | non=>cases ry;exact PySem.EqNone.eq_int_none (Bx I q (by simp))
  | int j=>obtain⟨t',rfl⟩:=ry;exact eq_int (Bx I q Po)
  | str j=>obtain⟨t',rfl⟩:=ry;exact PySem.EqMixed.eq_int_str (Bx I q (by simp))
  | _=>exact absurd (show false=true from hs) Bool.false_ne_true
 | str i =>
  obtain⟨t,rfl⟩:=rx;cases y with
  | non=>cases ry;exact PySem.EqNone.eq_str_none (Bx I q (by simp))
  | bl j=>cases ry;exact PySem.EqMixed.eq_str_bool (Bx I q (by simp))
  | int j=>obtain⟨t',rfl⟩:=ry;exact PySem.EqMixed.eq_str_int (Bx I q (by simp))
  | str j=>obtain⟨t',rfl⟩:=ry;exact eq_str (Bx I q Pn)
  | _=>exact absurd (show false=true from hs) Bool.false_ne_true
 | byt i =>
  obtain⟨t,rfl⟩:=rx;cases y with
  | byt j=>obtain⟨t',rfl⟩:=ry;exact PySem.W.eq_bytes (Bx I q Pq)
  | _=>exact absurd (show false=true from hs) Bool.false_ne_true
 | _=>cases y <;> exact absurd (show false=true from hs) Bool.false_ne_true
theorem XA:OpR X (compareOp .NotEq) rNe:=by
 intro pins s σ H x y v u Q I rx ry h;obtain⟨hs,q⟩:=h;cases x with
 | non =>
  cases rx;cases y with
  | non=>cases ry;exact PySem.EqNone.ne_none_none (Bx I q (by simp))
  | bl j=>cases ry;exact PySem.EqNone.ne_none_bool (Bx I q (by simp))
  | int j=>obtain⟨t',rfl⟩:=ry;exact PySem.EqNone.ne_none_int (Bx I q (by simp))
  | str j=>obtain⟨t',rfl⟩:=ry;exact PySem.EqNone.ne_none_str (Bx I q (by simp))
  | _=>exact absurd (show false=true from hs) Bool.false_ne_true
 | bl i =>
  cases rx;cases y with
  | non=>cases ry;exact PySem.EqNone.ne_bool_none (Bx I q (by simp))
  | bl j=>cases ry;exact ne_bool (Bx I q (congrArg not SG))
  | str j=>obtain⟨t',rfl⟩:=ry;exact PySem.EqMixed.ne_bool_str (Bx I q (by simp))
  | _=>exact absurd (show false=true from hs) Bool.false_ne_true
 | int i =>
  obtain⟨t,rfl⟩:=rx;cases y with
  | non=>cases ry;exact PySem.EqNone.ne_int_none (Bx I q (by simp))
  | int j=>obtain⟨t',rfl⟩:=ry;exact ne_int (Bx I q (congrArg not Po))
  | str j=>obtain⟨t',rfl⟩:=ry;exact PySem.EqMixed.ne_int_str (Bx I q (by simp))
  | _=>exact absurd (show false=true from hs) Bool.false_ne_true
 | str i =>
  obtain⟨t,rfl⟩:=rx;cases y with
  | non=>cases ry;exact PySem.EqNone.ne_str_none (Bx I q (by simp))
  | bl j=>cases ry;exact PySem.EqMixed.ne_str_bool (Bx I q (by simp))
  | int j=>obtain⟨t',rfl⟩:=ry;exact PySem.EqMixed.ne_str_int (Bx I q (by simp))
  | str j=>obtain⟨t',rfl⟩:=ry;exact ne_str (Bx I q (congrArg not Pn))
  | _=>exact absurd (show false=true from hs) Bool.false_ne_true
 | byt i =>
  obtain⟨t,rfl⟩:=rx;cases y with
  | byt j=>obtain⟨t',rfl⟩:=ry;exact PySem.W.ne_bytes (Bx I q (congrArg not Pq))
  | _=>exact absurd (show false=true from hs) Bool.false_ne_true
 | _=>cases y <;> exact absurd (show false=true from hs) Bool.false_ne_true
theorem XB:OpR X (compareOp .Lt) (rI0 fun i j=>.bl (decide (i < j))):=XD fun _ _ _ _ _ _ _ q=>lt_int q
theorem MH:OpR X (compareOp .LtE) (rI0 fun i j=>.bl (decide (i<=j))):=XD fun _ _ _ _ _ _ _ q=>le_int q
theorem XC:OpR X (compareOp .Gt) (rI0 fun i j=>.bl (decide (j < i))):=XD fun _ _ _ _ _ _ _ q=>gt_int q
theorem JW:OpR X (compareOp .In) (fun x y H Q=>∃i j,x=.str i/\y=.str j/\Q (.bl (!(Builtin.Str.occurrences j i 0 j.length 1).isEmpty)) H):=by
 intro pins s σ H x y v u Q I rx ry h;obtain⟨i,j,rfl,rfl,q⟩:=h;obtain⟨t,rfl⟩:=rx;obtain⟨t',rfl⟩:=ry;exact in_str (Bx I q rfl)
theorem Tt:OpR X (compareOp .IsNot) (fun x y H Q=>y=.non/\Q (.bl (!decide (x=.non))) H):=by
 intro pins s σ H x y v u Q I rx ry h;obtain⟨rfl,q⟩:=h;cases ry;refine isnot_none_gen (Bx I q ?_);cases x <;> first
  | (cases rx;rfl)
  | (obtain⟨t,rfl⟩:=rx;rfl)
theorem E5(b:Expr){op:CmpOp}(h:op≠.In:=by decide)(h2:op≠.NotIn:=by decide):behindInMarks op b=false:=by
 have e1:(op == CmpOp.In)=false:=by cases op <;> first | rfl | exact absurd rfl h
 have e2:(op == CmpOp.NotIn)=false:=by cases op <;> first | rfl | exact absurd rfl h2
 cases b <;> simp [behindInMarks,e1,e2]
theorem Tq{op:CmpOp}{r:R2}(ho:OpR X (compareOp op) r)(ha:PE X a ta)(hb:PE X b tb)(hm:behindInMarks op b=false):PE X (.Compare a [op] [b] pos) (tOp r ta tb):=by
 intro pins s σ H Q I h;exact wpAny_Compare1 (X5 ha hb I h fun v u s2 x y H2 I2 rx ry q=>ho pins s2 σ H2 x y v u Q I2 rx ry q) hm
def S3(t:TE):TT:=fun σ H Q=>t σ H fun x H'=>∃k,x=.bl k/\Q k H'
theorem Tf{op:CmpOp}{r:R2}(ho:OpR X (compareOp op) r)(ha:PE X a ta)(hb:PE X b tb)(hm:behindInMarks op b=false):PT X (.Compare a [op] [b] pos) (S3 (tOp r ta tb)):=by
 intro pins s σ H Q I h;refine wpAny_isTrue_Compare1 (thn (ha pins s σ H _ I h) fun v s1 ⟨x,H1,I1,r1,q1⟩=>thn (hb pins s1 σ H1 _ I1 q1) fun u s2 ⟨y,H2,I2,r2,q2⟩ =>
  thn (ho pins s2 σ H2 x y v u _ I2 r1 r2 q2) fun c s3 ⟨z,H3,I3,r3,k,e,q3⟩=>?_) hm
 subst e;cases r3;exact wpAny_truthy_bool ⟨H3,I3,q3⟩
def Nq(r r':R2)(ta tb tc:TE):TE:=fun σ H Q=>ta σ H fun x H1=>tb σ H1 fun y H2=>r x y H2 fun z H3=>∃k,z=.bl k /\
 (if k=true then tc σ H3 fun w' H4=>r' y w' H4 Q else Q (.bl false) H3)
theorem IP{op op':CmpOp}{r r':R2}(ho:OpR X (compareOp op) r)(ho':OpR X (compareOp op') r')(ha:PE X a ta)(hb:PE X b tb)(hc:PE X c tc)
  (hm:lastMarks [op,op'] [b,c]=false:=by with_unfolding_all rfl):PT X (.Compare a [op,op'] [b,c] pos) (S3 (Nq r r' ta tb tc)):=by
 intro pins s σ H Q I h;refine isTrue_chain (thn (ha pins s σ H _ I h) fun v s1 ⟨x,H1,I1,r1,q1⟩=>test_link (thn (hb pins s1 σ H1 _ I1 q1) fun u s2 ⟨y,H2,I2,r2,q2⟩ =>
  thn (ho pins s2 σ H2 x y v u _ I2 r1 r2 q2) fun d s3 ⟨z,H3,I3,r3,k,e,q3⟩=>?_)) hm
 subst e;cases r3;refine wpAny_truthy_bool ?_;cases k with
 | false =>
  obtain⟨k',e',q'⟩:=q3;cases e';exact ite_ff ⟨H3,I3,q'⟩
 | true =>
  refine ite_tt (test_last (thn (hc pins s3 σ H3 _ I3 q3) fun w' s4 ⟨z',H4,I4,r4,q4⟩=>thn (ho' pins s4 σ H4 y z' u w' _ I4 r2 r4 q4) fun d' s5 ⟨z2,H5,I5,r5,k2,e2,q5⟩=>?_));subst e2;cases r5;exact wpAny_truthy_bool ⟨H5,I5,q5⟩
def X8(K:Fg)(x:V)(H:Hp)(k:Bool):Prop :=
 match x with
 | .non=>k=false
 | .bl b=>k=b
 | .int i=>k=(i != 0)
 | .str y=>y.length<=sizeLine/\k=((y.length:Int) != 0)
 | .byt y=>y.size<=sizeLine/\k=((y.size:Int) != 0)
 | .ref p=>(∃xs,SqL K H p xs/\k=!xs.isEmpty)∨(∃xs,SqT K H p xs/\k=!xs.isEmpty)∨∃kvs,H p=some (.dK kvs)/\k=!kvs.isEmpty
 | _=>False
theorem MU{κ:Type}{kvs:List (κ×V)}{vs:List (κ×Value)}(r:KV kvs vs):(!vs.isEmpty)=!kvs.isEmpty:=by
 cases r <;> rfl
theorem Im{xs:List V}{its:List Value}(r:Vals xs its):(!its.toArray.isEmpty)=!xs.isEmpty:=by
 cases r <;> simp
theorem Hk:(sizeLine:Nat) < 2 ^ 63:=by rw [sizeLine_eq];decide
theorem U8:YN X (fun x H Q=>∃k,X8 X.K x H k/\Q k H):=by
 intro pins s σ H x v Q I rx h;obtain⟨k,e,q⟩:=h;have hl:=Hk;have hs:sizeLine=16777216:=sizeLine_eq;cases x with
 | non =>
  cases rx;have e':k=false:=e;subst e';exact truthy_none ⟨H,I,q⟩
 | bl b =>
  cases rx;have e':k=b:=e;subst e';exact wpAny_truthy_bool ⟨H,I,q⟩
 | int i =>
  obtain⟨t,rfl⟩:=rx;have e':k=(i != 0):=e;subst e';exact PySem.P.truthy_int ⟨H,I,q⟩
 | str y =>
  obtain⟨t,rfl⟩:=rx;obtain⟨hy,e'⟩:y.length<=sizeLine/\k=((y.length:Int) != 0):=e;subst e';exact PySem.P.truthy_str (by omega) ⟨H,I.tok _,q⟩
 | byt y =>
  obtain⟨t,rfl⟩:=rx;obtain⟨hy,e'⟩:y.size<=sizeLine/\k=((y.size:Int) != 0):=e;subst e';exact PySem.W.truthy_bytes (by omega) ⟨H,I.tok _,q⟩
 | ref p =>
  cases rx;have e':(∃xs,SqL X.K H p xs/\k=!xs.isEmpty)∨(∃xs,SqT X.K H p xs/\k=!xs.isEmpty)∨∃kvs,H p=some (.dK kvs)/\k=!kvs.isEmpty:=e;rcases e' with⟨xs,hx,e'⟩ | ⟨xs,hx,e'⟩ | ⟨kvs,hx,e'⟩
  ·subst e'
   obtain⟨its,r,pl,hz⟩:=I.list hx;have hlen:=r.length;exact wpAny_truthy_list pl.isList (by simp only [List.size_toArray];omega) ⟨H,I.tok _,by rw [Im r];exact q⟩
  ·subst e'
   obtain⟨its,r,pl,hz⟩:=I.tuple hx;have hlen:=r.length;exact truthy_tuple pl (by simp only [List.size_toArray];omega) ⟨H,I.tok _,by rw [Im r];exact q⟩
  ·subst e'
   obtain⟨hz,hS,vs,r,m⟩:kvs.length<=sizeLine/\(p == sysModules)=false/\∃vs,KV kvs vs/\s.heap.DictOf (CF X.prog X.w) p vs:=I.hok p _ hx;have hlen:kvs.length=vs.length:=Paired.length r;exact wpAny_truthy_dict hS m (by omega) ⟨H,I.tok _,by rw [MU r];exact q⟩
 | _=>exact(show False from e).elim
theorem Qs(ha:PE X a ta)(he:∀whole,isTrue a X.env whole=(do let v <- whole;standAt a.pos;holding [v] (truthy v))) :
  PT X a (fun σ H Q=>ta σ H fun x H'=>∃k,X8 X.K x H' k/\Q k H'):=by
 intro pins s σ H Q I h;exact isTrue_plain (thn (ha pins s σ H _ I h) fun v s1 ⟨x,H1,I1,r1,q1⟩=>U8 pins s1 σ H1 x v Q I1 r1 q1) (he _)
theorem MI:OpR X (binaryOp .Add) (fun x y H Q=>∃i j,x=.str i/\y=.str j/\i.length+j.length<=sizeLine/\Q (.str (i++j)) H):=by
 intro pins s σ H x y v u Q I rx ry h;obtain⟨i,j,rfl,rfl,hz,q⟩:=h;obtain⟨t,rfl⟩:=rx;obtain⟨t',rfl⟩:=ry;exact add_str (fun t' tk=>⟨.str (i++j),H,I.tok _,⟨_,rfl⟩,q⟩) hz
theorem vals1{x:V}{us:List Value}(r:Vals [x] us):∃u,us=[u]/\RelV x u:=by
 cases r with
 | cons r1 r2=>cases r2;exact⟨_,rfl,r1⟩
theorem vals2{x y:V}{us:List Value}(r:Vals [x,y] us):∃u w',us=[u,w']/\RelV x u/\RelV y w':=by
 cases r with
 | cons r1 r2 =>
  cases r2 with
  | cons r3 r4=>cases r4;exact⟨_,_,rfl,r1,r3⟩
theorem PH(hc:X.calm=true):DJ X (.builtin "max") (fun xs H Q=>∃i j,xs=[.int i,.int j]/\Q (.int (if j > i then j else i)) H):=by
 intro pins s σ H xs us Q I r h;obtain⟨i,j,rfl,q⟩:=h;obtain⟨u,w',rfl,⟨t,rfl⟩,⟨t',rfl⟩⟩:=vals2 r;refine max_two_ints (I.ok.hd hc) fun h' tk k=>⟨_,H,I.kept k,?_,q⟩
 by_cases hj:j > i
 ·rw [if_pos hj,if_pos hj];exact⟨_,rfl⟩
 ·rw [if_neg hj,if_neg hj];exact⟨_,rfl⟩
theorem PF(hc:X.calm=true):DJ X (.builtin "min") (fun xs H Q=>∃i j,xs=[.int i,.int j]/\Q (.int (if j < i then j else i)) H):=by
 intro pins s σ H xs us Q I r h;obtain⟨i,j,rfl,q⟩:=h;obtain⟨u,w',rfl,⟨t,rfl⟩,⟨t',rfl⟩⟩:=vals2 r;refine min_two_ints (I.ok.hd hc) fun h' tk k=>⟨_,H,I.kept k,?_,q⟩
 by_cases hj:j < i
 ·rw [if_pos hj,if_pos hj];exact⟨_,rfl⟩
 ·rw [if_neg hj,if_neg hj];exact⟨_,rfl⟩
theorem PJ:DJ X (.type "int") (fun xs H Q=>(∃i,xs=[.int i]/\Q (.int i) H)∨∃k,xs=[.bl k]/\Q (.int (if k then 1 else 0)) H):=by
 intro pins s σ H xs us Q I r h;rcases h with⟨i,rfl,q⟩ | ⟨k,rfl,q⟩
 ·obtain⟨u,rfl,t,rfl⟩:=vals1 r
  exact call_int_int ⟨.int i,H,I,⟨_,rfl⟩,q⟩
 ·obtain⟨u,rfl,r1⟩:=vals1 r
  cases r1;exact call_int_bool ⟨.int (if k then 1 else 0),H,I.tok _,⟨_,rfl⟩,q⟩
end
structure UR(h:Heap)(x dx C:Addr)(mA:Str->Option Value):Prop where
 obj:h.get? x=some (PySem.W.instObj C dx)
 ns:h.Ns1 dx mA
 ne:dx≠x
theorem Oh{h:Heap}{dx:Addr}{mA:Str->Option Value}(n:h.Ns1 dx mA):∃od,h.get? dx=some od/\∀name,PySem.W.lookIn name od=some (mA name):=by
 obtain⟨o,es,ep,ho,hd,hk,_,hm⟩:=n;refine⟨o,ho,fun name=>?_⟩;have e:=hm name;unfold nsFind findBy at e;rw [<- Array.find?_toList] at e;unfold PySem.W.lookIn;rw [hd];dsimp only;split
 ·rename_i y q
  rw [q] at e;exact congrArg some e
 ·rename_i q
  rw [q] at e;have a:es.toList.any (·.refKey)=false:=by
   rw [List.any_eq_false];intro y hy;obtain⟨z,t,hkey⟩:=hk y (Array.mem_toList_iff.mp hy);simp [DictEntry.refKey,hkey]
  have a':¬ es.toList.any (·.refKey)=true:=by rw [a];exact Bool.false_ne_true
  rw [if_neg a'];exact congrArg some e
theorem UR.look{h:Heap}{x dx C:Addr}{mA:Str->Option Value}(I:UR h x dx C mA):∃od,PySem.W.InstAt h x (PySem.W.instObj C dx) C (some od)/\∀name,PySem.W.lookIn name od=some (mA name) :=
 let⟨od,ho,hl⟩:=Oh I.ns
 ⟨od,⟨I.obj,rfl,rfl,ho⟩,hl⟩
section
variable{prog:Program}{w:World}{A:Around}{E:Value->Shared->Prop}{s:Shared}{K:Fg}{x dx C f:Addr}{mA:Str->Option Value}{name:Str}{v:Value}
theorem get_map{expr:Bool}{Q:Value->Shared->Prop}(X:K.In s.heap)(I:UR s.heap x dx C mA)(hg:PySem.W.plainGet K C name=true)(hh:PySem.W.hasDictIn K C=true)
  (ha:PySem.W.findIn K (.ref C) name=some none) (hv:mA name=some v) (hv':PySem.W.handedIn v=true) (h:Q v { s with toks:=s.toks+1 }) :
  wpAny (model prog w) A (getAttr (.ref x) name expr) Q E s:=by
 obtain⟨od,J,hl⟩:=I.look;exact PySem.W.get_value X J (PySem.W.plainGet_of hg).1 (PySem.W.findObj_own hh ha rfl (by rw [hl,hv])) hv' h
theorem Q5{pl:Sem Bool}{Q:Value×List Value->Shared->Prop}(X:K.In s.heap)(I:UR s.heap x dx C mA)(hg:PySem.W.plainGet K C name=true)
  (hf:PySem.W.findIn K (.ref C) name=some (some (.ref f))) (ht:PySem.W.isFn K (.ref f)=true) (hv:mA name=none) (h:Q (.ref f,[.ref x]) s) :
  wpAny (model prog w) A (getMethod (.ref x) name pl) Q E s:=by
 obtain⟨od,J,hl⟩:=I.look;exact PySem.W.method_fn X J (PySem.W.plainGet_of hg).1 (PySem.W.plainGet_of hg).2 hf (beq_iff_eq.mp ht) (by show(PySem.W.lookIn name od).map (·.isSome)=some false;rw [hl,hv];rfl) h
theorem Ta{ns:List Str}{Q:Unit->Shared->Prop}(X:K.In s.heap)(I:UR s.heap x dx C mA)
  (hs:PySem.W.findIn K (.ref C) "__setattr__"=some (some (.builtin "object.__setattr__"))) (hp:PySem.W.plainOver K C=true) (ht:PySem.W.takerIn K C name=some none) (hh:PySem.W.hasDictIn K C=true)
  (hw:PySem.Within mA ns) (hsz:ns.length<=sizeLine)
  (h:∀h',UR h' x dx C (fun y=>if y=name then some v else mA y)->Heap.SameBut dx s.heap h'->Q () { s with heap:=h',toks:=s.toks+2 }) :
  wpAny (model prog w) A (setAttr (.ref x) name v) Q E s:=by
 obtain⟨od,J,hl⟩:=I.look;refine PySem.W.set_plain X J hs (PySem.W.osa_open (s:={ s with toks:=s.toks+1 }) (r:=none) X J hp ht fun b=>?_);obtain⟨cd,hc,hd'⟩:=PySem.W.any_some hh;have hx:s.heap.get? x=some ⟨.ref C,some dx,.plain,#[]⟩:=I.obj;refine wpAny_bind (wpAny_pure (wpAny_bind (wpAny_bind (wpAny_loadPart hx (wpAny_bind (PySem.W.Looks.here (s:={ s with toks:=s.toks+1 }) (PySem.W.looks_clsIn X hc) ?_))))));rw [hd'];refine wpAny_pure (a:=some dx) (wpAny_bind (wpAny_pure (wpAny_bind ?_)));refine wpAny_nsSet1 (s:={ s with toks:=s.toks+1 }) I.ns fun h' hn2 hs2=>?_
 obtain⟨oD,esD,epD,hoD,hdD,hcD⟩:=hn2.count (PySem.Within.cons name v hw);refine wpAny_bind (wpAny_lookBehind hoD (by rw [hdD];exact pastItsLine_dict (Nat.le_trans hcD (by rw [List.length_cons];omega))) ?_);exact wpAny_pure (h _ ⟨(hs2.2 _ (Ne.symm I.ne)).trans I.obj,hn2,I.ne⟩ hs2)
theorem QP{R:Result->Shared->Prop}{vs:List Value}{kw:List (Str×Value)}(X:K.In s.heap)(hm:PySem.W.makesIn K C=true)
  (hi:PySem.W.findIn K (.ref C) "__init__"=some (some (.ref f))) (hf:PySem.W.typeIn K (.ref f)=some (.type "function"))
  (h:codeAny (model prog w) (A.under (.builtin "type.__call__" ⟨.ref C :: vs,kw⟩)) (.call (.ref f) ⟨.ref (s.heap.objs.size+1) :: vs,kw⟩) (PySem.W.InitBack (s.heap.objs.size+1) R)
   { s with heap:=(s.heap.push PySem.W.emptyDict).push (PySem.W.instObj C s.heap.objs.size) }) :
  codeAny (model prog w) A (.call (.ref C) ⟨vs,kw⟩) R s:=by
 obtain⟨hh,g,d,t,os⟩:=s;exact PySem.W.make_core (PySem.W.makes_of X hm) (PySem.W.looks_findIn X hi) (fun self=>PySem.W.bind_fn X self hf) (.inl rfl) h
end
def Gw(f:Str)(v:V):List (Str×V)->List (Str×V)
 | []=>[(f,v)]
 | (g,x) :: r=>if g=f then(g,v) :: r else(g,x) :: Gw f v r
theorem Hj(f g:Str)(v:V):∀fs:List (Str×V),(Gw f v fs).lookup g=if g=f then some v else fs.lookup g
 | []=>by
  show List.lookup g [(f,v)]=_;by_cases h:g=f
  ·have hb:(g == f)=true:=beq_iff_eq.mpr h
   simp only [List.lookup,hb,if_pos h]
  ·have hb:(g == f)=false:=beq_eq_false_iff_ne.mpr h
   simp only [List.lookup,hb,if_neg h]
 | (k,x) :: r=>by
  have ih:=Hj f g v r;rw [show Gw f v ((k,x) :: r)=(if k=f then(k,v) :: r else(k,x) :: Gw f v r) from rfl];by_cases hk:k=f
  ·rw [if_pos hk]
   by_cases h:g=k
   ·have hb:(g == k)=true:=beq_iff_eq.mpr h
    simp only [List.lookup,hb,if_pos (h.trans hk)]
   ·have hb:(g == k)=false:=beq_eq_false_iff_ne.mpr h
    simp only [List.lookup,hb,if_neg (fun e:g=f=>h (e.trans hk.symm))]
  ·rw [if_neg hk]
   by_cases h:g=k
   ·have hb:(g == k)=true:=beq_iff_eq.mpr h
    simp only [List.lookup,hb,if_neg (fun e:g=f=>hk (h.symm.trans e))]
   ·have hb:(g == k)=false:=beq_eq_false_iff_ne.mpr h
    simp only [List.lookup,hb];exact ih
theorem Hq(f:Str)(v:V):∀fs:List (Str×V),f∈(Gw f v fs).map (·.1)/\∀g,g∈fs.map (·.1)->g∈(Gw f v fs).map (·.1)
 | []=>⟨by simp [Gw],fun g h=>by simp at h⟩
 | (k,x) :: r=>by
  obtain⟨i1,i2⟩:=Hq f v r;rw [show Gw f v ((k,x) :: r)=(if k=f then(k,v) :: r else(k,x) :: Gw f v r) from rfl];by_cases hk:k=f
  ·rw [if_pos hk]
   subst hk;exact⟨by simp,fun g h=>by simpa using h⟩
  ·rw [if_neg hk]
   refine⟨?_,fun g h=>?_⟩
   ·rw [List.map_cons]
    exact List.mem_cons_of_mem _ i1
   ·rw [List.map_cons] at h ⊢
    rcases List.mem_cons.mp h with e | e
    ·exact List.mem_cons.mpr (.inl e)
    ·exact List.mem_cons_of_mem _ (i2 g e)
theorem Hm(f:Str)(v:V):∀fs:List (Str×V),(Gw f v fs).length<=fs.length+1
 | []=>by simp [Gw]
 | (k,x) :: r=>by
  have ih:=Hm f v r;rw [show Gw f v ((k,x) :: r)=(if k=f then(k,v) :: r else(k,x) :: Gw f v r) from rfl];by_cases hk:k=f
  ·rw [if_pos hk,List.length_cons,List.length_cons];omega
  ·rw [if_neg hk,List.length_cons,List.length_cons];omega
theorem AU.some_of{v:V}{o:Option Value}(r:AU (some v) o):∃u,o=some u/\RelV v u:=by
 cases o with
 | none=>exact(show False from r).elim
 | some u=>exact⟨u,rfl,r⟩
theorem AU.none_of{o:Option Value}(r:AU none o):o=none:=by
 cases o with
 | none=>rfl
 | some u=>exact(show False from r).elim
theorem OM{v:V}{u:Value}(r:RelV v u):PySem.W.handedIn u=true:=by
 cases v with
 | non=>cases(show u=Value.none from r);rfl
 | bl b=>cases(show u=Value.bool b from r);rfl
 | int i=>obtain⟨t,e⟩:=(show ∃t,u=Value.int i t from r);cases e;rfl
 | str x=>obtain⟨t,e⟩:=(show ∃t,u=Value.str x t from r);cases e;rfl
 | byt b=>obtain⟨t,e⟩:=(show ∃t,u=Value.bytes b t from r);cases e;rfl
 | flt b=>obtain⟨t,e⟩:=(show ∃t,u=Value.float b t from r);cases e;rfl
 | ref a=>cases(show u=Value.ref a from r);rfl
 | ty n=>cases(show u=Value.type n from r);rfl
section
variable{P:Program}{w:World}{H H':Hp}{h h':Heap}{a C dx:Addr}{fs fs':List (Str×V)}
theorem K5(hok:HOk P w H h)(e:H a=some (.ins C dx fs)):∃mA,UR h a dx C mA/\(∀f,AU (fs.lookup f) (mA f))/\PySem.Within mA (fs.map (·.1))/\fs.length<=1000/\H dx=some (.own a):=by
 obtain⟨d,z,ne,ob,mA,n,r,q⟩:=(show C4 P w H h a (.ins C dx fs) from hok a _ e)
 exact⟨mA,⟨ob,n,ne⟩,r,q,z,d⟩
end
structure Cls(K:Fg)(C:Addr):Prop where
 pg:PySem.W.plainGet K C Str.empty=true
 hd:PySem.W.hasDictIn K C=true
 po:PySem.W.plainOver K C=true
 sa:PySem.W.findIn K (.ref C) "__setattr__"=some (some (.builtin "object.__setattr__"))
theorem Cls.get{K:Fg}{C:Addr}(c:Cls K C)(f:Str):PySem.W.plainGet K C f=true:=c.pg
def El(K:Fg)(C:Addr)(f:Str):Prop:=PySem.W.findIn K (.ref C) f=some none
theorem El.Xi{K:Fg}{C:Addr}{f:Str}(n:El K C f):PySem.W.takerIn K C f=some none:=by
 unfold PySem.W.takerIn;rw [show PySem.W.findIn K (.ref C) f=some none from n];rfl
structure Meth(K:Fg)(C:Addr)(m:Str)(f:Addr):Prop where
 at_:PySem.W.findIn K (.ref C) m=some (some (.ref f))
 fn:PySem.W.isFn K (.ref f)=true
 kp:PySem.W.keepIn K (.ref f)=true
section
variable{X:Cx}{pins:List (Addr×Obj)}{σ:St}{H:Hp}{s:Shared}{a C dx:Addr}{fs:List (Str×V)}{f:Str}{v:V}{A:Around}{E:Value->Shared->Prop}
theorem MX{b:Bool}{Q:Value->Shared->Prop}(I:Inv X pins σ H s)(e:H a=some (.ins C dx fs))(c:Cls X.K C)(n:El X.K C f)(l:fs.lookup f=some v)
  (h:∀u s',Inv X pins σ H s'->RelV v u->Q u s'):wpAny (model X.prog X.w) A (getAttr (.ref a) f b) Q E s:=by
 obtain⟨mA,O,r,_,_,_⟩:=K5 I.hok e;obtain⟨u,hu,ru⟩:=AU.some_of (v:=v) (o:=mA f) (by rw [<- l];exact r f);exact get_map I.kIn O (c.get f) c.hd n hu (OM ru) (h u _ (I.tok _) ru)
theorem MW{m:Str}{g:Addr}{pl:Sem Bool}{Q:Value×List Value->Shared->Prop}(I:Inv X pins σ H s)(e:H a=some (.ins C dx fs))(c:Cls X.K C)(k:Meth X.K C m g)(l:fs.lookup m=none)
  (h:Q (.ref g,[.ref a]) s):wpAny (model X.prog X.w) A (getMethod (.ref a) m pl) Q E s:=by
 obtain⟨mA,O,r,_,_,_⟩:=K5 I.hok e;have hn:mA m=none:=AU.none_of (by rw [<- l];exact r m);exact Q5 I.kIn O (c.get m) k.at_ k.fn hn h
theorem MB{y:V}{u:Value}{Q:Unit->Shared->Prop}(I:Inv X pins σ H s)(e:H a=some (.ins C dx fs))(c:Cls X.K C)(n:El X.K C f)(hl:fs.length < 1000)(ry:RelV y u)
  (h:∀s',Inv X pins σ (upd H a (.ins C dx (Gw f y fs))) s'->Q () s'):wpAny (model X.prog X.w) A (setAttr (.ref a) f u) Q E s:=by
 obtain⟨mA,O,r,wi,_,ho⟩:=K5 I.hok e;have hz:(fs.map (·.1)).length<=sizeLine:=by rw [List.length_map,sizeLine_eq];omega
 refine Ta I.kIn O c.sa c.po n.Xi c.hd wi hz fun h' O' sb=>h _ ?_
 have hd:∃o,h'.get? dx=some o:=let⟨o,_,_,e',_⟩:=O'.ns;⟨o,e'⟩;refine I.write (x:=a) (e:=dx) (by rw [e];exact True.intro) (.inr ho) (fun b q hb z=>(sb.2 b hb).trans z) hd ?_;refine⟨by rw [Ay O.ne];exact ho,?_,O.ne,O'.obj,_,O'.ns,fun g=>?_,fun g hg=>?_⟩
 ·have:=Hm f y fs;omega
 ·show AU ((Gw f y fs).lookup g) (if g=f then some u else mA g)
  rw [Hj];by_cases q:g=f
  ·rw [if_pos q,if_pos q];exact ry
  ·rw [if_neg q,if_neg q];exact r g
 ·by_cases q:g=f
  ·rw [q];exact(Hq f y fs).1
  ·refine(Hq f y fs).2 g (wi g fun z=>hg ?_)
   show(if g=f then some u else mA g)=none;rw [if_neg q];exact z
theorem Inv.made(I:Inv X pins σ H s):Inv X pins σ (upd (upd H s.heap.objs.size (.own (s.heap.objs.size+1))) (s.heap.objs.size+1) (.ins C s.heap.objs.size []))
  { s with heap:=(s.heap.push PySem.W.emptyDict).push (PySem.W.instObj C s.heap.objs.size) }:=by
 have e1:(s.heap.push PySem.W.emptyDict).get? s.heap.objs.size=some PySem.W.emptyDict:=Heap.get?_push_size s.heap rfl;have e2:((s.heap.push PySem.W.emptyDict).push (PySem.W.instObj C s.heap.objs.size)).get? (s.heap.objs.size+1)=some (PySem.W.instObj C s.heap.objs.size):=by
  have:=Heap.get?_push_size (s.heap.push PySem.W.emptyDict) (o:=PySem.W.instObj C s.heap.objs.size) rfl;rwa [Heap.size_push] at this
 have e3:(s.heap.push PySem.W.emptyDict).Ns s.heap.objs.size (fun _=>none):=⟨PySem.W.emptyDict,#[],_,e1,rfl,(fun e he=>absurd he (by simp)),fun _=>rfl⟩
 have I1:=I.laid (a:=s.heap.objs.size) (o:=.own (s.heap.objs.size+1)) (h':=s.heap.push PySem.W.emptyDict) (t':=s.toks) (fun b u q=>Heap.get?_push_of_some _ q) (Nat.le_refl _) ⟨_,e1⟩;refine I1.laid (a:=s.heap.objs.size+1) (o:=.ins C s.heap.objs.size []) (t':=s.toks) (fun b u q=>Heap.get?_push_of_some _ q) (Nat.le_of_eq (Heap.size_push _ _)) ?_;have ne:s.heap.objs.size≠s.heap.objs.size+1:=Nat.ne_of_lt (Nat.lt_succ_self _);refine⟨by rw [Ay ne,AK],Nat.zero_le _,ne,e2,fun _=>none,(Heap.Ns1.of_empty e3).at fun o q=>Heap.get?_push_of_some _ q,fun _=>True.intro,fun y hy=>absurd rfl hy⟩
theorem UO{prog:Program}{w:World}{env:Env}{e:Expr}{f:Str}{pos:Pos}{s:Shared}{Q:Value->Shared->Prop}(hb:attributeBase e f env (eval e env)=eval e env)
  (h:wpAny (model prog w) A (eval e env) (fun o s₁=>wpAny (model prog w) A (getAttr o f true) Q E s₁) E s):wpAny (model prog w) A (eval (.Attribute e f pos) env) Q E s :=
 Attribute_any_ h (by rw [arm_eval_Attribute,hb])
end
def Ya(K:Fg)(ta:TE)(f:Str):TE:=fun σ H Q=>ta σ H fun x H1=>∃a C dx fs v,x=.ref a/\H1 a=some (.ins C dx fs)/\Cls K C/\El K C f/\fs.lookup f=some v/\Q v H1
def Yb(K:Fg)(ta tv:TE)(f:Str):TS:=fun D σ H=>tv σ H fun y H1=>ta σ H1 fun x H2=>∃a C dx fs,x=.ref a/\H2 a=some (.ins C dx fs)/\Cls K C/\El K C f/\fs.length < 1000 /\
 D.nx σ (upd H2 a (.ins C dx (Gw f y fs)))
section
variable{X:Cx}{o e value:Expr}{f:Str}{pos pos' tpos:Pos}{ta tv:TE}
theorem LK(he:PE X e ta)(hb:attributeBase e f X.env (eval e X.env)=eval e X.env):PE X (.Attribute e f pos) (Ya X.K ta f):=by
 intro pins s σ H Q I h;refine UO hb (thn (he pins s σ H _ I h) fun u s1 ⟨x,H1,I1,rx,a,C,dx,fs,v,ex,ea,c,n,l,q⟩=>?_);subst ex;obtain rfl:u=Value.ref a:=rx;exact MX I1 ea c n l fun u' s2 I2 ru=>⟨v,H1,I2,ru,q⟩
theorem NJ(ha:PE X o ta)(hv:PE X value tv)(hs:swapsWith value (some (.Attribute o f pos')) pos.line X.env=pure false):PS X (.Assign [.Attribute o f pos'] value pos) (Yb X.K ta tv f):=by
 intro pins s σ H D I h;refine plainObj_wpAny_Assign_Attribute (thn (hv pins s σ H _ I h) fun u s1 ⟨y,H1,I1,ry,q⟩=>thn (ha pins s1 σ H1 _ I1 q) fun ov s2 ⟨x,H2,I2,rx,a,C,dx,fs,ex,ea,c,n,l,q2⟩=>?_) hs;subst ex;obtain rfl:ov=Value.ref a:=rx;exact MB I2 ea c n l ry fun s3 I3=>⟨σ,_,I3,q2⟩
end
section
variable{X:Cx}{pins:List (Addr×Obj)}{σ:St}{H:Hp}{s:Shared}{A:Around}{E:Value->Shared->Prop}{Q:Value->Shared->Prop}{c:Value}{b:Bool}
end
structure EX(k:Nat)(A:Around):Prop where
 hd:A.handled=none
 dp:A.depth+3 * k+5 < recursionLimit
 un:A.units+16 * k+200 < cLine
theorem EX.mono{j k:Nat}{A:Around}(r:EX k A)(h:j<=k):EX j A:=⟨r.hd,by have:=r.dp;omega,by have:=r.un;omega⟩
theorem EX.deeper{k:Nat}{A:Around}(r:EX (k+1) A)(env:Env):EX k (A.deeper env) :=
 ⟨r.hd,by have:=r.dp;show A.depth+1+3 * k+5 < _;omega,by have:=r.un;show A.units+3+16 * k+200 < _;omega⟩
theorem MO{A:Around}{C:Addr}{us:List Value}{kw:List (Str×Value)}:(A.under (.builtin "type.__call__" ⟨.ref C :: us,kw⟩)).depth=A.depth+1:=by
 first | rfl | simp [Around.under,Code.weight,Code.isCreation,Code.isGuard,Code.isCaller,Code.frames,Code.isFrame,guardIds]
theorem MN{A:Around}{C:Addr}{us:List Value}{kw:List (Str×Value)}:(A.under (.builtin "type.__call__" ⟨.ref C :: us,kw⟩)).units=A.units+1:=by
 first | rfl | simp [Around.under,Code.cUnits,Code.frames,Code.isFrame]
theorem EX.make{k:Nat}{A:Around}(r:EX (k+1) A)(C:Addr)(us:List Value)(kw:List (Str×Value)):EX k (A.under (.builtin "type.__call__" ⟨.ref C :: us,kw⟩)) :=
 ⟨r.hd,by have:=r.dp;rw [MO];omega,by have:=r.un;rw [MN];omega⟩
theorem EX.depth{k:Nat}{A:Around}(r:EX k A):A.depth < recursionLimit:=by have:=r.dp;omega
theorem EX.units{k:Nat}{A:Around}(r:EX k A):A.units+64 < cLine:=by have:=r.un;omega
def WW:TA:=fun _ H Q=>Q [] H
def Xn(ta:TE)(tr:TA):TA:=fun σ H Q=>ta σ H fun x H1=>tr σ H1 fun xs H2=>Q (x :: xs) H2
section
variable{X:Cx}{e:Expr}{es:List Expr}{te:TE}{t:TA}{pos:Pos}
theorem Ii:PA X [] WW:=fun _ _ _ _ H Q I h=>Calls.spliced_nil ⟨[],H,I,.nil,h⟩
theorem Es(ha:PE X e te)(hr:PA X es t)(hs:starEach (e :: es) X.env=(false,eval e X.env) :: starEach es X.env:=by rfl):PA X (e :: es) (Xn te t):=by
 intro pos pins s σ H Q I h;rw [hs];show wpAny _ _ (spliced ((false,eval e X.env) :: backTo pos (starEach es X.env))) _ _ s;refine Calls.spliced_cons (thn (ha pins s σ H _ I h) fun u s1 ⟨x,H1,I1,r1,q1⟩=>?_);exact thn (hr pos pins s1 σ H1 _ I1 q1) fun us s2 ⟨xs,H2,I2,r2,q2⟩=>⟨x :: xs,H2,I2,.cons r1 r2,q2⟩
def Yo(t:TA):TE:=fun σ H Q=>t σ H fun xs H1=>xs.length<=sizeLine/\∀p,H1 p=none->Q (.ref p) (upd H1 p (.tup xs))
def Yr(t:TA):TE:=fun σ H Q=>t σ H fun xs H1=>xs.length<=sizeLine/\∀p,H1 p=none->Q (.ref p) (upd H1 p (.lst xs))
theorem R8{x1}(h:PA X es t):PE X (.Tuple es x1 pos) (Yo t):=by
 intro pins s σ H Q I hq;refine wpAny_Tuple_spliced (thn (h pos pins s σ H _ I hq) fun us s1 ⟨xs,H1,I1,r,z,q⟩=>⟨by rw [<- r.length];exact z,?_⟩);have hf:H1 s1.heap.objs.size=none:=I1.hok.fresh (Nat.le_refl _);refine⟨.ref s1.heap.objs.size,upd H1 s1.heap.objs.size (.tup xs),I1.laid (t':=s1.toks) (fun b u e=>Heap.get?_push_of_some _ e) (Nat.le_refl _) ?_,rfl,q _ hf⟩;exact⟨z,us,r,⟨_,Heap.get?_push_size _ rfl,rfl,_,rfl⟩⟩
theorem R9(h:PA X es t):PE X (.List es pos) (Yr t):=by
 intro pins s σ H Q I hq;refine wpAny_List_spliced (thn (h pos pins s σ H _ I hq) fun us s1 ⟨xs,H1,I1,r,z,q⟩=>⟨by rw [<- r.length];exact z,?_⟩);have hf:H1 s1.heap.objs.size=none:=I1.hok.fresh (Nat.le_refl _);refine⟨.ref s1.heap.objs.size,upd H1 s1.heap.objs.size (.lst xs),I1.laid (t':=s1.toks) (fun b u e=>Heap.get?_push_of_some _ e) (Nat.le_refl _) ?_,rfl,q _ hf⟩;exact⟨z,us,0,r,Heap.get?_push_size _ rfl⟩
end
abbrev Sp:=List V->Hp->VK->XK->Prop
abbrev CXT:=List Env->Hp->Shared->XK->Value->Shared->Prop
structure UT(P:Program)(w:World)(K:Fg)(mg:Str->Option Value)(base:Heap)(A:Around)(outer:List Env)(s:Shared)(H:Hp):Prop where
 frames:A.frames=some outer
 mod:Mod K mg base
 bs:∀b o,base.get? b=some o->s.heap.get? b=some o/\H b=none
 bsz:base.objs.size<=s.heap.objs.size
 LZ:s.heap.FunFrames base outer
 frf:∀b∈frs outer,H b=none
 hok:HOk P w H s.heap
 bare:AllBare s.gens
def CE(outer:List Env)(P:Program)(w:World)(H:Hp)(s:Shared)(Q:VK)(u:Value)(s':Shared):Prop :=
 ∃v H',s'.os=s.os/\AllBare s'.gens/\Un (frs outer) [] H H' s.heap s'.heap/\HOk P w H' s'.heap/\RelV v u/\Q v H'
def CR(CX:CXT)(outer:List Env)(P:Program)(w:World)(H:Hp)(s:Shared)(Q:VK)(E:XK)(r:Result)(s':Shared):Prop :=
 match r with
 | .ok (.ret u)=>CE outer P w H s Q u s'
 | .ok _=>False
 | .error e=>CX outer H s E e s'
structure D9(P:Program)(w:World)(K:Fg)(mg:Str->Option Value)(base:Heap)(CX:CXT)(k:Nat)(f:Addr)(fd:FuncData)(ps:List Str)(sp:Sp):Prop where
 len:∀vs H Q E,sp vs H Q E->vs.length=ps.length
 run:∀(A:Around) (outer:List Env) (s:Shared) (H:Hp) (args:Args) (us:List Value) (vs:List V) (Q:VK) (E:XK),EX k A->UT P w K mg base A outer s H->BindsTo s fd args (ps.zip us)->Vals vs us->sp vs H Q E ->
  codeAny (model P w) A (.call (.ref f) args) (CR CX outer P w H s Q E) s
theorem D9.imp{P:Program}{w:World}{K:Fg}{mg:Str->Option Value}{base:Heap}{CX:CXT}{k:Nat}{f:Addr}{fd:FuncData}{ps:List Str}{sp sp':Sp}(F:D9 P w K mg base CX k f fd ps sp)
  (h:∀vs H Q E,sp' vs H Q E->sp vs H Q E):D9 P w K mg base CX k f fd ps sp' :=
 ⟨fun vs H Q E q=>F.len vs H Q E (h _ _ _ _ q),fun A outer s H args us vs Q E hr he hb hv hs=>F.run A outer s H args us vs Q E hr he hb hv (h _ _ _ _ hs)⟩
theorem UT.make{P:Program}{w:World}{K:Fg}{mg:Str->Option Value}{base:Heap}{A:Around}{outer:List Env}{s:Shared}{H:Hp}(e:UT P w K mg base A outer s H)(C:Addr)(us:List Value)(kw:List (Str×Value)) :
  UT P w K mg base (A.under (.builtin "type.__call__" ⟨.ref C :: us,kw⟩)) outer s H:=⟨by first | exact e.frames | (simpa [Around.under,Code.envs,Code.isFrame,pushEnvs] using e.frames),e.mod,e.bs,e.bsz,e.LZ,e.frf,e.hok,e.bare⟩
section
variable{X:Cx}{pins:List (Addr×Obj)}{σ:St}{H:Hp}{s s':Shared}
theorem Inv.X1(I:Inv X pins σ H s):UT X.prog X.w X.K X.mg X.base X.A X.stack s H :=
 ⟨I.ok.frames,I.ok.mod,I.bs,Nat.le_trans I.ok.bsz I.sz,I.stack,I.KD,I.hok,I.bare⟩
theorem Inv.after{Q:VK}{u:Value}(I:Inv X pins σ H s)(h:CE X.stack X.prog X.w H s Q u s'):EP X pins σ Q u s':=by
 obtain⟨v,H',os,bare,un,hok,r,q⟩:=h;obtain⟨hh,g,d,t,os'⟩:=s';obtain rfl:os'=s.os:=os;exact⟨v,H',I.call (h':=hh) (g':=g) (d':=d) (t':=t) (ch:=[]) un hok bare (fun b z=>absurd z (by simp)),r,q⟩
end
def S5(C:Addr)(m:Str)(sp:Sp)(dvs:List V)(E:XK)(ta:TE)(t:TA):TE:=fun σ H Q=>ta σ H fun x H1=>∃a dx fs,x=.ref a/\H1 a=some (.ins C dx fs)/\fs.lookup m=none /\
 t σ H1 fun vs H2=>sp (x :: (vs++dvs)) H2 Q E
def Binds(K:Fg)(fd:FuncData)(ps:List Str)(ds:List Value):Prop :=
 ∀(s:Shared) (us:List Value),K.In s.heap->(us++ds).length=ps.length->BindsTo s fd ⟨us,[]⟩ (ps.zip (us++ds))
theorem Binds.all{K:Fg}{fd:FuncData}{ps:List Str}(h:∀us:List Value,us.length=ps.length->bindArgs fd ⟨us,[]⟩=pure (ps.zip us)):Binds K fd ps []:=fun s us _ hl=>by
 rw [List.append_nil] at hl ⊢;exact .of_eq (h us hl)
def Passes(CX:CXT)(X:Cx)(E:XK):Prop:=∀(pins:List (Addr×Obj)) (σ:St) (H:Hp) (s:Shared) (e:Value) (s':Shared),Inv X pins σ H s->CX X.stack H s E e s'->X.xe e s'
section
variable{X:Cx}{CX:CXT}{k:Nat}{f C:Addr}{fd:FuncData}{ps:List Str}{sp:Sp}{dvs:List V}{ds:List Value}{E:XK}{x m:Str}{p pos apos:Pos}{e o:Expr}{es:List Expr}{ta:TE}{t:TA}
theorem Vk{pins:List (Addr×Obj)}{σ:St}{H:Hp}{s:Shared}{Q:VK}{us:List Value}{vs:List V}(F:D9 X.prog X.w X.K X.mg X.base CX k f fd ps sp)(hr:EX k X.A)(hb:Binds X.K fd ps ds)(hd:Vals dvs ds)(hx:Passes CX X E)
  (I:Inv X pins σ H s) (r:Vals vs us) (h:sp (vs++dvs) H Q E):wpAny (model X.prog X.w) X.A (call (.ref f) us) (EP X pins σ Q) X.xe s:=by
 have r2:Vals (vs++dvs) (us++ds):=r.append hd;have hl:(us++ds).length=ps.length:=by rw [<- r2.length];exact F.len _ _ _ _ h
 refine wpAny_call (codeAny_mono (F.run X.A X.stack s H ⟨us,[]⟩ (us++ds) (vs++dvs) Q E hr I.X1 (hb s us I.kIn hl) r2 h) fun r s' hq=>?_);cases r with
 | error e=>exact hx pins σ H s e s' I hq
 | ok fl =>
  cases fl with
  | ret u=>exact I.after hq
  | next=>exact False.elim hq
  | brk=>exact False.elim hq
  | cont=>exact False.elim hq
theorem Qy{pl:Sem Bool}(he:PE X o ta)(c:Cls X.K C)(hm:Meth X.K C m f)(F:D9 X.prog X.w X.K X.mg X.base CX k f fd ps sp)(hr:EX k X.A)(hb:Binds X.K fd ps ds)(hd:Vals dvs ds)(hx:Passes CX X E)
  (ht:eval (.Call (.Attribute o m apos) [] [] pos) X.env=(do
   let ov <- eval o X.env
   standAt apos.atName
   let(f,first) <- holding [ov] (getMethod ov m pl)
   callWith pos f first (backTo pos (starEach [] X.env)) (backToKw pos (keywordEach [] X.env))):=by rfl) :
  PE X (.Call (.Attribute o m apos) [] [] pos) (S5 C m sp dvs E ta WW):=by
 intro pins s σ H Q I h;refine PySem.W.methodCall_KW (pl:=pl) (thn (he pins s σ H _ I h) fun u s1 ⟨x,H1,I1,rx,a,dx,fs,ex,ea,l,q⟩=>?_) ht;subst ex;obtain rfl:u=Value.ref a:=rx;refine MW I1 ea c hm l ?_;exact PySem.W.callWith_K0 (first:=[.ref a]) I1.kIn hm.kp (Vk (us:=[.ref a]) (vs:=[.ref a]) F hr hb hd hx I1 (.cons rfl .nil) q)
structure Mk(K:Fg)(C f:Addr):Prop where
 makes:PySem.W.makesIn K C=true
 init:PySem.W.findIn K (.ref C) "__init__"=some (some (.ref f))
 fn:PySem.W.isFn K (.ref f)=true
 kp:PySem.W.keepIn K (.ref C)=true
end
section
variable{X:Cx}{CX:CXT}{k:Nat}{f C:Addr}{fd:FuncData}{ps ks:List Str}{sp:Sp}{E:XK}{x m:Str}{p pos apos kpos:Pos}{e o:Expr}{es:List Expr}{kws:List Keyword}{te ta:TE}{t tk:TA}{nm:Option Str}
variable{g:List Value->List Value->List Value}{gV:List V->List V->List V}
end
structure Br(N P:List Str)(sc:Scope):Prop where
 kind:sc.kind=.function
 co:sc.isCoroutine=false
 gen:sc.isGenerator=false
 nd:N.Nodup
 pre:N.take P.length=P
 par:∀x∈P,sc.names.lookup x=some .local∨sc.names.lookup x=some .cell
 nofree:∀y∈sc.names,y.2≠.free
theorem Kr{kindOf:Str->Option NameKind}{x:Str}:∀{binds:List (Str×Value)} {m:Str->Option Value},(∀v,(x,v)∉binds)->bindL kindOf binds m x=m x
 | [],_,_=>rfl
 | (n,v) :: r,m,h=>by
  unfold bindL;rw [Kr fun w hw=>h w (List.mem_cons_of_mem _ hw)];split
  ·have:x≠n:=by rintro rfl;exact h v List.mem_cons_self
   simp [this]
  ·rfl
theorem Kt{kindOf:Str->Option NameKind}{x:Str}:∀{binds:List (Str×Value)} {m:Str->Option Value},(∀v,(x,v)∉binds)->bindC kindOf binds m x=m x
 | [],_,_=>rfl
 | (n,v) :: r,m,h=>by
  unfold bindC;rw [Kt fun w hw=>h w (List.mem_cons_of_mem _ hw)];split
  ·rfl
  ·have:x≠n:=by rintro rfl;exact h v List.mem_cons_self
   simp [this]
theorem Ks{kindOf:Str->Option NameKind}{x:Str}{v:Value}:∀{P:List Str} {vs:List Value} {i:Nat} {m:Str->Option Value},P.Nodup->P[i]?=some x->vs[i]?=some v->kindOf x=some .local ->
  bindL kindOf (P.zip vs) m x=some v
 | [],_,_,_,_,h,_,_=>by simp at h
 | _ :: _,[],_,_,_,_,h,_=>by simp at h
 | p :: P,w :: vs,0,m,nd,h1,h2,hk=>by
  simp at h1 h2;subst h1;subst h2;show bindL kindOf ((p,w) :: P.zip vs) m p=_;unfold bindL;rw [Kr fun v hv=>(List.nodup_cons.mp nd).1 (List.of_mem_zip hv).1,if_pos hk];simp
 | p :: P,w :: vs,i+1,m,nd,h1,h2,hk=>by
  show bindL kindOf ((p,w) :: P.zip vs) m x=_;unfold bindL;exact Ks (i:=i) (List.nodup_cons.mp nd).2 (by simpa using h1) (by simpa using h2) hk
theorem Ku{kindOf:Str->Option NameKind}{x:Str}{v:Value}:∀{P:List Str} {vs:List Value} {i:Nat} {m:Str->Option Value},P.Nodup->P[i]?=some x->vs[i]?=some v->kindOf x≠some .local ->
  bindC kindOf (P.zip vs) m x=some v
 | [],_,_,_,_,h,_,_=>by simp at h
 | _ :: _,[],_,_,_,_,h,_=>by simp at h
 | p :: P,w :: vs,0,m,nd,h1,h2,hk=>by
  simp at h1 h2;subst h1;subst h2;show bindC kindOf ((p,w) :: P.zip vs) m p=_;unfold bindC;rw [Kt fun v hv=>(List.nodup_cons.mp nd).1 (List.of_mem_zip hv).1,if_neg hk];simp
 | p :: P,w :: vs,i+1,m,nd,h1,h2,hk=>by
  show bindC kindOf ((p,w) :: P.zip vs) m x=_;unfold bindC;exact Ku (i:=i) (List.nodup_cons.mp nd).2 (by simpa using h1) (by simpa using h2) hk
def start(N:List Str)(vs:List V):St:=vs.map some++List.replicate (N.length - vs.length) none
def M8(CX:CXT)(P:Program)(w:World)(K:Fg)(mg:Str->Option Value)(base:Heap)(N:List Str)(qual:Str)(scope:Scope)(f:Addr)(cd:Value)(A:Around)(outer:List Env)(s:Shared)(H:Hp)(E:XK):Cx where
 prog:=P
 w:=w
 K:=K
 mg:=mg
 base:=base
 A:=A.deeper (envOfC qual scope s.heap.objs.size f cd)
 N:=N
 s₀:=s
 H₀:=H
 env:=envOfC qual scope s.heap.objs.size f cd
 outer:=outer
 stack:=envOfC qual scope s.heap.objs.size f cd :: outer
 ex:=[]
 calm:=true
 fn:=fun _=>true
 pn:=[]
 xe:=fun e s'=>wpAny (model P w) (A.deeper (envOfC qual scope s.heap.objs.size f cd)) (leaving (envOfC qual scope s.heap.objs.size f cd) e) (fun _ s''=>CX outer H s E e s'') (fun e' s''=>CX outer H s E e' s'') s'
theorem Mi{sc:Scope}{n:Nat}{x:Str}(h:sc.names.lookup x=some .cell):∃c,(cellsFrom n sc.names []).lookup x=some c:=by
 have q:=PySem.W.cellsFrom_some sc.names n [] (.inl h);exact Option.isSome_iff_exists.mp q
theorem OB{CX:CXT}{P:Program}{w:World}{K:Fg}{mg:Str->Option Value}{base:Heap}{N ps:List Str}{qual:Str}{scope:Scope}{f:Addr}{cd:Value}{A:Around}{outer:List Env}{s s1:Shared}{H:Hp}{E:XK}{us:List Value}{vs:List V}
  (S:Br N ps scope) (hd:A.handled=none) (e0:UT P w K mg base A outer s H) (hl:vs.length=ps.length) (r:Vals vs us)
  (x:InCallC s s.heap.objs.size (bindL (envOfC qual scope s.heap.objs.size f cd).kindOf (ps.zip us) fun _=>none) (cellsFrom (s.heap.objs.size+1) scope.names []) (bindC (envOfC qual scope s.heap.objs.size f cd).kindOf (ps.zip us) fun _=>none) s1) :
  Inv (M8 CX P w K mg base N qual scope f cd A outer s H E) [] (start N vs) H s1:=by
 have hpl:ps.length<=N.length:=by have:=congrArg List.length S.pre;rw [List.length_take] at this;omega
 obtain⟨h1,tk,rfl,hk⟩:=x.done;have noA:∀b:Addr,b∉(M8 CX P w K mg base N qual scope f cd A outer s H E).ex:=fun b z=>absurd (show b∈([]:List Addr) from z) (by simp)
 refine⟨⟨e0.mod,S.kind,rfl,rfl,Nat.le_refl _,fun y z c h1 h2=>?_,fun y hy=>?_,fun y c _ h=>?_,fun _=>hd,Around.frames_deeper e0.frames,.inr ⟨rfl,rfl⟩,fun b z=>absurd z (noA b),e0.bs,e0.bsz,fun b _ _=>noA b,fun b z=>absurd z (noA b),e0.LZ,e0.frf⟩,
  rfl,e0.bare,Un.kept hk,⟨_,x.toInCall.ns,fun i y v h1 h2 h3=>?_⟩,fun y c h=>⟨_,x.cell y c h⟩,e0.hok.fresh (Nat.le_refl _),fun y c h=>?_,fun p hp=>absurd (show p∈([]:List (Addr×Obj)) from hp) (by simp),e0.hok.kept hk,?_⟩
 ·exact name_of_addr x.apart (PySem.mem_of_lookup h1) (PySem.mem_of_lookup h2)
 ·have hy:scope.names.lookup y=some .cell∨scope.names.lookup y=some .free:=hy
  rcases hy with hy | hy
  ·exact Mi hy
  ·exact absurd rfl (S.nofree _ (PySem.mem_of_lookup hy))
 ·exact Nat.le_of_lt (x.above y c (PySem.mem_of_lookup h))
 ·have hi:i < vs.length:=by
   unfold start at h2;by_cases hi:i < vs.length
   ·exact hi
   ·rw [List.getElem?_append_right (by simpa using hi)] at h2
    rw [List.getElem?_replicate] at h2;split at h2 <;> cases h2
  have ha:vs[i]?=some v:=by
   unfold start at h2;rw [List.getElem?_append_left (by simpa using hi),List.getElem?_map] at h2;cases e:vs[i]? with
   | none=>rw [e] at h2;cases h2
   | some a=>rw [e] at h2;cases h2;rfl
  obtain⟨u,hu,rv⟩:=r.get ha;have hp:ps[i]?=some y:=by
   rw [<- S.pre,List.getElem?_take_of_lt (by omega)];exact h1
  have ndP:ps.Nodup:=by rw [<- S.pre];exact S.nd.sublist (List.take_sublist _ _)
  refine⟨u,rv,?_⟩;rcases S.par y (List.mem_of_getElem? hp) with k | k
  ·exact .inl ⟨k,Ks ndP hp hu k⟩
  ·obtain⟨c,e⟩:=Mi (n:=s.heap.objs.size+1) k
   refine .inr ⟨.inl k,c,e,?_⟩;have q:=x.cell y c e;rw [Ku ndP hp hu (by show scope.names.lookup y≠_;rw [k];decide)] at q;exact q
 ·exact e0.hok.fresh (Nat.le_of_lt (x.above y c (PySem.mem_of_lookup h)))
 ·unfold start
  show _=N.length;rw [List.length_append,List.length_map,List.length_replicate];omega
section
variable{X:Cx}{x:Str}{p pos:Pos}{e:Expr}{es:List Expr}{t:TA}{id T:String}{r:List V->Hp->VK->Prop}
def tCB(r:List V->Hp->VK->Prop)(t:TA):TE:=fun σ H Q=>t σ H fun vs H1=>r vs H1 Q
theorem IV(hc:DJ X (.builtin id) r)(hg:Gl X x)(hm:X.mg x=none)(hv:bootBuiltins x=some (.builtin id))(ha:PA X (e :: es) t)(hn:x≠"__name__":=by decide)(hdb:(x == ("__debug__":Str))=false:=by decide)
  (he:starEach (e :: es) X.env=(false,eval e X.env) :: starEach es X.env:=by rfl) (hpl:(backTo pos (starEach es X.env)).any (·.1)=false:=by rfl):PE X (.Call (.Name x p) (e :: es) [] pos) (tCB r t):=by
 intro pins s σ H Q I h;refine wpAny_Call_Name_kw (Ho I hg hm hv ?_ hn hdb);exact PyProof.Rows.callWith_builtin1 (thn (ha pos pins s σ H _ I h) fun us s1 ⟨vs,H1,I1,r1,q1⟩=>hc pins s1 σ H1 vs us Q I1 r1 q1) he hpl
theorem NS(hc:DJ X (.type T) r)(hg:Gl X x)(hm:X.mg x=none)(hv:bootBuiltins x=some (.type T))(ha:PA X (e :: es) t)(hn:x≠"__name__":=by decide)(hdb:(x == ("__debug__":Str))=false:=by decide)
  (he:starEach (e :: es) X.env=(false,eval e X.env) :: starEach es X.env:=by rfl) (hpl:(backTo pos (starEach es X.env)).any (·.1)=false:=by rfl):PE X (.Call (.Name x p) (e :: es) [] pos) (tCB r t):=by
 intro pins s σ H Q I h;refine wpAny_Call_Name_kw (Ho I hg hm hv ?_ hn hdb);exact PyProof.Rows.callWith_type1 (thn (ha pos pins s σ H _ I h) fun us s1 ⟨vs,H1,I1,r1,q1⟩=>hc pins s1 σ H1 vs us Q I1 r1 q1) he hpl
end
end L2
namespace HT
open PySem PyProof.Rows
section
open PySem.SeqAt
open PySem.AutoSeq1 (wpAny_loadPart')
open PySem.MeetsSeq PySem.MeetsSeq2 PySem.MeetsSeq3
end
section
variable{prog:Program}{w:World}{A:Around}{E:Value->Shared->Prop}{s:Shared}
theorem UI{t b:Addr}{vs ws:List Value}{Q:Value->Shared->Prop}(ht:IsTup s.heap t vs.toArray)(hb:IsTup s.heap b ws.toArray)(hv:vs≠[])
  (h1:ws=[]->Q (.ref t) s) (h2:ws≠[]->Q (.ref s.heap.objs.size) { s with heap:=s.heap.push { cls:=.type "tuple",data:=.seq (vs++ws).toArray } })
  (hsz:vs.length+ws.length<=sizeLine):wpAny (model prog w) A (binaryOp .Add (.ref t) (.ref b)) Q E s:=by
 obtain⟨⟨cls,dd,data,sl⟩,ho,hc,n,hd⟩:=id ht;obtain⟨⟨cls2,dd2,data2,sl2⟩,ho2,hc2,n2,hd2⟩:=id hb;simp only at hc hd hc2 hd2;subst hc hd hc2 hd2;have e:vs.toArray++ws.toArray=(vs++ws).toArray:=by simp
 by_cases hw:ws=[]
 ·exact concat_meets ⟨_,ho,rfl⟩ ⟨_,ho2,rfl⟩ noFill_tuple_add seq_tuple_add PySem.F.slot_tuple_add PySem.F.entry_tuple_add (PySem.F.args_tuple_add_2 _ _)
   (tuple_addW1 t b vs.toArray ws.toArray n n2 dd dd2 sl sl2 (by simpa using hv) (by simp [hw])) ⟨ho,ho2,h1 hw⟩
 ·refine concat_meets ⟨_,ho,rfl⟩ ⟨_,ho2,rfl⟩ noFill_tuple_add seq_tuple_add PySem.F.slot_tuple_add PySem.F.entry_tuple_add (PySem.F.args_tuple_add_2 _ _)
   (tuple_addW2 t b vs.toArray ws.toArray n n2 dd dd2 sl sl2 (by simpa using hv) (by simpa using hw) (by rw [List.size_toArray,List.size_toArray];exact hsz)) ⟨ho,ho2,?_⟩
  rw [e];exact h2 hw
def sIx(n d:Nat):Option Int->Nat
 | none=>d
 | some v=>if v < 0 then(v+(n:Int)).toNat else min v.toNat n
theorem Vi(n d:Nat)(hd:d<=n)(o:Option Int):sIx n d o<=n:=by
 cases o with
 | none=>exact hd
 | some v =>
  show(if v < 0 then(v+(n:Int)).toNat else min v.toNat n)<=n;by_cases hv:v < 0
  ·rw [if_pos hv];omega
  ·rw [if_neg hv];exact Nat.min_le_right _ _
theorem Pz(v:Int)(n d:Nat):(if v < 0 then max (v+(n:Int)) 0 else min v (n:Int))=((sIx n d (some v):Nat):Int):=by
 show(if v < 0 then max (v+(n:Int)) 0 else min v (n:Int))=(((if v < 0 then(v+(n:Int)).toNat else min v.toNat n):Nat):Int);by_cases hv:v < 0
 ·simp only [if_pos hv];omega
 ·simp only [if_neg hv];omega
theorem Nf(lo hi:Option Int)(n:Nat):Builtin.Slice.sliceAdjust lo hi 1 (n:Int)=(((sIx n 0 lo:Nat):Int),((sIx n n hi:Nat):Int)):=by
 have h1:¬ ((1:Int) < 0):=by omega
 unfold Builtin.Slice.sliceAdjust;simp only [h1,if_false];refine Prod.ext ?_ ?_
 ·cases lo with
  | none=>rfl
  | some v=>exact Pz v n 0
 ·cases hi with
  | none=>rfl
  | some v=>exact Pz v n n
theorem ME(i j:Nat):Builtin.Slice.slicePlaces (i:Int) (j:Int) 1=j - i:=by
 unfold Builtin.Slice.slicePlaces;have h1:(1:Int) > 0:=by omega
 simp only [h1,if_true,Int.ediv_one];split <;> omega
theorem H0{v:Value}{o:Option Int}{Q:Option Int->Shared->Prop}(p:IsPart v o)(h:Q o s):wpAny (model prog w) A (Builtin.Slice.slicePartIndex v) Q E s:=by
 cases p with
 | none=>exact slicePart_none h
 | int i t=>exact slicePart_int h
theorem Ej{sl:Addr}{vl vu:Value}{lo hi:Option Int}{n:Nat}{Q:Int×Int×Nat->Shared->Prop}(hs:s.heap.IsSliceOf sl vl vu .none)(pl:IsPart vl lo)(pu:IsPart vu hi)
  (h:Q (((sIx n 0 lo:Nat):Int),1,sIx n n hi - sIx n 0 lo) s):wpAny (model prog w) A (Builtin.Slice.sliceApplied (.ref sl) (pure (n:Int))) Q E s:=by
 obtain⟨os,hos,hcs,hds⟩:=id hs;unfold Builtin.Slice.sliceApplied Builtin.Slice.sliceFields;refine wpAny_bind (wpAny_bind (wpAny_field hos hds (x:=vl) rfl (wpAny_bind (wpAny_field hos hds (x:=vu) rfl (wpAny_bind (wpAny_field hos hds (x:=.none) rfl (wpAny_pure ?_)))))));refine wpAny_bind (slicePart_none ?_);show wpAny _ _ (if((1:Int) == 0)=true then _ else _) _ _ s;rw [if_neg (by decide)];refine wpAny_bind (H0 pl (wpAny_bind (H0 pu (wpAny_bind (wpAny_pure ?_)))));show wpAny _ _ (match Builtin.Slice.sliceAdjust lo hi 1 (n:Int) with | (lo,hi)=>pure (lo,(1:Int),Builtin.Slice.slicePlaces lo hi 1)) _ _ s;rw [Nf lo hi n];show wpAny _ _ (pure (((sIx n 0 lo:Nat):Int),(1:Int),Builtin.Slice.slicePlaces ((sIx n 0 lo:Nat):Int) ((sIx n n hi:Nat):Int) 1)) _ _ s;rw [ME];exact wpAny_pure h
theorem Qw(xs:Array Value)(i k:Nat):((List.range k).filterMap fun(m:Nat)=>xs[((i:Int)+(m:Int) * 1).toNat]?).toArray=((xs.toList.drop i).take k).toArray:=by
 have e:(fun(m:Nat)=>xs[((i:Int)+(m:Int) * 1).toNat]?)=fun m=>xs[i+m]?:=by
  funext m;have:((i:Int)+(m:Int) * 1).toNat=i+m:=by omega
  rw [this]
 rw [e];have:=pick_run xs i k;rw [List.filterMap_map] at this;have e2:((fun x=>xs[x]?)∘fun x=>i+x)=fun m=>xs[i+m]?:=rfl
 rw [e2] at this;rw [this]
theorem Gg{t sl:Addr}{items:Array Value}{vl vu:Value}{lo hi:Option Int}{Q:Value->Shared->Prop}(ht:IsTup s.heap t items)(hs:s.heap.IsSliceOf sl vl vu .none)(pl:IsPart vl lo)(pu:IsPart vu hi)
  (hw:¬ (sIx items.size 0 lo=0/\sIx items.size items.size hi=items.size))
  (h:Q (.ref s.heap.objs.size) { s with heap:=s.heap.push { cls:=.type "tuple",data:=.seq ((items.toList.drop (sIx items.size 0 lo)).take (sIx items.size items.size hi - sIx items.size 0 lo)).toArray } })
  (hsz:items.size<=sizeLine):wpAny (model prog w) A (getItem (.ref t) (.ref sl)) Q E s:=by
 have htake:sizeOk (.seq ((items.toList.drop (sIx items.size 0 lo)).take (sIx items.size items.size hi - sIx items.size 0 lo)).toArray):=by
  show((items.toList.drop (sIx items.size 0 lo)).take (sIx items.size items.size hi - sIx items.size 0 lo)).toArray.size<=sizeLine;rw [List.size_toArray,List.length_take,List.length_drop,Array.length_toList];omega
 have hj:sIx items.size items.size hi<=items.size:=Vi _ _ (Nat.le_refl _) hi;obtain⟨os,hos,hcs,hds⟩:=id hs;have hTs:s.TypeIs (.ref sl) "slice":=⟨os,hos,hcs⟩
 unfold getItem
 try with_reducible refine wpAny_holding ?_
 first | refine wpAny_bind (wpAny_pure ?_) | skip
 refine wpAny_bind (wpAny_sequenceKey ht.typeIs (by decide) ?_);refine wpAny_bind (wpAny_callSpecial?_slot (name:=Str.ofString "__getitem__") ht.typeIs PyProof.Rows.slot_tuple_getitem
  (wpAny_call_entry PyProof.Rows.slot_tuple_getitem ht.typeIs entry_tuple_getitem ?_ (args_tuple_getitem _ _)))
 show wpAny _ _ (Builtin.Tuple.tupleItemsOf (.ref t) >>= _) _ _ s;refine wpAny_bind (tupleItemsOf_ ht ?_);refine wpAny_bind (wpAny_typeOf hTs ?_);rw [if_pos (by decide)];refine wpAny_bind (Ej hs pl pu ?_);have hno:¬ ((((sIx items.size 0 lo:Nat):Int) == 0 && (1:Int) == 1 && (sIx items.size items.size hi - sIx items.size 0 lo) == items.size)=true):=by
  intro q;rw [Bool.and_eq_true,Bool.and_eq_true] at q;have q1:((sIx items.size 0 lo:Nat):Int)=0:=eq_of_beq q.1.1;have q2:sIx items.size items.size hi - sIx items.size 0 lo=items.size:=eq_of_beq q.2;exact hw ⟨by omega,by omega⟩
 show wpAny _ _ (if(((sIx items.size 0 lo:Nat):Int) == 0 && (1:Int) == 1 && (sIx items.size items.size hi - sIx items.size 0 lo) == items.size)=true then _ else _) _ _ s;rw [if_neg hno,Qw]
 first
  | exact wpAny_bind (m:=Builtin.Tuple.tupleExact _) (wpAny_newObj_type (wpAny_pure ⟨_,rfl,wpAny_pure h⟩) htake)
  | exact wpAny_bind (m:=Builtin.Tuple.tupleExact _) (wpAny_newObj_type (wpAny_bind (wpAny_pure (wpAny_pure ⟨_,rfl,wpAny_pure h⟩))) htake)
  | exact wpAny_bind (wpAny_bind (m:=Builtin.Tuple.tupleExact _) (wpAny_newObj_type (wpAny_pure (wpAny_pure ⟨_,rfl,wpAny_pure h⟩)) htake))
  | exact wpAny_bind (wpAny_bind (m:=Builtin.Tuple.tupleExact _) (wpAny_newObj_type (wpAny_pure ⟨_,rfl,wpAny_pure h⟩) htake))
end
end HT
namespace L2
open PySem PySem.Spec PyProof.Rows
abbrev TO:=St->Hp->(Option Int->Hp->Prop)->Prop
def PO(X:Cx)(e:Option Expr)(t:TO):Prop :=
 ∀(pins:List (Addr×Obj)) (s:Shared) (σ:St) (H:Hp) (Q:Option Int->Hp->Prop),Inv X pins σ H s->t σ H Q ->
  wpAny (model X.prog X.w) X.A (evalPart e X.env) (fun u s'=>∃o H',Inv X pins σ H' s'/\IsPart u o/\Q o H') X.xe s
def S4:TO:=fun _ H Q=>Q none H
def Xk(t:TE):TO:=fun σ H Q=>t σ H fun x H1=>∃i,x=.int i/\Q (some i) H1
theorem intsAre_of{ns:List Int}:∀{us:List Value},Vals (ns.map V.int) us->IntsAre us ns:=by
 induction ns with
 | nil=>intro us r;rw [List.map_nil] at r;cases r;exact .nil
 | cons n ns ih =>
  intro us r;rw [List.map_cons] at r;cases r with
  | cons r1 r2 =>
   obtain⟨t,e⟩:=r1;subst e;exact .cons n t (ih r2)
section
variable{X:Cx}{e:Expr}{te:TE}{lo hi:Option Expr}{tl th:TO}{pos p2:Pos}
theorem Tn:PO X none S4:=by
 intro pins s σ H Q I h;rw [evalPart_none];exact wpAny_pure ⟨none,H,I,.none,h⟩
theorem Tj(h:PE X e te):PO X (some e) (Xk te):=by
 intro pins s σ H Q I hw;rw [evalPart_some];refine thn (h pins s σ H _ I hw) fun u s1 ⟨x,H1,I1,r1,q1⟩=>?_
 obtain⟨i,rfl,q⟩:=q1;obtain⟨t,rfl⟩:=r1;exact⟨some i,H1,I1,.int i t,q⟩
def SlR(X:Cx)(r:V->Option Int->Option Int->Hp->VK->Prop):Prop :=
 ∀(pins:List (Addr×Obj)) (s:Shared) (σ:St) (H:Hp) (x:V) (v vl vu:Value) (lo hi:Option Int) (sl:Addr) (Q:VK),Inv X pins σ H s->RelV x v->s.heap.IsSliceOf sl vl vu .none->IsPart vl lo->IsPart vu hi->r x lo hi H Q ->
  ∃T id,typeLookup (.type T) "__getitem__"=pure (some (.builtin id))/\s.TypeIs v T/\wpAny (model X.prog X.w) X.A (getItem v (.ref sl)) (EP X pins σ Q) X.xe s
theorem SlR.or{r r':V->Option Int->Option Int->Hp->VK->Prop}(h:SlR X r)(h':SlR X r'):SlR X (fun x lo hi H Q=>r x lo hi H Q∨r' x lo hi H Q):=by
 intro pins s σ H x v vl vu lo hi sl Q I rx hs pl pu q;rcases q with q | q
 ·exact h pins s σ H x v vl vu lo hi sl Q I rx hs pl pu q
 ·exact h' pins s σ H x v vl vu lo hi sl Q I rx hs pl pu q
def tSl(r:V->Option Int->Option Int->Hp->VK->Prop)(te:TE)(tl th:TO):TE:=fun σ H Q=>te σ H fun x H1=>tl σ H1 fun l H2=>th σ H2 fun u H3=>r x l u H3 Q
theorem Qx{r:V->Option Int->Option Int->Hp->VK->Prop}(hr:SlR X r)(he:PE X e te)(hl:PO X lo tl)(hu:PO X hi th):PE X (.Subscript e (.Slice lo hi none p2) pos) (tSl r te tl th):=by
 intro pins s σ H Q I h;refine Subscript_ (thn (he pins s σ H _ I h) fun v s1 ⟨x,H1,I1,r1,q1⟩=>?_);refine wpAny_Slice (thn (hl pins s1 σ H1 _ I1 q1) fun vl s2 ⟨l,H2,I2,pl,q2⟩=>thn (hu pins s2 σ H2 _ I2 q2) fun vu s3 ⟨u,H3,I3,pu,q3⟩=>?_);rw [evalPart_none];refine wpAny_pure ?_;have I4:Inv X pins σ H3 { s3 with heap:=s3.heap.push { cls:=.type "slice",data:=.fields #[vl,vu,.none] } }:=I3.kept (t':=s3.toks) fun b ob q=>Heap.get?_push_of_some _ q
 obtain⟨T,id,hT,ht,hg⟩:=hr pins { s3 with heap:=s3.heap.push { cls:=.type "slice",data:=.fields #[vl,vu,.none] } } σ H3 x v vl vu l u s3.heap.objs.size Q I4 r1 (Heap.IsSliceOf.new ..) pl pu q3;show wpAny (model X.prog X.w) X.A (subscriptTail e (.Slice lo hi none p2) v (.ref s3.heap.objs.size)) (EP X pins σ Q) X.xe { s3 with heap:=s3.heap.push { cls:=.type "slice",data:=.fields #[vl,vu,.none] } };exact tail_any (ops:=[.ref s3.heap.objs.size,v]) ht hT hg (by with_unfolding_all rfl)
def SH(xs:List V)(lo hi:Option Int):List V:=(xs.drop (HT.sIx xs.length 0 lo)).take (HT.sIx xs.length xs.length hi - HT.sIx xs.length 0 lo)
theorem HA(xs:List V)(lo hi:Option Int):(SH xs lo hi).length<=xs.length:=by
 unfold SH;rw [List.length_take,List.length_drop];omega
def Yx(K:Fg):V->Option Int->Option Int->Hp->VK->Prop:=fun x lo hi H Q=>∃a xs,x=.ref a/\SqT K H a xs /\
 ¬ (HT.sIx xs.length 0 lo=0/\HT.sIx xs.length xs.length hi=xs.length)/\∀p,H p=none->Q (.ref p) (upd H p (.tup (SH xs lo hi)))
theorem Vf:SlR X (Yx X.K):=by
 intro pins s σ H x v vl vu lo hi sl Q I rx hs pl pu h;obtain⟨a,xs,rfl,hx,hw,q⟩:=h;cases rx;obtain⟨its,r,ht,hz⟩:=I.tuple hx;have hlen:its.toArray.size=xs.length:=by rw [List.size_toArray];exact r.length.symm
 refine⟨"tuple",_,PyProof.Rows.slot_tuple_getitem.lookup,ht.typeIs,?_⟩;refine HT.Gg ht hs pl pu (by rw [hlen];exact hw) ?_ (by rw [hlen];exact hz);rw [hlen];refine⟨.ref s.heap.objs.size,_,I.laid (t':=s.toks) (o:=.tup (SH xs lo hi)) (fun b ob q=>Heap.get?_push_of_some _ q) (Nat.le_refl _) ?_,rfl,q _ (I.hok.fresh (Nat.le_refl _))⟩;exact⟨Nat.le_trans (HA xs lo hi) hz,_,(r.drop (HT.sIx xs.length 0 lo)).take (HT.sIx xs.length xs.length hi - HT.sIx xs.length 0 lo),IsTup.new _ _⟩
def Vo(K:Fg):R2:=fun x y H Q=>∃a b xs ys,x=.ref a/\y=.ref b/\SqT K H a xs/\SqT K H b ys/\xs≠[]/\xs.length+ys.length<=sizeLine /\
 (ys=[]->Q (.ref a) H)/\(ys≠[]->∀p,H p=none->Q (.ref p) (upd H p (.tup (xs++ys))))
theorem Vals.KZ{xs:List V}{us:List Value}(r:Vals xs us):us=[]↔xs=[]:=by
 cases r with
 | nil=>simp
 | cons _ _=>simp
theorem Tw:OpR X (binaryOp .Add) (Vo X.K):=by
 intro pins s σ H x y v u Q I rx ry h;obtain⟨a,b,xs,ys,rfl,rfl,ha,hb,hx,hz,q1,q2⟩:=h;cases rx;cases ry;obtain⟨its,r1,p1,_⟩:=I.tuple ha;obtain⟨its2,r2,p2,_⟩:=I.tuple hb;refine HT.UI p1 p2 (fun z=>hx (r1.KZ.mp z)) (fun z=>⟨.ref a,H,I,rfl,q1 (r2.KZ.mp z)⟩) (fun z=>?_) (by rw [<- r1.length,<- r2.length];exact hz);refine⟨.ref s.heap.objs.size,_,I.laid (t':=s.toks) (o:=.tup (xs++ys)) (fun b ob q=>Heap.get?_push_of_some _ q) (Nat.le_refl _) ?_,rfl,q2 (fun w=>z (r2.KZ.mpr w)) _ (I.hok.fresh (Nat.le_refl _))⟩;exact⟨by rw [List.length_append];exact hz,_,r1.append r2,IsTup.new _ _⟩
end
def ixN(n:Nat)(i:Int):Option Nat:=if 0<=i then(if i < n then some i.toNat else none) else if -(n:Int)<=i then some (i+n).toNat else none
def atI{α:Type}(xs:List α)(i:Int):Option α:=(ixN xs.length i).bind fun j=>xs[j]?
theorem Oz{n:Nat}{i:Int}{j:Nat}(h:ixN n i=some j):seqIndex? i n=some j/\j < n/\-(n:Int)<=i/\i < n:=by
 unfold ixN at h;by_cases h0:0<=i
 ·rw [if_pos h0] at h
  by_cases h1:i < n
  ·rw [if_pos h1] at h
   have e:i.toNat=j:=Option.some.inj h;exact⟨by rw [seqIndex_of h0 h1,e],by omega,by omega,h1⟩
  ·rw [if_neg h1] at h;cases h
 ·rw [if_neg h0] at h
  by_cases h1:-(n:Int)<=i
  ·rw [if_pos h1] at h
   have e:(i+n).toNat=j:=Option.some.inj h;exact⟨by rw [seqIndex_neg (by omega) h1,e],by omega,h1,by omega⟩
  ·rw [if_neg h1] at h;cases h
theorem Lw{α:Type}{xs:List α}{i:Int}{v:α}(h:atI xs i=some v):∃j,seqIndex? i xs.length=some j/\xs[j]?=some v/\j < xs.length/\-(xs.length:Int)<=i/\i < xs.length:=by
 unfold atI at h;cases e:ixN xs.length i with
 | none=>rw [e] at h;cases h
 | some j =>
  rw [e] at h;obtain⟨h1,h2,h3,h4⟩:=Oz e;exact⟨j,h1,h,h2,h3,h4⟩
theorem A2{α:Type}{xs:List α}{j:Nat}{v:α}(h:xs[j]?=some v):atI xs (j:Int)=some v:=by
 have hj:j < xs.length:=(List.getElem?_eq_some_iff.mp h).1;have e:ixN xs.length (j:Int)=some j:=by
  unfold ixN;rw [if_pos (by omega),if_pos (by omega)];simp
 unfold atI;rw [e];exact h
def Jt(b:Expr):Prop:=∀o i,subscripted b false o i=operate [o,i] (getItem o i)
def IxR(X:Cx)(r:R2):Prop :=
 ∀(value slice:Expr) (pins:List (Addr×Obj)) (s:Shared) (σ:St) (H:Hp) (x y:V) (v u:Value) (Q:VK),Inv X pins σ H s->RelV x v->RelV y u->r x y H Q ->
  subscripted slice false v u=operate [v,u] (getItem v u)->wpAny (model X.prog X.w) X.A (subscriptTail value slice v u) (EP X pins σ Q) X.xe s
def MtR(X:Cx)(id:String)(r:V->List V->Hp->VK->Prop):Prop :=
 ∀(pins:List (Addr×Obj)) (s:Shared) (σ:St) (H:Hp) (x:V) (xs:List V) (v:Value) (us:List Value) (Q:VK),Inv X pins σ H s->RelV x v->Vals xs us->r x xs H Q ->
  wpAny (model X.prog X.w) X.A (call (.builtin id) (v :: us)) (EP X pins σ Q) X.xe s
section
variable{X:Cx}{a b:Expr}{ta tb:TE}{pos:Pos}
theorem IxR.or{r r':R2}(h:IxR X r)(h':IxR X r'):IxR X (fun x y H Q=>r x y H Q∨r' x y H Q):=by
 intro value slice pins s σ H x y v u Q I rx ry q hs;rcases q with q | q
 ·exact h value slice pins s σ H x y v u Q I rx ry q hs
 ·exact h' value slice pins s σ H x y v u Q I rx ry q hs
theorem VB{r:R2}(hr:IxR X r)(ha:PE X a ta)(hb:PE X b tb)(hs:Jt b):PE X (.Subscript a b pos) (tOp r ta tb):=by
 intro pins s σ H Q I h;exact Subscript_ (X5 ha hb I h fun v u s2 x y H2 I2 rx ry q=>hr a b pins s2 σ H2 x y v u Q I2 rx ry q (hs _ _))
def Yf(K:Fg):R2:=fun x y H Q=>∃p xs i v,x=.ref p/\y=.int i/\SqL K H p xs/\atI xs i=some v/\Q v H
def Yd(K:Fg):R2:=fun x y H Q=>∃p xs i v,x=.ref p/\y=.int i/\SqT K H p xs/\atI xs i=some v/\Q v H
def Ye:R2:=fun x y H Q=>∃z i c,x=.str z/\y=.int i/\z.length<=sizeLine/\atI z.cps.toList i=some c/\Q (.str ⟨#[c]⟩) H
theorem Ua:IxR X (Yf X.K):=by
 intro value slice pins s σ H x y v u Q I rx ry h hs;obtain⟨p,xs,i,z,rfl,rfl,hq,he,q⟩:=h;cases rx;obtain⟨t,rfl⟩:=ry;obtain⟨its,r,pl,hz⟩:=I.list hq;obtain⟨j,h1,h2,h3,h4,h5⟩:=Lw he;obtain⟨w,ew,rw'⟩:=r.get h2;have hl:=r.length;have hn:=Hk;have fin:EP X pins σ Q w s:=⟨z,H,I,rw',q⟩
 by_cases h0:0<=i
 ·have hj:i.toNat=j:=by
   rw [seqIndex_of h0 h5] at h1;exact Option.some.inj h1
  exact item_listR pl.isList h0 (by omega) (by rw [hj];simpa using ew) fin hs
 ·have hj:(i+(its.toArray.size:Int)).toNat=j:=by
   rw [seqIndex_neg (by omega) h4] at h1;rw [List.size_toArray,<- hl];exact Option.some.inj h1
  exact subscriptTail_builtinR (x:=w) pl.isList.typeIs slot_list_getitem.lookup
   (wpAny_getItem_list_neg (Q:=fun r s'=>r=w/\EP X pins σ Q r s') pl.isList (by omega) (by rw [List.size_toArray] <;> omega) (by omega) (by rw [hj];simpa using ew) ⟨rfl,fin⟩) hs
theorem V6:IxR X (Yd X.K):=by
 intro value slice pins s σ H x y v u Q I rx ry h hs;obtain⟨p,xs,i,z,rfl,rfl,hq,he,q⟩:=h;cases rx;obtain⟨t,rfl⟩:=ry;obtain⟨its,r,pl,hz⟩:=I.tuple hq;obtain⟨j,h1,h2,h3,h4,h5⟩:=Lw he;obtain⟨w,ew,rw'⟩:=r.get h2;have hl:=r.length;have hn:=Hk;have fin:EP X pins σ Q w s:=⟨z,H,I,rw',q⟩
 exact subscriptTail_builtinR (x:=w) pl.typeIs slot_tuple_getitem.lookup
  (getItem_tuple (j:=j) (Q:=fun r s'=>r=w/\EP X pins σ Q r s') pl (by omega) (by omega) (by rw [List.size_toArray,<- hl];exact h1) (by simpa using ew) ⟨rfl,fin⟩) hs
theorem V7:IxR X Ye:=by
 intro value slice pins s σ H x y v u Q I rx ry h hs;obtain⟨z,i,c,rfl,rfl,hz,he,q⟩:=h;obtain⟨t,rfl⟩:=rx;obtain⟨t',rfl⟩:=ry;obtain⟨j,h1,h2,h3,h4,h5⟩:=Lw he;have hl:z.cps.toList.length=z.length:=by simp [Str.length]
 rw [hl] at h1 h4 h5;have hn:=Hk;exact tail_any (typeIs_str s z t) slot_str_getitem.lookup (getItem_str (c:=c) (by
  have e1:decide (i < -(2 ^ 63:Int))=false:=decide_eq_false (by omega);have e2:decide (i≥2 ^ 63)=false:=decide_eq_false (by omega);rw [e1,e2,Bool.or_false]) (by rw [h1];simpa using h2) ⟨.str ⟨#[c]⟩,H,I.tok _,⟨_,rfl⟩,q⟩) hs
def rIx(K:Fg):R2:=fun x y H Q=>Yf K x y H Q∨Yd K x y H Q∨Ye x y H Q
theorem Sh:IxR X (rIx X.K):=Ua.or (V6.or V7)
theorem MM(its:List Value)(n j:Nat)(u:Value):Obj.mapSeq (·.setIfInBounds j u) { cls:=.type "list",data:=.seq its.toArray n }={ cls:=.type "list",data:=.seq (its.set j u).toArray n }:=by
 simp [Obj.mapSeq]
theorem Inv.lst{pins:List (Addr×Obj)}{σ:St}{H:Hp}{s:Shared}{p:Addr}{xs:List V}(I:Inv X pins σ H s)(h:H p=some (.lst xs)) :
  ∃(its:List Value) (n:Nat),Vals xs its/\s.heap.get? p=some { cls:=.type "list",data:=.seq its.toArray n }/\xs.length<=sizeLine:=by
 obtain⟨z,its,n,r,e⟩:=I.hok p _ h;exact⟨its,n,r,e,z⟩
theorem Inv.VZ{pins:List (Addr×Obj)}{σ:St}{H:Hp}{s:Shared}{p:Addr}{xs ys:List V}{its its':List Value}{n n':Nat}{f:Obj->Obj}(I:Inv X pins σ H s)(h:H p=some (.lst xs))
  (ho:s.heap.get? p=some { cls:=.type "list",data:=.seq its.toArray n }) (hf:f { cls:=.type "list",data:=.seq its.toArray n }={ cls:=.type "list",data:=.seq its'.toArray n' }) (r:Vals ys its') (hz:ys.length<=sizeLine) (t:Nat) :
  Inv X pins σ (upd H p (.lst ys)) { s with heap:=s.heap.update p f,toks:=t }:=by
 have e:(s.heap.update p f).get? p=some { cls:=.type "list",data:=.seq its'.toArray n' }:=by
  rw [Heap.get?_update_self f ho (by rw [hf] <;> rfl),hf]
 refine I.write (x:=p) (e:=p) (by rw [h];trivial) (.inl rfl) (fun b u hb q=>(Heap.get?_update_other _ _ (Ne.symm hb)).trans q) ⟨_,e⟩ ?_;exact⟨hz,its',n',r,e⟩
def Qq:V->V->V->Hp->(Hp->Prop)->Prop:=fun o i v H Q=>∃p xs k j,o=.ref p/\i=.int k/\H p=some (.lst xs)/\ixN xs.length k=some j/\Q (upd H p (.lst (xs.set j v)))
theorem set_list:P8 X Qq:=by
 intro pins s σ H o i v ov iv u Q I ro ri rv h;obtain⟨p,xs,k,j,rfl,rfl,hp,hj,q⟩:=h;cases ro;obtain⟨t,rfl⟩:=ri;obtain⟨its,n,r,ho,hz⟩:=I.lst hp;obtain⟨h1,h2,h3,h4⟩:=Oz hj;have hl:=r.length;have hn:=Hk;have I':Inv X pins σ (upd H p (.lst (xs.set j v))) { s with heap:=s.heap.update p (Obj.mapSeq (·.setIfInBounds j u)) } :=
  I.VZ hp ho (MM its n j u) (r.set rv j) (by rw [List.length_set];exact hz) s.toks
 by_cases h0:0<=k
 ·have hk:k.toNat=j:=by
   rw [seqIndex_of h0 h4] at h1;exact Option.some.inj h1
  exact PySem.W.ki_setAt ho h0 (by omega) (by rw [List.size_toArray,<- hl];exact h4) (by rw [hk];exact⟨_,I',q⟩)
 ·have hk:(k+(its.toArray.size:Int)).toNat=j:=by
   rw [seqIndex_neg (by omega) h3] at h1;rw [List.size_toArray,<- hl];exact Option.some.inj h1
  exact PySem.W.ki_setBack ho (by omega) (by rw [List.size_toArray,<- hl];exact h3) (by omega) (by rw [hk];exact⟨_,I',q⟩)
theorem JF(lo hi:Option Int)(n:Nat):(sliceBounds lo hi none n).1=((HT.sIx n 0 lo:Nat):Int)/\(sliceBounds lo hi none n).2.1=((HT.sIx n n hi:Nat):Int)/\(sliceBounds lo hi none n).2.2=1:=by
 refine⟨?_,?_,rfl⟩
 ·cases lo with
  | none=>simp [sliceBounds,HT.sIx]
  | some i =>
   simp only [sliceBounds,HT.sIx,Option.getD_none,show(1:Int) > 0 by decide,if_true];by_cases h:i < 0
   ·simp only [h,if_true] <;> omega
   ·simp only [h,if_false] <;> omega
 ·cases hi with
  | none=>simp [sliceBounds,HT.sIx]
  | some i =>
   simp only [sliceBounds,HT.sIx,Option.getD_none,show(1:Int) > 0 by decide,if_true];by_cases h:i < 0
   ·simp only [h,if_true] <;> omega
   ·simp only [h,if_false] <;> omega
theorem IG(its:List Value)(lo hi:Option Int):slicePick its.toArray lo hi none=((its.drop (HT.sIx its.length 0 lo)).take (HT.sIx its.length its.length hi - HT.sIx its.length 0 lo)).toArray:=by
 obtain⟨h1,h2,h3⟩:=JF lo hi its.toArray.size;unfold slicePick;rw [h1,h2,h3];simp only [sliceRange_one,pick_run,List.size_toArray] <;> rfl
def Yy(K:Fg):V->Option Int->Option Int->Hp->VK->Prop:=fun x lo hi H Q=>∃a xs,x=.ref a/\SqL K H a xs/\∀p,H p=none->Q (.ref p) (upd H p (.lst (SH xs lo hi)))
theorem S8:SlR X (Yy X.K):=by
 intro pins s σ H x v vl vu lo hi sl Q I rx hs pl pu h;obtain⟨a,xs,rfl,hx,q⟩:=h;cases rx;obtain⟨its,r,ht,hz⟩:=I.list hx;have hlen:=r.length;refine⟨"list",_,slot_list_getitem.lookup,ht.isList.typeIs,?_⟩;refine wpAny_getItem_list_slice ht.isList hs pl pu .none (by simp) ?_ (by rw [List.size_toArray] <;> omega);rw [IG,<- hlen];refine⟨.ref s.heap.objs.size,_,I.laid (t':=s.toks) (o:=.lst (SH xs lo hi)) (fun b ob q=>Heap.get?_push_of_some _ q) (Nat.le_refl _) ?_,rfl,q _ (I.hok.fresh (Nat.le_refl _))⟩;exact⟨Nat.le_trans (HA xs lo hi) hz,_,0,(r.drop (HT.sIx xs.length 0 lo)).take (HT.sIx xs.length xs.length hi - HT.sIx xs.length 0 lo),Heap.get?_push_size _ rfl⟩
def Gk:V->Bool
 | .non=>true
 | .bl _=>true
 | .int _=>true
 | .str _=>true
 | _=>false
def eqV:V->V->Bool
 | .non,.non=>true
 | .bl a,.bl b=>a == b
 | .bl a,.int b=>(if a then 1 else 0) == b
 | .int a,.bl b=>a == (if b then 1 else 0)
 | .int a,.int b=>a == b
 | .str a,.str b=>a == b
 | _,_=>false
theorem SF{A:Around}{s:Shared}{y x:V}{u v:Value}(ry:RelV y u)(rx:RelV x v)(fy:Gk y=true)(fx:Gk x=true):SeqAt.EqAt A s u v (eqV y x):=by
 cases y with
 | non =>
  cases ry;cases x with
  | non=>cases rx;exact SeqAt.EqAt.same _
  | bl b=>cases rx;exact SeqAt.EqAt.none_bool b
  | int b=>obtain⟨t,rfl⟩:=rx;exact SeqAt.EqAt.none_int b t
  | str b=>obtain⟨t,rfl⟩:=rx;exact SeqAt.EqAt.none_str b t
  | _=>exact absurd (show false=true from fx) Bool.false_ne_true
 | bl a =>
  cases ry;cases x with
  | non=>cases rx;exact SeqAt.EqAt.bool_none a
  | bl b=>cases rx;exact SeqAt.EqAt.bool_bool a b
  | int b=>obtain⟨t,rfl⟩:=rx;exact SeqAt.EqAt.bool_int a b t
  | str b=>obtain⟨t,rfl⟩:=rx;exact SeqAt.EqAt.bool_str a b t
  | _=>exact absurd (show false=true from fx) Bool.false_ne_true
 | int a =>
  obtain⟨t',rfl⟩:=ry;cases x with
  | non=>cases rx;exact SeqAt.EqAt.int_none a t'
  | bl b=>cases rx;exact SeqAt.EqAt.int_bool a t' b
  | int b=>obtain⟨t,rfl⟩:=rx;exact SeqAt.EqAt.int_int a t' b t
  | str b=>obtain⟨t,rfl⟩:=rx;exact SeqAt.EqAt.int_str a t' b t
  | _=>exact absurd (show false=true from fx) Bool.false_ne_true
 | str a =>
  obtain⟨t',rfl⟩:=ry;cases x with
  | non=>cases rx;exact SeqAt.EqAt.str_none a t'
  | bl b=>cases rx;exact SeqAt.EqAt.str_bool a t' b
  | int b=>obtain⟨t,rfl⟩:=rx;exact SeqAt.EqAt.str_int a t' b t
  | str b=>obtain⟨t,rfl⟩:=rx;exact SeqAt.EqAt.str_str a t' b t
  | _=>exact absurd (show false=true from fx) Bool.false_ne_true
 | _=>exact absurd (show false=true from fy) Bool.false_ne_true
def eqU(x:V)(u:Value):Bool:=match u with
 | .none=>eqV .non x
 | .bool b=>eqV (.bl b) x
 | .int i _=>eqV (.int i) x
 | .str z _=>eqV (.str z) x
 | _=>false
theorem SE{x y:V}{u:Value}(r:RelV y u)(f:Gk y=true):eqU x u=eqV y x:=by
 cases y with
 | non=>cases r;rfl
 | bl b=>cases r;rfl
 | int i=>obtain⟨t,rfl⟩:=r;rfl
 | str z=>obtain⟨t,rfl⟩:=r;rfl
 | _=>exact absurd (show false=true from f) Bool.false_ne_true
theorem HJ{x:V}:∀{xs:List V} {us:List Value},Vals xs us->xs.all Gk=true->us.any (eqU x)=xs.any fun y=>eqV y x
 | _,_,.nil,_=>rfl
 | y :: xs,u :: us,.cons r t,f=>by
  rw [List.all_cons,Bool.and_eq_true] at f;rw [List.any_cons,List.any_cons,SE r f.1,HJ t f.2]
theorem Fy{A:Around}{s:Shared}{x:V}{v:Value}(rx:RelV x v)(fx:Gk x=true):∀{xs:List V} {us:List Value},Vals xs us->xs.all Gk=true->∀u∈us,SeqAt.EqAt A s u v (eqU x u)
 | _,_,.nil,_=>fun u hu=>by cases hu
 | y :: xs,u :: us,.cons r t,f=>fun u' hu=>by
  rw [List.all_cons,Bool.and_eq_true] at f;rcases List.mem_cons.mp hu with rfl | hu
  ·rw [SE r f.1];exact SF r rx f.1 fx
  ·exact Fy rx fx t f.2 u' hu
def inV(x:V)(xs:List V):Bool:=xs.any fun y=>eqV y x
def rIn(K:Fg)(neg:Bool):R2:=fun x y H Q=>∃p xs,y=.ref p/\(SqL K H p xs∨SqT K H p xs)/\Gk x=true/\xs.all Gk=true/\Q (.bl (if neg then !inV x xs else inV x xs)) H
theorem JX:OpR X (compareOp .In) (rIn X.K false):=by
 intro pins s σ H x y v u Q I rx ry h;obtain⟨p,xs,rfl,hq,fx,fs,q⟩:=h;cases ry;rcases hq with hq | hq
 ·obtain⟨its,r,pl,hz⟩:=I.list hq
  refine SeqAt.in_listAt (eqU x) pl.isList (fun w hw=>Fy rx fx r fs w (by simpa using hw)) ⟨.bl _,H,I,rfl,?_⟩;rw [show its.toArray.any (eqU x)=its.any (eqU x) by simp,HJ r fs];exact q
 ·obtain⟨its,r,pl,hz⟩:=I.tuple hq
  refine SeqAt.in_tupleAt (eqU x) pl (fun w hw=>Fy rx fx r fs w (by simpa using hw)) ⟨.bl _,H,I,rfl,?_⟩;rw [show its.toArray.any (eqU x)=its.any (eqU x) by simp,HJ r fs];exact q
theorem JV:OpR X (compareOp .NotIn) (rIn X.K true):=by
 intro pins s σ H x y v u Q I rx ry h;obtain⟨p,xs,rfl,hq,fx,fs,q⟩:=h;cases ry;rcases hq with hq | hq
 ·obtain⟨its,r,pl,hz⟩:=I.list hq
  refine SeqAt.notIn_listAt (eqU x) pl.isList (fun w hw=>Fy rx fx r fs w (by simpa using hw)) ⟨.bl _,H,I,rfl,?_⟩;rw [show its.toArray.any (eqU x)=its.any (eqU x) by simp,HJ r fs];exact q
 ·obtain⟨its,r,pl,hz⟩:=I.tuple hq
  refine SeqAt.notIn_tupleAt (eqU x) pl (fun w hw=>Fy rx fx r fs w (by simpa using hw)) ⟨.bl _,H,I,rfl,?_⟩;rw [show its.toArray.any (eqU x)=its.any (eqU x) by simp,HJ r fs];exact q
theorem JU:OpR X (compareOp .NotIn) (fun x y H Q=>∃i j,x=.str i/\y=.str j/\Q (.bl (!(!(Builtin.Str.occurrences j i 0 j.length 1).isEmpty))) H):=by
 intro pins s σ H x y v u Q I rx ry h;obtain⟨i,j,rfl,rfl,q⟩:=h;obtain⟨t,rfl⟩:=rx;obtain⟨t',rfl⟩:=ry;exact notIn_str ⟨.bl _,H,I,rfl,q⟩
theorem Gz:DJ X (.builtin "len") (fun xs H Q=>∃p ys,xs=[.ref p]/\(SqL X.K H p ys∨SqT X.K H p ys)/\Q (.int ys.length) H):=by
 intro pins s σ H xs us Q I r h;obtain⟨p,ys,rfl,hq,q⟩:=h;obtain⟨u,rfl,rx⟩:=vals1 r;cases rx;have hn:=Hk;rcases hq with hq | hq
 ·obtain⟨its,r',pl,hz⟩:=I.list hq
  have hlen:=r'.length;exact Calls.call_len_list pl.isList (by simp only [List.size_toArray] <;> omega) ⟨.int ys.length,H,I.tok _,⟨s.toks+1,by rw [List.size_toArray,hlen]⟩,q⟩
 ·obtain⟨its,r',pl,hz⟩:=I.tuple hq
  have hlen:=r'.length;exact len_tuple pl (by simp only [List.size_toArray] <;> omega) ⟨.int ys.length,H,I.tok _,⟨s.toks+1,by rw [List.size_toArray,hlen]⟩,q⟩
theorem Kp:DJ X (.builtin "len") (fun xs H Q=>∃z,xs=[.str z]/\z.length<=sizeLine/\Q (.int z.length) H):=by
 intro pins s σ H xs us Q I r h;obtain⟨z,rfl,hz,q⟩:=h;obtain⟨u,rfl,t,rfl⟩:=vals1 r;have hn:=Hk;exact len_str (by omega) ⟨.int z.length,H,I.tok _,⟨_,rfl⟩,q⟩
theorem Ko:DJ X (.type "list") (fun xs H Q=>∃p ys,xs=[.ref p]/\(SqL X.K H p ys∨SqT X.K H p ys)/\∀l,H l=none->Q (.ref l) (upd H l (.lst ys))):=by
 intro pins s σ H xs us Q I r h;obtain⟨p,ys,rfl,hq,q⟩:=h;obtain⟨u,rfl,rx⟩:=vals1 r;cases rx;have fin:∀(its:List Value),Vals ys its->ys.length<=sizeLine->∀(h':Heap) (c':Nat),(∀b o',s.heap.get? b=some o'->h'.get? b=some o') ->
   h'.get? s.heap.objs.size=some { cls:=.type "list",dict:=none,data:=.seq its.toArray c',slots:=#[] }->EP X pins σ Q (.ref s.heap.objs.size) { s with heap:=h' }:=fun its r' hz h' c' kp e =>
  ⟨.ref s.heap.objs.size,_,I.laid (t':=s.toks) kp (Nat.le_refl _) (show C4 X.prog X.w _ h' _ (.lst ys) from⟨hz,its,c',r',e⟩),rfl,q _ (I.hok.fresh (Nat.le_refl _))⟩
 rcases hq with hq | hq
 ·obtain⟨its,r',pl,hz⟩:=I.list hq
  have hlen:=r'.length;obtain⟨o,ho,hc,n,hd⟩:=pl.isList;exact call_list_seq p (.inl rfl) ho hc hd (fun h' c' kp e=>fin its r' hz h' c' kp e) (by simp only [List.size_toArray] <;> omega)
 ·obtain⟨its,r',pl,hz⟩:=I.tuple hq
  have hlen:=r'.length;obtain⟨o,ho,hc,n,hd⟩:=pl;exact call_list_seq p (.inr rfl) ho hc hd (fun h' c' kp e=>fin its r' hz h' c' kp e) (by simp only [List.size_toArray] <;> omega)
theorem Jp:DJ X (.type "tuple") (fun xs H Q=>∃p ys,xs=[.ref p]/\((SqL X.K H p ys/\∀l,H l=none->Q (.ref l) (upd H l (.tup ys)))∨(SqT X.K H p ys/\Q (.ref p) H))):=by
 intro pins s σ H xs us Q I r h;obtain⟨p,ys,rfl,h⟩:=h;obtain⟨u,rfl,rx⟩:=vals1 r;cases rx;rcases h with⟨hq,q⟩ | ⟨hq,q⟩
 ·obtain⟨its,r',pl,hz⟩:=I.list hq
  have hlen:=r'.length;refine call_tuple_list pl.isList (fun h' kp=>?_) (by simp only [List.size_toArray] <;> omega);have I1:Inv X pins σ H { s with heap:=h' }:=I.kept (t':=s.toks) kp;have I2:Inv X pins σ (upd H h'.objs.size (.tup ys)) { s with heap:=h'.push { cls:=.type "tuple",data:=.seq its.toArray } } :=
   I1.laid (t':=s.toks) (fun b o e=>Heap.get?_push_of_some _ e) (Nat.le_refl _) (show C4 X.prog X.w _ _ _ (.tup ys) from⟨hz,its,r',IsTup.new _ _⟩)
  exact⟨.ref h'.objs.size,_,I2,rfl,q _ (I1.hok.fresh (Nat.le_refl _))⟩
 ·obtain⟨its,r',pl,hz⟩:=I.tuple hq
  exact call_tuple_same pl ⟨.ref p,H,I,rfl,q⟩
def tyV(K:Fg)(T:String)(x:V)(H:Hp):Prop:=match x with
 | .str _=>T="str"
 | .int _=>T="int"
 | .ref p=>(T="list"/\∃xs,SqL K H p xs)∨(T="tuple"/\∃o,K.lookup p=some o/\o.cls=.type "tuple"/\o.dict=none) ∨
   (T="dict"/\((∃kvs,H p=some (.dK kvs))∨∃kvs,H p=some (.dT kvs)))∨(T="set"/\∃S n,H p=some (.set S n))
 | _=>False
theorem RO{pins:List (Addr×Obj)}{σ:St}{H:Hp}{s:Shared}{T:String}{x:V}{v:Value}(I:Inv X pins σ H s)(r:RelV x v)(ty:tyV X.K T x H) :
  s.TypeIs v T/\∀a,v=.ref a->∃ob,s.heap.get? a=some ob/\ob.dict=none:=by
 cases x with
 | str z =>
  obtain⟨t,rfl⟩:=r;cases(show T="str" from ty);exact⟨typeIs_str s z t,fun _ e=>nomatch e⟩
 | int i =>
  obtain⟨t,rfl⟩:=r;cases(show T="int" from ty);exact⟨typeIs_int s i t,fun _ e=>nomatch e⟩
 | ref p =>
  cases r;rcases ty with⟨rfl,xs,hq⟩ | ⟨rfl,o,hk,hc,hd⟩ | ⟨rfl,hk⟩ | ⟨rfl,S,n,hk⟩
  ·obtain⟨its,_,pl,_⟩:=I.list hq
   refine⟨pl.isList.typeIs,fun a e=>?_⟩;cases e;obtain⟨o,n,e,c,hd,_⟩:=pl;exact⟨o,e,hd⟩
  ·refine⟨⟨o,I.kIn p o hk,hc⟩,fun a e=>?_⟩
   cases e;exact⟨o,I.kIn _ o hk,hd⟩
  ·have z:∃o,s.heap.get? p=some o/\o.ExactDict:=by
    rcases hk with⟨kvs,hk⟩ | ⟨kvs,hk⟩
    ·obtain⟨_,_,_,_,o,_,_,e,ex,_⟩:=I.hok p _ hk
     exact⟨o,e,ex⟩
    ·obtain⟨_,_,_,_,o,_,_,e,ex,_⟩:=I.hok p _ hk
     exact⟨o,e,ex⟩
   obtain⟨o,e,ex⟩:=z;refine⟨⟨o,e,ex.1⟩,fun a e2=>?_⟩;cases e2;exact⟨o,e,ex.2.1⟩
  ·obtain⟨o,_,_,_,e,ex,_⟩:=I.hok p _ hk
   refine⟨⟨o,e,ex.1⟩,fun a e2=>?_⟩;cases e2;exact⟨o,e,ex.2.1⟩
 | _=>exact False.elim ty
def Yv(K:Fg)(T:String)(r:V->List V->Hp->VK->Prop)(to:TE):TE:=fun σ H Q=>to σ H fun x H1=>tyV K T x H1/\r x [] H1 Q
def tBM(K:Fg)(T:String)(r:V->List V->Hp->VK->Prop)(to:TE)(t:TA):TE:=fun σ H Q=>to σ H fun x H1=>tyV K T x H1/\t σ H1 fun xs H2=>r x xs H2 Q
variable{o e:Expr}{es:List Expr}{to:TE}{t:TA}{name:Str}{apos cpos:Pos}{T id:String}{r:V->List V->Hp->VK->Prop}
theorem VF(pa:PlainAttrs T)(slot:Slot T name id)(hty:typeOf (.builtin id)=pure (.type "method_descriptor"))(hm:MtR X id r)(ho:PE X o to)
  (hbase:attributeBase o name X.env (eval o X.env)=eval o X.env:=by rfl) (hline:(apos.endLine == cpos.line)=true:=by rfl):PE X (.Call (.Attribute o name apos) [] [] cpos) (Yv X.K T r to):=by
 intro pins s σ H Q I h;refine wpAny_Call_method0_late hbase hline (thn (ho pins s σ H _ I h) fun v s1 ⟨x,H1,I1,r1,ty,q1⟩=>?_);obtain⟨h1,h2⟩:=RO I1 r1 ty;exact⟨T,id,pa,slot,hty,h1,h2,Calls.callWith_builtin rfl (PySem.evalArgs_none (hm pins s1 σ H1 x [] v [] Q I1 r1 .nil q1))⟩
theorem VG(pa:PlainAttrs T)(slot:Slot T name id)(hty:typeOf (.builtin id)=pure (.type "method_descriptor"))(hm:MtR X id r)(ho:PE X o to)(ha:PA X (e :: es) t)
  (hbase:attributeBase o name X.env (eval o X.env)=eval o X.env:=by rfl)
  (hfew:((backTo cpos (starEach (e :: es) X.env)).all (fun x=>!x.1) && (backToKw cpos (keywordEach [] X.env)).all (fun x=>x.1.isSome)
   && decide ((e :: es).length+([]:List Keyword).length+(if([]:List Keyword).isEmpty then 0 else 1) < 30))=true:=by rfl)
  (hline:(apos.endLine == cpos.line)=true:=by rfl) (hs:starEach (e :: es) X.env=(false,eval e X.env) :: starEach es X.env:=by rfl) (hplain:(backTo cpos (starEach es X.env)).any (·.1)=false:=by rfl) :
  PE X (.Call (.Attribute o name apos) (e :: es) [] cpos) (tBM X.K T r to t):=by
 intro pins s σ H Q I h;refine wpAny_Call_method_late hbase hfew hline rfl (thn (ho pins s σ H _ I h) fun v s1 ⟨x,H1,I1,r1,ty,q1⟩=>?_);obtain⟨h1,h2⟩:=RO I1 r1 ty;refine⟨T,id,pa,slot,hty,h1,h2,?_⟩;have hA:=ha cpos pins s1 σ H1 _ I1 q1;rw [hs] at hA ⊢;refine Calls.callWith_builtin (by show(false || (backTo cpos (starEach es X.env)).any (·.1))=false;rw [hplain] <;> rfl) (Calls.evalArgs_plain ?_);exact thn hA fun us s2 ⟨vs,H2,I2,r2,q2⟩=>hm pins s2 σ H2 x vs v us Q I2 r1 r2 q2
end
def MtM(X:Cx)(id:String)(r:V->List V->Hp->VK->Prop):Prop :=
 ∀(pins:List (Addr×Obj)) (s:Shared) (σ:St) (H:Hp) (x:V) (xs:List V) (v:Value) (us:List Value) (Q:VK),Inv X pins σ H s->RelV x v->Vals xs us->r x xs H Q ->
  wpAny (model X.prog X.w) X.A (call (.builtin id) (v :: us)) (EP X pins σ Q) X.xe s
theorem Vals.one:∀{x:V} {us:List Value},Vals [x] us->∃u,us=[u]/\RelV x u
 | _,_,.cons r .nil=>⟨_,rfl,r⟩
theorem Vals.zero:∀{us:List Value},Vals [] us->us=[]
 | _,.nil=>rfl
theorem Vals.dropLast{xs:List V}{us:List Value}(h:Vals xs us):Vals xs.dropLast us.dropLast:=by
 induction h with
 | nil=>exact .nil
 | cons r t ih =>
  cases t with
  | nil=>exact .nil
  | cons q t'=>exact .cons r ih
theorem Vals.reverse{xs:List V}{us:List Value}(h:Vals xs us):Vals xs.reverse us.reverse:=by
 induction h with
 | nil=>exact .nil
 | cons r t ih=>rw [List.reverse_cons,List.reverse_cons];exact Vals.append ih (.cons r .nil)
theorem M7{α:Type}(l:List α):l.eraseIdx (l.length - 1)=l.dropLast:=by
 induction l with
 | nil=>rfl
 | cons a r ih =>
  cases r with
  | nil=>rfl
  | cons b r =>
   have e:(a :: b :: r).length - 1=((b :: r).length - 1)+1:=by
    have h1:(a :: b :: r).length=r.length+2:=rfl;have h2:(b :: r).length=r.length+1:=rfl;omega
   rw [e,List.eraseIdx_cons_succ,ih]
   all_goals rfl
section
variable{X:Cx}{pins:List (Addr×Obj)}{σ:St}{H:Hp}{s:Shared}{l b:Addr}{xs ys zs:List V}
theorem Inv.Yj{its its':List Value}{n:Nat}{f:Array Value->Array Value}{t':Nat}(I:Inv X pins σ H s)(hH:H l=some (.lst xs))
  (e:s.heap.get? l=some { cls:=.type "list",data:=.seq its.toArray n }) (hf:f its.toArray=its'.toArray) (hv:Vals ys its') (hz:ys.length<=sizeLine) :
  Inv X pins σ (upd H l (.lst ys)) { s with heap:=s.heap.update l (Obj.mapSeq f),toks:=t' }:=by
 have q:=PySem.IsL.update e f;rw [hf] at q;refine I.write (x:=l) (e:=l) (by rw [hH];exact trivial) (.inl rfl) (fun b' u hb hu=>(Heap.get?_update_other s.heap (Obj.mapSeq f) (Ne.symm hb)).trans hu) ⟨_,q⟩ ?_;exact⟨hz,its',_,hv,q⟩
theorem Inv.YD{its:List Value}{t':Nat}(I:Inv X pins σ H s)(hv:Vals ys its)(hz:ys.length<=sizeLine) :
  Inv X pins σ (upd H s.heap.objs.size (.lst ys)) { s with heap:=s.heap.push { cls:=.type "list",data:=.seq its.toArray },toks:=t' } :=
 I.laid (fun _ _ q=>Heap.get?_push_of_some _ q) (Nat.le_refl _) ⟨hz,its,0,hv,Heap.get?_push_size _ rfl⟩
theorem Inv.fresh(I:Inv X pins σ H s):H s.heap.objs.size=none:=I.hok.fresh (Nat.le_refl _)
theorem Inv.W0(I:Inv X pins σ H s)(hH:H l=some (.lst xs)):xs.length<=sizeLine/\∃(its:List Value) (n:Nat),Vals xs its/\xs.length=its.length/\s.heap.get? l=some { cls:=.type "list",data:=.seq its.toArray n }:=by
 obtain⟨z,its,n,r,e⟩:=I.hok l _ hH;exact⟨z,its,n,r,r.length,e⟩
end
section
variable{X:Cx}
def NF:V->List V->Hp->VK->Prop:=fun x vs H Q=>∃l xs y,x=.ref l/\vs=[y]/\H l=some (.lst xs)/\xs.length < sizeLine/\Q .non (upd H l (.lst (xs++[y])))
theorem CC:MtM X "list.append" NF:=by
 intro pins s σ H x vs v us Q I rx rv h;obtain⟨l,xs,y,rfl,rfl,hH,hz,q⟩:=h;cases rx;obtain⟨u,rfl,ru⟩:=rv.one;obtain⟨z,its,n,r,hl,e⟩:=I.W0 hH;refine call_meets F.slot_list_append ⟨_,e,rfl⟩ F.entry_list_append (F.args_list_append_2 _ _) (PySem.list_append l its.toArray n u (by rw [List.size_toArray];omega)) ⟨e,?_⟩;refine⟨.non,_,I.Yj (its':=its++[u]) hH e (by simp) (r.append (.cons ru .nil)) ?_,rfl,q⟩;rw [List.length_append,List.length_singleton];omega
def YA:V->List V->Hp->VK->Prop:=fun x vs H Q=>∃l xs y,x=.ref l/\vs=[]/\H l=some (.lst xs)/\xs[xs.length - 1]?=some y/\Q y (upd H l (.lst xs.dropLast))
theorem VY:MtM X "list.pop" YA:=by
 intro pins s σ H x vs v us Q I rx rv h;obtain⟨l,xs,y,rfl,rfl,hH,hy,q⟩:=h;cases rx;have hus:=rv.zero;subst hus;obtain⟨z,its,n,r,hl,e⟩:=I.W0 hH;obtain⟨u,hu,ru⟩:=r.get hy;have hy':its.toArray[its.toArray.size - 1]?=some u:=by
  show its.toArray[its.length - 1]?=some u;rw [<- Array.getElem?_toList,<- hl];exact hu
 refine call_meets F.slot_list_pop ⟨_,e,rfl⟩ F.entry_list_pop (F.args_list_pop_1 _) (MeetsSeq.list_pop_last l its.toArray n u hy' (by rw [List.size_toArray];omega)) ⟨e,?_⟩;refine⟨y,_,I.Yj (its':=its.dropLast) hH e ?_ r.dropLast ?_,ru,q⟩
 ·show its.toArray.eraseIdxIfInBounds (its.toArray.size - 1)=its.dropLast.toArray
  rw [List.size_toArray,List.eraseIdxIfInBounds_toArray,M7]
 ·rw [List.length_dropLast]
  omega
def Yg:R2:=fun x y H Q=>∃l b xs zs,x=.ref l/\y=.ref b/\H l=some (.lst xs)/\H b=some (.lst zs)/\xs.length+zs.length<=sizeLine/\∀p,H p=none->Q (.ref p) (upd H p (.lst (xs++zs)))
theorem VN:OpR X (binaryOp .Add) Yg:=by
 intro pins s σ H x y v u Q I rx ry h;obtain⟨l,b,xs,zs,rfl,rfl,hH,hB,hz,q⟩:=h;cases rx;cases ry;obtain⟨z,its,n,r,hl,e⟩:=I.W0 hH;obtain⟨z2,its2,n2,r2,hl2,e2⟩:=I.W0 hB;refine PySem.P.add_list e e2 ?_ (by rw [List.size_toArray,List.size_toArray];omega);have ea:its.toArray++its2.toArray=(its++its2).toArray:=by simp
 rw [ea];exact⟨.ref _,_,I.YD (t':=s.toks) (r.append r2) (by rw [List.length_append];omega),rfl,q _ I.fresh⟩
end
section
variable{prog:Program}{w:World}{A:Around}{E:Value->Shared->Prop}{s:Shared}
set_option maxRecDepth 100000 in
end
section
variable{X:Cx}
end
section
variable{κ:Type}[DecidableEq κ]
def Mv(kvs:List (κ×V))(k:κ):Option V:=(kvs.find? fun kv=>decide (kv.1=k)).map (·.2)
def putK(kvs:List (κ×V))(k:κ)(v:V):List (κ×V) :=
 if(kvs.any fun kv=>decide (kv.1=k))=true then kvs.map (fun kv=>if kv.1=k then(kv.1,v) else kv) else kvs++[(k,v)]
theorem GH{p:κ×V}{r:List (κ×V)}{k:κ}(e:p.1=k):Mv (p :: r) k=some p.2:=by simp [Mv,List.find?_cons,e]
theorem GI{p:κ×V}{r:List (κ×V)}{k:κ}(e:¬ p.1=k):Mv (p :: r) k=Mv r k:=by simp [Mv,List.find?_cons,e]
theorem Lz(k:κ):∀kvs:List (κ×V),(kvs.any fun kv=>decide (kv.1=k))=(Mv kvs k).isSome
 | []=>rfl
 | p :: r=>by
  rw [List.any_cons];by_cases e:p.1=k
  ·simp only [GH e,decide_eq_true e,Bool.true_or,Option.isSome_some]
  ·rw [GI e,decide_eq_false e,Bool.false_or];exact Lz k r
theorem Hl(kvs:List (κ×V))(k:κ)(v:V):(putK kvs k v).length<=kvs.length+1:=by
 unfold putK;split
 ·rw [List.length_map];omega
 ·rw [List.length_append,List.length_cons,List.length_nil];omega
theorem AU.Eu{o:Option V}{u:Option Value}(r:AU o u):o.isSome=u.isSome:=by
 cases o with
 | none=>cases u with
  | none=>rfl
  | some _=>exact(show False from r).elim
 | some _=>cases u with
  | none=>exact(show False from r).elim
  | some _=>rfl
theorem KV.val{kvs:List (κ×V)}{vs:List (κ×Value)}(r:KV kvs vs)(k:κ):AU (Mv kvs k) (valueAt vs k):=by
 unfold KV at r
 induction r with
 | nil=>exact True.intro
 | @cons p q ps qs h t ih =>
  obtain⟨h1,h2⟩:=h;by_cases e:p.1=k
  ·have e':q.1=k:=h1.symm.trans e
   have b:valueAt (q :: qs) k=some q.2:=by simp [valueAt,List.find?_cons,e']
   rw [GH e,b];exact h2
  ·have e':¬ q.1=k:=fun z=>e (h1.trans z)
   have b:valueAt (q :: qs) k=valueAt qs k:=by simp [valueAt,List.find?_cons,e']
   rw [GI e,b];exact ih
theorem KV.any{kvs:List (κ×V)}{vs:List (κ×Value)}(r:KV kvs vs)(k:κ):(kvs.any fun kv=>decide (kv.1=k))=vs.any fun kv=>decide (kv.1=k):=by
 unfold KV at r
 induction r with
 | nil=>rfl
 | cons h t ih=>rw [List.any_cons,List.any_cons,ih,h.1]
theorem KV.Xq{kvs:List (κ×V)}{vs:List (κ×Value)}(r:KV kvs vs)(k:κ){y:V}{u:Value}(ry:RelV y u) :
  KV (kvs.map fun kv=>if kv.1=k then(kv.1,y) else kv) (vs.map fun kv=>if kv.1=k then(kv.1,u) else kv):=by
 unfold KV at r ⊢
 induction r with
 | nil=>exact .nil
 | @cons p q ps qs h t ih =>
  rw [List.map_cons,List.map_cons];refine .cons ?_ ih;obtain⟨h1,h2⟩:=h;by_cases e:p.1=k
  ·rw [if_pos e,if_pos (h1.symm.trans e)];exact⟨h1,ry⟩
  ·rw [if_neg e,if_neg (fun z=>e (h1.trans z))];exact⟨h1,h2⟩
theorem KV.put{kvs:List (κ×V)}{vs:List (κ×Value)}(r:KV kvs vs)(k:κ){y:V}{u:Value}(ry:RelV y u):KV (putK kvs k y) (stored vs k u):=by
 unfold putK stored;rw [r.any k];by_cases e:(vs.any fun kv=>decide (kv.1=k))=true
 ·rw [if_pos e,if_pos e];exact r.Xq k ry
 ·rw [if_neg e,if_neg e];exact Paired.snoc r ⟨rfl,ry⟩
theorem KV.length{kvs:List (κ×V)}{vs:List (κ×Value)}(r:KV kvs vs):kvs.length=vs.length:=Paired.length r
end
theorem Ow{P:Program}{w:World}{k:Key}{u:Value}(r:RelV (kV k) u):(CF P w).is k u=true:=by
 cases k with
 | inl i=>obtain⟨t,e⟩:=(show ∃t,u=Value.int i t from r);subst e;exact K3 P w i t
 | inr x=>obtain⟨t,e⟩:=(show ∃t,u=Value.str x t from r);subst e;exact K1 P w x t
theorem J7{P:Program}{w:World}:∀{ks:List Key} {us:List Value},Vals (ks.map kV) us->ItemsAre (CF P w) ks us
 | [],_,r=>by rw [List.map_nil] at r;cases r;exact .nil
 | k :: ks,_,r=>by
  rw [List.map_cons] at r;cases r with
  | cons h t=>exact .cons (Ow h) (J7 t)
abbrev KT(H:Hp):List (List Key×V)->List (List Key×Addr×Value)->Prop:=Paired fun p q=>p.1=q.1/\H q.2.1=some (.tup (p.1.map kV))/\RelV p.2 q.2.2
theorem KT.val{H:Hp}{kvs:List (List Key×V)}{xs:List (List Key×Addr×Value)}(r:KT H kvs xs)(k:List Key):AU (Mv kvs k) ((atKey xs k).map (·.2)):=by
 induction r with
 | nil=>exact True.intro
 | @cons p q ps qs h t ih =>
  obtain⟨h1,_,h2⟩:=h;by_cases e:p.1=k
  ·have e':q.1=k:=h1.symm.trans e
   have b:atKey (q :: qs) k=some q.2:=by simp [atKey,List.find?_cons,e']
   rw [GH e,b];exact h2
  ·have e':¬ q.1=k:=fun z=>e (h1.trans z)
   have b:atKey (q :: qs) k=atKey qs k:=by simp [atKey,List.find?_cons,e']
   rw [GI e,b];exact ih
theorem KT.Xq{H:Hp}{kvs:List (List Key×V)}{xs:List (List Key×Addr×Value)}(r:KT H kvs xs)(k:List Key){y:V}{u:Value}(ry:RelV y u) :
  KT H (kvs.map fun kv=>if kv.1=k then(kv.1,y) else kv) (xs.map (putAt k u)):=by
 induction r with
 | nil=>exact .nil
 | @cons p q ps qs h t ih =>
  rw [List.map_cons,List.map_cons];refine .cons ?_ ih;obtain⟨h1,h2,h3⟩:=h;unfold putAt;by_cases e:p.1=k
  ·rw [if_pos e,if_pos (h1.symm.trans e)];exact⟨h1,h2,ry⟩
  ·rw [if_neg e,if_neg (fun z=>e (h1.trans z))];exact⟨h1,h2,h3⟩
theorem KT.put{H:Hp}{kvs:List (List Key×V)}{xs:List (List Key×Addr×Value)}(r:KT H kvs xs)(k:List Key){b:Addr}{y:V}{u:Value}(hb:H b=some (.tup (k.map kV)))(ry:RelV y u) :
  KT H (putK kvs k y) (storedH xs k b u):=by
 have e:(kvs.any fun kv=>decide (kv.1=k))=(atKey xs k).isSome:=by
  rw [Lz,(r.val k).Eu,Option.isSome_map]
 unfold putK storedH;rw [e];by_cases q:(atKey xs k).isSome=true
 ·rw [if_pos q,if_pos q];exact r.Xq k ry
 ·rw [if_neg q,if_neg q];exact Paired.snoc r ⟨rfl,hb,ry⟩
theorem KT.keeps{H H':Hp}{kvs:List (List Key×V)}{xs:List (List Key×Addr×Value)}(r:KT H kvs xs)(ht:∀b ys,H b=some (.tup ys)->H' b=some (.tup ys)):KT H' kvs xs :=
 Paired.XM r fun _ _ z=>⟨z.1,ht _ _ z.2.1,z.2.2⟩
section
variable{P:Program}{w:World}{H:Hp}{h:Heap}{a:Addr}
theorem Vl{u:HO}(ok:HOk P w H h)(e:Rd H a u):C4 P w H h a u:=e.ok ok
theorem Ln{kvs:List (Key×V)}(ok:HOk P w H h)(e:Rd H a (.dK kvs)):kvs.length<=sizeLine/\(a == sysModules)=false/\∃vs,KV kvs vs/\h.DictOf (CF P w) a vs :=
 show C4 P w H h a (.dK kvs) from Vl ok e
theorem X3{kvs:List (Key×V)}(ok:HOk P w H h)(e:H a=some (.dK kvs)):kvs.length<=sizeLine/\(a == sysModules)=false/\∃vs,KV kvs vs/\h.DictOf (CF P w) a vs:=Ln ok (.inl e)
theorem J6{ks:List Key}(ok:HOk P w H h)(e:H a=some (.tup (ks.map kV))):(tupleKind (CF P w)).is h ks a:=by
 obtain⟨_,its,r,o,h1,h2,n,h3⟩:=(show C4 P w H h a (.tup (ks.map kV)) from ok a _ e)
 exact⟨o,its.toArray,n,h1,h2,h3,by simpa using J7 r⟩
theorem Ph{kvs:List (List Key×V)}(ok:HOk P w H h)(e:Rd H a (.dT kvs)):kvs.length<=sizeLine/\(a == sysModules)=false /\
  ∃xs,KT H kvs xs/\h.DictOfH (tupleKind (CF P w)) a xs:=by
 obtain⟨z,y,xs,r,o,es,ep,h1,h2,h3,h4,h5⟩:=(show C4 P w H h a (.dT kvs) from Vl ok e)
 refine⟨z,y,xs,r,o,es,ep,h1,h2,h3,h4,fun x hx=>?_,h5⟩;have all:∀{l:List (List Key×V)} {m:List (List Key×Addr×Value)},KT H l m->∀x∈m,(tupleKind (CF P w)).is h x.1 x.2.1:=by
  intro l m q
  induction q with
  | nil=>intro x hx;exact nomatch hx
  | @cons p q ps qs hq t ih =>
   intro x hx;rcases List.mem_cons.mp hx with e | hx
   ·subst e
    exact J6 ok (by rw [<- hq.1];exact hq.2.1)
   ·exact ih x hx
 exact all r x hx
theorem X2{kvs:List (List Key×V)}(ok:HOk P w H h)(e:H a=some (.dT kvs)):kvs.length<=sizeLine/\(a == sysModules)=false /\
  ∃xs,KT H kvs xs/\h.DictOfH (tupleKind (CF P w)) a xs:=Ph ok (.inl e)
end
def Ni(H:Hp)(a:Addr)(y:V)(r:Option V):Prop :=
 (∃kvs k,Rd H a (.dK kvs)/\y=kV k/\r=Mv kvs k)∨∃kvs k b,Rd H a (.dT kvs)/\y=.ref b/\H b=some (.tup (k.map kV))/\r=Mv kvs k
def Qa(H:Hp)(a:Addr)(y v:V)(H':Hp):Prop :=
 (∃kvs k,H a=some (.dK kvs)/\y=kV k/\kvs.length < sizeLine/\H'=upd H a (.dK (putK kvs k v))) ∨
 ∃kvs k b,H a=some (.dT kvs)/\y=.ref b/\H b=some (.tup (k.map kV))/\kvs.length < sizeLine/\H'=upd H a (.dT (putK kvs k v))
theorem Ni.t{H:Hp}{a b:Addr}{kvs:List (List Key×V)}{k:List Key}(e:H a=some (.dT kvs))(eb:H b=some (.tup (k.map kV))):Ni H a (.ref b) (Mv kvs k):=.inr ⟨kvs,k,b,.inl e,rfl,eb,rfl⟩
theorem Qa.k{H:Hp}{a:Addr}{kvs:List (Key×V)}{k:Key}{v:V}(e:H a=some (.dK kvs))(hl:kvs.length < sizeLine):Qa H a (kV k) v (upd H a (.dK (putK kvs k v))):=.inl ⟨kvs,k,e,rfl,hl,rfl⟩
theorem Qa.t{H:Hp}{a b:Addr}{kvs:List (List Key×V)}{k:List Key}{v:V}(e:H a=some (.dT kvs))(eb:H b=some (.tup (k.map kV)))(hl:kvs.length < sizeLine) :
  Qa H a (.ref b) v (upd H a (.dT (putK kvs k v))):=.inr ⟨kvs,k,b,e,rfl,eb,hl,rfl⟩
section
variable{X:Cx}{pins:List (Addr×Obj)}{σ:St}{H:Hp}{s:Shared}{a:Addr}{y v:V}{u r:Value}{o:Option V}{A:Around}{E:Value->Shared->Prop}
theorem Inv.big(I:Inv X pins σ H s):sysModules < s.heap.objs.size:=by
 have h:mainGlobals < s.heap.objs.size:=(I.mod.glob.keeps I.bk).lt;exact Nat.lt_trans (by decide) h
theorem Pt{Q:Value->Shared->Prop}(hu:A.units+1 < cLine)(I:Inv X pins σ H s)(g:Ni H a y (some v))(ry:RelV y u)(h:∀w' s',Inv X pins σ H s'->RelV v w'->Q w' s') :
  wpAny (model X.prog X.w) A (getItem (.ref a) u) Q E s:=by
 rcases g with⟨kvs,k,e,ey,l⟩ | ⟨kvs,k,b,e,ey,eb,l⟩
 ·subst ey
  obtain⟨z,hd,vs,rel,dd⟩:=Ln I.hok e;obtain⟨w',hw,rw'⟩:=AU.some_of (v:=v) (o:=valueAt vs k) (by rw [l];exact rel.val k);exact wpAny_getItem_of (Ow ry) dd.mapOf hw (h w' _ (I.tok _) rw')
 ·subst ey
  cases(show u=Value.ref b from ry);obtain⟨z,hd,xs,rel,dd⟩:=Ph I.hok e;obtain⟨w',hw,rw'⟩:=AU.some_of (v:=v) (o:=(atKey xs k).map (·.2)) (by rw [l];exact rel.val k);obtain⟨p,hp,hp2⟩:=Option.map_eq_some_iff.mp hw;refine wpAny_getItem_heap (tupleKind_room_in1 hu) (J6 I.hok eb) dd hp ?_;rw [hp2];exact h w' _ (I.tok _) rw'
theorem YJ{Q:Value->Shared->Prop}(hu:A.units+1 < cLine)(I:Inv X pins σ H s)(g:Ni H a y o)(ry:RelV y u)(h:∀s',Inv X pins σ H s'->Q (.bool o.isSome) s') :
  wpAny (model X.prog X.w) A (compareOp .In u (.ref a)) Q E s:=by
 rcases g with⟨kvs,k,e,ey,l⟩ | ⟨kvs,k,b,e,ey,eb,l⟩
 ·subst ey
  obtain⟨z,hd,vs,rel,dd⟩:=Ln I.hok e;refine wpAny_in_of (Ow ry) hd dd.mapOf ?_;rw [<- (rel.val k).Eu,<- l];exact h _ (I.tok _)
 ·subst ey
  cases(show u=Value.ref b from ry);obtain⟨z,hd,xs,rel,dd⟩:=Ph I.hok e;refine wpAny_in_heap (tupleKind_room_in1 hu) (J6 I.hok eb) hd dd ?_;have q:=(rel.val k).Eu;rw [Option.isSome_map] at q;rw [<- q,<- l];exact h _ (I.tok _)
theorem Uu{Q:Value->Shared->Prop}(hu:A.units+1 < cLine)(I:Inv X pins σ H s)(g:Ni H a y o)(ry:RelV y u)(h:∀s',Inv X pins σ H s'->Q (.bool (!o.isSome)) s') :
  wpAny (model X.prog X.w) A (compareOp .NotIn u (.ref a)) Q E s:=by
 rcases g with⟨kvs,k,e,ey,l⟩ | ⟨kvs,k,b,e,ey,eb,l⟩
 ·subst ey
  obtain⟨z,hd,vs,rel,dd⟩:=Ln I.hok e;refine wpAny_notIn_of (Ow ry) hd dd.mapOf ?_;rw [<- (rel.val k).Eu,<- l];exact h _ (I.tok _)
 ·subst ey
  cases(show u=Value.ref b from ry);obtain⟨z,hd,xs,rel,dd⟩:=Ph I.hok e;refine wpAny_notIn_heap (tupleKind_room_in1 hu) (J6 I.hok eb) hd dd ?_;have q:=(rel.val k).Eu;rw [Option.isSome_map] at q;rw [<- q,<- l];exact h _ (I.tok _)
theorem Pr{h':Heap}{t':Nat}{ob:HO}(I:Inv X pins σ H s)(mu:Mut (H a))(hs:Heap.SameBut a s.heap h')(he:∃q,h'.get? a=some q)(new:C4 X.prog X.w (upd H a ob) h' a ob) :
  Inv X pins σ (upd H a ob) { s with heap:=h',toks:=t' } :=
 I.write (x:=a) (e:=a) mu (.inl rfl) (fun b q hb z=>(hs.2 b hb).trans z) he new
theorem WE{P:Program}{w:World}{H':Hp}{h':Heap}{kvs:List (Key×V)}{vs:List (Key×Value)}(z:kvs.length<=sizeLine)(hd:(a == sysModules)=false)(rel:KV kvs vs)(dd:h'.DictOf (CF P w) a vs) :
  C4 P w H' h' a (.dK kvs):=⟨z,hd,vs,rel,dd⟩
theorem Ki{H':Hp}{Q:Unit->Shared->Prop}(hu:A.units+1 < cLine)(I:Inv X pins σ H s)(g:Qa H a y v H')(ry:RelV y u)(rv:RelV v r)(h:∀s',Inv X pins σ H' s'->Q () s') :
  wpAny (model X.prog X.w) A (setItem (.ref a) u r) Q E s:=by
 rcases g with⟨kvs,k,e,ey,l,eH⟩ | ⟨kvs,k,b,e,ey,eb,l,eH⟩
 ·subst ey eH
  obtain⟨z,hd,vs,rel,dd⟩:=X3 I.hok e;have hz:vs.length<=sizeLine:=by rw [<- rel.length];exact z
  have hl:(putK kvs k v).length<=sizeLine:=by have:=Hl kvs k v;omega
  refine wpAny_setItem_pairs (hsz:=hz) (Ow ry) dd fun h' dd' hs=>h _ ?_
  have he:∃q,h'.get? a=some q:=let⟨q,_,_,hq,_⟩:=dd';⟨q,hq⟩;exact Pr I (by rw [e];exact True.intro) hs he (WE hl hd (rel.put k rv) dd')
 ·subst ey eH
  cases(show u=Value.ref b from ry);obtain⟨z,hd,xs,rel,dd⟩:=X2 I.hok e;have hz:xs.length<=sizeLine:=by rw [<- Paired.length rel];exact z
  have hl:(putK kvs k v).length<=sizeLine:=by have:=Hl kvs k v;omega
  refine wpAny_setItem_heap (hsz:=hz) (tupleKind_room_in1 hu) (J6 I.hok eb) dd fun h' dd' hs=>h _ ?_
  obtain⟨q,es,ep,hq,h2,h3,h4,_,h5⟩:=dd';refine Pr I (by rw [e];exact True.intro) hs ⟨q,hq⟩ ⟨hl,hd,_,(rel.put k eb rv).keeps fun c ys ec=>?_,q,es,ep,hq,h2,h3,h4,h5⟩;rw [Ay (XJ ec e (fun z=>nomatch z))];exact ec
end
section
variable{X:Cx}{pins:List (Addr×Obj)}{σ:St}{H:Hp}{s:Shared}{a:Addr}{kvs:List (Key×V)}{k:Key}{u:Value}{A:Around}{E:Value->Shared->Prop}
theorem X4{Q:Value->Shared->Prop}(I:Inv X pins σ H s)(e:Rd H a (.dK kvs))(h:∀t s',Inv X pins σ H s'->Q (.int kvs.length t) s'):wpAny (model X.prog X.w) A (call (.builtin "len") [.ref a]) Q E s:=by
 obtain⟨z,hd,vs,rel,dd⟩:=Ln I.hok e;refine call_len_dict hd dd (by rw [<- rel.length];rw [sizeLine_eq] at z;omega) ?_;rw [<- rel.length];exact h _ _ (I.tok _)
end
theorem Lp{X:Cx}{pins:List (Addr×Obj)}{σ:St}{H:Hp}{s:Shared}{a:Addr}{y:V}{o:Option V}(I:Inv X pins σ H s)(g:Ni H a y o):s.TypeIs (.ref a) "dict":=by
 rcases g with⟨kvs,k,e,_,_⟩ | ⟨kvs,k,b,e,_,_,_⟩
 ·obtain⟨_,_,vs,_,dd⟩:=Ln I.hok e
  exact dd.typeIs
 ·obtain⟨_,_,xs,_,dd⟩:=Ph I.hok e
  exact dd.typeIs
def Vj(td ty tv:TE):TS:=fun D σ H=>tv σ H fun v H1=>td σ H1 fun x H2=>ty σ H2 fun y H3=>∃a H4,x=.ref a/\Qa H3 a y v H4/\D.nx σ H4
section
variable{X:Cx}{o i e value:Expr}{pos pos' tpos:Pos}{td ty tv:TE}
theorem KH(hu:X.A.units+1 < cLine)(ho:PE X o td)(hi:PE X i ty)(hv:PE X value tv)(hs:swapsWith value (some (.Subscript o i pos')) pos.line X.env=pure false) :
  PS X (.Assign [.Subscript o i pos'] value pos) (Vj td ty tv):=by
 intro pins s σ H D I h;refine wpAny_Assign_Subscript (thn (hv pins s σ H _ I h) fun r s1 ⟨v,H1,I1,rv,q1⟩=>thn (ho pins s1 σ H1 _ I1 q1) fun u s2 ⟨x,H2,I2,rx,q2⟩=>thn (hi pins s2 σ H2 _ I2 q2) fun iv s3 ⟨y,H3,I3,ry,a,H4,ex,g,q3⟩=>?_) hs;subst ex;obtain rfl:u=Value.ref a:=rx;exact Ki hu I3 g ry rv fun s4 I4=>⟨σ,H4,I4,q3⟩
end
theorem Rn{P:Program}{w:World}{H:Hp}(h:Heap)(hb:sysModules < h.objs.size):C4 P w H (h.push { cls:=.type "dict",data:=.dict #[] }) h.objs.size (.dK []) :=
 ⟨Nat.zero_le _,beq_eq_false_iff_ne.mpr (Ne.symm (Nat.ne_of_lt hb)),[],.nil,Heap.DictOf.new h⟩
def Vc:TE:=fun _ H Q=>∀p,H p=none->Q (.ref p) (upd H p (.dK []))
section
variable{X:Cx}{pos:Pos}
theorem QA:PE X (.Dict [] [] pos) Vc:=fun pins s σ H Q I h =>
 wpAny_Dict_empty ⟨.ref s.heap.objs.size,_,I.laid (a:=s.heap.objs.size) (o:=.dK []) (t':=s.toks) (fun _ _ q=>Heap.get?_push_of_some _ q) (Nat.le_refl _) (Rn s.heap I.big),rfl,h _ (I.hok.fresh (Nat.le_refl _))⟩
end
section
variable{X:Cx}{pins:List (Addr×Obj)}{σ:St}{H:Hp}{s:Shared}{a:Addr}{y d:V}{u r:Value}{o:Option V}{A:Around}{E:Value->Shared->Prop}
end
section
variable{X:Cx}{o e f:Expr}{apos cpos:Pos}{td ty tx:TE}
end
section
variable{X:Cx}{pins:List (Addr×Obj)}{σ:St}{H:Hp}{s:Shared}{a:Addr}{kvs:List (Key×V)}{A:Around}{E:Value->Shared->Prop}
end
section
variable{X:Cx}{pins:List (Addr×Obj)}{σ:St}{H:Hp}{s:Shared}{a:Addr}{y:V}{u:Value}{A:Around}{E:Value->Shared->Prop}
end
end L2
namespace Att
open PySem PySem.W PySem.Calls PyProof.Rows
theorem Hr{P:Params}{h:Heap}:∀(ns:List Int) (vs:List Value),WellAll P h vs (ns.map WData.int)->IntsAre vs ns:=by
 intro ns
 induction ns with
 | nil =>
  intro vs w;rw [List.map_nil] at w;cases w;exact .nil
 | cons n ns ih =>
  intro vs w;rw [List.map_cons] at w;cases w with
  | cons a b =>
   cases a;exact .cons _ _ (ih _ b)
theorem Nv{l:OpenLaw}{n:Nat}(hn:l.most=some n){P:Params}{h:Heap}{args:List WData}{vals:List Value}
  (hpre:l.row.toRowW.claim.pre args=true) (hwl:WellAll P h vals args) :
  ∃a vs ns,vals=[Value.ref a]/\args=[WData.list (ns.map WData.int)]/\h.get? a=some { cls:=.type "list",data:=.seq vs.toArray }/\IntsAre vs ns/\ns.length<=n:=by
 have hsh:WShape.hasAll [] args [.list .int]=true:=(pre_splitW hpre).1;have hc:l.pre.holds [] { args:=args }=true:=(pre_splitW hpre).2;obtain⟨d,r,rfl,h1,h2⟩:=hasAllW_cons hsh;obtain rfl:=hasAllW_nil h2;obtain⟨xs,rfl,h3⟩:=hasW_list h1;obtain⟨ns,rfl⟩:=items_int h3;have hlen:ns.length<=n:=by
  unfold OpenLaw.pre at hc;have h4:(WTm.not (.lt (.lit (.int (n:Int))) (.len (.arg 0)))).holds [] { args:=[.list (ns.map .int)] }=true:=by
   have h4:=(holds_andW hc).1;rw [hn] at h4;exact h4
  have h5:=condW_of h4 (w_not (w_lt w_lit (w_len_list (w_arg rfl))));rw [List.length_map] at h5;refine Nat.le_of_not_lt fun q=>?_
  have q':(n:Int) < ((ns.length:Nat):Int):=by omega
  first
   | (rw [decide_eq_true q'] at h5;exact absurd h5 (by decide))
   | (simp at h5;omega)
 cases hwl with
 | cons w1 w2 =>
  cases w2;cases w1 with
  | list ho hall=>exact⟨_,_,ns,rfl,rfl,ho,Hr ns _ hall,hlen⟩
theorem NL(l:OpenLaw)(args:List WData):l.row.toRowW.claim.post args (.bool true) args=true :=
 postW_of (r:=l.row.toRowW) (X:=(true == true))
  (show WShape.has [] (.bool true) .bool=true by first | rfl | decide | simp [WShape.has,WShape.arms,WShape.armsAll])
  (show(WTm.eq .res (.lit (.bool true))).value [] { args:=args,res:=some (.bool true),after:=args }=some (.bool (true == true)) from w_eq_bool (w_res rfl) w_lit) rfl
section
variable{prog:Program}{w:World}{A:Around}{E:Value->Shared->Prop}{s:Shared}{K:Frag}
end
end Att
namespace L2
open PySem PySem.Spec PyProof.Rows
theorem Jx:∀{vs:List Value} {ns:List Int},IntsAre vs ns->Vals (ns.map V.int) vs
 | _,_,.nil=>.nil
 | _,_,.cons n t h=>.cons ⟨t,rfl⟩ (Jx h)
def W6(H:Hp):Prop:=∀b,H b=none∨∃o xs,H b=some (.frz o (.lst xs))
theorem QS{P:Program}{w:World}{K:Fg}{mg mb:Str->Option Value}{CX:CXT}{k:Nat}{fa a:Addr}{fd:FuncData}{x:Str}{sp:Sp}{s₁:Shared}{vs:List Value}{ns:List Int}
  (KX:K.In s₁.heap) (hns:s₁.heap.Ns mainGlobals mg) (hb:s₁.heap.Ns builtinsNs mb) (hbb:∀x:Str,x≠"__name__"->mb x=bootBuiltins x) (hlim:s₁.heap.NoLimit) (hg:s₁.gens=#[])
  (ha:s₁.heap.get? a=some { cls:=.type "list",data:=.seq vs.toArray }) (hi:IntsAre vs ns) (hl:ns.length<=sizeLine) (hr:EX k callerA)
  (F:∀base:Heap,K.In base->base.Ns mainGlobals mg->D9 P w K mg base CX k fa fd [x] sp) (hbind:∀(s:Shared) (u:Value),BindsTo s fd ⟨[u],[]⟩ [(x,u)])
  (hsp:∀H:Hp,W6 H->SqL K H a (ns.map V.int)->sp [.ref a] H (fun v _=>v=.bl true) fun _ _ _=>False)
  (hCX:∀H e s',CX [] H s₁ (fun _ _ _=>False) e s'->False) :
  codeAny (model P w) callerA (.call (.ref fa) ⟨[.ref a],[]⟩) (fun r s'=>r=.ok (.ret (.bool true))/\OldK s₁.heap s'.heap/\s'.os=s₁.os/\AllBare s'.gens) s₁:=by
 have rv:=Jx hi;have lenV:=hi.length;have core:∀H:Hp,W6 H->SqL K H a (ns.map V.int)->HOk P w H s₁.heap->(∀b,H b≠none->b=a)->(H a≠none->K.lookup a=none) ->
   codeAny (model P w) callerA (.call (.ref fa) ⟨[.ref a],[]⟩) (fun r s'=>r=.ok (.ret (.bool true))/\OldK s₁.heap s'.heap/\s'.os=s₁.os/\AllBare s'.gens) s₁:=by
  intro H hO hS hok hA hK;have base_of:∀{b:Addr} {o:Obj},s₁.heap.get? b=some o->H b=none->(Q0 s₁.heap H).get? b=some o:=fun e n=>QZ e n
  have noA:∀{b:Addr} {o:Obj} {es:Array DictEntry} {ep:Nat},s₁.heap.get? b=some o->o.data=.dict es ep->H b=none:=fun {b o es ep} e d=>by
   cases q:H b with
   | none=>rfl
   | some u =>
    have e':b=a:=hA b (by rw [q];simp);subst e';rw [ha] at e;cases e;have d':Data.seq vs.toArray _=Data.dict es ep:=d;cases d'
  have nsK:∀{b:Addr} {m:Str->Option Value},s₁.heap.Ns b m->(Q0 s₁.heap H).Ns b m:=fun {b m} ⟨o,es,ep,e,d,r⟩=>⟨o,es,ep,base_of e (noA e d),d,r⟩
  have hKb:K.In (Q0 s₁.heap H):=fun b o e=>base_of (KX b o e) (by
   cases q:H b with
   | none=>rfl
   | some u =>
    have e':b=a:=hA b (by rw [q];simp);subst e';rw [hK (by rw [q];simp)] at e;cases e)
  have hM:Mod K mg (Q0 s₁.heap H):=⟨hKb,nsK hns,⟨mb,nsK hb,hbb⟩,let⟨mc,h1,h2⟩:=hlim;⟨mc,nsK h1,h2⟩⟩
  have e0:UT P w K mg (Q0 s₁.heap H) callerA [] s₁ H:=⟨rfl,hM,fun b o e=>TK e,Nat.le_of_eq (OJ _ _),trivial,fun b hb=>absurd (show b∈([]:List Addr) from hb) (by simp),hok,.of_eq hg⟩
  refine codeAny_mono ((F _ hKb (nsK hns)).run callerA [] s₁ H ⟨[.ref a],[]⟩ [.ref a] [.ref a] _ _ hr e0 (hbind s₁ (.ref a)) (.cons rfl .nil) (hsp H hO hS)) fun r s' h=>?_
  cases r with
  | error e=>exact(hCX H e s' h).elim
  | ok fl =>
   cases fl with
   | next=>exact False.elim h
   | brk=>exact False.elim h
   | cont=>exact False.elim h
   | ret u =>
    obtain⟨v,H',os,bare,un,hok',r',q⟩:=h;have q':v=.bl true:=q;subst q';obtain rfl:u=Value.bool true:=r';refine⟨rfl,OldK.of_keep fun b o e=>?_,os,bare⟩;cases q:H b with
    | none=>exact un.keep b o e q (by intro z;exact absurd (show b∈([]:List Addr) from z) (by simp)) (by simp)
    | some u =>
     rcases hO b with z | ⟨ob,xs,z⟩
     ·rw [q] at z;cases z
     ·have z2:=un.frzs b ob _ z
      obtain⟨e1,_⟩:=hok b _ z;obtain⟨e2,_⟩:=hok' b _ z2;rw [e] at e1;cases e1;exact e2
 cases hk:K.lookup a with
 | some o =>
  have e:=KX a o hk;rw [ha] at e;cases e;refine core (fun _=>none) (fun _=>.inl rfl) (.inr ⟨_,vs.toArray,_,hk,rfl,rfl,rfl,by rw [List.size_toArray,lenV];exact hl,by simpa using rv⟩) (fun b u z=>by have z':(none:Option HO)=some u:=z;cases z') (fun b z=>absurd rfl z) fun z=>absurd rfl z
 | none =>
  refine core (fun b=>if b=a then some (.frz { cls:=.type "list",data:=.seq vs.toArray } (.lst (ns.map V.int))) else none) (fun b=>?_) (.inl (.inr ⟨{ cls:=.type "list",data:=.seq vs.toArray },if_pos rfl⟩)) (fun b u z=>?_) (fun b z=>?_) fun _=>hk
  ·by_cases hb:b=a
   ·exact .inr ⟨_,_,if_pos hb⟩
   ·exact .inl (if_neg hb)
  ·by_cases hb:b=a
   ·have z':=(if_pos hb).symm.trans z
    cases z';subst hb;exact⟨ha,by rw [List.length_map];exact hl,vs,_,rv,ha⟩
   ·have z':=(if_neg hb).symm.trans z
    cases z'
  ·by_cases hb:b=a
   ·exact hb
   ·exact absurd (if_neg hb) z
def inClass(s:Stmt)(j:Nat):Stmt:=match s with
 | .ClassDef _ _ _ body _ _ _ _ _ _ _=>body.getD j (.Pass ⟨0,0,0,0⟩)
 | _=>.Pass ⟨0,0,0,0⟩
def Bm(s:Stmt):Arguments:=match s with
 | .FunctionDef _ a _ _ _ _ _ _ _ _=>a
 | _=>{ posonlyargs:=[],args:=[],vararg:=none,kwonlyargs:=[],kw_defaults:=[],kwarg:=none,defaults:=[] }
def Bf(s:Stmt):List Stmt:=match s with
 | .FunctionDef _ _ b _ _ _ _ _ _ _=>b
 | _=>[]
def Au(s:Stmt):Scope:=match s with
 | .FunctionDef _ _ _ _ _ _ sc _ _ _=>sc
 | _=>{ kind:=.function,names:=[],isGenerator:=false,isCoroutine:=false }
abbrev E0:XK:=fun _ _ _=>False
structure Fun(K:Fg)(x qual:Str)(st:Stmt)(f:Addr)(fd:FuncData):Prop where
 ex:∃(oc:Value) (od:Option Addr) (kV doc pm:Value) (an:Option Addr) (cdv ct:Value) (osl:Array (Option Value)),
  fd=PySem.W.fnOf x qual (Bm st) (Bf st) (Au st) .none kV doc pm an cdv ct/\K.lookup f=some ⟨oc,od,.func fd,osl⟩/\PySem.W.codeIn K cdv qual=true
 kp:PySem.W.keepIn K (.ref f)=true
section
variable{P:Program}{w:World}{K:Fg}{mg:Str->Option Value}{base:Heap}
theorem Fun.binds{x qual:Str}{st:Stmt}{f:Addr}{fd:FuncData}{ps:List Str}(F:Fun K x qual st f fd)
  (h:∀(kV doc pm:Value) (an:Option Addr) (cdv ct:Value) (us:List Value),us.length=ps.length->bindArgs (PySem.W.fnOf x qual (Bm st) (Bf st) (Au st) .none kV doc pm an cdv ct) ⟨us,[]⟩=pure (ps.zip us)):Binds K fd ps []:=by
 obtain⟨oc,od,kV,doc,pm,an,cdv,ct,osl,rfl,lk,hcd⟩:=F.ex;exact .all (h kV doc pm an cdv ct)
theorem Co{x qual:Str}{st:Stmt}{f:Addr}{oc:Value}{od an:Option Addr}{osl:Array (Option Value)}{kV doc pm cdv ct:Value}(l:K.lookup f=some ⟨oc,od,.func (PySem.W.fnOf x qual (Bm st) (Bf st) (Au st) .none kV doc pm an cdv ct),osl⟩)
  (c:PySem.W.codeIn K cdv qual=true) (k:PySem.W.keepIn K (.ref f)=true):Fun K x qual st f (PySem.W.fnOf x qual (Bm st) (Bf st) (Au st) .none kV doc pm an cdv ct):=⟨⟨oc,od,kV,doc,pm,an,cdv,ct,osl,rfl,l,c⟩,k⟩
end
theorem DM{A:Around}{k:Nat}(hr:EX k A):A.units+1 < cLine:=Nat.lt_of_le_of_lt (Nat.add_le_add_left (by decide:1<=64) _) hr.units
section
variable{X:Cx}
theorem pv(i:Nat){x:Str}{pos:Pos}(hN:X.N[i]?=some x:=by rfl)(hv:Vis X.env.scope x:=by first | exact Or.inl rfl | exact Or.inr (Or.inl rfl) | exact Or.inr (Or.inr rfl))(hd:(x == ("__debug__":Str))=false:=by decide)
  (hcd:(x == ("__classdict__":Str))=false:=by decide):PE X (.Name x pos) (Va i):=Vx hN hv hd hcd
end
section
variable{κ:Type}[DecidableEq κ]
end
theorem Fi{env:Env}:∀(l:List (Str×NameKind)) (cs:List (Str×Addr)),(∀y∈l,y.2=.free->∃c,env.cells.lookup y.1=some c)->(∀n c,cs.lookup n=some c->env.cells.lookup n=some c) ->
  ∃cl,(forIn l cs fun(x:Str×NameKind) (r:List (Str×Addr))=>match x with | (name,kind)=>if(kind == NameKind.free)=true then do let c <- cellOf env name;pure (ForInStep.yield ((name,c) :: r)) else pure (ForInStep.yield r))=(pure cl:Sem _) /\
   (∀n c,cl.lookup n=some c->env.cells.lookup n=some c)/\(∀y∈l,y.2=.free->∃c,cl.lookup y.1=some c)/\(∀n c,cs.lookup n=some c->∃c',cl.lookup n=some c')
 | [],cs,_,h2=>⟨cs,rfl,h2,(fun _ h=>nomatch h),fun n c h=>⟨c,h⟩⟩
 | (n,k) :: r,cs,h1,h2=>by
  by_cases e:k=.free
  ·subst e
   obtain⟨c,hc⟩:=h1 (n,.free) List.mem_cons_self rfl;have e1:cellOf env n=(pure c:Sem _):=by unfold cellOf;rw [hc]
   have h3:∀n' c',((n,c) :: cs).lookup n'=some c'->env.cells.lookup n'=some c':=fun n' c' q=>by
    rw [List.lookup_cons] at q;cases hb:n' == n with
    | true=>rw [hb] at q;cases q;rw [beq_iff_eq.mp hb];exact hc
    | false=>rw [hb] at q;exact h2 _ _ q
   obtain⟨cl,q1,q2,q3,q4⟩:=Fi r ((n,c) :: cs) (fun y hy=>h1 y (List.mem_cons_of_mem _ hy)) h3;have hself:∃c',cl.lookup n=some c':=q4 n c (by simp);refine⟨cl,?_,q2,fun y hy hf=>?_,fun n' c' q=>?_⟩
   ·rw [List.forIn_cons]
    simp only [beq_self_eq_true,if_true,e1,pure_bind];exact q1
   ·rcases List.mem_cons.mp hy with rfl | hy
    ·exact hself
    ·exact q3 y hy hf
   ·by_cases hb:n'=n
    ·subst hb;exact hself
    ·exact q4 n' c' (by rw [List.lookup_cons,beq_eq_false_iff_ne.mpr hb];exact q)
  ·obtain⟨cl,q1,q2,q3,q4⟩:=Fi r cs (fun y hy=>h1 y (List.mem_cons_of_mem _ hy)) h2
   refine⟨cl,?_,q2,fun y hy hf=>?_,q4⟩
   ·rw [List.forIn_cons]
    have hb:(k == NameKind.free)=false:=by simpa using e
    simp only [hb,Bool.false_eq_true,if_false,pure_bind];exact q1
   ·rcases List.mem_cons.mp hy with rfl | hy
    ·exact absurd hf e
    ·exact q3 y hy hf
theorem FQ{sc:Scope}{env:Env}(h:∀y∈sc.names,y.2=.free->∃c,env.cells.lookup y.1=some c) :
  ∃cl,closureFor sc env=pure cl/\(∀n c,cl.lookup n=some c->env.cells.lookup n=some c)/\(∀y∈sc.names,y.2=.free->∃c,cl.lookup y.1=some c):=by
 obtain⟨cl,q1,q2,q3,_⟩:=Fi (env:=env) sc.names [] h (fun n c q=>by simp at q);refine⟨cl,?_,q2,q3⟩;unfold closureFor;simp only [bind_pure];refine Eq.trans ?_ q1;congr 1
section
variable{prog:Program}{w:World}{A:Around}{R:Result->Shared->Prop}{s:Shared}
theorem Kl{elt target iter:Expr}{ifs:List Expr}{scope:Scope}{pos:Pos}{it acc:Value}{env:Env}(I:Nat->Shared->Prop)
  (turn:∀n s,I n s->wpAny (model prog w) A (pyNext it) (fun r s₁=>match r with
   | none=>R (.ok .next) s₁
   | some v=>wpAny (model prog w) A (letOwnedTupleGo target it v) (fun _ s₁=>wpAny (model prog w) A (assign target env v) (fun _ s₂ =>
     wpAny (model prog w) A (forIn ifs true fun c r=>if r=true then do let ok <- isTrue c env (eval c env);pure (ForInStep.yield ok) else pure (ForInStep.yield r)) (fun ok s₃ =>
      if ok=true then wpAny (model prog w) A (eval elt env) (fun x s₄ =>
       wpAny (model prog w) A (call (.builtin "list.append") [acc,x]) (fun _ s₅=>∃m,m < n/\I m s₅) (fun _ _=>False) s₄) (fun _ _=>False) s₃
      else ∃m,m < n/\I m s₃) (fun _ _=>False) s₂) (fun _ _=>False) s₁) (fun _ _=>False) s₁) (fun _ _=>False) s)
  (n:Nat) (h:I n s) :
  codeAny (model prog w) A (.compLoop (.ListComp elt [⟨target,iter,ifs,0⟩] scope pos) 0 it acc env) R s:=by
 refine codeAny_loop rfl I (fun n s hI=>?_) n h;show wpAny _ A ((compTurn (.ListComp elt [⟨target,iter,ifs,0⟩] scope pos) 0 it acc env).onRaise (fun x=>do noteFrame x env;theTreesLotGoes x)) _ _ s;refine wpAny_noted ?_;rw [compTurn_list];refine wpAny_bind (wpAny_standAt (wpAny_bind (wpAny_mono (turn n s hI) (fun r s₁ h₁=>?_) fun _ _ h'=>h'.elim)));cases r with
 | none=>exact wpAny_pure h₁
 | some v =>
  refine wpAny_bind (wpAny_mono h₁ (fun _ s₁' h₁'=>?_) fun _ _ h'=>h'.elim);refine wpAny_bind (wpAny_mono h₁' (fun _ s₂ h₂=>wpAny_bind (wpAny_mono h₂ (fun ok s₃ h₃=>?_) fun _ _ h'=>h'.elim)) fun _ _ h'=>h'.elim);cases ok with
  | false=>exact wpAny_pure ⟨rfl,h₃⟩
  | true =>
   exact wpAny_bind (wpAny_bind (wpAny_mono h₃ (fun x s₄ h₄=>wpAny_bind (wpAny_mono h₄ (fun _ s₅ h₅=>wpAny_pure (wpAny_pure ⟨rfl,h₅⟩)) fun _ _ h'=>h'.elim)) fun _ _ h'=>h'.elim))
end
structure Ms(fn sc:Scope):Prop where
 kind:sc.kind=.function
 nocell:∀y∈sc.names,y.2≠.cell
 loc:∀y∈sc.names,y.2=.local->sc.names.lookup y.1=some .local
 fr:∀y∈sc.names,y.2=.free->fn.names.lookup y.1=some .cell∨fn.names.lookup y.1=some .free
def HB(fn sc:Scope):Bool :=
 decide (sc.kind=.function) && sc.names.all fun y=>decide (y.2≠.cell) && (decide (y.2≠.local) || decide (sc.names.lookup y.1=some .local)) &&
  (decide (y.2≠.free) || decide (fn.names.lookup y.1=some .cell) || decide (fn.names.lookup y.1=some .free))
theorem Kk{fn sc:Scope}(h:HB fn sc=true):Ms fn sc:=by
 unfold HB at h;rw [Bool.and_eq_true,List.all_eq_true] at h;obtain⟨h1,h2⟩:=h;refine⟨of_decide_eq_true h1,fun y hy=>?_,fun y hy e=>?_,fun y hy e=>?_⟩
 all_goals
  have q:=h2 y hy;rw [Bool.and_eq_true,Bool.and_eq_true] at q;obtain⟨⟨q1,q2⟩,q3⟩:=q
 ·exact of_decide_eq_true q1
 ·rw [Bool.or_eq_true] at q2
  rcases q2 with q | q
  ·exact absurd e (of_decide_eq_true q)
  ·exact of_decide_eq_true q
 ·rw [Bool.or_eq_true,Bool.or_eq_true] at q3
  rcases q3 with(q | q) | q
  ·exact absurd e (of_decide_eq_true q)
  ·exact .inl (of_decide_eq_true q)
  ·exact .inr (of_decide_eq_true q)
theorem DU{env:Env}{x:Str}{k':NameKind}:∀{names:List (Str×NameKind)},
  (names.map fun(n,k)=>if(k == NameKind.free && env.scope.kind == .function && env.kindOf n == some .cell) then(n,NameKind.cell) else(n,k)).lookup x=some k'->∃k,names.lookup x=some k/\(k'=k∨(k=.free/\k'=.cell))
 | [],h=>by simp at h
 | (n,k) :: r,h=>by
  have h:List.lookup x ((if(k == NameKind.free && env.scope.kind == .function && env.kindOf n == some .cell)=true then(n,NameKind.cell) else(n,k)) :: _)=some k':=h;cases hx:x == n with
  | true =>
   refine⟨k,by simp [List.lookup_cons,hx],?_⟩;by_cases hc:(k == NameKind.free && env.scope.kind == .function && env.kindOf n == some .cell)=true
   ·rw [if_pos hc] at h
    simp only [List.lookup_cons,hx] at h;cases h;rw [Bool.and_eq_true,Bool.and_eq_true] at hc;exact .inr ⟨beq_iff_eq.mp hc.1.1,rfl⟩
   ·rw [if_neg hc] at h
    simp only [List.lookup_cons,hx] at h;cases h;exact .inl rfl
  | false =>
   have h':List.lookup x (r.map fun(n,k)=>if(k == NameKind.free && env.scope.kind == .function && env.kindOf n == some .cell) then(n,NameKind.cell) else(n,k))=some k':=by
    by_cases hc:(k == NameKind.free && env.scope.kind == .function && env.kindOf n == some .cell)=true
    ·rw [if_pos hc] at h
     simpa only [List.lookup_cons,hx] using h
    ·rw [if_neg hc] at h
     simpa only [List.lookup_cons,hx] using h
   obtain⟨k0,e1,e2⟩:=DU h';exact⟨k0,by simp only [List.lookup_cons,hx];exact e1,e2⟩
def CM(X:Cx)(N:List Str)(sc:Scope)(cl:List (Str×Addr))(C:Addr)(s:Shared)(H:Hp)(ex:List Addr):Cx :=
 { X with N:=N,s₀:=s,H₀:=H,env:=compEnvC sc cl C X.env,outer:=X.stack,stack:=X.stack,ex:=ex,fn:=fun _=>false,xe:=fun _ _=>False }
def FR(XN:List Str)(sc:Scope):List Str->List (Option Nat)->Bool
 | [],[]=>true
 | n :: r,none :: q=>FR XN sc r q
 | n :: r,some i :: q=>decide (XN[i]?=some n) && decide (sc.names.lookup n=some .free) && FR XN sc r q
 | _,_=>false
def Fj(σ:St)(src:List (Option Nat)):St:=src.map fun o=>o.bind fun i=>(σ[i]?).join
theorem HD{XN:List Str}{sc:Scope}:∀{N:List Str} {src:List (Option Nat)},FR XN sc N src=true->src.length=N.length
 | [],[],_=>rfl
 | _ :: r,none :: q,h=>by rw [List.length_cons,List.length_cons,HD (N:=r) (src:=q) h]
 | _ :: r,some i :: q,h=>by
  unfold FR at h;rw [Bool.and_eq_true] at h;rw [List.length_cons,List.length_cons,HD (N:=r) (src:=q) h.2]
 | [],_ :: _,h=>by cases h
 | _ :: _,[],h=>by cases h
theorem Kn{XN:List Str}{sc:Scope}:∀{N:List Str} {src:List (Option Nat)} {j i:Nat} {n:Str},FR XN sc N src=true->N[j]?=some n->src[j]?=some (some i)->XN[i]?=some n/\sc.names.lookup n=some .free
 | [],_,j,i,n,_,h1,_=>by simp at h1
 | _ :: _,[],j,i,n,_,_,h2=>by simp at h2
 | n0 :: r,o :: q,0,i,n,h,h1,h2=>by
  simp at h1 h2;subst h1;subst h2;unfold FR at h;rw [Bool.and_eq_true,Bool.and_eq_true] at h;exact⟨of_decide_eq_true h.1.1,of_decide_eq_true h.1.2⟩
 | n0 :: r,o :: q,j+1,i,n,h,h1,h2=>by
  refine Kn (N:=r) (src:=q) (j:=j) ?_ (by simpa using h1) (by simpa using h2);cases o with
  | none=>exact h
  | some k =>
   unfold FR at h;rw [Bool.and_eq_true] at h;exact h.2
section
variable{X:Cx}{pins:List (Addr×Obj)}{σ:St}{H:Hp}{s:Shared}{fp:List Addr}{N:List Str}{sc:Scope}{cl:List (Str×Addr)}{C:Addr}{src:List (Option Nat)}
theorem WN(I:Inv X pins σ H s)(hf:∀b∈fp,Mr X pins H b)(hfs:∀b∈fp,b < s.heap.objs.size)(hS:Ms X.env.scope sc)(hC:s.heap.objs.size<=C)
  (hc1:∀n c,cl.lookup n=some c->X.env.cells.lookup n=some c) (hc2:∀y∈sc.names,y.2=.free->∃c,cl.lookup y.1=some c):(CM X N sc cl C s H fp).Ok where
 mod:=I.ok.mod
 kind:=hS.kind
 glob:=I.ok.glob
 blt:=I.ok.blt
 above:=hC
 inj:=fun x y c h1 h2=>I.ok.inj x y c (hc1 _ _ h1) (hc1 _ _ h2)
 has:=fun x hx=>by
  have free:∀k',(k'=NameKind.cell∨k'=NameKind.free)->(relabel sc X.env).names.lookup x=some k'->∃c,cl.lookup x=some c:=fun k' hk e=>by
   obtain⟨k,e1,e2⟩:=DU (env:=X.env) e;have hm:=PySem.mem_of_lookup e1;have hk2:k=.free:=by
    rcases e2 with e2 | ⟨e2,_⟩
    ·subst e2
     rcases hk with hk | hk
     ·exact absurd hk (hS.nocell _ hm)
     ·exact hk
    ·exact e2
   exact hc2 _ hm hk2
  rcases hx with hx | hx
  ·exact free _ (.inl rfl) hx
  ·exact free _ (.inr rfl) hx
 cab:=fun x c h _=>absurd (show false=true from h) Bool.false_ne_true
 hd:=I.ok.hd
 frames:=I.ok.frames
 stk:=.inl rfl
 exf:=fun b hb=>⟨Nat.ne_of_lt (Nat.lt_of_lt_of_le (hfs b hb) hC),fun x c e=>(hf b hb).2.2.2.2.1 x c (hc1 x c e)⟩
 bs:=I.bs
 bsz:=Nat.le_trans I.ok.bsz I.sz
 noex:=fun b o e hb=>by
  rcases(hf b hb).2.2.2.1 with z | z
  ·exact I.ok.noex b o e z
  ·exact absurd (Nat.lt_of_lt_of_le (Heap.lt_size e) (Nat.le_trans I.ok.bsz z)) (Nat.lt_irrefl _)
 exfs:=fun b hb hz=>by
  rcases List.mem_cons.mp (I.JE b hz) with z | z
  ·exact(hf b hb).2.1 z
  ·exact(hf b hb).2.2.1 z
 LZ:=I.stack
 frf:=I.KD
theorem UM{D:Addr}{h':Heap}{tk:Nat}{m:Str->Option Value}(I:Inv X pins σ H s)(hf:∀b∈fp,Mr X pins H b)(hfs:∀b∈fp,b < s.heap.objs.size)(hS:Ms X.env.scope sc)
  (hc1:∀n c,cl.lookup n=some c->X.env.cells.lookup n=some c) (hc2:∀y∈sc.names,y.2=.free->∃c,cl.lookup y.1=some c) (hcap:FR X.N sc N src=true)
  (hD:s.heap.objs.size<=D) (hC:s.heap.objs.size<=C) (hDC:D≠C) (hk:∀b o,s.heap.get? b=some o->h'.get? b=some o) (hn:h'.Ns C m) (hl:h'.get? D=some { cls:=.type "list",data:=.seq (#[]:Array Value) }) :
  Inv (CM X N sc cl C s H fp) pins (Fj σ src) (upd H D (.lst [])) { s with heap:=h',toks:=tk }:=by
 have fD:H D=none:=I.hok.fresh hD;have fC:H C=none:=I.hok.fresh hC;have old:∀{b:Addr} {o:Obj},s.heap.get? b=some o->b≠D/\b≠C:=fun {b o} e=>⟨Nat.ne_of_lt (Nat.lt_of_lt_of_le (Heap.lt_size e) hD),Nat.ne_of_lt (Nat.lt_of_lt_of_le (Heap.lt_size e) hC)⟩
 refine⟨WN I hf hfs hS hC hc1 hc2,rfl,I.bare,Un.laid hk hD fD,⟨m,hn,fun j x v e1 e2 e3=>?_⟩,fun x c e=>?_,?_,fun x c e=>?_,fun p hp=>?_,I.hok.laid hk hD ⟨Nat.zero_le _,[],0,.nil,hl⟩,?_⟩
 ·unfold Fj at e2
  rw [List.getElem?_map] at e2;cases q:src[j]? with
  | none=>rw [q] at e2;cases e2
  | some o =>
   rw [q] at e2;cases o with
   | none=>cases e2
   | some i =>
    have e2':(σ[i]?).join=some v:=Option.some.inj e2;have e4:σ[i]?=some (some v):=by
     cases r:σ[i]? with
     | none=>rw [r] at e2';cases e2'
     | some u=>rw [r] at e2';cases u with
      | none=>cases e2'
      | some u=>have e5:some u=some v:=e2';cases e5;rfl
    obtain⟨g1,g2⟩:=Kn hcap e1 q;obtain⟨m0,_,hl0⟩:=I.loc;have hfr:=hS.fr _ (PySem.mem_of_lookup g2) rfl;obtain⟨u,ru,lk⟩:=hl0 i x v g1 e4 (hfr.elim (fun z=>.inr (.inl z)) fun z=>.inr (.inr z));refine⟨u,ru,.inr ⟨?_,?_⟩⟩
    ·rcases e3 with e3 | e3 | e3
     ·obtain⟨k,r1,r2⟩:=DU (env:=X.env) (show(relabel sc X.env).names.lookup x=some .local from e3)
      rw [g2] at r1;cases r1;rcases r2 with r2 | ⟨_,r2⟩ <;> cases r2
     ·exact .inl e3
     ·exact .inr e3
    ·obtain⟨c,hc⟩:=hc2 _ (PySem.mem_of_lookup g2) rfl
     refine⟨c,hc,?_⟩;rcases lk with⟨lk,_⟩ | ⟨_,c',hc',z⟩
     ·rcases hfr with z | z
      ·have z':X.env.kindOf x=some .cell:=z
       rw [lk] at z';cases z'
      ·have z':X.env.kindOf x=some .free:=z
       rw [lk] at z';cases z'
     ·have:=hc1 _ _ hc
      rw [hc'] at this;cases this;obtain⟨o,ho,hd⟩:=z;exact⟨o,hk _ _ ho,hd⟩
 ·obtain⟨v,o,ho,hd⟩:=I.cell x c (hc1 x c e)
  exact⟨v,o,hk _ _ ho,hd⟩
 ·show upd H D (.lst []) C=none
  rw [Ay (Ne.symm hDC)];exact fC
 ·obtain⟨v,o,ho,hd⟩:=I.cell x c (hc1 x c e)
  rw [Ay (old ho).1];exact I.freeC x c (hc1 x c e)
 ·obtain⟨p1,p2,p3,p4,p5⟩:=I.pin p hp
  refine⟨hk _ _ p1,by rw [Ay (old p1).1];exact p2,(old p1).2,fun z=>?_,p5⟩;rcases List.mem_cons.mp (I.JE _ z) with z | z
  ·exact p3 z
  ·exact p4 z
 ·show(Fj σ src).length=N.length
  unfold Fj;rw [List.length_map];exact HD hcap
end
def SU(X:Cx)(ifs:List Expr)(t:TT):Prop :=
 ∀(pins:List (Addr×Obj)) (s:Shared) (σ:St) (H:Hp) (Q:Bool->Hp->Prop),Inv X pins σ H s->t σ H Q ->
  wpAny (model X.prog X.w) X.A (forIn ifs true fun c r=>if r=true then do let ok <- isTrue c X.env (eval c X.env);pure (ForInStep.yield ok) else pure (ForInStep.yield r)) (TP X pins σ Q) X.xe s
def Yn:TT:=fun _ H Q=>Q true H
theorem Qu{X:Cx}:SU X [] Yn:=fun pins s σ H Q I h=>wpAny_pure ⟨H,I,h⟩
theorem Qt{X:Cx}{c:Expr}{t:TT}(h:PT X c t):SU X [c] t:=by
 intro pins s σ H Q I q;rw [List.forIn_cons];simp only [if_true];refine wpAny_bind (wpAny_bind (thn (h pins s σ H Q I q) fun b s1 q1=>wpAny_pure ?_));exact wpAny_pure q1
def WH(J:It)(g:TG)(tt:TT)(te:TE)(Q:VK)(τ0:St)(H1:Hp):Prop:=∀D,H1 D=none ->
 ∃W:Nat->Nat->St->Hp->Prop,(∃m,W 0 m τ0 (upd H1 D (.lst [])))/\∀i m τ H2,W i m τ H2 ->
  (J.stop i H2/\Q (.ref D) H2)∨(J.go i H2/\∃N:St->Hp->Prop,(∀τ' H',N τ' H'->∃m',m' < m/\W (i+1) m' τ' H')/\∀x H3,J.yld i H2 x H3->g x τ H3 fun τ2 H4=>tt τ2 H4 fun b H5 =>
   if b=true then te τ2 H5 fun y H6=>∃ys,H6 D=some (.lst ys)/\ys.length < sizeLine/\N τ2 (upd H6 D (.lst (ys++[y]))) else N τ2 H5)
def Qg(src:List (Option Nat))(wi:TI)(g:TG)(tt:TT)(te:TE):TE:=fun σ H Q=>wi σ H fun J H1=>WH J g tt te Q (Fj σ src) H1
section
variable{X:Cx}{tg iter elt:Expr}{ifs:List Expr}{sc:Scope}{pos:Pos}{N:List Str}{src:List (Option Nat)}{wi:TI}{g:TG}{tt:TT}{te:TE}
theorem Me(hcalm:X.calm=true)(hS:Ms X.env.scope sc)(hcap:FR X.N sc N src=true)
  (hg:∀cl C s H fp,PG (CM X N sc cl C s H fp) tg g) (ht:∀cl C s H fp,SU (CM X N sc cl C s H fp) ifs tt) (he:∀cl C s H fp,PE (CM X N sc cl C s H fp) elt te)
  {pins:List (Addr×Obj)} {s:Shared} {σ:St} {H:Hp} {it:Addr} {fp:List Addr} {tn:Nat->Heap->Prop} {J:It} {cl:List (Str×Addr)} {Q:VK} {E:Value->Shared->Prop} {RR:Value->Addr->Result->Shared->Prop}
  (hc1:∀n c,cl.lookup n=some c->X.env.cells.lookup n=some c) (hc2:∀y∈sc.names,y.2=.free->∃c,cl.lookup y.1=some c)
  (I:Inv X pins σ H s) (T:Turn X.prog X.w X.K tg J fp it tn) (t0:tn 0 s.heap) (hf:∀b∈fp,Mr X pins H b) (hw:WH J g tt te Q (Fj σ src) H)
  (hR:∀(D C:Addr) (s':Shared) (τ:St) (H':Hp) (m:Str->Option Value),s.heap.objs.size<=C->s'.heap.Ns C m->Inv (CM X N sc cl C s H fp) pins τ H' s'->(∀b∈fp,H' b=none)->Q (.ref D) H'->RR (.ref D) C (.ok .next) s') :
  wpAny (model X.prog X.w) X.A (newList []) (fun acc s₃=>wpAny (model X.prog X.w) X.A (newFunctionEnv sc X.env.globals cl [] X.env.qual none .none (some X.env)) (fun cenv s₄ =>
   codeAny (model X.prog X.w) X.A (.compStart (.ListComp elt [⟨tg,iter,ifs,0⟩] sc pos) 0 (.ref it) acc { cenv with scope:=relabel sc X.env }) (RR acc cenv.locals) s₄) E s₃) E s:=by
 have hfs:∀b∈fp,b < s.heap.objs.size:=fun b hb=>by
  obtain⟨o,e,_⟩:=T.obj 0 _ t0 b hb;exact Heap.lt_size e
 refine wpAny_newObj_type (wpAny_newFunctionEnv hS.nocell (by intro y hy;simp at hy) (fun h₁ hns₁ hsb₁=>?_) hS.kind);dsimp only at hns₁ hsb₁ ⊢;generalize hH2:s.heap.push { cls:=.type "list",dict:=none,data:=.seq ([]:List Value).toArray }=H2 at hns₁ hsb₁ ⊢;have hC:H2.objs.size=s.heap.objs.size+1:=by rw [<- hH2,Heap.size_push]
 have hDC:s.heap.objs.size≠H2.objs.size:=by rw [hC];exact Nat.ne_of_lt (Nat.lt_succ_self _)
 have hCle:s.heap.objs.size<=H2.objs.size:=by rw [hC];exact Nat.le_succ _
 have old:∀b o,s.heap.get? b=some o->h₁.get? b=some o:=fun b o e=>hsb₁.extBut b o (Nat.ne_of_lt (Nat.lt_of_lt_of_le (Heap.lt_size e) hCle)) (Heap.get?_push_of_some _ (hH2▸Heap.get?_push_of_some _ e))
 have hacc:h₁.get? s.heap.objs.size=some { cls:=.type "list",data:=.seq (#[]:Array Value) }:=hsb₁.extBut _ _ hDC (Heap.get?_push_of_some _ (hH2▸Heap.get?_push_size _ rfl));have fresh:H s.heap.objs.size=none:=I.hok.fresh (Nat.le_refl _);obtain⟨W,⟨m0,w0⟩,turn⟩:=hw s.heap.objs.size fresh;have Y0:Inv (CM X N sc cl H2.objs.size s H fp) pins (Fj σ src) (upd H s.heap.objs.size (.lst [])) { s with heap:=h₁,toks:=s.toks+([]:List (Str×Value)).length } :=
  UM I hf hfs hS hc1 hc2 hcap (Nat.le_refl _) hCle hDC old hns₁ hacc
 have t1:tn 0 h₁:=T.keep 0 _ _ t0 fun b _ o e=>old b o e
 have fp0:∀b∈fp,upd H s.heap.objs.size (.lst []) b=none:=fun b hb=>by
  rw [Ay (Nat.ne_of_lt (hfs b hb))];exact(hf b hb).1
 have stat:∀{H':Hp},(∀b∈fp,H' b=none)->∀b∈fp,Mr (CM X N sc cl H2.objs.size s H fp) pins H' b:=fun {H'} hn b hb =>
  ⟨hn b hb,Nat.ne_of_lt (Nat.lt_of_lt_of_le (hfs b hb) hCle),Y0.ok.exfs b hb,.inl hb,(Y0.ok.exf b hb).2,(hf b hb).2.2.2.2.2⟩
 have loop:∀s₃:Shared,s₃={ s with heap:=h₁,toks:=s.toks+([]:List (Str×Value)).length } ->
   codeAny (model X.prog X.w) X.A (.compLoop (.ListComp elt [⟨tg,iter,ifs,0⟩] sc pos) 0 (.ref it) (.ref s.heap.objs.size) (compEnvC sc cl H2.objs.size X.env)) (RR (.ref s.heap.objs.size) H2.objs.size) s₃:=by
  rintro s₃ rfl
  refine Kl (fun n s'=>∃i τ H',Inv (CM X N sc cl H2.objs.size s H fp) pins τ H' s'/\tn i s'.heap/\(∀b∈fp,H' b=none)/\W i n τ H') ?_ m0 ⟨0,_,_,Y0,t1,fp0,w0⟩
  rintro n s4 ⟨i,τ,H4,I4,t4,fr4,w4⟩
  rcases turn i n τ H4 w4 with⟨stop,qn⟩ | ⟨go,Nx,hNx,step⟩
  ·refine thn (T.done (CM X N sc cl H2.objs.size s H fp) rfl rfl rfl hcalm i pins s4 τ H4 _ I4 (stat fr4) t4 stop) fun r s5 ⟨hr,I5⟩=>?_
   subst hr;obtain⟨m5,hn5,_⟩:=I5.loc;exact hR _ _ s5 τ H4 m5 hCle hn5 I5 fr4 qn
  ·refine thn (T.item (CM X N sc cl H2.objs.size s H fp) rfl rfl rfl hcalm i pins s4 τ H4 _ I4 (stat fr4) t4 go) fun r s5 ⟨u,hr,h5⟩=>?_
   subst hr;refine thn h5 fun _ s6 ⟨x,H6,I6,r6,y6,st6,fr6⟩=>?_
   have I6':=I6.pinned (stat fr6) (T.obj _ _ st6);have again:∀{τ7:St} {H7:Hp} {s7:Shared} {m':Nat},Inv (CM X N sc cl H2.objs.size s H fp) (pins++JQ fp s6.heap) τ7 H7 s7->m' < n->W (i+1) m' τ7 H7 ->
     ∃m,m < n/\∃i τ H',Inv (CM X N sc cl H2.objs.size s H fp) pins τ H' s7/\tn i s7.heap/\(∀b∈fp,H' b=none)/\W i m τ H':=fun {τ7 H7 s7 m'} I7 hm w7=>by
    refine⟨m',hm,i+1,τ7,H7,I7.GJ,T.keep _ _ _ st6 fun b hb o e=>(I7.pin (b,o) (List.mem_append_right _ (List.mem_append_right _ (EK hb e)))).1,fun b hb=>?_,w7⟩;obtain⟨o,e,d⟩:=T.obj _ _ st6 b hb;exact(I7.pin (b,o) (List.mem_append_right _ (List.mem_append_right _ (EK hb e)))).2.1
   refine thn (hg cl H2.objs.size s H fp _ s6 τ H6 x u _ I6' r6 (step x H6 y6)) fun _ s7 ⟨τ7,H7,I7,q7⟩=>?_
   refine thn (ht cl H2.objs.size s H fp _ s7 τ7 H7 _ I7 q7) fun b s8 ⟨H8,I8,q8⟩=>?_
   cases b with
   | false =>
    rw [if_neg Bool.false_ne_true] at q8 ⊢;obtain⟨m',hm,w8⟩:=hNx _ _ q8;exact again I8 hm w8
   | true =>
    rw [if_pos rfl] at q8 ⊢;refine thn (he cl H2.objs.size s H fp _ s8 τ7 H8 _ I8 q8) fun v s9 ⟨y,H9,I9,r9,ys,hD9,hz,w9⟩=>?_
    obtain⟨m',hm,w9⟩:=hNx _ _ w9;refine thn (CC _ s9 τ7 H9 (.ref s.heap.objs.size) [y] (.ref s.heap.objs.size) [v] (fun _ Hn=>W (i+1) m' τ7 Hn) I9 rfl (.cons r9 .nil) ⟨_,ys,y,rfl,rfl,hD9,hz,w9⟩) fun _ s10 ⟨_,H10,I10,_,w10⟩=>?_
    exact again I10 hm w10
 exact codeAny_compStart_list (loop _ rfl) (T.self X.A 0 _ _ _ t1 (loop _ rfl))
theorem PM{pins:List (Addr×Obj)}{s s':Shared}{σ τ:St}{H H':Hp}{fp:List Addr}{cl:List (Str×Addr)}{C:Addr}(I:Inv X pins σ H s)(hf:∀b∈fp,Mr X pins H b)(J:Inv (CM X N sc cl C s H fp) pins τ H' s'):Inv X pins σ H' s' :=
 I.WM (ch:=fp) J.os J.base J.hok J.bare fun b hb=>⟨(hf b hb).2.2.2.1,(hf b hb).2.1,(hf b hb).2.2.2.2.1,(hf b hb).2.2.2.2.2⟩
theorem UL{pins:List (Addr×Obj)}{s s':Shared}{σ τ:St}{H H':Hp}{fp:List Addr}{cl:List (Str×Addr)}{C:Addr}{h':Heap}(I:Inv X pins σ H s)(hC:s.heap.objs.size<=C)(hf:∀b∈fp,Mr X pins H b)
  (J:Inv (CM X N sc cl C s H fp) pins τ H' s') (hs:Heap.SameBut C s'.heap h'):Inv X pins σ H' { s' with heap:=h' }:=by
 have I':=PM I hf J;refine I'.turned (it:=C) (t':=s'.toks) (fun b o hb e=>hs.extBut b o hb e) J.free (Nat.ne_of_gt (Nat.lt_of_lt_of_le I.lt hC)) (.inr (Nat.le_trans I.sz hC)) (fun x c e z=>?_) fun p hp z=>?_
 ·obtain⟨v,q⟩:=I.cell x c e
  exact absurd (Nat.lt_of_lt_of_le q.lt (by rw [z];exact hC)) (Nat.lt_irrefl _)
 ·exact absurd (Nat.lt_of_lt_of_le (Heap.lt_size (I.pin p hp).1) (by rw [z];exact hC)) (Nat.lt_irrefl _)
theorem Tp(N:List Str)(src:List (Option Nat))(hcalm:X.calm=true)(hi:PI X tg iter wi)(hg:∀cl C s H fp,PG (CM X N sc cl C s H fp) tg g)(ht:∀cl C s H fp,SU (CM X N sc cl C s H fp) ifs tt)
  (he:∀cl C s H fp,PE (CM X N sc cl C s H fp) elt te) (hS:HB X.env.scope sc=true:=by rfl) (hcap:FR X.N sc N src=true:=by rfl)
  (hs:∀x,foldedSetIterable iter X.env x=pure x:=by intro _;rfl):PE X (.ListComp elt [⟨tg,iter,ifs,0⟩] sc pos) (Qg src wi g tt te):=by
 intro pins s σ H Q I h;have S:=Kk hS;obtain⟨cl,hcl,hc1,hc2⟩:=FQ (sc:=sc) (env:=X.env) fun y hy e=>I.ok.has y.1 (S.fr y hy e)
 rw [eval_ListComp];refine wpAny_comprehension_free (use:=none) rfl hs hcl S.kind S.loc (thn (hi pins s σ H _ I h) fun v s1 h1=>thn h1 fun itv s2 h2=>?_);obtain⟨it,fp,tn,J,H2,e,I2,T,t2,f2,hw⟩:=h2;subst e;refine Me hcalm S hcap hg ht he hc1 hc2 I2 T t2 f2 hw (RR:=fun acc C=>compPost (model X.prog X.w) X.A X.xe none (EP X pins σ Q) acc C) fun D C s' τ H' m hC hn J' _ q=>?_
 exact⟨m,hn,fun h' hsb=>⟨.ref D,H',UL I2 hC f2 J' hsb,rfl,q⟩⟩
theorem Ie{i:Nat}{y:Str}{pos' spos:Pos}(N:List Str)(src:List (Option Nat))(hcalm:X.calm=true)(hN:X.N.Nodup)(hiy:X.N[i]?=some y)(hy:Loc X.env.scope y)(hi:PI X tg iter wi)(hg:∀cl C s H fp,PG (CM X N sc cl C s H fp) tg g)(ht:∀cl C s H fp,SU (CM X N sc cl C s H fp) ifs tt)
  (he:∀cl C s H fp,PE (CM X N sc cl C s H fp) elt te) (hS:HB X.env.scope sc=true:=by rfl) (hcap:FR X.N sc N src=true:=by rfl)
  (hs:∀x,foldedSetIterable iter X.env x=pure x:=by intro _;rfl) (hsw:swapsWith (.ListComp elt [⟨tg,iter,ifs,0⟩] sc pos) (some (.Name y pos')) spos.line X.env=pure true:=by rfl)
  (hf:X.fn y=true∨X.env.scope.names.lookup y=some .local:=by first | exact .inl rfl | exact .inr rfl | assumption) :
  PS X (.Assign [.Name y pos'] (.ListComp elt [⟨tg,iter,ifs,0⟩] sc pos) spos) (UW (Qg src wi g tt te) (Ra i)):=by
 intro pins s σ H D0 I h;have S:=Kk hS;obtain⟨cl,hcl,hc1,hc2⟩:=FQ (sc:=sc) (env:=X.env) fun y hy e=>I.ok.has y.1 (S.fr y hy e)
 rw [exec_Assign_Name_used _ _ _ _ hsw];refine wpAny_bind (wpAny_standAt (wpAny_bind ?_));show wpAny _ X.A (do let _ <- comprehension (.ListComp elt [⟨tg,iter,ifs,0⟩] sc pos) sc X.env _ (newList []) false (eval iter X.env) (some (assign (.Name y pos') X.env))) _ _ s;refine wpAny_bind (wpAny_mono (wpAny_comprehension_free (use:=some (assign (.Name y pos') X.env)) (Q:=fun _ s'=>SP X pins D0 .next s') rfl hs hcl S.kind S.loc
  (thn (hi pins s σ H _ I h) fun v s1 h1=>thn h1 fun itv s2 h2=>?_)) (fun _ s' hq=>wpAny_pure (wpAny_pure hq)) fun _ _ e=>e)
 obtain⟨it,fp,tn,J,H2,e,I2,T,t2,f2,hw⟩:=h2;subst e;refine Me hcalm S hcap hg ht he hc1 hc2 I2 T t2 f2 hw (RR:=fun acc C=>compPost (model X.prog X.w) X.A X.xe (some (assign (.Name y pos') X.env)) (fun _ s'=>SP X pins D0 .next s') acc C) fun D C s' τ H' m hC hn J' _ q=>?_
 show wpAny _ X.A (assign (.Name y pos') X.env (.ref D)) _ _ s';have I':=PM I2 f2 J';have ltC:∀{b:Addr} {o:Obj},s2.heap.get? b=some o->b≠C:=fun e=>Nat.ne_of_lt (Nat.lt_of_lt_of_le (Heap.lt_size e) hC)
 have cC:∀x c,X.env.cells.lookup x=some c->c≠C:=fun x c e=>by
  obtain⟨v,o,ho,_⟩:=I2.cell x c e;exact ltC ho
 have lC:X.env.locals≠C:=Nat.ne_of_lt (Nat.lt_of_lt_of_le I2.lt hC);refine wpAny_assign_Name (JC I' hN hiy hy (v:=.ref D) rfl (fun s3 I3 ⟨a,sb,ha⟩=>?_) hf);have naC:C≠a:=by
  rcases ha with rfl | ha
  ·exact Ne.symm lC
  ·exact Ne.symm (cC _ _ ha)
 refine⟨m,hn.sameBut sb naC,fun h' hs'=>⟨_,H',I3.turned (it:=C) (t':=s3.toks) (fun b o hb e=>hs'.extBut b o hb e) J'.free (Ne.symm lC) (.inr (Nat.le_trans I2.sz hC)) cC (fun p hp z=>ltC (I2.pin p hp).1 z),q⟩⟩
end
section
variable{K:Fg}{a:Addr}{xs:List V}{g:TG}{tt:TT}{te:TE}{Q:VK}{τ0:St}{H1:Hp}
end
end L2
namespace PySem
namespace F
theorem N6:typeLookup (.type "list_reverseiterator") "__len__"=pure none:=by rw [typeLookup_type,builtinLookup_eq_fast];kernel_rfl
theorem QY:typeLookup (.type "list_reverseiterator") "__length_hint__"=pure (some (.builtin "list_reverseiterator.__length_hint__")):=by rw [typeLookup_type,builtinLookup_eq_fast];kernel_rfl
end F
section
variable{prog:Program}{w:World}{A:Around}{s:Shared}{R:Result->Shared->Prop}
variable{I:Addr}{fp wr:List Addr}{G:Array GenState->Array GenState->Prop}{n:Nat}{P:Nat->Value->Prop}{St:Nat->Shared->Prop}
theorem GA(W:WalksS prog w A.in1 I fp wr G n P St)(hT:∀i s,St i s->s.TypeIs (.ref I) "list_reverseiterator")(S:Addr)(res:Value)(c₀:Nat)(hst:St 0 s)(hSf:S∉fp)(hI:I∈fp)
  (hS:s.heap.get? S=some { cls:=.type "list",data:=.seq #[] c₀ })
  (hR:∀s' acc' c',Moved (S :: wr) G s s'->s'.heap.get? S=some { cls:=.type "list",dict:=none,data:=.seq acc' c',slots:=#[] }->ItemsOf P acc' n->R (.ok (.ret res)) s') (hn:n<=sizeLine) :
  wpAny (model prog w) A.in1 (Builtin.List.listExtendWith (.ref S) (.ref I) res)
   (fun fin s'=>match fin with | .done f=>R (.ok f) s' | .again c'=>c'.quiet=true/\codeAny (model prog w) A c' R s') (fun e s'=>R (.error e) s') s:=by
 have hSI:S≠I:=fun e=>hSf (e▸hI)
 unfold Builtin.List.listExtendWith;refine wpAny_bind (wpAny_typeOf (hT 0 _ hst) ?_);have h1:Builtin.List.listSameRef (.ref S) (.ref I)=false:=by simp [Builtin.List.listSameRef,hSI]
 have h2:(Value.type "list_reverseiterator" == Value.type "list")=false:=by decide
 have h3:(Value.type "list_reverseiterator" == Value.type "tuple")=false:=by decide
 simp only [h1,h2,h3,Bool.or_false,Bool.false_eq_true,if_false];refine wpAny_bind (W.self 0 _ _ _ hst ?_);refine wpAny_bind (wpAny_holding ?_);unfold Builtin.List.listLengthHint;refine wpAny_bind (wpAny_specialOf (hT 0 _ hst) F.N6 ?_);show wpAny _ A.in1 (specialOf (Value.ref I) (Str.ofString "__length_hint__") >>= _) _ _ _;refine wpAny_bind (wpAny_specialOf (hT 0 _ hst) F.QY ?_);generalize hid:("list_reverseiterator.__length_hint__":String)=id0
 wp_delta
 rw [show splitId id0=some ("list_reverseiterator","__length_hint__") from by subst hid;decide +kernel];subst hid;refine wpAny_bind (wpAny_isInstance (b:=true) (hT 0 _ hst) (by rw [isSubtype_type];kernel_rfl) ?_);refine wpAny_pure ?_;rw [if_neg (by decide)];refine wpAny_pure ⟨plainId_quiet F.plain_extend_loop _,codeAny_extend_loopS W hn _ hSf _ n 0 _ _ _ rfl (Nat.zero_le _) hst hS (ItemsOf.nil P) fun s' acc' c' hm hS' hacc=>?_⟩;exact hR s' acc' c' hm hS' hacc
theorem E9(W:WalksS prog w A.in1 I fp wr G n P St)(hT:∀i s,St i s->s.TypeIs (.ref I) "list_reverseiterator")(S:Addr)(hst:St 0 s)(hSf:S∉fp)(hI:I∈fp)
  (hS:s.heap.get? S=some { cls:=.type "list",data:=.seq #[] })
  (hR:∀s' acc' c',Moved (S :: wr) G s s'->s'.heap.get? S=some { cls:=.type "list",dict:=none,data:=.seq acc' c',slots:=#[] }->ItemsOf P acc' n->R (.ok (.ret .none)) s') (hn:n<=sizeLine) :
  wpAny (model prog w) A.in1 (Builtin.«list.__init__» ⟨[.ref S,.ref I],[]⟩)
   (fun fin s'=>match fin with | .done f=>R (.ok f) s' | .again c'=>c'.quiet=true/\codeAny (model prog w) A c' R s') (fun e s'=>R (.error e) s') s:=by
 show wpAny _ A.in1 (do let old <- Builtin.List.listItems (.ref S);Builtin.List.listUpdate (.ref S) (fun _=>#[]);letGo old.toList.reverse;Builtin.List.listExtendWith (.ref S) (.ref I) .none) _ _ s;refine wpAny_bind ?_;unfold Builtin.List.listItems;refine wpAny_bind (wpAny_seqItems hS rfl (wpAny_pure ?_));show wpAny _ A.in1 (updateSeq S (fun _=>#[]) >>= fun _=>letGo (#[]:Array Value).toList.reverse >>= fun _=>Builtin.List.listExtendWith (.ref S) (.ref I) .none) _ _ s;refine wpAny_bind (wpAny_updateSeq hS rfl ?_);have hS₂:=Heap.get?_update_self (Obj.mapSeq (fun _=>(#[]:Array Value))) hS rfl;have oth:∀b o,b≠S->s.heap.get? b=some o->(s.heap.update S (Obj.mapSeq (fun _=>(#[]:Array Value)))).get? b=some o :=
  fun b o hb e=>(Heap.get?_update_other _ _ (Ne.symm hb)).trans e
 refine wpAny_bind (wpAny_letGo ?_);refine GA (hn:=hn) W hT S .none _ (W.frame 0 s _ s.toks hst (Nat.le_refl _) fun b hb o e=>oth b o (fun h=>hSf (h▸hb)) e) hSf hI hS₂ fun s' acc' c' hm hS' hacc=>?_
 exact hR s' acc' c' (Moved.trans W.gtrans ((Moved.refl W.grefl).then_heap (Nat.le_refl _) fun b o hb e=>oth b o (fun h=>hb (h▸List.mem_cons_self)) e) hm) hS' hacc
end
section
variable{prog:Program}{w:World}{A:Around}{E:Value->Shared->Prop}{s:Shared}
theorem Gn{it l:Addr}{items:Array Value}{Q:Value->Shared->Prop}(hh:A.handled=none)(hne:l≠it)(hit:s.heap.IsRevIter it l ((items.size:Int) - 1))(hl:s.heap.IsList l items)(hz:items.size<=sizeLine)
  (hQ:∀h' tk acc' c',(∀b o,b≠it->s.heap.get? b=some o->h'.get? b=some o) ->
   h'.get? s.heap.objs.size=some { cls:=.type "list",dict:=none,data:=.seq acc' c',slots:=#[] }->ItemsOf (fun i v=>items[items.size - 1 - i]?=some v) acc' items.size->Q (.ref s.heap.objs.size) { s with heap:=h',toks:=tk }) :
  wpAny (model prog w) A (call (.type "list") [.ref it]) Q E s:=by
 refine callType_codes (Q₁:=fun obj s₁=>obj=.ref s.heap.objs.size/\s₁={ s with heap:=s.heap.push { cls:=.type "list",data:=.seq #[] } }) F.called_list (F.typeCall_list_1 _) F.entry_list_init
  (code_list_new _ ⟨rfl,rfl⟩) fun obj s₁ h₁=>?_
 obtain⟨rfl,rfl⟩:=h₁;have hS:(s.heap.push { cls:=.type "list",data:=.seq #[] }).get? s.heap.objs.size=some { cls:=.type "list",data:=.seq #[] }:=Heap.get?_push_size _ rfl;have hlt:it < s.heap.objs.size:=by obtain⟨o,e,_⟩:=hit;exact Heap.lt_size e
 have hlt2:l < s.heap.objs.size:=by obtain⟨o,e,_⟩:=hl;exact Heap.lt_size e
 have W:=(Walks.listRev (prog:=prog) (w:=w) (A:=A.in1.in1) hh it l hne items).toS;have e0:(items.size:Int) - 1 - ((0:Nat):Int)=(items.size:Int) - 1:=by simp
 refine⟨⟨_,hS,rfl⟩,F.args_list_init_2 _ _,E9 (A:=A.in1) W (fun i s' st=>?_) _ ?_ ?_ (by simp) hS (fun s' acc' c' hm hS' hacc=>?_) hz⟩
 ·exact st.2.1.typeIs
 ·refine⟨Nat.zero_le _,?_,hl.push _⟩
  rw [e0];exact hit.at fun o e=>Heap.get?_push_of_some _ e
 ·intro hm
  rcases List.mem_cons.mp hm with e | hm
  ·exact absurd hlt (by rw [e];exact Nat.lt_irrefl _)
  ·exact absurd hlt2 (by rw [List.mem_singleton.mp hm];exact Nat.lt_irrefl _)
 ·rw [Moved.eq_with hm] at hS' ⊢
  refine⟨rfl,hQ s'.heap s'.toks acc' c' (fun b o hb e=>hm.heap b o (fun hmem=>?_) (Heap.get?_push_of_some _ e)) hS' hacc⟩;rcases List.mem_cons.mp hmem with e' | hmem
  ·exact absurd (Heap.lt_size e) (by rw [e'];exact Nat.lt_irrefl _)
  ·exact hb (List.mem_singleton.mp hmem)
end
end PySem
namespace L2
open PySem PySem.Spec PyProof.Rows
section
variable{X:Cx}{pins:List (Addr×Obj)}{σ:St}{H:Hp}{s:Shared}
theorem Inv.Pw{it d:Addr}{h':Heap}{t':Nat}{ys:List V}{its:List Value}{n:Nat}(I:Inv X pins σ H s)(hf:Mr X pins H it)(hd:s.heap.objs.size<=d)(k:∀b o,b≠it->s.heap.get? b=some o->h'.get? b=some o)
  (hz:ys.length<=sizeLine) (r:Vals ys its) (e:h'.get? d=some { cls:=.type "list",data:=.seq its.toArray n }):Inv X pins σ (upd H d (.lst ys)) { s with heap:=h',toks:=t' }:=by
 obtain⟨f0,f1,f2,f3,f4,f5⟩:=hf;have fd:H d=none:=I.hok.fresh hd;have nd:∀{b:Addr} {o:Obj},s.heap.get? b=some o->b≠d:=fun e=>Nat.ne_of_lt (Nat.lt_of_lt_of_le (Heap.lt_size e) hd)
 have nit:∀{b:Addr} {u:HO},H b=some u->b≠it:=fun {b u} e z=>by rw [z,f0] at e;cases e
 refine I.step (g':=s.gens) (d':=s.drawn) (ch:=[it]) (fun b hb=>?_) (fun b o _ _ hc e _=>k b o (fun z=>hc (by simp [z])) e) (fun b o _ _ hc e _=>⟨o.slots,k b o (fun z=>hc (by simp [z])) e⟩)
  (fun b o _ e n=>by rw [Ay (nd e)];exact n) (fun b o hc e=>⟨o,k b o (fun z=>hc (by simp [z])) e⟩) (fun b xs e=>by rw [Ay (Bl e fd)];exact e) (fun b o u e=>by rw [Ay (Bl e fd)];exact e)
  (fun b ps e=>⟨#[],by rw [Ay (Bl e fd),e];simp⟩) (fun m hm=>?_) (fun b u e=>?_) I.bare
 ·have e:b=it:=by simpa using hb
  subst e;exact⟨f3,f1,f4,f5⟩
 ·obtain⟨o,es,ep,ho,r⟩:=hm
  exact⟨o,es,ep,k _ o (Ne.symm f1) ho,r⟩
 ·by_cases hb:b=d
  ·subst hb
   rw [AK] at e;cases e;exact⟨hz,its,n,r,‹_›⟩
  ·rw [Ay hb] at e
   refine(I.hok b u e).Qh (fun c v hc q=>k c v ?_ q) (fun c q=>by rw [Ay (Bl q fd)];exact q) fun c xs q=>by rw [Ay (Bl q fd)];exact q
   rcases hc with z | z
   ·rw [z];exact nit e
   ·exact nit z
end
theorem Qc{ys:List V}{its:List Value}(r:Vals ys its){acc:Array Value}(h:ItemsOf (fun i v=>its.toArray[its.toArray.size - 1 - i]?=some v) acc its.toArray.size):Vals ys.reverse acc.toList:=by
 have e:acc.toList=its.reverse:=by
  apply List.ext_getElem?;intro i;obtain⟨h1,h2⟩:=h;have hs:its.toArray.size=its.length:=by simp
  by_cases hi:i < its.length
  ·have ha:acc[i]?=some (acc[i]'(by omega)):=by simp
   have q:=h2 i _ ha;rw [List.getElem?_reverse (by omega)];have q':its[its.length - 1 - i]?=some (acc[i]'(by omega)):=by simpa using q
   rw [q'];simp
  ·rw [List.getElem?_eq_none (by simp;omega),List.getElem?_eq_none (by simp;omega)]
 rw [e];exact r.reverse
section
variable{X:Cx}{a:Expr}{ta:TE}{p1 p2 pos1 pos2:Pos}
def Qf(K:Fg)(ta:TE):TE:=fun σ H Q=>ta σ H fun x H1=>∃l ys,x=.ref l/\SqL K H1 l ys/\∀d,H1 d=none->Q (.ref d) (upd H1 d (.lst ys.reverse))
theorem MF(hc:X.calm=true)(hm1:X.mg "list"=none)(hm2:X.mg "reversed"=none)(ha:PE X a ta)(hg1:Gl X "list":=by rfl)(hg2:Gl X "reversed":=by rfl)
  (he:starEach [(.Call (.Name "reversed" p2) [a] [] pos2:Expr)] X.env=[(false,eval (.Call (.Name "reversed" p2) [a] [] pos2) X.env)]:=by rfl) (he2:starEach [a] X.env=[(false,eval a X.env)]:=by rfl) :
  PE X (.Call (.Name "list" p1) [.Call (.Name "reversed" p2) [a] [] pos2] [] pos1) (Qf X.K ta):=by
 intro pins s σ H Q I h;refine wpAny_Call_Name_kw (Ho I hg1 hm1 boot_list ?_);refine PyProof.Rows.callWith_type1 ?_ he rfl;rw [he];refine Calls.spliced_cons ?_;refine wpAny_Call_Name_kw (Ho I hg2 hm2 boot_reversed ?_);refine PyProof.Rows.callWith_type1 ?_ he2 rfl;rw [he2];refine Calls.spliced_cons (thn (ha pins s σ H _ I h) fun u s1 ⟨x,H1,I1,r1,l,ys,ex,hq,q⟩=>?_);subst ex;cases r1;obtain⟨its,rv,pl,hz⟩:=I1.list hq;have hlen:=rv.length;refine Calls.spliced_nil (call_reversed_list pl.isList ?_);refine Calls.spliced_nil ?_;have I2:Inv X pins σ H1 { s1 with heap:=s1.heap.push (revObj l ((its.toArray.size:Int) - 1)) }:=I1.kept (t':=s1.toks) fun b o e=>Heap.get?_push_of_some _ e
 have hf:Mr X pins H1 s1.heap.objs.size:=I1.U2 (Nat.le_refl _) (I1.hok.fresh (Nat.le_refl _));have hlt:l < s1.heap.objs.size:=by obtain⟨o,n,e,_⟩:=pl;exact Heap.lt_size e
 refine Gn (s:={ s1 with heap:=s1.heap.push (revObj l ((its.toArray.size:Int) - 1)) }) (I.ok.hd hc) (Nat.ne_of_lt hlt) ⟨_,Heap.get?_push_size _ rfl,rfl,rfl⟩ (pl.isList.push _) (by rw [List.size_toArray];omega) fun h' tk acc c kp e hacc=>?_
 refine⟨.ref _,_,I2.Pw (n:=c) hf (Nat.le_refl _) kp (by rw [List.length_reverse];exact hz) (Qc rv hacc) (by simpa using e),rfl,q _ (I2.hok.fresh (Nat.le_refl _))⟩
theorem Rz(hc:X.calm=true):DJ X (.builtin "sum") (fun xs H Q=>∃(l:Addr) (ns:List Int),xs=[.ref l]/\SqL X.K H l (ns.map V.int)/\Q (.int ns.sum) H):=by
 intro pins s σ H xs us Q I r h;obtain⟨l,ns,rfl,hq,q⟩:=h;obtain⟨u,rfl,rx⟩:=vals1 r;cases rx;obtain⟨its,rv,pl,hz⟩:=I.list hq;have hi:=intsAre_of rv;obtain⟨zs,hx⟩:=hi.allInts.items;have hl':s.heap.IsList l (intItems zs):=hx▸pl.isList;refine sum_intListG (I.ok.hd hc) hl' fun h' tk t' hk=>?_
 have e1:ns=zs.toList.map (·.1):=by
  rw [<- nums_intItems,<- hx];exact(show numsOf its.toArray.toList=ns from hi.numsOf).symm
 have e2:preSum (numAt zs) zs.size=ns.sum:=by
  rw [preSum_eq,List.take_of_length_le (by simp),e1]
 rw [e2];exact⟨.int ns.sum,H,I.kept hk,⟨_,rfl⟩,q⟩
theorem DH:∀{bs:List Bool} {us:List Value},Vals (bs.map V.bl) us->us=bs.map Value.bool
 | [],_,.nil=>rfl
 | b :: bs,_,.cons r t=>by
  cases(show _=Value.bool b from r);rw [List.map_cons,DH t]
theorem RC(hc:X.calm=true):DJ X (.builtin "all") (fun xs H Q=>∃(l:Addr) (bs:List Bool),xs=[.ref l]/\SqL X.K H l (bs.map V.bl)/\Q (.bl (bs.all id)) H):=by
 intro pins s σ H xs us Q I r h;obtain⟨l,bs,rfl,hq,q⟩:=h;obtain⟨u,rfl,rx⟩:=vals1 r;cases rx;obtain⟨its,rv,pl,hz⟩:=I.list hq;have hb:=DH rv;have hl:=pl.isList;have hlt:l < s.heap.objs.size:=by obtain⟨_,e,_⟩:=hl;exact Heap.lt_size e
 refine call_all_walk (wpAny_pyIter_list hl ?_);refine⟨s.heap.objs.size,[s.heap.objs.size,l],[s.heap.objs.size],its.toArray.size,_,_,fun i=>(bs[i]?).getD true,rfl,Walks.list (A:=X.A.in1) (I.ok.hd hc) _ l (Nat.ne_of_lt hlt) its.toArray,
  ⟨⟨_,Heap.get?_push_size _ rfl,rfl,rfl⟩,hl.push _⟩,fun i v s' Q' E' hP hQ=>?_,fun h' tk hk=>?_⟩
 ·have e:its[i]?=some v:=by simpa using hP
  rw [hb,List.getElem?_map] at e;cases eb:bs[i]? with
  | none=>rw [eb] at e;cases e
  | some b =>
   rw [eb] at e;have e':Value.bool b=v:=Option.some.inj e;subst e';simp only [eb,Option.getD_some] at hQ;exact wpAny_truthy_bool hQ
 ·have e:((List.range its.toArray.size).all fun i=>(bs[i]?).getD true)=bs.all id:=by
   have hlen:its.toArray.size=bs.length:=by rw [hb];simp
   rw [hlen];rw [Bool.eq_iff_iff,List.all_eq_true,List.all_eq_true];constructor
   ·intro hh b hm
    obtain⟨i,hi,rfl⟩:=List.getElem_of_mem hm;have:=hh i (List.mem_range.mpr hi);simpa [List.getElem?_eq_getElem hi] using this
   ·intro hh i hi
    have hi':=List.mem_range.mp hi;have:=hh _ (List.getElem_mem hi');simpa [List.getElem?_eq_getElem hi'] using this
  rw [e];have kp:∀b o,s.heap.get? b=some o->h'.get? b=some o:=fun b o e=>hk b o (fun hm=>by rw [List.mem_singleton.mp hm] at e;exact Nat.lt_irrefl _ (Heap.lt_size e)) (Heap.get?_push_of_some _ e)
  exact⟨.bl _,H,I.kept kp,rfl,q⟩
theorem Tu:OpR X (binaryOp .Mult) (rI IntMulOk fun i j=>.int (i * j)):=opI fun _ _ _ _ _ _ _ hc q=>mul_int q hc
theorem NU:OpR X (binaryOp .Mult) (fun x y H Q=>∃z n,x=.str z/\y=.int n/\MulOk z n/\Q (.str (Txt.mul z n)) H):=by
 intro pins s σ H x y v u Q I rx ry h;obtain⟨z,n,rfl,rfl,hok,q⟩:=h;obtain⟨t,rfl⟩:=rx;obtain⟨t',rfl⟩:=ry;exact SB.mul hok fun t' k=>⟨.str _,H,I.tok _,⟨_,rfl⟩,q⟩
theorem GY:∀{ys:List Str} {us:List Value},Vals (ys.map V.str) us->StrsAre us ys
 | [],_,.nil=>.nil
 | y :: ys,_,.cons r t=>by
  obtain⟨tk,rfl⟩:=(show ∃tk,_=Value.str y tk from r)
  exact .cons _ _ (GY t)
theorem N9:MtR X "str.join" (fun x xs H Q=>∃(z:Str) (l:Addr) (ys:List Str),x=.str z/\xs=[.ref l]/\SqL X.K H l (ys.map V.str)/\(ys.map (·.length)).sum+ys.length * z.length<=16777216/\Q (.str (Txt.join z ys)) H):=by
 intro pins s σ H x xs v us Q I rx rv h;obtain⟨z,l,ys,rfl,rfl,hq,hok,q⟩:=h;obtain⟨t,rfl⟩:=rx;obtain⟨u,rfl,ru⟩:=vals1 rv;cases ru;obtain⟨its,r,pl,hz⟩:=I.list hq;exact join_list pl.isList (GY r) hok fun t' k=>⟨.str _,H,I.tok _,⟨_,rfl⟩,q⟩
end
def Xa(lo st:Int)(n:Nat):It:=⟨fun i _=>i < n,fun i H x H'=>H'=H/\x=.int (lo+i * st),fun i _=>n<=i⟩
theorem KA{P:Program}{w:World}{K:Fg}{tg:Expr}(it:Addr)(lo st:Int)(n:Nat):Turn P w K tg (Xa lo st n) [it] it (fun i h=>IsRangeIter h it (lo+(i:Nat) * st) ((n:Int) - (i:Nat)) st) where
 mem:=by simp
 obj:=fun i h st b hb=>by
  have e:b=it:=by simpa using hb
  subst e;exact⟨_,st,fun v z=>by
   have z':Data.fields _=Data.cell v:=z;cases z'⟩
 keep:=fun i h h' st k=>k it (by simp) _ st
 item:=by
  intro X hP hw hK hc i pins s σ H E I hf stt hg;subst hP hw hK;obtain⟨f0,f1,f2,f3,f4,f5⟩:=hf it (by simp);have W:=Walks.range (prog:=X.prog) (w:=X.w) (I.ok.hd hc) it lo st n;refine W.item i s _ _ hg stt fun v h' tk hv st' kk=>?_
  obtain⟨t,rfl⟩:=hv;have I1:Inv X pins σ H { s with heap:=h',toks:=tk }:=I.turned (fun b o hb e=>kk b o (by simpa using hb) e) f0 f1 f3 f4 f5;exact⟨_,rfl,Q4 (s:={ s with heap:=h',toks:=tk }) (n:="range_iterator") st' rfl rfl (by decide) ⟨.int (lo+i * st),H,I1,⟨t,rfl⟩,⟨rfl,rfl⟩,st',fun b hb=>(hf b hb).1⟩⟩
 done:=by
  intro X hP hw hK hc i pins s σ H E I hf st hg;subst hP hw hK;obtain⟨f0,f1,f2,f3,f4,f5⟩:=hf it (by simp);exact wpAny_pyNext_range_end (I.ok.hd hc) st (by have:n<=i:=hg;omega) fun h' eb=>⟨rfl,I.turned (t':=s.toks) (fun b o hb e=>eb b o hb e) f0 f1 f3 f4 f5⟩
 self:=fun _ _ _ _ _ st h=>wpAny_pyIter_rangeiter st h
def Wc(ta:TA):TI:=fun σ H R=>ta σ H fun vs H1=>∃i j c:Int,vs=[.int i,.int j,.int c]/\0 < c/\c < 1073741824/\Builtin.Range.small i j c=true/\0<=Builtin.Range.rangeSize i j c/\R (Xa i c (Builtin.Range.rangeSize i j c).toNat) H1
section
variable{X:Cx}{tg:Expr}
theorem JS{a b c:Expr}{ta:TA}{p pos:Pos}(hg:Gl X "range")(hm:X.mg "range"=none)(ha:PA X [a,b,c] ta)(hs:starEach [a,b,c] X.env=[(false,eval a X.env),(false,eval b X.env),(false,eval c X.env)]:=by rfl)
  (hs2:starEach [b,c] X.env=[(false,eval b X.env),(false,eval c X.env)]:=by rfl):PI X tg (.Call (.Name "range" p) [a,b,c] [] pos) (Wc ta):=by
 intro pins s σ H R I h;refine Call_ (Ho I hg hm boot_range (PyProof.Rows.callWith_type1 (thn (ha pos pins s σ H _ I h) fun us s1 ⟨vs,H1,I1,r1,q1⟩=>?_) (by rw [hs,hs2]) (by rw [hs2];rfl)));obtain⟨i,j,k,e,h0,hk,hsm,hn,q⟩:=q1;subst e;cases r1 with
 | cons r rr =>
  cases rr with
  | cons r' rr =>
   cases rr with
   | cons r'' rr =>
    cases rr;obtain⟨t,rfl⟩:=r;obtain⟨t',rfl⟩:=r';obtain⟨t'',rfl⟩:=r'';refine call_range_3 (by omega) ?_ (.inl (PyProof.noPylong_small (by omega)));refine wpAny_pyIter_range (IsRange.new ..) hsm ?_;have I2:Inv X pins σ H1 { s1 with heap:=s1.heap.push { cls:=.type "range",data:=.fields #[.int i t,.int j t',.int k t''] },toks:=s1.toks }:=I1.kept fun b o e=>Heap.get?_push_of_some _ e
    refine⟨(s1.heap.push { cls:=.type "range",data:=.fields #[.int i t,.int j t',.int k t''] }).objs.size,[(s1.heap.push { cls:=.type "range",data:=.fields #[.int i t,.int j t',.int k t''] }).objs.size],_,_,H1,rfl,
     I2.kept (t':=s1.toks) fun b o e=>Heap.get?_push_of_some _ e,KA _ i k (Builtin.Range.rangeSize i j k).toNat,?_,fun b hb=>?_,q⟩
    ·have e1:i+((0:Nat):Int) * k=i:=by simp
     have e2:(((Builtin.Range.rangeSize i j k).toNat:Nat):Int) - ((0:Nat):Int)=Builtin.Range.rangeSize i j k:=by omega
     show IsRangeIter _ _ (i+((0:Nat):Int) * k) ((((Builtin.Range.rangeSize i j k).toNat:Nat):Int) - ((0:Nat):Int)) k;rw [e1,e2];exact Heap.get?_push_size _ rfl
    ·have e:b=(s1.heap.push { cls:=.type "range",data:=.fields #[.int i t,.int j t',.int k t''] }).objs.size:=by simpa using hb
     subst e;exact I2.U2 (Nat.le_refl _) (I2.hok.fresh (Nat.le_refl _))
def Its(z:Str):It:=⟨fun i _=>i < z.cps.size,fun i H x H'=>H'=H/\∃c,z.cps[i]?=some c/\x=.str ⟨#[c]⟩,fun i _=>z.cps.size<=i⟩
theorem Wf{M:Model}{A:Around}{E:Value->Shared->Prop}{s:Shared}{tg:Expr}{it:Value}{x:Str}{t:Tok}{Q:Unit->Shared->Prop}(hQ:Q () s):wpAny M A (letOwnedTupleGo tg it (.str x t)) Q E s:=by
 unfold letOwnedTupleGo;cases tg <;> first
  | exact wpAny_pure hQ
  | (cases it <;> exact wpAny_pure hQ)
theorem Qd{P:Program}{w:World}{K:Fg}{tg:Expr}(it:Addr)(ty:String)(z:Str)(t:Tok)(hty:ty="str_ascii_iterator"∨ty="str_iterator"):Turn P w K tg (Its z) [it] it (fun i h=>h.IsStrIter it ty z t i) where
 mem:=by simp
 obj:=fun i h st b hb=>by
  have e:b=it:=by simpa using hb
  subst e;obtain⟨o,e,c,d⟩:=st;exact⟨o,e,fun v z=>by rw [d] at z;cases z⟩
 keep:=fun i h h' st k=>by
  obtain⟨o,e,c,d⟩:=st;exact⟨o,k it (by simp) o e,c,d⟩
 item:=by
  intro X hP hw hK hc i pins s σ H E I hf st hg;subst hP hw hK;obtain⟨f0,f1,f2,f3,f4,f5⟩:=hf it (by simp);have fin:∀(v:Value) (h':Heap) (tk:Nat),SignAt z i v->h'.IsStrIter it ty z t (i+1)->(∀b o,b∉[it]->s.heap.get? b=some o->h'.get? b=some o) ->
    ∃u,some v=some u/\wpAny (model X.prog X.w) X.A (letOwnedTupleGo tg (.ref it) u) (fun _ s2=>∃x H',Inv X pins σ H' s2/\RelV x u/\(Its z).yld i H x H'/\s2.heap.IsStrIter it ty z t (i+1)/\∀b∈[it],H' b=none) E { s with heap:=h',toks:=tk }:=fun v h' tk hv st' kk=>by
   obtain⟨c,u,hcs,rfl⟩:=hv;have I1:Inv X pins σ H { s with heap:=h',toks:=tk }:=I.turned (fun b o hb e=>kk b o (by simpa using hb) e) f0 f1 f3 f4 f5;exact⟨_,rfl,Wf ⟨.str ⟨#[c]⟩,H,I1,⟨u,rfl⟩,⟨rfl,c,hcs,rfl⟩,st',fun b hb=>(hf b hb).1⟩⟩
  rcases hty with rfl | rfl
  ·exact(Walks.strAscii (prog:=X.prog) (w:=X.w) (I.ok.hd hc) it z t).item i s _ _ hg st fin
  ·exact(Walks.strWide (prog:=X.prog) (w:=X.w) (I.ok.hd hc) it z t).item i s _ _ hg st fin
 done:=by
  intro X hP hw hK hc i pins s σ H E I hf st hg;subst hP hw hK;obtain⟨f0,f1,f2,f3,f4,f5⟩:=hf it (by simp);have hz:z.cps[i]?=none:=Array.getElem?_eq_none hg;rcases hty with rfl | rfl
  ·exact wpAny_pyNext_ascii_end (I.ok.hd hc) st hz fun h' he'=>⟨rfl,I.turned (t':=s.toks) (fun b o hb e=>he' b o hb e) f0 f1 f3 f4 f5⟩
  ·exact wpAny_pyNext_wide_end (I.ok.hd hc) st hz fun h' he'=>⟨rfl,I.turned (t':=s.toks) (fun b o hb e=>he' b o hb e) f0 f1 f3 f4 f5⟩
 self:=fun _ _ _ _ _ st h=>by
  rcases hty with rfl | rfl
  ·exact wpAny_pyIter_striter_ascii st h
  ·exact wpAny_pyIter_striter_wide st h
end
section
variable{K:Fg}{a:Addr}{xs:List V}{g:TG}{te:TE}{Q:VK}{τ0:St}{H1:Hp}
end
section
variable{X:Cx}(K:Fg)
end
theorem Hi{X:Cx}:MtM X "list.pop" (fun x vs H Q=>∃l e z,x=.ref l/\vs=[]/\H l=some (.lst (e++[z]))/\Q z (upd H l (.lst e))):=by
 intro pins s σ H x vs v us Q I rx rv h;obtain⟨l,e,z,rfl,rfl,hH,q⟩:=h;refine VY pins s σ H _ _ v us Q I rx rv ⟨l,e++[z],z,rfl,rfl,hH,by simp,?_⟩;rw [List.dropLast_concat];exact q
structure FnAt(P:Program)(w:World)(K:Fg)(mg:Str->Option Value)(base:Heap)(CX:CXT)(x:Str)(k:Nat)(ps:List Str)(sp:Sp):Prop where
 ex:∃f fd,D9 P w K mg base CX k f fd ps sp/\mg x=some (.ref f)/\PySem.W.keepIn K (.ref f)=true/\Binds K fd ps []
section
variable{X:Cx}{CX:CXT}{k:Nat}{ps:List Str}{sp:Sp}{E:XK}{x:Str}{p pos:Pos}{e:Expr}{es:List Expr}{t:TA}
end
section
variable{X:Cx}{x:Str}{pos:Pos}
theorem Xw{i:Int}(h:∃t,X.mg x=some (.int i t))(hg:Gl X x:=by rfl)(hd:(x == ("__debug__":Str))=false:=by decide):PE X (.Name x pos) (tC (.int i)):=by
 obtain⟨t,h⟩:=h;exact NR hg h ⟨t,rfl⟩ hd
theorem Xv{z:Str}(h:∃t,X.mg x=some (.str z t))(hg:Gl X x:=by rfl)(hd:(x == ("__debug__":Str))=false:=by decide):PE X (.Name x pos) (tC (.str z)):=by
 obtain⟨t,h⟩:=h;exact NR hg h ⟨t,rfl⟩ hd
theorem Ou{k:Key}{v:Value}(h:Jd k v=true):RelV (kV k) v:=by
 rcases BH h with⟨i,t,rfl,rfl⟩ | ⟨x,t,rfl,rfl⟩
 ·exact⟨t,rfl⟩
 ·exact⟨t,rfl⟩
theorem Nk{kvs:List (Key×V)}{vs:List (Key×Value)}{acc:Array Value}(r:KV kvs vs)(h:ItemsOf (fun i v=>∃k x,vs[i]?=some (k,x)/\Jd k v=true) acc vs.length):Vals (kvs.map fun kv=>kV kv.1) acc.toList:=by
 obtain⟨h1,h2⟩:=h;have key:∀(kvs:List (Key×V)) (vs:List (Key×Value)) (l:List Value),KV kvs vs->l.length=vs.length->(∀(j:Nat) (v:Value),l[j]?=some v->∃k x,vs[j]?=some (k,x)/\Jd k v=true)->Vals (kvs.map fun kv=>kV kv.1) l:=by
  intro kvs
  induction kvs with
  | nil =>
   intro vs l r hl _;cases r;have:l=[]:=List.eq_nil_of_length_eq_zero (by simpa using hl);subst this;exact .nil
  | cons p kvs ih =>
   intro vs l r hl hh;cases r with
   | @cons _ q _ vr e t =>
    cases l with
    | nil=>simp at hl
    | cons v l =>
     obtain⟨k,x,e1,e2⟩:=hh 0 v rfl;have e1':q=(k,x):=Option.some.inj e1;refine .cons ?_ (ih vr l t (by simpa using hl) fun j w hw=>?_)
     ·have:p.1=k:=by rw [e.1,e1']
      show RelV (kV p.1) v;rw [this];exact Ou e2
     ·exact hh (j+1) w hw
 exact key kvs vs acc.toList r (by rw [Array.length_toList];exact h1) fun j v e=>h2 j v (by rw [<- Array.getElem?_toList];exact e)
end
structure W8(P:Program)(w:World)(K:Fg)(mg:Str->Option Value)(base:Heap)(CX:CXT)(C:Addr)(m:Str)(k:Nat)(ps:List Str)(sp:Sp):Prop where
 cl:Cls K C
 ex:∃f fd,D9 P w K mg base CX k f fd ps sp/\Meth K C m f/\Binds K fd ps []
structure W9(P:Program)(w:World)(K:Fg)(mg:Str->Option Value)(base:Heap)(CX:CXT)(x:Str)(C:Addr)(k:Nat)(ps:List Str)(sp:Sp):Prop where
 at_:mg x=some (.ref C)
 ex:∃f fd,D9 P w K mg base CX k f fd ps sp/\Mk K C f/\Binds K fd ps []
section
variable{X:Cx}{CX:CXT}{k:Nat}{C:Addr}{ps:List Str}{sp:Sp}{E:XK}{x m:Str}{p pos apos:Pos}{e o:Expr}{es:List Expr}{ta:TE}{t:TA}
theorem Vz{pl:Sem Bool}(G:W8 X.prog X.w X.K X.mg X.base CX C m k ps sp)(hr:EX k X.A)(hx:Passes CX X E)(he:PE X o ta)
  (ht:eval (.Call (.Attribute o m apos) [] [] pos) X.env=(do
   let ov <- eval o X.env
   standAt apos.atName
   let(f,first) <- holding [ov] (getMethod ov m pl)
   callWith pos f first (backTo pos (starEach [] X.env)) (backToKw pos (keywordEach [] X.env))):=by rfl) :
  PE X (.Call (.Attribute o m apos) [] [] pos) (S5 C m sp [] E ta WW):=by
 obtain⟨f,fd,F,hm,hb⟩:=G.ex;exact Qy he G.cl hm F hr hb .nil hx ht
end
def orR(r r':R2):R2:=fun x y H Q=>r x y H Q∨r' x y H Q
section
variable{X:Cx}
theorem OpR.orR{f:Value->Value->Sem Value}{r r':R2}(h:OpR X f r)(h':OpR X f r'):OpR X f (orR r r'):=fun pins s σ H x y v u Q I rx ry q=>q.elim (h pins s σ H x y v u Q I rx ry) (h' pins s σ H x y v u Q I rx ry)
theorem IxR.orR{r r':R2}(h:IxR X r)(h':IxR X r'):IxR X (L2.orR r r'):=fun value slice pins s σ H x y v u Q I rx ry q e=>q.elim (fun q=>h value slice pins s σ H x y v u Q I rx ry q e) (fun q=>h' value slice pins s σ H x y v u Q I rx ry q e)
def Vn:R2:=fun x y H Q=>∃a v,x=.ref a/\Ni H a y (some v)/\Q v H
def Xr(neg:Bool):R2:=fun y x H Q=>∃a o,x=.ref a/\Ni H a y o/\Q (.bl (if neg then !o.isSome else o.isSome)) H
theorem Sb(hu:X.A.units+1 < cLine):OpR X (compareOp .In) (Xr false):=by
 intro pins s σ H y x v u Q I ry rx h;obtain⟨a,o,rfl,g,q⟩:=h;obtain rfl:u=Value.ref a:=rx;exact YJ hu I g ry fun s3 I3=>⟨.bl o.isSome,H,I3,rfl,q⟩
theorem NV(hu:X.A.units+1 < cLine):OpR X (compareOp .NotIn) (Xr true):=by
 intro pins s σ H y x v u Q I ry rx h;obtain⟨a,o,rfl,g,q⟩:=h;obtain rfl:u=Value.ref a:=rx;exact Uu hu I g ry fun s3 I3=>⟨.bl (!o.isSome),H,I3,rfl,q⟩
theorem Ub(hu:X.A.units+1 < cLine):IxR X Vn:=by
 intro value slice pins s σ H x y v u Q I rx ry h hs;obtain⟨a,w,rfl,g,q⟩:=h;obtain rfl:v=Value.ref a:=rx;have hT:=Lp I g;have h₂:wpAny (model X.prog X.w) X.A (getItem (.ref a) u) (EP X pins σ Q) X.xe s:=Pt hu I g ry fun w' s3 I3 rw'=>⟨w,H,I3,rw',q⟩
 unfold subscriptTail;refine wpAny_bind ?_;rw [getitemInPython_of_ne hT.not_modules];refine wpAny_bind (wpAny_specialOf hT PySem.F.slot_dict_getitem.lookup ?_);have fin:wpAny (model X.prog X.w) X.A (subscripted slice false (.ref a) u) (fun r s₃=>wpAny (model X.prog X.w) X.A (letTemporaryGo value (.ref a) r >>= fun _=>pure r) (EP X pins σ Q) X.xe s₃) X.xe s:=by
  rw [hs];exact wpAny_operating (wpAny_mono h₂ (fun r s₃ h₃=>wpAny_bind (wpAny_letTemporaryGo (wpAny_pure h₃))) fun _ _ x=>x)
 first
  | exact wpAny_pure (wpAny_bind fin)
  | exact wpAny_bind (wpAny_pure (wpAny_bind fin))
  | exact wpAny_bind fin
def Ts(r r':RK):RK:=fun o i v H Q=>r o i v H Q∨r' o i v H Q
theorem P8.orR{r r':RK}(h:P8 X r)(h':P8 X r'):P8 X (Ts r r'):=fun pins s σ H o i v ov iv u Q I r1 r2 r3 q=>q.elim (h pins s σ H o i v ov iv u Q I r1 r2 r3) (h' pins s σ H o i v ov iv u Q I r1 r2 r3)
def Qr:RK:=fun o i v H Q=>∃a H4,o=.ref a/\Qa H a i v H4/\Q H4
theorem set_dict(hu:X.A.units+1 < cLine):P8 X Qr:=by
 intro pins s σ H o i v ov iv u Q I ro ri rv h;obtain⟨a,H4,rfl,g,q⟩:=h;obtain rfl:ov=Value.ref a:=ro;exact Ki hu I g ri rv fun s4 I4=>⟨H4,I4,q⟩
def Sa(r r':List V->Hp->VK->Prop):List V->Hp->VK->Prop:=fun vs H Q=>r vs H Q∨r' vs H Q
theorem DJ.orR{f:Value}{r r':List V->Hp->VK->Prop}(h:DJ X f r)(h':DJ X f r'):DJ X f (Sa r r'):=fun pins s σ H xs us Q I rx q=>q.elim (h pins s σ H xs us Q I rx) (h' pins s σ H xs us Q I rx)
def YF(K:Fg)(tl:TE):TI:=fun σ H R=>tl σ H fun x H1=>(∃a,x=.ref a/\(∃xs,SqL K H1 a xs)/\R (Itl K a) H1)∨(∃a,x=.ref a/\(∃xs,SqT K H1 a xs)/\R (Itt K a) H1)∨(∃z,x=.str z/\R (Its z) H1)
variable{tg:Expr}
theorem Vw{l:Expr}{tl:TE}(hl:PE X l tl):PI X tg l (YF X.K tl):=by
 intro pins s σ H R I h;have key:∀(x:V) (H1:Hp) (v:Value) (s1:Shared),Inv X pins σ H1 s1->RelV x v->((∃a,x=.ref a/\(∃xs,SqL X.K H1 a xs)/\R (Itl X.K a) H1)∨(∃a,x=.ref a/\(∃xs,SqT X.K H1 a xs)/\R (Itt X.K a) H1)∨(∃z,x=.str z/\R (Its z) H1)) ->
   wpAny (model X.prog X.w) X.A (pyIter v) (PIE X pins σ tg R) X.xe s1:=by
  intro x H1 v s1 I1 r1 q1;rcases q1 with⟨a,e,⟨xs,hq⟩,q⟩ | ⟨a,e,⟨xs,hq⟩,q⟩ | ⟨z,e,q⟩
  ·subst e
   cases r1;obtain⟨its,rv,p,hz⟩:=I1.list hq;refine wpAny_pyIter_list p.isList ?_;refine⟨s1.heap.objs.size,[s1.heap.objs.size],_,_,H1,rfl,I1.kept (t':=s1.toks) fun b o e=>Heap.get?_push_of_some _ e,Nn a _,⟨_,Heap.get?_push_size _ rfl,rfl,rfl⟩,fun b hb=>?_,q⟩;have e:b=s1.heap.objs.size:=by simpa using hb
   subst e;exact I1.U2 (Nat.le_refl _) (I1.hok.fresh (Nat.le_refl _))
  ·subst e
   cases r1;obtain⟨its,rv,p,hz⟩:=I1.tuple hq;refine wpAny_pyIter_tuple (show s1.heap.IsTuple a its.toArray from p) ?_;refine⟨s1.heap.objs.size,[s1.heap.objs.size],_,_,H1,rfl,I1.kept (t':=s1.toks) fun b o e=>Heap.get?_push_of_some _ e,Mw a _,⟨_,Heap.get?_push_size _ rfl,rfl,rfl⟩,fun b hb=>?_,q⟩;have e:b=s1.heap.objs.size:=by simpa using hb
   subst e;exact I1.U2 (Nat.le_refl _) (I1.hok.fresh (Nat.le_refl _))
  ·subst e
   obtain⟨t,rfl⟩:=r1;have go:∀(ty:String),(ty="str_ascii_iterator"∨ty="str_iterator")->PIE X pins σ tg R (.ref s1.heap.objs.size) { s1 with heap:=s1.heap.push { cls:=.type ty,data:=.fields #[.str z t,.int 0 0] } }:=fun ty hty=>by
    refine⟨s1.heap.objs.size,[s1.heap.objs.size],_,_,H1,rfl,I1.kept (t':=s1.toks) fun b o e=>Heap.get?_push_of_some _ e,Qd _ ty z t hty,⟨_,Heap.get?_push_size _ rfl,rfl,rfl⟩,fun b hb=>?_,q⟩;have e:b=s1.heap.objs.size:=by simpa using hb
    subst e;exact I1.U2 (Nat.le_refl _) (I1.hok.fresh (Nat.le_refl _))
   cases ha:z.cps.all (· < 128)
   ·exact wpAny_pyIter_wide ha (go _ (.inr rfl))
   ·exact wpAny_pyIter_ascii ha (go _ (.inl rfl))
 exact thn (hl pins s σ H _ I h) fun v s1 ⟨x,H1,I1,r1,q1⟩=>key x H1 v s1 I1 r1 q1
end
end L2
namespace PySem
namespace Zp
section
variable{prog:Program}{w:World}{A:Around}{E:Value->Shared->Prop}{s:Shared}
end
section
variable{prog:Program}{w:World}{A:Around}{E:Value->Shared->Prop}{s:Shared}{z TI TO i1 i2 l1 l2:Addr}{xs ys:Array Value}{S1 S2:Nat->Heap->Prop}
end
end Zp
end PySem
namespace PySem
namespace Zp
section
variable{prog:Program}{w:World}{A:Around}{E:Value->Shared->Prop}{s:Shared}{z TI TO i1 i2 l1 l2:Addr}{xs ys:Array Value}{S1 S2:Nat->Heap->Prop}
end
end Zp
end PySem
namespace L2
open PySem PySem.Spec PyProof.Rows
section
variable{X:Cx}{pins:List (Addr×Obj)}{σ:St}{H:Hp}{s:Shared}{a:Addr}{xs ys:List V}{b:Bool}
end
end L2
namespace PySem
namespace Zp
end Zp
end PySem
namespace L2
open PySem PySem.Spec PyProof.Rows
end L2
namespace PySem
end PySem
namespace L2
open PySem PySem.Spec PyProof.Rows
section
variable{X:Cx}
def RY(K:Fg):R2:=fun x y H Q=>∃a b ys,x=.ref a/\y=.ref b/\SqT K H a []/\SqT K H b ys/\Q (.ref b) H
theorem QE:OpR X (binaryOp .Add) (RY X.K):=by
 intro pins s σ H x y v u Q I rx ry h;obtain⟨a,b,ys,rfl,rfl,ha,hb,q⟩:=h;cases rx;cases ry;obtain⟨its,r1,⟨⟨cls,dd,data,sl⟩,ho,hc,n,hd⟩,_⟩:=I.tuple ha;obtain⟨its2,r2,⟨⟨cls2,dd2,data2,sl2⟩,ho2,hc2,n2,hd2⟩,_⟩:=I.tuple hb;simp only at hc hd hc2 hd2;subst hc hd hc2 hd2;cases r1;exact concat_meets ⟨_,ho,rfl⟩ ⟨_,ho2,rfl⟩ noFill_tuple_add seq_tuple_add PySem.F.slot_tuple_add PySem.F.entry_tuple_add (PySem.F.args_tuple_add_2 _ _) (tuple_addW0 a b _ _ n n2 dd dd2 sl sl2 (by simp)) ⟨ho,ho2,⟨.ref b,H,I,rfl,q⟩⟩
end
end L2
namespace PySem
namespace Zp
section
variable{prog:Program}{w:World}{A:Around}{E:Value->Shared->Prop}{s:Shared}{z TI TO i1 i2 l1 l2 ad:Addr}{xs ys:Array Value}{S1 S2:Nat->Heap->Prop}
end
section
variable{prog:Program}{w:World}{A:Around}{E:Value->Shared->Prop}{s:Shared}{z TI TO i1 i2 l1 l2 ad lo S:Addr}{xs ys:Array Value}{b1 b2:Bool}{R:Result->Shared->Prop}
end
end Zp
end PySem
namespace PySem
namespace F
end F
namespace Zp
section
variable{prog:Program}{w:World}{A:Around}{E:Value->Shared->Prop}{s:Shared}{z TI TO i1 i2 l1 l2 S:Addr}{xs ys:Array Value}{b1 b2:Bool}{R:Result->Shared->Prop}
end
end Zp
end PySem
namespace L2
open PySem PySem.Spec PyProof.Rows
section
variable{X:Cx}{pins:List (Addr×Obj)}{σ:St}{H H':Hp}{s:Shared}
end
end L2
namespace PySem
namespace F
end F
end PySem
namespace PySem
open PyProof.Rows (IsTup)
namespace Rv
section
variable{prog:Program}{w:World}{A:Around}{E:Value->Shared->Prop}{s:Shared}
end
section
variable{prog:Program}{w:World}{A:Around}{E:Value->Shared->Prop}{s:Shared}
end
end Rv
end PySem
namespace PySem
open PyProof.Rows (IsTup)
namespace Rv
section
variable{prog:Program}{w:World}{A:Around}{E:Value->Shared->Prop}{s:Shared}
end
end Rv
end PySem
namespace L2
open PySem PySem.Spec PyProof.Rows
end L2
namespace HT
open PySem PyProof.Rows
section
variable{prog:Program}{w:World}{A:Around}{E:Value->Shared->Prop}{s:Shared}
theorem Gh{t sl:Addr}{items:Array Value}{vl vu:Value}{lo hi:Option Int}{Q:Value->Shared->Prop}(ht:IsTup s.heap t items)(hs:s.heap.IsSliceOf sl vl vu .none)(pl:IsPart vl lo)(pu:IsPart vu hi)
  (hw:sIx items.size 0 lo=0/\sIx items.size items.size hi=items.size) (h:Q (.ref t) s):wpAny (model prog w) A (getItem (.ref t) (.ref sl)) Q E s:=by
 obtain⟨os,hos,hcs,hds⟩:=id hs;have hTs:s.TypeIs (.ref sl) "slice":=⟨os,hos,hcs⟩
 unfold getItem
 try with_reducible refine wpAny_holding ?_
 first | refine wpAny_bind (wpAny_pure ?_) | skip
 refine wpAny_bind (wpAny_sequenceKey ht.typeIs (by decide) ?_);refine wpAny_bind (wpAny_callSpecial?_slot (name:=Str.ofString "__getitem__") ht.typeIs PyProof.Rows.slot_tuple_getitem
  (wpAny_call_entry PyProof.Rows.slot_tuple_getitem ht.typeIs entry_tuple_getitem ?_ (args_tuple_getitem _ _)))
 show wpAny _ _ (Builtin.Tuple.tupleItemsOf (.ref t) >>= _) _ _ s;refine wpAny_bind (tupleItemsOf_ ht ?_);refine wpAny_bind (wpAny_typeOf hTs ?_);rw [if_pos (by decide)];refine wpAny_bind (Ej hs pl pu ?_);have hyes:(((sIx items.size 0 lo:Nat):Int) == 0 && (1:Int) == 1 && (sIx items.size items.size hi - sIx items.size 0 lo) == items.size)=true:=by
  rw [hw.1,hw.2];simp
 show wpAny _ _ (if(((sIx items.size 0 lo:Nat):Int) == 0 && (1:Int) == 1 && (sIx items.size items.size hi - sIx items.size 0 lo) == items.size)=true then _ else _) _ _ s;rw [if_pos hyes];refine wpAny_bind ?_;unfold Builtin.Tuple.tupleIsExact;refine wpAny_bind (wpAny_typeOf ht.typeIs (wpAny_pure ?_));rw [if_pos (by decide)];exact wpAny_bind (wpAny_rule (wpAny_pure ⟨_,rfl,wpAny_pure h⟩))
end
end HT
namespace L2
open PySem PySem.Spec PyProof.Rows
def Yz(K:Fg):V->Option Int->Option Int->Hp->VK->Prop:=fun x lo hi H Q=>∃a xs,x=.ref a/\SqT K H a xs/\(HT.sIx xs.length 0 lo=0/\HT.sIx xs.length xs.length hi=xs.length)/\Q (.ref a) H
theorem Vg{X:Cx}:SlR X (Yz X.K):=by
 intro pins s σ H x v vl vu lo hi sl Q I rx hs pl pu h;obtain⟨a,xs,rfl,hx,hw,q⟩:=h;cases rx;obtain⟨its,r,ht,hz⟩:=I.tuple hx;have hlen:its.toArray.size=xs.length:=by rw [List.size_toArray];exact r.length.symm
 refine⟨"tuple",_,PyProof.Rows.slot_tuple_getitem.lookup,ht.typeIs,?_⟩;exact HT.Gh ht hs pl pu (by rw [hlen];exact hw) ⟨.ref a,H,I,rfl,q⟩
end L2
namespace L2
open PySem PySem.Spec PySem.W PyProof.Rows
def Cv:List Int->Nat
 | []=>0
 | n :: ns=>Builtin.Int.intBits n+1+Cv ns
theorem HG:∀ns:List Int,WData.weightAll (ns.map WData.int)=Cv ns
 | []=>by simp [WData.weightAll,Cv]
 | n :: ns=>by
  simp only [List.map_cons,WData.weightAll,Cv,WData.weight,HG ns];rfl
end L2
namespace L2
open PySem PySem.Spec
section
variable{prog:Program}{w:World}{K:Type}[DecidableEq K]{knd:KeyKind prog w K}{A:Around}{E:Value->Shared->Prop}{s:Shared}
end
section
variable{X:Cx}{pins:List (Addr×Obj)}{σ:St}{H:Hp}{s:Shared}{a:Addr}{A:Around}{E:Value->Shared->Prop}
variable{o e f:Expr}{td ty tx:TE}{apos cpos:Pos}
end
section
variable{X:Cx}{pins:List (Addr×Obj)}{σ:St}{H:Hp}{s:Shared}{a:Addr}{o:Obj}{kvs:List (Key×V)}
end
section
variable{X:Cx}{tg:Expr}
end
section
variable{X:Cx}
theorem HE(hc:X.calm=true):DJ X (.type "list") (fun xs H Q=>∃p kvs,xs=[.ref p]/\Rd H p (.dK kvs)/\∀l,H l=none->Q (.ref l) (upd H l (.lst (kvs.map fun kv=>kV kv.1)))):=by
 intro pins s σ H xs us Q I r h;obtain⟨p,kvs,rfl,hp,q⟩:=h;obtain⟨u,rfl,rx⟩:=vals1 r;cases rx;obtain⟨z,hd,vs,rel,dd⟩:=Ln I.hok hp;obtain⟨ep,da⟩:=dd.dictAt;have hlen:kvs.length=vs.length:=Paired.length rel;refine PySem.W.kdl_call (PySem.W.kdl_dict (ep:=ep) hd) (I.ok.hd hc) da (by rw [<- hlen];exact z) fun h' tk acc c' kp e hacc=>?_
 refine⟨.ref s.heap.objs.size,_,I.laid (t':=tk) kp (Nat.le_refl _) (show C4 X.prog X.w _ h' _ (.lst (kvs.map fun kv=>kV kv.1)) from⟨by rw [List.length_map];exact z,acc.toList,c',Nk rel hacc,by simpa using e⟩),rfl,q _ (I.hok.fresh (Nat.le_refl _))⟩
theorem Nb:DJ X (.builtin "len") (fun xs H Q=>∃a kvs,xs=[V.ref a]/\Rd H a (.dK kvs)/\Q (.int kvs.length) H):=by
 intro pins s σ H xs us Q I r h;obtain⟨a,kvs,rfl,ha,q⟩:=h;obtain⟨u,rfl,ru⟩:=vals1 r;cases ru;exact X4 I ha fun t s' I'=>⟨.int kvs.length,H,I',⟨t,rfl⟩,q⟩
end
end L2
namespace PySem
open PyProof.Rows
namespace So
section
variable{prog:Program}{w:World}{A:Around}{E:Value->Shared->Prop}{s:Shared}
end
end So
end PySem
namespace PySem
open PyProof.Rows
namespace So
section
variable{prog:Program}{w:World}{A:Around}{E:Value->Shared->Prop}{s:Shared}
end
end So
end PySem
namespace PySem
open PyProof.Rows
namespace So
section
variable{prog:Program}{w:World}{A:Around}{E:Value->Shared->Prop}{s:Shared}
end
end So
end PySem
namespace L2
open PySem PySem.Spec
section
variable{X:Cx}{pins:List (Addr×Obj)}{σ:St}{H:Hp}{s:Shared}
end
end L2
namespace PySem
open PyProof.Rows (IsTup)
namespace Rv
section
variable{prog:Program}{w:World}{A:Around}{E:Value->Shared->Prop}{s:Shared}
end
end Rv
end PySem
namespace L2
open PySem PySem.Spec PyProof.Rows
end L2
namespace L2
open PySem PySem.Spec
section
variable{X:Cx}{tg:Expr}
end
end L2
namespace L2
open PySem PySem.Spec PyProof.Rows PySem.W
theorem Og{h:Heap}:∀(K:Fg),(K.map (·.1)).map h.get?=K.map (fun p=>some p.2)->K.In h
 | [],_=>fun a o e=>by cases e
 | p :: K,hk=>fun a o e=>by
  simp only [List.map_cons,List.cons.injEq] at hk;rw [List.lookup_cons] at e;by_cases q:a=p.1
  ·subst q
   rw [show(p.1 == p.1)=true by simp] at e;cases e;exact hk.1
  ·rw [show(a == p.1)=false by simpa using q] at e
   exact Og K hk.2 a o e
end L2
namespace L2
open PySem PySem.Spec PyProof.Rows
def ExT(h:Heap)(vs:Array Value)(a:Addr)(fl:Value):Option Addr->Prop
 | none=>vs[1]?=some .none
 | some T=>vs[1]?=some (.ref T)/\T≠a/\∃oT ts,h.get? T=some oT/\oT.data=.fields ts/\ts[3]?=some fl
def RM(h:Heap)(a:Addr)(c:Value)(T:Option Addr)(fl:Value):Prop:=∃oe vs,h.get? a=some oe/\oe.cls=c/\oe.dict=none/\oe.data=.fields vs/\ExT h vs a fl T
theorem Obj.Pl(o:Obj)(f:Array Value->Array Value):(o.mapFields f).dict=o.dict:=by
 obtain⟨_,_,dt,_⟩:=o;cases dt <;> rfl
section
variable{M:Model}{A:Around}{E:Value->Shared->Prop}{s:Shared}
theorem Mb{base:Heap}{env:Env}{outer:List Env}{L e:Addr}{oe:Obj}{vs:Array Value}{head:Value}{hadNext:Bool}{Q:Unit->Shared->Prop}
  (hfr:A.frames=some (env :: outer)) (hl:s.heap.FunFrames base (env :: outer)) (hf:env.frame=some L) (he:s.heap.get? e=some oe) (hdi:oe.dict=none) (hd:oe.data=.fields vs) (hsz:1 < vs.size)
  (h:∀h' T,s.heap.objs.size<=T->(∀b o,s.heap.get? b=some o->b∉frs (env :: outer)->b≠e->h'.get? b=some o)->(∀b o,s.heap.get? b=some o->b∈frs (env :: outer)->∃sl,h'.get? b=some { o with slots:=sl }) ->
   RM h' e oe.cls (some T) (rawInt L)->Q () { s with heap:=h' }) :
  wpAny M A (do let a <- frameOf env;let pl <- entryPlaceOf L hadNext;let b <- EntryCells.newEntry head a .none (rawInt L) .none pl;setField (.ref e) 1 b) Q E s:=by
 have nfe:e∉(env :: outer).filterMap (·.frame):=fun hm=>by
  obtain⟨_,o,ho,hnf⟩:=hl.mem hm;rw [he] at ho;injection ho with ho;subst ho;exact hnf vs hd
 refine wpAny_bind (wpAny_frameOf_fun hfr hl hf fun h₁ hs₁=>?_);refine wpAny_bind (wpAny_entryPlaceOf fun pl hpl=>?_);unfold EntryCells.newEntry newFields;refine wpAny_bind (wpAny_newObj_type ?_ (hpl.sizeOk5 _ _ _ _ _));have he₁:h₁.get? e=some oe:=(hs₁.2.1 e nfe).trans he;have he₂:=Heap.get?_push_of_some (h:=h₁) { cls:=.type "traceback",dict:=none,data:=.fields ([head,.ref L,.none,rawInt L,.none]++(if pl.isEmpty then List.replicate 6 Value.none else pl)).toArray } he₁;refine wpAny_setField he₂ hd hsz ?_;have hTe:h₁.objs.size≠e:=Nat.ne_of_gt (Heap.lt_size he₁);have hd₃:=Obj.data_mapFields hd (·.setIfInBounds 1 (Value.ref h₁.objs.size));have he₃:=Heap.get?_update_self (Obj.mapFields (·.setIfInBounds 1 (Value.ref h₁.objs.size))) he₂ (Obj.isFreed_of_fields hd₃);have hT₃:=(Heap.get?_update_other (h₁.push { cls:=.type "traceback",dict:=none,data:=.fields ([head,.ref L,.none,rawInt L,.none]++(if pl.isEmpty then List.replicate 6 Value.none else pl)).toArray })
  (Obj.mapFields (·.setIfInBounds 1 (Value.ref h₁.objs.size))) (Ne.symm hTe)).trans (Heap.get?_push_size h₁ rfl)
 have keep:∀b o,b≠e->h₁.get? b=some o ->
   ((h₁.push { cls:=.type "traceback",dict:=none,data:=.fields ([head,.ref L,.none,rawInt L,.none]++(if pl.isEmpty then List.replicate 6 Value.none else pl)).toArray }).update e (Obj.mapFields (·.setIfInBounds 1 (Value.ref h₁.objs.size)))).get? b=some o:=fun b o hbe hb=>by
  rw [Heap.get?_update_other _ _ (Ne.symm hbe)];exact Heap.get?_push_of_some _ hb
 refine h _ h₁.objs.size (by rw [hs₁.1];exact Nat.le_refl _) (fun b o hb hn hbe=>keep b o hbe ((hs₁.2.1 b hn).trans hb)) (fun b o hb hn=>?_) ?_
 ·obtain⟨sl,q⟩:=hs₁.2.2 b o hb
  exact⟨sl,keep b _ (fun z=>nfe (by rw [<- z];exact hn)) q⟩
 ·exact⟨_,_,he₃,Obj.cls_mapFields _ _,(Obj.Pl _ _).trans hdi,hd₃,by simp [hsz],hTe,_,_,hT₃,rfl,by first | (simp;done) | (rcases hpl with rfl | ⟨_,_,_,_,_,_,_,rfl⟩ <;> simp)⟩
end
structure P0(X:Cx):Prop where
 pn:X.pn=[]
 ex:X.ex=[]
 st:X.stack=X.env :: X.outer
 fr:X.env.frame=some X.env.locals
theorem C4.get{P:Program}{w:World}{H:Hp}{h:Heap}{a:Addr}{o:HO}(x:C4 P w H h a o):∃u,h.get? a=some u:=by
 cases o with
 | lst xs=>obtain⟨_,_,_,_,e⟩:=x;exact⟨_,e⟩
 | tup xs=>obtain⟨_,_,_,ob,e,_⟩:=x;exact⟨_,e⟩
 | dK kvs=>obtain⟨_,_,_,_,o,_,_,e,_⟩:=x;exact⟨_,e⟩
 | dT kvs=>obtain⟨_,_,_,_,o,_,_,e,_⟩:=x;exact⟨_,e⟩
 | set S n=>obtain⟨o,_,_,_,e,_⟩:=x;exact⟨_,e⟩
 | ins C dx fs=>obtain⟨_,_,_,e,_⟩:=x;exact⟨_,e⟩
 | own y=>obtain⟨_,e⟩:=x;exact⟨_,e⟩
 | xd fs=>obtain⟨_,⟨_,_,_,e,_⟩,_⟩:=x;exact⟨_,e⟩
 | rng lo hi=>obtain⟨_,_,_,e⟩:=x;exact⟨_,e⟩
 | frz ob u=>obtain⟨e,_⟩:=x;exact⟨_,e⟩
 | tbl ps=>exact⟨_,(show h.get? a=some _ from x)⟩
 | met f y=>exact⟨_,(show h.get? a=some _ from x)⟩
 | ext φ=>obtain⟨_,⟨_,e⟩,_⟩:=x;exact⟨_,e⟩
theorem HOk.none{P:Program}{w:World}{H:Hp}{h:Heap}{a:Addr}(x:HOk P w H h)(e:h.get? a=none):H a=none:=by
 cases q:H a with
 | none=>rfl
 | some u =>
  obtain⟨o,z⟩:=(x a u q).get;rw [e] at z;cases z
section
variable{X:Cx}{σ:St}{H:Hp}{s:Shared}{h':Heap}{ch:List Addr}
theorem Inv.kp{pins:List (Addr×Obj)}(I:Inv X pins σ H s)(hpn:X.pn=[])(k:∀b o,s.heap.get? b=some o->b∉frs X.stack->b∉ch->h'.get? b=some o)(sl:∀b o,s.heap.get? b=some o->b∈frs X.stack->∃sl,h'.get? b=some { o with slots:=sl })
  (nc:∀b∈ch,X.s₀.heap.get? b=none/\H b=none/\∃o vs,s.heap.get? b=some o/\o.data=.fields vs):Inv X [] σ H { s with heap:=h' }:=by
 have any:∀b o,s.heap.get? b=some o->b∉ch->∃l,h'.get? b=some { o with slots:=l }:=fun b o e n=>by
  by_cases hb:b∈frs X.stack
  ·exact sl b o e hb
  ·exact⟨o.slots,k b o e hb n⟩
 have n0:∀b o,X.s₀.heap.get? b=some o->b∉ch:=fun b o e z=>by
  have:=(nc b z).1;rw [e] at this;cases this
 have nf:∀b o,s.heap.get? b=some o->(∀vs,o.data≠.fields vs)->b∉ch:=fun b o e hd z=>by
  obtain⟨_,_,o',vs,e',d⟩:=nc b z;rw [e] at e';cases e';exact hd vs d
 have cellK:∀x c,X.env.cells.lookup x=some c->∀v,s.heap.IsCell c v->h'.IsCell c v:=fun x c e v ⟨o,ho,hd⟩=>by
  obtain⟨l,q⟩:=any c o ho (nf c o ho fun vs z=>by rw [hd] at z;cases z);exact⟨_,q,hd⟩
 refine⟨I.ok,I.os,I.bare,⟨fun b o e n hb hx=>?_,fun b o e n hb hx=>?_,I.base.free,fun b o e hx=>?_,I.base.tups,I.base.frzs,I.base.tbls⟩,?_,fun x c e=>?_,I.free,I.freeC,fun p hp=>?_,fun b u e=>?_,I.len⟩
 ·refine k b o (I.base.keep b o e n hb hx) (fun z=>?_) (n0 b o e)
  rcases List.mem_cons.mp (I.JE b z) with z | z
  ·exact Nat.ne_of_lt (Nat.lt_of_lt_of_le (Heap.lt_size e) I.ok.above) z
  ·exact hb z
 ·obtain⟨l,e1⟩:=I.base.slot b o e n hb hx
  obtain⟨l',e2⟩:=any b _ e1 (n0 b o e);exact⟨l',e2⟩
 ·obtain⟨o',e1⟩:=I.base.there b o e hx
  obtain⟨l',e2⟩:=any b _ e1 (n0 b o e);exact⟨_,e2⟩
 ·obtain⟨m,⟨o,es,ep,ho,hd,r⟩,hl⟩:=I.loc
  obtain⟨l,q⟩:=any _ o ho (nf _ o ho fun vs z=>by rw [hd] at z;cases z);refine⟨m,⟨_,es,ep,q,hd,r⟩,fun i x v e1 e2 e3=>?_⟩;obtain⟨u,rv,z⟩:=hl i x v e1 e2 e3;refine⟨u,rv,?_⟩;rcases z with z | ⟨kk,c,e,z⟩
  ·exact .inl z
  ·exact .inr ⟨kk,c,e,cellK x c e _ z⟩
 ·obtain⟨v,z⟩:=I.cell x c e
  exact⟨v,cellK x c e v z⟩
 ·rw [hpn] at hp;cases hp
 ·have nn:∀c,(c=b∨H c=some (.own b))->H c≠none:=fun c hc z=>by
   rcases hc with rfl | hc
   ·rw [z] at e;cases e
   ·rw [z] at hc;cases hc
  exact(I.hok b u e).Qh (fun c v hc q=>k c v q (fun z=>nn c hc (I.KD c z)) fun z=>nn c hc (nc c z).2.1) (fun _ q=>q) fun _ _ q=>q
theorem Inv.new{pins:List (Addr×Obj)}{b:Addr}(I:Inv X pins σ H s)(D:X.ex=[])(e:s.heap.get? b=none):X.s₀.heap.get? b=none/\H b=none:=by
 refine⟨?_,I.hok.none e⟩;cases q:X.s₀.heap.get? b with
 | none=>rfl
 | some o =>
  obtain⟨o',z⟩:=I.base.there b o q (by rw [D];simp);rw [e] at z;cases z
end
section
variable{X:Cx}{σ:St}{H:Hp}{s:Shared}{a:Addr}{c fl:Value}{T:Option Addr}{M:Model}{A:Around}{E:Value->Shared->Prop}{Q:Unit->Shared->Prop}
def W7(X:Cx)(H:Hp)(a:Addr)(T:Option Addr):Prop:=∀b,b=a∨T=some b->X.s₀.heap.get? b=none/\H b=none
theorem RM.there(e:RM s.heap a c T fl):∀b,b=a∨T=some b->∃o vs,s.heap.get? b=some o/\o.data=.fields vs:=by
 obtain⟨oe,vs,h1,h2,h3,h4,h5⟩:=e;intro b hb;rcases hb with rfl | rfl
 ·exact⟨oe,vs,h1,h4⟩
 ·obtain⟨_,_,oT,ts,q1,q2,_⟩:=h5
  exact⟨oT,ts,q1,q2⟩
theorem KU(D:P0 X)(hfr:A.frames=some X.stack)(I:Inv X [] σ H s)(e:RM s.heap a c T fl)(hfl:fl=.none∨fl=rawInt X.env.locals)(nw:W7 X H a T)
  (h:∀h' T',RM h' a c (some T') (rawInt X.env.locals)->W7 X H a (some T')->Inv X [] σ H { s with heap:=h' }->Q () { s with heap:=h' }):wpAny M A (noteFrame (.ref a) X.env) Q E s:=by
 have hl:=I.stack;rw [D.st] at hfr hl;obtain⟨oe,vs,he,hcls,hdi,hd,ht⟩:=id e;have th:=e.there;subst hcls;unfold noteFrame;simp only [D.fr];cases T with
 | none =>
  refine wpAny_bind (wpAny_field he hd ht ?_);rw [if_neg (by decide)];refine Mb hfr hl D.fr he hdi hd (Array.getElem?_eq_some_iff.mp ht).1 fun h' T' q1 q2 q3 q4=>?_
  have nT:=I.new D.ex (Heap.get?_none_of_le q1);refine h h' T' q4 (fun b hb=>hb.elim (fun z=>nw b (.inl z)) fun z=>by cases z;exact nT) (I.kp (ch:=[a]) D.pn (fun b o x y z=>q2 b o x (by rw [<- D.st];exact y) fun w=>z (by simp [w])) (fun b o x y=>q3 b o x (by rw [<- D.st];exact y)) fun b hb=>?_);rw [List.mem_singleton.mp hb];exact⟨(nw a (.inl rfl)).1,(nw a (.inl rfl)).2,oe,vs,he,hd⟩
 | some T =>
  obtain⟨h1,hTe,oT,ts,hT,hdT,h3⟩:=ht;refine wpAny_bind (wpAny_field he hd h1 ?_);rw [if_pos (show(Value.ref T != Value.none)=true from by simp)];refine wpAny_bind (wpAny_field hT hdT h3 ?_);rcases hfl with rfl | rfl
  ·rw [if_neg (show ¬ ((Value.none == rawInt X.env.locals)=true) from by simp [rawInt])]
   refine wpAny_bind (wpAny_setField hT hdT (Array.getElem?_eq_some_iff.mp h3).1 ?_);have other:∀b,b≠T->(s.heap.update T (Obj.mapFields (·.setIfInBounds 3 Value.none))).get? b=s.heap.get? b:=fun b hb=>Heap.get?_update_other _ _ (Ne.symm hb)
   have nr:∀b o,s.heap.get? b=some o->(∀vs,o.data≠.fields vs)->b≠T:=fun b o hb hnf q=>by
    rw [q,hT] at hb;injection hb with hb;subst hb;exact hnf ts hdT
   have nfT:T∉frs X.stack:=fun hm=>by
    obtain⟨_,o,ho,hnf⟩:=I.stack.mem hm;rw [hT] at ho;injection ho with ho;subst ho;exact hnf ts hdT
   refine Mb hfr (hl.of_keeps fun b o hb hnf=>⟨o,(other b (nr b o hb hnf)).trans hb,rfl⟩) D.fr ((other a (Ne.symm hTe)).trans he) hdi hd (Array.getElem?_eq_some_iff.mp h1).1 fun h' T' q1 q2 q3 q4=>?_
   have sz:s.heap.objs.size<=T':=by
    have:(s.heap.update T (Obj.mapFields (·.setIfInBounds 3 Value.none))).objs.size=s.heap.objs.size:=Heap.size_after_update ..;rw [<- this];exact q1
   have nT:=I.new D.ex (Heap.get?_none_of_le sz);refine h h' T' q4 (fun b hb=>hb.elim (fun z=>nw b (.inl z)) fun z=>by cases z;exact nT) (I.kp (ch:=[a,T]) D.pn (fun b o x y z=>?_) (fun b o x y=>?_) fun b hb=>?_)
   ·exact q2 b o ((other b fun w=>z (by simp [w])).trans x) (by rw [<- D.st];exact y) fun w=>z (by simp [w])
   ·exact q3 b o ((other b fun w=>nfT (by rw [<- w];exact y)).trans x) (by rw [<- D.st];exact y)
   ·have hb':b=a∨some T=some b:=by
     rcases List.mem_cons.mp hb with z | z
     ·exact .inl z
     ·exact .inr (by rw [List.mem_singleton.mp z])
    exact⟨(nw b hb').1,(nw b hb').2,th b hb'⟩
  ·rw [if_pos (show(rawInt X.env.locals == rawInt X.env.locals)=true from by simp)]
   exact wpAny_pure (h s.heap T e nw I)
theorem FG{f:Option Addr}(hpn:X.pn=[])(I:Inv X [] σ H s)(e:RM s.heap a c T fl)(nw:W7 X H a T)
  (h:∀h',RM h' a c T (f.elim .none fun f=>rawInt f)->Inv X [] σ H { s with heap:=h' }->Q () { s with heap:=h' }):wpAny M A (setFlight (.ref a) f) Q E s:=by
 obtain⟨oe,vs,he,hcls,hdi,hd,ht⟩:=id e;have th:=e.there;unfold setFlight;cases T with
 | none =>
  refine wpAny_bind (wpAny_field he hd ht ?_);rw [if_neg (by decide)];exact wpAny_pure (h s.heap ⟨oe,vs,he,hcls,hdi,hd,ht⟩ I)
 | some T =>
  obtain⟨h1,hTe,oT,ts,hT,hdT,h3⟩:=ht;have hsz:=(Array.getElem?_eq_some_iff.mp h3).1;refine wpAny_bind (wpAny_field he hd h1 ?_);rw [if_pos (show(Value.ref T != Value.none)=true from by simp)];have other:∀b,b≠T->(s.heap.update T (Obj.mapFields (·.setIfInBounds 3 (f.elim Value.none fun f=>rawInt f)))).get? b=s.heap.get? b:=fun b hb=>Heap.get?_update_other _ _ (Ne.symm hb)
  refine wpAny_setField hT hdT hsz (h _ ⟨oe,vs,(other a (Ne.symm hTe)).trans he,hcls,hdi,hd,h1,hTe,_,_,Heap.get?_update_self _ hT (Obj.isFreed_of_fields (Obj.data_mapFields hdT _)),Obj.data_mapFields hdT _,by simp [hsz]⟩ (I.kp (ch:=[T]) hpn (fun b o x _ z=>(other b fun w=>z (by simp [w])).trans x) (fun b o x y=>?_) fun b hb=>?_))
  ·refine⟨o.slots,(other b fun w=>?_).trans x⟩
   obtain⟨_,o',ho',hnf⟩:=I.stack.mem y;rw [w,hT] at ho';injection ho' with ho';subst ho';exact hnf ts hdT
  ·rw [List.mem_singleton.mp hb]
   exact⟨(nw T (.inr rfl)).1,(nw T (.inr rfl)).2,th T (.inr rfl)⟩
end
abbrev XE:=Value->St->Hp->Prop
def XW(X:Cx)(Z:XE)(e:Value)(s:Shared):Prop:=∃a c T fl σ H,e=.ref a/\Inv X [] σ H s/\RM s.heap a c T fl/\(fl=.none∨fl=rawInt X.env.locals)/\W7 X H a T/\Z c σ H
def CX1(P:Program)(w:World):CXT:=fun outer H s E e s'=>∃a c T H',e=.ref a/\s'.os=s.os/\AllBare s'.gens/\Un (frs outer) [] H H' s.heap s'.heap/\HOk P w H' s'.heap/\RM s'.heap a c T .none /\
 (∀b,b=a∨T=some b->s.heap.get? b=none/\H' b=none)/\E c none H'
section
variable{X:Cx}{Z Z':XE}{e:Value}{s s':Shared}{pins:List (Addr×Obj)}{σ:St}{H:Hp}
theorem XW.imp(h:XW X Z e s)(k:∀c σ H,Z c σ H->Z' c σ H):XW X Z' e s :=
 let⟨a,c,T,fl,σ,H,q1,q2,q3,q4,q5,q6⟩:=h
 ⟨a,c,T,fl,σ,H,q1,q2,q3,q4,q5,k _ _ _ q6⟩
theorem XW.GV{E:Value->Shared->Prop}(h:XW (X.GV E) Z e s):XW X Z e s :=
 let⟨a,c,T,fl,σ,H,q1,q2,q3,q4,q5,q6⟩:=h
 ⟨a,c,T,fl,σ,H,q1,q2.E1,q3,q4,q5,q6⟩
theorem CX1.xw(D:X.ex=[])(I:Inv X pins σ H s)(h:CX1 X.prog X.w X.stack H s (fun c _ H'=>Z c σ H') e s'):XW X Z e s':=by
 obtain⟨a,c,T,H',rfl,q1,q2,q3,q4,q5,q6,q7⟩:=h;have I':Inv X pins σ H' s':=I.WM (ch:=[]) q1 q3 q4 q2 fun b z=>absurd z (by simp)
 exact⟨a,c,T,.none,σ,H',rfl,I'.IU fun _ z=>absurd z (by simp),q5,.inl rfl,fun b hb=>⟨(I.new D (q6 b hb).1).1,(q6 b hb).2⟩,q7⟩
theorem XW.own(D:P0 X):PassesOwn (model X.prog X.w) X.A X.env (XW X Z):=by
 intro e s' h;obtain⟨a,c,T,fl,σ,H,rfl,I,q3,q4,q5,q6⟩:=h;refine KU D I.ok.frames I q3 q4 q5 fun h1 T1 e1 n1 I1=>?_
 obtain⟨oe,vs,he,hc,hdi,hd,ht⟩:=id e1;refine wpAny_bind (wpAny_field he hd ht.1 ?_);rw [if_neg (show ¬ ((Value.ref T1 == Value.none)=true) from by simp)];rw [D.fr];exact FG (f:=some X.env.locals) D.pn I1 e1 n1 fun h2 e2 I2=>⟨a,c,some T1,rawInt X.env.locals,σ,H,rfl,I2,e2,.inr rfl,n1,q6⟩
end
section
variable{P:Program}{w:World}{K:Fg}{mg:Str->Option Value}{base:Heap}{N:List Str}{qual:Str}{scope:Scope}{f:Addr}{cd:Value}{A:Around}{outer:List Env}{s:Shared}{H:Hp}{E:XK}
theorem WG:P0 (M8 (CX1 P w) P w K mg base N qual scope f cd A outer s H E):=⟨rfl,rfl,rfl,rfl⟩
theorem Xe{e:Value}{s':Shared}(h:XW (M8 (CX1 P w) P w K mg base N qual scope f cd A outer s H E) (fun c _ H'=>E c none H') e s'):(M8 (CX1 P w) P w K mg base N qual scope f cd A outer s H E).xe e s':=by
 obtain⟨a,c,T,fl,σ,H',rfl,I,q3,q4,q5,q6⟩:=h;show wpAny _ _ (leaving (M8 (CX1 P w) P w K mg base N qual scope f cd A outer s H E).env (.ref a)) _ _ s';unfold leaving;refine wpAny_bind (KU WG I.ok.frames I q3 q4 q5 fun h1 T1 e1 n1 I1=>?_);refine FG (f:=none) rfl I1 e1 n1 fun h2 e2 I2=>?_
 exact⟨a,c,some T1,H',rfl,I2.os,I2.bare,I2.base,I2.hok,e2,n1,q6⟩
end
def Lk(X:Cx)(Z:XE):Prop:=∀(pins:List (Addr×Obj)) (σ:St) (H:Hp) (s:Shared) (e:Value) (s':Shared),Inv X pins σ H s->CX1 X.prog X.w X.stack H s (fun c _ H'=>Z c σ H') e s'->X.xe e s'
theorem Lk.of{X:Cx}{Z:XE}(D:X.ex=[])(k:∀e s,XW X Z e s->X.xe e s):Lk X Z:=fun _ _ _ _ _ _ I h=>k _ _ (CX1.xw D I h)
section
variable{X:Cx}{k:Nat}{f C:Addr}{fd:FuncData}{ps:List Str}{sp:Sp}{Z:XE}{x m:Str}{p pos apos:Pos}{e o:Expr}{es:List Expr}{ta:TE}{t:TA}
def Vd(sp:Sp)(Z:XE)(t:TA):TE:=fun σ H Q=>t σ H fun vs H1=>sp vs H1 Q fun c _ H'=>Z c σ H'
theorem Tc{pins:List (Addr×Obj)}{σ:St}{H:Hp}{s:Shared}{Q:VK}{us:List Value}{vs:List V}(F:D9 X.prog X.w X.K X.mg X.base (CX1 X.prog X.w) k f fd ps sp)(hr:EX k X.A)(hb:Binds X.K fd ps [])(hx:Lk X Z)
  (I:Inv X pins σ H s) (r:Vals vs us) (h:sp vs H Q fun c _ H'=>Z c σ H'):wpAny (model X.prog X.w) X.A (call (.ref f) us) (EP X pins σ Q) X.xe s:=by
 have hl:us.length=ps.length:=by rw [<- r.length];exact F.len _ _ _ _ h
 have b:=hb s us I.kIn (by rw [List.append_nil];exact hl);rw [List.append_nil] at b;refine wpAny_call (codeAny_mono (F.run X.A X.stack s H ⟨us,[]⟩ us vs Q _ hr I.X1 b r h) fun r s' hq=>?_);cases r with
 | error e=>exact hx pins σ H s e s' I hq
 | ok fl =>
  cases fl with
  | ret u=>exact I.after hq
  | next=>exact False.elim hq
  | brk=>exact False.elim hq
  | cont=>exact False.elim hq
theorem VE(G:FnAt X.prog X.w X.K X.mg X.base (CX1 X.prog X.w) x k ps sp)(hr:EX k X.A)(hx:Lk X Z)(ha:PA X (e :: es) t)(hg:Gl X x:=by rfl)(hdb:(x == ("__debug__":Str))=false:=by decide)
  (he:starEach (e :: es) X.env=(false,eval e X.env) :: starEach es X.env:=by rfl) (hpl:(backTo pos (starEach es X.env)).any (·.1)=false:=by rfl):PE X (.Call (.Name x p) (e :: es) [] pos) (Vd sp Z t):=by
 obtain⟨f,fd,F,hm,hk,hb⟩:=G.ex;intro pins s σ H Q I h;refine wpAny_Call_Name_kw (Ge I hg hm ?_ hdb);refine PySem.W.callWith_K (h₀:=X.base) I.ok.mod.kin hk (thn (ha pos pins s σ H _ I h) fun us s1 ⟨vs,H1,I1,r,q⟩=>⟨I1.kIn,?_⟩) he hpl;exact Tc F hr hb hx I1 r q
end
def U6:List Value:=[.type "ValueError",.type "Exception",.type "BaseException",.type "object"]
structure ExC(K:Fg)(mg:Str->Option Value)(x:Str)(C:Addr):Prop where
 at_:mg x=some (.ref C)
 ok:PySem.W.excIn K C U6 "ValueError.__new__"=true
def Vb(C:Addr)(Z:XE)(t:TA):TS:=fun _ σ H=>t σ H fun vs H1=>vs.length<=1000/\Z (.ref C) σ H1
theorem ExC.own{K:Fg}{mg:Str->Option Value}{x:Str}{C:Addr}{h:Heap}(c:ExC K mg x C)(X:K.In h):OwnCls x C U6 "ValueError.__new__" mg h:=by
 refine⟨c.at_,?_⟩;have q:=c.ok;unfold PySem.W.excIn at q;split at q
 ·rename_i dd cd sl ho
  split at q
  ·rename_i C' bm k0 k1 k2 k3 n k5 hm hs
   simp only [Bool.and_eq_true,beq_iff_eq,Bool.not_eq_true'] at q;obtain⟨⟨⟨⟨⟨rfl,rfl⟩,hdel⟩,ht⟩,hok⟩,hni⟩:=q;obtain⟨nm,bs,mro,ns,qn,hd,sn,sub,ab,col,del⟩:=cd;dsimp only at hm hdel hok hni;subst hm hdel;have hsl:sl=#[k0,k1,k2,k3,some (.builtin "ValueError.__new__"),k5]:=by
    obtain⟨l⟩:=sl;simp only at hs;rw [hs]
   subst hsl;exact⟨bm,ns,nm,qn,bs,hd,sn,sub,ab,col,dd,k0,k1,k2,k3,k5,_,X _ _ ho,.of_isNs (PySem.W.isNs_of_in X hok),PySem.W.nsMap_none_of_in X hok hni,PySem.W.tail_of_in X ht⟩
  ·cases q
 ·cases q
section
variable{X:Cx}{C:Addr}{Z:XE}{x:Str}{np cpos pos:Pos}{e:Expr}{es:List Expr}{t:TA}
theorem T5{pins:List (Addr×Obj)}{σ:St}{H:Hp}{s:Shared}{h':Heap}{a:Addr}{us:List Value}(D:X.ex=[])(I:Inv X pins σ H s)(hm:Heap.MadeExcOf s.heap h' a (.ref C) us)(q:Z (.ref C) σ H):XW X Z (.ref a) { s with heap:=h' }:=by
 obtain⟨t,ht,_,_⟩:=hm.there;refine⟨a,.ref C,none,.none,σ,H,rfl,(I.kept (t':=s.toks) hm.keeps).IU fun _ z=>absurd z (by simp),⟨_,_,ht,rfl,rfl,rfl,rfl⟩,.inl rfl,fun b hb=>?_,q⟩;rcases hb with rfl | hb
 ·exact I.new D hm.new
 ·cases hb
theorem IQ(c:ExC X.K X.mg x C)(D:X.ex=[])(hc:X.calm=true)(hx:∀e s,XW X Z e s->X.xe e s)(ha:PA X (e :: es) t)(hg:Gl X x:=by rfl)(hdb:(x == ("__debug__":Str))=false:=by decide)
  (he:starEach (e :: es) X.env=(false,eval e X.env) :: starEach es X.env:=by rfl) (hpl:(backTo cpos (starEach es X.env)).any (·.1)=false:=by rfl) :
  PS X (.Raise (some (.Call (.Name x np) (e :: es) [] cpos)) none pos) (Vb C Z t):=by
 intro pins s σ H D' I h;obtain⟨tl,N,nm,q,bs,hdct,sn,sub,ab,col,dd,k0,k1,k2,k3,k5,mN,hC,hN,hni,T⟩:=(c.own I.ok.mod.kin).obj;refine wpAny_Raise_call_subT (C:=C) (nm:=nm) (q:=q) (N:=N) (bs:=bs) (bm:=tl) (hdct:=hdct) (sn:=sn) (sub:=sub) (ab:=ab) (col:=col) (dd:=dd) (k0:=k0) (k1:=k1) (k2:=k2) (k3:=k3) (k5:=k5)
  PySem.F.excBase_ValueError (mN:=mN) (T.hasType PySem.F.excBase_ValueError.hasBase) (I.ok.hd hc) (by rw [he];show(false || (backTo cpos (starEach es X.env)).any (·.1))=false;rw [hpl];rfl) hni (Ge I hg c.at_ ⟨rfl,?_⟩ hdb)
 have h1:=ha cpos pins s σ H _ I h;rw [he] at h1 ⊢;refine Calls.evalArgs_plain (thn h1 fun us s2 ⟨vs,H1,I1,r,hl,hz⟩=>⟨rfl,?_,I1.bk _ _ hC,hN.keeps I1.bk,T.keeps I1.bk,fun h' a hm=>hx _ _ (T5 D I1 hm hz)⟩);show us.length<=sizeLine;rw [<- r.length,sizeLine_eq];omega
end
def exO(c:Value)(a:Addr):HO:=.ext fun h=>∃o vs,h.get? a=some o/\o.cls=c/\o.dict=none/\o.data=.fields vs
abbrev Cx.hand(X:Cx)(a:Addr):Cx:={ X with A:=X.A.mark (some (.ref a)),calm:=false,xe:=fun _ _=>False }
section
variable{X:Cx}{pins:List (Addr×Obj)}{σ:St}{H:Hp}{s:Shared}{a:Addr}
theorem Cx.Ok.hand(ok:X.Ok):(X.hand a).Ok :=
 ⟨ok.mod,ok.kind,ok.glob,ok.blt,ok.above,ok.inj,ok.has,ok.cab,(fun z=>nomatch z),ok.frames,ok.stk,ok.exf,ok.bs,ok.bsz,ok.noex,ok.exfs,ok.LZ,ok.frf⟩
theorem Inv.hand(I:Inv X pins σ H s):Inv (X.hand a) pins σ H s:=⟨I.ok.hand,I.os,I.bare,I.base,I.loc,I.cell,I.free,I.freeC,I.pin,I.hok,I.len⟩
theorem Inv.HY(ok:X.Ok)(I:Inv (X.hand a) pins σ H s):Inv X pins σ H s:=⟨ok,I.os,I.bare,I.base,I.loc,I.cell,I.free,I.freeC,I.pin,I.hok,I.len⟩
theorem Inv.Xh{o:HO}(I:Inv X [] σ H s)(hpn:X.pn=[])(h0:X.s₀.heap.get? a=none)(hn:H a=none)(hf:∃u vs,s.heap.get? a=some u/\u.data=.fields vs)(new:C4 X.prog X.w (upd H a o) s.heap a o):Inv X [] σ (upd H a o) s:=by
 have ne0:∀b u,X.s₀.heap.get? b=some u->b≠a:=fun b u e z=>by rw [z,h0] at e;cases e
 obtain⟨u,vs,hu,hd⟩:=hf;refine⟨I.ok,I.os,I.bare,⟨I.base.keep,I.base.slot,fun b o e n hx=>?_,I.base.there,fun b xs e=>?_,fun b o u e=>?_,fun b ps e=>?_⟩,I.loc,I.cell,?_,fun x c e=>?_,fun p hp=>?_,fun b u e=>?_,I.len⟩
 ·rw [Ay (ne0 b o e)]
  exact I.base.free b o e n hx
 ·have q:=I.base.tups b xs e
  rw [Ay (Bl q hn)];exact q
 ·have q:=I.base.frzs b o u e
  rw [Ay (Bl q hn)];exact q
 ·obtain⟨more,q⟩:=I.base.tbls b ps e
  exact⟨more,by rw [Ay (Bl q hn)];exact q⟩
 ·rw [Ay]
  ·exact I.free
  ·intro z
   obtain⟨m,⟨o',_,_,ho',hd',_⟩,_⟩:=I.loc;rw [z,hu] at ho';cases ho';rw [hd] at hd';cases hd'
 ·rw [Ay]
  ·exact I.freeC x c e
  ·intro z
   obtain⟨v,o',ho',hd'⟩:=I.cell x c e;rw [z,hu] at ho';cases ho';rw [hd] at hd';cases hd'
 ·rw [hpn] at hp;cases hp
 ·by_cases hb:b=a
  ·subst hb;rw [AK] at e;cases e;exact new
  ·rw [Ay hb] at e
   exact(I.hok b u e).Qh (fun _ _ _ q=>q) (fun c q=>by rw [Ay (Bl q hn)];exact q) fun c xs q=>by rw [Ay (Bl q hn)];exact q
theorem Jg{M:Model}{A:Around}{E:Value->Shared->Prop}{i:Nat}{n:Str}{pos:Pos}{Q:Unit->Shared->Prop}(I:Inv X [] σ H s)(hpn:X.pn=[])(hN:X.N.Nodup)(hi:X.N[i]?=some n)(hl:X.env.scope.names.lookup n=some .local)
  (h:∀s',Inv X [] (σ.set i none) H s'->Q () s'):wpAny M A (do bindName X.env n .none;unbindBehindTheSuite X.env n pos) Q E s:=by
 have hcls:(X.env.scope.kind == .class || (X.env.scope.kind == .module && X.env.locals != X.env.globals))=false:=by rw [I.ok.kind];rfl
 have hk:X.env.kindOf n=some .local:=hl;refine wpAny_bind (wpAny_bindName (GL I hN hi (.inl hl) (v:=V.non) (u:=Value.none) rfl (fun s1 I1=>?_) (.inr hl)));unfold unbindBehindTheSuite;refine wpAny_onRaise ?_;unfold unbindName;refine wpAny_bind (wpAny_point (wpAny_bind ?_));unfold deleteName;simp only [hk,hcls];rw [if_neg (by decide)];obtain⟨m,hn,hl'⟩:=id I1.loc;have hiσ:i < σ.length:=by rw [I.len];exact(List.getElem?_eq_some_iff.mp hi).1
 have hmn:(m n).isSome=true:=by
  obtain⟨u,_,z⟩:=hl' i n V.non hi (by rw [List.getElem?_set_self hiσ]) (.inl hl);rcases z with⟨_,z⟩ | ⟨z,_⟩
  ·rw [z];rfl
  ·rw [hk] at z;rcases z with z | z <;> cases z
 refine wpAny_bind (wpAny_nsDel_keeps hn fun h2 v hn2 hs2=>?_);simp only [hmn,Bool.not_true,Bool.false_eq_true,if_false];refine wpAny_pure (wpAny_point ?_);have cne:=I1.cne;have neL:∀b o,X.s₀.heap.get? b=some o->b≠X.env.locals:=fun b o e=>Nat.ne_of_lt (Nat.lt_of_lt_of_le (Heap.lt_size e) I.ok.above)
 have key:Inv X [] (σ.set i none) H { s1 with heap:=h2 }:=by
  refine⟨I1.ok,I1.os,I1.bare,⟨fun b o e n hb hx=>(hs2.2 b (neL b o e)).trans (I1.base.keep b o e n hb hx),fun b o e n hb hx=>?_,I1.base.free,fun b o e hx=>?_,I1.base.tups,I1.base.frzs,I1.base.tbls⟩,⟨_,hn2,fun j y v' e1 e2 e3=>?_⟩,fun y c e=>?_,I1.free,I1.freeC,fun p hp=>?_,fun b ob e=>?_,by simpa using I1.len⟩
  ·obtain⟨sl,e1⟩:=I1.base.slot b o e n hb hx
   exact⟨sl,(hs2.2 b (neL b o e)).trans e1⟩
  ·obtain⟨o',e1⟩:=I1.base.there b o e hx
   exact⟨o',(hs2.2 b (neL b o e)).trans e1⟩
  ·by_cases hj:j=i
   ·subst hj
    rw [List.getElem?_set_self hiσ] at e2;cases e2
   ·rw [List.getElem?_set_ne (Ne.symm hj)] at e2
    obtain⟨u',r',q⟩:=hl' j y v' e1 (by rw [List.getElem?_set_ne (Ne.symm hj)];exact e2) e3;refine⟨u',r',?_⟩;rcases q with⟨k,e⟩ | ⟨k,c,e,z⟩
    ·refine .inl ⟨k,?_⟩
     have:y≠n:=fun e=>hj (IY hN e1 (e▸hi))
     simp [this,e]
    ·exact .inr ⟨k,c,e,z.sameBut hs2 (cne y c e)⟩
  ·obtain⟨w',z⟩:=I1.cell y c e
   exact⟨w',z.sameBut hs2 (cne y c e)⟩
  ·rw [hpn] at hp;cases hp
  ·refine(I1.hok b ob e).Qh (fun c w' hc q=>(hs2.2 c ?_).trans q) (fun _ q=>q) fun _ _ q=>q
   rintro rfl
   rcases hc with rfl | hc
   ·rw [I1.free] at e;cases e
   ·rw [I1.free] at hc;cases hc
 first
  | exact h _ key
  | exact h _ (key.tok _)
end
def PS0(X:Cx)(st:Stmt)(t:TS):Prop:=∀(s:Shared) (σ:St) (H:Hp) (D:Ends),Inv X [] σ H s->t D σ H->wpAny (model X.prog X.w) X.A (exec st X.env) (SP X [] D) X.xe s
def RL(X:Cx)(st:List Stmt)(t:TS):Prop:=∀(s:Shared) (σ:St) (H:Hp) (D:Ends),Inv X [] σ H s->t D σ H->wpAny (model X.prog X.w) X.A (execs st X.env) (SP X [] D) X.xe s
section
variable{X:Cx}{st:Stmt}{rest:List Stmt}{t u:TS}
theorem PS.zero(h:PS X st t):PS0 X st t:=fun s σ H D I q=>h [] s σ H D I q
theorem PSs.zero(h:PSs X rest t):RL X rest t:=fun s σ H D I q=>h [] s σ H D I q
theorem NI(h1:PS0 X st t)(h2:RL X rest u):RL X (st :: rest) (X9 t u):=by
 intro s σ H D I h;refine wpAny_execs_cons (thn (h1 s σ H { D with nx:=u D } I h) fun f s1 q=>?_);cases f with
 | next =>
  obtain⟨σ',H',I',q⟩:=q;exact h2 s1 σ' H' D I' q
 | ret v=>exact q
 | brk=>exact q
 | cont=>exact q
theorem RL.unw{E:Value->Shared->Prop}(h:RL (X.GV E) rest t)(k:∀e s,E e s->X.xe e s):RL X rest t:=fun s σ H D I hw =>
 wpAny_mono (h s σ H D (I.GV _) hw) (fun _ _ q=>q.E1) fun e s z=>k e s z
end
theorem Wl{CX:CXT}{P:Program}{w:World}{K:Fg}{mg:Str->Option Value}{base:Heap}{k:Nat}{f:Addr}{name qual:Str}{params:Arguments}{body:List Stmt}{scope:Scope}{dV kV doc pm cdv ct oc:Value}{an od:Option Addr}
  {osl:Array (Option Value)} {N ps:List Str} {sp:Sp} (lk:K.lookup f=some ⟨oc,od,.func (PySem.W.fnOf name qual params body scope dV kV doc pm an cdv ct),osl⟩) (hcd:PySem.W.codeIn K cdv qual=true) (S:Br N ps scope)
  (len:∀vs H Q E,sp vs H Q E->vs.length=ps.length)
  (hbody:∀(A:Around) (outer:List Env) (s:Shared) (H:Hp) (vs:List V) (Q:VK) (E:XK),EX k (A.deeper (envOfC qual scope s.heap.objs.size f cdv))->sp vs H Q E ->
   ∃t,RL (M8 CX P w K mg base N qual scope f cdv A outer s H E) body t/\t { nx:=fun _ H'=>Q .non H',rt:=Q } (start N vs) H) :
  D9 P w K mg base CX (k+1) f (PySem.W.fnOf name qual params body scope dV kV doc pm an cdv ct) ps sp:=by
 refine⟨len,fun A outer s H args us vs Q E hr e0 hb r hsp=>?_⟩;have hl:=len _ _ _ _ hsp;have KX:K.In s.heap:=e0.mod.kin.keeps fun b o e=>(e0.bs b o e).1
 have lim:s.heap.NoLimit:=e0.mod.nolimit.keeps fun b o e=>(e0.bs b o e).1
 have hkind:∀y∈ps.zip us,scope.names.lookup y.1=some .local∨(scope.names.lookup y.1=some .cell/\((cellsFrom (s.heap.objs.size+1) scope.names []).lookup y.1).isSome=true):=fun⟨n,v⟩ hy=>by
  rcases S.par n (List.of_mem_zip hy).1 with q | q
  ·exact .inl q
  ·exact .inr ⟨q,PySem.W.cellsFrom_some _ _ _ (.inl q)⟩
 refine codeAny_call_function hr.depth (KX _ _ lk) rfl S.co S.gen rfl (PySem.W.codeRec_of KX hcd) (hb _ _ _ _ ?_);refine wpAny_newFunctionEnv_cells S.kind hkind fun env he s1 x=>?_
 subst he;refine⟨lim.keeps x.toInCall.keep,codeAny_func ?_⟩;obtain⟨t,ht,hq⟩:=hbody A outer s H vs Q E (hr.deeper _) hsp;have I:Inv (M8 CX P w K mg base N qual scope f cdv A outer s H E) [] (start N vs) H s1:=OB S hr.hd e0 hl r x;refine wpAny_mono (ht s1 (start N vs) H _ I hq) (fun fl s' hs=>?_) fun e s' hs=>hs
 have fin:∀{σ':St} {H':Hp} {v:V} {u:Value},Inv (M8 CX P w K mg base N qual scope f cdv A outer s H E) [] σ' H' s'->RelV v u->Q v H'->CE outer P w H s Q u s' :=
  fun {σ' H' v u} J rv q=>⟨v,H',J.os,J.bare,J.base,J.hok,rv,q⟩
 cases fl with
 | ret u =>
  obtain⟨v,σ',H',J,rv,q⟩:=hs;exact fin J rv q
 | next =>
  obtain⟨σ',H',J,q⟩:=hs;exact fin (v:=V.non) (u:=Value.none) J rfl q
 | brk =>
  obtain⟨_,_,_,q⟩:=hs;exact False.elim q
 | cont =>
  obtain⟨_,_,_,q⟩:=hs;exact False.elim q
theorem Fun.ok0{P:Program}{w:World}{K:Fg}{mg:Str->Option Value}{base:Heap}{N:List Str}{qual:Str}{f:Addr}{x:Str}{st:Stmt}{fd:FuncData}{ps:List Str}{k:Nat}{sp:Sp}(F:Fun K x qual st f fd)(S:Br N ps (Au st))(len:∀vs H Q E,sp vs H Q E->vs.length=ps.length)
  (hbody:∀(cdv:Value) (A:Around) (outer:List Env) (s:Shared) (H:Hp) (vs:List V) (Q:VK) (E:XK),EX k (A.deeper (envOfC qual (Au st) s.heap.objs.size f cdv))->sp vs H Q E ->
   ∃t,RL ((M8 (CX1 P w) P w K mg base N qual (Au st) f cdv A outer s H E).GV (XW (M8 (CX1 P w) P w K mg base N qual (Au st) f cdv A outer s H E) fun c _ H'=>E c none H')) (Bf st) t/\t { nx:=fun _ H'=>Q .non H',rt:=Q } (start N vs) H) :
  D9 P w K mg base (CX1 P w) (k+1) f fd ps sp:=by
 obtain⟨oc,od,kV,doc,pm,an,cdv,ct,osl,rfl,lk,hcd⟩:=F.ex;refine Wl lk hcd S len fun A outer s H vs Q E hr hsp=>?_
 obtain⟨t,h,q⟩:=hbody cdv A outer s H vs Q E hr hsp;exact⟨t,h.unw fun _ _=>Xe,q⟩
def SQ(i:Nat)(D:Ends):Ends:={ nx:=fun σ H=>D.nx (σ.set i none) H,rt:=D.rt,bk:=fun σ H=>D.bk (σ.set i none) H,ct:=fun σ H=>D.ct (σ.set i none) H }
def YM(K:Fg)(C:Addr)(i:Nat)(th:TS)(D:Ends):XE:=fun c σ H=>PySem.W.exmOne K c (.ref C)=some true/\∀a,H a=none->th (SQ i D) (σ.set i (some (.ref a))) (upd H a (exO c a))
section
variable{X:Cx}{C:Addr}{x n:Str}{i:Nat}{np pos hpos:Pos}{body suite:List Stmt}{b₀:Stmt}{tb:Ends->TS}{th:TS}
theorem SP.HY{a:Addr}{f:Flow}{s':Shared}{D:Ends}(ok:X.Ok)(h:SP (X.hand a) [] D f s'):SP X [] D f s':=by
 cases f with
 | next=>obtain⟨σ',H',I,q⟩:=h;exact⟨σ',H',I.HY ok,q⟩
 | brk=>obtain⟨σ',H',I,q⟩:=h;exact⟨σ',H',I.HY ok,q⟩
 | cont=>obtain⟨σ',H',I,q⟩:=h;exact⟨σ',H',I.HY ok,q⟩
 | ret u=>obtain⟨v,σ',H',I,r,q⟩:=h;exact⟨v,σ',H',I.HY ok,r,q⟩
theorem Ti(D:P0 X)(hC:X.mg x=some (.ref C))(hN:X.N.Nodup)(hb:∀D,PSs (X.GV (XW X (YM X.K C i th D))) body (tb D))(hs:∀a,PSs (X.hand a) (b₀ :: suite) th)(hi:X.N[i]?=some n:=by rfl)(hl:X.env.scope.names.lookup n=some .local:=by rfl)
  (hg:Gl X x:=by rfl) (hdb:(x == ("__debug__":Str))=false:=by decide) :
  PS0 X (.Try body [.ExceptHandler (some (.Name x np)) (some n) (b₀ :: suite) hpos] [] [] pos) (fun D=>tb D D):=by
 intro s σ H D' I h;refine wpAny_Try_except (wpAny_mono (hb D' [] s σ H D' (I.GV _) h) (fun f s1 q=>?_) fun e s1 q=>?_)
 ·have q:=q.E1
  cases f with
  | next=>exact wpAny_execs_nil q
  | ret v=>exact q
  | brk=>exact q
  | cont=>exact q
 ·obtain⟨a,c,T,fl,σ1,H1,rfl,I1,e1,f1,n1,z1,z2⟩:=q
  refine KU D I1.ok.frames I1 e1 f1 n1 fun h2 T2 e2 n2 I2=>?_
  refine FG (f:=none) D.pn I2 e2 n2 fun h3 e3 I3=>?_
  refine wpAny_handleBy_cons (codeAny_handlers_test (Ge (X:=X.hand a) I3.hand hg hC ?_ hdb)) (by intro q;cases q);obtain⟨oe,vs,he,hcls,hdi,hd,ht⟩:=id e3;have LT:PySem.W.Looks (model X.prog X.w) h3 (typeOf (.ref a)) c:=hcls▸(PySem.W.Looks.ld he).andThen .now;refine PySem.W.Looks.here (s:={ s1 with heap:=h3 }) (PySem.W.exm_one I3.kIn LT z1) ?_;refine codeAny_handlers_suite_as ?_;refine FG (f:=none) D.pn I3 e3 n2 fun h4 e4 I4=>?_
  obtain⟨oe4,vs4,he4,hcls4,hdi4,hd4,ht4⟩:=id e4;have hna:=n2 a (.inl rfl);have I5:Inv X [] σ1 (upd H1 a (exO c a)) { s1 with heap:=h4 }:=I4.Xh D.pn hna.1 hna.2 ⟨oe4,vs4,he4,hd4⟩ ⟨⟨oe4,vs4,he4,hcls4,hdi4,hd4⟩,⟨oe4,he4⟩,fun g1 g2 ⟨o,v,q1,q2⟩ k=>⟨o,v,k o q1,q2⟩⟩;refine GL I5 hN hi (.inl hl) (v:=V.ref a) (u:=Value.ref a) rfl (fun s6 I6=>?_) (.inr hl);refine wpAny_mono (hs a [] s6 _ _ (SQ i D') I6.hand (z2 a hna.2)) (fun f s7 q=>?_) fun _ _ z=>False.elim z
  have q:=q.HY I.ok;cases f with
  | next =>
   obtain⟨σ',H',I',q⟩:=q;exact Jg I' D.pn hN hi hl fun s8 I8=>⟨_,_,I8,q⟩
  | ret u =>
   obtain⟨v,σ',H',I',r,q⟩:=q;exact Jg I' D.pn hN hi hl fun s8 I8=>⟨v,_,_,I8,r,q⟩
  | brk =>
   obtain⟨σ',H',I',q⟩:=q;exact Jg I' D.pn hN hi hl fun s8 I8=>⟨_,_,I8,q⟩
  | cont =>
   obtain⟨σ',H',I',q⟩:=q;exact Jg I' D.pn hN hi hl fun s8 I8=>⟨_,_,I8,q⟩
end
end L2
namespace PySem.W
open PySem PySem.Spec PySem.Calls PyProof.Rows
section
variable{prog:Program}{w:World}{A:Around}{E:Value->Shared->Prop}{K:Frag}{x D:Addr}{ox:Obj}
structure ExK(K:Frag)(D:Addr):Prop where
 ga:findIn K (.ref D) "__getattribute__"=some (some (.builtin "BaseException.__getattribute__"))
 gt:findIn K (.ref D) "__getattr__"=some none
 ca:findIn K (.ref D) "__class__"=some (some (.builtin "object.__class__"))
 gs:specialIn K (.builtin "object.__class__") "__get__"=some (some (.builtin "getset_descriptor.__get__"))
 tk:takesIn K (.builtin "object.__class__")=some true
 mo:mroIn K D (.type "object")=some true
 mb:mroIn K D (.type "BaseException")=some true
theorem ExK.find(k:ExK K D)(hc:(clsIn K D).isSome=true):findObj K D none "__class__"=some (.bind (.builtin "getset_descriptor.__get__") (.builtin "object.__class__")):=by
 obtain⟨cd,hc⟩:=Option.isSome_iff_exists.mp hc;unfold findObj;rw [hc,Option.bind_some,k.ca,Option.bind_some];simp [k.gs,k.tk]
theorem Pc{tk:Tok}{Q:Fin->Shared->Prop}{s:Shared}(k:ExK K D)(hc:(clsIn K D).isSome=true)(X:K.In s.heap)(I:InstAt s.heap x ox D none)(h:Q (.done (.ret (.ref D))) s) :
  wpAny (model prog w) A (Builtin.«object.__getattribute__» ⟨[.ref x,.str "__class__" tk],[]⟩) Q E s:=by
 obtain⟨hh,g,d,t,os⟩:=s;have L0:=I.type (M:=model prog w);have L1:=looks_find (M:=model prog w) X I (k.find hc);unfold Builtin.«object.__getattribute__»
 repeat (any_goals (first | assumption | with_reducible refine L0.at ?_ | with_reducible refine L1.at ?_ | wp_step))
 exact class_get (s:=⟨hh,g,d,t,os⟩) X I k.mo (wpAny_pure h)
theorem Pe{M:Model}{nameV:Value}{Q:Unit->Shared->Prop}{s:Shared}(k:ExK K D)(X:K.In s.heap)(I:InstAt s.heap x ox D none)(h:Q () s):wpAny M A (checkBuiltinCall "BaseException.__getattribute__" ⟨[.ref x,nameV],[]⟩) Q E s:=by
 obtain⟨hh,g,d,t,os⟩:=s;have hk:builtinKind "BaseException.__getattribute__"=some .slot:=by decide +kernel
 have hsplit:splitId "BaseException.__getattribute__"=some ("BaseException","__getattribute__"):=by decide +kernel
 have L0:=I.type (M:=M);have L1:=looks_mroIn (M:=M) X k.mb;have ha:=F.args_bexc_ga (.ref x) nameV;simp only [checkBuiltinCall,hk,hsplit];refine wpAny_bind ?_;unfold isInstance
 repeat (first | with_reducible refine L0.at ?_ | with_reducible refine L1.at ?_ | wp_step)
 exact h
theorem Rj{tk:Tok}{R:Result->Shared->Prop}{s:Shared}(k:ExK K D)(hc:(clsIn K D).isSome=true)(X:K.In s.heap)(I:InstAt s.heap x ox D none)(h:R (.ok (.ret (.ref D))) s) :
  codeAny (model prog w) A (.call (.builtin "BaseException.__getattribute__") ⟨[.ref x,.str "__class__" tk],[]⟩) R s :=
 codeAny_call_builtin PySem.F.excAttr_ValueError.ga.plain F.entry_bexc_ga (Pe k X I (Pc k hc X I h))
theorem Wx{tk:Tok}{Q:Value->Shared->Prop}{s:Shared}(k:ExK K D)(hc:(clsIn K D).isSome=true)(X:K.In s.heap)(I:InstAt s.heap x ox D none)(h:Q (.ref D) s) :
  wpAny (model prog w) A (getAttrBy (.ref x) (.str "__class__" tk) false) Q E s:=by
 obtain⟨hh,g,d,t,os⟩:=s;have L0:=I.type (M:=model prog w);have L1:=looks_findIn (M:=model prog w) X k.ga;have L2:=looks_findIn (M:=model prog w) X k.gt;have f3:=PySem.F.excAttr_ValueError.ga.bind (.ref x);have hx2:(Value.builtin "BaseException.__getattribute__" == Value.builtin "object.__getattribute__")=false:=by decide +kernel
 have hx1:(onTheHeap (Value.ref D) && Value.builtin "BaseException.__getattribute__" == Value.builtin "object.__getattribute__")=false:=by rw [hx2];rfl
 have hx0:(false && onTheHeap (Value.builtin "BaseException.__getattribute__"))=false:=rfl
 repeat (any_goals (first | assumption | with_reducible refine L0.at ?_ | with_reducible refine L1.at ?_ | with_reducible refine L2.at ?_ | wp_step))
 refine Rj (s:=⟨hh,g,d,t,os⟩) k hc X I ?_
 repeat (any_goals (first | assumption | wp_step))
theorem Pd{Q:Option Value->Shared->Prop}{s:Shared}(k:ExK K D)(hc:(clsIn K D).isSome=true)(X:K.In s.heap)(I:InstAt s.heap x ox D none)(h:Q (some (.ref D)) { s with toks:=s.toks+1 }) :
  wpAny (model prog w) A (getAttr? (.ref x) "__class__") Q E s:=by
 obtain⟨hh,g,d,t,os⟩:=s;unfold getAttr? getAttrBy?;exact wpAny_bind (wpAny_mkText (wpAny_bind (wpAny_attempt (Wx (s:=⟨hh,g,d,t+1,os⟩) k hc X I (wpAny_pure h)))))
theorem QT(k:ExK K D)(hc:(clsIn K D).isSome=true):KitX K (.ref x) (.ref D) (fun h=>InstAt h x ox D none) where
 ty:=fun _ _ _ I=>I.type
 it:=fun _ _ X _=>by
  unfold clsIn at hc;split at hc
  ·rename_i c' d' cd' sl' ho
   intro A' Q' E' s' k q;unfold isType loadHead;exact wpAny_bind (wpAny_loadPart (k _ _ (X _ _ ho)) (wpAny_pure q))
  ·cases hc
 ne:=fun h tp dd its n sl X htp=>by
  refine Bool.eq_false_iff.mpr fun q=>?_
  have e:D=tp:=Value.ref.inj (beq_iff_eq.mp q);subst e;unfold clsIn at hc;split at hc
  ·rename_i c' d' cd' sl' ho
   have z:=(X _ _ ho).symm.trans htp;cases z
  ·cases hc
 ca:=fun X I q=>Pd k hc X I q
end
end PySem.W
namespace L2
open PySem PySem.Spec PyProof.Rows
section
variable{X:Cx}
theorem Iv:DJ X (.builtin "isinstance") (fun xs H Q=>∃a D y c b,xs=[.ref a,y]/\(∀u,RelV y u->u=c)/\H a=some (exO (.ref D) a)/\PySem.W.ExK X.K D/\(PySem.W.clsIn X.K D).isSome=true/\PySem.W.kitOne X.K (.ref D) c=some b/\Q (.bl b) H):=by
 intro pins s σ H xs us Q I r h;obtain⟨a,D,y,c,b,rfl,hy,ha,k,hc,e,q⟩:=h;cases r with
 | cons r1 rr =>
  cases rr with
  | cons r2 rr =>
   cases rr;cases(show _=Value.ref a from r1);cases hy _ r2;obtain⟨⟨o,vs,h1,h2,h3,h4⟩,_⟩:=(show C4 X.prog X.w H s.heap a (exO (.ref D) a) from I.hok a _ ha)
   have J:PySem.W.InstAt s.heap a o D none:=⟨h1,h2,by unfold PySem.W.notCls;rw [h4],by rw [h3];trivial⟩
   exact PySem.W.kia_one (PySem.W.QT k hc) I.kIn J e (fun z=>nomatch z) fun tk=>⟨.bl b,H,I.tok tk,rfl,q⟩
theorem RF{bs:List Bool}{its:List Value}(rv:Vals (bs.map V.bl) its):∀y,y∈its.toArray->∃b,y=Value.bool b:=by
 intro y hy;rw [DH rv] at hy;simp only [List.mem_toArray,List.mem_map] at hy;obtain⟨b,_,rfl⟩:=hy;exact⟨b,rfl⟩
def isT:Value->Bool
 | .bool b=>b == true
 | _=>false
theorem SD{A:Around}{s:Shared}{its:List Value}{bs:List Bool}(rv:Vals (bs.map V.bl) its):∀y,y∈its.toArray->SeqAt.EqAt A s y (.bool true) (isT y):=fun y hy=>by
 obtain⟨b,rfl⟩:=RF rv y hy;exact SeqAt.EqAt.bool_bool b true
theorem QK:MtR X "list.count" (fun x vs H Q=>∃(l:Addr) (bs:List Bool),x=.ref l/\vs=[.bl true]/\SqL X.K H l (bs.map V.bl)/\Q (.int ((bs.countP id:Nat):Int)) H):=by
 intro pins s σ H x vs v us Q I rx rv h;obtain⟨l,bs,rfl,rfl,hq,q⟩:=h;cases rx;obtain⟨u,rfl,ru⟩:=rv.one;cases(show u=Value.bool true from ru);obtain⟨its,rv,⟨⟨cls,dd,data,sl⟩,n,ho,hc,hdd,hd⟩,hz⟩:=I.list hq;simp only at hc hdd hd;subst hc hdd hd;have hb:=DH rv;refine call_meets F.slot_list_count ⟨_,ho,rfl⟩ F.entry_list_count (F.args_list_count_2 _ _) (SeqAt.list_countAt l its.toArray n none sl (.bool true) isT) ⟨ho,SD rv,?_⟩;refine⟨.int _,H,I.tok _,⟨_,rfl⟩,?_⟩;have e:its.toArray.toList.countP isT=bs.countP id:=by
  rw [hb];simp only [List.countP_map];exact List.countP_congr fun b _=>by cases b <;> simp [isT]
 rw [e];exact q
theorem QJ:MtR X "list.index" (fun x vs H Q=>∃(l:Addr) (bs:List Bool) (j:Nat),x=.ref l/\vs=[.bl true]/\SqL X.K H l (bs.map V.bl)/\bs[j]?=some true/\(∀m,m < j->bs[m]?=some false)/\Q (.int ((j:Nat):Int)) H):=by
 intro pins s σ H x vs v us Q I rx rv h;obtain⟨l,bs,j,rfl,rfl,hq,hj,hno,q⟩:=h;cases rx;obtain⟨u,rfl,ru⟩:=rv.one;cases(show u=Value.bool true from ru);obtain⟨its,rv,⟨⟨cls,dd,data,sl⟩,n,ho,hc,hdd,hd⟩,hz⟩:=I.list hq;simp only at hc hdd hd;subst hc hdd hd;have hb:=DH rv;subst hb;have hjl:j < bs.length:=(List.getElem?_eq_some_iff.mp hj).1;rw [List.length_map,sizeLine_eq] at hz;refine call_meets F.slot_list_index ⟨_,ho,rfl⟩ F.entry_list_index (F.args_list_index_2 _ _) (SeqAt.list_indexAt l (bs.map Value.bool).toArray n none sl (.bool true) isT j (by simpa using hjl) (by omega) ?_ ?_) ⟨ho,SD rv,?_⟩
 ·have:=(List.getElem?_eq_some_iff.mp hj).2
  simp [isT,this]
 ·intro m hm hmj
  have e:=hno m hmj;have:=(List.getElem?_eq_some_iff.mp e).2;simp [isT,this]
 ·exact⟨.int _,H,I.tok _,⟨_,rfl⟩,q⟩
end
end L2
namespace L2
open PySem PySem.Spec PySem.W PyProof.Rows
theorem Mt{l:PySem.W.OpenLaw}{n k:Nat}{q:Program}{loose:List Str}{XP:(Str->Option Value)->Heap->Prop}{YP:World->Heap->Prop}{d:DefRec}{K:Params->Fg}{CX:World->CXT}{sp:Fg->Sp}{x:Str}
  (hn:l.most=some n) (hn2:n<=sizeLine) (hdf:d.params.defaults=[]) (hr:EX k callerA)
  (hY:∀(w:World) (h:Heap),YP w h->(K w.params).In h)
  (F:∀(w:World) (mg:Str->Option Value) (fa:Addr) (h:Heap),(K w.params).In h->h.Ns mainGlobals mg->mg d.name=some (.ref fa) ->
   ∃fd:FuncData,(∀(s:Shared) (u:Value),BindsTo s fd ⟨[u],[]⟩ [(x,u)]) /\
    ∀base:Heap,(K w.params).In base->base.Ns mainGlobals mg->D9 l.prog w (K w.params) mg base (CX w) k fa fd [x] (sp (K w.params)))
  (hsp:∀(K:Fg) (H:Hp) (a:Addr) (ns:List Int),ns.length<=n->Cv ns<=2 ^ 20->W6 H->SqL K H a (ns.map V.int)->sp K [.ref a] H (fun v _=>v=.bl true) fun _ _ _=>False)
  (hCX:∀(w:World) (H:Hp) (s:Shared) (e:Value) (s':Shared),CX w [] H s (fun _ _ _=>False) e s'->False) :
  PySem.W.WalkO q loose XP YP l.row.toRowW d [] (fun f vs=>PySem.call f vs):=by
 intro w s₀ s₁ mg mb G Y fa o pm cd doc dV kV ho hd hcd hD hmg hg args vals as hpre hlay hrd hwl hlo;obtain rfl:dV=.none:=Dflts.none hD hdf;obtain rfl:kV=.none:=Dflts.noKw hD;obtain⟨a,vs,ns,rfl,rfl,hobj,hints,hlen⟩:=Att.Nv hn hpre hwl;have hw:Cv ns<=2 ^ 20:=by
  have h1:(WData.list (ns.map WData.int)).layable=true:=by
   unfold WData.layableAll at hlay;simpa using hlay
  unfold WData.layable at h1;rw [Bool.and_eq_true] at h1;have h2:=of_decide_eq_true h1.2;simp only [WData.weight] at h2;rw [<- HG];exact h2
 have KX:=hY w _ Y;obtain⟨fd,hb,hF⟩:=F w mg fa _ KX G.T.g hmg;refine PySem.W.enter_call (codeAny_mono (QS KX G.T.g G.T.b G.T.builtins G.T.nolimit hg hobj hints (Nat.le_trans hlen hn2) hr hF hb (fun H hO hS=>hsp (K w.params) H a ns hlen hw hO hS) fun H e s'=>hCX w H s₁ e s') fun r s' hq=>?_);obtain⟨rfl,h2,h3,h4⟩:=hq;exact⟨.inl ⟨.bool true,.bool true,[],rfl,fun _=>rfl,.bool true,Att.NL l _,fun _=>⟨List.Pairwise.nil,fun _ hm=>(nomatch hm)⟩⟩,h2,h3,h4⟩
theorem Kz{l:PySem.W.OpenLaw}{n k N tk:Nat}{q:Program}{loose:List Str}{XP:(Str->Option Value)->Heap->Prop}{d:DefRec}{K:Params->Fg}{as:List Addr}{CX:World->CXT}{sp:Fg->Sp}{x:Str}
  (hn:l.most=some n) (hn2:n<=sizeLine) (hdf:d.params.defaults=[]) (hr:EX k callerA)
  (hK:∀P:Params,as=(K P).map (·.1))
  (F:∀(w:World) (mg:Str->Option Value) (fa:Addr) (h:Heap),(K w.params).In h->h.Ns mainGlobals mg->mg d.name=some (.ref fa) ->
   ∃fd:FuncData,(∀(s:Shared) (u:Value),BindsTo s fd ⟨[u],[]⟩ [(x,u)]) /\
    ∀base:Heap,(K w.params).In base->base.Ns mainGlobals mg->D9 l.prog w (K w.params) mg base (CX w) k fa fd [x] (sp (K w.params)))
  (hsp:∀(K:Fg) (H:Hp) (a:Addr) (ns:List Int),ns.length<=n->Cv ns<=2 ^ 20->W6 H->SqL K H a (ns.map V.int)->sp K [.ref a] H (fun v _=>v=.bl true) fun _ _ _=>False)
  (hCX:∀(w:World) (H:Hp) (s:Shared) (e:Value) (s':Shared),CX w [] H s (fun _ _ _=>False) e s'->False) :
  PySem.W.WalkX q loose XP (PySem.W.X.obsZ as) (PySem.W.X.valZ K N tk) l.row.toRowW d [] (fun f vs=>PySem.call f vs):=by
 intro w s₀ s₁ mg mb G Y fa o pm cd doc dV kV ho hd hcd hD hmg hg args vals ads hL hpre hlay hrd hwl hlo;have W:=Mt (l:=l) (q:=q) (loose:=loose) (XP:=XP) (YP:=fun w h=>(K w.params).In h) (d:=d) (K:=K) (CX:=CX) (sp:=sp) (x:=x) hn hn2 hdf hr (fun _ _ h=>h) F hsp hCX;refine W w s₀ s₁ mg mb G ?_ fa o pm cd doc dV kV ho hd hcd hD hmg hg args vals ads hpre hlay hrd hwl hlo;have h1:as.map s₀.heap.get?=(K w.params).map (fun p=>some p.2):=congrArg Prod.fst Y;rw [hK w.params] at h1;exact fun a o e=>hL.keeps a o (Og _ h1 a o e)
end L2
namespace L2
open PySem PySem.Spec PyProof.Rows
section
variable{X:Cx}{k:Nat}{C:Addr}{ps:List Str}{sp:Sp}{Z:XE}{x m:Str}{p pos apos:Pos}{e o:Expr}{es:List Expr}{ta:TE}{t:TA}
theorem Xz{X:Cx}:Passes (CX1 X.prog X.w) X E0:=fun _ _ _ _ _ _ _ ⟨_,_,_,_,_,_,_,_,_,_,_,q⟩=>q.elim
end
def Bs(z:Str):Bool:=decide (z.length<=1000) && z.cps.toList.all fun c=>decide (c < 16 ^ 8)
theorem Hh{z:Str}(h:Bs z=true):(reprText z).length<=20000:=by
 unfold Bs at h;rw [Bool.and_eq_true] at h;have h1:=of_decide_eq_true h.1;have h2:=PySem.StrLaws.reprText_len z fun c m=>of_decide_eq_true (List.all_eq_true.mp h.2 c m)
 omega
section
variable{X:Cx}{v:Expr}{ta:TE}{a:Str}{j:Nat}{cp fp jp:Pos}
def tFr(ta:TE):TE:=fun σ H Q=>ta σ H fun x H1=>∃z,x=.str z/\Bs z=true/\∀r,Q (.str r) H1
theorem Xx(hv:PE X v ta)(hl:a.length<=1000:=by decide):PE X (.JoinedStr [.Constant (.str a) j cp,.FormattedValue v 114 none fp] jp) (tFr ta):=by
 intro pins s σ H Q I h;refine wpAny_JoinedStr ?_;show wpAny _ _ (eval (.Constant (.str a) j cp) X.env) _ _ s;refine thn (LJ pins s σ H (fun u H1=>u=.str a/\H1=H) I ⟨rfl,rfl⟩) fun u s1 ⟨x,H1,I1,r1,q1,q2⟩=>?_
 subst q1 q2;obtain⟨t1,rfl⟩:=r1;have e0:(Str.empty++a).length=a.length:=by rw [strLen_append];exact Nat.zero_add _
 refine⟨a,t1,rfl,by rw [e0,sizeLine_eq];omega,?_⟩;show wpAny _ _ (eval (.FormattedValue v 114 none fp) X.env) _ _ s1;refine wpAny_FormattedValue_repr (thn (hv pins s1 σ H1 _ I1 h) fun u s2 ⟨x,H2,I2,r2,z,ez,hz,q⟩=>?_);subst ez;obtain⟨t2,rfl⟩:=r2;have hr:=Hh hz;refine wpAny_pyReprObj_str ?_ (by rw [sizeLine_eq];omega);have e1:(Str.empty++a++reprText z).length<=21000:=by rw [strLen_append,e0];omega
 refine formatField_str (fun t' tk=>⟨_,t',rfl,by rw [sizeLine_eq];omega,?_⟩) (by rw [sizeLine_eq];omega);refine⟨by rw [sizeLine_eq];omega,.str (Str.empty++a++reprText z),H2,?_,⟨_,rfl⟩,q _⟩;exact(I2.tok _).tok _
end
section
variable{X:Cx}
end
section
variable{X:Cx}{v:Expr}{ta:TE}{fp:Pos}
end
section
variable{X:Cx}{k:Nat}{f C:Addr}{fd:FuncData}{ps:List Str}{sp:Sp}{Z:XE}{x m:Str}{p pos apos:Pos}{e o:Expr}{es:List Expr}{ta:TE}{t:TA}{ds:List Value}{dvs:List V}
def RQ(C:Addr)(sp:Sp)(dvs:List V)(Z:XE)(t:TA):TE:=fun σ H Q=>t σ H fun vs H1=>∀x dx,H1 x=none->H1 dx=none->dx≠x ->
 sp (.ref x :: (vs++dvs)) (upd (upd H1 dx (.own x)) x (.ins C dx [])) (fun v H2=>v=.non/\Q (.ref x) H2) fun c _ H'=>Z c σ H'
theorem Nz{pins:List (Addr×Obj)}{σ:St}{H:Hp}{s:Shared}{Q:VK}{us:List Value}{vs:List V}(M:Mk X.K C f)(F:D9 X.prog X.w X.K X.mg X.base (CX1 X.prog X.w) k f fd ps sp)(hr:EX (k+1) X.A)(hb:Binds X.K fd ps ds)(hd:Vals dvs ds)
  (hx:Lk X Z) (I:Inv X pins σ H s) (r:Vals vs us)
  (h:∀x dx,H x=none->H dx=none->dx≠x->sp (.ref x :: (vs++dvs)) (upd (upd H dx (.own x)) x (.ins C dx [])) (fun v H2=>v=.non/\Q (.ref x) H2) fun c _ H'=>Z c σ H') :
  wpAny (model X.prog X.w) X.A (call (.ref C) us) (EP X pins σ Q) X.xe s:=by
 have hq:=h (s.heap.objs.size+1) s.heap.objs.size (I.hok.fresh (Nat.le_succ _)) (I.hok.fresh (Nat.le_refl _)) (Nat.ne_of_lt (Nat.lt_succ_self _));have I2:=Inv.made (C:=C) I;have r2:Vals (V.ref (s.heap.objs.size+1) :: (vs++dvs)) (Value.ref (s.heap.objs.size+1) :: (us++ds)):=.cons rfl (r.append hd);have hl:(Value.ref (s.heap.objs.size+1) :: us++ds).length=ps.length:=by
  have e:=r2.length;rw [F.len _ _ _ _ hq] at e;exact e.symm
 refine wpAny_call (QP (f:=f) I.kIn M.makes M.init (beq_iff_eq.mp M.fn) (codeAny_mono (F.run _ X.stack _ _ ⟨Value.ref (s.heap.objs.size+1) :: us,[]⟩ (Value.ref (s.heap.objs.size+1) :: (us++ds)) _ _ _ (hr.make C us [])
  (I2.X1.make C us []) (hb _ (Value.ref (s.heap.objs.size+1) :: us) I2.kIn hl) r2 hq) fun r s' hq'=>?_))
 cases r with
 | error e=>exact hx pins σ _ _ e s' I2 hq'
 | ok fl =>
  cases fl with
  | ret u =>
   obtain⟨v,H',I3,rv,ev,q3⟩:=I2.after hq';subst ev;exact⟨rv,⟨V.ref (s.heap.objs.size+1),H',I3,rfl,q3⟩⟩
  | next=>exact False.elim hq'
  | brk=>exact False.elim hq'
  | cont=>exact False.elim hq'
theorem Qz(M:Mk X.K C f)(F:D9 X.prog X.w X.K X.mg X.base (CX1 X.prog X.w) k f fd ps sp)(hr:EX (k+1) X.A)(hg:Gl X x)(hm:X.mg x=some (.ref C))(hb:Binds X.K fd ps ds)(hd:Vals dvs ds)(hx:Lk X Z)
  (ha:PA X (e :: es) t) (hdb:(x == ("__debug__":Str))=false:=by decide) (he:starEach (e :: es) X.env=(false,eval e X.env) :: starEach es X.env:=by rfl) (hpl:(backTo pos (starEach es X.env)).any (·.1)=false:=by rfl) :
  PE X (.Call (.Name x p) (e :: es) [] pos) (RQ C sp dvs Z t):=by
 intro pins s σ H Q I h;refine wpAny_Call_Name_kw (Ge I hg hm ?_ hdb);refine PySem.W.callWith_K (h₀:=X.base) I.ok.mod.kin M.kp (thn (ha pos pins s σ H _ I h) fun us s1 ⟨vs,H1,I1,r,q⟩=>⟨I1.kIn,?_⟩) he hpl;exact Nz M F hr hb hd hx I1 r q
theorem VA(G:W9 X.prog X.w X.K X.mg X.base (CX1 X.prog X.w) x C k ps sp)(hr:EX (k+1) X.A)(hx:Lk X Z)(ha:PA X (e :: es) t)(hg:Gl X x:=by rfl)(hdb:(x == ("__debug__":Str))=false:=by decide)
  (he:starEach (e :: es) X.env=(false,eval e X.env) :: starEach es X.env:=by rfl) (hpl:(backTo pos (starEach es X.env)).any (·.1)=false:=by rfl):PE X (.Call (.Name x p) (e :: es) [] pos) (RQ C sp [] Z t):=by
 obtain⟨f,fd,F,M,hb⟩:=G.ex;exact Qz M F hr hg G.at_ hb .nil hx ha hdb he hpl
end
theorem GC:fillsNumberSlot (.type "tuple") "mul"=pure false :=
 PySem.fillsNumberSlot_seq (id:="tuple.__mul__") (r:=some (.builtin "tuple.__rmul__")) F.slot_tuple_mul.lookup (by decide +kernel) F.slot_tuple_rmul.lookup (by decide +kernel)
theorem JM:seqRepeat? (.type "tuple")=pure (some (.builtin "tuple.__mul__")):=by
 unfold seqRepeat?;rw [PySem.seqSlot_of (T:="tuple") (name:="__mul__") (id:="tuple.__mul__") F.slot_tuple_mul.lookup (by decide +kernel),PySem.seqSlot_of (T:="tuple") (name:="__rmul__") (id:="tuple.__rmul__") F.slot_tuple_rmul.lookup (by decide +kernel)];rfl
theorem HS(a:Int)(t:Tok)(l:Addr)(items:Array Value)(n:Nat)(dd:Option Addr)(sl:Array (Option Value)) :
  Meets (Builtin.«int.__rmul__» ⟨[.int a t,.ref l],[]⟩) (fun _ R s=>s.heap.get? l=some { cls:=.type "tuple",dict:=dd,data:=.seq items n,slots:=sl }/\R (.ok (.ret Value.notImplemented)) s) :=
 .of_wp fun prog w A R s h=>by obtain⟨hp,g,d,tk,os⟩:=s;obtain⟨hl,h⟩:=h;wp_walk;exact⟨_,rfl,h⟩
theorem My(l:Addr)(x:Value)(n:Nat)(u:Tok)(dd:Option Addr)(sl:Array (Option Value)) :
  Meets (Builtin.«tuple.__mul__» ⟨[.ref l,.int 3 u],[]⟩) (fun _ R s=>s.heap.get? l=some { cls:=.type "tuple",dict:=dd,data:=.seq #[x] n,slots:=sl }/\R (.ok (.ret (Value.ref s.heap.objs.size))) { s with heap:=s.heap.push { cls:=Value.type "tuple",data:=Data.seq #[x,x,x] },toks:=s.toks }) :=
 .of_wp fun prog w A R s h=>by obtain⟨hp,g,d,tk,os⟩:=s;obtain⟨hl,h⟩:=h;have f1:=AutoSeq1.idx_int;wp_walk using wpAny_loadPart' hl;exact⟨_,rfl,h⟩
theorem QD{X:Cx}:OpR X (binaryOp .Mult) (fun x y H Q=>∃a v,x=.ref a/\y=.int 3/\SqT X.K H a [v]/\∀p,H p=none->Q (.ref p) (upd H p (.tup [v,v,v]))):=by
 intro pins s σ H x y v u Q I rx ry h;obtain⟨a,z,rfl,rfl,ha,q⟩:=h;cases rx;obtain⟨t',rfl⟩:=ry;obtain⟨its,r1,p1,_⟩:=I.tuple ha;obtain⟨w,rfl,rw1⟩:=vals1 r1;obtain⟨⟨cls,dd,data,sl⟩,ho,hc,n,hd⟩:=id p1;simp only at hc hd;subst hc hd;refine wpAny_binaryOp_repeat_ref (T:="tuple") (U:="int") (by decide) ⟨_,ho,rfl⟩ (fun s'=>typeIs_int s' 3 t') GC PySem.F.fills_int_mul PySem.F.slot_int_rmul JM PySem.F.slot_int_index.lookup
  (call_meets PySem.F.slot_int_rmul (typeIs_int s 3 t') PySem.F.entry_int_rmul (PySem.F.args_int_rmul_2 _ _) (HS 3 t' a _ n dd sl)
   ⟨ho,rfl,⟨_,ho,rfl⟩,call_meets PySem.F.slot_tuple_mul ⟨_,ho,rfl⟩ PySem.F.entry_tuple_mul (PySem.F.args_tuple_mul_2 _ _) (My a w n t' dd sl) ⟨ho,?_⟩⟩)
 refine⟨.ref s.heap.objs.size,_,I.laid (t':=s.toks) (o:=.tup [z,z,z]) (fun b ob q=>Heap.get?_push_of_some _ q) (Nat.le_refl _) ?_,rfl,q _ (I.hok.fresh (Nat.le_refl _))⟩;exact⟨by rw [sizeLine_eq];show 3<=_;decide,[w,w,w],.cons rw1 (.cons rw1 (.cons rw1 .nil)),IsTup.new _ _⟩
section
variable{X:Cx}{v w:Expr}{ta tb:TE}{a a2:Str}{j j2:Nat}{cp fp cp2 fp2 jp:Pos}
def Yt(ta tb:TE):TE:=fun σ H Q=>ta σ H fun x H1=>∃z,x=.str z/\Bs z=true/\tb σ H1 fun y H2=>∃z2,y=.str z2/\Bs z2=true/\∀r,Q (.str r) H2
theorem VD(hv:PE X v ta)(hw:PE X w tb)(hl:a.length<=1000:=by decide)(hl2:a2.length<=1000:=by decide):PE X (.JoinedStr [.Constant (.str a) j cp,.FormattedValue v 114 none fp,.Constant (.str a2) j2 cp2,.FormattedValue w 114 none fp2] jp) (Yt ta tb):=by
 intro pins s σ H Q I h;refine wpAny_JoinedStr ?_;show wpAny _ _ (eval (.Constant (.str a) j cp) X.env) _ _ s;refine thn (LJ pins s σ H (fun u H1=>u=.str a/\H1=H) I ⟨rfl,rfl⟩) fun u s1 ⟨x,H1,I1,r1,q1,q2⟩=>?_
 subst q1 q2;obtain⟨t1,rfl⟩:=r1;have e0:(Str.empty++a).length=a.length:=by rw [strLen_append];exact Nat.zero_add _
 refine⟨a,t1,rfl,by rw [e0,sizeLine_eq];omega,?_⟩;show wpAny _ _ (eval (.FormattedValue v 114 none fp) X.env) _ _ s1;refine wpAny_FormattedValue_repr (thn (hv pins s1 σ H1 _ I1 h) fun u s2 ⟨x,H2,I2,r2,z,ez,hz,q⟩=>?_);subst ez;obtain⟨t2,rfl⟩:=r2;have hr:=Hh hz;refine wpAny_pyReprObj_str ?_ (by rw [sizeLine_eq];omega);have e1:(Str.empty++a++reprText z).length<=21000:=by rw [strLen_append,e0];omega
 refine formatField_str (fun t' tk=>⟨_,t',rfl,by rw [sizeLine_eq];omega,?_⟩) (by rw [sizeLine_eq];omega);show wpAny _ _ (eval (.Constant (.str a2) j2 cp2) X.env) _ _ _;refine thn (LJ pins _ σ H2 (fun u H3=>u=.str a2/\H3=H2) ((I2.tok _).tok _) ⟨rfl,rfl⟩) fun u s3 ⟨x,H3,I3,r3,q1,q2⟩=>?_
 subst q1 q2;obtain⟨t3,rfl⟩:=r3;have e2:(Str.empty++a++reprText z++a2).length<=22000:=by rw [strLen_append];omega
 refine⟨a2,t3,rfl,by rw [sizeLine_eq];omega,?_⟩;show wpAny _ _ (eval (.FormattedValue w 114 none fp2) X.env) _ _ s3;refine wpAny_FormattedValue_repr (thn (hw pins s3 σ H3 _ I3 q) fun u s4 ⟨x,H4,I4,r4,z2,ez2,hz2,q'⟩=>?_);subst ez2;obtain⟨t4,rfl⟩:=r4;have hr2:=Hh hz2;refine wpAny_pyReprObj_str ?_ (by rw [sizeLine_eq];omega);have e3:(Str.empty++a++reprText z++a2++reprText z2).length<=43000:=by rw [strLen_append];omega
 refine formatField_str (fun t' tk=>⟨_,t',rfl,by rw [sizeLine_eq];omega,?_⟩) (by rw [sizeLine_eq];omega);refine⟨by rw [sizeLine_eq];omega,.str (Str.empty++a++reprText z++a2++reprText z2),H4,?_,⟨_,rfl⟩,q' _⟩;exact(I4.tok _).tok _
end
end L2
namespace FL
open PySem PySem.Spec L2
inductive T where
 | non | bl (b:Bool) | int (i:Int) | str (x:Str)
 | tup (ts:List T) | lst (ts:List T)
 | scr (ts:List T)
 | dK (ks:List Key) (ts:List T) | dT (ks:List (List Key)) (ts:List T)
 | ins (C:Addr) (fs:List Str) (ts:List T)
 | dF (ks:List Key) (ts:List T)
 | exn (c:Str)
inductive FO where
 | lst (ts:List T) | dK (ks:List Key) (ts:List T) | dT (ks:List (List Key)) (ts:List T)
 | ins (C:Addr) (fs:List Str) (os:List FO) | val (t:T)
 | los (os:List FO) | tpl (os:List FO)
inductive Sl where
 | val (t:T) | own (o:FO) | bor (o:FO)
abbrev FS:=List (Option Sl)
inductive Rv where
 | t (t:T) | nw (o:FO) | rf (i:Nat)
inductive Out(α:Type) where
 | ok (a:α) (fs:FS) | exc (c:Str) (fs:FS) | bad
inductive SO where
 | nx (fs:FS) | ret (r:Rv) (fs:FS) | brk (fs:FS) | cnt (fs:FS) | exc (c:Str) (fs:FS) | bad
structure Wd where
 f:Addr->Prop
 p:Addr->Prop
instance:CoeFun Wd fun _=>Addr->Prop:=⟨Wd.f⟩
structure Le(F:Wd)(H:Hp)(F':Wd)(H':Hp):Prop where
 f:∀a,F a->F' a/\H' a=H a
 p:∀a,F.p a->F'.p a/\H' a=H a
theorem Le.refl{F:Wd}{H:Hp}:Le F H F H:=⟨fun _ h=>⟨h,rfl⟩,fun _ h=>⟨h,rfl⟩⟩
theorem Le.trans{F F1 F2:Wd}{H H1 H2:Hp}(x:Le F H F1 H1)(y:Le F1 H1 F2 H2):Le F H F2 H2 :=
 ⟨fun a h=>let⟨p,q⟩:=x.f a h;let⟨p2,q2⟩:=y.f a p;⟨p2,q2.trans q⟩,fun a h=>let⟨p,q⟩:=x.p a h;let⟨p2,q2⟩:=y.p a p;⟨p2,q2.trans q⟩⟩
section
variable(K:Fg)
def KL(a:Addr)(vs:List V):Prop:=∃(o:Obj) (its:Array Value) (n:Nat),K.lookup a=some o/\o.cls=.type "list"/\o.dict=none/\o.data=.seq its n/\its.size<=sizeLine/\Vals vs its.toList
def StL(F:Wd)(H:Hp)(a:Addr)(vs:List V):Prop:=(F a/\Rd H a (.lst vs))∨KL K a vs
def StT(F:Wd)(H:Hp)(a:Addr)(vs:List V):Prop:=K=K/\F a/\H a=some (.tup vs)
end
section
variable{K:Fg}{F F':Wd}{H H':Hp}{a:Addr}{vs:List V}
theorem StL.sq(h:StL K F H a vs):SqL K H a vs:=by
 rcases h with⟨_,h⟩ | h
 ·exact .inl h
 ·exact .inr h
theorem StT.sq(h:StT K F H a vs):SqT K H a vs:=SqT.of h.2.2
theorem Rd.same{u:HO}(h:Rd H a u)(e:H' a=H a):Rd H' a u:=by
 unfold Rd at *;rw [e];exact h
theorem StL.le(h:StL K F H a vs)(l:Le F H F' H'):StL K F' H' a vs:=by
 rcases h with⟨f,h⟩ | h
 ·exact .inl ⟨(l.f a f).1,FL.Rd.same h (l.f a f).2⟩
 ·exact .inr h
theorem StT.le(h:StT K F H a vs)(l:Le F H F' H'):StT K F' H' a vs:=⟨rfl,(l.f a h.2.1).1,(l.f a h.2.1).2.trans h.2.2⟩
end
def D7(K:Fg)(c:Str):Option Addr:=match PySem.W.nsIn K mainGlobals c with
 | some (some (.ref C))=>some C
 | _=>none
section
variable(K:Fg)(F:Wd)(H:Hp)
mutual
def AM:T->V->Prop
 | .non,v=>v=.non
 | .bl b,v=>v=.bl b
 | .int i,v=>v=.int i
 | .str x,v=>v=.str x
 | .tup ts,v=>∃a vs,v=.ref a/\StT K F H a vs/\Aj ts vs
 | .lst ts,v=>∃a vs,v=.ref a/\F a/\H a=some (.lst vs)/\Aj ts vs
 | .scr ts,v=>∃a vs,v=.ref a/\StL K F H a vs/\Aj ts vs
 | .dK ks ts,v=>∃a kvs,v=.ref a/\F a/\Rd H a (.dK kvs)/\kvs.map (·.1)=ks/\Aj ts (kvs.map (·.2))
 | .dT ks ts,v=>∃a kvs,v=.ref a/\F a/\H a=some (.dT kvs)/\kvs.map (·.1)=ks/\Aj ts (kvs.map (·.2))
 | .ins C fs ts,v=>∃a dx kvs,v=.ref a/\F a/\H a=some (.ins C dx kvs)/\kvs.map (·.1)=fs/\Aj ts (kvs.map (·.2))
 | .dF ks ts,v=>∃a kvs,v=.ref a/\F a/\(∃o,H a=some (.frz o (.dK kvs)))/\kvs.map (·.1)=ks/\Aj ts (kvs.map (·.2))
 | .exn c,v=>∃a C,v=.ref a/\F a/\H a=some (exO (.ref C) a)/\D7 K c=some C
def Aj:List T->List V->Prop
 | [],vs=>vs=[]
 | t :: ts,vs=>∃v r,vs=v :: r/\AM t v/\Aj ts r
end
mutual
def AU:FO->V->List Addr->Prop
 | .val t,v,L=>L=[]/\AM K F H t v
 | .lst ts,v,L=>∃a vs,v=.ref a/\H a=some (.lst vs)/\Aj K F H ts vs/\L=[a]
 | .dK ks ts,v,L=>∃a kvs,v=.ref a/\H a=some (.dK kvs)/\kvs.map (·.1)=ks/\Aj K F H ts (kvs.map (·.2))/\L=[a]
 | .dT ks ts,v,L=>∃a kvs,v=.ref a/\H a=some (.dT kvs)/\kvs.map (·.1)=ks/\Aj K F H ts (kvs.map (·.2))/\L=[a]
 | .ins C fs os,v,L=>∃a dx kvs L',v=.ref a/\H a=some (.ins C dx kvs)/\kvs.map (·.1)=fs/\AE os (kvs.map (·.2)) L'/\L=a :: L'
 | .los os,v,L=>∃a vs L',v=.ref a/\H a=some (.lst vs)/\AE os vs L'/\L=a :: L'
 | .tpl os,v,L=>∃a vs L',v=.ref a/\H a=some (.tup vs)/\AE os vs L'/\L=a :: L'
def AE:List FO->List V->List Addr->Prop
 | [],vs,L=>vs=[]/\L=[]
 | o :: os,vs,L=>∃v r L1 L2,vs=v :: r/\AU o v L1/\AE os r L2/\L=L1++L2
end
mutual
def toT:FO->T
 | .val t=>t
 | .lst ts=>.lst ts
 | .dK ks ts=>.dK ks ts
 | .dT ks ts=>.dT ks ts
 | .ins C fs os=>.ins C fs (GW os)
 | .los os=>.lst (GW os)
 | .tpl os=>.tup (GW os)
def GW:List FO->List T
 | []=>[]
 | o :: os=>toT o :: GW os
end
def AG:FS->St->List Addr->Prop
 | [],σ,L=>σ=[]/\L=[]
 | none :: r,σ,L=>∃v σ',σ=v :: σ'/\AG r σ' L
 | some (.val t) :: r,σ,L=>∃v σ',σ=some v :: σ'/\AM K F H t v/\AG r σ' L
 | some (.own o) :: r,σ,L=>∃v σ' L1 L2,σ=some v :: σ'/\AU K F H o v L1/\AG r σ' L2/\L=L1++L2
 | some (.bor o) :: r,σ,L=>∃v σ' L1 L2,σ=some v :: σ'/\AU K F H o v L1/\AG r σ' L2/\L=L1++L2
end
section
variable{K:Fg}{F F':Wd}{H H':Hp}
mutual
theorem AM.le(l:Le F H F' H'):∀{t:T} {v:V},AM K F H t v->AM K F' H' t v
 | .non,_,h=>h
 | .bl _,_,h=>h
 | .int _,_,h=>h
 | .str _,_,h=>h
 | .tup ts,_,h=>by
  simp only [AM] at h ⊢;obtain⟨a,vs,e,s,r⟩:=h;exact⟨a,vs,e,s.le l,Aj.le l r⟩
 | .lst ts,_,h=>by
  simp only [AM] at h ⊢;obtain⟨a,vs,e,f,s,r⟩:=h;exact⟨a,vs,e,(l.f a f).1,(l.f a f).2.trans s,Aj.le l r⟩
 | .scr ts,_,h=>by
  simp only [AM] at h ⊢;obtain⟨a,vs,e,s,r⟩:=h;exact⟨a,vs,e,s.le l,Aj.le l r⟩
 | .dK ks ts,_,h=>by
  simp only [AM] at h ⊢;obtain⟨a,kvs,e,f,s,k,r⟩:=h;exact⟨a,kvs,e,(l.f a f).1,FL.Rd.same s (l.f a f).2,k,Aj.le l r⟩
 | .dT ks ts,_,h=>by
  simp only [AM] at h ⊢;obtain⟨a,kvs,e,f,s,k,r⟩:=h;exact⟨a,kvs,e,(l.f a f).1,(l.f a f).2.trans s,k,Aj.le l r⟩
 | .ins C fs ts,_,h=>by
  simp only [AM] at h ⊢;obtain⟨a,dx,kvs,e,f,s,k,r⟩:=h;exact⟨a,dx,kvs,e,(l.f a f).1,(l.f a f).2.trans s,k,Aj.le l r⟩
 | .dF ks ts,_,h=>by
  simp only [AM] at h ⊢;obtain⟨a,kvs,e,f,⟨o,s⟩,k,r⟩:=h;exact⟨a,kvs,e,(l.f a f).1,⟨o,(l.f a f).2.trans s⟩,k,Aj.le l r⟩
 | .exn c,_,h=>by
  simp only [AM] at h ⊢;obtain⟨a,C,e,f,s,k⟩:=h;exact⟨a,C,e,(l.f a f).1,(l.f a f).2.trans s,k⟩
theorem Aj.le(l:Le F H F' H'):∀{ts:List T} {vs:List V},Aj K F H ts vs->Aj K F' H' ts vs
 | [],_,h=>h
 | t :: ts,_,h=>by
  simp only [Aj] at h ⊢;obtain⟨v,r,e,h1,h2⟩:=h;exact⟨v,r,e,AM.le l h1,Aj.le l h2⟩
end
theorem Aj.len:∀{ts:List T} {vs:List V},Aj K F H ts vs->vs.length=ts.length
 | [],_,h=>by simp only [Aj] at h;subst h;rfl
 | t :: ts,_,h=>by
  simp only [Aj] at h;obtain⟨v,r,rfl,_,h2⟩:=h;simp [Aj.len h2]
theorem Aj.at:∀{ts:List T} {vs:List V} {i:Nat} {t:T},Aj K F H ts vs->ts[i]?=some t->∃v,vs[i]?=some v/\AM K F H t v
 | [],_,_,_,_,e=>by simp at e
 | t :: ts,_,0,_,h,e=>by
  simp only [Aj] at h;obtain⟨v,r,rfl,h1,_⟩:=h;simp at e;subst e;exact⟨v,rfl,h1⟩
 | t :: ts,_,i+1,_,h,e=>by
  simp only [Aj] at h;obtain⟨v,r,rfl,_,h2⟩:=h;obtain⟨u,e1,e2⟩:=Aj.at (i:=i) h2 (by simpa using e);exact⟨u,by simpa using e1,e2⟩
theorem Aj.app:∀{ts us:List T} {vs ws:List V},Aj K F H ts vs->Aj K F H us ws->Aj K F H (ts++us) (vs++ws)
 | [],_,_,_,h,h'=>by simp only [Aj] at h;subst h;exact h'
 | t :: ts,us,_,ws,h,h'=>by
  simp only [Aj] at h;obtain⟨v,r,rfl,h1,h2⟩:=h;show Aj K F H (t :: (ts++us)) (v :: (r++ws));simp only [Aj];exact⟨v,r++ws,rfl,h1,Aj.app h2 h'⟩
theorem Aj.one{t:T}{v:V}(h:AM K F H t v):Aj K F H [t] [v]:=by
 simp only [Aj];exact⟨v,[],rfl,h,rfl⟩
theorem Aj.take:∀{ts:List T} {vs:List V} (n:Nat),Aj K F H ts vs->Aj K F H (ts.take n) (vs.take n)
 | [],_,n,h=>by simp only [Aj] at h;subst h;simp [Aj]
 | t :: ts,_,0,h=>by simp [Aj]
 | t :: ts,_,n+1,h=>by
  simp only [Aj] at h;obtain⟨v,r,rfl,h1,h2⟩:=h;simp only [List.take_succ_cons,Aj];exact⟨v,_,rfl,h1,Aj.take n h2⟩
theorem Aj.drop:∀{ts:List T} {vs:List V} (n:Nat),Aj K F H ts vs->Aj K F H (ts.drop n) (vs.drop n)
 | [],_,n,h=>by simp only [Aj] at h;subst h;simp [Aj]
 | t :: ts,_,0,h=>by simpa using h
 | t :: ts,_,n+1,h=>by
  simp only [Aj] at h;obtain⟨v,r,rfl,h1,h2⟩:=h;simp only [List.drop_succ_cons];exact Aj.drop n h2
theorem Aj.set{t:T}{v:V}(q:AM K F H t v):∀{ts:List T} {vs:List V} (n:Nat),Aj K F H ts vs->Aj K F H (ts.set n t) (vs.set n v)
 | [],_,n,h=>by simp only [Aj] at h;subst h;simp [Aj]
 | u :: ts,_,0,h=>by
  simp only [Aj] at h;obtain⟨w,r,rfl,h1,h2⟩:=h;simp only [List.set_cons_zero,Aj];exact⟨v,r,rfl,q,h2⟩
 | u :: ts,_,n+1,h=>by
  simp only [Aj] at h;obtain⟨w,r,rfl,h1,h2⟩:=h;simp only [List.set_cons_succ,Aj];exact⟨w,_,rfl,h1,Aj.set q n h2⟩
theorem Aj.rev:∀{ts:List T} {vs:List V},Aj K F H ts vs->Aj K F H ts.reverse vs.reverse
 | [],_,h=>by simp only [Aj] at h;subst h;simp [Aj]
 | t :: ts,_,h=>by
  simp only [Aj] at h;obtain⟨v,r,rfl,h1,h2⟩:=h;rw [List.reverse_cons,List.reverse_cons];exact Aj.app (Aj.rev h2) (Aj.one h1)
mutual
theorem AU.le(l:Le F H F' H'):∀{o:FO} {v:V} {L:List Addr},(∀a∈L,H' a=H a)->AU K F H o v L->AU K F' H' o v L
 | .val t,_,L,k,h=>by
  simp only [AU] at h ⊢;exact⟨h.1,h.2.le l⟩
 | .lst ts,_,L,k,h=>by
  simp only [AU] at h ⊢;obtain⟨a,vs,e,s,r,rfl⟩:=h;exact⟨a,vs,e,(k a (by simp)).trans s,r.le l,rfl⟩
 | .dK ks ts,_,L,k,h=>by
  simp only [AU] at h ⊢;obtain⟨a,vs,e,s,q,r,rfl⟩:=h;exact⟨a,vs,e,(k a (by simp)).trans s,q,r.le l,rfl⟩
 | .dT ks ts,_,L,k,h=>by
  simp only [AU] at h ⊢;obtain⟨a,vs,e,s,q,r,rfl⟩:=h;exact⟨a,vs,e,(k a (by simp)).trans s,q,r.le l,rfl⟩
 | .ins C fs os,_,L,k,h=>by
  simp only [AU] at h ⊢;obtain⟨a,dx,kvs,L',e,s,q,r,rfl⟩:=h;exact⟨a,dx,kvs,L',e,(k a (by simp)).trans s,q,AE.le l (fun b hb=>k b (List.mem_cons_of_mem _ hb)) r,rfl⟩
 | .los os,_,L,k,h=>by
  simp only [AU] at h ⊢;obtain⟨a,vs,L',e,s,r,rfl⟩:=h;exact⟨a,vs,L',e,(k a (by simp)).trans s,AE.le l (fun b hb=>k b (List.mem_cons_of_mem _ hb)) r,rfl⟩
 | .tpl os,_,L,k,h=>by
  simp only [AU] at h ⊢;obtain⟨a,vs,L',e,s,r,rfl⟩:=h;exact⟨a,vs,L',e,(k a (by simp)).trans s,AE.le l (fun b hb=>k b (List.mem_cons_of_mem _ hb)) r,rfl⟩
theorem AE.le(l:Le F H F' H'):∀{os:List FO} {vs:List V} {L:List Addr},(∀a∈L,H' a=H a)->AE K F H os vs L->AE K F' H' os vs L
 | [],_,L,k,h=>h
 | o :: os,_,L,k,h=>by
  simp only [AE] at h ⊢;obtain⟨v,r,L1,L2,e,h1,h2,rfl⟩:=h;exact⟨v,r,L1,L2,e,AU.le l (fun a ha=>k a (List.mem_append_left _ ha)) h1,AE.le l (fun a ha=>k a (List.mem_append_right _ ha)) h2,rfl⟩
end
mutual
theorem AU.def:∀{o:FO} {v:V} {L:List Addr},AU K F H o v L->∀a∈L,H a≠none
 | .val t,_,L,h,a,m=>by
  simp only [AU] at h;rw [h.1] at m;cases m
 | .lst ts,_,L,h,a,m=>by
  simp only [AU] at h;obtain⟨b,vs,e,s,r,rfl⟩:=h;rw [List.mem_singleton.mp m,s];simp
 | .dK ks ts,_,L,h,a,m=>by
  simp only [AU] at h;obtain⟨b,vs,e,s,q,r,rfl⟩:=h;rw [List.mem_singleton.mp m,s];simp
 | .dT ks ts,_,L,h,a,m=>by
  simp only [AU] at h;obtain⟨b,vs,e,s,q,r,rfl⟩:=h;rw [List.mem_singleton.mp m,s];simp
 | .ins C fs os,_,L,h,a,m=>by
  simp only [AU] at h;obtain⟨b,dx,kvs,L',e,s,q,r,rfl⟩:=h;rcases List.mem_cons.mp m with m | m
  ·rw [m,s]
   simp
  ·exact AE.def r a m
 | .los os,_,L,h,a,m=>by
  simp only [AU] at h;obtain⟨b,vs,L',e,s,r,rfl⟩:=h;rcases List.mem_cons.mp m with m | m
  ·rw [m,s]
   simp
  ·exact AE.def r a m
 | .tpl os,_,L,h,a,m=>by
  simp only [AU] at h;obtain⟨b,vs,L',e,s,r,rfl⟩:=h;rcases List.mem_cons.mp m with m | m
  ·rw [m,s]
   simp
  ·exact AE.def r a m
theorem AE.def:∀{os:List FO} {vs:List V} {L:List Addr},AE K F H os vs L->∀a∈L,H a≠none
 | [],_,L,h,a,m=>by
  simp only [AE] at h;rw [h.2] at m;cases m
 | o :: os,_,L,h,a,m=>by
  simp only [AE] at h;obtain⟨v,r,L1,L2,e,h1,h2,rfl⟩:=h;rcases List.mem_append.mp m with m | m
  ·exact AU.def h1 a m
  ·exact AE.def h2 a m
end
mutual
theorem AU.frz(l:Le F H F' H):∀{o:FO} {v:V} {L:List Addr},(∀a∈L,F' a)->AU K F H o v L->AM K F' H (toT o) v
 | .val t,_,L,k,h=>by
  simp only [AU] at h;exact AM.le l h.2
 | .lst ts,_,L,k,h=>by
  simp only [AU] at h;obtain⟨a,vs,e,s,r,rfl⟩:=h;simp only [toT,AM];exact⟨a,vs,e,k a (by simp),s,Aj.le l r⟩
 | .dK ks ts,_,L,k,h=>by
  simp only [AU] at h;obtain⟨a,vs,e,s,q,r,rfl⟩:=h;simp only [toT,AM];exact⟨a,vs,e,k a (by simp),.inl s,q,Aj.le l r⟩
 | .dT ks ts,_,L,k,h=>by
  simp only [AU] at h;obtain⟨a,vs,e,s,q,r,rfl⟩:=h;simp only [toT,AM];exact⟨a,vs,e,k a (by simp),s,q,Aj.le l r⟩
 | .ins C fs os,_,L,k,h=>by
  simp only [AU] at h;obtain⟨a,dx,kvs,L',e,s,q,r,rfl⟩:=h;simp only [toT,AM];exact⟨a,dx,kvs,e,k a (by simp),s,q,AE.frz l (fun b hb=>k b (List.mem_cons_of_mem _ hb)) r⟩
 | .los os,_,L,k,h=>by
  simp only [AU] at h;obtain⟨a,vs,L',e,s,r,rfl⟩:=h;simp only [toT,AM];exact⟨a,vs,e,k a (by simp),s,AE.frz l (fun b hb=>k b (List.mem_cons_of_mem _ hb)) r⟩
 | .tpl os,_,L,k,h=>by
  simp only [AU] at h;obtain⟨a,vs,L',e,s,r,rfl⟩:=h;simp only [toT,AM];exact⟨a,vs,e,⟨rfl,k a (by simp),s⟩,AE.frz l (fun b hb=>k b (List.mem_cons_of_mem _ hb)) r⟩
theorem AE.frz(l:Le F H F' H):∀{os:List FO} {vs:List V} {L:List Addr},(∀a∈L,F' a)->AE K F H os vs L->Aj K F' H (GW os) vs
 | [],_,L,k,h=>by
  simp only [AE] at h;simp only [GW,Aj];exact h.1
 | o :: os,_,L,k,h=>by
  simp only [AE] at h;obtain⟨v,r,L1,L2,e,h1,h2,rfl⟩:=h;simp only [GW,Aj];exact⟨v,r,e,AU.frz l (fun a ha=>k a (List.mem_append_left _ ha)) h1,AE.frz l (fun a ha=>k a (List.mem_append_right _ ha)) h2⟩
end
theorem AG.len:∀{fs:FS} {σ:St} {L:List Addr},AG K F H fs σ L->σ.length=fs.length
 | [],_,_,h=>by simp only [AG] at h;rw [h.1];rfl
 | none :: r,_,_,h=>by
  simp only [AG] at h;obtain⟨v,σ',rfl,h⟩:=h;simp [AG.len h]
 | some (.val t) :: r,_,_,h=>by
  simp only [AG] at h;obtain⟨v,σ',rfl,_,h⟩:=h;simp [AG.len h]
 | some (.own t) :: r,_,_,h=>by
  simp only [AG] at h;obtain⟨v,σ',L1,L2,rfl,_,h,_⟩:=h;simp [AG.len h]
 | some (.bor t) :: r,_,_,h=>by
  simp only [AG] at h;obtain⟨v,σ',L1,L2,rfl,_,h,_⟩:=h;simp [AG.len h]
theorem AG.le(l:Le F H F' H'):∀{fs:FS} {σ:St} {L:List Addr},(∀a∈L,H' a=H a)->AG K F H fs σ L->AG K F' H' fs σ L
 | [],_,_,k,h=>h
 | none :: r,_,_,k,h=>by
  simp only [AG] at h ⊢;obtain⟨v,σ',e,h⟩:=h;exact⟨v,σ',e,AG.le l k h⟩
 | some (.val t) :: r,_,_,k,h=>by
  simp only [AG] at h ⊢;obtain⟨v,σ',e,q,h⟩:=h;exact⟨v,σ',e,q.le l,AG.le l k h⟩
 | some (.own t) :: r,_,_,k,h=>by
  simp only [AG] at h ⊢;obtain⟨v,σ',L1,L2,e,q,h,rfl⟩:=h;exact⟨v,σ',L1,L2,e,q.le l fun a ha=>k a (List.mem_append_left _ ha),AG.le l (fun a ha=>k a (List.mem_append_right _ ha)) h,rfl⟩
 | some (.bor t) :: r,_,_,k,h=>by
  simp only [AG] at h ⊢;obtain⟨v,σ',L1,L2,e,q,h,rfl⟩:=h;exact⟨v,σ',L1,L2,e,q.le l fun a ha=>k a (List.mem_append_left _ ha),AG.le l (fun a ha=>k a (List.mem_append_right _ ha)) h,rfl⟩
theorem AG.def:∀{fs:FS} {σ:St} {L:List Addr},AG K F H fs σ L->∀a∈L,H a≠none
 | [],_,_,h,a,m=>by simp only [AG] at h;rw [h.2] at m;cases m
 | none :: r,_,_,h,a,m=>by
  simp only [AG] at h;obtain⟨v,σ',e,h⟩:=h;exact AG.def h a m
 | some (.val t) :: r,_,_,h,a,m=>by
  simp only [AG] at h;obtain⟨v,σ',e,q,h⟩:=h;exact AG.def h a m
 | some (.own t) :: r,_,_,h,a,m=>by
  simp only [AG] at h;obtain⟨v,σ',L1,L2,e,q,h,rfl⟩:=h;rcases List.mem_append.mp m with m | m
  ·exact q.def a m
  ·exact AG.def h a m
 | some (.bor t) :: r,_,_,h,a,m=>by
  simp only [AG] at h;obtain⟨v,σ',L1,L2,e,q,h,rfl⟩:=h;rcases List.mem_append.mp m with m | m
  ·exact q.def a m
  ·exact AG.def h a m
def Jw(K:Fg)(F:Wd)(H:Hp):Option Sl->Option V->List Addr->Prop
 | none,_,L=>L=[]
 | some (.val t),v,L=>∃u,v=some u/\AM K F H t u/\L=[]
 | some (.own o),v,L=>∃u,v=some u/\AU K F H o u L
 | some (.bor o),v,L=>∃u,v=some u/\AU K F H o u L
theorem AG.cons{s:Option Sl}{r:FS}{v:Option V}{σ:St}{L1 L2:List Addr}(h1:Jw K F H s v L1)(h2:AG K F H r σ L2):AG K F H (s :: r) (v :: σ) (L1++L2):=by
 cases s with
 | none =>
  simp only [Jw] at h1;subst h1;simp only [AG];exact⟨v,σ,rfl,h2⟩
 | some s =>
  cases s with
  | val t =>
   simp only [Jw] at h1;obtain⟨u,rfl,q,rfl⟩:=h1;simp only [AG];exact⟨u,σ,rfl,q,h2⟩
  | own o =>
   simp only [Jw] at h1;obtain⟨u,rfl,q⟩:=h1;simp only [AG];exact⟨u,σ,L1,L2,rfl,q,h2,rfl⟩
  | bor o =>
   simp only [Jw] at h1;obtain⟨u,rfl,q⟩:=h1;simp only [AG];exact⟨u,σ,L1,L2,rfl,q,h2,rfl⟩
theorem AG.HZ{s:Option Sl}{r:FS}{σ:St}{L:List Addr}(h:AG K F H (s :: r) σ L):∃v σ' L1 L2,σ=v :: σ'/\Jw K F H s v L1/\AG K F H r σ' L2/\L=L1++L2:=by
 cases s with
 | none =>
  simp only [AG] at h;obtain⟨v,σ',rfl,h⟩:=h;exact⟨v,σ',[],L,rfl,rfl,h,rfl⟩
 | some s =>
  cases s with
  | val t =>
   simp only [AG] at h;obtain⟨v,σ',rfl,q,h⟩:=h;exact⟨some v,σ',[],L,rfl,⟨v,rfl,q,rfl⟩,h,rfl⟩
  | own o =>
   simp only [AG] at h;obtain⟨v,σ',L1,L2,rfl,q,h,rfl⟩:=h;exact⟨some v,σ',L1,L2,rfl,⟨v,rfl,q⟩,h,rfl⟩
  | bor o =>
   simp only [AG] at h;obtain⟨v,σ',L1,L2,rfl,q,h,rfl⟩:=h;exact⟨some v,σ',L1,L2,rfl,⟨v,rfl,q⟩,h,rfl⟩
theorem AG.pick:∀{fs:FS} {σ:St} {L:List Addr} {i:Nat} {s:Option Sl},AG K F H fs σ L->fs[i]?=some s->∃v L1 L2 L3,σ[i]?=some v/\L=L1++(L2++L3)/\Jw K F H s v L2 /\
  ∀(F':Wd) (H':Hp) (s':Option Sl) (v':Option V) (L2':List Addr),Le F H F' H'->(∀a∈L1++L3,H' a=H a)->Jw K F' H' s' v' L2'->AG K F' H' (fs.set i s') (σ.set i v') (L1++(L2'++L3))
 | [],_,_,_,_,_,e=>by simp at e
 | s :: r,_,_,0,_,h,e=>by
  obtain⟨v,σ',L1,L2,rfl,h1,h2,rfl⟩:=h.HZ;simp at e;subst e;refine⟨v,[],L1,L2,rfl,rfl,h1,fun F' H' s' v' L2' l k q=>?_⟩;have h3:=AG.cons q (h2.le l fun a ha=>k a (by simpa using ha));exact h3
 | s :: r,_,_,i+1,_,h,e=>by
  obtain⟨v,σ',L1,L2,rfl,h1,h2,rfl⟩:=h.HZ;obtain⟨w,M1,M2,M3,e1,rfl,h3,h4⟩:=AG.pick (i:=i) h2 (by simpa using e);refine⟨w,L1++M1,M2,M3,by simpa using e1,by simp,h3,fun F' H' s' v' L2' l k q=>?_⟩;have h5:=h4 F' H' s' v' L2' l (fun a ha=>k a (by simp at ha ⊢;rcases ha with ha | ha;exact .inr (.inl ha);exact .inr (.inr ha))) q;have h6:Jw K F' H' s v L1:=by
   cases s with
   | none=>exact h1
   | some s =>
    cases s with
    | val t =>
     obtain⟨u,e,q,z⟩:=h1;exact⟨u,e,q.le l,z⟩
    | own o =>
     obtain⟨u,e,q⟩:=h1;exact⟨u,e,q.le l fun a ha=>k a (by simp [ha])⟩
    | bor o =>
     obtain⟨u,e,q⟩:=h1;exact⟨u,e,q.le l fun a ha=>k a (by simp [ha])⟩
  have h7:=AG.cons h6 h5;simpa using h7
mutual
theorem AM.wp{p:Addr->Prop}:∀{t:T} {v:V},AM K F H t v->AM K ⟨F.f,p⟩ H t v
 | .non,_,h=>h
 | .bl _,_,h=>h
 | .int _,_,h=>h
 | .str _,_,h=>h
 | .tup ts,_,h=>by
  simp only [AM] at h ⊢;obtain⟨a,vs,e,s,r⟩:=h;exact⟨a,vs,e,s,Aj.wp r⟩
 | .lst ts,_,h=>by
  simp only [AM] at h ⊢;obtain⟨a,vs,e,f,s,r⟩:=h;exact⟨a,vs,e,f,s,Aj.wp r⟩
 | .scr ts,_,h=>by
  simp only [AM] at h ⊢;obtain⟨a,vs,e,s,r⟩:=h;exact⟨a,vs,e,s,Aj.wp r⟩
 | .dK ks ts,_,h=>by
  simp only [AM] at h ⊢;obtain⟨a,kvs,e,f,s,k,r⟩:=h;exact⟨a,kvs,e,f,s,k,Aj.wp r⟩
 | .dT ks ts,_,h=>by
  simp only [AM] at h ⊢;obtain⟨a,kvs,e,f,s,k,r⟩:=h;exact⟨a,kvs,e,f,s,k,Aj.wp r⟩
 | .ins C fs ts,_,h=>by
  simp only [AM] at h ⊢;obtain⟨a,dx,kvs,e,f,s,k,r⟩:=h;exact⟨a,dx,kvs,e,f,s,k,Aj.wp r⟩
 | .dF ks ts,_,h=>by
  simp only [AM] at h ⊢;obtain⟨a,kvs,e,f,s,k,r⟩:=h;exact⟨a,kvs,e,f,s,k,Aj.wp r⟩
 | .exn c,_,h=>by
  simp only [AM] at h ⊢;obtain⟨a,C,e,f,s,k⟩:=h;exact⟨a,C,e,f,s,k⟩
theorem Aj.wp{p:Addr->Prop}:∀{ts:List T} {vs:List V},Aj K F H ts vs->Aj K ⟨F.f,p⟩ H ts vs
 | [],_,h=>h
 | t :: ts,_,h=>by
  simp only [Aj] at h ⊢;obtain⟨v,r,e,h1,h2⟩:=h;exact⟨v,r,e,AM.wp h1,Aj.wp h2⟩
end
mutual
theorem AU.wp{p:Addr->Prop}:∀{o:FO} {v:V} {L:List Addr},AU K F H o v L->AU K ⟨F.f,p⟩ H o v L
 | .val t,_,L,h=>by
  simp only [AU] at h ⊢;exact⟨h.1,h.2.wp⟩
 | .lst ts,_,L,h=>by
  simp only [AU] at h ⊢;obtain⟨a,vs,e,s,r,q⟩:=h;exact⟨a,vs,e,s,r.wp,q⟩
 | .dK ks ts,_,L,h=>by
  simp only [AU] at h ⊢;obtain⟨a,vs,e,s,q,r,z⟩:=h;exact⟨a,vs,e,s,q,r.wp,z⟩
 | .dT ks ts,_,L,h=>by
  simp only [AU] at h ⊢;obtain⟨a,vs,e,s,q,r,z⟩:=h;exact⟨a,vs,e,s,q,r.wp,z⟩
 | .ins C fs os,_,L,h=>by
  simp only [AU] at h ⊢;obtain⟨a,dx,kvs,L',e,s,q,r,z⟩:=h;exact⟨a,dx,kvs,L',e,s,q,AE.wp r,z⟩
 | .los os,_,L,h=>by
  simp only [AU] at h ⊢;obtain⟨a,vs,L',e,s,r,z⟩:=h;exact⟨a,vs,L',e,s,AE.wp r,z⟩
 | .tpl os,_,L,h=>by
  simp only [AU] at h ⊢;obtain⟨a,vs,L',e,s,r,z⟩:=h;exact⟨a,vs,L',e,s,AE.wp r,z⟩
theorem AE.wp{p:Addr->Prop}:∀{os:List FO} {vs:List V} {L:List Addr},AE K F H os vs L->AE K ⟨F.f,p⟩ H os vs L
 | [],_,L,h=>h
 | o :: os,_,L,h=>by
  simp only [AE] at h ⊢;obtain⟨v,r,L1,L2,e,h1,h2,z⟩:=h;exact⟨v,r,L1,L2,e,AU.wp h1,AE.wp h2,z⟩
end
theorem AG.wp{p:Addr->Prop}:∀{fs:FS} {σ:St} {L:List Addr},AG K F H fs σ L->AG K ⟨F.f,p⟩ H fs σ L
 | [],_,_,h=>h
 | none :: r,_,_,h=>by
  simp only [AG] at h ⊢;obtain⟨v,σ',e,h⟩:=h;exact⟨v,σ',e,AG.wp h⟩
 | some (.val t) :: r,_,_,h=>by
  simp only [AG] at h ⊢;obtain⟨v,σ',e,q,h⟩:=h;exact⟨v,σ',e,q.wp,AG.wp h⟩
 | some (.own t) :: r,_,_,h=>by
  simp only [AG] at h ⊢;obtain⟨v,σ',L1,L2,e,q,h,z⟩:=h;exact⟨v,σ',L1,L2,e,q.wp,AG.wp h,z⟩
 | some (.bor t) :: r,_,_,h=>by
  simp only [AG] at h ⊢;obtain⟨v,σ',L1,L2,e,q,h,z⟩:=h;exact⟨v,σ',L1,L2,e,q.wp,AG.wp h,z⟩
theorem Jw.le(l:Le F H F' H'){s:Option Sl}{v:Option V}{L:List Addr}(k:∀a∈L,H' a=H a)(h:Jw K F H s v L):Jw K F' H' s v L:=by
 cases s with
 | none=>exact h
 | some s =>
  cases s with
  | val t =>
   obtain⟨u,e,q,z⟩:=h;exact⟨u,e,q.le l,z⟩
  | own o =>
   obtain⟨u,e,q⟩:=h;exact⟨u,e,q.le l k⟩
  | bor o =>
   obtain⟨u,e,q⟩:=h;exact⟨u,e,q.le l k⟩
end
def HK(B:Nat->Option V)(fs:FS)(σ:St):Prop:=∀(i:Nat) (o:FO),fs[i]?=some (some (.bor o))->∃v,σ[i]?=some (some v)/\B i=some v
structure Ok(K:Fg)(F:Wd)(B:Nat->Option V)(H:Hp)(fs:FS)(σ:St)(L:List Addr):Prop where
 sl:AG K F H fs σ L
 nd:L.Nodup
 nf:∀a∈L,¬ F a
 fd:∀a,F a->H a≠none
 bo:HK B fs σ
 pd:∀a,F.p a->H a≠none
 pf:∀a,F a->¬ F.p a
 pl:∀a∈L,¬ F.p a
def Okk(K:Fg)(F:Wd)(B:Nat->Option V)(H:Hp)(fs:FS)(σ:St):Prop:=∃L,Ok K F B H fs σ L
structure Xp where
 p:Wd->(Nat->Option V)->Hp->Str->FS->Prop
 mono:∀{F:Wd} {B:Nat->Option V} {H:Hp} {c:Str} {fs:FS} {F':Wd} {H':Hp},p F B H c fs->Le F H F' H'->p F' B H' c fs
def Xp.no:Xp:=⟨fun _ _ _ _ _=>False,fun h _=>h⟩
def sat(Z:Xp)(B:Nat->Option V){α β:Type}(R:Wd->Hp->FS->α->β->Prop)(F:Wd)(H:Hp)(o:Out α)(Q:β->Hp->Prop):Prop :=
 match o with
 | .ok a fs=>∀F' H' b,Le F H F' H'->R F' H' fs a b->Q b H'
 | .exc c fs=>Z.p F B H c fs
 | .bad=>False
theorem sat.le{Z:Xp}{B:Nat->Option V}{α β:Type}{R:Wd->Hp->FS->α->β->Prop}{F F':Wd}{H H':Hp}{o:Out α}{Q:β->Hp->Prop}(h:sat Z B R F H o Q)(l:Le F H F' H'):sat Z B R F' H' o Q:=by
 cases o with
 | ok a fs=>exact fun F2 H2 b l2 r=>h F2 H2 b (l.trans l2) r
 | exc c fs=>exact Z.mono h l
 | bad=>exact h
def Out.bind{α β:Type}(o:Out α)(k:α->FS->Out β):Out β:=match o with
 | .ok a fs=>k a fs
 | .exc c fs=>.exc c fs
 | .bad=>.bad
theorem A5{Z:Xp}{B:Nat->Option V}{α β γ δ:Type}{R1:Wd->Hp->FS->α->β->Prop}{R2:Wd->Hp->FS->γ->δ->Prop}{F:Wd}{H:Hp}{o:Out α}{k:α->FS->Out γ}{Q:δ->Hp->Prop}{Q':β->Hp->Prop}
  (h:sat Z B R2 F H (o.bind k) Q) (hk:∀a fs F' H' b,Le F H F' H'->R1 F' H' fs a b->sat Z B R2 F' H' (k a fs) Q->Q' b H'):sat Z B R1 F H o Q':=by
 cases o with
 | ok a fs=>exact fun F2 H2 b l r=>hk a fs F2 H2 b l r (sat.le h l)
 | exc c fs=>exact h
 | bad=>exact h
def Ng(K:Fg)(F:Wd)(H:Hp)(σ:St):Rv->V->List Addr->Prop
 | .t t,v,L=>L=[]/\AM K F H t v
 | .nw o,v,L=>AU K F H o v L
 | .rf i,v,L=>L=[]/\σ[i]?=some (some v)
def RR(K:Fg)(B:Nat->Option V)(σ:St):Wd->Hp->FS->Rv->V->Prop:=fun F H fs r u=>∃L L',Ok K F B H fs σ L/\Ng K F H σ r u L'/\(L++L').Nodup/\∀a∈L',¬ F a/\¬ F.p a
def CT(K:Fg)(F:Wd)(H:Hp)(σ:St):Rv->V->Prop
 | .t t,v=>AM K F H t v
 | .nw _,_=>False
 | .rf i,v=>σ[i]?=some (some v)
def Out.bnd{α:Type}(o:Out Rv)(k:Rv->FS->Out α):Out α:=o.bind fun r fs=>match r with
 | .nw _=>.bad
 | .t t=>k (.t t) fs
 | .rf i=>k (.rf i) fs
section
variable{K:Fg}{Z:Xp}{B:Nat->Option V}{F F':Wd}{H H':Hp}{σ:St}{fs:FS}{r:Rv}{u:V}
theorem CT.le(h:CT K F H σ r u)(l:Le F H F' H'):CT K F' H' σ r u:=by
 cases r with
 | t t=>exact AM.le l h
 | nw o=>exact h
 | rf i=>exact h
theorem RR.of(h:Okk K F B H fs σ)(q:CT K F H σ r u):RR K B σ F H fs r u:=by
 obtain⟨L,h⟩:=h;refine⟨L,[],h,?_,by simpa using h.nd,(fun _ m=>nomatch m)⟩;cases r with
 | t t=>exact⟨rfl,q⟩
 | nw o=>exact q.elim
 | rf i=>exact⟨rfl,q⟩
theorem RR.ok(h:RR K B σ F H fs r u):Okk K F B H fs σ:=let⟨L,_,h,_⟩:=h;⟨L,h⟩
theorem By{γ δ:Type}{R2:Wd->Hp->FS->γ->δ->Prop}{o:Out Rv}{k:Rv->FS->Out γ}{Q:δ->Hp->Prop}{Q':V->Hp->Prop}
  (h:sat Z B R2 F H (o.bnd k) Q) (hk:∀r fs F' H' u,Le F H F' H'->Okk K F' B H' fs σ->CT K F' H' σ r u->sat Z B R2 F' H' (k r fs) Q->Q' u H'):sat Z B (RR K B σ) F H o Q':=by
 refine A5 h fun r fs F' H' u l q s=>?_
 cases r with
 | t t =>
  obtain⟨L,L',q1,q2,_⟩:=q;exact hk (.t t) fs F' H' u l ⟨L,q1⟩ q2.2 s
 | nw o=>exact s.elim
 | rf i =>
  obtain⟨L,L',q1,q2,_⟩:=q;exact hk (.rf i) fs F' H' u l ⟨L,q1⟩ q2.2 s
end
def tF(K:Fg)(Z:Xp)(f:FS->Out Rv):TE:=fun σ H Q=>∃F B fs,Okk K F B H fs σ/\sat Z B (RR K B σ) F H (f fs) Q
def RB(K:Fg)(B:Nat->Option V)(σ:St):Wd->Hp->FS->Bool->Bool->Prop:=fun F H fs b b'=>Okk K F B H fs σ/\b'=b
def tT(K:Fg)(Z:Xp)(f:FS->Out Bool):TT:=fun σ H Q=>∃F B fs,Okk K F B H fs σ/\sat Z B (RB K B σ) F H (f fs) Q
def Js(K:Fg)(F:Wd)(H:Hp)(σ:St):List Rv->List V->Prop
 | [],vs=>vs=[]
 | r :: rs,vs=>∃v w,vs=v :: w/\CT K F H σ r v/\Js K F H σ rs w
def RA(K:Fg)(B:Nat->Option V)(σ:St):Wd->Hp->FS->List Rv->List V->Prop:=fun F H fs rs vs=>Okk K F B H fs σ/\Js K F H σ rs vs
def tA(K:Fg)(Z:Xp)(f:FS->Out (List Rv)):TA:=fun σ H Q=>∃F B fs,Okk K F B H fs σ/\sat Z B (RA K B σ) F H (f fs) Q
def FE(X:Cx)(Z:Xp)(e:Expr)(f:FS->Out Rv):Prop:=PE X e (tF X.K Z f)
def FT(X:Cx)(Z:Xp)(e:Expr)(f:FS->Out Bool):Prop:=PT X e (tT X.K Z f)
def FA(X:Cx)(Z:Xp)(es:List Expr)(f:FS->Out (List Rv)):Prop:=PA X es (tA X.K Z f)
theorem BN{X:Cx}{e:Expr}{t t':TE}(h:PE X e t)(i:∀σ H Q,t' σ H Q->t σ H Q):PE X e t':=fun pins s σ H Q I q=>h pins s σ H Q I (i _ _ _ q)
theorem LH{X:Cx}{e:Expr}{t t':TT}(h:PT X e t)(i:∀σ H Q,t' σ H Q->t σ H Q):PT X e t':=fun pins s σ H Q I q=>h pins s σ H Q I (i _ _ _ q)
theorem LL{X:Cx}{e:List Expr}{t t':TA}(h:PA X e t)(i:∀σ H Q,t' σ H Q->t σ H Q):PA X e t':=fun pos pins s σ H Q I q=>h pos pins s σ H Q I (i _ _ _ q)
theorem Dh{X:Cx}{e:Stmt}{t t':TS}(h:PS X e t)(i:∀D σ H,t' D σ H->t D σ H):PS X e t':=fun pins s σ H D I q=>h pins s σ H D I (i _ _ _ q)
theorem Fc{X:Cx}{e:List Stmt}{t t':TS}(h:PSs X e t)(i:∀D σ H,t' D σ H->t D σ H):PSs X e t':=fun pins s σ H D I q=>h pins s σ H D I (i _ _ _ q)
section
variable{K:Fg}{B:Nat->Option V}{F:Wd}{H:Hp}{σ:St}{fs:FS}{p:Addr}{o:HO}
def P7(F:Wd)(p:Addr):Wd:=⟨fun a=>F a∨a=p,F.p⟩
theorem Cd(h:Okk K F B H fs σ)(hp:H p=none):Le F H (P7 F p) (upd H p o) :=
 let⟨_,h⟩:=h
 ⟨fun a f=>⟨.inl f,Ay fun e=>h.fd a f (e▸hp)⟩,fun a f=>⟨f,Ay fun e=>h.pd a f (e▸hp)⟩⟩
theorem BE(h:Okk K F B H fs σ)(hp:H p=none):Le F H F (upd H p o) :=
 let⟨_,h⟩:=h
 ⟨fun a f=>⟨f,Ay fun e=>h.fd a f (e▸hp)⟩,fun a f=>⟨f,Ay fun e=>h.pd a f (e▸hp)⟩⟩
theorem Dz{a:Addr}(h:H a≠none):upd H p o a≠none:=by
 by_cases e:a=p
 ·subst e
  rw [AK];simp
 ·rw [Ay e]
  exact h
theorem Ok.QU{L:List Addr}(h:Ok K F B H fs σ L)(hp:H p=none):∀a∈L,(upd H p o) a=H a:=fun a m=>Ay fun e=>h.sl.def a m (e▸hp)
theorem Okk.fd(h:Okk K F B H fs σ):∀a,F a->H a≠none:=let⟨_,h⟩:=h;h.fd
theorem Okk.alloc(h:Okk K F B H fs σ)(hp:H p=none):Okk K (P7 F p) B (upd H p o) fs σ:=by
 obtain⟨L,h⟩:=h;refine⟨L,h.sl.le (Cd ⟨L,h⟩ hp) (h.QU hp),h.nd,fun a m q=>?_,fun a q=>?_,h.bo,fun a q=>Dz (h.pd a q),fun a q z=>?_,h.pl⟩
 rotate_left 2
 ·rcases q with q | q
  ·exact h.pf a q z
  ·exact h.pd a z (q▸hp)
 ·rcases q with q | q
  ·exact h.nf a m q
  ·exact h.sl.def a m (q▸hp)
 ·rcases q with q | q
  ·exact Dz (h.fd a q)
  ·rw [q,AK]
   simp
theorem RR.alloc{ob:FO}(h:Okk K F B H fs σ)(hp:H p=none)(q:AU K F (upd H p o) ob (.ref p) [p]):RR K B σ F (upd H p o) fs (.nw ob) (.ref p):=by
 obtain⟨L,h⟩:=h;refine⟨L,[p],⟨h.sl.le (BE ⟨L,h⟩ hp) (h.QU hp),h.nd,h.nf,fun a q=>Dz (h.fd a q),h.bo,fun a q=>Dz (h.pd a q),h.pf,h.pl⟩,q,?_,fun a m=>?_⟩
 ·rw [List.nodup_append]
  exact⟨h.nd,by simp,fun a ma b mb e=>h.sl.def a ma (by rw [e,List.mem_singleton.mp mb];exact hp)⟩
 ·rw [List.mem_singleton.mp m]
  exact⟨fun f=>h.fd p f hp,fun f=>h.pd p f hp⟩
end
def Sl.put:Sl->FO->Sl
 | .own _,o=>.own o
 | .bor _,o=>.bor o
 | .val t,_=>.val t
def Bg(fs:FS)(i:Nat):Option FO:=match fs[i]? with
 | some (some (.own o))=>some o
 | some (some (.bor o))=>some o
 | _=>none
def putAt(fs:FS)(i:Nat)(o:FO):FS:=match fs[i]? with
 | some (some s)=>fs.set i (some (s.put o))
 | _=>fs
section
variable{K:Fg}{B:Nat->Option V}{F F':Wd}{H H':Hp}{σ:St}{fs:FS}{i:Nat}{ob:FO}
theorem HK.put{s:Option Sl}{v:Option V}(h:HK B fs σ)(hs:∀o,s=some (.bor o)->∃u,v=some u/\B i=some u)(hl:σ.length=fs.length):HK B (fs.set i s) (σ.set i v):=by
 intro j o e;by_cases hj:i=j
 ·subst hj
  have hi:i < fs.length:=by
   have:=(List.getElem?_eq_some_iff.mp e).1;simpa using this
  rw [List.getElem?_set_self hi] at e;obtain⟨u,e1,e2⟩:=hs o (by simpa using e);exact⟨u,by rw [List.getElem?_set_self (by omega),e1],e2⟩
 ·rw [List.getElem?_set_ne hj] at e
  obtain⟨v,e1,e2⟩:=h j o e;exact⟨v,by rw [List.getElem?_set_ne hj];exact e1,e2⟩
theorem DN{α:Type}{l:List α}{i:Nat}{x:α}(h:l[i]?=some x):l.set i x=l:=by
 apply List.ext_getElem?;intro j;by_cases hj:i=j
 ·subst hj
  rw [List.getElem?_set_self (List.getElem?_eq_some_iff.mp h).1,h]
 ·rw [List.getElem?_set_ne hj]
theorem D3{L1 L2 L3 M:List Addr}(h:(L1++(L2++L3)).Nodup)(hm:M.Nodup)(d:∀a∈M,a∉L1++L3):(L1++(M++L3)).Nodup:=by
 rw [List.nodup_append] at h ⊢;obtain⟨h1,h2,h3⟩:=h;rw [List.nodup_append] at h2;obtain⟨h4,h5,h6⟩:=h2;refine⟨h1,?_,fun a ha b hb e=>?_⟩
 ·rw [List.nodup_append]
  exact⟨hm,h5,fun a ha b hb e=>d a ha (by rw [e];exact List.mem_append_right _ hb)⟩
 ·rcases List.mem_append.mp hb with hb | hb
  ·exact d b hb (by rw [<- e];exact List.mem_append_left _ ha)
  ·exact h3 a ha b (List.mem_append_right _ hb) e
theorem Okk.own(h:Okk K F B H fs σ)(e:Bg fs i=some ob):∃v L2,σ[i]?=some (some v)/\AU K F H ob v L2/\(∀a∈L2,¬ F a/\¬ F.p a)/\L2.Nodup /\
  ∀ob' H',(∀a,a∉L2->H a≠none->H' a=H a)->AU K F H' ob' v L2->Okk K F B H' (putAt fs i ob') σ/\Le F H F H':=by
 obtain⟨L,h⟩:=h;have key:∀s:Sl,fs[i]?=some (some s)->(s=.own ob∨s=.bor ob)->∃v L2,σ[i]?=some (some v)/\AU K F H ob v L2/\(∀a∈L2,¬ F a/\¬ F.p a)/\L2.Nodup /\
  ∀ob' H',(∀a,a∉L2->H a≠none->H' a=H a)->AU K F H' ob' v L2->Okk K F B H' (fs.set i (some (s.put ob'))) σ/\Le F H F H':=by
  intro s es ho;obtain⟨v,L1,L2,L3,e1,rfl,h1,h2⟩:=h.sl.pick es;obtain⟨u,rfl,q⟩:∃u,v=some u/\AU K F H ob u L2:=by
   rcases ho with rfl | rfl
   ·exact h1
   ·exact h1
  have nd:=h.nd;have dis:∀a∈L1++L3,a∉L2:=fun a ha hb=>by
   rw [List.nodup_append] at nd;rcases List.mem_append.mp ha with ha | ha
   ·exact nd.2.2 a ha a (List.mem_append_left _ hb) rfl
   ·have:=(List.nodup_append.mp nd.2.1).2.2
    exact this a hb a ha rfl
  refine⟨u,L2,e1,q,fun a m=>⟨h.nf a (by simp [m]),h.pl a (by simp [m])⟩,?_,fun ob' H' k q'=>?_⟩
  ·rw [List.nodup_append] at nd
   exact(List.nodup_append.mp nd.2.1).1
  ·have l:Le F H F H':=⟨fun a f=>⟨f,k a (fun m=>h.nf a (by simp [m]) f) (h.fd a f)⟩,fun a f=>⟨f,k a (fun m=>h.pl a (by simp [m]) f) (h.pd a f)⟩⟩
   refine⟨⟨L1++(L2++L3),?_,nd,h.nf,fun a f=>by rw [(l.f a f).2];exact h.fd a f,?_,fun a f=>by rw [(l.p a f).2];exact h.pd a f,h.pf,h.pl⟩,l⟩
   ·have hL:∀a∈L1++L3,H' a=H a:=fun a m=>k a (dis a m) (h.sl.def a (by
      rcases List.mem_append.mp m with m | m
      ·simp [m]
      ·simp [m]))
    have h3:=h2 F H' (some (s.put ob')) (some u) L2 l hL (by
     rcases ho with rfl | rfl
     ·exact⟨u,rfl,q'⟩
     ·exact⟨u,rfl,q'⟩)
    rwa [DN e1] at h3
   ·have:=HK.put (i:=i) (s:=some (s.put ob')) (v:=some u) h.bo (fun o eo=>by
     rcases ho with rfl | rfl
     ·cases eo
     ·obtain⟨w,e3,e4⟩:=h.bo i ob es
      rw [e1] at e3;have e5:u=w:=by simpa using e3
      exact⟨u,rfl,by rw [e5];exact e4⟩) h.sl.len
    rwa [DN e1] at this
 unfold Bg at e;split at e
 ·rename_i o es
  cases e;obtain⟨v,L2,a1,a2,a3,a4,a5⟩:=key _ es (.inl rfl);refine⟨v,L2,a1,a2,a3,a4,fun ob' H' k q=>?_⟩;have:=a5 ob' H' k q;unfold putAt;rw [es];exact this
 ·rename_i o es
  cases e;obtain⟨v,L2,a1,a2,a3,a4,a5⟩:=key _ es (.inr rfl);refine⟨v,L2,a1,a2,a3,a4,fun ob' H' k q=>?_⟩;have:=a5 ob' H' k q;unfold putAt;rw [es];exact this
 ·cases e
end
def Aa(i:Nat):FS->Out Rv:=fun fs=>match fs[i]? with
 | some (some (.val t))=>.ok (.t t) fs
 | some (some (.own _))=>.ok (.rf i) fs
 | some (some (.bor _))=>.ok (.rf i) fs
 | _=>.bad
def gc(t:T):FS->Out Rv:=fun fs=>.ok (.t t) fs
section
variable{X:Cx}{Z:Xp}{e:Expr}
theorem Aq(i:Nat){x:Str}{pos:Pos}(hN:X.N[i]?=some x:=by rfl)(hv:Vis X.env.scope x:=by first | exact Or.inl rfl | exact Or.inr (Or.inl rfl) | exact Or.inr (Or.inr rfl))(hd:(x == ("__debug__":Str))=false:=by decide)
  (hcd:(x == ("__classdict__":Str))=false:=by decide):FE X Z (.Name x pos) (Aa i):=by
 refine BN (pv i hN hv hd hcd) fun σ H Q h=>?_
 obtain⟨F,B,fs,ok,s⟩:=h;obtain⟨L,o⟩:=id ok;unfold Aa at s;split at s
 ·rename_i t es
  obtain⟨v,L1,L2,L3,e1,_,h1,_⟩:=o.sl.pick es;obtain⟨u,rfl,q,_⟩:=h1;exact⟨u,e1,s F H u Le.refl (RR.of ok q)⟩
 ·rename_i t es
  obtain⟨v,L1,L2,L3,e1,_,h1,_⟩:=o.sl.pick es;obtain⟨u,rfl,q⟩:=h1;exact⟨u,e1,s F H u Le.refl (RR.of ok e1)⟩
 ·rename_i t es
  obtain⟨v,L1,L2,L3,e1,_,h1,_⟩:=o.sl.pick es;obtain⟨u,rfl,q⟩:=h1;exact⟨u,e1,s F H u Le.refl (RR.of ok e1)⟩
 ·exact s.elim
theorem U4{v:V}(t:T)(h:PE X e (tC v))(r:∀K F H,AM K F H t v):FE X Z e (gc t) :=
 BN h fun σ H Q ⟨F,B,fs,ok,s⟩=>s F H v Le.refl (RR.of ok (r _ _ _))
theorem Ai{i j pos}:FE X Z (.Constant (.int i) j pos) (gc (.int i)):=U4 _ VC fun _ _ _=>rfl
theorem Kf{b j pos}:FE X Z (.Constant (.bool b) j pos) (gc (.bl b)):=U4 _ Xy fun _ _ _=>rfl
theorem Sw{j pos}:FE X Z (.Constant .none j pos) (gc .non):=U4 _ Vy fun _ _ _=>rfl
theorem CK{x j pos}:FE X Z (.Constant (.str x) j pos) (gc (.str x)):=U4 _ LJ fun _ _ _=>rfl
theorem Ri{x:Str}{pos:Pos}{i:Int}(h:∃t,X.mg x=some (.int i t))(hg:Gl X x:=by rfl)(hd:(x == ("__debug__":Str))=false:=by decide):FE X Z (.Name x pos) (gc (.int i)):=U4 _ (Xw h hg hd) fun _ _ _=>rfl
theorem X0{x:Str}{pos:Pos}{z:Str}(h:∃t,X.mg x=some (.str z t))(hg:Gl X x:=by rfl)(hd:(x == ("__debug__":Str))=false:=by decide):FE X Z (.Name x pos) (gc (.str z)):=U4 _ (Xv h hg hd) fun _ _ _=>rfl
end
def fz(f:FS->Out Rv):FS->Out Rv:=fun fs=>(f fs).bind fun r fs=>match r with
 | .t t=>.ok (.t t) fs
 | .nw o=>.ok (.t (toT o)) fs
 | .rf i=>match fs[i]? with
  | some (some (.own o))=>.ok (.t (toT o)) (fs.set i (some (.val (toT o))))
  | _=>.bad
section
variable{X:Cx}{Z:Xp}{e:Expr}{f:FS->Out Rv}
def RI(F:Wd)(L:List Addr):Wd:=⟨fun a=>F a∨a∈L,F.p⟩
theorem orF{F:Wd}{L:List Addr}{H:Hp}:Le F H (RI F L) H:=⟨fun _ f=>⟨.inl f,rfl⟩,fun _ f=>⟨f,rfl⟩⟩
theorem Aw(h:FE X Z e f):FE X Z e (fz f):=by
 refine BN h fun σ H Q ⟨F,B,fs,ok,s⟩=>⟨F,B,fs,ok,?_⟩
 refine A5 s fun r fs F' H' u l q s=>?_
 cases r with
 | t t=>exact s F' H' u Le.refl q
 | nw o =>
  obtain⟨L,L',o1,q,nd,nf⟩:=q;refine s (RI F' L') H' u orF (RR.of ⟨L,?_⟩ (AU.frz orF (fun a m=>.inr m) q));refine⟨o1.sl.le orF fun _ _=>rfl,o1.nd,fun a m z=>?_,fun a z=>?_,o1.bo,o1.pd,fun a z=>?_,o1.pl⟩
  ·rcases z with z | z
   ·exact o1.nf a m z
   ·exact(List.nodup_append.mp nd).2.2 a m a z rfl
  ·rcases z with z | z
   ·exact o1.fd a z
   ·exact AU.def q a z
  ·rcases z with z | z
   ·exact o1.pf a z
   ·exact(nf a z).2
 | rf i =>
  dsimp only at s;split at s
  ·rename_i o es
   obtain⟨L,L',o1,⟨_,q⟩,nd,nf⟩:=q;obtain⟨v,L1,L2,L3,e1,rfl,h1,h2⟩:=o1.sl.pick es;obtain⟨w,rfl,q2⟩:=h1;rw [e1] at q;have eu:w=u:=by simpa using q
   subst eu;have l2:Le F' H' (RI F' L2) H':=orF;have r2:AM X.K (RI F' L2) H' (toT o) w:=AU.frz orF (fun a m=>.inr m) q2;refine s (RI F' L2) H' w l2 (RR.of ⟨L1++([]++L3),?_⟩ r2);have h3:=h2 (RI F' L2) H' (some (.val (toT o))) (some w) [] l2 (fun _ _=>rfl) ⟨w,rfl,r2,rfl⟩;rw [DN e1] at h3;have nd1:=o1.nd;refine⟨h3,D3 nd1 List.nodup_nil (fun _ m=>nomatch m),fun a m z=>?_,fun a z=>?_,?_,o1.pd,fun a z=>?_,fun a m=>o1.pl a ?_⟩
   ·have m':a∈L1∨a∈L3:=by simpa using m
    rcases z with z | z
    ·exact o1.nf a (by rcases m' with m | m <;> simp [m]) z
    ·rw [List.nodup_append] at nd1
     rcases m' with m | m
     ·exact nd1.2.2 a m a (List.mem_append_left _ z) rfl
     ·exact(List.nodup_append.mp nd1.2.1).2.2 a z a m rfl
   ·rcases z with z | z
    ·exact o1.fd a z
    ·exact AU.def q2 a z
   ·have:=HK.put (i:=i) (s:=some (.val (toT o))) (v:=some w) o1.bo (fun o eo=>by cases eo) o1.sl.len
    rwa [DN e1] at this
   ·rcases z with z | z
    ·exact o1.pf a z
    ·exact o1.pl a (by simp [z])
   ·have m':a∈L1∨a∈L3:=by simpa using m
    rcases m' with m | m <;> simp [m]
  ·exact s.elim
end
def big:Nat:=1000000
theorem E8:big<=sizeLine:=by rw [sizeLine_eq];decide
theorem Iy:big < sizeLine:=by rw [sizeLine_eq];decide
def Dn(fs:FS):Rv->Option (List T)
 | .t (.lst ts)=>some ts
 | .t (.scr ts)=>some ts
 | .rf i=>match Bg fs i with
  | some (.lst ts)=>some ts
  | _=>none
 | _=>none
def Nu:Rv->Option (List T)
 | .t (.tup ts)=>some ts
 | _=>none
section
variable{K:Fg}{B:Nat->Option V}{F F':Wd}{H H':Hp}{σ:St}{fs:FS}{x:Rv}{u:V}{ts:List T}
theorem BK(h:Okk K F B H fs σ)(r:CT K F H σ x u)(e:Dn fs x=some ts):∃a vs,u=.ref a/\SqL K H a vs/\Aj K F H ts vs:=by
 unfold Dn at e;split at e
 ·cases e
  simp only [CT,AM] at r;obtain⟨a,vs,e,f,s,q⟩:=r;exact⟨a,vs,e,SqL.of s,q⟩
 ·cases e
  simp only [CT,AM] at r;obtain⟨a,vs,e,s,q⟩:=r;exact⟨a,vs,e,s.sq,q⟩
 ·rename_i i
  split at e
  ·rename_i ts' eo
   cases e;obtain⟨v,L2,e1,q,_⟩:=h.own eo;have e2:σ[i]?=some (some u):=r;rw [e1] at e2;have e3:v=u:=by simpa using e2
   subst e3;simp only [AU] at q;obtain⟨a,vs,e,s,q,_⟩:=q;exact⟨a,vs,e,SqL.of s,q⟩
  ·cases e
 ·cases e
theorem CU(r:CT K F H σ x u)(e:Nu x=some ts):∃a vs,u=.ref a/\SqT K H a vs/\Aj K F H ts vs:=by
 unfold Nu at e;split at e
 ·cases e
  simp only [CT,AM] at r;obtain⟨a,vs,e,s,q⟩:=r;exact⟨a,vs,e,s.sq,q⟩
 ·cases e
theorem PX{vs:List V}{i:Int}{t:T}(r:Aj K F H ts vs)(e:atI ts i=some t):∃v,atI vs i=some v/\AM K F H t v:=by
 unfold atI at e ⊢;rw [r.len];cases q:ixN ts.length i with
 | none=>rw [q] at e;cases e
 | some j =>
  rw [q] at e;exact r.at e
theorem Aj.ints:∀{ns:List Int} {vs:List V},Aj K F H (ns.map T.int) vs->vs=ns.map V.int
 | [],_,h=>by simpa [Aj] using h
 | n :: ns,_,h=>by
  simp only [List.map_cons,Aj,AM] at h;obtain⟨v,r,rfl,rfl,h⟩:=h;rw [List.map_cons,Aj.ints h]
theorem Aj.bls:∀{ns:List Bool} {vs:List V},Aj K F H (ns.map T.bl) vs->vs=ns.map V.bl
 | [],_,h=>by simpa [Aj] using h
 | n :: ns,_,h=>by
  simp only [List.map_cons,Aj,AM] at h;obtain⟨v,r,rfl,rfl,h⟩:=h;rw [List.map_cons,Aj.bls h]
theorem Aj.strs:∀{ns:List Str} {vs:List V},Aj K F H (ns.map T.str) vs->vs=ns.map V.str
 | [],_,h=>by simpa [Aj] using h
 | n :: ns,_,h=>by
  simp only [List.map_cons,Aj,AM] at h;obtain⟨v,r,rfl,rfl,h⟩:=h;rw [List.map_cons,Aj.strs h]
end
def Dm:List T->Option (List Int)
 | []=>some []
 | .int i :: r=>(Dm r).map (i :: ·)
 | _=>none
def Eo:List T->Option (List Bool)
 | []=>some []
 | .bl i :: r=>(Eo r).map (i :: ·)
 | _=>none
def Dl:List T->Option (List Str)
 | []=>some []
 | .str i :: r=>(Dl r).map (i :: ·)
 | _=>none
theorem Kx:∀{ts:List T} {ns:List Int},Dm ts=some ns->ts=ns.map T.int
 | [],_,e=>by cases e;rfl
 | .int i :: r,_,e=>by
  simp only [Dm,Option.map_eq_some_iff] at e;obtain⟨ns,e,rfl⟩:=e;rw [List.map_cons,<- Kx e]
 | .non :: r,_,e=>by simp [Dm] at e
 | .bl _ :: r,_,e=>by simp [Dm] at e
 | .str _ :: r,_,e=>by simp [Dm] at e
 | .tup _ :: r,_,e=>by simp [Dm] at e
 | .lst _ :: r,_,e=>by simp [Dm] at e
 | .scr _ :: r,_,e=>by simp [Dm] at e
 | .dK _ _ :: r,_,e=>by simp [Dm] at e
 | .dT _ _ :: r,_,e=>by simp [Dm] at e
 | .ins _ _ _ :: r,_,e=>by simp [Dm] at e
 | .dF _ _ :: r,_,e=>by simp [Dm] at e
theorem GR:∀{ts:List T} {ns:List Bool},Eo ts=some ns->ts=ns.map T.bl
 | [],_,e=>by cases e;rfl
 | .bl i :: r,_,e=>by
  simp only [Eo,Option.map_eq_some_iff] at e;obtain⟨ns,e,rfl⟩:=e;rw [List.map_cons,<- GR e]
 | .non :: r,_,e=>by simp [Eo] at e
 | .int _ :: r,_,e=>by simp [Eo] at e
 | .str _ :: r,_,e=>by simp [Eo] at e
 | .tup _ :: r,_,e=>by simp [Eo] at e
 | .lst _ :: r,_,e=>by simp [Eo] at e
 | .scr _ :: r,_,e=>by simp [Eo] at e
 | .dK _ _ :: r,_,e=>by simp [Eo] at e
 | .dT _ _ :: r,_,e=>by simp [Eo] at e
 | .ins _ _ _ :: r,_,e=>by simp [Eo] at e
 | .dF _ _ :: r,_,e=>by simp [Eo] at e
theorem Kw:∀{ts:List T} {ns:List Str},Dl ts=some ns->ts=ns.map T.str
 | [],_,e=>by cases e;rfl
 | .str i :: r,_,e=>by
  simp only [Dl,Option.map_eq_some_iff] at e;obtain⟨ns,e,rfl⟩:=e;rw [List.map_cons,<- Kw e]
 | .non :: r,_,e=>by simp [Dl] at e
 | .int _ :: r,_,e=>by simp [Dl] at e
 | .bl _ :: r,_,e=>by simp [Dl] at e
 | .tup _ :: r,_,e=>by simp [Dl] at e
 | .lst _ :: r,_,e=>by simp [Dl] at e
 | .scr _ :: r,_,e=>by simp [Dl] at e
 | .dK _ _ :: r,_,e=>by simp [Dl] at e
 | .dT _ _ :: r,_,e=>by simp [Dl] at e
 | .ins _ _ _ :: r,_,e=>by simp [Dl] at e
 | .dF _ _ :: r,_,e=>by simp [Dl] at e
def Ae(g:Rv->Rv->FS->Out Rv)(fa fb:FS->Out Rv):FS->Out Rv:=fun fs=>(fa fs).bnd fun x fs=>(fb fs).bnd fun y fs=>g x y fs
def OpF(K:Fg)(Z:Xp)(r:R2)(g:Rv->Rv->FS->Out Rv):Prop:=∀(F:Wd) (B:Nat->Option V) (H:Hp) (σ:St) (fs:FS) (x y:Rv) (u w:V) (Q:VK),Okk K F B H fs σ->CT K F H σ x u->CT K F H σ y w ->
 sat Z B (RR K B σ) F H (g x y fs) Q->r u w H Q
def asB(f:FS->Out Rv):FS->Out Bool:=fun fs=>(f fs).bind fun r fs=>match r with
 | .t (.bl b)=>.ok b fs
 | _=>.bad
section
variable{X:Cx}{K:Fg}{Z:Xp}{a b c:Expr}{fa fb fc f:FS->Out Rv}{r r':R2}{g g':Rv->Rv->FS->Out Rv}{pos:Pos}{σ:St}{H:Hp}
theorem GQ{Q:VK}(hg:OpF K Z r g)(h:tF K Z (Ae g fa fb) σ H Q):tOp r (tF K Z fa) (tF K Z fb) σ H Q:=by
 obtain⟨F,B,fs,ok,s⟩:=h;exact⟨F,B,fs,ok,By s fun x fs1 F1 H1 u l ok1 rx s1=>⟨F1,B,fs1,ok1,By s1 fun y fs2 F2 H2 w l2 ok2 ry s2=>hg F2 B H2 σ fs2 x y u w Q ok2 (rx.le l2) ry s2⟩⟩
theorem SR{Q:Bool->Hp->Prop}(h:tT K Z (asB f) σ H Q):tF K Z f σ H fun x H'=>∃k,x=.bl k/\Q k H':=by
 obtain⟨F,B,fs,ok,s⟩:=h;refine⟨F,B,fs,ok,A5 s fun r fs1 F1 H1 u l q s1=>?_⟩;split at s1
 ·rename_i b
  obtain⟨L,L',o1,⟨_,q⟩,_⟩:=q;exact⟨b,q,s1 F1 H1 b Le.refl ⟨⟨L,o1⟩,rfl⟩⟩
 ·exact s1.elim
theorem Lg{op:Operator}(hg:OpF X.K Z r g)(ho:OpR X (binaryOp op) r)(ha:FE X Z a fa)(hb:FE X Z b fb):FE X Z (.BinOp a op b pos) (Ae g fa fb) :=
 BN (Xu ho ha hb) fun _ _ _ h=>GQ hg h
theorem L7{op:CmpOp}(hg:OpF X.K Z r g)(ho:OpR X (compareOp op) r)(ha:FE X Z a fa)(hb:FE X Z b fb)(hm:behindInMarks op b=false):FE X Z (.Compare a [op] [b] pos) (Ae g fa fb) :=
 BN (Tq ho ha hb hm) fun _ _ _ h=>GQ hg h
theorem FF{op:CmpOp}(hg:OpF X.K Z r g)(ho:OpR X (compareOp op) r)(ha:FE X Z a fa)(hb:FE X Z b fb)(hm:behindInMarks op b=false):FT X Z (.Compare a [op] [b] pos) (asB (Ae g fa fb)) :=
 LH (Tf ho ha hb hm) fun _ _ _ h=>GQ hg (SR h)
theorem XY(hg:OpF X.K Z r g)(hr:IxR X r)(ha:FE X Z a fa)(hb:FE X Z b fb)(hs:Jt b):FE X Z (.Subscript a b pos) (Ae g fa fb) :=
 BN (VB hr ha hb hs) fun _ _ _ h=>GQ hg h
def chain(g g':Rv->Rv->FS->Out Rv)(fa fb fc:FS->Out Rv):FS->Out Rv:=fun fs=>(fa fs).bnd fun x fs=>(fb fs).bnd fun y fs=>(g x y fs).bnd fun z fs=>match z with
 | .t (.bl true)=>(fc fs).bnd fun w fs=>g' y w fs
 | .t (.bl false)=>.ok (.t (.bl false)) fs
 | _=>.bad
theorem Uy{Q:VK}(hg:OpF K Z r g)(hg':OpF K Z r' g')(h:tF K Z (chain g g' fa fb fc) σ H Q):Nq r r' (tF K Z fa) (tF K Z fb) (tF K Z fc) σ H Q:=by
 obtain⟨F,B,fs,ok,s⟩:=h;refine⟨F,B,fs,ok,By s fun x fs1 F1 H1 u l ok1 rx s1=>⟨F1,B,fs1,ok1,By s1 fun y fs2 F2 H2 w l2 ok2 ry s2=>hg F2 B H2 σ fs2 x y u w _ ok2 (rx.le l2) ry ?_⟩⟩;refine By s2 fun z fs3 F3 H3 v l3 ok3 rz s3=>?_
 split at s3
 ·refine⟨true,rz,?_⟩
  rw [if_pos rfl];exact⟨F3,B,fs3,ok3,By s3 fun w' fs4 F4 H4 v' l4 ok4 rw' s4=>hg' F4 B H4 σ fs4 y w' w v' Q ok4 ((ry.le l3).le l4) rw' s4⟩
 ·refine⟨false,rz,?_⟩
  rw [if_neg (by decide)];exact s3 F3 H3 (.bl false) Le.refl (RR.of ok3 rfl)
 ·exact s3.elim
end
theorem QI{a b:Int}(ha:Builtin.Int.intBits a<=2 ^ 26)(hb:Builtin.Int.intBits b<=2 ^ 26):IntMulOk a b:=by
 intro h;rw [Bool.and_eq_true] at h;have h2:=of_decide_eq_true (show decide _=true from h.2);have e:bitsLine=134217728:=rfl;rw [e] at h2;omega
def gI(g:Int->Int->FS->Out Rv):Rv->Rv->FS->Out Rv
 | .t (.int i),.t (.int j),fs=>g i j fs
 | _,_,_=>.bad
def okT(t:T)(fs:FS):Out Rv:=.ok (.t t) fs
def XX:=gI fun i j=>okT (.int (i+j))
def Jh:=gI fun i j=>okT (.int (i - j))
def U0:=gI fun i j fs=>if(decide (-(2 ^ 64) < i/\i < 2 ^ 64) || decide (-(2 ^ 64) < j/\j < 2 ^ 64) || (decide (Builtin.Int.intBits i<=2 ^ 26) && decide (Builtin.Int.intBits j<=2 ^ 26)))=true then okT (.int (i * j)) fs else .bad
def BA:=gI fun i j fs=>if 0 < j then okT (.int (i % j)) fs else .bad
def C5:=gI fun i j fs=>if 0 < j/\j < 1073741824 then okT (.int (i / j)) fs else .bad
def gLt:=gI fun i j=>okT (.bl (decide (i < j)))
def gLe:=gI fun i j=>okT (.bl (decide (i<=j)))
def gGt:=gI fun i j=>okT (.bl (decide (j < i)))
section
variable{K:Fg}{Z:Xp}
theorem QC{g:Int->Int->FS->Out Rv}{C:Int->Int->Prop}{v:Int->Int->V}{t:Int->Int->T}(hv:∀K F H i j,AM K F H (t i j) (v i j))(hg:∀i j fs,g i j fs=.bad∨(C i j/\g i j fs=okT (t i j) fs)):OpF K Z (rI C v) (gI g):=by
 intro F B H σ fs x y u w Q ok rx ry s;unfold gI at s;split at s
 ·rename_i i j
  simp only [CT,AM] at rx ry;rcases hg i j fs with e | ⟨c,e⟩
  ·rw [e] at s
   exact s.elim
  ·rw [e] at s
   exact⟨i,j,rx,ry,c,s F H _ Le.refl (RR.of ok (hv _ _ _ _ _))⟩
 ·exact s.elim
theorem JT{v:Int->Int->V}{t:Int->Int->T}(hv:∀K F H i j,AM K F H (t i j) (v i j)):OpF K Z (rI0 v) (gI fun i j=>okT (t i j)):=by
 intro F B H σ fs x y u w Q ok rx ry s;unfold gI at s;split at s
 ·rename_i i j
  simp only [CT,AM] at rx ry;exact⟨i,j,rx,ry,s F H _ Le.refl (RR.of ok (hv _ _ _ _ _))⟩
 ·exact s.elim
theorem VW:OpF K Z (rI0 fun i j=>.int (i+j)) XX:=JT fun _ _ _ _ _=>rfl
theorem VQ:OpF K Z (rI0 fun i j=>.int (i - j)) Jh:=JT fun _ _ _ _ _=>rfl
theorem of_lt:OpF K Z (rI0 fun i j=>.bl (decide (i < j))) gLt:=JT fun _ _ _ _ _=>rfl
theorem of_le:OpF K Z (rI0 fun i j=>.bl (decide (i<=j))) gLe:=JT fun _ _ _ _ _=>rfl
theorem XH:OpF K Z (rI0 fun i j=>.bl (decide (j < i))) gGt:=JT fun _ _ _ _ _=>rfl
theorem VU:OpF K Z (rI (fun _ j=>0 < j) fun i j=>.int (i % j)) BA:=QC (t:=fun i j=>.int (i % j)) (fun _ _ _ _ _=>rfl) fun i j fs=>by
 by_cases h:0 < j
 ·exact .inr ⟨h,if_pos h⟩
 ·exact .inl (if_neg h)
theorem VV:OpF K Z (rI Ym fun i j=>.int (i / j)) C5:=QC (t:=fun i j=>.int (i / j)) (fun _ _ _ _ _=>rfl) fun i j fs=>by
 by_cases h:0 < j/\j < 1073741824
 ·exact .inr ⟨h,if_pos h⟩
 ·exact .inl (if_neg h)
theorem VT:OpF K Z (rI IntMulOk fun i j=>.int (i * j)) U0:=QC (t:=fun i j=>.int (i * j)) (fun _ _ _ _ _=>rfl) fun i j fs=>by
 by_cases h:(decide (-(2 ^ 64) < i/\i < 2 ^ 64) || decide (-(2 ^ 64) < j/\j < 2 ^ 64) || (decide (Builtin.Int.intBits i<=2 ^ 26) && decide (Builtin.Int.intBits j<=2 ^ 26)))=true
 ·refine .inr ⟨?_,if_pos h⟩
  rw [Bool.or_eq_true,Bool.or_eq_true,Bool.and_eq_true] at h;rcases h with(h | h) | ⟨h1,h2⟩
  ·exact Xd.ok (.inl (of_decide_eq_true h))
  ·exact Xd.ok (.inr (of_decide_eq_true h))
  ·exact QI (of_decide_eq_true h1) (of_decide_eq_true h2)
 ·exact .inl (if_neg h)
end
def plV:T->Option V
 | .non=>some .non
 | .bl b=>some (.bl b)
 | .int i=>some (.int i)
 | .str x=>some (.str x)
 | _=>none
theorem CZ{K:Fg}{F:Wd}{H:Hp}{t:T}{u v:V}(e:plV t=some v)(r:AM K F H t u):u=v:=by
 cases t with
 | non=>cases e;exact r
 | bl b=>cases e;exact r
 | int i=>cases e;exact r
 | str x=>cases e;exact r
 | tup ts=>cases e
 | lst ts=>cases e
 | scr ts=>cases e
 | dK ks ts=>cases e
 | dT ks ts=>cases e
 | ins C fs ts=>cases e
 | dF ks ts=>cases e
 | exn c=>cases e
def gEq(neg:Bool):Rv->Rv->FS->Out Rv
 | .t x,.t y,fs=>match plV x,plV y with
  | some u,some w=>if MC u w=true then okT (.bl (if neg then !decide (u=w) else decide (u=w))) fs else .bad
  | _,_=>.bad
 | _,_,_=>.bad
def To:List T->Option (List V)
 | []=>some []
 | t :: r=>(plV t).bind fun v=>(To r).map (v :: ·)
theorem IS{K:Fg}{F:Wd}{H:Hp}:∀{ts:List T} {us vs:List V},To ts=some vs->Aj K F H ts us->us=vs/\vs.all Gk=true
 | [],_,_,e,r=>by
  cases e;simp only [Aj] at r;exact⟨r,rfl⟩
 | t :: ts,_,_,e,r=>by
  simp only [Aj] at r;obtain⟨v,w,rfl,r1,r2⟩:=r;simp only [To,Option.bind_eq_some_iff,Option.map_eq_some_iff] at e;obtain⟨v',e1,ws,e2,rfl⟩:=e;obtain⟨rfl,h⟩:=IS e2 r2;have:=CZ e1 r1;subst this;refine⟨rfl,?_⟩;rw [List.all_cons,h,Bool.and_true];cases t <;> first | (cases e1;rfl) | cases e1
theorem DP{t:T}{v:V}(e:plV t=some v):Gk v=true:=by
 cases t <;> first | (cases e;rfl) | cases e
def gIn(neg:Bool):Rv->Rv->FS->Out Rv
 | .t x,y,fs=>match plV x with
  | some v=>match(match Dn fs y with
    | some ts=>To ts
    | none=>(Nu y).bind To) with
   | some vs=>okT (.bl (if neg then !inV v vs else inV v vs)) fs
   | none=>.bad
  | none=>.bad
 | _,_,_=>.bad
def J9(neg:Bool):Rv->Rv->FS->Out Rv
 | .t (.str i),.t (.str j),fs=>okT (.bl (if neg then !(!(Builtin.Str.occurrences j i 0 j.length 1).isEmpty) else !(Builtin.Str.occurrences j i 0 j.length 1).isEmpty)) fs
 | _,_,_=>.bad
section
variable{K:Fg}{Z:Xp}
theorem of_eq:OpF K Z rEq (gEq false):=by
 intro F B H σ fs x y u w Q ok rx ry s;unfold gEq at s;split at s
 ·split at s
  ·rename_i e1 e2
   split at s
   ·rename_i hs
    have h1:=CZ e1 rx;have h2:=CZ e2 ry;subst h1 h2;exact⟨hs,s F H _ Le.refl (RR.of ok rfl)⟩
   ·exact s.elim
  ·exact s.elim
 ·exact s.elim
theorem XF:OpF K Z rNe (gEq true):=by
 intro F B H σ fs x y u w Q ok rx ry s;unfold gEq at s;split at s
 ·split at s
  ·rename_i e1 e2
   split at s
   ·rename_i hs
    have h1:=CZ e1 rx;have h2:=CZ e2 ry;subst h1 h2;exact⟨hs,s F H _ Le.refl (RR.of ok rfl)⟩
   ·exact s.elim
  ·exact s.elim
 ·exact s.elim
theorem TJ(neg:Bool):OpF K Z (rIn K neg) (gIn neg):=by
 intro F B H σ fs x y u w Q ok rx ry s;unfold gIn at s;split at s
 ·split at s
  ·rename_i v e1
   split at s
   ·rename_i vs e2
    have h1:=CZ e1 rx;subst h1;split at e2
    ·rename_i ts e3
     obtain⟨a,us,rfl,hs,q⟩:=BK ok ry e3;obtain⟨rfl,hf⟩:=IS e2 q;exact⟨a,us,rfl,.inl hs,DP e1,hf,s F H _ Le.refl (RR.of ok rfl)⟩
    ·rw [Option.bind_eq_some_iff] at e2
     obtain⟨ts,e3,e2⟩:=e2;obtain⟨a,us,rfl,hs,q⟩:=CU ry e3;obtain⟨rfl,hf⟩:=IS e2 q;exact⟨a,us,rfl,.inr hs,DP e1,hf,s F H _ Le.refl (RR.of ok rfl)⟩
   ·exact s.elim
  ·exact s.elim
 ·exact s.elim
theorem LN:OpF K Z (fun x y H Q=>∃i j,x=.str i/\y=.str j/\Q (.bl (!(Builtin.Str.occurrences j i 0 j.length 1).isEmpty)) H) (J9 false):=by
 intro F B H σ fs x y u w Q ok rx ry s;unfold J9 at s;split at s
 ·rename_i i j
  exact⟨i,j,rx,ry,s F H _ Le.refl (RR.of ok rfl)⟩
 ·exact s.elim
theorem KS:OpF K Z (fun x y H Q=>∃i j,x=.str i/\y=.str j/\Q (.bl (!(!(Builtin.Str.occurrences j i 0 j.length 1).isEmpty))) H) (J9 true):=by
 intro F B H σ fs x y u w Q ok rx ry s;unfold J9 at s;split at s
 ·rename_i i j
  exact⟨i,j,rx,ry,s F H _ Le.refl (RR.of ok rfl)⟩
 ·exact s.elim
end
def gIx:Rv->Rv->FS->Out Rv
 | x,.t (.int i),fs=>match Dn fs x with
  | some ts=>match atI ts i with
   | some t=>okT t fs
   | none=>.bad
  | none=>match x with
   | .t (.tup ts)=>match atI ts i with
    | some t=>okT t fs
    | none=>.bad
   | .t (.str z)=>if z.length<=big then match atI z.cps.toList i with
     | some c=>okT (.str ⟨#[c]⟩) fs
     | none=>.bad
    else .bad
   | _=>.bad
 | _,_,_=>.bad
section
variable{K:Fg}{Z:Xp}
theorem XG:OpF K Z (rIx K) gIx:=by
 intro F B H σ fs x y u w Q ok rx ry s;unfold gIx at s;split at s
 ·rename_i i
  split at s
  ·rename_i ts e
   split at s
   ·rename_i t et
    obtain⟨a,vs,rfl,hs,q⟩:=BK ok rx e;obtain⟨v,ev,rv⟩:=PX q et;exact .inl ⟨a,vs,i,v,rfl,ry,hs,ev,s F H v Le.refl (RR.of ok rv)⟩
   ·exact s.elim
  ·split at s
   ·rename_i ts _
    split at s
    ·rename_i t et
     obtain⟨a,vs,rfl,hs,q⟩:=CU (ts:=ts) rx rfl;obtain⟨v,ev,rv⟩:=PX q et;exact .inr (.inl ⟨a,vs,i,v,rfl,ry,hs,ev,s F H v Le.refl (RR.of ok rv)⟩)
    ·exact s.elim
   ·rename_i z _
    split at s
    ·rename_i hz
     split at s
     ·rename_i c ec
      exact .inr (.inr ⟨z,i,c,rx,ry,Nat.le_trans hz E8,ec,s F H _ Le.refl (RR.of ok rfl)⟩)
     ·exact s.elim
    ·exact s.elim
   ·exact s.elim
 ·exact s.elim
end
def Rc:Rv->Rv->FS->Out Rv
 | .t (.str i),.t (.str j),fs=>if i.length+j.length<=big then okT (.str (i++j)) fs else .bad
 | _,_,_=>.bad
def Rb:Rv->Rv->FS->Out Rv
 | .t (.str z),.t (.int n),fs=>if z.length=1/\1<=n/\n<=1000 then okT (.str (Txt.mul z n)) fs else .bad
 | _,_,_=>.bad
theorem T3{z:Str}{n:Int}(hz:z.length=1)(h0:1<=n)(h1:n<=1000):MulOk z n:=by
 refine⟨?_,fun _ _=>?_,fun _ _=>?_⟩
 ·rw [Bool.or_eq_false_iff]
  exact⟨decide_eq_false (by omega),decide_eq_false (by omega)⟩
 ·have h:(n:Int)<=2 ^ 63 - 1:=by omega
  have h2:1<=((2:Int) ^ 63 - 1) / n:=(Int.le_ediv_iff_mul_le (by omega)).mpr (by omega);rw [hz];show ¬ ((1:Nat):Int) > _;omega
 ·unfold Builtin.Str.tooLong
  have:n.toNat<=1000:=by omega
  refine decide_eq_false ?_;rw [hz];have h3:(1000:Nat)<=sizeLine:=by rw [sizeLine_eq];decide
  omega
section
variable{K:Fg}{Z:Xp}
theorem TQ:OpF K Z (fun x y H Q=>∃i j,x=.str i/\y=.str j/\i.length+j.length<=sizeLine/\Q (.str (i++j)) H) Rc:=by
 intro F B H σ fs x y u w Q ok rx ry s;unfold Rc at s;split at s
 ·rename_i i j
  split at s
  ·rename_i h
   exact⟨i,j,rx,ry,Nat.le_trans h E8,s F H _ Le.refl (RR.of ok rfl)⟩
  ·exact s.elim
 ·exact s.elim
theorem TH:OpF K Z (fun x y H Q=>∃z n,x=.str z/\y=.int n/\MulOk z n/\Q (.str (Txt.mul z n)) H) Rb:=by
 intro F B H σ fs x y u w Q ok rx ry s;unfold Rb at s;split at s
 ·rename_i i j
  split at s
  ·rename_i h
   exact⟨i,j,rx,ry,T3 h.1 h.2.1 h.2.2,s F H _ Le.refl (RR.of ok rfl)⟩
  ·exact s.elim
 ·exact s.elim
end
def Xg(fs:FS):Rv->Option Bool
 | .t .non=>some false
 | .t (.bl b)=>some b
 | .t (.int i)=>some (i != 0)
 | .t (.str x)=>if x.length<=big then some ((x.length:Int) != 0) else none
 | .t (.lst ts)=>some !ts.isEmpty
 | .t (.tup ts)=>some !ts.isEmpty
 | .rf i=>match Bg fs i with
  | some (.lst ts)=>some !ts.isEmpty
  | some (.dK ks _)=>some !ks.isEmpty
  | _=>none
 | _=>none
def ID(f:FS->Out Rv):FS->Out Bool:=fun fs=>(f fs).bnd fun r fs=>match Xg fs r with
 | some b=>.ok b fs
 | none=>.bad
def HR(f:FS->Out Bool):FS->Out Bool:=fun fs=>(f fs).bind fun b fs=>.ok (!b) fs
def Ly(f g:FS->Out Bool):FS->Out Bool:=fun fs=>(f fs).bind fun b fs=>if b=true then g fs else .ok false fs
def orT(f g:FS->Out Bool):FS->Out Bool:=fun fs=>(f fs).bind fun b fs=>if b=true then .ok true fs else g fs
theorem Ed{α β:Type}{xs:List α}{ys:List β}(h:ys.length=xs.length):(!ys.isEmpty)=!xs.isEmpty:=by
 cases xs <;> cases ys <;> simp_all
section
variable{K:Fg}{B:Nat->Option V}{F:Wd}{H:Hp}{σ:St}{fs:FS}{x:Rv}{u:V}
theorem S0{b:Bool}(h:Okk K F B H fs σ)(r:CT K F H σ x u)(e:Xg fs x=some b):X8 K u H b:=by
 unfold Xg at e;split at e
 ·cases e;cases r;rfl
 ·cases e;cases r;rfl
 ·cases e;cases r;rfl
 ·split at e
  ·rename_i hz
   cases e;cases r;exact⟨Nat.le_trans hz E8,rfl⟩
  ·cases e
 ·cases e
  obtain⟨a,vs,rfl,hs,q⟩:=BK h r rfl;exact .inl ⟨vs,hs,(Ed q.len).symm⟩
 ·cases e
  obtain⟨a,vs,rfl,hs,q⟩:=CU r rfl;exact .inr (.inl ⟨vs,hs,(Ed q.len).symm⟩)
 ·rename_i i
  split at e
  ·rename_i ts eo
   cases e;obtain⟨a,vs,rfl,hs,q⟩:=BK (ts:=ts) h r (by simp [Dn,eo]);exact .inl ⟨vs,hs,(Ed q.len).symm⟩
  ·rename_i ks ts eo
   cases e;obtain⟨v,L2,e1,q,_⟩:=h.own eo;have e2:σ[i]?=some (some u):=r;rw [e1] at e2;have e3:v=u:=by simpa using e2
   subst e3;simp only [AU] at q;obtain⟨a,kvs,rfl,hd,rfl,_⟩:=q;exact .inr (.inr ⟨kvs,hd,(Ed (by simp))⟩)
  ·cases e
 ·cases e
end
section
variable{X:Cx}{Z:Xp}{a b c:Expr}{fa fb:FS->Out Rv}{ga gb:FS->Out Bool}{pos:Pos}{rest:List Expr}
theorem EL(ha:FE X Z a fa)(he:∀whole,isTrue a X.env whole=(do let v <- whole;standAt a.pos;holding [v] (truthy v))):FT X Z a (ID fa):=by
 refine LH (Qs ha he) fun σ H Q ⟨F,B,fs,ok,s⟩=>⟨F,B,fs,ok,By s fun r fs1 F1 H1 u l ok1 rx s1=>?_⟩
 split at s1
 ·rename_i b e
  exact⟨b,S0 ok1 rx e,s1 F1 H1 b Le.refl ⟨ok1,rfl⟩⟩
 ·exact s1.elim
theorem Ip(ha:FT X Z a ga):FT X Z (.UnaryOp .Not a pos) (HR ga):=by
 refine LH (Vs ha) fun σ H Q ⟨F,B,fs,ok,s⟩=>⟨F,B,fs,ok,A5 s fun b fs1 F1 H1 b' l q s1=>?_⟩
 obtain⟨ok1,rfl⟩:=q;exact s1 F1 H1 _ Le.refl ⟨ok1,rfl⟩
def FW(X:Cx)(Z:Xp)(e:Expr)(f:FS->Out Bool):Prop:=PW X e (tT X.K Z f)
theorem FW.ft(h:FW X Z a ga):FT X Z a ga:=PW.pt h
theorem RZ{e:Expr}{t t':TT}(h:PW X e t)(i:∀σ H Q,t' σ H Q->t σ H Q):PW X e t':=fun whole pins s σ H Q I q=>h whole pins s σ H Q I (i _ _ _ q)
theorem Ld(ha:FT X Z a ga):FW X Z (.BoolOp .And [a] pos) ga:=Te ha
theorem Kb(ha:FT X Z a ga):FW X Z (.BoolOp .Or [a] pos) ga:=Vp ha
theorem OY(ha:FT X Z a ga)(hb:FW X Z (.BoolOp .And (b :: rest) pos) gb):FW X Z (.BoolOp .And (a :: b :: rest) pos) (Ly ga gb):=by
 refine RZ (Vq ha hb) fun σ H Q ⟨F,B,fs,ok,s⟩=>⟨F,B,fs,ok,A5 s fun b fs1 F1 H1 b' l q s1=>?_⟩
 obtain⟨ok1,rfl⟩:=q;cases b' with
 | true =>
  rw [if_pos rfl] at s1 ⊢;exact⟨F1,B,fs1,ok1,s1⟩
 | false =>
  rw [if_neg (by decide)] at s1 ⊢;exact s1 F1 H1 _ Le.refl ⟨ok1,rfl⟩
theorem OX(ha:FT X Z a ga)(hb:FW X Z (.BoolOp .Or (b :: rest) pos) gb):FW X Z (.BoolOp .Or (a :: b :: rest) pos) (orT ga gb):=by
 refine RZ (Xs ha hb) fun σ H Q ⟨F,B,fs,ok,s⟩=>⟨F,B,fs,ok,A5 s fun b fs1 F1 H1 b' l q s1=>?_⟩
 obtain⟨ok1,rfl⟩:=q;cases b' with
 | true =>
  rw [if_pos rfl] at s1 ⊢;exact s1 F1 H1 _ Le.refl ⟨ok1,rfl⟩
 | false =>
  rw [if_neg (by decide)] at s1 ⊢;exact⟨F1,B,fs1,ok1,s1⟩
end
section
variable{X:Cx}{Z:Xp}{a b c:Expr}{fa fb fc:FS->Out Rv}{r r':R2}{g g':Rv->Rv->FS->Out Rv}{pos:Pos}
theorem Jl{op op':CmpOp}(hg:OpF X.K Z r g)(hg':OpF X.K Z r' g')(ha:FE X Z a fa)(hb:FE X Z b fb)(hc:FE X Z c fc)
  (h:∀{ta tb tc:TE},PE X a ta->PE X b tb->PE X c tc->PT X (.Compare a [op,op'] [b,c] pos) (S3 (Nq r r' ta tb tc))):FT X Z (.Compare a [op,op'] [b,c] pos) (asB (chain g g' fa fb fc)) :=
 LH (h ha hb hc) fun _ _ _ q=>Uy hg hg' (SR q)
end
def Ak:FS->Out (List Rv):=fun fs=>.ok [] fs
def Ab(f:FS->Out Rv)(g:FS->Out (List Rv)):FS->Out (List Rv):=fun fs=>(f fs).bnd fun r fs=>(g fs).bind fun rs fs=>.ok (r :: rs) fs
def Jr:List Rv->Option (List T)
 | []=>some []
 | .t t :: r=>(Jr r).map (t :: ·)
 | _=>none
theorem GU{K:Fg}{F:Wd}{H:Hp}{σ:St}:∀{rs:List Rv} {vs:List V} {ts:List T},Js K F H σ rs vs->Jr rs=some ts->Aj K F H ts vs
 | [],_,_,h,e=>by cases e;exact h
 | .t t :: r,_,_,h,e=>by
  simp only [Jr,Option.map_eq_some_iff] at e;obtain⟨ts,e,rfl⟩:=e;obtain⟨v,w,rfl,h1,h2⟩:=h;simp only [Aj];exact⟨v,w,rfl,h1,GU h2 e⟩
 | .nw _ :: r,_,_,h,e=>by simp [Jr] at e
 | .rf _ :: r,_,_,h,e=>by simp [Jr] at e
def Av(g:List T->FS->Out Rv)(f:FS->Out (List Rv)):FS->Out Rv:=fun fs=>(f fs).bind fun rs fs=>match Jr rs with
 | some ts=>if ts.length<=big then g ts fs else .bad
 | none=>.bad
def Bi(ts:List T)(fs:FS):Out Rv:=.ok (.t (.tup ts)) fs
def A1(ts:List T)(fs:FS):Out Rv:=.ok (.t (.lst ts)) fs
def Ee(ts:List T)(fs:FS):Out Rv:=.ok (.nw (.lst ts)) fs
section
variable{X:Cx}{Z:Xp}{e:Expr}{es:List Expr}{f:FS->Out Rv}{g:FS->Out (List Rv)}{pos:Pos}
theorem Ao:FA X Z [] Ak:=LL Ii fun σ H Q ⟨F,B,fs,ok,s⟩=>s F H [] Le.refl ⟨ok,rfl⟩
theorem Ad(ha:FE X Z e f)(hr:FA X Z es g)(hs:starEach (e :: es) X.env=(false,eval e X.env) :: starEach es X.env:=by rfl):FA X Z (e :: es) (Ab f g):=by
 refine LL (Es ha hr hs) fun σ H Q ⟨F,B,fs,ok,s⟩=>⟨F,B,fs,ok,By s fun r fs1 F1 H1 u l ok1 rx s1=>⟨F1,B,fs1,ok1,A5 s1 fun rs fs2 F2 H2 us l2 q s2=>?_⟩⟩
 exact s2 F2 H2 (u :: us) Le.refl ⟨q.1,u,us,rfl,rx.le l2,q.2⟩
theorem C9{x1}(h:FA X Z es g):FE X Z (.Tuple es x1 pos) (Av Bi g):=by
 refine BN (R8 h) fun σ H Q ⟨F,B,fs,ok,s⟩=>⟨F,B,fs,ok,A5 s fun rs fs1 F1 H1 us l q s1=>?_⟩
 obtain⟨ok1,q⟩:=q;split at s1
 ·rename_i ts e
  have r:=GU q e;split at s1
  ·rename_i hl
   refine⟨by rw [r.len];exact Nat.le_trans hl E8,fun p hp=>s1 (P7 F1 p) (upd H1 p (.tup us)) (.ref p) (Cd ok1 hp) (RR.of (ok1.alloc hp) ?_)⟩;simp only [CT,AM];exact⟨p,us,rfl,⟨rfl,.inr rfl,AK⟩,r.le (Cd ok1 hp)⟩
  ·exact s1.elim
 ·exact s1.elim
theorem Cr(h:FA X Z es g):FE X Z (.List es pos) (Av A1 g):=by
 refine BN (R9 h) fun σ H Q ⟨F,B,fs,ok,s⟩=>⟨F,B,fs,ok,A5 s fun rs fs1 F1 H1 us l q s1=>?_⟩
 obtain⟨ok1,q⟩:=q;split at s1
 ·rename_i ts e
  have r:=GU q e;split at s1
  ·rename_i hl
   refine⟨by rw [r.len];exact Nat.le_trans hl E8,fun p hp=>s1 (P7 F1 p) (upd H1 p (.lst us)) (.ref p) (Cd ok1 hp) (RR.of (ok1.alloc hp) ?_)⟩;simp only [CT,AM];exact⟨p,us,rfl,.inr rfl,AK,r.le (Cd ok1 hp)⟩
  ·exact s1.elim
 ·exact s1.elim
theorem DO{K:Fg}{F:Wd}{H:Hp}{p:Addr}{ts:List T}{us:List V}(h:H p=some (.lst us))(r:Aj K F H ts us):AU K F H (.lst ts) (.ref p) [p]:=by
 simp only [AU];exact⟨p,us,rfl,h,r,rfl⟩
theorem Fh(h:FA X Z es g):FE X Z (.List es pos) (Av Ee g):=by
 refine BN (R9 h) fun σ H Q ⟨F,B,fs,ok,s⟩=>⟨F,B,fs,ok,A5 s fun rs fs1 F1 H1 us l q s1=>?_⟩
 obtain⟨ok1,q⟩:=q;split at s1
 ·rename_i ts e
  have r:=GU q e;split at s1
  ·rename_i hl
   exact⟨by rw [r.len];exact Nat.le_trans hl E8,fun p hp=>s1 F1 (upd H1 p (.lst us)) (.ref p) (BE ok1 hp) (RR.alloc ok1 hp (DO AK (r.le (BE ok1 hp))))⟩
  ·exact s1.elim
 ·exact s1.elim
def MZ:FS->Out Rv:=fun fs=>.ok (.nw (.dK [] [])) fs
theorem FH:FE X Z (.Dict [] [] pos) MZ:=by
 refine BN QA fun σ H Q ⟨F,B,fs,ok,s⟩ p hp=>s F (upd H p (.dK [])) (.ref p) (BE ok hp) (RR.alloc ok hp ?_)
 simp only [AU,Aj];exact⟨p,[],rfl,AK,rfl,rfl,rfl⟩
end
def DW(K:Fg)(Z:Xp)(r:List V->Hp->VK->Prop)(g:List Rv->FS->Out Rv):Prop:=∀(F:Wd) (B:Nat->Option V) (H:Hp) (σ:St) (fs:FS) (rs:List Rv) (vs:List V) (Q:VK),Okk K F B H fs σ->Js K F H σ rs vs ->
 sat Z B (RR K B σ) F H (g rs fs) Q->r vs H Q
def Am(g:List Rv->FS->Out Rv)(f:FS->Out (List Rv)):FS->Out Rv:=fun fs=>(f fs).bind fun rs fs=>g rs fs
section
variable{X:Cx}{Z:Xp}{e:Expr}{es:List Expr}{fa:FS->Out (List Rv)}{g:List Rv->FS->Out Rv}{r:List V->Hp->VK->Prop}{pos p:Pos}{x:Str}{id Ty:String}
theorem EM(hg':DW X.K Z r g)(hc:DJ X (.builtin id) r)(hm:X.mg x=none)(hv:bootBuiltins x=some (.builtin id))(ha:FA X Z (e :: es) fa)(hg:Gl X x:=by rfl)(hn:x≠"__name__":=by decide)(hdb:(x == ("__debug__":Str))=false:=by decide)
  (he:starEach (e :: es) X.env=(false,eval e X.env) :: starEach es X.env:=by rfl) (hpl:(backTo pos (starEach es X.env)).any (·.1)=false:=by rfl):FE X Z (.Call (.Name x p) (e :: es) [] pos) (Am g fa) :=
 BN (IV hc hg hm hv ha hn hdb he hpl) fun σ H Q ⟨F,B,fs,ok,s⟩=>⟨F,B,fs,ok,A5 s fun rs fs1 F1 H1 us l q s1=>hg' F1 B H1 σ fs1 rs us Q q.1 q.2 s1⟩
theorem Hy(hg':DW X.K Z r g)(hc:DJ X (.type Ty) r)(hm:X.mg x=none)(hv:bootBuiltins x=some (.type Ty))(ha:FA X Z (e :: es) fa)(hg:Gl X x:=by rfl)(hn:x≠"__name__":=by decide)(hdb:(x == ("__debug__":Str))=false:=by decide)
  (he:starEach (e :: es) X.env=(false,eval e X.env) :: starEach es X.env:=by rfl) (hpl:(backTo pos (starEach es X.env)).any (·.1)=false:=by rfl):FE X Z (.Call (.Name x p) (e :: es) [] pos) (Am g fa) :=
 BN (NS hc hg hm hv ha hn hdb he hpl) fun σ H Q ⟨F,B,fs,ok,s⟩=>⟨F,B,fs,ok,A5 s fun rs fs1 F1 H1 us l q s1=>hg' F1 B H1 σ fs1 rs us Q q.1 q.2 s1⟩
end
def XS:List Rv->FS->Out Rv
 | [x],fs=>match Dn fs x with
  | some ts=>okT (.int ts.length) fs
  | none=>match Nu x with
   | some ts=>okT (.int ts.length) fs
   | none=>.bad
 | _,_=>.bad
def Lc:List Rv->FS->Out Rv
 | [.t (.str z)],fs=>if z.length<=big then okT (.int z.length) fs else .bad
 | _,_=>.bad
def HV:List Rv->FS->Out Rv
 | [.t (.int i),.t (.int j)],fs=>okT (.int (if j < i then j else i)) fs
 | _,_=>.bad
def Ji:List Rv->FS->Out Rv
 | [.t (.int i)],fs=>okT (.int i) fs
 | [.t (.bl k)],fs=>okT (.int (if k then 1 else 0)) fs
 | _,_=>.bad
def Q6:List Rv->FS->Out Rv
 | [x],fs=>match(Dn fs x).bind Dm with
  | some ns=>okT (.int ns.sum) fs
  | none=>.bad
 | _,_=>.bad
def U1:List Rv->FS->Out Rv
 | [x],fs=>match(Dn fs x).bind Eo with
  | some ns=>okT (.bl (ns.all id)) fs
  | none=>.bad
 | _,_=>.bad
def Ue:List Rv->FS->Out Rv
 | [x],fs=>match Dn fs x with
  | some ts=>.ok (.nw (.lst ts)) fs
  | none=>match Nu x with
   | some ts=>.ok (.nw (.lst ts)) fs
   | none=>.bad
 | _,_=>.bad
def FC:List Rv->FS->Out Rv
 | [x],fs=>match Dn fs x with
  | some ts=>okT (.tup ts) fs
  | none=>match Nu x with
   | some ts=>okT (.tup ts) fs
   | none=>.bad
 | _,_=>.bad
def UZ:Key->T
 | .inl i=>.int i
 | .inr x=>.str x
def OS:List Rv->FS->Out Rv
 | [.t (.dK ks _)],fs=>.ok (.nw (.lst (ks.map UZ))) fs
 | _,_=>.bad
section
variable{K:Fg}{Z:Xp}
theorem Cf{F:Wd}{H:Hp}{σ:St}{x:Rv}{vs:List V}(h:Js K F H σ [x] vs):∃v,vs=[v]/\CT K F H σ x v:=by
 obtain⟨v,w,rfl,h1,h2⟩:=h;have:w=[]:=h2;subst this;exact⟨v,rfl,h1⟩
theorem WJ:DW K Z (fun xs H Q=>∃p ys,xs=[.ref p]/\(SqL K H p ys∨SqT K H p ys)/\Q (.int ys.length) H) XS:=by
 intro F B H σ fs rs vs Q ok q s;unfold XS at s;split at s
 ·obtain⟨v,rfl,qq⟩:=Cf q
  have q:=qq;split at s
  ·rename_i ts e
   obtain⟨a,us,rfl,hs,r⟩:=BK ok q e;exact⟨a,us,rfl,.inl hs,by rw [r.len];exact s F H _ Le.refl (RR.of ok rfl)⟩
  ·split at s
   ·rename_i ts e
    obtain⟨a,us,rfl,hs,r⟩:=CU q e;exact⟨a,us,rfl,.inr hs,by rw [r.len];exact s F H _ Le.refl (RR.of ok rfl)⟩
   ·exact s.elim
 ·exact s.elim
theorem UD:DW K Z (fun xs H Q=>∃z,xs=[.str z]/\z.length<=sizeLine/\Q (.int z.length) H) Lc:=by
 intro F B H σ fs rs vs Q ok q s;unfold Lc at s;split at s
 ·rename_i z
  obtain⟨v,rfl,qq⟩:=Cf q;have q:=qq;cases q;split at s
  ·rename_i hz
   exact⟨z,rfl,Nat.le_trans hz E8,s F H _ Le.refl (RR.of ok rfl)⟩
  ·exact s.elim
 ·exact s.elim
theorem UA:DW K Z (fun xs H Q=>∃i j,xs=[.int i,.int j]/\Q (.int (if j < i then j else i)) H) HV:=by
 intro F B H σ fs rs vs Q ok q s;unfold HV at s;split at s
 ·rename_i i j
  obtain⟨v,w,rfl,q1,v2,w2,rfl,q2,q3⟩:=q;cases q1;cases q2;cases q3;exact⟨i,j,rfl,s F H _ Le.refl (RR.of ok rfl)⟩
 ·exact s.elim
theorem UH:DW K Z (fun xs H Q=>(∃i,xs=[.int i]/\Q (.int i) H)∨∃k,xs=[.bl k]/\Q (.int (if k then 1 else 0)) H) Ji:=by
 intro F B H σ fs rs vs Q ok q s;unfold Ji at s;split at s
 ·obtain⟨v,rfl,qq⟩:=Cf q
  have q:=qq;cases q;exact .inl ⟨_,rfl,s F H _ Le.refl (RR.of ok rfl)⟩
 ·obtain⟨v,rfl,qq⟩:=Cf q
  have q:=qq;cases q;exact .inr ⟨_,rfl,s F H _ Le.refl (RR.of ok rfl)⟩
 ·exact s.elim
theorem WI:DW K Z (fun xs H Q=>∃(l:Addr) (ns:List Int),xs=[.ref l]/\SqL K H l (ns.map V.int)/\Q (.int ns.sum) H) Q6:=by
 intro F B H σ fs rs vs Q ok q s;unfold Q6 at s;split at s
 ·obtain⟨v,rfl,qq⟩:=Cf q
  have q:=qq;split at s
  ·rename_i ns e
   rw [Option.bind_eq_some_iff] at e;obtain⟨ts,e1,e2⟩:=e;obtain⟨a,us,rfl,hs,r⟩:=BK ok q e1;rw [Kx e2] at r;rw [Aj.ints r] at hs;exact⟨a,ns,rfl,hs,s F H _ Le.refl (RR.of ok rfl)⟩
  ·exact s.elim
 ·exact s.elim
theorem WK:DW K Z (fun xs H Q=>∃(l:Addr) (bs:List Bool),xs=[.ref l]/\SqL K H l (bs.map V.bl)/\Q (.bl (bs.all id)) H) U1:=by
 intro F B H σ fs rs vs Q ok q s;unfold U1 at s;split at s
 ·obtain⟨v,rfl,qq⟩:=Cf q
  have q:=qq;split at s
  ·rename_i ns e
   rw [Option.bind_eq_some_iff] at e;obtain⟨ts,e1,e2⟩:=e;obtain⟨a,us,rfl,hs,r⟩:=BK ok q e1;rw [GR e2] at r;rw [Aj.bls r] at hs;exact⟨a,ns,rfl,hs,s F H _ Le.refl (RR.of ok rfl)⟩
  ·exact s.elim
 ·exact s.elim
theorem UC:DW K Z (fun xs H Q=>∃p ys,xs=[.ref p]/\(SqL K H p ys∨SqT K H p ys)/\∀l,H l=none->Q (.ref l) (upd H l (.lst ys))) Ue:=by
 intro F B H σ fs rs vs Q ok q s;unfold Ue at s;split at s
 ·obtain⟨v,rfl,qq⟩:=Cf q
  have q:=qq;split at s
  ·rename_i ts e
   obtain⟨a,us,rfl,hs,r⟩:=BK ok q e;exact⟨a,us,rfl,.inl hs,fun p hp=>s F (upd H p (.lst us)) (.ref p) (BE ok hp) (RR.alloc ok hp (DO AK (r.le (BE ok hp))))⟩
  ·split at s
   ·rename_i ts e
    obtain⟨a,us,rfl,hs,r⟩:=CU q e;exact⟨a,us,rfl,.inr hs,fun p hp=>s F (upd H p (.lst us)) (.ref p) (BE ok hp) (RR.alloc ok hp (DO AK (r.le (BE ok hp))))⟩
   ·exact s.elim
 ·exact s.elim
theorem Ga{F:Wd}{H:Hp}{ts:List T}{us:List V}{p:Addr}{σ:St}{B:Nat->Option V}{fs:FS}(ok:Okk K F B H fs σ)(hp:H p=none)(r:Aj K F H ts us):RR K B σ (P7 F p) (upd H p (.tup us)) fs (.t (.tup ts)) (.ref p):=by
 refine RR.of (ok.alloc hp) ?_;simp only [CT,AM];exact⟨p,us,rfl,⟨rfl,.inr rfl,AK⟩,r.le (Cd ok hp)⟩
theorem MD{F:Wd}{H:Hp}{ts:List T}{us:List V}{p:Addr}{σ:St}{B:Nat->Option V}{fs:FS}(ok:Okk K F B H fs σ)(hp:H p=none)(r:Aj K F H ts us):RR K B σ (P7 F p) (upd H p (.lst us)) fs (.t (.lst ts)) (.ref p):=by
 refine RR.of (ok.alloc hp) ?_;simp only [CT,AM];exact⟨p,us,rfl,.inr rfl,AK,r.le (Cd ok hp)⟩
theorem Rx:DW K Z (fun xs H Q=>∃p ys,xs=[.ref p]/\((SqL K H p ys/\∀l,H l=none->Q (.ref l) (upd H l (.tup ys)))∨(SqT K H p ys/\Q (.ref p) H))) FC:=by
 intro F B H σ fs rs vs Q ok q s;unfold FC at s;split at s
 ·rename_i x
  obtain⟨v,rfl,qq⟩:=Cf q;have q:=qq;split at s
  ·rename_i ts e
   obtain⟨a,us,rfl,hs,r⟩:=BK ok q e;exact⟨a,us,rfl,.inl ⟨hs,fun p hp=>s _ _ (.ref p) (Cd ok hp) (Ga ok hp r)⟩⟩
  ·split at s
   ·rename_i ts e
    obtain⟨a,us,rfl,hs,r⟩:=CU q e;have ex:x=.t (.tup ts):=by
     unfold Nu at e;split at e
     ·cases e;rfl
     ·cases e
    rw [ex] at q;exact⟨a,us,rfl,.inr ⟨hs,s F H _ Le.refl (RR.of ok q)⟩⟩
   ·exact s.elim
 ·exact s.elim
theorem Jc{F:Wd}{H:Hp}:∀ks:List Key,Aj K F H (ks.map UZ) (ks.map kV)
 | []=>by simp [Aj]
 | .inl i :: r=>by
  simp only [List.map_cons,Aj];exact⟨_,_,rfl,rfl,Jc r⟩
 | .inr i :: r=>by
  simp only [List.map_cons,Aj];exact⟨_,_,rfl,rfl,Jc r⟩
theorem Ry:DW K Z (fun xs H Q=>∃p kvs,xs=[.ref p]/\Rd H p (.dK kvs)/\∀l,H l=none->Q (.ref l) (upd H l (.lst (kvs.map fun kv=>kV kv.1)))) OS:=by
 intro F B H σ fs rs vs Q ok q s;unfold OS at s;split at s
 ·rename_i ks ts
  obtain⟨v,rfl,qq⟩:=Cf q;have q:=qq;simp only [CT,AM] at q;obtain⟨a,kvs,rfl,f,hd,rfl,r⟩:=q;refine⟨a,kvs,rfl,hd,fun p hp=>s F _ (.ref p) (BE ok hp) (RR.alloc ok hp (DO AK ?_))⟩;have e:(kvs.map fun kv=>kV kv.1)=(kvs.map (·.1)).map kV:=by rw [List.map_map];rfl
  rw [e];exact Jc _
 ·exact s.elim
end
def MtF(K:Fg)(Z:Xp)(r:V->List V->Hp->VK->Prop)(g:Rv->List Rv->FS->Out Rv):Prop:=∀(F:Wd) (B:Nat->Option V) (H:Hp) (σ:St) (fs:FS) (x:Rv) (rs:List Rv) (u:V) (vs:List V) (Q:VK),Okk K F B H fs σ->CT K F H σ x u->Js K F H σ rs vs ->
 sat Z B (RR K B σ) F H (g x rs fs) Q->r u vs H Q
def A8(g:Rv->List Rv->FS->Out Rv)(fo:FS->Out Rv)(fa:FS->Out (List Rv)):FS->Out Rv:=fun fs=>(fo fs).bnd fun x fs=>if(Dn fs x).isSome=true then(fa fs).bind fun rs fs=>g x rs fs else .bad
def GD(g:Rv->List Rv->FS->Out Rv)(fo:FS->Out Rv)(fa:FS->Out (List Rv)):FS->Out Rv:=fun fs=>(fo fs).bnd fun x fs=>match x with
 | .t (.str _)=>(fa fs).bind fun rs fs=>g x rs fs
 | _=>.bad
section
variable{X:Cx}{Z:Xp}{o e:Expr}{es:List Expr}{fo:FS->Out Rv}{fa:FS->Out (List Rv)}{g:Rv->List Rv->FS->Out Rv}{r:V->List V->Hp->VK->Prop}{apos cpos:Pos}{name:Str}{id:String}
theorem HW(hg:MtF X.K Z r g)(slot:Slot "list" name id)(hty:typeOf (.builtin id)=pure (.type "method_descriptor"))(hm:MtR X id r)(ho:FE X Z o fo)(ha:FA X Z (e :: es) fa)
  (hbase:attributeBase o name X.env (eval o X.env)=eval o X.env:=by rfl)
  (hfew:((backTo cpos (starEach (e :: es) X.env)).all (fun x=>!x.1) && (backToKw cpos (keywordEach [] X.env)).all (fun x=>x.1.isSome)
   && decide ((e :: es).length+([]:List Keyword).length+(if([]:List Keyword).isEmpty then 0 else 1) < 30))=true:=by rfl)
  (hline:(apos.endLine == cpos.line)=true:=by rfl) (hs:starEach (e :: es) X.env=(false,eval e X.env) :: starEach es X.env:=by rfl) (hplain:(backTo cpos (starEach es X.env)).any (·.1)=false:=by rfl) :
  FE X Z (.Call (.Attribute o name apos) (e :: es) [] cpos) (A8 g fo fa):=by
 refine BN (VG PySem.F.plainAttrs_list slot hty hm ho ha hbase hfew hline hs hplain) fun σ H Q ⟨F,B,fs,ok,s⟩=>⟨F,B,fs,ok,By s fun x fs1 F1 H1 u l ok1 rx s1=>?_⟩
 split at s1
 ·rename_i he
  obtain⟨ts,ets⟩:=Option.isSome_iff_exists.mp he;obtain⟨a,vs,rfl,hs,q⟩:=BK ok1 rx ets;exact⟨.inl ⟨rfl,vs,hs⟩,F1,B,fs1,ok1,A5 s1 fun rs fs2 F2 H2 us l2 q2 s2=>hg F2 B H2 σ fs2 x rs _ us Q q2.1 (rx.le l2) q2.2 s2⟩
 ·exact s1.elim
theorem Ke(hg:MtF X.K Z r g)(slot:Slot "list" name id)(hty:typeOf (.builtin id)=pure (.type "method_descriptor"))(hm:MtR X id r)(ho:FE X Z o fo)
  (hbase:attributeBase o name X.env (eval o X.env)=eval o X.env:=by rfl) (hline:(apos.endLine == cpos.line)=true:=by rfl):FE X Z (.Call (.Attribute o name apos) [] [] cpos) (A8 g fo Ak):=by
 refine BN (VF PySem.F.plainAttrs_list slot hty hm ho hbase hline) fun σ H Q ⟨F,B,fs,ok,s⟩=>⟨F,B,fs,ok,By s fun x fs1 F1 H1 u l ok1 rx s1=>?_⟩
 split at s1
 ·rename_i he
  obtain⟨ts,ets⟩:=Option.isSome_iff_exists.mp he;obtain⟨a,vs,rfl,hs,q⟩:=BK ok1 rx ets;exact⟨.inl ⟨rfl,vs,hs⟩,hg F1 B H1 σ fs1 x [] _ [] Q ok1 rx rfl s1⟩
 ·exact s1.elim
theorem Sz(hg:MtF X.K Z r g)(slot:Slot "str" name id)(hty:typeOf (.builtin id)=pure (.type "method_descriptor"))(hm:MtR X id r)(ho:FE X Z o fo)(ha:FA X Z (e :: es) fa)
  (hbase:attributeBase o name X.env (eval o X.env)=eval o X.env:=by rfl)
  (hfew:((backTo cpos (starEach (e :: es) X.env)).all (fun x=>!x.1) && (backToKw cpos (keywordEach [] X.env)).all (fun x=>x.1.isSome)
   && decide ((e :: es).length+([]:List Keyword).length+(if([]:List Keyword).isEmpty then 0 else 1) < 30))=true:=by rfl)
  (hline:(apos.endLine == cpos.line)=true:=by rfl) (hs:starEach (e :: es) X.env=(false,eval e X.env) :: starEach es X.env:=by rfl) (hplain:(backTo cpos (starEach es X.env)).any (·.1)=false:=by rfl) :
  FE X Z (.Call (.Attribute o name apos) (e :: es) [] cpos) (GD g fo fa):=by
 refine BN (VG PySem.F.plainAttrs_str slot hty hm ho ha hbase hfew hline hs hplain) fun σ H Q ⟨F,B,fs,ok,s⟩=>⟨F,B,fs,ok,By s fun x fs1 F1 H1 u l ok1 rx s1=>?_⟩
 split at s1
 ·have rx2:=rx
  cases rx;exact⟨rfl,F1,B,fs1,ok1,A5 s1 fun rs fs2 F2 H2 us l2 q2 s2=>hg F2 B H2 σ fs2 _ rs _ us Q q2.1 (CT.le rx2 l2) q2.2 s2⟩
 ·exact s1.elim
end
def Ea:Rv->List Rv->FS->Out Rv
 | .rf i,[.t t],fs=>match Bg fs i with
  | some (.lst ts)=>if ts.length < big then .ok (.t .non) (putAt fs i (.lst (ts++[t]))) else .bad
  | _=>.bad
 | _,_,_=>.bad
def HU:Rv->List Rv->FS->Out Rv
 | .rf i,[],fs=>match Bg fs i with
  | some (.lst ts)=>match ts.getLast? with
   | some t=>.ok (.t t) (putAt fs i (.lst ts.dropLast))
   | none=>.bad
  | _=>.bad
 | _,_,_=>.bad
def Hv:Rv->List Rv->FS->Out Rv
 | .t (.str z),[x],fs=>match(Dn fs x).bind Dl with
  | some ys=>if(ys.map (·.length)).sum+ys.length * z.length<=big then okT (.str (Txt.join z ys)) fs else .bad
  | none=>.bad
 | _,_,_=>.bad
section
variable{K:Fg}{Z:Xp}{B:Nat->Option V}{F:Wd}{H:Hp}{σ:St}{fs:FS}{i:Nat}{u:V}{ts:List T}
theorem Aj.last{vs:List V}{t:T}(r:Aj K F H ts vs)(e:ts.getLast?=some t):∃z,vs=vs.dropLast++[z]/\AM K F H t z/\Aj K F H ts.dropLast vs.dropLast:=by
 have hl:=r.len;rw [List.getLast?_eq_getElem?] at e;obtain⟨z,ez,rz⟩:=r.at e;have hpos:0 < ts.length:=by
  have:=(List.getElem?_eq_some_iff.mp e).1;omega
 refine⟨z,?_,rz,?_⟩
 ·have hne:vs≠[]:=by intro q;rw [q] at hl;simp at hl;omega
  have h1:=(List.dropLast_concat_getLast hne).symm;have h2:vs.getLast hne=z:=by
   rw [List.getLast_eq_getElem];have:=(List.getElem?_eq_some_iff.mp ez)
   obtain⟨h3,h4⟩:=this;rw [<- h4];congr 1;rw [hl]
  rw [h2] at h1;exact h1
 ·rw [List.dropLast_eq_take,List.dropLast_eq_take,hl]
  exact r.take _
theorem Okk.list(h:Okk K F B H fs σ)(r:σ[i]?=some (some u))(e:Bg fs i=some (.lst ts)):∃a vs,u=.ref a/\H a=some (.lst vs)/\Aj K F H ts vs /\
  ∀ts' vs',Aj K F H ts' vs'->Okk K F B (upd H a (.lst vs')) (putAt fs i (.lst ts')) σ/\Le F H F (upd H a (.lst vs')):=by
 obtain⟨v,L2,e1,q,nf,_,k⟩:=h.own e;rw [e1] at r;have e3:v=u:=by simpa using r
 subst e3;simp only [AU] at q;obtain⟨a,vs,rfl,hs,q,rfl⟩:=q;refine⟨a,vs,rfl,hs,q,fun ts' vs' q'=>?_⟩;have l:Le F H F (upd H a (.lst vs')):=⟨fun b f=>⟨f,Ay fun z=>(nf a (by simp)).1 (z▸f)⟩,fun b f=>⟨f,Ay fun z=>(nf a (by simp)).2 (z▸f)⟩⟩
 exact k _ _ (fun b hb _=>Ay (by simpa using hb)) (DO AK (q'.le l))
theorem Gy:MtF K Z NF Ea:=by
 intro F B H σ fs x rs u vs Q ok rx q s;unfold Ea at s;split at s
 ·rename_i i t
  obtain⟨v,rfl,qq⟩:=Cf q;have q:=qq;split at s
  ·rename_i ts e
   split at s
   ·rename_i hl
    obtain⟨a,us,rfl,hs,r,k⟩:=ok.list rx e;obtain⟨ok',l⟩:=k (ts++[t]) (us++[v]) (r.app (Aj.one q));exact⟨a,us,v,rfl,rfl,hs,by rw [r.len];exact Nat.lt_trans hl Iy,s F _ _ l (RR.of ok' rfl)⟩
   ·exact s.elim
  ·exact s.elim
 ·exact s.elim
theorem J2:MtF K Z (fun x vs H Q=>∃l e z,x=.ref l/\vs=[]/\H l=some (.lst (e++[z]))/\Q z (upd H l (.lst e))) HU:=by
 intro F B H σ fs x rs u vs Q ok rx q s;unfold HU at s;split at s
 ·have:vs=[]:=q
  subst this;split at s
  ·rename_i ts e
   split at s
   ·rename_i t et
    obtain⟨a,us,rfl,hs,r,k⟩:=ok.list rx e;obtain⟨z,ez,rz,rd⟩:=r.last et;obtain⟨ok',l⟩:=k _ _ rd;refine⟨a,us.dropLast,z,rfl,rfl,by rw [<- ez];exact hs,s F _ z l (RR.of ok' (AM.le l rz))⟩
   ·exact s.elim
  ·exact s.elim
 ·exact s.elim
theorem Oc:MtF K Z (fun x xs H Q=>∃(z:Str) (l:Addr) (ys:List Str),x=.str z/\xs=[.ref l]/\SqL K H l (ys.map V.str)/\(ys.map (·.length)).sum+ys.length * z.length<=16777216/\Q (.str (Txt.join z ys)) H) Hv:=by
 intro F B H σ fs x rs u vs Q ok rx q s;unfold Hv at s;split at s
 ·rename_i z x
  obtain⟨v,rfl,qq⟩:=Cf q;have q:=qq;cases rx;split at s
  ·rename_i ys e
   rw [Option.bind_eq_some_iff] at e;obtain⟨ts,e1,e2⟩:=e;split at s
   ·rename_i hl
    obtain⟨a,us,rfl,hs,r⟩:=BK ok q e1;rw [Kw e2] at r;rw [Aj.strs r] at hs;exact⟨z,a,ys,rfl,rfl,hs,Nat.le_trans hl (by decide),s F H _ Le.refl (RR.of ok rfl)⟩
   ·exact s.elim
  ·exact s.elim
 ·exact s.elim
end
def Nh:T->Option Key
 | .int i=>some (.inl i)
 | .str x=>some (.inr x)
 | _=>none
def KC:List T->Option (List Key)
 | []=>some []
 | t :: r=>(Nh t).bind fun k=>(KC r).map (k :: ·)
theorem GK{K:Fg}{F:Wd}{H:Hp}{t:T}{u:V}{k:Key}(e:Nh t=some k)(r:AM K F H t u):u=kV k:=by
 unfold Nh at e;split at e
 ·cases e;exact r
 ·cases e;exact r
 ·cases e
theorem GX{K:Fg}{F:Wd}{H:Hp}:∀{ts:List T} {us:List V} {ks:List Key},KC ts=some ks->Aj K F H ts us->us=ks.map kV
 | [],_,_,e,r=>by cases e;exact r
 | t :: ts,_,_,e,r=>by
  simp only [KC,Option.bind_eq_some_iff,Option.map_eq_some_iff] at e;obtain⟨k,e1,ks,e2,rfl⟩:=e;simp only [Aj] at r;obtain⟨v,w,rfl,r1,r2⟩:=r;rw [List.map_cons,GX e2 r2,GK e1 r1]
def GB{κ:Type}[DecidableEq κ]:List κ->List T->κ->Option T
 | k :: ks,t :: ts,j=>if k=j then some t else GB ks ts j
 | _,_,_=>none
def IM{κ:Type}[DecidableEq κ](ks:List κ)(ts:List T)(j:κ)(v:T):List κ×List T :=
 if(ks.any fun k=>decide (k=j))=true then(ks,List.zipWith (fun k t=>if k=j then v else t) ks ts) else(ks++[j],ts++[v])
section
variable{K:Fg}{F:Wd}{H:Hp}{κ:Type}[DecidableEq κ]
theorem IC:∀{kvs:List (κ×V)} {ts:List T} {j:κ},Aj K F H ts (kvs.map (·.2))->(GB (kvs.map (·.1)) ts j=none/\Mv kvs j=none)∨∃t v,GB (kvs.map (·.1)) ts j=some t/\Mv kvs j=some v/\AM K F H t v
 | [],ts,j,r=>by
  have h:=r.len;cases ts with
  | nil=>exact .inl ⟨rfl,rfl⟩
  | cons t ts=>simp at h
 | (k,v) :: kvs,ts,j,r=>by
  cases ts with
  | nil =>
   have h:=r.len;simp at h
  | cons t ts =>
   simp only [List.map_cons,Aj] at r;obtain⟨v',w,e,r1,r2⟩:=r;cases e;by_cases hk:k=j
   ·refine .inr ⟨t,v,?_,GH hk,r1⟩
    simp only [List.map_cons,GB];rw [if_pos hk]
   ·have e1:GB (((k,v) :: kvs).map (·.1)) (t :: ts) j=GB (kvs.map (·.1)) ts j:=by
     simp only [List.map_cons,GB];rw [if_neg hk]
    rw [e1,GI (p:=(k,v)) hk];exact IC r2
theorem Nj{j:κ}{t:T}{w:V}(q:AM K F H t w):∀{kvs:List (κ×V)} {ts:List T},Aj K F H ts (kvs.map (·.2)) ->
  Aj K F H (List.zipWith (fun k t'=>if k=j then t else t') (kvs.map (·.1)) ts) ((kvs.map fun kv=>if kv.1=j then(kv.1,w) else kv).map (·.2))
 | [],ts,r=>by
  have h:=r.len;cases ts with
  | cons t ts=>simp at h
  | nil=>exact rfl
 | (k,v) :: kvs,ts,r=>by
  cases ts with
  | nil =>
   have h:=r.len;simp at h
  | cons t' ts =>
   simp only [List.map_cons,Aj] at r;obtain⟨v',w',e,r1,r2⟩:=r;cases e;have ih:=Nj q (j:=j) r2;simp only [List.map_cons,List.zipWith_cons_cons,Aj];by_cases hk:k=j
   ·rw [if_pos hk,if_pos hk]
    exact⟨w,_,rfl,q,ih⟩
   ·rw [if_neg hk,if_neg hk]
    exact⟨v,_,rfl,r1,ih⟩
theorem IL{j:κ}{t:T}{w:V}(q:AM K F H t w){kvs:List (κ×V)}{ts:List T}(r:Aj K F H ts (kvs.map (·.2))) :
  (putK kvs j w).map (·.1)=(IM (kvs.map (·.1)) ts j t).1/\Aj K F H (IM (kvs.map (·.1)) ts j t).2 ((putK kvs j w).map (·.2)):=by
 have e:((kvs.map (·.1)).any fun k=>decide (k=j))=(kvs.any fun kv=>decide (kv.1=j)):=by rw [List.any_map];rfl
 unfold putK IM;rw [e];by_cases h:(kvs.any fun kv=>decide (kv.1=j))=true
 ·rw [if_pos h,if_pos h]
  refine⟨?_,Nj q r⟩;rw [List.map_map];refine List.map_congr_left fun p hp=>?_
  show(if p.1=j then(p.1,w) else p).1=p.1;split <;> rfl
 ·rw [if_neg h,if_neg h]
  refine⟨by rw [List.map_append];rfl,?_⟩;rw [List.map_append];exact r.app (Aj.one q)
end
def U5(fs:FS):Rv->T->Option (Option T)
 | .t (.dK ks ts),y=>(Nh y).map fun k=>GB ks ts k
 | .t (.dF ks ts),y=>(Nh y).map fun k=>GB ks ts k
 | .t (.dT ks ts),.tup y=>(KC y).map fun k=>GB ks ts k
 | .rf i,y=>match Bg fs i with
  | some (.dK ks ts)=>(Nh y).map fun k=>GB ks ts k
  | some (.dT ks ts)=>match y with
   | .tup y=>(KC y).map fun k=>GB ks ts k
   | _=>none
  | _=>none
 | _,_=>none
section
variable{K:Fg}{B:Nat->Option V}{F:Wd}{H:Hp}{σ:St}{fs:FS}{x:Rv}{y:T}{u w:V}
theorem Pm{o:Option T}(h:Okk K F B H fs σ)(rx:CT K F H σ x u)(ry:AM K F H y w)(e:U5 fs x y=some o) :
  ∃a o',u=.ref a/\Ni H a w o'/\((o=none/\o'=none)∨∃t v,o=some t/\o'=some v/\AM K F H t v):=by
 have key:∀{a:Addr} {kvs:List (Key×V)} {ts:List T},Rd H a (.dK kvs)->Aj K F H ts (kvs.map (·.2))->(Nh y).map (fun k=>GB (kvs.map (·.1)) ts k)=some o ->
   ∃o',Ni H a w o'/\((o=none/\o'=none)∨∃t v,o=some t/\o'=some v/\AM K F H t v):=by
  intro a kvs ts hd r e;rw [Option.map_eq_some_iff] at e;obtain⟨k,ek,eo⟩:=e;have:=GK ek ry;subst this;refine⟨_,.inl ⟨kvs,k,hd,rfl,rfl⟩,?_⟩;rcases IC (j:=k) r with⟨h1,h2⟩ | ⟨t,v,h1,h2,h3⟩
  ·exact .inl ⟨eo.symm.trans h1,h2⟩
  ·exact .inr ⟨t,v,eo.symm.trans h1,h2,h3⟩
 have UZ:∀{a:Addr} {kvs:List (List Key×V)} {ts ys:List T},H a=some (.dT kvs)->Aj K F H ts (kvs.map (·.2))->y=.tup ys->(KC ys).map (fun k=>GB (kvs.map (·.1)) ts k)=some o ->
   ∃o',Ni H a w o'/\((o=none/\o'=none)∨∃t v,o=some t/\o'=some v/\AM K F H t v):=by
  intro a kvs ts ys hd r ey e;rw [Option.map_eq_some_iff] at e;obtain⟨k,ek,eo⟩:=e;subst ey;simp only [AM] at ry;obtain⟨b,vs,rfl,hb,rb⟩:=ry;have:=GX ek rb;subst this;refine⟨_,Ni.t hd hb.2.2,?_⟩;rcases IC (j:=k) r with⟨h1,h2⟩ | ⟨t,v,h1,h2,h3⟩
  ·exact .inl ⟨eo.symm.trans h1,h2⟩
  ·exact .inr ⟨t,v,eo.symm.trans h1,h2,h3⟩
 unfold U5 at e;split at e
 ·simp only [CT,AM] at rx
  obtain⟨a,kvs,rfl,f,hd,rfl,r⟩:=rx;obtain⟨o',h1,h2⟩:=key hd r e;exact⟨a,o',rfl,h1,h2⟩
 ·simp only [CT,AM] at rx
  obtain⟨a,kvs,rfl,f,⟨ob,hd⟩,rfl,r⟩:=rx;obtain⟨o',h1,h2⟩:=key (.inr ⟨ob,hd⟩) r e;exact⟨a,o',rfl,h1,h2⟩
 ·simp only [CT,AM] at rx
  obtain⟨a,kvs,rfl,f,hd,rfl,r⟩:=rx;obtain⟨o',h1,h2⟩:=UZ hd r rfl e;exact⟨a,o',rfl,h1,h2⟩
 ·rename_i y' i
  have e2:σ[i]?=some (some u):=rx;split at e
  ·rename_i eo
   obtain⟨v,L2,e1,q,_⟩:=h.own eo;rw [e1] at e2;have e3:v=u:=by simpa using e2
   subst e3;simp only [AU] at q;obtain⟨a,kvs,rfl,hd,rfl,r,_⟩:=q;obtain⟨o',h1,h2⟩:=key (.inl hd) r e;exact⟨a,o',rfl,h1,h2⟩
  ·rename_i eo
   split at e
   ·obtain⟨v,L2,e1,q,_⟩:=h.own eo
    rw [e1] at e2;have e3:v=u:=by simpa using e2
    subst e3;simp only [AU] at q;obtain⟨a,kvs,rfl,hd,rfl,r,_⟩:=q;obtain⟨o',h1,h2⟩:=UZ hd r rfl e;exact⟨a,o',rfl,h1,h2⟩
   ·cases e
  ·cases e
 ·cases e
end
def Uh:Rv->Rv->FS->Out Rv
 | x,.t y,fs=>match U5 fs x y with
  | some (some t)=>okT t fs
  | _=>.bad
 | _,_,_=>.bad
def Ug(neg:Bool):Rv->Rv->FS->Out Rv
 | .t y,x,fs=>match U5 fs x y with
  | some o=>okT (.bl (if neg then !o.isSome else o.isSome)) fs
  | _=>.bad
 | _,_,_=>.bad
section
variable{X:Cx}{Z:Xp}{o i:Expr}{fo fi:FS->Out Rv}{pos:Pos}
end
def SX:List Str->List T->Str->Option T
 | f :: fs,t :: ts,g=>if g == f then some t else SX fs ts g
 | _,_,_=>none
def Em:List Str->List FO->Str->Option FO
 | f :: fs,t :: ts,g=>if g == f then some t else Em fs ts g
 | _,_,_=>none
def XT(C:Addr)(f:Str):Rv->FS->Out Rv
 | .t (.ins C' fs ts),st=>if C'=C then match SX fs ts f with
   | some t=>okT t st
   | none=>.bad
  else .bad
 | .rf i,st=>match Bg st i with
  | some (.ins C' fs os)=>if C'=C then match Em fs os f with
    | some (.val t)=>okT t st
    | _=>.bad
   else .bad
  | _=>.bad
 | _,_=>.bad
theorem LA{K:Fg}{F:Wd}{H:Hp}{g:Str}:∀{kvs:List (Str×V)} {ts:List T} {t:T},Aj K F H ts (kvs.map (·.2))->SX (kvs.map (·.1)) ts g=some t->∃v,kvs.lookup g=some v/\AM K F H t v
 | [],ts,t,r,e=>by cases ts <;> simp [SX] at e
 | (k,v) :: kvs,ts,t,r,e=>by
  cases ts with
  | nil=>simp [SX] at e
  | cons t' ts =>
   simp only [List.map_cons,Aj] at r;obtain⟨v',w',ee,r1,r2⟩:=r;cases ee;simp only [List.map_cons,SX] at e;rw [List.lookup_cons];cases hb:g == k with
   | true =>
    rw [hb] at e;cases e;exact⟨v,rfl,r1⟩
   | false =>
    rw [hb] at e;exact LA r2 (by simpa using e)
theorem Jz{K:Fg}{F:Wd}{H:Hp}{g:Str}:∀{kvs:List (Str×V)} {ts:List FO} {L:List Addr} {t:FO},AE K F H ts (kvs.map (·.2)) L->Em (kvs.map (·.1)) ts g=some t->∃v L',kvs.lookup g=some v/\AU K F H t v L'/\∀a∈L',a∈L
 | [],ts,L,t,r,e=>by cases ts <;> simp [Em] at e
 | (k,v) :: kvs,ts,L,t,r,e=>by
  cases ts with
  | nil=>simp [Em] at e
  | cons t' ts =>
   simp only [List.map_cons,AE] at r;obtain⟨v',w',L1,L2,ee,r1,r2,rfl⟩:=r;cases ee;simp only [List.map_cons,Em] at e;rw [List.lookup_cons];cases hb:g == k with
   | true =>
    rw [hb] at e;cases e;exact⟨v,L1,rfl,r1,fun a m=>List.mem_append_left _ m⟩
   | false =>
    rw [hb] at e;obtain⟨v2,L',h1,h2,h3⟩:=Jz r2 (by simpa using e);exact⟨v2,L',h1,h2,fun a m=>List.mem_append_right _ (h3 a m)⟩
def W5(C:Addr)(f:Str)(fo:FS->Out Rv):FS->Out Rv:=fun fs=>(fo fs).bnd fun x fs=>XT C f x fs
section
variable{X:Cx}{Z:Xp}{o:Expr}{fo:FS->Out Rv}{pos:Pos}{C:Addr}{f:Str}
theorem Ws(c:Cls X.K C)(n:El X.K C f)(ho:FE X Z o fo)(hb:attributeBase o f X.env (eval o X.env)=eval o X.env:=by rfl):FE X Z (.Attribute o f pos) (W5 C f fo):=by
 refine BN (LK ho hb) fun σ H Q ⟨F,B,fs,ok,s⟩=>⟨F,B,fs,ok,By s fun x fs1 F1 H1 u l ok1 rx s1=>?_⟩
 unfold XT at s1;split at s1
 ·rename_i C' gs ts
  split at s1
  ·rename_i hC
   subst hC;split at s1
   ·rename_i t e
    simp only [CT,AM] at rx;obtain⟨a,dx,kvs,rfl,ff,hd,rfl,r⟩:=rx;obtain⟨v,e1,rv⟩:=LA r e;exact⟨a,C',dx,kvs,v,rfl,hd,c,n,e1,s1 F1 H1 v Le.refl (RR.of ok1 rv)⟩
   ·exact s1.elim
  ·exact s1.elim
 ·rename_i i
  split at s1
  ·rename_i C' gs os eo
   split at s1
   ·rename_i hC
    subst hC;split at s1
    ·rename_i t e
     obtain⟨v,L2,e1,q,_⟩:=ok1.own eo;have e2:σ[i]?=some (some u):=rx;rw [e1] at e2;have e3:v=u:=by simpa using e2
     subst e3;simp only [AU] at q;obtain⟨a,dx,kvs,L',rfl,hd,rfl,r,_⟩:=q;obtain⟨v2,L3,e4,r4,_⟩:=Jz r e;simp only [AU] at r4;exact⟨a,C',dx,kvs,v2,rfl,hd,c,n,e4,s1 F1 H1 v2 Le.refl (RR.of ok1 r4.2)⟩
    ·exact s1.elim
   ·exact s1.elim
  ·exact s1.elim
 ·exact s1.elim
end
def FY(K:Fg)(Z:Xp)(B:Nat->Option V)(F:Wd)(H:Hp)(o:SO)(D:Ends):Prop:=match o with
 | .nx fs=>∀F' H' σ,Le F H F' H'->Okk K F' B H' fs σ->D.nx σ H'
 | .ret r fs=>∀F' H' σ u,Le F H F' H'->RR K B σ F' H' fs r u->D.rt u H'
 | .brk fs=>∀F' H' σ,Le F H F' H'->Okk K F' B H' fs σ->D.bk σ H'
 | .cnt fs=>∀F' H' σ,Le F H F' H'->Okk K F' B H' fs σ->D.ct σ H'
 | .exc c fs=>Z.p F B H c fs
 | .bad=>False
def tSt(K:Fg)(Z:Xp)(g:FS->SO):TS:=fun D σ H=>∃F B fs,Okk K F B H fs σ/\FY K Z B F H (g fs) D
def GS(X:Cx)(Z:Xp)(st:Stmt)(g:FS->SO):Prop:=PS X st (tSt X.K Z g)
def GSs(X:Cx)(Z:Xp)(sts:List Stmt)(g:FS->SO):Prop:=PSs X sts (tSt X.K Z g)
theorem FY.le{K:Fg}{Z:Xp}{B:Nat->Option V}{F F':Wd}{H H':Hp}{o:SO}{D:Ends}(h:FY K Z B F H o D)(l:Le F H F' H'):FY K Z B F' H' o D:=by
 cases o with
 | nx fs=>exact fun F2 H2 σ l2 k=>h F2 H2 σ (l.trans l2) k
 | ret r fs=>exact fun F2 H2 σ u l2 k=>h F2 H2 σ u (l.trans l2) k
 | brk fs=>exact fun F2 H2 σ l2 k=>h F2 H2 σ (l.trans l2) k
 | cnt fs=>exact fun F2 H2 σ l2 k=>h F2 H2 σ (l.trans l2) k
 | exc c fs=>exact Z.mono h l
 | bad=>exact h
def nxS:FS->SO:=fun fs=>.nx fs
def AL(g h:FS->SO):FS->SO:=fun fs=>match g fs with
 | .nx fs=>h fs
 | o=>o
def SO.of{α:Type}(o:Out α)(k:α->FS->SO):SO:=match o with
 | .ok a fs=>k a fs
 | .exc c fs=>.exc c fs
 | .bad=>.bad
theorem CV{K:Fg}{Z:Xp}{B:Nat->Option V}{F:Wd}{H:Hp}{α β:Type}{R:Wd->Hp->FS->α->β->Prop}{o:Out α}{k:α->FS->SO}{D:Ends}{Q:β->Hp->Prop}(h:FY K Z B F H (SO.of o k) D)
  (hk:∀a fs F' H' b,Le F H F' H'->R F' H' fs a b->FY K Z B F' H' (k a fs) D->Q b H'):sat Z B R F H o Q:=by
 cases o with
 | ok a fs=>exact fun F2 H2 b l r=>hk a fs F2 H2 b l r (FY.le h l)
 | exc c fs=>exact h
 | bad=>exact h
def NG(i:Nat)(r:Rv)(fs:FS):Option FS:=match r with
 | .t t=>some (fs.set i (some (.val t)))
 | .nw o=>some (fs.set i (some (.own o)))
 | .rf _=>none
def Jv(i:Nat)(r:Rv)(fs:FS):Option FS:=match fs[i]? with
 | none=>none
 | some (some (.bor _))=>none
 | some _=>NG i r fs
theorem KG{K:Fg}{B:Nat->Option V}{σ:St}{F:Wd}{H:Hp}{fs fs':FS}{r:Rv}{u:V}{i:Nat}(h:RR K B σ F H fs r u)(e:Jv i r fs=some fs'):Okk K F B H fs' (σ.set i (some u)):=by
 obtain⟨L,L',ok,q,nd,nf⟩:=h;have key:∀s:Option Sl,fs[i]?=some s->(∀o,s≠some (.bor o))->NG i r fs=some fs'->Okk K F B H fs' (σ.set i (some u)):=by
  intro s es hb e;obtain⟨v,L1,L2,L3,e1,rfl,h1,h2⟩:=ok.sl.pick es;have dis:∀a∈L',a∉L1++L3:=fun a m m2=>(List.nodup_append.mp nd).2.2 a (by
   rcases List.mem_append.mp m2 with m2 | m2
   ·simp [m2]
   ·simp [m2]) a m rfl
  have nf3:∀a∈L1++(L'++L3),¬ F a/\¬ F.p a:=fun a m=>by
   rcases List.mem_append.mp m with m | m
   ·exact⟨ok.nf a (by simp [m]),ok.pl a (by simp [m])⟩
   ·rcases List.mem_append.mp m with m | m
    ·exact nf a m
    ·exact⟨ok.nf a (by simp [m]),ok.pl a (by simp [m])⟩
  cases r with
  | t t =>
   cases e;obtain⟨rfl,q⟩:=q;refine⟨L1++([]++L3),h2 F H (some (.val t)) (some u) [] Le.refl (fun _ _=>rfl) ⟨u,rfl,q,rfl⟩,D3 ok.nd List.nodup_nil (fun _ m=>nomatch m),fun a m=>(nf3 a m).1,ok.fd,?_,ok.pd,ok.pf,fun a m=>(nf3 a m).2⟩;exact HK.put ok.bo (fun o eo=>by cases eo) ok.sl.len
  | nw o =>
   cases e;refine⟨L1++(L'++L3),h2 F H (some (.own o)) (some u) L' Le.refl (fun _ _=>rfl) ⟨u,rfl,q⟩,D3 ok.nd (List.nodup_append.mp nd).2.1 dis,fun a m=>(nf3 a m).1,ok.fd,?_,ok.pd,ok.pf,fun a m=>(nf3 a m).2⟩;exact HK.put ok.bo (fun o eo=>by cases eo) ok.sl.len
  | rf j=>cases e
 unfold Jv at e;split at e
 ·cases e
 ·cases e
 ·rename_i s hb es
  exact key s es (fun o z=>hb o z) e
def AS(i:Nat)(f:FS->Out Rv):FS->SO:=fun fs=>SO.of (f fs) fun r fs=>match Jv i r fs with
 | some fs=>.nx fs
 | none=>.bad
def Bq(f:FS->Out Rv):FS->SO:=fun fs=>SO.of (f fs) fun _ fs=>.nx fs
def retS(f:FS->Out Rv):FS->SO:=fun fs=>SO.of (f fs) fun r fs=>.ret r fs
def ifS(c:FS->Out Bool)(g h:FS->SO):FS->SO:=fun fs=>SO.of (c fs) fun b fs=>if b=true then g fs else h fs
section
variable{X:Cx}{Z:Xp}{st:Stmt}{rest a b:List Stmt}{e c:Expr}{f:FS->Out Rv}{fc:FS->Out Bool}{g h:FS->SO}{pos:Pos}
theorem AR:GSs X Z [] nxS:=Fc NH fun D σ H ⟨F,B,fs,ok,s⟩=>s F H σ Le.refl ok
theorem Ah(h1:GS X Z st g)(h2:GSs X Z rest h):GSs X Z (st :: rest) (AL g h):=by
 refine Fc (Fx h1 h2) fun D σ H ⟨F,B,fs,ok,s⟩=>⟨F,B,fs,ok,?_⟩
 unfold AL at s;cases e:g fs with
 | nx fs1 =>
  rw [e] at s;exact fun F1 H1 σ1 l k=>⟨F1,B,fs1,k,FY.le s l⟩
 | ret r fs1=>rw [e] at s;exact s
 | brk fs1=>rw [e] at s;exact s
 | cnt fs1=>rw [e] at s;exact s
 | exc c fs1=>rw [e] at s;exact s
 | bad=>rw [e] at s;exact s
theorem Ap(h1:GS X Z st g):GSs X Z [st] g:=Tg h1
theorem C0(he:FE X Z e f)(hs:swapsWith e none pos.line X.env=pure false:=by rfl):GS X Z (.Expr e pos) (Bq f) :=
 Dh (Th he hs) fun D σ H ⟨F,B,fs,ok,s⟩=>⟨F,B,fs,ok,CV s fun r fs1 F1 H1 u l q s1=>s1 F1 H1 σ Le.refl q.ok⟩
theorem Bn(he:FE X Z e f):GS X Z (.Return (some e) pos) (retS f) :=
 Dh (Vt he) fun D σ H ⟨F,B,fs,ok,s⟩=>⟨F,B,fs,ok,CV s fun r fs1 F1 H1 u l q s1=>s1 F1 H1 σ u Le.refl q⟩
theorem BZ(hc:FT X Z c fc)(ha:GSs X Z a g)(hb:GSs X Z b h):GS X Z (.If c a b pos) (ifS fc g h):=by
 refine Dh (Vu hc ha hb) fun D σ H ⟨F,B,fs,ok,s⟩=>⟨F,B,fs,ok,CV s fun r fs1 F1 H1 u l q s1=>?_⟩
 obtain⟨ok1,rfl⟩:=q;cases u with
 | true =>
  rw [if_pos rfl] at s1 ⊢;exact⟨F1,B,fs1,ok1,s1⟩
 | false =>
  rw [if_neg (by decide)] at s1 ⊢;exact⟨F1,B,fs1,ok1,s1⟩
theorem S9{i:Nat}{D:Ends}{σ:St}{H:Hp}{K:Fg}(s:tSt K Z (AS i f) D σ H):UW (tF K Z f) (Ra i) D σ H:=by
 obtain⟨F,B,fs,ok,s⟩:=s;refine⟨F,B,fs,ok,CV s fun r fs1 F1 H1 u l q s1=>?_⟩;split at s1
 ·rename_i fs2 e2
  exact s1 F1 H1 _ Le.refl (KG q e2)
 ·exact s1.elim
theorem AI(i:Nat){x:Str}{pos':Pos}(hN:X.N.Nodup)(hx:Loc X.env.scope x)(he:FE X Z e f)(hi:X.N[i]?=some x:=by rfl)(hs:swapsWith e (some (.Name x pos')) pos.line X.env=pure false:=by rfl)(hf:X.fn x=true∨X.env.scope.names.lookup x=some .local:=by first | exact .inl rfl | exact .inr rfl | assumption) :
  GS X Z (.Assign [.Name x pos'] e pos) (AS i f) :=
 Dh (R3 hN hi hx he hs hf) fun _ _ _ s=>S9 s
end
def tG(K:Fg)(gt:T->FS->Option FS):TG:=fun v σ H Q=>∃F B fs t,Okk K F B H fs σ/\AM K F H t v/\match gt t fs with
 | some fs'=>∀F' H' σ',Le F H F' H'->Okk K F' B H' fs' σ'->Q σ' H'
 | none=>False
def tGs(K:Fg)(gt:List T->FS->Option FS):TGs:=fun vs σ H Q=>∃F B fs ts,Okk K F B H fs σ/\Aj K F H ts vs/\match gt ts fs with
 | some fs'=>∀F' H' σ',Le F H F' H'->Okk K F' B H' fs' σ'->Q σ' H'
 | none=>False
def GT(X:Cx)(tg:Expr)(gt:T->FS->Option FS):Prop:=PG X tg (tG X.K gt)
def GTs(X:Cx)(tgs:List Expr)(gt:List T->FS->Option FS):Prop:=PGs X tgs (tGs X.K gt)
theorem R7{X:Cx}{e:Expr}{t t':TG}(h:PG X e t)(i:∀v σ H Q,t' v σ H Q->t v σ H Q):PG X e t':=fun pins s σ H v u Q I r q=>h pins s σ H v u Q I r (i _ _ _ _ q)
theorem NQ{X:Cx}{e:List Expr}{t t':TGs}(h:PGs X e t)(i:∀v σ H Q,t' v σ H Q->t v σ H Q):PGs X e t':=fun pins s σ H v u Q I r q=>h pins s σ H v u Q I r (i _ _ _ _ q)
def tgN(i:Nat):T->FS->Option FS:=fun t fs=>Jv i (.t t) fs
def A0:List T->FS->Option FS
 | [],fs=>some fs
 | _,_=>none
def An(g:T->FS->Option FS)(h:List T->FS->Option FS):List T->FS->Option FS
 | t :: ts,fs=>(g t fs).bind fun fs=>h ts fs
 | _,_=>none
def A3(n:Nat)(h:List T->FS->Option FS):T->FS->Option FS
 | .tup ts,fs=>if ts.length=n then h ts fs else none
 | _,_=>none
section
variable{X:Cx}{e:Expr}{es:List Expr}{g:T->FS->Option FS}{h:List T->FS->Option FS}{pos:Pos}
theorem AH(i:Nat){x:Str}(hN:X.N.Nodup)(hx:Loc X.env.scope x)(hi:X.N[i]?=some x:=by rfl)(hf:X.fn x=true∨X.env.scope.names.lookup x=some .local:=by first | exact .inl rfl | exact .inr rfl | assumption):GT X (.Name x pos) (tgN i):=by
 refine R7 (KN hN hi hx hf) fun v σ H Q ⟨F,B,fs,t,ok,r,s⟩=>?_
 split at s
 ·rename_i fs' e
  exact s F H _ Le.refl (KG (RR.of (r:=.t t) ok r) e)
 ·exact s.elim
theorem Dd:GTs X [] A0:=by
 refine NQ NP fun v σ H Q ⟨F,B,fs,ts,ok,r,s⟩=>?_
 cases ts with
 | nil=>exact⟨r,s F H σ Le.refl ok⟩
 | cons t ts=>exact s.elim
theorem A6(h1:GT X e g)(h2:GTs X es h)
  (hc:∀{t:TG} {u:TGs},PG X e t->PGs X es u->PGs X (e :: es) (Wi t u)):GTs X (e :: es) (An g h):=by
 refine NQ (hc h1 h2) fun v σ H Q ⟨F,B,fs,ts,ok,r,s⟩=>?_
 cases ts with
 | nil=>exact s.elim
 | cons t ts =>
  simp only [Aj] at r;obtain⟨v',w,rfl,r1,r2⟩:=r;refine⟨v',w,rfl,F,B,fs,t,ok,r1,?_⟩;simp only [An] at s;cases e1:g t fs with
  | none=>rw [e1] at s;exact s.elim
  | some fs1 =>
   rw [e1] at s;exact fun F1 H1 σ1 l k=>⟨F1,B,fs1,ts,k,r2.le l,by
    simp only [Option.bind_some] at s;split at s
    ·exact fun F2 H2 σ2 l2 k2=>s F2 H2 σ2 (l.trans l2) k2
    ·exact s.elim⟩
theorem Ek{k n:Nat}(hc:X.calm=true)(h1:GTs X es h)(hn:(assignEach es X.env).length=n:=by rfl)(hst:(assignEach es X.env).findIdx? (·.1)=none:=by rfl):GT X (.Tuple es k pos) (A3 n h):=by
 refine R7 (R6 hc h1 hn hst) fun v σ H Q ⟨F,B,fs,t,ok,r,s⟩=>?_
 unfold A3 at s;split at s
 ·rename_i fs' e
  split at e
  ·rename_i ts
   split at e
   ·rename_i hl
    simp only [AM] at r;obtain⟨a,vs,rfl,hs,r⟩:=r;refine⟨a,vs,rfl,hs.sq,by rw [r.len];exact hl,F,B,fs,ts,ok,r,?_⟩;rw [e];exact s
   ·cases e
  ·cases e
 ·exact s.elim
end
def SN(f:FS->Out Rv)(g:T->FS->Option FS):FS->SO:=fun fs=>SO.of (f fs) fun r fs=>match r with
 | .t t=>match g t fs with
  | some fs=>.nx fs
  | none=>.bad
 | _=>.bad
section
variable{X:Cx}{Z:Xp}{e tg:Expr}{f:FS->Out Rv}{g:T->FS->Option FS}{pos:Pos}
theorem Sm(he:FE X Z e f)(hg:GT X tg g)(hs:swapsWithSole [tg] e pos.line X.env=pure false:=by rfl)(hw:swappedStores [tg] e X.env=pure none:=by rfl)
  (h1:(assignEach [tg] X.env).map (·.2)=[assign tg X.env]:=by rfl):GS X Z (.Assign [tg] e pos) (SN f g):=by
 refine Dh (Gx he hg hs hw h1) fun D σ H ⟨F,B,fs,ok,s⟩=>⟨F,B,fs,ok,CV s fun r fs1 F1 H1 u l q s1=>?_⟩
 split at s1
 ·rename_i t
  obtain⟨L,L',o1,⟨_,q⟩,_⟩:=q;refine⟨F1,B,fs1,t,⟨L,o1⟩,q,?_⟩;split at s1
  ·rename_i fs2 e2
   exact fun F2 H2 σ2 l2 k2=>s1 F2 H2 σ2 l2 k2
  ·exact s1.elim
 ·exact s1.elim
end
def Nw(K:Fg)(F:Wd)(H:Hp)(F':Wd)(H':Hp):Prop:=Le F H F' H'/\∀B fs σ,Okk K F B H fs σ->Okk K F' B H' fs σ
theorem Nw.refl{K:Fg}{F:Wd}{H:Hp}:Nw K F H F H:=⟨Le.refl,fun _ _ _ h=>h⟩
def JOk(K:Fg)(F:Wd)(H:Hp)(J:It)(ts:List T):Prop:=∀(F':Wd) (H':Hp),(∀a,F a->F' a/\H' a=H a)->(∃B fs σ,Okk K F' B H' fs σ)->∀i,(∀t,ts[i]?=some t->J.go i H'/\∀x H'',J.yld i H' x H''->∃F'',Nw K F' H' F'' H''/\AM K F'' H'' t x)/\(ts.length<=i->J.stop i H')
theorem JOk.within{K:Fg}{F:Wd}{p:Addr->Prop}{H:Hp}{J:It}{ts:List T}(h:JOk K F H J ts):JOk K ⟨F.f,p⟩ H J ts:=fun F2 H2 l2=>h F2 H2 l2
theorem Aj.lf{K:Fg}{F F':Wd}{H H':Hp}{ts:List T}{vs:List V}(l:∀a,F a->F' a/\H' a=H a)(r:Aj K F H ts vs):Aj K F' H' ts vs :=
 Aj.le (F:=⟨F.f,fun _=>False⟩) ⟨l,fun _ z=>z.elim⟩ (Aj.wp r)
theorem StL.lf{K:Fg}{F F':Wd}{H H':Hp}{a:Addr}{vs:List V}(l:∀a,F a->F' a/\H' a=H a)(r:StL K F H a vs):StL K F' H' a vs:=by
 rcases r with⟨f,h⟩ | h
 ·exact .inl ⟨(l a f).1,FL.Rd.same h (l a f).2⟩
 ·exact .inr h
theorem stays{K:Fg}{F:Wd}{H H':Hp}{t:T}{x:V}(e:H'=H)(r:AM K F H t x):∃F',Nw K F H F' H'/\AM K F' H' t x:=by subst e;exact⟨F,Nw.refl,r⟩
def RJ(K:Fg)(B:Nat->Option V)(σ:St):Wd->Hp->FS->List T->It->Prop:=fun F H fs ts J=>Okk K F B H fs σ/\JOk K F H J ts
def tI(K:Fg)(Z:Xp)(f:FS->Out (List T)):TI:=fun σ H R=>∃F B fs,Okk K F B H fs σ/\sat Z B (RJ K B σ) F H (f fs) R
def FI(X:Cx)(Z:Xp)(tg iter:Expr)(f:FS->Out (List T)):Prop:=PI X tg iter (tI X.K Z f)
theorem NO{X:Cx}{tg e:Expr}{t t':TI}(h:PI X tg e t)(i:∀σ H Q,t' σ H Q->t σ H Q):PI X tg e t':=fun pins s σ H Q I q=>h pins s σ H Q I (i _ _ _ q)
def signs(z:Str):List T:=z.cps.toList.map fun c=>T.str ⟨#[c]⟩
def upTo(lo:Int)(n:Nat):List T:=(List.range n).map fun i=>T.int (lo+(i:Nat))
def P4(lo st:Int)(n:Nat):List T:=(List.range n).map fun i=>T.int (lo+(i:Nat) * st)
def Fe(f:FS->Out (List Rv)):FS->Out (List T):=fun fs=>(f fs).bind fun rs fs=>match rs with
 | [.t (.int j)]=>if -(2 ^ 62)<=j/\j < 2 ^ 62 then .ok (upTo 0 j.toNat) fs else .bad
 | _=>.bad
def QV(f:FS->Out (List Rv)):FS->Out (List T):=fun fs=>(f fs).bind fun rs fs=>match rs with
 | [.t (.int i),.t (.int j),.t (.int c)]=>if 0 < c/\c < 1073741824/\Builtin.Range.small i j c=true/\0<=Builtin.Range.rangeSize i j c then .ok (P4 i c (Builtin.Range.rangeSize i j c).toNat) fs else .bad
 | _=>.bad
section
variable{X:Cx}{Z:Xp}{tg l a b c:Expr}{f:FS->Out Rv}{fa:FS->Out (List Rv)}{p pos:Pos}{K:Fg}{F:Wd}{H:Hp}
theorem LS{a:Addr}{vs:List V}{ts:List T}(hs:∀(F':Wd) H',(∀a,F a->F' a/\H' a=H a)->SqL K H' a vs)(r:Aj K F H ts vs):JOk K F H (Itl K a) ts:=by
 intro F' H' l _ i;have r':=Aj.lf l r;refine⟨fun t et=>?_,fun hl=>⟨vs,hs F' H' l,by rw [r.len];exact hl⟩⟩;obtain⟨v,ev,rv⟩:=r'.at et;refine⟨⟨vs,v,hs F' H' l,ev⟩,fun x H'' hy=>stays hy.1 ?_⟩;have:=hy.2 vs (hs F' H' l);rw [ev] at this;cases this;exact rv
theorem T7{a:Addr}{vs:List V}{ts:List T}(hs:∀(F':Wd) H',(∀a,F a->F' a/\H' a=H a)->SqT K H' a vs)(r:Aj K F H ts vs):JOk K F H (Itt K a) ts:=by
 intro F' H' l _ i;have r':=Aj.lf l r;refine⟨fun t et=>?_,fun hl=>⟨vs,hs F' H' l,by rw [r.len];exact hl⟩⟩;obtain⟨v,ev,rv⟩:=r'.at et;refine⟨⟨vs,v,hs F' H' l,ev⟩,fun x H'' hy=>stays hy.1 ?_⟩;have:=hy.2 vs (hs F' H' l);rw [ev] at this;cases this;exact rv
theorem Ox{lo:Int}{n:Nat}:JOk K F H (Itr lo n) (upTo lo n):=by
 intro F' H' l _ i;refine⟨fun t et=>?_,fun hl=>by unfold upTo at hl;simpa [Itr] using hl⟩;unfold upTo at et;rw [List.getElem?_map] at et;have hi:i < n:=by
  by_cases h:i < n
  ·exact h
  ·rw [List.getElem?_eq_none (by simpa using h)] at et;cases et
 rw [List.getElem?_range hi] at et;cases et;exact⟨hi,fun x H'' hy=>stays hy.1 hy.2⟩
theorem MS{lo st:Int}{n:Nat}:JOk K F H (Xa lo st n) (P4 lo st n):=by
 intro F' H' l _ i;refine⟨fun t et=>?_,fun hl=>by unfold P4 at hl;simpa [Xa] using hl⟩;unfold P4 at et;rw [List.getElem?_map] at et;have hi:i < n:=by
  by_cases h:i < n
  ·exact h
  ·rw [List.getElem?_eq_none (by simpa using h)] at et;cases et
 rw [List.getElem?_range hi] at et;cases et;exact⟨hi,fun x H'' hy=>stays hy.1 hy.2⟩
theorem T8{z:Str}:JOk K F H (Its z) (signs z):=by
 intro F' H' l _ i;refine⟨fun t et=>?_,fun hl=>by unfold signs at hl;simpa [Its] using hl⟩;unfold signs at et;rw [List.getElem?_map,Option.map_eq_some_iff] at et;obtain⟨c,ec,rfl⟩:=et;have hi:i < z.cps.size:=by
  have:=(List.getElem?_eq_some_iff.mp ec).1;simpa using this
 refine⟨hi,fun x H'' hy=>stays hy.1 ?_⟩;obtain⟨c',e1,e2⟩:=hy.2;rw [Array.getElem?_toList] at ec;rw [ec] at e1;cases e1;exact e2
theorem Cg(hm:X.mg "range"=none)(ha:FA X Z [a] fa)(hg:Gl X "range":=by rfl)(hs:starEach [a] X.env=[(false,eval a X.env)]:=by rfl):FI X Z tg (.Call (.Name "range" p) [a] [] pos) (Fe fa):=by
 refine NO (NN hg hm ha hs) fun σ H Q ⟨F,B,fs,ok,s⟩=>⟨F,B,fs,ok,A5 s fun rs fs1 F1 H1 us l q s1=>?_⟩
 obtain⟨ok1,q⟩:=q;split at s1
 ·rename_i j
  split at s1
  ·rename_i hj
   obtain⟨v,rfl,qq⟩:=Cf q;have q:=qq;cases q;exact⟨j,rfl,hj.1,hj.2,s1 F1 H1 _ Le.refl ⟨ok1,Ox⟩⟩
  ·exact s1.elim
 ·exact s1.elim
theorem Kc(ha:FA X Z [a,b,c] fa)
  (h:∀{ta:TA},PA X [a,b,c] ta->PI X tg (.Call (.Name "range" p) [a,b,c] [] pos) (Wc ta)):FI X Z tg (.Call (.Name "range" p) [a,b,c] [] pos) (QV fa):=by
 refine NO (h ha) fun σ H Q ⟨F,B,fs,ok,s⟩=>⟨F,B,fs,ok,A5 s fun rs fs1 F1 H1 us l q s1=>?_⟩
 obtain⟨ok1,q⟩:=q;split at s1
 ·rename_i i j k
  split at s1
  ·rename_i hj
   obtain⟨v,w,rfl,q1,v2,w2,rfl,q2,v3,w3,rfl,q3,q4⟩:=q;cases q1;cases q2;cases q3;cases q4;exact⟨i,j,k,rfl,hj.1,hj.2.1,hj.2.2.1,hj.2.2.2,s1 F1 H1 _ Le.refl ⟨ok1,MS⟩⟩
  ·exact s1.elim
 ·exact s1.elim
end
def Dk(gt:T->FS->Option FS)(body:FS->SO):List T->FS->SO
 | [],fs=>.nx fs
 | t :: ts,fs=>match gt t fs with
  | none=>.bad
  | some fs=>match body fs with
   | .nx fs=>Dk gt body ts fs
   | .cnt fs=>Dk gt body ts fs
   | .brk fs=>.nx fs
   | o=>o
def Eg(src:FS->Out (List T))(gt:T->FS->Option FS)(body:FS->SO):FS->SO:=fun fs=>SO.of (src fs) fun ts fs=>Dk gt body ts fs
section
variable{X:Cx}{Z:Xp}{tg iter c:Expr}{src:FS->Out (List T)}{gt:T->FS->Option FS}{g:FS->SO}{body:List Stmt}{pos:Pos}{fc:FS->Out Bool}
theorem DE(hp:PassesOwn (model X.prog X.w) X.A X.env X.xe)(hc:X.calm=true)(hi:FI X Z tg iter src)(hg:GT X tg gt)(hb:GSs X Z body g)
  (hs:∀x,foldedSetIterable iter X.env x=pure x:=by intro _;rfl):GS X Z (.For tg iter body [] pos) (Eg src gt g):=by
 refine Dh (Vv hp hc hi hg hb hs) fun D σ H ⟨F,B,fs,ok,s⟩=>⟨F,B,fs,ok,CV s fun ts fs1 F1 H1 J l q s1=>?_⟩
 obtain⟨ok1,jk⟩:=q;refine⟨fun i m σ H=>m=ts.length - i/\∃F' fs',Le F1 H1 F' H/\Okk X.K F' B H fs' σ/\FY X.K Z B F' H (Dk gt g (ts.drop i) fs') D,⟨ts.length,rfl,F1,fs1,Le.refl,ok1,s1⟩,?_⟩
 rintro i m σ H ⟨rfl,F2,fs2,l2,ok2,s2⟩
 by_cases hi:i < ts.length
 ·refine .inr ?_
  have ei:ts[i]?=some ts[i]:=List.getElem?_eq_getElem hi;have ed:ts.drop i=ts[i] :: ts.drop (i+1):=List.drop_eq_getElem_cons hi;rw [ed] at s2;obtain⟨j1,j2⟩:=(jk F2 H l2.f ⟨_,_,_,ok2⟩ i).1 _ ei;refine⟨j1,fun σ' H'=>∃F' fs',Le F1 H1 F' H'/\Okk X.K F' B H' fs' σ'/\FY X.K Z B F' H' (Dk gt g (ts.drop (i+1)) fs') D,fun σ' H' h=>⟨ts.length - (i+1),by omega,rfl,h⟩,fun x H' hy=>?_⟩;obtain⟨F2',⟨l22,nw⟩,rx⟩:=j2 x H' hy;replace l2:=l2.trans l22;replace s2:=FY.le s2 l22;replace ok2:=nw _ _ _ ok2;refine⟨F2',B,fs2,ts[i],ok2,rx,?_⟩;simp only [Dk] at s2;cases eg:gt ts[i] fs2 with
  | none=>rw [eg] at s2;exact s2.elim
  | some fs3 =>
   rw [eg] at s2;intro F3 H3 σ3 l3 ok3;refine⟨F3,B,fs3,ok3,?_⟩;have s3:=FY.le s2 l3;simp only at s3;cases eb:g fs3 with
   | nx fs4 =>
    rw [eb] at s3;exact fun F4 H4 σ4 l4 ok4=>⟨F4,fs4,(l2.trans l3).trans l4,ok4,FY.le s3 l4⟩
   | cnt fs4 =>
    rw [eb] at s3;exact fun F4 H4 σ4 l4 ok4=>⟨F4,fs4,(l2.trans l3).trans l4,ok4,FY.le s3 l4⟩
   | brk fs4=>rw [eb] at s3;exact s3
   | ret r fs4=>rw [eb] at s3;exact s3
   | exc c fs4=>rw [eb] at s3;exact s3
   | bad=>rw [eb] at s3;exact s3
 ·refine .inl ⟨(jk F2 H l2.f ⟨_,_,_,ok2⟩ i).2 (by omega),?_⟩
  rw [List.drop_eq_nil_of_le (by omega)] at s2;exact s2 F2 H σ Le.refl ok2
end
section
variable{K:Fg}{F F':Wd}{H H':Hp}{B:Nat->Option V}{fs:FS}{σ:St}{L:List Addr}
theorem AG.toP:∀{fs:FS} {σ:St} {L:List Addr},AG K F H fs σ L->∃ℓ:Nat->List Addr,(∀i s,fs[i]?=some s->∃v,σ[i]?=some v/\Jw K F H s v (ℓ i))/\(∀i a,a∈ℓ i->a∈L) /\
  (L.Nodup->(∀i,(ℓ i).Nodup)/\∀i j a,i≠j->a∈ℓ i->a∉ℓ j)/\∀i,fs.length<=i->ℓ i=[]
 | [],σ,L,h=>⟨fun _=>[],(fun i s e=>by simp at e),(fun i a m=>nomatch m),(fun _=>⟨fun _=>List.nodup_nil,(fun _ _ _ _ m=>nomatch m)⟩),fun _ _=>rfl⟩
 | s :: r,σ,L,h=>by
  obtain⟨v,σ',L1,L2,rfl,h1,h2,rfl⟩:=h.HZ;obtain⟨ℓ,q1,q2,q3,q4⟩:=AG.toP h2;refine⟨fun i=>match i with | 0=>L1 | i+1=>ℓ i,fun i s' e=>?_,fun i a m=>?_,fun nd=>?_,fun i hi=>?_⟩
  ·cases i with
   | zero =>
    simp at e;subst e;exact⟨v,rfl,h1⟩
   | succ i =>
    obtain⟨w,e1,e2⟩:=q1 i s' (by simpa using e);exact⟨w,by simpa using e1,e2⟩
  ·cases i with
   | zero=>exact List.mem_append_left _ m
   | succ i=>exact List.mem_append_right _ (q2 i a m)
  ·rw [List.nodup_append] at nd
   obtain⟨n1,n2,n3⟩:=nd;obtain⟨m1,m2⟩:=q3 n2;refine⟨fun i=>?_,fun i j a hij hi hj=>?_⟩
   ·cases i with
    | zero=>exact n1
    | succ i=>exact m1 i
   ·cases i with
    | zero =>
     cases j with
     | zero=>exact hij rfl
     | succ j=>exact n3 a hi a (q2 j a hj) rfl
    | succ i =>
     cases j with
     | zero=>exact n3 a hj a (q2 i a hi) rfl
     | succ j=>exact m2 i j a (fun e=>hij (by rw [e])) hi hj
  ·cases i with
   | zero=>simp at hi
   | succ i=>exact q4 i (by simpa using hi)
theorem AG.ofP:∀{fs:FS} {σ:St} (ℓ:Nat->List Addr),σ.length=fs.length->(∀i s,fs[i]?=some s->∃v,σ[i]?=some v/\Jw K F H s v (ℓ i))->(∀i,(ℓ i).Nodup)->(∀i j a,i≠j->a∈ℓ i->a∉ℓ j) ->
  ∃L,AG K F H fs σ L/\L.Nodup/\∀a∈L,∃i,i < fs.length/\a∈ℓ i
 | [],σ,ℓ,hl,h,nd,dj=>by
  have:σ=[]:=List.eq_nil_of_length_eq_zero (by simpa using hl);subst this;exact⟨[],⟨rfl,rfl⟩,List.nodup_nil,fun _ m=>nomatch m⟩
 | s :: r,[],ℓ,hl,h,nd,dj=>by simp at hl
 | s :: r,v :: σ,ℓ,hl,h,nd,dj=>by
  obtain⟨L,h1,h2,h3⟩:=AG.ofP (fs:=r) (σ:=σ) (fun i=>ℓ (i+1)) (by simpa using hl) (fun i s' e=>by
   obtain⟨w,e1,e2⟩:=h (i+1) s' (by simpa using e);exact⟨w,by simpa using e1,e2⟩) (fun i=>nd (i+1)) (fun i j a hij=>dj (i+1) (j+1) a (by omega))
  obtain⟨w,e1,e2⟩:=h 0 s rfl;simp at e1;subst e1;refine⟨ℓ 0++L,AG.cons e2 h1,?_,fun a m=>?_⟩
  ·rw [List.nodup_append]
   refine⟨nd 0,h2,fun a ha b hb e=>?_⟩;obtain⟨i,_,hi⟩:=h3 b hb;exact dj 0 (i+1) a (by omega) ha (by rw [e];exact hi)
  ·rcases List.mem_append.mp m with m | m
   ·exact⟨0,by simp,m⟩
   ·obtain⟨i,hi,q⟩:=h3 a m
    exact⟨i+1,by simp;exact hi,q⟩
theorem Ok.take(h:Ok K F B H fs σ L)(n:Nat):∃L',Ok K F B H (fs.take n) (σ.take n) L'/\∀a∈L',a∈L:=by
 obtain⟨ℓ,q1,q2,q3,q4⟩:=h.sl.toP;obtain⟨n1,n2⟩:=q3 h.nd;have hl:(σ.take n).length=(fs.take n).length:=by rw [List.length_take,List.length_take,h.sl.len]
 obtain⟨L',p1,p2,p3⟩:=AG.ofP (K:=K) (F:=F) (H:=H) (fs:=fs.take n) (σ:=σ.take n) ℓ hl (fun i s e=>by
  have hi:i < n:=by
   have:=(List.getElem?_eq_some_iff.mp e).1;rw [List.length_take] at this;omega
  rw [List.getElem?_take_of_lt hi] at e ⊢;exact q1 i s e) n1 n2
 have sub:∀a∈L',a∈L:=fun a m=>let⟨i,_,q⟩:=p3 a m;q2 i a q
 refine⟨L',⟨p1,p2,fun a m=>h.nf a (sub a m),h.fd,fun i o e=>?_,h.pd,h.pf,fun a m=>h.pl a (sub a m)⟩,sub⟩;have hi:i < n:=by
  have:=(List.getElem?_eq_some_iff.mp e).1;rw [List.length_take] at this;omega
 rw [List.getElem?_take_of_lt hi] at e ⊢;exact h.bo i o e
theorem RR.take{r:Rv}{u:V}(h:RR K B σ F H fs r u)(n:Nat)(hr:∀i,r≠.rf i):RR K B (σ.take n) F H (fs.take n) r u:=by
 obtain⟨L,L',ok,q,nd,nf⟩:=h;obtain⟨L2,ok2,sub⟩:=ok.take n;refine⟨L2,L',ok2,?_,?_,nf⟩
 ·cases r with
  | t t=>exact q
  | nw o=>exact q
  | rf i=>exact(hr i rfl).elim
 ·rw [List.nodup_append] at nd ⊢
  exact⟨ok2.nd,nd.2.1,fun a ha b hb=>nd.2.2 a (sub a ha) b hb⟩
theorem Ok.more(h:Ok K F B H fs σ L)(n:Nat):Ok K F B H (fs++List.replicate n none) (σ++List.replicate n none) L:=by
 have key:∀n:Nat,AG K F H (List.replicate n none) (List.replicate n none) []:=by
  intro n
  induction n with
  | zero=>exact⟨rfl,rfl⟩
  | succ n ih =>
   rw [List.replicate_succ,List.replicate_succ];simp only [AG];exact⟨none,_,rfl,ih⟩
 have app:∀{fs gs:FS} {σ τ:St} {L M:List Addr},AG K F H fs σ L->AG K F H gs τ M->AG K F H (fs++gs) (σ++τ) (L++M):=by
  intro fs
  induction fs with
  | nil =>
   intro gs σ τ L M h1 h2;simp only [AG] at h1;obtain⟨rfl,rfl⟩:=h1;exact h2
  | cons s r ih =>
   intro gs σ τ L M h1 h2;obtain⟨v,σ',L1,L2,rfl,q1,q2,rfl⟩:=h1.HZ;have:=AG.cons q1 (ih q2 h2);simpa using this
 refine⟨by simpa using app h.sl (key n),h.nd,h.nf,h.fd,fun i o e=>?_,h.pd,h.pf,h.pl⟩;by_cases hi:i < fs.length
 ·rw [List.getElem?_append_left hi] at e
  obtain⟨v,e1,e2⟩:=h.bo i o e;exact⟨v,by rw [List.getElem?_append_left (by rw [h.sl.len];exact hi)];exact e1,e2⟩
 ·rw [List.getElem?_append_right (by omega)] at e
  have:=List.mem_of_getElem? e;simp at this
theorem RR.mv{u:V}{i:Nat}{o:FO}(q:RR K B σ F H fs (.rf i) u)(es:fs[i]?=some (some (.own o))):RR K B σ F H (fs.set i none) (.nw o) u:=by
 obtain⟨L,L',o1,⟨_,q⟩,nd,nf⟩:=q;obtain⟨v,L1,L2,L3,e1,rfl,h1,h2⟩:=o1.sl.pick es;obtain⟨w,rfl,q2⟩:=h1;rw [e1] at q;have eu:w=u:=by simpa using q
 subst eu;have h3:=h2 F H none (some w) [] Le.refl (fun _ _=>rfl) rfl;rw [DN e1] at h3;have nd1:=o1.nd;refine⟨L1++([]++L3),L2,⟨h3,D3 nd1 List.nodup_nil (fun _ m=>nomatch m),fun a m=>o1.nf a ?_,o1.fd,?_,o1.pd,o1.pf,fun a m=>o1.pl a ?_⟩,q2,?_,fun a m=>⟨o1.nf a (by simp [m]),o1.pl a (by simp [m])⟩⟩
 ·have m':a∈L1∨a∈L3:=by simpa using m
  rcases m' with m | m <;> simp [m]
 ·have:=HK.put (i:=i) (s:=none) (v:=some w) o1.bo (fun o eo=>by cases eo) o1.sl.len
  rwa [DN e1] at this
 ·have m':a∈L1∨a∈L3:=by simpa using m
  rcases m' with m | m <;> simp [m]
 ·have p:(L1++(L2++L3)).Perm ((L1++([]++L3))++L2):=by
   rw [List.nil_append,List.append_assoc];exact List.Perm.append_left _ List.perm_append_comm
  exact p.nodup_iff.mp nd1
end
inductive Ini where
 | no | val (t:T) | slot (j:Nat) | new (o:FO)
def V8(fs:FS):Ini->Option Sl
 | .no=>none
 | .val t=>some (.val t)
 | .new o=>some (.bor o)
 | .slot j=>match fs[j]? with
  | some (some (.val t))=>some (.val t)
  | some (some (.own o))=>some (.bor o)
  | some (some (.bor o))=>some (.bor o)
  | _=>none
def Dp(fs:FS)(is:List Ini):FS:=is.map (V8 fs)
def Di(fs:FS):Ini->Option Nat
 | .slot j=>if(Bg fs j).isSome=true then some j else none
 | _=>none
def CG(fs:FS)(is:List Ini):List Nat:=is.filterMap (Di fs)
def placeOf(fs:FS)(j:Nat):List Ini->Nat->Option Nat
 | [],_=>none
 | i :: r,k=>if Di fs i=some j then some k else placeOf fs j r (k+1)
def PR(fs:FS)(is:List Ini)(τ:FS)(j:Nat)(s:Option Sl):Option (Option Sl):=match placeOf fs j is 0 with
 | none=>some s
 | some k=>match τ[k]?,s with
  | some (some (.bor o)),some s=>some (some (s.put o))
  | _,_=>none
def Lu(fs:FS)(is:List Ini)(τ:FS):Nat->FS->Option FS
 | _,[]=>some []
 | j,s :: r=>match PR fs is τ j s,Lu fs is τ (j+1) r with
  | some s',some r'=>some (s' :: r')
  | _,_=>none
def En(is:List Ini)(τ fs:FS):Option FS:=Lu fs is τ 0 fs
theorem placeOf_some{fs:FS}{j:Nat}:∀{is:List Ini} {k k':Nat},placeOf fs j is k=some k'->k<=k'/\∃i,is[k' - k]?=some i/\Di fs i=some j
 | [],_,_,e=>by simp [placeOf] at e
 | i :: r,k,k',e=>by
  simp only [placeOf] at e;split at e
  ·rename_i h
   cases e;exact⟨Nat.le_refl _,i,by simp,h⟩
  ·obtain⟨h1,i',h2,h3⟩:=placeOf_some e
   refine⟨by omega,i',?_,h3⟩;rw [show k' - k=(k' - (k+1))+1 by omega];simpa using h2
theorem placeOf_none{fs:FS}{j:Nat}:∀{is:List Ini} {k:Nat},placeOf fs j is k=none->j∉CG fs is
 | [],_,_,h=>by simp [CG] at h
 | i :: r,k,e,h=>by
  simp only [placeOf] at e;split at e
  ·cases e
  ·rename_i hn
   unfold CG at h;rw [List.filterMap_cons] at h;cases q:Di fs i with
   | none =>
    rw [q] at h;exact placeOf_none e h
   | some j' =>
    rw [q] at h;rcases List.mem_cons.mp h with h | h
    ·exact hn (by rw [q,h])
    ·exact placeOf_none e h
theorem J5{fs:FS}:∀{is:List Ini} {k k':Nat} {i i':Ini} {j:Nat},(CG fs is).Nodup->is[k]?=some i->is[k']?=some i'->Di fs i=some j->Di fs i'=some j->k=k'
 | [],_,_,_,_,_,_,e,_,_,_=>by simp at e
 | i0 :: r,k,k',i,i',j,nd,e,e',h,h'=>by
  have mem:∀{m:Nat} {x:Ini},r[m]?=some x->Di fs x=some j->j∈CG fs r:=fun hm hx=>List.mem_filterMap.mpr ⟨_,List.mem_of_getElem? hm,hx⟩
  unfold CG at nd;rw [List.filterMap_cons] at nd;cases k with
  | zero =>
   simp at e;subst e;rw [h] at nd;have nd':(j :: CG fs r).Nodup:=nd;cases k' with
   | zero=>rfl
   | succ k'=>exact((List.nodup_cons.mp nd').1 (mem (by simpa using e') h')).elim
  | succ k =>
   cases k' with
   | zero =>
    simp at e';subst e';rw [h'] at nd;have nd':(j :: CG fs r).Nodup:=nd;exact((List.nodup_cons.mp nd').1 (mem (by simpa using e) h)).elim
   | succ k' =>
    have nd':(CG fs r).Nodup:=by
     cases q:Di fs i0 with
     | none=>rw [q] at nd;exact nd
     | some j'=>rw [q] at nd;exact(List.nodup_cons.mp nd).2
    exact congrArg (·+1) (J5 (k:=k) (k':=k') nd' (by simpa using e) (by simpa using e') h h')
theorem Mp{fs:FS}{is:List Ini}{τ:FS}:∀{r r':FS} {j:Nat},Lu fs is τ j r=some r'->r'.length=r.length/\∀i s,r[i]?=some s->∃s',r'[i]?=some s'/\PR fs is τ (j+i) s=some s'
 | [],_,_,e=>by
  simp only [Lu] at e;cases e;exact⟨rfl,fun i s q=>by simp at q⟩
 | s :: r,_,j,e=>by
  simp only [Lu] at e;split at e
  ·rename_i s' r' h1 h2
   cases e;obtain⟨q1,q2⟩:=Mp h2;refine⟨by simp [q1],fun i s0 q=>?_⟩;cases i with
   | zero =>
    simp at q;subst q;exact⟨s',rfl,h1⟩
   | succ i =>
    obtain⟨s1,e1,e2⟩:=q2 i s0 (by simpa using q);exact⟨s1,by simpa using e1,by rw [show j+(i+1)=j+1+i by omega];exact e2⟩
  ·cases e
def US(K:Fg)(F:Wd)(H:Hp)(σ:St)(i:Ini)(v:Option V)(M:List Addr):Prop:=match i with
 | .no=>True
 | .val t=>∃u,v=some u/\AM K F H t u
 | .slot j=>σ[j]?=some v
 | .new o=>∃u,v=some u/\AU K F H o u M
structure Mu(F:Wd)(H:Hp)(L:List Addr)(μ:Nat->List Addr):Prop where
 out:∀k a,a∈μ k->¬ F a/\¬ F.p a/\a∉L/\H a≠none
 nd:∀k,(μ k).Nodup
 dj:∀k k' a,k≠k'->a∈μ k->a∉μ k'
theorem Mu.no{F:Wd}{H:Hp}{L:List Addr}:Mu F H L (fun _=>[]):=⟨(fun _ _ m=>nomatch m),fun _=>List.nodup_nil,(fun _ _ _ _ m=>nomatch m)⟩
theorem lend{K:Fg}{F:Wd}{H:Hp}{B:Nat->Option V}{fs:FS}{σ σi:St}{is:List Ini}{L:List Addr}{μ:Nat->List Addr}(ok:Ok K F B H fs σ L)(hl:σi.length=is.length)(hi:∀(k:Nat) (i:Ini) (v:Option V),is[k]?=some i->σi[k]?=some v->US K F H σ i v (μ k))(nd:(CG fs is).Nodup)(hμ:Mu F H L μ) :
  ∃P:Addr->Prop,(∀a,F.p a->P a)/\Okk K ⟨F.f,P⟩ (fun k=>(σi[k]?).join) H (Dp fs is) σi/\(∀a,P a->H a≠none) /\
   ∀(F2:Wd) (H2:Hp) (τ:FS) (σ2:St) (Li:List Addr) (fs':FS),Le ⟨F.f,P⟩ H F2 H2->Ok K F2 (fun k=>(σi[k]?).join) H2 τ σ2 Li->En is τ fs=some fs' ->
    Le F H ⟨F2.f,F.p⟩ H2/\∃L,Ok K ⟨F2.f,F.p⟩ B H2 fs' σ L/\∀a∈L,a∈Li∨P a:=by
 obtain⟨ℓ,q1,q2,q3,q4⟩:=ok.sl.toP;obtain⟨n1,n2⟩:=q3 ok.nd;have objSl:∀j,(Bg fs j).isSome=true->∃o s,Bg fs j=some o/\fs[j]?=some (some s)/\(s=.own o∨s=.bor o):=by
  intro j hj;unfold Bg at hj ⊢;split at hj
  ·rename_i o es
   exact⟨o,_,rfl,es,.inl rfl⟩
  ·rename_i o es
   exact⟨o,_,rfl,es,.inr rfl⟩
  ·cases hj
 refine⟨fun a=>F.p a∨∃j,a∈ℓ j/\j∉CG fs is,fun a p=>.inl p,?_,fun a p=>?_,?_⟩
 ·
  obtain⟨L',p1,p2,p3⟩:=AG.ofP (K:=K) (F:=⟨F.f,fun a=>F.p a∨∃j,a∈ℓ j/\j∉CG fs is⟩) (H:=H) (fs:=Dp fs is) (σ:=σi) (fun k=>match is[k]? with | some i=>(match Di fs i with | some j=>ℓ j | none=>(match i with | .new _=>μ k | _=>[])) | none=>[]) (by unfold Dp;rw [List.length_map];exact hl)
   (fun k s e=>by
    unfold Dp at e;rw [List.getElem?_map,Option.map_eq_some_iff] at e;obtain⟨i,ei,rfl⟩:=e;have hk:k < σi.length:=by rw [hl];exact(List.getElem?_eq_some_iff.mp ei).1
    refine⟨σi[k],List.getElem?_eq_getElem hk,?_⟩;have io:=hi k i _ ei (List.getElem?_eq_getElem hk);simp only [ei];have lw:∀(t:T) (u:V),AM K F H t u->AM K ⟨F.f,fun a=>F.p a∨∃j,a∈ℓ j/\j∉CG fs is⟩ H t u:=fun t u r=>AM.wp r
    cases i with
    | no=>rfl
    | val t =>
     obtain⟨u,eu,r⟩:=io;exact⟨u,eu,lw t u r,rfl⟩
    | new o =>
     obtain⟨u,eu,r⟩:=io;exact⟨u,eu,AU.wp r⟩
    | slot j =>
     have ej:σ[j]?=some σi[k]:=io;simp only [V8,Di];cases es:fs[j]? with
     | none =>
      have:Bg fs j=none:=by unfold Bg;rw [es]
      rw [this];rfl
     | some s =>
      obtain⟨v,e1,e2⟩:=q1 j s es;rw [ej] at e1;cases e1;cases s with
      | none =>
       have:Bg fs j=none:=by unfold Bg;rw [es]
       rw [this];rfl
      | some s =>
       cases s with
       | val t =>
        have:Bg fs j=none:=by unfold Bg;rw [es]
        rw [this];obtain⟨u,eu,r,_⟩:=e2;exact⟨u,eu,lw t u r,rfl⟩
       | own o =>
        have:Bg fs j=some o:=by unfold Bg;rw [es]
        rw [this];obtain⟨u,eu,r⟩:=e2;exact⟨u,eu,AU.wp r⟩
       | bor o =>
        have:Bg fs j=some o:=by unfold Bg;rw [es]
        rw [this];obtain⟨u,eu,r⟩:=e2;exact⟨u,eu,AU.wp r⟩)
   (fun k=>by
    try dsimp only
    split
    ·split
     ·exact n1 _
     ·split
      ·exact hμ.nd _
      ·exact List.nodup_nil
    ·exact List.nodup_nil)
   (fun k k' a hk ha hb=>by
    try dsimp only at ha hb
    split at ha
    ·rename_i i ei
     split at ha
     ·rename_i j ej
      split at hb
      ·rename_i i' ei'
       split at hb
       ·rename_i j' ej'
        by_cases e:j=j'
        ·subst e
         exact hk (J5 nd ei ei' ej ej')
        ·exact n2 j j' a e ha hb
       ·split at hb
        ·exact(hμ.out _ a hb).2.2.1 (q2 j a ha)
        ·cases hb
      ·cases hb
     ·split at ha
      ·split at hb
       ·split at hb
        ·rename_i j' ej'
         exact(hμ.out _ a ha).2.2.1 (q2 j' a hb)
        ·split at hb
         ·exact hμ.dj k k' a hk ha hb
         ·cases hb
       ·cases hb
      ·cases ha
    ·cases ha)
  have mem:∀a∈L',(∃j,j∈CG fs is/\a∈ℓ j)∨∃k,a∈μ k:=fun a m=>by
   obtain⟨k,_,q⟩:=p3 a m
   try dsimp only at q
   split at q
   ·rename_i i ei
    split at q
    ·rename_i j ej
     exact .inl ⟨j,List.mem_filterMap.mpr ⟨i,List.mem_of_getElem? ei,ej⟩,q⟩
    ·split at q
     ·exact .inr ⟨k,q⟩
     ·cases q
   ·cases q
  refine⟨L',p1,p2,fun a m=>?_,ok.fd,fun k o e=>?_,fun a p=>?_,fun a f p=>?_,fun a m p=>?_⟩
  ·rcases mem a m with⟨j,_,q⟩ | ⟨k,q⟩
   ·exact ok.nf a (q2 j a q)
   ·exact(hμ.out k a q).1
  ·unfold Dp at e
   rw [List.getElem?_map,Option.map_eq_some_iff] at e;obtain⟨i,ei,e⟩:=e;have hk:k < σi.length:=by rw [hl];exact(List.getElem?_eq_some_iff.mp ei).1
   cases i with
   | no=>cases e
   | val t=>cases e
   | new o' =>
    obtain⟨u,eu,_⟩:=hi k _ _ ei (List.getElem?_eq_getElem hk);exact⟨u,by rw [List.getElem?_eq_getElem hk,eu],by show(σi[k]?).join=some u;rw [List.getElem?_eq_getElem hk,eu];rfl⟩
   | slot j =>
    have ej:σ[j]?=some σi[k]:=hi k _ _ ei (List.getElem?_eq_getElem hk);simp only [V8] at e;have:∃o s,fs[j]?=some (some s)/\(s=.own o∨s=.bor o):=by
     split at e
     ·cases e
     ·rename_i o' es
      exact⟨o',_,es,.inl rfl⟩
     ·rename_i o' es
      exact⟨o',_,es,.inr rfl⟩
     ·cases e
    obtain⟨o',s,es,hs⟩:=this;obtain⟨v,e1,e2⟩:=q1 j _ es;rw [ej] at e1;cases e1;obtain⟨u,eu⟩:∃u,σi[k]=some u:=by
     rcases hs with rfl | rfl
     ·exact⟨_,e2.choose_spec.1⟩
     ·exact⟨_,e2.choose_spec.1⟩
    exact⟨u,by rw [List.getElem?_eq_getElem hk,eu],by show(σi[k]?).join=some u;rw [List.getElem?_eq_getElem hk,eu];rfl⟩
  ·rcases p with p | ⟨j,p,_⟩
   ·exact ok.pd a p
   ·exact ok.sl.def a (q2 j a p)
  ·rcases p with p | ⟨j,p,_⟩
   ·exact ok.pf a f p
   ·exact ok.nf a (q2 j a p) f
  ·rcases mem a m with⟨j,hj,q⟩ | ⟨k,q⟩
   ·rcases p with p | ⟨j',p,hj'⟩
    ·exact ok.pl a (q2 j a q) p
    ·by_cases e:j=j'
     ·subst e
      exact hj' hj
     ·exact n2 j j' a e q p
   ·rcases p with p | ⟨j',p,hj'⟩
    ·exact(hμ.out k a q).2.1 p
    ·exact(hμ.out k a q).2.2.1 (q2 j' a p)
 ·rcases p with p | ⟨j,p,_⟩
  ·exact ok.pd a p
  ·exact ok.sl.def a (q2 j a p)
 ·
  intro F2 H2 τ σ2 Li fs' l ok2 eb;have le:Le F H ⟨F2.f,F.p⟩ H2:=⟨fun a f=>l.f a f,fun a f=>⟨f,(l.p a (.inl f)).2⟩⟩
  obtain⟨ℓ2,r1,r2,r3,r4⟩:=ok2.sl.toP;obtain⟨m1,m2⟩:=r3 ok2.nd;obtain⟨b1,b2⟩:=Mp eb;have restP:∀j a,a∈ℓ j->j∉CG fs is->F2.p a/\H2 a=H a:=fun j a q hj=>l.p a (.inr ⟨j,q,hj⟩)
  refine⟨le,?_⟩;obtain⟨L',p1,p2,p3⟩:=AG.ofP (K:=K) (F:=⟨F2.f,F.p⟩) (H:=H2) (fs:=fs') (σ:=σ) (fun j=>match placeOf fs j is 0 with | some k=>ℓ2 k | none=>ℓ j) (by rw [b1];exact ok.sl.len)
   (fun j s' e=>by
    have hj:j < fs.length:=by rw [<- b1];exact(List.getElem?_eq_some_iff.mp e).1
    obtain⟨s1,e1,e2⟩:=b2 j fs[j] (List.getElem?_eq_getElem hj);rw [e] at e1;cases e1;rw [Nat.zero_add] at e2;obtain⟨v,e3,e4⟩:=q1 j fs[j] (List.getElem?_eq_getElem hj);refine⟨v,e3,?_⟩;unfold PR at e2;cases ep:placeOf fs j is 0 with
    | none =>
     rw [ep] at e2;cases e2;have hn:=placeOf_none ep;exact Jw.le le (fun a m=>(restP j a m hn).2) e4
    | some k =>
     rw [ep] at e2;obtain⟨_,i,ei,hlo⟩:=placeOf_some ep;rw [Nat.sub_zero] at ei;dsimp only at e2 ⊢;split at e2
     ·rename_i o s et es
      cases e2;obtain⟨w,e5,e6⟩:=r1 k _ et;obtain⟨u,e7,e8⟩:=ok2.bo k o et;rw [e5] at e7;cases e7;have ij:i=.slot j:=by
       cases i with
       | no=>cases hlo
       | val t=>cases hlo
       | new o=>cases hlo
       | slot j' =>
        simp only [Di] at hlo;split at hlo
        ·cases hlo;rfl
        ·cases hlo
      subst ij;have hk:k < σi.length:=by rw [hl];exact(List.getElem?_eq_some_iff.mp ei).1
      have io:σ[j]?=some σi[k]:=hi k _ _ ei (List.getElem?_eq_getElem hk);rw [e3] at io;cases io;have e9:(σi[k]?).join=some u:=e8;rw [List.getElem?_eq_getElem hk] at e9;have e10:σi[k]=some u:=by simpa using e9
      rw [e10];obtain⟨u',eu,ro⟩:=e6;cases eu;have ob:∃o0,s=.own o0∨s=.bor o0:=by
       simp only [Di] at hlo;split at hlo
       ·rename_i hob
        obtain⟨o0,s0,_,es0,hs0⟩:=objSl j hob;rw [List.getElem?_eq_getElem hj,es] at es0;cases es0;exact⟨o0,hs0⟩
       ·cases hlo
      obtain⟨o0,ob⟩:=ob;have ro':AU K ⟨F2.f,F.p⟩ H2 o u (ℓ2 k):=AU.wp ro;rcases ob with rfl | rfl
      ·exact⟨u,rfl,ro'⟩
      ·exact⟨u,rfl,ro'⟩
     ·cases e2)
   (fun j=>by
    try dsimp only
    split
    ·exact m1 _
    ·exact n1 _)
   (fun j j' a hj ha hb=>by
    try dsimp only at ha hb
    split at ha
    ·rename_i k ek
     split at hb
     ·rename_i k' ek'
      by_cases e:k=k'
      ·subst e
       obtain⟨_,i,ei,h1⟩:=placeOf_some ek;obtain⟨_,i',ei',h2⟩:=placeOf_some ek';rw [ei] at ei';cases ei';rw [h1] at h2;cases h2;exact hj rfl
      ·exact m2 k k' a e ha hb
     ·rename_i ek'
      exact ok2.pl a (r2 k a ha) (restP j' a hb (placeOf_none ek')).1
    ·rename_i ek
     split at hb
     ·rename_i k' ek'
      exact ok2.pl a (r2 k' a hb) (restP j a ha (placeOf_none ek)).1
     ·exact n2 j j' a hj ha hb)
  have src:∀a∈L',(a∈Li/\¬ F2.p a)∨∃j,a∈ℓ j/\j∉CG fs is:=fun a m=>by
   obtain⟨j,_,q⟩:=p3 a m
   try dsimp only at q
   split at q
   ·rename_i k ek
    exact .inl ⟨r2 k a q,ok2.pl a (r2 k a q)⟩
   ·rename_i ek
    exact .inr ⟨j,q,placeOf_none ek⟩
  refine⟨L',⟨p1,p2,fun a m f=>?_,fun a f=>ok2.fd a f,fun j o e=>?_,fun a p=>?_,fun a f p=>?_,fun a m p=>?_⟩,fun a m=>?_⟩
  ·rcases src a m with⟨q,_⟩ | ⟨j,q,hj⟩
   ·exact ok2.nf a q f
   ·exact ok2.pf a f (restP j a q hj).1
  ·have hj:j < fs.length:=by rw [<- b1];exact(List.getElem?_eq_some_iff.mp e).1
   obtain⟨s1,e1,e2⟩:=b2 j fs[j] (List.getElem?_eq_getElem hj);rw [e] at e1;cases e1;rw [Nat.zero_add] at e2;have:∃o',fs[j]?=some (some (.bor o')):=by
    unfold PR at e2;split at e2
    ·exact⟨o,by rw [List.getElem?_eq_getElem hj];exact e2⟩
    ·split at e2
     ·rename_i o1 s et es
      cases s with
      | val t=>cases e2
      | own o2=>cases e2
      | bor o2=>exact⟨o2,by rw [List.getElem?_eq_getElem hj,es]⟩
     ·cases e2
   obtain⟨o',eo⟩:=this;exact ok.bo j o' eo
  ·rw [(l.p a (.inl p)).2]
   exact ok.pd a p
  ·exact ok2.pf a f (l.p a (.inl p)).1
  ·rcases src a m with⟨_,q⟩ | ⟨j,q,hj⟩
   ·exact q (l.p a (.inl p)).1
   ·exact ok.pl a (q2 j a q) p
  ·rcases src a m with⟨q,_⟩ | ⟨j,q,hj⟩
   ·exact .inl q
   ·exact .inr (.inr ⟨j,q,hj⟩)
def Bof(σ:St):Nat->Option V:=fun k=>(σ[k]?).join
def spF(K:Fg)(p:Nat)(Fn:FS->Out Rv):Sp:=fun vs H Q _=>vs.length=p/\∃F fs0,Okk K F (Bof (vs.map some)) H fs0 (vs.map some)/\match Fn fs0 with
 | .ok r τ=>∀F' H' u σ',Le F H F' H'->RR K (Bof (vs.map some)) σ' F' H' τ r u->Q u H'
 | _=>False
def DK(n:Nat)(g:FS->SO):FS->Out Rv:=fun args=>match g (args++List.replicate n none) with
 | .nx τ=>.ok (.t .non) (τ.take args.length)
 | .ret (.t t) τ=>.ok (.t t) (τ.take args.length)
 | .ret (.nw o) τ=>.ok (.nw o) (τ.take args.length)
 | .ret (.rf i) τ=>match τ[i]? with
  | some (some (.own o))=>.ok (.nw o) ((τ.set i none).take args.length)
  | _=>.bad
 | .exc c τ=>.exc c (τ.take args.length)
 | _=>.bad
section
variable{P:Program}{w:World}{K:Fg}{mg:Str->Option Value}{base:Heap}
end
def BQ:Rv->Ini
 | .t t=>.val t
 | .rf i=>.slot i
 | .nw o=>.new o
def RE(Fn:FS->Out Rv)(rs:List Rv)(fs:FS):Out Rv :=
 if(CG fs (rs.map BQ)).Nodup then(match Fn (Dp fs (rs.map BQ)) with
  | .ok (.t t) τ=>(match En (rs.map BQ) τ fs with
   | some fs'=>.ok (.t t) fs'
   | none=>.bad)
  | .ok (.nw o) τ=>(match En (rs.map BQ) τ fs with
   | some fs'=>.ok (.nw o) fs'
   | none=>.bad)
  | _=>.bad) else .bad
theorem Js.len{K:Fg}{F:Wd}{H:Hp}{σ:St}:∀{rs:List Rv} {vs:List V},Js K F H σ rs vs->vs.length=rs.length
 | [],_,h=>by cases h;rfl
 | r :: rs,_,h=>by
  obtain⟨v,w,rfl,h1,h2⟩:=h;simp [Js.len h2]
def EY(K:Fg)(F:Wd)(H:Hp)(σ:St):List Rv->List V->List Addr->Prop
 | [],vs,L=>vs=[]/\L=[]
 | r :: rs,vs,L=>∃v w L1 L2,vs=v :: w/\Ng K F H σ r v L1/\EY K F H σ rs w L2/\L=L1++L2
def RAn(K:Fg)(B:Nat->Option V)(σ:St):Wd->Hp->FS->List Rv->List V->Prop:=fun F H fs rs vs=>∃L M,Ok K F B H fs σ L/\EY K F H σ rs vs M/\(L++M).Nodup/\∀a∈M,¬ F a/\¬ F.p a
def tAn(K:Fg)(Z:Xp)(f:FS->Out (List Rv)):TA:=fun σ H Q=>∃F B fs,Okk K F B H fs σ/\sat Z B (RAn K B σ) F H (f fs) Q
def FAn(X:Cx)(Z:Xp)(es:List Expr)(f:FS->Out (List Rv)):Prop:=PA X es (tAn X.K Z f)
def Ar(f:FS->Out Rv)(g:FS->Out (List Rv)):FS->Out (List Rv):=fun fs=>(f fs).bind fun r fs=>(g fs).bind fun rs fs=>.ok (r :: rs) fs
section
variable{K:Fg}{F F':Wd}{H H':Hp}{B:Nat->Option V}{fs:FS}{σ:St}{rs:List Rv}{vs:List V}{Z:Xp}{Q:VK}{Fn:FS->Out Rv}{E:XK}
theorem EY.len:∀{rs:List Rv} {vs:List V} {M:List Addr},EY K F H σ rs vs M->vs.length=rs.length
 | [],_,_,h=>by obtain⟨rfl,_⟩:=h;rfl
 | r :: rs,_,_,h=>by
  obtain⟨v,w,L1,L2,rfl,_,h,_⟩:=h;simp [EY.len h]
theorem Ng.def{r:Rv}{v:V}{L:List Addr}(h:Ng K F H σ r v L):∀a∈L,H a≠none:=by
 cases r with
 | t t=>obtain⟨rfl,_⟩:=h;exact fun a m=>nomatch m
 | nw o=>exact AU.def h
 | rf i=>obtain⟨rfl,_⟩:=h;exact fun a m=>nomatch m
theorem Ng.lf{r:Rv}{v:V}{L:List Addr}(l:∀a,F a->F' a/\H' a=H a)(k:∀a∈L,H' a=H a)(h:Ng K F H σ r v L):Ng K F' H' σ r v L:=by
 cases r with
 | t t=>exact⟨h.1,AM.le (F:=⟨F.f,fun _=>False⟩) ⟨l,fun _ z=>z.elim⟩ (AM.wp h.2)⟩
 | nw o=>exact AU.le (F:=⟨F.f,fun _=>False⟩) ⟨l,fun _ z=>z.elim⟩ k (AU.wp h)
 | rf i=>exact h
theorem EY.lf(l:∀a,F a->F' a/\H' a=H a):∀{rs:List Rv} {vs:List V} {M:List Addr},(∀a∈M,H' a=H a)->EY K F H σ rs vs M->EY K F' H' σ rs vs M
 | [],_,_,_,h=>h
 | r :: rs,_,_,k,h=>by
  obtain⟨v,w,L1,L2,e,h1,h2,rfl⟩:=h;exact⟨v,w,L1,L2,e,h1.lf l fun a m=>k a (List.mem_append_left _ m),EY.lf l (fun a m=>k a (List.mem_append_right _ m)) h2,rfl⟩
theorem EY.toP:∀{rs:List Rv} {vs:List V} {M:List Addr},EY K F H σ rs vs M->∃μ:Nat->List Addr,(∀k r,rs[k]?=some r->∃v,vs[k]?=some v/\Ng K F H σ r v (μ k))/\(∀k a,a∈μ k->a∈M/\H a≠none) /\
  (M.Nodup->(∀k,(μ k).Nodup)/\∀i j a,i≠j->a∈μ i->a∉μ j)
 | [],_,_,h=>⟨fun _=>[],(fun k r e=>by simp at e),(fun _ _ m=>nomatch m),fun _=>⟨fun _=>List.nodup_nil,(fun _ _ _ _ m=>nomatch m)⟩⟩
 | r :: rs,_,_,h=>by
  obtain⟨v,w,L1,L2,rfl,h1,h2,rfl⟩:=h;obtain⟨μ,q1,q2,q3⟩:=EY.toP h2;refine⟨fun i=>match i with | 0=>L1 | i+1=>μ i,fun k r' e=>?_,fun k a m=>?_,fun nd=>?_⟩
  ·cases k with
   | zero =>
    simp at e;subst e;exact⟨v,rfl,h1⟩
   | succ k =>
    obtain⟨u,e1,e2⟩:=q1 k r' (by simpa using e);exact⟨u,by simpa using e1,e2⟩
  ·cases k with
   | zero=>exact⟨List.mem_append_left _ m,h1.def a m⟩
   | succ k=>exact⟨List.mem_append_right _ (q2 k a m).1,(q2 k a m).2⟩
  ·rw [List.nodup_append] at nd
   obtain⟨n1,n2,n3⟩:=nd;obtain⟨m1,m2⟩:=q3 n2;refine⟨fun i=>?_,fun i j a hij hi hj=>?_⟩
   ·cases i with
    | zero=>exact n1
    | succ i=>exact m1 i
   ·cases i with
    | zero =>
     cases j with
     | zero=>exact hij rfl
     | succ j=>exact n3 a hi a (q2 j a hj).1 rfl
    | succ i =>
     cases j with
     | zero=>exact n3 a hj a (q2 i a hi).1 rfl
     | succ j=>exact m2 i j a (fun e=>hij (by rw [e])) hi hj
theorem OH(q:RAn K B σ F H fs rs vs):∃L μ,Ok K F B H fs σ L/\Mu F H L μ/\(vs.map some).length=(rs.map BQ).length/\∀(k:Nat) (i:Ini) (v:Option V),(rs.map BQ)[k]?=some i->(vs.map some)[k]?=some v->US K F H σ i v (μ k):=by
 obtain⟨L,M,ok,q,nd,nf⟩:=q;obtain⟨μ,q1,q2,q3⟩:=q.toP;rw [List.nodup_append] at nd;obtain⟨m1,m2⟩:=q3 nd.2.1;refine⟨L,μ,ok,⟨fun k a m=>⟨(nf a (q2 k a m).1).1,(nf a (q2 k a m).1).2,fun z=>nd.2.2 a z a (q2 k a m).1 rfl,(q2 k a m).2⟩,m1,m2⟩,by simp [q.len],fun k i v e1 e2=>?_⟩;rw [List.getElem?_map,Option.map_eq_some_iff] at e1 e2;obtain⟨r,er,rfl⟩:=e1;obtain⟨u,eu,rfl⟩:=e2;obtain⟨u',e3,rr⟩:=q1 k r er;rw [eu] at e3;cases e3;cases r with
 | t t=>exact⟨u,rfl,rr.2⟩
 | nw o=>exact⟨u,rfl,rr⟩
 | rf i=>exact rr.2
theorem RAn.len(q:RAn K B σ F H fs rs vs):vs.length=rs.length:=by
 obtain⟨L,M,ok,q,_⟩:=q;exact q.len
theorem RD(q:RAn K B σ F H fs rs vs)(s:sat Z B (RR K B σ) F H (RE Fn rs fs) Q):spF K rs.length Fn vs H Q E:=by
 unfold RE at s;split at s
 ·rename_i nd
  obtain⟨L9,μ,ok,hμ,hl,hi⟩:=OH q;obtain⟨Pp,p1,p2,p3,p4⟩:=lend ok hl hi nd hμ;refine⟨q.len,⟨F.f,Pp⟩,Dp fs (rs.map BQ),p2,?_⟩;split at s
  ·rename_i t τ e
   rw [e];split at s
   ·rename_i fs' eb
    intro F' H' u σ' l k;obtain⟨Li,L',o1,⟨_,r⟩,_⟩:=k;obtain⟨le,L,o2,_⟩:=p4 F' H' τ σ' Li fs' l o1 eb;exact s ⟨F'.f,F.p⟩ H' u le (RR.of ⟨L,o2⟩ (AM.wp r))
   ·exact s.elim
  ·rename_i o τ e
   rw [e];split at s
   ·rename_i fs' eb
    intro F' H' u σ' l k;obtain⟨Li,L',o1,r,nd,nf⟩:=k;obtain⟨le,L,o2,sub⟩:=p4 F' H' τ σ' Li fs' l o1 eb;refine s ⟨F'.f,F.p⟩ H' u le ⟨L,L',o2,AU.wp r,?_,fun a m=>⟨(nf a m).1,fun p=>(nf a m).2 (l.p a (p1 a p)).1⟩⟩;rw [List.nodup_append] at nd ⊢;refine⟨o2.nd,nd.2.1,fun a ha b hb e=>?_⟩;rcases sub a ha with z | z
    ·exact nd.2.2 a z b hb e
    ·exact(nf b hb).2 (l.p b (e▸z)).1
   ·exact s.elim
  ·exact s.elim
 ·exact s.elim
end
section
variable{X:Cx}{Z:Xp}{e:Expr}{es:List Expr}{f:FS->Out Rv}{g:FS->Out (List Rv)}
theorem A9:FAn X Z [] Ak:=LL Ii fun σ H Q ⟨F,B,fs,⟨L,ok⟩,s⟩=>s F H [] Le.refl ⟨L,[],ok,⟨rfl,rfl⟩,by simpa using ok.nd,(fun _ m=>nomatch m)⟩
theorem Ax(ha:FE X Z e f)(hr:FAn X Z es g)(hs:starEach (e :: es) X.env=(false,eval e X.env) :: starEach es X.env:=by rfl):FAn X Z (e :: es) (Ar f g):=by
 refine LL (Es ha hr hs) fun σ H Q ⟨F,B,fs,ok,s⟩=>⟨F,B,fs,ok,A5 s fun r fs1 F1 H1 u l q s1=>?_⟩
 obtain⟨L,L1,o1,r1,nd,nf⟩:=q;have nda:=List.nodup_append.mp nd;have le1:Le F1 H1 ⟨F1.f,fun a=>F1.p a∨a∈L1⟩ H1:=⟨fun a f=>⟨f,rfl⟩,fun a f=>⟨.inl f,rfl⟩⟩
 refine⟨⟨F1.f,fun a=>F1.p a∨a∈L1⟩,B,fs1,⟨L,o1.sl.le le1 fun _ _=>rfl,o1.nd,o1.nf,o1.fd,o1.bo,fun a p=>?_,fun a f p=>?_,fun a m p=>?_⟩,?_⟩
 ·rcases p with p | p
  ·exact o1.pd a p
  ·exact r1.def a p
 ·rcases p with p | p
  ·exact o1.pf a f p
  ·exact(nf a p).1 f
 ·rcases p with p | p
  ·exact o1.pl a m p
  ·exact nda.2.2 a m a p rfl
 ·cases eg:g fs1 with
  | bad=>rw [eg] at s1;exact s1.elim
  | exc c t=>rw [eg] at s1;exact Z.mono s1 le1
  | ok rs fs2 =>
   rw [eg] at s1;intro F2 H2 us l2 q2;obtain⟨L2,M2,o2,r2,nd2,nf2⟩:=q2;have le2:Le F1 H1 ⟨F2.f,F1.p⟩ H2:=⟨fun a f=>l2.f a f,fun a f=>⟨f,(l2.p a (.inl f)).2⟩⟩
   have hp:∀a∈L1,F2.p a/\H2 a=H1 a:=fun a m=>l2.p a (.inr m)
   have nd2':=List.nodup_append.mp nd2;refine s1 ⟨F2.f,F1.p⟩ H2 (u :: us) le2 ⟨L2,L1++M2,⟨AG.wp o2.sl,o2.nd,o2.nf,o2.fd,o2.bo,fun a f=>by rw [(le2.p a f).2];exact o1.pd a f,fun a f p=>o2.pf a f (l2.p a (.inl p)).1,fun a m p=>o2.pl a m (l2.p a (.inl p)).1⟩,⟨u,us,L1,M2,rfl,Ng.lf (F:=F1) (F':=⟨F2.f,F1.p⟩) (H:=H1) (H':=H2) (fun a f=>l2.f a f) (fun a m=>(hp a m).2) r1,EY.lf (F:=F2) (F':=⟨F2.f,F1.p⟩) (fun a f=>⟨f,rfl⟩) (fun _ _=>rfl) r2,rfl⟩,?_,fun a m=>?_⟩
   ·rw [List.nodup_append]
    refine⟨o2.nd,?_,fun a ha b hb e=>?_⟩
    ·rw [List.nodup_append]
     exact⟨nda.2.1,nd2'.2.1,fun a ha b hb e=>(nf2 b hb).2 (e▸(hp a ha).1)⟩
    ·rcases List.mem_append.mp hb with hb | hb
     ·exact o2.pl a ha (e▸(hp b hb).1)
     ·exact nd2'.2.2 a ha b hb e
   ·rcases List.mem_append.mp m with m | m
    ·exact⟨fun f=>o2.pf a f (hp a m).1,(nf a m).2⟩
    ·exact⟨(nf2 a m).1,fun p=>(nf2 a m).2 (l2.p a (.inl p)).1⟩
end
section
variable{X:Cx}{Z:Xp}{x:Str}{k p:Nat}{ps:List Str}{Fn:FS->Out Rv}{e o:Expr}{es:List Expr}{fa:FS->Out (List Rv)}{fo:FS->Out Rv}{pp pos apos:Pos}{C:Addr}{m:Str}
def PL(p:Nat)(Fn:FS->Out Rv):List Rv->FS->Out Rv:=fun rs fs=>if rs.length=p then RE Fn rs fs else .bad
def K6(C:Addr)(m:Str)(fs:FS):Rv->Bool
 | .t (.ins C' gs _)=>decide (C'=C) && !gs.any (· == m)
 | .rf i=>match Bg fs i with
  | some (.ins C' gs _)=>decide (C'=C) && !gs.any (· == m)
  | _=>false
 | _=>false
theorem J4{kvs:List (Str×V)}{m:Str}(h:((kvs.map (·.1)).any (· == m))=false):kvs.lookup m=none:=by
 induction kvs with
 | nil=>rfl
 | cons p r ih =>
  rw [List.map_cons,List.any_cons,Bool.or_eq_false_iff] at h;obtain⟨k,v⟩:=p;rw [List.lookup_cons];have:(m == k)=false:=by
   have h1:(k == m)=false:=h.1;rw [beq_eq_false_iff_ne] at h1 ⊢;exact fun e=>h1 e.symm
  rw [this];exact ih h.2
theorem QX{K:Fg}{F:Wd}{H:Hp}{B:Nat->Option V}{fs:FS}{σ:St}{r:Rv}{u:V}(ok:Okk K F B H fs σ)(q:CT K F H σ r u)(h:K6 C m fs r=true):∃a dx kvs,u=.ref a/\H a=some (.ins C dx kvs)/\kvs.lookup m=none:=by
 unfold K6 at h;split at h
 ·rename_i C' gs ts
  rw [Bool.and_eq_true] at h;have hC:=of_decide_eq_true h.1;subst hC;simp only [CT,AM] at q;obtain⟨a,dx,kvs,rfl,f,hd,rfl,r⟩:=q;exact⟨a,dx,kvs,rfl,hd,J4 (by simpa using h.2)⟩
 ·rename_i i
  split at h
  ·rename_i C' gs os eo
   rw [Bool.and_eq_true] at h;have hC:=of_decide_eq_true h.1;subst hC;obtain⟨v,L2,e1,q2,_⟩:=ok.own eo;have e2:σ[i]?=some (some u):=q;rw [e1] at e2;have e3:v=u:=by simpa using e2
   subst e3;simp only [AU] at q2;obtain⟨a,dx,kvs,L',rfl,hd,rfl,_⟩:=q2;exact⟨a,dx,kvs,rfl,hd,J4 (by simpa using h.2)⟩
  ·cases h
 ·cases h
def QN(C:Addr)(m:Str)(p:Nat)(Fn:FS->Out Rv)(fo:FS->Out Rv)(fa:FS->Out (List Rv)):FS->Out Rv:=fun fs=>(fo fs).bnd fun x fs=>if K6 C m fs x=true then(fa fs).bind fun rs fs=>PL p Fn (x :: rs) fs else .bad
end
def Cs(gt:T->FS->Option FS)(ft:FS->Out Bool)(fe:FS->Out Rv):List T->FS->List T->Option (List T×FS)
 | [],τ,acc=>some (acc,τ)
 | t :: ts,τ,acc=>match gt t τ with
  | none=>none
  | some τ=>match ft τ with
   | .ok true τ=>(match fe τ with
    | .ok (.t v) τ=>if acc.length < big then Cs gt ft fe ts τ (acc++[v]) else none
    | _=>none)
   | .ok false τ=>Cs gt ft fe ts τ acc
   | _=>none
def DX:FS->Out Bool:=fun fs=>.ok true fs
def BW(new:Bool)(src:List (Option Nat))(fi:FS->Out (List T))(gt:T->FS->Option FS)(ft:FS->Out Bool)(fe:FS->Out Rv):FS->Out Rv:=fun fs=>(fi fs).bind fun ts fs =>
 if(CG fs (src.map fun o=>o.elim Ini.no Ini.slot)).Nodup/\(src.all fun o=>o.elim true fun j=>decide (j < fs.length))=true then(match Cs gt ft fe ts (Dp fs (src.map fun o=>o.elim Ini.no Ini.slot)) [] with
  | some (vs,τ)=>(match En (src.map fun o=>o.elim Ini.no Ini.slot) τ fs with
   | some fs'=>if new=true then .ok (.nw (.lst vs)) fs' else .ok (.t (.lst vs)) fs'
   | none=>.bad)
  | none=>.bad) else .bad
def FIf(X:Cx)(ifs:List Expr)(ft:FS->Out Bool):Prop:=SU X ifs (tT X.K Xp.no ft)
theorem Qv{X:Cx}{e:List Expr}{t t':TT}(h:SU X e t)(i:∀σ H Q,t' σ H Q->t σ H Q):SU X e t':=fun pins s σ H Q I q=>h pins s σ H Q I (i _ _ _ q)
theorem C1{X:Cx}:FIf X [] DX:=Qv Qu fun σ H Q ⟨F,B,fs,ok,s⟩=>s F H true Le.refl ⟨ok,rfl⟩
theorem Lf{X:Cx}{c:Expr}{ft:FS->Out Bool}(h:FT X Xp.no c ft):FIf X [c] ft:=Qt h
section
variable{K:Fg}{F:Wd}{H:Hp}{B:Nat->Option V}{fs:FS}{σ:St}
theorem Okk.hide{p:Addr}{o:HO}(h:Okk K F B H fs σ)(hp:H p=none):Okk K ⟨F.f,fun a=>F.p a∨a=p⟩ B (upd H p o) fs σ:=by
 obtain⟨L,h⟩:=h;have l:Le F H ⟨F.f,fun a=>F.p a∨a=p⟩ (upd H p o):=⟨fun a f=>⟨f,Ay fun e=>h.fd a f (e▸hp)⟩,fun a f=>⟨.inl f,Ay fun e=>h.pd a f (e▸hp)⟩⟩
 refine⟨L,h.sl.le l (h.QU hp),h.nd,h.nf,fun a q=>Dz (h.fd a q),h.bo,fun a q=>?_,fun a f q=>?_,fun a m q=>?_⟩
 ·rcases q with q | q
  ·exact Dz (h.pd a q)
  ·rw [q,AK];simp
 ·rcases q with q | q
  ·exact h.pf a f q
  ·exact h.fd a f (q▸hp)
 ·rcases q with q | q
  ·exact h.pl a m q
  ·exact h.sl.def a m (q▸hp)
theorem Okk.upP{p:Addr}{o:HO}(h:Okk K F B H fs σ)(hp:F.p p):Okk K F B (upd H p o) fs σ:=by
 obtain⟨L,h⟩:=h;have hf:∀a,F a->(upd H p o) a=H a:=fun a f=>Ay fun e=>h.pf a f (e▸hp)
 have l:Le ⟨F.f,fun _=>False⟩ H ⟨F.f,F.p⟩ (upd H p o):=⟨fun a f=>⟨f,hf a f⟩,fun a f=>f.elim⟩
 have sl:AG K ⟨F.f,fun _=>False⟩ H fs σ L:=AG.wp h.sl;refine⟨L,sl.le l fun a m=>Ay fun e=>h.pl a m (e▸hp),h.nd,h.nf,fun a q=>Dz (h.fd a q),h.bo,fun a q=>Dz (h.pd a q),h.pf,h.pl⟩
theorem Aj.upP{p:Addr}{o:HO}{ts:List T}{vs:List V}(h:Okk K F B H fs σ)(hp:F.p p)(r:Aj K F H ts vs):Aj K F (upd H p o) ts vs:=by
 obtain⟨L,h⟩:=h;have l:Le ⟨F.f,fun _=>False⟩ H ⟨F.f,F.p⟩ (upd H p o):=⟨fun a f=>⟨f,Ay fun e=>h.pf a f (e▸hp)⟩,fun a f=>f.elim⟩
 exact Aj.le l (Aj.wp r)
end
section
variable{X:Cx}{Z:Xp}{N:List Str}{sc:Scope}{tg iter elt:Expr}{ifs:List Expr}{fi:FS->Out (List T)}{gt:T->FS->Option FS}{ft:FS->Out Bool}{fe:FS->Out Rv}{pos:Pos}{K:Fg}
inductive CI(K:Fg)(W:Wd)(H1:Hp)(D:Addr)(Bc:Nat->Option V)(gt:T->FS->Option FS)(ft:FS->Out Bool)(fe:FS->Out Rv)(r:List T×FS)(l:List T)(τσ:St)(H2:Hp):Prop
 | mk (F2:Wd) (τ:FS) (acc:List T) (ys:List V) (l2:Le W H1 F2 H2) (pD:F2.p D) (ok2:Okk K F2 Bc H2 τ τσ) (hD2:H2 D=some (.lst ys)) (racc:Aj K F2 H2 acc ys) (ec:Cs gt ft fe l τ acc=some r):CI K W H1 D Bc gt ft fe r l τσ H2
theorem CI.put{W F6:Wd}{H1 H6:Hp}{D:Addr}{Bc:Nat->Option V}{r:List T×FS}{l:List T}{τσ:St}{τ3:FS}{acc:List T}{ys:List V}{v:T}{y:V}{L6:List Addr}(nP:¬ W.p D)(l16:Le W H1 F6 H6)(p6:F6.p D)(o6:Ok K F6 Bc H6 τ3 τσ L6)(racc6:Aj K F6 H6 acc ys)(rv:AM K F6 H6 v y)
  (ec2:Cs gt ft fe l τ3 (acc++[v])=some r):CI K W H1 D Bc gt ft fe r l τσ (upd H6 D (.lst (ys++[y]))) :=
 .mk F6 τ3 (acc++[v]) (ys++[y]) ⟨fun a f=>⟨(l16.f a f).1,by rw [Ay fun e=>o6.pf a (l16.f a f).1 (by rw [e];exact p6)];exact(l16.f a f).2⟩,fun a f=>⟨(l16.p a f).1,by rw [Ay fun e=>nP (by rw [<- e];exact f)];exact(l16.p a f).2⟩⟩
  p6 (Okk.upP ⟨L6,o6⟩ p6) AK (Aj.upP ⟨L6,o6⟩ p6 (racc6.app (Aj.one rv))) ec2
theorem CI.one{W F5:Wd}{H1 H5:Hp}{D:Addr}{Bc:Nat->Option V}{r:List T×FS}{l:List T}{τσ:St}{τ2:FS}{acc:List T}{ys:List V}(nP:¬ W.p D)(l15:Le W H1 F5 H5)(p5:F5.p D)(ok5:Okk K F5 Bc H5 τ2 τσ)(hD5:H5 D=some (.lst ys))(racc5:Aj K F5 H5 acc ys)
  (ec2:(match fe τ2 with | .ok (.t v) τ=>if acc.length < big then Cs gt ft fe l τ (acc++[v]) else none | _=>none)=some r) :
  tF K Xp.no fe τσ H5 fun y H6=>∃ys,H6 D=some (.lst ys)/\ys.length < sizeLine/\CI K W H1 D Bc gt ft fe r l τσ (upd H6 D (.lst (ys++[y]))):=by
 refine⟨F5,Bc,τ2,ok5,?_⟩;cases ee:fe τ2 with
 | exc c τ3=>rw [ee] at ec2;cases ec2
 | bad=>rw [ee] at ec2;cases ec2
 | ok w τ3 =>
  rw [ee] at ec2;cases w with
  | nw o=>cases ec2
  | rf o=>cases ec2
  | t v =>
   dsimp only at ec2;by_cases hlen:acc.length < big
   ·rw [if_pos hlen] at ec2
    intro F6 H6 y l6 q6;obtain⟨L6,L6',o6,⟨_,rv⟩,_⟩:=q6;have p6:=l6.p D p5;exact⟨ys,p6.2.trans hD5,by rw [racc5.len];exact Nat.lt_trans hlen Iy,CI.put nP (l15.trans l6) p6.1 o6 (racc5.le l6) rv ec2⟩
   ·rw [if_neg hlen] at ec2
    cases ec2
theorem CI.turn{W F3:Wd}{H1 H3:Hp}{D:Addr}{Bc:Nat->Option V}{r:List T×FS}{t:T}{l:List T}{τσ:St}{τ:FS}{acc:List T}{ys:List V}{x:V}(nP:¬ W.p D)(l2:Le W H1 F3 H3)(pD:F3.p D)(ok2:Okk K F3 Bc H3 τ τσ)(hD2:H3 D=some (.lst ys))(racc:Aj K F3 H3 acc ys)
  (ec2:Cs gt ft fe (t :: l) τ acc=some r) (rx:AM K F3 H3 t x) :
  tG K gt x τσ H3 fun τ2 H4=>tT K Xp.no ft τ2 H4 fun b H5=>if b=true then tF K Xp.no fe τ2 H5 fun y H6=>∃ys,H6 D=some (.lst ys)/\ys.length < sizeLine/\CI K W H1 D Bc gt ft fe r l τ2 (upd H6 D (.lst (ys++[y]))) else CI K W H1 D Bc gt ft fe r l τ2 H5:=by
 simp only [Cs] at ec2;refine⟨F3,Bc,τ,t,ok2,rx,?_⟩;cases eg:gt t τ with
 | none=>rw [eg] at ec2;cases ec2
 | some τ1 =>
  rw [eg] at ec2;intro F4 H4 τσ4 l4 ok4;refine⟨F4,Bc,τ1,ok4,?_⟩;dsimp only at ec2;cases et:ft τ1 with
  | exc c τ2=>rw [et] at ec2;cases ec2
  | bad=>rw [et] at ec2;cases ec2
  | ok b τ2 =>
   rw [et] at ec2;intro F5 H5 b' l5 q5;obtain⟨ok5,rfl⟩:=q5;have p4:=l4.p D pD;have p5:=l5.p D p4.1;have h5:=(p5.2.trans p4.2).trans hD2;have l15:=(l2.trans l4).trans l5;have r5:=(racc.le l4).le l5;cases b' with
   | false =>
    rw [if_neg (by decide)];exact .mk F5 τ2 acc ys l15 p5.1 ok5 h5 r5 ec2
   | true =>
    rw [if_pos rfl];exact CI.one nP l15 p5.1 ok5 h5 r5 ec2
theorem PD{F:Wd}{H:Hp}{B:Nat->Option V}{fs:FS}{σ:St}{src:List (Option Nat)}(ok:Okk K F B H fs σ)(hall:(src.all fun o=>o.elim true fun j=>decide (j < fs.length))=true)(k:Nat)(i:Ini)(v:Option V)(e1:(src.map fun o=>o.elim Ini.no Ini.slot)[k]?=some i)(e2:(Fj σ src)[k]?=some v):US K F H σ i v []:=by
 unfold Fj at e2;rw [List.getElem?_map,Option.map_eq_some_iff] at e1 e2;obtain⟨o,eo,rfl⟩:=e1;obtain⟨o',eo',rfl⟩:=e2;rw [eo] at eo';cases eo';cases o with
 | none=>exact trivial
 | some j =>
  have hj:j < σ.length:=by
   obtain⟨L1,o1⟩:=ok;rw [o1.sl.len];exact of_decide_eq_true (List.all_eq_true.mp hall _ (List.mem_of_getElem? eo))
  show σ[j]?=some ((σ[j]?).join);rw [List.getElem?_eq_getElem hj];rfl
theorem Rq{F1 F2:Wd}{H2:Hp}{B:Nat->Option V}{fs':FS}{σ:St}{D:Addr}{ys:List V}{acc:List T}{L:List Addr}(o3:Ok K ⟨F2.f,F1.p⟩ B H2 fs' σ L)(hD2:H2 D=some (.lst ys))(racc:Aj K F2 H2 acc ys)(nL:D∉L)(nF:¬ F2 D)(np:¬ F1.p D):RR K B σ ⟨F2.f,F1.p⟩ H2 fs' (.nw (.lst acc)) (.ref D):=by
 refine⟨L,[D],o3,DO hD2 (Aj.wp racc),?_,fun a m=>?_⟩
 ·rw [List.nodup_append]
  exact⟨o3.nd,by simp,fun a ha b hb e=>nL (by rw [<- List.mem_singleton.mp hb,<- e];exact ha)⟩
 ·rw [List.mem_singleton.mp m]
  exact⟨nF,np⟩
theorem Rp{F1 F2:Wd}{H2:Hp}{B:Nat->Option V}{fs':FS}{σ:St}{D:Addr}{ys:List V}{acc:List T}{L:List Addr}(o3:Ok K ⟨F2.f,F1.p⟩ B H2 fs' σ L)(hD2:H2 D=some (.lst ys))(racc:Aj K F2 H2 acc ys)(nL:D∉L)(np:¬ F1.p D):RR K B σ (RI ⟨F2.f,F1.p⟩ [D]) H2 fs' (.t (.lst acc)) (.ref D):=by
 have l3:Le ⟨F2.f,F1.p⟩ H2 (RI ⟨F2.f,F1.p⟩ [D]) H2:=orF;refine RR.of ⟨L,?_⟩ ?_
 ·refine⟨o3.sl.le l3 fun _ _=>rfl,o3.nd,fun a m z=>?_,fun a z=>?_,o3.bo,o3.pd,fun a z=>?_,o3.pl⟩
  ·rcases z with z | z
   ·exact o3.nf a m z
   ·exact nL (by rw [<- List.mem_singleton.mp z];exact m)
  ·rcases z with z | z
   ·exact o3.fd a z
   ·rw [List.mem_singleton.mp z,hD2];simp
  ·rcases z with z | z
   ·exact o3.pf a z
   ·rw [List.mem_singleton.mp z];exact np
 ·simp only [CT,AM]
  exact⟨D,ys,rfl,.inr (by simp),hD2,Aj.le l3 (Aj.wp racc)⟩
theorem SI{new:Bool}{src:List (Option Nat)}{σ:St}{H:Hp}{Q:VK}(h:tF K Z (BW new src fi gt ft fe) σ H Q):Qg src (tI K Z fi) (tG K gt) (tT K Xp.no ft) (tF K Xp.no fe) σ H Q:=by
 obtain⟨F,B,fs,ok,s⟩:=h;refine⟨F,B,fs,ok,A5 s fun ts fs1 F1 H1 J l q s1=>?_⟩;obtain⟨ok1,jk⟩:=q;split at s1
 ·rename_i hnd
  obtain⟨L9,ok9⟩:=id ok1;obtain⟨Pp,p1,p2,p3,p4⟩:=lend (μ:=fun _=>[]) ok9 (by unfold Fj;simp) (PD ok1 hnd.2) hnd.1 Mu.no;have jI:JOk K ⟨F1.f,Pp⟩ H1 J ts:=jk.within;split at s1
  ·rename_i vs τe ec
   split at s1
   ·rename_i fs' eb
    intro D hD;have nP:¬ Pp D:=fun z=>p3 D z hD
    refine⟨fun i m τσ H2=>m=ts.length - i/\CI K ⟨F1.f,Pp⟩ H1 D (Bof (Fj σ src)) gt ft fe (vs,τe) (ts.drop i) τσ H2,
     ⟨ts.length,rfl,.mk ⟨F1.f,fun a=>Pp a∨a=D⟩ _ [] [] ⟨fun a f=>⟨f,Ay fun e=>p2.fd a f (e▸hD)⟩,fun a f=>⟨.inl f,Ay fun e=>nP (e▸f)⟩⟩ (.inr rfl) (p2.hide hD) AK rfl ec⟩,fun i m τσ H2 hc=>?_⟩
    obtain⟨rfl,F2,τ,acc,ys,l2,pD,ok2,hD2,racc,ec2⟩:=hc;by_cases hit:i < ts.length
    ·have ei:ts[i]?=some ts[i]:=List.getElem?_eq_getElem hit
     rw [List.drop_eq_getElem_cons hit] at ec2;obtain⟨j1,j2⟩:=(jI F2 H2 l2.f ⟨_,_,_,ok2⟩ i).1 _ ei;refine .inr ⟨j1,CI K ⟨F1.f,Pp⟩ H1 D (Bof (Fj σ src)) gt ft fe (vs,τe) (ts.drop (i+1)),fun τσ' H' h=>⟨ts.length - (i+1),by omega,rfl,h⟩,fun x H3 hy=>?_⟩;obtain⟨F3,⟨l23,nw⟩,rx⟩:=j2 x H3 hy;exact CI.turn nP (l2.trans l23) (l23.p D pD).1 (nw _ _ _ ok2) ((l23.p D pD).2.trans hD2) (racc.le l23) ec2 rx
    ·refine .inl ⟨(jI F2 H2 l2.f ⟨_,_,_,ok2⟩ i).2 (by omega),?_⟩
     rw [List.drop_eq_nil_of_le (by omega)] at ec2;simp only [Cs] at ec2;cases ec2;obtain⟨Li,o2⟩:=ok2;obtain⟨le,L,o3,sub⟩:=p4 F2 H2 τe τσ Li fs' l2 o2 eb;have nL:D∉L:=fun m=>(sub D m).elim (fun z=>o2.pl D z pD) nP
     have np:¬ F1.p D:=fun z=>nP (p1 D z)
     cases new with
     | true =>
      rw [if_pos rfl] at s1;exact s1 ⟨F2.f,F1.p⟩ H2 (.ref D) le (Rq o3 hD2 racc nL (fun f=>o2.pf D f pD) np)
     | false =>
      rw [if_neg (by decide)] at s1;exact s1 (RI ⟨F2.f,F1.p⟩ [D]) H2 (.ref D) (le.trans orF) (Rp o3 hD2 racc nL np)
   ·exact s1.elim
  ·exact s1.elim
 ·exact s1.elim
theorem De(new:Bool)(N:List Str)(src:List (Option Nat))(hcalm:X.calm=true)(hi:FI X Z tg iter fi)(hg:∀cl C s H fp,GT (CM X N sc cl C s H fp) tg gt)(ht:∀cl C s H fp,FIf (CM X N sc cl C s H fp) ifs ft)
  (he:∀cl C s H fp,FE (CM X N sc cl C s H fp) Xp.no elt fe) (hS:HB X.env.scope sc=true:=by rfl) (hcap:FR X.N sc N src=true:=by rfl)
  (hs:∀x,foldedSetIterable iter X.env x=pure x:=by intro _;rfl):FE X Z (.ListComp elt [⟨tg,iter,ifs,0⟩] sc pos) (BW new src fi gt ft fe) :=
 BN (Tp (g:=tG X.K gt) (tt:=tT X.K Xp.no ft) (te:=tF X.K Xp.no fe) N src hcalm hi hg ht he hS hcap hs) fun _ _ _ h=>SI h
theorem Gf(new:Bool)(i:Nat){y:Str}{pos' spos:Pos}(N:List Str)(src:List (Option Nat))(hcalm:X.calm=true)(hN:X.N.Nodup)(hy:Loc X.env.scope y)(hi:FI X Z tg iter fi)(hg:∀cl C s H fp,GT (CM X N sc cl C s H fp) tg gt)(ht:∀cl C s H fp,FIf (CM X N sc cl C s H fp) ifs ft)
  (he:∀cl C s H fp,FE (CM X N sc cl C s H fp) Xp.no elt fe) (hiy:X.N[i]?=some y:=by rfl) (hS:HB X.env.scope sc=true:=by rfl) (hcap:FR X.N sc N src=true:=by rfl)
  (hs:∀x,foldedSetIterable iter X.env x=pure x:=by intro _;rfl) (hsw:swapsWith (.ListComp elt [⟨tg,iter,ifs,0⟩] sc pos) (some (.Name y pos')) spos.line X.env=pure true:=by rfl)
  (hf:X.fn y=true∨X.env.scope.names.lookup y=some .local:=by first | exact .inl rfl | exact .inr rfl | assumption) :
  GS X Z (.Assign [.Name y pos'] (.ListComp elt [⟨tg,iter,ifs,0⟩] sc pos) spos) (AS i (BW new src fi gt ft fe)) :=
 Dh (Ie (g:=tG X.K gt) (tt:=tT X.K Xp.no ft) (te:=tF X.K Xp.no fe) N src hcalm hN hiy hy hi hg ht he hS hcap hs hsw hf) fun _ _ _ s=>SI (S9 s)
end
def orG(g g':Rv->Rv->FS->Out Rv):Rv->Rv->FS->Out Rv:=fun x y fs=>match g x y fs with
 | .bad=>g' x y fs
 | o=>o
theorem OpF.or{K:Fg}{Z:Xp}{r r':R2}{g g':Rv->Rv->FS->Out Rv}(h:OpF K Z r g)(h':OpF K Z r' g'):OpF K Z (orR r r') (orG g g'):=by
 intro F B H σ fs x y u w Q ok rx ry s;unfold orG at s;cases e:g x y fs with
 | ok a t=>rw [e] at s;exact .inl (h F B H σ fs x y u w Q ok rx ry (by rw [e];exact s))
 | exc c t=>rw [e] at s;exact .inl (h F B H σ fs x y u w Q ok rx ry (by rw [e];exact s))
 | bad=>rw [e] at s;exact .inr (h' F B H σ fs x y u w Q ok rx ry s)
def orC(g g':List Rv->FS->Out Rv):List Rv->FS->Out Rv:=fun x fs=>match g x fs with
 | .bad=>g' x fs
 | o=>o
theorem DW.or{K:Fg}{Z:Xp}{r r':List V->Hp->VK->Prop}{g g':List Rv->FS->Out Rv}(h:DW K Z r g)(h':DW K Z r' g'):DW K Z (Sa r r') (orC g g'):=by
 intro F B H σ fs x u Q ok rx s;unfold orC at s;cases e:g x fs with
 | ok a t=>rw [e] at s;exact .inl (h F B H σ fs x u Q ok rx (by rw [e];exact s))
 | exc c t=>rw [e] at s;exact .inl (h F B H σ fs x u Q ok rx (by rw [e];exact s))
 | bad=>rw [e] at s;exact .inr (h' F B H σ fs x u Q ok rx s)
def exL(fs:FS):Rv->Option (List T)
 | .t (.lst ts)=>some ts
 | .rf i=>match Bg fs i with
  | some (.lst ts)=>some ts
  | _=>none
 | _=>none
theorem SA{K:Fg}{B:Nat->Option V}{F:Wd}{H:Hp}{σ:St}{fs:FS}{x:Rv}{u:V}{ts:List T}(h:Okk K F B H fs σ)(r:CT K F H σ x u)(e:exL fs x=some ts):∃a vs,u=.ref a/\H a=some (.lst vs)/\Aj K F H ts vs:=by
 unfold exL at e;split at e
 ·cases e
  simp only [CT,AM] at r;obtain⟨a,vs,e,f,s,q⟩:=r;exact⟨a,vs,e,s,q⟩
 ·rename_i i
  split at e
  ·rename_i ts' eo
   cases e;obtain⟨v,L2,e1,q,_⟩:=h.own eo;have e2:σ[i]?=some (some u):=r;rw [e1] at e2;have e3:v=u:=by simpa using e2
   subst e3;simp only [AU] at q;obtain⟨a,vs,e,s,q,_⟩:=q;exact⟨a,vs,e,s,q⟩
  ·cases e
 ·cases e
def Jj:Rv->Rv->FS->Out Rv:=fun x y fs=>match exL fs x,exL fs y with
 | some ts,some us=>if ts.length+us.length<=big then .ok (.nw (.lst (ts++us))) fs else .bad
 | _,_=>.bad
def OV:Rv->Rv->FS->Out Rv
 | .t (.tup ts),.t (.tup us),fs=>if ts≠[]/\ts.length+us.length<=big then okT (.tup (ts++us)) fs else .bad
 | _,_,_=>.bad
section
variable{K:Fg}{Z:Xp}
theorem TN:OpF K Z Yg Jj:=by
 intro F B H σ fs x y u w Q ok rx ry s;unfold Jj at s;split at s
 ·rename_i ts us e1 e2
  split at s
  ·rename_i hl
   obtain⟨a,vs,rfl,hs,r⟩:=SA ok rx e1;obtain⟨b,ws,rfl,hs2,r2⟩:=SA ok ry e2;exact⟨a,b,vs,ws,rfl,rfl,hs,hs2,by rw [r.len,r2.len];exact Nat.le_trans hl E8,fun p hp=>s F _ (.ref p) (BE ok hp) (RR.alloc ok hp (DO AK ((r.app r2).le (BE ok hp))))⟩
  ·exact s.elim
 ·exact s.elim
theorem TM:OpF K Z (Vo K) OV:=by
 intro F B H σ fs x y u w Q ok rx ry s;unfold OV at s;split at s
 ·rename_i ts us
  split at s
  ·rename_i hl
   obtain⟨a,vs,rfl,hs,r⟩:=CU (ts:=ts) rx rfl;obtain⟨b,ws,rfl,hs2,r2⟩:=CU (ts:=us) ry rfl;refine⟨a,b,vs,ws,rfl,rfl,hs,hs2,fun z=>hl.1 ?_,by rw [r.len,r2.len];exact Nat.le_trans hl.2 E8,fun z=>?_,fun _ p hp=>s _ _ (.ref p) (Cd ok hp) (Ga ok hp (r.app r2))⟩
   ·have:=r.len
    rw [z] at this;exact List.eq_nil_of_length_eq_zero this.symm
   ·have e:us=[]:=by
     have:=r2.len;rw [z] at this;exact List.eq_nil_of_length_eq_zero this.symm
    subst e;rw [List.append_nil] at s;exact s F H _ Le.refl (RR.of ok rx)
  ·exact s.elim
 ·exact s.elim
def OU:Rv->Rv->FS->Out Rv
 | .t (.tup []),.t (.tup us),fs=>okT (.tup us) fs
 | _,_,_=>.bad
theorem QH:OpF K Z (RY K) OU:=by
 intro F B H σ fs x y u w Q ok rx ry s;unfold OU at s;split at s
 ·rename_i us
  obtain⟨a,vs,rfl,hs,r⟩:=CU (ts:=[]) rx rfl;obtain⟨b,ws,rfl,hs2,r2⟩:=CU (ts:=us) ry rfl;have e:vs=[]:=by simpa [Aj] using r
  subst e;exact⟨a,b,ws,rfl,rfl,hs,hs2,s F H _ Le.refl (RR.of ok ry)⟩
 ·exact s.elim
theorem TL:OpF K Z Vn Uh:=by
 intro F B H σ fs x y u w Q ok rx ry s;unfold Uh at s;split at s
 ·split at s
  ·rename_i t e
   obtain⟨a,o',rfl,hd,h⟩:=Pm ok rx ry e;rcases h with⟨h1,_⟩ | ⟨t',v,h1,h2,h3⟩
   ·cases h1
   ·cases h1
    subst h2;exact⟨a,v,rfl,hd,s F H v Le.refl (RR.of ok h3)⟩
  ·exact s.elim
 ·exact s.elim
theorem N5(neg:Bool):OpF K Z (Xr neg) (Ug neg):=by
 intro F B H σ fs y x w u Q ok ry rx s;unfold Ug at s;split at s
 ·split at s
  ·rename_i t e
   obtain⟨a,o',rfl,hd,h⟩:=Pm ok rx ry e;refine⟨a,o',rfl,hd,?_⟩;have:o'.isSome=t.isSome:=by
    rcases h with⟨h1,h2⟩ | ⟨t',v,h1,h2,h3⟩
    ·rw [h1,h2];rfl
    ·rw [h1,h2];rfl
   rw [this];exact s F H _ Le.refl (RR.of ok rfl)
  ·exact s.elim
 ·exact s.elim
end
def AF:=orG XX (orG Rc (orG Jj (orG OV OU)))
def Bp:=orG U0 Rb
def AX:=orG gIx Uh
def D5(neg:Bool):=orG (Ug neg) (orG (J9 neg) (gIn neg))
def OT:List Rv->FS->Out Rv
 | [.t (.dK ks _)],fs=>okT (.int ks.length) fs
 | [.rf i],fs=>match Bg fs i with
  | some (.dK ks _)=>okT (.int ks.length) fs
  | _=>.bad
 | _,_=>.bad
def AY:=orC XS (orC Lc OT)
def E6:=orC Ue OS
section
variable{K:Fg}{Z:Xp}
theorem UG:DW K Z (fun xs H Q=>∃a kvs,xs=[V.ref a]/\Rd H a (.dK kvs)/\Q (.int kvs.length) H) OT:=by
 intro F B H σ fs rs vs Q ok q s;unfold OT at s;split at s
 ·obtain⟨v,rfl,qq⟩:=Cf q
  have q:=qq;simp only [CT,AM] at q;obtain⟨a,kvs,rfl,f,hd,rfl,r⟩:=q;rw [List.length_map] at s;exact⟨a,kvs,rfl,hd,s F H _ Le.refl (RR.of ok rfl)⟩
 ·rename_i i
  obtain⟨v,rfl,qq⟩:=Cf q;have q:=qq;split at s
  ·rename_i eo
   obtain⟨v',L2,e1,q2,_⟩:=ok.own eo;have e2:σ[i]?=some (some v):=q;rw [e1] at e2;have e3:v'=v:=by simpa using e2
   subst e3;simp only [AU] at q2;obtain⟨a,kvs,rfl,hd,rfl,_⟩:=q2;rw [List.length_map] at s;exact⟨a,kvs,rfl,.inl hd,s F H _ Le.refl (RR.of ok rfl)⟩
  ·exact s.elim
 ·exact s.elim
end
section
variable{X:Cx}{Z:Xp}{a b:Expr}{fa fb:FS->Out Rv}{pos:Pos}
theorem Bw(ha:FE X Z a fa)(hb:FE X Z b fb):FE X Z (.BinOp a .Add b pos) (Ae AF fa fb) :=
 Lg (OpF.or VW (OpF.or TQ (OpF.or TN (OpF.or TM QH)))) (OpR.orR VO (OpR.orR MI (OpR.orR VN (OpR.orR Tw QE)))) ha hb
theorem Su(ha:FE X Z a fa)(hb:FE X Z b fb):FE X Z (.BinOp a .Sub b pos) (Ae Jh fa fb):=Lg VQ VH ha hb
theorem DF(ha:FE X Z a fa)(hb:FE X Z b fb):FE X Z (.BinOp a .Mult b pos) (Ae Bp fa fb):=Lg (OpF.or VT TH) (OpR.orR Tu NU) ha hb
theorem Bv(ha:FE X Z a fa)(hb:FE X Z b fb):FE X Z (.BinOp a .Mod b pos) (Ae BA fa fb):=Lg VU VJ ha hb
theorem CS(ha:FE X Z a fa)(hb:FE X Z b fb):FE X Z (.BinOp a .FloorDiv b pos) (Ae C5 fa fb):=Lg VV Tv ha hb
theorem BS(hu:X.A.units+1 < cLine)(ha:FE X Z a fa)(hb:FE X Z b fb)(hs:Jt b):FE X Z (.Subscript a b pos) (Ae AX fa fb):=XY (OpF.or XG TL) (IxR.orR Sh (Ub hu)) ha hb hs
theorem Wu(ha:FE X Z a fa)(hb:FE X Z b fb):FE X Z (.Compare a [.Eq] [b] pos) (Ae (gEq false) fa fb):=L7 of_eq VM ha hb (E5 _)
theorem Ex(ha:FE X Z a fa)(hb:FE X Z b fb):FT X Z (.Compare a [.Eq] [b] pos) (asB (Ae (gEq false) fa fb)):=FF of_eq VM ha hb (E5 _)
theorem Wk(ha:FE X Z a fa)(hb:FE X Z b fb):FT X Z (.Compare a [.NotEq] [b] pos) (asB (Ae (gEq true) fa fb)):=FF XF XA ha hb (E5 _)
theorem Rf(ha:FE X Z a fa)(hb:FE X Z b fb):FT X Z (.Compare a [.Lt] [b] pos) (asB (Ae gLt fa fb)):=FF of_lt XB ha hb (E5 _)
theorem Jk(ha:FE X Z a fa)(hb:FE X Z b fb):FT X Z (.Compare a [.Gt] [b] pos) (asB (Ae gGt fa fb)):=FF XH XC ha hb (E5 _)
theorem XZ(hu:X.A.units+1 < cLine)(ha:FE X Z a fa)(hb:FE X Z b fb)(hm:behindInMarks .In b=false:=by rfl):FE X Z (.Compare a [.In] [b] pos) (Ae (D5 false) fa fb) :=
 L7 (OpF.or (N5 false) (OpF.or LN (TJ false))) (OpR.orR (Sb hu) (OpR.orR JW JX)) ha hb hm
theorem Rg(hu:X.A.units+1 < cLine)(ha:FE X Z a fa)(hb:FE X Z b fb)(hm:behindInMarks .In b=false:=by rfl):FT X Z (.Compare a [.In] [b] pos) (asB (Ae (D5 false) fa fb)) :=
 FF (OpF.or (N5 false) (OpF.or LN (TJ false))) (OpR.orR (Sb hu) (OpR.orR JW JX)) ha hb hm
theorem FD(hu:X.A.units+1 < cLine)(ha:FE X Z a fa)(hb:FE X Z b fb)(hm:behindInMarks .NotIn b=false:=by rfl):FT X Z (.Compare a [.NotIn] [b] pos) (asB (Ae (D5 true) fa fb)) :=
 FF (OpF.or (N5 true) (OpF.or KS (TJ true))) (OpR.orR (NV hu) (OpR.orR JU JV)) ha hb hm
end
def itU(f:FS->Out Rv):FS->Out (List T):=fun fs=>(f fs).bnd fun r fs=>match r with
 | .t (.lst ts)=>.ok ts fs
 | .t (.scr ts)=>.ok ts fs
 | .t (.tup ts)=>.ok ts fs
 | .t (.str z)=>.ok (signs z) fs
 | _=>.bad
theorem CQ{X:Cx}{Z:Xp}{tg l:Expr}{f:FS->Out Rv}(hl:FE X Z l f):FI X Z tg l (itU f):=by
 refine NO (Vw hl) fun σ H Q ⟨F,B,fs,ok,s⟩=>⟨F,B,fs,ok,By s fun r fs1 F1 H1 u l ok1 rx s1=>?_⟩
 split at s1
 ·rename_i ts
  simp only [CT,AM] at rx;obtain⟨a,vs,rfl,ff,hs,r⟩:=rx;exact .inl ⟨a,rfl,⟨vs,SqL.of hs⟩,s1 F1 H1 _ Le.refl ⟨ok1,LS (fun F' H' l=>SqL.of ((l a ff).2.trans hs)) r⟩⟩
 ·rename_i ts
  simp only [CT,AM] at rx;obtain⟨a,vs,rfl,hs,r⟩:=rx;exact .inl ⟨a,rfl,⟨vs,hs.sq⟩,s1 F1 H1 _ Le.refl ⟨ok1,LS (fun F' H' l=>(StL.lf l hs).sq) r⟩⟩
 ·rename_i ts
  simp only [CT,AM] at rx;obtain⟨a,vs,rfl,hs,r⟩:=rx;exact .inr (.inl ⟨a,rfl,⟨vs,hs.sq⟩,s1 F1 H1 _ Le.refl ⟨ok1,T7 (fun F' H' l=>SqT.of ((l a hs.2.1).2.trans hs.2.2)) r⟩⟩)
 ·rename_i z
  exact .inr (.inr ⟨z,rx,s1 F1 H1 _ Le.refl ⟨ok1,T8⟩⟩)
 ·exact s1.elim
def MY:Rv->Rv->Rv->FS->SO
 | .rf i,.t (.int k),.t t,fs=>match Bg fs i with
  | some (.lst ts)=>match ixN ts.length k with
   | some j=>.nx (putAt fs i (.lst (ts.set j t)))
   | none=>.bad
  | _=>.bad
 | _,_,_,_=>.bad
def OP:Rv->Rv->Rv->FS->SO
 | .rf i,.t y,.t t,fs=>match Bg fs i with
  | some (.dK ks ts)=>match Nh y with
   | some k=>if ks.length < big then .nx (putAt fs i (.dK (IM ks ts k t).1 (IM ks ts k t).2)) else .bad
   | none=>.bad
  | some (.dT ks ts)=>match y with
   | .tup ys=>match KC ys with
    | some k=>if ks.length < big then .nx (putAt fs i (.dT (IM ks ts k t).1 (IM ks ts k t).2)) else .bad
    | none=>.bad
   | _=>.bad
  | _=>.bad
 | _,_,_,_=>.bad
def Q7:Rv->Rv->Rv->FS->SO:=fun o i v fs=>match MY o i v fs with
 | .bad=>OP o i v fs
 | s=>s
def Cq(fv fo fi:FS->Out Rv):FS->SO:=fun fs=>SO.of ((fv fs).bnd fun v fs=>(fo fs).bnd fun o fs=>(fi fs).bnd fun i fs=>.ok (v,o,i) fs) fun(v,o,i) fs=>Q7 o i v fs
section
variable{K:Fg}{Z:Xp}{B:Nat->Option V}{F:Wd}{H:Hp}{σ:St}{fs:FS}{D:Ends}
theorem Q8{o i v:Rv}{uo ui uv:V}(ok:Okk K F B H fs σ)(ro:CT K F H σ o uo)(ri:CT K F H σ i ui)(rv:CT K F H σ v uv)(s:FY K Z B F H (MY o i v fs) D):Qq uo ui uv H (fun H3=>D.nx σ H3):=by
 unfold MY at s;split at s
 ·rename_i i k t
  split at s
  ·rename_i ts e
   split at s
   ·rename_i j ej
    obtain⟨a,us,rfl,hs,r,kk⟩:=ok.list ro e;obtain⟨ok',l⟩:=kk (ts.set j t) (us.set j uv) (Aj.set rv j r);exact⟨a,us,k,j,rfl,ri,hs,by rw [r.len];exact ej,s F _ σ l ok'⟩
   ·exact s.elim
  ·exact s.elim
 ·exact s.elim
theorem Q9{o i v:Rv}{uo ui uv:V}(ok:Okk K F B H fs σ)(ro:CT K F H σ o uo)(ri:CT K F H σ i ui)(rv:CT K F H σ v uv)(s:FY K Z B F H (OP o i v fs) D):Qr uo ui uv H (fun H3=>D.nx σ H3):=by
 unfold OP at s;split at s
 ·rename_i i y t
  split at s
  ·rename_i ks ts e
   split at s
   ·rename_i k ek
    split at s
    ·rename_i hl
     obtain⟨v,L2,e1,q,nf,_,kk⟩:=ok.own e;have e2:σ[i]?=some (some uo):=ro;rw [e1] at e2;have e3:v=uo:=by simpa using e2
     subst e3;simp only [AU] at q;obtain⟨a,kvs,rfl,hs,rfl,q,rfl⟩:=q;have:=GK ek ri;subst this;refine⟨a,_,rfl,Qa.k hs (by rw [List.length_map] at hl;exact Nat.lt_trans hl Iy),?_⟩;obtain⟨h1,h2⟩:=IL (j:=k) rv q;have l:Le F H F (upd H a (.dK (putK kvs k uv))):=⟨fun b f=>⟨f,Ay fun z=>(nf a (by simp)).1 (z▸f)⟩,fun b f=>⟨f,Ay fun z=>(nf a (by simp)).2 (z▸f)⟩⟩
     obtain⟨ok',l'⟩:=kk (.dK (IM (kvs.map (·.1)) ts k t).1 (IM (kvs.map (·.1)) ts k t).2) (upd H a (.dK (putK kvs k uv))) (fun b hb _=>Ay (by simpa using hb)) (by
      simp only [AU];exact⟨a,_,rfl,AK,h1,h2.le l,rfl⟩)
     exact s F _ σ l' ok'
    ·exact s.elim
   ·exact s.elim
  ·rename_i ks ts e
   split at s
   ·rename_i ys
    split at s
    ·rename_i k ek
     split at s
     ·rename_i hl
      obtain⟨v,L2,e1,q,nf,_,kk⟩:=ok.own e;have e2:σ[i]?=some (some uo):=ro;rw [e1] at e2;have e3:v=uo:=by simpa using e2
      subst e3;simp only [AU] at q;obtain⟨a,kvs,rfl,hs,rfl,q,rfl⟩:=q;simp only [CT,AM] at ri;obtain⟨b,vs,rfl,hb,rb⟩:=ri;have:=GX ek rb;subst this;refine⟨a,_,rfl,Qa.t hs hb.2.2 (by rw [List.length_map] at hl;exact Nat.lt_trans hl Iy),?_⟩;obtain⟨h1,h2⟩:=IL (j:=k) rv q;have l:Le F H F (upd H a (.dT (putK kvs k uv))):=⟨fun b f=>⟨f,Ay fun z=>(nf a (by simp)).1 (z▸f)⟩,fun b f=>⟨f,Ay fun z=>(nf a (by simp)).2 (z▸f)⟩⟩
      obtain⟨ok',l'⟩:=kk (.dT (IM (kvs.map (·.1)) ts k t).1 (IM (kvs.map (·.1)) ts k t).2) (upd H a (.dT (putK kvs k uv))) (fun b hb _=>Ay (by simpa using hb)) (by
       simp only [AU];exact⟨a,_,rfl,AK,h1,h2.le l,rfl⟩)
      exact s F _ σ l' ok'
     ·exact s.elim
    ·exact s.elim
   ·exact s.elim
  ·exact s.elim
 ·exact s.elim
end
theorem Fz{X:Cx}{Z:Xp}{o i e:Expr}{fv fo fi:FS->Out Rv}{tpos pos:Pos}(hu:X.A.units+1 < cLine)(he:FE X Z e fv)(ho:FE X Z o fo)(hi:FE X Z i fi)
  (h:∀{te to ti:TE} {t:RK},PE X e te->PE X o to->PE X i ti->P8 X t->PS X (.Assign [.Subscript o i tpos] e pos) (UW te (W2 to ti t))):GS X Z (.Assign [.Subscript o i tpos] e pos) (Cq fv fo fi):=by
 refine Dh (h he ho hi (P8.orR set_list (set_dict hu))) fun D σ H ⟨F,B,fs,ok,s⟩=>?_
 have s':sat Z B (RR X.K B σ) F H (fv fs) (fun v H1=>W2 (tF X.K Z fo) (tF X.K Z fi) (Ts Qq Qr) v σ H1 D.nx):=by
  have s1:=CV (R:=fun F' H' fs' (a:Rv×Rv×Rv) (b:V×V×V)=>Okk X.K F' B H' fs' σ/\CT X.K F' H' σ a.1 b.1/\CT X.K F' H' σ a.2.1 b.2.1/\CT X.K F' H' σ a.2.2 b.2.2) (Q:=fun b H3=>Ts Qq Qr b.2.1 b.2.2 b.1 H3 fun H4=>D.nx σ H4) s (fun a fs' F' H' b l q s2=>by
   obtain⟨q1,q2,q3,q4⟩:=q;obtain⟨v,o,i⟩:=a;dsimp only at s2 q2 q3 q4 ⊢;unfold Q7 at s2;split at s2
   ·exact .inr (Q9 q1 q3 q4 q2 s2)
   ·exact .inl (Q8 q1 q3 q4 q2 s2))
  refine By s1 fun v fs1 F1 H1 uv l1 ok1 rv s2=>?_
  refine⟨F1,B,fs1,ok1,By s2 fun o fs2 F2 H2 uo l2 ok2 ro s3=>⟨F2,B,fs2,ok2,By s3 fun i fs3 F3 H3 ui l3 ok3 ri s4=>?_⟩⟩;exact s4 F3 H3 (uv,uo,ui) Le.refl ⟨ok3,(rv.le l2).le l3,ro.le l3,ri⟩
 exact⟨F,B,fs,ok,s'⟩
section
variable{K:Fg}{B:Nat->Option V}{F F':Wd}{H H':Hp}{σ:St}{fs:FS}{i:Nat}{ob:FO}{r:Rv}{u:V}
theorem RR.put(h:RR K B σ F H fs r u)(e:Bg fs i=some ob):∃v L2 L',σ[i]?=some (some v)/\AU K F H ob v L2/\Ng K F H σ r u L'/\(L2++L').Nodup/\(∀a∈L2++L',¬ F a/\¬ F.p a) /\
  ∀ob' H' M,(∀a,a∉L2->H a≠none->H' a=H a)->AU K F H' ob' v M->M.Nodup->(∀b∈M,b∈L2∨b∈L')->Okk K F B H' (putAt fs i ob') σ/\Le F H F H':=by
 obtain⟨L,L',h,qr,ndr,nfr⟩:=h;have key:∀s:Sl,fs[i]?=some (some s)->(s=.own ob∨s=.bor ob)->∃v L2 L',σ[i]?=some (some v)/\AU K F H ob v L2/\Ng K F H σ r u L'/\(L2++L').Nodup/\(∀a∈L2++L',¬ F a/\¬ F.p a) /\
  ∀ob' H' M,(∀a,a∉L2->H a≠none->H' a=H a)->AU K F H' ob' v M->M.Nodup->(∀b∈M,b∈L2∨b∈L')->Okk K F B H' (fs.set i (some (s.put ob'))) σ/\Le F H F H':=by
  intro s es ho;obtain⟨v,L1,L2,L3,e1,rfl,h1,h2⟩:=h.sl.pick es;obtain⟨u',rfl,q⟩:∃u,v=some u/\AU K F H ob u L2:=by
   rcases ho with rfl | rfl
   ·exact h1
   ·exact h1
  have nd:=h.nd;have dis:∀a∈L1++L3,a∉L2:=fun a ha hb=>by
   rw [List.nodup_append] at nd;rcases List.mem_append.mp ha with ha | ha
   ·exact nd.2.2 a ha a (List.mem_append_left _ hb) rfl
   ·have:=(List.nodup_append.mp nd.2.1).2.2
    exact this a hb a ha rfl
  have ndr':=List.nodup_append.mp ndr;have dis':∀a∈L1++L3,a∉L':=fun a ha hb=>ndr'.2.2 a (by
   rcases List.mem_append.mp ha with ha | ha
   ·simp [ha]
   ·simp [ha]) a hb rfl
  refine⟨u',L2,L',e1,q,qr,?_,fun a m=>?_,fun ob' H' M k q' hm hsub=>?_⟩
  ·rw [List.nodup_append]
   refine⟨?_,ndr'.2.1,fun a ha b hb=>ndr'.2.2 a (by simp [ha]) b hb⟩;rw [List.nodup_append] at nd;exact(List.nodup_append.mp nd.2.1).1
  ·rcases List.mem_append.mp m with m | m
   ·exact⟨h.nf a (by simp [m]),h.pl a (by simp [m])⟩
   ·exact nfr a m
  ·have l:Le F H F H':=⟨fun a f=>⟨f,k a (fun m=>h.nf a (by simp [m]) f) (h.fd a f)⟩,fun a f=>⟨f,k a (fun m=>h.pl a (by simp [m]) f) (h.pd a f)⟩⟩
   have nfM:∀a∈L1++(M++L3),¬ F a/\¬ F.p a:=fun a m=>by
    rcases List.mem_append.mp m with m | m
    ·exact⟨h.nf a (by simp [m]),h.pl a (by simp [m])⟩
    ·rcases List.mem_append.mp m with m | m
     ·rcases hsub a m with z | z
      ·exact⟨h.nf a (by simp [z]),h.pl a (by simp [z])⟩
      ·exact nfr a z
     ·exact⟨h.nf a (by simp [m]),h.pl a (by simp [m])⟩
   refine⟨⟨L1++(M++L3),?_,D3 nd hm (fun a m m2=>?_),fun a m=>(nfM a m).1,fun a f=>by rw [(l.f a f).2];exact h.fd a f,?_,fun a f=>by rw [(l.p a f).2];exact h.pd a f,h.pf,fun a m=>(nfM a m).2⟩,l⟩
   ·have hL:∀a∈L1++L3,H' a=H a:=fun a m=>k a (dis a m) (h.sl.def a (by
      rcases List.mem_append.mp m with m | m
      ·simp [m]
      ·simp [m]))
    have h3:=h2 F H' (some (s.put ob')) (some u') M l hL (by
     rcases ho with rfl | rfl
     ·exact⟨u',rfl,q'⟩
     ·exact⟨u',rfl,q'⟩)
    rwa [DN e1] at h3
   ·rcases hsub a m with z | z
    ·exact dis a m2 z
    ·exact dis' a m2 z
   ·have:=HK.put (i:=i) (s:=some (s.put ob')) (v:=some u') h.bo (fun o eo=>by
     rcases ho with rfl | rfl
     ·cases eo
     ·obtain⟨w,e3,e4⟩:=h.bo i ob es
      rw [e1] at e3;have e5:u'=w:=by simpa using e3
      exact⟨u',rfl,by rw [e5];exact e4⟩) h.sl.len
    rwa [DN e1] at this
 unfold Bg at e;split at e
 ·rename_i o es
  cases e;obtain⟨v,L2,L',a1,a2,a3,a4,a5,a6⟩:=key _ es (.inl rfl);refine⟨v,L2,L',a1,a2,a3,a4,a5,fun ob' H' M k q m1 m2=>?_⟩;have:=a6 ob' H' M k q m1 m2;unfold putAt;rw [es];exact this
 ·rename_i o es
  cases e;obtain⟨v,L2,L',a1,a2,a3,a4,a5,a6⟩:=key _ es (.inr rfl);refine⟨v,L2,L',a1,a2,a3,a4,a5,fun ob' H' M k q m1 m2=>?_⟩;have:=a6 ob' H' M k q m1 m2;unfold putAt;rw [es];exact this
 ·cases e
end
def X6:Rv->Option FO
 | .t t=>some (.val t)
 | .nw o=>some o
 | .rf _=>none
def HM:List Str->List FO->Str->FO->Option (List Str×List FO)
 | [],[],f,o=>some ([f],[o])
 | g :: gs,x :: os,f,o=>if g=f then(match x with
   | .val _=>some (g :: gs,o :: os)
   | _=>none) else(HM gs os f o).map fun p=>(g :: p.1,x :: p.2)
 | _,_,_,_=>none
theorem JN{K:Fg}{F:Wd}{H:Hp}{f:Str}{o:FO}{y:V}{L':List Addr}(ro:AU K F H o y L'):∀{kvs:List (Str×V)} {os os':List FO} {gs':List Str} {L:List Addr},AE K F H os (kvs.map (·.2)) L->HM (kvs.map (·.1)) os f o=some (gs',os') ->
  ∃M,(Gw f y kvs).map (·.1)=gs'/\AE K F H os' ((Gw f y kvs).map (·.2)) M/\(∀a∈M,a∈L∨a∈L')/\((L++L').Nodup->M.Nodup)
 | [],os,os',gs',L,r,e=>by
  cases os with
  | cons x os=>simp [HM] at e
  | nil =>
   simp only [List.map_nil,HM,Option.some.injEq,Prod.mk.injEq] at e;obtain⟨rfl,rfl⟩:=e;refine⟨L',rfl,?_,fun a m=>.inr m,fun nd=>(List.nodup_append.mp nd).2.1⟩;simp only [Gw,List.map_cons,List.map_nil,AE];exact⟨y,[],L',[],rfl,ro,⟨rfl,rfl⟩,by simp⟩
 | (g,x) :: kvs,os,os',gs',L,r,e=>by
  cases os with
  | nil=>simp [HM] at e
  | cons o1 os =>
   simp only [List.map_cons,AE] at r;obtain⟨v,w,L1,L2,ee,r1,r2,rfl⟩:=r;cases ee;simp only [List.map_cons,HM] at e;by_cases hg:g=f
   ·rw [if_pos hg] at e
    cases o1 with
    | val t =>
     simp only [Option.some.injEq,Prod.mk.injEq] at e;obtain⟨rfl,rfl⟩:=e;simp only [AU] at r1;obtain⟨rfl,_⟩:=r1;refine⟨L'++L2,?_,?_,fun a m=>?_,fun nd=>?_⟩
     ·simp only [Gw];rw [if_pos hg];rfl
     ·simp only [Gw]
      rw [if_pos hg];simp only [List.map_cons,AE];exact⟨y,_,L',L2,rfl,ro,r2,rfl⟩
     ·rcases List.mem_append.mp m with m | m
      ·exact .inr m
      ·exact .inl (by simpa using m)
     ·rw [List.nil_append] at nd
      exact(List.perm_append_comm).nodup_iff.mp nd
    | lst _=>cases e
    | dK _ _=>cases e
    | dT _ _=>cases e
    | ins _ _ _=>cases e
    | los _=>cases e
    | tpl _=>cases e
   ·rw [if_neg hg,Option.map_eq_some_iff] at e
    obtain⟨p,ep,e⟩:=e;simp only [Prod.mk.injEq] at e;obtain⟨rfl,rfl⟩:=e;obtain⟨M,m1,m2,m3,m4⟩:=JN ro r2 (gs':=p.1) (os':=p.2) (by rw [ep]);refine⟨L1++M,?_,?_,fun a m=>?_,fun nd=>?_⟩
    ·simp only [Gw];rw [if_neg hg,List.map_cons,m1]
    ·simp only [Gw]
     rw [if_neg hg];simp only [List.map_cons,AE];exact⟨x,_,L1,M,rfl,r1,m2,rfl⟩
    ·rcases List.mem_append.mp m with m | m
     ·exact .inl (List.mem_append_left _ m)
     ·rcases m3 a m with z | z
      ·exact .inl (List.mem_append_right _ z)
      ·exact .inr z
    ·rw [List.append_assoc,List.nodup_append] at nd
     rw [List.nodup_append];refine⟨nd.1,m4 nd.2.1,fun a ha b hb e=>?_⟩;rcases m3 b hb with z | z
     ·exact nd.2.2 a ha b (List.mem_append_left _ z) e
     ·exact nd.2.2 a ha b (List.mem_append_right _ z) e
def U3(C:Addr)(f:Str)(i:Nat)(fv:FS->Out Rv):FS->SO:=fun fs=>SO.of (fv fs) fun r fs=>match X6 r,Bg fs i with
 | some o,some (.ins C' gs os)=>if C'=C/\gs.length < 900 then(match HM gs os f o with
   | some p=>.nx (putAt fs i (.ins C p.1 p.2))
   | none=>.bad) else .bad
 | _,_=>.bad
theorem OO{X:Cx}{Z:Xp}{x f:Str}{e:Expr}{fv:FS->Out Rv}{C:Addr}{p1 p2 pos:Pos}(c:Cls X.K C)(n:El X.K C f)(i:Nat)(he:FE X Z e fv)
  (h:∀{tv:TE},PE X e tv->PS X (.Assign [.Attribute (.Name x p1) f p2] e pos) (Yb X.K (Va i) tv f)):GS X Z (.Assign [.Attribute (.Name x p1) f p2] e pos) (U3 C f i fv):=by
 refine Dh (h he) fun D σ H ⟨F,B,fs,ok,s⟩=>⟨F,B,fs,ok,CV s fun r fs1 F1 H1 u l q s1=>?_⟩
 split at s1
 ·rename_i o C' gs os e1 e2
  split at s1
  ·rename_i hC
   obtain⟨rfl,hl⟩:=hC;split at s1
   ·rename_i p ep
    obtain⟨v,L2,L',a1,a2,a3,a4,a5,a6⟩:=RR.put q e2;simp only [AU] at a2;obtain⟨a,dx,kvs,L3,rfl,hd,rfl,ro,rfl⟩:=a2;have rfo:AU X.K F1 H1 o u L':=by
     cases r with
     | t t =>
      cases e1;simp only [AU];exact a3
     | nw o'=>cases e1;exact a3
     | rf j=>cases e1
    obtain⟨M,m1,m2,m3,m4⟩:=JN rfo ro (gs':=p.1) (os':=p.2) (by rw [ep]);have nd2:(L3++L').Nodup:=(List.nodup_cons.mp a4).2;have na:a∉L3++L':=(List.nodup_cons.mp a4).1;have naM:a∉M:=fun z=>na (by
     rcases m3 a z with z | z
     ·exact List.mem_append_left _ z
     ·exact List.mem_append_right _ z)
    have k1:∀b,b∉a :: L3->H1 b≠none->(upd H1 a (.ins C' dx (Gw f u kvs))) b=H1 b:=fun b hb _=>Ay fun z=>hb (by rw [z];simp)
    have l1:Le F1 H1 F1 (upd H1 a (.ins C' dx (Gw f u kvs))):=⟨fun b f=>⟨f,Ay fun z=>(a5 a (by simp)).1 (z▸f)⟩,fun b f=>⟨f,Ay fun z=>(a5 a (by simp)).2 (z▸f)⟩⟩
    obtain⟨ok',l'⟩:=a6 (.ins C' p.1 p.2) (upd H1 a (.ins C' dx (Gw f u kvs))) (a :: M) k1 (by
     simp only [AU];exact⟨a,dx,_,M,rfl,AK,m1,AE.le l1 (fun b hb=>Ay fun z=>naM (z▸hb)) m2,rfl⟩) (List.nodup_cons.mpr ⟨naM,m4 nd2⟩) (fun b hb=>by
     rcases List.mem_cons.mp hb with z | z
     ·exact .inl (by rw [z];simp)
     ·rcases m3 b z with z | z
      ·exact .inl (List.mem_cons_of_mem _ z)
      ·exact .inr z)
    exact⟨_,a1,a,C',dx,kvs,rfl,hd,c,n,by rw [List.length_map] at hl;omega,s1 F1 _ σ l' ok'⟩
   ·exact s1.elim
  ·exact s1.elim
 ·exact s1.elim
def FZ:List Str->List FO->Str->FO->List FO
 | g :: gs,x :: os,f,o=>if f == g then o :: os else x :: FZ gs os f o
 | _,os,_,_=>os
theorem JG{K:Fg}{F:Wd}{H:Hp}{f:Str}{ks:List Key}{ts:List T}:∀{kvs:List (Str×V)} {os:List FO} {L:List Addr},AE K F H os (kvs.map (·.2)) L->L.Nodup->Em (kvs.map (·.1)) os f=some (.dK ks ts) ->
  ∃b dkvs,kvs.lookup f=some (.ref b)/\b∈L/\H b=some (.dK dkvs)/\dkvs.map (·.1)=ks/\Aj K F H ts (dkvs.map (·.2)) /\
   ∀H' o',(∀a∈L,a≠b->H' a=H a)->Le F H F H'->AU K F H' o' (.ref b) [b]->AE K F H' (FZ (kvs.map (·.1)) os f o') (kvs.map (·.2)) L
 | [],os,L,r,nd,e=>by cases os <;> simp [Em] at e
 | (g,x) :: kvs,os,L,r,nd,e=>by
  cases os with
  | nil=>simp [Em] at e
  | cons o1 os =>
   simp only [List.map_cons,AE] at r;obtain⟨v,w,L1,L2,ee,r1,r2,rfl⟩:=r;cases ee;simp only [List.map_cons,Em] at e;rw [List.lookup_cons];have nd':=List.nodup_append.mp nd;cases hb:f == g with
   | true =>
    rw [hb] at e;cases e;simp only [AU] at r1;obtain⟨b,dkvs,rfl,hd,rfl,rt,rfl⟩:=r1;refine⟨b,dkvs,rfl,by simp,hd,rfl,rt,fun H' o' k l ro=>?_⟩;simp only [List.map_cons,FZ,hb,if_true,AE];refine⟨.ref b,_,[b],L2,rfl,ro,AE.le l (fun a m=>k a (by simp [m]) fun z=>nd'.2.2 b (by simp) a m z.symm) r2,rfl⟩
   | false =>
    rw [hb] at e;obtain⟨b,dkvs,h1,h2,h3,h4,h5,h6⟩:=JG r2 nd'.2.1 (by simpa using e);refine⟨b,dkvs,h1,List.mem_append_right _ h2,h3,h4,h5,fun H' o' k l ro=>?_⟩;have:=h6 H' o' (fun a m=>k a (List.mem_append_right _ m)) l ro;simp only [List.map_cons,FZ,hb,AE];exact⟨x,_,L1,L2,rfl,r1.le l fun a m=>k a (List.mem_append_left _ m) fun z=>nd'.2.2 a m b h2 z,this,rfl⟩
def D6(C:Addr)(f:Str)(i j:Nat)(fv:FS->Out Rv):FS->SO:=fun fs=>SO.of (fv fs) fun r fs=>match r,Bg fs i,fs[j]? with
 | .t t,some (.ins C' gs os),some (some (.val y))=>if C'=C then(match Em gs os f,Nh y with
   | some (.dK ks ts),some k=>if ks.length < big then .nx (putAt fs i (.ins C gs (FZ gs os f (.dK (IM ks ts k t).1 (IM ks ts k t).2)))) else .bad
   | _,_=>.bad) else .bad
 | _,_,_=>.bad
theorem Jf{X:Cx}{Z:Xp}{x y f:Str}{e:Expr}{fv:FS->Out Rv}{C:Addr}{p1 p2 p3 p4 pos:Pos}(c:Cls X.K C)(n:El X.K C f)(i j:Nat)(he:FE X Z e fv)
  (h:∀{tv:TE},PE X e tv->PS X (.Assign [.Subscript (.Attribute (.Name x p1) f p2) (.Name y p3) p4] e pos) (Vj (Ya X.K (Va i) f) (Va j) tv)) :
  GS X Z (.Assign [.Subscript (.Attribute (.Name x p1) f p2) (.Name y p3) p4] e pos) (D6 C f i j fv):=by
 refine Dh (h he) fun D σ H ⟨F,B,fs,ok,s⟩=>⟨F,B,fs,ok,CV s fun r fs1 F1 H1 u l q s1=>?_⟩
 split at s1
 ·rename_i t C' gs os y' e2 e3
  split at s1
  ·rename_i hC
   subst hC;split at s1
   ·rename_i ks ts k e4 e5
    split at s1
    ·rename_i hl
     have rt:AM X.K F1 H1 t u:=by obtain⟨_,_,_,⟨_,q⟩,_⟩:=q;exact q
     have ok1:=q.ok;obtain⟨v,L2,a1,a2,a3,a4,a5⟩:=ok1.own e2;simp only [AU] at a2;obtain⟨a,dx,kvs,L3,rfl,hd,rfl,ro,rfl⟩:=a2;have ndc:=List.nodup_cons.mp a4;obtain⟨b,dkvs,b1,b2,b3,rfl,b5,b6⟩:=JG ro ndc.2 e4;obtain⟨L9,o9⟩:=id ok1;obtain⟨w,M1,M2,M3,e6,_,h1,_⟩:=o9.sl.pick e3;obtain⟨uy,rfl,ry,_⟩:=h1;have:=GK e5 ry;subst this;have hab:a≠b:=fun z=>ndc.1 (z▸b2)
     obtain⟨h1,h2⟩:=IL (j:=k) rt b5;have nb:=a3 b (List.mem_cons_of_mem _ b2);have l1:Le F1 H1 F1 (upd H1 b (.dK (putK dkvs k u))):=⟨fun z f=>⟨f,Ay fun q=>nb.1 (q▸f)⟩,fun z f=>⟨f,Ay fun q=>nb.2 (q▸f)⟩⟩
     obtain⟨ok',l'⟩:=a5 (.ins C' (kvs.map (·.1)) (FZ (kvs.map (·.1)) os f (.dK (IM (dkvs.map (·.1)) ts k t).1 (IM (dkvs.map (·.1)) ts k t).2))) (upd H1 b (.dK (putK dkvs k u))) (fun z hz _=>Ay fun q=>hz (by rw [q];exact List.mem_cons_of_mem _ b2)) (by
      simp only [AU];refine⟨a,dx,kvs,L3,rfl,by rw [Ay hab];exact hd,rfl,b6 _ _ (fun z _ hz=>Ay hz) l1 ?_,rfl⟩;simp only [AU];exact⟨b,_,rfl,AK,h1,h2.le l1,rfl⟩)
     exact⟨_,a1,a,C',dx,kvs,.ref b,rfl,hd,c,n,b1,kV k,e6,b,_,rfl,Qa.k b3 (by rw [List.length_map] at hl;exact Nat.lt_trans hl Iy),s1 F1 _ σ l' ok'⟩
    ·exact s1.elim
   ·exact s1.elim
  ·exact s1.elim
 ·exact s1.elim
section
variable{X:Cx}{Z:Xp}{e:Expr}{es:List Expr}{fa:FS->Out (List Rv)}{pos p:Pos}
theorem BP(hm:X.mg "len"=none)(ha:FA X Z (e :: es) fa)(hg:Gl X "len":=by rfl)(he:starEach (e :: es) X.env=(false,eval e X.env) :: starEach es X.env:=by rfl)(hpl:(backTo pos (starEach es X.env)).any (·.1)=false:=by rfl) :
  FE X Z (.Call (.Name "len" p) (e :: es) [] pos) (Am AY fa):=EM (DW.or WJ (DW.or UD UG)) (DJ.orR Gz (DJ.orR Kp Nb)) hm PySem.boot_len ha hg (by decide) (by decide) he hpl
theorem Pa(hm:X.mg "min"=none)(ha:FA X Z (e :: es) fa)(hc:X.calm=true:=by rfl)(hg:Gl X "min":=by rfl)(he:starEach (e :: es) X.env=(false,eval e X.env) :: starEach es X.env:=by rfl)(hpl:(backTo pos (starEach es X.env)).any (·.1)=false:=by rfl) :
  FE X Z (.Call (.Name "min" p) (e :: es) [] pos) (Am HV fa):=EM UA (PF hc) hm PyProof.Rows.boot_min ha hg (by decide) (by decide) he hpl
theorem Ss(hm:X.mg "sum"=none)(ha:FA X Z (e :: es) fa)(hc:X.calm=true:=by rfl)(hg:Gl X "sum":=by rfl)(he:starEach (e :: es) X.env=(false,eval e X.env) :: starEach es X.env:=by rfl)(hpl:(backTo pos (starEach es X.env)).any (·.1)=false:=by rfl) :
  FE X Z (.Call (.Name "sum" p) (e :: es) [] pos) (Am Q6 fa):=EM WI (Rz hc) hm PyProof.Rows.boot_sum ha hg (by decide) (by decide) he hpl
theorem Wv(hm:X.mg "all"=none)(ha:FA X Z (e :: es) fa)(hc:X.calm=true:=by rfl)(hg:Gl X "all":=by rfl)(he:starEach (e :: es) X.env=(false,eval e X.env) :: starEach es X.env:=by rfl)(hpl:(backTo pos (starEach es X.env)).any (·.1)=false:=by rfl) :
  FE X Z (.Call (.Name "all" p) (e :: es) [] pos) (Am U1 fa):=EM WK (RC hc) hm PyProof.Rows.boot_all ha hg (by decide) (by decide) he hpl
theorem Lh(hm:X.mg "list"=none)(ha:FA X Z (e :: es) fa)(hc:X.calm=true:=by rfl)(hg:Gl X "list":=by rfl)(he:starEach (e :: es) X.env=(false,eval e X.env) :: starEach es X.env:=by rfl)(hpl:(backTo pos (starEach es X.env)).any (·.1)=false:=by rfl) :
  FE X Z (.Call (.Name "list" p) (e :: es) [] pos) (Am E6 fa):=Hy (DW.or UC Ry) (DJ.orR Ko (HE hc)) hm PyProof.Rows.boot_list ha hg (by decide) (by decide) he hpl
theorem L5(hm:X.mg "tuple"=none)(ha:FA X Z (e :: es) fa)(hg:Gl X "tuple":=by rfl)(he:starEach (e :: es) X.env=(false,eval e X.env) :: starEach es X.env:=by rfl)(hpl:(backTo pos (starEach es X.env)).any (·.1)=false:=by rfl) :
  FE X Z (.Call (.Name "tuple" p) (e :: es) [] pos) (Am FC fa):=Hy Rx Jp hm PyProof.Rows.boot_tuple ha hg (by decide) (by decide) he hpl
theorem Uo(hm:X.mg "int"=none)(ha:FA X Z (e :: es) fa)(hg:Gl X "int":=by rfl)(he:starEach (e :: es) X.env=(false,eval e X.env) :: starEach es X.env:=by rfl)(hpl:(backTo pos (starEach es X.env)).any (·.1)=false:=by rfl) :
  FE X Z (.Call (.Name "int" p) (e :: es) [] pos) (Am Ji fa):=Hy UH PJ hm PyProof.Rows.boot_int ha hg (by decide) (by decide) he hpl
end
def Yc(f:FS->Out Rv):FS->Out Rv:=fun fs=>(f fs).bnd fun r fs=>match Dn fs r with
 | some ts=>.ok (.nw (.lst ts.reverse)) fs
 | none=>.bad
theorem M6{X:Cx}{Z:Xp}{a:Expr}{f:FS->Out Rv}{p1 p2 pos1 pos2:Pos}(hc:X.calm=true)(hm1:X.mg "list"=none)(hm2:X.mg "reversed"=none)(ha:FE X Z a f)(hg1:Gl X "list":=by rfl)(hg2:Gl X "reversed":=by rfl)
  (he:starEach [(.Call (.Name "reversed" p2) [a] [] pos2:Expr)] X.env=[(false,eval (.Call (.Name "reversed" p2) [a] [] pos2) X.env)]:=by rfl) (he2:starEach [a] X.env=[(false,eval a X.env)]:=by rfl) :
  FE X Z (.Call (.Name "list" p1) [.Call (.Name "reversed" p2) [a] [] pos2] [] pos1) (Yc f):=by
 refine BN (MF hc hm1 hm2 ha hg1 hg2 he he2) fun σ H Q ⟨F,B,fs,ok,s⟩=>⟨F,B,fs,ok,By s fun r fs1 F1 H1 u l ok1 rx s1=>?_⟩
 split at s1
 ·rename_i ts ets
  obtain⟨a,vs,rfl,hs,q⟩:=BK ok1 rx ets;exact⟨a,vs,rfl,hs,fun d hd=>s1 F1 _ (.ref d) (BE ok1 hd) (RR.alloc ok1 hd (DO AK ((q.rev).le (BE ok1 hd))))⟩
 ·exact s1.elim
def GN(f:FS->Out Rv):FS->Out Rv:=fun fs=>(f fs).bnd fun r fs=>match r with
 | .t (.int i)=>okT (.int (-i)) fs
 | _=>.bad
theorem E7{X:Cx}{Z:Xp}{a:Expr}{f:FS->Out Rv}{pos:Pos}(ha:FE X Z a f):FE X Z (.UnaryOp .USub a pos) (GN f):=by
 refine BN (Xt U7 ha) fun σ H Q ⟨F,B,fs,ok,s⟩=>⟨F,B,fs,ok,By s fun r fs1 F1 H1 u l ok1 rx s1=>?_⟩
 split at s1
 ·exact⟨_,rx,s1 F1 H1 _ Le.refl (RR.of ok1 rfl)⟩
 ·exact s1.elim
def Ud:=gI fun i j fs=>if 0<=j/\j<=1000000/\i.natAbs < 2 ^ 64 then okT (.int (i ^ j.toNat)) fs else .bad
theorem VR{K:Fg}{Z:Xp}:OpF K Z (rI Yl fun i j=>.int (i ^ j.toNat)) Ud:=QC (t:=fun i j=>.int (i ^ j.toNat)) (fun _ _ _ _ _=>rfl) fun i j fs=>by
 by_cases h:0<=j/\j<=1000000/\i.natAbs < 2 ^ 64
 ·exact .inr ⟨h,if_pos h⟩
 ·exact .inl (if_neg h)
theorem Sv{X:Cx}{Z:Xp}{a b:Expr}{fa fb:FS->Out Rv}{pos:Pos}(ha:FE X Z a fa)(hb:FE X Z b fb):FE X Z (.BinOp a .Pow b pos) (Ae Ud fa fb):=Lg VR VI ha hb
def RP(K:Fg)(B:Nat->Option V)(σ:St):Wd->Hp->FS->Option Int->Option Int->Prop:=fun F H fs a b=>Okk K F B H fs σ/\b=a
def tP(K:Fg)(Z:Xp)(f:FS->Out (Option Int)):TO:=fun σ H Q=>∃F B fs,Okk K F B H fs σ/\sat Z B (RP K B σ) F H (f fs) Q
def FP(X:Cx)(Z:Xp)(e:Option Expr)(f:FS->Out (Option Int)):Prop:=PO X e (tP X.K Z f)
theorem R4{X:Cx}{e:Option Expr}{t t':TO}(h:PO X e t)(i:∀σ H Q,t' σ H Q->t σ H Q):PO X e t':=fun pins s σ H Q I q=>h pins s σ H Q I (i _ _ _ q)
def noP:FS->Out (Option Int):=fun fs=>.ok none fs
def C7(f:FS->Out Rv):FS->Out (Option Int):=fun fs=>(f fs).bnd fun r fs=>match r with
 | .t (.int i)=>.ok (some i) fs
 | _=>.bad
def P6(ts:List T)(lo hi:Option Int):List T:=(ts.drop (HT.sIx ts.length 0 lo)).take (HT.sIx ts.length ts.length hi - HT.sIx ts.length 0 lo)
theorem Md{K:Fg}{F:Wd}{H:Hp}{ts:List T}{vs:List V}{lo hi:Option Int}(r:Aj K F H ts vs):Aj K F H (P6 ts lo hi) (SH vs lo hi):=by
 unfold P6 SH;rw [r.len];exact(r.drop _).take _
def Sn:Rv->Option Int->Option Int->FS->Out Rv:=fun x lo hi fs=>match Dn fs x with
 | some ts=>okT (.lst (P6 ts lo hi)) fs
 | none=>match x with
  | .t (.tup ts)=>okT (.tup (P6 ts lo hi)) fs
  | _=>.bad
def slF(f:FS->Out Rv)(l h:FS->Out (Option Int)):FS->Out Rv:=fun fs=>(f fs).bnd fun x fs=>(l fs).bind fun lo fs=>(h fs).bind fun hi fs=>Sn x lo hi fs
section
variable{X:Cx}{Z:Xp}{e:Expr}{lo hi:Option Expr}{f:FS->Out Rv}{l h:FS->Out (Option Int)}{pos p2:Pos}
theorem Gj:FP X Z none noP:=R4 Tn fun σ H Q ⟨F,B,fs,ok,s⟩=>s F H none Le.refl ⟨ok,rfl⟩
theorem Gi(he:FE X Z e f):FP X Z (some e) (C7 f):=by
 refine R4 (Tj he) fun σ H Q ⟨F,B,fs,ok,s⟩=>⟨F,B,fs,ok,By s fun r fs1 F1 H1 u l ok1 rx s1=>?_⟩
 split at s1
 ·exact⟨_,rx,s1 F1 H1 _ Le.refl ⟨ok1,rfl⟩⟩
 ·exact s1.elim
theorem M5(he:FE X Z e f)(hl:FP X Z lo l)(hu:FP X Z hi h):FE X Z (.Subscript e (.Slice lo hi none p2) pos) (slF f l h):=by
 refine BN (Qx (SlR.or S8 (SlR.or Vf Vg)) he hl hu) fun σ H Q ⟨F,B,fs,ok,s⟩=>⟨F,B,fs,ok,By s fun x fs1 F1 H1 u l1 ok1 rx s1=>⟨F1,B,fs1,ok1,A5 s1 fun lo fs2 F2 H2 lo' l2 q2 s2=>?_⟩⟩
 obtain⟨ok2,rfl⟩:=q2;refine⟨F2,B,fs2,ok2,A5 s2 fun hi fs3 F3 H3 hi' l3 q3 s3=>?_⟩;obtain⟨ok3,rfl⟩:=q3;have rx3:=(rx.le l2).le l3;unfold Sn at s3;split at s3
 ·rename_i ts e
  obtain⟨a,vs,rfl,hs,r⟩:=BK ok3 rx3 e;exact .inl ⟨a,vs,rfl,hs,fun p hp=>s3 _ _ (.ref p) (Cd ok3 hp) (MD ok3 hp (Md r))⟩
 ·split at s3
  ·rename_i ts _
   obtain⟨a,vs,rfl,hs,r⟩:=CU (ts:=ts) rx3 rfl;by_cases hw:HT.sIx ts.length 0 lo'=0/\HT.sIx ts.length ts.length hi'=ts.length
   ·refine .inr (.inr ⟨a,vs,rfl,hs,by rw [r.len];exact hw,s3 F3 H3 _ Le.refl (RR.of ok3 ?_)⟩)
    have e:P6 ts lo' hi'=ts:=by
     unfold P6;rw [hw.1,hw.2];simp
    rw [e];exact rx3
   ·exact .inr (.inl ⟨a,vs,rfl,hs,by rw [r.len];exact hw,fun p hp=>s3 _ _ (.ref p) (Cd ok3 hp) (Ga ok3 hp (Md r))⟩)
  ·exact s3.elim
end
section
variable{K:Fg}
end
section
variable{X:Cx}{Z:Xp}{o e f:Expr}{fo fk fd:FS->Out Rv}{apos cpos:Pos}
end
def Fb:T->Option (List T)
 | .tup ts=>some ts
 | _=>none
theorem Qe{t:T}{ts:List T}(e:Fb t=some ts):t=.tup ts:=by
 cases t <;> first | (cases e;rfl) | cases e
def HL(f:T->T->Option Bool):List T->List T->Option Bool
 | x :: xs,y :: ys=>(f x y).bind fun b=>(HL f xs ys).map (b && ·)
 | _,_=>some true
def eqT:Nat->T->T->Option Bool
 | 0,x,y=>(plV x).bind fun u=>(plV y).map (eqV u)
 | n+1,x,y=>match Fb x with
  | some xs=>match Fb y with
   | some ys=>(HL (eqT n) xs ys).map (· && xs.length == ys.length)
   | none=>(plV y).map fun _=>false
  | none=>match Fb y with
   | some _=>(plV x).map fun _=>false
   | none=>(plV x).bind fun u=>(plV y).map (eqV u)
def eAt(f:T->T->Option Bool)(xs ys:List T)(j:Nat):Bool:=(f (xs.getD j .non) (ys.getD j .non)).getD false
theorem Ds{f:T->T->Option Bool}:∀{xs ys:List T} {b:Bool},HL f xs ys=some b->b=(List.range (min xs.length ys.length)).all (eAt f xs ys)
 | [],_,_,e=>by cases e;simp
 | _ :: _,[],_,e=>by cases e;simp
 | x :: xs,y :: ys,b,e=>by
  simp only [HL,Option.bind_eq_some_iff,Option.map_eq_some_iff] at e;obtain⟨c,e1,d,e2,rfl⟩:=e;have ih:=Ds e2;rw [List.length_cons,List.length_cons,Nat.succ_min_succ,List.range_succ_eq_map,List.all_cons,List.all_map,ih];have h0:eAt f (x :: xs) (y :: ys) 0=c:=by simp [eAt,e1]
  rw [h0];congr 1
theorem Lj{f:T->T->Option Bool}:∀{xs ys:List T} {b:Bool},HL f xs ys=some b->∀(j:Nat) (x y:T),xs[j]?=some x->ys[j]?=some y->f x y=some (eAt f xs ys j)
 | [],_,_,e=>by intro j x y h;simp at h
 | _ :: _,[],_,e=>by intro j x y _ h;simp at h
 | x :: xs,y :: ys,b,e=>by
  simp only [HL,Option.bind_eq_some_iff,Option.map_eq_some_iff] at e;obtain⟨c,e1,d,e2,rfl⟩:=e;intro j x' y' h1 h2;cases j with
  | zero =>
   simp only [List.getElem?_cons_zero,Option.some.injEq] at h1 h2;subst h1 h2;simp [eAt,e1]
  | succ j =>
   rw [List.getElem?_cons_succ] at h1 h2;have:=Lj e2 _ _ _ h1 h2;rw [this];simp [eAt]
theorem Rk{v:V}(h:Gk v=true):eqV v v=true:=by
 cases v <;> first | rfl | (simp [eqV];done) | (simp [Gk] at h)
theorem R5{K:Fg}{F:Wd}{H:Hp}{x y:T}{v:V}{b:Bool}(rx:AM K F H x v)(ry:AM K F H y v)(e:((plV x).bind fun u=>(plV y).map (eqV u))=some b):b=true:=by
 simp only [Option.bind_eq_some_iff,Option.map_eq_some_iff] at e;obtain⟨u,e1,w,e2,rfl⟩:=e;have h1:=CZ e1 rx;have h2:=CZ e2 ry;subst h1 h2;exact Rk (DP e1)
theorem JP{K:Fg}{F:Wd}{H:Hp}{x:T}{v u:V}{a:Addr}(e:plV x=some u)(r:AM K F H x v):v≠.ref a:=by
 have h1:=CZ e r;subst h1;have:=DP e;intro h;subst h;cases this
theorem C6{K:Fg}{F:Wd}{H:Hp}{t:T}{ts:List T}{v:V}(e:Fb t=some ts)(r:AM K F H t v):∃a vs,v=.ref a/\StT K F H a vs/\Aj K F H ts vs:=by
 cases Qe e;simpa only [AM] using r
theorem Ma{K:Fg}{F:Wd}{H:Hp}:∀{n:Nat} {x y:T} {v:V} {b:Bool},eqT n x y=some b->AM K F H x v->AM K F H y v->b=true
 | 0,x,y,v,b,e,rx,ry=>R5 rx ry e
 | n+1,x,y,v,b,e,rx,ry=>by
  unfold eqT at e;cases e1:Fb x with
  | none =>
   rw [e1] at e;cases e2:Fb y with
   | none=>rw [e2] at e;exact R5 rx ry e
   | some ys =>
    rw [e2] at e;obtain⟨a,vs,rfl,_⟩:=C6 e2 ry;obtain⟨u,e3,_⟩:=Option.map_eq_some_iff.mp e;exact absurd rfl (JP e3 rx)
  | some xs =>
   rw [e1] at e;obtain⟨a,vs,rfl,sx,rxs⟩:=C6 e1 rx;cases e2:Fb y with
   | none =>
    rw [e2] at e;obtain⟨u,e3,_⟩:=Option.map_eq_some_iff.mp e;exact absurd rfl (JP e3 ry)
   | some ys =>
    rw [e2] at e;obtain⟨a',vs',ea,sy,rys⟩:=C6 e2 ry;cases ea;have hv:vs=vs':=by
     have:=sx.2.2.symm.trans sy.2.2;injection this with this;injection this
    subst hv;obtain⟨c,e3,rfl⟩:=Option.map_eq_some_iff.mp e;have hl:xs.length=ys.length:=by rw [<- rxs.len,<- rys.len]
    rw [Bool.and_eq_true];refine⟨?_,by simp [hl]⟩;rw [Ds e3,List.all_eq_true];intro j hj;rw [List.mem_range] at hj;have h1:j < xs.length:=by omega
    have h2:j < ys.length:=by omega
    have g1:xs[j]?=some xs[j]:=List.getElem?_eq_getElem h1;have g2:ys[j]?=some ys[j]:=List.getElem?_eq_getElem h2;obtain⟨v1,q1,r1⟩:=rxs.at g1;obtain⟨v2,q2,r2⟩:=rys.at g2;have:v1=v2:=by rw [q1] at q2;injection q2
    subst this;exact Ma (Lj e3 _ _ _ g1 g2) r1 r2
section
variable{X:Cx}{pins:List (Addr×Obj)}{σ:St}{H:Hp}{s:Shared}{F:Wd}
theorem L4{A:Around}{l:Addr}{items:Array Value}{y:V}{u:Value}(hl:s.heap.IsTuple l items)(hu:A.units < cLine)(ry:RelV y u)(fy:Gk y=true) :
  SeqAt.EqAt A s (.ref l) u false/\SeqAt.EqAt A s u (.ref l) false/\SeqAt.RcAt A s (.ref l) u false/\SeqAt.RcAt A s u (.ref l) false:=by
 cases y with
 | non=>cases ry;exact⟨.tuple_none hl hu,.none_tuple hl hu,.tuple_none hl hu,.none_tuple hl hu⟩
 | bl b=>cases ry;exact⟨.tuple_bool _ hl hu,.bool_tuple _ hl hu,.tuple_bool _ hl hu,.bool_tuple _ hl hu⟩
 | int b=>obtain⟨t,rfl⟩:=ry;exact⟨.tuple_int _ _ hl hu,.int_tuple _ _ hl hu,.tuple_int _ _ hl hu,.int_tuple _ _ hl hu⟩
 | str b=>obtain⟨t,rfl⟩:=ry;exact⟨.tuple_str _ _ hl hu,.str_tuple _ _ hl hu,.tuple_str _ _ hl hu,.str_tuple _ _ hl hu⟩
 | _=>cases fy
theorem LI{A:Around}{x y:T}{v w:V}{u u':Value}{b:Bool}(rx:AM X.K F H x v)(ry:AM X.K F H y w)(qx:RelV v u)(qy:RelV w u')(e:((plV x).bind fun u=>(plV y).map (eqV u))=some b):SeqAt.EqAt A s u u' b:=by
 simp only [Option.bind_eq_some_iff,Option.map_eq_some_iff] at e;obtain⟨p,e1,q,e2,rfl⟩:=e;have h1:=CZ e1 rx;have h2:=CZ e2 ry;subst h1 h2;exact SF qx qy (DP e1) (DP e2)
theorem items_eqAt{A:Around}{xs ys:List T}{vs ws:List V}{us us':List Value}{f:T->T->Option Bool}{b:Bool}(e:HL f xs ys=some b)(rx:Aj X.K F H xs vs)(ry:Aj X.K F H ys ws)(qx:Vals vs us)(qy:Vals ws us')
  (ih:∀{x y:T} {v w:V} {u u':Value} {b:Bool},f x y=some b->AM X.K F H x v->AM X.K F H y w->RelV v u->RelV w u'->SeqAt.EqAt A s u u' b) :
  ∀j (h1:j < us.toArray.size) (h2:j < us'.toArray.size),SeqAt.EqAt A s us.toArray[j] us'.toArray[j] (eAt f xs ys j):=by
 intro j h1 h2;have l1:=rx.len;have l2:=ry.len;have l3:=qx.length;have l4:=qy.length;rw [List.size_toArray] at h1 h2;have g1:xs[j]?=some (xs[j]'(by omega)):=List.getElem?_eq_getElem (by omega);have g2:ys[j]?=some (ys[j]'(by omega)):=List.getElem?_eq_getElem (by omega);obtain⟨v,q1,r1⟩:=rx.at g1;obtain⟨w,q2,r2⟩:=ry.at g2;obtain⟨u,p1,o1⟩:=qx.get q1;obtain⟨u',p2,o2⟩:=qy.get q2;rw [List.getElem?_eq_getElem h1] at p1;rw [List.getElem?_eq_getElem h2] at p2;injection p1 with p1;injection p2 with p2;rw [show us.toArray[j]=us[j] by simp,show us'.toArray[j]=us'[j] by simp,p1,p2];exact ih (Lj e _ _ _ g1 g2) r1 r2 o1 o2
theorem Kg(I:Inv X pins σ H s):∀{n:Nat} {A:Around} {x y:T} {v w:V} {u u':Value} {b:Bool},A.units+n < cLine->eqT n x y=some b->AM X.K F H x v->AM X.K F H y w->RelV v u->RelV w u'->SeqAt.EqAt A s u u' b
 | 0,A,x,y,v,w,u,u',b,hu,e,rx,ry,qx,qy=>LI rx ry qx qy e
 | n+1,A,x,y,v,w,u,u',b,hu,e,rx,ry,qx,qy=>by
  have e0:=e;unfold eqT at e;cases e1:Fb x with
  | none =>
   rw [e1] at e;cases e2:Fb y with
   | none=>rw [e2] at e;exact LI rx ry qx qy e
   | some ys =>
    rw [e2] at e;obtain⟨a,vs,rfl,st,_⟩:=C6 e2 ry;obtain⟨p,e3,rfl⟩:=Option.map_eq_some_iff.mp e;have h1:=CZ e3 rx;subst h1;cases qy;obtain⟨its,_,ht,_⟩:=I.tuple st.sq;exact(L4 ht (by omega) qx (DP e3)).2.1
  | some xs =>
   rw [e1] at e;obtain⟨a,vs,rfl,sx,rxs⟩:=C6 e1 rx;cases qx;obtain⟨its,vx,ht,_⟩:=I.tuple sx.sq;cases e2:Fb y with
   | none =>
    rw [e2] at e;obtain⟨p,e3,rfl⟩:=Option.map_eq_some_iff.mp e;have h1:=CZ e3 ry;subst h1;exact(L4 ht (by omega) qy (DP e3)).1
   | some ys =>
    rw [e2] at e;obtain⟨a',vs',rfl,sy,rys⟩:=C6 e2 ry;cases qy;obtain⟨its',vx',ht',_⟩:=I.tuple sy.sq;by_cases hab:a=a'
    ·subst hab
     rw [Ma e0 rx ry];exact SeqAt.EqAt.same _
    ·obtain⟨c,e3,rfl⟩:=Option.map_eq_some_iff.mp e
     have l1:its.length=xs.length:=by rw [<- vx.length,rxs.len]
     have l2:its'.length=ys.length:=by rw [<- vx'.length,rys.len]
     have:=SeqAt.RcAt.tuples ht ht' (A:=A) (by omega) (items_eqAt e3 rxs rys vx vx' (fun h r1 r2 o1 o2=>Kg I (n:=n) (A:=A.in1) (by show A.units+1+n < _;omega) h r1 r2 o1 o2));rw [List.size_toArray,List.size_toArray,l1,l2,<- Ds e3] at this;exact SeqAt.EqAt.of_refs hab this
end
def eqB(neg:Bool)(xs ys:List T)(fs:FS):Out Rv:=match HL (eqT 60) xs ys with
 | some b=>okT (.bl (if neg then !(b && xs.length == ys.length) else(b && xs.length == ys.length))) fs
 | none=>.bad
def M4(neg:Bool):Rv->Rv->FS->Out Rv:=fun x y fs=>match Nu x with
 | some xs=>match Nu y with
  | some ys=>eqB neg xs ys fs
  | none=>.bad
 | none=>match Dn fs x with
  | some xs=>match Dn fs y with
   | some ys=>eqB neg xs ys fs
   | none=>.bad
  | none=>.bad
def EqS(X:Cx)(neg:Bool)(H:Hp)(x y:V)(b:Bool):Prop:=∀(pins:List (Addr×Obj)) (σ:St) (s:Shared) (u w:Value),Inv X pins σ H s->RelV x u->RelV y w ->
 if neg then SeqAt.RcNeAt X.A s u w (!b) else SeqAt.RcAt X.A s u w b
def WY(X:Cx)(neg:Bool):R2:=fun x y H Q=>∃b,EqS X neg H x y b/\Q (.bl (if neg then !b else b)) H
theorem VL{X:Cx}:OpR X (compareOp .Eq) (WY X false):=by
 intro pins s σ H x y v u Q I rx ry h;obtain⟨b,e,q⟩:=h;have e:SeqAt.RcAt X.A s v u b:=e pins σ s v u I rx ry;exact e X.prog X.w X.xe _ ⟨.bl b,H,I,rfl,q⟩
theorem NT{X:Cx}:OpR X (compareOp .NotEq) (WY X true):=by
 intro pins s σ H x y v u Q I rx ry h;obtain⟨b,e,q⟩:=h;have e:SeqAt.RcNeAt X.A s v u (!b):=e pins σ s v u I rx ry;exact e X.prog X.w X.xe _ ⟨.bl (!b),H,I,rfl,q⟩
theorem Us{X:Cx}{neg:Bool}{F:Wd}{H:Hp}{a a':Addr}{xs ys:List T}{vs ws:List V}{b:Bool}(hu:X.A.units+61 < cLine)(e:HL (eqT 60) xs ys=some b)(sx:SqT X.K H a vs)(sy:SqT X.K H a' ws)(rx:Aj X.K F H xs vs)(ry:Aj X.K F H ys ws) :
  EqS X neg H (.ref a) (.ref a') (b && xs.length == ys.length):=by
 intro pins σ s u w I qx qy;cases qx;cases qy;obtain⟨its,vx,ht,_⟩:=I.tuple sx;obtain⟨its',vx',ht',_⟩:=I.tuple sy;have l1:its.length=xs.length:=by rw [<- vx.length,rx.len]
 have l2:its'.length=ys.length:=by rw [<- vx'.length,ry.len]
 have he:=items_eqAt (s:=s) (A:=X.A.in1) e rx ry vx vx' (fun h r1 r2 o1 o2=>Kg I (n:=60) (A:=X.A.in1) (by show X.A.units+1+60 < _;omega) h r1 r2 o1 o2);cases neg with
 | false =>
  have:=SeqAt.RcAt.tuples ht ht' (A:=X.A) (by omega) he;rw [List.size_toArray,List.size_toArray,l1,l2,<- Ds e] at this;exact this
 | true =>
  have:=SeqAt.RcNeAt.tuples ht ht' (A:=X.A) (by omega) he;rw [List.size_toArray,List.size_toArray,l1,l2,<- Ds e] at this;exact this
theorem Ut{X:Cx}{neg:Bool}{F:Wd}{H:Hp}{a a':Addr}{xs ys:List T}{vs ws:List V}{b:Bool}(hu:X.A.units+61 < cLine)(e:HL (eqT 60) xs ys=some b)(sx:SqL X.K H a vs)(sy:SqL X.K H a' ws)(rx:Aj X.K F H xs vs)(ry:Aj X.K F H ys ws) :
  EqS X neg H (.ref a) (.ref a') (b && xs.length == ys.length):=by
 intro pins σ s u w I qx qy;cases qx;cases qy;obtain⟨its,vx,ht,_⟩:=I.list sx;obtain⟨its',vx',ht',_⟩:=I.list sy;have l1:its.length=xs.length:=by rw [<- vx.length,rx.len]
 have l2:its'.length=ys.length:=by rw [<- vx'.length,ry.len]
 have he:=items_eqAt (s:=s) (A:=X.A.in1) e rx ry vx vx' (fun h r1 r2 o1 o2=>Kg I (n:=60) (A:=X.A.in1) (by show X.A.units+1+60 < _;omega) h r1 r2 o1 o2);by_cases hl:xs.length=ys.length
 ·have hs:its.toArray.size=its'.toArray.size:=by rw [List.size_toArray,List.size_toArray];omega
  have hb:(b && xs.length == ys.length)=(List.range its.toArray.size).all (eAt (eqT 60) xs ys):=by
   rw [Ds e,hl,Nat.min_self,List.size_toArray,l1,hl];simp
  rw [hb];cases neg with
  | false=>exact SeqAt.RcAt.lists ht.isList ht'.isList hs (A:=X.A) (by omega) he
  | true=>exact SeqAt.RcNeAt.lists ht.isList ht'.isList hs (A:=X.A) (by omega) he
 ·have hs:(its.toArray.size != its'.toArray.size)=true:=by rw [List.size_toArray,List.size_toArray,bne_iff_ne];omega
  have hb:(b && xs.length == ys.length)=false:=by simp [hl]
  rw [hb];cases neg with
  | false=>exact SeqAt.RcAt.lists_lengths ht.isList ht'.isList hs (A:=X.A) (by omega)
  | true=>exact SeqAt.RcNeAt.lists_lengths ht.isList ht'.isList hs (A:=X.A) (by omega)
theorem N4{X:Cx}{Z:Xp}(neg:Bool)(hu:X.A.units+61 < cLine):OpF X.K Z (WY X neg) (M4 neg):=by
 intro F B H σ fs x y u w Q ok rx ry s;unfold M4 at s;cases e1:Nu x with
 | some xs =>
  rw [e1] at s;cases e2:Nu y with
  | none=>rw [e2] at s;exact s.elim
  | some ys =>
   rw [e2] at s;obtain⟨a,vs,rfl,sx,r1⟩:=CU rx e1;obtain⟨a',ws,rfl,sy,r2⟩:=CU ry e2;simp only [eqB] at s;cases e3:HL (eqT 60) xs ys with
   | none=>rw [e3] at s;exact s.elim
   | some b =>
    rw [e3] at s;exact⟨_,Us hu e3 sx sy r1 r2,s F H _ Le.refl (RR.of ok rfl)⟩
 | none =>
  rw [e1] at s;cases e2:Dn fs x with
  | none=>rw [e2] at s;exact s.elim
  | some xs =>
   rw [e2] at s;cases e3:Dn fs y with
   | none=>rw [e3] at s;exact s.elim
   | some ys =>
    rw [e3] at s;obtain⟨a,vs,rfl,sx,r1⟩:=BK ok rx e2;obtain⟨a',ws,rfl,sy,r2⟩:=BK ok ry e3;simp only [eqB] at s;cases e4:HL (eqT 60) xs ys with
    | none=>rw [e4] at s;exact s.elim
    | some b =>
     rw [e4] at s;exact⟨_,Ut hu e4 sx sy r1 r2,s F H _ Le.refl (RR.of ok rfl)⟩
section
variable{X:Cx}{Z:Xp}{a b:Expr}{fa fb:FS->Out Rv}{pos:Pos}
end
section
variable{X:Cx}{Z:Xp}{a b:Expr}{fa fb:FS->Out Rv}{pos:Pos}
end
section
variable{X:Cx}{Z:Xp}{a b:Expr}{fa fb:FS->Out Rv}{pos:Pos}
end
theorem We{A:Around}{k:Nat}(hr:EX k A):A.units+61 < cLine:=by have:=hr.units;omega
section
variable{X:Cx}{Z:Xp}{a b:Expr}{fa fb:FS->Out Rv}{pos:Pos}
end
section
variable{K:Fg}{Z:Xp}
end
section
variable{X:Cx}{Z:Xp}{a:Expr}{f:FS->Out Rv}{fa:FS->Out (List Rv)}{p p1 p2 pos pos1 pos2:Pos}
end
def EZ(K:Fg)(Z:Xp):XE:=fun cv σ H=>∃F B fs c C,D7 K c=some C/\cv=.ref C/\Okk K F B H fs σ/\Z.p F B H c fs
def Lks(X:Cx)(Z:Xp):Prop:=Lk X (EZ X.K Z)
structure LkD(X:Cx)(Z:Xp):Prop where
 d:P0 X
 k:∀e s,XW X (EZ X.K Z) e s->X.xe e s
 own:PassesOwn (model X.prog X.w) X.A X.env X.xe
theorem LkD.lk{X:Cx}{Z:Xp}(l:LkD X Z):Lks X Z:=Lk.of l.d.ex l.k
def Zd(K:Fg)(E:XK):Xp:=⟨fun F B H c fs=>∀C,D7 K c=some C->∀F' H' σ',Le F H F' H'->Okk K F' B H' fs σ'->E (.ref C) none H',fun h l C hC F' H' σ' l' k=>h C hC F' H' σ' (l.trans l') k⟩
def spX(K:Fg)(p:Nat)(Fn:FS->Out Rv):Sp:=fun vs H Q E=>vs.length=p/\∃F fs0,Okk K F (Bof (vs.map some)) H fs0 (vs.map some)/\match Fn fs0 with
 | .ok r τ=>∀F' H' u σ',Le F H F' H'->RR K (Bof (vs.map some)) σ' F' H' τ r u->Q u H'
 | .exc c τ=>∀C,D7 K c=some C->∀F' H' σ',Le F H F' H'->Okk K F' (Bof (vs.map some)) H' τ σ'->E (.ref C) none H'
 | .bad=>False
def GS0(X:Cx)(Z:Xp)(st:Stmt)(g:FS->SO):Prop:=PS0 X st (tSt X.K Z g)
def Xb(X:Cx)(Z:Xp)(sts:List Stmt)(g:FS->SO):Prop:=RL X sts (tSt X.K Z g)
section
variable{X:Cx}{Z:Xp}{st:Stmt}{rest:List Stmt}{g h:FS->SO}
theorem GS.zero(q:GS X Z st g):GS0 X Z st g:=PS.zero q
theorem GSs.zero(q:GSs X Z rest g):Xb X Z rest g:=PSs.zero q
theorem DC(h1:GS0 X Z st g)(h2:Xb X Z rest h):Xb X Z (st :: rest) (AL g h):=by
 intro s0 σ H D I q;refine NI h1 h2 s0 σ H D I ?_;obtain⟨F,B,fs,ok,s⟩:=q;refine⟨F,B,fs,ok,?_⟩;unfold AL at s;cases e:g fs with
 | nx fs1 =>
  rw [e] at s;exact fun F1 H1 σ1 l k=>⟨F1,B,fs1,k,FY.le s l⟩
 | ret r fs1=>rw [e] at s;exact s
 | brk fs1=>rw [e] at s;exact s
 | cnt fs1=>rw [e] at s;exact s
 | exc c fs1=>rw [e] at s;exact s
 | bad=>rw [e] at s;exact s
end
section
variable{P:Program}{w:World}{K:Fg}{mg:Str->Option Value}{base:Heap}
theorem Cp{x qual:Str}{st:Stmt}{f:Addr}{fd:FuncData}{N ps:List Str}{k:Nat}{g:FS->SO}(Fu:Fun K x qual st f fd)(S:Br N ps (Au st))(p n:Nat)(hp:ps.length=p)(hn:N.length=p+n)
  (hb:∀cdv (A:Around) outer (s:Shared) H E E' (Z:Xp),EX k (A.deeper (PyProof.Rows.envOfC qual (Au st) s.heap.objs.size f cdv))->LkD ((M8 (CX1 P w) P w K mg base N qual (Au st) f cdv A outer s H E).GV E') Z ->
   Xb ((M8 (CX1 P w) P w K mg base N qual (Au st) f cdv A outer s H E).GV E') Z (Bf st) g):D9 P w K mg base (CX1 P w) (k+1) f fd ps (spX K p (DK n g)):=by
 refine Fu.ok0 S (fun vs H Q E h=>by rw [h.1,hp]) (fun cdv A outer s H vs Q E hr h=>⟨_,hb cdv A outer s H E _ (Zd K E) hr ⟨⟨rfl,rfl,rfl,rfl⟩,fun e s q=>?_,XW.own WG⟩,?_⟩)
 ·refine XW.imp (XW.GV q) fun c σ H z=>?_
  obtain⟨F,B,fs,c,C,hC,rfl,ok,z⟩:=z;exact z C hC F H σ Le.refl ok
 obtain⟨hl,F,fs0,⟨L,ok⟩,h⟩:=h;have hfl:fs0.length=p:=by rw [<- ok.sl.len,List.length_map];exact hl
 have es:L2.start N vs=vs.map some++List.replicate n none:=by
  unfold L2.start;rw [hl,hn,Nat.add_sub_cancel_left]
 rw [es];refine⟨F,Bof (vs.map some),fs0++List.replicate n none,⟨L,ok.more n⟩,?_⟩;unfold DK at h;cases e:g (fs0++List.replicate n none) with
 | nx τ =>
  rw [e] at h;intro F' H' σ' l k;exact h F' H' .non (σ'.take fs0.length) l (RR.take (RR.of (r:=.t .non) k rfl) _ (fun i z=>nomatch z))
 | ret r τ =>
  rw [e] at h;intro F' H' σ' u l k;cases r with
  | t t=>exact h F' H' u (σ'.take fs0.length) l (RR.take k _ (fun i z=>nomatch z))
  | nw o=>exact h F' H' u (σ'.take fs0.length) l (RR.take k _ (fun i z=>nomatch z))
  | rf i =>
   dsimp only at h;split at h
   ·rename_i r' τ' e2
    split at e2
    ·rename_i o eo
     cases e2;exact h F' H' u (σ'.take fs0.length) l (RR.take (RR.mv k eo) _ (fun i z=>nomatch z))
    ·cases e2
   ·rename_i c τ' e2
    split at e2
    ·cases e2
    ·cases e2
   ·exact h.elim
 | brk τ=>rw [e] at h;exact h.elim
 | cnt τ=>rw [e] at h;exact h.elim
 | exc c τ =>
  rw [e] at h;intro C hC F' H' σ' l k;exact h C hC F' H' (σ'.take fs0.length) l (RR.take (RR.of (r:=.t .non) k rfl) _ (fun i z=>nomatch z)).ok
 | bad=>rw [e] at h;exact h.elim
end
def HF(Fn:FS->Out Rv)(rs:List Rv)(fs:FS):Out Rv :=
 if(CG fs (rs.map BQ)).Nodup then(match Fn (Dp fs (rs.map BQ)) with
  | .ok (.t t) τ=>(match En (rs.map BQ) τ fs with
   | some fs'=>.ok (.t t) fs'
   | none=>.bad)
  | .ok (.nw o) τ=>(match En (rs.map BQ) τ fs with
   | some fs'=>.ok (.nw o) fs'
   | none=>.bad)
  | .exc c τ=>(match En (rs.map BQ) τ fs with
   | some fs'=>.exc c fs'
   | none=>.bad)
  | _=>.bad) else .bad
def AD(p:Nat)(Fn:FS->Out Rv):List Rv->FS->Out Rv:=fun rs fs=>if rs.length=p then HF Fn rs fs else .bad
section
variable{K:Fg}{F F':Wd}{H H':Hp}{B:Nat->Option V}{fs:FS}{σ:St}{rs:List Rv}{vs:List V}{Z:Xp}{Q:VK}{Fn:FS->Out Rv}
theorem PK(q:RAn K B σ F H fs rs vs)(s:sat Z B (RR K B σ) F H (HF Fn rs fs) Q):spX K rs.length Fn vs H Q fun c _ H'=>EZ K Z c σ H':=by
 unfold HF at s;split at s
 ·rename_i nd
  obtain⟨L9,μ,ok,hμ,hl,hi⟩:=OH q;obtain⟨Pp,p1,p2,p3,p4⟩:=lend ok hl hi nd hμ;refine⟨q.len,⟨F.f,Pp⟩,Dp fs (rs.map BQ),p2,?_⟩;split at s
  ·rename_i t τ e
   rw [e];split at s
   ·rename_i fs' eb
    intro F' H' u σ' l k;obtain⟨Li,L',o1,⟨_,r⟩,_⟩:=k;obtain⟨le,L,o2,_⟩:=p4 F' H' τ σ' Li fs' l o1 eb;exact s ⟨F'.f,F.p⟩ H' u le (RR.of ⟨L,o2⟩ (AM.wp r))
   ·exact s.elim
  ·rename_i o τ e
   rw [e];split at s
   ·rename_i fs' eb
    intro F' H' u σ' l k;obtain⟨Li,L',o1,r,nd,nf⟩:=k;obtain⟨le,L,o2,sub⟩:=p4 F' H' τ σ' Li fs' l o1 eb;refine s ⟨F'.f,F.p⟩ H' u le ⟨L,L',o2,AU.wp r,?_,fun a m=>⟨(nf a m).1,fun p=>(nf a m).2 (l.p a (p1 a p)).1⟩⟩;rw [List.nodup_append] at nd ⊢;refine⟨o2.nd,nd.2.1,fun a ha b hb e=>?_⟩;rcases sub a ha with z | z
    ·exact nd.2.2 a z b hb e
    ·exact(nf b hb).2 (l.p b (e▸z)).1
   ·exact s.elim
  ·rename_i c τ e
   rw [e];split at s
   ·rename_i fs' eb
    intro C hC F' H' σ' l k;obtain⟨Li,o1⟩:=k;obtain⟨le,L,o2,_⟩:=p4 F' H' τ σ' Li fs' l o1 eb;exact⟨⟨F'.f,F.p⟩,B,fs',c,C,hC,rfl,⟨L,o2⟩,Z.mono s le⟩
   ·exact s.elim
  ·exact s.elim
 ·exact s.elim
end
section
variable{X:Cx}{Z:Xp}{x:Str}{k p:Nat}{ps:List Str}{Fn:FS->Out Rv}{e:Expr}{es:List Expr}{fa:FS->Out (List Rv)}{pp pos np cpos:Pos}{C:Addr}
theorem BL(G:FnAt X.prog X.w X.K X.mg X.base (CX1 X.prog X.w) x k ps (spX X.K p Fn))(hr:EX k X.A)(lk:Lks X Z)(ha:FAn X Z (e :: es) fa)(hg:Gl X x:=by rfl)(hdb:(x == ("__debug__":Str))=false:=by decide)
  (he:starEach (e :: es) X.env=(false,eval e X.env) :: starEach es X.env:=by rfl) (hpl:(backTo pos (starEach es X.env)).any (·.1)=false:=by rfl):FE X Z (.Call (.Name x pp) (e :: es) [] pos) (Am (AD p Fn) fa):=by
 refine BN (VE G hr lk ha hg hdb he hpl) fun σ H Q ⟨F,B,fs,ok,s⟩=>⟨F,B,fs,ok,A5 s fun rs fs1 F1 H1 us l q s1=>?_⟩
 unfold AD at s1;split at s1
 ·rename_i hp
  rw [<- hp];exact PK q s1
 ·exact s1.elim
structure Xc(K:Fg)(mg:Str->Option Value)(x:Str):Prop where
 ex:∃C,mg x=some (.ref C)/\D7 K x=some C/\PySem.W.excIn K C U6 "ValueError.__new__"=true
def RX(c:Str)(fa:FS->Out (List Rv)):FS->SO:=fun fs=>SO.of (fa fs) fun rs fs=>if rs.length<=1000 then .exc c fs else .bad
theorem Q2(c:Xc X.K X.mg x)(l:LkD X Z)(hc:X.calm=true)(ha:FA X Z (e :: es) fa)(hg:Gl X x:=by rfl)(hdb:(x == ("__debug__":Str))=false:=by decide)
  (he:starEach (e :: es) X.env=(false,eval e X.env) :: starEach es X.env:=by rfl) (hpl:(backTo cpos (starEach es X.env)).any (·.1)=false:=by rfl) :
  GS X Z (.Raise (some (.Call (.Name x np) (e :: es) [] cpos)) none pos) (RX x fa):=by
 obtain⟨C,h1,h2,h3⟩:=c.ex;refine Dh (IQ (C:=C) (Z:=EZ X.K Z) ⟨h1,h3⟩ l.d.ex hc l.k ha hg hdb he hpl) fun D σ H ⟨F,B,fs,ok,s⟩=>⟨F,B,fs,ok,CV s fun rs fs1 F1 H1 us l q s1=>?_⟩
 split at s1
 ·rename_i hl
  exact⟨by rw [q.2.len];exact hl,F1,B,fs1,x,C,h2,rfl,q.1,s1⟩
 ·exact s1.elim
end
def UU(i:Nat)(okc:Str->Bool)(h:FS->SO)(c:Str)(fs:FS):SO:=if okc c=true then(match Jv i (.t (.exn c)) fs with
 | some fs=>(match h fs with
  | .nx fs=>(match fs[i]? with
   | some (some (.val _))=>.nx (fs.set i none)
   | _=>.bad)
  | .ret (.t t) fs=>.ret (.t t) fs
  | _=>.bad)
 | none=>.bad) else .bad
def SY(i:Nat)(okc:Str->Bool)(g h:FS->SO):FS->SO:=fun fs=>match g fs with
 | .exc c fs=>UU i okc h c fs
 | o=>o
section
variable{X:Cx}{Z:Xp}{K:Fg}{B:Nat->Option V}{F:Wd}{H:Hp}{σ:St}{fs:FS}
theorem Okk.forget{i:Nat}{t:T}(h:Okk K F B H fs σ)(e:fs[i]?=some (some (.val t))):Okk K F B H (fs.set i none) (σ.set i none):=by
 obtain⟨L,ok⟩:=h;obtain⟨v,L1,L2,L3,e1,rfl,h1,h2⟩:=ok.sl.pick e;have e2:L2=[]:=by obtain⟨u,rfl,q,z⟩:=h1;exact z
 subst e2;exact⟨L1++([]++L3),h2 F H none none [] Le.refl (fun _ _=>rfl) rfl,ok.nd,ok.nf,ok.fd,HK.put ok.bo (fun o eo=>by cases eo) ok.sl.len,ok.pd,ok.pf,ok.pl⟩
def YL(K:Fg)(Z:Xp)(i:Nat)(okc:Str->Bool)(h:FS->SO)(D:Ends):Xp:=⟨fun F B H c fs=>FY K Z B F H (UU i okc h c fs) D,fun q l=>FY.le q l⟩
theorem Uc{x n:Str}{C:Addr}{i:Nat}{np pos hpos:Pos}{body suite:List Stmt}{b₀:Stmt}{g h:FS->SO}(okc:Str->Bool)(i:Nat)(l:LkD X Z)(hC:X.mg x=some (.ref C))(hN:X.N.Nodup)(hk:∀c C',okc c=true->D7 X.K c=some C'->PySem.W.exmOne X.K (.ref C') (.ref C)=some true)
  (hb:∀E' Z',LkD (X.GV E') Z'->GSs (X.GV E') Z' body g) (hs:∀a,GSs (X.hand a) Xp.no (b₀ :: suite) h) (hi:X.N[i]?=some n:=by rfl) (hl:X.env.scope.names.lookup n=some .local:=by rfl) (hg:Gl X x:=by rfl) (hdb:(x == ("__debug__":Str))=false:=by decide) :
  GS0 X Z (.Try body [.ExceptHandler (some (.Name x np)) (some n) (b₀ :: suite) hpos] [] [] pos) (SY i okc g h):=by
 have key:=Ti (X:=X) (C:=C) (x:=x) (n:=n) (i:=i) (np:=np) (pos:=pos) (hpos:=hpos) (body:=body) (b₀:=b₀) (suite:=suite) (th:=tSt X.K Xp.no h) (tb:=fun D=>tSt X.K (YL X.K Z i okc h D) g) l.d hC hN (fun D=>?_) hs hi hl hg hdb
 ·intro s0 σ H D I q
  refine key s0 σ H D I ?_;obtain⟨F,B,fs,ok,s⟩:=q;refine⟨F,B,fs,ok,?_⟩;unfold SY at s;cases e:g fs with
  | nx fs1=>rw [e] at s;exact s
  | ret r fs1=>rw [e] at s;exact s
  | brk fs1=>rw [e] at s;exact s
  | cnt fs1=>rw [e] at s;exact s
  | exc c fs1=>rw [e] at s;exact s
  | bad=>rw [e] at s;exact s
 ·refine hb _ _ ⟨⟨l.d.pn,l.d.ex,l.d.st,l.d.fr⟩,fun e s q=>XW.imp (XW.GV q) fun cv σ H z=>?_,XW.own l.d⟩
  obtain⟨F,B,fs,c,C',hC',rfl,ok,z⟩:=z;have z:FY X.K Z B F H (UU i okc h c fs) D:=z;unfold UU at z;split at z
  ·rename_i hoc
   refine⟨hk c C' hoc hC',fun a ha=>?_⟩;split at z
   ·rename_i fs2 e2
    have ok2:Okk X.K (P7 F a) B (upd H a (exO (.ref C') a)) fs2 (σ.set i (some (.ref a))):=KG (RR.of (r:=.t (.exn c)) (u:=.ref a) (Okk.alloc ok ha) (by
     simp only [CT,AM];exact⟨a,C',rfl,.inr rfl,AK,hC'⟩)) e2
    have le2:Le F H (P7 F a) (upd H a (exO (.ref C') a)):=Cd ok ha;refine⟨P7 F a,B,fs2,ok2,?_⟩;cases eh:h fs2 with
    | nx fs3 =>
     rw [eh] at z;dsimp only at z;split at z
     ·rename_i t et
      exact fun F' H' σ' l k=>z F' H' _ (le2.trans l) (k.forget et)
     ·exact z.elim
    | ret r fs3 =>
     rw [eh] at z;cases r with
     | t t =>
      intro F' H' σ' u l k;exact z F' H' σ' u (le2.trans l) k
     | nw o=>exact z.elim
     | rf j=>exact z.elim
    | brk fs3=>rw [eh] at z;exact z.elim
    | cnt fs3=>rw [eh] at z;exact z.elim
    | exc c fs3=>rw [eh] at z;exact z.elim
    | bad=>rw [eh] at z;exact z.elim
   ·exact z.elim
  ·exact z.elim
end
def Up(K:Fg)(ds:List Str)(tab:Str->Str->Bool)(c:Str):Bool:=match D7 K c with
 | some C=>PySem.W.excIn K C U6 "ValueError.__new__" && (PySem.W.findIn K (.ref C) "__getattribute__" == some (some (.builtin "BaseException.__getattribute__"))) && (PySem.W.findIn K (.ref C) "__getattr__" == some none) &&
  (PySem.W.findIn K (.ref C) "__class__" == some (some (.builtin "object.__class__"))) && (PySem.W.specialIn K (.builtin "object.__class__") "__get__" == some (some (.builtin "getset_descriptor.__get__"))) && (PySem.W.takesIn K (.builtin "object.__class__") == some true) &&
  (PySem.W.mroIn K C (.type "object") == some true) && (PySem.W.mroIn K C (.type "BaseException") == some true) && (PySem.W.clsIn K C).isSome && (PySem.W.kitOne K (.ref C) (.type "ValueError") == some true) &&
  ds.all fun d=>match D7 K d with
   | some D=>(PySem.W.kitOne K (.ref C) (.ref D) == some (tab c d)) && (!tab c d || PySem.W.exmOne K (.ref C) (.ref D) == some true)
   | none=>false
 | none=>false
def Uq(K:Fg)(rs ds:List Str)(tab:Str->Str->Bool):Bool:=rs.all (Up K ds tab) && ds.all fun d=>(D7 K d).isSome
structure Ju(K:Fg)(mg:Str->Option Value)(rs ds:List Str)(tab:Str->Str->Bool):Prop where
 k:∀c∈rs,∀C,D7 K c=some C->PySem.W.ExK K C/\(PySem.W.clsIn K C).isSome=true
 own:∀c∈rs,∀d∈ds,∀C D,D7 K c=some C->D7 K d=some D->PySem.W.kitOne K (.ref C) (.ref D)=some (tab c d)/\(tab c d=true->PySem.W.exmOne K (.ref C) (.ref D)=some true)
 ve:∀c∈rs,∀C,D7 K c=some C->PySem.W.kitOne K (.ref C) (.type "ValueError")=some true
 at_:∀c∈rs,∃C,mg c=some (.ref C)/\D7 K c=some C/\PySem.W.excIn K C U6 "ValueError.__new__"=true
 atd:∀d∈ds,∃D,mg d=some (.ref D)/\D7 K d=some D
theorem SJ{K:Fg}{h:Heap}{mg:Str->Option Value}{c:Str}{C:Addr}(X:K.In h)(G:h.Ns mainGlobals mg)(e:D7 K c=some C):mg c=some (.ref C):=by
 unfold D7 at e;split at e
 ·rename_i D q
  cases e;exact PySem.W.mg_of X G q
 ·cases e
theorem Ju.of{K:Fg}{h:Heap}{mg:Str->Option Value}{rs ds:List Str}{tab:Str->Str->Bool}(X:K.In h)(G:h.Ns mainGlobals mg)(e:Uq K rs ds tab=true):Ju K mg rs ds tab:=by
 unfold Uq at e;rw [Bool.and_eq_true] at e;obtain⟨e1,e2⟩:=e;have one:∀c∈rs,∀C,D7 K c=some C->PySem.W.excIn K C U6 "ValueError.__new__"=true/\PySem.W.ExK K C/\(PySem.W.clsIn K C).isSome=true/\PySem.W.kitOne K (.ref C) (.type "ValueError")=some true /\
   ∀d∈ds,∀D,D7 K d=some D->PySem.W.kitOne K (.ref C) (.ref D)=some (tab c d)/\(tab c d=true->PySem.W.exmOne K (.ref C) (.ref D)=some true):=fun c hc C hC=>by
  have q:=List.all_eq_true.mp e1 c hc;unfold Up at q;rw [hC] at q;simp only [Bool.and_eq_true,beq_iff_eq] at q;obtain⟨⟨⟨⟨⟨⟨⟨⟨⟨⟨q1,q2⟩,q3⟩,q4⟩,q5⟩,q6⟩,q7⟩,q8⟩,q9⟩,q10⟩,q11⟩:=q;refine⟨q1,⟨q2,q3,q4,q5,q6,q7,q8⟩,q9,q10,fun d hd D hD=>?_⟩;have z:=List.all_eq_true.mp q11 d hd;rw [hD] at z;simp only [Bool.and_eq_true,beq_iff_eq] at z;refine⟨z.1,fun ht=>?_⟩;have z2:=z.2;rw [ht] at z2;simpa using z2
 refine⟨fun c hc C hC=>⟨(one c hc C hC).2.1,(one c hc C hC).2.2.1⟩,fun c hc d hd C D hC hD=>(one c hc C hC).2.2.2.2 d hd D hD,fun c hc C hC=>(one c hc C hC).2.2.2.1,fun c hc=>?_,fun d hd=>?_⟩
 ·have q:=List.all_eq_true.mp e1 c hc
  unfold Up at q;cases hC:D7 K c with
  | none=>rw [hC] at q;cases q
  | some C=>exact⟨C,SJ X G hC,rfl,(one c hc C hC).1⟩
 ·obtain⟨D,hD⟩:=Option.isSome_iff_exists.mp (List.all_eq_true.mp e2 d hd)
  exact⟨D,SJ X G hD,hD⟩
theorem Ju.t1{K:Fg}{mg:Str->Option Value}{rs ds:List Str}{tab:Str->Str->Bool}(t:Ju K mg rs ds tab){c:Str}(h:c∈rs):Xc K mg c:=⟨t.at_ c h⟩
def isX(cs:List Str)(tab:Str->Str->Bool)(d:Str)(f:FS->Out Rv):FS->Out Rv:=fun fs=>(f fs).bnd fun r fs=>match r with
 | .t (.exn c)=>if cs.contains c=true then okT (.bl (tab c d)) fs else .bad
 | _=>.bad
section
variable{X:Cx}{Z:Xp}{a:Expr}{f:FS->Out Rv}{p p2 pos:Pos}{x:Str}{cs ds:List Str}{tab:Str->Str->Bool}
theorem DG(t:Ju X.K X.mg cs ds tab)(hm:X.mg "isinstance"=none)(hx:x∈ds)(ha:FE X Z a f)(hg:Gl X "isinstance":=by rfl)(hg2:Gl X x:=by rfl)(hdb:(x == ("__debug__":Str))=false:=by decide)
  (hs:starEach [a,.Name x p2] X.env=(false,eval a X.env) :: starEach [.Name x p2] X.env:=by rfl) (hs2:starEach [.Name x p2] X.env=[(false,eval (.Name x p2) X.env)]:=by rfl) (hpl:(backTo pos (starEach [.Name x p2] X.env)).any (·.1)=false:=by rfl) :
  FE X Z (.Call (.Name "isinstance" p) [a,.Name x p2] [] pos) (isX cs tab x f):=by
 obtain⟨D,h1,h2⟩:=t.atd x hx;have hD:PE X (.Name x p2) (tC (.ref D)):=fun pins s σ H Q I h=>Ge I hg2 h1 ⟨.ref D,H,I,rfl,h⟩ hdb
 refine BN (IV Iv hg hm PyProof.Rows.boot_isinstance (Es ha (Es hD Ii hs2) hs) (by decide) (by decide) hs hpl) fun σ H Q ⟨F,B,fs,ok,s⟩=>?_
 refine⟨F,B,fs,ok,By s fun r fs1 F1 H1 u l1 ok1 rx s1=>?_⟩;split at s1
 ·rename_i c
  split at s1
  ·rename_i hc
   have hc:c∈cs:=by simpa using hc
   simp only [CT,AM] at rx;obtain⟨b,C,rfl,fb,hb,hC⟩:=rx;exact⟨b,C,.ref D,.ref D,_,rfl,(fun u z=>z),hb,(t.k c hc C hC).1,(t.k c hc C hC).2,(t.own c hc x hx C D hC h2).1,s1 F1 H1 _ Le.refl (RR.of ok1 rfl)⟩
  ·exact s1.elim
 ·exact s1.elim
def isV(cs:List Str)(f:FS->Out Rv):FS->Out Rv:=fun fs=>(f fs).bnd fun r fs=>match r with
 | .t (.exn c)=>if cs.contains c=true then okT (.bl true) fs else .bad
 | _=>.bad
theorem Wr(t:Ju X.K X.mg cs ds tab)(hm:X.mg "isinstance"=none)(hm2:X.mg "ValueError"=none)(ha:FE X Z a f)(hg:Gl X "isinstance":=by rfl)(hg2:Gl X "ValueError":=by rfl)
  (hs:starEach [a,.Name "ValueError" p2] X.env=(false,eval a X.env) :: starEach [.Name "ValueError" p2] X.env:=by rfl) (hs2:starEach [.Name "ValueError" p2] X.env=[(false,eval (.Name "ValueError" p2) X.env)]:=by rfl) (hpl:(backTo pos (starEach [.Name "ValueError" p2] X.env)).any (·.1)=false:=by rfl) :
  FE X Z (.Call (.Name "isinstance" p) [a,.Name "ValueError" p2] [] pos) (isV cs f):=by
 refine BN (IV Iv hg hm PyProof.Rows.boot_isinstance (Es ha (Es (Tr (v:=.ty "ValueError") hg2 hm2 PyProof.Rows.Boot.«ValueError» rfl) Ii hs2) hs) (by decide) (by decide) hs hpl) fun σ H Q ⟨F,B,fs,ok,s⟩=>?_
 refine⟨F,B,fs,ok,By s fun r fs1 F1 H1 u l1 ok1 rx s1=>?_⟩;split at s1
 ·rename_i c
  split at s1
  ·rename_i hc
   have hc:c∈cs:=by simpa using hc
   simp only [CT,AM] at rx;obtain⟨b,C,rfl,fb,hb,hC⟩:=rx;exact⟨b,C,.ty "ValueError",.type "ValueError",_,rfl,(fun u z=>z),hb,(t.k c hc C hC).1,(t.k c hc C hC).2,t.ve c hc C hC,s1 F1 H1 _ Le.refl (RR.of ok1 rfl)⟩
  ·exact s1.elim
 ·exact s1.elim
end
theorem Q3{X:Cx}{Z:Xp}{x n:Str}{np pos hpos:Pos}{body suite:List Stmt}{b₀:Stmt}{g h:FS->SO}{rs ds:List Str}{tab:Str->Str->Bool}(t:Ju X.K X.mg rs ds tab)(hx:x∈ds)(i:Nat)(l:LkD X Z)(hN:X.N.Nodup)
  (hb:∀E' Z',LkD (X.GV E') Z'->GSs (X.GV E') Z' body g) (hs:∀a,GSs (X.hand a) Xp.no (b₀ :: suite) h) (hi:X.N[i]?=some n:=by rfl) (hl:X.env.scope.names.lookup n=some .local:=by rfl) (hg:Gl X x:=by rfl) (hdb:(x == ("__debug__":Str))=false:=by decide) :
  GS0 X Z (.Try body [.ExceptHandler (some (.Name x np)) (some n) (b₀ :: suite) hpos] [] [] pos) (SY i (fun c=>rs.contains c && tab c x) g h):=by
 obtain⟨C,h1,h2⟩:=t.atd x hx;refine Uc (i:=i) _ i l h1 hN (fun c C' ho hc=>?_) hb hs hi hl hg hdb;rw [Bool.and_eq_true] at ho;exact(t.own c (by simpa using ho.1) x hx C' C hc h2).2 ho.2
def W4:Rv->List Rv->FS->Out Rv
 | x,[.t (.bl true)],fs=>match(Dn fs x).bind Eo with
  | some bs=>okT (.int ((bs.countP id:Nat):Int)) fs
  | none=>.bad
 | _,_,_=>.bad
def W3:Rv->List Rv->FS->Out Rv
 | x,[.t (.bl true)],fs=>match(Dn fs x).bind Eo with
  | some bs=>match bs.findIdx? id with
   | some j=>okT (.int ((j:Nat):Int)) fs
   | none=>.bad
  | none=>.bad
 | _,_,_=>.bad
section
variable{K:Fg}{Z:Xp}
theorem QM:MtF K Z (fun x vs H Q=>∃(l:Addr) (bs:List Bool),x=.ref l/\vs=[.bl true]/\SqL K H l (bs.map V.bl)/\Q (.int ((bs.countP id:Nat):Int)) H) W4:=by
 intro F B H σ fs x rs u vs Q ok rx q s;unfold W4 at s;split at s
 ·obtain⟨v,rfl,qq⟩:=Cf q
  have q':v=V.bl true:=by simpa only [CT,AM] using qq
  subst q';split at s
  ·rename_i bs e
   rw [Option.bind_eq_some_iff] at e;obtain⟨ts,e1,e2⟩:=e;obtain⟨a,us,rfl,hs,r⟩:=BK ok rx e1;rw [GR e2] at r;rw [Aj.bls r] at hs;exact⟨a,bs,rfl,rfl,hs,s F H _ Le.refl (RR.of ok rfl)⟩
  ·exact s.elim
 ·exact s.elim
theorem QL:MtF K Z (fun x vs H Q=>∃(l:Addr) (bs:List Bool) (j:Nat),x=.ref l/\vs=[.bl true]/\SqL K H l (bs.map V.bl)/\bs[j]?=some true/\(∀m,m < j->bs[m]?=some false)/\Q (.int ((j:Nat):Int)) H) W3:=by
 intro F B H σ fs x rs u vs Q ok rx q s;unfold W3 at s;split at s
 ·obtain⟨v,rfl,qq⟩:=Cf q
  have q':v=V.bl true:=by simpa only [CT,AM] using qq
  subst q';split at s
  ·rename_i bs e
   rw [Option.bind_eq_some_iff] at e;obtain⟨ts,e1,e2⟩:=e;obtain⟨a,us,rfl,hs,r⟩:=BK ok rx e1;rw [GR e2] at r;rw [Aj.bls r] at hs;split at s
   ·rename_i j ej
    obtain⟨hj,h1,h2⟩:=List.findIdx?_eq_some_iff_getElem.mp ej;refine⟨a,bs,j,rfl,rfl,hs,by rw [List.getElem?_eq_getElem hj];exact congrArg some h1,fun m hm=>?_,s F H _ Le.refl (RR.of ok rfl)⟩;have:=h2 m hm;rw [List.getElem?_eq_getElem (Nat.lt_trans hm hj)];simpa using this
   ·exact s.elim
  ·exact s.elim
 ·exact s.elim
end
end FL
namespace L2
open PySem PySem.Spec PyProof.Rows
end L2
namespace FL
open PySem PySem.Spec L2
theorem Xo{K:Fg}{p:Nat}{Fn:FS->Out Rv}{vs:List V}{H:Hp}{Q:VK}{E E':XK}(h:spF K p Fn vs H Q E):spX K p Fn vs H Q E':=by
 obtain⟨h1,F,fs0,ok,h⟩:=h;refine⟨h1,F,fs0,ok,?_⟩;cases e:Fn fs0 with
 | ok r τ=>rw [e] at h;exact h
 | exc c τ=>rw [e] at h;exact h.elim
 | bad=>rw [e] at h;exact h.elim
section
variable{X:Cx}{Z:Xp}{x:Str}{k p:Nat}{ps:List Str}{Fn:FS->Out Rv}{e o:Expr}{es:List Expr}{fa:FS->Out (List Rv)}{fo f:FS->Out Rv}{pp pos apos np cpos cp fp jp:Pos}{C:Addr}{m:Str}{v:Expr}{a:Str}{j:Nat}
theorem Ul(G:W8 X.prog X.w X.K X.mg X.base (CX1 X.prog X.w) C m k ps (spX X.K p Fn))(hr:EX k X.A)(ho:FE X Z o fo)
  (h:∀{ta:TE},PE X o ta->PE X (.Call (.Attribute o m apos) [] [] pos) (S5 C m (spX X.K p Fn) [] E0 ta WW)):FE X Z (.Call (.Attribute o m apos) [] [] pos) (QN C m p Fn fo Ak):=by
 refine BN (h ho) fun σ H Q ⟨F,B,fs,ok,s⟩=>⟨F,B,fs,ok,By s fun r fs1 F1 H1 u l ok1 rx s1=>?_⟩
 split at s1
 ·rename_i hi
  obtain⟨a,dx,kvs,rfl,hd,hn⟩:=QX ok1 rx hi;refine⟨a,dx,kvs,rfl,hd,hn,?_⟩;have s2:sat Z B (RR X.K B σ) F1 H1 (PL p Fn [r] fs1) Q:=s1;unfold PL at s2;split at s2
  ·rename_i hp
   show spX X.K p Fn (.ref a :: ([]++[])) H1 Q E0;rw [<- hp];obtain⟨L9,o9⟩:=ok1;refine Xo (E:=E0) (RD (rs:=[r]) (vs:=[.ref a]) ⟨L9,[],o9,⟨_,[],[],[],rfl,?_,⟨rfl,rfl⟩,rfl⟩,by simpa using o9.nd,(fun _ m=>nomatch m)⟩ s2);cases r with
   | t t=>exact⟨rfl,rx⟩
   | nw o=>exact rx.elim
   | rf i=>exact⟨rfl,rx⟩
  ·exact s2.elim
 ·exact s1.elim
theorem Sr{a b:Expr}{fa fb:FS->Out Rv}(hu:X.A.units+61 < cLine)(ha:FE X Z a fa)(hb:FE X Z b fb):FT X Z (.Compare a [.NotEq] [b] pos) (asB (Ae (M4 true) fa fb)):=FF (N4 true hu) NT ha hb (E5 _)
def DA(c:Str)(f:FS->Out Rv):FS->SO:=fun fs=>SO.of (f fs) fun r fs=>match r with
 | .t (.str z)=>if Bs z=true then .exc c fs else .bad
 | _=>.bad
theorem DD(c:Xc X.K X.mg x)(l:LkD X Z)(hc:X.calm=true)(ha:FE X Z v f)(hl:a.length<=1000:=by decide)(hg:Gl X x:=by rfl)(hdb:(x == ("__debug__":Str))=false:=by decide)
  (he:starEach [(.JoinedStr [.Constant (.str a) j cp,.FormattedValue v 114 none fp] jp:Expr)] X.env=[(false,eval (.JoinedStr [.Constant (.str a) j cp,.FormattedValue v 114 none fp] jp) X.env)]:=by rfl) :
  GS X Z (.Raise (some (.Call (.Name x np) [.JoinedStr [.Constant (.str a) j cp,.FormattedValue v 114 none fp] jp] [] cpos)) none pos) (DA x f):=by
 obtain⟨C,h1,h2,h3⟩:=c.ex;refine Dh (IQ (C:=C) (Z:=EZ X.K Z) ⟨h1,h3⟩ l.d.ex hc l.k (Es (Xx ha hl) Ii he) hg hdb he rfl) fun D σ H ⟨F,B,fs,ok,s⟩=>⟨F,B,fs,ok,CV s fun r fs1 F1 H1 u l q s1=>?_⟩
 split at s1
 ·rename_i z
  split at s1
  ·rename_i hz
   have hok:=q.ok;obtain⟨L,L',_,⟨_,qu⟩,_⟩:=q;have eu:u=.str z:=qu;subst eu;exact⟨z,rfl,hz,fun r'=>⟨by simp,F1,B,fs1,x,C,h2,rfl,hok,s1⟩⟩
  ·exact s1.elim
 ·exact s1.elim
end
section
variable{K:Fg}{B:Nat->Option V}{F F':Wd}{H H':Hp}{σ:St}{fs:FS}{i:Nat}{ob:FO}
theorem AE.app:∀{os:List FO} {o:FO} {vs:List V} {v:V} {L1 L2:List Addr},AE K F H os vs L1->AU K F H o v L2->AE K F H (os++[o]) (vs++[v]) (L1++L2)
 | [],o,vs,v,L1,L2,h,g=>by
  obtain⟨rfl,rfl⟩:=(show vs=[]/\L1=[] by simpa only [AE] using h)
  simp only [List.nil_append,AE];exact⟨v,[],L2,[],rfl,g,⟨rfl,rfl⟩,by simp⟩
 | x :: os,o,vs,v,L1,L2,h,g=>by
  simp only [AE] at h;obtain⟨w,r,M1,M2,rfl,h1,h2,rfl⟩:=h;simp only [List.cons_append,AE];exact⟨w,r++[v],M1,M2++L2,rfl,h1,AE.app h2 g,by simp⟩
theorem AE.len:∀{os:List FO} {vs:List V} {L:List Addr},AE K F H os vs L->vs.length=os.length
 | [],vs,L,h=>by
  obtain⟨rfl,rfl⟩:=(show vs=[]/\L=[] by simpa only [AE] using h)
  rfl
 | o :: os,_,_,h=>by
  simp only [AE] at h;obtain⟨w,r,M1,M2,rfl,h1,h2,rfl⟩:=h;rw [List.length_cons,List.length_cons,AE.len h2]
end
section
variable{X:Cx}{Z:Xp}{x:Str}{e:Expr}{f:FS->Out Rv}{p1 p2 p ap cp pos:Pos}
end
section
variable{X:Cx}{Z:Xp}{x:Str}{e:Expr}{f:FS->Out Rv}{p1 p2 p ap cp pos q1 q2:Pos}{j:Nat}
end
section
variable{X:Cx}{Z:Xp}{x:Str}{e a:Expr}{es:List Expr}{f:FS->Out Rv}{fa:FS->Out (List Rv)}{p pos pos':Pos}
end
section
variable{X:Cx}{Z:Xp}{v v1 v2:Expr}{es:List Expr}{f:FS->Out Rv}{gs:List (FS->Out Rv)}{fp jp:Pos}
end
section
variable{X:Cx}{Z:Xp}{a:Expr}{x:Str}{ts:List Str}{f:FS->Out Rv}{p pos:Pos}
end
end FL
namespace FL
open PySem PySem.Spec L2 PyProof.Rows
section
variable{X:Cx}{Z:Xp}{a b:Expr}{x:Str}{tab:List (Str×List Str)}{fa fb:FS->Out Rv}{p p2 pos:Pos}
end
theorem Wt{X:Cx}{Z:Xp}{a b:Expr}{fa fb:FS->Out Rv}{pos:Pos}(hu:X.A.units+61 < cLine)(ha:FE X Z a fa)(hb:FE X Z b fb):FE X Z (.Compare a [.Eq] [b] pos) (Ae (M4 false) fa fb):=L7 (N4 false hu) VL ha hb (E5 _)
end FL
namespace FL
open PySem PySem.Spec L2
def PZ:List Rv->Option (List FO)
 | []=>some []
 | r :: rs=>match X6 r,PZ rs with
  | some o,some os=>some (o :: os)
  | _,_=>none
def U9(g:FS->Out (List Rv)):FS->Out Rv:=fun fs=>(g fs).bind fun rs fs=>match PZ rs with
 | some os=>if os.length<=big then .ok (.nw (.tpl os)) fs else .bad
 | none=>.bad
section
variable{K:Fg}{F F':Wd}{H H':Hp}{σ:St}
theorem EY.os:∀{rs:List Rv} {os:List FO} {vs:List V} {M:List Addr},EY K F H σ rs vs M->PZ rs=some os->AE K F H os vs M
 | [],os,vs,M,h,e=>by
  simp only [PZ] at e;cases e;exact h
 | r :: rs,os,vs,M,h,e=>by
  simp only [PZ] at e;obtain⟨v,w,L1,L2,rfl,h1,h2,rfl⟩:=h;split at e
  ·rename_i o os' e1 e2
   cases e;simp only [AE];refine⟨v,w,L1,L2,rfl,?_,EY.os h2 e2,rfl⟩;cases r with
   | t t=>cases e1;simp only [AU];exact h1
   | nw o'=>cases e1;exact h1
   | rf j=>cases e1
  ·cases e
end
section
variable{X:Cx}{Z:Xp}{es:List Expr}{g:FS->Out (List Rv)}{pos:Pos}
theorem Wo{x1}(h:FAn X Z es g):FE X Z (.Tuple es x1 pos) (U9 g):=by
 refine BN (R8 h) fun σ H Q ⟨F,B,fs,ok,s⟩=>⟨F,B,fs,ok,A5 s fun rs fs1 F1 H1 us l q s1=>?_⟩
 obtain⟨L,M,o,rr,nd,fr⟩:=q;split at s1
 ·rename_i os e
  have ro:=rr.os e;split at s1
  ·rename_i hl
   refine⟨by rw [AE.len ro];exact Nat.le_trans hl E8,fun p hp=>?_⟩;have lp:Le F1 H1 F1 (upd H1 p (.tup us)):=BE ⟨L,o⟩ hp;have nM:p∉M:=fun m=>AE.def ro p m hp
   have nL:p∉L:=fun m=>o.sl.def p m hp
   have nd':=List.nodup_append.mp nd;refine s1 F1 _ (.ref p) lp ⟨L,p :: M,⟨o.sl.le lp (o.QU hp),o.nd,o.nf,fun a f=>Dz (o.fd a f),o.bo,fun a f=>Dz (o.pd a f),o.pf,o.pl⟩,?_,?_,fun a m=>?_⟩
   ·simp only [Ng,AU]
    exact⟨p,us,M,rfl,AK,AE.le lp (fun a m=>Ay fun e=>nM (e▸m)) ro,rfl⟩
   ·rw [List.nodup_append]
    refine⟨o.nd,List.nodup_cons.mpr ⟨nM,nd'.2.1⟩,fun a ha b hb e=>?_⟩;subst e;rcases List.mem_cons.mp hb with rfl | hb
    ·exact nL ha
    ·exact nd'.2.2 a ha a hb rfl
   ·rcases List.mem_cons.mp m with rfl | m
    ·exact⟨fun f=>o.fd a f hp,fun f=>o.pd a f hp⟩
    ·exact fr a m
  ·exact s1.elim
 ·exact s1.elim
end
def EA(gt:T->FS->Option FS)(fe:FS->Out Rv):List T->FS->List FO->Option (List FO×FS)
 | [],τ,acc=>some (acc,τ)
 | t :: ts,τ,acc=>match gt t τ with
  | none=>none
  | some τ=>match fe τ with
   | .ok (.nw v) τ=>if acc.length < big then EA gt fe ts τ (acc++[v]) else none
   | _=>none
def Lq(src:List (Option Nat))(fi:FS->Out (List T))(gt:T->FS->Option FS)(fe:FS->Out Rv):FS->Out Rv:=fun fs=>(fi fs).bind fun ts fs =>
 if(CG fs (src.map fun o=>o.elim Ini.no Ini.slot)).Nodup/\(src.all fun o=>o.elim true fun j=>decide (j < fs.length))=true then(match EA gt fe ts (Dp fs (src.map fun o=>o.elim Ini.no Ini.slot)) [] with
  | some (os,τ)=>(match En (src.map fun o=>o.elim Ini.no Ini.slot) τ fs with
   | some fs'=>.ok (.nw (.los os)) fs'
   | none=>.bad)
  | none=>.bad) else .bad
section
variable{X:Cx}{Z:Xp}{N:List Str}{sc:Scope}{tg iter elt:Expr}{fi:FS->Out (List T)}{gt:T->FS->Option FS}{fe:FS->Out Rv}{pos:Pos}{K:Fg}
inductive CO(K:Fg)(W:Wd)(H1:Hp)(D:Addr)(Bc:Nat->Option V)(gt:T->FS->Option FS)(fe:FS->Out Rv)(r:List FO×FS)(l:List T)(τσ:St)(H2:Hp):Prop
 | mk (F2:Wd) (τ:FS) (acc:List FO) (ys:List V) (M:List Addr) (l2:Le W H1 F2 H2) (pD:F2.p D) (pM:∀a∈M,F2.p a/\a≠D/\¬ W.p a) (ndM:M.Nodup) (ok2:Okk K F2 Bc H2 τ τσ) (hD2:H2 D=some (.lst ys)) (racc:AE K F2 H2 acc ys M) (ec:EA gt fe l τ acc=some r):CO K W H1 D Bc gt fe r l τσ H2
theorem AE.lw{K:Fg}{F F':Wd}{H H':Hp}{os:List FO}{vs:List V}{M:List Addr}(l:∀a,F a->F' a/\H' a=H a)(k:∀a∈M,H' a=H a)(r:AE K F H os vs M):AE K F' H' os vs M :=
 AE.le (F:=⟨F.f,fun _=>False⟩) ⟨l,fun _ z=>z.elim⟩ k (AE.wp r)
theorem AU.lw{K:Fg}{F F':Wd}{H H':Hp}{o:FO}{v:V}{M:List Addr}(l:∀a,F a->F' a/\H' a=H a)(k:∀a∈M,H' a=H a)(r:AU K F H o v M):AU K F' H' o v M :=
 AU.le (F:=⟨F.f,fun _=>False⟩) ⟨l,fun _ z=>z.elim⟩ k (AU.wp r)
theorem CO.put{W F6:Wd}{H1 H6:Hp}{D:Addr}{Bc:Nat->Option V}{r:List FO×FS}{l:List T}{τσ:St}{τ3:FS}{acc:List FO}{ys:List V}{v:FO}{y:V}{L6 L' M:List Addr}(nP:¬ W.p D)(l16:Le W H1 F6 H6)(p6:F6.p D)(o6:Ok K F6 Bc H6 τ3 τσ L6)
  (racc6:AE K F6 H6 acc ys M) (pM:∀a∈M,F6.p a/\a≠D/\¬ W.p a) (ndM:M.Nodup) (rv:AU K F6 H6 v y L') (nd:(L6++L').Nodup) (fr:∀a∈L',¬ F6 a/\¬ F6.p a)
  (ec2:EA gt fe l τ3 (acc++[v])=some r):CO K W H1 D Bc gt fe r l τσ (upd H6 D (.lst (ys++[y]))):=by
 have nd':=List.nodup_append.mp nd;have hf:∀a,F6 a->F6 a/\upd H6 D (.lst (ys++[y])) a=H6 a:=fun a f=>⟨f,Ay fun e=>o6.pf a f (by rw [e];exact p6)⟩
 refine .mk ⟨F6.f,fun a=>F6.p a∨a∈L'⟩ τ3 (acc++[v]) (ys++[y]) (M++L') ⟨fun a f=>⟨(l16.f a f).1,(hf a (l16.f a f).1).2.trans (l16.f a f).2⟩,fun a f=>⟨.inl (l16.p a f).1,by rw [Ay fun e=>nP (by rw [<- e];exact f)];exact(l16.p a f).2⟩⟩
  (.inl p6) (fun a m=>?_) ?_ ?_ AK ?_ ec2
 ·rcases List.mem_append.mp m with m | m
  ·exact⟨.inl (pM a m).1,(pM a m).2⟩
  ·exact⟨.inr m,fun e=>(fr a m).2 (e▸p6),fun z=>(fr a m).2 (l16.p a z).1⟩
 ·rw [List.nodup_append]
  exact⟨ndM,nd'.2.1,fun a ha b hb e=>(fr b hb).2 (e▸(pM a ha).1)⟩
 ·refine Okk.upP ⟨L6,AG.wp o6.sl,o6.nd,o6.nf,o6.fd,o6.bo,fun a z=>?_,fun a f z=>?_,fun a m z=>?_⟩ (.inl p6)
  ·rcases z with z | z
   ·exact o6.pd a z
   ·exact AU.def rv a z
  ·rcases z with z | z
   ·exact o6.pf a f z
   ·exact(fr a z).1 f
  ·rcases z with z | z
   ·exact o6.pl a m z
   ·exact nd'.2.2 a m a z rfl
 ·exact AE.app (AE.lw hf (fun a m=>Ay fun e=>(pM a m).2.1 e) racc6) (AU.lw hf (fun a m=>Ay fun e=>(fr a m).2 (e▸p6)) rv)
theorem CO.turn{W F3:Wd}{H1 H3:Hp}{D:Addr}{Bc:Nat->Option V}{r:List FO×FS}{t:T}{l:List T}{τσ:St}{τ:FS}{acc:List FO}{ys:List V}{x:V}{M:List Addr}(nP:¬ W.p D)(l2:Le W H1 F3 H3)(pD:F3.p D)(ok2:Okk K F3 Bc H3 τ τσ)(hD2:H3 D=some (.lst ys))
  (racc:AE K F3 H3 acc ys M) (pM:∀a∈M,F3.p a/\a≠D/\¬ W.p a) (ndM:M.Nodup) (ec2:EA gt fe (t :: l) τ acc=some r) (rx:AM K F3 H3 t x) :
  tG K gt x τσ H3 fun τ2 H4=>tT K Xp.no DX τ2 H4 fun b H5=>if b=true then tF K Xp.no fe τ2 H5 fun y H6=>∃ys,H6 D=some (.lst ys)/\ys.length < sizeLine/\CO K W H1 D Bc gt fe r l τ2 (upd H6 D (.lst (ys++[y]))) else CO K W H1 D Bc gt fe r l τ2 H5:=by
 simp only [EA] at ec2;refine⟨F3,Bc,τ,t,ok2,rx,?_⟩;cases eg:gt t τ with
 | none=>rw [eg] at ec2;cases ec2
 | some τ1 =>
  rw [eg] at ec2;intro F4 H4 τσ4 l4 ok4;refine⟨F4,Bc,τ1,ok4,?_⟩;dsimp only at ec2;intro F5 H5 b' l5 q5;obtain⟨ok5,rfl⟩:=q5;rw [if_pos rfl];have l45:=l4.trans l5;have p5:=l45.p D pD;refine⟨F5,Bc,τ1,ok5,?_⟩;cases ee:fe τ1 with
  | exc c τ3=>rw [ee] at ec2;cases ec2
  | bad=>rw [ee] at ec2;cases ec2
  | ok w τ3 =>
   rw [ee] at ec2;cases w with
   | t o=>cases ec2
   | rf o=>cases ec2
   | nw v =>
    dsimp only at ec2;by_cases hlen:acc.length < big
    ·rw [if_pos hlen] at ec2
     intro F6 H6 y l6 q6;obtain⟨L6,L6',o6,rv,nd,fr⟩:=q6;have l36:=l45.trans l6;have p6:=l36.p D pD;exact⟨ys,p6.2.trans hD2,by rw [AE.len racc];exact Nat.lt_trans hlen Iy,CO.put nP (l2.trans l36) p6.1 o6 (AE.le l36 (fun a m=>(l36.p a (pM a m).1).2) racc) (fun a m=>⟨(l36.p a (pM a m).1).1,(pM a m).2⟩) ndM rv nd fr ec2⟩
    ·rw [if_neg hlen] at ec2
     cases ec2
theorem Uw{src:List (Option Nat)}{σ:St}{H:Hp}{Q:VK}(h:tF K Z (Lq src fi gt fe) σ H Q):Qg src (tI K Z fi) (tG K gt) (tT K Xp.no DX) (tF K Xp.no fe) σ H Q:=by
 obtain⟨F,B,fs,ok,s⟩:=h;refine⟨F,B,fs,ok,A5 s fun ts fs1 F1 H1 J l q s1=>?_⟩;obtain⟨ok1,jk⟩:=q;split at s1
 ·rename_i hnd
  obtain⟨L9,ok9⟩:=id ok1;obtain⟨Pp,p1,p2,p3,p4⟩:=lend (μ:=fun _=>[]) ok9 (by unfold Fj;simp) (PD ok1 hnd.2) hnd.1 Mu.no;have jI:JOk K ⟨F1.f,Pp⟩ H1 J ts:=jk.within;split at s1
  ·rename_i vs τe ec
   split at s1
   ·rename_i fs' eb
    intro D hD;have nP:¬ Pp D:=fun z=>p3 D z hD
    refine⟨fun i m τσ H2=>m=ts.length - i/\CO K ⟨F1.f,Pp⟩ H1 D (Bof (Fj σ src)) gt fe (vs,τe) (ts.drop i) τσ H2,
     ⟨ts.length,rfl,.mk ⟨F1.f,fun a=>Pp a∨a=D⟩ _ [] [] [] ⟨fun a f=>⟨f,Ay fun e=>p2.fd a f (e▸hD)⟩,fun a f=>⟨.inl f,Ay fun e=>nP (e▸f)⟩⟩ (.inr rfl) (fun _ m=>nomatch m) List.nodup_nil (p2.hide hD) AK ⟨rfl,rfl⟩ ec⟩,fun i m τσ H2 hc=>?_⟩
    obtain⟨rfl,F2,τ,acc,ys,M,l2,pD,pM,ndM,ok2,hD2,racc,ec2⟩:=hc;by_cases hit:i < ts.length
    ·have ei:ts[i]?=some ts[i]:=List.getElem?_eq_getElem hit
     rw [List.drop_eq_getElem_cons hit] at ec2;obtain⟨j1,j2⟩:=(jI F2 H2 l2.f ⟨_,_,_,ok2⟩ i).1 _ ei;refine .inr ⟨j1,CO K ⟨F1.f,Pp⟩ H1 D (Bof (Fj σ src)) gt fe (vs,τe) (ts.drop (i+1)),fun τσ' H' h=>⟨ts.length - (i+1),by omega,rfl,h⟩,fun x H3 hy=>?_⟩;obtain⟨F3,⟨l23,nw⟩,rx⟩:=j2 x H3 hy;exact CO.turn nP (l2.trans l23) (l23.p D pD).1 (nw _ _ _ ok2) ((l23.p D pD).2.trans hD2) (AE.le l23 (fun a m=>(l23.p a (pM a m).1).2) racc) (fun a m=>⟨(l23.p a (pM a m).1).1,(pM a m).2⟩) ndM ec2 rx
    ·refine .inl ⟨(jI F2 H2 l2.f ⟨_,_,_,ok2⟩ i).2 (by omega),?_⟩
     rw [List.drop_eq_nil_of_le (by omega)] at ec2;simp only [EA] at ec2;cases ec2;obtain⟨Li,o2⟩:=ok2;obtain⟨le,L,o3,sub⟩:=p4 F2 H2 τe τσ Li fs' l2 o2 eb;have nL:D∉L:=fun m=>(sub D m).elim (fun z=>o2.pl D z pD) nP
     have np:¬ F1.p D:=fun z=>nP (p1 D z)
     refine s1 ⟨F2.f,F1.p⟩ H2 (.ref D) le ⟨L,D :: M,o3,?_,?_,fun a m=>?_⟩
     ·simp only [Ng,AU]
      exact⟨D,ys,M,rfl,hD2,AE.wp racc,rfl⟩
     ·rw [List.nodup_append]
      refine⟨o3.nd,List.nodup_cons.mpr ⟨fun m=>(pM D m).2.1 rfl,ndM⟩,fun a ha b hb e=>?_⟩;subst e;rcases List.mem_cons.mp hb with rfl | hb
      ·exact nL ha
      ·exact(sub a ha).elim (fun z=>o2.pl a z (pM a hb).1) (pM a hb).2.2
     ·rcases List.mem_cons.mp m with rfl | m
      ·exact⟨fun f=>o2.pf a f pD,np⟩
      ·exact⟨fun f=>o2.pf a f (pM a m).1,fun z=>(pM a m).2.2 (p1 a z)⟩
   ·exact s1.elim
  ·exact s1.elim
 ·exact s1.elim
theorem K8(i:Nat){y:Str}{pos' spos:Pos}(N:List Str)(src:List (Option Nat))(hcalm:X.calm=true)(hN:X.N.Nodup)(hy:Loc X.env.scope y)(hi:FI X Z tg iter fi)(hg:∀cl C s H fp,GT (CM X N sc cl C s H fp) tg gt)
  (he:∀cl C s H fp,FE (CM X N sc cl C s H fp) Xp.no elt fe) (hiy:X.N[i]?=some y:=by rfl) (hS:HB X.env.scope sc=true:=by rfl) (hcap:FR X.N sc N src=true:=by rfl)
  (hs:∀x,foldedSetIterable iter X.env x=pure x:=by intro _;rfl) (hsw:swapsWith (.ListComp elt [⟨tg,iter,[],0⟩] sc pos) (some (.Name y pos')) spos.line X.env=pure true:=by rfl)
  (hf:X.fn y=true∨X.env.scope.names.lookup y=some .local:=by first | exact .inl rfl | exact .inr rfl | assumption) :
  GS X Z (.Assign [.Name y pos'] (.ListComp elt [⟨tg,iter,[],0⟩] sc pos) spos) (AS i (Lq src fi gt fe)) :=
 Dh (Ie (g:=tG X.K gt) (tt:=tT X.K Xp.no DX) (te:=tF X.K Xp.no fe) N src hcalm hN hiy hy hi hg (fun _ _ _ _ _=>C1) he hS hcap hs hsw hf) fun _ _ _ s=>Uw (S9 s)
end
def GG:T->Bool
 | .non=>true
 | .bl _=>true
 | .int _=>true
 | .str _=>true
 | _=>false
section
variable{K:Fg}{F F':Wd}{H:Hp}
theorem AM.atom:∀{t:T} {v:V},GG t=true->AM K F H t v->AM K F' H t v/\∀b,v≠.ref b
 | .non,_,_,h=>by cases h;exact⟨rfl,fun _=>nofun⟩
 | .bl _,_,_,h=>by cases h;exact⟨rfl,fun _=>nofun⟩
 | .int _,_,_,h=>by cases h;exact⟨rfl,fun _=>nofun⟩
 | .str _,_,_,h=>by cases h;exact⟨rfl,fun _=>nofun⟩
 | .tup _,_,e,_=>by cases e
 | .lst _,_,e,_=>by cases e
 | .scr _,_,e,_=>by cases e
 | .dK _ _,_,e,_=>by cases e
 | .dT _ _,_,e,_=>by cases e
 | .ins _ _ _,_,e,_=>by cases e
 | .dF _ _,_,e,_=>by cases e
 | .exn _,_,e,_=>by cases e
theorem Aj.atom:∀{ts:List T} {vs:List V},ts.all GG=true->Aj K F H ts vs->Aj K F' H ts vs/\∀b,V.ref b∉vs
 | [],_,_,h=>by simp only [Aj] at h;subst h;exact⟨rfl,fun _=>nofun⟩
 | t :: ts,_,e,h=>by
  simp only [List.all_cons,Bool.and_eq_true] at e;simp only [Aj] at h ⊢;obtain⟨v,r,rfl,h1,h2⟩:=h;obtain⟨a1,a2⟩:=AM.atom (F':=F') e.1 h1;obtain⟨b1,b2⟩:=Aj.atom e.2 h2;exact⟨⟨v,r,rfl,a1,b1⟩,fun b m=>(List.mem_cons.mp m).elim (fun z=>a2 b z.symm) (b2 b)⟩
end
section
variable{K:Fg}{F:Wd}{H:Hp}{B:Nat->Option V}
end
section
variable{K:Fg}{B:Nat->Option V}{F:Wd}{H:Hp}{σ:St}{fs:FS}{i:Nat}{L:List Addr}
end
section
variable{X:Cx}{Z:Xp}{a b h:Str}{k:Nat}{pa pb tp ph p1 p2 p3 p4 p5 p6 p7 p8 pos:Pos}{sts:List Stmt}{g:FS->SO}
end
def Fd(C:Addr)(p:Nat)(Fn:FS->Out Rv)(rs:List Rv)(fs:FS):Out Rv :=
 if(CG fs (rs.map BQ)).Nodup/\rs.length+1=p then(match Fn (some (.bor (.ins C [] [])) :: Dp fs (rs.map BQ)) with
  | .ok (.t .non) (some (.bor o) :: τ)=>(match En (rs.map BQ) τ fs with
   | some fs'=>.ok (.nw o) fs'
   | none=>.bad)
  | .exc c (s0 :: τ)=>(match En (rs.map BQ) τ fs with
   | some fs'=>.exc c fs'
   | none=>.bad)
  | _=>.bad) else .bad
section
variable{X:Cx}{Z:Xp}{x:Str}{k p:Nat}{ps:List Str}{Fn:FS->Out Rv}{e:Expr}{es:List Expr}{fa:FS->Out (List Rv)}{pp pos:Pos}{C:Addr}
theorem QQ{K:Fg}{F:Wd}{H:Hp}{B:Nat->Option V}{fs:FS}{σ:St}{rs:List Rv}{vs:List V}{Q:VK}(q:RAn K B σ F H fs rs vs)(s:sat Z B (RR K B σ) F H (Fd C p Fn rs fs) Q)
  {x dx:Addr} (hx:H x=none) (hdx:H dx=none) (hne:dx≠x):spX K p Fn (.ref x :: vs) (upd (upd H dx (.own x)) x (.ins C dx [])) (fun v H2=>v=.non/\Q (.ref x) H2) fun c _ H'=>EZ K Z c σ H':=by
 unfold Fd at s;split at s
 ·rename_i hh
  obtain⟨nd,hp⟩:=hh;obtain⟨L9,μ,ok,hμ,hl,hi⟩:=OH q;obtain⟨Pp,p1,⟨L0,p2⟩,p3,p4⟩:=lend ok hl hi nd hμ;have l0:∀a,H a≠none->(upd (upd H dx (.own x)) x (.ins C dx [])) a=H a:=fun a h=>by
   rw [Ay (fun e=>h (by rw [e];exact hx)),Ay (fun e=>h (by rw [e];exact hdx))]
  have le0:Le ⟨F.f,Pp⟩ H ⟨F.f,Pp⟩ (upd (upd H dx (.own x)) x (.ins C dx [])):=⟨fun a f=>⟨f,l0 a (p2.fd a f)⟩,fun a f=>⟨f,l0 a (p3 a f)⟩⟩
  refine⟨by rw [List.length_cons,q.len];exact hp,⟨F.f,Pp⟩,some (.bor (.ins C [] [])) :: Dp fs (rs.map BQ),?_,?_⟩
  ·refine⟨[x]++L0,AG.cons ⟨.ref x,rfl,?_⟩ (p2.sl.le le0 fun a m=>l0 a (p2.sl.def a m)),?_,fun a m=>?_,fun a f=>?_,fun i o e=>?_,fun a f=>?_,p2.pf,fun a m=>?_⟩
   ·simp only [AU]
    exact⟨x,dx,[],[],rfl,AK,rfl,⟨rfl,rfl⟩,rfl⟩
   ·rw [List.nodup_append]
    exact⟨by simp,p2.nd,fun a ha b hb e=>p2.sl.def b hb (by rw [<- e,List.mem_singleton.mp ha];exact hx)⟩
   ·rcases List.mem_append.mp m with m | m
    ·rw [List.mem_singleton.mp m]
     exact fun f=>p2.fd x f hx
    ·exact p2.nf a m
   ·rw [l0 a (p2.fd a f)]
    exact p2.fd a f
   ·cases i with
    | zero=>exact⟨.ref x,rfl,rfl⟩
    | succ i=>exact p2.bo i o (by simpa using e)
   ·rw [l0 a (p3 a f)]
    exact p3 a f
   ·rcases List.mem_append.mp m with m | m
    ·rw [List.mem_singleton.mp m]
     exact fun f=>p3 x f hx
    ·exact p2.pl a m
  ·split at s
   ·rename_i o τ e
    rw [e];split at s
    ·rename_i fs' eb
     intro F' H' u σ' l k;obtain⟨Lall,L',o1,⟨_,r⟩,_⟩:=k;refine⟨r,?_⟩;obtain⟨v,σ2,L1,L2,rfl,h1,h2,rfl⟩:=o1.sl.HZ;obtain⟨w,rfl,ro⟩:=h1;obtain⟨w',e3,e4⟩:=o1.bo 0 o rfl;have ew:w=.ref x:=by
      have z1:some (some w)=some (some w'):=e3;have z2:some (V.ref x)=some w':=e4;cases z1;cases z2;rfl
     subst ew;have nd1:=List.nodup_append.mp o1.nd;have o2:Ok K F' (Bof (vs.map some)) H' τ σ2 L2:=⟨h2,nd1.2.1,fun a m=>o1.nf a (List.mem_append_right _ m),o1.fd,fun i ob eo=>by
      obtain⟨v,z1,z2⟩:=o1.bo (i+1) ob (by simpa using eo);exact⟨v,by simpa using z1,by
       have z3:(((V.ref x :: vs).map some)[i+1]?).join=some v:=z2;simpa [Bof] using z3⟩,o1.pd,o1.pf,fun a m=>o1.pl a (List.mem_append_right _ m)⟩
     have l':Le ⟨F.f,Pp⟩ H F' H':=le0.trans l;obtain⟨le,L,o3,sub⟩:=p4 F' H' τ σ2 L2 fs' l' o2 eb;refine s ⟨F'.f,F.p⟩ H' (.ref x) le ⟨L,L1,o3,AU.wp ro,?_,fun a m=>⟨o1.nf a (List.mem_append_left _ m),fun p=>o1.pl a (List.mem_append_left _ m) (l'.p a (p1 a p)).1⟩⟩;rw [List.nodup_append];refine⟨o3.nd,nd1.1,fun a ha b hb e=>?_⟩;rcases sub a ha with z | z
     ·exact nd1.2.2 b hb a z e.symm
     ·exact o1.pl b (List.mem_append_left _ hb) (l'.p b (e▸z)).1
    ·exact s.elim
   ·rename_i c s0 τ e
    rw [e];split at s
    ·rename_i fs' eb
     intro C' hC F' H' σ' l k;obtain⟨Lall,o1⟩:=k;obtain⟨v,σ2,L1,L2,rfl,h1,h2,rfl⟩:=o1.sl.HZ;have nd1:=List.nodup_append.mp o1.nd;have o2:Ok K F' (Bof (vs.map some)) H' τ σ2 L2:=⟨h2,nd1.2.1,fun a m=>o1.nf a (List.mem_append_right _ m),o1.fd,fun i ob eo=>by
      obtain⟨v,z1,z2⟩:=o1.bo (i+1) ob (by simpa using eo);exact⟨v,by simpa using z1,by
       have z3:(((V.ref x :: vs).map some)[i+1]?).join=some v:=z2;simpa [Bof] using z3⟩,o1.pd,o1.pf,fun a m=>o1.pl a (List.mem_append_right _ m)⟩
     have l':Le ⟨F.f,Pp⟩ H F' H':=le0.trans l;obtain⟨le,L,o3,sub⟩:=p4 F' H' τ σ2 L2 fs' l' o2 eb;exact⟨⟨F'.f,F.p⟩,B,fs',c,C',hC,rfl,⟨L,o3⟩,Z.mono s le⟩
    ·exact s.elim
   ·exact s.elim
 ·exact s.elim
theorem Sx(G:W9 X.prog X.w X.K X.mg X.base (CX1 X.prog X.w) x C k ps (spX X.K p Fn))(hr:EX (k+1) X.A)(lk:Lks X Z)(ha:FAn X Z (e :: es) fa)(hg:Gl X x:=by rfl)(hdb:(x == ("__debug__":Str))=false:=by decide)
  (he:starEach (e :: es) X.env=(false,eval e X.env) :: starEach es X.env:=by rfl) (hpl:(backTo pos (starEach es X.env)).any (·.1)=false:=by rfl):FE X Z (.Call (.Name x pp) (e :: es) [] pos) (Am (Fd C p Fn) fa):=by
 refine BN (VA G hr lk ha hg hdb he hpl) fun σ H Q ⟨F,B,fs,ok,s⟩=>⟨F,B,fs,ok,A5 s fun rs fs1 F1 H1 us l q s1=>?_⟩
 intro a dx h1 h2 h3;rw [List.append_nil];exact QQ q s1 h1 h2 h3
def OR:List Rv->FS->Out Rv
 | [.t (.int i),.t (.int j)],fs=>okT (.int (if j > i then j else i)) fs
 | _,_=>.bad
theorem UB{K:Fg}:DW K Z (fun xs H Q=>∃i j,xs=[.int i,.int j]/\Q (.int (if j > i then j else i)) H) OR:=by
 intro F B H σ fs rs vs Q ok q s;unfold OR at s;split at s
 ·obtain⟨v,w,rfl,q1,v2,w2,rfl,q2,q3⟩:=q
  cases q1;cases q2;cases q3;exact⟨_,_,rfl,s F H _ Le.refl (RR.of ok rfl)⟩
 ·exact s.elim
theorem Um(hm:X.mg "max"=none)(ha:FA X Z (e :: es) fa)(hc:X.calm=true:=by rfl)(hg:Gl X "max":=by rfl)(he:starEach (e :: es) X.env=(false,eval e X.env) :: starEach es X.env:=by rfl)(hpl:(backTo pos (starEach es X.env)).any (·.1)=false:=by rfl) :
  FE X Z (.Call (.Name "max" pp) (e :: es) [] pos) (Am OR fa):=EM UB (PH hc) hm PyProof.Rows.boot_max ha hg (by decide) (by decide) he hpl
end
def P5:T->Bool
 | .tup ts=>ts.all GG
 | t=>GG t
def lfT:T->Bool
 | .tup ts=>ts.all P5
 | t=>GG t
section
variable{K:Fg}{F F':Wd}{H H':Hp}
theorem Aj.Lv{ts:List T}{vs:List V}(e:ts.all GG=true)(h:Aj K F H ts vs):Aj K F' H' ts vs:=by
 have h2:=(Aj.atom (F':=F') e h).1;exact Aj.lf (F:=⟨fun _=>False,fun _=>False⟩) (fun _ z=>z.elim) (Aj.atom (F':=⟨fun _=>False,fun _=>False⟩) e h).1
theorem AM.Lv{t:T}{v:V}(e:GG t=true)(h:AM K F H t v):AM K F' H' t v:=by
 have:=Aj.Lv (F':=F') (H':=H') (ts:=[t]) (by simp [e]) (Aj.one h);simp only [Aj] at this;obtain⟨v',r,e1,h1,_⟩:=this;cases e1;exact h1
theorem AM.P5(hF:∀a,F a->(∀ws,H a≠some (.lst ws))->F' a/\H' a=H a){t:T}{v:V}(e:P5 t=true)(h:AM K F H t v):AM K F' H' t v:=by
 unfold FL.P5 at e;split at e
 ·simp only [AM] at h ⊢
  obtain⟨a,vs,rfl,⟨_,f,s⟩,r⟩:=h;have:=hF a f (fun ws z=>by rw [s] at z;cases z);exact⟨a,vs,rfl,⟨rfl,this.1,this.2.trans s⟩,Aj.Lv e r⟩
 ·exact AM.Lv e h
theorem Aj.P5(hF:∀a,F a->(∀ws,H a≠some (.lst ws))->F' a/\H' a=H a):∀{ts:List T} {vs:List V},ts.all FL.P5=true->Aj K F H ts vs->Aj K F' H' ts vs
 | [],_,_,h=>h
 | t :: ts,_,e,h=>by
  simp only [List.all_cons,Bool.and_eq_true] at e;simp only [Aj] at h ⊢;obtain⟨v,r,rfl,h1,h2⟩:=h;exact⟨v,r,rfl,AM.P5 hF e.1 h1,Aj.P5 hF e.2 h2⟩
theorem AM.lfT(hF:∀a,F a->(∀ws,H a≠some (.lst ws))->F' a/\H' a=H a){t:T}{v:V}(e:lfT t=true)(h:AM K F H t v):AM K F' H' t v:=by
 unfold FL.lfT at e;split at e
 ·simp only [AM] at h ⊢
  obtain⟨a,vs,rfl,⟨_,f,s⟩,r⟩:=h;have:=hF a f (fun ws z=>by rw [s] at z;cases z);exact⟨a,vs,rfl,⟨rfl,this.1,this.2.trans s⟩,Aj.P5 hF e r⟩
 ·exact AM.Lv e h
theorem EC:∀os:List FO,GW os=os.map toT
 | []=>rfl
 | o :: os=>by rw [GW,EC os,List.map_cons]
theorem AE.split:∀{os:List FO} {vs:List V} {M:List Addr} {j:Nat} {o:FO},AE K F H os vs M->os[j]?=some o->∃v M1 Mj M2,vs[j]?=some v/\M=M1++(Mj++M2)/\AU K F H o v Mj/\AE K F H (os.take j) (vs.take j) M1/\AE K F H (os.drop (j+1)) (vs.drop (j+1)) M2
 | [],_,_,_,_,_,e=>by simp at e
 | x :: os,_,_,0,o,h,e=>by
  simp only [AE] at h;obtain⟨v,r,L1,L2,rfl,h1,h2,rfl⟩:=h;simp at e;subst e;exact⟨v,[],L1,L2,rfl,rfl,h1,⟨rfl,rfl⟩,by simpa using h2⟩
 | x :: os,_,_,j+1,o,h,e=>by
  simp only [AE] at h;obtain⟨v,r,L1,L2,rfl,h1,h2,rfl⟩:=h;obtain⟨w,M1,Mj,M2,e1,rfl,q1,q2,q3⟩:=AE.split (j:=j) h2 (by simpa using e);refine⟨w,L1++M1,Mj,M2,by simpa using e1,by simp,q1,?_,by simpa using q3⟩;rw [List.take_succ_cons,List.take_succ_cons];simp only [AE];exact⟨v,r.take j,L1,M1,rfl,h1,q2,rfl⟩
theorem Tz{B:Nat->Option V}{fs:FS}{σ:St}{i0:Nat}{la:List Addr}(hl:σ.length=fs.length)(h:∀i s,fs[i]?=some s->∃v,σ[i]?=some v/\Jw K F H s v (if i=i0 then la else []))(nd:la.Nodup)(hla:∀a∈la,¬ F a/\¬ F.p a)
  (fd:∀a,F a->H a≠none) (pd:∀a,F.p a->H a≠none) (pf:∀a,F a->¬ F.p a) (nb:∀(i:Nat) (o:FO),fs[i]?≠some (some (Sl.bor o))):Okk K F B H fs σ:=by
 obtain⟨L,sl,n,sub⟩:=AG.ofP (fun i=>if i=i0 then la else []) hl h (fun i=>by split;exact nd;exact List.nodup_nil) (fun i j a hij m z=>by
  split at m
  ·split at z
   ·omega
   ·cases z
  ·cases m)
 have own:∀a∈L,¬ F a/\¬ F.p a:=fun a m=>by
  obtain⟨i,_,z⟩:=sub a m;split at z
  ·exact hla a z
  ·cases z
 exact⟨L,sl,n,fun a m=>(own a m).1,fd,fun i o e=>(nb i o e).elim,pd,pf,fun a m=>(own a m).2⟩
end
structure Al(K:Fg)(F:Wd)(H:Hp)(i0 ir ia:Nat)(fs:FS)(σ:St)(os:List FO)(j:Nat)(aa:Int)(κ:T)(rs:List T)(a0:Addr)(vs:List V)(M:List Addr)(t b:Addr)(κv:V):Prop where
 s0:fs[i0]?=some (some (.val (.lst (GW os))))
 sr:fs[ir]?=some (some (.val (.lst rs)))
 sa:fs[ia]?=some (some (.val (.int aa)))
 ja:ixN os.length aa=some j
 oj:os[j]?=some (.tpl [.val κ,.lst rs])
 e0:σ[i0]?=some (some (.ref a0))
 er:σ[ir]?=some (some (.ref b))
 ho:H a0=some (.lst vs)
 ro:AE K F H os vs M
 nd:(a0 :: M).Nodup
 nf:∀a∈a0 :: M,¬ F a/\¬ F.p a
 vj:vs[j]?=some (.ref t)
 ht:H t=some (.tup [κv,.ref b])
 at_:∀i s,i≠i0->i≠ir->fs[i]?=some s->s=none∨∃u v,s=some (.val u)/\GG u=true/\σ[i]?=some (some v)/\AM K F H u v
 len:σ.length=fs.length
 fd:∀a,F a->H a≠none
 pd:∀a,F.p a->H a≠none
 pf:∀a,F a->¬ F.p a
 n0:i0≠ir
section
variable{K:Fg}{F:Wd}{H:Hp}{i0 ir ia:Nat}{fs:FS}{σ:St}{os:List FO}{j:Nat}{aa:Int}{κ:T}{rs:List T}{a0:Addr}{vs:List V}{M:List Addr}{t b:Addr}{κv:V}
theorem Al.row(h:Al K F H i0 ir ia fs σ os j aa κ rs a0 vs M t b κv):∃us M1 M2,H b=some (.lst us)/\Aj K F H rs us/\AM K F H κ κv/\M=M1++([t,b]++M2)/\AE K F H (os.take j) (vs.take j) M1/\AE K F H (os.drop (j+1)) (vs.drop (j+1)) M2:=by
 obtain⟨v,M1,Mj,M2,e1,rfl,q,q1,q2⟩:=h.ro.split h.oj;rw [h.vj] at e1;cases e1;simp only [AU,AE] at q;obtain⟨a,ws,L',ea,s,⟨k1,w,N1,N2,rfl,⟨rfl,qk⟩,⟨u,w2,P1,P2,rfl,⟨b',us,rfl,sb,rr,rfl⟩,⟨rfl,rfl⟩,rfl⟩,rfl⟩,rfl⟩:=q;cases ea;have:=h.ht;rw [s] at this;cases this;exact⟨us,M1,M2,sb,rr,qk,by simp,q1,q2⟩
theorem Al.frz(h:Al K F H i0 ir ia fs σ os j aa κ rs a0 vs M t b κv)(B:Nat->Option V):Okk K ⟨fun a=>F a∨a∈a0 :: M,F.p⟩ B H fs σ/\∀(F2:Wd) (H2:Hp),Le ⟨fun a=>F a∨a∈a0 :: M,F.p⟩ H F2 H2->Le F H F H2/\Al K F H2 i0 ir ia fs σ os j aa κ rs a0 vs M t b κv:=by
 obtain⟨us,M1,M2,hb,rr,_,eM,_,_⟩:=h.row;have lF:Le F H ⟨fun a=>F a∨a∈a0 :: M,F.p⟩ H:=⟨fun a f=>⟨.inl f,rfl⟩,fun a f=>⟨f,rfl⟩⟩
 have hdef:∀a∈a0 :: M,H a≠none:=fun a m=>by
  rcases List.mem_cons.mp m with rfl | m
  ·rw [h.ho];simp
  ·exact AE.def h.ro a m
 refine⟨Tz (i0:=i0) (la:=[]) h.len (fun i s e=>?_) List.nodup_nil (fun _ m=>nomatch m) (fun a f=>?_) h.pd (fun a f=>?_) (fun i o e=>?_),fun F2 H2 l=>?_⟩
 ·by_cases h0:i=i0
  ·subst h0
   rw [h.s0] at e;cases e;refine⟨_,h.e0,.ref a0,rfl,?_,by split <;> rfl⟩;simp only [AM];exact⟨a0,vs,rfl,.inr (by simp),h.ho,AE.frz lF (fun a m=>.inr (List.mem_cons_of_mem _ m)) h.ro⟩
  ·by_cases hr:i=ir
   ·subst hr
    rw [h.sr] at e;cases e;refine⟨_,h.er,.ref b,rfl,?_,by split <;> rfl⟩;simp only [AM];exact⟨b,us,rfl,.inr (by rw [eM];simp),hb,Aj.le lF rr⟩
   ·rcases h.at_ i s h0 hr e with rfl | ⟨u,v,rfl,ha,ev,rv⟩
    ·have hi:i < σ.length:=by rw [h.len];exact(List.getElem?_eq_some_iff.mp e).1
     exact⟨_,List.getElem?_eq_getElem hi,by simp [Jw,h0]⟩
    ·exact⟨_,ev,v,rfl,AM.le lF rv,by simp [h0]⟩
 ·rcases f with f | f
  ·exact h.fd a f
  ·exact hdef a f
 ·rcases f with f | f
  ·exact h.pf a f
  ·exact(h.nf a f).2
 ·by_cases h0:i=i0
  ·subst h0;rw [h.s0] at e;cases e
  ·by_cases hr:i=ir
   ·subst hr;rw [h.sr] at e;cases e
   ·rcases h.at_ i _ h0 hr e with z | ⟨u,v,z,_⟩ <;> cases z
 ·have k:∀a∈a0 :: M,H2 a=H a:=fun a m=>(l.f a (.inr m)).2
  have l':Le F H F H2:=⟨fun a f=>⟨f,(l.f a (.inl f)).2⟩,fun a f=>⟨f,(l.p a f).2⟩⟩
  refine⟨l',h.s0,h.sr,h.sa,h.ja,h.oj,h.e0,h.er,(k a0 (by simp)).trans h.ho,AE.le l' (fun a m=>k a (List.mem_cons_of_mem _ m)) h.ro,h.nd,h.nf,h.vj,(k t (by rw [eM];simp)).trans h.ht,fun i s h0 hr e=>?_,h.len,fun a f=>by rw [(l'.f a f).2];exact h.fd a f,fun a f=>by rw [(l'.p a f).2];exact h.pd a f,h.pf,h.n0⟩;rcases h.at_ i s h0 hr e with z | ⟨u,v,z,ha,ev,rv⟩
  ·exact .inl z
  ·exact .inr ⟨u,v,z,ha,ev,AM.le l' rv⟩
theorem Al.half(h:Al K F H i0 ir ia fs σ os j aa κ rs a0 vs M t b κv)(B:Nat->Option V):Okk K ⟨fun a=>F a∨a∈M,F.p⟩ B H (fs.set i0 (some (.own (.lst (GW os))))) σ/\Le F H ⟨fun a=>F a∨a∈M,F.p⟩ H:=by
 obtain⟨us,M1,M2,hb,rr,_,eM,_,_⟩:=h.row;have lF:Le F H ⟨fun a=>F a∨a∈M,F.p⟩ H:=⟨fun a f=>⟨.inl f,rfl⟩,fun a f=>⟨f,rfl⟩⟩
 have hi0:i0 < fs.length:=(List.getElem?_eq_some_iff.mp h.s0).1;refine⟨Tz (i0:=i0) (la:=[a0]) (by simpa using h.len) (fun i s e=>?_) (by simp) (fun a m=>?_) (fun a f=>?_) h.pd (fun a f=>?_) (fun i o e=>?_),lF⟩
 ·by_cases h0:i=i0
  ·subst h0
   rw [List.getElem?_set_self hi0] at e;cases e;refine⟨_,h.e0,.ref a0,rfl,?_⟩;rw [if_pos rfl];simp only [AU];exact⟨a0,vs,rfl,h.ho,AE.frz lF (fun a m=>.inr m) h.ro,rfl⟩
  ·rw [List.getElem?_set_ne (Ne.symm h0)] at e
   rw [if_neg h0];by_cases hr:i=ir
   ·subst hr
    rw [h.sr] at e;cases e;refine⟨_,h.er,.ref b,rfl,?_,rfl⟩;simp only [AM];exact⟨b,us,rfl,.inr (by rw [eM];simp),hb,Aj.le lF rr⟩
   ·rcases h.at_ i s h0 hr e with rfl | ⟨u,v,rfl,ha,ev,rv⟩
    ·have hi:i < σ.length:=by rw [h.len];exact(List.getElem?_eq_some_iff.mp e).1
     exact⟨_,List.getElem?_eq_getElem hi,rfl⟩
    ·exact⟨_,ev,v,rfl,AM.le lF rv,rfl⟩
 ·rw [List.mem_singleton.mp m]
  exact⟨fun f=>f.elim (h.nf a0 (by simp)).1 (List.nodup_cons.mp h.nd).1,(h.nf a0 (by simp)).2⟩
 ·rcases f with f | f
  ·exact h.fd a f
  ·exact AE.def h.ro a f
 ·rcases f with f | f
  ·exact h.pf a f
  ·exact(h.nf a (List.mem_cons_of_mem _ f)).2
 ·by_cases h0:i=i0
  ·subst h0;rw [List.getElem?_set_self hi0] at e;cases e
  ·rw [List.getElem?_set_ne (Ne.symm h0)] at e
   by_cases hr:i=ir
   ·subst hr;rw [h.sr] at e;cases e
   ·rcases h.at_ i _ h0 hr e with z | ⟨u,v,z,_⟩ <;> cases z
end
def tAl(i0 ir ia:Nat)(K:Fg)(Z:Xp)(g:FS->SO):TS:=fun D σ H=>∃F B fs os j aa κ rs a0 vs M t b κv,Al K F H i0 ir ia fs σ os j aa κ rs a0 vs M t b κv/\FY K Z B F H (g fs) D
def ifA(c:FS->Out Bool)(g h:FS->SO):FS->SO:=fun fs=>match c fs with
 | .ok b _=>if b=true then g fs else h fs
 | _=>.bad
def WX(i:Nat)(f:FS->Out Rv)(g:FS->SO):FS->SO:=fun fs=>match f fs with
 | .ok (.t u) _=>if GG u=true then g (fs.set i (some (.val u))) else .bad
 | _=>.bad
def GF(i0:Nat)(g:FS->SO):FS->SO:=fun fs=>match fs[i0]? with
 | some (some (.val (.lst ts)))=>g (fs.set i0 (some (.own (.lst ts))))
 | _=>.bad
def Xf(i0 ir ia ik:Nat)(x:T)(fs:FS):Option FS:=match fs[i0]?,fs[ir]?,fs[ia]?,fs[ik]? with
 | some (some (.val (.lst ts))),some (some (.val (.lst rs))),some (some (.val (.int aa))),some (some (.val (.int kk)))=>match ixN ts.length aa,ixN rs.length kk with
  | some j,some m=>match ts[j]? with
   | some (.tup [κ,_])=>some ((fs.set i0 (some (.own (.lst (ts.set j (.tup [κ,.lst (rs.set m x)])))))).set ir none)
   | _=>none
  | _,_=>none
 | _,_,_,_=>none
def Ol(i0 ir ia ik:Nat)(f:FS->Out Rv):FS->SO:=fun fs=>match f fs with
 | .ok (.t x) _=>if lfT x=true then(match Xf i0 ir ia ik x fs with
  | some fs'=>.nx fs'
  | none=>.bad) else .bad
 | _=>.bad
def atS:Option Sl->Bool
 | none=>true
 | some (.val t)=>GG t
 | _=>false
def Kh(i0 ia ik ir:Nat)(g:FS->SO):FS->SO:=fun fs=>match fs[i0]?,fs[ia]? with
 | some (some (.own (.los os))),some (some (.val (.int aa)))=>match ixN os.length aa with
  | some j=>match os[j]? with
   | some (.tpl [.val κ,.lst rs])=>if(fs.set i0 none).all atS=true/\GG κ=true/\i0≠ik/\i0≠ir/\ia≠ik/\ia≠ir/\ik≠ir/\ik < fs.length/\ir < fs.length then g (((fs.set i0 (some (.val (.lst (GW os))))).set ik (some (.val κ))).set ir (some (.val (.lst rs)))) else .bad
   | _=>.bad
  | none=>.bad
 | _,_=>.bad
section
variable{X:Cx}{Z:Xp}{i0 ir ia:Nat}{c e:Expr}{A A' sts:List Stmt}{st:Stmt}{fc:FS->Out Bool}{f:FS->Out Rv}{g h:FS->SO}{pos:Pos}
theorem Kv(h1:PS X st (tAl i0 ir ia X.K Z g)):PSs X [st] (tAl i0 ir ia X.K Z g):=Fc (Fx h1 NH) fun D σ H q=>q
theorem WQ(h1:PS X st (tAl i0 ir ia X.K Z g))(h2:GSs X Z sts h):PSs X (st :: sts) (tAl i0 ir ia X.K Z (AL g h)):=by
 refine Fc (Fx h1 h2) fun D σ H ⟨F,B,fs,os,j,aa,κ,rs,a0,vs,M,t,b,κv,al,s⟩=>⟨F,B,fs,os,j,aa,κ,rs,a0,vs,M,t,b,κv,al,?_⟩
 unfold AL at s;cases e:g fs with
 | nx fs1 =>
  rw [e] at s;exact fun F1 H1 σ1 l k=>⟨F1,B,fs1,k,FY.le s l⟩
 | ret r fs1=>rw [e] at s;exact s
 | brk fs1=>rw [e] at s;exact s
 | cnt fs1=>rw [e] at s;exact s
 | exc c fs1=>rw [e] at s;exact s
 | bad=>rw [e] at s;exact s
theorem PY(hc:FT X Z c fc)(ha:PSs X A (tAl i0 ir ia X.K Z g))(hb:PSs X A' (tAl i0 ir ia X.K Z h)):PS X (.If c A A' pos) (tAl i0 ir ia X.K Z (ifA fc g h)):=by
 refine Dh (Vu hc ha hb) fun D σ H ⟨F,B,fs,os,j,aa,κ,rs,a0,vs,M,t,b,κv,al,s⟩=>?_
 obtain⟨ok1,back⟩:=al.frz B;refine⟨_,B,fs,ok1,?_⟩;unfold ifA at s;cases ec:fc fs with
 | exc c τ=>rw [ec] at s;exact s.elim
 | bad=>rw [ec] at s;exact s.elim
 | ok d τ =>
  rw [ec] at s;intro F2 H2 d' l q;obtain⟨_,rfl⟩:=q;obtain⟨l',al'⟩:=back F2 H2 l;cases d' with
  | true =>
   have s':FY X.K Z B F H (g fs) D:=s;rw [if_pos rfl];exact⟨F,B,fs,os,j,aa,κ,rs,a0,vs,M,t,b,κv,al',FY.le s' l'⟩
  | false =>
   have s':FY X.K Z B F H (h fs) D:=s;rw [if_neg (by decide)];exact⟨F,B,fs,os,j,aa,κ,rs,a0,vs,M,t,b,κv,al',FY.le s' l'⟩
theorem HH(ha:GSs X Z A g):PSs X A (tAl i0 ir ia X.K Z (GF i0 g)):=by
 refine Fc ha fun D σ H ⟨F,B,fs,os,j,aa,κ,rs,a0,vs,M,t,b,κv,al,s⟩=>?_
 unfold GF at s;rw [al.s0] at s;obtain⟨ok,l⟩:=al.half B;exact⟨_,B,_,ok,FY.le s l⟩
theorem WO(i:Nat){x:Str}{pos':Pos}(hN:X.N.Nodup)(hx:Loc X.env.scope x)(he:FE X Z e f)(hr:PSs X sts (tAl i0 ir ia X.K Z g))(d0:i0≠i:=by decide)(d1:ir≠i:=by decide)(d2:ia≠i:=by decide)(hi:X.N[i]?=some x:=by rfl)(hs:swapsWith e (some (.Name x pos')) pos.line X.env=pure false:=by rfl)(hf:X.fn x=true∨X.env.scope.names.lookup x=some .local:=by first | exact .inl rfl | exact .inr rfl | assumption) :
  PSs X (.Assign [.Name x pos'] e pos :: sts) (tAl i0 ir ia X.K Z (WX i f g)):=by
 refine Fc (Fx (R3 hN hi hx he hs hf) hr) fun D σ H ⟨F,B,fs,os,j,aa,κ,rs,a0,vs,M,t,b,κv,al,s⟩=>?_
 obtain⟨ok1,back⟩:=al.frz B;refine⟨_,B,fs,ok1,?_⟩;unfold WX at s;cases ec:f fs with
 | exc c τ=>rw [ec] at s;exact s.elim
 | bad=>rw [ec] at s;exact s.elim
 | ok r τ =>
  rw [ec] at s;cases r with
  | nw o=>exact s.elim
  | rf o=>exact s.elim
  | t u =>
   dsimp only at s;split at s
   ·rename_i hat
    intro F2 H2 v l q;obtain⟨_,_,_,⟨_,rv⟩,_,_⟩:=q;obtain⟨l',al'⟩:=back F2 H2 l;refine⟨F,B,_,os,j,aa,κ,rs,a0,vs,M,t,b,κv,?_,FY.le s l'⟩;refine { al' with s0:=?_,sr:=?_,sa:=?_,e0:=?_,er:=?_,at_:=fun k s' h0 hr e=>?_,len:=by simpa using al'.len }
    ·rw [List.getElem?_set_ne (Ne.symm d0)];exact al'.s0
    ·rw [List.getElem?_set_ne (Ne.symm d1)];exact al'.sr
    ·rw [List.getElem?_set_ne (Ne.symm d2)];exact al'.sa
    ·rw [List.getElem?_set_ne (Ne.symm d0)];exact al'.e0
    ·rw [List.getElem?_set_ne (Ne.symm d1)];exact al'.er
    ·by_cases hk:i=k
     ·subst hk
      have hlt:i < fs.length:=by
       have:=(List.getElem?_eq_some_iff.mp e).1;simpa using this
      rw [List.getElem?_set_self hlt] at e;cases e;exact .inr ⟨u,v,rfl,hat,List.getElem?_set_self (by rw [al'.len];exact hlt),AM.Lv hat rv⟩
     ·rw [List.getElem?_set_ne hk] at e
      rcases al'.at_ k s' h0 hr e with z | ⟨u',v',z,ha,ev,rv'⟩
      ·exact .inl z
      ·exact .inr ⟨u',v',z,ha,by rw [List.getElem?_set_ne hk];exact ev,rv'⟩
   ·exact s.elim
theorem UP(ik:Nat){xr xk:Str}{pr pk tp:Pos}(he:FE X Z e f)(vr:Vis X.env.scope xr:=by first | exact Or.inl rfl | exact Or.inr (Or.inl rfl) | exact Or.inr (Or.inr rfl))(vk:Vis X.env.scope xk:=by first | exact Or.inl rfl | exact Or.inr (Or.inl rfl) | exact Or.inr (Or.inr rfl))
  (nr:X.N[ir]?=some xr:=by rfl) (nk:X.N[ik]?=some xk:=by rfl) (k0:ik≠i0:=by decide) (kr:ik≠ir:=by decide) (q1:(xr == ("__debug__":Str))=false:=by decide) (q2:(xr == ("__classdict__":Str))=false:=by decide) (q3:(xk == ("__debug__":Str))=false:=by decide) (q4:(xk == ("__classdict__":Str))=false:=by decide)
  (h:∀{te to ti:TE} {t:RK},PE X e te->PE X (.Name xr pr) to->PE X (.Name xk pk) ti->P8 X t->PS X (.Assign [.Subscript (.Name xr pr) (.Name xk pk) tp] e pos) (UW te (W2 to ti t))) :
  PS X (.Assign [.Subscript (.Name xr pr) (.Name xk pk) tp] e pos) (tAl i0 ir ia X.K Z (Ol i0 ir ia ik f)):=by
 refine Dh (h he (pv ir nr vr q1 q2) (pv ik nk vk q3 q4) set_list) fun D σ H ⟨F,B,fs,os,j,aa,κ,rs,a0,vs,M,t,b,κv,al,s⟩=>?_
 obtain⟨ok1,back⟩:=al.frz B;refine⟨_,B,fs,ok1,?_⟩;unfold Ol at s;cases ec:f fs with
 | exc c τ=>rw [ec] at s;exact s.elim
 | bad=>rw [ec] at s;exact s.elim
 | ok r τ =>
  rw [ec] at s;cases r with
  | nw o=>exact s.elim
  | rf o=>exact s.elim
  | t x =>
   dsimp only at s;split at s
   ·rename_i hlf
    intro F2 H2 v l q;obtain⟨L2,_,o2,⟨_,rv⟩,_,_⟩:=q;obtain⟨l',al'⟩:=back F2 H2 l;split at s
    ·rename_i fs' eu
     unfold Xf at eu;rw [al'.s0,al'.sr,al'.sa] at eu;have hts:(GW os).length=os.length:=by rw [EC,List.length_map]
     obtain⟨us,M1,M2,hb,rr,rk,eM,r1,r2⟩:=al'.row;have hus:us.length=rs.length:=rr.len;have hat:=al'.at_ ik;cases ek:fs[ik]? with
     | none=>rw [ek] at eu;simp at eu
     | some sk =>
      rcases hat sk k0 kr ek with rfl | ⟨u,w,rfl,ha,ev,rw'⟩
      ·rw [ek] at eu;simp at eu
      ·rw [ek] at eu
       cases u with
       | int kk =>
        dsimp only at eu;rw [hts,al'.ja] at eu;cases em:ixN rs.length kk with
        | none=>rw [em] at eu;simp at eu
        | some m =>
         rw [em] at eu;have ej:(GW os)[j]?=some (.tup [κ,.lst rs]):=by
          rw [EC,List.getElem?_map,al'.oj];rfl
         simp only [ej] at eu;cases eu;have ew:w=.int kk:=rw';subst ew;have hnd:=List.nodup_cons.mp al'.nd;have na0b:a0≠b:=fun z=>hnd.1 (by rw [z,eM];simp)
         have ntb:t≠b:=fun z=>by
          have h1:=al'.ht;rw [z,hb] at h1;cases h1
         have mb:b∈a0 :: M:=by rw [eM];simp
         have mt:t∈a0 :: M:=by rw [eM];simp
         refine⟨_,al'.er,_,ev,b,us,kk,m,rfl,rfl,hb,by rw [hus];exact em,?_⟩;have inF2:∀a∈M,F2 a:=fun a m=>(l.f a (.inr (List.mem_cons_of_mem _ m))).1
         have ne0:∀a∈M,a≠a0:=fun a m z=>hnd.1 (z▸m)
         have lH:∀a,F a->a≠a0/\F2 a/\upd H2 b (.lst (us.set m v)) a=H2 a:=fun a f=>⟨fun z=>(al'.nf a0 (by simp)).1 (z▸f),(l.f a (.inl f)).1,Ay fun z=>(al'.nf b mb).1 (z▸f)⟩
         have lp:∀a,F.p a->upd H2 b (.lst (us.set m v)) a=H2 a:=fun a f=>Ay fun z=>(al'.nf b mb).2 (z▸f)
         have l3:Le F H2 F (upd H2 b (.lst (us.set m v))):=⟨fun a f=>⟨f,(lH a f).2.2⟩,fun a f=>⟨f,lp a f⟩⟩
         have l4:Le F (upd H2 b (.lst (us.set m v))) ⟨fun a=>F2 a/\a≠a0,F.p⟩ (upd H2 b (.lst (us.set m v))):=⟨fun a f=>⟨⟨(lH a f).2.1,(lH a f).1⟩,rfl⟩,fun a f=>⟨f,rfl⟩⟩
         have ndM:=hnd.2;rw [eM] at ndM;have nd1:=List.nodup_append.mp ndM;have nd2:=List.nodup_append.mp nd1.2.1;have nb1:b∉M1:=fun z=>nd1.2.2 b z b (by simp) rfl
         have nb2:b∉M2:=fun z=>nd2.2.2 b (by simp) b z rfl
         have s1:∀a∈M1,a∈M:=fun a m=>by rw [eM];simp [m]
         have s2:∀a∈M2,a∈M:=fun a m=>by rw [eM];simp [m]
         have q1:Aj X.K ⟨fun a=>F2 a/\a≠a0,F.p⟩ (upd H2 b (.lst (us.set m v))) (GW (os.take j)) (vs.take j):=AE.frz l4 (fun a m=>⟨inF2 a (s1 a m),ne0 a (s1 a m)⟩) (AE.le l3 (fun a m=>Ay fun z=>nb1 (z▸m)) r1);have q2:Aj X.K ⟨fun a=>F2 a/\a≠a0,F.p⟩ (upd H2 b (.lst (us.set m v))) (GW (os.drop (j+1))) (vs.drop (j+1)):=AE.frz l4 (fun a m=>⟨inF2 a (s2 a m),ne0 a (s2 a m)⟩) (AE.le l3 (fun a m=>Ay fun z=>nb2 (z▸m)) r2);have qx:AM X.K ⟨fun a=>F2 a/\a≠a0,F.p⟩ (upd H2 b (.lst (us.set m v))) x v:=AM.lfT (F:=F2) (H:=H2) (F':=⟨fun a=>F2 a/\a≠a0,F.p⟩) (H':=upd H2 b (.lst (us.set m v))) (fun a f nl=>⟨⟨f,fun z=>nl vs (by rw [z];exact al'.ho)⟩,Ay fun z=>nl us (by rw [z];exact hb)⟩) hlf rv;have tM:t∈M:=by rw [eM];simp
         have bM:b∈M:=by rw [eM];simp
         have qy:AM X.K ⟨fun a=>F2 a/\a≠a0,F.p⟩ (upd H2 b (.lst (us.set m v))) (.tup [κ,.lst (rs.set m x)]) (.ref t):=by
          simp only [AM,Aj];exact⟨t,[κv,.ref b],rfl,⟨rfl,⟨inF2 t tM,ne0 t tM⟩,by rw [Ay ntb];exact al'.ht⟩,κv,[.ref b],rfl,AM.le l4 (AM.le l3 rk),.ref b,[],rfl,⟨b,us.set m v,rfl,⟨inF2 b bM,ne0 b bM⟩,AK,Aj.set qx m (Aj.le l4 (Aj.le l3 rr))⟩,rfl⟩
         have jl:j < os.length:=(List.getElem?_eq_some_iff.mp al'.oj).1;have jv:j < vs.length:=(List.getElem?_eq_some_iff.mp al'.vj).1;have ets:(GW os).set j (.tup [κ,.lst (rs.set m x)])=GW (os.take j)++(.tup [κ,.lst (rs.set m x)] :: GW (os.drop (j+1))):=by
          rw [EC,EC,EC,List.set_eq_take_append_cons_drop,if_pos (by simpa using jl),List.map_take,List.map_drop]
         have evs:vs=vs.take j++(.ref t :: vs.drop (j+1)):=by
          have:vs[j]=.ref t:=by
           have:=al'.vj;rw [List.getElem?_eq_getElem jv] at this;exact Option.some.inj this
          rw [<- this,<- List.drop_eq_getElem_cons jv,List.take_append_drop]
         have qa:Aj X.K ⟨fun a=>F2 a/\a≠a0,F.p⟩ (upd H2 b (.lst (us.set m v))) ((GW os).set j (.tup [κ,.lst (rs.set m x)])) vs:=by
          have qz:=Aj.app q1 (show Aj X.K _ _ (.tup [κ,.lst (rs.set m x)] :: GW (os.drop (j+1))) (.ref t :: vs.drop (j+1)) by
           simp only [Aj];exact⟨_,_,rfl,qy,q2⟩)
          rw [<- ets,<- evs] at qz;exact qz
         have hi0:i0 < fs.length:=(List.getElem?_eq_some_iff.mp al'.s0).1;refine s ⟨fun a=>F2 a/\a≠a0,F.p⟩ _ σ ((l'.trans l3).trans l4) (Tz (i0:=i0) (la:=[a0]) (by simpa using al'.len) (fun i s' e'=>?_) (by simp) (fun a m=>?_) (fun a f=>Dz (o2.fd a f.1)) (fun a f=>by rw [lp a f];exact al'.pd a f) (fun a f z=>o2.pf a f.1 (l.p a z).1) (fun i o e'=>?_))
         ·by_cases hr:i=ir
          ·subst hr
           rw [List.getElem?_set_self (by simpa using (List.getElem?_eq_some_iff.mp al'.sr).1)] at e';cases e';exact⟨_,al'.er,by simp [Jw,Ne.symm al'.n0]⟩
          ·rw [List.getElem?_set_ne (Ne.symm hr)] at e'
           by_cases h0:i=i0
           ·subst h0
            rw [List.getElem?_set_self hi0] at e';cases e';refine⟨_,al'.e0,.ref a0,rfl,?_⟩;rw [if_pos rfl];simp only [AU];exact⟨a0,vs,rfl,by rw [Ay na0b];exact al'.ho,qa,rfl⟩
           ·rw [List.getElem?_set_ne (Ne.symm h0)] at e'
            rw [if_neg h0];rcases al'.at_ i s' h0 hr e' with rfl | ⟨u,w,rfl,ha,ev,rw'⟩
            ·have hi:i < σ.length:=by rw [al'.len];exact(List.getElem?_eq_some_iff.mp e').1
             exact⟨_,List.getElem?_eq_getElem hi,rfl⟩
            ·exact⟨_,ev,w,rfl,AM.Lv ha rw',rfl⟩
         ·rw [List.mem_singleton.mp m]
          exact⟨fun f=>f.2 rfl,(al'.nf a0 (by simp)).2⟩
         ·by_cases hr:i=ir
          ·subst hr
           rw [List.getElem?_set_self (by simpa using (List.getElem?_eq_some_iff.mp al'.sr).1)] at e';cases e'
          ·rw [List.getElem?_set_ne (Ne.symm hr)] at e'
           by_cases h0:i=i0
           ·subst h0;rw [List.getElem?_set_self hi0] at e';cases e'
           ·rw [List.getElem?_set_ne (Ne.symm h0)] at e'
            rcases al'.at_ i _ h0 hr e' with z | ⟨u,v,z,_⟩ <;> cases z
       | _=>simp at eu
    ·exact s.elim
   ·exact s.elim
theorem ON(ik:Nat){x0 xa xk xr:Str}{k:Nat}{p0 pa pk pr tp sp:Pos}(hp:PSs X sts (tAl i0 ir ia X.K Z g))(hc:X.calm=true)(hN:X.N.Nodup)(lk:Loc X.env.scope xk)(lr:Loc X.env.scope xr)(hsub:Jt (.Name xa pa))
  (n0:X.N[i0]?=some x0:=by rfl) (na:X.N[ia]?=some xa:=by rfl) (nk:X.N[ik]?=some xk:=by rfl) (nr:X.N[ir]?=some xr:=by rfl)
  (fk:X.fn xk=true∨X.env.scope.names.lookup xk=some .local:=by first | exact .inl rfl | exact .inr rfl | assumption) (fr:X.fn xr=true∨X.env.scope.names.lookup xr=some .local:=by first | exact .inl rfl | exact .inr rfl | assumption)
  (v0:Vis X.env.scope x0:=by first | exact Or.inl rfl | exact Or.inr (Or.inl rfl) | exact Or.inr (Or.inr rfl)) (va:Vis X.env.scope xa:=by first | exact Or.inl rfl | exact Or.inr (Or.inl rfl) | exact Or.inr (Or.inr rfl))
  (q1:(x0 == ("__debug__":Str))=false:=by decide) (q2:(x0 == ("__classdict__":Str))=false:=by decide) (q3:(xa == ("__debug__":Str))=false:=by decide) (q4:(xa == ("__classdict__":Str))=false:=by decide)
  (c1:(assignEach [.Name xk pk,.Name xr pr] X.env).length=2:=by rfl) (c2:(assignEach [.Name xk pk,.Name xr pr] X.env).findIdx? (·.1)=none:=by rfl)
  (c3:(assignEach [.Name xk pk,.Name xr pr] X.env).map (·.2)=assign (.Name xk pk) X.env :: (assignEach [.Name xr pr] X.env).map (·.2):=by rfl)
  (c4:(assignEach [.Name xr pr] X.env).map (·.2)=assign (.Name xr pr) X.env :: (assignEach [] X.env).map (·.2):=by rfl)
  (c5:swapsWithSole [.Tuple [.Name xk pk,.Name xr pr] k tp] (.Subscript (.Name x0 p0) (.Name xa pa) sp) pos.line X.env=pure false:=by rfl)
  (c6:swappedStores [.Tuple [.Name xk pk,.Name xr pr] k tp] (.Subscript (.Name x0 p0) (.Name xa pa) sp) X.env=pure none:=by rfl)
  (c7:(assignEach [.Tuple [.Name xk pk,.Name xr pr] k tp] X.env).map (·.2)=[assign (.Tuple [.Name xk pk,.Name xr pr] k tp) X.env]:=by rfl) :
  GSs X Z (.Assign [.Tuple [.Name xk pk,.Name xr pr] k tp] (.Subscript (.Name x0 p0) (.Name xa pa) sp) pos :: sts) (Kh i0 ia ik ir g):=by
 refine Fc (Fx (Gx (VB Sh (pv i0 n0 v0 q1 q2) (pv ia na va q3 q4) hsub) (R6 hc (AW (KN hN nk lk fk) (AW (KN hN nr lr fr) NP c4) c3) c1 c2) c5 c6 c7) hp) fun D σ H ⟨F,B,fs,⟨L,ok⟩,s⟩=>?_
 unfold Kh at s;split at s
 ·rename_i os aa es ea
  split at s
  ·rename_i j ej
   split at s
   ·rename_i κ rs eo
    split at s
    ·rename_i hcond
     obtain⟨hall,hκ,d1,d2,d3,d4,d5,hik,hir⟩:=hcond;obtain⟨ℓ,w1,w2,w3,_⟩:=ok.sl.toP;obtain⟨nd1,_⟩:=w3 ok.nd;obtain⟨v0',ev0,u0,rfl,q⟩:=w1 i0 _ es;obtain⟨va',eva,ua,rfl,qa,_⟩:=w1 ia _ ea;have eua:ua=.int aa:=qa;subst eua;have nd0:=nd1 i0;have nf0:∀a∈ℓ i0,¬ F a/\¬ F.p a:=fun a m=>⟨ok.nf a (w2 i0 a m),ok.pl a (w2 i0 a m)⟩
     generalize ℓ i0=L0 at q nd0 nf0;simp only [AU] at q;obtain⟨a0,vs,M,rfl,h0,ro,rfl⟩:=q;obtain⟨v,M1,Mj,M2,evj,eM,qj,_,_⟩:=ro.split eo;simp only [AU,AE] at qj;obtain⟨t,ws,L',rfl,ht,⟨κv,w,N1,N2,rfl,⟨rfl,qk⟩,⟨u,w2',P1,P2,rfl,⟨b,us,rfl,sb,rr,rfl⟩,⟨rfl,rfl⟩,rfl⟩,rfl⟩,rfl⟩:=qj;have hlv:vs.length=os.length:=AE.len ro;have eat:atI vs aa=some (.ref t):=by
      unfold atI;rw [hlv,ej];exact evj
     refine⟨_,ev0,_,eva,.inl ⟨a0,vs,aa,.ref t,rfl,rfl,SqL.of h0,eat,t,[κv,.ref b],rfl,SqT.of ht,rfl,_,_,rfl,_,_,rfl,rfl,?_⟩⟩;have di0:ia≠i0:=fun z=>by rw [z,es] at ea;cases ea
     have hln:σ.length=fs.length:=ok.sl.len;refine⟨F,B,_,os,j,aa,κ,rs,a0,vs,M,t,b,κv,⟨?_,?_,?_,ej,eo,?_,?_,h0,ro,nd0,nf0,evj,ht,fun i s' i1 i2 e'=>?_,by simpa using hln,ok.fd,ok.pd,ok.pf,d2⟩,s⟩
     ·rw [List.getElem?_set_ne (Ne.symm d2),List.getElem?_set_ne (Ne.symm d1),List.getElem?_set_self (List.getElem?_eq_some_iff.mp es).1]
     ·rw [List.getElem?_set_self (by simpa using hir)]
     ·rw [List.getElem?_set_ne (Ne.symm d4),List.getElem?_set_ne (Ne.symm d3),List.getElem?_set_ne (Ne.symm di0)]
      exact ea
     ·rw [List.getElem?_set_ne (Ne.symm d2),List.getElem?_set_ne (Ne.symm d1)]
      exact ev0
     ·exact List.getElem?_set_self (by rw [List.length_set,hln];exact hir)
     ·rw [List.getElem?_set_ne (Ne.symm i2)] at e' ⊢
      by_cases hk:i=ik
      ·subst hk
       rw [List.getElem?_set_self (by simpa using hik)] at e';cases e';exact .inr ⟨κ,κv,rfl,hκ,List.getElem?_set_self (by rw [hln];exact hik),qk⟩
      ·rw [List.getElem?_set_ne (Ne.symm hk),List.getElem?_set_ne (Ne.symm i1)] at e'
       rw [List.getElem?_set_ne (Ne.symm hk)];obtain⟨v',ev',sv⟩:=w1 i s' e';have hs':atS s'=true:=by
        refine List.all_eq_true.mp hall s' (List.mem_of_getElem? (i:=i) ?_);rw [List.getElem?_set_ne (Ne.symm i1)];exact e'
       cases s' with
       | none=>exact .inl rfl
       | some s'' =>
        cases s'' with
        | val u =>
         obtain⟨u',rfl,ru,_⟩:=sv;exact .inr ⟨u,u',rfl,hs',ev',ru⟩
        | own o=>cases hs'
        | bor o=>cases hs'
    ·exact s.elim
   ·exact s.elim
  ·exact s.elim
 ·exact s.elim
end
def M0:Rv->Rv->FS->Out Rv
 | .t (.tup [t]),.t (.int i),fs=>if i=3 then .ok (.t (.tup [t,t,t])) fs else .bad
 | _,_,_=>.bad
def J8:List Rv->FS->Out Rv
 | [.rf i],fs=>match Bg fs i with
  | some (.los os)=>okT (.int os.length) fs
  | _=>.bad
 | _,_=>.bad
section
variable{K:Fg}{X:Cx}{Z:Xp}{a b e:Expr}{es:List Expr}{fa fb:FS->Out Rv}{fl:FS->Out (List Rv)}{p pos:Pos}
theorem TF:OpF K Z (fun x y H Q=>∃a v,x=.ref a/\y=.int 3/\SqT K H a [v]/\∀p,H p=none->Q (.ref p) (upd H p (.tup [v,v,v]))) M0:=by
 intro F B H σ fs x y u w Q ok rx ry s;unfold M0 at s;split at s
 ·rename_i t i
  split at s
  ·rename_i hi
   subst hi;have ey:w=.int 3:=ry;simp only [CT,AM,Aj] at rx;obtain⟨a,vs,rfl,hs,v,r,rfl,rv,rfl⟩:=rx;refine⟨a,v,rfl,ey,hs.sq,fun p hp=>s (P7 F p) (upd H p (.tup [v,v,v])) (.ref p) (Cd ok hp) (RR.of (ok.alloc hp) ?_)⟩;have rv':=AM.le (Cd (o:=.tup [v,v,v]) ok hp) rv;simp only [CT,AM,Aj];exact⟨p,[v,v,v],rfl,⟨rfl,.inr rfl,AK⟩,v,_,rfl,rv',v,_,rfl,rv',v,_,rfl,rv',rfl⟩
  ·exact s.elim
 ·exact s.elim
theorem Uk(ha:FE X Z a fa)(hb:FE X Z b fb):FE X Z (.BinOp a .Mult b pos) (Ae M0 fa fb):=Lg TF QD ha hb
theorem UE:DW K Z (fun xs H Q=>∃p ys,xs=[.ref p]/\(SqL K H p ys∨SqT K H p ys)/\Q (.int ys.length) H) J8:=by
 intro F B H σ fs rs vs Q ok q s;unfold J8 at s;split at s
 ·obtain⟨v,rfl,qq⟩:=Cf q
  split at s
  ·rename_i os e
   obtain⟨u,L2,e1,r,_⟩:=ok.own e;have ev:σ[_]?=some (some v):=qq;rw [e1] at ev;cases ev;simp only [AU] at r;obtain⟨a,us,L',rfl,hd,ro,_⟩:=r;exact⟨a,us,rfl,.inl (SqL.of hd),by rw [AE.len ro];exact s F H _ Le.refl (RR.of ok rfl)⟩
  ·exact s.elim
 ·exact s.elim
theorem Pb(hm:X.mg "len"=none)(ha:FA X Z (e :: es) fl)(hg:Gl X "len":=by rfl)(he:starEach (e :: es) X.env=(false,eval e X.env) :: starEach es X.env:=by rfl)(hpl:(backTo pos (starEach es X.env)).any (·.1)=false:=by rfl) :
  FE X Z (.Call (.Name "len" p) (e :: es) [] pos) (Am J8 fl):=EM UE Gz hm PySem.boot_len ha hg (by decide) (by decide) he hpl
end
section
variable{X:Cx}{Z:Xp}{x a a2:Str}{v w:Expr}{f g:FS->Out Rv}{j j2:Nat}{np cpos cp fp cp2 fp2 jp pos:Pos}
def Hd(c:Str)(f g:FS->Out Rv):FS->SO:=fun fs=>SO.of (f fs) fun r fs=>match r with
 | .t (.str z)=>if Bs z=true then SO.of (g fs) fun r fs=>(match r with
  | .t (.str z)=>if Bs z=true then .exc c fs else .bad
  | _=>.bad) else .bad
 | _=>.bad
theorem MV(c:Xc X.K X.mg x)(l:LkD X Z)(hc:X.calm=true)(ha:FE X Z v f)(hb:FE X Z w g)(hl:a.length<=1000:=by decide)(hl2:a2.length<=1000:=by decide)(hg:Gl X x:=by rfl)(hdb:(x == ("__debug__":Str))=false:=by decide)
  (he:starEach [(.JoinedStr [.Constant (.str a) j cp,.FormattedValue v 114 none fp,.Constant (.str a2) j2 cp2,.FormattedValue w 114 none fp2] jp:Expr)] X.env=[(false,eval (.JoinedStr [.Constant (.str a) j cp,.FormattedValue v 114 none fp,.Constant (.str a2) j2 cp2,.FormattedValue w 114 none fp2] jp) X.env)]:=by rfl) :
  GS X Z (.Raise (some (.Call (.Name x np) [.JoinedStr [.Constant (.str a) j cp,.FormattedValue v 114 none fp,.Constant (.str a2) j2 cp2,.FormattedValue w 114 none fp2] jp] [] cpos)) none pos) (Hd x f g):=by
 obtain⟨C,h1,h2,h3⟩:=c.ex;refine Dh (IQ (C:=C) (Z:=EZ X.K Z) ⟨h1,h3⟩ l.d.ex hc l.k (Es (VD ha hb hl hl2) Ii he) hg hdb he rfl) fun D σ H ⟨F,B,fs,ok,s⟩=>⟨F,B,fs,ok,CV s fun r fs1 F1 H1 u l q s1=>?_⟩
 split at s1
 ·rename_i z
  split at s1
  ·rename_i hz
   have hok:=q.ok;obtain⟨L,L',_,⟨_,qu⟩,_⟩:=q;have eu:u=.str z:=qu;subst eu;refine⟨z,rfl,hz,F1,B,fs1,hok,CV s1 fun r2 fs2 F2 H2 u2 l2 q2 s2=>?_⟩;split at s2
   ·rename_i z2
    split at s2
    ·rename_i hz2
     have hok2:=q2.ok;obtain⟨_,_,_,⟨_,qu2⟩,_⟩:=q2;have eu2:u2=.str z2:=qu2;subst eu2;exact⟨z2,rfl,hz2,fun r'=>⟨by simp,F2,B,fs2,x,C,h2,rfl,hok2,s2⟩⟩
    ·exact s2.elim
   ·exact s2.elim
  ·exact s1.elim
 ·exact s1.elim
end
def K9:Rv->Rv->FS->Out Rv
 | .t .non,.t .non,fs=>okT (.bl false) fs
 | .t (.exn _),.t .non,fs=>okT (.bl true) fs
 | _,_,_=>.bad
theorem TC{K:Fg}{Z:Xp}:OpF K Z (fun x y H Q=>y=.non/\Q (.bl (!decide (x=.non))) H) K9:=by
 intro F B H σ fs x y u w Q ok rx ry s;unfold K9 at s;split at s
 ·cases rx
  cases ry;exact⟨rfl,s F H _ Le.refl (RR.of ok rfl)⟩
 ·cases ry
  simp only [CT,AM] at rx;obtain⟨a,C,rfl,_⟩:=rx;exact⟨rfl,s F H _ Le.refl (RR.of ok rfl)⟩
 ·exact s.elim
section
variable{X:Cx}{Z:Xp}{a b:Expr}{fa fb:FS->Out Rv}{pos:Pos}
theorem Wq(hu:X.A.units+61 < cLine)(ha:FE X Z a fa)(hb:FE X Z b fb):FE X Z (.Compare a [.NotEq] [b] pos) (Ae (M4 true) fa fb):=L7 (N4 true hu) NT ha hb (E5 _)
theorem Ui(ha:FE X Z a fa)(hb:FE X Z b fb):FT X Z (.Compare a [.IsNot] [b] pos) (asB (Ae K9 fa fb)):=FF TC Tt ha hb (E5 _)
end
def Of:T->Option (List T)
 | .lst ts=>some ts
 | _=>none
def eqW(x y:T):Option Bool:=match Of x with
 | some xs=>match Of y with
  | some ys=>if HL (eqT 50) xs ys=some true/\xs.length=ys.length then some true else none
  | none=>none
 | none=>if eqT 50 x y=some true then some true else none
def eqP(x y:T):Option Bool:=match Fb x with
 | some xs=>match Fb y with
  | some ys=>if HL eqW xs ys=some true/\xs.length=ys.length then some true else none
  | none=>none
 | none=>none
theorem J3{K:Fg}{F:Wd}{H:Hp}{t:T}{ts:List T}{v:V}(e:Of t=some ts)(r:AM K F H t v):∃a vs,v=.ref a/\H a=some (.lst vs)/\Aj K F H ts vs:=by
 have:t=.lst ts:=by cases t <;> first | (cases e;rfl) | cases e
 subst this;simp only [AM] at r;obtain⟨a,vs,e,_,h,r⟩:=r;exact⟨a,vs,e,h,r⟩
section
variable{X:Cx}{pins:List (Addr×Obj)}{σ:St}{H:Hp}{s:Shared}{F:Wd}
theorem Wy(I:Inv X pins σ H s){A:Around}{x y:T}{v w:V}{u u':Value}{b:Bool}(hu:A.units+52 < cLine)(e:eqW x y=some b)(rx:AM X.K F H x v)(ry:AM X.K F H y w)(qx:RelV v u)(qy:RelV w u'):SeqAt.EqAt A s u u' b:=by
 unfold eqW at e;cases e1:Of x with
 | none =>
  rw [e1] at e;dsimp only at e;split at e
  ·rename_i e2
   cases e;exact Kg I (n:=50) (by omega) e2 rx ry qx qy
  ·cases e
 | some xs =>
  rw [e1] at e;cases e2:Of y with
  | none=>rw [e2] at e;cases e
  | some ys =>
   rw [e2] at e;dsimp only at e;split at e
   ·rename_i h
    cases e;obtain⟨e3,hl⟩:=h;obtain⟨a,vs,rfl,sx,rxs⟩:=J3 e1 rx;obtain⟨a',ws,rfl,sy,rys⟩:=J3 e2 ry;cases qx;cases qy;by_cases hab:a=a'
    ·subst hab
     exact SeqAt.EqAt.same _
    ·obtain⟨its,vx,ht,_⟩:=I.list (SqL.of sx)
     obtain⟨its',vx',ht',_⟩:=I.list (SqL.of sy);have l1:its.length=xs.length:=by rw [<- vx.length,rxs.len]
     have l2:its'.length=ys.length:=by rw [<- vx'.length,rys.len]
     have he:=items_eqAt (s:=s) (A:=A.in1) e3 rxs rys vx vx' (fun h r1 r2 o1 o2=>Kg I (n:=50) (A:=A.in1) (by show A.units+1+50 < _;omega) h r1 r2 o1 o2);have hs:its.toArray.size=its'.toArray.size:=by rw [List.size_toArray,List.size_toArray];omega
     have hb:(List.range its.toArray.size).all (eAt (eqT 50) xs ys)=true:=by
      have:=Ds e3;rw [hl,Nat.min_self] at this;rw [List.size_toArray,l1,hl];exact this.symm
     have:=SeqAt.RcAt.lists ht.isList ht'.isList hs (A:=A) (by omega) he;rw [hb] at this;exact SeqAt.EqAt.of_refs hab this
   ·cases e
theorem WA(I:Inv X pins σ H s){A:Around}{x y:T}{v w:V}{u u':Value}{b:Bool}(hu:A.units+53 < cLine)(e:eqP x y=some b)(rx:AM X.K F H x v)(ry:AM X.K F H y w)(qx:RelV v u)(qy:RelV w u'):SeqAt.EqAt A s u u' b:=by
 unfold eqP at e;cases e1:Fb x with
 | none=>rw [e1] at e;cases e
 | some xs =>
  rw [e1] at e;cases e2:Fb y with
  | none=>rw [e2] at e;cases e
  | some ys =>
   rw [e2] at e;dsimp only at e;split at e
   ·rename_i h
    cases e;obtain⟨e3,hl⟩:=h;obtain⟨a,vs,rfl,sx,rxs⟩:=C6 e1 rx;obtain⟨a',ws,rfl,sy,rys⟩:=C6 e2 ry;cases qx;cases qy;by_cases hab:a=a'
    ·subst hab
     exact SeqAt.EqAt.same _
    ·obtain⟨its,vx,ht,_⟩:=I.tuple sx.sq
     obtain⟨its',vx',ht',_⟩:=I.tuple sy.sq;have l1:its.length=xs.length:=by rw [<- vx.length,rxs.len]
     have l2:its'.length=ys.length:=by rw [<- vx'.length,rys.len]
     have:=SeqAt.RcAt.tuples ht ht' (A:=A) (by omega) (items_eqAt e3 rxs rys vx vx' (fun h r1 r2 o1 o2=>Wy I (A:=A.in1) (by show A.units+1+52 < _;omega) h r1 r2 o1 o2));rw [List.size_toArray,List.size_toArray,l1,l2,<- Ds e3] at this;simp only [hl,beq_self_eq_true,Bool.and_self] at this;exact SeqAt.EqAt.of_refs hab this
   ·cases e
end
def Wg:Rv->Rv->FS->Out Rv:=fun x y fs=>match Dn fs x,Dn fs y with
 | some xs,some ys=>if HL eqP xs ys=some true/\xs.length=ys.length then okT (.bl false) fs else .bad
 | _,_=>.bad
theorem VS{X:Cx}{Z:Xp}(hu:X.A.units+61 < cLine):OpF X.K Z (WY X true) Wg:=by
 intro F B H σ fs x y u w Q ok rx ry s;unfold Wg at s;split at s
 ·rename_i xs ys e1 e2
  split at s
  ·rename_i h
   obtain⟨e3,hl⟩:=h;obtain⟨a,vs,rfl,sx,r1⟩:=BK ok rx e1;obtain⟨a',ws,rfl,sy,r2⟩:=BK ok ry e2;refine⟨true,fun pins σ s u w I qx qy=>?_,s F H _ Le.refl (RR.of ok rfl)⟩;cases qx;cases qy;obtain⟨its,vx,ht,_⟩:=I.list sx;obtain⟨its',vx',ht',_⟩:=I.list sy;have l1:its.length=xs.length:=by rw [<- vx.length,r1.len]
   have l2:its'.length=ys.length:=by rw [<- vx'.length,r2.len]
   have he:=items_eqAt (s:=s) (A:=X.A.in1) e3 r1 r2 vx vx' (fun h r1 r2 o1 o2=>WA I (A:=X.A.in1) (by show X.A.units+1+53 < _;omega) h r1 r2 o1 o2);have hs:its.toArray.size=its'.toArray.size:=by rw [List.size_toArray,List.size_toArray];omega
   have hb:(List.range its.toArray.size).all (eAt eqP xs ys)=true:=by
    have:=Ds e3;rw [hl,Nat.min_self] at this;rw [List.size_toArray,l1,hl];exact this.symm
   have:=SeqAt.RcNeAt.lists ht.isList ht'.isList hs (A:=X.A) (by omega) he;rw [hb] at this;exact this
  ·exact s.elim
 ·exact s.elim
section
variable{X:Cx}{Z:Xp}{a b:Expr}{fa fb:FS->Out Rv}{pos:Pos}
theorem Wj(hu:X.A.units+61 < cLine)(ha:FE X Z a fa)(hb:FE X Z b fb):FT X Z (.Compare a [.NotEq] [b] pos) (asB (Ae Wg fa fb)):=FF (VS hu) NT ha hb (E5 _)
end
end FL
namespace Sy
open PySem PySem.Spec L2 FL
abbrev xrs:List Str:=["BadCount","BadName","Groundless","NoKind","Twice"]
abbrev xds:List Str:=["BadCount","BadKind","BadName","BadText","Groundless","NoFunction","NoKind","NoMaker","NoName","NoPlace","NoSaying","NotLess","NotShown","SayError","TooLong","Twice"]
def DY(c d:Str):Bool:=c == d || d == "SayError"
def top(i:Nat):Stmt:=PySem.Challenge.pw_stairsay_k01_stocks_refused.main.body.getD i (.Pass ⟨0,0,0,0⟩)
structure Tx(K:Fg)(mg:Str->Option Value)(cStock:Addr):Prop where
 b_ValueError:mg "ValueError"=none
 b_all:mg "all"=none
 b_int:mg "int"=none
 b_isinstance:mg "isinstance"=none
 b_len:mg "len"=none
 b_list:mg "list"=none
 b_max:mg "max"=none
 b_min:mg "min"=none
 b_range:mg "range"=none
 b_reversed:mg "reversed"=none
 b_sum:mg "sum"=none
 b_tuple:mg "tuple"=none
 g_LETTERS:∃t,mg "LETTERS"=some (.str ("abcdefghijklmnopqrstuvwxyz":Str) t)
 g_MOST_KINDS:∃t,mg "MOST_KINDS"=some (.int 4 t)
 g_MOST_LETTERS:∃t,mg "MOST_LETTERS"=some (.int 12 t)
 g_MOST_MAKERS:∃t,mg "MOST_MAKERS"=some (.int 4 t)
 g_MOST_PARTS:∃t,mg "MOST_PARTS"=some (.int 2 t)
 cl_Stock:Cls K cStock
 na_Stock_home_by_maker:El K cStock "home_by_maker"
 na_Stock_makers_by_kind:El K cStock "makers_by_kind"
 na_Stock_parts_by_maker:El K cStock "parts_by_maker"
 xt:Ju K mg xrs xds DY
def EB:FS->SO :=
  (AL (AS 3 (Am Q6 (Ab (BW false [none,some 0] (QV (Ab (Aa 1) (Ab (Am HV (Ab (Am AY (Ab (Aa 0) Ak)) (Ab (gc (.int 63)) Ak))) (Ab (Aa 2) Ak)))) (tgN 0) DX (Ae AX (Aa 1) (fz (Aa 0)))) Ak)))
  (AL (AS 4 (Av Ee Ak))
  (AL (AS 5 (Ae BA (Aa 3) (gc (.int 2147483629))))
  (AL (AS 6 (Ae C5 (Aa 3) (gc (.int 2))))
  (AL (Eg (Fe (Ab (gc (.int 150)) Ak)) (tgN 7) (AL (AS 5 (Ae BA (Ae AF (Ae AF (Ae Bp (Aa 5) (Aa 5)) (Aa 3)) (Aa 7)) (gc (.int 2147483629))))
  (AL (Bq (A8 Ea (Aa 4) (Ab (Ae BA (Ae AX (Av A1 (Ab (fz (Aa 6)) (Ab (Ae BA (Ae Bp (Aa 5) (Aa 5)) (gc (.int 2147483587))) Ak))) (Ae BA (Aa 3) (gc (.int 2)))) (gc (.int 1000003))) Ak)))
  (AS 6 (Ae C5 (Aa 6) (gc (.int 1000003)))))))
  (retS (Yc (Aa 4))))))))
def Dc:FS->Out Rv:=DK 5 (EB)
def FU:FS->SO :=
  (AL (AS 2 (gc (.str ("abcdefghijklmnopqrstuvwxyz":Str))))
  (AL (AS 3 (Ae Bp (Ae AF (Ae AF (Ae Bp (Aa 0) (Aa 0)) (Aa 0)) (gc (.int 1))) (gc (.int 982451653))))
  (AL (AS 4 (Ae AF (gc (.int 1)) (Ae BA (Aa 3) (gc (.int 12)))))
  (AL (AS 5 (Ae BA (Ae C5 (Aa 3) (gc (.int 12))) (Aa 4)))
  (AL (AS 6 (BW false [none,some 2,some 3] (Fe (Ab (Aa 4) Ak)) (tgN 0) DX (Ae AX (Aa 1) (Ae BA (Ae AF (Ae C5 (Aa 2) (Ae AF (Aa 0) (gc (.int 5)))) (Ae Bp (Aa 0) (Aa 0))) (gc (.int 26))))))
  (AL (AS 7 (Ae AX (Av A1 (Ab (gc (.int 1)) (Ab (gc (.int 3)) (Ab (gc (.int 5)) (Ab (gc (.int 7)) (Ab (gc (.int 9)) (Ab (gc (.int 11)) Ak))))))) (Ae BA (Ae C5 (Aa 3) (gc (.int 144))) (gc (.int 6)))))
  (AL (AS 8 (Av Ee Ak))
  (AL (Eg (Fe (Ab (Aa 1) Ak)) (tgN 9) (AL (AS 10 (Ae AX (Aa 2) (Ae BA (Ae AF (Ae C5 (Aa 3) (gc (.int 864))) (Ae Bp (Aa 9) (Aa 7))) (gc (.int 26)))))
  (ifS (asB (Ae (gEq false) (Ae BA (Ae C5 (Aa 3) (gc (.int 900))) (gc (.int 3))) (gc (.int 1)))) (Bq (A8 Ea (Aa 8) (Ab (Ae Bp (Ae AX (Aa 6) (gc (.int 0))) (Ae AF (Ae BA (Ae AF (Aa 9) (Ae C5 (Aa 3) (gc (.int 7)))) (gc (.int 12))) (gc (.int 1)))) Ak))) (Bq (A8 Ea (Aa 8) (Ab (Ae AF (Ae AF (fz (GD Hv (gc (.str ("":Str))) (Ab (slF (Aa 6) noP (C7 (Aa 5))) Ak))) (Aa 10)) (fz (GD Hv (gc (.str ("":Str))) (Ab (slF (Aa 6) (C7 (Ae AF (Aa 5) (gc (.int 1)))) noP) Ak)))) Ak))))))
  (retS (Aa 8))))))))))
def CL:FS->Out Rv:=DK 9 (FU)
def D8:FS->SO :=
  (AL (ifS (asB (Ae gLt (Aa 1) (Am AY (Ab (Aa 0) Ak)))) (retS (Ae AX (Aa 0) (fz (Aa 1)))) nxS)
  (retS (gc (.int 0))))
def Bt:FS->Out Rv:=DK 0 (D8)
def DS:FS->SO :=
  (AL (AS 4 (Ae AX (Av A1 (Ab (gc (.int 0)) (Ab (gc (.int 1)) (Ab (gc (.int 1)) (Ab (gc (.int 2)) Ak))))) (Ae BA (fz (A8 HU (Aa 3) Ak)) (gc (.int 4)))))
  (AL (AS 5 (Av A1 (Ab (fz (A8 HU (Aa 3) Ak)) (Ab (fz (A8 HU (Aa 3) Ak)) Ak))))
  (AL (AS 6 (Am AY (Ab (Aa 0) Ak)))
  (AL (ifS (ID (Aa 2)) (AS 6 (fz (Aa 1))) nxS)
  (AL (ifS (asB (Ae (gEq false) (Aa 6) (gc (.int 0)))) (retS (Av Bi Ak)) nxS)
  (retS (Am FC (Ab (BW false [none,some 0,some 6,some 5] (Fe (Ab (Aa 4) Ak)) (tgN 0) DX (Ae AX (Aa 1) (Ae BA (Ae AX (Aa 3) (fz (Aa 0))) (Aa 2)))) Ak))))))))
def Ce:FS->Out Rv:=DK 3 (DS)
def FX:FS->SO :=
  (AL (AS 1 (Am (AD 3 Dc) (Ar (fz (Aa 0)) (Ar (gc (.int 0)) (Ar (gc (.int 3)) Ak)))))
  (AL (AS 2 (Ae AX (Av A1 (Ab (gc (.int 1)) (Ab (gc (.int 2)) (Ab (gc (.int 3)) (Ab (gc (.int 2)) (Ab (gc (.int 1)) (Ab (gc (.int 4)) (Ab (gc (.int 2)) (Ab (gc (.int 3)) Ak))))))))) (Ae BA (fz (A8 HU (Aa 1) Ak)) (gc (.int 8)))))
  (AL (AS 3 (fz (Am (AD 2 CL) (Ar (fz (Am (AD 2 Bt) (Ar (fz (Aa 0)) (Ar (gc (.int 0)) Ak)))) (Ar (fz (Aa 2)) Ak)))))
  (AL (AS 4 (fz (Am (AD 2 CL) (Ar (fz (Am (AD 2 Bt) (Ar (fz (Aa 0)) (Ar (gc (.int 1)) Ak)))) (Ar (gc (.int 12)) Ak)))))
  (AL (AS 5 (Av Ee Ak))
  (AL (AS 6 (gc (.int 0)))
  (AL (Eg (Fe (Ab (Aa 2) Ak)) (tgN 7) (AL (AS 8 (Av Ee Ak))
  (AL (Eg (Fe (Ab (Ae AF (gc (.int 1)) (Ae BA (fz (A8 HU (Aa 1) Ak)) (Ae AX (Av A1 (Ab (gc (.int 4)) (Ab (gc (.int 3)) Ak))) (Am Ji (Ab (Ae (gEq false) (Aa 2) (gc (.int 4))) Ak))))) Ak)) (tgN 9) (AL (Bq (A8 Ea (Aa 8) (Ab (Av Bi (Ab (Ae AX (Aa 4) (fz (Aa 6))) (Ab (fz (Am (AD 4 Ce) (Ar (fz (Aa 3)) (Ar (fz (Aa 7)) (Ar (Ae (gEq false) (Aa 9) (gc (.int 0))) (Ar (Aa 1) Ak)))))) Ak))) Ak)))
  (AS 6 (Ae AF (Aa 6) (gc (.int 1))))))
  (Bq (A8 Ea (Aa 5) (Ab (Av Bi (Ab (Ae AX (Aa 3) (fz (Aa 7))) (Ab (fz (Aa 8)) Ak))) Ak))))))
  (retS (Aa 5)))))))))
def Eh:FS->Out Rv:=DK 9 (FX)
def Ei:FS->SO :=
  (AL (ifS (orT (asB (Ae gLt (Am AY (Ab (Aa 0) Ak)) (gc (.int 1)))) (asB (Ae gGt (Am AY (Ab (Aa 0) Ak)) (gc (.int 12))))) (retS (gc (.bl true))) nxS)
  (retS (Ae (M4 true) (BW false [none] (itU (fz (Aa 0))) (tgN 0) (asB (Ae (D5 true) (fz (Aa 0)) (gc (.str ("abcdefghijklmnopqrstuvwxyz":Str))))) (fz (Aa 0))) (Av A1 Ak))))
def BJ:FS->Out Rv:=DK 0 (Ei)
def DT:FS->SO :=
  (AL (ifS (orT (asB (Ae gLt (Am AY (Ab (Aa 0) Ak)) (gc (.int 1)))) (asB (Ae gGt (Am AY (Ab (Aa 0) Ak)) (gc (.int 4))))) (retS (gc (.int 2))) nxS)
  (AL (AS 1 (Av Ee Ak))
  (AL (Eg (itU (fz (Aa 0))) (A3 2 (An (tgN 2) (An (tgN 3) A0))) (AL (ifS (ID (fz (Am (AD 1 BJ) (Ar (fz (Aa 2)) Ak)))) (retS (gc (.int 0))) nxS)
  (AL (ifS (asB (Ae (D5 false) (fz (Aa 2)) (Aa 1))) (retS (gc (.int 1))) nxS)
  (AL (ifS (orT (asB (Ae gLt (Am AY (Ab (Aa 3) Ak)) (gc (.int 1)))) (asB (Ae gGt (Am AY (Ab (Aa 3) Ak)) (gc (.int 4))))) (retS (gc (.int 2))) nxS)
  (Bq (A8 Ea (Aa 1) (Ab (fz (Aa 2)) Ak)))))))
  (retS (GN (gc (.int 1)))))))
def BF:FS->Out Rv:=DK 3 (DT)
def Mq:FS->SO :=
  (AL (ifS (asB (Ae gGt (fz (Am (AD 1 BF) (Ar (fz (Aa 0)) Ak))) (GN (gc (.int 1))))) (retS (Am (AD 1 BF) (Ar (fz (Aa 0)) Ak))) nxS)
  (AL (AS 1 (BW false [none] (itU (fz (Aa 0))) (tgN 0) DX (Ae AX (Aa 0) (gc (.int 0)))))
  (AL (AS 2 (Av Ee Ak))
  (AL (Eg (Fe (Ab (Am AY (Ab (Aa 0) Ak)) Ak)) (tgN 3) (AL (AS 4 (Ae AX (Ae AX (Aa 0) (fz (Aa 3))) (gc (.int 1))))
  (Eg (Fe (Ab (Am AY (Ab (Aa 4) Ak)) Ak)) (tgN 5) (AL (SN (Ae AX (Aa 4) (fz (Aa 5))) (A3 2 (An (tgN 6) (An (tgN 7) A0))))
  (AL (ifS (ID (fz (Am (AD 1 BJ) (Ar (fz (Aa 6)) Ak)))) (retS (gc (.int 0))) nxS)
  (AL (ifS (asB (Ae (D5 false) (fz (Aa 6)) (Aa 2))) (retS (gc (.int 1))) nxS)
  (AL (ifS (asB (Ae gGt (Am AY (Ab (Aa 7) Ak)) (gc (.int 2)))) (retS (gc (.int 2))) nxS)
  (AL (ifS (asB (Ae (M4 true) (BW false [none,some 1] (itU (fz (Aa 7))) (tgN 0) (asB (Ae (D5 true) (fz (Aa 0)) (Aa 1))) (fz (Aa 0))) (Av A1 Ak))) (retS (gc (.int 3))) nxS)
  (AL (AS 8 (slF (Aa 1) noP (C7 (Aa 3))))
  (AL (ifS (Ly (asB (Ae (gEq false) (Aa 5) (gc (.int 0)))) (asB (Ae (M4 true) (BW false [none,some 8] (itU (fz (Aa 7))) (tgN 0) (asB (Ae (D5 true) (fz (Aa 0)) (Aa 1))) (fz (Aa 0))) (Av A1 Ak)))) (retS (gc (.int 4))) nxS)
  (Bq (A8 Ea (Aa 2) (Ab (fz (Aa 6)) Ak)))))))))))))
  (retS (GN (gc (.int 1))))))))
def Hz:FS->Out Rv:=DK 8 (Mq)
def Fo:FS->SO :=
  (retS (Ae AX (Av A1 (Ab (gc (.str ("":Str))) (Ab (gc (.str ("abcdefghijklm":Str))) (Ab (gc (.str ("aB":Str))) (Ab (gc (.str ("a1":Str))) (Ab (gc (.str ("a b":Str))) (Ab (gc (.str ("Z":Str))) (Ab (gc (.str ("_":Str))) (Ab (Ae Bp (gc (.str ("a":Str))) (gc (.int 13))) Ak))))))))) (Ae BA (Aa 0) (gc (.int 8)))))
def BV:FS->Out Rv:=DK 0 (Fo)
def Dg:FS->SO :=
  (AL (SN (fz (Aa 2)) (A3 2 (An (tgN 4) (An (tgN 5) A0))))
  (AL (ifS (asB (Ae (gEq false) (Aa 1) (gc (.int 0)))) (AS 4 (fz (Am (AD 1 BV) (Ar (fz (Aa 3)) Ak)))) nxS)
  (AL (ifS (asB (Ae (gEq false) (Aa 1) (gc (.int 1)))) (AL (AS 6 (Ae AX (Ae AX (Aa 0) (Ae BA (Aa 3) (Am AY (Ab (Aa 0) Ak)))) (gc (.int 1))))
  (ifS (asB (Ae gGt (Am AY (Ab (Aa 6) Ak)) (gc (.int 0)))) (AS 4 (Ae AX (Ae AX (Aa 6) (Ae BA (Ae C5 (Aa 3) (gc (.int 4))) (Am AY (Ab (Aa 6) Ak)))) (gc (.int 0)))) nxS)) nxS)
  (AL (ifS (asB (Ae (gEq false) (Aa 1) (gc (.int 2)))) (AS 5 (Ae M0 (Av Bi (Ab (Ae AX (Ae AX (Aa 0) (gc (.int 0))) (gc (.int 0))) Ak)) (gc (.int 3)))) nxS)
  (AL (ifS (asB (Ae (gEq false) (Aa 1) (gc (.int 3)))) (AS 5 (slF (Ae AF (Aa 5) (Av Bi (Ab (Ae AX (Av A1 (Ab (gc (.str ("":Str))) (Ab (gc (.str ("abcdefghijklm":Str))) (Ab (gc (.str ("rrrrrrrrrr":Str))) (Ab (fz (Aa 4)) Ak))))) (Ae BA (Aa 3) (gc (.int 4)))) Ak))) (C7 (GN (gc (.int 2)))) noP)) nxS)
  (AL (ifS (asB (Ae (gEq false) (Aa 1) (gc (.int 4)))) (AS 5 (slF (Ae AF (Aa 5) (Av Bi (Ab (Ae AX (Ae AX (Aa 0) (Ae BA (Aa 3) (Am AY (Ab (Aa 0) Ak)))) (gc (.int 0))) Ak))) (C7 (GN (gc (.int 2)))) noP)) nxS)
  (AL (ifS (asB (Ae (gEq false) (Aa 1) (gc (.int 5)))) (AS 5 (slF (Ae AF (Aa 5) (Av Bi (Ab (Ae AX (Ae AX (Aa 0) (GN (gc (.int 1)))) (gc (.int 0))) Ak))) (C7 (GN (gc (.int 2)))) noP)) nxS)
  (retS (Av Bi (Ab (fz (Aa 4)) (Ab (fz (Aa 5)) Ak)))))))))))
def Bu:FS->Out Rv:=DK 3 (Dg)
def Dy:FS->SO :=
  (AL (AS 0 (Lq [none,none] (itU (fz (Aa 0))) (A3 2 (An (tgN 0) (An (tgN 1) A0))) (U9 (Ar (fz (Aa 0)) (Ar (Am E6 (Ab (Aa 1) Ak)) Ak)))))
  (AL (AS 2 (Ae BA (Aa 1) (gc (.int 12))))
  (AL (AS 3 (Ae C5 (Aa 1) (gc (.int 12))))
  (AL (ifS (asB (Ae (gEq false) (Am J8 (Ab (Aa 0) Ak)) (gc (.int 0)))) (retS (Aa 0)) nxS)
  (AL (AS 4 (Ae BA (Aa 3) (Am J8 (Ab (Aa 0) Ak))))
  (Kh 0 4 5 6 (WX 7 (Ae BA (Ae C5 (Aa 3) (gc (.int 5))) (Am OR (Ab (gc (.int 1)) (Ab (Am AY (Ab (Aa 6) Ak)) Ak)))) (AL (ifA (asB (Ae (gEq false) (Aa 2) (gc (.int 6)))) (GF 0 (Cq (Av Bi (Ab (fz (Am (AD 1 BV) (Ar (Ae C5 (Aa 3) (gc (.int 4))) Ak))) (Ab (fz (Aa 6)) Ak))) (Aa 0) (fz (Aa 4)))) (ifA (asB (Ae (gEq false) (Aa 2) (gc (.int 7)))) (GF 0 (Cq (Av Bi (Ab (Ae AX (Ae AX (Aa 0) (Ae BA (Ae C5 (Aa 3) (gc (.int 4))) (Am AY (Ab (Aa 0) Ak)))) (gc (.int 0))) (Ab (fz (Aa 6)) Ak))) (Aa 0) (fz (Aa 4)))) (ifA (asB (Ae (gEq false) (Aa 2) (gc (.int 8)))) (GF 0 (AL (AS 6 (Ae AF (Aa 6) (BW false [none] (Fe (Ab (Ae Jh (gc (.int 5)) (Am AY (Ab (Aa 6) Ak))) Ak)) (tgN 0) DX (Av Bi (Ab (Ae Bp (gc (.str ("m":Str))) (Ae AF (Aa 0) (gc (.int 3)))) (Ab (Av Bi Ak) Ak))))))
  (Cq (Av Bi (Ab (fz (Aa 5)) (Ab (Ae AX (Av A1 (Ab (Av A1 Ak) (Ab (fz (Aa 6)) Ak))) (Ae BA (Ae C5 (Aa 3) (gc (.int 4))) (gc (.int 2)))) Ak))) (Aa 0) (fz (Aa 4))))) (ifA (asB (Ae (gEq false) (Aa 2) (gc (.int 9)))) (GF 0 (AL (AS 0 (Ae AF (Aa 0) (BW false [none] (Fe (Ab (Ae Jh (gc (.int 5)) (Am AY (Ab (Aa 0) Ak))) Ak)) (tgN 0) DX (Av Bi (Ab (Ae Bp (gc (.str ("k":Str))) (Ae AF (Aa 0) (gc (.int 3)))) (Ab (Av A1 (Ab (Av Bi (Ab (Ae Bp (gc (.str ("n":Str))) (Ae AF (Aa 0) (gc (.int 3)))) (Ab (Av Bi Ak) Ak))) Ak)) Ak))))))
  (AS 0 (Ae AX (Av A1 (Ab (Av A1 Ak) (Ab (fz (Aa 0)) Ak))) (Ae BA (Ae C5 (Aa 3) (gc (.int 4))) (gc (.int 2))))))) (ifA (asB (Ae gGt (Am AY (Ab (Aa 6) Ak)) (gc (.int 0)))) (Ol 0 6 4 7 (fz (Am (AD 4 Bu) (Ar (Aa 0) (Ar (Ae BA (Aa 2) (gc (.int 6))) (Ar (Ae AX (Aa 6) (fz (Aa 7))) (Ar (Ae C5 (Aa 3) (gc (.int 20))) Ak))))))) (GF 0 nxS))))))
  (retS (Aa 0))))))))))
def C2:FS->Out Rv:=DK 6 (Dy)
def DI:FS->SO :=
  (AL (ifS (HR (asB (chain gLe gLe (gc (.int 1)) (Am AY (Ab (Aa 0) Ak)) (gc (.int 12))))) (retS (gc (.bl false))) nxS)
  (retS (Am U1 (Ab (BW false [none] (itU (fz (Aa 0))) (tgN 0) DX (Ae (D5 false) (fz (Aa 0)) (gc (.str ("abcdefghijklmnopqrstuvwxyz":Str))))) Ak))))
def Bj:FS->Out Rv:=DK 0 (DI)
def Cn:FS->SO :=
  (AL (ifS (HR (asB (chain gLe gLe (gc (.int 1)) (Am AY (Ab (Aa 0) Ak)) (gc (.int 4))))) (RX "BadCount" (Ab (gc (.str ("a stock has one to four kinds":Str))) Ak)) nxS)
  (AL (AS 1 MZ)
  (Eg (itU (fz (Aa 0))) (A3 2 (An (tgN 2) (An (tgN 3) A0))) (AL (ifS (HR (ID (fz (Am (AD 1 Bj) (Ar (fz (Aa 2)) Ak))))) (DA "BadName" (Aa 2)) nxS)
  (AL (ifS (asB (Ae (D5 false) (fz (Aa 2)) (Aa 1))) (DA "Twice" (Aa 2)) nxS)
  (AL (ifS (HR (asB (chain gLe gLe (gc (.int 1)) (Am AY (Ab (Aa 3) Ak)) (gc (.int 4))))) (DA "BadCount" (Aa 2)) nxS)
  (Cq (gc (.bl true)) (Aa 1) (fz (Aa 2)))))))))
def BU:FS->Out Rv:=DK 3 (Cn)
def BY:FS->SO :=
  (AL (ifS (HR (ID (fz (Am (AD 1 Bj) (Ar (fz (Aa 0)) Ak))))) (DA "BadName" (Aa 0)) nxS)
  (AL (ifS (asB (Ae (D5 false) (fz (Aa 0)) (Aa 2))) (DA "Twice" (Aa 0)) nxS)
  (AL (ifS (asB (Ae gGt (Am AY (Ab (Aa 1) Ak)) (gc (.int 2)))) (DA "BadCount" (Aa 0)) nxS)
  (Eg (itU (fz (Aa 1))) (tgN 4) (ifS (asB (Ae (D5 true) (fz (Aa 4)) (Aa 3))) (DA "NoKind" (Aa 4)) nxS)))))
def Be:FS->Out Rv:=DK 1 (BY)
def Cc:FS->SO :=
  (Eg (itU (fz (Aa 1))) (tgN 3) (ifS (asB (Ae (D5 true) (fz (Aa 3)) (Aa 2))) (Hd "Groundless" (Aa 0) (Aa 3)) nxS))
def Bo:FS->Out Rv:=DK 1 (Cc)
def Ct:FS->SO :=
  (AL (AS 1 (BW false [none,none] (itU (fz (Aa 0))) (A3 2 (An (tgN 0) (An (tgN 1) A0))) DX (fz (Aa 0))))
  (AL (AS 2 (Av Ee Ak))
  (AL (AS 3 MZ)
  (Eg (itU (fz (Aa 0))) (A3 2 (An (tgN 4) (An (tgN 5) A0))) (AL (AS 6 (Ae AX (Ae AX (Aa 5) (gc (.int 0))) (gc (.int 0))))
  (AL (Eg (itU (fz (Aa 5))) (A3 2 (An (tgN 7) (An (tgN 8) A0))) (AL (Bq (Am (AD 4 Be) (Ar (fz (Aa 7)) (Ar (fz (Aa 8)) (Ar (Aa 3) (Ar (fz (Aa 1)) Ak))))))
  (AL (ifS (asB (Ae (gEq false) (Aa 7) (Aa 6))) (Bq (Am (AD 3 Bo) (Ar (fz (Aa 7)) (Ar (fz (Aa 8)) (Ar (Aa 2) Ak))))) nxS)
  (Cq (gc (.bl true)) (Aa 3) (fz (Aa 7))))))
  (Bq (A8 Ea (Aa 2) (Ab (fz (Aa 4)) Ak)))))))))
def BI:FS->Out Rv:=DK 8 (Ct)
def CA(cStock:Addr):FS->SO :=
  (AL (Bq (Am (AD 1 BU) (Ar (fz (Aa 1)) Ak)))
  (AL (Bq (Am (AD 1 BI) (Ar (fz (Aa 1)) Ak)))
  (AL (U3 cStock "makers_by_kind" 0 MZ)
  (AL (U3 cStock "parts_by_maker" 0 MZ)
  (AL (U3 cStock "home_by_maker" 0 MZ)
  (Eg (itU (fz (Aa 1))) (A3 2 (An (tgN 2) (An (tgN 3) A0))) (AL (D6 cStock "makers_by_kind" 0 2 (BW false [none,none] (itU (fz (Aa 3))) (A3 2 (An (tgN 0) (An (tgN 1) A0))) DX (fz (Aa 0))))
  (Eg (itU (fz (Aa 3))) (A3 2 (An (tgN 4) (An (tgN 5) A0))) (AL (D6 cStock "parts_by_maker" 0 4 (Am FC (Ab (Aa 5) Ak)))
  (D6 cStock "home_by_maker" 0 4 (fz (Aa 2))))))))))))
def A4(cStock:Addr):FS->Out Rv:=DK 4 (CA cStock)
def CP(cStock:Addr):FS->SO :=
  (retS (Am E6 (Ab (W5 cStock "makers_by_kind" (Aa 0)) Ak)))
def Cm(cStock:Addr):FS->Out Rv:=DK 0 (CP cStock)
def FV:FS->SO :=
  (AL (AS 3 (Am Q6 (Ab (BW false [none,some 0] (QV (Ab (Aa 1) (Ab (Am HV (Ab (Am AY (Ab (Aa 0) Ak)) (Ab (gc (.int 63)) Ak))) (Ab (Aa 2) Ak)))) (tgN 0) DX (Ae AX (Aa 1) (fz (Aa 0)))) Ak)))
  (AL (ifS (asB (Ae (gEq false) (Ae BA (Aa 3) (gc (.int 2))) (gc (.int 0)))) (retS (Ae BA (Ae C5 (Aa 3) (gc (.int 2))) (Ae Ud (gc (.int 10)) (gc (.int 60))))) nxS)
  (AL (AS 4 (Ae Bp (Ae AF (Ae AF (Ae AF (Ae Bp (Aa 3) (Aa 3)) (Aa 3)) (Aa 1)) (gc (.int 1))) (gc (.int 982451653))))
  (retS (Ae Bp (Ae BA (Ae Bp (Aa 4) (Aa 4)) (Ae AF (Ae Ud (gc (.int 10)) (gc (.int 18))) (gc (.int 9)))) (Ae AF (Ae BA (Aa 4) (gc (.int 2147483629))) (gc (.int 7))))))))
def Dr:FS->Out Rv:=DK 2 (FV)
def Gs:FS->SO :=
  (AL (AS 1 (Av A1 (Ab (isX xrs DY "BadName" (Aa 0)) (Ab (isX xrs DY "Twice" (Aa 0)) (Ab (isX xrs DY "BadCount" (Aa 0)) Ak)))))
  (AL (AS 1 (fz (Ae AF (Aa 1) (Av A1 (Ab (isX xrs DY "NoKind" (Aa 0)) (Ab (isX xrs DY "Groundless" (Aa 0)) (Ab (isX xrs DY "NoMaker" (Aa 0)) Ak)))))))
  (AL (AS 1 (fz (Ae AF (Aa 1) (Av A1 (Ab (isX xrs DY "NoName" (Aa 0)) (Ab (isX xrs DY "NoFunction" (Aa 0)) (Ab (isX xrs DY "NotLess" (Aa 0)) Ak)))))))
  (AL (AS 1 (fz (Ae AF (Aa 1) (Av A1 (Ab (isX xrs DY "BadKind" (Aa 0)) (Ab (isX xrs DY "TooLong" (Aa 0)) (Ab (isX xrs DY "NoPlace" (Aa 0)) Ak)))))))
  (retS (Ae AF (Aa 1) (Av A1 (Ab (isX xrs DY "NotShown" (Aa 0)) (Ab (isX xrs DY "NoSaying" (Aa 0)) (Ab (isX xrs DY "BadText" (Aa 0)) Ak))))))))))
def C3:FS->Out Rv:=DK 1 (Gs)
def Jq:FS->SO :=
  (AL (ifS (orT (HR (ID (isV xrs (Aa 0)))) (asB (Ae (gEq true) (fz (A8 W4 (fz (Am (AD 1 C3) (Ar (fz (Aa 0)) Ak))) (Ab (gc (.bl true)) Ak))) (gc (.int 1))))) (retS (GN (gc (.int 1)))) nxS)
  (retS (A8 W3 (fz (Am (AD 1 C3) (Ar (fz (Aa 0)) Ak))) (Ab (gc (.bl true)) Ak))))
def Dq:FS->Out Rv:=DK 0 (Jq)
def RG(cStock:Addr):FS->SO :=
  (AL (AS 1 (fz (Am (AD 1 Eh) (Ar (fz (Aa 0)) Ak))))
  (AL (AS 2 (fz (Aa 1)))
  (AL (Eg (Fe (Ab (Ae BA (fz (Am (AD 2 Bt) (Ar (fz (Aa 0)) (Ar (gc (.int 2)) Ak)))) (gc (.int 3))) Ak)) (tgN 3) (AS 2 (fz (Am (AD 2 C2) (Ar (fz (Aa 2)) (Ar (Ae C5 (fz (Am (AD 3 Dr) (Ar (fz (Aa 0)) (Ar (Ae AF (gc (.int 3)) (Aa 3)) (Ar (gc (.int 5)) Ak))))) (gc (.int 7))) Ak))))))
  (AL (AS 4 (fz (Am (AD 1 Hz) (Ar (fz (Aa 2)) Ak))))
  (AL (AS 5 (BW false [none,none] (itU (fz (Aa 2))) (A3 2 (An (tgN 0) (An (tgN 1) A0))) DX (Av Bi (Ab (fz (Aa 0)) (Ab (fz (Am E6 (Ab (Aa 1) Ak))) Ak)))))
  (AL (AS 6 (gc .non))
  (AL (SY 7 (fun c=>xrs.contains c && DY c "SayError") (Bq (Am (Fd cStock 2 (A4 cStock)) (Ar (fz (Aa 5)) Ak))) (AS 6 (fz (Aa 7))))
  (AL (ifS (asB (Ae Wg (Aa 5) (Aa 2))) (retS (gc (.bl false))) nxS)
  (AL (ifS (orT (Ly (asB (Ae (gEq false) (Aa 4) (GN (gc (.int 1))))) (asB (Ae K9 (Aa 6) (gc .non)))) (Ly (asB (Ae gGt (Aa 4) (GN (gc (.int 1))))) (asB (Ae (gEq true) (fz (Am (AD 1 Dq) (Ar (fz (Aa 6)) Ak))) (Aa 4))))) (retS (gc (.bl false))) nxS)
  (retS (Ae (M4 false) (fz (QN cStock "kinds" 1 (Cm cStock) (fz (Am (Fd cStock 2 (A4 cStock)) (Ar (fz (Aa 1)) Ak))) Ak)) (BW false [none] (itU (fz (Aa 1))) (tgN 0) DX (Ae AX (Aa 0) (gc (.int 0)))))))))))))))
def Ww(cStock:Addr):FS->Out Rv:=DK 7 (RG cStock)
section
variable{P:Program}{w:World}{K:Fg}{mg:Str->Option Value}{base:Heap}
abbrev CY:Stmt:=top 44
theorem Gv:Br ["_law_name"] ["_law_name"] (Au CY):=⟨rfl,rfl,rfl,by decide +kernel,rfl,by decide +kernel,by decide +kernel⟩
theorem JZ{f:Addr}{fd:FuncData}{cStock:Addr}(Fu:Fun K "_law_bad_name" "_law_bad_name" CY f fd)(T:Tx K mg cStock) :D9 P w K mg base (CX1 P w) 1 f fd ["_law_name"] (spX K 1 (BJ)) :=
 Cp (k:=0) (g:=Ei) Fu Gv 1 0 rfl rfl (fun cdv A outer s H E _ _ hr lk=>by
  have nd:=Gv.nd;have hu:=DM hr;exact(GSs.zero (Ah (BZ (FW.ft (OX (Rf (BP T.b_len (Ad (Aq 0) Ao)) Ai) (Kb (Jk (BP T.b_len (Ad (Aq 0) Ao)) Ai)))) (Ap (Bn Kf)) AR)
   (Ap (Bn (Wq (We hr) (De false ["_law_sign"] [none] rfl (CQ (Aw (Aq 0))) (fun _ _ _ _ _=>(AH 0 (by show List.Nodup (["_law_sign"]:List Str);decide +kernel) (Or.inl rfl) (hf:=.inr rfl))) (fun _ _ _ _ _=>(Lf (FD hu (Aw (Aq 0)) CK))) (fun _ _ _ _ _=>(Aw (Aq 0)))) (Cr Ao)))))))
abbrev Dx:Stmt:=top 32
theorem Hb:Br ["_law_script","_law_k"] ["_law_script","_law_k"] (Au Dx):=⟨rfl,rfl,rfl,by decide +kernel,rfl,by decide +kernel,by decide +kernel⟩
theorem KR{f:Addr}{fd:FuncData}{cStock:Addr}(Fu:Fun K "_law_cell_at" "_law_cell_at" Dx f fd)(T:Tx K mg cStock) :D9 P w K mg base (CX1 P w) 1 f fd ["_law_script","_law_k"] (spX K 2 (Bt)) :=
 Cp (k:=0) (g:=D8) Fu Hb 2 0 rfl rfl (fun cdv A outer s H E _ _ hr lk=>by
  have nd:=Hb.nd;have hu:=DM hr;exact(GSs.zero (Ah (BZ (Rf (Aq 1) (BP T.b_len (Ad (Aq 0) Ao))) (Ap (Bn (BS hu (Aq 0) (Aw (Aq 1)) (fun _ _=>rfl)))) AR)
   (Ap (Bn Ai)))))
abbrev Dw:Stmt:=top 39
theorem Ha:Br ["_law_kept","_law_got"] ["_law_kept"] (Au Dw):=⟨rfl,rfl,rfl,by decide +kernel,rfl,by decide +kernel,by decide +kernel⟩
theorem KQ{f:Addr}{fd:FuncData}{cStock:Addr}(Fu:Fun K "_law_classes" "_law_classes" Dw f fd)(T:Tx K mg cStock) :D9 P w K mg base (CX1 P w) 1 f fd ["_law_kept"] (spX K 1 (C3)) :=
 Cp (k:=0) (g:=Gs) Fu Ha 1 1 rfl rfl (fun cdv A outer s H E _ _ hr lk=>by
  have nd:=Ha.nd;have hu:=DM hr;exact(GSs.zero (Ah (AI 1 nd (Or.inl rfl) (Cr (Ad (DG T.xt T.b_isinstance (by decide +kernel) (Aq 0)) (Ad (DG T.xt T.b_isinstance (by decide +kernel) (Aq 0)) (Ad (DG T.xt T.b_isinstance (by decide +kernel) (Aq 0)) Ao)))))
   (Ah (AI 1 nd (Or.inl rfl) (Aw (Bw (Aq 1) (Cr (Ad (DG T.xt T.b_isinstance (by decide +kernel) (Aq 0)) (Ad (DG T.xt T.b_isinstance (by decide +kernel) (Aq 0)) (Ad (DG T.xt T.b_isinstance (by decide +kernel) (Aq 0)) Ao)))))))
   (Ah (AI 1 nd (Or.inl rfl) (Aw (Bw (Aq 1) (Cr (Ad (DG T.xt T.b_isinstance (by decide +kernel) (Aq 0)) (Ad (DG T.xt T.b_isinstance (by decide +kernel) (Aq 0)) (Ad (DG T.xt T.b_isinstance (by decide +kernel) (Aq 0)) Ao)))))))
   (Ah (AI 1 nd (Or.inl rfl) (Aw (Bw (Aq 1) (Cr (Ad (DG T.xt T.b_isinstance (by decide +kernel) (Aq 0)) (Ad (DG T.xt T.b_isinstance (by decide +kernel) (Aq 0)) (Ad (DG T.xt T.b_isinstance (by decide +kernel) (Aq 0)) Ao)))))))
   (Ap (Bn (Bw (Aq 1) (Cr (Ad (DG T.xt T.b_isinstance (by decide +kernel) (Aq 0)) (Ad (DG T.xt T.b_isinstance (by decide +kernel) (Aq 0)) (Ad (DG T.xt T.b_isinstance (by decide +kernel) (Aq 0)) Ao)))))))))))))
abbrev D2:Stmt:=top 35
theorem Ib:Br ["_law_script","_law_at","_law_parts_here","_law_drawn","_law_got","_law_first","_law_rest","_law_k"] ["_law_script","_law_at","_law_parts_here"] (Au D2):=⟨rfl,rfl,rfl,by decide +kernel,rfl,by decide +kernel,by decide +kernel⟩
theorem MK{f:Addr}{fd:FuncData}{cStock:Addr}(Fu:Fun K "_law_digits" "_law_digits" D2 f fd)(T:Tx K mg cStock) :D9 P w K mg base (CX1 P w) 1 f fd ["_law_script","_law_at","_law_parts_here"] (spX K 3 (Dc)) :=
 Cp (k:=0) (g:=EB) Fu Ib 3 5 rfl rfl (fun cdv A outer s H E _ _ hr lk=>by
  have nd:=Ib.nd;have hu:=DM hr;exact(GSs.zero (Ah (AI 3 nd (Or.inl rfl) (Ss T.b_sum (Ad (De false ["_law_k","_law_script"] [none,some 0] rfl (Kc (Ad (Aq 1) (Ad (Pa T.b_min (Ad (BP T.b_len (Ad (Aq 0) Ao)) (Ad Ai Ao))) (Ad (Aq 2) Ao))) (fun ha=>JS rfl T.b_range ha)) (fun _ _ _ _ _=>(AH 0 (by show List.Nodup (["_law_k","_law_script"]:List Str);decide +kernel) (Or.inl rfl) (hf:=.inr rfl))) (fun _ _ _ _ _=>C1) (fun _ _ _ _ _=>(BS hu (Aq 1) (Aw (Aq 0)) (fun _ _=>rfl)))) Ao)))
   (Ah (AI 4 nd (Or.inl rfl) (Fh Ao))
   (Ah (AI 5 nd (Or.inl rfl) (Bv (Aq 3) Ai))
   (Ah (AI 6 nd (Or.inl rfl) (CS (Aq 3) Ai))
   (Ah (DE lk.own rfl (Cg T.b_range (Ad Ai Ao)) (AH 7 nd (Or.inl rfl)) (Ah (AI 5 nd (Or.inl rfl) (Bv (Bw (Bw (DF (Aq 5) (Aq 5)) (Aq 3)) (Aq 7)) Ai))
   (Ah (C0 (HW Gy PySem.F.slot_list_append PySem.F.type_list_append CC (Aq 4) (Ad (Bv (BS hu (Cr (Ad (Aw (Aq 6)) (Ad (Bv (DF (Aq 5) (Aq 5)) Ai) Ao))) (Bv (Aq 3) Ai) (fun _ _=>rfl)) Ai) Ao)))
   (Ap (AI 6 nd (Or.inl rfl) (CS (Aq 6) Ai))))))
   (Ap (Bn (M6 rfl T.b_list T.b_reversed (Aq 4)))))))))))
abbrev Ic:Stmt:=top 46
theorem Ny:Br ["_law_kinds_here","_law_names_here","_law_ahead","_law_at","_law_rows","_law_k","_law_maker","_law_parts_here","_law_above"] ["_law_kinds_here"] (Au Ic):=⟨rfl,rfl,rfl,by decide +kernel,rfl,by decide +kernel,by decide +kernel⟩
theorem TB{f:Addr}{fd:FuncData}{cStock:Addr}(Fu:Fun K "_law_due" "_law_due" Ic f fd)(T:Tx K mg cStock)(G_Lbad_name:FnAt P w K mg base (CX1 P w) "_law_bad_name" 1 ["_law_name"] (spX K 1 BJ))(G_Lheads_due:FnAt P w K mg base (CX1 P w) "_law_heads_due" 2 ["_law_kinds_here"] (spX K 1 BF)):D9 P w K mg base (CX1 P w) 3 f fd ["_law_kinds_here"] (spX K 1 (Hz)) :=
 Cp (k:=2) (g:=Mq) Fu Ny 1 8 rfl rfl (fun cdv A outer s H E _ _ hr lk=>by
  have nd:=Ny.nd;have hu:=DM hr;exact(GSs.zero (Ah (BZ (Jk (Aw (BL G_Lheads_due (hr.mono (by first | decide | omega)) lk.lk (Ax (Aw (Aq 0)) A9))) (E7 Ai)) (Ap (Bn (BL G_Lheads_due (hr.mono (by first | decide | omega)) lk.lk (Ax (Aw (Aq 0)) A9)))) AR)
   (Ah (AI 1 nd (Or.inr rfl) (De false ["_law_row"] [none] rfl (CQ (Aw (Aq 0))) (fun _ _ _ _ _=>(AH 0 (by show List.Nodup (["_law_row"]:List Str);decide +kernel) (Or.inl rfl) (hf:=.inr rfl))) (fun _ _ _ _ _=>C1) (fun _ _ _ _ _=>(BS hu (Aq 0) Ai (fun _ _=>rfl)))))
   (Ah (AI 2 nd (Or.inl rfl) (Fh Ao))
   (Ah (DE lk.own rfl (Cg T.b_range (Ad (BP T.b_len (Ad (Aq 0) Ao)) Ao)) (AH 3 nd (Or.inl rfl)) (Ah (AI 4 nd (Or.inl rfl) (BS hu (BS hu (Aq 0) (Aw (Aq 3)) (fun _ _=>rfl)) Ai (fun _ _=>rfl)))
   (Ap (DE lk.own rfl (Cg T.b_range (Ad (BP T.b_len (Ad (Aq 4) Ao)) Ao)) (AH 5 nd (Or.inl rfl)) (Ah (Sm (BS hu (Aq 4) (Aw (Aq 5)) (fun _ _=>rfl)) (Ek rfl (A6 (AH 6 nd (Or.inl rfl)) (A6 (AH 7 nd (Or.inl rfl)) Dd (fun h1 h2=>AW h1 h2)) (fun h1 h2=>AW h1 h2))))
   (Ah (BZ (EL (Aw (BL G_Lbad_name (hr.mono (by first | decide | omega)) lk.lk (Ax (Aw (Aq 6)) A9))) (fun _=>rfl)) (Ap (Bn Ai)) AR)
   (Ah (BZ (Rg hu (Aw (Aq 6)) (Aq 2)) (Ap (Bn Ai)) AR)
   (Ah (BZ (Jk (BP T.b_len (Ad (Aq 7) Ao)) Ai) (Ap (Bn Ai)) AR)
   (Ah (BZ (Sr (We hr) (De false ["_law_part","_law_names_here"] [none,some 1] rfl (CQ (Aw (Aq 7))) (fun _ _ _ _ _=>(AH 0 (by show List.Nodup (["_law_part","_law_names_here"]:List Str);decide +kernel) (Or.inl rfl) (hf:=.inr rfl))) (fun _ _ _ _ _=>(Lf (FD hu (Aw (Aq 0)) (Aq 1)))) (fun _ _ _ _ _=>(Aw (Aq 0)))) (Cr Ao)) (Ap (Bn Ai)) AR)
   (Ah (AI 8 nd (Or.inr rfl) (M5 (Aq 1) Gj (Gi (Aq 3))))
   (Ah (BZ (FW.ft (OY (Ex (Aq 5) Ai) (Ld (Sr (We hr) (De false ["_law_part","_law_above"] [none,some 8] rfl (CQ (Aw (Aq 7))) (fun _ _ _ _ _=>(AH 0 (by show List.Nodup (["_law_part","_law_above"]:List Str);decide +kernel) (Or.inl rfl) (hf:=.inr rfl))) (fun _ _ _ _ _=>(Lf (FD hu (Aw (Aq 0)) (Aq 1)))) (fun _ _ _ _ _=>(Aw (Aq 0)))) (Cr Ao))))) (Ap (Bn Ai)) AR)
   (Ap (C0 (HW Gy PySem.F.slot_list_append PySem.F.type_list_append CC (Aq 2) (Ad (Aw (Aq 6)) Ao)))))))))))))))
   (Ap (Bn (E7 Ai)))))))))
abbrev Cy:Stmt:=top 45
theorem Ft:Br ["_law_kinds_here","_law_names_here","_law_kind","_law_rows"] ["_law_kinds_here"] (Au Cy):=⟨rfl,rfl,rfl,by decide +kernel,rfl,by decide +kernel,by decide +kernel⟩
theorem IX{f:Addr}{fd:FuncData}{cStock:Addr}(Fu:Fun K "_law_heads_due" "_law_heads_due" Cy f fd)(T:Tx K mg cStock)(G_Lbad_name:FnAt P w K mg base (CX1 P w) "_law_bad_name" 1 ["_law_name"] (spX K 1 BJ)):D9 P w K mg base (CX1 P w) 2 f fd ["_law_kinds_here"] (spX K 1 (BF)) :=
 Cp (k:=1) (g:=DT) Fu Ft 1 3 rfl rfl (fun cdv A outer s H E _ _ hr lk=>by
  have nd:=Ft.nd;have hu:=DM hr;exact(GSs.zero (Ah (BZ (FW.ft (OX (Rf (BP T.b_len (Ad (Aq 0) Ao)) Ai) (Kb (Jk (BP T.b_len (Ad (Aq 0) Ao)) Ai)))) (Ap (Bn Ai)) AR)
   (Ah (AI 1 nd (Or.inl rfl) (Fh Ao))
   (Ah (DE lk.own rfl (CQ (Aw (Aq 0))) (Ek rfl (A6 (AH 2 nd (Or.inl rfl)) (A6 (AH 3 nd (Or.inl rfl)) Dd (fun h1 h2=>AW h1 h2)) (fun h1 h2=>AW h1 h2))) (Ah (BZ (EL (Aw (BL G_Lbad_name (hr.mono (by first | decide | omega)) lk.lk (Ax (Aw (Aq 2)) A9))) (fun _=>rfl)) (Ap (Bn Ai)) AR)
   (Ah (BZ (Rg hu (Aw (Aq 2)) (Aq 1)) (Ap (Bn Ai)) AR)
   (Ah (BZ (FW.ft (OX (Rf (BP T.b_len (Ad (Aq 3) Ao)) Ai) (Kb (Jk (BP T.b_len (Ad (Aq 3) Ao)) Ai)))) (Ap (Bn Ai)) AR)
   (Ap (C0 (HW Gy PySem.F.slot_list_append PySem.F.type_list_append CC (Aq 1) (Ad (Aw (Aq 2)) Ao))))))))
   (Ap (Bn (E7 Ai))))))))
abbrev EH:Stmt:=top 38
theorem JL:Br ["_law_script","_law_purse","_law_many","_law_names_here","_law_makers","_law_got","_law_used","_law_at","_law_rows","_law_k"] ["_law_script"] (Au EH):=⟨rfl,rfl,rfl,by decide +kernel,rfl,by decide +kernel,by decide +kernel⟩
theorem N0{f:Addr}{fd:FuncData}{cStock:Addr}(Fu:Fun K "_law_kinds" "_law_kinds" EH f fd)(T:Tx K mg cStock)(G_Lparts:FnAt P w K mg base (CX1 P w) "_law_parts" 1 ["_law_names_here","_law_at","_law_first","_law_purse"] (spX K 4 Ce))(G_Lcell_at:FnAt P w K mg base (CX1 P w) "_law_cell_at" 1 ["_law_script","_law_k"] (spX K 2 Bt))(G_Lnames:FnAt P w K mg base (CX1 P w) "_law_names" 1 ["_law_cell","_law_count"] (spX K 2 CL))(G_Ldigits:FnAt P w K mg base (CX1 P w) "_law_digits" 1 ["_law_script","_law_at","_law_parts_here"] (spX K 3 Dc)):D9 P w K mg base (CX1 P w) 2 f fd ["_law_script"] (spX K 1 (Eh)) :=
 Cp (k:=1) (g:=FX) Fu JL 1 9 rfl rfl (fun cdv A outer s H E _ _ hr lk=>by
  have nd:=JL.nd;have hu:=DM hr;exact(GSs.zero (Ah (AI 1 nd (Or.inl rfl) (BL G_Ldigits (hr.mono (by first | decide | omega)) lk.lk (Ax (Aw (Aq 0)) (Ax Ai (Ax Ai A9)))))
   (Ah (AI 2 nd (Or.inl rfl) (BS hu (Cr (Ad Ai (Ad Ai (Ad Ai (Ad Ai (Ad Ai (Ad Ai (Ad Ai (Ad Ai Ao))))))))) (Bv (Aw (Ke J2 PySem.F.slot_list_pop PySem.F.type_list_pop Hi (Aq 1))) Ai) (fun _ _=>rfl)))
   (Ah (AI 3 nd (Or.inl rfl) (Aw (BL G_Lnames (hr.mono (by first | decide | omega)) lk.lk (Ax (Aw (BL G_Lcell_at (hr.mono (by first | decide | omega)) lk.lk (Ax (Aw (Aq 0)) (Ax Ai A9)))) (Ax (Aw (Aq 2)) A9)))))
   (Ah (AI 4 nd (Or.inl rfl) (Aw (BL G_Lnames (hr.mono (by first | decide | omega)) lk.lk (Ax (Aw (BL G_Lcell_at (hr.mono (by first | decide | omega)) lk.lk (Ax (Aw (Aq 0)) (Ax Ai A9)))) (Ax Ai A9)))))
   (Ah (AI 5 nd (Or.inl rfl) (Fh Ao))
   (Ah (AI 6 nd (Or.inl rfl) Ai)
   (Ah (DE lk.own rfl (Cg T.b_range (Ad (Aq 2) Ao)) (AH 7 nd (Or.inl rfl)) (Ah (AI 8 nd (Or.inl rfl) (Fh Ao))
   (Ah (DE lk.own rfl (Cg T.b_range (Ad (Bw Ai (Bv (Aw (Ke J2 PySem.F.slot_list_pop PySem.F.type_list_pop Hi (Aq 1))) (BS hu (Cr (Ad Ai (Ad Ai Ao))) (Uo T.b_int (Ad (Wu (Aq 2) Ai) Ao)) (fun _ _=>rfl)))) Ao)) (AH 9 nd (Or.inl rfl)) (Ah (C0 (HW Gy PySem.F.slot_list_append PySem.F.type_list_append CC (Aq 8) (Ad (C9 (Ad (BS hu (Aq 4) (Aw (Aq 6)) (fun _ _=>rfl)) (Ad (Aw (BL G_Lparts (hr.mono (by first | decide | omega)) lk.lk (Ax (Aw (Aq 3)) (Ax (Aw (Aq 7)) (Ax (Wu (Aq 9) Ai) (Ax (Aq 1) A9)))))) Ao))) Ao)))
   (Ap (AI 6 nd (Or.inl rfl) (Bw (Aq 6) Ai)))))
   (Ap (C0 (HW Gy PySem.F.slot_list_append PySem.F.type_list_append CC (Aq 5) (Ad (C9 (Ad (BS hu (Aq 3) (Aw (Aq 7)) (fun _ _=>rfl)) (Ad (Aw (Aq 8)) Ao))) Ao)))))))
   (Ap (Bn (Aq 5))))))))))))
abbrev EG:Stmt:=top 34
theorem JK:Br ["_law_script","_law_at","_law_many","_law_cell","_law_first"] ["_law_script","_law_at","_law_many"] (Au EG):=⟨rfl,rfl,rfl,by decide +kernel,rfl,by decide +kernel,by decide +kernel⟩
theorem NZ{f:Addr}{fd:FuncData}{cStock:Addr}(Fu:Fun K "_law_mixed" "_law_mixed" EG f fd)(T:Tx K mg cStock) :D9 P w K mg base (CX1 P w) 1 f fd ["_law_script","_law_at","_law_many"] (spX K 3 (Dr)) :=
 Cp (k:=0) (g:=FV) Fu JK 3 2 rfl rfl (fun cdv A outer s H E _ _ hr lk=>by
  have nd:=JK.nd;have hu:=DM hr;exact(GSs.zero (Ah (AI 3 nd (Or.inl rfl) (Ss T.b_sum (Ad (De false ["_law_k","_law_script"] [none,some 0] rfl (Kc (Ad (Aq 1) (Ad (Pa T.b_min (Ad (BP T.b_len (Ad (Aq 0) Ao)) (Ad Ai Ao))) (Ad (Aq 2) Ao))) (fun ha=>JS rfl T.b_range ha)) (fun _ _ _ _ _=>(AH 0 (by show List.Nodup (["_law_k","_law_script"]:List Str);decide +kernel) (Or.inl rfl) (hf:=.inr rfl))) (fun _ _ _ _ _=>C1) (fun _ _ _ _ _=>(BS hu (Aq 1) (Aw (Aq 0)) (fun _ _=>rfl)))) Ao)))
   (Ah (BZ (Ex (Bv (Aq 3) Ai) Ai) (Ap (Bn (Bv (CS (Aq 3) Ai) (Sv Ai Ai)))) AR)
   (Ah (AI 4 nd (Or.inl rfl) (DF (Bw (Bw (Bw (DF (Aq 3) (Aq 3)) (Aq 3)) (Aq 1)) Ai) Ai))
   (Ap (Bn (DF (Bv (DF (Aq 4) (Aq 4)) (Bw (Sv Ai Ai) Ai)) (Bw (Bv (Aq 4) Ai) Ai)))))))))
abbrev EF:Stmt:=top 36
theorem JJ:Br ["_law_cell","_law_count","_law_letters","_law_mixed_here","_law_wide","_law_at","_law_base","_law_step","_law_got","_law_k","_law_turned_on"] ["_law_cell","_law_count"] (Au EF):=⟨rfl,rfl,rfl,by decide +kernel,rfl,by decide +kernel,by decide +kernel⟩
theorem NY{f:Addr}{fd:FuncData}{cStock:Addr}(Fu:Fun K "_law_names" "_law_names" EF f fd)(T:Tx K mg cStock) :D9 P w K mg base (CX1 P w) 1 f fd ["_law_cell","_law_count"] (spX K 2 (CL)) :=
 Cp (k:=0) (g:=FU) Fu JJ 2 9 rfl rfl (fun cdv A outer s H E _ _ hr lk=>by
  have nd:=JJ.nd;have hu:=DM hr;exact(GSs.zero (Ah (AI 2 nd (Or.inr rfl) CK)
   (Ah (AI 3 nd (Or.inr rfl) (DF (Bw (Bw (DF (Aq 0) (Aq 0)) (Aq 0)) Ai) Ai))
   (Ah (AI 4 nd (Or.inl rfl) (Bw Ai (Bv (Aq 3) Ai)))
   (Ah (AI 5 nd (Or.inl rfl) (Bv (CS (Aq 3) Ai) (Aq 4)))
   (Ah (Gf false 6 ["_law_k","_law_letters","_law_mixed_here"] [none,some 2,some 3] rfl nd (Or.inl rfl) (Cg T.b_range (Ad (Aq 4) Ao)) (fun _ _ _ _ _=>(AH 0 (by show List.Nodup (["_law_k","_law_letters","_law_mixed_here"]:List Str);decide +kernel) (Or.inl rfl) (hf:=.inr rfl))) (fun _ _ _ _ _=>C1) (fun _ _ _ _ _=>(BS hu (Aq 1) (Bv (Bw (CS (Aq 2) (Bw (Aq 0) Ai)) (DF (Aq 0) (Aq 0))) Ai) (fun _ _=>rfl))))
   (Ah (AI 7 nd (Or.inl rfl) (BS hu (Cr (Ad Ai (Ad Ai (Ad Ai (Ad Ai (Ad Ai (Ad Ai Ao))))))) (Bv (CS (Aq 3) Ai) Ai) (fun _ _=>rfl)))
   (Ah (AI 8 nd (Or.inl rfl) (Fh Ao))
   (Ah (DE lk.own rfl (Cg T.b_range (Ad (Aq 1) Ao)) (AH 9 nd (Or.inl rfl)) (Ah (AI 10 nd (Or.inl rfl) (BS hu (Aq 2) (Bv (Bw (CS (Aq 3) Ai) (DF (Aq 9) (Aq 7))) Ai) (fun _ _=>rfl)))
   (Ap (BZ (Ex (Bv (CS (Aq 3) Ai) Ai) Ai) (Ap (C0 (HW Gy PySem.F.slot_list_append PySem.F.type_list_append CC (Aq 8) (Ad (DF (BS hu (Aq 6) Ai (fun _ _=>rfl)) (Bw (Bv (Bw (Aq 9) (CS (Aq 3) Ai)) Ai) Ai)) Ao)))) (Ap (C0 (HW Gy PySem.F.slot_list_append PySem.F.type_list_append CC (Aq 8) (Ad (Bw (Bw (Aw (Sz Oc PySem.F.slot_str_join PySem.F.type_str_join N9 CK (Ad (M5 (Aq 6) Gj (Gi (Aq 5))) Ao))) (Aq 10)) (Aw (Sz Oc PySem.F.slot_str_join PySem.F.type_str_join N9 CK (Ad (M5 (Aq 6) (Gi (Bw (Aq 5) Ai)) Gj) Ao)))) Ao))))))))
   (Ap (Bn (Aq 8)))))))))))))
abbrev CW:Stmt:=top 41
theorem Gu:Br ["_law_cell"] ["_law_cell"] (Au CW):=⟨rfl,rfl,rfl,by decide +kernel,rfl,by decide +kernel,by decide +kernel⟩
theorem JY{f:Addr}{fd:FuncData}{cStock:Addr}(Fu:Fun K "_law_odd_name" "_law_odd_name" CW f fd)(T:Tx K mg cStock) :D9 P w K mg base (CX1 P w) 1 f fd ["_law_cell"] (spX K 1 (BV)) :=
 Cp (k:=0) (g:=Fo) Fu Gu 1 0 rfl rfl (fun cdv A outer s H E _ _ hr lk=>by
  have nd:=Gu.nd;have hu:=DM hr;refine GSs.zero ?_;show GSs _ _ [.Return (some _) _] (retS _);refine Ap ?_;refine Bn ?_;show FE _ _ (.Subscript _ _ _) (Ae AX _ _);refine BS ?_ ?_ ?_ ?_
  ·exact hu
  ·exact Cr (Ad CK (Ad CK (Ad CK (Ad CK (Ad CK (Ad CK (Ad CK (Ad (DF CK Ai) Ao))))))))
  ·exact Bv (Aq 0) Ai
  ·exact fun _ _=>rfl)
abbrev EE:Stmt:=top 37
theorem JI:Br ["_law_names_here","_law_at","_law_first","_law_purse","_law_many","_law_picks","_law_open_to"] ["_law_names_here","_law_at","_law_first","_law_purse"] (Au EE):=⟨rfl,rfl,rfl,by decide +kernel,rfl,by decide +kernel,by decide +kernel⟩
theorem NX{f:Addr}{fd:FuncData}{cStock:Addr}(Fu:Fun K "_law_parts" "_law_parts" EE f fd)(T:Tx K mg cStock) :D9 P w K mg base (CX1 P w) 1 f fd ["_law_names_here","_law_at","_law_first","_law_purse"] (spX K 4 (Ce)) :=
 Cp (k:=0) (g:=DS) Fu JI 4 3 rfl rfl (fun cdv A outer s H E _ _ hr lk=>by
  have nd:=JI.nd;have hu:=DM hr;exact(GSs.zero (Ah (AI 4 nd (Or.inl rfl) (BS hu (Cr (Ad Ai (Ad Ai (Ad Ai (Ad Ai Ao))))) (Bv (Aw (Ke J2 PySem.F.slot_list_pop PySem.F.type_list_pop Hi (Aq 3))) Ai) (fun _ _=>rfl)))
   (Ah (AI 5 nd (Or.inr rfl) (Cr (Ad (Aw (Ke J2 PySem.F.slot_list_pop PySem.F.type_list_pop Hi (Aq 3))) (Ad (Aw (Ke J2 PySem.F.slot_list_pop PySem.F.type_list_pop Hi (Aq 3))) Ao))))
   (Ah (AI 6 nd (Or.inr rfl) (BP T.b_len (Ad (Aq 0) Ao)))
   (Ah (BZ (EL (Aq 2) (fun _=>rfl)) (Ap (AI 6 nd (Or.inr rfl) (Aw (Aq 1)))) AR)
   (Ah (BZ (Ex (Aq 6) Ai) (Ap (Bn (C9 Ao))) AR)
   (Ap (Bn (L5 T.b_tuple (Ad (De false ["_law_k","_law_names_here","_law_open_to","_law_picks"] [none,some 0,some 6,some 5] rfl (Cg T.b_range (Ad (Aq 4) Ao)) (fun _ _ _ _ _=>(AH 0 (by show List.Nodup (["_law_k","_law_names_here","_law_open_to","_law_picks"]:List Str);decide +kernel) (Or.inl rfl) (hf:=.inr rfl))) (fun _ _ _ _ _=>C1) (fun _ _ _ _ _=>(BS hu (Aq 1) (Bv (BS hu (Aq 3) (Aw (Aq 0)) (fun _ _=>rfl)) (Aq 2)) (fun _ _=>rfl)))) Ao)))))))))))
abbrev Dv:Stmt:=top 43
theorem GZ:Br ["_law_kinds_here","_law_cell","_law_way","_law_more","_law_at","_law_kind","_law_rows","_law_k"] ["_law_kinds_here","_law_cell"] (Au Dv):=⟨rfl,rfl,rfl,by decide +kernel,rfl,by decide +kernel,by decide +kernel⟩
theorem KP{f:Addr}{fd:FuncData}{cStock:Addr}(Fu:Fun K "_law_spoiled" "_law_spoiled" Dv f fd)(T:Tx K mg cStock)(G_Lodd_name:FnAt P w K mg base (CX1 P w) "_law_odd_name" 1 ["_law_cell"] (spX K 1 BV))(G_Lspoiled_maker:FnAt P w K mg base (CX1 P w) "_law_spoiled_maker" 2 ["_law_kinds_here","_law_way","_law_row","_law_more"] (spX K 4 Bu)):D9 P w K mg base (CX1 P w) 3 f fd ["_law_kinds_here","_law_cell"] (spX K 2 (C2)) :=
 Cp (k:=2) (g:=Dy) Fu GZ 2 6 rfl rfl (fun cdv A outer s H E _ _ hr lk=>by
  have nd:=GZ.nd;have hu:=DM hr;exact(GSs.zero (Ah (K8 0 ["_law_kind","_law_rows"] [none,none] rfl nd (Or.inl rfl) (CQ (Aw (Aq 0))) (fun _ _ _ _ _=>(Ek rfl (A6 (AH 0 (by show List.Nodup (["_law_kind","_law_rows"]:List Str);decide +kernel) (Or.inl rfl) (hf:=.inr rfl)) (A6 (AH 1 (by show List.Nodup (["_law_kind","_law_rows"]:List Str);decide +kernel) (Or.inl rfl) (hf:=.inr rfl)) Dd (fun h1 h2=>AW h1 h2)) (fun h1 h2=>AW h1 h2)))) (fun _ _ _ _ _=>(Wo (Ax (Aw (Aq 0)) (Ax (Lh T.b_list (Ad (Aq 1) Ao)) A9)))))
   (Ah (AI 2 nd (Or.inl rfl) (Bv (Aq 1) Ai))
   (Ah (AI 3 nd (Or.inl rfl) (CS (Aq 1) Ai))
   (Ah (BZ (Ex (Pb T.b_len (Ad (Aq 0) Ao)) Ai) (Ap (Bn (Aq 0))) AR)
   (Ah (AI 4 nd (Or.inl rfl) (Bv (Aq 3) (Pb T.b_len (Ad (Aq 0) Ao))))
   (ON (i0:=0) (ir:=6) (ia:=4) 5 (WO (i0:=0) (ir:=6) (ia:=4) 7 nd (Or.inl rfl) (Bv (CS (Aq 3) Ai) (Um T.b_max (Ad Ai (Ad (BP T.b_len (Ad (Aq 6) Ao)) Ao)))) (WQ (PY (i0:=0) (ir:=6) (ia:=4) (Ex (Aq 2) Ai) (HH (i0:=0) (ir:=6) (ia:=4) (Ap (Fz hu (C9 (Ad (Aw (BL G_Lodd_name (hr.mono (by first | decide | omega)) lk.lk (Ax (CS (Aq 3) Ai) A9))) (Ad (Aw (Aq 6)) Ao))) (Aq 0) (Aw (Aq 4)) (fun he ho hi hs=>Gx he (Ih ho hi hs))))) (Kv (PY (i0:=0) (ir:=6) (ia:=4) (Ex (Aq 2) Ai) (HH (i0:=0) (ir:=6) (ia:=4) (Ap (Fz hu (C9 (Ad (BS hu (BS hu (Aq 0) (Bv (CS (Aq 3) Ai) (BP T.b_len (Ad (Aq 0) Ao))) (fun _ _=>rfl)) Ai (fun _ _=>rfl)) (Ad (Aw (Aq 6)) Ao))) (Aq 0) (Aw (Aq 4)) (fun he ho hi hs=>Gx he (Ih ho hi hs))))) (Kv (PY (i0:=0) (ir:=6) (ia:=4) (Ex (Aq 2) Ai) (HH (i0:=0) (ir:=6) (ia:=4) (Ah (AI 6 nd (Or.inl rfl) (Bw (Aq 6) (De false ["_law_j"] [none] rfl (Cg T.b_range (Ad (Su Ai (BP T.b_len (Ad (Aq 6) Ao))) Ao)) (fun _ _ _ _ _=>(AH 0 (by show List.Nodup (["_law_j"]:List Str);decide +kernel) (Or.inl rfl) (hf:=.inr rfl))) (fun _ _ _ _ _=>C1) (fun _ _ _ _ _=>(C9 (Ad (DF CK (Bw (Aq 0) Ai)) (Ad (C9 Ao) Ao)))))))
   (Ap (Fz hu (C9 (Ad (Aw (Aq 5)) (Ad (BS hu (Cr (Ad (Cr Ao) (Ad (Aw (Aq 6)) Ao))) (Bv (CS (Aq 3) Ai) Ai) (fun _ _=>rfl)) Ao))) (Aq 0) (Aw (Aq 4)) (fun he ho hi hs=>Gx he (Ih ho hi hs)))))) (Kv (PY (i0:=0) (ir:=6) (ia:=4) (Ex (Aq 2) Ai) (HH (i0:=0) (ir:=6) (ia:=4) (Ah (AI 0 nd (Or.inl rfl) (Bw (Aq 0) (De false ["_law_j"] [none] rfl (Cg T.b_range (Ad (Su Ai (BP T.b_len (Ad (Aq 0) Ao))) Ao)) (fun _ _ _ _ _=>(AH 0 (by show List.Nodup (["_law_j"]:List Str);decide +kernel) (Or.inl rfl) (hf:=.inr rfl))) (fun _ _ _ _ _=>C1) (fun _ _ _ _ _=>(C9 (Ad (DF CK (Bw (Aq 0) Ai)) (Ad (Cr (Ad (C9 (Ad (DF CK (Bw (Aq 0) Ai)) (Ad (C9 Ao) Ao))) Ao)) Ao)))))))
   (Ap (AI 0 nd (Or.inl rfl) (BS hu (Cr (Ad (Cr Ao) (Ad (Aw (Aq 0)) Ao))) (Bv (CS (Aq 3) Ai) Ai) (fun _ _=>rfl)))))) (Kv (PY (i0:=0) (ir:=6) (ia:=4) (Jk (BP T.b_len (Ad (Aq 6) Ao)) Ai) (Kv (UP (i0:=0) (ir:=6) (ia:=4) 7 (Aw (BL G_Lspoiled_maker (hr.mono (by first | decide | omega)) lk.lk (Ax (Aq 0) (Ax (Bv (Aq 2) Ai) (Ax (BS hu (Aq 6) (Aw (Aq 7)) (fun _ _=>rfl)) (Ax (CS (Aq 3) Ai) A9)))))) (h:=fun he ho hi hs=>Gx he (Ih ho hi hs)))) (HH (i0:=0) (ir:=6) (ia:=4) AR))))))))))
   (Ap (Bn (Aq 0))))) rfl nd (Or.inl rfl) (Or.inl rfl) (fun _ _=>rfl)))))))))
abbrev BB:Stmt:=top 42
theorem DZ:Br ["_law_kinds_here","_law_way","_law_row","_law_more","_law_maker","_law_parts_here","_law_rows"] ["_law_kinds_here","_law_way","_law_row","_law_more"] (Au BB):=⟨rfl,rfl,rfl,by decide +kernel,rfl,by decide +kernel,by decide +kernel⟩
theorem Gb{f:Addr}{fd:FuncData}{cStock:Addr}(Fu:Fun K "_law_spoiled_maker" "_law_spoiled_maker" BB f fd)(T:Tx K mg cStock)(G_Lodd_name:FnAt P w K mg base (CX1 P w) "_law_odd_name" 1 ["_law_cell"] (spX K 1 BV)):D9 P w K mg base (CX1 P w) 2 f fd ["_law_kinds_here","_law_way","_law_row","_law_more"] (spX K 4 (Bu)) :=
 Cp (k:=1) (g:=Dg) Fu DZ 4 3 rfl rfl (fun cdv A outer s H E _ _ hr lk=>by
  have nd:=DZ.nd;have hu:=DM hr;exact(GSs.zero (Ah (Sm (Aw (Aq 2)) (Ek rfl (A6 (AH 4 nd (Or.inl rfl)) (A6 (AH 5 nd (Or.inl rfl)) Dd (fun h1 h2=>AW h1 h2)) (fun h1 h2=>AW h1 h2))))
   (Ah (BZ (Ex (Aq 1) Ai) (Ap (AI 4 nd (Or.inl rfl) (Aw (BL G_Lodd_name (hr.mono (by first | decide | omega)) lk.lk (Ax (Aw (Aq 3)) A9))))) AR)
   (Ah (BZ (Ex (Aq 1) Ai) (Ah (AI 6 nd (Or.inl rfl) (BS hu (BS hu (Aq 0) (Bv (Aq 3) (BP T.b_len (Ad (Aq 0) Ao))) (fun _ _=>rfl)) Ai (fun _ _=>rfl)))
   (Ap (BZ (Jk (BP T.b_len (Ad (Aq 6) Ao)) Ai) (Ap (AI 4 nd (Or.inl rfl) (BS hu (BS hu (Aq 6) (Bv (CS (Aq 3) Ai) (BP T.b_len (Ad (Aq 6) Ao))) (fun _ _=>rfl)) Ai (fun _ _=>rfl)))) AR))) AR)
   (Ah (BZ (Ex (Aq 1) Ai) (Ap (AI 5 nd (Or.inl rfl) (Uk (C9 (Ad (BS hu (BS hu (Aq 0) Ai (fun _ _=>rfl)) Ai (fun _ _=>rfl)) Ao)) Ai))) AR)
   (Ah (BZ (Ex (Aq 1) Ai) (Ap (AI 5 nd (Or.inl rfl) (M5 (Bw (Aq 5) (C9 (Ad (BS hu (Cr (Ad CK (Ad CK (Ad CK (Ad (Aw (Aq 4)) Ao))))) (Bv (Aq 3) Ai) (fun _ _=>rfl)) Ao))) (Gi (E7 Ai)) Gj))) AR)
   (Ah (BZ (Ex (Aq 1) Ai) (Ap (AI 5 nd (Or.inl rfl) (M5 (Bw (Aq 5) (C9 (Ad (BS hu (BS hu (Aq 0) (Bv (Aq 3) (BP T.b_len (Ad (Aq 0) Ao))) (fun _ _=>rfl)) Ai (fun _ _=>rfl)) Ao))) (Gi (E7 Ai)) Gj))) AR)
   (Ah (BZ (Ex (Aq 1) Ai) (Ap (AI 5 nd (Or.inl rfl) (M5 (Bw (Aq 5) (C9 (Ad (BS hu (BS hu (Aq 0) (E7 Ai) (fun _ _=>rfl)) Ai (fun _ _=>rfl)) Ao))) (Gi (E7 Ai)) Gj))) AR)
   (Ap (Bn (C9 (Ad (Aw (Aq 4)) (Ad (Aw (Aq 5)) Ao))))))))))))))
abbrev ED:Stmt:=top 40
theorem JH:Br ["_law_kept"] ["_law_kept"] (Au ED):=⟨rfl,rfl,rfl,by decide +kernel,rfl,by decide +kernel,by decide +kernel⟩
theorem NW{f:Addr}{fd:FuncData}{cStock:Addr}(Fu:Fun K "_law_which" "_law_which" ED f fd)(T:Tx K mg cStock)(G_Lclasses:FnAt P w K mg base (CX1 P w) "_law_classes" 1 ["_law_kept"] (spX K 1 C3)):D9 P w K mg base (CX1 P w) 2 f fd ["_law_kept"] (spX K 1 (Dq)) :=
 Cp (k:=1) (g:=Jq) Fu JH 1 0 rfl rfl (fun cdv A outer s H E _ _ hr lk=>by
  have nd:=JH.nd;have hu:=DM hr;exact(GSs.zero (Ah (BZ (FW.ft (OX (Ip (EL (Wr T.xt T.b_isinstance T.b_ValueError (Aq 0)) (fun _=>rfl))) (Kb (Wk (Aw (HW QM PySem.F.slot_list_count PySem.F.type_list_count QK (Aw (BL G_Lclasses (hr.mono (by first | decide | omega)) lk.lk (Ax (Aw (Aq 0)) A9))) (Ad Kf Ao))) Ai)))) (Ap (Bn (E7 Ai))) AR)
   (Ap (Bn (HW QL PySem.F.slot_list_index PySem.F.type_list_index QJ (Aw (BL G_Lclasses (hr.mono (by first | decide | omega)) lk.lk (Ax (Aw (Aq 0)) A9))) (Ad Kf Ao)))))))
abbrev Cw:Stmt:=inClass (top 26) 0
theorem Fs:Br ["self","kinds","kind","makers","maker","parts"] ["self","kinds"] (Au Cw):=⟨rfl,rfl,rfl,by decide +kernel,rfl,by decide +kernel,by decide +kernel⟩
theorem IW{f:Addr}{fd:FuncData}{cStock:Addr}(Fu:Fun K "__init__" "Stock.__init__" Cw f fd)(T:Tx K mg cStock)(G_check_makers:FnAt P w K mg base (CX1 P w) "check_makers" 3 ["kinds"] (spX K 1 BI))(G_check_kinds:FnAt P w K mg base (CX1 P w) "check_kinds" 2 ["kinds"] (spX K 1 BU)):D9 P w K mg base (CX1 P w) 4 f fd ["self","kinds"] (spX K 2 (A4 cStock)) :=
 Cp (k:=3) (g:=CA cStock) Fu Fs 2 4 rfl rfl (fun cdv A outer s H E _ _ hr lk=>by
  have nd:=Fs.nd;have hu:=DM hr;exact(GSs.zero (Ah (C0 (BL G_check_kinds (hr.mono (by first | decide | omega)) lk.lk (Ax (Aw (Aq 1)) A9)))
   (Ah (C0 (BL G_check_makers (hr.mono (by first | decide | omega)) lk.lk (Ax (Aw (Aq 1)) A9)))
   (Ah (OO T.cl_Stock T.na_Stock_makers_by_kind 0 FH (fun hv=>NJ (pv 0) hv rfl))
   (Ah (OO T.cl_Stock T.na_Stock_parts_by_maker 0 FH (fun hv=>NJ (pv 0) hv rfl))
   (Ah (OO T.cl_Stock T.na_Stock_home_by_maker 0 FH (fun hv=>NJ (pv 0) hv rfl))
   (Ap (DE lk.own rfl (CQ (Aw (Aq 1))) (Ek rfl (A6 (AH 2 nd (Or.inl rfl)) (A6 (AH 3 nd (Or.inl rfl)) Dd (fun h1 h2=>AW h1 h2)) (fun h1 h2=>AW h1 h2))) (Ah (Jf T.cl_Stock T.na_Stock_makers_by_kind 0 2 (De false ["maker","parts"] [none,none] rfl (CQ (Aw (Aq 3))) (fun _ _ _ _ _=>(Ek rfl (A6 (AH 0 (by show List.Nodup (["maker","parts"]:List Str);decide +kernel) (Or.inl rfl) (hf:=.inr rfl)) (A6 (AH 1 (by show List.Nodup (["maker","parts"]:List Str);decide +kernel) (Or.inl rfl) (hf:=.inr rfl)) Dd (fun h1 h2=>AW h1 h2)) (fun h1 h2=>AW h1 h2)))) (fun _ _ _ _ _=>C1) (fun _ _ _ _ _=>(Aw (Aq 0)))) (fun hv=>KH hu (LK (pv 0) rfl) (pv 2) hv rfl))
   (Ap (DE lk.own rfl (CQ (Aw (Aq 3))) (Ek rfl (A6 (AH 4 nd (Or.inl rfl)) (A6 (AH 5 nd (Or.inl rfl)) Dd (fun h1 h2=>AW h1 h2)) (fun h1 h2=>AW h1 h2))) (Ah (Jf T.cl_Stock T.na_Stock_parts_by_maker 0 4 (L5 T.b_tuple (Ad (Aq 5) Ao)) (fun hv=>KH hu (LK (pv 0) rfl) (pv 4) hv rfl))
   (Ap (Jf T.cl_Stock T.na_Stock_home_by_maker 0 4 (Aw (Aq 2)) (fun hv=>KH hu (LK (pv 0) rfl) (pv 4) hv rfl))))))))))))))))
abbrev Ck:Stmt:=inClass (top 26) 1
theorem E4:Br ["self"] ["self"] (Au Ck):=⟨rfl,rfl,rfl,by decide +kernel,rfl,by decide +kernel,by decide +kernel⟩
theorem HQ{f:Addr}{fd:FuncData}{cStock:Addr}(Fu:Fun K "kinds" "Stock.kinds" Ck f fd)(T:Tx K mg cStock) :D9 P w K mg base (CX1 P w) 1 f fd ["self"] (spX K 1 (Cm cStock)) :=
 Cp (k:=0) (g:=CP cStock) Fu E4 1 0 rfl rfl (fun cdv A outer s H E _ _ hr lk=>by
  have nd:=E4.nd;have hu:=DM hr;exact(GSs.zero (Ap (Bn (Lh T.b_list (Ad (Ws T.cl_Stock T.na_Stock_makers_by_kind (Aq 0)) Ao))))))
abbrev Cb:Stmt:=top 30
theorem Er:Br ["maker","parts","kinds_above","part"] ["maker","parts","kinds_above"] (Au Cb):=⟨rfl,rfl,rfl,by decide +kernel,rfl,by decide +kernel,by decide +kernel⟩
theorem Hg{f:Addr}{fd:FuncData}{cStock:Addr}(Fu:Fun K "check_ground" "check_ground" Cb f fd)(T:Tx K mg cStock) :D9 P w K mg base (CX1 P w) 1 f fd ["maker","parts","kinds_above"] (spX K 3 (Bo)) :=
 Cp (k:=0) (g:=Cc) Fu Er 3 1 rfl rfl (fun cdv A outer s H E _ _ hr lk=>by
  have nd:=Er.nd;have hu:=DM hr;exact(GSs.zero (Ap (DE lk.own rfl (CQ (Aw (Aq 1))) (AH 3 nd (Or.inl rfl)) (Ap (BZ (FD hu (Aw (Aq 3)) (Aq 2)) (Ap (MV (T.xt.t1 (by decide +kernel)) lk rfl (Aq 0) (Aq 3))) AR))))))
abbrev Cj:Stmt:=top 27
theorem E3:Br ["kinds","above","kind","makers"] ["kinds"] (Au Cj):=⟨rfl,rfl,rfl,by decide +kernel,rfl,by decide +kernel,by decide +kernel⟩
theorem HP{f:Addr}{fd:FuncData}{cStock:Addr}(Fu:Fun K "check_kinds" "check_kinds" Cj f fd)(T:Tx K mg cStock)(G_is_name:FnAt P w K mg base (CX1 P w) "is_name" 1 ["text"] (spX K 1 Bj)):D9 P w K mg base (CX1 P w) 2 f fd ["kinds"] (spX K 1 (BU)) :=
 Cp (k:=1) (g:=Cn) Fu E3 1 3 rfl rfl (fun cdv A outer s H E _ _ hr lk=>by
  have nd:=E3.nd;have hu:=DM hr;exact(GSs.zero (Ah (BZ (Ip (Jl of_le of_le Ai (BP T.b_len (Ad (Aq 0) Ao)) (Ri T.g_MOST_KINDS) (fun ha hb hc=>IP MH MH ha hb hc))) (Ap (Q2 (T.xt.t1 (by decide +kernel)) lk rfl (Ad CK Ao))) AR)
   (Ah (AI 1 nd (Or.inl rfl) FH)
   (Ap (DE lk.own rfl (CQ (Aw (Aq 0))) (Ek rfl (A6 (AH 2 nd (Or.inl rfl)) (A6 (AH 3 nd (Or.inl rfl)) Dd (fun h1 h2=>AW h1 h2)) (fun h1 h2=>AW h1 h2))) (Ah (BZ (Ip (EL (Aw (BL G_is_name (hr.mono (by first | decide | omega)) lk.lk (Ax (Aw (Aq 2)) A9))) (fun _=>rfl))) (Ap (DD (T.xt.t1 (by decide +kernel)) lk rfl (Aq 2))) AR)
   (Ah (BZ (Rg hu (Aw (Aq 2)) (Aq 1)) (Ap (DD (T.xt.t1 (by decide +kernel)) lk rfl (Aq 2))) AR)
   (Ah (BZ (Ip (Jl of_le of_le Ai (BP T.b_len (Ad (Aq 3) Ao)) (Ri T.g_MOST_MAKERS) (fun ha hb hc=>IP MH MH ha hb hc))) (Ap (DD (T.xt.t1 (by decide +kernel)) lk rfl (Aq 2))) AR)
   (Ap (Fz hu Kf (Aq 1) (Aw (Aq 2)) (fun he ho hi hs=>Gx he (Ih ho hi hs)))))))))))))
abbrev Ci:Stmt:=top 29
theorem E2:Br ["maker","parts","makers_ahead","all_kinds","part"] ["maker","parts","makers_ahead","all_kinds"] (Au Ci):=⟨rfl,rfl,rfl,by decide +kernel,rfl,by decide +kernel,by decide +kernel⟩
theorem HN{f:Addr}{fd:FuncData}{cStock:Addr}(Fu:Fun K "check_maker" "check_maker" Ci f fd)(T:Tx K mg cStock)(G_is_name:FnAt P w K mg base (CX1 P w) "is_name" 1 ["text"] (spX K 1 Bj)):D9 P w K mg base (CX1 P w) 2 f fd ["maker","parts","makers_ahead","all_kinds"] (spX K 4 (Be)) :=
 Cp (k:=1) (g:=BY) Fu E2 4 1 rfl rfl (fun cdv A outer s H E _ _ hr lk=>by
  have nd:=E2.nd;have hu:=DM hr;exact(GSs.zero (Ah (BZ (Ip (EL (Aw (BL G_is_name (hr.mono (by first | decide | omega)) lk.lk (Ax (Aw (Aq 0)) A9))) (fun _=>rfl))) (Ap (DD (T.xt.t1 (by decide +kernel)) lk rfl (Aq 0))) AR)
   (Ah (BZ (Rg hu (Aw (Aq 0)) (Aq 2)) (Ap (DD (T.xt.t1 (by decide +kernel)) lk rfl (Aq 0))) AR)
   (Ah (BZ (Jk (BP T.b_len (Ad (Aq 1) Ao)) (Ri T.g_MOST_PARTS)) (Ap (DD (T.xt.t1 (by decide +kernel)) lk rfl (Aq 0))) AR)
   (Ap (DE lk.own rfl (CQ (Aw (Aq 1))) (AH 4 nd (Or.inl rfl)) (Ap (BZ (FD hu (Aw (Aq 4)) (Aq 3)) (Ap (DD (T.xt.t1 (by decide +kernel)) lk rfl (Aq 4))) AR)))))))))
abbrev Ca:Stmt:=top 28
theorem Ep:Br ["kinds","all_kinds","kinds_above","makers_ahead","kind","makers","first","maker","parts"] ["kinds"] (Au Ca):=⟨rfl,rfl,rfl,by decide +kernel,rfl,by decide +kernel,by decide +kernel⟩
theorem Hf{f:Addr}{fd:FuncData}{cStock:Addr}(Fu:Fun K "check_makers" "check_makers" Ca f fd)(T:Tx K mg cStock)(G_check_ground:FnAt P w K mg base (CX1 P w) "check_ground" 1 ["maker","parts","kinds_above"] (spX K 3 Bo))(G_check_maker:FnAt P w K mg base (CX1 P w) "check_maker" 2 ["maker","parts","makers_ahead","all_kinds"] (spX K 4 Be)):D9 P w K mg base (CX1 P w) 3 f fd ["kinds"] (spX K 1 (BI)) :=
 Cp (k:=2) (g:=Ct) Fu Ep 1 8 rfl rfl (fun cdv A outer s H E _ _ hr lk=>by
  have nd:=Ep.nd;have hu:=DM hr;exact(GSs.zero (Ah (Gf false 1 ["kind","makers"] [none,none] rfl nd (Or.inl rfl) (CQ (Aw (Aq 0))) (fun _ _ _ _ _=>(Ek rfl (A6 (AH 0 (by show List.Nodup (["kind","makers"]:List Str);decide +kernel) (Or.inl rfl) (hf:=.inr rfl)) (A6 (AH 1 (by show List.Nodup (["kind","makers"]:List Str);decide +kernel) (Or.inl rfl) (hf:=.inr rfl)) Dd (fun h1 h2=>AW h1 h2)) (fun h1 h2=>AW h1 h2)))) (fun _ _ _ _ _=>C1) (fun _ _ _ _ _=>(Aw (Aq 0))))
   (Ah (AI 2 nd (Or.inl rfl) (Fh Ao))
   (Ah (AI 3 nd (Or.inl rfl) FH)
   (Ap (DE lk.own rfl (CQ (Aw (Aq 0))) (Ek rfl (A6 (AH 4 nd (Or.inl rfl)) (A6 (AH 5 nd (Or.inl rfl)) Dd (fun h1 h2=>AW h1 h2)) (fun h1 h2=>AW h1 h2))) (Ah (AI 6 nd (Or.inl rfl) (BS hu (BS hu (Aq 5) Ai (fun _ _=>rfl)) Ai (fun _ _=>rfl)))
   (Ah (DE lk.own rfl (CQ (Aw (Aq 5))) (Ek rfl (A6 (AH 7 nd (Or.inl rfl)) (A6 (AH 8 nd (Or.inl rfl)) Dd (fun h1 h2=>AW h1 h2)) (fun h1 h2=>AW h1 h2))) (Ah (C0 (BL G_check_maker (hr.mono (by first | decide | omega)) lk.lk (Ax (Aw (Aq 7)) (Ax (Aw (Aq 8)) (Ax (Aq 3) (Ax (Aw (Aq 1)) A9))))))
   (Ah (BZ (Ex (Aq 7) (Aq 6)) (Ap (C0 (BL G_check_ground (hr.mono (by first | decide | omega)) lk.lk (Ax (Aw (Aq 7)) (Ax (Aw (Aq 8)) (Ax (Aq 2) A9)))))) AR)
   (Ap (Fz hu Kf (Aq 3) (Aw (Aq 7)) (fun he ho hi hs=>Gx he (Ih ho hi hs)))))))
   (Ap (C0 (HW Gy PySem.F.slot_list_append PySem.F.type_list_append CC (Aq 2) (Ad (Aw (Aq 4)) Ao)))))))))))))
abbrev D1:Stmt:=top 21
theorem Ia:Br ["text"] ["text"] (Au D1):=⟨rfl,rfl,rfl,by decide +kernel,rfl,by decide +kernel,by decide +kernel⟩
theorem MJ{f:Addr}{fd:FuncData}{cStock:Addr}(Fu:Fun K "is_name" "is_name" D1 f fd)(T:Tx K mg cStock) :D9 P w K mg base (CX1 P w) 1 f fd ["text"] (spX K 1 (Bj)) :=
 Cp (k:=0) (g:=DI) Fu Ia 1 0 rfl rfl (fun cdv A outer s H E _ _ hr lk=>by
  have nd:=Ia.nd;have hu:=DM hr;exact(GSs.zero (Ah (BZ (Ip (Jl of_le of_le Ai (BP T.b_len (Ad (Aq 0) Ao)) (Ri T.g_MOST_LETTERS) (fun ha hb hc=>IP MH MH ha hb hc))) (Ap (Bn Kf)) AR)
   (Ap (Bn (Wv T.b_all (Ad (De false ["sign"] [none] rfl (CQ (Aw (Aq 0))) (fun _ _ _ _ _=>(AH 0 (by show List.Nodup (["sign"]:List Str);decide +kernel) (Or.inl rfl) (hf:=.inr rfl))) (fun _ _ _ _ _=>C1) (fun _ _ _ _ _=>(XZ hu (Aw (Aq 0)) (X0 T.g_LETTERS)))) Ao)))))))
abbrev II:Stmt:=top 47
theorem RT:Br ["_law_script","_law_kinds_here","_law_odd","_law_k","_law_due_here","_law_handed","_law_kept","e"] ["_law_script"] (Au II):=⟨rfl,rfl,rfl,by decide +kernel,rfl,by decide +kernel,by decide +kernel⟩
theorem VP{f:Addr}{fd:FuncData}{cStock:Addr}(Fu:Fun K "law" "law" II f fd)(T:Tx K mg cStock)(G_Lkinds:FnAt P w K mg base (CX1 P w) "_law_kinds" 2 ["_law_script"] (spX K 1 Eh))(G_Lcell_at:FnAt P w K mg base (CX1 P w) "_law_cell_at" 1 ["_law_script","_law_k"] (spX K 2 Bt))(G_Lmixed:FnAt P w K mg base (CX1 P w) "_law_mixed" 1 ["_law_script","_law_at","_law_many"] (spX K 3 Dr))(G_Lspoiled:FnAt P w K mg base (CX1 P w) "_law_spoiled" 3 ["_law_kinds_here","_law_cell"] (spX K 2 C2))(G_Ldue:FnAt P w K mg base (CX1 P w) "_law_due" 3 ["_law_kinds_here"] (spX K 1 Hz))(G_Stock_init:W9 P w K mg base (CX1 P w) "Stock" cStock 4 ["self","kinds"] (spX K 2 (A4 cStock)))(G_Stock_kinds:W8 P w K mg base (CX1 P w) cStock "kinds" 1 ["self"] (spX K 1 (Cm cStock)))(G_Lwhich:FnAt P w K mg base (CX1 P w) "_law_which" 2 ["_law_kept"] (spX K 1 Dq)):D9 P w K mg base (CX1 P w) 6 f fd ["_law_script"] (spX K 1 (Ww cStock)) :=
 Cp (k:=5) (g:=RG cStock) Fu RT 1 7 rfl rfl (fun cdv A outer s H E _ _ hr lk=>by
  have nd:=RT.nd;have hu:=DM hr;exact(DC (GS.zero (AI 1 nd (Or.inl rfl) (Aw (BL G_Lkinds (hr.mono (by first | decide | omega)) lk.lk (Ax (Aw (Aq 0)) A9)))))
   (DC (GS.zero (AI 2 nd (Or.inl rfl) (Aw (Aq 1))))
   (DC (GS.zero (DE lk.own rfl (Cg T.b_range (Ad (Bv (Aw (BL G_Lcell_at (hr.mono (by first | decide | omega)) lk.lk (Ax (Aw (Aq 0)) (Ax Ai A9)))) Ai) Ao)) (AH 3 nd (Or.inl rfl)) (Ap (AI 2 nd (Or.inl rfl) (Aw (BL G_Lspoiled (hr.mono (by first | decide | omega)) lk.lk (Ax (Aw (Aq 2)) (Ax (CS (Aw (BL G_Lmixed (hr.mono (by first | decide | omega)) lk.lk (Ax (Aw (Aq 0)) (Ax (Bw Ai (Aq 3)) (Ax Ai A9))))) Ai) A9))))))))
   (DC (GS.zero (AI 4 nd (Or.inl rfl) (Aw (BL G_Ldue (hr.mono (by first | decide | omega)) lk.lk (Ax (Aw (Aq 2)) A9)))))
   (DC (GS.zero (Gf false 5 ["_law_kind","_law_rows"] [none,none] rfl nd (Or.inl rfl) (CQ (Aw (Aq 2))) (fun _ _ _ _ _=>(Ek rfl (A6 (AH 0 (by show List.Nodup (["_law_kind","_law_rows"]:List Str);decide +kernel) (Or.inl rfl) (hf:=.inr rfl)) (A6 (AH 1 (by show List.Nodup (["_law_kind","_law_rows"]:List Str);decide +kernel) (Or.inl rfl) (hf:=.inr rfl)) Dd (fun h1 h2=>AW h1 h2)) (fun h1 h2=>AW h1 h2)))) (fun _ _ _ _ _=>C1) (fun _ _ _ _ _=>(C9 (Ad (Aw (Aq 0)) (Ad (Aw (Lh T.b_list (Ad (Aq 1) Ao))) Ao))))))
   (DC (GS.zero (AI 6 nd (Or.inl rfl) Sw))
   (DC (Q3 T.xt (by decide +kernel) 7 lk nd (fun _ _ lk=>(Ap (C0 (Sx G_Stock_init (hr.mono (by first | decide | omega)) lk.lk (Ax (Aw (Aq 5)) A9))))) (fun _=>(Ap (AI 6 nd (Or.inl rfl) (Aw (Aq 7))))))
   (GSs.zero (Ah (BZ (Wj (We hr) (Aq 5) (Aq 2)) (Ap (Bn Kf)) AR)
   (Ah (BZ (FW.ft (OX (FW.ft (OY (Ex (Aq 4) (E7 Ai)) (Ld (Ui (Aq 6) Sw)))) (Kb (FW.ft (OY (Jk (Aq 4) (E7 Ai)) (Ld (Wk (Aw (BL G_Lwhich (hr.mono (by first | decide | omega)) lk.lk (Ax (Aw (Aq 6)) A9))) (Aq 4)))))))) (Ap (Bn Kf)) AR)
   (Ap (Bn (Wt (We hr) (Aw (Ul G_Stock_kinds (hr.mono (by first | decide | omega)) (Aw (Sx G_Stock_init (hr.mono (by first | decide | omega)) lk.lk (Ax (Aw (Aq 1)) A9))) (fun ho=>Vz G_Stock_kinds (hr.mono (by first | decide | omega)) Xz ho))) (De false ["_law_row"] [none] rfl (CQ (Aw (Aq 1))) (fun _ _ _ _ _=>(AH 0 (by show List.Nodup (["_law_row"]:List Str);decide +kernel) (Or.inl rfl) (hf:=.inr rfl))) (fun _ _ _ _ _=>C1) (fun _ _ _ _ _=>(BS hu (Aq 0) Ai (fun _ _=>rfl))))))))))))))))))
end
end Sy
namespace Nm
def M(c:Int):Int:=(c * c+c+1) * 982451653
def W(c:Int):Int:=1+M c % 12
def At(c:Int):Int:=M c / 12 % W c
def C8(i:Int):Nat:=97+(i % 26).toNat
def base(c:Int)(j:Nat):Nat:=C8 (M c / ((j:Int)+5)+(j:Int) * j)
def stepI(c:Int):Nat:=(M c / 144 % 6).toNat
def step(c:Int):Int:=([1,3,5,7,9,11]:List Int).getD (stepI c) 1
def one(c:Int)(k:Nat):Nat:=C8 (M c / 864+(k:Int) * step c)
def Km(c:Int)(k:Nat):List Nat:=List.replicate (((k:Int)+M c / 7) % 12+1).toNat (base c 0)
def Iu(c:Int)(k:Nat):List Nat:=(List.range (At c).toNat).map (base c)++[one c k]++(List.range ((W c).toNat - ((At c).toNat+1))).map fun j=>base c ((At c).toNat+1+j)
def codes(c:Int)(k:Nat):List Nat:=if M c / 900 % 3=1 then Km c k else Iu c k
theorem WT(c:Int):1<=W c:=by unfold W;omega
theorem X7(c:Int):W c<=12:=by unfold W;omega
theorem WU(c:Int):0<=At c:=Int.emod_nonneg _ (by have:=WT c;omega)
theorem WV(c:Int):At c < W c:=Int.emod_lt_of_pos _ (by have:=WT c;omega)
theorem Oi(i:Int):97<=C8 i:=by unfold C8;omega
theorem Oj(i:Int):C8 i<=122:=by unfold C8;omega
theorem LB(c:Int):step c=1∨step c=3∨step c=5∨step c=7∨step c=9∨step c=11:=by
 have h:stepI c < 6:=by unfold stepI;omega
 unfold step;generalize stepI c=i at h
 match i,h with
 | 0,_=>simp
 | 1,_=>simp
 | 2,_=>simp
 | 3,_=>simp
 | 4,_=>simp
 | 5,_=>simp
theorem one_inj{c:Int}{k k':Nat}(hk:k < 12)(hk':k' < 12)(h:one c k=one c k'):k=k':=by
 unfold one C8 at h;have h':((M c / 864+(k:Int) * step c) % 26)=((M c / 864+(k':Int) * step c) % 26):=by omega
 generalize M c / 864=m at h';rcases LB c with e | e | e | e | e | e <;> rw [e] at h' <;> omega
theorem ER(c:Int)(k:Nat):(Km c k).length=(((k:Int)+M c / 7) % 12+1).toNat:=by unfold Km;simp
theorem Ir(c:Int)(k:Nat):(Iu c k).length=(W c).toNat:=by
 unfold Iu;simp only [List.length_append,List.length_map,List.length_range,List.length_singleton];have:=WU c;have:=WV c;omega
theorem Ru(c:Int)(k:Nat):1<=(codes c k).length:=by
 unfold codes;split
 ·rw [ER];omega
 ·rw [Ir];have:=WT c;omega
theorem Mg(c:Int)(k:Nat):(codes c k).length<=12:=by
 unfold codes;split
 ·rw [ER];omega
 ·rw [Ir];have:=X7 c;omega
theorem FN(c:Int)(k:Nat):∀x∈codes c k,97<=x/\x<=122:=by
 intro x hx;have key:∃i,x=C8 i:=by
  unfold codes at hx;split at hx
  ·unfold Km at hx
   exact⟨_,(List.mem_replicate.mp hx).2⟩
  ·unfold Iu at hx
   rcases List.mem_append.mp hx with hx | hx
   ·rcases List.mem_append.mp hx with hx | hx
    ·obtain⟨j,_,rfl⟩:=List.mem_map.mp hx
     exact⟨_,rfl⟩
    ·rw [List.mem_singleton.mp hx]
     exact⟨_,rfl⟩
   ·obtain⟨j,_,rfl⟩:=List.mem_map.mp hx
    exact⟨_,rfl⟩
 obtain⟨i,rfl⟩:=key;exact⟨Oi i,Oj i⟩
theorem Px{c:Int}{k k':Nat}(hk:k < 12)(hk':k' < 12)(h:codes c k=codes c k'):k=k':=by
 unfold codes at h;split at h
 ·have e:=congrArg List.length h
  rw [ER,ER] at e;omega
 ·unfold Iu at h
  rw [List.append_assoc,List.append_assoc] at h;have h1:=List.append_cancel_left h;rw [List.singleton_append,List.singleton_append] at h1;exact one_inj hk hk' (List.cons.inj h1).1
end Nm
namespace Sy
open PySem PySem.Spec L2 FL
theorem AQ{g h:FS->SO}{fs fs':FS}(e:g fs=.nx fs'):AL g h fs=h fs':=by unfold AL;rw [e]
abbrev vl(t:T):Option Sl:=some (.val t)
abbrev iv(i:Int):Option Sl:=some (.val (.int i))
def Fre:Option Sl->Prop
 | some (.bor _)=>False
 | _=>True
theorem AA:Fre none:=True.intro
theorem AZ{t:T}:Fre (vl t):=True.intro
theorem Ba{fs:FS}{i:Nat}{t:T}{x:Option Sl}(e:fs[i]?=some x)(h:Fre x):Jv i (.t t) fs=some (fs.set i (vl t)):=by
 unfold Jv;rw [e];cases x with
 | none=>rfl
 | some s=>cases s with
  | val t=>rfl
  | own o=>rfl
  | bor o=>exact h.elim
theorem Ez{fe:FS->Out Rv}{f:T->T}{rest:FS}:∀(ts:List T) (x:Option Sl) (acc:List T),Fre x->(∀t∈ts,fe (vl t :: rest)=.ok (.t (f t)) (vl t :: rest))->acc.length+ts.length<=big ->
  ∃y,Fre y/\Cs (tgN 0) DX fe ts (x :: rest) acc=some (acc++ts.map f,y :: rest)
 | [],x,acc,hx,_,_=>⟨x,hx,by simp [Cs]⟩
 | t :: ts,x,acc,hx,h,hl=>by
  obtain⟨y,hy,e⟩:=Ez ts (vl t) (acc++[f t]) AZ (fun t' m=>h t' (List.mem_cons_of_mem _ m)) (by simp at hl ⊢;omega);refine⟨y,hy,?_⟩;have h1:tgN 0 t (x :: rest)=some (vl t :: rest):=by
   unfold tgN;rw [Ba (x:=x) rfl hx];rfl
  have h2:=h t List.mem_cons_self;have h3:acc.length < big:=by simp at hl;omega
  simp only [Cs,h1,DX,h2,if_pos h3,e];simp
theorem DV{gt:T->FS->Option FS}{body:FS->SO}(P:List T->FS->Prop)(step:∀t ts fs,P (t :: ts) fs->∃fs1 fs2,gt t fs=some fs1/\body fs1=.nx fs2/\P ts fs2):∀(ts:List T) (fs:FS),P ts fs->∃fs',Dk gt body ts fs=.nx fs'/\P [] fs'
 | [],fs,h=>⟨fs,rfl,h⟩
 | t :: ts,fs,h=>by
  obtain⟨fs1,fs2,e1,e2,h2⟩:=step t ts fs h;obtain⟨fs',e,hp⟩:=DV P step ts fs2 h2;exact⟨fs',by simp only [Dk,e1,e2,e],hp⟩
theorem IB:∀ns:List Int,Dm (ns.map T.int)=some ns
 | []=>rfl
 | n :: ns=>by simp [Dm,IB ns]
def IsI(t:T)(ns:List Int):Prop:=t=.scr (ns.map T.int)∨t=.lst (ns.map T.int)
theorem IsI.seq{t:T}{ns:List Int}(h:IsI t ns)(fs:FS):Dn fs (.t t)=some (ns.map T.int):=by rcases h with rfl | rfl <;> rfl
theorem Qp{a j c:Int}{i:Nat}(hc:0 < c)(h:i < (Builtin.Range.rangeSize a j c).toNat):a+i * c < j:=by
 unfold Builtin.Range.rangeSize at h;rw [if_pos hc] at h;by_cases haj:a < j
 ·rw [if_pos haj] at h
  have h2:(i:Int)<=(j - a - 1) / c:=by omega
  have h3:=(Int.le_ediv_iff_mul_le hc).mp h2;omega
 ·rw [if_neg haj] at h
  simp at h
theorem LG{a j c:Int}(hc:0 < c):0<=Builtin.Range.rangeSize a j c:=by
 unfold Builtin.Range.rangeSize;rw [if_pos hc];by_cases haj:a < j
 ·rw [if_pos haj]
  have:0<=(j - a - 1) / c:=Int.ediv_nonneg (by omega) (by omega);omega
 ·rw [if_neg haj]
  exact Int.le_refl 0
theorem Hc{a j c:Int}(hc:0 < c)(h0:0<=a)(h:j<=63):(Builtin.Range.rangeSize a j c).toNat<=63:=by
 unfold Builtin.Range.rangeSize;rw [if_pos hc];by_cases haj:a < j
 ·rw [if_pos haj]
  have:(j - a - 1) / c<=j - a - 1:=Int.ediv_le_self _ (by omega);omega
 ·rw [if_neg haj]
  simp
theorem Nr{a b c:Int}(a0:0<=a)(a1:a<=1000)(b0:0<=b)(b1:b<=63)(c0:1<=c)(c1:c<=1000):Builtin.Range.small a b c=true:=by
 have h1:=LG (a:=a) (j:=b) (c:=c) (by omega);have h2:=Hc (a:=a) (j:=b) (c:=c) (by omega) a0 b1;unfold Builtin.Range.small;simp only [Builtin.Range.rangeFitsLong,Bool.and_eq_true,Bool.or_eq_true,decide_eq_true_eq,beq_iff_eq,show c > 0 by omega,if_true];omega
section
variable{i j:Int}{fs:FS}
theorem BR:AF (.t (.int i)) (.t (.int j)) fs=.ok (.t (.int (i+j))) fs:=rfl
theorem Bz(h:0 < j):BA (.t (.int i)) (.t (.int j)) fs=.ok (.t (.int (i % j))) fs:=if_pos h
theorem Dj(h:0 < j/\j < 1073741824):C5 (.t (.int i)) (.t (.int j)) fs=.ok (.t (.int (i / j))) fs:=if_pos h
theorem Hu(h:-(2 ^ 64) < i/\i < 2 ^ 64):Bp (.t (.int i)) (.t (.int j)) fs=.ok (.t (.int (i * j))) fs:=by
 have e:U0 (.t (.int i)) (.t (.int j)) fs=.ok (.t (.int (i * j))) fs:=if_pos (by rw [decide_eq_true h];rfl);unfold Bp orG;rw [e]
theorem Lb(h:Builtin.Int.intBits i<=2 ^ 26/\Builtin.Int.intBits j<=2 ^ 26):Bp (.t (.int i)) (.t (.int j)) fs=.ok (.t (.int (i * j))) fs:=by
 have e:U0 (.t (.int i)) (.t (.int j)) fs=.ok (.t (.int (i * j))) fs:=if_pos (by rw [decide_eq_true h.1,decide_eq_true h.2];simp);unfold Bp orG;rw [e]
end
theorem A7{x:Rv}{ts:List T}{i:Int}{t:T}{fs:FS}(h:Dn fs x=some ts)(e:atI ts i=some t):AX x (.t (.int i)) fs=.ok (.t t) fs:=by
 have e':gIx x (.t (.int i)) fs=.ok (.t t) fs:=by
  simp only [gIx,h,e,okT]
 unfold AX orG;rw [e']
theorem Sq{t:T}{ns:List Int}{i:Int}{fs:FS}(h:IsI t ns)(h0:0<=i)(h1:i < ns.length):AX (.t t) (.t (.int i)) fs=.ok (.t (.int (ns.getD i.toNat 0))) fs:=by
 refine A7 (h.seq fs) ?_;have e:(ns.map T.int)[i.toNat]?=some (T.int (ns.getD i.toNat 0)):=by
  have:i.toNat < ns.length:=by omega
  simp [this]
 have:=A2 e;rwa [Int.toNat_of_nonneg h0] at this
theorem Ig{fs:FS}{j:Nat}:∀{is:List Ini} {k:Nat},(∀i∈is,Di fs i=none)->FL.placeOf fs j is k=none
 | [],_,_=>rfl
 | i :: is,k,h=>by
  simp only [FL.placeOf];rw [h i List.mem_cons_self,if_neg (by simp)];exact Ig fun i' m=>h i' (List.mem_cons_of_mem _ m)
theorem Iz{fs:FS}{is:List Ini}{τ:FS}(h:∀i∈is,Di fs i=none):∀(gs:FS) (j:Nat),Lu fs is τ j gs=some gs
 | [],_=>rfl
 | g :: gs,j=>by
  simp only [Lu,PR,Ig h,Iz h gs (j+1)]
theorem AO{fs:FS}{is:List Ini}{τ:FS}(h:CG fs is=[]):En is τ fs=some fs:=Iz (List.filterMap_eq_nil_iff.mp h) fs 0
theorem Df{src:List (Option Nat)}{fi:FS->Out (List T)}{gt:T->FS->Option FS}{ft:FS->Out Bool}{fe:FS->Out Rv}{fs fs':FS}{ts vs:List T}{τ:FS}(h1:fi fs=.ok ts fs)(h2:(CG fs (src.map fun o=>o.elim Ini.no Ini.slot)).Nodup/\(src.all fun o=>o.elim true fun j=>decide (j < fs.length))=true)
  (h3:Cs gt ft fe ts (Dp fs (src.map fun o=>o.elim Ini.no Ini.slot)) []=some (vs,τ)) (h4:En (src.map fun o=>o.elim Ini.no Ini.slot) τ fs=some fs'):BW false src fi gt ft fe fs=.ok (.t (.lst vs)) fs':=by
 unfold BW;rw [h1];simp only [Out.bind];rw [if_pos h2,h3];dsimp only;rw [h4];rfl
theorem NC{a j c:Int}{fs:FS}{fa:FS->Out (List Rv)}(e:fa fs=.ok [.t (.int a),.t (.int j),.t (.int c)] fs)(a0:0<=a)(a1:a<=1000)(b0:0<=j)(b1:j<=63)(c0:1<=c)(c1:c<=1000):QV fa fs=.ok (P4 a c (Builtin.Range.rangeSize a j c).toNat) fs:=by
 unfold QV;rw [e];simp only [Out.bind];exact if_pos ⟨by omega,by omega,Nr a0 a1 b0 b1 c0 c1,LG (by omega)⟩
theorem drawn{t:T}{ns:List Int}(ht:IsI t ns){a b:Int}(a0:0<=a)(a1:a<=1000)(b0:1<=b)(b1:b<=1000)(more:FS) :
  ∃zs:List Int,(zs.length<=63/\∀z∈zs,∃i,z=ns.getD i 0)/\Am Q6 (Ab (BW false [none,some 0] (QV (Ab (Aa 1) (Ab (Am HV (Ab (Am AY (Ab (Aa 0) Ak)) (Ab (gc (.int 63)) Ak))) (Ab (Aa 2) Ak)))) (tgN 0) DX (Ae AX (Aa 1) (fz (Aa 0)))) Ak) (vl t :: iv a :: iv b :: more)=.ok (.t (.int zs.sum)) (vl t :: iv a :: iv b :: more):=by
 have hj:∃j:Int,0<=j/\j<=63/\j<=ns.length/\(Ab (Aa 1) (Ab (Am HV (Ab (Am AY (Ab (Aa 0) Ak)) (Ab (gc (.int 63)) Ak))) (Ab (Aa 2) Ak))) (vl t :: iv a :: iv b :: more)=.ok [.t (.int a),.t (.int j),.t (.int b)] (vl t :: iv a :: iv b :: more):=by
  refine⟨if(63:Int) < ((ns.map T.int).length:Int) then 63 else((ns.map T.int).length:Int),?_,?_,?_,?_⟩
  ·split <;> omega
  ·split <;> omega
  ·rw [List.length_map];split <;> omega
  ·rcases ht with rfl | rfl <;> rfl
 obtain⟨j,j0,j1,j2,ej⟩:=hj;have e1:=NC ej a0 a1 j0 j1 b0 b1;obtain⟨y,hy,e2⟩:=Ez (fe:=Ae AX (Aa 1) (fz (Aa 0))) (f:=fun t'=>match t' with | .int i=>.int (ns.getD i.toNat 0) | _=>.non) (rest:=[vl t]) (P4 a b (Builtin.Range.rangeSize a j b).toNat) none [] AA (fun t' m=>by
   unfold P4 at m;rw [List.mem_map] at m;obtain⟨k,mk,rfl⟩:=m;have hk:=Qp (a:=a) (j:=j) (c:=b) (i:=k) (by omega) (List.mem_range.mp mk);have hp:0<=(k:Int) * b:=Int.mul_nonneg (by omega) (by omega);simp only [AL,AS,Bq,retS,nxS,ifS,SO.of,Ae,Aa,gc,fz,Ab,Ar,Ak,Am,Av,Jr,Bi,A1,Ee,A8,GD,Out.bnd,Out.bind,Jv,NG,okT,asB,HR,Ly,orT,ID,Option.map_some,Option.bind_some,Option.isSome_some,List.getElem?_cons_zero,List.getElem?_cons_succ,List.set_cons_zero,List.set_cons_succ,List.length_cons,List.length_nil,List.length_map,if_true,if_false,Bool.false_eq_true,FL.Bg,FL.putAt,FL.Sl.put,Sq ht (i:=a+(k:Int) * b) (by omega) (by omega)]) (by
   have:=Hc (a:=a) (j:=j) (c:=b) (by omega) a0 j1;unfold P4;rw [List.length_map,List.length_range];show 0+_<=1000000;omega)
 have e3:BW false [none,some 0] (QV (Ab (Aa 1) (Ab (Am HV (Ab (Am AY (Ab (Aa 0) Ak)) (Ab (gc (.int 63)) Ak))) (Ab (Aa 2) Ak)))) (tgN 0) DX (Ae AX (Aa 1) (fz (Aa 0))) (vl t :: iv a :: iv b :: more)=.ok (.t (.lst _)) (vl t :: iv a :: iv b :: more) :=
  Df e1 ⟨by rw [show CG (vl t :: iv a :: iv b :: more) _=[] from rfl];exact List.nodup_nil,by simp⟩ e2 (AO rfl)
 refine⟨(List.range (Builtin.Range.rangeSize a j b).toNat).map fun(k:Nat)=>ns.getD (a+(k:Int) * b).toNat 0,⟨by
  rw [List.length_map,List.length_range];exact Hc (a:=a) (j:=j) (c:=b) (by omega) a0 j1,fun z m=>by
  rw [List.mem_map] at m;obtain⟨k,_,rfl⟩:=m;exact⟨_,rfl⟩⟩,?_⟩
 have e4:(P4 a b (Builtin.Range.rangeSize a j b).toNat).map (fun t'=>match t' with | .int i=>T.int (ns.getD i.toNat 0) | _=>.non)=((List.range (Builtin.Range.rangeSize a j b).toNat).map fun(k:Nat)=>ns.getD (a+(k:Int) * b).toNat 0).map T.int:=by
  unfold P4;rw [List.map_map,List.map_map];rfl
 rw [List.nil_append,e4] at e3;simp only [Am,Ab,e3,Out.bnd,Out.bind,Ak,Q6,Dn,Option.bind_some,IB,okT]
theorem Nl{n:Nat}:∀t∈FL.upTo 0 n,∃i:Int,t=.int i:=fun t m=>by
 unfold FL.upTo at m;rw [List.mem_map] at m;obtain⟨k,_,rfl⟩:=m;exact⟨_,rfl⟩
theorem digits{t:T}{ns:List Int}(ht:IsI t ns){a b:Int}(a0:0<=a)(a1:a<=1000)(b0:1<=b)(b1:b<=1000) :
  ∃ds:List Int,ds.length=150/\Dc [vl t,iv a,iv b]=.ok (.nw (.lst (ds.map T.int))) [vl t,iv a,iv b]:=by
 obtain⟨zs,_,e1⟩:=drawn ht a0 a1 b0 b1 [none,none,none,none,none];generalize zs.sum=D at e1;have hloop:=DV (gt:=tgN 7) (body:=(AL (AS 5 (Ae BA (Ae AF (Ae AF (Ae Bp (Aa 5) (Aa 5)) (Aa 3)) (Aa 7)) (gc (.int 2147483629))))
  (AL (Bq (A8 Ea (Aa 4) (Ab (Ae BA (Ae AX (Av A1 (Ab (fz (Aa 6)) (Ab (Ae BA (Ae Bp (Aa 5) (Aa 5)) (gc (.int 2147483587))) Ak))) (Ae BA (Aa 3) (gc (.int 2)))) (gc (.int 1000003))) Ak)))
  (AS 6 (Ae C5 (Aa 6) (gc (.int 1000003)))))))
  (fun ts fs=>∃(ds:List Int) (f r:Int) (x:Option Sl),fs=[vl t,iv a,iv b,iv D,some (.own (.lst (ds.map T.int))),iv f,iv r,x]/\0<=f/\f < 2147483629/\ds.length+ts.length=150/\Fre x/\∀t∈ts,∃i:Int,t=.int i) (fun t' ts fs h=>?_) (FL.upTo 0 150) [vl t,iv a,iv b,iv D,some (.own (.lst [])),iv (D % 2147483629),iv (D / 2),none]
  ⟨[],_,_,_,rfl,Int.emod_nonneg _ (by decide),Int.emod_lt_of_pos _ (by decide),by simp [FL.upTo],AA,Nl⟩
 ·obtain⟨fs',ef,ds,f,r,x,rfl,_,_,hl,_,_⟩:=hloop
  refine⟨ds.reverse,by rw [List.length_reverse];simpa using hl,?_⟩;have s1:AS 3 (Am Q6 (Ab (BW false [none,some 0] (QV (Ab (Aa 1) (Ab (Am HV (Ab (Am AY (Ab (Aa 0) Ak)) (Ab (gc (.int 63)) Ak))) (Ab (Aa 2) Ak)))) (tgN 0) DX (Ae AX (Aa 1) (fz (Aa 0)))) Ak)) [vl t,iv a,iv b,none,none,none,none,none]=.nx [vl t,iv a,iv b,iv D,none,none,none,none]:=by
   unfold AS;rw [e1];rfl
  have s5:Eg (Fe (Ab (gc (.int 150)) Ak)) (tgN 7) (AL (AS 5 (Ae BA (Ae AF (Ae AF (Ae Bp (Aa 5) (Aa 5)) (Aa 3)) (Aa 7)) (gc (.int 2147483629))))
  (AL (Bq (A8 Ea (Aa 4) (Ab (Ae BA (Ae AX (Av A1 (Ab (fz (Aa 6)) (Ab (Ae BA (Ae Bp (Aa 5) (Aa 5)) (gc (.int 2147483587))) Ak))) (Ae BA (Aa 3) (gc (.int 2)))) (gc (.int 1000003))) Ak)))
  (AS 6 (Ae C5 (Aa 6) (gc (.int 1000003)))))) [vl t,iv a,iv b,iv D,some (.own (.lst [])),iv (D % 2147483629),iv (D / 2),none]=.nx [vl t,iv a,iv b,iv D,some (.own (.lst (ds.map T.int))),iv f,iv r,x]:=ef
  have all:EB [vl t,iv a,iv b,none,none,none,none,none]=.ret (.nw (.lst (ds.reverse.map T.int))) [vl t,iv a,iv b,iv D,some (.own (.lst (ds.map T.int))),iv f,iv r,x]:=by
   unfold EB;rw [AQ s1,AQ (show AS 4 (Av Ee Ak) [vl t,iv a,iv b,iv D,none,none,none,none]=.nx [vl t,iv a,iv b,iv D,some (.own (.lst [])),none,none,none] from rfl),
    AQ (show AS 5 (Ae BA (Aa 3) (gc (.int 2147483629))) [vl t,iv a,iv b,iv D,some (.own (.lst [])),none,none,none]=.nx [vl t,iv a,iv b,iv D,some (.own (.lst [])),iv (D % 2147483629),none,none] from rfl),
    AQ (show AS 6 (Ae C5 (Aa 3) (gc (.int 2))) [vl t,iv a,iv b,iv D,some (.own (.lst [])),iv (D % 2147483629),none,none]=.nx [vl t,iv a,iv b,iv D,some (.own (.lst [])),iv (D % 2147483629),iv (D / 2),none] from rfl),AQ s5]
   rw [List.map_reverse];rfl
  unfold Dc DK;show(match EB [vl t,iv a,iv b,none,none,none,none,none] with | .nx τ=>_ | .ret (.t t) τ=>_ | .ret (.nw o) τ=>_ | .ret (.rf i) τ=>_ | .exc c τ=>_ | _=>_)=_;rw [all];rfl
 ·obtain⟨ds,f,r,x,rfl,f0,f1,hl,hx,hi⟩:=h
  obtain⟨k,rfl⟩:=hi t' List.mem_cons_self;have hg:tgN 7 (.int k) [vl t,iv a,iv b,iv D,some (.own (.lst (ds.map T.int))),iv f,iv r,x]=some [vl t,iv a,iv b,iv D,some (.own (.lst (ds.map T.int))),iv f,iv r,iv k]:=by
   unfold tgN;rw [Ba (x:=x) rfl hx];rfl
  have eA:AS 5 (Ae BA (Ae AF (Ae AF (Ae Bp (Aa 5) (Aa 5)) (Aa 3)) (Aa 7)) (gc (.int 2147483629))) [vl t,iv a,iv b,iv D,some (.own (.lst (ds.map T.int))),iv f,iv r,iv k]=.nx [vl t,iv a,iv b,iv D,some (.own (.lst (ds.map T.int))),iv ((f * f+D+k) % 2147483629),iv r,iv k]:=by
   simp only [AL,AS,Bq,retS,nxS,ifS,SO.of,Ae,Aa,gc,fz,Ab,Ar,Ak,Am,Av,Jr,Bi,A1,Ee,A8,GD,Out.bnd,Out.bind,Jv,NG,okT,asB,HR,Ly,orT,ID,Option.map_some,Option.bind_some,Option.isSome_some,List.getElem?_cons_zero,List.getElem?_cons_succ,List.set_cons_zero,List.set_cons_succ,List.length_cons,List.length_nil,List.length_map,if_true,if_false,Bool.false_eq_true,FL.Bg,FL.putAt,FL.Sl.put,Hu (i:=f) (j:=f) ⟨by omega,by omega⟩,BR,Bz (show(0:Int) < 2147483629 by decide)]
  have f0':0<=(f * f+D+k) % 2147483629:=Int.emod_nonneg _ (by decide);have f1':(f * f+D+k) % 2147483629 < 2147483629:=Int.emod_lt_of_pos _ (by decide);generalize (f * f+D+k) % 2147483629=f' at eA f0' f1';have hz:∃z,atI [T.int r,T.int (f' * f' % 2147483587)] (D % 2)=some (T.int z):=by
   have h:D % 2=((0:Nat):Int)∨D % 2=((1:Nat):Int):=by omega
   rcases h with h | h
   ·rw [h];exact⟨r,A2 rfl⟩
   ·rw [h];exact⟨_,A2 rfl⟩
  obtain⟨z,ez⟩:=hz;have hlen:ds.length < big:=by
   simp at hl;show ds.length < 1000000;omega
  have eB:Bq (A8 Ea (Aa 4) (Ab (Ae BA (Ae AX (Av A1 (Ab (fz (Aa 6)) (Ab (Ae BA (Ae Bp (Aa 5) (Aa 5)) (gc (.int 2147483587))) Ak))) (Ae BA (Aa 3) (gc (.int 2)))) (gc (.int 1000003))) Ak)) [vl t,iv a,iv b,iv D,some (.own (.lst (ds.map T.int))),iv f',iv r,iv k]=.nx [vl t,iv a,iv b,iv D,some (.own (.lst ((ds++[z % 1000003]).map T.int))),iv f',iv r,iv k]:=by
   simp only [AL,AS,Bq,retS,nxS,ifS,SO.of,Ae,Aa,gc,fz,Ab,Ar,Ak,Am,Av,Jr,Bi,A1,Ee,A8,GD,Out.bnd,Out.bind,Jv,NG,okT,asB,HR,Ly,orT,ID,Option.map_some,Option.bind_some,Option.isSome_some,List.getElem?_cons_zero,List.getElem?_cons_succ,List.set_cons_zero,List.set_cons_succ,List.length_cons,List.length_nil,List.length_map,if_true,if_false,Bool.false_eq_true,FL.Bg,FL.putAt,FL.Sl.put,Hu (i:=f') (j:=f') ⟨by omega,by omega⟩,Bz (show(0:Int) < 2147483587 by decide),Bz (show(0:Int) < 2 by decide),A7 (x:=.t (.lst [T.int r,T.int (f' * f' % 2147483587)])) rfl ez,Bz (show(0:Int) < 1000003 by decide),Dn,Ea,hlen,show(0+1+1<=big) from by decide];simp
  have eC:AS 6 (Ae C5 (Aa 6) (gc (.int 1000003))) [vl t,iv a,iv b,iv D,some (.own (.lst ((ds++[z % 1000003]).map T.int))),iv f',iv r,iv k]=.nx [vl t,iv a,iv b,iv D,some (.own (.lst ((ds++[z % 1000003]).map T.int))),iv f',iv (r / 1000003),iv k]:=rfl;refine⟨_,_,hg,?_,ds++[z % 1000003],f',r / 1000003,iv k,rfl,f0',f1',by simp at hl ⊢;omega,AZ,fun t' m=>hi t' (List.mem_cons_of_mem _ m)⟩;rw [AQ eA,AQ eB];exact eC
def nmS(c:Int)(k:Nat):Str:=⟨(Nm.codes c k).toArray⟩
def nms(c:Int)(n:Nat):List Str:=(List.range n).map (nmS c)
def ABC:Str:="abcdefghijklmnopqrstuvwxyz"
theorem WS:∀j,j < 26->ABC.cps.toList[j]?=some (97+j):=by decide +kernel
theorem PV(x:Int):atI ABC.cps.toList (x % 26)=some (Nm.C8 x):=by
 have h:(x % 26).toNat < 26:=by omega
 have e:=A2 (WS _ h);rw [Int.toNat_of_nonneg (by omega)] at e;exact e
theorem Ik:∀ys:List Str,(Str.join (⟨#[]⟩:Str) ys).cps.toList=(ys.map fun y=>y.cps.toList).flatten
 | []=>rfl
 | [x]=>by simp [Str.join]
 | x :: y :: r=>by
  have ih:=Ik (y :: r);show(x++(⟨#[]⟩:Str)++Str.join ⟨#[]⟩ (y :: r)).cps.toList=_;show(x.cps++#[]++(Str.join ⟨#[]⟩ (y :: r)).cps).toList=_;rw [List.map_cons,List.flatten_cons,<- ih];simp
theorem join_ones(f:Nat->Nat)(js:List Nat):(Txt.join (⟨#[]⟩:Str) (js.map fun j=>(⟨#[f j]⟩:Str))).cps.toList=js.map f:=by
 show(Builtin.Str.glued _ _).cps.toList=_;rw [StrLaws.glued_eq_join,Ik]
 induction js with
 | nil=>rfl
 | cons j r ih =>
  rw [List.map_cons,List.map_cons,List.flatten_cons,ih,List.map_cons];rfl
theorem S7{x y:Str}(h:x.cps.toList=y.cps.toList):x=y:=by
 obtain⟨a⟩:=x;obtain⟨b⟩:=y;have:a=b:=by simpa using h
 rw [this]
theorem N8(c:Nat)(n:Int)(h0:1<=n):(Txt.mul (⟨#[c]⟩:Str) n).cps.toList=List.replicate n.toNat c:=by
 unfold Txt.mul;rw [if_neg (by omega)];by_cases h1:n=1
 ·subst h1
  rfl
 ·rw [if_neg (by simp [h1,Str.length])]
  have key:∀(m:Nat) (acc:Array Nat),((List.replicate m #[c]).foldl (·++·) acc).toList=acc.toList++List.replicate m c:=by
   intro m
   induction m with
   | zero=>intro acc;simp
   | succ m ih =>
    intro acc;rw [List.replicate_succ,List.foldl_cons,ih,List.replicate_succ];simp
  have:=key n.toNat #[];simpa using this
theorem Pg:Str.ofString ""=(⟨#[]⟩:Str):=by decide +kernel
theorem QF(f:Nat->Nat)(js:List Nat):((js.map fun j=>(⟨#[f j]⟩:Str)).map (·.length)).sum=js.length:=by
 induction js with
 | nil=>rfl
 | cons j r ih =>
  rw [List.map_cons,List.map_cons,List.sum_cons,ih,List.length_cons];show 1+r.length=_;omega
theorem LU(f:Nat->Nat)(js:List Nat):(Txt.join (⟨#[]⟩:Str) (js.map fun j=>(⟨#[f j]⟩:Str))).length=js.length:=by
 have e:=congrArg List.length (join_ones f js);rw [List.length_map] at e;rw [<- e];simp [Str.length]
def CN(c:Int)(n:Nat):List Str:=(List.range n).map fun j=>(⟨#[Nm.base c j]⟩:Str)
theorem Nc(c:Int)(n k:Nat)(h:k<=n):(CN c n).take k=CN c k:=by
 unfold CN;rw [<- List.map_take,List.take_range,Nat.min_eq_left h]
theorem Nd(c:Int)(n k:Nat):(CN c n).drop k=(List.range (n - k)).map fun j=>(⟨#[Nm.base c (k+j)]⟩:Str):=by
 unfold CN;rw [<- List.map_drop];apply List.ext_getElem?;intro i;rw [List.getElem?_map,List.getElem?_map,List.getElem?_drop];by_cases hi:k+i < n
 ·rw [List.getElem?_range hi,List.getElem?_range (by omega)]
  rfl
 ·rw [List.getElem?_eq_none (by simp;omega),List.getElem?_eq_none (by simp;omega)]
  rfl
theorem OQ{i j:Int}{fs:FS}(h:-(2 ^ 64) < j/\j < 2 ^ 64):Bp (.t (.int i)) (.t (.int j)) fs=.ok (.t (.int (i * j))) fs:=by
 have e:U0 (.t (.int i)) (.t (.int j)) fs=.ok (.t (.int (i * j))) fs:=if_pos (by rw [decide_eq_true h];simp);unfold Bp orG;rw [e]
theorem La{z:Str}{n:Int}{fs:FS}(h:z.length=1/\1<=n/\n<=1000):Bp (.t (.str z)) (.t (.int n)) fs=.ok (.t (.str (Txt.mul z n))) fs:=by
 have e:Rb (.t (.str z)) (.t (.int n)) fs=.ok (.t (.str (Txt.mul z n))) fs:=if_pos h;have e2:U0 (.t (.str z)) (.t (.int n)) fs=.bad:=rfl;unfold Bp orG;rw [e2];exact e
theorem OW{x y:Str}{fs:FS}(h:x.length+y.length<=big):AF (.t (.str x)) (.t (.str y)) fs=.ok (.t (.str (x++y))) fs:=by
 have e:Rc (.t (.str x)) (.t (.str y)) fs=.ok (.t (.str (x++y))) fs:=if_pos h;have e2:XX (.t (.str x)) (.t (.str y)) fs=.bad:=rfl;unfold AF orG;rw [e2];dsimp only;rw [e]
theorem LY{z:Str}{i:Int}{c:Nat}{fs:FS}(hz:z.length<=big)(e:atI z.cps.toList i=some c):AX (.t (.str z)) (.t (.int i)) fs=.ok (.t (.str ⟨#[c]⟩)) fs:=by
 have e':gIx (.t (.str z)) (.t (.int i)) fs=.ok (.t (.str ⟨#[c]⟩)) fs:=by
  simp only [gIx,Dn,hz,if_true,e,okT]
 unfold AX orG;rw [e']
theorem IA:∀xs:List Str,Dl (xs.map T.str)=some xs
 | []=>rfl
 | n :: ns=>by simp [Dl,IA ns]
theorem Kj{xs:List T}{v:Int}(h0:0<=v)(h1:v.toNat<=xs.length):P6 xs none (some v)=xs.take v.toNat:=by
 show(xs.drop 0).take ((if v < 0 then(v+(xs.length:Int)).toNat else min v.toNat xs.length) - 0)=_;rw [if_neg (by omega),Nat.min_eq_left h1];simp
theorem Pu{xs:List T}{v:Int}(h0:0<=v)(h1:v.toNat<=xs.length):P6 xs (some v) none=xs.drop v.toNat:=by
 show(xs.drop (if v < 0 then(v+(xs.length:Int)).toNat else min v.toNat xs.length)).take (xs.length - (if v < 0 then(v+(xs.length:Int)).toNat else min v.toNat xs.length))=_;rw [if_neg (by omega),Nat.min_eq_left h1];exact List.take_of_length_le (by rw [List.length_drop];omega)
theorem RH(c:Int):atI [T.int 1,T.int 3,T.int 5,T.int 7,T.int 9,T.int 11] (Nm.M c / 144 % 6)=some (T.int (Nm.step c)):=by
 have h:Nm.stepI c < 6:=by unfold Nm.stepI;omega
 have e:([T.int 1,T.int 3,T.int 5,T.int 7,T.int 9,T.int 11]:List T)[Nm.stepI c]?=some (T.int (Nm.step c)):=by
  unfold Nm.step;generalize Nm.stepI c=i at h
  match i,h with
  | 0,_=>rfl
  | 1,_=>rfl
  | 2,_=>rfl
  | 3,_=>rfl
  | 4,_=>rfl
  | 5,_=>rfl
 have e2:=A2 e;unfold Nm.stepI at e2;rwa [Int.toNat_of_nonneg (by omega)] at e2
theorem UQ:ABC.length<=big:=by decide +kernel
theorem T9{f:Nat->Nat}{js:List Nat}{fs:FS}(h:js.length<=1000):Hv (.t (.str ("":Str))) [.t (.lst ((js.map fun j=>(⟨#[f j]⟩:Str)).map T.str))] fs=.ok (.t (.str (Txt.join (⟨#[]⟩:Str) (js.map fun j=>(⟨#[f j]⟩:Str))))) fs:=by
 have e0:("":Str).length=0:=by decide +kernel
 simp only [Hv,Dn,Option.bind_some,IA,QF,e0,Nat.mul_zero,Nat.add_zero];rw [if_pos (show js.length<=big from Nat.le_trans h (by decide)),show("":Str)=(⟨#[]⟩:Str) from Pg];simp only [okT]
theorem Fw{j:Int}{fs:FS}{fa:FS->Out (List Rv)}(e:fa fs=.ok [.t (.int j)] fs)(h:-(2 ^ 62)<=j/\j < 2 ^ 62):Fe fa fs=.ok (FL.upTo 0 j.toNat) fs:=by
 unfold Fe;rw [e];simp only [Out.bind];exact if_pos h
theorem Ag{g:Rv->Rv->FS->Out Rv}{fa fb:FS->Out Rv}{fs:FS}{x y:T}{r:Out Rv}(h1:fa fs=.ok (.t x) fs)(h2:fb fs=.ok (.t y) fs)(h3:g (.t x) (.t y) fs=r):Ae g fa fb fs=r:=by
 unfold Ae;rw [h1];show(fb fs).bnd _=r;rw [h2];exact h3
theorem Ac{i:Nat}{fs:FS}{t:T}(h:fs[i]?=some (vl t)):Aa i fs=.ok (.t t) fs:=by unfold Aa;rw [h]
theorem AB{t:T}{fs:FS}:gc t fs=.ok (.t t) fs:=rfl
theorem XI{L:Str}(hL2:L.length<=big)(hL:∀x:Int,atI L.cps.toList (x % 26)=some (Nm.C8 x))(m:Int)(k:Nat)(hk:k < 12) :
  Ae AX (Aa 1) (Ae BA (Ae AF (Ae C5 (Aa 2) (Ae AF (Aa 0) (gc (.int 5)))) (Ae Bp (Aa 0) (Aa 0))) (gc (.int 26))) [iv (k:Int),vl (.str L),iv m]=.ok (.t (.str ⟨#[Nm.C8 (m / ((k:Int)+5)+(k:Int) * (k:Int))]⟩)) [iv (k:Int),vl (.str L),iv m] :=
 Ag (Ac rfl) (Ag (Ag (Ag (Ac rfl) (Ag (Ac rfl) AB BR) (Dj ⟨by omega,by omega⟩)) (Ag (Ac rfl) (Ac rfl) (Hu ⟨by omega,by omega⟩)) BR) AB (Bz (by decide))) (LY hL2 (hL _))
theorem Bb{i:Nat}{f:FS->Out Rv}{fs fs':FS}{t:T}(h:f fs=.ok (.t t) fs)(hs:Jv i (.t t) fs=some fs'):AS i f fs=.nx fs':=by
 unfold AS;rw [h];show(match Jv i (.t t) fs with | some fs=>SO.nx fs | none=>.bad)=_;rw [hs]
theorem Az{f:FS->Out Rv}{g:FS->Out (List Rv)}{fs:FS}{t:T}{rs:List Rv}(h1:f fs=.ok (.t t) fs)(h2:g fs=.ok rs fs):Ab f g fs=.ok (.t t :: rs) fs:=by
 unfold Ab;rw [h1];show(g fs).bind _=_;rw [h2];rfl
theorem AJ{f:FS->Out Rv}{fs:FS}{t:T}(h:f fs=.ok (.t t) fs):fz f fs=.ok (.t t) fs:=by
 unfold fz;rw [h];rfl
theorem Du{g:List Rv->FS->Out Rv}{fa:FS->Out (List Rv)}{fs:FS}{rs:List Rv}{r:Out Rv}(h:fa fs=.ok rs fs)(h2:g rs fs=r):Am g fa fs=r:=by
 unfold Am;rw [h];exact h2
theorem Ky{i:Nat}{f:FS->Out Rv}{fs fs':FS}{t:T}{ts:List T}(h0:fs[i]?=some (some (.own (.lst ts))))(h:f fs=.ok (.t t) fs)(hl:ts.length < big)(e:fs.set i (some (.own (.lst (ts++[t]))))=fs'):Bq (A8 Ea (Aa i) (Ab f Ak)) fs=.nx fs':=by
 have h1:Aa i fs=.ok (.rf i) fs:=by unfold Aa;rw [h0]
 have h2:FL.Bg fs i=some (.lst ts):=by unfold FL.Bg;rw [h0]
 have h3:Dn fs (.rf i)=some ts:=by simp only [Dn,h2]
 have h4:Ab f Ak fs=.ok [.t t] fs:=Az h rfl;have h5:Ea (.rf i) [.t t] fs=.ok (.t .non) fs':=by
  simp only [Ea,h2];rw [if_pos hl];have:FL.putAt fs i (.lst (ts++[t]))=fs':=by
   unfold FL.putAt;rw [h0];exact e
  rw [this]
 have h6:A8 Ea (Aa i) (Ab f Ak) fs=.ok (.t .non) fs':=by
  unfold A8;rw [h1];show(if(Dn fs (.rf i)).isSome=true then _ else _)=_;rw [h3,if_pos (show(some ts).isSome=true from rfl),h4];exact h5
 unfold Bq;rw [h6];rfl
theorem CH{c:FS->Out Bool}{g h:FS->SO}{fs:FS}{r:SO}(hc:c fs=.ok true fs)(e:g fs=r):ifS c g h fs=r:=by
 unfold ifS;rw [hc];exact e
theorem Bh{c:FS->Out Bool}{g h:FS->SO}{fs:FS}{r:SO}(hc:c fs=.ok false fs)(e:h fs=r):ifS c g h fs=r:=by
 unfold ifS;rw [hc];exact e
theorem FJ{fa fb:FS->Out Rv}{fs:FS}{i j:Int}(h1:fa fs=.ok (.t (.int i)) fs)(h2:fb fs=.ok (.t (.int j)) fs):asB (Ae (gEq false) fa fb) fs=.ok (decide (i=j)) fs:=by
 have e:gEq false (.t (.int i)) (.t (.int j)) fs=.ok (.t (.bl (decide (i=j)))) fs:=by
  have q:decide (V.int i=V.int j)=decide (i=j):=by
   by_cases h:i=j
   ·subst h;simp
   ·rw [decide_eq_false h,decide_eq_false (by intro z;cases z;exact h rfl)]
  show(if MC (V.int i) (V.int j)=true then okT (.bl (if false=true then _ else decide (V.int i=V.int j))) fs else .bad)=_;rw [if_pos (show MC (V.int i) (V.int j)=true from rfl),q];rfl
 unfold asB;rw [Ag h1 h2 e];rfl
theorem DR{fa:FS->Out (List Rv)}{fs:FS}{rs:List Rv}{ts:List T}(h:fa fs=.ok rs fs)(h2:Jr rs=some ts)(h3:ts.length<=big):Av A1 fa fs=.ok (.t (.lst ts)) fs:=by
 unfold Av;rw [h];show(match Jr rs with | some ts=>_ | none=>_)=_;rw [h2];exact if_pos h3
theorem Ql{f g:FS->Out Rv}{fs:FS}{ts:List T}{v:Int}(h1:f fs=.ok (.t (.lst ts)) fs)(h2:g fs=.ok (.t (.int v)) fs)(h0:0<=v)(hl:v.toNat<=ts.length):slF f noP (C7 g) fs=.ok (.t (.lst (ts.take v.toNat))) fs:=by
 unfold slF;rw [h1];show((C7 g) fs).bind _=_;unfold C7;rw [h2];simp only [Out.bnd,Out.bind];simp only [Sn,Dn,okT];rw [Kj h0 hl]
theorem Qm{f g:FS->Out Rv}{fs:FS}{ts:List T}{v:Int}(h1:f fs=.ok (.t (.lst ts)) fs)(h2:g fs=.ok (.t (.int v)) fs)(h0:0<=v)(hl:v.toNat<=ts.length):slF f (C7 g) noP fs=.ok (.t (.lst (ts.drop v.toNat))) fs:=by
 unfold slF;rw [h1];show((C7 g) fs).bind _=_;unfold C7;rw [h2];simp only [Out.bnd,Out.bind,noP];simp only [Sn,Dn,okT];rw [Pu h0 hl]
theorem LV{f:FS->Out Rv}{fs:FS}{g:Nat->Nat}{js:List Nat}(h:f fs=.ok (.t (.lst ((js.map fun j=>(⟨#[g j]⟩:Str)).map T.str))) fs)(hl:js.length<=1000):fz (GD Hv (gc (.str ("":Str))) (Ab f Ak)) fs=.ok (.t (.str (Txt.join (⟨#[]⟩:Str) (js.map fun j=>(⟨#[g j]⟩:Str))))) fs:=by
 refine AJ ?_;have h2:=Az h (show Ak fs=.ok [] fs from rfl);unfold GD gc;show((Ab f Ak fs).bind _)=_;rw [h2];exact T9 hl
theorem TY{L:Str}(hL2:L.length<=big)(hL:∀x:Int,atI L.cps.toList (x % 26)=some (Nm.C8 x)){c w:Int}(hw0:0<=w)(hw:w<=12)(m a:Int)(hm:m=Nm.M c)(x0 x1 x6 x7 x8 x9 x10:Option Sl) :
  BW false [none,some 2,some 3] (Fe (Ab (Aa 4) Ak)) (tgN 0) DX (Ae AX (Aa 1) (Ae BA (Ae AF (Ae C5 (Aa 2) (Ae AF (Aa 0) (gc (.int 5)))) (Ae Bp (Aa 0) (Aa 0))) (gc (.int 26)))) [x0,x1,vl (.str L),iv m,iv w,iv a,x6,x7,x8,x9,x10]=.ok (.t (.lst ((CN c w.toNat).map T.str))) [x0,x1,vl (.str L),iv m,iv w,iv a,x6,x7,x8,x9,x10]:=by
 have e1:=Fw (fa:=Ab (Aa 4) Ak) (fs:=[x0,x1,vl (.str L),iv m,iv w,iv a,x6,x7,x8,x9,x10]) (j:=w) (Az (Ac rfl) rfl) ⟨by omega,by omega⟩;obtain⟨y,hy,e2⟩:=Ez (fe:=Ae AX (Aa 1) (Ae BA (Ae AF (Ae C5 (Aa 2) (Ae AF (Aa 0) (gc (.int 5)))) (Ae Bp (Aa 0) (Aa 0))) (gc (.int 26)))) (f:=fun t'=>match t' with | .int i=>.str ⟨#[Nm.C8 (m / (i+5)+i * i)]⟩ | _=>.non) (rest:=[vl (.str L),iv m]) (FL.upTo 0 w.toNat) none [] AA (fun t' mt=>by
   unfold FL.upTo at mt;rw [List.mem_map] at mt;obtain⟨k,mk,rfl⟩:=mt;have hk:=List.mem_range.mp mk;rw [Int.zero_add];exact XI hL2 hL m k (by omega)) (by
   unfold FL.upTo;rw [List.length_map,List.length_range];show 0+_<=1000000;omega)
 have e3:=Df (src:=[none,some 2,some 3]) e1 ⟨by rw [show CG [x0,x1,vl (.str L),iv m,iv w,iv a,x6,x7,x8,x9,x10] _=[] from rfl];exact List.nodup_nil,by rfl⟩ e2 (AO rfl);rw [e3,List.nil_append];have e4:(FL.upTo 0 w.toNat).map (fun t'=>match t' with | .int i=>T.str ⟨#[Nm.C8 (m / (i+5)+i * i)]⟩ | _=>.non)=(CN c w.toNat).map T.str:=by
  subst hm;unfold FL.upTo CN;rw [List.map_map,List.map_map];refine List.map_congr_left fun k _=>?_
  simp only [Function.comp_apply,Int.zero_add,Nm.base]
 rw [e4]
theorem TV{L:Str}(hL2:L.length<=big)(hL:∀x:Int,atI L.cps.toList (x % 26)=some (Nm.C8 x)){c m w a st n:Int}{i:Nat}(hm:m=Nm.M c)(hw:w=Nm.W c)(ha:a=Nm.At c)(hst:st=Nm.step c)(hi:i < 12)(x10:Option Sl)(hx:Fre x10) :
  ∃y10,Fre y10/\(AL (AS 10 (Ae AX (Aa 2) (Ae BA (Ae AF (Ae C5 (Aa 3) (gc (.int 864))) (Ae Bp (Aa 9) (Aa 7))) (gc (.int 26)))))
  (ifS (asB (Ae (gEq false) (Ae BA (Ae C5 (Aa 3) (gc (.int 900))) (gc (.int 3))) (gc (.int 1)))) (Bq (A8 Ea (Aa 8) (Ab (Ae Bp (Ae AX (Aa 6) (gc (.int 0))) (Ae AF (Ae BA (Ae AF (Aa 9) (Ae C5 (Aa 3) (gc (.int 7)))) (gc (.int 12))) (gc (.int 1)))) Ak))) (Bq (A8 Ea (Aa 8) (Ab (Ae AF (Ae AF (fz (GD Hv (gc (.str ("":Str))) (Ab (slF (Aa 6) noP (C7 (Aa 5))) Ak))) (Aa 10)) (fz (GD Hv (gc (.str ("":Str))) (Ab (slF (Aa 6) (C7 (Ae AF (Aa 5) (gc (.int 1)))) noP) Ak)))) Ak)))))
   [iv c,iv n,vl (.str L),iv m,iv w,iv a,vl (.lst ((CN c w.toNat).map T.str)),iv st,some (.own (.lst ((nms c i).map T.str))),iv (i:Int),x10] =
   .nx [iv c,iv n,vl (.str L),iv m,iv w,iv a,vl (.lst ((CN c w.toNat).map T.str)),iv st,some (.own (.lst ((nms c (i+1)).map T.str))),iv (i:Int),y10]:=by
 have w0:=Nm.WT c;have w1:=Nm.X7 c;have a0:=Nm.WU c;have a1:=Nm.WV c;rw [<- hw] at w0 w1 a1;rw [<- ha] at a0 a1;have hs:-20 < st/\st < 20:=by rw [hst];rcases Nm.LB c with e | e | e | e | e | e <;> omega
 have e10:Nm.one c i=Nm.C8 (m / 864+(i:Int) * st):=by rw [hm,hst];rfl
 have elen:((nms c i).map T.str).length < big:=by
  unfold nms;rw [List.length_map,List.length_map,List.length_range];show i < 1000000;omega
 have enm:∀z:Str,z.cps.toList=Nm.codes c i->(nms c i).map T.str++[T.str z]=(nms c (i+1)).map T.str:=fun z ez=>by
  unfold nms;rw [List.range_succ,List.map_append,List.map_append];have:z=nmS c i:=S7 (by rw [ez];simp [nmS]);rw [this];rfl
 refine⟨vl (.str ⟨#[Nm.one c i]⟩),AZ,?_⟩;have s1:AS 10 (Ae AX (Aa 2) (Ae BA (Ae AF (Ae C5 (Aa 3) (gc (.int 864))) (Ae Bp (Aa 9) (Aa 7))) (gc (.int 26)))) [iv c,iv n,vl (.str L),iv m,iv w,iv a,vl (.lst ((CN c w.toNat).map T.str)),iv st,some (.own (.lst ((nms c i).map T.str))),iv (i:Int),x10] =
   .nx [iv c,iv n,vl (.str L),iv m,iv w,iv a,vl (.lst ((CN c w.toNat).map T.str)),iv st,some (.own (.lst ((nms c i).map T.str))),iv (i:Int),vl (.str ⟨#[Nm.one c i]⟩)]:=by
  rw [e10];exact Bb (Ag (Ac rfl) (Ag (Ag (Ag (Ac rfl) AB (Dj ⟨by decide,by decide⟩)) (Ag (Ac rfl) (Ac rfl) (Hu ⟨by omega,by omega⟩)) BR) AB (Bz (by decide))) (LY hL2 (hL _))) (Ba rfl hx)
 rw [AQ s1];have hc:=FJ (fa:=Ae BA (Ae C5 (Aa 3) (gc (.int 900))) (gc (.int 3))) (fb:=gc (.int 1)) (fs:=[iv c,iv n,vl (.str L),iv m,iv w,iv a,vl (.lst ((CN c w.toNat).map T.str)),iv st,some (.own (.lst ((nms c i).map T.str))),iv (i:Int),vl (.str ⟨#[Nm.one c i]⟩)])
  (Ag (Ag (Ac (t:=.int m) rfl) AB (Dj ⟨by decide,by decide⟩)) AB (Bz (by decide))) AB
 by_cases h1:m / 900 % 3=1
 ·rw [decide_eq_true h1] at hc
  have hwn:0 < w.toNat:=by omega
  have eb:((CN c w.toNat).map T.str)[0]?=some (T.str ⟨#[Nm.base c 0]⟩):=by
   unfold CN;rw [List.map_map,List.getElem?_map,List.getElem?_range hwn];rfl
  refine CH hc (Ky (t:=.str (Txt.mul ⟨#[Nm.base c 0]⟩ (((i:Int)+m / 7) % 12+1))) rfl (Ag (Ag (Ac rfl) AB (A7 (i:=0) rfl (A2 eb))) (Ag (Ag (Ag (Ac rfl) (Ag (Ac rfl) AB (Dj ⟨by decide,by decide⟩)) BR) AB (Bz (by decide))) AB BR) (La ⟨rfl,by omega,by omega⟩)) elen ?_);rw [enm _ (by rw [N8 _ _ (by omega),Nm.codes,<- hm,if_pos h1,Nm.Km,<- hm])];rfl
 ·rw [decide_eq_false h1] at hc
  have el:((CN c w.toNat).map T.str).length=w.toNat:=by unfold CN;rw [List.length_map,List.length_map,List.length_range]
  have et:((CN c w.toNat).map T.str).take a.toNat=((List.range a.toNat).map fun j=>(⟨#[Nm.base c j]⟩:Str)).map T.str:=by
   rw [<- List.map_take,Nc c _ _ (by omega)];rfl
  have ed:((CN c w.toNat).map T.str).drop (a+1).toNat=((List.range (w.toNat - (a+1).toNat)).map fun j=>(⟨#[Nm.base c ((a+1).toNat+j)]⟩:Str)).map T.str:=by
   rw [<- List.map_drop,Nd]
  have j1:=Ql (f:=Aa 6) (g:=Aa 5) (fs:=[iv c,iv n,vl (.str L),iv m,iv w,iv a,vl (.lst ((CN c w.toNat).map T.str)),iv st,some (.own (.lst ((nms c i).map T.str))),iv (i:Int),vl (.str ⟨#[Nm.one c i]⟩)]) (Ac rfl) (Ac (t:=.int a) rfl) a0 (by rw [el];omega);have j2:=Qm (f:=Aa 6) (g:=Ae AF (Aa 5) (gc (.int 1))) (fs:=[iv c,iv n,vl (.str L),iv m,iv w,iv a,vl (.lst ((CN c w.toNat).map T.str)),iv st,some (.own (.lst ((nms c i).map T.str))),iv (i:Int),vl (.str ⟨#[Nm.one c i]⟩)]) (v:=a+1) (Ac rfl) (Ag (Ac (t:=.int a) rfl) AB BR) (by omega) (by rw [el];omega);rw [et] at j1;rw [ed] at j2;have l1:(Txt.join (⟨#[]⟩:Str) ((List.range a.toNat).map fun j=>(⟨#[Nm.base c j]⟩:Str))).length=a.toNat:=by rw [LU,List.length_range]
  have l2:(Txt.join (⟨#[]⟩:Str) ((List.range (w.toNat - (a+1).toNat)).map fun j=>(⟨#[Nm.base c ((a+1).toNat+j)]⟩:Str))).length=w.toNat - (a+1).toNat:=by
   rw [LU (fun j=>Nm.base c ((a+1).toNat+j)),List.length_range]
  refine Bh hc (Ky (t:=.str ((Txt.join (⟨#[]⟩:Str) ((List.range a.toNat).map fun j=>(⟨#[Nm.base c j]⟩:Str))++(⟨#[Nm.one c i]⟩:Str))++Txt.join (⟨#[]⟩:Str) ((List.range (w.toNat - (a+1).toNat)).map fun j=>(⟨#[Nm.base c ((a+1).toNat+j)]⟩:Str)))) rfl (Ag (Ag (LV j1 (by rw [List.length_range];omega)) (Ac rfl) (OW ?_)) (LV (g:=fun j=>Nm.base c ((a+1).toNat+j)) j2 (by rw [List.length_range];omega)) (OW ?_)) elen ?_)
  ·rw [l1]
   show a.toNat+1<=1000000;omega
  ·rw [strLen_append,l1,l2]
   show a.toNat+1+_<=1000000;omega
  ·rw [enm _ ?_]
   ·rfl
   ·have q1:=join_ones (Nm.base c) (List.range a.toNat)
    have q2:=join_ones (fun j=>Nm.base c ((a+1).toNat+j)) (List.range (w.toNat - (a+1).toNat));have ea:(a+1).toNat=a.toNat+1:=by omega
    show(((Txt.join (⟨#[]⟩:Str) _).cps++#[Nm.one c i])++(Txt.join (⟨#[]⟩:Str) _).cps).toList=_;rw [Array.toList_append,Array.toList_append,q1,q2,Nm.codes,<- hm,if_neg h1,Nm.Iu,<- ha,<- hw,ea]
theorem Hx{n:Nat}{fa:FS->Out (List Rv)}{gt:T->FS->Option FS}{body:FS->SO}{fs:FS}{r:SO}(e:fa fs=.ok [.t (.int (n:Int))] fs)(h:n < 2 ^ 62)(ef:Dk gt body (FL.upTo 0 n) fs=r):Eg (Fe fa) gt body fs=r:=by
 unfold Eg;rw [Fw e ⟨by omega,by omega⟩,Int.toNat_natCast];exact ef
theorem ML{c:Int}{n:Nat}(hn:n<=12)(hb:Builtin.Int.intBits c<=2 ^ 20):∃x2 x3 x4 x5 x6 x7 x9 x10,FU [iv c,iv n,none,none,none,none,none,none,none,none,none]=.ret (.rf 8) [iv c,iv n,x2,x3,x4,x5,x6,x7,some (.own (.lst ((nms c n).map T.str))),x9,x10]:=by
 have hb':Builtin.Int.intBits c<=2 ^ 26:=Nat.le_trans hb (by decide);have w0:=Nm.WT c;have w1:=Nm.X7 c;have hL:∀x:Int,atI ("abcdefghijklmnopqrstuvwxyz":Str).cps.toList (x % 26)=some (Nm.C8 x):=PV;have hL2:("abcdefghijklmnopqrstuvwxyz":Str).length<=big:=UQ;unfold FU;generalize ("abcdefghijklmnopqrstuvwxyz":Str)=L at hL hL2;have s2:AS 2 (gc (.str L)) [iv c,iv n,none,none,none,none,none,none,none,none,none]=.nx [iv c,iv n,vl (.str L),none,none,none,none,none,none,none,none]:=Bb AB rfl;have s3:AS 3 (Ae Bp (Ae AF (Ae AF (Ae Bp (Aa 0) (Aa 0)) (Aa 0)) (gc (.int 1))) (gc (.int 982451653))) [iv c,iv n,vl (.str L),none,none,none,none,none,none,none,none]=.nx [iv c,iv n,vl (.str L),iv (Nm.M c),none,none,none,none,none,none,none]:=by
  unfold Nm.M;exact Bb (Ag (Ag (Ag (Ag (Ac rfl) (Ac rfl) (Lb ⟨hb',hb'⟩)) (Ac rfl) BR) AB BR) AB (OQ ⟨by decide,by decide⟩)) rfl
 generalize hm:Nm.M c=m at s3;have s4:AS 4 (Ae AF (gc (.int 1)) (Ae BA (Aa 3) (gc (.int 12)))) [iv c,iv n,vl (.str L),iv m,none,none,none,none,none,none,none]=.nx [iv c,iv n,vl (.str L),iv m,iv (Nm.W c),none,none,none,none,none,none]:=by
  unfold Nm.W;rw [hm];exact Bb (Ag AB (Ag (Ac rfl) AB (Bz (by decide))) BR) rfl
 generalize hw:Nm.W c=w at s4 w0 w1;have s5:AS 5 (Ae BA (Ae C5 (Aa 3) (gc (.int 12))) (Aa 4)) [iv c,iv n,vl (.str L),iv m,iv w,none,none,none,none,none,none]=.nx [iv c,iv n,vl (.str L),iv m,iv w,iv (Nm.At c),none,none,none,none,none]:=by
  unfold Nm.At;rw [hm,hw];exact Bb (Ag (Ag (Ac rfl) AB (Dj ⟨by decide,by decide⟩)) (Ac rfl) (Bz (by omega))) rfl
 generalize ha:Nm.At c=a at s5;have s6:=Bb (i:=6) (fs':=[iv c,iv n,vl (.str L),iv m,iv w,iv a,vl (.lst ((CN c w.toNat).map T.str)),none,none,none,none]) (TY hL2 hL (c:=c) (w:=w) (by omega) w1 m a hm.symm (iv c) (iv n) none none none none none) rfl;have s7:AS 7 (Ae AX (Av A1 (Ab (gc (.int 1)) (Ab (gc (.int 3)) (Ab (gc (.int 5)) (Ab (gc (.int 7)) (Ab (gc (.int 9)) (Ab (gc (.int 11)) Ak))))))) (Ae BA (Ae C5 (Aa 3) (gc (.int 144))) (gc (.int 6)))) [iv c,iv n,vl (.str L),iv m,iv w,iv a,vl (.lst ((CN c w.toNat).map T.str)),none,none,none,none]=.nx [iv c,iv n,vl (.str L),iv m,iv w,iv a,vl (.lst ((CN c w.toNat).map T.str)),iv (Nm.step c),none,none,none]:=by
  have e:=RH c;rw [hm] at e;exact Bb (Ag (DR rfl rfl (by decide)) (Ag (Ag (Ac rfl) AB (Dj ⟨by decide,by decide⟩)) AB (Bz (by decide))) (A7 rfl e)) rfl
 generalize hst:Nm.step c=st at s7;have s8:AS 8 (Av Ee Ak) [iv c,iv n,vl (.str L),iv m,iv w,iv a,vl (.lst ((CN c w.toNat).map T.str)),iv st,none,none,none]=.nx [iv c,iv n,vl (.str L),iv m,iv w,iv a,vl (.lst ((CN c w.toNat).map T.str)),iv st,some (.own (.lst [])),none,none]:=rfl;have hloop:=DV (gt:=tgN 9) (body:=(AL (AS 10 (Ae AX (Aa 2) (Ae BA (Ae AF (Ae C5 (Aa 3) (gc (.int 864))) (Ae Bp (Aa 9) (Aa 7))) (gc (.int 26)))))
  (ifS (asB (Ae (gEq false) (Ae BA (Ae C5 (Aa 3) (gc (.int 900))) (gc (.int 3))) (gc (.int 1)))) (Bq (A8 Ea (Aa 8) (Ab (Ae Bp (Ae AX (Aa 6) (gc (.int 0))) (Ae AF (Ae BA (Ae AF (Aa 9) (Ae C5 (Aa 3) (gc (.int 7)))) (gc (.int 12))) (gc (.int 1)))) Ak))) (Bq (A8 Ea (Aa 8) (Ab (Ae AF (Ae AF (fz (GD Hv (gc (.str ("":Str))) (Ab (slF (Aa 6) noP (C7 (Aa 5))) Ak))) (Aa 10)) (fz (GD Hv (gc (.str ("":Str))) (Ab (slF (Aa 6) (C7 (Ae AF (Aa 5) (gc (.int 1)))) noP) Ak)))) Ak))))))
  (fun ts fs=>∃(i:Nat) (x9 x10:Option Sl),fs=[iv c,iv n,vl (.str L),iv m,iv w,iv a,vl (.lst ((CN c w.toNat).map T.str)),iv st,some (.own (.lst ((nms c i).map T.str))),x9,x10]/\Fre x9/\Fre x10/\i<=n/\ts=(FL.upTo 0 n).drop i) (fun t' ts fs h=>?_) (FL.upTo 0 n) [iv c,iv n,vl (.str L),iv m,iv w,iv a,vl (.lst ((CN c w.toNat).map T.str)),iv st,some (.own (.lst [])),none,none]
  ⟨0,none,none,rfl,AA,AA,Nat.zero_le _,rfl⟩
 ·obtain⟨fs',ef,i,x9,x10,rfl,_,_,hi,hd⟩:=hloop
  have hi2:i=n:=by
   have:=congrArg List.length hd;simp [FL.upTo] at this;omega
  subst hi2;refine⟨vl (.str L),iv m,iv w,iv a,vl (.lst ((CN c w.toNat).map T.str)),iv st,x9,x10,?_⟩;rw [AQ s2,AQ s3,AQ s4,AQ s5,AQ s6,AQ s7,AQ s8];rw [AQ (Hx (n:=i) (fa:=Ab (Aa 1) Ak) (Az (Ac rfl) rfl) (by omega) ef)];rfl
 ·obtain⟨i,x9,x10,rfl,f9,f10,hi,hd⟩:=h
  have hlt:i < n:=by
   have:=congrArg List.length hd;simp [FL.upTo] at this;omega
  have hc:=List.drop_eq_getElem_cons (l:=FL.upTo 0 n) (i:=i) (by simp [FL.upTo];exact hlt);rw [hc] at hd;obtain⟨e1,e2⟩:=List.cons.inj hd;have e3:t'=T.int (i:Int):=by
   rw [e1];simp [FL.upTo]
  subst e3;obtain⟨y10,fy,e⟩:=TV hL2 hL (c:=c) (m:=m) (w:=w) (a:=a) (st:=st) (n:=n) (i:=i) hm.symm hw.symm ha.symm hst.symm (by omega) x10 f10;exact⟨_,_,(by unfold tgN;exact Ba rfl f9),e,i+1,_,_,rfl,AZ,fy,hlt,e2⟩
theorem names{c:Int}{n:Nat}(hn:n<=12)(hb:Builtin.Int.intBits c<=2 ^ 20):CL [iv c,iv n]=.ok (.nw (.lst ((nms c n).map T.str))) [iv c,iv n]:=by
 obtain⟨x2,x3,x4,x5,x6,x7,x9,x10,e⟩:=ML hn hb;unfold CL DK;show(match FU [iv c,iv n,none,none,none,none,none,none,none,none,none] with | .nx τ=>_ | .ret (.t t) τ=>_ | .ret (.nw o) τ=>_ | .ret (.rf i) τ=>_ | .exc c τ=>_ | _=>_)=_;rw [e];rfl
theorem Lr(ns:List Int)(k:Nat):Bt [vl (.scr (ns.map T.int)),iv k]=.ok (.t (.int (ns.getD k 0))) [vl (.scr (ns.map T.int)),iv k]:=by
 have hl:asB (Ae gLt (Aa 1) (Am AY (Ab (Aa 0) Ak))) [vl (.scr (ns.map T.int)),iv k]=.ok (decide ((k:Int) < ((ns.map T.int).length:Int))) [vl (.scr (ns.map T.int)),iv k]:=rfl;unfold Bt DK;show(match D8 [vl (.scr (ns.map T.int)),iv k] with | .nx τ=>_ | .ret (.t t) τ=>_ | .ret (.nw o) τ=>_ | .ret (.rf i) τ=>_ | .exc c τ=>_ | _=>_)=_;have e:D8 [vl (.scr (ns.map T.int)),iv k]=.ret (.t (.int (ns.getD k 0))) [vl (.scr (ns.map T.int)),iv k]:=by
  unfold D8;by_cases h:(k:Int) < ((ns.map T.int).length:Int)
  ·rw [decide_eq_true h] at hl
   have h':k < ns.length:=by rw [List.length_map] at h;omega
   have e2:retS (Ae AX (Aa 0) (fz (Aa 1))) [vl (.scr (ns.map T.int)),iv k]=.ret (.t (.int (ns.getD k 0))) [vl (.scr (ns.map T.int)),iv k]:=by
    have:=Ag (g:=AX) (fa:=Aa 0) (fb:=fz (Aa 1)) (fs:=[vl (.scr (ns.map T.int)),iv k]) (Ac rfl) (AJ (Ac rfl)) (Sq (ns:=ns) (i:=(k:Int)) (.inl rfl) (by omega) (by omega));unfold retS;rw [this,Int.toNat_natCast];rfl
   unfold AL;rw [CH hl e2]
  ·rw [decide_eq_false h] at hl
   have h':ns.length<=k:=by rw [List.length_map] at h;omega
   rw [AQ (Bh (h:=nxS) (fs:=[vl (.scr (ns.map T.int)),iv k]) (r:=.nx [vl (.scr (ns.map T.int)),iv k]) hl rfl)];have:ns.getD k 0=0:=by simp [List.getD,h']
   rw [this];rfl
 rw [e];rfl
theorem Gr{g:Rv->Rv->FS->Out Rv}{fa fb:FS->Out Rv}{fs fs1 fs2:FS}{x y:T}{r:Out Rv}(h1:fa fs=.ok (.t x) fs1)(h2:fb fs1=.ok (.t y) fs2)(h3:g (.t x) (.t y) fs2=r):Ae g fa fb fs=r:=by
 unfold Ae;rw [h1];show(fb fs1).bnd _=r;rw [h2];exact h3
theorem Eb{i:Nat}{f:FS->Out Rv}{fs fs1 fs':FS}{t:T}(h:f fs=.ok (.t t) fs1)(hs:Jv i (.t t) fs1=some fs'):AS i f fs=.nx fs':=by
 unfold AS;rw [h];show(match Jv i (.t t) fs1 with | some fs=>SO.nx fs | none=>.bad)=_;rw [hs]
theorem Dt{f:FS->Out Rv}{g:FS->Out (List Rv)}{fs fs1 fs2:FS}{t:T}{rs:List Rv}(h1:f fs=.ok (.t t) fs1)(h2:g fs1=.ok rs fs2):Ab f g fs=.ok (.t t :: rs) fs2:=by
 unfold Ab;rw [h1];show(g fs1).bind _=_;rw [h2];rfl
theorem Lo{g:List T->FS->Out Rv}{fa:FS->Out (List Rv)}{fs fs1:FS}{rs:List Rv}{ts:List T}{r:Out Rv}(h:fa fs=.ok rs fs1)(h2:Jr rs=some ts)(h3:ts.length<=big)(e:g ts fs1=r):Av g fa fs=r:=by
 unfold Av;rw [h];show(match Jr rs with | some ts=>_ | none=>_)=_;rw [h2];exact(if_pos h3).trans e
theorem Ew{f:FS->Out Rv}{fs fs1:FS}{t:T}(h:f fs=.ok (.t t) fs1):fz f fs=.ok (.t t) fs1:=by
 unfold fz;rw [h];rfl
theorem KJ{i:Nat}{fs fs':FS}{t:T}{ts:List T}(h0:fs[i]?=some (some (.bor (.lst (ts++[t])))))(e:fs.set i (some (.bor (.lst ts)))=fs'):fz (A8 HU (Aa i) Ak) fs=.ok (.t t) fs':=by
 have h1:Aa i fs=.ok (.rf i) fs:=by unfold Aa;rw [h0]
 have h2:FL.Bg fs i=some (.lst (ts++[t])):=by unfold FL.Bg;rw [h0]
 have h3:Dn fs (.rf i)=some (ts++[t]):=by simp only [Dn,h2]
 have h5:HU (.rf i) [] fs=.ok (.t t) fs':=by
  have:FL.putAt fs i (.lst ts)=fs':=by
   unfold FL.putAt;rw [h0];exact e
  simp only [HU,h2,List.getLast?_concat,List.dropLast_concat,this,okT]
 refine Ew ?_;unfold A8;rw [h1];show(if(Dn fs (.rf i)).isSome=true then _ else _)=_;rw [h3,if_pos (show(some (ts++[t])).isSome=true from rfl)];exact h5
theorem Bk{f:FS->Out Rv}{fs fs1:FS}{r:Rv}(h:f fs=.ok r fs1):retS f fs=.ret r fs1:=by
 unfold retS;rw [h];rfl
theorem BC{g h:FS->SO}{fs fs':FS}{r:Rv}(e:g fs=.ret r fs'):AL g h fs=.ret r fs':=by unfold AL;rw [e]
theorem SM{names:List Str}{O:Nat}(hO:0 < O)(hl:O<=names.length)(z:Int):names.getD (z % (O:Int)).toNat ⟨#[]⟩∈names.take O/\atI (names.map T.str) (z % (O:Int))=some (T.str (names.getD (z % (O:Int)).toNat ⟨#[]⟩)):=by
 have h0:0<=z % (O:Int):=Int.emod_nonneg _ (by omega);have h1:z % (O:Int) < O:=Int.emod_lt_of_pos _ (by omega);have hi:(z % (O:Int)).toNat < O:=by omega
 have hi2:(z % (O:Int)).toNat < names.length:=by omega
 have e:names.getD (z % (O:Int)).toNat ⟨#[]⟩=names[(z % (O:Int)).toNat]:=by simp [List.getD,hi2]
 refine⟨?_,?_⟩
 ·rw [e]
  exact List.mem_take_iff_getElem.mpr ⟨(z % (O:Int)).toNat,by omega,rfl⟩
 ·have e2:(names.map T.str)[(z % (O:Int)).toNat]?=some (T.str (names.getD (z % (O:Int)).toNat ⟨#[]⟩)):=by
   rw [e,List.getElem?_map,List.getElem?_eq_getElem hi2];rfl
  have:=A2 e2;rwa [Int.toNat_of_nonneg h0] at this
def pick(z2 z3:Int)(i:Int):Int:=if i=0 then z2 else z3
theorem MG{names:List Str}{at':Int}{fi:T}{pu:List T}{q O:Nat}{z2 z3:Int}(hO:0 < O)(hl:O<=names.length)(hq:q<=2) :
  retS (Am FC (Ab (BW false [none,some 0,some 6,some 5] (Fe (Ab (Aa 4) Ak)) (tgN 0) DX (Ae AX (Aa 1) (Ae BA (Ae AX (Aa 3) (fz (Aa 0))) (Aa 2)))) Ak)) [vl (.lst (names.map T.str)),iv at',vl fi,some (.bor (.lst pu)),iv (q:Int),vl (.lst [.int z2,.int z3]),iv (O:Int)] =
   .ret (.t (.tup (((List.range q).map fun(k:Nat)=>names.getD (pick z2 z3 (k:Int) % (O:Int)).toNat ⟨#[]⟩).map T.str))) [vl (.lst (names.map T.str)),iv at',vl fi,some (.bor (.lst pu)),iv (q:Int),vl (.lst [.int z2,.int z3]),iv (O:Int)]:=by
 have e1:=Fw (fa:=Ab (Aa 4) Ak) (fs:=[vl (.lst (names.map T.str)),iv at',vl fi,some (.bor (.lst pu)),iv (q:Int),vl (.lst [.int z2,.int z3]),iv (O:Int)]) (j:=(q:Int)) (Az (Ac rfl) rfl) ⟨by omega,by omega⟩;rw [Int.toNat_natCast] at e1;obtain⟨y,hy,e2⟩:=Ez (fe:=Ae AX (Aa 1) (Ae BA (Ae AX (Aa 3) (fz (Aa 0))) (Aa 2))) (f:=fun t'=>match t' with | .int i=>.str (names.getD (pick z2 z3 i % (O:Int)).toNat ⟨#[]⟩) | _=>.non) (rest:=[vl (.lst (names.map T.str)),iv (O:Int),vl (.lst [.int z2,.int z3])]) (FL.upTo 0 q) none [] AA (fun t' mt=>by
   unfold FL.upTo at mt;rw [List.mem_map] at mt;obtain⟨k,mk,rfl⟩:=mt;have hk:=List.mem_range.mp mk;rw [Int.zero_add];have ep:atI [T.int z2,T.int z3] (k:Int)=some (T.int (pick z2 z3 (k:Int))):=by
    have:k=0∨k=1:=by omega
    rcases this with rfl | rfl
    ·exact A2 rfl
    ·exact A2 rfl
   exact Ag (Ac rfl) (Ag (Ag (Ac rfl) (AJ (Ac rfl)) (A7 rfl ep)) (Ac rfl) (Bz (by omega))) (A7 rfl (SM hO hl _).2)) (by
   unfold FL.upTo;rw [List.length_map,List.length_range];show 0+_<=1000000;omega)
 have e3:=Df (src:=[none,some 0,some 6,some 5]) e1 ⟨by rw [show CG [vl (.lst (names.map T.str)),iv at',vl fi,some (.bor (.lst pu)),iv (q:Int),vl (.lst [.int z2,.int z3]),iv (O:Int)] _=[] from rfl];exact List.nodup_nil,by rfl⟩ e2 (AO rfl);have e4:(FL.upTo 0 q).map (fun t'=>match t' with | .int i=>T.str (names.getD (pick z2 z3 i % (O:Int)).toNat ⟨#[]⟩) | _=>.non)=((List.range q).map fun(k:Nat)=>names.getD (pick z2 z3 (k:Int) % (O:Int)).toNat ⟨#[]⟩).map T.str:=by
  unfold FL.upTo;rw [List.map_map,List.map_map];refine List.map_congr_left fun k _=>?_
  simp only [Function.comp_apply,Int.zero_add]
 rw [List.nil_append,e4] at e3;exact Bk (Du (Az e3 rfl) rfl)
theorem parts{names:List Str}{at':Nat}{first:Bool}{pu:List T}{z1 z2 z3:Int}(hn:0 < names.length)(ha:at'<=names.length) :
  ∃ps:List Str,ps.length<=2/\(∀x∈ps,x∈names.take (if first=true then at' else names.length))/\Ce [vl (.lst (names.map T.str)),iv (at':Int),vl (.bl first),some (.bor (.lst (pu++[.int z3]++[.int z2]++[.int z1])))] =
   .ok (.t (.tup (ps.map T.str))) [vl (.lst (names.map T.str)),iv (at':Int),vl (.bl first),some (.bor (.lst pu))]:=by
 have hq:∃q:Nat,q<=2/\atI [T.int 0,T.int 1,T.int 1,T.int 2] (z1 % 4)=some (T.int (q:Int)):=by
  have h:z1 % 4=((0:Nat):Int)∨z1 % 4=((1:Nat):Int)∨z1 % 4=((2:Nat):Int)∨z1 % 4=((3:Nat):Int):=by omega
  rcases h with h | h | h | h <;> rw [h]
  ·exact⟨0,by omega,A2 rfl⟩
  ·exact⟨1,by omega,A2 rfl⟩
  ·exact⟨1,by omega,A2 rfl⟩
  ·exact⟨2,by omega,A2 rfl⟩
 obtain⟨q,hq,eq⟩:=hq;have s4:AS 4 (Ae AX (Av A1 (Ab (gc (.int 0)) (Ab (gc (.int 1)) (Ab (gc (.int 1)) (Ab (gc (.int 2)) Ak))))) (Ae BA (fz (A8 HU (Aa 3) Ak)) (gc (.int 4)))) [vl (.lst (names.map T.str)),iv (at':Int),vl (.bl first),some (.bor (.lst (pu++[.int z3]++[.int z2]++[.int z1]))),none,none,none] =
   .nx [vl (.lst (names.map T.str)),iv (at':Int),vl (.bl first),some (.bor (.lst (pu++[.int z3]++[.int z2]))),iv (q:Int),none,none] :=
  Eb (Gr (DR rfl rfl (by decide)) (Gr (KJ (ts:=pu++[.int z3]++[.int z2]) rfl rfl) AB (Bz (by decide))) (A7 rfl eq)) rfl
 have s5:AS 5 (Av A1 (Ab (fz (A8 HU (Aa 3) Ak)) (Ab (fz (A8 HU (Aa 3) Ak)) Ak))) [vl (.lst (names.map T.str)),iv (at':Int),vl (.bl first),some (.bor (.lst (pu++[.int z3]++[.int z2]))),iv (q:Int),none,none] =
   .nx [vl (.lst (names.map T.str)),iv (at':Int),vl (.bl first),some (.bor (.lst pu)),iv (q:Int),vl (.lst [.int z2,.int z3]),none] :=
  Eb (Lo (g:=A1) (Dt (KJ (ts:=pu++[.int z3]) rfl rfl) (Dt (KJ (ts:=pu) rfl rfl) rfl)) rfl (show 2<=big by decide) rfl) rfl
 have s6:AS 6 (Am AY (Ab (Aa 0) Ak)) [vl (.lst (names.map T.str)),iv (at':Int),vl (.bl first),some (.bor (.lst pu)),iv (q:Int),vl (.lst [.int z2,.int z3]),none] =
   .nx [vl (.lst (names.map T.str)),iv (at':Int),vl (.bl first),some (.bor (.lst pu)),iv (q:Int),vl (.lst [.int z2,.int z3]),iv (names.length:Int)]:=by
  have:((names.map T.str).length:Int)=(names.length:Int):=by rw [List.length_map]
  rw [<- this];rfl
 have s7:ifS (ID (Aa 2)) (AS 6 (fz (Aa 1))) nxS [vl (.lst (names.map T.str)),iv (at':Int),vl (.bl first),some (.bor (.lst pu)),iv (q:Int),vl (.lst [.int z2,.int z3]),iv (names.length:Int)] =
   .nx [vl (.lst (names.map T.str)),iv (at':Int),vl (.bl first),some (.bor (.lst pu)),iv (q:Int),vl (.lst [.int z2,.int z3]),iv ((if first=true then at' else names.length:Nat):Int)]:=by
  cases first <;> rfl
 have hOl:(if first=true then at' else names.length)<=names.length:=by split <;> omega
 generalize (if first=true then at' else names.length)=O at s7 hOl ⊢;have hc:=FJ (fa:=Aa 6) (fb:=gc (.int 0)) (fs:=[vl (.lst (names.map T.str)),iv (at':Int),vl (.bl first),some (.bor (.lst pu)),iv (q:Int),vl (.lst [.int z2,.int z3]),iv (O:Int)]) (i:=(O:Int)) (Ac rfl) AB;by_cases h0:(O:Int)=0
 ·rw [decide_eq_true h0] at hc
  refine⟨[],by simp,by simp,?_⟩;have all:DS [vl (.lst (names.map T.str)),iv (at':Int),vl (.bl first),some (.bor (.lst (pu++[.int z3]++[.int z2]++[.int z1]))),none,none,none]=.ret (.t (.tup [])) [vl (.lst (names.map T.str)),iv (at':Int),vl (.bl first),some (.bor (.lst pu)),iv (q:Int),vl (.lst [.int z2,.int z3]),iv (O:Int)]:=by
   unfold DS;rw [AQ s4,AQ s5,AQ s6,AQ s7];exact BC (CH hc rfl)
  unfold Ce DK;show(match DS [vl (.lst (names.map T.str)),iv (at':Int),vl (.bl first),some (.bor (.lst (pu++[.int z3]++[.int z2]++[.int z1]))),none,none,none] with | .nx τ=>_ | .ret (.t t) τ=>_ | .ret (.nw o) τ=>_ | .ret (.rf i) τ=>_ | .exc c τ=>_ | _=>_)=_;rw [all];rfl
 ·rw [decide_eq_false h0] at hc
  have hO:0 < O:=by omega
  refine⟨(List.range q).map fun(k:Nat)=>names.getD (pick z2 z3 (k:Int) % (O:Int)).toNat ⟨#[]⟩,by simpa using hq,fun x m=>?_,?_⟩
  ·rw [List.mem_map] at m
   obtain⟨k,_,rfl⟩:=m;exact(SM hO hOl _).1
  ·have all:DS [vl (.lst (names.map T.str)),iv (at':Int),vl (.bl first),some (.bor (.lst (pu++[.int z3]++[.int z2]++[.int z1]))),none,none,none]=.ret (.t (.tup (((List.range q).map fun(k:Nat)=>names.getD (pick z2 z3 (k:Int) % (O:Int)).toNat ⟨#[]⟩).map T.str))) [vl (.lst (names.map T.str)),iv (at':Int),vl (.bl first),some (.bor (.lst pu)),iv (q:Int),vl (.lst [.int z2,.int z3]),iv (O:Int)]:=by
    unfold DS;rw [AQ s4,AQ s5,AQ s6,AQ s7,AQ (Bh (h:=nxS) hc rfl)];exact MG hO hOl hq
   unfold Ce DK;show(match DS [vl (.lst (names.map T.str)),iv (at':Int),vl (.bl first),some (.bor (.lst (pu++[.int z3]++[.int z2]++[.int z1]))),none,none,none] with | .nx τ=>_ | .ret (.t t) τ=>_ | .ret (.nw o) τ=>_ | .ret (.rf i) τ=>_ | .exc c τ=>_ | _=>_)=_;rw [all];rfl
theorem WR:∀j,j < 26->(!(Builtin.Str.occurrences ABC ⟨#[97+j]⟩ 0 ABC.length 1).isEmpty)=true:=by decide +kernel
theorem HI:∀bs:List Bool,Eo (bs.map T.bl)=some bs
 | []=>rfl
 | b :: bs=>by simp [Eo,HI bs]
theorem Wh{x y:Str}{fs:FS}:D5 false (.t (.str x)) (.t (.str y)) fs=.ok (.t (.bl (!(Builtin.Str.occurrences y x 0 y.length 1).isEmpty))) fs:=rfl
theorem MT{z:Str}(h0:1<=z.length)(h1:z.length<=12)(hl:∀x∈z.cps.toList,97<=x/\x<=122):Bj [vl (.str z)]=.ok (.t (.bl true)) [vl (.str z)]:=by
 have hin:∀x,97<=x/\x<=122->(!(Builtin.Str.occurrences ("abcdefghijklmnopqrstuvwxyz":Str) ⟨#[x]⟩ 0 ("abcdefghijklmnopqrstuvwxyz":Str).length 1).isEmpty)=true:=fun x hx=>by
  have:=WR (x - 97) (by omega);rwa [show 97+(x - 97)=x by omega] at this
 have hlen:Am AY (Ab (Aa 0) Ak) [vl (.str z)]=.ok (.t (.int z.length)) [vl (.str z)]:=by
  have e:Lc [.t (.str z)] [vl (.str z)]=.ok (.t (.int z.length)) [vl (.str z)]:=if_pos (show z.length<=1000000 by omega);refine Du (Az (Ac rfl) rfl) ?_;unfold AY orC;show(match orC Lc OT [.t (.str z)] [vl (.str z)] with | o=>o)=_;unfold orC;rw [e]
 have hc:HR (asB (chain gLe gLe (gc (.int 1)) (Am AY (Ab (Aa 0) Ak)) (gc (.int 12)))) [vl (.str z)]=.ok false [vl (.str z)]:=by
  have e1:gLe (.t (.int 1)) (.t (.int z.length)) [vl (.str z)]=.ok (.t (.bl true)) [vl (.str z)]:=by
   show okT (.bl (decide ((1:Int)<=z.length))) _=_;rw [decide_eq_true (by omega)];rfl
  have e2:gLe (.t (.int z.length)) (.t (.int 12)) [vl (.str z)]=.ok (.t (.bl true)) [vl (.str z)]:=by
   show okT (.bl (decide ((z.length:Int)<=12))) _=_;rw [decide_eq_true (by omega)];rfl
  simp only [HR,asB,chain,gc,Out.bnd,Out.bind,hlen,e1,e2,Bool.not_true]
 unfold Bj DK;show(match DI [vl (.str z)] with | .nx τ=>_ | .ret (.t t) τ=>_ | .ret (.nw o) τ=>_ | .ret (.rf i) τ=>_ | .exc c τ=>_ | _=>_)=_;have all:DI [vl (.str z)]=.ret (.t (.bl true)) [vl (.str z)]:=by
  unfold DI;generalize ("abcdefghijklmnopqrstuvwxyz":Str)=L at hin;rw [AQ (Bh (h:=nxS) hc rfl)];have e1:itU (fz (Aa 0)) [vl (.str z)]=.ok (signs z) [vl (.str z)]:=rfl;obtain⟨y,hy,e2⟩:=Ez (fe:=Ae (D5 false) (fz (Aa 0)) (gc (.str L))) (f:=fun _=>.bl true) (rest:=[]) (signs z) none [] AA (fun t' mt=>by
    unfold signs at mt;rw [List.mem_map] at mt;obtain⟨x,mx,rfl⟩:=mt;refine Ag (AJ (Ac rfl)) AB ?_;rw [Wh,hin x (hl x mx)]) (by
    unfold signs;rw [List.length_map,Array.length_toList];show 0+z.length<=1000000;omega)
  have e3:=Df (src:=[none]) e1 ⟨by rw [show CG [vl (.str z)] _=[] from rfl];exact List.nodup_nil,by rfl⟩ e2 (AO rfl);have e4:(signs z).map (fun _=>T.bl true)=((signs z).map fun _=>true).map T.bl:=by rw [List.map_map];rfl
  rw [List.nil_append,e4] at e3;refine Bk (Du (Az e3 rfl) ?_);simp only [U1,Dn,Option.bind_some,HI,okT];congr 3;simp
 rw [all];rfl
theorem Il(c:Int)(k:Nat):Bj [vl (.str (nmS c k))]=.ok (.t (.bl true)) [vl (.str (nmS c k))]:=by
 refine MT ?_ ?_ ?_
 ·show 1<=(Nm.codes c k).toArray.size
  rw [List.size_toArray];exact Nm.Ru c k
 ·show(Nm.codes c k).toArray.size<=12
  rw [List.size_toArray];exact Nm.Mg c k
 ·intro x hx
  exact Nm.FN c k x (by simpa [nmS] using hx)
theorem TZ{c:Int}{k k':Nat}(hk:k < 12)(hk':k' < 12)(h:nmS c k=nmS c k'):k=k':=by
 refine Nm.Px (c:=c) hk hk' ?_;have:=congrArg (fun s:Str=>s.cps.toList) h;simpa [nmS] using this
theorem As{f:FS->Out Rv}{g:FS->Out (List Rv)}{fs fs1 fs2:FS}{r:Rv}{rs:List Rv}(h1:f fs=.ok r fs1)(h2:g fs1=.ok rs fs2):Ar f g fs=.ok (r :: rs) fs2:=by
 unfold Ar;rw [h1];show(g fs1).bind _=_;rw [h2];rfl
theorem ES{p:Nat}{Fn:FS->Out Rv}{fa:FS->Out (List Rv)}{fs fs1 fs' τ:FS}{rs:List Rv}{t:T}(ha:fa fs=.ok rs fs1)(hp:rs.length=p)(hn:(CG fs1 (rs.map BQ)).Nodup)(hf:Fn (Dp fs1 (rs.map BQ))=.ok (.t t) τ)(hb:En (rs.map BQ) τ fs1=some fs') :
  Am (AD p Fn) fa fs=.ok (.t t) fs':=by
 unfold Am;rw [ha];show AD p Fn rs fs1=_;unfold AD;rw [if_pos hp];unfold HF;rw [if_pos hn,hf];dsimp only;rw [hb]
theorem ET{p:Nat}{Fn:FS->Out Rv}{fa:FS->Out (List Rv)}{fs fs1 fs' τ:FS}{rs:List Rv}{o:FO}(ha:fa fs=.ok rs fs1)(hp:rs.length=p)(hn:(CG fs1 (rs.map BQ)).Nodup)(hf:Fn (Dp fs1 (rs.map BQ))=.ok (.nw o) τ)(hb:En (rs.map BQ) τ fs1=some fs') :
  Am (AD p Fn) fa fs=.ok (.nw o) fs':=by
 unfold Am;rw [ha];show AD p Fn rs fs1=_;unfold AD;rw [if_pos hp];unfold HF;rw [if_pos hn,hf];dsimp only;rw [hb]
theorem SS{i:Nat}{f:FS->Out Rv}{fs fs1 fs':FS}{t:T}{us ts:List T}(h0:fs[i]?=some (some (.own (.lst us))))(h:f fs=.ok (.t t) fs1)(h0':fs1[i]?=some (some (.own (.lst ts))))(hl:ts.length < big)(e:fs1.set i (some (.own (.lst (ts++[t]))))=fs'):Bq (A8 Ea (Aa i) (Ab f Ak)) fs=.nx fs':=by
 have h1:Aa i fs=.ok (.rf i) fs:=by unfold Aa;rw [h0]
 have h2:FL.Bg fs i=some (.lst us):=by unfold FL.Bg;rw [h0]
 have h2':FL.Bg fs1 i=some (.lst ts):=by unfold FL.Bg;rw [h0']
 have h3:Dn fs (.rf i)=some us:=by simp only [Dn,h2]
 have h4:Ab f Ak fs=.ok [.t t] fs1:=Dt h rfl;have h5:Ea (.rf i) [.t t] fs1=.ok (.t .non) fs':=by
  simp only [Ea,h2'];rw [if_pos hl];have:FL.putAt fs1 i (.lst (ts++[t]))=fs':=by
   unfold FL.putAt;rw [h0'];exact e
  rw [this]
 have h6:A8 Ea (Aa i) (Ab f Ak) fs=.ok (.t .non) fs':=by
  unfold A8;rw [h1];show(if(Dn fs (.rf i)).isSome=true then _ else _)=_;rw [h3,if_pos (show(some us).isSome=true from rfl),h4];exact h5
 unfold Bq;rw [h6];rfl
def AN:Str×List Str->T:=fun r=>.tup [.str r.1,.tup (r.2.map T.str)]
def Af:Str×List (Str×List Str)->T:=fun k=>.tup [.str k.1,.lst (k.2.map AN)]
theorem Qn{sc:T}{many:Int}{names makers:List Str}{got:List T}{u a k:Nat}{rows:List (Str×List Str)}{pu:List T}{z1 z2 z3:Int}(hn:0 < names.length)(ha:a<=names.length)(hu:u < makers.length)(hr:rows.length < 1000) :
  ∃ps:List Str,ps.length<=2/\(∀x∈ps,x∈names.take (if k=0 then a else names.length)) /\
   (AL (Bq (A8 Ea (Aa 8) (Ab (Av Bi (Ab (Ae AX (Aa 4) (fz (Aa 6))) (Ab (fz (Am (AD 4 Ce) (Ar (fz (Aa 3)) (Ar (fz (Aa 7)) (Ar (Ae (gEq false) (Aa 9) (gc (.int 0))) (Ar (Aa 1) Ak)))))) Ak))) Ak)))
  (AS 6 (Ae AF (Aa 6) (gc (.int 1))))) [vl sc,some (.own (.lst (pu++[.int z3]++[.int z2]++[.int z1]))),iv many,vl (.lst (names.map T.str)),vl (.lst (makers.map T.str)),some (.own (.lst got)),iv (u:Int),iv (a:Int),some (.own (.lst (rows.map AN))),iv (k:Int)] =
   .nx [vl sc,some (.own (.lst pu)),iv many,vl (.lst (names.map T.str)),vl (.lst (makers.map T.str)),some (.own (.lst got)),iv ((u+1:Nat):Int),iv (a:Int),some (.own (.lst ((rows++[(makers.getD u ⟨#[]⟩,ps)]).map AN))),iv (k:Int)]:=by
 obtain⟨ps,h1,h2,h3⟩:=parts (names:=names) (at':=a) (first:=decide ((k:Int)=0)) (pu:=pu) (z1:=z1) (z2:=z2) (z3:=z3) hn ha;refine⟨ps,h1,?_,?_⟩
 ·by_cases hk:k=0
  ·subst hk
   simpa using h2
  ·have:¬ ((k:Int)=0):=by omega
   rw [decide_eq_false this] at h2;rw [if_neg hk];simpa using h2
 ·have em:atI (makers.map T.str) (u:Int)=some (T.str (makers.getD u ⟨#[]⟩)):=A2 (by
   rw [List.getElem?_map,List.getElem?_eq_getElem hu];simp [List.getD,hu])
  have ek:Ae (gEq false) (Aa 9) (gc (.int 0)) [vl sc,some (.own (.lst (pu++[.int z3]++[.int z2]++[.int z1]))),iv many,vl (.lst (names.map T.str)),vl (.lst (makers.map T.str)),some (.own (.lst got)),iv (u:Int),iv (a:Int),some (.own (.lst (rows.map AN))),iv (k:Int)]=.ok (.t (.bl (decide ((k:Int)=0)))) [vl sc,some (.own (.lst (pu++[.int z3]++[.int z2]++[.int z1]))),iv many,vl (.lst (names.map T.str)),vl (.lst (makers.map T.str)),some (.own (.lst got)),iv (u:Int),iv (a:Int),some (.own (.lst (rows.map AN))),iv (k:Int)]:=by
   refine Ag (Ac rfl) AB ?_;have q:decide (V.int (k:Int)=V.int 0)=decide ((k:Int)=0):=by
    by_cases h:(k:Int)=0
    ·rw [h];simp
    ·rw [decide_eq_false h,decide_eq_false (by intro z;cases z;exact h rfl)]
   show(if MC (V.int (k:Int)) (V.int 0)=true then okT (.bl (if false=true then _ else decide (V.int (k:Int)=V.int 0))) _ else .bad)=_;rw [if_pos (show MC (V.int (k:Int)) (V.int 0)=true from rfl),q];rfl
  have ec:=ES (p:=4) (Fn:=Ce) (As (AJ (Ac (i:=3) rfl)) (As (AJ (Ac (i:=7) rfl)) (As ek (As (show Aa 1 _=.ok (.rf 1) _ from rfl) (show Ak _=.ok [] _ from rfl))))) rfl (by
   rw [show CG _ _=[1] from rfl];simp) h3 rfl
  rw [AQ (SS (i:=8) rfl (Lo (g:=Bi) (ts:=[T.str (makers.getD u ⟨#[]⟩),T.tup (ps.map T.str)]) (Dt (Ag (Ac rfl) (AJ (Ac rfl)) (A7 rfl em)) (Dt (Ew ec) (show Ak _=.ok [] _ from rfl))) rfl (show 2<=big by decide) rfl) rfl (by rw [List.length_map];show _ < 1000000;omega) rfl)];have e1:rows.map AN++[T.tup [T.str (makers.getD u ⟨#[]⟩),T.tup (ps.map T.str)]]=(rows++[(makers.getD u ⟨#[]⟩,ps)]).map AN:=by rw [List.map_append];rfl
  rw [<- e1];exact Bb (Ag (Ac rfl) AB BR) rfl
theorem Om{α:Type}{xs:List α}(h:1<=xs.length):∃e z,xs=e++[z]/\e.length+1=xs.length:=by
 have hne:xs≠[]:=by intro q;rw [q] at h;simp at h
 exact⟨xs.dropLast,xs.getLast hne,(List.dropLast_concat_getLast hne).symm,by rw [List.length_dropLast];omega⟩
theorem XO{ds:List Int}(h:3<=ds.length):∃(e:List Int) (z1 z2 z3:Int),ds.map T.int=e.map T.int++[.int z3]++[.int z2]++[.int z1]/\e.length+3=ds.length:=by
 obtain⟨d1,z1,rfl,h1⟩:=Om (xs:=ds) (by omega);obtain⟨d2,z2,rfl,h2⟩:=Om (xs:=d1) (by omega);obtain⟨d3,z3,rfl,h3⟩:=Om (xs:=d2) (by omega);exact⟨d3,z1,z2,z3,by simp,by simp at h ⊢⟩
structure Rows(names makers:List Str)(a u:Nat)(rows:List (Str×List Str)):Prop where
 mks:rows.map (·.1)=(List.range rows.length).map fun j=>makers.getD (u+j) ⟨#[]⟩
 two:∀r∈rows,r.2.length<=2
 prt:∀r∈rows,∀x∈r.2,x∈names
 fst:∀r,rows[0]?=some r->∀x∈r.2,x∈names.take a
theorem Rows.nil{names makers:List Str}{a u:Nat}:Rows names makers a u []:=⟨rfl,(fun _ m=>nomatch m),(fun _ m=>nomatch m),(fun _ e=>nomatch e)⟩
theorem Rows.snoc{names makers:List Str}{a u:Nat}{rows:List (Str×List Str)}(R:Rows names makers a u rows){ps:List Str}(h1:ps.length<=2)(h2:∀x∈ps,x∈names.take (if rows.length=0 then a else names.length)):Rows names makers a u (rows++[(makers.getD (u+rows.length) ⟨#[]⟩,ps)]):=by
 refine⟨?_,fun r m=>?_,fun r m x hx=>?_,fun r e x hx=>?_⟩
 ·rw [List.map_append,R.mks,List.length_append,List.length_singleton,List.range_succ,List.map_append]
  rfl
 ·rcases List.mem_append.mp m with m | m
  ·exact R.two r m
  ·rw [List.mem_singleton.mp m];exact h1
 ·rcases List.mem_append.mp m with m | m
  ·exact R.prt r m x hx
  ·rw [List.mem_singleton.mp m] at hx
   exact List.mem_of_mem_take (h2 x hx)
 ·cases rows with
  | nil =>
   have:r=(makers.getD (u+0) ⟨#[]⟩,ps):=by simpa using e.symm
   rw [this] at hx;simpa using h2 x hx
  | cons r0 rs =>
   exact R.fst r (by simpa using e) x hx
theorem NB{sc:T}{many:Int}{names makers:List Str}{got:List T}{u a n:Nat}{ds:List Int}{x9:Option Sl}(hn:0 < names.length)(ha:a<=names.length)(hu:u+n<=makers.length)(hd:3 * n<=ds.length)(hn2:n<=100)(h9:Fre x9) :
  ∃(rows:List (Str×List Str)) (es:List Int) (y9:Option Sl),rows.length=n/\Rows names makers a u rows/\es.length+3 * n=ds.length/\Fre y9/\Dk (tgN 9) (AL (Bq (A8 Ea (Aa 8) (Ab (Av Bi (Ab (Ae AX (Aa 4) (fz (Aa 6))) (Ab (fz (Am (AD 4 Ce) (Ar (fz (Aa 3)) (Ar (fz (Aa 7)) (Ar (Ae (gEq false) (Aa 9) (gc (.int 0))) (Ar (Aa 1) Ak)))))) Ak))) Ak)))
  (AS 6 (Ae AF (Aa 6) (gc (.int 1))))) (FL.upTo 0 n) [vl sc,some (.own (.lst (ds.map T.int))),iv many,vl (.lst (names.map T.str)),vl (.lst (makers.map T.str)),some (.own (.lst got)),iv (u:Int),iv (a:Int),some (.own (.lst [])),x9] =
   .nx [vl sc,some (.own (.lst (es.map T.int))),iv many,vl (.lst (names.map T.str)),vl (.lst (makers.map T.str)),some (.own (.lst got)),iv ((u+n:Nat):Int),iv (a:Int),some (.own (.lst (rows.map AN))),y9]:=by
 obtain⟨fs',ef,rows,es,y9,rfl,hle,R,he,f9,hts⟩:=DV (gt:=tgN 9) (body:=(AL (Bq (A8 Ea (Aa 8) (Ab (Av Bi (Ab (Ae AX (Aa 4) (fz (Aa 6))) (Ab (fz (Am (AD 4 Ce) (Ar (fz (Aa 3)) (Ar (fz (Aa 7)) (Ar (Ae (gEq false) (Aa 9) (gc (.int 0))) (Ar (Aa 1) Ak)))))) Ak))) Ak)))
  (AS 6 (Ae AF (Aa 6) (gc (.int 1))))))
  (fun ts fs=>∃(rows:List (Str×List Str)) (es:List Int) (y9:Option Sl),fs=[vl sc,some (.own (.lst (es.map T.int))),iv many,vl (.lst (names.map T.str)),vl (.lst (makers.map T.str)),some (.own (.lst got)),iv ((u+rows.length:Nat):Int),iv (a:Int),some (.own (.lst (rows.map AN))),y9]/\rows.length<=n/\Rows names makers a u rows/\es.length+3 * rows.length=ds.length/\Fre y9/\ts=(FL.upTo 0 n).drop rows.length)
  (fun t' ts fs h=>by
   obtain⟨rows,es,y9,rfl,hle,R,he,f9,hts⟩:=h;have hlt:rows.length < n:=by
    have:=congrArg List.length hts;simp [FL.upTo] at this;omega
   have hc:=List.drop_eq_getElem_cons (l:=FL.upTo 0 n) (i:=rows.length) (by simp [FL.upTo];exact hlt);rw [hc] at hts;obtain⟨e1,e2⟩:=List.cons.inj hts;have e3:t'=T.int (rows.length:Int):=by
    rw [e1];simp [FL.upTo]
   subst e3;obtain⟨e,z1,z2,z3,eds,el⟩:=XO (ds:=es) (by omega);obtain⟨ps,p1,p2,p3⟩:=Qn (sc:=sc) (many:=many) (names:=names) (makers:=makers) (got:=got) (u:=u+rows.length) (a:=a) (k:=rows.length) (rows:=rows) (pu:=e.map T.int) (z1:=z1) (z2:=z2) (z3:=z3) hn ha (by omega) (by omega);rw [eds];refine⟨_,_,(by unfold tgN;exact Ba rfl f9),p3,rows++[(makers.getD (u+rows.length) ⟨#[]⟩,ps)],e,iv (rows.length:Int),?_,by simp;omega,R.snoc p1 p2,by simp;omega,AZ,?_⟩
   ·rw [List.length_append,List.length_singleton]
    rfl
   ·rw [e2,List.length_append,List.length_singleton])
  (FL.upTo 0 n) [vl sc,some (.own (.lst (ds.map T.int))),iv many,vl (.lst (names.map T.str)),vl (.lst (makers.map T.str)),some (.own (.lst got)),iv (u:Int),iv (a:Int),some (.own (.lst [])),x9] ⟨[],ds,x9,rfl,Nat.zero_le _,Rows.nil,by simp,h9,rfl⟩
 have hi2:rows.length=n:=by
  have:=congrArg List.length hts;simp [FL.upTo] at this;omega
 refine⟨rows,es,y9,hi2,R,by omega,f9,?_⟩;rw [ef,hi2]
theorem NM{i:Nat}{fs fs':FS}{t:T}{ts:List T}(h0:fs[i]?=some (some (.own (.lst (ts++[t])))))(e:fs.set i (some (.own (.lst ts)))=fs'):fz (A8 HU (Aa i) Ak) fs=.ok (.t t) fs':=by
 have h1:Aa i fs=.ok (.rf i) fs:=by unfold Aa;rw [h0]
 have h2:FL.Bg fs i=some (.lst (ts++[t])):=by unfold FL.Bg;rw [h0]
 have h3:Dn fs (.rf i)=some (ts++[t]):=by simp only [Dn,h2]
 have h5:HU (.rf i) [] fs=.ok (.t t) fs':=by
  have:FL.putAt fs i (.lst ts)=fs':=by
   unfold FL.putAt;rw [h0];exact e
  simp only [HU,h2,List.getLast?_concat,List.dropLast_concat,this,okT]
 refine Ew ?_;unfold A8;rw [h1];show(if(Dn fs (.rf i)).isSome=true then _ else _)=_;rw [h3,if_pos (show(some (ts++[t])).isSome=true from rfl)];exact h5
theorem ND{j:Int}{fs fs1:FS}{fa:FS->Out (List Rv)}(e:fa fs=.ok [.t (.int j)] fs1)(h:-(2 ^ 62)<=j/\j < 2 ^ 62):Fe fa fs=.ok (FL.upTo 0 j.toNat) fs1:=by
 unfold Fe;rw [e];simp only [Out.bind];exact if_pos h
theorem Uj{n:Nat}{fa:FS->Out (List Rv)}{gt:T->FS->Option FS}{body:FS->SO}{fs fs1:FS}{r:SO}(e:fa fs=.ok [.t (.int (n:Int))] fs1)(h:n < 2 ^ 62)(ef:Dk gt body (FL.upTo 0 n) fs1=r):Eg (Fe fa) gt body fs=r:=by
 have q:=ND e ⟨by omega,by omega⟩;rw [Int.toNat_natCast] at q;unfold Eg;rw [q];exact ef
def BD(many:Nat):Nat:=if many=4 then 3 else 4
theorem Oo{sc:T}{many a u:Nat}{names makers:List Str}{K:List (Str×List (Str×List Str))}{ds:List Int}{x8 x9:Option Sl}(hn:names.length=many)(ha:a < many)(hu:u+BD many<=makers.length)(hd:13<=ds.length)(h8:Fre x8)(h9:Fre x9)(hK:K.length < 100) :
  ∃(rows:List (Str×List Str)) (es:List Int) (y8 y9:Option Sl),1<=rows.length/\rows.length<=BD many/\Rows names makers a u rows/\ds.length<=es.length+13/\Fre y8/\Fre y9 /\
   (AL (AS 8 (Av Ee Ak))
  (AL (Eg (Fe (Ab (Ae AF (gc (.int 1)) (Ae BA (fz (A8 HU (Aa 1) Ak)) (Ae AX (Av A1 (Ab (gc (.int 4)) (Ab (gc (.int 3)) Ak))) (Am Ji (Ab (Ae (gEq false) (Aa 2) (gc (.int 4))) Ak))))) Ak)) (tgN 9) (AL (Bq (A8 Ea (Aa 8) (Ab (Av Bi (Ab (Ae AX (Aa 4) (fz (Aa 6))) (Ab (fz (Am (AD 4 Ce) (Ar (fz (Aa 3)) (Ar (fz (Aa 7)) (Ar (Ae (gEq false) (Aa 9) (gc (.int 0))) (Ar (Aa 1) Ak)))))) Ak))) Ak)))
  (AS 6 (Ae AF (Aa 6) (gc (.int 1))))))
  (Bq (A8 Ea (Aa 5) (Ab (Av Bi (Ab (Ae AX (Aa 3) (fz (Aa 7))) (Ab (fz (Aa 8)) Ak))) Ak)))))
   [vl sc,some (.own (.lst (ds.map T.int))),iv (many:Int),vl (.lst (names.map T.str)),vl (.lst (makers.map T.str)),some (.own (.lst (K.map Af))),iv (u:Int),iv (a:Int),x8,x9] =
   .nx [vl sc,some (.own (.lst (es.map T.int))),iv (many:Int),vl (.lst (names.map T.str)),vl (.lst (makers.map T.str)),some (.own (.lst ((K++[(names.getD a ⟨#[]⟩,rows)]).map Af))),iv ((u+rows.length:Nat):Int),iv (a:Int),y8,y9]:=by
 obtain⟨d1,z,rfl,hd1⟩:=Om (xs:=ds) (by omega);have hmr:BD many=3∨BD many=4:=by unfold BD;split <;> simp
 have em:atI [T.int 4,T.int 3] (if many=4 then 1 else 0:Int)=some (T.int (BD many:Int)):=by
  unfold BD;by_cases h:many=4
  ·rw [if_pos h,if_pos h];exact A2 (j:=1) rfl
  ·rw [if_neg h,if_neg h];exact A2 (j:=0) rfl
 have hz0:0<=z % (BD many:Int):=Int.emod_nonneg _ (by omega);have hz1:z % (BD many:Int) < BD many:=Int.emod_lt_of_pos _ (by omega);obtain⟨n,hn1⟩:∃n:Nat,(n:Int)=1+z % (BD many:Int):=⟨(1+z % (BD many:Int)).toNat,by omega⟩
 have s8:AS 8 (Av Ee Ak) [vl sc,some (.own (.lst ((d1++[z]).map T.int))),iv (many:Int),vl (.lst (names.map T.str)),vl (.lst (makers.map T.str)),some (.own (.lst (K.map Af))),iv (u:Int),iv (a:Int),x8,x9] =
   .nx [vl sc,some (.own (.lst (d1.map T.int++[T.int z]))),iv (many:Int),vl (.lst (names.map T.str)),vl (.lst (makers.map T.str)),some (.own (.lst (K.map Af))),iv (u:Int),iv (a:Int),some (.own (.lst [])),x9]:=by
  rw [List.map_append];cases x8 with
  | none=>rfl
  | some s=>cases s with
   | val t=>rfl
   | own o=>rfl
   | bor o=>exact h8.elim
 obtain⟨rows,es,y9,r1,R,r2,f9,er⟩:=NB (sc:=sc) (many:=(many:Int)) (names:=names) (makers:=makers) (got:=K.map Af) (u:=u) (a:=a) (n:=n) (ds:=d1) (x9:=x9) (by omega) (by omega) (by omega) (by omega) (by omega) h9;have eq4:Ae (gEq false) (Aa 2) (gc (.int 4)) [vl sc,some (.own (.lst (d1.map T.int))),iv (many:Int),vl (.lst (names.map T.str)),vl (.lst (makers.map T.str)),some (.own (.lst (K.map Af))),iv (u:Int),iv (a:Int),some (.own (.lst [])),x9]=.ok (.t (.bl (decide (many=4)))) [vl sc,some (.own (.lst (d1.map T.int))),iv (many:Int),vl (.lst (names.map T.str)),vl (.lst (makers.map T.str)),some (.own (.lst (K.map Af))),iv (u:Int),iv (a:Int),some (.own (.lst [])),x9]:=by
  refine Ag (Ac rfl) AB ?_;have q:decide (V.int (many:Int)=V.int 4)=decide (many=4):=by
   by_cases h:many=4
   ·rw [h];rfl
   ·rw [decide_eq_false h,decide_eq_false (by intro z;cases z;exact h rfl)]
  show(if MC (V.int (many:Int)) (V.int 4)=true then okT (.bl (if false=true then _ else decide (V.int (many:Int)=V.int 4))) _ else .bad)=_;rw [if_pos (show MC (V.int (many:Int)) (V.int 4)=true from rfl),q];rfl
 have ei:Am Ji (Ab (Ae (gEq false) (Aa 2) (gc (.int 4))) Ak) [vl sc,some (.own (.lst (d1.map T.int))),iv (many:Int),vl (.lst (names.map T.str)),vl (.lst (makers.map T.str)),some (.own (.lst (K.map Af))),iv (u:Int),iv (a:Int),some (.own (.lst [])),x9]=.ok (.t (.int (if many=4 then 1 else 0))) [vl sc,some (.own (.lst (d1.map T.int))),iv (many:Int),vl (.lst (names.map T.str)),vl (.lst (makers.map T.str)),some (.own (.lst (K.map Af))),iv (u:Int),iv (a:Int),some (.own (.lst [])),x9]:=by
  refine Du (Az eq4 rfl) ?_;show okT (.int (if decide (many=4)=true then 1 else 0)) _=_;by_cases h:many=4
  ·rw [if_pos h,decide_eq_true h];rfl
  ·rw [if_neg h,decide_eq_false h];rfl
 have ec:Ab (Ae AF (gc (.int 1)) (Ae BA (fz (A8 HU (Aa 1) Ak)) (Ae AX (Av A1 (Ab (gc (.int 4)) (Ab (gc (.int 3)) Ak))) (Am Ji (Ab (Ae (gEq false) (Aa 2) (gc (.int 4))) Ak))))) Ak [vl sc,some (.own (.lst (d1.map T.int++[T.int z]))),iv (many:Int),vl (.lst (names.map T.str)),vl (.lst (makers.map T.str)),some (.own (.lst (K.map Af))),iv (u:Int),iv (a:Int),some (.own (.lst [])),x9]=.ok [.t (.int (n:Int))] [vl sc,some (.own (.lst (d1.map T.int))),iv (many:Int),vl (.lst (names.map T.str)),vl (.lst (makers.map T.str)),some (.own (.lst (K.map Af))),iv (u:Int),iv (a:Int),some (.own (.lst [])),x9]:=by
  rw [hn1];exact Dt (Gr AB (Gr (NM (ts:=d1.map T.int) rfl rfl) (Ag (DR rfl rfl (by decide)) ei (A7 rfl em)) (Bz (by omega))) BR) rfl
 have en:atI (names.map T.str) (a:Int)=some (T.str (names.getD a ⟨#[]⟩)):=A2 (by
  have ha':a < names.length:=by omega
  rw [List.getElem?_map,List.getElem?_eq_getElem ha'];simp [List.getD,ha'])
 refine⟨rows,es,vl (.lst (rows.map AN)),y9,by omega,by omega,R,by simp at hd1 ⊢;omega,AZ,f9,?_⟩;rw [AQ s8,AQ (Uj ec (by omega) er)];have e1:K.map Af++[T.tup [T.str (names.getD a ⟨#[]⟩),T.lst (rows.map AN)]]=(K++[(names.getD a ⟨#[]⟩,rows)]).map Af:=by rw [List.map_append];rfl
 rw [<- e1,r1];exact SS (i:=5) rfl (Lo (g:=Bi) (ts:=[T.str (names.getD a ⟨#[]⟩),T.lst (rows.map AN)]) (Dt (Ag (Ac rfl) (AJ (Ac rfl)) (A7 rfl en)) (Dt (show fz (Aa 8) _=.ok (.t (.lst (rows.map AN))) _ from rfl) (show Ak _=.ok [] _ from rfl))) rfl (show 2<=big by decide) rfl) rfl (by rw [List.length_map];show _ < 1000000;omega) rfl
abbrev Kd:=List (Str×List (Str×List Str))
def used(K:Kd):Nat:=(K.map (·.2.length)).sum
structure KOk(names makers:List Str)(K:Kd):Prop where
 at_:∀a kd,K[a]?=some kd->kd.1=names.getD a ⟨#[]⟩/\1<=kd.2.length/\kd.2.length<=4/\Rows names makers a (used (K.take a)) kd.2
theorem KOk.nil{names makers:List Str}:KOk names makers []:=⟨fun a kd e=>by simp at e⟩
theorem KOk.snoc{names makers:List Str}{K:Kd}(h:KOk names makers K){rows:List (Str×List Str)}(h1:1<=rows.length)(h2:rows.length<=4)(R:Rows names makers K.length (used K) rows):KOk names makers (K++[(names.getD K.length ⟨#[]⟩,rows)]):=by
 refine⟨fun a kd e=>?_⟩;rcases Nat.lt_trichotomy a K.length with q | q | q
 ·rw [List.getElem?_append_left q] at e
  have:=h.at_ a kd e;rwa [List.take_append_of_le_length (by omega)]
 ·subst q
  have e':kd=(names.getD K.length ⟨#[]⟩,rows):=by simpa using e.symm
  subst e';refine⟨rfl,h1,h2,?_⟩;rw [List.take_left']
  ·exact R
  ·rfl
 ·rw [List.getElem?_eq_none (by simp;omega)] at e
  cases e
theorem JA{K:Kd}{k:Str}{rows:List (Str×List Str)}:used (K++[(k,rows)])=used K+rows.length:=by
 unfold used;simp
theorem IH{i:Nat}{f:FS->Out Rv}{fs fs1 fs':FS}{o:FO}(h:f fs=.ok (.nw o) fs1)(hs:Jv i (.nw o) fs1=some fs'):AS i f fs=.nx fs':=by
 unfold AS;rw [h];show(match Jv i (.nw o) fs1 with | some fs=>SO.nx fs | none=>.bad)=_;rw [hs]
theorem Ka{f:FS->Out Rv}{fs fs1:FS}{o:FO}(h:f fs=.ok (.nw o) fs1):fz f fs=.ok (.t (toT o)) fs1:=by
 unfold fz;rw [h];rfl
theorem MQ{sc:T}{many:Nat}{names makers:List Str}{ds:List Int}(hn:names.length=many)(hm:many<=4)(hm12:makers.length=12)(hd:60<=ds.length) :
  ∃(K:Kd) (x1 x6 x7 x8 x9:Option Sl),K.length=many/\KOk names makers K/\used K<=12/\Dk (tgN 7) (AL (AS 8 (Av Ee Ak))
  (AL (Eg (Fe (Ab (Ae AF (gc (.int 1)) (Ae BA (fz (A8 HU (Aa 1) Ak)) (Ae AX (Av A1 (Ab (gc (.int 4)) (Ab (gc (.int 3)) Ak))) (Am Ji (Ab (Ae (gEq false) (Aa 2) (gc (.int 4))) Ak))))) Ak)) (tgN 9) (AL (Bq (A8 Ea (Aa 8) (Ab (Av Bi (Ab (Ae AX (Aa 4) (fz (Aa 6))) (Ab (fz (Am (AD 4 Ce) (Ar (fz (Aa 3)) (Ar (fz (Aa 7)) (Ar (Ae (gEq false) (Aa 9) (gc (.int 0))) (Ar (Aa 1) Ak)))))) Ak))) Ak)))
  (AS 6 (Ae AF (Aa 6) (gc (.int 1))))))
  (Bq (A8 Ea (Aa 5) (Ab (Av Bi (Ab (Ae AX (Aa 3) (fz (Aa 7))) (Ab (fz (Aa 8)) Ak))) Ak))))) (FL.upTo 0 many) [vl sc,some (.own (.lst (ds.map T.int))),iv (many:Int),vl (.lst (names.map T.str)),vl (.lst (makers.map T.str)),some (.own (.lst [])),iv 0,none,none,none] =
   .nx [vl sc,x1,iv (many:Int),vl (.lst (names.map T.str)),vl (.lst (makers.map T.str)),some (.own (.lst (K.map Af))),x6,x7,x8,x9]:=by
 have hmr:(BD many=3/\many=4)∨(BD many=4/\many<=3):=by unfold BD;split <;> omega
 obtain⟨fs',ef,K,es,x7,x8,x9,rfl,hle,KO,hu,he,f7,f8,f9,hts⟩:=DV (gt:=tgN 7) (body:=(AL (AS 8 (Av Ee Ak))
  (AL (Eg (Fe (Ab (Ae AF (gc (.int 1)) (Ae BA (fz (A8 HU (Aa 1) Ak)) (Ae AX (Av A1 (Ab (gc (.int 4)) (Ab (gc (.int 3)) Ak))) (Am Ji (Ab (Ae (gEq false) (Aa 2) (gc (.int 4))) Ak))))) Ak)) (tgN 9) (AL (Bq (A8 Ea (Aa 8) (Ab (Av Bi (Ab (Ae AX (Aa 4) (fz (Aa 6))) (Ab (fz (Am (AD 4 Ce) (Ar (fz (Aa 3)) (Ar (fz (Aa 7)) (Ar (Ae (gEq false) (Aa 9) (gc (.int 0))) (Ar (Aa 1) Ak)))))) Ak))) Ak)))
  (AS 6 (Ae AF (Aa 6) (gc (.int 1))))))
  (Bq (A8 Ea (Aa 5) (Ab (Av Bi (Ab (Ae AX (Aa 3) (fz (Aa 7))) (Ab (fz (Aa 8)) Ak))) Ak))))))
  (fun ts fs=>∃(K:Kd) (es:List Int) (x7 x8 x9:Option Sl),fs=[vl sc,some (.own (.lst (es.map T.int))),iv (many:Int),vl (.lst (names.map T.str)),vl (.lst (makers.map T.str)),some (.own (.lst (K.map Af))),iv ((used K:Nat):Int),x7,x8,x9]/\K.length<=many/\KOk names makers K/\used K<=K.length * BD many/\ds.length<=es.length+13 * K.length/\Fre x7/\Fre x8/\Fre x9/\ts=(FL.upTo 0 many).drop K.length)
  (fun t' ts fs h=>by
   obtain⟨K,es,x7,x8,x9,rfl,hle,KO,hu,he,f7,f8,f9,hts⟩:=h;have hlt:K.length < many:=by
    have:=congrArg List.length hts;simp [FL.upTo] at this;omega
   have hc:=List.drop_eq_getElem_cons (l:=FL.upTo 0 many) (i:=K.length) (by simp [FL.upTo];exact hlt);rw [hc] at hts;obtain⟨e1,e2⟩:=List.cons.inj hts;have e3:t'=T.int (K.length:Int):=by
    rw [e1];simp [FL.upTo]
   subst e3;have hu2:used K+BD many<=12:=by
    rcases hmr with⟨q1,q2⟩ | ⟨q1,q2⟩
    ·rw [q1] at hu ⊢;omega
    ·rw [q1] at hu ⊢;omega
   obtain⟨rows,es',y8,y9,r1,r2,R,r3,g8,g9,e⟩:=Oo (sc:=sc) (many:=many) (a:=K.length) (u:=used K) (names:=names) (makers:=makers) (K:=K) (ds:=es) (x8:=x8) (x9:=x9) hn hlt (by omega) (by omega) f8 f9 (by omega);refine⟨_,_,(by unfold tgN;exact Ba rfl f7),e,K++[(names.getD K.length ⟨#[]⟩,rows)],es',iv (K.length:Int),y8,y9,?_,by simp;omega,KO.snoc r1 (by omega) R,?_,by simp;omega,AZ,g8,g9,?_⟩
   ·rw [JA]
   ·rw [JA,List.length_append,List.length_singleton,Nat.add_mul]
    omega
   ·rw [e2,List.length_append,List.length_singleton])
  (FL.upTo 0 many) [vl sc,some (.own (.lst (ds.map T.int))),iv (many:Int),vl (.lst (names.map T.str)),vl (.lst (makers.map T.str)),some (.own (.lst [])),iv 0,none,none,none] ⟨[],ds,none,none,none,rfl,Nat.zero_le _,KOk.nil,by simp [used],by simp,AA,AA,AA,rfl⟩
 have hi2:K.length=many:=by
  have:=congrArg List.length hts;simp [FL.upTo] at this;omega
 refine⟨K,_,_,_,_,_,hi2,KO,?_,ef⟩;rcases hmr with⟨q1,q2⟩ | ⟨q1,q2⟩
 ·rw [q1,hi2] at hu;omega
 ·rw [q1,hi2] at hu;omega
theorem Gd(c:Int)(n:Nat):(nms c n).length=n:=by unfold nms;simp
theorem kinds{ns:List Int}(h0:Builtin.Int.intBits (ns.getD 0 0)<=2 ^ 20)(h1:Builtin.Int.intBits (ns.getD 1 0)<=2 ^ 20) :
  ∃(K:Kd),1<=K.length/\K.length<=4/\KOk (nms (ns.getD 0 0) K.length) (nms (ns.getD 1 0) 12) K/\used K<=12/\Eh [vl (.scr (ns.map T.int))]=.ok (.nw (.lst (K.map Af))) [vl (.scr (ns.map T.int))]:=by
 obtain⟨ds,hd,ed⟩:=digits (t:=.scr (ns.map T.int)) (ns:=ns) (.inl rfl) (a:=0) (b:=3) (by decide) (by decide) (by decide) (by decide);have ec0:=Lr ns 0;have ec1:=Lr ns 1;generalize hS:T.scr (ns.map T.int)=sc at ed ec0 ec1 ⊢;obtain⟨d1,z,rfl,hd1⟩:=Om (xs:=ds) (by omega);have s1:AS 1 (Am (AD 3 Dc) (Ar (fz (Aa 0)) (Ar (gc (.int 0)) (Ar (gc (.int 3)) Ak)))) [vl sc,none,none,none,none,none,none,none,none,none]=.nx [vl sc,some (.own (.lst (d1.map T.int++[T.int z]))),none,none,none,none,none,none,none,none]:=by
  have e:=ET (p:=3) (Fn:=Dc) (fs:=[vl sc,none,none,none,none,none,none,none,none,none]) (As (AJ (Ac (i:=0) rfl)) (As (AB (t:=.int 0)) (As (AB (t:=.int 3)) (show Ak _=.ok [] _ from rfl)))) rfl (by rw [show CG _ _=[] from rfl];exact List.nodup_nil) ed (AO rfl);rw [List.map_append] at e;exact IH e rfl
 have hq:∃q:Nat,1<=q/\q<=4/\atI [T.int 1,T.int 2,T.int 3,T.int 2,T.int 1,T.int 4,T.int 2,T.int 3] (z % 8)=some (T.int (q:Int)):=by
  have h:z % 8=((0:Nat):Int)∨z % 8=((1:Nat):Int)∨z % 8=((2:Nat):Int)∨z % 8=((3:Nat):Int)∨z % 8=((4:Nat):Int)∨z % 8=((5:Nat):Int)∨z % 8=((6:Nat):Int)∨z % 8=((7:Nat):Int):=by omega
  rcases h with h | h | h | h | h | h | h | h <;> rw [h]
  ·exact⟨1,by omega,by omega,A2 rfl⟩
  ·exact⟨2,by omega,by omega,A2 rfl⟩
  ·exact⟨3,by omega,by omega,A2 rfl⟩
  ·exact⟨2,by omega,by omega,A2 rfl⟩
  ·exact⟨1,by omega,by omega,A2 rfl⟩
  ·exact⟨4,by omega,by omega,A2 rfl⟩
  ·exact⟨2,by omega,by omega,A2 rfl⟩
  ·exact⟨3,by omega,by omega,A2 rfl⟩
 obtain⟨q,q1,q4,eq⟩:=hq;have s2:AS 2 (Ae AX (Av A1 (Ab (gc (.int 1)) (Ab (gc (.int 2)) (Ab (gc (.int 3)) (Ab (gc (.int 2)) (Ab (gc (.int 1)) (Ab (gc (.int 4)) (Ab (gc (.int 2)) (Ab (gc (.int 3)) Ak))))))))) (Ae BA (fz (A8 HU (Aa 1) Ak)) (gc (.int 8)))) [vl sc,some (.own (.lst (d1.map T.int++[T.int z]))),none,none,none,none,none,none,none,none]=.nx [vl sc,some (.own (.lst (d1.map T.int))),iv (q:Int),none,none,none,none,none,none,none] :=
  Eb (Gr (DR rfl rfl (by decide)) (Gr (NM (ts:=d1.map T.int) rfl rfl) AB (Bz (by decide))) (A7 rfl eq)) rfl
 have en0:=names (c:=ns.getD 0 0) (n:=q) (by omega) h0;have en1:=names (c:=ns.getD 1 0) (n:=12) (by omega) h1;generalize ns.getD 0 0=c0 at ec0 en0 ⊢;generalize ns.getD 1 0=c1 at ec1 en1 ⊢;have s3:AS 3 (fz (Am (AD 2 CL) (Ar (fz (Am (AD 2 Bt) (Ar (fz (Aa 0)) (Ar (gc (.int 0)) Ak)))) (Ar (fz (Aa 2)) Ak)))) [vl sc,some (.own (.lst (d1.map T.int))),iv (q:Int),none,none,none,none,none,none,none]=.nx [vl sc,some (.own (.lst (d1.map T.int))),iv (q:Int),vl (.lst ((nms c0 q).map T.str)),none,none,none,none,none,none]:=by
  have e1:=ES (p:=2) (Fn:=Bt) (fs:=[vl sc,some (.own (.lst (d1.map T.int))),iv (q:Int),none,none,none,none,none,none,none]) (As (AJ (Ac (i:=0) rfl)) (As (AB (t:=.int 0)) (show Ak _=.ok [] _ from rfl))) rfl (by rw [show CG _ _=[] from rfl];exact List.nodup_nil) ec0 (AO rfl);have e2:=ET (p:=2) (Fn:=CL) (As (Ew e1) (As (AJ (Ac (i:=2) rfl)) (show Ak _=.ok [] _ from rfl))) rfl (by rw [show CG _ _=[] from rfl];exact List.nodup_nil) en0 (AO rfl);exact Eb (Ka e2) rfl
 have s4:AS 4 (fz (Am (AD 2 CL) (Ar (fz (Am (AD 2 Bt) (Ar (fz (Aa 0)) (Ar (gc (.int 1)) Ak)))) (Ar (gc (.int 12)) Ak)))) [vl sc,some (.own (.lst (d1.map T.int))),iv (q:Int),vl (.lst ((nms c0 q).map T.str)),none,none,none,none,none,none]=.nx [vl sc,some (.own (.lst (d1.map T.int))),iv (q:Int),vl (.lst ((nms c0 q).map T.str)),vl (.lst ((nms c1 12).map T.str)),none,none,none,none,none]:=by
  have e1:=ES (p:=2) (Fn:=Bt) (fs:=[vl sc,some (.own (.lst (d1.map T.int))),iv (q:Int),vl (.lst ((nms c0 q).map T.str)),none,none,none,none,none,none]) (As (AJ (Ac (i:=0) rfl)) (As (AB (t:=.int 1)) (show Ak _=.ok [] _ from rfl))) rfl (by rw [show CG _ _=[] from rfl];exact List.nodup_nil) ec1 (AO rfl);have e2:=ET (p:=2) (Fn:=CL) (As (Ew e1) (As (AB (t:=.int 12)) (show Ak _=.ok [] _ from rfl))) rfl (by rw [show CG _ _=[] from rfl];exact List.nodup_nil) en1 (AO rfl);exact Eb (Ka e2) rfl
 obtain⟨K,x1,x6,x7,x8,x9,hK,KO,hu,ef⟩:=MQ (sc:=sc) (many:=q) (names:=nms c0 q) (makers:=nms c1 12) (ds:=d1) (Gd _ _) q4 (Gd _ _) (by omega);have s5:AS 5 (Av Ee Ak) [vl sc,some (.own (.lst (d1.map T.int))),iv (q:Int),vl (.lst ((nms c0 q).map T.str)),vl (.lst ((nms c1 12).map T.str)),none,none,none,none,none]=.nx [vl sc,some (.own (.lst (d1.map T.int))),iv (q:Int),vl (.lst ((nms c0 q).map T.str)),vl (.lst ((nms c1 12).map T.str)),some (.own (.lst [])),none,none,none,none]:=rfl;have s6:AS 6 (gc (.int 0)) [vl sc,some (.own (.lst (d1.map T.int))),iv (q:Int),vl (.lst ((nms c0 q).map T.str)),vl (.lst ((nms c1 12).map T.str)),some (.own (.lst [])),none,none,none,none]=.nx [vl sc,some (.own (.lst (d1.map T.int))),iv (q:Int),vl (.lst ((nms c0 q).map T.str)),vl (.lst ((nms c1 12).map T.str)),some (.own (.lst [])),iv 0,none,none,none]:=rfl;have all:FX [vl sc,none,none,none,none,none,none,none,none,none]=.ret (.rf 5) [vl sc,x1,iv (q:Int),vl (.lst ((nms c0 q).map T.str)),vl (.lst ((nms c1 12).map T.str)),some (.own (.lst (K.map Af))),x6,x7,x8,x9]:=by
  unfold FX;rw [AQ s1,AQ s2,AQ s3,AQ s4,AQ s5,AQ s6,AQ (Hx (n:=q) (fa:=Ab (Aa 2) Ak) (Az (Ac rfl) rfl) (by omega) ef)];rfl
 refine⟨K,by omega,by omega,by rw [hK];exact KO,hu,?_⟩;unfold Eh DK;show(match FX [vl sc,none,none,none,none,none,none,none,none,none] with | .nx τ=>_ | .ret (.t t) τ=>_ | .ret (.nw o) τ=>_ | .ret (.rf i) τ=>_ | .exc c τ=>_ | _=>_)=_;rw [all];rfl
theorem Vr{fv fi:FS->Out Rv}{o:Nat}{fs fs':FS}{v:T}{k:Str}{ks:List Key}{ts:List T}(h0:fs[o]?=some (some (.own (.dK ks ts))))(hv:fv fs=.ok (.t v) fs)(hi:fi fs=.ok (.t (.str k)) fs)(hn:(ks.any fun k'=>decide (k'=(.inr k:Key)))=false)(hl:ks.length < big)
  (e:fs.set o (some (.own (.dK (ks++[.inr k]) (ts++[v]))))=fs'):Cq fv (Aa o) fi fs=.nx fs':=by
 have h1:Aa o fs=.ok (.rf o) fs:=by unfold Aa;rw [h0]
 have h2:FL.Bg fs o=some (.dK ks ts):=by unfold FL.Bg;rw [h0]
 have h3:IM ks ts (.inr k:Key) v=(ks++[.inr k],ts++[v]):=by
  unfold IM;rw [hn];rfl
 have h4:FL.putAt fs o (.dK (ks++[.inr k]) (ts++[v]))=fs':=by
  unfold FL.putAt;rw [h0];exact e
 have h5:MY (.rf o) (.t (.str k)) (.t v) fs=.bad:=rfl;have h6:OP (.rf o) (.t (.str k)) (.t v) fs=.nx fs':=by
  simp only [OP,h2,Nh,hl,if_true,h3,h4]
 unfold Cq;rw [hv];simp only [Out.bnd,Out.bind];rw [h1];simp only;rw [hi];simp only [SO.of];unfold Q7;rw [h5];exact h6
theorem Fq{i j:Nat}{fs fs1 fs2:FS}{x y:T}(h1:tgN i x fs=some fs1)(h2:tgN j y fs1=some fs2):A3 2 (An (tgN i) (An (tgN j) A0)) (.tup [x,y]) fs=some fs2:=by
 have e:A3 2 (An (tgN i) (An (tgN j) A0)) (.tup [x,y]) fs=An (tgN i) (An (tgN j) A0) [x,y] fs:=rfl;rw [e];simp only [An,h1,h2,Option.bind_some,A0]
def DL(K:Kd):List Key:=K.map fun kd=>(.inr kd.1:Key)
theorem any_false{ks:List Key}{k:Key}(h:k∉ks):(ks.any fun k'=>decide (k'=k))=false:=by
 rw [List.any_eq_false];intro x hx;rw [decide_eq_true_eq];intro e;exact h (e▸hx)
theorem sq{g h:FS->SO}{fs fs':FS}{r:SO}(e:g fs=.nx fs')(e2:h fs'=r):AL g h fs=r:=(AQ e).trans e2
theorem BM{f:FS->Out Rv}{fs fs1:FS}{b:Bool}(h:f fs=.ok (.t (.bl b)) fs1):asB f fs=.ok b fs1:=by
 unfold asB;rw [h];rfl
theorem KW{f:FS->Out Bool}{fs fs1:FS}{b:Bool}(h:f fs=.ok b fs1):HR f fs=.ok (!b) fs1:=by
 unfold HR;rw [h];rfl
theorem IE{f:FS->Out Rv}{fs fs1:FS}{b:Bool}(h:f fs=.ok (.t (.bl b)) fs1):ID f fs=.ok b fs1:=by
 unfold ID;rw [h];rfl
theorem Wb{c:FS->Out Bool}{g h:FS->SO}{fs fs1:FS}{r:SO}(hc:c fs=.ok false fs1)(e:h fs1=r):ifS c g h fs=r:=by
 unfold ifS;rw [hc];exact e
theorem CJ{i:Nat}{fs:FS}{o:FO}(h:fs[i]?=some (some (.own o))):Aa i fs=.ok (.rf i) fs:=by unfold Aa;rw [h]
theorem GP{i:Nat}{fs:FS}{o:FO}(h:fs[i]?=some (some (.bor o))):Aa i fs=.ok (.rf i) fs:=by unfold Aa;rw [h]
theorem UX{i:Nat}{fs:FS}{o:FO}(h:fs[i]?=some (some (.own o))):FL.Bg fs i=some o:=by unfold FL.Bg;rw [h]
theorem UY{i:Nat}{fs:FS}{o:FO}(h:fs[i]?=some (some (.bor o))):FL.Bg fs i=some o:=by unfold FL.Bg;rw [h]
theorem Fm{g:Rv->Rv->FS->Out Rv}{fa fb:FS->Out Rv}{fs:FS}{x:T}{i:Nat}{r:Out Rv}(h1:fa fs=.ok (.t x) fs)(h2:fb fs=.ok (.rf i) fs)(h3:g (.t x) (.rf i) fs=r):Ae g fa fb fs=r:=by
 unfold Ae;rw [h1];show(fb fs).bnd _=r;rw [h2];exact h3
theorem Gm{f:FS->Out Rv}{fs fs1:FS}{r:Rv}(h:f fs=.ok r fs1):Bq f fs=.nx fs1:=by
 unfold Bq;rw [h];rfl
theorem Jy{κ:Type}[DecidableEq κ]:∀{ks:List κ} {ts:List T} {k:κ},k∉ks->GB ks ts k=none
 | [],_,_,_=>by unfold GB;rfl
 | k' :: ks,[],k,_=>by unfold GB;rfl
 | k' :: ks,t :: ts,k,h=>by
  have h1:k'≠k:=fun e=>h (e▸List.mem_cons_self)
  have h2:k∉ks:=fun m=>h (List.mem_cons_of_mem _ m)
  simp only [GB,if_neg h1,Jy h2]
theorem V9{neg:Bool}{k:Str}{i:Nat}{ks:List Key}{ts:List T}{fs:FS}(h:FL.Bg fs i=some (.dK ks ts)):D5 neg (.t (.str k)) (.rf i) fs=.ok (.t (.bl (if neg then !(GB ks ts (.inr k:Key)).isSome else(GB ks ts (.inr k:Key)).isSome))) fs:=by
 unfold D5 orG;have e:Ug neg (.t (.str k)) (.rf i) fs=.ok (.t (.bl (if neg then !(GB ks ts (.inr k:Key)).isSome else(GB ks ts (.inr k:Key)).isSome))) fs:=by
  simp only [Ug,U5,h,Nh,Option.map_some];rfl
 rw [e]
theorem IT:∀xs:List Str,To (xs.map T.str)=some (xs.map V.str)
 | []=>rfl
 | x :: xs=>by
  simp only [List.map_cons,To,plV,Option.bind_some,IT xs,Option.map_some]
theorem K7(k:Str):∀xs:List Str,inV (.str k) (xs.map V.str)=decide (k∈xs)
 | []=>by simp [inV]
 | x :: xs=>by
  have:=K7 k xs;unfold inV at this ⊢;rw [List.map_cons,List.any_cons,this];have e:eqV (.str x) (.str k)=decide (k=x):=by
   by_cases h:k=x
   ·subst h;simp [eqV]
   ·have h':x≠k:=fun e=>h e.symm
    simp [eqV,h,h']
  rw [e,Bool.eq_iff_iff];simp
theorem OI{neg:Bool}{k:Str}{xs:List Str}{fs:FS}:D5 neg (.t (.str k)) (.t (.lst (xs.map T.str))) fs=.ok (.t (.bl (if neg then !decide (k∈xs) else decide (k∈xs)))) fs:=by
 have e:gIn neg (.t (.str k)) (.t (.lst (xs.map T.str))) fs=.ok (.t (.bl (if neg then !decide (k∈xs) else decide (k∈xs)))) fs:=by
  simp only [gIn,plV,Dn,IT,okT,K7]
 exact e
theorem LX{neg:Bool}{k:Str}{xs:List Str}{i:Nat}{fs:FS}(h:FL.Bg fs i=some (.lst (xs.map T.str))):D5 neg (.t (.str k)) (.rf i) fs=.ok (.t (.bl (if neg then !decide (k∈xs) else decide (k∈xs)))) fs:=by
 have e:gIn neg (.t (.str k)) (.rf i) fs=.ok (.t (.bl (if neg then !decide (k∈xs) else decide (k∈xs)))) fs:=by
  simp only [gIn,plV,Dn,h,IT,okT,K7]
 have e1:Ug neg (.t (.str k)) (.rf i) fs=.bad:=by
  simp only [Ug,U5,h]
 unfold D5 orG;rw [e1];exact e
theorem Jb{x:T}{ts:List T}{f:FS->Out Rv}{fs fs1:FS}(h:f fs=.ok (.t x) fs1)(hs:x=.lst ts∨x=.tup ts):Am AY (Ab f Ak) fs=.ok (.t (.int ts.length)) fs1:=by
 unfold Am;rw [Dt h (show Ak fs1=.ok [] fs1 from rfl)];rcases hs with rfl | rfl <;> rfl
theorem Fl{p:Nat}{Fn:FS->Out Rv}{fa:FS->Out (List Rv)}{fs fs1 τ:FS}{rs:List Rv}{t:T}(ha:fa fs=.ok rs fs1)(hp:rs.length=p)(hn:CG fs1 (rs.map BQ)=[])(hf:Fn (Dp fs1 (rs.map BQ))=.ok (.t t) τ):Am (AD p Fn) fa fs=.ok (.t t) fs1 :=
 ES ha hp (by rw [hn];exact List.nodup_nil) hf (AO hn)
theorem AV{fs:FS}:Ak fs=.ok [] fs:=rfl
theorem XR{fa fb:FS->Out Rv}{fs:FS}{a b:Int}(h1:fa fs=.ok (.t (.int a)) fs)(h2:fb fs=.ok (.t (.int b)) fs):asB (Ae gGt fa fb) fs=.ok (decide (b < a)) fs:=BM (Ag h1 h2 rfl)
theorem YG{fa fb:FS->Out Rv}{fs:FS}{a b:Int}(h1:fa fs=.ok (.t (.int a)) fs)(h2:fb fs=.ok (.t (.int b)) fs)(h:¬ b < a):asB (Ae gGt fa fb) fs=.ok false fs:=by
 rw [XR h1 h2,decide_eq_false h]
theorem XU{x y:Str}{fs:FS}:gEq false (.t (.str x)) (.t (.str y)) fs=.ok (.t (.bl (decide (x=y)))) fs:=by
 have q:decide (V.str x=V.str y)=decide (x=y):=by
  by_cases h:x=y
  ·subst h;simp
  ·rw [decide_eq_false h,decide_eq_false (by intro z;cases z;exact h rfl)]
 show(if MC (V.str x) (V.str y)=true then okT (.bl (if false=true then _ else decide (V.str x=V.str y))) fs else .bad)=_;rw [if_pos (show MC (V.str x) (V.str y)=true from rfl),q];rfl
theorem Wz{fa fb:FS->Out Rv}{fs:FS}{x y:Str}(h1:fa fs=.ok (.t (.str x)) fs)(h2:fb fs=.ok (.t (.str y)) fs):asB (Ae (gEq false) fa fb) fs=.ok (decide (x=y)) fs:=BM (Ag h1 h2 XU)
theorem BX{m:Str}{ps names:List Str}{ks:List Key}{vs:List T}(hn:Bj [vl (.str m)]=.ok (.t (.bl true)) [vl (.str m)])(hk:(.inr m:Key)∉ks)(h2:ps.length<=2)(hp:∀p∈ps,p∈names) :
  Be [vl (.str m),vl (.tup (ps.map T.str)),some (.bor (.dK ks vs)),vl (.lst (names.map T.str))]=.ok (.t .non) [vl (.str m),vl (.tup (ps.map T.str)),some (.bor (.dK ks vs)),vl (.lst (names.map T.str))]:=by
 have all:∃x4,BY [vl (.str m),vl (.tup (ps.map T.str)),some (.bor (.dK ks vs)),vl (.lst (names.map T.str)),none]=.nx [vl (.str m),vl (.tup (ps.map T.str)),some (.bor (.dK ks vs)),vl (.lst (names.map T.str)),x4]:=by
  unfold BY;obtain⟨fs',ef,x4,rfl,f4,_⟩:=DV (gt:=tgN 4) (body:=(ifS (asB (Ae (D5 true) (fz (Aa 4)) (Aa 3))) (DA "NoKind" (Aa 4)) nxS))
   (fun ts fs=>∃x4,fs=[vl (.str m),vl (.tup (ps.map T.str)),some (.bor (.dK ks vs)),vl (.lst (names.map T.str)),x4]/\Fre x4/\∀t∈ts,∃p∈names,t=.str p)
   (fun t' ts fs h=>by
    obtain⟨x4,rfl,f4,ht⟩:=h;obtain⟨p,mp,rfl⟩:=ht t' List.mem_cons_self;refine⟨_,_,(by unfold tgN;exact Ba rfl f4),Bh (BM (b:=false) (Ag (AJ (Ac rfl)) (Ac rfl) ?_)) rfl,_,rfl,AZ,fun t m=>ht t (List.mem_cons_of_mem _ m)⟩;rw [OI,decide_eq_true mp];rfl)
   (ps.map T.str) [vl (.str m),vl (.tup (ps.map T.str)),some (.bor (.dK ks vs)),vl (.lst (names.map T.str)),none] ⟨none,rfl,AA,fun t mt=>by
    rw [List.mem_map] at mt;obtain⟨p,mp,rfl⟩:=mt;exact⟨p,hp p mp,rfl⟩⟩
  refine⟨x4,?_⟩;refine sq (Wb (KW (IE (Ew (Fl (As (AJ (Ac (t:=.str m) rfl)) AV) rfl rfl hn)))) rfl) ?_;refine sq (Bh (BM (b:=false) (Fm (AJ (Ac (t:=.str m) rfl)) (GP rfl) ?_)) rfl) ?_
  ·rw [V9 (UY rfl),Jy hk]
   rfl
  refine sq (Bh (YG (Jb (Ac rfl) (.inr rfl)) AB (by rw [List.length_map];omega)) rfl) ?_;exact ef
 obtain⟨x4,all⟩:=all;unfold Be DK;show(match BY [vl (.str m),vl (.tup (ps.map T.str)),some (.bor (.dK ks vs)),vl (.lst (names.map T.str)),none] with | .nx τ=>_ | .ret (.t t) τ=>_ | .ret (.nw o) τ=>_ | .ret (.rf i) τ=>_ | .exc c τ=>_ | _=>_)=_;rw [all];rfl
theorem BG{m:Str}{ps names:List Str}(hp:∀p∈ps,p∈names) :
  Bo [vl (.str m),vl (.tup (ps.map T.str)),some (.bor (.lst (names.map T.str)))]=.ok (.t .non) [vl (.str m),vl (.tup (ps.map T.str)),some (.bor (.lst (names.map T.str)))]:=by
 have all:∃x3,Cc [vl (.str m),vl (.tup (ps.map T.str)),some (.bor (.lst (names.map T.str))),none]=.nx [vl (.str m),vl (.tup (ps.map T.str)),some (.bor (.lst (names.map T.str))),x3]:=by
  unfold Cc;obtain⟨fs',ef,x4,rfl,f4,_⟩:=DV (gt:=tgN 3) (body:=(ifS (asB (Ae (D5 true) (fz (Aa 3)) (Aa 2))) (Hd "Groundless" (Aa 0) (Aa 3)) nxS))
   (fun ts fs=>∃x4,fs=[vl (.str m),vl (.tup (ps.map T.str)),some (.bor (.lst (names.map T.str))),x4]/\Fre x4/\∀t∈ts,∃p∈names,t=.str p)
   (fun t' ts fs h=>by
    obtain⟨x4,rfl,f4,ht⟩:=h;obtain⟨p,mp,rfl⟩:=ht t' List.mem_cons_self;refine⟨_,_,(by unfold tgN;exact Ba rfl f4),Bh (BM (b:=false) (Fm (AJ (Ac rfl)) (GP rfl) ?_)) rfl,_,rfl,AZ,fun t m=>ht t (List.mem_cons_of_mem _ m)⟩;rw [LX (UY rfl),decide_eq_true mp];rfl)
   (ps.map T.str) [vl (.str m),vl (.tup (ps.map T.str)),some (.bor (.lst (names.map T.str))),none] ⟨none,rfl,AA,fun t mt=>by
    rw [List.mem_map] at mt;obtain⟨p,mp,rfl⟩:=mt;exact⟨p,hp p mp,rfl⟩⟩
  exact⟨x4,ef⟩
 obtain⟨x4,all⟩:=all;unfold Bo DK;show(match Cc [vl (.str m),vl (.tup (ps.map T.str)),some (.bor (.lst (names.map T.str))),none] with | .nx τ=>_ | .ret (.t t) τ=>_ | .ret (.nw o) τ=>_ | .ret (.rf i) τ=>_ | .exc c τ=>_ | _=>_)=_;rw [all];rfl
theorem FK{α:Type}{fe:FS->Out Rv}{f g h:α->T}{rest:FS}:∀(xs:List α) (x y:Option Sl) (acc:List T),Fre x->Fre y->(∀a∈xs,fe (vl (f a) :: vl (g a) :: rest)=.ok (.t (h a)) (vl (f a) :: vl (g a) :: rest))->acc.length+xs.length<=big ->
  ∃x' y',Fre x'/\Fre y'/\Cs (A3 2 (An (tgN 0) (An (tgN 1) A0))) DX fe (xs.map fun a=>.tup [f a,g a]) (x :: y :: rest) acc=some (acc++xs.map h,x' :: y' :: rest)
 | [],x,y,acc,hx,hy,_,_=>⟨x,y,hx,hy,by simp [Cs]⟩
 | a :: xs,x,y,acc,hx,hy,he,hl=>by
  obtain⟨x',y',fx,fy,e⟩:=FK xs (vl (f a)) (vl (g a)) (acc++[h a]) AZ AZ (fun t' m=>he t' (List.mem_cons_of_mem _ m)) (by simp at hl ⊢;omega);refine⟨x',y',fx,fy,?_⟩;have h1:A3 2 (An (tgN 0) (An (tgN 1) A0)) (.tup [f a,g a]) (x :: y :: rest)=some (vl (f a) :: vl (g a) :: rest) :=
   Fq (by unfold tgN;exact Ba rfl hx) (by unfold tgN;exact Ba rfl hy)
  have h2:=he a List.mem_cons_self;have h3:acc.length < big:=by simp at hl;omega
  rw [List.map_cons];simp only [Cs,h1,DX,h2,if_pos h3,e];simp
def mks(K:Kd):List Str:=K.flatMap fun kd=>kd.2.map (·.1)
def CD(K:Kd):List Key:=(mks K).map fun m=>(.inr m:Key)
structure Well(K:Kd):Prop where
 lo:1<=K.length
 hi:K.length<=4
 nd:(K.map (·.1)).Nodup
 nm:∀kd∈K,Bj [vl (.str kd.1)]=.ok (.t (.bl true)) [vl (.str kd.1)]
 rw:∀kd∈K,1<=kd.2.length/\kd.2.length<=4
 mnd:(mks K).Nodup
 mnm:∀m∈mks K,Bj [vl (.str m)]=.ok (.t (.bl true)) [vl (.str m)]
 mln:∀m∈mks K,m.length<=12
 two:∀kd∈K,∀r∈kd.2,r.2.length<=2
 prt:∀kd∈K,∀r∈kd.2,∀x∈r.2,x∈K.map (·.1)
 gr:∀D kd R,K=D++kd :: R->∀r,kd.2[0]?=some r->∀x∈r.2,x∈D.map (·.1)
theorem Od{K:Kd}{kd:Str×List (Str×List Str)}{r:Str×List Str}(h1:kd∈K)(h2:r∈kd.2):r.1∈mks K:=List.mem_flatMap.mpr ⟨kd,h1,List.mem_map.mpr ⟨r,h2,rfl⟩⟩
theorem T4{K:Kd}(h4:K.length<=4)(hr:∀kd∈K,kd.2.length<=4):(mks K).length<=16:=by
 have:∀K:Kd,(∀kd∈K,kd.2.length<=4)->(mks K).length<=4 * K.length:=by
  intro K
  induction K with
  | nil=>intro _;simp [mks]
  | cons kd K ih =>
   intro h;have:=ih fun kd m=>h kd (List.mem_cons_of_mem _ m)
   have h1:=h kd List.mem_cons_self;unfold mks at this ⊢;rw [List.flatMap_cons,List.length_append,List.length_map,List.length_cons];omega
 have:=this K hr;omega
theorem Ja(D R:Kd):mks (D++R)=mks D++mks R:=by unfold mks;rw [List.flatMap_append]
theorem EJ(kd:Str×List (Str×List Str))(R:Kd):mks (kd :: R)=kd.2.map (·.1)++mks R:=by unfold mks;rw [List.flatMap_cons]
def EV(r:Str×List Str):Key:=.inr r.1
theorem Ij(D:Kd)(kd:Str×List (Str×List Str)):CD (D++[kd])=CD D++kd.2.map EV:=by
 unfold CD;rw [Ja,EJ,List.map_append,List.map_append,List.map_map];simp [mks,EV,Function.comp_def]
theorem OD{xs:List Str}(h:xs.Nodup):(xs.map fun m=>(.inr m:Key)).Nodup:=by
 induction xs with
 | nil=>simp
 | cons x xs ih =>
  rw [List.nodup_cons] at h;rw [List.map_cons,List.nodup_cons];refine⟨fun m=>?_,ih h.2⟩;rw [List.mem_map] at m;obtain⟨y,my,e⟩:=m;have:y=x:=by simpa using e
  exact h.1 (this▸my)
theorem Well.part{K:Kd}(W:Well K){D R:Kd}{kd:Str×List (Str×List Str)}(e:D++kd :: R=K):(CD D++kd.2.map EV).Nodup/\(CD D).length+kd.2.length < 1000/\kd∈K/\(kd.2.map (·.1)).Nodup:=by
 have h:=W.mnd;have hl:=T4 W.hi fun kd m=>(W.rw kd m).2
 rw [<- e,Ja,EJ] at h hl;refine⟨?_,?_,by rw [<- e];simp,?_⟩
 ·rw [<- Ij]
  refine OD ?_;rw [Ja,EJ];simp only [mks,List.flatMap_nil,List.append_nil];rw [<- List.append_assoc] at h;exact(List.nodup_append.mp h).1
 ·unfold CD
  rw [List.length_map];simp at hl;omega
 ·exact(List.nodup_append.mp (List.nodup_append.mp h).2.1).1
theorem OZ{C:Addr}{f:Str}{i:Nat}{fv:FS->Out Rv}{fs fs1 fs':FS}{gs gs':List Str}{os os':List FO}{o:FO}(hv:fv fs=.ok (.nw o) fs1)(h0:fs1[i]?=some (some (.bor (.ins C gs os))))(hl:gs.length < 900)(hp:HM gs os f o=some (gs',os'))(e:fs1.set i (some (.bor (.ins C gs' os')))=fs'):U3 C f i fv fs=.nx fs':=by
 unfold U3;rw [hv];simp only [SO.of,X6,UY h0];rw [if_pos ⟨trivial,hl⟩,hp];simp only;unfold FL.putAt;rw [h0];simp only [Sl.put,e]
theorem Lm{C:Addr}{f:Str}{i j:Nat}{fv:FS->Out Rv}{fs fs1 fs':FS}{gs:List Str}{os:List FO}{ks:List Key}{ts:List T}{k:Str}{t:T}(hv:fv fs=.ok (.t t) fs1)(h0:fs1[i]?=some (some (.bor (.ins C gs os))))(hj:fs1[j]?=some (vl (.str k)))(hf:Em gs os f=some (.dK ks ts))(hn:(.inr k:Key)∉ks)(hl:ks.length < big)
  (e:fs1.set i (some (.bor (.ins C gs (FZ gs os f (.dK (ks++[.inr k]) (ts++[t]))))))=fs'):D6 C f i j fv fs=.nx fs':=by
 have h3:IM ks ts (.inr k:Key) t=(ks++[.inr k],ts++[t]):=by
  unfold IM;rw [any_false hn];rfl
 unfold D6;rw [hv];simp only [SO.of,UY h0,hj,Nh,hf,if_true,hl,h3];unfold FL.putAt;rw [h0];simp only [Sl.put,e]
def JO(rows:List (Str×List Str)):List T:=rows.map fun r=>T.tup (r.2.map T.str)
def KI(K:Kd):List T:=K.flatMap fun kd=>JO kd.2
def EU(K:Kd):List T:=K.map fun kd=>T.lst ((kd.2.map (·.1)).map T.str)
theorem NK(D:Kd)(kd:Str×List (Str×List Str)):KI (D++[kd])=KI D++JO kd.2:=by unfold KI;simp
theorem OE{C:Addr}{A B H:Str}(hAB:A≠B)(hAH:A≠H)(hBH:B≠H){oA:FO}{sc mk:T}{k:Str}{rows:List (Str×List Str)}{ks0:List Key}{ps0 hs0:List T}{x4 x5:Option Sl}(f4:Fre x4)(f5:Fre x5)(hnd:(ks0++rows.map EV).Nodup)(hlen:ks0.length+rows.length < 1000) :
  ∃(y4 y5:Option Sl) (hs:List T),Fre y4/\Fre y5/\Dk (A3 2 (An (tgN 4) (An (tgN 5) A0))) (AL (D6 C B 0 4 (Am FC (Ab (Aa 5) Ak)))
  (D6 C H 0 4 (fz (Aa 2)))) (rows.map AN) [some (.bor (.ins C [A,B,H] [oA,.dK ks0 ps0,.dK ks0 hs0])),vl sc,vl (.str k),vl mk,x4,x5] =
   .nx [some (.bor (.ins C [A,B,H] [oA,.dK (ks0++rows.map EV) (ps0++JO rows),.dK (ks0++rows.map EV) hs])),vl sc,vl (.str k),vl mk,y4,y5]:=by
 obtain⟨fs',ef,D,R,y4,y5,hs,rfl,eD,eR,g4,g5⟩:=DV (gt:=A3 2 (An (tgN 4) (An (tgN 5) A0))) (body:=AL (D6 C B 0 4 (Am FC (Ab (Aa 5) Ak)))
  (D6 C H 0 4 (fz (Aa 2))))
  (fun ts fs=>∃(D R:List (Str×List Str)) (y4 y5:Option Sl) (hs:List T),fs=[some (.bor (.ins C [A,B,H] [oA,.dK (ks0++D.map EV) (ps0++JO D),.dK (ks0++D.map EV) hs])),vl sc,vl (.str k),vl mk,y4,y5]/\D++R=rows/\ts=R.map AN/\Fre y4/\Fre y5)
  (fun t' ts fs h=>by
   obtain⟨D,R,y4,y5,hs,rfl,eD,eR,g4,g5⟩:=h;cases R with
   | nil=>cases eR
   | cons r R =>
    rw [List.map_cons] at eR;obtain⟨e1,e2⟩:=List.cons.inj eR;subst e1;have hnot:(.inr r.1:Key)∉ks0++D.map EV:=by
     rw [<- eD,List.map_append,List.map_cons,<- List.append_assoc,List.nodup_append] at hnd;intro m;exact hnd.2.2 _ m (EV r) (by simp) rfl
    have hl:(ks0++D.map EV).length < big:=by
     have:=congrArg List.length eD;simp at this;rw [List.length_append,List.length_map];show _ < 1000000;omega
    have v1:Em [A,B,H] [oA,.dK (ks0++D.map EV) (ps0++JO D),.dK (ks0++D.map EV) hs] B=some (.dK (ks0++D.map EV) (ps0++JO D)):=by
     simp [Em,Ne.symm hAB]
    have s1:FZ [A,B,H] [oA,.dK (ks0++D.map EV) (ps0++JO D),.dK (ks0++D.map EV) hs] B (.dK (ks0++D.map EV++[.inr r.1]) (ps0++JO D++[.tup (r.2.map T.str)]))=[oA,.dK (ks0++D.map EV++[.inr r.1]) (ps0++JO D++[.tup (r.2.map T.str)]),.dK (ks0++D.map EV) hs]:=by
     simp [FZ,Ne.symm hAB]
    have v2:Em [A,B,H] [oA,.dK (ks0++D.map EV++[.inr r.1]) (ps0++JO D++[.tup (r.2.map T.str)]),.dK (ks0++D.map EV) hs] H=some (.dK (ks0++D.map EV) hs):=by
     simp [Em,Ne.symm hAH,Ne.symm hBH]
    have s2:FZ [A,B,H] [oA,.dK (ks0++D.map EV++[.inr r.1]) (ps0++JO D++[.tup (r.2.map T.str)]),.dK (ks0++D.map EV) hs] H (.dK (ks0++D.map EV++[.inr r.1]) (hs++[.str k]))=[oA,.dK (ks0++D.map EV++[.inr r.1]) (ps0++JO D++[.tup (r.2.map T.str)]),.dK (ks0++D.map EV++[.inr r.1]) (hs++[.str k])]:=by
     simp [FZ,Ne.symm hAH,Ne.symm hBH]
    refine⟨[some (.bor (.ins C [A,B,H] [oA,.dK (ks0++D.map EV) (ps0++JO D),.dK (ks0++D.map EV) hs])),vl sc,vl (.str k),vl mk,vl (.str r.1),vl (.tup (r.2.map T.str))],[some (.bor (.ins C [A,B,H] [oA,.dK (ks0++D.map EV++[.inr r.1]) (ps0++JO D++[.tup (r.2.map T.str)]),.dK (ks0++D.map EV++[.inr r.1]) (hs++[.str k])])),vl sc,vl (.str k),vl mk,vl (.str r.1),vl (.tup (r.2.map T.str))],Fq (by unfold tgN;exact Ba rfl g4) (by unfold tgN;exact Ba rfl g5),?_,D++[r],R,vl (.str r.1),vl (.tup (r.2.map T.str)),hs++[.str k],?_,by rw [<- eD];simp,e2,AZ,AZ⟩
    ·refine sq (Lm (t:=.tup (r.2.map T.str)) (Du (Az (Ac rfl) rfl) rfl) rfl rfl v1 hnot hl rfl) ?_
     rw [s1];refine Lm (t:=.str k) (AJ (Ac rfl)) rfl rfl v2 hnot hl ?_;rw [s2];rfl
    ·unfold JO
     rw [List.map_append,List.map_append,<- List.append_assoc,<- List.append_assoc];rfl)
  (rows.map AN) [some (.bor (.ins C [A,B,H] [oA,.dK ks0 ps0,.dK ks0 hs0])),vl sc,vl (.str k),vl mk,x4,x5] ⟨[],rows,x4,x5,hs0,by simp [JO],rfl,rfl,f4,f5⟩
 have hR:R=[]:=by
  cases R with
  | nil=>rfl
  | cons a b=>cases eR
 subst hR;rw [List.append_nil] at eD;subst eD;exact⟨y4,y5,hs,g4,g5,ef⟩
theorem LO:("makers_by_kind":Str)≠("parts_by_maker":Str)/\("makers_by_kind":Str)≠("home_by_maker":Str)/\("parts_by_maker":Str)≠("home_by_maker":Str):=by decide +kernel
def JD(C:Addr)(K:Kd)(hs:List T):FO:=.ins C ["makers_by_kind","parts_by_maker","home_by_maker"] [.dK (DL K) (EU K),.dK (CD K) (KI K),.dK (CD K) hs]
theorem Mz{C:Addr}{K:Kd}(W:Well K)(hck:BU [vl (.lst (K.map Af))]=.ok (.t .non) [vl (.lst (K.map Af))])(hcm:BI [vl (.lst (K.map Af))]=.ok (.t .non) [vl (.lst (K.map Af))]):∃hs,A4 C [some (.bor (.ins C [] [])),vl (.lst (K.map Af))]=.ok (.t .non) [some (.bor (JD C K hs)),vl (.lst (K.map Af))]:=by
 have all:∃hs x2 x3 x4 x5,CA C [some (.bor (.ins C [] [])),vl (.lst (K.map Af)),none,none,none,none]=.nx [some (.bor (JD C K hs)),vl (.lst (K.map Af)),x2,x3,x4,x5]:=by
  unfold CA JD;obtain⟨hAB,hAH,hBH⟩:=LO;generalize ("makers_by_kind":Str)=A at hAB hAH ⊢;generalize ("parts_by_maker":Str)=B at hAB hBH ⊢;generalize ("home_by_maker":Str)=H at hAH hBH ⊢;obtain⟨fs',ef,D,R,x2,x3,x4,x5,hs,rfl,eD,eR,g2,g3,g4,g5⟩:=DV (gt:=A3 2 (An (tgN 2) (An (tgN 3) A0))) (body:=(AL (D6 C A 0 2 (BW false [none,none] (itU (fz (Aa 3))) (A3 2 (An (tgN 0) (An (tgN 1) A0))) DX (fz (Aa 0))))
  (Eg (itU (fz (Aa 3))) (A3 2 (An (tgN 4) (An (tgN 5) A0))) (AL (D6 C B 0 4 (Am FC (Ab (Aa 5) Ak)))
  (D6 C H 0 4 (fz (Aa 2)))))))
   (fun ts fs=>∃(D R:Kd) (x2 x3 x4 x5:Option Sl) (hs:List T),fs=[some (.bor (.ins C [A,B,H] [.dK (DL D) (EU D),.dK (CD D) (KI D),.dK (CD D) hs])),vl (.lst (K.map Af)),x2,x3,x4,x5]/\D++R=K/\ts=R.map Af/\Fre x2/\Fre x3/\Fre x4/\Fre x5)
   (fun t' ts fs h=>by
    obtain⟨D,R,x2,x3,x4,x5,hs,rfl,eD,eR,g2,g3,g4,g5⟩:=h;cases R with
    | nil=>cases eR
    | cons kd R =>
     rw [List.map_cons] at eR;obtain⟨e1,e2⟩:=List.cons.inj eR;subst e1;obtain⟨w1,w2,hm,w3⟩:=W.part eD;have hnd:=W.nd;have hnot:(.inr kd.1:Key)∉DL D:=by
      intro m;unfold DL at m;rw [List.mem_map] at m;obtain⟨kd',m',e'⟩:=m;have e'':kd'.1=kd.1:=by simpa using e'
      rw [<- eD,List.map_append,List.nodup_append] at hnd;exact hnd.2.2 kd'.1 (List.mem_map.mpr ⟨kd',m',rfl⟩) kd.1 (by simp) e''
     have hlen:(DL D).length < big:=by
      unfold DL;rw [List.length_map];have:=congrArg List.length eD;have h4:=W.hi;simp at this;show D.length < 1000000;omega
     have v1:Em [A,B,H] [.dK (DL D) (EU D),.dK (CD D) (KI D),.dK (CD D) hs] A=some (.dK (DL D) (EU D)):=by simp [Em]
     have s1:FZ [A,B,H] [.dK (DL D) (EU D),.dK (CD D) (KI D),.dK (CD D) hs] A (.dK (DL D++[.inr kd.1]) (EU D++[.lst ((kd.2.map (·.1)).map T.str)]))=[.dK (DL D++[.inr kd.1]) (EU D++[.lst ((kd.2.map (·.1)).map T.str)]),.dK (CD D) (KI D),.dK (CD D) hs]:=by simp [FZ]
     have c1:BW false [none,none] (itU (fz (Aa 3))) (A3 2 (An (tgN 0) (An (tgN 1) A0))) DX (fz (Aa 0)) [some (.bor (.ins C [A,B,H] [.dK (DL D) (EU D),.dK (CD D) (KI D),.dK (CD D) hs])),vl (.lst (K.map Af)),vl (.str kd.1),vl (.lst (kd.2.map AN)),x4,x5]=.ok (.t (.lst ((kd.2.map (·.1)).map T.str))) [some (.bor (.ins C [A,B,H] [.dK (DL D) (EU D),.dK (CD D) (KI D),.dK (CD D) hs])),vl (.lst (K.map Af)),vl (.str kd.1),vl (.lst (kd.2.map AN)),x4,x5]:=by
      obtain⟨x,y,_,_,e⟩:=FK (fe:=fz (Aa 0)) (f:=fun r:Str×List Str=>.str r.1) (g:=fun r=>.tup (r.2.map T.str)) (h:=fun r=>.str r.1) (rest:=[]) kd.2 none none [] AA AA (fun kd _=>AJ (Ac rfl)) (by have:=(W.rw kd hm).2;show 0+_<=1000000;omega);have:=Df (src:=[none,none]) (fi:=itU (fz (Aa 3))) (fs:=[some (.bor (.ins C [A,B,H] [.dK (DL D) (EU D),.dK (CD D) (KI D),.dK (CD D) hs])),vl (.lst (K.map Af)),vl (.str kd.1),vl (.lst (kd.2.map AN)),x4,x5]) (ts:=kd.2.map AN) rfl ⟨by rw [show CG _ (List.map _ [none,none])=[] from rfl];exact List.nodup_nil,by rfl⟩ e (AO rfl);rw [this,List.nil_append,List.map_map];rfl
     obtain⟨y4,y5,hs',f4,f5,el⟩:=OE (C:=C) hAB hAH hBH (oA:=.dK (DL D++[.inr kd.1]) (EU D++[.lst ((kd.2.map (·.1)).map T.str)])) (sc:=.lst (K.map Af)) (mk:=.lst (kd.2.map AN)) (k:=kd.1) (rows:=kd.2) (ks0:=CD D) (ps0:=KI D) (hs0:=hs) (x4:=x4) (x5:=x5) g4 g5 w1 w2;refine⟨[some (.bor (.ins C [A,B,H] [.dK (DL D) (EU D),.dK (CD D) (KI D),.dK (CD D) hs])),vl (.lst (K.map Af)),vl (.str kd.1),vl (.lst (kd.2.map AN)),x4,x5],[some (.bor (.ins C [A,B,H] [.dK (DL D++[.inr kd.1]) (EU D++[.lst ((kd.2.map (·.1)).map T.str)]),.dK (CD D++kd.2.map EV) (KI D++JO kd.2),.dK (CD D++kd.2.map EV) hs'])),vl (.lst (K.map Af)),vl (.str kd.1),vl (.lst (kd.2.map AN)),y4,y5],Fq (by unfold tgN;exact Ba rfl g2) (by unfold tgN;exact Ba rfl g3),?_,D++[kd],R,vl (.str kd.1),vl (.lst (kd.2.map AN)),y4,y5,hs',?_,by rw [<- eD];simp,e2,AZ,AZ,f4,f5⟩
     ·refine sq (Lm (t:=.lst ((kd.2.map (·.1)).map T.str)) c1 rfl rfl v1 hnot hlen rfl) ?_
      rw [s1];exact el
     ·rw [Ij,NK]
      unfold DL EU;rw [List.map_append,List.map_append];rfl)
   (K.map Af) [some (.bor (.ins C [A,B,H] [.dK [] [],.dK [] [],.dK [] []])),vl (.lst (K.map Af)),none,none,none,none] ⟨[],K,none,none,none,none,[],rfl,rfl,rfl,AA,AA,AA,AA⟩
  have hR:R=[]:=by
   cases R with
   | nil=>rfl
   | cons a b=>cases eR
  subst hR;rw [List.append_nil] at eD;subst eD;refine⟨hs,x2,x3,x4,x5,?_⟩;refine sq (Gm (Fl (As (AJ (Ac (t:=.lst (D.map Af)) rfl)) AV) rfl rfl hck)) ?_;refine sq (Gm (Fl (As (AJ (Ac (t:=.lst (D.map Af)) rfl)) AV) rfl rfl hcm)) ?_;refine sq (fs':=[some (.bor (.ins C [A] [.dK [] []])),vl (.lst (D.map Af)),none,none,none,none]) (OZ (o:=.dK [] []) rfl rfl (show 0 < 900 by decide) rfl rfl) ?_;refine sq (fs':=[some (.bor (.ins C [A,B] [.dK [] [],.dK [] []])),vl (.lst (D.map Af)),none,none,none,none]) (OZ (o:=.dK [] []) rfl rfl (show 1 < 900 by decide) (by simp [HM,hAB]) rfl) ?_;refine sq (fs':=[some (.bor (.ins C [A,B,H] [.dK [] [],.dK [] [],.dK [] []])),vl (.lst (D.map Af)),none,none,none,none]) (OZ (o:=.dK [] []) rfl rfl (show 2 < 900 by decide) (by simp [HM,hAH,hBH]) rfl) ?_;exact ef
 obtain⟨hs,x2,x3,x4,x5,all⟩:=all;refine⟨hs,?_⟩;unfold A4 DK;show(match CA C [some (.bor (.ins C [] [])),vl (.lst (K.map Af)),none,none,none,none] with | .nx τ=>_ | .ret (.t t) τ=>_ | .ret (.nw o) τ=>_ | .ret (.rf i) τ=>_ | .exc c τ=>_ | _=>_)=_;rw [all];rfl
def CB(C:Addr)(K:Kd)(hs:List T):T:=.ins C ["makers_by_kind","parts_by_maker","home_by_maker"] [.dK (DL K) (EU K),.dK (CD K) (KI K),.dK (CD K) hs]
theorem Wm{C:Addr}{K:Kd}{hs:List T}{i:Nat}{fs:FS}(h:fs[i]?=some (vl (CB C K hs))):W5 C "makers_by_kind" (Aa i) fs=.ok (.t (.dK (DL K) (EU K))) fs:=by
 unfold W5;rw [Ac h];obtain⟨hAB,hAH,hBH⟩:=LO;unfold CB;generalize ("makers_by_kind":Str)=A at *;simp [Out.bnd,Out.bind,XT,SX,okT]
theorem Qi{C:Addr}{K:Kd}{hs:List T}:Cm C [vl (CB C K hs)]=.ok (.nw (.lst ((K.map (·.1)).map T.str))) [vl (CB C K hs)]:=by
 have all:CP C [vl (CB C K hs)]=.ret (.nw (.lst ((K.map (·.1)).map T.str))) [vl (CB C K hs)]:=by
  unfold CP;refine Bk (Du (Az (Wm rfl) rfl) ?_);show Out.ok (Rv.nw (.lst ((DL K).map UZ))) _=_;unfold DL;rw [List.map_map,List.map_map];rfl
 unfold Cm DK;show(match CP C [vl (CB C K hs)] with | .nx τ=>_ | .ret (.t t) τ=>_ | .ret (.nw o) τ=>_ | .ret (.rf i) τ=>_ | .exc c τ=>_ | _=>_)=_;rw [all];rfl
theorem OC:(["makers_by_kind","parts_by_maker","home_by_maker"]:List Str).any (· == ("kinds":Str))=false/\(["makers_by_kind","parts_by_maker","home_by_maker"]:List Str).any (· == ("makers":Str))=false/\(["makers_by_kind","parts_by_maker","home_by_maker"]:List Str).any (· == ("parts":Str))=false:=by decide +kernel
theorem QW{C:Addr}{mt:Str}{fs:FS}{K:Kd}{hs:List T}(h:(["makers_by_kind","parts_by_maker","home_by_maker"]:List Str).any (· == mt)=false):K6 C mt fs (.t (CB C K hs))=true:=by
 unfold K6 CB;simp only [h];simp
theorem Hw{gt:T->FS->Option FS}{body:FS->SO}{t:T}{ts:List T}{fs fs1 fs2:FS}(h1:gt t fs=some fs1)(h2:body fs1=.nx fs2):Dk gt body (t :: ts) fs=Dk gt body ts fs2:=by
 simp only [Dk,h1,h2]
theorem Ef{gt:T->FS->Option FS}{body:FS->SO}{t:T}{ts:List T}{fs fs1 fs2:FS}{r:Rv}(h1:gt t fs=some fs1)(h2:body fs1=.ret r fs2):Dk gt body (t :: ts) fs=.ret r fs2:=by
 simp only [Dk,h1,h2]
theorem Rt{gt:T->FS->Option FS}{fe:FS->Out Rv}{t v:T}{ts acc:List T}{τ τ1 τ2:FS}(h1:gt t τ=some τ1)(h2:fe τ1=.ok (.t v) τ2)(hl:acc.length < big):Cs gt DX fe (t :: ts) τ acc=Cs gt DX fe ts τ2 (acc++[v]):=by
 simp only [Cs,h1,DX,h2,if_pos hl]
theorem Yk{f:FS->Out Rv}{i j:Nat}{fs fs1 fs2 fs':FS}{x y:T}(h:f fs=.ok (.t (.tup [x,y])) fs1)(h1:tgN i x fs1=some fs2)(h2:tgN j y fs2=some fs'):SN f (A3 2 (An (tgN i) (An (tgN j) A0))) fs=.nx fs':=by
 unfold SN;rw [h];show(match A3 2 (An (tgN i) (An (tgN j) A0)) (.tup [x,y]) fs1 with | some fs=>SO.nx fs | none=>.bad)=_;rw [Fq h1 h2]
theorem Mo{g:Rv->Rv->FS->Out Rv}{fa fb:FS->Out Rv}{fs:FS}{y:T}{i:Nat}{r:Out Rv}(h1:fa fs=.ok (.rf i) fs)(h2:fb fs=.ok (.t y) fs)(h3:g (.rf i) (.t y) fs=r):Ae g fa fb fs=r:=by
 unfold Ae;rw [h1];show(fb fs).bnd _=r;rw [h2];exact h3
theorem Tb{fv fi:FS->Out Rv}{o:Nat}{fs fs':FS}{v:T}{k:Int}{j:Nat}{ts:List T}(hv:fv fs=.ok (.t v) fs)(h0:fs[o]?=some (some (.own (.lst ts))))(hi:fi fs=.ok (.t (.int k)) fs)(hj:ixN ts.length k=some j)(e:fs.set o (some (.own (.lst (ts.set j v))))=fs'):Cq fv (Aa o) fi fs=.nx fs':=by
 have h1:Aa o fs=.ok (.rf o) fs:=CJ h0;have h2:FL.Bg fs o=some (.lst ts):=UX h0;have h4:FL.putAt fs o (.lst (ts.set j v))=fs':=by
  unfold FL.putAt;rw [h0];exact e
 have h5:MY (.rf o) (.t (.int k)) (.t v) fs=.nx fs':=by
  simp only [MY,h2,hj,h4]
 unfold Cq;rw [hv];simp only [Out.bnd,Out.bind];rw [h1];simp only;rw [hi];simp only [SO.of];unfold Q7;rw [h5]
theorem Vh{fs:FS}{i:Nat}{ts:List T}(h:fs[i]?=some (some (.own (.lst ts)))):Dn fs (.rf i)=some ts:=by simp only [Dn,UX h]
theorem Lx{f g:FS->Out Bool}{fs:FS}{a b:Bool}(h1:f fs=.ok a fs)(h2:g fs=.ok b fs):Ly f g fs=.ok (a && b) fs:=by
 unfold Ly;rw [h1];cases a
 ·rfl
 ·show g fs=_
  rw [h2];rfl
theorem WL{ps us:List T}{fs:FS}(h:ps.length+us.length<=big):AF (.t (.tup ps)) (.t (.tup us)) fs=.ok (.t (.tup (ps++us))) fs:=by
 cases ps with
 | nil=>rfl
 | cons p ps =>
  have:OV (.t (.tup (p :: ps))) (.t (.tup us)) fs=.ok (.t (.tup (p :: ps++us))) fs:=if_pos ⟨by simp,h⟩;show(match OV (.t (.tup (p :: ps))) (.t (.tup us)) fs with | .bad=>_ | o=>o)=_;rw [this]
theorem S6:("a":Str).length=1:=by decide +kernel
open Builtin.Int (intBits)
theorem Gp{x:Int}{n:Nat}:intBits x<=n↔x.natAbs < 2 ^ n:=by
 unfold intBits;by_cases h:x=0
 ·subst h
  simp [Nat.two_pow_pos]
 ·have h':(x == 0)=false:=by simpa using h
  rw [h'];have hn:x.natAbs≠0:=by omega
  have:=Nat.log2_lt hn (k:=n);simp only [Bool.false_eq_true,if_false];omega
theorem bits_add{x y:Int}{n:Nat}(h1:intBits x<=n)(h2:intBits y<=n):intBits (x+y)<=n+1:=by
 rw [Gp] at h1 h2 ⊢;rw [Nat.pow_succ];generalize 2 ^ n=m at *;omega
theorem bits_mul{x y:Int}{n m:Nat}(h1:intBits x<=n)(h2:intBits y<=m):intBits (x * y)<=n+m:=by
 rw [Gp] at h1 h2 ⊢;rw [Int.natAbs_mul,Nat.pow_add];have hp:0 < 2 ^ n:=Nat.two_pow_pos n
 calc x.natAbs * y.natAbs<=2 ^ n * y.natAbs:=Nat.mul_le_mul_right _ (by omega)
  _ < 2 ^ n * 2 ^ m:=Nat.mul_lt_mul_of_pos_left h2 hp
theorem Ml{n:Nat}:∀zs:List Int,(∀z∈zs,intBits z<=n)->zs.sum.natAbs<=zs.length * 2 ^ n
 | [],_=>by simp
 | z :: zs,h=>by
  have h1:=Ml zs fun z m=>h z (List.mem_cons_of_mem _ m)
  have h2:=h z List.mem_cons_self;rw [Gp] at h2;rw [List.sum_cons,List.length_cons,Nat.add_mul,Nat.one_mul];generalize zs.length * 2 ^ n=q at *;generalize 2 ^ n=m at *;omega
theorem Mn:∀{ns:List Int} {z:Int},z∈ns->intBits z<=Cv ns
 | n :: ns,z,h=>by
  simp only [Cv];rcases List.mem_cons.mp h with rfl | h
  ·omega
  ·have:=Mn h
   omega
theorem Mm{ns:List Int}{N:Nat}(hb:Cv ns<=N)(i:Nat):intBits (ns.getD i 0)<=N:=by
 by_cases h:i < ns.length
 ·have:ns.getD i 0∈ns:=by
   simp [List.getD,h]
  have:=Mn this;omega
 ·have:ns.getD i 0=0:=by simp [List.getD,List.getElem?_eq_none (by omega:ns.length<=i)]
  rw [this,Gp];exact Nat.two_pow_pos N
theorem Gq{x:Int}{n:Nat}(h:x.natAbs < 2 ^ n):intBits x<=n:=Gp.mpr h
theorem mixed{a:Int}(ha:a=3∨a=4){ns:List Int}{N:Nat}(hN:N<=2 ^ 20)(hb:Cv ns<=N):∃v τ,Dr [vl (.scr (ns.map T.int)),iv a,iv 5]=.ok (.t (.int v)) τ:=by
 have all:∃v τ,FV [vl (.scr (ns.map T.int)),iv a,iv 5,none,none]=.ret (.t (.int v)) τ:=by
  unfold FV;obtain⟨zs,⟨hl,hz⟩,e1⟩:=drawn (t:=.scr (ns.map T.int)) (ns:=ns) (.inl rfl) (a:=a) (b:=5) (by omega) (by omega) (by decide) (by decide) [none,none];have hs:intBits zs.sum<=N+6:=by
   have:=Ml (n:=N) zs fun z m=>by
    obtain⟨i,rfl⟩:=hz z m;exact Mm hb i
   rw [Gp,Nat.pow_add];have hp:=Nat.two_pow_pos N;have h2:zs.length * 2 ^ N<=63 * 2 ^ N:=Nat.mul_le_mul_right _ hl;generalize 2 ^ N=m at *;omega
  generalize zs.sum=c at e1 hs;generalize T.scr (ns.map T.int)=sc at e1 ⊢;have s3:AS 3 (Am Q6 (Ab (BW false [none,some 0] (QV (Ab (Aa 1) (Ab (Am HV (Ab (Am AY (Ab (Aa 0) Ak)) (Ab (gc (.int 63)) Ak))) (Ab (Aa 2) Ak)))) (tgN 0) DX (Ae AX (Aa 1) (fz (Aa 0)))) Ak)) [vl sc,iv a,iv 5,none,none]=.nx [vl sc,iv a,iv 5,iv c,none]:=Bb e1 rfl;have ce:=FJ (fa:=Ae BA (Aa 3) (gc (.int 2))) (fb:=gc (.int 0)) (fs:=[vl sc,iv a,iv 5,iv c,none]) (i:=c % 2) (Ag (Ac rfl) AB (Bz (by decide))) AB;by_cases h0:c % 2=0
  ·rw [decide_eq_true h0] at ce
   have hp:Ud (.t (.int 10)) (.t (.int 60)) [vl sc,iv a,iv 5,iv c,none]=.ok (.t (.int (10 ^ 60))) [vl sc,iv a,iv 5,iv c,none]:=by
    show(if(0:Int)<=60/\(60:Int)<=1000000/\(10:Int).natAbs < 2 ^ 64 then okT (.int (10 ^ (60:Int).toNat)) _ else .bad)=_;rw [if_pos ⟨by decide,by decide,by decide⟩];rfl
   have hq:(0:Int) < 10 ^ 60:=by decide
   generalize (10:Int) ^ 60=P at hp hq;exact⟨_,_,sq s3 (BC (CH ce (Bk (Ag (Ag (Ac rfl) AB (Dj ⟨by decide,by decide⟩)) (Ag AB AB hp) (Bz hq)))))⟩
  ·rw [decide_eq_false h0] at ce
   have hN6:N+6<=2 ^ 26:=by
                   have:(2:Nat) ^ 20=1048576:=by decide
                   have:(2:Nat) ^ 26=67108864:=by decide
                   omega
   have b1:intBits (c * c)<=(N+6)+(N+6):=bits_mul hs hs;have b2:intBits (c * c+c)<=(N+6)+(N+6)+1:=bits_add b1 (by omega);have b3:intBits (c * c+c+a)<=(N+6)+(N+6)+1+1:=bits_add b2 (Nat.le_trans (Gq (n:=3) (by rcases ha with rfl | rfl <;> decide)) (by omega));have b4:intBits (c * c+c+a+1)<=(N+6)+(N+6)+1+1+1:=bits_add b3 (Nat.le_trans (Gq (n:=3) (by decide)) (by omega));have b5:intBits ((c * c+c+a+1) * 982451653)<=(N+6)+(N+6)+1+1+1+30:=bits_mul b4 (Gq (by decide));have m1:Ae Bp (Aa 3) (Aa 3) [vl sc,iv a,iv 5,iv c,none]=.ok (.t (.int (c * c))) [vl sc,iv a,iv 5,iv c,none]:=Ag (Ac rfl) (Ac rfl) (Lb ⟨by omega,by omega⟩);have m2:Ae Bp (Ae AF (Ae AF (Ae AF (Ae Bp (Aa 3) (Aa 3)) (Aa 3)) (Aa 1)) (gc (.int 1))) (gc (.int 982451653)) [vl sc,iv a,iv 5,iv c,none]=.ok (.t (.int ((c * c+c+a+1) * 982451653))) [vl sc,iv a,iv 5,iv c,none] :=
    Ag (Ag (Ag (Ag m1 (Ac rfl) BR) (Ac rfl) BR) AB BR) AB (OQ ⟨by decide,by decide⟩)
   generalize (c * c+c+a+1) * 982451653=f at m2 b5;have s4:=Bb (i:=4) m2 (fs':=[vl sc,iv a,iv 5,iv c,iv f]) rfl;have hff:intBits f<=2 ^ 26:=by
    have:(2:Nat) ^ 20=1048576:=by decide
    have:(2:Nat) ^ 26=67108864:=by decide
    omega
   have hp:Ud (.t (.int 10)) (.t (.int 18)) [vl sc,iv a,iv 5,iv c,iv f]=.ok (.t (.int 1000000000000000000)) [vl sc,iv a,iv 5,iv c,iv f]:=by
    show(if(0:Int)<=18/\(18:Int)<=1000000/\(10:Int).natAbs < 2 ^ 64 then okT (.int (10 ^ (18:Int).toNat)) _ else .bad)=_;rw [if_pos ⟨by decide,by decide,by decide⟩];rfl
   have m3:Ae BA (Ae Bp (Aa 4) (Aa 4)) (Ae AF (Ae Ud (gc (.int 10)) (gc (.int 18))) (gc (.int 9))) [vl sc,iv a,iv 5,iv c,iv f]=.ok (.t (.int (f * f % (1000000000000000000+9)))) [vl sc,iv a,iv 5,iv c,iv f] :=
    Ag (Ag (Ac rfl) (Ac rfl) (Lb ⟨hff,hff⟩)) (Ag (Ag AB AB hp) AB BR) (Bz (by decide))
   have hg:-(2 ^ 64) < f * f % (1000000000000000000+9)/\f * f % (1000000000000000000+9) < 2 ^ 64:=by
    have h1:=Int.emod_nonneg (f * f) (show(1000000000000000000+9:Int)≠0 by decide);have h2:=Int.emod_lt_of_pos (f * f) (show(0:Int) < 1000000000000000000+9 by decide);generalize f * f % (1000000000000000000+9)=g at h1 h2 ⊢;omega
   generalize f * f % (1000000000000000000+9)=g at m3 hg;have m4:Ae AF (Ae BA (Aa 4) (gc (.int 2147483629))) (gc (.int 7)) [vl sc,iv a,iv 5,iv c,iv f]=.ok (.t (.int (f % 2147483629+7))) [vl sc,iv a,iv 5,iv c,iv f]:=Ag (Ag (Ac rfl) AB (Bz (by decide))) AB BR;exact⟨_,_,sq s3 (sq (Bh ce rfl) (sq s4 (Bk (Ag m3 m4 (Hu hg)))))⟩
 obtain⟨v,τ,all⟩:=all;refine⟨v,τ.take 3,?_⟩;unfold Dr DK;show(match FV [vl (.scr (ns.map T.int)),iv a,iv 5,none,none] with | .nx τ=>_ | .ret (.t t) τ=>_ | .ret (.nw o) τ=>_ | .ret (.rf i) τ=>_ | .exc c τ=>_ | _=>_)=_;rw [all];rfl
theorem J1(c:Int){n:Nat}(h:n<=12):(nms c n).Nodup:=by
 unfold nms;rw [List.nodup_iff_pairwise_ne,List.pairwise_map];refine List.Pairwise.imp_of_mem ?_ (List.nodup_iff_pairwise_ne.mp (List.nodup_range (n:=n)));intro a b ma mb hab e;rw [List.mem_range] at ma mb;exact hab (TZ (by omega) (by omega) e)
theorem TU(c:Int){n i:Nat}(h:i < n):(nms c n).getD i ⟨#[]⟩=nmS c i:=by
 unfold nms;simp [List.getD,h]
theorem KY{c:Int}{n:Nat}{x:Str}(h:x∈nms c n):∃k,x=nmS c k:=by
 unfold nms at h;rw [List.mem_map] at h;obtain⟨k,_,e⟩:=h;exact⟨k,e.symm⟩
theorem N7(c:Int)(k:Nat):(nmS c k).length<=12:=by
 show(Nm.codes c k).toArray.size<=12;rw [List.size_toArray];exact Nm.Mg c k
theorem HX(K:Kd)(kd:Str×List (Str×List Str)):used (K++[kd])=used K+kd.2.length:=by
 unfold used;simp
theorem I0{names makers:List Str}{K:Kd}(h:KOk names makers K)(hu:used K<=makers.length):∀a,a<=K.length->mks (K.take a)=makers.take (used (K.take a))/\used (K.take a)<=used K
 | 0,_=>by simp [mks,used]
 | a+1,ha=>by
  obtain⟨i1,i2⟩:=I0 h hu a (by omega);have hlt:a < K.length:=by omega
  obtain⟨_,_,_,R⟩:=h.at_ a K[a] (List.getElem?_eq_getElem hlt);have e:K.take (a+1)=K.take a++[K[a]]:=by rw [List.take_succ_eq_append_getElem hlt]
  have hle:used (K.take (a+1))<=used K:=by
   have:K=K.take (a+1)++K.drop (a+1):=(List.take_append_drop _ _).symm
   conv=>rhs;rw [this]
   unfold used;rw [List.map_append,List.sum_append];omega
  refine⟨?_,hle⟩;rw [e] at hle ⊢;rw [Ja,HX,i1,EJ];rw [HX] at hle;simp only [mks,List.flatMap_nil,List.append_nil];rw [R.mks];generalize used (K.take a)=u at *;generalize K[a].2.length=l at *;rw [List.take_add];congr 1;refine List.ext_getElem? fun j=>?_
  rw [List.getElem?_take];by_cases hj:j < l
  ·rw [if_pos hj,List.getElem?_drop,List.getElem?_map,List.getElem?_range hj]
   have:u+j < makers.length:=by omega
   simp [List.getD,this]
  ·rw [if_neg hj,List.getElem?_eq_none (by simp;omega)]
theorem well{c0 c1:Int}{K:Kd}(h1:1<=K.length)(h4:K.length<=4)(h:KOk (nms c0 K.length) (nms c1 12) K)(hu:used K<=12):Well K:=by
 have hnames:K.map (·.1)=nms c0 K.length:=by
  refine List.ext_getElem? fun i=>?_
  rw [List.getElem?_map];by_cases hi:i < K.length
  ·have:=(h.at_ i K[i] (List.getElem?_eq_getElem hi)).1
   rw [List.getElem?_eq_getElem hi,Option.map_some,this,List.getElem?_eq_getElem (by rw [Gd];exact hi)];simp [List.getD,Gd,hi]
  ·rw [List.getElem?_eq_none (by omega),List.getElem?_eq_none (by rw [Gd];omega)]
   rfl
 have hmks:mks K=(nms c1 12).take (used K):=by
  have:=(I0 h (by rw [Gd];exact hu) K.length (Nat.le_refl _)).1;rwa [List.take_length] at this
 have hat:∀kd∈K,∃a,a < K.length/\1<=kd.2.length/\kd.2.length<=4/\Rows (nms c0 K.length) (nms c1 12) a (used (K.take a)) kd.2:=fun kd m=>by
  obtain⟨a,ha,ea⟩:=List.mem_iff_getElem.mp m;obtain⟨_,q1,q2,R⟩:=h.at_ a kd (by rw [List.getElem?_eq_getElem ha,ea]);exact⟨a,ha,q1,q2,R⟩
 have hmm:∀m∈mks K,∃k,m=nmS c1 k:=fun m hm=>by
  rw [hmks] at hm;exact KY (List.mem_of_mem_take hm)
 refine⟨h1,h4,?_,fun kd m=>?_,fun kd m=>?_,?_,fun m hm=>?_,fun m hm=>?_,fun kd m r hr=>?_,fun kd m r hr x hx=>?_,fun D kd R e r hr x hx=>?_⟩
 ·rw [hnames]
  exact J1 c0 (by omega)
 ·have:kd.1∈nms c0 K.length:=by rw [<- hnames];exact List.mem_map.mpr ⟨kd,m,rfl⟩
  obtain⟨k,e⟩:=KY this;rw [e];exact Il c0 k
 ·obtain⟨a,_,q1,q2,_⟩:=hat kd m
  exact⟨q1,q2⟩
 ·rw [hmks]
  exact(J1 c1 (Nat.le_refl 12)).sublist (List.take_sublist _ _)
 ·obtain⟨k,e⟩:=hmm m hm
  rw [e];exact Il c1 k
 ·obtain⟨k,e⟩:=hmm m hm
  rw [e];exact N7 c1 k
 ·obtain⟨a,_,_,_,R⟩:=hat kd m
  exact R.two r hr
 ·obtain⟨a,_,_,_,R⟩:=hat kd m
  rw [hnames];exact R.prt r hr x hx
 ·obtain⟨_,_,_,Rw⟩:=h.at_ D.length kd (by rw [e];simp)
  have:=Rw.fst r hr x hx;rw [<- hnames,e,List.map_append] at this;rwa [List.take_left' (by simp)] at this
theorem Ls{xs ys:List T}{fs:FS}(h:xs.length+ys.length<=big):AF (.t (.lst xs)) (.t (.lst ys)) fs=.ok (.nw (.lst (xs++ys))) fs:=by
 have:Jj (.t (.lst xs)) (.t (.lst ys)) fs=.ok (.nw (.lst (xs++ys))) fs:=by
  simp only [Jj,exL];exact if_pos h
 show(match Jj (.t (.lst xs)) (.t (.lst ys)) fs with | .bad=>_ | o=>o)=_;rw [this]
theorem QB{f g:FS->Out Bool}{fs:FS}{r:Out Bool}(h:f fs=.ok false fs)(e:g fs=r):orT f g fs=r:=by
 unfold orT;rw [h];exact e
theorem RS{fs:FS}{i:Nat}{o:FO}{x:Option Sl}(e:fs[i]?=some x)(h:Fre x):Jv i (.nw o) fs=some (fs.set i (some (.own o))):=by
 unfold Jv;rw [e];cases x with
 | none=>rfl
 | some s=>cases s with
  | val t=>rfl
  | own o=>rfl
  | bor o=>exact h.elim
theorem Fv{n:Nat}{g:FS->SO}{args τ:FS}{t:T}(h:g (args++List.replicate n none)=.ret (.t t) τ):DK n g args=.ok (.t t) (τ.take args.length):=by
 unfold DK;rw [h]
theorem K4{f:FS->Out Rv}{fs:FS}{ts:List T}(h:f fs=.ok (.t (.tup ts)) fs):itU f fs=.ok ts fs:=by
 unfold itU;rw [h];rfl
theorem HC{α:Type}{fe:FS->Out Rv}{p q:α->T}{rest:FS}:∀(xs:List α) (x:Option Sl) (acc:List T),Fre x->(∀a∈xs,fe (vl (p a) :: rest)=.ok (.t (q a)) (vl (p a) :: rest))->acc.length+xs.length<=big ->
  ∃y,Fre y/\Cs (tgN 0) DX fe (xs.map p) (x :: rest) acc=some (acc++xs.map q,y :: rest)
 | [],x,acc,hx,_,_=>⟨x,hx,by simp [Cs]⟩
 | a :: xs,x,acc,hx,h,hl=>by
  obtain⟨y,hy,e⟩:=HC xs (vl (p a)) (acc++[q a]) AZ (fun b m=>h b (List.mem_cons_of_mem _ m)) (by simp at hl ⊢;omega);refine⟨y,hy,?_⟩;have h1:tgN 0 (p a) (x :: rest)=some (vl (p a) :: rest):=by
   unfold tgN;rw [Ba (x:=x) rfl hx];rfl
  have h2:=h a List.mem_cons_self;have h3:acc.length < big:=by simp at hl;omega
  simp only [List.map_cons,Cs,h1,DX,h2,if_pos h3,e];simp
theorem LD{n:Nat}{g:FS->SO}{args τ:FS}{i:Nat}{o:FO}(h:g (args++List.replicate n none)=.ret (.rf i) τ)(hi:τ[i]?=some (some (.own o))):DK n g args=.ok (.nw o) ((τ.set i none).take args.length):=by
 unfold DK;rw [h];simp only [hi]
theorem Ll(m:Nat)(a b:Str):eqT m (.str a) (.str b)=some (a == b):=by cases m <;> rfl
theorem Pf(m:Nat)(xs ys:List T):eqT (m+1) (.tup xs) (.tup ys)=(HL (eqT m) xs ys).map (· && xs.length == ys.length):=rfl
theorem Et{f:FS->Out Rv}{fs:FS}{ts:List T}(h:f fs=.ok (.t (.lst ts)) fs):itU f fs=.ok ts fs:=by
 unfold itU;rw [h];rfl
theorem Td{n:Nat}{g:FS->SO}{args τ:FS}{o:FO}(h:g (args++List.replicate n none)=.ret (.nw o) τ):DK n g args=.ok (.nw o) (τ.take args.length):=by
 unfold DK;rw [h]
theorem Cu{g h:FS->SO}{fs fs':FS}{c:Str}(e:g fs=.exc c fs'):AL g h fs=.exc c fs':=by unfold AL;rw [e]
theorem Ff{gt:T->FS->Option FS}{body:FS->SO}{t:T}{ts:List T}{fs fs1 fs2:FS}{c:Str}(h1:gt t fs=some fs1)(h2:body fs1=.exc c fs2):Dk gt body (t :: ts) fs=.exc c fs2:=by
 simp only [Dk,h1,h2]
theorem EI{n:Nat}{g:FS->SO}{args τ:FS}{c:Str}(h:g (args++List.replicate n none)=.exc c τ):DK n g args=.exc c (τ.take args.length):=by
 unfold DK;rw [h]
theorem Kq{p:Nat}{Fn:FS->Out Rv}{fa:FS->Out (List Rv)}{fs fs1 τ:FS}{rs:List Rv}{c:Str}(ha:fa fs=.ok rs fs1)(hp:rs.length=p)(hn:CG fs1 (rs.map BQ)=[])(hf:Fn (Dp fs1 (rs.map BQ))=.exc c τ):Am (AD p Fn) fa fs=.exc c fs1:=by
 have hb:En (rs.map BQ) τ fs1=some fs1:=AO hn;unfold Am;rw [ha];show AD p Fn rs fs1=_;unfold AD;rw [if_pos hp];unfold HF;rw [if_pos (by rw [hn];exact List.nodup_nil),hf];simp only [hb]
theorem Ey{f:FS->Out Rv}{fs fs1:FS}{c:Str}(h:f fs=.exc c fs1):Bq f fs=.exc c fs1:=by unfold Bq;rw [h];rfl
abbrev V0:Str:="abcdefghijklmnopqrstuvwxyz"
def sgn(c:Nat):Str:=⟨#[c]⟩
def isL(c:Nat):Bool:=!(Builtin.Str.occurrences V0 (sgn c) 0 V0.length 1).isEmpty
def isNm(z:Str):Bool:=decide (1<=z.length/\z.length<=12) && z.cps.toList.all isL
theorem Si{neg:Bool}{c:Nat}{fs:FS}:D5 neg (.t (.str (sgn c))) (.t (.str V0)) fs=.ok (.t (.bl (if neg then !isL c else isL c))) fs:=rfl
theorem Mf{fe:FS->Out Rv}{h:Nat->T}:∀(cs:List Nat) (x:Option Sl) (acc:List T),Fre x->(∀c∈cs,fe [vl (.str (sgn c))]=.ok (.t (h c)) [vl (.str (sgn c))])->acc.length+cs.length<=1000->∃y,Cs (tgN 0) DX fe (cs.map fun c=>T.str (sgn c)) [x] acc=some (acc++cs.map h,[y])
 | [],x,acc,_,_,_=>⟨x,by simp [Cs]⟩
 | c :: cs,x,acc,fx,he,hl=>by
  rw [List.length_cons] at hl;obtain⟨y,e⟩:=Mf (fe:=fe) (h:=h) cs (vl (.str (sgn c))) (acc++[h c]) AZ (fun c m=>he c (List.mem_cons_of_mem _ m)) (by rw [List.length_append];simp;omega);refine⟨y,?_⟩;rw [List.map_cons,Rt (by unfold tgN;exact Ba rfl fx) (he c (by simp)) (by show _ < 1000000;omega),e];simp
theorem Jn{fe:FS->Out Rv}{ft:FS->Out Bool}{p:Nat->Bool}(hf:∀c,ft [vl (.str (sgn c))]=.ok (p c) [vl (.str (sgn c))])(he:∀c,fe [vl (.str (sgn c))]=.ok (.t (.str (sgn c))) [vl (.str (sgn c))]):∀(cs:List Nat) (x:Option Sl) (acc:List T),Fre x->acc.length+cs.length<=1000->∃y,Cs (tgN 0) ft fe (cs.map fun c=>T.str (sgn c)) [x] acc=some (acc++(cs.filter p).map (fun c=>T.str (sgn c)),[y])
 | [],x,acc,_,_=>⟨x,by simp [Cs]⟩
 | c :: cs,x,acc,fx,hl=>by
  rw [List.length_cons] at hl;have g:tgN 0 (T.str (sgn c)) [x]=some [vl (.str (sgn c))]:=by unfold tgN;exact Ba rfl fx
  cases hp:p c with
  | true =>
   obtain⟨y,e⟩:=Jn hf he cs (vl (.str (sgn c))) (acc++[.str (sgn c)]) AZ (by rw [List.length_append];simp;omega);refine⟨y,?_⟩;rw [List.map_cons,Cs];simp only [g,hf,hp,he];rw [if_pos (show acc.length < big by show _ < 1000000;omega),e,List.filter_cons,hp];simp
  | false =>
   obtain⟨y,e⟩:=Jn hf he cs (vl (.str (sgn c))) acc AZ (by omega);refine⟨y,?_⟩;rw [List.map_cons,Cs];simp only [g,hf,hp];rw [e,List.filter_cons,hp];simp
theorem len_str{i:Nat}{z:Str}{fs:FS}(h:fs[i]?=some (vl (.str z)))(hz:z.length<=1000):Am AY (Ab (Aa i) Ak) fs=.ok (.t (.int z.length)) fs:=by
 have e:Lc [.t (.str z)] fs=.ok (.t (.int z.length)) fs:=if_pos (show z.length<=1000000 by omega);refine Du (Az (Ac h) rfl) ?_;unfold AY orC;show(match orC Lc OT [.t (.str z)] fs with | o=>o)=_;unfold orC;rw [e]
theorem between{f:FS->Out Rv}{n:Nat}{m:Int}{fs:FS}(h:f fs=.ok (.t (.int n)) fs):HR (asB (chain gLe gLe (gc (.int 1)) f (gc (.int m)))) fs=.ok (!decide (1<=n/\(n:Int)<=m)) fs:=by
 have e1:gLe (.t (.int 1)) (.t (.int n)) fs=.ok (.t (.bl (decide ((1:Int)<=n)))) fs:=rfl;have e2:gLe (.t (.int n)) (.t (.int m)) fs=.ok (.t (.bl (decide ((n:Int)<=m)))) fs:=rfl;by_cases h1:(1:Int)<=n
 ·rw [decide_eq_true h1] at e1
  simp only [HR,asB,chain,gc,Out.bnd,Out.bind,h,e1,e2];congr 2;rw [decide_eq_decide];constructor
  ·exact fun z=>⟨by omega,z⟩
  ·exact fun z=>z.2
 ·rw [decide_eq_false h1] at e1
  simp only [HR,asB,chain,gc,Out.bnd,Out.bind,h,e1];rw [decide_eq_false (by omega)]
theorem outside{f:FS->Out Rv}{n:Nat}{m:Int}{fs:FS}(h:f fs=.ok (.t (.int n)) fs):orT (asB (Ae gLt f (gc (.int 1)))) (asB (Ae gGt f (gc (.int m)))) fs=.ok (!decide (1<=n/\(n:Int)<=m)) fs:=by
 have e1:asB (Ae gLt f (gc (.int 1))) fs=.ok (decide ((n:Int) < 1)) fs:=BM (Ag h AB rfl);have e2:asB (Ae gGt f (gc (.int m))) fs=.ok (decide ((n:Int) > m)) fs:=BM (Ag h AB rfl);by_cases h1:(n:Int) < 1
 ·rw [decide_eq_true h1] at e1
  unfold orT;rw [e1,decide_eq_false (show ¬(1<=n/\(n:Int)<=m) by omega)];rfl
 ·rw [decide_eq_false h1] at e1
  rw [QB e1 e2];congr 1;rw [<- decide_not,decide_eq_decide];omega
theorem GO{z:Str}(hz:z.length<=1000):Bj [vl (.str z)]=.ok (.t (.bl (isNm z))) [vl (.str z)]:=by
 have hc:=between (m:=12) (len_str (i:=0) (fs:=[vl (.str z)]) rfl hz);refine(Fv (n:=0) (g:=DI) (args:=[vl (.str z)]) (τ:=[vl (.str z)]) ?_).trans rfl;unfold DI;by_cases h:1<=z.length/\(z.length:Int)<=12
 ·rw [decide_eq_true h] at hc
  refine sq (Bh hc rfl) ?_;obtain⟨y,e2⟩:=Mf (fe:=Ae (D5 false) (fz (Aa 0)) (gc (.str V0))) (h:=fun c=>.bl (isL c)) z.cps.toList none [] AA (fun c m=>Ag (AJ (Ac rfl)) AB Si) (by rw [Array.length_toList];show 0+z.length<=1000;omega);have e3:=Df (src:=[none]) (fi:=itU (fz (Aa 0))) (fs:=[vl (.str z)]) (ts:=signs z) rfl ⟨by rw [show CG [vl (.str z)] _=[] from rfl];exact List.nodup_nil,by rfl⟩ e2 (AO rfl);rw [List.nil_append,show z.cps.toList.map (fun c=>T.bl (isL c))=(z.cps.toList.map isL).map T.bl by rw [List.map_map];rfl] at e3;refine Bk (Du (Az e3 rfl) ?_);simp only [U1,Dn,Option.bind_some,HI,okT];congr 3;unfold isNm;rw [decide_eq_true (show 1<=z.length/\z.length<=12 by omega),List.all_map];rfl
 ·rw [decide_eq_false h] at hc
  have:isNm z=false:=by
   unfold isNm;rw [decide_eq_false (show ¬(1<=z.length/\z.length<=12) by omega)];rfl
  rw [this];exact BC (CH hc (Bk AB))
theorem PQ{z:Str}(hz:z.length<=1000):BJ [vl (.str z)]=.ok (.t (.bl (!isNm z))) [vl (.str z)]:=by
 have hc:=outside (m:=12) (len_str (i:=0) (fs:=[vl (.str z)]) rfl hz);refine(Fv (n:=0) (g:=Ei) (args:=[vl (.str z)]) (τ:=[vl (.str z)]) ?_).trans rfl;unfold Ei;by_cases h:1<=z.length/\(z.length:Int)<=12
 ·rw [decide_eq_true h] at hc
  refine sq (Bh hc rfl) ?_;obtain⟨y,e2⟩:=Jn (fe:=fz (Aa 0)) (ft:=asB (Ae (D5 true) (fz (Aa 0)) (gc (.str V0)))) (p:=fun c=>!isL c) (fun c=>BM (Ag (AJ (Ac rfl)) AB Si)) (fun c=>AJ (Ac rfl)) z.cps.toList none [] AA (by rw [Array.length_toList];show 0+z.length<=1000;omega);have e3:=Df (src:=[none]) (fi:=itU (fz (Aa 0))) (fs:=[vl (.str z)]) (ts:=signs z) rfl ⟨by rw [show CG [vl (.str z)] _=[] from rfl];exact List.nodup_nil,by rfl⟩ e2 (AO rfl);rw [List.nil_append] at e3;have en:Av A1 Ak [vl (.str z)]=.ok (.t (.lst [])) [vl (.str z)]:=rfl;refine Bk (Ag e3 en ?_);have hn:isNm z=(z.cps.toList.filter fun c=>!isL c).isEmpty:=by
   unfold isNm;rw [decide_eq_true (show 1<=z.length/\z.length<=12 by omega),Bool.true_and,Bool.eq_iff_iff,List.all_eq_true,List.isEmpty_iff,List.filter_eq_nil_iff];simp
  rw [hn];cases z.cps.toList.filter fun c=>!isL c with
  | nil=>rfl
  | cons a b=>rfl
 ·rw [decide_eq_false h] at hc
  have:isNm z=false:=by
   unfold isNm;rw [decide_eq_false (show ¬(1<=z.length/\z.length<=12) by omega)];rfl
  rw [this];exact BC (CH hc (Bk AB))
def EW:Nat->Str
 | 0=>"BadName"
 | 1=>"Twice"
 | 2=>"BadCount"
 | 3=>"NoKind"
 | _=>"Groundless"
def hdD:Kd->List Str->Option Nat
 | [],_=>none
 | kd :: K,seen=>if isNm kd.1=false then some 0 else if kd.1∈seen then some 1 else if ¬(1<=kd.2.length/\kd.2.length<=4) then some 2 else hdD K (seen++[kd.1])
def Cz(K:Kd):Option Nat:=if ¬(1<=K.length/\K.length<=4) then some 2 else hdD K []
def rwD(names above:List Str):Bool->List (Str×List Str)->List Str->Except Nat (List Str)
 | _,[],ahead=>.ok ahead
 | b,r :: R,ahead=>if isNm r.1=false then .error 0 else if r.1∈ahead then .error 1 else if r.2.length > 2 then .error 2 else if ∃p∈r.2,p∉names then .error 3 else if b=true/\∃p∈r.2,p∉above then .error 4 else rwD names above false R (ahead++[r.1])
def kdD(names:List Str):Kd->List Str->List Str->Option Nat
 | [],_,_=>none
 | kd :: K,above,ahead=>match rwD names above true kd.2 ahead with
  | .error n=>some n
  | .ok ahead'=>kdD names K (above++[kd.1]) ahead'
def Fp(K:Kd):Option Nat:=match Cz K with
 | some n=>some n
 | none=>kdD (K.map (·.1)) K [] []
structure Bd(K:Kd):Prop where
 len:K.length<=5
 nm:∀kd∈K,Bs kd.1=true
 rw:∀kd∈K,kd.2.length<=5
 ro:∀kd∈K,∀r∈kd.2,Bs r.1=true/\r.2.length<=3/\∀p∈r.2,Bs p=true
theorem LM{z:Str}(h:Bs z=true):z.length<=1000:=by
 unfold Bs at h;rw [Bool.and_eq_true] at h;exact of_decide_eq_true h.1
theorem Ec{c:Str}{i:Nat}{z:Str}{fs:FS}(h:fs[i]?=some (vl (.str z)))(hz:Bs z=true):DA c (Aa i) fs=.exc c fs:=by
 unfold DA;rw [Ac h];show(if Bs z=true then SO.exc c fs else .bad)=_;rw [if_pos hz]
abbrev dkS(zs:List Str):FO:=.dK (zs.map fun m=>(.inr m:Key)) (zs.map fun _=>.bl true)
theorem RN{k:Str}:∀{zs:List Str},(GB (zs.map fun m=>(.inr m:Key)) (zs.map fun _=>T.bl true) (.inr k:Key)).isSome=decide (k∈zs)
 | []=>by simp [GB]
 | z :: zs=>by
  rw [List.map_cons,List.map_cons];unfold GB;by_cases h:(.inr z:Key)=.inr k
  ·have:z=k:=Sum.inr.inj h
   subst this;simp
  ·have h':¬ z=k:=fun e=>h (by rw [e])
   have h'':¬ k=z:=fun e=>h' e.symm
   simp [h',h'',RN (zs:=zs)]
theorem Wa{neg:Bool}{k:Str}{i:Nat}{zs:List Str}{fs:FS}(h:FL.Bg fs i=some (dkS zs)):D5 neg (.t (.str k)) (.rf i) fs=.ok (.t (.bl (if neg then !decide (k∈zs) else decide (k∈zs)))) fs:=by
 rw [V9 h,RN]
theorem R0{o:Nat}{k:Str}{zs:List Str}{fs fs':FS}{fi:FS->Out Rv}(h0:fs[o]?=some (some (.own (dkS zs))))(hi:fi fs=.ok (.t (.str k)) fs)(hn:k∉zs)(hl:zs.length < 1000)(e:fs.set o (some (.own (dkS (zs++[k]))))=fs'):Cq (gc (.bl true)) (Aa o) fi fs=.nx fs' :=
 Vr (v:=.bl true) (k:=k) h0 AB hi (any_false fun m=>by
  obtain⟨z,mz,ez⟩:=List.mem_map.mp m;exact hn (Sum.inr.inj ez▸mz)) (by rw [List.length_map];show _ < 1000000;omega) (by
  rw [<- e];unfold dkS;rw [List.map_append,List.map_append];rfl)
abbrev ckB:FS->SO:=(AL (ifS (HR (ID (fz (Am (AD 1 Bj) (Ar (fz (Aa 2)) Ak))))) (DA "BadName" (Aa 2)) nxS)
  (AL (ifS (asB (Ae (D5 false) (fz (Aa 2)) (Aa 1))) (DA "Twice" (Aa 2)) nxS)
  (AL (ifS (HR (asB (chain gLe gLe (gc (.int 1)) (Am AY (Ab (Aa 3) Ak)) (gc (.int 4))))) (DA "BadCount" (Aa 2)) nxS)
  (Cq (gc (.bl true)) (Aa 1) (fz (Aa 2))))))
theorem LW{i:Nat}{z:Str}{fs:FS}(h:fs[i]?=some (vl (.str z)))(hz:Bs z=true):HR (ID (fz (Am (AD 1 Bj) (Ar (fz (Aa i)) Ak)))) fs=.ok (!isNm z) fs :=
 KW (IE (Ew (Fl (rs:=[.t (.str z)]) (As (AJ (Ac h)) AV) rfl rfl (GO (LM hz)))))
theorem DB{i:Nat}{ts:List T}{fs:FS}(h:fs[i]?=some (vl (.lst ts))):Am AY (Ab (Aa i) Ak) fs=.ok (.t (.int ts.length)) fs:=Jb (Ac h) (.inl rfl)
theorem NA{n:Nat}{g:FS->SO}{args τ:FS}(h:g (args++List.replicate n none)=.nx τ):DK n g args=.ok (.t .non) (τ.take args.length):=by
 unfold DK;rw [h]
theorem PB{sc:T}:∀(R:Kd) (seen:List Str) (x2 x3:Option Sl),Fre x2->Fre x3->(∀kd∈R,Bs kd.1=true/\kd.2.length<=5)->seen.length+R.length<=100 ->
  (∀n,hdD R seen=some n->∃τ,Dk (A3 2 (An (tgN 2) (An (tgN 3) A0))) ckB (R.map Af) [vl sc,some (.own (dkS seen)),x2,x3]=.exc (EW n) (vl sc :: τ))/\(hdD R seen=none->∃τ,Dk (A3 2 (An (tgN 2) (An (tgN 3) A0))) ckB (R.map Af) [vl sc,some (.own (dkS seen)),x2,x3]=.nx (vl sc :: τ))
 | [],_,_,_,_,_,_,_=>⟨(fun n h=>by cases h),fun _=>⟨_,rfl⟩⟩
 | kd :: R,seen,x2,x3,f2,f3,hB,hl=>by
  rw [List.length_cons] at hl;have hk:=(hB kd (by simp)).1;have g:A3 2 (An (tgN 2) (An (tgN 3) A0)) (Af kd) [vl sc,some (.own (dkS seen)),x2,x3]=some [vl sc,some (.own (dkS seen)),vl (.str kd.1),vl (.lst (kd.2.map AN))]:=Fq (by unfold tgN;exact Ba rfl f2) (by unfold tgN;exact Ba rfl f3);have c1:=LW (i:=2) (fs:=[vl sc,some (.own (dkS seen)),vl (.str kd.1),vl (.lst (kd.2.map AN))]) rfl hk;have c2:asB (Ae (D5 false) (fz (Aa 2)) (Aa 1)) [vl sc,some (.own (dkS seen)),vl (.str kd.1),vl (.lst (kd.2.map AN))]=.ok (decide (kd.1∈seen)) [vl sc,some (.own (dkS seen)),vl (.str kd.1),vl (.lst (kd.2.map AN))]:=BM (Fm (AJ (Ac rfl)) (CJ rfl) (Wa (zs:=seen) (UX rfl)));have c3:=between (m:=4) (DB (i:=3) (ts:=kd.2.map AN) (fs:=[vl sc,some (.own (dkS seen)),vl (.str kd.1),vl (.lst (kd.2.map AN))]) rfl);rw [List.length_map] at c3;unfold hdD;rw [List.map_cons];by_cases h1:isNm kd.1=false
  ·rw [if_pos h1]
   rw [h1] at c1;exact⟨fun n h=>by cases h;exact⟨_,Ff g (Cu (CH c1 (Ec rfl hk)))⟩,fun h=>by cases h⟩
  rw [if_neg h1];rw [show isNm kd.1=true by simpa using h1] at c1;by_cases h2:kd.1∈seen
  ·rw [if_pos h2]
   rw [decide_eq_true h2] at c2;exact⟨fun n h=>by cases h;exact⟨_,Ff g (sq (Bh c1 rfl) (Cu (CH c2 (Ec rfl hk))))⟩,fun h=>by cases h⟩
  rw [if_neg h2];rw [decide_eq_false h2] at c2;by_cases h3:1<=kd.2.length/\kd.2.length<=4
  ·rw [if_neg (by simpa using h3)]
   rw [decide_eq_true (show 1<=kd.2.length/\(kd.2.length:Int)<=4 by omega)] at c3;have st:Dk (A3 2 (An (tgN 2) (An (tgN 3) A0))) ckB (Af kd :: R.map Af) [vl sc,some (.own (dkS seen)),x2,x3]=Dk (A3 2 (An (tgN 2) (An (tgN 3) A0))) ckB (R.map Af) [vl sc,some (.own (dkS (seen++[kd.1]))),vl (.str kd.1),vl (.lst (kd.2.map AN))]:=Hw g (sq (Bh c1 rfl) (sq (Bh c2 rfl) (sq (Bh c3 rfl) (R0 rfl (AJ (Ac rfl)) h2 (by omega) rfl))));rw [st];exact PB R (seen++[kd.1]) (vl (.str kd.1)) (vl (.lst (kd.2.map AN))) AZ AZ (fun k m=>hB k (List.mem_cons_of_mem _ m)) (by rw [List.length_append];simp;omega)
  ·rw [if_pos (by simpa using h3)]
   rw [decide_eq_false (show ¬(1<=kd.2.length/\(kd.2.length:Int)<=4) by omega)] at c3;exact⟨fun n h=>by cases h;exact⟨_,Ff g (sq (Bh c1 rfl) (sq (Bh c2 rfl) (Cu (CH c3 (Ec rfl hk)))))⟩,fun h=>by cases h⟩
theorem PC{K:Kd}(B:Bd K):(∀n,Cz K=some n->BU [vl (.lst (K.map Af))]=.exc (EW n) [vl (.lst (K.map Af))])/\(Cz K=none->BU [vl (.lst (K.map Af))]=.ok (.t .non) [vl (.lst (K.map Af))]):=by
 have c0:=between (m:=4) (DB (i:=0) (ts:=K.map Af) (fs:=[vl (.lst (K.map Af)),none,none,none]) rfl);rw [List.length_map] at c0;unfold Cz;have hl:=B.len;by_cases h1:1<=K.length/\K.length<=4
 ·rw [if_neg (by simpa using h1)]
  rw [decide_eq_true (show 1<=K.length/\(K.length:Int)<=4 by omega)] at c0;obtain⟨e1,e2⟩:=PB (sc:=.lst (K.map Af)) K [] none none AA AA (fun kd m=>⟨B.nm kd m,B.rw kd m⟩) (by simp;omega);have all:∀r,Dk (A3 2 (An (tgN 2) (An (tgN 3) A0))) ckB (K.map Af) [vl (.lst (K.map Af)),some (.own (dkS [])),none,none]=r->Cn [vl (.lst (K.map Af)),none,none,none]=r:=fun r e=>by
   refine sq (Bh c0 rfl) (sq (fs':=[vl (.lst (K.map Af)),some (.own (dkS [])),none,none]) rfl ?_);unfold Eg;rw [Et (AJ (Ac (t:=.lst (K.map Af)) rfl))];exact e
  refine⟨fun n h=>?_,fun h=>?_⟩
  ·obtain⟨τ,e⟩:=e1 n h
   exact(EI (n:=3) (g:=Cn) (args:=[vl (.lst (K.map Af))]) (all _ e)).trans rfl
  ·obtain⟨τ,e⟩:=e2 h
   exact(NA (n:=3) (g:=Cn) (args:=[vl (.lst (K.map Af))]) (all _ e)).trans rfl
 ·rw [if_pos (by simpa using h1)]
  rw [decide_eq_false (show ¬(1<=K.length/\(K.length:Int)<=4) by omega)] at c0;exact⟨fun n h=>by cases h;exact(EI (n:=3) (g:=Cn) (args:=[vl (.lst (K.map Af))]) (Cu (CH c0 rfl))).trans rfl,fun h=>by cases h⟩
theorem Iw{p:Nat}{Fn:FS->Out Rv}{fa:FS->Out (List Rv)}{fs fs1 fs' τ:FS}{rs:List Rv}{c:Str}(ha:fa fs=.ok rs fs1)(hp:rs.length=p)(hn:(CG fs1 (rs.map BQ)).Nodup)(hf:Fn (Dp fs1 (rs.map BQ))=.exc c τ)(hb:En (rs.map BQ) τ fs1=some fs'):Am (AD p Fn) fa fs=.exc c fs':=by
 unfold Am;rw [ha];show AD p Fn rs fs1=_;unfold AD;rw [if_pos hp];unfold HF;rw [if_pos hn,hf];simp only [hb]
theorem He{c:Str}{i:Nat}{S:Option Sl->FS}{names:List Str}{body:FS->SO}(hg:∀x p,Fre x->tgN i (.str p) (S x)=some (S (vl (.str p))))(hok:∀p,p∈names->body (S (vl (.str p)))=.nx (S (vl (.str p))))(hno:∀p,p∉names->Bs p=true->body (S (vl (.str p)))=.exc c (S (vl (.str p)))) :
  ∀(ps:List Str) (x:Option Sl),Fre x->(∀p∈ps,Bs p=true)->(∃p∈ps,p∉names)->∃y,Dk (tgN i) body (ps.map T.str) (S x)=.exc c (S y)
 | [],_,_,_,⟨_,m,_⟩=>nomatch m
 | p :: ps,x,fx,hz,h=>by
  rw [List.map_cons];by_cases hp:p∈names
  ·obtain⟨y,e⟩:=He hg hok hno ps (vl (.str p)) AZ (fun q m=>hz q (List.mem_cons_of_mem _ m)) (by
    obtain⟨q,m,hq⟩:=h;rcases List.mem_cons.mp m with rfl | m
    ·exact(hq hp).elim
    ·exact⟨q,m,hq⟩)
   exact⟨y,(Hw (hg x p fx) (hok p hp)).trans e⟩
  ·exact⟨_,Ff (hg x p fx) (hno p hp (hz p (by simp)))⟩
section
variable{m:Str}{ps ahead names:List Str}
abbrev cmS(m:Str)(ps ahead names:List Str):FS:=[vl (.str m),vl (.tup (ps.map T.str)),some (.bor (dkS ahead)),vl (.lst (names.map T.str))]
abbrev cmT(m:Str)(ps ahead names:List Str)(x:Option Sl):FS:=[vl (.str m),vl (.tup (ps.map T.str)),some (.bor (dkS ahead)),vl (.lst (names.map T.str)),x]
theorem cm1(hz:Bs m=true):HR (ID (fz (Am (AD 1 Bj) (Ar (fz (Aa 0)) Ak)))) (cmT m ps ahead names none)=.ok (!isNm m) (cmT m ps ahead names none):=LW rfl hz
theorem cm2:asB (Ae (D5 false) (fz (Aa 0)) (Aa 2)) (cmT m ps ahead names none)=.ok (decide (m∈ahead)) (cmT m ps ahead names none):=BM (Fm (AJ (Ac rfl)) (GP rfl) (Wa (zs:=ahead) (UY rfl)))
theorem cm3:asB (Ae gGt (Am AY (Ab (Aa 1) Ak)) (gc (.int 2))) (cmT m ps ahead names none)=.ok (decide (ps.length > 2)) (cmT m ps ahead names none):=by
 have e:=Jb (f:=Aa 1) (fs:=cmT m ps ahead names none) (ts:=ps.map T.str) (Ac rfl) (.inr rfl);rw [List.length_map] at e;refine BM (Ag e AB ?_);show okT (.bl (decide ((ps.length:Int) > 2))) _=_;rw [show decide ((ps.length:Int) > 2)=decide (ps.length > 2) by rw [decide_eq_decide];omega];rfl
theorem Jo{n:Nat}(hz:Bs m=true)(hp:∀p∈ps,Bs p=true)(h:(isNm m=false/\n=0)∨(isNm m=true/\m∈ahead/\n=1)∨(isNm m=true/\m∉ahead/\ps.length > 2/\n=2)∨(isNm m=true/\m∉ahead/\¬ ps.length > 2/\(∃p∈ps,p∉names)/\n=3)):Be (cmS m ps ahead names)=.exc (EW n) (cmS m ps ahead names):=by
 have c1:=cm1 (ps:=ps) (ahead:=ahead) (names:=names) hz;have c2:=cm2 (m:=m) (ps:=ps) (ahead:=ahead) (names:=names);have c3:=cm3 (m:=m) (ps:=ps) (ahead:=ahead) (names:=names);have fin:∀x,BY (cmT m ps ahead names none)=.exc (EW n) (cmT m ps ahead names x)->Be (cmS m ps ahead names)=.exc (EW n) (cmS m ps ahead names):=fun x e=>(EI (n:=1) (g:=BY) (args:=cmS m ps ahead names) (τ:=cmT m ps ahead names x) e).trans rfl
 rcases h with⟨h1,rfl⟩ | ⟨h1,h2,rfl⟩ | ⟨h1,h2,h3,rfl⟩ | ⟨h1,h2,h3,h4,rfl⟩
 ·rw [h1] at c1
  exact fin _ (Cu (CH c1 (Ec rfl hz)))
 ·rw [h1] at c1
  rw [decide_eq_true h2] at c2;exact fin _ (sq (Bh c1 rfl) (Cu (CH c2 (Ec rfl hz))))
 ·rw [h1] at c1
  rw [decide_eq_false h2] at c2;rw [decide_eq_true h3] at c3;exact fin _ (sq (Bh c1 rfl) (sq (Bh c2 rfl) (Cu (CH c3 (Ec rfl hz)))))
 ·rw [h1] at c1
  rw [decide_eq_false h2] at c2;rw [decide_eq_false h3] at c3;have ci:∀p,asB (Ae (D5 true) (fz (Aa 4)) (Aa 3)) (cmT m ps ahead names (vl (.str p)))=.ok (!decide (p∈names)) (cmT m ps ahead names (vl (.str p))):=fun p=>BM (Ag (AJ (Ac (t:=.str p) rfl)) (Ac (t:=.lst (names.map T.str)) rfl) OI)
  obtain⟨y,e⟩:=He (c:="NoKind") (i:=4) (S:=cmT m ps ahead names) (names:=names) (body:=ifS (asB (Ae (D5 true) (fz (Aa 4)) (Aa 3))) (DA "NoKind" (Aa 4)) nxS) (fun x p fx=>by unfold tgN;exact Ba rfl fx) (fun p hp=>Bh ((ci p).trans (by rw [decide_eq_true hp];rfl)) rfl) (fun p hp z=>CH ((ci p).trans (by rw [decide_eq_false hp];rfl)) (Ec rfl z)) ps none AA hp h4;refine fin y (sq (Bh c1 rfl) (sq (Bh c2 rfl) (sq (Bh c3 rfl) ?_)));unfold Eg;rw [K4 (AJ (Ac (t:=.tup (ps.map T.str)) rfl))];exact e
theorem Uz{above:List Str}(hz:Bs m=true)(hp:∀p∈ps,Bs p=true)(h:∃p∈ps,p∉above):Bo [vl (.str m),vl (.tup (ps.map T.str)),some (.bor (.lst (above.map T.str)))]=.exc "Groundless" [vl (.str m),vl (.tup (ps.map T.str)),some (.bor (.lst (above.map T.str)))]:=by
 have ci:∀p,asB (Ae (D5 true) (fz (Aa 3)) (Aa 2)) [vl (.str m),vl (.tup (ps.map T.str)),some (.bor (.lst (above.map T.str))),vl (.str p)]=.ok (!decide (p∈above)) [vl (.str m),vl (.tup (ps.map T.str)),some (.bor (.lst (above.map T.str))),vl (.str p)]:=fun p=>BM (Fm (AJ (Ac (t:=.str p) rfl)) (GP rfl) (LX (xs:=above) (UY rfl)))
 obtain⟨y,e⟩:=He (c:="Groundless") (i:=3) (S:=fun x=>[vl (.str m),vl (.tup (ps.map T.str)),some (.bor (.lst (above.map T.str))),x]) (names:=above) (body:=ifS (asB (Ae (D5 true) (fz (Aa 3)) (Aa 2))) (Hd "Groundless" (Aa 0) (Aa 3)) nxS) (fun x p fx=>by unfold tgN;exact Ba rfl fx) (fun p hp=>Bh ((ci p).trans (by rw [decide_eq_true hp];rfl)) rfl) (fun p hp z=>CH ((ci p).trans (by rw [decide_eq_false hp];rfl)) (by
   unfold Hd;rw [Ac (t:=.str m) rfl];show(if Bs m=true then SO.of (Aa 3 [vl (.str m),vl (.tup (ps.map T.str)),some (.bor (.lst (above.map T.str))),vl (.str p)]) (fun r fs=>match r with | .t (.str z)=>if Bs z=true then SO.exc "Groundless" fs else .bad | _=>.bad) else .bad)=_;rw [if_pos hz,Ac (t:=.str p) rfl];show(if Bs p=true then SO.exc "Groundless" _ else .bad)=_;rw [if_pos z])) ps none AA hp h
 refine(EI (n:=1) (g:=Cc) (args:=[vl (.str m),vl (.tup (ps.map T.str)),some (.bor (.lst (above.map T.str)))]) (τ:=[vl (.str m),vl (.tup (ps.map T.str)),some (.bor (.lst (above.map T.str))),y]) ?_).trans rfl;show Eg _ _ _ _=_;unfold Eg;rw [K4 (AJ (Ac (t:=.tup (ps.map T.str)) rfl))];exact e
end
abbrev mrB:FS->SO:=AL (Bq (Am (AD 4 Be) (Ar (fz (Aa 7)) (Ar (fz (Aa 8)) (Ar (Aa 3) (Ar (fz (Aa 1)) Ak))))))
  (AL (ifS (asB (Ae (gEq false) (Aa 7) (Aa 6))) (Bq (Am (AD 3 Bo) (Ar (fz (Aa 7)) (Ar (fz (Aa 8)) (Ar (Aa 2) Ak))))) nxS)
  (Cq (gc (.bl true)) (Aa 3) (fz (Aa 7))))
abbrev mS(sc:T)(names above ahead:List Str)(k:Str)(rows:T)(first:Str)(x7 x8:Option Sl):FS:=[vl sc,vl (.lst (names.map T.str)),some (.own (.lst (above.map T.str))),some (.own (dkS ahead)),vl (.str k),vl rows,vl (.str first),x7,x8]
section
variable{sc rows:T}{names above:List Str}{k first:Str}
theorem Oa:∀(R:List (Str×List Str)) (b:Bool) (ahead:List Str) (x7 x8:Option Sl),Fre x7->Fre x8->(∀r∈R,Bs r.1=true/\∀p∈r.2,Bs p=true)->(b=true->∀r R',R=r :: R'->r.1=first)->(b=false->first∈ahead)->ahead.length+R.length<=100 ->
  (∀n,rwD names above b R ahead=.error n->∃τ,Dk (A3 2 (An (tgN 7) (An (tgN 8) A0))) mrB (R.map AN) (mS sc names above ahead k rows first x7 x8)=.exc (EW n) (vl sc :: τ)) /\
  (∀a',rwD names above b R ahead=.ok a'->a'.length<=ahead.length+R.length/\∃y7 y8,Fre y7/\Fre y8/\Dk (A3 2 (An (tgN 7) (An (tgN 8) A0))) mrB (R.map AN) (mS sc names above ahead k rows first x7 x8)=.nx (mS sc names above a' k rows first y7 y8))
 | [],b,ahead,x7,x8,f7,f8,_,_,_,_=>⟨fun n h=>by simp [rwD] at h,fun a' h=>by
   simp only [rwD] at h;cases h;exact⟨by simp,x7,x8,f7,f8,rfl⟩⟩
 | r :: R,b,ahead,x7,x8,f7,f8,hB,hb1,hb2,hl=>by
  rw [List.length_cons] at hl;obtain⟨hz,hp⟩:=hB r (by simp);have g:A3 2 (An (tgN 7) (An (tgN 8) A0)) (AN r) (mS sc names above ahead k rows first x7 x8)=some (mS sc names above ahead k rows first (vl (.str r.1)) (vl (.tup (r.2.map T.str)))):=Fq (by unfold tgN;exact Ba rfl f7) (by unfold tgN;exact Ba rfl f8);have bad:∀n,Be (cmS r.1 r.2 ahead names)=.exc (EW n) (cmS r.1 r.2 ahead names)->∃τ,Dk (A3 2 (An (tgN 7) (An (tgN 8) A0))) mrB ((r :: R).map AN) (mS sc names above ahead k rows first x7 x8)=.exc (EW n) (vl sc :: τ):=fun n e =>
   ⟨_,Ff g (Cu (Ey (Iw (rs:=[.t (.str r.1),.t (.tup (r.2.map T.str)),.rf 3,.t (.lst (names.map T.str))]) (As (AJ (Ac rfl)) (As (AJ (Ac rfl)) (As (CJ (i:=3) rfl) (As (AJ (Ac rfl)) AV)))) rfl (by rw [show CG _ _=[3] from rfl];simp) e rfl)))⟩
  unfold rwD;by_cases h1:isNm r.1=false
  ·rw [if_pos h1]
   exact⟨fun n h=>by cases h;exact bad 0 (Jo hz hp (.inl ⟨h1,rfl⟩)),fun a' h=>by cases h⟩
  rw [if_neg h1];have h1':isNm r.1=true:=by simpa using h1
  by_cases h2:r.1∈ahead
  ·rw [if_pos h2]
   exact⟨fun n h=>by cases h;exact bad 1 (Jo hz hp (.inr (.inl ⟨h1',h2,rfl⟩))),fun a' h=>by cases h⟩
  rw [if_neg h2];by_cases h3:r.2.length > 2
  ·rw [if_pos h3]
   exact⟨fun n h=>by cases h;exact bad 2 (Jo hz hp (.inr (.inr (.inl ⟨h1',h2,h3,rfl⟩)))),fun a' h=>by cases h⟩
  rw [if_neg h3];by_cases h4:∃p∈r.2,p∉names
  ·rw [if_pos h4]
   exact⟨fun n h=>by cases h;exact bad 3 (Jo hz hp (.inr (.inr (.inr ⟨h1',h2,h3,h4,rfl⟩)))),fun a' h=>by cases h⟩
  rw [if_neg h4];have s1:Bq (Am (AD 4 Be) (Ar (fz (Aa 7)) (Ar (fz (Aa 8)) (Ar (Aa 3) (Ar (fz (Aa 1)) Ak))))) (mS sc names above ahead k rows first (vl (.str r.1)) (vl (.tup (r.2.map T.str))))=.nx (mS sc names above ahead k rows first (vl (.str r.1)) (vl (.tup (r.2.map T.str)))) :=
   Gm (ES (rs:=[.t (.str r.1),.t (.tup (r.2.map T.str)),.rf 3,.t (.lst (names.map T.str))]) (As (AJ (Ac rfl)) (As (AJ (Ac rfl)) (As (CJ (i:=3) rfl) (As (AJ (Ac rfl)) AV)))) rfl (by rw [show CG _ _=[3] from rfl];simp)
    (BX (ks:=ahead.map fun m=>(.inr m:Key)) (vs:=ahead.map fun _=>.bl true) (by rw [GO (LM hz),h1']) (fun m=>by
     obtain⟨z,mz,ez⟩:=List.mem_map.mp m;exact h2 (Sum.inr.inj ez▸mz)) (by omega) (fun p mp=>Classical.byContradiction fun z=>h4 ⟨p,mp,z⟩)) rfl)
  have cq:=Wz (fa:=Aa 7) (fb:=Aa 6) (fs:=mS sc names above ahead k rows first (vl (.str r.1)) (vl (.tup (r.2.map T.str)))) (x:=r.1) (y:=first) (Ac rfl) (Ac rfl);have eqb:decide (r.1=first)=b:=by
   cases b with
   | true=>exact decide_eq_true (hb1 rfl r R rfl)
   | false=>exact decide_eq_false fun z=>h2 (z▸hb2 rfl)
  rw [eqb] at cq;have s3:Cq (gc (.bl true)) (Aa 3) (fz (Aa 7)) (mS sc names above ahead k rows first (vl (.str r.1)) (vl (.tup (r.2.map T.str))))=.nx (mS sc names above (ahead++[r.1]) k rows first (vl (.str r.1)) (vl (.tup (r.2.map T.str)))):=R0 rfl (AJ (Ac rfl)) h2 (by omega) rfl;by_cases h5:b=true/\∃p∈r.2,p∉above
  ·rw [if_pos h5]
   refine⟨fun n h=>?_,fun a' h=>by cases h⟩;cases h;rw [h5.1] at cq;exact⟨_,Ff g (sq s1 (Cu (CH cq (Ey (Iw (rs:=[.t (.str r.1),.t (.tup (r.2.map T.str)),.rf 2]) (As (AJ (Ac rfl)) (As (AJ (Ac rfl)) (As (CJ (i:=2) rfl) AV))) rfl (by rw [show CG _ _=[2] from rfl];simp) (Uz hz hp h5.2) rfl)))))⟩
  rw [if_neg h5];have s2:ifS (asB (Ae (gEq false) (Aa 7) (Aa 6))) (Bq (Am (AD 3 Bo) (Ar (fz (Aa 7)) (Ar (fz (Aa 8)) (Ar (Aa 2) Ak))))) nxS (mS sc names above ahead k rows first (vl (.str r.1)) (vl (.tup (r.2.map T.str))))=.nx (mS sc names above ahead k rows first (vl (.str r.1)) (vl (.tup (r.2.map T.str)))):=by
   cases b with
   | false=>exact Bh cq rfl
   | true=>exact CH cq (Gm (ES (rs:=[.t (.str r.1),.t (.tup (r.2.map T.str)),.rf 2]) (As (AJ (Ac rfl)) (As (AJ (Ac rfl)) (As (CJ (i:=2) rfl) AV))) rfl (by rw [show CG _ _=[2] from rfl];simp) (BG (fun p mp=>Classical.byContradiction fun z=>h5 ⟨rfl,p,mp,z⟩)) rfl))
  have fm:first∈ahead++[r.1]:=by
   cases b with
   | true=>rw [hb1 rfl r R rfl];simp
   | false=>simp [hb2 rfl]
  obtain⟨i1,i2⟩:=Oa R false (ahead++[r.1]) (vl (.str r.1)) (vl (.tup (r.2.map T.str))) AZ AZ (fun q m=>hB q (List.mem_cons_of_mem _ m)) (fun z=>by cases z) (fun _=>fm) (by rw [List.length_append];simp;omega);have st:Dk (A3 2 (An (tgN 7) (An (tgN 8) A0))) mrB ((r :: R).map AN) (mS sc names above ahead k rows first x7 x8)=Dk (A3 2 (An (tgN 7) (An (tgN 8) A0))) mrB (R.map AN) (mS sc names above (ahead++[r.1]) k rows first (vl (.str r.1)) (vl (.tup (r.2.map T.str)))):=Hw g (sq s1 (sq s2 s3));rw [st];refine⟨i1,fun a' h=>?_⟩;obtain⟨l1,l2⟩:=i2 a' h;exact⟨by rw [List.length_append] at l1;simp at l1 ⊢;omega,l2⟩
end
theorem Wn{i:Nat}{K:Kd}{fs:FS}(h:fs[i]?=some (vl (.lst (K.map Af))))(hl:K.length<=1000):BW false [none,none] (itU (fz (Aa i))) (A3 2 (An (tgN 0) (An (tgN 1) A0))) DX (fz (Aa 0)) fs=.ok (.t (.lst ((K.map (·.1)).map T.str))) fs:=by
 obtain⟨x,y,_,_,e⟩:=FK (fe:=fz (Aa 0)) (f:=fun kd:Str×List (Str×List Str)=>.str kd.1) (g:=fun kd=>.lst (kd.2.map AN)) (h:=fun kd=>.str kd.1) (rest:=[]) K none none [] AA AA (fun kd _=>AJ (Ac rfl)) (by show 0+_<=1000000;omega);have:=Df (src:=[none,none]) (fi:=itU (fz (Aa i))) (fs:=fs) (ts:=K.map Af) (Et (AJ (Ac h))) ⟨by rw [show CG fs (List.map _ [none,none])=[] from rfl];exact List.nodup_nil,by rfl⟩ e (AO rfl);rw [this,List.nil_append,List.map_map];rfl
abbrev mkB:FS->SO:=(AL (AS 6 (Ae AX (Ae AX (Aa 5) (gc (.int 0))) (gc (.int 0))))
  (AL (Eg (itU (fz (Aa 5))) (A3 2 (An (tgN 7) (An (tgN 8) A0))) mrB)
  (Bq (A8 Ea (Aa 2) (Ab (fz (Aa 4)) Ak)))))
theorem Ob{sc:T}{names:List Str}:∀(R:Kd) (above ahead:List Str) (x4 x5 x6 x7 x8:Option Sl),Fre x4->Fre x5->Fre x6->Fre x7->Fre x8->(∀kd∈R,1<=kd.2.length/\kd.2.length<=5/\∀r∈kd.2,Bs r.1=true/\∀p∈r.2,Bs p=true)->ahead.length+5 * R.length<=90->above.length+R.length<=100 ->
  (∀n,kdD names R above ahead=some n->∃τ,Dk (A3 2 (An (tgN 4) (An (tgN 5) A0))) mkB (R.map Af) [vl sc,vl (.lst (names.map T.str)),some (.own (.lst (above.map T.str))),some (.own (dkS ahead)),x4,x5,x6,x7,x8]=.exc (EW n) (vl sc :: τ)) /\
  (kdD names R above ahead=none->∃τ,Dk (A3 2 (An (tgN 4) (An (tgN 5) A0))) mkB (R.map Af) [vl sc,vl (.lst (names.map T.str)),some (.own (.lst (above.map T.str))),some (.own (dkS ahead)),x4,x5,x6,x7,x8]=.nx (vl sc :: τ))
 | [],_,_,_,_,_,_,_,_,_,_,_,_,_,_,_=>⟨(fun n h=>by cases h),fun _=>⟨_,rfl⟩⟩
 | kd :: R,above,ahead,x4,x5,x6,x7,x8,f4,f5,f6,f7,f8,hB,hl,hl2=>by
  rw [List.length_cons] at hl hl2;obtain⟨b1,b2,b3⟩:=hB kd (by simp);obtain⟨r0,rs,er⟩:∃r0 rs,kd.2=r0 :: rs:=by
   cases e:kd.2 with
   | nil=>rw [e] at b1;simp at b1
   | cons a b=>exact⟨a,b,rfl⟩
  have g:A3 2 (An (tgN 4) (An (tgN 5) A0)) (Af kd) [vl sc,vl (.lst (names.map T.str)),some (.own (.lst (above.map T.str))),some (.own (dkS ahead)),x4,x5,x6,x7,x8]=some [vl sc,vl (.lst (names.map T.str)),some (.own (.lst (above.map T.str))),some (.own (dkS ahead)),vl (.str kd.1),vl (.lst (kd.2.map AN)),x6,x7,x8]:=Fq (by unfold tgN;exact Ba rfl f4) (by unfold tgN;exact Ba rfl f5);have q1:atI (kd.2.map AN) 0=some (AN r0):=A2 (j:=0) (by rw [er];rfl);have s6:AS 6 (Ae AX (Ae AX (Aa 5) (gc (.int 0))) (gc (.int 0))) [vl sc,vl (.lst (names.map T.str)),some (.own (.lst (above.map T.str))),some (.own (dkS ahead)),vl (.str kd.1),vl (.lst (kd.2.map AN)),x6,x7,x8]=.nx (mS sc names above ahead kd.1 (.lst (kd.2.map AN)) r0.1 x7 x8) :=
   Bb (Ag (Ag (Ac rfl) AB (A7 rfl q1)) AB (show AX (.t (AN r0)) (.t (.int 0)) _=.ok (.t (.str r0.1)) _ from rfl)) (Ba rfl f6)
  obtain⟨m1,m2⟩:=Oa (sc:=sc) (rows:=.lst (kd.2.map AN)) (names:=names) (above:=above) (k:=kd.1) (first:=r0.1) kd.2 true ahead x7 x8 f7 f8 b3 (fun _ r R' e=>by rw [er] at e;rw [(List.cons.inj e).1]) (fun z=>by cases z) (by omega);have sf:Eg (itU (fz (Aa 5))) (A3 2 (An (tgN 7) (An (tgN 8) A0))) mrB (mS sc names above ahead kd.1 (.lst (kd.2.map AN)) r0.1 x7 x8)=Dk (A3 2 (An (tgN 7) (An (tgN 8) A0))) mrB (kd.2.map AN) (mS sc names above ahead kd.1 (.lst (kd.2.map AN)) r0.1 x7 x8):=by
   unfold Eg;rw [Et (AJ (Ac (t:=.lst (kd.2.map AN)) rfl))];rfl
  rw [List.map_cons];unfold kdD;cases e:rwD names above true kd.2 ahead with
  | error n' =>
   obtain⟨τ,e'⟩:=m1 _ e;exact⟨fun n h=>by cases h;exact⟨τ,Ff g (sq s6 (Cu (sf.trans e')))⟩,fun h=>by cases h⟩
  | ok a' =>
   obtain⟨l1,y7,y8,g7,g8,e'⟩:=m2 a' e;have s8:Bq (A8 Ea (Aa 2) (Ab (fz (Aa 4)) Ak)) (mS sc names above a' kd.1 (.lst (kd.2.map AN)) r0.1 y7 y8)=.nx (mS sc names (above++[kd.1]) a' kd.1 (.lst (kd.2.map AN)) r0.1 y7 y8):=Ky (i:=2) rfl (AJ (Ac (t:=.str kd.1) rfl)) (by rw [List.length_map];show _ < 1000000;omega) (by simp);have st:=Hw (ts:=R.map Af) g (sq s6 (sq (sf.trans e') s8));rw [st];exact Ob R (above++[kd.1]) a' (vl (.str kd.1)) (vl (.lst (kd.2.map AN))) (vl (.str r0.1)) y7 y8 AZ AZ AZ g7 g8 (fun k m=>hB k (List.mem_cons_of_mem _ m)) (by omega) (by rw [List.length_append];simp;omega)
theorem Py{K:Kd}(B:Bd K)(h1:∀kd∈K,1<=kd.2.length):(∀n,kdD (K.map (·.1)) K [] []=some n->BI [vl (.lst (K.map Af))]=.exc (EW n) [vl (.lst (K.map Af))])/\(kdD (K.map (·.1)) K [] []=none->BI [vl (.lst (K.map Af))]=.ok (.t .non) [vl (.lst (K.map Af))]):=by
 have hl:=B.len;obtain⟨e1,e2⟩:=Ob (sc:=.lst (K.map Af)) (names:=K.map (·.1)) K [] [] none none none none none AA AA AA AA AA (fun kd m=>⟨h1 kd m,B.rw kd m,fun r mr=>⟨(B.ro kd m r mr).1,(B.ro kd m r mr).2.2⟩⟩) (by simp;omega) (by simp;omega);have all:∀r,Dk (A3 2 (An (tgN 4) (An (tgN 5) A0))) mkB (K.map Af) [vl (.lst (K.map Af)),vl (.lst ((K.map (·.1)).map T.str)),some (.own (.lst [])),some (.own (dkS [])),none,none,none,none,none]=r->Ct [vl (.lst (K.map Af)),none,none,none,none,none,none,none,none]=r:=fun r e=>by
  refine sq (Bb (Wn (i:=0) rfl (by omega)) rfl) ?_;refine sq (fs':=[vl (.lst (K.map Af)),vl (.lst ((K.map (·.1)).map T.str)),some (.own (.lst [])),none,none,none,none,none,none]) rfl ?_;refine sq (fs':=[vl (.lst (K.map Af)),vl (.lst ((K.map (·.1)).map T.str)),some (.own (.lst [])),some (.own (dkS [])),none,none,none,none,none]) rfl ?_;show Eg _ _ _ _=_;unfold Eg;rw [Et (AJ (Ac (t:=.lst (K.map Af)) rfl))];exact e
 refine⟨fun n h=>?_,fun h=>?_⟩
 ·obtain⟨τ,e⟩:=e1 n h
  exact(EI (n:=8) (g:=Ct) (args:=[vl (.lst (K.map Af))]) (all _ e)).trans rfl
 ·obtain⟨τ,e⟩:=e2 h
  exact(NA (n:=8) (g:=Ct) (args:=[vl (.lst (K.map Af))]) (all _ e)).trans rfl
theorem TX{z:Str}(h:isNm z=true):z.length<=12/\Bj [vl (.str z)]=.ok (.t (.bl true)) [vl (.str z)]:=by
 have hl:z.length<=12:=by
  unfold isNm at h;rw [Bool.and_eq_true] at h;exact(of_decide_eq_true h.1).2
 exact⟨hl,by rw [GO (by omega),h]⟩
theorem Je:∀{K:Kd} {seen:List Str},hdD K seen=none->seen.Nodup->(seen++K.map (·.1)).Nodup/\∀kd∈K,isNm kd.1=true/\1<=kd.2.length/\kd.2.length<=4
 | [],seen,_,nd=>⟨by simpa using nd,fun _ m=>nomatch m⟩
 | kd :: K,seen,h,nd=>by
  unfold hdD at h;split at h
  ·cases h
  ·rename_i h1
   split at h
   ·cases h
   ·rename_i h2
    split at h
    ·cases h
    ·rename_i h3
     have h3':1<=kd.2.length/\kd.2.length<=4:=by simpa using h3
     obtain⟨a,b⟩:=Je h (by rw [List.nodup_append];exact⟨nd,by simp,fun x hx y hy e=>h2 (by rw [<- List.mem_singleton.mp hy,<- e];exact hx)⟩);refine⟨by simpa using a,fun k m=>?_⟩;rcases List.mem_cons.mp m with rfl | m
     ·exact⟨by simpa using h1,h3'⟩
     ·exact b k m
theorem RU{names above:List Str}:∀{R:List (Str×List Str)} {b:Bool} {ahead a':List Str},rwD names above b R ahead=.ok a'->ahead.Nodup->a'=ahead++R.map (·.1)/\a'.Nodup/\(∀r∈R,isNm r.1=true/\r.2.length<=2/\∀p∈r.2,p∈names)/\(b=true->∀r,R[0]?=some r->∀p∈r.2,p∈above)
 | [],b,ahead,a',h,nd=>by
  simp only [rwD] at h;cases h;exact⟨by simp,nd,(fun _ m=>nomatch m),fun _ r e=>by simp at e⟩
 | r :: R,b,ahead,a',h,nd=>by
  unfold rwD at h;split at h
  ·cases h
  ·rename_i h1
   split at h
   ·cases h
   ·rename_i h2
    split at h
    ·cases h
    ·rename_i h3
     split at h
     ·cases h
     ·rename_i h4
      split at h
      ·cases h
      ·rename_i h5
       obtain⟨i1,i2,i3,_⟩:=RU h (by rw [List.nodup_append];exact⟨nd,by simp,fun x hx y hy e=>h2 (by rw [<- List.mem_singleton.mp hy,<- e];exact hx)⟩);refine⟨by rw [i1];simp,i2,fun q m=>?_,fun hb q e p mp=>?_⟩
       ·rcases List.mem_cons.mp m with rfl | m
        ·exact⟨by simpa using h1,by omega,fun p mp=>Classical.byContradiction fun z=>h4 ⟨p,mp,z⟩⟩
        ·exact i3 q m
       ·have:r=q:=by simpa using e
        subst this;exact Classical.byContradiction fun z=>h5 ⟨hb,p,mp,z⟩
theorem LR{names:List Str}:∀{R:Kd} {above ahead:List Str},kdD names R above ahead=none->ahead.Nodup->(ahead++mks R).Nodup/\(∀kd∈R,∀r∈kd.2,isNm r.1=true/\r.2.length<=2/\∀p∈r.2,p∈names)/\∀D kd R',R=D++kd :: R'->∀r,kd.2[0]?=some r->∀x∈r.2,x∈above++D.map (·.1)
 | [],above,ahead,_,nd=>⟨by simpa [mks] using nd,(fun _ m=>nomatch m),fun D kd R' e=>by simp at e⟩
 | kd :: R,above,ahead,h,nd=>by
  unfold kdD at h;cases e:rwD names above true kd.2 ahead with
  | error n=>rw [e] at h;cases h
  | ok a' =>
   rw [e] at h;obtain⟨i1,i2,i3,i4⟩:=RU e nd;obtain⟨j1,j2,j3⟩:=LR h i2;refine⟨by rw [EJ,<- List.append_assoc,<- i1];exact j1,fun k m=>?_,fun D k R' eR r er x mx=>?_⟩
   ·rcases List.mem_cons.mp m with rfl | m
    ·exact i3
    ·exact j2 k m
   ·cases D with
    | nil =>
     obtain⟨rfl,rfl⟩:=List.cons.inj eR;simpa using i4 rfl r er x mx
    | cons d D =>
     obtain⟨rfl,eR'⟩:=List.cons.inj eR;have:=j3 D k R' eR' r er x mx;simpa using this
theorem SW{K:Kd}(h:Fp K=none):Well K:=by
 unfold Fp at h;cases e:Cz K with
 | some n=>rw [e] at h;cases h
 | none =>
  rw [e] at h;unfold Cz at e;split at e
  ·cases e
  ·rename_i h1
   have h1':1<=K.length/\K.length<=4:=by simpa using h1
   obtain⟨a1,a2⟩:=Je e List.nodup_nil;obtain⟨b1,b2,b3⟩:=LR (names:=K.map (·.1)) h List.nodup_nil;have mk:∀m∈mks K,isNm m=true:=fun m hm=>by
    obtain⟨kd,k1,k2⟩:=List.mem_flatMap.mp hm;obtain⟨r,r1,rfl⟩:=List.mem_map.mp k2;exact(b2 kd k1 r r1).1
   exact⟨h1'.1,h1'.2,by simpa using a1,fun kd m=>(TX (a2 kd m).1).2,fun kd m=>(a2 kd m).2,by simpa using b1,fun m hm=>(TX (mk m hm)).2,fun m hm=>(TX (mk m hm)).1,fun kd m r mr=>(b2 kd m r mr).2.1,fun kd m r mr=>(b2 kd m r mr).2.2,fun D kd R eK r er x mx=>by simpa using b3 D kd R eK r er x mx⟩
theorem Io{K:Kd}(e:Cz K=none):(K.map (·.1)).Nodup/\∀kd∈K,isNm kd.1=true/\1<=kd.2.length/\kd.2.length<=4:=by
 unfold Cz at e;split at e
 ·cases e
 ·simpa using Je e List.nodup_nil
theorem OG{C:Addr}{K:Kd}(B:Bd K){n:Nat}(h:Fp K=some n):A4 C [some (.bor (.ins C [] [])),vl (.lst (K.map Af))]=.exc (EW n) [some (.bor (.ins C [] [])),vl (.lst (K.map Af))]:=by
 refine(EI (n:=4) (g:=CA C) (args:=[some (.bor (.ins C [] [])),vl (.lst (K.map Af))]) (τ:=[some (.bor (.ins C [] [])),vl (.lst (K.map Af)),none,none,none,none]) ?_).trans rfl;unfold Fp at h;cases e:Cz K with
 | some n' =>
  rw [e] at h;cases h;exact Cu (Ey (Kq (rs:=[.t (.lst (K.map Af))]) (As (AJ (Ac rfl)) AV) rfl rfl ((PC B).1 _ e)))
 | none =>
  rw [e] at h;exact sq (Gm (Fl (rs:=[.t (.lst (K.map Af))]) (As (AJ (Ac rfl)) AV) rfl rfl ((PC B).2 e))) (Cu (Ey (Kq (rs:=[.t (.lst (K.map Af))]) (As (AJ (Ac rfl)) AV) rfl rfl ((Py B fun kd m=>((Io e).2 kd m).2.1).1 _ h))))
theorem OF{C:Addr}{K:Kd}(B:Bd K)(h:Fp K=none):∃hs,A4 C [some (.bor (.ins C [] [])),vl (.lst (K.map Af))]=.ok (.t .non) [some (.bor (JD C K hs)),vl (.lst (K.map Af))]:=by
 have W:=SW h;unfold Fp at h;cases e:Cz K with
 | some n=>rw [e] at h;cases h
 | none =>
  rw [e] at h;exact Mz W ((PC B).2 e) ((Py B fun kd m=>((Io e).2 kd m).2.1).2 h)
theorem Sj:∀{K:Kd} {seen:List Str},(∀kd∈K,isNm kd.1=true/\1<=kd.2.length/\kd.2.length<=4)->(seen++K.map (·.1)).Nodup->hdD K seen=none
 | [],_,_,_=>rfl
 | kd :: K,seen,h,nd=>by
  obtain⟨a,b⟩:=h kd (by simp);unfold hdD;rw [if_neg (by simp [a]),if_neg (fun m=>(List.nodup_append.mp nd).2.2 _ m kd.1 (by simp) rfl),if_neg (by simpa using b)];exact Sj (fun k m=>h k (List.mem_cons_of_mem _ m)) (by simpa using nd)
theorem RV{names above:List Str}:∀{R:List (Str×List Str)} {b:Bool} {ahead:List Str},(∀r∈R,isNm r.1=true/\r.2.length<=2/\∀p∈r.2,p∈names)->(ahead++R.map (·.1)).Nodup->(b=true->∀r,R[0]?=some r->∀p∈r.2,p∈above)->rwD names above b R ahead=.ok (ahead++R.map (·.1))
 | [],_,_,_,_,_=>by simp [rwD]
 | r :: R,b,ahead,h,nd,hb=>by
  obtain⟨a1,a2,a3⟩:=h r (by simp);unfold rwD;rw [if_neg (by simp [a1]),if_neg (fun m=>(List.nodup_append.mp nd).2.2 _ m r.1 (by simp) rfl),if_neg (by omega),if_neg (fun⟨p,m,z⟩=>z (a3 p m)),if_neg (fun⟨hb',p,m,z⟩=>z (hb hb' r rfl p m)),RV (fun q m=>h q (List.mem_cons_of_mem _ m)) (by simpa using nd) (fun z=>by cases z)];simp
theorem Sf{names:List Str}:∀{R:Kd} {above ahead:List Str},(∀kd∈R,∀r∈kd.2,isNm r.1=true/\r.2.length<=2/\∀p∈r.2,p∈names)->(ahead++mks R).Nodup->(∀D kd R',R=D++kd :: R'->∀r,kd.2[0]?=some r->∀x∈r.2,x∈above++D.map (·.1))->kdD names R above ahead=none
 | [],_,_,_,_,_=>rfl
 | kd :: R,above,ahead,h,nd,hg=>by
  rw [EJ,<- List.append_assoc] at nd;unfold kdD;rw [RV (h kd (by simp)) (List.nodup_append.mp nd).1 (fun _ r e p m=>by simpa using hg [] kd R rfl r e p m)];exact Sf (fun k m=>h k (List.mem_cons_of_mem _ m)) nd (fun D k R' e r er x mx=>by simpa using hg (kd :: D) k R' (by rw [e];rfl) r er x mx)
theorem WC{K:Kd}(B:Bd K)(W:Well K):Fp K=none:=by
 have nm:∀z,Bs z=true->Bj [vl (.str z)]=.ok (.t (.bl true)) [vl (.str z)]->isNm z=true:=fun z hz e=>by
  rw [GO (LM hz)] at e;simpa using e
 have e:Cz K=none:=by
  unfold Cz;rw [if_neg (by simpa using ⟨W.lo,W.hi⟩)];exact Sj (fun kd m=>⟨nm _ (B.nm kd m) (W.nm kd m),W.rw kd m⟩) (by simpa using W.nd)
 unfold Fp;rw [e];exact Sf (fun kd m r mr=>⟨nm _ (B.ro kd m r mr).1 (W.mnm _ (Od m mr)),W.two kd m r mr,W.prt kd m r mr⟩) (by simpa using W.mnd) (fun D kd R' eK r er x mx=>by simpa using W.gr D kd R' eK r er x mx)
abbrev ol(zs:List Str):Option Sl:=some (.own (.lst (zs.map T.str)))
def outI:Option Nat->Int
 | some n=>n
 | none=>-1
theorem PU{i:Nat}{z:Str}{fs:FS}(h:fs[i]?=some (vl (.str z)))(hz:Bs z=true):ID (fz (Am (AD 1 BJ) (Ar (fz (Aa i)) Ak))) fs=.ok (!isNm z) fs :=
 IE (Ew (Fl (rs:=[.t (.str z)]) (As (AJ (Ac h)) AV) rfl rfl (PQ (LM hz))))
abbrev hdB:FS->SO:=(AL (ifS (ID (fz (Am (AD 1 BJ) (Ar (fz (Aa 2)) Ak)))) (retS (gc (.int 0))) nxS)
  (AL (ifS (asB (Ae (D5 false) (fz (Aa 2)) (Aa 1))) (retS (gc (.int 1))) nxS)
  (AL (ifS (orT (asB (Ae gLt (Am AY (Ab (Aa 3) Ak)) (gc (.int 1)))) (asB (Ae gGt (Am AY (Ab (Aa 3) Ak)) (gc (.int 4))))) (retS (gc (.int 2))) nxS)
  (Bq (A8 Ea (Aa 1) (Ab (fz (Aa 2)) Ak))))))
theorem OK{sc:T}:∀(R:Kd) (seen:List Str) (x2 x3:Option Sl),Fre x2->Fre x3->(∀kd∈R,Bs kd.1=true/\kd.2.length<=5)->seen.length+R.length<=100 ->
  (∀n,hdD R seen=some n->∃τ,Dk (A3 2 (An (tgN 2) (An (tgN 3) A0))) hdB (R.map Af) [vl sc,ol seen,x2,x3]=.ret (.t (.int (n:Nat))) (vl sc :: τ)) /\
  (hdD R seen=none->∃τ,Dk (A3 2 (An (tgN 2) (An (tgN 3) A0))) hdB (R.map Af) [vl sc,ol seen,x2,x3]=.nx (vl sc :: τ))
 | [],_,_,_,_,_,_,_=>⟨(fun n h=>by cases h),fun _=>⟨_,rfl⟩⟩
 | kd :: R,seen,x2,x3,f2,f3,hB,hl=>by
  rw [List.length_cons] at hl;have hk:=(hB kd (by simp)).1;have g:A3 2 (An (tgN 2) (An (tgN 3) A0)) (Af kd) [vl sc,ol seen,x2,x3]=some [vl sc,ol seen,vl (.str kd.1),vl (.lst (kd.2.map AN))]:=Fq (by unfold tgN;exact Ba rfl f2) (by unfold tgN;exact Ba rfl f3);have c1:=PU (i:=2) (fs:=[vl sc,ol seen,vl (.str kd.1),vl (.lst (kd.2.map AN))]) rfl hk;have c2:asB (Ae (D5 false) (fz (Aa 2)) (Aa 1)) [vl sc,ol seen,vl (.str kd.1),vl (.lst (kd.2.map AN))]=.ok (decide (kd.1∈seen)) [vl sc,ol seen,vl (.str kd.1),vl (.lst (kd.2.map AN))]:=BM (Fm (AJ (Ac rfl)) (CJ rfl) (LX (xs:=seen) (UX rfl)));have c3:=outside (m:=4) (DB (i:=3) (ts:=kd.2.map AN) (fs:=[vl sc,ol seen,vl (.str kd.1),vl (.lst (kd.2.map AN))]) rfl);rw [List.length_map] at c3;unfold hdD;rw [List.map_cons];by_cases h1:isNm kd.1=false
  ·rw [if_pos h1]
   rw [h1] at c1;exact⟨fun n h=>by cases h;exact⟨_,Ef g (BC (CH c1 (Bk AB)))⟩,fun h=>by cases h⟩
  rw [if_neg h1];rw [show isNm kd.1=true by simpa using h1] at c1;by_cases h2:kd.1∈seen
  ·rw [if_pos h2]
   rw [decide_eq_true h2] at c2;exact⟨fun n h=>by cases h;exact⟨_,Ef g (sq (Bh c1 rfl) (BC (CH c2 (Bk AB))))⟩,fun h=>by cases h⟩
  rw [if_neg h2];rw [decide_eq_false h2] at c2;by_cases h3:1<=kd.2.length/\kd.2.length<=4
  ·rw [if_neg (by simpa using h3)]
   rw [decide_eq_true (show 1<=kd.2.length/\(kd.2.length:Int)<=4 by omega)] at c3;have st:Dk (A3 2 (An (tgN 2) (An (tgN 3) A0))) hdB (Af kd :: R.map Af) [vl sc,ol seen,x2,x3]=Dk (A3 2 (An (tgN 2) (An (tgN 3) A0))) hdB (R.map Af) [vl sc,ol (seen++[kd.1]),vl (.str kd.1),vl (.lst (kd.2.map AN))] :=
    Hw g (sq (Bh c1 rfl) (sq (Bh c2 rfl) (sq (Bh c3 rfl) (Ky (i:=1) rfl (AJ (Ac (t:=.str kd.1) rfl)) (by rw [List.length_map];show _ < 1000000;omega) (by simp)))))
   rw [st];exact OK R (seen++[kd.1]) (vl (.str kd.1)) (vl (.lst (kd.2.map AN))) AZ AZ (fun k m=>hB k (List.mem_cons_of_mem _ m)) (by rw [List.length_append];simp;omega)
  ·rw [if_pos (by simpa using h3)]
   rw [decide_eq_false (show ¬(1<=kd.2.length/\(kd.2.length:Int)<=4) by omega)] at c3;exact⟨fun n h=>by cases h;exact⟨_,Ef g (sq (Bh c1 rfl) (sq (Bh c2 rfl) (BC (CH c3 (Bk AB)))))⟩,fun h=>by cases h⟩
theorem Se{fs:FS}:GN (gc (.int 1)) fs=.ok (.t (.int (-1))) fs:=rfl
theorem Q1{K:Kd}(B:Bd K):BF [vl (.lst (K.map Af))]=.ok (.t (.int (outI (Cz K)))) [vl (.lst (K.map Af))]:=by
 have c0:=outside (m:=4) (DB (i:=0) (ts:=K.map Af) (fs:=[vl (.lst (K.map Af)),none,none,none]) rfl);rw [List.length_map] at c0;have fin:∀τ,DT [vl (.lst (K.map Af)),none,none,none]=.ret (.t (.int (outI (Cz K)))) (vl (.lst (K.map Af)) :: τ)->BF [vl (.lst (K.map Af))]=.ok (.t (.int (outI (Cz K)))) [vl (.lst (K.map Af))]:=fun τ e=>(Fv (n:=3) (g:=DT) (args:=[vl (.lst (K.map Af))]) e).trans rfl
 have hl:=B.len;unfold Cz at fin ⊢;by_cases h1:1<=K.length/\K.length<=4
 ·rw [if_neg (by simpa using h1)] at fin ⊢
  rw [decide_eq_true (show 1<=K.length/\(K.length:Int)<=4 by omega)] at c0;obtain⟨e1,e2⟩:=OK (sc:=.lst (K.map Af)) K [] none none AA AA (fun kd m=>⟨B.nm kd m,B.rw kd m⟩) (by simp;omega);have sf:Eg (itU (fz (Aa 0))) (A3 2 (An (tgN 2) (An (tgN 3) A0))) hdB [vl (.lst (K.map Af)),ol [],none,none]=Dk (A3 2 (An (tgN 2) (An (tgN 3) A0))) hdB (K.map Af) [vl (.lst (K.map Af)),ol [],none,none]:=by
   unfold Eg;rw [Et (AJ (Ac (t:=.lst (K.map Af)) rfl))];rfl
  cases e:hdD K [] with
  | some n =>
   rw [e] at fin;obtain⟨τ,q⟩:=e1 n e;exact fin τ (sq (Bh c0 rfl) (sq (fs':=[vl (.lst (K.map Af)),ol [],none,none]) rfl (BC (sf.trans q))))
  | none =>
   rw [e] at fin;obtain⟨τ,q⟩:=e2 e;exact fin τ (sq (Bh c0 rfl) (sq (fs':=[vl (.lst (K.map Af)),ol [],none,none]) rfl (sq (sf.trans q) (Bk Se))))
 ·rw [if_pos (by simpa using h1)] at fin ⊢
  rw [decide_eq_false (show ¬(1<=K.length/\(K.length:Int)<=4) by omega)] at c0;exact fin _ (BC (CH c0 (Bk AB)))
theorem Jm{fe:FS->Out Rv}{ft:FS->Out Bool}{p:Str->Bool}{rest:FS}(hf:∀c,ft (vl (.str c) :: rest)=.ok (p c) (vl (.str c) :: rest))(he:∀c,fe (vl (.str c) :: rest)=.ok (.t (.str c)) (vl (.str c) :: rest)):∀(cs:List Str) (x:Option Sl) (acc:List T),Fre x->acc.length+cs.length<=1000->∃y,Cs (tgN 0) ft fe (cs.map T.str) (x :: rest) acc=some (acc++(cs.filter p).map T.str,y :: rest)
 | [],x,acc,_,_=>⟨x,by simp [Cs]⟩
 | c :: cs,x,acc,fx,hl=>by
  rw [List.length_cons] at hl;have g:tgN 0 (T.str c) (x :: rest)=some (vl (.str c) :: rest):=by unfold tgN;exact Ba rfl fx
  cases hp:p c with
  | true =>
   obtain⟨y,e⟩:=Jm hf he cs (vl (.str c)) (acc++[.str c]) AZ (by rw [List.length_append];simp;omega);refine⟨y,?_⟩;rw [List.map_cons,Cs];simp only [g,hf,hp,he];rw [if_pos (show acc.length < big by show _ < 1000000;omega),e,List.filter_cons,hp];simp
  | false =>
   obtain⟨y,e⟩:=Jm hf he cs (vl (.str c)) acc AZ (by omega);refine⟨y,?_⟩;rw [List.map_cons,Cs];simp only [g,hf,hp];rw [e,List.filter_cons,hp];simp
theorem miss{j s:Nat}{ps xs:List Str}{fs:FS}(h1:fs[j]?=some (vl (.tup (ps.map T.str))))(h2:fs[s]?=some (vl (.lst (xs.map T.str))))(hl:ps.length<=1000):asB (Ae (M4 true) (BW false [none,some s] (itU (fz (Aa j))) (tgN 0) (asB (Ae (D5 true) (fz (Aa 0)) (Aa 1))) (fz (Aa 0))) (Av A1 Ak)) fs=.ok (decide (∃p∈ps,p∉xs)) fs:=by
 have hs:s < fs.length:=(List.getElem?_eq_some_iff.mp h2).1;have hini:Dp fs ([none,some s].map fun o=>o.elim Ini.no Ini.slot)=[none,vl (.lst (xs.map T.str))]:=by
  show [none,V8 fs (.slot s)]=_;simp only [V8,h2]
 have hlent:CG fs ([none,some s].map fun o=>o.elim Ini.no Ini.slot)=[]:=by
  unfold CG;show List.filterMap (Di fs) [.no,.slot s]=[];have h3:FL.Bg fs s=none:=by unfold FL.Bg;rw [h2]
  simp [List.filterMap,Di,h3]
 obtain⟨y,e2⟩:=Jm (fe:=fz (Aa 0)) (ft:=asB (Ae (D5 true) (fz (Aa 0)) (Aa 1))) (p:=fun c=>!decide (c∈xs)) (rest:=[vl (.lst (xs.map T.str))]) (fun c=>BM (Ag (AJ (Ac rfl)) (Ac rfl) OI)) (fun c=>AJ (Ac rfl)) ps none [] AA (by simp;omega);have e3:=Df (src:=[none,some s]) (fi:=itU (fz (Aa j))) (fs:=fs) (ts:=ps.map T.str) (K4 (AJ (Ac h1))) ⟨by rw [hlent];exact List.nodup_nil,by simp [hs]⟩ (by rw [hini];exact e2) (AO hlent);rw [List.nil_append] at e3;have en:Av A1 Ak fs=.ok (.t (.lst [])) fs:=rfl;have hd:decide (∃p∈ps,p∉xs)=!(ps.filter fun c=>!decide (c∈xs)).isEmpty:=by
  rw [Bool.eq_iff_iff,decide_eq_true_eq,Bool.not_eq_true',<- Bool.not_eq_true,List.isEmpty_iff,List.filter_eq_nil_iff];simp
 rw [hd];refine BM (Ag e3 en ?_);cases ps.filter fun c=>!decide (c∈xs) with
 | nil=>rfl
 | cons a b=>rfl
def nums(a n:Nat):List T:=(List.range n).map fun i=>T.int ((a:Int)+(i:Nat))
theorem J0(a n:Nat):nums a (n+1)=.int (a:Int) :: nums (a+1) n:=by
 unfold nums;rw [List.range_succ_eq_map,List.map_cons,List.map_map];refine congr (congrArg _ (by simp)) ?_;refine List.map_congr_left fun i _=>?_
 show T.int _=T.int _;congr 1
 push_cast
 omega
abbrev drB:FS->SO:=(AL (SN (Ae AX (Aa 4) (fz (Aa 5))) (A3 2 (An (tgN 6) (An (tgN 7) A0))))
  (AL (ifS (ID (fz (Am (AD 1 BJ) (Ar (fz (Aa 6)) Ak)))) (retS (gc (.int 0))) nxS)
  (AL (ifS (asB (Ae (D5 false) (fz (Aa 6)) (Aa 2))) (retS (gc (.int 1))) nxS)
  (AL (ifS (asB (Ae gGt (Am AY (Ab (Aa 7) Ak)) (gc (.int 2)))) (retS (gc (.int 2))) nxS)
  (AL (ifS (asB (Ae (M4 true) (BW false [none,some 1] (itU (fz (Aa 7))) (tgN 0) (asB (Ae (D5 true) (fz (Aa 0)) (Aa 1))) (fz (Aa 0))) (Av A1 Ak))) (retS (gc (.int 3))) nxS)
  (AL (AS 8 (slF (Aa 1) noP (C7 (Aa 3))))
  (AL (ifS (Ly (asB (Ae (gEq false) (Aa 5) (gc (.int 0)))) (asB (Ae (M4 true) (BW false [none,some 8] (itU (fz (Aa 7))) (tgN 0) (asB (Ae (D5 true) (fz (Aa 0)) (Aa 1))) (fz (Aa 0))) (Av A1 Ak)))) (retS (gc (.int 4))) nxS)
  (Bq (A8 Ea (Aa 2) (Ab (fz (Aa 6)) Ak))))))))))
abbrev dS(sc:T)(names ahead:List Str)(at_:Nat)(rows:List (Str×List Str))(x5 x6 x7 x8:Option Sl):FS:=[vl sc,vl (.lst (names.map T.str)),ol ahead,iv (at_:Int),vl (.lst (rows.map AN)),x5,x6,x7,x8]
abbrev dQ(sc:T)(names ahead:List Str)(at_:Nat)(rows D:List (Str×List Str))(r:Str×List Str)(x8:Option Sl):FS:=dS sc names ahead at_ rows (iv (D.length:Int)) (vl (.str r.1)) (vl (.tup (r.2.map T.str))) x8
theorem Qk{a:Nat}{names:List Str}{fs:FS}(h1:fs[1]?=some (vl (.lst (names.map T.str))))(h3:fs[3]?=some (iv (a:Int)))(ha:a<=names.length):slF (Aa 1) noP (C7 (Aa 3)) fs=.ok (.t (.lst ((names.take a).map T.str))) fs:=by
 unfold slF;rw [Ac h1];show((noP fs).bind fun lo fs=>(C7 (Aa 3) fs).bind fun hi fs=>Sn (.t (.lst (names.map T.str))) lo hi fs)=_;show((C7 (Aa 3) fs).bind fun hi fs=>Sn (.t (.lst (names.map T.str))) none hi fs)=_;unfold C7;rw [Ac h3];show Sn (.t (.lst (names.map T.str))) none (some (a:Int)) fs=_;simp only [Sn,Dn,okT];rw [Kj (by omega) (by rw [List.length_map];omega),List.map_take];simp
theorem Pj{sc:T}{names:List Str}{at_:Nat}{rows:List (Str×List Str)}(ha:at_<=names.length):∀(R D:List (Str×List Str)) (ahead:List Str) (x5 x6 x7 x8:Option Sl),rows=D++R->Fre x5->Fre x6->Fre x7->Fre x8->(∀r∈R,Bs r.1=true/\r.2.length<=3)->ahead.length+R.length<=100 ->
  (∀n,rwD names (names.take at_) D.isEmpty R ahead=.error n->∃τ,Dk (tgN 5) drB (nums D.length R.length) (dS sc names ahead at_ rows x5 x6 x7 x8)=.ret (.t (.int (n:Nat))) (vl sc :: τ)) /\
  (∀a',rwD names (names.take at_) D.isEmpty R ahead=.ok a'->a'.length<=ahead.length+R.length/\∃y5 y6 y7 y8,Fre y5/\Fre y6/\Fre y7/\Fre y8/\Dk (tgN 5) drB (nums D.length R.length) (dS sc names ahead at_ rows x5 x6 x7 x8)=.nx (dS sc names a' at_ rows y5 y6 y7 y8))
 | [],D,ahead,x5,x6,x7,x8,_,f5,f6,f7,f8,_,_=>⟨(fun n h=>by simp [rwD] at h),fun a' h=>by
   simp only [rwD] at h;cases h;exact⟨by simp,x5,x6,x7,x8,f5,f6,f7,f8,rfl⟩⟩
 | r :: R,D,ahead,x5,x6,x7,x8,eR,f5,f6,f7,f8,hB,hl=>by
  rw [List.length_cons] at hl ⊢;rw [J0];obtain⟨hz,hp⟩:=hB r (by simp);have g:tgN 5 (.int (D.length:Int)) (dS sc names ahead at_ rows x5 x6 x7 x8)=some (dS sc names ahead at_ rows (iv (D.length:Int)) x6 x7 x8):=by unfold tgN;exact Ba rfl f5
  have q1:atI (rows.map AN) (D.length:Int)=some (AN r):=A2 (by rw [List.getElem?_map,eR,List.getElem?_append_right (Nat.le_refl _)];simp);have s1:SN (Ae AX (Aa 4) (fz (Aa 5))) (A3 2 (An (tgN 6) (An (tgN 7) A0))) (dS sc names ahead at_ rows (iv (D.length:Int)) x6 x7 x8)=.nx (dQ sc names ahead at_ rows D r x8) :=
   Yk (x:=.str r.1) (y:=.tup (r.2.map T.str)) (Ag (Ac (t:=.lst (rows.map AN)) rfl) (AJ (Ac rfl)) (A7 rfl q1)) (by unfold tgN;exact Ba rfl f6) (by unfold tgN;exact Ba rfl f7)
  have c1:=PU (i:=6) (fs:=dQ sc names ahead at_ rows D r x8) rfl hz;have c2:asB (Ae (D5 false) (fz (Aa 6)) (Aa 2)) (dQ sc names ahead at_ rows D r x8)=.ok (decide (r.1∈ahead)) (dQ sc names ahead at_ rows D r x8):=BM (Fm (AJ (Ac rfl)) (CJ rfl) (LX (xs:=ahead) (UX rfl)));have c3:asB (Ae gGt (Am AY (Ab (Aa 7) Ak)) (gc (.int 2))) (dQ sc names ahead at_ rows D r x8)=.ok (decide (r.2.length > 2)) (dQ sc names ahead at_ rows D r x8):=by
   have e:=Jb (f:=Aa 7) (fs:=dQ sc names ahead at_ rows D r x8) (ts:=r.2.map T.str) (Ac rfl) (.inr rfl);rw [List.length_map] at e;refine BM (Ag e AB ?_);show okT (.bl (decide ((r.2.length:Int) > 2))) _=_;rw [show decide ((r.2.length:Int) > 2)=decide (r.2.length > 2) by rw [decide_eq_decide];omega];rfl
  have c4:=miss (j:=7) (s:=1) (ps:=r.2) (xs:=names) (fs:=dQ sc names ahead at_ rows D r x8) rfl rfl (by omega);have s8:AS 8 (slF (Aa 1) noP (C7 (Aa 3))) (dQ sc names ahead at_ rows D r x8)=.nx (dQ sc names ahead at_ rows D r (vl (.lst ((names.take at_).map T.str)))):=Bb (Qk rfl rfl ha) (Ba rfl f8);have c5:=miss (j:=7) (s:=8) (ps:=r.2) (xs:=names.take at_) (fs:=dQ sc names ahead at_ rows D r (vl (.lst ((names.take at_).map T.str)))) rfl rfl (by omega);have c6:asB (Ae (gEq false) (Aa 5) (gc (.int 0))) (dQ sc names ahead at_ rows D r (vl (.lst ((names.take at_).map T.str))))=.ok D.isEmpty (dQ sc names ahead at_ rows D r (vl (.lst ((names.take at_).map T.str)))):=by
   have:=FJ (fa:=Aa 5) (fb:=gc (.int 0)) (fs:=dQ sc names ahead at_ rows D r (vl (.lst ((names.take at_).map T.str)))) (i:=(D.length:Int)) (Ac rfl) AB;rw [this];congr 1;cases D with
   | nil=>rfl
   | cons a b=>exact decide_eq_false (by simp;omega)
  unfold rwD;by_cases h1:isNm r.1=false
  ·rw [if_pos h1]
   rw [h1] at c1;exact⟨fun n h=>by cases h;exact⟨_,Ef g (sq s1 (BC (CH c1 (Bk AB))))⟩,fun a' h=>by cases h⟩
  rw [if_neg h1];rw [show isNm r.1=true by simpa using h1] at c1;by_cases h2:r.1∈ahead
  ·rw [if_pos h2]
   rw [decide_eq_true h2] at c2;exact⟨fun n h=>by cases h;exact⟨_,Ef g (sq s1 (sq (Bh c1 rfl) (BC (CH c2 (Bk AB)))))⟩,fun a' h=>by cases h⟩
  rw [if_neg h2];rw [decide_eq_false h2] at c2;by_cases h3:r.2.length > 2
  ·rw [if_pos h3]
   rw [decide_eq_true h3] at c3;exact⟨fun n h=>by cases h;exact⟨_,Ef g (sq s1 (sq (Bh c1 rfl) (sq (Bh c2 rfl) (BC (CH c3 (Bk AB))))))⟩,fun a' h=>by cases h⟩
  rw [if_neg h3];rw [decide_eq_false h3] at c3;by_cases h4:∃p∈r.2,p∉names
  ·rw [if_pos h4]
   rw [decide_eq_true h4] at c4;exact⟨fun n h=>by cases h;exact⟨_,Ef g (sq s1 (sq (Bh c1 rfl) (sq (Bh c2 rfl) (sq (Bh c3 rfl) (BC (CH c4 (Bk AB)))))))⟩,fun a' h=>by cases h⟩
  rw [if_neg h4];rw [decide_eq_false h4] at c4;have c7:=Lx c6 c5;by_cases h5:D.isEmpty=true/\∃p∈r.2,p∉names.take at_
  ·rw [if_pos h5]
   rw [h5.1,decide_eq_true h5.2] at c7;exact⟨fun n h=>by cases h;exact⟨_,Ef g (sq s1 (sq (Bh c1 rfl) (sq (Bh c2 rfl) (sq (Bh c3 rfl) (sq (Bh c4 rfl) (sq s8 (BC (CH c7 (Bk AB)))))))))⟩,fun a' h=>by cases h⟩
  rw [if_neg h5];have c7':(D.isEmpty && decide (∃p∈r.2,p∉names.take at_))=false:=by
   rw [Bool.and_eq_false_iff];by_cases h6:D.isEmpty=true
   ·exact .inr (decide_eq_false fun z=>h5 ⟨h6,z⟩)
   ·exact .inl (by simpa using h6)
  rw [c7'] at c7;have s9:Bq (A8 Ea (Aa 2) (Ab (fz (Aa 6)) Ak)) (dQ sc names ahead at_ rows D r (vl (.lst ((names.take at_).map T.str))))=.nx (dS sc names (ahead++[r.1]) at_ rows (iv (D.length:Int)) (vl (.str r.1)) (vl (.tup (r.2.map T.str))) (vl (.lst ((names.take at_).map T.str)))):=Ky (i:=2) rfl (AJ (Ac (t:=.str r.1) rfl)) (by rw [List.length_map];show _ < 1000000;omega) (by simp);have st:Dk (tgN 5) drB (.int (D.length:Int) :: nums (D.length+1) R.length) (dS sc names ahead at_ rows x5 x6 x7 x8)=Dk (tgN 5) drB (nums (D++[r]).length R.length) (dS sc names (ahead++[r.1]) at_ rows (iv (D.length:Int)) (vl (.str r.1)) (vl (.tup (r.2.map T.str))) (vl (.lst ((names.take at_).map T.str)))):=by
   rw [show(D++[r]).length=D.length+1 by simp];exact Hw g (sq s1 (sq (Bh c1 rfl) (sq (Bh c2 rfl) (sq (Bh c3 rfl) (sq (Bh c4 rfl) (sq s8 (sq (Bh c7 rfl) s9)))))))
  rw [st];obtain⟨i1,i2⟩:=Pj (sc:=sc) (rows:=rows) ha R (D++[r]) (ahead++[r.1]) (iv (D.length:Int)) (vl (.str r.1)) (vl (.tup (r.2.map T.str))) (vl (.lst ((names.take at_).map T.str))) (by rw [eR];simp) AZ AZ AZ AZ (fun q m=>hB q (List.mem_cons_of_mem _ m)) (by rw [List.length_append];simp;omega);have eb:(D++[r]).isEmpty=false:=by simp
  rw [eb] at i1 i2;refine⟨i1,fun a' h=>?_⟩;obtain⟨l1,l2⟩:=i2 a' h;exact⟨by rw [List.length_append] at l1;simp at l1;omega,l2⟩
abbrev dkB:FS->SO:=(AL (AS 4 (Ae AX (Ae AX (Aa 0) (fz (Aa 3))) (gc (.int 1))))
  (Eg (Fe (Ab (Am AY (Ab (Aa 4) Ak)) Ak)) (tgN 5) drB))
theorem Pk{K:Kd}(hK:K.length<=5):∀(R D:Kd) (ahead:List Str) (x3 x4 x5 x6 x7 x8:Option Sl),K=D++R->Fre x3->Fre x4->Fre x5->Fre x6->Fre x7->Fre x8->(∀kd∈R,kd.2.length<=5/\∀r∈kd.2,Bs r.1=true/\r.2.length<=3)->ahead.length+5 * R.length<=90 ->
  (∀n,kdD (K.map (·.1)) R (D.map (·.1)) ahead=some n->∃τ,Dk (tgN 3) dkB (nums D.length R.length) [vl (.lst (K.map Af)),vl (.lst ((K.map (·.1)).map T.str)),ol ahead,x3,x4,x5,x6,x7,x8]=.ret (.t (.int (n:Nat))) (vl (.lst (K.map Af)) :: τ)) /\
  (kdD (K.map (·.1)) R (D.map (·.1)) ahead=none->∃τ,Dk (tgN 3) dkB (nums D.length R.length) [vl (.lst (K.map Af)),vl (.lst ((K.map (·.1)).map T.str)),ol ahead,x3,x4,x5,x6,x7,x8]=.nx (vl (.lst (K.map Af)) :: τ))
 | [],D,ahead,_,_,_,_,_,_,_,_,_,_,_,_,_,_,_=>⟨(fun n h=>by cases h),fun _=>⟨_,rfl⟩⟩
 | kd :: R,D,ahead,x3,x4,x5,x6,x7,x8,eK,f3,f4,f5,f6,f7,f8,hB,hl=>by
  rw [List.length_cons] at hl ⊢;rw [J0];obtain⟨b2,b3⟩:=hB kd (by simp);have hD:D.length < K.length:=by rw [eK];simp
  have g:tgN 3 (.int (D.length:Int)) [vl (.lst (K.map Af)),vl (.lst ((K.map (·.1)).map T.str)),ol ahead,x3,x4,x5,x6,x7,x8]=some [vl (.lst (K.map Af)),vl (.lst ((K.map (·.1)).map T.str)),ol ahead,iv (D.length:Int),x4,x5,x6,x7,x8]:=by unfold tgN;exact Ba rfl f3
  have q1:atI (K.map Af) (D.length:Int)=some (Af kd):=A2 (by rw [List.getElem?_map,eK,List.getElem?_append_right (Nat.le_refl _)];simp);have s4:AS 4 (Ae AX (Ae AX (Aa 0) (fz (Aa 3))) (gc (.int 1))) [vl (.lst (K.map Af)),vl (.lst ((K.map (·.1)).map T.str)),ol ahead,iv (D.length:Int),x4,x5,x6,x7,x8]=.nx (dS (.lst (K.map Af)) (K.map (·.1)) ahead D.length kd.2 x5 x6 x7 x8) :=
   Bb (Ag (Ag (Ac (t:=.lst (K.map Af)) rfl) (AJ (Ac rfl)) (A7 rfl q1)) AB (show AX (.t (Af kd)) (.t (.int 1)) _=.ok (.t (.lst (kd.2.map AN))) _ from rfl)) (Ba rfl f4)
  have et:(K.map (·.1)).take D.length=D.map (·.1):=by rw [eK,List.map_append,<- List.length_map (f:=(·.1)) (as:=D),List.take_left]
  obtain⟨m1,m2⟩:=Pj (sc:=.lst (K.map Af)) (names:=K.map (·.1)) (at_:=D.length) (rows:=kd.2) (by rw [List.length_map];omega) kd.2 [] ahead x5 x6 x7 x8 rfl f5 f6 f7 f8 b3 (by omega);rw [et] at m1 m2;have el:=DB (i:=4) (ts:=kd.2.map AN) (fs:=dS (.lst (K.map Af)) (K.map (·.1)) ahead D.length kd.2 x5 x6 x7 x8) rfl;rw [List.length_map] at el;have sf:∀r,Dk (tgN 5) drB (nums 0 kd.2.length) (dS (.lst (K.map Af)) (K.map (·.1)) ahead D.length kd.2 x5 x6 x7 x8)=r->Eg (Fe (Ab (Am AY (Ab (Aa 4) Ak)) Ak)) (tgN 5) drB (dS (.lst (K.map Af)) (K.map (·.1)) ahead D.length kd.2 x5 x6 x7 x8)=r:=fun r e=>Hx (Az el AV) (Nat.lt_of_le_of_lt b2 (by decide)) e
  unfold kdD;cases e:rwD (K.map (·.1)) (D.map (·.1)) true kd.2 ahead with
  | error n' =>
   obtain⟨τ,e'⟩:=m1 n' e;exact⟨fun n h=>by cases h;exact⟨τ,Ef g (sq s4 (sf _ e'))⟩,fun h=>by cases h⟩
  | ok a' =>
   obtain⟨l1,y5,y6,y7,y8,g5,g6,g7,g8,e'⟩:=m2 a' e;have st:Dk (tgN 3) dkB (.int (D.length:Int) :: nums (D.length+1) R.length) [vl (.lst (K.map Af)),vl (.lst ((K.map (·.1)).map T.str)),ol ahead,x3,x4,x5,x6,x7,x8]=Dk (tgN 3) dkB (nums (D++[kd]).length R.length) [vl (.lst (K.map Af)),vl (.lst ((K.map (·.1)).map T.str)),ol a',iv (D.length:Int),vl (.lst (kd.2.map AN)),y5,y6,y7,y8]:=by
    rw [show(D++[kd]).length=D.length+1 by simp];exact Hw g (sq s4 (sf _ e'))
   rw [st];have:=Pk hK R (D++[kd]) a' (iv (D.length:Int)) (vl (.lst (kd.2.map AN))) y5 y6 y7 y8 (by rw [eK];simp) AZ AZ g5 g6 g7 g8 (fun k m=>hB k (List.mem_cons_of_mem _ m)) (by omega);rw [List.map_append] at this;exact this
theorem names0{i:Nat}{K:Kd}{fs:FS}(h:fs[i]?=some (vl (.lst (K.map Af))))(hl:K.length<=5):BW false [none] (itU (fz (Aa i))) (tgN 0) DX (Ae AX (Aa 0) (gc (.int 0))) fs=.ok (.t (.lst ((K.map (·.1)).map T.str))) fs:=by
 obtain⟨y,_,e⟩:=HC (fe:=Ae AX (Aa 0) (gc (.int 0))) (p:=Af) (q:=fun kd=>.str kd.1) (rest:=[]) K none [] AA (fun kd _=>Ag (Ac (t:=Af kd) rfl) AB rfl) (by show 0+_<=1000000;omega);have:=Df (src:=[none]) (fi:=itU (fz (Aa i))) (fs:=fs) (ts:=K.map Af) (Et (AJ (Ac h))) ⟨by rw [show CG fs (List.map _ [none])=[] from rfl];exact List.nodup_nil,by rfl⟩ e (AO rfl);rw [this,List.nil_append,List.map_map];rfl
theorem WB{K:Kd}(B:Bd K):Hz [vl (.lst (K.map Af))]=.ok (.t (.int (outI (Fp K)))) [vl (.lst (K.map Af))]:=by
 have hl:=B.len;have fin:∀τ,Mq [vl (.lst (K.map Af)),none,none,none,none,none,none,none,none]=.ret (.t (.int (outI (Fp K)))) (vl (.lst (K.map Af)) :: τ)->Hz [vl (.lst (K.map Af))]=.ok (.t (.int (outI (Fp K)))) [vl (.lst (K.map Af))]:=fun τ e=>(Fv (n:=8) (g:=Mq) (args:=[vl (.lst (K.map Af))]) e).trans rfl
 have hc:Am (AD 1 BF) (Ar (fz (Aa 0)) Ak) [vl (.lst (K.map Af)),none,none,none,none,none,none,none,none]=.ok (.t (.int (outI (Cz K)))) [vl (.lst (K.map Af)),none,none,none,none,none,none,none,none]:=Fl (rs:=[.t (.lst (K.map Af))]) (As (AJ (Ac rfl)) AV) rfl rfl (Q1 B);have c0:asB (Ae gGt (fz (Am (AD 1 BF) (Ar (fz (Aa 0)) Ak))) (GN (gc (.int 1)))) [vl (.lst (K.map Af)),none,none,none,none,none,none,none,none]=.ok (decide (outI (Cz K) > -1)) [vl (.lst (K.map Af)),none,none,none,none,none,none,none,none]:=BM (Ag (Ew hc) Se rfl);unfold Fp at fin ⊢;cases e:Cz K with
 | some n =>
  rw [e] at fin c0 hc;rw [decide_eq_true (show outI (some n) > -1 by show((n:Nat):Int) > -1;omega)] at c0;exact fin _ (BC (CH c0 (Bk hc)))
 | none =>
  rw [e] at fin c0;rw [decide_eq_false (show ¬ outI none > -1 by show ¬ (-1:Int) > -1;omega)] at c0;obtain⟨m1,m2⟩:=Pk (K:=K) hl K [] [] none none none none none none rfl AA AA AA AA AA AA (fun kd m=>⟨B.rw kd m,fun r mr=>⟨(B.ro kd m r mr).1,(B.ro kd m r mr).2.1⟩⟩) (by simp;omega);have el:=DB (i:=0) (ts:=K.map Af) (fs:=[vl (.lst (K.map Af)),vl (.lst ((K.map (·.1)).map T.str)),ol [],none,none,none,none,none,none]) rfl;rw [List.length_map] at el;have sf:∀r,Dk (tgN 3) dkB (nums 0 K.length) [vl (.lst (K.map Af)),vl (.lst ((K.map (·.1)).map T.str)),ol [],none,none,none,none,none,none]=r->Eg (Fe (Ab (Am AY (Ab (Aa 0) Ak)) Ak)) (tgN 3) dkB [vl (.lst (K.map Af)),vl (.lst ((K.map (·.1)).map T.str)),ol [],none,none,none,none,none,none]=r:=fun r e=>Hx (Az el AV) (Nat.lt_of_le_of_lt hl (by decide)) e
  have s1:AS 1 (BW false [none] (itU (fz (Aa 0))) (tgN 0) DX (Ae AX (Aa 0) (gc (.int 0)))) [vl (.lst (K.map Af)),none,none,none,none,none,none,none,none]=.nx [vl (.lst (K.map Af)),vl (.lst ((K.map (·.1)).map T.str)),none,none,none,none,none,none,none]:=Bb (names0 rfl hl) rfl;have s2:∀kk nn:Option Sl,AS 2 (Av Ee Ak) [kk,nn,none,none,none,none,none,none,none]=.nx [kk,nn,ol [],none,none,none,none,none,none]:=fun _ _=>rfl
  cases e2:kdD (K.map (·.1)) K [] [] with
  | some n =>
   rw [e2] at fin;obtain⟨τ,q⟩:=m1 n e2;exact fin τ (sq (Bh c0 rfl) (sq s1 (sq (s2 _ _) (BC (sf _ q)))))
  | none =>
   rw [e2] at fin;obtain⟨τ,q⟩:=m2 e2;exact fin τ (sq (Bh c0 rfl) (sq s1 (sq (s2 _ _) (sq (sf _ q) (Bk Se)))))
theorem JR{α:Type}{xs:List α}(h:0 < xs.length)(c:Int):∃(j:Nat) (v:α),j < xs.length/\c % (xs.length:Int)=(j:Int)/\xs[j]?=some v/\v∈xs/\atI xs (c % (xs.length:Int))=some v:=by
 have h0:=Int.emod_nonneg c (show(xs.length:Int)≠0 by omega);have h1:=Int.emod_lt_of_pos c (show(0:Int) < xs.length by omega);obtain⟨j,ej⟩:∃j:Nat,c % (xs.length:Int)=(j:Int):=⟨(c % (xs.length:Int)).toNat,by omega⟩
 have hj:j < xs.length:=by omega
 refine⟨j,xs[j],hj,ej,List.getElem?_eq_getElem hj,List.getElem_mem hj,?_⟩;rw [ej];exact A2 (List.getElem?_eq_getElem hj)
def WZ:List Str:=["","abcdefghijklm","aB","a1","a b","Z","_",Txt.mul "a" 13]
theorem TR:WZ.all Bs=true:=by decide +kernel
theorem Sd(c:Int):∃z,Bs z=true/\BV [iv c]=.ok (.t (.str z)) [iv c]:=by
 obtain⟨j,v,_,_,_,mv,e⟩:=JR (xs:=WZ.map T.str) (by decide) c;obtain⟨z,mz,rfl⟩:=List.mem_map.mp mv;refine⟨z,List.all_eq_true.mp TR z mz,?_⟩;have m:Ae Bp (gc (.str ("a":Str))) (gc (.int 13)) [iv c]=.ok (.t (.str (Txt.mul "a" 13))) [iv c]:=Ag AB AB (La ⟨S6,by decide,by decide⟩);have d:Av A1 (Ab (gc (.str ("":Str))) (Ab (gc (.str ("abcdefghijklm":Str))) (Ab (gc (.str ("aB":Str))) (Ab (gc (.str ("a1":Str))) (Ab (gc (.str ("a b":Str))) (Ab (gc (.str ("Z":Str))) (Ab (gc (.str ("_":Str))) (Ab (Ae Bp (gc (.str ("a":Str))) (gc (.int 13))) Ak)))))))) [iv c]=.ok (.t (.lst (WZ.map T.str))) [iv c] :=
  DR (ts:=WZ.map T.str) (Az AB (Az AB (Az AB (Az AB (Az AB (Az AB (Az AB (Az m AV)))))))) rfl (by decide)
 exact(Fv (n:=0) (g:=Fo) (args:=[iv c]) (Bk (Ag d (Ag (Ac rfl) AB (Bz (show(0:Int) < 8 by decide))) (A7 rfl e)))).trans rfl
def QG(m:Str)(ps:List Str):Prop:=Bs m=true/\ps.length<=3/\∀p∈ps,Bs p=true
abbrev spS(K:Kd)(w:Int)(row:T)(more:Int)(m:Str)(ps:List Str)(x6:Option Sl):FS:=[vl (.lst (K.map Af)),iv w,vl row,iv more,vl (.str m),vl (.tup (ps.map T.str)),x6]
theorem DQ{fa:FS->Out (List Rv)}{fs:FS}{rs:List Rv}{ts:List T}(h:fa fs=.ok rs fs)(h2:Jr rs=some ts)(h3:ts.length<=big):Av Bi fa fs=.ok (.t (.tup ts)) fs:=by
 unfold Av;rw [h];show(match Jr rs with | some ts=>_ | none=>_)=_;rw [h2];exact if_pos h3
theorem Xj{f:FS->Out Rv}{fs:FS}{ps:List Str}{x:Str}{i:Nat}(h:fs[i]?=some (vl (.tup (ps.map T.str))))(hf:f fs=.ok (.t (.str x)) fs)(hl:ps.length<=3)(hp:∀p∈ps,Bs p=true)(hx:Bs x=true) :
  ∃qs:List Str,qs.length<=3/\(∀p∈qs,Bs p=true)/\slF (Ae AF (Aa i) (Av Bi (Ab f Ak))) (C7 (GN (gc (.int 2)))) noP fs=.ok (.t (.tup (qs.map T.str))) fs:=by
 have e1:Ae AF (Aa i) (Av Bi (Ab f Ak)) fs=.ok (.t (.tup ((ps++[x]).map T.str))) fs:=by
  refine(Ag (Ac h) (DQ (ts:=[.str x]) (Az hf AV) rfl (show 1<=big by decide)) (WL (by rw [List.length_map];show _+1<=1000000;omega))).trans ?_;rw [List.map_append];rfl
 have e2:slF (Ae AF (Aa i) (Av Bi (Ab f Ak))) (C7 (GN (gc (.int 2)))) noP fs=.ok (.t (.tup (P6 ((ps++[x]).map T.str) (some (-2)) none))) fs:=by
  unfold slF;rw [e1];rfl
 refine⟨((ps++[x]).drop (HT.sIx ((ps++[x]).map T.str).length 0 (some (-2)))).take (HT.sIx ((ps++[x]).map T.str).length ((ps++[x]).map T.str).length none - HT.sIx ((ps++[x]).map T.str).length 0 (some (-2))),?_,fun p m=>?_,?_⟩
 ·rw [List.length_take,List.length_drop]
  have:HT.sIx ((ps++[x]).map T.str).length 0 (some (-2))=ps.length+1 - 2:=by
   rw [List.length_map,List.length_append];unfold HT.sIx;dsimp only;rw [if_pos (show(-2:Int) < 0 by decide)];simp only [List.length_cons,List.length_nil];omega
  rw [this];simp only [List.length_append,List.length_cons,List.length_nil];omega
 ·have m2:=List.mem_of_mem_drop (List.mem_of_mem_take m)
  rcases List.mem_append.mp m2 with m2 | m2
  ·exact hp p m2
  ·rw [List.mem_singleton.mp m2]
   exact hx
 ·rw [e2]
  unfold P6;rw [List.map_take,List.map_drop]
section
variable{K:Kd}{w more:Int}{row:T}
theorem wq{c:Int}{m:Str}{ps:List Str}{x6:Option Sl}:asB (Ae (gEq false) (Aa 1) (gc (.int c))) (spS K w row more m ps x6)=.ok (decide (w=c)) (spS K w row more m ps x6):=FJ (Ac rfl) AB
theorem Hs{c:FS->Out Bool}{g:FS->SO}{fs:FS}{P:FS->Prop}{b:Bool}(hc:c fs=.ok b fs)(h1:b=true->∃fs',g fs=.nx fs'/\P fs')(h0:P fs):∃fs',ifS c g nxS fs=.nx fs'/\P fs':=by
 cases b with
 | true =>
  obtain⟨fs',e,p⟩:=h1 rfl;exact⟨fs',CH hc e,p⟩
 | false=>exact⟨fs,Bh hc rfl,h0⟩
def SpP(K:Kd)(w:Int)(row:T)(more:Int)(fs:FS):Prop:=∃m ps x6,QG m ps/\Fre x6/\fs=spS K w row more m ps x6
theorem Oq(B:Bd K)(h0:0 < K.length){fs:FS}(h:fs[0]?=some (vl (.lst (K.map Af))))(h3:fs[3]?=some (iv more)):∃kd∈K,Ae AX (Aa 0) (Ae BA (Aa 3) (Am AY (Ab (Aa 0) Ak))) fs=.ok (.t (Af kd)) fs:=by
 obtain⟨j,v,_,_,_,mv,e⟩:=JR (xs:=K.map Af) (by simpa using h0) more;obtain⟨kd,mk,rfl⟩:=List.mem_map.mp mv;have el:=DB (i:=0) (ts:=K.map Af) h;refine⟨kd,mk,Ag (Ac h) (Ag (Ac h3) el (Bz ?_)) (A7 rfl e)⟩;rw [List.length_map];omega
theorem Ve(B:Bd K)(h0:0 < K.length){r:Str×List Str}(hr:QG r.1 r.2):∃m ps,QG m ps/\Bu [vl (.lst (K.map Af)),iv w,vl (AN r),iv more]=.ok (.t (AN (m,ps))) [vl (.lst (K.map Af)),iv w,vl (AN r),iv more]:=by
 have s0:SN (fz (Aa 2)) (A3 2 (An (tgN 4) (An (tgN 5) A0))) [vl (.lst (K.map Af)),iv w,vl (AN r),iv more,none,none,none]=.nx (spS K w (AN r) more r.1 r.2 none):=Yk (x:=.str r.1) (y:=.tup (r.2.map T.str)) (AJ (Ac rfl)) rfl rfl;have t0:SpP K w (AN r) more (spS K w (AN r) more r.1 r.2 none):=⟨r.1,r.2,none,hr,AA,rfl⟩
 generalize spS K w (AN r) more r.1 r.2 none=a0 at s0 t0;obtain⟨a1,s1,t1⟩:∃fs',ifS (asB (Ae (gEq false) (Aa 1) (gc (.int 0)))) (AS 4 (fz (Am (AD 1 BV) (Ar (fz (Aa 3)) Ak)))) nxS a0=.nx fs'/\SpP K w (AN r) more fs':=by
  obtain⟨m,ps,x6,hm,f6,rfl⟩:=t0;refine Hs wq (fun _=>?_) ⟨m,ps,x6,hm,f6,rfl⟩;obtain⟨z,hz,e⟩:=Sd more;exact⟨_,Bb (Ew (Fl (rs:=[.t (.int more)]) (As (AJ (Ac rfl)) AV) rfl rfl e)) rfl,z,ps,x6,⟨hz,hm.2⟩,f6,rfl⟩
 obtain⟨a2,s2,t2⟩:∃fs',ifS (asB (Ae (gEq false) (Aa 1) (gc (.int 1)))) (AL (AS 6 (Ae AX (Ae AX (Aa 0) (Ae BA (Aa 3) (Am AY (Ab (Aa 0) Ak)))) (gc (.int 1))))
  (ifS (asB (Ae gGt (Am AY (Ab (Aa 6) Ak)) (gc (.int 0)))) (AS 4 (Ae AX (Ae AX (Aa 6) (Ae BA (Ae C5 (Aa 3) (gc (.int 4))) (Am AY (Ab (Aa 6) Ak)))) (gc (.int 0)))) nxS)) nxS a1=.nx fs'/\SpP K w (AN r) more fs':=by
  obtain⟨m,ps,x6,hm,f6,rfl⟩:=t1;refine Hs wq (fun _=>?_) ⟨m,ps,x6,hm,f6,rfl⟩;obtain⟨kd,mk,ek⟩:=Oq (more:=more) B h0 (fs:=spS K w (AN r) more m ps x6) rfl rfl;have q6:AS 6 (Ae AX (Ae AX (Aa 0) (Ae BA (Aa 3) (Am AY (Ab (Aa 0) Ak)))) (gc (.int 1))) (spS K w (AN r) more m ps x6)=.nx (spS K w (AN r) more m ps (vl (.lst (kd.2.map AN)))):=Bb (Ag ek AB (show AX (.t (Af kd)) (.t (.int 1)) _=.ok (.t (.lst (kd.2.map AN))) _ from rfl)) (Ba rfl f6);have el:=DB (i:=6) (ts:=kd.2.map AN) (fs:=spS K w (AN r) more m ps (vl (.lst (kd.2.map AN)))) rfl;have cg:asB (Ae gGt (Am AY (Ab (Aa 6) Ak)) (gc (.int 0))) (spS K w (AN r) more m ps (vl (.lst (kd.2.map AN))))=.ok (decide (((kd.2.map AN).length:Int) > 0)) (spS K w (AN r) more m ps (vl (.lst (kd.2.map AN)))):=BM (Ag el AB rfl);obtain⟨fs',e,p⟩:=Hs (g:=AS 4 (Ae AX (Ae AX (Aa 6) (Ae BA (Ae C5 (Aa 3) (gc (.int 4))) (Am AY (Ab (Aa 6) Ak)))) (gc (.int 0)))) (P:=SpP K w (AN r) more) cg (fun hb=>by
   have hpos:0 < (kd.2.map AN).length:=by have:=of_decide_eq_true hb;omega
   obtain⟨j,v,_,_,_,mv,ea⟩:=JR (xs:=kd.2.map AN) hpos (more / 4);obtain⟨q,mq,rfl⟩:=List.mem_map.mp mv;exact⟨_,Bb (Ag (Ag (Ac rfl) (Ag (Ag (Ac rfl) AB (Dj ⟨by decide,by decide⟩)) el (Bz (by omega))) (A7 rfl ea)) AB (show AX (.t (AN q)) (.t (.int 0)) _=.ok (.t (.str q.1)) _ from rfl)) rfl,q.1,ps,_,⟨(B.ro kd mk q mq).1,hm.2⟩,AZ,rfl⟩) ⟨m,ps,_,hm,AZ,rfl⟩
  exact⟨fs',sq q6 e,p⟩
 obtain⟨k0,K',eK⟩:∃k0 K',K=k0 :: K':=by
  cases K with
  | nil=>simp at h0
  | cons a b=>exact⟨a,b,rfl⟩
 have hk0:Bs k0.1=true:=B.nm k0 (by rw [eK];simp);obtain⟨a3,s3,t3⟩:∃fs',ifS (asB (Ae (gEq false) (Aa 1) (gc (.int 2)))) (AS 5 (Ae M0 (Av Bi (Ab (Ae AX (Ae AX (Aa 0) (gc (.int 0))) (gc (.int 0))) Ak)) (gc (.int 3)))) nxS a2=.nx fs'/\SpP K w (AN r) more fs':=by
  obtain⟨m,ps,x6,hm,f6,rfl⟩:=t2;refine Hs wq (fun _=>?_) ⟨m,ps,x6,hm,f6,rfl⟩;have q0:atI (K.map Af) 0=some (Af k0):=A2 (j:=0) (by rw [eK];rfl);have e0:Ae AX (Ae AX (Aa 0) (gc (.int 0))) (gc (.int 0)) (spS K w (AN r) more m ps x6)=.ok (.t (.str k0.1)) (spS K w (AN r) more m ps x6):=Ag (Ag (Ac rfl) AB (A7 rfl q0)) AB (show AX (.t (Af k0)) (.t (.int 0)) _=.ok (.t (.str k0.1)) _ from rfl);exact⟨_,Bb (Ag (DQ (ts:=[.str k0.1]) (Az e0 AV) rfl (show 1<=big by decide)) AB (show M0 (.t (.tup [.str k0.1])) (.t (.int 3)) _=.ok (.t (.tup [.str k0.1,.str k0.1,.str k0.1])) _ from rfl)) rfl,m,[k0.1,k0.1,k0.1],x6,⟨hm.1,by simp,fun p mp=>by simp at mp;rw [mp];exact hk0⟩,f6,rfl⟩
 have tailS:∀{c:Int} {f:FS->Out Rv} {fs:FS},SpP K w (AN r) more fs->(∀m ps x6,QG m ps->∃x,Bs x=true/\f (spS K w (AN r) more m ps x6)=.ok (.t (.str x)) (spS K w (AN r) more m ps x6))->∃fs',ifS (asB (Ae (gEq false) (Aa 1) (gc (.int c)))) (AS 5 (slF (Ae AF (Aa 5) (Av Bi (Ab f Ak))) (C7 (GN (gc (.int 2)))) noP)) nxS fs=.nx fs'/\SpP K w (AN r) more fs':=fun {c f fs} t hf=>by
  obtain⟨m,ps,x6,hm,f6,rfl⟩:=t;refine Hs wq (fun _=>?_) ⟨m,ps,x6,hm,f6,rfl⟩;obtain⟨x,hx,ex⟩:=hf m ps x6 hm;obtain⟨qs,l1,l2,e⟩:=Xj (i:=5) (ps:=ps) (fs:=spS K w (AN r) more m ps x6) rfl ex hm.2.1 hm.2.2 hx;exact⟨_,Bb e rfl,m,qs,x6,⟨hm.1,l1,l2⟩,f6,rfl⟩
 obtain⟨a4,s4,t4⟩:=tailS (c:=3) (f:=Ae AX (Av A1 (Ab (gc (.str ("":Str))) (Ab (gc (.str ("abcdefghijklm":Str))) (Ab (gc (.str ("rrrrrrrrrr":Str))) (Ab (fz (Aa 4)) Ak))))) (Ae BA (Aa 3) (gc (.int 4)))) t3 fun m ps x6 hm=>by
  obtain⟨j,v,_,_,_,mv,ea⟩:=JR (xs:=[("":Str),"abcdefghijklm","rrrrrrrrrr",m].map T.str) (by simp) more;obtain⟨z,mz,rfl⟩:=List.mem_map.mp mv;refine⟨z,?_,Ag (DR (ts:=[("":Str),"abcdefghijklm","rrrrrrrrrr",m].map T.str) (Az AB (Az AB (Az AB (Az (AJ (Ac rfl)) AV)))) rfl (show 4<=big by decide)) (Ag (Ac rfl) AB (Bz (show(0:Int) < 4 by decide))) (A7 rfl ea)⟩;rcases List.mem_cons.mp mz with rfl | mz
  ·decide +kernel
  rcases List.mem_cons.mp mz with rfl | mz
  ·decide +kernel
  rcases List.mem_cons.mp mz with rfl | mz
  ·decide +kernel
  rw [List.mem_singleton.mp mz];exact hm.1
 obtain⟨a5,s5,t5⟩:=tailS (c:=4) (f:=Ae AX (Ae AX (Aa 0) (Ae BA (Aa 3) (Am AY (Ab (Aa 0) Ak)))) (gc (.int 0))) t4 fun m ps x6 hm=>by
  obtain⟨kd,mk,ek⟩:=Oq (more:=more) B h0 (fs:=spS K w (AN r) more m ps x6) rfl rfl;exact⟨kd.1,B.nm kd mk,Ag ek AB (show AX (.t (Af kd)) (.t (.int 0)) _=.ok (.t (.str kd.1)) _ from rfl)⟩
 obtain⟨a6,s6,t6⟩:=tailS (c:=5) (f:=Ae AX (Ae AX (Aa 0) (GN (gc (.int 1)))) (gc (.int 0))) t5 fun m ps x6 hm=>by
  obtain⟨kd,hk⟩:∃kd,K.getLast?=some kd:=by
   cases h:K.getLast? with
   | none=>rw [List.getLast?_eq_none_iff.mp h] at h0;simp at h0
   | some kd=>exact⟨kd,rfl⟩
  have ea:atI (K.map Af) (-1)=some (Af kd):=by
   have e:ixN (K.map Af).length (-1)=some ((K.map Af).length - 1):=by
    unfold ixN;rw [if_neg (by decide),if_pos (by rw [List.length_map];omega)];congr 1;rw [List.length_map];omega
   unfold atI;rw [e];rw [List.getLast?_eq_getElem?] at hk;show(K.map Af)[(K.map Af).length - 1]?=_;rw [List.length_map,List.getElem?_map,hk];rfl
  exact⟨kd.1,B.nm kd (List.mem_of_getLast? hk),Ag (Ag (Ac rfl) Se (A7 rfl ea)) AB (show AX (.t (Af kd)) (.t (.int 0)) _=.ok (.t (.str kd.1)) _ from rfl)⟩
 obtain⟨m,ps,x6,hm,f6,rfl⟩:=t6;refine⟨m,ps,hm,(Fv (n:=3) (g:=Dg) (args:=[vl (.lst (K.map Af)),iv w,vl (AN r),iv more]) (sq s0 (sq s1 (sq s2 (sq s3 (sq s4 (sq s5 (sq s6 (Bk (DQ (ts:=[.str m,.tup (ps.map T.str)]) (Az (AJ (Ac rfl)) (Az (AJ (Ac rfl)) AV)) rfl (show 2<=big by decide))))))))))).trans rfl⟩
end
def D4(kd:Str×List (Str×List Str)):FO:=.tpl [.val (.str kd.1),.lst (kd.2.map AN)]
theorem JB:∀K:Kd,GW (K.map D4)=K.map Af
 | []=>rfl
 | kd :: K=>by
  show toT (D4 kd) :: GW (K.map D4)=_;rw [JB K];rfl
theorem Iq{fe:FS->Out Rv}:∀(K:Kd) (x y:Option Sl) (acc:List FO),Fre x->Fre y->(∀kd:Str×List (Str×List Str),fe [vl (.str kd.1),vl (.lst (kd.2.map AN))]=.ok (.nw (D4 kd)) [vl (.str kd.1),vl (.lst (kd.2.map AN))])->acc.length+K.length<=1000 ->
  ∃x' y',EA (A3 2 (An (tgN 0) (An (tgN 1) A0))) fe (K.map Af) [x,y] acc=some (acc++K.map D4,[x',y'])
 | [],x,y,acc,_,_,_,_=>⟨x,y,by simp [EA]⟩
 | kd :: K,x,y,acc,fx,fy,he,hl=>by
  rw [List.length_cons] at hl;obtain⟨x',y',e⟩:=Iq (fe:=fe) K (vl (.str kd.1)) (vl (.lst (kd.2.map AN))) (acc++[D4 kd]) AZ AZ he (by rw [List.length_append];simp;omega);refine⟨x',y',?_⟩;have g:A3 2 (An (tgN 0) (An (tgN 1) A0)) (Af kd) [x,y]=some [vl (.str kd.1),vl (.lst (kd.2.map AN))]:=Fq (by unfold tgN;exact Ba rfl fx) (by unfold tgN;exact Ba rfl fy);rw [List.map_cons,EA];simp only [g,he];rw [if_pos (show acc.length < big by show _ < 1000000;omega),e];simp
theorem Rr{src:List (Option Nat)}{fi:FS->Out (List T)}{gt:T->FS->Option FS}{fe:FS->Out Rv}{fs fs' τ:FS}{ts:List T}{os:List FO}(h1:fi fs=.ok ts fs)(h2:(CG fs (src.map fun o=>o.elim Ini.no Ini.slot)).Nodup/\(src.all fun o=>o.elim true fun j=>decide (j < fs.length))=true)
  (h3:EA gt fe ts (Dp fs (src.map fun o=>o.elim Ini.no Ini.slot)) []=some (os,τ)) (h4:En (src.map fun o=>o.elim Ini.no Ini.slot) τ fs=some fs'):Lq src fi gt fe fs=.ok (.nw (.los os)) fs':=by
 unfold Lq;rw [h1];simp only [Out.bind];rw [if_pos h2,h3];simp only [h4]
theorem OL{i:Nat}{K:Kd}{fs:FS}(h:fs[i]?=some (vl (.lst (K.map Af))))(hl:K.length<=5):Lq [none,none] (itU (fz (Aa i))) (A3 2 (An (tgN 0) (An (tgN 1) A0))) (U9 (Ar (fz (Aa 0)) (Ar (Am E6 (Ab (Aa 1) Ak)) Ak))) fs=.ok (.nw (.los (K.map D4))) fs:=by
 obtain⟨x,y,e⟩:=Iq (fe:=U9 (Ar (fz (Aa 0)) (Ar (Am E6 (Ab (Aa 1) Ak)) Ak))) K none none [] AA AA (fun kd=>rfl) (by simp;omega);rw [List.nil_append] at e;exact Rr (Et (AJ (Ac h))) ⟨by rw [show CG fs (List.map _ [none,none])=[] from rfl];exact List.nodup_nil,by rfl⟩ e (AO rfl)
theorem Bd.set{K:Kd}(B:Bd K)(a:Nat){z:Str}{R:List (Str×List Str)}(hz:Bs z=true)(hl:R.length<=5)(hR:∀r∈R,QG r.1 r.2):Bd (K.set a (z,R)) where
 len:=by simpa using B.len
 nm:=fun kd m=>by
  rcases List.mem_or_eq_of_mem_set m with m | rfl
  ·exact B.nm kd m
  ·exact hz
 rw:=fun kd m=>by
  rcases List.mem_or_eq_of_mem_set m with m | rfl
  ·exact B.rw kd m
  ·exact hl
 ro:=fun kd m r mr=>by
  rcases List.mem_or_eq_of_mem_set m with m | rfl
  ·exact B.ro kd m r mr
  ·exact hR r mr
theorem LC(K:Kd)(a:Nat)(z:Str)(R:List (Str×List Str)):(K.map Af).set a (.tup [.str z,.lst (R.map AN)])=(K.set a (z,R)).map Af:=by
 rw [List.map_set];rfl
theorem Nt{fv fo fi:FS->Out Rv}{fs fs1:FS}{v:T}(hv:fv fs=.ok (.t v) fs1):Cq fv fo fi fs=Cq (gc v) fo fi fs1:=by
 unfold Cq;rw [hv];rfl
abbrev eS(K:Kd)(x0:Option Sl)(cell way more:Int)(a:Nat)(k:Str)(x6:Option Sl)(k7:Int):FS:=[x0,iv cell,iv way,iv more,iv (a:Int),vl (.str k),x6,iv k7]
abbrev oS(K:Kd)(cell way more:Int)(a:Nat)(kd:Str×List (Str×List Str))(k7:Int):FS:=eS K (some (.own (.lst (K.map Af)))) cell way more a kd.1 (vl (.lst (kd.2.map AN))) k7
abbrev fS(K:Kd)(cell way more:Int)(a:Nat)(kd:Str×List (Str×List Str))(k7:Int):FS:=eS K (vl (.lst (K.map Af))) cell way more a kd.1 (vl (.lst (kd.2.map AN))) k7
def P9(r:SO):Prop:=∃K' fs',Bd K'/\r=.nx fs'/\(fs'[0]?=some (some (.own (.lst (K'.map Af))))∨fs'[0]?=some (vl (.lst (K'.map Af))))
section
variable{K:Kd}{cell way more:Int}{a:Nat}{kd:Str×List (Str×List Str)}{k7:Int}
theorem IK(B:Bd K)(ha:K[a]?=some kd){fv:FS->Out Rv}{x6 x6':Option Sl}{z:Str}{R:List (Str×List Str)}(hv:fv (eS K (some (.own (.lst (K.map Af)))) cell way more a kd.1 x6 k7)=.ok (.t (.tup [.str z,.lst (R.map AN)])) (eS K (some (.own (.lst (K.map Af)))) cell way more a kd.1 x6' k7))(hz:Bs z=true)(hl:R.length<=5)(hR:∀r∈R,QG r.1 r.2) :
  P9 (Cq fv (Aa 0) (fz (Aa 4)) (eS K (some (.own (.lst (K.map Af)))) cell way more a kd.1 x6 k7)):=by
 have hal:a < K.length:=(List.getElem?_eq_some_iff.mp ha).1;rw [Nt hv];refine⟨K.set a (z,R),_,B.set a hz hl hR,Tb (o:=0) (v:=.tup [.str z,.lst (R.map AN)]) (k:=(a:Int)) (j:=a) (ts:=K.map Af) AB rfl (AJ (Ac rfl)) ?_ rfl,.inl ?_⟩
 ·unfold ixN
  rw [if_pos (by omega),if_pos (by rw [List.length_map];omega)];simp
 ·rw [LC]
  rfl
theorem IJ(B:Bd K)(m:kd∈K):kd.2.length<=5/\∀r∈kd.2,QG r.1 r.2:=⟨B.rw kd m,fun r mr=>B.ro kd m r mr⟩
theorem br6(B:Bd K)(ha:K[a]?=some kd):P9 (GF 0 (Cq (Av Bi (Ab (fz (Am (AD 1 BV) (Ar (Ae C5 (Aa 3) (gc (.int 4))) Ak))) (Ab (fz (Aa 6)) Ak))) (Aa 0) (fz (Aa 4))) (fS K cell way more a kd k7)):=by
 obtain⟨z,hz,e⟩:=Sd (more / 4);have r:=IJ B (List.mem_of_getElem? ha);refine IK B ha (DQ (ts:=[.str z,.lst (kd.2.map AN)]) (Az (Ew (Fl (rs:=[.t (.int (more / 4))]) (As (Ag (Ac rfl) AB (Dj ⟨by decide,by decide⟩)) AV) rfl rfl e)) (Az (AJ (Ac rfl)) AV)) rfl (show 2<=big by decide)) hz r.1 r.2
theorem br7(B:Bd K)(ha:K[a]?=some kd):P9 (GF 0 (Cq (Av Bi (Ab (Ae AX (Ae AX (Aa 0) (Ae BA (Ae C5 (Aa 3) (gc (.int 4))) (Am AY (Ab (Aa 0) Ak)))) (gc (.int 0))) (Ab (fz (Aa 6)) Ak))) (Aa 0) (fz (Aa 4))) (fS K cell way more a kd k7)):=by
 have m:=List.mem_of_getElem? ha;have hal:a < K.length:=(List.getElem?_eq_some_iff.mp ha).1;have r:=IJ B m;obtain⟨j,v,_,_,_,mv,e⟩:=JR (xs:=K.map Af) (by rw [List.length_map];omega) (more / 4);obtain⟨q,mq,rfl⟩:=List.mem_map.mp mv;have el:Am AY (Ab (Aa 0) Ak) (oS K cell way more a kd k7)=.ok (.t (.int ((K.map Af).length:Nat))) (oS K cell way more a kd k7):=rfl;have e1:Ae AX (Ae AX (Aa 0) (Ae BA (Ae C5 (Aa 3) (gc (.int 4))) (Am AY (Ab (Aa 0) Ak)))) (gc (.int 0)) (oS K cell way more a kd k7)=.ok (.t (.str q.1)) (oS K cell way more a kd k7) :=
  Ag (Mo (CJ rfl) (Ag (Ag (Ac rfl) AB (Dj ⟨by decide,by decide⟩)) el (Bz (by rw [List.length_map];omega))) (A7 (Vh rfl) e)) AB (show AX (.t (Af q)) (.t (.int 0)) _=.ok (.t (.str q.1)) _ from rfl)
 exact IK B ha (DQ (ts:=[.str q.1,.lst (kd.2.map AN)]) (Az e1 (Az (AJ (Ac rfl)) AV)) rfl (show 2<=big by decide)) (B.nm q mq) r.1 r.2
theorem K0:∀c∈([("m":Str),"k","n"]:List Str),∀j∈List.range 5,Bs (Txt.mul c ((j:Int)+3))=true:=by decide +kernel
theorem IZ{c:Str}(hc:c.length=1){j:Nat}(hj:j < 5){rest:FS}:Ae Bp (gc (.str c)) (Ae AF (Aa 0) (gc (.int 3))) (iv (j:Int) :: rest)=.ok (.t (.str (Txt.mul c ((j:Int)+3)))) (iv (j:Int) :: rest):=Ag AB (Ag (Ac rfl) AB BR) (La ⟨hc,by omega,by omega⟩)
theorem Vm{f:FS->Out Rv}{fs:FS}{n:Nat}(h:f fs=.ok (.t (.int (n:Nat))) fs)(hn:n<=5):Fe (Ab (Ae Jh (gc (.int 5)) f) Ak) fs=.ok ((List.range (5 - n)).map fun(j:Nat)=>T.int (j:Int)) fs:=by
 have e:Ab (Ae Jh (gc (.int 5)) f) Ak fs=.ok [.t (.int ((5 - n:Nat):Int))] fs:=Az ((Ag AB h rfl).trans (by show Out.ok (Rv.t (.int (5 - (n:Int)))) fs=_;rw [show(5:Int) - (n:Int)=((5 - n:Nat):Int) by omega])) AV;rw [Fw e ⟨by omega,by omega⟩,Int.toNat_natCast];unfold FL.upTo;simp
theorem extra{fe:FS->Out Rv}{q:Nat->T}{f:FS->Out Rv}{fs:FS}{n:Nat}(h:f fs=.ok (.t (.int (n:Nat))) fs)(hn:n<=5)(he:∀j:Nat,j < 5->fe [iv (j:Int)]=.ok (.t (q j)) [iv (j:Int)]):BW false [none] (Fe (Ab (Ae Jh (gc (.int 5)) f) Ak)) (tgN 0) DX fe fs=.ok (.t (.lst ((List.range (5 - n)).map q))) fs:=by
 obtain⟨y,_,e⟩:=HC (fe:=fe) (p:=fun(j:Nat)=>T.int (j:Int)) (q:=q) (rest:=[]) (List.range (5 - n)) none [] AA (fun j mj=>he j (by have:=List.mem_range.mp mj;omega)) (by show 0+_<=1000000;rw [List.length_range];omega);exact Df (src:=[none]) (Vm h hn) ⟨by rw [show CG fs (List.map _ [none])=[] from rfl];exact List.nodup_nil,by rfl⟩ e (AO rfl)
theorem Yi{t u:T}{c:Int}:∃v,(v=t∨v=u)/\atI [t,u] (c % 2)=some v:=by
 obtain⟨j,v,_,_,_,mv,e⟩:=JR (xs:=[t,u]) (by simp) c;exact⟨v,by simpa using mv,e⟩
theorem EO{f:FS->Out Rv}{g:FS->Out (List Rv)}{fs fs1 fs2:FS}{t:T}{rs:List Rv}(h1:f fs=.ok (.t t) fs1)(h2:g fs1=.ok rs fs2):Ab f g fs=.ok (.t t :: rs) fs2:=by
 unfold Ab;rw [h1];show(g fs1).bind _=_;rw [h2];rfl
theorem Mc{fa:FS->Out (List Rv)}{fs fs1:FS}{rs:List Rv}{ts:List T}(h:fa fs=.ok rs fs1)(h2:Jr rs=some ts)(h3:ts.length<=big):Av A1 fa fs=.ok (.t (.lst ts)) fs1:=by
 unfold Av;rw [h];show(match Jr rs with | some ts=>_ | none=>_)=_;rw [h2];exact if_pos h3
theorem Ro{fa:FS->Out (List Rv)}{fs fs1:FS}{rs:List Rv}{ts:List T}(h:fa fs=.ok rs fs1)(h2:Jr rs=some ts)(h3:ts.length<=big):Av Bi fa fs=.ok (.t (.tup ts)) fs1:=by
 unfold Av;rw [h];show(match Jr rs with | some ts=>_ | none=>_)=_;rw [h2];exact if_pos h3
theorem PN{g:Rv->Rv->FS->Out Rv}{fa fb:FS->Out Rv}{fs fs1:FS}{x y:T}{r:Out Rv}(h1:fa fs=.ok (.t x) fs1)(h2:fb fs1=.ok (.t y) fs1)(h3:g (.t x) (.t y) fs1=r):Ae g fa fb fs=r:=by
 unfold Ae;rw [h1];show(fb fs1).bnd _=r;rw [h2];exact h3
def MP(n:Nat):List (Str×List Str):=(List.range n).map fun(j:Nat)=>(Txt.mul "m" ((j:Int)+3),[])
theorem br8(B:Bd K)(ha:K[a]?=some kd):P9 (GF 0 (AL (AS 6 (Ae AF (Aa 6) (BW false [none] (Fe (Ab (Ae Jh (gc (.int 5)) (Am AY (Ab (Aa 6) Ak))) Ak)) (tgN 0) DX (Av Bi (Ab (Ae Bp (gc (.str ("m":Str))) (Ae AF (Aa 0) (gc (.int 3)))) (Ab (Av Bi Ak) Ak))))))
  (Cq (Av Bi (Ab (fz (Aa 5)) (Ab (Ae AX (Av A1 (Ab (Av A1 Ak) (Ab (fz (Aa 6)) Ak))) (Ae BA (Ae C5 (Aa 3) (gc (.int 4))) (gc (.int 2)))) Ak))) (Aa 0) (fz (Aa 4)))) (fS K cell way more a kd k7)):=by
 have m:=List.mem_of_getElem? ha;have r:=IJ B m;have el:=DB (i:=6) (ts:=kd.2.map AN) (fs:=oS K cell way more a kd k7) rfl;rw [List.length_map] at el;have ex:=extra (q:=fun(j:Nat)=>AN (Txt.mul "m" ((j:Int)+3),[])) (fe:=Av Bi (Ab (Ae Bp (gc (.str ("m":Str))) (Ae AF (Aa 0) (gc (.int 3)))) (Ab (Av Bi Ak) Ak))) el r.1 (fun j hj=>DQ (ts:=[.str (Txt.mul "m" ((j:Int)+3)),.tup []]) (Az (IZ (c:="m") (by decide +kernel) hj) (Az (t:=.tup []) rfl AV)) rfl (show 2<=big by decide));have hl2:(kd.2++MP (5 - kd.2.length)).length<=5:=by
  unfold MP;rw [List.length_append,List.length_map,List.length_range];have:=r.1;omega
 have hR2:∀q∈kd.2++MP (5 - kd.2.length),QG q.1 q.2:=fun q mq=>by
  rcases List.mem_append.mp mq with mq | mq
  ·exact r.2 q mq
  ·obtain⟨j,mj,rfl⟩:=List.mem_map.mp mq
   exact⟨K0 "m" (by simp) j (by have:=List.mem_range.mp mj;exact List.mem_range.mpr (by omega)),by simp,fun _ m=>nomatch m⟩
 have em:kd.2.map AN++(List.range (5 - kd.2.length)).map (fun(j:Nat)=>AN (Txt.mul "m" ((j:Int)+3),[]))=(kd.2++MP (5 - kd.2.length)).map AN:=by
  unfold MP;rw [List.map_append,List.map_map];rfl
 have s6:=IH (i:=6) (Ag (fa:=Aa 6) (Ac (t:=.lst (kd.2.map AN)) rfl) ex (Ls (by rw [List.length_map,List.length_map,List.length_range];have:=r.1;show _<=1000000;omega))) (RS rfl AZ);rw [em] at s6;generalize (kd.2++MP (5 - kd.2.length))=R2 at s6 hl2 hR2;obtain⟨v,hv,ev⟩:=Yi (t:=.lst []) (u:=.lst (R2.map AN)) (c:=more / 4);have e2:Ae AX (Av A1 (Ab (Av A1 Ak) (Ab (fz (Aa 6)) Ak))) (Ae BA (Ae C5 (Aa 3) (gc (.int 4))) (gc (.int 2))) (eS K (some (.own (.lst (K.map Af)))) cell way more a kd.1 (some (.own (.lst (R2.map AN)))) k7)=.ok (.t v) (eS K (some (.own (.lst (K.map Af)))) cell way more a kd.1 (vl (.lst (R2.map AN))) k7) :=
  PN (Mc (ts:=[.lst [],.lst (R2.map AN)]) (EO (t:=.lst []) rfl (EO (t:=.lst (R2.map AN)) (fs1:=eS K (some (.own (.lst (K.map Af)))) cell way more a kd.1 (vl (.lst (R2.map AN))) k7) rfl AV)) rfl (show 2<=big by decide)) (Ag (Ag (Ac rfl) AB (Dj ⟨by decide,by decide⟩)) AB (Bz (by decide))) (A7 rfl ev)
 obtain⟨R,hR,hlR,rfl⟩:∃R:List (Str×List Str),(∀q∈R,QG q.1 q.2)/\R.length<=5/\v=.lst (R.map AN):=by
  rcases hv with rfl | rfl
  ·exact⟨[],(fun _ m=>nomatch m),by simp,rfl⟩
  ·exact⟨R2,hR2,hl2,rfl⟩
 obtain⟨K',fs',b1,b2,b3⟩:=IK (k7:=k7) (cell:=cell) (way:=way) (more:=more) B ha (fv:=Av Bi (Ab (fz (Aa 5)) (Ab (Ae AX (Av A1 (Ab (Av A1 Ak) (Ab (fz (Aa 6)) Ak))) (Ae BA (Ae C5 (Aa 3) (gc (.int 4))) (gc (.int 2)))) Ak))) (x6:=some (.own (.lst (R2.map AN)))) (x6':=vl (.lst (R2.map AN))) (z:=kd.1) (R:=R) (Ro (ts:=[.str kd.1,.lst (R.map AN)]) (EO (AJ (Ac (t:=.str kd.1) rfl)) (EO e2 AV)) rfl (show 2<=big by decide)) (B.nm kd m) hlR hR;exact⟨K',fs',b1,sq s6 b2,b3⟩
end
theorem UJ{i:Nat}{xs ys:List T}{fs:FS}(h0:fs[i]?=some (some (.own (.lst xs))))(h:xs.length+ys.length<=big):AF (.rf i) (.t (.lst ys)) fs=.ok (.nw (.lst (xs++ys))) fs:=by
 have:Jj (.rf i) (.t (.lst ys)) fs=.ok (.nw (.lst (xs++ys))) fs:=by
  simp only [Jj,exL,UX h0];exact if_pos h
 show(match Jj (.rf i) (.t (.lst ys)) fs with | .bad=>_ | o=>o)=_;rw [this]
def MR(n:Nat):Kd:=(List.range n).map fun(j:Nat)=>(Txt.mul "k" ((j:Int)+3),[(Txt.mul "n" ((j:Int)+3),[])])
section
variable{K:Kd}{cell way more:Int}{a:Nat}{kd:Str×List (Str×List Str)}{k7:Int}
theorem br9(B:Bd K){x6:Option Sl}{k:Str}:P9 (GF 0 (AL (AS 0 (Ae AF (Aa 0) (BW false [none] (Fe (Ab (Ae Jh (gc (.int 5)) (Am AY (Ab (Aa 0) Ak))) Ak)) (tgN 0) DX (Av Bi (Ab (Ae Bp (gc (.str ("k":Str))) (Ae AF (Aa 0) (gc (.int 3)))) (Ab (Av A1 (Ab (Av Bi (Ab (Ae Bp (gc (.str ("n":Str))) (Ae AF (Aa 0) (gc (.int 3)))) (Ab (Av Bi Ak) Ak))) Ak)) Ak))))))
  (AS 0 (Ae AX (Av A1 (Ab (Av A1 Ak) (Ab (fz (Aa 0)) Ak))) (Ae BA (Ae C5 (Aa 3) (gc (.int 4))) (gc (.int 2)))))) (eS K (vl (.lst (K.map Af))) cell way more a k x6 k7)):=by
 have hl:=B.len;have el:Am AY (Ab (Aa 0) Ak) (eS K (some (.own (.lst (K.map Af)))) cell way more a k x6 k7)=.ok (.t (.int ((K.map Af).length:Nat))) (eS K (some (.own (.lst (K.map Af)))) cell way more a k x6 k7):=rfl;rw [List.length_map] at el;have ex:=extra (q:=fun(j:Nat)=>Af (Txt.mul "k" ((j:Int)+3),[(Txt.mul "n" ((j:Int)+3),[])])) (fe:=Av Bi (Ab (Ae Bp (gc (.str ("k":Str))) (Ae AF (Aa 0) (gc (.int 3)))) (Ab (Av A1 (Ab (Av Bi (Ab (Ae Bp (gc (.str ("n":Str))) (Ae AF (Aa 0) (gc (.int 3)))) (Ab (Av Bi Ak) Ak))) Ak)) Ak))) el hl (fun j hj=>by
  have t1:=DQ (ts:=[.str (Txt.mul "n" ((j:Int)+3)),.tup []]) (Az (IZ (c:="n") (by decide +kernel) hj (rest:=[])) (Az (t:=.tup []) (f:=Av Bi Ak) rfl AV)) rfl (show 2<=big by decide);have t2:=DR (ts:=[.tup [.str (Txt.mul "n" ((j:Int)+3)),.tup []]]) (Az t1 AV) rfl (show 1<=big by decide);exact DQ (ts:=[.str (Txt.mul "k" ((j:Int)+3)),.lst [.tup [.str (Txt.mul "n" ((j:Int)+3)),.tup []]]]) (Az (IZ (c:="k") (by decide +kernel) hj) (Az t2 AV)) rfl (show 2<=big by decide))
 have B2:Bd (K++MR (5 - K.length)):=by
  have me:∀q∈MR (5 - K.length),∃j:Nat,j∈List.range 5/\q=(Txt.mul "k" ((j:Int)+3),[(Txt.mul "n" ((j:Int)+3),[])]):=fun q mq=>by
   obtain⟨j,mj,rfl⟩:=List.mem_map.mp mq;exact⟨j,List.mem_range.mpr (by have:=List.mem_range.mp mj;omega),rfl⟩
  refine⟨?_,fun q mq=>?_,fun q mq=>?_,fun q mq r mr=>?_⟩
  ·unfold MR
   rw [List.length_append,List.length_map,List.length_range];omega
  ·rcases List.mem_append.mp mq with mq | mq
   ·exact B.nm q mq
   ·obtain⟨j,mj,rfl⟩:=me q mq
    exact K0 "k" (by simp) j mj
  ·rcases List.mem_append.mp mq with mq | mq
   ·exact B.rw q mq
   ·obtain⟨j,mj,rfl⟩:=me q mq
    simp
  ·rcases List.mem_append.mp mq with mq | mq
   ·exact B.ro q mq r mr
   ·obtain⟨j,mj,rfl⟩:=me q mq
    rw [List.mem_singleton.mp mr];exact⟨K0 "n" (by simp) j mj,by simp,fun _ m=>nomatch m⟩
 have em:K.map Af++(List.range (5 - K.length)).map (fun(j:Nat)=>Af (Txt.mul "k" ((j:Int)+3),[(Txt.mul "n" ((j:Int)+3),[])]))=(K++MR (5 - K.length)).map Af:=by
  unfold MR;rw [List.map_append,List.map_map];rfl
 have s0:=IH (i:=0) (Mo (fa:=Aa 0) (CJ (o:=.lst (K.map Af)) rfl) ex (UJ rfl (by rw [List.length_map,List.length_map,List.length_range];show _<=1000000;omega))) (RS rfl True.intro);rw [em] at s0;generalize K++MR (5 - K.length)=K2 at s0 B2;obtain⟨v,hv,ev⟩:=Yi (t:=.lst []) (u:=.lst (K2.map Af)) (c:=more / 4);have e2:Ae AX (Av A1 (Ab (Av A1 Ak) (Ab (fz (Aa 0)) Ak))) (Ae BA (Ae C5 (Aa 3) (gc (.int 4))) (gc (.int 2))) (eS K (some (.own (.lst (K2.map Af)))) cell way more a k x6 k7)=.ok (.t v) (eS K (vl (.lst (K2.map Af))) cell way more a k x6 k7) :=
  PN (Mc (ts:=[.lst [],.lst (K2.map Af)]) (EO (t:=.lst []) (f:=Av A1 Ak) rfl (EO (t:=.lst (K2.map Af)) (f:=fz (Aa 0)) (fs1:=eS K (vl (.lst (K2.map Af))) cell way more a k x6 k7) rfl AV)) rfl (show 2<=big by decide)) (Ag (Ag (Ac rfl) AB (Dj ⟨by decide,by decide⟩)) AB (Bz (by decide))) (A7 rfl ev)
 obtain⟨K',B',rfl⟩:∃K':Kd,Bd K'/\v=.lst (K'.map Af):=by
  rcases hv with rfl | rfl
  ·exact⟨[],⟨by simp,(fun _ m=>nomatch m),(fun _ m=>nomatch m),(fun _ m=>nomatch m)⟩,rfl⟩
  ·exact⟨K2,B2,rfl⟩
 exact⟨K',_,B',sq s0 (Eb e2 rfl),.inr rfl⟩
theorem Oy{n j:Nat}(h:j < n):ixN n (j:Int)=some j:=by
 unfold ixN;rw [if_pos (by omega),if_pos (by omega)];simp
theorem brL(B:Bd K)(ha:K[a]?=some kd){kk:Nat}{r:Str×List Str}(hr:kd.2[kk]?=some r):P9 (Ol 0 6 4 7 (fz (Am (AD 4 Bu) (Ar (Aa 0) (Ar (Ae BA (Aa 2) (gc (.int 6))) (Ar (Ae AX (Aa 6) (fz (Aa 7))) (Ar (Ae C5 (Aa 3) (gc (.int 20))) Ak)))))) (fS K cell way more a kd (kk:Int))):=by
 have m:=List.mem_of_getElem? ha;have hal:a < K.length:=(List.getElem?_eq_some_iff.mp ha).1;have hkl:kk < kd.2.length:=(List.getElem?_eq_some_iff.mp hr).1;have rr:=IJ B m;have hro:=rr.2 r (List.mem_of_getElem? hr);obtain⟨z,ps,hz,e⟩:=Ve (w:=way % 6) (more:=more / 20) B (by omega) hro;have ef:fz (Am (AD 4 Bu) (Ar (Aa 0) (Ar (Ae BA (Aa 2) (gc (.int 6))) (Ar (Ae AX (Aa 6) (fz (Aa 7))) (Ar (Ae C5 (Aa 3) (gc (.int 20))) Ak))))) (fS K cell way more a kd (kk:Int))=.ok (.t (AN (z,ps))) (fS K cell way more a kd (kk:Int)) :=
  Ew (Fl (rs:=[.t (.lst (K.map Af)),.t (.int (way % 6)),.t (AN r),.t (.int (more / 20))]) (As (Ac rfl) (As (Ag (Ac rfl) AB (Bz (by decide))) (As (Ag (Ac rfl) (AJ (Ac rfl)) (A7 rfl (A2 (j:=kk) (by rw [List.getElem?_map,hr];rfl)))) (As (Ag (Ac rfl) AB (Dj ⟨by decide,by decide⟩)) AV)))) rfl rfl e)
 have el:lfT (AN (z,ps))=true:=by
  show([T.str z,T.tup (ps.map T.str)]).all P5=true;simp only [List.all_cons,List.all_nil,Bool.and_true];show(true && (ps.map T.str).all GG)=true;rw [Bool.true_and,List.all_eq_true];intro t mt;obtain⟨p,_,rfl⟩:=List.mem_map.mp mt;rfl
 have eu:Xf 0 6 4 7 (AN (z,ps)) (fS K cell way more a kd (kk:Int))=some (eS K (some (.own (.lst ((K.set a (kd.1,kd.2.set kk (z,ps))).map Af)))) cell way more a kd.1 none (kk:Int)):=by
  have ej:(K.map Af)[a]?=some (.tup [.str kd.1,.lst (kd.2.map AN)]):=by
   rw [List.getElem?_map,ha];rfl
  have e1:ixN (K.map Af).length (a:Int)=some a:=Oy (by rw [List.length_map];exact hal);have e2:ixN (kd.2.map AN).length (kk:Int)=some kk:=Oy (by rw [List.length_map];exact hkl);show(match ixN (K.map Af).length (a:Int),ixN (kd.2.map AN).length (kk:Int) with | some j,some m=>(match(K.map Af)[j]? with | some (.tup [κ,_])=>some (((fS K cell way more a kd (kk:Int)).set 0 (some (.own (.lst ((K.map Af).set j (.tup [κ,.lst ((kd.2.map AN).set m (AN (z,ps)))])))))).set 6 none) | _=>none) | _,_=>none)=_;rw [e1,e2];simp only [ej];rw [show(kd.2.map AN).set kk (AN (z,ps))=(kd.2.set kk (z,ps)).map AN by rw [List.map_set],LC];rfl
 refine⟨K.set a (kd.1,kd.2.set kk (z,ps)),eS K (some (.own (.lst ((K.set a (kd.1,kd.2.set kk (z,ps))).map Af)))) cell way more a kd.1 none (kk:Int),B.set a (B.nm kd m) (by rw [List.length_set];exact rr.1) (fun q mq=>?_),?_,.inl rfl⟩
 ·rcases List.mem_or_eq_of_mem_set mq with mq | rfl
  ·exact rr.2 q mq
  ·exact hz
 ·unfold Ol
  rw [ef];simp only [el,eu,if_true]
theorem Ht{c:FS->Out Bool}{g h:FS->SO}{fs τ:FS}{b:Bool}(hc:c fs=.ok b τ)(h1:b=true->P9 (g fs))(h2:b=false->P9 (h fs)):P9 (ifA c g h fs):=by
 unfold ifA;rw [hc];cases b with
 | true=>exact h1 rfl
 | false=>exact h2 rfl
theorem Rh(B:Bd K){x6:Option Sl}{k:Str}:P9 (GF 0 nxS (eS K (vl (.lst (K.map Af))) cell way more a k x6 k7)):=⟨K,_,B,rfl,.inl rfl⟩
theorem Rm{G:FS->SO}(ha:K[a]?=some kd):Kh 0 4 5 6 G [some (.own (.los (K.map D4))),iv cell,iv way,iv more,iv (a:Int),none,none,none]=G [vl (.lst (K.map Af)),iv cell,iv way,iv more,iv (a:Int),vl (.str kd.1),vl (.lst (kd.2.map AN)),none]:=by
 have hal:a < K.length:=(List.getElem?_eq_some_iff.mp ha).1;have e1:ixN (K.map D4).length (a:Int)=some a:=Oy (by rw [List.length_map];exact hal);have e2:(K.map D4)[a]?=some (.tpl [.val (.str kd.1),.lst (kd.2.map AN)]):=by
  rw [List.getElem?_map,ha];rfl
 unfold Kh;simp only [List.getElem?_cons_zero,List.getElem?_cons_succ,e1,e2];rw [if_pos ⟨rfl,rfl,by decide,by decide,by decide,by decide,by decide,show 5 < 8 by decide,show 6 < 8 by decide⟩,JB];rfl
theorem MA(B:Bd K)(cell:Int):∃K' τ,Bd K'/\(C2 [vl (.lst (K.map Af)),iv cell]=.ok (.t (.lst (K'.map Af))) τ∨∃o,toT o=.lst (K'.map Af)/\C2 [vl (.lst (K.map Af)),iv cell]=.ok (.nw o) τ):=by
 have hl:=B.len;have s0:AS 0 (Lq [none,none] (itU (fz (Aa 0))) (A3 2 (An (tgN 0) (An (tgN 1) A0))) (U9 (Ar (fz (Aa 0)) (Ar (Am E6 (Ab (Aa 1) Ak)) Ak)))) [vl (.lst (K.map Af)),iv cell,none,none,none,none,none,none]=.nx [some (.own (.los (K.map D4))),iv cell,none,none,none,none,none,none]:=IH (OL rfl hl) rfl;have s2:AS 2 (Ae BA (Aa 1) (gc (.int 12))) [some (.own (.los (K.map D4))),iv cell,none,none,none,none,none,none]=.nx [some (.own (.los (K.map D4))),iv cell,iv (cell % 12),none,none,none,none,none]:=Bb (Ag (Ac rfl) AB (Bz (by decide))) rfl;have s3:AS 3 (Ae C5 (Aa 1) (gc (.int 12))) [some (.own (.los (K.map D4))),iv cell,iv (cell % 12),none,none,none,none,none]=.nx [some (.own (.los (K.map D4))),iv cell,iv (cell % 12),iv (cell / 12),none,none,none,none]:=Bb (Ag (Ac rfl) AB (Dj ⟨by decide,by decide⟩)) rfl;generalize cell % 12=way at s2 s3;generalize cell / 12=more at s3;have el:Am J8 (Ab (Aa 0) Ak) [some (.own (.los (K.map D4))),iv cell,iv way,iv more,none,none,none,none]=.ok (.t (.int ((K.map D4).length:Nat))) [some (.own (.los (K.map D4))),iv cell,iv way,iv more,none,none,none,none]:=rfl;rw [List.length_map] at el;have c0:=FJ (fa:=Am J8 (Ab (Aa 0) Ak)) (fb:=gc (.int 0)) (i:=(K.length:Int)) el AB;by_cases hK:K.length=0
 ·have hK0:K=[]:=List.eq_nil_of_length_eq_zero hK
  rw [decide_eq_true (show(K.length:Int)=0 by omega)] at c0;subst hK0;exact⟨[],_,B,.inr ⟨.los [],rfl,LD (n:=6) (g:=Dy) (args:=[vl (.lst (([]:Kd).map Af)),iv cell]) (i:=0) (o:=.los []) (sq s0 (sq s2 (sq s3 (BC (CH c0 (show retS (Aa 0) _=.ret (.rf 0) _ from rfl)))))) rfl⟩⟩
 ·rw [decide_eq_false (show ¬ (K.length:Int)=0 by omega)] at c0
  obtain⟨a,kd,hal,ea,ha,_,_⟩:=JR (xs:=K) (by omega) more;have s4:AS 4 (Ae BA (Aa 3) (Am J8 (Ab (Aa 0) Ak))) [some (.own (.los (K.map D4))),iv cell,iv way,iv more,none,none,none,none]=.nx [some (.own (.los (K.map D4))),iv cell,iv way,iv more,iv (a:Int),none,none,none]:=Bb ((Ag (Ac rfl) el (Bz (by omega))).trans (by rw [ea])) rfl;have lr:=DB (i:=6) (ts:=kd.2.map AN) (fs:=[vl (.lst (K.map Af)),iv cell,iv way,iv more,iv (a:Int),vl (.str kd.1),vl (.lst (kd.2.map AN)),none]) rfl;rw [List.length_map] at lr;have e7:Ae BA (Ae C5 (Aa 3) (gc (.int 5))) (Am OR (Ab (gc (.int 1)) (Ab (Am AY (Ab (Aa 6) Ak)) Ak))) [vl (.lst (K.map Af)),iv cell,iv way,iv more,iv (a:Int),vl (.str kd.1),vl (.lst (kd.2.map AN)),none]=.ok (.t (.int (more / 5 % (if(kd.2.length:Int) > 1 then(kd.2.length:Int) else 1)))) [vl (.lst (K.map Af)),iv cell,iv way,iv more,iv (a:Int),vl (.str kd.1),vl (.lst (kd.2.map AN)),none] :=
   Ag (Ag (Ac rfl) AB (Dj ⟨by decide,by decide⟩)) (Du (Az AB (Az lr AV)) rfl) (Bz (by split <;> omega))
  obtain⟨k7,e8,hk7⟩:∃k7:Int,more / 5 % (if(kd.2.length:Int) > 1 then(kd.2.length:Int) else 1)=k7/\(0 < kd.2.length->∃kk:Nat,k7=(kk:Int)/\kk < kd.2.length):=by
   refine⟨_,rfl,fun hp=>?_⟩;have hm:(if(kd.2.length:Int) > 1 then(kd.2.length:Int) else 1)=(kd.2.length:Int):=by split <;> omega
   rw [hm];obtain⟨kk,_,h1,h2,_⟩:=JR (xs:=kd.2) hp (more / 5);exact⟨kk,h2,h1⟩
  rw [e8] at e7;have wq:∀n:Int,asB (Ae (gEq false) (Aa 2) (gc (.int n))) (fS K cell way more a kd k7)=.ok (decide (way=n)) (fS K cell way more a kd k7):=fun n=>FJ (Ac rfl) AB
  have lr2:=DB (i:=6) (ts:=kd.2.map AN) (fs:=fS K cell way more a kd k7) rfl;rw [List.length_map] at lr2;have cl:asB (Ae gGt (Am AY (Ab (Aa 6) Ak)) (gc (.int 0))) (fS K cell way more a kd k7)=.ok (decide ((kd.2.length:Int) > 0)) (fS K cell way more a kd k7):=BM (Ag lr2 AB rfl);obtain⟨K',fs',B',ec,hf⟩:=Ht (wq 6) (fun _=>br6 (cell:=cell) (way:=way) (more:=more) (k7:=k7) B ha) (fun _=>Ht (wq 7) (fun _=>br7 B ha) (fun _=>Ht (wq 8) (fun _=>br8 B ha) (fun _=>Ht (wq 9) (fun _=>br9 B) (fun _=>Ht cl (fun hb=>by
   have hpos:0 < kd.2.length:=by have:=of_decide_eq_true hb;omega
   obtain⟨kk,rfl,hkl⟩:=hk7 hpos;exact brL B ha (List.getElem?_eq_getElem hkl)) (fun _=>Rh B)))))
  have body:∀r,retS (Aa 0) fs'=r->Dy [vl (.lst (K.map Af)),iv cell,none,none,none,none,none,none]=r:=fun r er=>by
   refine sq s0 (sq s2 (sq s3 (sq (Bh c0 rfl) (sq s4 ((Rm ha).trans ?_)))));unfold WX;rw [e7];exact sq ec er
  rcases hf with hf | hf
  ·exact⟨K',_,B',.inr ⟨.lst (K'.map Af),rfl,LD (n:=6) (g:=Dy) (args:=[vl (.lst (K.map Af)),iv cell]) (i:=0) (o:=.lst (K'.map Af)) (body _ (by unfold retS;rw [CJ hf];rfl)) hf⟩⟩
  ·exact⟨K',_,B',.inl (Fv (n:=6) (g:=Dy) (args:=[vl (.lst (K.map Af)),iv cell]) (body _ (Bk (Ac hf))))⟩
end
section
variable{c:Str}
theorem OA{d:Str}{fs:FS}(hc:xrs.contains c=true)(g0:Aa 0 fs=.ok (.t (.exn c)) fs):isX xrs DY d (Aa 0) fs=.ok (.t (.bl (DY c d))) fs:=by
 unfold isX;rw [g0];show(if xrs.contains c=true then okT (.bl (DY c d)) fs else .bad)=_;rw [if_pos hc];rfl
theorem UK{fa fb:FS->Out Rv}{fs:FS}{ts us:List T}(h1:fa fs=.ok (.t (.lst ts)) fs)(h2:fb fs=.ok (.t (.lst us)) fs)(h:ts.length+us.length<=big):fz (Ae AF fa fb) fs=.ok (.t (.lst (ts++us))) fs :=
 Ka (o:=.lst (ts++us)) (Ag h1 h2 (Ls h))
abbrev bl3(c a b d:Str):List T:=[.bl (DY c a),.bl (DY c b),.bl (DY c d)]
theorem IF{a b d:Str}{fs:FS}(hc:xrs.contains c=true)(g0:Aa 0 fs=.ok (.t (.exn c)) fs) :
  Av A1 (Ab (isX xrs DY a (Aa 0)) (Ab (isX xrs DY b (Aa 0)) (Ab (isX xrs DY d (Aa 0)) Ak))) fs=.ok (.t (.lst (bl3 c a b d))) fs :=
 DR (ts:=bl3 c a b d) (Az (OA hc g0) (Az (OA hc g0) (Az (OA hc g0) AV))) rfl (show 3<=big by decide)
def M9(c:Str):List T:=bl3 c "BadName" "Twice" "BadCount"++bl3 c "NoKind" "Groundless" "NoMaker"++bl3 c "NoName" "NoFunction" "NotLess"++bl3 c "BadKind" "TooLong" "NoPlace"++bl3 c "NotShown" "NoSaying" "BadText"
theorem Na(hc:xrs.contains c=true):C3 [vl (.exn c)]=.ok (.nw (.lst (M9 c))) [vl (.exn c)]:=by
 have nx:∀(a b d:Str) (ts:List T),ts.length<=100->AS 1 (fz (Ae AF (Aa 1) (Av A1 (Ab (isX xrs DY a (Aa 0)) (Ab (isX xrs DY b (Aa 0)) (Ab (isX xrs DY d (Aa 0)) Ak)))))) [vl (.exn c),vl (.lst ts)]=.nx [vl (.exn c),vl (.lst (ts++bl3 c a b d))]:=fun a b d ts hl =>
  Bb (UK (Ac rfl) (IF hc (Ac rfl)) (by show _<=1000000;simp;omega)) rfl
 have s1:AS 1 (Av A1 (Ab (isX xrs DY "BadName" (Aa 0)) (Ab (isX xrs DY "Twice" (Aa 0)) (Ab (isX xrs DY "BadCount" (Aa 0)) Ak)))) [vl (.exn c),none]=.nx [vl (.exn c),vl (.lst (bl3 c "BadName" "Twice" "BadCount"))] :=
  Bb (IF hc (Ac rfl)) rfl
 have r:∀ts:List T,ts.length<=100->Ae AF (Aa 1) (Av A1 (Ab (isX xrs DY "NotShown" (Aa 0)) (Ab (isX xrs DY "NoSaying" (Aa 0)) (Ab (isX xrs DY "BadText" (Aa 0)) Ak)))) [vl (.exn c),vl (.lst ts)]=.ok (.nw (.lst (ts++bl3 c "NotShown" "NoSaying" "BadText"))) [vl (.exn c),vl (.lst ts)]:=fun ts hl =>
  Ag (Ac rfl) (IF hc (Ac rfl)) (Ls (by show _<=1000000;simp;omega))
 exact(Td (n:=1) (g:=Gs) (args:=[vl (.exn c)]) (sq s1 (sq (nx _ _ _ _ (by simp)) (sq (nx _ _ _ _ (by simp)) (sq (nx _ _ _ _ (by simp)) (Bk (r _ (by simp)))))))).trans rfl
theorem Mh(hc:xrs.contains c=true):fz (Am (AD 1 C3) (Ar (fz (Aa 0)) Ak)) [vl (.exn c)]=.ok (.t (.lst (M9 c))) [vl (.exn c)] :=
 Ka (o:=.lst (M9 c)) (ET (rs:=[.t (.exn c)]) (As (AJ (Ac rfl)) AV) rfl (by rw [show CG _ _=[] from rfl];exact List.nodup_nil) (Na hc) (AO rfl))
theorem LP{g:Rv->List Rv->FS->Out Rv}{f:FS->Out Rv}{fs:FS}{ts:List T}{r:Out Rv}(h:f fs=.ok (.t (.lst ts)) fs)(e:g (.t (.lst ts)) [.t (.bl true)] fs=r):A8 g f (Ab (gc (.bl true)) Ak) fs=r:=by
 unfold A8;rw [h];exact e
theorem Qb{n:Int}(hc:xrs.contains c=true)(h1:W4 (.t (.lst (M9 c))) [.t (.bl true)] [vl (.exn c)]=.ok (.t (.int ((1:Nat):Int))) [vl (.exn c)])(h2:W3 (.t (.lst (M9 c))) [.t (.bl true)] [vl (.exn c)]=.ok (.t (.int n)) [vl (.exn c)]):Dq [vl (.exn c)]=.ok (.t (.int n)) [vl (.exn c)]:=by
 have v:isV xrs (Aa 0) [vl (.exn c)]=.ok (.t (.bl true)) [vl (.exn c)]:=by
  unfold isV;show(if xrs.contains c=true then okT (.bl true) [vl (.exn c)] else .bad)=_;rw [if_pos hc];rfl
 have ne:gEq true (.t (.int ((1:Nat):Int))) (.t (.int 1)) [vl (.exn c)]=.ok (.t (.bl false)) [vl (.exn c)]:=rfl;exact(Fv (n:=0) (g:=Jq) (args:=[vl (.exn c)]) (sq (Bh (QB (KW (IE v)) (BM (Ag (AJ (LP (Mh hc) h1)) AB ne))) rfl) (Bk (LP (Mh hc) h2)))).trans rfl
end
theorem SK(c:Str):M9 c=((["BadName","Twice","BadCount","NoKind","Groundless","NoMaker","NoName","NoFunction","NotLess","BadKind","TooLong","NoPlace","NotShown","NoSaying","BadText"]:List Str).map (DY c)).map T.bl:=rfl
theorem SV{n:Nat}(hn:n<=4):Dq [vl (.exn (EW n))]=.ok (.t (.int (n:Nat))) [vl (.exn (EW n))]:=by
 have key:∀n∈List.range 5,xrs.contains (EW n)=true/\(["BadName","Twice","BadCount","NoKind","Groundless","NoMaker","NoName","NoFunction","NotLess","BadKind","TooLong","NoPlace","NotShown","NoSaying","BadText"]:List Str).map (DY (EW n))=(List.range 15).map (fun i=>decide (i=n)):=by decide +kernel
 obtain⟨h1,h2⟩:=key n (List.mem_range.mpr (by omega));refine Qb h1 ?_ ?_
 ·rw [SK,h2]
  rcases(show n=0∨n=1∨n=2∨n=3∨n=4 by omega) with rfl | rfl | rfl | rfl | rfl <;> rfl
 ·rw [SK,h2]
  rcases(show n=0∨n=1∨n=2∨n=3∨n=4 by omega) with rfl | rfl | rfl | rfl | rfl <;> rfl
theorem Ux{n:Nat}(hn:n<=4):(xrs.contains (EW n) && DY (EW n) "SayError")=true:=by
 have key:∀n∈List.range 5,(xrs.contains (EW n) && DY (EW n) "SayError")=true:=by decide +kernel
 exact key n (List.mem_range.mpr (by omega))
theorem Sk:∀{K:Kd} {seen:List Str} {n:Nat},hdD K seen=some n->n<=4
 | [],_,_,h=>by cases h
 | kd :: K,seen,n,h=>by
  unfold hdD at h;split at h
  ·cases h;omega
  ·split at h
   ·cases h;omega
   ·split at h
    ·cases h;omega
    ·exact Sk h
theorem RW{names above:List Str}:∀{R:List (Str×List Str)} {b:Bool} {ahead:List Str} {n:Nat},rwD names above b R ahead=.error n->n<=4
 | [],_,_,_,h=>by simp [rwD] at h
 | r :: R,b,ahead,n,h=>by
  unfold rwD at h;split at h
  ·cases h;omega
  ·split at h
   ·cases h;omega
   ·split at h
    ·cases h;omega
    ·split at h
     ·cases h;omega
     ·split at h
      ·cases h;omega
      ·exact RW h
theorem Sg{names:List Str}:∀{R:Kd} {above ahead:List Str} {n:Nat},kdD names R above ahead=some n->n<=4
 | [],_,_,_,h=>by cases h
 | kd :: R,above,ahead,n,h=>by
  unfold kdD at h;split at h
  ·rename_i m e
   cases h;exact RW e
  ·exact Sg h
theorem WD{K:Kd}{n:Nat}(h:Fp K=some n):n<=4:=by
 unfold Fp at h;split at h
 ·rename_i m e
  cases h;unfold Cz at e;split at e
  ·cases e;omega
  ·exact Sk e
 ·exact Sg h
section
variable{C:Addr}{K:Kd}{hs:List T}{mt:Str}{p:Nat}{Fn fo:FS->Out Rv}{fa:FS->Out (List Rv)}{rs:List Rv}{fs fs1 τ:FS}
theorem QO{o:FO}(ho:fo fs=.ok (.t (CB C K hs)) fs)(hi:K6 C mt fs (.t (CB C K hs))=true)(hf:Fn [vl (CB C K hs)]=.ok (.nw o) τ):QN C mt 1 Fn fo Ak fs=.ok (.nw o) fs:=by
 have hn:CG fs ([Rv.t (CB C K hs)].map BQ)=[]:=rfl;have hb:En ([Rv.t (CB C K hs)].map BQ) τ fs=some fs:=AO hn;unfold QN;rw [ho];show(if K6 C mt fs (.t (CB C K hs))=true then _ else _)=_;rw [if_pos hi];show FL.PL 1 Fn [.t (CB C K hs)] fs=_;unfold FL.PL;rw [if_pos (show [Rv.t (CB C K hs)].length=1 from rfl)];unfold FL.RE;rw [if_pos (by rw [hn];exact List.nodup_nil)];rw [show Fn (Dp fs ([Rv.t (CB C K hs)].map BQ))=.ok (.nw o) τ from hf];simp only [hb]
theorem LQ{o:FO}(ha:fa fs=.ok rs fs1)(hp:rs.length+1=p)(hl:CG fs1 (rs.map BQ)=[])(hf:Fn (some (.bor (.ins C [] [])) :: Dp fs1 (rs.map BQ))=.ok (.t .non) (some (.bor o) :: τ)):Am (Fd C p Fn) fa fs=.ok (.nw o) fs1:=by
 unfold Am;rw [ha];show Fd C p Fn rs fs1=_;unfold Fd;rw [if_pos ⟨by rw [hl];exact List.nodup_nil,hp⟩,hf];dsimp only;rw [AO hl]
theorem Oe{c:Str}{s0:Option Sl}(ha:fa fs=.ok rs fs1)(hp:rs.length+1=p)(hl:CG fs1 (rs.map BQ)=[])(hf:Fn (some (.bor (.ins C [] [])) :: Dp fs1 (rs.map BQ))=.exc c (s0 :: τ)):Am (Fd C p Fn) fa fs=.exc c fs1:=by
 unfold Am;rw [ha];show Fd C p Fn rs fs1=_;unfold Fd;rw [if_pos ⟨by rw [hl];exact List.nodup_nil,hp⟩,hf];dsimp only;rw [AO hl]
end
theorem EN{f:T->T->Option Bool}:∀(ts:List T),(∀t∈ts,f t t=some true)->HL f ts ts=some true
 | [],_=>rfl
 | t :: ts,h=>by
  show(f t t).bind (fun b=>(HL f ts ts).map (b && ·))=_;rw [h t (by simp),EN ts fun x m=>h x (List.mem_cons_of_mem _ m)];rfl
theorem L8(n:Nat)(zs:List Str):HL (eqT n) (zs.map T.str) (zs.map T.str)=some true:=EN _ fun t m=>by
 obtain⟨z,_,rfl⟩:=List.mem_map.mp m;rw [Ll];simp
theorem Ur(r:Str×List Str):eqT 50 (AN r) (AN r)=some true:=by
 show eqT (49+1) (.tup [.str r.1,.tup (r.2.map T.str)]) (.tup [.str r.1,.tup (r.2.map T.str)])=_;rw [Pf,EN [.str r.1,.tup (r.2.map T.str)] fun x mx=>by
  rcases List.mem_cons.mp mx with rfl | mx
  ·rw [Ll]
   simp
  ·rw [List.mem_singleton.mp mx]
   show eqT (48+1) (.tup (r.2.map T.str)) (.tup (r.2.map T.str))=_;rw [Pf,L8];simp]
 simp
theorem Rl(kd:Str×List (Str×List Str)):eqP (Af kd) (Af kd)=some true:=by
 have h1:eqW (.str kd.1) (.str kd.1)=some true:=by
  show(if eqT 50 (.str kd.1) (.str kd.1)=some true then some true else none)=_;rw [if_pos (by rw [Ll];simp)]
 have h2:eqW (.lst (kd.2.map AN)) (.lst (kd.2.map AN))=some true:=by
  show(if HL (eqT 50) (kd.2.map AN) (kd.2.map AN)=some true/\(kd.2.map AN).length=(kd.2.map AN).length then some true else none)=_;rw [if_pos ⟨EN _ fun t m=>by
   obtain⟨r,_,rfl⟩:=List.mem_map.mp m;exact Ur r,rfl⟩]
 show(if HL eqW [.str kd.1,.lst (kd.2.map AN)] [.str kd.1,.lst (kd.2.map AN)]=some true/\_ then some true else none)=_;rw [if_pos ⟨EN _ fun x mx=>by
  rcases List.mem_cons.mp mx with rfl | mx
  ·exact h1
  ·rw [List.mem_singleton.mp mx]
   exact h2,rfl⟩]
theorem VX{i j:Nat}{K:Kd}{fs:FS}(h1:fs[i]?=some (vl (.lst (K.map Af))))(h2:fs[j]?=some (vl (.lst (K.map Af)))):asB (Ae Wg (Aa i) (Aa j)) fs=.ok false fs:=by
 refine BM (Ag (Ac h1) (Ac h2) ?_);show(if HL eqP (K.map Af) (K.map Af)=some true/\(K.map Af).length=(K.map Af).length then okT (.bl false) fs else .bad)=_;rw [if_pos ⟨EN _ fun t m=>by
  obtain⟨r,_,rfl⟩:=List.mem_map.mp m;exact Rl r,rfl⟩]
 rfl
theorem Uv{i:Nat}{K:Kd}{fs:FS}(h:fs[i]?=some (vl (.lst (K.map Af))))(hl:K.length<=5):BW false [none,none] (itU (fz (Aa i))) (A3 2 (An (tgN 0) (An (tgN 1) A0))) DX (Av Bi (Ab (fz (Aa 0)) (Ab (fz (Am E6 (Ab (Aa 1) Ak))) Ak))) fs=.ok (.t (.lst (K.map Af))) fs:=by
 obtain⟨x,y,_,_,e⟩:=FK (fe:=Av Bi (Ab (fz (Aa 0)) (Ab (fz (Am E6 (Ab (Aa 1) Ak))) Ak))) (f:=fun kd:Str×List (Str×List Str)=>.str kd.1) (g:=fun kd=>.lst (kd.2.map AN)) (h:=Af) (rest:=[]) K none none [] AA AA (fun kd _=>rfl) (by show 0+_<=1000000;omega);have:=Df (src:=[none,none]) (fi:=itU (fz (Aa i))) (fs:=fs) (ts:=K.map Af) (Et (AJ (Ac h))) ⟨by rw [show CG fs (List.map _ [none,none])=[] from rfl];exact List.nodup_nil,by rfl⟩ e (AO rfl);rw [this,List.nil_append]
abbrev gS(ns:List Int)(x1 x2 x3 x4 x5 x6:Option Sl):FS:=[vl (.scr (ns.map T.int)),x1,x2,x3,x4,x5,x6,none]
abbrev gT(ns:List Int)(K O:Kd)(x3:Option Sl)(d:Option Nat)(w:T):FS:=gS ns (vl (.lst (K.map Af))) (vl (.lst (O.map Af))) x3 (iv (outI d)) (vl (.lst (O.map Af))) (vl w)
theorem UN{c0 c1:Int}{K:Kd}(W:Well K)(h:KOk (nms c0 K.length) (nms c1 12) K)(hu:used K<=12):Bd K:=by
 have okn:∀c k,Bs (nmS c k)=true:=fun c k=>by
  have h1:=N7 c k;unfold Bs;rw [decide_eq_true (show(nmS c k).length<=1000 by omega),Bool.true_and,List.all_eq_true];intro x hx;have:=Nm.FN c k x (by simpa [nmS] using hx);exact decide_eq_true (Nat.lt_of_le_of_lt this.2 (by decide))
 have hk:∀z∈K.map (·.1),Bs z=true:=fun z m=>by
  obtain⟨kd,hm,rfl⟩:=List.mem_map.mp m;obtain⟨a,ha,e⟩:=List.getElem_of_mem hm;have:=(h.at_ a kd (by rw [List.getElem?_eq_getElem ha,e])).1;rw [this,TU _ ha];exact okn _ _
 have hmk:∀z∈mks K,Bs z=true:=fun z m=>by
  have hl:(nms c1 12).length=12:=by simp [nms]
  have e:=(I0 h (by rw [hl];exact hu) K.length (Nat.le_refl _)).1;rw [List.take_length] at e;rw [e] at m;obtain⟨k,rfl⟩:=KY (List.mem_of_mem_take m);exact okn _ _
 have h4:=W.hi;exact⟨by omega,fun kd m=>hk _ (List.mem_map.mpr ⟨kd,m,rfl⟩),fun kd m=>by have:=(W.rw kd m).2;omega,fun kd m r mr=>⟨hmk _ (Od m mr),by have:=W.two kd m r mr;omega,fun p mp=>hk _ (W.prt kd m r mr p mp)⟩⟩
abbrev lpB:FS->SO:=(AS 2 (fz (Am (AD 2 C2) (Ar (fz (Aa 2)) (Ar (Ae C5 (fz (Am (AD 3 Dr) (Ar (fz (Aa 0)) (Ar (Ae AF (gc (.int 3)) (Aa 3)) (Ar (gc (.int 5)) Ak))))) (gc (.int 7))) Ak)))))
theorem T6{ns:List Int}(hb:L2.Cv ns<=2 ^ 20){K:Kd}(B:Bd K){x1:Option Sl}{k:Int}(hk:k=0∨k=1):∃K',Bd K'/\lpB (gS ns x1 (vl (.lst (K.map Af))) (iv k) none none none)=.nx (gS ns x1 (vl (.lst (K'.map Af))) (iv k) none none none):=by
 obtain⟨v,τ,em⟩:∃v τ,Dr [vl (.scr (ns.map T.int)),iv (3+k),iv 5]=.ok (.t (.int v)) τ:=by
  exact mixed (by omega) (Nat.le_refl _) hb
 obtain⟨K',τ2,B',hs⟩:=MA B (v / 7);have ea:Ar (fz (Aa 2)) (Ar (Ae C5 (fz (Am (AD 3 Dr) (Ar (fz (Aa 0)) (Ar (Ae AF (gc (.int 3)) (Aa 3)) (Ar (gc (.int 5)) Ak))))) (gc (.int 7))) Ak) (gS ns x1 (vl (.lst (K.map Af))) (iv k) none none none)=.ok [.t (.lst (K.map Af)),.t (.int (v / 7))] (gS ns x1 (vl (.lst (K.map Af))) (iv k) none none none) :=
  As (AJ (Ac rfl)) (As (Ag (Ew (Fl (rs:=[.t (.scr (ns.map T.int)),.t (.int (3+k)),.t (.int 5)]) (As (AJ (Ac rfl)) (As (Ag AB (Ac rfl) BR) (As AB AV))) rfl rfl em)) AB (Dj ⟨by decide,by decide⟩)) AV)
 refine⟨K',B',?_⟩;rcases hs with e | ⟨o,eo,e⟩
 ·exact Eb (Ew (Fl ea rfl rfl e)) rfl
 ·exact Eb ((Ka (ET ea rfl (by rw [show CG _ _=[] from rfl];exact List.nodup_nil) e (AO rfl))).trans (by rw [eo])) rfl
theorem good(cStock:Addr):∀ns:List Int,ns.length<=63->L2.Cv ns<=2 ^ 20->∃fs,Ww cStock [some (.val (.scr (ns.map T.int)))]=.ok (.t (.bl true)) fs:=by
 intro ns hlen hb;have hbit:=fun i=>Mm hb i
 obtain⟨K,h1,h4,KO,hu,ek⟩:=kinds (ns:=ns) (hbit 0) (hbit 1);have W:=well h1 h4 KO hu;have B:=UN W KO hu;have s1:AS 1 (fz (Am (AD 1 Eh) (Ar (fz (Aa 0)) Ak))) (gS ns none none none none none none)=.nx (gS ns (vl (.lst (K.map Af))) none none none none none) :=
  Eb (Ka (ET (As (AJ (Ac (t:=.scr (ns.map T.int)) rfl)) AV) rfl (by rw [show CG _ _=[] from rfl];exact List.nodup_nil) ek (AO rfl))) rfl
 have s2:AS 2 (fz (Aa 1)) (gS ns (vl (.lst (K.map Af))) none none none none none)=.nx (gS ns (vl (.lst (K.map Af))) (vl (.lst (K.map Af))) none none none none):=Bb (AJ (Ac rfl)) rfl;have ec:=Lr ns 2;obtain⟨n,hn,en⟩:∃n:Nat,n < 3/\ns.getD 2 0 % 3=(n:Int):=⟨(ns.getD 2 0 % 3).toNat,by omega,by omega⟩
 have e3:Ab (Ae BA (fz (Am (AD 2 Bt) (Ar (fz (Aa 0)) (Ar (gc (.int 2)) Ak)))) (gc (.int 3))) Ak (gS ns (vl (.lst (K.map Af))) (vl (.lst (K.map Af))) none none none none)=.ok [.t (.int (n:Int))] (gS ns (vl (.lst (K.map Af))) (vl (.lst (K.map Af))) none none none none) :=
  Az ((Ag (Ew (Fl (rs:=[.t (.scr (ns.map T.int)),.t (.int 2)]) (As (AJ (Ac rfl)) (As AB AV)) rfl rfl ec)) AB (Bz (by decide))).trans (by rw [en])) AV
 obtain⟨fs3,ef,_,O,x3,BO,f3,rfl⟩:=DV (gt:=tgN 3) (body:=lpB) (fun ts fs=>(∀t∈ts,t=.int 0∨t=.int 1)/\∃O x3,Bd O/\Fre x3/\fs=gS ns (vl (.lst (K.map Af))) (vl (.lst (O.map Af))) x3 none none none)
  (fun t ts fs ⟨ht,O,x3,BO,f3,hfs⟩=>by
   subst hfs;obtain⟨k,rfl,hk⟩:∃k,t=.int k/\(k=0∨k=1):=by
    rcases ht t (by simp) with rfl | rfl
    ·exact⟨0,rfl,.inl rfl⟩
    ·exact⟨1,rfl,.inr rfl⟩
   obtain⟨O',BO',e⟩:=T6 (ns:=ns) hb BO (x1:=vl (.lst (K.map Af))) hk;exact⟨_,_,by unfold tgN;exact Ba rfl f3,e,fun u m=>ht u (List.mem_cons_of_mem _ m),O',_,BO',AZ,rfl⟩)
  (FL.upTo 0 n) (gS ns (vl (.lst (K.map Af))) (vl (.lst (K.map Af))) none none none none) ⟨fun t m=>by
   unfold FL.upTo at m;obtain⟨k,hk,rfl⟩:=List.mem_map.mp m;have:=List.mem_range.mp hk;rcases(show k=0∨k=1 by omega) with rfl | rfl
   ·exact .inl rfl
   ·exact .inr rfl,K,none,B,AA,rfl⟩
 have s3:=Hx (gt:=tgN 3) (body:=lpB) e3 (Nat.lt_trans hn (by decide)) ef;have s4:AS 4 (fz (Am (AD 1 Hz) (Ar (fz (Aa 2)) Ak))) (gS ns (vl (.lst (K.map Af))) (vl (.lst (O.map Af))) x3 none none none)=.nx (gS ns (vl (.lst (K.map Af))) (vl (.lst (O.map Af))) x3 (iv (outI (Fp O))) none none) :=
  Bb (Ew (Fl (rs:=[.t (.lst (O.map Af))]) (As (AJ (Ac rfl)) AV) rfl rfl (WB BO))) rfl
 have s5:AS 5 (BW false [none,none] (itU (fz (Aa 2))) (A3 2 (An (tgN 0) (An (tgN 1) A0))) DX (Av Bi (Ab (fz (Aa 0)) (Ab (fz (Am E6 (Ab (Aa 1) Ak))) Ak)))) (gS ns (vl (.lst (K.map Af))) (vl (.lst (O.map Af))) x3 (iv (outI (Fp O))) none none)=.nx (gS ns (vl (.lst (K.map Af))) (vl (.lst (O.map Af))) x3 (iv (outI (Fp O))) (vl (.lst (O.map Af))) none):=Bb (Uv rfl BO.len) rfl;have s6:AS 6 (gc .non) (gS ns (vl (.lst (K.map Af))) (vl (.lst (O.map Af))) x3 (iv (outI (Fp O))) (vl (.lst (O.map Af))) none)=.nx (gT ns K O x3 (Fp O) .non):=Bb AB rfl;obtain⟨w,s7,s9⟩:∃w,SY 7 (fun c=>xrs.contains c && DY c "SayError") (Bq (Am (Fd cStock 2 (A4 cStock)) (Ar (fz (Aa 5)) Ak))) (AS 6 (fz (Aa 7))) (gT ns K O x3 (Fp O) .non)=.nx (gT ns K O x3 (Fp O) w) /\
   orT (Ly (asB (Ae (gEq false) (Aa 4) (GN (gc (.int 1))))) (asB (Ae K9 (Aa 6) (gc .non)))) (Ly (asB (Ae gGt (Aa 4) (GN (gc (.int 1))))) (asB (Ae (gEq true) (fz (Am (AD 1 Dq) (Ar (fz (Aa 6)) Ak))) (Aa 4)))) (gT ns K O x3 (Fp O) w)=.ok false (gT ns K O x3 (Fp O) w):=by
  cases ed:Fp O with
  | none =>
   obtain⟨hs,ei⟩:=OF (C:=cStock) BO ed;refine⟨.non,?_,?_⟩
   ·have dd:Bq (Am (Fd cStock 2 (A4 cStock)) (Ar (fz (Aa 5)) Ak)) (gT ns K O x3 none .non)=.nx (gT ns K O x3 none .non):=Gm (LQ (rs:=[.t (.lst (O.map Af))]) (As (AJ (Ac rfl)) AV) rfl rfl ei)
    unfold SY;rw [dd]
   ·have c1:asB (Ae (gEq false) (Aa 4) (GN (gc (.int 1)))) (gT ns K O x3 none .non)=.ok true _:=FJ (i:=-1) (Ac rfl) Se
    have c2:asB (Ae K9 (Aa 6) (gc .non)) (gT ns K O x3 none .non)=.ok false _:=BM (Ag (Ac rfl) AB rfl);have c3:asB (Ae gGt (Aa 4) (GN (gc (.int 1)))) (gT ns K O x3 none .non)=.ok false _:=BM (Ag (Ac rfl) Se rfl);refine QB (Lx c1 c2) ?_;unfold Ly;rw [c3];rfl
  | some m =>
   have hm:=WD ed;refine⟨.exn (EW m),?_,?_⟩
   ·have dd:Bq (Am (Fd cStock 2 (A4 cStock)) (Ar (fz (Aa 5)) Ak)) (gT ns K O x3 (some m) .non)=.exc (EW m) (gT ns K O x3 (some m) .non):=Ey (Oe (rs:=[.t (.lst (O.map Af))]) (As (AJ (Ac rfl)) AV) rfl rfl (OG BO ed))
    unfold SY;rw [dd];show UU 7 (fun c=>xrs.contains c && DY c "SayError") (AS 6 (fz (Aa 7))) (EW m) _=_;unfold UU;rw [if_pos (Ux hm)];rfl
   ·have c1:asB (Ae (gEq false) (Aa 4) (GN (gc (.int 1)))) (gT ns K O x3 (some m) (.exn (EW m)))=.ok false (gT ns K O x3 (some m) (.exn (EW m))):=(FJ (i:=((m:Nat):Int)) (Ac rfl) Se).trans (by rw [decide_eq_false (by omega)])
    have ew:fz (Am (AD 1 Dq) (Ar (fz (Aa 6)) Ak)) (gT ns K O x3 (some m) (.exn (EW m)))=.ok (.t (.int (m:Nat))) (gT ns K O x3 (some m) (.exn (EW m))):=Ew (Fl (rs:=[.t (.exn (EW m))]) (As (AJ (Ac rfl)) AV) rfl rfl (SV hm));have c4:asB (Ae (gEq true) (fz (Am (AD 1 Dq) (Ar (fz (Aa 6)) Ak))) (Aa 4)) (gT ns K O x3 (some m) (.exn (EW m)))=.ok false (gT ns K O x3 (some m) (.exn (EW m))):=by
     refine BM (Ag ew (Ac (t:=.int (m:Nat)) rfl) ?_);show(if MC (V.int (m:Nat)) (V.int (m:Nat))=true then okT (.bl (if true=true then !decide (V.int (m:Nat)=V.int (m:Nat)) else _)) _ else .bad)=_;rw [if_pos (show MC (V.int (m:Nat)) (V.int (m:Nat))=true from rfl)];simp;rfl
    have c3:asB (Ae gGt (Aa 4) (GN (gc (.int 1)))) (gT ns K O x3 (some m) (.exn (EW m)))=.ok (decide (((m:Nat):Int) > -1)) (gT ns K O x3 (some m) (.exn (EW m))):=BM (Ag (Ac rfl) Se rfl);have c12:Ly (asB (Ae (gEq false) (Aa 4) (GN (gc (.int 1))))) (asB (Ae K9 (Aa 6) (gc .non))) (gT ns K O x3 (some m) (.exn (EW m)))=.ok false (gT ns K O x3 (some m) (.exn (EW m))):=by
     unfold Ly;rw [c1];rfl
    exact(QB c12 (Lx c3 c4)).trans (by rw [Bool.and_false])
 have c8:=VX (i:=5) (j:=2) (K:=O) (fs:=gT ns K O x3 (Fp O) w) rfl rfl;obtain⟨hs,ei⟩:=OF (C:=cStock) B (WC B W);have mk:fz (Am (Fd cStock 2 (A4 cStock)) (Ar (fz (Aa 1)) Ak)) (gT ns K O x3 (Fp O) w)=.ok (.t (CB cStock K hs)) (gT ns K O x3 (Fp O) w):=Ka (o:=JD cStock K hs) (LQ (rs:=[.t (.lst (K.map Af))]) (As (AJ (Ac rfl)) AV) rfl rfl ei);have kn:=Ka (QO mk (QW OC.1) (Qi (C:=cStock) (K:=K) (hs:=hs)));have nm:=names0 (i:=1) (K:=K) (fs:=gT ns K O x3 (Fp O) w) rfl B.len;have rt:=Ag (g:=M4 false) kn nm (r:=.ok (.t (.bl true)) (gT ns K O x3 (Fp O) w)) (by
  show eqB false ((K.map (·.1)).map T.str) ((K.map (·.1)).map T.str) _=_;unfold eqB;rw [L8];simp;rfl)
 have all:RG cStock (gS ns none none none none none none)=.ret (.t (.bl true)) (gT ns K O x3 (Fp O) w) :=
  sq s1 (sq s2 (sq s3 (sq s4 (sq s5 (sq s6 (sq s7 (sq (Bh c8 rfl) (sq (Bh s9 rfl) (Bk rt)))))))))
 exact⟨_,Fv (n:=7) (g:=RG cStock) (args:=[vl (.scr (ns.map T.int))]) all⟩
theorem us1{α:Type}{us:List α}(e:us.length=1):∃a,us=[a]:=by
 match us,e with
 | [a],_=>exact⟨a,rfl⟩
theorem us2{α:Type}{us:List α}(e:us.length=2):∃a b,us=[a,b]:=by
 match us,e with
 | [a,b],_=>exact⟨a,b,rfl⟩
theorem us3{α:Type}{us:List α}(e:us.length=3):∃a b c,us=[a,b,c]:=by
 match us,e with
 | [a,b,c],_=>exact⟨a,b,c,rfl⟩
theorem us4{α:Type}{us:List α}(e:us.length=4):∃a b c d,us=[a,b,c,d]:=by
 match us,e with
 | [a,b,c,d],_=>exact⟨a,b,c,d,rfl⟩
theorem us5{α:Type}{us:List α}(e:us.length=5):∃a b c d e,us=[a,b,c,d,e]:=by
 match us,e with
 | [a,b,c,d,e],_=>exact⟨a,b,c,d,e,rfl⟩
def Qj(K:Fg):Sp:=fun vs H Q _=>∃(a:Addr) (ns:List Int),vs=[.ref a]/\SqL K H a (ns.map V.int)/\ns.length<=63/\Cv ns<=2 ^ 20/\∀H',Q (.bl true) H'
theorem LF{K:Fg}{F:Wd}{H:Hp}:∀(ns:List Int),Aj K F H (ns.map T.int) (ns.map V.int)
 | []=>by simp [Aj]
 | n :: ns=>by
  simp only [List.map_cons,Aj];exact⟨_,_,rfl,by simp [AM],LF ns⟩
theorem V1{K:Fg}{Fn:FS->Out Rv}(good:∀ns:List Int,ns.length<=63->Cv ns<=2 ^ 20->∃fs,Fn [some (.val (.scr (ns.map T.int)))]=.ok (.t (.bl true)) fs):∀vs H Q E,Qj K vs H Q E->spX K 1 Fn vs H Q E:=by
 intro vs H Q E ⟨a,ns,e,hs,hl,hb,k⟩;subst e;obtain⟨fs,eg⟩:=good ns hl hb;have key:∀F:Wd,StL K F H a (ns.map V.int)->(∀b,F b->H b≠none)->(∀b,¬ F.p b)->spX K 1 Fn [.ref a] H Q E:=fun F st fd np=>by
  refine⟨rfl,F,[some (.val (.scr (ns.map T.int)))],⟨[],?_,List.nodup_nil,(fun _ m=>nomatch m),fd,?_,fun b p=>(np b p).elim,fun b _ p=>np b p,(fun _ m=>nomatch m)⟩,?_⟩
  ·show AG K F H [some (.val (.scr (ns.map T.int)))] [some (.ref a)] []
   simp only [AG];exact⟨_,_,rfl,by simp only [AM];exact⟨a,_,rfl,st,LF ns⟩,by first | exact⟨rfl,rfl⟩ | trivial⟩
  ·intro i o e
   cases i with
   | zero=>cases e
   | succ i=>simp at e
  ·rw [eg]
   intro F' H' u σ' _ q;obtain⟨L,L',_,⟨_,qu⟩,_⟩:=q;have:u=.bl true:=qu;subst this;exact k H'
 rcases hs with hs | hs
 ·exact key ⟨fun b=>b=a,fun _=>False⟩ (.inl ⟨rfl,hs⟩) (fun b e=>by
   have e':b=a:=e;subst e';rcases hs with z | ⟨o,z⟩ <;> (rw [z];exact fun q=>nomatch q)) fun _ p=>p
 ·exact key ⟨fun _=>False,fun _=>False⟩ (.inr hs) (fun b e=>e.elim) fun _ p=>p
theorem all_mk{l:PySem.W.OpenLaw}{w:World}{K:Fg}{h:Heap}{mg:Str->Option Value}{fa:Addr}{cStock:Addr}(X:K.In h)(G:h.Ns mainGlobals mg)(hfa:mg "law"=some (.ref fa))
  {f0 f1 f2 f3 f4 f5 f6 f7 f8 f9 f10 f11 f12 f13 f14 f15 f16 f17 f18 f19 f20 f21:Addr} {od0 an0 od1 an1 od2 an2 od3 an3 od4 an4 od5 an5 od6 an6 od7 an7 od8 an8 od9 an9 od10 an10 od11 an11 od12 an12 od13 an13 od14 an14 od15 an15 od16 an16 od17 an17 od18 an18 od19 an19 od20 an20 od21 an21:Option Addr} {sl0 sl1 sl2 sl3 sl4 sl5 sl6 sl7 sl8 sl9 sl10 sl11 sl12 sl13 sl14 sl15 sl16 sl17 sl18 sl19 sl20 sl21:Array (Option Value)} {oc0 kV0 dc0 pm0 cd0 ct0 oc1 kV1 dc1 pm1 cd1 ct1 oc2 kV2 dc2 pm2 cd2 ct2 oc3 kV3 dc3 pm3 cd3 ct3 oc4 kV4 dc4 pm4 cd4 ct4 oc5 kV5 dc5 pm5 cd5 ct5 oc6 kV6 dc6 pm6 cd6 ct6 oc7 kV7 dc7 pm7 cd7 ct7 oc8 kV8 dc8 pm8 cd8 ct8 oc9 kV9 dc9 pm9 cd9 ct9 oc10 kV10 dc10 pm10 cd10 ct10 oc11 kV11 dc11 pm11 cd11 ct11 oc12 kV12 dc12 pm12 cd12 ct12 oc13 kV13 dc13 pm13 cd13 ct13 oc14 kV14 dc14 pm14 cd14 ct14 oc15 kV15 dc15 pm15 cd15 ct15 oc16 kV16 dc16 pm16 cd16 ct16 oc17 kV17 dc17 pm17 cd17 ct17 oc18 kV18 dc18 pm18 cd18 ct18 oc19 kV19 dc19 pm19 cd19 ct19 oc20 kV20 dc20 pm20 cd20 ct20 oc21 kV21 dc21 pm21 cd21 ct21:Value}
  {t_LETTERS:Tok}
  {t_MOST_KINDS:Tok}
  {t_MOST_LETTERS:Tok}
  {t_MOST_MAKERS:Tok}
  {t_MOST_PARTS:Tok}
  (aC_Stock:PySem.W.nsIn K mainGlobals "Stock"=some (some (.ref cStock)))
  (pg_Stock:PySem.W.plainGet K cStock Str.empty=true)
  (hd_Stock:PySem.W.hasDictIn K cStock=true)
  (po_Stock:PySem.W.plainOver K cStock=true)
  (sa_Stock:PySem.W.findIn K (.ref cStock) "__setattr__"=some (some (.builtin "object.__setattr__")))
  (mk_Stock:PySem.W.makesIn K cStock=true)
  (kc_Stock:PySem.W.keepIn K (.ref cStock)=true)
  (a0:PySem.W.nsIn K mainGlobals "_law_digits"=some (some (.ref f0)))
  (l0:K.lookup f0=some ⟨oc0,od0,.func (PySem.W.fnOf "_law_digits" "_law_digits" (Bm D2) (Bf D2) (Au D2) .none kV0 dc0 pm0 an0 cd0 ct0),sl0⟩) (c0:PySem.W.codeIn K cd0 "_law_digits"=true) (k0:PySem.W.keepIn K (.ref f0)=true)
  (a1:PySem.W.nsIn K mainGlobals "_law_names"=some (some (.ref f1)))
  (l1:K.lookup f1=some ⟨oc1,od1,.func (PySem.W.fnOf "_law_names" "_law_names" (Bm EF) (Bf EF) (Au EF) .none kV1 dc1 pm1 an1 cd1 ct1),sl1⟩) (c1:PySem.W.codeIn K cd1 "_law_names"=true) (k1:PySem.W.keepIn K (.ref f1)=true)
  (a2:PySem.W.nsIn K mainGlobals "_law_cell_at"=some (some (.ref f2)))
  (l2:K.lookup f2=some ⟨oc2,od2,.func (PySem.W.fnOf "_law_cell_at" "_law_cell_at" (Bm Dx) (Bf Dx) (Au Dx) .none kV2 dc2 pm2 an2 cd2 ct2),sl2⟩) (c2:PySem.W.codeIn K cd2 "_law_cell_at"=true) (k2:PySem.W.keepIn K (.ref f2)=true)
  (a3:PySem.W.nsIn K mainGlobals "_law_parts"=some (some (.ref f3)))
  (l3:K.lookup f3=some ⟨oc3,od3,.func (PySem.W.fnOf "_law_parts" "_law_parts" (Bm EE) (Bf EE) (Au EE) .none kV3 dc3 pm3 an3 cd3 ct3),sl3⟩) (c3:PySem.W.codeIn K cd3 "_law_parts"=true) (k3:PySem.W.keepIn K (.ref f3)=true)
  (a4:PySem.W.nsIn K mainGlobals "_law_kinds"=some (some (.ref f4)))
  (l4:K.lookup f4=some ⟨oc4,od4,.func (PySem.W.fnOf "_law_kinds" "_law_kinds" (Bm EH) (Bf EH) (Au EH) .none kV4 dc4 pm4 an4 cd4 ct4),sl4⟩) (c4:PySem.W.codeIn K cd4 "_law_kinds"=true) (k4:PySem.W.keepIn K (.ref f4)=true)
  (a5:PySem.W.nsIn K mainGlobals "_law_bad_name"=some (some (.ref f5)))
  (l5:K.lookup f5=some ⟨oc5,od5,.func (PySem.W.fnOf "_law_bad_name" "_law_bad_name" (Bm CY) (Bf CY) (Au CY) .none kV5 dc5 pm5 an5 cd5 ct5),sl5⟩) (c5:PySem.W.codeIn K cd5 "_law_bad_name"=true) (k5:PySem.W.keepIn K (.ref f5)=true)
  (a6:PySem.W.nsIn K mainGlobals "_law_heads_due"=some (some (.ref f6)))
  (l6:K.lookup f6=some ⟨oc6,od6,.func (PySem.W.fnOf "_law_heads_due" "_law_heads_due" (Bm Cy) (Bf Cy) (Au Cy) .none kV6 dc6 pm6 an6 cd6 ct6),sl6⟩) (c6:PySem.W.codeIn K cd6 "_law_heads_due"=true) (k6:PySem.W.keepIn K (.ref f6)=true)
  (a7:PySem.W.nsIn K mainGlobals "_law_due"=some (some (.ref f7)))
  (l7:K.lookup f7=some ⟨oc7,od7,.func (PySem.W.fnOf "_law_due" "_law_due" (Bm Ic) (Bf Ic) (Au Ic) .none kV7 dc7 pm7 an7 cd7 ct7),sl7⟩) (c7:PySem.W.codeIn K cd7 "_law_due"=true) (k7:PySem.W.keepIn K (.ref f7)=true)
  (a8:PySem.W.nsIn K mainGlobals "_law_odd_name"=some (some (.ref f8)))
  (l8:K.lookup f8=some ⟨oc8,od8,.func (PySem.W.fnOf "_law_odd_name" "_law_odd_name" (Bm CW) (Bf CW) (Au CW) .none kV8 dc8 pm8 an8 cd8 ct8),sl8⟩) (c8:PySem.W.codeIn K cd8 "_law_odd_name"=true) (k8:PySem.W.keepIn K (.ref f8)=true)
  (a9:PySem.W.nsIn K mainGlobals "_law_spoiled_maker"=some (some (.ref f9)))
  (l9:K.lookup f9=some ⟨oc9,od9,.func (PySem.W.fnOf "_law_spoiled_maker" "_law_spoiled_maker" (Bm BB) (Bf BB) (Au BB) .none kV9 dc9 pm9 an9 cd9 ct9),sl9⟩) (c9:PySem.W.codeIn K cd9 "_law_spoiled_maker"=true) (k9:PySem.W.keepIn K (.ref f9)=true)
  (a10:PySem.W.nsIn K mainGlobals "_law_spoiled"=some (some (.ref f10)))
  (l10:K.lookup f10=some ⟨oc10,od10,.func (PySem.W.fnOf "_law_spoiled" "_law_spoiled" (Bm Dv) (Bf Dv) (Au Dv) .none kV10 dc10 pm10 an10 cd10 ct10),sl10⟩) (c10:PySem.W.codeIn K cd10 "_law_spoiled"=true) (k10:PySem.W.keepIn K (.ref f10)=true)
  (a11:PySem.W.nsIn K mainGlobals "is_name"=some (some (.ref f11)))
  (l11:K.lookup f11=some ⟨oc11,od11,.func (PySem.W.fnOf "is_name" "is_name" (Bm D1) (Bf D1) (Au D1) .none kV11 dc11 pm11 an11 cd11 ct11),sl11⟩) (c11:PySem.W.codeIn K cd11 "is_name"=true) (k11:PySem.W.keepIn K (.ref f11)=true)
  (a12:PySem.W.nsIn K mainGlobals "check_kinds"=some (some (.ref f12)))
  (l12:K.lookup f12=some ⟨oc12,od12,.func (PySem.W.fnOf "check_kinds" "check_kinds" (Bm Cj) (Bf Cj) (Au Cj) .none kV12 dc12 pm12 an12 cd12 ct12),sl12⟩) (c12:PySem.W.codeIn K cd12 "check_kinds"=true) (k12:PySem.W.keepIn K (.ref f12)=true)
  (a13:PySem.W.nsIn K mainGlobals "check_maker"=some (some (.ref f13)))
  (l13:K.lookup f13=some ⟨oc13,od13,.func (PySem.W.fnOf "check_maker" "check_maker" (Bm Ci) (Bf Ci) (Au Ci) .none kV13 dc13 pm13 an13 cd13 ct13),sl13⟩) (c13:PySem.W.codeIn K cd13 "check_maker"=true) (k13:PySem.W.keepIn K (.ref f13)=true)
  (a14:PySem.W.nsIn K mainGlobals "check_ground"=some (some (.ref f14)))
  (l14:K.lookup f14=some ⟨oc14,od14,.func (PySem.W.fnOf "check_ground" "check_ground" (Bm Cb) (Bf Cb) (Au Cb) .none kV14 dc14 pm14 an14 cd14 ct14),sl14⟩) (c14:PySem.W.codeIn K cd14 "check_ground"=true) (k14:PySem.W.keepIn K (.ref f14)=true)
  (a15:PySem.W.nsIn K mainGlobals "check_makers"=some (some (.ref f15)))
  (l15:K.lookup f15=some ⟨oc15,od15,.func (PySem.W.fnOf "check_makers" "check_makers" (Bm Ca) (Bf Ca) (Au Ca) .none kV15 dc15 pm15 an15 cd15 ct15),sl15⟩) (c15:PySem.W.codeIn K cd15 "check_makers"=true) (k15:PySem.W.keepIn K (.ref f15)=true)
  (a16:PySem.W.findIn K (.ref cStock) "__init__"=some (some (.ref f16))) (i16:PySem.W.isFn K (.ref f16)=true)
  (l16:K.lookup f16=some ⟨oc16,od16,.func (PySem.W.fnOf "__init__" "Stock.__init__" (Bm Cw) (Bf Cw) (Au Cw) .none kV16 dc16 pm16 an16 cd16 ct16),sl16⟩) (c16:PySem.W.codeIn K cd16 "Stock.__init__"=true) (k16:PySem.W.keepIn K (.ref f16)=true)
  (a17:PySem.W.findIn K (.ref cStock) "kinds"=some (some (.ref f17))) (i17:PySem.W.isFn K (.ref f17)=true)
  (l17:K.lookup f17=some ⟨oc17,od17,.func (PySem.W.fnOf "kinds" "Stock.kinds" (Bm Ck) (Bf Ck) (Au Ck) .none kV17 dc17 pm17 an17 cd17 ct17),sl17⟩) (c17:PySem.W.codeIn K cd17 "Stock.kinds"=true) (k17:PySem.W.keepIn K (.ref f17)=true)
  (a18:PySem.W.nsIn K mainGlobals "_law_mixed"=some (some (.ref f18)))
  (l18:K.lookup f18=some ⟨oc18,od18,.func (PySem.W.fnOf "_law_mixed" "_law_mixed" (Bm EG) (Bf EG) (Au EG) .none kV18 dc18 pm18 an18 cd18 ct18),sl18⟩) (c18:PySem.W.codeIn K cd18 "_law_mixed"=true) (k18:PySem.W.keepIn K (.ref f18)=true)
  (a19:PySem.W.nsIn K mainGlobals "_law_classes"=some (some (.ref f19)))
  (l19:K.lookup f19=some ⟨oc19,od19,.func (PySem.W.fnOf "_law_classes" "_law_classes" (Bm Dw) (Bf Dw) (Au Dw) .none kV19 dc19 pm19 an19 cd19 ct19),sl19⟩) (c19:PySem.W.codeIn K cd19 "_law_classes"=true) (k19:PySem.W.keepIn K (.ref f19)=true)
  (a20:PySem.W.nsIn K mainGlobals "_law_which"=some (some (.ref f20)))
  (l20:K.lookup f20=some ⟨oc20,od20,.func (PySem.W.fnOf "_law_which" "_law_which" (Bm ED) (Bf ED) (Au ED) .none kV20 dc20 pm20 an20 cd20 ct20),sl20⟩) (c20:PySem.W.codeIn K cd20 "_law_which"=true) (k20:PySem.W.keepIn K (.ref f20)=true)
  (a21:PySem.W.nsIn K mainGlobals "law"=some (some (.ref f21)))
  (l21:K.lookup f21=some ⟨oc21,od21,.func (PySem.W.fnOf "law" "law" (Bm II) (Bf II) (Au II) .none kV21 dc21 pm21 an21 cd21 ct21),sl21⟩) (c21:PySem.W.codeIn K cd21 "law"=true) (k21:PySem.W.keepIn K (.ref f21)=true)
  (z_ValueError:PySem.W.nsIn K mainGlobals "ValueError"=some none)
  (z_all:PySem.W.nsIn K mainGlobals "all"=some none)
  (z_int:PySem.W.nsIn K mainGlobals "int"=some none)
  (z_isinstance:PySem.W.nsIn K mainGlobals "isinstance"=some none)
  (z_len:PySem.W.nsIn K mainGlobals "len"=some none)
  (z_list:PySem.W.nsIn K mainGlobals "list"=some none)
  (z_max:PySem.W.nsIn K mainGlobals "max"=some none)
  (z_min:PySem.W.nsIn K mainGlobals "min"=some none)
  (z_range:PySem.W.nsIn K mainGlobals "range"=some none)
  (z_reversed:PySem.W.nsIn K mainGlobals "reversed"=some none)
  (z_sum:PySem.W.nsIn K mainGlobals "sum"=some none)
  (z_tuple:PySem.W.nsIn K mainGlobals "tuple"=some none)
  (g_LETTERS:PySem.W.nsIn K mainGlobals "LETTERS"=some (some (.str ("abcdefghijklmnopqrstuvwxyz":Str) t_LETTERS)))
  (g_MOST_KINDS:PySem.W.nsIn K mainGlobals "MOST_KINDS"=some (some (.int 4 t_MOST_KINDS)))
  (g_MOST_LETTERS:PySem.W.nsIn K mainGlobals "MOST_LETTERS"=some (some (.int 12 t_MOST_LETTERS)))
  (g_MOST_MAKERS:PySem.W.nsIn K mainGlobals "MOST_MAKERS"=some (some (.int 4 t_MOST_MAKERS)))
  (g_MOST_PARTS:PySem.W.nsIn K mainGlobals "MOST_PARTS"=some (some (.int 2 t_MOST_PARTS)))
  (n_Stock_home_by_maker:PySem.W.findIn K (.ref cStock) "home_by_maker"=some none)
  (n_Stock_makers_by_kind:PySem.W.findIn K (.ref cStock) "makers_by_kind"=some none)
  (n_Stock_parts_by_maker:PySem.W.findIn K (.ref cStock) "parts_by_maker"=some none)
  (x_all:Uq K xrs xds DY=true) :
  ∃fd:FuncData,(∀(s:Shared) (v:Value),BindsTo s fd ⟨[v],[]⟩ [("_law_script",v)])/\∀base:Heap,K.In base->base.Ns mainGlobals mg->D9 l.prog w K mg base (CX1 l.prog w) 6 fa fd ["_law_script"] (Qj K):=by
 have e:=hfa.symm.trans (PySem.W.mg_of X G a21);cases e;have T:Tx K mg cStock:=⟨PySem.W.mg_none_of X G z_ValueError,PySem.W.mg_none_of X G z_all,PySem.W.mg_none_of X G z_int,PySem.W.mg_none_of X G z_isinstance,PySem.W.mg_none_of X G z_len,PySem.W.mg_none_of X G z_list,PySem.W.mg_none_of X G z_max,PySem.W.mg_none_of X G z_min,PySem.W.mg_none_of X G z_range,PySem.W.mg_none_of X G z_reversed,PySem.W.mg_none_of X G z_sum,PySem.W.mg_none_of X G z_tuple,⟨_,PySem.W.mg_of X G g_LETTERS⟩,⟨_,PySem.W.mg_of X G g_MOST_KINDS⟩,⟨_,PySem.W.mg_of X G g_MOST_LETTERS⟩,⟨_,PySem.W.mg_of X G g_MOST_MAKERS⟩,⟨_,PySem.W.mg_of X G g_MOST_PARTS⟩,⟨pg_Stock,hd_Stock,po_Stock,sa_Stock⟩,n_Stock_home_by_maker,n_Stock_makers_by_kind,n_Stock_parts_by_maker,Ju.of X G x_all⟩
 have F0:=Co (st:=D2) l0 c0 k0;have B0:=F0.binds (ps:=["_law_script","_law_at","_law_parts_here"]) fun _ _ _ _ _ _ us hl=>by obtain⟨a,b,c,rfl⟩:=us3 hl;rfl
 have F1:=Co (st:=EF) l1 c1 k1;have B1:=F1.binds (ps:=["_law_cell","_law_count"]) fun _ _ _ _ _ _ us hl=>by obtain⟨a,b,rfl⟩:=us2 hl;rfl
 have F2:=Co (st:=Dx) l2 c2 k2;have B2:=F2.binds (ps:=["_law_script","_law_k"]) fun _ _ _ _ _ _ us hl=>by obtain⟨a,b,rfl⟩:=us2 hl;rfl
 have F3:=Co (st:=EE) l3 c3 k3;have B3:=F3.binds (ps:=["_law_names_here","_law_at","_law_first","_law_purse"]) fun _ _ _ _ _ _ us hl=>by obtain⟨a,b,c,d,rfl⟩:=us4 hl;rfl
 have F4:=Co (st:=EH) l4 c4 k4;have B4:=F4.binds (ps:=["_law_script"]) fun _ _ _ _ _ _ us hl=>by obtain⟨a,rfl⟩:=us1 hl;rfl
 have F5:=Co (st:=CY) l5 c5 k5;have B5:=F5.binds (ps:=["_law_name"]) fun _ _ _ _ _ _ us hl=>by obtain⟨a,rfl⟩:=us1 hl;rfl
 have F6:=Co (st:=Cy) l6 c6 k6;have B6:=F6.binds (ps:=["_law_kinds_here"]) fun _ _ _ _ _ _ us hl=>by obtain⟨a,rfl⟩:=us1 hl;rfl
 have F7:=Co (st:=Ic) l7 c7 k7;have B7:=F7.binds (ps:=["_law_kinds_here"]) fun _ _ _ _ _ _ us hl=>by obtain⟨a,rfl⟩:=us1 hl;rfl
 have F8:=Co (st:=CW) l8 c8 k8;have B8:=F8.binds (ps:=["_law_cell"]) fun _ _ _ _ _ _ us hl=>by obtain⟨a,rfl⟩:=us1 hl;rfl
 have F9:=Co (st:=BB) l9 c9 k9;have B9:=F9.binds (ps:=["_law_kinds_here","_law_way","_law_row","_law_more"]) fun _ _ _ _ _ _ us hl=>by obtain⟨a,b,c,d,rfl⟩:=us4 hl;rfl
 have F10:=Co (st:=Dv) l10 c10 k10;have B10:=F10.binds (ps:=["_law_kinds_here","_law_cell"]) fun _ _ _ _ _ _ us hl=>by obtain⟨a,b,rfl⟩:=us2 hl;rfl
 have F11:=Co (st:=D1) l11 c11 k11;have B11:=F11.binds (ps:=["text"]) fun _ _ _ _ _ _ us hl=>by obtain⟨a,rfl⟩:=us1 hl;rfl
 have F12:=Co (st:=Cj) l12 c12 k12;have B12:=F12.binds (ps:=["kinds"]) fun _ _ _ _ _ _ us hl=>by obtain⟨a,rfl⟩:=us1 hl;rfl
 have F13:=Co (st:=Ci) l13 c13 k13;have B13:=F13.binds (ps:=["maker","parts","makers_ahead","all_kinds"]) fun _ _ _ _ _ _ us hl=>by obtain⟨a,b,c,d,rfl⟩:=us4 hl;rfl
 have F14:=Co (st:=Cb) l14 c14 k14;have B14:=F14.binds (ps:=["maker","parts","kinds_above"]) fun _ _ _ _ _ _ us hl=>by obtain⟨a,b,c,rfl⟩:=us3 hl;rfl
 have F15:=Co (st:=Ca) l15 c15 k15;have B15:=F15.binds (ps:=["kinds"]) fun _ _ _ _ _ _ us hl=>by obtain⟨a,rfl⟩:=us1 hl;rfl
 have F16:=Co (st:=Cw) l16 c16 k16;have B16:=F16.binds (ps:=["self","kinds"]) fun _ _ _ _ _ _ us hl=>by obtain⟨a,b,rfl⟩:=us2 hl;rfl
 have F17:=Co (st:=Ck) l17 c17 k17;have B17:=F17.binds (ps:=["self"]) fun _ _ _ _ _ _ us hl=>by obtain⟨a,rfl⟩:=us1 hl;rfl
 have F18:=Co (st:=EG) l18 c18 k18;have B18:=F18.binds (ps:=["_law_script","_law_at","_law_many"]) fun _ _ _ _ _ _ us hl=>by obtain⟨a,b,c,rfl⟩:=us3 hl;rfl
 have F19:=Co (st:=Dw) l19 c19 k19;have B19:=F19.binds (ps:=["_law_kept"]) fun _ _ _ _ _ _ us hl=>by obtain⟨a,rfl⟩:=us1 hl;rfl
 have F20:=Co (st:=ED) l20 c20 k20;have B20:=F20.binds (ps:=["_law_kept"]) fun _ _ _ _ _ _ us hl=>by obtain⟨a,rfl⟩:=us1 hl;rfl
 have F21:=Co (st:=II) l21 c21 k21;have B21:=F21.binds (ps:=["_law_script"]) fun _ _ _ _ _ _ us hl=>by obtain⟨a,rfl⟩:=us1 hl;rfl
 refine⟨PySem.W.fnOf "law" "law" (Bm II) (Bf II) (Au II) .none kV21 dc21 pm21 an21 cd21 ct21,fun s v=>.of_eq rfl,fun base _ _=>?_⟩;have O0:=MK (P:=l.prog) (w:=w) (base:=base) F0 T;have G0:FnAt l.prog w K mg base (CX1 l.prog w) "_law_digits" 1 ["_law_script","_law_at","_law_parts_here"] (spX K 3 Dc):=⟨_,_,O0,PySem.W.mg_of X G a0,k0,B0⟩
 have O1:=NY (P:=l.prog) (w:=w) (base:=base) F1 T;have G1:FnAt l.prog w K mg base (CX1 l.prog w) "_law_names" 1 ["_law_cell","_law_count"] (spX K 2 CL):=⟨_,_,O1,PySem.W.mg_of X G a1,k1,B1⟩
 have O2:=KR (P:=l.prog) (w:=w) (base:=base) F2 T;have G2:FnAt l.prog w K mg base (CX1 l.prog w) "_law_cell_at" 1 ["_law_script","_law_k"] (spX K 2 Bt):=⟨_,_,O2,PySem.W.mg_of X G a2,k2,B2⟩
 have O3:=NX (P:=l.prog) (w:=w) (base:=base) F3 T;have G3:FnAt l.prog w K mg base (CX1 l.prog w) "_law_parts" 1 ["_law_names_here","_law_at","_law_first","_law_purse"] (spX K 4 Ce):=⟨_,_,O3,PySem.W.mg_of X G a3,k3,B3⟩
 have O4:=N0 (P:=l.prog) (w:=w) (base:=base) F4 T G3 G2 G1 G0;have G4:FnAt l.prog w K mg base (CX1 l.prog w) "_law_kinds" 2 ["_law_script"] (spX K 1 Eh):=⟨_,_,O4,PySem.W.mg_of X G a4,k4,B4⟩
 have O5:=JZ (P:=l.prog) (w:=w) (base:=base) F5 T;have G5:FnAt l.prog w K mg base (CX1 l.prog w) "_law_bad_name" 1 ["_law_name"] (spX K 1 BJ):=⟨_,_,O5,PySem.W.mg_of X G a5,k5,B5⟩
 have O6:=IX (P:=l.prog) (w:=w) (base:=base) F6 T G5;have G6:FnAt l.prog w K mg base (CX1 l.prog w) "_law_heads_due" 2 ["_law_kinds_here"] (spX K 1 BF):=⟨_,_,O6,PySem.W.mg_of X G a6,k6,B6⟩
 have O7:=TB (P:=l.prog) (w:=w) (base:=base) F7 T G5 G6;have G7:FnAt l.prog w K mg base (CX1 l.prog w) "_law_due" 3 ["_law_kinds_here"] (spX K 1 Hz):=⟨_,_,O7,PySem.W.mg_of X G a7,k7,B7⟩
 have O8:=JY (P:=l.prog) (w:=w) (base:=base) F8 T;have G8:FnAt l.prog w K mg base (CX1 l.prog w) "_law_odd_name" 1 ["_law_cell"] (spX K 1 BV):=⟨_,_,O8,PySem.W.mg_of X G a8,k8,B8⟩
 have O9:=Gb (P:=l.prog) (w:=w) (base:=base) F9 T G8;have G9:FnAt l.prog w K mg base (CX1 l.prog w) "_law_spoiled_maker" 2 ["_law_kinds_here","_law_way","_law_row","_law_more"] (spX K 4 Bu):=⟨_,_,O9,PySem.W.mg_of X G a9,k9,B9⟩
 have O10:=KP (P:=l.prog) (w:=w) (base:=base) F10 T G8 G9;have G10:FnAt l.prog w K mg base (CX1 l.prog w) "_law_spoiled" 3 ["_law_kinds_here","_law_cell"] (spX K 2 C2):=⟨_,_,O10,PySem.W.mg_of X G a10,k10,B10⟩
 have O11:=MJ (P:=l.prog) (w:=w) (base:=base) F11 T;have G11:FnAt l.prog w K mg base (CX1 l.prog w) "is_name" 1 ["text"] (spX K 1 Bj):=⟨_,_,O11,PySem.W.mg_of X G a11,k11,B11⟩
 have O12:=HP (P:=l.prog) (w:=w) (base:=base) F12 T G11;have G12:FnAt l.prog w K mg base (CX1 l.prog w) "check_kinds" 2 ["kinds"] (spX K 1 BU):=⟨_,_,O12,PySem.W.mg_of X G a12,k12,B12⟩
 have O13:=HN (P:=l.prog) (w:=w) (base:=base) F13 T G11;have G13:FnAt l.prog w K mg base (CX1 l.prog w) "check_maker" 2 ["maker","parts","makers_ahead","all_kinds"] (spX K 4 Be):=⟨_,_,O13,PySem.W.mg_of X G a13,k13,B13⟩
 have O14:=Hg (P:=l.prog) (w:=w) (base:=base) F14 T;have G14:FnAt l.prog w K mg base (CX1 l.prog w) "check_ground" 1 ["maker","parts","kinds_above"] (spX K 3 Bo):=⟨_,_,O14,PySem.W.mg_of X G a14,k14,B14⟩
 have O15:=Hf (P:=l.prog) (w:=w) (base:=base) F15 T G14 G13;have G15:FnAt l.prog w K mg base (CX1 l.prog w) "check_makers" 3 ["kinds"] (spX K 1 BI):=⟨_,_,O15,PySem.W.mg_of X G a15,k15,B15⟩
 have O16:=IW (P:=l.prog) (w:=w) (base:=base) F16 T G15 G12;have G16:W9 l.prog w K mg base (CX1 l.prog w) "Stock" cStock 4 ["self","kinds"] (spX K 2 (A4 cStock)):=⟨PySem.W.mg_of X G aC_Stock,_,_,O16,⟨mk_Stock,a16,i16,kc_Stock⟩,B16⟩
 have O17:=HQ (P:=l.prog) (w:=w) (base:=base) F17 T;have G17:W8 l.prog w K mg base (CX1 l.prog w) cStock "kinds" 1 ["self"] (spX K 1 (Cm cStock)):=⟨T.cl_Stock,_,_,O17,⟨a17,i17,k17⟩,B17⟩
 have O18:=NZ (P:=l.prog) (w:=w) (base:=base) F18 T;have G18:FnAt l.prog w K mg base (CX1 l.prog w) "_law_mixed" 1 ["_law_script","_law_at","_law_many"] (spX K 3 Dr):=⟨_,_,O18,PySem.W.mg_of X G a18,k18,B18⟩
 have O19:=KQ (P:=l.prog) (w:=w) (base:=base) F19 T;have G19:FnAt l.prog w K mg base (CX1 l.prog w) "_law_classes" 1 ["_law_kept"] (spX K 1 C3):=⟨_,_,O19,PySem.W.mg_of X G a19,k19,B19⟩
 have O20:=NW (P:=l.prog) (w:=w) (base:=base) F20 T G19;have G20:FnAt l.prog w K mg base (CX1 l.prog w) "_law_which" 2 ["_law_kept"] (spX K 1 Dq):=⟨_,_,O20,PySem.W.mg_of X G a20,k20,B20⟩
 have O21:=VP (P:=l.prog) (w:=w) (base:=base) F21 T G4 G2 G18 G10 G7 G16 G17 G20;exact O21.imp (V1 (good cStock))
theorem walk{l:PySem.W.OpenLaw}{q:Program}{loose:List Str}{XP:(Str->Option Value)->Heap->Prop}{d:DefRec}{K:Params->Fg}{as:List Addr}{N tk:Nat}(hn:l.most=some 63)(hdf:d.params.defaults=[])(hK:∀P:Params,as=(K P).map (·.1))
  (F:∀(w:World) (mg:Str->Option Value) (fa:Addr) (h:Heap),(K w.params).In h->h.Ns mainGlobals mg->mg d.name=some (.ref fa) ->
   ∃fd:FuncData,(∀(s:Shared) (u:Value),BindsTo s fd ⟨[u],[]⟩ [("_law_script",u)])/\∀base:Heap,(K w.params).In base->base.Ns mainGlobals mg->D9 l.prog w (K w.params) mg base (CX1 l.prog w) 6 fa fd ["_law_script"] (Qj (K w.params))) :
  PySem.W.WalkX q loose XP (PySem.W.X.obsZ as) (PySem.W.X.valZ K N tk) l.row.toRowW d [] (fun f vs=>PySem.call f vs) :=
 L2.Kz (n:=63) (k:=6) (x:="_law_script") (CX:=fun w=>CX1 l.prog w) (sp:=Qj) hn (by decide) hdf ⟨rfl,by decide,by decide⟩ hK F (fun _ _ a ns hl hb _ hS=>⟨a,ns,rfl,hS,hl,hb,fun _=>rfl⟩) fun _ _ _ _ _ ⟨_,_,_,_,_,_,_,_,_,_,_,q⟩=>q
end Sy
def PySem.W.Fast.tw9403760956849322868:=()
def PySem.W.Fast.tw18124716237648758993:=()
def PySem.W.Fast.tw3811592796661292694:=()
def PySem.W.Fast.tw608131412316369607:=()
def PySem.W.Fast.tw8218660990061728422:=()
def PySem.W.Fast.tw12476953841394905080:=()
def PySem.W.Fast.tw9631090695722745390:=()
def PySem.W.Fast.tw1372311925208442351:=()
def PySem.W.Fast.tw712886947614555696:=()
def PySem.W.Fast.tw10980305244798589945:=()
def PySem.W.Fast.tw13233996718477156688:=()
def PySem.W.Fast.tw15925311028194056227:=()
def PySem.W.Fast.tw16741331514819527411:=()
def PySem.W.Fast.tw4485732554886625889:=()
def PySem.W.Fast.tw18208417237474194022:=()
def PySem.W.Fast.tw10156787992497173875:=()
def PySem.W.Fast.tw15614486977912986914:=()
def PySem.W.Fast.tw12052811685390272645:=()
def PySem.W.Fast.tw16195979432106045969:=()
def PySem.W.Fast.tw16269353794498649744:=()
def PySem.W.Fast.tw7327720763634152623:=()
def PySem.W.Fast.tw16849272001148942056:=()
def PySem.W.Fast.tw12585100660263409482:=()
def PySem.W.Fast.tw6970868317608398912:=()
def PySem.W.Fast.tw1063198745882221058:=()
open PySem PySem.W PyProof.Rows
set_option maxRecDepth 100000 in
set_option maxHeartbeats 0 in
theorem PySem.Challenge.cw_stairsay_k01_stocks_refused_holds : PySem.Challenge.rw_stairsay_k01_stocks_refused.Holds := by
 w_on;o_law;z_head;(case hw=>w_witness2)
 k_fill
 refine Sy.walk (l:=PySem.Challenge.rw_stairsay_k01_stocks_refused) rfl rfl (fun P=>rfl) ?F
 case F =>
  intro w mg fa h KX G hmg;refine' Sy.all_mk KX G hmg ?aC_Stock ?pg_Stock ?hd_Stock ?po_Stock ?sa_Stock ?mk_Stock ?kc_Stock ?a0 ?l0 ?c0 ?k0 ?a1 ?l1 ?c1 ?k1 ?a2 ?l2 ?c2 ?k2 ?a3 ?l3 ?c3 ?k3 ?a4 ?l4 ?c4 ?k4 ?a5 ?l5 ?c5 ?k5 ?a6 ?l6 ?c6 ?k6 ?a7 ?l7 ?c7 ?k7 ?a8 ?l8 ?c8 ?k8 ?a9 ?l9 ?c9 ?k9 ?a10 ?l10 ?c10 ?k10 ?a11 ?l11 ?c11 ?k11 ?a12 ?l12 ?c12 ?k12 ?a13 ?l13 ?c13 ?k13 ?a14 ?l14 ?c14 ?k14 ?a15 ?l15 ?c15 ?k15 ?a16 ?i16 ?l16 ?c16 ?k16 ?a17 ?i17 ?l17 ?c17 ?k17 ?a18 ?l18 ?c18 ?k18 ?a19 ?l19 ?c19 ?k19 ?a20 ?l20 ?c20 ?k20 ?a21 ?l21 ?c21 ?k21 ?z_ValueError ?z_all ?z_int ?z_isinstance ?z_len ?z_list ?z_max ?z_min ?z_range ?z_reversed ?z_sum ?z_tuple ?g_LETTERS ?g_MOST_KINDS ?g_MOST_LETTERS ?g_MOST_MAKERS ?g_MOST_PARTS ?n_Stock_home_by_maker ?n_Stock_makers_by_kind ?n_Stock_parts_by_maker ?x_all
  (case aC_Stock=>k_is)
  (case pg_Stock=>k_is)
  (case hd_Stock=>k_is)
  (case po_Stock=>k_is)
  (case sa_Stock=>k_is)
  (case mk_Stock=>k_is)
  (case kc_Stock=>k_is)
  (case a0=>k_is)
  (case l0=>k_is)
  (case c0=>k_is)
  (case k0=>k_is)
  (case a1=>k_is)
  (case l1=>k_is)
  (case c1=>k_is)
  (case k1=>k_is)
  (case a2=>k_is)
  (case l2=>k_is)
  (case c2=>k_is)
  (case k2=>k_is)
  (case a3=>k_is)
  (case l3=>k_is)
  (case c3=>k_is)
  (case k3=>k_is)
  (case a4=>k_is)
  (case l4=>k_is)
  (case c4=>k_is)
  (case k4=>k_is)
  (case a5=>k_is)
  (case l5=>k_is)
  (case c5=>k_is)
  (case k5=>k_is)
  (case a6=>k_is)
  (case l6=>k_is)
  (case c6=>k_is)
  (case k6=>k_is)
  (case a7=>k_is)
  (case l7=>k_is)
  (case c7=>k_is)
  (case k7=>k_is)
  (case a8=>k_is)
  (case l8=>k_is)
  (case c8=>k_is)
  (case k8=>k_is)
  (case a9=>k_is)
  (case l9=>k_is)
  (case c9=>k_is)
  (case k9=>k_is)
  (case a10=>k_is)
  (case l10=>k_is)
  (case c10=>k_is)
  (case k10=>k_is)
  (case a11=>k_is)
  (case l11=>k_is)
  (case c11=>k_is)
  (case k11=>k_is)
  (case a12=>k_is)
  (case l12=>k_is)
  (case c12=>k_is)
  (case k12=>k_is)
  (case a13=>k_is)
  (case l13=>k_is)
  (case c13=>k_is)
  (case k13=>k_is)
  (case a14=>k_is)
  (case l14=>k_is)
  (case c14=>k_is)
  (case k14=>k_is)
  (case a15=>k_is)
  (case l15=>k_is)
  (case c15=>k_is)
  (case k15=>k_is)
  (case a16=>k_is)
  (case i16=>k_is)
  (case l16=>k_is)
  (case c16=>k_is)
  (case k16=>k_is)
  (case a17=>k_is)
  (case i17=>k_is)
  (case l17=>k_is)
  (case c17=>k_is)
  (case k17=>k_is)
  (case a18=>k_is)
  (case l18=>k_is)
  (case c18=>k_is)
  (case k18=>k_is)
  (case a19=>k_is)
  (case l19=>k_is)
  (case c19=>k_is)
  (case k19=>k_is)
  (case a20=>k_is)
  (case l20=>k_is)
  (case c20=>k_is)
  (case k20=>k_is)
  (case a21=>k_is)
  (case l21=>k_is)
  (case c21=>k_is)
  (case k21=>k_is)
  (case z_ValueError=>k_is)
  (case z_all=>k_is)
  (case z_int=>k_is)
  (case z_isinstance=>k_is)
  (case z_len=>k_is)
  (case z_list=>k_is)
  (case z_max=>k_is)
  (case z_min=>k_is)
  (case z_range=>k_is)
  (case z_reversed=>k_is)
  (case z_sum=>k_is)
  (case z_tuple=>k_is)
  (case g_LETTERS=>k_is)
  (case g_MOST_KINDS=>k_is)
  (case g_MOST_LETTERS=>k_is)
  (case g_MOST_MAKERS=>k_is)
  (case g_MOST_PARTS=>k_is)
  (case n_Stock_home_by_maker=>k_is)
  (case n_Stock_makers_by_kind=>k_is)
  (case n_Stock_parts_by_maker=>k_is)
  (case x_all=>kernel_rfl)
