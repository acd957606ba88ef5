import PyProof.Rows.All
import Wide.All
import OpenK.AllK
import Wide.FinOn
import PyProof.EqAt
import PyProof.EqKinds
import PyProof.TupleCall
import PyProof.DictWalks
import KE.KSortTup
import KE.KTryMore
import PyProof.NsDelKeeps
import PyProof.ReprStr
import PyProof.StrLawsRepr
import PyProof.Rows.FStr
import PyProof.ListMulRoad
import PyProof.FactsAll.tuple_2
import KE.KPairComp
import PyProof.AttrMissHeap
import PyProof.FactsAll.zip_1
import KE.KDictOf
import KE.KMinBuiltin
import PyProof.Rows.CallKwBuiltin
import KE.KEqDict
import PySem.Challenge.RW_stairsay_k73_texts_refused
set_option Elab.async false
set_option linter.all false
set_option maxRecDepth 100000
set_option maxHeartbeats 4000000
set_option bootstrap.genMatcherCode false
set_option genSizeOf false
noncomputable section
open PySem.W (Frag instObj methodObj lookIn InstAt plainGet hasDictIn findIn handedIn plainGet_of isFn plainOver takerIn makesIn emptyDict keepIn methodCall_KW callWith_K fnOf codeIn excIn exmOne Looks clsIn kitOne OpenLaw WalkO WalkX nsIn mroIn mg_of)
open PyProof.Rows (callWith_type1 slot_tuple_getitem boot_min boot_sum boot_all boot_list boot_tuple boot_int envOfC boot_isinstance boot_any)
open PySem.F (slot_tuple_add entry_tuple_add args_tuple_add_2 plainAttrs_list slot_list_pop type_list_pop)
abbrev qk:=@PySem.wpAny_bind
abbrev ql:=@PySem.Heap.get?_push_of_some
abbrev qm:=@List.map_cons
abbrev qo:=@List.getElem?_eq_getElem
abbrev qp:=@List.nodup_append
abbrev qt:=@List.mem_cons_of_mem
abbrev qv:=@decide_eq_false
abbrev qw:=@List.length_map
abbrev qz:=@List.size_toArray
abbrev qA:=@List.length_append
abbrev qB:=@List.mem_append_right
abbrev qC:=@List.mem_append
abbrev qD:=@List.length_cons
abbrev qE:=@decide_eq_true
abbrev qF:=@List.map_append
abbrev qG:=@List.mem_append_left
abbrev qH:=@Nat.le_refl
abbrev qI:=@PySem.wpAny_pure
abbrev qJ:=@Option.map_eq_some_iff
abbrev qK:=@List.mem_cons
abbrev qL:=@Bool.and_eq_true
abbrev qM:=@PySem.Heap.lt_size
abbrev qN:=@List.getElem?_eq_some_iff
abbrev qO:=@PySem.Heap.get?_push_size
abbrev qP:=@Nat.lt_of_lt_of_le
abbrev qQ:=@List.mem_singleton
abbrev qR:=@Bool.false_ne_true
abbrev qS:=@Nat.le_trans
abbrev qT:=@List.append_assoc
abbrev qU:=@List.nodup_nil
abbrev qV:=@List.nil_append
abbrev qW:=@of_decide_eq_true
abbrev qX:=@List.getElem?_map
abbrev qY:=@List.cons_append
abbrev qZ:=@Nat.ne_of_lt
abbrev q0:=@Option.bind_eq_some_iff
abbrev rg:=@List.mem_cons_self
abbrev rh:=@List.mem_map
abbrev rj:=@List.count_append
abbrev rk:=@List.nodup_cons
abbrev rm:=@List.map_map
abbrev rn:=@List.eq_nil_of_length_eq_zero
abbrev rq:=@List.getElem?_eq_none
abbrev rA:=@Option.bind_some
abbrev rB:=@List.length_drop
abbrev rC:=@List.all_eq_true
abbrev rD:=@List.append_nil
abbrev rE:=@PySem.wpAny_field
abbrev rF:=@List.lookup_cons
abbrev rG:=@List.length_range
abbrev rH:=@List.flatMap_cons
abbrev rJ:=@Nat.lt_irrefl
abbrev rK:=@Int.emod_lt_of_pos
abbrev rL:=@Bool.eq_iff_iff
abbrev rM:=@List.getElem?_set_self
abbrev rN:=@PySem.Heap.get?_update_other
abbrev rO:=@Int.toNat_natCast
abbrev rP:=@List.mem_range
abbrev rQ:=@List.length_singleton
abbrev rR:=@List.getElem?_set_ne
abbrev rT:=@Int.emod_nonneg
abbrev rV:=@List.length_take
abbrev rW:=@Bool.false_eq_true
abbrev rX:=@Nat.zero_le
abbrev rY:=@List.drop_eq_getElem_cons
abbrev rZ:=@Option.isSome_iff_exists
abbrev r8:=@List.length_nil
abbrev sd:=@List.find?_cons
abbrev se:=@List.getElem?_range
abbrev sf:=@List.getElem?_cons_zero
abbrev sh:=@List.getElem?_cons_succ
abbrev si:=@List.any_cons
abbrev sj:=@Array.length_toList
abbrev sk:=@PySem.Heap.size_push
abbrev so:=@Option.map_some
abbrev sr:=@PySem.Heap.get?_update_self
abbrev su:=@Array.getElem?_eq_some_iff
abbrev sv:=@List.mem_of_getElem?
abbrev sA:=@List.dropLast_concat
abbrev sC:=@List.getElem?_append_left
abbrev sD:=@List.filterMap_cons
abbrev sE:=@List.map_nil
abbrev sF:=@Nat.pos_of_ne_zero
abbrev sG:=@List.headD_cons
abbrev sH:=@Bool.or_eq_true
abbrev sI:=@List.ext_getElem?
abbrev sJ:=@List.drop_drop
abbrev sL:=@Nat.lt_trans
abbrev sO:=@List.not_mem_nil
abbrev sP:=@Nat.mul_le_mul_right
abbrev sQ:=@List.mem_of_mem_take
abbrev sR:=@List.getLast?_concat
abbrev sT:=@List.count_cons_self
abbrev sU:=@List.replicate_succ
abbrev sV:=@List.map_congr_left
abbrev sW:=@List.forIn_cons
abbrev sX:=@List.flatMap_append
abbrev sY:=@Int.toNat_of_nonneg
abbrev sZ:=@Option.isSome_some
abbrev tf:=@List.set_cons_zero
abbrev tj:=@List.set_cons_succ
abbrev tm:=@List.mem_filterMap
abbrev tq:=@List.reverse_cons
abbrev tu:=@List.getElem?_take_of_lt
abbrev tw:=@Bool.eq_false_iff
abbrev tD:=@Nat.add_sub_cancel_left
abbrev tE:=@Nat.add_mul
abbrev tH:=@List.pairwise_singleton
abbrev tJ:=@Nat.le_add_right
abbrev tK:=@List.take_of_length_le
abbrev tL:=@List.drop_eq_nil_of_le
abbrev Fg:=Frag
namespace L2
open PySem PySem.Spec PyProof.Rows
abbrev Key:=Sum Int Str
noncomputable def HG:Key->Value->Bool
 |.inl k,v=>Value.isInt k v
 |.inr x,v=>Value.isStrOf x v
noncomputable def Jag(w:World):Key->Int
 |.inl k=>hashInt k
 |.inr x=>hashStr w x
theorem Bg:∀{k:Key}{v:Value},HG k v=true->(∃i t,k=Sum.inl i/\v=Value.int i t)\/(∃x t,k=Sum.inr x/\v=Value.str x t)
 |.inl i,v,h=>by obtain⟨t,e⟩:=Value.isInt_shape (k:=i) (v:=v) h;exact .inl ⟨i,t,rfl,e⟩
 |.inr x,v,h=>by obtain⟨t,e⟩:=Value.isStrOf_shape (x:=x) (v:=v) h;exact .inr ⟨x,t,rfl,e⟩
theorem NB(i:Int)(t:Tok):HG (.inl i) (.int i t)=true:=by simp[HG,Value.isInt]
theorem Nz(x:Str)(t:Tok):HG (.inr x) (.str x t)=true:=by simp[HG,Value.isStrOf]
theorem Wf(a b:Int):decide ((Sum.inl a:Key)=Sum.inl b)=(a==b):=by
 by_cases e:a=b
 .subst e;simp
 .have h:¬(Sum.inl a:Key)=Sum.inl b:=λq=>e (Sum.inl.inj q)
  rw[qv h];exact(beq_eq_false_iff_ne.mpr e).symm
theorem Wb(a b:Str):decide ((Sum.inr a:Key)=Sum.inr b)=decide (a=b):=by
 by_cases e:a=b
 .subst e;simp
 .have h:¬(Sum.inr a:Key)=Sum.inr b:=λq=>e (Sum.inr.inj q)
  rw[qv h,qv e]
theorem We(a:Int)(b:Str):decide ((Sum.inl a:Key)=Sum.inr b)=false:=qv (λq=>nomatch q)
theorem Wc(a:Str)(b:Int):decide ((Sum.inr a:Key)=Sum.inl b)=false:=qv (λq=>nomatch q)
noncomputable def Bu(prog:Program)(w:World):PySem.KeyKind prog w Key where
 is:=HG
 hash:=Jag w
 inj:=λv a b ha hb=>by
  rcases Bg ha with⟨i,t,rfl,rfl⟩|⟨x,t,rfl,rfl⟩
  .rcases Bg hb with⟨j,u,rfl,e⟩|⟨y,u,rfl,e⟩
   .injection e with e1 _;rw[e1]
   .exact nomatch e
  .rcases Bg hb with⟨j,u,rfl,e⟩|⟨y,u,rfl,e⟩
   .exact nomatch e
   .injection e with e1 _;rw[e1]
 byValue:=λk v h=>by rcases Bg h with⟨i,t,rfl,rfl⟩|⟨x,t,rfl,rfl⟩<;>rfl
 pyHash:=λhv h=>by
  rcases Bg hv with⟨i,t,rfl,rfl⟩|⟨x,t,rfl,rfl⟩
  .exact wpAny_pyHash_int h
  .exact wpAny_pyHash_str h
 eqBool:=λhu hv h=>by
  rcases Bg hu with⟨i,t,rfl,rfl⟩|⟨x,t,rfl,rfl⟩
  .rcases Bg hv with⟨j,u,rfl,rfl⟩|⟨y,u,rfl,rfl⟩
   .rw[Wf]at h;exact wpAny_eqBool_int h
   .rw[We]at h;exact SeqAt.EqAt.int_str i t y u _ _ _ _ h
  .rcases Bg hv with⟨j,u,rfl,rfl⟩|⟨y,u,rfl,rfl⟩
   .rw[Wc]at h;exact SeqAt.EqAt.str_int x t j u _ _ _ _ h
   .rw[Wb]at h;exact wpAny_eqBool_str h
 «strs»:=λk x t v h=>by
  rcases Bg h with⟨i,u,rfl,e⟩|⟨y,u,rfl,e⟩
  .exact nomatch e
  .injection e with e1 _
   subst e1;cases v<;>rfl
theorem JL(prog:Program)(w:World)(i:Int)(t:Tok):(Bu prog w).is (.inl i) (.int i t)=true:=NB i t
theorem Dn(prog:Program)(w:World)(x:Str)(t:Tok):(Bu prog w).is (.inr x) (.str x t)=true:=Nz x t
inductive V where
 |l|o (b:Bool)|int (i:Int)|str (x:Str)|zQ (b:Array UInt8)|zp (b:UInt64)|ref (a:Addr)|ty (n:String)
 deriving DecidableEq
def RelV:V->Value->Prop
 |.l,u=>u=Value.none
 |.o b,u=>u=Value.bool b
 |.int i,u=>∃t,u=Value.int i t
 |.str x,u=>∃t,u=Value.str x t
 |.zQ b,u=>∃t,u=Value.bytes b t
 |.zp b,u=>∃t,u=Value.float b t
 |.ref a,u=>u=Value.ref a
 |.ty n,u=>u=Value.type n
abbrev Vals:List V->List Value->Prop:=Paired RelV
theorem Vals.length{xs:List V}{us:List Value}(r:Vals xs us):xs.length=us.length:=Paired.length r
theorem Vals.get:∀{xs:List V}{us:List Value}{i:Nat}{x:V},Vals xs us->xs[i]?=some x->∃u,us[i]?=some u/\RelV x u
 |_,_,_,_,.nil,e=>by simp at e
 |_,_,0,_,.cons r _,e=>by simp at e;subst e;exact⟨_,rfl,r⟩
 |_,_,i+1,x,.cons _ t,e=>by obtain⟨u,h1,h2⟩:=Vals.get (i:=i) (x:=x) t (by simpa using e);exact⟨u,by simpa using h1,h2⟩
theorem Vals.set{x:V}{u:Value}(r:RelV x u):∀{xs:List V}{us:List Value}(i:Nat),Vals xs us->Vals (xs.set i x) (us.set i u)
 |_,_,_,.nil=>.nil
 |_,_,0,.cons _ t=>.cons r t
 |_,_,i+1,.cons q t=>.cons q (Vals.set r i t)
theorem Vals.append:∀{xs ys:List V}{us ws:List Value},Vals xs us->Vals ys ws->Vals (xs++ys) (us++ws)
 |_,_,_,_,.nil,s=>s
 |_,_,_,_,.cons r t,s=>.cons r (Vals.append t s)
theorem Vals.take:∀{xs:List V}{us:List Value}(n:Nat),Vals xs us->Vals (xs.take n) (us.take n)
 |_,_,0,_=>.nil
 |_,_,_+1,.nil=>.nil
 |_,_,n+1,.cons r t=>.cons r (Vals.take n t)
theorem Vals.drop:∀{xs:List V}{us:List Value}(n:Nat),Vals xs us->Vals (xs.drop n) (us.drop n)
 |_,_,0,r=>r
 |_,_,_+1,.nil=>.nil
 |_,_,n+1,.cons _ t=>Vals.drop n t
def AD:Option V->Option Value->Prop
 |some v,some u=>RelV v u
 |none,none=>True
 |_,_=>False
def KV{κ:Type}:List (κ×V)->List (κ×Value)->Prop:=Paired λ(p:κ×V)(q:κ×Value)=>p.1=q.1/\RelV p.2 q.2
noncomputable def kV:Key->V
 |.inl i=>.int i
 |.inr x=>.str x
inductive HO where
 |lst (xs:List V)
 |tup (xs:List V)
 |v (af:List (Key×V))|dT (af:List (List Key×V))
 |set (S:Int->Bool) (n:Nat)
 |ins (C dx:Addr) (fs:List (Str×V))
 |own (x:Addr)
 |xd (fs:List (Str×V))
 |met (f x:Addr)
 |zl (lo hi:Int)
 |frz (o:Obj) (u:HO)
 |zC (ps:Array Value)
 |ext (φ:Heap->Prop)
abbrev Hp:=Addr->Option HO
noncomputable def upd(H:Hp)(a:Addr)(o:HO):Hp:=λb=>if b=a then some o else H b
theorem Az{H:Hp}{a:Addr}{o:HO}:upd H a o a=some o:=by unfold upd;rw[if_pos rfl]
theorem Am{H:Hp}{a b:Addr}{o:HO}(h:b≠a):upd H a o b=H b:=by unfold upd;rw[if_neg h]
theorem YM{H:Hp}{a b:Addr}{o u:HO}(h:H a=some o)(h':H b=some u)(d:o≠u):a≠b:=by intro e;subst e;rw[h]at h';exact d (Option.some.inj h')
theorem AW{H:Hp}{a b:Addr}{o:HO}(h:H a=some o)(h':H b=none):a≠b:=by intro e;subst e;rw[h]at h';cases h'
section
variable(P:Program)(w:World)
def Ca(H:Hp)(h:Heap)(a:Addr):HO->Prop
 |.lst xs=>xs.length<=sizeLine/\∃(ah:List Value)(n:Nat),Vals xs ah/\h.get? a=some {cls:=.type "list",data:=.seq ah.toArray n}
 |.tup xs=>xs.length<=sizeLine/\∃ah:List Value,Vals xs ah/\IsTup h a ah.toArray
 |.v af=>af.length<=sizeLine/\(a==sysModules)=false/\∃vs,KV af vs/\h.DictOf (Bu P w) a vs
 |.dT af=>af.length<=sizeLine/\(a==sysModules)=false/\∃xs:List (List Key×Addr×Value),
   Paired (λ(p:List Key×V)(q:List Key×Addr×Value)=>p.1=q.1/\H q.2.1=some (.tup (p.1.map kV))/\RelV p.2 q.2.2) af xs /\
   ∃o es ep,h.get? a=some o/\o.ExactDict/\o.data=.dict es ep/\es.toList=xs.map (entryOfKey (tupleKind (Bu P w)))/\(xs.map (·.1)).Nodup
 |.set S n=>h.SetOf (intKind P w) a S n
 |.ins C dx fs=>H dx=some (.own a)/\fs.length<=1000/\dx≠a/\h.get? a=some (instObj C dx) /\
   ∃mA,h.Ns1 dx mA/\(∀f,AD (fs.lookup f) (mA f))/\PySem.Within mA (fs.map (·.1))
 |.own _=>∃o,h.get? a=some o
 |.xd fs=>∃mA,h.Ns1 a mA/\∀f,AD (fs.lookup f) (mA f)
 |.zl lo hi=>∃t u v,h.get? a=some {cls:=.type "range",data:=.fields #[.int lo t,.int hi u,.int 1 v]}
 |.frz o u=>h.get? a=some o/\Ca H h a u
 |.zC ps=>h.get? a=some {cls:=.none,data:=.fields ps}
 |.met f x=>h.get? a=some (methodObj (.ref f) (.ref x))
 |.ext φ=>φ h/\(∃o,h.get? a=some o)/\∀h1 h2:Heap,φ h1->(∀o,h1.get? a=some o->h2.get? a=some o)->φ h2
def HOk(H:Hp)(h:Heap):Prop:=∀a o,H a=some o->Ca P w H h a o
end
section
variable{P:Program}{w:World}{H H':Hp}{h h':Heap}{a:Addr}{o:HO}
theorem Ca.lt(x:Ca P w H h a o):a<h.objs.size:=by cases o with|lst xs=>obtain⟨_,_,_,_,e⟩:=x;exact qM e|tup xs=>obtain⟨_,_,_,p⟩:=x;exact p.lt|v af=>obtain⟨_,_,_,_,o,_,_,e,_⟩:=x;exact qM e|dT af=>obtain⟨_,_,_,_,o,_,_,e,_⟩:=x;exact qM e|set S n=>obtain⟨o,_,_,_,e,_⟩:=x;exact qM e|ins C dx fs=>obtain⟨_,_,_,e,_⟩:=x;exact qM e|own y=>obtain⟨_,e⟩:=x;exact qM e|xd fs=>obtain⟨_,⟨_,_,_,e,_⟩,_⟩:=x;exact qM e|zl lo hi=>obtain⟨_,_,_,e⟩:=x;exact qM e|frz ob u=>obtain⟨e,_⟩:=x;exact qM e|zC ps=>exact qM (show h.get? a=some _ from x)|met f y=>exact qM (show h.get? a=some _ from x)|ext φ=>obtain⟨_,⟨_,e⟩,_⟩:=x;exact qM e
theorem Paired.YQ{α β:Type}{F G:α->β->Prop}:∀{l₁:List α}{l₂:List β},Paired F l₁ l₂->(∀a b,F a b->G a b)->Paired G l₁ l₂
 |_,_,.nil,_=>.nil
 |_,_,.cons r t,f=>.cons (f _ _ r) (Paired.YQ t f)
theorem Ca.OO(x:Ca P w H h a o)(k:∀b u,(b=a\/H b=some (.own a))->h.get? b=some u->h'.get? b=some u)
  (ho:∀b,H b=some (.own a)->H' b=some (.own a)) (ht:∀b xs,H b=some (.tup xs)->H' b=some (.tup xs)):Ca P w H' h' a o:=by
 induction o with|lst xs=>obtain⟨z,ah,n,r,e⟩:=x;exact⟨z,ah,n,r,k _ _ (.inl rfl) e⟩|tup xs=>obtain⟨z,ah,r,ob,e,c⟩:=x;exact⟨z,ah,r,ob,k _ _ (.inl rfl) e,c⟩|v af=>obtain⟨z,y,vs,r,ob,es,ep,e,c⟩:=x;exact⟨z,y,vs,r,ob,es,ep,k _ _ (.inl rfl) e,c⟩|dT af =>obtain⟨z,y,xs,r,ob,es,ep,e,c⟩:=x;exact⟨z,y,xs,Paired.YQ r λp q z=>⟨z.1,ht _ _ z.2.1,z.2.2⟩,ob,es,ep,k _ _ (.inl rfl) e,c⟩|set S n=>obtain⟨ob,es,ep,t,e,c⟩:=x;exact⟨ob,es,ep,t,k _ _ (.inl rfl) e,c⟩|ins C dx fs =>obtain⟨d,z,ne,e,mA,⟨od,es,ep,e2,c⟩,r⟩:=x;exact⟨ho _ d,z,ne,k _ _ (.inl rfl) e,mA,⟨od,es,ep,k _ _ (.inr d) e2,c⟩,r⟩|own y=>obtain⟨ob,e⟩:=x;exact⟨ob,k _ _ (.inl rfl) e⟩|xd fs=>obtain⟨mA,⟨od,es,ep,e,c⟩,r⟩:=x;exact⟨mA,⟨od,es,ep,k _ _ (.inl rfl) e,c⟩,r⟩|zl lo hi=>obtain⟨t,u,v,e⟩:=x;exact⟨t,u,v,k _ _ (.inl rfl) e⟩|frz ob u ih=>obtain⟨e,q⟩:=x;exact⟨k _ _ (.inl rfl) e,ih q⟩|zC ps =>have e:h.get? a=some {cls:=.none,data:=.fields ps}:=x;show h'.get? a=some {cls:=.none,data:=.fields ps};exact k a _ (.inl rfl) e|met f y =>have e:h.get? a=some (methodObj (.ref f) (.ref y)):=x;show h'.get? a=some (methodObj (.ref f) (.ref y));exact k a _ (.inl rfl) e|ext φ=>obtain⟨p,⟨o,e⟩,st⟩:=x;exact⟨st _ _ p λo q=>k _ _ (.inl rfl) q,⟨o,k _ _ (.inl rfl) e⟩,st⟩
theorem HOk.lt(x:HOk P w H h)(e:H a=some o):a<h.objs.size:=(x a o e).lt
theorem HOk.fresh(x:HOk P w H h)(e:h.objs.size<=a):H a=none:=by cases q:H a with|none=>rfl|some u=>exact absurd (qP (x.lt q) e) (rJ _)
theorem HOk.kept(x:HOk P w H h)(k:∀b u,h.get? b=some u->h'.get? b=some u):HOk P w H h':=λa o e =>(x a o e).OO (λb u _ q=>k b u q) (λ_ q=>q) λ_ _ q=>q
theorem HOk.laid(x:HOk P w H h)(k:∀b u,h.get? b=some u->h'.get? b=some u)(hp:h.objs.size<=a)(new:Ca P w (upd H a o) h' a o):HOk P w (upd H a o) h':=λb u e=>by
 have hn:=x.fresh hp;by_cases hb:b=a
 .subst hb;rw[Az]at e;cases e;exact new
 .rw[Am hb]at e;exact(x b u e).OO (λc v _ q=>k c v q) (λc q=>by rw[Am (AW q hn)];exact q) λc xs q=>by rw[Am (AW q hn)];exact q
end
def Rd(H:Hp)(a:Addr)(u:HO):Prop:=H a=some u\/∃o,H a=some (.frz o u)
theorem Rd.ok{P:Program}{w:World}{H:Hp}{h:Heap}{a:Addr}{u:HO}(r:Rd H a u)(x:HOk P w H h):Ca P w H h a u:=by
 rcases r with r|⟨o,r⟩
 .exact x a u r
 .obtain⟨_,q⟩:=x a _ r;exact q
def Mut:Option HO->Prop
 |some (.lst _)=>True
 |some (.v _)=>True
 |some (.dT _)=>True
 |some (.set _ _)=>True
 |some (.ins _ _ _)=>True
 |some (.ext _)=>True
 |_=>False
section
variable{P:Program}{w:World}{H:Hp}{h h':Heap}{x e:Addr}{o':HO}
theorem HOk.write(ok:HOk P w H h)(mu:Mut (H x))(he:e=x\/H e=some (.own x))(k:∀b u,b≠e->h.get? b=some u->h'.get? b=some u)(gN:∃u,h'.get? e=some u)
  (new:Ca P w (upd H x o') h' x o'):HOk P w (upd H x o') h':=λb u q=>by
 have iM:∀c y,H c=some (.own y)->c≠x:=λc y r z=>by subst z;rw[r]at mu;exact mu
 have ku:∀c xs,H c=some (.tup xs)->c≠x:=λc xs r z=>by subst z;rw[r]at mu;exact mu
 by_cases hb:b=x
 .subst hb;rw[Az]at q;cases q;exact new
 .rw[Am hb]at q;by_cases dB:b=e
  .have q':H b=some (.own x):=by
    rcases he with z|z
    .exact absurd (dB.trans z) hb
    .rw[dB];exact z
   rw[q]at q';cases q';obtain⟨v,hv⟩:=gN;exact⟨v,by rw[dB];exact hv⟩
  .refine(ok b u q).OO (λc v hc r=>k c v ?_ r) (λc r=>by rw[Am (iM c b r)];exact r) λc xs r=>by rw[Am (ku c xs r)];exact r
   rcases hc with rfl|hc
   .exact dB
   .rintro rfl
    rcases he with z|z
    .exact iM c b hc z
    .rw[hc]at z;cases z;exact hb rfl
end
structure Un(fs ex:List Addr)(H H':Hp)(h h':Heap):Prop where
 keep:∀b o,h.get? b=some o->H b=none->b∉fs->b∉ex->h'.get? b=some o
 slot:∀b o,h.get? b=some o->H b=none->b∈fs->b∉ex->∃sl,h'.get? b=some {o with slots:=sl}
 free:∀b o,h.get? b=some o->H b=none->b∉ex->H' b=none
 there:∀b o,h.get? b=some o->b∉ex->∃o',h'.get? b=some o'
 zT:∀b xs,H b=some (.tup xs)->H' b=some (.tup xs)
 zV:∀b o u,H b=some (.frz o u)->H' b=some (.frz o u)
 zU:∀b ps,H b=some (.zC ps)->∃more,H' b=some (.zC (ps++more))
section
variable{fs aj ex pU:List Addr}{H H1 H2:Hp}{h h1 h2 h':Heap}{a x e:Addr}{o:HO}
theorem Un.any(u:Un fs ex H H1 h h1){b:Addr}{ob:Obj}(q:h.get? b=some ob)(n:H b=none)(hx:b∉ex):∃sl,h1.get? b=some {ob with slots:=sl}:=by
 by_cases hb:b∈fs
 .exact u.slot b ob q n hb hx
 .exact⟨ob.slots,u.keep b ob q n hb hx⟩
theorem Un.kept(k:∀b u,h.get? b=some u->h'.get? b=some u):Un fs ex H H h h' :=
 ⟨λb ob q _ _ _=>k b ob q,λb ob q _ _ _=>⟨ob.slots,k b ob q⟩,λ_ _ _ n _=>n,λb ob q _=>⟨ob,k b ob q⟩,λ_ _ q=>q,λ_ _ _ q=>q,λ_ ps q=>⟨#[],by rw[q];simp⟩⟩
theorem Un.refl:Un fs ex H H h h:=Un.kept λ_ _ q=>q
theorem Un.laid(k:∀b u,h.get? b=some u->h'.get? b=some u)(hp:h.objs.size<=a)(hn:H a=none):Un fs ex H (upd H a o) h h' where
 keep:=λb u q _ _ _=>k b u q
 slot:=λb u q _ _ _=>⟨u.slots,k b u q⟩
 free:=λb u q n _=>by rw[Am (qZ (qP (qM q) hp))];exact n
 there:=λb u q _=>⟨u,k b u q⟩
 zT:=λb xs q=>by rw[Am (AW q hn)];exact q
 zV:=λb u xs q=>by rw[Am (AW q hn)];exact q
 zU:=λb ps q=>⟨#[],by rw[Am (AW q hn),q];simp⟩
theorem Un.write(mu:Mut (H x))(he:e=x\/H e=some (.own x))(k:∀b u,b≠e->h.get? b=some u->h'.get? b=some u)(gN:∃u,h'.get? e=some u):Un fs ex H (upd H x o) h h':=by
 have hx:∀b,H b=none->b≠x:=λb n z=>by subst z;rw[n]at mu;exact mu
 have hb:∀b,H b=none->b≠e:=λb n z=>by
  subst z;rcases he with r|r
  .exact hx b n r
  .rw[n]at r;cases r
 have hm:∀b u,H b=some u->¬Mut (some u)->b≠x:=λb u q nm z=>by subst z;rw[q]at mu;exact nm mu
 refine⟨λb u q n _ _=>k b u (hb b n) q,λb u q n _ _=>⟨u.slots,k b u (hb b n) q⟩,λb u q n _=>by rw[Am (hx b n)];exact n,λb u q _=>?_,
  λb xs q=>by rw[Am (hm b _ q λz=>z)];exact q,λb u xs q=>by rw[Am (hm b _ q λz=>z)];exact q,λb ps q=>⟨#[],by rw[Am (hm b _ q λz=>z),q];simp⟩⟩
 by_cases dB:b=e
 .subst dB;exact gN
 .exact⟨u,k b u dB q⟩
end
noncomputable def trk(h:Heap)(H:Hp):List Addr:=(List.range h.objs.size).filter λa=>(H a).isSome
noncomputable def P0(h:Heap)(H:Hp):Heap:=PySem.W.hideAll h (trk h H)
theorem NM(h:Heap)(H:Hp):(P0 h H).objs.size=h.objs.size:=PySem.W.hideAll_size _ _
theorem PZ{h:Heap}{H:Hp}{b:Addr}{o:Obj}(e:h.get? b=some o)(n:H b=none):(P0 h H).get? b=some o :=
 PySem.W.hideAll_get _ e λhm=>by have q:(H b).isSome=true:=(List.mem_filter.mp hm).2;rw[n]at q;simp at q
theorem SK{h:Heap}{H:Hp}{b:Addr}{o:Obj}(e:(P0 h H).get? b=some o):h.get? b=some o/\H b=none:=by have e':h.get? b=some o:=PySem.W.of_hideAll (trk h H) e;refine⟨e',?_⟩;cases q:H b with|none=>rfl|some x =>have hm:b∈trk h H:=List.mem_filter.mpr ⟨rP.mpr (qM e'),by simp[q]⟩;have z:(P0 h H).get? b=none:=PySem.W.hideAll_none (trk h H) hm;rw[z]at e;cases e
structure Mod(K:Fg)(mg:Str->Option Value)(base:Heap):Prop where
 zw:K.In base
 glob:base.Ns mainGlobals mg
 blt:∃mb,base.Ns builtinsNs mb/\∀x:Str,x≠"__name__"->mb x=bootBuiltins x
 nolimit:base.NoLimit
structure Cx where
 prog:Program
 w:World
 K:Fg
 mg:Str->Option Value
 base:Heap
 A:Around
 N:List Str
 z8:Shared
 zF:Hp
 env:Env
 outer:List Env
 stack:List Env
 ex:List Addr
 fn:Str->Bool
 calm:Bool
 pn:List (Addr×Obj)
 xe:Value->Shared->Prop
noncomputable def frs(l:List Env):List Addr:=l.filterMap (·.frame)
abbrev Cx.fs(X:Cx):List Addr:=frs X.outer
def Vis(sc:Scope)(x:Str):Prop:=sc.names.lookup x=some .local\/sc.names.lookup x=some .cell\/sc.names.lookup x=some .free
def Loc(sc:Scope)(x:Str):Prop:=sc.names.lookup x=some .local\/sc.names.lookup x=some .cell
def Look(env:Env)(h:Heap)(m:Str->Option Value)(x:Str)(u:Value):Prop :=
 (env.kindOf x=some .local/\m x=some u)\/((env.kindOf x=some .cell\/env.kindOf x=some .free)/\∃c,env.cells.lookup x=some c/\h.IsCell c (some u))
structure Cx.Ok(X:Cx):Prop where
 mod:Mod X.K X.mg X.base
 kind:X.env.scope.kind=.function
 glob:X.env.globals=mainGlobals
 blt:X.env.builtins=builtinsNs
 above:X.z8.heap.objs.size<=X.env.locals
 inj:∀x y c,X.env.cells.lookup x=some c->X.env.cells.lookup y=some c->x=y
 has:∀x,(X.env.kindOf x=some .cell\/X.env.kindOf x=some .free)->∃c,X.env.cells.lookup x=some c
 zB:∀x c,X.fn x=true->X.env.cells.lookup x=some c->X.z8.heap.objs.size<=c
 hd:X.calm=true->X.A.handled=none
 frames:X.A.frames=some X.stack
 zu:X.stack=X.outer\/(X.stack=X.env::X.outer/\X.env.frame=some X.env.locals)
 zr:∀b∈X.ex,b≠X.env.locals/\∀x c,X.env.cells.lookup x=some c->c≠b
 bs:∀b o,X.base.get? b=some o->X.z8.heap.get? b=some o/\X.zF b=none
 zO:X.base.objs.size<=X.z8.heap.objs.size
 zL:∀b o,X.base.get? b=some o->b∉X.ex
 zN:∀b∈X.ex,b∉X.fs
 KR:X.z8.heap.FunFrames X.base X.outer
 zG:∀b∈X.fs,X.zF b=none
structure Inv(X:Cx)(aa:List (Addr×Obj))(U:List (Option V))(H:Hp)(s:Shared):Prop where
 ok:X.Ok
 os:s.os=X.z8.os
 bare:AllBare s.gens
 base:Un X.fs X.ex X.zF H X.z8.heap s.heap
 loc:∃m,s.heap.Ns X.env.locals m/\∀(i:Nat)(x:Str)(v:V),X.N[i]?=some x->U[i]?=some (some v)->Vis X.env.scope x->∃u,RelV v u/\Look X.env s.heap m x u
 cell:∀x c,X.env.cells.lookup x=some c->∃v,s.heap.IsCell c v
 free:H X.env.locals=none
 zZ:∀x c,X.env.cells.lookup x=some c->H c=none
 pin:∀p∈X.pn++aa,s.heap.get? p.1=some p.2/\H p.1=none/\p.1≠X.env.locals/\p.1∉X.fs/\∀v,p.2.data≠.cell v
 z9:HOk X.prog X.w H s.heap
 len:U.length=X.N.length
section
variable{X:Cx}{aa:List (Addr×Obj)}{U:List (Option V)}{H H':Hp}{s:Shared}{h':Heap}
theorem Cx.Ok.Jae(ok:X.Ok){b:Addr}{o:Obj}(e:X.base.get? b=some o):b∉X.fs:=λhb=>by have:=(ok.KR.mem hb).1;rw[e]at this;cases this
theorem Inv.bs(I:Inv X aa U H s):∀b o,X.base.get? b=some o->s.heap.get? b=some o/\H b=none:=λb o e =>⟨I.base.keep b o (I.ok.bs b o e).1 (I.ok.bs b o e).2 (I.ok.Jae e) (I.ok.zL b o e),I.base.free b o (I.ok.bs b o e).1 (I.ok.bs b o e).2 (I.ok.zL b o e)⟩
theorem Inv.bk(I:Inv X aa U H s):∀b o,X.base.get? b=some o->s.heap.get? b=some o:=λb o e=>(I.bs b o e).1
theorem Inv.mod(I:Inv X aa U H s):Mod X.K X.mg X.base:=I.ok.mod
theorem Inv.kIn(I:Inv X aa U H s):X.K.In s.heap:=I.ok.mod.zw.keeps I.bk
theorem Inv.lt(I:Inv X aa U H s):X.env.locals<s.heap.objs.size:=let⟨_,hn,_⟩:=I.loc;hn.lt
theorem Inv.sz(I:Inv X aa U H s):X.z8.heap.objs.size<=s.heap.objs.size:=qS I.ok.above (Nat.le_of_lt I.lt)
theorem Inv.Jad(I:Inv X aa U H s){a:Addr}(h:s.heap.objs.size<=a):a∉X.fs:=λhb=>by obtain⟨_,o,ho,_⟩:=I.ok.KR.mem hb;exact absurd (qP (qM ho) (qS I.sz h)) (rJ _)
theorem Inv.cne(I:Inv X aa U H s):∀x c,X.env.cells.lookup x=some c->c≠X.env.locals:=λx c e z=>by obtain⟨v,o,ho,hd⟩:=I.cell x c e;obtain⟨m,⟨o',es,ep,bL,eK,_⟩,_⟩:=I.loc;rw[z,bL]at ho;cases ho;rw[eK]at hd;cases hd
theorem Inv.KR(I:Inv X aa U H s):s.heap.FunFrames X.base X.outer:=by
 have all:∀(l:List Env),(∀b∈frs l,b∈X.fs)->X.z8.heap.FunFrames X.base l->s.heap.FunFrames X.base l:=by
  intro l
  induction l with
  |nil=>intro _ _;trivial
  |cons env r ih =>
   intro hs hl;obtain⟨hk,⟨L,o,hf,hn,ho,hd⟩,hr⟩:=hl;have hL:L∈X.fs:=hs L (by unfold frs;rw[sD,hf];exact rg);obtain⟨sl,e⟩:=I.base.slot L o ho (I.ok.zG L hL) hL λz=>I.ok.zN L z hL
   exact⟨hk,⟨L,_,hf,hn,e,hd⟩,ih (λb hb=>hs b (by unfold frs;rw[sD,hf];exact qt _ hb)) hr⟩
 exact all X.outer (λ_ hb=>hb) I.ok.KR
theorem Inv.stack(I:Inv X aa U H s):s.heap.FunFrames X.base X.stack:=by
 rcases I.ok.zu with e|⟨e,hf⟩
 .rw[e];exact I.KR
 .rw[e];obtain⟨m,hn,_⟩:=I.loc;refine .cons (by rw[I.ok.kind];decide) hf hn ?_ I.KR;exact Heap.get?_none_of_le (qS I.ok.zO I.ok.above)
theorem Inv.Ij(I:Inv X aa U H s):∀b∈frs X.stack,b∈X.env.locals::X.fs:=λb hb=>by
 rcases I.ok.zu with e|⟨e,hf⟩
 .rw[e]at hb;exact qt _ hb
 .rw[e]at hb;unfold frs at hb;rw[sD,hf]at hb;exact hb
theorem Inv.Jw(I:Inv X aa U H s):∀b∈frs X.stack,H b=none:=λb hb=>by
 rcases qK.mp (I.Ij b hb)with e|hb
 .rw[e];exact I.free
 .obtain⟨_,o,ho,_⟩:=I.ok.KR.mem hb;exact I.base.free b o ho (I.ok.zG b hb) λz=>I.ok.zN b z hb
theorem Inv.step{g':Array GenState}{t':Nat}{d':Drawn}{ch:List Addr}(I:Inv X aa U H s)
  (eJ:∀b∈ch,(b∈X.ex\/X.z8.heap.objs.size<=b)/\b≠X.env.locals/\(∀x c,X.env.cells.lookup x=some c->c≠b)/\∀p∈X.pn++aa,p.1≠b)
  (keep:∀b o,b≠X.env.locals->b∉X.fs->b∉ch->s.heap.get? b=some o->H b=none->h'.get? b=some o)
  (slot:∀b o,b≠X.env.locals->b∈X.fs->b∉ch->s.heap.get? b=some o->H b=none->∃sl,h'.get? b=some {o with slots:=sl}) (free:∀b o,b∉ch->s.heap.get? b=some o->H b=none->H' b=none)
  (there:∀b o,b∉ch->s.heap.get? b=some o->∃o',h'.get? b=some o')
  (zT:∀b xs,H b=some (.tup xs)->H' b=some (.tup xs)) (zV:∀b o u,H b=some (.frz o u)->H' b=some (.frz o u)) (zU:∀b ps,H b=some (.zC ps)->∃more,H' b=some (.zC (ps++more)))
  (ns:∀m,s.heap.Ns X.env.locals m->h'.Ns X.env.locals m) (z9:HOk X.prog X.w H' h') (hg:AllBare g') :
  Inv X aa U H' {s with heap:=h',gens:=g',drawn:=d',toks:=t' }:=by
 have gR:∀b o,X.z8.heap.get? b=some o->b≠X.env.locals:=λb o e=>qZ (qP (qM e) I.ok.above)
 have jj:∀b o,X.z8.heap.get? b=some o->b∉X.ex->b∉ch:=λb o e hx hb=>by
  rcases(eJ b hb).1 with z|z
  .exact hx z
  .exact absurd (qP (qM e) z) (rJ _)
 have cf:∀x c,X.env.cells.lookup x=some c->∀v,s.heap.IsCell c v->h'.IsCell c v:=λx c e v ⟨o,ho,hd⟩=>by
  have iI:c∉ch:=λz=>(eJ c z).2.2.1 x c e rfl
  by_cases hc:c∈X.fs
  .obtain⟨sl,q⟩:=slot c o (I.cne x c e) hc iI ho (I.zZ x c e);exact⟨_,q,hd⟩
  .exact⟨o,keep c o (I.cne x c e) hc iI ho (I.zZ x c e),hd⟩
 refine⟨I.ok,I.os,hg,⟨λb o e n hb hx=>?_,λb o e n hb hx=>?_,λb o e n hx=>?_,λb o e hx=>?_,λb xs e=>zT b xs (I.base.zT b xs e),λb o xs e=>zV b o xs (I.base.zV b o xs e),λb ps e=>?_⟩,?_,λx c e=>?_,?_,λx c e=>?_,λp hp=>?_,z9,I.len⟩
 .exact keep b o (gR b o e) hb (jj b o e hx) (I.base.keep b o e n hb hx) (I.base.free b o e n hx)
 .obtain⟨sl,e1⟩:=I.base.slot b o e n hb hx;obtain⟨kA,e2⟩:=slot b _ (gR b o e) hb (jj b o e hx) e1 (I.base.free b o e n hx);exact⟨kA,e2⟩
 .obtain⟨o',e1⟩:=I.base.there b o e hx;exact free b o' (jj b o e hx) e1 (I.base.free b o e n hx)
 .obtain⟨o',e1⟩:=I.base.there b o e hx;exact there b o' (jj b o e hx) e1
 .obtain⟨m1,e1⟩:=I.base.zU b ps e;obtain⟨m2,e2⟩:=zU b _ e1;exact⟨m1++m2,by rw[e2,Array.append_assoc]⟩
 .obtain⟨m,hn,hl⟩:=I.loc;refine⟨m,ns m hn,λi x v e1 e2 e3=>?_⟩;obtain⟨u,r,l⟩:=hl i x v e1 e2 e3;refine⟨u,r,?_⟩;rcases l with l|⟨k,c,e,z⟩
  .exact .inl l
  .exact .inr ⟨k,c,e,cf x c e _ z⟩
 .obtain⟨v,z⟩:=I.cell x c e;exact⟨v,cf x c e v z⟩
 .obtain⟨m,⟨o,_,_,ho,_⟩,_⟩:=I.loc;exact free _ o (λz=>(eJ _ z).2.1 rfl) ho I.free
 .obtain⟨v,o,ho,hd⟩:=I.cell x c e;exact free c o (λz=>(eJ c z).2.2.1 x c e rfl) ho (I.zZ x c e)
 .obtain⟨e,n,ne,nf,d⟩:=I.pin p hp;have iI:p.1∉ch:=λz=>(eJ p.1 z).2.2.2 p hp rfl
  exact⟨keep p.1 p.2 ne nf iI e n,free p.1 p.2 iI e n,ne,nf,d⟩
theorem Inv.un{t':Nat}(I:Inv X aa U H s)(u:Un X.fs [] H H' s.heap h')(z9:HOk X.prog X.w H' h'):Inv X aa U H' {s with heap:=h',toks:=t' }:=by obtain⟨m,⟨o,es,ep,ho,r⟩,_⟩:=id I.loc;obtain⟨sl,hL⟩:=u.any ho I.free (by simp);exact I.step (g':=s.gens) (d':=s.drawn) (ch:=[]) (λ_ z=>nomatch z) (λb o _ hb _ e n=>u.keep b o e n hb (by simp)) (λb o _ hb _ e n=>u.slot b o e n hb (by simp)) (λb o _ e n=>u.free b o e n (by simp)) (λb o _ e=>u.there b o e (by simp)) u.zT u.zV u.zU (λm' hm=>by obtain⟨o',cg,jD,bL,r'⟩:=hm;rw[ho]at bL;cases bL;exact⟨_,cg,jD,hL,r'⟩) z9 I.bare
theorem Inv.call{g':Array GenState}{t':Nat}{d':Drawn}{ch:List Addr}(I:Inv X aa U H s)(u:Un (frs X.stack) ch H H' s.heap h')(z9:HOk X.prog X.w H' h')(hg:AllBare g')
  (eJ:∀b∈ch,(b∈X.ex\/X.z8.heap.objs.size<=b)/\b≠X.env.locals/\(∀x c,X.env.cells.lookup x=some c->c≠b)/\∀p∈X.pn++aa,p.1≠b) :
  Inv X aa U H' {s with heap:=h',gens:=g',drawn:=d',toks:=t' }:=by
 obtain⟨m,⟨o,es,ep,ho,r⟩,_⟩:=id I.loc;obtain⟨sl,hL⟩:=u.any ho I.free λz=>(eJ _ z).2.1 rfl
 exact I.step (ch:=ch) eJ (λb o hL hb hc e n=>u.keep b o e n (λz=>(qK.mp (I.Ij b z)).elim hL hb) hc) (λb o _ _ hc e n=>u.any e n hc) (λb o hc e n=>u.free b o e n hc) (λb o hc e=>u.there b o e hc) u.zT u.zV u.zU (λm' hm=>by obtain⟨o',cg,jD,bL,r'⟩:=hm;rw[ho]at bL;cases bL;exact⟨_,cg,jD,hL,r'⟩) z9 hg
theorem Inv.turned{t':Nat}{it:Addr}(I:Inv X aa U H s)(k:∀b o,b≠it->s.heap.get? b=some o->h'.get? b=some o)(hn:H it=none)(hL:it≠X.env.locals)
  (h1:it∈X.ex\/X.z8.heap.objs.size<=it) (h2:∀x c,X.env.cells.lookup x=some c->c≠it) (h3:∀p∈X.pn++aa,p.1≠it):Inv X aa U H {s with heap:=h',toks:=t' }:=by
 have fU:∀b u,H b=some u->b≠it:=λb u e z=>by rw[z,hn]at e;cases e
 refine I.step (g':=s.gens) (d':=s.drawn) (ch:=[it]) (λb hb=>?_) (λb o _ _ hc e _=>k b o (λz=>hc (by simp[z])) e) (λb o _ _ hc e _=>⟨o.slots,k b o (λz=>hc (by simp[z])) e⟩) (λ_ _ _ _ n=>n)
  (λb o hc e=>⟨o,k b o (λz=>hc (by simp[z])) e⟩) (λ_ _ e=>e) (λ_ _ _ e=>e) (λb ps e=>⟨#[],by rw[e];simp⟩) (λm hm=>?_) (λb u e=>?_) I.bare
 .have e:b=it:=by simpa using hb
  subst e;exact⟨h1,hL,h2,h3⟩
 .obtain⟨o,es,ep,ho,r⟩:=hm;exact⟨o,es,ep,k _ o (Ne.symm hL) ho,r⟩
 .refine(I.z9 b u e).OO (λc v hc q=>k c v ?_ q) (λ_ q=>q) λ_ _ q=>q
  rcases hc with z|z
  .rw[z];exact fU b u e
  .exact fU c _ z
theorem Inv.tok(I:Inv X aa U H s)(t:Nat):Inv X aa U H {s with toks:=t}:=I.un (h':=s.heap) (t':=t) Un.refl I.z9
theorem Inv.kept{t':Nat}(I:Inv X aa U H s)(k:∀b u,s.heap.get? b=some u->h'.get? b=some u):Inv X aa U H {s with heap:=h',toks:=t' }:=I.un (Un.kept k) (I.z9.kept k)
theorem Inv.laid{a:Addr}{o:HO}{t':Nat}(I:Inv X aa U H s)(k:∀b u,s.heap.get? b=some u->h'.get? b=some u)(hp:s.heap.objs.size<=a)(new:Ca X.prog X.w (upd H a o) h' a o) :
  Inv X aa U (upd H a o) {s with heap:=h',toks:=t' }:=I.un (Un.laid k hp (I.z9.fresh hp)) (I.z9.laid k hp new)
theorem Inv.write{x e:Addr}{o:HO}{t':Nat}(I:Inv X aa U H s)(mu:Mut (H x))(he:e=x\/H e=some (.own x))(k:∀b u,b≠e->s.heap.get? b=some u->h'.get? b=some u)(gN:∃u,h'.get? e=some u)
  (new:Ca X.prog X.w (upd H x o) h' x o):Inv X aa U (upd H x o) {s with heap:=h',toks:=t' }:=I.un (Un.write mu he k gN) (I.z9.write mu he k gN new)
theorem Inv.Hv{fW:List (Addr×Obj)}(I:Inv X aa U H s)(h:∀p∈fW,s.heap.get? p.1=some p.2/\H p.1=none/\p.1≠X.env.locals/\p.1∉X.fs/\∀v,p.2.data≠.cell v):Inv X fW U H s :=
 ⟨I.ok,I.os,I.bare,I.base,I.loc,I.cell,I.free,I.zZ,λp hp=>(qC.mp hp).elim (λz=>I.pin p (qG _ z)) (h p),I.z9,I.len⟩
theorem HA{N:List Str}(hN:N.Nodup){i j:Nat}{x:Str}(a:N[i]?=some x)(b:N[j]?=some x):i=j:=by obtain⟨h1,e1⟩:=qN.mp a;obtain⟨h2,e2⟩:=qN.mp b;exact(List.getElem_inj hN).mp (e1.trans e2.symm)
theorem Ii{M:Model}{A:Around}{E:Value->Shared->Prop}{i:Nat}{x:Str}{v:V}{u:Value}{Q:Unit->Shared->Prop}(I:Inv X aa U H s)(hN:X.N.Nodup)(hi:X.N[i]?=some x)(hx:Loc X.env.scope x)(r:RelV v u)
  (h:∀s',Inv X aa (U.set i (some v)) H s'->(∃a,Heap.SameBut a s.heap s'.heap/\(a=X.env.locals\/X.env.cells.lookup x=some a))->Q () s') (hf:X.fn x=true\/X.env.scope.names.lookup x=some .local:=by first|exact .inl rfl|exact .inr rfl|assumption):wpAny M A (storeName X.env x u) Q E s:=by
 obtain⟨m,hn,hl⟩:=id I.loc;have bE:(X.env.scope.kind==.class||(X.env.scope.kind==.module&&X.env.locals !=X.env.globals))=false:=by rw[I.ok.kind];rfl
 have dG:i<U.length:=by rw[I.len];exact(qN.mp hi).1
 have cne:=I.cne;have cQ:∀{a:Addr}{h':Heap},(∃o,s.heap.get? a=some o/\H a=none)->Heap.SameBut a s.heap h'->HOk X.prog X.w H h':=λ{a h'} ha hs b ob e=>by
  obtain⟨_,_,fO⟩:=ha;refine(I.z9 b ob e).OO (λc w' hc q=>(hs.2 c ?_).trans q) (λ_ q=>q) λ_ _ q=>q
  rintro rfl
  rcases hc with rfl|hc
  .rw[fO]at e;cases e
  .rw[fO]at hc;cases hc
 rcases hx with hk|hk
 .refine wpAny_storeName_local hk hn (λh' j4 hs=>?_) bE;obtain⟨oL,_,_,ow,_⟩:=id hn;refine h _ ⟨I.ok,I.os,I.bare,⟨λb o e n hb hx=>?_,λb o e n hb hx=>?_,I.base.free,λb o e hx=>?_,I.base.zT,I.base.zV,I.base.zU⟩,⟨_,j4,λj y v' e1 e2 e3=>?_⟩,λy c e=>?_,I.free,I.zZ,λp hp=>?_,cQ ⟨oL,ow,I.free⟩ hs,by simpa using I.len⟩ ⟨_,hs,.inl rfl⟩
  .exact(hs.2 b (qZ (qP (qM e) I.ok.above))).trans (I.base.keep b o e n hb hx)
  .obtain⟨sl,e1⟩:=I.base.slot b o e n hb hx;exact⟨sl,(hs.2 b (qZ (qP (qM e) I.ok.above))).trans e1⟩
  .obtain⟨o',e1⟩:=I.base.there b o e hx;exact⟨o',(hs.2 b (qZ (qP (qM e) I.ok.above))).trans e1⟩
  .by_cases hj:j=i
   .subst hj;rw[hi]at e1;cases e1;rw[rM dG]at e2;cases e2;exact⟨u,r,.inl ⟨hk,by simp⟩⟩
   .rw[rR (Ne.symm hj)]at e2;obtain⟨u',r',q⟩:=hl j y v' e1 e2 e3;refine⟨u',r',?_⟩;rcases q with⟨k,e⟩|⟨k,c,e,z⟩
    .refine .inl ⟨k,?_⟩;have:y≠x:=λe=>hj (HA hN e1 (e▸hi))
     simp[this,e]
    .exact .inr ⟨k,c,e,z.sameBut hs (cne y c e)⟩
  .obtain⟨w',z⟩:=I.cell y c e;exact⟨w',z.sameBut hs (cne y c e)⟩
  .obtain⟨e,n,ne,nf,d⟩:=I.pin p hp;exact⟨(hs.2 p.1 ne).trans e,n,ne,nf,d⟩
 .have jR:X.fn x=true:=by
   rcases hf with z|z
   .exact z
   .rw[z]at hk;cases hk
  obtain⟨c,hc⟩:=I.ok.has x (.inl hk);obtain⟨w',z⟩:=I.cell x c hc;refine wpAny_storeName_cell I.ok.kind hk hc z (λh' i7 hs=>?_);obtain⟨oc,jb,ka⟩:=id z;refine h {s with heap:=h' } ⟨I.ok,I.os,I.bare,⟨λb o e n hb hx=>?_,λb o e n hb hx=>?_,I.base.free,λb o e hx=>?_,I.base.zT,I.base.zV,I.base.zU⟩,⟨m,hn.sameBut hs (Ne.symm (cne x c hc)),λj y v' e1 e2 e3=>?_⟩,λy c' e=>?_,I.free,I.zZ,λp hp=>?_,cQ ⟨oc,jb,I.zZ x c hc⟩ hs,by simpa using I.len⟩ ⟨c,hs,.inr hc⟩
  .exact(hs.2 b (qZ (qP (qM e) (I.ok.zB x c jR hc)))).trans (I.base.keep b o e n hb hx)
  .obtain⟨sl,e1⟩:=I.base.slot b o e n hb hx;exact⟨sl,(hs.2 b (qZ (qP (qM e) (I.ok.zB x c jR hc)))).trans e1⟩
  .obtain⟨o',e1⟩:=I.base.there b o e hx;exact⟨o',(hs.2 b (qZ (qP (qM e) (I.ok.zB x c jR hc)))).trans e1⟩
  .by_cases hj:j=i
   .subst hj;rw[hi]at e1;cases e1;rw[rM dG]at e2;cases e2;exact⟨u,r,.inr ⟨.inl hk,c,hc,i7⟩⟩
   .rw[rR (Ne.symm hj)]at e2;obtain⟨u',r',q⟩:=hl j y v' e1 e2 e3;refine⟨u',r',?_⟩;rcases q with q|⟨k,c',e,z'⟩
    .exact .inl q
    .refine .inr ⟨k,c',e,z'.sameBut hs ?_⟩
     rintro rfl
     exact hj (HA hN e1 (I.ok.inj _ _ _ e hc▸hi))
  .by_cases hcc:c'=c
   .subst hcc;exact⟨_,i7⟩
   .obtain⟨w2,z2⟩:=I.cell y c' e;exact⟨w2,z2.sameBut hs hcc⟩
  .obtain⟨e,n,ne,nf,d⟩:=I.pin p hp;refine⟨(hs.2 p.1 ?_).trans e,n,ne,nf,d⟩;intro q;rw[q,jb]at e;have q':oc=p.2:=Option.some.inj e;exact d w' (by rw[<- q'];exact ka)
theorem Eg{M:Model}{A:Around}{E:Value->Shared->Prop}{i:Nat}{x:Str}{v:V}{u:Value}{Q:Unit->Shared->Prop}(I:Inv X aa U H s)(hN:X.N.Nodup)(hi:X.N[i]?=some x)(hx:Loc X.env.scope x)(r:RelV v u)
  (h:∀s',Inv X aa (U.set i (some v)) H s'->Q () s') (hf:X.fn x=true\/X.env.scope.names.lookup x=some .local:=by first|exact .inl rfl|exact .inr rfl|assumption):wpAny M A (storeName X.env x u) Q E s :=
 Ii I hN hi hx r (λs' I' _=>h s' I') hf
theorem Inv.Xx{s':Shared}{ch:List Addr}(I:Inv X aa U H s)(ho:s'.os=s.os)(u:Un (frs X.stack) ch H H' s.heap s'.heap)(z9:HOk X.prog X.w H' s'.heap)(hg:AllBare s'.gens)
  (eJ:∀b∈ch,(b∈X.ex\/X.z8.heap.objs.size<=b)/\b≠X.env.locals/\(∀x c,X.env.cells.lookup x=some c->c≠b)/\∀p∈X.pn++aa,p.1≠b):Inv X aa U H' s':=by
 obtain⟨h',g',d',t',o'⟩:=s';have e:o'=s.os:=ho;subst e;exact I.call (g':=g') (t':=t') (d':=d') u z9 hg eJ
end
abbrev XK:=Value->Option Addr->Hp->Prop
abbrev St:=List (Option V)
abbrev VK:=V->Hp->Prop
abbrev TE:=St->Hp->VK->Prop
abbrev TT:=St->Hp->(Bool->Hp->Prop)->Prop
abbrev TA:=St->Hp->(List V->Hp->Prop)->Prop
structure Ends where
 nx:St->Hp->Prop
 rt:VK
 bk:St->Hp->Prop:=λ_ _=>False
 ct:St->Hp->Prop:=λ_ _=>False
abbrev TS:=Ends->St->Hp->Prop
def EP(X:Cx)(aa:List (Addr×Obj))(U:St)(Q:VK)(u:Value)(s':Shared):Prop:=∃v H',Inv X aa U H' s'/\RelV v u/\Q v H'
def TP(X:Cx)(aa:List (Addr×Obj))(U:St)(Q:Bool->Hp->Prop)(b:Bool)(s':Shared):Prop:=∃H',Inv X aa U H' s'/\Q b H'
def AP(X:Cx)(aa:List (Addr×Obj))(U:St)(Q:List V->Hp->Prop)(us:List Value)(s':Shared):Prop:=∃vs H',Inv X aa U H' s'/\Vals vs us/\Q vs H'
def SP(X:Cx)(aa:List (Addr×Obj))(D:Ends)(f:Flow)(s':Shared):Prop :=
 match f with|.next=>∃ak H',Inv X aa ak H' s'/\D.nx ak H'|.brk=>∃ak H',Inv X aa ak H' s'/\D.bk ak H'|.cont=>∃ak H',Inv X aa ak H' s'/\D.ct ak H'|.ret u=>∃v ak H',Inv X aa ak H' s'/\RelV v u/\D.rt v H'
def PE(X:Cx)(e:Expr)(t:TE):Prop :=
 ∀(aa:List (Addr×Obj))(s:Shared)(U:St)(H:Hp)(Q:VK),Inv X aa U H s->t U H Q->wpAny (model X.prog X.w) X.A (eval e X.env) (EP X aa U Q) X.xe s
def PT(X:Cx)(e:Expr)(t:TT):Prop :=
 ∀(aa:List (Addr×Obj))(s:Shared)(U:St)(H:Hp)(Q:Bool->Hp->Prop),Inv X aa U H s->t U H Q->wpAny (model X.prog X.w) X.A (isTrue e X.env (eval e X.env)) (TP X aa U Q) X.xe s
def PW(X:Cx)(e:Expr)(t:TT):Prop :=
 ∀(aY:Sem Value)(aa:List (Addr×Obj))(s:Shared)(U:St)(H:Hp)(Q:Bool->Hp->Prop),Inv X aa U H s->t U H Q->wpAny (model X.prog X.w) X.A (isTrue e X.env aY) (TP X aa U Q) X.xe s
theorem PW.pt{X:Cx}{e:Expr}{t:TT}(h:PW X e t):PT X e t:=h _
def PA(X:Cx)(es:List Expr)(t:TA):Prop :=
 ∀(pos:Pos)(aa:List (Addr×Obj))(s:Shared)(U:St)(H:Hp)(Q:List V->Hp->Prop),Inv X aa U H s->t U H Q->wpAny (model X.prog X.w) X.A (spliced (backTo pos (starEach es X.env))) (AP X aa U Q) X.xe s
def PS(X:Cx)(st:Stmt)(t:TS):Prop :=
 ∀(aa:List (Addr×Obj))(s:Shared)(U:St)(H:Hp)(D:Ends),Inv X aa U H s->t D U H->wpAny (model X.prog X.w) X.A (exec st X.env) (SP X aa D) X.xe s
def PSs(X:Cx)(st:List Stmt)(t:TS):Prop :=
 ∀(aa:List (Addr×Obj))(s:Shared)(U:St)(H:Hp)(D:Ends),Inv X aa U H s->t D U H->wpAny (model X.prog X.w) X.A (execs st X.env) (SP X aa D) X.xe s
theorem thn{α:Type}{t:Sem α}{Q Q':α->Shared->Prop}{M:Model}{A:Around}{E:Value->Shared->Prop}{s:Shared}(h:wpAny M A t Q E s)(hQ:∀a s,Q a s->Q' a s):wpAny M A t Q' E s:=wpAny_mono h hQ λ_ _ x=>x
section
variable{X:Cx}
def UX(i:Nat):TE:=λU H Q=>∃v,U[i]?=some (some v)/\Q v H
def tC(v:V):TE:=λ_ H Q=>Q v H
theorem Vw{i:Nat}{x:Str}{pos:Pos}(hN:X.N[i]?=some x)(hv:Vis X.env.scope x)(hd:(x==("__debug__":Str))=false:=by decide)(bD:(x==("__classdict__":Str))=false:=by decide):PE X (.Name x pos) (UX i):=by
 intro aa s U H Q I h;obtain⟨v,e,h⟩:=h;obtain⟨m,hn,hl⟩:=I.loc;obtain⟨u,r,l⟩:=hl i x v hN e hv;have aV:EP X aa U Q u s:=⟨v,H,I,r,h⟩
 rcases l with⟨hk,hm⟩|⟨hk,c,hc,hcell⟩
 .exact wpAny_Name (wpAny_loadName_local I.ok.kind hk hn hm aV) hd
 .rcases hk with hk|hk
  .exact wpAny_Name (wpAny_loadName_cell I.ok.kind hk hc hcell aV) hd
  .exact wpAny_Name (wpAny_loadName_free I.ok.kind hk hc hcell aV bD) hd
theorem Kt{i j pos}:PE X (.Constant (.int i) j pos) (tC (.int i)):=λ_ _ _ H _ I h=>wpAny_Constant_int ⟨.int i,H,I.tok _,⟨_,rfl⟩,h⟩
theorem YB{b j pos}:PE X (.Constant (.bool b) j pos) (tC (.o b)):=λ_ _ _ H _ I h=>Constant_bool ⟨.o b,H,I,rfl,h⟩
theorem Vz{j pos}:PE X (.Constant .none j pos) (tC .l):=λ_ _ _ H _ I h=>Constant_none ⟨.l,H,I,rfl,h⟩
theorem MV{x j pos}:PE X (.Constant (.str x) j pos) (tC (.str x)):=λ_ _ _ H _ I h=>Calls.Constant_str ⟨.str x,H,I.tok _,⟨_,rfl⟩,h⟩
def Gl(X:Cx)(x:Str):Prop:=X.env.kindOf x=some .globalImplicit
theorem EO{E:Value->Shared->Prop}{aa:List (Addr×Obj)}{s:Shared}{U:St}{H:Hp}{x:Str}{u:Value}{pos:Pos}{Q:Value->Shared->Prop}(I:Inv X aa U H s)(hg:Gl X x)(hm:X.mg x=some u)(h:Q u s)
  (hd:(x==("__debug__":Str))=false:=by decide):wpAny (model X.prog X.w) X.A (eval (.Name x pos) X.env) Q E s :=
 Calls.Name_function_global I.ok.kind hg (Calls.loadGlobal_global (by rw[I.ok.glob];exact I.mod.glob.keeps I.bk) hm h) hd
theorem Fb{E:Value->Shared->Prop}{aa:List (Addr×Obj)}{s:Shared}{U:St}{H:Hp}{x:Str}{u:Value}{pos:Pos}{Q:Value->Shared->Prop}(I:Inv X aa U H s)(hg:Gl X x)(hm:X.mg x=none)(hv:bootBuiltins x=some u)(h:Q u s)
  (hn:x≠"__name__":=by decide) (hd:(x==("__debug__":Str))=false:=by decide):wpAny (model X.prog X.w) X.A (eval (.Name x pos) X.env) Q E s:=by
 obtain⟨mb,h1,h2⟩:=I.mod.blt;exact Calls.Name_function_global I.ok.kind hg (Calls.loadGlobal_builtin (by rw[I.ok.glob];exact I.mod.glob.keeps I.bk) hm (by rw[I.ok.blt];exact h1.keeps I.bk) ((h2 x hn).trans hv) h) hd
theorem FQ{x:Str}{v:V}{u:Value}{pos:Pos}(hg:Gl X x)(hm:X.mg x=some u)(r:RelV v u)(hd:(x==("__debug__":Str))=false:=by decide):PE X (.Name x pos) (tC v) :=
 λ_ _ _ H _ I h=>EO I hg hm ⟨v,H,I,r,h⟩ hd
theorem Sz{x:Str}{v:V}{u:Value}{pos:Pos}(hg:Gl X x)(hm:X.mg x=none)(hv:bootBuiltins x=some u)(r:RelV v u)(hn:x≠"__name__":=by decide)(hd:(x==("__debug__":Str))=false:=by decide):PE X (.Name x pos) (tC v) :=
 λ_ _ _ H _ I h=>Fb I hg hm hv ⟨v,H,I,r,h⟩ hn hd
variable{a b:Expr}{ta tb:TE}{pos:Pos}
variable{tA jq:TT}{rest:List Expr}
def Z7(t u:TT):TT:=λU H Q=>t U H λc H1=>if c=true then u U H1 Q else Q false H1
def tOr(t u:TT):TT:=λU H Q=>t U H λc H1=>if c=true then Q true H1 else u U H1 Q
def Z1(t:TT):TT:=λU H Q=>t U H λc H1=>Q (!c) H1
theorem Sj(ha:PT X a tA):PW X (.BoolOp .And [a] pos) tA:=by intro wh aa s U H Q I h;refine isTrue_and (thn (ha aa s U H Q I h) λc s1 e=>?_);cases c with|true=>exact isTrue_and_nil e|false=>exact e
theorem Vk(ha:PT X a tA):PW X (.BoolOp .Or [a] pos) tA:=by intro wh aa s U H Q I h;refine isTrue_or (thn (ha aa s U H Q I h) λc s1 e=>?_);cases c with|false=>exact isTrue_or_nil e|true=>exact e
theorem Vl(ha:PT X a tA)(hb:PW X (.BoolOp .And (b::rest) pos) jq):PW X (.BoolOp .And (a::b::rest) pos) (Z7 tA jq):=by intro wh aa s U H Q I h;refine isTrue_and (thn (ha aa s U H _ I h) λc s1 ai=>?_);obtain⟨H1,I1,q1⟩:= ai;cases c with|true=>exact hb wh aa s1 U H1 Q I1 q1|false=>exact⟨H1,I1,q1⟩
theorem Yr(ha:PT X a tA)(hb:PW X (.BoolOp .Or (b::rest) pos) jq):PW X (.BoolOp .Or (a::b::rest) pos) (tOr tA jq):=by intro wh aa s U H Q I h;refine isTrue_or (thn (ha aa s U H _ I h) λc s1 ai=>?_);obtain⟨H1,I1,q1⟩:= ai;cases c with|true=>exact⟨H1,I1,q1⟩|false=>exact hb wh aa s1 U H1 Q I1 q1
theorem Vm(ha:PT X a tA):PT X (.UnaryOp .Not a pos) (Z1 tA):=by intro aa s U H Q I h;exact isTrue_not (ha aa s U H (λc H1=>Q (!c) H1) I h)
def tIf(t:TT)(ta tb:TE):TE:=λU H Q=>t U H λc H1=>if c=true then ta U H1 Q else tb U H1 Q
theorem Pl{c:Expr}(hc:PT X c tA)(ha:PE X a ta)(hb:PE X b tb):PE X (.IfExp c a b pos) (tIf tA ta tb):=by intro aa s U H Q I h;refine wpAny_IfExp (thn (hc aa s U H _ I h) λd s1 ai=>?_);obtain⟨H1,I1,q1⟩:= ai;cases d with|true=>exact ha aa s1 U H1 Q I1 q1|false=>exact hb aa s1 U H1 Q I1 q1
end
def SqL(K:Fg)(H:Hp)(a:Addr)(xs:List V):Prop :=
 Rd H a (.lst xs)\/
  ∃(o:Obj)(ah:Array Value)(n:Nat),K.lookup a=some o/\o.cls=.type "list"/\o.dict=none/\o.data=.seq ah n/\ah.size<=sizeLine/\Vals xs ah.toList
def SqT(K:Fg)(H:Hp)(a:Addr)(xs:List V):Prop :=
 Rd H a (.tup xs)\/
  ∃(o:Obj)(ah:Array Value)(n:Nat),K.lookup a=some o/\o.cls=.type "tuple"/\o.data=.seq ah n/\ah.size<=sizeLine/\Vals xs ah.toList
noncomputable def Jar:Value->Option V
 |.none=>some .l
 |.bool b=>some (.o b)
 |.int i _=>some (.int i)
 |.str x _=>some (.str x)
 |.bytes b _=>some (.zQ b)
 |.float b _=>some (.zp b)
 |.ref a=>some (.ref a)
 |.type n=>some (.ty n)
 |_=>none
theorem RelV.abs{x:V}{u:Value}(r:RelV x u):Jar u=some x:=by cases x with|l=>cases r;rfl|o _=>cases r;rfl|int _=>obtain⟨t,rfl⟩:=r;rfl|str _=>obtain⟨t,rfl⟩:=r;rfl|zQ _=>obtain⟨t,rfl⟩:=r;rfl|zp _=>obtain⟨t,rfl⟩:=r;rfl|ref _=>cases r;rfl|ty _=>cases r;rfl
theorem RelV.inj{x y:V}{u:Value}(r:RelV x u)(q:RelV y u):x=y:=Option.some.inj (r.abs.symm.trans q.abs)
theorem Vals.inj:∀{xs ys:List V}{us:List Value},Vals xs us->Vals ys us->xs=ys
 |_,_,_,.nil,.nil=>rfl
 |_,_,_,.cons r t,.cons r' t'=>by rw[r.inj r',Vals.inj t t']
section
variable{X:Cx}{aa:List (Addr×Obj)}{U:St}{H:Hp}{s:Shared}{a:Addr}{xs ys:List V}
theorem SqL.of{K:Fg}(h:H a=some (.lst xs)):SqL K H a xs:=.inl (.inl h)
theorem SqT.of{K:Fg}(h:H a=some (.tup xs)):SqT K H a xs:=.inl (.inl h)
theorem Inv.list(I:Inv X aa U H s)(h:SqL X.K H a xs):∃ah:List Value,Vals xs ah/\PlainL s.heap a ah.toArray/\xs.length<=sizeLine:=by
 rcases h with h|⟨o,ah,n,hk,hc,hd,hs,hz,r⟩
 .obtain⟨z,ah,n,r,e⟩:=h.ok I.z9;exact⟨ah,r,⟨_,n,e,rfl,rfl,rfl⟩,z⟩
 .refine⟨ah.toList,r,⟨o,n,I.kIn a o hk,hc,hd,by simpa using hs⟩,?_⟩;have e:=r.length;simp only[sj]at e
  lia
theorem Inv.tuple(I:Inv X aa U H s)(h:SqT X.K H a xs):∃ah:List Value,Vals xs ah/\IsTup s.heap a ah.toArray/\xs.length<=sizeLine:=by
 rcases h with h|⟨o,ah,n,hk,hc,hs,hz,r⟩
 .obtain⟨z,ah,r,p⟩:=h.ok I.z9;exact⟨ah,r,p,z⟩
 .refine⟨ah.toList,r,⟨o,I.kIn a o hk,hc,n,by simpa using hs⟩,?_⟩;have e:=r.length;simp only[sj]at e
  lia
theorem Inv.Ky(I:Inv X aa U H s)(h:SqL X.K H a xs)(h':SqL X.K H a ys):xs=ys:=by
 obtain⟨ah,r,⟨o,n,e,_,_,d⟩,_⟩:=I.list h;obtain⟨aA,r',⟨o',n',e',_,_,d'⟩,_⟩:=I.list h';rw[e]at e';cases e';rw[d]at d';injection d' with d1 _;have:ah=aA:=by simpa using congrArg Array.toList d1
 subst this;exact r.inj r'
theorem Inv.Ig(I:Inv X aa U H s)(h:SqT X.K H a xs)(h':SqT X.K H a ys):xs=ys:=by
 obtain⟨ah,r,⟨o,e,_,n,d⟩,_⟩:=I.tuple h;obtain⟨aA,r',⟨o',e',_,n',d'⟩,_⟩:=I.tuple h';rw[e]at e';cases e';rw[d]at d';injection d' with d1 _;have:ah=aA:=by simpa using congrArg Array.toList d1
 subst this;exact r.inj r'
end
abbrev Cx.FC(X:Cx)(E:Value->Shared->Prop):Cx:={X with xe:=E}
theorem Cx.Ok.FC{X:Cx}(ok:X.Ok)(E:Value->Shared->Prop):(X.FC E).Ok :=
 ⟨ok.mod,ok.kind,ok.glob,ok.blt,ok.above,ok.inj,ok.has,ok.zB,ok.hd,ok.frames,ok.zu,ok.zr,ok.bs,ok.zO,ok.zL,ok.zN,ok.KR,ok.zG⟩
theorem Cx.Ok.DY{X:Cx}{E:Value->Shared->Prop}(ok:(X.FC E).Ok):X.Ok :=
 ⟨ok.mod,ok.kind,ok.glob,ok.blt,ok.above,ok.inj,ok.has,ok.zB,ok.hd,ok.frames,ok.zu,ok.zr,ok.bs,ok.zO,ok.zL,ok.zN,ok.KR,ok.zG⟩
section
variable{X:Cx}{aa:List (Addr×Obj)}{U:St}{H:Hp}{s:Shared}{E:Value->Shared->Prop}
theorem Inv.FC(I:Inv X aa U H s)(E:Value->Shared->Prop):Inv (X.FC E) aa U H s:=⟨I.ok.FC E,I.os,I.bare,I.base,I.loc,I.cell,I.free,I.zZ,I.pin,I.z9,I.len⟩
theorem Inv.DY(I:Inv (X.FC E) aa U H s):Inv X aa U H s:=⟨I.ok.DY,I.os,I.bare,I.base,I.loc,I.cell,I.free,I.zZ,I.pin,I.z9,I.len⟩
theorem SP.DY{D:Ends}{f:Flow}{s':Shared}(h:SP (X.FC E) aa D f s'):SP X aa D f s':=by cases f with|next=>obtain⟨ak,H',I,q⟩:=h;exact⟨ak,H',I.DY,q⟩|brk=>obtain⟨ak,H',I,q⟩:=h;exact⟨ak,H',I.DY,q⟩|cont=>obtain⟨ak,H',I,q⟩:=h;exact⟨ak,H',I.DY,q⟩|ret u=>obtain⟨v,ak,H',I,r,q⟩:=h;exact⟨v,ak,H',I.DY,r,q⟩
end
section
variable{X:Cx}{st:Stmt}{rest:List Stmt}{t u:TS}{e:Expr}{te:TE}{pos:Pos}
def Yj:TS:=λD U H=>D.nx U H
def ZH(t u:TS):TS:=λD U H=>t {D with nx:=u D} U H
theorem Sm:PSs X [] Yj:=λ_ _ U H _ I h=>wpAny_execs_nil ⟨U,H,I,h⟩
theorem Pb(h1:PS X st t)(h2:PSs X rest u):PSs X (st::rest) (ZH t u):=by intro aa s U H D I h;refine wpAny_execs_cons (thn (h1 aa s U H {D with nx:=u D} I h) λf s1 q=>?_);cases f with|next =>obtain⟨ak,H',I',q⟩:=q;exact h2 aa s1 ak H' D I' q|ret v=>exact q|brk=>exact q|cont=>exact q
theorem Sk(h1:PS X st t):PSs X [st] t:=by intro aa s U H D I h;refine wpAny_execs_cons (thn (h1 aa s U H D I h) λf s1 q=>?_);cases f with|next=>exact wpAny_execs_nil q|ret v=>exact q|brk=>exact q|cont=>exact q
theorem Inv.quiet{aa:List (Addr×Obj)}{U:St}{H:Hp}{s:Shared}(I:Inv X aa U H s):interactive X.env=false:=by simp[interactive,I.ok.kind]
def Yk(te:TE):TS:=λD U H=>te U H λ_ H1=>D.nx U H1
theorem Jy(he:PE X e te)(hs:swapsWith e none pos.line X.env=pure false:=by rfl):PS X (.Expr e pos) (Yk te):=by intro aa s U H D I h;exact wpAny_Expr_any (thn (he aa s U H _ I h) λv s1 ⟨x,H1,I1,r1,q1⟩=>⟨U,H1,I1,q1⟩) I.quiet hs
def Z0(te:TE):TS:=λD U H=>te U H D.rt
theorem Vo(he:PE X e te):PS X (.Return (some e) pos) (Z0 te):=by intro aa s U H D I h;exact wpAny_Return_some (thn (he aa s U H _ I h) λv s1 ⟨x,H1,I1,r1,q1⟩=>⟨x,U,H1,I1,r1,q1⟩)
def Z3(c:TT)(t u:TS):TS:=λD U H=>c U H λb H1=>if b=true then t D U H1 else u D U H1
theorem Ys{c:Expr}{a b:List Stmt}{tc:TT}(hc:PT X c tc)(ha:PSs X a t)(hb:PSs X b u):PS X (.If c a b pos) (Z3 tc t u):=by intro aa s U H D I h;refine wpAny_If (thn (hc aa s U H _ I h) λd s1 ai=>?_);obtain⟨H1,I1,q1⟩:= ai;cases d with|true=>exact ha aa s1 U H1 D I1 q1|false=>exact hb aa s1 U H1 D I1 q1
def UZ:TS:=λ_ _ _=>False
theorem Pd:PS X st UZ:=λ_ _ _ _ _ _ h=>h.elim
end
abbrev TG:=V->St->Hp->(St->Hp->Prop)->Prop
abbrev TGs:=List V->St->Hp->(St->Hp->Prop)->Prop
def PG(X:Cx)(target:Expr)(t:TG):Prop :=
 ∀(aa:List (Addr×Obj))(s:Shared)(U:St)(H:Hp)(v:V)(u:Value)(Q:St->Hp->Prop),Inv X aa U H s->RelV v u->t v U H Q ->
  wpAny (model X.prog X.w) X.A (assign target X.env u) (λ_ s'=>∃ak H',Inv X aa ak H' s'/\Q ak H') X.xe s
def PGs(X:Cx)(ts:List Expr)(t:TGs):Prop :=
 ∀(aa:List (Addr×Obj))(s:Shared)(U:St)(H:Hp)(vs:List V)(us:List Value)(Q:St->Hp->Prop),Inv X aa U H s->Vals vs us->t vs U H Q ->
  wpAny (model X.prog X.w) X.A (assignInOrder ((assignEach ts X.env).map (·.2)) us) (λ_ s'=>∃ak H',Inv X aa ak H' s'/\Q ak H') X.xe s
abbrev RZ:=V->V->V->Hp->(Hp->Prop)->Prop
def QR(X:Cx)(t:RZ):Prop :=
 ∀(aa:List (Addr×Obj))(s:Shared)(U:St)(H:Hp)(o i v:V)(ov iv u:Value)(Q:Hp->Prop),Inv X aa U H s->RelV o ov->RelV i iv->RelV v u->t o i v H Q ->
  wpAny (model X.prog X.w) X.A (setItem ov iv u) (λ_ s'=>∃H',Inv X aa U H' s'/\Q H') X.xe s
abbrev TIp:=V->V->Hp->VK->Prop
def PIp(X:Cx)(op:Operator)(t:TIp):Prop :=
 ∀(aa:List (Addr×Obj))(s:Shared)(U:St)(H:Hp)(x y:V)(v u:Value)(Q:VK),Inv X aa U H s->RelV x v->RelV y u->t x y H Q ->
  wpAny (model X.prog X.w) X.A (inplaceOp op v u) (EP X aa U Q) X.xe s
section
variable{X:Cx}{pos:Pos}
def Qh(i:Nat):TG:=λv U H Q=>Q (U.set i (some v)) H
theorem Su{i:Nat}{x:Str}(hN:X.N.Nodup)(hi:X.N[i]?=some x)(hx:Loc X.env.scope x)(hf:X.fn x=true\/X.env.scope.names.lookup x=some .local:=by first|exact .inl rfl|exact .inr rfl|assumption):PG X (.Name x pos) (Qh i):=by intro aa s U H v u Q I r h;exact wpAny_assign_Name (Eg I hN hi hx r (λs' I'=>⟨_,H,I',h⟩) hf)
noncomputable def Jam:TGs:=λvs U H Q=>vs=[]/\Q U H
noncomputable def WD(t:TG)(u:TGs):TGs:=λvs U H Q=>∃v r,vs=v::r/\t v U H λak H'=>u r ak H' Q
theorem Ss:PGs X [] Jam:=by intro aa s U H vs us Q I r h;obtain⟨e,h⟩:=h;subst e;cases r;exact assignInOrder_nil ⟨U,H,I,h⟩
theorem Kq{e:Expr}{es:List Expr}{t:TG}{u:TGs}(h1:PG X e t)(h2:PGs X es u)
  (hs:(assignEach (e::es) X.env).map (·.2)=assign e X.env::(assignEach es X.env).map (·.2):=by rfl):PGs X (e::es) (WD t u):=by
 intro aa s U H vs us Q I r h;obtain⟨v,vr,e1,h⟩:=h;subst e1;cases r with|cons r rr =>rw[hs];refine assignInOrder_cons (thn (h1 aa s U H _ _ _ I r h) λ_ s1 ai=>?_);obtain⟨di,H1,I1,q1⟩:= ai;exact h2 aa s1 di H1 _ _ Q I1 rr q1
def Jal(K:Fg)(n:Nat)(t:TGs):TG:=λv U H Q=>∃a xs,v=.ref a/\SqT K H a xs/\xs.length=n/\t xs U H Q
theorem Vu{es:List Expr}{k:Nat}{t:TGs}{n:Nat}(hc:X.calm=true)(h:PGs X es t)
  (hn:(assignEach es X.env).length=n:=by rfl) (bG:(assignEach es X.env).findIdx? (·.1)=none:=by rfl):PG X (.Tuple es k pos) (Jal X.K n t):=by
 intro aa s U H v u Q I r hw;obtain⟨a,xs,e1,hq,hl,hw⟩:=hw;subst e1;cases r;obtain⟨ah,rv,ht,hz⟩:=I.tuple hq;refine assign_Tuple_tuple (I.ok.hd hc) ht (by simp[hn,<- hl,rv.length]) bG λh' hx=>?_
 have I1:Inv X aa U H {s with heap:=h' }:=I.kept (t':=s.toks) λb o e=>hx b o (qZ (qM e)) e
 exact h aa _ U H xs _ Q I1 (by simpa using rv) hw
def Y5(to ti:TE)(t:RZ):TG:=λv U H Q=>to U H λo H1=>ti U H1 λi H2=>t o i v H2 λH3=>Q U H3
theorem Vv{o i:Expr}{to ti:TE}{t:RZ}(ho:PE X o to)(hi:PE X i ti)(hs:QR X t)
  (ha:∀v,assign (.Subscript o i pos) X.env v=(do
   let ov <- holding [v] (eval o X.env)
   let iv <- holding [v,ov] (eval i X.env)
   standAt pos
   holding [v,ov,iv] (setItem ov iv v)
   release [v,ov,iv] []):=by intro _;rfl):PG X (.Subscript o i pos) (Y5 to ti t):=by
 intro aa s U H v u Q I r h;rw[ha];refine qk (wpAny_holding (thn (ho aa s U H _ I h) λov s1 ai=>?_));obtain⟨x,H1,I1,r1,q1⟩:= ai;refine qk (wpAny_holding (thn (hi aa s1 U H1 _ I1 q1) λiv s2 ai=>?_));obtain⟨y,H2,I2,r2,q2⟩:= ai;refine qk (wpAny_standAt (qk (wpAny_holding (thn (hs aa s2 U H2 x y v ov iv u _ I2 r1 r2 r q2) λ_ s3 ai=>?_))));obtain⟨H3,I3,q3⟩:= ai;exact wpAny_release ⟨U,H3,I3,q3⟩
def U5(te:TE)(g:TG):TS:=λD U H=>te U H λx H1=>g x U H1 D.nx
theorem Q9{tg e:Expr}{te:TE}{g:TG}(he:PE X e te)(hg:PG X tg g)(hs:swapsWithSole [tg] e pos.line X.env=pure false:=by rfl)(hw:swappedStores [tg] e X.env=pure none:=by rfl)
  (h1:(assignEach [tg] X.env).map (·.2)=[assign tg X.env]:=by rfl):PS X (.Assign [tg] e pos) (U5 te g):=by
 intro aa s U H D I h;refine wpAny_Assign_stores (thn (he aa s U H _ I h) λv s1 ai=>?_) hs hw;obtain⟨x,H1,I1,r1,q1⟩:= ai;rw[h1];exact thn (hg aa s1 U H1 x v _ I1 r1 q1) λ_ s2 q=>q
theorem Vn{i:Nat}{x:Str}{e:Expr}{te:TE}{ay:Pos}(hN:X.N.Nodup)(hi:X.N[i]?=some x)(hx:Loc X.env.scope x)(he:PE X e te)(hs:swapsWith e (some (.Name x ay)) pos.line X.env=pure false:=by rfl)(hf:X.fn x=true\/X.env.scope.names.lookup x=some .local:=by first|exact .inl rfl|exact .inr rfl|assumption) :
  PS X (.Assign [.Name x ay] e pos) (U5 te (Qh i)):=by
 intro aa s U H D I h;refine wpAny_Assign_Name (thn (he aa s U H _ I h) λv s1 ai=>?_) hs;obtain⟨y,H1,I1,r1,q1⟩:= ai;exact Eg I1 hN hi hx r1 (λs2 I2=>⟨_,H1,I2,q1⟩) hf
def Z6(i:Nat)(te:TE)(ti:TIp):TS:=λD U H=>∃x,U[i]?=some (some x)/\te U H λy H1=>ti x y H1 λz H2=>D.nx (U.set i (some z)) H2
theorem MP{i:Nat}{x:Str}{e:Expr}{te:TE}{op:Operator}{ti:TIp}{ay:Pos}(hN:X.N.Nodup)(hi:X.N[i]?=some x)(hx:Loc X.env.scope x)(he:PE X e te)(ho:PIp X op ti)(hf:X.fn x=true\/X.env.scope.names.lookup x=some .local:=by first|exact .inl rfl|exact .inr rfl|assumption) :
  PS X (.AugAssign (.Name x ay) op e pos) (Z6 i te ti):=by
 intro aa s U H D I h;obtain⟨v,e1,h⟩:=h;obtain⟨m,hn,hl⟩:=I.loc;have pL:Vis X.env.scope x:=by rcases hx with k|k;exact .inl k;exact .inr (.inl k)
 obtain⟨u,r,l⟩:=hl i x v hi e1 pL;refine wpAny_AugAssign_Name ?_;have go:wpAny (model X.prog X.w) X.A (eval e X.env) (λw dh=>wpAny (model X.prog X.w) X.A (inplaceOp op u w) (λr aN=>wpAny (model X.prog X.w) X.A (storeName X.env x r) (λ_=>SP X aa D .next) X.xe aN) X.xe dh) X.xe s:=by
  refine thn (he aa s U H _ I h) λw s1 ai=>?_
  obtain⟨y,H1,I1,r1,q1⟩:= ai;refine thn (ho aa s1 U H1 v y u w _ I1 r r1 q1) λz s2 ai=>?_
  obtain⟨zv,H2,I2,r2,q2⟩:= ai;exact Eg I2 hN hi hx r2 (λs3 I3=>⟨_,H2,I3,q2⟩) hf
 rcases l with⟨hk,hm⟩|⟨hk,c,hc,hcell⟩
 .exact wpAny_loadName_local I.ok.kind hk hn hm go
 .rcases hk with hk|hk
  .exact wpAny_loadName_cell I.ok.kind hk hc hcell go
  .rcases hx with k|k
   .have:X.env.scope.names.lookup x=some .free:=hk;rw[k]at this;cases this
   .have:X.env.scope.names.lookup x=some .free:=hk;rw[k]at this;cases this
noncomputable def ipI(f:Int->Int->Int):TIp:=λx y H Q=>∃i j,x=.int i/\y=.int j/\Q (.int (f i j)) H
theorem Wm:PIp X .Add (ipI λi j=>i+j):=by intro aa s U H x y v u Q I r1 r2 h;obtain⟨i,j,e1,e2,q⟩:=h;subst e1;subst e2;obtain⟨t,rfl⟩:=r1;obtain⟨t',rfl⟩:=r2;exact iadd_int ⟨.int _,H,I.tok _,⟨_,rfl⟩,q⟩
theorem Wk:PIp X .Sub (ipI λi j=>i-j):=by intro aa s U H x y v u Q I r1 r2 h;obtain⟨i,j,e1,e2,q⟩:=h;subst e1;subst e2;obtain⟨t,rfl⟩:=r1;obtain⟨t',rfl⟩:=r2;exact isub_int ⟨.int _,H,I.tok _,⟨_,rfl⟩,q⟩
end
section
variable{X:Cx}{pos:Pos}
def UW(c:TT)(tb:TS):TS:=λD U H=>∃W:Nat->St->Hp->Prop,(∃m,W m U H)/\∀m U H,W m U H ->
 c U H λb H1=>if b=true then ∃N:St->Hp->Prop,(∀ak H',N ak H'->∃m',m'<m/\W m' ak H')/\tb {D with nx:=N,ct:=N,bk:=D.nx} U H1 else D.nx U H1
theorem Pc{c:Expr}{body:List Stmt}{tc:TT}{tb:TS}(hp:PassesOwn (model X.prog X.w) X.A X.env X.xe)(hc:PT X c tc)(hb:PSs X body tb):PS X (.While c body [] pos) (UW tc tb):=by
 intro aa s U H D I h;obtain⟨W,⟨m0,w0⟩,turn⟩:=h;refine wpAny_While (codeAny_whileLoop (λn s'=>∃ak H',Inv X aa ak H' s'/\W n ak H') ?_ m0 ⟨U,H,I,w0⟩)
 rintro n s1 ⟨di,H1,I1,w1⟩
 refine wpAny_passesOwn hp (thn (hc aa s1 di H1 _ I1 (turn n di H1 w1)) λb s2 ai=>?_);obtain⟨H2,I2,q2⟩:= ai;cases b with
 |true =>obtain⟨N,hN,q2⟩:=q2;rw[if_pos rfl];refine wpAny_passesOwn hp (thn (hb aa s2 di H2 _ I2 q2) λf s3 q3=>?_);cases f with|next =>obtain⟨dm,H3,I3,n3⟩:=q3;obtain⟨m',hm,w3⟩:=hN dm H3 n3;exact⟨m',hm,dm,H3,I3,w3⟩|cont =>obtain⟨dm,H3,I3,n3⟩:=q3;obtain⟨m',hm,w3⟩:=hN dm H3 n3;exact⟨m',hm,dm,H3,I3,w3⟩|brk=>exact q3|ret v=>exact q3
 |false =>rw[if_neg qR];exact wpAny_execs_nil ⟨di,H2,I2,q2⟩
end
structure It where
 go:Nat->Hp->Prop
 zq:Nat->Hp->V->Hp->Prop
 stop:Nat->Hp->Prop
def Jr(X:Cx)(aa:List (Addr×Obj))(H:Hp)(b:Addr):Prop :=
 H b=none/\b≠X.env.locals/\b∉X.fs/\(b∈X.ex\/X.z8.heap.objs.size<=b)/\(∀x c,X.env.cells.lookup x=some c->c≠b)/\∀p∈X.pn++aa,p.1≠b
theorem Inv.TU{X:Cx}{aa:List (Addr×Obj)}{U:St}{H H':Hp}{s:Shared}{b:Addr}(I:Inv X aa U H s)(hb:s.heap.objs.size<=b)(hn:H' b=none):Jr X aa H' b:=by
 refine⟨hn,Nat.ne_of_gt (qP I.lt hb),I.Jad hb,.inr (qS I.sz hb),λx c e z=>?_,λp hp z=>?_⟩
 .obtain⟨v,q⟩:=I.cell x c e;exact absurd (qP q.lt (by rw[z];exact hb)) (rJ _)
 .exact absurd (qP (qM (I.pin p hp).1) (by rw[z];exact hb)) (rJ _)
structure Turn(P:Program)(w:World)(K:Fg)(tg:Expr)(J:It)(fp:List Addr)(it:Addr)(tn:Nat->Heap->Prop):Prop where
 mem:it∈fp
 obj:∀i h,tn i h->∀b∈fp,∃o,h.get? b=some o/\∀v,o.data≠.cell v
 keep:∀i h h',tn i h->(∀b∈fp,∀o,h.get? b=some o->h'.get? b=some o)->tn i h'
 item:∀(X:Cx),X.prog=P->X.w=w->X.K=K->X.calm=true->∀(i:Nat)(aa:List (Addr×Obj))(s:Shared)(U:St)(H:Hp)(E:Value->Shared->Prop),Inv X aa U H s->(∀b∈fp,Jr X aa H b)->tn i s.heap->J.go i H ->
  wpAny (model P w) X.A (pyNext (.ref it)) (λr s1=>∃u,r=some u /\
   wpAny (model P w) X.A (letOwnedTupleGo tg (.ref it) u) (λ_ s2=>∃x H',Inv X aa U H' s2/\RelV x u/\J.zq i H x H'/\tn (i+1) s2.heap/\∀b∈fp,H' b=none) E s1) E s
 done:∀(X:Cx),X.prog=P->X.w=w->X.K=K->X.calm=true->∀(i:Nat)(aa:List (Addr×Obj))(s:Shared)(U:St)(H:Hp)(E:Value->Shared->Prop),Inv X aa U H s->(∀b∈fp,Jr X aa H b)->tn i s.heap->J.stop i H ->
  wpAny (model P w) X.A (pyNext (.ref it)) (λr s1=>r=none/\Inv X aa U H s1) E s
 self:∀(A:Around)(i:Nat)(s:Shared)(Q:Value->Shared->Prop)(E:Value->Shared->Prop),tn i s.heap->Q (.ref it) s->wpAny (model P w) A (pyIter (.ref it)) Q E s
abbrev TI:=St->Hp->(It->Hp->Prop)->Prop
def PIE(X:Cx)(aa:List (Addr×Obj))(U:St)(tg:Expr)(R:It->Hp->Prop)(jg:Value)(s2:Shared):Prop :=
 ∃(it:Addr)(fp:List Addr)(tn:Nat->Heap->Prop)(J:It)(H':Hp),jg=.ref it/\Inv X aa U H' s2/\Turn X.prog X.w X.K tg J fp it tn/\tn 0 s2.heap/\(∀b∈fp,Jr X aa H' b)/\R J H'
def PI(X:Cx)(tg aw:Expr)(wi:TI):Prop :=
 ∀(aa:List (Addr×Obj))(s:Shared)(U:St)(H:Hp)(R:It->Hp->Prop),Inv X aa U H s->wi U H R ->
  wpAny (model X.prog X.w) X.A (eval aw X.env) (λv s1=>wpAny (model X.prog X.w) X.A (pyIter v) (PIE X aa U tg R) X.xe s1) X.xe s
theorem Qb{M:Model}{A:Around}{E:Value->Shared->Prop}{s:Shared}{tg:Expr}{it:Addr}{u:Value}{o:Obj}{n:String}{vs:Array Value}{Q:Unit->Shared->Prop}(ho:s.heap.get? it=some o)(hc:o.cls=.type n)(hd:o.data=.fields vs)
    (hn:["enumerate","zip","dict_itemiterator","dict_reverseitemiterator","odict_iterator","itertools.zip_longest","itertools.pairwise"].contains n=false) (hQ:Q () s):wpAny M A (letOwnedTupleGo tg (.ref it) u) Q E s:=by
  unfold letOwnedTupleGo;cases tg<;>first
    |exact qI hQ
    | (cases u <;> first
        |exact qI hQ
        | (refine qk (wpAny_load ho ?_)
           rw[hc,hd];show wpAny M A (if(["enumerate","zip","dict_itemiterator","dict_reverseitemiterator","odict_iterator","itertools.zip_longest","itertools.pairwise"].contains n&&vs[0]?==some (rawInt _))=true then _ else _) Q E s;rw[if_neg (by intro h;rw[hn,Bool.false_and]at h;cases h)];exact qI hQ))
def Itl(K:Fg)(a:Addr):It :=
 ⟨λi H=>∃xs x,SqL K H a xs/\xs[i]?=some x,λi H x H'=>H'=H/\∀xs,SqL K H a xs->xs[i]?=some x,λi H=>∃xs,SqL K H a xs/\xs.length<=i⟩
def Itt(K:Fg)(a:Addr):It :=
 ⟨λi H=>∃xs x,SqT K H a xs/\xs[i]?=some x,λi H x H'=>H'=H/\∀xs,SqT K H a xs->xs[i]?=some x,λi H=>∃xs,SqT K H a xs/\xs.length<=i⟩
def Itr(lo:Int)(n:Nat):It:=⟨λi _=>i<n,λi H x H'=>H'=H/\x=.int (lo+i),λi _=>n<=i⟩
theorem Mr{P:Program}{w:World}{K:Fg}{tg:Expr}(a it:Addr):Turn P w K tg (Itl K a) [it] it (λi h=>h.IsListIter it a i) where
 mem:=by simp
 obj:=λi h st b hb=>by
  have e:b=it:=by simpa using hb
  subst e;obtain⟨o,e,c,d⟩:=st;exact⟨o,e,λv z=>by rw[d]at z;cases z⟩
 keep:=λi h h' st k=>st.at λo e=>k it (by simp) o e
 item:=by
  intro X hP hw hK hc i aa s U H E I hf st hg;subst hP hw hK;obtain⟨xs,x,hq,hx⟩:=hg;obtain⟨ah,rv,p,hz⟩:=I.list hq;obtain⟨u,hu,ru⟩:=rv.get hx;obtain⟨f0,f1,f2,f3,f4,f5⟩:=hf it (by simp);refine wpAny_pyNext_list_item st p.isList (x:=u) (by simpa using hu) λh' dg sb=>?_
  have I1:Inv X aa U H {s with heap:=h' }:=I.turned (t':=s.toks) (λb o hb e=>(sb.2 b hb).trans e) f0 f1 f3 f4 f5;obtain⟨o,e,c,d⟩:=id dg;exact⟨u,rfl,Qb (s:={s with heap:=h' }) e c d (by decide) ⟨x,H,I1,ru,⟨rfl,λys hy=>by rw[I.Ky hy hq];exact hx⟩,dg,λb hb=>(hf b hb).1⟩⟩
 done:=by intro X hP hw hK hc i aa s U H E I hf st hg;subst hP hw hK;obtain⟨xs,hq,hx⟩:=hg;obtain⟨ah,rv,p,hz⟩:=I.list hq;obtain⟨f0,f1,f2,f3,f4,f5⟩:=hf it (by simp);have hl:=rv.length;exact wpAny_pyNext_list_end (I.ok.hd hc) st p.isList (by simp;lia) λh' eb=>⟨rfl,I.turned (t':=s.toks) (λb o hb e=>eb b o hb e) f0 f1 f3 f4 f5⟩
 self:=λ_ _ _ _ _ st h=>wpAny_pyIter_listiter st h
theorem Lm{P:Program}{w:World}{K:Fg}{tg:Expr}(a it:Addr):Turn P w K tg (Itt K a) [it] it (λi h=>h.IsTupleIter it a i) where
 mem:=by simp
 obj:=λi h st b hb=>by
  have e:b=it:=by simpa using hb
  subst e;obtain⟨o,e,c,d⟩:=st;exact⟨o,e,λv z=>by rw[d]at z;cases z⟩
 keep:=λi h h' st k=>st.at λo e=>k it (by simp) o e
 item:=by
  intro X hP hw hK hc i aa s U H E I hf st hg;subst hP hw hK;obtain⟨xs,x,hq,hx⟩:=hg;obtain⟨ah,rv,p,hz⟩:=I.tuple hq;obtain⟨u,hu,ru⟩:=rv.get hx;obtain⟨f0,f1,f2,f3,f4,f5⟩:=hf it (by simp);refine wpAny_pyNext_tuple_item st (show s.heap.IsTuple a ah.toArray from p) (x:=u) (by simpa using hu) λh' dg sb=>?_
  have I1:Inv X aa U H {s with heap:=h' }:=I.turned (t':=s.toks) (λb o hb e=>(sb.2 b hb).trans e) f0 f1 f3 f4 f5;obtain⟨o,e,c,d⟩:=id dg;exact⟨u,rfl,Qb (s:={s with heap:=h' }) e c d (by decide) ⟨x,H,I1,ru,⟨rfl,λys hy=>by rw[I.Ig hy hq];exact hx⟩,dg,λb hb=>(hf b hb).1⟩⟩
 done:=by intro X hP hw hK hc i aa s U H E I hf st hg;subst hP hw hK;obtain⟨xs,hq,hx⟩:=hg;obtain⟨ah,rv,p,hz⟩:=I.tuple hq;obtain⟨f0,f1,f2,f3,f4,f5⟩:=hf it (by simp);have hl:=rv.length;exact wpAny_pyNext_tuple_end (I.ok.hd hc) st (show s.heap.IsTuple a ah.toArray from p) (by simp;lia) λh' eb=>⟨rfl,I.turned (t':=s.toks) (λb o hb e=>eb b o hb e) f0 f1 f3 f4 f5⟩
 self:=λ_ _ _ _ _ st h=>wpAny_pyIter_tupleiter st h
theorem Ln{P:Program}{w:World}{K:Fg}{tg:Expr}(it:Addr)(lo:Int)(n:Nat):Turn P w K tg (Itr lo n) [it] it (λi h=>IsRangeIter h it (lo+(i:Nat)*1) ((n:Int)-(i:Nat)) 1) where
 mem:=by simp
 obj:=λi h st b hb=>by
  have e:b=it:=by simpa using hb
  subst e;exact⟨_,st,λv z=>by have z':Data.fields _=Data.cell v:=z;cases z'⟩
 keep:=λi h h' st k=>k it (by simp) _ st
 item:=by
  intro X hP hw hK hc i aa s U H E I hf st hg;subst hP hw hK;obtain⟨f0,f1,f2,f3,f4,f5⟩:=hf it (by simp);have W:=Walks.range (prog:=X.prog) (w:=X.w) (I.ok.hd hc) it lo 1 n;refine W.item i s _ _ hg st λv h' tk hv dg kk=>?_
  obtain⟨t,rfl⟩:=hv;have I1:Inv X aa U H {s with heap:=h',toks:=tk}:=I.turned (λb o hb e=>kk b o (by simpa using hb) e) f0 f1 f3 f4 f5;refine⟨_,rfl,Qb (s:={s with heap:=h',toks:=tk}) (n:="range_iterator") dg rfl rfl (by decide) ⟨.int (lo+i),H,I1,⟨t,?_⟩,⟨rfl,rfl⟩,dg,λb hb=>(hf b hb).1⟩⟩;rw[Int.mul_one]
 done:=by intro X hP hw hK hc i aa s U H E I hf st hg;subst hP hw hK;obtain⟨f0,f1,f2,f3,f4,f5⟩:=hf it (by simp);exact wpAny_pyNext_range_end (I.ok.hd hc) st (by have:n<=i:=hg;lia) λh' eb=>⟨rfl,I.turned (t':=s.toks) (λb o hb e=>eb b o hb e) f0 f1 f3 f4 f5⟩
 self:=λ_ _ _ _ _ st h=>wpAny_pyIter_rangeiter st h
section
variable{X:Cx}{tg:Expr}
theorem O4{aa:List (Addr×Obj)}{U:St}{H:Hp}{s:Shared}{R:It->Hp->Prop}{E:Value->Shared->Prop}{lo hi:Int}{t u v:Tok}{tk:Nat}(I:Inv X aa U H s)(h1:-(2^62)<=lo)(h2:lo<2^62)(h3:-(2^62)<=hi)(h4:hi<2^62)
  (q:R (Itr lo (hi-lo).toNat) H):wpAny (model X.prog X.w) X.A (pyIter (.ref s.heap.objs.size)) (PIE X aa U tg R) E {s with heap:=s.heap.push {cls:=.type "range",data:=.fields #[.int lo t,.int hi u,.int 1 v]},toks:=tk}:=by
 refine wpAny_pyIter_range (IsRange.new ..) (small_one h1 h2 h3 h4) ?_;have I1:Inv X aa U H {s with heap:=s.heap.push {cls:=.type "range",data:=.fields #[.int lo t,.int hi u,.int 1 v]},toks:=tk}:=I.kept λb o e=>ql _ e
 refine⟨(s.heap.push {cls:=.type "range",data:=.fields #[.int lo t,.int hi u,.int 1 v]}).objs.size,[(s.heap.push {cls:=.type "range",data:=.fields #[.int lo t,.int hi u,.int 1 v]}).objs.size],_,_,H,rfl,
  I1.kept (t':=tk) λb o e=>ql _ e,Ln _ lo (hi-lo).toNat,?_,λb hb=>?_,q⟩
 .have e1:lo+((0:Nat):Int)*1=lo:=by simp
  have e2:(((hi-lo).toNat:Nat):Int)-((0:Nat):Int)=Builtin.Range.rangeSize lo hi 1:=by rw[rangeSize_one];split<;>lia
  show IsRangeIter _ _ (lo+((0:Nat):Int)*1) ((((hi-lo).toNat:Nat):Int)-((0:Nat):Int)) 1;rw[e1,e2];exact qO _ rfl
 .have e:b=(s.heap.push {cls:=.type "range",data:=.fields #[.int lo t,.int hi u,.int 1 v]}).objs.size:=by simpa using hb
  subst e;exact I1.TU (qH _) (I1.z9.fresh (qH _))
def YY(ta:TA):TI:=λU H R=>ta U H λvs H1=>∃j:Int,vs=[.int j]/\-(2^62)<=j/\j<2^62/\R (Itr 0 j.toNat) H1
theorem MT{a:Expr}{ta:TA}{p pos:Pos}(hg:Gl X "range")(hm:X.mg "range"=none)(ha:PA X [a] ta)(hs:starEach [a] X.env=[(false,eval a X.env)]:=by rfl):PI X tg (.Call (.Name "range" p) [a] [] pos) (YY ta):=by intro aa s U H R I h;refine Call_ (Fb I hg hm boot_range (callWith_type1 (thn (ha pos aa s U H _ I h) λus s1 ai=>?_) hs rfl));obtain⟨vs,H1,I1,r1,q1⟩:= ai;obtain⟨j,e,q1,q2,q⟩:=q1;subst e;cases r1 with|cons r rr =>cases rr;obtain⟨t,rfl⟩:=r;exact call_range_1 (O4 I1 (by lia) (by lia) q1 q2 (by simpa using q))
def Z4(wi:TI)(g:TG)(tb:TS):TS:=λD U H=>wi U H λJ H1=>∃W:Nat->Nat->St->Hp->Prop,(∃m,W 0 m U H1)/\∀i m U H,W i m U H ->
 (J.stop i H/\D.nx U H)\/(J.go i H/\∃N:St->Hp->Prop,(∀ak H',N ak H'->∃m',m'<m/\W (i+1) m' ak H')/\∀x H',J.zq i H x H'->g x U H' λeE H2=>tb {D with nx:=N,ct:=N,bk:=D.nx} eE H2)
noncomputable def Iu(fp:List Addr)(h:Heap):List (Addr×Obj):=fp.filterMap λb=>(h.get? b).map λo=>(b,o)
theorem DP{fp:List Addr}{h:Heap}{b:Addr}{o:Obj}(hb:b∈fp)(e:h.get? b=some o):(b,o)∈Iu fp h:=tm.mpr ⟨b,hb,by rw[e];rfl⟩
theorem Nc{fp:List Addr}{h:Heap}{p:Addr×Obj}(hp:p∈Iu fp h):p.1∈fp/\h.get? p.1=some p.2:=by obtain⟨b,hb,e⟩:=tm.mp hp;cases q:h.get? b with|none=>rw[q]at e;cases e|some o =>rw[q]at e;have e':(b,o)=p:=Option.some.inj e;subst e';exact⟨hb,q⟩
theorem Inv.pinned{aa:List (Addr×Obj)}{U:St}{H:Hp}{s:Shared}{fp:List Addr}(I:Inv X aa U H s)(hf:∀b∈fp,Jr X aa H b)(ho:∀b∈fp,∃o,s.heap.get? b=some o/\∀v,o.data≠.cell v):Inv X (aa++Iu fp s.heap) U H s :=
 I.Hv λp hp=>(qC.mp hp).elim (λz=>I.pin p (qB _ z)) λz=>by obtain⟨hb,e⟩:=Nc z;obtain⟨f0,f1,f2,_⟩:=hf p.1 hb;obtain⟨o,e',d⟩:=ho p.1 hb;rw[e]at e';cases e';exact⟨e,f0,f1,f2,d⟩
theorem Inv.Fl{aa pl:List (Addr×Obj)}{U:St}{H:Hp}{s:Shared}(I:Inv X (aa++pl) U H s):Inv X aa U H s:=I.Hv λp hp=>I.pin p (qB _ (qG _ hp))
theorem Vp{aw:Expr}{body:List Stmt}{wi:TI}{g:TG}{tb:TS}{pos:Pos}(hp:PassesOwn (model X.prog X.w) X.A X.env X.xe)(hc:X.calm=true)(hi:PI X tg aw wi)(hg:PG X tg g)(hb:PSs X body tb)
  (hs:∀x,foldedSetIterable aw X.env x=pure x:=by intro _;rfl):PS X (.For tg aw body [] pos) (Z4 wi g tb):=by
 intro aa s U H D I h;refine wpAny_For (thn (hi aa s U H _ I h) λv s1 h1=>thn h1 λjg s2 h2=>?_) hs;obtain⟨it,fp,tn,J,H2,e,I2,T,pI,f2,W,⟨m0,w0⟩,turn⟩:=h2;subst e;have cL:∀{H':Hp},(∀b∈fp,H' b=none)->∀b∈fp,Jr X aa H' b:=λhn b hb=>⟨hn b hb,(f2 b hb).2⟩
 refine codeAny_forLoop_any (λn s'=>∃i ak H',Inv X aa ak H' s'/\tn i s'.heap/\(∀b∈fp,H' b=none)/\W i n ak H') ?_ m0 ⟨0,U,H2,I2,pI,λb hb=>(f2 b hb).1,w0⟩
 rintro n s3 ⟨i,dm,H3,I3,st3,fr3,w3⟩
 rcases turn i n dm H3 w3 with⟨stop,qn⟩|⟨go,N,hN,step⟩
 .refine wpAny_passesOwn hp (thn (T.done X rfl rfl rfl hc i aa s3 dm H3 X.xe I3 (cL fr3) st3 stop) λr s4 ai=>?_);obtain⟨hr,I4⟩:= ai;subst hr;exact wpAny_execs_nil ⟨dm,H3,I4,qn⟩
 .refine wpAny_passesOwn hp (thn (T.item X rfl rfl rfl hc i aa s3 dm H3 X.xe I3 (cL fr3) st3 go) λr s4 ai=>?_);obtain⟨u,hr,h4⟩:= ai;subst hr;refine wpAny_passesOwn hp (thn h4 λ_ s5 ai=>?_);obtain⟨x,H5,I5,r5,y5,kB,nG⟩:= ai;have mG:=I5.pinned (cL nG) (T.obj _ _ kB);refine wpAny_passesOwn hp (thn (hg _ s5 dm H5 x u _ mG r5 (step x H5 y5)) λ_ s6 ai=>?_);obtain⟨pN,H6,I6,q6⟩:= ai;refine wpAny_passesOwn hp (thn (hb _ s6 pN H6 _ I6 q6) λf s7 q7=>?_);have again:∀{eF:St}{H7:Hp},Inv X (aa++Iu fp s5.heap) eF H7 s7->N eF H7->∃m,m<n/\∃i ak H',Inv X aa ak H' s7/\tn i s7.heap/\(∀b∈fp,H' b=none)/\W i m ak H':=λ{eF H7} I7 n7=>by obtain⟨m',hm,w7⟩:=hN eF H7 n7;refine⟨m',hm,i+1,eF,H7,I7.Fl,T.keep _ _ _ kB λb hb o e=>(I7.pin (b,o) (qB _ (qB _ (DP hb e)))).1,λb hb=>?_,w7⟩;obtain⟨o,e,d⟩:=T.obj _ _ kB b hb;exact(I7.pin (b,o) (qB _ (qB _ (DP hb e)))).2.1
  cases f with|next=>obtain⟨eF,H7,I7,n7⟩:=q7;exact again I7 n7|cont=>obtain⟨eF,H7,I7,n7⟩:=q7;exact again I7 n7|brk=>obtain⟨eF,H7,I7,q7⟩:=q7;exact⟨eF,H7,I7.Fl,q7⟩|ret v=>obtain⟨x7,eF,H7,I7,r7,q7⟩:=q7;exact⟨x7,eF,H7,I7.Fl,r7,q7⟩
end
abbrev R2:=V->V->Hp->VK->Prop
def OpR(X:Cx)(f:Value->Value->Sem Value)(r:R2):Prop :=
 ∀(aa:List (Addr×Obj))(s:Shared)(U:St)(H:Hp)(x y:V)(v u:Value)(Q:VK),Inv X aa U H s->RelV x v->RelV y u->r x y H Q ->
  wpAny (model X.prog X.w) X.A (f v u) (EP X aa U Q) X.xe s
def UnR(X:Cx)(f:Value->Sem Value)(r:V->Hp->VK->Prop):Prop :=
 ∀(aa:List (Addr×Obj))(s:Shared)(U:St)(H:Hp)(x:V)(v:Value)(Q:VK),Inv X aa U H s->RelV x v->r x H Q ->
  wpAny (model X.prog X.w) X.A (f v) (EP X aa U Q) X.xe s
def CO(X:Cx)(f:Value)(r:List V->Hp->VK->Prop):Prop :=
 ∀(aa:List (Addr×Obj))(s:Shared)(U:St)(H:Hp)(xs:List V)(us:List Value)(Q:VK),Inv X aa U H s->Vals xs us->r xs H Q ->
  wpAny (model X.prog X.w) X.A (call f us) (EP X aa U Q) X.xe s
def Jau(X:Cx)(r:V->Hp->(Bool->Hp->Prop)->Prop):Prop :=
 ∀(aa:List (Addr×Obj))(s:Shared)(U:St)(H:Hp)(x:V)(v:Value)(Q:Bool->Hp->Prop),Inv X aa U H s->RelV x v->r x H Q ->
  wpAny (model X.prog X.w) X.A (truthy v) (TP X aa U Q) X.xe s
def tOp(r:R2)(ta tb:TE):TE:=λU H Q=>ta U H λx H1=>tb U H1 λy H2=>r x y H2 Q
def tUn(r:V->Hp->VK->Prop)(ta:TE):TE:=λU H Q=>ta U H λx H1=>r x H1 Q
def rI(C:Int->Int->Prop)(g:Int->Int->V):R2:=λx y H Q=>∃i j,x=.int i/\y=.int j/\C i j/\Q (g i j) H
def rI0(g:Int->Int->V):R2:=λx y H Q=>∃i j,x=.int i/\y=.int j/\Q (g i j) H
def rU(g:Int->V):V->Hp->VK->Prop:=λx H Q=>∃i,x=.int i/\Q (g i) H
section
variable{X:Cx}{a b c:Expr}{ta tb tc:TE}{pos:Pos}
theorem Zz(ha:PE X a ta)(hb:PE X b tb){aa:List (Addr×Obj)}{s:Shared}{U:St}{H:Hp}{R:V->V->Hp->Prop}(I:Inv X aa U H s)
  (h:ta U H λx H1=>tb U H1 λy H2=>R x y H2) {Q:Value->Shared->Prop} {f:Value->Value->Sem Value}
  (hf:∀v u s2 x y H2,Inv X aa U H2 s2->RelV x v->RelV y u->R x y H2->wpAny (model X.prog X.w) X.A (f v u) Q X.xe s2) :
  wpAny (model X.prog X.w) X.A (eval a X.env) (λv ar=>wpAny (model X.prog X.w) X.A (eval b X.env) (λu dh=>wpAny (model X.prog X.w) X.A (f v u) Q X.xe dh) X.xe ar) X.xe s:=by
 refine thn (ha aa s U H _ I h) λv s1 ai=>?_
 obtain⟨x,H1,I1,r1,q1⟩:= ai;refine thn (hb aa s1 U H1 _ I1 q1) λu s2 ai=>?_
 obtain⟨y,H2,I2,r2,q2⟩:= ai;exact hf v u s2 x y H2 I2 r1 r2 q2
theorem Yv{op:Operator}{r:R2}(ho:OpR X (binaryOp op) r)(ha:PE X a ta)(hb:PE X b tb):PE X (.BinOp a op b pos) (tOp r ta tb):=by intro aa s U H Q I h;exact wpAny_BinOp (Zz ha hb I h λv u s2 x y H2 I2 rx ry q=>ho aa s2 U H2 x y v u Q I2 rx ry q)
theorem Vx{op:UnaryOp}{r:V->Hp->VK->Prop}(ho:UnR X (unaryOp op) r)(ha:PE X a ta):PE X (.UnaryOp op a pos) (tUn r ta):=by intro aa s U H Q I h;exact UnaryOp_ (thn (ha aa s U H _ I h) λv s1 ⟨x,H1,I1,r1,q1⟩=>ho aa s1 U H1 x v Q I1 r1 q1)
theorem opI{f:Value->Value->Sem Value}{C:Int->Int->Prop}{g:Int->Int->Int}
  (cK:∀(i j:Int)(t u:Tok)(s:Shared)(Q:Value->Shared->Prop)(E:Value->Shared->Prop),C i j->Q (.int (g i j) s.toks) {s with toks:=s.toks+1}->wpAny (model X.prog X.w) X.A (f (.int i t) (.int j u)) Q E s) :
  OpR X f (rI C λi j=>.int (g i j)):=by
 intro aa s U H x y v u Q I rx ry h;obtain⟨i,j,rfl,rfl,hc,q⟩:=h;obtain⟨t,rfl⟩:=rx;obtain⟨t',rfl⟩:=ry;exact cK i j t t' s _ _ hc ⟨.int (g i j),H,I.tok _,⟨_,rfl⟩,q⟩
theorem ZQ{f:Value->Value->Sem Value}{g:Int->Int->Int}
  (cK:∀(i j:Int)(t u:Tok)(s:Shared)(Q:Value->Shared->Prop)(E:Value->Shared->Prop),Q (.int (g i j) s.toks) {s with toks:=s.toks+1}->wpAny (model X.prog X.w) X.A (f (.int i t) (.int j u)) Q E s) :
  OpR X f (rI0 λi j=>.int (g i j)):=by
 intro aa s U H x y v u Q I rx ry h;obtain⟨i,j,rfl,rfl,q⟩:=h;obtain⟨t,rfl⟩:=rx;obtain⟨t',rfl⟩:=ry;exact cK i j t t' s _ _ ⟨.int (g i j),H,I.tok _,⟨_,rfl⟩,q⟩
theorem YG{f:Value->Value->Sem Value}{g:Int->Int->Bool}
  (cK:∀(i j:Int)(t u:Tok)(s:Shared)(Q:Value->Shared->Prop)(E:Value->Shared->Prop),Q (.bool (g i j)) s->wpAny (model X.prog X.w) X.A (f (.int i t) (.int j u)) Q E s) :
  OpR X f (rI0 λi j=>.o (g i j)):=by
 intro aa s U H x y v u Q I rx ry h;obtain⟨i,j,rfl,rfl,q⟩:=h;obtain⟨t,rfl⟩:=rx;obtain⟨t',rfl⟩:=ry;exact cK i j t t' s _ _ ⟨.o (g i j),H,I,rfl,q⟩
def ZX(i j:Int):Prop:=0<j/\j<1073741824
def ZW(i j:Int):Prop:=0<=j/\j<=1000000/\i.natAbs<2^64
def X9(i j:Int):Prop:=(-(2^64)<i/\i<2^64)\/(-(2^64)<j/\j<2^64)
theorem X9.ok{i j:Int}(h:X9 i j):IntMulOk i j:=by
 rcases h with⟨h1,h2⟩|⟨h1,h2⟩
 .exact .of_left (intBits_le_64 h1 h2)
 .exact .of_right (intBits_le_64 h1 h2)
theorem VO:OpR X (binaryOp .Add) (rI0 λi j=>.int (i+j)):=ZQ λ_ _ _ _ _ _ _ q=>add_int q
theorem VF:OpR X (binaryOp .Sub) (rI0 λi j=>.int (i-j)):=ZQ λ_ _ _ _ _ _ _ q=>sub_int q
theorem SF:OpR X (binaryOp .FloorDiv) (rI ZX λi j=>.int (i/j)):=opI λi j _ _ _ _ _ hc q=>by have h1:(0:Int)<j:=hc.1;have h2:j<1073741824:=hc.2;exact floordiv_int (by lia) (by rw[Int.fdiv_eq_ediv_of_nonneg i (by lia)];exact q) (.inl (PyProof.noPylong_small (by lia)))
theorem VI:OpR X (binaryOp .Mod) (rI (λ_ j=>0<j) λi j=>.int (i%j)):=opI λi j _ _ _ _ _ hc q=>by have h1:(0:Int)<j:=hc;exact mod_int' (by lia) (by rw[Int.fmod_eq_emod_of_nonneg i (by lia)];exact q)
theorem VG:OpR X (binaryOp .Pow) (rI ZW λi j=>.int (i^j.toNat)):=opI λ_ _ _ _ _ _ _ hc q=>pow_int_small hc.1 hc.2.1 hc.2.2 q
theorem unI{f:Value->Sem Value}{g:Int->Int}
  (cK:∀(i:Int)(t:Tok)(s:Shared)(Q:Value->Shared->Prop)(E:Value->Shared->Prop),Q (.int (g i) s.toks) {s with toks:=s.toks+1}->wpAny (model X.prog X.w) X.A (f (.int i t)) Q E s) :
  UnR X f (rU λi=>.int (g i)):=by
 intro aa s U H x v Q I rx h;obtain⟨i,rfl,q⟩:=h;obtain⟨t,rfl⟩:=rx;exact cK i t s _ _ ⟨.int (g i),H,I.tok _,⟨_,rfl⟩,q⟩
theorem QU:UnR X (unaryOp .USub) (rU λi=>.int (-i)):=unI λ_ _ _ _ _ q=>neg_int q
end
noncomputable def Jx:V->V->Bool
 |.l,.l=>true|.l,.int _=>true|.int _,.l=>true|.l,.o _=>true|.o _,.l=>true|.l,.str _=>true|.str _,.l=>true
 |.int _,.int _=>true|.o _,.o _=>true|.str _,.str _=>true|.zQ _,.zQ _=>true
 |.int _,.str _=>true|.str _,.int _=>true|.o _,.str _=>true|.str _,.o _=>true
 |_,_=>false
def rEq:R2:=λx y H Q=>Jx x y=true/\Q (.o (decide (x=y))) H
def rNe:R2:=λx y H Q=>Jx x y=true/\Q (.o (!decide (x=y))) H
theorem Oi{i j:Int}:decide (V.int i=V.int j)=(i==j):=by rw[rL];simp
theorem RO{i j:Bool}:decide (V.o i=V.o j)=(i==j):=by rw[rL];simp
theorem Oh{i j:Str}:decide (V.str i=V.str j)=(i==j):=by rw[rL];simp
theorem Oj{i j:Array UInt8}:decide (V.zQ i=V.zQ j)=(i.toList==j.toList):=by rw[rL];cases i;cases j;simp
section
variable{X:Cx}{a b c:Expr}{ta tb tc:TE}{pos:Pos}
theorem A2{aa:List (Addr×Obj)}{U:St}{H:Hp}{s:Shared}{Q:VK}{k k':Bool}(I:Inv X aa U H s)(q:Q (.o k) H)(e:k=k'):EP X aa U Q (.bool k') s:=by subst e;exact⟨.o k,H,I,rfl,q⟩
theorem VM:OpR X (compareOp .Eq) rEq:=by
 intro aa s U H x y v u Q I rx ry h;obtain⟨hs,q⟩:=h;cases x with
 |l =>cases rx;cases y with|l=>cases ry;exact PySem.EqNone.eq_none_none (A2 I q (by simp))|o j=>cases ry;exact PySem.EqNone.eq_none_bool (A2 I q (by simp))|int j=>obtain⟨t',rfl⟩:=ry;exact PySem.EqNone.eq_none_int (A2 I q (by simp))|str j=>obtain⟨t',rfl⟩:=ry;exact PySem.EqNone.eq_none_str (A2 I q (by simp))|_=>exact absurd (show false=true from hs) qR
 |o i =>cases rx;cases y with|l=>cases ry;exact PySem.EqNone.eq_bool_none (A2 I q (by simp))|o j=>cases ry;exact eq_bool (A2 I q RO)|str j=>obtain⟨t',rfl⟩:=ry;exact PySem.EqMixed.eq_bool_str (A2 I q (by simp))|_=>exact absurd (show false=true from hs) qR
 |int i =>obtain⟨t,rfl⟩:=rx;cases y with|l=>cases ry;exact PySem.EqNone.eq_int_none (A2 I q (by simp))|int j=>obtain⟨t',rfl⟩:=ry;exact eq_int (A2 I q Oi)|str j=>obtain⟨t',rfl⟩:=ry;exact PySem.EqMixed.eq_int_str (A2 I q (by simp))|_=>exact absurd (show false=true from hs) qR
 |str i =>obtain⟨t,rfl⟩:=rx;cases y with|l=>cases ry;exact PySem.EqNone.eq_str_none (A2 I q (by simp))|o j=>cases ry;exact PySem.EqMixed.eq_str_bool (A2 I q (by simp))|int j=>obtain⟨t',rfl⟩:=ry;exact PySem.EqMixed.eq_str_int (A2 I q (by simp))|str j=>obtain⟨t',rfl⟩:=ry;exact eq_str (A2 I q Oh)|_=>exact absurd (show false=true from hs) qR
 |zQ i =>obtain⟨t,rfl⟩:=rx;cases y with|zQ j=>obtain⟨t',rfl⟩:=ry;exact PySem.W.eq_bytes (A2 I q Oj)|_=>exact absurd (show false=true from hs) qR
 |_=>cases y<;>exact absurd (show false=true from hs) qR
theorem YD:OpR X (compareOp .NotEq) rNe:=by
 intro aa s U H x y v u Q I rx ry h;obtain⟨hs,q⟩:=h;cases x with
 |l =>cases rx;cases y with|l=>cases ry;exact PySem.EqNone.ne_none_none (A2 I q (by simp))|o j=>cases ry;exact PySem.EqNone.ne_none_bool (A2 I q (by simp))|int j=>obtain⟨t',rfl⟩:=ry;exact PySem.EqNone.ne_none_int (A2 I q (by simp))|str j=>obtain⟨t',rfl⟩:=ry;exact PySem.EqNone.ne_none_str (A2 I q (by simp))|_=>exact absurd (show false=true from hs) qR
 |o i =>cases rx;cases y with|l=>cases ry;exact PySem.EqNone.ne_bool_none (A2 I q (by simp))|o j=>cases ry;exact ne_bool (A2 I q (congrArg not RO))|str j=>obtain⟨t',rfl⟩:=ry;exact PySem.EqMixed.ne_bool_str (A2 I q (by simp))|_=>exact absurd (show false=true from hs) qR
 |int i =>obtain⟨t,rfl⟩:=rx;cases y with|l=>cases ry;exact PySem.EqNone.ne_int_none (A2 I q (by simp))|int j=>obtain⟨t',rfl⟩:=ry;exact ne_int (A2 I q (congrArg not Oi))|str j=>obtain⟨t',rfl⟩:=ry;exact PySem.EqMixed.ne_int_str (A2 I q (by simp))|_=>exact absurd (show false=true from hs) qR
 |str i =>obtain⟨t,rfl⟩:=rx;cases y with|l=>cases ry;exact PySem.EqNone.ne_str_none (A2 I q (by simp))|o j=>cases ry;exact PySem.EqMixed.ne_str_bool (A2 I q (by simp))|int j=>obtain⟨t',rfl⟩:=ry;exact PySem.EqMixed.ne_str_int (A2 I q (by simp))|str j=>obtain⟨t',rfl⟩:=ry;exact ne_str (A2 I q (congrArg not Oh))|_=>exact absurd (show false=true from hs) qR
 |zQ i =>obtain⟨t,rfl⟩:=rx;cases y with|zQ j=>obtain⟨t',rfl⟩:=ry;exact PySem.W.ne_bytes (A2 I q (congrArg not Oj))|_=>exact absurd (show false=true from hs) qR
 |_=>cases y<;>exact absurd (show false=true from hs) qR
theorem YE:OpR X (compareOp .Lt) (rI0 λi j=>.o (decide (i<j))):=YG λ_ _ _ _ _ _ _ q=>lt_int q
theorem VJ:OpR X (compareOp .LtE) (rI0 λi j=>.o (decide (i<=j))):=YG λ_ _ _ _ _ _ _ q=>le_int q
theorem YF:OpR X (compareOp .Gt) (rI0 λi j=>.o (decide (j<i))):=YG λ_ _ _ _ _ _ _ q=>gt_int q
theorem Iz:OpR X (compareOp .In) (λx y H Q=>∃i j,x=.str i/\y=.str j/\Q (.o (!(Builtin.Str.occurrences j i 0 j.length 1).isEmpty)) H):=by intro aa s U H x y v u Q I rx ry h;obtain⟨i,j,rfl,rfl,q⟩:=h;obtain⟨t,rfl⟩:=rx;obtain⟨t',rfl⟩:=ry;exact in_str (A2 I q rfl)
theorem VL:OpR X (compareOp .Is) (λx y H Q=>y=.l/\Q (.o (decide (x=.l))) H):=by
 intro aa s U H x y v u Q I rx ry h;obtain⟨rfl,q⟩:=h;cases ry;refine is_none_gen (A2 I q ?_);cases x<;>first
  |(cases rx;rfl)
  |(obtain⟨t,rfl⟩:=rx;rfl)
theorem SD:OpR X (compareOp .IsNot) (λx y H Q=>y=.l/\Q (.o (!decide (x=.l))) H):=by
 intro aa s U H x y v u Q I rx ry h;obtain⟨rfl,q⟩:=h;cases ry;refine isnot_none_gen (A2 I q ?_);cases x<;>first
  |(cases rx;rfl)
  |(obtain⟨t,rfl⟩:=rx;rfl)
theorem DZ(b:Expr){op:CmpOp}(h:op≠.In:=by decide)(h2:op≠.NotIn:=by decide):behindInMarks op b=false:=by
 have e1:(op==CmpOp.In)=false:=by cases op<;>first|rfl|exact absurd rfl h
 have e2:(op==CmpOp.NotIn)=false:=by cases op<;>first|rfl|exact absurd rfl h2
 cases b<;>simp[behindInMarks,e1,e2]
theorem Sx{op:CmpOp}{r:R2}(ho:OpR X (compareOp op) r)(ha:PE X a ta)(hb:PE X b tb)(hm:behindInMarks op b=false):PE X (.Compare a [op] [b] pos) (tOp r ta tb):=by intro aa s U H Q I h;exact wpAny_Compare1 (Zz ha hb I h λv u s2 x y H2 I2 rx ry q=>ho aa s2 U H2 x y v u Q I2 rx ry q) hm
def Sb(t:TE):TT:=λU H Q=>t U H λx H'=>∃k,x=.o k/\Q k H'
theorem Hr{op:CmpOp}{r:R2}(ho:OpR X (compareOp op) r)(ha:PE X a ta)(hb:PE X b tb)(hm:behindInMarks op b=false):PT X (.Compare a [op] [b] pos) (Sb (tOp r ta tb)):=by intro aa s U H Q I h;refine wpAny_isTrue_Compare1 (thn (ha aa s U H _ I h) λv s1 ⟨x,H1,I1,r1,q1⟩=>thn (hb aa s1 U H1 _ I1 q1) λu s2 ⟨y,H2,I2,r2,q2⟩ =>thn (ho aa s2 U H2 x y v u _ I2 r1 r2 q2) λc s3 ⟨z,H3,I3,r3,k,e,q3⟩=>?_) hm;subst e;cases r3;exact wpAny_truthy_bool ⟨H3,I3,q3⟩
def Ms(r r':R2)(ta tb tc:TE):TE:=λU H Q=>ta U H λx H1=>tb U H1 λy H2=>r x y H2 λz H3=>∃k,z=.o k /\
 (if k=true then tc U H3 λw' H4=>r' y w' H4 Q else Q (.o false) H3)
theorem Pa{op gT:CmpOp}{r r':R2}(ho:OpR X (compareOp op) r)(bL:OpR X (compareOp gT) r')(ha:PE X a ta)(hb:PE X b tb)(hc:PE X c tc)
  (hm:lastMarks [op,gT] [b,c]=false:=by with_unfolding_all rfl):PT X (.Compare a [op,gT] [b,c] pos) (Sb (Ms r r' ta tb tc)):=by
 intro aa s U H Q I h;refine isTrue_chain (thn (ha aa s U H _ I h) λv s1 ⟨x,H1,I1,r1,q1⟩=>test_link (thn (hb aa s1 U H1 _ I1 q1) λu s2 ⟨y,H2,I2,r2,q2⟩ =>thn (ho aa s2 U H2 x y v u _ I2 r1 r2 q2) λd s3 ⟨z,H3,I3,r3,k,e,q3⟩=>?_)) hm;subst e;cases r3;refine wpAny_truthy_bool ?_;cases k with|false =>obtain⟨k',e',q'⟩:=q3;cases e';exact ite_ff ⟨H3,I3,q'⟩|true =>refine ite_tt (test_last (thn (hc aa s3 U H3 _ I3 q3) λw' s4 ⟨z',H4,I4,r4,q4⟩=>thn (bL aa s4 U H4 y z' u w' _ I4 r2 r4 q4) λd' s5 ai=>?_));obtain⟨z2,H5,I5,r5,k2,e2,q5⟩:= ai;subst e2;cases r5;exact wpAny_truthy_bool ⟨H5,I5,q5⟩
def ZF(K:Fg)(x:V)(H:Hp)(k:Bool):Prop :=
 match x with|.l=>k=false|.o b=>k=b|.int i=>k=(i !=0)|.str y=>y.length<=sizeLine/\k=((y.length:Int)!=0)|.zQ y=>y.size<=sizeLine/\k=((y.size:Int)!=0)|.ref p=>(∃xs,SqL K H p xs/\k=!xs.isEmpty)\/(∃xs,SqT K H p xs/\k=!xs.isEmpty)\/∃af,H p=some (.v af)/\k=!af.isEmpty|_=>False
theorem LQ{κ:Type}{af:List (κ×V)}{vs:List (κ×Value)}(r:KV af vs):(!vs.isEmpty)=!af.isEmpty:=by cases r<;>rfl
theorem GQ{xs:List V}{ah:List Value}(r:Vals xs ah):(!ah.toArray.isEmpty)=!xs.isEmpty:=by cases r<;>simp
theorem F7:(sizeLine:Nat)<2^63:=by rw[sizeLine_eq];decide
theorem UU:Jau X (λx H Q=>∃k,ZF X.K x H k/\Q k H):=by
 intro aa s U H x v Q I rx h;obtain⟨k,e,q⟩:=h;have hl:=F7;have hs:sizeLine=16777216:=sizeLine_eq;cases x with
 |l =>cases rx;have e':k=false:=e;subst e';exact truthy_none ⟨H,I,q⟩
 |o b =>cases rx;have e':k=b:=e;subst e';exact wpAny_truthy_bool ⟨H,I,q⟩
 |int i =>obtain⟨t,rfl⟩:=rx;have e':k=(i !=0):=e;subst e';exact PySem.P.truthy_int ⟨H,I,q⟩
 |str y =>obtain⟨t,rfl⟩:=rx;obtain⟨hy,e'⟩:y.length<=sizeLine/\k=((y.length:Int)!=0):=e;subst e';exact PySem.P.truthy_str (by lia) ⟨H,I.tok _,q⟩
 |zQ y =>obtain⟨t,rfl⟩:=rx;obtain⟨hy,e'⟩:y.size<=sizeLine/\k=((y.size:Int)!=0):=e;subst e';exact PySem.W.truthy_bytes (by lia) ⟨H,I.tok _,q⟩
 |ref p =>
  cases rx;have e':(∃xs,SqL X.K H p xs/\k=!xs.isEmpty)\/(∃xs,SqT X.K H p xs/\k=!xs.isEmpty)\/∃af,H p=some (.v af)/\k=!af.isEmpty:=e;rcases e' with⟨xs,hx,e'⟩|⟨xs,hx,e'⟩|⟨af,hx,e'⟩
  .subst e';obtain⟨ah,r,pl,hz⟩:=I.list hx;have hlen:=r.length;exact wpAny_truthy_list pl.isList (by simp only[qz];lia) ⟨H,I.tok _,by rw[GQ r];exact q⟩
  .subst e';obtain⟨ah,r,pl,hz⟩:=I.tuple hx;have hlen:=r.length;exact truthy_tuple pl (by simp only[qz];lia) ⟨H,I.tok _,by rw[GQ r];exact q⟩
  .subst e';obtain⟨hz,hS,vs,r,m⟩:af.length<=sizeLine/\(p==sysModules)=false/\∃vs,KV af vs/\s.heap.DictOf (Bu X.prog X.w) p vs:=I.z9 p _ hx;have hlen:af.length=vs.length:=Paired.length r;exact wpAny_truthy_dict hS m (by lia) ⟨H,I.tok _,by rw[LQ r];exact q⟩
 |_=>exact(show False from e).elim
theorem O9(ha:PE X a ta)(he:∀aY,isTrue a X.env aY=(do let v <- aY;standAt a.pos;holding [v] (truthy v))) :
  PT X a (λU H Q=>ta U H λx H'=>∃k,ZF X.K x H' k/\Q k H'):=by
 intro aa s U H Q I h;exact isTrue_plain (thn (ha aa s U H _ I h) λv s1 ⟨x,H1,I1,r1,q1⟩=>UU aa s1 U H1 x v Q I1 r1 q1) (he _)
theorem LA:OpR X (binaryOp .Add) (λx y H Q=>∃i j,x=.str i/\y=.str j/\i.length+j.length<=sizeLine/\Q (.str (i++j)) H):=by intro aa s U H x y v u Q I rx ry h;obtain⟨i,j,rfl,rfl,hz,q⟩:=h;obtain⟨t,rfl⟩:=rx;obtain⟨t',rfl⟩:=ry;exact add_str (λt' tk=>⟨.str (i++j),H,I.tok _,⟨_,rfl⟩,q⟩) hz
theorem vals1{x:V}{us:List Value}(r:Vals [x] us):∃u,us=[u]/\RelV x u:=by cases r with|cons r1 r2=>cases r2;exact⟨_,rfl,r1⟩
theorem vals2{x y:V}{us:List Value}(r:Vals [x,y] us):∃u w',us=[u,w']/\RelV x u/\RelV y w':=by cases r with|cons r1 r2 =>cases r2 with|cons r3 r4=>cases r4;exact⟨_,_,rfl,r1,r3⟩
theorem Ox(hc:X.calm=true):CO X (.builtin "min") (λxs H Q=>∃i j,xs=[.int i,.int j]/\Q (.int (if j<i then j else i)) H):=by
 intro aa s U H xs us Q I r h;obtain⟨i,j,rfl,q⟩:=h;obtain⟨u,w',rfl,⟨t,rfl⟩,⟨t',rfl⟩⟩:=vals2 r;refine min_two_ints (I.ok.hd hc) λh' tk k=>⟨_,H,I.kept k,?_,q⟩
 by_cases hj:j<i
 .rw[if_pos hj,if_pos hj];exact⟨_,rfl⟩
 .rw[if_neg hj,if_neg hj];exact⟨_,rfl⟩
theorem Oy:CO X (.type "int") (λxs H Q=>(∃i,xs=[.int i]/\Q (.int i) H)\/∃k,xs=[.o k]/\Q (.int (if k then 1 else 0)) H):=by
 intro aa s U H xs us Q I r h;rcases h with⟨i,rfl,q⟩|⟨k,rfl,q⟩
 .obtain⟨u,rfl,t,rfl⟩:=vals1 r;exact call_int_int ⟨.int i,H,I,⟨_,rfl⟩,q⟩
 .obtain⟨u,rfl,r1⟩:=vals1 r;cases r1;exact call_int_bool ⟨.int (if k then 1 else 0),H,I.tok _,⟨_,rfl⟩,q⟩
end
structure UA(h:Heap)(x dx C:Addr)(mA:Str->Option Value):Prop where
 obj:h.get? x=some (instObj C dx)
 ns:h.Ns1 dx mA
 ne:dx≠x
theorem Nr{h:Heap}{dx:Addr}{mA:Str->Option Value}(n:h.Ns1 dx mA):∃od,h.get? dx=some od/\∀name,lookIn name od=some (mA name):=by
 obtain⟨o,es,ep,ho,hd,hk,_,hm⟩:=n;refine⟨o,ho,λname=>?_⟩;have e:=hm name;unfold nsFind findBy at e;rw[<- Array.find?_toList]at e;unfold lookIn;rw[hd];dsimp only;split
 next y q=>rw[q]at e;exact congrArg some e
 .rename_i q;rw[q]at e;have a:es.toList.any (·.refKey)=false:=by rw[List.any_eq_false];intro y hy;obtain⟨z,t,jV⟩:=hk y (Array.mem_toList_iff.mp hy);simp[DictEntry.refKey,jV]
  have a':¬es.toList.any (·.refKey)=true:=by rw[a];exact qR
  rw[if_neg a'];exact congrArg some e
theorem UA.look{h:Heap}{x dx C:Addr}{mA:Str->Option Value}(I:UA h x dx C mA):∃od,InstAt h x (instObj C dx) C (some od)/\∀name,lookIn name od=some (mA name) :=
 let⟨od,ho,hl⟩:=Nr I.ns
 ⟨od,⟨I.obj,rfl,rfl,ho⟩,hl⟩
section
variable{prog:Program}{w:World}{A:Around}{E:Value->Shared->Prop}{s:Shared}{K:Fg}{x dx C f:Addr}{mA:Str->Option Value}{name:Str}{v:Value}
theorem get_map{expr:Bool}{Q:Value->Shared->Prop}(X:K.In s.heap)(I:UA s.heap x dx C mA)(hg:plainGet K C name=true)(hh:hasDictIn K C=true)
  (ha:findIn K (.ref C) name=some none) (hv:mA name=some v) (oO:handedIn v=true) (h:Q v {s with toks:=s.toks+1}) :
  wpAny (model prog w) A (getAttr (.ref x) name expr) Q E s:=by
 obtain⟨od,J,hl⟩:=I.look;exact PySem.W.get_value X J (plainGet_of hg).1 (PySem.W.findObj_own hh ha rfl (by rw[hl,hv])) oO h
theorem Qc{pl:Sem Bool}{Q:Value×List Value->Shared->Prop}(X:K.In s.heap)(I:UA s.heap x dx C mA)(hg:plainGet K C name=true)
  (hf:findIn K (.ref C) name=some (some (.ref f))) (ht:isFn K (.ref f)=true) (hv:mA name=none) (h:Q (.ref f,[.ref x]) s) :
  wpAny (model prog w) A (getMethod (.ref x) name pl) Q E s:=by
 obtain⟨od,J,hl⟩:=I.look;exact PySem.W.method_fn X J (plainGet_of hg).1 (plainGet_of hg).2 hf (beq_iff_eq.mp ht) (by show(lookIn name od).map (·.isSome)=some false;rw[hl,hv];rfl) h
theorem Si{ns:List Str}{Q:Unit->Shared->Prop}(X:K.In s.heap)(I:UA s.heap x dx C mA)
  (hs:findIn K (.ref C) "__setattr__"=some (some (.builtin "object.__setattr__"))) (hp:plainOver K C=true) (ht:takerIn K C name=some none) (hh:hasDictIn K C=true)
  (hw:PySem.Within mA ns) (hsz:ns.length<=sizeLine)
  (h:∀h',UA h' x dx C (λy=>if y=name then some v else mA y)->Heap.SameBut dx s.heap h'->Q () {s with heap:=h',toks:=s.toks+2}) :
  wpAny (model prog w) A (setAttr (.ref x) name v) Q E s:=by
 obtain⟨od,J,hl⟩:=I.look;refine PySem.W.set_plain X J hs (PySem.W.osa_open (s:={s with toks:=s.toks+1}) (r:=none) X J hp ht λb=>?_);obtain⟨cd,hc,eK⟩:=PySem.W.any_some hh;have hx:s.heap.get? x=some ⟨.ref C,some dx,.plain,#[]⟩:=I.obj;refine qk (qI (qk (qk (wpAny_loadPart hx (qk (PySem.W.Looks.here (s:={s with toks:=s.toks+1}) (PySem.W.looks_clsIn X hc) ?_))))));rw[eK];refine qI (a:=some dx) (qk (qI (qk ?_)));refine wpAny_nsSet1 (s:={s with toks:=s.toks+1}) I.ns λh' dM aO=>?_
 obtain⟨oD,pT,pR,ou,n5,nY⟩:=dM.count (PySem.Within.cons name v hw);refine qk (wpAny_lookBehind ou (by rw[n5];exact pastItsLine_dict (qS nY (by rw[qD];lia))) ?_);exact qI (h _ ⟨(aO.2 _ (Ne.symm I.ne)).trans I.obj,dM,I.ne⟩ aO)
theorem PL{R:Result->Shared->Prop}{vs:List Value}{kw:List (Str×Value)}(X:K.In s.heap)(hm:makesIn K C=true)
  (hi:findIn K (.ref C) "__init__"=some (some (.ref f))) (hf:PySem.W.typeIn K (.ref f)=some (.type "function"))
  (h:codeAny (model prog w) (A.under (.builtin "type.__call__" ⟨.ref C::vs,kw⟩)) (.call (.ref f) ⟨.ref (s.heap.objs.size+1)::vs,kw⟩) (PySem.W.InitBack (s.heap.objs.size+1) R)
   {s with heap:=(s.heap.push emptyDict).push (instObj C s.heap.objs.size)}) :
  codeAny (model prog w) A (.call (.ref C) ⟨vs,kw⟩) R s:=by
 obtain⟨hh,g,d,t,os⟩:=s;exact PySem.W.make_core (PySem.W.makes_of X hm) (PySem.W.looks_findIn X hi) (λself=>PySem.W.bind_fn X self hf) (.inl rfl) h
end
noncomputable def E8(f:Str)(v:V):List (Str×V)->List (Str×V)
 | []=>[(f,v)]
 |(g,x)::r=>if g=f then(g,v)::r else(g,x)::E8 f v r
theorem F0(f g:Str)(v:V):∀fs:List (Str×V),(E8 f v fs).lookup g=if g=f then some v else fs.lookup g
 | []=>by
  show List.lookup g [(f,v)]=_;by_cases h:g=f
  .have hb:(g==f)=true:=beq_iff_eq.mpr h;simp only[List.lookup,hb,if_pos h]
  .have hb:(g==f)=false:=beq_eq_false_iff_ne.mpr h;simp only[List.lookup,hb,if_neg h]
 |(k,x)::r=>by
  have ih:=F0 f g v r;rw[show E8 f v ((k,x)::r)=(if k=f then(k,v)::r else(k,x)::E8 f v r)from rfl];by_cases hk:k=f
  .rw[if_pos hk];by_cases h:g=k
   .have hb:(g==k)=true:=beq_iff_eq.mpr h;simp only[List.lookup,hb,if_pos (h.trans hk)]
   .have hb:(g==k)=false:=beq_eq_false_iff_ne.mpr h;simp only[List.lookup,hb,if_neg (λe:g=f=>h (e.trans hk.symm))]
  .rw[if_neg hk];by_cases h:g=k
   .have hb:(g==k)=true:=beq_iff_eq.mpr h;simp only[List.lookup,hb,if_neg (λe:g=f=>hk (h.symm.trans e))]
   .have hb:(g==k)=false:=beq_eq_false_iff_ne.mpr h;simp only[List.lookup,hb];exact ih
theorem Ga(f:Str)(v:V):∀fs:List (Str×V),f∈(E8 f v fs).map (·.1)/\∀g,g∈fs.map (·.1)->g∈(E8 f v fs).map (·.1)
 | []=>⟨by simp[E8],λg h=>by simp at h⟩
 |(k,x)::r=>by
  obtain⟨i1,i2⟩:=Ga f v r;rw[show E8 f v ((k,x)::r)=(if k=f then(k,v)::r else(k,x)::E8 f v r)from rfl];by_cases hk:k=f
  .rw[if_pos hk];subst hk;exact⟨by simp,λg h=>by simpa using h⟩
  .rw[if_neg hk];refine⟨?_,λg h=>?_⟩
   .rw[qm];exact qt _ i1
   .rw[qm]at h ⊢;rcases qK.mp h with e|e
    .exact qK.mpr (.inl e)
    .exact qt _ (i2 g e)
theorem F9(f:Str)(v:V):∀fs:List (Str×V),(E8 f v fs).length<=fs.length+1
 | []=>by simp[E8]
 |(k,x)::r=>by
  have ih:=F9 f v r;rw[show E8 f v ((k,x)::r)=(if k=f then(k,v)::r else(k,x)::E8 f v r)from rfl];by_cases hk:k=f
  .rw[if_pos hk,qD,qD];lia
  .rw[if_neg hk,qD,qD];lia
theorem AD.some_of{v:V}{o:Option Value}(r:AD (some v) o):∃u,o=some u/\RelV v u:=by cases o with|none=>exact(show False from r).elim|some u=>exact⟨u,rfl,r⟩
theorem AD.none_of{o:Option Value}(r:AD none o):o=none:=by cases o with|none=>rfl|some u=>exact(show False from r).elim
theorem NN{v:V}{u:Value}(r:RelV v u):handedIn u=true:=by cases v with|l=>cases(show u=Value.none from r);rfl|o b=>cases(show u=Value.bool b from r);rfl|int i=>obtain⟨t,e⟩:=(show ∃t,u=Value.int i t from r);cases e;rfl|str x=>obtain⟨t,e⟩:=(show ∃t,u=Value.str x t from r);cases e;rfl|zQ b=>obtain⟨t,e⟩:=(show ∃t,u=Value.bytes b t from r);cases e;rfl|zp b=>obtain⟨t,e⟩:=(show ∃t,u=Value.float b t from r);cases e;rfl|ref a=>cases(show u=Value.ref a from r);rfl|ty n=>cases(show u=Value.type n from r);rfl
section
variable{P:Program}{w:World}{H H':Hp}{h h':Heap}{a C dx:Addr}{fs aj:List (Str×V)}
theorem JQ(z9:HOk P w H h)(e:H a=some (.ins C dx fs)):∃mA,UA h a dx C mA/\(∀f,AD (fs.lookup f) (mA f))/\PySem.Within mA (fs.map (·.1))/\fs.length<=1000/\H dx=some (.own a):=by
 obtain⟨d,z,ne,ob,mA,n,r,q⟩:=(show Ca P w H h a (.ins C dx fs)from z9 a _ e)
 exact⟨mA,⟨ob,n,ne⟩,r,q,z,d⟩
end
structure Cls(K:Fg)(C:Addr):Prop where
 pg:plainGet K C Str.empty=true
 hd:hasDictIn K C=true
 po:plainOver K C=true
 sa:findIn K (.ref C) "__setattr__"=some (some (.builtin "object.__setattr__"))
theorem Cls.get{K:Fg}{C:Addr}(c:Cls K C)(f:Str):plainGet K C f=true:=c.pg
def Dj(K:Fg)(C:Addr)(f:Str):Prop:=findIn K (.ref C) f=some none
theorem Dj.Yg{K:Fg}{C:Addr}{f:Str}(n:Dj K C f):takerIn K C f=some none:=by unfold takerIn;rw[show findIn K (.ref C) f=some none from n];rfl
structure Meth(K:Fg)(C:Addr)(m:Str)(f:Addr):Prop where
 at_:findIn K (.ref C) m=some (some (.ref f))
 fn:isFn K (.ref f)=true
 kp:keepIn K (.ref f)=true
section
variable{X:Cx}{aa:List (Addr×Obj)}{U:St}{H:Hp}{s:Shared}{a C dx:Addr}{fs:List (Str×V)}{f:Str}{v:V}{A:Around}{E:Value->Shared->Prop}
theorem LU{b:Bool}{Q:Value->Shared->Prop}(I:Inv X aa U H s)(e:H a=some (.ins C dx fs))(c:Cls X.K C)(n:Dj X.K C f)(l:fs.lookup f=some v)
  (h:∀u s',Inv X aa U H s'->RelV v u->Q u s'):wpAny (model X.prog X.w) A (getAttr (.ref a) f b) Q E s:=by
 obtain⟨mA,O,r,_,_,_⟩:=JQ I.z9 e;obtain⟨u,hu,ru⟩:=AD.some_of (v:=v) (o:=mA f) (by rw[<- l];exact r f);exact get_map I.kIn O (c.get f) c.hd n hu (NN ru) (h u _ (I.tok _) ru)
theorem GU{m:Str}{g:Addr}{pl:Sem Bool}{Q:Value×List Value->Shared->Prop}(I:Inv X aa U H s)(e:H a=some (.ins C dx fs))(c:Cls X.K C)(k:Meth X.K C m g)(l:fs.lookup m=none)
  (h:Q (.ref g,[.ref a]) s):wpAny (model X.prog X.w) A (getMethod (.ref a) m pl) Q E s:=by
 obtain⟨mA,O,r,_,_,_⟩:=JQ I.z9 e;have hn:mA m=none:=AD.none_of (by rw[<- l];exact r m);exact Qc I.kIn O (c.get m) k.at_ k.fn hn h
theorem Lq{y:V}{u:Value}{Q:Unit->Shared->Prop}(I:Inv X aa U H s)(e:H a=some (.ins C dx fs))(c:Cls X.K C)(n:Dj X.K C f)(hl:fs.length<1000)(ry:RelV y u)
  (h:∀s',Inv X aa U (upd H a (.ins C dx (E8 f y fs))) s'->Q () s'):wpAny (model X.prog X.w) A (setAttr (.ref a) f u) Q E s:=by
 obtain⟨mA,O,r,wi,_,ho⟩:=JQ I.z9 e;have hz:(fs.map (·.1)).length<=sizeLine:=by rw[qw,sizeLine_eq];lia
 refine Si I.kIn O c.sa c.po n.Yg c.hd wi hz λh' O' sb=>h _ ?_
 have hd:∃o,h'.get? dx=some o:=let⟨o,_,_,e',_⟩:=O'.ns;⟨o,e'⟩;refine I.write (x:=a) (e:=dx) (by rw[e];exact True.intro) (.inr ho) (λb q hb z=>(sb.2 b hb).trans z) hd ?_;refine⟨by rw[Am O.ne];exact ho,?_,O.ne,O'.obj,_,O'.ns,λg=>?_,λg hg=>?_⟩
 .have:=F9 f y fs;lia
 .show AD ((E8 f y fs).lookup g) (if g=f then some u else mA g);rw[F0];by_cases q:g=f
  .rw[if_pos q,if_pos q];exact ry
  .rw[if_neg q,if_neg q];exact r g
 .by_cases q:g=f
  .rw[q];exact(Ga f y fs).1
  .refine(Ga f y fs).2 g (wi g λz=>hg ?_);show(if g=f then some u else mA g)=none;rw[if_neg q];exact z
theorem Inv.made(I:Inv X aa U H s):Inv X aa U (upd (upd H s.heap.objs.size (.own (s.heap.objs.size+1))) (s.heap.objs.size+1) (.ins C s.heap.objs.size []))
  {s with heap:=(s.heap.push emptyDict).push (instObj C s.heap.objs.size)}:=by
 have e1:(s.heap.push emptyDict).get? s.heap.objs.size=some emptyDict:=qO s.heap rfl;have e2:((s.heap.push emptyDict).push (instObj C s.heap.objs.size)).get? (s.heap.objs.size+1)=some (instObj C s.heap.objs.size):=by have:=qO (s.heap.push emptyDict) (o:=instObj C s.heap.objs.size) rfl;rwa[sk]at this
 have e3:(s.heap.push emptyDict).Ns s.heap.objs.size (λ_=>none):=⟨emptyDict,#[],_,e1,rfl,(λe he=>absurd he (by simp)),λ_=>rfl⟩
 have I1:=I.laid (a:=s.heap.objs.size) (o:=.own (s.heap.objs.size+1)) (h':=s.heap.push emptyDict) (t':=s.toks) (λb u q=>ql _ q) (qH _) ⟨_,e1⟩;refine I1.laid (a:=s.heap.objs.size+1) (o:=.ins C s.heap.objs.size []) (t':=s.toks) (λb u q=>ql _ q) (Nat.le_of_eq (sk _ _)) ?_;have ne:s.heap.objs.size≠s.heap.objs.size+1:=qZ (Nat.lt_succ_self _);refine⟨by rw[Am ne,Az],rX _,ne,e2,λ_=>none,(Heap.Ns1.of_empty e3).at λo q=>ql _ q,λ_=>True.intro,λy hy=>absurd rfl hy⟩
theorem Ux{prog:Program}{w:World}{env:Env}{e:Expr}{f:Str}{pos:Pos}{s:Shared}{Q:Value->Shared->Prop}(hb:attributeBase e f env (eval e env)=eval e env)
  (h:wpAny (model prog w) A (eval e env) (λo ar=>wpAny (model prog w) A (getAttr o f true) Q E ar) E s):wpAny (model prog w) A (eval (.Attribute e f pos) env) Q E s :=
 Attribute_any_ h (by rw[arm_eval_Attribute,hb])
end
def ZI(K:Fg)(ta:TE)(f:Str):TE:=λU H Q=>ta U H λx H1=>∃a C dx fs v,x=.ref a/\H1 a=some (.ins C dx fs)/\Cls K C/\Dj K C f/\fs.lookup f=some v/\Q v H1
def ZJ(K:Fg)(ta tv:TE)(f:Str):TS:=λD U H=>tv U H λy H1=>ta U H1 λx H2=>∃a C dx fs,x=.ref a/\H2 a=some (.ins C dx fs)/\Cls K C/\Dj K C f/\fs.length<1000 /\
 D.nx U (upd H2 a (.ins C dx (E8 f y fs)))
section
variable{X:Cx}{o e value:Expr}{f:Str}{pos ay bI:Pos}{ta tv:TE}
theorem Ri(he:PE X e ta)(hb:attributeBase e f X.env (eval e X.env)=eval e X.env):PE X (.Attribute e f pos) (ZI X.K ta f):=by intro aa s U H Q I h;refine Ux hb (thn (he aa s U H _ I h) λu s1 ai=>?_);obtain⟨x,H1,I1,rx,a,C,dx,fs,v,ex,ea,c,n,l,q⟩:= ai;subst ex;obtain rfl:u=Value.ref a:=rx;exact LU I1 ea c n l λu' s2 I2 ru=>⟨v,H1,I2,ru,q⟩
theorem Vq(ha:PE X o ta)(hv:PE X value tv)(hs:swapsWith value (some (.Attribute o f ay)) pos.line X.env=pure false):PS X (.Assign [.Attribute o f ay] value pos) (ZJ X.K ta tv f):=by intro aa s U H D I h;refine plainObj_wpAny_Assign_Attribute (thn (hv aa s U H _ I h) λu s1 ⟨y,H1,I1,ry,q⟩=>thn (ha aa s1 U H1 _ I1 q) λov s2 ai=>?_) hs;obtain⟨x,H2,I2,rx,a,C,dx,fs,ex,ea,c,n,l,q2⟩:= ai;subst ex;obtain rfl:ov=Value.ref a:=rx;exact Lq I2 ea c n l ry λs3 I3=>⟨U,_,I3,q2⟩
end
section
variable{X:Cx}{aa:List (Addr×Obj)}{U:St}{H:Hp}{s:Shared}{A:Around}{E:Value->Shared->Prop}{Q:Value->Shared->Prop}{c:Value}{b:Bool}
end
structure DL(k:Nat)(A:Around):Prop where
 hd:A.handled=none
 dp:A.depth+3*k+5<recursionLimit
 un:A.units+16*k+200<cLine
theorem DL.mono{j k:Nat}{A:Around}(r:DL k A)(h:j<=k):DL j A:=⟨r.hd,by have:=r.dp;lia,by have:=r.un;lia⟩
theorem DL.deeper{k:Nat}{A:Around}(r:DL (k+1) A)(env:Env):DL k (A.deeper env) :=
 ⟨r.hd,by have:=r.dp;show A.depth+1+3*k+5<_;lia,by have:=r.un;show A.units+3+16*k+200<_;lia⟩
theorem LK{A:Around}{C:Addr}{us:List Value}{kw:List (Str×Value)}:(A.under (.builtin "type.__call__" ⟨.ref C::us,kw⟩)).depth=A.depth+1:=by first|rfl|simp[Around.under,Code.weight,Code.isCreation,Code.isGuard,Code.isCaller,Code.frames,Code.isFrame,guardIds]
theorem LJ{A:Around}{C:Addr}{us:List Value}{kw:List (Str×Value)}:(A.under (.builtin "type.__call__" ⟨.ref C::us,kw⟩)).units=A.units+1:=by first|rfl|simp[Around.under,Code.cUnits,Code.frames,Code.isFrame]
theorem DL.make{k:Nat}{A:Around}(r:DL (k+1) A)(C:Addr)(us:List Value)(kw:List (Str×Value)):DL k (A.under (.builtin "type.__call__" ⟨.ref C::us,kw⟩)) :=
 ⟨r.hd,by have:=r.dp;rw[LK];lia,by have:=r.un;rw[LJ];lia⟩
theorem DL.depth{k:Nat}{A:Around}(r:DL k A):A.depth<recursionLimit:=by have:=r.dp;lia
theorem DL.units{k:Nat}{A:Around}(r:DL k A):A.units+64<cLine:=by have:=r.un;lia
def XR:TA:=λ_ H Q=>Q [] H
def Yl(ta:TE)(tr:TA):TA:=λU H Q=>ta U H λx H1=>tr U H1 λxs H2=>Q (x::xs) H2
section
variable{X:Cx}{e:Expr}{es:List Expr}{te:TE}{t:TA}{pos:Pos}
theorem DA:PA X [] XR:=λ_ _ _ _ H Q I h=>Calls.spliced_nil ⟨[],H,I,.nil,h⟩
theorem B5(ha:PE X e te)(hr:PA X es t)(hs:starEach (e::es) X.env=(false,eval e X.env)::starEach es X.env:=by rfl):PA X (e::es) (Yl te t):=by
 intro pos aa s U H Q I h;rw[hs];show wpAny _ _ (spliced ((false,eval e X.env)::backTo pos (starEach es X.env))) _ _ s;refine Calls.spliced_cons (thn (ha aa s U H _ I h) λu s1 ai=>?_);obtain⟨x,H1,I1,r1,q1⟩:= ai;refine thn (hr pos aa s1 U H1 _ I1 q1) λus s2 ai => ?_
 obtain⟨xs,H2,I2,r2,q2⟩:= ai;exact⟨x::xs,H2,I2,.cons r1 r2,q2⟩
def ZZ(t:TA):TE:=λU H Q=>t U H λxs H1=>xs.length<=sizeLine/\∀p,H1 p=none->Q (.ref p) (upd H1 p (.tup xs))
def Z2(t:TA):TE:=λU H Q=>t U H λxs H1=>xs.length<=sizeLine/\∀p,H1 p=none->Q (.ref p) (upd H1 p (.lst xs))
theorem Vy{x1}(h:PA X es t):PE X (.Tuple es x1 pos) (ZZ t):=by intro aa s U H Q I hq;refine wpAny_Tuple_spliced (thn (h pos aa s U H _ I hq) λus s1 ⟨xs,H1,I1,r,z,q⟩=>⟨by rw[<- r.length];exact z,?_⟩);have hf:H1 s1.heap.objs.size=none:=I1.z9.fresh (qH _);refine⟨.ref s1.heap.objs.size,upd H1 s1.heap.objs.size (.tup xs),I1.laid (t':=s1.toks) (λb u e=>ql _ e) (qH _) ?_,rfl,q _ hf⟩;exact⟨z,us,r,⟨_,qO _ rfl,rfl,_,rfl⟩⟩
theorem Ks(h:PA X es t):PE X (.List es pos) (Z2 t):=by intro aa s U H Q I hq;refine wpAny_List_spliced (thn (h pos aa s U H _ I hq) λus s1 ⟨xs,H1,I1,r,z,q⟩=>⟨by rw[<- r.length];exact z,?_⟩);have hf:H1 s1.heap.objs.size=none:=I1.z9.fresh (qH _);refine⟨.ref s1.heap.objs.size,upd H1 s1.heap.objs.size (.lst xs),I1.laid (t':=s1.toks) (λb u e=>ql _ e) (qH _) ?_,rfl,q _ hf⟩;exact⟨z,us,0,r,qO _ rfl⟩
end
abbrev Sp:=List V->Hp->VK->XK->Prop
abbrev CXT:=List Env->Hp->Shared->XK->Value->Shared->Prop
structure UD(P:Program)(w:World)(K:Fg)(mg:Str->Option Value)(base:Heap)(A:Around)(outer:List Env)(s:Shared)(H:Hp):Prop where
 frames:A.frames=some outer
 mod:Mod K mg base
 bs:∀b o,base.get? b=some o->s.heap.get? b=some o/\H b=none
 zO:base.objs.size<=s.heap.objs.size
 KR:s.heap.FunFrames base outer
 zG:∀b∈frs outer,H b=none
 z9:HOk P w H s.heap
 bare:AllBare s.gens
def CE(outer:List Env)(P:Program)(w:World)(H:Hp)(s:Shared)(Q:VK)(u:Value)(s':Shared):Prop :=
 ∃v H',s'.os=s.os/\AllBare s'.gens/\Un (frs outer) [] H H' s.heap s'.heap/\HOk P w H' s'.heap/\RelV v u/\Q v H'
def CR(CX:CXT)(outer:List Env)(P:Program)(w:World)(H:Hp)(s:Shared)(Q:VK)(E:XK)(r:Result)(s':Shared):Prop :=
 match r with|.ok (.ret u)=>CE outer P w H s Q u s'|.ok _=>False|.error e=>CX outer H s E e s'
structure Ed(P:Program)(w:World)(K:Fg)(mg:Str->Option Value)(base:Heap)(CX:CXT)(k:Nat)(f:Addr)(fd:FuncData)(ps:List Str)(sp:Sp):Prop where
 len:∀vs H Q E,sp vs H Q E->vs.length=ps.length
 run:∀(A:Around)(outer:List Env)(s:Shared)(H:Hp)(args:Args)(us:List Value)(vs:List V)(Q:VK)(E:XK),DL k A->UD P w K mg base A outer s H->BindsTo s fd args (ps.zip us)->Vals vs us->sp vs H Q E ->
  codeAny (model P w) A (.call (.ref f) args) (CR CX outer P w H s Q E) s
theorem Ed.imp{P:Program}{w:World}{K:Fg}{mg:Str->Option Value}{base:Heap}{CX:CXT}{k:Nat}{f:Addr}{fd:FuncData}{ps:List Str}{sp lS:Sp}(F:Ed P w K mg base CX k f fd ps sp)
  (h:∀vs H Q E,lS vs H Q E->sp vs H Q E):Ed P w K mg base CX k f fd ps lS :=
 ⟨λvs H Q E q=>F.len vs H Q E (h _ _ _ _ q),λA outer s H args us vs Q E hr he hb hv hs=>F.run A outer s H args us vs Q E hr he hb hv (h _ _ _ _ hs)⟩
theorem UD.make{P:Program}{w:World}{K:Fg}{mg:Str->Option Value}{base:Heap}{A:Around}{outer:List Env}{s:Shared}{H:Hp}(e:UD P w K mg base A outer s H)(C:Addr)(us:List Value)(kw:List (Str×Value)) :
  UD P w K mg base (A.under (.builtin "type.__call__" ⟨.ref C::us,kw⟩)) outer s H:=⟨by first|exact e.frames|(simpa[Around.under,Code.envs,Code.isFrame,pushEnvs]using e.frames),e.mod,e.bs,e.zO,e.KR,e.zG,e.z9,e.bare⟩
section
variable{X:Cx}{aa:List (Addr×Obj)}{U:St}{H:Hp}{s s':Shared}
theorem Inv.Zt(I:Inv X aa U H s):UD X.prog X.w X.K X.mg X.base X.A X.stack s H :=
 ⟨I.ok.frames,I.ok.mod,I.bs,qS I.ok.zO I.sz,I.stack,I.Jw,I.z9,I.bare⟩
theorem Inv.after{Q:VK}{u:Value}(I:Inv X aa U H s)(h:CE X.stack X.prog X.w H s Q u s'):EP X aa U Q u s':=by obtain⟨v,H',os,bare,un,z9,r,q⟩:=h;obtain⟨hh,g,d,t,dY⟩:=s';obtain rfl:dY=s.os:=os;exact⟨v,H',I.call (h':=hh) (g':=g) (d':=d) (t':=t) (ch:=[]) un z9 bare (λb z=>absurd z (by simp)),r,q⟩
end
def Se(C:Addr)(m:Str)(sp:Sp)(cA:List V)(E:XK)(ta:TE)(t:TA):TE:=λU H Q=>ta U H λx H1=>∃a dx fs,x=.ref a/\H1 a=some (.ins C dx fs)/\fs.lookup m=none /\
 t U H1 λvs H2=>sp (x::(vs++cA)) H2 Q E
def U1(C:Addr)(sp:Sp)(cA:List V)(E:XK)(t:TA):TE:=λU H Q=>t U H λvs H1=>∀x dx,H1 x=none->H1 dx=none->dx≠x ->
 sp (.ref x::(vs++cA)) (upd (upd H1 dx (.own x)) x (.ins C dx [])) (λv H2=>v=.l/\Q (.ref x) H2) E
def Binds(K:Fg)(fd:FuncData)(ps:List Str)(ds:List Value):Prop :=
 ∀(s:Shared)(us:List Value),K.In s.heap->(us++ds).length=ps.length->BindsTo s fd ⟨us,[]⟩ (ps.zip (us++ds))
theorem Binds.all{K:Fg}{fd:FuncData}{ps:List Str}(h:∀us:List Value,us.length=ps.length->bindArgs fd ⟨us,[]⟩=pure (ps.zip us)):Binds K fd ps []:=λs us _ hl=>by rw[rD]at hl ⊢;exact .of_eq (h us hl)
def Passes(CX:CXT)(X:Cx)(E:XK):Prop:=∀(aa:List (Addr×Obj))(U:St)(H:Hp)(s:Shared)(e:Value)(s':Shared),Inv X aa U H s->CX X.stack H s E e s'->X.xe e s'
section
variable{X:Cx}{CX:CXT}{k:Nat}{f C:Addr}{fd:FuncData}{ps:List Str}{sp:Sp}{cA:List V}{ds:List Value}{E:XK}{x m:Str}{p pos av:Pos}{e o:Expr}{es:List Expr}{ta:TE}{t:TA}
theorem Ve{aa:List (Addr×Obj)}{U:St}{H:Hp}{s:Shared}{Q:VK}{us:List Value}{vs:List V}(F:Ed X.prog X.w X.K X.mg X.base CX k f fd ps sp)(hr:DL k X.A)(hb:Binds X.K fd ps ds)(hd:Vals cA ds)(hx:Passes CX X E)
  (I:Inv X aa U H s) (r:Vals vs us) (h:sp (vs++cA) H Q E):wpAny (model X.prog X.w) X.A (call (.ref f) us) (EP X aa U Q) X.xe s:=by
 have r2:Vals (vs++cA) (us++ds):=r.append hd;have hl:(us++ds).length=ps.length:=by rw[<- r2.length];exact F.len _ _ _ _ h
 refine wpAny_call (codeAny_mono (F.run X.A X.stack s H ⟨us,[]⟩ (us++ds) (vs++cA) Q E hr I.Zt (hb s us I.kIn hl) r2 h) λr s' hq=>?_);cases r with|error e=>exact hx aa U H s e s' I hq|ok fl =>cases fl with|ret u=>exact I.after hq|next=>exact False.elim hq|brk=>exact False.elim hq|cont=>exact False.elim hq
theorem Pk{pl:Sem Bool}(he:PE X o ta)(c:Cls X.K C)(hm:Meth X.K C m f)(F:Ed X.prog X.w X.K X.mg X.base CX k f fd ps sp)(hr:DL k X.A)(hb:Binds X.K fd ps ds)(hd:Vals cA ds)(hx:Passes CX X E)
  (ht:eval (.Call (.Attribute o m av) [] [] pos) X.env=(do
   let ov <- eval o X.env
   standAt av.atName
   let(f,first) <- holding [ov] (getMethod ov m pl)
   callWith pos f first (backTo pos (starEach [] X.env)) (backToKw pos (keywordEach [] X.env))):=by rfl) :
  PE X (.Call (.Attribute o m av) [] [] pos) (Se C m sp cA E ta XR):=by
 intro aa s U H Q I h;refine methodCall_KW (pl:=pl) (thn (he aa s U H _ I h) λu s1 ai=>?_) ht;obtain⟨x,H1,I1,rx,a,dx,fs,ex,ea,l,q⟩:= ai;subst ex;obtain rfl:u=Value.ref a:=rx;refine GU I1 ea c hm l ?_;exact PySem.W.callWith_K0 (first:=[.ref a]) I1.kIn hm.kp (Ve (us:=[.ref a]) (vs:=[.ref a]) F hr hb hd hx I1 (.cons rfl .nil) q)
structure Mk(K:Fg)(C f:Addr):Prop where
 makes:makesIn K C=true
 init:findIn K (.ref C) "__init__"=some (some (.ref f))
 fn:isFn K (.ref f)=true
 kp:keepIn K (.ref C)=true
theorem O1{aa:List (Addr×Obj)}{U:St}{H:Hp}{s:Shared}{Q:VK}{us:List Value}{vs:List V}(M:Mk X.K C f)(F:Ed X.prog X.w X.K X.mg X.base CX k f fd ps sp)(hr:DL (k+1) X.A)(hb:Binds X.K fd ps ds)(hd:Vals cA ds)
  (hx:Passes CX X E) (I:Inv X aa U H s) (r:Vals vs us)
  (h:∀x dx,H x=none->H dx=none->dx≠x->sp (.ref x::(vs++cA)) (upd (upd H dx (.own x)) x (.ins C dx [])) (λv H2=>v=.l/\Q (.ref x) H2) E) :
  wpAny (model X.prog X.w) X.A (call (.ref C) us) (EP X aa U Q) X.xe s:=by
 have hq:=h (s.heap.objs.size+1) s.heap.objs.size (I.z9.fresh (Nat.le_succ _)) (I.z9.fresh (qH _)) (qZ (Nat.lt_succ_self _));have I2:=Inv.made (C:=C) I;have r2:Vals (V.ref (s.heap.objs.size+1)::(vs++cA)) (Value.ref (s.heap.objs.size+1)::(us++ds)):=.cons rfl (r.append hd);have hl:(Value.ref (s.heap.objs.size+1)::us++ds).length=ps.length:=by have e:=r2.length;rw[F.len _ _ _ _ hq]at e;exact e.symm
 refine wpAny_call (PL (f:=f) I.kIn M.makes M.init (beq_iff_eq.mp M.fn) (codeAny_mono (F.run _ X.stack _ _ ⟨Value.ref (s.heap.objs.size+1)::us,[]⟩ (Value.ref (s.heap.objs.size+1)::(us++ds)) _ _ E (hr.make C us [])
  (I2.Zt.make C us []) (hb _ (Value.ref (s.heap.objs.size+1)::us) I2.kIn hl) r2 hq) λr s' iz=>?_))
 cases r with|error e=>exact hx aa U _ _ e s' I2 iz|ok fl =>cases fl with|ret u =>obtain⟨v,H',I3,rv,ev,q3⟩:=I2.after iz;subst ev;exact⟨rv,⟨V.ref (s.heap.objs.size+1),H',I3,rfl,q3⟩⟩|next=>exact False.elim iz|brk=>exact False.elim iz|cont=>exact False.elim iz
theorem Sv(M:Mk X.K C f)(F:Ed X.prog X.w X.K X.mg X.base CX k f fd ps sp)(hr:DL (k+1) X.A)(hg:Gl X x)(hm:X.mg x=some (.ref C))(hb:Binds X.K fd ps ds)(hd:Vals cA ds)(hx:Passes CX X E)
  (ha:PA X (e::es) t) (aQ:(x==("__debug__":Str))=false:=by decide) (he:starEach (e::es) X.env=(false,eval e X.env)::starEach es X.env:=by rfl) (az:(backTo pos (starEach es X.env)).any (·.1)=false:=by rfl) :
  PE X (.Call (.Name x p) (e::es) [] pos) (U1 C sp cA E t):=by
 intro aa s U H Q I h;refine wpAny_Call_Name_kw (EO I hg hm ?_ aQ);refine callWith_K (h₀:=X.base) I.ok.mod.zw M.kp (thn (ha pos aa s U H _ I h) λus s1 ⟨vs,H1,I1,r,q⟩=>⟨I1.kIn,?_⟩) he az;exact O1 M F hr hb hd hx I1 r q
end
section
variable{X:Cx}{CX:CXT}{k:Nat}{f C:Addr}{fd:FuncData}{ps ks:List Str}{sp:Sp}{E:XK}{x m:Str}{p pos av oV:Pos}{e o:Expr}{es:List Expr}{qe:List Keyword}{te ta:TE}{t tk:TA}{nm:Option Str}
variable{g:List Value->List Value->List Value}{gV:List V->List V->List V}
end
structure HY(N P:List Str)(sc:Scope):Prop where
 kind:sc.kind=.function
 co:sc.isCoroutine=false
 gen:sc.isGenerator=false
 nd:N.Nodup
 pre:N.take P.length=P
 par:∀x∈P,sc.names.lookup x=some .local\/sc.names.lookup x=some .cell
 zo:∀y∈sc.names,y.2≠.free
theorem Jg{kindOf:Str->Option NameKind}{x:Str}:∀{binds:List (Str×Value)}{m:Str->Option Value},(∀v,(x,v)∉binds)->bindL kindOf binds m x=m x
 | [],_,_=>rfl
 |(n,v)::r,m,h=>by
  unfold bindL;rw[Jg λw hw=>h w (qt _ hw)];split
  .have:x≠n:=by rintro rfl;exact h v rg
   simp[this]
  .rfl
theorem Ji{kindOf:Str->Option NameKind}{x:Str}:∀{binds:List (Str×Value)}{m:Str->Option Value},(∀v,(x,v)∉binds)->bindC kindOf binds m x=m x
 | [],_,_=>rfl
 |(n,v)::r,m,h=>by
  unfold bindC;rw[Ji λw hw=>h w (qt _ hw)];split
  .rfl
  .have:x≠n:=by rintro rfl;exact h v rg
   simp[this]
theorem Jh{kindOf:Str->Option NameKind}{x:Str}{v:Value}:∀{P:List Str}{vs:List Value}{i:Nat}{m:Str->Option Value},P.Nodup->P[i]?=some x->vs[i]?=some v->kindOf x=some .local ->
  bindL kindOf (P.zip vs) m x=some v
 | [],_,_,_,_,h,_,_=>by simp at h
 |_::_,[],_,_,_,_,h,_=>by simp at h
 |p::P,w::vs,0,m,nd,h1,h2,hk=>by simp at h1 h2;subst h1;subst h2;show bindL kindOf ((p,w)::P.zip vs) m p=_;unfold bindL;rw[Jg λv hv=>(rk.mp nd).1 (List.of_mem_zip hv).1,if_pos hk];simp
 |p::P,w::vs,i+1,m,nd,h1,h2,hk=>by show bindL kindOf ((p,w)::P.zip vs) m x=_;unfold bindL;exact Jh (i:=i) (rk.mp nd).2 (by simpa using h1) (by simpa using h2) hk
theorem Jj{kindOf:Str->Option NameKind}{x:Str}{v:Value}:∀{P:List Str}{vs:List Value}{i:Nat}{m:Str->Option Value},P.Nodup->P[i]?=some x->vs[i]?=some v->kindOf x≠some .local ->
  bindC kindOf (P.zip vs) m x=some v
 | [],_,_,_,_,h,_,_=>by simp at h
 |_::_,[],_,_,_,_,h,_=>by simp at h
 |p::P,w::vs,0,m,nd,h1,h2,hk=>by simp at h1 h2;subst h1;subst h2;show bindC kindOf ((p,w)::P.zip vs) m p=_;unfold bindC;rw[Ji λv hv=>(rk.mp nd).1 (List.of_mem_zip hv).1,if_neg hk];simp
 |p::P,w::vs,i+1,m,nd,h1,h2,hk=>by show bindC kindOf ((p,w)::P.zip vs) m x=_;unfold bindC;exact Jj (i:=i) (rk.mp nd).2 (by simpa using h1) (by simpa using h2) hk
noncomputable def start(N:List Str)(vs:List V):St:=vs.map some++List.replicate (N.length-vs.length) none
noncomputable def LZ(CX:CXT)(P:Program)(w:World)(K:Fg)(mg:Str->Option Value)(base:Heap)(N:List Str)(qual:Str)(scope:Scope)(f:Addr)(cd:Value)(A:Around)(outer:List Env)(s:Shared)(H:Hp)(E:XK):Cx where
 prog:=P
 w:=w
 K:=K
 mg:=mg
 base:=base
 A:=A.deeper (envOfC qual scope s.heap.objs.size f cd)
 N:=N
 z8:=s
 zF:=H
 env:=envOfC qual scope s.heap.objs.size f cd
 outer:=outer
 stack:=envOfC qual scope s.heap.objs.size f cd::outer
 ex:=[]
 calm:=true
 fn:=λ_=>true
 pn:=[]
 xe:=λe s'=>wpAny (model P w) (A.deeper (envOfC qual scope s.heap.objs.size f cd)) (leaving (envOfC qual scope s.heap.objs.size f cd) e) (λ_ kz=>CX outer H s E e kz) (λe' kz=>CX outer H s E e' kz) s'
theorem K8{sc:Scope}{n:Nat}{x:Str}(h:sc.names.lookup x=some .cell):∃c,(cellsFrom n sc.names []).lookup x=some c:=by have q:=PySem.W.cellsFrom_some sc.names n [] (.inl h);exact rZ.mp q
theorem NJ{CX:CXT}{P:Program}{w:World}{K:Fg}{mg:Str->Option Value}{base:Heap}{N ps:List Str}{qual:Str}{scope:Scope}{f:Addr}{cd:Value}{A:Around}{outer:List Env}{s s1:Shared}{H:Hp}{E:XK}{us:List Value}{vs:List V}
  (S:HY N ps scope) (hd:A.handled=none) (e0:UD P w K mg base A outer s H) (hl:vs.length=ps.length) (r:Vals vs us)
  (x:InCallC s s.heap.objs.size (bindL (envOfC qual scope s.heap.objs.size f cd).kindOf (ps.zip us) λ_=>none) (cellsFrom (s.heap.objs.size+1) scope.names []) (bindC (envOfC qual scope s.heap.objs.size f cd).kindOf (ps.zip us) λ_=>none) s1) :
  Inv (LZ CX P w K mg base N qual scope f cd A outer s H E) [] (start N vs) H s1:=by
 have az:ps.length<=N.length:=by have:=congrArg List.length S.pre;rw[rV]at this;lia
 obtain⟨h1,tk,rfl,hk⟩:=x.done;have iL:∀b:Addr,b∉(LZ CX P w K mg base N qual scope f cd A outer s H E).ex:=λb z=>absurd (show b∈([]:List Addr)from z) (by simp)
 refine⟨⟨e0.mod,S.kind,rfl,rfl,qH _,λy z c h1 h2=>?_,λy hy=>?_,λy c _ h=>?_,λ_=>hd,Around.frames_deeper e0.frames,.inr ⟨rfl,rfl⟩,λb z=>absurd z (iL b),e0.bs,e0.zO,λb _ _=>iL b,λb z=>absurd z (iL b),e0.KR,e0.zG⟩,
  rfl,e0.bare,Un.kept hk,⟨_,x.toInCall.ns,λi y v h1 h2 h3=>?_⟩,λy c h=>⟨_,x.cell y c h⟩,e0.z9.fresh (qH _),λy c h=>?_,λp hp=>absurd (show p∈([]:List (Addr×Obj))from hp) (by simp),e0.z9.kept hk,?_⟩
 .exact name_of_addr x.apart (PySem.mem_of_lookup h1) (PySem.mem_of_lookup h2)
 .have hy:scope.names.lookup y=some .cell\/scope.names.lookup y=some .free:=hy;rcases hy with hy|hy
  .exact K8 hy
  .exact absurd rfl (S.zo _ (PySem.mem_of_lookup hy))
 .exact Nat.le_of_lt (x.above y c (PySem.mem_of_lookup h))
 .have hi:i<vs.length:=by
   unfold start at h2;by_cases hi:i<vs.length
   .exact hi
   .rw[List.getElem?_append_right (by simpa using hi)]at h2;rw[List.getElem?_replicate]at h2;split at h2<;>cases h2
  have ha:vs[i]?=some v:=by unfold start at h2;rw[sC (by simpa using hi),qX]at h2;cases e:vs[i]? with|none=>rw[e]at h2;cases h2|some a=>rw[e]at h2;cases h2;rfl
  obtain⟨u,hu,rv⟩:=r.get ha;have hp:ps[i]?=some y:=by rw[<- S.pre,tu (by lia)];exact h1
  have lJ:ps.Nodup:=by rw[<- S.pre];exact S.nd.sublist (List.take_sublist _ _)
  refine⟨u,rv,?_⟩;rcases S.par y (sv hp)with k|k
  .exact .inl ⟨k,Jh lJ hp hu k⟩
  .obtain⟨c,e⟩:=K8 (n:=s.heap.objs.size+1) k;refine .inr ⟨.inl k,c,e,?_⟩;have q:=x.cell y c e;rw[Jj lJ hp hu (by show scope.names.lookup y≠_;rw[k];decide)]at q;exact q
 .exact e0.z9.fresh (Nat.le_of_lt (x.above y c (PySem.mem_of_lookup h)))
 .unfold start;show _=N.length;rw[qA,qw,List.length_replicate]
  lia
section
variable{X:Cx}{x:Str}{p pos:Pos}{e:Expr}{es:List Expr}{t:TA}{id T:String}{r:List V->Hp->VK->Prop}
def tCB(r:List V->Hp->VK->Prop)(t:TA):TE:=λU H Q=>t U H λvs H1=>r vs H1 Q
theorem Hw(hc:CO X (.builtin id) r)(hg:Gl X x)(hm:X.mg x=none)(hv:bootBuiltins x=some (.builtin id))(ha:PA X (e::es) t)(hn:x≠"__name__":=by decide)(aQ:(x==("__debug__":Str))=false:=by decide)
  (he:starEach (e::es) X.env=(false,eval e X.env)::starEach es X.env:=by rfl) (az:(backTo pos (starEach es X.env)).any (·.1)=false:=by rfl):PE X (.Call (.Name x p) (e::es) [] pos) (tCB r t):=by
 intro aa s U H Q I h;refine wpAny_Call_Name_kw (Fb I hg hm hv ?_ hn aQ);exact PyProof.Rows.callWith_builtin1 (thn (ha pos aa s U H _ I h) λus s1 ⟨vs,H1,I1,r1,q1⟩=>hc aa s1 U H1 vs us Q I1 r1 q1) he az
theorem MX(hc:CO X (.type T) r)(hg:Gl X x)(hm:X.mg x=none)(hv:bootBuiltins x=some (.type T))(ha:PA X (e::es) t)(hn:x≠"__name__":=by decide)(aQ:(x==("__debug__":Str))=false:=by decide)
  (he:starEach (e::es) X.env=(false,eval e X.env)::starEach es X.env:=by rfl) (az:(backTo pos (starEach es X.env)).any (·.1)=false:=by rfl):PE X (.Call (.Name x p) (e::es) [] pos) (tCB r t):=by
 intro aa s U H Q I h;refine wpAny_Call_Name_kw (Fb I hg hm hv ?_ hn aQ);exact callWith_type1 (thn (ha pos aa s U H _ I h) λus s1 ⟨vs,H1,I1,r1,q1⟩=>hc aa s1 U H1 vs us Q I1 r1 q1) he az
end
end L2
namespace HT
open PySem PyProof.Rows
section
open PySem.SeqAt
open PySem.AutoSeq1 (wpAny_loadPart')
open PySem.MeetsSeq PySem.MeetsSeq2 PySem.MeetsSeq3
end
section
variable{prog:Program}{w:World}{A:Around}{E:Value->Shared->Prop}{s:Shared}
theorem Ut{t b:Addr}{vs ws:List Value}{Q:Value->Shared->Prop}(ht:IsTup s.heap t vs.toArray)(hb:IsTup s.heap b ws.toArray)(hv:vs≠[])
  (h1:ws=[]->Q (.ref t) s) (h2:ws≠[]->Q (.ref s.heap.objs.size) {s with heap:=s.heap.push {cls:=.type "tuple",data:=.seq (vs++ws).toArray} })
  (hsz:vs.length+ws.length<=sizeLine):wpAny (model prog w) A (binaryOp .Add (.ref t) (.ref b)) Q E s:=by
 obtain⟨⟨cls,dd,data,sl⟩,ho,hc,n,hd⟩:=id ht;obtain⟨⟨ju,gJ,data2,sl2⟩,gu,cn,n2,hd2⟩:=id hb;simp only at hc hd cn hd2;subst hc hd cn hd2;have e:vs.toArray++ws.toArray=(vs++ws).toArray:=by simp
 by_cases hw:ws=[]
 .exact concat_meets ⟨_,ho,rfl⟩ ⟨_,gu,rfl⟩ noFill_tuple_add seq_tuple_add slot_tuple_add entry_tuple_add (args_tuple_add_2 _ _)
   (tuple_addW1 t b vs.toArray ws.toArray n n2 dd gJ sl sl2 (by simpa using hv) (by simp[hw])) ⟨ho,gu,h1 hw⟩
 .refine concat_meets ⟨_,ho,rfl⟩ ⟨_,gu,rfl⟩ noFill_tuple_add seq_tuple_add slot_tuple_add entry_tuple_add (args_tuple_add_2 _ _)
   (tuple_addW2 t b vs.toArray ws.toArray n n2 dd gJ sl sl2 (by simpa using hv) (by simpa using hw) (by rw[qz,qz];exact hsz)) ⟨ho,gu,?_⟩
  rw[e];exact h2 hw
noncomputable def sIx(n d:Nat):Option Int->Nat
 |none=>d
 |some v=>if v<0 then(v+(n:Int)).toNat else min v.toNat n
theorem Vc(n d:Nat)(hd:d<=n)(o:Option Int):sIx n d o<=n:=by
 cases o with
 |none=>exact hd
 |some v =>
  show(if v<0 then(v+(n:Int)).toNat else min v.toNat n)<=n;by_cases hv:v<0
  .rw[if_pos hv];lia
  .rw[if_neg hv];exact Nat.min_le_right _ _
theorem Ov(v:Int)(n d:Nat):(if v<0 then max (v+(n:Int)) 0 else min v (n:Int))=((sIx n d (some v):Nat):Int):=by
 show(if v<0 then max (v+(n:Int)) 0 else min v (n:Int))=(((if v<0 then(v+(n:Int)).toNat else min v.toNat n):Nat):Int);by_cases hv:v<0
 .simp only[if_pos hv];lia
 .simp only[if_neg hv];lia
theorem Mb(lo hi:Option Int)(n:Nat):Builtin.Slice.sliceAdjust lo hi 1 (n:Int)=(((sIx n 0 lo:Nat):Int),((sIx n n hi:Nat):Int)):=by
 have h1:¬((1:Int)<0):=by lia
 unfold Builtin.Slice.sliceAdjust;simp only[h1,if_false];refine Prod.ext ?_ ?_
 .cases lo with|none=>rfl|some v=>exact Ov v n 0
 .cases hi with|none=>rfl|some v=>exact Ov v n n
theorem Lx(i j:Nat):Builtin.Slice.slicePlaces (i:Int) (j:Int) 1=j-i:=by
 unfold Builtin.Slice.slicePlaces;have h1:(1:Int)>0:=by lia
 simp only[h1,if_true,Int.ediv_one];split<;>lia
theorem GL{v:Value}{o:Option Int}{Q:Option Int->Shared->Prop}(p:IsPart v o)(h:Q o s):wpAny (model prog w) A (Builtin.Slice.slicePartIndex v) Q E s:=by cases p with|none=>exact slicePart_none h|int i t=>exact slicePart_int h
theorem Du{sl:Addr}{vl vu:Value}{lo hi:Option Int}{n:Nat}{Q:Int×Int×Nat->Shared->Prop}(hs:s.heap.IsSliceOf sl vl vu .none)(pl:IsPart vl lo)(pu:IsPart vu hi)
  (h:Q (((sIx n 0 lo:Nat):Int),1,sIx n n hi-sIx n 0 lo) s):wpAny (model prog w) A (Builtin.Slice.sliceApplied (.ref sl) (pure (n:Int))) Q E s:=by
 obtain⟨os,gw,gM,gj⟩:=id hs;unfold Builtin.Slice.sliceApplied Builtin.Slice.sliceFields;refine qk (qk (rE gw gj (x:=vl) rfl (qk (rE gw gj (x:=vu) rfl (qk (rE gw gj (x:=.none) rfl (qI ?_)))))));refine qk (slicePart_none ?_);show wpAny _ _ (if((1:Int)==0)=true then _ else _) _ _ s;rw[if_neg (by decide)];refine qk (GL pl (qk (GL pu (qk (qI ?_)))));show wpAny _ _ (match Builtin.Slice.sliceAdjust lo hi 1 (n:Int)with|(lo,hi)=>pure (lo,(1:Int),Builtin.Slice.slicePlaces lo hi 1)) _ _ s;rw[Mb lo hi n];show wpAny _ _ (pure (((sIx n 0 lo:Nat):Int),(1:Int),Builtin.Slice.slicePlaces ((sIx n 0 lo:Nat):Int) ((sIx n n hi:Nat):Int) 1)) _ _ s;rw[Lx];exact qI h
theorem Pj(xs:Array Value)(i k:Nat):((List.range k).filterMap λ(m:Nat)=>xs[((i:Int)+(m:Int)*1).toNat]?).toArray=((xs.toList.drop i).take k).toArray:=by
 have e:(λ(m:Nat)=>xs[((i:Int)+(m:Int)*1).toNat]?)=λm=>xs[i+m]?:=by
  funext m;have:((i:Int)+(m:Int)*1).toNat=i+m:=by lia
  rw[this]
 rw[e];have:=pick_run xs i k;rw[List.filterMap_map]at this;have e2:((λx=>xs[x]?)∘λx=>i+x)=λm=>xs[i+m]?:=rfl
 rw[e2]at this;rw[this]
theorem ES{t sl:Addr}{items:Array Value}{vl vu:Value}{lo hi:Option Int}{Q:Value->Shared->Prop}(ht:IsTup s.heap t items)(hs:s.heap.IsSliceOf sl vl vu .none)(pl:IsPart vl lo)(pu:IsPart vu hi)
  (hw:¬(sIx items.size 0 lo=0/\sIx items.size items.size hi=items.size))
  (h:Q (.ref s.heap.objs.size) {s with heap:=s.heap.push {cls:=.type "tuple",data:=.seq ((items.toList.drop (sIx items.size 0 lo)).take (sIx items.size items.size hi-sIx items.size 0 lo)).toArray} })
  (hsz:items.size<=sizeLine):wpAny (model prog w) A (getItem (.ref t) (.ref sl)) Q E s:=by
 have cO:sizeOk (.seq ((items.toList.drop (sIx items.size 0 lo)).take (sIx items.size items.size hi-sIx items.size 0 lo)).toArray):=by
  show((items.toList.drop (sIx items.size 0 lo)).take (sIx items.size items.size hi-sIx items.size 0 lo)).toArray.size<=sizeLine;rw[qz,rV,rB,sj]
  lia
 have hj:sIx items.size items.size hi<=items.size:=Vc _ _ (qH _) hi;obtain⟨os,gw,gM,gj⟩:=id hs;have jJ:s.TypeIs (.ref sl) "slice":=⟨os,gw,gM⟩
 unfold getItem
 try with_reducible refine wpAny_holding ?_
 first|refine qk (qI ?_)|skip
 refine qk (wpAny_sequenceKey ht.typeIs (by decide) ?_);refine qk (wpAny_callSpecial?_slot (name:=Str.ofString "__getitem__") ht.typeIs slot_tuple_getitem
  (wpAny_call_entry slot_tuple_getitem ht.typeIs entry_tuple_getitem ?_ (args_tuple_getitem _ _)))
 show wpAny _ _ (Builtin.Tuple.tupleItemsOf (.ref t) >>= _) _ _ s;refine qk (tupleItemsOf_ ht ?_);refine qk (wpAny_typeOf jJ ?_);rw[if_pos (by decide)];refine qk (Du hs pl pu ?_);have j8:¬((((sIx items.size 0 lo:Nat):Int)==0&&(1:Int)==1&&(sIx items.size items.size hi-sIx items.size 0 lo)==items.size)=true):=by intro q;rw[qL,qL]at q;have q1:((sIx items.size 0 lo:Nat):Int)=0:=eq_of_beq q.1.1;have q2:sIx items.size items.size hi-sIx items.size 0 lo=items.size:=eq_of_beq q.2;exact hw ⟨by lia,by lia⟩
 show wpAny _ _ (if(((sIx items.size 0 lo:Nat):Int)==0&&(1:Int)==1&&(sIx items.size items.size hi-sIx items.size 0 lo)==items.size)=true then _ else _) _ _ s;rw[if_neg j8,Pj]
 first
  |exact qk (m:=Builtin.Tuple.tupleExact _) (wpAny_newObj_type (qI ⟨_,rfl,qI h⟩) cO)
  |exact qk (m:=Builtin.Tuple.tupleExact _) (wpAny_newObj_type (qk (qI (qI ⟨_,rfl,qI h⟩))) cO)
  |exact qk (qk (m:=Builtin.Tuple.tupleExact _) (wpAny_newObj_type (qI (qI ⟨_,rfl,qI h⟩)) cO))
  |exact qk (qk (m:=Builtin.Tuple.tupleExact _) (wpAny_newObj_type (qI ⟨_,rfl,qI h⟩) cO))
end
end HT
namespace L2
open PySem PySem.Spec PyProof.Rows
abbrev TO:=St->Hp->(Option Int->Hp->Prop)->Prop
def PO(X:Cx)(e:Option Expr)(t:TO):Prop :=
 ∀(aa:List (Addr×Obj))(s:Shared)(U:St)(H:Hp)(Q:Option Int->Hp->Prop),Inv X aa U H s->t U H Q ->
  wpAny (model X.prog X.w) X.A (evalPart e X.env) (λu s'=>∃o H',Inv X aa U H' s'/\IsPart u o/\Q o H') X.xe s
def Sd:TO:=λ_ H Q=>Q none H
def Yi(t:TE):TO:=λU H Q=>t U H λx H1=>∃i,x=.int i/\Q (some i) H1
theorem intsAre_of{ns:List Int}:∀{us:List Value},Vals (ns.map V.int) us->IntsAre us ns:=by induction ns with|nil=>intro us r;rw[sE]at r;cases r;exact .nil|cons n ns ih =>intro us r;rw[qm]at r;cases r with|cons r1 r2 =>obtain⟨t,e⟩:=r1;subst e;exact .cons n t (ih r2)
section
variable{X:Cx}{e:Expr}{te:TE}{lo hi:Option Expr}{tl th:TO}{pos p2:Pos}
theorem Sr:PO X none Sd:=by intro aa s U H Q I h;rw[evalPart_none];exact qI ⟨none,H,I,.none,h⟩
theorem Sq(h:PE X e te):PO X (some e) (Yi te):=by
 intro aa s U H Q I hw;rw[evalPart_some];refine thn (h aa s U H _ I hw) λu s1 ai=>?_
 obtain⟨x,H1,I1,r1,q1⟩:= ai;obtain⟨i,rfl,q⟩:=q1;obtain⟨t,rfl⟩:=r1;exact⟨some i,H1,I1,.int i t,q⟩
def SlR(X:Cx)(r:V->Option Int->Option Int->Hp->VK->Prop):Prop :=
 ∀(aa:List (Addr×Obj))(s:Shared)(U:St)(H:Hp)(x:V)(v vl vu:Value)(lo hi:Option Int)(sl:Addr)(Q:VK),Inv X aa U H s->RelV x v->s.heap.IsSliceOf sl vl vu .none->IsPart vl lo->IsPart vu hi->r x lo hi H Q ->
  ∃T id,typeLookup (.type T) "__getitem__"=pure (some (.builtin id))/\s.TypeIs v T/\wpAny (model X.prog X.w) X.A (getItem v (.ref sl)) (EP X aa U Q) X.xe s
theorem SlR.or{r r':V->Option Int->Option Int->Hp->VK->Prop}(h:SlR X r)(h':SlR X r'):SlR X (λx lo hi H Q=>r x lo hi H Q\/r' x lo hi H Q):=by
 intro aa s U H x v vl vu lo hi sl Q I rx hs pl pu q;rcases q with q|q
 .exact h aa s U H x v vl vu lo hi sl Q I rx hs pl pu q
 .exact h' aa s U H x v vl vu lo hi sl Q I rx hs pl pu q
def tSl(r:V->Option Int->Option Int->Hp->VK->Prop)(te:TE)(tl th:TO):TE:=λU H Q=>te U H λx H1=>tl U H1 λl H2=>th U H2 λu H3=>r x l u H3 Q
theorem Kr{r:V->Option Int->Option Int->Hp->VK->Prop}(hr:SlR X r)(he:PE X e te)(hl:PO X lo tl)(hu:PO X hi th):PE X (.Subscript e (.Slice lo hi none p2) pos) (tSl r te tl th):=by
 intro aa s U H Q I h;refine Subscript_ (thn (he aa s U H _ I h) λv s1 ai=>?_);obtain⟨x,H1,I1,r1,q1⟩:= ai;refine wpAny_Slice (thn (hl aa s1 U H1 _ I1 q1) λvl s2 ⟨l,H2,I2,pl,q2⟩=>thn (hu aa s2 U H2 _ I2 q2) λvu s3 ai=>?_);obtain⟨u,H3,I3,pu,q3⟩:= ai;rw[evalPart_none];refine qI ?_;have I4:Inv X aa U H3 {s3 with heap:=s3.heap.push {cls:=.type "slice",data:=.fields #[vl,vu,.none]} }:=I3.kept (t':=s3.toks) λb ob q=>ql _ q
 obtain⟨T,id,hT,ht,hg⟩:=hr aa {s3 with heap:=s3.heap.push {cls:=.type "slice",data:=.fields #[vl,vu,.none]} } U H3 x v vl vu l u s3.heap.objs.size Q I4 r1 (Heap.IsSliceOf.new ..) pl pu q3;show wpAny (model X.prog X.w) X.A (subscriptTail e (.Slice lo hi none p2) v (.ref s3.heap.objs.size)) (EP X aa U Q) X.xe {s3 with heap:=s3.heap.push {cls:=.type "slice",data:=.fields #[vl,vu,.none]} };exact tail_any (ops:=[.ref s3.heap.objs.size,v]) ht hT hg (by with_unfolding_all rfl)
noncomputable def RQ(xs:List V)(lo hi:Option Int):List V:=(xs.drop (HT.sIx xs.length 0 lo)).take (HT.sIx xs.length xs.length hi-HT.sIx xs.length 0 lo)
theorem Gm(xs:List V)(lo hi:Option Int):(RQ xs lo hi).length<=xs.length:=by
 unfold RQ;rw[rV,rB]
 lia
def Z8(K:Fg):V->Option Int->Option Int->Hp->VK->Prop:=λx lo hi H Q=>∃a xs,x=.ref a/\SqT K H a xs /\
 ¬(HT.sIx xs.length 0 lo=0/\HT.sIx xs.length xs.length hi=xs.length)/\∀p,H p=none->Q (.ref p) (upd H p (.tup (RQ xs lo hi)))
theorem U7:SlR X (Z8 X.K):=by
 intro aa s U H x v vl vu lo hi sl Q I rx hs pl pu h;obtain⟨a,xs,rfl,hx,hw,q⟩:=h;cases rx;obtain⟨ah,r,ht,hz⟩:=I.tuple hx;have hlen:ah.toArray.size=xs.length:=by rw[qz];exact r.length.symm
 refine⟨"tuple",_,PyProof.Rows.slot_tuple_getitem.lookup,ht.typeIs,?_⟩;refine HT.ES ht hs pl pu (by rw[hlen];exact hw) ?_ (by rw[hlen];exact hz);rw[hlen];refine⟨.ref s.heap.objs.size,_,I.laid (t':=s.toks) (o:=.tup (RQ xs lo hi)) (λb ob q=>ql _ q) (qH _) ?_,rfl,q _ (I.z9.fresh (qH _))⟩;exact⟨qS (Gm xs lo hi) hz,_,(r.drop (HT.sIx xs.length 0 lo)).take (HT.sIx xs.length xs.length hi-HT.sIx xs.length 0 lo),IsTup.new _ _⟩
def Vj(K:Fg):R2:=λx y H Q=>∃a b xs ys,x=.ref a/\y=.ref b/\SqT K H a xs/\SqT K H b ys/\xs≠[]/\xs.length+ys.length<=sizeLine /\
 (ys=[]->Q (.ref a) H)/\(ys≠[]->∀p,H p=none->Q (.ref p) (upd H p (.tup (xs++ys))))
theorem Vals.JK{xs:List V}{us:List Value}(r:Vals xs us):us=[]↔xs=[]:=by cases r with|nil=>simp|cons _ _=>simp
theorem SG:OpR X (binaryOp .Add) (Vj X.K):=by intro aa s U H x y v u Q I rx ry h;obtain⟨a,b,xs,ys,rfl,rfl,ha,hb,hx,hz,q1,q2⟩:=h;cases rx;cases ry;obtain⟨ah,r1,p1,_⟩:=I.tuple ha;obtain⟨aI,r2,p2,_⟩:=I.tuple hb;refine HT.Ut p1 p2 (λz=>hx (r1.JK.mp z)) (λz=>⟨.ref a,H,I,rfl,q1 (r2.JK.mp z)⟩) (λz=>?_) (by rw[<- r1.length,<- r2.length];exact hz);refine⟨.ref s.heap.objs.size,_,I.laid (t':=s.toks) (o:=.tup (xs++ys)) (λb ob q=>ql _ q) (qH _) ?_,rfl,q2 (λw=>z (r2.JK.mpr w)) _ (I.z9.fresh (qH _))⟩;exact⟨by rw[qA];exact hz,_,r1.append r2,IsTup.new _ _⟩
end
noncomputable def ixN(n:Nat)(i:Int):Option Nat:=if 0<=i then(if i<n then some i.toNat else none)else if -(n:Int)<=i then some (i+n).toNat else none
noncomputable def atI{α:Type}(xs:List α)(i:Int):Option α:=(ixN xs.length i).bind λj=>xs[j]?
theorem NG{n:Nat}{i:Int}{j:Nat}(h:ixN n i=some j):seqIndex? i n=some j/\j<n/\-(n:Int)<=i/\i<n:=by
 unfold ixN at h;by_cases h0:0<=i
 .rw[if_pos h0]at h;by_cases h1:i<n
  .rw[if_pos h1]at h;have e:i.toNat=j:=Option.some.inj h;exact⟨by rw[seqIndex_of h0 h1,e],by lia,by lia,h1⟩
  .rw[if_neg h1]at h;cases h
 .rw[if_neg h0]at h;by_cases h1:-(n:Int)<=i
  .rw[if_pos h1]at h;have e:(i+n).toNat=j:=Option.some.inj h;exact⟨by rw[seqIndex_neg (by lia) h1,e],by lia,h1,by lia⟩
  .rw[if_neg h1]at h;cases h
theorem J7{α:Type}{xs:List α}{i:Int}{v:α}(h:atI xs i=some v):∃j,seqIndex? i xs.length=some j/\xs[j]?=some v/\j<xs.length/\-(xs.length:Int)<=i/\i<xs.length:=by unfold atI at h;cases e:ixN xs.length i with|none=>rw[e]at h;cases h|some j =>rw[e]at h;obtain⟨h1,h2,h3,h4⟩:=NG e;exact⟨j,h1,h,h2,h3,h4⟩
theorem AN{α:Type}{xs:List α}{j:Nat}{v:α}(h:xs[j]?=some v):atI xs (j:Int)=some v:=by
 have hj:j<xs.length:=(qN.mp h).1;have e:ixN xs.length (j:Int)=some j:=by unfold ixN;rw[if_pos (by lia),if_pos (by lia)];simp
 unfold atI;rw[e];exact h
theorem QN{α:Type}(xs:List α)(v:α):atI (xs++[v]) (-1)=some v:=by
 have hl:(xs++[v]).length=xs.length+1:=by simp
 have e:ixN (xs++[v]).length (-1)=some xs.length:=by
  unfold ixN;rw[hl,if_neg (by decide),if_pos (by lia)];congr 1
  lia
 unfold atI;rw[e];show(xs++[v])[xs.length]?=some v;simp
def HX(b:Expr):Prop:=∀o i,subscripted b false o i=operate [o,i] (getItem o i)
def IxR(X:Cx)(r:R2):Prop :=
 ∀(value slice:Expr)(aa:List (Addr×Obj))(s:Shared)(U:St)(H:Hp)(x y:V)(v u:Value)(Q:VK),Inv X aa U H s->RelV x v->RelV y u->r x y H Q ->
  subscripted slice false v u=operate [v,u] (getItem v u)->wpAny (model X.prog X.w) X.A (subscriptTail value slice v u) (EP X aa U Q) X.xe s
def MtR(X:Cx)(id:String)(r:V->List V->Hp->VK->Prop):Prop :=
 ∀(aa:List (Addr×Obj))(s:Shared)(U:St)(H:Hp)(x:V)(xs:List V)(v:Value)(us:List Value)(Q:VK),Inv X aa U H s->RelV x v->Vals xs us->r x xs H Q ->
  wpAny (model X.prog X.w) X.A (call (.builtin id) (v::us)) (EP X aa U Q) X.xe s
section
variable{X:Cx}{a b:Expr}{ta tb:TE}{pos:Pos}
theorem IxR.or{r r':R2}(h:IxR X r)(h':IxR X r'):IxR X (λx y H Q=>r x y H Q\/r' x y H Q):=by
 intro value slice aa s U H x y v u Q I rx ry q hs;rcases q with q|q
 .exact h value slice aa s U H x y v u Q I rx ry q hs
 .exact h' value slice aa s U H x y v u Q I rx ry q hs
theorem MW{r:R2}(hr:IxR X r)(ha:PE X a ta)(hb:PE X b tb)(hs:HX b):PE X (.Subscript a b pos) (tOp r ta tb):=by intro aa s U H Q I h;exact Subscript_ (Zz ha hb I h λv u s2 x y H2 I2 rx ry q=>hr a b aa s2 U H2 x y v u Q I2 rx ry q (hs _ _))
def ZN(K:Fg):R2:=λx y H Q=>∃p xs i v,x=.ref p/\y=.int i/\SqL K H p xs/\atI xs i=some v/\Q v H
def ZL(K:Fg):R2:=λx y H Q=>∃p xs i v,x=.ref p/\y=.int i/\SqT K H p xs/\atI xs i=some v/\Q v H
def ZM:R2:=λx y H Q=>∃z i c,x=.str z/\y=.int i/\z.length<=sizeLine/\atI z.cps.toList i=some c/\Q (.str ⟨#[c]⟩) H
theorem HH:IxR X (ZN X.K):=by
 intro value slice aa s U H x y v u Q I rx ry h hs;obtain⟨p,xs,i,z,rfl,rfl,hq,he,q⟩:=h;cases rx;obtain⟨t,rfl⟩:=ry;obtain⟨ah,r,pl,hz⟩:=I.list hq;obtain⟨j,h1,h2,h3,h4,h5⟩:=J7 he;obtain⟨w,ew,df⟩:=r.get h2;have hl:=r.length;have hn:=F7;have aV:EP X aa U Q w s:=⟨z,H,I,df,q⟩
 by_cases h0:0<=i
 .have hj:i.toNat=j:=by rw[seqIndex_of h0 h5]at h1;exact Option.some.inj h1
  exact item_listR pl.isList h0 (by lia) (by rw[hj];simpa using ew) aV hs
 .have hj:(i+(ah.toArray.size:Int)).toNat=j:=by rw[seqIndex_neg (by lia) h4]at h1;rw[qz,<- hl];exact Option.some.inj h1
  exact subscriptTail_builtinR (x:=w) pl.isList.typeIs slot_list_getitem.lookup
   (wpAny_getItem_list_neg (Q:=λr s'=>r=w/\EP X aa U Q r s') pl.isList (by lia) (by rw[qz]<;>lia) (by lia) (by rw[hj];simpa using ew) ⟨rfl,aV⟩) hs
theorem Wg:IxR X (ZL X.K):=by
 intro value slice aa s U H x y v u Q I rx ry h hs;obtain⟨p,xs,i,z,rfl,rfl,hq,he,q⟩:=h;cases rx;obtain⟨t,rfl⟩:=ry;obtain⟨ah,r,pl,hz⟩:=I.tuple hq;obtain⟨j,h1,h2,h3,h4,h5⟩:=J7 he;obtain⟨w,ew,df⟩:=r.get h2;have hl:=r.length;have hn:=F7;have aV:EP X aa U Q w s:=⟨z,H,I,df,q⟩
 exact subscriptTail_builtinR (x:=w) pl.typeIs slot_tuple_getitem.lookup
  (getItem_tuple (j:=j) (Q:=λr s'=>r=w/\EP X aa U Q r s') pl (by lia) (by lia) (by rw[qz,<- hl];exact h1) (by simpa using ew) ⟨rfl,aV⟩) hs
theorem Wh:IxR X ZM:=by
 intro value slice aa s U H x y v u Q I rx ry h hs;obtain⟨z,i,c,rfl,rfl,hz,he,q⟩:=h;obtain⟨t,rfl⟩:=rx;obtain⟨t',rfl⟩:=ry;obtain⟨j,h1,h2,h3,h4,h5⟩:=J7 he;have hl:z.cps.toList.length=z.length:=by simp[Str.length]
 rw[hl]at h1 h4 h5;have hn:=F7;exact tail_any (typeIs_str s z t) slot_str_getitem.lookup (getItem_str (c:=c) (by have e1:decide (i < -(2^63:Int))=false:=qv (by lia);have e2:decide (i>=2^63)=false:=qv (by lia);rw[e1,e2,Bool.or_false]) (by rw[h1];simpa using h2) ⟨.str ⟨#[c]⟩,H,I.tok _,⟨_,rfl⟩,q⟩) hs
def rIx(K:Fg):R2:=λx y H Q=>ZN K x y H Q\/ZL K x y H Q\/ZM x y H Q
theorem Wi:IxR X (rIx X.K):=HH.or (Wg.or Wh)
theorem LI(ah:List Value)(n j:Nat)(u:Value):Obj.mapSeq (·.setIfInBounds j u) {cls:=.type "list",data:=.seq ah.toArray n}={cls:=.type "list",data:=.seq (ah.set j u).toArray n}:=by simp[Obj.mapSeq]
theorem Inv.lst{aa:List (Addr×Obj)}{U:St}{H:Hp}{s:Shared}{p:Addr}{xs:List V}(I:Inv X aa U H s)(h:H p=some (.lst xs)) :
  ∃(ah:List Value)(n:Nat),Vals xs ah/\s.heap.get? p=some {cls:=.type "list",data:=.seq ah.toArray n}/\xs.length<=sizeLine:=by
 obtain⟨z,ah,n,r,e⟩:=I.z9 p _ h;exact⟨ah,n,r,e,z⟩
theorem Inv.V7{aa:List (Addr×Obj)}{U:St}{H:Hp}{s:Shared}{p:Addr}{xs ys:List V}{ah aA:List Value}{n n':Nat}{f:Obj->Obj}(I:Inv X aa U H s)(h:H p=some (.lst xs))
  (ho:s.heap.get? p=some {cls:=.type "list",data:=.seq ah.toArray n}) (hf:f {cls:=.type "list",data:=.seq ah.toArray n}={cls:=.type "list",data:=.seq aA.toArray n' }) (r:Vals ys aA) (hz:ys.length<=sizeLine) (t:Nat) :
  Inv X aa U (upd H p (.lst ys)) {s with heap:=s.heap.update p f,toks:=t}:=by
 have e:(s.heap.update p f).get? p=some {cls:=.type "list",data:=.seq aA.toArray n' }:=by rw[sr f ho (by rw[hf]<;>rfl),hf]
 refine I.write (x:=p) (e:=p) (by rw[h];trivial) (.inl rfl) (λb u hb q=>(rN _ _ (Ne.symm hb)).trans q) ⟨_,e⟩ ?_;exact⟨hz,aA,n',r,e⟩
def O6:V->V->V->Hp->(Hp->Prop)->Prop:=λo i v H Q=>∃p xs k j,o=.ref p/\i=.int k/\H p=some (.lst xs)/\ixN xs.length k=some j/\Q (upd H p (.lst (xs.set j v)))
theorem set_list:QR X O6:=by
 intro aa s U H o i v ov iv u Q I ro ri rv h;obtain⟨p,xs,k,j,rfl,rfl,hp,hj,q⟩:=h;cases ro;obtain⟨t,rfl⟩:=ri;obtain⟨ah,n,r,ho,hz⟩:=I.lst hp;obtain⟨h1,h2,h3,h4⟩:=NG hj;have hl:=r.length;have hn:=F7;have I':Inv X aa U (upd H p (.lst (xs.set j v))) {s with heap:=s.heap.update p (Obj.mapSeq (·.setIfInBounds j u))} :=
  I.V7 hp ho (LI ah n j u) (r.set rv j) (by rw[List.length_set];exact hz) s.toks
 by_cases h0:0<=k
 .have hk:k.toNat=j:=by rw[seqIndex_of h0 h4]at h1;exact Option.some.inj h1
  exact PySem.W.ki_setAt ho h0 (by lia) (by rw[qz,<- hl];exact h4) (by rw[hk];exact⟨_,I',q⟩)
 .have hk:(k+(ah.toArray.size:Int)).toNat=j:=by rw[seqIndex_neg (by lia) h3]at h1;rw[qz,<- hl];exact Option.some.inj h1
  exact PySem.W.ki_setBack ho (by lia) (by rw[qz,<- hl];exact h3) (by lia) (by rw[hk];exact⟨_,I',q⟩)
theorem Ik(lo hi:Option Int)(n:Nat):(sliceBounds lo hi none n).1=((HT.sIx n 0 lo:Nat):Int)/\(sliceBounds lo hi none n).2.1=((HT.sIx n n hi:Nat):Int)/\(sliceBounds lo hi none n).2.2=1:=by
 refine⟨?_,?_,rfl⟩
 .cases lo with
  |none=>simp[sliceBounds,HT.sIx]
  |some i =>
   simp only[sliceBounds,HT.sIx,Option.getD_none,show(1:Int)>0 by decide,if_true];by_cases h:i<0
   .simp only[h,if_true]<;>lia
   .simp only[h,if_false]<;>lia
 .cases hi with
  |none=>simp[sliceBounds,HT.sIx]
  |some i =>
   simp only[sliceBounds,HT.sIx,Option.getD_none,show(1:Int)>0 by decide,if_true];by_cases h:i<0
   .simp only[h,if_true]<;>lia
   .simp only[h,if_false]<;>lia
theorem Hj(ah:List Value)(lo hi:Option Int):slicePick ah.toArray lo hi none=((ah.drop (HT.sIx ah.length 0 lo)).take (HT.sIx ah.length ah.length hi-HT.sIx ah.length 0 lo)).toArray:=by obtain⟨h1,h2,h3⟩:=Ik lo hi ah.toArray.size;unfold slicePick;rw[h1,h2,h3];simp only[sliceRange_one,pick_run,qz]<;>rfl
def Jaa(K:Fg):V->Option Int->Option Int->Hp->VK->Prop:=λx lo hi H Q=>∃a xs,x=.ref a/\SqL K H a xs/\∀p,H p=none->Q (.ref p) (upd H p (.lst (RQ xs lo hi)))
theorem Sh:SlR X (Jaa X.K):=by intro aa s U H x v vl vu lo hi sl Q I rx hs pl pu h;obtain⟨a,xs,rfl,hx,q⟩:=h;cases rx;obtain⟨ah,r,ht,hz⟩:=I.list hx;have hlen:=r.length;refine⟨"list",_,slot_list_getitem.lookup,ht.isList.typeIs,?_⟩;refine wpAny_getItem_list_slice ht.isList hs pl pu .none (by simp) ?_ (by rw[qz]<;>lia);rw[Hj,<- hlen];refine⟨.ref s.heap.objs.size,_,I.laid (t':=s.toks) (o:=.lst (RQ xs lo hi)) (λb ob q=>ql _ q) (qH _) ?_,rfl,q _ (I.z9.fresh (qH _))⟩;exact⟨qS (Gm xs lo hi) hz,_,0,(r.drop (HT.sIx xs.length 0 lo)).take (HT.sIx xs.length xs.length hi-HT.sIx xs.length 0 lo),qO _ rfl⟩
noncomputable def D9:V->Bool
 |.l=>true
 |.o _=>true
 |.int _=>true
 |.str _=>true
 |_=>false
noncomputable def eqV:V->V->Bool
 |.l,.l=>true
 |.o a,.o b=>a==b
 |.o a,.int b=>(if a then 1 else 0)==b
 |.int a,.o b=>a==(if b then 1 else 0)
 |.int a,.int b=>a==b
 |.str a,.str b=>a==b
 |_,_=>false
theorem RN{A:Around}{s:Shared}{y x:V}{u v:Value}(ry:RelV y u)(rx:RelV x v)(fy:D9 y=true)(fx:D9 x=true):SeqAt.EqAt A s u v (eqV y x):=by
 cases y with
 |l =>cases ry;cases x with|l=>cases rx;exact SeqAt.EqAt.same _|o b=>cases rx;exact SeqAt.EqAt.none_bool b|int b=>obtain⟨t,rfl⟩:=rx;exact SeqAt.EqAt.none_int b t|str b=>obtain⟨t,rfl⟩:=rx;exact SeqAt.EqAt.none_str b t|_=>exact absurd (show false=true from fx) qR
 |o a =>cases ry;cases x with|l=>cases rx;exact SeqAt.EqAt.bool_none a|o b=>cases rx;exact SeqAt.EqAt.bool_bool a b|int b=>obtain⟨t,rfl⟩:=rx;exact SeqAt.EqAt.bool_int a b t|str b=>obtain⟨t,rfl⟩:=rx;exact SeqAt.EqAt.bool_str a b t|_=>exact absurd (show false=true from fx) qR
 |int a =>obtain⟨t',rfl⟩:=ry;cases x with|l=>cases rx;exact SeqAt.EqAt.int_none a t'|o b=>cases rx;exact SeqAt.EqAt.int_bool a t' b|int b=>obtain⟨t,rfl⟩:=rx;exact SeqAt.EqAt.int_int a t' b t|str b=>obtain⟨t,rfl⟩:=rx;exact SeqAt.EqAt.int_str a t' b t|_=>exact absurd (show false=true from fx) qR
 |str a =>obtain⟨t',rfl⟩:=ry;cases x with|l=>cases rx;exact SeqAt.EqAt.str_none a t'|o b=>cases rx;exact SeqAt.EqAt.str_bool a t' b|int b=>obtain⟨t,rfl⟩:=rx;exact SeqAt.EqAt.str_int a t' b t|str b=>obtain⟨t,rfl⟩:=rx;exact SeqAt.EqAt.str_str a t' b t|_=>exact absurd (show false=true from fx) qR
 |_=>exact absurd (show false=true from fy) qR
noncomputable def eqU(x:V)(u:Value):Bool:=match u with|.none=>eqV .l x|.bool b=>eqV (.o b) x|.int i _=>eqV (.int i) x|.str z _=>eqV (.str z) x|_=>false
theorem RM{x y:V}{u:Value}(r:RelV y u)(f:D9 y=true):eqU x u=eqV y x:=by cases y with|l=>cases r;rfl|o b=>cases r;rfl|int i=>obtain⟨t,rfl⟩:=r;rfl|str z=>obtain⟨t,rfl⟩:=r;rfl|_=>exact absurd (show false=true from f) qR
theorem Gx{x:V}:∀{xs:List V}{us:List Value},Vals xs us->xs.all D9=true->us.any (eqU x)=xs.any λy=>eqV y x
 |_,_,.nil,_=>rfl
 |y::xs,u::us,.cons r t,f=>by rw[List.all_cons,qL]at f;rw[si,si,RM r f.1,Gx t f.2]
theorem Em{A:Around}{s:Shared}{x:V}{v:Value}(rx:RelV x v)(fx:D9 x=true):∀{xs:List V}{us:List Value},Vals xs us->xs.all D9=true->∀u∈us,SeqAt.EqAt A s u v (eqU x u)
 |_,_,.nil,_=>λu hu=>by cases hu
 |y::xs,u::us,.cons r t,f=>λu' hu=>by
  rw[List.all_cons,qL]at f;rcases qK.mp hu with rfl|hu
  .rw[RM r f.1];exact RN r rx f.1 fx
  .exact Em rx fx t f.2 u' hu
noncomputable def inV(x:V)(xs:List V):Bool:=xs.any λy=>eqV y x
def rIn(K:Fg)(neg:Bool):R2:=λx y H Q=>∃p xs,y=.ref p/\(SqL K H p xs\/SqT K H p xs)/\D9 x=true/\xs.all D9=true/\Q (.o (if neg then !inV x xs else inV x xs)) H
theorem FR:OpR X (compareOp .In) (rIn X.K false):=by
 intro aa s U H x y v u Q I rx ry h;obtain⟨p,xs,rfl,hq,fx,fs,q⟩:=h;cases ry;rcases hq with hq|hq
 .obtain⟨ah,r,pl,hz⟩:=I.list hq;refine SeqAt.in_listAt (eqU x) pl.isList (λw hw=>Em rx fx r fs w (by simpa using hw)) ⟨.o _,H,I,rfl,?_⟩;rw[show ah.toArray.any (eqU x)=ah.any (eqU x) by simp,Gx r fs];exact q
 .obtain⟨ah,r,pl,hz⟩:=I.tuple hq;refine SeqAt.in_tupleAt (eqU x) pl (λw hw=>Em rx fx r fs w (by simpa using hw)) ⟨.o _,H,I,rfl,?_⟩;rw[show ah.toArray.any (eqU x)=ah.any (eqU x) by simp,Gx r fs];exact q
theorem DB:OpR X (compareOp .NotIn) (rIn X.K true):=by
 intro aa s U H x y v u Q I rx ry h;obtain⟨p,xs,rfl,hq,fx,fs,q⟩:=h;cases ry;rcases hq with hq|hq
 .obtain⟨ah,r,pl,hz⟩:=I.list hq;refine SeqAt.notIn_listAt (eqU x) pl.isList (λw hw=>Em rx fx r fs w (by simpa using hw)) ⟨.o _,H,I,rfl,?_⟩;rw[show ah.toArray.any (eqU x)=ah.any (eqU x) by simp,Gx r fs];exact q
 .obtain⟨ah,r,pl,hz⟩:=I.tuple hq;refine SeqAt.notIn_tupleAt (eqU x) pl (λw hw=>Em rx fx r fs w (by simpa using hw)) ⟨.o _,H,I,rfl,?_⟩;rw[show ah.toArray.any (eqU x)=ah.any (eqU x) by simp,Gx r fs];exact q
theorem Iy:OpR X (compareOp .NotIn) (λx y H Q=>∃i j,x=.str i/\y=.str j/\Q (.o (!(!(Builtin.Str.occurrences j i 0 j.length 1).isEmpty))) H):=by intro aa s U H x y v u Q I rx ry h;obtain⟨i,j,rfl,rfl,q⟩:=h;obtain⟨t,rfl⟩:=rx;obtain⟨t',rfl⟩:=ry;exact notIn_str ⟨.o _,H,I,rfl,q⟩
theorem Je:CO X (.builtin "len") (λxs H Q=>∃p ys,xs=[.ref p]/\(SqL X.K H p ys\/SqT X.K H p ys)/\Q (.int ys.length) H):=by
 intro aa s U H xs us Q I r h;obtain⟨p,ys,rfl,hq,q⟩:=h;obtain⟨u,rfl,rx⟩:=vals1 r;cases rx;have hn:=F7;rcases hq with hq|hq
 .obtain⟨ah,r',pl,hz⟩:=I.list hq;have hlen:=r'.length;exact Calls.call_len_list pl.isList (by simp only[qz]<;>lia) ⟨.int ys.length,H,I.tok _,⟨s.toks+1,by rw[qz,hlen]⟩,q⟩
 .obtain⟨ah,r',pl,hz⟩:=I.tuple hq;have hlen:=r'.length;exact len_tuple pl (by simp only[qz]<;>lia) ⟨.int ys.length,H,I.tok _,⟨s.toks+1,by rw[qz,hlen]⟩,q⟩
theorem Jd:CO X (.builtin "len") (λxs H Q=>∃z,xs=[.str z]/\z.length<=sizeLine/\Q (.int z.length) H):=by intro aa s U H xs us Q I r h;obtain⟨z,rfl,hz,q⟩:=h;obtain⟨u,rfl,t,rfl⟩:=vals1 r;have hn:=F7;exact len_str (by lia) ⟨.int z.length,H,I.tok _,⟨_,rfl⟩,q⟩
theorem Jc:CO X (.type "list") (λxs H Q=>∃p ys,xs=[.ref p]/\(SqL X.K H p ys\/SqT X.K H p ys)/\∀l,H l=none->Q (.ref l) (upd H l (.lst ys))):=by
 intro aa s U H xs us Q I r h;obtain⟨p,ys,rfl,hq,q⟩:=h;obtain⟨u,rfl,rx⟩:=vals1 r;cases rx;have aV:∀(ah:List Value),Vals ys ah->ys.length<=sizeLine->∀(h':Heap)(c':Nat),(∀b o',s.heap.get? b=some o'->h'.get? b=some o') ->
   h'.get? s.heap.objs.size=some {cls:=.type "list",dict:=none,data:=.seq ah.toArray c',slots:=#[]}->EP X aa U Q (.ref s.heap.objs.size) {s with heap:=h' }:=λah r' hz h' c' kp e =>
  ⟨.ref s.heap.objs.size,_,I.laid (t':=s.toks) kp (qH _) (show Ca X.prog X.w _ h' _ (.lst ys)from⟨hz,ah,c',r',e⟩),rfl,q _ (I.z9.fresh (qH _))⟩
 rcases hq with hq|hq
 .obtain⟨ah,r',pl,hz⟩:=I.list hq;have hlen:=r'.length;obtain⟨o,ho,hc,n,hd⟩:=pl.isList;exact call_list_seq p (.inl rfl) ho hc hd (λh' c' kp e=>aV ah r' hz h' c' kp e) (by simp only[qz]<;>lia)
 .obtain⟨ah,r',pl,hz⟩:=I.tuple hq;have hlen:=r'.length;obtain⟨o,ho,hc,n,hd⟩:=pl;exact call_list_seq p (.inr rfl) ho hc hd (λh' c' kp e=>aV ah r' hz h' c' kp e) (by simp only[qz]<;>lia)
theorem HS:CO X (.type "tuple") (λxs H Q=>∃p ys,xs=[.ref p]/\((SqL X.K H p ys/\∀l,H l=none->Q (.ref l) (upd H l (.tup ys)))\/(SqT X.K H p ys/\Q (.ref p) H))):=by
 intro aa s U H xs us Q I r h;obtain⟨p,ys,rfl,h⟩:=h;obtain⟨u,rfl,rx⟩:=vals1 r;cases rx;rcases h with⟨hq,q⟩|⟨hq,q⟩
 .obtain⟨ah,r',pl,hz⟩:=I.list hq;have hlen:=r'.length;refine call_tuple_list pl.isList (λh' kp=>?_) (by simp only[qz]<;>lia);have I1:Inv X aa U H {s with heap:=h' }:=I.kept (t':=s.toks) kp;have I2:Inv X aa U (upd H h'.objs.size (.tup ys)) {s with heap:=h'.push {cls:=.type "tuple",data:=.seq ah.toArray} } :=
   I1.laid (t':=s.toks) (λb o e=>ql _ e) (qH _) (show Ca X.prog X.w _ _ _ (.tup ys)from⟨hz,ah,r',IsTup.new _ _⟩)
  exact⟨.ref h'.objs.size,_,I2,rfl,q _ (I1.z9.fresh (qH _))⟩
 .obtain⟨ah,r',pl,hz⟩:=I.tuple hq;exact call_tuple_same pl ⟨.ref p,H,I,rfl,q⟩
def tyV(K:Fg)(T:String)(x:V)(H:Hp):Prop:=match x with
 |.str _=>T="str"
 |.int _=>T="int"
 |.ref p=>(T="list"/\∃xs,SqL K H p xs)\/(T="tuple"/\∃o,K.lookup p=some o/\o.cls=.type "tuple"/\o.dict=none)\/
   (T="dict"/\((∃af,H p=some (.v af))\/∃af,H p=some (.dT af)))\/(T="set"/\∃S n,H p=some (.set S n))
 |_=>False
theorem QV{aa:List (Addr×Obj)}{U:St}{H:Hp}{s:Shared}{T:String}{x:V}{v:Value}(I:Inv X aa U H s)(r:RelV x v)(ty:tyV X.K T x H) :
  s.TypeIs v T/\∀a,v=.ref a->∃ob,s.heap.get? a=some ob/\ob.dict=none:=by
 cases x with
 |str z =>obtain⟨t,rfl⟩:=r;cases(show T="str" from ty);exact⟨typeIs_str s z t,λ_ e=>nomatch e⟩
 |int i =>obtain⟨t,rfl⟩:=r;cases(show T="int" from ty);exact⟨typeIs_int s i t,λ_ e=>nomatch e⟩
 |ref p =>
  cases r;rcases ty with⟨rfl,xs,hq⟩|⟨rfl,o,hk,hc,hd⟩|⟨rfl,hk⟩|⟨rfl,S,n,hk⟩
  .obtain⟨ah,_,pl,_⟩:=I.list hq;refine⟨pl.isList.typeIs,λa e=>?_⟩;cases e;obtain⟨o,n,e,c,hd,_⟩:=pl;exact⟨o,e,hd⟩
  .refine⟨⟨o,I.kIn p o hk,hc⟩,λa e=>?_⟩;cases e;exact⟨o,I.kIn _ o hk,hd⟩
  .have z:∃o,s.heap.get? p=some o/\o.ExactDict:=by
    rcases hk with⟨af,hk⟩|⟨af,hk⟩
    .obtain⟨_,_,_,_,o,_,_,e,ex,_⟩:=I.z9 p _ hk;exact⟨o,e,ex⟩
    .obtain⟨_,_,_,_,o,_,_,e,ex,_⟩:=I.z9 p _ hk;exact⟨o,e,ex⟩
   obtain⟨o,e,ex⟩:=z;refine⟨⟨o,e,ex.1⟩,λa e2=>?_⟩;cases e2;exact⟨o,e,ex.2.1⟩
  .obtain⟨o,_,_,_,e,ex,_⟩:=I.z9 p _ hk;refine⟨⟨o,e,ex.1⟩,λa e2=>?_⟩;cases e2;exact⟨o,e,ex.2.1⟩
 |_=>exact False.elim ty
def Z5(K:Fg)(T:String)(r:V->List V->Hp->VK->Prop)(to:TE):TE:=λU H Q=>to U H λx H1=>tyV K T x H1/\r x [] H1 Q
def tBM(K:Fg)(T:String)(r:V->List V->Hp->VK->Prop)(to:TE)(t:TA):TE:=λU H Q=>to U H λx H1=>tyV K T x H1/\t U H1 λxs H2=>r x xs H2 Q
variable{o e:Expr}{es:List Expr}{to:TE}{t:TA}{name:Str}{av au:Pos}{T id:String}{r:V->List V->Hp->VK->Prop}
theorem Rj(pa:PlainAttrs T)(slot:Slot T name id)(cG:typeOf (.builtin id)=pure (.type "method_descriptor"))(hm:MtR X id r)(ho:PE X o to)
  (aB:attributeBase o name X.env (eval o X.env)=eval o X.env:=by rfl) (aC:(av.endLine==au.line)=true:=by rfl):PE X (.Call (.Attribute o name av) [] [] au) (Z5 X.K T r to):=by
 intro aa s U H Q I h;refine wpAny_Call_method0_late aB aC (thn (ho aa s U H _ I h) λv s1 ai=>?_);obtain⟨x,H1,I1,r1,ty,q1⟩:= ai;obtain⟨h1,h2⟩:=QV I1 r1 ty;exact⟨T,id,pa,slot,cG,h1,h2,Calls.callWith_builtin rfl (PySem.evalArgs_none (hm aa s1 U H1 x [] v [] Q I1 r1 .nil q1))⟩
theorem Pn(pa:PlainAttrs T)(slot:Slot T name id)(cG:typeOf (.builtin id)=pure (.type "method_descriptor"))(hm:MtR X id r)(ho:PE X o to)(ha:PA X (e::es) t)
  (aB:attributeBase o name X.env (eval o X.env)=eval o X.env:=by rfl)
  (bT:((backTo au (starEach (e::es) X.env)).all (λx=>!x.1)&&(backToKw au (keywordEach [] X.env)).all (λx=>x.1.isSome)
  &&decide ((e::es).length+([]:List Keyword).length+(if([]:List Keyword).isEmpty then 0 else 1)<30))=true:=by rfl)
  (aC:(av.endLine==au.line)=true:=by rfl) (hs:starEach (e::es) X.env=(false,eval e X.env)::starEach es X.env:=by rfl) (bu:(backTo au (starEach es X.env)).any (·.1)=false:=by rfl) :
  PE X (.Call (.Attribute o name av) (e::es) [] au) (tBM X.K T r to t):=by
 intro aa s U H Q I h;refine wpAny_Call_method_late aB bT aC rfl (thn (ho aa s U H _ I h) λv s1 ai=>?_);obtain⟨x,H1,I1,r1,ty,q1⟩:= ai;obtain⟨h1,h2⟩:=QV I1 r1 ty;refine⟨T,id,pa,slot,cG,h1,h2,?_⟩;have hA:=ha au aa s1 U H1 _ I1 q1;rw[hs]at hA ⊢;refine Calls.callWith_builtin (by show(false||(backTo au (starEach es X.env)).any (·.1))=false;rw[bu]<;>rfl) (Calls.evalArgs_plain ?_);refine thn hA λus s2 ai => ?_
 obtain⟨vs,H2,I2,r2,q2⟩:= ai;exact hm aa s2 U H2 x vs v us Q I2 r1 r2 q2
end
def MtM(X:Cx)(id:String)(r:V->List V->Hp->VK->Prop):Prop :=
 ∀(aa:List (Addr×Obj))(s:Shared)(U:St)(H:Hp)(x:V)(xs:List V)(v:Value)(us:List Value)(Q:VK),Inv X aa U H s->RelV x v->Vals xs us->r x xs H Q ->
  wpAny (model X.prog X.w) X.A (call (.builtin id) (v::us)) (EP X aa U Q) X.xe s
theorem Vals.one:∀{x:V}{us:List Value},Vals [x] us->∃u,us=[u]/\RelV x u
 |_,_,.cons r .nil=>⟨_,rfl,r⟩
theorem Vals.zero:∀{us:List Value},Vals [] us->us=[]
 |_,.nil=>rfl
theorem Vals.dropLast{xs:List V}{us:List Value}(h:Vals xs us):Vals xs.dropLast us.dropLast:=by induction h with|nil=>exact .nil|cons r t ih =>cases t with|nil=>exact .nil|cons q t'=>exact .cons r ih
theorem Vals.reverse{xs:List V}{us:List Value}(h:Vals xs us):Vals xs.reverse us.reverse:=by induction h with|nil=>exact .nil|cons r t ih=>rw[tq,tq];exact Vals.append ih (.cons r .nil)
theorem LY{α:Type}(l:List α):l.eraseIdx (l.length-1)=l.dropLast:=by
 induction l with
 |nil=>rfl
 |cons a r ih =>
  cases r with
  |nil=>rfl
  |cons b r =>
   have e:(a::b::r).length-1=((b::r).length-1)+1:=by
    have h1:(a::b::r).length=r.length+2:=rfl;have h2:(b::r).length=r.length+1:=rfl
    lia
   rw[e,List.eraseIdx_cons_succ,ih]
   all_goals rfl
section
variable{X:Cx}{aa:List (Addr×Obj)}{U:St}{H:Hp}{s:Shared}{l b:Addr}{xs ys zs:List V}
theorem Inv.XX{ah aA:List Value}{n:Nat}{f:Array Value->Array Value}{t':Nat}(I:Inv X aa U H s)(hH:H l=some (.lst xs))
  (e:s.heap.get? l=some {cls:=.type "list",data:=.seq ah.toArray n}) (hf:f ah.toArray=aA.toArray) (hv:Vals ys aA) (hz:ys.length<=sizeLine) :
  Inv X aa U (upd H l (.lst ys)) {s with heap:=s.heap.update l (Obj.mapSeq f),toks:=t' }:=by
 have q:=PySem.IsL.update e f;rw[hf]at q;refine I.write (x:=l) (e:=l) (by rw[hH];exact trivial) (.inl rfl) (λb' u hb hu=>(rN s.heap (Obj.mapSeq f) (Ne.symm hb)).trans hu) ⟨_,q⟩ ?_;exact⟨hz,aA,_,hv,q⟩
theorem Inv.Jaf{ah:List Value}{t':Nat}(I:Inv X aa U H s)(hv:Vals ys ah)(hz:ys.length<=sizeLine) :
  Inv X aa U (upd H s.heap.objs.size (.lst ys)) {s with heap:=s.heap.push {cls:=.type "list",data:=.seq ah.toArray},toks:=t' } :=
 I.laid (λ_ _ q=>ql _ q) (qH _) ⟨hz,ah,0,hv,qO _ rfl⟩
theorem Inv.fresh(I:Inv X aa U H s):H s.heap.objs.size=none:=I.z9.fresh (qH _)
theorem Inv.Tc(I:Inv X aa U H s)(hH:H l=some (.lst xs)):xs.length<=sizeLine/\∃(ah:List Value)(n:Nat),Vals xs ah/\xs.length=ah.length/\s.heap.get? l=some {cls:=.type "list",data:=.seq ah.toArray n}:=by obtain⟨z,ah,n,r,e⟩:=I.z9 l _ hH;exact⟨z,ah,n,r,r.length,e⟩
theorem Kw{n:Nat}(h:n<=sizeLine):Builtin.List.listTooLong n=false:=by unfold Builtin.List.listTooLong;exact qv (by lia)
end
section
variable{X:Cx}
def ML:V->List V->Hp->VK->Prop:=λx vs H Q=>∃l xs y,x=.ref l/\vs=[y]/\H l=some (.lst xs)/\xs.length<sizeLine/\Q .l (upd H l (.lst (xs++[y])))
theorem El:MtM X "list.append" ML:=by
 intro aa s U H x vs v us Q I rx rv h;obtain⟨l,xs,y,rfl,rfl,hH,hz,q⟩:=h;cases rx;obtain⟨u,rfl,ru⟩:=rv.one;obtain⟨z,ah,n,r,hl,e⟩:=I.Tc hH;refine call_meets F.slot_list_append ⟨_,e,rfl⟩ F.entry_list_append (F.args_list_append_2 _ _) (PySem.list_append l ah.toArray n u (by rw[qz];lia)) ⟨e,?_⟩;refine⟨.l,_,I.XX (aA:=ah++[u]) hH e (by simp) (r.append (.cons ru .nil)) ?_,rfl,q⟩;rw[qA,rQ]
 lia
def Hm:V->List V->Hp->VK->Prop:=λx vs H Q=>∃l b xs zs,x=.ref l/\vs=[.ref b]/\H l=some (.lst xs)/\H b=some (.lst zs)/\xs.length+zs.length<=sizeLine/\Q .l (upd H l (.lst (xs++zs)))
theorem Nl:MtM X "list.extend" Hm:=by
 intro aa s U H x vs v us Q I rx rv h;obtain⟨l,b,xs,zs,rfl,rfl,hH,hB,hz,q⟩:=h;cases rx;obtain⟨u,rfl,ru⟩:=rv.one;cases ru;obtain⟨z,ah,n,r,hl,e⟩:=I.Tc hH;obtain⟨z2,aI,n2,r2,iu,e2⟩:=I.Tc hB;have hsz:ah.toArray.size+aI.toArray.size<=sizeLine:=by rw[qz,qz];lia
 have dH:¬(!ah.toArray.isEmpty&&Builtin.List.listTooLong (ah.toArray.size+aI.toArray.size))=true:=by rw[Kw hsz,Bool.and_false];exact qR
 refine call_meets F.slot_list_extend ⟨_,e,rfl⟩ F.entry_list_extend (F.args_list_extend_2 _ _)
  (AutoSeq1.list_extend_list_list_0 l ah.toArray n b aI.toArray n2 dH (by rw[qz];lia) (by lia)) ⟨e,e2,?_⟩
 refine⟨.l,_,I.XX (aA:=ah++aI) hH e (by simp) (r.append r2) ?_,rfl,q⟩;rw[qA]
 lia
def Jac:V->List V->Hp->VK->Prop:=λx vs H Q=>∃l xs y,x=.ref l/\vs=[]/\H l=some (.lst xs)/\xs[xs.length-1]?=some y/\Q y (upd H l (.lst xs.dropLast))
theorem V1:MtM X "list.pop" Jac:=by
 intro aa s U H x vs v us Q I rx rv h;obtain⟨l,xs,y,rfl,rfl,hH,hy,q⟩:=h;cases rx;have oN:=rv.zero;subst oN;obtain⟨z,ah,n,r,hl,e⟩:=I.Tc hH;obtain⟨u,hu,ru⟩:=r.get hy;have oR:ah.toArray[ah.toArray.size-1]?=some u:=by show ah.toArray[ah.length-1]?=some u;rw[<- Array.getElem?_toList,<- hl];exact hu
 refine call_meets F.slot_list_pop ⟨_,e,rfl⟩ F.entry_list_pop (F.args_list_pop_1 _) (MeetsSeq.list_pop_last l ah.toArray n u oR (by rw[qz];lia)) ⟨e,?_⟩;refine⟨y,_,I.XX (aA:=ah.dropLast) hH e ?_ r.dropLast ?_,ru,q⟩
 .show ah.toArray.eraseIdxIfInBounds (ah.toArray.size-1)=ah.dropLast.toArray;rw[qz,List.eraseIdxIfInBounds_toArray,LY]
 .rw[List.length_dropLast]
  lia
def ZO:R2:=λx y H Q=>∃l b xs zs,x=.ref l/\y=.ref b/\H l=some (.lst xs)/\H b=some (.lst zs)/\xs.length+zs.length<=sizeLine/\∀p,H p=none->Q (.ref p) (upd H p (.lst (xs++zs)))
theorem VN:OpR X (binaryOp .Add) ZO:=by
 intro aa s U H x y v u Q I rx ry h;obtain⟨l,b,xs,zs,rfl,rfl,hH,hB,hz,q⟩:=h;cases rx;cases ry;obtain⟨z,ah,n,r,hl,e⟩:=I.Tc hH;obtain⟨z2,aI,n2,r2,iu,e2⟩:=I.Tc hB;refine PySem.P.add_list e e2 ?_ (by rw[qz,qz];lia);have ea:ah.toArray++aI.toArray=(ah++aI).toArray:=by simp
 rw[ea];exact⟨.ref _,_,I.Jaf (t':=s.toks) (r.append r2) (by rw[qA];lia),rfl,q _ I.fresh⟩
end
section
variable{prog:Program}{w:World}{A:Around}{E:Value->Shared->Prop}{s:Shared}
set_option maxRecDepth 100000 in
end
section
variable{X:Cx}
end
section
variable{κ:Type}[DecidableEq κ]
noncomputable def Ll(af:List (κ×V))(k:κ):Option V:=(af.find? λkv=>decide (kv.1=k)).map (·.2)
noncomputable def putK(af:List (κ×V))(k:κ)(v:V):List (κ×V) :=
 if(af.any λkv=>decide (kv.1=k))=true then af.map (λkv=>if kv.1=k then(kv.1,v)else kv)else af++[(k,v)]
theorem Fi{p:κ×V}{r:List (κ×V)}{k:κ}(e:p.1=k):Ll (p::r) k=some p.2:=by simp[Ll,sd,e]
theorem Fj{p:κ×V}{r:List (κ×V)}{k:κ}(e:¬p.1=k):Ll (p::r) k=Ll r k:=by simp[Ll,sd,e]
theorem Kb(k:κ):∀af:List (κ×V),(af.any λkv=>decide (kv.1=k))=(Ll af k).isSome
 | []=>rfl
 |p::r=>by
  rw[si];by_cases e:p.1=k
  .simp only[Fi e,qE e,Bool.true_or,sZ]
  .rw[Fj e,qv e,Bool.false_or];exact Kb k r
theorem F8(af:List (κ×V))(k:κ)(v:V):(putK af k v).length<=af.length+1:=by
 unfold putK;split
 .rw[qw];lia
 .rw[qA,qD,r8];lia
theorem AD.DE{o:Option V}{u:Option Value}(r:AD o u):o.isSome=u.isSome:=by
 cases o with
 |none=>cases u with|none=>rfl|some _=>exact(show False from r).elim
 |some _=>cases u with|none=>exact(show False from r).elim|some _=>rfl
theorem KV.val{af:List (κ×V)}{vs:List (κ×Value)}(r:KV af vs)(k:κ):AD (Ll af k) (valueAt vs k):=by
 unfold KV at r
 induction r with
 |nil=>exact True.intro
 |@cons p q ps qs h t ih =>
  obtain⟨h1,h2⟩:=h;by_cases e:p.1=k
  .have e':q.1=k:=h1.symm.trans e;have b:valueAt (q::qs) k=some q.2:=by simp[valueAt,sd,e']
   rw[Fi e,b];exact h2
  .have e':¬q.1=k:=λz=>e (h1.trans z)
   have b:valueAt (q::qs) k=valueAt qs k:=by simp[valueAt,sd,e']
   rw[Fj e,b];exact ih
theorem KV.any{af:List (κ×V)}{vs:List (κ×Value)}(r:KV af vs)(k:κ):(af.any λkv=>decide (kv.1=k))=vs.any λkv=>decide (kv.1=k):=by
 unfold KV at r
 induction r with|nil=>rfl|cons h t ih=>rw[si,si,ih,h.1]
theorem KV.Yo{af:List (κ×V)}{vs:List (κ×Value)}(r:KV af vs)(k:κ){y:V}{u:Value}(ry:RelV y u) :
  KV (af.map λkv=>if kv.1=k then(kv.1,y)else kv) (vs.map λkv=>if kv.1=k then(kv.1,u)else kv):=by
 unfold KV at r ⊢
 induction r with
 |nil=>exact .nil
 |@cons p q ps qs h t ih =>
  rw[qm,qm];refine .cons ?_ ih;obtain⟨h1,h2⟩:=h;by_cases e:p.1=k
  .rw[if_pos e,if_pos (h1.symm.trans e)];exact⟨h1,ry⟩
  .rw[if_neg e,if_neg (λz=>e (h1.trans z))];exact⟨h1,h2⟩
theorem KV.put{af:List (κ×V)}{vs:List (κ×Value)}(r:KV af vs)(k:κ){y:V}{u:Value}(ry:RelV y u):KV (putK af k y) (stored vs k u):=by
 unfold putK stored;rw[r.any k];by_cases e:(vs.any λkv=>decide (kv.1=k))=true
 .rw[if_pos e,if_pos e];exact r.Yo k ry
 .rw[if_neg e,if_neg e];exact Paired.snoc r ⟨rfl,ry⟩
theorem KV.length{af:List (κ×V)}{vs:List (κ×Value)}(r:KV af vs):af.length=vs.length:=Paired.length r
end
theorem NC{P:Program}{w:World}{k:Key}{u:Value}(r:RelV (kV k) u):(Bu P w).is k u=true:=by cases k with|inl i=>obtain⟨t,e⟩:=(show ∃t,u=Value.int i t from r);subst e;exact JL P w i t|inr x=>obtain⟨t,e⟩:=(show ∃t,u=Value.str x t from r);subst e;exact Dn P w x t
theorem IK{P:Program}{w:World}:∀{ks:List Key}{us:List Value},Vals (ks.map kV) us->ItemsAre (Bu P w) ks us
 | [],_,r=>by rw[sE]at r;cases r;exact .nil
 |k::ks,_,r=>by rw[qm]at r;cases r with|cons h t=>exact .cons (NC h) (IK t)
abbrev KT(H:Hp):List (List Key×V)->List (List Key×Addr×Value)->Prop:=Paired λp q=>p.1=q.1/\H q.2.1=some (.tup (p.1.map kV))/\RelV p.2 q.2.2
theorem KT.val{H:Hp}{af:List (List Key×V)}{xs:List (List Key×Addr×Value)}(r:KT H af xs)(k:List Key):AD (Ll af k) ((atKey xs k).map (·.2)):=by
 induction r with
 |nil=>exact True.intro
 |@cons p q ps qs h t ih =>
  obtain⟨h1,_,h2⟩:=h;by_cases e:p.1=k
  .have e':q.1=k:=h1.symm.trans e;have b:atKey (q::qs) k=some q.2:=by simp[atKey,sd,e']
   rw[Fi e,b];exact h2
  .have e':¬q.1=k:=λz=>e (h1.trans z)
   have b:atKey (q::qs) k=atKey qs k:=by simp[atKey,sd,e']
   rw[Fj e,b];exact ih
theorem KT.Yo{H:Hp}{af:List (List Key×V)}{xs:List (List Key×Addr×Value)}(r:KT H af xs)(k:List Key){y:V}{u:Value}(ry:RelV y u) :
  KT H (af.map λkv=>if kv.1=k then(kv.1,y)else kv) (xs.map (putAt k u)):=by
 induction r with
 |nil=>exact .nil
 |@cons p q ps qs h t ih =>
  rw[qm,qm];refine .cons ?_ ih;obtain⟨h1,h2,h3⟩:=h;unfold putAt;by_cases e:p.1=k
  .rw[if_pos e,if_pos (h1.symm.trans e)];exact⟨h1,h2,ry⟩
  .rw[if_neg e,if_neg (λz=>e (h1.trans z))];exact⟨h1,h2,h3⟩
theorem KT.put{H:Hp}{af:List (List Key×V)}{xs:List (List Key×Addr×Value)}(r:KT H af xs)(k:List Key){b:Addr}{y:V}{u:Value}(hb:H b=some (.tup (k.map kV)))(ry:RelV y u) :
  KT H (putK af k y) (storedH xs k b u):=by
 have e:(af.any λkv=>decide (kv.1=k))=(atKey xs k).isSome:=by rw[Kb,(r.val k).DE,Option.isSome_map]
 unfold putK storedH;rw[e];by_cases q:(atKey xs k).isSome=true
 .rw[if_pos q,if_pos q];exact r.Yo k ry
 .rw[if_neg q,if_neg q];exact Paired.snoc r ⟨rfl,hb,ry⟩
theorem KT.keeps{H H':Hp}{af:List (List Key×V)}{xs:List (List Key×Addr×Value)}(r:KT H af xs)(ht:∀b ys,H b=some (.tup ys)->H' b=some (.tup ys)):KT H' af xs :=
 Paired.YQ r λ_ _ z=>⟨z.1,ht _ _ z.2.1,z.2.2⟩
section
variable{P:Program}{w:World}{H:Hp}{h:Heap}{a:Addr}
theorem Vh{u:HO}(ok:HOk P w H h)(e:Rd H a u):Ca P w H h a u:=e.ok ok
theorem JZ{af:List (Key×V)}(ok:HOk P w H h)(e:Rd H a (.v af)):af.length<=sizeLine/\(a==sysModules)=false/\∃vs,KV af vs/\h.DictOf (Bu P w) a vs :=
 show Ca P w H h a (.v af)from Vh ok e
theorem Zv{af:List (Key×V)}(ok:HOk P w H h)(e:H a=some (.v af)):af.length<=sizeLine/\(a==sysModules)=false/\∃vs,KV af vs/\h.DictOf (Bu P w) a vs:=JZ ok (.inl e)
theorem IJ{ks:List Key}(ok:HOk P w H h)(e:H a=some (.tup (ks.map kV))):(tupleKind (Bu P w)).is h ks a:=by
 obtain⟨_,ah,r,o,h1,h2,n,h3⟩:=(show Ca P w H h a (.tup (ks.map kV))from ok a _ e)
 exact⟨o,ah.toArray,n,h1,h2,h3,by simpa using IK r⟩
theorem Oe{af:List (List Key×V)}(ok:HOk P w H h)(e:Rd H a (.dT af)):af.length<=sizeLine/\(a==sysModules)=false /\
  ∃xs,KT H af xs/\h.DictOfH (tupleKind (Bu P w)) a xs:=by
 obtain⟨z,y,xs,r,o,es,ep,h1,h2,h3,h4,h5⟩:=(show Ca P w H h a (.dT af)from Vh ok e)
 refine⟨z,y,xs,r,o,es,ep,h1,h2,h3,h4,λx hx=>?_,h5⟩;have all:∀{l:List (List Key×V)}{m:List (List Key×Addr×Value)},KT H l m->∀x∈m,(tupleKind (Bu P w)).is h x.1 x.2.1:=by
  intro l m q
  induction q with
  |nil=>intro x hx;exact nomatch hx
  |@cons p q ps qs hq t ih =>
   intro x hx;rcases qK.mp hx with e|hx
   .subst e;exact IJ ok (by rw[<- hq.1];exact hq.2.1)
   .exact ih x hx
 exact all r x hx
theorem Zu{af:List (List Key×V)}(ok:HOk P w H h)(e:H a=some (.dT af)):af.length<=sizeLine/\(a==sysModules)=false /\
  ∃xs,KT H af xs/\h.DictOfH (tupleKind (Bu P w)) a xs:=Oe ok (.inl e)
end
def Me(H:Hp)(a:Addr)(y:V)(r:Option V):Prop :=
 (∃af k,Rd H a (.v af)/\y=kV k/\r=Ll af k)\/∃af k b,Rd H a (.dT af)/\y=.ref b/\H b=some (.tup (k.map kV))/\r=Ll af k
def OQ(H:Hp)(a:Addr)(y v:V)(H':Hp):Prop :=
 (∃af k,H a=some (.v af)/\y=kV k/\af.length<sizeLine/\H'=upd H a (.v (putK af k v)))\/
 ∃af k b,H a=some (.dT af)/\y=.ref b/\H b=some (.tup (k.map kV))/\af.length<sizeLine/\H'=upd H a (.dT (putK af k v))
theorem Me.t{H:Hp}{a b:Addr}{af:List (List Key×V)}{k:List Key}(e:H a=some (.dT af))(eb:H b=some (.tup (k.map kV))):Me H a (.ref b) (Ll af k):=.inr ⟨af,k,b,.inl e,rfl,eb,rfl⟩
theorem OQ.k{H:Hp}{a:Addr}{af:List (Key×V)}{k:Key}{v:V}(e:H a=some (.v af))(hl:af.length<sizeLine):OQ H a (kV k) v (upd H a (.v (putK af k v))):=.inl ⟨af,k,e,rfl,hl,rfl⟩
theorem OQ.t{H:Hp}{a b:Addr}{af:List (List Key×V)}{k:List Key}{v:V}(e:H a=some (.dT af))(eb:H b=some (.tup (k.map kV)))(hl:af.length<sizeLine) :
  OQ H a (.ref b) v (upd H a (.dT (putK af k v))):=.inr ⟨af,k,b,e,rfl,eb,hl,rfl⟩
section
variable{X:Cx}{aa:List (Addr×Obj)}{U:St}{H:Hp}{s:Shared}{a:Addr}{y v:V}{u r:Value}{o:Option V}{A:Around}{E:Value->Shared->Prop}
theorem Inv.big(I:Inv X aa U H s):sysModules<s.heap.objs.size:=by have h:mainGlobals<s.heap.objs.size:=(I.mod.glob.keeps I.bk).lt;exact sL (by decide) h
theorem Om{Q:Value->Shared->Prop}(hu:A.units+1<cLine)(I:Inv X aa U H s)(g:Me H a y (some v))(ry:RelV y u)(h:∀w' s',Inv X aa U H s'->RelV v w'->Q w' s') :
  wpAny (model X.prog X.w) A (getItem (.ref a) u) Q E s:=by
 rcases g with⟨af,k,e,ey,l⟩|⟨af,k,b,e,ey,eb,l⟩
 .subst ey;obtain⟨z,hd,vs,bf,dd⟩:=JZ I.z9 e;obtain⟨w',hw,df⟩:=AD.some_of (v:=v) (o:=valueAt vs k) (by rw[l];exact bf.val k);exact wpAny_getItem_of (NC ry) dd.mapOf hw (h w' _ (I.tok _) df)
 .subst ey;cases(show u=Value.ref b from ry);obtain⟨z,hd,xs,bf,dd⟩:=Oe I.z9 e;obtain⟨w',hw,df⟩:=AD.some_of (v:=v) (o:=(atKey xs k).map (·.2)) (by rw[l];exact bf.val k);obtain⟨p,hp,oB⟩:=qJ.mp hw;refine wpAny_getItem_heap (tupleKind_room_in1 hu) (IJ I.z9 eb) dd hp ?_;rw[oB];exact h w' _ (I.tok _) df
theorem Jap{Q:Value->Shared->Prop}(hu:A.units+1<cLine)(I:Inv X aa U H s)(g:Me H a y o)(ry:RelV y u)(h:∀s',Inv X aa U H s'->Q (.bool o.isSome) s') :
  wpAny (model X.prog X.w) A (compareOp .In u (.ref a)) Q E s:=by
 rcases g with⟨af,k,e,ey,l⟩|⟨af,k,b,e,ey,eb,l⟩
 .subst ey;obtain⟨z,hd,vs,bf,dd⟩:=JZ I.z9 e;refine wpAny_in_of (NC ry) hd dd.mapOf ?_;rw[<- (bf.val k).DE,<- l];exact h _ (I.tok _)
 .subst ey;cases(show u=Value.ref b from ry);obtain⟨z,hd,xs,bf,dd⟩:=Oe I.z9 e;refine wpAny_in_heap (tupleKind_room_in1 hu) (IJ I.z9 eb) hd dd ?_;have q:=(bf.val k).DE;rw[Option.isSome_map]at q;rw[<- q,<- l];exact h _ (I.tok _)
theorem Ul{Q:Value->Shared->Prop}(hu:A.units+1<cLine)(I:Inv X aa U H s)(g:Me H a y o)(ry:RelV y u)(h:∀s',Inv X aa U H s'->Q (.bool (!o.isSome)) s') :
  wpAny (model X.prog X.w) A (compareOp .NotIn u (.ref a)) Q E s:=by
 rcases g with⟨af,k,e,ey,l⟩|⟨af,k,b,e,ey,eb,l⟩
 .subst ey;obtain⟨z,hd,vs,bf,dd⟩:=JZ I.z9 e;refine wpAny_notIn_of (NC ry) hd dd.mapOf ?_;rw[<- (bf.val k).DE,<- l];exact h _ (I.tok _)
 .subst ey;cases(show u=Value.ref b from ry);obtain⟨z,hd,xs,bf,dd⟩:=Oe I.z9 e;refine wpAny_notIn_heap (tupleKind_room_in1 hu) (IJ I.z9 eb) hd dd ?_;have q:=(bf.val k).DE;rw[Option.isSome_map]at q;rw[<- q,<- l];exact h _ (I.tok _)
theorem Ol{h':Heap}{t':Nat}{ob:HO}(I:Inv X aa U H s)(mu:Mut (H a))(hs:Heap.SameBut a s.heap h')(he:∃q,h'.get? a=some q)(new:Ca X.prog X.w (upd H a ob) h' a ob) :
  Inv X aa U (upd H a ob) {s with heap:=h',toks:=t' } :=
 I.write (x:=a) (e:=a) mu (.inl rfl) (λb q hb z=>(hs.2 b hb).trans z) he new
theorem Xq{P:Program}{w:World}{H':Hp}{h':Heap}{af:List (Key×V)}{vs:List (Key×Value)}(z:af.length<=sizeLine)(hd:(a==sysModules)=false)(bf:KV af vs)(dd:h'.DictOf (Bu P w) a vs) :
  Ca P w H' h' a (.v af):=⟨z,hd,vs,bf,dd⟩
theorem IY{H':Hp}{Q:Unit->Shared->Prop}(hu:A.units+1<cLine)(I:Inv X aa U H s)(g:OQ H a y v H')(ry:RelV y u)(rv:RelV v r)(h:∀s',Inv X aa U H' s'->Q () s') :
  wpAny (model X.prog X.w) A (setItem (.ref a) u r) Q E s:=by
 rcases g with⟨af,k,e,ey,l,eH⟩|⟨af,k,b,e,ey,eb,l,eH⟩
 .subst ey eH;obtain⟨z,hd,vs,bf,dd⟩:=Zv I.z9 e;have hz:vs.length<=sizeLine:=by rw[<- bf.length];exact z
  have hl:(putK af k v).length<=sizeLine:=by have:=F8 af k v;lia
  refine wpAny_setItem_pairs (hsz:=hz) (NC ry) dd λh' iZ hs=>h _ ?_
  have he:∃q,h'.get? a=some q:=let⟨q,_,_,hq,_⟩:=iZ;⟨q,hq⟩;exact Ol I (by rw[e];exact True.intro) hs he (Xq hl hd (bf.put k rv) iZ)
 .subst ey eH;cases(show u=Value.ref b from ry);obtain⟨z,hd,xs,bf,dd⟩:=Zu I.z9 e;have hz:xs.length<=sizeLine:=by rw[<- Paired.length bf];exact z
  have hl:(putK af k v).length<=sizeLine:=by have:=F8 af k v;lia
  refine wpAny_setItem_heap (hsz:=hz) (tupleKind_room_in1 hu) (IJ I.z9 eb) dd λh' iZ hs=>h _ ?_
  obtain⟨q,es,ep,hq,h2,h3,h4,_,h5⟩:=iZ;refine Ol I (by rw[e];exact True.intro) hs ⟨q,hq⟩ ⟨hl,hd,_,(bf.put k eb rv).keeps λc ys ec=>?_,q,es,ep,hq,h2,h3,h4,h5⟩;rw[Am (YM ec e (λz=>nomatch z))];exact ec
end
section
variable{X:Cx}{aa:List (Addr×Obj)}{U:St}{H:Hp}{s:Shared}{a:Addr}{af:List (Key×V)}{k:Key}{u:Value}{A:Around}{E:Value->Shared->Prop}
theorem Zw{Q:Value->Shared->Prop}(I:Inv X aa U H s)(e:Rd H a (.v af))(h:∀t s',Inv X aa U H s'->Q (.int af.length t) s'):wpAny (model X.prog X.w) A (call (.builtin "len") [.ref a]) Q E s:=by obtain⟨z,hd,vs,bf,dd⟩:=JZ I.z9 e;refine call_len_dict hd dd (by rw[<- bf.length];rw[sizeLine_eq]at z;lia) ?_;rw[<- bf.length];exact h _ _ (I.tok _)
end
theorem J0{X:Cx}{aa:List (Addr×Obj)}{U:St}{H:Hp}{s:Shared}{a:Addr}{y:V}{o:Option V}(I:Inv X aa U H s)(g:Me H a y o):s.TypeIs (.ref a) "dict":=by
 rcases g with⟨af,k,e,_,_⟩|⟨af,k,b,e,_,_,_⟩
 .obtain⟨_,_,vs,_,dd⟩:=JZ I.z9 e;exact dd.typeIs
 .obtain⟨_,_,xs,_,dd⟩:=Oe I.z9 e;exact dd.typeIs
def Vd(td ty tv:TE):TS:=λD U H=>tv U H λv H1=>td U H1 λx H2=>ty U H2 λy H3=>∃a H4,x=.ref a/\OQ H3 a y v H4/\D.nx U H4
section
variable{X:Cx}{o i e value:Expr}{pos ay bI:Pos}{td ty tv:TE}
theorem Sn(hu:X.A.units+1<cLine)(ho:PE X o td)(hi:PE X i ty)(hv:PE X value tv)(hs:swapsWith value (some (.Subscript o i ay)) pos.line X.env=pure false) :
  PS X (.Assign [.Subscript o i ay] value pos) (Vd td ty tv):=by
 intro aa s U H D I h;refine wpAny_Assign_Subscript (thn (hv aa s U H _ I h) λr s1 ⟨v,H1,I1,rv,q1⟩=>thn (ho aa s1 U H1 _ I1 q1) λu s2 ⟨x,H2,I2,rx,q2⟩=>thn (hi aa s2 U H2 _ I2 q2) λiv s3 ai=>?_) hs;obtain⟨y,H3,I3,ry,a,H4,ex,g,q3⟩:= ai;subst ex;obtain rfl:u=Value.ref a:=rx;exact IY hu I3 g ry rv λs4 I4=>⟨U,H4,I4,q3⟩
end
theorem Qw{P:Program}{w:World}{H:Hp}(h:Heap)(hb:sysModules<h.objs.size):Ca P w H (h.push {cls:=.type "dict",data:=.dict #[]}) h.objs.size (.v []) :=
 ⟨rX _,beq_eq_false_iff_ne.mpr (Ne.symm (qZ hb)),[],.nil,Heap.DictOf.new h⟩
def U2:TE:=λ_ H Q=>∀p,H p=none->Q (.ref p) (upd H p (.v []))
section
variable{X:Cx}{pos:Pos}
theorem Pm:PE X (.Dict [] [] pos) U2:=λaa s U H Q I h =>wpAny_Dict_empty ⟨.ref s.heap.objs.size,_,I.laid (a:=s.heap.objs.size) (o:=.v []) (t':=s.toks) (λ_ _ q=>ql _ q) (qH _) (Qw s.heap I.big),rfl,h _ (I.z9.fresh (qH _))⟩
end
section
variable{X:Cx}{aa:List (Addr×Obj)}{U:St}{H:Hp}{s:Shared}{a:Addr}{y d:V}{u r:Value}{o:Option V}{A:Around}{E:Value->Shared->Prop}
end
section
variable{X:Cx}{o e f:Expr}{av au:Pos}{td ty tx:TE}
end
section
variable{X:Cx}{aa:List (Addr×Obj)}{U:St}{H:Hp}{s:Shared}{a:Addr}{af:List (Key×V)}{A:Around}{E:Value->Shared->Prop}
end
section
variable{X:Cx}{aa:List (Addr×Obj)}{U:St}{H:Hp}{s:Shared}{a:Addr}{y:V}{u:Value}{A:Around}{E:Value->Shared->Prop}
end
end L2
namespace Att
open PySem PySem.W PySem.Calls PyProof.Rows
theorem Gb{P:Params}{h:Heap}:∀(ns:List Int)(vs:List Value),WellAll P h vs (ns.map WData.int)->IntsAre vs ns:=by
 intro ns
 induction ns with|nil =>intro vs w;rw[sE]at w;cases w;exact .nil|cons n ns ih =>intro vs w;rw[qm]at w;cases w with|cons a b =>cases a;exact .cons _ _ (ih _ b)
theorem MC{l:OpenLaw}{n:Nat}(hn:l.most=some n){P:Params}{h:Heap}{args:List WData}{vals:List Value}
  (cY:l.row.toRowW.claim.pre args=true) (iB:WellAll P h vals args) :
  ∃a vs ns,vals=[Value.ref a]/\args=[WData.list (ns.map WData.int)]/\h.get? a=some {cls:=.type "list",data:=.seq vs.toArray}/\IntsAre vs ns/\ns.length<=n:=by
 have oG:WShape.hasAll [] args [.list .int]=true:=(pre_splitW cY).1;have hc:l.pre.holds [] {args:=args}=true:=(pre_splitW cY).2;obtain⟨d,r,rfl,h1,h2⟩:=hasAllW_cons oG;obtain rfl:=hasAllW_nil h2;obtain⟨xs,rfl,h3⟩:=hasW_list h1;obtain⟨ns,rfl⟩:=items_int h3;have hlen:ns.length<=n:=by
  unfold OpenLaw.pre at hc;have h4:(WTm.not (.lt (.lit (.int (n:Int))) (.len (.arg 0)))).holds [] {args:=[.list (ns.map .int)]}=true:=by have h4:=(holds_andW hc).1;rw[hn]at h4;exact h4
  have h5:=condW_of h4 (w_not (w_lt w_lit (w_len_list (w_arg rfl))));rw[qw]at h5;refine Nat.le_of_not_lt λq=>?_
  have q':(n:Int)<((ns.length:Nat):Int):=by lia
  first
   |(rw[qE q']at h5;exact absurd h5 (by decide))
   |(simp at h5;lia)
 cases iB with|cons w1 w2 =>cases w2;cases w1 with|list ho gh=>exact⟨_,_,ns,rfl,rfl,ho,Gb ns _ gh,hlen⟩
theorem MR(l:OpenLaw)(args:List WData):l.row.toRowW.claim.post args (.bool true) args=true :=
 postW_of (r:=l.row.toRowW) (X:=(true==true))
  (show WShape.has [] (.bool true) .bool=true by first|rfl|decide|simp[WShape.has,WShape.arms,WShape.armsAll])
  (show(WTm.eq .res (.lit (.bool true))).value [] {args:=args,res:=some (.bool true),after:=args}=some (.bool (true==true))from w_eq_bool (w_res rfl) w_lit) rfl
section
variable{prog:Program}{w:World}{A:Around}{E:Value->Shared->Prop}{s:Shared}{K:Frag}
end
end Att
namespace L2
open PySem PySem.Spec PyProof.Rows
theorem H0:∀{vs:List Value}{ns:List Int},IntsAre vs ns->Vals (ns.map V.int) vs
 |_,_,.nil=>.nil
 |_,_,.cons n t h=>.cons ⟨t,rfl⟩ (H0 h)
def X3(H:Hp):Prop:=∀b,H b=none\/∃o xs,H b=some (.frz o (.lst xs))
theorem PN{P:Program}{w:World}{K:Fg}{mg mb:Str->Option Value}{CX:CXT}{k:Nat}{fa a:Addr}{fd:FuncData}{x:Str}{sp:Sp}{ar:Shared}{vs:List Value}{ns:List Int}
  (KX:K.In ar.heap) (lj:ar.heap.Ns mainGlobals mg) (hb:ar.heap.Ns builtinsNs mb) (nX:∀x:Str,x≠"__name__"->mb x=bootBuiltins x) (jX:ar.heap.NoLimit) (hg:ar.gens=#[])
  (ha:ar.heap.get? a=some {cls:=.type "list",data:=.seq vs.toArray}) (hi:IntsAre vs ns) (hl:ns.length<=sizeLine) (hr:DL k callerA)
  (F:∀base:Heap,K.In base->base.Ns mainGlobals mg->Ed P w K mg base CX k fa fd [x] sp) (ib:∀(s:Shared)(u:Value),BindsTo s fd ⟨[u],[]⟩ [(x,u)])
  (eL:∀H:Hp,X3 H->SqL K H a (ns.map V.int)->sp [.ref a] H (λv _=>v=.o true) λ_ _ _=>False)
  (hU:∀H e s',CX [] H ar (λ_ _ _=>False) e s'->False) :
  codeAny (model P w) callerA (.call (.ref fa) ⟨[.ref a],[]⟩) (λr s'=>r=.ok (.ret (.bool true))/\OldK ar.heap s'.heap/\s'.os=ar.os/\AllBare s'.gens) ar:=by
 have rv:=H0 hi;have ko:=hi.length;have core:∀H:Hp,X3 H->SqL K H a (ns.map V.int)->HOk P w H ar.heap->(∀b,H b≠none->b=a)->(H a≠none->K.lookup a=none) ->
   codeAny (model P w) callerA (.call (.ref fa) ⟨[.ref a],[]⟩) (λr s'=>r=.ok (.ret (.bool true))/\OldK ar.heap s'.heap/\s'.os=ar.os/\AllBare s'.gens) ar:=by
  intro H hO hS z9 hA hK;have cM:∀{b:Addr}{o:Obj},ar.heap.get? b=some o->H b=none->(P0 ar.heap H).get? b=some o:=λe n=>PZ e n
  have iL:∀{b:Addr}{o:Obj}{es:Array DictEntry}{ep:Nat},ar.heap.get? b=some o->o.data=.dict es ep->H b=none:=λ{b o es ep} e d=>by cases q:H b with|none=>rfl|some u =>have e':b=a:=hA b (by rw[q];simp);subst e';rw[ha]at e;cases e;have d':Data.seq vs.toArray _=Data.dict es ep:=d;cases d'
  have jm:∀{b:Addr}{m:Str->Option Value},ar.heap.Ns b m->(P0 ar.heap H).Ns b m:=λ{b m} ⟨o,es,ep,e,d,r⟩=>⟨o,es,ep,cM e (iL e d),d,r⟩
  have kX:K.In (P0 ar.heap H):=λb o e=>cM (KX b o e) (by cases q:H b with|none=>rfl|some u =>have e':b=a:=hA b (by rw[q];simp);subst e';rw[hK (by rw[q];simp)]at e;cases e)
  have hM:Mod K mg (P0 ar.heap H):=⟨kX,jm lj,⟨mb,jm hb,nX⟩,let⟨mc,h1,h2⟩:=jX;⟨mc,jm h1,h2⟩⟩
  have e0:UD P w K mg (P0 ar.heap H) callerA [] ar H:=⟨rfl,hM,λb o e=>SK e,Nat.le_of_eq (NM _ _),trivial,λb hb=>absurd (show b∈([]:List Addr)from hb) (by simp),z9,.of_eq hg⟩
  refine codeAny_mono ((F _ kX (jm lj)).run callerA [] ar H ⟨[.ref a],[]⟩ [.ref a] [.ref a] _ _ hr e0 (ib ar (.ref a)) (.cons rfl .nil) (eL H hO hS)) λr s' h=>?_
  cases r with
  |error e=>exact(hU H e s' h).elim
  |ok fl =>
   cases fl with
   |next=>exact False.elim h
   |brk=>exact False.elim h
   |cont=>exact False.elim h
   |ret u =>
    obtain⟨v,H',os,bare,un,kb,r',q⟩:=h;have q':v=.o true:=q;subst q';obtain rfl:u=Value.bool true:=r';refine⟨rfl,OldK.of_keep λb o e=>?_,os,bare⟩;cases q:H b with
    |none=>exact un.keep b o e q (by intro z;exact absurd (show b∈([]:List Addr)from z) (by simp)) (by simp)
    |some u =>
     rcases hO b with z|⟨ob,xs,z⟩
     .rw[q]at z;cases z
     .have z2:=un.zV b ob _ z;obtain⟨e1,_⟩:=z9 b _ z;obtain⟨e2,_⟩:=kb b _ z2;rw[e]at e1;cases e1;exact e2
 cases hk:K.lookup a with
 |some o =>have e:=KX a o hk;rw[ha]at e;cases e;refine core (λ_=>none) (λ_=>.inl rfl) (.inr ⟨_,vs.toArray,_,hk,rfl,rfl,rfl,by rw[qz,ko];exact hl,by simpa using rv⟩) (λb u z=>by have z':(none:Option HO)=some u:=z;cases z') (λb z=>absurd rfl z) λz=>absurd rfl z
 |none =>
  refine core (λb=>if b=a then some (.frz {cls:=.type "list",data:=.seq vs.toArray} (.lst (ns.map V.int)))else none) (λb=>?_) (.inl (.inr ⟨{cls:=.type "list",data:=.seq vs.toArray},if_pos rfl⟩)) (λb u z=>?_) (λb z=>?_) λ_=>hk
  .by_cases hb:b=a
   .exact .inr ⟨_,_,if_pos hb⟩
   .exact .inl (if_neg hb)
  .by_cases hb:b=a
   .have z':=(if_pos hb).symm.trans z;cases z';subst hb;exact⟨ha,by rw[qw];exact hl,vs,_,rv,ha⟩
   .have z':=(if_neg hb).symm.trans z;cases z'
  .by_cases hb:b=a
   .exact hb
   .exact absurd (if_neg hb) z
noncomputable def inClass(s:Stmt)(j:Nat):Stmt:=match s with|.ClassDef _ _ _ body _ _ _ _ _ _ _=>body.getD j (.Pass ⟨0,0,0,0⟩)|_=>.Pass ⟨0,0,0,0⟩
noncomputable def Gk(s:Stmt):Arguments:=match s with|.FunctionDef _ a _ _ _ _ _ _ _ _=>a|_=>{posonlyargs:=[],args:=[],vararg:=none,kwonlyargs:=[],kw_defaults:=[],kwarg:=none,defaults:=[]}
noncomputable def Ea(s:Stmt):List Stmt:=match s with|.FunctionDef _ _ b _ _ _ _ _ _ _=>b|_=>[]
noncomputable def BF(s:Stmt):Scope:=match s with|.FunctionDef _ _ _ _ _ _ sc _ _ _=>sc|_=>{kind:=.function,names:=[],isGenerator:=false,isCoroutine:=false}
abbrev E0:XK:=λ_ _ _=>False
structure Fun(K:Fg)(x qual:Str)(st:Stmt)(f:Addr)(fd:FuncData):Prop where
 ex:∃(oc:Value)(od:Option Addr)(kV bX pm:Value)(an:Option Addr)(aL ct:Value)(fV:Array (Option Value)),
  fd=fnOf x qual (Gk st) (Ea st) (BF st) .none kV bX pm an aL ct/\K.lookup f=some ⟨oc,od,.func fd,fV⟩/\codeIn K aL qual=true
 kp:keepIn K (.ref f)=true
section
variable{P:Program}{w:World}{K:Fg}{mg:Str->Option Value}{base:Heap}
theorem Fun.binds{x qual:Str}{st:Stmt}{f:Addr}{fd:FuncData}{ps:List Str}(F:Fun K x qual st f fd)
  (h:∀(kV bX pm:Value)(an:Option Addr)(aL ct:Value)(us:List Value),us.length=ps.length->bindArgs (fnOf x qual (Gk st) (Ea st) (BF st) .none kV bX pm an aL ct) ⟨us,[]⟩=pure (ps.zip us)):Binds K fd ps []:=by
 obtain⟨oc,od,kV,bX,pm,an,aL,ct,fV,rfl,lk,bD⟩:=F.ex;exact .all (h kV bX pm an aL ct)
theorem A8{x qual:Str}{st:Stmt}{f:Addr}{oc:Value}{od an:Option Addr}{fV:Array (Option Value)}{kV bX pm aL ct:Value}(l:K.lookup f=some ⟨oc,od,.func (fnOf x qual (Gk st) (Ea st) (BF st) .none kV bX pm an aL ct),fV⟩)
  (c:codeIn K aL qual=true) (k:keepIn K (.ref f)=true):Fun K x qual st f (fnOf x qual (Gk st) (Ea st) (BF st) .none kV bX pm an aL ct):=⟨⟨oc,od,kV,bX,pm,an,aL,ct,fV,rfl,l,c⟩,k⟩
end
theorem YZ{A:Around}{k:Nat}(hr:DL k A):A.units+1<cLine:=Nat.lt_of_le_of_lt (Nat.add_le_add_left (by decide:1<=64) _) hr.units
section
variable{X:Cx}
theorem pv(i:Nat){x:Str}{pos:Pos}(hN:X.N[i]?=some x:=by rfl)(hv:Vis X.env.scope x:=by first|exact Or.inl rfl|exact Or.inr (Or.inl rfl)|exact Or.inr (Or.inr rfl))(hd:(x==("__debug__":Str))=false:=by decide)
  (bD:(x==("__classdict__":Str))=false:=by decide):PE X (.Name x pos) (UX i):=Vw hN hv hd bD
end
section
variable{κ:Type}[DecidableEq κ]
end
theorem Eb{env:Env}:∀(l:List (Str×NameKind))(cs:List (Str×Addr)),(∀y∈l,y.2=.free->∃c,env.cells.lookup y.1=some c)->(∀n c,cs.lookup n=some c->env.cells.lookup n=some c) ->
  ∃cl,(forIn l cs λ(x:Str×NameKind)(r:List (Str×Addr))=>match x with|(name,kind)=>if(kind==NameKind.free)=true then do let c <- cellOf env name;pure (ForInStep.yield ((name,c)::r))else pure (ForInStep.yield r))=(pure cl:Sem _) /\
   (∀n c,cl.lookup n=some c->env.cells.lookup n=some c)/\(∀y∈l,y.2=.free->∃c,cl.lookup y.1=some c)/\(∀n c,cs.lookup n=some c->∃c',cl.lookup n=some c')
 | [],cs,_,h2=>⟨cs,rfl,h2,(λ_ h=>nomatch h),λn c h=>⟨c,h⟩⟩
 |(n,k)::r,cs,h1,h2=>by
  by_cases e:k=.free
  .subst e;obtain⟨c,hc⟩:=h1 (n,.free) rg rfl;have e1:cellOf env n=(pure c:Sem _):=by unfold cellOf;rw[hc]
   have h3:∀n' c',((n,c)::cs).lookup n'=some c'->env.cells.lookup n'=some c':=λn' c' q=>by rw[rF]at q;cases hb:n'==n with|true=>rw[hb]at q;cases q;rw[beq_iff_eq.mp hb];exact hc|false=>rw[hb]at q;exact h2 _ _ q
   obtain⟨cl,q1,q2,q3,q4⟩:=Eb r ((n,c)::cs) (λy hy=>h1 y (qt _ hy)) h3;have fQ:∃c',cl.lookup n=some c':=q4 n c (by simp);refine⟨cl,?_,q2,λy hy hf=>?_,λn' c' q=>?_⟩
   .rw[sW];simp only[beq_self_eq_true,if_true,e1,pure_bind];exact q1
   .rcases qK.mp hy with rfl|hy
    .exact fQ
    .exact q3 y hy hf
   .by_cases hb:n'=n
    .subst hb;exact fQ
    .exact q4 n' c' (by rw[rF,beq_eq_false_iff_ne.mpr hb];exact q)
  .obtain⟨cl,q1,q2,q3,q4⟩:=Eb r cs (λy hy=>h1 y (qt _ hy)) h2;refine⟨cl,?_,q2,λy hy hf=>?_,q4⟩
   .rw[sW];have hb:(k==NameKind.free)=false:=by simpa using e
    simp only[hb,rW,if_false,pure_bind];exact q1
   .rcases qK.mp hy with rfl|hy
    .exact absurd hf e
    .exact q3 y hy hf
theorem Ex{sc:Scope}{env:Env}(h:∀y∈sc.names,y.2=.free->∃c,env.cells.lookup y.1=some c) :
  ∃cl,closureFor sc env=pure cl/\(∀n c,cl.lookup n=some c->env.cells.lookup n=some c)/\(∀y∈sc.names,y.2=.free->∃c,cl.lookup y.1=some c):=by
 obtain⟨cl,q1,q2,q3,_⟩:=Eb (env:=env) sc.names [] h (λn c q=>by simp at q);refine⟨cl,?_,q2,q3⟩;unfold closureFor;simp only[bind_pure];refine Eq.trans ?_ q1;congr 1
section
variable{prog:Program}{w:World}{A:Around}{R:Result->Shared->Prop}{s:Shared}
theorem I0{bR target aw:Expr}{bw:List Expr}{scope:Scope}{pos:Pos}{it ao:Value}{env:Env}(I:Nat->Shared->Prop)
  (turn:∀n s,I n s->wpAny (model prog w) A (pyNext it) (λr ar=>match r with
   |none=>R (.ok .next) ar
   |some v=>wpAny (model prog w) A (letOwnedTupleGo target it v) (λ_ ar=>wpAny (model prog w) A (assign target env v) (λ_ dh =>
     wpAny (model prog w) A (forIn bw true λc r=>if r=true then do let ok <- isTrue c env (eval c env);pure (ForInStep.yield ok)else pure (ForInStep.yield r)) (λok aN =>
      if ok=true then wpAny (model prog w) A (eval bR env) (λx fE =>wpAny (model prog w) A (call (.builtin "list.append") [ao,x]) (λ_ iT=>∃m,m<n/\I m iT) (λ_ _=>False) fE) (λ_ _=>False) aN
      else ∃m,m<n/\I m aN) (λ_ _=>False) dh) (λ_ _=>False) ar) (λ_ _=>False) ar) (λ_ _=>False) s)
  (n:Nat) (h:I n s) :
  codeAny (model prog w) A (.compLoop (.ListComp bR [⟨target,aw,bw,0⟩] scope pos) 0 it ao env) R s:=by
 refine codeAny_loop rfl I (λn s hI=>?_) n h;show wpAny _ A ((compTurn (.ListComp bR [⟨target,aw,bw,0⟩] scope pos) 0 it ao env).onRaise (λx=>do noteFrame x env;theTreesLotGoes x)) _ _ s;refine wpAny_noted ?_;rw[compTurn_list];refine qk (wpAny_standAt (qk (wpAny_mono (turn n s hI) (λr ar aE=>?_) λ_ _ h'=>h'.elim)));cases r with|none=>exact qI aE|some v =>refine qk (wpAny_mono aE (λ_ lU iC=>?_) λ_ _ h'=>h'.elim);refine qk (wpAny_mono iC (λ_ dh dP=>qk (wpAny_mono dP (λok aN c9=>?_) λ_ _ h'=>h'.elim)) λ_ _ h'=>h'.elim);cases ok with|false=>exact qI ⟨rfl,c9⟩|true =>exact qk (qk (wpAny_mono c9 (λx fE km=>qk (wpAny_mono km (λ_ iT kn=>qI (qI ⟨rfl,kn⟩)) λ_ _ h'=>h'.elim)) λ_ _ h'=>h'.elim))
end
structure Lg(fn sc:Scope):Prop where
 kind:sc.kind=.function
 zx:∀y∈sc.names,y.2≠.cell
 loc:∀y∈sc.names,y.2=.local->sc.names.lookup y.1=some .local
 fr:∀y∈sc.names,y.2=.free->fn.names.lookup y.1=some .cell\/fn.names.lookup y.1=some .free
noncomputable def GW(fn sc:Scope):Bool :=
 decide (sc.kind=.function)&&sc.names.all λy=>decide (y.2≠.cell)&&(decide (y.2≠.local)||decide (sc.names.lookup y.1=some .local)) &&
  (decide (y.2≠.free)||decide (fn.names.lookup y.1=some .cell)||decide (fn.names.lookup y.1=some .free))
theorem IZ{fn sc:Scope}(h:GW fn sc=true):Lg fn sc:=by
 unfold GW at h;rw[qL,rC]at h;obtain⟨h1,h2⟩:=h;refine⟨qW h1,λy hy=>?_,λy hy e=>?_,λy hy e=>?_⟩
 all_goals
  have q:=h2 y hy;rw[qL,qL]at q;obtain⟨⟨q1,q2⟩,q3⟩:=q
 .exact qW q1
 .rw[sH]at q2;rcases q2 with q|q
  .exact absurd e (qW q)
  .exact qW q
 .rw[sH,sH]at q3;rcases q3 with(q|q)|q
  .exact absurd e (qW q)
  .exact .inl (qW q)
  .exact .inr (qW q)
theorem C4{env:Env}{x:Str}{k':NameKind}:∀{names:List (Str×NameKind)},
  (names.map λ(n,k)=>if(k==NameKind.free&&env.scope.kind==.function&&env.kindOf n==some .cell)then(n,NameKind.cell)else(n,k)).lookup x=some k'->∃k,names.lookup x=some k/\(k'=k\/(k=.free/\k'=.cell))
 | [],h=>by simp at h
 |(n,k)::r,h=>by
  have h:List.lookup x ((if(k==NameKind.free&&env.scope.kind==.function&&env.kindOf n==some .cell)=true then(n,NameKind.cell)else(n,k))::_)=some k':=h;cases hx:x==n with
  |true =>
   refine⟨k,by simp[rF,hx],?_⟩;by_cases hc:(k==NameKind.free&&env.scope.kind==.function&&env.kindOf n==some .cell)=true
   .rw[if_pos hc]at h;simp only[rF,hx]at h;cases h;rw[qL,qL]at hc;exact .inr ⟨beq_iff_eq.mp hc.1.1,rfl⟩
   .rw[if_neg hc]at h;simp only[rF,hx]at h;cases h;exact .inl rfl
  |false =>
   have h':List.lookup x (r.map λ(n,k)=>if(k==NameKind.free&&env.scope.kind==.function&&env.kindOf n==some .cell)then(n,NameKind.cell)else(n,k))=some k':=by
    by_cases hc:(k==NameKind.free&&env.scope.kind==.function&&env.kindOf n==some .cell)=true
    .rw[if_pos hc]at h;simpa only[rF,hx]using h
    .rw[if_neg hc]at h;simpa only[rF,hx]using h
   obtain⟨k0,e1,e2⟩:=C4 h';exact⟨k0,by simp only[rF,hx];exact e1,e2⟩
noncomputable def B7(X:Cx)(N:List Str)(sc:Scope)(cl:List (Str×Addr))(C:Addr)(s:Shared)(H:Hp)(ex:List Addr):Cx :=
 {X with N:=N,z8:=s,zF:=H,env:=compEnvC sc cl C X.env,outer:=X.stack,stack:=X.stack,ex:=ex,fn:=λ_=>false,xe:=λ_ _=>False}
noncomputable def EX(XN:List Str)(sc:Scope):List Str->List (Option Nat)->Bool
 | [],[]=>true
 |n::r,none::q=>EX XN sc r q
 |n::r,some i::q=>decide (XN[i]?=some n)&&decide (sc.names.lookup n=some .free)&&EX XN sc r q
 |_,_=>false
noncomputable def Fh(U:St)(src:List (Option Nat)):St:=src.map λo=>o.bind λi=>(U[i]?).join
theorem Gq{XN:List Str}{sc:Scope}:∀{N:List Str}{src:List (Option Nat)},EX XN sc N src=true->src.length=N.length
 | [],[],_=>rfl
 |_::r,none::q,h=>by rw[qD,qD,Gq (N:=r) (src:=q) h]
 |_::r,some i::q,h=>by unfold EX at h;rw[qL]at h;rw[qD,qD,Gq (N:=r) (src:=q) h.2]
 | [],_::_,h=>by cases h
 |_::_,[],h=>by cases h
theorem Jb{XN:List Str}{sc:Scope}:∀{N:List Str}{src:List (Option Nat)}{j i:Nat}{n:Str},EX XN sc N src=true->N[j]?=some n->src[j]?=some (some i)->XN[i]?=some n/\sc.names.lookup n=some .free
 | [],_,j,i,n,_,h1,_=>by simp at h1
 |_::_,[],j,i,n,_,_,h2=>by simp at h2
 |n0::r,o::q,0,i,n,h,h1,h2=>by simp at h1 h2;subst h1;subst h2;unfold EX at h;rw[qL,qL]at h;exact⟨qW h.1.1,qW h.1.2⟩
 |n0::r,o::q,j+1,i,n,h,h1,h2=>by refine Jb (N:=r) (src:=q) (j:=j) ?_ (by simpa using h1) (by simpa using h2);cases o with|none=>exact h|some k =>unfold EX at h;rw[qL]at h;exact h.2
section
variable{X:Cx}{aa:List (Addr×Obj)}{U:St}{H:Hp}{s:Shared}{fp:List Addr}{N:List Str}{sc:Scope}{cl:List (Str×Addr)}{C:Addr}{src:List (Option Nat)}
theorem Xy(I:Inv X aa U H s)(hf:∀b∈fp,Jr X aa H b)(gk:∀b∈fp,b<s.heap.objs.size)(hS:Lg X.env.scope sc)(hC:s.heap.objs.size<=C)
  (cj:∀n c,cl.lookup n=some c->X.env.cells.lookup n=some c) (cn:∀y∈sc.names,y.2=.free->∃c,cl.lookup y.1=some c):(B7 X N sc cl C s H fp).Ok where
 mod:=I.ok.mod
 kind:=hS.kind
 glob:=I.ok.glob
 blt:=I.ok.blt
 above:=hC
 inj:=λx y c h1 h2=>I.ok.inj x y c (cj _ _ h1) (cj _ _ h2)
 has:=λx hx=>by
  have free:∀k',(k'=NameKind.cell\/k'=NameKind.free)->(relabel sc X.env).names.lookup x=some k'->∃c,cl.lookup x=some c:=λk' hk e=>by
   obtain⟨k,e1,e2⟩:=C4 (env:=X.env) e;have hm:=PySem.mem_of_lookup e1;have oa:k=.free:=by
    rcases e2 with e2|⟨e2,_⟩
    .subst e2;rcases hk with hk|hk
     .exact absurd hk (hS.zx _ hm)
     .exact hk
    .exact e2
   exact cn _ hm oa
  rcases hx with hx|hx
  .exact free _ (.inl rfl) hx
  .exact free _ (.inr rfl) hx
 zB:=λx c h _=>absurd (show false=true from h) qR
 hd:=I.ok.hd
 frames:=I.ok.frames
 zu:=.inl rfl
 zr:=λb hb=>⟨qZ (qP (gk b hb) hC),λx c e=>(hf b hb).2.2.2.2.1 x c (cj x c e)⟩
 bs:=I.bs
 zO:=qS I.ok.zO I.sz
 zL:=λb o e hb=>by
  rcases(hf b hb).2.2.2.1 with z|z
  .exact I.ok.zL b o e z
  .exact absurd (qP (qM e) (qS I.ok.zO z)) (rJ _)
 zN:=λb hb hz=>by
  rcases qK.mp (I.Ij b hz)with z|z
  .exact(hf b hb).2.1 z
  .exact(hf b hb).2.2.1 z
 KR:=I.stack
 zG:=I.Jw
theorem Uw{D:Addr}{h':Heap}{tk:Nat}{m:Str->Option Value}(I:Inv X aa U H s)(hf:∀b∈fp,Jr X aa H b)(gk:∀b∈fp,b<s.heap.objs.size)(hS:Lg X.env.scope sc)
  (cj:∀n c,cl.lookup n=some c->X.env.cells.lookup n=some c) (cn:∀y∈sc.names,y.2=.free->∃c,cl.lookup y.1=some c) (bb:EX X.N sc N src=true)
  (hD:s.heap.objs.size<=D) (hC:s.heap.objs.size<=C) (i6:D≠C) (hk:∀b o,s.heap.get? b=some o->h'.get? b=some o) (hn:h'.Ns C m) (hl:h'.get? D=some {cls:=.type "list",data:=.seq (#[]:Array Value)}) :
  Inv (B7 X N sc cl C s H fp) aa (Fh U src) (upd H D (.lst [])) {s with heap:=h',toks:=tk}:=by
 have fD:H D=none:=I.z9.fresh hD;have fC:H C=none:=I.z9.fresh hC;have old:∀{b:Addr}{o:Obj},s.heap.get? b=some o->b≠D/\b≠C:=λ{b o} e=>⟨qZ (qP (qM e) hD),qZ (qP (qM e) hC)⟩
 refine⟨Xy I hf gk hS hC cj cn,rfl,I.bare,Un.laid hk hD fD,⟨m,hn,λj x v e1 e2 e3=>?_⟩,λx c e=>?_,?_,λx c e=>?_,λp hp=>?_,I.z9.laid hk hD ⟨rX _,[],0,.nil,hl⟩,?_⟩
 .unfold Fh at e2;rw[qX]at e2;cases q:src[j]? with
  |none=>rw[q]at e2;cases e2
  |some o =>
   rw[q]at e2;cases o with
   |none=>cases e2
   |some i =>
    have gZ:(U[i]?).join=some v:=Option.some.inj e2;have e4:U[i]?=some (some v):=by cases r:U[i]? with|none=>rw[r]at gZ;cases gZ|some u=>rw[r]at gZ;cases u with|none=>cases gZ|some u=>have e5:some u=some v:=gZ;cases e5;rfl
    obtain⟨g1,g2⟩:=Jb bb e1 q;obtain⟨m0,_,jW⟩:=I.loc;have fN:=hS.fr _ (PySem.mem_of_lookup g2) rfl;obtain⟨u,ru,lk⟩:=jW i x v g1 e4 (fN.elim (λz=>.inr (.inl z)) λz=>.inr (.inr z));refine⟨u,ru,.inr ⟨?_,?_⟩⟩
    .rcases e3 with e3|e3|e3
     .obtain⟨k,r1,r2⟩:=C4 (env:=X.env) (show(relabel sc X.env).names.lookup x=some .local from e3);rw[g2]at r1;cases r1;rcases r2 with r2|⟨_,r2⟩<;>cases r2
     .exact .inl e3
     .exact .inr e3
    .obtain⟨c,hc⟩:=cn _ (PySem.mem_of_lookup g2) rfl;refine⟨c,hc,?_⟩;rcases lk with⟨lk,_⟩|⟨_,c',i7,z⟩
     .rcases fN with z|z
      .have z':X.env.kindOf x=some .cell:=z;rw[lk]at z';cases z'
      .have z':X.env.kindOf x=some .free:=z;rw[lk]at z';cases z'
     .have:=cj _ _ hc;rw[i7]at this;cases this;obtain⟨o,ho,hd⟩:=z;exact⟨o,hk _ _ ho,hd⟩
 .obtain⟨v,o,ho,hd⟩:=I.cell x c (cj x c e);exact⟨v,o,hk _ _ ho,hd⟩
 .show upd H D (.lst []) C=none;rw[Am (Ne.symm i6)];exact fC
 .obtain⟨v,o,ho,hd⟩:=I.cell x c (cj x c e);rw[Am (old ho).1];exact I.zZ x c (cj x c e)
 .obtain⟨p1,p2,p3,p4,p5⟩:=I.pin p hp;refine⟨hk _ _ p1,by rw[Am (old p1).1];exact p2,(old p1).2,λz=>?_,p5⟩;rcases qK.mp (I.Ij _ z)with z|z
  .exact p3 z
  .exact p4 z
 .show(Fh U src).length=N.length;unfold Fh;rw[qw];exact Gq bb
end
def R0(X:Cx)(bw:List Expr)(t:TT):Prop :=
 ∀(aa:List (Addr×Obj))(s:Shared)(U:St)(H:Hp)(Q:Bool->Hp->Prop),Inv X aa U H s->t U H Q ->
  wpAny (model X.prog X.w) X.A (forIn bw true λc r=>if r=true then do let ok <- isTrue c X.env (eval c X.env);pure (ForInStep.yield ok)else pure (ForInStep.yield r)) (TP X aa U Q) X.xe s
def ZY:TT:=λ_ H Q=>Q true H
theorem Pf{X:Cx}:R0 X [] ZY:=λaa s U H Q I h=>qI ⟨H,I,h⟩
theorem Pe{X:Cx}{c:Expr}{t:TT}(h:PT X c t):R0 X [c] t:=by intro aa s U H Q I q;rw[sW];simp only[if_true];refine qk (qk (thn (h aa s U H Q I q) λb s1 q1=>qI ?_));exact qI q1
def Xs(J:It)(g:TG)(tt:TT)(te:TE)(Q:VK)(kH:St)(H1:Hp):Prop:=∀D,H1 D=none ->
 ∃W:Nat->Nat->St->Hp->Prop,(∃m,W 0 m kH (upd H1 D (.lst [])))/\∀i m τ H2,W i m τ H2 ->
  (J.stop i H2/\Q (.ref D) H2)\/(J.go i H2/\∃N:St->Hp->Prop,(∀jt H',N jt H'->∃m',m'<m/\W (i+1) m' jt H')/\∀x H3,J.zq i H2 x H3->g x τ H3 λbM H4=>tt bM H4 λb H5 =>if b=true then te bM H5 λy H6=>∃ys,H6 D=some (.lst ys)/\ys.length<sizeLine/\N bM (upd H6 D (.lst (ys++[y])))else N bM H5)
def Sf(src:List (Option Nat))(wi:TI)(g:TG)(tt:TT)(te:TE):TE:=λU H Q=>wi U H λJ H1=>Xs J g tt te Q (Fh U src) H1
section
variable{X:Cx}{tg aw bR:Expr}{bw:List Expr}{sc:Scope}{pos:Pos}{N:List Str}{src:List (Option Nat)}{wi:TI}{g:TG}{tt:TT}{te:TE}
theorem K0(aS:X.calm=true)(hS:Lg X.env.scope sc)(bb:EX X.N sc N src=true)
  (hg:∀cl C s H fp,PG (B7 X N sc cl C s H fp) tg g) (ht:∀cl C s H fp,R0 (B7 X N sc cl C s H fp) bw tt) (he:∀cl C s H fp,PE (B7 X N sc cl C s H fp) bR te)
  {aa:List (Addr×Obj)} {s:Shared} {U:St} {H:Hp} {it:Addr} {fp:List Addr} {tn:Nat->Heap->Prop} {J:It} {cl:List (Str×Addr)} {Q:VK} {E:Value->Shared->Prop} {RR:Value->Addr->Result->Shared->Prop}
  (cj:∀n c,cl.lookup n=some c->X.env.cells.lookup n=some c) (cn:∀y∈sc.names,y.2=.free->∃c,cl.lookup y.1=some c)
  (I:Inv X aa U H s) (T:Turn X.prog X.w X.K tg J fp it tn) (t0:tn 0 s.heap) (hf:∀b∈fp,Jr X aa H b) (hw:Xs J g tt te Q (Fh U src) H)
  (hR:∀(D C:Addr)(s':Shared)(τ:St)(H':Hp)(m:Str->Option Value),s.heap.objs.size<=C->s'.heap.Ns C m->Inv (B7 X N sc cl C s H fp) aa τ H' s'->(∀b∈fp,H' b=none)->Q (.ref D) H'->RR (.ref D) C (.ok .next) s') :
  wpAny (model X.prog X.w) X.A (newList []) (λao aN=>wpAny (model X.prog X.w) X.A (newFunctionEnv sc X.env.globals cl [] X.env.qual none .none (some X.env)) (λgX fE =>codeAny (model X.prog X.w) X.A (.compStart (.ListComp bR [⟨tg,aw,bw,0⟩] sc pos) 0 (.ref it) ao {gX with scope:=relabel sc X.env}) (RR ao gX.locals) fE) E aN) E s:=by
 have gk:∀b∈fp,b<s.heap.objs.size:=λb hb=>by obtain⟨o,e,_⟩:=T.obj 0 _ t0 b hb;exact qM e
 refine wpAny_newObj_type (wpAny_newFunctionEnv hS.zx (by intro y hy;simp at hy) (λaE cD bV=>?_) hS.kind);dsimp only at cD bV ⊢;generalize hH2:s.heap.push {cls:=.type "list",dict:=none,data:=.seq ([]:List Value).toArray}=H2 at cD bV ⊢;have hC:H2.objs.size=s.heap.objs.size+1:=by rw[<- hH2,sk]
 have i6:s.heap.objs.size≠H2.objs.size:=by rw[hC];exact qZ (Nat.lt_succ_self _)
 have eU:s.heap.objs.size<=H2.objs.size:=by rw[hC];exact Nat.le_succ _
 have old:∀b o,s.heap.get? b=some o->aE.get? b=some o:=λb o e=>bV.extBut b o (qZ (qP (qM e) eU)) (ql _ (hH2▸ql _ e))
 have bt:aE.get? s.heap.objs.size=some {cls:=.type "list",data:=.seq (#[]:Array Value)}:=bV.extBut _ _ i6 (ql _ (hH2▸qO _ rfl));have fresh:H s.heap.objs.size=none:=I.z9.fresh (qH _);obtain⟨W,⟨m0,w0⟩,turn⟩:=hw s.heap.objs.size fresh;have Y0:Inv (B7 X N sc cl H2.objs.size s H fp) aa (Fh U src) (upd H s.heap.objs.size (.lst [])) {s with heap:=aE,toks:=s.toks+([]:List (Str×Value)).length} :=
  Uw I hf gk hS cj cn bb (qH _) eU i6 old cD bt
 have t1:tn 0 aE:=T.keep 0 _ _ t0 λb _ o e=>old b o e
 have nE:∀b∈fp,upd H s.heap.objs.size (.lst []) b=none:=λb hb=>by rw[Am (qZ (gk b hb))];exact(hf b hb).1
 have cL:∀{H':Hp},(∀b∈fp,H' b=none)->∀b∈fp,Jr (B7 X N sc cl H2.objs.size s H fp) aa H' b:=λ{H'} hn b hb =>⟨hn b hb,qZ (qP (gk b hb) eU),Y0.ok.zN b hb,.inl hb,(Y0.ok.zr b hb).2,(hf b hb).2.2.2.2.2⟩
 have loop:∀aN:Shared,aN={s with heap:=aE,toks:=s.toks+([]:List (Str×Value)).length} ->
   codeAny (model X.prog X.w) X.A (.compLoop (.ListComp bR [⟨tg,aw,bw,0⟩] sc pos) 0 (.ref it) (.ref s.heap.objs.size) (compEnvC sc cl H2.objs.size X.env)) (RR (.ref s.heap.objs.size) H2.objs.size) aN:=by
  rintro aN rfl
  refine I0 (λn s'=>∃i τ H',Inv (B7 X N sc cl H2.objs.size s H fp) aa τ H' s'/\tn i s'.heap/\(∀b∈fp,H' b=none)/\W i n τ H') ?_ m0 ⟨0,_,_,Y0,t1,nE,w0⟩
  rintro n s4 ⟨i,τ,H4,I4,t4,fr4,w4⟩
  rcases turn i n τ H4 w4 with⟨stop,qn⟩|⟨go,Nx,hNx,step⟩
  .refine thn (T.done (B7 X N sc cl H2.objs.size s H fp) rfl rfl rfl aS i aa s4 τ H4 _ I4 (cL fr4) t4 stop) λr s5 ⟨hr,I5⟩=>?_
   subst hr;obtain⟨m5,ot,_⟩:=I5.loc;exact hR _ _ s5 τ H4 m5 eU ot I5 fr4 qn
  .refine thn (T.item (B7 X N sc cl H2.objs.size s H fp) rfl rfl rfl aS i aa s4 τ H4 _ I4 (cL fr4) t4 go) λr s5 ⟨u,hr,h5⟩=>?_
   subst hr;refine thn h5 λ_ s6 ai=>?_
   obtain⟨x,H6,I6,r6,y6,kC,nH⟩:= ai;have mH:=I6.pinned (cL nH) (T.obj _ _ kC);have again:∀{fF:St}{H7:Hp}{s7:Shared}{m':Nat},Inv (B7 X N sc cl H2.objs.size s H fp) (aa++Iu fp s6.heap) fF H7 s7->m'<n->W (i+1) m' fF H7 ->
     ∃m,m<n/\∃i τ H',Inv (B7 X N sc cl H2.objs.size s H fp) aa τ H' s7/\tn i s7.heap/\(∀b∈fp,H' b=none)/\W i m τ H':=λ{fF H7 s7 m'} I7 hm w7=>by
    refine⟨m',hm,i+1,fF,H7,I7.Fl,T.keep _ _ _ kC λb hb o e=>(I7.pin (b,o) (qB _ (qB _ (DP hb e)))).1,λb hb=>?_,w7⟩;obtain⟨o,e,d⟩:=T.obj _ _ kC b hb;exact(I7.pin (b,o) (qB _ (qB _ (DP hb e)))).2.1
   refine thn (hg cl H2.objs.size s H fp _ s6 τ H6 x u _ mH r6 (step x H6 y6)) λ_ s7 ai=>?_
   obtain⟨fF,H7,I7,q7⟩:= ai;refine thn (ht cl H2.objs.size s H fp _ s7 fF H7 _ I7 q7) λb s8 ai=>?_
   obtain⟨H8,I8,q8⟩:= ai;cases b with
   |false =>rw[if_neg qR]at q8 ⊢;obtain⟨m',hm,w8⟩:=hNx _ _ q8;exact again I8 hm w8
   |true =>
    rw[if_pos rfl]at q8 ⊢;refine thn (he cl H2.objs.size s H fp _ s8 fF H8 _ I8 q8) λv s9 ai=>?_
    obtain⟨y,H9,I9,r9,ys,nR,hz,w9⟩:= ai;obtain⟨m',hm,w9⟩:=hNx _ _ w9;refine thn (El _ s9 fF H9 (.ref s.heap.objs.size) [y] (.ref s.heap.objs.size) [v] (λ_ Hn=>W (i+1) m' fF Hn) I9 rfl (.cons r9 .nil) ⟨_,ys,y,rfl,rfl,nR,hz,w9⟩) λ_ qj ai=>?_
    obtain⟨_,pO,mF,_,pM⟩:= ai;exact again mF hm pM
 exact codeAny_compStart_list (loop _ rfl) (T.self X.A 0 _ _ _ t1 (loop _ rfl))
theorem OB{aa:List (Addr×Obj)}{s s':Shared}{U τ:St}{H H':Hp}{fp:List Addr}{cl:List (Str×Addr)}{C:Addr}(I:Inv X aa U H s)(hf:∀b∈fp,Jr X aa H b)(J:Inv (B7 X N sc cl C s H fp) aa τ H' s'):Inv X aa U H' s' :=
 I.Xx (ch:=fp) J.os J.base J.z9 J.bare λb hb=>⟨(hf b hb).2.2.2.1,(hf b hb).2.1,(hf b hb).2.2.2.2.1,(hf b hb).2.2.2.2.2⟩
theorem Uv{aa:List (Addr×Obj)}{s s':Shared}{U τ:St}{H H':Hp}{fp:List Addr}{cl:List (Str×Addr)}{C:Addr}{h':Heap}(I:Inv X aa U H s)(hC:s.heap.objs.size<=C)(hf:∀b∈fp,Jr X aa H b)
  (J:Inv (B7 X N sc cl C s H fp) aa τ H' s') (hs:Heap.SameBut C s'.heap h'):Inv X aa U H' {s' with heap:=h' }:=by
 have I':=OB I hf J;refine I'.turned (it:=C) (t':=s'.toks) (λb o hb e=>hs.extBut b o hb e) J.free (Nat.ne_of_gt (qP I.lt hC)) (.inr (qS I.sz hC)) (λx c e z=>?_) λp hp z=>?_
 .obtain⟨v,q⟩:=I.cell x c e;exact absurd (qP q.lt (by rw[z];exact hC)) (rJ _)
 .exact absurd (qP (qM (I.pin p hp).1) (by rw[z];exact hC)) (rJ _)
theorem Sw(N:List Str)(src:List (Option Nat))(aS:X.calm=true)(hi:PI X tg aw wi)(hg:∀cl C s H fp,PG (B7 X N sc cl C s H fp) tg g)(ht:∀cl C s H fp,R0 (B7 X N sc cl C s H fp) bw tt)
  (he:∀cl C s H fp,PE (B7 X N sc cl C s H fp) bR te) (hS:GW X.env.scope sc=true:=by rfl) (bb:EX X.N sc N src=true:=by rfl)
  (hs:∀x,foldedSetIterable aw X.env x=pure x:=by intro _;rfl):PE X (.ListComp bR [⟨tg,aw,bw,0⟩] sc pos) (Sf src wi g tt te):=by
 intro aa s U H Q I h;have S:=IZ hS;obtain⟨cl,jK,cj,cn⟩:=Ex (sc:=sc) (env:=X.env) λy hy e=>I.ok.has y.1 (S.fr y hy e)
 rw[eval_ListComp];refine wpAny_comprehension_free (use:=none) rfl hs jK S.kind S.loc (thn (hi aa s U H _ I h) λv s1 h1=>thn h1 λjg s2 h2=>?_);obtain⟨it,fp,tn,J,H2,e,I2,T,t2,f2,hw⟩:=h2;subst e;refine K0 aS S bb hg ht he cj cn I2 T t2 f2 hw (RR:=λao C=>compPost (model X.prog X.w) X.A X.xe none (EP X aa U Q) ao C) λD C s' τ H' m hC hn J' _ q=>?_
 exact⟨m,hn,λh' cm=>⟨.ref D,H',Uv I2 hC f2 J' cm,rfl,q⟩⟩
theorem Lv{i:Nat}{y:Str}{ay dZ:Pos}(N:List Str)(src:List (Option Nat))(aS:X.calm=true)(hN:X.N.Nodup)(jU:X.N[i]?=some y)(hy:Loc X.env.scope y)(hi:PI X tg aw wi)(hg:∀cl C s H fp,PG (B7 X N sc cl C s H fp) tg g)(ht:∀cl C s H fp,R0 (B7 X N sc cl C s H fp) bw tt)
  (he:∀cl C s H fp,PE (B7 X N sc cl C s H fp) bR te) (hS:GW X.env.scope sc=true:=by rfl) (bb:EX X.N sc N src=true:=by rfl)
  (hs:∀x,foldedSetIterable aw X.env x=pure x:=by intro _;rfl) (gB:swapsWith (.ListComp bR [⟨tg,aw,bw,0⟩] sc pos) (some (.Name y ay)) dZ.line X.env=pure true:=by rfl)
  (hf:X.fn y=true\/X.env.scope.names.lookup y=some .local:=by first|exact .inl rfl|exact .inr rfl|assumption) :
  PS X (.Assign [.Name y ay] (.ListComp bR [⟨tg,aw,bw,0⟩] sc pos) dZ) (U5 (Sf src wi g tt te) (Qh i)):=by
 intro aa s U H D0 I h;have S:=IZ hS;obtain⟨cl,jK,cj,cn⟩:=Ex (sc:=sc) (env:=X.env) λy hy e=>I.ok.has y.1 (S.fr y hy e)
 rw[exec_Assign_Name_used _ _ _ _ gB];refine qk (wpAny_standAt (qk ?_));show wpAny _ X.A (do let _ <- comprehension (.ListComp bR [⟨tg,aw,bw,0⟩] sc pos) sc X.env _ (newList []) false (eval aw X.env) (some (assign (.Name y ay) X.env))) _ _ s;refine qk (wpAny_mono (wpAny_comprehension_free (use:=some (assign (.Name y ay) X.env)) (Q:=λ_ s'=>SP X aa D0 .next s') rfl hs jK S.kind S.loc
  (thn (hi aa s U H _ I h) λv s1 h1=>thn h1 λjg s2 h2=>?_)) (λ_ s' hq=>qI (qI hq)) λ_ _ e=>e)
 obtain⟨it,fp,tn,J,H2,e,I2,T,t2,f2,hw⟩:=h2;subst e;refine K0 aS S bb hg ht he cj cn I2 T t2 f2 hw (RR:=λao C=>compPost (model X.prog X.w) X.A X.xe (some (assign (.Name y ay) X.env)) (λ_ s'=>SP X aa D0 .next s') ao C) λD C s' τ H' m hC hn J' _ q=>?_
 show wpAny _ X.A (assign (.Name y ay) X.env (.ref D)) _ _ s';have I':=OB I2 f2 J';have lF:∀{b:Addr}{o:Obj},s2.heap.get? b=some o->b≠C:=λe=>qZ (qP (qM e) hC)
 have cC:∀x c,X.env.cells.lookup x=some c->c≠C:=λx c e=>by obtain⟨v,o,ho,_⟩:=I2.cell x c e;exact lF ho
 have lC:X.env.locals≠C:=qZ (qP I2.lt hC);refine wpAny_assign_Name (Ii I' hN jU hy (v:=.ref D) rfl (λs3 I3 ai=>?_) hf);obtain⟨a,sb,ha⟩:= ai;have o4:C≠a:=by
  rcases ha with rfl|ha
  .exact Ne.symm lC
  .exact Ne.symm (cC _ _ ha)
 refine⟨m,hn.sameBut sb o4,λh' iA=>⟨_,H',I3.turned (it:=C) (t':=s3.toks) (λb o hb e=>iA.extBut b o hb e) J'.free (Ne.symm lC) (.inr (qS I2.sz hC)) cC (λp hp z=>lF (I2.pin p hp).1 z),q⟩⟩
end
section
variable{K:Fg}{a:Addr}{xs:List V}{g:TG}{tt:TT}{te:TE}{Q:VK}{kH:St}{H1:Hp}
end
end L2
namespace PySem
namespace F
theorem Ng:typeLookup (.type "list_reverseiterator") "__len__"=pure none:=by rw[typeLookup_type,builtinLookup_eq_fast];kernel_rfl
theorem PY:typeLookup (.type "list_reverseiterator") "__length_hint__"=pure (some (.builtin "list_reverseiterator.__length_hint__")):=by rw[typeLookup_type,builtinLookup_eq_fast];kernel_rfl
end F
section
variable{prog:Program}{w:World}{A:Around}{s:Shared}{R:Result->Shared->Prop}
variable{I:Addr}{fp wr:List Addr}{G:Array GenState->Array GenState->Prop}{n:Nat}{P:Nat->Value->Prop}{St:Nat->Shared->Prop}
theorem Fe(W:WalksS prog w A.in1 I fp wr G n P St)(hT:∀i s,St i s->s.TypeIs (.ref I) "list_reverseiterator")(S:Addr)(res:Value)(c₀:Nat)(bG:St 0 s)(hV:S∉fp)(hI:I∈fp)
  (hS:s.heap.get? S=some {cls:=.type "list",data:=.seq #[] c₀})
  (hR:∀s' aX c',Moved (S::wr) G s s'->s'.heap.get? S=some {cls:=.type "list",dict:=none,data:=.seq aX c',slots:=#[]}->ItemsOf P aX n->R (.ok (.ret res)) s') (hn:n<=sizeLine) :
  wpAny (model prog w) A.in1 (Builtin.List.listExtendWith (.ref S) (.ref I) res)
   (λaV s'=>match aV with|.done f=>R (.ok f) s'|.again c'=>c'.quiet=true/\codeAny (model prog w) A c' R s') (λe s'=>R (.error e) s') s:=by
 have nS:S≠I:=λe=>hV (e▸hI)
 unfold Builtin.List.listExtendWith;refine qk (wpAny_typeOf (hT 0 _ bG) ?_);have h1:Builtin.List.listSameRef (.ref S) (.ref I)=false:=by simp[Builtin.List.listSameRef,nS]
 have h2:(Value.type "list_reverseiterator"==Value.type "list")=false:=by decide
 have h3:(Value.type "list_reverseiterator"==Value.type "tuple")=false:=by decide
 simp only[h1,h2,h3,Bool.or_false,rW,if_false];refine qk (W.self 0 _ _ _ bG ?_);refine qk (wpAny_holding ?_);unfold Builtin.List.listLengthHint;refine qk (wpAny_specialOf (hT 0 _ bG) F.Ng ?_);show wpAny _ A.in1 (specialOf (Value.ref I) (Str.ofString "__length_hint__") >>= _) _ _ _;refine qk (wpAny_specialOf (hT 0 _ bG) F.PY ?_);generalize hid:("list_reverseiterator.__length_hint__":String)=id0
 wp_delta
 rw[show splitId id0=some ("list_reverseiterator","__length_hint__")from by subst hid;decide +kernel];subst hid;refine qk (wpAny_isInstance (b:=true) (hT 0 _ bG) (by rw[isSubtype_type];kernel_rfl) ?_);refine qI ?_;rw[if_neg (by decide)];refine qI ⟨plainId_quiet F.plain_extend_loop _,codeAny_extend_loopS W hn _ hV _ n 0 _ _ _ rfl (rX _) bG hS (ItemsOf.nil P) λs' aX c' hm gK bt=>?_⟩;exact hR s' aX c' hm gK bt
theorem D4(W:WalksS prog w A.in1 I fp wr G n P St)(hT:∀i s,St i s->s.TypeIs (.ref I) "list_reverseiterator")(S:Addr)(bG:St 0 s)(hV:S∉fp)(hI:I∈fp)
  (hS:s.heap.get? S=some {cls:=.type "list",data:=.seq #[]})
  (hR:∀s' aX c',Moved (S::wr) G s s'->s'.heap.get? S=some {cls:=.type "list",dict:=none,data:=.seq aX c',slots:=#[]}->ItemsOf P aX n->R (.ok (.ret .none)) s') (hn:n<=sizeLine) :
  wpAny (model prog w) A.in1 (Builtin.«list.__init__» ⟨[.ref S,.ref I],[]⟩)
   (λaV s'=>match aV with|.done f=>R (.ok f) s'|.again c'=>c'.quiet=true/\codeAny (model prog w) A c' R s') (λe s'=>R (.error e) s') s:=by
 show wpAny _ A.in1 (do let old <- Builtin.List.listItems (.ref S);Builtin.List.listUpdate (.ref S) (λ_=>#[]);letGo old.toList.reverse;Builtin.List.listExtendWith (.ref S) (.ref I) .none) _ _ s;refine qk ?_;unfold Builtin.List.listItems;refine qk (wpAny_seqItems hS rfl (qI ?_));show wpAny _ A.in1 (updateSeq S (λ_=>#[]) >>= λ_=>letGo (#[]:Array Value).toList.reverse >>= λ_=>Builtin.List.listExtendWith (.ref S) (.ref I) .none) _ _ s;refine qk (wpAny_updateSeq hS rfl ?_);have hX:=sr (Obj.mapSeq (λ_=>(#[]:Array Value))) hS rfl;have lP:∀b o,b≠S->s.heap.get? b=some o->(s.heap.update S (Obj.mapSeq (λ_=>(#[]:Array Value)))).get? b=some o :=
  λb o hb e=>(rN _ _ (Ne.symm hb)).trans e
 refine qk (wpAny_letGo ?_);refine Fe (hn:=hn) W hT S .none _ (W.frame 0 s _ s.toks bG (qH _) λb hb o e=>lP b o (λh=>hV (h▸hb)) e) hV hI hX λs' aX c' hm gK bt=>?_
 exact hR s' aX c' (Moved.trans W.gtrans ((Moved.refl W.grefl).then_heap (qH _) λb o hb e=>lP b o (λh=>hb (h▸rg)) e) hm) gK bt
end
section
variable{prog:Program}{w:World}{A:Around}{E:Value->Shared->Prop}{s:Shared}
theorem EY{it l:Addr}{items:Array Value}{Q:Value->Shared->Prop}(hh:A.handled=none)(b7:l≠it)(cW:s.heap.IsRevIter it l ((items.size:Int)-1))(hl:s.heap.IsList l items)(hz:items.size<=sizeLine)
  (hQ:∀h' tk aX c',(∀b o,b≠it->s.heap.get? b=some o->h'.get? b=some o) ->
   h'.get? s.heap.objs.size=some {cls:=.type "list",dict:=none,data:=.seq aX c',slots:=#[]}->ItemsOf (λi v=>items[items.size-1-i]?=some v) aX items.size->Q (.ref s.heap.objs.size) {s with heap:=h',toks:=tk}) :
  wpAny (model prog w) A (call (.type "list") [.ref it]) Q E s:=by
 refine callType_codes (Q₁:=λobj ar=>obj=.ref s.heap.objs.size/\ar={s with heap:=s.heap.push {cls:=.type "list",data:=.seq #[]} }) F.called_list (F.typeCall_list_1 _) F.entry_list_init
  (code_list_new _ ⟨rfl,rfl⟩) λobj ar aE=>?_
 obtain⟨rfl,rfl⟩:=aE;have hS:(s.heap.push {cls:=.type "list",data:=.seq #[]}).get? s.heap.objs.size=some {cls:=.type "list",data:=.seq #[]}:=qO _ rfl;have bc:it<s.heap.objs.size:=by obtain⟨o,e,_⟩:=cW;exact qM e
 have jY:l<s.heap.objs.size:=by obtain⟨o,e,_⟩:=hl;exact qM e
 have W:=(Walks.listRev (prog:=prog) (w:=w) (A:=A.in1.in1) hh it l b7 items).toS;have e0:(items.size:Int)-1-((0:Nat):Int)=(items.size:Int)-1:=by simp
 refine⟨⟨_,hS,rfl⟩,F.args_list_init_2 _ _,D4 (A:=A.in1) W (λi s' st=>?_) _ ?_ ?_ (by simp) hS (λs' aX c' hm gK bt=>?_) hz⟩
 .exact st.2.1.typeIs
 .refine⟨rX _,?_,hl.push _⟩;rw[e0];exact cW.at λo e=>ql _ e
 .intro hm;rcases qK.mp hm with e|hm
  .exact absurd bc (by rw[e];exact rJ _)
  .exact absurd jY (by rw[qQ.mp hm];exact rJ _)
 .rw[Moved.eq_with hm]at gK ⊢;refine⟨rfl,hQ s'.heap s'.toks aX c' (λb o hb e=>hm.heap b o (λgq=>?_) (ql _ e)) gK bt⟩;rcases qK.mp gq with e'|gq
  .exact absurd (qM e) (by rw[e'];exact rJ _)
  .exact hb (qQ.mp gq)
end
end PySem
namespace L2
open PySem PySem.Spec PyProof.Rows
section
variable{X:Cx}{aa:List (Addr×Obj)}{U:St}{H:Hp}{s:Shared}
theorem Inv.Ot{it d:Addr}{h':Heap}{t':Nat}{ys:List V}{ah:List Value}{n:Nat}(I:Inv X aa U H s)(hf:Jr X aa H it)(hd:s.heap.objs.size<=d)(k:∀b o,b≠it->s.heap.get? b=some o->h'.get? b=some o)
  (hz:ys.length<=sizeLine) (r:Vals ys ah) (e:h'.get? d=some {cls:=.type "list",data:=.seq ah.toArray n}):Inv X aa U (upd H d (.lst ys)) {s with heap:=h',toks:=t' }:=by
 obtain⟨f0,f1,f2,f3,f4,f5⟩:=hf;have fd:H d=none:=I.z9.fresh hd;have nd:∀{b:Addr}{o:Obj},s.heap.get? b=some o->b≠d:=λe=>qZ (qP (qM e) hd)
 have fU:∀{b:Addr}{u:HO},H b=some u->b≠it:=λ{b u} e z=>by rw[z,f0]at e;cases e
 refine I.step (g':=s.gens) (d':=s.drawn) (ch:=[it]) (λb hb=>?_) (λb o _ _ hc e _=>k b o (λz=>hc (by simp[z])) e) (λb o _ _ hc e _=>⟨o.slots,k b o (λz=>hc (by simp[z])) e⟩)
  (λb o _ e n=>by rw[Am (nd e)];exact n) (λb o hc e=>⟨o,k b o (λz=>hc (by simp[z])) e⟩) (λb xs e=>by rw[Am (AW e fd)];exact e) (λb o u e=>by rw[Am (AW e fd)];exact e)
  (λb ps e=>⟨#[],by rw[Am (AW e fd),e];simp⟩) (λm hm=>?_) (λb u e=>?_) I.bare
 .have e:b=it:=by simpa using hb
  subst e;exact⟨f3,f1,f4,f5⟩
 .obtain⟨o,es,ep,ho,r⟩:=hm;exact⟨o,es,ep,k _ o (Ne.symm f1) ho,r⟩
 .by_cases hb:b=d
  .subst hb;rw[Az]at e;cases e;exact⟨hz,ah,n,r,‹_›⟩
  .rw[Am hb]at e;refine(I.z9 b u e).OO (λc v hc q=>k c v ?_ q) (λc q=>by rw[Am (AW q fd)];exact q) λc xs q=>by rw[Am (AW q fd)];exact q
   rcases hc with z|z
   .rw[z];exact fU e
   .exact fU z
end
theorem OS{ys:List V}{ah:List Value}(r:Vals ys ah){ao:Array Value}(h:ItemsOf (λi v=>ah.toArray[ah.toArray.size-1-i]?=some v) ao ah.toArray.size):Vals ys.reverse ao.toList:=by
 have e:ao.toList=ah.reverse:=by
  apply sI;intro i;obtain⟨h1,h2⟩:=h;have hs:ah.toArray.size=ah.length:=by simp
  by_cases hi:i<ah.length
  .have ha:ao[i]?=some (ao[i]'(by lia)):=by simp
   have q:=h2 i _ ha;rw[List.getElem?_reverse (by lia)];have q':ah[ah.length-1-i]?=some (ao[i]'(by lia)):=by simpa using q
   rw[q'];simp
  .rw[rq (by simp;lia),rq (by simp;lia)]
 rw[e];exact r.reverse
section
variable{X:Cx}{a:Expr}{ta:TE}{p1 p2 gG cI:Pos}
def OX(K:Fg)(ta:TE):TE:=λU H Q=>ta U H λx H1=>∃l ys,x=.ref l/\SqL K H1 l ys/\∀d,H1 d=none->Q (.ref d) (upd H1 d (.lst ys.reverse))
theorem Ly(hc:X.calm=true)(jZ:X.mg "list"=none)(ix:X.mg "reversed"=none)(ha:PE X a ta)(jS:Gl X "list":=by rfl)(gn:Gl X "reversed":=by rfl)
  (he:starEach [(.Call (.Name "reversed" p2) [a] [] cI:Expr)] X.env=[(false,eval (.Call (.Name "reversed" p2) [a] [] cI) X.env)]:=by rfl) (i9:starEach [a] X.env=[(false,eval a X.env)]:=by rfl) :
  PE X (.Call (.Name "list" p1) [.Call (.Name "reversed" p2) [a] [] cI] [] gG) (OX X.K ta):=by
 intro aa s U H Q I h;refine wpAny_Call_Name_kw (Fb I jS jZ boot_list ?_);refine callWith_type1 ?_ he rfl;rw[he];refine Calls.spliced_cons ?_;refine wpAny_Call_Name_kw (Fb I gn ix boot_reversed ?_);refine callWith_type1 ?_ i9 rfl;rw[i9];refine Calls.spliced_cons (thn (ha aa s U H _ I h) λu s1 ai=>?_);obtain⟨x,H1,I1,r1,l,ys,ex,hq,q⟩:= ai;subst ex;cases r1;obtain⟨ah,rv,pl,hz⟩:=I1.list hq;have hlen:=rv.length;refine Calls.spliced_nil (call_reversed_list pl.isList ?_);refine Calls.spliced_nil ?_;have I2:Inv X aa U H1 {s1 with heap:=s1.heap.push (revObj l ((ah.toArray.size:Int)-1))}:=I1.kept (t':=s1.toks) λb o e=>ql _ e
 have hf:Jr X aa H1 s1.heap.objs.size:=I1.TU (qH _) (I1.z9.fresh (qH _));have bc:l<s1.heap.objs.size:=by obtain⟨o,n,e,_⟩:=pl;exact qM e
 refine EY (s:={s1 with heap:=s1.heap.push (revObj l ((ah.toArray.size:Int)-1))}) (I.ok.hd hc) (qZ bc) ⟨_,qO _ rfl,rfl,rfl⟩ (pl.isList.push _) (by rw[qz];lia) λh' tk ao c kp e bt=>?_
 refine⟨.ref _,_,I2.Ot (n:=c) hf (qH _) kp (by rw[List.length_reverse];exact hz) (OS rv bt) (by simpa using e),rfl,q _ (I2.z9.fresh (qH _))⟩
theorem QD(hc:X.calm=true):CO X (.builtin "sum") (λxs H Q=>∃(l:Addr)(ns:List Int),xs=[.ref l]/\SqL X.K H l (ns.map V.int)/\Q (.int ns.sum) H):=by
 intro aa s U H xs us Q I r h;obtain⟨l,ns,rfl,hq,q⟩:=h;obtain⟨u,rfl,rx⟩:=vals1 r;cases rx;obtain⟨ah,rv,pl,hz⟩:=I.list hq;have hi:=intsAre_of rv;obtain⟨zs,hx⟩:=hi.allInts.items;have gO:s.heap.IsList l (intItems zs):=hx▸pl.isList;refine sum_intListG (I.ok.hd hc) gO λh' tk t' hk=>?_
 have e1:ns=zs.toList.map (·.1):=by rw[<- nums_intItems,<- hx];exact(show numsOf ah.toArray.toList=ns from hi.numsOf).symm
 have e2:preSum (numAt zs) zs.size=ns.sum:=by rw[preSum_eq,tK (by simp),e1]
 rw[e2];exact⟨.int ns.sum,H,I.kept hk,⟨_,rfl⟩,q⟩
theorem B8:∀{bs:List Bool}{us:List Value},Vals (bs.map V.o) us->us=bs.map Value.bool
 | [],_,.nil=>rfl
 |b::bs,_,.cons r t=>by cases(show _=Value.bool b from r);rw[qm,B8 t]
theorem QF(hc:X.calm=true):CO X (.builtin "all") (λxs H Q=>∃(l:Addr)(bs:List Bool),xs=[.ref l]/\SqL X.K H l (bs.map V.o)/\Q (.o (bs.all id)) H):=by
 intro aa s U H xs us Q I r h;obtain⟨l,bs,rfl,hq,q⟩:=h;obtain⟨u,rfl,rx⟩:=vals1 r;cases rx;obtain⟨ah,rv,pl,hz⟩:=I.list hq;have hb:=B8 rv;have hl:=pl.isList;have bc:l<s.heap.objs.size:=by obtain⟨_,e,_⟩:=hl;exact qM e
 refine call_all_walk (wpAny_pyIter_list hl ?_);refine⟨s.heap.objs.size,[s.heap.objs.size,l],[s.heap.objs.size],ah.toArray.size,_,_,λi=>(bs[i]?).getD true,rfl,Walks.list (A:=X.A.in1) (I.ok.hd hc) _ l (qZ bc) ah.toArray,
  ⟨⟨_,qO _ rfl,rfl,rfl⟩,hl.push _⟩,λi v s' Q' E' hP hQ=>?_,λh' tk hk=>?_⟩
 .have e:ah[i]?=some v:=by simpa using hP
  rw[hb,qX]at e;cases eb:bs[i]? with|none=>rw[eb]at e;cases e|some b =>rw[eb]at e;have e':Value.bool b=v:=Option.some.inj e;subst e';simp only[eb,Option.getD_some]at hQ;exact wpAny_truthy_bool hQ
 .have e:((List.range ah.toArray.size).all λi=>(bs[i]?).getD true)=bs.all id:=by
   have hlen:ah.toArray.size=bs.length:=by rw[hb];simp
   rw[hlen];rw[rL,rC,rC];constructor
   .intro hh b hm;obtain⟨i,hi,rfl⟩:=List.getElem_of_mem hm;have:=hh i (rP.mpr hi);simpa[qo hi]using this
   .intro hh i hi;have fh:=rP.mp hi;have:=hh _ (List.getElem_mem fh);simpa[qo fh]using this
  rw[e];have kp:∀b o,s.heap.get? b=some o->h'.get? b=some o:=λb o e=>hk b o (λhm=>by rw[qQ.mp hm]at e;exact rJ _ (qM e)) (ql _ e)
  exact⟨.o _,H,I.kept kp,rfl,q⟩
theorem SE:OpR X (binaryOp .Mult) (rI IntMulOk λi j=>.int (i*j)):=opI λ_ _ _ _ _ _ _ hc q=>mul_int q hc
theorem M0:OpR X (binaryOp .Mult) (λx y H Q=>∃z n,x=.str z/\y=.int n/\MulOk z n/\Q (.str (Txt.mul z n)) H):=by intro aa s U H x y v u Q I rx ry h;obtain⟨z,n,rfl,rfl,z9,q⟩:=h;obtain⟨t,rfl⟩:=rx;obtain⟨t',rfl⟩:=ry;exact SB.mul z9 λt' k=>⟨.str _,H,I.tok _,⟨_,rfl⟩,q⟩
theorem FJ:∀{ys:List Str}{us:List Value},Vals (ys.map V.str) us->StrsAre us ys
 | [],_,.nil=>.nil
 |y::ys,_,.cons r t=>by
  obtain⟨tk,rfl⟩:=(show ∃tk,_=Value.str y tk from r)
  exact .cons _ _ (FJ t)
theorem S0:MtR X "str.join" (λx xs H Q=>∃(z:Str)(l:Addr)(ys:List Str),x=.str z/\xs=[.ref l]/\SqL X.K H l (ys.map V.str)/\(ys.map (·.length)).sum+ys.length*z.length<=16777216/\Q (.str (Txt.join z ys)) H):=by intro aa s U H x xs v us Q I rx rv h;obtain⟨z,l,ys,rfl,rfl,hq,z9,q⟩:=h;obtain⟨t,rfl⟩:=rx;obtain⟨u,rfl,ru⟩:=vals1 rv;cases ru;obtain⟨ah,r,pl,hz⟩:=I.list hq;exact join_list pl.isList (FJ r) z9 λt' k=>⟨.str _,H,I.tok _,⟨_,rfl⟩,q⟩
end
def X6(lo st:Int)(n:Nat):It:=⟨λi _=>i<n,λi H x H'=>H'=H/\x=.int (lo+i*st),λi _=>n<=i⟩
theorem Ju{P:Program}{w:World}{K:Fg}{tg:Expr}(it:Addr)(lo st:Int)(n:Nat):Turn P w K tg (X6 lo st n) [it] it (λi h=>IsRangeIter h it (lo+(i:Nat)*st) ((n:Int)-(i:Nat)) st) where
 mem:=by simp
 obj:=λi h st b hb=>by
  have e:b=it:=by simpa using hb
  subst e;exact⟨_,st,λv z=>by have z':Data.fields _=Data.cell v:=z;cases z'⟩
 keep:=λi h h' st k=>k it (by simp) _ st
 item:=by
  intro X hP hw hK hc i aa s U H E I hf pJ hg;subst hP hw hK;obtain⟨f0,f1,f2,f3,f4,f5⟩:=hf it (by simp);have W:=Walks.range (prog:=X.prog) (w:=X.w) (I.ok.hd hc) it lo st n;refine W.item i s _ _ hg pJ λv h' tk hv dg kk=>?_
  obtain⟨t,rfl⟩:=hv;have I1:Inv X aa U H {s with heap:=h',toks:=tk}:=I.turned (λb o hb e=>kk b o (by simpa using hb) e) f0 f1 f3 f4 f5;exact⟨_,rfl,Qb (s:={s with heap:=h',toks:=tk}) (n:="range_iterator") dg rfl rfl (by decide) ⟨.int (lo+i*st),H,I1,⟨t,rfl⟩,⟨rfl,rfl⟩,dg,λb hb=>(hf b hb).1⟩⟩
 done:=by intro X hP hw hK hc i aa s U H E I hf st hg;subst hP hw hK;obtain⟨f0,f1,f2,f3,f4,f5⟩:=hf it (by simp);exact wpAny_pyNext_range_end (I.ok.hd hc) st (by have:n<=i:=hg;lia) λh' eb=>⟨rfl,I.turned (t':=s.toks) (λb o hb e=>eb b o hb e) f0 f1 f3 f4 f5⟩
 self:=λ_ _ _ _ _ st h=>wpAny_pyIter_rangeiter st h
def Ws(ta:TA):TI:=λU H R=>ta U H λvs H1=>∃i j c:Int,vs=[.int i,.int j,.int c]/\0<c/\c<1073741824/\Builtin.Range.small i j c=true/\0<=Builtin.Range.rangeSize i j c/\R (X6 i c (Builtin.Range.rangeSize i j c).toNat) H1
section
variable{X:Cx}{tg:Expr}
theorem MS{a b c:Expr}{ta:TA}{p pos:Pos}(hg:Gl X "range")(hm:X.mg "range"=none)(ha:PA X [a,b,c] ta)(hs:starEach [a,b,c] X.env=[(false,eval a X.env),(false,eval b X.env),(false,eval c X.env)]:=by rfl)
  (aO:starEach [b,c] X.env=[(false,eval b X.env),(false,eval c X.env)]:=by rfl):PI X tg (.Call (.Name "range" p) [a,b,c] [] pos) (Ws ta):=by
 intro aa s U H R I h;refine Call_ (Fb I hg hm boot_range (callWith_type1 (thn (ha pos aa s U H _ I h) λus s1 ai=>?_) (by rw[hs,aO]) (by rw[aO];rfl)));obtain⟨vs,H1,I1,r1,q1⟩:= ai;obtain⟨i,j,k,e,h0,hk,oI,hn,q⟩:=q1;subst e;cases r1 with
 |cons r rr =>
  cases rr with
  |cons r' rr =>
   cases rr with
   |cons r'' rr =>
    cases rr;obtain⟨t,rfl⟩:=r;obtain⟨t',rfl⟩:=r';obtain⟨jo,rfl⟩:=r'';refine call_range_3 (by lia) ?_ (.inl (PyProof.noPylong_small (by lia)));refine wpAny_pyIter_range (IsRange.new ..) oI ?_;have I2:Inv X aa U H1 {s1 with heap:=s1.heap.push {cls:=.type "range",data:=.fields #[.int i t,.int j t',.int k jo]},toks:=s1.toks}:=I1.kept λb o e=>ql _ e
    refine⟨(s1.heap.push {cls:=.type "range",data:=.fields #[.int i t,.int j t',.int k jo]}).objs.size,[(s1.heap.push {cls:=.type "range",data:=.fields #[.int i t,.int j t',.int k jo]}).objs.size],_,_,H1,rfl,
     I2.kept (t':=s1.toks) λb o e=>ql _ e,Ju _ i k (Builtin.Range.rangeSize i j k).toNat,?_,λb hb=>?_,q⟩
    .have e1:i+((0:Nat):Int)*k=i:=by simp
     have e2:(((Builtin.Range.rangeSize i j k).toNat:Nat):Int)-((0:Nat):Int)=Builtin.Range.rangeSize i j k:=by lia
     show IsRangeIter _ _ (i+((0:Nat):Int)*k) ((((Builtin.Range.rangeSize i j k).toNat:Nat):Int)-((0:Nat):Int)) k;rw[e1,e2];exact qO _ rfl
    .have e:b=(s1.heap.push {cls:=.type "range",data:=.fields #[.int i t,.int j t',.int k jo]}).objs.size:=by simpa using hb
     subst e;exact I2.TU (qH _) (I2.z9.fresh (qH _))
def Its(z:Str):It:=⟨λi _=>i<z.cps.size,λi H x H'=>H'=H/\∃c,z.cps[i]?=some c/\x=.str ⟨#[c]⟩,λi _=>z.cps.size<=i⟩
theorem WA{M:Model}{A:Around}{E:Value->Shared->Prop}{s:Shared}{tg:Expr}{it:Value}{x:Str}{t:Tok}{Q:Unit->Shared->Prop}(hQ:Q () s):wpAny M A (letOwnedTupleGo tg it (.str x t)) Q E s:=by
 unfold letOwnedTupleGo;cases tg<;>first
  |exact qI hQ
  |(cases it<;>exact qI hQ)
theorem OU{P:Program}{w:World}{K:Fg}{tg:Expr}(it:Addr)(ty:String)(z:Str)(t:Tok)(cG:ty="str_ascii_iterator"\/ty="str_iterator"):Turn P w K tg (Its z) [it] it (λi h=>h.IsStrIter it ty z t i) where
 mem:=by simp
 obj:=λi h st b hb=>by
  have e:b=it:=by simpa using hb
  subst e;obtain⟨o,e,c,d⟩:=st;exact⟨o,e,λv z=>by rw[d]at z;cases z⟩
 keep:=λi h h' st k=>by obtain⟨o,e,c,d⟩:=st;exact⟨o,k it (by simp) o e,c,d⟩
 item:=by
  intro X hP hw hK hc i aa s U H E I hf st hg;subst hP hw hK;obtain⟨f0,f1,f2,f3,f4,f5⟩:=hf it (by simp);have aV:∀(v:Value)(h':Heap)(tk:Nat),SignAt z i v->h'.IsStrIter it ty z t (i+1)->(∀b o,b∉[it]->s.heap.get? b=some o->h'.get? b=some o) ->
    ∃u,some v=some u/\wpAny (model X.prog X.w) X.A (letOwnedTupleGo tg (.ref it) u) (λ_ s2=>∃x H',Inv X aa U H' s2/\RelV x u/\(Its z).zq i H x H'/\s2.heap.IsStrIter it ty z t (i+1)/\∀b∈[it],H' b=none) E {s with heap:=h',toks:=tk}:=λv h' tk hv dg kk=>by
   obtain⟨c,u,gM,rfl⟩:=hv;have I1:Inv X aa U H {s with heap:=h',toks:=tk}:=I.turned (λb o hb e=>kk b o (by simpa using hb) e) f0 f1 f3 f4 f5;exact⟨_,rfl,WA ⟨.str ⟨#[c]⟩,H,I1,⟨u,rfl⟩,⟨rfl,c,gM,rfl⟩,dg,λb hb=>(hf b hb).1⟩⟩
  rcases cG with rfl|rfl
  .exact(Walks.strAscii (prog:=X.prog) (w:=X.w) (I.ok.hd hc) it z t).item i s _ _ hg st aV
  .exact(Walks.strWide (prog:=X.prog) (w:=X.w) (I.ok.hd hc) it z t).item i s _ _ hg st aV
 done:=by
  intro X hP hw hK hc i aa s U H E I hf st hg;subst hP hw hK;obtain⟨f0,f1,f2,f3,f4,f5⟩:=hf it (by simp);have hz:z.cps[i]?=none:=Array.getElem?_eq_none hg;rcases cG with rfl|rfl
  .exact wpAny_pyNext_ascii_end (I.ok.hd hc) st hz λh' jO=>⟨rfl,I.turned (t':=s.toks) (λb o hb e=>jO b o hb e) f0 f1 f3 f4 f5⟩
  .exact wpAny_pyNext_wide_end (I.ok.hd hc) st hz λh' jO=>⟨rfl,I.turned (t':=s.toks) (λb o hb e=>jO b o hb e) f0 f1 f3 f4 f5⟩
 self:=λ_ _ _ _ _ st h=>by
  rcases cG with rfl|rfl
  .exact wpAny_pyIter_striter_ascii st h
  .exact wpAny_pyIter_striter_wide st h
end
section
variable{K:Fg}{a:Addr}{xs:List V}{g:TG}{te:TE}{Q:VK}{kH:St}{H1:Hp}
end
section
variable{X:Cx}(K:Fg)
end
theorem Nk{X:Cx}:MtM X "list.pop" (λx vs H Q=>∃l e z,x=.ref l/\vs=[]/\H l=some (.lst (e++[z]))/\Q z (upd H l (.lst e))):=by intro aa s U H x vs v us Q I rx rv h;obtain⟨l,e,z,rfl,rfl,hH,q⟩:=h;refine V1 aa s U H _ _ v us Q I rx rv ⟨l,e++[z],z,rfl,rfl,hH,by simp,?_⟩;rw[sA];exact q
structure FnAt(P:Program)(w:World)(K:Fg)(mg:Str->Option Value)(base:Heap)(CX:CXT)(x:Str)(k:Nat)(ps:List Str)(sp:Sp):Prop where
 ex:∃f fd,Ed P w K mg base CX k f fd ps sp/\mg x=some (.ref f)/\keepIn K (.ref f)=true/\Binds K fd ps []
section
variable{X:Cx}{CX:CXT}{k:Nat}{ps:List Str}{sp:Sp}{E:XK}{x:Str}{p pos:Pos}{e:Expr}{es:List Expr}{t:TA}
end
section
variable{X:Cx}{x:Str}{pos:Pos}
theorem Yz{i:Int}(h:∃t,X.mg x=some (.int i t))(hg:Gl X x:=by rfl)(hd:(x==("__debug__":Str))=false:=by decide):PE X (.Name x pos) (tC (.int i)):=by obtain⟨t,h⟩:=h;exact FQ hg h ⟨t,rfl⟩ hd
theorem Yy{z:Str}(h:∃t,X.mg x=some (.str z t))(hg:Gl X x:=by rfl)(hd:(x==("__debug__":Str))=false:=by decide):PE X (.Name x pos) (tC (.str z)):=by obtain⟨t,h⟩:=h;exact FQ hg h ⟨t,rfl⟩ hd
theorem NA{k:Key}{v:Value}(h:HG k v=true):RelV (kV k) v:=by
 rcases Bg h with⟨i,t,rfl,rfl⟩|⟨x,t,rfl,rfl⟩
 .exact⟨t,rfl⟩
 .exact⟨t,rfl⟩
theorem Mm{af:List (Key×V)}{vs:List (Key×Value)}{ao:Array Value}(r:KV af vs)(h:ItemsOf (λi v=>∃k x,vs[i]?=some (k,x)/\HG k v=true) ao vs.length):Vals (af.map λkv=>kV kv.1) ao.toList:=by
 obtain⟨h1,h2⟩:=h;have key:∀(af:List (Key×V))(vs:List (Key×Value))(l:List Value),KV af vs->l.length=vs.length->(∀(j:Nat)(v:Value),l[j]?=some v->∃k x,vs[j]?=some (k,x)/\HG k v=true)->Vals (af.map λkv=>kV kv.1) l:=by
  intro af
  induction af with
  |nil =>intro vs l r hl _;cases r;have:l=[]:=rn (by simpa using hl);subst this;exact .nil
  |cons p af ih =>
   intro vs l r hl hh;cases r with
   |@cons _ q _ vr e t =>
    cases l with
    |nil=>simp at hl
    |cons v l =>
     obtain⟨k,x,e1,e2⟩:=hh 0 v rfl;have nq:q=(k,x):=Option.some.inj e1;refine .cons ?_ (ih vr l t (by simpa using hl) λj w hw=>?_)
     .have:p.1=k:=by rw[e.1,nq]
      show RelV (kV p.1) v;rw[this];exact NA e2
     .exact hh (j+1) w hw
 exact key af vs ao.toList r (by rw[sj];exact h1) λj v e=>h2 j v (by rw[<- Array.getElem?_toList];exact e)
end
structure UQ(P:Program)(w:World)(K:Fg)(mg:Str->Option Value)(base:Heap)(CX:CXT)(C:Addr)(m:Str)(k:Nat)(ps:List Str)(sp:Sp):Prop where
 cl:Cls K C
 ex:∃f fd,Ed P w K mg base CX k f fd ps sp/\Meth K C m f/\Binds K fd ps []
structure X5(P:Program)(w:World)(K:Fg)(mg:Str->Option Value)(base:Heap)(CX:CXT)(x:Str)(C:Addr)(k:Nat)(ps:List Str)(sp:Sp):Prop where
 at_:mg x=some (.ref C)
 ex:∃f fd,Ed P w K mg base CX k f fd ps sp/\Mk K C f/\Binds K fd ps []
section
variable{X:Cx}{CX:CXT}{k:Nat}{C:Addr}{ps:List Str}{sp:Sp}{E:XK}{x m:Str}{p pos av:Pos}{e o:Expr}{es:List Expr}{ta:TE}{t:TA}
theorem VB{pl:Sem Bool}(G:UQ X.prog X.w X.K X.mg X.base CX C m k ps sp)(hr:DL k X.A)(hx:Passes CX X E)(he:PE X o ta)
  (ht:eval (.Call (.Attribute o m av) [] [] pos) X.env=(do
   let ov <- eval o X.env
   standAt av.atName
   let(f,first) <- holding [ov] (getMethod ov m pl)
   callWith pos f first (backTo pos (starEach [] X.env)) (backToKw pos (keywordEach [] X.env))):=by rfl) :
  PE X (.Call (.Attribute o m av) [] [] pos) (Se C m sp [] E ta XR):=by
 obtain⟨f,fd,F,hm,hb⟩:=G.ex;exact Pk he G.cl hm F hr hb .nil hx ht
theorem Yw(G:X5 X.prog X.w X.K X.mg X.base CX x C k ps sp)(hr:DL (k+1) X.A)(hx:Passes CX X E)(ha:PA X (e::es) t)(hg:Gl X x:=by rfl)(aQ:(x==("__debug__":Str))=false:=by decide)
  (he:starEach (e::es) X.env=(false,eval e X.env)::starEach es X.env:=by rfl) (az:(backTo pos (starEach es X.env)).any (·.1)=false:=by rfl):PE X (.Call (.Name x p) (e::es) [] pos) (U1 C sp [] E t):=by
 obtain⟨f,fd,F,M,hb⟩:=G.ex;exact Sv M F hr hg G.at_ hb .nil hx ha aQ he az
end
def orR(r r':R2):R2:=λx y H Q=>r x y H Q\/r' x y H Q
section
variable{X:Cx}
theorem OpR.orR{f:Value->Value->Sem Value}{r r':R2}(h:OpR X f r)(h':OpR X f r'):OpR X f (orR r r'):=λaa s U H x y v u Q I rx ry q=>q.elim (h aa s U H x y v u Q I rx ry) (h' aa s U H x y v u Q I rx ry)
theorem IxR.orR{r r':R2}(h:IxR X r)(h':IxR X r'):IxR X (L2.orR r r'):=λvalue slice aa s U H x y v u Q I rx ry q e=>q.elim (λq=>h value slice aa s U H x y v u Q I rx ry q e) (λq=>h' value slice aa s U H x y v u Q I rx ry q e)
def Vi:R2:=λx y H Q=>∃a v,x=.ref a/\Me H a y (some v)/\Q v H
def Yq(neg:Bool):R2:=λy x H Q=>∃a o,x=.ref a/\Me H a y o/\Q (.o (if neg then !o.isSome else o.isSome)) H
theorem Ro(hu:X.A.units+1<cLine):OpR X (compareOp .In) (Yq false):=by intro aa s U H y x v u Q I ry rx h;obtain⟨a,o,rfl,g,q⟩:=h;obtain rfl:u=Value.ref a:=rx;exact Jap hu I g ry λs3 I3=>⟨.o o.isSome,H,I3,rfl,q⟩
theorem M4(hu:X.A.units+1<cLine):OpR X (compareOp .NotIn) (Yq true):=by intro aa s U H y x v u Q I ry rx h;obtain⟨a,o,rfl,g,q⟩:=h;obtain rfl:u=Value.ref a:=rx;exact Ul hu I g ry λs3 I3=>⟨.o (!o.isSome),H,I3,rfl,q⟩
theorem Tj(hu:X.A.units+1<cLine):IxR X Vi:=by
 intro value slice aa s U H x y v u Q I rx ry h hs;obtain⟨a,w,rfl,g,q⟩:=h;obtain rfl:v=Value.ref a:=rx;have hT:=J0 I g;have dP:wpAny (model X.prog X.w) X.A (getItem (.ref a) u) (EP X aa U Q) X.xe s:=Om hu I g ry λw' s3 I3 df=>⟨w,H,I3,df,q⟩
 unfold subscriptTail;refine qk ?_;rw[getitemInPython_of_ne hT.not_modules];refine qk (wpAny_specialOf hT PySem.F.slot_dict_getitem.lookup ?_);have aV:wpAny (model X.prog X.w) X.A (subscripted slice false (.ref a) u) (λr aN=>wpAny (model X.prog X.w) X.A (letTemporaryGo value (.ref a) r >>= λ_=>pure r) (EP X aa U Q) X.xe aN) X.xe s:=by rw[hs];exact wpAny_operating (wpAny_mono dP (λr aN c9=>qk (wpAny_letTemporaryGo (qI c9))) λ_ _ x=>x)
 first
  |exact qI (qk aV)
  |exact qk (qI (qk aV))
  |exact qk aV
noncomputable def SA(r r':RZ):RZ:=λo i v H Q=>r o i v H Q\/r' o i v H Q
theorem QR.orR{r r':RZ}(h:QR X r)(h':QR X r'):QR X (SA r r'):=λaa s U H o i v ov iv u Q I r1 r2 r3 q=>q.elim (h aa s U H o i v ov iv u Q I r1 r2 r3) (h' aa s U H o i v ov iv u Q I r1 r2 r3)
noncomputable def O8:RZ:=λo i v H Q=>∃a H4,o=.ref a/\OQ H a i v H4/\Q H4
theorem set_dict(hu:X.A.units+1<cLine):QR X O8:=by intro aa s U H o i v ov iv u Q I ro ri rv h;obtain⟨a,H4,rfl,g,q⟩:=h;obtain rfl:ov=Value.ref a:=ro;exact IY hu I g ri rv λs4 I4=>⟨H4,I4,q⟩
def Rm(r r':List V->Hp->VK->Prop):List V->Hp->VK->Prop:=λvs H Q=>r vs H Q\/r' vs H Q
theorem CO.orR{f:Value}{r r':List V->Hp->VK->Prop}(h:CO X f r)(h':CO X f r'):CO X f (Rm r r'):=λaa s U H xs us Q I rx q=>q.elim (h aa s U H xs us Q I rx) (h' aa s U H xs us Q I rx)
def XT(r r':V->List V->Hp->VK->Prop):V->List V->Hp->VK->Prop:=λx vs H Q=>r x vs H Q\/r' x vs H Q
theorem MtR.orR{id:String}{r r':V->List V->Hp->VK->Prop}(h:MtR X id r)(h':MtR X id r'):MtR X id (XT r r'):=λaa s U H x xs v us Q I rx rs q=>q.elim (h aa s U H x xs v us Q I rx rs) (h' aa s U H x xs v us Q I rx rs)
def Jaj(K:Fg)(tl:TE):TI:=λU H R=>tl U H λx H1=>(∃a,x=.ref a/\(∃xs,SqL K H1 a xs)/\R (Itl K a) H1)\/(∃a,x=.ref a/\(∃xs,SqT K H1 a xs)/\R (Itt K a) H1)\/(∃z,x=.str z/\R (Its z) H1)
variable{tg:Expr}
theorem Vt{l:Expr}{tl:TE}(hl:PE X l tl):PI X tg l (Jaj X.K tl):=by
 intro aa s U H R I h;have key:∀(x:V)(H1:Hp)(v:Value)(s1:Shared),Inv X aa U H1 s1->RelV x v->((∃a,x=.ref a/\(∃xs,SqL X.K H1 a xs)/\R (Itl X.K a) H1)\/(∃a,x=.ref a/\(∃xs,SqT X.K H1 a xs)/\R (Itt X.K a) H1)\/(∃z,x=.str z/\R (Its z) H1)) ->
   wpAny (model X.prog X.w) X.A (pyIter v) (PIE X aa U tg R) X.xe s1:=by
  intro x H1 v s1 I1 r1 q1;rcases q1 with⟨a,e,⟨xs,hq⟩,q⟩|⟨a,e,⟨xs,hq⟩,q⟩|⟨z,e,q⟩
  .subst e;cases r1;obtain⟨ah,rv,p,hz⟩:=I1.list hq;refine wpAny_pyIter_list p.isList ?_;refine⟨s1.heap.objs.size,[s1.heap.objs.size],_,_,H1,rfl,I1.kept (t':=s1.toks) λb o e=>ql _ e,Mr a _,⟨_,qO _ rfl,rfl,rfl⟩,λb hb=>?_,q⟩;have e:b=s1.heap.objs.size:=by simpa using hb
   subst e;exact I1.TU (qH _) (I1.z9.fresh (qH _))
  .subst e;cases r1;obtain⟨ah,rv,p,hz⟩:=I1.tuple hq;refine wpAny_pyIter_tuple (show s1.heap.IsTuple a ah.toArray from p) ?_;refine⟨s1.heap.objs.size,[s1.heap.objs.size],_,_,H1,rfl,I1.kept (t':=s1.toks) λb o e=>ql _ e,Lm a _,⟨_,qO _ rfl,rfl,rfl⟩,λb hb=>?_,q⟩;have e:b=s1.heap.objs.size:=by simpa using hb
   subst e;exact I1.TU (qH _) (I1.z9.fresh (qH _))
  .subst e;obtain⟨t,rfl⟩:=r1;have go:∀(ty:String),(ty="str_ascii_iterator"\/ty="str_iterator")->PIE X aa U tg R (.ref s1.heap.objs.size) {s1 with heap:=s1.heap.push {cls:=.type ty,data:=.fields #[.str z t,.int 0 0]} }:=λty cG=>by
    refine⟨s1.heap.objs.size,[s1.heap.objs.size],_,_,H1,rfl,I1.kept (t':=s1.toks) λb o e=>ql _ e,OU _ ty z t cG,⟨_,qO _ rfl,rfl,rfl⟩,λb hb=>?_,q⟩;have e:b=s1.heap.objs.size:=by simpa using hb
    subst e;exact I1.TU (qH _) (I1.z9.fresh (qH _))
   cases ha:z.cps.all (·<128)
   .exact wpAny_pyIter_wide ha (go _ (.inr rfl))
   .exact wpAny_pyIter_ascii ha (go _ (.inl rfl))
 refine thn (hl aa s U H _ I h) λv s1 ai => ?_
 obtain⟨x,H1,I1,r1,q1⟩:= ai;exact key x H1 v s1 I1 r1 q1
end
end L2
namespace PySem
namespace Zp
section
variable{prog:Program}{w:World}{A:Around}{E:Value->Shared->Prop}{s:Shared}
theorem OV{it t:Addr}{i:Nat}{items:Array Value}{x:Value}{Q:Value->Shared->Prop}(cW:s.heap.IsTupleIter it t i)(ht:s.heap.IsTuple t items)(hx:items[i]?=some x)
  (hQ:∀h',h'.IsTupleIter it t (i+1)->Heap.SameBut it s.heap h'->Q x {s with heap:=h' }):wpAny (model prog w) A (Builtin.SmallTypes.nextOf (.ref it)) Q E s:=by
 obtain⟨o,ho,hc,hd⟩:=id cW;obtain⟨ol,ke,_,nl,jN⟩:=ht;unfold Builtin.SmallTypes.nextOf;refine qk (wpAny_callSpecial?_slot (name:=Str.ofString "__next__") cW.typeIs F.slot_tuple_iterator_next (wpAny_call_entry F.slot_tuple_iterator_next cW.typeIs F.entry_tuple_iterator_next ?_ (F.args_tuple_iterator_next_1 _)));show wpAny _ _ (field (.ref it) 0 >>= _) _ _ s;refine qk (rE ho hd (x:=.ref t) rfl ?_);show wpAny _ _ (if(Value.ref t==Value.none)=true then _ else _) _ _ s;rw[if_neg (show ¬((Value.ref t==Value.none)=true)from qR)];show wpAny _ _ (field (.ref it) 1 >>= _) _ _ s;refine qk (rE ho hd (x:=.int i 0) rfl ?_);show wpAny _ _ (seqItems? (.ref t) >>= _) _ _ s;refine qk (wpAny_seqItems ke jN ?_);simp only[rO,hx];refine qk (wpAny_setField ho hd (by simp) (qI ⟨x,rfl,qI (hQ _ ?_ (Heap.SameBut.update ..))⟩));exact⟨_,sr _ ho (Obj.isFreed_of_fields (Obj.data_mapFields hd _)),(Obj.cls_mapFields ..).trans hc,by rw[Obj.data_mapFields hd];simp[rawInt]⟩
theorem R7{it t:Addr}{i:Nat}{items:Array Value}{Q:Value->Shared->Prop}(hh:A.handled=none)(cW:s.heap.IsTupleIter it t i)(ht:s.heap.IsTuple t items)(hx:items[i]?=none)
  (hE:∀h' e,Heap.ExtBut it s.heap h'->(∃o,h'.get? e=some o/\o.cls=.type "StopIteration")->E (.ref e) {s with heap:=h' }):wpAny (model prog w) A (Builtin.SmallTypes.nextOf (.ref it)) Q E s:=by
 obtain⟨o,ho,hc,hd⟩:=id cW;obtain⟨ol,ke,_,nl,jN⟩:=ht;unfold Builtin.SmallTypes.nextOf;refine qk (wpAny_callSpecial?_slot (name:=Str.ofString "__next__") cW.typeIs F.slot_tuple_iterator_next (wpAny_call_entry F.slot_tuple_iterator_next cW.typeIs F.entry_tuple_iterator_next ?_ (F.args_tuple_iterator_next_1 _)));show wpAny _ _ (field (.ref it) 0 >>= _) _ _ s;refine qk (rE ho hd (x:=.ref t) rfl ?_);show wpAny _ _ (if(Value.ref t==Value.none)=true then _ else _) _ _ s;rw[if_neg (show ¬((Value.ref t==Value.none)=true)from qR)];show wpAny _ _ (field (.ref it) 1 >>= _) _ _ s;refine qk (rE ho hd (x:=.int i 0) rfl ?_);show wpAny _ _ (seqItems? (.ref t) >>= _) _ _ s;refine qk (wpAny_seqItems ke jN ?_);simp only[rO,hx];refine qk (wpAny_rule (qk (wpAny_setField ho hd (by simp) ?_)));show wpAny _ _ (newExc (.type "StopIteration") [] >>= _) _ _ _;refine qk ?_;simp only[newExc,newTuple];refine qk (wpAny_newObj_type ?_ (by size_fits));refine qk (m:=firstArgMember _ _) (wpAny_of_eq (a:=Value.none) (by first|rfl|(simp only[firstArgMember];rfl)) ?_);refine wpAny_newObj_type ?_ (by size_fits);simp only[raiseNew];refine qk (wpAny_handled ?_);first|rw[show A.in1.handled=none from hh]|rw[hh]
 refine qk (qI (wpAny_throw ?_));exact hE _ _ (((Heap.SameBut.update ..).extBut.push _).push _) ⟨_,qO _ rfl,rfl⟩
end
structure Draws(prog:Program)(w:World)(it src:Addr)(xs:Array Value)(S:Nat->Heap->Prop):Prop where
 ne:src≠it
 obj:∀k h,S k h->∃o,h.get? it=some o/\∀v,o.data≠.cell v
 zc:∀k h,S k h->∃o,h.get? src=some o/\(o.cls=.type "list"\/o.cls=.type "tuple")
 keep:∀k (h h':Heap),S k h->(∀o,h.get? it=some o->h'.get? it=some o)->(∀o,h.get? src=some o->h'.get? src=some o)->S k h'
 item:∀(A:Around)(s:Shared)(k:Nat)(x:Value)(Q:Value->Shared->Prop)(E:Value->Shared->Prop),S k s.heap->xs[k]?=some x->(∀h',S (k+1) h'->Heap.SameBut it s.heap h'->Q x {s with heap:=h' }) ->
  wpAny (model prog w) A (Builtin.SmallTypes.nextOf (.ref it)) Q E s
 stop:∀(A:Around)(s:Shared)(k:Nat)(Q:Value->Shared->Prop)(E:Value->Shared->Prop),A.handled=none->S k s.heap->xs[k]?=none ->
  (∀h' e,Heap.ExtBut it s.heap h'->(∃o,h'.get? e=some o/\o.cls=.type "StopIteration")->E (.ref e) {s with heap:=h' })->wpAny (model prog w) A (Builtin.SmallTypes.nextOf (.ref it)) Q E s
theorem Draws.tup{prog:Program}{w:World}{it t:Addr}{xs:Array Value}(b7:t≠it):Draws prog w it t xs (λk h=>h.IsTupleIter it t k/\h.IsTuple t xs) where
 ne:=b7
 obj:=λk h st=>by obtain⟨⟨o,e,c,d⟩,_⟩:=st;exact⟨o,e,λv z=>by rw[d]at z;cases z⟩
 zc:=λk h st=>by obtain⟨_,o,e,c,_⟩:=st;exact⟨o,e,.inr c⟩
 keep:=λk h h' st k1 k2=>⟨st.1.at k1,st.2.at k2⟩
 item:=λA s k x Q E st hx hQ=>OV st.1 st.2 hx λh' a b=>hQ h' ⟨a,st.2.at λo e=>(b.2 t b7).trans e⟩ b
 stop:=λA s k Q E hh st hx hE=>R7 hh st.1 st.2 hx hE
theorem Draws.lst{prog:Program}{w:World}{it t:Addr}{xs:Array Value}(b7:t≠it):Draws prog w it t xs (λk h=>h.IsListIter it t k/\h.IsList t xs) where
 ne:=b7
 obj:=λk h st=>by obtain⟨⟨o,e,c,d⟩,_⟩:=st;exact⟨o,e,λv z=>by rw[d]at z;cases z⟩
 zc:=λk h st=>by obtain⟨_,o,e,c,_⟩:=st;exact⟨o,e,.inl c⟩
 keep:=λk h h' st k1 k2=>⟨st.1.at k1,st.2.at k2⟩
 item:=λA s k x Q E st hx hQ=>wpAny_nextOf_list_item st.1 st.2 hx λh' a b=>hQ h' ⟨a,st.2.at λo e=>(b.2 t b7).trans e⟩ b
 stop:=λA s k Q E hh st hx hE=>wpAny_nextOf_list_end hh st.1 st.2 hx hE
structure Apart(z TI TO i1 i2 l1 l2:Addr):Prop where
 zs:TI≠z/\TO≠z/\i1≠z/\i2≠z/\l1≠z/\l2≠z
 ts:TI≠TO/\TI≠i1/\TI≠i2/\TO≠i1/\TO≠i2/\i1≠i2
 ls:l1≠TO/\l1≠i1/\l1≠i2/\l2≠TO/\l2≠i1/\l2≠i2
section
variable{prog:Program}{w:World}{A:Around}{E:Value->Shared->Prop}{s:Shared}{z TI TO i1 i2 l1 l2:Addr}{xs ys:Array Value}{S1 S2:Nat->Heap->Prop}
theorem PB(D:Apart z TI TO i1 i2 l1 l2)(W1:Draws prog w i1 l1 xs S1)(W2:Draws prog w i2 l2 ys S2){k:Nat}{x y a b:Value}{Q:Value->Shared->Prop}
  (hz:IsZip s.heap z TI TO .none) (bS:IsPair s.heap TI (.ref i1) (.ref i2)) (bY:IsPair s.heap TO a b) (h1:S1 k s.heap) (h2:S2 k s.heap) (hx:xs[k]?=some x) (hy:ys[k]?=some y)
  (hQ:∀h',IsZip h' z TI TO (rawInt s.heap.objs.size)->IsPair h' TO x y->S1 (k+1) h'->S2 (k+1) h'->IsPair h' s.heap.objs.size x y->h'.objs.size=s.heap.objs.size+1 ->
   (∀c o,c≠z->c≠TO->c≠i1->c≠i2->s.heap.get? c=some o->h'.get? c=some o)->Q (.ref s.heap.objs.size) {s with heap:=h' }) :
  wpAny (model prog w) A (Builtin.«zip.__next__» ⟨[.ref z],[]⟩) (λaV s'=>∃v,aV=.done (.ret v)/\Q v s') E s:=by
 obtain⟨⟨iY,eS,fw,fS,iF,iG⟩,⟨fZ,gd,gf,cT,cU,iD⟩,⟨dQ,dR,fB,de,dS,dU⟩⟩:=D;show wpAny _ _ (field (.ref z) 2 >>= _) _ _ _;refine qk (rE hz rfl (x:=.bool false) rfl ?_);show wpAny _ _ (field (.ref z) 3 >>= _) _ _ _;refine qk (rE hz rfl (x:=.ref TI) rfl ?_);refine qk (wpAny_seqItems bS rfl ?_);show wpAny _ _ (Builtin.SmallTypes.ownedTupleIsFree (.ref z) >>= _) _ _ _;refine qk ?_;unfold Builtin.SmallTypes.ownedTupleIsFree;refine qk (rE hz rfl (x:=.none) rfl (qI ?_));simp only[if_true];refine qk (wpAny_rule ?_);refine qk (rE hz rfl (x:=.ref TO) rfl ?_);refine qk (wpAny_setField_rec hz (by simp) λha fR cE=>?_);replace fR:IsZip ha z TI TO .ellipsis:=fR;refine qk ?_;simp only[List.zipIdx_cons,List.zipIdx_nil,sW,List.forIn_nil];refine qk (qk (wpAny_onRaise ?_));show wpAny _ _ (Builtin.SmallTypes.nextOf (.ref i1) >>= _) _ _ _;have i5:S1 k ha:=W1.keep _ _ _ h1 (λo e=>cE.extBut _ _ fw e) λo e=>cE.extBut _ _ iF e
 refine qk (W1.item _ _ k x _ _ i5 hx λhb kU cm=>qI ?_);have dz:IsPair hb TO a b:=cm.extBut _ _ cT (cE.extBut _ _ eS bY);refine qk (wpAny_seqItems dz rfl ?_);refine qk (wpAny_updateSeq_pair dz λhc eW cF=>?_);replace eW:IsPair hc TO x b:=eW;refine qk (wpAny_letGo (qI ?_));refine qk (qk (wpAny_onRaise ?_));show wpAny _ _ (Builtin.SmallTypes.nextOf (.ref i2) >>= _) _ _ _;have jF:S2 k hc:=W2.keep _ _ _ h2 (λo e=>cF.extBut _ _ (Ne.symm cU) (cm.extBut _ _ (Ne.symm iD) (cE.extBut _ _ fS e))) λo e=>cF.extBut _ _ de (cm.extBut _ _ dS (cE.extBut _ _ iG e))
 refine qk (W2.item _ _ k y _ _ jF hy λhd nM fq=>qI ?_);have hZ:IsPair hd TO x b:=fq.extBut _ _ cU eW;refine qk (wpAny_seqItems hZ rfl ?_);refine qk (wpAny_updateSeq_pair hZ λhe eX gz=>?_);replace eX:IsPair he TO x y:=eX;refine qk (wpAny_letGo (qI (qI ?_)));refine qk (wpAny_seqItems eX rfl ?_);refine qk (wpAny_newTuple ?_);have hsz:he.objs.size=s.heap.objs.size:=by rw[gz.1,fq.1,cF.1,cm.1,cE.1]
 have lz:IsZip he z TI TO .ellipsis:=gz.extBut _ _ (Ne.symm eS) (fq.extBut _ _ (Ne.symm fS) (cF.extBut _ _ (Ne.symm eS) (cm.extBut _ _ (Ne.symm fw) fR)));have oh:∀c o,c≠z->c≠TO->c≠i1->c≠i2->s.heap.get? c=some o->he.get? c=some o:=λc o c1 c2 c3 c4 e=>gz.extBut _ _ c2 (fq.extBut _ _ c4 (cF.extBut _ _ c2 (cm.extBut _ _ c3 (cE.extBut _ _ c1 e))))
 have nK:S1 (k+1) he:=W1.keep _ _ _ kU (λo e=>gz.extBut _ _ (Ne.symm cT) (fq.extBut _ _ iD (cF.extBut _ _ (Ne.symm cT) e))) λo e=>gz.extBut _ _ dQ (fq.extBut _ _ fB (cF.extBut _ _ dQ e))
 have nN:S2 (k+1) he:=W2.keep _ _ _ nM (λo e=>gz.extBut _ _ (Ne.symm cU) e) λo e=>gz.extBut _ _ de e
 have lG:z<he.objs.size:=qM lz;show wpAny _ _ (Builtin.SmallTypes.ownedTupleHandOut (.ref z) (.ref he.objs.size) >>= _) _ _ _;refine qk ?_;unfold Builtin.SmallTypes.ownedTupleHandOut;have oU:IsZip (he.push {cls:=.type "tuple",data:=.seq #[x,y]}) z TI TO .ellipsis:=ql _ lz;refine qk (wpAny_setField_rec oU (by simp) λhg kl kg=>?_);replace kl:IsZip hg z TI TO (rawInt he.objs.size):=kl;refine wpAny_setField_rec kl (by simp) λhi jf kh=>?_;replace jf:IsZip hi z TI TO (rawInt he.objs.size):=jf
 have up:∀c o,c≠z->he.get? c=some o->hi.get? c=some o:=λc o c1 e=>kh.extBut _ _ c1 (kg.extBut _ _ c1 (ql _ e))
 have kY:IsPair hi he.objs.size x y:=kh.extBut _ _ (Nat.ne_of_gt lG) (kg.extBut _ _ (Nat.ne_of_gt lG) (qO _ rfl));have lT:hi.objs.size=he.objs.size+1:=by rw[kh.1,kg.1,sk]
 rw[hsz]at jf kY lT;refine qI ⟨_,rfl,?_⟩;show Q (.ref he.objs.size) _;rw[hsz];exact hQ hi jf (up _ _ eS eX) (W1.keep _ _ _ nK (λo e=>up _ o fw e) λo e=>up _ o iF e) (W2.keep _ _ _ nN (λo e=>up _ o fS e) λo e=>up _ o iG e) kY lT λc o c1 c2 c3 c4 e=>up c o c1 (oh c o c1 c2 c3 c4 e)
theorem next_end(hh:A.handled=none)(D:Apart z TI TO i1 i2 l1 l2)(W1:Draws prog w i1 l1 xs S1)(W2:Draws prog w i2 l2 ys S2){k:Nat}{a b:Value}{Q:Fin->Shared->Prop}
  (hz:IsZip s.heap z TI TO .none) (bS:IsPair s.heap TI (.ref i1) (.ref i2)) (bY:IsPair s.heap TO a b) (h1:S1 k s.heap) (h2:S2 k s.heap) (dD:xs[k]?=none\/ys[k]?=none)
  (hE:∀h' e,(∀c o,c≠z->c≠TO->c≠i1->c≠i2->s.heap.get? c=some o->h'.get? c=some o)->(∃o,h'.get? e=some o/\o.cls=.type "StopIteration")->E (.ref e) {s with heap:=h' }) :
  wpAny (model prog w) A (Builtin.«zip.__next__» ⟨[.ref z],[]⟩) Q E s:=by
 obtain⟨⟨iY,eS,fw,fS,iF,iG⟩,⟨fZ,gd,gf,cT,cU,iD⟩,⟨dQ,dR,fB,de,dS,dU⟩⟩:=D;show wpAny _ _ (field (.ref z) 2 >>= _) _ _ _;refine qk (rE hz rfl (x:=.bool false) rfl ?_);show wpAny _ _ (field (.ref z) 3 >>= _) _ _ _;refine qk (rE hz rfl (x:=.ref TI) rfl ?_);refine qk (wpAny_seqItems bS rfl ?_);show wpAny _ _ (Builtin.SmallTypes.ownedTupleIsFree (.ref z) >>= _) _ _ _;refine qk ?_;unfold Builtin.SmallTypes.ownedTupleIsFree;refine qk (rE hz rfl (x:=.none) rfl (qI ?_));simp only[if_true];refine qk (wpAny_rule ?_);refine qk (rE hz rfl (x:=.ref TO) rfl ?_);refine qk (wpAny_setField_rec hz (by simp) λha fR cE=>?_);replace fR:IsZip ha z TI TO .ellipsis:=fR;refine qk ?_;simp only[List.zipIdx_cons,List.zipIdx_nil,sW,List.forIn_nil];refine qk (qk (wpAny_onRaise ?_));show wpAny _ _ (Builtin.SmallTypes.nextOf (.ref i1) >>= _) _ _ _;have i5:S1 k ha:=W1.keep _ _ _ h1 (λo e=>cE.extBut _ _ fw e) λo e=>cE.extBut _ _ iF e
 cases hx:xs[k]? with
 |none =>
  refine qk (W1.stop _ _ k _ _ hh i5 hx λhb e cm he=>?_);obtain⟨oe,gv,ic⟩:=he;have lx:IsZip hb z TI TO .ellipsis:=cm _ _ (Ne.symm fw) fR;have jQ:e≠z:=λq=>by subst q;rw[lx]at gv;cases gv;simp at ic
  refine wpAny_setField_rec lx (by simp) λhc _ cF=>hE hc e (λc o c1 _ c3 _ q=>cF.extBut _ _ c1 (cm _ _ c3 (cE.extBut _ _ c1 q))) ⟨oe,cF.extBut _ _ jQ gv,ic⟩
 |some x =>
  have hy:ys[k]?=none:=by rcases dD with h|h;rw[hx]at h;cases h;exact h
  refine qk (W1.item _ _ k x _ _ i5 hx λhb kU cm=>qI ?_);have dz:IsPair hb TO a b:=cm.extBut _ _ cT (cE.extBut _ _ eS bY);refine qk (wpAny_seqItems dz rfl ?_);refine qk (wpAny_updateSeq_pair dz λhc eW cF=>?_);refine qk (wpAny_letGo (qI ?_));refine qk (qk (wpAny_onRaise ?_));show wpAny _ _ (Builtin.SmallTypes.nextOf (.ref i2) >>= _) _ _ _;have jF:S2 k hc:=W2.keep _ _ _ h2 (λo e=>cF.extBut _ _ (Ne.symm cU) (cm.extBut _ _ (Ne.symm iD) (cE.extBut _ _ fS e))) λo e=>cF.extBut _ _ de (cm.extBut _ _ dS (cE.extBut _ _ iG e))
  refine qk (W2.stop _ _ k _ _ hh jF hy λhd e fq he=>?_);obtain⟨oe,gv,ic⟩:=he;have ly:IsZip hd z TI TO .ellipsis:=fq _ _ (Ne.symm fS) (cF.extBut _ _ (Ne.symm eS) (cm.extBut _ _ (Ne.symm fw) fR));have jQ:e≠z:=λq=>by subst q;rw[ly]at gv;cases gv;simp at ic
  refine wpAny_setField_rec ly (by simp) λhf _ lr=>hE hf e (λc o c1 c2 c3 c4 q=>lr.extBut _ _ c1 (fq _ _ c4 (cF.extBut _ _ c2 (cm.extBut _ _ c3 (cE.extBut _ _ c1 q))))) ⟨oe,lr.extBut _ _ jQ gv,ic⟩
end
end Zp
end PySem
namespace PySem
namespace Zp
noncomputable def NH(T:String)(l:Addr):Obj:={cls:=.type T,data:=.fields #[.ref l,.int 0 0]}
noncomputable def z1(h:Heap)(T1:String)(l1:Addr):Heap:=h.push (NH T1 l1)
noncomputable def z2(h:Heap)(T1 T2:String)(l1 l2:Addr):Heap:=(z1 h T1 l1).push (NH T2 l2)
noncomputable def z3(h:Heap)(T1 T2:String)(l1 l2:Addr):Heap:=(z2 h T1 T2 l1 l2).push {cls:=.type "tuple",data:=.seq #[.ref h.objs.size,.ref (z1 h T1 l1).objs.size]}
noncomputable def z4(h:Heap)(T1 T2:String)(l1 l2:Addr):Heap:=(z3 h T1 T2 l1 l2).push {cls:=.type "tuple",data:=.seq #[.none,.none]}
noncomputable def z5(h:Heap)(T1 T2:String)(l1 l2:Addr):Heap:=(z4 h T1 T2 l1 l2).push {cls:=.type "zip",data:=.fields #[.none,.bool false,.bool false,.ref (z2 h T1 T2 l1 l2).objs.size,.ref (z3 h T1 T2 l1 l2).objs.size]}
abbrev Its(T:String)(l:Addr)(C:Heap->Prop):Prop:=∀{prog:Program}{w:World}{A:Around}{E:Value->Shared->Prop}{s:Shared}{Q:Value->Shared->Prop},C s.heap->Q (.ref s.heap.objs.size) {s with heap:=s.heap.push (NH T l)}->wpAny (model prog w) A (pyIter (.ref l)) Q E s
theorem Np(T1 T2:String)(l1 l2:Addr)(C1 C2:Heap->Prop)(p1:Its T1 l1 C1)(p2:Its T2 l2 C2)(k2:∀h o,C2 h->C2 (Heap.push h o)) :
  Meets (Builtin.«zip.__new__» ⟨[.type "zip",.ref l1,.ref l2],[]⟩) (λ_ R s=>C1 s.heap/\C2 s.heap/\R (.ok (.ret (.ref (z4 s.heap T1 T2 l1 l2).objs.size))) {s with heap:=z5 s.heap T1 T2 l1 l2}) :=
 .of_wp λprog w A R s h=>by
  obtain⟨hp,g,d,tk,os⟩:=s;obtain⟨c1,c2,h⟩:=h;have cZ:=sub_zip;have a1:C1 (Shared.heap ⟨hp,g,d,tk,os⟩):=c1;have a2:C2 (Shared.heap ⟨hp.push (NH T1 l1),g,d,tk,os⟩):=k2 _ _ c2
  wp_walk using p1 a1,p2 a2
  exact⟨_,rfl,h⟩
section
variable{prog:Program}{w:World}{A:Around}{E:Value->Shared->Prop}{s:Shared}{z TI TO i1 i2 l1 l2:Addr}{xs ys:Array Value}{S1 S2:Nat->Heap->Prop}
theorem QC{T1 T2:String}{C1 C2:Heap->Prop}{Q:Value->Shared->Prop}(p1:Its T1 l1 C1)(p2:Its T2 l2 C2)(k2:∀h o,C2 h->C2 (Heap.push h o))(c1:C1 s.heap)(c2:C2 s.heap)
  (h:Q (.ref (z4 s.heap T1 T2 l1 l2).objs.size) {s with heap:=z5 s.heap T1 T2 l1 l2}):wpAny (model prog w) A (call (.type "zip") [.ref l1,.ref l2]) Q E s :=
 callType_new F.called_zip (by decide) (F.typeCall_zip_2 _ _) (F.newCall_zip_2 _ _) (λobj=>F.args_object_init_3 obj _ _) F.entry_zip_new (Np T1 T2 l1 l2 C1 C2 p1 p2 k2)
  ⟨c1,c2,⟨_,qO _ rfl,rfl⟩,h⟩
theorem Ls(D:Apart z TI TO i1 i2 l1 l2)(W1:Draws prog w i1 l1 xs S1)(W2:Draws prog w i2 l2 ys S2){k:Nat}{x y a b:Value}{Q:Option Value->Shared->Prop}
  (hz:IsZip s.heap z TI TO .none) (bS:IsPair s.heap TI (.ref i1) (.ref i2)) (bY:IsPair s.heap TO a b) (h1:S1 k s.heap) (h2:S2 k s.heap) (hx:xs[k]?=some x) (hy:ys[k]?=some y)
  (hQ:∀h',IsZip h' z TI TO (rawInt s.heap.objs.size)->IsPair h' TO x y->S1 (k+1) h'->S2 (k+1) h'->IsPair h' s.heap.objs.size x y->h'.objs.size=s.heap.objs.size+1 ->
   (∀c o,c≠z->c≠TO->c≠i1->c≠i2->s.heap.get? c=some o->h'.get? c=some o)->Q (some (.ref s.heap.objs.size)) {s with heap:=h' }) :
  wpAny (model prog w) A (pyNext (.ref z)) Q E s:=by
 have hT:s.TypeIs (.ref z) "zip":=⟨_,hz,rfl⟩
 unfold pyNext;exact qk (wpAny_attempt (wpAny_callSpecial?_slot (name:=Str.ofString "__next__") hT F.slot_zip_next (wpAny_call_entry F.slot_zip_next hT F.entry_zip_next
  (PB D W1 W2 hz bS bY h1 h2 hx hy λh' a1 a2 a3 a4 a5 a6 a7=>qI (hQ h' a1 a2 a3 a4 a5 a6 a7)) (F.args_zip_next_1 _))))
theorem Lu(hh:A.handled=none)(D:Apart z TI TO i1 i2 l1 l2)(W1:Draws prog w i1 l1 xs S1)(W2:Draws prog w i2 l2 ys S2){k:Nat}{a b:Value}{Q:Option Value->Shared->Prop}
  (hz:IsZip s.heap z TI TO .none) (bS:IsPair s.heap TI (.ref i1) (.ref i2)) (bY:IsPair s.heap TO a b) (h1:S1 k s.heap) (h2:S2 k s.heap) (dD:xs[k]?=none\/ys[k]?=none)
  (hQ:∀h',(∀c o,c≠z->c≠TO->c≠i1->c≠i2->s.heap.get? c=some o->h'.get? c=some o)->Q none {s with heap:=h' }):wpAny (model prog w) A (pyNext (.ref z)) Q E s:=by
 have hT:s.TypeIs (.ref z) "zip":=⟨_,hz,rfl⟩
 unfold pyNext;refine qk (wpAny_attempt (wpAny_callSpecial?_slot (name:=Str.ofString "__next__") hT F.slot_zip_next (wpAny_call_entry F.slot_zip_next hT F.entry_zip_next
  (next_end (A:=A.in1) (show A.in1.handled=none from hh) D W1 W2 hz bS bY h1 h2 dD λh' e hk he=>?_) (F.args_zip_next_1 _))))
 obtain⟨o,ho,hc⟩:=he;refine qk (wpAny_isInstance (T:="StopIteration") (b:=true) ⟨o,ho,hc⟩ isSubtype_stop ?_);exact qI (hQ _ hk)
end
def Lf:Bool->Heap->Addr->Addr->Nat->Prop
 |true,h,it,l,k=>h.IsTupleIter it l k
 |false,h,it,l,k=>h.IsListIter it l k
def Mf:Bool->Heap->Addr->Array Value->Prop
 |true,h,l,xs=>h.IsTuple l xs
 |false,h,l,xs=>h.IsList l xs
noncomputable def D1:Bool->String
 |true=>"tuple_iterator"
 |false=>"list_iterator"
theorem Fs(b:Bool){prog:Program}{w:World}{it t:Addr}{xs:Array Value}(b7:t≠it):Draws prog w it t xs (λk h=>Lf b h it t k/\Mf b h t xs):=by
 cases b
 .exact Draws.lst b7
 .exact Draws.tup b7
theorem Rx(b:Bool)(l:Addr)(xs:Array Value):Its (D1 b) l (λh=>Mf b h l xs):=by
 intro prog w A E s Q c q;cases b
 .exact wpAny_pyIter_list c q
 .exact wpAny_pyIter_tuple c q
theorem Mf.at{b:Bool}{h h':Heap}{l:Addr}{xs:Array Value}(c:Mf b h l xs)(e:∀o,h.get? l=some o->h'.get? l=some o):Mf b h' l xs:=by
 cases b
 .exact Heap.IsList.at c e
 .exact Heap.IsTuple.at c e
theorem Lf.at{b:Bool}{h h':Heap}{it l:Addr}{k:Nat}(c:Lf b h it l k)(e:∀o,h.get? it=some o->h'.get? it=some o):Lf b h' it l k:=by
 cases b
 .exact Heap.IsListIter.at c e
 .exact Heap.IsTupleIter.at c e
theorem Lf.obj{b:Bool}{h:Heap}{it l:Addr}{k:Nat}(c:Lf b h it l k):∃o,h.get? it=some o/\∀v,o.data≠.cell v:=by
 cases b
 .obtain⟨o,e,_,d⟩:=c;exact⟨o,e,λv z=>by rw[d]at z;cases z⟩
 .obtain⟨o,e,_,d⟩:=c;exact⟨o,e,λv z=>by rw[d]at z;cases z⟩
theorem Lf.new{b:Bool}{h:Heap}{it l:Addr}(e:h.get? it=some (NH (D1 b) l)):Lf b h it l 0:=by
 cases b
 .exact⟨_,e,rfl,rfl⟩
 .exact⟨_,e,rfl,rfl⟩
end Zp
end PySem
namespace L2
open PySem PySem.Spec PyProof.Rows
def SqB(b:Bool)(K:Fg)(H:Hp)(a:Addr)(xs:List V):Prop:=match b with|true=>SqT K H a xs|false=>SqL K H a xs
section
variable{X:Cx}{aa:List (Addr×Obj)}{U:St}{H:Hp}{s:Shared}{a:Addr}{xs ys:List V}{b:Bool}
theorem Inv.sqb(I:Inv X aa U H s)(h:SqB b X.K H a xs):∃ah:List Value,Vals xs ah/\Zp.Mf b s.heap a ah.toArray/\xs.length<=sizeLine:=by
 cases b
 .obtain⟨ah,r,p,z⟩:=I.list h;exact⟨ah,r,p.isList,z⟩
 .obtain⟨ah,r,p,z⟩:=I.tuple h;exact⟨ah,r,p,z⟩
theorem Inv.Mx(I:Inv X aa U H s)(h:SqB b X.K H a xs)(h':SqB b X.K H a ys):xs=ys:=by
 cases b
 .exact I.Ky h h'
 .exact I.Ig h h'
theorem Inv.Mq{h':Heap}{t':Nat}{fp:List Addr}(I:Inv X aa U H s)(k:∀b o,b∉fp->s.heap.get? b=some o->h'.get? b=some o)(hf:∀b∈fp,Jr X aa H b):Inv X aa U H {s with heap:=h',toks:=t' }:=by
 have fU:∀b u,H b=some u->b∉fp:=λb u e z=>by rw[(hf b z).1]at e;cases e
 refine I.step (g':=s.gens) (d':=s.drawn) (ch:=fp) (λb hb=>?_) (λb o _ _ hc e _=>k b o hc e) (λb o _ _ hc e _=>⟨o.slots,k b o hc e⟩) (λ_ _ _ _ n=>n)
  (λb o hc e=>⟨o,k b o hc e⟩) (λ_ _ e=>e) (λ_ _ _ e=>e) (λb ps e=>⟨#[],by rw[e];simp⟩) (λm hm=>?_) (λb u e=>?_) I.bare
 .obtain⟨f0,f1,f2,f3,f4,f5⟩:=hf b hb;exact⟨f3,f1,f4,f5⟩
 .obtain⟨o,es,ep,ho,r⟩:=hm;exact⟨o,es,ep,k _ o (λz=>(hf _ z).2.1 rfl) ho,r⟩
 .refine(I.z9 b u e).OO (λc v hc q=>k c v ?_ q) (λ_ q=>q) λ_ _ q=>q
  rcases hc with z|z
  .rw[z];exact fU b u e
  .exact fU c _ z
end
def Itz(K:Fg)(b1:Bool)(a1:Addr)(b2:Bool)(a2:Addr):It :=
  ⟨λi H=>∃xs ys x y,SqB b1 K H a1 xs/\SqB b2 K H a2 ys/\xs[i]?=some x/\ys[i]?=some y,
   λi H x H'=>∃T vx vy,H T=none/\x=.ref T/\H'=upd H T (.tup [vx,vy])/\(∀xs,SqB b1 K H a1 xs->xs[i]?=some vx)/\∀ys,SqB b2 K H a2 ys->ys[i]?=some vy,
   λi H=>∃xs ys,SqB b1 K H a1 xs/\SqB b2 K H a2 ys/\(xs.length<=i\/ys.length<=i)⟩
theorem OT{P:Program}{w:World}{K:Fg}{dw:List Expr}{k0:Nat}{bI:Pos}{b1 b2:Bool}{a1 a2 z TI TO i1 i2:Addr}(D:Zp.Apart z TI TO i1 i2 a1 a2) :
  Turn P w K (.Tuple dw k0 bI) (Itz K b1 a1 b2 a2) [z,TI,TO,i1,i2] z (λi h=>IsZip h z TI TO .none/\IsPair h TI (.ref i1) (.ref i2)/\(∃a b,IsPair h TO a b)/\Zp.Lf b1 h i1 a1 i/\Zp.Lf b2 h i2 a2 i) where
 mem:=by simp
 obj:=λi h st b hb=>by
  obtain⟨hz,bS,⟨ta,tb,bY⟩,h1,h2⟩:=st;simp only[qK,sO,or_false]at hb;rcases hb with rfl|rfl|rfl|rfl|rfl
  .exact⟨_,hz,λv z=>nomatch z⟩
  .exact⟨_,bS,λv z=>nomatch z⟩
  .exact⟨_,bY,λv z=>nomatch z⟩
  .exact h1.obj
  .exact h2.obj
 keep:=λi h h' st k=>by obtain⟨hz,bS,⟨ta,tb,bY⟩,h1,h2⟩:=st;exact⟨k z (by simp) _ hz,k TI (by simp) _ bS,⟨ta,tb,k TO (by simp) _ bY⟩,h1.at λo e=>k i1 (by simp) o e,h2.at λo e=>k i2 (by simp) o e⟩
 item:=by
  intro X hP hw hK hc i aa s U H E I hf st hg;subst hP hw hK;obtain⟨hz,bS,⟨ta,tb,bY⟩,h1,h2⟩:=st;obtain⟨xs,ys,x,y,q1,q2,ex,ey⟩:=hg;obtain⟨fA,r1,c1,z1⟩:=I.sqb q1;obtain⟨aI,r2,c2,z2⟩:=I.sqb q2;obtain⟨u1,oM,pC⟩:=r1.get ex;obtain⟨u2,lu,pE⟩:=r2.get ey;obtain⟨⟨iY,eS,fw,fS,iF,iG⟩,⟨fZ,gd,gf,cT,cU,iD⟩,⟨dQ,dR,fB,de,dS,dU⟩⟩:=id D;refine Zp.Ls D (Zp.Fs b1 dR) (Zp.Fs b2 dU) hz bS bY ⟨h1,c1⟩ ⟨h2,c2⟩ (x:=u1) (y:=u2) (by simpa using oM) (by simpa using lu) λh' kj jH pF pG nU iA gp=>⟨_,rfl,?_⟩
  refine wpAny_letOwnedTupleGo_zip kj λjE oS sb=>?_
  have dA:∀{c o},s.heap.get? c=some o->c≠s.heap.objs.size:=λe=>qZ (qM e)
  have Il:Inv X aa U (upd H s.heap.objs.size (.tup [x,y])) {s with heap:=s.heap.push {cls:=.type "tuple",data:=.seq #[u1,u2]},toks:=s.toks} :=
   I.laid (λb o e=>ql _ e) (qH _) ⟨by show 2<=sizeLine;rw[sizeLine_eq];decide,[u1,u2],.cons pC (.cons pE .nil),⟨_,qO _ rfl,rfl,_,rfl⟩⟩
  have bc:∀b∈[z,TI,TO,i1,i2],b≠s.heap.objs.size:=λb hb=>by
   simp only[qK,sO,or_false]at hb;rcases hb with rfl|rfl|rfl|rfl|rfl
   .exact dA hz
   .exact dA bS
   .exact dA bY
   .obtain⟨o,e,_⟩:=h1.obj;exact dA e
   .obtain⟨o,e,_⟩:=h2.obj;exact dA e
  have k8:∀b∈[z,TI,TO,i1,i2],Jr X aa (upd H s.heap.objs.size (.tup [x,y])) b:=λb hb=>by obtain⟨f0,f⟩:=hf b hb;exact⟨by rw[Am (bc b hb)];exact f0,f⟩
  have I2:Inv X aa U (upd H s.heap.objs.size (.tup [x,y])) {s with heap:=jE,toks:=s.toks}:=Il.Mq (t':=s.toks) (λb o hb e=>by
   have nz:b≠z:=λq=>hb (by simp[q])
   refine sb.extBut _ _ nz ?_;by_cases hbT:b=s.heap.objs.size
   .subst hbT;have e':(s.heap.push {cls:=.type "tuple",data:=.seq #[u1,u2]}).get? s.heap.objs.size=some o:=e;rw[qO _ rfl]at e';cases e';exact nU
   .have e':(s.heap.push {cls:=.type "tuple",data:=.seq #[u1,u2]}).get? b=some o:=e;rw[Heap.get?_push_ne _ _ _ hbT]at e';exact gp b o nz (λq=>hb (by simp[q])) (λq=>hb (by simp[q])) (λq=>hb (by simp[q])) e') k8
  refine⟨.ref s.heap.objs.size,_,I2,rfl,⟨s.heap.objs.size,x,y,I.z9.fresh (qH _),rfl,rfl,λzs hz=>by rw[I.Mx hz q1];exact ex,λzs hz=>by rw[I.Mx hz q2];exact ey⟩,?_,λb hb=>(k8 b hb).1⟩;exact⟨oS,sb.extBut _ _ iY (gp _ _ iY fZ gd gf bS),⟨_,_,sb.extBut _ _ eS jH⟩,pF.1.at λo e=>sb.extBut _ _ fw e,pG.1.at λo e=>sb.extBut _ _ fS e⟩
 done:=by
  intro X hP hw hK hc i aa s U H E I hf st hg;subst hP hw hK;obtain⟨hz,bS,⟨ta,tb,bY⟩,h1,h2⟩:=st;obtain⟨xs,ys,q1,q2,dD⟩:=hg;obtain⟨fA,r1,c1,z1⟩:=I.sqb q1;obtain⟨aI,r2,c2,z2⟩:=I.sqb q2;have e1:=r1.length;have e2:=r2.length;obtain⟨_,_,⟨dQ,dR,fB,de,dS,dU⟩⟩:=id D;refine Zp.Lu (I.ok.hd hc) D (Zp.Fs b1 dR) (Zp.Fs b2 dU) hz bS bY ⟨h1,c1⟩ ⟨h2,c2⟩ ?_ λh' hk=>⟨rfl,I.Mq (t':=s.toks) (λb o hb e=>hk b o (λq=>hb (by simp[q])) (λq=>hb (by simp[q])) (λq=>hb (by simp[q])) (λq=>hb (by simp[q])) e) hf⟩
  rcases dD with z|z
  .exact .inl (by simp;lia)
  .exact .inr (by simp;lia)
 self:=λ_ _ _ _ _ st h=>wpAny_pyIter_zip st.1 h
end L2
namespace PySem
namespace Zp
theorem made{h:Heap}{b1 b2:Bool}{l1 l2:Addr}{xs ys:Array Value}(c1:Mf b1 h l1 xs)(c2:Mf b2 h l2 ys) :
  ∃z TI TO i1 i2,z=(z4 h (D1 b1) (D1 b2) l1 l2).objs.size/\h.objs.size<=z/\h.objs.size<=TI/\h.objs.size<=TO/\h.objs.size<=i1/\h.objs.size<=i2/\Apart z TI TO i1 i2 l1 l2 /\
   IsZip (z5 h (D1 b1) (D1 b2) l1 l2) z TI TO .none/\IsPair (z5 h (D1 b1) (D1 b2) l1 l2) TI (.ref i1) (.ref i2)/\IsPair (z5 h (D1 b1) (D1 b2) l1 l2) TO .none .none /\
   Lf b1 (z5 h (D1 b1) (D1 b2) l1 l2) i1 l1 0/\Lf b2 (z5 h (D1 b1) (D1 b2) l1 l2) i2 l2 0/\∀c o,h.get? c=some o->(z5 h (D1 b1) (D1 b2) l1 l2).get? c=some o:=by
 have s1:(z1 h (D1 b1) l1).objs.size=h.objs.size+1:=sk ..;have s2:(z2 h (D1 b1) (D1 b2) l1 l2).objs.size=h.objs.size+2:=by unfold z2;rw[sk,s1]
 have s3:(z3 h (D1 b1) (D1 b2) l1 l2).objs.size=h.objs.size+3:=by unfold z3;rw[sk,s2]
 have s4:(z4 h (D1 b1) (D1 b2) l1 l2).objs.size=h.objs.size+4:=by unfold z4;rw[sk,s3]
 have lt:∀{b:Bool}{l:Addr}{xs:Array Value},Mf b h l xs->l<h.objs.size:=λ{b l xs} c=>by
  cases b
  .obtain⟨o,e,_⟩:=c;exact qM e
  .obtain⟨o,e,_⟩:=c;exact qM e
 have t1:@LT.lt Nat _ l1 h.objs.size:=lt c1;have t2:@LT.lt Nat _ l2 h.objs.size:=lt c2;refine⟨(z4 h (D1 b1) (D1 b2) l1 l2).objs.size,(z2 h (D1 b1) (D1 b2) l1 l2).objs.size,(z3 h (D1 b1) (D1 b2) l1 l2).objs.size,h.objs.size,(z1 h (D1 b1) l1).objs.size,rfl,by lia,by lia,by lia,by lia,by lia,⟨?_,?_,?_⟩,?_,?_,?_,?_,?_,?_⟩
 .rw[s1,s2,s3,s4];refine⟨?_,?_,?_,?_,?_,?_⟩<;>(intro e;have e2:@Eq Nat _ _:=e;lia)
 .rw[s1,s2,s3];refine⟨?_,?_,?_,?_,?_,?_⟩<;>(intro e;have e2:@Eq Nat _ _:=e;lia)
 .rw[s1,s3];refine⟨?_,?_,?_,?_,?_,?_⟩<;>(intro e;have e2:@Eq Nat _ _:=e;lia)
 .exact qO _ rfl
 .exact ql _ (ql _ (qO _ rfl))
 .exact ql _ (qO _ rfl)
 .exact Lf.new (ql _ (ql _ (ql _ (ql _ (qO _ rfl)))))
 .exact Lf.new (ql _ (ql _ (ql _ (qO _ rfl))))
 .exact λc o e=>ql _ (ql _ (ql _ (ql _ (ql _ e))))
end Zp
end PySem
namespace L2
open PySem PySem.Spec PyProof.Rows
def Jai(K:Fg)(ta:TA):TI:=λU H R=>ta U H λvs H1=>∃b1 a1 b2 a2,vs=[.ref a1,.ref a2]/\(∃xs,SqB b1 K H1 a1 xs)/\(∃ys,SqB b2 K H1 a2 ys)/\R (Itz K b1 a1 b2 a2) H1
theorem Vs{X:Cx}{a b:Expr}{ta:TA}{p pos bI:Pos}{dw:List Expr}{k0:Nat}(hg:Gl X "zip")(hm:X.mg "zip"=none)(ha:PA X [a,b] ta)(hs:starEach [a,b] X.env=[(false,eval a X.env),(false,eval b X.env)]:=by rfl)(aO:starEach [b] X.env=[(false,eval b X.env)]:=by rfl) :
  PI X (.Tuple dw k0 bI) (.Call (.Name "zip" p) [a,b] [] pos) (Jai X.K ta):=by
 intro aa s U H R I h;refine Call_ (Fb I hg hm boot_zip (callWith_type1 (thn (ha pos aa s U H _ I h) λus s1 ai=>?_) (by rw[hs,aO]) (by rw[aO];rfl)));obtain⟨vs,H1,I1,r1,q1⟩:= ai;obtain⟨b1,a1,b2,a2,e,⟨xs,hx⟩,⟨ys,hy⟩,q⟩:=q1;subst e;cases r1 with
 |cons r rr =>
  cases rr with
  |cons r' rr =>
   cases rr;cases r;cases r';obtain⟨fA,qh,c1,_⟩:=I1.sqb hx;obtain⟨aI,qi,c2,_⟩:=I1.sqb hy;refine Zp.QC (T1:=Zp.D1 b1) (T2:=Zp.D1 b2) (C1:=λh=>Zp.Mf b1 h a1 fA.toArray) (C2:=λh=>Zp.Mf b2 h a2 aI.toArray) (Zp.Rx b1 a1 fA.toArray) (Zp.Rx b2 a2 aI.toArray) (λh o c=>Zp.Mf.at (b:=b2) c λo e=>ql _ e) c1 c2 ?_;obtain⟨z,TI,TO,i1,i2,ez,g0,g1,g2,g3,g4,D,hz,bS,bY,t1,t2,hk⟩:=Zp.made c1 c2;rw[<- ez];refine wpAny_pyIter_zip hz ⟨z,[z,TI,TO,i1,i2],_,Itz X.K b1 a1 b2 a2,H1,rfl,I1.kept (t':=s1.toks) hk,OT D,⟨hz,bS,⟨_,_,bY⟩,t1,t2⟩,λb hb=>?_,q⟩;have lg:s1.heap.objs.size<=b:=by simp only[qK,sO,or_false]at hb;rcases hb with rfl|rfl|rfl|rfl|rfl<;>assumption
   exact I1.TU lg (I1.z9.fresh lg)
end L2
namespace PySem
theorem JV(l b:Addr)(items bx:Array Value)(n n2:Nat)(gJ:Option Addr)(sl2:Array (Option Value))(gy:¬(!items.isEmpty&&Builtin.List.listTooLong (items.size+bx.size))=true)(jd:items.size<=sizeLine)(aO:items.size+bx.size<=sizeLine+1) :
  Meets (Builtin.«list.extend» ⟨[.ref l,.ref b],[]⟩) (λ_ R s=>s.heap.get? l=some {cls:=.type "list",dict:=none,data:=.seq items n,slots:=#[]}/\s.heap.get? b=some {cls:=.type "tuple",dict:=gJ,data:=.seq bx n2,slots:=sl2} /\
   R (.ok (.ret Value.none)) {s with heap:=s.heap.update l (Obj.mapSeq λx=>x++bx),toks:=s.toks}) :=
 .of_wp λprog w A R s h=>by
  obtain⟨hp,g,d,tk,os⟩:=s;obtain⟨hl,hb,h⟩:=h;have f1:=AutoSeq1.idx_int;have f2:=AutoSeq1.sub_tuple_tuple;have f3:=AutoSeq1.sub_list_list;have f4:=AutoSeq1.sub_tuple_list;have f5:=AutoSeq1.sub_list_tuple;have kj:(items++bx).size<=sizeLine+1:=by rw[Array.size_append];exact aO
  wp_walk using (wpAny_updateSeq hl rfl (hz:=jd) (_hz':=kj)),wpAny_loadPart' hl,wpAny_loadPart' hb
  exact⟨_,rfl,h⟩
end PySem
namespace L2
open PySem PySem.Spec PyProof.Rows
section
variable{X:Cx}
def O7(K:Fg):V->List V->Hp->VK->Prop:=λx vs H Q=>∃l b xs zs,x=.ref l/\vs=[.ref b]/\H l=some (.lst xs)/\SqT K H b zs/\xs.length+zs.length<=sizeLine/\Q .l (upd H l (.lst (xs++zs)))
theorem S4:MtM X "list.extend" (O7 X.K):=by
 intro aa s U H x vs v us Q I rx rv h;obtain⟨l,b,xs,zs,rfl,rfl,hH,hB,hz,q⟩:=h;cases rx;obtain⟨u,rfl,ru⟩:=rv.one;cases ru;obtain⟨z,ah,n,r,hl,e⟩:=I.Tc hH;obtain⟨aI,r2,⟨⟨cls,dd,data,sl⟩,ho,hc,n2,hd⟩,z2⟩:=I.tuple hB;simp only at hc hd;subst hc hd;have e1:=r.length;have e2:=r2.length;have hsz:ah.toArray.size+aI.toArray.size<=sizeLine:=by rw[qz,qz];lia
 have dH:¬(!ah.toArray.isEmpty&&Builtin.List.listTooLong (ah.toArray.size+aI.toArray.size))=true:=by rw[Kw hsz,Bool.and_false];exact qR
 refine call_meets F.slot_list_extend ⟨_,e,rfl⟩ F.entry_list_extend (F.args_list_extend_2 _ _) (JV l b ah.toArray aI.toArray n n2 dd sl dH (by rw[qz];lia) (by lia)) ⟨e,ho,?_⟩;refine⟨.l,_,I.XX (aA:=ah++aI) hH e (by simp) (r.append r2) ?_,rfl,q⟩;rw[qA]
 lia
def Q6(K:Fg):R2:=λx y H Q=>∃a b ys,x=.ref a/\y=.ref b/\SqT K H a []/\SqT K H b ys/\Q (.ref b) H
theorem Pr:OpR X (binaryOp .Add) (Q6 X.K):=by intro aa s U H x y v u Q I rx ry h;obtain⟨a,b,ys,rfl,rfl,ha,hb,q⟩:=h;cases rx;cases ry;obtain⟨ah,r1,⟨⟨cls,dd,data,sl⟩,ho,hc,n,hd⟩,_⟩:=I.tuple ha;obtain⟨aI,r2,⟨⟨ju,gJ,data2,sl2⟩,gu,cn,n2,hd2⟩,_⟩:=I.tuple hb;simp only at hc hd cn hd2;subst hc hd cn hd2;cases r1;exact concat_meets ⟨_,ho,rfl⟩ ⟨_,gu,rfl⟩ noFill_tuple_add seq_tuple_add slot_tuple_add entry_tuple_add (args_tuple_add_2 _ _) (tuple_addW0 a b _ _ n n2 dd gJ sl sl2 (by simp)) ⟨ho,gu,⟨.ref b,H,I,rfl,q⟩⟩
end
end L2
namespace PySem
open PyProof.Rows (IsTup)
namespace Rv
section
variable{prog:Program}{w:World}{A:Around}{E:Value->Shared->Prop}{s:Shared}
end
end Rv
end PySem
namespace L2
open PySem PySem.Spec PyProof.Rows
end L2
namespace HT
open PySem PyProof.Rows
section
variable{prog:Program}{w:World}{A:Around}{E:Value->Shared->Prop}{s:Shared}
theorem ET{t sl:Addr}{items:Array Value}{vl vu:Value}{lo hi:Option Int}{Q:Value->Shared->Prop}(ht:IsTup s.heap t items)(hs:s.heap.IsSliceOf sl vl vu .none)(pl:IsPart vl lo)(pu:IsPart vu hi)
  (hw:sIx items.size 0 lo=0/\sIx items.size items.size hi=items.size) (h:Q (.ref t) s):wpAny (model prog w) A (getItem (.ref t) (.ref sl)) Q E s:=by
 obtain⟨os,gw,gM,gj⟩:=id hs;have jJ:s.TypeIs (.ref sl) "slice":=⟨os,gw,gM⟩
 unfold getItem
 try with_reducible refine wpAny_holding ?_
 first|refine qk (qI ?_)|skip
 refine qk (wpAny_sequenceKey ht.typeIs (by decide) ?_);refine qk (wpAny_callSpecial?_slot (name:=Str.ofString "__getitem__") ht.typeIs slot_tuple_getitem
  (wpAny_call_entry slot_tuple_getitem ht.typeIs entry_tuple_getitem ?_ (args_tuple_getitem _ _)))
 show wpAny _ _ (Builtin.Tuple.tupleItemsOf (.ref t) >>= _) _ _ s;refine qk (tupleItemsOf_ ht ?_);refine qk (wpAny_typeOf jJ ?_);rw[if_pos (by decide)];refine qk (Du hs pl pu ?_);have ki:(((sIx items.size 0 lo:Nat):Int)==0&&(1:Int)==1&&(sIx items.size items.size hi-sIx items.size 0 lo)==items.size)=true:=by rw[hw.1,hw.2];simp
 show wpAny _ _ (if(((sIx items.size 0 lo:Nat):Int)==0&&(1:Int)==1&&(sIx items.size items.size hi-sIx items.size 0 lo)==items.size)=true then _ else _) _ _ s;rw[if_pos ki];refine qk ?_;unfold Builtin.Tuple.tupleIsExact;refine qk (wpAny_typeOf ht.typeIs (qI ?_));rw[if_pos (by decide)];exact qk (wpAny_rule (qI ⟨_,rfl,qI h⟩))
end
end HT
namespace L2
open PySem PySem.Spec PyProof.Rows
def Jab(K:Fg):V->Option Int->Option Int->Hp->VK->Prop:=λx lo hi H Q=>∃a xs,x=.ref a/\SqT K H a xs/\(HT.sIx xs.length 0 lo=0/\HT.sIx xs.length xs.length hi=xs.length)/\Q (.ref a) H
theorem Va{X:Cx}:SlR X (Jab X.K):=by
 intro aa s U H x v vl vu lo hi sl Q I rx hs pl pu h;obtain⟨a,xs,rfl,hx,hw,q⟩:=h;cases rx;obtain⟨ah,r,ht,hz⟩:=I.tuple hx;have hlen:ah.toArray.size=xs.length:=by rw[qz];exact r.length.symm
 refine⟨"tuple",_,PyProof.Rows.slot_tuple_getitem.lookup,ht.typeIs,?_⟩;exact HT.ET ht hs pl pu (by rw[hlen];exact hw) ⟨.ref a,H,I,rfl,q⟩
end L2
namespace L2
open PySem PySem.Spec PySem.W PyProof.Rows
noncomputable def BY:List Int->Nat
 | []=>0
 |n::ns=>Builtin.Int.intBits n+1+BY ns
theorem Gu:∀ns:List Int,WData.weightAll (ns.map WData.int)=BY ns
 | []=>by simp[WData.weightAll,BY]
 |n::ns=>by simp only[qm,WData.weightAll,BY,WData.weight,Gu ns];rfl
end L2
namespace L2
open PySem PySem.Spec
section
variable{X:Cx}{aa:List (Addr×Obj)}{U:St}{H:Hp}{s:Shared}{a:Addr}{o:Obj}{af:List (Key×V)}
end
section
variable{X:Cx}{tg:Expr}
end
section
variable{X:Cx}
theorem Gr(hc:X.calm=true):CO X (.type "list") (λxs H Q=>∃p af,xs=[.ref p]/\Rd H p (.v af)/\∀l,H l=none->Q (.ref l) (upd H l (.lst (af.map λkv=>kV kv.1)))):=by
 intro aa s U H xs us Q I r h;obtain⟨p,af,rfl,hp,q⟩:=h;obtain⟨u,rfl,rx⟩:=vals1 r;cases rx;obtain⟨z,hd,vs,bf,dd⟩:=JZ I.z9 hp;obtain⟨ep,da⟩:=dd.dictAt;have hlen:af.length=vs.length:=Paired.length bf;refine PySem.W.kdl_call (PySem.W.kdl_dict (ep:=ep) hd) (I.ok.hd hc) da (by rw[<- hlen];exact z) λh' tk ao c' kp e bt=>?_
 refine⟨.ref s.heap.objs.size,_,I.laid (t':=tk) kp (qH _) (show Ca X.prog X.w _ h' _ (.lst (af.map λkv=>kV kv.1))from⟨by rw[qw];exact z,ao.toList,c',Mm bf bt,by simpa using e⟩),rfl,q _ (I.z9.fresh (qH _))⟩
theorem L4:CO X (.builtin "len") (λxs H Q=>∃a af,xs=[V.ref a]/\Rd H a (.v af)/\Q (.int af.length) H):=by intro aa s U H xs us Q I r h;obtain⟨a,af,rfl,ha,q⟩:=h;obtain⟨u,rfl,ru⟩:=vals1 r;cases ru;exact Zw I ha λt s' I'=>⟨.int af.length,H,I',⟨t,rfl⟩,q⟩
end
end L2
namespace L2
open PySem PySem.Spec PyProof.Rows PySem.W
theorem Nq{h:Heap}:∀(K:Fg),(K.map (·.1)).map h.get?=K.map (λp=>some p.2)->K.In h
 | [],_=>λa o e=>by cases e
 |p::K,hk=>λa o e=>by
  simp only[qm,List.cons.injEq]at hk;rw[rF]at e;by_cases q:a=p.1
  .subst q;rw[show(p.1==p.1)=true by simp]at e;cases e;exact hk.1
  .rw[show(a==p.1)=false by simpa using q]at e;exact Nq K hk.2 a o e
end L2
namespace L2
open PySem PySem.Spec PyProof.Rows
def ExT(h:Heap)(vs:Array Value)(a:Addr)(fl:Value):Option Addr->Prop
 |none=>vs[1]?=some .none
 |some T=>vs[1]?=some (.ref T)/\T≠a/\∃oT ts,h.get? T=some oT/\oT.data=.fields ts/\ts[3]?=some fl
def QS(h:Heap)(a:Addr)(c:Value)(T:Option Addr)(fl:Value):Prop:=∃oe vs,h.get? a=some oe/\oe.cls=c/\oe.dict=none/\oe.data=.fields vs/\ExT h vs a fl T
theorem Obj.Of(o:Obj)(f:Array Value->Array Value):(o.mapFields f).dict=o.dict:=by obtain⟨_,_,dt,_⟩:=o;cases dt<;>rfl
section
variable{M:Model}{A:Around}{E:Value->Shared->Prop}{s:Shared}
theorem KY{base:Heap}{env:Env}{outer:List Env}{L e:Addr}{oe:Obj}{vs:Array Value}{head:Value}{eY:Bool}{Q:Unit->Shared->Prop}
  (fN:A.frames=some (env::outer)) (hl:s.heap.FunFrames base (env::outer)) (hf:env.frame=some L) (he:s.heap.get? e=some oe) (fg:oe.dict=none) (hd:oe.data=.fields vs) (hsz:1<vs.size)
  (h:∀h' T,s.heap.objs.size<=T->(∀b o,s.heap.get? b=some o->b∉frs (env::outer)->b≠e->h'.get? b=some o)->(∀b o,s.heap.get? b=some o->b∈frs (env::outer)->∃sl,h'.get? b=some {o with slots:=sl}) ->
   QS h' e oe.cls (some T) (rawInt L)->Q () {s with heap:=h' }) :
  wpAny M A (do let a <- frameOf env;let pl <- entryPlaceOf L eY;let b <- EntryCells.newEntry head a .none (rawInt L) .none pl;setField (.ref e) 1 b) Q E s:=by
 have lN:e∉(env::outer).filterMap (·.frame):=λhm=>by obtain⟨_,o,ho,fk⟩:=hl.mem hm;rw[he]at ho;injection ho with ho;subst ho;exact fk vs hd
 refine qk (wpAny_frameOf_fun fN hl hf λaE cN=>?_);refine qk (wpAny_entryPlaceOf λpl az=>?_);unfold EntryCells.newEntry newFields;refine qk (wpAny_newObj_type ?_ (az.sizeOk5 _ _ _ _ _));have fL:aE.get? e=some oe:=(cN.2.1 e lN).trans he;have fM:=ql (h:=aE) {cls:=.type "traceback",dict:=none,data:=.fields ([head,.ref L,.none,rawInt L,.none]++(if pl.isEmpty then List.replicate 6 Value.none else pl)).toArray} fL;refine wpAny_setField fM hd hsz ?_;have gg:aE.objs.size≠e:=Nat.ne_of_gt (qM fL);have fK:=Obj.data_mapFields hd (·.setIfInBounds 1 (Value.ref aE.objs.size));have iq:=sr (Obj.mapFields (·.setIfInBounds 1 (Value.ref aE.objs.size))) fM (Obj.isFreed_of_fields fK);have ia:=(rN (aE.push {cls:=.type "traceback",dict:=none,data:=.fields ([head,.ref L,.none,rawInt L,.none]++(if pl.isEmpty then List.replicate 6 Value.none else pl)).toArray})
  (Obj.mapFields (·.setIfInBounds 1 (Value.ref aE.objs.size))) (Ne.symm gg)).trans (qO aE rfl)
 have keep:∀b o,b≠e->aE.get? b=some o ->
   ((aE.push {cls:=.type "traceback",dict:=none,data:=.fields ([head,.ref L,.none,rawInt L,.none]++(if pl.isEmpty then List.replicate 6 Value.none else pl)).toArray}).update e (Obj.mapFields (·.setIfInBounds 1 (Value.ref aE.objs.size)))).get? b=some o:=λb o dB hb=>by
  rw[rN _ _ (Ne.symm dB)];exact ql _ hb
 refine h _ aE.objs.size (by rw[cN.1];exact qH _) (λb o hb hn dB=>keep b o dB ((cN.2.1 b hn).trans hb)) (λb o hb hn=>?_) ?_
 .obtain⟨sl,q⟩:=cN.2.2 b o hb;exact⟨sl,keep b _ (λz=>lN (by rw[<- z];exact hn)) q⟩
 .exact⟨_,_,iq,Obj.cls_mapFields _ _,(Obj.Of _ _).trans fg,fK,by simp[hsz],gg,_,_,ia,rfl,by first|(simp;done)|(rcases az with rfl|⟨_,_,_,_,_,_,_,rfl⟩<;>simp)⟩
end
structure OM(X:Cx):Prop where
 pn:X.pn=[]
 ex:X.ex=[]
 st:X.stack=X.env::X.outer
 fr:X.env.frame=some X.env.locals
theorem Ca.get{P:Program}{w:World}{H:Hp}{h:Heap}{a:Addr}{o:HO}(x:Ca P w H h a o):∃u,h.get? a=some u:=by cases o with|lst xs=>obtain⟨_,_,_,_,e⟩:=x;exact⟨_,e⟩|tup xs=>obtain⟨_,_,_,ob,e,_⟩:=x;exact⟨_,e⟩|v af=>obtain⟨_,_,_,_,o,_,_,e,_⟩:=x;exact⟨_,e⟩|dT af=>obtain⟨_,_,_,_,o,_,_,e,_⟩:=x;exact⟨_,e⟩|set S n=>obtain⟨o,_,_,_,e,_⟩:=x;exact⟨_,e⟩|ins C dx fs=>obtain⟨_,_,_,e,_⟩:=x;exact⟨_,e⟩|own y=>obtain⟨_,e⟩:=x;exact⟨_,e⟩|xd fs=>obtain⟨_,⟨_,_,_,e,_⟩,_⟩:=x;exact⟨_,e⟩|zl lo hi=>obtain⟨_,_,_,e⟩:=x;exact⟨_,e⟩|frz ob u=>obtain⟨e,_⟩:=x;exact⟨_,e⟩|zC ps=>exact⟨_,(show h.get? a=some _ from x)⟩|met f y=>exact⟨_,(show h.get? a=some _ from x)⟩|ext φ=>obtain⟨_,⟨_,e⟩,_⟩:=x;exact⟨_,e⟩
theorem HOk.none{P:Program}{w:World}{H:Hp}{h:Heap}{a:Addr}(x:HOk P w H h)(e:h.get? a=none):H a=none:=by cases q:H a with|none=>rfl|some u =>obtain⟨o,z⟩:=(x a u q).get;rw[e]at z;cases z
section
variable{X:Cx}{U:St}{H:Hp}{s:Shared}{h':Heap}{ch:List Addr}
theorem Inv.kp{aa:List (Addr×Obj)}(I:Inv X aa U H s)(gx:X.pn=[])(k:∀b o,s.heap.get? b=some o->b∉frs X.stack->b∉ch->h'.get? b=some o)(sl:∀b o,s.heap.get? b=some o->b∈frs X.stack->∃sl,h'.get? b=some {o with slots:=sl})
  (nc:∀b∈ch,X.z8.heap.get? b=none/\H b=none/\∃o vs,s.heap.get? b=some o/\o.data=.fields vs):Inv X [] U H {s with heap:=h' }:=by
 have any:∀b o,s.heap.get? b=some o->b∉ch->∃l,h'.get? b=some {o with slots:=l}:=λb o e n=>by
  by_cases hb:b∈frs X.stack
  .exact sl b o e hb
  .exact⟨o.slots,k b o e hb n⟩
 have n0:∀b o,X.z8.heap.get? b=some o->b∉ch:=λb o e z=>by have:=(nc b z).1;rw[e]at this;cases this
 have nf:∀b o,s.heap.get? b=some o->(∀vs,o.data≠.fields vs)->b∉ch:=λb o e hd z=>by obtain⟨_,_,o',vs,e',d⟩:=nc b z;rw[e]at e';cases e';exact hd vs d
 have cf:∀x c,X.env.cells.lookup x=some c->∀v,s.heap.IsCell c v->h'.IsCell c v:=λx c e v ⟨o,ho,hd⟩=>by obtain⟨l,q⟩:=any c o ho (nf c o ho λvs z=>by rw[hd]at z;cases z);exact⟨_,q,hd⟩
 refine⟨I.ok,I.os,I.bare,⟨λb o e n hb hx=>?_,λb o e n hb hx=>?_,I.base.free,λb o e hx=>?_,I.base.zT,I.base.zV,I.base.zU⟩,?_,λx c e=>?_,I.free,I.zZ,λp hp=>?_,λb u e=>?_,I.len⟩
 .refine k b o (I.base.keep b o e n hb hx) (λz=>?_) (n0 b o e);rcases qK.mp (I.Ij b z)with z|z
  .exact qZ (qP (qM e) I.ok.above) z
  .exact hb z
 .obtain⟨l,e1⟩:=I.base.slot b o e n hb hx;obtain⟨l',e2⟩:=any b _ e1 (n0 b o e);exact⟨l',e2⟩
 .obtain⟨o',e1⟩:=I.base.there b o e hx;obtain⟨l',e2⟩:=any b _ e1 (n0 b o e);exact⟨_,e2⟩
 .obtain⟨m,⟨o,es,ep,ho,hd,r⟩,hl⟩:=I.loc;obtain⟨l,q⟩:=any _ o ho (nf _ o ho λvs z=>by rw[hd]at z;cases z);refine⟨m,⟨_,es,ep,q,hd,r⟩,λi x v e1 e2 e3=>?_⟩;obtain⟨u,rv,z⟩:=hl i x v e1 e2 e3;refine⟨u,rv,?_⟩;rcases z with z|⟨kk,c,e,z⟩
  .exact .inl z
  .exact .inr ⟨kk,c,e,cf x c e _ z⟩
 .obtain⟨v,z⟩:=I.cell x c e;exact⟨v,cf x c e v z⟩
 .rw[gx]at hp;cases hp
 .have nn:∀c,(c=b\/H c=some (.own b))->H c≠none:=λc hc z=>by
   rcases hc with rfl|hc
   .rw[z]at e;cases e
   .rw[z]at hc;cases hc
  exact(I.z9 b u e).OO (λc v hc q=>k c v q (λz=>nn c hc (I.Jw c z)) λz=>nn c hc (nc c z).2.1) (λ_ q=>q) λ_ _ q=>q
theorem Inv.new{aa:List (Addr×Obj)}{b:Addr}(I:Inv X aa U H s)(D:X.ex=[])(e:s.heap.get? b=none):X.z8.heap.get? b=none/\H b=none:=by refine⟨?_,I.z9.none e⟩;cases q:X.z8.heap.get? b with|none=>rfl|some o =>obtain⟨o',z⟩:=I.base.there b o q (by rw[D];simp);rw[e]at z;cases z
end
section
variable{X:Cx}{U:St}{H:Hp}{s:Shared}{a:Addr}{c fl:Value}{T:Option Addr}{M:Model}{A:Around}{E:Value->Shared->Prop}{Q:Unit->Shared->Prop}
def X4(X:Cx)(H:Hp)(a:Addr)(T:Option Addr):Prop:=∀b,b=a\/T=some b->X.z8.heap.get? b=none/\H b=none
theorem QS.there(e:QS s.heap a c T fl):∀b,b=a\/T=some b->∃o vs,s.heap.get? b=some o/\o.data=.fields vs:=by
 obtain⟨oe,vs,h1,h2,h3,h4,h5⟩:=e;intro b hb;rcases hb with rfl|rfl
 .exact⟨oe,vs,h1,h4⟩
 .obtain⟨_,_,oT,ts,q1,q2,_⟩:=h5;exact⟨oT,ts,q1,q2⟩
theorem JI(D:OM X)(fN:A.frames=some X.stack)(I:Inv X [] U H s)(e:QS s.heap a c T fl)(lb:fl=.none\/fl=rawInt X.env.locals)(nw:X4 X H a T)
  (h:∀h' T',QS h' a c (some T') (rawInt X.env.locals)->X4 X H a (some T')->Inv X [] U H {s with heap:=h' }->Q () {s with heap:=h' }):wpAny M A (noteFrame (.ref a) X.env) Q E s:=by
 have hl:=I.stack;rw[D.st]at fN hl;obtain⟨oe,vs,he,bE,fg,hd,ht⟩:=id e;have th:=e.there;subst bE;unfold noteFrame;simp only[D.fr];cases T with
 |none =>
  refine qk (rE he hd ht ?_);rw[if_neg (by decide)];refine KY fN hl D.fr he fg hd (su.mp ht).1 λh' T' q1 q2 q3 q4=>?_
  have nT:=I.new D.ex (Heap.get?_none_of_le q1);refine h h' T' q4 (λb hb=>hb.elim (λz=>nw b (.inl z)) λz=>by cases z;exact nT) (I.kp (ch:=[a]) D.pn (λb o x y z=>q2 b o x (by rw[<- D.st];exact y) λw=>z (by simp[w])) (λb o x y=>q3 b o x (by rw[<- D.st];exact y)) λb hb=>?_);rw[qQ.mp hb];exact⟨(nw a (.inl rfl)).1,(nw a (.inl rfl)).2,oe,vs,he,hd⟩
 |some T =>
  obtain⟨h1,gg,oT,ts,hT,eZ,h3⟩:=ht;refine qk (rE he hd h1 ?_);rw[if_pos (show(Value.ref T !=Value.none)=true from by simp)];refine qk (rE hT eZ h3 ?_);rcases lb with rfl|rfl
  .rw[if_neg (show ¬((Value.none==rawInt X.env.locals)=true)from by simp[rawInt])];refine qk (wpAny_setField hT eZ (su.mp h3).1 ?_);have other:∀b,b≠T->(s.heap.update T (Obj.mapFields (·.setIfInBounds 3 Value.none))).get? b=s.heap.get? b:=λb hb=>rN _ _ (Ne.symm hb)
   have nr:∀b o,s.heap.get? b=some o->(∀vs,o.data≠.fields vs)->b≠T:=λb o hb fk q=>by rw[q,hT]at hb;injection hb with hb;subst hb;exact fk ts eZ
   have pj:T∉frs X.stack:=λhm=>by obtain⟨_,o,ho,fk⟩:=I.stack.mem hm;rw[hT]at ho;injection ho with ho;subst ho;exact fk ts eZ
   refine KY fN (hl.of_keeps λb o hb fk=>⟨o,(other b (nr b o hb fk)).trans hb,rfl⟩) D.fr ((other a (Ne.symm gg)).trans he) fg hd (su.mp h1).1 λh' T' q1 q2 q3 q4=>?_
   have sz:s.heap.objs.size<=T':=by have:(s.heap.update T (Obj.mapFields (·.setIfInBounds 3 Value.none))).objs.size=s.heap.objs.size:=Heap.size_after_update ..;rw[<- this];exact q1
   have nT:=I.new D.ex (Heap.get?_none_of_le sz);refine h h' T' q4 (λb hb=>hb.elim (λz=>nw b (.inl z)) λz=>by cases z;exact nT) (I.kp (ch:=[a,T]) D.pn (λb o x y z=>?_) (λb o x y=>?_) λb hb=>?_)
   .exact q2 b o ((other b λw=>z (by simp[w])).trans x) (by rw[<- D.st];exact y) λw=>z (by simp[w])
   .exact q3 b o ((other b λw=>pj (by rw[<- w];exact y)).trans x) (by rw[<- D.st];exact y)
   .have gL:b=a\/some T=some b:=by
     rcases qK.mp hb with z|z
     .exact .inl z
     .exact .inr (by rw[qQ.mp z])
    exact⟨(nw b gL).1,(nw b gL).2,th b gL⟩
  .rw[if_pos (show(rawInt X.env.locals==rawInt X.env.locals)=true from by simp)];exact qI (h s.heap T e nw I)
theorem Ep{f:Option Addr}(gx:X.pn=[])(I:Inv X [] U H s)(e:QS s.heap a c T fl)(nw:X4 X H a T)
  (h:∀h',QS h' a c T (f.elim .none λf=>rawInt f)->Inv X [] U H {s with heap:=h' }->Q () {s with heap:=h' }):wpAny M A (setFlight (.ref a) f) Q E s:=by
 obtain⟨oe,vs,he,bE,fg,hd,ht⟩:=id e;have th:=e.there;unfold setFlight;cases T with
 |none =>refine qk (rE he hd ht ?_);rw[if_neg (by decide)];exact qI (h s.heap ⟨oe,vs,he,bE,fg,hd,ht⟩ I)
 |some T =>
  obtain⟨h1,gg,oT,ts,hT,eZ,h3⟩:=ht;have hsz:=(su.mp h3).1;refine qk (rE he hd h1 ?_);rw[if_pos (show(Value.ref T !=Value.none)=true from by simp)];have other:∀b,b≠T->(s.heap.update T (Obj.mapFields (·.setIfInBounds 3 (f.elim Value.none λf=>rawInt f)))).get? b=s.heap.get? b:=λb hb=>rN _ _ (Ne.symm hb)
  refine wpAny_setField hT eZ hsz (h _ ⟨oe,vs,(other a (Ne.symm gg)).trans he,bE,fg,hd,h1,gg,_,_,sr _ hT (Obj.isFreed_of_fields (Obj.data_mapFields eZ _)),Obj.data_mapFields eZ _,by simp[hsz]⟩ (I.kp (ch:=[T]) gx (λb o x _ z=>(other b λw=>z (by simp[w])).trans x) (λb o x y=>?_) λb hb=>?_))
  .refine⟨o.slots,(other b λw=>?_).trans x⟩;obtain⟨_,o',bL,fk⟩:=I.stack.mem y;rw[w,hT]at bL;injection bL with bL;subst bL;exact fk ts eZ
  .rw[qQ.mp hb];exact⟨(nw T (.inr rfl)).1,(nw T (.inr rfl)).2,th T (.inr rfl)⟩
end
abbrev XE:=Value->St->Hp->Prop
def XW(X:Cx)(Z:XE)(e:Value)(s:Shared):Prop:=∃a c T fl U H,e=.ref a/\Inv X [] U H s/\QS s.heap a c T fl/\(fl=.none\/fl=rawInt X.env.locals)/\X4 X H a T/\Z c U H
noncomputable def CX1(P:Program)(w:World):CXT:=λouter H s E e s'=>∃a c T H',e=.ref a/\s'.os=s.os/\AllBare s'.gens/\Un (frs outer) [] H H' s.heap s'.heap/\HOk P w H' s'.heap/\QS s'.heap a c T .none /\
 (∀b,b=a\/T=some b->s.heap.get? b=none/\H' b=none)/\E c none H'
section
variable{X:Cx}{Z Z':XE}{e:Value}{s s':Shared}{aa:List (Addr×Obj)}{U:St}{H:Hp}
theorem XW.imp(h:XW X Z e s)(k:∀c U H,Z c U H->Z' c U H):XW X Z' e s :=
 let⟨a,c,T,fl,U,H,q1,q2,q3,q4,q5,q6⟩:=h
 ⟨a,c,T,fl,U,H,q1,q2,q3,q4,q5,k _ _ _ q6⟩
theorem XW.FC{E:Value->Shared->Prop}(h:XW (X.FC E) Z e s):XW X Z e s :=
 let⟨a,c,T,fl,U,H,q1,q2,q3,q4,q5,q6⟩:=h
 ⟨a,c,T,fl,U,H,q1,q2.DY,q3,q4,q5,q6⟩
theorem CX1.xw(D:X.ex=[])(I:Inv X aa U H s)(h:CX1 X.prog X.w X.stack H s (λc _ H'=>Z c U H') e s'):XW X Z e s':=by
 obtain⟨a,c,T,H',rfl,q1,q2,q3,q4,q5,q6,q7⟩:=h;have I':Inv X aa U H' s':=I.Xx (ch:=[]) q1 q3 q4 q2 λb z=>absurd z (by simp)
 exact⟨a,c,T,.none,U,H',rfl,I'.Hv λ_ z=>absurd z (by simp),q5,.inl rfl,λb hb=>⟨(I.new D (q6 b hb).1).1,(q6 b hb).2⟩,q7⟩
theorem XW.own(D:OM X):PassesOwn (model X.prog X.w) X.A X.env (XW X Z):=by
 intro e s' h;obtain⟨a,c,T,fl,U,H,rfl,I,q3,q4,q5,q6⟩:=h;refine JI D I.ok.frames I q3 q4 q5 λh1 T1 e1 n1 I1=>?_
 obtain⟨oe,vs,he,hc,fg,hd,ht⟩:=id e1;refine qk (rE he hd ht.1 ?_);rw[if_neg (show ¬((Value.ref T1==Value.none)=true)from by simp)];rw[D.fr];exact Ep (f:=some X.env.locals) D.pn I1 e1 n1 λh2 e2 I2=>⟨a,c,some T1,rawInt X.env.locals,U,H,rfl,I2,e2,.inr rfl,n1,q6⟩
end
section
variable{P:Program}{w:World}{K:Fg}{mg:Str->Option Value}{base:Heap}{N:List Str}{qual:Str}{scope:Scope}{f:Addr}{cd:Value}{A:Around}{outer:List Env}{s:Shared}{H:Hp}{E:XK}
theorem Xr:OM (LZ (CX1 P w) P w K mg base N qual scope f cd A outer s H E):=⟨rfl,rfl,rfl,rfl⟩
theorem Ya{e:Value}{s':Shared}(h:XW (LZ (CX1 P w) P w K mg base N qual scope f cd A outer s H E) (λc _ H'=>E c none H') e s'):(LZ (CX1 P w) P w K mg base N qual scope f cd A outer s H E).xe e s':=by
 obtain⟨a,c,T,fl,U,H',rfl,I,q3,q4,q5,q6⟩:=h;show wpAny _ _ (leaving (LZ (CX1 P w) P w K mg base N qual scope f cd A outer s H E).env (.ref a)) _ _ s';unfold leaving;refine qk (JI Xr I.ok.frames I q3 q4 q5 λh1 T1 e1 n1 I1=>?_);refine Ep (f:=none) rfl I1 e1 n1 λh2 e2 I2=>?_
 exact⟨a,c,some T1,H',rfl,I2.os,I2.bare,I2.base,I2.z9,e2,n1,q6⟩
end
def Lk(X:Cx)(Z:XE):Prop:=∀(aa:List (Addr×Obj))(U:St)(H:Hp)(s:Shared)(e:Value)(s':Shared),Inv X aa U H s->CX1 X.prog X.w X.stack H s (λc _ H'=>Z c U H') e s'->X.xe e s'
theorem Lk.of{X:Cx}{Z:XE}(D:X.ex=[])(k:∀e s,XW X Z e s->X.xe e s):Lk X Z:=λ_ _ _ _ _ _ I h=>k _ _ (CX1.xw D I h)
section
variable{X:Cx}{k:Nat}{f C:Addr}{fd:FuncData}{ps:List Str}{sp:Sp}{Z:XE}{x m:Str}{p pos av:Pos}{e o:Expr}{es:List Expr}{ta:TE}{t:TA}
def U3(sp:Sp)(Z:XE)(t:TA):TE:=λU H Q=>t U H λvs H1=>sp vs H1 Q λc _ H'=>Z c U H'
theorem MD{aa:List (Addr×Obj)}{U:St}{H:Hp}{s:Shared}{Q:VK}{us:List Value}{vs:List V}(F:Ed X.prog X.w X.K X.mg X.base (CX1 X.prog X.w) k f fd ps sp)(hr:DL k X.A)(hb:Binds X.K fd ps [])(hx:Lk X Z)
  (I:Inv X aa U H s) (r:Vals vs us) (h:sp vs H Q λc _ H'=>Z c U H'):wpAny (model X.prog X.w) X.A (call (.ref f) us) (EP X aa U Q) X.xe s:=by
 have hl:us.length=ps.length:=by rw[<- r.length];exact F.len _ _ _ _ h
 have b:=hb s us I.kIn (by rw[rD];exact hl);rw[rD]at b;refine wpAny_call (codeAny_mono (F.run X.A X.stack s H ⟨us,[]⟩ us vs Q _ hr I.Zt b r h) λr s' hq=>?_);cases r with|error e=>exact hx aa U H s e s' I hq|ok fl =>cases fl with|ret u=>exact I.after hq|next=>exact False.elim hq|brk=>exact False.elim hq|cont=>exact False.elim hq
theorem VD(G:FnAt X.prog X.w X.K X.mg X.base (CX1 X.prog X.w) x k ps sp)(hr:DL k X.A)(hx:Lk X Z)(ha:PA X (e::es) t)(hg:Gl X x:=by rfl)(aQ:(x==("__debug__":Str))=false:=by decide)
  (he:starEach (e::es) X.env=(false,eval e X.env)::starEach es X.env:=by rfl) (az:(backTo pos (starEach es X.env)).any (·.1)=false:=by rfl):PE X (.Call (.Name x p) (e::es) [] pos) (U3 sp Z t):=by
 obtain⟨f,fd,F,hm,hk,hb⟩:=G.ex;intro aa s U H Q I h;refine wpAny_Call_Name_kw (EO I hg hm ?_ aQ);refine callWith_K (h₀:=X.base) I.ok.mod.zw hk (thn (ha pos aa s U H _ I h) λus s1 ⟨vs,H1,I1,r,q⟩=>⟨I1.kIn,?_⟩) he az;exact MD F hr hb hx I1 r q
end
noncomputable def UO:List Value:=[.type "ValueError",.type "Exception",.type "BaseException",.type "object"]
structure ExC(K:Fg)(mg:Str->Option Value)(x:Str)(C:Addr):Prop where
 at_:mg x=some (.ref C)
 ok:excIn K C UO "ValueError.__new__"=true
def UY(C:Addr)(Z:XE)(t:TA):TS:=λ_ U H=>t U H λvs H1=>vs.length<=1000/\Z (.ref C) U H1
theorem ExC.own{K:Fg}{mg:Str->Option Value}{x:Str}{C:Addr}{h:Heap}(c:ExC K mg x C)(X:K.In h):OwnCls x C UO "ValueError.__new__" mg h:=by
 refine⟨c.at_,?_⟩;have q:=c.ok;unfold excIn at q;split at q
 .rename_i dd cd sl ho;split at q
  .rename_i C' bm k0 k1 k2 k3 n k5 hm hs;simp only[qL,beq_iff_eq,Bool.not_eq_true']at q;obtain⟨⟨⟨⟨⟨rfl,rfl⟩,il⟩,ht⟩,z9⟩,ja⟩:=q;obtain⟨nm,bs,mro,ns,qn,hd,sn,sub,ab,col,del⟩:=cd;dsimp only at hm il z9 ja;subst hm il;have oH:sl=#[k0,k1,k2,k3,some (.builtin "ValueError.__new__"),k5]:=by obtain⟨l⟩:=sl;simp only at hs;rw[hs]
   subst oH;exact⟨bm,ns,nm,qn,bs,hd,sn,sub,ab,col,dd,k0,k1,k2,k3,k5,_,X _ _ ho,.of_isNs (PySem.W.isNs_of_in X z9),PySem.W.nsMap_none_of_in X z9 ja,PySem.W.tail_of_in X ht⟩
  .cases q
 .cases q
section
variable{X:Cx}{C:Addr}{Z:XE}{x:Str}{np au pos:Pos}{e:Expr}{es:List Expr}{t:TA}
theorem Tb{aa:List (Addr×Obj)}{U:St}{H:Hp}{s:Shared}{h':Heap}{a:Addr}{us:List Value}(D:X.ex=[])(I:Inv X aa U H s)(hm:Heap.MadeExcOf s.heap h' a (.ref C) us)(q:Z (.ref C) U H):XW X Z (.ref a) {s with heap:=h' }:=by
 obtain⟨t,ht,_,_⟩:=hm.there;refine⟨a,.ref C,none,.none,U,H,rfl,(I.kept (t':=s.toks) hm.keeps).Hv λ_ z=>absurd z (by simp),⟨_,_,ht,rfl,rfl,rfl,rfl⟩,.inl rfl,λb hb=>?_,q⟩;rcases hb with rfl|hb
 .exact I.new D hm.new
 .cases hb
theorem Hs(c:ExC X.K X.mg x C)(D:X.ex=[])(hc:X.calm=true)(hx:∀e s,XW X Z e s->X.xe e s)(ha:PA X (e::es) t)(hg:Gl X x:=by rfl)(aQ:(x==("__debug__":Str))=false:=by decide)
  (he:starEach (e::es) X.env=(false,eval e X.env)::starEach es X.env:=by rfl) (az:(backTo au (starEach es X.env)).any (·.1)=false:=by rfl) :
  PS X (.Raise (some (.Call (.Name x np) (e::es) [] au)) none pos) (UY C Z t):=by
 intro aa s U H D' I h;obtain⟨tl,N,nm,q,bs,hdct,sn,sub,ab,col,dd,k0,k1,k2,k3,k5,mN,hC,hN,ja,T⟩:=(c.own I.ok.mod.zw).obj;refine wpAny_Raise_call_subT (C:=C) (nm:=nm) (q:=q) (N:=N) (bs:=bs) (bm:=tl) (hdct:=hdct) (sn:=sn) (sub:=sub) (ab:=ab) (col:=col) (dd:=dd) (k0:=k0) (k1:=k1) (k2:=k2) (k3:=k3) (k5:=k5)
  PySem.F.excBase_ValueError (mN:=mN) (T.hasType PySem.F.excBase_ValueError.hasBase) (I.ok.hd hc) (by rw[he];show(false||(backTo au (starEach es X.env)).any (·.1))=false;rw[az];rfl) ja (EO I hg c.at_ ⟨rfl,?_⟩ aQ)
 have h1:=ha au aa s U H _ I h;rw[he]at h1 ⊢;refine Calls.evalArgs_plain (thn h1 λus s2 ⟨vs,H1,I1,r,hl,hz⟩=>⟨rfl,?_,I1.bk _ _ hC,hN.keeps I1.bk,T.keeps I1.bk,λh' a hm=>hx _ _ (Tb D I1 hm hz)⟩);show us.length<=sizeLine;rw[<- r.length,sizeLine_eq]
 lia
end
noncomputable def exO(c:Value)(a:Addr):HO:=.ext λh=>∃o vs,h.get? a=some o/\o.cls=c/\o.dict=none/\o.data=.fields vs
abbrev Cx.hand(X:Cx)(a:Addr):Cx:={X with A:=X.A.mark (some (.ref a)),calm:=false,xe:=λ_ _=>False}
section
variable{X:Cx}{aa:List (Addr×Obj)}{U:St}{H:Hp}{s:Shared}{a:Addr}
theorem Cx.Ok.hand(ok:X.Ok):(X.hand a).Ok :=
 ⟨ok.mod,ok.kind,ok.glob,ok.blt,ok.above,ok.inj,ok.has,ok.zB,(λz=>nomatch z),ok.frames,ok.zu,ok.zr,ok.bs,ok.zO,ok.zL,ok.zN,ok.KR,ok.zG⟩
theorem Inv.hand(I:Inv X aa U H s):Inv (X.hand a) aa U H s:=⟨I.ok.hand,I.os,I.bare,I.base,I.loc,I.cell,I.free,I.zZ,I.pin,I.z9,I.len⟩
theorem Inv.GK(ok:X.Ok)(I:Inv (X.hand a) aa U H s):Inv X aa U H s:=⟨ok,I.os,I.bare,I.base,I.loc,I.cell,I.free,I.zZ,I.pin,I.z9,I.len⟩
theorem Inv.Yf{o:HO}(I:Inv X [] U H s)(gx:X.pn=[])(h0:X.z8.heap.get? a=none)(hn:H a=none)(hf:∃u vs,s.heap.get? a=some u/\u.data=.fields vs)(new:Ca X.prog X.w (upd H a o) s.heap a o):Inv X [] U (upd H a o) s:=by
 have pe:∀b u,X.z8.heap.get? b=some u->b≠a:=λb u e z=>by rw[z,h0]at e;cases e
 obtain⟨u,vs,hu,hd⟩:=hf;refine⟨I.ok,I.os,I.bare,⟨I.base.keep,I.base.slot,λb o e n hx=>?_,I.base.there,λb xs e=>?_,λb o u e=>?_,λb ps e=>?_⟩,I.loc,I.cell,?_,λx c e=>?_,λp hp=>?_,λb u e=>?_,I.len⟩
 .rw[Am (pe b o e)];exact I.base.free b o e n hx
 .have q:=I.base.zT b xs e;rw[Am (AW q hn)];exact q
 .have q:=I.base.zV b o u e;rw[Am (AW q hn)];exact q
 .obtain⟨more,q⟩:=I.base.zU b ps e;exact⟨more,by rw[Am (AW q hn)];exact q⟩
 .rw[Am]
  .exact I.free
  .intro z;obtain⟨m,⟨o',_,_,bL,eK,_⟩,_⟩:=I.loc;rw[z,hu]at bL;cases bL;rw[hd]at eK;cases eK
 .rw[Am]
  .exact I.zZ x c e
  .intro z;obtain⟨v,o',bL,eK⟩:=I.cell x c e;rw[z,hu]at bL;cases bL;rw[hd]at eK;cases eK
 .rw[gx]at hp;cases hp
 .by_cases hb:b=a
  .subst hb;rw[Az]at e;cases e;exact new
  .rw[Am hb]at e;exact(I.z9 b u e).OO (λ_ _ _ q=>q) (λc q=>by rw[Am (AW q hn)];exact q) λc xs q=>by rw[Am (AW q hn)];exact q
theorem HL{M:Model}{A:Around}{E:Value->Shared->Prop}{i:Nat}{n:Str}{pos:Pos}{Q:Unit->Shared->Prop}(I:Inv X [] U H s)(gx:X.pn=[])(hN:X.N.Nodup)(hi:X.N[i]?=some n)(hl:X.env.scope.names.lookup n=some .local)
  (h:∀s',Inv X [] (U.set i none) H s'->Q () s'):wpAny M A (do bindName X.env n .none;unbindBehindTheSuite X.env n pos) Q E s:=by
 have bE:(X.env.scope.kind==.class||(X.env.scope.kind==.module&&X.env.locals !=X.env.globals))=false:=by rw[I.ok.kind];rfl
 have hk:X.env.kindOf n=some .local:=hl;refine qk (wpAny_bindName (Eg I hN hi (.inl hl) (v:=V.l) (u:=Value.none) rfl (λs1 I1=>?_) (.inr hl)));unfold unbindBehindTheSuite;refine wpAny_onRaise ?_;unfold unbindName;refine qk (wpAny_point (qk ?_));unfold deleteName;simp only[hk,bE];rw[if_neg (by decide)];obtain⟨m,hn,gO⟩:=id I1.loc;have dG:i<U.length:=by rw[I.len];exact(qN.mp hi).1
 have oq:(m n).isSome=true:=by
  obtain⟨u,_,z⟩:=gO i n V.l hi (by rw[rM dG]) (.inl hl);rcases z with⟨_,z⟩|⟨z,_⟩
  .rw[z];rfl
  .rw[hk]at z;rcases z with z|z<;>cases z
 refine qk (wpAny_nsDel_keeps hn λh2 v dM aO=>?_);simp only[oq,Bool.not_true,rW,if_false];refine qI (wpAny_point ?_);have cne:=I1.cne;have gR:∀b o,X.z8.heap.get? b=some o->b≠X.env.locals:=λb o e=>qZ (qP (qM e) I.ok.above)
 have key:Inv X [] (U.set i none) H {s1 with heap:=h2}:=by
  refine⟨I1.ok,I1.os,I1.bare,⟨λb o e n hb hx=>(aO.2 b (gR b o e)).trans (I1.base.keep b o e n hb hx),λb o e n hb hx=>?_,I1.base.free,λb o e hx=>?_,I1.base.zT,I1.base.zV,I1.base.zU⟩,⟨_,dM,λj y v' e1 e2 e3=>?_⟩,λy c e=>?_,I1.free,I1.zZ,λp hp=>?_,λb ob e=>?_,by simpa using I1.len⟩
  .obtain⟨sl,e1⟩:=I1.base.slot b o e n hb hx;exact⟨sl,(aO.2 b (gR b o e)).trans e1⟩
  .obtain⟨o',e1⟩:=I1.base.there b o e hx;exact⟨o',(aO.2 b (gR b o e)).trans e1⟩
  .by_cases hj:j=i
   .subst hj;rw[rM dG]at e2;cases e2
   .rw[rR (Ne.symm hj)]at e2;obtain⟨u',r',q⟩:=gO j y v' e1 (by rw[rR (Ne.symm hj)];exact e2) e3;refine⟨u',r',?_⟩;rcases q with⟨k,e⟩|⟨k,c,e,z⟩
    .refine .inl ⟨k,?_⟩;have:y≠n:=λe=>hj (HA hN e1 (e▸hi))
     simp[this,e]
    .exact .inr ⟨k,c,e,z.sameBut aO (cne y c e)⟩
  .obtain⟨w',z⟩:=I1.cell y c e;exact⟨w',z.sameBut aO (cne y c e)⟩
  .rw[gx]at hp;cases hp
  .refine(I1.z9 b ob e).OO (λc w' hc q=>(aO.2 c ?_).trans q) (λ_ q=>q) λ_ _ q=>q
   rintro rfl
   rcases hc with rfl|hc
   .rw[I1.free]at e;cases e
   .rw[I1.free]at hc;cases hc
 first
  |exact h _ key
  |exact h _ (key.tok _)
end
def PS0(X:Cx)(st:Stmt)(t:TS):Prop:=∀(s:Shared)(U:St)(H:Hp)(D:Ends),Inv X [] U H s->t D U H->wpAny (model X.prog X.w) X.A (exec st X.env) (SP X [] D) X.xe s
def QQ(X:Cx)(st:List Stmt)(t:TS):Prop:=∀(s:Shared)(U:St)(H:Hp)(D:Ends),Inv X [] U H s->t D U H->wpAny (model X.prog X.w) X.A (execs st X.env) (SP X [] D) X.xe s
section
variable{X:Cx}{st:Stmt}{rest:List Stmt}{t u:TS}
theorem PS.zero(h:PS X st t):PS0 X st t:=λs U H D I q=>h [] s U H D I q
theorem PSs.zero(h:PSs X rest t):QQ X rest t:=λs U H D I q=>h [] s U H D I q
theorem MO(h1:PS0 X st t)(h2:QQ X rest u):QQ X (st::rest) (ZH t u):=by intro s U H D I h;refine wpAny_execs_cons (thn (h1 s U H {D with nx:=u D} I h) λf s1 q=>?_);cases f with|next =>obtain⟨ak,H',I',q⟩:=q;exact h2 s1 ak H' D I' q|ret v=>exact q|brk=>exact q|cont=>exact q
theorem QQ.unw{E:Value->Shared->Prop}(h:QQ (X.FC E) rest t)(k:∀e s,E e s->X.xe e s):QQ X rest t:=λs U H D I hw =>wpAny_mono (h s U H D (I.FC _) hw) (λ_ _ q=>q.DY) λe s z=>k e s z
end
theorem WO{CX:CXT}{P:Program}{w:World}{K:Fg}{mg:Str->Option Value}{base:Heap}{k:Nat}{f:Addr}{name qual:Str}{params:Arguments}{body:List Stmt}{scope:Scope}{dV kV bX pm aL ct oc:Value}{an od:Option Addr}
  {fV:Array (Option Value)} {N ps:List Str} {sp:Sp} (lk:K.lookup f=some ⟨oc,od,.func (fnOf name qual params body scope dV kV bX pm an aL ct),fV⟩) (bD:codeIn K aL qual=true) (S:HY N ps scope)
  (len:∀vs H Q E,sp vs H Q E->vs.length=ps.length)
  (dC:∀(A:Around)(outer:List Env)(s:Shared)(H:Hp)(vs:List V)(Q:VK)(E:XK),DL k (A.deeper (envOfC qual scope s.heap.objs.size f aL))->sp vs H Q E ->
   ∃t,QQ (LZ CX P w K mg base N qual scope f aL A outer s H E) body t/\t {nx:=λ_ H'=>Q .l H',rt:=Q} (start N vs) H) :
  Ed P w K mg base CX (k+1) f (fnOf name qual params body scope dV kV bX pm an aL ct) ps sp:=by
 refine⟨len,λA outer s H args us vs Q E hr e0 hb r eL=>?_⟩;have hl:=len _ _ _ _ eL;have KX:K.In s.heap:=e0.mod.zw.keeps λb o e=>(e0.bs b o e).1
 have lim:s.heap.NoLimit:=e0.mod.nolimit.keeps λb o e=>(e0.bs b o e).1
 have ir:∀y∈ps.zip us,scope.names.lookup y.1=some .local\/(scope.names.lookup y.1=some .cell/\((cellsFrom (s.heap.objs.size+1) scope.names []).lookup y.1).isSome=true):=λ⟨n,v⟩ hy=>by
  rcases S.par n (List.of_mem_zip hy).1 with q|q
  .exact .inl q
  .exact .inr ⟨q,PySem.W.cellsFrom_some _ _ _ (.inl q)⟩
 refine codeAny_call_function hr.depth (KX _ _ lk) rfl S.co S.gen rfl (PySem.W.codeRec_of KX bD) (hb _ _ _ _ ?_);refine wpAny_newFunctionEnv_cells S.kind ir λenv he s1 x=>?_
 subst he;refine⟨lim.keeps x.toInCall.keep,codeAny_func ?_⟩;obtain⟨t,ht,hq⟩:=dC A outer s H vs Q E (hr.deeper _) eL;have I:Inv (LZ CX P w K mg base N qual scope f aL A outer s H E) [] (start N vs) H s1:=NJ S hr.hd e0 hl r x;refine wpAny_mono (ht s1 (start N vs) H _ I hq) (λfl s' hs=>?_) λe s' hs=>hs
 have aV:∀{ak:St}{H':Hp}{v:V}{u:Value},Inv (LZ CX P w K mg base N qual scope f aL A outer s H E) [] ak H' s'->RelV v u->Q v H'->CE outer P w H s Q u s' :=
  λ{ak H' v u} J rv q=>⟨v,H',J.os,J.bare,J.base,J.z9,rv,q⟩
 cases fl with|ret u =>obtain⟨v,ak,H',J,rv,q⟩:=hs;exact aV J rv q|next =>obtain⟨ak,H',J,q⟩:=hs;exact aV (v:=V.l) (u:=Value.none) J rfl q|brk =>obtain⟨_,_,_,q⟩:=hs;exact False.elim q|cont =>obtain⟨_,_,_,q⟩:=hs;exact False.elim q
theorem Fun.ok0{P:Program}{w:World}{K:Fg}{mg:Str->Option Value}{base:Heap}{N:List Str}{qual:Str}{f:Addr}{x:Str}{st:Stmt}{fd:FuncData}{ps:List Str}{k:Nat}{sp:Sp}(F:Fun K x qual st f fd)(S:HY N ps (BF st))(len:∀vs H Q E,sp vs H Q E->vs.length=ps.length)
  (dC:∀(aL:Value)(A:Around)(outer:List Env)(s:Shared)(H:Hp)(vs:List V)(Q:VK)(E:XK),DL k (A.deeper (envOfC qual (BF st) s.heap.objs.size f aL))->sp vs H Q E ->
   ∃t,QQ ((LZ (CX1 P w) P w K mg base N qual (BF st) f aL A outer s H E).FC (XW (LZ (CX1 P w) P w K mg base N qual (BF st) f aL A outer s H E) λc _ H'=>E c none H')) (Ea st) t/\t {nx:=λ_ H'=>Q .l H',rt:=Q} (start N vs) H) :
  Ed P w K mg base (CX1 P w) (k+1) f fd ps sp:=by
 obtain⟨oc,od,kV,bX,pm,an,aL,ct,fV,rfl,lk,bD⟩:=F.ex;refine WO lk bD S len λA outer s H vs Q E hr eL=>?_
 obtain⟨t,h,q⟩:=dC aL A outer s H vs Q E hr eL;exact⟨t,h.unw λ_ _=>Ya,q⟩
noncomputable def RW(i:Nat)(D:Ends):Ends:={nx:=λU H=>D.nx (U.set i none) H,rt:=D.rt,bk:=λU H=>D.bk (U.set i none) H,ct:=λU H=>D.ct (U.set i none) H}
def Jat(K:Fg)(C:Addr)(i:Nat)(th:TS)(D:Ends):XE:=λc U H=>exmOne K c (.ref C)=some true/\∀a,H a=none->th (RW i D) (U.set i (some (.ref a))) (upd H a (exO c a))
section
variable{X:Cx}{C:Addr}{x n:Str}{i:Nat}{np pos ck:Pos}{body aT:List Stmt}{bC:Stmt}{tb:Ends->TS}{th:TS}
theorem SP.GK{a:Addr}{f:Flow}{s':Shared}{D:Ends}(ok:X.Ok)(h:SP (X.hand a) [] D f s'):SP X [] D f s':=by cases f with|next=>obtain⟨ak,H',I,q⟩:=h;exact⟨ak,H',I.GK ok,q⟩|brk=>obtain⟨ak,H',I,q⟩:=h;exact⟨ak,H',I.GK ok,q⟩|cont=>obtain⟨ak,H',I,q⟩:=h;exact⟨ak,H',I.GK ok,q⟩|ret u=>obtain⟨v,ak,H',I,r,q⟩:=h;exact⟨v,ak,H',I.GK ok,r,q⟩
theorem So(D:OM X)(hC:X.mg x=some (.ref C))(hN:X.N.Nodup)(hb:∀D,PSs (X.FC (XW X (Jat X.K C i th D))) body (tb D))(hs:∀a,PSs (X.hand a) (bC::aT) th)(hi:X.N[i]?=some n:=by rfl)(hl:X.env.scope.names.lookup n=some .local:=by rfl)
  (hg:Gl X x:=by rfl) (aQ:(x==("__debug__":Str))=false:=by decide) :
  PS0 X (.Try body [.ExceptHandler (some (.Name x np)) (some n) (bC::aT) ck] [] [] pos) (λD=>tb D D):=by
 intro s U H D' I h;refine wpAny_Try_except (wpAny_mono (hb D' [] s U H D' (I.FC _) h) (λf s1 q=>?_) λe s1 q=>?_)
 .have q:=q.DY;cases f with|next=>exact wpAny_execs_nil q|ret v=>exact q|brk=>exact q|cont=>exact q
 .obtain⟨a,c,T,fl,di,H1,rfl,I1,e1,f1,n1,z1,z2⟩:=q;refine JI D I1.ok.frames I1 e1 f1 n1 λh2 T2 e2 n2 I2=>?_
  refine Ep (f:=none) D.pn I2 e2 n2 λh3 e3 I3=>?_
  refine wpAny_handleBy_cons (codeAny_handlers_test (EO (X:=X.hand a) I3.hand hg hC ?_ aQ)) (by intro q;cases q);obtain⟨oe,vs,he,bE,fg,hd,ht⟩:=id e3;have LT:Looks (model X.prog X.w) h3 (typeOf (.ref a)) c:=bE▸(PySem.W.Looks.ld he).andThen .now;refine PySem.W.Looks.here (s:={s1 with heap:=h3}) (PySem.W.exm_one I3.kIn LT z1) ?_;refine codeAny_handlers_suite_as ?_;refine Ep (f:=none) D.pn I3 e3 n2 λh4 e4 I4=>?_
  obtain⟨kx,lV,jP,ie,jM,i8,p7⟩:=id e4;have j5:=n2 a (.inl rfl);have I5:Inv X [] di (upd H1 a (exO c a)) {s1 with heap:=h4}:=I4.Yf D.pn j5.1 j5.2 ⟨kx,lV,jP,i8⟩ ⟨⟨kx,lV,jP,ie,jM,i8⟩,⟨kx,jP⟩,λg1 g2 ⟨o,v,q1,q2⟩ k=>⟨o,v,k o q1,q2⟩⟩;refine Eg I5 hN hi (.inl hl) (v:=V.ref a) (u:=Value.ref a) rfl (λs6 I6=>?_) (.inr hl);refine wpAny_mono (hs a [] s6 _ _ (RW i D') I6.hand (z2 a j5.2)) (λf s7 q=>?_) λ_ _ z=>False.elim z
  have q:=q.GK I.ok;cases f with
  |next =>obtain⟨ak,H',I',q⟩:=q;exact HL I' D.pn hN hi hl λs8 I8=>⟨_,_,I8,q⟩
  |ret u =>obtain⟨v,ak,H',I',r,q⟩:=q;exact HL I' D.pn hN hi hl λs8 I8=>⟨v,_,_,I8,r,q⟩
  |brk =>obtain⟨ak,H',I',q⟩:=q;exact HL I' D.pn hN hi hl λs8 I8=>⟨_,_,I8,q⟩
  |cont =>obtain⟨ak,H',I',q⟩:=q;exact HL I' D.pn hN hi hl λs8 I8=>⟨_,_,I8,q⟩
end
end L2
namespace PySem.W
open PySem PySem.Spec PySem.Calls PyProof.Rows
section
variable{prog:Program}{w:World}{A:Around}{E:Value->Shared->Prop}{K:Frag}{x D:Addr}{ox:Obj}
structure ExK(K:Frag)(D:Addr):Prop where
 ga:findIn K (.ref D) "__getattribute__"=some (some (.builtin "BaseException.__getattribute__"))
 gt:findIn K (.ref D) "__getattr__"=some none
 ca:findIn K (.ref D) "__class__"=some (some (.builtin "object.__class__"))
 gs:specialIn K (.builtin "object.__class__") "__get__"=some (some (.builtin "getset_descriptor.__get__"))
 tk:takesIn K (.builtin "object.__class__")=some true
 mo:mroIn K D (.type "object")=some true
 mb:mroIn K D (.type "BaseException")=some true
theorem ExK.find(k:ExK K D)(hc:(clsIn K D).isSome=true):findObj K D none "__class__"=some (.bind (.builtin "getset_descriptor.__get__") (.builtin "object.__class__")):=by obtain⟨cd,hc⟩:=rZ.mp hc;unfold findObj;rw[hc,rA,k.ca,rA];simp[k.gs,k.tk]
theorem N4{tk:Tok}{Q:Fin->Shared->Prop}{s:Shared}(k:ExK K D)(hc:(clsIn K D).isSome=true)(X:K.In s.heap)(I:InstAt s.heap x ox D none)(h:Q (.done (.ret (.ref D))) s) :
  wpAny (model prog w) A (Builtin.«object.__getattribute__» ⟨[.ref x,.str "__class__" tk],[]⟩) Q E s:=by
 obtain⟨hh,g,d,t,os⟩:=s;have L0:=I.type (M:=model prog w);have L1:=looks_find (M:=model prog w) X I (k.find hc);unfold Builtin.«object.__getattribute__»
 repeat (any_goals (first|assumption|with_reducible refine L0.at ?_|with_reducible refine L1.at ?_|wp_step))
 exact class_get (s:=⟨hh,g,d,t,os⟩) X I k.mo (qI h)
theorem N6{M:Model}{fT:Value}{Q:Unit->Shared->Prop}{s:Shared}(k:ExK K D)(X:K.In s.heap)(I:InstAt s.heap x ox D none)(h:Q () s):wpAny M A (checkBuiltinCall "BaseException.__getattribute__" ⟨[.ref x,fT],[]⟩) Q E s:=by
 obtain⟨hh,g,d,t,os⟩:=s;have hk:builtinKind "BaseException.__getattribute__"=some .slot:=by decide +kernel
 have gA:splitId "BaseException.__getattribute__"=some ("BaseException","__getattribute__"):=by decide +kernel
 have L0:=I.type (M:=M);have L1:=looks_mroIn (M:=M) X k.mb;have ha:=F.args_bexc_ga (.ref x) fT;simp only[checkBuiltinCall,hk,gA];refine qk ?_;unfold isInstance
 repeat (first|with_reducible refine L0.at ?_|with_reducible refine L1.at ?_|wp_step)
 exact h
theorem Qt{tk:Tok}{R:Result->Shared->Prop}{s:Shared}(k:ExK K D)(hc:(clsIn K D).isSome=true)(X:K.In s.heap)(I:InstAt s.heap x ox D none)(h:R (.ok (.ret (.ref D))) s) :
  codeAny (model prog w) A (.call (.builtin "BaseException.__getattribute__") ⟨[.ref x,.str "__class__" tk],[]⟩) R s :=
 codeAny_call_builtin PySem.F.excAttr_ValueError.ga.plain F.entry_bexc_ga (N6 k X I (N4 k hc X I h))
theorem Xn{tk:Tok}{Q:Value->Shared->Prop}{s:Shared}(k:ExK K D)(hc:(clsIn K D).isSome=true)(X:K.In s.heap)(I:InstAt s.heap x ox D none)(h:Q (.ref D) s) :
  wpAny (model prog w) A (getAttrBy (.ref x) (.str "__class__" tk) false) Q E s:=by
 obtain⟨hh,g,d,t,os⟩:=s;have L0:=I.type (M:=model prog w);have L1:=looks_findIn (M:=model prog w) X k.ga;have L2:=looks_findIn (M:=model prog w) X k.gt;have f3:=PySem.F.excAttr_ValueError.ga.bind (.ref x);have oQ:(Value.builtin "BaseException.__getattribute__"==Value.builtin "object.__getattribute__")=false:=by decide +kernel
 have qa:(onTheHeap (Value.ref D)&&Value.builtin "BaseException.__getattribute__"==Value.builtin "object.__getattribute__")=false:=by rw[oQ];rfl
 have p9:(false&&onTheHeap (Value.builtin "BaseException.__getattribute__"))=false:=rfl
 repeat (any_goals (first|assumption|with_reducible refine L0.at ?_|with_reducible refine L1.at ?_|with_reducible refine L2.at ?_|wp_step))
 refine Qt (s:=⟨hh,g,d,t,os⟩) k hc X I ?_
 repeat (any_goals (first|assumption|wp_step))
theorem N5{Q:Option Value->Shared->Prop}{s:Shared}(k:ExK K D)(hc:(clsIn K D).isSome=true)(X:K.In s.heap)(I:InstAt s.heap x ox D none)(h:Q (some (.ref D)) {s with toks:=s.toks+1}) :
  wpAny (model prog w) A (getAttr? (.ref x) "__class__") Q E s:=by
 obtain⟨hh,g,d,t,os⟩:=s;unfold getAttr? getAttrBy?;exact qk (wpAny_mkText (qk (wpAny_attempt (Xn (s:=⟨hh,g,d,t+1,os⟩) k hc X I (qI h)))))
theorem PQ(k:ExK K D)(hc:(clsIn K D).isSome=true):KitX K (.ref x) (.ref D) (λh=>InstAt h x ox D none) where
 ty:=λ_ _ _ I=>I.type
 it:=λ_ _ X _=>by
  unfold clsIn at hc;split at hc
  next c' d' mK kA ho=>intro A' Q' E' s' k q;unfold isType loadHead;exact qk (wpAny_loadPart (k _ _ (X _ _ ho)) (qI q))
  .cases hc
 ne:=λh tp dd ah n sl X oJ=>by
  refine tw.mpr λq=>?_
  have e:D=tp:=Value.ref.inj (beq_iff_eq.mp q);subst e;unfold clsIn at hc;split at hc
  next c' d' mK kA ho=>have z:=(X _ _ ho).symm.trans oJ;cases z
  .cases hc
 ca:=λX I q=>N5 k hc X I q
end
end PySem.W
namespace L2
open PySem PySem.Spec PyProof.Rows
section
variable{X:Cx}
theorem Ha:CO X (.builtin "isinstance") (λxs H Q=>∃a D y c b,xs=[.ref a,y]/\(∀u,RelV y u->u=c)/\H a=some (exO (.ref D) a)/\PySem.W.ExK X.K D/\(clsIn X.K D).isSome=true/\kitOne X.K (.ref D) c=some b/\Q (.o b) H):=by
 intro aa s U H xs us Q I r h;obtain⟨a,D,y,c,b,rfl,hy,ha,k,hc,e,q⟩:=h;cases r with
 |cons r1 rr =>
  cases rr with
  |cons r2 rr =>
   cases rr;cases(show _=Value.ref a from r1);cases hy _ r2;obtain⟨⟨o,vs,h1,h2,h3,h4⟩,_⟩:=(show Ca X.prog X.w H s.heap a (exO (.ref D) a)from I.z9 a _ ha)
   have J:InstAt s.heap a o D none:=⟨h1,h2,by unfold PySem.W.notCls;rw[h4],by rw[h3];trivial⟩
   exact PySem.W.kia_one (PySem.W.PQ k hc) I.kIn J e (λz=>nomatch z) λtk=>⟨.o b,H,I.tok tk,rfl,q⟩
theorem QI{bs:List Bool}{ah:List Value}(rv:Vals (bs.map V.o) ah):∀y,y∈ah.toArray->∃b,y=Value.bool b:=by intro y hy;rw[B8 rv]at hy;simp only[List.mem_toArray,rh]at hy;obtain⟨b,_,rfl⟩:=hy;exact⟨b,rfl⟩
noncomputable def isT:Value->Bool
 |.bool b=>b==true
 |_=>false
theorem RL{A:Around}{s:Shared}{ah:List Value}{bs:List Bool}(rv:Vals (bs.map V.o) ah):∀y,y∈ah.toArray->SeqAt.EqAt A s y (.bool true) (isT y):=λy hy=>by obtain⟨b,rfl⟩:=QI rv y hy;exact SeqAt.EqAt.bool_bool b true
theorem PF:MtR X "list.count" (λx vs H Q=>∃(l:Addr)(bs:List Bool),x=.ref l/\vs=[.o true]/\SqL X.K H l (bs.map V.o)/\Q (.int ((bs.countP id:Nat):Int)) H):=by
 intro aa s U H x vs v us Q I rx rv h;obtain⟨l,bs,rfl,rfl,hq,q⟩:=h;cases rx;obtain⟨u,rfl,ru⟩:=rv.one;cases(show u=Value.bool true from ru);obtain⟨ah,rv,⟨⟨cls,dd,data,sl⟩,n,ho,hc,ik,hd⟩,hz⟩:=I.list hq;simp only at hc ik hd;subst hc ik hd;have hb:=B8 rv;refine call_meets F.slot_list_count ⟨_,ho,rfl⟩ F.entry_list_count (F.args_list_count_2 _ _) (SeqAt.list_countAt l ah.toArray n none sl (.bool true) isT) ⟨ho,RL rv,?_⟩;refine⟨.int _,H,I.tok _,⟨_,rfl⟩,?_⟩;have e:ah.toArray.toList.countP isT=bs.countP id:=by rw[hb];simp only[List.countP_map];exact List.countP_congr λb _=>by cases b<;>simp[isT]
 rw[e];exact q
theorem PD:MtR X "list.index" (λx vs H Q=>∃(l:Addr)(bs:List Bool)(j:Nat),x=.ref l/\vs=[.o true]/\SqL X.K H l (bs.map V.o)/\bs[j]?=some true/\(∀m,m<j->bs[m]?=some false)/\Q (.int ((j:Nat):Int)) H):=by
 intro aa s U H x vs v us Q I rx rv h;obtain⟨l,bs,j,rfl,rfl,hq,hj,j8,q⟩:=h;cases rx;obtain⟨u,rfl,ru⟩:=rv.one;cases(show u=Value.bool true from ru);obtain⟨ah,rv,⟨⟨cls,dd,data,sl⟩,n,ho,hc,ik,hd⟩,hz⟩:=I.list hq;simp only at hc ik hd;subst hc ik hd;have hb:=B8 rv;subst hb;have n9:j<bs.length:=(qN.mp hj).1;rw[qw,sizeLine_eq]at hz;refine call_meets F.slot_list_index ⟨_,ho,rfl⟩ F.entry_list_index (F.args_list_index_2 _ _) (SeqAt.list_indexAt l (bs.map Value.bool).toArray n none sl (.bool true) isT j (by simpa using n9) (by lia) ?_ ?_) ⟨ho,RL rv,?_⟩
 .have:=(qN.mp hj).2;simp[isT,this]
 .intro m hm oo;have e:=j8 m oo;have:=(qN.mp e).2;simp[isT,this]
 .exact⟨.int _,H,I.tok _,⟨_,rfl⟩,q⟩
end
end L2
namespace L2
open PySem PySem.Spec PySem.W PyProof.Rows
theorem Lh{l:OpenLaw}{n k:Nat}{q:Program}{loose:List Str}{XP:(Str->Option Value)->Heap->Prop}{YP:World->Heap->Prop}{d:DefRec}{K:Params->Fg}{CX:World->CXT}{sp:Fg->Sp}{x:Str}
  (hn:l.most=some n) (dM:n<=sizeLine) (ip:d.params.defaults=[]) (hr:DL k callerA)
  (hY:∀(w:World)(h:Heap),YP w h->(K w.params).In h)
  (F:∀(w:World)(mg:Str->Option Value)(fa:Addr)(h:Heap),(K w.params).In h->h.Ns mainGlobals mg->mg d.name=some (.ref fa) ->
   ∃fd:FuncData,(∀(s:Shared)(u:Value),BindsTo s fd ⟨[u],[]⟩ [(x,u)]) /\
    ∀base:Heap,(K w.params).In base->base.Ns mainGlobals mg->Ed l.prog w (K w.params) mg base (CX w) k fa fd [x] (sp (K w.params)))
  (eL:∀(K:Fg)(H:Hp)(a:Addr)(ns:List Int),ns.length<=n->BY ns<=2^20->X3 H->SqL K H a (ns.map V.int)->sp K [.ref a] H (λv _=>v=.o true) λ_ _ _=>False)
  (hU:∀(w:World)(H:Hp)(s:Shared)(e:Value)(s':Shared),CX w [] H s (λ_ _ _=>False) e s'->False) :
  WalkO q loose XP YP l.row.toRowW d [] (λf vs=>PySem.call f vs):=by
 intro w z8 ar mg mb G Y fa o pm cd bX dV kV ho hd bD hD iy hg args vals as cY fj lq iB cX;obtain rfl:dV=.none:=Dflts.none hD ip;obtain rfl:kV=.none:=Dflts.noKw hD;obtain⟨a,vs,ns,rfl,rfl,j9,hints,hlen⟩:=Att.MC hn cY iB;have hw:BY ns<=2^20:=by
  have h1:(WData.list (ns.map WData.int)).layable=true:=by unfold WData.layableAll at fj;simpa using fj
  unfold WData.layable at h1;rw[qL]at h1;have h2:=qW h1.2;simp only[WData.weight]at h2;rw[<- Gu];exact h2
 have KX:=hY w _ Y;obtain⟨fd,hb,hF⟩:=F w mg fa _ KX G.T.g iy;refine PySem.W.enter_call (codeAny_mono (PN KX G.T.g G.T.b G.T.builtins G.T.nolimit hg j9 hints (qS hlen dM) hr hF hb (λH hO hS=>eL (K w.params) H a ns hlen hw hO hS) λH e s'=>hU w H ar e s') λr s' hq=>?_);obtain⟨rfl,h2,h3,h4⟩:=hq;exact⟨.inl ⟨.bool true,.bool true,[],rfl,λ_=>rfl,.bool true,Att.MR l _,λ_=>⟨List.Pairwise.nil,λ_ hm=>(nomatch hm)⟩⟩,h2,h3,h4⟩
theorem Js{l:OpenLaw}{n k N tk:Nat}{q:Program}{loose:List Str}{XP:(Str->Option Value)->Heap->Prop}{d:DefRec}{K:Params->Fg}{as:List Addr}{CX:World->CXT}{sp:Fg->Sp}{x:Str}
  (hn:l.most=some n) (dM:n<=sizeLine) (ip:d.params.defaults=[]) (hr:DL k callerA)
  (hK:∀P:Params,as=(K P).map (·.1))
  (F:∀(w:World)(mg:Str->Option Value)(fa:Addr)(h:Heap),(K w.params).In h->h.Ns mainGlobals mg->mg d.name=some (.ref fa) ->
   ∃fd:FuncData,(∀(s:Shared)(u:Value),BindsTo s fd ⟨[u],[]⟩ [(x,u)]) /\
    ∀base:Heap,(K w.params).In base->base.Ns mainGlobals mg->Ed l.prog w (K w.params) mg base (CX w) k fa fd [x] (sp (K w.params)))
  (eL:∀(K:Fg)(H:Hp)(a:Addr)(ns:List Int),ns.length<=n->BY ns<=2^20->X3 H->SqL K H a (ns.map V.int)->sp K [.ref a] H (λv _=>v=.o true) λ_ _ _=>False)
  (hU:∀(w:World)(H:Hp)(s:Shared)(e:Value)(s':Shared),CX w [] H s (λ_ _ _=>False) e s'->False) :
  WalkX q loose XP (PySem.W.X.obsZ as) (PySem.W.X.valZ K N tk) l.row.toRowW d [] (λf vs=>PySem.call f vs):=by
 intro w z8 ar mg mb G Y fa o pm cd bX dV kV ho hd bD hD iy hg args vals mJ hL cY fj lq iB cX;have W:=Lh (l:=l) (q:=q) (loose:=loose) (XP:=XP) (YP:=λw h=>(K w.params).In h) (d:=d) (K:=K) (CX:=CX) (sp:=sp) (x:=x) hn dM ip hr (λ_ _ h=>h) F eL hU;refine W w z8 ar mg mb G ?_ fa o pm cd bX dV kV ho hd bD hD iy hg args vals mJ cY fj lq iB cX;have h1:as.map z8.heap.get?=(K w.params).map (λp=>some p.2):=congrArg Prod.fst Y;rw[hK w.params]at h1;exact λa o e=>hL.keeps a o (Nq _ h1 a o e)
end L2
namespace L2
open PySem PySem.Spec PyProof.Rows
section
variable{X:Cx}{k:Nat}{C:Addr}{ps:List Str}{sp:Sp}{Z:XE}{x m:Str}{p pos av:Pos}{e o:Expr}{es:List Expr}{ta:TE}{t:TA}
def U0(C:Addr)(m:Str)(sp:Sp)(Z:XE)(ta:TE)(t:TA):TE:=λU H Q=>ta U H λx H1=>∃a dx fs,x=.ref a/\H1 a=some (.ins C dx fs)/\fs.lookup m=none /\
 t U H1 λvs H2=>sp (x::vs) H2 Q λc _ H'=>Z c U H'
theorem VA{pl:Sem Bool}(G:UQ X.prog X.w X.K X.mg X.base (CX1 X.prog X.w) C m k ps sp)(hr:DL k X.A)(hx:Lk X Z)(he:PE X o ta)(ha:PA X (e::es) t)
  (bG:starEach (e::es) X.env=(false,eval e X.env)::starEach es X.env:=by rfl) (az:(backTo pos (starEach es X.env)).any (·.1)=false:=by rfl)
  (ht:eval (.Call (.Attribute o m av) (e::es) [] pos) X.env=(do
   let ov <- eval o X.env
   standAt av.atName
   let(f,first) <- holding [ov] (getMethod ov m pl)
   callWith pos f first (backTo pos (starEach (e::es) X.env)) (backToKw pos (keywordEach [] X.env))):=by rfl) :
  PE X (.Call (.Attribute o m av) (e::es) [] pos) (U0 C m sp Z ta t):=by
 obtain⟨f,fd,F,hm,hb⟩:=G.ex;intro aa s U H Q I h;refine methodCall_KW (pl:=pl) (thn (he aa s U H _ I h) λu s1 ai=>?_) ht;obtain⟨x,H1,I1,rx,a,dx,fs,ex,ea,l,q⟩:= ai;subst ex;obtain rfl:u=Value.ref a:=rx;refine GU I1 ea G.cl hm l ?_;refine callWith_K (first:=[.ref a]) (h₀:=X.base) I.ok.mod.zw hm.kp (thn (ha pos aa s1 U H1 _ I1 q) λus s2 ⟨vs,H2,I2,r,q2⟩=>⟨I2.kIn,?_⟩) bG az;exact MD (us:=.ref a::us) (vs:=.ref a::vs) F hr hb hx I2 (.cons rfl r) q2
theorem VE{X:Cx}:Passes (CX1 X.prog X.w) X E0:=λ_ _ _ _ _ _ _ ⟨_,_,_,_,_,_,_,_,_,_,_,q⟩=>q.elim
end
noncomputable def CH(z:Str):Bool:=decide (z.length<=1000)&&z.cps.toList.all λc=>decide (c<16^8)
theorem ID{z:Str}(h:CH z=true):(reprText z).length<=20000:=by
 unfold CH at h;rw[qL]at h;have h1:=qW h.1;have h2:=PySem.StrLaws.reprText_len z λc m=>qW (rC.mp h.2 c m)
 lia
section
variable{X:Cx}{v:Expr}{ta:TE}{a:Str}{j:Nat}{cp fp jp:Pos}
def tFr(ta:TE):TE:=λU H Q=>ta U H λx H1=>∃z,x=.str z/\CH z=true/\∀r,Q (.str r) H1
theorem YA(hv:PE X v ta)(hl:a.length<=1000:=by decide):PE X (.JoinedStr [.Constant (.str a) j cp,.FormattedValue v 114 none fp] jp) (tFr ta):=by
 intro aa s U H Q I h;refine wpAny_JoinedStr ?_;show wpAny _ _ (eval (.Constant (.str a) j cp) X.env) _ _ s;refine thn (MV aa s U H (λu H1=>u=.str a/\H1=H) I ⟨rfl,rfl⟩) λu s1 ai=>?_
 obtain⟨x,H1,I1,r1,q1,q2⟩:= ai;subst q1 q2;obtain⟨t1,rfl⟩:=r1;have e0:(Str.empty++a).length=a.length:=by rw[strLen_append];exact Nat.zero_add _
 refine⟨a,t1,rfl,by rw[e0,sizeLine_eq];lia,?_⟩;show wpAny _ _ (eval (.FormattedValue v 114 none fp) X.env) _ _ s1;refine wpAny_FormattedValue_repr (thn (hv aa s1 U H1 _ I1 h) λu s2 ai=>?_);obtain⟨x,H2,I2,r2,z,ez,hz,q⟩:= ai;subst ez;obtain⟨t2,rfl⟩:=r2;have hr:=ID hz;refine wpAny_pyReprObj_str ?_ (by rw[sizeLine_eq];lia);have e1:(Str.empty++a++reprText z).length<=21000:=by rw[strLen_append,e0];lia
 refine formatField_str (λt' tk=>⟨_,t',rfl,by rw[sizeLine_eq];lia,?_⟩) (by rw[sizeLine_eq];lia);refine⟨by rw[sizeLine_eq];lia,.str (Str.empty++a++reprText z),H2,?_,⟨_,rfl⟩,q _⟩;exact(I2.tok _).tok _
end
section
variable{X:Cx}
theorem QE(hc:X.calm=true):CO X (.builtin "any") (λxs H Q=>∃(l:Addr)(bs:List Bool),xs=[.ref l]/\SqL X.K H l (bs.map V.o)/\Q (.o (bs.any id)) H):=by
 intro aa s U H xs us Q I r h;obtain⟨l,bs,rfl,hq,q⟩:=h;obtain⟨u,rfl,rx⟩:=vals1 r;cases rx;obtain⟨ah,rv,pl,hz⟩:=I.list hq;have hb:=B8 rv;have hl:=pl.isList;have bc:l<s.heap.objs.size:=by obtain⟨_,e,_⟩:=hl;exact qM e
 refine call_any_walk (wpAny_pyIter_list hl ?_);refine⟨s.heap.objs.size,[s.heap.objs.size,l],[s.heap.objs.size],ah.toArray.size,_,_,λi=>(bs[i]?).getD false,rfl,Walks.list (A:=X.A.in1) (I.ok.hd hc) _ l (qZ bc) ah.toArray,
  ⟨⟨_,qO _ rfl,rfl,rfl⟩,hl.push _⟩,λi v s' Q' E' hP hQ=>?_,λh' tk hk=>?_⟩
 .have e:ah[i]?=some v:=by simpa using hP
  rw[hb,qX]at e;cases eb:bs[i]? with|none=>rw[eb]at e;cases e|some b =>rw[eb]at e;have e':Value.bool b=v:=Option.some.inj e;subst e';simp only[eb,Option.getD_some]at hQ;exact wpAny_truthy_bool hQ
 .have e:((List.range ah.toArray.size).any λi=>(bs[i]?).getD false)=bs.any id:=by
   have hlen:ah.toArray.size=bs.length:=by rw[hb];simp
   rw[hlen];rw[rL,List.any_eq_true,List.any_eq_true];constructor
   .rintro⟨i,hi,hh⟩
    have fh:=rP.mp hi;exact⟨bs[i],List.getElem_mem fh,by simpa[qo fh]using hh⟩
   .rintro⟨b,hm,hh⟩
    obtain⟨i,hi,rfl⟩:=List.getElem_of_mem hm;exact⟨i,rP.mpr hi,by simpa[qo hi]using hh⟩
  rw[e];have kp:∀b o,s.heap.get? b=some o->h'.get? b=some o:=λb o e=>hk b o (λhm=>by rw[qQ.mp hm]at e;exact rJ _ (qM e)) (ql _ e)
  exact⟨.o _,H,I.kept kp,rfl,q⟩
noncomputable def ipS:TIp:=λx y H Q=>∃i j,x=.str i/\y=.str j/\i.length+j.length<=sizeLine/\Q (.str (i++j)) H
theorem To:PIp X .Add ipS:=by intro aa s U H x y v u Q I r1 r2 h;obtain⟨i,j,e1,e2,hl,q⟩:=h;subst e1;subst e2;obtain⟨t,rfl⟩:=r1;obtain⟨t',rfl⟩:=r2;exact iadd_str (λt2 tk=>⟨.str _,H,I.tok _,⟨_,rfl⟩,q⟩) hl
end
section
variable{X:Cx}{v:Expr}{ta:TE}{fp:Pos}
end
section
variable{X:Cx}{v:Expr}{ta:TE}{a:Str}{j:Nat}{cp fp jp:Pos}
theorem VC(hv:PE X v ta)(hl:a.length<=1000:=by decide):PE X (.JoinedStr [.FormattedValue v 114 none fp,.Constant (.str a) j cp] jp) (tFr ta):=by
 intro aa s U H Q I h;refine wpAny_JoinedStr ?_;show wpAny _ _ (eval (.FormattedValue v 114 none fp) X.env) _ _ s;refine wpAny_FormattedValue_repr (thn (hv aa s U H _ I h) λu s2 ai=>?_);obtain⟨x,H2,I2,r2,z,ez,hz,q⟩:= ai;subst ez;obtain⟨t2,rfl⟩:=r2;have hr:=ID hz;refine wpAny_pyReprObj_str ?_ (by rw[sizeLine_eq];lia);have e0:(Str.empty++reprText z).length=(reprText z).length:=by rw[strLen_append];exact Nat.zero_add _
 refine formatField_str (λt' tk=>⟨_,t',rfl,by rw[sizeLine_eq];lia,?_⟩) (by rw[sizeLine_eq];lia);show wpAny _ _ (eval (.Constant (.str a) j cp) X.env) _ _ _;refine thn (MV aa _ U H2 (λu H3=>u=.str a/\H3=H2) ((I2.tok _).tok _) ⟨rfl,rfl⟩) λu s3 ai=>?_
 obtain⟨x,H3,I3,r3,q1,q2⟩:= ai;subst q1 q2;obtain⟨t3,rfl⟩:=r3;have e2:(Str.empty++reprText z++a).length<=21000:=by rw[strLen_append,e0];lia
 refine⟨a,t3,rfl,by rw[sizeLine_eq];lia,?_⟩;refine⟨by rw[sizeLine_eq];lia,.str (Str.empty++reprText z++a),H3,I3.tok _,⟨_,rfl⟩,q _⟩
end
section
variable{X:Cx}
def Z9:V->Option Int->Option Int->Hp->VK->Prop:=λx lo hi H Q=>∃z:Str,x=.str z/\(Txt.slice z lo hi).length<=sizeLine/\Q (.str (Txt.slice z lo hi)) H
theorem part_of{v:Value}{o:Option Int}(p:IsPart v o):∃l:Option (Int×Tok),v=partValue l/\l.map (·.1)=o:=by cases p with|none=>exact⟨none,rfl,rfl⟩|int i t=>exact⟨some (i,t),rfl,rfl⟩
theorem U8:SlR X Z9:=by
 intro aa s U H x v vl vu lo hi sl Q I rx hs pl pu h;obtain⟨z,rfl,hz,q⟩:=h;obtain⟨t,rfl⟩:=rx;obtain⟨l,rfl,el⟩:=part_of pl;obtain⟨u,rfl,eu⟩:=part_of pu;refine⟨"str",_,PyProof.Rows.slot_str_getitem.lookup,typeIs_str s z t,?_⟩;refine wpAny_getItem_str_slice (l:=l) (u:=u) (st:=none) hs rfl ?_;have e:Builtin.Str.strSliceIndices lo hi 1 z.length=slicePicked z l u none:=by rw[<- el,<- eu];rfl
 unfold sliceMade;unfold Txt.slice at q hz;rw[e]at q hz;split
 next c=>rw[if_pos (by simpa using c)]at q;exact⟨.str z,H,I,⟨t,rfl⟩,q⟩
 next c=>rw[if_neg (by simpa using c)]at q hz;exact⟨hz,.str _,H,I.tok _,⟨_,rfl⟩,q⟩
end
end L2
namespace FL
open PySem PySem.Spec L2
inductive T where
 |l|o (b:Bool)|int (i:Int)|str (x:Str)
 |tup (ts:List T)|lst (ts:List T)
 |z7 (ts:List T)
 |v (ks:List Key) (ts:List T)|dT (ks:List (List Key)) (ts:List T)
 |ins (C:Addr) (fs:List Str) (ts:List T)
 |dF (ks:List Key) (ts:List T)
 |zS (c:Str)
inductive FO where
 |lst (ts:List T)|v (ks:List Key) (ts:List T)|dT (ks:List (List Key)) (ts:List T)
 |ins (C:Addr) (fs:List Str) (os:List FO)|val (t:T)
 |z0 (os:List FO)|zz (os:List FO)
 |dO (ks:List Key) (os:List FO)|la (p:Addr) (ts:List T)
inductive Sl where
 |val (t:T)|own (o:FO)|bor (o:FO)
abbrev FS:=List (Option Sl)
inductive Rv where
 |t (t:T)|nw (o:FO)|n (i:Nat)
inductive Out(α:Type) where
 |ok (a:α) (fs:FS)|exc (c:Str) (fs:FS)|bad
inductive SO where
 |nx (fs:FS)|ret (r:Rv) (fs:FS)|brk (fs:FS)|cnt (fs:FS)|exc (c:Str) (fs:FS)|bad
structure Wd where
 f:Addr->Prop
 p:Addr->Prop
instance:CoeFun Wd λ_=>Addr->Prop:=⟨Wd.f⟩
structure Le(F:Wd)(H:Hp)(F':Wd)(H':Hp):Prop where
 f:∀a,F a->F' a/\H' a=H a
 p:∀a,F.p a->F'.p a/\H' a=H a
theorem Le.refl{F:Wd}{H:Hp}:Le F H F H:=⟨λ_ h=>⟨h,rfl⟩,λ_ h=>⟨h,rfl⟩⟩
theorem Le.trans{F F1 F2:Wd}{H H1 H2:Hp}(x:Le F H F1 H1)(y:Le F1 H1 F2 H2):Le F H F2 H2 :=
 ⟨λa h=>let⟨p,q⟩:=x.f a h;let⟨p2,q2⟩:=y.f a p;⟨p2,q2.trans q⟩,λa h=>let⟨p,q⟩:=x.p a h;let⟨p2,q2⟩:=y.p a p;⟨p2,q2.trans q⟩⟩
section
variable(K:Fg)
def KL(a:Addr)(vs:List V):Prop:=∃(o:Obj)(ah:Array Value)(n:Nat),K.lookup a=some o/\o.cls=.type "list"/\o.dict=none/\o.data=.seq ah n/\ah.size<=sizeLine/\Vals vs ah.toList
def StL(F:Wd)(H:Hp)(a:Addr)(vs:List V):Prop:=(F a/\Rd H a (.lst vs))\/KL K a vs
def StT(F:Wd)(H:Hp)(a:Addr)(vs:List V):Prop:=K=K/\F a/\H a=some (.tup vs)
end
section
variable{K:Fg}{F F':Wd}{H H':Hp}{a:Addr}{vs:List V}
theorem StL.sq(h:StL K F H a vs):SqL K H a vs:=by
 rcases h with⟨_,h⟩|h
 .exact .inl h
 .exact .inr h
theorem StT.sq(h:StT K F H a vs):SqT K H a vs:=SqT.of h.2.2
theorem Rd.same{u:HO}(h:Rd H a u)(e:H' a=H a):Rd H' a u:=by unfold Rd at *;rw[e];exact h
theorem StL.le(h:StL K F H a vs)(l:Le F H F' H'):StL K F' H' a vs:=by
 rcases h with⟨f,h⟩|h
 .exact .inl ⟨(l.f a f).1,FL.Rd.same h (l.f a f).2⟩
 .exact .inr h
theorem StT.le(h:StT K F H a vs)(l:Le F H F' H'):StT K F' H' a vs:=⟨rfl,(l.f a h.2.1).1,(l.f a h.2.1).2.trans h.2.2⟩
end
noncomputable def Dg(K:Fg)(c:Str):Option Addr:=match nsIn K mainGlobals c with|some (some (.ref C))=>some C|_=>none
section
variable(K:Fg)(F:Wd)(H:Hp)
mutual
def AI:T->V->Prop
 |.l,v=>v=.l
 |.o b,v=>v=.o b
 |.int i,v=>v=.int i
 |.str x,v=>v=.str x
 |.tup ts,v=>∃a vs,v=.ref a/\StT K F H a vs/\Ag ts vs
 |.lst ts,v=>∃a vs,v=.ref a/\F a/\H a=some (.lst vs)/\Ag ts vs
 |.z7 ts,v=>∃a vs,v=.ref a/\StL K F H a vs/\Ag ts vs
 |.v ks ts,v=>∃a af,v=.ref a/\F a/\Rd H a (.v af)/\af.map (·.1)=ks/\Ag ts (af.map (·.2))
 |.dT ks ts,v=>∃a af,v=.ref a/\F a/\H a=some (.dT af)/\af.map (·.1)=ks/\Ag ts (af.map (·.2))
 |.ins C fs ts,v=>∃a dx af,v=.ref a/\F a/\H a=some (.ins C dx af)/\af.map (·.1)=fs/\Ag ts (af.map (·.2))
 |.dF ks ts,v=>∃a af,v=.ref a/\F a/\(∃o,H a=some (.frz o (.v af)))/\af.map (·.1)=ks/\Ag ts (af.map (·.2))
 |.zS c,v=>∃a C,v=.ref a/\F a/\H a=some (exO (.ref C) a)/\Dg K c=some C
def Ag:List T->List V->Prop
 | [],vs=>vs=[]
 |t::ts,vs=>∃v r,vs=v::r/\AI t v/\Ag ts r
end
mutual
def AD:FO->V->List Addr->Prop
 |.val t,v,L=>L=[]/\AI K F H t v
 |.lst ts,v,L=>∃a vs,v=.ref a/\H a=some (.lst vs)/\Ag K F H ts vs/\L=[a]
 |.v ks ts,v,L=>∃a af,v=.ref a/\H a=some (.v af)/\af.map (·.1)=ks/\Ag K F H ts (af.map (·.2))/\L=[a]
 |.dT ks ts,v,L=>∃a af,v=.ref a/\H a=some (.dT af)/\af.map (·.1)=ks/\Ag K F H ts (af.map (·.2))/\L=[a]
 |.ins C fs os,v,L=>∃a dx af L',v=.ref a/\H a=some (.ins C dx af)/\af.map (·.1)=fs/\AA os (af.map (·.2)) L'/\L=a::L'
 |.z0 os,v,L=>∃a vs L',v=.ref a/\H a=some (.lst vs)/\AA os vs L'/\L=a::L'
 |.zz os,v,L=>∃a vs L',v=.ref a/\H a=some (.tup vs)/\AA os vs L'/\L=a::L'
 |.dO ks os,v,L=>∃a af L',v=.ref a/\H a=some (.v af)/\af.map (·.1)=ks/\AA os (af.map (·.2)) L'/\L=a::L'
 |.la p ts,v,L=>∃vs,v=.ref p/\H p=some (.lst vs)/\Ag K F H ts vs/\L=[p]
def AA:List FO->List V->List Addr->Prop
 | [],vs,L=>vs=[]/\L=[]
 |o::os,vs,L=>∃v r L1 L2,vs=v::r/\AD o v L1/\AA os r L2/\L=L1++L2
end
mutual
noncomputable def toT:FO->T
 |.val t=>t
 |.lst ts=>.lst ts
 |.v ks ts=>.v ks ts
 |.dT ks ts=>.dT ks ts
 |.ins C fs os=>.ins C fs (QZ os)
 |.z0 os=>.lst (QZ os)
 |.zz os=>.tup (QZ os)
 |.dO ks os=>.v ks (QZ os)
 |.la _ ts=>.lst ts
noncomputable def QZ:List FO->List T
 | []=>[]
 |o::os=>toT o::QZ os
end
def Ax:FS->St->List Addr->Prop
 | [],U,L=>U=[]/\L=[]
 |none::r,U,L=>∃v ak,U=v::ak/\Ax r ak L
 |some (.val t)::r,U,L=>∃v ak,U=some v::ak/\AI K F H t v/\Ax r ak L
 |some (.own o)::r,U,L=>∃v ak L1 L2,U=some v::ak/\AD K F H o v L1/\Ax r ak L2/\L=L1++L2
 |some (.bor o)::r,U,L=>∃v ak L1 L2,U=some v::ak/\AD K F H o v L1/\Ax r ak L2/\L=L1++L2
end
section
variable{K:Fg}{F F':Wd}{H H':Hp}
mutual
theorem AI.le(l:Le F H F' H'):∀{t:T}{v:V},AI K F H t v->AI K F' H' t v
 |.l,_,h=>h
 |.o _,_,h=>h
 |.int _,_,h=>h
 |.str _,_,h=>h
 |.tup ts,_,h=>by simp only[AI]at h ⊢;obtain⟨a,vs,e,s,r⟩:=h;exact⟨a,vs,e,s.le l,Ag.le l r⟩
 |.lst ts,_,h=>by simp only[AI]at h ⊢;obtain⟨a,vs,e,f,s,r⟩:=h;exact⟨a,vs,e,(l.f a f).1,(l.f a f).2.trans s,Ag.le l r⟩
 |.z7 ts,_,h=>by simp only[AI]at h ⊢;obtain⟨a,vs,e,s,r⟩:=h;exact⟨a,vs,e,s.le l,Ag.le l r⟩
 |.v ks ts,_,h=>by simp only[AI]at h ⊢;obtain⟨a,af,e,f,s,k,r⟩:=h;exact⟨a,af,e,(l.f a f).1,FL.Rd.same s (l.f a f).2,k,Ag.le l r⟩
 |.dT ks ts,_,h=>by simp only[AI]at h ⊢;obtain⟨a,af,e,f,s,k,r⟩:=h;exact⟨a,af,e,(l.f a f).1,(l.f a f).2.trans s,k,Ag.le l r⟩
 |.ins C fs ts,_,h=>by simp only[AI]at h ⊢;obtain⟨a,dx,af,e,f,s,k,r⟩:=h;exact⟨a,dx,af,e,(l.f a f).1,(l.f a f).2.trans s,k,Ag.le l r⟩
 |.dF ks ts,_,h=>by simp only[AI]at h ⊢;obtain⟨a,af,e,f,⟨o,s⟩,k,r⟩:=h;exact⟨a,af,e,(l.f a f).1,⟨o,(l.f a f).2.trans s⟩,k,Ag.le l r⟩
 |.zS c,_,h=>by simp only[AI]at h ⊢;obtain⟨a,C,e,f,s,k⟩:=h;exact⟨a,C,e,(l.f a f).1,(l.f a f).2.trans s,k⟩
theorem Ag.le(l:Le F H F' H'):∀{ts:List T}{vs:List V},Ag K F H ts vs->Ag K F' H' ts vs
 | [],_,h=>h
 |t::ts,_,h=>by simp only[Ag]at h ⊢;obtain⟨v,r,e,h1,h2⟩:=h;exact⟨v,r,e,AI.le l h1,Ag.le l h2⟩
end
theorem Ag.len:∀{ts:List T}{vs:List V},Ag K F H ts vs->vs.length=ts.length
 | [],_,h=>by simp only[Ag]at h;subst h;rfl
 |t::ts,_,h=>by simp only[Ag]at h;obtain⟨v,r,rfl,_,h2⟩:=h;simp[Ag.len h2]
theorem Ag.at:∀{ts:List T}{vs:List V}{i:Nat}{t:T},Ag K F H ts vs->ts[i]?=some t->∃v,vs[i]?=some v/\AI K F H t v
 | [],_,_,_,_,e=>by simp at e
 |t::ts,_,0,_,h,e=>by simp only[Ag]at h;obtain⟨v,r,rfl,h1,_⟩:=h;simp at e;subst e;exact⟨v,rfl,h1⟩
 |t::ts,_,i+1,_,h,e=>by simp only[Ag]at h;obtain⟨v,r,rfl,_,h2⟩:=h;obtain⟨u,e1,e2⟩:=Ag.at (i:=i) h2 (by simpa using e);exact⟨u,by simpa using e1,e2⟩
theorem Ag.app:∀{ts us:List T}{vs ws:List V},Ag K F H ts vs->Ag K F H us ws->Ag K F H (ts++us) (vs++ws)
 | [],_,_,_,h,h'=>by simp only[Ag]at h;subst h;exact h'
 |t::ts,us,_,ws,h,h'=>by simp only[Ag]at h;obtain⟨v,r,rfl,h1,h2⟩:=h;show Ag K F H (t::(ts++us)) (v::(r++ws));simp only[Ag];exact⟨v,r++ws,rfl,h1,Ag.app h2 h'⟩
theorem Ag.one{t:T}{v:V}(h:AI K F H t v):Ag K F H [t] [v]:=by simp only[Ag];exact⟨v,[],rfl,h,rfl⟩
theorem Ag.take:∀{ts:List T}{vs:List V}(n:Nat),Ag K F H ts vs->Ag K F H (ts.take n) (vs.take n)
 | [],_,n,h=>by simp only[Ag]at h;subst h;simp[Ag]
 |t::ts,_,0,h=>by simp[Ag]
 |t::ts,_,n+1,h=>by simp only[Ag]at h;obtain⟨v,r,rfl,h1,h2⟩:=h;simp only[List.take_succ_cons,Ag];exact⟨v,_,rfl,h1,Ag.take n h2⟩
theorem Ag.drop:∀{ts:List T}{vs:List V}(n:Nat),Ag K F H ts vs->Ag K F H (ts.drop n) (vs.drop n)
 | [],_,n,h=>by simp only[Ag]at h;subst h;simp[Ag]
 |t::ts,_,0,h=>by simpa using h
 |t::ts,_,n+1,h=>by simp only[Ag]at h;obtain⟨v,r,rfl,h1,h2⟩:=h;simp only[List.drop_succ_cons];exact Ag.drop n h2
theorem Ag.set{t:T}{v:V}(q:AI K F H t v):∀{ts:List T}{vs:List V}(n:Nat),Ag K F H ts vs->Ag K F H (ts.set n t) (vs.set n v)
 | [],_,n,h=>by simp only[Ag]at h;subst h;simp[Ag]
 |u::ts,_,0,h=>by simp only[Ag]at h;obtain⟨w,r,rfl,h1,h2⟩:=h;simp only[tf,Ag];exact⟨v,r,rfl,q,h2⟩
 |u::ts,_,n+1,h=>by simp only[Ag]at h;obtain⟨w,r,rfl,h1,h2⟩:=h;simp only[tj,Ag];exact⟨w,_,rfl,h1,Ag.set q n h2⟩
theorem Ag.rev:∀{ts:List T}{vs:List V},Ag K F H ts vs->Ag K F H ts.reverse vs.reverse
 | [],_,h=>by simp only[Ag]at h;subst h;simp[Ag]
 |t::ts,_,h=>by simp only[Ag]at h;obtain⟨v,r,rfl,h1,h2⟩:=h;rw[tq,tq];exact Ag.app (Ag.rev h2) (Ag.one h1)
mutual
theorem AD.le(l:Le F H F' H'):∀{o:FO}{v:V}{L:List Addr},(∀a∈L,H' a=H a)->AD K F H o v L->AD K F' H' o v L
 |.val t,_,L,k,h=>by simp only[AD]at h ⊢;exact⟨h.1,h.2.le l⟩
 |.lst ts,_,L,k,h=>by simp only[AD]at h ⊢;obtain⟨a,vs,e,s,r,rfl⟩:=h;exact⟨a,vs,e,(k a (by simp)).trans s,r.le l,rfl⟩
 |.v ks ts,_,L,k,h=>by simp only[AD]at h ⊢;obtain⟨a,vs,e,s,q,r,rfl⟩:=h;exact⟨a,vs,e,(k a (by simp)).trans s,q,r.le l,rfl⟩
 |.dT ks ts,_,L,k,h=>by simp only[AD]at h ⊢;obtain⟨a,vs,e,s,q,r,rfl⟩:=h;exact⟨a,vs,e,(k a (by simp)).trans s,q,r.le l,rfl⟩
 |.ins C fs os,_,L,k,h=>by simp only[AD]at h ⊢;obtain⟨a,dx,af,L',e,s,q,r,rfl⟩:=h;exact⟨a,dx,af,L',e,(k a (by simp)).trans s,q,AA.le l (λb hb=>k b (qt _ hb)) r,rfl⟩
 |.z0 os,_,L,k,h=>by simp only[AD]at h ⊢;obtain⟨a,vs,L',e,s,r,rfl⟩:=h;exact⟨a,vs,L',e,(k a (by simp)).trans s,AA.le l (λb hb=>k b (qt _ hb)) r,rfl⟩
 |.zz os,_,L,k,h=>by simp only[AD]at h ⊢;obtain⟨a,vs,L',e,s,r,rfl⟩:=h;exact⟨a,vs,L',e,(k a (by simp)).trans s,AA.le l (λb hb=>k b (qt _ hb)) r,rfl⟩
 |.dO ks os,_,L,k,h=>by simp only[AD]at h ⊢;obtain⟨a,af,L',e,s,q,r,rfl⟩:=h;exact⟨a,af,L',e,(k a (by simp)).trans s,q,AA.le l (λb hb=>k b (qt _ hb)) r,rfl⟩
 |.la p ts,_,L,k,h=>by simp only[AD]at h ⊢;obtain⟨vs,e,s,r,rfl⟩:=h;exact⟨vs,e,(k p (by simp)).trans s,r.le l,rfl⟩
theorem AA.le(l:Le F H F' H'):∀{os:List FO}{vs:List V}{L:List Addr},(∀a∈L,H' a=H a)->AA K F H os vs L->AA K F' H' os vs L
 | [],_,L,k,h=>h
 |o::os,_,L,k,h=>by simp only[AA]at h ⊢;obtain⟨v,r,L1,L2,e,h1,h2,rfl⟩:=h;exact⟨v,r,L1,L2,e,AD.le l (λa ha=>k a (qG _ ha)) h1,AA.le l (λa ha=>k a (qB _ ha)) h2,rfl⟩
end
mutual
theorem AD.def:∀{o:FO}{v:V}{L:List Addr},AD K F H o v L->∀a∈L,H a≠none
 |.val t,_,L,h,a,m=>by simp only[AD]at h;rw[h.1]at m;cases m
 |.lst ts,_,L,h,a,m=>by simp only[AD]at h;obtain⟨b,vs,e,s,r,rfl⟩:=h;rw[qQ.mp m,s];simp
 |.v ks ts,_,L,h,a,m=>by simp only[AD]at h;obtain⟨b,vs,e,s,q,r,rfl⟩:=h;rw[qQ.mp m,s];simp
 |.dT ks ts,_,L,h,a,m=>by simp only[AD]at h;obtain⟨b,vs,e,s,q,r,rfl⟩:=h;rw[qQ.mp m,s];simp
 |.ins C fs os,_,L,h,a,m=>by
  simp only[AD]at h;obtain⟨b,dx,af,L',e,s,q,r,rfl⟩:=h;rcases qK.mp m with m|m
  .rw[m,s];simp
  .exact AA.def r a m
 |.z0 os,_,L,h,a,m=>by
  simp only[AD]at h;obtain⟨b,vs,L',e,s,r,rfl⟩:=h;rcases qK.mp m with m|m
  .rw[m,s];simp
  .exact AA.def r a m
 |.zz os,_,L,h,a,m=>by
  simp only[AD]at h;obtain⟨b,vs,L',e,s,r,rfl⟩:=h;rcases qK.mp m with m|m
  .rw[m,s];simp
  .exact AA.def r a m
 |.dO ks os,_,L,h,a,m=>by
  simp only[AD]at h;obtain⟨b,vs,L',e,s,q,r,rfl⟩:=h;rcases qK.mp m with m|m
  .rw[m,s];simp
  .exact AA.def r a m
 |.la p ts,_,L,h,a,m=>by simp only[AD]at h;obtain⟨vs,e,s,r,rfl⟩:=h;rw[qQ.mp m,s];simp
theorem AA.def:∀{os:List FO}{vs:List V}{L:List Addr},AA K F H os vs L->∀a∈L,H a≠none
 | [],_,L,h,a,m=>by simp only[AA]at h;rw[h.2]at m;cases m
 |o::os,_,L,h,a,m=>by
  simp only[AA]at h;obtain⟨v,r,L1,L2,e,h1,h2,rfl⟩:=h;rcases qC.mp m with m|m
  .exact AD.def h1 a m
  .exact AA.def h2 a m
end
mutual
theorem AD.frz(l:Le F H F' H):∀{o:FO}{v:V}{L:List Addr},(∀a∈L,F' a)->AD K F H o v L->AI K F' H (toT o) v
 |.val t,_,L,k,h=>by simp only[AD]at h;exact AI.le l h.2
 |.lst ts,_,L,k,h=>by simp only[AD]at h;obtain⟨a,vs,e,s,r,rfl⟩:=h;simp only[toT,AI];exact⟨a,vs,e,k a (by simp),s,Ag.le l r⟩
 |.v ks ts,_,L,k,h=>by simp only[AD]at h;obtain⟨a,vs,e,s,q,r,rfl⟩:=h;simp only[toT,AI];exact⟨a,vs,e,k a (by simp),.inl s,q,Ag.le l r⟩
 |.dT ks ts,_,L,k,h=>by simp only[AD]at h;obtain⟨a,vs,e,s,q,r,rfl⟩:=h;simp only[toT,AI];exact⟨a,vs,e,k a (by simp),s,q,Ag.le l r⟩
 |.ins C fs os,_,L,k,h=>by simp only[AD]at h;obtain⟨a,dx,af,L',e,s,q,r,rfl⟩:=h;simp only[toT,AI];exact⟨a,dx,af,e,k a (by simp),s,q,AA.frz l (λb hb=>k b (qt _ hb)) r⟩
 |.z0 os,_,L,k,h=>by simp only[AD]at h;obtain⟨a,vs,L',e,s,r,rfl⟩:=h;simp only[toT,AI];exact⟨a,vs,e,k a (by simp),s,AA.frz l (λb hb=>k b (qt _ hb)) r⟩
 |.zz os,_,L,k,h=>by simp only[AD]at h;obtain⟨a,vs,L',e,s,r,rfl⟩:=h;simp only[toT,AI];exact⟨a,vs,e,⟨rfl,k a (by simp),s⟩,AA.frz l (λb hb=>k b (qt _ hb)) r⟩
 |.dO ks os,_,L,k,h=>by simp only[AD]at h;obtain⟨a,af,L',e,s,q,r,rfl⟩:=h;simp only[toT,AI];exact⟨a,af,e,k a (by simp),.inl s,q,AA.frz l (λb hb=>k b (qt _ hb)) r⟩
 |.la p ts,_,L,k,h=>by simp only[AD]at h;obtain⟨vs,e,s,r,rfl⟩:=h;simp only[toT,AI];exact⟨p,vs,e,k p (by simp),s,Ag.le l r⟩
theorem AA.frz(l:Le F H F' H):∀{os:List FO}{vs:List V}{L:List Addr},(∀a∈L,F' a)->AA K F H os vs L->Ag K F' H (QZ os) vs
 | [],_,L,k,h=>by simp only[AA]at h;simp only[QZ,Ag];exact h.1
 |o::os,_,L,k,h=>by simp only[AA]at h;obtain⟨v,r,L1,L2,e,h1,h2,rfl⟩:=h;simp only[QZ,Ag];exact⟨v,r,e,AD.frz l (λa ha=>k a (qG _ ha)) h1,AA.frz l (λa ha=>k a (qB _ ha)) h2⟩
end
theorem Ax.len:∀{fs:FS}{U:St}{L:List Addr},Ax K F H fs U L->U.length=fs.length
 | [],_,_,h=>by simp only[Ax]at h;rw[h.1];rfl
 |none::r,_,_,h=>by simp only[Ax]at h;obtain⟨v,ak,rfl,h⟩:=h;simp[Ax.len h]
 |some (.val t)::r,_,_,h=>by simp only[Ax]at h;obtain⟨v,ak,rfl,_,h⟩:=h;simp[Ax.len h]
 |some (.own t)::r,_,_,h=>by simp only[Ax]at h;obtain⟨v,ak,L1,L2,rfl,_,h,_⟩:=h;simp[Ax.len h]
 |some (.bor t)::r,_,_,h=>by simp only[Ax]at h;obtain⟨v,ak,L1,L2,rfl,_,h,_⟩:=h;simp[Ax.len h]
theorem Ax.le(l:Le F H F' H'):∀{fs:FS}{U:St}{L:List Addr},(∀a∈L,H' a=H a)->Ax K F H fs U L->Ax K F' H' fs U L
 | [],_,_,k,h=>h
 |none::r,_,_,k,h=>by simp only[Ax]at h ⊢;obtain⟨v,ak,e,h⟩:=h;exact⟨v,ak,e,Ax.le l k h⟩
 |some (.val t)::r,_,_,k,h=>by simp only[Ax]at h ⊢;obtain⟨v,ak,e,q,h⟩:=h;exact⟨v,ak,e,q.le l,Ax.le l k h⟩
 |some (.own t)::r,_,_,k,h=>by simp only[Ax]at h ⊢;obtain⟨v,ak,L1,L2,e,q,h,rfl⟩:=h;exact⟨v,ak,L1,L2,e,q.le l λa ha=>k a (qG _ ha),Ax.le l (λa ha=>k a (qB _ ha)) h,rfl⟩
 |some (.bor t)::r,_,_,k,h=>by simp only[Ax]at h ⊢;obtain⟨v,ak,L1,L2,e,q,h,rfl⟩:=h;exact⟨v,ak,L1,L2,e,q.le l λa ha=>k a (qG _ ha),Ax.le l (λa ha=>k a (qB _ ha)) h,rfl⟩
theorem Ax.def:∀{fs:FS}{U:St}{L:List Addr},Ax K F H fs U L->∀a∈L,H a≠none
 | [],_,_,h,a,m=>by simp only[Ax]at h;rw[h.2]at m;cases m
 |none::r,_,_,h,a,m=>by simp only[Ax]at h;obtain⟨v,ak,e,h⟩:=h;exact Ax.def h a m
 |some (.val t)::r,_,_,h,a,m=>by simp only[Ax]at h;obtain⟨v,ak,e,q,h⟩:=h;exact Ax.def h a m
 |some (.own t)::r,_,_,h,a,m=>by
  simp only[Ax]at h;obtain⟨v,ak,L1,L2,e,q,h,rfl⟩:=h;rcases qC.mp m with m|m
  .exact q.def a m
  .exact Ax.def h a m
 |some (.bor t)::r,_,_,h,a,m=>by
  simp only[Ax]at h;obtain⟨v,ak,L1,L2,e,q,h,rfl⟩:=h;rcases qC.mp m with m|m
  .exact q.def a m
  .exact Ax.def h a m
def J8(K:Fg)(F:Wd)(H:Hp):Option Sl->Option V->List Addr->Prop
 |none,_,L=>L=[]
 |some (.val t),v,L=>∃u,v=some u/\AI K F H t u/\L=[]
 |some (.own o),v,L=>∃u,v=some u/\AD K F H o u L
 |some (.bor o),v,L=>∃u,v=some u/\AD K F H o u L
theorem Ax.cons{s:Option Sl}{r:FS}{v:Option V}{U:St}{L1 L2:List Addr}(h1:J8 K F H s v L1)(h2:Ax K F H r U L2):Ax K F H (s::r) (v::U) (L1++L2):=by cases s with|none =>simp only[J8]at h1;subst h1;simp only[Ax];exact⟨v,U,rfl,h2⟩|some s =>cases s with|val t =>simp only[J8]at h1;obtain⟨u,rfl,q,rfl⟩:=h1;simp only[Ax];exact⟨u,U,rfl,q,h2⟩|own o =>simp only[J8]at h1;obtain⟨u,rfl,q⟩:=h1;simp only[Ax];exact⟨u,U,L1,L2,rfl,q,h2,rfl⟩|bor o =>simp only[J8]at h1;obtain⟨u,rfl,q⟩:=h1;simp only[Ax];exact⟨u,U,L1,L2,rfl,q,h2,rfl⟩
theorem Ax.Ie{s:Option Sl}{r:FS}{U:St}{L:List Addr}(h:Ax K F H (s::r) U L):∃v ak L1 L2,U=v::ak/\J8 K F H s v L1/\Ax K F H r ak L2/\L=L1++L2:=by cases s with|none =>simp only[Ax]at h;obtain⟨v,ak,rfl,h⟩:=h;exact⟨v,ak,[],L,rfl,rfl,h,rfl⟩|some s =>cases s with|val t =>simp only[Ax]at h;obtain⟨v,ak,rfl,q,h⟩:=h;exact⟨some v,ak,[],L,rfl,⟨v,rfl,q,rfl⟩,h,rfl⟩|own o =>simp only[Ax]at h;obtain⟨v,ak,L1,L2,rfl,q,h,rfl⟩:=h;exact⟨some v,ak,L1,L2,rfl,⟨v,rfl,q⟩,h,rfl⟩|bor o =>simp only[Ax]at h;obtain⟨v,ak,L1,L2,rfl,q,h,rfl⟩:=h;exact⟨some v,ak,L1,L2,rfl,⟨v,rfl,q⟩,h,rfl⟩
theorem Ax.pick:∀{fs:FS}{U:St}{L:List Addr}{i:Nat}{s:Option Sl},Ax K F H fs U L->fs[i]?=some s->∃v L1 L2 L3,U[i]?=some v/\L=L1++(L2++L3)/\J8 K F H s v L2 /\
  ∀(F':Wd)(H':Hp)(s':Option Sl)(v':Option V)(gH:List Addr),Le F H F' H'->(∀a∈L1++L3,H' a=H a)->J8 K F' H' s' v' gH->Ax K F' H' (fs.set i s') (U.set i v') (L1++(gH++L3))
 | [],_,_,_,_,_,e=>by simp at e
 |s::r,_,_,0,_,h,e=>by obtain⟨v,ak,L1,L2,rfl,h1,h2,rfl⟩:=h.Ie;simp at e;subst e;refine⟨v,[],L1,L2,rfl,rfl,h1,λF' H' s' v' gH l k q=>?_⟩;have h3:=Ax.cons q (h2.le l λa ha=>k a (by simpa using ha));exact h3
 |s::r,_,_,i+1,_,h,e=>by
  obtain⟨v,ak,L1,L2,rfl,h1,h2,rfl⟩:=h.Ie;obtain⟨w,M1,M2,M3,e1,rfl,h3,h4⟩:=Ax.pick (i:=i) h2 (by simpa using e);refine⟨w,L1++M1,M2,M3,by simpa using e1,by simp,h3,λF' H' s' v' gH l k q=>?_⟩;have h5:=h4 F' H' s' v' gH l (λa ha=>k a (by simp at ha ⊢;rcases ha with ha|ha;exact .inr (.inl ha);exact .inr (.inr ha))) q;have h6:J8 K F' H' s v L1:=by cases s with|none=>exact h1|some s =>cases s with|val t =>obtain⟨u,e,q,z⟩:=h1;exact⟨u,e,q.le l,z⟩|own o =>obtain⟨u,e,q⟩:=h1;exact⟨u,e,q.le l λa ha=>k a (by simp[ha])⟩|bor o =>obtain⟨u,e,q⟩:=h1;exact⟨u,e,q.le l λa ha=>k a (by simp[ha])⟩
  have h7:=Ax.cons h6 h5;simpa using h7
mutual
theorem AI.wp{p:Addr->Prop}:∀{t:T}{v:V},AI K F H t v->AI K ⟨F.f,p⟩ H t v
 |.l,_,h=>h
 |.o _,_,h=>h
 |.int _,_,h=>h
 |.str _,_,h=>h
 |.tup ts,_,h=>by simp only[AI]at h ⊢;obtain⟨a,vs,e,s,r⟩:=h;exact⟨a,vs,e,s,Ag.wp r⟩
 |.lst ts,_,h=>by simp only[AI]at h ⊢;obtain⟨a,vs,e,f,s,r⟩:=h;exact⟨a,vs,e,f,s,Ag.wp r⟩
 |.z7 ts,_,h=>by simp only[AI]at h ⊢;obtain⟨a,vs,e,s,r⟩:=h;exact⟨a,vs,e,s,Ag.wp r⟩
 |.v ks ts,_,h=>by simp only[AI]at h ⊢;obtain⟨a,af,e,f,s,k,r⟩:=h;exact⟨a,af,e,f,s,k,Ag.wp r⟩
 |.dT ks ts,_,h=>by simp only[AI]at h ⊢;obtain⟨a,af,e,f,s,k,r⟩:=h;exact⟨a,af,e,f,s,k,Ag.wp r⟩
 |.ins C fs ts,_,h=>by simp only[AI]at h ⊢;obtain⟨a,dx,af,e,f,s,k,r⟩:=h;exact⟨a,dx,af,e,f,s,k,Ag.wp r⟩
 |.dF ks ts,_,h=>by simp only[AI]at h ⊢;obtain⟨a,af,e,f,s,k,r⟩:=h;exact⟨a,af,e,f,s,k,Ag.wp r⟩
 |.zS c,_,h=>by simp only[AI]at h ⊢;obtain⟨a,C,e,f,s,k⟩:=h;exact⟨a,C,e,f,s,k⟩
theorem Ag.wp{p:Addr->Prop}:∀{ts:List T}{vs:List V},Ag K F H ts vs->Ag K ⟨F.f,p⟩ H ts vs
 | [],_,h=>h
 |t::ts,_,h=>by simp only[Ag]at h ⊢;obtain⟨v,r,e,h1,h2⟩:=h;exact⟨v,r,e,AI.wp h1,Ag.wp h2⟩
end
mutual
theorem AD.wp{p:Addr->Prop}:∀{o:FO}{v:V}{L:List Addr},AD K F H o v L->AD K ⟨F.f,p⟩ H o v L
 |.val t,_,L,h=>by simp only[AD]at h ⊢;exact⟨h.1,h.2.wp⟩
 |.lst ts,_,L,h=>by simp only[AD]at h ⊢;obtain⟨a,vs,e,s,r,q⟩:=h;exact⟨a,vs,e,s,r.wp,q⟩
 |.v ks ts,_,L,h=>by simp only[AD]at h ⊢;obtain⟨a,vs,e,s,q,r,z⟩:=h;exact⟨a,vs,e,s,q,r.wp,z⟩
 |.dT ks ts,_,L,h=>by simp only[AD]at h ⊢;obtain⟨a,vs,e,s,q,r,z⟩:=h;exact⟨a,vs,e,s,q,r.wp,z⟩
 |.ins C fs os,_,L,h=>by simp only[AD]at h ⊢;obtain⟨a,dx,af,L',e,s,q,r,z⟩:=h;exact⟨a,dx,af,L',e,s,q,AA.wp r,z⟩
 |.z0 os,_,L,h=>by simp only[AD]at h ⊢;obtain⟨a,vs,L',e,s,r,z⟩:=h;exact⟨a,vs,L',e,s,AA.wp r,z⟩
 |.zz os,_,L,h=>by simp only[AD]at h ⊢;obtain⟨a,vs,L',e,s,r,z⟩:=h;exact⟨a,vs,L',e,s,AA.wp r,z⟩
 |.dO ks os,_,L,h=>by simp only[AD]at h ⊢;obtain⟨a,vs,L',e,s,q,r,z⟩:=h;exact⟨a,vs,L',e,s,q,AA.wp r,z⟩
 |.la p ts,_,L,h=>by simp only[AD]at h ⊢;obtain⟨vs,e,s,r,z⟩:=h;exact⟨vs,e,s,r.wp,z⟩
theorem AA.wp{p:Addr->Prop}:∀{os:List FO}{vs:List V}{L:List Addr},AA K F H os vs L->AA K ⟨F.f,p⟩ H os vs L
 | [],_,L,h=>h
 |o::os,_,L,h=>by simp only[AA]at h ⊢;obtain⟨v,r,L1,L2,e,h1,h2,z⟩:=h;exact⟨v,r,L1,L2,e,AD.wp h1,AA.wp h2,z⟩
end
theorem Ax.wp{p:Addr->Prop}:∀{fs:FS}{U:St}{L:List Addr},Ax K F H fs U L->Ax K ⟨F.f,p⟩ H fs U L
 | [],_,_,h=>h
 |none::r,_,_,h=>by simp only[Ax]at h ⊢;obtain⟨v,ak,e,h⟩:=h;exact⟨v,ak,e,Ax.wp h⟩
 |some (.val t)::r,_,_,h=>by simp only[Ax]at h ⊢;obtain⟨v,ak,e,q,h⟩:=h;exact⟨v,ak,e,q.wp,Ax.wp h⟩
 |some (.own t)::r,_,_,h=>by simp only[Ax]at h ⊢;obtain⟨v,ak,L1,L2,e,q,h,z⟩:=h;exact⟨v,ak,L1,L2,e,q.wp,Ax.wp h,z⟩
 |some (.bor t)::r,_,_,h=>by simp only[Ax]at h ⊢;obtain⟨v,ak,L1,L2,e,q,h,z⟩:=h;exact⟨v,ak,L1,L2,e,q.wp,Ax.wp h,z⟩
theorem J8.le(l:Le F H F' H'){s:Option Sl}{v:Option V}{L:List Addr}(k:∀a∈L,H' a=H a)(h:J8 K F H s v L):J8 K F' H' s v L:=by cases s with|none=>exact h|some s =>cases s with|val t =>obtain⟨u,e,q,z⟩:=h;exact⟨u,e,q.le l,z⟩|own o =>obtain⟨u,e,q⟩:=h;exact⟨u,e,q.le l k⟩|bor o =>obtain⟨u,e,q⟩:=h;exact⟨u,e,q.le l k⟩
end
def EF(B:Nat->Option V)(fs:FS)(U:St):Prop:=∀(i:Nat)(o:FO),fs[i]?=some (some (.bor o))->∃v,U[i]?=some (some v)/\B i=some v
structure Ok(K:Fg)(F:Wd)(B:Nat->Option V)(H:Hp)(fs:FS)(U:St)(L:List Addr):Prop where
 sl:Ax K F H fs U L
 nd:L.Nodup
 nf:∀a∈L,¬F a
 fd:∀a,F a->H a≠none
 bo:EF B fs U
 pd:∀a,F.p a->H a≠none
 pf:∀a,F a->¬F.p a
 pl:∀a∈L,¬F.p a
def Okk(K:Fg)(F:Wd)(B:Nat->Option V)(H:Hp)(fs:FS)(U:St):Prop:=∃L,Ok K F B H fs U L
structure Xp where
 p:Wd->(Nat->Option V)->Hp->Str->FS->Prop
 mono:∀{F:Wd}{B:Nat->Option V}{H:Hp}{c:Str}{fs:FS}{F':Wd}{H':Hp},p F B H c fs->Le F H F' H'->p F' B H' c fs
noncomputable def Xp.no:Xp:=⟨λ_ _ _ _ _=>False,λh _=>h⟩
def sat(Z:Xp)(B:Nat->Option V){α β:Type}(R:Wd->Hp->FS->α->β->Prop)(F:Wd)(H:Hp)(o:Out α)(Q:β->Hp->Prop):Prop :=
 match o with|.ok a fs=>∀F' H' b,Le F H F' H'->R F' H' fs a b->Q b H'|.exc c fs=>Z.p F B H c fs|.bad=>False
theorem sat.le{Z:Xp}{B:Nat->Option V}{α β:Type}{R:Wd->Hp->FS->α->β->Prop}{F F':Wd}{H H':Hp}{o:Out α}{Q:β->Hp->Prop}(h:sat Z B R F H o Q)(l:Le F H F' H'):sat Z B R F' H' o Q:=by
 cases o with
 |ok a fs=>exact λF2 H2 b l2 r=>h F2 H2 b (l.trans l2) r
 |exc c fs=>exact Z.mono h l
 |bad=>exact h
noncomputable def Out.bind{α β:Type}(o:Out α)(k:α->FS->Out β):Out β:=match o with|.ok a fs=>k a fs|.exc c fs=>.exc c fs|.bad=>.bad
theorem AL{Z:Xp}{B:Nat->Option V}{α β γ δ:Type}{R1:Wd->Hp->FS->α->β->Prop}{R2:Wd->Hp->FS->γ->δ->Prop}{F:Wd}{H:Hp}{o:Out α}{k:α->FS->Out γ}{Q:δ->Hp->Prop}{Q':β->Hp->Prop}
  (h:sat Z B R2 F H (o.bind k) Q) (hk:∀a fs F' H' b,Le F H F' H'->R1 F' H' fs a b->sat Z B R2 F' H' (k a fs) Q->Q' b H'):sat Z B R1 F H o Q':=by
 cases o with
 |ok a fs=>exact λF2 H2 b l r=>hk a fs F2 H2 b l r (sat.le h l)
 |exc c fs=>exact h
 |bad=>exact h
def Md(K:Fg)(F:Wd)(H:Hp)(U:St):Rv->V->List Addr->Prop
 |.t t,v,L=>L=[]/\AI K F H t v
 |.nw o,v,L=>AD K F H o v L
 |.n i,v,L=>L=[]/\U[i]?=some (some v)
def RR(K:Fg)(B:Nat->Option V)(U:St):Wd->Hp->FS->Rv->V->Prop:=λF H fs r u=>∃L L',Ok K F B H fs U L/\Md K F H U r u L'/\(L++L').Nodup/\∀a∈L',¬F a/\¬F.p a
def B1(K:Fg)(F:Wd)(H:Hp)(U:St):Rv->V->Prop
 |.t t,v=>AI K F H t v
 |.nw _,_=>False
 |.n i,v=>U[i]?=some (some v)
noncomputable def Out.bnd{α:Type}(o:Out Rv)(k:Rv->FS->Out α):Out α:=o.bind λr fs=>match r with|.nw _=>.bad|.t t=>k (.t t) fs|.n i=>k (.n i) fs
section
variable{K:Fg}{Z:Xp}{B:Nat->Option V}{F F':Wd}{H H':Hp}{U:St}{fs:FS}{r:Rv}{u:V}
theorem B1.le(h:B1 K F H U r u)(l:Le F H F' H'):B1 K F' H' U r u:=by cases r with|t t=>exact AI.le l h|nw o=>exact h|n i=>exact h
theorem RR.of(h:Okk K F B H fs U)(q:B1 K F H U r u):RR K B U F H fs r u:=by obtain⟨L,h⟩:=h;refine⟨L,[],h,?_,by simpa using h.nd,(λ_ m=>nomatch m)⟩;cases r with|t t=>exact⟨rfl,q⟩|nw o=>exact q.elim|n i=>exact⟨rfl,q⟩
theorem RR.ok(h:RR K B U F H fs r u):Okk K F B H fs U:=let⟨L,_,h,_⟩:=h;⟨L,h⟩
theorem AQ{γ δ:Type}{R2:Wd->Hp->FS->γ->δ->Prop}{o:Out Rv}{k:Rv->FS->Out γ}{Q:δ->Hp->Prop}{Q':V->Hp->Prop}
  (h:sat Z B R2 F H (o.bnd k) Q) (hk:∀r fs F' H' u,Le F H F' H'->Okk K F' B H' fs U->B1 K F' H' U r u->sat Z B R2 F' H' (k r fs) Q->Q' u H'):sat Z B (RR K B U) F H o Q':=by
 refine AL h λr fs F' H' u l q s=>?_
 cases r with|t t =>obtain⟨L,L',q1,q2,_⟩:=q;exact hk (.t t) fs F' H' u l ⟨L,q1⟩ q2.2 s|nw o=>exact s.elim|n i =>obtain⟨L,L',q1,q2,_⟩:=q;exact hk (.n i) fs F' H' u l ⟨L,q1⟩ q2.2 s
end
def tF(K:Fg)(Z:Xp)(f:FS->Out Rv):TE:=λU H Q=>∃F B fs,Okk K F B H fs U/\sat Z B (RR K B U) F H (f fs) Q
def RB(K:Fg)(B:Nat->Option V)(U:St):Wd->Hp->FS->Bool->Bool->Prop:=λF H fs b b'=>Okk K F B H fs U/\b'=b
def tT(K:Fg)(Z:Xp)(f:FS->Out Bool):TT:=λU H Q=>∃F B fs,Okk K F B H fs U/\sat Z B (RB K B U) F H (f fs) Q
def HW(K:Fg)(F:Wd)(H:Hp)(U:St):List Rv->List V->Prop
 | [],vs=>vs=[]
 |r::rs,vs=>∃v w,vs=v::w/\B1 K F H U r v/\HW K F H U rs w
def RA(K:Fg)(B:Nat->Option V)(U:St):Wd->Hp->FS->List Rv->List V->Prop:=λF H fs rs vs=>Okk K F B H fs U/\HW K F H U rs vs
def tA(K:Fg)(Z:Xp)(f:FS->Out (List Rv)):TA:=λU H Q=>∃F B fs,Okk K F B H fs U/\sat Z B (RA K B U) F H (f fs) Q
def FE(X:Cx)(Z:Xp)(e:Expr)(f:FS->Out Rv):Prop:=PE X e (tF X.K Z f)
def FT(X:Cx)(Z:Xp)(e:Expr)(f:FS->Out Bool):Prop:=PT X e (tT X.K Z f)
def FA(X:Cx)(Z:Xp)(es:List Expr)(f:FS->Out (List Rv)):Prop:=PA X es (tA X.K Z f)
theorem A5{X:Cx}{e:Expr}{t t':TE}(h:PE X e t)(i:∀U H Q,t' U H Q->t U H Q):PE X e t':=λaa s U H Q I q=>h aa s U H Q I (i _ _ _ q)
theorem FN{X:Cx}{e:Expr}{t t':TT}(h:PT X e t)(i:∀U H Q,t' U H Q->t U H Q):PT X e t':=λaa s U H Q I q=>h aa s U H Q I (i _ _ _ q)
theorem Ku{X:Cx}{e:List Expr}{t t':TA}(h:PA X e t)(i:∀U H Q,t' U H Q->t U H Q):PA X e t':=λpos aa s U H Q I q=>h pos aa s U H Q I (i _ _ _ q)
theorem BS{X:Cx}{e:Stmt}{t t':TS}(h:PS X e t)(i:∀D U H,t' D U H->t D U H):PS X e t':=λaa s U H D I q=>h aa s U H D I (i _ _ _ q)
theorem MN{X:Cx}{e:List Stmt}{t t':TS}(h:PSs X e t)(i:∀D U H,t' D U H->t D U H):PSs X e t':=λaa s U H D I q=>h aa s U H D I (i _ _ _ q)
section
variable{K:Fg}{B:Nat->Option V}{F:Wd}{H:Hp}{U:St}{fs:FS}{p:Addr}{o:HO}
noncomputable def OP(F:Wd)(p:Addr):Wd:=⟨λa=>F a\/a=p,F.p⟩
theorem Bs(h:Okk K F B H fs U)(hp:H p=none):Le F H (OP F p) (upd H p o) :=
 let⟨_,h⟩:=h
 ⟨λa f=>⟨.inl f,Am λe=>h.fd a f (e▸hp)⟩,λa f=>⟨f,Am λe=>h.pd a f (e▸hp)⟩⟩
theorem Bi(h:Okk K F B H fs U)(hp:H p=none):Le F H F (upd H p o) :=
 let⟨_,h⟩:=h
 ⟨λa f=>⟨f,Am λe=>h.fd a f (e▸hp)⟩,λa f=>⟨f,Am λe=>h.pd a f (e▸hp)⟩⟩
theorem Dz{a:Addr}(h:H a≠none):upd H p o a≠none:=by
 by_cases e:a=p
 .subst e;rw[Az];simp
 .rw[Am e];exact h
theorem Ok.Te{L:List Addr}(h:Ok K F B H fs U L)(hp:H p=none):∀a∈L,(upd H p o) a=H a:=λa m=>Am λe=>h.sl.def a m (e▸hp)
theorem Okk.fd(h:Okk K F B H fs U):∀a,F a->H a≠none:=let⟨_,h⟩:=h;h.fd
theorem Okk.alloc(h:Okk K F B H fs U)(hp:H p=none):Okk K (OP F p) B (upd H p o) fs U:=by
 obtain⟨L,h⟩:=h;refine⟨L,h.sl.le (Bs ⟨L,h⟩ hp) (h.Te hp),h.nd,λa m q=>?_,λa q=>?_,h.bo,λa q=>Dz (h.pd a q),λa q z=>?_,h.pl⟩
 rotate_left 2
 .rcases q with q|q
  .exact h.pf a q z
  .exact h.pd a z (q▸hp)
 .rcases q with q|q
  .exact h.nf a m q
  .exact h.sl.def a m (q▸hp)
 .rcases q with q|q
  .exact Dz (h.fd a q)
  .rw[q,Az];simp
theorem RR.alloc{ob:FO}(h:Okk K F B H fs U)(hp:H p=none)(q:AD K F (upd H p o) ob (.ref p) [p]):RR K B U F (upd H p o) fs (.nw ob) (.ref p):=by
 obtain⟨L,h⟩:=h;refine⟨L,[p],⟨h.sl.le (Bi ⟨L,h⟩ hp) (h.Te hp),h.nd,h.nf,λa q=>Dz (h.fd a q),h.bo,λa q=>Dz (h.pd a q),h.pf,h.pl⟩,q,?_,λa m=>?_⟩
 .rw[qp];exact⟨h.nd,by simp,λa ma b mb e=>h.sl.def a ma (by rw[e,qQ.mp mb];exact hp)⟩
 .rw[qQ.mp m];exact⟨λf=>h.fd p f hp,λf=>h.pd p f hp⟩
end
noncomputable def Sl.put:Sl->FO->Sl
 |.own _,o=>.own o
 |.bor _,o=>.bor o
 |.val t,_=>.val t
noncomputable def AM(fs:FS)(i:Nat):Option FO:=match fs[i]? with|some (some (.own o))=>some o|some (some (.bor o))=>some o|_=>none
noncomputable def putAt(fs:FS)(i:Nat)(o:FO):FS:=match fs[i]? with|some (some s)=>fs.set i (some (s.put o))|_=>fs
section
variable{K:Fg}{B:Nat->Option V}{F F':Wd}{H H':Hp}{U:St}{fs:FS}{i:Nat}{ob:FO}
theorem EF.put{s:Option Sl}{v:Option V}(h:EF B fs U)(hs:∀o,s=some (.bor o)->∃u,v=some u/\B i=some u)(hl:U.length=fs.length):EF B (fs.set i s) (U.set i v):=by
 intro j o e;by_cases hj:i=j
 .subst hj;have hi:i<fs.length:=by have:=(qN.mp e).1;simpa using this
  rw[rM hi]at e;obtain⟨u,e1,e2⟩:=hs o (by simpa using e);exact⟨u,by rw[rM (by lia),e1],e2⟩
 .rw[rR hj]at e;obtain⟨v,e1,e2⟩:=h j o e;exact⟨v,by rw[rR hj];exact e1,e2⟩
theorem Bv{α:Type}{l:List α}{i:Nat}{x:α}(h:l[i]?=some x):l.set i x=l:=by
 apply sI;intro j;by_cases hj:i=j
 .subst hj;rw[rM (qN.mp h).1,h]
 .rw[rR hj]
theorem BU{L1 L2 L3 M:List Addr}(h:(L1++(L2++L3)).Nodup)(hm:M.Nodup)(d:∀a∈M,a∉L1++L3):(L1++(M++L3)).Nodup:=by
 rw[qp]at h ⊢;obtain⟨h1,h2,h3⟩:=h;rw[qp]at h2;obtain⟨h4,h5,h6⟩:=h2;refine⟨h1,?_,λa ha b hb e=>?_⟩
 .rw[qp];exact⟨hm,h5,λa ha b hb e=>d a ha (by rw[e];exact qB _ hb)⟩
 .rcases qC.mp hb with hb|hb
  .exact d b hb (by rw[<- e];exact qG _ ha)
  .exact h3 a ha b (qB _ hb) e
theorem Okk.own(h:Okk K F B H fs U)(e:AM fs i=some ob):∃v L2,U[i]?=some (some v)/\AD K F H ob v L2/\(∀a∈L2,¬F a/\¬F.p a)/\L2.Nodup /\
  ∀aJ H',(∀a,a∉L2->H a≠none->H' a=H a)->AD K F H' aJ v L2->Okk K F B H' (putAt fs i aJ) U/\Le F H F H':=by
 obtain⟨L,h⟩:=h;have key:∀s:Sl,fs[i]?=some (some s)->(s=.own ob\/s=.bor ob)->∃v L2,U[i]?=some (some v)/\AD K F H ob v L2/\(∀a∈L2,¬F a/\¬F.p a)/\L2.Nodup /\
  ∀aJ H',(∀a,a∉L2->H a≠none->H' a=H a)->AD K F H' aJ v L2->Okk K F B H' (fs.set i (some (s.put aJ))) U/\Le F H F H':=by
  intro s es ho;obtain⟨v,L1,L2,L3,e1,rfl,h1,h2⟩:=h.sl.pick es;obtain⟨u,rfl,q⟩:∃u,v=some u/\AD K F H ob u L2:=by
   rcases ho with rfl|rfl
   .exact h1
   .exact h1
  have nd:=h.nd;have cV:∀a∈L1++L3,a∉L2:=λa ha hb=>by
   rw[qp]at nd;rcases qC.mp ha with ha|ha
   .exact nd.2.2 a ha a (qG _ hb) rfl
   .have:=(qp.mp nd.2.1).2.2;exact this a hb a ha rfl
  refine⟨u,L2,e1,q,λa m=>⟨h.nf a (by simp[m]),h.pl a (by simp[m])⟩,?_,λaJ H' k q'=>?_⟩
  .rw[qp]at nd;exact(qp.mp nd.2.1).1
  .have l:Le F H F H':=⟨λa f=>⟨f,k a (λm=>h.nf a (by simp[m]) f) (h.fd a f)⟩,λa f=>⟨f,k a (λm=>h.pl a (by simp[m]) f) (h.pd a f)⟩⟩
   refine⟨⟨L1++(L2++L3),?_,nd,h.nf,λa f=>by rw[(l.f a f).2];exact h.fd a f,?_,λa f=>by rw[(l.p a f).2];exact h.pd a f,h.pf,h.pl⟩,l⟩
   .have hL:∀a∈L1++L3,H' a=H a:=λa m=>k a (cV a m) (h.sl.def a (by
      rcases qC.mp m with m|m
      .simp[m]
      .simp[m]))
    have h3:=h2 F H' (some (s.put aJ)) (some u) L2 l hL (by
     rcases ho with rfl|rfl
     .exact⟨u,rfl,q'⟩
     .exact⟨u,rfl,q'⟩)
    rwa[Bv e1]at h3
   .have:=EF.put (i:=i) (s:=some (s.put aJ)) (v:=some u) h.bo (λo eo=>by
     rcases ho with rfl|rfl
     .cases eo
     .obtain⟨w,e3,e4⟩:=h.bo i ob es;rw[e1]at e3;have e5:u=w:=by simpa using e3
      exact⟨u,rfl,by rw[e5];exact e4⟩) h.sl.len
    rwa[Bv e1]at this
 unfold AM at e;split at e
 next o es=>cases e;obtain⟨v,L2,a1,a2,a3,a4,a5⟩:=key _ es (.inl rfl);refine⟨v,L2,a1,a2,a3,a4,λaJ H' k q=>?_⟩;have:=a5 aJ H' k q;unfold putAt;rw[es];exact this
 next o es=>cases e;obtain⟨v,L2,a1,a2,a3,a4,a5⟩:=key _ es (.inr rfl);refine⟨v,L2,a1,a2,a3,a4,λaJ H' k q=>?_⟩;have:=a5 aJ H' k q;unfold putAt;rw[es];exact this
 .cases e
end
noncomputable def Ab(i:Nat):FS->Out Rv:=λfs=>match fs[i]? with|some (some (.val t))=>.ok (.t t) fs|some (some (.own _))=>.ok (.n i) fs|some (some (.bor _))=>.ok (.n i) fs|_=>.bad
noncomputable def gc(t:T):FS->Out Rv:=λfs=>.ok (.t t) fs
section
variable{X:Cx}{Z:Xp}{e:Expr}
theorem Jao(i:Nat){x:Str}{pos:Pos}(hN:X.N[i]?=some x:=by rfl)(hv:Vis X.env.scope x:=by first|exact Or.inl rfl|exact Or.inr (Or.inl rfl)|exact Or.inr (Or.inr rfl))(hd:(x==("__debug__":Str))=false:=by decide)
  (bD:(x==("__classdict__":Str))=false:=by decide):FE X Z (.Name x pos) (Ab i):=by
 refine A5 (pv i hN hv hd bD) λU H Q h=>?_
 obtain⟨F,B,fs,ok,s⟩:=h;obtain⟨L,o⟩:=id ok;unfold Ab at s;split at s
 next t es=>obtain⟨v,L1,L2,L3,e1,_,h1,_⟩:=o.sl.pick es;obtain⟨u,rfl,q,_⟩:=h1;exact⟨u,e1,s F H u Le.refl (RR.of ok q)⟩
 next t es=>obtain⟨v,L1,L2,L3,e1,_,h1,_⟩:=o.sl.pick es;obtain⟨u,rfl,q⟩:=h1;exact⟨u,e1,s F H u Le.refl (RR.of ok e1)⟩
 next t es=>obtain⟨v,L1,L2,L3,e1,_,h1,_⟩:=o.sl.pick es;obtain⟨u,rfl,q⟩:=h1;exact⟨u,e1,s F H u Le.refl (RR.of ok e1)⟩
 .exact s.elim
theorem UN{v:V}(t:T)(h:PE X e (tC v))(r:∀K F H,AI K F H t v):FE X Z e (gc t) :=
 A5 h λU H Q ⟨F,B,fs,ok,s⟩=>s F H v Le.refl (RR.of ok (r _ _ _))
theorem Xa{i j pos}:FE X Z (.Constant (.int i) j pos) (gc (.int i)):=UN _ Kt λ_ _ _=>rfl
theorem Zs{b j pos}:FE X Z (.Constant (.bool b) j pos) (gc (.o b)):=UN _ YB λ_ _ _=>rfl
theorem WY{j pos}:FE X Z (.Constant .none j pos) (gc .l):=UN _ Vz λ_ _ _=>rfl
theorem WV{x j pos}:FE X Z (.Constant (.str x) j pos) (gc (.str x)):=UN _ MV λ_ _ _=>rfl
theorem Zo{x:Str}{pos:Pos}{i:Int}(h:∃t,X.mg x=some (.int i t))(hg:Gl X x:=by rfl)(hd:(x==("__debug__":Str))=false:=by decide):FE X Z (.Name x pos) (gc (.int i)):=UN _ (Yz h hg hd) λ_ _ _=>rfl
theorem Zn{x:Str}{pos:Pos}{z:Str}(h:∃t,X.mg x=some (.str z t))(hg:Gl X x:=by rfl)(hd:(x==("__debug__":Str))=false:=by decide):FE X Z (.Name x pos) (gc (.str z)):=UN _ (Yy h hg hd) λ_ _ _=>rfl
end
noncomputable def fz(f:FS->Out Rv):FS->Out Rv:=λfs=>(f fs).bind λr fs=>match r with|.t t=>.ok (.t t) fs|.nw o=>.ok (.t (toT o)) fs|.n i=>match fs[i]? with|some (some (.own o))=>.ok (.t (toT o)) (fs.set i (some (.val (toT o))))|_=>.bad
section
variable{X:Cx}{Z:Xp}{e:Expr}{f:FS->Out Rv}
noncomputable def QP(F:Wd)(L:List Addr):Wd:=⟨λa=>F a\/a∈L,F.p⟩
theorem orF{F:Wd}{L:List Addr}{H:Hp}:Le F H (QP F L) H:=⟨λ_ f=>⟨.inl f,rfl⟩,λ_ f=>⟨f,rfl⟩⟩
theorem Zq(h:FE X Z e f):FE X Z e (fz f):=by
 refine A5 h λU H Q ai => ?_
 obtain⟨F,B,fs,ok,s⟩:= ai;refine⟨F,B,fs,ok,?_⟩;refine AL s λr fs F' H' u l q s=>?_
 cases r with
 |t t=>exact s F' H' u Le.refl q
 |nw o =>
  obtain⟨L,L',o1,q,nd,nf⟩:=q;refine s (QP F' L') H' u orF (RR.of ⟨L,?_⟩ (AD.frz orF (λa m=>.inr m) q));refine⟨o1.sl.le orF λ_ _=>rfl,o1.nd,λa m z=>?_,λa z=>?_,o1.bo,o1.pd,λa z=>?_,o1.pl⟩
  .rcases z with z|z
   .exact o1.nf a m z
   .exact(qp.mp nd).2.2 a m a z rfl
  .rcases z with z|z
   .exact o1.fd a z
   .exact AD.def q a z
  .rcases z with z|z
   .exact o1.pf a z
   .exact(nf a z).2
 |n i =>
  dsimp only at s;split at s
  .rename_i o es;obtain⟨L,L',o1,⟨_,q⟩,nd,nf⟩:=q;obtain⟨v,L1,L2,L3,e1,rfl,h1,h2⟩:=o1.sl.pick es;obtain⟨w,rfl,q2⟩:=h1;rw[e1]at q;have eu:w=u:=by simpa using q
   subst eu;have l2:Le F' H' (QP F' L2) H':=orF;have r2:AI X.K (QP F' L2) H' (toT o) w:=AD.frz orF (λa m=>.inr m) q2;refine s (QP F' L2) H' w l2 (RR.of ⟨L1++([]++L3),?_⟩ r2);have h3:=h2 (QP F' L2) H' (some (.val (toT o))) (some w) [] l2 (λ_ _=>rfl) ⟨w,rfl,r2,rfl⟩;rw[Bv e1]at h3;have dW:=o1.nd;refine⟨h3,BU dW qU (λ_ m=>nomatch m),λa m z=>?_,λa z=>?_,?_,o1.pd,λa z=>?_,λa m=>o1.pl a ?_⟩
   .have m':a∈L1\/a∈L3:=by simpa using m
    rcases z with z|z
    .exact o1.nf a (by rcases m' with m|m<;>simp[m]) z
    .rw[qp]at dW;rcases m' with m|m
     .exact dW.2.2 a m a (qG _ z) rfl
     .exact(qp.mp dW.2.1).2.2 a z a m rfl
   .rcases z with z|z
    .exact o1.fd a z
    .exact AD.def q2 a z
   .have:=EF.put (i:=i) (s:=some (.val (toT o))) (v:=some w) o1.bo (λo eo=>by cases eo) o1.sl.len;rwa[Bv e1]at this
   .rcases z with z|z
    .exact o1.pf a z
    .exact o1.pl a (by simp[z])
   .have m':a∈L1\/a∈L3:=by simpa using m
    rcases m' with m|m<;>simp[m]
  .exact s.elim
end
noncomputable def big:Nat:=1000000
theorem Dv:big<=sizeLine:=by rw[sizeLine_eq];decide
theorem Jk:big<sizeLine:=by rw[sizeLine_eq];decide
noncomputable def Cu(fs:FS):Rv->Option (List T)
 |.t (.lst ts)=>some ts
 |.t (.z7 ts)=>some ts
 |.n i=>match AM fs i with|some (.lst ts)=>some ts|_=>none
 |_=>none
noncomputable def MA:Rv->Option (List T)
 |.t (.tup ts)=>some ts
 |_=>none
section
variable{K:Fg}{B:Nat->Option V}{F F':Wd}{H H':Hp}{U:St}{fs:FS}{x:Rv}{u:V}{ts:List T}
theorem Bq(h:Okk K F B H fs U)(r:B1 K F H U x u)(e:Cu fs x=some ts):∃a vs,u=.ref a/\SqL K H a vs/\Ag K F H ts vs:=by
 unfold Cu at e;split at e
 .cases e;simp only[B1,AI]at r;obtain⟨a,vs,e,f,s,q⟩:=r;exact⟨a,vs,e,SqL.of s,q⟩
 .cases e;simp only[B1,AI]at r;obtain⟨a,vs,e,s,q⟩:=r;exact⟨a,vs,e,s.sq,q⟩
 .rename_i i;split at e
  .rename_i iU eo;cases e;obtain⟨v,L2,e1,q,_⟩:=h.own eo;have e2:U[i]?=some (some u):=r;rw[e1]at e2;have e3:v=u:=by simpa using e2
   subst e3;simp only[AD]at q;obtain⟨a,vs,e,s,q,_⟩:=q;exact⟨a,vs,e,SqL.of s,q⟩
  .cases e
 .cases e
theorem B3(r:B1 K F H U x u)(e:MA x=some ts):∃a vs,u=.ref a/\SqT K H a vs/\Ag K F H ts vs:=by
 unfold MA at e;split at e
 .cases e;simp only[B1,AI]at r;obtain⟨a,vs,e,s,q⟩:=r;exact⟨a,vs,e,s.sq,q⟩
 .cases e
theorem OH{vs:List V}{i:Int}{t:T}(r:Ag K F H ts vs)(e:atI ts i=some t):∃v,atI vs i=some v/\AI K F H t v:=by unfold atI at e ⊢;rw[r.len];cases q:ixN ts.length i with|none=>rw[q]at e;cases e|some j =>rw[q]at e;exact r.at e
theorem Ag.ints:∀{ns:List Int}{vs:List V},Ag K F H (ns.map T.int) vs->vs=ns.map V.int
 | [],_,h=>by simpa[Ag]using h
 |n::ns,_,h=>by simp only[qm,Ag,AI]at h;obtain⟨v,r,rfl,rfl,h⟩:=h;rw[qm,Ag.ints h]
theorem Ag.bls:∀{ns:List Bool}{vs:List V},Ag K F H (ns.map T.o) vs->vs=ns.map V.o
 | [],_,h=>by simpa[Ag]using h
 |n::ns,_,h=>by simp only[qm,Ag,AI]at h;obtain⟨v,r,rfl,rfl,h⟩:=h;rw[qm,Ag.bls h]
theorem Ag.strs:∀{ns:List Str}{vs:List V},Ag K F H (ns.map T.str) vs->vs=ns.map V.str
 | [],_,h=>by simpa[Ag]using h
 |n::ns,_,h=>by simp only[qm,Ag,AI]at h;obtain⟨v,r,rfl,rfl,h⟩:=h;rw[qm,Ag.strs h]
end
noncomputable def Cw:List T->Option (List Int)
 | []=>some []
 |.int i::r=>(Cw r).map (i::·)
 |_=>none
noncomputable def Di:List T->Option (List Bool)
 | []=>some []
 |.o i::r=>(Di r).map (i::·)
 |_=>none
noncomputable def Cp:List T->Option (List Str)
 | []=>some []
 |.str i::r=>(Cp r).map (i::·)
 |_=>none
theorem Jm:∀{ts:List T}{ns:List Int},Cw ts=some ns->ts=ns.map T.int
 | [],_,e=>by cases e;rfl
 |.int i::r,_,e=>by simp only[Cw,qJ]at e;obtain⟨ns,e,rfl⟩:=e;rw[qm,<- Jm e]
 |.l::r,_,e=>by simp[Cw]at e
 |.o _::r,_,e=>by simp[Cw]at e
 |.str _::r,_,e=>by simp[Cw]at e
 |.tup _::r,_,e=>by simp[Cw]at e
 |.lst _::r,_,e=>by simp[Cw]at e
 |.z7 _::r,_,e=>by simp[Cw]at e
 |.v _ _::r,_,e=>by simp[Cw]at e
 |.dT _ _::r,_,e=>by simp[Cw]at e
 |.ins _ _ _::r,_,e=>by simp[Cw]at e
 |.dF _ _::r,_,e=>by simp[Cw]at e
theorem EE:∀{ts:List T}{ns:List Bool},Di ts=some ns->ts=ns.map T.o
 | [],_,e=>by cases e;rfl
 |.o i::r,_,e=>by simp only[Di,qJ]at e;obtain⟨ns,e,rfl⟩:=e;rw[qm,<- EE e]
 |.l::r,_,e=>by simp[Di]at e
 |.int _::r,_,e=>by simp[Di]at e
 |.str _::r,_,e=>by simp[Di]at e
 |.tup _::r,_,e=>by simp[Di]at e
 |.lst _::r,_,e=>by simp[Di]at e
 |.z7 _::r,_,e=>by simp[Di]at e
 |.v _ _::r,_,e=>by simp[Di]at e
 |.dT _ _::r,_,e=>by simp[Di]at e
 |.ins _ _ _::r,_,e=>by simp[Di]at e
 |.dF _ _::r,_,e=>by simp[Di]at e
theorem Jl:∀{ts:List T}{ns:List Str},Cp ts=some ns->ts=ns.map T.str
 | [],_,e=>by cases e;rfl
 |.str i::r,_,e=>by simp only[Cp,qJ]at e;obtain⟨ns,e,rfl⟩:=e;rw[qm,<- Jl e]
 |.l::r,_,e=>by simp[Cp]at e
 |.int _::r,_,e=>by simp[Cp]at e
 |.o _::r,_,e=>by simp[Cp]at e
 |.tup _::r,_,e=>by simp[Cp]at e
 |.lst _::r,_,e=>by simp[Cp]at e
 |.z7 _::r,_,e=>by simp[Cp]at e
 |.v _ _::r,_,e=>by simp[Cp]at e
 |.dT _ _::r,_,e=>by simp[Cp]at e
 |.ins _ _ _::r,_,e=>by simp[Cp]at e
 |.dF _ _::r,_,e=>by simp[Cp]at e
noncomputable def Ad(g:Rv->Rv->FS->Out Rv)(fa fb:FS->Out Rv):FS->Out Rv:=λfs=>(fa fs).bnd λx fs=>(fb fs).bnd λy fs=>g x y fs
def OpF(K:Fg)(Z:Xp)(r:R2)(g:Rv->Rv->FS->Out Rv):Prop:=∀(F:Wd)(B:Nat->Option V)(H:Hp)(U:St)(fs:FS)(x y:Rv)(u w:V)(Q:VK),Okk K F B H fs U->B1 K F H U x u->B1 K F H U y w ->
 sat Z B (RR K B U) F H (g x y fs) Q->r u w H Q
noncomputable def asB(f:FS->Out Rv):FS->Out Bool:=λfs=>(f fs).bind λr fs=>match r with|.t (.o b)=>.ok b fs|_=>.bad
section
variable{X:Cx}{K:Fg}{Z:Xp}{a b c:Expr}{fa fb fc f:FS->Out Rv}{r r':R2}{g g':Rv->Rv->FS->Out Rv}{pos:Pos}{U:St}{H:Hp}
theorem Fv{Q:VK}(hg:OpF K Z r g)(h:tF K Z (Ad g fa fb) U H Q):tOp r (tF K Z fa) (tF K Z fb) U H Q:=by obtain⟨F,B,fs,ok,s⟩:=h;exact⟨F,B,fs,ok,AQ s λx ag F1 H1 u l aq rx s1=>⟨F1,B,ag,aq,AQ s1 λy ax F2 H2 w l2 aG ry s2=>hg F2 B H2 U ax x y u w Q aG (rx.le l2) ry s2⟩⟩
theorem Jn{Q:Bool->Hp->Prop}(h:tT K Z (asB f) U H Q):tF K Z f U H λx H'=>∃k,x=.o k/\Q k H':=by
 obtain⟨F,B,fs,ok,s⟩:=h;refine⟨F,B,fs,ok,AL s λr ag F1 H1 u l q s1=>?_⟩;split at s1
 next b=>obtain⟨L,L',o1,⟨_,q⟩,_⟩:=q;exact⟨b,q,s1 F1 H1 b Le.refl ⟨⟨L,o1⟩,rfl⟩⟩
 .exact s1.elim
theorem LW{op:Operator}(hg:OpF X.K Z r g)(ho:OpR X (binaryOp op) r)(ha:FE X Z a fa)(hb:FE X Z b fb):FE X Z (.BinOp a op b pos) (Ad g fa fb) :=
 A5 (Yv ho ha hb) λ_ _ _ h=>Fv hg h
theorem N3{op:CmpOp}(hg:OpF X.K Z r g)(ho:OpR X (compareOp op) r)(ha:FE X Z a fa)(hb:FE X Z b fb)(hm:behindInMarks op b=false):FE X Z (.Compare a [op] [b] pos) (Ad g fa fb) :=
 A5 (Sx ho ha hb hm) λ_ _ _ h=>Fv hg h
theorem D2{op:CmpOp}(hg:OpF X.K Z r g)(ho:OpR X (compareOp op) r)(ha:FE X Z a fa)(hb:FE X Z b fb)(hm:behindInMarks op b=false):FT X Z (.Compare a [op] [b] pos) (asB (Ad g fa fb)) :=
 FN (Hr ho ha hb hm) λ_ _ _ h=>Fv hg (Jn h)
theorem Zk(hg:OpF X.K Z r g)(hr:IxR X r)(ha:FE X Z a fa)(hb:FE X Z b fb)(hs:HX b):FE X Z (.Subscript a b pos) (Ad g fa fb) :=
 A5 (MW hr ha hb hs) λ_ _ _ h=>Fv hg h
noncomputable def chain(g g':Rv->Rv->FS->Out Rv)(fa fb fc:FS->Out Rv):FS->Out Rv:=λfs=>(fa fs).bnd λx fs=>(fb fs).bnd λy fs=>(g x y fs).bnd λz fs=>match z with
 |.t (.o true)=>(fc fs).bnd λw fs=>g' y w fs
 |.t (.o false)=>.ok (.t (.o false)) fs
 |_=>.bad
theorem Um{Q:VK}(hg:OpF K Z r g)(gm:OpF K Z r' g')(h:tF K Z (chain g g' fa fb fc) U H Q):Ms r r' (tF K Z fa) (tF K Z fb) (tF K Z fc) U H Q:=by
 obtain⟨F,B,fs,ok,s⟩:=h;refine⟨F,B,fs,ok,AQ s λx ag F1 H1 u l aq rx s1=>⟨F1,B,ag,aq,AQ s1 λy ax F2 H2 w l2 aG ry s2=>hg F2 B H2 U ax x y u w _ aG (rx.le l2) ry ?_⟩⟩;refine AQ s2 λz dk F3 H3 v l3 cH rz s3=>?_
 split at s3
 .refine⟨true,rz,?_⟩;rw[if_pos rfl];exact⟨F3,B,dk,cH,AQ s3 λw' cB F4 H4 v' l4 dX df s4=>gm F4 B H4 U cB y w' w v' Q dX ((ry.le l3).le l4) df s4⟩
 .refine⟨false,rz,?_⟩;rw[if_neg (by decide)];exact s3 F3 H3 (.o false) Le.refl (RR.of cH rfl)
 .exact s3.elim
end
theorem PC{a b:Int}(ha:Builtin.Int.intBits a<=2^26)(hb:Builtin.Int.intBits b<=2^26):IntMulOk a b:=by intro h;rw[qL]at h;have h2:=qW (show decide _=true from h.2);have e:bitsLine=134217728:=rfl;rw[e]at h2;omega
noncomputable def gI(g:Int->Int->FS->Out Rv):Rv->Rv->FS->Out Rv
 |.t (.int i),.t (.int j),fs=>g i j fs
 |_,_,_=>.bad
noncomputable def okT(t:T)(fs:FS):Out Rv:=.ok (.t t) fs
noncomputable def Za:=gI λi j=>okT (.int (i+j))
noncomputable def EU:=gI λi j=>okT (.int (i-j))
noncomputable def UI:=gI λi j fs=>if(decide (-(2^64)<i/\i<2^64)||decide (-(2^64)<j/\j<2^64)||(decide (Builtin.Int.intBits i<=2^26)&&decide (Builtin.Int.intBits j<=2^26)))=true then okT (.int (i*j)) fs else .bad
noncomputable def Bk:=gI λi j fs=>if 0<j then okT (.int (i%j)) fs else .bad
noncomputable def CP:=gI λi j fs=>if 0<j/\j<1073741824 then okT (.int (i/j)) fs else .bad
noncomputable def gLt:=gI λi j=>okT (.o (decide (i<j)))
noncomputable def gLe:=gI λi j=>okT (.o (decide (i<=j)))
noncomputable def gGt:=gI λi j=>okT (.o (decide (j<i)))
section
variable{K:Fg}{Z:Xp}
theorem Pq{g:Int->Int->FS->Out Rv}{C:Int->Int->Prop}{v:Int->Int->V}{t:Int->Int->T}(hv:∀K F H i j,AI K F H (t i j) (v i j))(hg:∀i j fs,g i j fs=.bad\/(C i j/\g i j fs=okT (t i j) fs)):OpF K Z (rI C v) (gI g):=by
 intro F B H U fs x y u w Q ok rx ry s;unfold gI at s;split at s
 .rename_i i j;simp only[B1,AI]at rx ry;rcases hg i j fs with e|⟨c,e⟩
  .rw[e]at s;exact s.elim
  .rw[e]at s;exact⟨i,j,rx,ry,c,s F H _ Le.refl (RR.of ok (hv _ _ _ _ _))⟩
 .exact s.elim
theorem Iw{v:Int->Int->V}{t:Int->Int->T}(hv:∀K F H i j,AI K F H (t i j) (v i j)):OpF K Z (rI0 v) (gI λi j=>okT (t i j)):=by
 intro F B H U fs x y u w Q ok rx ry s;unfold gI at s;split at s
 next i j=>simp only[B1,AI]at rx ry;exact⟨i,j,rx,ry,s F H _ Le.refl (RR.of ok (hv _ _ _ _ _))⟩
 .exact s.elim
theorem VX:OpF K Z (rI0 λi j=>.int (i+j)) Za:=Iw λ_ _ _ _ _=>rfl
theorem VR:OpF K Z (rI0 λi j=>.int (i-j)) EU:=Iw λ_ _ _ _ _=>rfl
theorem of_lt:OpF K Z (rI0 λi j=>.o (decide (i<j))) gLt:=Iw λ_ _ _ _ _=>rfl
theorem of_le:OpF K Z (rI0 λi j=>.o (decide (i<=j))) gLe:=Iw λ_ _ _ _ _=>rfl
theorem YJ:OpF K Z (rI0 λi j=>.o (decide (j<i))) gGt:=Iw λ_ _ _ _ _=>rfl
theorem VU:OpF K Z (rI (λ_ j=>0<j) λi j=>.int (i%j)) Bk:=Pq (t:=λi j=>.int (i%j)) (λ_ _ _ _ _=>rfl) λi j fs=>by
 by_cases h:0<j
 .exact .inr ⟨h,if_pos h⟩
 .exact .inl (if_neg h)
theorem VW:OpF K Z (rI ZX λi j=>.int (i/j)) CP:=Pq (t:=λi j=>.int (i/j)) (λ_ _ _ _ _=>rfl) λi j fs=>by
 by_cases h:0<j/\j<1073741824
 .exact .inr ⟨h,if_pos h⟩
 .exact .inl (if_neg h)
theorem VT:OpF K Z (rI IntMulOk λi j=>.int (i*j)) UI:=Pq (t:=λi j=>.int (i*j)) (λ_ _ _ _ _=>rfl) λi j fs=>by
 by_cases h:(decide (-(2^64)<i/\i<2^64)||decide (-(2^64)<j/\j<2^64)||(decide (Builtin.Int.intBits i<=2^26)&&decide (Builtin.Int.intBits j<=2^26)))=true
 .refine .inr ⟨?_,if_pos h⟩;rw[sH,sH,qL]at h;rcases h with(h|h)|⟨h1,h2⟩
  .exact X9.ok (.inl (qW h))
  .exact X9.ok (.inr (qW h))
  .exact PC (qW h1) (qW h2)
 .exact .inl (if_neg h)
end
noncomputable def plV:T->Option V
 |.l=>some .l
 |.o b=>some (.o b)
 |.int i=>some (.int i)
 |.str x=>some (.str x)
 |_=>none
theorem B4{K:Fg}{F:Wd}{H:Hp}{t:T}{u v:V}(e:plV t=some v)(r:AI K F H t u):u=v:=by cases t with|l=>cases e;exact r|o b=>cases e;exact r|int i=>cases e;exact r|str x=>cases e;exact r|tup ts=>cases e|lst ts=>cases e|z7 ts=>cases e|v ks ts=>cases e|dT ks ts=>cases e|ins C fs ts=>cases e|dF ks ts=>cases e|zS c=>cases e
noncomputable def gEq(neg:Bool):Rv->Rv->FS->Out Rv
 |.t x,.t y,fs=>match plV x,plV y with|some u,some w=>if Jx u w=true then okT (.o (if neg then !decide (u=w)else decide (u=w))) fs else .bad|_,_=>.bad
 |_,_,_=>.bad
noncomputable def Rf:List T->Option (List V)
 | []=>some []
 |t::r=>(plV t).bind λv=>(Rf r).map (v::·)
theorem Hu{K:Fg}{F:Wd}{H:Hp}:∀{ts:List T}{us vs:List V},Rf ts=some vs->Ag K F H ts us->us=vs/\vs.all D9=true
 | [],_,_,e,r=>by cases e;simp only[Ag]at r;exact⟨r,rfl⟩
 |t::ts,_,_,e,r=>by simp only[Ag]at r;obtain⟨v,w,rfl,r1,r2⟩:=r;simp only[Rf,q0,qJ]at e;obtain⟨v',e1,ws,e2,rfl⟩:=e;obtain⟨rfl,h⟩:=Hu e2 r2;have:=B4 e1 r1;subst this;refine⟨rfl,?_⟩;rw[List.all_cons,h,Bool.and_true];cases t<;>first|(cases e1;rfl)|cases e1
theorem CU{t:T}{v:V}(e:plV t=some v):D9 v=true:=by cases t<;>first|(cases e;rfl)|cases e
noncomputable def gIn(neg:Bool):Rv->Rv->FS->Out Rv
 |.t x,y,fs=>match plV x with
  |some v=>match(match Cu fs y with|some ts=>Rf ts|none=>(MA y).bind Rf)with|some vs=>okT (.o (if neg then !inV v vs else inV v vs)) fs|none=>.bad
  |none=>.bad
 |_,_,_=>.bad
noncomputable def IT(neg:Bool):Rv->Rv->FS->Out Rv
 |.t (.str i),.t (.str j),fs=>okT (.o (if neg then !(!(Builtin.Str.occurrences j i 0 j.length 1).isEmpty)else !(Builtin.Str.occurrences j i 0 j.length 1).isEmpty)) fs
 |_,_,_=>.bad
section
variable{K:Fg}{Z:Xp}
theorem of_eq:OpF K Z rEq (gEq false):=by
 intro F B H U fs x y u w Q ok rx ry s;unfold gEq at s;split at s
 .split at s
  .rename_i e1 e2;split at s
   next hs=>have h1:=B4 e1 rx;have h2:=B4 e2 ry;subst h1 h2;exact⟨hs,s F H _ Le.refl (RR.of ok rfl)⟩
   .exact s.elim
  .exact s.elim
 .exact s.elim
theorem YH:OpF K Z rNe (gEq true):=by
 intro F B H U fs x y u w Q ok rx ry s;unfold gEq at s;split at s
 .split at s
  .rename_i e1 e2;split at s
   next hs=>have h1:=B4 e1 rx;have h2:=B4 e2 ry;subst h1 h2;exact⟨hs,s F H _ Le.refl (RR.of ok rfl)⟩
   .exact s.elim
  .exact s.elim
 .exact s.elim
theorem SJ(neg:Bool):OpF K Z (rIn K neg) (gIn neg):=by
 intro F B H U fs x y u w Q ok rx ry s;unfold gIn at s;split at s
 .split at s
  .rename_i v e1;split at s
   .rename_i vs e2;have h1:=B4 e1 rx;subst h1;split at e2
    next ts e3=>obtain⟨a,us,rfl,hs,q⟩:=Bq ok ry e3;obtain⟨rfl,hf⟩:=Hu e2 q;exact⟨a,us,rfl,.inl hs,CU e1,hf,s F H _ Le.refl (RR.of ok rfl)⟩
    .rw[q0]at e2;obtain⟨ts,e3,e2⟩:=e2;obtain⟨a,us,rfl,hs,q⟩:=B3 ry e3;obtain⟨rfl,hf⟩:=Hu e2 q;exact⟨a,us,rfl,.inr hs,CU e1,hf,s F H _ Le.refl (RR.of ok rfl)⟩
   .exact s.elim
  .exact s.elim
 .exact s.elim
theorem Kv:OpF K Z (λx y H Q=>∃i j,x=.str i/\y=.str j/\Q (.o (!(Builtin.Str.occurrences j i 0 j.length 1).isEmpty)) H) (IT false):=by
 intro F B H U fs x y u w Q ok rx ry s;unfold IT at s;split at s
 next i j=>exact⟨i,j,rx,ry,s F H _ Le.refl (RR.of ok rfl)⟩
 .exact s.elim
theorem JG:OpF K Z (λx y H Q=>∃i j,x=.str i/\y=.str j/\Q (.o (!(!(Builtin.Str.occurrences j i 0 j.length 1).isEmpty))) H) (IT true):=by
 intro F B H U fs x y u w Q ok rx ry s;unfold IT at s;split at s
 next i j=>exact⟨i,j,rx,ry,s F H _ Le.refl (RR.of ok rfl)⟩
 .exact s.elim
end
noncomputable def gIx:Rv->Rv->FS->Out Rv
 |x,.t (.int i),fs=>match Cu fs x with
  |some ts=>match atI ts i with|some t=>okT t fs|none=>.bad
  |none=>match x with
   |.t (.tup ts)=>match atI ts i with|some t=>okT t fs|none=>.bad
   |.t (.str z)=>if z.length<=big then match atI z.cps.toList i with|some c=>okT (.str ⟨#[c]⟩) fs|none=>.bad
    else .bad
   |_=>.bad
 |_,_,_=>.bad
section
variable{K:Fg}{Z:Xp}
theorem YI:OpF K Z (rIx K) gIx:=by
 intro F B H U fs x y u w Q ok rx ry s;unfold gIx at s;split at s
 .rename_i i;split at s
  .rename_i ts e;split at s
   next t et=>obtain⟨a,vs,rfl,hs,q⟩:=Bq ok rx e;obtain⟨v,ev,rv⟩:=OH q et;exact .inl ⟨a,vs,i,v,rfl,ry,hs,ev,s F H v Le.refl (RR.of ok rv)⟩
   .exact s.elim
  .split at s
   .rename_i ts _;split at s
    next t et=>obtain⟨a,vs,rfl,hs,q⟩:=B3 (ts:=ts) rx rfl;obtain⟨v,ev,rv⟩:=OH q et;exact .inr (.inl ⟨a,vs,i,v,rfl,ry,hs,ev,s F H v Le.refl (RR.of ok rv)⟩)
    .exact s.elim
   .rename_i z _;split at s
    .rename_i hz;split at s
     next c ec=>exact .inr (.inr ⟨z,i,c,rx,ry,qS hz Dv,ec,s F H _ Le.refl (RR.of ok rfl)⟩)
     .exact s.elim
    .exact s.elim
   .exact s.elim
 .exact s.elim
end
noncomputable def Qj:Rv->Rv->FS->Out Rv
 |.t (.str i),.t (.str j),fs=>if i.length+j.length<=big then okT (.str (i++j)) fs else .bad
 |_,_,_=>.bad
noncomputable def Qi:Rv->Rv->FS->Out Rv
 |.t (.str z),.t (.int n),fs=>if z.length=1/\1<=n/\n<=1000 then okT (.str (Txt.mul z n)) fs else .bad
 |_,_,_=>.bad
theorem SY{z:Str}{n:Int}(hz:z.length=1)(h0:1<=n)(h1:n<=1000):MulOk z n:=by
 refine⟨?_,λ_ _=>?_,λ_ _=>?_⟩
 .rw[Bool.or_eq_false_iff];exact⟨qv (by omega),qv (by omega)⟩
 .have h:(n:Int)<=2^63-1:=by omega
  have h2:1<=((2:Int)^63-1)/n:=(Int.le_ediv_iff_mul_le (by omega)).mpr (by omega);rw[hz];show ¬((1:Nat):Int)>_;omega
 .unfold Builtin.Str.tooLong;have:n.toNat<=1000:=by omega
  refine qv ?_;rw[hz];have h3:(1000:Nat)<=sizeLine:=by rw[sizeLine_eq];decide
  omega
section
variable{K:Fg}{Z:Xp}
theorem SR:OpF K Z (λx y H Q=>∃i j,x=.str i/\y=.str j/\i.length+j.length<=sizeLine/\Q (.str (i++j)) H) Qj:=by
 intro F B H U fs x y u w Q ok rx ry s;unfold Qj at s;split at s
 .rename_i i j;split at s
  next h=>exact⟨i,j,rx,ry,qS h Dv,s F H _ Le.refl (RR.of ok rfl)⟩
  .exact s.elim
 .exact s.elim
theorem SI:OpF K Z (λx y H Q=>∃z n,x=.str z/\y=.int n/\MulOk z n/\Q (.str (Txt.mul z n)) H) Qi:=by
 intro F B H U fs x y u w Q ok rx ry s;unfold Qi at s;split at s
 .rename_i i j;split at s
  next h=>exact⟨i,j,rx,ry,SY h.1 h.2.1 h.2.2,s F H _ Le.refl (RR.of ok rfl)⟩
  .exact s.elim
 .exact s.elim
end
noncomputable def Ye(fs:FS):Rv->Option Bool
 |.t .l=>some false
 |.t (.o b)=>some b
 |.t (.int i)=>some (i !=0)
 |.t (.str x)=>if x.length<=big then some ((x.length:Int)!=0)else none
 |.t (.lst ts)=>some !ts.isEmpty
 |.t (.tup ts)=>some !ts.isEmpty
 |.n i=>match AM fs i with|some (.lst ts)=>some !ts.isEmpty|some (.v ks _)=>some !ks.isEmpty|_=>none
 |_=>none
noncomputable def Ih(f:FS->Out Rv):FS->Out Bool:=λfs=>(f fs).bnd λr fs=>match Ye fs r with|some b=>.ok b fs|none=>.bad
noncomputable def FZ(f:FS->Out Bool):FS->Out Bool:=λfs=>(f fs).bind λb fs=>.ok (!b) fs
noncomputable def Mc(f g:FS->Out Bool):FS->Out Bool:=λfs=>(f fs).bind λb fs=>if b=true then g fs else .ok false fs
noncomputable def orT(f g:FS->Out Bool):FS->Out Bool:=λfs=>(f fs).bind λb fs=>if b=true then .ok true fs else g fs
noncomputable def ifV(c:FS->Out Bool)(f g:FS->Out Rv):FS->Out Rv:=λfs=>(c fs).bind λb fs=>if b=true then f fs else g fs
theorem Dp{α β:Type}{xs:List α}{ys:List β}(h:ys.length=xs.length):(!ys.isEmpty)=!xs.isEmpty:=by cases xs<;>cases ys<;>simp_all
section
variable{K:Fg}{B:Nat->Option V}{F:Wd}{H:Hp}{U:St}{fs:FS}{x:Rv}{u:V}
theorem R9{b:Bool}(h:Okk K F B H fs U)(r:B1 K F H U x u)(e:Ye fs x=some b):ZF K u H b:=by
 unfold Ye at e;split at e
 .cases e;cases r;rfl
 .cases e;cases r;rfl
 .cases e;cases r;rfl
 .split at e
  next hz=>cases e;cases r;exact⟨qS hz Dv,rfl⟩
  .cases e
 .cases e;obtain⟨a,vs,rfl,hs,q⟩:=Bq h r rfl;exact .inl ⟨vs,hs,(Dp q.len).symm⟩
 .cases e;obtain⟨a,vs,rfl,hs,q⟩:=B3 r rfl;exact .inr (.inl ⟨vs,hs,(Dp q.len).symm⟩)
 .rename_i i;split at e
  next ts eo=>cases e;obtain⟨a,vs,rfl,hs,q⟩:=Bq (ts:=ts) h r (by simp[Cu,eo]);exact .inl ⟨vs,hs,(Dp q.len).symm⟩
  .rename_i ks ts eo;cases e;obtain⟨v,L2,e1,q,_⟩:=h.own eo;have e2:U[i]?=some (some u):=r;rw[e1]at e2;have e3:v=u:=by simpa using e2
   subst e3;simp only[AD]at q;obtain⟨a,af,rfl,hd,rfl,_⟩:=q;exact .inr (.inr ⟨af,hd,(Dp (by simp))⟩)
  .cases e
 .cases e
end
section
variable{X:Cx}{Z:Xp}{a b c:Expr}{fa fb:FS->Out Rv}{ga gb:FS->Out Bool}{pos:Pos}{rest:List Expr}
theorem Qk(ha:FE X Z a fa)(he:∀aY,isTrue a X.env aY=(do let v <- aY;standAt a.pos;holding [v] (truthy v))):FT X Z a (Ih fa):=by
 refine FN (O9 ha he) λU H Q ai => ?_
 obtain⟨F,B,fs,ok,s⟩:= ai;refine⟨F,B,fs,ok,AQ s λr ag F1 H1 u l aq rx s1=>?_⟩;split at s1
 next b e=>exact⟨b,R9 aq rx e,s1 F1 H1 b Le.refl ⟨aq,rfl⟩⟩
 .exact s1.elim
theorem WI(ha:FT X Z a ga):FT X Z (.UnaryOp .Not a pos) (FZ ga):=by
 refine FN (Vm ha) λU H Q ai => ?_
 obtain⟨F,B,fs,ok,s⟩:= ai;refine⟨F,B,fs,ok,AL s λb ag F1 H1 b' l q s1=>?_⟩;obtain⟨aq,rfl⟩:=q;exact s1 F1 H1 _ Le.refl ⟨aq,rfl⟩
def FW(X:Cx)(Z:Xp)(e:Expr)(f:FS->Out Bool):Prop:=PW X e (tT X.K Z f)
theorem FW.ft(h:FW X Z a ga):FT X Z a ga:=PW.pt h
theorem Q7{e:Expr}{t t':TT}(h:PW X e t)(i:∀U H Q,t' U H Q->t U H Q):PW X e t':=λaY aa s U H Q I q=>h aY aa s U H Q I (i _ _ _ q)
theorem TM(ha:FT X Z a ga):FW X Z (.BoolOp .And [a] pos) ga:=Sj ha
theorem WG(ha:FT X Z a ga):FW X Z (.BoolOp .Or [a] pos) ga:=Vk ha
theorem WH(ha:FT X Z a ga)(hb:FW X Z (.BoolOp .And (b::rest) pos) gb):FW X Z (.BoolOp .And (a::b::rest) pos) (Mc ga gb):=by
 refine Q7 (Vl ha hb) λU H Q ai => ?_
 obtain⟨F,B,fs,ok,s⟩:= ai;refine⟨F,B,fs,ok,AL s λb ag F1 H1 b' l q s1=>?_⟩;obtain⟨aq,rfl⟩:=q;cases b' with|true =>rw[if_pos rfl]at s1 ⊢;exact⟨F1,B,ag,aq,s1⟩|false =>rw[if_neg (by decide)]at s1 ⊢;exact s1 F1 H1 _ Le.refl ⟨aq,rfl⟩
theorem Zb(ha:FT X Z a ga)(hb:FW X Z (.BoolOp .Or (b::rest) pos) gb):FW X Z (.BoolOp .Or (a::b::rest) pos) (orT ga gb):=by
 refine Q7 (Yr ha hb) λU H Q ai => ?_
 obtain⟨F,B,fs,ok,s⟩:= ai;refine⟨F,B,fs,ok,AL s λb ag F1 H1 b' l q s1=>?_⟩;obtain⟨aq,rfl⟩:=q;cases b' with|true =>rw[if_pos rfl]at s1 ⊢;exact s1 F1 H1 _ Le.refl ⟨aq,rfl⟩|false =>rw[if_neg (by decide)]at s1 ⊢;exact⟨F1,B,ag,aq,s1⟩
theorem Zm(hc:FT X Z c ga)(ha:FE X Z a fa)(hb:FE X Z b fb):FE X Z (.IfExp c a b pos) (ifV ga fa fb):=by
 refine A5 (Pl hc ha hb) λU H Q ai => ?_
 obtain⟨F,B,fs,ok,s⟩:= ai;refine⟨F,B,fs,ok,AL s λb ag F1 H1 b' l q s1=>?_⟩;obtain⟨aq,rfl⟩:=q;cases b' with|true =>rw[if_pos rfl]at s1 ⊢;exact⟨F1,B,ag,aq,s1⟩|false =>rw[if_neg (by decide)]at s1 ⊢;exact⟨F1,B,ag,aq,s1⟩
end
section
variable{X:Cx}{Z:Xp}{a b c:Expr}{fa fb fc:FS->Out Rv}{r r':R2}{g g':Rv->Rv->FS->Out Rv}{pos:Pos}
theorem Qm{op gT:CmpOp}(hg:OpF X.K Z r g)(gm:OpF X.K Z r' g')(ha:FE X Z a fa)(hb:FE X Z b fb)(hc:FE X Z c fc)
  (h:∀{ta tb tc:TE},PE X a ta->PE X b tb->PE X c tc->PT X (.Compare a [op,gT] [b,c] pos) (Sb (Ms r r' ta tb tc))):FT X Z (.Compare a [op,gT] [b,c] pos) (asB (chain g g' fa fb fc)) :=
 FN (h ha hb hc) λ_ _ _ q=>Um hg gm (Jn q)
end
noncomputable def Ai:FS->Out (List Rv):=λfs=>.ok [] fs
noncomputable def Ac(f:FS->Out Rv)(g:FS->Out (List Rv)):FS->Out (List Rv):=λfs=>(f fs).bnd λr fs=>(g fs).bind λrs fs=>.ok (r::rs) fs
noncomputable def Ma:List Rv->Option (List T)
 | []=>some []
 |.t t::r=>(Ma r).map (t::·)
 |_=>none
theorem Fz{K:Fg}{F:Wd}{H:Hp}{U:St}:∀{rs:List Rv}{vs:List V}{ts:List T},HW K F H U rs vs->Ma rs=some ts->Ag K F H ts vs
 | [],_,_,h,e=>by cases e;exact h
 |.t t::r,_,_,h,e=>by simp only[Ma,qJ]at e;obtain⟨ts,e,rfl⟩:=e;obtain⟨v,w,rfl,h1,h2⟩:=h;simp only[Ag];exact⟨v,w,rfl,h1,Fz h2 e⟩
 |.nw _::r,_,_,h,e=>by simp[Ma]at e
 |.n _::r,_,_,h,e=>by simp[Ma]at e
noncomputable def As(g:List T->FS->Out Rv)(f:FS->Out (List Rv)):FS->Out Rv:=λfs=>(f fs).bind λrs fs=>match Ma rs with|some ts=>if ts.length<=big then g ts fs else .bad|none=>.bad
noncomputable def Ba(ts:List T)(fs:FS):Out Rv:=.ok (.t (.tup ts)) fs
noncomputable def A4(ts:List T)(fs:FS):Out Rv:=.ok (.t (.lst ts)) fs
noncomputable def Cq(ts:List T)(fs:FS):Out Rv:=.ok (.nw (.lst ts)) fs
section
variable{X:Cx}{Z:Xp}{e:Expr}{es:List Expr}{f:FS->Out Rv}{g:FS->Out (List Rv)}{pos:Pos}
theorem Xk:FA X Z [] Ai:=Ku DA λU H Q ⟨F,B,fs,ok,s⟩=>s F H [] Le.refl ⟨ok,rfl⟩
theorem Ue(ha:FE X Z e f)(hr:FA X Z es g)(hs:starEach (e::es) X.env=(false,eval e X.env)::starEach es X.env:=by rfl):FA X Z (e::es) (Ac f g):=by
 refine Ku (B5 ha hr hs) λU H Q ai => ?_
 obtain⟨F,B,fs,ok,s⟩:= ai;refine⟨F,B,fs,ok,AQ s λr ag F1 H1 u l aq rx s1=>⟨F1,B,ag,aq,AL s1 λrs ax F2 H2 us l2 q s2=>?_⟩⟩;exact s2 F2 H2 (u::us) Le.refl ⟨q.1,u,us,rfl,rx.le l2,q.2⟩
theorem WS{x1}(h:FA X Z es g):FE X Z (.Tuple es x1 pos) (As Ba g):=by
 refine A5 (Vy h) λU H Q ai => ?_
 obtain⟨F,B,fs,ok,s⟩:= ai;refine⟨F,B,fs,ok,AL s λrs ag F1 H1 us l q s1=>?_⟩;obtain⟨aq,q⟩:=q;split at s1
 .rename_i ts e;have r:=Fz q e;split at s1
  next hl=>refine⟨by rw[r.len];exact qS hl Dv,λp hp=>s1 (OP F1 p) (upd H1 p (.tup us)) (.ref p) (Bs aq hp) (RR.of (aq.alloc hp) ?_)⟩;simp only[B1,AI];exact⟨p,us,rfl,⟨rfl,.inr rfl,Az⟩,r.le (Bs aq hp)⟩
  .exact s1.elim
 .exact s1.elim
theorem W6(h:FA X Z es g):FE X Z (.List es pos) (As A4 g):=by
 refine A5 (Ks h) λU H Q ai => ?_
 obtain⟨F,B,fs,ok,s⟩:= ai;refine⟨F,B,fs,ok,AL s λrs ag F1 H1 us l q s1=>?_⟩;obtain⟨aq,q⟩:=q;split at s1
 .rename_i ts e;have r:=Fz q e;split at s1
  next hl=>refine⟨by rw[r.len];exact qS hl Dv,λp hp=>s1 (OP F1 p) (upd H1 p (.lst us)) (.ref p) (Bs aq hp) (RR.of (aq.alloc hp) ?_)⟩;simp only[B1,AI];exact⟨p,us,rfl,.inr rfl,Az,r.le (Bs aq hp)⟩
  .exact s1.elim
 .exact s1.elim
theorem CT{K:Fg}{F:Wd}{H:Hp}{p:Addr}{ts:List T}{us:List V}(h:H p=some (.lst us))(r:Ag K F H ts us):AD K F H (.lst ts) (.ref p) [p]:=by simp only[AD];exact⟨p,us,rfl,h,r,rfl⟩
theorem T9(h:FA X Z es g):FE X Z (.List es pos) (As Cq g):=by
 refine A5 (Ks h) λU H Q ai => ?_
 obtain⟨F,B,fs,ok,s⟩:= ai;refine⟨F,B,fs,ok,AL s λrs ag F1 H1 us l q s1=>?_⟩;obtain⟨aq,q⟩:=q;split at s1
 .rename_i ts e;have r:=Fz q e;split at s1
  next hl=>exact⟨by rw[r.len];exact qS hl Dv,λp hp=>s1 F1 (upd H1 p (.lst us)) (.ref p) (Bi aq hp) (RR.alloc aq hp (CT Az (r.le (Bi aq hp))))⟩
  .exact s1.elim
 .exact s1.elim
noncomputable def LV:FS->Out Rv:=λfs=>.ok (.nw (.v [] [])) fs
theorem Qq:FE X Z (.Dict [] [] pos) LV:=by
 refine A5 Pm λU H Q ⟨F,B,fs,ok,s⟩ p hp=>s F (upd H p (.v [])) (.ref p) (Bi ok hp) (RR.alloc ok hp ?_)
 simp only[AD,Ag];exact⟨p,[],rfl,Az,rfl,rfl,rfl⟩
end
def Dk(K:Fg)(Z:Xp)(r:List V->Hp->VK->Prop)(g:List Rv->FS->Out Rv):Prop:=∀(F:Wd)(B:Nat->Option V)(H:Hp)(U:St)(fs:FS)(rs:List Rv)(vs:List V)(Q:VK),Okk K F B H fs U->HW K F H U rs vs ->
 sat Z B (RR K B U) F H (g rs fs) Q->r vs H Q
noncomputable def Ah(g:List Rv->FS->Out Rv)(f:FS->Out (List Rv)):FS->Out Rv:=λfs=>(f fs).bind λrs fs=>g rs fs
section
variable{X:Cx}{Z:Xp}{e:Expr}{es:List Expr}{fa:FS->Out (List Rv)}{g:List Rv->FS->Out Rv}{r:List V->Hp->VK->Prop}{pos p:Pos}{x:Str}{id Ty:String}
theorem Er(gm:Dk X.K Z r g)(hc:CO X (.builtin id) r)(hm:X.mg x=none)(hv:bootBuiltins x=some (.builtin id))(ha:FA X Z (e::es) fa)(hg:Gl X x:=by rfl)(hn:x≠"__name__":=by decide)(aQ:(x==("__debug__":Str))=false:=by decide)
  (he:starEach (e::es) X.env=(false,eval e X.env)::starEach es X.env:=by rfl) (az:(backTo pos (starEach es X.env)).any (·.1)=false:=by rfl):FE X Z (.Call (.Name x p) (e::es) [] pos) (Ah g fa) :=
 A5 (Hw hc hg hm hv ha hn aQ he az) λU H Q ⟨F,B,fs,ok,s⟩=>⟨F,B,fs,ok,AL s λrs ag F1 H1 us l q s1=>gm F1 B H1 U ag rs us Q q.1 q.2 s1⟩
theorem Gg(gm:Dk X.K Z r g)(hc:CO X (.type Ty) r)(hm:X.mg x=none)(hv:bootBuiltins x=some (.type Ty))(ha:FA X Z (e::es) fa)(hg:Gl X x:=by rfl)(hn:x≠"__name__":=by decide)(aQ:(x==("__debug__":Str))=false:=by decide)
  (he:starEach (e::es) X.env=(false,eval e X.env)::starEach es X.env:=by rfl) (az:(backTo pos (starEach es X.env)).any (·.1)=false:=by rfl):FE X Z (.Call (.Name x p) (e::es) [] pos) (Ah g fa) :=
 A5 (MX hc hg hm hv ha hn aQ he az) λU H Q ⟨F,B,fs,ok,s⟩=>⟨F,B,fs,ok,AL s λrs ag F1 H1 us l q s1=>gm F1 B H1 U ag rs us Q q.1 q.2 s1⟩
end
noncomputable def UJ:List Rv->FS->Out Rv
 | [x],fs=>match Cu fs x with|some ts=>okT (.int ts.length) fs|none=>match MA x with|some ts=>okT (.int ts.length) fs|none=>.bad
 |_,_=>.bad
noncomputable def JS:List Rv->FS->Out Rv
 | [.t (.str z)],fs=>if z.length<=big then okT (.int z.length) fs else .bad
 |_,_=>.bad
noncomputable def GH:List Rv->FS->Out Rv
 | [.t (.int i),.t (.int j)],fs=>okT (.int (if j<i then j else i)) fs
 |_,_=>.bad
noncomputable def EV:List Rv->FS->Out Rv
 | [.t (.int i)],fs=>okT (.int i) fs
 | [.t (.o k)],fs=>okT (.int (if k then 1 else 0)) fs
 |_,_=>.bad
noncomputable def Qd:List Rv->FS->Out Rv
 | [x],fs=>match(Cu fs x).bind Cw with|some ns=>okT (.int ns.sum) fs|none=>.bad
 |_,_=>.bad
noncomputable def UK:List Rv->FS->Out Rv
 | [x],fs=>match(Cu fs x).bind Di with|some ns=>okT (.o (ns.all id)) fs|none=>.bad
 |_,_=>.bad
noncomputable def TF:List Rv->FS->Out Rv
 | [x],fs=>match Cu fs x with|some ts=>.ok (.nw (.lst ts)) fs|none=>match MA x with|some ts=>.ok (.nw (.lst ts)) fs|none=>.bad
 |_,_=>.bad
noncomputable def BK:List Rv->FS->Out Rv
 | [x],fs=>match Cu fs x with|some ts=>okT (.tup ts) fs|none=>match MA x with|some ts=>okT (.tup ts) fs|none=>.bad
 |_,_=>.bad
noncomputable def UH:Key->T
 |.inl i=>.int i
 |.inr x=>.str x
noncomputable def NT:List Rv->FS->Out Rv
 | [.t (.v ks _)],fs=>.ok (.nw (.lst (ks.map UH))) fs
 |_,_=>.bad
section
variable{K:Fg}{Z:Xp}
theorem Br{F:Wd}{H:Hp}{U:St}{x:Rv}{vs:List V}(h:HW K F H U [x] vs):∃v,vs=[v]/\B1 K F H U x v:=by obtain⟨v,w,rfl,h1,h2⟩:=h;have:w=[]:=h2;subst this;exact⟨v,rfl,h1⟩
theorem Xu:Dk K Z (λxs H Q=>∃p ys,xs=[.ref p]/\(SqL K H p ys\/SqT K H p ys)/\Q (.int ys.length) H) UJ:=by
 intro F B H U fs rs vs Q ok q s;unfold UJ at s;split at s
 .obtain⟨v,rfl,qq⟩:=Br q;have q:=qq;split at s
  next ts e=>obtain⟨a,us,rfl,hs,r⟩:=Bq ok q e;exact⟨a,us,rfl,.inl hs,by rw[r.len];exact s F H _ Le.refl (RR.of ok rfl)⟩
  .split at s
   next ts e=>obtain⟨a,us,rfl,hs,r⟩:=B3 q e;exact⟨a,us,rfl,.inr hs,by rw[r.len];exact s F H _ Le.refl (RR.of ok rfl)⟩
   .exact s.elim
 .exact s.elim
theorem Uq:Dk K Z (λxs H Q=>∃z,xs=[.str z]/\z.length<=sizeLine/\Q (.int z.length) H) JS:=by
 intro F B H U fs rs vs Q ok q s;unfold JS at s;split at s
 .rename_i z;obtain⟨v,rfl,qq⟩:=Br q;have q:=qq;cases q;split at s
  next hz=>exact⟨z,rfl,qS hz Dv,s F H _ Le.refl (RR.of ok rfl)⟩
  .exact s.elim
 .exact s.elim
theorem Uo:Dk K Z (λxs H Q=>∃i j,xs=[.int i,.int j]/\Q (.int (if j<i then j else i)) H) GH:=by
 intro F B H U fs rs vs Q ok q s;unfold GH at s;split at s
 next i j=>obtain⟨v,w,rfl,q1,v2,w2,rfl,q2,q3⟩:=q;cases q1;cases q2;cases q3;exact⟨i,j,rfl,s F H _ Le.refl (RR.of ok rfl)⟩
 .exact s.elim
theorem Us:Dk K Z (λxs H Q=>(∃i,xs=[.int i]/\Q (.int i) H)\/∃k,xs=[.o k]/\Q (.int (if k then 1 else 0)) H) EV:=by
 intro F B H U fs rs vs Q ok q s;unfold EV at s;split at s
 .obtain⟨v,rfl,qq⟩:=Br q;have q:=qq;cases q;exact .inl ⟨_,rfl,s F H _ Le.refl (RR.of ok rfl)⟩
 .obtain⟨v,rfl,qq⟩:=Br q;have q:=qq;cases q;exact .inr ⟨_,rfl,s F H _ Le.refl (RR.of ok rfl)⟩
 .exact s.elim
theorem Xt:Dk K Z (λxs H Q=>∃(l:Addr)(ns:List Int),xs=[.ref l]/\SqL K H l (ns.map V.int)/\Q (.int ns.sum) H) Qd:=by
 intro F B H U fs rs vs Q ok q s;unfold Qd at s;split at s
 .obtain⟨v,rfl,qq⟩:=Br q;have q:=qq;split at s
  next ns e=>rw[q0]at e;obtain⟨ts,e1,e2⟩:=e;obtain⟨a,us,rfl,hs,r⟩:=Bq ok q e1;rw[Jm e2]at r;rw[Ag.ints r]at hs;exact⟨a,ns,rfl,hs,s F H _ Le.refl (RR.of ok rfl)⟩
  .exact s.elim
 .exact s.elim
theorem Xw:Dk K Z (λxs H Q=>∃(l:Addr)(bs:List Bool),xs=[.ref l]/\SqL K H l (bs.map V.o)/\Q (.o (bs.all id)) H) UK:=by
 intro F B H U fs rs vs Q ok q s;unfold UK at s;split at s
 .obtain⟨v,rfl,qq⟩:=Br q;have q:=qq;split at s
  next ns e=>rw[q0]at e;obtain⟨ts,e1,e2⟩:=e;obtain⟨a,us,rfl,hs,r⟩:=Bq ok q e1;rw[EE e2]at r;rw[Ag.bls r]at hs;exact⟨a,ns,rfl,hs,s F H _ Le.refl (RR.of ok rfl)⟩
  .exact s.elim
 .exact s.elim
theorem Up:Dk K Z (λxs H Q=>∃p ys,xs=[.ref p]/\(SqL K H p ys\/SqT K H p ys)/\∀l,H l=none->Q (.ref l) (upd H l (.lst ys))) TF:=by
 intro F B H U fs rs vs Q ok q s;unfold TF at s;split at s
 .obtain⟨v,rfl,qq⟩:=Br q;have q:=qq;split at s
  next ts e=>obtain⟨a,us,rfl,hs,r⟩:=Bq ok q e;exact⟨a,us,rfl,.inl hs,λp hp=>s F (upd H p (.lst us)) (.ref p) (Bi ok hp) (RR.alloc ok hp (CT Az (r.le (Bi ok hp))))⟩
  .split at s
   next ts e=>obtain⟨a,us,rfl,hs,r⟩:=B3 q e;exact⟨a,us,rfl,.inr hs,λp hp=>s F (upd H p (.lst us)) (.ref p) (Bi ok hp) (RR.alloc ok hp (CT Az (r.le (Bi ok hp))))⟩
   .exact s.elim
 .exact s.elim
theorem EK{F:Wd}{H:Hp}{ts:List T}{us:List V}{p:Addr}{U:St}{B:Nat->Option V}{fs:FS}(ok:Okk K F B H fs U)(hp:H p=none)(r:Ag K F H ts us):RR K B U (OP F p) (upd H p (.tup us)) fs (.t (.tup ts)) (.ref p):=by refine RR.of (ok.alloc hp) ?_;simp only[B1,AI];exact⟨p,us,rfl,⟨rfl,.inr rfl,Az⟩,r.le (Bs ok hp)⟩
theorem Lr{F:Wd}{H:Hp}{ts:List T}{us:List V}{p:Addr}{U:St}{B:Nat->Option V}{fs:FS}(ok:Okk K F B H fs U)(hp:H p=none)(r:Ag K F H ts us):RR K B U (OP F p) (upd H p (.lst us)) fs (.t (.lst ts)) (.ref p):=by refine RR.of (ok.alloc hp) ?_;simp only[B1,AI];exact⟨p,us,rfl,.inr rfl,Az,r.le (Bs ok hp)⟩
theorem QA:Dk K Z (λxs H Q=>∃p ys,xs=[.ref p]/\((SqL K H p ys/\∀l,H l=none->Q (.ref l) (upd H l (.tup ys)))\/(SqT K H p ys/\Q (.ref p) H))) BK:=by
 intro F B H U fs rs vs Q ok q s;unfold BK at s;split at s
 .rename_i x;obtain⟨v,rfl,qq⟩:=Br q;have q:=qq;split at s
  next ts e=>obtain⟨a,us,rfl,hs,r⟩:=Bq ok q e;exact⟨a,us,rfl,.inl ⟨hs,λp hp=>s _ _ (.ref p) (Bs ok hp) (EK ok hp r)⟩⟩
  .split at s
   .rename_i ts e;obtain⟨a,us,rfl,hs,r⟩:=B3 q e;have ex:x=.t (.tup ts):=by
     unfold MA at e;split at e
     .cases e;rfl
     .cases e
    rw[ex]at q;exact⟨a,us,rfl,.inr ⟨hs,s F H _ Le.refl (RR.of ok q)⟩⟩
   .exact s.elim
 .exact s.elim
theorem HF{F:Wd}{H:Hp}:∀ks:List Key,Ag K F H (ks.map UH) (ks.map kV)
 | []=>by simp[Ag]
 |.inl i::r=>by simp only[qm,Ag];exact⟨_,_,rfl,rfl,HF r⟩
 |.inr i::r=>by simp only[qm,Ag];exact⟨_,_,rfl,rfl,HF r⟩
theorem QB:Dk K Z (λxs H Q=>∃p af,xs=[.ref p]/\Rd H p (.v af)/\∀l,H l=none->Q (.ref l) (upd H l (.lst (af.map λkv=>kV kv.1)))) NT:=by
 intro F B H U fs rs vs Q ok q s;unfold NT at s;split at s
 .rename_i ks ts;obtain⟨v,rfl,qq⟩:=Br q;have q:=qq;simp only[B1,AI]at q;obtain⟨a,af,rfl,f,hd,rfl,r⟩:=q;refine⟨a,af,rfl,hd,λp hp=>s F _ (.ref p) (Bi ok hp) (RR.alloc ok hp (CT Az ?_))⟩;have e:(af.map λkv=>kV kv.1)=(af.map (·.1)).map kV:=by rw[rm];rfl
  rw[e];exact HF _
 .exact s.elim
end
def MtF(K:Fg)(Z:Xp)(r:V->List V->Hp->VK->Prop)(g:Rv->List Rv->FS->Out Rv):Prop:=∀(F:Wd)(B:Nat->Option V)(H:Hp)(U:St)(fs:FS)(x:Rv)(rs:List Rv)(u:V)(vs:List V)(Q:VK),Okk K F B H fs U->B1 K F H U x u->HW K F H U rs vs ->
 sat Z B (RR K B U) F H (g x rs fs) Q->r u vs H Q
noncomputable def AH(g:Rv->List Rv->FS->Out Rv)(fo:FS->Out Rv)(fa:FS->Out (List Rv)):FS->Out Rv:=λfs=>(fo fs).bnd λx fs=>if(Cu fs x).isSome=true then(fa fs).bind λrs fs=>g x rs fs else .bad
noncomputable def D8(g:Rv->List Rv->FS->Out Rv)(fo:FS->Out Rv)(fa:FS->Out (List Rv)):FS->Out Rv:=λfs=>(fo fs).bnd λx fs=>match x with
 |.t (.str _)=>(fa fs).bind λrs fs=>g x rs fs
 |_=>.bad
section
variable{X:Cx}{Z:Xp}{o e:Expr}{es:List Expr}{fo:FS->Out Rv}{fa:FS->Out (List Rv)}{g:Rv->List Rv->FS->Out Rv}{r:V->List V->Hp->VK->Prop}{av au:Pos}{name:Str}{id:String}
theorem Qr(hg:MtF X.K Z r g)(slot:Slot "list" name id)(cG:typeOf (.builtin id)=pure (.type "method_descriptor"))(hm:MtR X id r)(ho:FE X Z o fo)(ha:FA X Z (e::es) fa)
  (aB:attributeBase o name X.env (eval o X.env)=eval o X.env:=by rfl)
  (bT:((backTo au (starEach (e::es) X.env)).all (λx=>!x.1)&&(backToKw au (keywordEach [] X.env)).all (λx=>x.1.isSome)
  &&decide ((e::es).length+([]:List Keyword).length+(if([]:List Keyword).isEmpty then 0 else 1)<30))=true:=by rfl)
  (aC:(av.endLine==au.line)=true:=by rfl) (hs:starEach (e::es) X.env=(false,eval e X.env)::starEach es X.env:=by rfl) (bu:(backTo au (starEach es X.env)).any (·.1)=false:=by rfl) :
  FE X Z (.Call (.Attribute o name av) (e::es) [] au) (AH g fo fa):=by
 refine A5 (Pn plainAttrs_list slot cG hm ho ha aB bT aC hs bu) λU H Q ai => ?_
 obtain⟨F,B,fs,ok,s⟩:= ai;refine⟨F,B,fs,ok,AQ s λx ag F1 H1 u l aq rx s1=>?_⟩;split at s1
 next he=>obtain⟨ts,hJ⟩:=rZ.mp he;obtain⟨a,vs,rfl,hs,q⟩:=Bq aq rx hJ;exact⟨.inl ⟨rfl,vs,hs⟩,F1,B,ag,aq,AL s1 λrs ax F2 H2 us l2 q2 s2=>hg F2 B H2 U ax x rs _ us Q q2.1 (rx.le l2) q2.2 s2⟩
 .exact s1.elim
theorem Xg(hg:MtF X.K Z r g)(slot:Slot "list" name id)(cG:typeOf (.builtin id)=pure (.type "method_descriptor"))(hm:MtR X id r)(ho:FE X Z o fo)
  (aB:attributeBase o name X.env (eval o X.env)=eval o X.env:=by rfl) (aC:(av.endLine==au.line)=true:=by rfl):FE X Z (.Call (.Attribute o name av) [] [] au) (AH g fo Ai):=by
 refine A5 (Rj plainAttrs_list slot cG hm ho aB aC) λU H Q ai => ?_
 obtain⟨F,B,fs,ok,s⟩:= ai;refine⟨F,B,fs,ok,AQ s λx ag F1 H1 u l aq rx s1=>?_⟩;split at s1
 next he=>obtain⟨ts,hJ⟩:=rZ.mp he;obtain⟨a,vs,rfl,hs,q⟩:=Bq aq rx hJ;exact⟨.inl ⟨rfl,vs,hs⟩,hg F1 B H1 U ag x [] _ [] Q aq rx rfl s1⟩
 .exact s1.elim
theorem Xf(hg:MtF X.K Z r g)(slot:Slot "str" name id)(cG:typeOf (.builtin id)=pure (.type "method_descriptor"))(hm:MtR X id r)(ho:FE X Z o fo)(ha:FA X Z (e::es) fa)
  (aB:attributeBase o name X.env (eval o X.env)=eval o X.env:=by rfl)
  (bT:((backTo au (starEach (e::es) X.env)).all (λx=>!x.1)&&(backToKw au (keywordEach [] X.env)).all (λx=>x.1.isSome)
  &&decide ((e::es).length+([]:List Keyword).length+(if([]:List Keyword).isEmpty then 0 else 1)<30))=true:=by rfl)
  (aC:(av.endLine==au.line)=true:=by rfl) (hs:starEach (e::es) X.env=(false,eval e X.env)::starEach es X.env:=by rfl) (bu:(backTo au (starEach es X.env)).any (·.1)=false:=by rfl) :
  FE X Z (.Call (.Attribute o name av) (e::es) [] au) (D8 g fo fa):=by
 refine A5 (Pn PySem.F.plainAttrs_str slot cG hm ho ha aB bT aC hs bu) λU H Q ai => ?_
 obtain⟨F,B,fs,ok,s⟩:= ai;refine⟨F,B,fs,ok,AQ s λx ag F1 H1 u l aq rx s1=>?_⟩;split at s1
 .have iP:=rx;cases rx;exact⟨rfl,F1,B,ag,aq,AL s1 λrs ax F2 H2 us l2 q2 s2=>hg F2 B H2 U ax _ rs _ us Q q2.1 (B1.le iP l2) q2.2 s2⟩
 .exact s1.elim
end
noncomputable def Dc:Rv->List Rv->FS->Out Rv
 |.n i,[.t t],fs=>match AM fs i with|some (.lst ts)=>if ts.length<big then .ok (.t .l) (putAt fs i (.lst (ts++[t])))else .bad|_=>.bad
 |_,_,_=>.bad
noncomputable def Fc:Rv->List Rv->FS->Out Rv
 |.n i,[],fs=>match AM fs i with
  |some (.lst ts)=>match ts.getLast? with|some t=>.ok (.t t) (putAt fs i (.lst ts.dropLast))|none=>.bad
  |_=>.bad
 |_,_,_=>.bad
noncomputable def WC:Rv->List Rv->FS->Out Rv
 |.n i,[.t (.lst us)],fs=>match AM fs i with|some (.lst ts)=>if ts.length+us.length<=big then .ok (.t .l) (putAt fs i (.lst (ts++us)))else .bad|_=>.bad
 |_,_,_=>.bad
noncomputable def Eo:Rv->List Rv->FS->Out Rv
 |.t (.str z),[x],fs=>match(Cu fs x).bind Cp with|some ys=>if(ys.map (·.length)).sum+ys.length*z.length<=big then okT (.str (Txt.join z ys)) fs else .bad|none=>.bad
 |_,_,_=>.bad
section
variable{K:Fg}{Z:Xp}{B:Nat->Option V}{F:Wd}{H:Hp}{U:St}{fs:FS}{i:Nat}{u:V}{ts:List T}
theorem Ag.last{vs:List V}{t:T}(r:Ag K F H ts vs)(e:ts.getLast?=some t):∃z,vs=vs.dropLast++[z]/\AI K F H t z/\Ag K F H ts.dropLast vs.dropLast:=by
 have hl:=r.len;rw[List.getLast?_eq_getElem?]at e;obtain⟨z,ez,rz⟩:=r.at e;have ck:0<ts.length:=by have:=(qN.mp e).1;omega
 refine⟨z,?_,rz,?_⟩
 .have b7:vs≠[]:=by intro q;rw[q]at hl;simp at hl;omega
  have h1:=(List.dropLast_concat_getLast b7).symm;have h2:vs.getLast b7=z:=by
   rw[List.getLast_eq_getElem];have:=(qN.mp ez)
   obtain⟨h3,h4⟩:=this;rw[<- h4];congr 1;rw[hl]
  rw[h2]at h1;exact h1
 .rw[List.dropLast_eq_take,List.dropLast_eq_take,hl];exact r.take _
theorem Okk.list(h:Okk K F B H fs U)(r:U[i]?=some (some u))(e:AM fs i=some (.lst ts)):∃a vs,u=.ref a/\H a=some (.lst vs)/\Ag K F H ts vs /\
  ∀iU bg,Ag K F H iU bg->Okk K F B (upd H a (.lst bg)) (putAt fs i (.lst iU)) U/\Le F H F (upd H a (.lst bg)):=by
 obtain⟨v,L2,e1,q,nf,_,k⟩:=h.own e;rw[e1]at r;have e3:v=u:=by simpa using r
 subst e3;simp only[AD]at q;obtain⟨a,vs,rfl,hs,q,rfl⟩:=q;refine⟨a,vs,rfl,hs,q,λiU bg q'=>?_⟩;have l:Le F H F (upd H a (.lst bg)):=⟨λb f=>⟨f,Am λz=>(nf a (by simp)).1 (z▸f)⟩,λb f=>⟨f,Am λz=>(nf a (by simp)).2 (z▸f)⟩⟩
 exact k _ _ (λb hb _=>Am (by simpa using hb)) (CT Az (q'.le l))
theorem V4:MtF K Z ML Dc:=by
 intro F B H U fs x rs u vs Q ok rx q s;unfold Dc at s;split at s
 .rename_i i t;obtain⟨v,rfl,qq⟩:=Br q;have q:=qq;split at s
  .rename_i ts e;split at s
   next hl=>obtain⟨a,us,rfl,hs,r,k⟩:=ok.list rx e;obtain⟨bW,l⟩:=k (ts++[t]) (us++[v]) (r.app (Ag.one q));exact⟨a,us,v,rfl,rfl,hs,by rw[r.len];exact sL hl Jk,s F _ _ l (RR.of bW rfl)⟩
   .exact s.elim
  .exact s.elim
 .exact s.elim
theorem V2:MtF K Z (λx vs H Q=>∃l e z,x=.ref l/\vs=[]/\H l=some (.lst (e++[z]))/\Q z (upd H l (.lst e))) Fc:=by
 intro F B H U fs x rs u vs Q ok rx q s;unfold Fc at s;split at s
 .have:vs=[]:=q;subst this;split at s
  .rename_i ts e;split at s
   next t et=>obtain⟨a,us,rfl,hs,r,k⟩:=ok.list rx e;obtain⟨z,ez,rz,rd⟩:=r.last et;obtain⟨bW,l⟩:=k _ _ rd;refine⟨a,us.dropLast,z,rfl,rfl,by rw[<- ez];exact hs,s F _ z l (RR.of bW (AI.le l rz))⟩
   .exact s.elim
  .exact s.elim
 .exact s.elim
theorem V3:MtF K Z Hm WC:=by
 intro F B H U fs x rs u vs Q ok rx q s;unfold WC at s;split at s
 .rename_i i ws;obtain⟨v,rfl,qq⟩:=Br q;have q:=qq;split at s
  .rename_i ts e;split at s
   next hl=>obtain⟨a,us,rfl,hs,r,k⟩:=ok.list rx e;simp only[B1,AI]at q;obtain⟨b,zs,rfl,f,hb,rz⟩:=q;obtain⟨bW,l⟩:=k _ _ (r.app rz);exact⟨a,b,us,zs,rfl,rfl,hs,hb,by rw[r.len,rz.len];exact qS hl Dv,s F _ _ l (RR.of bW rfl)⟩
   .exact s.elim
  .exact s.elim
 .exact s.elim
theorem S5:MtF K Z (λx xs H Q=>∃(z:Str)(l:Addr)(ys:List Str),x=.str z/\xs=[.ref l]/\SqL K H l (ys.map V.str)/\(ys.map (·.length)).sum+ys.length*z.length<=16777216/\Q (.str (Txt.join z ys)) H) Eo:=by
 intro F B H U fs x rs u vs Q ok rx q s;unfold Eo at s;split at s
 .rename_i z x;obtain⟨v,rfl,qq⟩:=Br q;have q:=qq;cases rx;split at s
  .rename_i ys e;rw[q0]at e;obtain⟨ts,e1,e2⟩:=e;split at s
   next hl=>obtain⟨a,us,rfl,hs,r⟩:=Bq ok q e1;rw[Jl e2]at r;rw[Ag.strs r]at hs;exact⟨z,a,ys,rfl,rfl,hs,qS hl (by decide),s F H _ Le.refl (RR.of ok rfl)⟩
   .exact s.elim
  .exact s.elim
 .exact s.elim
end
noncomputable def Lo:T->Option Key
 |.int i=>some (.inl i)
 |.str x=>some (.inr x)
 |_=>none
noncomputable def Jv:List T->Option (List Key)
 | []=>some []
 |t::r=>(Lo t).bind λk=>(Jv r).map (k::·)
theorem Fm{K:Fg}{F:Wd}{H:Hp}{t:T}{u:V}{k:Key}(e:Lo t=some k)(r:AI K F H t u):u=kV k:=by
 unfold Lo at e;split at e
 .cases e;exact r
 .cases e;exact r
 .cases e
theorem FH{K:Fg}{F:Wd}{H:Hp}:∀{ts:List T}{us:List V}{ks:List Key},Jv ts=some ks->Ag K F H ts us->us=ks.map kV
 | [],_,_,e,r=>by cases e;exact r
 |t::ts,_,_,e,r=>by simp only[Jv,q0,qJ]at e;obtain⟨k,e1,ks,e2,rfl⟩:=e;simp only[Ag]at r;obtain⟨v,w,rfl,r1,r2⟩:=r;rw[qm,FH e2 r2,Fm e1 r1]
noncomputable def EG{κ:Type}[DecidableEq κ]:List κ->List T->κ->Option T
 |k::ks,t::ts,j=>if k=j then some t else EG ks ts j
 |_,_,_=>none
noncomputable def Hq{κ:Type}[DecidableEq κ](ks:List κ)(ts:List T)(j:κ)(v:T):List κ×List T :=
 if(ks.any λk=>decide (k=j))=true then(ks,List.zipWith (λk t=>if k=j then v else t) ks ts)else(ks++[j],ts++[v])
section
variable{K:Fg}{F:Wd}{H:Hp}{κ:Type}[DecidableEq κ]
theorem Hg:∀{af:List (κ×V)}{ts:List T}{j:κ},Ag K F H ts (af.map (·.2))->(EG (af.map (·.1)) ts j=none/\Ll af j=none)\/∃t v,EG (af.map (·.1)) ts j=some t/\Ll af j=some v/\AI K F H t v
 | [],ts,j,r=>by have h:=r.len;cases ts with|nil=>exact .inl ⟨rfl,rfl⟩|cons t ts=>simp at h
 |(k,v)::af,ts,j,r=>by
  cases ts with
  |nil =>have h:=r.len;simp at h
  |cons t ts =>
   simp only[qm,Ag]at r;obtain⟨v',w,e,r1,r2⟩:=r;cases e;by_cases hk:k=j
   .refine .inr ⟨t,v,?_,Fi hk,r1⟩;simp only[qm,EG];rw[if_pos hk]
   .have e1:EG (((k,v)::af).map (·.1)) (t::ts) j=EG (af.map (·.1)) ts j:=by simp only[qm,EG];rw[if_neg hk]
    rw[e1,Fj (p:=(k,v)) hk];exact Hg r2
theorem Mg{j:κ}{t:T}{w:V}(q:AI K F H t w):∀{af:List (κ×V)}{ts:List T},Ag K F H ts (af.map (·.2)) ->
  Ag K F H (List.zipWith (λk t'=>if k=j then t else t') (af.map (·.1)) ts) ((af.map λkv=>if kv.1=j then(kv.1,w)else kv).map (·.2))
 | [],ts,r=>by have h:=r.len;cases ts with|cons t ts=>simp at h|nil=>exact rfl
 |(k,v)::af,ts,r=>by
  cases ts with
  |nil =>have h:=r.len;simp at h
  |cons t' ts =>
   simp only[qm,Ag]at r;obtain⟨v',w',e,r1,r2⟩:=r;cases e;have ih:=Mg q (j:=j) r2;simp only[qm,List.zipWith_cons_cons,Ag];by_cases hk:k=j
   .rw[if_pos hk,if_pos hk];exact⟨w,_,rfl,q,ih⟩
   .rw[if_neg hk,if_neg hk];exact⟨v,_,rfl,r1,ih⟩
theorem Ho{j:κ}{t:T}{w:V}(q:AI K F H t w){af:List (κ×V)}{ts:List T}(r:Ag K F H ts (af.map (·.2))) :
  (putK af j w).map (·.1)=(Hq (af.map (·.1)) ts j t).1/\Ag K F H (Hq (af.map (·.1)) ts j t).2 ((putK af j w).map (·.2)):=by
 have e:((af.map (·.1)).any λk=>decide (k=j))=(af.any λkv=>decide (kv.1=j)):=by rw[List.any_map];rfl
 unfold putK Hq;rw[e];by_cases h:(af.any λkv=>decide (kv.1=j))=true
 .rw[if_pos h,if_pos h];refine⟨?_,Mg q r⟩;rw[rm];refine sV λp hp=>?_
  show(if p.1=j then(p.1,w)else p).1=p.1;split<;>rfl
 .rw[if_neg h,if_neg h];refine⟨by rw[qF];rfl,?_⟩;rw[qF];exact r.app (Ag.one q)
end
noncomputable def Uk(fs:FS):Rv->T->Option (Option T)
 |.t (.v ks ts),y=>(Lo y).map λk=>EG ks ts k
 |.t (.dF ks ts),y=>(Lo y).map λk=>EG ks ts k
 |.t (.dT ks ts),.tup y=>(Jv y).map λk=>EG ks ts k
 |.n i,y=>match AM fs i with
  |some (.v ks ts)=>(Lo y).map λk=>EG ks ts k
  |some (.dT ks ts)=>match y with
   |.tup y=>(Jv y).map λk=>EG ks ts k
   |_=>none
  |_=>none
 |_,_=>none
section
variable{K:Fg}{B:Nat->Option V}{F:Wd}{H:Hp}{U:St}{fs:FS}{x:Rv}{y:T}{u w:V}
theorem Og{o:Option T}(h:Okk K F B H fs U)(rx:B1 K F H U x u)(ry:AI K F H y w)(e:Uk fs x y=some o) :
  ∃a o',u=.ref a/\Me H a w o'/\((o=none/\o'=none)\/∃t v,o=some t/\o'=some v/\AI K F H t v):=by
 have key:∀{a:Addr}{af:List (Key×V)}{ts:List T},Rd H a (.v af)->Ag K F H ts (af.map (·.2))->(Lo y).map (λk=>EG (af.map (·.1)) ts k)=some o ->
   ∃o',Me H a w o'/\((o=none/\o'=none)\/∃t v,o=some t/\o'=some v/\AI K F H t v):=by
  intro a af ts hd r e;rw[qJ]at e;obtain⟨k,ek,eo⟩:=e;have:=Fm ek ry;subst this;refine⟨_,.inl ⟨af,k,hd,rfl,rfl⟩,?_⟩;rcases Hg (j:=k) r with⟨h1,h2⟩|⟨t,v,h1,h2,h3⟩
  .exact .inl ⟨eo.symm.trans h1,h2⟩
  .exact .inr ⟨t,v,eo.symm.trans h1,h2,h3⟩
 have UH:∀{a:Addr}{af:List (List Key×V)}{ts ys:List T},H a=some (.dT af)->Ag K F H ts (af.map (·.2))->y=.tup ys->(Jv ys).map (λk=>EG (af.map (·.1)) ts k)=some o ->
   ∃o',Me H a w o'/\((o=none/\o'=none)\/∃t v,o=some t/\o'=some v/\AI K F H t v):=by
  intro a af ts ys hd r ey e;rw[qJ]at e;obtain⟨k,ek,eo⟩:=e;subst ey;simp only[AI]at ry;obtain⟨b,vs,rfl,hb,rb⟩:=ry;have:=FH ek rb;subst this;refine⟨_,Me.t hd hb.2.2,?_⟩;rcases Hg (j:=k) r with⟨h1,h2⟩|⟨t,v,h1,h2,h3⟩
  .exact .inl ⟨eo.symm.trans h1,h2⟩
  .exact .inr ⟨t,v,eo.symm.trans h1,h2,h3⟩
 unfold Uk at e;split at e
 .simp only[B1,AI]at rx;obtain⟨a,af,rfl,f,hd,rfl,r⟩:=rx;obtain⟨o',h1,h2⟩:=key hd r e;exact⟨a,o',rfl,h1,h2⟩
 .simp only[B1,AI]at rx;obtain⟨a,af,rfl,f,⟨ob,hd⟩,rfl,r⟩:=rx;obtain⟨o',h1,h2⟩:=key (.inr ⟨ob,hd⟩) r e;exact⟨a,o',rfl,h1,h2⟩
 .simp only[B1,AI]at rx;obtain⟨a,af,rfl,f,hd,rfl,r⟩:=rx;obtain⟨o',h1,h2⟩:=UH hd r rfl e;exact⟨a,o',rfl,h1,h2⟩
 .rename_i y' i;have e2:U[i]?=some (some u):=rx;split at e
  .rename_i eo;obtain⟨v,L2,e1,q,_⟩:=h.own eo;rw[e1]at e2;have e3:v=u:=by simpa using e2
   subst e3;simp only[AD]at q;obtain⟨a,af,rfl,hd,rfl,r,_⟩:=q;obtain⟨o',h1,h2⟩:=key (.inl hd) r e;exact⟨a,o',rfl,h1,h2⟩
  .rename_i eo;split at e
   .obtain⟨v,L2,e1,q,_⟩:=h.own eo;rw[e1]at e2;have e3:v=u:=by simpa using e2
    subst e3;simp only[AD]at q;obtain⟨a,af,rfl,hd,rfl,r,_⟩:=q;obtain⟨o',h1,h2⟩:=UH hd r rfl e;exact⟨a,o',rfl,h1,h2⟩
   .cases e
  .cases e
 .cases e
end
noncomputable def NV:Rv->Rv->FS->Out Rv
 |x,.t y,fs=>match Uk fs x y with|some (some t)=>okT t fs|_=>.bad
 |_,_,_=>.bad
noncomputable def TK(neg:Bool):Rv->Rv->FS->Out Rv
 |.t y,x,fs=>match Uk fs x y with|some o=>okT (.o (if neg then !o.isSome else o.isSome)) fs|_=>.bad
 |_,_,_=>.bad
section
variable{X:Cx}{Z:Xp}{o i:Expr}{fo fi:FS->Out Rv}{pos:Pos}
end
noncomputable def R6:List Str->List T->Str->Option T
 |f::fs,t::ts,g=>if g==f then some t else R6 fs ts g
 |_,_,_=>none
noncomputable def Dx:List Str->List FO->Str->Option FO
 |f::fs,t::ts,g=>if g==f then some t else Dx fs ts g
 |_,_,_=>none
noncomputable def Y7(C:Addr)(f:Str):Rv->FS->Out Rv
 |.t (.ins C' fs ts),st=>if C'=C then match R6 fs ts f with|some t=>okT t st|none=>.bad
  else .bad
 |.n i,st=>match AM st i with
  |some (.ins C' fs os)=>if C'=C then match Dx fs os f with|some (.val t)=>okT t st|_=>.bad
   else .bad
  |_=>.bad
 |_,_=>.bad
theorem Kc{K:Fg}{F:Wd}{H:Hp}{g:Str}:∀{af:List (Str×V)}{ts:List T}{t:T},Ag K F H ts (af.map (·.2))->R6 (af.map (·.1)) ts g=some t->∃v,af.lookup g=some v/\AI K F H t v
 | [],ts,t,r,e=>by cases ts<;>simp[R6]at e
 |(k,v)::af,ts,t,r,e=>by cases ts with|nil=>simp[R6]at e|cons t' ts =>simp only[qm,Ag]at r;obtain⟨v',w',ee,r1,r2⟩:=r;cases ee;simp only[qm,R6]at e;rw[rF];cases hb:g==k with|true =>rw[hb]at e;cases e;exact⟨v,rfl,r1⟩|false =>rw[hb]at e;exact Kc r2 (by simpa using e)
theorem Ib{K:Fg}{F:Wd}{H:Hp}{g:Str}:∀{af:List (Str×V)}{ts:List FO}{L:List Addr}{t:FO},AA K F H ts (af.map (·.2)) L->Dx (af.map (·.1)) ts g=some t->∃v L',af.lookup g=some v/\AD K F H t v L'/\∀a∈L',a∈L
 | [],ts,L,t,r,e=>by cases ts<;>simp[Dx]at e
 |(k,v)::af,ts,L,t,r,e=>by cases ts with|nil=>simp[Dx]at e|cons t' ts =>simp only[qm,AA]at r;obtain⟨v',w',L1,L2,ee,r1,r2,rfl⟩:=r;cases ee;simp only[qm,Dx]at e;rw[rF];cases hb:g==k with|true =>rw[hb]at e;cases e;exact⟨v,L1,rfl,r1,λa m=>qG _ m⟩|false =>rw[hb]at e;obtain⟨v2,L',h1,h2,h3⟩:=Ib r2 (by simpa using e);exact⟨v2,L',h1,h2,λa m=>qB _ (h3 a m)⟩
noncomputable def UM(C:Addr)(f:Str)(fo:FS->Out Rv):FS->Out Rv:=λfs=>(fo fs).bnd λx fs=>Y7 C f x fs
section
variable{X:Cx}{Z:Xp}{o:Expr}{fo:FS->Out Rv}{pos:Pos}{C:Addr}{f:Str}
theorem Xc(c:Cls X.K C)(n:Dj X.K C f)(ho:FE X Z o fo)(hb:attributeBase o f X.env (eval o X.env)=eval o X.env:=by rfl):FE X Z (.Attribute o f pos) (UM C f fo):=by
 refine A5 (Ri ho hb) λU H Q ai => ?_
 obtain⟨F,B,fs,ok,s⟩:= ai;refine⟨F,B,fs,ok,AQ s λx ag F1 H1 u l aq rx s1=>?_⟩;unfold Y7 at s1;split at s1
 .rename_i C' gs ts;split at s1
  .rename_i hC;subst hC;split at s1
   next t e=>simp only[B1,AI]at rx;obtain⟨a,dx,af,rfl,ff,hd,rfl,r⟩:=rx;obtain⟨v,e1,rv⟩:=Kc r e;exact⟨a,C',dx,af,v,rfl,hd,c,n,e1,s1 F1 H1 v Le.refl (RR.of aq rv)⟩
   .exact s1.elim
  .exact s1.elim
 .rename_i i;split at s1
  .rename_i C' gs os eo;split at s1
   .rename_i hC;subst hC;split at s1
    .rename_i t e;obtain⟨v,L2,e1,q,_⟩:=aq.own eo;have e2:U[i]?=some (some u):=rx;rw[e1]at e2;have e3:v=u:=by simpa using e2
     subst e3;simp only[AD]at q;obtain⟨a,dx,af,L',rfl,hd,rfl,r,_⟩:=q;obtain⟨v2,L3,e4,r4,_⟩:=Ib r e;simp only[AD]at r4;exact⟨a,C',dx,af,v2,rfl,hd,c,n,e4,s1 F1 H1 v2 Le.refl (RR.of aq r4.2)⟩
    .exact s1.elim
   .exact s1.elim
  .exact s1.elim
 .exact s1.elim
end
def Fp(K:Fg)(Z:Xp)(B:Nat->Option V)(F:Wd)(H:Hp)(o:SO)(D:Ends):Prop:=match o with|.nx fs=>∀F' H' U,Le F H F' H'->Okk K F' B H' fs U->D.nx U H'|.ret r fs=>∀F' H' U u,Le F H F' H'->RR K B U F' H' fs r u->D.rt u H'|.brk fs=>∀F' H' U,Le F H F' H'->Okk K F' B H' fs U->D.bk U H'|.cnt fs=>∀F' H' U,Le F H F' H'->Okk K F' B H' fs U->D.ct U H'|.exc c fs=>Z.p F B H c fs|.bad=>False
def tSt(K:Fg)(Z:Xp)(g:FS->SO):TS:=λD U H=>∃F B fs,Okk K F B H fs U/\Fp K Z B F H (g fs) D
def GS(X:Cx)(Z:Xp)(st:Stmt)(g:FS->SO):Prop:=PS X st (tSt X.K Z g)
def GSs(X:Cx)(Z:Xp)(kD:List Stmt)(g:FS->SO):Prop:=PSs X kD (tSt X.K Z g)
theorem Fp.le{K:Fg}{Z:Xp}{B:Nat->Option V}{F F':Wd}{H H':Hp}{o:SO}{D:Ends}(h:Fp K Z B F H o D)(l:Le F H F' H'):Fp K Z B F' H' o D:=by
 cases o with
 |nx fs=>exact λF2 H2 U l2 k=>h F2 H2 U (l.trans l2) k
 |ret r fs=>exact λF2 H2 U u l2 k=>h F2 H2 U u (l.trans l2) k
 |brk fs=>exact λF2 H2 U l2 k=>h F2 H2 U (l.trans l2) k
 |cnt fs=>exact λF2 H2 U l2 k=>h F2 H2 U (l.trans l2) k
 |exc c fs=>exact Z.mono h l
 |bad=>exact h
noncomputable def nxS:FS->SO:=λfs=>.nx fs
noncomputable def Av(g h:FS->SO):FS->SO:=λfs=>match g fs with|.nx fs=>h fs|o=>o
noncomputable def SO.of{α:Type}(o:Out α)(k:α->FS->SO):SO:=match o with|.ok a fs=>k a fs|.exc c fs=>.exc c fs|.bad=>.bad
theorem BB{K:Fg}{Z:Xp}{B:Nat->Option V}{F:Wd}{H:Hp}{α β:Type}{R:Wd->Hp->FS->α->β->Prop}{o:Out α}{k:α->FS->SO}{D:Ends}{Q:β->Hp->Prop}(h:Fp K Z B F H (SO.of o k) D)
  (hk:∀a fs F' H' b,Le F H F' H'->R F' H' fs a b->Fp K Z B F' H' (k a fs) D->Q b H'):sat Z B R F H o Q:=by
 cases o with
 |ok a fs=>exact λF2 H2 b l r=>hk a fs F2 H2 b l r (Fp.le h l)
 |exc c fs=>exact h
 |bad=>exact h
noncomputable def MM(i:Nat)(r:Rv)(fs:FS):Option FS:=match r with|.t t=>some (fs.set i (some (.val t)))|.nw o=>some (fs.set i (some (.own o)))|.n _=>none
noncomputable def Hi(i:Nat)(r:Rv)(fs:FS):Option FS:=match fs[i]? with|none=>none|some (some (.bor _))=>none|some _=>MM i r fs
theorem EI{K:Fg}{B:Nat->Option V}{U:St}{F:Wd}{H:Hp}{fs aj:FS}{r:Rv}{u:V}{i:Nat}(h:RR K B U F H fs r u)(e:Hi i r fs=some aj):Okk K F B H aj (U.set i (some u)):=by
 obtain⟨L,L',ok,q,nd,nf⟩:=h;have key:∀s:Option Sl,fs[i]?=some s->(∀o,s≠some (.bor o))->MM i r fs=some aj->Okk K F B H aj (U.set i (some u)):=by
  intro s es hb e;obtain⟨v,L1,L2,L3,e1,rfl,h1,h2⟩:=ok.sl.pick es;have cV:∀a∈L',a∉L1++L3:=λa m m2=>(qp.mp nd).2.2 a (by
   rcases qC.mp m2 with m2|m2
   .simp[m2]
   .simp[m2]) a m rfl
  have jl:∀a∈L1++(L'++L3),¬F a/\¬F.p a:=λa m=>by
   rcases qC.mp m with m|m
   .exact⟨ok.nf a (by simp[m]),ok.pl a (by simp[m])⟩
   .rcases qC.mp m with m|m
    .exact nf a m
    .exact⟨ok.nf a (by simp[m]),ok.pl a (by simp[m])⟩
  cases r with|t t =>cases e;obtain⟨rfl,q⟩:=q;refine⟨L1++([]++L3),h2 F H (some (.val t)) (some u) [] Le.refl (λ_ _=>rfl) ⟨u,rfl,q,rfl⟩,BU ok.nd qU (λ_ m=>nomatch m),λa m=>(jl a m).1,ok.fd,?_,ok.pd,ok.pf,λa m=>(jl a m).2⟩;exact EF.put ok.bo (λo eo=>by cases eo) ok.sl.len|nw o =>cases e;refine⟨L1++(L'++L3),h2 F H (some (.own o)) (some u) L' Le.refl (λ_ _=>rfl) ⟨u,rfl,q⟩,BU ok.nd (qp.mp nd).2.1 cV,λa m=>(jl a m).1,ok.fd,?_,ok.pd,ok.pf,λa m=>(jl a m).2⟩;exact EF.put ok.bo (λo eo=>by cases eo) ok.sl.len|n j=>cases e
 unfold Hi at e;split at e
 .cases e
 .cases e
 next s hb es=>exact key s es (λo z=>hb o z) e
noncomputable def Ay(i:Nat)(f:FS->Out Rv):FS->SO:=λfs=>SO.of (f fs) λr fs=>match Hi i r fs with|some fs=>.nx fs|none=>.bad
noncomputable def AS(f:FS->Out Rv):FS->SO:=λfs=>SO.of (f fs) λ_ fs=>.nx fs
noncomputable def retS(f:FS->Out Rv):FS->SO:=λfs=>SO.of (f fs) λr fs=>.ret r fs
noncomputable def ifS(c:FS->Out Bool)(g h:FS->SO):FS->SO:=λfs=>SO.of (c fs) λb fs=>if b=true then g fs else h fs
section
variable{X:Cx}{Z:Xp}{st:Stmt}{rest a b:List Stmt}{e c:Expr}{f:FS->Out Rv}{fc:FS->Out Bool}{g h:FS->SO}{pos:Pos}
theorem Tr:GSs X Z [] nxS:=MN Sm λD U H ⟨F,B,fs,ok,s⟩=>s F H U Le.refl ok
theorem P4(h1:GS X Z st g)(h2:GSs X Z rest h):GSs X Z (st::rest) (Av g h):=by
 refine MN (Pb h1 h2) λD U H ai => ?_
 obtain⟨F,B,fs,ok,s⟩:= ai;refine⟨F,B,fs,ok,?_⟩;unfold Av at s;cases e:g fs with
 |nx ag =>rw[e]at s;exact λF1 H1 di l k=>⟨F1,B,ag,k,Fp.le s l⟩
 |ret r ag=>rw[e]at s;exact s
 |brk ag=>rw[e]at s;exact s
 |cnt ag=>rw[e]at s;exact s
 |exc c ag=>rw[e]at s;exact s
 |bad=>rw[e]at s;exact s
theorem Tq(h1:GS X Z st g):GSs X Z [st] g:=Sk h1
theorem Ts(he:FE X Z e f)(hs:swapsWith e none pos.line X.env=pure false:=by rfl):GS X Z (.Expr e pos) (AS f) :=
 BS (Jy he hs) λD U H ⟨F,B,fs,ok,s⟩=>⟨F,B,fs,ok,BB s λr ag F1 H1 u l q s1=>s1 F1 H1 U Le.refl q.ok⟩
theorem Wv(he:FE X Z e f):GS X Z (.Return (some e) pos) (retS f) :=
 BS (Vo he) λD U H ⟨F,B,fs,ok,s⟩=>⟨F,B,fs,ok,BB s λr ag F1 H1 u l q s1=>s1 F1 H1 U u Le.refl q⟩
theorem Y3(hc:FT X Z c fc)(ha:GSs X Z a g)(hb:GSs X Z b h):GS X Z (.If c a b pos) (ifS fc g h):=by
 refine BS (Ys hc ha hb) λD U H ai => ?_
 obtain⟨F,B,fs,ok,s⟩:= ai;refine⟨F,B,fs,ok,BB s λr ag F1 H1 u l q s1=>?_⟩;obtain⟨aq,rfl⟩:=q;cases u with|true =>rw[if_pos rfl]at s1 ⊢;exact⟨F1,B,ag,aq,s1⟩|false =>rw[if_neg (by decide)]at s1 ⊢;exact⟨F1,B,ag,aq,s1⟩
theorem Vb{i:Nat}{D:Ends}{U:St}{H:Hp}{K:Fg}(s:tSt K Z (Ay i f) D U H):U5 (tF K Z f) (Qh i) D U H:=by
 obtain⟨F,B,fs,ok,s⟩:=s;refine⟨F,B,fs,ok,BB s λr ag F1 H1 u l q s1=>?_⟩;split at s1
 next ax e2=>exact s1 F1 H1 _ Le.refl (EI q e2)
 .exact s1.elim
theorem Wu(i:Nat){x:Str}{ay:Pos}(hN:X.N.Nodup)(hx:Loc X.env.scope x)(he:FE X Z e f)(hi:X.N[i]?=some x:=by rfl)(hs:swapsWith e (some (.Name x ay)) pos.line X.env=pure false:=by rfl)(hf:X.fn x=true\/X.env.scope.names.lookup x=some .local:=by first|exact .inl rfl|exact .inr rfl|assumption) :
  GS X Z (.Assign [.Name x ay] e pos) (Ay i f) :=
 BS (Vn hN hi hx he hs hf) λ_ _ _ s=>Vb s
end
def tG(K:Fg)(gt:T->FS->Option FS):TG:=λv U H Q=>∃F B fs t,Okk K F B H fs U/\AI K F H t v/\match gt t fs with|some aj=>∀F' H' ak,Le F H F' H'->Okk K F' B H' aj ak->Q ak H'|none=>False
noncomputable def tGs(K:Fg)(gt:List T->FS->Option FS):TGs:=λvs U H Q=>∃F B fs ts,Okk K F B H fs U/\Ag K F H ts vs/\match gt ts fs with|some aj=>∀F' H' ak,Le F H F' H'->Okk K F' B H' aj ak->Q ak H'|none=>False
def GT(X:Cx)(tg:Expr)(gt:T->FS->Option FS):Prop:=PG X tg (tG X.K gt)
def GTs(X:Cx)(pK:List Expr)(gt:List T->FS->Option FS):Prop:=PGs X pK (tGs X.K gt)
theorem Rh{X:Cx}{e:Expr}{t t':TG}(h:PG X e t)(i:∀v U H Q,t' v U H Q->t v U H Q):PG X e t':=λaa s U H v u Q I r q=>h aa s U H v u Q I r (i _ _ _ _ q)
theorem MU{X:Cx}{e:List Expr}{t t':TGs}(h:PGs X e t)(i:∀v U H Q,t' v U H Q->t v U H Q):PGs X e t':=λaa s U H v u Q I r q=>h aa s U H v u Q I r (i _ _ _ _ q)
noncomputable def tgN(i:Nat):T->FS->Option FS:=λt fs=>Hi i (.t t) fs
noncomputable def Bl:List T->FS->Option FS
 | [],fs=>some fs
 |_,_=>none
noncomputable def Ap(g:T->FS->Option FS)(h:List T->FS->Option FS):List T->FS->Option FS
 |t::ts,fs=>(g t fs).bind λfs=>h ts fs
 |_,_=>none
noncomputable def Bo(n:Nat)(h:List T->FS->Option FS):T->FS->Option FS
 |.tup ts,fs=>if ts.length=n then h ts fs else none
 |_,_=>none
section
variable{X:Cx}{e:Expr}{es:List Expr}{g:T->FS->Option FS}{h:List T->FS->Option FS}{pos:Pos}
theorem Gd(i:Nat){x:Str}(hN:X.N.Nodup)(hx:Loc X.env.scope x)(hi:X.N[i]?=some x:=by rfl)(hf:X.fn x=true\/X.env.scope.names.lookup x=some .local:=by first|exact .inl rfl|exact .inr rfl|assumption):GT X (.Name x pos) (tgN i):=by
 refine Rh (Su hN hi hx hf) λv U H Q ai=>?_
 obtain⟨F,B,fs,t,ok,r,s⟩:= ai;split at s
 next aj e=>exact s F H _ Le.refl (EI (RR.of (r:=.t t) ok r) e)
 .exact s.elim
theorem Tp:GTs X [] Bl:=by
 refine MU Ss λv U H Q ai=>?_
 obtain⟨F,B,fs,ts,ok,r,s⟩:= ai;cases ts with|nil=>exact⟨r,s F H U Le.refl ok⟩|cons t ts=>exact s.elim
theorem KN(h1:GT X e g)(h2:GTs X es h)
  (hc:∀{t:TG}{u:TGs},PG X e t->PGs X es u->PGs X (e::es) (WD t u)):GTs X (e::es) (Ap g h):=by
 refine MU (hc h1 h2) λv U H Q ai=>?_
 obtain⟨F,B,fs,ts,ok,r,s⟩:= ai;cases ts with
 |nil=>exact s.elim
 |cons t ts =>
  simp only[Ag]at r;obtain⟨v',w,rfl,r1,r2⟩:=r;refine⟨v',w,rfl,F,B,fs,t,ok,r1,?_⟩;simp only[Ap]at s;cases e1:g t fs with
  |none=>rw[e1]at s;exact s.elim
  |some ag =>
   rw[e1]at s;exact λF1 H1 di l k=>⟨F1,B,ag,ts,k,r2.le l,by
    simp only[rA]at s;split at s
    .exact λF2 H2 eE l2 k2=>s F2 H2 eE (l.trans l2) k2
    .exact s.elim⟩
theorem RD{k n:Nat}(hc:X.calm=true)(h1:GTs X es h)(hn:(assignEach es X.env).length=n:=by rfl)(bG:(assignEach es X.env).findIdx? (·.1)=none:=by rfl):GT X (.Tuple es k pos) (Bo n h):=by
 refine Rh (Vu hc h1 hn bG) λv U H Q ai=>?_
 obtain⟨F,B,fs,t,ok,r,s⟩:= ai;unfold Bo at s;split at s
 .rename_i aj e;split at e
  .rename_i ts;split at e
   next hl=>simp only[AI]at r;obtain⟨a,vs,rfl,hs,r⟩:=r;refine⟨a,vs,rfl,hs.sq,by rw[r.len];exact hl,F,B,fs,ts,ok,r,?_⟩;rw[e];exact s
   .cases e
  .cases e
 .exact s.elim
end
noncomputable def XG(f:FS->Out Rv)(g:T->FS->Option FS):FS->SO:=λfs=>SO.of (f fs) λr fs=>match r with
 |.t t=>match g t fs with|some fs=>.nx fs|none=>.bad
 |_=>.bad
section
variable{X:Cx}{Z:Xp}{e tg:Expr}{f:FS->Out Rv}{g:T->FS->Option FS}{pos:Pos}
theorem Wz(he:FE X Z e f)(hg:GT X tg g)(hs:swapsWithSole [tg] e pos.line X.env=pure false:=by rfl)(hw:swappedStores [tg] e X.env=pure none:=by rfl)
  (h1:(assignEach [tg] X.env).map (·.2)=[assign tg X.env]:=by rfl):GS X Z (.Assign [tg] e pos) (XG f g):=by
 refine BS (Q9 he hg hs hw h1) λD U H ai => ?_
 obtain⟨F,B,fs,ok,s⟩:= ai;refine⟨F,B,fs,ok,BB s λr ag F1 H1 u l q s1=>?_⟩;split at s1
 .rename_i t;obtain⟨L,L',o1,⟨_,q⟩,_⟩:=q;refine⟨F1,B,ag,t,⟨L,o1⟩,q,?_⟩;split at s1
  next ax e2=>exact λF2 H2 eE l2 k2=>s1 F2 H2 eE l2 k2
  .exact s1.elim
 .exact s1.elim
end
def Nw(K:Fg)(F:Wd)(H:Hp)(F':Wd)(H':Hp):Prop:=Le F H F' H'/\∀B fs U,Okk K F B H fs U->Okk K F' B H' fs U
theorem Nw.refl{K:Fg}{F:Wd}{H:Hp}:Nw K F H F H:=⟨Le.refl,λ_ _ _ h=>h⟩
def JOk(K:Fg)(F:Wd)(H:Hp)(J:It)(ts:List T):Prop:=∀(F':Wd)(H':Hp),(∀a,F a->F' a/\H' a=H a)->(∃B fs U,Okk K F' B H' fs U)->∀i,(∀t,ts[i]?=some t->J.go i H'/\∀x eQ,J.zq i H' x eQ->∃F'',Nw K F' H' F'' eQ/\AI K F'' eQ t x)/\(ts.length<=i->J.stop i H')
theorem JOk.within{K:Fg}{F:Wd}{p:Addr->Prop}{H:Hp}{J:It}{ts:List T}(h:JOk K F H J ts):JOk K ⟨F.f,p⟩ H J ts:=λF2 H2 l2=>h F2 H2 l2
theorem Ag.lf{K:Fg}{F F':Wd}{H H':Hp}{ts:List T}{vs:List V}(l:∀a,F a->F' a/\H' a=H a)(r:Ag K F H ts vs):Ag K F' H' ts vs :=
 Ag.le (F:=⟨F.f,λ_=>False⟩) ⟨l,λ_ z=>z.elim⟩ (Ag.wp r)
theorem StL.lf{K:Fg}{F F':Wd}{H H':Hp}{a:Addr}{vs:List V}(l:∀a,F a->F' a/\H' a=H a)(r:StL K F H a vs):StL K F' H' a vs:=by
 rcases r with⟨f,h⟩|h
 .exact .inl ⟨(l a f).1,FL.Rd.same h (l a f).2⟩
 .exact .inr h
theorem stays{K:Fg}{F:Wd}{H H':Hp}{t:T}{x:V}(e:H'=H)(r:AI K F H t x):∃F',Nw K F H F' H'/\AI K F' H' t x:=by subst e;exact⟨F,Nw.refl,r⟩
def RJ(K:Fg)(B:Nat->Option V)(U:St):Wd->Hp->FS->List T->It->Prop:=λF H fs ts J=>Okk K F B H fs U/\JOk K F H J ts
def tI(K:Fg)(Z:Xp)(f:FS->Out (List T)):TI:=λU H R=>∃F B fs,Okk K F B H fs U/\sat Z B (RJ K B U) F H (f fs) R
def FI(X:Cx)(Z:Xp)(tg aw:Expr)(f:FS->Out (List T)):Prop:=PI X tg aw (tI X.K Z f)
theorem Kp{X:Cx}{tg e:Expr}{t t':TI}(h:PI X tg e t)(i:∀U H Q,t' U H Q->t U H Q):PI X tg e t':=λaa s U H Q I q=>h aa s U H Q I (i _ _ _ q)
noncomputable def signs(z:Str):List T:=z.cps.toList.map λc=>T.str ⟨#[c]⟩
noncomputable def upTo(lo:Int)(n:Nat):List T:=(List.range n).map λi=>T.int (lo+(i:Nat))
noncomputable def ON(lo st:Int)(n:Nat):List T:=(List.range n).map λi=>T.int (lo+(i:Nat)*st)
noncomputable def GF(f:FS->Out (List Rv)):FS->Out (List T):=λfs=>(f fs).bind λrs fs=>match rs with| [.t (.int j)]=>if -(2^62)<=j/\j<2^62 then .ok (upTo 0 j.toNat) fs else .bad|_=>.bad
noncomputable def PR(f:FS->Out (List Rv)):FS->Out (List T):=λfs=>(f fs).bind λrs fs=>match rs with| [.t (.int i),.t (.int j),.t (.int c)]=>if 0<c/\c<1073741824/\Builtin.Range.small i j c=true/\0<=Builtin.Range.rangeSize i j c then .ok (ON i c (Builtin.Range.rangeSize i j c).toNat) fs else .bad|_=>.bad
section
variable{X:Cx}{Z:Xp}{tg l a b c:Expr}{f:FS->Out Rv}{fa:FS->Out (List Rv)}{p pos:Pos}{K:Fg}{F:Wd}{H:Hp}
theorem Kz{a:Addr}{vs:List V}{ts:List T}(hs:∀(F':Wd) H',(∀a,F a->F' a/\H' a=H a)->SqL K H' a vs)(r:Ag K F H ts vs):JOk K F H (Itl K a) ts:=by intro F' H' l _ i;have r':=Ag.lf l r;refine⟨λt et=>?_,λhl=>⟨vs,hs F' H' l,by rw[r.len];exact hl⟩⟩;obtain⟨v,ev,rv⟩:=r'.at et;refine⟨⟨vs,v,hs F' H' l,ev⟩,λx eQ hy=>stays hy.1 ?_⟩;have:=hy.2 vs (hs F' H' l);rw[ev]at this;cases this;exact rv
theorem Tg{a:Addr}{vs:List V}{ts:List T}(hs:∀(F':Wd) H',(∀a,F a->F' a/\H' a=H a)->SqT K H' a vs)(r:Ag K F H ts vs):JOk K F H (Itt K a) ts:=by intro F' H' l _ i;have r':=Ag.lf l r;refine⟨λt et=>?_,λhl=>⟨vs,hs F' H' l,by rw[r.len];exact hl⟩⟩;obtain⟨v,ev,rv⟩:=r'.at et;refine⟨⟨vs,v,hs F' H' l,ev⟩,λx eQ hy=>stays hy.1 ?_⟩;have:=hy.2 vs (hs F' H' l);rw[ev]at this;cases this;exact rv
theorem ND{lo:Int}{n:Nat}:JOk K F H (Itr lo n) (upTo lo n):=by
 intro F' H' l _ i;refine⟨λt et=>?_,λhl=>by unfold upTo at hl;simpa[Itr]using hl⟩;unfold upTo at et;rw[qX]at et;have hi:i<n:=by
  by_cases h:i<n
  .exact h
  .rw[rq (by simpa using h)]at et;cases et
 rw[se hi]at et;cases et;exact⟨hi,λx eQ hy=>stays hy.1 hy.2⟩
theorem LO{lo st:Int}{n:Nat}:JOk K F H (X6 lo st n) (ON lo st n):=by
 intro F' H' l _ i;refine⟨λt et=>?_,λhl=>by unfold ON at hl;simpa[X6]using hl⟩;unfold ON at et;rw[qX]at et;have hi:i<n:=by
  by_cases h:i<n
  .exact h
  .rw[rq (by simpa using h)]at et;cases et
 rw[se hi]at et;cases et;exact⟨hi,λx eQ hy=>stays hy.1 hy.2⟩
theorem Th{z:Str}:JOk K F H (Its z) (signs z):=by
 intro F' H' l _ i;refine⟨λt et=>?_,λhl=>by unfold signs at hl;simpa[Its]using hl⟩;unfold signs at et;rw[qX,qJ]at et;obtain⟨c,ec,rfl⟩:=et;have hi:i<z.cps.size:=by have:=(qN.mp ec).1;simpa using this
 refine⟨hi,λx eQ hy=>stays hy.1 ?_⟩;obtain⟨c',e1,e2⟩:=hy.2;rw[Array.getElem?_toList]at ec;rw[ec]at e1;cases e1;exact e2
theorem N2(hm:X.mg "range"=none)(ha:FA X Z [a] fa)(hg:Gl X "range":=by rfl)(hs:starEach [a] X.env=[(false,eval a X.env)]:=by rfl):FI X Z tg (.Call (.Name "range" p) [a] [] pos) (GF fa):=by
 refine Kp (MT hg hm ha hs) λU H Q ai => ?_
 obtain⟨F,B,fs,ok,s⟩:= ai;refine⟨F,B,fs,ok,AL s λrs ag F1 H1 us l q s1=>?_⟩;obtain⟨aq,q⟩:=q;split at s1
 .rename_i j;split at s1
  next hj=>obtain⟨v,rfl,qq⟩:=Br q;have q:=qq;cases q;exact⟨j,rfl,hj.1,hj.2,s1 F1 H1 _ Le.refl ⟨aq,ND⟩⟩
  .exact s1.elim
 .exact s1.elim
theorem N1(ha:FA X Z [a,b,c] fa)
  (h:∀{ta:TA},PA X [a,b,c] ta->PI X tg (.Call (.Name "range" p) [a,b,c] [] pos) (Ws ta)):FI X Z tg (.Call (.Name "range" p) [a,b,c] [] pos) (PR fa):=by
 refine Kp (h ha) λU H Q ai => ?_
 obtain⟨F,B,fs,ok,s⟩:= ai;refine⟨F,B,fs,ok,AL s λrs ag F1 H1 us l q s1=>?_⟩;obtain⟨aq,q⟩:=q;split at s1
 .rename_i i j k;split at s1
  next hj=>obtain⟨v,w,rfl,q1,v2,w2,rfl,q2,v3,w3,rfl,q3,q4⟩:=q;cases q1;cases q2;cases q3;cases q4;exact⟨i,j,k,rfl,hj.1,hj.2.1,hj.2.2.1,hj.2.2.2,s1 F1 H1 _ Le.refl ⟨aq,LO⟩⟩
  .exact s1.elim
 .exact s1.elim
end
noncomputable def Cy(gt:T->FS->Option FS)(body:FS->SO):List T->FS->SO
 | [],fs=>.nx fs
 |t::ts,fs=>match gt t fs with|none=>.bad|some fs=>match body fs with|.nx fs=>Cy gt body ts fs|.cnt fs=>Cy gt body ts fs|.brk fs=>.nx fs|o=>o
noncomputable def Dd(src:FS->Out (List T))(gt:T->FS->Option FS)(body:FS->SO):FS->SO:=λfs=>SO.of (src fs) λts fs=>Cy gt body ts fs
section
variable{X:Cx}{Z:Xp}{tg aw c:Expr}{src:FS->Out (List T)}{gt:T->FS->Option FS}{g:FS->SO}{body:List Stmt}{pos:Pos}{fc:FS->Out Bool}
theorem Ww(hp:PassesOwn (model X.prog X.w) X.A X.env X.xe)(hc:X.calm=true)(hi:FI X Z tg aw src)(hg:GT X tg gt)(hb:GSs X Z body g)
  (hs:∀x,foldedSetIterable aw X.env x=pure x:=by intro _;rfl):GS X Z (.For tg aw body [] pos) (Dd src gt g):=by
 refine BS (Vp hp hc hi hg hb hs) λD U H ai => ?_
 obtain⟨F,B,fs,ok,s⟩:= ai;refine⟨F,B,fs,ok,BB s λts ag F1 H1 J l q s1=>?_⟩;obtain⟨aq,jk⟩:=q;refine⟨λi m U H=>m=ts.length-i/\∃F' aj,Le F1 H1 F' H/\Okk X.K F' B H aj U/\Fp X.K Z B F' H (Cy gt g (ts.drop i) aj) D,⟨ts.length,rfl,F1,ag,Le.refl,aq,s1⟩,?_⟩
 rintro i m U H ⟨rfl,F2,ax,l2,aG,s2⟩
 by_cases hi:i<ts.length
 .refine .inr ?_;have ei:ts[i]?=some ts[i]:=qo hi;have ed:ts.drop i=ts[i]::ts.drop (i+1):=rY hi;rw[ed]at s2;obtain⟨j1,j2⟩:=(jk F2 H l2.f ⟨_,_,_,aG⟩ i).1 _ ei;refine⟨j1,λak H'=>∃F' aj,Le F1 H1 F' H'/\Okk X.K F' B H' aj ak/\Fp X.K Z B F' H' (Cy gt g (ts.drop (i+1)) aj) D,λak H' h=>⟨ts.length-(i+1),by lia,rfl,h⟩,λx H' hy=>?_⟩;obtain⟨lY,⟨lB,nw⟩,rx⟩:=j2 x H' hy;replace l2:=l2.trans lB;replace s2:=Fp.le s2 lB;replace aG:=nw _ _ _ aG;refine⟨lY,B,ax,ts[i],aG,rx,?_⟩;simp only[Cy]at s2;cases eg:gt ts[i] ax with
  |none=>rw[eg]at s2;exact s2.elim
  |some dk =>
   rw[eg]at s2;intro F3 H3 dm l3 cH;refine⟨F3,B,dk,cH,?_⟩;have s3:=Fp.le s2 l3;simp only at s3;cases eb:g dk with
   |nx cB =>rw[eb]at s3;exact λF4 H4 kG l4 dX=>⟨F4,cB,(l2.trans l3).trans l4,dX,Fp.le s3 l4⟩
   |cnt cB =>rw[eb]at s3;exact λF4 H4 kG l4 dX=>⟨F4,cB,(l2.trans l3).trans l4,dX,Fp.le s3 l4⟩
   |brk cB=>rw[eb]at s3;exact s3
   |ret r cB=>rw[eb]at s3;exact s3
   |exc c cB=>rw[eb]at s3;exact s3
   |bad=>rw[eb]at s3;exact s3
 .refine .inl ⟨(jk F2 H l2.f ⟨_,_,_,aG⟩ i).2 (by lia),?_⟩;rw[tL (by lia)]at s2;exact s2 F2 H U Le.refl aG
noncomputable def BG(c:FS->Out Bool)(body:FS->SO):Nat->FS->SO
 |0,_=>.bad
 |n+1,fs=>SO.of (c fs) λb fs=>if b=true then(match body fs with|.nx fs=>BG c body n fs|.cnt fs=>BG c body n fs|.brk fs=>.nx fs|o=>o)else .nx fs
theorem P5(n:Nat)(hp:PassesOwn (model X.prog X.w) X.A X.env X.xe)(hc:FT X Z c fc)(hb:GSs X Z body g):GS X Z (.While c body [] pos) (BG fc g n):=by
 refine BS (Pc hp hc hb) λD U H ai=>?_
 obtain⟨F,B,fs,ok,s⟩:= ai;refine⟨λm ak H'=>∃F' aj,Le F H F' H'/\Okk X.K F' B H' aj ak/\Fp X.K Z B F' H' (BG fc g m aj) D,⟨n,F,fs,Le.refl,ok,s⟩,?_⟩
 rintro m di H1 ⟨F1,ag,l1,aq,s1⟩
 cases m with
 |zero=>exact s1.elim
 |succ m =>
  refine⟨F1,B,ag,aq,BB s1 λb ax F2 H2 b' l2 q s2=>?_⟩;obtain⟨aG,rfl⟩:=q;cases b' with
  |false =>rw[if_neg (by decide)]at s2 ⊢;exact s2 F2 H2 di Le.refl aG
  |true =>
   rw[if_pos rfl]at s2 ⊢;refine⟨λak H'=>∃F' aj,Le F H F' H'/\Okk X.K F' B H' aj ak/\Fp X.K Z B F' H' (BG fc g m aj) D,λak H' h=>⟨m,by lia,h⟩,F2,B,ax,aG,?_⟩;cases eb:g ax with
   |nx cB =>rw[eb]at s2;exact λF4 H4 kG l4 dX=>⟨F4,cB,(l1.trans l2).trans l4,dX,Fp.le s2 l4⟩
   |cnt cB =>rw[eb]at s2;exact λF4 H4 kG l4 dX=>⟨F4,cB,(l1.trans l2).trans l4,dX,Fp.le s2 l4⟩
   |brk cB=>rw[eb]at s2;exact s2
   |ret r cB=>rw[eb]at s2;exact s2
   |exc c cB=>rw[eb]at s2;exact s2
   |bad=>rw[eb]at s2;exact s2
end
section
variable{K:Fg}{F F':Wd}{H H':Hp}{B:Nat->Option V}{fs:FS}{U:St}{L:List Addr}
theorem Ax.toP:∀{fs:FS}{U:St}{L:List Addr},Ax K F H fs U L->∃aW:Nat->List Addr,(∀i s,fs[i]?=some s->∃v,U[i]?=some v/\J8 K F H s v (aW i))/\(∀i a,a∈aW i->a∈L) /\
  (L.Nodup->(∀i,(aW i).Nodup)/\∀i j a,i≠j->a∈aW i->a∉aW j)/\∀i,fs.length<=i->aW i=[]
 | [],U,L,h=>⟨λ_=>[],(λi s e=>by simp at e),(λi a m=>nomatch m),(λ_=>⟨λ_=>qU,(λ_ _ _ _ m=>nomatch m)⟩),λ_ _=>rfl⟩
 |s::r,U,L,h=>by
  obtain⟨v,ak,L1,L2,rfl,h1,h2,rfl⟩:=h.Ie;obtain⟨aW,q1,q2,q3,q4⟩:=Ax.toP h2;refine⟨λi=>match i with|0=>L1|i+1=>aW i,λi s' e=>?_,λi a m=>?_,λnd=>?_,λi hi=>?_⟩
  .cases i with|zero =>simp at e;subst e;exact⟨v,rfl,h1⟩|succ i =>obtain⟨w,e1,e2⟩:=q1 i s' (by simpa using e);exact⟨w,by simpa using e1,e2⟩
  .cases i with|zero=>exact qG _ m|succ i=>exact qB _ (q2 i a m)
  .rw[qp]at nd;obtain⟨n1,n2,n3⟩:=nd;obtain⟨m1,m2⟩:=q3 n2;refine⟨λi=>?_,λi j a fP hi hj=>?_⟩
   .cases i with|zero=>exact n1|succ i=>exact m1 i
   .cases i with
    |zero =>cases j with|zero=>exact fP rfl|succ j=>exact n3 a hi a (q2 j a hj) rfl
    |succ i =>cases j with|zero=>exact n3 a hj a (q2 i a hi) rfl|succ j=>exact m2 i j a (λe=>fP (by rw[e])) hi hj
  .cases i with|zero=>simp at hi|succ i=>exact q4 i (by simpa using hi)
theorem Ax.ofP:∀{fs:FS}{U:St}(aW:Nat->List Addr),U.length=fs.length->(∀i s,fs[i]?=some s->∃v,U[i]?=some v/\J8 K F H s v (aW i))->(∀i,(aW i).Nodup)->(∀i j a,i≠j->a∈aW i->a∉aW j) ->
  ∃L,Ax K F H fs U L/\L.Nodup/\∀a∈L,∃i,i<fs.length/\a∈aW i
 | [],U,aW,hl,h,nd,dj=>by have:U=[]:=rn (by simpa using hl);subst this;exact⟨[],⟨rfl,rfl⟩,qU,λ_ m=>nomatch m⟩
 |s::r,[],aW,hl,h,nd,dj=>by simp at hl
 |s::r,v::U,aW,hl,h,nd,dj=>by
  obtain⟨L,h1,h2,h3⟩:=Ax.ofP (fs:=r) (U:=U) (λi=>aW (i+1)) (by simpa using hl) (λi s' e=>by obtain⟨w,e1,e2⟩:=h (i+1) s' (by simpa using e);exact⟨w,by simpa using e1,e2⟩) (λi=>nd (i+1)) (λi j a fP=>dj (i+1) (j+1) a (by lia));obtain⟨w,e1,e2⟩:=h 0 s rfl;simp at e1;subst e1;refine⟨aW 0++L,Ax.cons e2 h1,?_,λa m=>?_⟩
  .rw[qp];refine⟨nd 0,h2,λa ha b hb e=>?_⟩;obtain⟨i,_,hi⟩:=h3 b hb;exact dj 0 (i+1) a (by lia) ha (by rw[e];exact hi)
  .rcases qC.mp m with m|m
   .exact⟨0,by simp,m⟩
   .obtain⟨i,hi,q⟩:=h3 a m;exact⟨i+1,by simp;exact hi,q⟩
theorem Ok.take(h:Ok K F B H fs U L)(n:Nat):∃L',Ok K F B H (fs.take n) (U.take n) L'/\∀a∈L',a∈L:=by
 obtain⟨aW,q1,q2,q3,q4⟩:=h.sl.toP;obtain⟨n1,n2⟩:=q3 h.nd;have hl:(U.take n).length=(fs.take n).length:=by rw[rV,rV,h.sl.len]
 obtain⟨L',p1,p2,p3⟩:=Ax.ofP (K:=K) (F:=F) (H:=H) (fs:=fs.take n) (U:=U.take n) aW hl (λi s e=>by
  have hi:i<n:=by
   have:=(qN.mp e).1;rw[rV]at this
   lia
  rw[tu hi]at e ⊢;exact q1 i s e) n1 n2
 have sub:∀a∈L',a∈L:=λa m=>let⟨i,_,q⟩:=p3 a m;q2 i a q
 refine⟨L',⟨p1,p2,λa m=>h.nf a (sub a m),h.fd,λi o e=>?_,h.pd,h.pf,λa m=>h.pl a (sub a m)⟩,sub⟩;have hi:i<n:=by
  have:=(qN.mp e).1;rw[rV]at this
  lia
 rw[tu hi]at e ⊢;exact h.bo i o e
theorem RR.take{r:Rv}{u:V}(h:RR K B U F H fs r u)(n:Nat)(hr:∀i,r≠.n i):RR K B (U.take n) F H (fs.take n) r u:=by
 obtain⟨L,L',ok,q,nd,nf⟩:=h;obtain⟨L2,aG,sub⟩:=ok.take n;refine⟨L2,L',aG,?_,?_,nf⟩
 .cases r with|t t=>exact q|nw o=>exact q|n i=>exact(hr i rfl).elim
 .rw[qp]at nd ⊢;exact⟨aG.nd,nd.2.1,λa ha b hb=>nd.2.2 a (sub a ha) b hb⟩
theorem Ok.more(h:Ok K F B H fs U L)(n:Nat):Ok K F B H (fs++List.replicate n none) (U++List.replicate n none) L:=by
 have key:∀n:Nat,Ax K F H (List.replicate n none) (List.replicate n none) []:=by
  intro n
  induction n with|zero=>exact⟨rfl,rfl⟩|succ n ih =>rw[sU,sU];simp only[Ax];exact⟨none,_,rfl,ih⟩
 have app:∀{fs gs:FS}{U τ:St}{L M:List Addr},Ax K F H fs U L->Ax K F H gs τ M->Ax K F H (fs++gs) (U++τ) (L++M):=by
  intro fs
  induction fs with|nil =>intro gs U τ L M h1 h2;simp only[Ax]at h1;obtain⟨rfl,rfl⟩:=h1;exact h2|cons s r ih =>intro gs U τ L M h1 h2;obtain⟨v,ak,L1,L2,rfl,q1,q2,rfl⟩:=h1.Ie;have:=Ax.cons q1 (ih q2 h2);simpa using this
 refine⟨by simpa using app h.sl (key n),h.nd,h.nf,h.fd,λi o e=>?_,h.pd,h.pf,h.pl⟩;by_cases hi:i<fs.length
 .rw[sC hi]at e;obtain⟨v,e1,e2⟩:=h.bo i o e;exact⟨v,by rw[sC (by rw[h.sl.len];exact hi)];exact e1,e2⟩
 .rw[List.getElem?_append_right (by lia)]at e;have:=sv e;simp at this
theorem RR.mv{u:V}{i:Nat}{o:FO}(q:RR K B U F H fs (.n i) u)(es:fs[i]?=some (some (.own o))):RR K B U F H (fs.set i none) (.nw o) u:=by
 obtain⟨L,L',o1,⟨_,q⟩,nd,nf⟩:=q;obtain⟨v,L1,L2,L3,e1,rfl,h1,h2⟩:=o1.sl.pick es;obtain⟨w,rfl,q2⟩:=h1;rw[e1]at q;have eu:w=u:=by simpa using q
 subst eu;have h3:=h2 F H none (some w) [] Le.refl (λ_ _=>rfl) rfl;rw[Bv e1]at h3;have dW:=o1.nd;refine⟨L1++([]++L3),L2,⟨h3,BU dW qU (λ_ m=>nomatch m),λa m=>o1.nf a ?_,o1.fd,?_,o1.pd,o1.pf,λa m=>o1.pl a ?_⟩,q2,?_,λa m=>⟨o1.nf a (by simp[m]),o1.pl a (by simp[m])⟩⟩
 .have m':a∈L1\/a∈L3:=by simpa using m
  rcases m' with m|m<;>simp[m]
 .have:=EF.put (i:=i) (s:=none) (v:=some w) o1.bo (λo eo=>by cases eo) o1.sl.len;rwa[Bv e1]at this
 .have m':a∈L1\/a∈L3:=by simpa using m
  rcases m' with m|m<;>simp[m]
 .have p:(L1++(L2++L3)).Perm ((L1++([]++L3))++L2):=by rw[qV,qT];exact List.Perm.append_left _ List.perm_append_comm
  exact p.nodup_iff.mp dW
end
inductive Ini where
 |no|val (t:T)|slot (j:Nat)|new (o:FO)
noncomputable def YV(fs:FS):Ini->Option Sl
 |.no=>none
 |.val t=>some (.val t)
 |.new o=>some (.bor o)
 |.slot j=>match fs[j]? with|some (some (.val t))=>some (.val t)|some (some (.own o))=>some (.bor o)|some (some (.bor o))=>some (.bor o)|_=>none
noncomputable def C8(fs:FS)(is:List Ini):FS:=is.map (YV fs)
noncomputable def CV(fs:FS):Ini->Option Nat
 |.slot j=>if(AM fs j).isSome=true then some j else none
 |_=>none
noncomputable def Cj(fs:FS)(is:List Ini):List Nat:=is.filterMap (CV fs)
noncomputable def placeOf(fs:FS)(j:Nat):List Ini->Nat->Option Nat
 | [],_=>none
 |i::r,k=>if CV fs i=some j then some k else placeOf fs j r (k+1)
noncomputable def OE(fs:FS)(is:List Ini)(τ:FS)(j:Nat)(s:Option Sl):Option (Option Sl):=match placeOf fs j is 0 with|none=>some s|some k=>match τ[k]?,s with|some (some (.bor o)),some s=>some (some (s.put o))|_,_=>none
noncomputable def J6(fs:FS)(is:List Ini)(τ:FS):Nat->FS->Option FS
 |_,[]=>some []
 |j,s::r=>match OE fs is τ j s,J6 fs is τ (j+1) r with|some s',some r'=>some (s'::r')|_,_=>none
noncomputable def Ec(is:List Ini)(τ fs:FS):Option FS:=J6 fs is τ 0 fs
theorem placeOf_some{fs:FS}{j:Nat}:∀{is:List Ini}{k k':Nat},placeOf fs j is k=some k'->k<=k'/\∃i,is[k'-k]?=some i/\CV fs i=some j
 | [],_,_,e=>by simp[placeOf]at e
 |i::r,k,k',e=>by
  simp only[placeOf]at e;split at e
  next h=>cases e;exact⟨qH _,i,by simp,h⟩
  .obtain⟨h1,i',h2,h3⟩:=placeOf_some e;refine⟨by lia,i',?_,h3⟩;rw[show k'-k=(k'-(k+1))+1 by lia];simpa using h2
theorem placeOf_none{fs:FS}{j:Nat}:∀{is:List Ini}{k:Nat},placeOf fs j is k=none->j∉Cj fs is
 | [],_,_,h=>by simp[Cj]at h
 |i::r,k,e,h=>by
  simp only[placeOf]at e;split at e
  .cases e
  .rename_i hn;unfold Cj at h;rw[sD]at h;cases q:CV fs i with
   |none =>rw[q]at h;exact placeOf_none e h
   |some j' =>
    rw[q]at h;rcases qK.mp h with h|h
    .exact hn (by rw[q,h])
    .exact placeOf_none e h
theorem II{fs:FS}:∀{is:List Ini}{k k':Nat}{i i':Ini}{j:Nat},(Cj fs is).Nodup->is[k]?=some i->is[k']?=some i'->CV fs i=some j->CV fs i'=some j->k=k'
 | [],_,_,_,_,_,_,e,_,_,_=>by simp at e
 |i0::r,k,k',i,i',j,nd,e,e',h,h'=>by
  have mem:∀{m:Nat}{x:Ini},r[m]?=some x->CV fs x=some j->j∈Cj fs r:=λhm hx=>tm.mpr ⟨_,sv hm,hx⟩
  unfold Cj at nd;rw[sD]at nd;cases k with
  |zero =>simp at e;subst e;rw[h]at nd;have eM:(j::Cj fs r).Nodup:=nd;cases k' with|zero=>rfl|succ k'=>exact((rk.mp eM).1 (mem (by simpa using e') h')).elim
  |succ k =>
   cases k' with
   |zero =>simp at e';subst e';rw[h']at nd;have eM:(j::Cj fs r).Nodup:=nd;exact((rk.mp eM).1 (mem (by simpa using e) h)).elim
   |succ k' =>
    have eM:(Cj fs r).Nodup:=by cases q:CV fs i0 with|none=>rw[q]at nd;exact nd|some j'=>rw[q]at nd;exact(rk.mp nd).2
    exact congrArg (·+1) (II (k:=k) (k':=k') eM (by simpa using e) (by simpa using e') h h')
theorem Lc{fs:FS}{is:List Ini}{τ:FS}:∀{r r':FS}{j:Nat},J6 fs is τ j r=some r'->r'.length=r.length/\∀i s,r[i]?=some s->∃s',r'[i]?=some s'/\OE fs is τ (j+i) s=some s'
 | [],_,_,e=>by simp only[J6]at e;cases e;exact⟨rfl,λi s q=>by simp at q⟩
 |s::r,_,j,e=>by
  simp only[J6]at e;split at e
  next s' r' h1 h2=>cases e;obtain⟨q1,q2⟩:=Lc h2;refine⟨by simp[q1],λi s0 q=>?_⟩;cases i with|zero =>simp at q;subst q;exact⟨s',rfl,h1⟩|succ i =>obtain⟨s1,e1,e2⟩:=q2 i s0 (by simpa using q);exact⟨s1,by simpa using e1,by rw[show j+(i+1)=j+1+i by lia];exact e2⟩
  .cases e
def UB(K:Fg)(F:Wd)(H:Hp)(U:St)(i:Ini)(v:Option V)(M:List Addr):Prop:=match i with|.no=>True|.val t=>∃u,v=some u/\AI K F H t u|.slot j=>U[j]?=some v|.new o=>∃u,v=some u/\AD K F H o u M
structure Mu(F:Wd)(H:Hp)(L:List Addr)(μ:Nat->List Addr):Prop where
 out:∀k a,a∈μ k->¬F a/\¬F.p a/\a∉L/\H a≠none
 nd:∀k,(μ k).Nodup
 dj:∀k k' a,k≠k'->a∈μ k->a∉μ k'
theorem Mu.no{F:Wd}{H:Hp}{L:List Addr}:Mu F H L (λ_=>[]):=⟨(λ_ _ m=>nomatch m),λ_=>qU,(λ_ _ _ _ m=>nomatch m)⟩
theorem lend{K:Fg}{F:Wd}{H:Hp}{B:Nat->Option V}{fs:FS}{U b8:St}{is:List Ini}{L:List Addr}{μ:Nat->List Addr}(ok:Ok K F B H fs U L)(hl:b8.length=is.length)(hi:∀(k:Nat)(i:Ini)(v:Option V),is[k]?=some i->b8[k]?=some v->UB K F H U i v (μ k))(nd:(Cj fs is).Nodup)(c7:Mu F H L μ) :
  ∃P:Addr->Prop,(∀a,F.p a->P a)/\Okk K ⟨F.f,P⟩ (λk=>(b8[k]?).join) H (C8 fs is) b8/\(∀a,P a->H a≠none) /\
   ∀(F2:Wd)(H2:Hp)(τ:FS)(eE:St)(Li:List Addr)(aj:FS),Le ⟨F.f,P⟩ H F2 H2->Ok K F2 (λk=>(b8[k]?).join) H2 τ eE Li->Ec is τ fs=some aj ->
    Le F H ⟨F2.f,F.p⟩ H2/\∃L,Ok K ⟨F2.f,F.p⟩ B H2 aj U L/\∀a∈L,a∈Li\/P a:=by
 obtain⟨aW,q1,q2,q3,q4⟩:=ok.sl.toP;obtain⟨n1,n2⟩:=q3 ok.nd;have iN:∀j,(AM fs j).isSome=true->∃o s,AM fs j=some o/\fs[j]?=some (some s)/\(s=.own o\/s=.bor o):=by
  intro j hj;unfold AM at hj ⊢;split at hj
  next o es=>exact⟨o,_,rfl,es,.inl rfl⟩
  next o es=>exact⟨o,_,rfl,es,.inr rfl⟩
  .cases hj
 refine⟨λa=>F.p a\/∃j,a∈aW j/\j∉Cj fs is,λa p=>.inl p,?_,λa p=>?_,?_⟩
 .
  obtain⟨L',p1,p2,p3⟩:=Ax.ofP (K:=K) (F:=⟨F.f,λa=>F.p a\/∃j,a∈aW j/\j∉Cj fs is⟩) (H:=H) (fs:=C8 fs is) (U:=b8) (λk=>match is[k]? with|some i=>(match CV fs i with|some j=>aW j|none=>(match i with|.new _=>μ k|_=>[]))|none=>[]) (by unfold C8;rw[qw];exact hl)
   (λk s e=>by
    unfold C8 at e;rw[qX,qJ]at e;obtain⟨i,ei,rfl⟩:=e;have hk:k<b8.length:=by rw[hl];exact(qN.mp ei).1
    refine⟨b8[k],qo hk,?_⟩;have io:=hi k i _ ei (qo hk);simp only[ei];have lw:∀(t:T)(u:V),AI K F H t u->AI K ⟨F.f,λa=>F.p a\/∃j,a∈aW j/\j∉Cj fs is⟩ H t u:=λt u r=>AI.wp r
    cases i with
    |no=>rfl
    |val t =>obtain⟨u,eu,r⟩:=io;exact⟨u,eu,lw t u r,rfl⟩
    |new o =>obtain⟨u,eu,r⟩:=io;exact⟨u,eu,AD.wp r⟩
    |slot j =>
     have ej:U[j]?=some b8[k]:=io;simp only[YV,CV];cases es:fs[j]? with
     |none =>
      have:AM fs j=none:=by unfold AM;rw[es]
      rw[this];rfl
     |some s =>
      obtain⟨v,e1,e2⟩:=q1 j s es;rw[ej]at e1;cases e1;cases s with
      |none =>
       have:AM fs j=none:=by unfold AM;rw[es]
       rw[this];rfl
      |some s =>
       cases s with
       |val t =>
        have:AM fs j=none:=by unfold AM;rw[es]
        rw[this];obtain⟨u,eu,r,_⟩:=e2;exact⟨u,eu,lw t u r,rfl⟩
       |own o =>
        have:AM fs j=some o:=by unfold AM;rw[es]
        rw[this];obtain⟨u,eu,r⟩:=e2;exact⟨u,eu,AD.wp r⟩
       |bor o =>
        have:AM fs j=some o:=by unfold AM;rw[es]
        rw[this];obtain⟨u,eu,r⟩:=e2;exact⟨u,eu,AD.wp r⟩)
   (λk=>by
    try dsimp only
    split
    .split
     .exact n1 _
     .split
      .exact c7.nd _
      .exact qU
    .exact qU)
   (λk k' a hk ha hb=>by
    try dsimp only at ha hb
    split at ha
    .rename_i i ei;split at ha
     .rename_i j ej;split at hb
      .rename_i i' i3;split at hb
       .rename_i j' kJ;by_cases e:j=j'
        .subst e;exact hk (II nd ei i3 ej kJ)
        .exact n2 j j' a e ha hb
       .split at hb
        .exact(c7.out _ a hb).2.2.1 (q2 j a ha)
        .cases hb
      .cases hb
     .split at ha
      .split at hb
       .split at hb
        next j' kJ=>exact(c7.out _ a ha).2.2.1 (q2 j' a hb)
        .split at hb
         .exact c7.dj k k' a hk ha hb
         .cases hb
       .cases hb
      .cases ha
    .cases ha)
  have mem:∀a∈L',(∃j,j∈Cj fs is/\a∈aW j)\/∃k,a∈μ k:=λa m=>by
   obtain⟨k,_,q⟩:=p3 a m
   try dsimp only at q
   split at q
   .rename_i i ei;split at q
    next j ej=>exact .inl ⟨j,tm.mpr ⟨i,sv ei,ej⟩,q⟩
    .split at q
     .exact .inr ⟨k,q⟩
     .cases q
   .cases q
  refine⟨L',p1,p2,λa m=>?_,ok.fd,λk o e=>?_,λa p=>?_,λa f p=>?_,λa m p=>?_⟩
  .rcases mem a m with⟨j,_,q⟩|⟨k,q⟩
   .exact ok.nf a (q2 j a q)
   .exact(c7.out k a q).1
  .unfold C8 at e;rw[qX,qJ]at e;obtain⟨i,ei,e⟩:=e;have hk:k<b8.length:=by rw[hl];exact(qN.mp ei).1
   cases i with
   |no=>cases e
   |val t=>cases e
   |new o' =>obtain⟨u,eu,_⟩:=hi k _ _ ei (qo hk);exact⟨u,by rw[qo hk,eu],by show(b8[k]?).join=some u;rw[qo hk,eu];rfl⟩
   |slot j =>
    have ej:U[j]?=some b8[k]:=hi k _ _ ei (qo hk);simp only[YV]at e;have:∃o s,fs[j]?=some (some s)/\(s=.own o\/s=.bor o):=by
     split at e
     .cases e
     next o' es=>exact⟨o',_,es,.inl rfl⟩
     next o' es=>exact⟨o',_,es,.inr rfl⟩
     .cases e
    obtain⟨o',s,es,hs⟩:=this;obtain⟨v,e1,e2⟩:=q1 j _ es;rw[ej]at e1;cases e1;obtain⟨u,eu⟩:∃u,b8[k]=some u:=by
     rcases hs with rfl|rfl
     .exact⟨_,e2.choose_spec.1⟩
     .exact⟨_,e2.choose_spec.1⟩
    exact⟨u,by rw[qo hk,eu],by show(b8[k]?).join=some u;rw[qo hk,eu];rfl⟩
  .rcases p with p|⟨j,p,_⟩
   .exact ok.pd a p
   .exact ok.sl.def a (q2 j a p)
  .rcases p with p|⟨j,p,_⟩
   .exact ok.pf a f p
   .exact ok.nf a (q2 j a p) f
  .rcases mem a m with⟨j,hj,q⟩|⟨k,q⟩
   .rcases p with p|⟨j',p,hj'⟩
    .exact ok.pl a (q2 j a q) p
    .by_cases e:j=j'
     .subst e;exact hj' hj
     .exact n2 j j' a e q p
   .rcases p with p|⟨j',p,hj'⟩
    .exact(c7.out k a q).2.1 p
    .exact(c7.out k a q).2.2.1 (q2 j' a p)
 .rcases p with p|⟨j,p,_⟩
  .exact ok.pd a p
  .exact ok.sl.def a (q2 j a p)
 .
  intro F2 H2 τ eE Li aj l aG eb;have le:Le F H ⟨F2.f,F.p⟩ H2:=⟨λa f=>l.f a f,λa f=>⟨f,(l.p a (.inl f)).2⟩⟩
  obtain⟨iX,r1,r2,r3,r4⟩:=aG.sl.toP;obtain⟨m1,m2⟩:=r3 aG.nd;obtain⟨b1,b2⟩:=Lc eb;have cP:∀j a,a∈aW j->j∉Cj fs is->F2.p a/\H2 a=H a:=λj a q hj=>l.p a (.inr ⟨j,q,hj⟩)
  refine⟨le,?_⟩;obtain⟨L',p1,p2,p3⟩:=Ax.ofP (K:=K) (F:=⟨F2.f,F.p⟩) (H:=H2) (fs:=aj) (U:=U) (λj=>match placeOf fs j is 0 with|some k=>iX k|none=>aW j) (by rw[b1];exact ok.sl.len)
   (λj s' e=>by
    have hj:j<fs.length:=by rw[<- b1];exact(qN.mp e).1
    obtain⟨s1,e1,e2⟩:=b2 j fs[j] (qo hj);rw[e]at e1;cases e1;rw[Nat.zero_add]at e2;obtain⟨v,e3,e4⟩:=q1 j fs[j] (qo hj);refine⟨v,e3,?_⟩;unfold OE at e2;cases ep:placeOf fs j is 0 with
    |none =>rw[ep]at e2;cases e2;have hn:=placeOf_none ep;exact J8.le le (λa m=>(cP j a m hn).2) e4
    |some k =>
     rw[ep]at e2;obtain⟨_,i,ei,cX⟩:=placeOf_some ep;rw[Nat.sub_zero]at ei;dsimp only at e2 ⊢;split at e2
     .rename_i o s et es;cases e2;obtain⟨w,e5,e6⟩:=r1 k _ et;obtain⟨u,e7,e8⟩:=aG.bo k o et;rw[e5]at e7;cases e7;have ij:i=.slot j:=by
       cases i with
       |no=>cases cX
       |val t=>cases cX
       |new o=>cases cX
       |slot j' =>
        simp only[CV]at cX;split at cX
        .cases cX;rfl
        .cases cX
      subst ij;have hk:k<b8.length:=by rw[hl];exact(qN.mp ei).1
      have io:U[j]?=some b8[k]:=hi k _ _ ei (qo hk);rw[e3]at io;cases io;have e9:(b8[k]?).join=some u:=e8;rw[qo hk]at e9;have jx:b8[k]=some u:=by simpa using e9
      rw[jx];obtain⟨u',eu,ro⟩:=e6;cases eu;have ob:∃o0,s=.own o0\/s=.bor o0:=by
       simp only[CV]at cX;split at cX
       next oy=>obtain⟨o0,s0,_,kP,gy⟩:=iN j oy;rw[qo hj,es]at kP;cases kP;exact⟨o0,gy⟩
       .cases cX
      obtain⟨o0,ob⟩:=ob;have lR:AD K ⟨F2.f,F.p⟩ H2 o u (iX k):=AD.wp ro;rcases ob with rfl|rfl
      .exact⟨u,rfl,lR⟩
      .exact⟨u,rfl,lR⟩
     .cases e2)
   (λj=>by
    try dsimp only
    split
    .exact m1 _
    .exact n1 _)
   (λj j' a hj ha hb=>by
    try dsimp only at ha hb
    split at ha
    .rename_i k ek;split at hb
     .rename_i k' i4;by_cases e:k=k'
      .subst e;obtain⟨_,i,ei,h1⟩:=placeOf_some ek;obtain⟨_,i',i3,h2⟩:=placeOf_some i4;rw[ei]at i3;cases i3;rw[h1]at h2;cases h2;exact hj rfl
      .exact m2 k k' a e ha hb
     next i4=>exact aG.pl a (r2 k a ha) (cP j' a hb (placeOf_none i4)).1
    .rename_i ek;split at hb
     next k' i4=>exact aG.pl a (r2 k' a hb) (cP j a ha (placeOf_none ek)).1
     .exact n2 j j' a hj ha hb)
  have src:∀a∈L',(a∈Li/\¬F2.p a)\/∃j,a∈aW j/\j∉Cj fs is:=λa m=>by
   obtain⟨j,_,q⟩:=p3 a m
   try dsimp only at q
   split at q
   next k ek=>exact .inl ⟨r2 k a q,aG.pl a (r2 k a q)⟩
   next ek=>exact .inr ⟨j,q,placeOf_none ek⟩
  refine⟨L',⟨p1,p2,λa m f=>?_,λa f=>aG.fd a f,λj o e=>?_,λa p=>?_,λa f p=>?_,λa m p=>?_⟩,λa m=>?_⟩
  .rcases src a m with⟨q,_⟩|⟨j,q,hj⟩
   .exact aG.nf a q f
   .exact aG.pf a f (cP j a q hj).1
  .have hj:j<fs.length:=by rw[<- b1];exact(qN.mp e).1
   obtain⟨s1,e1,e2⟩:=b2 j fs[j] (qo hj);rw[e]at e1;cases e1;rw[Nat.zero_add]at e2;have:∃o',fs[j]?=some (some (.bor o')):=by
    unfold OE at e2;split at e2
    .exact⟨o,by rw[qo hj];exact e2⟩
    .split at e2
     next o1 s et es=>cases s with|val t=>cases e2|own o2=>cases e2|bor o2=>exact⟨o2,by rw[qo hj,es]⟩
     .cases e2
   obtain⟨o',eo⟩:=this;exact ok.bo j o' eo
  .rw[(l.p a (.inl p)).2];exact ok.pd a p
  .exact aG.pf a f (l.p a (.inl p)).1
  .rcases src a m with⟨_,q⟩|⟨j,q,hj⟩
   .exact q (l.p a (.inl p)).1
   .exact ok.pl a (q2 j a q) p
  .rcases src a m with⟨q,_⟩|⟨j,q,hj⟩
   .exact .inl q
   .exact .inr (.inr ⟨j,q,hj⟩)
noncomputable def Bof(U:St):Nat->Option V:=λk=>(U[k]?).join
def spF(K:Fg)(p:Nat)(Fn:FS->Out Rv):Sp:=λvs H Q _=>vs.length=p/\∃F bK,Okk K F (Bof (vs.map some)) H bK (vs.map some)/\match Fn bK with|.ok r τ=>∀F' H' u ak,Le F H F' H'->RR K (Bof (vs.map some)) ak F' H' τ r u->Q u H'|_=>False
noncomputable def B2(n:Nat)(g:FS->SO):FS->Out Rv:=λargs=>match g (args++List.replicate n none)with
 |.nx τ=>.ok (.t .l) (τ.take args.length)
 |.ret (.t t) τ=>.ok (.t t) (τ.take args.length)
 |.ret (.nw o) τ=>.ok (.nw o) (τ.take args.length)
 |.ret (.n i) τ=>match τ[i]? with|some (some (.own o))=>.ok (.nw o) ((τ.set i none).take args.length)|_=>.bad
 |.exc c τ=>.exc c (τ.take args.length)
 |_=>.bad
section
variable{P:Program}{w:World}{K:Fg}{mg:Str->Option Value}{base:Heap}
end
noncomputable def By:Rv->Ini
 |.t t=>.val t
 |.n i=>.slot i
 |.nw o=>.new o
noncomputable def QH(Fn:FS->Out Rv)(rs:List Rv)(fs:FS):Out Rv :=
 if(Cj fs (rs.map By)).Nodup then(match Fn (C8 fs (rs.map By))with|.ok (.t t) τ=>(match Ec (rs.map By) τ fs with|some aj=>.ok (.t t) aj|none=>.bad)|.ok (.nw o) τ=>(match Ec (rs.map By) τ fs with|some aj=>.ok (.nw o) aj|none=>.bad)|_=>.bad)else .bad
theorem HW.len{K:Fg}{F:Wd}{H:Hp}{U:St}:∀{rs:List Rv}{vs:List V},HW K F H U rs vs->vs.length=rs.length
 | [],_,h=>by cases h;rfl
 |r::rs,_,h=>by obtain⟨v,w,rfl,h1,h2⟩:=h;simp[HW.len h2]
def E6(K:Fg)(F:Wd)(H:Hp)(U:St):List Rv->List V->List Addr->Prop
 | [],vs,L=>vs=[]/\L=[]
 |r::rs,vs,L=>∃v w L1 L2,vs=v::w/\Md K F H U r v L1/\E6 K F H U rs w L2/\L=L1++L2
def RAn(K:Fg)(B:Nat->Option V)(U:St):Wd->Hp->FS->List Rv->List V->Prop:=λF H fs rs vs=>∃L M,Ok K F B H fs U L/\E6 K F H U rs vs M/\(L++M).Nodup/\∀a∈M,¬F a/\¬F.p a
def tAn(K:Fg)(Z:Xp)(f:FS->Out (List Rv)):TA:=λU H Q=>∃F B fs,Okk K F B H fs U/\sat Z B (RAn K B U) F H (f fs) Q
def FAn(X:Cx)(Z:Xp)(es:List Expr)(f:FS->Out (List Rv)):Prop:=PA X es (tAn X.K Z f)
noncomputable def Af(f:FS->Out Rv)(g:FS->Out (List Rv)):FS->Out (List Rv):=λfs=>(f fs).bind λr fs=>(g fs).bind λrs fs=>.ok (r::rs) fs
section
variable{K:Fg}{F F':Wd}{H H':Hp}{B:Nat->Option V}{fs:FS}{U:St}{rs:List Rv}{vs:List V}{Z:Xp}{Q:VK}{Fn:FS->Out Rv}{E:XK}
theorem E6.len:∀{rs:List Rv}{vs:List V}{M:List Addr},E6 K F H U rs vs M->vs.length=rs.length
 | [],_,_,h=>by obtain⟨rfl,_⟩:=h;rfl
 |r::rs,_,_,h=>by obtain⟨v,w,L1,L2,rfl,_,h,_⟩:=h;simp[E6.len h]
theorem Md.def{r:Rv}{v:V}{L:List Addr}(h:Md K F H U r v L):∀a∈L,H a≠none:=by
 cases r with
 |t t=>obtain⟨rfl,_⟩:=h;exact λa m=>nomatch m
 |nw o=>exact AD.def h
 |n i=>obtain⟨rfl,_⟩:=h;exact λa m=>nomatch m
theorem Md.lf{r:Rv}{v:V}{L:List Addr}(l:∀a,F a->F' a/\H' a=H a)(k:∀a∈L,H' a=H a)(h:Md K F H U r v L):Md K F' H' U r v L:=by cases r with|t t=>exact⟨h.1,AI.le (F:=⟨F.f,λ_=>False⟩) ⟨l,λ_ z=>z.elim⟩ (AI.wp h.2)⟩|nw o=>exact AD.le (F:=⟨F.f,λ_=>False⟩) ⟨l,λ_ z=>z.elim⟩ k (AD.wp h)|n i=>exact h
theorem E6.lf(l:∀a,F a->F' a/\H' a=H a):∀{rs:List Rv}{vs:List V}{M:List Addr},(∀a∈M,H' a=H a)->E6 K F H U rs vs M->E6 K F' H' U rs vs M
 | [],_,_,_,h=>h
 |r::rs,_,_,k,h=>by obtain⟨v,w,L1,L2,e,h1,h2,rfl⟩:=h;exact⟨v,w,L1,L2,e,h1.lf l λa m=>k a (qG _ m),E6.lf l (λa m=>k a (qB _ m)) h2,rfl⟩
theorem E6.toP:∀{rs:List Rv}{vs:List V}{M:List Addr},E6 K F H U rs vs M->∃μ:Nat->List Addr,(∀k r,rs[k]?=some r->∃v,vs[k]?=some v/\Md K F H U r v (μ k))/\(∀k a,a∈μ k->a∈M/\H a≠none) /\
  (M.Nodup->(∀k,(μ k).Nodup)/\∀i j a,i≠j->a∈μ i->a∉μ j)
 | [],_,_,h=>⟨λ_=>[],(λk r e=>by simp at e),(λ_ _ m=>nomatch m),λ_=>⟨λ_=>qU,(λ_ _ _ _ m=>nomatch m)⟩⟩
 |r::rs,_,_,h=>by
  obtain⟨v,w,L1,L2,rfl,h1,h2,rfl⟩:=h;obtain⟨μ,q1,q2,q3⟩:=E6.toP h2;refine⟨λi=>match i with|0=>L1|i+1=>μ i,λk r' e=>?_,λk a m=>?_,λnd=>?_⟩
  .cases k with|zero =>simp at e;subst e;exact⟨v,rfl,h1⟩|succ k =>obtain⟨u,e1,e2⟩:=q1 k r' (by simpa using e);exact⟨u,by simpa using e1,e2⟩
  .cases k with|zero=>exact⟨qG _ m,h1.def a m⟩|succ k=>exact⟨qB _ (q2 k a m).1,(q2 k a m).2⟩
  .rw[qp]at nd;obtain⟨n1,n2,n3⟩:=nd;obtain⟨m1,m2⟩:=q3 n2;refine⟨λi=>?_,λi j a fP hi hj=>?_⟩
   .cases i with|zero=>exact n1|succ i=>exact m1 i
   .cases i with
    |zero =>cases j with|zero=>exact fP rfl|succ j=>exact n3 a hi a (q2 j a hj).1 rfl
    |succ i =>cases j with|zero=>exact n3 a hj a (q2 i a hi).1 rfl|succ j=>exact m2 i j a (λe=>fP (by rw[e])) hi hj
theorem NL(q:RAn K B U F H fs rs vs):∃L μ,Ok K F B H fs U L/\Mu F H L μ/\(vs.map some).length=(rs.map By).length/\∀(k:Nat)(i:Ini)(v:Option V),(rs.map By)[k]?=some i->(vs.map some)[k]?=some v->UB K F H U i v (μ k):=by obtain⟨L,M,ok,q,nd,nf⟩:=q;obtain⟨μ,q1,q2,q3⟩:=q.toP;rw[qp]at nd;obtain⟨m1,m2⟩:=q3 nd.2.1;refine⟨L,μ,ok,⟨λk a m=>⟨(nf a (q2 k a m).1).1,(nf a (q2 k a m).1).2,λz=>nd.2.2 a z a (q2 k a m).1 rfl,(q2 k a m).2⟩,m1,m2⟩,by simp[q.len],λk i v e1 e2=>?_⟩;rw[qX,qJ]at e1 e2;obtain⟨r,er,rfl⟩:=e1;obtain⟨u,eu,rfl⟩:=e2;obtain⟨u',e3,rr⟩:=q1 k r er;rw[eu]at e3;cases e3;cases r with|t t=>exact⟨u,rfl,rr.2⟩|nw o=>exact⟨u,rfl,rr⟩|n i=>exact rr.2
theorem RAn.len(q:RAn K B U F H fs rs vs):vs.length=rs.length:=by obtain⟨L,M,ok,q,_⟩:=q;exact q.len
theorem QG(q:RAn K B U F H fs rs vs)(s:sat Z B (RR K B U) F H (QH Fn rs fs) Q):spF K rs.length Fn vs H Q E:=by
 unfold QH at s;split at s
 .rename_i nd;obtain⟨L9,μ,ok,c7,hl,hi⟩:=NL q;obtain⟨Pp,p1,p2,p3,p4⟩:=lend ok hl hi nd c7;refine⟨q.len,⟨F.f,Pp⟩,C8 fs (rs.map By),p2,?_⟩;split at s
  .rename_i t τ e;rw[e];split at s
   next aj eb=>intro F' H' u ak l k;obtain⟨Li,L',o1,⟨_,r⟩,_⟩:=k;obtain⟨le,L,o2,_⟩:=p4 F' H' τ ak Li aj l o1 eb;exact s ⟨F'.f,F.p⟩ H' u le (RR.of ⟨L,o2⟩ (AI.wp r))
   .exact s.elim
  .rename_i o τ e;rw[e];split at s
   .rename_i aj eb;intro F' H' u ak l k;obtain⟨Li,L',o1,r,nd,nf⟩:=k;obtain⟨le,L,o2,sub⟩:=p4 F' H' τ ak Li aj l o1 eb;refine s ⟨F'.f,F.p⟩ H' u le ⟨L,L',o2,AD.wp r,?_,λa m=>⟨(nf a m).1,λp=>(nf a m).2 (l.p a (p1 a p)).1⟩⟩;rw[qp]at nd ⊢;refine⟨o2.nd,nd.2.1,λa ha b hb e=>?_⟩;rcases sub a ha with z|z
    .exact nd.2.2 a z b hb e
    .exact(nf b hb).2 (l.p b (e▸z)).1
   .exact s.elim
  .exact s.elim
 .exact s.elim
end
section
variable{X:Cx}{Z:Xp}{e:Expr}{es:List Expr}{f:FS->Out Rv}{g:FS->Out (List Rv)}
theorem Ud:FAn X Z [] Ai:=Ku DA λU H Q ⟨F,B,fs,⟨L,ok⟩,s⟩=>s F H [] Le.refl ⟨L,[],ok,⟨rfl,rfl⟩,by simpa using ok.nd,(λ_ m=>nomatch m)⟩
theorem PX{K:Fg}{B:Nat->Option V}{U:St}{F1:Wd}{H1:Hp}{ag:FS}{r:Rv}{u:V}{γ δ:Type}{R2:Wd->Hp->FS->γ->δ->Prop}{k:List Rv->FS->Out γ}{Q:δ->Hp->Prop}{Q':List V->Hp->Prop}(q:RR K B U F1 H1 ag r u)(s1:sat Z B R2 F1 H1 ((g ag).bind k) Q)
  (hk:∀rs ax F2 H2 us,Le F1 H1 F2 H2->RAn K B U F2 H2 ax (r::rs) (u::us)->sat Z B R2 F2 H2 (k rs ax) Q->Q' us H2):tAn K Z g U H1 Q':=by
 obtain⟨L,L1,o1,r1,nd,nf⟩:=q;have iK:=qp.mp nd;have lE:Le F1 H1 ⟨F1.f,λa=>F1.p a\/a∈L1⟩ H1:=⟨λa f=>⟨f,rfl⟩,λa f=>⟨.inl f,rfl⟩⟩
 refine⟨⟨F1.f,λa=>F1.p a\/a∈L1⟩,B,ag,⟨L,o1.sl.le lE λ_ _=>rfl,o1.nd,o1.nf,o1.fd,o1.bo,λa p=>?_,λa f p=>?_,λa m p=>?_⟩,?_⟩
 .rcases p with p|p
  .exact o1.pd a p
  .exact r1.def a p
 .rcases p with p|p
  .exact o1.pf a f p
  .exact(nf a p).1 f
 .rcases p with p|p
  .exact o1.pl a m p
  .exact iK.2.2 a m a p rfl
 .cases eg:g ag with
  |bad=>rw[eg]at s1;exact s1.elim
  |exc c t=>rw[eg]at s1;exact Z.mono s1 lE
  |ok rs ax =>
   rw[eg]at s1;intro F2 H2 us l2 q2;obtain⟨L2,M2,o2,r2,gD,gF⟩:=q2;have gQ:Le F1 H1 ⟨F2.f,F1.p⟩ H2:=⟨λa f=>l2.f a f,λa f=>⟨f,(l2.p a (.inl f)).2⟩⟩
   have hp:∀a∈L1,F2.p a/\H2 a=H1 a:=λa m=>l2.p a (.inr m)
   have iJ:=qp.mp gD;refine hk rs ax ⟨F2.f,F1.p⟩ H2 us gQ ⟨L2,L1++M2,⟨Ax.wp o2.sl,o2.nd,o2.nf,o2.fd,o2.bo,λa f=>by rw[(gQ.p a f).2];exact o1.pd a f,λa f p=>o2.pf a f (l2.p a (.inl p)).1,λa m p=>o2.pl a m (l2.p a (.inl p)).1⟩,⟨u,us,L1,M2,rfl,Md.lf (F:=F1) (F':=⟨F2.f,F1.p⟩) (H:=H1) (H':=H2) (λa f=>l2.f a f) (λa m=>(hp a m).2) r1,E6.lf (F:=F2) (F':=⟨F2.f,F1.p⟩) (λa f=>⟨f,rfl⟩) (λ_ _=>rfl) r2,rfl⟩,?_,λa m=>?_⟩ (sat.le s1 gQ)
   .rw[qp];refine⟨o2.nd,?_,λa ha b hb e=>?_⟩
    .rw[qp];exact⟨iK.2.1,iJ.2.1,λa ha b hb e=>(gF b hb).2 (e▸(hp a ha).1)⟩
    .rcases qC.mp hb with hb|hb
     .exact o2.pl a ha (e▸(hp b hb).1)
     .exact iJ.2.2 a ha b hb e
   .rcases qC.mp m with m|m
    .exact⟨λf=>o2.pf a f (hp a m).1,(nf a m).2⟩
    .exact⟨(gF a m).1,λp=>(gF a m).2 (l2.p a (.inl p)).1⟩
theorem Qs(ha:FE X Z e f)(hr:FAn X Z es g)(hs:starEach (e::es) X.env=(false,eval e X.env)::starEach es X.env:=by rfl):FAn X Z (e::es) (Af f g) :=
 Ku (B5 ha hr hs) λU H Q ⟨F,B,fs,ok,s⟩=>⟨F,B,fs,ok,AL s λr ag F1 H1 u l q s1=>PX q s1 λrs ax F2 H2 us _ ra s2=>s2 F2 H2 (u::us) Le.refl ra⟩
end
section
variable{X:Cx}{Z:Xp}{x:Str}{k p:Nat}{ps:List Str}{Fn:FS->Out Rv}{e o:Expr}{es:List Expr}{fa:FS->Out (List Rv)}{fo:FS->Out Rv}{pp pos av:Pos}{C:Addr}{m:Str}
noncomputable def OA(p:Nat)(Fn:FS->Out Rv):List Rv->FS->Out Rv:=λrs fs=>if rs.length=p then QH Fn rs fs else .bad
noncomputable def GG(C:Addr)(m:Str)(fs:FS):Rv->Bool
 |.t (.ins C' gs _)=>decide (C'=C)&&!gs.any (·==m)
 |.n i=>match AM fs i with|some (.ins C' gs _)=>decide (C'=C)&&!gs.any (·==m)|_=>false
 |_=>false
theorem IH{af:List (Str×V)}{m:Str}(h:((af.map (·.1)).any (·==m))=false):af.lookup m=none:=by
 induction af with
 |nil=>rfl
 |cons p r ih =>
  rw[qm,si,Bool.or_eq_false_iff]at h;obtain⟨k,v⟩:=p;rw[rF];have:(m==k)=false:=by have h1:(k==m)=false:=h.1;rw[beq_eq_false_iff_ne]at h1 ⊢;exact λe=>h1 e.symm
  rw[this];exact ih h.2
theorem KG{K:Fg}{F:Wd}{H:Hp}{B:Nat->Option V}{fs:FS}{U:St}{r:Rv}{u:V}(ok:Okk K F B H fs U)(q:B1 K F H U r u)(h:GG C m fs r=true):∃a dx af,u=.ref a/\H a=some (.ins C dx af)/\af.lookup m=none:=by
 unfold GG at h;split at h
 next C' gs ts=>rw[qL]at h;have hC:=qW h.1;subst hC;simp only[B1,AI]at q;obtain⟨a,dx,af,rfl,f,hd,rfl,r⟩:=q;exact⟨a,dx,af,rfl,hd,IH (by simpa using h.2)⟩
 .rename_i i;split at h
  .rename_i C' gs os eo;rw[qL]at h;have hC:=qW h.1;subst hC;obtain⟨v,L2,e1,q2,_⟩:=ok.own eo;have e2:U[i]?=some (some u):=q;rw[e1]at e2;have e3:v=u:=by simpa using e2
   subst e3;simp only[AD]at q2;obtain⟨a,dx,af,L',rfl,hd,rfl,_⟩:=q2;exact⟨a,dx,af,rfl,hd,IH (by simpa using h.2)⟩
  .cases h
 .cases h
noncomputable def JM(C:Addr)(m:Str)(p:Nat)(Fn:FS->Out Rv)(fo:FS->Out Rv)(fa:FS->Out (List Rv)):FS->Out Rv:=λfs=>(fo fs).bnd λx fs=>if GG C m fs x=true then(fa fs).bind λrs fs=>OA p Fn (x::rs) fs else .bad
noncomputable def IG(C:Addr)(p:Nat)(Fn:FS->Out Rv)(rs:List Rv)(fs:FS):Out Rv :=
 if(Cj fs (rs.map By)).Nodup/\rs.length+1=p then(match Fn (some (.bor (.ins C [] []))::C8 fs (rs.map By))with|.ok (.t .l) (some (.bor o)::τ)=>(match Ec (rs.map By) τ fs with|some aj=>.ok (.nw o) aj|none=>.bad)|_=>.bad)else .bad
theorem PM{K:Fg}{F:Wd}{H:Hp}{B:Nat->Option V}{fs:FS}{U:St}{rs:List Rv}{vs:List V}{Q:VK}{E:XK}(q:RAn K B U F H fs rs vs)(s:sat Z B (RR K B U) F H (IG C p Fn rs fs) Q)
  {x dx:Addr} (hx:H x=none) (n6:H dx=none) (b7:dx≠x):spF K p Fn (.ref x::vs) (upd (upd H dx (.own x)) x (.ins C dx [])) (λv H2=>v=.l/\Q (.ref x) H2) E:=by
 unfold IG at s;split at s
 .rename_i hh;obtain⟨nd,hp⟩:=hh;obtain⟨L9,μ,ok,c7,hl,hi⟩:=NL q;obtain⟨Pp,p1,⟨L0,p2⟩,p3,p4⟩:=lend ok hl hi nd c7;have l0:∀a,H a≠none->(upd (upd H dx (.own x)) x (.ins C dx [])) a=H a:=λa h=>by rw[Am (λe=>h (by rw[e];exact hx)),Am (λe=>h (by rw[e];exact n6))]
  have iH:Le ⟨F.f,Pp⟩ H ⟨F.f,Pp⟩ (upd (upd H dx (.own x)) x (.ins C dx [])):=⟨λa f=>⟨f,l0 a (p2.fd a f)⟩,λa f=>⟨f,l0 a (p3 a f)⟩⟩
  refine⟨by rw[qD,q.len];exact hp,⟨F.f,Pp⟩,some (.bor (.ins C [] []))::C8 fs (rs.map By),?_,?_⟩
  .refine⟨[x]++L0,Ax.cons ⟨.ref x,rfl,?_⟩ (p2.sl.le iH λa m=>l0 a (p2.sl.def a m)),?_,λa m=>?_,λa f=>?_,λi o e=>?_,λa f=>?_,p2.pf,λa m=>?_⟩
   .simp only[AD];exact⟨x,dx,[],[],rfl,Az,rfl,⟨rfl,rfl⟩,rfl⟩
   .rw[qp];exact⟨by simp,p2.nd,λa ha b hb e=>p2.sl.def b hb (by rw[<- e,qQ.mp ha];exact hx)⟩
   .rcases qC.mp m with m|m
    .rw[qQ.mp m];exact λf=>p2.fd x f hx
    .exact p2.nf a m
   .rw[l0 a (p2.fd a f)];exact p2.fd a f
   .cases i with|zero=>exact⟨.ref x,rfl,rfl⟩|succ i=>exact p2.bo i o (by simpa using e)
   .rw[l0 a (p3 a f)];exact p3 a f
   .rcases qC.mp m with m|m
    .rw[qQ.mp m];exact λf=>p3 x f hx
    .exact p2.pl a m
  .split at s
   .rename_i o τ e;rw[e];split at s
    .rename_i aj eb;intro F' H' u ak l k;obtain⟨mI,L',o1,⟨_,r⟩,_⟩:=k;refine⟨r,?_⟩;obtain⟨v,eE,L1,L2,rfl,h1,h2,rfl⟩:=o1.sl.Ie;obtain⟨w,rfl,ro⟩:=h1;obtain⟨w',e3,e4⟩:=o1.bo 0 o rfl;have ew:w=.ref x:=by have z1:some (some w)=some (some w'):=e3;have z2:some (V.ref x)=some w':=e4;cases z1;cases z2;rfl
     subst ew;have dW:=qp.mp o1.nd;have o2:Ok K F' (Bof (vs.map some)) H' τ eE L2:=⟨h2,dW.2.1,λa m=>o1.nf a (qB _ m),o1.fd,λi ob eo=>by obtain⟨v,z1,z2⟩:=o1.bo (i+1) ob (by simpa using eo);exact⟨v,by simpa using z1,by have z3:(((V.ref x::vs).map some)[i+1]?).join=some v:=z2;simpa[Bof]using z3⟩,o1.pd,o1.pf,λa m=>o1.pl a (qB _ m)⟩
     have l':Le ⟨F.f,Pp⟩ H F' H':=iH.trans l;obtain⟨le,L,o3,sub⟩:=p4 F' H' τ eE L2 aj l' o2 eb;refine s ⟨F'.f,F.p⟩ H' (.ref x) le ⟨L,L1,o3,AD.wp ro,?_,λa m=>⟨o1.nf a (qG _ m),λp=>o1.pl a (qG _ m) (l'.p a (p1 a p)).1⟩⟩;rw[qp];refine⟨o3.nd,dW.1,λa ha b hb e=>?_⟩;rcases sub a ha with z|z
     .exact dW.2.2 b hb a z e.symm
     .exact o1.pl b (qG _ hb) (l'.p b (e▸z)).1
    .exact s.elim
   .exact s.elim
 .exact s.elim
end
noncomputable def B0(gt:T->FS->Option FS)(ft:FS->Out Bool)(fe:FS->Out Rv):List T->FS->List T->Option (List T×FS)
 | [],τ,ao=>some (ao,τ)
 |t::ts,τ,ao=>match gt t τ with|none=>none|some τ=>match ft τ with|.ok true τ=>(match fe τ with|.ok (.t v) τ=>if ao.length<big then B0 gt ft fe ts τ (ao++[v])else none|_=>none)|.ok false τ=>B0 gt ft fe ts τ ao|_=>none
noncomputable def Dy:FS->Out Bool:=λfs=>.ok true fs
noncomputable def BR(new:Bool)(src:List (Option Nat))(fi:FS->Out (List T))(gt:T->FS->Option FS)(ft:FS->Out Bool)(fe:FS->Out Rv):FS->Out Rv:=λfs=>(fi fs).bind λts fs =>if(Cj fs (src.map λo=>o.elim Ini.no Ini.slot)).Nodup/\(src.all λo=>o.elim true λj=>decide (j<fs.length))=true then(match B0 gt ft fe ts (C8 fs (src.map λo=>o.elim Ini.no Ini.slot)) []with|some (vs,τ)=>(match Ec (src.map λo=>o.elim Ini.no Ini.slot) τ fs with|some aj=>if new=true then .ok (.nw (.lst vs)) aj else .ok (.t (.lst vs)) aj|none=>.bad)|none=>.bad)else .bad
def FIf(X:Cx)(bw:List Expr)(ft:FS->Out Bool):Prop:=R0 X bw (tT X.K Xp.no ft)
theorem Pg{X:Cx}{e:List Expr}{t t':TT}(h:R0 X e t)(i:∀U H Q,t' U H Q->t U H Q):R0 X e t':=λaa s U H Q I q=>h aa s U H Q I (i _ _ _ q)
theorem T5{X:Cx}:FIf X [] Dy:=Pg Pf λU H Q ⟨F,B,fs,ok,s⟩=>s F H true Le.refl ⟨ok,rfl⟩
theorem T4{X:Cx}{c:Expr}{ft:FS->Out Bool}(h:FT X Xp.no c ft):FIf X [c] ft:=Pe h
section
variable{K:Fg}{F:Wd}{H:Hp}{B:Nat->Option V}{fs:FS}{U:St}
theorem Okk.hide{p:Addr}{o:HO}(h:Okk K F B H fs U)(hp:H p=none):Okk K ⟨F.f,λa=>F.p a\/a=p⟩ B (upd H p o) fs U:=by
 obtain⟨L,h⟩:=h;have l:Le F H ⟨F.f,λa=>F.p a\/a=p⟩ (upd H p o):=⟨λa f=>⟨f,Am λe=>h.fd a f (e▸hp)⟩,λa f=>⟨.inl f,Am λe=>h.pd a f (e▸hp)⟩⟩
 refine⟨L,h.sl.le l (h.Te hp),h.nd,h.nf,λa q=>Dz (h.fd a q),h.bo,λa q=>?_,λa f q=>?_,λa m q=>?_⟩
 .rcases q with q|q
  .exact Dz (h.pd a q)
  .rw[q,Az];simp
 .rcases q with q|q
  .exact h.pf a f q
  .exact h.fd a f (q▸hp)
 .rcases q with q|q
  .exact h.pl a m q
  .exact h.sl.def a m (q▸hp)
theorem Okk.upP{p:Addr}{o:HO}(h:Okk K F B H fs U)(hp:F.p p):Okk K F B (upd H p o) fs U:=by
 obtain⟨L,h⟩:=h;have hf:∀a,F a->(upd H p o) a=H a:=λa f=>Am λe=>h.pf a f (e▸hp)
 have l:Le ⟨F.f,λ_=>False⟩ H ⟨F.f,F.p⟩ (upd H p o):=⟨λa f=>⟨f,hf a f⟩,λa f=>f.elim⟩
 have sl:Ax K ⟨F.f,λ_=>False⟩ H fs U L:=Ax.wp h.sl;refine⟨L,sl.le l λa m=>Am λe=>h.pl a m (e▸hp),h.nd,h.nf,λa q=>Dz (h.fd a q),h.bo,λa q=>Dz (h.pd a q),h.pf,h.pl⟩
theorem Ag.upP{p:Addr}{o:HO}{ts:List T}{vs:List V}(h:Okk K F B H fs U)(hp:F.p p)(r:Ag K F H ts vs):Ag K F (upd H p o) ts vs:=by
 obtain⟨L,h⟩:=h;have l:Le ⟨F.f,λ_=>False⟩ H ⟨F.f,F.p⟩ (upd H p o):=⟨λa f=>⟨f,Am λe=>h.pf a f (e▸hp)⟩,λa f=>f.elim⟩
 exact Ag.le l (Ag.wp r)
end
section
variable{X:Cx}{Z:Xp}{N:List Str}{sc:Scope}{tg aw bR:Expr}{bw:List Expr}{fi:FS->Out (List T)}{gt:T->FS->Option FS}{ft:FS->Out Bool}{fe:FS->Out Rv}{pos:Pos}{K:Fg}
inductive CI(K:Fg)(W:Wd)(H1:Hp)(D:Addr)(Bc:Nat->Option V)(gt:T->FS->Option FS)(ft:FS->Out Bool)(fe:FS->Out Rv)(r:List T×FS)(l:List T)(aR:St)(H2:Hp):Prop
 |mk (F2:Wd) (τ:FS) (ao:List T) (ys:List V) (l2:Le W H1 F2 H2) (pD:F2.p D) (aG:Okk K F2 Bc H2 τ aR) (dy:H2 D=some (.lst ys)) (bH:Ag K F2 H2 ao ys) (ec:B0 gt ft fe l τ ao=some r):CI K W H1 D Bc gt ft fe r l aR H2
theorem CI.put{W F6:Wd}{H1 H6:Hp}{D:Addr}{Bc:Nat->Option V}{r:List T×FS}{l:List T}{aR:St}{iW:FS}{ao:List T}{ys:List V}{v:T}{y:V}{L6:List Addr}(nP:¬W.p D)(iE:Le W H1 F6 H6)(p6:F6.p D)(o6:Ok K F6 Bc H6 iW aR L6)(iO:Ag K F6 H6 ao ys)(rv:AI K F6 H6 v y)
  (aP:B0 gt ft fe l iW (ao++[v])=some r):CI K W H1 D Bc gt ft fe r l aR (upd H6 D (.lst (ys++[y]))) :=
 .mk F6 iW (ao++[v]) (ys++[y]) ⟨λa f=>⟨(iE.f a f).1,by rw[Am λe=>o6.pf a (iE.f a f).1 (by rw[e];exact p6)];exact(iE.f a f).2⟩,λa f=>⟨(iE.p a f).1,by rw[Am λe=>nP (by rw[<- e];exact f)];exact(iE.p a f).2⟩⟩
  p6 (Okk.upP ⟨L6,o6⟩ p6) Az (Ag.upP ⟨L6,o6⟩ p6 (iO.app (Ag.one rv))) aP
theorem CI.one{W F5:Wd}{H1 H5:Hp}{D:Addr}{Bc:Nat->Option V}{r:List T×FS}{l:List T}{aR:St}{bM:FS}{ao:List T}{ys:List V}(nP:¬W.p D)(jh:Le W H1 F5 H5)(p5:F5.p D)(jn:Okk K F5 Bc H5 bM aR)(nQ:H5 D=some (.lst ys))(fX:Ag K F5 H5 ao ys)
  (aP:(match fe bM with|.ok (.t v) τ=>if ao.length<big then B0 gt ft fe l τ (ao++[v])else none|_=>none)=some r) :
  tF K Xp.no fe aR H5 λy H6=>∃ys,H6 D=some (.lst ys)/\ys.length<sizeLine/\CI K W H1 D Bc gt ft fe r l aR (upd H6 D (.lst (ys++[y]))):=by
 refine⟨F5,Bc,bM,jn,?_⟩;cases ee:fe bM with
 |exc c iW=>rw[ee]at aP;cases aP
 |bad=>rw[ee]at aP;cases aP
 |ok w iW =>
  rw[ee]at aP;cases w with
  |nw o=>cases aP
  |n o=>cases aP
  |t v =>
   dsimp only at aP;by_cases hlen:ao.length<big
   .rw[if_pos hlen]at aP;intro F6 H6 y l6 q6;obtain⟨L6,pP,o6,⟨_,rv⟩,_⟩:=q6;have p6:=l6.p D p5;exact⟨ys,p6.2.trans nQ,by rw[fX.len];exact sL hlen Jk,CI.put nP (jh.trans l6) p6.1 o6 (fX.le l6) rv aP⟩
   .rw[if_neg hlen]at aP;cases aP
theorem CI.turn{W F3:Wd}{H1 H3:Hp}{D:Addr}{Bc:Nat->Option V}{r:List T×FS}{t:T}{l:List T}{aR:St}{τ:FS}{ao:List T}{ys:List V}{x:V}(nP:¬W.p D)(l2:Le W H1 F3 H3)(pD:F3.p D)(aG:Okk K F3 Bc H3 τ aR)(dy:H3 D=some (.lst ys))(bH:Ag K F3 H3 ao ys)
  (aP:B0 gt ft fe (t::l) τ ao=some r) (rx:AI K F3 H3 t x) :
  tG K gt x aR H3 λbM H4=>tT K Xp.no ft bM H4 λb H5=>if b=true then tF K Xp.no fe bM H5 λy H6=>∃ys,H6 D=some (.lst ys)/\ys.length<sizeLine/\CI K W H1 D Bc gt ft fe r l bM (upd H6 D (.lst (ys++[y])))else CI K W H1 D Bc gt ft fe r l bM H5:=by
 simp only[B0]at aP;refine⟨F3,Bc,τ,t,aG,rx,?_⟩;cases eg:gt t τ with|none=>rw[eg]at aP;cases aP|some iV =>rw[eg]at aP;intro F4 H4 lX l4 dX;refine⟨F4,Bc,iV,dX,?_⟩;dsimp only at aP;cases et:ft iV with|exc c bM=>rw[et]at aP;cases aP|bad=>rw[et]at aP;cases aP|ok b bM =>rw[et]at aP;intro F5 H5 b' l5 q5;obtain⟨jn,rfl⟩:=q5;have p4:=l4.p D pD;have p5:=l5.p D p4.1;have h5:=(p5.2.trans p4.2).trans dy;have jh:=(l2.trans l4).trans l5;have r5:=(bH.le l4).le l5;cases b' with|false =>rw[if_neg (by decide)];exact .mk F5 bM ao ys jh p5.1 jn h5 r5 aP|true =>rw[if_pos rfl];exact CI.one nP jh p5.1 jn h5 r5 aP
theorem Uu{F:Wd}{H:Hp}{B:Nat->Option V}{fs:FS}{U:St}{src:List (Option Nat)}(ok:Okk K F B H fs U)(gh:(src.all λo=>o.elim true λj=>decide (j<fs.length))=true)(k:Nat)(i:Ini)(v:Option V)(e1:(src.map λo=>o.elim Ini.no Ini.slot)[k]?=some i)(e2:(Fh U src)[k]?=some v):UB K F H U i v []:=by
 unfold Fh at e2;rw[qX,qJ]at e1 e2;obtain⟨o,eo,rfl⟩:=e1;obtain⟨o',kN,rfl⟩:=e2;rw[eo]at kN;cases kN;cases o with
 |none=>exact trivial
 |some j =>
  have hj:j<U.length:=by obtain⟨L1,o1⟩:=ok;rw[o1.sl.len];exact qW (rC.mp gh _ (sv eo))
  show U[j]?=some ((U[j]?).join);rw[qo hj];rfl
theorem Qy{F1 F2:Wd}{H2:Hp}{B:Nat->Option V}{aj:FS}{U:St}{D:Addr}{ys:List V}{ao:List T}{L:List Addr}(o3:Ok K ⟨F2.f,F1.p⟩ B H2 aj U L)(dy:H2 D=some (.lst ys))(bH:Ag K F2 H2 ao ys)(nL:D∉L)(nF:¬F2 D)(np:¬F1.p D):RR K B U ⟨F2.f,F1.p⟩ H2 aj (.nw (.lst ao)) (.ref D):=by
 refine⟨L,[D],o3,CT dy (Ag.wp bH),?_,λa m=>?_⟩
 .rw[qp];exact⟨o3.nd,by simp,λa ha b hb e=>nL (by rw[<- qQ.mp hb,<- e];exact ha)⟩
 .rw[qQ.mp m];exact⟨nF,np⟩
theorem Qx{F1 F2:Wd}{H2:Hp}{B:Nat->Option V}{aj:FS}{U:St}{D:Addr}{ys:List V}{ao:List T}{L:List Addr}(o3:Ok K ⟨F2.f,F1.p⟩ B H2 aj U L)(dy:H2 D=some (.lst ys))(bH:Ag K F2 H2 ao ys)(nL:D∉L)(np:¬F1.p D):RR K B U (QP ⟨F2.f,F1.p⟩ [D]) H2 aj (.t (.lst ao)) (.ref D):=by
 have l3:Le ⟨F2.f,F1.p⟩ H2 (QP ⟨F2.f,F1.p⟩ [D]) H2:=orF;refine RR.of ⟨L,?_⟩ ?_
 .refine⟨o3.sl.le l3 λ_ _=>rfl,o3.nd,λa m z=>?_,λa z=>?_,o3.bo,o3.pd,λa z=>?_,o3.pl⟩
  .rcases z with z|z
   .exact o3.nf a m z
   .exact nL (by rw[<- qQ.mp z];exact m)
  .rcases z with z|z
   .exact o3.fd a z
   .rw[qQ.mp z,dy];simp
  .rcases z with z|z
   .exact o3.pf a z
   .rw[qQ.mp z];exact np
 .simp only[B1,AI];exact⟨D,ys,rfl,.inr (by simp),dy,Ag.le l3 (Ag.wp bH)⟩
theorem RT{new:Bool}{src:List (Option Nat)}{U:St}{H:Hp}{Q:VK}(h:tF K Z (BR new src fi gt ft fe) U H Q):Sf src (tI K Z fi) (tG K gt) (tT K Xp.no ft) (tF K Xp.no fe) U H Q:=by
 obtain⟨F,B,fs,ok,s⟩:=h;refine⟨F,B,fs,ok,AL s λts ag F1 H1 J l q s1=>?_⟩;obtain⟨aq,jk⟩:=q;split at s1
 .rename_i cq;obtain⟨L9,pk⟩:=id aq;obtain⟨Pp,p1,p2,p3,p4⟩:=lend (μ:=λ_=>[]) pk (by unfold Fh;simp) (Uu aq cq.2) cq.1 Mu.no;have jI:JOk K ⟨F1.f,Pp⟩ H1 J ts:=jk.within;split at s1
  .rename_i vs kI ec;split at s1
   .rename_i aj eb;intro D hD;have nP:¬Pp D:=λz=>p3 D z hD
    refine⟨λi m aR H2=>m=ts.length-i/\CI K ⟨F1.f,Pp⟩ H1 D (Bof (Fh U src)) gt ft fe (vs,kI) (ts.drop i) aR H2,
     ⟨ts.length,rfl,.mk ⟨F1.f,λa=>Pp a\/a=D⟩ _ [] [] ⟨λa f=>⟨f,Am λe=>p2.fd a f (e▸hD)⟩,λa f=>⟨.inl f,Am λe=>nP (e▸f)⟩⟩ (.inr rfl) (p2.hide hD) Az rfl ec⟩,λi m aR H2 hc=>?_⟩
    obtain⟨rfl,F2,τ,ao,ys,l2,pD,aG,dy,bH,aP⟩:=hc;by_cases cW:i<ts.length
    .have ei:ts[i]?=some ts[i]:=qo cW;rw[rY cW]at aP;obtain⟨j1,j2⟩:=(jI F2 H2 l2.f ⟨_,_,_,aG⟩ i).1 _ ei;refine .inr ⟨j1,CI K ⟨F1.f,Pp⟩ H1 D (Bof (Fh U src)) gt ft fe (vs,kI) (ts.drop (i+1)),λlW H' h=>⟨ts.length-(i+1),by lia,rfl,h⟩,λx H3 hy=>?_⟩;obtain⟨F3,⟨ji,nw⟩,rx⟩:=j2 x H3 hy;exact CI.turn nP (l2.trans ji) (ji.p D pD).1 (nw _ _ _ aG) ((ji.p D pD).2.trans dy) (bH.le ji) aP rx
    .refine .inl ⟨(jI F2 H2 l2.f ⟨_,_,_,aG⟩ i).2 (by lia),?_⟩;rw[tL (by lia)]at aP;simp only[B0]at aP;cases aP;obtain⟨Li,o2⟩:=aG;obtain⟨le,L,o3,sub⟩:=p4 F2 H2 kI aR Li aj l2 o2 eb;have nL:D∉L:=λm=>(sub D m).elim (λz=>o2.pl D z pD) nP
     have np:¬F1.p D:=λz=>nP (p1 D z)
     cases new with|true =>rw[if_pos rfl]at s1;exact s1 ⟨F2.f,F1.p⟩ H2 (.ref D) le (Qy o3 dy bH nL (λf=>o2.pf D f pD) np)|false =>rw[if_neg (by decide)]at s1;exact s1 (QP ⟨F2.f,F1.p⟩ [D]) H2 (.ref D) (le.trans orF) (Qx o3 dy bH nL np)
   .exact s1.elim
  .exact s1.elim
 .exact s1.elim
theorem DH(new:Bool)(N:List Str)(src:List (Option Nat))(aS:X.calm=true)(hi:FI X Z tg aw fi)(hg:∀cl C s H fp,GT (B7 X N sc cl C s H fp) tg gt)(ht:∀cl C s H fp,FIf (B7 X N sc cl C s H fp) bw ft)
  (he:∀cl C s H fp,FE (B7 X N sc cl C s H fp) Xp.no bR fe) (hS:GW X.env.scope sc=true:=by rfl) (bb:EX X.N sc N src=true:=by rfl)
  (hs:∀x,foldedSetIterable aw X.env x=pure x:=by intro _;rfl):FE X Z (.ListComp bR [⟨tg,aw,bw,0⟩] sc pos) (BR new src fi gt ft fe) :=
 A5 (Sw (g:=tG X.K gt) (tt:=tT X.K Xp.no ft) (te:=tF X.K Xp.no fe) N src aS hi hg ht he hS bb hs) λ_ _ _ h=>RT h
theorem GR(new:Bool)(i:Nat){y:Str}{ay dZ:Pos}(N:List Str)(src:List (Option Nat))(aS:X.calm=true)(hN:X.N.Nodup)(hy:Loc X.env.scope y)(hi:FI X Z tg aw fi)(hg:∀cl C s H fp,GT (B7 X N sc cl C s H fp) tg gt)(ht:∀cl C s H fp,FIf (B7 X N sc cl C s H fp) bw ft)
  (he:∀cl C s H fp,FE (B7 X N sc cl C s H fp) Xp.no bR fe) (jU:X.N[i]?=some y:=by rfl) (hS:GW X.env.scope sc=true:=by rfl) (bb:EX X.N sc N src=true:=by rfl)
  (hs:∀x,foldedSetIterable aw X.env x=pure x:=by intro _;rfl) (gB:swapsWith (.ListComp bR [⟨tg,aw,bw,0⟩] sc pos) (some (.Name y ay)) dZ.line X.env=pure true:=by rfl)
  (hf:X.fn y=true\/X.env.scope.names.lookup y=some .local:=by first|exact .inl rfl|exact .inr rfl|assumption) :
  GS X Z (.Assign [.Name y ay] (.ListComp bR [⟨tg,aw,bw,0⟩] sc pos) dZ) (Ay i (BR new src fi gt ft fe)) :=
 BS (Lv (g:=tG X.K gt) (tt:=tT X.K Xp.no ft) (te:=tF X.K Xp.no fe) N src aS hN jU hy hi hg ht he hS bb hs gB hf) λ_ _ _ s=>RT (Vb s)
end
noncomputable def orG(g g':Rv->Rv->FS->Out Rv):Rv->Rv->FS->Out Rv:=λx y fs=>match g x y fs with|.bad=>g' x y fs|o=>o
theorem OpF.or{K:Fg}{Z:Xp}{r r':R2}{g g':Rv->Rv->FS->Out Rv}(h:OpF K Z r g)(h':OpF K Z r' g'):OpF K Z (orR r r') (orG g g'):=by intro F B H U fs x y u w Q ok rx ry s;unfold orG at s;cases e:g x y fs with|ok a t=>rw[e]at s;exact .inl (h F B H U fs x y u w Q ok rx ry (by rw[e];exact s))|exc c t=>rw[e]at s;exact .inl (h F B H U fs x y u w Q ok rx ry (by rw[e];exact s))|bad=>rw[e]at s;exact .inr (h' F B H U fs x y u w Q ok rx ry s)
noncomputable def orC(g g':List Rv->FS->Out Rv):List Rv->FS->Out Rv:=λx fs=>match g x fs with|.bad=>g' x fs|o=>o
theorem Dk.or{K:Fg}{Z:Xp}{r r':List V->Hp->VK->Prop}{g g':List Rv->FS->Out Rv}(h:Dk K Z r g)(h':Dk K Z r' g'):Dk K Z (Rm r r') (orC g g'):=by intro F B H U fs x u Q ok rx s;unfold orC at s;cases e:g x fs with|ok a t=>rw[e]at s;exact .inl (h F B H U fs x u Q ok rx (by rw[e];exact s))|exc c t=>rw[e]at s;exact .inl (h F B H U fs x u Q ok rx (by rw[e];exact s))|bad=>rw[e]at s;exact .inr (h' F B H U fs x u Q ok rx s)
noncomputable def exL(fs:FS):Rv->Option (List T)
 |.t (.lst ts)=>some ts
 |.n i=>match AM fs i with|some (.lst ts)=>some ts|_=>none
 |_=>none
theorem RK{K:Fg}{B:Nat->Option V}{F:Wd}{H:Hp}{U:St}{fs:FS}{x:Rv}{u:V}{ts:List T}(h:Okk K F B H fs U)(r:B1 K F H U x u)(e:exL fs x=some ts):∃a vs,u=.ref a/\H a=some (.lst vs)/\Ag K F H ts vs:=by
 unfold exL at e;split at e
 .cases e;simp only[B1,AI]at r;obtain⟨a,vs,e,f,s,q⟩:=r;exact⟨a,vs,e,s,q⟩
 .rename_i i;split at e
  .rename_i iU eo;cases e;obtain⟨v,L2,e1,q,_⟩:=h.own eo;have e2:U[i]?=some (some u):=r;rw[e1]at e2;have e3:v=u:=by simpa using e2
   subst e3;simp only[AD]at q;obtain⟨a,vs,e,s,q,_⟩:=q;exact⟨a,vs,e,s,q⟩
  .cases e
 .cases e
noncomputable def IU:Rv->Rv->FS->Out Rv:=λx y fs=>match exL fs x,exL fs y with|some ts,some us=>if ts.length+us.length<=big then .ok (.nw (.lst (ts++us))) fs else .bad|_,_=>.bad
noncomputable def TL:Rv->Rv->FS->Out Rv
 |.t (.tup ts),.t (.tup us),fs=>if ts≠[]/\ts.length+us.length<=big then okT (.tup (ts++us)) fs else .bad
 |_,_,_=>.bad
section
variable{K:Fg}{Z:Xp}
theorem SQ:OpF K Z ZO IU:=by
 intro F B H U fs x y u w Q ok rx ry s;unfold IU at s;split at s
 .rename_i ts us e1 e2;split at s
  next hl=>obtain⟨a,vs,rfl,hs,r⟩:=RK ok rx e1;obtain⟨b,ws,rfl,aO,r2⟩:=RK ok ry e2;exact⟨a,b,vs,ws,rfl,rfl,hs,aO,by rw[r.len,r2.len];exact qS hl Dv,λp hp=>s F _ (.ref p) (Bi ok hp) (RR.alloc ok hp (CT Az ((r.app r2).le (Bi ok hp))))⟩
  .exact s.elim
 .exact s.elim
theorem SN:OpF K Z (Vj K) TL:=by
 intro F B H U fs x y u w Q ok rx ry s;unfold TL at s;split at s
 .rename_i ts us;split at s
  .rename_i hl;obtain⟨a,vs,rfl,hs,r⟩:=B3 (ts:=ts) rx rfl;obtain⟨b,ws,rfl,aO,r2⟩:=B3 (ts:=us) ry rfl;refine⟨a,b,vs,ws,rfl,rfl,hs,aO,λz=>hl.1 ?_,by rw[r.len,r2.len];exact qS hl.2 Dv,λz=>?_,λ_ p hp=>s _ _ (.ref p) (Bs ok hp) (EK ok hp (r.app r2))⟩
   .have:=r.len;rw[z]at this;exact rn this.symm
   .have e:us=[]:=by have:=r2.len;rw[z]at this;exact rn this.symm
    subst e;rw[rD]at s;exact s F H _ Le.refl (RR.of ok rx)
  .exact s.elim
 .exact s.elim
noncomputable def NW:Rv->Rv->FS->Out Rv
 |.t (.tup []),.t (.tup us),fs=>okT (.tup us) fs
 |_,_,_=>.bad
theorem Py:OpF K Z (Q6 K) NW:=by
 intro F B H U fs x y u w Q ok rx ry s;unfold NW at s;split at s
 .rename_i us;obtain⟨a,vs,rfl,hs,r⟩:=B3 (ts:=[]) rx rfl;obtain⟨b,ws,rfl,aO,r2⟩:=B3 (ts:=us) ry rfl;have e:vs=[]:=by simpa[Ag]using r
  subst e;exact⟨a,b,ws,rfl,rfl,hs,aO,s F H _ Le.refl (RR.of ok ry)⟩
 .exact s.elim
theorem SM:OpF K Z Vi NV:=by
 intro F B H U fs x y u w Q ok rx ry s;unfold NV at s;split at s
 .split at s
  .rename_i t e;obtain⟨a,o',rfl,hd,h⟩:=Og ok rx ry e;rcases h with⟨h1,_⟩|⟨t',v,h1,h2,h3⟩
   .cases h1
   .cases h1;subst h2;exact⟨a,v,rfl,hd,s F H v Le.refl (RR.of ok h3)⟩
  .exact s.elim
 .exact s.elim
theorem Nf(neg:Bool):OpF K Z (Yq neg) (TK neg):=by
 intro F B H U fs y x w u Q ok ry rx s;unfold TK at s;split at s
 .split at s
  .rename_i t e;obtain⟨a,o',rfl,hd,h⟩:=Og ok rx ry e;refine⟨a,o',rfl,hd,?_⟩;have:o'.isSome=t.isSome:=by
    rcases h with⟨h1,h2⟩|⟨t',v,h1,h2,h3⟩
    .rw[h1,h2];rfl
    .rw[h1,h2];rfl
   rw[this];exact s F H _ Le.refl (RR.of ok rfl)
  .exact s.elim
 .exact s.elim
end
noncomputable def Ao:=orG Za (orG Qj (orG IU (orG TL NW)))
noncomputable def Bm:=orG UI Qi
noncomputable def A1:=orG gIx NV
noncomputable def Dq(neg:Bool):=orG (TK neg) (orG (IT neg) (gIn neg))
noncomputable def NU:List Rv->FS->Out Rv
 | [.t (.v ks _)],fs=>okT (.int ks.length) fs
 | [.n i],fs=>match AM fs i with|some (.v ks _)=>okT (.int ks.length) fs|_=>.bad
 |_,_=>.bad
noncomputable def Bd:=orC UJ (orC JS NU)
noncomputable def NS:=orC TF NT
section
variable{K:Fg}{Z:Xp}
theorem Ur:Dk K Z (λxs H Q=>∃a af,xs=[V.ref a]/\Rd H a (.v af)/\Q (.int af.length) H) NU:=by
 intro F B H U fs rs vs Q ok q s;unfold NU at s;split at s
 .obtain⟨v,rfl,qq⟩:=Br q;have q:=qq;simp only[B1,AI]at q;obtain⟨a,af,rfl,f,hd,rfl,r⟩:=q;rw[qw]at s;exact⟨a,af,rfl,hd,s F H _ Le.refl (RR.of ok rfl)⟩
 .rename_i i;obtain⟨v,rfl,qq⟩:=Br q;have q:=qq;split at s
  .rename_i eo;obtain⟨v',L2,e1,q2,_⟩:=ok.own eo;have e2:U[i]?=some (some v):=q;rw[e1]at e2;have e3:v'=v:=by simpa using e2
   subst e3;simp only[AD]at q2;obtain⟨a,af,rfl,hd,rfl,_⟩:=q2;rw[qw]at s;exact⟨a,af,rfl,.inl hd,s F H _ Le.refl (RR.of ok rfl)⟩
  .exact s.elim
 .exact s.elim
end
section
variable{X:Cx}{Z:Xp}{a b:Expr}{fa fb:FS->Out Rv}{pos:Pos}
theorem Xj(ha:FE X Z a fa)(hb:FE X Z b fb):FE X Z (.BinOp a .Add b pos) (Ad Ao fa fb) :=
 LW (OpF.or VX (OpF.or SR (OpF.or SQ (OpF.or SN Py)))) (OpR.orR VO (OpR.orR LA (OpR.orR VN (OpR.orR SG Pr)))) ha hb
theorem WU(ha:FE X Z a fa)(hb:FE X Z b fb):FE X Z (.BinOp a .Sub b pos) (Ad EU fa fb):=LW VR VF ha hb
theorem W0(ha:FE X Z a fa)(hb:FE X Z b fb):FE X Z (.BinOp a .Mult b pos) (Ad Bm fa fb):=LW (OpF.or VT SI) (OpR.orR SE M0) ha hb
theorem W4(ha:FE X Z a fa)(hb:FE X Z b fb):FE X Z (.BinOp a .Mod b pos) (Ad Bk fa fb):=LW VU VI ha hb
theorem Xe(ha:FE X Z a fa)(hb:FE X Z b fb):FE X Z (.BinOp a .FloorDiv b pos) (Ad CP fa fb):=LW VW SF ha hb
theorem Zi(hu:X.A.units+1<cLine)(ha:FE X Z a fa)(hb:FE X Z b fb)(hs:HX b):FE X Z (.Subscript a b pos) (Ad A1 fa fb):=Zk (OpF.or YI SM) (IxR.orR Wi (Tj hu)) ha hb hs
theorem Zr(ha:FE X Z a fa)(hb:FE X Z b fb):FE X Z (.Compare a [.Eq] [b] pos) (Ad (gEq false) fa fb):=N3 of_eq VM ha hb (DZ _)
theorem Zh(ha:FE X Z a fa)(hb:FE X Z b fb):FT X Z (.Compare a [.Eq] [b] pos) (asB (Ad (gEq false) fa fb)):=D2 of_eq VM ha hb (DZ _)
theorem Zc(ha:FE X Z a fa)(hb:FE X Z b fb):FT X Z (.Compare a [.NotEq] [b] pos) (asB (Ad (gEq true) fa fb)):=D2 YH YD ha hb (DZ _)
theorem Ze(ha:FE X Z a fa)(hb:FE X Z b fb):FT X Z (.Compare a [.Lt] [b] pos) (asB (Ad gLt fa fb)):=D2 of_lt YE ha hb (DZ _)
theorem Zg(ha:FE X Z a fa)(hb:FE X Z b fb):FT X Z (.Compare a [.Gt] [b] pos) (asB (Ad gGt fa fb)):=D2 YJ YF ha hb (DZ _)
theorem Zl(hu:X.A.units+1<cLine)(ha:FE X Z a fa)(hb:FE X Z b fb)(hm:behindInMarks .In b=false:=by rfl):FE X Z (.Compare a [.In] [b] pos) (Ad (Dq false) fa fb) :=
 N3 (OpF.or (Nf false) (OpF.or Kv (SJ false))) (OpR.orR (Ro hu) (OpR.orR Iz FR)) ha hb hm
theorem Zf(hu:X.A.units+1<cLine)(ha:FE X Z a fa)(hb:FE X Z b fb)(hm:behindInMarks .In b=false:=by rfl):FT X Z (.Compare a [.In] [b] pos) (asB (Ad (Dq false) fa fb)) :=
 D2 (OpF.or (Nf false) (OpF.or Kv (SJ false))) (OpR.orR (Ro hu) (OpR.orR Iz FR)) ha hb hm
theorem Ql(hu:X.A.units+1<cLine)(ha:FE X Z a fa)(hb:FE X Z b fb)(hm:behindInMarks .NotIn b=false:=by rfl):FT X Z (.Compare a [.NotIn] [b] pos) (asB (Ad (Dq true) fa fb)) :=
 D2 (OpF.or (Nf true) (OpF.or JG (SJ true))) (OpR.orR (M4 hu) (OpR.orR Iy DB)) ha hb hm
end
noncomputable def itU(f:FS->Out Rv):FS->Out (List T):=λfs=>(f fs).bnd λr fs=>match r with|.t (.lst ts)=>.ok ts fs|.t (.z7 ts)=>.ok ts fs|.t (.tup ts)=>.ok ts fs|.t (.str z)=>.ok (signs z) fs|_=>.bad
theorem WR{X:Cx}{Z:Xp}{tg l:Expr}{f:FS->Out Rv}(hl:FE X Z l f):FI X Z tg l (itU f):=by
 refine Kp (Vt hl) λU H Q ai => ?_
 obtain⟨F,B,fs,ok,s⟩:= ai;refine⟨F,B,fs,ok,AQ s λr ag F1 H1 u l aq rx s1=>?_⟩;split at s1
 next ts=>simp only[B1,AI]at rx;obtain⟨a,vs,rfl,ff,hs,r⟩:=rx;exact .inl ⟨a,rfl,⟨vs,SqL.of hs⟩,s1 F1 H1 _ Le.refl ⟨aq,Kz (λF' H' l=>SqL.of ((l a ff).2.trans hs)) r⟩⟩
 next ts=>simp only[B1,AI]at rx;obtain⟨a,vs,rfl,hs,r⟩:=rx;exact .inl ⟨a,rfl,⟨vs,hs.sq⟩,s1 F1 H1 _ Le.refl ⟨aq,Kz (λF' H' l=>(StL.lf l hs).sq) r⟩⟩
 next ts=>simp only[B1,AI]at rx;obtain⟨a,vs,rfl,hs,r⟩:=rx;exact .inr (.inl ⟨a,rfl,⟨vs,hs.sq⟩,s1 F1 H1 _ Le.refl ⟨aq,Tg (λF' H' l=>SqT.of ((l a hs.2.1).2.trans hs.2.2)) r⟩⟩)
 next z=>exact .inr (.inr ⟨z,rx,s1 F1 H1 _ Le.refl ⟨aq,Th⟩⟩)
 .exact s1.elim
noncomputable def Qf:Rv->Rv->Rv->FS->SO
 |.n i,.t (.int k),.t t,fs=>match AM fs i with
  |some (.lst ts)=>match ixN ts.length k with|some j=>.nx (putAt fs i (.lst (ts.set j t)))|none=>.bad
  |_=>.bad
 |_,_,_,_=>.bad
noncomputable def NP:Rv->Rv->Rv->FS->SO
 |.n i,.t y,.t t,fs=>match AM fs i with
  |some (.v ks ts)=>match Lo y with|some k=>if ks.length<big then .nx (putAt fs i (.v (Hq ks ts k t).1 (Hq ks ts k t).2))else .bad|none=>.bad
  |some (.dT ks ts)=>match y with
   |.tup ys=>match Jv ys with|some k=>if ks.length<big then .nx (putAt fs i (.dT (Hq ks ts k t).1 (Hq ks ts k t).2))else .bad|none=>.bad
   |_=>.bad
  |_=>.bad
 |_,_,_,_=>.bad
noncomputable def Tz:Rv->Rv->Rv->FS->SO:=λo i v fs=>match Qf o i v fs with|.bad=>NP o i v fs|s=>s
noncomputable def Eh(fv fo fi:FS->Out Rv):FS->SO:=λfs=>SO.of ((fv fs).bnd λv fs=>(fo fs).bnd λo fs=>(fi fs).bnd λi fs=>.ok (v,o,i) fs) λ(v,o,i) fs=>Tz o i v fs
section
variable{K:Fg}{Z:Xp}{B:Nat->Option V}{F:Wd}{H:Hp}{U:St}{fs:FS}{D:Ends}
theorem Qe{o i v:Rv}{uo ui uv:V}(ok:Okk K F B H fs U)(ro:B1 K F H U o uo)(ri:B1 K F H U i ui)(rv:B1 K F H U v uv)(s:Fp K Z B F H (Qf o i v fs) D):O6 uo ui uv H (λH3=>D.nx U H3):=by
 unfold Qf at s;split at s
 .rename_i i k t;split at s
  .rename_i ts e;split at s
   next j ej=>obtain⟨a,us,rfl,hs,r,kk⟩:=ok.list ro e;obtain⟨bW,l⟩:=kk (ts.set j t) (us.set j uv) (Ag.set rv j r);exact⟨a,us,k,j,rfl,ri,hs,by rw[r.len];exact ej,s F _ U l bW⟩
   .exact s.elim
  .exact s.elim
 .exact s.elim
theorem Qg{o i v:Rv}{uo ui uv:V}(ok:Okk K F B H fs U)(ro:B1 K F H U o uo)(ri:B1 K F H U i ui)(rv:B1 K F H U v uv)(s:Fp K Z B F H (NP o i v fs) D):O8 uo ui uv H (λH3=>D.nx U H3):=by
 unfold NP at s;split at s
 .rename_i i y t;split at s
  .rename_i ks ts e;split at s
   .rename_i k ek;split at s
    .rename_i hl;obtain⟨v,L2,e1,q,nf,_,kk⟩:=ok.own e;have e2:U[i]?=some (some uo):=ro;rw[e1]at e2;have e3:v=uo:=by simpa using e2
     subst e3;simp only[AD]at q;obtain⟨a,af,rfl,hs,rfl,q,rfl⟩:=q;have:=Fm ek ri;subst this;refine⟨a,_,rfl,OQ.k hs (by rw[qw]at hl;exact sL hl Jk),?_⟩;obtain⟨h1,h2⟩:=Ho (j:=k) rv q;have l:Le F H F (upd H a (.v (putK af k uv))):=⟨λb f=>⟨f,Am λz=>(nf a (by simp)).1 (z▸f)⟩,λb f=>⟨f,Am λz=>(nf a (by simp)).2 (z▸f)⟩⟩
     obtain⟨bW,l'⟩:=kk (.v (Hq (af.map (·.1)) ts k t).1 (Hq (af.map (·.1)) ts k t).2) (upd H a (.v (putK af k uv))) (λb hb _=>Am (by simpa using hb)) (by simp only[AD];exact⟨a,_,rfl,Az,h1,h2.le l,rfl⟩);exact s F _ U l' bW
    .exact s.elim
   .exact s.elim
  .rename_i ks ts e;split at s
   .rename_i ys;split at s
    .rename_i k ek;split at s
     .rename_i hl;obtain⟨v,L2,e1,q,nf,_,kk⟩:=ok.own e;have e2:U[i]?=some (some uo):=ro;rw[e1]at e2;have e3:v=uo:=by simpa using e2
      subst e3;simp only[AD]at q;obtain⟨a,af,rfl,hs,rfl,q,rfl⟩:=q;simp only[B1,AI]at ri;obtain⟨b,vs,rfl,hb,rb⟩:=ri;have:=FH ek rb;subst this;refine⟨a,_,rfl,OQ.t hs hb.2.2 (by rw[qw]at hl;exact sL hl Jk),?_⟩;obtain⟨h1,h2⟩:=Ho (j:=k) rv q;have l:Le F H F (upd H a (.dT (putK af k uv))):=⟨λb f=>⟨f,Am λz=>(nf a (by simp)).1 (z▸f)⟩,λb f=>⟨f,Am λz=>(nf a (by simp)).2 (z▸f)⟩⟩
      obtain⟨bW,l'⟩:=kk (.dT (Hq (af.map (·.1)) ts k t).1 (Hq (af.map (·.1)) ts k t).2) (upd H a (.dT (putK af k uv))) (λb hb _=>Am (by simpa using hb)) (by simp only[AD];exact⟨a,_,rfl,Az,h1,h2.le l,rfl⟩);exact s F _ U l' bW
     .exact s.elim
    .exact s.elim
   .exact s.elim
  .exact s.elim
 .exact s.elim
end
theorem P6{X:Cx}{Z:Xp}{o i e:Expr}{fv fo fi:FS->Out Rv}{bI pos:Pos}(hu:X.A.units+1<cLine)(he:FE X Z e fv)(ho:FE X Z o fo)(hi:FE X Z i fi)
  (h:∀{te to ti:TE}{t:RZ},PE X e te->PE X o to->PE X i ti->QR X t->PS X (.Assign [.Subscript o i bI] e pos) (U5 te (Y5 to ti t))):GS X Z (.Assign [.Subscript o i bI] e pos) (Eh fv fo fi):=by
 refine BS (h he ho hi (QR.orR set_list (set_dict hu))) λD U H ai=>?_
 obtain⟨F,B,fs,ok,s⟩:= ai;have s':sat Z B (RR X.K B U) F H (fv fs) (λv H1=>Y5 (tF X.K Z fo) (tF X.K Z fi) (SA O6 O8) v U H1 D.nx):=by
  have s1:=BB (R:=λF' H' aj (a:Rv×Rv×Rv) (b:V×V×V)=>Okk X.K F' B H' aj U/\B1 X.K F' H' U a.1 b.1/\B1 X.K F' H' U a.2.1 b.2.1/\B1 X.K F' H' U a.2.2 b.2.2) (Q:=λb H3=>SA O6 O8 b.2.1 b.2.2 b.1 H3 λH4=>D.nx U H4) s (λa aj F' H' b l q s2=>by
   obtain⟨q1,q2,q3,q4⟩:=q;obtain⟨v,o,i⟩:=a;dsimp only at s2 q2 q3 q4 ⊢;unfold Tz at s2;split at s2
   .exact .inr (Qg q1 q3 q4 q2 s2)
   .exact .inl (Qe q1 q3 q4 q2 s2))
  refine AQ s1 λv ag F1 H1 uv l1 aq rv s2=>?_
  refine⟨F1,B,ag,aq,AQ s2 λo ax F2 H2 uo l2 aG ro s3=>⟨F2,B,ax,aG,AQ s3 λi dk F3 H3 ui l3 cH ri s4=>?_⟩⟩;exact s4 F3 H3 (uv,uo,ui) Le.refl ⟨cH,(rv.le l2).le l3,ro.le l3,ri⟩
 exact⟨F,B,fs,ok,s'⟩
theorem P8{X:Cx}{Z:Xp}{st:Stmt}:GS X Z st (λ_=>.bad):=BS Pd λD U H ⟨F,B,fs,ok,s⟩=>s.elim
section
variable{K:Fg}{B:Nat->Option V}{F F':Wd}{H H':Hp}{U:St}{fs:FS}{i:Nat}{ob:FO}{r:Rv}{u:V}
theorem RR.put(h:RR K B U F H fs r u)(e:AM fs i=some ob):∃v L2 L',U[i]?=some (some v)/\AD K F H ob v L2/\Md K F H U r u L'/\(L2++L').Nodup/\(∀a∈L2++L',¬F a/\¬F.p a) /\
  ∀aJ H' M,(∀a,a∉L2->H a≠none->H' a=H a)->AD K F H' aJ v M->M.Nodup->(∀b∈M,b∈L2\/b∈L')->Okk K F B H' (putAt fs i aJ) U/\Le F H F H':=by
 obtain⟨L,L',h,qr,pb,lO⟩:=h;have key:∀s:Sl,fs[i]?=some (some s)->(s=.own ob\/s=.bor ob)->∃v L2 L',U[i]?=some (some v)/\AD K F H ob v L2/\Md K F H U r u L'/\(L2++L').Nodup/\(∀a∈L2++L',¬F a/\¬F.p a) /\
  ∀aJ H' M,(∀a,a∉L2->H a≠none->H' a=H a)->AD K F H' aJ v M->M.Nodup->(∀b∈M,b∈L2\/b∈L')->Okk K F B H' (fs.set i (some (s.put aJ))) U/\Le F H F H':=by
  intro s es ho;obtain⟨v,L1,L2,L3,e1,rfl,h1,h2⟩:=h.sl.pick es;obtain⟨u',rfl,q⟩:∃u,v=some u/\AD K F H ob u L2:=by
   rcases ho with rfl|rfl
   .exact h1
   .exact h1
  have nd:=h.nd;have cV:∀a∈L1++L3,a∉L2:=λa ha hb=>by
   rw[qp]at nd;rcases qC.mp ha with ha|ha
   .exact nd.2.2 a ha a (qG _ hb) rfl
   .have:=(qp.mp nd.2.1).2.2;exact this a hb a ha rfl
  have gE:=qp.mp pb;have jv:∀a∈L1++L3,a∉L':=λa ha hb=>gE.2.2 a (by
   rcases qC.mp ha with ha|ha
   .simp[ha]
   .simp[ha]) a hb rfl
  refine⟨u',L2,L',e1,q,qr,?_,λa m=>?_,λaJ H' M k q' hm cZ=>?_⟩
  .rw[qp];refine⟨?_,gE.2.1,λa ha b hb=>gE.2.2 a (by simp[ha]) b hb⟩;rw[qp]at nd;exact(qp.mp nd.2.1).1
  .rcases qC.mp m with m|m
   .exact⟨h.nf a (by simp[m]),h.pl a (by simp[m])⟩
   .exact lO a m
  .have l:Le F H F H':=⟨λa f=>⟨f,k a (λm=>h.nf a (by simp[m]) f) (h.fd a f)⟩,λa f=>⟨f,k a (λm=>h.pl a (by simp[m]) f) (h.pd a f)⟩⟩
   have lM:∀a∈L1++(M++L3),¬F a/\¬F.p a:=λa m=>by
    rcases qC.mp m with m|m
    .exact⟨h.nf a (by simp[m]),h.pl a (by simp[m])⟩
    .rcases qC.mp m with m|m
     .rcases cZ a m with z|z
      .exact⟨h.nf a (by simp[z]),h.pl a (by simp[z])⟩
      .exact lO a z
     .exact⟨h.nf a (by simp[m]),h.pl a (by simp[m])⟩
   refine⟨⟨L1++(M++L3),?_,BU nd hm (λa m m2=>?_),λa m=>(lM a m).1,λa f=>by rw[(l.f a f).2];exact h.fd a f,?_,λa f=>by rw[(l.p a f).2];exact h.pd a f,h.pf,λa m=>(lM a m).2⟩,l⟩
   .have hL:∀a∈L1++L3,H' a=H a:=λa m=>k a (cV a m) (h.sl.def a (by
      rcases qC.mp m with m|m
      .simp[m]
      .simp[m]))
    have h3:=h2 F H' (some (s.put aJ)) (some u') M l hL (by
     rcases ho with rfl|rfl
     .exact⟨u',rfl,q'⟩
     .exact⟨u',rfl,q'⟩)
    rwa[Bv e1]at h3
   .rcases cZ a m with z|z
    .exact cV a m2 z
    .exact jv a m2 z
   .have:=EF.put (i:=i) (s:=some (s.put aJ)) (v:=some u') h.bo (λo eo=>by
     rcases ho with rfl|rfl
     .cases eo
     .obtain⟨w,e3,e4⟩:=h.bo i ob es;rw[e1]at e3;have e5:u'=w:=by simpa using e3
      exact⟨u',rfl,by rw[e5];exact e4⟩) h.sl.len
    rwa[Bv e1]at this
 unfold AM at e;split at e
 next o es=>cases e;obtain⟨v,L2,L',a1,a2,a3,a4,a5,a6⟩:=key _ es (.inl rfl);refine⟨v,L2,L',a1,a2,a3,a4,a5,λaJ H' M k q m1 m2=>?_⟩;have:=a6 aJ H' M k q m1 m2;unfold putAt;rw[es];exact this
 next o es=>cases e;obtain⟨v,L2,L',a1,a2,a3,a4,a5,a6⟩:=key _ es (.inr rfl);refine⟨v,L2,L',a1,a2,a3,a4,a5,λaJ H' M k q m1 m2=>?_⟩;have:=a6 aJ H' M k q m1 m2;unfold putAt;rw[es];exact this
 .cases e
end
noncomputable def X2:Rv->Option FO
 |.t t=>some (.val t)
 |.nw o=>some o
 |.n _=>none
noncomputable def Gz:List Str->List FO->Str->FO->Option (List Str×List FO)
 | [],[],f,o=>some ([f],[o])
 |g::gs,x::os,f,o=>if g=f then(match x with|.val _=>some (g::gs,o::os)|_=>none)else(Gz gs os f o).map λp=>(g::p.1,x::p.2)
 |_,_,_,_=>none
theorem Io{K:Fg}{F:Wd}{H:Hp}{f:Str}{o:FO}{y:V}{L':List Addr}(ro:AD K F H o y L'):∀{af:List (Str×V)}{os dY:List FO}{eT:List Str}{L:List Addr},AA K F H os (af.map (·.2)) L->Gz (af.map (·.1)) os f o=some (eT,dY) ->
  ∃M,(E8 f y af).map (·.1)=eT/\AA K F H dY ((E8 f y af).map (·.2)) M/\(∀a∈M,a∈L\/a∈L')/\((L++L').Nodup->M.Nodup)
 | [],os,dY,eT,L,r,e=>by cases os with|cons x os=>simp[Gz]at e|nil =>simp only[sE,Gz,Option.some.injEq,Prod.mk.injEq]at e;obtain⟨rfl,rfl⟩:=e;refine⟨L',rfl,?_,λa m=>.inr m,λnd=>(qp.mp nd).2.1⟩;simp only[E8,qm,sE,AA];exact⟨y,[],L',[],rfl,ro,⟨rfl,rfl⟩,by simp⟩
 |(g,x)::af,os,dY,eT,L,r,e=>by
  cases os with
  |nil=>simp[Gz]at e
  |cons o1 os =>
   simp only[qm,AA]at r;obtain⟨v,w,L1,L2,ee,r1,r2,rfl⟩:=r;cases ee;simp only[qm,Gz]at e;by_cases hg:g=f
   .rw[if_pos hg]at e;cases o1 with
    |val t =>
     simp only[Option.some.injEq,Prod.mk.injEq]at e;obtain⟨rfl,rfl⟩:=e;simp only[AD]at r1;obtain⟨rfl,_⟩:=r1;refine⟨L'++L2,?_,?_,λa m=>?_,λnd=>?_⟩
     .simp only[E8];rw[if_pos hg];rfl
     .simp only[E8];rw[if_pos hg];simp only[qm,AA];exact⟨y,_,L',L2,rfl,ro,r2,rfl⟩
     .rcases qC.mp m with m|m
      .exact .inr m
      .exact .inl (by simpa using m)
     .rw[qV]at nd;exact(List.perm_append_comm).nodup_iff.mp nd
    |lst _=>cases e
    |v _ _=>cases e
    |dT _ _=>cases e
    |ins _ _ _=>cases e
    |z0 _=>cases e
    |zz _=>cases e
    |dO _ _=>cases e
    |la _ _=>cases e
   .rw[if_neg hg,qJ]at e;obtain⟨p,ep,e⟩:=e;simp only[Prod.mk.injEq]at e;obtain⟨rfl,rfl⟩:=e;obtain⟨M,m1,m2,m3,m4⟩:=Io ro r2 (eT:=p.1) (dY:=p.2) (by rw[ep]);refine⟨L1++M,?_,?_,λa m=>?_,λnd=>?_⟩
    .simp only[E8];rw[if_neg hg,qm,m1]
    .simp only[E8];rw[if_neg hg];simp only[qm,AA];exact⟨x,_,L1,M,rfl,r1,m2,rfl⟩
    .rcases qC.mp m with m|m
     .exact .inl (qG _ m)
     .rcases m3 a m with z|z
      .exact .inl (qB _ z)
      .exact .inr z
    .rw[qT,qp]at nd;rw[qp];refine⟨nd.1,m4 nd.2.1,λa ha b hb e=>?_⟩;rcases m3 b hb with z|z
     .exact nd.2.2 a ha b (qG _ z) e
     .exact nd.2.2 a ha b (qB _ z) e
noncomputable def UL(C:Addr)(f:Str)(i:Nat)(fv:FS->Out Rv):FS->SO:=λfs=>SO.of (fv fs) λr fs=>match X2 r,AM fs i with|some o,some (.ins C' gs os)=>if C'=C/\gs.length<900 then(match Gz gs os f o with|some p=>.nx (putAt fs i (.ins C p.1 p.2))|none=>.bad)else .bad|_,_=>.bad
theorem Wx{X:Cx}{Z:Xp}{x f:Str}{e:Expr}{fv:FS->Out Rv}{C:Addr}{p1 p2 pos:Pos}(c:Cls X.K C)(n:Dj X.K C f)(i:Nat)(he:FE X Z e fv)
  (h:∀{tv:TE},PE X e tv->PS X (.Assign [.Attribute (.Name x p1) f p2] e pos) (ZJ X.K (UX i) tv f)):GS X Z (.Assign [.Attribute (.Name x p1) f p2] e pos) (UL C f i fv):=by
 refine BS (h he) λD U H ai => ?_
 obtain⟨F,B,fs,ok,s⟩:= ai;refine⟨F,B,fs,ok,BB s λr ag F1 H1 u l q s1=>?_⟩;split at s1
 .rename_i o C' gs os e1 e2;split at s1
  .rename_i hC;obtain⟨rfl,hl⟩:=hC;split at s1
   .rename_i p ep;obtain⟨v,L2,L',a1,a2,a3,a4,a5,a6⟩:=RR.put q e2;simp only[AD]at a2;obtain⟨a,dx,af,L3,rfl,hd,rfl,ro,rfl⟩:=a2;have ky:AD X.K F1 H1 o u L':=by cases r with|t t =>cases e1;simp only[AD];exact a3|nw o'=>cases e1;exact a3|n j=>cases e1
    obtain⟨M,m1,m2,m3,m4⟩:=Io ky ro (eT:=p.1) (dY:=p.2) (by rw[ep]);have gD:(L3++L').Nodup:=(rk.mp a4).2;have na:a∉L3++L':=(rk.mp a4).1;have lH:a∉M:=λz=>na (by
     rcases m3 a z with z|z
     .exact qG _ z
     .exact qB _ z)
    have k1:∀b,b∉a::L3->H1 b≠none->(upd H1 a (.ins C' dx (E8 f u af))) b=H1 b:=λb hb _=>Am λz=>hb (by rw[z];simp)
    have l1:Le F1 H1 F1 (upd H1 a (.ins C' dx (E8 f u af))):=⟨λb f=>⟨f,Am λz=>(a5 a (by simp)).1 (z▸f)⟩,λb f=>⟨f,Am λz=>(a5 a (by simp)).2 (z▸f)⟩⟩
    obtain⟨bW,l'⟩:=a6 (.ins C' p.1 p.2) (upd H1 a (.ins C' dx (E8 f u af))) (a::M) k1 (by
     simp only[AD];exact⟨a,dx,_,M,rfl,Az,m1,AA.le l1 (λb hb=>Am λz=>lH (z▸hb)) m2,rfl⟩) (rk.mpr ⟨lH,m4 gD⟩) (λb hb=>by
     rcases qK.mp hb with z|z
     .exact .inl (by rw[z];simp)
     .rcases m3 b z with z|z
      .exact .inl (qt _ z)
      .exact .inr z)
    exact⟨_,a1,a,C',dx,af,rfl,hd,c,n,by rw[qw]at hl;lia,s1 F1 _ U l' bW⟩
   .exact s1.elim
  .exact s1.elim
 .exact s1.elim
noncomputable def EJ:List Str->List FO->Str->FO->List FO
 |g::gs,x::os,f,o=>if f==g then o::os else x::EJ gs os f o
 |_,os,_,_=>os
theorem Im{K:Fg}{F:Wd}{H:Hp}{f:Str}{ks:List Key}{ts:List T}:∀{af:List (Str×V)}{os:List FO}{L:List Addr},AA K F H os (af.map (·.2)) L->L.Nodup->Dx (af.map (·.1)) os f=some (.v ks ts) ->
  ∃b ba,af.lookup f=some (.ref b)/\b∈L/\H b=some (.v ba)/\ba.map (·.1)=ks/\Ag K F H ts (ba.map (·.2)) /\
   ∀H' o',(∀a∈L,a≠b->H' a=H a)->Le F H F H'->AD K F H' o' (.ref b) [b]->AA K F H' (EJ (af.map (·.1)) os f o') (af.map (·.2)) L
 | [],os,L,r,nd,e=>by cases os<;>simp[Dx]at e
 |(g,x)::af,os,L,r,nd,e=>by cases os with|nil=>simp[Dx]at e|cons o1 os =>simp only[qm,AA]at r;obtain⟨v,w,L1,L2,ee,r1,r2,rfl⟩:=r;cases ee;simp only[qm,Dx]at e;rw[rF];have eM:=qp.mp nd;cases hb:f==g with|true =>rw[hb]at e;cases e;simp only[AD]at r1;obtain⟨b,ba,rfl,hd,rfl,rt,rfl⟩:=r1;refine⟨b,ba,rfl,by simp,hd,rfl,rt,λH' o' k l ro=>?_⟩;simp only[qm,EJ,hb,if_true,AA];refine⟨.ref b,_,[b],L2,rfl,ro,AA.le l (λa m=>k a (by simp[m]) λz=>eM.2.2 b (by simp) a m z.symm) r2,rfl⟩|false =>rw[hb]at e;obtain⟨b,ba,h1,h2,h3,h4,h5,h6⟩:=Im r2 eM.2.1 (by simpa using e);refine⟨b,ba,h1,qB _ h2,h3,h4,h5,λH' o' k l ro=>?_⟩;have:=h6 H' o' (λa m=>k a (qB _ m)) l ro;simp only[qm,EJ,hb,AA];exact⟨x,_,L1,L2,rfl,r1.le l λa m=>k a (qG _ m) λz=>eM.2.2 a m b h2 z,this,rfl⟩
noncomputable def Df(C:Addr)(f:Str)(i j:Nat)(fv:FS->Out Rv):FS->SO:=λfs=>SO.of (fv fs) λr fs=>match r,AM fs i,fs[j]? with|.t t,some (.ins C' gs os),some (some (.val y))=>if C'=C then(match Dx gs os f,Lo y with|some (.v ks ts),some k=>if ks.length<big then .nx (putAt fs i (.ins C gs (EJ gs os f (.v (Hq ks ts k t).1 (Hq ks ts k t).2))))else .bad|_,_=>.bad)else .bad|_,_,_=>.bad
theorem P9{X:Cx}{Z:Xp}{x y f:Str}{e:Expr}{fv:FS->Out Rv}{C:Addr}{p1 p2 p3 p4 pos:Pos}(c:Cls X.K C)(n:Dj X.K C f)(i j:Nat)(he:FE X Z e fv)
  (h:∀{tv:TE},PE X e tv->PS X (.Assign [.Subscript (.Attribute (.Name x p1) f p2) (.Name y p3) p4] e pos) (Vd (ZI X.K (UX i) f) (UX j) tv)) :
  GS X Z (.Assign [.Subscript (.Attribute (.Name x p1) f p2) (.Name y p3) p4] e pos) (Df C f i j fv):=by
 refine BS (h he) λD U H ai => ?_
 obtain⟨F,B,fs,ok,s⟩:= ai;refine⟨F,B,fs,ok,BB s λr ag F1 H1 u l q s1=>?_⟩;split at s1
 .rename_i t C' gs os y' e2 e3;split at s1
  .rename_i hC;subst hC;split at s1
   .rename_i ks ts k e4 e5;split at s1
    .rename_i hl;have rt:AI X.K F1 H1 t u:=by obtain⟨_,_,_,⟨_,q⟩,_⟩:=q;exact q
     have aq:=q.ok;obtain⟨v,L2,a1,a2,a3,a4,a5⟩:=aq.own e2;simp only[AD]at a2;obtain⟨a,dx,af,L3,rfl,hd,rfl,ro,rfl⟩:=a2;have lK:=rk.mp a4;obtain⟨b,ba,b1,b2,b3,rfl,b5,b6⟩:=Im ro lK.2 e4;obtain⟨L9,o9⟩:=id aq;obtain⟨w,M1,M2,M3,e6,_,h1,_⟩:=o9.sl.pick e3;obtain⟨uy,rfl,ry,_⟩:=h1;have:=Fm e5 ry;subst this;have fJ:a≠b:=λz=>lK.1 (z▸b2)
     obtain⟨h1,h2⟩:=Ho (j:=k) rt b5;have nb:=a3 b (qt _ b2);have l1:Le F1 H1 F1 (upd H1 b (.v (putK ba k u))):=⟨λz f=>⟨f,Am λq=>nb.1 (q▸f)⟩,λz f=>⟨f,Am λq=>nb.2 (q▸f)⟩⟩
     obtain⟨bW,l'⟩:=a5 (.ins C' (af.map (·.1)) (EJ (af.map (·.1)) os f (.v (Hq (ba.map (·.1)) ts k t).1 (Hq (ba.map (·.1)) ts k t).2))) (upd H1 b (.v (putK ba k u))) (λz hz _=>Am λq=>hz (by rw[q];exact qt _ b2)) (by simp only[AD];refine⟨a,dx,af,L3,rfl,by rw[Am fJ];exact hd,rfl,b6 _ _ (λz _ hz=>Am hz) l1 ?_,rfl⟩;simp only[AD];exact⟨b,_,rfl,Az,h1,h2.le l1,rfl⟩);exact⟨_,a1,a,C',dx,af,.ref b,rfl,hd,c,n,b1,kV k,e6,b,_,rfl,OQ.k b3 (by rw[qw]at hl;exact sL hl Jk),s1 F1 _ U l' bW⟩
    .exact s1.elim
   .exact s1.elim
  .exact s1.elim
 .exact s1.elim
section
variable{X:Cx}{Z:Xp}{e:Expr}{es:List Expr}{fa:FS->Out (List Rv)}{pos p:Pos}
theorem W7(hm:X.mg "len"=none)(ha:FA X Z (e::es) fa)(hg:Gl X "len":=by rfl)(he:starEach (e::es) X.env=(false,eval e X.env)::starEach es X.env:=by rfl)(az:(backTo pos (starEach es X.env)).any (·.1)=false:=by rfl) :
  FE X Z (.Call (.Name "len" p) (e::es) [] pos) (Ah Bd fa):=Er (Dk.or Xu (Dk.or Uq Ur)) (CO.orR Je (CO.orR Jd L4)) hm PySem.boot_len ha hg (by decide) (by decide) he az
theorem T8(hm:X.mg "min"=none)(ha:FA X Z (e::es) fa)(hc:X.calm=true:=by rfl)(hg:Gl X "min":=by rfl)(he:starEach (e::es) X.env=(false,eval e X.env)::starEach es X.env:=by rfl)(az:(backTo pos (starEach es X.env)).any (·.1)=false:=by rfl) :
  FE X Z (.Call (.Name "min" p) (e::es) [] pos) (Ah GH fa):=Er Uo (Ox hc) hm boot_min ha hg (by decide) (by decide) he az
theorem WT(hm:X.mg "sum"=none)(ha:FA X Z (e::es) fa)(hc:X.calm=true:=by rfl)(hg:Gl X "sum":=by rfl)(he:starEach (e::es) X.env=(false,eval e X.env)::starEach es X.env:=by rfl)(az:(backTo pos (starEach es X.env)).any (·.1)=false:=by rfl) :
  FE X Z (.Call (.Name "sum" p) (e::es) [] pos) (Ah Qd fa):=Er Xt (QD hc) hm boot_sum ha hg (by decide) (by decide) he az
theorem Xi(hm:X.mg "all"=none)(ha:FA X Z (e::es) fa)(hc:X.calm=true:=by rfl)(hg:Gl X "all":=by rfl)(he:starEach (e::es) X.env=(false,eval e X.env)::starEach es X.env:=by rfl)(az:(backTo pos (starEach es X.env)).any (·.1)=false:=by rfl) :
  FE X Z (.Call (.Name "all" p) (e::es) [] pos) (Ah UK fa):=Er Xw (QF hc) hm boot_all ha hg (by decide) (by decide) he az
theorem Ub(hm:X.mg "list"=none)(ha:FA X Z (e::es) fa)(hc:X.calm=true:=by rfl)(hg:Gl X "list":=by rfl)(he:starEach (e::es) X.env=(false,eval e X.env)::starEach es X.env:=by rfl)(az:(backTo pos (starEach es X.env)).any (·.1)=false:=by rfl) :
  FE X Z (.Call (.Name "list" p) (e::es) [] pos) (Ah NS fa):=Gg (Dk.or Up QB) (CO.orR Jc (Gr hc)) hm boot_list ha hg (by decide) (by decide) he az
theorem Qo(hm:X.mg "tuple"=none)(ha:FA X Z (e::es) fa)(hg:Gl X "tuple":=by rfl)(he:starEach (e::es) X.env=(false,eval e X.env)::starEach es X.env:=by rfl)(az:(backTo pos (starEach es X.env)).any (·.1)=false:=by rfl) :
  FE X Z (.Call (.Name "tuple" p) (e::es) [] pos) (Ah BK fa):=Gg QA HS hm boot_tuple ha hg (by decide) (by decide) he az
theorem Uc(hm:X.mg "int"=none)(ha:FA X Z (e::es) fa)(hg:Gl X "int":=by rfl)(he:starEach (e::es) X.env=(false,eval e X.env)::starEach es X.env:=by rfl)(az:(backTo pos (starEach es X.env)).any (·.1)=false:=by rfl) :
  FE X Z (.Call (.Name "int" p) (e::es) [] pos) (Ah EV fa):=Gg Us Oy hm boot_int ha hg (by decide) (by decide) he az
end
noncomputable def ZK(f:FS->Out Rv):FS->Out Rv:=λfs=>(f fs).bnd λr fs=>match Cu fs r with|some ts=>.ok (.nw (.lst ts.reverse)) fs|none=>.bad
theorem LX{X:Cx}{Z:Xp}{a:Expr}{f:FS->Out Rv}{p1 p2 gG cI:Pos}(hc:X.calm=true)(jZ:X.mg "list"=none)(ix:X.mg "reversed"=none)(ha:FE X Z a f)(jS:Gl X "list":=by rfl)(gn:Gl X "reversed":=by rfl)
  (he:starEach [(.Call (.Name "reversed" p2) [a] [] cI:Expr)] X.env=[(false,eval (.Call (.Name "reversed" p2) [a] [] cI) X.env)]:=by rfl) (i9:starEach [a] X.env=[(false,eval a X.env)]:=by rfl) :
  FE X Z (.Call (.Name "list" p1) [.Call (.Name "reversed" p2) [a] [] cI] [] gG) (ZK f):=by
 refine A5 (Ly hc jZ ix ha jS gn he i9) λU H Q ai => ?_
 obtain⟨F,B,fs,ok,s⟩:= ai;refine⟨F,B,fs,ok,AQ s λr ag F1 H1 u l aq rx s1=>?_⟩;split at s1
 next ts hJ=>obtain⟨a,vs,rfl,hs,q⟩:=Bq aq rx hJ;exact⟨a,vs,rfl,hs,λd hd=>s1 F1 _ (.ref d) (Bi aq hd) (RR.alloc aq hd (CT Az ((q.rev).le (Bi aq hd))))⟩
 .exact s1.elim
noncomputable def ZR(f:FS->Out Rv):FS->Out Rv:=λfs=>(f fs).bnd λr fs=>match r with|.t (.int i)=>okT (.int (-i)) fs|_=>.bad
theorem WZ{X:Cx}{Z:Xp}{a:Expr}{f:FS->Out Rv}{pos:Pos}(ha:FE X Z a f):FE X Z (.UnaryOp .USub a pos) (ZR f):=by
 refine A5 (Vx QU ha) λU H Q ai => ?_
 obtain⟨F,B,fs,ok,s⟩:= ai;refine⟨F,B,fs,ok,AQ s λr ag F1 H1 u l aq rx s1=>?_⟩;split at s1
 .exact⟨_,rx,s1 F1 H1 _ Le.refl (RR.of aq rfl)⟩
 .exact s1.elim
noncomputable def TB:=gI λi j fs=>if 0<=j/\j<=1000000/\i.natAbs<2^64 then okT (.int (i^j.toNat)) fs else .bad
theorem VS{K:Fg}{Z:Xp}:OpF K Z (rI ZW λi j=>.int (i^j.toNat)) TB:=Pq (t:=λi j=>.int (i^j.toNat)) (λ_ _ _ _ _=>rfl) λi j fs=>by
 by_cases h:0<=j/\j<=1000000/\i.natAbs<2^64
 .exact .inr ⟨h,if_pos h⟩
 .exact .inl (if_neg h)
theorem WX{X:Cx}{Z:Xp}{a b:Expr}{fa fb:FS->Out Rv}{pos:Pos}(ha:FE X Z a fa)(hb:FE X Z b fb):FE X Z (.BinOp a .Pow b pos) (Ad TB fa fb):=LW VS VG ha hb
def RP(K:Fg)(B:Nat->Option V)(U:St):Wd->Hp->FS->Option Int->Option Int->Prop:=λF H fs a b=>Okk K F B H fs U/\b=a
def tP(K:Fg)(Z:Xp)(f:FS->Out (Option Int)):TO:=λU H Q=>∃F B fs,Okk K F B H fs U/\sat Z B (RP K B U) F H (f fs) Q
def FP(X:Cx)(Z:Xp)(e:Option Expr)(f:FS->Out (Option Int)):Prop:=PO X e (tP X.K Z f)
theorem Rc{X:Cx}{e:Option Expr}{t t':TO}(h:PO X e t)(i:∀U H Q,t' U H Q->t U H Q):PO X e t':=λaa s U H Q I q=>h aa s U H Q I (i _ _ _ q)
noncomputable def noP:FS->Out (Option Int):=λfs=>.ok none fs
noncomputable def AV(f:FS->Out Rv):FS->Out (Option Int):=λfs=>(f fs).bnd λr fs=>match r with|.t (.int i)=>.ok (some i) fs|_=>.bad
noncomputable def RS(ts:List T)(lo hi:Option Int):List T:=(ts.drop (HT.sIx ts.length 0 lo)).take (HT.sIx ts.length ts.length hi-HT.sIx ts.length 0 lo)
theorem KZ{K:Fg}{F:Wd}{H:Hp}{ts:List T}{vs:List V}{lo hi:Option Int}(r:Ag K F H ts vs):Ag K F H (RS ts lo hi) (RQ vs lo hi):=by unfold RS RQ;rw[r.len];exact(r.drop _).take _
noncomputable def XY:Rv->Option Int->Option Int->FS->Out Rv:=λx lo hi fs=>match Cu fs x with|some ts=>okT (.lst (RS ts lo hi)) fs|none=>match x with|.t (.tup ts)=>okT (.tup (RS ts lo hi)) fs|_=>.bad
noncomputable def slF(f:FS->Out Rv)(l h:FS->Out (Option Int)):FS->Out Rv:=λfs=>(f fs).bnd λx fs=>(l fs).bind λlo fs=>(h fs).bind λhi fs=>XY x lo hi fs
section
variable{X:Cx}{Z:Xp}{e:Expr}{lo hi:Option Expr}{f:FS->Out Rv}{l h:FS->Out (Option Int)}{pos p2:Pos}
theorem TY:FP X Z none noP:=Rc Sr λU H Q ⟨F,B,fs,ok,s⟩=>s F H none Le.refl ⟨ok,rfl⟩
theorem TX(he:FE X Z e f):FP X Z (some e) (AV f):=by
 refine Rc (Sq he) λU H Q ai => ?_
 obtain⟨F,B,fs,ok,s⟩:= ai;refine⟨F,B,fs,ok,AQ s λr ag F1 H1 u l aq rx s1=>?_⟩;split at s1
 .exact⟨_,rx,s1 F1 H1 _ Le.refl ⟨aq,rfl⟩⟩
 .exact s1.elim
theorem Zj(he:FE X Z e f)(hl:FP X Z lo l)(hu:FP X Z hi h):FE X Z (.Subscript e (.Slice lo hi none p2) pos) (slF f l h):=by
 refine A5 (Kr (SlR.or Sh (SlR.or U7 Va)) he hl hu) λU H Q ai => ?_
 obtain⟨F,B,fs,ok,s⟩:= ai;refine⟨F,B,fs,ok,AQ s λx ag F1 H1 u l1 aq rx s1=>⟨F1,B,ag,aq,AL s1 λlo ax F2 H2 kq l2 q2 s2=>?_⟩⟩;obtain⟨aG,rfl⟩:=q2;refine⟨F2,B,ax,aG,AL s2 λhi dk F3 H3 fh l3 q3 s3=>?_⟩;obtain⟨cH,rfl⟩:=q3;have iQ:=(rx.le l2).le l3;unfold XY at s3;split at s3
 next ts e=>obtain⟨a,vs,rfl,hs,r⟩:=Bq cH iQ e;exact .inl ⟨a,vs,rfl,hs,λp hp=>s3 _ _ (.ref p) (Bs cH hp) (Lr cH hp (KZ r))⟩
 .split at s3
  .rename_i ts _;obtain⟨a,vs,rfl,hs,r⟩:=B3 (ts:=ts) iQ rfl;by_cases hw:HT.sIx ts.length 0 kq=0/\HT.sIx ts.length ts.length fh=ts.length
   .refine .inr (.inr ⟨a,vs,rfl,hs,by rw[r.len];exact hw,s3 F3 H3 _ Le.refl (RR.of cH ?_)⟩);have e:RS ts kq fh=ts:=by unfold RS;rw[hw.1,hw.2];simp
    rw[e];exact iQ
   .exact .inr (.inl ⟨a,vs,rfl,hs,by rw[r.len];exact hw,λp hp=>s3 _ _ (.ref p) (Bs cH hp) (EK cH hp (KZ r))⟩)
  .exact s3.elim
end
noncomputable def X0(i:Nat)(f:FS->Out Rv):FS->SO:=λfs=>match fs[i]? with
 |some (some (.val (.int a)))=>SO.of (f fs) λr fs=>(match r with|.t (.int b)=>(match Hi i (.t (.int (a+b))) fs with|some fs=>.nx fs|none=>.bad)|_=>.bad)
 |_=>.bad
theorem Wy{X:Cx}{Z:Xp}{x:Str}{e:Expr}{f:FS->Out Rv}{pos ay:Pos}(i:Nat)(hN:X.N.Nodup)(hx:Loc X.env.scope x)(he:FE X Z e f)(hi:X.N[i]?=some x:=by rfl)
  (hf:X.fn x=true\/X.env.scope.names.lookup x=some .local:=by first|exact .inl rfl|exact .inr rfl|assumption):GS X Z (.AugAssign (.Name x ay) .Add e pos) (X0 i f):=by
 refine BS (MP hN hi hx he Wm hf) λD U H ai=>?_
 obtain⟨F,B,fs,ok,s⟩:= ai;unfold X0 at s;split at s
 .rename_i a ea;obtain⟨L,o⟩:=id ok;obtain⟨v,L1,L2,L3,e1,_,h1,_⟩:=o.sl.pick ea;obtain⟨u,rfl,q,_⟩:=h1;refine⟨u,e1,F,B,fs,ok,BB s λr ag F1 H1 y l q1 s1=>?_⟩;split at s1
  .rename_i b;obtain⟨L,L',o1,⟨_,qb⟩,_⟩:=q1;split at s1
   next ax e2=>exact⟨a,b,q,qb,s1 F1 H1 _ Le.refl (EI (RR.of (r:=.t (.int (a+b))) ⟨L,o1⟩ rfl) e2)⟩
   .exact s1.elim
  .exact s1.elim
 .exact s.elim
noncomputable def XS:T->Option (List T)
 |.lst ts=>some ts
 |.z7 ts=>some ts
 |.tup ts=>some ts
 |_=>none
noncomputable def pairs:List T->List T->List T
 |x::xs,y::ys=>.tup [x,y]::pairs xs ys
 |_,_=>[]
theorem pairs_at:∀{xs ys:List T}{i:Nat}{t:T},(pairs xs ys)[i]?=some t->∃x y,xs[i]?=some x/\ys[i]?=some y/\t=.tup [x,y]
 | [],_,i,t,h=>by simp[pairs]at h
 |_::_,[],i,t,h=>by simp[pairs]at h
 |x::xs,y::ys,0,t,h=>by simp only[pairs,sf,Option.some.injEq]at h;exact⟨x,y,rfl,rfl,h.symm⟩
 |x::xs,y::ys,i+1,t,h=>by simp only[pairs,sh]at h;simpa using pairs_at h
theorem pairs_len:∀{xs ys:List T}{i:Nat},(pairs xs ys).length<=i->xs.length<=i\/ys.length<=i
 | [],_,i,h=>.inl (by simp)
 |_::_,[],i,h=>.inr (by simp)
 |x::xs,y::ys,0,h=>by simp[pairs]at h
 |x::xs,y::ys,i+1,h=>by simp only[pairs,qD,Nat.add_le_add_iff_right]at h;simpa using pairs_len h
theorem MB{K:Fg}{F:Wd}{H:Hp}{t:T}{ts:List T}{u:V}(r:AI K F H t u)(e:XS t=some ts):∃b a vs,u=.ref a/\Ag K F H ts vs/\∀(F':Wd)(H':Hp),(∀a,F a->F' a/\H' a=H a)->SqB b K H' a vs:=by
 unfold XS at e;split at e
 .cases e;simp only[AI]at r;obtain⟨a,vs,rfl,f,hs,r⟩:=r;exact⟨false,a,vs,rfl,r,λF' H' l=>SqL.of ((l a f).2.trans hs)⟩
 .cases e;simp only[AI]at r;obtain⟨a,vs,rfl,hs,r⟩:=r;exact⟨false,a,vs,rfl,r,λF' H' l=>(StL.lf l hs).sq⟩
 .cases e;simp only[AI]at r;obtain⟨a,vs,rfl,hs,r⟩:=r;exact⟨true,a,vs,rfl,r,λF' H' l=>SqT.of ((l a hs.2.1).2.trans hs.2.2)⟩
 .cases e
noncomputable def itZ(f g:FS->Out Rv):FS->Out (List T):=λfs=>(f fs).bnd λr fs=>(g fs).bnd λr' fs=>match r,r' with
 |.t x,.t y=>match XS x,XS y with|some xs,some ys=>.ok (pairs xs ys) fs|_,_=>.bad
 |_,_=>.bad
theorem Tf{K:Fg}{F:Wd}{H:Hp}{b1 b2:Bool}{a1 a2:Addr}{vs ws:List V}{xs ys:List T}(h1:∀(F':Wd)(H':Hp),(∀a,F a->F' a/\H' a=H a)->SqB b1 K H' a1 vs)(h2:∀(F':Wd)(H':Hp),(∀a,F a->F' a/\H' a=H a)->SqB b2 K H' a2 ws)
  (r1:Ag K F H xs vs) (r2:Ag K F H ys ws):JOk K F H (Itz K b1 a1 b2 a2) (pairs xs ys):=by
 intro F' H' l ⟨B,fs,U,ok⟩ i;have q1:=Ag.lf l r1;have q2:=Ag.lf l r2;refine⟨λt et=>?_,λhl=>⟨vs,ws,h1 F' H' l,h2 F' H' l,by rw[r1.len,r2.len];exact pairs_len hl⟩⟩;obtain⟨x,y,ex,ey,rfl⟩:=pairs_at et;obtain⟨v,ev,rv⟩:=q1.at ex;obtain⟨w,ew,df⟩:=q2.at ey;refine⟨⟨vs,ws,v,w,h1 F' H' l,h2 F' H' l,ev,ew⟩,λz eQ hy=>?_⟩;obtain⟨T,vx,vy,hn,rfl,rfl,g1,g2⟩:=hy;have e1:=g1 vs (h1 F' H' l);have e2:=g2 ws (h2 F' H' l);rw[ev]at e1;rw[ew]at e2;cases e1;cases e2;refine⟨OP F' T,⟨Bs ok hn,λB fs U k=>k.alloc hn⟩,?_⟩;simp only[AI];exact⟨T,[v,w],rfl,⟨rfl,.inr rfl,Az⟩,by simp only[Ag];exact⟨v,[w],rfl,rv.le (Bs ok hn),w,[],rfl,df.le (Bs ok hn),rfl⟩⟩
theorem WQ{X:Cx}{Z:Xp}{a b:Expr}{fa fb:FS->Out Rv}{p pos bI:Pos}{dw:List Expr}{k0:Nat}(hm:X.mg "zip"=none)(ha:FE X Z a fa)(hb:FE X Z b fb)(hg:Gl X "zip":=by rfl)
  (hs:starEach [a,b] X.env=[(false,eval a X.env),(false,eval b X.env)]:=by rfl) (aO:starEach [b] X.env=[(false,eval b X.env)]:=by rfl):FI X Z (.Tuple dw k0 bI) (.Call (.Name "zip" p) [a,b] [] pos) (itZ fa fb):=by
 refine Kp (Vs hg hm (B5 ha (B5 hb DA aO) (by rw[hs,aO])) hs aO) λU H Q ai=>?_
 obtain⟨F,B,fs,ok,s⟩:= ai;refine⟨F,B,fs,ok,AQ s λr ag F1 H1 u l1 aq rx s1=>⟨F1,B,ag,aq,AQ s1 λr' ax F2 H2 u' l2 aG ry s2=>?_⟩⟩;split at s2
 .rename_i x y;split at s2
  next xs ys e1 e2=>obtain⟨b1,a1,vs,rfl,q1,h1⟩:=MB (AI.le l2 rx) e1;obtain⟨b2,a2,ws,rfl,q2,h2⟩:=MB ry e2;exact⟨b1,a1,b2,a2,rfl,⟨vs,h1 F2 H2 λ_ f=>⟨f,rfl⟩⟩,⟨ws,h2 F2 H2 λ_ f=>⟨f,rfl⟩⟩,s2 F2 H2 _ Le.refl ⟨aG,Tf h1 h2 q1 q2⟩⟩
  .exact s2.elim
 .exact s2.elim
section
variable{K:Fg}
end
noncomputable def orM(g g':Rv->List Rv->FS->Out Rv):Rv->List Rv->FS->Out Rv:=λx rs fs=>match g x rs fs with|.bad=>g' x rs fs|o=>o
theorem MtF.or{K:Fg}{Z:Xp}{r r':V->List V->Hp->VK->Prop}{g g':Rv->List Rv->FS->Out Rv}(h:MtF K Z r g)(h':MtF K Z r' g'):MtF K Z (XT r r') (orM g g'):=by intro F B H U fs x rs u vs Q ok rx q s;unfold orM at s;cases e:g x rs fs with|ok a t=>rw[e]at s;exact .inl (h F B H U fs x rs u vs Q ok rx q (by rw[e];exact s))|exc c t=>rw[e]at s;exact .inl (h F B H U fs x rs u vs Q ok rx q (by rw[e];exact s))|bad=>rw[e]at s;exact .inr (h' F B H U fs x rs u vs Q ok rx q s)
noncomputable def TJ:Rv->List Rv->FS->Out Rv
 |.n i,[.t (.tup us)],fs=>match AM fs i with|some (.lst ts)=>if ts.length+us.length<=big then .ok (.t .l) (putAt fs i (.lst (ts++us)))else .bad|_=>.bad
 |_,_,_=>.bad
theorem S7{K:Fg}{Z:Xp}:MtF K Z (O7 K) TJ:=by
 intro F B H U fs x rs u vs Q ok rx q s;unfold TJ at s;split at s
 .rename_i i ws;obtain⟨v,rfl,qq⟩:=Br q;have q:=qq;split at s
  .rename_i ts e;split at s
   next hl=>obtain⟨a,us,rfl,hs,r,k⟩:=ok.list rx e;simp only[B1,AI]at q;obtain⟨b,zs,rfl,hb,rz⟩:=q;obtain⟨bW,l⟩:=k _ _ (r.app rz);exact⟨a,b,us,zs,rfl,rfl,hs,hb.sq,by rw[r.len,rz.len];exact qS hl Dv,s F _ _ l (RR.of bW rfl)⟩
   .exact s.elim
  .exact s.elim
 .exact s.elim
noncomputable def JT:=orM WC TJ
theorem S6{K:Fg}{Z:Xp}:MtF K Z (XT Hm (O7 K)) JT:=MtF.or V3 S7
theorem S3{X:Cx}:MtR X "list.extend" (XT Hm (O7 X.K)):=MtR.orR Nl S4
noncomputable def FG:T->Option (List T)
 |.tup ts=>some ts
 |_=>none
theorem OW{t:T}{ts:List T}(e:FG t=some ts):t=.tup ts:=by cases t<;>first|(cases e;rfl)|cases e
noncomputable def Jq(f:T->T->Option Bool):List T->List T->Option Bool
 |x::xs,y::ys=>(f x y).bind λb=>(Jq f xs ys).map (b&&·)
 |_,_=>some true
noncomputable def eqT:Nat->T->T->Option Bool
 |0,x,y=>(plV x).bind λu=>(plV y).map (eqV u)
 |n+1,x,y=>match FG x with
  |some xs=>match FG y with|some ys=>(Jq (eqT n) xs ys).map (·&&xs.length==ys.length)|none=>(plV y).map λ_=>false
  |none=>match FG y with
   |some _=>(plV x).map λ_=>false
   |none=>(plV x).bind λu=>(plV y).map (eqV u)
noncomputable def eAt(f:T->T->Option Bool)(xs ys:List T)(j:Nat):Bool:=(f (xs.getD j .l) (ys.getD j .l)).getD false
theorem DU{f:T->T->Option Bool}:∀{xs ys:List T}{b:Bool},Jq f xs ys=some b->b=(List.range (min xs.length ys.length)).all (eAt f xs ys)
 | [],_,_,e=>by cases e;simp
 |_::_,[],_,e=>by cases e;simp
 |x::xs,y::ys,b,e=>by
  simp only[Jq,q0,qJ]at e;obtain⟨c,e1,d,e2,rfl⟩:=e;have ih:=DU e2;rw[qD,qD,Nat.succ_min_succ,List.range_succ_eq_map,List.all_cons,List.all_map,ih];have h0:eAt f (x::xs) (y::ys) 0=c:=by simp[eAt,e1]
  rw[h0];congr 1
theorem JW{f:T->T->Option Bool}:∀{xs ys:List T}{b:Bool},Jq f xs ys=some b->∀(j:Nat)(x y:T),xs[j]?=some x->ys[j]?=some y->f x y=some (eAt f xs ys j)
 | [],_,_,e=>by intro j x y h;simp at h
 |_::_,[],_,e=>by intro j x y _ h;simp at h
 |x::xs,y::ys,b,e=>by simp only[Jq,q0,qJ]at e;obtain⟨c,e1,d,e2,rfl⟩:=e;intro j x' y' h1 h2;cases j with|zero =>simp only[sf,Option.some.injEq]at h1 h2;subst h1 h2;simp[eAt,e1]|succ j =>rw[sh]at h1 h2;have:=JW e2 _ _ _ h1 h2;rw[this];simp[eAt]
theorem Qu{v:V}(h:D9 v=true):eqV v v=true:=by cases v<;>first|rfl|(simp[eqV];done)|(simp[D9]at h)
theorem Rg{K:Fg}{F:Wd}{H:Hp}{x y:T}{v:V}{b:Bool}(rx:AI K F H x v)(ry:AI K F H y v)(e:((plV x).bind λu=>(plV y).map (eqV u))=some b):b=true:=by simp only[q0,qJ]at e;obtain⟨u,e1,w,e2,rfl⟩:=e;have h1:=B4 e1 rx;have h2:=B4 e2 ry;subst h1 h2;exact Qu (CU e1)
theorem Ir{K:Fg}{F:Wd}{H:Hp}{x:T}{v u:V}{a:Addr}(e:plV x=some u)(r:AI K F H x v):v≠.ref a:=by have h1:=B4 e r;subst h1;have:=CU e;intro h;subst h;cases this
theorem C7{K:Fg}{F:Wd}{H:Hp}{t:T}{ts:List T}{v:V}(e:FG t=some ts)(r:AI K F H t v):∃a vs,v=.ref a/\StT K F H a vs/\Ag K F H ts vs:=by cases OW e;simpa only[AI]using r
theorem KW{K:Fg}{F:Wd}{H:Hp}:∀{n:Nat}{x y:T}{v:V}{b:Bool},eqT n x y=some b->AI K F H x v->AI K F H y v->b=true
 |0,x,y,v,b,e,rx,ry=>Rg rx ry e
 |n+1,x,y,v,b,e,rx,ry=>by
  unfold eqT at e;cases e1:FG x with
  |none =>rw[e1]at e;cases e2:FG y with|none=>rw[e2]at e;exact Rg rx ry e|some ys =>rw[e2]at e;obtain⟨a,vs,rfl,_⟩:=C7 e2 ry;obtain⟨u,e3,_⟩:=qJ.mp e;exact absurd rfl (Ir e3 rx)
  |some xs =>
   rw[e1]at e;obtain⟨a,vs,rfl,sx,iR⟩:=C7 e1 rx;cases e2:FG y with
   |none =>rw[e2]at e;obtain⟨u,e3,_⟩:=qJ.mp e;exact absurd rfl (Ir e3 ry)
   |some ys =>
    rw[e2]at e;obtain⟨a',bg,ea,sy,iS⟩:=C7 e2 ry;cases ea;have hv:vs=bg:=by have:=sx.2.2.symm.trans sy.2.2;injection this with this;injection this
    subst hv;obtain⟨c,e3,rfl⟩:=qJ.mp e;have hl:xs.length=ys.length:=by rw[<- iR.len,<- iS.len]
    rw[qL];refine⟨?_,by simp[hl]⟩;rw[DU e3,rC];intro j hj;rw[rP]at hj;have h1:j<xs.length:=by lia
    have h2:j<ys.length:=by lia
    have g1:xs[j]?=some xs[j]:=qo h1;have g2:ys[j]?=some ys[j]:=qo h2;obtain⟨v1,q1,r1⟩:=iR.at g1;obtain⟨v2,q2,r2⟩:=iS.at g2;have:v1=v2:=by rw[q1]at q2;injection q2
    subst this;exact KW (JW e3 _ _ _ g1 g2) r1 r2
section
variable{X:Cx}{aa:List (Addr×Obj)}{U:St}{H:Hp}{s:Shared}{F:Wd}
theorem KS{A:Around}{l:Addr}{items:Array Value}{y:V}{u:Value}(hl:s.heap.IsTuple l items)(hu:A.units<cLine)(ry:RelV y u)(fy:D9 y=true) :
  SeqAt.EqAt A s (.ref l) u false/\SeqAt.EqAt A s u (.ref l) false/\SeqAt.RcAt A s (.ref l) u false/\SeqAt.RcAt A s u (.ref l) false:=by
 cases y with|l=>cases ry;exact⟨.tuple_none hl hu,.none_tuple hl hu,.tuple_none hl hu,.none_tuple hl hu⟩|o b=>cases ry;exact⟨.tuple_bool _ hl hu,.bool_tuple _ hl hu,.tuple_bool _ hl hu,.bool_tuple _ hl hu⟩|int b=>obtain⟨t,rfl⟩:=ry;exact⟨.tuple_int _ _ hl hu,.int_tuple _ _ hl hu,.tuple_int _ _ hl hu,.int_tuple _ _ hl hu⟩|str b=>obtain⟨t,rfl⟩:=ry;exact⟨.tuple_str _ _ hl hu,.str_tuple _ _ hl hu,.tuple_str _ _ hl hu,.str_tuple _ _ hl hu⟩|_=>cases fy
theorem Ko{A:Around}{x y:T}{v w:V}{u u':Value}{b:Bool}(rx:AI X.K F H x v)(ry:AI X.K F H y w)(qx:RelV v u)(qy:RelV w u')(e:((plV x).bind λu=>(plV y).map (eqV u))=some b):SeqAt.EqAt A s u u' b:=by simp only[q0,qJ]at e;obtain⟨p,e1,q,e2,rfl⟩:=e;have h1:=B4 e1 rx;have h2:=B4 e2 ry;subst h1 h2;exact RN qx qy (CU e1) (CU e2)
theorem items_eqAt{A:Around}{xs ys:List T}{vs ws:List V}{us gU:List Value}{f:T->T->Option Bool}{b:Bool}(e:Jq f xs ys=some b)(rx:Ag X.K F H xs vs)(ry:Ag X.K F H ys ws)(qx:Vals vs us)(qy:Vals ws gU)
  (ih:∀{x y:T}{v w:V}{u u':Value}{b:Bool},f x y=some b->AI X.K F H x v->AI X.K F H y w->RelV v u->RelV w u'->SeqAt.EqAt A s u u' b) :
  ∀j (h1:j<us.toArray.size) (h2:j<gU.toArray.size),SeqAt.EqAt A s us.toArray[j] gU.toArray[j] (eAt f xs ys j):=by
 intro j h1 h2;have l1:=rx.len;have l2:=ry.len;have l3:=qx.length;have l4:=qy.length;rw[qz]at h1 h2;have g1:xs[j]?=some (xs[j]'(by lia)):=qo (by lia);have g2:ys[j]?=some (ys[j]'(by lia)):=qo (by lia);obtain⟨v,q1,r1⟩:=rx.at g1;obtain⟨w,q2,r2⟩:=ry.at g2;obtain⟨u,p1,o1⟩:=qx.get q1;obtain⟨u',p2,o2⟩:=qy.get q2;rw[qo h1]at p1;rw[qo h2]at p2;injection p1 with p1;injection p2 with p2;rw[show us.toArray[j]=us[j] by simp,show gU.toArray[j]=gU[j] by simp,p1,p2];exact ih (JW e _ _ _ g1 g2) r1 r2 o1 o2
theorem Oa(I:Inv X aa U H s):∀{n:Nat}{A:Around}{x y:T}{v w:V}{u u':Value}{b:Bool},A.units+n<cLine->eqT n x y=some b->AI X.K F H x v->AI X.K F H y w->RelV v u->RelV w u'->SeqAt.EqAt A s u u' b
 |0,A,x,y,v,w,u,u',b,hu,e,rx,ry,qx,qy=>Ko rx ry qx qy e
 |n+1,A,x,y,v,w,u,u',b,hu,e,rx,ry,qx,qy=>by
  have e0:=e;unfold eqT at e;cases e1:FG x with
  |none =>rw[e1]at e;cases e2:FG y with|none=>rw[e2]at e;exact Ko rx ry qx qy e|some ys =>rw[e2]at e;obtain⟨a,vs,rfl,st,_⟩:=C7 e2 ry;obtain⟨p,e3,rfl⟩:=qJ.mp e;have h1:=B4 e3 rx;subst h1;cases qy;obtain⟨ah,_,ht,_⟩:=I.tuple st.sq;exact(KS ht (by lia) qx (CU e3)).2.1
  |some xs =>
   rw[e1]at e;obtain⟨a,vs,rfl,sx,iR⟩:=C7 e1 rx;cases qx;obtain⟨ah,vx,ht,_⟩:=I.tuple sx.sq;cases e2:FG y with
   |none =>rw[e2]at e;obtain⟨p,e3,rfl⟩:=qJ.mp e;have h1:=B4 e3 ry;subst h1;exact(KS ht (by lia) qy (CU e3)).1
   |some ys =>
    rw[e2]at e;obtain⟨a',bg,rfl,sy,iS⟩:=C7 e2 ry;cases qy;obtain⟨aA,fY,fu,_⟩:=I.tuple sy.sq;by_cases fJ:a=a'
    .subst fJ;rw[KW e0 rx ry];exact SeqAt.EqAt.same _
    .obtain⟨c,e3,rfl⟩:=qJ.mp e;have l1:ah.length=xs.length:=by rw[<- vx.length,iR.len]
     have l2:aA.length=ys.length:=by rw[<- fY.length,iS.len]
     have:=SeqAt.RcAt.tuples ht fu (A:=A) (by lia) (items_eqAt e3 iR iS vx fY (λh r1 r2 o1 o2=>Oa I (n:=n) (A:=A.in1) (by show A.units+1+n<_;lia) h r1 r2 o1 o2));rw[qz,qz,l1,l2,<- DU e3]at this;exact SeqAt.EqAt.of_refs fJ this
end
noncomputable def eqB(neg:Bool)(xs ys:List T)(fs:FS):Out Rv:=match Jq (eqT 60) xs ys with|some b=>okT (.o (if neg then !(b&&xs.length==ys.length)else(b&&xs.length==ys.length))) fs|none=>.bad
noncomputable def KQ(neg:Bool):Rv->Rv->FS->Out Rv:=λx y fs=>match MA x with
 |some xs=>match MA y with|some ys=>eqB neg xs ys fs|none=>.bad
 |none=>match Cu fs x with
  |some xs=>match Cu fs y with|some ys=>eqB neg xs ys fs|none=>.bad
  |none=>.bad
def EqS(X:Cx)(neg:Bool)(H:Hp)(x y:V)(b:Bool):Prop:=∀(aa:List (Addr×Obj))(U:St)(s:Shared)(u w:Value),Inv X aa U H s->RelV x u->RelV y w ->
 if neg then SeqAt.RcNeAt X.A s u w (!b)else SeqAt.RcAt X.A s u w b
def Yp(X:Cx)(neg:Bool):R2:=λx y H Q=>∃b,EqS X neg H x y b/\Q (.o (if neg then !b else b)) H
theorem Rn{X:Cx}:OpR X (compareOp .Eq) (Yp X false):=by intro aa s U H x y v u Q I rx ry h;obtain⟨b,e,q⟩:=h;have e:SeqAt.RcAt X.A s v u b:=e aa U s v u I rx ry;exact e X.prog X.w X.xe _ ⟨.o b,H,I,rfl,q⟩
theorem VH{X:Cx}:OpR X (compareOp .NotEq) (Yp X true):=by intro aa s U H x y v u Q I rx ry h;obtain⟨b,e,q⟩:=h;have e:SeqAt.RcNeAt X.A s v u (!b):=e aa U s v u I rx ry;exact e X.prog X.w X.xe _ ⟨.o (!b),H,I,rfl,q⟩
theorem Ui{X:Cx}{neg:Bool}{F:Wd}{H:Hp}{a a':Addr}{xs ys:List T}{vs ws:List V}{b:Bool}(hu:X.A.units+61<cLine)(e:Jq (eqT 60) xs ys=some b)(sx:SqT X.K H a vs)(sy:SqT X.K H a' ws)(rx:Ag X.K F H xs vs)(ry:Ag X.K F H ys ws) :
  EqS X neg H (.ref a) (.ref a') (b&&xs.length==ys.length):=by
 intro aa U s u w I qx qy;cases qx;cases qy;obtain⟨ah,vx,ht,_⟩:=I.tuple sx;obtain⟨aA,fY,fu,_⟩:=I.tuple sy;have l1:ah.length=xs.length:=by rw[<- vx.length,rx.len]
 have l2:aA.length=ys.length:=by rw[<- fY.length,ry.len]
 have he:=items_eqAt (s:=s) (A:=X.A.in1) e rx ry vx fY (λh r1 r2 o1 o2=>Oa I (n:=60) (A:=X.A.in1) (by show X.A.units+1+60<_;lia) h r1 r2 o1 o2);cases neg with|false =>have:=SeqAt.RcAt.tuples ht fu (A:=X.A) (by lia) he;rw[qz,qz,l1,l2,<- DU e]at this;exact this|true =>have:=SeqAt.RcNeAt.tuples ht fu (A:=X.A) (by lia) he;rw[qz,qz,l1,l2,<- DU e]at this;exact this
theorem Uj{X:Cx}{neg:Bool}{F:Wd}{H:Hp}{a a':Addr}{xs ys:List T}{vs ws:List V}{b:Bool}(hu:X.A.units+61<cLine)(e:Jq (eqT 60) xs ys=some b)(sx:SqL X.K H a vs)(sy:SqL X.K H a' ws)(rx:Ag X.K F H xs vs)(ry:Ag X.K F H ys ws) :
  EqS X neg H (.ref a) (.ref a') (b&&xs.length==ys.length):=by
 intro aa U s u w I qx qy;cases qx;cases qy;obtain⟨ah,vx,ht,_⟩:=I.list sx;obtain⟨aA,fY,fu,_⟩:=I.list sy;have l1:ah.length=xs.length:=by rw[<- vx.length,rx.len]
 have l2:aA.length=ys.length:=by rw[<- fY.length,ry.len]
 have he:=items_eqAt (s:=s) (A:=X.A.in1) e rx ry vx fY (λh r1 r2 o1 o2=>Oa I (n:=60) (A:=X.A.in1) (by show X.A.units+1+60<_;lia) h r1 r2 o1 o2);by_cases hl:xs.length=ys.length
 .have hs:ah.toArray.size=aA.toArray.size:=by rw[qz,qz];lia
  have hb:(b&&xs.length==ys.length)=(List.range ah.toArray.size).all (eAt (eqT 60) xs ys):=by rw[DU e,hl,Nat.min_self,qz,l1,hl];simp
  rw[hb];cases neg with|false=>exact SeqAt.RcAt.lists ht.isList fu.isList hs (A:=X.A) (by lia) he|true=>exact SeqAt.RcNeAt.lists ht.isList fu.isList hs (A:=X.A) (by lia) he
 .have hs:(ah.toArray.size !=aA.toArray.size)=true:=by rw[qz,qz,bne_iff_ne];lia
  have hb:(b&&xs.length==ys.length)=false:=by simp[hl]
  rw[hb];cases neg with|false=>exact SeqAt.RcAt.lists_lengths ht.isList fu.isList hs (A:=X.A) (by lia)|true=>exact SeqAt.RcNeAt.lists_lengths ht.isList fu.isList hs (A:=X.A) (by lia)
theorem Nd{X:Cx}{Z:Xp}(neg:Bool)(hu:X.A.units+61<cLine):OpF X.K Z (Yp X neg) (KQ neg):=by
 intro F B H U fs x y u w Q ok rx ry s;unfold KQ at s;cases e1:MA x with
 |some xs =>rw[e1]at s;cases e2:MA y with|none=>rw[e2]at s;exact s.elim|some ys =>rw[e2]at s;obtain⟨a,vs,rfl,sx,r1⟩:=B3 rx e1;obtain⟨a',ws,rfl,sy,r2⟩:=B3 ry e2;simp only[eqB]at s;cases e3:Jq (eqT 60) xs ys with|none=>rw[e3]at s;exact s.elim|some b =>rw[e3]at s;exact⟨_,Ui hu e3 sx sy r1 r2,s F H _ Le.refl (RR.of ok rfl)⟩
 |none =>rw[e1]at s;cases e2:Cu fs x with|none=>rw[e2]at s;exact s.elim|some xs =>rw[e2]at s;cases e3:Cu fs y with|none=>rw[e3]at s;exact s.elim|some ys =>rw[e3]at s;obtain⟨a,vs,rfl,sx,r1⟩:=Bq ok rx e2;obtain⟨a',ws,rfl,sy,r2⟩:=Bq ok ry e3;simp only[eqB]at s;cases e4:Jq (eqT 60) xs ys with|none=>rw[e4]at s;exact s.elim|some b =>rw[e4]at s;exact⟨_,Uj hu e4 sx sy r1 r2,s F H _ Le.refl (RR.of ok rfl)⟩
section
variable{X:Cx}{Z:Xp}{a b:Expr}{fa fb:FS->Out Rv}{pos:Pos}
end
noncomputable def NI(fs:FS):Rv->Option Bool
 |.t t=>some (match t with|.l=>true|_=>false)
 |.n i=>match AM fs i with|some (.v _ _)=>some false|some (.lst _)=>some false|_=>none
 |.nw _=>none
noncomputable def TH(neg:Bool):Rv->Rv->FS->Out Rv:=λx y fs=>match y with
 |.t .l=>match NI fs x with|some b=>okT (.o (if neg then !b else b)) fs|none=>.bad
 |_=>.bad
theorem PV{K:Fg}{B:Nat->Option V}{F:Wd}{H:Hp}{U:St}{fs:FS}{x:Rv}{u:V}{b:Bool}(ok:Okk K F B H fs U)(rx:B1 K F H U x u)(e:NI fs x=some b):decide (u=V.l)=b:=by
 cases x with
 |t t =>have rx:AI K F H t u:=rx;cases t with|l=>cases e;cases rx;rfl|o=>cases e;cases rx;rfl|int=>cases e;cases rx;rfl|str=>cases e;cases rx;rfl|ins=>cases e;simp only[AI]at rx;obtain⟨a,dx,vs,rfl,_⟩:=rx;rfl|_=>cases e;simp only[AI]at rx;obtain⟨a,vs,rfl,_⟩:=rx;rfl
 |nw o=>cases e
 |n i =>
  have e2:U[i]?=some (some u):=rx;simp only[NI]at e;split at e
  .rename_i eo;cases e;obtain⟨v,L2,e1,q,_⟩:=ok.own eo;rw[e1]at e2;have e3:v=u:=by simpa using e2
   subst e3;simp only[AD]at q;obtain⟨a,af,rfl,_⟩:=q;rfl
  .rename_i eo;cases e;obtain⟨v,L2,e1,q,_⟩:=ok.own eo;rw[e1]at e2;have e3:v=u:=by simpa using e2
   subst e3;simp only[AD]at q;obtain⟨a,af,rfl,_⟩:=q;rfl
  .cases e
theorem VV{K:Fg}{Z:Xp}:OpF K Z (λx y H Q=>y=.l/\Q (.o (decide (x=.l))) H) (TH false):=by
 intro F B H U fs x y u w Q ok rx ry s;unfold TH at s;split at s
 .split at s
  next b e=>have hb:=PV ok rx e;have ry:w=.l:=ry;refine⟨ry,?_⟩;rw[hb];exact s F H _ Le.refl (RR.of ok rfl)
  .exact s.elim
 .exact s.elim
section
variable{X:Cx}{Z:Xp}{a b:Expr}{fa fb:FS->Out Rv}{pos:Pos}
theorem WK(ha:FE X Z a fa)(hb:FE X Z b fb):FT X Z (.Compare a [.Is] [b] pos) (asB (Ad (TH false) fa fb)):=D2 VV VL ha hb (DZ _)
end
section
variable{X:Cx}{Z:Xp}{a b:Expr}{fa fb:FS->Out Rv}{pos:Pos}
end
theorem Y1{A:Around}{k:Nat}(hr:DL k A):A.units+61<cLine:=by have:=hr.units;lia
section
variable{X:Cx}{Z:Xp}{a b:Expr}{fa fb:FS->Out Rv}{pos:Pos}
end
def EZ(K:Fg)(Z:Xp):XE:=λcv U H=>∃F B fs c C,Dg K c=some C/\cv=.ref C/\Okk K F B H fs U/\Z.p F B H c fs
def Lks(X:Cx)(Z:Xp):Prop:=Lk X (EZ X.K Z)
theorem Lks.no{X:Cx}:Lks X Xp.no:=λ_ _ _ _ _ _ _ ⟨_,_,_,_,_,_,_,_,_,_,_,⟨_,_,_,_,_,_,_,_,z⟩⟩=>z.elim
structure LkD(X:Cx)(Z:Xp):Prop where
 d:OM X
 k:∀e s,XW X (EZ X.K Z) e s->X.xe e s
 own:PassesOwn (model X.prog X.w) X.A X.env X.xe
theorem LkD.lk{X:Cx}{Z:Xp}(l:LkD X Z):Lks X Z:=Lk.of l.d.ex l.k
noncomputable def Zd(K:Fg)(E:XK):Xp:=⟨λF B H c fs=>∀C,Dg K c=some C->∀F' H' ak,Le F H F' H'->Okk K F' B H' fs ak->E (.ref C) none H',λh l C hC F' H' ak l' k=>h C hC F' H' ak (l.trans l') k⟩
def spX(K:Fg)(p:Nat)(Fn:FS->Out Rv):Sp:=λvs H Q E=>vs.length=p/\∃F bK,Okk K F (Bof (vs.map some)) H bK (vs.map some)/\match Fn bK with|.ok r τ=>∀F' H' u ak,Le F H F' H'->RR K (Bof (vs.map some)) ak F' H' τ r u->Q u H'|.exc c τ=>∀C,Dg K c=some C->∀F' H' ak,Le F H F' H'->Okk K F' (Bof (vs.map some)) H' τ ak->E (.ref C) none H'|.bad=>False
def GS0(X:Cx)(Z:Xp)(st:Stmt)(g:FS->SO):Prop:=PS0 X st (tSt X.K Z g)
def X7(X:Cx)(Z:Xp)(kD:List Stmt)(g:FS->SO):Prop:=QQ X kD (tSt X.K Z g)
section
variable{X:Cx}{Z:Xp}{st:Stmt}{rest:List Stmt}{g h:FS->SO}
theorem GS.zero(q:GS X Z st g):GS0 X Z st g:=PS.zero q
theorem GSs.zero(q:GSs X Z rest g):X7 X Z rest g:=PSs.zero q
theorem BJ(h1:GS0 X Z st g)(h2:X7 X Z rest h):X7 X Z (st::rest) (Av g h):=by
 intro s0 U H D I q;refine MO h1 h2 s0 U H D I ?_;obtain⟨F,B,fs,ok,s⟩:=q;refine⟨F,B,fs,ok,?_⟩;unfold Av at s;cases e:g fs with
 |nx ag =>rw[e]at s;exact λF1 H1 di l k=>⟨F1,B,ag,k,Fp.le s l⟩
 |ret r ag=>rw[e]at s;exact s
 |brk ag=>rw[e]at s;exact s
 |cnt ag=>rw[e]at s;exact s
 |exc c ag=>rw[e]at s;exact s
 |bad=>rw[e]at s;exact s
end
section
variable{P:Program}{w:World}{K:Fg}{mg:Str->Option Value}{base:Heap}
theorem IV{x qual:Str}{st:Stmt}{f:Addr}{fd:FuncData}{N ps:List Str}{k:Nat}{g:FS->SO}(Fu:Fun K x qual st f fd)(S:HY N ps (BF st))(p n:Nat)(hp:ps.length=p)(hn:N.length=p+n)
  (hb:∀aL (A:Around) outer (s:Shared) H E E' (Z:Xp),DL k (A.deeper (envOfC qual (BF st) s.heap.objs.size f aL))->LkD ((LZ (CX1 P w) P w K mg base N qual (BF st) f aL A outer s H E).FC E') Z ->
   X7 ((LZ (CX1 P w) P w K mg base N qual (BF st) f aL A outer s H E).FC E') Z (Ea st) g):Ed P w K mg base (CX1 P w) (k+1) f fd ps (spX K p (B2 n g)):=by
 refine Fu.ok0 S (λvs H Q E h=>by rw[h.1,hp]) (λaL A outer s H vs Q E hr h=>⟨_,hb aL A outer s H E _ (Zd K E) hr ⟨⟨rfl,rfl,rfl,rfl⟩,λe s q=>?_,XW.own Xr⟩,?_⟩)
 .refine XW.imp (XW.FC q) λc U H z=>?_
  obtain⟨F,B,fs,c,C,hC,rfl,ok,z⟩:=z;exact z C hC F H U Le.refl ok
 obtain⟨hl,F,bK,⟨L,ok⟩,h⟩:=h;have lb:bK.length=p:=by rw[<- ok.sl.len,qw];exact hl
 have es:L2.start N vs=vs.map some++List.replicate n none:=by unfold L2.start;rw[hl,hn,tD]
 rw[es];refine⟨F,Bof (vs.map some),bK++List.replicate n none,⟨L,ok.more n⟩,?_⟩;unfold B2 at h;cases e:g (bK++List.replicate n none)with
 |nx τ =>rw[e]at h;intro F' H' ak l k;exact h F' H' .l (ak.take bK.length) l (RR.take (RR.of (r:=.t .l) k rfl) _ (λi z=>nomatch z))
 |ret r τ =>
  rw[e]at h;intro F' H' ak u l k;cases r with
  |t t=>exact h F' H' u (ak.take bK.length) l (RR.take k _ (λi z=>nomatch z))
  |nw o=>exact h F' H' u (ak.take bK.length) l (RR.take k _ (λi z=>nomatch z))
  |n i =>
   dsimp only at h;split at h
   .rename_i r' jt e2;split at e2
    next o eo=>cases e2;exact h F' H' u (ak.take bK.length) l (RR.take (RR.mv k eo) _ (λi z=>nomatch z))
    .cases e2
   .rename_i c jt e2;split at e2
    .cases e2
    .cases e2
   .exact h.elim
 |brk τ=>rw[e]at h;exact h.elim
 |cnt τ=>rw[e]at h;exact h.elim
 |exc c τ =>rw[e]at h;intro C hC F' H' ak l k;exact h C hC F' H' (ak.take bK.length) l (RR.take (RR.of (r:=.t .l) k rfl) _ (λi z=>nomatch z)).ok
 |bad=>rw[e]at h;exact h.elim
end
noncomputable def Gs(Fn:FS->Out Rv)(rs:List Rv)(fs:FS):Out Rv :=
 if(Cj fs (rs.map By)).Nodup then(match Fn (C8 fs (rs.map By))with|.ok (.t t) τ=>(match Ec (rs.map By) τ fs with|some aj=>.ok (.t t) aj|none=>.bad)|.ok (.nw o) τ=>(match Ec (rs.map By) τ fs with|some aj=>.ok (.nw o) aj|none=>.bad)|.exc c τ=>(match Ec (rs.map By) τ fs with|some aj=>.exc c aj|none=>.bad)|_=>.bad)else .bad
noncomputable def Ak(p:Nat)(Fn:FS->Out Rv):List Rv->FS->Out Rv:=λrs fs=>if rs.length=p then Gs Fn rs fs else .bad
section
variable{K:Fg}{F F':Wd}{H H':Hp}{B:Nat->Option V}{fs:FS}{U:St}{rs:List Rv}{vs:List V}{Z:Xp}{Q:VK}{Fn:FS->Out Rv}
theorem Jf(q:RAn K B U F H fs rs vs)(s:sat Z B (RR K B U) F H (Gs Fn rs fs) Q):spX K rs.length Fn vs H Q λc _ H'=>EZ K Z c U H':=by
 unfold Gs at s;split at s
 .rename_i nd;obtain⟨L9,μ,ok,c7,hl,hi⟩:=NL q;obtain⟨Pp,p1,p2,p3,p4⟩:=lend ok hl hi nd c7;refine⟨q.len,⟨F.f,Pp⟩,C8 fs (rs.map By),p2,?_⟩;split at s
  .rename_i t τ e;rw[e];split at s
   next aj eb=>intro F' H' u ak l k;obtain⟨Li,L',o1,⟨_,r⟩,_⟩:=k;obtain⟨le,L,o2,_⟩:=p4 F' H' τ ak Li aj l o1 eb;exact s ⟨F'.f,F.p⟩ H' u le (RR.of ⟨L,o2⟩ (AI.wp r))
   .exact s.elim
  .rename_i o τ e;rw[e];split at s
   .rename_i aj eb;intro F' H' u ak l k;obtain⟨Li,L',o1,r,nd,nf⟩:=k;obtain⟨le,L,o2,sub⟩:=p4 F' H' τ ak Li aj l o1 eb;refine s ⟨F'.f,F.p⟩ H' u le ⟨L,L',o2,AD.wp r,?_,λa m=>⟨(nf a m).1,λp=>(nf a m).2 (l.p a (p1 a p)).1⟩⟩;rw[qp]at nd ⊢;refine⟨o2.nd,nd.2.1,λa ha b hb e=>?_⟩;rcases sub a ha with z|z
    .exact nd.2.2 a z b hb e
    .exact(nf b hb).2 (l.p b (e▸z)).1
   .exact s.elim
  .rename_i c τ e;rw[e];split at s
   next aj eb=>intro C hC F' H' ak l k;obtain⟨Li,o1⟩:=k;obtain⟨le,L,o2,_⟩:=p4 F' H' τ ak Li aj l o1 eb;exact⟨⟨F'.f,F.p⟩,B,aj,c,C,hC,rfl,⟨L,o2⟩,Z.mono s le⟩
   .exact s.elim
  .exact s.elim
 .exact s.elim
end
section
variable{X:Cx}{Z:Xp}{x:Str}{k p:Nat}{ps:List Str}{Fn:FS->Out Rv}{e:Expr}{es:List Expr}{fa:FS->Out (List Rv)}{pp pos np au:Pos}{C:Addr}
theorem Xb(G:FnAt X.prog X.w X.K X.mg X.base (CX1 X.prog X.w) x k ps (spX X.K p Fn))(hr:DL k X.A)(lk:Lks X Z)(ha:FAn X Z (e::es) fa)(hg:Gl X x:=by rfl)(aQ:(x==("__debug__":Str))=false:=by decide)
  (he:starEach (e::es) X.env=(false,eval e X.env)::starEach es X.env:=by rfl) (az:(backTo pos (starEach es X.env)).any (·.1)=false:=by rfl):FE X Z (.Call (.Name x pp) (e::es) [] pos) (Ah (Ak p Fn) fa):=by
 refine A5 (VD G hr lk ha hg aQ he az) λU H Q ai => ?_
 obtain⟨F,B,fs,ok,s⟩:= ai;refine⟨F,B,fs,ok,AL s λrs ag F1 H1 us l q s1=>?_⟩;unfold Ak at s1;split at s1
 next hp=>rw[<- hp];exact Jf q s1
 .exact s1.elim
structure X8(K:Fg)(mg:Str->Option Value)(x:Str):Prop where
 ex:∃C,mg x=some (.ref C)/\Dg K x=some C/\excIn K C UO "ValueError.__new__"=true
noncomputable def Km(c:Str)(fa:FS->Out (List Rv)):FS->SO:=λfs=>SO.of (fa fs) λrs fs=>if rs.length<=1000 then .exc c fs else .bad
theorem P7(c:X8 X.K X.mg x)(l:LkD X Z)(hc:X.calm=true)(ha:FA X Z (e::es) fa)(hg:Gl X x:=by rfl)(aQ:(x==("__debug__":Str))=false:=by decide)
  (he:starEach (e::es) X.env=(false,eval e X.env)::starEach es X.env:=by rfl) (az:(backTo au (starEach es X.env)).any (·.1)=false:=by rfl) :
  GS X Z (.Raise (some (.Call (.Name x np) (e::es) [] au)) none pos) (Km x fa):=by
 obtain⟨C,h1,h2,h3⟩:=c.ex;refine BS (Hs (C:=C) (Z:=EZ X.K Z) ⟨h1,h3⟩ l.d.ex hc l.k ha hg aQ he az) λD U H ai => ?_
 obtain⟨F,B,fs,ok,s⟩:= ai;refine⟨F,B,fs,ok,BB s λrs ag F1 H1 us l q s1=>?_⟩;split at s1
 next hl=>exact⟨by rw[q.2.len];exact hl,F1,B,ag,x,C,h2,rfl,q.1,s1⟩
 .exact s1.elim
end
noncomputable def UG(i:Nat)(eN:Str->Bool)(h:FS->SO)(c:Str)(fs:FS):SO:=if eN c=true then(match Hi i (.t (.zS c)) fs with|some fs=>(match h fs with|.nx fs=>(match fs[i]? with|some (some (.val _))=>.nx (fs.set i none)|_=>.bad)|.ret (.t t) fs=>.ret (.t t) fs|_=>.bad)|none=>.bad)else .bad
noncomputable def R8(i:Nat)(eN:Str->Bool)(g h:FS->SO):FS->SO:=λfs=>match g fs with|.exc c fs=>UG i eN h c fs|o=>o
section
variable{X:Cx}{Z:Xp}{K:Fg}{B:Nat->Option V}{F:Wd}{H:Hp}{U:St}{fs:FS}
theorem Okk.forget{i:Nat}{t:T}(h:Okk K F B H fs U)(e:fs[i]?=some (some (.val t))):Okk K F B H (fs.set i none) (U.set i none):=by
 obtain⟨L,ok⟩:=h;obtain⟨v,L1,L2,L3,e1,rfl,h1,h2⟩:=ok.sl.pick e;have e2:L2=[]:=by obtain⟨u,rfl,q,z⟩:=h1;exact z
 subst e2;exact⟨L1++([]++L3),h2 F H none none [] Le.refl (λ_ _=>rfl) rfl,ok.nd,ok.nf,ok.fd,EF.put ok.bo (λo eo=>by cases eo) ok.sl.len,ok.pd,ok.pf,ok.pl⟩
noncomputable def Jas(K:Fg)(Z:Xp)(i:Nat)(eN:Str->Bool)(h:FS->SO)(D:Ends):Xp:=⟨λF B H c fs=>Fp K Z B F H (UG i eN h c fs) D,λq l=>Fp.le q l⟩
theorem Tw{x n:Str}{C:Addr}{i:Nat}{np pos ck:Pos}{body aT:List Stmt}{bC:Stmt}{g h:FS->SO}(eN:Str->Bool)(i:Nat)(l:LkD X Z)(hC:X.mg x=some (.ref C))(hN:X.N.Nodup)(hk:∀c C',eN c=true->Dg X.K c=some C'->exmOne X.K (.ref C') (.ref C)=some true)
  (hb:∀E' Z',LkD (X.FC E') Z'->GSs (X.FC E') Z' body g) (hs:∀a,GSs (X.hand a) Xp.no (bC::aT) h) (hi:X.N[i]?=some n:=by rfl) (hl:X.env.scope.names.lookup n=some .local:=by rfl) (hg:Gl X x:=by rfl) (aQ:(x==("__debug__":Str))=false:=by decide) :
  GS0 X Z (.Try body [.ExceptHandler (some (.Name x np)) (some n) (bC::aT) ck] [] [] pos) (R8 i eN g h):=by
 have key:=So (X:=X) (C:=C) (x:=x) (n:=n) (i:=i) (np:=np) (pos:=pos) (ck:=ck) (body:=body) (bC:=bC) (aT:=aT) (th:=tSt X.K Xp.no h) (tb:=λD=>tSt X.K (Jas X.K Z i eN h D) g) l.d hC hN (λD=>?_) hs hi hl hg aQ
 .intro s0 U H D I q;refine key s0 U H D I ?_;obtain⟨F,B,fs,ok,s⟩:=q;refine⟨F,B,fs,ok,?_⟩;unfold R8 at s;cases e:g fs with|nx ag=>rw[e]at s;exact s|ret r ag=>rw[e]at s;exact s|brk ag=>rw[e]at s;exact s|cnt ag=>rw[e]at s;exact s|exc c ag=>rw[e]at s;exact s|bad=>rw[e]at s;exact s
 .refine hb _ _ ⟨⟨l.d.pn,l.d.ex,l.d.st,l.d.fr⟩,λe s q=>XW.imp (XW.FC q) λcv U H z=>?_,XW.own l.d⟩;obtain⟨F,B,fs,c,C',kW,rfl,ok,z⟩:=z;have z:Fp X.K Z B F H (UG i eN h c fs) D:=z;unfold UG at z;split at z
  .rename_i jb;refine⟨hk c C' jb kW,λa ha=>?_⟩;split at z
   .rename_i ax e2;have aG:Okk X.K (OP F a) B (upd H a (exO (.ref C') a)) ax (U.set i (some (.ref a))):=EI (RR.of (r:=.t (.zS c)) (u:=.ref a) (Okk.alloc ok ha) (by simp only[B1,AI];exact⟨a,C',rfl,.inr rfl,Az,kW⟩)) e2;have gQ:Le F H (OP F a) (upd H a (exO (.ref C') a)):=Bs ok ha;refine⟨OP F a,B,ax,aG,?_⟩;cases eh:h ax with
    |nx dk =>
     rw[eh]at z;dsimp only at z;split at z
     next t et=>exact λF' H' ak l k=>z F' H' _ (gQ.trans l) (k.forget et)
     .exact z.elim
    |ret r dk =>rw[eh]at z;cases r with|t t =>intro F' H' ak u l k;exact z F' H' ak u (gQ.trans l) k|nw o=>exact z.elim|n j=>exact z.elim
    |brk dk=>rw[eh]at z;exact z.elim
    |cnt dk=>rw[eh]at z;exact z.elim
    |exc c dk=>rw[eh]at z;exact z.elim
    |bad=>rw[eh]at z;exact z.elim
   .exact z.elim
  .exact z.elim
end
noncomputable def Ug(K:Fg)(ds:List Str)(tab:Str->Str->Bool)(c:Str):Bool:=match Dg K c with
 |some C=>excIn K C UO "ValueError.__new__"&&(findIn K (.ref C) "__getattribute__"==some (some (.builtin "BaseException.__getattribute__")))&&(findIn K (.ref C) "__getattr__"==some none) &&
  (findIn K (.ref C) "__class__"==some (some (.builtin "object.__class__")))&&(PySem.W.specialIn K (.builtin "object.__class__") "__get__"==some (some (.builtin "getset_descriptor.__get__")))&&(PySem.W.takesIn K (.builtin "object.__class__")==some true) &&
  (mroIn K C (.type "object")==some true)&&(mroIn K C (.type "BaseException")==some true)&&(clsIn K C).isSome&&(kitOne K (.ref C) (.type "ValueError")==some true) &&
  ds.all λd=>match Dg K d with|some D=>(kitOne K (.ref C) (.ref D)==some (tab c d))&&(!tab c d||exmOne K (.ref C) (.ref D)==some true)|none=>false
 |none=>false
noncomputable def Xo(K:Fg)(rs ds:List Str)(tab:Str->Str->Bool):Bool:=rs.all (Ug K ds tab)&&ds.all λd=>(Dg K d).isSome
structure Jp(K:Fg)(mg:Str->Option Value)(rs ds:List Str)(tab:Str->Str->Bool):Prop where
 k:∀c∈rs,∀C,Dg K c=some C->PySem.W.ExK K C/\(clsIn K C).isSome=true
 own:∀c∈rs,∀d∈ds,∀C D,Dg K c=some C->Dg K d=some D->kitOne K (.ref C) (.ref D)=some (tab c d)/\(tab c d=true->exmOne K (.ref C) (.ref D)=some true)
 ve:∀c∈rs,∀C,Dg K c=some C->kitOne K (.ref C) (.type "ValueError")=some true
 at_:∀c∈rs,∃C,mg c=some (.ref C)/\Dg K c=some C/\excIn K C UO "ValueError.__new__"=true
 zd:∀d∈ds,∃D,mg d=some (.ref D)/\Dg K d=some D
theorem RU{K:Fg}{h:Heap}{mg:Str->Option Value}{c:Str}{C:Addr}(X:K.In h)(G:h.Ns mainGlobals mg)(e:Dg K c=some C):mg c=some (.ref C):=by
 unfold Dg at e;split at e
 next D q=>cases e;exact mg_of X G q
 .cases e
theorem Jp.of{K:Fg}{h:Heap}{mg:Str->Option Value}{rs ds:List Str}{tab:Str->Str->Bool}(X:K.In h)(G:h.Ns mainGlobals mg)(e:Xo K rs ds tab=true):Jp K mg rs ds tab:=by
 unfold Xo at e;rw[qL]at e;obtain⟨e1,e2⟩:=e;have one:∀c∈rs,∀C,Dg K c=some C->excIn K C UO "ValueError.__new__"=true/\PySem.W.ExK K C/\(clsIn K C).isSome=true/\kitOne K (.ref C) (.type "ValueError")=some true /\
   ∀d∈ds,∀D,Dg K d=some D->kitOne K (.ref C) (.ref D)=some (tab c d)/\(tab c d=true->exmOne K (.ref C) (.ref D)=some true):=λc hc C hC=>by
  have q:=rC.mp e1 c hc;unfold Ug at q;rw[hC]at q;simp only[qL,beq_iff_eq]at q;obtain⟨⟨⟨⟨⟨⟨⟨⟨⟨⟨q1,q2⟩,q3⟩,q4⟩,q5⟩,q6⟩,q7⟩,q8⟩,q9⟩,pw⟩,px⟩:=q;refine⟨q1,⟨q2,q3,q4,q5,q6,q7,q8⟩,q9,pw,λd hd D hD=>?_⟩;have z:=rC.mp px d hd;rw[hD]at z;simp only[qL,beq_iff_eq]at z;refine⟨z.1,λht=>?_⟩;have z2:=z.2;rw[ht]at z2;simpa using z2
 refine⟨λc hc C hC=>⟨(one c hc C hC).2.1,(one c hc C hC).2.2.1⟩,λc hc d hd C D hC hD=>(one c hc C hC).2.2.2.2 d hd D hD,λc hc C hC=>(one c hc C hC).2.2.2.1,λc hc=>?_,λd hd=>?_⟩
 .have q:=rC.mp e1 c hc;unfold Ug at q;cases hC:Dg K c with|none=>rw[hC]at q;cases q|some C=>exact⟨C,RU X G hC,rfl,(one c hc C hC).1⟩
 .obtain⟨D,hD⟩:=rZ.mp (rC.mp e2 d hd);exact⟨D,RU X G hD,hD⟩
theorem Jp.t1{K:Fg}{mg:Str->Option Value}{rs ds:List Str}{tab:Str->Str->Bool}(t:Jp K mg rs ds tab){c:Str}(h:c∈rs):X8 K mg c:=⟨t.at_ c h⟩
noncomputable def isX(cs:List Str)(tab:Str->Str->Bool)(d:Str)(f:FS->Out Rv):FS->Out Rv:=λfs=>(f fs).bnd λr fs=>match r with|.t (.zS c)=>if cs.contains c=true then okT (.o (tab c d)) fs else .bad|_=>.bad
section
variable{X:Cx}{Z:Xp}{a:Expr}{f:FS->Out Rv}{p p2 pos:Pos}{x:Str}{cs ds:List Str}{tab:Str->Str->Bool}
theorem W8(t:Jp X.K X.mg cs ds tab)(hm:X.mg "isinstance"=none)(hx:x∈ds)(ha:FE X Z a f)(hg:Gl X "isinstance":=by rfl)(gn:Gl X x:=by rfl)(aQ:(x==("__debug__":Str))=false:=by decide)
  (hs:starEach [a,.Name x p2] X.env=(false,eval a X.env)::starEach [.Name x p2] X.env:=by rfl) (aO:starEach [.Name x p2] X.env=[(false,eval (.Name x p2) X.env)]:=by rfl) (az:(backTo pos (starEach [.Name x p2] X.env)).any (·.1)=false:=by rfl) :
  FE X Z (.Call (.Name "isinstance" p) [a,.Name x p2] [] pos) (isX cs tab x f):=by
 obtain⟨D,h1,h2⟩:=t.zd x hx;have hD:PE X (.Name x p2) (tC (.ref D)):=λaa s U H Q I h=>EO I gn h1 ⟨.ref D,H,I,rfl,h⟩ aQ
 refine A5 (Hw Ha hg hm boot_isinstance (B5 ha (B5 hD DA aO) hs) (by decide) (by decide) hs az) λU H Q ai=>?_
 obtain⟨F,B,fs,ok,s⟩:= ai;refine⟨F,B,fs,ok,AQ s λr ag F1 H1 u l1 aq rx s1=>?_⟩;split at s1
 .rename_i c;split at s1
  .rename_i hc;have hc:c∈cs:=by simpa using hc
   simp only[B1,AI]at rx;obtain⟨b,C,rfl,fb,hb,hC⟩:=rx;exact⟨b,C,.ref D,.ref D,_,rfl,(λu z=>z),hb,(t.k c hc C hC).1,(t.k c hc C hC).2,(t.own c hc x hx C D hC h2).1,s1 F1 H1 _ Le.refl (RR.of aq rfl)⟩
  .exact s1.elim
 .exact s1.elim
noncomputable def isV(cs:List Str)(f:FS->Out Rv):FS->Out Rv:=λfs=>(f fs).bnd λr fs=>match r with|.t (.zS c)=>if cs.contains c=true then okT (.o true) fs else .bad|_=>.bad
theorem W9(t:Jp X.K X.mg cs ds tab)(hm:X.mg "isinstance"=none)(ix:X.mg "ValueError"=none)(ha:FE X Z a f)(hg:Gl X "isinstance":=by rfl)(gn:Gl X "ValueError":=by rfl)
  (hs:starEach [a,.Name "ValueError" p2] X.env=(false,eval a X.env)::starEach [.Name "ValueError" p2] X.env:=by rfl) (aO:starEach [.Name "ValueError" p2] X.env=[(false,eval (.Name "ValueError" p2) X.env)]:=by rfl) (az:(backTo pos (starEach [.Name "ValueError" p2] X.env)).any (·.1)=false:=by rfl) :
  FE X Z (.Call (.Name "isinstance" p) [a,.Name "ValueError" p2] [] pos) (isV cs f):=by
 refine A5 (Hw Ha hg hm boot_isinstance (B5 ha (B5 (Sz (v:=.ty "ValueError") gn ix PyProof.Rows.Boot.«ValueError» rfl) DA aO) hs) (by decide) (by decide) hs az) λU H Q ai=>?_
 obtain⟨F,B,fs,ok,s⟩:= ai;refine⟨F,B,fs,ok,AQ s λr ag F1 H1 u l1 aq rx s1=>?_⟩;split at s1
 .rename_i c;split at s1
  .rename_i hc;have hc:c∈cs:=by simpa using hc
   simp only[B1,AI]at rx;obtain⟨b,C,rfl,fb,hb,hC⟩:=rx;exact⟨b,C,.ty "ValueError",.type "ValueError",_,rfl,(λu z=>z),hb,(t.k c hc C hC).1,(t.k c hc C hC).2,t.ve c hc C hC,s1 F1 H1 _ Le.refl (RR.of aq rfl)⟩
  .exact s1.elim
 .exact s1.elim
end
theorem Qa{X:Cx}{Z:Xp}{x n:Str}{np pos ck:Pos}{body aT:List Stmt}{bC:Stmt}{g h:FS->SO}{rs ds:List Str}{tab:Str->Str->Bool}(t:Jp X.K X.mg rs ds tab)(hx:x∈ds)(i:Nat)(l:LkD X Z)(hN:X.N.Nodup)
  (hb:∀E' Z',LkD (X.FC E') Z'->GSs (X.FC E') Z' body g) (hs:∀a,GSs (X.hand a) Xp.no (bC::aT) h) (hi:X.N[i]?=some n:=by rfl) (hl:X.env.scope.names.lookup n=some .local:=by rfl) (hg:Gl X x:=by rfl) (aQ:(x==("__debug__":Str))=false:=by decide) :
  GS0 X Z (.Try body [.ExceptHandler (some (.Name x np)) (some n) (bC::aT) ck] [] [] pos) (R8 i (λc=>rs.contains c&&tab c x) g h):=by
 obtain⟨C,h1,h2⟩:=t.zd x hx;refine Tw (i:=i) _ i l h1 hN (λc C' ho hc=>?_) hb hs hi hl hg aQ;rw[qL]at ho;exact(t.own c (by simpa using ho.1) x hx C' C hc h2).2 ho.2
noncomputable def Y9:Rv->List Rv->FS->Out Rv
 |x,[.t (.o true)],fs=>match(Cu fs x).bind Di with|some bs=>okT (.int ((bs.countP id:Nat):Int)) fs|none=>.bad
 |_,_,_=>.bad
noncomputable def Y6:Rv->List Rv->FS->Out Rv
 |x,[.t (.o true)],fs=>match(Cu fs x).bind Di with
  |some bs=>match bs.findIdx? id with|some j=>okT (.int ((j:Nat):Int)) fs|none=>.bad
  |none=>.bad
 |_,_,_=>.bad
section
variable{K:Fg}{Z:Xp}
theorem PJ:MtF K Z (λx vs H Q=>∃(l:Addr)(bs:List Bool),x=.ref l/\vs=[.o true]/\SqL K H l (bs.map V.o)/\Q (.int ((bs.countP id:Nat):Int)) H) Y9:=by
 intro F B H U fs x rs u vs Q ok rx q s;unfold Y9 at s;split at s
 .obtain⟨v,rfl,qq⟩:=Br q;have q':v=V.o true:=by simpa only[B1,AI]using qq
  subst q';split at s
  next bs e=>rw[q0]at e;obtain⟨ts,e1,e2⟩:=e;obtain⟨a,us,rfl,hs,r⟩:=Bq ok rx e1;rw[EE e2]at r;rw[Ag.bls r]at hs;exact⟨a,bs,rfl,rfl,hs,s F H _ Le.refl (RR.of ok rfl)⟩
  .exact s.elim
 .exact s.elim
theorem PH:MtF K Z (λx vs H Q=>∃(l:Addr)(bs:List Bool)(j:Nat),x=.ref l/\vs=[.o true]/\SqL K H l (bs.map V.o)/\bs[j]?=some true/\(∀m,m<j->bs[m]?=some false)/\Q (.int ((j:Nat):Int)) H) Y6:=by
 intro F B H U fs x rs u vs Q ok rx q s;unfold Y6 at s;split at s
 .obtain⟨v,rfl,qq⟩:=Br q;have q':v=V.o true:=by simpa only[B1,AI]using qq
  subst q';split at s
  .rename_i bs e;rw[q0]at e;obtain⟨ts,e1,e2⟩:=e;obtain⟨a,us,rfl,hs,r⟩:=Bq ok rx e1;rw[EE e2]at r;rw[Ag.bls r]at hs;split at s
   next j ej=>obtain⟨hj,h1,h2⟩:=List.findIdx?_eq_some_iff_getElem.mp ej;refine⟨a,bs,j,rfl,rfl,hs,by rw[qo hj];exact congrArg some h1,λm hm=>?_,s F H _ Le.refl (RR.of ok rfl)⟩;have:=h2 m hm;rw[qo (sL hm hj)];simpa using this
   .exact s.elim
  .exact s.elim
 .exact s.elim
end
theorem U6{K:Fg}{p:Nat}{Fn:FS->Out Rv}{vs:List V}{H:Hp}{Q:VK}{E E':XK}(h:spF K p Fn vs H Q E):spX K p Fn vs H Q E':=by obtain⟨h1,F,bK,ok,h⟩:=h;refine⟨h1,F,bK,ok,?_⟩;cases e:Fn bK with|ok r τ=>rw[e]at h;exact h|exc c τ=>rw[e]at h;exact h.elim|bad=>rw[e]at h;exact h.elim
section
variable{X:Cx}{Z:Xp}{x:Str}{k p:Nat}{ps:List Str}{Fn:FS->Out Rv}{e o:Expr}{es:List Expr}{fa:FS->Out (List Rv)}{fo f:FS->Out Rv}{pp pos av np au cp fp jp:Pos}{C:Addr}{m:Str}{v:Expr}{a:Str}{j:Nat}
noncomputable def IF(C:Addr)(m:Str)(p:Nat)(Fn:FS->Out Rv)(fo:FS->Out Rv)(fa:FS->Out (List Rv)):FS->Out Rv:=λfs=>(fo fs).bnd λx fs=>if GG C m fs x=true then(fa fs).bind λrs fs=>Ak p Fn (x::rs) fs else .bad
theorem W3{pl:Sem Bool}(G:UQ X.prog X.w X.K X.mg X.base (CX1 X.prog X.w) C m k ps (spX X.K p Fn))(hr:DL k X.A)(lk:Lks X Z)(ho:FE X Z o fo)(ha:FAn X Z (e::es) fa)
  (bG:starEach (e::es) X.env=(false,eval e X.env)::starEach es X.env:=by rfl) (az:(backTo pos (starEach es X.env)).any (·.1)=false:=by rfl)
  (ht:eval (.Call (.Attribute o m av) (e::es) [] pos) X.env=(do
   let ov <- eval o X.env
   standAt av.atName
   let(f,first) <- holding [ov] (getMethod ov m pl)
   callWith pos f first (backTo pos (starEach (e::es) X.env)) (backToKw pos (keywordEach [] X.env))):=by rfl) :
  FE X Z (.Call (.Attribute o m av) (e::es) [] pos) (IF C m p Fn fo fa):=by
 refine A5 (VA G hr lk ho ha bG az ht) λU H Q ai => ?_
 obtain⟨F,B,fs,ok,s⟩:= ai;refine⟨F,B,fs,ok,AQ s λr ag F1 H1 u l aq rx s1=>?_⟩;split at s1
 .rename_i hi;obtain⟨a,dx,af,rfl,hd,hn⟩:=KG aq rx hi;refine⟨a,dx,af,rfl,hd,hn,F1,B,ag,aq,AL s1 λrs ax F2 H2 us l2 q s2=>?_⟩;unfold Ak at s2;split at s2
  next hp=>rw[<- hp];obtain⟨L9,M9,o9,q9,o8,ph⟩:=q;refine Jf (rs:=r::rs) (vs:=.ref a::us) ⟨L9,M9,o9,⟨_,us,[],M9,rfl,?_,q9,rfl⟩,o8,ph⟩ s2;have iP:=rx.le l2;cases r with|t t=>exact⟨rfl,iP⟩|nw o=>exact iP.elim|n i=>exact⟨rfl,iP⟩
  .exact s2.elim
 .exact s1.elim
theorem T7(G:UQ X.prog X.w X.K X.mg X.base (CX1 X.prog X.w) C m k ps (spX X.K p Fn))(hr:DL k X.A)(ho:FE X Z o fo)
  (h:∀{ta:TE},PE X o ta->PE X (.Call (.Attribute o m av) [] [] pos) (Se C m (spX X.K p Fn) [] E0 ta XR)):FE X Z (.Call (.Attribute o m av) [] [] pos) (JM C m p Fn fo Ai):=by
 refine A5 (h ho) λU H Q ai => ?_
 obtain⟨F,B,fs,ok,s⟩:= ai;refine⟨F,B,fs,ok,AQ s λr ag F1 H1 u l aq rx s1=>?_⟩;split at s1
 .rename_i hi;obtain⟨a,dx,af,rfl,hd,hn⟩:=KG aq rx hi;refine⟨a,dx,af,rfl,hd,hn,?_⟩;have s2:sat Z B (RR X.K B U) F1 H1 (OA p Fn [r] ag) Q:=s1;unfold OA at s2;split at s2
  next hp=>show spX X.K p Fn (.ref a::([]++[])) H1 Q E0;rw[<- hp];obtain⟨L9,o9⟩:=aq;refine U6 (E:=E0) (QG (rs:=[r]) (vs:=[.ref a]) ⟨L9,[],o9,⟨_,[],[],[],rfl,?_,⟨rfl,rfl⟩,rfl⟩,by simpa using o9.nd,(λ_ m=>nomatch m)⟩ s2);cases r with|t t=>exact⟨rfl,rx⟩|nw o=>exact rx.elim|n i=>exact⟨rfl,rx⟩
  .exact s2.elim
 .exact s1.elim
theorem W5(G:X5 X.prog X.w X.K X.mg X.base (CX1 X.prog X.w) x C k ps (spX X.K p Fn))(hr:DL (k+1) X.A)(ha:FAn X Z (e::es) fa)(hg:Gl X x:=by rfl)(aQ:(x==("__debug__":Str))=false:=by decide)
  (he:starEach (e::es) X.env=(false,eval e X.env)::starEach es X.env:=by rfl) (az:(backTo pos (starEach es X.env)).any (·.1)=false:=by rfl):FE X Z (.Call (.Name x pp) (e::es) [] pos) (Ah (IG C p Fn) fa):=by
 refine A5 (Yw G hr VE ha hg aQ he az) λU H Q ai => ?_
 obtain⟨F,B,fs,ok,s⟩:= ai;refine⟨F,B,fs,ok,AL s λrs ag F1 H1 us l q s1=>?_⟩;intro a dx h1 h2 h3;rw[rD];exact U6 (E:=E0) (PM q s1 h1 h2 h3)
theorem WJ{a b:Expr}{fa fb:FS->Out Rv}(hu:X.A.units+61<cLine)(ha:FE X Z a fa)(hb:FE X Z b fb):FT X Z (.Compare a [.NotEq] [b] pos) (asB (Ad (KQ true) fa fb)):=D2 (Nd true hu) VH ha hb (DZ _)
noncomputable def Ej(c:Str)(f:FS->Out Rv):FS->SO:=λfs=>SO.of (f fs) λr fs=>match r with|.t (.str z)=>if CH z=true then .exc c fs else .bad|_=>.bad
theorem NO(c:X8 X.K X.mg x)(l:LkD X Z)(hc:X.calm=true)(ha:FE X Z v f)(hl:a.length<=1000:=by decide)(hg:Gl X x:=by rfl)(aQ:(x==("__debug__":Str))=false:=by decide)
  (he:starEach [(.JoinedStr [.Constant (.str a) j cp,.FormattedValue v 114 none fp] jp:Expr)] X.env=[(false,eval (.JoinedStr [.Constant (.str a) j cp,.FormattedValue v 114 none fp] jp) X.env)]:=by rfl) :
  GS X Z (.Raise (some (.Call (.Name x np) [.JoinedStr [.Constant (.str a) j cp,.FormattedValue v 114 none fp] jp] [] au)) none pos) (Ej x f):=by
 obtain⟨C,h1,h2,h3⟩:=c.ex;refine BS (Hs (C:=C) (Z:=EZ X.K Z) ⟨h1,h3⟩ l.d.ex hc l.k (B5 (YA ha hl) DA he) hg aQ he rfl) λD U H ai => ?_
 obtain⟨F,B,fs,ok,s⟩:= ai;refine⟨F,B,fs,ok,BB s λr ag F1 H1 u l q s1=>?_⟩;split at s1
 .rename_i z;split at s1
  next hz=>have z9:=q.ok;obtain⟨L,L',_,⟨_,qu⟩,_⟩:=q;have eu:u=.str z:=qu;subst eu;exact⟨z,rfl,hz,λr'=>⟨by simp,F1,B,ag,x,C,h2,rfl,z9,s1⟩⟩
  .exact s1.elim
 .exact s1.elim
end
section
variable{K:Fg}{B:Nat->Option V}{F F':Wd}{H H':Hp}{U:St}{fs:FS}{i:Nat}{ob:FO}
theorem Okk.cut(h:Okk K F B H fs U)(e:AM fs i=some ob):∃v L2,U[i]?=some (some v)/\AD K F H ob v L2/\(∀a∈L2,¬F a/\¬F.p a)/\L2.Nodup /\
  ∀aJ H' M o' u' N',(∀a,a∉L2->H a≠none->H' a=H a)->AD K F H' aJ v M->AD K F H' o' u' N'->(M++N').Nodup->(∀a∈M++N',a∈L2)->RR K B U F H' (putAt fs i aJ) (.nw o') u'/\Le F H F H':=by
 obtain⟨L,h⟩:=h;have key:∀s:Sl,fs[i]?=some (some s)->(s=.own ob\/s=.bor ob)->∃v L2,U[i]?=some (some v)/\AD K F H ob v L2/\(∀a∈L2,¬F a/\¬F.p a)/\L2.Nodup /\
  ∀aJ H' M o' u' N',(∀a,a∉L2->H a≠none->H' a=H a)->AD K F H' aJ v M->AD K F H' o' u' N'->(M++N').Nodup->(∀a∈M++N',a∈L2)->RR K B U F H' (fs.set i (some (s.put aJ))) (.nw o') u'/\Le F H F H':=by
  intro s es ho;obtain⟨v,L1,L2,L3,e1,rfl,h1,h2⟩:=h.sl.pick es;obtain⟨u,rfl,q⟩:∃u,v=some u/\AD K F H ob u L2:=by
   rcases ho with rfl|rfl
   .exact h1
   .exact h1
  have nd:=h.nd;have cV:∀a∈L1++L3,a∉L2:=λa ha hb=>by
   rw[qp]at nd;rcases qC.mp ha with ha|ha
   .exact nd.2.2 a ha a (qG _ hb) rfl
   .have:=(qp.mp nd.2.1).2.2;exact this a hb a ha rfl
  refine⟨u,L2,e1,q,λa m=>⟨h.nf a (by simp[m]),h.pl a (by simp[m])⟩,?_,λaJ H' M o' u' N' k q' q2 cq cZ=>?_⟩
  .rw[qp]at nd;exact(qp.mp nd.2.1).1
  .have l:Le F H F H':=⟨λa f=>⟨f,k a (λm=>h.nf a (by simp[m]) f) (h.fd a f)⟩,λa f=>⟨f,k a (λm=>h.pl a (by simp[m]) f) (h.pd a f)⟩⟩
   have hM:=qp.mp cq;have sM:∀a∈M,a∈L2:=λa m=>cZ a (qG _ m)
   have sN:∀a∈N',a∈L2:=λa m=>cZ a (qB _ m)
   have own:∀a∈L1++(M++L3),¬F a/\¬F.p a:=λa m=>by
    rcases qC.mp m with m|m
    .exact⟨h.nf a (by simp[m]),h.pl a (by simp[m])⟩
    .rcases qC.mp m with m|m
     .exact⟨h.nf a (by simp[sM a m]),h.pl a (by simp[sM a m])⟩
     .exact⟨h.nf a (by simp[m]),h.pl a (by simp[m])⟩
   have lI:(L1++(M++L3)).Nodup:=BU nd hM.1 λa m z=>cV a z (sM a m)
   refine⟨⟨L1++(M++L3),N',⟨?_,lI,λa m=>(own a m).1,λa f=>by rw[(l.f a f).2];exact h.fd a f,?_,λa f=>by rw[(l.p a f).2];exact h.pd a f,h.pf,λa m=>(own a m).2⟩,q2,?_,λa m=>⟨h.nf a (by simp[sN a m]),h.pl a (by simp[sN a m])⟩⟩,l⟩
   .have hL:∀a∈L1++L3,H' a=H a:=λa m=>k a (cV a m) (h.sl.def a (by
      rcases qC.mp m with m|m
      .simp[m]
      .simp[m]))
    have h3:=h2 F H' (some (s.put aJ)) (some u) M l hL (by
     rcases ho with rfl|rfl
     .exact⟨u,rfl,q'⟩
     .exact⟨u,rfl,q'⟩)
    rwa[Bv e1]at h3
   .have:=EF.put (i:=i) (s:=some (s.put aJ)) (v:=some u) h.bo (λo eo=>by
     rcases ho with rfl|rfl
     .cases eo
     .obtain⟨w,e3,e4⟩:=h.bo i ob es;rw[e1]at e3;have e5:u=w:=by simpa using e3
      exact⟨u,rfl,by rw[e5];exact e4⟩) h.sl.len
    rwa[Bv e1]at this
   .rw[qp];refine⟨lI,hM.2.1,λa ha b hb e=>?_⟩;subst e;rcases qC.mp ha with ha|ha
    .exact cV a (qG _ ha) (sN a hb)
    .rcases qC.mp ha with ha|ha
     .exact hM.2.2 a ha a hb rfl
     .exact cV a (qB _ ha) (sN a hb)
 unfold AM at e;split at e
 next o es=>cases e;obtain⟨v,L2,a1,a2,a3,a4,a5⟩:=key _ es (.inl rfl);refine⟨v,L2,a1,a2,a3,a4,λaJ H' M o' u' N' k q q2 n s=>?_⟩;have:=a5 aJ H' M o' u' N' k q q2 n s;unfold putAt;rw[es];exact this
 next o es=>cases e;obtain⟨v,L2,a1,a2,a3,a4,a5⟩:=key _ es (.inr rfl);refine⟨v,L2,a1,a2,a3,a4,λaJ H' M o' u' N' k q q2 n s=>?_⟩;have:=a5 aJ H' M o' u' N' k q q2 n s;unfold putAt;rw[es];exact this
 .cases e
theorem AA.snoc:∀{os:List FO}{o:FO}{vs:List V}{L:List Addr},AA K F H (os++[o]) vs L->∃bg v L1 L2,vs=bg++[v]/\AA K F H os bg L1/\AD K F H o v L2/\L=L1++L2
 | [],o,vs,L,h=>by simp only[qV,AA]at h;obtain⟨v,r,L1,L2,rfl,h1,⟨rfl,rfl⟩,rfl⟩:=h;exact⟨[],v,[],L1,rfl,⟨rfl,rfl⟩,h1,by simp⟩
 |x::os,o,vs,L,h=>by simp only[qY,AA]at h;obtain⟨v,r,L1,L2,rfl,h1,h2,rfl⟩:=h;obtain⟨bg,w,M1,M2,rfl,g1,g2,rfl⟩:=AA.snoc h2;exact⟨v::bg,w,L1++M1,M2,rfl,by simp only[AA];exact⟨v,bg,L1,M1,rfl,h1,g1,rfl⟩,g2,by simp⟩
theorem AA.app:∀{os:List FO}{o:FO}{vs:List V}{v:V}{L1 L2:List Addr},AA K F H os vs L1->AD K F H o v L2->AA K F H (os++[o]) (vs++[v]) (L1++L2)
 | [],o,vs,v,L1,L2,h,g=>by
  obtain⟨rfl,rfl⟩:=(show vs=[]/\L1=[] by simpa only[AA]using h)
  simp only[qV,AA];exact⟨v,[],L2,[],rfl,g,⟨rfl,rfl⟩,by simp⟩
 |x::os,o,vs,v,L1,L2,h,g=>by simp only[AA]at h;obtain⟨w,r,M1,M2,rfl,h1,h2,rfl⟩:=h;simp only[qY,AA];exact⟨w,r++[v],M1,M2++L2,rfl,h1,AA.app h2 g,by simp⟩
theorem AA.len:∀{os:List FO}{vs:List V}{L:List Addr},AA K F H os vs L->vs.length=os.length
 | [],vs,L,h=>by
  obtain⟨rfl,rfl⟩:=(show vs=[]/\L=[] by simpa only[AA]using h)
  rfl
 |o::os,_,_,h=>by simp only[AA]at h;obtain⟨w,r,M1,M2,rfl,h1,h2,rfl⟩:=h;rw[qD,qD,AA.len h2]
end
section
variable{X:Cx}{Z:Xp}{x:Str}{e:Expr}{f:FS->Out Rv}{p1 p2 p ap cp pos:Pos}
noncomputable def SX:FS->Out Rv:=λfs=>.ok (.nw (.z0 [.lst []])) fs
theorem Qp(hs:starEach [(.List [] p1:Expr)] X.env=[(false,eval (.List [] p1) X.env)]:=by rfl):FE X Z (.List [.List [] p1] p2) SX:=by
 refine A5 (Ks (B5 (Ks DA) DA hs)) λU H Q ai=>?_
 obtain⟨F,B,fs,ok,s⟩:= ai;refine⟨rX _,λb hb=>⟨by rw[sizeLine_eq];show 1<=_;decide,λp hp=>?_⟩⟩;have kf:p≠b:=λe=>by subst e;rw[Az]at hp;cases hp
 have jc:H p=none:=by rwa[Am kf]at hp
 obtain⟨L,o⟩:=ok;have k:∀a,H a≠none->(upd (upd H b (.lst [])) p (.lst [.ref b])) a=H a:=λa h=>by rw[Am (λe=>h (by rw[e];exact jc)),Am (λe=>h (by rw[e];exact hb))]
 have l:Le F H F (upd (upd H b (.lst [])) p (.lst [.ref b])):=⟨λa f=>⟨f,k a (o.fd a f)⟩,λa f=>⟨f,k a (o.pd a f)⟩⟩
 refine s F _ (.ref p) l ⟨L,[p,b],⟨o.sl.le l λa m=>k a (o.sl.def a m),o.nd,o.nf,λa f=>by rw[k a (o.fd a f)];exact o.fd a f,o.bo,λa f=>by rw[k a (o.pd a f)];exact o.pd a f,o.pf,o.pl⟩,?_,?_,λa m=>?_⟩
 .simp only[Md,AD,AA];exact⟨p,[.ref b],[b],rfl,Az,⟨.ref b,[],[b],[],rfl,⟨b,[],rfl,by rw[Am kf.symm];exact Az,by simp only[Ag],rfl⟩,⟨rfl,rfl⟩,by simp⟩,rfl⟩
 .rw[qp];refine⟨o.nd,by simp[kf],λa ha c hc e=>?_⟩;subst e;rcases qK.mp hc with rfl|hc
  .exact o.sl.def a ha jc
  .rw[qQ.mp hc]at ha;exact o.sl.def b ha hb
 .rcases qK.mp m with rfl|m
  .exact⟨λf=>o.fd a f jc,λf=>o.pd a f jc⟩
  .rw[qQ.mp m];exact⟨λf=>o.fd b f hb,λf=>o.pd b f hb⟩
noncomputable def Rb(i:Nat):FS->Out Rv:=λfs=>match AM fs i with|some (.z0 os)=>(match os.getLast? with|some o=>.ok (.nw o) (putAt fs i (.z0 os.dropLast))|none=>.bad)|_=>.bad
theorem T6(i:Nat)(hN:X.N[i]?=some x:=by rfl)(hv:Vis X.env.scope x:=by first|exact Or.inl rfl|exact Or.inr (Or.inl rfl)|exact Or.inr (Or.inr rfl))(hd:(x==("__debug__":Str))=false:=by decide)(bD:(x==("__classdict__":Str))=false:=by decide)
  (aB:attributeBase (.Name x p) "pop" X.env (eval (.Name x p) X.env)=eval (.Name x p) X.env:=by rfl) (aC:(ap.endLine==cp.line)=true:=by rfl) :
  FE X Z (.Call (.Attribute (.Name x p) "pop" ap) [] [] cp) (Rb i):=by
 refine A5 (Rj plainAttrs_list slot_list_pop type_list_pop Nk (pv i hN hv hd bD) aB aC) λU H Q ai=>?_
 obtain⟨F,B,fs,ok,s⟩:= ai;unfold Rb at s;split at s
 .rename_i os eo;split at s
  .rename_i o el;obtain⟨v,L2,a1,a2,a3,a4,a5⟩:=Okk.cut ok eo;simp only[AD]at a2;obtain⟨a,vs,L',rfl,hd,ro,rfl⟩:=a2;have jC:os=os.dropLast++[o]:=by
    obtain⟨b7,h⟩:=List.getLast?_eq_some_iff.mp el |>.imp λ_ h=>h
    rw[h];simp
   rw[jC]at ro;obtain⟨bg,w,M1,M2,rfl,g1,g2,rfl⟩:=AA.snoc ro;have nd:=rk.mp a4;have oY:a∉M1:=λz=>nd.1 (qG _ z)
   have oZ:a∉M2:=λz=>nd.1 (qB _ z)
   have l1:Le F H F (upd H a (.lst bg)):=⟨λb f=>⟨f,Am λz=>(a3 a (by simp)).1 (z▸f)⟩,λb f=>⟨f,Am λz=>(a3 a (by simp)).2 (z▸f)⟩⟩
   obtain⟨rr,l⟩:=a5 (.z0 os.dropLast) (upd H a (.lst bg)) (a::M1) o w M2 (λb hb _=>Am λz=>hb (by rw[z];simp)) (by
    simp only[AD];exact⟨a,bg,M1,rfl,Az,AA.le l1 (λb hb=>Am λz=>oY (z▸hb)) g1,rfl⟩) (AD.le l1 (λb hb=>Am λz=>oZ (z▸hb)) g2) (by
    rw[qY];exact a4) (λb hb=>by rw[qY]at hb;exact hb)
   exact⟨_,a1,.inl ⟨rfl,_,SqL.of hd⟩,a,bg,w,rfl,rfl,hd,s F _ w l rr⟩
  .exact s.elim
 .exact s.elim
noncomputable def UP(i:Nat)(f:FS->Out Rv):FS->SO:=λfs=>match AM fs i with
 |some (.z0 _)=>SO.of (f fs) λr fs=>(match X2 r,AM fs i with|some o,some (.z0 os)=>if os.length<1000 then .nx (putAt fs i (.z0 (os++[o])))else .bad|_,_=>.bad)
 |_=>.bad
theorem Tv(i:Nat)(he:FE X Z e f)(hN:X.N[i]?=some x:=by rfl)(hv:Vis X.env.scope x:=by first|exact Or.inl rfl|exact Or.inr (Or.inl rfl)|exact Or.inr (Or.inr rfl))(hd:(x==("__debug__":Str))=false:=by decide)(bD:(x==("__classdict__":Str))=false:=by decide)
  (aB:attributeBase (.Name x p) "append" X.env (eval (.Name x p) X.env)=eval (.Name x p) X.env:=by rfl)
  (bT:((backTo cp (starEach [e] X.env)).all (λx=>!x.1)&&(backToKw cp (keywordEach [] X.env)).all (λx=>x.1.isSome)&&decide ([e].length+([]:List Keyword).length+(if([]:List Keyword).isEmpty then 0 else 1)<30))=true:=by rfl)
  (aC:(ap.endLine==cp.line)=true:=by rfl) (hs:starEach [e] X.env=[(false,eval e X.env)]:=by rfl) (gB:swapsWith (.Call (.Attribute (.Name x p) "append" ap) [e] [] cp) none pos.line X.env=pure false:=by rfl) :
  GS X Z (.Expr (.Call (.Attribute (.Name x p) "append" ap) [e] [] cp) pos) (UP i f):=by
 refine BS (Jy (Pn plainAttrs_list F.slot_list_append F.type_list_append El (pv i hN hv hd bD) (B5 he DA hs) aB bT aC hs rfl) gB) λD U H ai=>?_
 obtain⟨F,B,fs,ok,s⟩:= ai;unfold UP at s;split at s
 .rename_i qg e0;obtain⟨v,L2,a1,a2,_⟩:=ok.own e0;simp only[AD]at a2;obtain⟨a,vs,L0,rfl,jL,_,_⟩:=a2;refine⟨_,a1,.inl ⟨rfl,_,SqL.of jL⟩,F,B,fs,ok,BB s λr ag F1 H1 u l q s1=>?_⟩;split at s1
  .rename_i o os e1 e2;split at s1
   .rename_i hl;obtain⟨v',gH,L',b1,b2,b3,b4,b5,b6⟩:=RR.put q e2;have ev:v'=.ref a:=by rw[a1]at b1;simpa using b1.symm
    subst ev;simp only[AD]at b2;obtain⟨a',kE,M,ea,ig,ro,rfl⟩:=b2;cases ea;have ky:AD X.K F1 H1 o u L':=by cases r with|t t =>cases e1;simp only[AD];exact b3|nw o'=>cases e1;exact b3|n j=>cases e1
    have iK:=qp.mp b4;have na:a∉M:=(rk.mp iK.1).1;have oX:a∉L':=λz=>iK.2.2 a (by simp) a z rfl
    have l1:Le F1 H1 F1 (upd H1 a (.lst (kE++[u]))):=⟨λb f=>⟨f,Am λz=>(b5 a (by simp)).1 (z▸f)⟩,λb f=>⟨f,Am λz=>(b5 a (by simp)).2 (z▸f)⟩⟩
    obtain⟨bW,l'⟩:=b6 (.z0 (os++[o])) (upd H1 a (.lst (kE++[u]))) (a::(M++L')) (λb hb _=>Am λz=>hb (by rw[z];simp)) (by
     simp only[AD];exact⟨a,_,_,rfl,Az,AA.app (AA.le l1 (λb hb=>Am λz=>na (z▸hb)) ro) (AD.le l1 (λb hb=>Am λz=>oX (z▸hb)) ky),rfl⟩) (by rw[<- qY];exact b4) (λb hb=>by
     rw[<- qY]at hb;exact qC.mp hb)
    exact⟨a,kE,u,rfl,rfl,ig,by rw[AA.len ro,sizeLine_eq];lia,s1 F1 _ U l' bW⟩
   .exact s1.elim
  .exact s1.elim
 .exact s.elim
noncomputable def YR(i:Nat):FS->Out Rv:=λfs=>match AM fs i with|some (.z0 (.lst (t::_)::_))=>okT t fs|_=>.bad
theorem Ua(i:Nat){q1 q2:Pos}{j1 j2:Nat}(hN:X.N[i]?=some x:=by rfl)(hv:Vis X.env.scope x:=by first|exact Or.inl rfl|exact Or.inr (Or.inl rfl)|exact Or.inr (Or.inr rfl))(hd:(x==("__debug__":Str))=false:=by decide)(bD:(x==("__classdict__":Str))=false:=by decide) :
  FE X Z (.Subscript (.Subscript (.Name x p) (.Constant (.int 0) j1 q1) p1) (.Constant (.int 0) j2 q2) p2) (YR i):=by
 refine A5 (MW HH (MW HH (pv i hN hv hd bD) Kt (λ_ _=>rfl)) Kt (λ_ _=>rfl)) λU H Q ai=>?_
 obtain⟨F,B,fs,ok,s⟩:= ai;unfold YR at s;split at s
 next t ts os eo=>obtain⟨v,L2,a1,a2,_⟩:=ok.own eo;simp only[AD,AA]at a2;obtain⟨a,vs,L',rfl,jL,⟨w,r,M1,M2,rfl,⟨b,us,rfl,hb,ru,_⟩,_⟩,_⟩:=a2;simp only[Ag]at ru;obtain⟨u,gU,rfl,ru,_⟩:=ru;exact⟨_,a1,a,_,0,_,rfl,rfl,SqL.of jL,AN (j:=0) rfl,b,_,0,u,rfl,rfl,SqL.of hb,AN (j:=0) rfl,s F H u Le.refl (RR.of ok ru)⟩
 .exact s.elim
end
noncomputable def DK(i:Nat)(f:FS->Out Rv):FS->SO:=λfs=>match fs[i]? with
 |some (some (.own (.z0 os)))=>(match os.getLast? with
  |some (.lst ts)=>SO.of (f (fs.set i none)) λr ag=>(match r,ag[i]? with|.t t,some none=>if ts.length<1000 then .nx (ag.set i (some (.own (.z0 (os.dropLast++[.lst (ts++[t])])))))else .bad|_,_=>.bad)
  |_=>.bad)
 |_=>.bad
theorem Yx{X:Cx}{j:Nat}{q1 q2:Pos}:PE X (.UnaryOp .USub (.Constant (.int 1) j q1) q2) (tC (.int (-1))):=A5 (Vx QU Kt) λU H Q h=>⟨1,rfl,h⟩
section
variable{X:Cx}{Z:Xp}{x:Str}{e:Expr}{f:FS->Out Rv}{p1 p2 p ap cp pos q1 q2:Pos}{j:Nat}
theorem LS(i:Nat)(he:FE X Z e f)(hN:X.N[i]?=some x:=by rfl)(hv:Vis X.env.scope x:=by first|exact Or.inl rfl|exact Or.inr (Or.inl rfl)|exact Or.inr (Or.inr rfl))(hd:(x==("__debug__":Str))=false:=by decide)(bD:(x==("__classdict__":Str))=false:=by decide)
  (aB:attributeBase (.Subscript (.Name x p) (.UnaryOp .USub (.Constant (.int 1) j q1) q2) p1) "append" X.env (eval (.Subscript (.Name x p) (.UnaryOp .USub (.Constant (.int 1) j q1) q2) p1) X.env)=eval (.Subscript (.Name x p) (.UnaryOp .USub (.Constant (.int 1) j q1) q2) p1) X.env:=by rfl)
  (bT:((backTo cp (starEach [e] X.env)).all (λx=>!x.1)&&(backToKw cp (keywordEach [] X.env)).all (λx=>x.1.isSome)&&decide ([e].length+([]:List Keyword).length+(if([]:List Keyword).isEmpty then 0 else 1)<30))=true:=by rfl)
  (aC:(ap.endLine==cp.line)=true:=by rfl) (hs:starEach [e] X.env=[(false,eval e X.env)]:=by rfl) (gB:swapsWith (.Call (.Attribute (.Subscript (.Name x p) (.UnaryOp .USub (.Constant (.int 1) j q1) q2) p1) "append" ap) [e] [] cp) none pos.line X.env=pure false:=by rfl) :
  GS X Z (.Expr (.Call (.Attribute (.Subscript (.Name x p) (.UnaryOp .USub (.Constant (.int 1) j q1) q2) p1) "append" ap) [e] [] cp) pos) (DK i f):=by
 refine BS (Jy (Pn plainAttrs_list F.slot_list_append F.type_list_append El (MW HH (pv i hN hv hd bD) Yx (λ_ _=>rfl)) (B5 he DA hs) aB bT aC hs rfl) gB) λD U H ai=>?_
 obtain⟨F,B,fs,ok,s⟩:= ai;unfold DK at s;split at s
 .rename_i os es;split at s
  .rename_i ts el;obtain⟨L,h⟩:=ok;obtain⟨v,L1,L2,L3,e1,rfl,h1,h2⟩:=h.sl.pick es;obtain⟨u0,rfl,q⟩:=h1;simp only[AD]at q;obtain⟨a,vs,LL,rfl,k7,ro,rfl⟩:=q;have jC:os=os.dropLast++[.lst ts]:=by obtain⟨ys,h⟩:=List.getLast?_eq_some_iff.mp el;rw[h];simp
   rw[jC]at ro;obtain⟨bg,w,M1,M2,rfl,g1,g2,rfl⟩:=AA.snoc ro;simp only[AD]at g2;obtain⟨b,us,rfl,hb,ru,rfl⟩:=g2;have nd:=h.nd;have cV:∀c∈L1++L3,c∉a::(M1++[b]):=λc hc hz=>by
    rw[qp]at nd;rcases qC.mp hc with hc|hc
    .exact nd.2.2 c hc c (qG _ hz) rfl
    .have:=(qp.mp nd.2.1).2.2;exact this c hz c hc rfl
   have gD:(a::(M1++[b])).Nodup:=by rw[qp]at nd;exact(qp.mp nd.2.1).1
   have gF:∀c∈a::(M1++[b]),¬F c/\¬F.p c:=λc m=>⟨h.nf c (qB _ (qG _ m)),h.pl c (qB _ (qG _ m))⟩
   have nk:∀c∈a::(M1++[b]),H c≠none:=λc m=>h.sl.def c (qB _ (qG _ m))
   have iH:Le F H ⟨F.f,λc=>F.p c\/c∈a::(M1++[b])⟩ H:=⟨λc f=>⟨f,rfl⟩,λc f=>⟨.inl f,rfl⟩⟩
   have ok0:Okk X.K ⟨F.f,λc=>F.p c\/c∈a::(M1++[b])⟩ B H (fs.set i none) U:=by
    refine⟨L1++([]++L3),?_,?_,λc m=>?_,h.fd,?_,λc p=>?_,λc f p=>?_,λc m p=>?_⟩
    .have h3:=h2 _ H none (some (.ref a)) [] iH (λ_ _=>rfl) rfl;rwa[Bv e1]at h3
    .exact BU nd qU λc m=>(nomatch m)
    .exact h.nf c (by
      rcases qC.mp m with m|m
      .simp[m]
      .simp only[qV]at m;simp[m])
    .have:=EF.put (i:=i) (s:=none) (v:=some (.ref a)) h.bo (λo eo=>by cases eo) h.sl.len;rwa[Bv e1]at this
    .rcases p with p|p
     .exact h.pd c p
     .exact nk c p
    .rcases p with p|p
     .exact h.pf c f p
     .exact(gF c p).1 f
    .rcases p with p|p
     .exact h.pl c (by
       rcases qC.mp m with m|m
       .simp[m]
       .simp only[qV]at m;simp[m]) p
     .exact cV c (by simpa using m) p
   refine⟨.ref a,e1,a,_,-1,.ref b,rfl,rfl,SqL.of k7,QN bg _,.inl ⟨rfl,us,SqL.of hb⟩,⟨F.f,λc=>F.p c\/c∈a::(M1++[b])⟩,B,fs.set i none,ok0,?_⟩;cases eg:f (fs.set i none)with
   |bad=>rw[eg]at s;exact s.elim
   |exc c τ=>rw[eg]at s;exact Z.mono s iH
   |ok r ag =>
    rw[eg]at s;intro F2 H2 u l2 q2;dsimp only[SO.of]at s;split at s
    .rename_i t e2;split at s
     .rename_i hl;obtain⟨L',M',o2,⟨rfl,rt⟩,eM,qf⟩:=q2;obtain⟨v',K1,K2,K3,e3,rfl,k1,k2⟩:=Ax.pick (Ax.wp (p:=F.p) o2.sl) e2;have ek:K2=[]:=k1;subst ek;have ev:v'=some (.ref a):=by rw[e1]at e3;simpa using e3.symm
      subst ev;have pin:∀c∈a::(M1++[b]),F2.p c/\H2 c=H c:=λc m=>l2.p c (.inr m)
      have nW:H2 b=some (.lst us):=(pin b (by simp)).2.trans hb;have o5:a≠b:=λz=>(rk.mp gD).1 (by rw[z];simp)
      have o7:b∉M1:=λz=>(qp.mp (rk.mp gD).2).2.2 b z b (by simp) rfl
      have gY:∀c∈K1++K3,c∉a::(M1++[b]):=λc hc hz=>o2.pl c (by
       rcases qC.mp hc with hc|hc
       .simp[hc]
       .simp[hc]) (pin c hz).1
      have kp:∀c,c≠b->(upd H2 b (.lst (us++[u]))) c=H2 c:=λc z=>Am z
      have lf:Le ⟨F2.f,F.p⟩ H2 ⟨F2.f,F.p⟩ (upd H2 b (.lst (us++[u]))):=⟨λc f=>⟨f,kp c λz=>o2.pf c f (z▸(pin b (by simp)).1)⟩,λc f=>⟨f,kp c λz=>(gF b (by simp)).2 (z▸f)⟩⟩
      have lt:Le F H ⟨F2.f,F.p⟩ (upd H2 b (.lst (us++[u]))):=⟨λc f=>⟨(l2.f c f).1,(lf.f c (l2.f c f).1).2.trans (l2.f c f).2⟩,λc f=>⟨f,(lf.p c f).2.trans (l2.p c (.inl f)).2⟩⟩
      have pA:AI X.K ⟨F2.f,F.p⟩ (upd H2 b (.lst (us++[u]))) t u:=AI.le lf (AI.wp rt);have og:AD X.K ⟨F2.f,F.p⟩ (upd H2 b (.lst (us++[u]))) (.z0 (os.dropLast++[.lst (ts++[t])])) (.ref a) (a::(M1++[b])):=by simp only[AD];refine⟨a,bg++[.ref b],M1++[b],rfl,by rw[kp a o5,(pin a (by simp)).2];exact k7,AA.app (AA.le lt (λc hc=>by rw[kp c λz=>o7 (z▸hc),(pin c (by simp[hc])).2]) g1) ?_,rfl⟩;simp only[AD];exact⟨b,us++[u],rfl,Az,Ag.app (Ag.le lt ru) (Ag.one pA),rfl⟩
      refine⟨b,us,u,rfl,rfl,nW,by rw[ru.len,sizeLine_eq];lia,s ⟨F2.f,F.p⟩ _ U lt ⟨K1++((a::(M1++[b]))++K3),?_,?_,λc m=>?_,λc f=>?_,?_,λc f=>?_,λc f p=>?_,λc m=>?_⟩⟩
      .have jT:∀c∈K1++K3,c∈K1++([]++K3):=λc m=>by simpa using m
       have h3:=k2 ⟨F2.f,F.p⟩ (upd H2 b (.lst (us++[u]))) (some (.own (.z0 (os.dropLast++[.lst (ts++[t])])))) (some (.ref a)) (a::(M1++[b])) lf (λc m=>kp c λz=>gY c m (by rw[z];simp)) ⟨.ref a,rfl,og⟩;rwa[Bv e3]at h3
      .exact BU o2.nd gD λc m z=>gY c z m
      .rcases qC.mp m with m|m
       .exact o2.nf c (by simp[m])
       .rcases qC.mp m with m|m
        .exact λf=>o2.pf c f (pin c m).1
        .exact o2.nf c (by simp[m])
      .rw[(lf.f c f).2];exact o2.fd c f
      .have:=EF.put (i:=i) (s:=some (.own (.z0 (os.dropLast++[.lst (ts++[t])])))) (v:=some (.ref a)) o2.bo (λo eo=>by cases eo) o2.sl.len;rwa[Bv e3]at this
      .rw[(lf.p c f).2];exact o2.pd c (l2.p c (.inl f)).1
      .exact o2.pf c f (l2.p c (.inl p)).1
      .rcases qC.mp m with m|m
       .exact λp=>o2.pl c (by simp[m]) (l2.p c (.inl p)).1
       .rcases qC.mp m with m|m
        .exact(gF c m).2
        .exact λp=>o2.pl c (by simp[m]) (l2.p c (.inl p)).1
     .exact s.elim
    .exact s.elim
  .exact s.elim
 .exact s.elim
end
noncomputable def WE:List Rv->FS->Out Rv
 | [x],fs=>match(Cu fs x).bind Di with|some ns=>okT (.o (ns.any id)) fs|none=>.bad
 |_,_=>.bad
theorem Xv{K:Fg}{Z:Xp}:Dk K Z (λxs H Q=>∃(l:Addr)(bs:List Bool),xs=[.ref l]/\SqL K H l (bs.map V.o)/\Q (.o (bs.any id)) H) WE:=by
 intro F B H U fs rs vs Q ok q s;unfold WE at s;split at s
 .obtain⟨v,rfl,qq⟩:=Br q;have q:=qq;split at s
  next ns e=>rw[q0]at e;obtain⟨ts,e1,e2⟩:=e;obtain⟨a,us,rfl,hs,r⟩:=Bq ok q e1;rw[EE e2]at r;rw[Ag.bls r]at hs;exact⟨a,ns,rfl,hs,s F H _ Le.refl (RR.of ok rfl)⟩
  .exact s.elim
 .exact s.elim
noncomputable def XD(i:Nat)(f:FS->Out Rv):FS->SO:=λfs=>match fs[i]? with
 |some (some (.val (.str a)))=>SO.of (f fs) λr fs=>(match r with|.t (.str b)=>if a.length+b.length<=big then(match Hi i (.t (.str (a++b))) fs with|some fs=>.nx fs|none=>.bad)else .bad|_=>.bad)
 |_=>.bad
noncomputable def X1(i:Nat)(f:FS->Out Rv):FS->SO:=λfs=>match fs[i]? with
 |some (some (.val (.int a)))=>SO.of (f fs) λr fs=>(match r with|.t (.int b)=>(match Hi i (.t (.int (a-b))) fs with|some fs=>.nx fs|none=>.bad)|_=>.bad)
 |_=>.bad
section
variable{X:Cx}{Z:Xp}{x:Str}{e a:Expr}{es:List Expr}{f:FS->Out Rv}{fa:FS->Out (List Rv)}{p pos ay:Pos}
theorem Xh(hm:X.mg "any"=none)(ha:FA X Z (e::es) fa)(hc:X.calm=true:=by rfl)(hg:Gl X "any":=by rfl)(he:starEach (e::es) X.env=(false,eval e X.env)::starEach es X.env:=by rfl)(az:(backTo pos (starEach es X.env)).any (·.1)=false:=by rfl) :
  FE X Z (.Call (.Name "any" p) (e::es) [] pos) (Ah WE fa):=Er Xv (QE hc) hm boot_any ha hg (by decide) (by decide) he az
theorem Tt(i:Nat)(hN:X.N.Nodup)(hx:Loc X.env.scope x)(he:FE X Z e f)(hi:X.N[i]?=some x:=by rfl)
  (hf:X.fn x=true\/X.env.scope.names.lookup x=some .local:=by first|exact .inl rfl|exact .inr rfl|assumption):GS X Z (.AugAssign (.Name x ay) .Add e pos) (XD i f):=by
 refine BS (MP hN hi hx he To hf) λD U H ai=>?_
 obtain⟨F,B,fs,ok,s⟩:= ai;unfold XD at s;split at s
 .rename_i a ea;obtain⟨L,o⟩:=id ok;obtain⟨v,L1,L2,L3,e1,_,h1,_⟩:=o.sl.pick ea;obtain⟨u,rfl,q,_⟩:=h1;refine⟨u,e1,F,B,fs,ok,BB s λr ag F1 H1 y l q1 s1=>?_⟩;split at s1
  .rename_i b;obtain⟨L,L',o1,⟨_,qb⟩,_⟩:=q1;split at s1
   .rename_i hl;split at s1
    next ax e2=>exact⟨a,b,q,qb,qS hl Dv,s1 F1 H1 _ Le.refl (EI (RR.of (r:=.t (.str (a++b))) ⟨L,o1⟩ rfl) e2)⟩
    .exact s1.elim
   .exact s1.elim
  .exact s1.elim
 .exact s.elim
theorem Tu(i:Nat)(hN:X.N.Nodup)(hx:Loc X.env.scope x)(he:FE X Z e f)(hi:X.N[i]?=some x:=by rfl)
  (hf:X.fn x=true\/X.env.scope.names.lookup x=some .local:=by first|exact .inl rfl|exact .inr rfl|assumption):GS X Z (.AugAssign (.Name x ay) .Sub e pos) (X1 i f):=by
 refine BS (MP hN hi hx he Wk hf) λD U H ai=>?_
 obtain⟨F,B,fs,ok,s⟩:= ai;unfold X1 at s;split at s
 .rename_i a ea;obtain⟨L,o⟩:=id ok;obtain⟨v,L1,L2,L3,e1,_,h1,_⟩:=o.sl.pick ea;obtain⟨u,rfl,q,_⟩:=h1;refine⟨u,e1,F,B,fs,ok,BB s λr ag F1 H1 y l q1 s1=>?_⟩;split at s1
  .rename_i b;obtain⟨L,L',o1,⟨_,qb⟩,_⟩:=q1;split at s1
   next ax e2=>exact⟨a,b,q,qb,s1 F1 H1 _ Le.refl (EI (RR.of (r:=.t (.int (a-b))) ⟨L,o1⟩ rfl) e2)⟩
   .exact s1.elim
  .exact s1.elim
 .exact s.elim
end
section
variable{X:Cx}{Z:Xp}{v v1 v2:Expr}{es:List Expr}{f:FS->Out Rv}{gs:List (FS->Out Rv)}{fp jp:Pos}
end
noncomputable def D5:List Str->List Value->Bool
 | [],[]=>true
 |x::xs,.str y _::vs=>(x==y)&&D5 xs vs
 |_,_=>false
theorem E7:∀{xs:List Str}{vs:List Value},D5 xs vs=true->Vals (xs.map V.str) vs
  | [],[],_=>.nil
  |x::xs,v::vs,h=>by
    cases v<;>first
      | (simp only [D5,qL,beq_iff_eq] at h
         obtain⟨rfl,h⟩:=h;exact .cons ⟨_,rfl⟩ (E7 h))
      |(simp[D5]at h)
  | [],_::_,h=>by simp[D5]at h
  |_::_,[],h=>by simp[D5]at h
noncomputable def Td(K:Fg)(a:Addr)(ts:List Str):Bool:=match K.lookup a with|some o=>(o.cls==.type "tuple")&&(match o.data with|.seq ah _=>decide (ah.size<=1000)&&D5 ts ah.toList|_=>false)|none=>false
theorem Nv{K:Fg}{a:Addr}{ts:List Str}(h:Td K a ts=true)(H:Hp):SqT K H a (ts.map V.str):=by
 unfold Td at h;split at h
 .rename_i o eo;rw[qL,beq_iff_eq]at h;obtain⟨h1,h2⟩:=h;split at h2
  next ah n ed=>rw[qL,decide_eq_true_eq]at h2;exact .inr ⟨o,ah,n,eo,h1,ed,by rw[sizeLine_eq];lia,E7 h2.2⟩
  .cases h2
 .cases h
noncomputable def RE(K:Fg)(x:Str)(ts:List Str):Bool:=match nsIn K mainGlobals x with|some (some (.ref a))=>Td K a ts|_=>false
structure UR(K:Fg)(mg:Str->Option Value)(x:Str)(ts:List Str):Prop where
 ex:∃a,mg x=some (.ref a)/\∀H,SqT K H a (ts.map V.str)
theorem UR.of{K:Fg}{h:Heap}{mg:Str->Option Value}{x:Str}{ts:List Str}(X:K.In h)(G:h.Ns mainGlobals mg)(e:RE K x ts=true):UR K mg x ts:=by
 unfold RE at e;split at e
 next a q=>exact⟨a,mg_of X G q,Nv e⟩
 .cases e
theorem HI(k:Str):∀xs:List Str,inV (.str k) (xs.map V.str)=decide (k∈xs)
 | []=>by simp[inV]
 |x::xs=>by
  have:=HI k xs;unfold inV at this ⊢;rw[qm,si,this];have e:eqV (.str x) (.str k)=decide (k=x):=by
   by_cases h:k=x
   .subst h;simp[eqV]
   .have h':x≠k:=λe=>h e.symm
    simp[eqV,h,h']
  rw[e,rL];simp
noncomputable def inG(neg:Bool)(ts:List Str)(f:FS->Out Rv):FS->Out Rv:=λfs=>(f fs).bnd λr fs=>match r with|.t (.str z)=>okT (.o (if neg then !decide (z∈ts)else decide (z∈ts))) fs|_=>.bad
section
variable{X:Cx}{Z:Xp}{a:Expr}{x:Str}{ts:List Str}{f:FS->Out Rv}{p pos:Pos}
theorem Wr{neg:Bool}{m:Addr}{U:St}{H:Hp}{Q:VK}(hq:∀H,SqT X.K H m (ts.map V.str))(h:tF X.K Z (inG neg ts f) U H Q):tOp (rIn X.K neg) (tF X.K Z f) (tC (.ref m)) U H Q:=by
 obtain⟨F,B,fs,ok,s⟩:=h;refine⟨F,B,fs,ok,AQ s λr ag F1 H1 u l aq rx s1=>?_⟩;split at s1
 next z=>have ru:u=.str z:=rx;subst ru;refine⟨m,ts.map V.str,rfl,.inr (hq H1),rfl,by simp[D9],?_⟩;rw[HI];exact s1 F1 H1 _ Le.refl (RR.of aq rfl)
 .exact s1.elim
theorem WL(g:UR X.K X.mg x ts)(ha:FE X Z a f)(hg:Gl X x:=by rfl)(hd:(x==("__debug__":Str))=false:=by decide):FT X Z (.Compare a [.In] [.Name x p] pos) (asB (inG false ts f)):=by obtain⟨m,hm,hq⟩:=g.ex;exact FN (Hr FR ha (FQ (v:=.ref m) hg hm rfl hd) rfl) λU H Q h=>Wr hq (Jn h)
theorem TQ(g:UR X.K X.mg x ts)(ha:FE X Z a f)(hg:Gl X x:=by rfl)(hd:(x==("__debug__":Str))=false:=by decide):FT X Z (.Compare a [.NotIn] [.Name x p] pos) (asB (inG true ts f)):=by obtain⟨m,hm,hq⟩:=g.ex;exact FN (Hr DB ha (FQ (v:=.ref m) hg hm rfl hd) rfl) λU H Q h=>Wr hq (Jn h)
end
end FL
namespace FL
open PySem PySem.Spec L2 PyProof.Rows
def DI(P:Params)(K:Fg):List DictEntry->List (Str×List Str)->Prop
 | [],[]=>True
 |e::r,kt::tab=>e.hash=PyData.keyHash P kt.1/\(∃t b,e.key=.str kt.1 t/\e.val=.ref b/\Td K b kt.2=true)/\DI P K r tab
 |_,_=>False
noncomputable def tabAt(tab:List (Str×List Str))(k:Str):Option (List Str):=(tab.find? λp=>decide (p.1=k)).map (·.2)
noncomputable def Lj(es:List DictEntry)(tab:List (Str×List Str)):List (Key×Value):=(tab.zip es).map λp=>((.inr p.1.1:Key),p.2.val)
theorem Oc{P:Params}{K:Fg}:∀{es:List DictEntry}{tab:List (Str×List Str)}{k:Str}{ts:List Str},DI P K es tab->tabAt tab k=some ts->∃b,valueAt (Lj es tab) (.inr k:Key)=some (.ref b)/\Td K b ts=true
 | [],[],k,ts,_,e=>by simp[tabAt]at e
 |e::r,kt::tab,k,ts,h,e2=>by
  obtain⟨_,⟨t,b,_,hv,hk⟩,h3⟩:=h;unfold tabAt at e2;rw[sd]at e2;unfold Lj valueAt;rw[List.zip_cons_cons,qm,sd];by_cases q:kt.1=k
  .rw[qE q]at e2;have e3:kt.2=ts:=by simpa using e2
   subst e3;rw[qE (show(Sum.inr kt.1:Key)=Sum.inr k by rw[q])];exact⟨b,by simp[hv],hk⟩
  .rw[qv q]at e2;rw[qv (λz=>q (Sum.inr.inj z))];exact Oc h3 e2
 | [],_::_,_,_,h,_=>h.elim
 |_::_,[],_,_,h,_=>h.elim
theorem IW{prog:Program}{w:World}{K:Fg}:∀{es:List DictEntry}{tab:List (Str×List Str)},DI w.params K es tab->(∀e∈es,∃k,(Bu prog w).is k e.key=true/\e.hash=(Bu prog w).hash k)/\Pairs (Bu prog w) es (Lj es tab)/\(Lj es tab).map (·.1)=tab.map λp=>(.inr p.1:Key)
 | [],[],_=>⟨λe m=>(nomatch m),.nil,rfl⟩
 |e::r,kt::tab,h=>by
  obtain⟨hh,⟨t,b,hk,hv,_⟩,h3⟩:=h;obtain⟨g1,g2,g3⟩:=IW (prog:=prog) h3;refine⟨λx m=>?_,?_,?_⟩
  .rcases qK.mp m with rfl|m
   .exact⟨.inr kt.1,by rw[hk];exact Dn prog w _ _,hh⟩
   .exact g1 x m
  .exact .cons (kv:=((.inr kt.1:Key),e.val)) (by rw[hk];exact Dn prog w _ _) rfl g2
  .show(.inr kt.1:Key)::(Lj r tab).map (·.1)=_;rw[g3];rfl
 | [],_::_,h=>h.elim
 |_::_,[],h=>h.elim
structure UC(w:World)(K:Fg)(mg:Str->Option Value)(x:Str)(tab:List (Str×List Str)):Prop where
 ex:∃a es ep,mg x=some (.ref a)/\K.lookup a=some ⟨.type "dict",none,.dict es ep,#[]⟩/\DI w.params K es.toList tab/\(tab.map λp=>(.inr p.1:Key)).Nodup
theorem YU{X:Cx}{m:Addr}{es:Array DictEntry}{ep:Nat}{tab:List (Str×List Str)}(hK:X.K.lookup m=some ⟨.type "dict",none,.dict es ep,#[]⟩)(he:DI X.w.params X.K es.toList tab)(hn:(tab.map λp=>(.inr p.1:Key)).Nodup) :
  IxR X (λx y H Q=>∃k ts,x=.ref m/\y=.str k/\tabAt tab k=some ts/\∀b,Td X.K b ts=true->Q (.ref b) H):=by
 intro value slice aa s U H x y v u Q I rx ry h hs;obtain⟨k,ts,rfl,rfl,ht,q⟩:=h;obtain rfl:v=Value.ref m:=rx;obtain⟨t,rfl⟩:=ry;obtain⟨g1,g2,g3⟩:=IW (prog:=X.prog) he;have dd:s.heap.DictOf (Bu X.prog X.w) m (Lj es.toList tab):=⟨_,es,ep,I.kIn _ _ hK,⟨rfl,rfl,rfl⟩,rfl,λe me=>g1 e (by simpa using me),g2,by rw[g3];exact hn⟩
 obtain⟨b,hb,oi⟩:=Oc he ht;have hT:s.TypeIs (.ref m) "dict":=dd.mapOf.typeIs;have dP:wpAny (model X.prog X.w) X.A (getItem (.ref m) (.str k t)) (EP X aa U Q) X.xe s:=wpAny_getItem_of (Dn X.prog X.w k t) dd.mapOf hb ⟨.ref b,H,I.tok _,rfl,q b oi⟩;unfold subscriptTail;refine qk ?_;rw[getitemInPython_of_ne hT.not_modules];refine qk (wpAny_specialOf hT PySem.F.slot_dict_getitem.lookup ?_);have aV:wpAny (model X.prog X.w) X.A (subscripted slice false (.ref m) (.str k t)) (λr aN=>wpAny (model X.prog X.w) X.A (letTemporaryGo value (.ref m) r >>= λ_=>pure r) (EP X aa U Q) X.xe aN) X.xe s:=by rw[hs];exact wpAny_operating (wpAny_mono dP (λr aN c9=>qk (wpAny_letTemporaryGo (qI c9))) λ_ _ x=>x)
 first
  |exact qI (qk aV)
  |exact qk (qI (qk aV))
  |exact qk aV
noncomputable def inB(neg:Bool)(tab:List (Str×List Str))(fa fb:FS->Out Rv):FS->Out Rv:=λfs=>(fa fs).bnd λr fs=>match r with
 |.t (.str z)=>(fb fs).bnd λr' fs=>(match r' with|.t (.str k)=>(match tabAt tab k with|some ts=>okT (.o (if neg then !decide (z∈ts)else decide (z∈ts))) fs|none=>.bad)|_=>.bad)
 |_=>.bad
section
variable{X:Cx}{Z:Xp}{a b:Expr}{x:Str}{tab:List (Str×List Str)}{fa fb:FS->Out Rv}{p p2 pos:Pos}
theorem TR(g:UC X.w X.K X.mg x tab)(ha:FE X Z a fa)(hb:FE X Z b fb)(hs:HX b)(hm:behindInMarks .NotIn (.Subscript (.Name x p) b p2)=false:=by rfl)(hg:Gl X x:=by rfl)(hd:(x==("__debug__":Str))=false:=by decide) :
  FT X Z (.Compare a [.NotIn] [.Subscript (.Name x p) b p2] pos) (asB (inB true tab fa fb)):=by
 obtain⟨m,es,ep,h1,h2,h3,h4⟩:=g.ex;refine FN (Hr DB ha (MW (YU h2 h3 h4) (FQ (v:=.ref m) hg h1 rfl hd) hb hs) hm) λU H Q h=>?_
 obtain⟨F,B,fs,ok,s⟩:=Jn h;refine⟨F,B,fs,ok,AQ s λr ag F1 H1 u l aq rx s1=>?_⟩;split at s1
 .rename_i z;have ru:u=.str z:=rx;subst ru;refine⟨F1,B,ag,aq,AQ s1 λr' ax F2 H2 u' l2 aG ry s2=>?_⟩;split at s2
  .rename_i k;have ru:u'=.str k:=ry;subst ru;split at s2
   next ts et=>refine⟨k,ts,rfl,rfl,et,λb hb=>⟨b,ts.map V.str,rfl,.inr (Nv hb H2),rfl,by simp[D9],?_⟩⟩;rw[HI];exact s2 F2 H2 _ Le.refl (RR.of aG rfl)
   .exact s2.elim
  .exact s2.elim
 .exact s1.elim
end
theorem Xd{X:Cx}{Z:Xp}{a b:Expr}{fa fb:FS->Out Rv}{pos:Pos}(hu:X.A.units+61<cLine)(ha:FE X Z a fa)(hb:FE X Z b fb):FE X Z (.Compare a [.Eq] [b] pos) (Ad (KQ false) fa fb):=N3 (Nd false hu) Rn ha hb (DZ _)
theorem WM{X:Cx}{Z:Xp}{a b:Expr}{fa fb:FS->Out Rv}{pos:Pos}(hu:X.A.units+61<cLine)(ha:FE X Z a fa)(hb:FE X Z b fb):FT X Z (.Compare a [.Eq] [b] pos) (asB (Ad (KQ false) fa fb)):=D2 (Nd false hu) Rn ha hb (DZ _)
end FL
namespace FL
open PySem PySem.Spec L2
section
variable{K:Fg}{X:Cx}{Z:Xp}{a b e:Expr}{es:List Expr}{fa fb:FS->Out Rv}{fl:FS->Out (List Rv)}{p pos:Pos}
end
section
variable{X:Cx}{Z:Xp}{x a a2:Str}{v w:Expr}{f g:FS->Out Rv}{j j2:Nat}{np au cp fp pQ pV jp pos:Pos}
end
noncomputable def NQ:Rv->Rv->FS->Out Rv
 |.t .l,.t .l,fs=>okT (.o false) fs
 |.t (.zS _),.t .l,fs=>okT (.o true) fs
 |_,_,_=>.bad
theorem SH{K:Fg}{Z:Xp}:OpF K Z (λx y H Q=>y=.l/\Q (.o (!decide (x=.l))) H) NQ:=by
 intro F B H U fs x y u w Q ok rx ry s;unfold NQ at s;split at s
 .cases rx;cases ry;exact⟨rfl,s F H _ Le.refl (RR.of ok rfl)⟩
 .cases ry;simp only[B1,AI]at rx;obtain⟨a,C,rfl,_⟩:=rx;exact⟨rfl,s F H _ Le.refl (RR.of ok rfl)⟩
 .exact s.elim
section
variable{X:Cx}{Z:Xp}{a b:Expr}{fa fb:FS->Out Rv}{pos:Pos}
theorem TN(ha:FE X Z a fa)(hb:FE X Z b fb):FT X Z (.Compare a [.IsNot] [b] pos) (asB (Ad NQ fa fb)):=D2 SH SD ha hb (DZ _)
end
end FL
namespace FL
open PySem PySem.Spec L2 PyProof.Rows
section
variable{X:Cx}{Z:Xp}{x:Str}{k p:Nat}{ps:List Str}{Fn:FS->Out Rv}{e o:Expr}{es:List Expr}{fa:FS->Out (List Rv)}{fo f:FS->Out Rv}{pp pos av np au cp fp jp:Pos}{C:Addr}{m:Str}{v:Expr}{a:Str}{j:Nat}
theorem LR(c:X8 X.K X.mg x)(l:LkD X Z)(hc:X.calm=true)(ha:FE X Z v f)(hl:a.length<=1000:=by decide)(hg:Gl X x:=by rfl)(aQ:(x==("__debug__":Str))=false:=by decide)
  (he:starEach [(.JoinedStr [.FormattedValue v 114 none fp,.Constant (.str a) j cp] jp:Expr)] X.env=[(false,eval (.JoinedStr [.FormattedValue v 114 none fp,.Constant (.str a) j cp] jp) X.env)]:=by rfl) :
  GS X Z (.Raise (some (.Call (.Name x np) [.JoinedStr [.FormattedValue v 114 none fp,.Constant (.str a) j cp] jp] [] au)) none pos) (Ej x f):=by
 obtain⟨C,h1,h2,h3⟩:=c.ex;refine BS (Hs (C:=C) (Z:=EZ X.K Z) ⟨h1,h3⟩ l.d.ex hc l.k (B5 (VC ha hl) DA he) hg aQ he rfl) λD U H ai => ?_
 obtain⟨F,B,fs,ok,s⟩:= ai;refine⟨F,B,fs,ok,BB s λr ag F1 H1 u l q s1=>?_⟩;split at s1
 .rename_i z;split at s1
  next hz=>have z9:=q.ok;obtain⟨L,L',_,⟨_,qu⟩,_⟩:=q;have eu:u=.str z:=qu;subst eu;exact⟨z,rfl,hz,λr'=>⟨by simp,F1,B,ag,x,C,h2,rfl,z9,s1⟩⟩
  .exact s1.elim
 .exact s1.elim
end
noncomputable def ZT:Rv->Option Int->Option Int->FS->Out Rv:=λx lo hi fs=>match x with|.t (.str z)=>if(Txt.slice z lo hi).length<=big then okT (.str (Txt.slice z lo hi)) fs else .bad|_=>.bad
noncomputable def slS(f:FS->Out Rv)(l h:FS->Out (Option Int)):FS->Out Rv:=λfs=>(f fs).bnd λx fs=>(l fs).bind λlo fs=>(h fs).bind λhi fs=>ZT x lo hi fs
section
variable{X:Cx}{Z:Xp}{e:Expr}{lo hi:Option Expr}{f:FS->Out Rv}{l h:FS->Out (Option Int)}{pos p2:Pos}
theorem WW(he:FE X Z e f)(hl:FP X Z lo l)(hu:FP X Z hi h):FE X Z (.Subscript e (.Slice lo hi none p2) pos) (slS f l h):=by
 refine A5 (Kr U8 he hl hu) λU H Q ai => ?_
 obtain⟨F,B,fs,ok,s⟩:= ai;refine⟨F,B,fs,ok,AQ s λx ag F1 H1 u l1 aq rx s1=>⟨F1,B,ag,aq,AL s1 λlo ax F2 H2 kq l2 q2 s2=>?_⟩⟩;obtain⟨aG,rfl⟩:=q2;refine⟨F2,B,ax,aG,AL s2 λhi dk F3 H3 fh l3 q3 s3=>?_⟩;obtain⟨cH,rfl⟩:=q3;have iQ:=(rx.le l2).le l3;unfold ZT at s3;split at s3
 .rename_i z;split at s3
  next hz=>have eu:u=.str z:=iQ;subst eu;exact⟨z,rfl,by rw[sizeLine_eq];exact qS hz (by decide),s3 F3 H3 _ Le.refl (RR.of cH rfl)⟩
  .exact s3.elim
 .exact s3.elim
end
end FL
namespace Sy
open PySem PySem.Spec L2 FL
abbrev xrs:List Str:=["BadCount","BadText"]
abbrev xds:List Str:=["BadCount","BadKind","BadName","BadText","Groundless","NoFunction","NoKind","NoMaker","NoName","NoPlace","NoSaying","NotLess","NotShown","SayError","TooLong","Twice"]
noncomputable def Hf(c d:Str):Bool:=c==d||d == "SayError"
abbrev Bz:List Str:=["(",")",","," "]
abbrev Cc:List (Str×List Str):=[("start",["word"]),("word",["(",")",",","end"]),("(",["word",")"]),(")",[")",",","end"]),(",",[" "]),(" ",["word"])]
noncomputable def top(i:Nat):Stmt:=PySem.Challenge.pw_stairsay_k73_texts_refused.main.body.getD i (.Pass ⟨0,0,0,0⟩)
structure Tx(w:World)(K:Fg)(mg:Str->Option Value)(ae:Addr):Prop where
 zK:mg "ValueError"=none
 zk:mg "all"=none
 zj:mg "any"=none
 zi:mg "int"=none
 zR:mg "isinstance"=none
 zh:mg "len"=none
 zy:mg "list"=none
 zg:mg "min"=none
 zE:mg "range"=none
 zD:mg "reversed"=none
 zf:mg "sum"=none
 zt:mg "tuple"=none
 ze:mg "zip"=none
 zA:∃t,mg "LETTERS"=some (.str ("abcdefghijklmnopqrstuvwxyz":Str) t)
 zJ:∃t,mg "MOST_KINDS"=some (.int 4 t)
 zP:∃t,mg "MOST_LETTERS"=some (.int 12 t)
 zM:∃t,mg "MOST_MAKERS"=some (.int 4 t)
 zI:∃t,mg "MOST_PARTS"=some (.int 2 t)
 zH:Cls K ae
 zW:Dj K ae "home_by_maker"
 zY:Dj K ae "makers_by_kind"
 zX:Dj K ae "parts_by_maker"
 Cc:UC w K mg "BEHIND" Cc
 Bz:UR K mg "MARKS" Bz
 xt:Jp K mg xrs xds Hf
noncomputable def EC:FS->SO :=
  (Av (Ay 3 (Ah Qd (Ac (BR false [none,some 0] (PR (Ac (Ab 1) (Ac (Ah GH (Ac (Ah Bd (Ac (Ab 0) Ai)) (Ac (gc (.int 63)) Ai))) (Ac (Ab 2) Ai)))) (tgN 0) Dy (Ad A1 (Ab 1) (fz (Ab 0)))) Ai)))
  (Av (Ay 4 (As Cq Ai))
  (Av (Ay 5 (Ad Bk (Ab 3) (gc (.int 2147483629))))
  (Av (Ay 6 (Ad CP (Ab 3) (gc (.int 2))))
  (Av (Dd (GF (Ac (gc (.int 150)) Ai)) (tgN 7) (Av (Ay 5 (Ad Bk (Ad Ao (Ad Ao (Ad Bm (Ab 5) (Ab 5)) (Ab 3)) (Ab 7)) (gc (.int 2147483629))))
  (Av (AS (AH Dc (Ab 4) (Ac (Ad Bk (Ad A1 (As A4 (Ac (fz (Ab 6)) (Ac (Ad Bk (Ad Bm (Ab 5) (Ab 5)) (gc (.int 2147483587))) Ai))) (Ad Bk (Ab 3) (gc (.int 2)))) (gc (.int 1000003))) Ai)))
  (Ay 6 (Ad CP (Ab 6) (gc (.int 1000003)))))))
  (retS (ZK (Ab 4))))))))
noncomputable def BM:FS->Out Rv:=B2 5 (EC)
noncomputable def Fw:FS->SO :=
  (Av (Ay 2 (gc (.str ("abcdefghijklmnopqrstuvwxyz":Str))))
  (Av (Ay 3 (Ad Bm (Ad Ao (Ad Ao (Ad Bm (Ab 0) (Ab 0)) (Ab 0)) (gc (.int 1))) (gc (.int 982451653))))
  (Av (Ay 4 (Ad Ao (gc (.int 1)) (Ad Bk (Ab 3) (gc (.int 12)))))
  (Av (Ay 5 (Ad Bk (Ad CP (Ab 3) (gc (.int 12))) (Ab 4)))
  (Av (Ay 6 (BR false [none,some 2,some 3] (GF (Ac (Ab 4) Ai)) (tgN 0) Dy (Ad A1 (Ab 1) (Ad Bk (Ad Ao (Ad CP (Ab 2) (Ad Ao (Ab 0) (gc (.int 5)))) (Ad Bm (Ab 0) (Ab 0))) (gc (.int 26))))))
  (Av (Ay 7 (Ad A1 (As A4 (Ac (gc (.int 1)) (Ac (gc (.int 3)) (Ac (gc (.int 5)) (Ac (gc (.int 7)) (Ac (gc (.int 9)) (Ac (gc (.int 11)) Ai))))))) (Ad Bk (Ad CP (Ab 3) (gc (.int 144))) (gc (.int 6)))))
  (Av (Ay 8 (As Cq Ai))
  (Av (Dd (GF (Ac (Ab 1) Ai)) (tgN 9) (Av (Ay 10 (Ad A1 (Ab 2) (Ad Bk (Ad Ao (Ad CP (Ab 3) (gc (.int 864))) (Ad Bm (Ab 9) (Ab 7))) (gc (.int 26)))))
  (ifS (asB (Ad (gEq false) (Ad Bk (Ad CP (Ab 3) (gc (.int 900))) (gc (.int 3))) (gc (.int 1)))) (AS (AH Dc (Ab 8) (Ac (Ad Bm (Ad A1 (Ab 6) (gc (.int 0))) (Ad Ao (Ad Bk (Ad Ao (Ab 9) (Ad CP (Ab 3) (gc (.int 7)))) (gc (.int 12))) (gc (.int 1)))) Ai))) (AS (AH Dc (Ab 8) (Ac (Ad Ao (Ad Ao (fz (D8 Eo (gc (.str ("":Str))) (Ac (slF (Ab 6) noP (AV (Ab 5))) Ai))) (Ab 10)) (fz (D8 Eo (gc (.str ("":Str))) (Ac (slF (Ab 6) (AV (Ad Ao (Ab 5) (gc (.int 1)))) noP) Ai)))) Ai))))))
  (retS (Ab 8))))))))))
noncomputable def BO:FS->Out Rv:=B2 9 (Fw)
noncomputable def DX:FS->SO :=
  (Av (ifS (asB (Ad gLt (Ab 1) (Ah Bd (Ac (Ab 0) Ai)))) (retS (Ad A1 (Ab 0) (fz (Ab 1)))) nxS)
  (retS (gc (.int 0))))
noncomputable def A7:FS->Out Rv:=B2 0 (DX)
noncomputable def Dt:FS->SO :=
  (Av (Ay 4 (Ad A1 (As A4 (Ac (gc (.int 0)) (Ac (gc (.int 1)) (Ac (gc (.int 1)) (Ac (gc (.int 2)) Ai))))) (Ad Bk (fz (AH Fc (Ab 3) Ai)) (gc (.int 4)))))
  (Av (Ay 5 (As A4 (Ac (fz (AH Fc (Ab 3) Ai)) (Ac (fz (AH Fc (Ab 3) Ai)) Ai))))
  (Av (Ay 6 (Ah Bd (Ac (Ab 0) Ai)))
  (Av (ifS (Ih (Ab 2)) (Ay 6 (fz (Ab 1))) nxS)
  (Av (ifS (asB (Ad (gEq false) (Ab 6) (gc (.int 0)))) (retS (As Ba Ai)) nxS)
  (retS (Ah BK (Ac (BR false [none,some 0,some 6,some 5] (GF (Ac (Ab 4) Ai)) (tgN 0) Dy (Ad A1 (Ab 1) (Ad Bk (Ad A1 (Ab 3) (fz (Ab 0))) (Ab 2)))) Ai))))))))
noncomputable def BE:FS->Out Rv:=B2 3 (Dt)
noncomputable def Fy:FS->SO :=
  (Av (Ay 1 (Ah (Ak 3 BM) (Af (fz (Ab 0)) (Af (gc (.int 0)) (Af (gc (.int 3)) Ai)))))
  (Av (Ay 2 (Ad A1 (As A4 (Ac (gc (.int 1)) (Ac (gc (.int 2)) (Ac (gc (.int 3)) (Ac (gc (.int 2)) (Ac (gc (.int 1)) (Ac (gc (.int 4)) (Ac (gc (.int 2)) (Ac (gc (.int 3)) Ai))))))))) (Ad Bk (fz (AH Fc (Ab 1) Ai)) (gc (.int 8)))))
  (Av (Ay 3 (fz (Ah (Ak 2 BO) (Af (fz (Ah (Ak 2 A7) (Af (fz (Ab 0)) (Af (gc (.int 0)) Ai)))) (Af (fz (Ab 2)) Ai)))))
  (Av (Ay 4 (fz (Ah (Ak 2 BO) (Af (fz (Ah (Ak 2 A7) (Af (fz (Ab 0)) (Af (gc (.int 1)) Ai)))) (Af (gc (.int 12)) Ai)))))
  (Av (Ay 5 (As Cq Ai))
  (Av (Ay 6 (gc (.int 0)))
  (Av (Dd (GF (Ac (Ab 2) Ai)) (tgN 7) (Av (Ay 8 (As Cq Ai))
  (Av (Dd (GF (Ac (Ad Ao (gc (.int 1)) (Ad Bk (fz (AH Fc (Ab 1) Ai)) (Ad A1 (As A4 (Ac (gc (.int 4)) (Ac (gc (.int 3)) Ai))) (Ah EV (Ac (Ad (gEq false) (Ab 2) (gc (.int 4))) Ai))))) Ai)) (tgN 9) (Av (AS (AH Dc (Ab 8) (Ac (As Ba (Ac (Ad A1 (Ab 4) (fz (Ab 6))) (Ac (fz (Ah (Ak 4 BE) (Af (fz (Ab 3)) (Af (fz (Ab 7)) (Af (Ad (gEq false) (Ab 9) (gc (.int 0))) (Af (Ab 1) Ai)))))) Ai))) Ai)))
  (Ay 6 (Ad Ao (Ab 6) (gc (.int 1))))))
  (AS (AH Dc (Ab 5) (Ac (As Ba (Ac (Ad A1 (Ab 3) (fz (Ab 7))) (Ac (fz (Ab 8)) Ai))) Ai))))))
  (retS (Ab 5)))))))))
noncomputable def DS:FS->Out Rv:=B2 9 (Fy)
noncomputable def Dh:FS->SO :=
  (Av (ifS (FZ (asB (chain gLe gLe (gc (.int 1)) (Ah Bd (Ac (Ab 0) Ai)) (gc (.int 12))))) (retS (gc (.o false))) nxS)
  (retS (Ah UK (Ac (BR false [none] (itU (fz (Ab 0))) (tgN 0) Dy (Ad (Dq false) (fz (Ab 0)) (gc (.str ("abcdefghijklmnopqrstuvwxyz":Str))))) Ai))))
noncomputable def A3:FS->Out Rv:=B2 0 (Dh)
noncomputable def CA:FS->SO :=
  (Av (ifS (FZ (asB (chain gLe gLe (gc (.int 1)) (Ah Bd (Ac (Ab 0) Ai)) (gc (.int 4))))) (Km "BadCount" (Ac (gc (.str ("a stock has one to four kinds":Str))) Ai)) nxS)
  (Av (Ay 1 LV)
  (Dd (itU (fz (Ab 0))) (Bo 2 (Ap (tgN 2) (Ap (tgN 3) Bl))) (Av (ifS (FZ (Ih (fz (Ah (Ak 1 A3) (Af (fz (Ab 2)) Ai))))) (λ_=>.bad) nxS)
  (Av (ifS (asB (Ad (Dq false) (fz (Ab 2)) (Ab 1))) (λ_=>.bad) nxS)
  (Av (ifS (FZ (asB (chain gLe gLe (gc (.int 1)) (Ah Bd (Ac (Ab 3) Ai)) (gc (.int 4))))) (λ_=>.bad) nxS)
  (Eh (gc (.o true)) (Ab 1) (fz (Ab 2)))))))))
noncomputable def BX:FS->Out Rv:=B2 3 (CA)
noncomputable def Cz:FS->SO :=
  (Av (ifS (FZ (Ih (fz (Ah (Ak 1 A3) (Af (fz (Ab 0)) Ai))))) (λ_=>.bad) nxS)
  (Av (ifS (asB (Ad (Dq false) (fz (Ab 0)) (Ab 2))) (λ_=>.bad) nxS)
  (Av (ifS (asB (Ad gGt (Ah Bd (Ac (Ab 1) Ai)) (gc (.int 2)))) (λ_=>.bad) nxS)
  (Dd (itU (fz (Ab 1))) (tgN 4) (ifS (asB (Ad (Dq true) (fz (Ab 4)) (Ab 3))) (λ_=>.bad) nxS)))))
noncomputable def Be:FS->Out Rv:=B2 1 (Cz)
noncomputable def Cf:FS->SO :=
  (Dd (itU (fz (Ab 1))) (tgN 3) (ifS (asB (Ad (Dq true) (fz (Ab 3)) (Ab 2))) (λ_=>.bad) nxS))
noncomputable def A6:FS->Out Rv:=B2 1 (Cf)
noncomputable def Ce:FS->SO :=
  (Av (Ay 1 (BR false [none,none] (itU (fz (Ab 0))) (Bo 2 (Ap (tgN 0) (Ap (tgN 1) Bl))) Dy (fz (Ab 0))))
  (Av (Ay 2 (As Cq Ai))
  (Av (Ay 3 LV)
  (Dd (itU (fz (Ab 0))) (Bo 2 (Ap (tgN 4) (Ap (tgN 5) Bl))) (Av (Ay 6 (Ad A1 (Ad A1 (Ab 5) (gc (.int 0))) (gc (.int 0))))
  (Av (Dd (itU (fz (Ab 5))) (Bo 2 (Ap (tgN 7) (Ap (tgN 8) Bl))) (Av (AS (Ah (Ak 4 Be) (Af (fz (Ab 7)) (Af (fz (Ab 8)) (Af (Ab 3) (Af (fz (Ab 1)) Ai))))))
  (Av (ifS (asB (Ad (gEq false) (Ab 7) (Ab 6))) (AS (Ah (Ak 3 A6) (Af (fz (Ab 7)) (Af (fz (Ab 8)) (Af (Ab 2) Ai))))) nxS)
  (Eh (gc (.o true)) (Ab 3) (fz (Ab 7))))))
  (AS (AH Dc (Ab 2) (Ac (fz (Ab 4)) Ai)))))))))
noncomputable def BL:FS->Out Rv:=B2 8 (Ce)
noncomputable def C0(ae:Addr):FS->SO :=
  (Av (AS (Ah (Ak 1 BX) (Af (fz (Ab 1)) Ai)))
  (Av (AS (Ah (Ak 1 BL) (Af (fz (Ab 1)) Ai)))
  (Av (UL ae "makers_by_kind" 0 LV)
  (Av (UL ae "parts_by_maker" 0 LV)
  (Av (UL ae "home_by_maker" 0 LV)
  (Dd (itU (fz (Ab 1))) (Bo 2 (Ap (tgN 2) (Ap (tgN 3) Bl))) (Av (Df ae "makers_by_kind" 0 2 (BR false [none,none] (itU (fz (Ab 3))) (Bo 2 (Ap (tgN 0) (Ap (tgN 1) Bl))) Dy (fz (Ab 0))))
  (Dd (itU (fz (Ab 3))) (Bo 2 (Ap (tgN 4) (Ap (tgN 5) Bl))) (Av (Df ae "parts_by_maker" 0 4 (Ah BK (Ac (Ab 5) Ai)))
  (Df ae "home_by_maker" 0 4 (fz (Ab 2))))))))))))
noncomputable def BV(ae:Addr):FS->Out Rv:=B2 4 (C0 ae)
noncomputable def Ld:FS->SO :=
  (Av (Ay 2 (As A4 Ai))
  (Av (Dd (itU (fz (Ab 1))) (Bo 2 (Ap (tgN 3) (Ap (tgN 4) Bl))) (Ay 2 (fz (Ad Ao (Ab 2) (BR false [none,none] (itU (fz (Ab 4))) (Bo 2 (Ap (tgN 0) (Ap (tgN 1) Bl))) Dy (fz (Ab 0)))))))
  (retS (As Ba (Ac (fz (Ab 2)) (Ac (fz (Ah (Ak 2 BO) (Af (fz (Ah (Ak 2 A7) (Af (fz (Ab 0)) (Af (gc (.int 2)) Ai)))) (Af (gc (.int 5)) Ai)))) Ai))))))
noncomputable def Es:FS->Out Rv:=B2 3 (Ld)
noncomputable def B9(rec:FS->Out Rv):FS->SO :=
  (Av (Ay 4 (fz (AH Fc (Ab 2) Ai)))
  (Av (Ay 5 (Ad Ao (Ab 1) (Ab 0)))
  (Av (ifS (orT (asB (Ad (gEq false) (Ab 3) (gc (.int 0)))) (asB (Ad (gEq false) (Ad Bk (Ab 4) (gc (.int 5))) (gc (.int 0))))) (retS (As Ba (Ac (gc (.str ("name":Str))) (Ac (Ad A1 (Ab 5) (Ad Bk (Ad CP (Ab 4) (gc (.int 5))) (Ah Bd (Ac (Ab 5) Ai)))) Ai)))) nxS)
  (Av (Ay 6 (As Cq Ai))
  (Av (Dd (GF (Ac (Ad A1 (As A4 (Ac (gc (.int 0)) (Ac (gc (.int 1)) (Ac (gc (.int 2)) (Ac (gc (.int 3)) (Ac (gc (.int 1)) (Ac (gc (.int 2)) Ai))))))) (Ad Bk (Ad CP (Ab 4) (gc (.int 5))) (gc (.int 6)))) Ai)) (tgN 7) (AS (AH Dc (Ab 6) (Ac (fz (Ah (Ak 4 rec) (Af (fz (Ab 0)) (Af (fz (Ab 1)) (Af (Ab 2) (Af (Ad EU (Ab 3) (gc (.int 1))) Ai)))))) Ai))))
  (Av (Ay 8 (Ad A1 (Ab 5) (Ad Bk (Ad CP (Ab 4) (gc (.int 30))) (Ah Bd (Ac (Ab 5) Ai)))))
  (Av (ifS (asB (Ad (Dq false) (fz (Ab 8)) (Ab 0))) (retS (As Ba (Ac (gc (.str ("make":Str))) (Ac (fz (Ab 8)) (Ac (Ah BK (Ac (Ab 6) Ai)) Ai))))) nxS)
  (retS (As Ba (Ac (gc (.str ("call":Str))) (Ac (fz (Ab 8)) (Ac (Ah BK (Ac (Ab 6) Ai)) Ai))))))))))))
noncomputable def AZ:Nat->FS->Out Rv
 |0=>λ_=>.bad
 |n+1=>B2 5 (B9 (AZ n))
noncomputable def HV(rec:FS->Out Rv):FS->SO :=
  (Av (ifS (asB (Ad (gEq false) (Ad A1 (Ab 0) (gc (.int 0))) (gc (.str ("name":Str))))) (retS (Ad A1 (Ab 0) (gc (.int 1)))) nxS)
  (retS (Ad Ao (Ad Ao (Ad Ao (Ad A1 (Ab 0) (gc (.int 1))) (gc (.str ("(":Str)))) (fz (D8 Eo (gc (.str (", ":Str))) (Ac (BR false [none] (itU (Ad A1 (Ab 0) (gc (.int 2)))) (tgN 0) Dy (fz (Ah (Ak 1 rec) (Af (fz (Ab 0)) Ai)))) Ai)))) (gc (.str (")":Str))))))
noncomputable def Cs:Nat->FS->Out Rv
 |0=>λ_=>.bad
 |n+1=>B2 0 (HV (Cs n))
noncomputable def E4:FS->SO :=
  (Av (Ay 2 (Ad Bk (Ab 1) (gc (.int 5))))
  (Av (Ay 3 (Ad CP (Ab 1) (gc (.int 5))))
  (Av (Ay 4 (Ad Bk (Ab 3) (Ad Ao (Ah Bd (Ac (Ab 0) Ai)) (gc (.int 1)))))
  (Av (Ay 5 (Ad A1 (gc (.str ("(), abcxyzABZ019.;_-[]{}'":Str))) (Ad Bk (Ad CP (Ab 3) (gc (.int 7))) (gc (.int 25)))))
  (Av (ifS (asB (Ad (gEq false) (Ab 2) (gc (.int 0)))) (retS (Ad Ao (Ad Ao (slS (Ab 0) noP (AV (Ab 4))) (Ab 5)) (slS (Ab 0) (AV (Ab 4)) noP))) nxS)
  (Av (ifS (asB (Ad (gEq false) (Ab 2) (gc (.int 1)))) (retS (Ad Ao (slS (Ab 0) noP (AV (Ab 4))) (slS (Ab 0) (AV (Ad Ao (Ab 4) (gc (.int 1)))) noP))) nxS)
  (Av (ifS (asB (Ad (gEq false) (Ab 2) (gc (.int 2)))) (retS (Ad Ao (Ad Ao (slS (Ab 0) noP (AV (Ab 4))) (Ab 5)) (slS (Ab 0) (AV (Ad Ao (Ab 4) (gc (.int 1)))) noP))) nxS)
  (Av (ifS (asB (Ad (gEq false) (Ab 2) (gc (.int 3)))) (Av (Ay 6 (As A4 (Ac (gc (.str (", ":Str))) (Ac (gc (.str ("()":Str))) (Ac (gc (.str ("(a":Str))) (Ac (gc (.str (")":Str))) (Ac (gc (.str ("( )":Str))) (Ac (gc (.str ("(a,b)":Str))) (Ac (gc (.str ("(a , b)":Str))) (Ac (gc (.str ("(a,  b)":Str))) (Ac (gc (.str ("a ":Str))) (Ac (gc (.str (" ":Str))) (Ac (gc (.str ("aaaaaaaaaaaaa":Str))) (Ac (gc (.str ("(,)":Str))) Ai))))))))))))))
  (retS (Ad Ao (Ad Ao (slS (Ab 0) noP (AV (Ab 4))) (Ad A1 (Ab 6) (Ad Bk (Ad CP (Ab 3) (gc (.int 11))) (gc (.int 12))))) (slS (Ab 0) (AV (Ab 4)) noP)))) nxS)
  (Av (Ay 7 (As A4 (Ac (gc (.str ("":Str))) (Ac (gc (.str (" ":Str))) (Ac (gc (.str ("(":Str))) (Ac (gc (.str (")":Str))) (Ac (gc (.str ("()":Str))) (Ac (gc (.str ("a(":Str))) (Ac (gc (.str ("a)":Str))) (Ac (gc (.str ("a()b":Str))) (Ac (gc (.str ("a b":Str))) (Ac (gc (.str ("a(b":Str))) (Ac (gc (.str ("a(b,)":Str))) (Ac (gc (.str ("a(b, )":Str))) (Ac (gc (.str ("a(, b)":Str))) (Ac (gc (.str ("A":Str))) Ai))))))))))))))))
  (Av (Ay 7 (fz (Ad Ao (Ab 7) (As A4 (Ac (gc (.str ("a(b,c)":Str))) (Ac (gc (.str ("a()()":Str))) Ai))))))
  (retS (Ad A1 (Ab 7) (Ad Bk (Ab 3) (gc (.int 16)))))))))))))))
noncomputable def CF:FS->Out Rv:=B2 6 (E4)
noncomputable def OF:FS->SO :=
  (Av (Ay 2 (fz (Ab 1)))
  (Av (BG (Mc (asB (Ad gLt (Ab 2) (Ah Bd (Ac (Ab 0) Ai)))) (asB (Ad (Dq false) (Ad A1 (Ab 0) (fz (Ab 2))) (gc (.str ("abcdefghijklmnopqrstuvwxyz":Str)))))) (Ay 2 (Ad Ao (Ab 2) (gc (.int 1)))) 1000)
  (retS (slS (Ab 0) (AV (Ab 1)) (AV (Ab 2))))))
noncomputable def Gh:FS->Out Rv:=B2 1 (OF)
noncomputable def Gw(rec:FS->Out Rv):FS->SO :=
  (Av (Ay 3 (fz (Ah (Ak 2 Gh) (Af (fz (Ab 1)) (Af (fz (Ab 2)) Ai)))))
  (Av (ifS (orT (asB (Ad (gEq false) (Ab 3) (gc (.str ("":Str))))) (asB (Ad gGt (Ah Bd (Ac (Ab 3) Ai)) (gc (.int 12))))) (retS (gc .l)) nxS)
  (Av (Ay 2 (Ad Ao (Ab 2) (Ah Bd (Ac (Ab 3) Ai))))
  (Av (ifS (asB (Ad (gEq true) (slS (Ab 1) (AV (Ab 2)) (AV (Ad Ao (Ab 2) (gc (.int 1))))) (gc (.str ("(":Str))))) (retS (As Ba (Ac (As Ba (Ac (gc (.str ("name":Str))) (Ac (fz (Ab 3)) Ai))) (Ac (fz (Ab 2)) Ai)))) nxS)
  (Av (Ay 4 (As Cq Ai))
  (Av (Ay 2 (Ad Ao (Ab 2) (gc (.int 1))))
  (Av (ifS (asB (Ad (gEq true) (slS (Ab 1) (AV (Ab 2)) (AV (Ad Ao (Ab 2) (gc (.int 1))))) (gc (.str (")":Str))))) (Av (Ay 2 (Ad EU (Ab 2) (gc (.int 2))))
  (BG (orT (asB (Ad (KQ false) (Ab 4) (As A4 Ai))) (asB (Ad (gEq false) (slS (Ab 1) (AV (Ab 2)) (AV (Ad Ao (Ab 2) (gc (.int 2))))) (gc (.str (", ":Str)))))) (Av (Ay 5 (fz (Ah (Ak 3 rec) (Af (fz (Ab 0)) (Af (fz (Ab 1)) (Af (Ad Ao (Ab 2) (gc (.int 2))) Ai))))))
  (Av (ifS (asB (Ad (TH false) (Ab 5) (gc .l))) (retS (gc .l)) nxS)
  (Av (AS (AH Dc (Ab 4) (Ac (Ad A1 (Ab 5) (gc (.int 0))) Ai)))
  (Ay 2 (Ad A1 (Ab 5) (gc (.int 1))))))) 1000)) nxS)
  (Av (ifS (asB (Ad (gEq true) (slS (Ab 1) (AV (Ab 2)) (AV (Ad Ao (Ab 2) (gc (.int 1))))) (gc (.str (")":Str))))) (retS (gc .l)) nxS)
  (retS (As Ba (Ac (As Ba (Ac (Ad A1 (As A4 (Ac (gc (.str ("call":Str))) (Ac (gc (.str ("make":Str))) Ai))) (Ah EV (Ac (Ad (Dq false) (fz (Ab 3)) (Ab 0)) Ai))) (Ac (fz (Ab 3)) (Ac (Ah BK (Ac (Ab 4) Ai)) Ai)))) (Ac (Ad Ao (Ab 2) (gc (.int 1))) Ai))))))))))))
noncomputable def BC:Nat->FS->Out Rv
 |0=>λ_=>.bad
 |n+1=>B2 3 (Gw (BC n))
noncomputable def Gv:FS->SO :=
  (Av (Ay 1 (As Cq Ai))
  (Av (Ay 2 (gc (.str ("":Str))))
  (Av (Dd (itU (fz (Ab 0))) (tgN 3) (ifS (asB (inG false Bz (Ab 3))) (Av (AS (AH JT (Ab 1) (Ac (As A4 (Ac (fz (Ab 2)) (Ac (fz (Ab 3)) Ai))) Ai)))
  (Ay 2 (gc (.str ("":Str))))) (XD 2 (Ab 3))))
  (retS (BR false [none] (itU (fz (Ad Ao (Ab 1) (As A4 (Ac (fz (Ab 2)) Ai))))) (tgN 0) (asB (Ad (gEq true) (Ab 0) (gc (.str ("":Str))))) (fz (Ab 0)))))))
noncomputable def CJ:FS->Out Rv:=B2 3 (Gv)
noncomputable def EB:FS->SO :=
  (Av (ifS (asB (inG false Bz (Ab 0))) (retS (Ab 0)) nxS)
  (Av (ifS (FZ (Ih (fz (Ah (Ak 1 A3) (Af (fz (Ab 0)) Ai))))) (Ej "BadText" (Ab 0)) nxS)
  (retS (gc (.str ("word":Str))))))
noncomputable def CK:FS->Out Rv:=B2 0 (EB)
noncomputable def Bx:FS->SO :=
  (Av (Ay 1 (gc (.str ("start":Str))))
  (Av (Dd (itU (fz (Ab 0))) (tgN 2) (Av (Ay 3 (fz (Ah (Ak 1 CK) (Af (fz (Ab 2)) Ai))))
  (Av (ifS (asB (inB true Cc (Ab 3) (Ab 1))) (Ej "BadText" (Ab 2)) nxS)
  (Ay 1 (fz (Ab 3))))))
  (ifS (asB (inB true Cc (gc (.str ("end":Str))) (Ab 1))) (Km "BadText" (Ac (gc (.str ("the text breaks off":Str))) Ai)) nxS)))
noncomputable def Bw:FS->Out Rv:=B2 3 (Bx)
noncomputable def BP:FS->SO :=
  (Av (Ay 1 (gc (.int 0)))
  (Av (Dd (itU (fz (Ab 0))) (tgN 2) (Av (ifS (Mc (asB (Ad (Dq false) (fz (Ab 2)) (As Ba (Ac (gc (.str (")":Str))) (Ac (gc (.str (",":Str))) Ai))))) (asB (Ad (gEq false) (Ab 1) (gc (.int 0))))) (Ej "BadText" (Ab 2)) nxS)
  (Av (ifS (asB (Ad (gEq false) (Ab 2) (gc (.str ("(":Str))))) (X0 1 (gc (.int 1))) nxS)
  (ifS (asB (Ad (gEq false) (Ab 2) (gc (.str (")":Str))))) (X1 1 (gc (.int 1))) nxS))))
  (ifS (asB (Ad gGt (Ab 1) (gc (.int 0)))) (Km "BadText" (Ac (gc (.str ("a bracket isn't closed":Str))) Ai)) nxS)))
noncomputable def BN:FS->Out Rv:=B2 2 (BP)
noncomputable def Cg(ae:Addr):FS->SO :=
  (Av (ifS (asB (Ad (Dq true) (fz (Ab 1)) (UM ae "makers_by_kind" (Ab 0)))) (λ_=>.bad) nxS)
  (retS (Ah NS (Ac (Ad A1 (UM ae "makers_by_kind" (Ab 0)) (fz (Ab 1))) Ai))))
noncomputable def AX(ae:Addr):FS->Out Rv:=B2 0 (Cg ae)
noncomputable def CB(ae:Addr):FS->SO :=
  (retS (Ah NS (Ac (UM ae "makers_by_kind" (Ab 0)) Ai)))
noncomputable def Bf(ae:Addr):FS->Out Rv:=B2 0 (CB ae)
noncomputable def Hc(ae:Addr):FS->SO :=
  (retS (Ah WE (Ac (BR false [none,some 1,some 0] (itU (fz (JM ae "kinds" 1 (Bf ae) (fz (Ab 0)) Ai))) (tgN 0) Dy (Ad (Dq false) (fz (Ab 1)) (fz (IF ae "makers" 2 (AX ae) (fz (Ab 2)) (Af (fz (Ab 0)) Ai))))) Ai)))
noncomputable def CD(ae:Addr):FS->Out Rv:=B2 0 (Hc ae)
noncomputable def Dw(ae:Addr):FS->SO :=
  (retS (As Ba (Ac (ifV (Ih (fz (Ah (Ak 2 (CD ae)) (Af (fz (Ab 0)) (Af (fz (Ab 1)) Ai))))) (gc (.str ("make":Str))) (gc (.str ("call":Str)))) (Ac (fz (Ab 1)) (Ac (fz (Ab 2)) Ai)))))
noncomputable def Bt(ae:Addr):FS->Out Rv:=B2 0 (Dw ae)
noncomputable def Fd(ae:Addr):FS->SO :=
  (Av (Ay 2 (As Cq Ai))
  (Av (Ay 3 SX)
  (Av (Dd (itZ (Ab 1) (fz (Ad Ao (slF (Ab 1) (AV (gc (.int 1))) noP) (As A4 (Ac (gc (.str ("":Str))) Ai))))) (Bo 2 (Ap (tgN 4) (Ap (tgN 5) Bl))) (ifS (asB (Ad (gEq false) (Ab 4) (gc (.str ("(":Str))))) (UP 3 (As Cq Ai)) (ifS (asB (Ad (gEq false) (Ab 4) (gc (.str (")":Str))))) (Av (Ay 6 (Ah BK (Ac (fz (Rb 3)) Ai)))
  (DK 3 (fz (Ah (Ak 3 (Bt ae)) (Af (fz (Ab 0)) (Af (fz (AH Fc (Ab 2) Ai)) (Af (fz (Ab 6)) Ai))))))) (ifS (asB (Ad (gEq false) (Ab 5) (gc (.str ("(":Str))))) (AS (AH Dc (Ab 2) (Ac (fz (Ab 4)) Ai))) (ifS (asB (inG true Bz (Ab 4))) (DK 3 (As Ba (Ac (gc (.str ("name":Str))) (Ac (fz (Ab 4)) Ai)))) nxS)))))
  (retS (YR 3)))))
noncomputable def CY(ae:Addr):FS->Out Rv:=B2 5 (Fd ae)
noncomputable def EA(ae:Addr):FS->SO :=
  (Av (Ay 2 (fz (Ah (Ak 1 CJ) (Af (fz (Ab 1)) Ai))))
  (Av (AS (Ah (Ak 1 Bw) (Af (fz (Ab 2)) Ai)))
  (Av (AS (Ah (Ak 1 BN) (Af (fz (Ab 2)) Ai)))
  (retS (Ah (Ak 2 (CY ae)) (Af (fz (Ab 0)) (Af (fz (Ab 2)) Ai)))))))
noncomputable def BW(ae:Addr):FS->Out Rv:=B2 1 (EA ae)
noncomputable def Fx:FS->SO :=
  (Av (Ay 3 (Ah Qd (Ac (BR false [none,some 0] (PR (Ac (Ab 1) (Ac (Ah GH (Ac (Ah Bd (Ac (Ab 0) Ai)) (Ac (gc (.int 63)) Ai))) (Ac (Ab 2) Ai)))) (tgN 0) Dy (Ad A1 (Ab 1) (fz (Ab 0)))) Ai)))
  (Av (ifS (asB (Ad (gEq false) (Ad Bk (Ab 3) (gc (.int 2))) (gc (.int 0)))) (retS (Ad Bk (Ad CP (Ab 3) (gc (.int 2))) (Ad TB (gc (.int 10)) (gc (.int 60))))) nxS)
  (Av (Ay 4 (Ad Bm (Ad Ao (Ad Ao (Ad Ao (Ad Bm (Ab 3) (Ab 3)) (Ab 3)) (Ab 1)) (gc (.int 1))) (gc (.int 982451653))))
  (retS (Ad Bm (Ad Bk (Ad Bm (Ab 4) (Ab 4)) (Ad Ao (Ad TB (gc (.int 10)) (gc (.int 18))) (gc (.int 9)))) (Ad Ao (Ad Bk (Ab 4) (gc (.int 2147483629))) (gc (.int 7))))))))
noncomputable def DR:FS->Out Rv:=B2 2 (Fx)
noncomputable def L8:FS->SO :=
  (Av (Ay 1 (As A4 (Ac (isX xrs Hf "BadName" (Ab 0)) (Ac (isX xrs Hf "Twice" (Ab 0)) (Ac (isX xrs Hf "BadCount" (Ab 0)) Ai)))))
  (Av (Ay 1 (fz (Ad Ao (Ab 1) (As A4 (Ac (isX xrs Hf "NoKind" (Ab 0)) (Ac (isX xrs Hf "Groundless" (Ab 0)) (Ac (isX xrs Hf "NoMaker" (Ab 0)) Ai)))))))
  (Av (Ay 1 (fz (Ad Ao (Ab 1) (As A4 (Ac (isX xrs Hf "NoName" (Ab 0)) (Ac (isX xrs Hf "NoFunction" (Ab 0)) (Ac (isX xrs Hf "NotLess" (Ab 0)) Ai)))))))
  (Av (Ay 1 (fz (Ad Ao (Ab 1) (As A4 (Ac (isX xrs Hf "BadKind" (Ab 0)) (Ac (isX xrs Hf "TooLong" (Ab 0)) (Ac (isX xrs Hf "NoPlace" (Ab 0)) Ai)))))))
  (retS (Ad Ao (Ab 1) (As A4 (Ac (isX xrs Hf "NotShown" (Ab 0)) (Ac (isX xrs Hf "NoSaying" (Ab 0)) (Ac (isX xrs Hf "BadText" (Ab 0)) Ai))))))))))
noncomputable def DT:FS->Out Rv:=B2 1 (L8)
noncomputable def QK:FS->SO :=
  (Av (ifS (orT (FZ (Ih (isV xrs (Ab 0)))) (asB (Ad (gEq true) (fz (AH Y9 (fz (Ah (Ak 1 DT) (Af (fz (Ab 0)) Ai))) (Ac (gc (.o true)) Ai))) (gc (.int 1))))) (retS (ZR (gc (.int 1)))) nxS)
  (retS (AH Y6 (fz (Ah (Ak 1 DT) (Af (fz (Ab 0)) Ai))) (Ac (gc (.o true)) Ai))))
noncomputable def DQ:FS->Out Rv:=B2 0 (QK)
noncomputable def XC(ae:Addr):FS->SO :=
  (Av (Ay 1 (fz (Ah (Ak 1 DS) (Af (fz (Ab 0)) Ai))))
  (Av (Ay 2 (fz (Ah (IG ae 2 (BV ae)) (Af (fz (Ab 1)) Ai))))
  (Av (XG (fz (Ah (Ak 2 Es) (Af (fz (Ab 0)) (Af (fz (Ab 1)) Ai)))) (Bo 2 (Ap (tgN 3) (Ap (tgN 4) Bl))))
  (Av (Ay 5 (fz (Ah (Ak 4 (AZ 60)) (Af (fz (Ab 3)) (Af (fz (Ab 4)) (Af (Ah (Ak 3 BM) (Af (fz (Ab 0)) (Af (gc (.int 1)) (Af (gc (.int 3)) Ai)))) (Af (gc (.int 3)) Ai)))))))
  (Av (Ay 6 (fz (Ah (Ak 1 (Cs 60)) (Af (fz (Ab 5)) Ai))))
  (Av (Ay 7 (fz (Ah (Ak 2 CF) (Af (fz (Ab 6)) (Af (Ad CP (fz (Ah (Ak 3 DR) (Af (fz (Ab 0)) (Af (gc (.int 2)) (Af (gc (.int 4)) Ai))))) (gc (.int 3))) Ai)))))
  (Av (Ay 8 (fz (Ah (Ak 3 (BC 20)) (Af (fz (Ab 3)) (Af (fz (Ab 7)) (Af (gc (.int 0)) Ai))))))
  (Av (Ay 9 (gc .l))
  (Av (Ay 10 (gc .l))
  (Av (R8 11 (λc=>xrs.contains c&&Hf c "SayError") (Ay 10 (fz (Ah (Ak 2 (BW ae)) (Af (fz (Ab 2)) (Af (fz (Ab 7)) Ai))))) (Ay 9 (fz (Ab 11))))
  (Av (ifS (orT (asB (Ad (TH false) (Ab 8) (gc .l))) (asB (Ad (gEq true) (Ad A1 (Ab 8) (gc (.int 1))) (Ah Bd (Ac (Ab 7) Ai))))) (ifS (asB (Ad (gEq true) (fz (Ah (Ak 1 DQ) (Af (fz (Ab 9)) Ai))) (gc (.int 14)))) (retS (gc (.o false))) nxS) (ifS (orT (asB (Ad NQ (Ab 9) (gc .l))) (asB (Ad (KQ true) (Ab 10) (Ad A1 (Ab 8) (gc (.int 0)))))) (retS (gc (.o false))) nxS))
  (retS (Ad (KQ false) (fz (Ah (Ak 2 (BW ae)) (Af (fz (Ab 2)) (Af (fz (Ab 6)) Ai)))) (Ab 5))))))))))))))
noncomputable def Xl(ae:Addr):FS->Out Rv:=B2 11 (XC ae)
end Sy
namespace Nm
noncomputable def M(c:Int):Int:=(c*c+c+1)*982451653
noncomputable def W(c:Int):Int:=1+M c%12
noncomputable def At(c:Int):Int:=M c/12%W c
noncomputable def Ci(i:Int):Nat:=97+(i%26).toNat
noncomputable def base(c:Int)(j:Nat):Nat:=Ci (M c/((j:Int)+5)+(j:Int)*j)
noncomputable def stepI(c:Int):Nat:=(M c/144%6).toNat
noncomputable def step(c:Int):Int:=([1,3,5,7,9,11]:List Int).getD (stepI c) 1
noncomputable def one(c:Int)(k:Nat):Nat:=Ci (M c/864+(k:Int)*step c)
noncomputable def Ja(c:Int)(k:Nat):List Nat:=List.replicate (((k:Int)+M c/7)%12+1).toNat (base c 0)
noncomputable def GY(c:Int)(k:Nat):List Nat:=(List.range (At c).toNat).map (base c)++[one c k]++(List.range ((W c).toNat-((At c).toNat+1))).map λj=>base c ((At c).toNat+1+j)
noncomputable def codes(c:Int)(k:Nat):List Nat:=if M c/900%3=1 then Ja c k else GY c k
theorem XM(c:Int):1<=W c:=by unfold W;omega
theorem ZE(c:Int):W c<=12:=by unfold W;omega
theorem XO(c:Int):0<=At c:=rT _ (by have:=XM c;omega)
theorem XQ(c:Int):At c<W c:=rK _ (by have:=XM c;omega)
theorem Nt(i:Int):97<=Ci i:=by unfold Ci;omega
theorem Nu(i:Int):Ci i<=122:=by unfold Ci;omega
theorem Kg(c:Int):step c=1\/step c=3\/step c=5\/step c=7\/step c=9\/step c=11:=by
 have h:stepI c<6:=by unfold stepI;omega
 unfold step;generalize stepI c=i at h
 match i,h with|0,_=>simp|1,_=>simp|2,_=>simp|3,_=>simp|4,_=>simp|5,_=>simp
theorem one_inj{c:Int}{k k':Nat}(hk:k<12)(gp:k'<12)(h:one c k=one c k'):k=k':=by
 unfold one Ci at h;have h':((M c/864+(k:Int)*step c)%26)=((M c/864+(k':Int)*step c)%26):=by omega
 generalize M c/864=m at h';rcases Kg c with e|e|e|e|e|e<;>rw[e]at h'<;>omega
theorem DV(c:Int)(k:Nat):(Ja c k).length=(((k:Int)+M c/7)%12+1).toNat:=by unfold Ja;simp
theorem GX(c:Int)(k:Nat):(GY c k).length=(W c).toNat:=by unfold GY;simp only[qA,qw,rG,rQ];have:=XO c;have:=XQ c;omega
theorem K5(c:Int)(k:Nat):1<=(codes c k).length:=by
 unfold codes;split
 .rw[DV];omega
 .rw[GX];have:=XM c;omega
theorem HR(c:Int)(k:Nat):(codes c k).length<=12:=by
 unfold codes;split
 .rw[DV];omega
 .rw[GX];have:=ZE c;omega
theorem Ew(c:Int)(k:Nat):∀x∈codes c k,97<=x/\x<=122:=by
 intro x hx;have key:∃i,x=Ci i:=by
  unfold codes at hx;split at hx
  .unfold Ja at hx;exact⟨_,(List.mem_replicate.mp hx).2⟩
  .unfold GY at hx;rcases qC.mp hx with hx|hx
   .rcases qC.mp hx with hx|hx
    .obtain⟨j,_,rfl⟩:=rh.mp hx;exact⟨_,rfl⟩
    .rw[qQ.mp hx];exact⟨_,rfl⟩
   .obtain⟨j,_,rfl⟩:=rh.mp hx;exact⟨_,rfl⟩
 obtain⟨i,rfl⟩:=key;exact⟨Nt i,Nu i⟩
theorem Ou{c:Int}{k k':Nat}(hk:k<12)(gp:k'<12)(h:codes c k=codes c k'):k=k':=by
 unfold codes at h;split at h
 .have e:=congrArg List.length h;rw[DV,DV]at e;omega
 .unfold GY at h;rw[qT,qT]at h;have h1:=List.append_cancel_left h;rw[List.singleton_append,List.singleton_append]at h1;exact one_inj hk gp (List.cons.inj h1).1
end Nm
namespace Sy
open PySem PySem.Spec L2 FL
theorem AE{g h:FS->SO}{fs aj:FS}(e:g fs=.nx aj):Av g h fs=h aj:=by unfold Av;rw[e]
abbrev vl(t:T):Option Sl:=some (.val t)
abbrev iv(i:Int):Option Sl:=some (.val (.int i))
def Fre:Option Sl->Prop
 |some (.bor _)=>False
 |_=>True
theorem Ar:Fre none:=True.intro
theorem AG{t:T}:Fre (vl t):=True.intro
theorem AY{fs:FS}{i:Nat}{t:T}{x:Option Sl}(e:fs[i]?=some x)(h:Fre x):Hi i (.t t) fs=some (fs.set i (vl t)):=by unfold Hi;rw[e];cases x with|none=>rfl|some s=>cases s with|val t=>rfl|own o=>rfl|bor o=>exact h.elim
theorem DJ{fe:FS->Out Rv}{f:T->T}{rest:FS}:∀(ts:List T)(x:Option Sl)(ao:List T),Fre x->(∀t∈ts,fe (vl t::rest)=.ok (.t (f t)) (vl t::rest))->ao.length+ts.length<=big ->
  ∃y,Fre y/\B0 (tgN 0) Dy fe ts (x::rest) ao=some (ao++ts.map f,y::rest)
 | [],x,ao,hx,_,_=>⟨x,hx,by simp[B0]⟩
 |t::ts,x,ao,hx,h,hl=>by
  obtain⟨y,hy,e⟩:=DJ ts (vl t) (ao++[f t]) AG (λt' m=>h t' (qt _ m)) (by simp at hl ⊢;lia);refine⟨y,hy,?_⟩;have h1:tgN 0 t (x::rest)=some (vl t::rest):=by unfold tgN;rw[AY (x:=x) rfl hx];rfl
  have h2:=h t rg;have h3:ao.length<big:=by simp at hl;lia
  simp only[B0,h1,Dy,h2,if_pos h3,e];simp
theorem Cr{gt:T->FS->Option FS}{body:FS->SO}(P:List T->FS->Prop)(step:∀t ts fs,P (t::ts) fs->∃ag ax,gt t fs=some ag/\body ag=.nx ax/\P ts ax):∀(ts:List T)(fs:FS),P ts fs->∃aj,Cy gt body ts fs=.nx aj/\P [] aj
 | [],fs,h=>⟨fs,rfl,h⟩
 |t::ts,fs,h=>by obtain⟨ag,ax,e1,e2,h2⟩:=step t ts fs h;obtain⟨aj,e,hp⟩:=Cr P step ts ax h2;exact⟨aj,by simp only[Cy,e1,e2,e],hp⟩
theorem Hd:∀ns:List Int,Cw (ns.map T.int)=some ns
 | []=>rfl
 |n::ns=>by simp[Cw,Hd ns]
def IsI(t:T)(ns:List Int):Prop:=t=.z7 (ns.map T.int)\/t=.lst (ns.map T.int)
theorem IsI.seq{t:T}{ns:List Int}(h:IsI t ns)(fs:FS):Cu fs (.t t)=some (ns.map T.int):=by rcases h with rfl|rfl<;>rfl
theorem O5{a j c:Int}{i:Nat}(hc:0<c)(h:i<(Builtin.Range.rangeSize a j c).toNat):a+i*c<j:=by
 unfold Builtin.Range.rangeSize at h;rw[if_pos hc]at h;by_cases haj:a<j
 .rw[if_pos haj]at h;have h2:(i:Int)<=(j-a-1)/c:=by lia
  have h3:=(Int.le_ediv_iff_mul_le hc).mp h2
  lia
 .rw[if_neg haj]at h;simp at h
theorem Kl{a j c:Int}(hc:0<c):0<=Builtin.Range.rangeSize a j c:=by
 unfold Builtin.Range.rangeSize;rw[if_pos hc];by_cases haj:a<j
 .rw[if_pos haj];have:0<=(j-a-1)/c:=Int.ediv_nonneg (by lia) (by lia)
  lia
 .rw[if_neg haj];exact Int.le_refl 0
theorem FK{a j c:Int}(hc:0<c)(h0:0<=a)(h:j<=63):(Builtin.Range.rangeSize a j c).toNat<=63:=by
 unfold Builtin.Range.rangeSize;rw[if_pos hc];by_cases haj:a<j
 .rw[if_pos haj];have:(j-a-1)/c<=j-a-1:=Int.ediv_le_self _ (by lia)
  lia
 .rw[if_neg haj];simp
theorem My{a b c:Int}(a0:0<=a)(a1:a<=1000)(b0:0<=b)(b1:b<=63)(c0:1<=c)(c1:c<=1000):Builtin.Range.small a b c=true:=by
 have h1:=Kl (a:=a) (j:=b) (c:=c) (by lia);have h2:=FK (a:=a) (j:=b) (c:=c) (by lia) a0 b1;unfold Builtin.Range.small;simp only[Builtin.Range.rangeFitsLong,qL,sH,decide_eq_true_eq,beq_iff_eq,show c>0 by lia,if_true]
 lia
section
variable{i j:Int}{fs:FS}
theorem A0:Ao (.t (.int i)) (.t (.int j)) fs=.ok (.t (.int (i+j))) fs:=rfl
theorem RF:EU (.t (.int i)) (.t (.int j)) fs=.ok (.t (.int (i-j))) fs:=rfl
theorem Bj(h:0<j):Bk (.t (.int i)) (.t (.int j)) fs=.ok (.t (.int (i%j))) fs:=if_pos h
theorem C9(h:0<j/\j<1073741824):CP (.t (.int i)) (.t (.int j)) fs=.ok (.t (.int (i/j))) fs:=if_pos h
theorem Ge(h:-(2^64)<i/\i<2^64):Bm (.t (.int i)) (.t (.int j)) fs=.ok (.t (.int (i*j))) fs:=by have e:UI (.t (.int i)) (.t (.int j)) fs=.ok (.t (.int (i*j))) fs:=if_pos (by rw[qE h];rfl);unfold Bm orG;rw[e]
theorem JR(h:Builtin.Int.intBits i<=2^26/\Builtin.Int.intBits j<=2^26):Bm (.t (.int i)) (.t (.int j)) fs=.ok (.t (.int (i*j))) fs:=by have e:UI (.t (.int i)) (.t (.int j)) fs=.ok (.t (.int (i*j))) fs:=if_pos (by rw[qE h.1,qE h.2];simp);unfold Bm orG;rw[e]
end
theorem Bh{x:Rv}{ts:List T}{i:Int}{t:T}{fs:FS}(h:Cu fs x=some ts)(e:atI ts i=some t):A1 x (.t (.int i)) fs=.ok (.t t) fs:=by
 have e':gIx x (.t (.int i)) fs=.ok (.t t) fs:=by simp only[gIx,h,e,okT]
 unfold A1 orG;rw[e']
theorem RG{t:T}{ns:List Int}{i:Int}{fs:FS}(h:IsI t ns)(h0:0<=i)(h1:i<ns.length):A1 (.t t) (.t (.int i)) fs=.ok (.t (.int (ns.getD i.toNat 0))) fs:=by
 refine Bh (h.seq fs) ?_;have e:(ns.map T.int)[i.toNat]?=some (T.int (ns.getD i.toNat 0)):=by
  have:i.toNat<ns.length:=by lia
  simp[this]
 have:=AN e;rwa[sY h0]at this
theorem GN{fs:FS}{j:Nat}:∀{is:List Ini}{k:Nat},(∀i∈is,CV fs i=none)->FL.placeOf fs j is k=none
 | [],_,_=>rfl
 |i::is,k,h=>by simp only[FL.placeOf];rw[h i rg,if_neg (by simp)];exact GN λi' m=>h i' (qt _ m)
theorem Hb{fs:FS}{is:List Ini}{τ:FS}(h:∀i∈is,CV fs i=none):∀(gs:FS)(j:Nat),J6 fs is τ j gs=some gs
 | [],_=>rfl
 |g::gs,j=>by simp only[J6,OE,GN h,Hb h gs (j+1)]
theorem AJ{fs:FS}{is:List Ini}{τ:FS}(h:Cj fs is=[]):Ec is τ fs=some fs:=Hb (List.filterMap_eq_nil_iff.mp h) fs 0
theorem CL{src:List (Option Nat)}{fi:FS->Out (List T)}{gt:T->FS->Option FS}{ft:FS->Out Bool}{fe:FS->Out Rv}{fs aj:FS}{ts vs:List T}{τ:FS}(h1:fi fs=.ok ts fs)(h2:(Cj fs (src.map λo=>o.elim Ini.no Ini.slot)).Nodup/\(src.all λo=>o.elim true λj=>decide (j<fs.length))=true)
  (h3:B0 gt ft fe ts (C8 fs (src.map λo=>o.elim Ini.no Ini.slot)) []=some (vs,τ)) (h4:Ec (src.map λo=>o.elim Ini.no Ini.slot) τ fs=some aj):BR false src fi gt ft fe fs=.ok (.t (.lst vs)) aj:=by
 unfold BR;rw[h1];simp only[Out.bind];rw[if_pos h2,h3];dsimp only;rw[h4];rfl
theorem MJ{a j c:Int}{fs:FS}{fa:FS->Out (List Rv)}(e:fa fs=.ok [.t (.int a),.t (.int j),.t (.int c)] fs)(a0:0<=a)(a1:a<=1000)(b0:0<=j)(b1:j<=63)(c0:1<=c)(c1:c<=1000):PR fa fs=.ok (ON a c (Builtin.Range.rangeSize a j c).toNat) fs:=by unfold PR;rw[e];simp only[Out.bind];exact if_pos ⟨by lia,by lia,My a0 a1 b0 b1 c0 c1,Kl (by lia)⟩
theorem drawn{t:T}{ns:List Int}(ht:IsI t ns){a b:Int}(a0:0<=a)(a1:a<=1000)(b0:1<=b)(b1:b<=1000)(more:FS) :
  ∃zs:List Int,(zs.length<=63/\∀z∈zs,∃i,z=ns.getD i 0)/\Ah Qd (Ac (BR false [none,some 0] (PR (Ac (Ab 1) (Ac (Ah GH (Ac (Ah Bd (Ac (Ab 0) Ai)) (Ac (gc (.int 63)) Ai))) (Ac (Ab 2) Ai)))) (tgN 0) Dy (Ad A1 (Ab 1) (fz (Ab 0)))) Ai) (vl t::iv a::iv b::more)=.ok (.t (.int zs.sum)) (vl t::iv a::iv b::more):=by
 have hj:∃j:Int,0<=j/\j<=63/\j<=ns.length/\(Ac (Ab 1) (Ac (Ah GH (Ac (Ah Bd (Ac (Ab 0) Ai)) (Ac (gc (.int 63)) Ai))) (Ac (Ab 2) Ai))) (vl t::iv a::iv b::more)=.ok [.t (.int a),.t (.int j),.t (.int b)] (vl t::iv a::iv b::more):=by
  refine⟨if(63:Int)<((ns.map T.int).length:Int)then 63 else((ns.map T.int).length:Int),?_,?_,?_,?_⟩
  .split<;>lia
  .split<;>lia
  .rw[qw];split<;>lia
  .rcases ht with rfl|rfl<;>rfl
 obtain⟨j,j0,j1,j2,ej⟩:=hj;have e1:=MJ ej a0 a1 j0 j1 b0 b1;obtain⟨y,hy,e2⟩:=DJ (fe:=Ad A1 (Ab 1) (fz (Ab 0))) (f:=λt'=>match t' with|.int i=>.int (ns.getD i.toNat 0)|_=>.l) (rest:=[vl t]) (ON a b (Builtin.Range.rangeSize a j b).toNat) none [] Ar (λt' m=>by
   unfold ON at m;rw[rh]at m;obtain⟨k,mk,rfl⟩:=m;have hk:=O5 (a:=a) (j:=j) (c:=b) (i:=k) (by lia) (rP.mp mk);have hp:0<=(k:Int)*b:=Int.mul_nonneg (by lia) (by lia);simp only[Av,Ay,AS,retS,nxS,ifS,SO.of,Ad,Ab,gc,fz,Ac,Af,Ai,Ah,As,Ma,Ba,A4,Cq,AH,D8,Out.bnd,Out.bind,Hi,MM,okT,asB,FZ,Mc,orT,Ih,so,rA,sZ,sf,sh,tf,tj,qD,r8,qw,if_true,if_false,rW,FL.AM,FL.putAt,FL.Sl.put,RG ht (i:=a+(k:Int)*b) (by lia) (by lia)]) (by
   have:=FK (a:=a) (j:=j) (c:=b) (by lia) a0 j1;unfold ON;rw[qw,rG];show 0+_<=1000000
   lia)
 have e3:BR false [none,some 0] (PR (Ac (Ab 1) (Ac (Ah GH (Ac (Ah Bd (Ac (Ab 0) Ai)) (Ac (gc (.int 63)) Ai))) (Ac (Ab 2) Ai)))) (tgN 0) Dy (Ad A1 (Ab 1) (fz (Ab 0))) (vl t::iv a::iv b::more)=.ok (.t (.lst _)) (vl t::iv a::iv b::more) :=
  CL e1 ⟨by rw[show Cj (vl t::iv a::iv b::more) _=[]from rfl];exact qU,by simp⟩ e2 (AJ rfl)
 refine⟨(List.range (Builtin.Range.rangeSize a j b).toNat).map λ(k:Nat)=>ns.getD (a+(k:Int)*b).toNat 0,⟨by
  rw[qw,rG];exact FK (a:=a) (j:=j) (c:=b) (by lia) a0 j1,λz m=>by
  rw[rh]at m;obtain⟨k,_,rfl⟩:=m;exact⟨_,rfl⟩⟩,?_⟩
 have e4:(ON a b (Builtin.Range.rangeSize a j b).toNat).map (λt'=>match t' with|.int i=>T.int (ns.getD i.toNat 0)|_=>.l)=((List.range (Builtin.Range.rangeSize a j b).toNat).map λ(k:Nat)=>ns.getD (a+(k:Int)*b).toNat 0).map T.int:=by unfold ON;rw[rm,rm];rfl
 rw[qV,e4]at e3;simp only[Ah,Ac,e3,Out.bnd,Out.bind,Ai,Qd,Cu,rA,Hd,okT]
theorem Mn{n:Nat}:∀t∈FL.upTo 0 n,∃i:Int,t=.int i:=λt m=>by unfold FL.upTo at m;rw[rh]at m;obtain⟨k,_,rfl⟩:=m;exact⟨_,rfl⟩
theorem digits{t:T}{ns:List Int}(ht:IsI t ns){a b:Int}(a0:0<=a)(a1:a<=1000)(b0:1<=b)(b1:b<=1000) :
  ∃ds:List Int,ds.length=150/\BM [vl t,iv a,iv b]=.ok (.nw (.lst (ds.map T.int))) [vl t,iv a,iv b]:=by
 obtain⟨zs,_,e1⟩:=drawn ht a0 a1 b0 b1 [none,none,none,none,none];generalize zs.sum=D at e1;have dI:=Cr (gt:=tgN 7) (body:=(Av (Ay 5 (Ad Bk (Ad Ao (Ad Ao (Ad Bm (Ab 5) (Ab 5)) (Ab 3)) (Ab 7)) (gc (.int 2147483629))))
  (Av (AS (AH Dc (Ab 4) (Ac (Ad Bk (Ad A1 (As A4 (Ac (fz (Ab 6)) (Ac (Ad Bk (Ad Bm (Ab 5) (Ab 5)) (gc (.int 2147483587))) Ai))) (Ad Bk (Ab 3) (gc (.int 2)))) (gc (.int 1000003))) Ai)))
  (Ay 6 (Ad CP (Ab 6) (gc (.int 1000003)))))))
  (λts fs=>∃(ds:List Int)(f r:Int)(x:Option Sl),fs=[vl t,iv a,iv b,iv D,some (.own (.lst (ds.map T.int))),iv f,iv r,x]/\0<=f/\f<2147483629/\ds.length+ts.length=150/\Fre x/\∀t∈ts,∃i:Int,t=.int i) (λt' ts fs h=>?_) (FL.upTo 0 150) [vl t,iv a,iv b,iv D,some (.own (.lst [])),iv (D%2147483629),iv (D/2),none]
  ⟨[],_,_,_,rfl,rT _ (by decide),rK _ (by decide),by simp[FL.upTo],Ar,Mn⟩
 .obtain⟨aj,ef,ds,f,r,x,rfl,_,_,hl,_,_⟩:=dI;refine⟨ds.reverse,by rw[List.length_reverse];simpa using hl,?_⟩;have s1:Ay 3 (Ah Qd (Ac (BR false [none,some 0] (PR (Ac (Ab 1) (Ac (Ah GH (Ac (Ah Bd (Ac (Ab 0) Ai)) (Ac (gc (.int 63)) Ai))) (Ac (Ab 2) Ai)))) (tgN 0) Dy (Ad A1 (Ab 1) (fz (Ab 0)))) Ai)) [vl t,iv a,iv b,none,none,none,none,none]=.nx [vl t,iv a,iv b,iv D,none,none,none,none]:=by unfold Ay;rw[e1];rfl
  have s5:Dd (GF (Ac (gc (.int 150)) Ai)) (tgN 7) (Av (Ay 5 (Ad Bk (Ad Ao (Ad Ao (Ad Bm (Ab 5) (Ab 5)) (Ab 3)) (Ab 7)) (gc (.int 2147483629))))
  (Av (AS (AH Dc (Ab 4) (Ac (Ad Bk (Ad A1 (As A4 (Ac (fz (Ab 6)) (Ac (Ad Bk (Ad Bm (Ab 5) (Ab 5)) (gc (.int 2147483587))) Ai))) (Ad Bk (Ab 3) (gc (.int 2)))) (gc (.int 1000003))) Ai)))
  (Ay 6 (Ad CP (Ab 6) (gc (.int 1000003)))))) [vl t,iv a,iv b,iv D,some (.own (.lst [])),iv (D%2147483629),iv (D/2),none]=.nx [vl t,iv a,iv b,iv D,some (.own (.lst (ds.map T.int))),iv f,iv r,x]:=ef
  have all:EC [vl t,iv a,iv b,none,none,none,none,none]=.ret (.nw (.lst (ds.reverse.map T.int))) [vl t,iv a,iv b,iv D,some (.own (.lst (ds.map T.int))),iv f,iv r,x]:=by
   unfold EC;rw[AE s1,AE (show Ay 4 (As Cq Ai) [vl t,iv a,iv b,iv D,none,none,none,none]=.nx [vl t,iv a,iv b,iv D,some (.own (.lst [])),none,none,none]from rfl),
    AE (show Ay 5 (Ad Bk (Ab 3) (gc (.int 2147483629))) [vl t,iv a,iv b,iv D,some (.own (.lst [])),none,none,none]=.nx [vl t,iv a,iv b,iv D,some (.own (.lst [])),iv (D%2147483629),none,none]from rfl),
    AE (show Ay 6 (Ad CP (Ab 3) (gc (.int 2))) [vl t,iv a,iv b,iv D,some (.own (.lst [])),iv (D%2147483629),none,none]=.nx [vl t,iv a,iv b,iv D,some (.own (.lst [])),iv (D%2147483629),iv (D/2),none]from rfl),AE s5]
   rw[List.map_reverse];rfl
  unfold BM B2;show(match EC [vl t,iv a,iv b,none,none,none,none,none]with|.nx τ=>_|.ret (.t t) τ=>_|.ret (.nw o) τ=>_|.ret (.n i) τ=>_|.exc c τ=>_|_=>_)=_;rw[all];rfl
 .obtain⟨ds,f,r,x,rfl,f0,f1,hl,hx,hi⟩:=h;obtain⟨k,rfl⟩:=hi t' rg;have hg:tgN 7 (.int k) [vl t,iv a,iv b,iv D,some (.own (.lst (ds.map T.int))),iv f,iv r,x]=some [vl t,iv a,iv b,iv D,some (.own (.lst (ds.map T.int))),iv f,iv r,iv k]:=by unfold tgN;rw[AY (x:=x) rfl hx];rfl
  have eA:Ay 5 (Ad Bk (Ad Ao (Ad Ao (Ad Bm (Ab 5) (Ab 5)) (Ab 3)) (Ab 7)) (gc (.int 2147483629))) [vl t,iv a,iv b,iv D,some (.own (.lst (ds.map T.int))),iv f,iv r,iv k]=.nx [vl t,iv a,iv b,iv D,some (.own (.lst (ds.map T.int))),iv ((f*f+D+k)%2147483629),iv r,iv k]:=by simp only[Av,Ay,AS,retS,nxS,ifS,SO.of,Ad,Ab,gc,fz,Ac,Af,Ai,Ah,As,Ma,Ba,A4,Cq,AH,D8,Out.bnd,Out.bind,Hi,MM,okT,asB,FZ,Mc,orT,Ih,so,rA,sZ,sf,sh,tf,tj,qD,r8,qw,if_true,if_false,rW,FL.AM,FL.putAt,FL.Sl.put,Ge (i:=f) (j:=f) ⟨by lia,by lia⟩,A0,Bj (show(0:Int)<2147483629 by decide)]
  have kQ:0<=(f*f+D+k)%2147483629:=rT _ (by decide);have kR:(f*f+D+k)%2147483629<2147483629:=rK _ (by decide);generalize (f*f+D+k)%2147483629=f' at eA kQ kR;have hz:∃z,atI [T.int r,T.int (f'*f'%2147483587)] (D%2)=some (T.int z):=by
   have h:D%2=((0:Nat):Int)\/D%2=((1:Nat):Int):=by lia
   rcases h with h|h
   .rw[h];exact⟨r,AN rfl⟩
   .rw[h];exact⟨_,AN rfl⟩
  obtain⟨z,ez⟩:=hz;have hlen:ds.length<big:=by
   simp at hl;show ds.length<1000000
   lia
  have eB:AS (AH Dc (Ab 4) (Ac (Ad Bk (Ad A1 (As A4 (Ac (fz (Ab 6)) (Ac (Ad Bk (Ad Bm (Ab 5) (Ab 5)) (gc (.int 2147483587))) Ai))) (Ad Bk (Ab 3) (gc (.int 2)))) (gc (.int 1000003))) Ai)) [vl t,iv a,iv b,iv D,some (.own (.lst (ds.map T.int))),iv f',iv r,iv k]=.nx [vl t,iv a,iv b,iv D,some (.own (.lst ((ds++[z%1000003]).map T.int))),iv f',iv r,iv k]:=by simp only[Av,Ay,AS,retS,nxS,ifS,SO.of,Ad,Ab,gc,fz,Ac,Af,Ai,Ah,As,Ma,Ba,A4,Cq,AH,D8,Out.bnd,Out.bind,Hi,MM,okT,asB,FZ,Mc,orT,Ih,so,rA,sZ,sf,sh,tf,tj,qD,r8,qw,if_true,if_false,rW,FL.AM,FL.putAt,FL.Sl.put,Ge (i:=f') (j:=f') ⟨by lia,by lia⟩,Bj (show(0:Int)<2147483587 by decide),Bj (show(0:Int)<2 by decide),Bh (x:=.t (.lst [T.int r,T.int (f'*f'%2147483587)])) rfl ez,Bj (show(0:Int)<1000003 by decide),Cu,Dc,hlen,show(0+1+1<=big)from by decide];simp
  have eC:Ay 6 (Ad CP (Ab 6) (gc (.int 1000003))) [vl t,iv a,iv b,iv D,some (.own (.lst ((ds++[z%1000003]).map T.int))),iv f',iv r,iv k]=.nx [vl t,iv a,iv b,iv D,some (.own (.lst ((ds++[z%1000003]).map T.int))),iv f',iv (r/1000003),iv k]:=rfl;refine⟨_,_,hg,?_,ds++[z%1000003],f',r/1000003,iv k,rfl,kQ,kR,by simp at hl ⊢;lia,AG,λt' m=>hi t' (qt _ m)⟩;rw[AE eA,AE eB];exact eC
noncomputable def nmS(c:Int)(k:Nat):Str:=⟨(Nm.codes c k).toArray⟩
noncomputable def nms(c:Int)(n:Nat):List Str:=(List.range n).map (nmS c)
noncomputable def ABC:Str:="abcdefghijklmnopqrstuvwxyz"
theorem XJ:∀j,j<26->ABC.cps.toList[j]?=some (97+j):=by decide +kernel
theorem OG(x:Int):atI ABC.cps.toList (x%26)=some (Nm.Ci x):=by
 have h:(x%26).toNat<26:=by lia
 have e:=AN (XJ _ h);rw[sY (by lia)]at e;exact e
theorem GO:∀ys:List Str,(Str.join (⟨#[]⟩:Str) ys).cps.toList=(ys.map λy=>y.cps.toList).flatten
 | []=>rfl
 | [x]=>by simp[Str.join]
 |x::y::r=>by have ih:=GO (y::r);show(x++(⟨#[]⟩:Str)++Str.join ⟨#[]⟩ (y::r)).cps.toList=_;show(x.cps++#[]++(Str.join ⟨#[]⟩ (y::r)).cps).toList=_;rw[qm,List.flatten_cons,<- ih];simp
theorem join_ones(f:Nat->Nat)(js:List Nat):(Txt.join (⟨#[]⟩:Str) (js.map λj=>(⟨#[f j]⟩:Str))).cps.toList=js.map f:=by
 show(Builtin.Str.glued _ _).cps.toList=_;rw[StrLaws.glued_eq_join,GO]
 induction js with|nil=>rfl|cons j r ih =>rw[qm,qm,List.flatten_cons,ih,qm];rfl
theorem D6{x y:Str}(h:x.cps.toList=y.cps.toList):x=y:=by
 obtain⟨a⟩:=x;obtain⟨b⟩:=y;have:a=b:=by simpa using h
 rw[this]
theorem Nj(c:Nat)(n:Int)(h0:1<=n):(Txt.mul (⟨#[c]⟩:Str) n).cps.toList=List.replicate n.toNat c:=by
 unfold Txt.mul;rw[if_neg (by lia)];by_cases h1:n=1
 .subst h1;rfl
 .rw[if_neg (by simp[h1,Str.length])];have key:∀(m:Nat)(ao:Array Nat),((List.replicate m #[c]).foldl (·++·) ao).toList=ao.toList++List.replicate m c:=by
   intro m
   induction m with|zero=>intro ao;simp|succ m ih =>intro ao;rw[sU,List.foldl_cons,ih,sU];simp
  have:=key n.toNat #[];simpa using this
theorem De:Str.ofString ""=(⟨#[]⟩:Str):=by decide +kernel
theorem Pt(f:Nat->Nat)(js:List Nat):((js.map λj=>(⟨#[f j]⟩:Str)).map (·.length)).sum=js.length:=by
 induction js with
 |nil=>rfl
 |cons j r ih =>
  rw[qm,qm,List.sum_cons,ih,qD];show 1+r.length=_
  lia
theorem KA(f:Nat->Nat)(js:List Nat):(Txt.join (⟨#[]⟩:Str) (js.map λj=>(⟨#[f j]⟩:Str))).length=js.length:=by have e:=congrArg List.length (join_ones f js);rw[qw]at e;rw[<- e];simp[Str.length]
noncomputable def BZ(c:Int)(n:Nat):List Str:=(List.range n).map λj=>(⟨#[Nm.base c j]⟩:Str)
theorem L5(c:Int)(n k:Nat)(h:k<=n):(BZ c n).take k=BZ c k:=by unfold BZ;rw[<- List.map_take,List.take_range,Nat.min_eq_left h]
theorem L7(c:Int)(n k:Nat):(BZ c n).drop k=(List.range (n-k)).map λj=>(⟨#[Nm.base c (k+j)]⟩:Str):=by
 unfold BZ;rw[<- List.map_drop];apply sI;intro i;rw[qX,qX,List.getElem?_drop];by_cases hi:k+i<n
 .rw[se hi,se (by lia)];rfl
 .rw[rq (by simp;lia),rq (by simp;lia)];rfl
theorem NR{i j:Int}{fs:FS}(h:-(2^64)<j/\j<2^64):Bm (.t (.int i)) (.t (.int j)) fs=.ok (.t (.int (i*j))) fs:=by have e:UI (.t (.int i)) (.t (.int j)) fs=.ok (.t (.int (i*j))) fs:=if_pos (by rw[qE h];simp);unfold Bm orG;rw[e]
theorem TC{z:Str}{n:Int}{fs:FS}(h:z.length=1/\1<=n/\n<=1000):Bm (.t (.str z)) (.t (.int n)) fs=.ok (.t (.str (Txt.mul z n))) fs:=by have e:Qi (.t (.str z)) (.t (.int n)) fs=.ok (.t (.str (Txt.mul z n))) fs:=if_pos h;have e2:UI (.t (.str z)) (.t (.int n)) fs=.bad:=rfl;unfold Bm orG;rw[e2];exact e
theorem DG{x y:Str}{fs:FS}(h:x.length+y.length<=big):Ao (.t (.str x)) (.t (.str y)) fs=.ok (.t (.str (x++y))) fs:=by have e:Qj (.t (.str x)) (.t (.str y)) fs=.ok (.t (.str (x++y))) fs:=if_pos h;have e2:Za (.t (.str x)) (.t (.str y)) fs=.bad:=rfl;unfold Ao orG;rw[e2];dsimp only;rw[e]
theorem KP{z:Str}{i:Int}{c:Nat}{fs:FS}(hz:z.length<=big)(e:atI z.cps.toList i=some c):A1 (.t (.str z)) (.t (.int i)) fs=.ok (.t (.str ⟨#[c]⟩)) fs:=by
 have e':gIx (.t (.str z)) (.t (.int i)) fs=.ok (.t (.str ⟨#[c]⟩)) fs:=by simp only[gIx,Cu,hz,if_true,e,okT]
 unfold A1 orG;rw[e']
theorem E5:∀xs:List Str,Cp (xs.map T.str)=some xs
 | []=>rfl
 |n::ns=>by simp[Cp,E5 ns]
theorem Oo{xs:List T}{v:Int}(h0:0<=v)(h1:v.toNat<=xs.length):RS xs none (some v)=xs.take v.toNat:=by show(xs.drop 0).take ((if v<0 then(v+(xs.length:Int)).toNat else min v.toNat xs.length)-0)=_;rw[if_neg (by lia),Nat.min_eq_left h1];simp
theorem Oq{xs:List T}{v:Int}(h0:0<=v)(h1:v.toNat<=xs.length):RS xs (some v) none=xs.drop v.toNat:=by show(xs.drop (if v<0 then(v+(xs.length:Int)).toNat else min v.toNat xs.length)).take (xs.length-(if v<0 then(v+(xs.length:Int)).toNat else min v.toNat xs.length))=_;rw[if_neg (by lia),Nat.min_eq_left h1];exact tK (by rw[rB];lia)
theorem QL(c:Int):atI [T.int 1,T.int 3,T.int 5,T.int 7,T.int 9,T.int 11] (Nm.M c/144%6)=some (T.int (Nm.step c)):=by
 have h:Nm.stepI c<6:=by unfold Nm.stepI;lia
 have e:([T.int 1,T.int 3,T.int 5,T.int 7,T.int 9,T.int 11]:List T)[Nm.stepI c]?=some (T.int (Nm.step c)):=by
  unfold Nm.step;generalize Nm.stepI c=i at h
  match i,h with|0,_=>rfl|1,_=>rfl|2,_=>rfl|3,_=>rfl|4,_=>rfl|5,_=>rfl
 have e2:=AN e;unfold Nm.stepI at e2;rwa[sY (by lia)]at e2
theorem Uz:ABC.length<=big:=by decide +kernel
theorem Ti{f:Nat->Nat}{js:List Nat}{fs:FS}(h:js.length<=1000):Eo (.t (.str ("":Str))) [.t (.lst ((js.map λj=>(⟨#[f j]⟩:Str)).map T.str))] fs=.ok (.t (.str (Txt.join (⟨#[]⟩:Str) (js.map λj=>(⟨#[f j]⟩:Str))))) fs:=by
 have e0:("":Str).length=0:=by decide +kernel
 simp only[Eo,Cu,rA,E5,Pt,e0,Nat.mul_zero,Nat.add_zero];rw[if_pos (show js.length<=big from qS h (by decide)),show("":Str)=(⟨#[]⟩:Str)from De];simp only[okT]
theorem Ei{j:Int}{fs:FS}{fa:FS->Out (List Rv)}(e:fa fs=.ok [.t (.int j)] fs)(h:-(2^62)<=j/\j<2^62):GF fa fs=.ok (FL.upTo 0 j.toNat) fs:=by unfold GF;rw[e];simp only[Out.bind];exact if_pos h
theorem Ae{g:Rv->Rv->FS->Out Rv}{fa fb:FS->Out Rv}{fs:FS}{x y:T}{r:Out Rv}(h1:fa fs=.ok (.t x) fs)(h2:fb fs=.ok (.t y) fs)(h3:g (.t x) (.t y) fs=r):Ad g fa fb fs=r:=by unfold Ad;rw[h1];show(fb fs).bnd _=r;rw[h2];exact h3
theorem Aa{i:Nat}{fs:FS}{t:T}(h:fs[i]?=some (vl t)):Ab i fs=.ok (.t t) fs:=by unfold Ab;rw[h]
theorem Al{t:T}{fs:FS}:gc t fs=.ok (.t t) fs:=rfl
theorem YK{L:Str}(eV:L.length<=big)(hL:∀x:Int,atI L.cps.toList (x%26)=some (Nm.Ci x))(m:Int)(k:Nat)(hk:k<12) :
  Ad A1 (Ab 1) (Ad Bk (Ad Ao (Ad CP (Ab 2) (Ad Ao (Ab 0) (gc (.int 5)))) (Ad Bm (Ab 0) (Ab 0))) (gc (.int 26))) [iv (k:Int),vl (.str L),iv m]=.ok (.t (.str ⟨#[Nm.Ci (m/((k:Int)+5)+(k:Int)*(k:Int))]⟩)) [iv (k:Int),vl (.str L),iv m] :=
 Ae (Aa rfl) (Ae (Ae (Ae (Aa rfl) (Ae (Aa rfl) Al A0) (C9 ⟨by lia,by lia⟩)) (Ae (Aa rfl) (Aa rfl) (Ge ⟨by lia,by lia⟩)) A0) Al (Bj (by decide))) (KP eV (hL _))
theorem AF{i:Nat}{f:FS->Out Rv}{fs aj:FS}{t:T}(h:f fs=.ok (.t t) fs)(hs:Hi i (.t t) fs=some aj):Ay i f fs=.nx aj:=by unfold Ay;rw[h];show(match Hi i (.t t) fs with|some fs=>SO.nx fs|none=>.bad)=_;rw[hs]
theorem An{f:FS->Out Rv}{g:FS->Out (List Rv)}{fs:FS}{t:T}{rs:List Rv}(h1:f fs=.ok (.t t) fs)(h2:g fs=.ok rs fs):Ac f g fs=.ok (.t t::rs) fs:=by unfold Ac;rw[h1];show(g fs).bind _=_;rw[h2];rfl
theorem Au{f:FS->Out Rv}{fs:FS}{t:T}(h:f fs=.ok (.t t) fs):fz f fs=.ok (.t t) fs:=by unfold fz;rw[h];rfl
theorem Cd{g:List Rv->FS->Out Rv}{fa:FS->Out (List Rv)}{fs:FS}{rs:List Rv}{r:Out Rv}(h:fa fs=.ok rs fs)(h2:g rs fs=r):Ah g fa fs=r:=by unfold Ah;rw[h];exact h2
theorem Jo{i:Nat}{f:FS->Out Rv}{fs aj:FS}{t:T}{ts:List T}(h0:fs[i]?=some (some (.own (.lst ts))))(h:f fs=.ok (.t t) fs)(hl:ts.length<big)(e:fs.set i (some (.own (.lst (ts++[t]))))=aj):AS (AH Dc (Ab i) (Ac f Ai)) fs=.nx aj:=by
 have h1:Ab i fs=.ok (.n i) fs:=by unfold Ab;rw[h0]
 have h2:FL.AM fs i=some (.lst ts):=by unfold FL.AM;rw[h0]
 have h3:Cu fs (.n i)=some ts:=by simp only[Cu,h2]
 have h4:Ac f Ai fs=.ok [.t t] fs:=An h rfl;have h5:Dc (.n i) [.t t] fs=.ok (.t .l) aj:=by
  simp only[Dc,h2];rw[if_pos hl];have:FL.putAt fs i (.lst (ts++[t]))=aj:=by unfold FL.putAt;rw[h0];exact e
  rw[this]
 have h6:AH Dc (Ab i) (Ac f Ai) fs=.ok (.t .l) aj:=by unfold AH;rw[h1];show(if(Cu fs (.n i)).isSome=true then _ else _)=_;rw[h3,if_pos (show(some ts).isSome=true from rfl),h4];exact h5
 unfold AS;rw[h6];rfl
theorem BH{c:FS->Out Bool}{g h:FS->SO}{fs:FS}{r:SO}(hc:c fs=.ok true fs)(e:g fs=r):ifS c g h fs=r:=by unfold ifS;rw[hc];exact e
theorem AU{c:FS->Out Bool}{g h:FS->SO}{fs:FS}{r:SO}(hc:c fs=.ok false fs)(e:h fs=r):ifS c g h fs=r:=by unfold ifS;rw[hc];exact e
theorem Gj{fa fb:FS->Out Rv}{fs:FS}{i j:Int}(h1:fa fs=.ok (.t (.int i)) fs)(h2:fb fs=.ok (.t (.int j)) fs):asB (Ad (gEq false) fa fb) fs=.ok (decide (i=j)) fs:=by
 have e:gEq false (.t (.int i)) (.t (.int j)) fs=.ok (.t (.o (decide (i=j)))) fs:=by
  have q:decide (V.int i=V.int j)=decide (i=j):=by
   by_cases h:i=j
   .subst h;simp
   .rw[qv h,qv (by intro z;cases z;exact h rfl)]
  show(if Jx (V.int i) (V.int j)=true then okT (.o (if false=true then _ else decide (V.int i=V.int j))) fs else .bad)=_;rw[if_pos (show Jx (V.int i) (V.int j)=true from rfl),q];rfl
 unfold asB;rw[Ae h1 h2 e];rfl
theorem Cb{fa:FS->Out (List Rv)}{fs:FS}{rs:List Rv}{ts:List T}(h:fa fs=.ok rs fs)(h2:Ma rs=some ts)(h3:ts.length<=big):As A4 fa fs=.ok (.t (.lst ts)) fs:=by unfold As;rw[h];show(match Ma rs with|some ts=>_|none=>_)=_;rw[h2];exact if_pos h3
theorem O0{f g:FS->Out Rv}{fs:FS}{ts:List T}{v:Int}(h1:f fs=.ok (.t (.lst ts)) fs)(h2:g fs=.ok (.t (.int v)) fs)(h0:0<=v)(hl:v.toNat<=ts.length):slF f noP (AV g) fs=.ok (.t (.lst (ts.take v.toNat))) fs:=by unfold slF;rw[h1];show((AV g) fs).bind _=_;unfold AV;rw[h2];simp only[Out.bnd,Out.bind];simp only[XY,Cu,okT];rw[Oo h0 hl]
theorem Kh{f g:FS->Out Rv}{fs:FS}{ts:List T}{v:Int}(h1:f fs=.ok (.t (.lst ts)) fs)(h2:g fs=.ok (.t (.int v)) fs)(h0:0<=v)(hl:v.toNat<=ts.length):slF f (AV g) noP fs=.ok (.t (.lst (ts.drop v.toNat))) fs:=by unfold slF;rw[h1];show((AV g) fs).bind _=_;unfold AV;rw[h2];simp only[Out.bnd,Out.bind,noP];simp only[XY,Cu,okT];rw[Oq h0 hl]
theorem KC{f:FS->Out Rv}{fs:FS}{g:Nat->Nat}{js:List Nat}(h:f fs=.ok (.t (.lst ((js.map λj=>(⟨#[g j]⟩:Str)).map T.str))) fs)(hl:js.length<=1000):fz (D8 Eo (gc (.str ("":Str))) (Ac f Ai)) fs=.ok (.t (.str (Txt.join (⟨#[]⟩:Str) (js.map λj=>(⟨#[g j]⟩:Str))))) fs:=by refine Au ?_;have h2:=An h (show Ai fs=.ok [] fs from rfl);unfold D8 gc;show((Ac f Ai fs).bind _)=_;rw[h2];exact Ti hl
theorem SU{L:Str}(eV:L.length<=big)(hL:∀x:Int,atI L.cps.toList (x%26)=some (Nm.Ci x)){c w:Int}(p8:0<=w)(hw:w<=12)(m a:Int)(hm:m=Nm.M c)(x0 x1 x6 x7 x8 x9 bh:Option Sl) :
  BR false [none,some 2,some 3] (GF (Ac (Ab 4) Ai)) (tgN 0) Dy (Ad A1 (Ab 1) (Ad Bk (Ad Ao (Ad CP (Ab 2) (Ad Ao (Ab 0) (gc (.int 5)))) (Ad Bm (Ab 0) (Ab 0))) (gc (.int 26)))) [x0,x1,vl (.str L),iv m,iv w,iv a,x6,x7,x8,x9,bh]=.ok (.t (.lst ((BZ c w.toNat).map T.str))) [x0,x1,vl (.str L),iv m,iv w,iv a,x6,x7,x8,x9,bh]:=by
 have e1:=Ei (fa:=Ac (Ab 4) Ai) (fs:=[x0,x1,vl (.str L),iv m,iv w,iv a,x6,x7,x8,x9,bh]) (j:=w) (An (Aa rfl) rfl) ⟨by lia,by lia⟩;obtain⟨y,hy,e2⟩:=DJ (fe:=Ad A1 (Ab 1) (Ad Bk (Ad Ao (Ad CP (Ab 2) (Ad Ao (Ab 0) (gc (.int 5)))) (Ad Bm (Ab 0) (Ab 0))) (gc (.int 26)))) (f:=λt'=>match t' with|.int i=>.str ⟨#[Nm.Ci (m/(i+5)+i*i)]⟩|_=>.l) (rest:=[vl (.str L),iv m]) (FL.upTo 0 w.toNat) none [] Ar (λt' mt=>by
   unfold FL.upTo at mt;rw[rh]at mt;obtain⟨k,mk,rfl⟩:=mt;have hk:=rP.mp mk;rw[Int.zero_add];exact YK eV hL m k (by lia)) (by
   unfold FL.upTo;rw[qw,rG];show 0+_<=1000000
   lia)
 have e3:=CL (src:=[none,some 2,some 3]) e1 ⟨by rw[show Cj [x0,x1,vl (.str L),iv m,iv w,iv a,x6,x7,x8,x9,bh] _=[]from rfl];exact qU,by rfl⟩ e2 (AJ rfl);rw[e3,qV];have e4:(FL.upTo 0 w.toNat).map (λt'=>match t' with|.int i=>T.str ⟨#[Nm.Ci (m/(i+5)+i*i)]⟩|_=>.l)=(BZ c w.toNat).map T.str:=by
  subst hm;unfold FL.upTo BZ;rw[rm,rm];refine sV λk _=>?_
  simp only[Function.comp_apply,Int.zero_add,Nm.base]
 rw[e4]
theorem SS{L:Str}(eV:L.length<=big)(hL:∀x:Int,atI L.cps.toList (x%26)=some (Nm.Ci x)){c m w a st n:Int}{i:Nat}(hm:m=Nm.M c)(hw:w=Nm.W c)(ha:a=Nm.At c)(bG:st=Nm.step c)(hi:i<12)(bh:Option Sl)(hx:Fre bh) :
  ∃kF,Fre kF/\(Av (Ay 10 (Ad A1 (Ab 2) (Ad Bk (Ad Ao (Ad CP (Ab 3) (gc (.int 864))) (Ad Bm (Ab 9) (Ab 7))) (gc (.int 26)))))
  (ifS (asB (Ad (gEq false) (Ad Bk (Ad CP (Ab 3) (gc (.int 900))) (gc (.int 3))) (gc (.int 1)))) (AS (AH Dc (Ab 8) (Ac (Ad Bm (Ad A1 (Ab 6) (gc (.int 0))) (Ad Ao (Ad Bk (Ad Ao (Ab 9) (Ad CP (Ab 3) (gc (.int 7)))) (gc (.int 12))) (gc (.int 1)))) Ai))) (AS (AH Dc (Ab 8) (Ac (Ad Ao (Ad Ao (fz (D8 Eo (gc (.str ("":Str))) (Ac (slF (Ab 6) noP (AV (Ab 5))) Ai))) (Ab 10)) (fz (D8 Eo (gc (.str ("":Str))) (Ac (slF (Ab 6) (AV (Ad Ao (Ab 5) (gc (.int 1)))) noP) Ai)))) Ai)))))
   [iv c,iv n,vl (.str L),iv m,iv w,iv a,vl (.lst ((BZ c w.toNat).map T.str)),iv st,some (.own (.lst ((nms c i).map T.str))),iv (i:Int),bh] =
   .nx [iv c,iv n,vl (.str L),iv m,iv w,iv a,vl (.lst ((BZ c w.toNat).map T.str)),iv st,some (.own (.lst ((nms c (i+1)).map T.str))),iv (i:Int),kF]:=by
 have w0:=Nm.XM c;have w1:=Nm.ZE c;have a0:=Nm.XO c;have a1:=Nm.XQ c;rw[<- hw]at w0 w1 a1;rw[<- ha]at a0 a1;have hs:-20<st/\st<20:=by rw[bG];rcases Nm.Kg c with e|e|e|e|e|e<;>lia
 have jx:Nm.one c i=Nm.Ci (m/864+(i:Int)*st):=by rw[hm,bG];rfl
 have hG:((nms c i).map T.str).length<big:=by
  unfold nms;rw[qw,qw,rG];show i<1000000
  lia
 have kM:∀z:Str,z.cps.toList=Nm.codes c i->(nms c i).map T.str++[T.str z]=(nms c (i+1)).map T.str:=λz ez=>by unfold nms;rw[List.range_succ,qF,qF];have:z=nmS c i:=D6 (by rw[ez];simp[nmS]);rw[this];rfl
 refine⟨vl (.str ⟨#[Nm.one c i]⟩),AG,?_⟩;have s1:Ay 10 (Ad A1 (Ab 2) (Ad Bk (Ad Ao (Ad CP (Ab 3) (gc (.int 864))) (Ad Bm (Ab 9) (Ab 7))) (gc (.int 26)))) [iv c,iv n,vl (.str L),iv m,iv w,iv a,vl (.lst ((BZ c w.toNat).map T.str)),iv st,some (.own (.lst ((nms c i).map T.str))),iv (i:Int),bh] =
   .nx [iv c,iv n,vl (.str L),iv m,iv w,iv a,vl (.lst ((BZ c w.toNat).map T.str)),iv st,some (.own (.lst ((nms c i).map T.str))),iv (i:Int),vl (.str ⟨#[Nm.one c i]⟩)]:=by
  rw[jx];exact AF (Ae (Aa rfl) (Ae (Ae (Ae (Aa rfl) Al (C9 ⟨by decide,by decide⟩)) (Ae (Aa rfl) (Aa rfl) (Ge ⟨by lia,by lia⟩)) A0) Al (Bj (by decide))) (KP eV (hL _))) (AY rfl hx)
 rw[AE s1];have hc:=Gj (fa:=Ad Bk (Ad CP (Ab 3) (gc (.int 900))) (gc (.int 3))) (fb:=gc (.int 1)) (fs:=[iv c,iv n,vl (.str L),iv m,iv w,iv a,vl (.lst ((BZ c w.toNat).map T.str)),iv st,some (.own (.lst ((nms c i).map T.str))),iv (i:Int),vl (.str ⟨#[Nm.one c i]⟩)])
  (Ae (Ae (Aa (t:=.int m) rfl) Al (C9 ⟨by decide,by decide⟩)) Al (Bj (by decide))) Al
 by_cases h1:m/900%3=1
 .rw[qE h1]at hc;have je:0<w.toNat:=by lia
  have eb:((BZ c w.toNat).map T.str)[0]?=some (T.str ⟨#[Nm.base c 0]⟩):=by unfold BZ;rw[rm,qX,se je];rfl
  refine BH hc (Jo (t:=.str (Txt.mul ⟨#[Nm.base c 0]⟩ (((i:Int)+m/7)%12+1))) rfl (Ae (Ae (Aa rfl) Al (Bh (i:=0) rfl (AN eb))) (Ae (Ae (Ae (Aa rfl) (Ae (Aa rfl) Al (C9 ⟨by decide,by decide⟩)) A0) Al (Bj (by decide))) Al A0) (TC ⟨rfl,by lia,by lia⟩)) hG ?_);rw[kM _ (by rw[Nj _ _ (by lia),Nm.codes,<- hm,if_pos h1,Nm.Ja,<- hm])];rfl
 .rw[qv h1]at hc;have el:((BZ c w.toNat).map T.str).length=w.toNat:=by unfold BZ;rw[qw,qw,rG]
  have et:((BZ c w.toNat).map T.str).take a.toNat=((List.range a.toNat).map λj=>(⟨#[Nm.base c j]⟩:Str)).map T.str:=by rw[<- List.map_take,L5 c _ _ (by lia)];rfl
  have ed:((BZ c w.toNat).map T.str).drop (a+1).toNat=((List.range (w.toNat-(a+1).toNat)).map λj=>(⟨#[Nm.base c ((a+1).toNat+j)]⟩:Str)).map T.str:=by rw[<- List.map_drop,L7]
  have j1:=O0 (f:=Ab 6) (g:=Ab 5) (fs:=[iv c,iv n,vl (.str L),iv m,iv w,iv a,vl (.lst ((BZ c w.toNat).map T.str)),iv st,some (.own (.lst ((nms c i).map T.str))),iv (i:Int),vl (.str ⟨#[Nm.one c i]⟩)]) (Aa rfl) (Aa (t:=.int a) rfl) a0 (by rw[el];lia);have j2:=Kh (f:=Ab 6) (g:=Ad Ao (Ab 5) (gc (.int 1))) (fs:=[iv c,iv n,vl (.str L),iv m,iv w,iv a,vl (.lst ((BZ c w.toNat).map T.str)),iv st,some (.own (.lst ((nms c i).map T.str))),iv (i:Int),vl (.str ⟨#[Nm.one c i]⟩)]) (v:=a+1) (Aa rfl) (Ae (Aa (t:=.int a) rfl) Al A0) (by lia) (by rw[el];lia);rw[et]at j1;rw[ed]at j2;have l1:(Txt.join (⟨#[]⟩:Str) ((List.range a.toNat).map λj=>(⟨#[Nm.base c j]⟩:Str))).length=a.toNat:=by rw[KA,rG]
  have l2:(Txt.join (⟨#[]⟩:Str) ((List.range (w.toNat-(a+1).toNat)).map λj=>(⟨#[Nm.base c ((a+1).toNat+j)]⟩:Str))).length=w.toNat-(a+1).toNat:=by rw[KA (λj=>Nm.base c ((a+1).toNat+j)),rG]
  refine AU hc (Jo (t:=.str ((Txt.join (⟨#[]⟩:Str) ((List.range a.toNat).map λj=>(⟨#[Nm.base c j]⟩:Str))++(⟨#[Nm.one c i]⟩:Str))++Txt.join (⟨#[]⟩:Str) ((List.range (w.toNat-(a+1).toNat)).map λj=>(⟨#[Nm.base c ((a+1).toNat+j)]⟩:Str)))) rfl (Ae (Ae (KC j1 (by rw[rG];lia)) (Aa rfl) (DG ?_)) (KC (g:=λj=>Nm.base c ((a+1).toNat+j)) j2 (by rw[rG];lia)) (DG ?_)) hG ?_)
  .rw[l1];show a.toNat+1<=1000000
   lia
  .rw[strLen_append,l1,l2];show a.toNat+1+_<=1000000
   lia
  .rw[kM _ ?_]
   .rfl
   .have q1:=join_ones (Nm.base c) (List.range a.toNat);have q2:=join_ones (λj=>Nm.base c ((a+1).toNat+j)) (List.range (w.toNat-(a+1).toNat));have ea:(a+1).toNat=a.toNat+1:=by lia
    show(((Txt.join (⟨#[]⟩:Str) _).cps++#[Nm.one c i])++(Txt.join (⟨#[]⟩:Str) _).cps).toList=_;rw[Array.toList_append,Array.toList_append,q1,q2,Nm.codes,<- hm,if_neg h1,Nm.GY,<- ha,<- hw,ea]
theorem NX{n:Nat}{fa:FS->Out (List Rv)}{gt:T->FS->Option FS}{body:FS->SO}{fs:FS}{r:SO}(e:fa fs=.ok [.t (.int (n:Int))] fs)(h:n<2^62)(ef:Cy gt body (FL.upTo 0 n) fs=r):Dd (GF fa) gt body fs=r:=by unfold Dd;rw[Ei e ⟨by lia,by lia⟩,rO];exact ef
theorem LH{c:Int}{n:Nat}(hn:n<=12)(hb:Builtin.Int.intBits c<=2^20):∃x2 x3 x4 x5 x6 x7 x9 bh,Fw [iv c,iv n,none,none,none,none,none,none,none,none,none]=.ret (.n 8) [iv c,iv n,x2,x3,x4,x5,x6,x7,some (.own (.lst ((nms c n).map T.str))),x9,bh]:=by
 have gL:Builtin.Int.intBits c<=2^26:=qS hb (by decide);have w0:=Nm.XM c;have w1:=Nm.ZE c;have hL:∀x:Int,atI ("abcdefghijklmnopqrstuvwxyz":Str).cps.toList (x%26)=some (Nm.Ci x):=OG;have eV:("abcdefghijklmnopqrstuvwxyz":Str).length<=big:=Uz;unfold Fw;generalize ("abcdefghijklmnopqrstuvwxyz":Str)=L at hL eV;have s2:Ay 2 (gc (.str L)) [iv c,iv n,none,none,none,none,none,none,none,none,none]=.nx [iv c,iv n,vl (.str L),none,none,none,none,none,none,none,none]:=AF Al rfl;have s3:Ay 3 (Ad Bm (Ad Ao (Ad Ao (Ad Bm (Ab 0) (Ab 0)) (Ab 0)) (gc (.int 1))) (gc (.int 982451653))) [iv c,iv n,vl (.str L),none,none,none,none,none,none,none,none]=.nx [iv c,iv n,vl (.str L),iv (Nm.M c),none,none,none,none,none,none,none]:=by unfold Nm.M;exact AF (Ae (Ae (Ae (Ae (Aa rfl) (Aa rfl) (JR ⟨gL,gL⟩)) (Aa rfl) A0) Al A0) Al (NR ⟨by decide,by decide⟩)) rfl
 generalize hm:Nm.M c=m at s3;have s4:Ay 4 (Ad Ao (gc (.int 1)) (Ad Bk (Ab 3) (gc (.int 12)))) [iv c,iv n,vl (.str L),iv m,none,none,none,none,none,none,none]=.nx [iv c,iv n,vl (.str L),iv m,iv (Nm.W c),none,none,none,none,none,none]:=by unfold Nm.W;rw[hm];exact AF (Ae Al (Ae (Aa rfl) Al (Bj (by decide))) A0) rfl
 generalize hw:Nm.W c=w at s4 w0 w1;have s5:Ay 5 (Ad Bk (Ad CP (Ab 3) (gc (.int 12))) (Ab 4)) [iv c,iv n,vl (.str L),iv m,iv w,none,none,none,none,none,none]=.nx [iv c,iv n,vl (.str L),iv m,iv w,iv (Nm.At c),none,none,none,none,none]:=by unfold Nm.At;rw[hm,hw];exact AF (Ae (Ae (Aa rfl) Al (C9 ⟨by decide,by decide⟩)) (Aa rfl) (Bj (by lia))) rfl
 generalize ha:Nm.At c=a at s5;have s6:=AF (i:=6) (aj:=[iv c,iv n,vl (.str L),iv m,iv w,iv a,vl (.lst ((BZ c w.toNat).map T.str)),none,none,none,none]) (SU eV hL (c:=c) (w:=w) (by lia) w1 m a hm.symm (iv c) (iv n) none none none none none) rfl;have s7:Ay 7 (Ad A1 (As A4 (Ac (gc (.int 1)) (Ac (gc (.int 3)) (Ac (gc (.int 5)) (Ac (gc (.int 7)) (Ac (gc (.int 9)) (Ac (gc (.int 11)) Ai))))))) (Ad Bk (Ad CP (Ab 3) (gc (.int 144))) (gc (.int 6)))) [iv c,iv n,vl (.str L),iv m,iv w,iv a,vl (.lst ((BZ c w.toNat).map T.str)),none,none,none,none]=.nx [iv c,iv n,vl (.str L),iv m,iv w,iv a,vl (.lst ((BZ c w.toNat).map T.str)),iv (Nm.step c),none,none,none]:=by have e:=QL c;rw[hm]at e;exact AF (Ae (Cb rfl rfl (by decide)) (Ae (Ae (Aa rfl) Al (C9 ⟨by decide,by decide⟩)) Al (Bj (by decide))) (Bh rfl e)) rfl
 generalize bG:Nm.step c=st at s7;have s8:Ay 8 (As Cq Ai) [iv c,iv n,vl (.str L),iv m,iv w,iv a,vl (.lst ((BZ c w.toNat).map T.str)),iv st,none,none,none]=.nx [iv c,iv n,vl (.str L),iv m,iv w,iv a,vl (.lst ((BZ c w.toNat).map T.str)),iv st,some (.own (.lst [])),none,none]:=rfl;have dI:=Cr (gt:=tgN 9) (body:=(Av (Ay 10 (Ad A1 (Ab 2) (Ad Bk (Ad Ao (Ad CP (Ab 3) (gc (.int 864))) (Ad Bm (Ab 9) (Ab 7))) (gc (.int 26)))))
  (ifS (asB (Ad (gEq false) (Ad Bk (Ad CP (Ab 3) (gc (.int 900))) (gc (.int 3))) (gc (.int 1)))) (AS (AH Dc (Ab 8) (Ac (Ad Bm (Ad A1 (Ab 6) (gc (.int 0))) (Ad Ao (Ad Bk (Ad Ao (Ab 9) (Ad CP (Ab 3) (gc (.int 7)))) (gc (.int 12))) (gc (.int 1)))) Ai))) (AS (AH Dc (Ab 8) (Ac (Ad Ao (Ad Ao (fz (D8 Eo (gc (.str ("":Str))) (Ac (slF (Ab 6) noP (AV (Ab 5))) Ai))) (Ab 10)) (fz (D8 Eo (gc (.str ("":Str))) (Ac (slF (Ab 6) (AV (Ad Ao (Ab 5) (gc (.int 1)))) noP) Ai)))) Ai))))))
  (λts fs=>∃(i:Nat)(x9 bh:Option Sl),fs=[iv c,iv n,vl (.str L),iv m,iv w,iv a,vl (.lst ((BZ c w.toNat).map T.str)),iv st,some (.own (.lst ((nms c i).map T.str))),x9,bh]/\Fre x9/\Fre bh/\i<=n/\ts=(FL.upTo 0 n).drop i) (λt' ts fs h=>?_) (FL.upTo 0 n) [iv c,iv n,vl (.str L),iv m,iv w,iv a,vl (.lst ((BZ c w.toNat).map T.str)),iv st,some (.own (.lst [])),none,none]
  ⟨0,none,none,rfl,Ar,Ar,rX _,rfl⟩
 .obtain⟨aj,ef,i,x9,bh,rfl,_,_,hi,hd⟩:=dI;have dE:i=n:=by
   have:=congrArg List.length hd;simp[FL.upTo]at this
   lia
  subst dE;refine⟨vl (.str L),iv m,iv w,iv a,vl (.lst ((BZ c w.toNat).map T.str)),iv st,x9,bh,?_⟩;rw[AE s2,AE s3,AE s4,AE s5,AE s6,AE s7,AE s8];rw[AE (NX (n:=i) (fa:=Ac (Ab 1) Ai) (An (Aa rfl) rfl) (by lia) ef)];rfl
 .obtain⟨i,x9,bh,rfl,f9,nD,hi,hd⟩:=h;have bc:i<n:=by
   have:=congrArg List.length hd;simp[FL.upTo]at this
   lia
  have hc:=rY (l:=FL.upTo 0 n) (i:=i) (by simp[FL.upTo];exact bc);rw[hc]at hd;obtain⟨e1,e2⟩:=List.cons.inj hd;have e3:t'=T.int (i:Int):=by rw[e1];simp[FL.upTo]
  subst e3;obtain⟨kF,fy,e⟩:=SS eV hL (c:=c) (m:=m) (w:=w) (a:=a) (st:=st) (n:=n) (i:=i) hm.symm hw.symm ha.symm bG.symm (by lia) bh nD;exact⟨_,_,(by unfold tgN;exact AY rfl f9),e,i+1,_,_,rfl,AG,fy,bc,e2⟩
theorem names{c:Int}{n:Nat}(hn:n<=12)(hb:Builtin.Int.intBits c<=2^20):BO [iv c,iv n]=.ok (.nw (.lst ((nms c n).map T.str))) [iv c,iv n]:=by obtain⟨x2,x3,x4,x5,x6,x7,x9,bh,e⟩:=LH hn hb;unfold BO B2;show(match Fw [iv c,iv n,none,none,none,none,none,none,none,none,none]with|.nx τ=>_|.ret (.t t) τ=>_|.ret (.nw o) τ=>_|.ret (.n i) τ=>_|.exc c τ=>_|_=>_)=_;rw[e];rfl
theorem J3(ns:List Int)(k:Nat):A7 [vl (.z7 (ns.map T.int)),iv k]=.ok (.t (.int (ns.getD k 0))) [vl (.z7 (ns.map T.int)),iv k]:=by
 have hl:asB (Ad gLt (Ab 1) (Ah Bd (Ac (Ab 0) Ai))) [vl (.z7 (ns.map T.int)),iv k]=.ok (decide ((k:Int)<((ns.map T.int).length:Int))) [vl (.z7 (ns.map T.int)),iv k]:=rfl;unfold A7 B2;show(match DX [vl (.z7 (ns.map T.int)),iv k]with|.nx τ=>_|.ret (.t t) τ=>_|.ret (.nw o) τ=>_|.ret (.n i) τ=>_|.exc c τ=>_|_=>_)=_;have e:DX [vl (.z7 (ns.map T.int)),iv k]=.ret (.t (.int (ns.getD k 0))) [vl (.z7 (ns.map T.int)),iv k]:=by
  unfold DX;by_cases h:(k:Int)<((ns.map T.int).length:Int)
  .rw[qE h]at hl;have h':k<ns.length:=by rw[qw]at h;lia
   have e2:retS (Ad A1 (Ab 0) (fz (Ab 1))) [vl (.z7 (ns.map T.int)),iv k]=.ret (.t (.int (ns.getD k 0))) [vl (.z7 (ns.map T.int)),iv k]:=by have:=Ae (g:=A1) (fa:=Ab 0) (fb:=fz (Ab 1)) (fs:=[vl (.z7 (ns.map T.int)),iv k]) (Aa rfl) (Au (Aa rfl)) (RG (ns:=ns) (i:=(k:Int)) (.inl rfl) (by lia) (by lia));unfold retS;rw[this,rO];rfl
   unfold Av;rw[BH hl e2]
  .rw[qv h]at hl;have h':ns.length<=k:=by rw[qw]at h;lia
   rw[AE (AU (h:=nxS) (fs:=[vl (.z7 (ns.map T.int)),iv k]) (r:=.nx [vl (.z7 (ns.map T.int)),iv k]) hl rfl)];have:ns.getD k 0=0:=by simp[List.getD,h']
   rw[this];rfl
 rw[e];rfl
theorem E3{g:Rv->Rv->FS->Out Rv}{fa fb:FS->Out Rv}{fs ag ax:FS}{x y:T}{r:Out Rv}(h1:fa fs=.ok (.t x) ag)(h2:fb ag=.ok (.t y) ax)(h3:g (.t x) (.t y) ax=r):Ad g fa fb fs=r:=by unfold Ad;rw[h1];show(fb ag).bnd _=r;rw[h2];exact h3
theorem C3{i:Nat}{f:FS->Out Rv}{fs ag aj:FS}{t:T}(h:f fs=.ok (.t t) ag)(hs:Hi i (.t t) ag=some aj):Ay i f fs=.nx aj:=by unfold Ay;rw[h];show(match Hi i (.t t) ag with|some fs=>SO.nx fs|none=>.bad)=_;rw[hs]
theorem A9{f:FS->Out Rv}{g:FS->Out (List Rv)}{fs ag ax:FS}{t:T}{rs:List Rv}(h1:f fs=.ok (.t t) ag)(h2:g ag=.ok rs ax):Ac f g fs=.ok (.t t::rs) ax:=by unfold Ac;rw[h1];show(g ag).bind _=_;rw[h2];rfl
theorem BQ{g:List T->FS->Out Rv}{fa:FS->Out (List Rv)}{fs ag:FS}{rs:List Rv}{ts:List T}{r:Out Rv}(h:fa fs=.ok rs ag)(h2:Ma rs=some ts)(h3:ts.length<=big)(e:g ts ag=r):As g fa fs=r:=by unfold As;rw[h];show(match Ma rs with|some ts=>_|none=>_)=_;rw[h2];exact(if_pos h3).trans e
theorem Ck{f:FS->Out Rv}{fs ag:FS}{t:T}(h:f fs=.ok (.t t) ag):fz f fs=.ok (.t t) ag:=by unfold fz;rw[h];rfl
theorem Ht{i:Nat}{fs aj:FS}{t:T}{ts:List T}(h0:fs[i]?=some (some (.bor (.lst (ts++[t])))))(e:fs.set i (some (.bor (.lst ts)))=aj):fz (AH Fc (Ab i) Ai) fs=.ok (.t t) aj:=by
 have h1:Ab i fs=.ok (.n i) fs:=by unfold Ab;rw[h0]
 have h2:FL.AM fs i=some (.lst (ts++[t])):=by unfold FL.AM;rw[h0]
 have h3:Cu fs (.n i)=some (ts++[t]):=by simp only[Cu,h2]
 have h5:Fc (.n i) [] fs=.ok (.t t) aj:=by
  have:FL.putAt fs i (.lst ts)=aj:=by unfold FL.putAt;rw[h0];exact e
  simp only[Fc,h2,sR,sA,this,okT]
 refine Ck ?_;unfold AH;rw[h1];show(if(Cu fs (.n i)).isSome=true then _ else _)=_;rw[h3,if_pos (show(some (ts++[t])).isSome=true from rfl)];exact h5
theorem AK{f:FS->Out Rv}{fs ag:FS}{r:Rv}(h:f fs=.ok r ag):retS f fs=.ret r ag:=by unfold retS;rw[h];rfl
theorem Bp{g h:FS->SO}{fs aj:FS}{r:Rv}(e:g fs=.ret r aj):Av g h fs=.ret r aj:=by unfold Av;rw[e]
theorem RV{names:List Str}{O:Nat}(hO:0<O)(hl:O<=names.length)(z:Int):names.getD (z%(O:Int)).toNat ⟨#[]⟩∈names.take O/\atI (names.map T.str) (z%(O:Int))=some (T.str (names.getD (z%(O:Int)).toNat ⟨#[]⟩)):=by
 have h0:0<=z%(O:Int):=rT _ (by lia);have h1:z%(O:Int)<O:=rK _ (by lia);have hi:(z%(O:Int)).toNat<O:=by lia
 have dE:(z%(O:Int)).toNat<names.length:=by lia
 have e:names.getD (z%(O:Int)).toNat ⟨#[]⟩=names[(z%(O:Int)).toNat]:=by simp[List.getD,dE]
 refine⟨?_,?_⟩
 .rw[e];exact List.mem_take_iff_getElem.mpr ⟨(z%(O:Int)).toNat,by lia,rfl⟩
 .have e2:(names.map T.str)[(z%(O:Int)).toNat]?=some (T.str (names.getD (z%(O:Int)).toNat ⟨#[]⟩)):=by rw[e,qX,qo dE];rfl
  have:=AN e2;rwa[sY h0]at this
noncomputable def pick(z2 z3:Int)(i:Int):Int:=if i=0 then z2 else z3
theorem Lz{names:List Str}{at':Int}{fi:T}{pu:List T}{q O:Nat}{z2 z3:Int}(hO:0<O)(hl:O<=names.length)(hq:q<=2) :
  retS (Ah BK (Ac (BR false [none,some 0,some 6,some 5] (GF (Ac (Ab 4) Ai)) (tgN 0) Dy (Ad A1 (Ab 1) (Ad Bk (Ad A1 (Ab 3) (fz (Ab 0))) (Ab 2)))) Ai)) [vl (.lst (names.map T.str)),iv at',vl fi,some (.bor (.lst pu)),iv (q:Int),vl (.lst [.int z2,.int z3]),iv (O:Int)] =
   .ret (.t (.tup (((List.range q).map λ(k:Nat)=>names.getD (pick z2 z3 (k:Int)%(O:Int)).toNat ⟨#[]⟩).map T.str))) [vl (.lst (names.map T.str)),iv at',vl fi,some (.bor (.lst pu)),iv (q:Int),vl (.lst [.int z2,.int z3]),iv (O:Int)]:=by
 have e1:=Ei (fa:=Ac (Ab 4) Ai) (fs:=[vl (.lst (names.map T.str)),iv at',vl fi,some (.bor (.lst pu)),iv (q:Int),vl (.lst [.int z2,.int z3]),iv (O:Int)]) (j:=(q:Int)) (An (Aa rfl) rfl) ⟨by lia,by lia⟩;rw[rO]at e1;obtain⟨y,hy,e2⟩:=DJ (fe:=Ad A1 (Ab 1) (Ad Bk (Ad A1 (Ab 3) (fz (Ab 0))) (Ab 2))) (f:=λt'=>match t' with|.int i=>.str (names.getD (pick z2 z3 i%(O:Int)).toNat ⟨#[]⟩)|_=>.l) (rest:=[vl (.lst (names.map T.str)),iv (O:Int),vl (.lst [.int z2,.int z3])]) (FL.upTo 0 q) none [] Ar (λt' mt=>by
   unfold FL.upTo at mt;rw[rh]at mt;obtain⟨k,mk,rfl⟩:=mt;have hk:=rP.mp mk;rw[Int.zero_add];have ep:atI [T.int z2,T.int z3] (k:Int)=some (T.int (pick z2 z3 (k:Int))):=by
    have:k=0\/k=1:=by lia
    rcases this with rfl|rfl
    .exact AN rfl
    .exact AN rfl
   exact Ae (Aa rfl) (Ae (Ae (Aa rfl) (Au (Aa rfl)) (Bh rfl ep)) (Aa rfl) (Bj (by lia))) (Bh rfl (RV hO hl _).2)) (by
   unfold FL.upTo;rw[qw,rG];show 0+_<=1000000
   lia)
 have e3:=CL (src:=[none,some 0,some 6,some 5]) e1 ⟨by rw[show Cj [vl (.lst (names.map T.str)),iv at',vl fi,some (.bor (.lst pu)),iv (q:Int),vl (.lst [.int z2,.int z3]),iv (O:Int)] _=[]from rfl];exact qU,by rfl⟩ e2 (AJ rfl);have e4:(FL.upTo 0 q).map (λt'=>match t' with|.int i=>T.str (names.getD (pick z2 z3 i%(O:Int)).toNat ⟨#[]⟩)|_=>.l)=((List.range q).map λ(k:Nat)=>names.getD (pick z2 z3 (k:Int)%(O:Int)).toNat ⟨#[]⟩).map T.str:=by
  unfold FL.upTo;rw[rm,rm];refine sV λk _=>?_
  simp only[Function.comp_apply,Int.zero_add]
 rw[qV,e4]at e3;exact AK (Cd (An e3 rfl) rfl)
theorem parts{names:List Str}{at':Nat}{first:Bool}{pu:List T}{z1 z2 z3:Int}(hn:0<names.length)(ha:at'<=names.length) :
  ∃ps:List Str,ps.length<=2/\(∀x∈ps,x∈names.take (if first=true then at' else names.length))/\BE [vl (.lst (names.map T.str)),iv (at':Int),vl (.o first),some (.bor (.lst (pu++[.int z3]++[.int z2]++[.int z1])))] =
   .ok (.t (.tup (ps.map T.str))) [vl (.lst (names.map T.str)),iv (at':Int),vl (.o first),some (.bor (.lst pu))]:=by
 have hq:∃q:Nat,q<=2/\atI [T.int 0,T.int 1,T.int 1,T.int 2] (z1%4)=some (T.int (q:Int)):=by
  have h:z1%4=((0:Nat):Int)\/z1%4=((1:Nat):Int)\/z1%4=((2:Nat):Int)\/z1%4=((3:Nat):Int):=by lia
  rcases h with h|h|h|h<;>rw[h]
  .exact⟨0,by lia,AN rfl⟩
  .exact⟨1,by lia,AN rfl⟩
  .exact⟨1,by lia,AN rfl⟩
  .exact⟨2,by lia,AN rfl⟩
 obtain⟨q,hq,eq⟩:=hq;have s4:Ay 4 (Ad A1 (As A4 (Ac (gc (.int 0)) (Ac (gc (.int 1)) (Ac (gc (.int 1)) (Ac (gc (.int 2)) Ai))))) (Ad Bk (fz (AH Fc (Ab 3) Ai)) (gc (.int 4)))) [vl (.lst (names.map T.str)),iv (at':Int),vl (.o first),some (.bor (.lst (pu++[.int z3]++[.int z2]++[.int z1]))),none,none,none] =
   .nx [vl (.lst (names.map T.str)),iv (at':Int),vl (.o first),some (.bor (.lst (pu++[.int z3]++[.int z2]))),iv (q:Int),none,none] :=
  C3 (E3 (Cb rfl rfl (by decide)) (E3 (Ht (ts:=pu++[.int z3]++[.int z2]) rfl rfl) Al (Bj (by decide))) (Bh rfl eq)) rfl
 have s5:Ay 5 (As A4 (Ac (fz (AH Fc (Ab 3) Ai)) (Ac (fz (AH Fc (Ab 3) Ai)) Ai))) [vl (.lst (names.map T.str)),iv (at':Int),vl (.o first),some (.bor (.lst (pu++[.int z3]++[.int z2]))),iv (q:Int),none,none] =
   .nx [vl (.lst (names.map T.str)),iv (at':Int),vl (.o first),some (.bor (.lst pu)),iv (q:Int),vl (.lst [.int z2,.int z3]),none] :=
  C3 (BQ (g:=A4) (A9 (Ht (ts:=pu++[.int z3]) rfl rfl) (A9 (Ht (ts:=pu) rfl rfl) rfl)) rfl (show 2<=big by decide) rfl) rfl
 have s6:Ay 6 (Ah Bd (Ac (Ab 0) Ai)) [vl (.lst (names.map T.str)),iv (at':Int),vl (.o first),some (.bor (.lst pu)),iv (q:Int),vl (.lst [.int z2,.int z3]),none] =
   .nx [vl (.lst (names.map T.str)),iv (at':Int),vl (.o first),some (.bor (.lst pu)),iv (q:Int),vl (.lst [.int z2,.int z3]),iv (names.length:Int)]:=by
  have:((names.map T.str).length:Int)=(names.length:Int):=by rw[qw]
  rw[<- this];rfl
 have s7:ifS (Ih (Ab 2)) (Ay 6 (fz (Ab 1))) nxS [vl (.lst (names.map T.str)),iv (at':Int),vl (.o first),some (.bor (.lst pu)),iv (q:Int),vl (.lst [.int z2,.int z3]),iv (names.length:Int)] =
   .nx [vl (.lst (names.map T.str)),iv (at':Int),vl (.o first),some (.bor (.lst pu)),iv (q:Int),vl (.lst [.int z2,.int z3]),iv ((if first=true then at' else names.length:Nat):Int)]:=by
  cases first<;>rfl
 have jG:(if first=true then at' else names.length)<=names.length:=by split<;>lia
 generalize (if first=true then at' else names.length)=O at s7 jG ⊢;have hc:=Gj (fa:=Ab 6) (fb:=gc (.int 0)) (fs:=[vl (.lst (names.map T.str)),iv (at':Int),vl (.o first),some (.bor (.lst pu)),iv (q:Int),vl (.lst [.int z2,.int z3]),iv (O:Int)]) (i:=(O:Int)) (Aa rfl) Al;by_cases h0:(O:Int)=0
 .rw[qE h0]at hc;refine⟨[],by simp,by simp,?_⟩;have all:Dt [vl (.lst (names.map T.str)),iv (at':Int),vl (.o first),some (.bor (.lst (pu++[.int z3]++[.int z2]++[.int z1]))),none,none,none]=.ret (.t (.tup [])) [vl (.lst (names.map T.str)),iv (at':Int),vl (.o first),some (.bor (.lst pu)),iv (q:Int),vl (.lst [.int z2,.int z3]),iv (O:Int)]:=by unfold Dt;rw[AE s4,AE s5,AE s6,AE s7];exact Bp (BH hc rfl)
  unfold BE B2;show(match Dt [vl (.lst (names.map T.str)),iv (at':Int),vl (.o first),some (.bor (.lst (pu++[.int z3]++[.int z2]++[.int z1]))),none,none,none]with|.nx τ=>_|.ret (.t t) τ=>_|.ret (.nw o) τ=>_|.ret (.n i) τ=>_|.exc c τ=>_|_=>_)=_;rw[all];rfl
 .rw[qv h0]at hc;have hO:0<O:=by lia
  refine⟨(List.range q).map λ(k:Nat)=>names.getD (pick z2 z3 (k:Int)%(O:Int)).toNat ⟨#[]⟩,by simpa using hq,λx m=>?_,?_⟩
  .rw[rh]at m;obtain⟨k,_,rfl⟩:=m;exact(RV hO jG _).1
  .have all:Dt [vl (.lst (names.map T.str)),iv (at':Int),vl (.o first),some (.bor (.lst (pu++[.int z3]++[.int z2]++[.int z1]))),none,none,none]=.ret (.t (.tup (((List.range q).map λ(k:Nat)=>names.getD (pick z2 z3 (k:Int)%(O:Int)).toNat ⟨#[]⟩).map T.str))) [vl (.lst (names.map T.str)),iv (at':Int),vl (.o first),some (.bor (.lst pu)),iv (q:Int),vl (.lst [.int z2,.int z3]),iv (O:Int)]:=by unfold Dt;rw[AE s4,AE s5,AE s6,AE s7,AE (AU (h:=nxS) hc rfl)];exact Lz hO jG hq
   unfold BE B2;show(match Dt [vl (.lst (names.map T.str)),iv (at':Int),vl (.o first),some (.bor (.lst (pu++[.int z3]++[.int z2]++[.int z1]))),none,none,none]with|.nx τ=>_|.ret (.t t) τ=>_|.ret (.nw o) τ=>_|.ret (.n i) τ=>_|.exc c τ=>_|_=>_)=_;rw[all];rfl
theorem XI:∀j,j<26->(!(Builtin.Str.occurrences ABC ⟨#[97+j]⟩ 0 ABC.length 1).isEmpty)=true:=by decide +kernel
theorem ED:∀bs:List Bool,Di (bs.map T.o)=some bs
 | []=>rfl
 |b::bs=>by simp[Di,ED bs]
theorem WB{x y:Str}{fs:FS}:Dq false (.t (.str x)) (.t (.str y)) fs=.ok (.t (.o (!(Builtin.Str.occurrences y x 0 y.length 1).isEmpty))) fs:=rfl
theorem LP{z:Str}(h0:1<=z.length)(h1:z.length<=12)(hl:∀x∈z.cps.toList,97<=x/\x<=122):A3 [vl (.str z)]=.ok (.t (.o true)) [vl (.str z)]:=by
 have jT:∀x,97<=x/\x<=122->(!(Builtin.Str.occurrences ("abcdefghijklmnopqrstuvwxyz":Str) ⟨#[x]⟩ 0 ("abcdefghijklmnopqrstuvwxyz":Str).length 1).isEmpty)=true:=λx hx=>by have:=XI (x-97) (by lia);rwa[show 97+(x-97)=x by lia]at this
 have hlen:Ah Bd (Ac (Ab 0) Ai) [vl (.str z)]=.ok (.t (.int z.length)) [vl (.str z)]:=by have e:JS [.t (.str z)] [vl (.str z)]=.ok (.t (.int z.length)) [vl (.str z)]:=if_pos (show z.length<=1000000 by lia);refine Cd (An (Aa rfl) rfl) ?_;unfold Bd orC;show(match orC JS NU [.t (.str z)] [vl (.str z)]with|o=>o)=_;unfold orC;rw[e]
 have hc:FZ (asB (chain gLe gLe (gc (.int 1)) (Ah Bd (Ac (Ab 0) Ai)) (gc (.int 12)))) [vl (.str z)]=.ok false [vl (.str z)]:=by
  have e1:gLe (.t (.int 1)) (.t (.int z.length)) [vl (.str z)]=.ok (.t (.o true)) [vl (.str z)]:=by show okT (.o (decide ((1:Int)<=z.length))) _=_;rw[qE (by lia)];rfl
  have e2:gLe (.t (.int z.length)) (.t (.int 12)) [vl (.str z)]=.ok (.t (.o true)) [vl (.str z)]:=by show okT (.o (decide ((z.length:Int)<=12))) _=_;rw[qE (by lia)];rfl
  simp only[FZ,asB,chain,gc,Out.bnd,Out.bind,hlen,e1,e2,Bool.not_true]
 unfold A3 B2;show(match Dh [vl (.str z)]with|.nx τ=>_|.ret (.t t) τ=>_|.ret (.nw o) τ=>_|.ret (.n i) τ=>_|.exc c τ=>_|_=>_)=_;have all:Dh [vl (.str z)]=.ret (.t (.o true)) [vl (.str z)]:=by
  unfold Dh;generalize ("abcdefghijklmnopqrstuvwxyz":Str)=L at jT;rw[AE (AU (h:=nxS) hc rfl)];have e1:itU (fz (Ab 0)) [vl (.str z)]=.ok (signs z) [vl (.str z)]:=rfl;obtain⟨y,hy,e2⟩:=DJ (fe:=Ad (Dq false) (fz (Ab 0)) (gc (.str L))) (f:=λ_=>.o true) (rest:=[]) (signs z) none [] Ar (λt' mt=>by
    unfold signs at mt;rw[rh]at mt;obtain⟨x,mx,rfl⟩:=mt;refine Ae (Au (Aa rfl)) Al ?_;rw[WB,jT x (hl x mx)]) (by
    unfold signs;rw[qw,sj];show 0+z.length<=1000000
    lia)
  have e3:=CL (src:=[none]) e1 ⟨by rw[show Cj [vl (.str z)] _=[]from rfl];exact qU,by rfl⟩ e2 (AJ rfl);have e4:(signs z).map (λ_=>T.o true)=((signs z).map λ_=>true).map T.o:=by rw[rm];rfl
  rw[qV,e4]at e3;refine AK (Cd (An e3 rfl) ?_);simp only[UK,Cu,rA,ED,okT];congr 3;simp
 rw[all];rfl
theorem GP(c:Int)(k:Nat):A3 [vl (.str (nmS c k))]=.ok (.t (.o true)) [vl (.str (nmS c k))]:=by
 refine LP ?_ ?_ ?_
 .show 1<=(Nm.codes c k).toArray.size;rw[qz];exact Nm.K5 c k
 .show(Nm.codes c k).toArray.size<=12;rw[qz];exact Nm.HR c k
 .intro x hx;exact Nm.Ew c k x (by simpa[nmS]using hx)
theorem SW{c:Int}{k k':Nat}(hk:k<12)(gp:k'<12)(h:nmS c k=nmS c k'):k=k':=by refine Nm.Ou (c:=c) hk gp ?_;have:=congrArg (λs:Str=>s.cps.toList) h;simpa[nmS]using this
theorem Aj{f:FS->Out Rv}{g:FS->Out (List Rv)}{fs ag ax:FS}{r:Rv}{rs:List Rv}(h1:f fs=.ok r ag)(h2:g ag=.ok rs ax):Af f g fs=.ok (r::rs) ax:=by unfold Af;rw[h1];show(g ag).bind _=_;rw[h2];rfl
theorem CZ{p:Nat}{Fn:FS->Out Rv}{fa:FS->Out (List Rv)}{fs ag aj τ:FS}{rs:List Rv}{t:T}(ha:fa fs=.ok rs ag)(hp:rs.length=p)(hn:(Cj ag (rs.map By)).Nodup)(hf:Fn (C8 ag (rs.map By))=.ok (.t t) τ)(hb:Ec (rs.map By) τ ag=some aj) :
  Ah (Ak p Fn) fa fs=.ok (.t t) aj:=by
 unfold Ah;rw[ha];show Ak p Fn rs ag=_;unfold Ak;rw[if_pos hp];unfold Gs;rw[if_pos hn,hf];dsimp only;rw[hb]
theorem DW{p:Nat}{Fn:FS->Out Rv}{fa:FS->Out (List Rv)}{fs ag aj τ:FS}{rs:List Rv}{o:FO}(ha:fa fs=.ok rs ag)(hp:rs.length=p)(hn:(Cj ag (rs.map By)).Nodup)(hf:Fn (C8 ag (rs.map By))=.ok (.nw o) τ)(hb:Ec (rs.map By) τ ag=some aj) :
  Ah (Ak p Fn) fa fs=.ok (.nw o) aj:=by
 unfold Ah;rw[ha];show Ak p Fn rs ag=_;unfold Ak;rw[if_pos hp];unfold Gs;rw[if_pos hn,hf];dsimp only;rw[hb]
theorem OI{i:Nat}{f:FS->Out Rv}{fs ag aj:FS}{t:T}{us ts:List T}(h0:fs[i]?=some (some (.own (.lst us))))(h:f fs=.ok (.t t) ag)(kT:ag[i]?=some (some (.own (.lst ts))))(hl:ts.length<big)(e:ag.set i (some (.own (.lst (ts++[t]))))=aj):AS (AH Dc (Ab i) (Ac f Ai)) fs=.nx aj:=by
 have h1:Ab i fs=.ok (.n i) fs:=by unfold Ab;rw[h0]
 have h2:FL.AM fs i=some (.lst us):=by unfold FL.AM;rw[h0]
 have jE:FL.AM ag i=some (.lst ts):=by unfold FL.AM;rw[kT]
 have h3:Cu fs (.n i)=some us:=by simp only[Cu,h2]
 have h4:Ac f Ai fs=.ok [.t t] ag:=A9 h rfl;have h5:Dc (.n i) [.t t] ag=.ok (.t .l) aj:=by
  simp only[Dc,jE];rw[if_pos hl];have:FL.putAt ag i (.lst (ts++[t]))=aj:=by unfold FL.putAt;rw[kT];exact e
  rw[this]
 have h6:AH Dc (Ab i) (Ac f Ai) fs=.ok (.t .l) aj:=by unfold AH;rw[h1];show(if(Cu fs (.n i)).isSome=true then _ else _)=_;rw[h3,if_pos (show(some us).isSome=true from rfl),h4];exact h5
 unfold AS;rw[h6];rfl
noncomputable def Cv:Str×List Str->T:=λr=>.tup [.str r.1,.tup (r.2.map T.str)]
noncomputable def Aw:Str×List (Str×List Str)->T:=λk=>.tup [.str k.1,.lst (k.2.map Cv)]
theorem O3{sc:T}{many:Int}{names makers:List Str}{got:List T}{u a k:Nat}{rows:List (Str×List Str)}{pu:List T}{z1 z2 z3:Int}(hn:0<names.length)(ha:a<=names.length)(hu:u<makers.length)(hr:rows.length<1000) :
  ∃ps:List Str,ps.length<=2/\(∀x∈ps,x∈names.take (if k=0 then a else names.length)) /\
   (Av (AS (AH Dc (Ab 8) (Ac (As Ba (Ac (Ad A1 (Ab 4) (fz (Ab 6))) (Ac (fz (Ah (Ak 4 BE) (Af (fz (Ab 3)) (Af (fz (Ab 7)) (Af (Ad (gEq false) (Ab 9) (gc (.int 0))) (Af (Ab 1) Ai)))))) Ai))) Ai)))
  (Ay 6 (Ad Ao (Ab 6) (gc (.int 1))))) [vl sc,some (.own (.lst (pu++[.int z3]++[.int z2]++[.int z1]))),iv many,vl (.lst (names.map T.str)),vl (.lst (makers.map T.str)),some (.own (.lst got)),iv (u:Int),iv (a:Int),some (.own (.lst (rows.map Cv))),iv (k:Int)] =
   .nx [vl sc,some (.own (.lst pu)),iv many,vl (.lst (names.map T.str)),vl (.lst (makers.map T.str)),some (.own (.lst got)),iv ((u+1:Nat):Int),iv (a:Int),some (.own (.lst ((rows++[(makers.getD u ⟨#[]⟩,ps)]).map Cv))),iv (k:Int)]:=by
 obtain⟨ps,h1,h2,h3⟩:=parts (names:=names) (at':=a) (first:=decide ((k:Int)=0)) (pu:=pu) (z1:=z1) (z2:=z2) (z3:=z3) hn ha;refine⟨ps,h1,?_,?_⟩
 .by_cases hk:k=0
  .subst hk;simpa using h2
  .have:¬((k:Int)=0):=by lia
   rw[qv this]at h2;rw[if_neg hk];simpa using h2
 .have em:atI (makers.map T.str) (u:Int)=some (T.str (makers.getD u ⟨#[]⟩)):=AN (by rw[qX,qo hu];simp[List.getD,hu]);have ek:Ad (gEq false) (Ab 9) (gc (.int 0)) [vl sc,some (.own (.lst (pu++[.int z3]++[.int z2]++[.int z1]))),iv many,vl (.lst (names.map T.str)),vl (.lst (makers.map T.str)),some (.own (.lst got)),iv (u:Int),iv (a:Int),some (.own (.lst (rows.map Cv))),iv (k:Int)]=.ok (.t (.o (decide ((k:Int)=0)))) [vl sc,some (.own (.lst (pu++[.int z3]++[.int z2]++[.int z1]))),iv many,vl (.lst (names.map T.str)),vl (.lst (makers.map T.str)),some (.own (.lst got)),iv (u:Int),iv (a:Int),some (.own (.lst (rows.map Cv))),iv (k:Int)]:=by
   refine Ae (Aa rfl) Al ?_;have q:decide (V.int (k:Int)=V.int 0)=decide ((k:Int)=0):=by
    by_cases h:(k:Int)=0
    .rw[h];simp
    .rw[qv h,qv (by intro z;cases z;exact h rfl)]
   show(if Jx (V.int (k:Int)) (V.int 0)=true then okT (.o (if false=true then _ else decide (V.int (k:Int)=V.int 0))) _ else .bad)=_;rw[if_pos (show Jx (V.int (k:Int)) (V.int 0)=true from rfl),q];rfl
  have ec:=CZ (p:=4) (Fn:=BE) (Aj (Au (Aa (i:=3) rfl)) (Aj (Au (Aa (i:=7) rfl)) (Aj ek (Aj (show Ab 1 _=.ok (.n 1) _ from rfl) (show Ai _=.ok [] _ from rfl))))) rfl (by rw[show Cj _ _=[1]from rfl];simp) h3 rfl;rw[AE (OI (i:=8) rfl (BQ (g:=Ba) (ts:=[T.str (makers.getD u ⟨#[]⟩),T.tup (ps.map T.str)]) (A9 (Ae (Aa rfl) (Au (Aa rfl)) (Bh rfl em)) (A9 (Ck ec) (show Ai _=.ok [] _ from rfl))) rfl (show 2<=big by decide) rfl) rfl (by rw[qw];show _<1000000;lia) rfl)];have e1:rows.map Cv++[T.tup [T.str (makers.getD u ⟨#[]⟩),T.tup (ps.map T.str)]]=(rows++[(makers.getD u ⟨#[]⟩,ps)]).map Cv:=by rw[qF];rfl
  rw[<- e1];exact AF (Ae (Aa rfl) Al A0) rfl
theorem LM{α:Type}{xs:List α}(h:1<=xs.length):∃e z,xs=e++[z]/\e.length+1=xs.length:=by
 have b7:xs≠[]:=by intro q;rw[q]at h;simp at h
 exact⟨xs.dropLast,xs.getLast b7,(List.dropLast_concat_getLast b7).symm,by rw[List.length_dropLast];lia⟩
theorem YS{ds:List Int}(h:3<=ds.length):∃(e:List Int)(z1 z2 z3:Int),ds.map T.int=e.map T.int++[.int z3]++[.int z2]++[.int z1]/\e.length+3=ds.length:=by obtain⟨d1,z1,rfl,h1⟩:=LM (xs:=ds) (by lia);obtain⟨d2,z2,rfl,h2⟩:=LM (xs:=d1) (by lia);obtain⟨d3,z3,rfl,h3⟩:=LM (xs:=d2) (by lia);exact⟨d3,z1,z2,z3,by simp,by simp at h ⊢⟩
structure Rows(names makers:List Str)(a u:Nat)(rows:List (Str×List Str)):Prop where
 mks:rows.map (·.1)=(List.range rows.length).map λj=>makers.getD (u+j) ⟨#[]⟩
 two:∀r∈rows,r.2.length<=2
 zm:∀r∈rows,∀x∈r.2,x∈names
 fst:∀r,rows[0]?=some r->∀x∈r.2,x∈names.take a
theorem Rows.nil{names makers:List Str}{a u:Nat}:Rows names makers a u []:=⟨rfl,(λ_ m=>nomatch m),(λ_ m=>nomatch m),(λ_ e=>nomatch e)⟩
theorem Rows.snoc{names makers:List Str}{a u:Nat}{rows:List (Str×List Str)}(R:Rows names makers a u rows){ps:List Str}(h1:ps.length<=2)(h2:∀x∈ps,x∈names.take (if rows.length=0 then a else names.length)):Rows names makers a u (rows++[(makers.getD (u+rows.length) ⟨#[]⟩,ps)]):=by
 refine⟨?_,λr m=>?_,λr m x hx=>?_,λr e x hx=>?_⟩
 .rw[qF,R.mks,qA,rQ,List.range_succ,qF];rfl
 .rcases qC.mp m with m|m
  .exact R.two r m
  .rw[qQ.mp m];exact h1
 .rcases qC.mp m with m|m
  .exact R.zm r m x hx
  .rw[qQ.mp m]at hx;exact sQ (h2 x hx)
 .cases rows with
  |nil =>
   have:r=(makers.getD (u+0) ⟨#[]⟩,ps):=by simpa using e.symm
   rw[this]at hx;simpa using h2 x hx
  |cons r0 rs =>exact R.fst r (by simpa using e) x hx
theorem MF{sc:T}{many:Int}{names makers:List Str}{got:List T}{u a n:Nat}{ds:List Int}{x9:Option Sl}(hn:0<names.length)(ha:a<=names.length)(hu:u+n<=makers.length)(hd:3*n<=ds.length)(dM:n<=100)(h9:Fre x9) :
  ∃(rows:List (Str×List Str))(es:List Int)(y9:Option Sl),rows.length=n/\Rows names makers a u rows/\es.length+3*n=ds.length/\Fre y9/\Cy (tgN 9) (Av (AS (AH Dc (Ab 8) (Ac (As Ba (Ac (Ad A1 (Ab 4) (fz (Ab 6))) (Ac (fz (Ah (Ak 4 BE) (Af (fz (Ab 3)) (Af (fz (Ab 7)) (Af (Ad (gEq false) (Ab 9) (gc (.int 0))) (Af (Ab 1) Ai)))))) Ai))) Ai)))
  (Ay 6 (Ad Ao (Ab 6) (gc (.int 1))))) (FL.upTo 0 n) [vl sc,some (.own (.lst (ds.map T.int))),iv many,vl (.lst (names.map T.str)),vl (.lst (makers.map T.str)),some (.own (.lst got)),iv (u:Int),iv (a:Int),some (.own (.lst [])),x9] =
   .nx [vl sc,some (.own (.lst (es.map T.int))),iv many,vl (.lst (names.map T.str)),vl (.lst (makers.map T.str)),some (.own (.lst got)),iv ((u+n:Nat):Int),iv (a:Int),some (.own (.lst (rows.map Cv))),y9]:=by
 obtain⟨aj,ef,rows,es,y9,rfl,hle,R,he,f9,dN⟩:=Cr (gt:=tgN 9) (body:=(Av (AS (AH Dc (Ab 8) (Ac (As Ba (Ac (Ad A1 (Ab 4) (fz (Ab 6))) (Ac (fz (Ah (Ak 4 BE) (Af (fz (Ab 3)) (Af (fz (Ab 7)) (Af (Ad (gEq false) (Ab 9) (gc (.int 0))) (Af (Ab 1) Ai)))))) Ai))) Ai)))
  (Ay 6 (Ad Ao (Ab 6) (gc (.int 1))))))
  (λts fs=>∃(rows:List (Str×List Str))(es:List Int)(y9:Option Sl),fs=[vl sc,some (.own (.lst (es.map T.int))),iv many,vl (.lst (names.map T.str)),vl (.lst (makers.map T.str)),some (.own (.lst got)),iv ((u+rows.length:Nat):Int),iv (a:Int),some (.own (.lst (rows.map Cv))),y9]/\rows.length<=n/\Rows names makers a u rows/\es.length+3*rows.length=ds.length/\Fre y9/\ts=(FL.upTo 0 n).drop rows.length)
  (λt' ts fs h=>by
   obtain⟨rows,es,y9,rfl,hle,R,he,f9,dN⟩:=h;have bc:rows.length<n:=by
    have:=congrArg List.length dN;simp[FL.upTo]at this
    lia
   have hc:=rY (l:=FL.upTo 0 n) (i:=rows.length) (by simp[FL.upTo];exact bc);rw[hc]at dN;obtain⟨e1,e2⟩:=List.cons.inj dN;have e3:t'=T.int (rows.length:Int):=by rw[e1];simp[FL.upTo]
   subst e3;obtain⟨e,z1,z2,z3,nu,el⟩:=YS (ds:=es) (by lia);obtain⟨ps,p1,p2,p3⟩:=O3 (sc:=sc) (many:=many) (names:=names) (makers:=makers) (got:=got) (u:=u+rows.length) (a:=a) (k:=rows.length) (rows:=rows) (pu:=e.map T.int) (z1:=z1) (z2:=z2) (z3:=z3) hn ha (by lia) (by lia);rw[nu];refine⟨_,_,(by unfold tgN;exact AY rfl f9),p3,rows++[(makers.getD (u+rows.length) ⟨#[]⟩,ps)],e,iv (rows.length:Int),?_,by simp;lia,R.snoc p1 p2,by simp;lia,AG,?_⟩
   .rw[qA,rQ];rfl
   .rw[e2,qA,rQ])
  (FL.upTo 0 n) [vl sc,some (.own (.lst (ds.map T.int))),iv many,vl (.lst (names.map T.str)),vl (.lst (makers.map T.str)),some (.own (.lst got)),iv (u:Int),iv (a:Int),some (.own (.lst [])),x9] ⟨[],ds,x9,rfl,rX _,Rows.nil,by simp,h9,rfl⟩
 have dE:rows.length=n:=by
  have:=congrArg List.length dN;simp[FL.upTo]at this
  lia
 refine⟨rows,es,y9,dE,R,by lia,f9,?_⟩;rw[ef,dE]
theorem JA{i:Nat}{fs aj:FS}{t:T}{ts:List T}(h0:fs[i]?=some (some (.own (.lst (ts++[t])))))(e:fs.set i (some (.own (.lst ts)))=aj):fz (AH Fc (Ab i) Ai) fs=.ok (.t t) aj:=by
 have h1:Ab i fs=.ok (.n i) fs:=by unfold Ab;rw[h0]
 have h2:FL.AM fs i=some (.lst (ts++[t])):=by unfold FL.AM;rw[h0]
 have h3:Cu fs (.n i)=some (ts++[t]):=by simp only[Cu,h2]
 have h5:Fc (.n i) [] fs=.ok (.t t) aj:=by
  have:FL.putAt fs i (.lst ts)=aj:=by unfold FL.putAt;rw[h0];exact e
  simp only[Fc,h2,sR,sA,this,okT]
 refine Ck ?_;unfold AH;rw[h1];show(if(Cu fs (.n i)).isSome=true then _ else _)=_;rw[h3,if_pos (show(some (ts++[t])).isSome=true from rfl)];exact h5
theorem MK{j:Int}{fs ag:FS}{fa:FS->Out (List Rv)}(e:fa fs=.ok [.t (.int j)] ag)(h:-(2^62)<=j/\j<2^62):GF fa fs=.ok (FL.upTo 0 j.toNat) ag:=by unfold GF;rw[e];simp only[Out.bind];exact if_pos h
theorem TV{n:Nat}{fa:FS->Out (List Rv)}{gt:T->FS->Option FS}{body:FS->SO}{fs ag:FS}{r:SO}(e:fa fs=.ok [.t (.int (n:Int))] ag)(h:n<2^62)(ef:Cy gt body (FL.upTo 0 n) ag=r):Dd (GF fa) gt body fs=r:=by have q:=MK e ⟨by lia,by lia⟩;rw[rO]at q;unfold Dd;rw[q];exact ef
noncomputable def Bb(many:Nat):Nat:=if many=4 then 3 else 4
theorem Ny{sc:T}{many a u:Nat}{names makers:List Str}{K:List (Str×List (Str×List Str))}{ds:List Int}{x8 x9:Option Sl}(hn:names.length=many)(ha:a<many)(hu:u+Bb many<=makers.length)(hd:13<=ds.length)(h8:Fre x8)(h9:Fre x9)(hK:K.length<100) :
  ∃(rows:List (Str×List Str))(es:List Int)(y8 y9:Option Sl),1<=rows.length/\rows.length<=Bb many/\Rows names makers a u rows/\ds.length<=es.length+13/\Fre y8/\Fre y9 /\
   (Av (Ay 8 (As Cq Ai))
  (Av (Dd (GF (Ac (Ad Ao (gc (.int 1)) (Ad Bk (fz (AH Fc (Ab 1) Ai)) (Ad A1 (As A4 (Ac (gc (.int 4)) (Ac (gc (.int 3)) Ai))) (Ah EV (Ac (Ad (gEq false) (Ab 2) (gc (.int 4))) Ai))))) Ai)) (tgN 9) (Av (AS (AH Dc (Ab 8) (Ac (As Ba (Ac (Ad A1 (Ab 4) (fz (Ab 6))) (Ac (fz (Ah (Ak 4 BE) (Af (fz (Ab 3)) (Af (fz (Ab 7)) (Af (Ad (gEq false) (Ab 9) (gc (.int 0))) (Af (Ab 1) Ai)))))) Ai))) Ai)))
  (Ay 6 (Ad Ao (Ab 6) (gc (.int 1))))))
  (AS (AH Dc (Ab 5) (Ac (As Ba (Ac (Ad A1 (Ab 3) (fz (Ab 7))) (Ac (fz (Ab 8)) Ai))) Ai)))))
   [vl sc,some (.own (.lst (ds.map T.int))),iv (many:Int),vl (.lst (names.map T.str)),vl (.lst (makers.map T.str)),some (.own (.lst (K.map Aw))),iv (u:Int),iv (a:Int),x8,x9] =
   .nx [vl sc,some (.own (.lst (es.map T.int))),iv (many:Int),vl (.lst (names.map T.str)),vl (.lst (makers.map T.str)),some (.own (.lst ((K++[(names.getD a ⟨#[]⟩,rows)]).map Aw))),iv ((u+rows.length:Nat):Int),iv (a:Int),y8,y9]:=by
 obtain⟨d1,z,rfl,ig⟩:=LM (xs:=ds) (by lia);have j3:Bb many=3\/Bb many=4:=by unfold Bb;split<;>simp
 have em:atI [T.int 4,T.int 3] (if many=4 then 1 else 0:Int)=some (T.int (Bb many:Int)):=by
  unfold Bb;by_cases h:many=4
  .rw[if_pos h,if_pos h];exact AN (j:=1) rfl
  .rw[if_neg h,if_neg h];exact AN (j:=0) rfl
 have qc:0<=z%(Bb many:Int):=rT _ (by lia);have qd:z%(Bb many:Int)<Bb many:=rK _ (by lia);obtain⟨n,hn1⟩:∃n:Nat,(n:Int)=1+z%(Bb many:Int):=⟨(1+z%(Bb many:Int)).toNat,by lia⟩
 have s8:Ay 8 (As Cq Ai) [vl sc,some (.own (.lst ((d1++[z]).map T.int))),iv (many:Int),vl (.lst (names.map T.str)),vl (.lst (makers.map T.str)),some (.own (.lst (K.map Aw))),iv (u:Int),iv (a:Int),x8,x9] =
   .nx [vl sc,some (.own (.lst (d1.map T.int++[T.int z]))),iv (many:Int),vl (.lst (names.map T.str)),vl (.lst (makers.map T.str)),some (.own (.lst (K.map Aw))),iv (u:Int),iv (a:Int),some (.own (.lst [])),x9]:=by
  rw[qF];cases x8 with|none=>rfl|some s=>cases s with|val t=>rfl|own o=>rfl|bor o=>exact h8.elim
 obtain⟨rows,es,y9,r1,R,r2,f9,er⟩:=MF (sc:=sc) (many:=(many:Int)) (names:=names) (makers:=makers) (got:=K.map Aw) (u:=u) (a:=a) (n:=n) (ds:=d1) (x9:=x9) (by lia) (by lia) (by lia) (by lia) (by lia) h9;have eq4:Ad (gEq false) (Ab 2) (gc (.int 4)) [vl sc,some (.own (.lst (d1.map T.int))),iv (many:Int),vl (.lst (names.map T.str)),vl (.lst (makers.map T.str)),some (.own (.lst (K.map Aw))),iv (u:Int),iv (a:Int),some (.own (.lst [])),x9]=.ok (.t (.o (decide (many=4)))) [vl sc,some (.own (.lst (d1.map T.int))),iv (many:Int),vl (.lst (names.map T.str)),vl (.lst (makers.map T.str)),some (.own (.lst (K.map Aw))),iv (u:Int),iv (a:Int),some (.own (.lst [])),x9]:=by
  refine Ae (Aa rfl) Al ?_;have q:decide (V.int (many:Int)=V.int 4)=decide (many=4):=by
   by_cases h:many=4
   .rw[h];rfl
   .rw[qv h,qv (by intro z;cases z;exact h rfl)]
  show(if Jx (V.int (many:Int)) (V.int 4)=true then okT (.o (if false=true then _ else decide (V.int (many:Int)=V.int 4))) _ else .bad)=_;rw[if_pos (show Jx (V.int (many:Int)) (V.int 4)=true from rfl),q];rfl
 have ei:Ah EV (Ac (Ad (gEq false) (Ab 2) (gc (.int 4))) Ai) [vl sc,some (.own (.lst (d1.map T.int))),iv (many:Int),vl (.lst (names.map T.str)),vl (.lst (makers.map T.str)),some (.own (.lst (K.map Aw))),iv (u:Int),iv (a:Int),some (.own (.lst [])),x9]=.ok (.t (.int (if many=4 then 1 else 0))) [vl sc,some (.own (.lst (d1.map T.int))),iv (many:Int),vl (.lst (names.map T.str)),vl (.lst (makers.map T.str)),some (.own (.lst (K.map Aw))),iv (u:Int),iv (a:Int),some (.own (.lst [])),x9]:=by
  refine Cd (An eq4 rfl) ?_;show okT (.int (if decide (many=4)=true then 1 else 0)) _=_;by_cases h:many=4
  .rw[if_pos h,qE h];rfl
  .rw[if_neg h,qv h];rfl
 have ec:Ac (Ad Ao (gc (.int 1)) (Ad Bk (fz (AH Fc (Ab 1) Ai)) (Ad A1 (As A4 (Ac (gc (.int 4)) (Ac (gc (.int 3)) Ai))) (Ah EV (Ac (Ad (gEq false) (Ab 2) (gc (.int 4))) Ai))))) Ai [vl sc,some (.own (.lst (d1.map T.int++[T.int z]))),iv (many:Int),vl (.lst (names.map T.str)),vl (.lst (makers.map T.str)),some (.own (.lst (K.map Aw))),iv (u:Int),iv (a:Int),some (.own (.lst [])),x9]=.ok [.t (.int (n:Int))] [vl sc,some (.own (.lst (d1.map T.int))),iv (many:Int),vl (.lst (names.map T.str)),vl (.lst (makers.map T.str)),some (.own (.lst (K.map Aw))),iv (u:Int),iv (a:Int),some (.own (.lst [])),x9]:=by rw[hn1];exact A9 (E3 Al (E3 (JA (ts:=d1.map T.int) rfl rfl) (Ae (Cb rfl rfl (by decide)) ei (Bh rfl em)) (Bj (by lia))) A0) rfl
 have en:atI (names.map T.str) (a:Int)=some (T.str (names.getD a ⟨#[]⟩)):=AN (by
  have eI:a<names.length:=by lia
  rw[qX,qo eI];simp[List.getD,eI])
 refine⟨rows,es,vl (.lst (rows.map Cv)),y9,by lia,by lia,R,by simp at ig ⊢;lia,AG,f9,?_⟩;rw[AE s8,AE (TV ec (by lia) er)];have e1:K.map Aw++[T.tup [T.str (names.getD a ⟨#[]⟩),T.lst (rows.map Cv)]]=(K++[(names.getD a ⟨#[]⟩,rows)]).map Aw:=by rw[qF];rfl
 rw[<- e1,r1];exact OI (i:=5) rfl (BQ (g:=Ba) (ts:=[T.str (names.getD a ⟨#[]⟩),T.lst (rows.map Cv)]) (A9 (Ae (Aa rfl) (Au (Aa rfl)) (Bh rfl en)) (A9 (show fz (Ab 8) _=.ok (.t (.lst (rows.map Cv))) _ from rfl) (show Ai _=.ok [] _ from rfl))) rfl (show 2<=big by decide) rfl) rfl (by rw[qw];show _<1000000;lia) rfl
abbrev Kd:=List (Str×List (Str×List Str))
noncomputable def used(K:Kd):Nat:=(K.map (·.2.length)).sum
structure KOk(names makers:List Str)(K:Kd):Prop where
 at_:∀a kd,K[a]?=some kd->kd.1=names.getD a ⟨#[]⟩/\1<=kd.2.length/\kd.2.length<=4/\Rows names makers a (used (K.take a)) kd.2
theorem KOk.nil{names makers:List Str}:KOk names makers []:=⟨λa kd e=>by simp at e⟩
theorem KOk.snoc{names makers:List Str}{K:Kd}(h:KOk names makers K){rows:List (Str×List Str)}(h1:1<=rows.length)(h2:rows.length<=4)(R:Rows names makers K.length (used K) rows):KOk names makers (K++[(names.getD K.length ⟨#[]⟩,rows)]):=by
 refine⟨λa kd e=>?_⟩;rcases Nat.lt_trichotomy a K.length with q|q|q
 .rw[sC q]at e;have:=h.at_ a kd e;rwa[List.take_append_of_le_length (by lia)]
 .subst q;have e':kd=(names.getD K.length ⟨#[]⟩,rows):=by simpa using e.symm
  subst e';refine⟨rfl,h1,h2,?_⟩;rw[List.take_left']
  .exact R
  .rfl
 .rw[rq (by simp;lia)]at e;cases e
theorem Ic{K:Kd}{k:Str}{rows:List (Str×List Str)}:used (K++[(k,rows)])=used K+rows.length:=by unfold used;simp
theorem Hk{i:Nat}{f:FS->Out Rv}{fs ag aj:FS}{o:FO}(h:f fs=.ok (.nw o) ag)(hs:Hi i (.nw o) ag=some aj):Ay i f fs=.nx aj:=by unfold Ay;rw[h];show(match Hi i (.nw o) ag with|some fs=>SO.nx fs|none=>.bad)=_;rw[hs]
theorem Gf{f:FS->Out Rv}{fs ag:FS}{o:FO}(h:f fs=.ok (.nw o) ag):fz f fs=.ok (.t (toT o)) ag:=by unfold fz;rw[h];rfl
theorem LN{sc:T}{many:Nat}{names makers:List Str}{ds:List Int}(hn:names.length=many)(hm:many<=4)(om:makers.length=12)(hd:60<=ds.length) :
  ∃(K:Kd)(x1 x6 x7 x8 x9:Option Sl),K.length=many/\KOk names makers K/\used K<=12/\Cy (tgN 7) (Av (Ay 8 (As Cq Ai))
  (Av (Dd (GF (Ac (Ad Ao (gc (.int 1)) (Ad Bk (fz (AH Fc (Ab 1) Ai)) (Ad A1 (As A4 (Ac (gc (.int 4)) (Ac (gc (.int 3)) Ai))) (Ah EV (Ac (Ad (gEq false) (Ab 2) (gc (.int 4))) Ai))))) Ai)) (tgN 9) (Av (AS (AH Dc (Ab 8) (Ac (As Ba (Ac (Ad A1 (Ab 4) (fz (Ab 6))) (Ac (fz (Ah (Ak 4 BE) (Af (fz (Ab 3)) (Af (fz (Ab 7)) (Af (Ad (gEq false) (Ab 9) (gc (.int 0))) (Af (Ab 1) Ai)))))) Ai))) Ai)))
  (Ay 6 (Ad Ao (Ab 6) (gc (.int 1))))))
  (AS (AH Dc (Ab 5) (Ac (As Ba (Ac (Ad A1 (Ab 3) (fz (Ab 7))) (Ac (fz (Ab 8)) Ai))) Ai))))) (FL.upTo 0 many) [vl sc,some (.own (.lst (ds.map T.int))),iv (many:Int),vl (.lst (names.map T.str)),vl (.lst (makers.map T.str)),some (.own (.lst [])),iv 0,none,none,none] =
   .nx [vl sc,x1,iv (many:Int),vl (.lst (names.map T.str)),vl (.lst (makers.map T.str)),some (.own (.lst (K.map Aw))),x6,x7,x8,x9]:=by
 have j3:(Bb many=3/\many=4)\/(Bb many=4/\many<=3):=by unfold Bb;split<;>lia
 obtain⟨aj,ef,K,es,x7,x8,x9,rfl,hle,KO,hu,he,f7,f8,f9,dN⟩:=Cr (gt:=tgN 7) (body:=(Av (Ay 8 (As Cq Ai))
  (Av (Dd (GF (Ac (Ad Ao (gc (.int 1)) (Ad Bk (fz (AH Fc (Ab 1) Ai)) (Ad A1 (As A4 (Ac (gc (.int 4)) (Ac (gc (.int 3)) Ai))) (Ah EV (Ac (Ad (gEq false) (Ab 2) (gc (.int 4))) Ai))))) Ai)) (tgN 9) (Av (AS (AH Dc (Ab 8) (Ac (As Ba (Ac (Ad A1 (Ab 4) (fz (Ab 6))) (Ac (fz (Ah (Ak 4 BE) (Af (fz (Ab 3)) (Af (fz (Ab 7)) (Af (Ad (gEq false) (Ab 9) (gc (.int 0))) (Af (Ab 1) Ai)))))) Ai))) Ai)))
  (Ay 6 (Ad Ao (Ab 6) (gc (.int 1))))))
  (AS (AH Dc (Ab 5) (Ac (As Ba (Ac (Ad A1 (Ab 3) (fz (Ab 7))) (Ac (fz (Ab 8)) Ai))) Ai))))))
  (λts fs=>∃(K:Kd)(es:List Int)(x7 x8 x9:Option Sl),fs=[vl sc,some (.own (.lst (es.map T.int))),iv (many:Int),vl (.lst (names.map T.str)),vl (.lst (makers.map T.str)),some (.own (.lst (K.map Aw))),iv ((used K:Nat):Int),x7,x8,x9]/\K.length<=many/\KOk names makers K/\used K<=K.length*Bb many/\ds.length<=es.length+13*K.length/\Fre x7/\Fre x8/\Fre x9/\ts=(FL.upTo 0 many).drop K.length)
  (λt' ts fs h=>by
   obtain⟨K,es,x7,x8,x9,rfl,hle,KO,hu,he,f7,f8,f9,dN⟩:=h;have bc:K.length<many:=by
    have:=congrArg List.length dN;simp[FL.upTo]at this
    lia
   have hc:=rY (l:=FL.upTo 0 many) (i:=K.length) (by simp[FL.upTo];exact bc);rw[hc]at dN;obtain⟨e1,e2⟩:=List.cons.inj dN;have e3:t'=T.int (K.length:Int):=by rw[e1];simp[FL.upTo]
   subst e3;have lu:used K+Bb many<=12:=by
    rcases j3 with⟨q1,q2⟩|⟨q1,q2⟩
    .rw[q1]at hu ⊢;lia
    .rw[q1]at hu ⊢;lia
   obtain⟨rows,cg,y8,y9,r1,r2,R,r3,g8,g9,e⟩:=Ny (sc:=sc) (many:=many) (a:=K.length) (u:=used K) (names:=names) (makers:=makers) (K:=K) (ds:=es) (x8:=x8) (x9:=x9) hn bc (by lia) (by lia) f8 f9 (by lia);refine⟨_,_,(by unfold tgN;exact AY rfl f7),e,K++[(names.getD K.length ⟨#[]⟩,rows)],cg,iv (K.length:Int),y8,y9,?_,by simp;lia,KO.snoc r1 (by lia) R,?_,by simp;lia,AG,g8,g9,?_⟩
   .rw[Ic]
   .rw[Ic,qA,rQ,tE]
    lia
   .rw[e2,qA,rQ])
  (FL.upTo 0 many) [vl sc,some (.own (.lst (ds.map T.int))),iv (many:Int),vl (.lst (names.map T.str)),vl (.lst (makers.map T.str)),some (.own (.lst [])),iv 0,none,none,none] ⟨[],ds,none,none,none,rfl,rX _,KOk.nil,by simp[used],by simp,Ar,Ar,Ar,rfl⟩
 have dE:K.length=many:=by
  have:=congrArg List.length dN;simp[FL.upTo]at this
  lia
 refine⟨K,_,_,_,_,_,dE,KO,?_,ef⟩;rcases j3 with⟨q1,q2⟩|⟨q1,q2⟩
 .rw[q1,dE]at hu;lia
 .rw[q1,dE]at hu;lia
theorem DC(c:Int)(n:Nat):(nms c n).length=n:=by unfold nms;simp
theorem kinds{ns:List Int}(h0:Builtin.Int.intBits (ns.getD 0 0)<=2^20)(h1:Builtin.Int.intBits (ns.getD 1 0)<=2^20) :
  ∃(K:Kd),1<=K.length/\K.length<=4/\KOk (nms (ns.getD 0 0) K.length) (nms (ns.getD 1 0) 12) K/\used K<=12/\DS [vl (.z7 (ns.map T.int))]=.ok (.nw (.lst (K.map Aw))) [vl (.z7 (ns.map T.int))]:=by
 obtain⟨ds,hd,ed⟩:=digits (t:=.z7 (ns.map T.int)) (ns:=ns) (.inl rfl) (a:=0) (b:=3) (by decide) (by decide) (by decide) (by decide);have jy:=J3 ns 0;have jz:=J3 ns 1;generalize hS:T.z7 (ns.map T.int)=sc at ed jy jz ⊢;obtain⟨d1,z,rfl,ig⟩:=LM (xs:=ds) (by lia);have s1:Ay 1 (Ah (Ak 3 BM) (Af (fz (Ab 0)) (Af (gc (.int 0)) (Af (gc (.int 3)) Ai)))) [vl sc,none,none,none,none,none,none,none,none,none]=.nx [vl sc,some (.own (.lst (d1.map T.int++[T.int z]))),none,none,none,none,none,none,none,none]:=by have e:=DW (p:=3) (Fn:=BM) (fs:=[vl sc,none,none,none,none,none,none,none,none,none]) (Aj (Au (Aa (i:=0) rfl)) (Aj (Al (t:=.int 0)) (Aj (Al (t:=.int 3)) (show Ai _=.ok [] _ from rfl)))) rfl (by rw[show Cj _ _=[]from rfl];exact qU) ed (AJ rfl);rw[qF]at e;exact Hk e rfl
 have hq:∃q:Nat,1<=q/\q<=4/\atI [T.int 1,T.int 2,T.int 3,T.int 2,T.int 1,T.int 4,T.int 2,T.int 3] (z%8)=some (T.int (q:Int)):=by
  have h:z%8=((0:Nat):Int)\/z%8=((1:Nat):Int)\/z%8=((2:Nat):Int)\/z%8=((3:Nat):Int)\/z%8=((4:Nat):Int)\/z%8=((5:Nat):Int)\/z%8=((6:Nat):Int)\/z%8=((7:Nat):Int):=by lia
  rcases h with h|h|h|h|h|h|h|h<;>rw[h]
  .exact⟨1,by lia,by lia,AN rfl⟩
  .exact⟨2,by lia,by lia,AN rfl⟩
  .exact⟨3,by lia,by lia,AN rfl⟩
  .exact⟨2,by lia,by lia,AN rfl⟩
  .exact⟨1,by lia,by lia,AN rfl⟩
  .exact⟨4,by lia,by lia,AN rfl⟩
  .exact⟨2,by lia,by lia,AN rfl⟩
  .exact⟨3,by lia,by lia,AN rfl⟩
 obtain⟨q,q1,q4,eq⟩:=hq;have s2:Ay 2 (Ad A1 (As A4 (Ac (gc (.int 1)) (Ac (gc (.int 2)) (Ac (gc (.int 3)) (Ac (gc (.int 2)) (Ac (gc (.int 1)) (Ac (gc (.int 4)) (Ac (gc (.int 2)) (Ac (gc (.int 3)) Ai))))))))) (Ad Bk (fz (AH Fc (Ab 1) Ai)) (gc (.int 8)))) [vl sc,some (.own (.lst (d1.map T.int++[T.int z]))),none,none,none,none,none,none,none,none]=.nx [vl sc,some (.own (.lst (d1.map T.int))),iv (q:Int),none,none,none,none,none,none,none] :=
  C3 (E3 (Cb rfl rfl (by decide)) (E3 (JA (ts:=d1.map T.int) rfl rfl) Al (Bj (by decide))) (Bh rfl eq)) rfl
 have kK:=names (c:=ns.getD 0 0) (n:=q) (by lia) h0;have kL:=names (c:=ns.getD 1 0) (n:=12) (by lia) h1;generalize ns.getD 0 0=c0 at jy kK ⊢;generalize ns.getD 1 0=c1 at jz kL ⊢;have s3:Ay 3 (fz (Ah (Ak 2 BO) (Af (fz (Ah (Ak 2 A7) (Af (fz (Ab 0)) (Af (gc (.int 0)) Ai)))) (Af (fz (Ab 2)) Ai)))) [vl sc,some (.own (.lst (d1.map T.int))),iv (q:Int),none,none,none,none,none,none,none]=.nx [vl sc,some (.own (.lst (d1.map T.int))),iv (q:Int),vl (.lst ((nms c0 q).map T.str)),none,none,none,none,none,none]:=by have e1:=CZ (p:=2) (Fn:=A7) (fs:=[vl sc,some (.own (.lst (d1.map T.int))),iv (q:Int),none,none,none,none,none,none,none]) (Aj (Au (Aa (i:=0) rfl)) (Aj (Al (t:=.int 0)) (show Ai _=.ok [] _ from rfl))) rfl (by rw[show Cj _ _=[]from rfl];exact qU) jy (AJ rfl);have e2:=DW (p:=2) (Fn:=BO) (Aj (Ck e1) (Aj (Au (Aa (i:=2) rfl)) (show Ai _=.ok [] _ from rfl))) rfl (by rw[show Cj _ _=[]from rfl];exact qU) kK (AJ rfl);exact C3 (Gf e2) rfl
 have s4:Ay 4 (fz (Ah (Ak 2 BO) (Af (fz (Ah (Ak 2 A7) (Af (fz (Ab 0)) (Af (gc (.int 1)) Ai)))) (Af (gc (.int 12)) Ai)))) [vl sc,some (.own (.lst (d1.map T.int))),iv (q:Int),vl (.lst ((nms c0 q).map T.str)),none,none,none,none,none,none]=.nx [vl sc,some (.own (.lst (d1.map T.int))),iv (q:Int),vl (.lst ((nms c0 q).map T.str)),vl (.lst ((nms c1 12).map T.str)),none,none,none,none,none]:=by have e1:=CZ (p:=2) (Fn:=A7) (fs:=[vl sc,some (.own (.lst (d1.map T.int))),iv (q:Int),vl (.lst ((nms c0 q).map T.str)),none,none,none,none,none,none]) (Aj (Au (Aa (i:=0) rfl)) (Aj (Al (t:=.int 1)) (show Ai _=.ok [] _ from rfl))) rfl (by rw[show Cj _ _=[]from rfl];exact qU) jz (AJ rfl);have e2:=DW (p:=2) (Fn:=BO) (Aj (Ck e1) (Aj (Al (t:=.int 12)) (show Ai _=.ok [] _ from rfl))) rfl (by rw[show Cj _ _=[]from rfl];exact qU) kL (AJ rfl);exact C3 (Gf e2) rfl
 obtain⟨K,x1,x6,x7,x8,x9,hK,KO,hu,ef⟩:=LN (sc:=sc) (many:=q) (names:=nms c0 q) (makers:=nms c1 12) (ds:=d1) (DC _ _) q4 (DC _ _) (by lia);have s5:Ay 5 (As Cq Ai) [vl sc,some (.own (.lst (d1.map T.int))),iv (q:Int),vl (.lst ((nms c0 q).map T.str)),vl (.lst ((nms c1 12).map T.str)),none,none,none,none,none]=.nx [vl sc,some (.own (.lst (d1.map T.int))),iv (q:Int),vl (.lst ((nms c0 q).map T.str)),vl (.lst ((nms c1 12).map T.str)),some (.own (.lst [])),none,none,none,none]:=rfl;have s6:Ay 6 (gc (.int 0)) [vl sc,some (.own (.lst (d1.map T.int))),iv (q:Int),vl (.lst ((nms c0 q).map T.str)),vl (.lst ((nms c1 12).map T.str)),some (.own (.lst [])),none,none,none,none]=.nx [vl sc,some (.own (.lst (d1.map T.int))),iv (q:Int),vl (.lst ((nms c0 q).map T.str)),vl (.lst ((nms c1 12).map T.str)),some (.own (.lst [])),iv 0,none,none,none]:=rfl;have all:Fy [vl sc,none,none,none,none,none,none,none,none,none]=.ret (.n 5) [vl sc,x1,iv (q:Int),vl (.lst ((nms c0 q).map T.str)),vl (.lst ((nms c1 12).map T.str)),some (.own (.lst (K.map Aw))),x6,x7,x8,x9]:=by unfold Fy;rw[AE s1,AE s2,AE s3,AE s4,AE s5,AE s6,AE (NX (n:=q) (fa:=Ac (Ab 2) Ai) (An (Aa rfl) rfl) (by lia) ef)];rfl
 refine⟨K,by lia,by lia,by rw[hK];exact KO,hu,?_⟩;unfold DS B2;show(match Fy [vl sc,none,none,none,none,none,none,none,none,none]with|.nx τ=>_|.ret (.t t) τ=>_|.ret (.nw o) τ=>_|.ret (.n i) τ=>_|.exc c τ=>_|_=>_)=_;rw[all];rfl
theorem Q8{fv fi:FS->Out Rv}{o:Nat}{fs aj:FS}{v:T}{k:Str}{ks:List Key}{ts:List T}(h0:fs[o]?=some (some (.own (.v ks ts))))(hv:fv fs=.ok (.t v) fs)(hi:fi fs=.ok (.t (.str k)) fs)(hn:(ks.any λk'=>decide (k'=(.inr k:Key)))=false)(hl:ks.length<big)
  (e:fs.set o (some (.own (.v (ks++[.inr k]) (ts++[v]))))=aj):Eh fv (Ab o) fi fs=.nx aj:=by
 have h1:Ab o fs=.ok (.n o) fs:=by unfold Ab;rw[h0]
 have h2:FL.AM fs o=some (.v ks ts):=by unfold FL.AM;rw[h0]
 have h3:Hq ks ts (.inr k:Key) v=(ks++[.inr k],ts++[v]):=by unfold Hq;rw[hn];rfl
 have h4:FL.putAt fs o (.v (ks++[.inr k]) (ts++[v]))=aj:=by unfold FL.putAt;rw[h0];exact e
 have h5:Qf (.n o) (.t (.str k)) (.t v) fs=.bad:=rfl;have h6:NP (.n o) (.t (.str k)) (.t v) fs=.nx aj:=by simp only[NP,h2,Lo,hl,if_true,h3,h4]
 unfold Eh;rw[hv];simp only[Out.bnd,Out.bind];rw[h1];simp only;rw[hi];simp only[SO.of];unfold Tz;rw[h5];exact h6
theorem Ef{i j:Nat}{fs ag ax:FS}{x y:T}(h1:tgN i x fs=some ag)(h2:tgN j y ag=some ax):Bo 2 (Ap (tgN i) (Ap (tgN j) Bl)) (.tup [x,y]) fs=some ax:=by have e:Bo 2 (Ap (tgN i) (Ap (tgN j) Bl)) (.tup [x,y]) fs=Ap (tgN i) (Ap (tgN j) Bl) [x,y] fs:=rfl;rw[e];simp only[Ap,h1,h2,rA,Bl]
noncomputable def BI(K:Kd):List Key:=K.map λkd=>(.inr kd.1:Key)
theorem any_false{ks:List Key}{k:Key}(h:k∉ks):(ks.any λk'=>decide (k'=k))=false:=by rw[List.any_eq_false];intro x hx;rw[decide_eq_true_eq];intro e;exact h (e▸hx)
theorem sq{g h:FS->SO}{fs aj:FS}{r:SO}(e:g fs=.nx aj)(e2:h aj=r):Av g h fs=r:=(AE e).trans e2
theorem Bn{f:FS->Out Rv}{fs ag:FS}{b:Bool}(h:f fs=.ok (.t (.o b)) ag):asB f fs=.ok b ag:=by unfold asB;rw[h];rfl
theorem JJ{f:FS->Out Bool}{fs ag:FS}{b:Bool}(h:f fs=.ok b ag):FZ f fs=.ok (!b) ag:=by unfold FZ;rw[h];rfl
theorem Hh{f:FS->Out Rv}{fs ag:FS}{b:Bool}(h:f fs=.ok (.t (.o b)) ag):Ih f fs=.ok b ag:=by unfold Ih;rw[h];rfl
theorem RC{c:FS->Out Bool}{g h:FS->SO}{fs ag:FS}{r:SO}(hc:c fs=.ok false ag)(e:h ag=r):ifS c g h fs=r:=by unfold ifS;rw[hc];exact e
theorem CW{i:Nat}{fs:FS}{o:FO}(h:fs[i]?=some (some (.own o))):Ab i fs=.ok (.n i) fs:=by unfold Ab;rw[h]
theorem HK{i:Nat}{fs:FS}{o:FO}(h:fs[i]?=some (some (.bor o))):Ab i fs=.ok (.n i) fs:=by unfold Ab;rw[h]
theorem VY{i:Nat}{fs:FS}{o:FO}(h:fs[i]?=some (some (.own o))):FL.AM fs i=some o:=by unfold FL.AM;rw[h]
theorem XU{i:Nat}{fs:FS}{o:FO}(h:fs[i]?=some (some (.bor o))):FL.AM fs i=some o:=by unfold FL.AM;rw[h]
theorem J5{g:Rv->Rv->FS->Out Rv}{fa fb:FS->Out Rv}{fs:FS}{x:T}{i:Nat}{r:Out Rv}(h1:fa fs=.ok (.t x) fs)(h2:fb fs=.ok (.n i) fs)(h3:g (.t x) (.n i) fs=r):Ad g fa fb fs=r:=by unfold Ad;rw[h1];show(fb fs).bnd _=r;rw[h2];exact h3
theorem HQ{f:FS->Out Rv}{fs ag:FS}{r:Rv}(h:f fs=.ok r ag):AS f fs=.nx ag:=by unfold AS;rw[h];rfl
theorem FF{κ:Type}[DecidableEq κ]:∀{ks:List κ}{ts:List T}{k:κ},k∉ks->EG ks ts k=none
 | [],_,_,_=>by unfold EG;rfl
 |k'::ks,[],k,_=>by unfold EG;rfl
 |k'::ks,t::ts,k,h=>by
  have h1:k'≠k:=λe=>h (e▸rg)
  have h2:k∉ks:=λm=>h (qt _ m)
  simp only[EG,if_neg h1,FF h2]
theorem Ia{κ α:Type}[DecidableEq κ]{f:α->κ}{g:α->T}:∀{xs:List α}{x:α},x∈xs->(xs.map f).Nodup->EG (xs.map f) (xs.map g) (f x)=some (g x)
 |y::ys,x,m,nd=>by
  rw[qm,qm];unfold EG;rw[qm,rk]at nd;by_cases e:f y=f x
  .rw[if_pos e];rcases qK.mp m with rfl|m
   .rfl
   .exact(nd.1 (rh.mpr ⟨x,m,e.symm⟩)).elim
  .rw[if_neg e];rcases qK.mp m with rfl|m
   .exact(e rfl).elim
   .exact Ia m nd.2
theorem Wq{neg:Bool}{k:Str}{i:Nat}{ks:List Key}{ts:List T}{fs:FS}(h:FL.AM fs i=some (.v ks ts)):Dq neg (.t (.str k)) (.n i) fs=.ok (.t (.o (if neg then !(EG ks ts (.inr k:Key)).isSome else(EG ks ts (.inr k:Key)).isSome))) fs:=by
 unfold Dq orG;have e:TK neg (.t (.str k)) (.n i) fs=.ok (.t (.o (if neg then !(EG ks ts (.inr k:Key)).isSome else(EG ks ts (.inr k:Key)).isSome))) fs:=by simp only[TK,Uk,h,Lo,so];rfl
 rw[e]
theorem Jah{neg:Bool}{k:Str}{ks:List Key}{ts:List T}{fs:FS}:Dq neg (.t (.str k)) (.t (.v ks ts)) fs=.ok (.t (.o (if neg then !(EG ks ts (.inr k:Key)).isSome else(EG ks ts (.inr k:Key)).isSome))) fs:=rfl
theorem Fq:∀xs:List Str,Rf (xs.map T.str)=some (xs.map V.str)
 | []=>rfl
 |x::xs=>by simp only[qm,Rf,plV,rA,Fq xs,so]
theorem HJ(k:Str):∀xs:List Str,inV (.str k) (xs.map V.str)=decide (k∈xs)
 | []=>by simp[inV]
 |x::xs=>by
  have:=HJ k xs;unfold inV at this ⊢;rw[qm,si,this];have e:eqV (.str x) (.str k)=decide (k=x):=by
   by_cases h:k=x
   .subst h;simp[eqV]
   .have h':x≠k:=λe=>h e.symm
    simp[eqV,h,h']
  rw[e,rL];simp
theorem KH{neg:Bool}{k:Str}{xs:List Str}{fs:FS}:Dq neg (.t (.str k)) (.t (.lst (xs.map T.str))) fs=.ok (.t (.o (if neg then !decide (k∈xs)else decide (k∈xs)))) fs:=by
 have e:gIn neg (.t (.str k)) (.t (.lst (xs.map T.str))) fs=.ok (.t (.o (if neg then !decide (k∈xs)else decide (k∈xs)))) fs:=by simp only[gIn,plV,Cu,Fq,okT,HJ]
 exact e
theorem Wo{neg:Bool}{k:Str}{xs:List Str}{i:Nat}{fs:FS}(h:FL.AM fs i=some (.lst (xs.map T.str))):Dq neg (.t (.str k)) (.n i) fs=.ok (.t (.o (if neg then !decide (k∈xs)else decide (k∈xs)))) fs:=by
 have e:gIn neg (.t (.str k)) (.n i) fs=.ok (.t (.o (if neg then !decide (k∈xs)else decide (k∈xs)))) fs:=by simp only[gIn,plV,Cu,h,Fq,okT,HJ]
 have e1:TK neg (.t (.str k)) (.n i) fs=.bad:=by simp only[TK,Uk,h]
 unfold Dq orG;rw[e1];exact e
theorem K7{fa fb fc:FS->Out Rv}{fs:FS}{a b c:Int}(ha:fa fs=.ok (.t (.int a)) fs)(hb:fb fs=.ok (.t (.int b)) fs)(hc:fc fs=.ok (.t (.int c)) fs)(h1:a<=b)(h2:b<=c):FZ (asB (chain gLe gLe fa fb fc)) fs=.ok false fs:=by
 have e1:gLe (.t (.int a)) (.t (.int b)) fs=.ok (.t (.o true)) fs:=by show okT (.o (decide (a<=b))) _=_;rw[qE h1];rfl
 have e2:gLe (.t (.int b)) (.t (.int c)) fs=.ok (.t (.o true)) fs:=by show okT (.o (decide (b<=c))) _=_;rw[qE h2];rfl
 simp only[FZ,asB,chain,Out.bnd,Out.bind,ha,hb,hc,e1,e2,Bool.not_true]
theorem JO{x:T}{ts:List T}{f:FS->Out Rv}{fs ag:FS}(h:f fs=.ok (.t x) ag)(hs:x=.lst ts\/x=.tup ts):Ah Bd (Ac f Ai) fs=.ok (.t (.int ts.length)) ag:=by unfold Ah;rw[A9 h (show Ai ag=.ok [] ag from rfl)];rcases hs with rfl|rfl<;>rfl
theorem Ct{p:Nat}{Fn:FS->Out Rv}{fa:FS->Out (List Rv)}{fs ag τ:FS}{rs:List Rv}{t:T}(ha:fa fs=.ok rs ag)(hp:rs.length=p)(hn:Cj ag (rs.map By)=[])(hf:Fn (C8 ag (rs.map By))=.ok (.t t) τ):Ah (Ak p Fn) fa fs=.ok (.t t) ag :=
 CZ ha hp (by rw[hn];exact qU) hf (AJ hn)
theorem AB{fs:FS}:Ai fs=.ok [] fs:=rfl
theorem CN{K:Kd}(h1:1<=K.length)(h4:K.length<=4)(cq:(K.map (·.1)).Nodup)(j7:∀kd∈K,A3 [vl (.str kd.1)]=.ok (.t (.o true)) [vl (.str kd.1)])(oF:∀kd∈K,1<=kd.2.length/\kd.2.length<=4) :
  BX [vl (.lst (K.map Aw))]=.ok (.t .l) [vl (.lst (K.map Aw))]:=by
 have all:∃x1 x2 x3,CA [vl (.lst (K.map Aw)),none,none,none]=.nx [vl (.lst (K.map Aw)),x1,x2,x3]:=by
  unfold CA;obtain⟨aj,ef,D,R,x2,x3,ts,rfl,eD,eR,f2,f3⟩:=Cr (gt:=Bo 2 (Ap (tgN 2) (Ap (tgN 3) Bl))) (body:=(Av (ifS (FZ (Ih (fz (Ah (Ak 1 A3) (Af (fz (Ab 2)) Ai))))) (λ_=>.bad) nxS)
  (Av (ifS (asB (Ad (Dq false) (fz (Ab 2)) (Ab 1))) (λ_=>.bad) nxS)
  (Av (ifS (FZ (asB (chain gLe gLe (gc (.int 1)) (Ah Bd (Ac (Ab 3) Ai)) (gc (.int 4))))) (λ_=>.bad) nxS)
  (Eh (gc (.o true)) (Ab 1) (fz (Ab 2)))))))
   (λts fs=>∃(D R:Kd)(x2 x3:Option Sl)(vs:List T),fs=[vl (.lst (K.map Aw)),some (.own (.v (BI D) vs)),x2,x3]/\D++R=K/\ts=R.map Aw/\Fre x2/\Fre x3)
   (λt' ts fs h=>by
    obtain⟨D,R,x2,x3,vs,rfl,eD,eR,f2,f3⟩:=h;cases R with
    |nil=>cases eR
    |cons kd R =>
     rw[qm]at eR;obtain⟨e1,e2⟩:=List.cons.inj eR;subst e1;have hm:kd∈K:=by rw[<- eD];simp
     have bF:(.inr kd.1:Key)∉BI D:=by
      intro m;unfold BI at m;rw[rh]at m;obtain⟨gC,m',e'⟩:=m;have jw:gC.1=kd.1:=by simpa using e'
      rw[<- eD,qF,qp]at cq;exact cq.2.2 gC.1 (rh.mpr ⟨gC,m',rfl⟩) kd.1 (by simp) jw
     have hlen:(BI D).length<big:=by
      unfold BI;rw[qw];have:=congrArg List.length eD;simp at this;show D.length<1000000
      lia
     have hr:=oF kd hm;refine⟨[vl (.lst (K.map Aw)),some (.own (.v (BI D) vs)),vl (.str kd.1),vl (.lst (kd.2.map Cv))],[vl (.lst (K.map Aw)),some (.own (.v (BI D++[.inr kd.1]) (vs++[.o true]))),vl (.str kd.1),vl (.lst (kd.2.map Cv))],Ef (by unfold tgN;exact AY rfl f2) (by unfold tgN;exact AY rfl f3),?_,D++[kd],R,vl (.str kd.1),vl (.lst (kd.2.map Cv)),vs++[.o true],?_,by rw[<- eD];simp,e2,AG,AG⟩
     .refine sq (RC (JJ (Hh (Ck (Ct (Aj (Au (Aa (t:=.str kd.1) rfl)) AB) rfl rfl (j7 kd hm))))) rfl) ?_;refine sq (AU (Bn (b:=false) (J5 (Au (Aa (t:=.str kd.1) rfl)) (CW rfl) ?_)) rfl) ?_
      .rw[Wq (VY rfl),FF bF];rfl
      refine sq (AU (K7 Al (JO (Aa rfl) (.inl rfl)) Al (by rw[qw];lia) (by rw[qw];lia)) rfl) ?_;exact Q8 (o:=1) (v:=.o true) (k:=kd.1) rfl Al (Au (Aa rfl)) (any_false bF) hlen rfl
     .unfold BI;rw[qF];rfl)
   (K.map Aw) [vl (.lst (K.map Aw)),some (.own (.v [] [])),none,none] ⟨[],K,none,none,[],rfl,rfl,rfl,Ar,Ar⟩
  refine⟨some (.own (.v (BI D) ts)),x2,x3,?_⟩;refine sq (AU (K7 Al (JO (Aa rfl) (.inl rfl)) Al (by rw[qw];lia) (by rw[qw];lia)) rfl) ?_;exact sq (aj:=[vl (.lst (K.map Aw)),some (.own (.v [] [])),none,none]) rfl ef
 obtain⟨x1,x2,x3,all⟩:=all;unfold BX B2;show(match CA [vl (.lst (K.map Aw)),none,none,none]with|.nx τ=>_|.ret (.t t) τ=>_|.ret (.nw o) τ=>_|.ret (.n i) τ=>_|.exc c τ=>_|_=>_)=_;rw[all];rfl
theorem Wt{fa fb:FS->Out Rv}{fs:FS}{a b:Int}(h1:fa fs=.ok (.t (.int a)) fs)(h2:fb fs=.ok (.t (.int b)) fs):asB (Ad gGt fa fb) fs=.ok (decide (b<a)) fs:=Bn (Ae h1 h2 rfl)
theorem Jak{fa fb:FS->Out Rv}{fs:FS}{a b:Int}(h1:fa fs=.ok (.t (.int a)) fs)(h2:fb fs=.ok (.t (.int b)) fs)(h:¬b<a):asB (Ad gGt fa fb) fs=.ok false fs:=by rw[Wt h1 h2,qv h]
theorem Y8{x y:Str}{fs:FS}:gEq false (.t (.str x)) (.t (.str y)) fs=.ok (.t (.o (decide (x=y)))) fs:=by
 have q:decide (V.str x=V.str y)=decide (x=y):=by
  by_cases h:x=y
  .subst h;simp
  .rw[qv h,qv (by intro z;cases z;exact h rfl)]
 show(if Jx (V.str x) (V.str y)=true then okT (.o (if false=true then _ else decide (V.str x=V.str y))) fs else .bad)=_;rw[if_pos (show Jx (V.str x) (V.str y)=true from rfl),q];rfl
theorem Gi{fa fb:FS->Out Rv}{fs:FS}{x y:Str}(h1:fa fs=.ok (.t (.str x)) fs)(h2:fb fs=.ok (.t (.str y)) fs):asB (Ad (gEq false) fa fb) fs=.ok (decide (x=y)) fs:=Bn (Ae h1 h2 Y8)
theorem CM{m:Str}{ps names:List Str}{ks:List Key}{vs:List T}(hn:A3 [vl (.str m)]=.ok (.t (.o true)) [vl (.str m)])(hk:(.inr m:Key)∉ks)(h2:ps.length<=2)(hp:∀p∈ps,p∈names) :
  Be [vl (.str m),vl (.tup (ps.map T.str)),some (.bor (.v ks vs)),vl (.lst (names.map T.str))]=.ok (.t .l) [vl (.str m),vl (.tup (ps.map T.str)),some (.bor (.v ks vs)),vl (.lst (names.map T.str))]:=by
 have all:∃x4,Cz [vl (.str m),vl (.tup (ps.map T.str)),some (.bor (.v ks vs)),vl (.lst (names.map T.str)),none]=.nx [vl (.str m),vl (.tup (ps.map T.str)),some (.bor (.v ks vs)),vl (.lst (names.map T.str)),x4]:=by
  unfold Cz;obtain⟨aj,ef,x4,rfl,f4,_⟩:=Cr (gt:=tgN 4) (body:=(ifS (asB (Ad (Dq true) (fz (Ab 4)) (Ab 3))) (λ_=>.bad) nxS))
   (λts fs=>∃x4,fs=[vl (.str m),vl (.tup (ps.map T.str)),some (.bor (.v ks vs)),vl (.lst (names.map T.str)),x4]/\Fre x4/\∀t∈ts,∃p∈names,t=.str p)
   (λt' ts fs h=>by obtain⟨x4,rfl,f4,ht⟩:=h;obtain⟨p,mp,rfl⟩:=ht t' rg;refine⟨_,_,(by unfold tgN;exact AY rfl f4),AU (Bn (b:=false) (Ae (Au (Aa rfl)) (Aa rfl) ?_)) rfl,_,rfl,AG,λt m=>ht t (qt _ m)⟩;rw[KH,qE mp];rfl)
   (ps.map T.str) [vl (.str m),vl (.tup (ps.map T.str)),some (.bor (.v ks vs)),vl (.lst (names.map T.str)),none] ⟨none,rfl,Ar,λt mt=>by rw[rh]at mt;obtain⟨p,mp,rfl⟩:=mt;exact⟨p,hp p mp,rfl⟩⟩
  refine⟨x4,?_⟩;refine sq (RC (JJ (Hh (Ck (Ct (Aj (Au (Aa (t:=.str m) rfl)) AB) rfl rfl hn)))) rfl) ?_;refine sq (AU (Bn (b:=false) (J5 (Au (Aa (t:=.str m) rfl)) (HK rfl) ?_)) rfl) ?_
  .rw[Wq (XU rfl),FF hk];rfl
  refine sq (AU (Jak (JO (Aa rfl) (.inr rfl)) Al (by rw[qw];lia)) rfl) ?_;exact ef
 obtain⟨x4,all⟩:=all;unfold Be B2;show(match Cz [vl (.str m),vl (.tup (ps.map T.str)),some (.bor (.v ks vs)),vl (.lst (names.map T.str)),none]with|.nx τ=>_|.ret (.t t) τ=>_|.ret (.nw o) τ=>_|.ret (.n i) τ=>_|.exc c τ=>_|_=>_)=_;rw[all];rfl
theorem Cn{m:Str}{ps names:List Str}(hp:∀p∈ps,p∈names) :
  A6 [vl (.str m),vl (.tup (ps.map T.str)),some (.bor (.lst (names.map T.str)))]=.ok (.t .l) [vl (.str m),vl (.tup (ps.map T.str)),some (.bor (.lst (names.map T.str)))]:=by
 have all:∃x3,Cf [vl (.str m),vl (.tup (ps.map T.str)),some (.bor (.lst (names.map T.str))),none]=.nx [vl (.str m),vl (.tup (ps.map T.str)),some (.bor (.lst (names.map T.str))),x3]:=by
  unfold Cf;obtain⟨aj,ef,x4,rfl,f4,_⟩:=Cr (gt:=tgN 3) (body:=(ifS (asB (Ad (Dq true) (fz (Ab 3)) (Ab 2))) (λ_=>.bad) nxS))
   (λts fs=>∃x4,fs=[vl (.str m),vl (.tup (ps.map T.str)),some (.bor (.lst (names.map T.str))),x4]/\Fre x4/\∀t∈ts,∃p∈names,t=.str p)
   (λt' ts fs h=>by obtain⟨x4,rfl,f4,ht⟩:=h;obtain⟨p,mp,rfl⟩:=ht t' rg;refine⟨_,_,(by unfold tgN;exact AY rfl f4),AU (Bn (b:=false) (J5 (Au (Aa rfl)) (HK rfl) ?_)) rfl,_,rfl,AG,λt m=>ht t (qt _ m)⟩;rw[Wo (XU rfl),qE mp];rfl)
   (ps.map T.str) [vl (.str m),vl (.tup (ps.map T.str)),some (.bor (.lst (names.map T.str))),none] ⟨none,rfl,Ar,λt mt=>by rw[rh]at mt;obtain⟨p,mp,rfl⟩:=mt;exact⟨p,hp p mp,rfl⟩⟩
  exact⟨x4,ef⟩
 obtain⟨x4,all⟩:=all;unfold A6 B2;show(match Cf [vl (.str m),vl (.tup (ps.map T.str)),some (.bor (.lst (names.map T.str))),none]with|.nx τ=>_|.ret (.t t) τ=>_|.ret (.nw o) τ=>_|.ret (.n i) τ=>_|.exc c τ=>_|_=>_)=_;rw[all];rfl
theorem Eu{α:Type}{fe:FS->Out Rv}{f g h:α->T}{rest:FS}:∀(xs:List α)(x y:Option Sl)(ao:List T),Fre x->Fre y->(∀a∈xs,fe (vl (f a)::vl (g a)::rest)=.ok (.t (h a)) (vl (f a)::vl (g a)::rest))->ao.length+xs.length<=big ->
  ∃x' y',Fre x'/\Fre y'/\B0 (Bo 2 (Ap (tgN 0) (Ap (tgN 1) Bl))) Dy fe (xs.map λa=>.tup [f a,g a]) (x::y::rest) ao=some (ao++xs.map h,x'::y'::rest)
 | [],x,y,ao,hx,hy,_,_=>⟨x,y,hx,hy,by simp[B0]⟩
 |a::xs,x,y,ao,hx,hy,he,hl=>by
  obtain⟨x',y',fx,fy,e⟩:=Eu xs (vl (f a)) (vl (g a)) (ao++[h a]) AG AG (λt' m=>he t' (qt _ m)) (by simp at hl ⊢;lia);refine⟨x',y',fx,fy,?_⟩;have h1:Bo 2 (Ap (tgN 0) (Ap (tgN 1) Bl)) (.tup [f a,g a]) (x::y::rest)=some (vl (f a)::vl (g a)::rest) :=
   Ef (by unfold tgN;exact AY rfl hx) (by unfold tgN;exact AY rfl hy)
  have h2:=he a rg;have h3:ao.length<big:=by simp at hl;lia
  rw[qm];simp only[B0,h1,Dy,h2,if_pos h3,e];simp
noncomputable def mks(K:Kd):List Str:=K.flatMap λkd=>kd.2.map (·.1)
noncomputable def BD(K:Kd):List Key:=(mks K).map λm=>(.inr m:Key)
structure Well(K:Kd):Prop where
 lo:1<=K.length
 hi:K.length<=4
 nd:(K.map (·.1)).Nodup
 nm:∀kd∈K,A3 [vl (.str kd.1)]=.ok (.t (.o true)) [vl (.str kd.1)]
 rw:∀kd∈K,1<=kd.2.length/\kd.2.length<=4
 za:(mks K).Nodup
 y1:∀m∈mks K,A3 [vl (.str m)]=.ok (.t (.o true)) [vl (.str m)]
 y0:∀m∈mks K,m.length<=12
 two:∀kd∈K,∀r∈kd.2,r.2.length<=2
 zm:∀kd∈K,∀r∈kd.2,∀x∈r.2,x∈K.map (·.1)
 gr:∀D kd R,K=D++kd::R->∀r,kd.2[0]?=some r->∀x∈r.2,x∈D.map (·.1)
theorem S9{K:Kd}{kd:Str×List (Str×List Str)}{r:Str×List Str}(h1:kd∈K)(h2:r∈kd.2):r.1∈mks K:=List.mem_flatMap.mpr ⟨kd,h1,rh.mpr ⟨r,h2,rfl⟩⟩
theorem Nn{K:Kd}(h4:K.length<=4)(hr:∀kd∈K,kd.2.length<=4):(mks K).length<=16:=by
 have:∀K:Kd,(∀kd∈K,kd.2.length<=4)->(mks K).length<=4*K.length:=by
  intro K
  induction K with
  |nil=>intro _;simp[mks]
  |cons kd K ih =>
   intro h;have:=ih λkd m=>h kd (qt _ m)
   have h1:=h kd rg;unfold mks at this ⊢;rw[rH,qA,qw,qD]
   lia
 have:=this K hr
 lia
theorem HD(D R:Kd):mks (D++R)=mks D++mks R:=by unfold mks;rw[sX]
theorem DO(kd:Str×List (Str×List Str))(R:Kd):mks (kd::R)=kd.2.map (·.1)++mks R:=by unfold mks;rw[rH]
theorem O2{rs:List (Str×List Str)}(h:(rs.map (·.1)).Nodup){r r':Str×List Str}(m:r∈rs)(m':r'∈rs)(e:r.1=r'.1):r=r':=by
 induction rs with
 |nil=>cases m
 |cons a rs ih =>
  rw[qm,rk]at h;rcases qK.mp m with q|q
  .rcases qK.mp m' with q'|q'
   .rw[q,q']
   .exact(h.1 (rh.mpr ⟨r',q',by rw[<- e,q]⟩)).elim
  .rcases qK.mp m' with q'|q'
   .exact(h.1 (rh.mpr ⟨r,q,by rw[e,q']⟩)).elim
   .exact ih h.2 q q'
noncomputable def C5(r:Str×List Str):Key:=.inr r.1
theorem JN{sc:T}{names above:List Str}{aH:List Key}{jr:List T}{k first:Str}{rows:List (Str×List Str)}{x7 x8:Option Sl}(f7:Fre x7)(f8:Fre x8)
  (j7:∀r∈rows,A3 [vl (.str r.1)]=.ok (.t (.o true)) [vl (.str r.1)]) (cq:(aH++rows.map C5).Nodup) (hlen:aH.length+rows.length<1000) (h2:∀r∈rows,r.2.length<=2) (hp:∀r∈rows,∀x∈r.2,x∈names) (hg:∀r∈rows,r.1=first->∀x∈r.2,x∈above) :
  ∃(y7 y8:Option Sl)(vs:List T),Fre y7/\Fre y8/\Cy (Bo 2 (Ap (tgN 7) (Ap (tgN 8) Bl))) (Av (AS (Ah (Ak 4 Be) (Af (fz (Ab 7)) (Af (fz (Ab 8)) (Af (Ab 3) (Af (fz (Ab 1)) Ai))))))
  (Av (ifS (asB (Ad (gEq false) (Ab 7) (Ab 6))) (AS (Ah (Ak 3 A6) (Af (fz (Ab 7)) (Af (fz (Ab 8)) (Af (Ab 2) Ai))))) nxS)
  (Eh (gc (.o true)) (Ab 3) (fz (Ab 7))))) (rows.map Cv) [vl sc,vl (.lst (names.map T.str)),some (.own (.lst (above.map T.str))),some (.own (.v aH jr)),vl (.str k),vl (.lst (rows.map Cv)),vl (.str first),x7,x8] =
   .nx [vl sc,vl (.lst (names.map T.str)),some (.own (.lst (above.map T.str))),some (.own (.v (aH++rows.map C5) vs)),vl (.str k),vl (.lst (rows.map Cv)),vl (.str first),y7,y8]:=by
 obtain⟨aj,ef,D,R,y7,y8,vs,rfl,eD,eR,g7,g8⟩:=Cr (gt:=Bo 2 (Ap (tgN 7) (Ap (tgN 8) Bl))) (body:=Av (AS (Ah (Ak 4 Be) (Af (fz (Ab 7)) (Af (fz (Ab 8)) (Af (Ab 3) (Af (fz (Ab 1)) Ai))))))
  (Av (ifS (asB (Ad (gEq false) (Ab 7) (Ab 6))) (AS (Ah (Ak 3 A6) (Af (fz (Ab 7)) (Af (fz (Ab 8)) (Af (Ab 2) Ai))))) nxS)
  (Eh (gc (.o true)) (Ab 3) (fz (Ab 7)))))
  (λts fs=>∃(D R:List (Str×List Str))(y7 y8:Option Sl)(vs:List T),fs=[vl sc,vl (.lst (names.map T.str)),some (.own (.lst (above.map T.str))),some (.own (.v (aH++D.map C5) vs)),vl (.str k),vl (.lst (rows.map Cv)),vl (.str first),y7,y8]/\D++R=rows/\ts=R.map Cv/\Fre y7/\Fre y8)
  (λt' ts fs h=>by
   obtain⟨D,R,y7,y8,vs,rfl,eD,eR,g7,g8⟩:=h;cases R with
   |nil=>cases eR
   |cons r R =>
    rw[qm]at eR;obtain⟨e1,e2⟩:=List.cons.inj eR;subst e1;have hm:r∈rows:=by rw[<- eD];simp
    have bF:(.inr r.1:Key)∉aH++D.map C5:=by rw[<- eD,qF,qm,<- qT,qp]at cq;intro m;exact cq.2.2 _ m (C5 r) (by simp) rfl
    have hl:(aH++D.map C5).length<big:=by
     have:=congrArg List.length eD;simp at this;rw[qA,qw];show _<1000000
     lia
    refine⟨[vl sc,vl (.lst (names.map T.str)),some (.own (.lst (above.map T.str))),some (.own (.v (aH++D.map C5) vs)),vl (.str k),vl (.lst (rows.map Cv)),vl (.str first),vl (.str r.1),vl (.tup (r.2.map T.str))],
     [vl sc,vl (.lst (names.map T.str)),some (.own (.lst (above.map T.str))),some (.own (.v (aH++D.map C5++[.inr r.1]) (vs++[.o true]))),vl (.str k),vl (.lst (rows.map Cv)),vl (.str first),vl (.str r.1),vl (.tup (r.2.map T.str))],Ef (by unfold tgN;exact AY rfl g7) (by unfold tgN;exact AY rfl g8),?_,D++[r],R,vl (.str r.1),vl (.tup (r.2.map T.str)),vs++[.o true],?_,by rw[<- eD];simp,e2,AG,AG⟩
    .refine sq (HQ (CZ (Aj (Au (Aa (t:=.str r.1) rfl)) (Aj (Au (Aa (t:=.tup (r.2.map T.str)) rfl)) (Aj (CW (i:=3) rfl) (Aj (Au (Aa (t:=.lst (names.map T.str)) rfl)) AB)))) rfl (by rw[show Cj _ _=[3]from rfl];simp) (CM (j7 r hm) bF (h2 r hm) (hp r hm)) rfl)) ?_;refine sq (aj:=[vl sc,vl (.lst (names.map T.str)),some (.own (.lst (above.map T.str))),some (.own (.v (aH++D.map C5) vs)),vl (.str k),vl (.lst (rows.map Cv)),vl (.str first),vl (.str r.1),vl (.tup (r.2.map T.str))]) ?_ ?_
     .by_cases hf:r.1=first
      .refine BH ((Gi (Aa (t:=.str r.1) rfl) (Aa (t:=.str first) rfl)).trans (by rw[qE hf])) ?_;exact HQ (CZ (Aj (Au (Aa (t:=.str r.1) rfl)) (Aj (Au (Aa (t:=.tup (r.2.map T.str)) rfl)) (Aj (CW (i:=2) rfl) AB))) rfl (by rw[show Cj _ _=[2]from rfl];simp) (Cn (hg r hm hf)) rfl)
      .exact AU ((Gi (Aa (t:=.str r.1) rfl) (Aa (t:=.str first) rfl)).trans (by rw[qv hf])) rfl
     .exact Q8 (o:=3) (v:=.o true) (k:=r.1) rfl Al (Au (Aa rfl)) (any_false bF) hl rfl
    .rw[qF,<- qT];rfl)
  (rows.map Cv) [vl sc,vl (.lst (names.map T.str)),some (.own (.lst (above.map T.str))),some (.own (.v aH jr)),vl (.str k),vl (.lst (rows.map Cv)),vl (.str first),x7,x8] ⟨[],rows,x7,x8,jr,by simp,rfl,rfl,f7,f8⟩
 have hR:R=[]:=by cases R with|nil=>rfl|cons a b=>cases eR
 subst hR;rw[rD]at eD;subst eD;exact⟨y7,y8,vs,g7,g8,ef⟩
theorem EN(D:Kd)(kd:Str×List (Str×List Str)):BD (D++[kd])=BD D++kd.2.map C5:=by unfold BD;rw[HD,DO,qF,qF,rm];simp[mks,C5,Function.comp_def]
theorem IS{xs:List Str}(h:xs.Nodup):(xs.map λm=>(.inr m:Key)).Nodup:=by
 induction xs with
 |nil=>simp
 |cons x xs ih =>
  rw[rk]at h;rw[qm,rk];refine⟨λm=>?_,ih h.2⟩;rw[rh]at m;obtain⟨y,my,e⟩:=m;have:y=x:=by simpa using e
  exact h.1 (this▸my)
theorem Well.part{K:Kd}(W:Well K){D R:Kd}{kd:Str×List (Str×List Str)}(e:D++kd::R=K):(BD D++kd.2.map C5).Nodup/\(BD D).length+kd.2.length<1000/\kd∈K/\(kd.2.map (·.1)).Nodup:=by
 have h:=W.za;have hl:=Nn W.hi λkd m=>(W.rw kd m).2
 rw[<- e,HD,DO]at h hl;refine⟨?_,?_,by rw[<- e];simp,?_⟩
 .rw[<- EN];refine IS ?_;rw[HD,DO];simp only[mks,List.flatMap_nil,rD];rw[<- qT]at h;exact(qp.mp h).1
 .unfold BD;rw[qw];simp at hl
  lia
 .exact(qp.mp (qp.mp h).2.1).1
theorem Cm{K:Kd}(W:Well K):BL [vl (.lst (K.map Aw))]=.ok (.t .l) [vl (.lst (K.map Aw))]:=by
 have all:∃x1 x2 x3 x4 x5 x6 x7 x8,Ce [vl (.lst (K.map Aw)),none,none,none,none,none,none,none,none]=.nx [vl (.lst (K.map Aw)),x1,x2,x3,x4,x5,x6,x7,x8]:=by
  unfold Ce;have c1:BR false [none,none] (itU (fz (Ab 0))) (Bo 2 (Ap (tgN 0) (Ap (tgN 1) Bl))) Dy (fz (Ab 0)) [vl (.lst (K.map Aw)),none,none,none,none,none,none,none,none]=.ok (.t (.lst ((K.map (·.1)).map T.str))) [vl (.lst (K.map Aw)),none,none,none,none,none,none,none,none]:=by obtain⟨x,y,_,_,e⟩:=Eu (fe:=fz (Ab 0)) (f:=λkd:Str×List (Str×List Str)=>.str kd.1) (g:=λkd=>.lst (kd.2.map Cv)) (h:=λkd=>.str kd.1) (rest:=[]) K none none [] Ar Ar (λkd _=>Au (Aa rfl)) (by have:=W.hi;show 0+_<=1000000;lia);have:=CL (src:=[none,none]) (fi:=itU (fz (Ab 0))) (fs:=[vl (.lst (K.map Aw)),none,none,none,none,none,none,none,none]) (ts:=K.map Aw) rfl ⟨by rw[show Cj [vl (.lst (K.map Aw)),none,none,none,none,none,none,none,none] _=[]from rfl];exact qU,by rfl⟩ e (AJ rfl);rw[this,qV,rm];rfl
  have s1:Ay 1 (BR false [none,none] (itU (fz (Ab 0))) (Bo 2 (Ap (tgN 0) (Ap (tgN 1) Bl))) Dy (fz (Ab 0))) [vl (.lst (K.map Aw)),none,none,none,none,none,none,none,none]=.nx [vl (.lst (K.map Aw)),vl (.lst ((K.map (·.1)).map T.str)),none,none,none,none,none,none,none]:=AF c1 rfl;generalize hN:K.map (·.1)=names at s1;obtain⟨aj,ef,D,R,x4,x5,x6,x7,x8,vs,rfl,eD,eR,g4,g5,g6,g7,g8⟩:=Cr (gt:=Bo 2 (Ap (tgN 4) (Ap (tgN 5) Bl))) (body:=(Av (Ay 6 (Ad A1 (Ad A1 (Ab 5) (gc (.int 0))) (gc (.int 0))))
  (Av (Dd (itU (fz (Ab 5))) (Bo 2 (Ap (tgN 7) (Ap (tgN 8) Bl))) (Av (AS (Ah (Ak 4 Be) (Af (fz (Ab 7)) (Af (fz (Ab 8)) (Af (Ab 3) (Af (fz (Ab 1)) Ai))))))
  (Av (ifS (asB (Ad (gEq false) (Ab 7) (Ab 6))) (AS (Ah (Ak 3 A6) (Af (fz (Ab 7)) (Af (fz (Ab 8)) (Af (Ab 2) Ai))))) nxS)
  (Eh (gc (.o true)) (Ab 3) (fz (Ab 7))))))
  (AS (AH Dc (Ab 2) (Ac (fz (Ab 4)) Ai))))))
   (λts fs=>∃(D R:Kd)(x4 x5 x6 x7 x8:Option Sl)(vs:List T),fs=[vl (.lst (K.map Aw)),vl (.lst (names.map T.str)),some (.own (.lst ((D.map (·.1)).map T.str))),some (.own (.v (BD D) vs)),x4,x5,x6,x7,x8]/\D++R=K/\ts=R.map Aw/\Fre x4/\Fre x5/\Fre x6/\Fre x7/\Fre x8)
   (λt' ts fs h=>by
    obtain⟨D,R,x4,x5,x6,x7,x8,vs,rfl,eD,eR,g4,g5,g6,g7,g8⟩:=h;cases R with
    |nil=>cases eR
    |cons kd R =>
     rw[qm]at eR;obtain⟨e1,e2⟩:=List.cons.inj eR;subst e1;obtain⟨w1,w2,hm,w3⟩:=W.part eD;obtain⟨r0,rs,er⟩:∃r0 rs,kd.2=r0::rs:=by have:=(W.rw kd hm).1;cases h:kd.2 with|nil=>rw[h]at this;simp at this|cons a b=>exact⟨a,b,rfl⟩
     obtain⟨y7,y8,bg,f7,f8,el⟩:=JN (sc:=.lst (K.map Aw)) (names:=names) (above:=D.map (·.1)) (aH:=BD D) (jr:=vs) (k:=kd.1) (first:=r0.1) (rows:=kd.2) (x7:=x7) (x8:=x8) g7 g8 (λr m=>W.y1 _ (S9 hm m)) w1 w2 (W.two kd hm) (λr m x hx=>hN▸W.zm kd hm r m x hx) (λr m e x hx=>by have:r=r0:=O2 w3 m (by rw[er];simp) e;subst this;exact W.gr D kd R eD.symm r (by rw[er];rfl) x hx);refine⟨[vl (.lst (K.map Aw)),vl (.lst (names.map T.str)),some (.own (.lst ((D.map (·.1)).map T.str))),some (.own (.v (BD D) vs)),vl (.str kd.1),vl (.lst (kd.2.map Cv)),x6,x7,x8],[vl (.lst (K.map Aw)),vl (.lst (names.map T.str)),some (.own (.lst ((D.map (·.1)).map T.str++[.str kd.1]))),some (.own (.v (BD D++kd.2.map C5) bg)),vl (.str kd.1),vl (.lst (kd.2.map Cv)),vl (.str r0.1),y7,y8],Ef (by unfold tgN;exact AY rfl g4) (by unfold tgN;exact AY rfl g5),?_,D++[kd],R,vl (.str kd.1),vl (.lst (kd.2.map Cv)),vl (.str r0.1),y7,y8,bg,?_,by rw[<- eD];simp,e2,AG,AG,AG,f7,f8⟩
     .have q1:atI (kd.2.map Cv) 0=some (Cv r0):=AN (j:=0) (by rw[er];rfl);refine sq (AF (Ae (Ae (Aa rfl) Al (Bh rfl q1)) Al (show A1 (.t (Cv r0)) (.t (.int 0)) _=.ok (.t (.str r0.1)) _ from rfl)) (AY rfl g6)) ?_;refine sq (show Dd _ _ _ _=_ from el) ?_;exact Jo (i:=2) rfl (Au (Aa rfl)) (by
       have:=congrArg List.length eD;have h4:=W.hi;simp at this;rw[qw,qw];show _<1000000
       lia) rfl
     .rw[EN,qF,qF];rfl)
   (K.map Aw) [vl (.lst (K.map Aw)),vl (.lst (names.map T.str)),some (.own (.lst [])),some (.own (.v [] [])),none,none,none,none,none] ⟨[],K,none,none,none,none,none,[],rfl,rfl,rfl,Ar,Ar,Ar,Ar,Ar⟩
  refine⟨vl (.lst (names.map T.str)),some (.own (.lst ((D.map (·.1)).map T.str))),some (.own (.v (BD D) vs)),x4,x5,x6,x7,x8,?_⟩;refine sq s1 ?_;refine sq (aj:=[vl (.lst (K.map Aw)),vl (.lst (names.map T.str)),some (.own (.lst [])),none,none,none,none,none,none]) rfl ?_;exact sq (aj:=[vl (.lst (K.map Aw)),vl (.lst (names.map T.str)),some (.own (.lst [])),some (.own (.v [] [])),none,none,none,none,none]) rfl ef
 obtain⟨x1,x2,x3,x4,x5,x6,x7,x8,all⟩:=all;unfold BL B2;show(match Ce [vl (.lst (K.map Aw)),none,none,none,none,none,none,none,none]with|.nx τ=>_|.ret (.t t) τ=>_|.ret (.nw o) τ=>_|.ret (.n i) τ=>_|.exc c τ=>_|_=>_)=_;rw[all];rfl
theorem NY{C:Addr}{f:Str}{i:Nat}{fv:FS->Out Rv}{fs ag aj:FS}{gs eT:List Str}{os dY:List FO}{o:FO}(hv:fv fs=.ok (.nw o) ag)(h0:ag[i]?=some (some (.bor (.ins C gs os))))(hl:gs.length<900)(hp:Gz gs os f o=some (eT,dY))(e:ag.set i (some (.bor (.ins C eT dY)))=aj):UL C f i fv fs=.nx aj:=by unfold UL;rw[hv];simp only[SO.of,X2,XU h0];rw[if_pos ⟨trivial,hl⟩,hp];simp only;unfold FL.putAt;rw[h0];simp only[Sl.put,e]
theorem JY{C:Addr}{f:Str}{i j:Nat}{fv:FS->Out Rv}{fs ag aj:FS}{gs:List Str}{os:List FO}{ks:List Key}{ts:List T}{k:Str}{t:T}(hv:fv fs=.ok (.t t) ag)(h0:ag[i]?=some (some (.bor (.ins C gs os))))(hj:ag[j]?=some (vl (.str k)))(hf:Dx gs os f=some (.v ks ts))(hn:(.inr k:Key)∉ks)(hl:ks.length<big)
  (e:ag.set i (some (.bor (.ins C gs (EJ gs os f (.v (ks++[.inr k]) (ts++[t]))))))=aj):Df C f i j fv fs=.nx aj:=by
 have h3:Hq ks ts (.inr k:Key) t=(ks++[.inr k],ts++[t]):=by unfold Hq;rw[any_false hn];rfl
 unfold Df;rw[hv];simp only[SO.of,XU h0,hj,Lo,hf,if_true,hl,h3];unfold FL.putAt;rw[h0];simp only[Sl.put,e]
noncomputable def Iq(rows:List (Str×List Str)):List T:=rows.map λr=>T.tup (r.2.map T.str)
noncomputable def Jz(K:Kd):List T:=K.flatMap λkd=>Iq kd.2
noncomputable def DD(K:Kd):List T:=K.map λkd=>T.lst ((kd.2.map (·.1)).map T.str)
theorem MQ(D:Kd)(kd:Str×List (Str×List Str)):Jz (D++[kd])=Jz D++Iq kd.2:=by unfold Jz;simp
theorem NK{C:Addr}{A B H:Str}(fG:A≠B)(fH:A≠H)(fI:B≠H){oA:FO}{sc mk:T}{k:Str}{rows:List (Str×List Str)}{aH:List Key}{cJ gy:List T}{x4 x5:Option Sl}(f4:Fre x4)(f5:Fre x5)(cq:(aH++rows.map C5).Nodup)(hlen:aH.length+rows.length<1000) :
  ∃(y4 y5:Option Sl)(hs:List T),Fre y4/\Fre y5/\Cy (Bo 2 (Ap (tgN 4) (Ap (tgN 5) Bl))) (Av (Df C B 0 4 (Ah BK (Ac (Ab 5) Ai)))
  (Df C H 0 4 (fz (Ab 2)))) (rows.map Cv) [some (.bor (.ins C [A,B,H] [oA,.v aH cJ,.v aH gy])),vl sc,vl (.str k),vl mk,x4,x5] =
   .nx [some (.bor (.ins C [A,B,H] [oA,.v (aH++rows.map C5) (cJ++Iq rows),.v (aH++rows.map C5) hs])),vl sc,vl (.str k),vl mk,y4,y5]:=by
 obtain⟨aj,ef,D,R,y4,y5,hs,rfl,eD,eR,g4,g5⟩:=Cr (gt:=Bo 2 (Ap (tgN 4) (Ap (tgN 5) Bl))) (body:=Av (Df C B 0 4 (Ah BK (Ac (Ab 5) Ai)))
  (Df C H 0 4 (fz (Ab 2))))
  (λts fs=>∃(D R:List (Str×List Str))(y4 y5:Option Sl)(hs:List T),fs=[some (.bor (.ins C [A,B,H] [oA,.v (aH++D.map C5) (cJ++Iq D),.v (aH++D.map C5) hs])),vl sc,vl (.str k),vl mk,y4,y5]/\D++R=rows/\ts=R.map Cv/\Fre y4/\Fre y5)
  (λt' ts fs h=>by
   obtain⟨D,R,y4,y5,hs,rfl,eD,eR,g4,g5⟩:=h;cases R with
   |nil=>cases eR
   |cons r R =>
    rw[qm]at eR;obtain⟨e1,e2⟩:=List.cons.inj eR;subst e1;have bF:(.inr r.1:Key)∉aH++D.map C5:=by rw[<- eD,qF,qm,<- qT,qp]at cq;intro m;exact cq.2.2 _ m (C5 r) (by simp) rfl
    have hl:(aH++D.map C5).length<big:=by
     have:=congrArg List.length eD;simp at this;rw[qA,qw];show _<1000000
     lia
    have v1:Dx [A,B,H] [oA,.v (aH++D.map C5) (cJ++Iq D),.v (aH++D.map C5) hs] B=some (.v (aH++D.map C5) (cJ++Iq D)):=by simp[Dx,Ne.symm fG]
    have s1:EJ [A,B,H] [oA,.v (aH++D.map C5) (cJ++Iq D),.v (aH++D.map C5) hs] B (.v (aH++D.map C5++[.inr r.1]) (cJ++Iq D++[.tup (r.2.map T.str)]))=[oA,.v (aH++D.map C5++[.inr r.1]) (cJ++Iq D++[.tup (r.2.map T.str)]),.v (aH++D.map C5) hs]:=by simp[EJ,Ne.symm fG]
    have v2:Dx [A,B,H] [oA,.v (aH++D.map C5++[.inr r.1]) (cJ++Iq D++[.tup (r.2.map T.str)]),.v (aH++D.map C5) hs] H=some (.v (aH++D.map C5) hs):=by simp[Dx,Ne.symm fH,Ne.symm fI]
    have s2:EJ [A,B,H] [oA,.v (aH++D.map C5++[.inr r.1]) (cJ++Iq D++[.tup (r.2.map T.str)]),.v (aH++D.map C5) hs] H (.v (aH++D.map C5++[.inr r.1]) (hs++[.str k]))=[oA,.v (aH++D.map C5++[.inr r.1]) (cJ++Iq D++[.tup (r.2.map T.str)]),.v (aH++D.map C5++[.inr r.1]) (hs++[.str k])]:=by simp[EJ,Ne.symm fH,Ne.symm fI]
    refine⟨[some (.bor (.ins C [A,B,H] [oA,.v (aH++D.map C5) (cJ++Iq D),.v (aH++D.map C5) hs])),vl sc,vl (.str k),vl mk,vl (.str r.1),vl (.tup (r.2.map T.str))],[some (.bor (.ins C [A,B,H] [oA,.v (aH++D.map C5++[.inr r.1]) (cJ++Iq D++[.tup (r.2.map T.str)]),.v (aH++D.map C5++[.inr r.1]) (hs++[.str k])])),vl sc,vl (.str k),vl mk,vl (.str r.1),vl (.tup (r.2.map T.str))],Ef (by unfold tgN;exact AY rfl g4) (by unfold tgN;exact AY rfl g5),?_,D++[r],R,vl (.str r.1),vl (.tup (r.2.map T.str)),hs++[.str k],?_,by rw[<- eD];simp,e2,AG,AG⟩
    .refine sq (JY (t:=.tup (r.2.map T.str)) (Cd (An (Aa rfl) rfl) rfl) rfl rfl v1 bF hl rfl) ?_;rw[s1];refine JY (t:=.str k) (Au (Aa rfl)) rfl rfl v2 bF hl ?_;rw[s2];rfl
    .unfold Iq;rw[qF,qF,<- qT,<- qT];rfl)
  (rows.map Cv) [some (.bor (.ins C [A,B,H] [oA,.v aH cJ,.v aH gy])),vl sc,vl (.str k),vl mk,x4,x5] ⟨[],rows,x4,x5,gy,by simp[Iq],rfl,rfl,f4,f5⟩
 have hR:R=[]:=by cases R with|nil=>rfl|cons a b=>cases eR
 subst hR;rw[rD]at eD;subst eD;exact⟨y4,y5,hs,g4,g5,ef⟩
theorem Kx:("makers_by_kind":Str)≠("parts_by_maker":Str)/\("makers_by_kind":Str)≠("home_by_maker":Str)/\("parts_by_maker":Str)≠("home_by_maker":Str):=by decide +kernel
noncomputable def Mv(C:Addr)(K:Kd)(hs:List T):FO:=.ins C ["makers_by_kind","parts_by_maker","home_by_maker"] [.v (BI K) (DD K),.v (BD K) (Jz K),.v (BD K) hs]
theorem Lp{C:Addr}{K:Kd}(W:Well K):∃hs,BV C [some (.bor (.ins C [] [])),vl (.lst (K.map Aw))]=.ok (.t .l) [some (.bor (Mv C K hs)),vl (.lst (K.map Aw))]:=by
 have kZ:=CN W.lo W.hi W.nd W.nm W.rw;have nZ:=Cm W;have all:∃hs x2 x3 x4 x5,C0 C [some (.bor (.ins C [] [])),vl (.lst (K.map Aw)),none,none,none,none]=.nx [some (.bor (Mv C K hs)),vl (.lst (K.map Aw)),x2,x3,x4,x5]:=by
  unfold C0 Mv;obtain⟨fG,fH,fI⟩:=Kx;generalize ("makers_by_kind":Str)=A at fG fH ⊢;generalize ("parts_by_maker":Str)=B at fG fI ⊢;generalize ("home_by_maker":Str)=H at fH fI ⊢;obtain⟨aj,ef,D,R,x2,x3,x4,x5,hs,rfl,eD,eR,g2,g3,g4,g5⟩:=Cr (gt:=Bo 2 (Ap (tgN 2) (Ap (tgN 3) Bl))) (body:=(Av (Df C A 0 2 (BR false [none,none] (itU (fz (Ab 3))) (Bo 2 (Ap (tgN 0) (Ap (tgN 1) Bl))) Dy (fz (Ab 0))))
  (Dd (itU (fz (Ab 3))) (Bo 2 (Ap (tgN 4) (Ap (tgN 5) Bl))) (Av (Df C B 0 4 (Ah BK (Ac (Ab 5) Ai)))
  (Df C H 0 4 (fz (Ab 2)))))))
   (λts fs=>∃(D R:Kd)(x2 x3 x4 x5:Option Sl)(hs:List T),fs=[some (.bor (.ins C [A,B,H] [.v (BI D) (DD D),.v (BD D) (Jz D),.v (BD D) hs])),vl (.lst (K.map Aw)),x2,x3,x4,x5]/\D++R=K/\ts=R.map Aw/\Fre x2/\Fre x3/\Fre x4/\Fre x5)
   (λt' ts fs h=>by
    obtain⟨D,R,x2,x3,x4,x5,hs,rfl,eD,eR,g2,g3,g4,g5⟩:=h;cases R with
    |nil=>cases eR
    |cons kd R =>
     rw[qm]at eR;obtain⟨e1,e2⟩:=List.cons.inj eR;subst e1;obtain⟨w1,w2,hm,w3⟩:=W.part eD;have cq:=W.nd;have bF:(.inr kd.1:Key)∉BI D:=by
      intro m;unfold BI at m;rw[rh]at m;obtain⟨gC,m',e'⟩:=m;have jw:gC.1=kd.1:=by simpa using e'
      rw[<- eD,qF,qp]at cq;exact cq.2.2 gC.1 (rh.mpr ⟨gC,m',rfl⟩) kd.1 (by simp) jw
     have hlen:(BI D).length<big:=by
      unfold BI;rw[qw];have:=congrArg List.length eD;have h4:=W.hi;simp at this;show D.length<1000000
      lia
     have v1:Dx [A,B,H] [.v (BI D) (DD D),.v (BD D) (Jz D),.v (BD D) hs] A=some (.v (BI D) (DD D)):=by simp[Dx]
     have s1:EJ [A,B,H] [.v (BI D) (DD D),.v (BD D) (Jz D),.v (BD D) hs] A (.v (BI D++[.inr kd.1]) (DD D++[.lst ((kd.2.map (·.1)).map T.str)]))=[.v (BI D++[.inr kd.1]) (DD D++[.lst ((kd.2.map (·.1)).map T.str)]),.v (BD D) (Jz D),.v (BD D) hs]:=by simp[EJ]
     have c1:BR false [none,none] (itU (fz (Ab 3))) (Bo 2 (Ap (tgN 0) (Ap (tgN 1) Bl))) Dy (fz (Ab 0)) [some (.bor (.ins C [A,B,H] [.v (BI D) (DD D),.v (BD D) (Jz D),.v (BD D) hs])),vl (.lst (K.map Aw)),vl (.str kd.1),vl (.lst (kd.2.map Cv)),x4,x5]=.ok (.t (.lst ((kd.2.map (·.1)).map T.str))) [some (.bor (.ins C [A,B,H] [.v (BI D) (DD D),.v (BD D) (Jz D),.v (BD D) hs])),vl (.lst (K.map Aw)),vl (.str kd.1),vl (.lst (kd.2.map Cv)),x4,x5]:=by obtain⟨x,y,_,_,e⟩:=Eu (fe:=fz (Ab 0)) (f:=λr:Str×List Str=>.str r.1) (g:=λr=>.tup (r.2.map T.str)) (h:=λr=>.str r.1) (rest:=[]) kd.2 none none [] Ar Ar (λkd _=>Au (Aa rfl)) (by have:=(W.rw kd hm).2;show 0+_<=1000000;lia);have:=CL (src:=[none,none]) (fi:=itU (fz (Ab 3))) (fs:=[some (.bor (.ins C [A,B,H] [.v (BI D) (DD D),.v (BD D) (Jz D),.v (BD D) hs])),vl (.lst (K.map Aw)),vl (.str kd.1),vl (.lst (kd.2.map Cv)),x4,x5]) (ts:=kd.2.map Cv) rfl ⟨by rw[show Cj _ (List.map _ [none,none])=[]from rfl];exact qU,by rfl⟩ e (AJ rfl);rw[this,qV,rm];rfl
     obtain⟨y4,y5,iA,f4,f5,el⟩:=NK (C:=C) fG fH fI (oA:=.v (BI D++[.inr kd.1]) (DD D++[.lst ((kd.2.map (·.1)).map T.str)])) (sc:=.lst (K.map Aw)) (mk:=.lst (kd.2.map Cv)) (k:=kd.1) (rows:=kd.2) (aH:=BD D) (cJ:=Jz D) (gy:=hs) (x4:=x4) (x5:=x5) g4 g5 w1 w2;refine⟨[some (.bor (.ins C [A,B,H] [.v (BI D) (DD D),.v (BD D) (Jz D),.v (BD D) hs])),vl (.lst (K.map Aw)),vl (.str kd.1),vl (.lst (kd.2.map Cv)),x4,x5],[some (.bor (.ins C [A,B,H] [.v (BI D++[.inr kd.1]) (DD D++[.lst ((kd.2.map (·.1)).map T.str)]),.v (BD D++kd.2.map C5) (Jz D++Iq kd.2),.v (BD D++kd.2.map C5) iA])),vl (.lst (K.map Aw)),vl (.str kd.1),vl (.lst (kd.2.map Cv)),y4,y5],Ef (by unfold tgN;exact AY rfl g2) (by unfold tgN;exact AY rfl g3),?_,D++[kd],R,vl (.str kd.1),vl (.lst (kd.2.map Cv)),y4,y5,iA,?_,by rw[<- eD];simp,e2,AG,AG,f4,f5⟩
     .refine sq (JY (t:=.lst ((kd.2.map (·.1)).map T.str)) c1 rfl rfl v1 bF hlen rfl) ?_;rw[s1];exact el
     .rw[EN,MQ];unfold BI DD;rw[qF,qF];rfl)
   (K.map Aw) [some (.bor (.ins C [A,B,H] [.v [] [],.v [] [],.v [] []])),vl (.lst (K.map Aw)),none,none,none,none] ⟨[],K,none,none,none,none,[],rfl,rfl,rfl,Ar,Ar,Ar,Ar⟩
  have hR:R=[]:=by cases R with|nil=>rfl|cons a b=>cases eR
  subst hR;rw[rD]at eD;subst eD;refine⟨hs,x2,x3,x4,x5,?_⟩;refine sq (HQ (Ct (Aj (Au (Aa (t:=.lst (D.map Aw)) rfl)) AB) rfl rfl kZ)) ?_;refine sq (HQ (Ct (Aj (Au (Aa (t:=.lst (D.map Aw)) rfl)) AB) rfl rfl nZ)) ?_;refine sq (aj:=[some (.bor (.ins C [A] [.v [] []])),vl (.lst (D.map Aw)),none,none,none,none]) (NY (o:=.v [] []) rfl rfl (show 0<900 by decide) rfl rfl) ?_;refine sq (aj:=[some (.bor (.ins C [A,B] [.v [] [],.v [] []])),vl (.lst (D.map Aw)),none,none,none,none]) (NY (o:=.v [] []) rfl rfl (show 1<900 by decide) (by simp[Gz,fG]) rfl) ?_;refine sq (aj:=[some (.bor (.ins C [A,B,H] [.v [] [],.v [] [],.v [] []])),vl (.lst (D.map Aw)),none,none,none,none]) (NY (o:=.v [] []) rfl rfl (show 2<900 by decide) (by simp[Gz,fH,fI]) rfl) ?_;exact ef
 obtain⟨hs,x2,x3,x4,x5,all⟩:=all;refine⟨hs,?_⟩;unfold BV B2;show(match C0 C [some (.bor (.ins C [] [])),vl (.lst (K.map Aw)),none,none,none,none]with|.nx τ=>_|.ret (.t t) τ=>_|.ret (.nw o) τ=>_|.ret (.n i) τ=>_|.exc c τ=>_|_=>_)=_;rw[all];rfl
noncomputable def Aq(C:Addr)(K:Kd)(hs:List T):T:=.ins C ["makers_by_kind","parts_by_maker","home_by_maker"] [.v (BI K) (DD K),.v (BD K) (Jz K),.v (BD K) hs]
theorem NZ{C:Addr}{K:Kd}{hs:List T}{i:Nat}{fs:FS}(h:fs[i]?=some (vl (Aq C K hs))):UM C "makers_by_kind" (Ab i) fs=.ok (.t (.v (BI K) (DD K))) fs:=by unfold UM;rw[Aa h];obtain⟨fG,fH,fI⟩:=Kx;unfold Aq;generalize ("makers_by_kind":Str)=A at *;simp[Out.bnd,Out.bind,Y7,R6,okT]
theorem OY{C:Addr}{K:Kd}{hs:List T}:Bf C [vl (Aq C K hs)]=.ok (.nw (.lst ((K.map (·.1)).map T.str))) [vl (Aq C K hs)]:=by
 have all:CB C [vl (Aq C K hs)]=.ret (.nw (.lst ((K.map (·.1)).map T.str))) [vl (Aq C K hs)]:=by unfold CB;refine AK (Cd (An (NZ rfl) rfl) ?_);show Out.ok (Rv.nw (.lst ((BI K).map UH))) _=_;unfold BI;rw[rm,rm];rfl
 unfold Bf B2;show(match CB C [vl (Aq C K hs)]with|.nx τ=>_|.ret (.t t) τ=>_|.ret (.nw o) τ=>_|.ret (.n i) τ=>_|.exc c τ=>_|_=>_)=_;rw[all];rfl
theorem JP{K:Kd}(W:Well K):(K.map λkd=>(.inr kd.1:Key)).Nodup:=by have:=IS W.nd;rwa[rm]at this
theorem val_mk{K:Kd}(W:Well K){kd:Str×List (Str×List Str)}(m:kd∈K):EG (BI K) (DD K) (.inr kd.1:Key)=some (.lst ((kd.2.map (·.1)).map T.str)) :=
 Ia (f:=λkd:Str×List (Str×List Str)=>(.inr kd.1:Key)) (g:=λkd:Str×List (Str×List Str)=>T.lst ((kd.2.map (λr:Str×List Str=>r.1)).map T.str)) m (JP W)
theorem Y4{k:Str}{ks:List Key}{ts:List T}{t:T}{fs:FS}(h:EG ks ts (.inr k:Key)=some t):A1 (.t (.v ks ts)) (.t (.str k)) fs=.ok (.t t) fs:=by
 have e:NV (.t (.v ks ts)) (.t (.str k)) fs=.ok (.t t) fs:=by simp only[NV,Uk,Lo,so,h,okT]
 exact e
theorem Mw{C:Addr}{K:Kd}{hs:List T}(W:Well K){kd:Str×List (Str×List Str)}(m:kd∈K):AX C [vl (Aq C K hs),vl (.str kd.1)]=.ok (.nw (.lst ((kd.2.map (·.1)).map T.str))) [vl (Aq C K hs),vl (.str kd.1)]:=by
 have all:Cg C [vl (Aq C K hs),vl (.str kd.1)]=.ret (.nw (.lst ((kd.2.map (·.1)).map T.str))) [vl (Aq C K hs),vl (.str kd.1)]:=by
  unfold Cg;refine sq (AU (Bn (b:=false) (Ae (Au (Aa (t:=.str kd.1) rfl)) (NZ rfl) ?_)) rfl) ?_
  .rw[Jah,val_mk W m];rfl
  exact AK (Cd (An (Ae (NZ rfl) (Au (Aa (t:=.str kd.1) rfl)) (Y4 (val_mk W m))) rfl) rfl)
 unfold AX B2;show(match Cg C [vl (Aq C K hs),vl (.str kd.1)]with|.nx τ=>_|.ret (.t t) τ=>_|.ret (.nw o) τ=>_|.ret (.n i) τ=>_|.exc c τ=>_|_=>_)=_;rw[all];rfl
theorem IQ:(["makers_by_kind","parts_by_maker","home_by_maker"]:List Str).any (·==("kinds":Str))=false/\(["makers_by_kind","parts_by_maker","home_by_maker"]:List Str).any (·==("makers":Str))=false/\(["makers_by_kind","parts_by_maker","home_by_maker"]:List Str).any (·==("parts":Str))=false:=by decide +kernel
theorem KD{C:Addr}{mt:Str}{fs:FS}{K:Kd}{hs:List T}(h:(["makers_by_kind","parts_by_maker","home_by_maker"]:List Str).any (·==mt)=false):GG C mt fs (.t (Aq C K hs))=true:=by unfold GG Aq;simp only[h];simp
theorem Xm{i:Nat}{f:FS->Out Rv}{fs aj:FS}{us ts:List T}(h0:fs[i]?=some (some (.own (.lst ts))))(h:f fs=.ok (.t (.lst us)) fs)(hl:ts.length+us.length<=big)(e:fs.set i (some (.own (.lst (ts++us))))=aj):AS (AH JT (Ab i) (Ac f Ai)) fs=.nx aj:=by
 have h1:Ab i fs=.ok (.n i) fs:=CW h0;have h2:FL.AM fs i=some (.lst ts):=VY h0;have h3:Cu fs (.n i)=some ts:=by simp only[Cu,h2]
 have h4:Ac f Ai fs=.ok [.t (.lst us)] fs:=An h rfl;have h5:WC (.n i) [.t (.lst us)] fs=.ok (.t .l) aj:=by
  simp only[WC,h2];rw[if_pos hl];have:FL.putAt fs i (.lst (ts++us))=aj:=by unfold FL.putAt;rw[h0];exact e
  rw[this]
 have nO:JT (.n i) [.t (.lst us)] fs=.ok (.t .l) aj:=by unfold JT FL.orM;rw[h5]
 have h6:AH JT (Ab i) (Ac f Ai) fs=.ok (.t .l) aj:=by unfold AH;rw[h1];show(if(Cu fs (.n i)).isSome=true then _ else _)=_;rw[h3,if_pos (show(some ts).isSome=true from rfl),h4];exact nO
 unfold AS;rw[h6];rfl
theorem D3{gt:T->FS->Option FS}{body:FS->SO}{t:T}{ts:List T}{fs ag ax:FS}(h1:gt t fs=some ag)(h2:body ag=.nx ax):Cy gt body (t::ts) fs=Cy gt body ts ax:=by simp only[Cy,h1,h2]
theorem Ez{g:List Rv->FS->Out Rv}{fa:FS->Out (List Rv)}{fs ag:FS}{rs:List Rv}{r:Out Rv}(h:fa fs=.ok rs ag)(h2:g rs ag=r):Ah g fa fs=r:=by unfold Ah;rw[h];exact h2
theorem Qz{gt:T->FS->Option FS}{fe:FS->Out Rv}{t v:T}{ts ao:List T}{τ iV bM:FS}(h1:gt t τ=some iV)(h2:fe iV=.ok (.t v) bM)(hl:ao.length<big):B0 gt Dy fe (t::ts) τ ao=B0 gt Dy fe ts bM (ao++[v]):=by simp only[B0,h1,Dy,h2,if_pos hl]
theorem Jaq{f:FS->Out Rv}{i j:Nat}{fs ag ax aj:FS}{x y:T}(h:f fs=.ok (.t (.tup [x,y])) ag)(h1:tgN i x ag=some ax)(h2:tgN j y ax=some aj):XG f (Bo 2 (Ap (tgN i) (Ap (tgN j) Bl))) fs=.nx aj:=by unfold XG;rw[h];show(match Bo 2 (Ap (tgN i) (Ap (tgN j) Bl)) (.tup [x,y]) ag with|some fs=>SO.nx fs|none=>.bad)=_;rw[Ef h1 h2]
theorem HU{g:Rv->Rv->FS->Out Rv}{fa fb:FS->Out Rv}{fs:FS}{y:T}{i:Nat}{r:Out Rv}(h1:fa fs=.ok (.n i) fs)(h2:fb fs=.ok (.t y) fs)(h3:g (.n i) (.t y) fs=r):Ad g fa fb fs=r:=by unfold Ad;rw[h1];show(fb fs).bnd _=r;rw[h2];exact h3
theorem Q1{fs:FS}{i:Nat}{ts:List T}(h:fs[i]?=some (some (.own (.lst ts)))):Cu fs (.n i)=some ts:=by simp only[Cu,VY h]
theorem OK{f g:FS->Out Bool}{fs:FS}{a b:Bool}(h1:f fs=.ok a fs)(h2:g fs=.ok b fs):Mc f g fs=.ok (a&&b) fs:=by
 unfold Mc;rw[h1];cases a
 .rfl
 .show g fs=_;rw[h2];rfl
open PySem.Builtin.Int (intBits)
theorem E1{x:Int}{n:Nat}:intBits x<=n↔x.natAbs<2^n:=by
 unfold intBits;by_cases h:x=0
 .subst h;simp[Nat.two_pow_pos]
 .have h':(x==0)=false:=by simpa using h
  rw[h'];have hn:x.natAbs≠0:=by lia
  have:=Nat.log2_lt hn (k:=n);simp only[rW,if_false]
  lia
theorem bits_add{x y:Int}{n:Nat}(h1:intBits x<=n)(h2:intBits y<=n):intBits (x+y)<=n+1:=by
 rw[E1]at h1 h2 ⊢;rw[Nat.pow_succ];generalize 2^n=m at *
 lia
theorem bits_mul{x y:Int}{n m:Nat}(h1:intBits x<=n)(h2:intBits y<=m):intBits (x*y)<=n+m:=by
 rw[E1]at h1 h2 ⊢;rw[Int.natAbs_mul,Nat.pow_add];have hp:0<2^n:=Nat.two_pow_pos n
 calc x.natAbs*y.natAbs<=2^n*y.natAbs:=sP _ (by lia)
  _<2^n*2^m:=Nat.mul_lt_mul_of_pos_left h2 hp
theorem K9{n:Nat}:∀zs:List Int,(∀z∈zs,intBits z<=n)->zs.sum.natAbs<=zs.length*2^n
 | [],_=>by simp
 |z::zs,h=>by
  have h1:=K9 zs λz m=>h z (qt _ m)
  have h2:=h z rg;rw[E1]at h2;rw[List.sum_cons,qD,tE,Nat.one_mul];generalize zs.length*2^n=q at *;generalize 2^n=m at *
  lia
theorem Lb:∀{ns:List Int}{z:Int},z∈ns->intBits z<=BY ns
 |n::ns,z,h=>by
  simp only[BY];rcases qK.mp h with rfl|h
  .lia
  .have:=Lb h
   lia
theorem La{ns:List Int}{N:Nat}(hb:BY ns<=N)(i:Nat):intBits (ns.getD i 0)<=N:=by
 by_cases h:i<ns.length
 .have:ns.getD i 0∈ns:=by simp[List.getD,h]
  have:=Lb this
  lia
 .have:ns.getD i 0=0:=by simp[List.getD,rq (by lia:ns.length<=i)]
  rw[this,E1];exact Nat.two_pow_pos N
theorem E2{x:Int}{n:Nat}(h:x.natAbs<2^n):intBits x<=n:=E1.mpr h
theorem mixed{ns:List Int}{N:Nat}(hN:N<=2^20)(hb:BY ns<=N):∃v τ,DR [vl (.z7 (ns.map T.int)),iv 2,iv 4]=.ok (.t (.int v)) τ:=by
 have all:∃v τ,Fx [vl (.z7 (ns.map T.int)),iv 2,iv 4,none,none]=.ret (.t (.int v)) τ:=by
  unfold Fx;obtain⟨zs,⟨hl,hz⟩,e1⟩:=drawn (t:=.z7 (ns.map T.int)) (ns:=ns) (.inl rfl) (a:=2) (b:=4) (by decide) (by decide) (by decide) (by decide) [none,none];have hs:intBits zs.sum<=N+6:=by
   have:=K9 (n:=N) zs λz m=>by obtain⟨i,rfl⟩:=hz z m;exact La hb i
   rw[E1,Nat.pow_add];have hp:=Nat.two_pow_pos N;have h2:zs.length*2^N<=63*2^N:=sP _ hl;generalize 2^N=m at *
   lia
  generalize zs.sum=c at e1 hs;generalize T.z7 (ns.map T.int)=sc at e1 ⊢;have s3:Ay 3 (Ah Qd (Ac (BR false [none,some 0] (PR (Ac (Ab 1) (Ac (Ah GH (Ac (Ah Bd (Ac (Ab 0) Ai)) (Ac (gc (.int 63)) Ai))) (Ac (Ab 2) Ai)))) (tgN 0) Dy (Ad A1 (Ab 1) (fz (Ab 0)))) Ai)) [vl sc,iv 2,iv 4,none,none]=.nx [vl sc,iv 2,iv 4,iv c,none]:=AF e1 rfl;have ce:=Gj (fa:=Ad Bk (Ab 3) (gc (.int 2))) (fb:=gc (.int 0)) (fs:=[vl sc,iv 2,iv 4,iv c,none]) (i:=c%2) (Ae (Aa rfl) Al (Bj (by decide))) Al;by_cases h0:c%2=0
  .rw[qE h0]at ce;have hp:TB (.t (.int 10)) (.t (.int 60)) [vl sc,iv 2,iv 4,iv c,none]=.ok (.t (.int (10^60))) [vl sc,iv 2,iv 4,iv c,none]:=by show(if(0:Int)<=60/\(60:Int)<=1000000/\(10:Int).natAbs<2^64 then okT (.int (10^(60:Int).toNat)) _ else .bad)=_;rw[if_pos ⟨by decide,by decide,by decide⟩];rfl
   have hq:(0:Int)<10^60:=by decide
   generalize (10:Int)^60=P at hp hq;exact⟨_,_,sq s3 (Bp (BH ce (AK (Ae (Ae (Aa rfl) Al (C9 ⟨by decide,by decide⟩)) (Ae Al Al hp) (Bj hq)))))⟩
  .rw[qv h0]at ce;have pW:N+6<=2^26:=by
                   have:(2:Nat)^20=1048576:=by decide
                   have:(2:Nat)^26=67108864:=by decide
                   lia
   have b1:intBits (c*c)<=(N+6)+(N+6):=bits_mul hs hs;have b2:intBits (c*c+c)<=(N+6)+(N+6)+1:=bits_add b1 (by lia);have b3:intBits (c*c+c+2)<=(N+6)+(N+6)+1+1:=bits_add b2 (qS (E2 (n:=3) (by decide)) (by lia));have b4:intBits (c*c+c+2+1)<=(N+6)+(N+6)+1+1+1:=bits_add b3 (qS (E2 (n:=3) (by decide)) (by lia));have b5:intBits ((c*c+c+2+1)*982451653)<=(N+6)+(N+6)+1+1+1+30:=bits_mul b4 (E2 (by decide));have m1:Ad Bm (Ab 3) (Ab 3) [vl sc,iv 2,iv 4,iv c,none]=.ok (.t (.int (c*c))) [vl sc,iv 2,iv 4,iv c,none]:=Ae (Aa rfl) (Aa rfl) (JR ⟨by lia,by lia⟩);have m2:Ad Bm (Ad Ao (Ad Ao (Ad Ao (Ad Bm (Ab 3) (Ab 3)) (Ab 3)) (Ab 1)) (gc (.int 1))) (gc (.int 982451653)) [vl sc,iv 2,iv 4,iv c,none]=.ok (.t (.int ((c*c+c+2+1)*982451653))) [vl sc,iv 2,iv 4,iv c,none] :=
    Ae (Ae (Ae (Ae m1 (Aa rfl) A0) (Aa rfl) A0) Al A0) Al (NR ⟨by decide,by decide⟩)
   generalize (c*c+c+2+1)*982451653=f at m2 b5;have s4:=AF (i:=4) m2 (aj:=[vl sc,iv 2,iv 4,iv c,iv f]) rfl;have k9:intBits f<=2^26:=by
    have:(2:Nat)^20=1048576:=by decide
    have:(2:Nat)^26=67108864:=by decide
    lia
   have hp:TB (.t (.int 10)) (.t (.int 18)) [vl sc,iv 2,iv 4,iv c,iv f]=.ok (.t (.int 1000000000000000000)) [vl sc,iv 2,iv 4,iv c,iv f]:=by show(if(0:Int)<=18/\(18:Int)<=1000000/\(10:Int).natAbs<2^64 then okT (.int (10^(18:Int).toNat)) _ else .bad)=_;rw[if_pos ⟨by decide,by decide,by decide⟩];rfl
   have m3:Ad Bk (Ad Bm (Ab 4) (Ab 4)) (Ad Ao (Ad TB (gc (.int 10)) (gc (.int 18))) (gc (.int 9))) [vl sc,iv 2,iv 4,iv c,iv f]=.ok (.t (.int (f*f%(1000000000000000000+9)))) [vl sc,iv 2,iv 4,iv c,iv f] :=
    Ae (Ae (Aa rfl) (Aa rfl) (JR ⟨k9,k9⟩)) (Ae (Ae Al Al hp) Al A0) (Bj (by decide))
   have hg:-(2^64)<f*f%(1000000000000000000+9)/\f*f%(1000000000000000000+9)<2^64:=by
    have h1:=rT (f*f) (show(1000000000000000000+9:Int)≠0 by decide);have h2:=rK (f*f) (show(0:Int)<1000000000000000000+9 by decide);generalize f*f%(1000000000000000000+9)=g at h1 h2 ⊢
    lia
   generalize f*f%(1000000000000000000+9)=g at m3 hg;have m4:Ad Ao (Ad Bk (Ab 4) (gc (.int 2147483629))) (gc (.int 7)) [vl sc,iv 2,iv 4,iv c,iv f]=.ok (.t (.int (f%2147483629+7))) [vl sc,iv 2,iv 4,iv c,iv f]:=Ae (Ae (Aa rfl) Al (Bj (by decide))) Al A0;exact⟨_,_,sq s3 (sq (AU ce rfl) (sq s4 (AK (Ae m3 m4 (Ge hg)))))⟩
 obtain⟨v,τ,all⟩:=all;refine⟨v,τ.take 3,?_⟩;unfold DR B2;show(match Fx [vl (.z7 (ns.map T.int)),iv 2,iv 4,none,none]with|.nx τ=>_|.ret (.t t) τ=>_|.ret (.nw o) τ=>_|.ret (.n i) τ=>_|.exc c τ=>_|_=>_)=_;rw[all];rfl
theorem IE(c:Int){n:Nat}(h:n<=12):(nms c n).Nodup:=by unfold nms;rw[List.nodup_iff_pairwise_ne,List.pairwise_map];refine List.Pairwise.imp_of_mem ?_ (List.nodup_iff_pairwise_ne.mp (List.nodup_range (n:=n)));intro a b ma mb fJ e;rw[rP]at ma mb;exact fJ (SW (by lia) (by lia) e)
theorem HB{c:Int}{n:Nat}{x:Str}(h:x∈nms c n):∃k,x=nmS c k:=by unfold nms at h;rw[rh]at h;obtain⟨k,_,e⟩:=h;exact⟨k,e.symm⟩
theorem SV(c:Int)(k:Nat):(nmS c k).length<=12:=by show(Nm.codes c k).toArray.size<=12;rw[qz];exact Nm.HR c k
theorem GJ(K:Kd)(kd:Str×List (Str×List Str)):used (K++[kd])=used K+kd.2.length:=by unfold used;simp
theorem HC{names makers:List Str}{K:Kd}(h:KOk names makers K)(hu:used K<=makers.length):∀a,a<=K.length->mks (K.take a)=makers.take (used (K.take a))/\used (K.take a)<=used K
 |0,_=>by simp[mks,used]
 |a+1,ha=>by
  obtain⟨i1,i2⟩:=HC h hu a (by lia);have bc:a<K.length:=by lia
  obtain⟨_,_,_,R⟩:=h.at_ a K[a] (qo bc);have e:K.take (a+1)=K.take a++[K[a]]:=by rw[List.take_succ_eq_append_getElem bc]
  have hle:used (K.take (a+1))<=used K:=by
   have:K=K.take (a+1)++K.drop (a+1):=(List.take_append_drop _ _).symm
   conv=>rhs;rw[this]
   unfold used;rw[qF,List.sum_append]
   lia
  refine⟨?_,hle⟩;rw[e]at hle ⊢;rw[HD,GJ,i1,DO];rw[GJ]at hle;simp only[mks,List.flatMap_nil,rD];rw[R.mks];generalize used (K.take a)=u at *;generalize K[a].2.length=l at *;rw[List.take_add];congr 1;refine sI λj=>?_
  rw[List.getElem?_take];by_cases hj:j<l
  .rw[if_pos hj,List.getElem?_drop,qX,se hj];have:u+j<makers.length:=by lia
   simp[List.getD,this]
  .rw[if_neg hj,rq (by simp;lia)]
theorem well{c0 c1:Int}{K:Kd}(h1:1<=K.length)(h4:K.length<=4)(h:KOk (nms c0 K.length) (nms c1 12) K)(hu:used K<=12):Well K:=by
 have bU:K.map (·.1)=nms c0 K.length:=by
  refine sI λi=>?_
  rw[qX];by_cases hi:i<K.length
  .have:=(h.at_ i K[i] (qo hi)).1;rw[qo hi,so,this,qo (by rw[DC];exact hi)];simp[List.getD,DC,hi]
  .rw[rq (by lia),rq (by rw[DC];lia)];rfl
 have dJ:mks K=(nms c1 12).take (used K):=by have:=(HC h (by rw[DC];exact hu) K.length (qH _)).1;rwa[List.take_length]at this
 have bZ:∀kd∈K,∃a,a<K.length/\1<=kd.2.length/\kd.2.length<=4/\Rows (nms c0 K.length) (nms c1 12) a (used (K.take a)) kd.2:=λkd m=>by obtain⟨a,ha,ea⟩:=List.mem_iff_getElem.mp m;obtain⟨_,q1,q2,R⟩:=h.at_ a kd (by rw[qo ha,ea]);exact⟨a,ha,q1,q2,R⟩
 have lh:∀m∈mks K,∃k,m=nmS c1 k:=λm hm=>by rw[dJ]at hm;exact HB (sQ hm)
 refine⟨h1,h4,?_,λkd m=>?_,λkd m=>?_,?_,λm hm=>?_,λm hm=>?_,λkd m r hr=>?_,λkd m r hr x hx=>?_,λD kd R e r hr x hx=>?_⟩
 .rw[bU];exact IE c0 (by lia)
 .have:kd.1∈nms c0 K.length:=by rw[<- bU];exact rh.mpr ⟨kd,m,rfl⟩
  obtain⟨k,e⟩:=HB this;rw[e];exact GP c0 k
 .obtain⟨a,_,q1,q2,_⟩:=bZ kd m;exact⟨q1,q2⟩
 .rw[dJ];exact(IE c1 (qH 12)).sublist (List.take_sublist _ _)
 .obtain⟨k,e⟩:=lh m hm;rw[e];exact GP c1 k
 .obtain⟨k,e⟩:=lh m hm;rw[e];exact SV c1 k
 .obtain⟨a,_,_,_,R⟩:=bZ kd m;exact R.two r hr
 .obtain⟨a,_,_,_,R⟩:=bZ kd m;rw[bU];exact R.zm r hr x hx
 .obtain⟨_,_,_,Rw⟩:=h.at_ D.length kd (by rw[e];simp);have:=Rw.fst r hr x hx;rw[<- bU,e,qF]at this;rwa[List.take_left' (by simp)]at this
theorem Ta{C:Addr}{p:Nat}{Fn:FS->Out Rv}{fa:FS->Out (List Rv)}{fs ag τ:FS}{rs:List Rv}{o:FO}(ha:fa fs=.ok rs ag)(hp:rs.length+1=p)(hl:Cj ag (rs.map By)=[])(hf:Fn (some (.bor (.ins C [] []))::C8 ag (rs.map By))=.ok (.t .l) (some (.bor o)::τ)):Ah (IG C p Fn) fa fs=.ok (.nw o) ag:=by unfold Ah;rw[ha];show IG C p Fn rs ag=_;unfold IG;rw[if_pos ⟨by rw[hl];exact qU,hp⟩,hf];dsimp only;rw[AJ hl]
theorem J4{xs ys:List T}{fs:FS}(h:xs.length+ys.length<=big):Ao (.t (.lst xs)) (.t (.lst ys)) fs=.ok (.nw (.lst (xs++ys))) fs:=by
 have:IU (.t (.lst xs)) (.t (.lst ys)) fs=.ok (.nw (.lst (xs++ys))) fs:=by simp only[IU,exL];exact if_pos h
 show(match IU (.t (.lst xs)) (.t (.lst ys)) fs with|.bad=>_|o=>o)=_;rw[this]
theorem Hx{f g:FS->Out Bool}{fs:FS}{r:Out Bool}(h:f fs=.ok false fs)(e:g fs=r):orT f g fs=r:=by unfold orT;rw[h];exact e
theorem CG{n:Nat}{g:FS->SO}{args τ:FS}{t:T}(h:g (args++List.replicate n none)=.ret (.t t) τ):B2 n g args=.ok (.t t) (τ.take args.length):=by unfold B2;rw[h]
theorem Tn{f:FS->Out Rv}{fs:FS}{ts:List T}(h:f fs=.ok (.t (.tup ts)) fs):itU f fs=.ok ts fs:=by unfold itU;rw[h];rfl
theorem Gn{α:Type}{fe:FS->Out Rv}{p q:α->T}{rest:FS}:∀(xs:List α)(x:Option Sl)(ao:List T),Fre x->(∀a∈xs,fe (vl (p a)::rest)=.ok (.t (q a)) (vl (p a)::rest))->ao.length+xs.length<=big ->
  ∃y,Fre y/\B0 (tgN 0) Dy fe (xs.map p) (x::rest) ao=some (ao++xs.map q,y::rest)
 | [],x,ao,hx,_,_=>⟨x,hx,by simp[B0]⟩
 |a::xs,x,ao,hx,h,hl=>by
  obtain⟨y,hy,e⟩:=Gn xs (vl (p a)) (ao++[q a]) AG (λb m=>h b (qt _ m)) (by simp at hl ⊢;lia);refine⟨y,hy,?_⟩;have h1:tgN 0 (p a) (x::rest)=some (vl (p a)::rest):=by unfold tgN;rw[AY (x:=x) rfl hx];rfl
  have h2:=h a rg;have h3:ao.length<big:=by simp at hl;lia
  simp only[qm,B0,h1,Dy,h2,if_pos h3,e];simp
theorem GD{f:FS->Out Rv}{fs:FS}{ts:List T}{i:Nat}{t:T}(h:f fs=.ok (.t (.tup ts)) fs)(e:ts[i]?=some t):Ad A1 f (gc (.int i)) fs=.ok (.t t) fs:=by refine Ae h Al ?_;have q:=AN (j:=i) e;unfold A1 orG gIx;show(match(match atI ts (i:Int)with|some t=>okT t fs|none=>.bad)with|.bad=>_|r=>r)=_;rw[q];rfl
theorem ER{f:FS->Out Rv}{fs:FS}{ts:List T}(h:f fs=.ok (.t (.lst ts)) fs):itU f fs=.ok ts fs:=by unfold itU;rw[h];rfl
theorem YW{c:FS->Out Bool}{f g:FS->Out Rv}{fs:FS}{r:Out Rv}(h:c fs=.ok true fs)(e:f fs=r):ifV c f g fs=r:=by unfold ifV;rw[h];exact e
theorem YX{c:FS->Out Bool}{f g:FS->Out Rv}{fs:FS}{r:Out Rv}(h:c fs=.ok false fs)(e:g fs=r):ifV c f g fs=r:=by unfold ifV;rw[h];exact e
noncomputable def exN(s:Str):T:=.tup [.str "name",.str s]
noncomputable def exP(h s:Str)(ts:List T):T:=.tup [.str h,.str s,.tup ts]
theorem Po{f g:FS->Out Bool}{fs:FS}(h:f fs=.ok true fs):orT f g fs=.ok true fs:=by unfold orT;rw[h];rfl
noncomputable def nd:Nat->Nat
 |0=>1
 |d+1=>1+3*nd d
theorem NF{L:List Str}(hL:L≠[])(x:Int):∃s,s∈L/\atI (L.map T.str) (x%(L.length:Int))=some (.str s):=by
 have h0:0<L.length:=List.length_pos_iff.mpr hL;have h1:=rK x (show(0:Int)<L.length by lia);have h2:=rT x (show(L.length:Int)≠0 by lia);obtain⟨i,hi⟩:∃i:Nat,x%(L.length:Int)=i:=⟨(x%(L.length:Int)).toNat,by lia⟩
 have bc:i<L.length:=by lia
 refine⟨L[i],List.getElem_mem bc,?_⟩;rw[hi];exact AN (by rw[qX,qo bc];rfl)
theorem XF(x:Int):∃k:Nat,k<=3/\atI [T.int 0,T.int 1,T.int 2,T.int 3,T.int 1,T.int 2] (x%6)=some (.int k):=by
 have h1:=rK x (show(0:Int)<6 by lia);have h2:=rT x (show(6:Int)≠0 by lia);obtain⟨i,hi⟩:∃i:Nat,x%6=i:=⟨(x%6).toNat,by lia⟩
 have bc:i<6:=by lia
 rw[hi];have:∃k:Nat,k<=3/\([T.int 0,T.int 1,T.int 2,T.int 3,T.int 1,T.int 2]:List T)[i]?=some (.int k):=by
  rcases i with _|_|_|_|_|_|i
  .exact⟨0,by lia,rfl⟩
  .exact⟨1,by lia,rfl⟩
  .exact⟨2,by lia,rfl⟩
  .exact⟨3,by lia,rfl⟩
  .exact⟨1,by lia,rfl⟩
  .exact⟨2,by lia,rfl⟩
  .lia
 obtain⟨k,hk,e⟩:=this;exact⟨k,hk,AN e⟩
theorem VZ:∀d,1<=nd d
 |0=>by simp[nd]
 |d+1=>by simp[nd]
inductive E where
 |nm (s:Str)
 |pt (h:Bool) (s:Str) (es:List E)
noncomputable def hd(b:Bool):Str:=if b then "make" else "call"
mutual
noncomputable def E.t:E->T
 |.nm s=>exN s
 |.pt h s es=>exP (hd h) s (E.ts es)
noncomputable def E.ts:List E->List T
 | []=>[]
 |e::es=>e.t::E.ts es
end
mutual
def E.ok:Nat->E->Prop
 |_,.nm _=>True
 |0,.pt _ _ _=>False
 |d+1,.pt _ _ es=>es.length<=3/\E.oks d es
def E.oks:Nat->List E->Prop
 |_,[]=>True
 |d,e::es=>E.ok d e/\E.oks d es
end
theorem E.QY:∀es:List E,E.ts es=es.map E.t
 | []=>by simp[E.ts]
 |e::es=>by simp[E.ts,E.QY es]
theorem E.FU:∀{d:Nat}{es:List E},E.oks d es->∀e∈es,E.ok d e
 |_,[],_,e,m=>nomatch m
 |d,x::es,h,e,m=>by
  simp only[E.oks]at h;rcases qK.mp m with rfl|m
  .exact h.1
  .exact E.FU h.2 e m
theorem E.Rp:∀{d:Nat}{es:List E},(∀e∈es,E.ok d e)->E.oks d es
 |_,[],_=>by simp[E.oks]
 |d,x::es,h=>by simp only[E.oks];exact⟨h x (by simp),E.Rp λe m=>h e (qt _ m)⟩
theorem Y2(b:Bool):hd b≠("name":Str):=by cases b<;>decide
theorem Uh(m:Nat)(a b:Str):eqT m (.str a) (.str b)=some (a==b):=by cases m<;>rfl
theorem HP(m:Nat)(xs ys:List T):eqT (m+1) (.tup xs) (.tup ys)=(Jq (eqT m) xs ys).map (·&&xs.length==ys.length):=rfl
theorem E.Yh(e:E):∃xs,e.t=.tup xs:=by cases e with|nm s=>exact⟨_,by simp only[E.t,exN];rfl⟩|pt h s es=>exact⟨_,by simp only[E.t,exP];rfl⟩
theorem J9{c:FS->Out Bool}{b:FS->SO}{n:Nat}{fs aj:FS}(h:c fs=.ok true fs)(e:b fs=.nx aj):BG c b (n+1) fs=BG c b n aj:=by rw[BG,h];show(match b fs with|.nx fs=>BG c b n fs|.cnt fs=>_|.brk fs=>_|o=>o)=_;rw[e]
theorem CS{g h:FS->SO}{fs aj:FS}{c:Str}(e:g fs=.exc c aj):Av g h fs=.exc c aj:=by unfold Av;rw[e]
theorem JU{gt:T->FS->Option FS}{body:FS->SO}{t:T}{ts:List T}{fs ag ax:FS}{c:Str}(h1:gt t fs=some ag)(h2:body ag=.exc c ax):Cy gt body (t::ts) fs=.exc c ax:=by simp only[Cy,h1,h2]
theorem Dl{n:Nat}{g:FS->SO}{args τ:FS}{c:Str}(h:g (args++List.replicate n none)=.exc c τ):B2 n g args=.exc c (τ.take args.length):=by unfold B2;rw[h]
theorem Ey{p:Nat}{Fn:FS->Out Rv}{fa:FS->Out (List Rv)}{fs ag τ:FS}{rs:List Rv}{c:Str}(ha:fa fs=.ok rs ag)(hp:rs.length=p)(hn:Cj ag (rs.map By)=[])(hf:Fn (C8 ag (rs.map By))=.exc c τ):Ah (Ak p Fn) fa fs=.exc c ag:=by have hb:Ec (rs.map By) τ ag=some ag:=AJ hn;unfold Ah;rw[ha];show Ak p Fn rs ag=_;unfold Ak;rw[if_pos hp];unfold Gs;rw[if_pos (by rw[hn];exact qU),hf];simp only[hb]
theorem RH{f:FS->Out Rv}{fs ag:FS}{c:Str}(h:f fs=.exc c ag):fz f fs=.exc c ag:=by unfold fz;rw[h];rfl
theorem IX{f:FS->Out Rv}{fs ag:FS}{c:Str}(h:f fs=.exc c ag):AS f fs=.exc c ag:=by unfold AS;rw[h];rfl
theorem Ki{i:Nat}{f:FS->Out Rv}{fs ag:FS}{c:Str}(h:f fs=.exc c ag):Ay i f fs=.exc c ag:=by unfold Ay;rw[h];rfl
abbrev cds(s:Str):List Nat:=s.cps.toList
theorem AO(x y:Str):cds (x++y)=cds x++cds y:=by show(x.cps++y.cps).toList=_;simp
theorem AR(x:Str):x.length=(cds x).length:=by show x.cps.size=_;simp
noncomputable def inter(z:List Nat):List (List Nat)->List Nat
 | []=>[]
 | [a]=>a
 |a::b::r=>a++z++inter z (b::r)
theorem Ft(z:Str):∀ys:List Str,cds (Txt.join z ys)=inter (cds z) (ys.map cds):=by
 intro ys;show cds (Builtin.Str.glued z ys)=_;rw[StrLaws.glued_eq_join]
 induction ys with|nil=>rfl|cons x r ih =>cases r with|nil=>simp[Str.join,inter]|cons y r =>show cds (x++z++Str.join z (y::r))=_;rw[AO,AO,ih];rfl
mutual
noncomputable def E.tx:E->Str
 |.nm s=>s
 |.pt _ s es=>s++("(":Str)++Txt.join (", ":Str) (E.txs es)++(")":Str)
noncomputable def E.txs:List E->List Str
 | []=>[]
 |e::es=>e.tx::E.txs es
end
theorem E.EH:∀es:List E,E.txs es=es.map E.tx
 | []=>by simp[E.txs]
 |e::es=>by simp[E.txs,E.EH es]
mutual
def E.al(p:Str->Prop):E->Prop
 |.nm s=>p s
 |.pt _ s es=>p s/\E.als p es
def E.als(p:Str->Prop):List E->Prop
 | []=>True
 |e::es=>e.al p/\E.als p es
end
theorem E.Gy{p:Str->Prop}:∀{es:List E},E.als p es->∀e∈es,e.al p
 | [],_,e,m=>nomatch m
 |x::es,h,e,m=>by
  simp only[E.als]at h;rcases qK.mp m with rfl|m
  .exact h.1
  .exact E.Gy h.2 e m
theorem E.RX{p:Str->Prop}:∀{es:List E},(∀e∈es,e.al p)->E.als p es
 | [],_=>by simp[E.als]
 |x::es,h=>by simp only[E.als];exact⟨h x (by simp),E.RX λe m=>h e (qt _ m)⟩
structure Lw(s:Str):Prop where
 lo:1<=(cds s).length
 hi:(cds s).length<=12
 al:∀c∈cds s,97<=c/\c<=122
noncomputable def tB:Nat->Nat
 |0=>12
 |d+1=>20+3*tB d
theorem IM{z:List Nat}{B:Nat}:∀(ys:List (List Nat)),(∀y∈ys,y.length<=B)->(inter z ys).length<=ys.length*B+ys.length*z.length
 | [],_=>by simp[inter]
 | [a],h=>by
  have:=h a (by simp);simp[inter]
  lia
 |a::b::r,h=>by
  have h1:=h a (by simp);have ih:=IM (z:=z) (b::r) λy m=>h y (qt _ m)
  simp only[inter,qA];rw[qD,tE,tE]
  lia
theorem p1:cds ("(":Str)=[40]:=by decide +kernel
theorem p2:cds (")":Str)=[41]:=by decide +kernel
theorem p3:cds (", ":Str)=[44,32]:=by decide +kernel
theorem Ke:∀{d:Nat}{e:E},E.ok d e->e.al Lw->(cds e.tx).length<=tB d
 |d,.nm s,_,h=>by
  simp only[E.al]at h;simp only[E.tx];have:∀d,12<=tB d:=λd=>by cases d<;>simp[tB]<;>lia
  exact qS h.hi (this d)
 |0,.pt h s es,ok,_=>by simp[E.ok]at ok
 |d+1,.pt h s es,ok,hw=>by
  simp only[E.ok]at ok;simp only[E.al]at hw;have h1:=IM (z:=cds (", ":Str)) (B:=tB d) (es.map λe=>cds e.tx) (λy m=>by obtain⟨e,me,rfl⟩:=rh.mp m;exact Ke (E.FU ok.2 e me) (E.Gy hw.2 e me));have h2:=hw.1.hi;simp only[E.tx,E.EH];rw[AO,AO,AO,Ft,p1,p2,rm];rw[p3,qw]at h1;rw[p3];have h3:es.length*tB d<=3*tB d:=sP _ ok.1;simp only[qA,tB,qD,r8]at *;have e4:(List.map (cds∘E.tx) es)=es.map λe=>cds e.tx:=rfl
  rw[e4]
  lia
theorem YT{f:FS->Out Rv}{fs:FS}{z:Str}{ys:List Str}(h:f fs=.ok (.t (.lst (ys.map T.str))) fs)(hl:(ys.map (·.length)).sum+ys.length*z.length<=big):fz (D8 Eo (gc (.str z)) (Ac f Ai)) fs=.ok (.t (.str (Txt.join z ys))) fs:=by
 have e:Eo (.t (.str z)) [.t (.lst (ys.map T.str))] fs=.ok (.t (.str (Txt.join z ys))) fs:=by show(match(some (ys.map T.str)).bind Cp with|some (ys:List Str)=>if(ys.map (λ(x:Str)=>x.length)).sum+ys.length*z.length<=big then okT (.str (Txt.join z ys)) fs else .bad|none=>.bad)=_;rw[rA,E5];exact if_pos hl
 refine Au ?_;unfold D8;rw[Al];show(Ac f Ai fs).bind _=_;rw[An h AB];exact e
theorem Mt{B:Nat}:∀ys:List Str,(∀y∈ys,y.length<=B)->(ys.map (·.length)).sum<=ys.length*B
 | [],_=>by simp
 |y::ys,h=>by
  have h1:=h y (by simp);have h2:=Mt ys λy m=>h y (qt _ m)
  rw[qm,List.sum_cons,qD,tE]
  lia
theorem U4:∀{d:Nat},d<=4->tB d<=2000
 |0,_=>by decide
 |1,_=>by decide
 |2,_=>by decide
 |3,_=>by decide
 |4,_=>by decide
 |d+5,h=>by lia
theorem QO{d:Nat}{es:List E}(hl:es.length<=3)(ok:E.oks d es)(hw:E.als Lw es)(hd:d<=4):((es.map E.tx).map (·.length)).sum+(es.map E.tx).length*(", ":Str).length<=big:=by
 have h1:=Mt (B:=2000) (es.map E.tx) λy m=>by obtain⟨e,me,rfl⟩:=rh.mp m;rw[AR];exact qS (Ke (E.FU ok e me) (E.Gy hw e me)) (U4 hd)
 have h2:(", ":Str).length=2:=by rw[AR,p3];rfl
 rw[h2];rw[qw]at *;show _<=1000000
 lia
theorem Ob{f g:FS->Out Rv}{fs:FS}{x y:Str}(h1:f fs=.ok (.t (.str x)) fs)(h2:g fs=.ok (.t (.str y)) fs)(h:x=y):asB (Ad (gEq false) f g) fs=.ok true fs:=by rw[Gi h1 h2,qE h]
theorem Ff{f g:FS->Out Rv}{fs:FS}{x y:Str}(h1:f fs=.ok (.t (.str x)) fs)(h2:g fs=.ok (.t (.str y)) fs)(h:x≠y):asB (Ad (gEq false) f g) fs=.ok false fs:=by rw[Gi h1 h2,qv h]
theorem N8(s:Str):(E.nm s).t=.tup [.str "name",.str s]:=by simp[E.t,exN]
theorem N7(h:Bool)(s:Str)(es:List E):(E.pt h s es).t=.tup [.str (hd h),.str s,.tup (es.map E.t)]:=by simp[E.t,exP,E.QY]
theorem text:∀(n d:Nat)(e:E),E.ok d e->d<n->d<=4->e.al Lw->Cs n [vl e.t]=.ok (.t (.str e.tx)) [vl e.t]
 |0,d,e,_,h,_,_=>by lia
 |n+1,d,.nm s,_,_,_,_=>by rw[N8];exact(CG (n:=0) (g:=HV (Cs n)) (args:=[vl (.tup [.str "name",.str s])]) (Bp (BH (Ob (GD (i:=0) (Aa rfl) rfl) Al rfl) (AK (GD (i:=1) (Aa rfl) rfl))))).trans (by simp[E.tx])
 |n+1,0,.pt h s es,ok,_,_,_=>by simp[E.ok]at ok
 |n+1,d+1,.pt h s es,ok,hn,i8,hw=>by
  have bnd:=Ke ok hw;simp only[E.ok]at ok;simp only[E.al]at hw;rw[N7];have g0:Ab 0 [vl (.tup [.str (hd h),.str s,.tup (es.map E.t)])]=.ok (.t (.tup [.str (hd h),.str s,.tup (es.map E.t)])) [vl (.tup [.str (hd h),.str s,.tup (es.map E.t)])]:=Aa rfl;obtain⟨y,_,hc⟩:=Gn (fe:=fz (Ah (Ak 1 (Cs n)) (Af (fz (Ab 0)) Ai))) (p:=E.t) (q:=λe=>.str e.tx) (rest:=[]) es none [] Ar (λx m =>Ck (Ct (rs:=[.t x.t]) (Aj (Au (Aa rfl)) AB) rfl rfl (text n d x (E.FU ok.2 x m) (by lia) (by lia) (E.Gy hw.2 x m)))) (by show _<=1000000;simp;lia);rw[qV]at hc;have ec:BR false [none] (itU (Ad A1 (Ab 0) (gc (.int 2)))) (tgN 0) Dy (fz (Ah (Ak 1 (Cs n)) (Af (fz (Ab 0)) Ai))) [vl (.tup [.str (hd h),.str s,.tup (es.map E.t)])]=.ok (.t (.lst ((es.map E.tx).map T.str))) [vl (.tup [.str (hd h),.str s,.tup (es.map E.t)])]:=by rw[rm];exact CL (src:=[none]) (Tn (GD (i:=2) g0 rfl)) ⟨by rw[show Cj _ _=[]from rfl];simp,by rfl⟩ hc rfl
  have ej:=YT (z:=(", ":Str)) ec (QO ok.1 ok.2 hw.2 (by lia));have oK:(E.pt h s es).tx=s++("(":Str)++Txt.join (", ":Str) (es.map E.tx)++(")":Str):=by simp[E.tx,E.EH]
  have hB:=U4 i8;rw[oK]at bnd ⊢;have b0:=bnd;rw[AO,AO,AO,qA,qA,qA]at b0;have fit:∀{x y:Str},(cds x).length+(cds y).length<=2000->x.length+y.length<=big:=λ{x y} hxy=>by
   rw[AR,AR];show _<=1000000
   lia
  exact(CG (n:=0) (g:=HV (Cs n)) (args:=[vl (.tup [.str (hd h),.str s,.tup (es.map E.t)])]) (sq (AU (Ff (GD (i:=0) g0 rfl) Al (Y2 h)) rfl) (AK (Ae (Ae (Ae (GD (i:=1) g0 rfl) Al (DG (fit (by lia)))) ej (DG (fit (by rw[AO,qA];lia)))) Al (DG (fit (by rw[AO,AO,qA,qA];lia))))))).trans rfl
abbrev ch(c:Nat):Str:=⟨#[c]⟩
abbrev CQ:Str:=⟨#[]⟩
noncomputable def isM(c:Nat):Bool:=c==40||c==41||c==44||c==32
theorem Co{a b:Nat}:ch a=ch b↔a=b:=by
 constructor
 .intro h;have:=congrArg cds h;simpa[ch]using this
 .rintro rfl;rfl
theorem mk_eq:Bz=[ch 40,ch 41,ch 44,ch 32]:=by decide +kernel
theorem J2(c:Nat):decide (ch c∈Bz)=isM c:=by
 rw[mk_eq,rL];simp[isM,Co]
 lia
theorem QT{s:Str}(h:Lw s):s∉Bz:=by
 rw[mk_eq];intro m;have key:∀c,isM c=true->s≠ch c:=λc hc e=>by
  have:=h.al c (by rw[e];simp[ch]);simp[isM]at hc
  lia
 simp only[qK,List.mem_nil_iff,or_false]at m;rcases m with m|m|m|m
 .exact key 40 rfl m
 .exact key 41 rfl m
 .exact key 44 rfl m
 .exact key 32 rfl m
noncomputable def step(st:List Str×Str)(c:Nat):List Str×Str:=if isM c=true then(st.1++[st.2,ch c],CQ)else(st.1,st.2++ch c)
noncomputable def prun(cs:List Nat)(st:List Str×Str):List Str×Str:=cs.foldl step st
theorem KI{f:FS->Out Rv}{fs:FS}{z:Str}{neg:Bool}(h:f fs=.ok (.t (.str z)) fs):asB (inG neg Bz f) fs=.ok (if neg then !decide (z∈Bz)else decide (z∈Bz)) fs:=by refine Bn ?_;unfold inG;rw[h];rfl
abbrev pcB:FS->SO:=(ifS (asB (inG false Bz (Ab 3))) (Av (AS (AH JT (Ab 1) (Ac (As A4 (Ac (fz (Ab 2)) (Ac (fz (Ab 3)) Ai))) Ai)))
  (Ay 2 (gc (.str ("":Str))))) (XD 2 (Ab 3)))
theorem MZ{x0:Option Sl}:∀(cs:List Nat)(P:List Str)(w:Str)(x3:Option Sl),Fre x3->P.length+2*cs.length<=100000->w.length+cs.length<=100000 ->
  ∃y3,Cy (tgN 3) pcB (cs.map λc=>T.str (ch c)) [x0,some (.own (.lst (P.map T.str))),vl (.str w),x3]=.nx [x0,some (.own (.lst ((prun cs (P,w)).1.map T.str))),vl (.str (prun cs (P,w)).2),y3]
 | [],P,w,x3,_,_,_=>⟨x3,by simp[Cy,prun]⟩
 |c::cs,P,w,x3,f3,h1,h2=>by
  rw[qD]at h1 h2;have e1:tgN 3 (.str (ch c)) [x0,some (.own (.lst (P.map T.str))),vl (.str w),x3]=some [x0,some (.own (.lst (P.map T.str))),vl (.str w),vl (.str (ch c))]:=by unfold tgN;exact AY rfl f3
  have ct:=KI (neg:=false) (f:=Ab 3) (z:=ch c) (fs:=[x0,some (.own (.lst (P.map T.str))),vl (.str w),vl (.str (ch c))]) (Aa rfl);rw[J2]at ct;have hp:prun (c::cs) (P,w)=prun cs (step (P,w) c):=rfl;have b:pcB [x0,some (.own (.lst (P.map T.str))),vl (.str w),vl (.str (ch c))]=.nx [x0,some (.own (.lst ((step (P,w) c).1.map T.str))),vl (.str (step (P,w) c).2),vl (.str (ch c))]:=by
   cases hm:isM c with
   |true =>
    rw[hm]at ct;have es:step (P,w) c=(P++[w,ch c],CQ):=by unfold step;rw[if_pos hm]
    rw[es];refine BH ct (sq (aj:=[x0,some (.own (.lst ((P++[w,ch c]).map T.str))),vl (.str w),vl (.str (ch c))]) ?_ ?_)
    .refine Xm (i:=1) (ts:=P.map T.str) (us:=[.str w,.str (ch c)]) rfl (Cb (ts:=[.str w,.str (ch c)]) (An (Au (Aa rfl)) (An (Au (Aa rfl)) AB)) rfl (show 2<=big by decide)) (by show _<=1000000;rw[qw];simp;lia) ?_;rw[qF];rfl
    .refine AF Al ?_;rw[De];rfl
   |false =>
    rw[hm]at ct;have es:step (P,w) c=(P,w++ch c):=by unfold step;rw[if_neg (by rw[hm];simp)]
    rw[es];refine AU ct ?_;unfold XD;show SO.of (Ab 3 _) _=_;rw[Aa (t:=.str (ch c)) rfl];show(if w.length+(ch c).length<=big then _ else _)=_;rw[if_pos (by show _<=1000000;have:(ch c).length=1:=rfl;lia)];rfl
  have oj:(step (P,w) c).1.length+2*cs.length<=100000:=by unfold step;split<;>simp<;>lia
  have iu:(step (P,w) c).2.length+cs.length<=100000:=by
   unfold step;split
   .show 0+_<=_
    lia
   .have:(w++ch c).length=w.length+1:=by rw[AR,AO,qA,<- AR];rfl
    simp only[this]
    lia
  obtain⟨y3,g⟩:=MZ (x0:=x0) cs (step (P,w) c).1 (step (P,w) c).2 (vl (.str (ch c))) AG oj iu;refine⟨y3,?_⟩;rw[qm,D3 e1 b,g,hp]
mutual
noncomputable def E.tk:E->List Str
 |.nm s=>[s]
 |.pt _ s es=>s::ch 40::(E.tks es++[ch 41])
noncomputable def E.tks:List E->List Str
 | []=>[]
 |e::es=>e.tk++E.tkr es
noncomputable def E.tkr:List E->List Str
 | []=>[]
 |e::es=>ch 44::ch 32::(e.tk++E.tkr es)
end
theorem B6(z:List Nat):∀(a:List Nat)(r:List (List Nat)),inter z (a::r)=a++r.flatMap λb=>z++b
 |a,[]=>by simp[inter]
 |a,b::r=>by rw[inter,B6 z b r,rH];simp
noncomputable def cln(P:List Str):List Str:=P.filter λs=>!decide (s=CQ)
theorem Ds(a b:List Str):cln (a++b)=cln a++cln b:=by simp[cln]
theorem EW{s:Str}(h:s≠CQ):cln [s]=[s]:=by simp[cln,h]
theorem J1:cln [CQ]=[]:=by simp[cln]
theorem Ow(c:Nat):ch c≠CQ:=λh=>by have:=congrArg cds h;simp[ch,CQ]at this
theorem V6{s:Str}(h:Lw s):s≠CQ:=λe=>by have:=h.lo;rw[e]at this;simp[CQ]at this
theorem Dm(a b:List Nat)(st:List Str×Str):prun (a++b) st=prun b (prun a st):=List.foldl_append ..
theorem Ek{c:Nat}(h:isM c=true)(P:List Str)(w:Str):prun [c] (P,w)=(P++[w,ch c],CQ):=by show step (P,w) c=_;unfold step;rw[if_pos h]
theorem Ip:∀(cs:List Nat)(P:List Str)(w:Str),(∀c∈cs,isM c=false)->∃w',prun cs (P,w)=(P,w')/\cds w'=cds w++cs
 | [],P,w,_=>⟨w,rfl,by simp⟩
 |c::cs,P,w,h=>by
  obtain⟨w',g1,g2⟩:=Ip cs P (w++ch c) λx m=>h x (qt _ m)
  refine⟨w',?_,?_⟩
  .show prun cs (step (P,w) c)=_;unfold step;rw[if_neg (by rw[h c (by simp)];simp)];exact g1
  .rw[g2,AO,qT];rfl
theorem Ra{s:Str}(h:Lw s)(P:List Str):prun (cds s) (P,CQ)=(P,s):=by
 obtain⟨w',g1,g2⟩:=Ip (cds s) P CQ λc m=>by
  have:=h.al c m;simp[isM]
  lia
 rw[g1];have:w'=s:=D6 (g2.trans rfl);rw[this]
mutual
theorem Yu:∀(e:E),e.al Lw->∀P:List Str,∃P' w',prun (cds e.tx) (P,CQ)=(P',w')/\cln (P'++[w'])=cln P++e.tk
 |.nm s,h,P=>by simp only[E.al]at h;refine⟨P,s,by simp only[E.tx];exact Ra h P,?_⟩;rw[Ds,EW (V6 h)];simp[E.tk]
 |.pt b s es,h,P=>by
  simp only[E.al]at h;obtain⟨P1,w1,g1,g2⟩:=Yt es h.2 (P++[s,ch 40]);refine⟨P1++[w1,ch 41],CQ,?_,?_⟩
  .simp only[E.tx,E.EH];rw[AO,AO,AO,Ft,p1,p2,p3,Dm,Dm,Dm,Ra h.1,Ek (c:=40) rfl];rw[rm];have nI:prun (inter [44,32] (List.map (cds∘E.tx) es)) (P++[s,ch 40],CQ)=(P1,w1):=g1;rw[nI,Ek (c:=41) rfl]
  .have e1:P1++[w1,ch 41]++[CQ]=(P1++[w1])++([ch 41]++[CQ]):=by simp
   have e2:P++[s,ch 40]=P++([s]++[ch 40]):=by simp
   rw[e1,Ds,g2,Ds [ch 41],EW (Ow 41),J1,e2,Ds P,Ds [s],EW (V6 h.1),EW (Ow 40)];simp[E.tk]
theorem Yt:∀(es:List E),E.als Lw es->∀P:List Str,∃P' w',prun (inter [44,32] (es.map λe=>cds e.tx)) (P,CQ)=(P',w')/\cln (P'++[w'])=cln P++E.tks es
 | [],_,P=>⟨P,CQ,rfl,by rw[Ds,J1];simp[E.tks]⟩
 |e::es,h,P=>by
  simp only[E.als]at h;obtain⟨P1,w1,g1,g2⟩:=Yu e h.1 P;obtain⟨P2,w2,k1,k2⟩:=ZP es h.2 P1 w1;refine⟨P2,w2,?_,?_⟩
  .rw[qm,B6,Dm,g1,List.flatMap_map];exact k1
  .rw[k2,g2];simp[E.tks]
theorem ZP:∀(es:List E),E.als Lw es->∀(P:List Str)(w:Str),∃P' w',prun (es.flatMap λe=>[44,32]++cds e.tx) (P,w)=(P',w')/\cln (P'++[w'])=cln (P++[w])++E.tkr es
 | [],_,P,w=>⟨P,w,rfl,by simp[E.tkr]⟩
 |e::es,h,P,w=>by
  simp only[E.als]at h;obtain⟨P1,w1,g1,g2⟩:=Yu e h.1 (P++[w,ch 44]++[CQ,ch 32]);obtain⟨P2,w2,k1,k2⟩:=ZP es h.2 P1 w1;refine⟨P2,w2,?_,?_⟩
  .rw[rH,show([44,32]:List Nat)++cds e.tx=[44]++([32]++cds e.tx)from rfl,Dm,Dm,Dm,Ek (c:=44) rfl,Ek (c:=32) rfl,g1];exact k1
  .have e1:P++[w,ch 44]++[CQ,ch 32]=(P++[w])++([ch 44]++([CQ]++[ch 32])):=by simp
   rw[k2,g2,e1,Ds (P++[w]),Ds [ch 44],Ds [CQ],EW (Ow 44),J1,EW (Ow 32)];simp[E.tkr]
end
theorem Gp{α:Type}{ft:FS->Out Bool}{fe:FS->Out Rv}{p:α->T}{b:α->Bool}{rest:FS}:∀(xs:List α)(x:Option Sl)(ao:List T),Fre x->(∀a∈xs,ft (vl (p a)::rest)=.ok (b a) (vl (p a)::rest))->(∀a∈xs,fe (vl (p a)::rest)=.ok (.t (p a)) (vl (p a)::rest))->ao.length+xs.length<=big ->
  ∃y,Fre y/\B0 (tgN 0) ft fe (xs.map p) (x::rest) ao=some (ao++(xs.filter b).map p,y::rest)
 | [],x,ao,hx,_,_,_=>⟨x,hx,by simp[B0]⟩
 |a::xs,x,ao,hx,h,h',hl=>by
  rw[qD]at hl;have h1:tgN 0 (p a) (x::rest)=some (vl (p a)::rest):=by unfold tgN;rw[AY (x:=x) rfl hx];rfl
  have h2:=h a rg;have h3:=h' a rg;have h4:ao.length<big:=by lia
  cases hb:b a with|true =>obtain⟨y,hy,e⟩:=Gp xs (vl (p a)) (ao++[p a]) AG (λc m=>h c (qt _ m)) (λc m=>h' c (qt _ m)) (by simp;lia);refine⟨y,hy,?_⟩;rw[hb]at h2;simp only[qm,B0,h1,h2,h3,if_pos h4,e];simp[List.filter_cons,hb]|false =>obtain⟨y,hy,e⟩:=Gp xs (vl (p a)) ao AG (λc m=>h c (qt _ m)) (λc m=>h' c (qt _ m)) (by lia);refine⟨y,hy,?_⟩;rw[hb]at h2;simp only[qm,B0,h1,h2,e];simp[List.filter_cons,hb]
theorem Rt{f g:FS->Out Rv}{fs:FS}{x y:Str}(h1:f fs=.ok (.t (.str x)) fs)(h2:g fs=.ok (.t (.str y)) fs):asB (Ad (gEq true) f g) fs=.ok (!decide (x=y)) fs:=by
 refine Bn (Ae h1 h2 ?_);have q:decide (V.str x=V.str y)=decide (x=y):=by
  by_cases h:x=y
  .subst h;simp
  .rw[qv h,qv (by intro z;cases z;exact h rfl)]
 show(if Jx (V.str x) (V.str y)=true then okT (.o (if true=true then !decide (V.str x=V.str y)else _)) fs else .bad)=_;rw[if_pos (show Jx (V.str x) (V.str y)=true from rfl),q];rfl
theorem Kn:∀(cs:List Nat)(P:List Str)(w:Str),(prun cs (P,w)).1.length<=P.length+2*cs.length
 | [],P,w=>by simp[prun]
 |c::cs,P,w=>by
  show(prun cs (step (P,w) c)).1.length<=_;have h:(step (P,w) c).1.length<=P.length+2:=by unfold step;split<;>simp
  have:=Kn cs (step (P,w) c).1 (step (P,w) c).2;rw[qD];have e:step (P,w) c=((step (P,w) c).1,(step (P,w) c).2):=rfl;rw[<- e]at this
  lia
abbrev V9:Str:="abcdefghijklmnopqrstuvwxyz"
noncomputable def sgn(c:Nat):Str:=⟨#[c]⟩
noncomputable def isL(c:Nat):Bool:=!(Builtin.Str.occurrences V9 (sgn c) 0 V9.length 1).isEmpty
noncomputable def isNm(z:Str):Bool:=decide (1<=z.length/\z.length<=12)&&z.cps.toList.all isL
theorem Ry{neg:Bool}{c:Nat}{fs:FS}:Dq neg (.t (.str (sgn c))) (.t (.str V9)) fs=.ok (.t (.o (if neg then !isL c else isL c))) fs:=rfl
theorem K4{fe:FS->Out Rv}{h:Nat->T}:∀(cs:List Nat)(x:Option Sl)(ao:List T),Fre x->(∀c∈cs,fe [vl (.str (sgn c))]=.ok (.t (h c)) [vl (.str (sgn c))])->ao.length+cs.length<=1000->∃y,B0 (tgN 0) Dy fe (cs.map λc=>T.str (sgn c)) [x] ao=some (ao++cs.map h,[y])
 | [],x,ao,_,_,_=>⟨x,by simp[B0]⟩
 |c::cs,x,ao,fx,he,hl=>by rw[qD]at hl;obtain⟨y,e⟩:=K4 (fe:=fe) (h:=h) cs (vl (.str (sgn c))) (ao++[h c]) AG (λc m=>he c (qt _ m)) (by rw[qA];simp;lia);refine⟨y,?_⟩;rw[qm,Qz (by unfold tgN;exact AY rfl fx) (he c (by simp)) (by show _<1000000;lia),e];simp
theorem len_str{i:Nat}{z:Str}{fs:FS}(h:fs[i]?=some (vl (.str z)))(hz:z.length<=1000):Ah Bd (Ac (Ab i) Ai) fs=.ok (.t (.int z.length)) fs:=by have e:JS [.t (.str z)] fs=.ok (.t (.int z.length)) fs:=if_pos (show z.length<=1000000 by lia);refine Cd (An (Aa h) rfl) ?_;unfold Bd orC;show(match orC JS NU [.t (.str z)] fs with|o=>o)=_;unfold orC;rw[e]
theorem between{f:FS->Out Rv}{n:Nat}{m:Int}{fs:FS}(h:f fs=.ok (.t (.int n)) fs):FZ (asB (chain gLe gLe (gc (.int 1)) f (gc (.int m)))) fs=.ok (!decide (1<=n/\(n:Int)<=m)) fs:=by
 have e1:gLe (.t (.int 1)) (.t (.int n)) fs=.ok (.t (.o (decide ((1:Int)<=n)))) fs:=rfl;have e2:gLe (.t (.int n)) (.t (.int m)) fs=.ok (.t (.o (decide ((n:Int)<=m)))) fs:=rfl;by_cases h1:(1:Int)<=n
 .rw[qE h1]at e1;simp only[FZ,asB,chain,gc,Out.bnd,Out.bind,h,e1,e2];congr 2;rw[decide_eq_decide];constructor
  .exact λz=>⟨by lia,z⟩
  .exact λz=>z.2
 .rw[qv h1]at e1;simp only[FZ,asB,chain,gc,Out.bnd,Out.bind,h,e1];rw[qv (by lia)]
theorem PU{z:Str}(hz:z.length<=1000):A3 [vl (.str z)]=.ok (.t (.o (isNm z))) [vl (.str z)]:=by
 have hc:=between (m:=12) (len_str (i:=0) (fs:=[vl (.str z)]) rfl hz);refine(CG (n:=0) (g:=Dh) (args:=[vl (.str z)]) (τ:=[vl (.str z)]) ?_).trans rfl;unfold Dh;by_cases h:1<=z.length/\(z.length:Int)<=12
 .rw[qE h]at hc;refine sq (AU hc rfl) ?_;obtain⟨y,e2⟩:=K4 (fe:=Ad (Dq false) (fz (Ab 0)) (gc (.str V9))) (h:=λc=>.o (isL c)) z.cps.toList none [] Ar (λc m=>Ae (Au (Aa rfl)) Al Ry) (by rw[sj];show 0+z.length<=1000;lia);have e3:=CL (src:=[none]) (fi:=itU (fz (Ab 0))) (fs:=[vl (.str z)]) (ts:=signs z) rfl ⟨by rw[show Cj [vl (.str z)] _=[]from rfl];exact qU,by rfl⟩ e2 (AJ rfl);rw[qV,show z.cps.toList.map (λc=>T.o (isL c))=(z.cps.toList.map isL).map T.o by rw[rm];rfl]at e3;refine AK (Cd (An e3 rfl) ?_);simp only[UK,Cu,rA,ED,okT];congr 3;unfold isNm;rw[qE (show 1<=z.length/\z.length<=12 by lia),List.all_map];rfl
 .rw[qv h]at hc;have:isNm z=false:=by unfold isNm;rw[qv (show ¬(1<=z.length/\z.length<=12) by lia)];rfl
  rw[this];exact Bp (BH hc (AK Al))
theorem Hl{c:Str}{i:Nat}{z:Str}{fs:FS}(h:fs[i]?=some (vl (.str z)))(hz:CH z=true):Ej c (Ab i) fs=.exc c fs:=by unfold Ej;rw[Aa h];show(if CH z=true then SO.exc c fs else .bad)=_;rw[if_pos hz]
theorem IL(c:Nat):isL c=decide (97<=c/\c<=122):=by
 unfold isL sgn;rw[StrLaws.found_one,show V9.cps.toList=List.range' 97 26 from by decide +kernel,decide_eq_decide,List.mem_range'_1]
 lia
theorem Rr(z:Str):isNm z=true↔Lw z:=by
 unfold isNm;rw[qL,decide_eq_true_iff,rC];constructor
 .exact λh=>⟨by rw[<- AR];exact h.1.1,by rw[<- AR];exact h.1.2,λc m=>by have:=h.2 c m;rw[IL]at this;exact qW this⟩
 .exact λh=>⟨⟨by rw[AR];exact h.lo,by rw[AR];exact h.hi⟩,λc m=>by rw[IL];exact qE (h.al c m)⟩
noncomputable def fm(t:Str):Option Str:=if t∈Bz then some t else if isNm t=true then some ("word":Str)else none
theorem Jan{t:Str}(h:Lw t):fm t=some ("word":Str):=by unfold fm;rw[if_neg (QT h),if_pos ((Rr t).mpr h)]
theorem ZU{c:Nat}(h:isM c=true):fm (ch c)=some (ch c):=by unfold fm;rw[if_pos (qW ((J2 c).trans h))]
def Tells(o:Out Rv)(a:FS):Option T->Prop
 |some t=>o=.ok (.t t) a
 |none=>∃τ,o=.exc "BadText" τ
theorem VP{z:Str}(h:CH z=true):z.length<=1000:=by unfold CH at h;rw[qL]at h;exact qW h.1
theorem WN{t:Str}(hz:CH t=true):Tells (CK [vl (.str t)]) [vl (.str t)] ((fm t).map T.str):=by
 have c:=KI (neg:=false) (f:=Ab 0) (z:=t) (fs:=[vl (.str t)]) (Aa rfl);unfold fm;by_cases hm:t∈Bz
 .rw[if_pos hm];rw[qE hm]at c;exact(CG (n:=0) (g:=EB) (args:=[vl (.str t)]) (Bp (BH c (AK (Aa rfl))))).trans rfl
 .rw[if_neg hm];rw[qv hm]at c;have c2:FZ (Ih (fz (Ah (Ak 1 A3) (Af (fz (Ab 0)) Ai)))) [vl (.str t)]=.ok (!isNm t) [vl (.str t)]:=JJ (Hh (Ck (Ct (rs:=[.t (.str t)]) (Aj (Au (Aa rfl)) AB) rfl rfl (PU (VP hz)))));by_cases hn:isNm t=true
  .rw[if_pos hn];rw[hn]at c2;exact(CG (n:=0) (g:=EB) (args:=[vl (.str t)]) (sq (AU c rfl) (sq (AU c2 rfl) (AK Al)))).trans rfl
  .rw[if_neg hn];rw[tw.mpr hn]at c2;exact⟨_,Dl (n:=0) (g:=EB) (args:=[vl (.str t)]) (sq (AU c rfl) (CS (BH c2 (Hl rfl hz))))⟩
noncomputable def alw(a f:Str):Bool:=match tabAt Cc a with|some ts=>decide (f∈ts)|none=>false
def St(a:Str):Prop:=(tabAt Cc a).isSome=true
theorem Ym{t f:Str}(h:fm t=some f):St f:=by
 unfold fm at h;unfold St;split at h
 .rename_i m;cases h;rw[mk_eq]at m;rcases qK.mp m with rfl|m
  .decide +kernel
  rcases qK.mp m with rfl|m
  .decide +kernel
  rcases qK.mp m with rfl|m
  .decide +kernel
  rcases qK.mp m with rfl|m
  .decide +kernel
  cases m
 .split at h
  .cases h;decide +kernel
  .cases h
theorem Rz{f g:FS->Out Rv}{fs:FS}{z k:Str}(h1:f fs=.ok (.t (.str z)) fs)(h2:g fs=.ok (.t (.str k)) fs)(hk:St k):asB (inB true Cc f g) fs=.ok (!alw k z) fs:=by refine Bn ?_;unfold alw;unfold St at hk;cases e:tabAt Cc k with|none=>rw[e]at hk;cases hk|some ts =>unfold inB;simp only[h1,h2,Out.bnd,Out.bind,e];rfl
abbrev nbB:FS->SO:=(Av (Ay 3 (fz (Ah (Ak 1 CK) (Af (fz (Ab 2)) Ai))))
  (Av (ifS (asB (inB true Cc (Ab 3) (Ab 1))) (Ej "BadText" (Ab 2)) nxS)
  (Ay 1 (fz (Ab 3)))))
noncomputable def nbR(a:Str):List Str->Option Str
 | []=>some a
 |t::ts=>match fm t with|some f=>if alw a f=true then nbR f ts else none|none=>none
def Ends(o:SO)(x0:Option Sl):Option Str->Prop
 |some a=>St a/\∃y2 y3,Fre y2/\Fre y3/\o=.nx [x0,vl (.str a),y2,y3]
 |none=>∃τ,o=.exc "BadText" τ
theorem Nh{x0:Option Sl}:∀(ts:List Str)(a:Str)(x2 x3:Option Sl),St a->(∀t∈ts,CH t=true)->Fre x2->Fre x3->Ends (Cy (tgN 2) nbB (ts.map T.str) [x0,vl (.str a),x2,x3]) x0 (nbR a ts)
 | [],a,x2,x3,sa,_,f2,f3=>⟨sa,x2,x3,f2,f3,rfl⟩
 |t::ts,a,x2,x3,sa,hz,f2,f3=>by
  have e1:tgN 2 (.str t) [x0,vl (.str a),x2,x3]=some [x0,vl (.str a),vl (.str t),x3]:=by unfold tgN;exact AY rfl f2
  have hf:=WN (hz t (by simp));rw[nbR,qm];cases ef:fm t with
  |none =>rw[ef]at hf;obtain⟨τ,hf⟩:=hf;exact⟨_,JU e1 (CS (Ki (RH (Ey (rs:=[.t (.str t)]) (Aj (Au (Aa rfl)) AB) rfl rfl hf))))⟩
  |some f =>
   rw[ef]at hf;have hf:CK [vl (.str t)]=.ok (.t (.str f)) [vl (.str t)]:=hf;have s3:Ay 3 (fz (Ah (Ak 1 CK) (Af (fz (Ab 2)) Ai))) [x0,vl (.str a),vl (.str t),x3]=.nx [x0,vl (.str a),vl (.str t),vl (.str f)] :=
    AF (Ck (Ct (rs:=[.t (.str t)]) (Aj (Au (Aa rfl)) AB) rfl rfl hf)) (AY rfl f3)
   have c:=Rz (f:=Ab 3) (g:=Ab 1) (fs:=[x0,vl (.str a),vl (.str t),vl (.str f)]) (Aa rfl) (Aa rfl) sa;show Ends _ _ (if alw a f=true then nbR f ts else none);by_cases ha:alw a f=true
   .rw[if_pos ha];rw[ha]at c;rw[show Cy (tgN 2) nbB (.str t::ts.map T.str) [x0,vl (.str a),x2,x3]=Cy (tgN 2) nbB (ts.map T.str) [x0,vl (.str f),vl (.str t),vl (.str f)]from D3 e1 (sq s3 (sq (AU c rfl) (AF (Au (Aa rfl)) rfl)))];exact Nh ts f _ _ (Ym ef) (λt m=>hz t (qt _ m)) AG AG
   .rw[if_neg ha];rw[tw.mpr ha]at c;exact⟨_,JU e1 (sq s3 (CS (BH c (Hl rfl (hz t (by simp))))))⟩
theorem ME{n:Nat}{g:FS->SO}{args τ:FS}(h:g (args++List.replicate n none)=.nx τ):B2 n g args=.ok (.t .l) (τ.take args.length):=by unfold B2;rw[h]
theorem YL{ps:List Str}(hz:∀t∈ps,CH t=true):Tells (Bw [vl (.lst (ps.map T.str))]) [vl (.lst (ps.map T.str))] (if(nbR "start" ps).any (λa=>alw a "end")=true then some .l else none):=by
 have lp:=Nh (x0:=vl (.lst (ps.map T.str))) ps "start" none none (by unfold St;decide +kernel) hz Ar Ar;have s2:Dd (itU (fz (Ab 0))) (tgN 2) nbB [vl (.lst (ps.map T.str)),vl (.str "start"),none,none]=Cy (tgN 2) nbB (ps.map T.str) [vl (.lst (ps.map T.str)),vl (.str "start"),none,none]:=by unfold Dd;rw[show itU (fz (Ab 0)) [vl (.lst (ps.map T.str)),vl (.str "start"),none,none]=.ok (ps.map T.str) [vl (.lst (ps.map T.str)),vl (.str "start"),none,none]from ER (Au (Aa rfl))];rfl
 have s1:Ay 1 (gc (.str ("start":Str))) [vl (.lst (ps.map T.str)),none,none,none]=.nx [vl (.lst (ps.map T.str)),vl (.str "start"),none,none]:=rfl;cases e:nbR "start" ps with
 |none =>rw[e]at lp;obtain⟨τ,lp⟩:=lp;exact⟨_,Dl (n:=3) (g:=Bx) (args:=[vl (.lst (ps.map T.str))]) (sq s1 (CS (s2.trans lp)))⟩
 |some a =>
  rw[e]at lp;obtain⟨sa,y2,y3,_,_,lp⟩:=lp;have c:=Rz (f:=gc (.str ("end":Str))) (g:=Ab 1) (fs:=[vl (.lst (ps.map T.str)),vl (.str a),y2,y3]) Al (Aa rfl) sa;show Tells _ _ (if alw a "end"=true then _ else _);by_cases ha:alw a "end"=true
  .rw[if_pos ha];rw[ha]at c;exact(ME (n:=3) (g:=Bx) (args:=[vl (.lst (ps.map T.str))]) (sq s1 (sq (s2.trans lp) (AU c rfl)))).trans rfl
  .rw[if_neg ha];rw[tw.mpr ha]at c;exact⟨_,Dl (n:=3) (g:=Bx) (args:=[vl (.lst (ps.map T.str))]) (sq s1 (sq (s2.trans lp) (BH c rfl)))⟩
theorem Wn{k:Str}{xs:List Str}{fs:FS}:Dq false (.t (.str k)) (.t (.tup (xs.map T.str))) fs=.ok (.t (.o (decide (k∈xs)))) fs:=by
 have:gIn false (.t (.str k)) (.t (.tup (xs.map T.str))) fs=.ok (.t (.o (decide (k∈xs)))) fs:=by show(match(some (xs.map T.str)).bind Rf with|some vs=>okT (.o (if false=true then !inV (.str k) vs else inV (.str k) vs)) fs|none=>.bad)=_;rw[rA,Fq];show okT (.o (inV (.str k) (xs.map V.str))) fs=_;rw[HJ];rfl
 exact this
theorem c41:(")":Str)=ch 41:=by decide +kernel
theorem c44:(",":Str)=ch 44:=by decide +kernel
theorem c40:("(":Str)=ch 40:=by decide +kernel
theorem HE{s:Str}(h:Lw s){c:Nat}(hc:isM c=true):s≠ch c:=λe=>by
 have:=h.al c (by rw[e];simp[cds,ch]);simp[isM]at hc
 lia
abbrev bkB:FS->SO:=(Av (ifS (Mc (asB (Ad (Dq false) (fz (Ab 2)) (As Ba (Ac (gc (.str (")":Str))) (Ac (gc (.str (",":Str))) Ai))))) (asB (Ad (gEq false) (Ab 1) (gc (.int 0))))) (Ej "BadText" (Ab 2)) nxS)
  (Av (ifS (asB (Ad (gEq false) (Ab 2) (gc (.str ("(":Str))))) (X0 1 (gc (.int 1))) nxS)
  (ifS (asB (Ad (gEq false) (Ab 2) (gc (.str (")":Str))))) (X1 1 (gc (.int 1))) nxS)))
noncomputable def bkR(u:Nat):List Str->Option Nat
 | []=>some u
 |t::ts=>if(t=ch 41\/t=ch 44)/\u=0 then none else bkR (if t=ch 40 then u+1 else if t=ch 41 then u-1 else u) ts
def Jav(o:SO)(x0:Option Sl):Option Nat->Prop
 |some u=>∃y2,Fre y2/\o=.nx [x0,iv u,y2]
 |none=>∃τ,o=.exc "BadText" τ
theorem OC{x0:Option Sl}:∀(ts:List Str)(u:Nat)(x2:Option Sl),(∀t∈ts,CH t=true)->Fre x2->Jav (Cy (tgN 2) bkB (ts.map T.str) [x0,iv u,x2]) x0 (bkR u ts)
 | [],u,x2,_,f2=>⟨x2,f2,rfl⟩
 |t::ts,u,x2,hz,f2=>by
  have e1:tgN 2 (.str t) [x0,iv u,x2]=some [x0,iv u,vl (.str t)]:=by unfold tgN;exact AY rfl f2
  have i1:asB (Ad (Dq false) (fz (Ab 2)) (As Ba (Ac (gc (.str (")":Str))) (Ac (gc (.str (",":Str))) Ai)))) [x0,iv u,vl (.str t)]=.ok (decide (t∈[(")":Str),","])) [x0,iv u,vl (.str t)] :=
   Bn (Ae (Au (Aa rfl)) (BQ (g:=Ba) (ts:=[.str ")",.str ","]) (An Al (An Al AB)) rfl (show 2<=big by decide) rfl) (Wn (xs:=[")",","])))
  have i2:=Gj (fa:=Ab 1) (fb:=gc (.int 0)) (fs:=[x0,iv u,vl (.str t)]) (i:=u) (Aa rfl) Al;have c1:=OK i1 i2;have hd:(decide (t∈[(")":Str),","])&&decide ((u:Int)=0))=decide ((t=ch 41\/t=ch 44)/\u=0):=by rw[<- Bool.decide_and,decide_eq_decide,c41,c44];simp only[qK,sO,or_false];rw[show((u:Int)=0)↔u=0 from by lia]
  rw[hd]at c1;rw[bkR,qm];by_cases hb:(t=ch 41\/t=ch 44)/\u=0
  .rw[if_pos hb];rw[qE hb]at c1;exact⟨_,JU e1 (CS (BH c1 (Hl rfl (hz t (by simp)))))⟩
  .rw[if_neg hb];rw[qv hb]at c1;have st:∀v:Nat,v=(if t=ch 40 then u+1 else if t=ch 41 then u-1 else u)->bkB [x0,iv u,vl (.str t)]=.nx [x0,iv v,vl (.str t)]:=λv hv=>by
    refine sq (AU c1 rfl) ?_;have c2:=Gi (fa:=Ab 2) (fb:=gc (.str ("(":Str))) (fs:=[x0,iv u,vl (.str t)]) (x:=t) (Aa rfl) Al;rw[c40]at c2;by_cases h40:t=ch 40
    .rw[qE h40]at c2;rw[if_pos h40]at hv;subst hv;have eG:t≠ch 41:=by rw[h40];intro z;exact absurd (Co.mp z) (by decide)
     refine sq (aj:=[x0,iv (u+1),vl (.str t)]) (by rw[c40];exact BH c2 rfl) ?_;exact AU (Ff (Aa rfl) Al (by rw[c41];exact eG)) rfl
    .rw[qv h40]at c2;rw[if_neg h40]at hv;refine sq (aj:=[x0,iv u,vl (.str t)]) (by rw[c40];exact AU c2 rfl) ?_;by_cases eG:t=ch 41
     .rw[if_pos eG]at hv;have:((u:Int)-1)=(v:Int):=by
       have:u≠0:=λz=>hb ⟨.inl eG,z⟩
       lia
      rw[<- this];exact BH (Ob (Aa rfl) Al (by rw[c41];exact eG)) rfl
     .rw[if_neg eG]at hv;rw[hv];exact AU (Ff (Aa rfl) Al (by rw[c41];exact eG)) rfl
   rw[show Cy (tgN 2) bkB (.str t::ts.map T.str) [x0,iv u,x2]=Cy (tgN 2) bkB (ts.map T.str) [x0,iv (if t=ch 40 then u+1 else if t=ch 41 then u-1 else u:Nat),vl (.str t)]from D3 e1 (st _ rfl)];exact OC ts _ _ (λt m=>hz t (qt _ m)) AG
theorem Zx{ps:List Str}(hz:∀t∈ps,CH t=true):Tells (BN [vl (.lst (ps.map T.str))]) [vl (.lst (ps.map T.str))] (if bkR 0 ps=some 0 then some .l else none):=by
 have lp:=OC (x0:=vl (.lst (ps.map T.str))) ps 0 none hz Ar;have s2:Dd (itU (fz (Ab 0))) (tgN 2) bkB [vl (.lst (ps.map T.str)),iv 0,none]=Cy (tgN 2) bkB (ps.map T.str) [vl (.lst (ps.map T.str)),iv (0:Nat),none]:=by unfold Dd;rw[show itU (fz (Ab 0)) [vl (.lst (ps.map T.str)),iv 0,none]=.ok (ps.map T.str) [vl (.lst (ps.map T.str)),iv 0,none]from ER (Au (Aa rfl))];rfl
 have s1:Ay 1 (gc (.int 0)) [vl (.lst (ps.map T.str)),none,none]=.nx [vl (.lst (ps.map T.str)),iv 0,none]:=rfl;cases e:bkR 0 ps with
 |none =>rw[e]at lp;obtain⟨τ,lp⟩:=lp;exact⟨_,Dl (n:=2) (g:=BP) (args:=[vl (.lst (ps.map T.str))]) (sq s1 (CS (s2.trans lp)))⟩
 |some u =>
  rw[e]at lp;obtain⟨y2,_,lp⟩:=lp;have c:=Wt (fa:=Ab 1) (fb:=gc (.int 0)) (fs:=[vl (.lst (ps.map T.str)),iv u,y2]) (Aa rfl) Al;by_cases hu:u=0
  .subst hu;exact(ME (n:=2) (g:=BP) (args:=[vl (.lst (ps.map T.str))]) (sq s1 (sq (s2.trans lp) (AU c rfl)))).trans rfl
  .rw[if_neg (by simpa using hu)];rw[qE (by lia)]at c;exact⟨_,Dl (n:=2) (g:=BP) (args:=[vl (.lst (ps.map T.str))]) (sq s1 (sq (s2.trans lp) (BH c rfl)))⟩
def UE(a:Str):Prop:=a="word"\/a=ch 41
theorem V0{a s:Str}{ts:List Str}(h:Lw s)(ha:alw a "word"=true):nbR a (s::ts)=nbR "word" ts:=by rw[nbR,Jan h];exact if_pos ha
theorem LG{a:Str}{c:Nat}{ts:List Str}(h:isM c=true)(ha:alw a (ch c)=true):nbR a (ch c::ts)=nbR (ch c) ts:=by rw[nbR,ZU h];exact if_pos ha
theorem Od{a:Str}(h:UE a):alw a (ch 41)=true/\alw a (ch 44)=true/\alw a "end"=true:=by rcases h with rfl|rfl<;>decide +kernel
mutual
theorem YO:∀(e:E),e.al Lw->∀(a:Str)(rest:List Str),alw a "word"=true->∃a',UE a'/\nbR a (e.tk++rest)=nbR a' rest
 |.nm s,h,a,rest,ha=>by simp only[E.al]at h;exact⟨"word",.inl rfl,by simp only[E.tk,qY,qV];exact V0 h ha⟩
 |.pt b s es,h,a,rest,ha=>by simp only[E.al]at h;obtain⟨a',eI,g⟩:=YN es h.2 (ch 41::rest);refine⟨ch 41,.inr rfl,?_⟩;simp only[E.tk,qY,qT,qV];rw[V0 h.1 ha,LG rfl (by decide +kernel),g,LG rfl eI]
theorem YN:∀(es:List E),E.als Lw es->∀(rest:List Str),∃a',alw a' (ch 41)=true/\nbR (ch 40) (E.tks es++rest)=nbR a' rest
 | [],_,rest=>⟨ch 40,by decide +kernel,by simp[E.tks]⟩
 |e::es,h,rest=>by simp only[E.als]at h;obtain⟨a,ha,g⟩:=YO e h.1 (ch 40) (E.tkr es++rest) (by decide +kernel);obtain⟨a',eI,g'⟩:=ZS es h.2 a rest ha;exact⟨a',(Od eI).1,by simp only[E.tks,qT];rw[g,g']⟩
theorem ZS:∀(es:List E),E.als Lw es->∀(a:Str)(rest:List Str),UE a->∃a',UE a'/\nbR a (E.tkr es++rest)=nbR a' rest
 | [],_,a,rest,ha=>⟨a,ha,by simp[E.tkr]⟩
 |e::es,h,a,rest,ha=>by simp only[E.als]at h;obtain⟨a1,h1,g⟩:=YO e h.1 (ch 32) (E.tkr es++rest) (by decide +kernel);obtain⟨a',eI,g'⟩:=ZS es h.2 a1 rest h1;exact⟨a',eI,by simp only[E.tkr,qY,qT];rw[LG rfl (Od ha).2.1,LG rfl (by decide +kernel),g,g']⟩
end
theorem OD{u:Nat}{s:Str}{ts:List Str}(h:Lw s):bkR u (s::ts)=bkR u ts:=by rw[bkR,if_neg (λz=>by rcases z.1 with z|z<;>exact HE h rfl z),if_neg (HE h rfl),if_neg (HE h rfl)]
theorem XA{u:Nat}{ts:List Str}:bkR u (ch 40::ts)=bkR (u+1) ts:=by rw[bkR,if_neg (by rw[Co,Co];lia),if_pos rfl]
theorem Xz{u:Nat}{ts:List Str}:bkR u (ch 32::ts)=bkR u ts:=by rw[bkR,if_neg (by rw[Co,Co];lia),if_neg (by rw[Co];lia),if_neg (by rw[Co];lia)]
theorem XB{u:Nat}{ts:List Str}:bkR (u+1) (ch 44::ts)=bkR (u+1) ts:=by rw[bkR,if_neg (by lia),if_neg (by rw[Co];lia),if_neg (by rw[Co];lia)]
theorem QJ{u:Nat}{ts:List Str}:bkR (u+1) (ch 41::ts)=bkR u ts:=by rw[bkR,if_neg (by lia),if_neg (by rw[Co];lia),if_pos rfl,Nat.add_sub_cancel]
mutual
theorem Zy:∀(e:E),e.al Lw->∀(u:Nat)(rest:List Str),bkR u (e.tk++rest)=bkR u rest
 |.nm s,h,u,rest=>by simp only[E.al]at h;simp only[E.tk,qY,qV];exact OD h
 |.pt b s es,h,u,rest=>by simp only[E.al]at h;simp only[E.tk,qY,qT,qV];rw[OD h.1,XA];cases es with|nil=>simp only[E.tks,qV];exact QJ|cons e es =>simp only[E.als]at h;simp only[E.tks,qT];rw[Zy e h.2.1,ZV es h.2.2,QJ]
theorem ZV:∀(es:List E),E.als Lw es->∀(u:Nat)(rest:List Str),bkR (u+1) (E.tkr es++rest)=bkR (u+1) rest
 | [],_,u,rest=>by simp[E.tkr]
 |e::es,h,u,rest=>by simp only[E.als]at h;simp only[E.tkr,qY,qT];rw[XB,Xz,Zy e h.1,ZV es h.2]
end
theorem TZ{t f:Str}(h:fm t=some f):(f="word"/\Lw t)\/((f=ch 40/\t=ch 40)\/(f=ch 41/\t=ch 41)\/(f=ch 44/\t=ch 44)\/(f=ch 32/\t=ch 32)):=by
 unfold fm at h;split at h
 next m=>cases h;rw[mk_eq]at m;simp only[qK,sO,or_false]at m;rcases m with rfl|rfl|rfl|rfl<;>simp
 .split at h
  next hn=>cases h;exact .inl ⟨rfl,(Rr t).mp hn⟩
  .cases h
theorem nx{a a':Str}{ts:List Str}(h:nbR a ts=some a'):(ts=[]/\a=a')\/∃t r f,ts=t::r/\fm t=some f/\alw a f=true/\nbR f r=some a':=by
 cases ts with
 |nil=>exact .inl ⟨rfl,by simpa[nbR]using h⟩
 |cons t r =>
  rw[nbR]at h;split at h
  .rename_i f e;split at h
   next ha=>exact .inr ⟨t,r,f,rfl,e,ha,h⟩
   .cases h
  .cases h
theorem Rq{a':Str}{ts:List Str}{a:Str}(h:nbR a ts=some a')(ha:UE a)(hc:∀r,ts≠ch 40::r):ts=[]\/∃c r,(c=41\/c=44)/\ts=ch c::r/\nbR (ch c) r=some a':=by
 rcases nx h with⟨e,_⟩|⟨t,r,f,rfl,ef,hf,hn⟩
 .exact .inl e
 .have h0:alw a "word"=false/\alw a (ch 32)=false:=by rcases ha with rfl|rfl<;>decide +kernel
  rcases TZ ef with⟨rfl,_⟩|⟨rfl,rfl⟩|⟨rfl,rfl⟩|⟨rfl,rfl⟩|⟨rfl,rfl⟩
  .rw[h0.1]at hf;cases hf
  .exact absurd rfl (hc r)
  .exact .inr ⟨41,r,.inl rfl,rfl,hn⟩
  .exact .inr ⟨44,r,.inr rfl,rfl,hn⟩
  .rw[h0.2]at hf;cases hf
theorem JH{a a':Str}{ts:List Str}(h:nbR a ts=some a')(he:alw a' "end"=true)(ha:a=ch 32\/a=ch 40\/a="start")(hc:∀r,ts≠ch 41::r):∃s r,Lw s/\ts=s::r/\nbR "word" r=some a':=by
 have h0:alw a "end"=false/\alw a (ch 40)=false/\alw a (ch 44)=false/\alw a (ch 32)=false:=by rcases ha with rfl|rfl|rfl<;>decide +kernel
 rcases nx h with⟨_,rfl⟩|⟨t,r,f,rfl,ef,hf,hn⟩
 .rw[h0.1]at he;cases he
 .rcases TZ ef with⟨rfl,hw⟩|⟨rfl,rfl⟩|⟨rfl,rfl⟩|⟨rfl,rfl⟩|⟨rfl,rfl⟩
  .exact⟨t,r,hw,rfl,hn⟩
  .rw[h0.2.1]at hf;cases hf
  .exact absurd rfl (hc r)
  .rw[h0.2.2.1]at hf;cases hf
  .rw[h0.2.2.2]at hf;cases hf
theorem Ni{a:Str}{c:Nat}{ts:List Str}(h:isM c=true)(ha:alw a (ch c)=false):nbR a (ch c::ts)=none:=by rw[nbR,ZU h];exact if_neg (by rw[ha];simp)
theorem Pz{a':Str}{ts:List Str}(h:nbR (ch 44) ts=some a')(he:alw a' "end"=true):∃s r,Lw s/\ts=ch 32::s::r/\nbR "word" r=some a':=by
 have h0:alw (ch 44) "end"=false/\alw (ch 44) "word"=false/\alw (ch 44) (ch 40)=false/\alw (ch 44) (ch 41)=false/\alw (ch 44) (ch 44)=false:=by decide +kernel
 rcases nx h with⟨_,rfl⟩|⟨t,r,f,rfl,ef,hf,hn⟩
 .rw[h0.1]at he;cases he
 .rcases TZ ef with⟨rfl,hw⟩|⟨rfl,rfl⟩|⟨rfl,rfl⟩|⟨rfl,rfl⟩|⟨rfl,rfl⟩
  .rw[h0.2.1]at hf;cases hf
  .rw[h0.2.2.1]at hf;cases hf
  .rw[h0.2.2.2.1]at hf;cases hf
  .rw[h0.2.2.2.2]at hf;cases hf
  .obtain⟨s,r',hs,rfl,j4⟩:=JH hn he (.inl rfl) (λx z=>by subst z;rw[Ni rfl (by decide +kernel)]at hn;cases hn);exact⟨s,r',hs,rfl,j4⟩
def Rst(r:List Str):Prop:=∀x,r≠ch 40::x
theorem parse:∀n:Nat,
  (∀(s:Str)(ts:List Str)(u:Nat)(a:Str),ts.length<=n->Lw s->nbR "word" ts=some a->alw a "end"=true->bkR u ts=some 0 ->
   ∃(e:E)(r:List Str)(b:Str),e.al Lw/\s::ts=e.tk++r/\r.length<=ts.length/\Rst r/\nbR b r=some a/\UE b/\bkR u r=some 0) /\
  (∀(r:List Str)(u:Nat)(a b:Str),r.length<=n->Rst r->UE b->nbR b r=some a->alw a "end"=true->bkR (u+1) r=some 0 ->
   ∃es x,E.als Lw es/\r=E.tkr es++ch 41::x/\x.length<r.length/\nbR (ch 41) x=some a/\bkR u x=some 0):=by
 intro n
 induction n using Nat.strongRecOn with
 |_ n ih =>
  have close:∀(x:List Str)(a:Str),nbR (ch 41) x=some a->Rst x:=λx a h y z=>by subst z;rw[Ni rfl (by decide +kernel)]at h;cases h
  constructor
  .intro s ts u a hl hs hn he hb;by_cases h40:∃r,ts=ch 40::r
   .obtain⟨r,rfl⟩:=h40;rw[LG rfl (by decide +kernel)]at hn;rw[XA]at hb;rw[qD]at hl;by_cases eG:∃x,r=ch 41::x
    .obtain⟨x,rfl⟩:=eG;rw[LG rfl (by decide +kernel)]at hn;rw[QJ]at hb;exact⟨.pt false s [],x,ch 41,by simp only[E.al,E.als];exact⟨hs,trivial⟩,by simp[E.tk,E.tks],by simp only[qD];lia,close x a hn,hn,.inr rfl,hb⟩
    .obtain⟨s2,r2,aO,rfl,dM⟩:=JH hn he (.inr (.inl rfl)) (λx z=>eG ⟨x,z⟩);rw[OD aO]at hb;rw[qD]at hl;obtain⟨e1,r3,b3,w1,t1,l1,rs,n3,en,b1⟩:=(ih r2.length (by lia)).1 s2 r2 (u+1) a (qH _) aO dM he hb;obtain⟨es,x,w2,t2,l2,n4,b2⟩:=(ih r3.length (by lia)).2 r3 u a b3 (qH _) rs en n3 he b1;refine⟨.pt false s (e1::es),x,ch 41,by simp only[E.al,E.als];exact⟨hs,w1,w2⟩,?_,by simp only[qD];lia,close x a n4,n4,.inr rfl,b2⟩;rw[t1,t2];simp[E.tk,E.tks]
   .have hR:Rst ts:=λx z=>h40 ⟨x,z⟩
    exact⟨.nm s,ts,"word",by simp only[E.al];exact hs,by simp[E.tk],qH _,hR,hn,.inl rfl,hb⟩
  .intro r u a b hl rs en hn he hb;rcases Rq hn en rs with rfl|⟨c,x,rfl|rfl,rfl,hx⟩
   .rw[bkR]at hb;cases hb
   .rw[QJ]at hb;exact⟨[],x,by simp[E.als],by simp[E.tkr],by simp,hx,hb⟩
   .obtain⟨s,z,hs,rfl,hz⟩:=Pz hx he;rw[XB,Xz,OD hs]at hb;simp only[qD]at hl;obtain⟨e1,r3,b3,w1,t1,l1,pz,n3,nv,b1⟩:=(ih z.length (by lia)).1 s z (u+1) a (qH _) hs hz he hb;obtain⟨es,y,w2,t2,l2,n4,b2⟩:=(ih r3.length (by lia)).2 r3 u a b3 (qH _) pz nv n3 he b1;refine⟨e1::es,y,by simp only[E.als];exact⟨w1,w2⟩,?_,by simp only[qD];lia,n4,b2⟩;rw[t1,t2];simp[E.tkr]
theorem V8{ps:List Str}{a:Str}(hn:nbR "start" ps=some a)(he:alw a "end"=true)(hb:bkR 0 ps=some 0):∃e:E,e.al Lw/\ps=e.tk:=by
 obtain⟨s,r,hs,rfl,hr⟩:=JH hn he (.inr (.inr rfl)) (λx z=>by subst z;rw[Ni rfl (by decide +kernel)]at hn;cases hn);rw[OD hs]at hb;obtain⟨e,r',b,w,t,_,rs,n,en,b'⟩:=(parse r.length).1 s r 0 a (qH _) hs hr he hb;rcases Rq n en rs with rfl|⟨c,x,rfl|rfl,rfl,_⟩
 .exact⟨e,w,by rw[t,rD]⟩
 .rw[bkR,if_pos ⟨.inl rfl,rfl⟩]at b';cases b'
 .rw[bkR,if_pos ⟨.inr rfl,rfl⟩]at b';cases b'
noncomputable def pcs(s:Str):List Str:=cln ((prun (cds s) ([],CQ)).1++[(prun (cds s) ([],CQ)).2])
theorem Ph{s:Str}(hs:(cds s).length<=2000):CJ [vl (.str s)]=.ok (.t (.lst ((pcs s).map T.str))) [vl (.str s)]:=by
 obtain⟨P,w,g1⟩:∃P w,prun (cds s) ([],CQ)=(P,w):=⟨_,_,rfl⟩
 have ep:pcs s=(P++[w]).filter λs=>!decide (s=CQ):=by unfold pcs;rw[g1];rfl
 rw[ep];have hP:=Kn (cds s) [] CQ;rw[g1]at hP;have hP:P.length<=0+2*(cds s).length:=hP;obtain⟨y3,lp⟩:=MZ (x0:=vl (.str s)) (cds s) [] CQ none Ar (by show 0+_<=_;lia) (by show 0+_<=_;lia);rw[g1]at lp;have s1:Ay 1 (As Cq Ai) [vl (.str s),none,none,none]=.nx [vl (.str s),some (.own (.lst [])),none,none]:=rfl;have s2:Ay 2 (gc (.str ("":Str))) [vl (.str s),some (.own (.lst [])),none,none]=.nx [vl (.str s),some (.own (.lst [])),vl (.str CQ),none]:=by refine AF Al ?_;rw[De];rfl
 have s3:Dd (itU (fz (Ab 0))) (tgN 3) pcB [vl (.str s),some (.own (.lst [])),vl (.str CQ),none]=.nx [vl (.str s),some (.own (.lst (P.map T.str))),vl (.str w),y3]:=by have hi:itU (fz (Ab 0)) [vl (.str s),some (.own (.lst [])),vl (.str CQ),none]=.ok (signs s) [vl (.str s),some (.own (.lst [])),vl (.str CQ),none]:=rfl;unfold Dd;rw[hi];exact lp
 have jA:fz (Ad Ao (Ab 1) (As A4 (Ac (fz (Ab 2)) Ai))) [vl (.str s),some (.own (.lst (P.map T.str))),vl (.str w),y3]=.ok (.t (.lst ((P++[w]).map T.str))) [vl (.str s),some (.own (.lst (P.map T.str))),vl (.str w),y3]:=by
  refine Gf (o:=.lst ((P++[w]).map T.str)) (HU (CW (i:=1) rfl) (Cb (ts:=[.str w]) (An (Au (Aa rfl)) AB) rfl (show 1<=big by decide)) ?_);have:IU (.n 1) (.t (.lst [.str w])) [vl (.str s),some (.own (.lst (P.map T.str))),vl (.str w),y3]=.ok (.nw (.lst ((P++[w]).map T.str))) [vl (.str s),some (.own (.lst (P.map T.str))),vl (.str w),y3]:=by rw[qF];exact if_pos (by show _<=1000000;rw[qw];show _+1<=_;lia)
  show(match IU (.n 1) (.t (.lst [.str w])) _ with|.bad=>_|o=>o)=_;rw[this]
 obtain⟨y,_,hc⟩:=Gp (ft:=asB (Ad (gEq true) (Ab 0) (gc (.str ("":Str))))) (fe:=fz (Ab 0)) (p:=T.str) (b:=λs=>!decide (s=CQ)) (rest:=[]) (P++[w]) none [] Ar (λa _=>by have:=Rt (f:=Ab 0) (g:=gc (.str ("":Str))) (fs:=[vl (.str a)]) (x:=a) (Aa rfl) Al;rw[show(("":Str)=CQ)from De]at this ⊢;exact this) (λa _=>Au (Aa rfl)) (by show 0+_<=1000000;rw[qA];show 0+(_+1)<=_;lia);rw[qV]at hc;have ec:=CL (src:=[none]) (fs:=[vl (.str s),some (.own (.lst (P.map T.str))),vl (.str w),y3]) (ER jA) ⟨by rw[show Cj _ _=[]from rfl];simp,by rfl⟩ hc rfl;exact(CG (n:=3) (g:=Gv) (args:=[vl (.str s)]) (sq s1 (sq s2 (sq s3 (AK ec))))).trans rfl
noncomputable def flat(ps:List Str):List Nat:=ps.flatMap cds
theorem HM:∀(cs:List Nat)(P:List Str)(w:Str),flat ((prun cs (P,w)).1++[(prun cs (P,w)).2])=flat (P++[w])++cs
 | [],P,w=>by simp[prun]
 |c::cs,P,w=>by
  show flat ((prun cs (step (P,w) c)).1++[(prun cs (step (P,w) c)).2])=_;unfold step;split
  .rw[HM cs];simp[flat,ch,CQ];rfl
  .rw[HM cs];simp[flat,ch,AO];rfl
theorem Qn(P:List Str):flat (cln P)=flat P:=by
 induction P with
 |nil=>rfl
 |cons p P ih =>
  unfold cln;rw[List.filter_cons];split
  .rw[show flat (p::List.filter _ P)=cds p++flat (cln P)from rfl,ih];rfl
  .rename_i h;have:p=CQ:=by simpa using h
   rw[this,show flat (CQ::P)=flat P from by simp[flat,CQ]];exact ih
theorem HN(s:Str):flat (pcs s)=cds s:=by unfold pcs;rw[Qn,HM];simp[flat,CQ]
mutual
theorem N0:∀e:E,flat e.tk=cds e.tx
 |.nm s=>by simp[E.tk,E.tx,flat]
 |.pt h s es=>by simp only[E.tk,E.tx,E.EH];rw[AO,AO,AO,Ft,p1,p2,p3,rm];have:=T3 es;simp only[flat,rH,sX,List.flatMap_nil]at this ⊢;rw[this];simp[ch];rfl
theorem T3:∀es:List E,flat (E.tks es)=inter [44,32] (es.map λe=>cds e.tx)
 | []=>by simp[E.tks,flat,inter]
 |e::es=>by have h1:=N0 e;have h2:=RI es;simp only[E.tks,flat,sX,qm]at h1 h2 ⊢;rw[h1,h2,B6,List.flatMap_map]
theorem RI:∀es:List E,flat (E.tkr es)=es.flatMap λe=>[44,32]++cds e.tx
 | []=>by simp[E.tkr,flat]
 |e::es=>by have h1:=N0 e;have h2:=RI es;simp only[E.tkr,flat,rH,sX]at h1 h2 ⊢;rw[h1,h2];simp[ch];rfl
end
theorem YC{e:E}{s:Str}(h:pcs s=e.tk):s=e.tx:=D6 (by have:=HN s;rw[h,N0]at this;exact this.symm)
theorem KU{p:Str}:∀{ps:List Str},p∈ps->(cds p).length<=(flat ps).length/\∀c∈cds p,c∈flat ps
 |q::ps,m=>by
  rcases qK.mp m with rfl|m
  .exact⟨by simp[flat],λc hc=>by simp only[flat,rH];exact qG _ hc⟩
  .have:=KU m;refine⟨?_,λc hc=>?_⟩
   .simp only[flat,rH,qA]at this ⊢;lia
   .simp only[flat,rH]at this ⊢;exact qB _ (this.2 c hc)
theorem Rl{s:Str}(h:CH s=true):∀p∈pcs s,CH p=true:=λp m=>by have:=KU m;rw[HN]at this;unfold CH at h ⊢;rw[qL,decide_eq_true_iff,rC]at h ⊢;rw[AR]at h ⊢;exact⟨qS this.1 h.1,λc hc=>h.2 c (this.2 c hc)⟩
section
variable{C:Addr}{K:Kd}{hs:List T}{mt:Str}{p:Nat}{Fn fo:FS->Out Rv}{fa:FS->Out (List Rv)}{rs:List Rv}{fs τ:FS}
theorem S8{r:Out Rv}(ho:fo fs=.ok (.t (Aq C K hs)) fs)(hi:GG C mt fs (.t (Aq C K hs))=true)(ha:fa fs=.ok rs fs)(e:Ak p Fn (.t (Aq C K hs)::rs) fs=r):IF C mt p Fn fo fa fs=r:=by unfold IF;rw[ho];show(if GG C mt fs (.t (Aq C K hs))=true then _ else _)=_;rw[if_pos hi,ha];exact e
theorem Oz{o:FO}(hp:rs.length=p)(hn:Cj fs (rs.map By)=[])(hf:Fn (C8 fs (rs.map By))=.ok (.nw o) τ):Ak p Fn rs fs=.ok (.nw o) fs:=by have hb:Ec (rs.map By) τ fs=some fs:=AJ hn;unfold Ak;rw[if_pos hp];unfold Gs;rw[if_pos (by rw[hn];exact qU),hf];simp only[hb]
theorem PK{o:FO}(ho:fo fs=.ok (.t (Aq C K hs)) fs)(hi:GG C mt fs (.t (Aq C K hs))=true)(hf:Fn [vl (Aq C K hs)]=.ok (.nw o) τ):JM C mt 1 Fn fo Ai fs=.ok (.nw o) fs:=by have hn:Cj fs ([Rv.t (Aq C K hs)].map By)=[]:=rfl;have hb:Ec ([Rv.t (Aq C K hs)].map By) τ fs=some fs:=AJ hn;unfold JM;rw[ho];show(if GG C mt fs (.t (Aq C K hs))=true then _ else _)=_;rw[if_pos hi];show FL.OA 1 Fn [.t (Aq C K hs)] fs=_;unfold FL.OA;rw[if_pos (show [Rv.t (Aq C K hs)].length=1 from rfl)];unfold FL.QH;rw[if_pos (by rw[hn];exact qU)];rw[show Fn (C8 fs ([Rv.t (Aq C K hs)].map By))=.ok (.nw o) τ from hf];simp only[hb]
end
section
variable{C:Addr}{K:Kd}{hs:List T}
theorem OJ(s:Str):∀K:Kd,(K.map λkd=>decide (s∈kd.2.map (·.1))).any id=decide (s∈mks K)
 | []=>by simp[mks]
 |kd::K=>by
  rw[qm,si,OJ s K,DO];by_cases h:s∈kd.2.map (·.1)
  .rw[qE h,qE (qG _ h)];rfl
  .rw[qv h];by_cases h2:s∈mks K
   .rw[qE h2,qE (qB _ h2)];rfl
   .rw[qv h2,qv (λm=>by rcases qC.mp m with m|m;exact h m;exact h2 m)];rfl
theorem En(W:Well K)(s:Str):CD C [vl (Aq C K hs),vl (.str s)]=.ok (.t (.o (decide (s∈mks K)))) [vl (Aq C K hs),vl (.str s)]:=by
 have e1:fz (JM C "kinds" 1 (Bf C) (fz (Ab 0)) Ai) [vl (Aq C K hs),vl (.str s)]=.ok (.t (.lst ((K.map (·.1)).map T.str))) [vl (Aq C K hs),vl (.str s)] :=
  Gf (o:=.lst ((K.map (·.1)).map T.str)) (PK (Au (Aa rfl)) (KD IQ.1) OY)
 obtain⟨y,_,hc⟩:=Gn (fe:=Ad (Dq false) (fz (Ab 1)) (fz (IF C "makers" 2 (AX C) (fz (Ab 2)) (Af (fz (Ab 0)) Ai)))) (p:=λkd:Str×List (Str×List Str)=>T.str kd.1) (q:=λkd=>T.o (decide (s∈kd.2.map (·.1)))) (rest:=[vl (.str s),vl (Aq C K hs)]) K none [] Ar (λkd m=>by
  have e2:fz (IF C "makers" 2 (AX C) (fz (Ab 2)) (Af (fz (Ab 0)) Ai)) [vl (.str kd.1),vl (.str s),vl (Aq C K hs)]=.ok (.t (.lst ((kd.2.map (·.1)).map T.str))) [vl (.str kd.1),vl (.str s),vl (Aq C K hs)] :=
   Gf (o:=.lst ((kd.2.map (·.1)).map T.str)) (S8 (rs:=[.t (.str kd.1)]) (Au (Aa rfl)) (KD IQ.2.1) (Aj (Au (Aa rfl)) AB) (Oz rfl rfl (Mw W m)))
  exact Ae (Au (Aa rfl)) e2 KH) (by show _<=1000000;have:=W.hi;simp;lia)
 rw[qV]at hc;have ec:BR false [none,some 1,some 0] (itU (fz (JM C "kinds" 1 (Bf C) (fz (Ab 0)) Ai))) (tgN 0) Dy (Ad (Dq false) (fz (Ab 1)) (fz (IF C "makers" 2 (AX C) (fz (Ab 2)) (Af (fz (Ab 0)) Ai)))) [vl (Aq C K hs),vl (.str s)]=.ok (.t (.lst ((K.map λkd=>decide (s∈kd.2.map (·.1))).map T.o))) [vl (Aq C K hs),vl (.str s)]:=by rw[rm];rw[rm]at e1;exact CL (src:=[none,some 1,some 0]) (ER e1) ⟨by rw[show Cj _ _=[]from rfl];simp,by rfl⟩ hc rfl
 have ea:Ah WE (Ac (BR false [none,some 1,some 0] (itU (fz (JM C "kinds" 1 (Bf C) (fz (Ab 0)) Ai))) (tgN 0) Dy (Ad (Dq false) (fz (Ab 1)) (fz (IF C "makers" 2 (AX C) (fz (Ab 2)) (Af (fz (Ab 0)) Ai))))) Ai) [vl (Aq C K hs),vl (.str s)]=.ok (.t (.o (decide (s∈mks K)))) [vl (Aq C K hs),vl (.str s)]:=by refine Cd (An ec AB) ?_;show(match(some ((K.map λkd=>decide (s∈kd.2.map (·.1))).map T.o)).bind Di with|some ns=>okT (.o (ns.any id)) _|none=>.bad)=_;rw[rA,ED];show okT (.o ((K.map λkd=>decide (s∈kd.2.map (·.1))).any id)) _=_;rw[OJ];rfl
 exact(CG (n:=0) (g:=Hc C) (args:=[vl (Aq C K hs),vl (.str s)]) (AK ea)).trans rfl
theorem Mj(W:Well K)(s:Str)(ts:List T):Bt C [vl (Aq C K hs),vl (.str s),vl (.tup ts)]=.ok (.t (.tup [.str (hd (decide (s∈mks K))),.str s,.tup ts])) [vl (Aq C K hs),vl (.str s),vl (.tup ts)]:=by
 have c:Ih (fz (Ah (Ak 2 (CD C)) (Af (fz (Ab 0)) (Af (fz (Ab 1)) Ai)))) [vl (Aq C K hs),vl (.str s),vl (.tup ts)]=.ok (decide (s∈mks K)) [vl (Aq C K hs),vl (.str s),vl (.tup ts)] :=
  Hh (Ck (Ct (rs:=[.t (Aq C K hs),.t (.str s)]) (Aj (Au (Aa rfl)) (Aj (Au (Aa rfl)) AB)) rfl rfl (En W s)))
 have ei:ifV (Ih (fz (Ah (Ak 2 (CD C)) (Af (fz (Ab 0)) (Af (fz (Ab 1)) Ai))))) (gc (.str ("make":Str))) (gc (.str ("call":Str))) [vl (Aq C K hs),vl (.str s),vl (.tup ts)]=.ok (.t (.str (hd (decide (s∈mks K))))) [vl (Aq C K hs),vl (.str s),vl (.tup ts)]:=by cases hb:decide (s∈mks K)with|true=>rw[hb]at c;exact YW c rfl|false=>rw[hb]at c;exact YX c rfl
 exact(CG (n:=0) (g:=Dw C) (args:=[vl (Aq C K hs),vl (.str s),vl (.tup ts)]) (AK (BQ (g:=Ba) (ts:=[.str (hd (decide (s∈mks K))),.str s,.tup ts]) (An ei (An (Au (Aa rfl)) (An (Au (Aa rfl)) AB))) rfl (show 3<=big by decide) rfl))).trans rfl
end
mutual
noncomputable def E.re(f:Str->Bool):E->E
 |.nm s=>.nm s
 |.pt _ s es=>.pt (f s) s (E.res f es)
noncomputable def E.res(f:Str->Bool):List E->List E
 | []=>[]
 |e::es=>e.re f::E.res f es
end
theorem E.MH(f:Str->Bool):∀es:List E,E.res f es=es.map (E.re f)
 | []=>by simp[E.res]
 |e::es=>by simp[E.res,E.MH f es]
noncomputable def pr2:List Str->Str->List T
 | [],_=>[]
 |a::l,n=>.tup [.str a,.str (l.headD n)]::pr2 l n
theorem Iv:∀(l:List Str)(n:Str),FL.pairs (l.map T.str) ((l.drop 1++[n]).map T.str)=pr2 l n
 | [],n=>by simp[FL.pairs,pr2]
 | [a],n=>by simp[FL.pairs,pr2]
 |a::b::l,n=>by have ih:=Iv (b::l) n;simp only[List.drop_succ_cons,List.drop_zero,qm,qY,FL.pairs]at ih ⊢;rw[ih];simp[pr2]
theorem He{i:Nat}{f:FS->Out Rv}{fs ag aj:FS}{os:List FO}{ts:List T}{t:T}(h0:fs[i]?=some (some (.own (.z0 (os++[.lst ts])))))(h:f (fs.set i none)=.ok (.t t) ag)(h1:ag[i]?=some none)(hl:ts.length<1000)
  (e:ag.set i (some (.own (.z0 (os++[.lst (ts++[t])]))))=aj):DK i f fs=.nx aj:=by
 unfold DK;rw[h0];simp only[sR,sA,h,SO.of,h1];rw[if_pos hl,e]
theorem Vr{i:Nat}{fs aj:FS}{os:List FO}{o:FO}(h0:fs[i]?=some (some (.own (.z0 (os++[o])))))(e:fs.set i (some (.own (.z0 os)))=aj):Rb i fs=.ok (.nw o) aj:=by
 have h2:FL.AM fs i=some (.z0 (os++[o])):=VY h0;have h3:FL.putAt fs i (.z0 os)=aj:=by unfold FL.putAt;rw[h0];exact e
 unfold Rb;simp only[h2,sR,sA,h3]
theorem Uy{i:Nat}{f:FS->Out Rv}{fs aj:FS}{os:List FO}{o:FO}(h0:fs[i]?=some (some (.own (.z0 os))))(h:f fs=.ok (.nw o) fs)(hl:os.length<1000)(e:fs.set i (some (.own (.z0 (os++[o]))))=aj):UP i f fs=.nx aj:=by
 have h2:FL.AM fs i=some (.z0 os):=VY h0;have h3:FL.putAt fs i (.z0 (os++[o]))=aj:=by unfold FL.putAt;rw[h0];exact e
 unfold UP;simp only[h2,h,SO.of,X2];rw[if_pos hl,h3]
section
variable{C:Addr}{K:Kd}{hs:List T}{ps:T}
abbrev rwO(r:List E):FO:=.lst (r.map E.t)
abbrev wS(C:Addr)(K:Kd)(hs:List T)(ps:T)(W:List Str)(R:List (List E))(x4 x5 x6:Option Sl):FS:=[vl (Aq C K hs),vl ps,some (.own (.lst (W.map T.str))),some (.own (.z0 (R.map rwO))),x4,x5,x6]
abbrev wrB(C:Addr):FS->SO:=(ifS (asB (Ad (gEq false) (Ab 4) (gc (.str ("(":Str))))) (UP 3 (As Cq Ai)) (ifS (asB (Ad (gEq false) (Ab 4) (gc (.str (")":Str))))) (Av (Ay 6 (Ah BK (Ac (fz (Rb 3)) Ai)))
  (DK 3 (fz (Ah (Ak 3 (Bt C)) (Af (fz (Ab 0)) (Af (fz (AH Fc (Ab 2) Ai)) (Af (fz (Ab 6)) Ai))))))) (ifS (asB (Ad (gEq false) (Ab 5) (gc (.str ("(":Str))))) (AS (AH Dc (Ab 2) (Ac (fz (Ab 4)) Ai))) (ifS (asB (inG true Bz (Ab 4))) (DK 3 (As Ba (Ac (gc (.str ("name":Str))) (Ac (fz (Ab 4)) Ai)))) nxS))))
abbrev wtg:T->FS->Option FS:=Bo 2 (Ap (tgN 4) (Ap (tgN 5) Bl))
variable{W:List Str}{R:List (List E)}{x4 x5 x6:Option Sl}
theorem Mh{a n:Str}(f4:Fre x4)(f5:Fre x5):wtg (.tup [.str a,.str n]) (wS C K hs ps W R x4 x5 x6)=some (wS C K hs ps W R (vl (.str a)) (vl (.str n)) x6):=Ef (by unfold tgN;exact AY rfl f4) (by unfold tgN;exact AY rfl f5)
theorem R4{n:Str}{ts:List T}(f4:Fre x4)(f5:Fre x5)(hR:R.length<1000):Cy wtg (wrB C) (.tup [.str (ch 40),.str n]::ts) (wS C K hs ps W R x4 x5 x6)=Cy wtg (wrB C) ts (wS C K hs ps W (R++[[]]) (vl (.str (ch 40))) (vl (.str n)) x6):=by refine D3 (Mh f4 f5) (BH (Ob (Aa rfl) Al c40.symm) ?_);exact Uy (i:=3) (os:=R.map rwO) (o:=.lst []) rfl (BQ (g:=Cq) (ts:=[]) AB rfl (show 0<=big by decide) rfl) (by rw[qw];exact hR) (by show [_,_,_,_,_,_,_]=[_,_,_,_,_,_,_];rw[qF];rfl)
theorem R3{s:Str}{ts:List T}(h:Lw s)(f4:Fre x4)(f5:Fre x5)(hW:W.length<1000):Cy wtg (wrB C) (.tup [.str s,.str (ch 40)]::ts) (wS C K hs ps W R x4 x5 x6)=Cy wtg (wrB C) ts (wS C K hs ps (W++[s]) R (vl (.str s)) (vl (.str (ch 40))) x6):=by refine D3 (Mh f4 f5) (AU (Ff (Aa rfl) Al (by rw[c40];exact HE h rfl)) (AU (Ff (Aa rfl) Al (by rw[c41];exact HE h rfl)) (BH (Ob (Aa rfl) Al c40.symm) ?_)));exact Jo (i:=2) (ts:=W.map T.str) (t:=.str s) rfl (Au (Aa rfl)) (by show _<1000000;rw[qw];lia) (by show [_,_,_,_,_,_,_]=[_,_,_,_,_,_,_];rw[qF];rfl)
theorem R5{s n:Str}{ts:List T}{row:List E}(h:Lw s)(hn:n≠ch 40)(f4:Fre x4)(f5:Fre x5)(hl:row.length<1000):Cy wtg (wrB C) (.tup [.str s,.str n]::ts) (wS C K hs ps W (R++[row]) x4 x5 x6)=Cy wtg (wrB C) ts (wS C K hs ps W (R++[row++[.nm s]]) (vl (.str s)) (vl (.str n)) x6):=by
 have ct:=KI (neg:=true) (f:=Ab 4) (z:=s) (fs:=wS C K hs ps W (R++[row]) (vl (.str s)) (vl (.str n)) x6) (Aa rfl);rw[qv (QT h)]at ct;refine D3 (Mh f4 f5) (AU (Ff (Aa rfl) Al (by rw[c40];exact HE h rfl)) (AU (Ff (Aa rfl) Al (by rw[c41];exact HE h rfl)) (AU (Ff (Aa rfl) Al (by rw[c40];exact hn)) (BH ct ?_))));refine He (i:=3) (os:=R.map rwO) (ts:=row.map E.t) (t:=(E.nm s).t) (ag:=[vl (Aq C K hs),vl ps,some (.own (.lst (W.map T.str))),none,vl (.str s),vl (.str n),x6]) (by
  show some (some (Sl.own (.z0 ((R++[row]).map rwO))))=_;rw[qF];rfl) ?_ rfl (by rw[qw];exact hl) (by
  show [_,_,_,_,_,_,_]=[_,_,_,_,_,_,_];rw[qF,qm,sE];show _=[_,_,_,some (Sl.own (FO.z0 (R.map rwO++[.lst ((row++[E.nm s]).map E.t)]))),_,_,_];rw[qF];rfl)
 rw[N8];exact BQ (g:=Ba) (ts:=[.str "name",.str s]) (An Al (An (Au (Aa rfl)) AB)) rfl (show 2<=big by decide) rfl
theorem Mi{c:Nat}{n:Str}{ts:List T}(hc:c=44\/c=32)(hn:n≠ch 40)(f4:Fre x4)(f5:Fre x5):Cy wtg (wrB C) (.tup [.str (ch c),.str n]::ts) (wS C K hs ps W R x4 x5 x6)=Cy wtg (wrB C) ts (wS C K hs ps W R (vl (.str (ch c))) (vl (.str n)) x6):=by
 have ct:=KI (neg:=true) (f:=Ab 4) (z:=ch c) (fs:=wS C K hs ps W R (vl (.str (ch c))) (vl (.str n)) x6) (Aa rfl);have hm:isM c=true:=by rcases hc with rfl|rfl<;>rfl
 rw[J2,hm]at ct;have kr:ch c≠ch 40:=λz=>by have:=Co.mp z;lia
 have oW:ch c≠ch 41:=λz=>by have:=Co.mp z;lia
 exact D3 (Mh f4 f5) (AU (Ff (Aa rfl) Al (by rw[c40];exact kr)) (AU (Ff (Aa rfl) Al (by rw[c41];exact oW)) (AU (Ff (Aa rfl) Al (by rw[c40];exact hn)) (AU ct rfl))))
theorem OR(Wl:Well K){s n:Str}{ts:List T}{row args:List E}(f4:Fre x4)(f5:Fre x5)(f6:Fre x6)(hl:row.length<1000):Cy wtg (wrB C) (.tup [.str (ch 41),.str n]::ts) (wS C K hs ps (W++[s]) (R++[row]++[args]) x4 x5 x6)=Cy wtg (wrB C) ts (wS C K hs ps W (R++[row++[.pt (decide (s∈mks K)) s args]]) (vl (.str (ch 41))) (vl (.str n)) (vl (.tup (args.map E.t)))):=by
 have kr:ch 41≠ch 40:=λz=>by have:=Co.mp z;lia
 refine D3 (Mh f4 f5) (AU (Ff (Aa rfl) Al (by rw[c40];exact kr)) (BH (Ob (Aa rfl) Al c41.symm) ?_));have e1:Rb 3 (wS C K hs ps (W++[s]) (R++[row]++[args]) (vl (.str (ch 41))) (vl (.str n)) x6)=.ok (.nw (rwO args)) (wS C K hs ps (W++[s]) (R++[row]) (vl (.str (ch 41))) (vl (.str n)) x6) :=
  Vr (i:=3) (os:=(R++[row]).map rwO) (o:=rwO args) (by show some (some (Sl.own (.z0 ((R++[row]++[args]).map rwO))))=_;rw[qF (l₁:=R++[row])];rfl) rfl
 have s6:Ay 6 (Ah BK (Ac (fz (Rb 3)) Ai)) (wS C K hs ps (W++[s]) (R++[row]++[args]) (vl (.str (ch 41))) (vl (.str n)) x6)=.nx (wS C K hs ps (W++[s]) (R++[row]) (vl (.str (ch 41))) (vl (.str n)) (vl (.tup (args.map E.t)))) :=
  C3 (Ez (g:=BK) (A9 (Gf (o:=rwO args) e1) AB) (r:=.ok (.t (.tup (args.map E.t))) _) rfl) (AY rfl f6)
 refine sq s6 (He (i:=3) (os:=R.map rwO) (ts:=row.map E.t) (t:=(E.pt (decide (s∈mks K)) s args).t) (ag:=[vl (Aq C K hs),vl ps,some (.own (.lst (W.map T.str))),none,vl (.str (ch 41)),vl (.str n),vl (.tup (args.map E.t))]) (by
  show some (some (Sl.own (.z0 ((R++[row]).map rwO))))=_;rw[qF];rfl) ?_ rfl (by rw[qw];exact hl) (by
  show [_,_,_,_,_,_,_]=[_,_,_,_,_,_,_];rw[qF,qm,sE];show _=[_,_,_,some (Sl.own (FO.z0 (R.map rwO++[.lst ((row++[E.pt (decide (s∈mks K)) s args]).map E.t)]))),_,_,_];rw[qF];rfl))
 rw[N7];have ep:fz (AH Fc (Ab 2) Ai) [vl (Aq C K hs),vl ps,some (.own (.lst ((W++[s]).map T.str))),none,vl (.str (ch 41)),vl (.str n),vl (.tup (args.map E.t))]=.ok (.t (.str s)) [vl (Aq C K hs),vl ps,some (.own (.lst (W.map T.str))),none,vl (.str (ch 41)),vl (.str n),vl (.tup (args.map E.t))]:=by rw[qF];exact JA (i:=2) (ts:=W.map T.str) (t:=.str s) rfl rfl
 exact Ck (Ct (rs:=[.t (Aq C K hs),.t (.str s),.t (.tup (args.map E.t))]) (Aj (Au (Aa rfl)) (Aj ep (Aj (Au (Aa rfl)) AB))) rfl rfl (Mj Wl s (args.map E.t)))
end
section
variable{C:Addr}{K:Kd}{hs:List T}{ps:T}
abbrev mkB(K:Kd):Str->Bool:=λs=>decide (s∈mks K)
theorem DN(a:Str)(l:List Str)(n:Str):pr2 (a::l) n=.tup [.str a,.str (l.headD n)]::pr2 l n:=rfl
theorem Sa{e:E}(h:e.al Lw)(l:List Str)(n:Str):(e.tk++l).headD n≠ch 40:=by cases e with|nm s =>simp only[E.al]at h;simp only[E.tk,qY,sG];exact HE h rfl|pt b s es =>simp only[E.al]at h;simp only[E.tk,qY,sG];exact HE h.1 rfl
theorem Kf{es:List E}{rest:List Str}{n:Str}(h:rest.headD n≠ch 40):(E.tkr es++rest).headD n≠ch 40:=by cases es with|nil=>simpa[E.tkr]using h|cons e es =>simp only[E.tkr,qY,sG];intro z;exact absurd (Co.mp z) (by decide)
theorem Wj{f g:FS->Out Rv}{fs:FS}{xs ys:List T}(h1:f fs=.ok (.t (.lst xs)) fs)(h2:g fs=.ok (.t (.lst ys)) fs):itZ f g fs=.ok (FL.pairs xs ys) fs:=by
 unfold itZ;rw[h1];have q:∀k:Rv->FS->Out (List T),(Out.ok (Rv.t (T.lst xs)) fs).bnd k=k (.t (.lst xs)) fs:=λ_=>rfl
 rw[q,h2];rfl
theorem Q0(e:E):1<=e.tk.length:=by cases e<;>simp[E.tk]
mutual
theorem Yc(Wl:Well K):∀(e:E),e.al Lw->∀(rest:List Str)(n:Str)(W:List Str)(R:List (List E))(row:List E)(x4 x5 x6:Option Sl),rest.headD n≠ch 40->Fre x4->Fre x5->Fre x6->W.length+e.tk.length<=900->R.length+e.tk.length<=900->row.length+e.tk.length<=900 ->
  ∃y4 y5 y6,Fre y4/\Fre y5/\Fre y6/\Cy wtg (wrB C) (pr2 (e.tk++rest) n) (wS C K hs ps W (R++[row]) x4 x5 x6)=Cy wtg (wrB C) (pr2 rest n) (wS C K hs ps W (R++[row++[e.re (mkB K)]]) y4 y5 y6)
 |.nm s,h,rest,n,W,R,row,x4,x5,x6,hr,f4,f5,f6,hW,hR,hl=>by simp only[E.al]at h;simp only[E.tk,qD,r8]at hl;refine⟨vl (.str s),vl (.str (rest.headD n)),x6,AG,AG,f6,?_⟩;simp only[E.tk,qY,qV,E.re];rw[DN];exact R5 h hr f4 f5 (by lia)
 |.pt b s es,h,rest,n,W,R,row,x4,x5,x6,hr,f4,f5,f6,hW,hR,hl=>by simp only[E.al]at h;simp only[E.tk,qD,qA,r8]at hW hR hl;simp only[E.tk,qY,qT,qV,E.re];rw[DN,DN,sG,R3 h.1 f4 f5 (by lia),R4 AG AG (by simp;lia)];obtain⟨y4,y5,y6,k4,k5,k6,g⟩:=Yb Wl es h.2 (ch 41::rest) n (W++[s]) (R++[row]) [] (vl (.str (ch 40))) (vl (.str ((E.tks es++ch 41::rest).headD n))) x6 (by rw[sG];intro z;exact absurd (Co.mp z) (by decide)) AG AG f6 (by simp;lia) (by simp;lia) (by simp;lia);refine⟨vl (.str (ch 41)),vl (.str (rest.headD n)),vl (.tup ((E.res (mkB K) es).map E.t)),AG,AG,AG,?_⟩;rw[g,DN,qV];exact OR Wl k4 k5 k6 (by lia)
theorem Yb(Wl:Well K):∀(es:List E),E.als Lw es->∀(rest:List Str)(n:Str)(W:List Str)(R:List (List E))(row:List E)(x4 x5 x6:Option Sl),rest.headD n≠ch 40->Fre x4->Fre x5->Fre x6->W.length+(E.tks es).length<=900->R.length+(E.tks es).length<=900->row.length+(E.tks es).length<=900 ->
  ∃y4 y5 y6,Fre y4/\Fre y5/\Fre y6/\Cy wtg (wrB C) (pr2 (E.tks es++rest) n) (wS C K hs ps W (R++[row]) x4 x5 x6)=Cy wtg (wrB C) (pr2 rest n) (wS C K hs ps W (R++[row++E.res (mkB K) es]) y4 y5 y6)
 | [],h,rest,n,W,R,row,x4,x5,x6,hr,f4,f5,f6,hW,hR,hl=>⟨x4,x5,x6,f4,f5,f6,by simp[E.tks,E.res]⟩
 |e::es,h,rest,n,W,R,row,x4,x5,x6,hr,f4,f5,f6,hW,hR,hl=>by simp only[E.als]at h;simp only[E.tks,qA]at hW hR hl;have ht:=Q0 e;obtain⟨y4,y5,y6,k4,k5,k6,g⟩:=Yc Wl e h.1 (E.tkr es++rest) n W R row x4 x5 x6 (Kf hr) f4 f5 f6 (by lia) (by lia) (by lia);obtain⟨z4,z5,z6,m4,m5,m6,g'⟩:=ZG Wl es h.2 rest n W R (row++[e.re (mkB K)]) y4 y5 y6 hr k4 k5 k6 (by lia) (by lia) (by simp;lia);refine⟨z4,z5,z6,m4,m5,m6,?_⟩;simp only[E.tks,E.res];rw[qT,g,g',qT];rfl
theorem ZG(Wl:Well K):∀(es:List E),E.als Lw es->∀(rest:List Str)(n:Str)(W:List Str)(R:List (List E))(row:List E)(x4 x5 x6:Option Sl),rest.headD n≠ch 40->Fre x4->Fre x5->Fre x6->W.length+(E.tkr es).length<=900->R.length+(E.tkr es).length<=900->row.length+(E.tkr es).length<=900 ->
  ∃y4 y5 y6,Fre y4/\Fre y5/\Fre y6/\Cy wtg (wrB C) (pr2 (E.tkr es++rest) n) (wS C K hs ps W (R++[row]) x4 x5 x6)=Cy wtg (wrB C) (pr2 rest n) (wS C K hs ps W (R++[row++E.res (mkB K) es]) y4 y5 y6)
 | [],h,rest,n,W,R,row,x4,x5,x6,hr,f4,f5,f6,hW,hR,hl=>⟨x4,x5,x6,f4,f5,f6,by simp[E.tkr,E.res]⟩
 |e::es,h,rest,n,W,R,row,x4,x5,x6,hr,f4,f5,f6,hW,hR,hl=>by simp only[E.als]at h;simp only[E.tkr,qD,qA]at hW hR hl;have ht:=Q0 e;simp only[E.tkr,qY,qT];rw[DN,DN,sG,Mi (c:=44) (.inl rfl) (λz=>absurd (Co.mp z) (by decide)) f4 f5,Mi (c:=32) (.inr rfl) (Sa h.1 _ _) AG AG];obtain⟨y4,y5,y6,k4,k5,k6,g⟩:=Yc Wl e h.1 (E.tkr es++rest) n W R row (vl (.str (ch 32))) (vl (.str ((e.tk++(E.tkr es++rest)).headD n))) x6 (Kf hr) AG AG f6 (by lia) (by lia) (by lia);obtain⟨z4,z5,z6,m4,m5,m6,g'⟩:=ZG Wl es h.2 rest n W R (row++[e.re (mkB K)]) y4 y5 y6 hr k4 k5 k6 (by lia) (by lia) (by simp;lia);refine⟨z4,z5,z6,m4,m5,m6,?_⟩;simp only[E.res];rw[g,g',qT];rfl
end
theorem C6(Wl:Well K){e:E}(hl:e.tk.length<=900)(hw:e.al Lw):CY C [vl (Aq C K hs),vl (.lst (e.tk.map T.str))]=.ok (.t (e.re (mkB K)).t) [vl (Aq C K hs),vl (.lst (e.tk.map T.str))]:=by
 obtain⟨y4,y5,y6,k4,k5,k6,g⟩:=Yc (C:=C) (hs:=hs) (ps:=.lst (e.tk.map T.str)) Wl e hw [] CQ [] [] [] none none none (λz=>Ow 40 z.symm) Ar Ar Ar (by simp;lia) (by simp;lia) (by simp;lia);rw[rD]at g;have s2:Ay 2 (As Cq Ai) [vl (Aq C K hs),vl (.lst (e.tk.map T.str)),none,none,none,none,none]=.nx [vl (Aq C K hs),vl (.lst (e.tk.map T.str)),some (.own (.lst [])),none,none,none,none]:=rfl;have s3:Ay 3 SX [vl (Aq C K hs),vl (.lst (e.tk.map T.str)),some (.own (.lst [])),none,none,none,none]=.nx (wS C K hs (.lst (e.tk.map T.str)) [] ([]++[[]]) none none none):=rfl;have hi:itZ (Ab 1) (fz (Ad Ao (slF (Ab 1) (AV (gc (.int 1))) noP) (As A4 (Ac (gc (.str ("":Str))) Ai)))) (wS C K hs (.lst (e.tk.map T.str)) [] ([]++[[]]) none none none)=.ok (pr2 e.tk CQ) (wS C K hs (.lst (e.tk.map T.str)) [] ([]++[[]]) none none none):=by
  have hp:1<=e.tk.length:=by cases e<;>simp[E.tk]
  have e1:=Kh (f:=Ab 1) (g:=gc (.int 1)) (fs:=wS C K hs (.lst (e.tk.map T.str)) [] ([]++[[]]) none none none) (ts:=e.tk.map T.str) (v:=1) (Aa rfl) Al (by lia) (by rw[qw];exact hp);have e2:=Gf (Ae e1 (Cb (ts:=[.str ("":Str)]) (An Al AB) rfl (show 1<=big by decide)) (J4 (xs:=(e.tk.map T.str).drop 1) (ys:=[.str ("":Str)]) (by show _<=1000000;simp;lia)));refine(Wj (xs:=e.tk.map T.str) (ys:=(e.tk.map T.str).drop 1++[.str ("":Str)]) (Aa rfl) e2).trans ?_;rw[<- Iv,show(("":Str)=CQ)from De,qF,<- List.map_drop];rfl
 have s4:Dd (itZ (Ab 1) (fz (Ad Ao (slF (Ab 1) (AV (gc (.int 1))) noP) (As A4 (Ac (gc (.str ("":Str))) Ai))))) wtg (wrB C) (wS C K hs (.lst (e.tk.map T.str)) [] ([]++[[]]) none none none)=.nx (wS C K hs (.lst (e.tk.map T.str)) [] ([]++[[]++[e.re (mkB K)]]) y4 y5 y6):=by unfold Dd;rw[hi];exact g
 exact(CG (n:=5) (g:=Fd C) (args:=[vl (Aq C K hs),vl (.lst (e.tk.map T.str))]) (sq s2 (sq s3 (sq s4 (AK rfl))))).trans rfl
theorem JX{f:FS->Out Rv}{fs aj:FS}{t:T}(h:f fs=.ok (.t t) aj):AS f fs=.nx aj:=by unfold AS;rw[h];rfl
theorem Q5(Wl:Well K){s:Str}(hz:CH s=true)(hl:(pcs s).length<=900) :
  (∃e:E,e.al Lw/\s=e.tx/\BW C [vl (Aq C K hs),vl (.str s)]=.ok (.t (e.re (mkB K)).t) [vl (Aq C K hs),vl (.str s)])\/
  ((¬∃e:E,e.al Lw/\pcs s=e.tk)/\∃τ,BW C [vl (Aq C K hs),vl (.str s)]=.exc "BadText" τ):=by
 have hp:=Ph (s:=s) (by rw[<- AR];exact qS (VP hz) (by decide));have s1:Ay 2 (fz (Ah (Ak 1 CJ) (Af (fz (Ab 1)) Ai))) [vl (Aq C K hs),vl (.str s),none]=.nx [vl (Aq C K hs),vl (.str s),vl (.lst ((pcs s).map T.str))] :=
  AF (Ck (Ct (rs:=[.t (.str s)]) (Aj (Au (Aa rfl)) AB) rfl rfl hp)) rfl
 have hn:=YL (Rl hz);have hb:=Zx (Rl hz);have a2:Af (fz (Ab 2)) Ai [vl (Aq C K hs),vl (.str s),vl (.lst ((pcs s).map T.str))]=.ok [.t (.lst ((pcs s).map T.str))] [vl (Aq C K hs),vl (.str s),vl (.lst ((pcs s).map T.str))]:=Aj (Au (Aa rfl)) AB;by_cases c1:(nbR "start" (pcs s)).any (λa=>alw a "end")=true
 .rw[if_pos c1]at hn;by_cases c2:bkR 0 (pcs s)=some 0
  .rw[if_pos c2]at hb;obtain⟨a,ha,he⟩:∃a,nbR "start" (pcs s)=some a/\alw a "end"=true:=by cases e:nbR "start" (pcs s)with|none=>rw[e]at c1;cases c1|some a=>rw[e]at c1;exact⟨a,rfl,c1⟩
   obtain⟨e,hw,ep⟩:=V8 ha he c2;refine .inl ⟨e,hw,YC ep,?_⟩;rw[ep]at s1 hl hn hb a2;exact(CG (n:=1) (g:=EA C) (args:=[vl (Aq C K hs),vl (.str s)]) (sq s1 (sq (JX (Ct a2 rfl rfl hn)) (sq (JX (Ct a2 rfl rfl hb))
    (AK (Ct (rs:=[.t (Aq C K hs),.t (.lst (e.tk.map T.str))]) (Aj (Au (Aa rfl)) (Aj (Au (Aa rfl)) AB)) rfl rfl (C6 Wl hl hw))))))).trans rfl
  .rw[if_neg c2]at hb;obtain⟨τ,hb⟩:=hb;refine .inr ⟨λ⟨e,hw,ep⟩=>c2 (by rw[ep,<- rD e.tk,Zy e hw];rfl),_,Dl (n:=1) (g:=EA C) (args:=[vl (Aq C K hs),vl (.str s)]) (sq s1 (sq (JX (Ct a2 rfl rfl hn)) (CS (IX (Ey a2 rfl rfl hb)))))⟩
 .rw[if_neg c1]at hn;obtain⟨τ,hn⟩:=hn;refine .inr ⟨λ⟨e,hw,ep⟩=>c1 (by obtain⟨a',eI,g⟩:=YO e hw "start" [] (by decide +kernel);rw[rD]at g;rw[ep,g];exact(Od eI).2.2),_,Dl (n:=1) (g:=EA C) (args:=[vl (Aq C K hs),vl (.str s)]) (sq s1 (CS (IX (Ey a2 rfl rfl hn))))⟩
end
theorem len_own{f:FS->Out Rv}{fs:FS}{i:Nat}{ts:List T}(h:f fs=.ok (.n i) fs)(h0:fs[i]?=some (some (.own (.lst ts)))):Ah Bd (Ac f Ai) fs=.ok (.t (.int ts.length)) fs:=by
 refine Ez (g:=Bd) (rs:=[.n i]) (by unfold Ac;rw[h];rfl) ?_;have:UJ [.n i] fs=.ok (.t (.int ts.length)) fs:=by simp only[UJ,Q1 h0];rfl
 show(match UJ [.n i] fs with|.bad=>_|o=>o)=_;rw[this]
section
variable{Mk Nm:List Str}{rec:FS->Out Rv}{d c:Nat}{down z:Int}
def Dr(Mk Nm:List Str)(d:Nat)(e:E):Prop:=E.ok d e/\e.al (λs=>s∈Nm++Mk)/\e.re (λs=>decide (s∈Mk))=e
abbrev vS(Mk Nm:List Str)(ds:List Int)(down z:Int)(ts:List E)(x y:Option Sl):FS:=[vl (.lst (Mk.map T.str)),vl (.lst (Nm.map T.str)),some (.bor (.lst (ds.map T.int))),iv down,iv z,some (.own (.lst ((Nm++Mk).map T.str))),some (.own (.lst (ts.map E.t))),x,y]
theorem Ee(hr:∀ds:List Int,c<=ds.length->∃(e:E)(es:List Int),Dr Mk Nm d e/\ds.length<=es.length+c/\rec [vl (.lst (Mk.map T.str)),vl (.lst (Nm.map T.str)),some (.bor (.lst (ds.map T.int))),iv (down-1)]=.ok (.t e.t) [vl (.lst (Mk.map T.str)),vl (.lst (Nm.map T.str)),some (.bor (.lst (es.map T.int))),iv (down-1)]) :
  ∀(us:List T)(ds:List Int)(x:Option Sl)(ao:List E),Fre x->c*us.length<=ds.length->ao.length+us.length<=1000 ->
  ∃(ts:List E)(es:List Int)(y:Option Sl),(∀t∈ts,Dr Mk Nm d t)/\ts.length=us.length/\ds.length<=es.length+c*us.length /\
   Cy (tgN 7) (AS (AH Dc (Ab 6) (Ac (fz (Ah (Ak 4 rec) (Af (fz (Ab 0)) (Af (fz (Ab 1)) (Af (Ab 2) (Af (Ad EU (Ab 3) (gc (.int 1))) Ai)))))) Ai))) us (vS Mk Nm ds down z ao x none)=.nx (vS Mk Nm es down z (ao++ts) y none)
 | [],ds,x,ao,_,_,_=>⟨[],ds,x,(λ_ m=>nomatch m),rfl,by lia,by simp[Cy]⟩
 |u::us,ds,x,ao,fx,hd,ha=>by
  have eK:c+c*us.length<=ds.length:=by rw[qD,Nat.mul_add,Nat.mul_one]at hd;lia
  obtain⟨t,es,h1,h2,h3⟩:=hr ds (by lia);obtain⟨ts,cg,y,g1,gl,g2,g3⟩:=Ee hr us es (vl u) (ao++[t]) AG (by lia) (by simp at ha ⊢;lia);refine⟨t::ts,cg,y,λa m=>?_,by simp[gl],by rw[qD,Nat.mul_add,Nat.mul_one];lia,?_⟩
  .rcases qK.mp m with q|q
   .rw[q];exact h1
   .exact g1 a q
  .have e1:tgN 7 u (vS Mk Nm ds down z ao x none)=some (vS Mk Nm ds down z ao (vl u) none):=by unfold tgN;exact AY rfl fx
   have e2:fz (Ah (Ak 4 rec) (Af (fz (Ab 0)) (Af (fz (Ab 1)) (Af (Ab 2) (Af (Ad EU (Ab 3) (gc (.int 1))) Ai))))) (vS Mk Nm ds down z ao (vl u) none)=.ok (.t t.t) (vS Mk Nm es down z ao (vl u) none) :=
    Ck (CZ (Aj (Au (Aa (t:=.lst (Mk.map T.str)) rfl)) (Aj (Au (Aa (t:=.lst (Nm.map T.str)) rfl)) (Aj (HK (i:=2) rfl) (Aj (Ae (Aa rfl) Al RF) AB)))) rfl (by rw[show Cj _ _=[2]from rfl];simp) h3 rfl)
   have e3:=OI (i:=6) (us:=ao.map E.t) (ts:=ao.map E.t) (t:=t.t) (aj:=vS Mk Nm es down z (ao++[t]) (vl u) none) (f:=fz (Ah (Ak 4 rec) (Af (fz (Ab 0)) (Af (fz (Ab 1)) (Af (Ab 2) (Af (Ad EU (Ab 3) (gc (.int 1))) Ai)))))) rfl e2 rfl (by show _<1000000;simp at ha ⊢;lia) (by show [_,_,_,_,_,_,_,_,_]=[_,_,_,_,_,_,_,_,_];rw[qF (l₁:=ao)];rfl);rw[D3 e1 e3,g3];simp
end
theorem written{Mk Nm:List Str}(hL:Nm++Mk≠[])(hl:Nm.length+Mk.length<=1000):∀(n d:Nat)(down:Int)(ds:List Int),0<=down->down.toNat=d->d<n->nd d<=ds.length ->
  ∃(e:E)(es:List Int),Dr Mk Nm d e/\ds.length<=es.length+nd d/\AZ n [vl (.lst (Mk.map T.str)),vl (.lst (Nm.map T.str)),some (.bor (.lst (ds.map T.int))),iv down]=.ok (.t e.t) [vl (.lst (Mk.map T.str)),vl (.lst (Nm.map T.str)),some (.bor (.lst (es.map T.int))),iv down]
 |0,d,down,ds,_,_,hn,_=>by lia
 |n+1,d,down,ds,h0,hdn,hn,hd=>by
  have hp:=VZ d;obtain⟨d1,z,rfl,ig⟩:=LM (xs:=ds) (by lia);have s4:Ay 4 (fz (AH Fc (Ab 2) Ai)) [vl (.lst (Mk.map T.str)),vl (.lst (Nm.map T.str)),some (.bor (.lst ((d1++[z]).map T.int))),iv down,none,none,none,none,none]=.nx [vl (.lst (Mk.map T.str)),vl (.lst (Nm.map T.str)),some (.bor (.lst (d1.map T.int))),iv down,iv z,none,none,none,none]:=by rw[qF];exact C3 (Ht (ts:=d1.map T.int) (t:=.int z) rfl rfl) rfl
  have s5:Ay 5 (Ad Ao (Ab 1) (Ab 0)) [vl (.lst (Mk.map T.str)),vl (.lst (Nm.map T.str)),some (.bor (.lst (d1.map T.int))),iv down,iv z,none,none,none,none]=.nx [vl (.lst (Mk.map T.str)),vl (.lst (Nm.map T.str)),some (.bor (.lst (d1.map T.int))),iv down,iv z,some (.own (.lst ((Nm++Mk).map T.str))),none,none,none]:=by rw[qF];exact Hk (Ae (Aa rfl) (Aa rfl) (J4 (by show _<=1000000;simp;lia))) rfl
  have lA:∀(ds:List Int)(x6 x7 x8:Option Sl)(q:Int),0<q->q<1073741824->∃s,s∈Nm++Mk/\Ad A1 (Ab 5) (Ad Bk (Ad CP (Ab 4) (gc (.int q))) (Ah Bd (Ac (Ab 5) Ai))) [vl (.lst (Mk.map T.str)),vl (.lst (Nm.map T.str)),some (.bor (.lst (ds.map T.int))),iv down,iv z,some (.own (.lst ((Nm++Mk).map T.str))),x6,x7,x8]=.ok (.t (.str s)) [vl (.lst (Mk.map T.str)),vl (.lst (Nm.map T.str)),some (.bor (.lst (ds.map T.int))),iv down,iv z,some (.own (.lst ((Nm++Mk).map T.str))),x6,x7,x8]:=λds x6 x7 x8 q hq oC=>by
   obtain⟨s,hs,e⟩:=NF hL (z/q);have hi:[vl (.lst (Mk.map T.str)),vl (.lst (Nm.map T.str)),some (.bor (.lst (ds.map T.int))),iv down,iv z,some (.own (.lst ((Nm++Mk).map T.str))),x6,x7,x8][5]?=some (some (.own (.lst ((Nm++Mk).map T.str)))):=rfl;have le:=len_own (f:=Ab 5) (CW hi) hi;rw[qw]at le;have nJ:(0:Int)<(Nm++Mk).length:=by have:=List.length_pos_iff.mpr hL;lia
   exact⟨s,hs,HU (CW hi) (Ae (Ae (Aa rfl) Al (C9 ⟨hq,oC⟩)) le (Bj nJ)) (Bh (Q1 hi) e)⟩
  have c1:=Gj (fa:=Ab 3) (fb:=gc (.int 0)) (fs:=[vl (.lst (Mk.map T.str)),vl (.lst (Nm.map T.str)),some (.bor (.lst (d1.map T.int))),iv down,iv z,some (.own (.lst ((Nm++Mk).map T.str))),none,none,none]) (Aa rfl) Al;have c2:=Gj (fa:=Ad Bk (Ab 4) (gc (.int 5))) (fb:=gc (.int 0)) (fs:=[vl (.lst (Mk.map T.str)),vl (.lst (Nm.map T.str)),some (.bor (.lst (d1.map T.int))),iv down,iv z,some (.own (.lst ((Nm++Mk).map T.str))),none,none,none]) (Ae (Aa rfl) Al (Bj (by lia))) Al;have run:∀{t:T}{es:List Int}{y4 y5 y6 y7 y8:Option Sl},B9 (AZ n) [vl (.lst (Mk.map T.str)),vl (.lst (Nm.map T.str)),some (.bor (.lst ((d1++[z]).map T.int))),iv down,none,none,none,none,none]=.ret (.t t) [vl (.lst (Mk.map T.str)),vl (.lst (Nm.map T.str)),some (.bor (.lst (es.map T.int))),iv down,y4,y5,y6,y7,y8] ->
    AZ (n+1) [vl (.lst (Mk.map T.str)),vl (.lst (Nm.map T.str)),some (.bor (.lst ((d1++[z]).map T.int))),iv down]=.ok (.t t) [vl (.lst (Mk.map T.str)),vl (.lst (Nm.map T.str)),some (.bor (.lst (es.map T.int))),iv down]:=λ{t es y4 y5 y6 y7 y8} k=>by
   show B2 5 (B9 (AZ n)) _=_;unfold B2;show(match B9 (AZ n) [vl (.lst (Mk.map T.str)),vl (.lst (Nm.map T.str)),some (.bor (.lst ((d1++[z]).map T.int))),iv down,none,none,none,none,none]with|.nx τ=>_|.ret (.t t) τ=>_|.ret (.nw o) τ=>_|.ret (.n i) τ=>_|.exc c τ=>_|_=>_)=_;rw[k];rfl
  by_cases hc:down=0\/z%5=0
  .obtain⟨s,hs,es⟩:=lA d1 none none none 5 (by lia) (by lia);have ct:orT (asB (Ad (gEq false) (Ab 3) (gc (.int 0)))) (asB (Ad (gEq false) (Ad Bk (Ab 4) (gc (.int 5))) (gc (.int 0)))) [vl (.lst (Mk.map T.str)),vl (.lst (Nm.map T.str)),some (.bor (.lst (d1.map T.int))),iv down,iv z,some (.own (.lst ((Nm++Mk).map T.str))),none,none,none]=.ok true [vl (.lst (Mk.map T.str)),vl (.lst (Nm.map T.str)),some (.bor (.lst (d1.map T.int))),iv down,iv z,some (.own (.lst ((Nm++Mk).map T.str))),none,none,none]:=by
    by_cases h:down=0
    .rw[qE h]at c1;exact Po c1
    .rw[qv h]at c1;rw[qE (hc.resolve_left h)]at c2;exact Hx c1 c2
   refine⟨.nm s,d1,⟨by simp[E.ok],by simpa only[E.al]using hs,by simp only[E.re]⟩,by simp;lia,run (y4:=iv z) (y5:=some (.own (.lst ((Nm++Mk).map T.str)))) (y6:=none) (y7:=none) (y8:=none) ?_⟩;rw[N8];unfold B9;refine sq s4 (sq s5 ?_);unfold Av;rw[BH ct (AK (BQ (g:=Ba) (ts:=[.str "name",.str s]) (A9 Al (A9 es AB)) rfl (show 2<=big by decide) rfl))]
  .have h1:¬down=0:=λh=>hc (.inl h)
   have h2:¬z%5=0:=λh=>hc (.inr h)
   rw[qv h1]at c1;rw[qv h2]at c2;obtain⟨e,rfl⟩:∃e,d=e+1:=⟨d-1,by lia⟩
   have hd2:1+3*nd e<=d1.length+1:=by simpa[nd]using hd
   obtain⟨k,hk,ek⟩:=XF (z/5);have hlen:(FL.upTo 0 k).length=k:=by simp[FL.upTo]
   have kZ:nd e*k<=nd e*3:=Nat.mul_le_mul_left _ hk;obtain⟨ts,es,y,g1,gl,g2,g3⟩:=Ee (Mk:=Mk) (Nm:=Nm) (rec:=AZ n) (d:=e) (c:=nd e) (down:=down) (z:=z) (λds gj=>written hL hl n e (down-1) ds (by lia) (by lia) (by lia) gj) (FL.upTo 0 k) d1 none [] Ar (by rw[hlen];lia) (by rw[hlen];simp;lia);rw[hlen]at gl g2;rw[qV]at g3;obtain⟨s,hs,nt⟩:=lA es (some (.own (.lst (ts.map E.t)))) y none 30 (by lia) (by lia);have e5:Ad A1 (As A4 (Ac (gc (.int 0)) (Ac (gc (.int 1)) (Ac (gc (.int 2)) (Ac (gc (.int 3)) (Ac (gc (.int 1)) (Ac (gc (.int 2)) Ai))))))) (Ad Bk (Ad CP (Ab 4) (gc (.int 5))) (gc (.int 6))) (vS Mk Nm d1 down z [] none none)=.ok (.t (.int k)) (vS Mk Nm d1 down z [] none none) :=
    Ae (Cb (ts:=[.int 0,.int 1,.int 2,.int 3,.int 1,.int 2]) (An Al (An Al (An Al (An Al (An Al (An Al AB)))))) rfl (show 6<=big by decide)) (Ae (Ae (Aa rfl) Al (C9 (by lia))) Al (Bj (by lia))) (Bh rfl ek)
   have s7:Dd (GF (Ac (Ad A1 (As A4 (Ac (gc (.int 0)) (Ac (gc (.int 1)) (Ac (gc (.int 2)) (Ac (gc (.int 3)) (Ac (gc (.int 1)) (Ac (gc (.int 2)) Ai))))))) (Ad Bk (Ad CP (Ab 4) (gc (.int 5))) (gc (.int 6)))) Ai)) (tgN 7) (AS (AH Dc (Ab 6) (Ac (fz (Ah (Ak 4 (AZ n)) (Af (fz (Ab 0)) (Af (fz (Ab 1)) (Af (Ab 2) (Af (Ad EU (Ab 3) (gc (.int 1))) Ai)))))) Ai))) (vS Mk Nm d1 down z [] none none)=.nx (vS Mk Nm es down z ts y none):=by have:=Ei (fs:=vS Mk Nm d1 down z [] none none) (An e5 AB) ⟨by lia,by lia⟩;unfold Dd;rw[this];rw[rO];exact g3
   have s8:Ay 8 (Ad A1 (Ab 5) (Ad Bk (Ad CP (Ab 4) (gc (.int 30))) (Ah Bd (Ac (Ab 5) Ai)))) (vS Mk Nm es down z ts y none)=.nx (vS Mk Nm es down z ts y (vl (.str s))):=AF nt rfl;have c8:asB (Ad (Dq false) (fz (Ab 8)) (Ab 0)) (vS Mk Nm es down z ts y (vl (.str s)))=.ok (decide (s∈Mk)) (vS Mk Nm es down z ts y (vl (.str s))):=Bn (Ae (Au (Aa rfl)) (Aa rfl) KH);have gt:Ah BK (Ac (Ab 6) Ai) (vS Mk Nm es down z ts y (vl (.str s)))=.ok (.t (.tup (ts.map E.t))) (vS Mk Nm es down z ts y (vl (.str s))):=Ez (g:=BK) (rs:=[.n 6]) rfl (r:=.ok (.t (.tup (ts.map E.t))) _) rfl;refine⟨.pt (decide (s∈Mk)) s ts,es,⟨?_,?_,?_⟩,?_,run (y4:=iv z) (y5:=some (.own (.lst ((Nm++Mk).map T.str)))) (y6:=some (.own (.lst (ts.map E.t)))) (y7:=y) (y8:=vl (.str s)) ?_⟩
   .simp only[E.ok];exact⟨by lia,E.Rp λx m=>(g1 x m).1⟩
   .simp only[E.al];exact⟨hs,E.RX λx m=>(g1 x m).2.1⟩
   .simp only[E.re];rw[E.MH];have:ts.map (E.re λs=>decide (s∈Mk))=ts:=by
     conv=>rhs;rw[<- List.map_id ts]
     exact sV λx m=>(g1 x m).2.2
    rw[this]
   .simp[nd]
    lia
   .rw[N7];unfold B9;refine sq s4 (sq s5 (sq (AU (Hx c1 c2) rfl) (sq (aj:=vS Mk Nm d1 down z [] none none) (Hk (o:=.lst []) rfl rfl) (sq s7 (sq s8 ?_)))));cases hb:decide (s∈Mk)with|true =>rw[hb]at c8;exact Bp (BH c8 (AK (BQ (g:=Ba) (ts:=[.str "make",.str s,.tup (ts.map E.t)]) (A9 Al (A9 (Au (Aa rfl)) (A9 gt AB))) rfl (show 3<=big by decide) rfl)))|false =>rw[hb]at c8;exact sq (AU c8 rfl) (AK (BQ (g:=Ba) (ts:=[.str "call",.str s,.tup (ts.map E.t)]) (A9 Al (A9 (Au (Aa rfl)) (A9 gt AB))) rfl (show 3<=big by decide) rfl))
theorem V5(c:Int)(k:Nat):Lw (nmS c k):=⟨by
 show 1<=(Nm.codes c k).toArray.toList.length;simp;exact Nm.K5 c k,by
 show(Nm.codes c k).toArray.toList.length<=12;simp;exact Nm.HR c k,λx hx=>Nm.Ew c k x (by simpa[nmS]using hx)⟩
abbrev wdB:FS->SO:=(Ay 2 (fz (Ad Ao (Ab 2) (BR false [none,none] (itU (fz (Ab 4))) (Bo 2 (Ap (tgN 0) (Ap (tgN 1) Bl))) Dy (fz (Ab 0))))))
theorem GI{x0 x1:Option Sl}:∀(R:Kd)(ao:List Str)(x3 x4:Option Sl),Fre x3->Fre x4->(∀kd∈R,kd.2.length<=4)->ao.length+4*R.length<=1000 ->
  ∃y3 y4,Cy (Bo 2 (Ap (tgN 3) (Ap (tgN 4) Bl))) wdB (R.map Aw) [x0,x1,vl (.lst (ao.map T.str)),x3,x4]=.nx [x0,x1,vl (.lst ((ao++mks R).map T.str)),y3,y4]
 | [],ao,x3,x4,_,_,_,_=>⟨x3,x4,by simp[Cy,mks]⟩
 |kd::R,ao,x3,x4,f3,f4,hr,ha=>by
  have h4:=hr kd (by simp);rw[qD]at ha;obtain⟨y3,y4,g⟩:=GI (x0:=x0) (x1:=x1) R (ao++kd.2.map (·.1)) (vl (.str kd.1)) (vl (.lst (kd.2.map Cv))) AG AG (λk m=>hr k (qt _ m)) (by simp;lia);refine⟨y3,y4,?_⟩;have e1:Bo 2 (Ap (tgN 3) (Ap (tgN 4) Bl)) (Aw kd) [x0,x1,vl (.lst (ao.map T.str)),x3,x4]=some [x0,x1,vl (.lst (ao.map T.str)),vl (.str kd.1),vl (.lst (kd.2.map Cv))] :=
   Ef (by unfold tgN;exact AY rfl f3) (by unfold tgN;exact AY rfl f4)
  obtain⟨x,y,_,_,e⟩:=Eu (fe:=fz (Ab 0)) (f:=λr:Str×List Str=>.str r.1) (g:=λr=>.tup (r.2.map T.str)) (h:=λr=>.str r.1) (rest:=[]) kd.2 none none [] Ar Ar (λkd _=>Au (Aa rfl)) (by show 0+_<=1000000;lia);rw[qV]at e;have ec:BR false [none,none] (itU (fz (Ab 4))) (Bo 2 (Ap (tgN 0) (Ap (tgN 1) Bl))) Dy (fz (Ab 0)) [x0,x1,vl (.lst (ao.map T.str)),vl (.str kd.1),vl (.lst (kd.2.map Cv))]=.ok (.t (.lst ((kd.2.map (·.1)).map T.str))) [x0,x1,vl (.lst (ao.map T.str)),vl (.str kd.1),vl (.lst (kd.2.map Cv))]:=by rw[rm];exact CL (src:=[none,none]) (ER (Au (Aa rfl))) ⟨by rw[show Cj _ (List.map _ [none,none])=[]from rfl];exact qU,by rfl⟩ e (AJ rfl)
  have s2:wdB [x0,x1,vl (.lst (ao.map T.str)),vl (.str kd.1),vl (.lst (kd.2.map Cv))]=.nx [x0,x1,vl (.lst ((ao++kd.2.map (·.1)).map T.str)),vl (.str kd.1),vl (.lst (kd.2.map Cv))]:=by rw[qF];exact AF (Gf (Ae (Aa rfl) ec (J4 (by show _<=1000000;simp;lia)))) rfl
  rw[qm,D3 e1 s2,g,DO,qT]
theorem words{ns:List Int}{K:Kd}(W:Well K)(hb:Builtin.Int.intBits (ns.getD 2 0)<=2^20):Es [vl (.z7 (ns.map T.int)),vl (.lst (K.map Aw))]=.ok (.t (.tup [.lst ((mks K).map T.str),.lst ((nms (ns.getD 2 0) 5).map T.str)])) [vl (.z7 (ns.map T.int)),vl (.lst (K.map Aw))]:=by
 have ec:=J3 ns 2;have en:=names (c:=ns.getD 2 0) (n:=5) (by decide) hb;generalize T.z7 (ns.map T.int)=sc at ec ⊢;have hl:=W.hi;obtain⟨y3,y4,g⟩:=GI (x0:=vl sc) (x1:=vl (.lst (K.map Aw))) K [] none none Ar Ar (λkd m=>(W.rw kd m).2) (by simp;lia);rw[qV]at g;have s1:Ay 2 (As A4 Ai) [vl sc,vl (.lst (K.map Aw)),none,none,none]=.nx [vl sc,vl (.lst (K.map Aw)),vl (.lst (([]:List Str).map T.str)),none,none]:=rfl;have s2:Dd (itU (fz (Ab 1))) (Bo 2 (Ap (tgN 3) (Ap (tgN 4) Bl))) wdB [vl sc,vl (.lst (K.map Aw)),vl (.lst (([]:List Str).map T.str)),none,none]=.nx [vl sc,vl (.lst (K.map Aw)),vl (.lst ((mks K).map T.str)),y3,y4]:=by have hi:itU (fz (Ab 1)) [vl sc,vl (.lst (K.map Aw)),vl (.lst (([]:List Str).map T.str)),none,none]=.ok (K.map Aw) [vl sc,vl (.lst (K.map Aw)),vl (.lst (([]:List Str).map T.str)),none,none]:=ER (Au (Aa rfl));unfold Dd;rw[hi];exact g
 have e1:fz (Ah (Ak 2 A7) (Af (fz (Ab 0)) (Af (gc (.int 2)) Ai))) [vl sc,vl (.lst (K.map Aw)),vl (.lst ((mks K).map T.str)),y3,y4]=.ok (.t (.int (ns.getD 2 0))) [vl sc,vl (.lst (K.map Aw)),vl (.lst ((mks K).map T.str)),y3,y4] :=
  Ck (Ct (Aj (Au (Aa (t:=sc) rfl)) (Aj Al AB)) rfl rfl ec)
 have e2:fz (Ah (Ak 2 BO) (Af (fz (Ah (Ak 2 A7) (Af (fz (Ab 0)) (Af (gc (.int 2)) Ai)))) (Af (gc (.int 5)) Ai))) [vl sc,vl (.lst (K.map Aw)),vl (.lst ((mks K).map T.str)),y3,y4]=.ok (.t (.lst ((nms (ns.getD 2 0) 5).map T.str))) [vl sc,vl (.lst (K.map Aw)),vl (.lst ((mks K).map T.str)),y3,y4] :=
  Gf (o:=.lst ((nms (ns.getD 2 0) 5).map T.str)) (DW (Aj e1 (Aj Al AB)) rfl (by rw[show Cj _ _=[]from rfl];exact qU) en (AJ rfl))
 exact(CG (n:=3) (g:=Ld) (args:=[vl sc,vl (.lst (K.map Aw))]) (sq s1 (sq s2 (AK (BQ (g:=Ba) (ts:=[.lst ((mks K).map T.str),.lst ((nms (ns.getD 2 0) 5).map T.str)]) (An (Au (Aa rfl)) (An e2 AB)) rfl (show 2<=big by decide) rfl))))).trans rfl
mutual
theorem E.Vg(f:Str->Bool):∀(e:E),(e.re f).tx=e.tx
 |.nm s=>by simp only[E.re]
 |.pt b s es=>by simp only[E.re,E.tx];rw[E.Q4 f es]
theorem E.Q4(f:Str->Bool):∀(es:List E),E.txs (E.res f es)=E.txs es
 | []=>by simp only[E.res]
 |e::es=>by simp only[E.res,E.txs];rw[E.Vg f e,E.Q4 f es]
end
mutual
theorem E.RY{p q:Str->Prop}(gP:∀s,p s->q s):∀(e:E),e.al p->e.al q
 |.nm s,h=>by simp only[E.al]at h ⊢;exact gP s h
 |.pt b s es,h=>by simp only[E.al]at h ⊢;exact⟨gP s h.1,E.OL gP es h.2⟩
theorem E.OL{p q:Str->Prop}(gP:∀s,p s->q s):∀(es:List E),E.als p es->E.als q es
 | [],_=>by simp[E.als]
 |e::es,h=>by simp only[E.als]at h ⊢;exact⟨E.RY gP e h.1,E.OL gP es h.2⟩
end
abbrev mkS(l:List Nat):Str:=⟨l.toArray⟩
theorem Ru{l:List Nat}{s:Str}:mkS l=s↔l=cds s:=⟨λh=>by rw[<- h],λh=>D6 (by rw[h])⟩
theorem slc{z:Str}{i j:Nat}(h:i<=j)(hi:i<=(cds z).length):Txt.slice z (some (i:Int)) (some (j:Int))=mkS (((cds z).drop i).take (j-i)):=by
 obtain⟨m,h1,h2⟩:∃m:Nat,m<=(cds z).length/\(m=j\/(m=(cds z).length/\m<j)):=by
  rcases Nat.lt_or_ge (cds z).length j with q|q
  .exact⟨_,qH _,.inr ⟨rfl,q⟩⟩
  .exact⟨j,q,.inl rfl⟩
 have e:Txt.slice z (some (i:Int)) (some (j:Int))=Txt.slice z (some (i:Int)) (some (m:Int)):=by
  unfold Txt.slice;have q:Builtin.Str.strSliceIndices (some (i:Int)) (some (j:Int)) 1 z.length=Builtin.Str.strSliceIndices (some (i:Int)) (some (m:Int)) 1 z.length:=by
   rw[AR];unfold Builtin.Str.strSliceIndices;congr 1;generalize (cds z).length=n at h1 h2 ⊢;simp only[show(1:Int)>0 by decide,if_true,show ¬((j:Int)<0) by lia,show ¬((m:Int)<0) by lia,if_false];have:min (j:Int) n=min (m:Int) n:=by lia
   rw[this]
  rw[q]
 rw[e,beq_iff_eq.mp (PyProof.Rows.slice_closes (x:=z) (i:=i) (j:=m) ⟨by lia,by lia,Int.ofNat_le.mpr h1⟩)];refine D6 ?_;show(((cds z).drop (i:Int).toNat).take ((m:Int)-i).toNat)=((cds z).drop i).take (j-i);rw[rO,show((m:Int)-i).toNat=m-i by lia,List.take_eq_take_iff,rB]
 lia
theorem Mz{f:FS->Out Rv}{l h:FS->Out (Option Int)}{fs:FS}{z:Str}{lo hi:Option Int}(h1:f fs=.ok (.t (.str z)) fs)(h2:l fs=.ok lo fs)(h3:h fs=.ok hi fs)(hz:z.length<=1000):slS f l h fs=.ok (.t (.str (Txt.slice z lo hi))) fs:=by unfold slS;rw[h1];show(l fs).bind _=_;rw[h2];show(h fs).bind _=_;rw[h3];show(if(Txt.slice z lo hi).length<=big then okT (.str (Txt.slice z lo hi)) fs else .bad)=_;rw[if_pos (qS (Txt.slice_le z lo hi) (qS hz (by decide)))];rfl
theorem Fo{g:FS->Out Rv}{fs:FS}{i:Int}(h:g fs=.ok (.t (.int i)) fs):AV g fs=.ok (some i) fs:=by unfold AV;rw[h];rfl
theorem sl2{f g h:FS->Out Rv}{fs:FS}{z:Str}{i j:Nat}(h1:f fs=.ok (.t (.str z)) fs)(h2:g fs=.ok (.t (.int i)) fs)(h3:h fs=.ok (.t (.int j)) fs)(fP:i<=j)(hi:i<=(cds z).length)(hz:(cds z).length<=1000) :
  slS f (AV g) (AV h) fs=.ok (.t (.str (mkS (((cds z).drop i).take (j-i))))) fs:=by
 rw[Mz h1 (Fo h2) (Fo h3) (by rw[AR];exact hz),slc fP hi]
theorem ixS{z:Str}{i c:Nat}{fs:FS}(hz:(cds z).length<=1000)(h:(cds z)[i]?=some c):A1 (.t (.str z)) (.t (.int i)) fs=.ok (.t (.str (ch c))) fs:=by
 have:gIx (.t (.str z)) (.t (.int i)) fs=.ok (.t (.str (ch c))) fs:=by show(if z.length<=big then match atI z.cps.toList i with|some c=>okT (.str ⟨#[c]⟩) fs|none=>.bad else .bad)=_;rw[if_pos (by rw[AR];exact qS hz (by decide)),AN h];rfl
 show(match gIx (.t (.str z)) (.t (.int i)) fs with|.bad=>_|o=>o)=_;rw[this]
theorem XH{f g:FS->Out Bool}{fs:FS}(h:f fs=.ok false fs):Mc f g fs=.ok false fs:=by unfold Mc;rw[h];rfl
theorem FD{c:FS->Out Bool}{b:FS->SO}{n:Nat}{fs:FS}(h:c fs=.ok false fs):BG c b (n+1) fs=.nx fs:=by rw[BG,h];rfl
theorem Ml{c:FS->Out Bool}{b:FS->SO}{n:Nat}{fs aj:FS}{r:Rv}(h:c fs=.ok true fs)(e:b fs=.ret r aj):BG c b (n+1) fs=.ret r aj:=by rw[BG,h];show(match b fs with|.nx fs=>BG c b n fs|.cnt fs=>_|.brk fs=>_|o=>o)=_;rw[e]
abbrev wdC:FS->Out Bool:=(Mc (asB (Ad gLt (Ab 2) (Ah Bd (Ac (Ab 0) Ai)))) (asB (Ad (Dq false) (Ad A1 (Ab 0) (fz (Ab 2))) (gc (.str ("abcdefghijklmnopqrstuvwxyz":Str))))))
theorem HZ{z:Str}(hz:(cds z).length<=1000){x1:Option Sl}:∀(k e:Nat),(((cds z).drop e).takeWhile isL).length<k->BG wdC (Ay 2 (Ad Ao (Ab 2) (gc (.int 1)))) k [vl (.str z),x1,iv e]=.nx [vl (.str z),x1,iv ((e+(((cds z).drop e).takeWhile isL).length:Nat):Int)]
 |0,_,h=>by lia
 |k+1,e,h=>by
  have el:Ah Bd (Ac (Ab 0) Ai) [vl (.str z),x1,iv e]=.ok (.t (.int z.length)) [vl (.str z),x1,iv e]:=len_str rfl (by rw[AR];exact hz);have c1:asB (Ad gLt (Ab 2) (Ah Bd (Ac (Ab 0) Ai))) [vl (.str z),x1,iv e]=.ok (decide ((e:Int)<z.length)) [vl (.str z),x1,iv e]:=Bn (Ae (Aa rfl) el rfl);have hl:=AR z;cases hd:(cds z).drop e with
  |nil =>have:(cds z).length<=e:=List.drop_eq_nil_iff.mp hd;rw[qv (by lia)]at c1;rw[FD (XH c1)];rfl
  |cons c cs =>
   have hc:(cds z)[e]?=some c:=by rw[<- List.head?_drop,hd];rfl
   have bc:e<(cds z).length:=by
    rcases Nat.lt_or_ge e (cds z).length with q|q
    .exact q
    .rw[rq q]at hc;cases hc
   rw[qE (by lia)]at c1;have c2:asB (Ad (Dq false) (Ad A1 (Ab 0) (fz (Ab 2))) (gc (.str ("abcdefghijklmnopqrstuvwxyz":Str)))) [vl (.str z),x1,iv e]=.ok (isL c) [vl (.str z),x1,iv e] :=
    Bn (Ae (Ae (Aa rfl) (Au (Aa rfl)) (ixS hz hc)) Al Ry)
   have cc:=OK c1 c2;rw[Bool.true_and]at cc;have hn:(cds z).drop (e+1)=cs:=by rw[<- sJ,hd];rfl
   rw[hd]at h;cases hb:isL c with|false =>rw[hb]at cc;rw[FD cc,List.takeWhile_cons_of_neg (by rw[hb];simp)];rfl|true =>rw[hb]at cc;rw[List.takeWhile_cons_of_pos hb]at h ⊢;have ih:=HZ hz (x1:=x1) k (e+1) (by rw[hn];simp at h;lia);rw[hn]at ih;rw[J9 (aj:=[vl (.str z),x1,iv ((e+1:Nat):Int)]) cc (AF (Ae (Aa rfl) Al A0) rfl),ih,qD,show e+1+(cs.takeWhile isL).length=e+((cs.takeWhile isL).length+1) by lia]
theorem Jt(p:Nat->Bool):∀l:List Nat,l.take (l.takeWhile p).length=l.takeWhile p
 | []=>rfl
 |c::l=>by
  rw[List.takeWhile_cons];split
  .simp[Jt p l]
  .rfl
theorem Mp(p:Nat->Bool):∀l:List Nat,l.drop (l.takeWhile p).length=l.dropWhile p
 | []=>rfl
 |c::l=>by
  rw[List.takeWhile_cons,List.dropWhile_cons];split
  .simp[Mp p l]
  .rfl
theorem UT(p:Nat->Bool)(l:List Nat):(l.takeWhile p).length<=l.length:=by
 rw[<- Jt];simp
 lia
theorem word{z:Str}{i:Nat}(hz:(cds z).length<=900)(hi:i<=(cds z).length):Gh [vl (.str z),iv i]=.ok (.t (.str (mkS (((cds z).drop i).takeWhile isL)))) [vl (.str z),iv i]:=by have h1:=UT isL ((cds z).drop i);rw[rB]at h1;have lp:=HZ (z:=z) (x1:=iv i) (by lia) 1000 i (by lia);have e:=sl2 (f:=Ab 0) (g:=Ab 1) (h:=Ab 2) (fs:=[vl (.str z),iv i,iv ((i+(((cds z).drop i).takeWhile isL).length:Nat):Int)]) (Aa rfl) (Aa rfl) (Aa rfl) (tJ _ _) hi (by lia);rw[tD,Jt]at e;exact(CG (n:=1) (g:=OF) (args:=[vl (.str z),iv i]) (sq (AF (Au (Aa rfl)) rfl) (sq lp (AK e)))).trans rfl
abbrev Rd9:=Option (E×List Nat)
noncomputable def rl(R:List Nat->Rd9):Nat->List E->List Nat->Option (List E×List Nat)
 |0,_,_=>none
 |k+1,ao,cs=>match R cs with|none=>none|some (e,r)=>if r.take 2=[44,32]then rl R k (ao++[e]) (r.drop 2)else some (ao++[e],r)
noncomputable def rp(R:List Nat->Rd9)(cs:List Nat):Option (List E×List Nat):=if cs.take 1=[41]then some ([],cs)else rl R 1000 [] cs
noncomputable def rd(f:Str->Bool):Nat->List Nat->Rd9
 |0,_=>none
 |n+1,cs=>if cs.takeWhile isL=[]\/12<(cs.takeWhile isL).length then none
  else if(cs.dropWhile isL).take 1=[40]then match rp (rd f n) ((cs.dropWhile isL).drop 1)with|none=>none|some (es,r)=>if r.take 1=[41]then some (.pt (f (mkS (cs.takeWhile isL))) (mkS (cs.takeWhile isL)) es,r.drop 1)else none
  else some (.nm (mkS (cs.takeWhile isL)),cs.dropWhile isL)
theorem GZ(b:Bool)(s:Str)(es:List E):cds (E.pt b s es).tx=cds s++40::(inter [44,32] (es.map λe=>cds e.tx)++[41]):=by simp only[E.tx,E.EH];rw[AO,AO,AO,Ft,p1,p2,p3,rm];simp;rfl
def Snd(f:Str->Bool)(cs:List Nat)(e:E)(r:List Nat):Prop:=e.al Lw/\e.re f=e/\cs=cds e.tx++r
theorem tk1{r:List Nat}{c:Nat}(h:r.take 1=[c]):r=c::r.drop 1:=by cases r with|nil=>cases h|cons a r=>simp at h;simp[h]
theorem tk2{r:List Nat}{a b:Nat}(h:r.take 2=[a,b]):r=a::b::r.drop 2:=by match r,h with|x::y::r,h=>simp at h;simp[h]| [x],h=>simp at h| [],h=>cases h
theorem QX:∀(l:List Nat)(c:Nat),c∈l.takeWhile isL->isL c=true
 | [],c,h=>nomatch h
 |a::l,c,h=>by
  rw[List.takeWhile_cons]at h;split at h
  .rename_i q;rcases qK.mp h with rfl|h
   .exact q
   .exact QX l c h
  .cases h
theorem Q2{f:Str->Bool}{R:List Nat->Rd9}(hR:∀cs e r,R cs=some (e,r)->Snd f cs e r):∀(k:Nat)(ao:List E)(cs:List Nat)(es:List E)(r:List Nat),rl R k ao cs=some (es,r) ->
  ∃e cg,es=ao++e::cg/\E.als Lw (e::cg)/\E.res f (e::cg)=e::cg/\cs=inter [44,32] ((e::cg).map λe=>cds e.tx)++r
 |0,_,_,_,_,h=>by cases h
 |k+1,ao,cs,es,r,h=>by
  rw[rl]at h;split at h
  .cases h
  .rename_i e r' hr;obtain⟨h1,h2,h3⟩:=hR _ _ _ hr;split at h
   next h4=>obtain⟨e2,ny,g1,g2,g3,g4⟩:=Q2 hR k _ _ _ _ h;refine⟨e,e2::ny,by rw[g1];simp,by simp only[E.als]at g2 ⊢;exact⟨h1,g2⟩,by simp only[E.res]at g3 ⊢;rw[h2,g3],?_⟩;rw[qm,B6,qm,rH,h3];rw[qm,B6]at g4;have:=tk2 h4;rw[g4]at this;rw[this];simp
   .cases h;exact⟨e,[],rfl,by simp only[E.als];exact⟨h1,trivial⟩,by simp only[E.res];rw[h2],by simpa[inter]using h3⟩
theorem MI(f:Str->Bool):∀(n:Nat)(cs:List Nat)(e:E)(r:List Nat),rd f n cs=some (e,r)->Snd f cs e r
 |0,_,_,_,h=>by cases h
 |n+1,cs,e,r,h=>by
  rw[rd]at h;split at h
  .cases h
  rename_i h0;have hw:Lw (mkS (cs.takeWhile isL)):=⟨by
   show 1<=(cs.takeWhile isL).toArray.toList.length;rw[List.toList_toArray];exact sF λz=>h0 (.inl (rn z)),by
   show(cs.takeWhile isL).toArray.toList.length<=12;rw[List.toList_toArray]
   lia,λc hc=>by
   have hc:c∈cs.takeWhile isL:=by simpa using hc
   have:=QX cs c hc;rw[IL]at this;exact qW this⟩
  have hs:=List.takeWhile_append_dropWhile (p:=isL) (l:=cs);split at h
  .rename_i h1;have e1:=tk1 h1;split at h
   .cases h
   .rename_i es r' hp;split at h
    .rename_i h2;cases h;have e2:=tk1 h2;unfold rp at hp;split at hp
     .cases hp;refine⟨by simp only[E.al,E.als];exact⟨hw,trivial⟩,by simp only[E.re,E.res],?_⟩;rw[GZ,<- hs]
      conv=>lhs;rw[e1,e2]
      simp[inter,mkS,cds,hs]
     .obtain⟨e3,pS,g1,g2,g3,g4⟩:=Q2 (MI f n) _ _ _ _ _ hp;rw[qV]at g1;subst g1;refine⟨by simp only[E.al];exact⟨hw,g2⟩,by simp only[E.re];rw[g3],?_⟩;rw[GZ]
      conv=>lhs;rw[<- hs,e1,g4,e2]
      simp[mkS,cds]
    .cases h
  .cases h;exact⟨by simpa only[E.al]using hw,by simp only[E.re],by simp only[E.tx];simp[mkS,cds,hs]⟩
def Stp(r:List Nat):Prop:=∀c x,r=c::x->isL c=false/\c≠40
theorem Mo{s:Str}(h:Lw s){r:List Nat}(hr:∀c x,r=c::x->isL c=false):(cds s++r).takeWhile isL=cds s/\(cds s++r).dropWhile isL=r:=by
 have h1:∀c∈cds s,isL c=true:=λc hc=>by rw[IL];exact qE (h.al c hc)
 rw[List.takeWhile_append_of_pos h1,List.dropWhile_append_of_pos h1];cases r with|nil=>simp|cons c x=>rw[List.takeWhile_cons_of_neg (by rw[hr c x rfl];simp),List.dropWhile_cons_of_neg (by rw[hr c x rfl];simp)];simp
theorem US{e:E}(h:e.al Lw):∃c x,cds e.tx=c::x/\isL c=true:=by
 have key:∀{s:Str},Lw s->∃c x,cds s=c::x/\isL c=true:=λ{s} h=>by cases hs:cds s with|nil=>have:=h.lo;rw[hs]at this;simp at this|cons c x=>exact⟨c,x,rfl,by rw[IL];exact qE (h.al c (by rw[hs];simp))⟩
 cases e with|nm s=>simp only[E.al]at h;simpa only[E.tx]using key h|pt b s es =>simp only[E.al]at h;obtain⟨c,x,h1,h2⟩:=key h.1;rw[GZ,h1];exact⟨c,_,rfl,h2⟩
theorem Q3{f:Str->Bool}{R:List Nat->Rd9}{N:Nat}(hR:∀e:E,e.al Lw->∀r,Stp r->(cds e.tx).count 40<N->(cds e.tx).length<=900->R (cds e.tx++r)=some (e.re f,r)){x:List Nat} :
  ∀(es:List E)(e:E)(k:Nat)(ao:List E),es.length<k->E.als Lw (e::es)->(inter [44,32] ((e::es).map λe=>cds e.tx)).count 40<N->(inter [44,32] ((e::es).map λe=>cds e.tx)).length<=900 ->
  rl R k ao (inter [44,32] ((e::es).map λe=>cds e.tx)++41::x)=some (ao++E.res f (e::es),41::x)
 |_,_,0,_,h,_,_,_=>by lia
 | [],e,k+1,ao,h,hw,hc,hl=>by simp only[E.als]at hw;simp only[qm,sE,inter]at hc hl ⊢;rw[rl,hR e hw.1 (41::x) (λc y q=>by cases q;decide +kernel) hc hl];simp[E.res]
 |e2::es,e,k+1,ao,h,hw,hc,hl=>by simp only[E.als]at hw;have e1:inter [44,32] ((e::e2::es).map λe=>cds e.tx)=cds e.tx++[44,32]++inter [44,32] ((e2::es).map λe=>cds e.tx):=rfl;rw[e1]at hc hl ⊢;rw[rj,rj]at hc;rw[qA,qA]at hl;have ih:=Q3 hR (x:=x) es e2 k (ao++[e.re f]) (by simp at h;lia) (by simp only[E.als];exact hw.2) (by lia) (by lia);rw[qT,qT,rl,hR e hw.1 _ (λc y q=>by cases q;decide +kernel) (by lia) (by lia)];simp only[qY,qV,List.take_succ_cons,List.take_zero,List.drop_succ_cons,List.drop_zero,if_true];rw[ih];simp[E.res]
theorem Kk(f:Str->Bool):∀(n:Nat)(e:E),e.al Lw->∀r,Stp r->(cds e.tx).count 40<n->(cds e.tx).length<=900->rd f n (cds e.tx++r)=some (e.re f,r)
 |0,_,_,_,_,h,_=>by lia
 |n+1,.nm s,hw,r,hr,hc,hl=>by
  simp only[E.al]at hw;simp only[E.tx,E.re];obtain⟨h1,h2⟩:=Mo hw λc x q=>(hr c x q).1
  rw[rd,h1,h2,if_neg (by have h3:=hw.lo;have h4:=hw.hi;rintro(q|q);rw[q]at h3;simp at h3;lia),if_neg (λq=>(hr 40 _ (tk1 q)).2 rfl)]
 |n+1,.pt b s es,hw,r,hr,hc,hl=>by
  simp only[E.al]at hw;rw[GZ]at hc hl ⊢;rw[rj,sT,rj]at hc;rw[qA,qD,qA]at hl;simp only[E.re];rw[qT,qY,qT];obtain⟨h1,h2⟩:=Mo hw.1 (r:=40::(inter [44,32] (es.map λe=>cds e.tx)++([41]++r))) (λc x q=>by cases q;decide +kernel);rw[rd,h1,h2,if_neg (by have h3:=hw.1.lo;have h4:=hw.1.hi;rintro(q|q);rw[q]at h3;simp at h3;lia),if_pos (by rfl)];have hp:rp (rd f n) (inter [44,32] (es.map λe=>cds e.tx)++41::r)=some (E.res f es,41::r):=by
   unfold rp;cases es with
   |nil=>simp[inter,E.res]
   |cons e es =>
    have q:=hw.2;simp only[E.als]at q;obtain⟨c,x,g1,g2⟩:=US q.1;have iu:es.length<1000:=by
     have:es.length<=(inter [44,32] ((e::es).map λe=>cds e.tx)).length:=by
      rw[qm,B6,qA,List.length_flatMap];have:∀es:List E,es.length<=((es.map λe=>cds e.tx).map λb=>([44,32]++b).length).sum:=λes=>by induction es with|nil=>simp|cons a es ih=>simp at ih ⊢;lia
      have:=this es
      lia
     lia
    rw[if_neg (by rw[qm,B6,g1];intro q;simp at q;rw[q]at g2;revert g2;decide +kernel),Q3 (Kk f n) es e 1000 [] iu hw.2 (by lia) (by lia)];rfl
  show(match rp (rd f n) (inter [44,32] (es.map λe=>cds e.tx)++41::r)with|none=>_|some (es,r)=>_)=_;rw[hp];simp[mkS,cds]
noncomputable def ldT(z:Str):Rd9->T
 |none=>.l
 |some (e,r)=>.tup [e.t,.int (((cds z).length-r.length:Nat):Int)]
section
variable{Mk:List Str}{z:Str}{w:Str}{n:Nat}{rec:FS->Out Rv}{R:List Nat->Rd9}
abbrev rS(Mk:List Str)(z:Str)(i:Nat)(w:Str)(es:List E)(x5:Option Sl):FS:=[vl (.lst (Mk.map T.str)),vl (.str z),iv i,vl (.str w),some (.own (.lst (es.map E.t))),x5]
theorem XZ{fs:FS}{i k:Nat}{S:Str}(h1:fs[1]?=some (vl (.str z)))(h2:fs[2]?=some (iv i))(hi:i<=(cds z).length)(hz:(cds z).length<=900) :
  asB (Ad (gEq false) (slS (Ab 1) (AV (Ab 2)) (AV (Ad Ao (Ab 2) (gc (.int k))))) (gc (.str S))) fs=.ok (decide (((cds z).drop i).take k=cds S)) fs /\
  asB (Ad (gEq true) (slS (Ab 1) (AV (Ab 2)) (AV (Ad Ao (Ab 2) (gc (.int k))))) (gc (.str S))) fs=.ok (!decide (((cds z).drop i).take k=cds S)) fs:=by
 have e:=sl2 (f:=Ab 1) (g:=Ab 2) (h:=Ad Ao (Ab 2) (gc (.int k))) (fs:=fs) (z:=z) (i:=i) (j:=i+k) (Aa h1) (Aa h2) (Ae (Aa h2) Al A0) (tJ _ _) hi (by lia);rw[tD]at e;have q:decide (mkS (((cds z).drop i).take k)=S)=decide (((cds z).drop i).take k=cds S):=by rw[rL,decide_eq_true_iff,decide_eq_true_iff];exact Ru
 rw[<- q];exact⟨Gi e Al,Rt e Al⟩
abbrev rlC:FS->Out Bool:=(orT (asB (Ad (KQ false) (Ab 4) (As A4 Ai))) (asB (Ad (gEq false) (slS (Ab 1) (AV (Ab 2)) (AV (Ad Ao (Ab 2) (gc (.int 2))))) (gc (.str (", ":Str))))))
abbrev rlB(rec:FS->Out Rv):FS->SO:=(Av (Ay 5 (fz (Ah (Ak 3 rec) (Af (fz (Ab 0)) (Af (fz (Ab 1)) (Af (Ad Ao (Ab 2) (gc (.int 2))) Ai))))))
  (Av (ifS (asB (Ad (TH false) (Ab 5) (gc .l))) (retS (gc .l)) nxS)
  (Av (AS (AH Dc (Ab 4) (Ac (Ad A1 (Ab 5) (gc (.int 0))) Ai)))
  (Ay 2 (Ad A1 (Ab 5) (gc (.int 1)))))))
theorem Qv{i:Nat}{es:List E}{x5:Option Sl}:asB (Ad (KQ false) (Ab 4) (As A4 Ai)) (rS Mk z i w es x5)=.ok es.isEmpty (rS Mk z i w es x5):=by refine Bn (HU (CW (i:=4) rfl) (Cb (ts:=[]) AB rfl (show 0<=big by decide)) ?_);show eqB false (es.map E.t) [] _=_;unfold eqB;cases es<;>rfl
theorem KJ{i:Nat}{es:List E}{x5:Option Sl}(hi:i<=(cds z).length)(hz:(cds z).length<=900):rlC (rS Mk z i w es x5)=.ok (es.isEmpty||decide (((cds z).drop i).take 2=[44,32])) (rS Mk z i w es x5):=by have c1:=Qv (Mk:=Mk) (z:=z) (w:=w) (i:=i) (es:=es) (x5:=x5);have c2:=(XZ (fs:=rS Mk z i w es x5) (k:=2) (S:=(", ":Str)) rfl rfl hi hz).1;rw[p3]at c2;cases hb:es.isEmpty with|true=>rw[hb]at c1;exact Po c1|false=>rw[hb]at c1;exact Hx c1 c2
theorem suf{l r cs:List Nat}{i:Nat}(h:cs.drop i=l++r)(hi:i<=cs.length):r=cs.drop (cs.length-r.length)/\cs.length-r.length=i+l.length/\cs.length-r.length<=cs.length:=by
 have h1:=congrArg List.length h;rw[rB,qA]at h1;have h2:cs.length-r.length=i+l.length:=by lia
 refine⟨?_,h2,by lia⟩;rw[h2,<- sJ,h,List.drop_left]
theorem MG(hz:(cds z).length<=900)(hS:∀cs e r,R cs=some (e,r)->∃l,l≠[]/\cs=l++r)(hr:∀i:Nat,i<=(cds z).length->((cds z).drop i).count 40<n->∃τ,rec [vl (.lst (Mk.map T.str)),vl (.str z),iv i]=.ok (.t (ldT z (R ((cds z).drop i)))) τ) :
  ∀(k i:Nat)(es:List E)(x5:Option Sl),Fre x5->i+2<=(cds z).length->((cds z).drop (i+2)).count 40<n->(cds z).length-i<k->es.length+(cds z).length<=i+1000->rlC (rS Mk z i w es x5)=.ok true (rS Mk z i w es x5) ->
  match rl R k es ((cds z).drop (i+2))with|none=>∃τ,BG rlC (rlB rec) k (rS Mk z i w es x5)=.ret (.t .l) τ|some (cg,r)=>∃y5,(∃l,(cds z).drop (i+2)=l++r)/\BG rlC (rlB rec) k (rS Mk z i w es x5)=.nx (rS Mk z ((cds z).length-r.length) w cg y5)
 |0,_,_,_,_,_,_,h,_,_=>by lia
 |k+1,i,es,x5,f5,hi,hc,hk,hl,hg=>by
  obtain⟨τ,er⟩:=hr (i+2) hi hc;have s5:Ay 5 (fz (Ah (Ak 3 rec) (Af (fz (Ab 0)) (Af (fz (Ab 1)) (Af (Ad Ao (Ab 2) (gc (.int 2))) Ai))))) (rS Mk z i w es x5)=.nx (rS Mk z i w es (vl (ldT z (R ((cds z).drop (i+2)))))) :=
   AF (Ck (Ct (rs:=[.t (.lst (Mk.map T.str)),.t (.str z),.t (.int ((i+2:Nat):Int))]) (Aj (Au (Aa rfl)) (Aj (Au (Aa rfl)) (Aj (Ae (Aa rfl) Al A0) AB))) rfl rfl er)) (AY rfl f5)
  rw[rl];cases hR:R ((cds z).drop (i+2))with
  |none =>rw[hR]at s5;exact⟨_,Ml hg (sq s5 (Bp (BH (Bn (Ae (Aa rfl) Al rfl)) (AK Al))))⟩
  |some er2 =>
   obtain⟨e,r⟩:=er2;rw[hR]at s5;obtain⟨l,jW,iw⟩:=hS _ _ _ hR;obtain⟨q1,q2,q3⟩:=suf iw hi;have pX:1<=l.length:=sF λq=>jW (rn q)
   generalize hp:(cds z).length-r.length=p at q1 q2 q3;have s2:rlB rec (rS Mk z i w es x5)=.nx (rS Mk z p w (es++[e]) (vl (.tup [e.t,.int (p:Int)]))):=by
    have e5:ldT z (some (e,r))=.tup [e.t,.int (p:Int)]:=by rw[<- hp];rfl
    rw[e5]at s5;refine sq s5 (sq (AU (Bn (Ae (Aa rfl) Al rfl)) rfl) (sq (aj:=rS Mk z i w (es++[e]) (vl (.tup [e.t,.int (p:Int)]))) (Jo (i:=4) (ts:=es.map E.t) (t:=e.t) rfl (GD (i:=0) (Aa rfl) rfl) (by show _<1000000;rw[qw];lia) ?_) (AF (GD (i:=1) (Aa rfl) rfl) rfl)));show [_,_,_,_,_,_]=[_,_,_,_,_,_];rw[qF (l₁:=es)];rfl
   rw[J9 hg s2];have g:=KJ (Mk:=Mk) (z:=z) (w:=w) (i:=p) (es:=es++[e]) (x5:=vl (.tup [e.t,.int (p:Int)])) q3 hz;rw[<- q1,show(es++[e]).isEmpty=false by cases es<;>rfl,Bool.false_or]at g;show match(if r.take 2=[44,32]then rl R k (es++[e]) (r.drop 2)else some (es++[e],r))with|none=>_|some (cg,r)=>_
   by_cases h2:r.take 2=[44,32]
   .rw[if_pos h2];rw[qE h2]at g;have e2:=tk2 h2;have p0:r.length<=(cds z).length:=by
     have:=congrArg List.length iw;rw[rB,qA]at this
     lia
    have pZ:2<=r.length:=by rw[e2];simp
    have ed:r.drop 2=(cds z).drop (p+2):=by rw[<- sJ,<- q1]
    have ih:=MG hz hS hr k p (es++[e]) (vl (.tup [e.t,.int (p:Int)])) AG (by lia) (by
     rw[<- ed];have h3:r.count 40<=((cds z).drop (i+2)).count 40:=by rw[iw,rj];lia
     have h4:(r.drop 2).count 40<=r.count 40:=(List.drop_sublist 2 r).count_le 40
     lia) (by lia) (by rw[qA];show _+1+_<=_;lia) g
    rw[<- ed]at ih;cases hq:rl R k (es++[e]) (r.drop 2)with|none=>rw[hq]at ih;exact ih|some er3 =>obtain⟨cg,r'⟩:=er3;rw[hq]at ih;obtain⟨y5,⟨l',gO⟩,h⟩:=ih;refine⟨y5,⟨l++44::32::l',?_⟩,h⟩;rw[iw,e2,gO];simp
   .rw[if_neg h2];rw[qv h2]at g;refine⟨vl (.tup [e.t,.int (p:Int)]),⟨l,iw⟩,?_⟩;obtain⟨k',rfl⟩:∃k',k=k'+1:=⟨k-1,by lia⟩
    rw[FD g,hp]
theorem read(hz:(cds z).length<=900):∀(n i:Nat),i<=(cds z).length->((cds z).drop i).count 40<n->∃τ,BC n [vl (.lst (Mk.map T.str)),vl (.str z),iv i]=.ok (.t (ldT z (rd (λs=>decide (s∈Mk)) n ((cds z).drop i)))) τ
 |0,_,_,h=>by lia
 |n+1,i,hi,hc=>by
  have run:∀{t:T}{τ:FS},Gw (BC n) [vl (.lst (Mk.map T.str)),vl (.str z),iv i,none,none,none]=.ret (.t t) τ->∃τ,BC (n+1) [vl (.lst (Mk.map T.str)),vl (.str z),iv i]=.ok (.t t) τ:=λh=>⟨_,CG (n:=3) (g:=Gw (BC n)) (args:=[vl (.lst (Mk.map T.str)),vl (.str z),iv i]) h⟩
  obtain⟨W,hW⟩:∃W,((cds z).drop i).takeWhile isL=W:=⟨_,rfl⟩
  have s3:Ay 3 (fz (Ah (Ak 2 Gh) (Af (fz (Ab 1)) (Af (fz (Ab 2)) Ai)))) [vl (.lst (Mk.map T.str)),vl (.str z),iv i,none,none,none]=.nx [vl (.lst (Mk.map T.str)),vl (.str z),iv i,vl (.str (mkS W)),none,none] :=
   AF (Ck (Ct (rs:=[.t (.str z),.t (.int i)]) (Aj (Au (Aa rfl)) (Aj (Au (Aa rfl)) AB)) rfl rfl (word hz hi))) (by rw[hW];rfl)
  have nV:=UT isL ((cds z).drop i);have hD:=Mp isL ((cds z).drop i);have hA:=List.takeWhile_append_dropWhile (p:=isL) (l:=(cds z).drop i);rw[hW,rB]at nV;rw[hW]at hD hA;rw[sJ]at hD;have el:∀{fs:FS},fs[3]?=some (vl (.str (mkS W)))->Ah Bd (Ac (Ab 3) Ai) fs=.ok (.t (.int (W.length:Int))) fs:=λ{fs} h=>by have:=len_str h (by show W.toArray.size<=1000;rw[qz];lia);rw[this,AR]
  have c1:asB (Ad (gEq false) (Ab 3) (gc (.str ("":Str)))) [vl (.lst (Mk.map T.str)),vl (.str z),iv i,vl (.str (mkS W)),none,none]=.ok (decide (W=[])) [vl (.lst (Mk.map T.str)),vl (.str z),iv i,vl (.str (mkS W)),none,none]:=by have:=Gi (fa:=Ab 3) (fb:=gc (.str ("":Str))) (fs:=[vl (.lst (Mk.map T.str)),vl (.str z),iv i,vl (.str (mkS W)),none,none]) (x:=mkS W) (Aa rfl) Al;rw[this];congr 1;rw[rL,decide_eq_true_iff,decide_eq_true_iff,Ru,show(("":Str)=CQ)from De]
  have c2:asB (Ad gGt (Ah Bd (Ac (Ab 3) Ai)) (gc (.int 12))) [vl (.lst (Mk.map T.str)),vl (.str z),iv i,vl (.str (mkS W)),none,none]=.ok (decide ((12:Int)<W.length)) [vl (.lst (Mk.map T.str)),vl (.str z),iv i,vl (.str (mkS W)),none,none]:=Bn (Ae (el rfl) Al rfl);rw[rd,hW];by_cases h0:W=[]\/12<W.length
  .rw[if_pos h0];refine run (sq s3 (Bp (BH ?_ (AK Al))));by_cases h1:W=[]
   .rw[qE h1]at c1;exact Po c1
   .rw[qv h1]at c1;rw[qE (show(12:Int)<W.length by have:=h0.resolve_left h1;lia)]at c2;exact Hx c1 c2
  .rw[if_neg h0];have h1:¬W=[]:=λq=>h0 (.inl q)
   have h2:W.length<=12:=Nat.le_of_not_lt λq=>h0 (.inr q)
   have h3:1<=W.length:=sF λq=>h1 (rn q)
   rw[qv h1]at c1;rw[qv (show ¬(12:Int)<W.length by lia)]at c2;obtain⟨p,hp⟩:∃p,i+W.length=p:=⟨_,rfl⟩
   have s2:Ay 2 (Ad Ao (Ab 2) (Ah Bd (Ac (Ab 3) Ai))) [vl (.lst (Mk.map T.str)),vl (.str z),iv i,vl (.str (mkS W)),none,none]=.nx [vl (.lst (Mk.map T.str)),vl (.str z),iv p,vl (.str (mkS W)),none,none]:=by rw[<- hp];exact AF (Ae (Aa rfl) (el rfl) A0) rfl
   rw[hp]at hD;rw[<- hD];have az:p<=(cds z).length:=by lia
   have c3:=(XZ (fs:=[vl (.lst (Mk.map T.str)),vl (.str z),iv p,vl (.str (mkS W)),none,none]) (k:=1) (S:=("(":Str)) rfl rfl az hz).2;rw[p1]at c3;by_cases h4:((cds z).drop p).take 1=[40]
   .rw[if_pos h4];rw[qE h4]at c3;have e4:=tk1 h4;rw[sJ]at e4 ⊢;have ll:p+1<=(cds z).length:=by
     have:=congrArg List.length e4;rw[qD,rB,rB]at this
     lia
    have cj:((cds z).drop (p+1)).count 40<n:=by
     rw[<- hA,<- hD,rj,e4,sT]at hc
     lia
    have pH:Ay 2 (Ad Ao (Ab 2) (gc (.int 1))) (rS Mk z p (mkS W) [] none)=.nx (rS Mk z (p+1) (mkS W) [] none):=AF (Ae (Aa rfl) Al A0) rfl;have c5:=(XZ (fs:=rS Mk z (p+1) (mkS W) [] none) (k:=1) (S:=(")":Str)) rfl rfl ll hz).2;rw[p2]at c5;have mid:match rp (rd (λs=>decide (s∈Mk)) n) ((cds z).drop (p+1))with
     |none=>∃τ,ifS (asB (Ad (gEq true) (slS (Ab 1) (AV (Ab 2)) (AV (Ad Ao (Ab 2) (gc (.int 1))))) (gc (.str (")":Str))))) (Av (Ay 2 (Ad EU (Ab 2) (gc (.int 2)))) (BG rlC (rlB (BC n)) 1000)) nxS (rS Mk z (p+1) (mkS W) [] none)=.ret (.t .l) τ
     |some (es,r)=>∃y5,(∃l,(cds z).drop (p+1)=l++r)/\ifS (asB (Ad (gEq true) (slS (Ab 1) (AV (Ab 2)) (AV (Ad Ao (Ab 2) (gc (.int 1))))) (gc (.str (")":Str))))) (Av (Ay 2 (Ad EU (Ab 2) (gc (.int 2)))) (BG rlC (rlB (BC n)) 1000)) nxS (rS Mk z (p+1) (mkS W) [] none)=.nx (rS Mk z ((cds z).length-r.length) (mkS W) es y5):=by
     unfold rp;by_cases h5:((cds z).drop (p+1)).take 1=[41]
     .rw[if_pos h5];rw[qE h5]at c5;refine⟨none,⟨[],rfl⟩,AU c5 ?_⟩;rw[rB,show(cds z).length-((cds z).length-(p+1))=p+1 by lia];rfl
     .rw[if_neg h5];rw[qv h5]at c5;obtain⟨j,hj⟩:∃j,p=j+1:=⟨p-1,by lia⟩
      have sm:Ay 2 (Ad EU (Ab 2) (gc (.int 2))) (rS Mk z (p+1) (mkS W) [] none)=.nx (rS Mk z j (mkS W) [] none):=by refine AF (Ae (Aa rfl) Al RF) ?_;rw[show((p+1:Nat):Int)-2=(j:Int) by lia];rfl
      have lp:=MG (Mk:=Mk) (w:=mkS W) (n:=n) (rec:=BC n) (R:=rd (λs=>decide (s∈Mk)) n) hz (λcs e r q=>by obtain⟨g1,_,g3⟩:=MI _ _ _ _ _ q;obtain⟨c,x,g4,_⟩:=US g1;exact⟨_,by rw[g4];simp,g3⟩) (λi hi hc=>read hz n i hi hc) 1000 j [] none Ar (by lia) (by rw[show j+2=p+1 by lia];exact cj) (by lia) (by rw[r8];lia) (KJ (by lia) hz);rw[show j+2=p+1 by lia]at lp;cases hq:rl (rd (λs=>decide (s∈Mk)) n) 1000 [] ((cds z).drop (p+1))with|none =>rw[hq]at lp;obtain⟨τ,lp⟩:=lp;exact⟨τ,BH c5 (sq sm lp)⟩|some er =>obtain⟨es,r⟩:=er;rw[hq]at lp;obtain⟨y5,l,lp⟩:=lp;exact⟨y5,l,BH c5 (sq sm lp)⟩
    have pre:∀{r:SO},(Av (ifS (asB (Ad (gEq true) (slS (Ab 1) (AV (Ab 2)) (AV (Ad Ao (Ab 2) (gc (.int 1))))) (gc (.str (")":Str))))) (Av (Ay 2 (Ad EU (Ab 2) (gc (.int 2)))) (BG rlC (rlB (BC n)) 1000)) nxS)
      (Av (ifS (asB (Ad (gEq true) (slS (Ab 1) (AV (Ab 2)) (AV (Ad Ao (Ab 2) (gc (.int 1))))) (gc (.str (")":Str))))) (retS (gc .l)) nxS)
      (retS (As Ba (Ac (As Ba (Ac (Ad A1 (As A4 (Ac (gc (.str ("call":Str))) (Ac (gc (.str ("make":Str))) Ai))) (Ah EV (Ac (Ad (Dq false) (fz (Ab 3)) (Ab 0)) Ai))) (Ac (fz (Ab 3)) (Ac (Ah BK (Ac (Ab 4) Ai)) Ai)))) (Ac (Ad Ao (Ab 2) (gc (.int 1))) Ai)))))) (rS Mk z (p+1) (mkS W) [] none)=r->Gw (BC n) [vl (.lst (Mk.map T.str)),vl (.str z),iv i,none,none,none]=r:=λh =>
     sq s3 (sq (AU (Hx c1 c2) rfl) (sq s2 (sq (AU c3 rfl) (sq (aj:=rS Mk z p (mkS W) [] none) (Hk (o:=.lst []) rfl rfl) (sq pH h)))))
    cases hq:rp (rd (λs=>decide (s∈Mk)) n) ((cds z).drop (p+1))with
    |none =>rw[hq]at mid;obtain⟨τ,mid⟩:=mid;exact run (pre (Bp mid))
    |some er =>
     obtain⟨es,r⟩:=er;rw[hq]at mid;obtain⟨y5,⟨l,hl⟩,mid⟩:=mid;obtain⟨q1,q2,q3⟩:=suf hl ll;generalize hu:(cds z).length-r.length=u at q1 q2 q3 mid;have c6:=(XZ (fs:=rS Mk z u (mkS W) es y5) (k:=1) (S:=(")":Str)) rfl rfl q3 hz).2;rw[p2,<- q1]at c6;show ∃τ,BC (n+1) [vl (.lst (Mk.map T.str)),vl (.str z),iv i]=Out.ok (Rv.t (ldT z (if r.take 1=[41]then _ else _))) τ;by_cases h6:r.take 1=[41]
     .rw[if_pos h6];rw[qE h6]at c6;have e6:=tk1 h6;have hv:(cds z).length-(r.drop 1).length=u+1:=by
       have:=congrArg List.length e6;rw[qD]at this;have h8:=congrArg List.length q1;rw[rB]at h8
       lia
      refine run (τ:=rS Mk z u (mkS W) es y5) (pre (sq mid (sq (AU c6 rfl) (AK (BQ (g:=Ba) (rs:=[.t (E.pt (decide (mkS W∈Mk)) (mkS W) es).t,.t (.int ((u+1:Nat):Int))]) (ts:=[(E.pt (decide (mkS W∈Mk)) (mkS W) es).t,.int ((u+1:Nat):Int)]) (An ?_ (An (Ae (Aa rfl) Al A0) AB)) rfl (show 2<=big by decide) ?_)))))
      .rw[N7];have hb:Ad (Dq false) (fz (Ab 3)) (Ab 0) (rS Mk z u (mkS W) es y5)=.ok (.t (.o (decide (mkS W∈Mk)))) (rS Mk z u (mkS W) es y5):=Ae (Au (Aa rfl)) (Aa rfl) KH;have hx:Ad A1 (As A4 (Ac (gc (.str ("call":Str))) (Ac (gc (.str ("make":Str))) Ai))) (Ah EV (Ac (Ad (Dq false) (fz (Ab 3)) (Ab 0)) Ai)) (rS Mk z u (mkS W) es y5)=.ok (.t (.str (hd (decide (mkS W∈Mk))))) (rS Mk z u (mkS W) es y5):=by refine Ae (Cb (ts:=[.str ("call":Str),.str ("make":Str)]) (An Al (An Al AB)) rfl (show 2<=big by decide)) (Ez (g:=EV) (An hb AB) rfl) ?_;cases decide (mkS W∈Mk)<;>rfl
       have gt:Ah BK (Ac (Ab 4) Ai) (rS Mk z u (mkS W) es y5)=.ok (.t (.tup (es.map E.t))) (rS Mk z u (mkS W) es y5):=Ez (g:=BK) (rs:=[.n 4]) rfl (r:=.ok (.t (.tup (es.map E.t))) _) rfl;exact BQ (g:=Ba) (ts:=[.str (hd (decide (mkS W∈Mk))),.str (mkS W),.tup (es.map E.t)]) (An hx (An (Au (Aa rfl)) (An gt AB))) rfl (show 3<=big by decide) rfl
      .show _=Out.ok (Rv.t (T.tup [_,.int (((cds z).length-(r.drop 1).length:Nat):Int)])) _;rw[hv];rfl
     .rw[if_neg h6];rw[qv h6]at c6;exact run (pre (sq mid (Bp (BH c6 (AK Al)))))
   .rw[if_neg h4];rw[qv h4]at c3;refine run (τ:=[vl (.lst (Mk.map T.str)),vl (.str z),iv p,vl (.str (mkS W)),none,none]) (sq s3 (sq (AU (Hx c1 c2) rfl) (sq s2 (Bp (BH c3 (AK (BQ (g:=Ba) (rs:=[.t (E.nm (mkS W)).t,.t (.int (p:Int))]) (ts:=[(E.nm (mkS W)).t,.int (p:Int)]) (An ?_ (An (Au (Aa rfl)) AB)) rfl (show 2<=big by decide) ?_)))))))
    .rw[N8];exact BQ (g:=Ba) (ts:=[.str "name",.str (mkS W)]) (An Al (An (Au (Aa rfl)) AB)) rfl (show 2<=big by decide) rfl
    .show _=Out.ok (Rv.t (T.tup [_,.int (((cds z).length-((cds z).drop p).length:Nat):Int)])) _;rw[rB,show(cds z).length-((cds z).length-p)=p by lia];rfl
end
def Few(x:List Nat):Prop:=x.length<=13/\x.count 40<=2/\x.all (λc=>decide (c<16^8))=true
instance (x:List Nat):Decidable (Few x):=by unfold Few;exact inferInstance
def Spo(z s:Str):Prop:=∃x a b,Few x/\a<=b/\cds s=(cds z).take a++x++(cds z).drop b
theorem spo{z s:Str}(h:Spo z s)(hz:CH z=true)(hl:(cds z).length<=600)(hc:(cds z).count 40<=13):CH s=true/\(cds s).length<=900/\(cds s).count 40<20:=by
 obtain⟨x,a,b,⟨h1,h2,h3⟩,fJ,e⟩:=h;have e0:(cds z).take a++((cds z).drop a).drop (b-a)=(cds z).take a++(cds z).drop b:=by rw[sJ,Nat.add_sub_cancel' fJ]
 have hs:List.Sublist ((cds z).take a++(cds z).drop b) (cds z):=by
  rw[<- e0]
  conv=>rhs;rw[<- List.take_append_drop a (cds z)]
  exact(List.Sublist.refl _).append (List.drop_sublist _ _)
 have l1:=hs.length_le;have l2:=hs.count_le 40;rw[qA]at l1;rw[rj]at l2;have l3:(cds s).length<=613:=by
  rw[e,qA,qA]
  lia
 refine⟨?_,by lia,?_⟩
 .unfold CH at hz ⊢;rw[qL,rC]at hz ⊢;refine⟨qE (by rw[AR];lia),λc m=>?_⟩;have m:c∈(cds z).take a++x++(cds z).drop b:=by rw[<- e];exact m
  rcases qC.mp m with m|m
  .rcases qC.mp m with m|m
   .exact hz.2 c (sQ m)
   .exact rC.mp h3 c m
  .exact hz.2 c (List.mem_of_mem_drop m)
 .rw[e,rj,rj]
  lia
theorem Yn{f g:FS->Out Rv}{fs:FS}{z:Str}{i:Nat}(h1:f fs=.ok (.t (.str z)) fs)(h2:g fs=.ok (.t (.int i)) fs)(hi:i<=(cds z).length)(hz:(cds z).length<=1000) :
  slS f noP (AV g) fs=.ok (.t (.str (mkS ((cds z).take i)))) fs:=by
 rw[Mz (l:=noP) (lo:=none) h1 rfl (Fo h2) (by rw[AR];exact hz),beq_iff_eq.mp (PyProof.Rows.slice_closes_to (x:=z) (j:=i) ⟨by lia,Int.ofNat_le.mpr hi⟩)];rfl
theorem U9{f g:FS->Out Rv}{fs:FS}{z:Str}{i:Nat}(h1:f fs=.ok (.t (.str z)) fs)(h2:g fs=.ok (.t (.int i)) fs)(hz:(cds z).length<=1000) :
  slS f (AV g) noP fs=.ok (.t (.str (mkS ((cds z).drop i)))) fs:=by
 rw[Mz (h:=noP) (hi:=none) h1 (Fo h2) rfl (by rw[AR];exact hz)];have hl:=AR z;rcases Nat.lt_or_ge (cds z).length i with q|q
 .rw[PyProof.Rows.slice_beyond (by lia),tL (by lia)];rfl
 .rw[PyProof.Rows.slice_from_eq (b:=(z.length:Int)) (by lia) (by lia) rfl];congr 4;show(((cds z).drop (i:Int).toNat).take _).toArray=((cds z).drop i).toArray;rw[rO,tK (by rw[rB];lia)]
section
variable{z:Str}{v:Int}{a:Nat}{x5 x6 x7:Option Sl}
abbrev sS(z:Str)(v:Int)(a:Nat)(x5 x6 x7:Option Sl):FS:=[vl (.str z),iv v,iv (v%5),iv (v/5),iv a,x5,x6,x7]
theorem Ka{k:Int}:asB (Ad (gEq false) (Ab 2) (gc (.int k))) (sS z v a x5 x6 x7)=.ok (decide (v%5=k)) (sS z v a x5 x6 x7):=Gj (Aa rfl) Al
theorem ZD{f g h:FS->Out Rv}{fs:FS}{l1 l2 l3:List Nat}(h1:f fs=.ok (.t (.str (mkS l1))) fs)(h2:g fs=.ok (.t (.str (mkS l2))) fs)(h3:h fs=.ok (.t (.str (mkS l3))) fs)(hl:l1.length<=1000/\l2.length<=1000/\l3.length<=1000):Ad Ao (Ad Ao f g) h fs=.ok (.t (.str (mkS l1++mkS l2++mkS l3))) fs:=by
 have ln:∀l:List Nat,(mkS l).length=l.length:=λl=>AR (mkS l)
 refine Ae (Ae h1 h2 (DG ?_)) h3 (DG ?_)
 .rw[ln,ln];show _<=1000000;lia
 .rw[AR,AO,qA,ln];show l1.length+l2.length+_<=1000000;lia
theorem Sg(hl:(cds z).length<=600):∃s τ,Spo z s/\CF [vl (.str z),iv v]=.ok (.t (.str s)) τ:=by
 have hlen:=AR z;obtain⟨a,ha,ea⟩:∃a:Nat,a<=(cds z).length/\v/5%((z.length:Int)+1)=(a:Int):=by have h1:=rT (v/5) (show((z.length:Int)+1)≠0 by lia);have h2:=rK (v/5) (show 0<((z.length:Int)+1) by lia);exact⟨(v/5%((z.length:Int)+1)).toNat,by lia,by lia⟩
 obtain⟨k,hk,ek⟩:∃k:Nat,k<25/\v/5/7%25=(k:Int):=⟨(v/5/7%25).toNat,by lia,by lia⟩
 obtain⟨c,hc,ec⟩:∃c,Few [c]/\(cds ("(), abcxyzABZ019.;_-[]{}'":Str))[k]?=some c:=by
  have key:∀k∈List.range 25,∃c∈(cds ("(), abcxyzABZ019.;_-[]{}'":Str)),Few [c]/\(cds ("(), abcxyzABZ019.;_-[]{}'":Str))[k]?=some c:=by decide +kernel
  obtain⟨c,_,h⟩:=key k (rP.mpr hk);exact⟨c,h⟩
 have run:∀{s:Str}{τ:FS},Spo z s->E4 [vl (.str z),iv v,none,none,none,none,none,none]=.ret (.t (.str s)) τ->∃s τ,Spo z s/\CF [vl (.str z),iv v]=.ok (.t (.str s)) τ:=λ{s τ} hs h=>⟨s,_,hs,CG (n:=6) (g:=E4) (args:=[vl (.str z),iv v]) h⟩
 have s2:Ay 2 (Ad Bk (Ab 1) (gc (.int 5))) [vl (.str z),iv v,none,none,none,none,none,none]=.nx [vl (.str z),iv v,iv (v%5),none,none,none,none,none]:=AF (Ae (Aa rfl) Al (Bj (by decide))) rfl;have s3:Ay 3 (Ad CP (Ab 1) (gc (.int 5))) [vl (.str z),iv v,iv (v%5),none,none,none,none,none]=.nx [vl (.str z),iv v,iv (v%5),iv (v/5),none,none,none,none]:=AF (Ae (Aa rfl) Al (C9 ⟨by decide,by decide⟩)) rfl;have s4:Ay 4 (Ad Bk (Ab 3) (Ad Ao (Ah Bd (Ac (Ab 0) Ai)) (gc (.int 1)))) [vl (.str z),iv v,iv (v%5),iv (v/5),none,none,none,none]=.nx (sS z v a none none none) :=
  AF ((Ae (Aa rfl) (Ae (len_str rfl (by lia)) Al A0) (Bj (by lia))).trans (by rw[ea])) rfl
 have s5:Ay 5 (Ad A1 (gc (.str ("(), abcxyzABZ019.;_-[]{}'":Str))) (Ad Bk (Ad CP (Ab 3) (gc (.int 7))) (gc (.int 25)))) (sS z v a none none none)=.nx (sS z v a (vl (.str (ch c))) none none) :=
  AF (Ae Al (Ae (Ae (Aa rfl) Al (C9 ⟨by decide,by decide⟩)) Al (Bj (by decide))) (by rw[ek];exact ixS (by decide +kernel) ec)) rfl
 have pre:∀{r:SO}{g:FS->SO},g (sS z v a (vl (.str (ch c))) none none)=r->(Av (Ay 2 (Ad Bk (Ab 1) (gc (.int 5)))) (Av (Ay 3 (Ad CP (Ab 1) (gc (.int 5)))) (Av (Ay 4 (Ad Bk (Ab 3) (Ad Ao (Ah Bd (Ac (Ab 0) Ai)) (gc (.int 1))))) (Av (Ay 5 (Ad A1 (gc (.str ("(), abcxyzABZ019.;_-[]{}'":Str))) (Ad Bk (Ad CP (Ab 3) (gc (.int 7))) (gc (.int 25))))) g)))) [vl (.str z),iv v,none,none,none,none,none,none]=r:=λh=>sq s2 (sq s3 (sq s4 (sq s5 h)))
 have to:∀{x6 x7:Option Sl},slS (Ab 0) noP (AV (Ab 4)) (sS z v a (vl (.str (ch c))) x6 x7)=.ok (.t (.str (mkS ((cds z).take a)))) (sS z v a (vl (.str (ch c))) x6 x7):=λ{_ _}=>Yn (Aa rfl) (Aa rfl) ha (by lia)
 have fr:∀{x6 x7:Option Sl},slS (Ab 0) (AV (Ab 4)) noP (sS z v a (vl (.str (ch c))) x6 x7)=.ok (.t (.str (mkS ((cds z).drop a)))) (sS z v a (vl (.str (ch c))) x6 x7):=λ{_ _}=>U9 (Aa rfl) (Aa rfl) (by lia)
 have kS:∀{x6 x7:Option Sl},slS (Ab 0) (AV (Ad Ao (Ab 4) (gc (.int 1)))) noP (sS z v a (vl (.str (ch c))) x6 x7)=.ok (.t (.str (mkS ((cds z).drop (a+1))))) (sS z v a (vl (.str (ch c))) x6 x7):=λ{_ _}=>U9 (Aa rfl) (Ae (Aa rfl) Al A0) (by lia)
 have sg:∀{x6 x7:Option Sl},Ab 5 (sS z v a (vl (.str (ch c))) x6 x7)=.ok (.t (.str (mkS [c]))) (sS z v a (vl (.str (ch c))) x6 x7):=λ{_ _}=>Aa rfl
 have b1:((cds z).take a).length<=1000:=by rw[rV];lia
 have b2:∀b,((cds z).drop b).length<=1000:=λb=>by rw[rB];lia
 have w0:=Ka (z:=z) (v:=v) (a:=a) (x5:=vl (.str (ch c))) (x6:=none) (x7:=none) (k:=0);have w1:=Ka (z:=z) (v:=v) (a:=a) (x5:=vl (.str (ch c))) (x6:=none) (x7:=none) (k:=1);have w2:=Ka (z:=z) (v:=v) (a:=a) (x5:=vl (.str (ch c))) (x6:=none) (x7:=none) (k:=2);have w3:=Ka (z:=z) (v:=v) (a:=a) (x5:=vl (.str (ch c))) (x6:=none) (x7:=none) (k:=3);by_cases h0:v%5=0
 .rw[qE h0]at w0;exact run ⟨[c],a,a,hc,qH _,by rw[AO,AO]⟩ (pre (Bp (BH w0 (AK (ZD to sg fr ⟨b1,by simp,b2 _⟩)))))
 rw[qv h0]at w0;by_cases h1:v%5=1
 .rw[qE h1]at w1;refine run (s:=mkS ((cds z).take a)++mkS ((cds z).drop (a+1))) ⟨[],a,a+1,by decide,tJ _ _,by rw[AO];simp⟩ (pre (sq (AU w0 rfl) (Bp (BH w1 (AK (Ae to kS (DG ?_)))))));have:=b2 (a+1);rw[AR,AR];show((cds z).take a).length+((cds z).drop (a+1)).length<=1000000
  lia
 rw[qv h1]at w1;by_cases h2:v%5=2
 .rw[qE h2]at w2;exact run ⟨[c],a,a+1,hc,tJ _ _,by rw[AO,AO]⟩ (pre (sq (AU w0 rfl) (sq (AU w1 rfl) (Bp (BH w2 (AK (ZD to sg kS ⟨b1,by simp,b2 _⟩)))))))
 rw[qv h2]at w2;by_cases h3:v%5=3
 .rw[qE h3]at w3;obtain⟨s,hs,e⟩:=NF (L:=[", ","()","(a",")","( )","(a,b)","(a , b)","(a,  b)","a "," ","aaaaaaaaaaaaa","(,)"]) (by simp) (v/5/11);have key:∀s∈([", ","()","(a",")","( )","(a,b)","(a , b)","(a,  b)","a "," ","aaaaaaaaaaaaa","(,)"]:List Str),Few (cds s):=by decide +kernel
  have fs:=key s hs;have e':Ad A1 (Ab 6) (Ad Bk (Ad CP (Ab 3) (gc (.int 11))) (gc (.int 12))) (sS z v a (vl (.str (ch c))) (vl (.lst (([", ","()","(a",")","( )","(a,b)","(a , b)","(a,  b)","a "," ","aaaaaaaaaaaaa","(,)"]:List Str).map T.str))) none)=.ok (.t (.str (mkS (cds s)))) (sS z v a (vl (.str (ch c))) (vl (.lst (([", ","()","(a",")","( )","(a,b)","(a , b)","(a,  b)","a "," ","aaaaaaaaaaaaa","(,)"]:List Str).map T.str))) none) :=
   Ae (Aa rfl) (Ae (Ae (Aa rfl) Al (C9 ⟨by decide,by decide⟩)) Al (Bj (by decide))) (Bh rfl e)
  exact run ⟨cds s,a,a,fs,qH _,by rw[AO,AO]⟩ (pre (sq (AU w0 rfl) (sq (AU w1 rfl) (sq (AU w2 rfl) (Bp (BH w3 (sq rfl (AK (ZD to e' fr ⟨b1,qS fs.1 (by decide),b2 _⟩)))))))))
 .rw[qv h3]at w3;obtain⟨s,hs,e⟩:=NF (L:=[""," ","(",")","()","a(","a)","a()b","a b","a(b","a(b,)","a(b, )","a(, b)","A","a(b,c)","a()()"]) (by simp) (v/5);have key:∀s∈([""," ","(",")","()","a(","a)","a()b","a b","a(b","a(b,)","a(b, )","a(, b)","A","a(b,c)","a()()"]:List Str),Few (cds s):=by decide +kernel
  refine run (s:=s) ⟨cds s,0,(cds z).length,key s hs,rX _,by simp⟩ (pre (sq (AU w0 rfl) (sq (AU w1 rfl) (sq (AU w2 rfl) (sq (AU w3 rfl) (sq rfl (sq rfl (AK (Ae (x:=.lst (([""," ","(",")","()","a(","a)","a()b","a b","a(b","a(b,)","a(b, )","a(, b)","A","a(b,c)","a()()"]:List Str).map T.str)) (Aa rfl) (Ae (Aa rfl) Al (Bj (by decide))) (Bh rfl e))))))))))
end
noncomputable def pB:Nat->Nat
 |0=>0
 |d+1=>1+3*pB d
theorem IP{B:Nat}{p:Nat->Prop}(h1:p 44)(h2:p 32):∀(ys:List (List Nat)),(∀y∈ys,y.count 40<=B/\∀c∈y,p c)->(inter [44,32] ys).count 40<=ys.length*B/\∀c∈inter [44,32] ys,p c
 | [],_=>⟨by simp[inter],λc m=>nomatch m⟩
 | [a],h=>by simpa[inter]using h
 |a::b::r,h=>by
  have q:=h a (by simp);have ih:=IP h1 h2 (b::r) λy m=>h y (qt _ m)
  have e:inter [44,32] (a::b::r)=a++[44,32]++inter [44,32] (b::r):=rfl;rw[e];refine⟨?_,λc m=>?_⟩
  .rw[rj,rj,qD,tE];have:[44,32].count 40=0:=rfl
   lia
  .rcases qC.mp m with m|m
   .rcases qC.mp m with m|m
    .exact q.2 c m
    .simp at m;rcases m with rfl|rfl
     .exact h1
     .exact h2
   .exact ih.2 c m
theorem QW:∀{d:Nat}{e:E},E.ok d e->e.al Lw->(cds e.tx).count 40<=pB d/\∀c∈cds e.tx,c<16^8
 |d,.nm s,_,h=>by simp only[E.al]at h;simp only[E.tx];refine⟨?_,λc m=>Nat.lt_of_le_of_lt (h.al c m).2 (by decide)⟩;rw[List.count_eq_zero.mpr λm=>absurd (h.al _ m).1 (by decide)];exact rX _
 |0,.pt h s es,ok,_=>by simp[E.ok]at ok
 |d+1,.pt h s es,ok,hw=>by
  simp only[E.ok]at ok;simp only[E.al]at hw;have q:=IP (B:=pB d) (p:=λc=>c<16^8) (by decide) (by decide) (es.map λe=>cds e.tx) (λy m=>by obtain⟨e,me,rfl⟩:=rh.mp m;exact QW (E.FU ok.2 e me) (E.Gy hw.2 e me));rw[qw]at q;have h3:es.length*pB d<=3*pB d:=sP _ ok.1;have h0:(cds s).count 40=0:=List.count_eq_zero.mpr λm=>absurd (hw.1.al _ m).1 (by decide)
  rw[GZ];refine⟨?_,λc m=>?_⟩
  .rw[rj,sT,rj,h0];have:[41].count 40=0:=rfl;simp only[pB]
   lia
  .rcases qC.mp m with m|m
   .exact Nat.lt_of_le_of_lt (hw.1.al c m).2 (by decide)
   .rcases qK.mp m with rfl|m
    .decide
    .rcases qC.mp m with m|m
     .exact q.2 c m
     .simp at m;rw[m];decide
theorem MY(s:Str):(pcs s).length<=(cds s).length:=by
 rw[<- HN s];have key:∀P:List Str,(∀p∈P,p≠CQ)->P.length<=(flat P).length:=λP=>by
  induction P with
  |nil=>exact λ_=>qH _
  |cons p P ih =>
   intro h;have h1:=ih λq m=>h q (qt _ m)
   have h2:1<=(cds p).length:=sF λq=>h p (by simp) (D6 (rn q))
   show P.length+1<=(cds p++flat P).length;rw[qA]
   lia
 refine key _ λp m=>?_
 unfold pcs cln at m;simpa using (List.mem_filter.mp m).2
theorem Rk{e:E}(h:e.al Lw):pcs e.tx=e.tk:=by obtain⟨P,w,g1,g2⟩:=Yu e h [];unfold pcs;rw[g1,g2];rfl
theorem Et{f:T->T->Option Bool}:∀{ts:List T},(∀t∈ts,f t t=some true)->Jq f ts ts=some true
 | [],_=>rfl
 |t::ts,h=>by rw[Jq,h t (by simp),rA,Et λu m=>h u (qt _ m)];rfl
theorem K6{e:E}:∀{es:List E},e∈es->(cds e.tx).count 40<=(inter [44,32] (es.map λe=>cds e.tx)).count 40
 | [a],m=>by rw[qQ.mp m];exact qH _
 |a::b::r,m=>by
  have e:inter [44,32] ((a::b::r).map λe=>cds e.tx)=cds a.tx++[44,32]++inter [44,32] ((b::r).map λe=>cds e.tx):=rfl;rw[e,rj,rj];rcases qK.mp m with rfl|m
  .lia
  .have:=K6 m
   lia
theorem N9:∀(n:Nat)(e:E)(m:Nat),(cds e.tx).count 40<n->2*n<=m->eqT m e.t e.t=some true
 |0,_,_,h,_=>by lia
 |n+1,e,m,h,hm=>by
  obtain⟨k,rfl⟩:∃k,m=k+2:=⟨m-2,by lia⟩
  have str:∀(j:Nat)(s:Str),eqT j (.str s) (.str s)=some true:=λj s=>by rw[Uh];simp
  cases e with
  |nm s =>rw[N8,HP,Et λt m=>by simp at m;rcases m with rfl|rfl<;>exact str _ _];rfl
  |pt b s es =>
   rw[GZ,rj,sT,rj]at h;have h3:eqT (k+1) (.tup (es.map E.t)) (.tup (es.map E.t))=some true:=by rw[HP,Et λt m=>by obtain⟨x,mx,rfl⟩:=rh.mp m;have:=K6 mx;exact N9 n x k (by lia) (by lia)];simp
   rw[N7,HP,Et λt m=>by
    simp at m;rcases m with rfl|rfl|rfl
    .exact str _ _
    .exact str _ _
    .exact h3]
   rfl
theorem eqE{neg:Bool}{e:E}(h:(cds e.tx).count 40<20){fs:FS}:KQ neg (.t e.t) (.t e.t) fs=.ok (.t (.o (!neg))) fs:=by
 obtain⟨xs,ex⟩:=E.Yh e;have h1:=N9 20 e 61 h (by decide);rw[ex,HP]at h1;rw[ex];show eqB neg xs xs fs=_;unfold eqB;cases hq:Jq (eqT 60) xs xs with
 |none=>rw[hq]at h1;cases h1
 |some c =>
  rw[hq]at h1;have h3:(c&&xs.length==xs.length)=true:=by simpa using h1
  simp only[h3];cases neg<;>rfl
section
variable{C:Addr}{K:Kd}{hs:List T}
theorem Vf(Wl:Well K){e:E}(hw:e.al Lw)(hz:CH e.tx=true)(hl:(cds e.tx).length<=900)(hc:(cds e.tx).count 40<20):BW C [vl (Aq C K hs),vl (.str e.tx)]=.ok (.t (e.re (mkB K)).t) [vl (Aq C K hs),vl (.str e.tx)]:=by
 rcases Q5 (C:=C) (hs:=hs) Wl hz (qS (MY _) hl)with⟨e',w',t',r⟩|⟨no,_⟩
 .have h1:=Kk (mkB K) 20 e hw [] (λc x q=>nomatch q) hc hl;have h2:=Kk (mkB K) 20 e' w' [] (λc x q=>nomatch q) (by rw[<- t'];exact hc) (by rw[<- t'];exact hl);rw[t',h2]at h1;rw[<- (Prod.mk.inj (Option.some.inj h1)).1];exact r
 .exact absurd ⟨e,hw,Rk hw⟩ no
end
theorem Yd:DQ [vl (.zS "BadText")]=.ok (.t (.int 14)) [vl (.zS "BadText")]:=by rfl
abbrev gS(C:Addr)(K:Kd)(hs:List T)(sc:T)(Nm:List Str)(a b c d e f:Option Sl):FS:=[vl sc,vl (.lst (K.map Aw)),vl (Aq C K hs),vl (.lst ((mks K).map T.str)),vl (.lst (Nm.map T.str)),a,b,c,d,e,f,none]
theorem good(ae:Addr):∀ns:List Int,ns.length<=63->L2.BY ns<=2^20->∃fs,Xl ae [some (.val (.z7 (ns.map T.int)))]=.ok (.t (.o true)) fs:=by
 intro ns hlen hb;have gi:=λi=>La hb i
 obtain⟨K,h1,h4,KO,hu,ek⟩:=kinds (ns:=ns) (gi 0) (gi 1);have W:=well h1 h4 KO hu;have ew:=words W (gi 2);have dJ:mks K=(nms (ns.getD 1 0) 12).take (used K):=by have:=(HC KO (by rw[DC];exact hu) K.length (qH _)).1;rwa[List.take_length]at this
 have oP:∀s∈mks K,Lw s:=λs hs=>by rw[dJ]at hs;obtain⟨k,rfl⟩:=HB (sQ hs);exact V5 _ _
 have je:∀s∈nms (ns.getD 2 0) 5,Lw s:=λs hs=>by obtain⟨k,rfl⟩:=HB hs;exact V5 _ _
 have pY:=Nn h4 λkd m=>(W.rw kd m).2
 have j6:=DC (ns.getD 2 0) 5;generalize nms (ns.getD 2 0) 5=Nm at ew je j6;clear dJ;obtain⟨ds,hd,ed⟩:=digits (t:=.z7 (ns.map T.int)) (ns:=ns) (.inl rfl) (a:=1) (b:=3) (by decide) (by decide) (by decide) (by decide);obtain⟨hs,ei⟩:=Lp (C:=ae) W;obtain⟨e,es,⟨ok,al,re⟩,_,nC⟩:=written (Mk:=mks K) (Nm:=Nm) (λq=>by rw[(List.append_eq_nil_iff.mp q).1]at j6;cases j6) (by lia) 60 3 3 ds (by decide) rfl (by decide) (by rw[hd];decide);have hw:e.al Lw:=E.RY (λs h=>by
  rcases qC.mp h with h|h
  .exact je s h
  .exact oP s h) e al
 have nB:=text 60 3 e ok (by decide) (by decide) hw;obtain⟨hc,hk⟩:=QW ok hw;have hc:(cds e.tx).count 40<=13:=hc;have hl:(cds e.tx).length<=600:=qS (Ke ok hw) (by decide);have hz:CH e.tx=true:=by unfold CH;rw[qL,rC];exact⟨qE (by rw[AR];lia),λc m=>qE (hk c m)⟩
 have kO:=Vf (C:=ae) (hs:=hs) W hw hz (by lia) (by lia);have oE:e.re (mkB K)=e:=re;rw[oE]at kO;obtain⟨v,_,em⟩:=mixed (ns:=ns) (N:=2^20) (qH _) hb;obtain⟨s,_,jd,nA⟩:=Sg (z:=e.tx) (v:=v/3) hl;obtain⟨oz,ol,oc⟩:=spo jd hz hl hc;obtain⟨_,jB⟩:=read (Mk:=mks K) ol 20 0 (rX _) oc;rw[List.drop_zero]at jB;have pq:=Q5 (C:=ae) (K:=K) (hs:=hs) W oz (qS (MY s) ol);clear jd;generalize T.z7 (ns.map T.int)=sc at ek ew ed em ⊢;have s1:Ay 1 (fz (Ah (Ak 1 DS) (Af (fz (Ab 0)) Ai))) [vl sc,none,none,none,none,none,none,none,none,none,none,none]=.nx [vl sc,vl (.lst (K.map Aw)),none,none,none,none,none,none,none,none,none,none]:=C3 (Gf (DW (Aj (Au (Aa (t:=sc) rfl)) AB) rfl (by rw[show Cj _ _=[]from rfl];exact qU) ek (AJ rfl))) rfl;have s2:Ay 2 (fz (Ah (IG ae 2 (BV ae)) (Af (fz (Ab 1)) Ai))) [vl sc,vl (.lst (K.map Aw)),none,none,none,none,none,none,none,none,none,none]=.nx [vl sc,vl (.lst (K.map Aw)),vl (Aq ae K hs),none,none,none,none,none,none,none,none,none]:=C3 (Gf (Ta (Aj (Au (Aa (t:=.lst (K.map Aw)) rfl)) AB) rfl rfl ei)) rfl;have s3:XG (fz (Ah (Ak 2 Es) (Af (fz (Ab 0)) (Af (fz (Ab 1)) Ai)))) (Bo 2 (Ap (tgN 3) (Ap (tgN 4) Bl))) [vl sc,vl (.lst (K.map Aw)),vl (Aq ae K hs),none,none,none,none,none,none,none,none,none]=.nx (gS ae K hs sc Nm none none none none none none):=Jaq (Ck (Ct (rs:=[.t sc,.t (.lst (K.map Aw))]) (Aj (Au (Aa rfl)) (Aj (Au (Aa rfl)) AB)) rfl rfl ew)) rfl rfl;have s4:Ay 5 (fz (Ah (Ak 4 (AZ 60)) (Af (fz (Ab 3)) (Af (fz (Ab 4)) (Af (Ah (Ak 3 BM) (Af (fz (Ab 0)) (Af (gc (.int 1)) (Af (gc (.int 3)) Ai)))) (Af (gc (.int 3)) Ai)))))) (gS ae K hs sc Nm none none none none none none)=.nx (gS ae K hs sc Nm (vl e.t) none none none none none):=by
  have e1:Ah (Ak 3 BM) (Af (fz (Ab 0)) (Af (gc (.int 1)) (Af (gc (.int 3)) Ai))) (gS ae K hs sc Nm none none none none none none)=.ok (.nw (.lst (ds.map T.int))) (gS ae K hs sc Nm none none none none none none) :=
   DW (Aj (Au (Aa (t:=sc) rfl)) (Aj Al (Aj Al AB))) rfl (by rw[show Cj _ _=[]from rfl];exact qU) ed (AJ rfl)
  exact C3 (Ck (CZ (Aj (Au (Aa (t:=.lst ((mks K).map T.str)) rfl)) (Aj (Au (Aa (t:=.lst (Nm.map T.str)) rfl)) (Aj e1 (Aj Al AB)))) rfl (by rw[show Cj _ _=[]from rfl];exact qU) nC (AJ rfl))) rfl
 have s5:Ay 6 (fz (Ah (Ak 1 (Cs 60)) (Af (fz (Ab 5)) Ai))) (gS ae K hs sc Nm (vl e.t) none none none none none)=.nx (gS ae K hs sc Nm (vl e.t) (vl (.str e.tx)) none none none none):=AF (Ck (Ct (rs:=[.t e.t]) (Aj (Au (Aa rfl)) AB) rfl rfl nB)) rfl;have s6:Ay 7 (fz (Ah (Ak 2 CF) (Af (fz (Ab 6)) (Af (Ad CP (fz (Ah (Ak 3 DR) (Af (fz (Ab 0)) (Af (gc (.int 2)) (Af (gc (.int 4)) Ai))))) (gc (.int 3))) Ai)))) (gS ae K hs sc Nm (vl e.t) (vl (.str e.tx)) none none none none)=.nx (gS ae K hs sc Nm (vl e.t) (vl (.str e.tx)) (vl (.str s)) none none none) :=
  AF (Ck (Ct (rs:=[.t (.str e.tx),.t (.int (v/3))]) (Aj (Au (Aa rfl)) (Aj (Ae (Ck (Ct (rs:=[.t sc,.t (.int 2),.t (.int 4)]) (Aj (Au (Aa rfl)) (Aj Al (Aj Al AB))) rfl rfl em)) Al (C9 ⟨by decide,by decide⟩)) AB)) rfl rfl nA)) rfl
 obtain⟨D,hD⟩:∃D,rd (mkB K) 20 (cds s)=D:=⟨_,rfl⟩
 rw[show(λs=>decide (s∈mks K))=mkB K from rfl,hD]at jB;have s7:Ay 8 (fz (Ah (Ak 3 (BC 20)) (Af (fz (Ab 3)) (Af (fz (Ab 7)) (Af (gc (.int 0)) Ai))))) (gS ae K hs sc Nm (vl e.t) (vl (.str e.tx)) (vl (.str s)) none none none)=.nx (gS ae K hs sc Nm (vl e.t) (vl (.str e.tx)) (vl (.str s)) (vl (ldT s D)) none none) :=
  AF (Ck (Ct (rs:=[.t (.lst ((mks K).map T.str)),.t (.str s),.t (.int 0)]) (Aj (Au (Aa rfl)) (Aj (Au (Aa rfl)) (Aj Al AB))) rfl rfl jB)) rfl
 have lQ:∀{fs:FS},fs[2]?=some (vl (Aq ae K hs))->fs[7]?=some (vl (.str s))->Af (fz (Ab 2)) (Af (fz (Ab 7)) Ai) fs=.ok [.t (Aq ae K hs),.t (.str s)] fs:=λh2 h7=>Aj (Au (Aa h2)) (Aj (Au (Aa h7)) AB)
 obtain⟨x9,bh,s8,s9⟩:∃x9 bh,R8 11 (λc=>xrs.contains c&&Hf c "SayError") (Ay 10 (fz (Ah (Ak 2 (BW ae)) (Af (fz (Ab 2)) (Af (fz (Ab 7)) Ai))))) (Ay 9 (fz (Ab 11))) (gS ae K hs sc Nm (vl e.t) (vl (.str e.tx)) (vl (.str s)) (vl (ldT s D)) (vl .l) (vl .l))=.nx (gS ae K hs sc Nm (vl e.t) (vl (.str e.tx)) (vl (.str s)) (vl (ldT s D)) (vl x9) (vl bh)) /\
   (ifS (orT (asB (Ad (TH false) (Ab 8) (gc .l))) (asB (Ad (gEq true) (Ad A1 (Ab 8) (gc (.int 1))) (Ah Bd (Ac (Ab 7) Ai))))) (ifS (asB (Ad (gEq true) (fz (Ah (Ak 1 DQ) (Af (fz (Ab 9)) Ai))) (gc (.int 14)))) (retS (gc (.o false))) nxS) (ifS (orT (asB (Ad NQ (Ab 9) (gc .l))) (asB (Ad (KQ true) (Ab 10) (Ad A1 (Ab 8) (gc (.int 0)))))) (retS (gc (.o false))) nxS)) (gS ae K hs sc Nm (vl e.t) (vl (.str e.tx)) (vl (.str s)) (vl (ldT s D)) (vl x9) (vl bh))=.nx (gS ae K hs sc Nm (vl e.t) (vl (.str e.tx)) (vl (.str s)) (vl (ldT s D)) (vl x9) (vl bh)):=by
  have lL:∀(p q:Nat)(fs:FS),gEq true (.t (.int p)) (.t (.int q)) fs=.ok (.t (.o (!decide (p=q)))) fs:=λp q fs=>by
   show(if Jx (V.int p) (V.int q)=true then okT (.o (if true=true then !decide (V.int (p:Int)=V.int q)else _)) fs else .bad)=_;rw[if_pos (show Jx (V.int (p:Int)) (V.int q)=true from rfl)];by_cases h:p=q
   .subst h;simp;rfl
   .rw[qv h,qv (show ¬V.int (p:Int)=V.int q from λz=>h (Int.ofNat.inj (V.int.inj z)))];rfl
  have ls:∀{fs:FS},fs[7]?=some (vl (.str s))->Ah Bd (Ac (Ab 7) Ai) fs=.ok (.t (.int ((cds s).length:Nat))) fs:=λ{fs} h=>by rw[len_str h (by rw[AR];lia),AR]
  rcases pq with⟨e',w',t',r⟩|⟨no,τ,r⟩
  .have hq:=Kk (mkB K) 20 e' w' [] (λc x q=>nomatch q) (by rw[<- t'];exact oc) (by rw[<- t'];exact ol);rw[rD,<- t',hD]at hq;subst hq;have e8:ldT s (some (e'.re (mkB K),[]))=.tup [(e'.re (mkB K)).t,.int ((cds s).length:Nat)]:=rfl;rw[e8];refine⟨.l,(e'.re (mkB K)).t,?_,?_⟩
   .have dd:=AF (i:=10) (fs:=gS ae K hs sc Nm (vl e.t) (vl (.str e.tx)) (vl (.str s)) (vl (.tup [(e'.re (mkB K)).t,.int ((cds s).length:Nat)])) (vl .l) (vl .l)) (aj:=gS ae K hs sc Nm (vl e.t) (vl (.str e.tx)) (vl (.str s)) (vl (.tup [(e'.re (mkB K)).t,.int ((cds s).length:Nat)])) (vl .l) (vl (e'.re (mkB K)).t)) (Ck (Ct (p:=2) (lQ rfl rfl) rfl rfl r)) rfl;unfold R8;rw[dd]
   .have c2:=Bn (Ae (fs:=gS ae K hs sc Nm (vl e.t) (vl (.str e.tx)) (vl (.str s)) (vl (.tup [(e'.re (mkB K)).t,.int ((cds s).length:Nat)])) (vl .l) (vl (e'.re (mkB K)).t)) (GD (f:=Ab 8) (i:=1) (Aa rfl) rfl) (ls rfl) (lL (cds s).length (cds s).length _));rw[qE rfl]at c2;have c4:KQ true (.t (e'.re (mkB K)).t) (.t (e'.re (mkB K)).t) (gS ae K hs sc Nm (vl e.t) (vl (.str e.tx)) (vl (.str s)) (vl (.tup [(e'.re (mkB K)).t,.int ((cds s).length:Nat)])) (vl .l) (vl (e'.re (mkB K)).t))=.ok (.t (.o false)) _:=eqE (by rw[E.Vg,<- t'];exact oc);exact AU (Hx (Bn (Ae (Aa rfl) Al rfl)) c2) (AU (Hx (Bn (Ae (Aa rfl) Al rfl)) (Bn (Ae (Aa rfl) (GD (i:=0) (Aa rfl) rfl) c4))) rfl)
  .refine⟨.zS "BadText",.l,?_,?_⟩
   .have dd:=Ki (i:=10) (RH (Ey (p:=2) (fs:=gS ae K hs sc Nm (vl e.t) (vl (.str e.tx)) (vl (.str s)) (vl (ldT s D)) (vl .l) (vl .l)) (lQ rfl rfl) rfl rfl r));unfold R8;rw[dd];show UG 11 (λc=>xrs.contains c&&Hf c "SayError") (Ay 9 (fz (Ab 11))) "BadText" _=_;unfold UG;rw[if_pos (by decide +kernel)];rfl
   .have cw:asB (Ad (gEq true) (fz (Ah (Ak 1 DQ) (Af (fz (Ab 9)) Ai))) (gc (.int 14))) (gS ae K hs sc Nm (vl e.t) (vl (.str e.tx)) (vl (.str s)) (vl (ldT s D)) (vl (.zS "BadText")) (vl .l))=.ok false (gS ae K hs sc Nm (vl e.t) (vl (.str e.tx)) (vl (.str s)) (vl (ldT s D)) (vl (.zS "BadText")) (vl .l)) :=
     Bn (Ae (Ck (Ct (rs:=[.t (.zS "BadText")]) (Aj (Au (Aa rfl)) AB) rfl rfl Yd)) Al rfl)
    refine BH ?_ (AU cw rfl);cases D with
    |none=>exact Po (Bn (Ae (Aa rfl) Al rfl))
    |some er =>
     obtain⟨e',r'⟩:=er;obtain⟨g1,_,g3⟩:=MI _ _ _ _ _ hD;have hr:r'≠[]:=λq=>no ⟨e',g1,by subst q;rw[rD]at g3;rw[show s=e'.tx from D6 g3];exact Rk g1⟩
     have h8:=congrArg List.length g3;rw[qA]at h8;have h9:1<=r'.length:=sF λq=>hr (rn q)
     refine Hx (Bn (Ae (Aa rfl) Al rfl)) ?_;have c2:=Bn (Ae (fs:=gS ae K hs sc Nm (vl e.t) (vl (.str e.tx)) (vl (.str s)) (vl (ldT s (some (e',r')))) (vl (.zS "BadText")) (vl .l)) (GD (f:=Ab 8) (i:=1) (ts:=[e'.t,.int (((cds s).length-r'.length:Nat):Int)]) (Aa rfl) rfl) (ls rfl) (lL ((cds s).length-r'.length) (cds s).length _));rw[qv (by lia)]at c2;exact c2
 have rt:Ad (KQ false) (fz (Ah (Ak 2 (BW ae)) (Af (fz (Ab 2)) (Af (fz (Ab 6)) Ai)))) (Ab 5) (gS ae K hs sc Nm (vl e.t) (vl (.str e.tx)) (vl (.str s)) (vl (ldT s D)) (vl x9) (vl bh))=.ok (.t (.o true)) (gS ae K hs sc Nm (vl e.t) (vl (.str e.tx)) (vl (.str s)) (vl (ldT s D)) (vl x9) (vl bh)) :=
  Ae (Ck (Ct (rs:=[.t (Aq ae K hs),.t (.str e.tx)]) (Aj (Au (Aa rfl)) (Aj (Au (Aa rfl)) AB)) rfl rfl kO)) (Aa rfl) (eqE (by lia))
 exact⟨_,CG (n:=11) (g:=XC ae) (args:=[vl sc]) (sq s1 (sq s2 (sq s3 (sq s4 (sq s5 (sq s6 (sq s7 (sq (AF Al rfl) (sq (AF Al rfl) (sq s8 (sq s9 (AK rt))))))))))))⟩
theorem us1{α:Type}{us:List α}(e:us.length=1):∃a,us=[a]:=by match us,e with| [a],_=>exact⟨a,rfl⟩
theorem us2{α:Type}{us:List α}(e:us.length=2):∃a b,us=[a,b]:=by match us,e with| [a,b],_=>exact⟨a,b,rfl⟩
theorem us3{α:Type}{us:List α}(e:us.length=3):∃a b c,us=[a,b,c]:=by match us,e with| [a,b,c],_=>exact⟨a,b,c,rfl⟩
theorem us4{α:Type}{us:List α}(e:us.length=4):∃a b c d,us=[a,b,c,d]:=by match us,e with| [a,b,c,d],_=>exact⟨a,b,c,d,rfl⟩
theorem us5{α:Type}{us:List α}(e:us.length=5):∃a b c d e,us=[a,b,c,d,e]:=by match us,e with| [a,b,c,d,e],_=>exact⟨a,b,c,d,e,rfl⟩
theorem us6{α:Type}{us:List α}(e:us.length=6):∃a b c d e f,us=[a,b,c,d,e,f]:=by match us,e with| [a,b,c,d,e,f],_=>exact⟨a,b,c,d,e,f,rfl⟩
abbrev DF(K:Fg)(n:Str)(st:Stmt):Prop:=∃f fd,nsIn K mainGlobals n=some (some (.ref f))/\Fun K n n st f fd
abbrev DM(K:Fg)(C:Addr)(m q:Str)(st:Stmt):Prop:=∃f fd,findIn K (.ref C) m=some (some (.ref f))/\isFn K (.ref f)=true/\Fun K m q st f fd
structure CC(K:Fg)(x:Str)(C:Addr):Prop where
 ac:nsIn K mainGlobals x=some (some (.ref C))
 zb:makesIn K C=true
 kc:keepIn K (.ref C)=true
abbrev aF(P:Program)(w:World)(K:Fg)(mg:Str->Option Value)(base:Heap)(n:Str)(k:Nat)(ps:List Str)(p:Nat)(Fn:FS->Out Rv):Prop:=FnAt P w K mg base (CX1 P w) n k ps (spX K p Fn)
abbrev aM(P:Program)(w:World)(K:Fg)(mg:Str->Option Value)(base:Heap)(C:Addr)(n:Str)(k:Nat)(ps:List Str)(p:Nat)(Fn:FS->Out Rv):Prop:=UQ P w K mg base (CX1 P w) C n k ps (spX K p Fn)
abbrev aK(P:Program)(w:World)(K:Fg)(mg:Str->Option Value)(base:Heap)(n:Str)(C:Addr)(k:Nat)(ps:List Str)(p:Nat)(Fn:FS->Out Rv):Prop:=X5 P w K mg base (CX1 P w) n C k ps (spX K p Fn)
section
variable{P:Program}{w:World}{K:Fg}{mg:Str->Option Value}{base h:Heap}{CX:CXT}{n m q:Str}{st:Stmt}{k:Nat}{ps:List Str}{sp:Sp}{C:Addr}(X:K.In h)(G:h.Ns mainGlobals mg)
abbrev BA(x q:Str)(st:Stmt)(ps:List Str):Prop:=∀(kV bX pm:Value)(an:Option Addr)(aL ct:Value)(us:List Value),us.length=ps.length->bindArgs (fnOf x q (Gk st) (Ea st) (BF st) .none kV bX pm an aL ct) ⟨us,[]⟩=pure (ps.zip us)
theorem QM(X:K.In h)(G:h.Ns mainGlobals mg)(d:DF K n st)(B:BA n n st ps)(O:∀f fd,Fun K n n st f fd->(∀k sp,Ed P w K mg base CX k f fd ps sp->FnAt P w K mg base CX n k ps sp)->Ed P w K mg base CX k f fd ps sp):FnAt P w K mg base CX n k ps sp :=
 let⟨f,fd,a,F⟩:=d
 ⟨f,fd,O f fd F λ_ _ o=>⟨f,fd,o,mg_of X G a,F.kp,F.binds B⟩,mg_of X G a,F.kp,F.binds B⟩
theorem ZA(c:Cls K C)(d:DM K C m q st)(B:BA m q st ps)(O:∀f fd,Fun K m q st f fd->Ed P w K mg base CX k f fd ps sp):UQ P w K mg base CX C m k ps sp :=
 let⟨f,fd,a,i,F⟩:=d
 ⟨c,f,fd,O f fd F,⟨a,i,F.kp⟩,F.binds B⟩
theorem ZC(X:K.In h)(G:h.Ns mainGlobals mg)(c:CC K n C)(d:DM K C "__init__" q st)(B:BA "__init__" q st ps)(O:∀f fd,Fun K "__init__" q st f fd->Ed P w K mg base CX k f fd ps sp):X5 P w K mg base CX n C k ps sp :=
 let⟨f,fd,a,i,F⟩:=d
 ⟨mg_of X G c.ac,f,fd,O f fd F,⟨c.zb,a,i,c.kc⟩,F.binds B⟩
end
section
variable{P:Program}{w:World}{K:Fg}{mg:Str->Option Value}{base h:Heap}{ae:Addr}(X:K.In h)(G:h.Ns mainGlobals mg)(T:Tx w K mg ae)(bN:CC K "Stock" ae)
seal FE FT FA FW FP GS GSs GT GTs FI FAn FIf
set_option hygiene false in
local macro_rules | `(tactic| trivial)=>`(tactic| (
 intro aL A outer s H E _ _ hr lk;have hu:=YZ hr;have a0:=T.zH;have a1:=T.zW;have a2:=T.zY;have a3:=T.zX
 first
  | refine BJ (GS.zero ?_) (BJ (GS.zero ?_) (BJ (GS.zero ?_) (BJ (GS.zero ?_) (BJ (GS.zero ?_) (BJ (GS.zero ?_) (BJ (GS.zero ?_) (BJ (GS.zero ?_) (BJ (GS.zero ?_) (BJ (Qa T.xt (by decide +kernel) 11 lk nd (fun _ _ lk=>?_) (fun _=>?_)) (GSs.zero ?_))))))))))
  | refine GSs.zero ?_
 repeat' first
  | (show FE _ _ _ _;first
   | exact Jao _
   | refine Zq ?_
   | exact Xa
   | refine WS ?_
   | refine Zi hu ?_ ?_ (fun _ _=>rfl)
   | refine Xb (by assumption) (hr.mono (by first | decide | omega)) (by first | exact lk.lk | exact Lks.no) ?_
   | refine Xj ?_ ?_
   | exact WV
   | refine WW ?_ ?_ ?_
   | refine Xc (by assumption) (by assumption) ?_
   | refine W7 T.zh ?_
   | refine W8 T.xt T.zR (by decide +kernel) ?_
   | refine W4 ?_ ?_
   | exact Zs
   | refine W6 ?_
   | refine W3 (by assumption) (hr.mono (by first | decide | omega)) (by first | exact lk.lk | exact Lks.no) ?_ ?_
   | refine Qr V4 F.slot_list_append F.type_list_append El ?_ ?_
   | refine Qr PH PySem.F.slot_list_index PySem.F.type_list_index PD ?_ ?_
   | refine Qr S6 PySem.F.slot_list_extend PySem.F.type_list_extend S3 ?_ ?_
   | refine Qr PJ PySem.F.slot_list_count PySem.F.type_list_count PF ?_ ?_
   | exact Qq
   | refine T9 ?_
   | refine Ub T.zy ?_
   | refine DH false ["sign"] [none] rfl ?_ (fun _ _ _ _ _=>Gd 0 (tH _ _) (Or.inl rfl) (hf:=.inr rfl)) (fun _ _ _ _ _=>?_) (fun _ _ _ _ _=>?_)
   | refine DH false ["_law_one"] [none] rfl ?_ (fun _ _ _ _ _=>Gd 0 (tH _ _) (Or.inl rfl) (hf:=.inr rfl)) (fun _ _ _ _ _=>?_) (fun _ _ _ _ _=>?_)
   | refine DH false ["piece"] [none] rfl ?_ (fun _ _ _ _ _=>Gd 0 (tH _ _) (Or.inl rfl) (hf:=.inr rfl)) (fun _ _ _ _ _=>?_) (fun _ _ _ _ _=>?_)
   | refine DH false ["maker","parts"] [none,none] rfl ?_ (fun _ _ _ _ _=>RD rfl (KN (Gd 0 (show List.Nodup (["maker","parts"]:List Str) by decide +kernel) (Or.inl rfl) (hf:=.inr rfl)) ?_ (fun h1 h2=>Kq h1 h2))) (fun _ _ _ _ _=>?_) (fun _ _ _ _ _=>?_)
   | refine DH false ["kind","name","stock"] [none,some 1,some 0] rfl ?_ (fun _ _ _ _ _=>?_) (fun _ _ _ _ _=>?_) (fun _ _ _ _ _=>?_)
   | refine DH false ["_law_maker","_law_parts_here"] [none,none] rfl ?_ (fun _ _ _ _ _=>?_) (fun _ _ _ _ _=>?_) (fun _ _ _ _ _=>?_)
   | refine DH false ["_law_k","_law_script"] [none,some 0] rfl ?_ (fun _ _ _ _ _=>?_) (fun _ _ _ _ _=>?_) (fun _ _ _ _ _=>?_)
   | refine DH false ["_law_k","_law_names_here","_law_open_to","_law_picks"] [none,some 0,some 6,some 5] rfl ?_ (fun _ _ _ _ _=>?_) (fun _ _ _ _ _=>?_) (fun _ _ _ _ _=>?_)
   | refine WU ?_ ?_
   | exact Zo (by first | exact T.zI | exact T.zM | exact T.zP | exact T.zJ)
   | refine Xe ?_ ?_
   | refine Qo T.zt ?_
   | refine Zj ?_ ?_ ?_
   | refine W0 ?_ ?_
   | refine W5 (by assumption) (hr.mono (by first | decide | omega)) ?_
   | refine Zr ?_ ?_
   | exact WY
   | refine Uc T.zi ?_
   | refine T7 (by assumption) (hr.mono (by first | decide | omega)) ?_ (fun ho=>VB (by assumption) (hr.mono (by first | decide | omega)) VE ho)
   | refine WT T.zf ?_
   | refine Zl hu ?_ ?_
   | refine T8 T.zg ?_
   | refine Xf S5 PySem.F.slot_str_join PySem.F.type_str_join S0 ?_ ?_
   | exact Zn T.zA
   | refine Xi T.zk ?_
   | refine W9 T.xt T.zR T.zK ?_
   | refine WZ ?_
   | refine Xh T.zj ?_
   | refine LX rfl T.zy T.zD ?_
   | refine Xg V2 slot_list_pop type_list_pop Nk ?_
   | refine WX ?_ ?_
   | refine Xd (Y1 hr) ?_ ?_
   | refine Zm ?_ ?_ ?_
   | exact Qp
   | exact T6 _
   | exact Ua _)
  | (show FA _ _ _ _;first
   | exact Xk
   | refine Ue ?_ ?_)
  | (show GSs _ _ _ _;first
   | refine Tq ?_
   | refine P4 ?_ ?_
   | exact Tr)
  | (show GS _ _ _ _;first
   | refine Y3 ?_ ?_ ?_
   | refine GR false _ ["_law_k","_law_letters","_law_mixed_here"] [none,some 2,some 3] rfl nd (Or.inl rfl) ?_ (fun _ _ _ _ _=>?_) (fun _ _ _ _ _=>?_) (fun _ _ _ _ _=>?_)
   | refine GR false _ ["kind","makers"] [none,none] rfl nd (Or.inl rfl) ?_ (fun _ _ _ _ _=>?_) (fun _ _ _ _ _=>?_) (fun _ _ _ _ _=>?_)
   | refine Wu _ nd (by first | exact Or.inl rfl | exact Or.inr rfl) ?_
   | refine Wv ?_
   | refine Ts ?_
   | refine Ww lk.own rfl ?_ ?_ ?_
   | refine Wx (by assumption) (by assumption) _ ?_ (fun hv=>Vq (pv 0) hv rfl)
   | refine Wz ?_ ?_
   | refine P9 (by assumption) (by assumption) _ _ ?_ (fun hv=>Sn hu (Ri (pv _) rfl) (pv _) hv rfl)
   | refine P6 hu ?_ ?_ ?_ (fun he ho hi hs=>Q9 he (Vv ho hi hs))
   | refine P7 (T.xt.t1 (by decide +kernel)) lk rfl ?_
   | refine P5 _ lk.own ?_ ?_
   | refine NO (T.xt.t1 (by decide +kernel)) lk rfl ?_
   | refine LR (T.xt.t1 (by decide +kernel)) lk rfl ?_
   | refine LS _ ?_
   | refine Tv _ ?_
   | refine Wy _ nd (Or.inl rfl) ?_
   | refine Tu _ nd (Or.inl rfl) ?_
   | refine Tt _ nd (Or.inl rfl) ?_
   | exact P8)
  | (show FAn _ _ _ _;first
   | refine Qs ?_ ?_
   | exact Ud)
  | (show GT _ _ _;first
   | refine Gd _ (by first | exact nd | exact(show List.Nodup (["maker","parts"]:List Str) by decide +kernel) | exact(show List.Nodup (["kind","makers"]:List Str) by decide +kernel) | exact(show List.Nodup (["kind","name","stock"]:List Str) by decide +kernel) | exact(show List.Nodup (["_law_maker","_law_parts_here"]:List Str) by decide +kernel) | exact(show List.Nodup (["_law_k","_law_script"]:List Str) by decide +kernel) | exact(show List.Nodup (["_law_k","_law_names_here","_law_open_to","_law_picks"]:List Str) by decide +kernel) | exact(show List.Nodup (["_law_k","_law_letters","_law_mixed_here"]:List Str) by decide +kernel)) (by first | exact Or.inl rfl | exact Or.inr rfl)
   | refine RD rfl ?_)
  | (show GTs _ _ _;first
   | refine KN ?_ ?_ (fun h1 h2=>Kq h1 h2)
   | exact Tp)
  | (show FT _ _ _ _;first
   | refine Zh ?_ ?_
   | refine WI ?_
   | refine Qk ?_ (fun _=>rfl)
   | refine Ql hu ?_ ?_
   | refine Zc ?_ ?_
   | refine Zf hu ?_ ?_
   | refine Zg ?_ ?_
   | refine Qm of_le of_le ?_ ?_ ?_ (fun ha hb hc=>Pa VJ VJ ha hb hc)
   | refine Ze ?_ ?_
   | refine WJ (Y1 hr) ?_ ?_
   | refine WK ?_ ?_
   | refine TN ?_ ?_
   | refine WM (Y1 hr) ?_ ?_
   | refine WL T.Bz ?_
   | refine TQ T.Bz ?_
   | refine TR T.Cc ?_ ?_ (fun _ _=>rfl)
   | refine FW.ft ?_)
  | (show FI _ _ _ _ _;first
   | refine WR ?_
   | refine N2 T.zE ?_
   | refine N1 ?_ (fun ha=>MS rfl T.zE ha)
   | refine WQ T.ze ?_ ?_)
  | (show FIf _ _ _;first
   | exact T5
   | refine T4 ?_)
  | (show FP _ _ _ _;first
   | refine TX ?_
   | exact TY)
  | (show FW _ _ _ _;first
   | refine Zb ?_ ?_
   | refine WG ?_
   | refine WH ?_ ?_
   | refine TM ?_)))
set_option hygiene false in
local macro_rules | `(tactic| exists $N)=>`(tactic| (
 have nd:List.Nodup (($N):List Str):=by decide +kernel
 first
  | refine QM X G d (fun kV dc pm an aL ct us hl=>?_) fun f fd Fu _=>?_
  | refine ZA (by first | exact T.zH) d (fun kV dc pm an aL ct us hl=>?_) fun f fd Fu=>?_
  | refine ZC X G (by assumption) d (fun kV dc pm an aL ct us hl=>?_) fun f fd Fu=>?_
 ·first
   | (obtain⟨a,rfl⟩:=us1 hl;rfl)
   | (obtain⟨a,b,rfl⟩:=us2 hl;rfl)
   | (obtain⟨a,b,c,rfl⟩:=us3 hl;rfl)
   | (obtain⟨a,b,c,d,rfl⟩:=us4 hl;rfl)
   | (obtain⟨a,b,c,d,e,rfl⟩:=us5 hl;rfl)
   | (obtain⟨a,b,c,d,e,f,rfl⟩:=us6 hl;rfl)
 ·refine IV (N:=$N) Fu ⟨rfl,rfl,rfl,nd,rfl,by decide +kernel,by decide +kernel⟩ _ _ rfl rfl ?_;trivial))
include X G T
theorem LF(d:DF K "_law_digits" (top 47)):aF P w K mg base "_law_digits" 1 ["_law_script","_law_at","_law_parts_here"] 3 BM:=by exists ["_law_script","_law_at","_law_parts_here","_law_drawn","_law_got","_law_first","_law_rest","_law_k"]
variable(bJ:aF P w K mg base "_law_digits" 1 ["_law_script","_law_at","_law_parts_here"] 3 BM)
theorem M8(d:DF K "_law_names" (top 48)):aF P w K mg base "_law_names" 1 ["_law_cell","_law_count"] 2 BO:=by exists ["_law_cell","_law_count","_law_letters","_law_mixed_here","_law_wide","_law_at","_law_base","_law_step","_law_got","_law_k","_law_turned_on"]
variable(b9:aF P w K mg base "_law_names" 1 ["_law_cell","_law_count"] 2 BO)
theorem JF(d:DF K "_law_cell_at" (top 44)):aF P w K mg base "_law_cell_at" 1 ["_law_script","_law_k"] 2 A7:=by exists ["_law_script","_law_k"]
variable(bj:aF P w K mg base "_law_cell_at" 1 ["_law_script","_law_k"] 2 A7)
theorem M7(d:DF K "_law_parts" (top 49)):aF P w K mg base "_law_parts" 1 ["_law_names_here","_law_at","_law_first","_law_purse"] 4 BE:=by exists ["_law_names_here","_law_at","_law_first","_law_purse","_law_many","_law_picks","_law_open_to"]
variable(dr:aF P w K mg base "_law_parts" 1 ["_law_names_here","_law_at","_law_first","_law_purse"] 4 BE)
include bJ b9 bj dr in
theorem Nb(d:DF K "_law_kinds" (top 50)):aF P w K mg base "_law_kinds" 2 ["_law_script"] 1 DS:=by exists ["_law_script","_law_purse","_law_many","_law_names_here","_law_makers","_law_got","_law_used","_law_at","_law_rows","_law_k"]
variable(dn:aF P w K mg base "_law_kinds" 2 ["_law_script"] 1 DS)
theorem LC(d:DF K "is_name" (top 21)):aF P w K mg base "is_name" 1 ["text"] 1 A3:=by exists ["text"]
variable(a8:aF P w K mg base "is_name" 1 ["text"] 1 A3)
include a8 in
theorem GB(d:DF K "check_kinds" (top 39)):aF P w K mg base "check_kinds" 2 ["kinds"] 1 BX:=by exists ["kinds","above","kind","makers"]
variable(bA:aF P w K mg base "check_kinds" 2 ["kinds"] 1 BX)
include a8 in
theorem GA(d:DF K "check_maker" (top 41)):aF P w K mg base "check_maker" 2 ["maker","parts","makers_ahead","all_kinds"] 4 Be:=by exists ["maker","parts","makers_ahead","all_kinds","part"]
variable(bB:aF P w K mg base "check_maker" 2 ["maker","parts","makers_ahead","all_kinds"] 4 Be)
theorem FX(d:DF K "check_ground" (top 42)):aF P w K mg base "check_ground" 1 ["maker","parts","kinds_above"] 3 A6:=by exists ["maker","parts","kinds_above","part"]
variable(bq:aF P w K mg base "check_ground" 1 ["maker","parts","kinds_above"] 3 A6)
include bB bq in
theorem FV(d:DF K "check_makers" (top 40)):aF P w K mg base "check_makers" 3 ["kinds"] 1 BL:=by exists ["kinds","all_kinds","kinds_above","makers_ahead","kind","makers","first","maker","parts"]
variable(br:aF P w K mg base "check_makers" 3 ["kinds"] 1 BL)
include bN bA br in
theorem Hz(d:DM K ae "__init__" "Stock.__init__" (inClass (top 38) 0)):aK P w K mg base "Stock" ae 4 ["self","kinds"] 2 (BV ae):=by exists ["self","kinds","kind","makers","maker","parts"]
variable(bP:aK P w K mg base "Stock" ae 4 ["self","kinds"] 2 (BV ae))
include b9 bj in
theorem M5(d:DF K "_law_words" (top 51)):aF P w K mg base "_law_words" 2 ["_law_script","_law_kinds_here"] 2 Es:=by exists ["_law_script","_law_kinds_here","_law_makers","_law_kind","_law_rows"]
variable(dv:aF P w K mg base "_law_words" 2 ["_law_script","_law_kinds_here"] 2 Es)
theorem E9{f:Addr}{fd:FuncData}(Fu:Fun K "_law_written" "_law_written" (top 52) f fd)(bZ:∀k sp,Ed P w K mg base (CX1 P w) k f fd ["_law_makers","_law_names_here","_law_purse","_law_down"] sp->FnAt P w K mg base (CX1 P w) "_law_written" k ["_law_makers","_law_names_here","_law_purse","_law_down"] sp):∀n,Ed P w K mg base (CX1 P w) (1+n) f fd ["_law_makers","_law_names_here","_law_purse","_law_down"] (spX K 4 (AZ n))
 |0=>⟨λvs H Q E h=>by rw[h.1];rfl,λA outer s H args us vs Q E hr he hb hv h=>by obtain⟨_,F,bK,ok,h⟩:=h;exact h.elim⟩
 |n+1=>by
  have gW:=bZ _ _ (E9 Fu bZ n);have nd:List.Nodup (["_law_makers","_law_names_here","_law_purse","_law_down","_law_digit","_law_both","_law_parts_here","_law_k","_law_word_here"]:List Str):=by decide +kernel
  have hb:=IV (P:=P) (w:=w) (mg:=mg) (base:=base) (k:=1+n) (g:=B9 (AZ n)) (N:=["_law_makers","_law_names_here","_law_purse","_law_down","_law_digit","_law_both","_law_parts_here","_law_k","_law_word_here"]) (ps:=["_law_makers","_law_names_here","_law_purse","_law_down"]) Fu ⟨rfl,rfl,rfl,nd,rfl,by decide +kernel,by decide +kernel⟩ 4 5 rfl rfl (by trivial);exact hb
theorem JC(d:DF K "_law_written" (top 52)):aF P w K mg base "_law_written" 61 ["_law_makers","_law_names_here","_law_purse","_law_down"] 4 (AZ 60):=QM X G d (λ_ _ _ _ _ _ us hl=>by obtain⟨a,b,c,d,rfl⟩:=us4 hl;rfl) λf fd F bZ=>E9 X G T  F bZ 60
variable(cy:aF P w K mg base "_law_written" 61 ["_law_makers","_law_names_here","_law_purse","_law_down"] 4 (AZ 60))
theorem IA{f:Addr}{fd:FuncData}(Fu:Fun K "_law_text" "_law_text" (top 53) f fd)(bZ:∀k sp,Ed P w K mg base (CX1 P w) k f fd ["_law_expression"] sp->FnAt P w K mg base (CX1 P w) "_law_text" k ["_law_expression"] sp):∀n,Ed P w K mg base (CX1 P w) (1+n) f fd ["_law_expression"] (spX K 1 (Cs n))
 |0=>⟨λvs H Q E h=>by rw[h.1];rfl,λA outer s H args us vs Q E hr he hb hv h=>by obtain⟨_,F,bK,ok,h⟩:=h;exact h.elim⟩
 |n+1=>by
  have gW:=bZ _ _ (IA Fu bZ n);have nd:List.Nodup (["_law_expression"]:List Str):=by decide +kernel
  have hb:=IV (P:=P) (w:=w) (mg:=mg) (base:=base) (k:=1+n) (g:=HV (Cs n)) (N:=["_law_expression"]) (ps:=["_law_expression"]) Fu ⟨rfl,rfl,rfl,nd,rfl,by decide +kernel,by decide +kernel⟩ 1 0 rfl rfl (by trivial);exact hb
theorem Pw(d:DF K "_law_text" (top 53)):aF P w K mg base "_law_text" 61 ["_law_expression"] 1 (Cs 60):=QM X G d (λ_ _ _ _ _ _ us hl=>by obtain⟨a,rfl⟩:=us1 hl;rfl) λf fd F bZ=>IA X G T  F bZ 60
variable(eP:aF P w K mg base "_law_text" 61 ["_law_expression"] 1 (Cs 60))
theorem JD(d:DF K "_law_spoiled" (top 56)):aF P w K mg base "_law_spoiled" 1 ["_law_text_here","_law_cell"] 2 CF:=by exists ["_law_text_here","_law_cell","_law_way","_law_more","_law_at","_law_sign","_law_odd","_law_some"]
variable(cx:aF P w K mg base "_law_spoiled" 1 ["_law_text_here","_law_cell"] 2 CF)
theorem Pu(d:DF K "_law_word" (top 57)):aF P w K mg base "_law_word" 1 ["_law_text_here","_law_at"] 2 Gh:=by exists ["_law_text_here","_law_at","_law_end"]
variable(bO:aF P w K mg base "_law_word" 1 ["_law_text_here","_law_at"] 2 Gh)
include bO in
theorem IB{f:Addr}{fd:FuncData}(Fu:Fun K "_law_read" "_law_read" (top 58) f fd)(bZ:∀k sp,Ed P w K mg base (CX1 P w) k f fd ["_law_makers","_law_text_here","_law_at"] sp->FnAt P w K mg base (CX1 P w) "_law_read" k ["_law_makers","_law_text_here","_law_at"] sp):∀n,Ed P w K mg base (CX1 P w) (2+n) f fd ["_law_makers","_law_text_here","_law_at"] (spX K 3 (BC n))
 |0=>⟨λvs H Q E h=>by rw[h.1];rfl,λA outer s H args us vs Q E hr he hb hv h=>by obtain⟨_,F,bK,ok,h⟩:=h;exact h.elim⟩
 |n+1=>by
  have gW:=bZ _ _ (IB Fu bZ n);have nd:List.Nodup (["_law_makers","_law_text_here","_law_at","_law_word_here","_law_parts_here","_law_one"]:List Str):=by decide +kernel
  have hb:=IV (P:=P) (w:=w) (mg:=mg) (base:=base) (k:=2+n) (g:=Gw (BC n)) (N:=["_law_makers","_law_text_here","_law_at","_law_word_here","_law_parts_here","_law_one"]) (ps:=["_law_makers","_law_text_here","_law_at"]) Fu ⟨rfl,rfl,rfl,nd,rfl,by decide +kernel,by decide +kernel⟩ 3 3 rfl rfl (by trivial);exact hb
include bO in
theorem Px(d:DF K "_law_read" (top 58)):aF P w K mg base "_law_read" 22 ["_law_makers","_law_text_here","_law_at"] 3 (BC 20):=QM X G d (λ_ _ _ _ _ _ us hl=>by obtain⟨a,b,c,rfl⟩:=us3 hl;rfl) λf fd F bZ=>IB X G T bO F bZ 20
variable(eO:aF P w K mg base "_law_read" 22 ["_law_makers","_law_text_here","_law_at"] 3 (BC 20))
theorem IC(d:DF K "pieces_of" (top 28)):aF P w K mg base "pieces_of" 1 ["text"] 1 CJ:=by exists ["text","pieces","word","sign"]
variable(cb:aF P w K mg base "pieces_of" 1 ["text"] 1 CJ)
include a8 in
theorem LD(d:DF K "form_of" (top 30)):aF P w K mg base "form_of" 2 ["piece"] 1 CK:=by exists ["piece"]
variable(cR:aF P w K mg base "form_of" 2 ["piece"] 1 CK)
include cR in
theorem D7(d:DF K "check_neighbours" (top 29)):aF P w K mg base "check_neighbours" 3 ["pieces"] 1 Bw:=by exists ["pieces","ahead","piece","form"]
variable(aU:aF P w K mg base "check_neighbours" 3 ["pieces"] 1 Bw)
theorem EM(d:DF K "check_brackets" (top 31)):aF P w K mg base "check_brackets" 1 ["pieces"] 1 BN:=by exists ["pieces","unclosed","piece"]
variable(aZ:aF P w K mg base "check_brackets" 1 ["pieces"] 1 BN)
theorem FY(d:DM K ae "makers" "Stock.makers" (inClass (top 38) 2)):aM P w K mg base ae "makers" 1 ["self","kind"] 2 (AX ae):=by exists ["self","kind"]
variable(bp:aM P w K mg base ae "makers" 1 ["self","kind"] 2 (AX ae))
theorem GC(d:DM K ae "kinds" "Stock.kinds" (inClass (top 38) 1)):aM P w K mg base ae "kinds" 1 ["self"] 1 (Bf ae):=by exists ["self"]
variable(bz:aM P w K mg base ae "kinds" 1 ["self"] 1 (Bf ae))
include bp bz in
theorem JB(d:DF K "is_maker" (top 23)):aF P w K mg base "is_maker" 2 ["stock","name"] 2 (CD ae):=by exists ["stock","name"]
variable(cz:aF P w K mg base "is_maker" 2 ["stock","name"] 2 (CD ae))
include cz in
theorem EL(d:DF K "with_arguments" (top 33)):aF P w K mg base "with_arguments" 3 ["stock","word","arguments"] 3 (Bt ae):=by exists ["stock","word","arguments"]
variable(a9:aF P w K mg base "with_arguments" 3 ["stock","word","arguments"] 3 (Bt ae))
include a9 in
theorem Hy(d:DF K "written_by" (top 32)):aF P w K mg base "written_by" 4 ["stock","pieces"] 2 (CY ae):=by exists ["stock","pieces","words","rows","piece","next_piece","arguments"]
variable(bQ:aF P w K mg base "written_by" 4 ["stock","pieces"] 2 (CY ae))
include cb aU aZ bQ in
theorem LB(d:DF K "read_as" (top 27)):aF P w K mg base "read_as" 5 ["stock","text"] 2 (BW ae):=by exists ["stock","text","pieces"]
variable(cS:aF P w K mg base "read_as" 5 ["stock","text"] 2 (BW ae))
theorem Na(d:DF K "_law_mixed" (top 46)):aF P w K mg base "_law_mixed" 1 ["_law_script","_law_at","_law_many"] 3 DR:=by exists ["_law_script","_law_at","_law_many","_law_cell","_law_first"]
variable(dq:aF P w K mg base "_law_mixed" 1 ["_law_script","_law_at","_law_many"] 3 DR)
theorem JE(d:DF K "_law_classes" (top 54)):aF P w K mg base "_law_classes" 1 ["_law_kept"] 1 DT:=by exists ["_law_kept","_law_got"]
variable(cu:aF P w K mg base "_law_classes" 1 ["_law_kept"] 1 DT)
include cu in
theorem M6(d:DF K "_law_which" (top 55)):aF P w K mg base "_law_which" 2 ["_law_kept"] 1 DQ:=by exists ["_law_kept"]
variable(du:aF P w K mg base "_law_which" 2 ["_law_kept"] 1 DQ)
include bJ dn bP dv cy eP cx eO cS dq du in
theorem VQ{f:Addr}{fd:FuncData}(Fu:Fun K "law" "law" (top 59) f fd):Ed P w K mg base (CX1 P w) 62 f fd ["_law_script"] (spX K 1 (Xl ae)):=by
 have nd:List.Nodup (["_law_script","_law_kinds_here","_law_stock","_law_makers","_law_names_here","_law_expression","_law_text_here","_law_odd","_law_due","_law_kept","_law_got","e"]:List Str):=by decide +kernel
 refine IV (N:=["_law_script","_law_kinds_here","_law_stock","_law_makers","_law_names_here","_law_expression","_law_text_here","_law_odd","_law_due","_law_kept","_law_got","e"]) Fu ⟨rfl,rfl,rfl,nd,rfl,by decide +kernel,by decide +kernel⟩ _ _ rfl rfl ?_;trivial
end
def OZ(K:Fg):Sp:=λvs H Q _=>∃(a:Addr)(ns:List Int),vs=[.ref a]/\SqL K H a (ns.map V.int)/\ns.length<=63/\BY ns<=2^20/\∀H',Q (.o true) H'
theorem Kj{K:Fg}{F:Wd}{H:Hp}:∀(ns:List Int),Ag K F H (ns.map T.int) (ns.map V.int)
 | []=>by simp[Ag]
 |n::ns=>by simp only[qm,Ag];exact⟨_,_,rfl,by simp[AI],Kj ns⟩
theorem Wa{K:Fg}{Fn:FS->Out Rv}(good:∀ns:List Int,ns.length<=63->BY ns<=2^20->∃fs,Fn [some (.val (.z7 (ns.map T.int)))]=.ok (.t (.o true)) fs):∀vs H Q E,OZ K vs H Q E->spX K 1 Fn vs H Q E:=by
 intro vs H Q E ⟨a,ns,e,hs,hl,hb,k⟩;subst e;obtain⟨fs,eg⟩:=good ns hl hb;have key:∀F:Wd,StL K F H a (ns.map V.int)->(∀b,F b->H b≠none)->(∀b,¬F.p b)->spX K 1 Fn [.ref a] H Q E:=λF st fd np=>by
  refine⟨rfl,F,[some (.val (.z7 (ns.map T.int)))],⟨[],?_,qU,(λ_ m=>nomatch m),fd,?_,λb p=>(np b p).elim,λb _ p=>np b p,(λ_ m=>nomatch m)⟩,?_⟩
  .show Ax K F H [some (.val (.z7 (ns.map T.int)))] [some (.ref a)] [];simp only[Ax];exact⟨_,_,rfl,by simp only[AI];exact⟨a,_,rfl,st,Kj ns⟩,by first|exact⟨rfl,rfl⟩|trivial⟩
  .intro i o e;cases i with|zero=>cases e|succ i=>simp at e
  .rw[eg];intro F' H' u ak _ q;obtain⟨L,L',_,⟨_,qu⟩,_⟩:=q;have:u=.o true:=qu;subst this;exact k H'
 rcases hs with hs|hs
 .exact key ⟨λb=>b=a,λ_=>False⟩ (.inl ⟨rfl,hs⟩) (λb e=>by have e':b=a:=e;subst e';rcases hs with z|⟨o,z⟩<;>(rw[z];exact λq=>nomatch q)) λ_ p=>p
 .exact key ⟨λ_=>False,λ_=>False⟩ (.inr hs) (λb e=>e.elim) λ_ p=>p
theorem GV{P:Params}{K:Fg}{e:DictEntry}{r:List DictEntry}{k:Str}{ts:List Str}{tab:List (Str×List Str)}{t:Tok}{b:Addr}(h1:e.hash=PyData.keyHash P k)(h2:e.key=.str k t)(h3:e.val=.ref b)(h4:Td K b ts=true)(h5:DI P K r tab):DI P K (e::r) ((k,ts)::tab):=⟨h1,⟨t,b,h2,h3,h4⟩,h5⟩
theorem all_mk{l:OpenLaw}{w:World}{K:Fg}{h:Heap}{mg:Str->Option Value}{fa ae:Addr}(X:K.In h)(G:h.Ns mainGlobals mg)(n8:mg "law"=some (.ref fa))(bN:CC K "Stock" ae)(T:Tx w K mg ae)
  (d0:DF K "_law_digits" (top 47))
  (d1:DF K "_law_names" (top 48))
  (d2:DF K "_law_cell_at" (top 44))
  (d3:DF K "_law_parts" (top 49))
  (d4:DF K "_law_kinds" (top 50))
  (d5:DF K "is_name" (top 21))
  (d6:DF K "check_kinds" (top 39))
  (d7:DF K "check_maker" (top 41))
  (d8:DF K "check_ground" (top 42))
  (d9:DF K "check_makers" (top 40))
  (mL:DM K ae "__init__" "Stock.__init__" (inClass (top 38) 0))
  (mM:DF K "_law_words" (top 51))
  (mO:DF K "_law_written" (top 52))
  (mP:DF K "_law_text" (top 53))
  (mQ:DF K "_law_spoiled" (top 56))
  (mR:DF K "_law_word" (top 57))
  (mS:DF K "_law_read" (top 58))
  (mT:DF K "pieces_of" (top 28))
  (mU:DF K "form_of" (top 30))
  (mV:DF K "check_neighbours" (top 29))
  (mW:DF K "check_brackets" (top 31))
  (mX:DM K ae "makers" "Stock.makers" (inClass (top 38) 2))
  (mY:DM K ae "kinds" "Stock.kinds" (inClass (top 38) 1))
  (mZ:DF K "is_maker" (top 23))
  (m7:DF K "with_arguments" (top 33))
  (m8:DF K "written_by" (top 32))
  (m9:DF K "read_as" (top 27))
  (ng:DF K "_law_mixed" (top 46))
  (nh:DF K "_law_classes" (top 54))
  (ni:DF K "_law_which" (top 55))
  (nj:DF K "law" (top 59)) :
  ∃fd:FuncData,(∀(s:Shared)(v:Value),BindsTo s fd ⟨[v],[]⟩ [("_law_script",v)])/\∀base:Heap,K.In base->base.Ns mainGlobals mg->Ed l.prog w K mg base (CX1 l.prog w) 62 fa fd ["_law_script"] (OZ K):=by
 obtain⟨f,fd,a,F⟩:=nj;cases n8.symm.trans (mg_of X G a);refine⟨fd,by obtain⟨_,_,_,_,_,_,_,_,_,rfl,_⟩:=F.ex;exact λs v=>.of_eq rfl,λbase _ _=>?_⟩;have G0:=LF (P:=l.prog) (w:=w) (base:=base) X G T  d0;have G1:=M8 (P:=l.prog) (w:=w) (base:=base) X G T  d1;have G2:=JF (P:=l.prog) (w:=w) (base:=base) X G T  d2;have G3:=M7 (P:=l.prog) (w:=w) (base:=base) X G T  d3;have G4:=Nb (P:=l.prog) (w:=w) (base:=base) X G T G0 G1 G2 G3 d4;have G5:=LC (P:=l.prog) (w:=w) (base:=base) X G T  d5;have G6:=GB (P:=l.prog) (w:=w) (base:=base) X G T G5 d6;have G7:=GA (P:=l.prog) (w:=w) (base:=base) X G T G5 d7;have G8:=FX (P:=l.prog) (w:=w) (base:=base) X G T  d8;have G9:=FV (P:=l.prog) (w:=w) (base:=base) X G T G7 G8 d9;have lZ:=Hz (P:=l.prog) (w:=w) (base:=base) X G T bN G6 G9 mL;have l7:=M5 (P:=l.prog) (w:=w) (base:=base) X G T G1 G2 mM;have l8:=JC (P:=l.prog) (w:=w) (base:=base) X G T  mO;have l9:=Pw (P:=l.prog) (w:=w) (base:=base) X G T  mP;have md:=JD (P:=l.prog) (w:=w) (base:=base) X G T  mQ;have mf:=Pu (P:=l.prog) (w:=w) (base:=base) X G T  mR;have mh:=Px (P:=l.prog) (w:=w) (base:=base) X G T mf mS;have mi:=IC (P:=l.prog) (w:=w) (base:=base) X G T  mT;have mj:=LD (P:=l.prog) (w:=w) (base:=base) X G T G5 mU;have ml:=D7 (P:=l.prog) (w:=w) (base:=base) X G T mj mV;have mm:=EM (P:=l.prog) (w:=w) (base:=base) X G T  mW;have mn:=FY (P:=l.prog) (w:=w) (base:=base) X G T  mX;have mq:=GC (P:=l.prog) (w:=w) (base:=base) X G T  mY;have mr:=JB (P:=l.prog) (w:=w) (base:=base) X G T mn mq mZ;have mw:=EL (P:=l.prog) (w:=w) (base:=base) X G T mr m7;have mz:=Hy (P:=l.prog) (w:=w) (base:=base) X G T mw m8;have mB:=LB (P:=l.prog) (w:=w) (base:=base) X G T mi ml mm mz m9;have mC:=Na (P:=l.prog) (w:=w) (base:=base) X G T  ng;have mD:=JE (P:=l.prog) (w:=w) (base:=base) X G T  nh;have mE:=M6 (P:=l.prog) (w:=w) (base:=base) X G T mD ni;exact(VQ (P:=l.prog) (w:=w) (base:=base) X G T G0 G4 lZ l7 l8 l9 md mh mB mC mE F).imp (Wa (good ae))
theorem exG{α:Type}{K:Fg}{h:Heap}{mg:Str->Option Value}{x:Str}{v:α->Value}{t:α}(X:K.In h)(G:h.Ns mainGlobals mg)(e:nsIn K mainGlobals x=some (some (v t))):∃t,mg x=some (v t):=⟨t,mg_of X G e⟩
theorem naG{K:Fg}{C:Addr}{f:Str}(e:findIn K (.ref C) f=some none):Dj K C f:=e
theorem gdG{w:World}{K:Fg}{h:Heap}{mg:Str->Option Value}{x:Str}{tab:List (Str×List Str)}{a:Addr}{es:Array DictEntry}{ep:Nat}(X:K.In h)(G:h.Ns mainGlobals mg)(e:nsIn K mainGlobals x=some (some (.ref a)))(l:K.lookup a=some ⟨.type "dict",none,.dict es ep,#[]⟩)(t:DI w.params K es.toList tab)(n:(tab.map λp=>(.inr p.1:Key)).Nodup):UC w K mg x tab:=⟨_,_,_,mg_of X G e,l,t,n⟩
theorem walk{l:OpenLaw}{q:Program}{loose:List Str}{XP:(Str->Option Value)->Heap->Prop}{d:DefRec}{K:Params->Fg}{as:List Addr}{N tk:Nat}(hn:l.most=some 63)(ip:d.params.defaults=[])(hK:∀P:Params,as=(K P).map (·.1))
  (F:∀(w:World)(mg:Str->Option Value)(fa:Addr)(h:Heap),(K w.params).In h->h.Ns mainGlobals mg->mg d.name=some (.ref fa) ->
   ∃fd:FuncData,(∀(s:Shared)(u:Value),BindsTo s fd ⟨[u],[]⟩ [("_law_script",u)])/\∀base:Heap,(K w.params).In base->base.Ns mainGlobals mg->Ed l.prog w (K w.params) mg base (CX1 l.prog w) 62 fa fd ["_law_script"] (OZ (K w.params))) :
  WalkX q loose XP (PySem.W.X.obsZ as) (PySem.W.X.valZ K N tk) l.row.toRowW d [] (λf vs=>PySem.call f vs) :=
 L2.Js (n:=63) (k:=62) (x:="_law_script") (CX:=λw=>CX1 l.prog w) (sp:=OZ) hn (by decide) ip ⟨rfl,by decide,by decide⟩ hK F (λ_ _ a ns hl hb _ hS=>⟨a,ns,rfl,hS,hl,hb,λ_=>rfl⟩) λ_ _ _ _ _ ⟨_,_,_,_,_,_,_,_,_,_,_,q⟩=>q
end Sy
inductive PySem.W.Fast:Prop|tw15276577988540227000|tw2895971066482472572|tw18083891017836973301|tw7773655275523943277|tw17524854015674844931|tw15202605011499913072|tw11080844364288923591|tw804067143943208885|tw9074133652233777917|tw12904224069121490861|tw12101305575341388878|tw8342371239517526057|tw858661298059414542|tw15941803538410584048|tw14051246334125685343|tw12782133906683038565|tw7176414130082822346|tw7282687023576059282|tw9246453699079050852|tw9098571133970312684|tw5970432049931927766|tw12789055030282007460|tw782514937881029728|tw12004557074111397813|tw10778273269688570880|tw11566463203273994206|tw17722605117115730875|tw13401550270282713963|tw12835362803403407111|tw3766606977365941572|tw10796103950661234548|tw6666926171430944251|tw2569242753928707246|tw12733200322197361665|tw8400964474805738943|tw4777933876753915459|tw18025110375789817429|tw17748339166928359435|tw14855260622759920252|tw1750466090131944181|tw12878426817819804601|tw13311285414399357813|tw6432480674002845380|tw18224252705082663859|tw6770719427245145573|tw7621147527261355966|tw10049500370565515428|tw4184224669017748096|tw362526045146254861|tw12919921333836065632|tw993521104742571052|tw4337011238423847292|tw3924695391182889101|tw14158642116360179138|tw4509256173808007032|tw9528897216972160301|tw5100899675609968756|tw13777351303988792511|tw17343516828844786799|tw6568617579855926378|tw339253984268359891|tw14986591124741798876|tw13318374277009205670|tw11454032078638564935|tw14602366769361995861|tw13419833666369680286|tw9783979966381323277|tw12155643642316116283|tw13032182546401790546|tw11819706681868367911|tw11251005900751276051|tw9945791594161937446|tw16644075893457632031|tw4776921528077375094|tw17460699503906037279|tw16848630539383837538|tw13851726151826552312|tw1631320867768266232|tw10420740281439656572|tw3653361372119329567|tw5576000793640463723|tw16117770642472170107|tw11965363636850261291|tw7370509296463810972|tw6875205117300992252|tw13327526872036040979|tw14667675283613618197|tw18265179234501822342|tw11229034919432369542|tw4969810240837906799|tw6881054008388649263|tw4152930437857599711|tw18057957893373203238|tw1227682921357661250|tw6035795570171720432|tw1246933136436174645|tw13297945952447942276|tw1431340575683031848|tw9026895093757216722|tw16096577261369346860|tw10270239070368456925|tw8508487589689871091|tw1624242525649538386|tw4124364205153304830|tw9433642782935113048|tw3022032709266442019|tw7566737442790049741|tw10113756554919716280|tw6219517209450280599|tw4858191844715088691|tw7669828280648197101|tw4997296272617863914|tw2160367365472967685
open PySem PySem.W PyProof.Rows
set_option maxRecDepth 100000 in
set_option maxHeartbeats 0 in
theorem PySem.Challenge.cw_stairsay_k73_texts_refused_holds : PySem.Challenge.rw_stairsay_k73_texts_refused.Holds := by
 w_on;o_law;z_head;(case hw=>w_witness2)
 k_fill
 refine Sy.walk (l:=PySem.Challenge.rw_stairsay_k73_texts_refused) rfl rfl (λP=>rfl) ?F
 case F =>
  intro w mg fa h KX G iy;refine' Sy.all_mk KX G iy ⟨?_,?_,?_⟩ ⟨PySem.W.mg_none_of KX G ?_,PySem.W.mg_none_of KX G ?_,PySem.W.mg_none_of KX G ?_,PySem.W.mg_none_of KX G ?_,PySem.W.mg_none_of KX G ?_,PySem.W.mg_none_of KX G ?_,PySem.W.mg_none_of KX G ?_,PySem.W.mg_none_of KX G ?_,PySem.W.mg_none_of KX G ?_,PySem.W.mg_none_of KX G ?_,PySem.W.mg_none_of KX G ?_,PySem.W.mg_none_of KX G ?_,PySem.W.mg_none_of KX G ?_,Sy.exG KX G ?_,Sy.exG KX G ?_,Sy.exG KX G ?_,Sy.exG KX G ?_,Sy.exG KX G ?_,⟨?_,?_,?_,?_⟩,Sy.naG ?_,Sy.naG ?_,Sy.naG ?_,Sy.gdG KX G ?aD ?lD ?eD (by decide +kernel),FL.UR.of KX G (by kernel_rfl),.of KX G (by kernel_rfl)⟩ ⟨_,_,?_,L2.A8 ?_ ?_ ?_⟩ ⟨_,_,?_,L2.A8 ?_ ?_ ?_⟩ ⟨_,_,?_,L2.A8 ?_ ?_ ?_⟩ ⟨_,_,?_,L2.A8 ?_ ?_ ?_⟩ ⟨_,_,?_,L2.A8 ?_ ?_ ?_⟩ ⟨_,_,?_,L2.A8 ?_ ?_ ?_⟩ ⟨_,_,?_,L2.A8 ?_ ?_ ?_⟩ ⟨_,_,?_,L2.A8 ?_ ?_ ?_⟩ ⟨_,_,?_,L2.A8 ?_ ?_ ?_⟩ ⟨_,_,?_,L2.A8 ?_ ?_ ?_⟩ ⟨_,_,?_,?_,L2.A8 ?_ ?_ ?_⟩ ⟨_,_,?_,L2.A8 ?_ ?_ ?_⟩ ⟨_,_,?_,L2.A8 ?_ ?_ ?_⟩ ⟨_,_,?_,L2.A8 ?_ ?_ ?_⟩ ⟨_,_,?_,L2.A8 ?_ ?_ ?_⟩ ⟨_,_,?_,L2.A8 ?_ ?_ ?_⟩ ⟨_,_,?_,L2.A8 ?_ ?_ ?_⟩ ⟨_,_,?_,L2.A8 ?_ ?_ ?_⟩ ⟨_,_,?_,L2.A8 ?_ ?_ ?_⟩ ⟨_,_,?_,L2.A8 ?_ ?_ ?_⟩ ⟨_,_,?_,L2.A8 ?_ ?_ ?_⟩ ⟨_,_,?_,?_,L2.A8 ?_ ?_ ?_⟩ ⟨_,_,?_,?_,L2.A8 ?_ ?_ ?_⟩ ⟨_,_,?_,L2.A8 ?_ ?_ ?_⟩ ⟨_,_,?_,L2.A8 ?_ ?_ ?_⟩ ⟨_,_,?_,L2.A8 ?_ ?_ ?_⟩ ⟨_,_,?_,L2.A8 ?_ ?_ ?_⟩ ⟨_,_,?_,L2.A8 ?_ ?_ ?_⟩ ⟨_,_,?_,L2.A8 ?_ ?_ ?_⟩ ⟨_,_,?_,L2.A8 ?_ ?_ ?_⟩ ⟨_,_,?_,L2.A8 ?_ ?_ ?_⟩
  (case aD=>k_is)
  (case lD=>k_is)
  (case eD=>exact Sy.GV rfl rfl rfl (by kernel_rfl) (Sy.GV rfl rfl rfl (by kernel_rfl) (Sy.GV rfl rfl rfl (by kernel_rfl) (Sy.GV rfl rfl rfl (by kernel_rfl) (Sy.GV rfl rfl rfl (by kernel_rfl) (Sy.GV rfl rfl rfl (by kernel_rfl) (trivial)))))))
  all_goals try k_is
