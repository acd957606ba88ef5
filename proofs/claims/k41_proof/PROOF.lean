import PyProof.Rows.All
import Wide.All
import OpenK.AllK
import Wide.FinOn
import PyProof.EqAt
import PyProof.EqKinds
import PyProof.TupleCall
import PyProof.DictWalks
import KE.KSortTup
import KE.KTryMore
import PyProof.NsDelKeeps
import PyProof.ReprStr
import PyProof.StrLawsRepr
import PyProof.Rows.FStr
import PyProof.ListMulRoad
import PyProof.FactsAll.tuple_2
import KE.KPairComp
import PyProof.AttrMissHeap
import PyProof.FactsAll.zip_1
import KE.KDictOf
import KE.KMinBuiltin
import PyProof.Rows.CallKwBuiltin
import KE.KEqDict
import PySem.Challenge.RW_stairsay_k41_sided
set_option Elab.async false
set_option linter.all false
set_option maxRecDepth 100000
set_option maxHeartbeats 4000000
set_option tactic.hygienic false
set_option bootstrap.genMatcherCode false
set_option genSizeOf false
set_option compiler.extract_closed false
noncomputable section
open PySem.W (Frag instObj lookIn plainGet hasDictIn findIn handedIn plainGet_of isFn plainOver takerIn makesIn emptyDict keepIn specialIn takesIn mroIn kitOne kia_one kitx_list kitx_dict methodCall_KW callWith_K fnOf codeIn excIn exmOne clsIn OpenLaw WalkO WalkX nsIn mg_of)
open PyProof.Rows (callWith_type1 slot_tuple_getitem boot_sum boot_all boot_list boot_tuple boot_int boot_isinstance boot_dict envOfC boot_any boot_str)
open PySem.F (slot_tuple_add entry_tuple_add args_tuple_add_2)
abbrev sQ:=@PySem.wpAny_bind
abbrev sR:=@PySem.Heap.get?_push_of_some
abbrev sS:=@List.getElem?_eq_getElem
abbrev sT:=@List.nodup_append
abbrev sU:=@List.map_append
abbrev sV:=@PySem.wpAny_pure
abbrev sW:=@List.mem_cons_of_mem
abbrev sX:=@List.map_cons
abbrev sY:=@List.getElem?_eq_some_iff
abbrev sZ:=@List.mem_append
abbrev tf:=@List.length_map
abbrev tj:=@PySem.Heap.lt_size
abbrev tm:=@List.mem_append_left
abbrev tq:=@PySem.Heap.get?_push_size
abbrev tu:=@Option.map_eq_some_iff
abbrev tw:=@List.mem_map
abbrev tB:=@List.mem_append_right
abbrev tD:=@List.mem_singleton
abbrev tE:=@Nat.lt_of_lt_of_le
abbrev tH:=@List.mem_cons
abbrev tJ:=@Nat.le_refl
abbrev tK:=@List.size_toArray
abbrev tL:=@List.mem_cons_self
abbrev tM:=@of_decide_eq_true
abbrev tN:=@Nat.ne_of_lt
abbrev tO:=@Bool.and_eq_true
abbrev tQ:=@Nat.le_trans
abbrev tR:=@List.getElem?_map
abbrev tS:=@decide_eq_false
abbrev tU:=@List.map_map
abbrev tV:=@List.length_cons
abbrev tW:=@Bool.false_ne_true
abbrev tX:=@Option.bind_eq_some_iff
abbrev tY:=@List.length_append
abbrev tZ:=@PySem.wpAny_field
abbrev t9:=@decide_eq_true
abbrev ua:=@List.nodup_nil
abbrev ub:=@List.append_assoc
abbrev uc:=@List.nodup_cons
abbrev ud:=@List.append_nil
abbrev ue:=@List.not_mem_nil
abbrev uf:=@List.all_eq_true
abbrev ug:=@List.lookup_cons
abbrev uh:=@List.length_take
abbrev uj:=@List.length_range
abbrev uk:=@List.mem_of_getElem?
abbrev um:=@List.getElem?_set_self
abbrev uq:=@List.getElem?_set_ne
abbrev ur:=@List.pairwise_iff_getElem
abbrev uu:=@Array.getElem?_eq_getElem
abbrev uw:=@Nat.lt_irrefl
abbrev ux:=@Int.toNat_natCast
abbrev uz:=@List.mem_of_mem_take
abbrev uA:=@List.mem_flatMap
abbrev uB:=@Option.bind_some
abbrev uC:=@Nat.lt_trans
abbrev uD:=@PySem.Heap.size_push
abbrev uE:=@List.length_pos_iff
abbrev uF:=@List.take_of_length_le
abbrev uG:=@PySem.Heap.get?_update_other
abbrev uH:=@List.getElem?_append_right
abbrev uI:=@List.mem_iff_getElem?
abbrev uJ:=@List.mem_filter
abbrev uK:=@Bool.eq_iff_iff
abbrev uL:=@List.map_nil
abbrev uM:=@Array.length_toList
abbrev uN:=@List.length_drop
abbrev uO:=@List.getElem_map
abbrev uP:=@List.eq_nil_of_length_eq_zero
abbrev uQ:=@List.mem_range
abbrev uR:=@List.drop_eq_nil_of_le
abbrev uS:=@List.length_singleton
abbrev uT:=@Bool.or_eq_true
abbrev uU:=@List.take_sublist
abbrev uV:=@Array.getElem?_eq_some_iff
abbrev uW:=@List.mem_of_mem_drop
abbrev uX:=@List.getElem?_append_left
abbrev uY:=@List.map_fst_zip
abbrev uZ:=@List.map_flatMap
abbrev u0:=@List.cons_append
abbrev u3:=@List.replicate_succ
abbrev u4:=@List.getElem_of_mem
abbrev u5:=@List.filterMap_cons
abbrev u6:=@Option.isSome_iff_exists
abbrev u7:=@List.pairwise_singleton
abbrev u9:=@List.of_mem_zip
abbrev va:=@List.getElem?_cons_zero
abbrev vc:=@List.append_of_mem
abbrev vd:=@List.any_cons
abbrev vf:=@Int.emod_lt_of_pos
abbrev vg:=@List.take_append_drop
abbrev vh:=@List.getElem?_eq_none
abbrev vi:=@PySem.Heap.get?_update_self
abbrev vj:=@Option.map_some
abbrev vm:=@List.nil_append
abbrev vn:=@List.length_zip
abbrev vo:=@List.length_nil
abbrev vp:=@List.getElem?_range
abbrev vq:=@Int.emod_nonneg
abbrev vt:=@List.findSome?_eq_none_iff
abbrev vv:=@Array.getElem?_eq_none_iff
abbrev vw:=@Nat.ne_of_gt
abbrev vz:=@Nat.le_of_lt
abbrev vA:=@List.mem_filterMap
abbrev vB:=@Bool.false_eq_true
abbrev vC:=@List.mem_take_iff_getElem
abbrev vD:=@List.drop_eq_getElem_cons
abbrev vE:=@List.getElem?_take_of_lt
abbrev vF:=@List.any_eq_false
abbrev vG:=@Nat.zero_le
abbrev vH:=@List.all_cons
abbrev vI:=@List.filter_cons
abbrev vJ:=@List.any_eq_true
abbrev Fg:=Frag
namespace L2
open PySem PySem.Spec PyProof.Rows
abbrev Key:=Sum Int Str
noncomputable def Gu:Key->Value->Bool
 |.inl k,v=>Value.isInt k v
 |.inr x,v=>Value.isStrOf x v
noncomputable def keyH(w:World):Key->Int
 |.inl k=>hashInt k
 |.inr x=>hashStr w x
theorem AU:∀{k:Key}{v:Value},Gu k v=true->(∃i t,k=Sum.inl i/\v=Value.int i t)\/(∃x t,k=Sum.inr x/\v=Value.str x t)
 |.inl i,v,h=>by obtain⟨t,e⟩:=Value.isInt_shape h;exact .inl ⟨i,t,rfl,e⟩
 |.inr x,v,h=>by obtain⟨t,e⟩:=Value.isStrOf_shape h;exact .inr ⟨x,t,rfl,e⟩
theorem Nk(i:Int)(t:Tok):Gu (.inl i) (.int i t)=true:=by simp[Gu,Value.isInt]
theorem Ni(x:Str)(t:Tok):Gu (.inr x) (.str x t)=true:=by simp[Gu,Value.isStrOf]
theorem Xk(a b:Int):decide ((Sum.inl a:Key)=Sum.inl b)=(a==b):=by
 by_cases e:a=b
 .subst e;simp
 .have h:¬(Sum.inl a:Key)=Sum.inl b:=λq=>e (Sum.inl.inj q)
  rw[tS h];exact(beq_eq_false_iff_ne.mpr e).symm
theorem Xh(a b:Str):decide ((Sum.inr a:Key)=Sum.inr b)=decide (a=b):=by
 by_cases e:a=b
 .subst e;simp
 .have h:¬(Sum.inr a:Key)=Sum.inr b:=λq=>e (Sum.inr.inj q)
  rw[tS h,tS e]
theorem Xj(a:Int)(b:Str):decide ((Sum.inl a:Key)=Sum.inr b)=false:=tS (λq=>nomatch q)
theorem Xi(a:Str)(b:Int):decide ((Sum.inr a:Key)=Sum.inl b)=false:=tS (λq=>nomatch q)
noncomputable def AR(prog:Program)(w:World):PySem.KeyKind prog w Key where
 is:=Gu
 hash:=keyH w
 inj:=λv a b ha hb=>by
  rcases AU ha with⟨i,t,rfl,rfl⟩|⟨x,t,rfl,rfl⟩
  .rcases AU hb with⟨j,u,rfl,e⟩|⟨y,u,rfl,e⟩
   .injection e with e1 _;rw[e1]
   .exact nomatch e
  .rcases AU hb with⟨j,u,rfl,e⟩|⟨y,u,rfl,e⟩
   .exact nomatch e
   .injection e with e1 _;rw[e1]
 byValue:=λk v h=>by rcases AU h with⟨i,t,rfl,rfl⟩|⟨x,t,rfl,rfl⟩<;>rfl
 pyHash:=λhv h=>by
  rcases AU hv with⟨i,t,rfl,rfl⟩|⟨x,t,rfl,rfl⟩
  .exact wpAny_pyHash_int h
  .exact wpAny_pyHash_str h
 eqBool:=λhu hv h=>by
  rcases AU hu with⟨i,t,rfl,rfl⟩|⟨x,t,rfl,rfl⟩
  .rcases AU hv with⟨j,u,rfl,rfl⟩|⟨y,u,rfl,rfl⟩
   .rw[Xk]at h;exact wpAny_eqBool_int h
   .rw[Xj]at h;exact SeqAt.EqAt.int_str i t y u _ _ _ _ h
  .rcases AU hv with⟨j,u,rfl,rfl⟩|⟨y,u,rfl,rfl⟩
   .rw[Xi]at h;exact SeqAt.EqAt.str_int x t j u _ _ _ _ h
   .rw[Xh]at h;exact wpAny_eqBool_str h
 «strs»:=λk x t v h=>by
  rcases AU h with⟨i,u,rfl,e⟩|⟨y,u,rfl,e⟩
  .exact nomatch e
  .injection e with e1 _
   subst e1;cases v<;>rfl
theorem JP(prog:Program)(w:World)(i:Int)(t:Tok):(AR prog w).is (.inl i) (.int i t)=true:=Nk i t
theorem JO(prog:Program)(w:World)(x:Str)(t:Tok):(AR prog w).is (.inr x) (.str x t)=true:=Ni x t
inductive V where
 |o|v (b:Bool)|int (i:Int)|str (x:Str)|zH (b:Array UInt8)|zd (b:UInt64)|ref (a:Addr)|ty (n:String)
 deriving DecidableEq
def RelV:V->Value->Prop
 |.o,u=>u=Value.none
 |.v b,u=>u=Value.bool b
 |.int i,u=>∃t,u=Value.int i t
 |.str x,u=>∃t,u=Value.str x t
 |.zH b,u=>∃t,u=Value.bytes b t
 |.zd b,u=>∃t,u=Value.float b t
 |.ref a,u=>u=Value.ref a
 |.ty n,u=>u=Value.type n
abbrev Vals:List V->List Value->Prop:=Paired RelV
theorem Vals.length(r:Vals xs us):xs.length=us.length:=Paired.length r
theorem Vals.get:∀{xs:List V}{us:List Value}{i:Nat}{x:V},Vals xs us->xs[i]?=some x->∃u,us[i]?=some u/\RelV x u
 |_,_,_,_,.nil,e=>by simp at e
 |_,_,0,_,.cons r _,e=>by simp at e;subst e;exact⟨_,rfl,r⟩
 |_,_,i+1,x,.cons _ t,e=>by obtain⟨u,h1,h2⟩:=Vals.get t (by simpa using e);exact⟨u,by simpa using h1,h2⟩
theorem Vals.set(r:RelV x u):∀{xs:List V}{us:List Value}(i:Nat),Vals xs us->Vals (xs.set i x) (us.set i u)
 |_,_,_,.nil=>.nil
 |_,_,0,.cons _ t=>.cons r t
 |_,_,i+1,.cons q t=>.cons q (Vals.set r i t)
theorem Vals.append:∀{xs ys:List V}{us ws:List Value},Vals xs us->Vals ys ws->Vals (xs++ys) (us++ws)
 |_,_,_,_,.nil,s=>s
 |_,_,_,_,.cons r t,s=>.cons r (Vals.append t s)
theorem Vals.take:∀{xs:List V}{us:List Value}(n:Nat),Vals xs us->Vals (xs.take n) (us.take n)
 |_,_,0,_=>.nil
 |_,_,_+1,.nil=>.nil
 |_,_,n+1,.cons r t=>.cons r (Vals.take n t)
theorem Vals.drop:∀{xs:List V}{us:List Value}(n:Nat),Vals xs us->Vals (xs.drop n) (us.drop n)
 |_,_,0,r=>r
 |_,_,_+1,.nil=>.nil
 |_,_,n+1,.cons _ t=>Vals.drop n t
def AO:Option V->Option Value->Prop
 |some v,some u=>RelV v u
 |none,none=>True
 |_,_=>False
def KV{κ:Type}:List (κ×V)->List (κ×Value)->Prop:=Paired λ(p:κ×V)(q:κ×Value)=>p.1=q.1/\RelV p.2 q.2
noncomputable def kV:Key->V
 |.inl i=>.int i
 |.inr x=>.str x
inductive HO where
 |lst (xs:List V)
 |tup (xs:List V)
 |l (ah:List (Key×V))|dT (ah:List (List Key×V))
 |set (S:Int->Bool) (n:Nat)
 |ins (C dx:Addr) (fs:List (Str×V))
 |own (x:Addr)
 |xd (fs:List (Str×V))
 |met (f x:Addr)
 |yP (lo hi:Int)
 |frz (o:Obj) (u:HO)
 |zf (ps:Array Value)
 |ext (φ:Heap->Prop)
abbrev Hp:=Addr->Option HO
noncomputable def upd(H:Hp)(a:Addr)(o:HO):Hp:=λb=>if b=a then some o else H b
theorem Am:upd H a o a=some o:=by unfold upd;rw[if_pos rfl]
theorem Aj(h:b≠a):upd H a o b=H b:=by unfold upd;rw[if_neg h]
theorem Jaz{H:Hp}(h:H a=some o)(h':H b=some u)(d:o≠u):a≠b:=by intro e;subst e;rw[h]at h';exact d (Option.some.inj h')
theorem A4{H:Hp}(h:H a=some o)(h':H b=none):a≠b:=by intro e;subst e;rw[h]at h';cases h'
def PlT(h:Heap)(a:Addr)(items:Array Value):Prop:=∃o,h.get? a=some o/\o.cls=.type "tuple"/\∃n,o.data=.seq items n/\o.dict=none
theorem PlT.tup{h:Heap}{a:Addr}{items:Array Value}(x:PlT h a items):IsTup h a items:=let⟨o,e,c,n,d,_⟩:=x;⟨o,e,c,n,d⟩
theorem PlT.lt{h:Heap}{a:Addr}{items:Array Value}(x:PlT h a items):a<h.objs.size:=x.tup.lt
theorem PlT.new(h:Heap)(items:Array Value):PlT (h.push {cls:=.type "tuple",data:=.seq items}) h.objs.size items:=⟨_,tq _ rfl,rfl,_,rfl,rfl⟩
section
variable(P:Program)(w:World)
def A2(H:Hp)(h:Heap)(a:Addr):HO->Prop
 |.lst xs=>xs.length<=sizeLine/\∃(aq:List Value)(n:Nat),Vals xs aq/\h.get? a=some {cls:=.type "list",data:=.seq aq.toArray n}
 |.tup xs=>xs.length<=sizeLine/\∃aq:List Value,Vals xs aq/\PlT h a aq.toArray
 |.l ah=>ah.length<=sizeLine/\(a==sysModules)=false/\∃vs,KV ah vs/\h.DictOf (AR P w) a vs
 |.dT ah=>ah.length<=sizeLine/\(a==sysModules)=false/\∃xs:List (List Key×Addr×Value),
   Paired (λ(p:List Key×V)(q:List Key×Addr×Value)=>p.1=q.1/\H q.2.1=some (.tup (p.1.map kV))/\RelV p.2 q.2.2) ah xs /\
   ∃o es ep,h.get? a=some o/\o.ExactDict/\o.data=.dict es ep/\es.toList=xs.map (entryOfKey (tupleKind (AR P w)))/\(xs.map (·.1)).Nodup
 |.set S n=>h.SetOf (intKind P w) a S n
 |.ins C dx fs=>H dx=some (.own a)/\fs.length<=1000/\dx≠a/\h.get? a=some (instObj C dx) /\
   ∃mA,h.Ns1 dx mA/\(∀f,AO (fs.lookup f) (mA f))/\PySem.Within mA (fs.map (·.1))
 |.own _=>∃o,h.get? a=some o
 |.xd fs=>∃mA,h.Ns1 a mA/\∀f,AO (fs.lookup f) (mA f)
 |.yP lo hi=>∃t u v,h.get? a=some {cls:=.type "range",data:=.fields #[.int lo t,.int hi u,.int 1 v]}
 |.frz o u=>h.get? a=some o/\A2 H h a u
 |.zf ps=>h.get? a=some {cls:=.none,data:=.fields ps}
 |.met f x=>h.get? a=some (PySem.W.methodObj (.ref f) (.ref x))
 |.ext φ=>φ h/\(∃o,h.get? a=some o)/\∀h1 h2:Heap,φ h1->(∀o,h1.get? a=some o->h2.get? a=some o)->φ h2
def HOk(H:Hp)(h:Heap):Prop:=∀a o,H a=some o->A2 P w H h a o
end
section
variable{P:Program}{w:World}{H H':Hp}{h h':Heap}{a:Addr}{o:HO}
theorem A2.lt(x:A2 P w H h a o):a<h.objs.size:=by cases o with|lst xs=>obtain⟨_,_,_,_,e⟩:=x;exact tj e|tup xs=>obtain⟨_,_,_,p⟩:=x;exact p.lt|l ah=>obtain⟨_,_,_,_,o,_,_,e,_⟩:=x;exact tj e|dT ah=>obtain⟨_,_,_,_,o,_,_,e,_⟩:=x;exact tj e|set S n=>obtain⟨o,_,_,_,e,_⟩:=x;exact tj e|ins C dx fs=>obtain⟨_,_,_,e,_⟩:=x;exact tj e|own y=>obtain⟨_,e⟩:=x;exact tj e|xd fs=>obtain⟨_,⟨_,_,_,e,_⟩,_⟩:=x;exact tj e|yP lo hi=>obtain⟨_,_,_,e⟩:=x;exact tj e|frz ob u=>obtain⟨e,_⟩:=x;exact tj e|zf ps=>exact tj (show h.get? a=some _ from x)|met f y=>exact tj (show h.get? a=some _ from x)|ext φ=>obtain⟨_,⟨_,e⟩,_⟩:=x;exact tj e
theorem Paired.JaB:∀{l₁:List α}{l₂:List β},Paired F l₁ l₂->(∀a b,F a b->G a b)->Paired G l₁ l₂
 |_,_,.nil,_=>.nil
 |_,_,.cons r t,f=>.cons (f _ _ r) (Paired.JaB t f)
theorem A2.Mt(x:A2 P w H h a o)(k:∀b u,(b=a\/H b=some (.own a))->h.get? b=some u->h'.get? b=some u)
  (ho:∀b,H b=some (.own a)->H' b=some (.own a)) (ht:∀b xs,H b=some (.tup xs)->H' b=some (.tup xs)):A2 P w H' h' a o:=by
 induction o with|lst xs=>obtain⟨z,aq,n,r,e⟩:=x;exact⟨z,aq,n,r,k _ _ (.inl rfl) e⟩|tup xs=>obtain⟨z,aq,r,ob,e,c⟩:=x;exact⟨z,aq,r,ob,k _ _ (.inl rfl) e,c⟩|l ah=>obtain⟨z,y,vs,r,ob,es,ep,e,c⟩:=x;exact⟨z,y,vs,r,ob,es,ep,k _ _ (.inl rfl) e,c⟩|dT ah =>obtain⟨z,y,xs,r,ob,es,ep,e,c⟩:=x;exact⟨z,y,xs,Paired.JaB r λp q z=>⟨z.1,ht _ _ z.2.1,z.2.2⟩,ob,es,ep,k _ _ (.inl rfl) e,c⟩|set S n=>obtain⟨ob,es,ep,t,e,c⟩:=x;exact⟨ob,es,ep,t,k _ _ (.inl rfl) e,c⟩|ins C dx fs =>obtain⟨d,z,ne,e,mA,⟨od,es,ep,e2,c⟩,r⟩:=x;exact⟨ho _ d,z,ne,k _ _ (.inl rfl) e,mA,⟨od,es,ep,k _ _ (.inr d) e2,c⟩,r⟩|own y=>obtain⟨ob,e⟩:=x;exact⟨ob,k _ _ (.inl rfl) e⟩|xd fs=>obtain⟨mA,⟨od,es,ep,e,c⟩,r⟩:=x;exact⟨mA,⟨od,es,ep,k _ _ (.inl rfl) e,c⟩,r⟩|yP lo hi=>obtain⟨t,u,v,e⟩:=x;exact⟨t,u,v,k _ _ (.inl rfl) e⟩|frz ob u ih=>obtain⟨e,q⟩:=x;exact⟨k _ _ (.inl rfl) e,ih q⟩|zf ps =>have e:=x;exact k a _ (.inl rfl) e|met f y =>have e:=x;exact k a _ (.inl rfl) e|ext φ=>obtain⟨p,⟨o,e⟩,st⟩:=x;exact⟨st _ _ p λo q=>k _ _ (.inl rfl) q,⟨o,k _ _ (.inl rfl) e⟩,st⟩
theorem HOk.lt(x:HOk P w H h)(e:H a=some o):a<h.objs.size:=(x a o e).lt
theorem HOk.fresh(x:HOk P w H h)(e:h.objs.size<=a):H a=none:=by cases q:H a with|none=>rfl|some u=>exact absurd (tE (x.lt q) e) (uw _)
theorem HOk.kept(x:HOk P w H h)(k:∀b u,h.get? b=some u->h'.get? b=some u):HOk P w H h':=λa o e =>(x a o e).Mt (λb u _ q=>k b u q) (λ_ q=>q) λ_ _ q=>q
theorem HOk.laid(x:HOk P w H h)(k:∀b u,h.get? b=some u->h'.get? b=some u)(hp:h.objs.size<=a)(new:A2 P w (upd H a o) h' a o):HOk P w (upd H a o) h':=λb u e=>by
 have hn:=x.fresh hp;by_cases hb:b=a
 .subst hb;rw[Am]at e;cases e;exact new
 .rw[Aj hb]at e;exact(x b u e).Mt (λc v _ q=>k c v q) (λc q=>by rwa[Aj (A4 q hn)]) λc xs q=>by rwa[Aj (A4 q hn)]
end
def Rd(H:Hp)(a:Addr)(u:HO):Prop:=H a=some u\/∃o,H a=some (.frz o u)
theorem Rd.ok(r:Rd H a u)(x:HOk P w H h):A2 P w H h a u:=by
 rcases r with r|⟨o,r⟩
 .exact x a u r
 .obtain⟨_,q⟩:=x a _ r;exact q
def Mut:Option HO->Prop
 |some (.lst _)=>True
 |some (.l _)=>True
 |some (.dT _)=>True
 |some (.set _ _)=>True
 |some (.ins _ _ _)=>True
 |some (.ext _)=>True
 |_=>False
section
variable{P:Program}{w:World}{H:Hp}{h h':Heap}{x e:Addr}{o':HO}
theorem HOk.write(ok:HOk P w H h)(mu:Mut (H x))(he:e=x\/H e=some (.own x))(k:∀b u,b≠e->h.get? b=some u->h'.get? b=some u)(ix:∃u,h'.get? e=some u)
  (new:A2 P w (upd H x o') h' x o'):HOk P w (upd H x o') h':=λb u q=>by
 have jn:∀c y,H c=some (.own y)->c≠x:=λc y r z=>by subst z;rwa[r]at mu
 have lg:∀c xs,H c=some (.tup xs)->c≠x:=λc xs r z=>by subst z;rwa[r]at mu
 by_cases hb:b=x
 .subst hb;rw[Am]at q;cases q;exact new
 .rw[Aj hb]at q;by_cases fm:b=e
  .have q':H b=some (.own x):=by
    rcases he with z|z
    .exact absurd (fm.trans z) hb
    .rwa[fm]
   rw[q]at q';cases q';obtain⟨v,hv⟩:=ix;exact⟨v,by rwa[fm]⟩
  .refine(ok b u q).Mt (λc v hc r=>k c v ?_ r) (λc r=>by rwa[Aj (jn c b r)]) λc xs r=>by rwa[Aj (lg c xs r)]
   rcases hc with rfl|hc
   .exact fm
   .rintro rfl
    rcases he with z|z
    .exact jn c b hc z
    .rw[hc]at z;cases z;exact hb rfl
end
structure Un(fs ex:List Addr)(H H':Hp)(h h':Heap):Prop where
 keep:∀b o,h.get? b=some o->H b=none->b∉fs->b∉ex->h'.get? b=some o
 slot:∀b o,h.get? b=some o->H b=none->b∈fs->b∉ex->∃sl,h'.get? b=some {o with slots:=sl}
 free:∀b o,h.get? b=some o->H b=none->b∉ex->H' b=none
 there:∀b o,h.get? b=some o->b∉ex->∃o',h'.get? b=some o'
 zL:∀b xs,H b=some (.tup xs)->H' b=some (.tup xs)
 zV:∀b o u,H b=some (.frz o u)->H' b=some (.frz o u)
 zN:∀b ps,H b=some (.zf ps)->∃more,H' b=some (.zf (ps++more))
section
variable{fs ar ex kh:List Addr}{H H1 H2:Hp}{h h1 h2 h':Heap}{a x e:Addr}{o:HO}
theorem Un.any(u:Un fs ex H H1 h h1){b:Addr}{ob:Obj}(q:h.get? b=some ob)(n:H b=none)(hx:b∉ex):∃sl,h1.get? b=some {ob with slots:=sl}:=by
 by_cases hb:b∈fs
 .exact u.slot b ob q n hb hx
 .exact⟨ob.slots,u.keep b ob q n hb hx⟩
theorem Un.kept(k:∀b u,h.get? b=some u->h'.get? b=some u):Un fs ex H H h h' :=
 ⟨λb ob q _ _ _=>k b ob q,λb ob q _ _ _=>⟨ob.slots,k b ob q⟩,λ_ _ _ n _=>n,λb ob q _=>⟨ob,k b ob q⟩,λ_ _ q=>q,λ_ _ _ q=>q,λ_ ps q=>⟨#[],by rw[q];simp⟩⟩
theorem Un.refl:Un fs ex H H h h:=Un.kept λ_ _ q=>q
theorem Un.laid(k:∀b u,h.get? b=some u->h'.get? b=some u)(hp:h.objs.size<=a)(hn:H a=none):Un fs ex H (upd H a o) h h' where
 keep:=λb u q _ _ _=>k b u q
 slot:=λb u q _ _ _=>⟨u.slots,k b u q⟩
 free:=λb u q n _=>by rwa[Aj (tN (tE (tj q) hp))]
 there:=λb u q _=>⟨u,k b u q⟩
 zL:=λb xs q=>by rwa[Aj (A4 q hn)]
 zV:=λb u xs q=>by rwa[Aj (A4 q hn)]
 zN:=λb ps q=>⟨#[],by rw[Aj (A4 q hn),q];simp⟩
theorem Un.write(mu:Mut (H x))(he:e=x\/H e=some (.own x))(k:∀b u,b≠e->h.get? b=some u->h'.get? b=some u)(ix:∃u,h'.get? e=some u):Un fs ex H (upd H x o) h h':=by
 have hx:∀b,H b=none->b≠x:=λb n z=>by subst z;rwa[n]at mu
 have hb:∀b,H b=none->b≠e:=λb n z=>by
  subst z;rcases he with r|r
  .exact hx b n r
  .rw[n]at r;cases r
 have hm:∀b u,H b=some u->¬Mut (some u)->b≠x:=λb u q nm z=>by subst z;rw[q]at mu;exact nm mu
 refine⟨λb u q n _ _=>k b u (hb b n) q,λb u q n _ _=>⟨u.slots,k b u (hb b n) q⟩,λb u q n _=>by rw[Aj (hx b n)];exact n,λb u q _=>?_,
  λb xs q=>by rw[Aj (hm b _ q λz=>z)];exact q,λb u xs q=>by rw[Aj (hm b _ q λz=>z)];exact q,λb ps q=>⟨#[],by rw[Aj (hm b _ q λz=>z),q];simp⟩⟩
 by_cases fm:b=e
 .subst fm;exact ix
 .exact⟨u,k b u fm q⟩
end
noncomputable def trk(h:Heap)(H:Hp):List Addr:=(List.range h.objs.size).filter λa=>(H a).isSome
noncomputable def PN(h:Heap)(H:Hp):Heap:=PySem.W.hideAll h (trk h H)
theorem NA(h:Heap)(H:Hp):(PN h H).objs.size=h.objs.size:=PySem.W.hideAll_size _ _
theorem PM(e:h.get? b=some o)(n:H b=none):(PN h H).get? b=some o :=
 PySem.W.hideAll_get _ e λhm=>by have q:=(uJ.mp hm).2;rw[n]at q;simp at q
theorem Tr(e:(PN h H).get? b=some o):h.get? b=some o/\H b=none:=by have e':=PySem.W.of_hideAll (trk h H) e;refine⟨e',?_⟩;cases q:H b with|none=>rfl|some x =>have hm:b∈trk h H:=uJ.mpr ⟨uQ.mpr (tj e'),by simp[q]⟩;have z:(PN h H).get? b=none:=PySem.W.hideAll_none (trk h H) hm;rw[z]at e;cases e
structure Mod(K:Fg)(mg:Str->Option Value)(base:Heap):Prop where
 yX:K.In base
 glob:base.Ns mainGlobals mg
 blt:∃mb,base.Ns builtinsNs mb/\∀x:Str,x≠"__name__"->mb x=bootBuiltins x
 nolimit:base.NoLimit
structure Cx where
 prog:Program
 w:World
 K:Fg
 mg:Str->Option Value
 base:Heap
 A:Around
 N:List Str
 zZ:Shared
 zo:Hp
 env:Env
 outer:List Env
 stack:List Env
 ex:List Addr
 fn:Str->Bool
 calm:Bool
 pn:List (Addr×Obj)
 xe:Value->Shared->Prop
noncomputable def frs(l:List Env):List Addr:=l.filterMap (·.frame)
abbrev Cx.fs(X:Cx):List Addr:=frs X.outer
def Vis(sc:Scope)(x:Str):Prop:=sc.names.lookup x=some .local\/sc.names.lookup x=some .cell\/sc.names.lookup x=some .free
def Loc(sc:Scope)(x:Str):Prop:=sc.names.lookup x=some .local\/sc.names.lookup x=some .cell
def Look(env:Env)(h:Heap)(m:Str->Option Value)(x:Str)(u:Value):Prop :=
 (env.kindOf x=some .local/\m x=some u)\/((env.kindOf x=some .cell\/env.kindOf x=some .free)/\∃c,env.cells.lookup x=some c/\h.IsCell c (some u))
structure Cx.Ok(X:Cx):Prop where
 mod:Mod X.K X.mg X.base
 kind:X.env.scope.kind=.function
 glob:X.env.globals=mainGlobals
 blt:X.env.builtins=builtinsNs
 above:X.zZ.heap.objs.size<=X.env.locals
 inj:∀x y c,X.env.cells.lookup x=some c->X.env.cells.lookup y=some c->x=y
 has:∀x,(X.env.kindOf x=some .cell\/X.env.kindOf x=some .free)->∃c,X.env.cells.lookup x=some c
 ze:∀x c,X.fn x=true->X.env.cells.lookup x=some c->X.zZ.heap.objs.size<=c
 hd:X.calm=true->X.A.handled=none
 frames:X.A.frames=some X.stack
 yW:X.stack=X.outer\/(X.stack=X.env::X.outer/\X.env.frame=some X.env.locals)
 yS:∀b∈X.ex,b≠X.env.locals/\∀x c,X.env.cells.lookup x=some c->c≠b
 bs:∀b o,X.base.get? b=some o->X.zZ.heap.get? b=some o/\X.zo b=none
 zw:X.base.objs.size<=X.zZ.heap.objs.size
 zu:∀b o,X.base.get? b=some o->b∉X.ex
 zv:∀b∈X.ex,b∉X.fs
 KO:X.zZ.heap.FunFrames X.base X.outer
 zg:∀b∈X.fs,X.zo b=none
structure Inv(X:Cx)(aa:List (Addr×Obj))(U:List (Option V))(H:Hp)(s:Shared):Prop where
 ok:X.Ok
 os:s.os=X.zZ.os
 bare:AllBare s.gens
 base:Un X.fs X.ex X.zo H X.zZ.heap s.heap
 loc:∃m,s.heap.Ns X.env.locals m/\∀(i:Nat)(x:Str)(v:V),X.N[i]?=some x->U[i]?=some (some v)->Vis X.env.scope x->∃u,RelV v u/\Look X.env s.heap m x u
 cell:∀x c,X.env.cells.lookup x=some c->∃v,s.heap.IsCell c v
 free:H X.env.locals=none
 zX:∀x c,X.env.cells.lookup x=some c->H c=none
 pin:∀p∈X.pn++aa,s.heap.get? p.1=some p.2/\H p.1=none/\p.1≠X.env.locals/\p.1∉X.fs/\∀v,p.2.data≠.cell v
 z9:HOk X.prog X.w H s.heap
 len:U.length=X.N.length
section
variable{X:Cx}{aa:List (Addr×Obj)}{U:List (Option V)}{H H':Hp}{s:Shared}{h':Heap}
theorem Cx.Ok.nofr(ok:X.Ok)(e:X.base.get? b=some o):b∉X.fs:=λhb=>by have:=(ok.KO.mem hb).1;rw[e]at this;cases this
theorem Inv.bs(I:Inv X aa U H s):∀b o,X.base.get? b=some o->s.heap.get? b=some o/\H b=none:=λb o e =>⟨I.base.keep b o (I.ok.bs b o e).1 (I.ok.bs b o e).2 (I.ok.nofr e) (I.ok.zu b o e),I.base.free b o (I.ok.bs b o e).1 (I.ok.bs b o e).2 (I.ok.zu b o e)⟩
theorem Inv.bk(I:Inv X aa U H s):∀b o,X.base.get? b=some o->s.heap.get? b=some o:=λb o e=>(I.bs b o e).1
theorem Inv.mod(I:Inv X aa U H s):Mod X.K X.mg X.base:=I.ok.mod
theorem Inv.kIn(I:Inv X aa U H s):X.K.In s.heap:=I.ok.mod.yX.keeps I.bk
theorem Inv.lt(I:Inv X aa U H s):X.env.locals<s.heap.objs.size:=let⟨_,hn,_⟩:=I.loc;hn.lt
theorem Inv.sz(I:Inv X aa U H s):X.zZ.heap.objs.size<=s.heap.objs.size:=tQ I.ok.above (vz I.lt)
theorem Inv.nofs(I:Inv X aa U H s)(h:s.heap.objs.size<=a):a∉X.fs:=λhb=>by obtain⟨_,o,ho,_⟩:=I.ok.KO.mem hb;exact absurd (tE (tj ho) (tQ I.sz h)) (uw _)
theorem Inv.cne(I:Inv X aa U H s):∀x c,X.env.cells.lookup x=some c->c≠X.env.locals:=λx c e z=>by obtain⟨v,o,ho,hd⟩:=I.cell x c e;obtain⟨m,⟨o',es,ep,bC,fZ,_⟩,_⟩:=I.loc;rw[z,bC]at ho;cases ho;rw[fZ]at hd;cases hd
theorem Inv.KO(I:Inv X aa U H s):s.heap.FunFrames X.base X.outer:=by
 have all:∀(l:List Env),(∀b∈frs l,b∈X.fs)->X.zZ.heap.FunFrames X.base l->s.heap.FunFrames X.base l:=by
  intro l
  induction l with
  |nil=>intro _ _;trivial
  |cons env r ih =>
   intro hs hl;obtain⟨hk,⟨L,o,hf,hn,ho,hd⟩,hr⟩:=hl;have hL:=hs L (by unfold frs;rw[u5,hf];exact tL);obtain⟨sl,e⟩:=I.base.slot L o ho (I.ok.zg L hL) hL λz=>I.ok.zv L z hL
   exact⟨hk,⟨L,_,hf,hn,e,hd⟩,ih (λb hb=>hs b (by unfold frs;rw[u5,hf];exact sW _ hb)) hr⟩
 exact all X.outer (λ_ hb=>hb) I.ok.KO
theorem Inv.stack(I:Inv X aa U H s):s.heap.FunFrames X.base X.stack:=by
 rcases I.ok.yW with e|⟨e,hf⟩
 .rw[e];exact I.KO
 .rw[e];obtain⟨m,hn,_⟩:=I.loc;refine .cons (by rw[I.ok.kind];decide) hf hn ?_ I.KO;exact Heap.get?_none_of_le (tQ I.ok.zw I.ok.above)
theorem Inv.HS(I:Inv X aa U H s):∀b∈frs X.stack,b∈X.env.locals::X.fs:=λb hb=>by
 rcases I.ok.yW with e|⟨e,hf⟩
 .rw[e]at hb;exact sW _ hb
 .rw[e]at hb;unfold frs at hb;rwa[u5,hf]at hb
theorem Inv.Jw(I:Inv X aa U H s):∀b∈frs X.stack,H b=none:=λb hb=>by
 rcases tH.mp (I.HS b hb)with e|hb
 .rw[e];exact I.free
 .obtain⟨_,o,ho,_⟩:=I.ok.KO.mem hb;exact I.base.free b o ho (I.ok.zg b hb) λz=>I.ok.zv b z hb
theorem Inv.step{ch:List Addr}(I:Inv X aa U H s)
  (fI:∀b∈ch,(b∈X.ex\/X.zZ.heap.objs.size<=b)/\b≠X.env.locals/\(∀x c,X.env.cells.lookup x=some c->c≠b)/\∀p∈X.pn++aa,p.1≠b)
  (keep:∀b o,b≠X.env.locals->b∉X.fs->b∉ch->s.heap.get? b=some o->H b=none->h'.get? b=some o)
  (slot:∀b o,b≠X.env.locals->b∈X.fs->b∉ch->s.heap.get? b=some o->H b=none->∃sl,h'.get? b=some {o with slots:=sl}) (free:∀b o,b∉ch->s.heap.get? b=some o->H b=none->H' b=none)
  (there:∀b o,b∉ch->s.heap.get? b=some o->∃o',h'.get? b=some o')
  (zL:∀b xs,H b=some (.tup xs)->H' b=some (.tup xs)) (zV:∀b o u,H b=some (.frz o u)->H' b=some (.frz o u)) (zN:∀b ps,H b=some (.zf ps)->∃more,H' b=some (.zf (ps++more)))
  (ns:∀m,s.heap.Ns X.env.locals m->h'.Ns X.env.locals m) (z9:HOk X.prog X.w H' h') (hg:AllBare g') :
  Inv X aa U H' {s with heap:=h',gens:=g',drawn:=d',toks:=t' }:=by
 have iB:∀b o,X.zZ.heap.get? b=some o->b≠X.env.locals:=λb o e=>tN (tE (tj e) I.ok.above)
 have jW:∀b o,X.zZ.heap.get? b=some o->b∉X.ex->b∉ch:=λb o e hx hb=>by
  rcases(fI b hb).1 with z|z
  .exact hx z
  .exact absurd (tE (tj e) z) (uw _)
 have c8:∀x c,X.env.cells.lookup x=some c->∀v,s.heap.IsCell c v->h'.IsCell c v:=λx c e v ⟨o,ho,hd⟩=>by
  have jh:=λz=>(fI c z).2.2.1 x c e rfl
  by_cases hc:c∈X.fs
  .obtain⟨sl,q⟩:=slot c o (I.cne x c e) hc jh ho (I.zX x c e);exact⟨_,q,hd⟩
  .exact⟨o,keep c o (I.cne x c e) hc jh ho (I.zX x c e),hd⟩
 refine⟨I.ok,I.os,hg,⟨λb o e n hb hx=>?_,λb o e n hb hx=>?_,λb o e n hx=>?_,λb o e hx=>?_,λb xs e=>zL b xs (I.base.zL b xs e),λb o xs e=>zV b o xs (I.base.zV b o xs e),λb ps e=>?_⟩,?_,λx c e=>?_,?_,λx c e=>?_,λp hp=>?_,z9,I.len⟩
 .exact keep b o (iB b o e) hb (jW b o e hx) (I.base.keep b o e n hb hx) (I.base.free b o e n hx)
 .obtain⟨sl,e1⟩:=I.base.slot b o e n hb hx;obtain⟨lE,e2⟩:=slot b _ (iB b o e) hb (jW b o e hx) e1 (I.base.free b o e n hx);exact⟨lE,e2⟩
 .obtain⟨o',e1⟩:=I.base.there b o e hx;exact free b o' (jW b o e hx) e1 (I.base.free b o e n hx)
 .obtain⟨o',e1⟩:=I.base.there b o e hx;exact there b o' (jW b o e hx) e1
 .obtain⟨m1,e1⟩:=I.base.zN b ps e;obtain⟨m2,e2⟩:=zN b _ e1;exact⟨m1++m2,by rw[e2,Array.append_assoc]⟩
 .obtain⟨m,hn,hl⟩:=I.loc;refine⟨m,ns m hn,λi x v e1 e2 e3=>?_⟩;obtain⟨u,r,l⟩:=hl i x v e1 e2 e3;refine⟨u,r,?_⟩;rcases l with l|⟨k,c,e,z⟩
  .exact .inl l
  .exact .inr ⟨k,c,e,c8 x c e _ z⟩
 .obtain⟨v,z⟩:=I.cell x c e;exact⟨v,c8 x c e v z⟩
 .obtain⟨m,⟨o,_,_,ho,_⟩,_⟩:=I.loc;exact free _ o (λz=>(fI _ z).2.1 rfl) ho I.free
 .obtain⟨v,o,ho,hd⟩:=I.cell x c e;exact free c o (λz=>(fI c z).2.2.1 x c e rfl) ho (I.zX x c e)
 .obtain⟨e,n,ne,nf,d⟩:=I.pin p hp;have jh:=λz=>(fI p.1 z).2.2.2 p hp rfl
  exact⟨keep p.1 p.2 ne nf jh e n,free p.1 p.2 jh e n,ne,nf,d⟩
theorem Inv.un(I:Inv X aa U H s)(u:Un X.fs [] H H' s.heap h')(z9:HOk X.prog X.w H' h'):Inv X aa U H' {s with heap:=h',toks:=t' }:=by obtain⟨m,⟨o,es,ep,ho,r⟩,_⟩:=id I.loc;obtain⟨sl,hL⟩:=u.any ho I.free (by simp);exact I.step (ch:=[]) (λ_ z=>nomatch z) (λb o _ hb _ e n=>u.keep b o e n hb (by simp)) (λb o _ hb _ e n=>u.slot b o e n hb (by simp)) (λb o _ e n=>u.free b o e n (by simp)) (λb o _ e=>u.there b o e (by simp)) u.zL u.zV u.zN (λm' hm=>by obtain⟨o',kg,ke,bC,r'⟩:=hm;rw[ho]at bC;cases bC;exact⟨_,kg,ke,hL,r'⟩) z9 I.bare
theorem Inv.call(I:Inv X aa U H s)(u:Un (frs X.stack) ch H H' s.heap h')(z9:HOk X.prog X.w H' h')(hg:AllBare g')
  (fI:∀b∈ch,(b∈X.ex\/X.zZ.heap.objs.size<=b)/\b≠X.env.locals/\(∀x c,X.env.cells.lookup x=some c->c≠b)/\∀p∈X.pn++aa,p.1≠b) :
  Inv X aa U H' {s with heap:=h',gens:=g',drawn:=d',toks:=t' }:=by
 obtain⟨m,⟨o,es,ep,ho,r⟩,_⟩:=id I.loc;obtain⟨sl,hL⟩:=u.any ho I.free λz=>(fI _ z).2.1 rfl
 exact I.step fI (λb o hL hb hc e n=>u.keep b o e n (λz=>(tH.mp (I.HS b z)).elim hL hb) hc) (λb o _ _ hc e n=>u.any e n hc) (λb o hc e n=>u.free b o e n hc) (λb o hc e=>u.there b o e hc) u.zL u.zV u.zN (λm' hm=>by obtain⟨o',kg,ke,bC,r'⟩:=hm;rw[ho]at bC;cases bC;exact⟨_,kg,ke,hL,r'⟩) z9 hg
theorem Inv.turned(I:Inv X aa U H s)(k:∀b o,b≠it->s.heap.get? b=some o->h'.get? b=some o)(hn:H it=none)(hL:it≠X.env.locals)
  (h1:it∈X.ex\/X.zZ.heap.objs.size<=it) (h2:∀x c,X.env.cells.lookup x=some c->c≠it) (h3:∀p∈X.pn++aa,p.1≠it):Inv X aa U H {s with heap:=h',toks:=t' }:=by
 have gS:∀b u,H b=some u->b≠it:=λb u e z=>by rw[z,hn]at e;cases e
 refine I.step (ch:=[it]) (λb hb=>?_) (λb o _ _ hc e _=>k b o (λz=>hc (by simp[z])) e) (λb o _ _ hc e _=>⟨o.slots,k b o (λz=>hc (by simp[z])) e⟩) (λ_ _ _ _ n=>n)
  (λb o hc e=>⟨o,k b o (λz=>hc (by simp[z])) e⟩) (λ_ _ e=>e) (λ_ _ _ e=>e) (λb ps e=>⟨#[],by rw[e];simp⟩) (λm hm=>?_) (λb u e=>?_) I.bare
 .have e:=by simpa using hb
  subst e;exact⟨h1,hL,h2,h3⟩
 .obtain⟨o,es,ep,ho,r⟩:=hm;exact⟨o,es,ep,k _ o (Ne.symm hL) ho,r⟩
 .refine(I.z9 b u e).Mt (λc v hc q=>k c v ?_ q) (λ_ q=>q) λ_ _ q=>q
  rcases hc with z|z
  .rw[z];exact gS b u e
  .exact gS c _ z
theorem Inv.tok(I:Inv X aa U H s)(t:Nat):Inv X aa U H {s with toks:=t}:=I.un Un.refl I.z9
theorem Inv.kept(I:Inv X aa U H s)(k:∀b u,s.heap.get? b=some u->h'.get? b=some u):Inv X aa U H {s with heap:=h',toks:=t' }:=I.un (Un.kept k) (I.z9.kept k)
theorem Inv.laid(I:Inv X aa U H s)(k:∀b u,s.heap.get? b=some u->h'.get? b=some u)(hp:s.heap.objs.size<=a)(new:A2 X.prog X.w (upd H a o) h' a o) :
  Inv X aa U (upd H a o) {s with heap:=h',toks:=t' }:=I.un (Un.laid k hp (I.z9.fresh hp)) (I.z9.laid k hp new)
theorem Inv.write(I:Inv X aa U H s)(mu:Mut (H x))(he:e=x\/H e=some (.own x))(k:∀b u,b≠e->s.heap.get? b=some u->h'.get? b=some u)(ix:∃u,h'.get? e=some u)
  (new:A2 X.prog X.w (upd H x o) h' x o):Inv X aa U (upd H x o) {s with heap:=h',toks:=t' }:=I.un (Un.write mu he k ix) (I.z9.write mu he k ix new)
theorem Inv.Hj(I:Inv X aa U H s)(h:∀p∈pins',s.heap.get? p.1=some p.2/\H p.1=none/\p.1≠X.env.locals/\p.1∉X.fs/\∀v,p.2.data≠.cell v):Inv X pins' U H s :=
 ⟨I.ok,I.os,I.bare,I.base,I.loc,I.cell,I.free,I.zX,λp hp=>(sZ.mp hp).elim (λz=>I.pin p (tm _ z)) (h p),I.z9,I.len⟩
theorem Hr{N:List Str}(hN:N.Nodup){i j:Nat}(a:N[i]?=some x)(b:N[j]?=some x):i=j:=by obtain⟨h1,e1⟩:=sY.mp a;obtain⟨h2,e2⟩:=sY.mp b;exact(List.getElem_inj hN).mp (e1.trans e2.symm)
theorem HR(I:Inv X aa U H s)(hN:X.N.Nodup)(hi:X.N[i]?=some x)(hx:Loc X.env.scope x)(r:RelV v u)
  (h:∀s',Inv X aa (U.set i (some v)) H s'->(∃a,Heap.SameBut a s.heap s'.heap/\(a=X.env.locals\/X.env.cells.lookup x=some a))->Q () s') (hf:X.fn x=true\/X.env.scope.names.lookup x=some .local:=by first|exact .inl rfl|exact .inr rfl|assumption):wpAny M A (storeName X.env x u) Q E s:=by
 obtain⟨m,hn,hl⟩:=id I.loc;have cn:(X.env.scope.kind==.class||(X.env.scope.kind==.module&&X.env.locals !=X.env.globals))=false:=by rw[I.ok.kind];rfl
 have fu:i<U.length:=by rw[I.len];exact(sY.mp hi).1
 have cne:=I.cne;have dZ:∀{a:Addr}{h':Heap},(∃o,s.heap.get? a=some o/\H a=none)->Heap.SameBut a s.heap h'->HOk X.prog X.w H h':=λ{a h'} ha hs b ob e=>by
  obtain⟨_,_,gJ⟩:=ha;refine(I.z9 b ob e).Mt (λc w' hc q=>(hs.2 c ?_).trans q) (λ_ q=>q) λ_ _ q=>q
  rintro rfl
  rcases hc with rfl|hc
  .rw[gJ]at e;cases e
  .rw[gJ]at hc;cases hc
 rcases hx with hk|hk
 .refine wpAny_storeName_local hk hn (λh' qC hs=>?_) cn;obtain⟨oL,_,_,qF,_⟩:=id hn;refine h _ ⟨I.ok,I.os,I.bare,⟨λb o e n hb hx=>?_,λb o e n hb hx=>?_,I.base.free,λb o e hx=>?_,I.base.zL,I.base.zV,I.base.zN⟩,⟨_,qC,λj y v' e1 e2 e3=>?_⟩,λy c e=>?_,I.free,I.zX,λp hp=>?_,dZ ⟨oL,qF,I.free⟩ hs,by simpa using I.len⟩ ⟨_,hs,.inl rfl⟩
  .exact(hs.2 b (tN (tE (tj e) I.ok.above))).trans (I.base.keep b o e n hb hx)
  .obtain⟨sl,e1⟩:=I.base.slot b o e n hb hx;exact⟨sl,(hs.2 b (tN (tE (tj e) I.ok.above))).trans e1⟩
  .obtain⟨o',e1⟩:=I.base.there b o e hx;exact⟨o',(hs.2 b (tN (tE (tj e) I.ok.above))).trans e1⟩
  .by_cases hj:j=i
   .subst hj;rw[hi]at e1;cases e1;rw[um fu]at e2;cases e2;exact⟨u,r,.inl ⟨hk,by simp⟩⟩
   .rw[uq (Ne.symm hj)]at e2;obtain⟨u',r',q⟩:=hl j y v' e1 e2 e3;refine⟨u',r',?_⟩;rcases q with⟨k,e⟩|⟨k,c,e,z⟩
    .refine .inl ⟨k,?_⟩;have:y≠x:=λe=>hj (Hr hN e1 (e▸hi))
     simp[this,e]
    .exact .inr ⟨k,c,e,z.sameBut hs (cne y c e)⟩
  .obtain⟨w',z⟩:=I.cell y c e;exact⟨w',z.sameBut hs (cne y c e)⟩
  .obtain⟨e,n,ne,nf,d⟩:=I.pin p hp;exact⟨(hs.2 p.1 ne).trans e,n,ne,nf,d⟩
 .have gh:X.fn x=true:=by
   rcases hf with z|z
   .exact z
   .rw[z]at hk;cases hk
  obtain⟨c,hc⟩:=I.ok.has x (.inl hk);obtain⟨w',z⟩:=I.cell x c hc;refine wpAny_storeName_cell I.ok.kind hk hc z (λh' jJ hs=>?_);obtain⟨oc,jM,qH⟩:=id z;refine h {s with heap:=h' } ⟨I.ok,I.os,I.bare,⟨λb o e n hb hx=>?_,λb o e n hb hx=>?_,I.base.free,λb o e hx=>?_,I.base.zL,I.base.zV,I.base.zN⟩,⟨m,hn.sameBut hs (Ne.symm (cne x c hc)),λj y v' e1 e2 e3=>?_⟩,λy c' e=>?_,I.free,I.zX,λp hp=>?_,dZ ⟨oc,jM,I.zX x c hc⟩ hs,by simpa using I.len⟩ ⟨c,hs,.inr hc⟩
  .exact(hs.2 b (tN (tE (tj e) (I.ok.ze x c gh hc)))).trans (I.base.keep b o e n hb hx)
  .obtain⟨sl,e1⟩:=I.base.slot b o e n hb hx;exact⟨sl,(hs.2 b (tN (tE (tj e) (I.ok.ze x c gh hc)))).trans e1⟩
  .obtain⟨o',e1⟩:=I.base.there b o e hx;exact⟨o',(hs.2 b (tN (tE (tj e) (I.ok.ze x c gh hc)))).trans e1⟩
  .by_cases hj:j=i
   .subst hj;rw[hi]at e1;cases e1;rw[um fu]at e2;cases e2;exact⟨u,r,.inr ⟨.inl hk,c,hc,jJ⟩⟩
   .rw[uq (Ne.symm hj)]at e2;obtain⟨u',r',q⟩:=hl j y v' e1 e2 e3;refine⟨u',r',?_⟩;rcases q with q|⟨k,c',e,z'⟩
    .exact .inl q
    .refine .inr ⟨k,c',e,z'.sameBut hs ?_⟩
     rintro rfl
     exact hj (Hr hN e1 (I.ok.inj _ _ _ e hc▸hi))
  .by_cases ku:c'=c
   .subst ku;exact⟨_,jJ⟩
   .obtain⟨w2,z2⟩:=I.cell y c' e;exact⟨w2,z2.sameBut hs ku⟩
  .obtain⟨e,n,ne,nf,d⟩:=I.pin p hp;refine⟨(hs.2 p.1 ?_).trans e,n,ne,nf,d⟩;intro q;rw[q,jM]at e;have q':=Option.some.inj e;exact d w' (by rwa[<- q'])
theorem Dh(I:Inv X aa U H s)(hN:X.N.Nodup)(hi:X.N[i]?=some x)(hx:Loc X.env.scope x)(r:RelV v u)
  (h:∀s',Inv X aa (U.set i (some v)) H s'->Q () s') (hf:X.fn x=true\/X.env.scope.names.lookup x=some .local:=by first|exact .inl rfl|exact .inr rfl|assumption):wpAny M A (storeName X.env x u) Q E s :=
 HR I hN hi hx r (λs' I' _=>h s' I') hf
theorem Inv.YM(I:Inv X aa U H s)(ho:s'.os=s.os)(u:Un (frs X.stack) ch H H' s.heap s'.heap)(z9:HOk X.prog X.w H' s'.heap)(hg:AllBare s'.gens)
  (fI:∀b∈ch,(b∈X.ex\/X.zZ.heap.objs.size<=b)/\b≠X.env.locals/\(∀x c,X.env.cells.lookup x=some c->c≠b)/\∀p∈X.pn++aa,p.1≠b):Inv X aa U H' s':=by
 obtain⟨h',g',d',t',o'⟩:=s';have e:=ho;subst e;exact I.call u z9 hg fI
end
abbrev XK:=Value->Option Addr->Hp->Prop
abbrev St:=List (Option V)
abbrev VK:=V->Hp->Prop
abbrev TE:=St->Hp->VK->Prop
abbrev TT:=St->Hp->(Bool->Hp->Prop)->Prop
abbrev TA:=St->Hp->(List V->Hp->Prop)->Prop
structure Ends where
 nx:St->Hp->Prop
 rt:VK
 bk:St->Hp->Prop:=λ_ _=>False
 ct:St->Hp->Prop:=λ_ _=>False
abbrev TS:=Ends->St->Hp->Prop
inductive EP(X:Cx)(aa:List (Addr×Obj))(U:St)(Q:VK)(u:Value)(s':Shared):Prop
 |mk (v:V) (H':Hp) (h0:Inv X aa U H' s') (h1:RelV v u) (h2:Q v H')
def TP(X:Cx)(aa:List (Addr×Obj))(U:St)(Q:Bool->Hp->Prop)(b:Bool)(s':Shared):Prop:=∃H',Inv X aa U H' s'/\Q b H'
inductive AP(X:Cx)(aa:List (Addr×Obj))(U:St)(Q:List V->Hp->Prop)(us:List Value)(s':Shared):Prop
 |mk (vs:List V) (H':Hp) (h0:Inv X aa U H' s') (h1:Vals vs us) (h2:Q vs H')
inductive NP(X:Cx)(aa:List (Addr×Obj))(Q:St->Hp->Prop)(s':Shared):Prop
 |mk (av:St) (H':Hp) (h0:Inv X aa av H' s') (h1:Q av H')
inductive RtP(X:Cx)(aa:List (Addr×Obj))(Q:VK)(u:Value)(s':Shared):Prop
 |mk (v:V) (av:St) (H':Hp) (h0:Inv X aa av H' s') (h1:RelV v u) (h2:Q v H')
inductive HP(X:Cx)(aa:List (Addr×Obj))(U:St)(Q:Hp->Prop)(s':Shared):Prop
 |mk (H':Hp) (h0:Inv X aa U H' s') (h1:Q H')
def SP(X:Cx)(aa:List (Addr×Obj))(D:Ends)(f:Flow)(s':Shared):Prop :=
 match f with|.next=>NP X aa D.nx s'|.brk=>NP X aa D.bk s'|.cont=>NP X aa D.ct s'|.ret u=>RtP X aa D.rt u s'
def PE(X:Cx)(e:Expr)(t:TE):Prop :=
 ∀(aa:List (Addr×Obj))(s:Shared)(U:St)(H:Hp)(Q:VK),Inv X aa U H s->t U H Q->wpAny (model X.prog X.w) X.A (eval e X.env) (EP X aa U Q) X.xe s
def PT(X:Cx)(e:Expr)(t:TT):Prop :=
 ∀(aa:List (Addr×Obj))(s:Shared)(U:St)(H:Hp)(Q:Bool->Hp->Prop),Inv X aa U H s->t U H Q->wpAny (model X.prog X.w) X.A (isTrue e X.env (eval e X.env)) (TP X aa U Q) X.xe s
def PW(X:Cx)(e:Expr)(t:TT):Prop :=
 ∀(bA:Sem Value)(aa:List (Addr×Obj))(s:Shared)(U:St)(H:Hp)(Q:Bool->Hp->Prop),Inv X aa U H s->t U H Q->wpAny (model X.prog X.w) X.A (isTrue e X.env bA) (TP X aa U Q) X.xe s
theorem PW.pt(h:PW X e t):PT X e t:=h _
def PA(X:Cx)(es:List Expr)(t:TA):Prop :=
 ∀(pos:Pos)(aa:List (Addr×Obj))(s:Shared)(U:St)(H:Hp)(Q:List V->Hp->Prop),Inv X aa U H s->t U H Q->wpAny (model X.prog X.w) X.A (spliced (backTo pos (starEach es X.env))) (AP X aa U Q) X.xe s
def PS(X:Cx)(st:Stmt)(t:TS):Prop :=
 ∀(aa:List (Addr×Obj))(s:Shared)(U:St)(H:Hp)(D:Ends),Inv X aa U H s->t D U H->wpAny (model X.prog X.w) X.A (exec st X.env) (SP X aa D) X.xe s
def PSs(X:Cx)(st:List Stmt)(t:TS):Prop :=
 ∀(aa:List (Addr×Obj))(s:Shared)(U:St)(H:Hp)(D:Ends),Inv X aa U H s->t D U H->wpAny (model X.prog X.w) X.A (execs st X.env) (SP X aa D) X.xe s
theorem thn(h:wpAny M A t Q E s)(hQ:∀a s,Q a s->Q' a s):wpAny M A t Q' E s:=wpAny_mono h hQ λ_ _ x=>x
section
variable{X:Cx}
inductive Ow(i:Nat)(U:St)(H:Hp)(Q:VK):Prop
 |mk (v:_) (h0:U[i]?=some (some v)) (h1:Q v H)
def tC(v:V):TE:=λ_ H Q=>Q v H
theorem Wy(hN:X.N[i]?=some x)(hv:Vis X.env.scope x)(hd:(x==("__debug__":Str))=false:=by decide)(eC:(x==("__classdict__":Str))=false:=by decide):PE X (.Name x pos) (Ow i):=by
 intro aa s U H Q I h;obtain⟨v,e,h⟩:=h;obtain⟨m,hn,hl⟩:=I.loc;obtain⟨u,r,l⟩:=hl i x v hN e hv;have ba:EP X aa U Q u s:=⟨v,H,I,r,h⟩
 rcases l with⟨hk,hm⟩|⟨hk,c,hc,hcell⟩
 .exact wpAny_Name (wpAny_loadName_local I.ok.kind hk hn hm ba) hd
 .rcases hk with hk|hk
  .exact wpAny_Name (wpAny_loadName_cell I.ok.kind hk hc hcell ba) hd
  .exact wpAny_Name (wpAny_loadName_free I.ok.kind hk hc hcell ba eC) hd
theorem WG:PE X (.Constant (.int i) j pos) (tC (.int i)):=λ_ _ _ H _ I h=>wpAny_Constant_int ⟨.int i,H,I.tok _,⟨_,rfl⟩,h⟩
theorem Jav:PE X (.Constant (.bool b) j pos) (tC (.v b)):=λ_ _ _ H _ I h=>Constant_bool ⟨.v b,H,I,rfl,h⟩
theorem WC:PE X (.Constant .none j pos) (tC .o):=λ_ _ _ H _ I h=>Constant_none ⟨.o,H,I,rfl,h⟩
theorem WA:PE X (.Constant (.str x) j pos) (tC (.str x)):=λ_ _ _ H _ I h=>Calls.Constant_str ⟨.str x,H,I.tok _,⟨_,rfl⟩,h⟩
def Gl(X:Cx)(x:Str):Prop:=X.env.kindOf x=some .globalImplicit
theorem Eg(I:Inv X aa U H s)(hg:Gl X x)(hm:X.mg x=some u)(h:Q u s)
  (hd:(x==("__debug__":Str))=false:=by decide):wpAny (model X.prog X.w) X.A (eval (.Name x pos) X.env) Q E s :=
 Calls.Name_function_global I.ok.kind hg (Calls.loadGlobal_global (by rw[I.ok.glob];exact I.mod.glob.keeps I.bk) hm h) hd
theorem Ey(I:Inv X aa U H s)(hg:Gl X x)(hm:X.mg x=none)(hv:bootBuiltins x=some u)(h:Q u s)
  (hn:x≠"__name__":=by decide) (hd:(x==("__debug__":Str))=false:=by decide):wpAny (model X.prog X.w) X.A (eval (.Name x pos) X.env) Q E s:=by
 obtain⟨mb,h1,h2⟩:=I.mod.blt;exact Calls.Name_function_global I.ok.kind hg (Calls.loadGlobal_builtin (by rw[I.ok.glob];exact I.mod.glob.keeps I.bk) hm (by rw[I.ok.blt];exact h1.keeps I.bk) ((h2 x hn).trans hv) h) hd
theorem MO(hg:Gl X x)(hm:X.mg x=some u)(r:RelV v u)(hd:(x==("__debug__":Str))=false:=by decide):PE X (.Name x pos) (tC v) :=
 λ_ _ _ H _ I h=>Eg I hg hm ⟨v,H,I,r,h⟩ hd
theorem MQ(hg:Gl X x)(hm:X.mg x=none)(hv:bootBuiltins x=some u)(r:RelV v u)(hn:x≠"__name__":=by decide)(hd:(x==("__debug__":Str))=false:=by decide):PE X (.Name x pos) (tC v) :=
 λ_ _ _ H _ I h=>Ey I hg hm hv ⟨v,H,I,r,h⟩ hn hd
variable{a b:Expr}{ta tb:TE}{pos:Pos}
variable{tA j5:TT}{rest:List Expr}
def tAnd(t u:TT):TT:=λU H Q=>t U H λc H1=>if c=true then u U H1 Q else Q false H1
def tOr(t u:TT):TT:=λU H Q=>t U H λc H1=>if c=true then Q true H1 else u U H1 Q
def tNot(t:TT):TT:=λU H Q=>t U H λc H1=>Q (!c) H1
theorem SH(ha:PT X a tA):PW X (.BoolOp .And [a] pos) tA:=by intro wh aa s U H Q I h;refine isTrue_and (thn (ha aa s U H Q I h) λc s1 e=>?_);cases c with|true=>exact isTrue_and_nil e|false=>exact e
theorem Wh(ha:PT X a tA):PW X (.BoolOp .Or [a] pos) tA:=by intro wh aa s U H Q I h;refine isTrue_or (thn (ha aa s U H Q I h) λc s1 e=>?_);cases c with|false=>exact isTrue_or_nil e|true=>exact e
theorem Wi(ha:PT X a tA)(hb:PW X (.BoolOp .And (b::rest) pos) j5):PW X (.BoolOp .And (a::b::rest) pos) (tAnd tA j5):=by intro wh aa s U H Q I h;refine isTrue_and (thn (ha aa s U H _ I h) λc s1 ao=>?_);obtain⟨H1,I1,q1⟩:= ao;cases c with|true=>exact hb wh aa s1 U H1 Q I1 q1|false=>exact⟨H1,I1,q1⟩
theorem Jak(ha:PT X a tA)(hb:PW X (.BoolOp .Or (b::rest) pos) j5):PW X (.BoolOp .Or (a::b::rest) pos) (tOr tA j5):=by intro wh aa s U H Q I h;refine isTrue_or (thn (ha aa s U H _ I h) λc s1 ao=>?_);obtain⟨H1,I1,q1⟩:= ao;cases c with|true=>exact⟨H1,I1,q1⟩|false=>exact hb wh aa s1 U H1 Q I1 q1
theorem Wl(ha:PT X a tA):PT X (.UnaryOp .Not a pos) (tNot tA):=by intro aa s U H Q I h;exact isTrue_not (ha aa s U H (λc H1=>Q (!c) H1) I h)
def Z9(ta tb:TE):TE:=λU H Q=>ta U H λx H1=>∃c,x=.v c/\if c=true then tb U H1 Q else Q (.v false) H1
def tOrV(ta tb:TE):TE:=λU H Q=>ta U H λx H1=>∃c,x=.v c/\if c=true then Q (.v true) H1 else tb U H1 Q
theorem WB(h:PE X a t):PE X (.BoolOp op [a] pos) t:=λaa s U H Q I hw=>BoolOp_one (h aa s U H Q I hw)
theorem WI(ha:PE X a ta)(hb:PE X (.BoolOp .And (b::rest) pos) tb):PE X (.BoolOp .And (a::b::rest) pos) (Z9 ta tb):=by intro aa s U H Q I h;refine BoolOp_and (thn (ha aa s U H _ I h) λv s1 ao=>?_);obtain⟨x,H1,I1,r1,q1⟩:= ao;obtain⟨c,rfl,q1⟩:=q1;cases r1;refine wpAny_truthy_bool ?_;cases c with|true=>exact hb aa s1 U H1 Q I1 q1|false=>exact⟨.v false,H1,I1,rfl,q1⟩
theorem Jan(ha:PE X a ta)(hb:PE X (.BoolOp .Or (b::rest) pos) tb):PE X (.BoolOp .Or (a::b::rest) pos) (tOrV ta tb):=by intro aa s U H Q I h;refine BoolOp_or (thn (ha aa s U H _ I h) λv s1 ao=>?_);obtain⟨x,H1,I1,r1,q1⟩:= ao;obtain⟨c,rfl,q1⟩:=q1;cases r1;refine wpAny_truthy_bool ?_;cases c with|false=>exact hb aa s1 U H1 Q I1 q1|true=>exact⟨.v true,H1,I1,rfl,q1⟩
end
def SqL(K:Fg)(H:Hp)(a:Addr)(xs:List V):Prop :=
 Rd H a (.lst xs)\/
  ∃(o:Obj)(aq:Array Value)(n:Nat),K.lookup a=some o/\o.cls=.type "list"/\o.dict=none/\o.data=.seq aq n/\aq.size<=sizeLine/\Vals xs aq.toList
def SqT(K:Fg)(H:Hp)(a:Addr)(xs:List V):Prop :=
 Rd H a (.tup xs)\/
  ∃(o:Obj)(aq:Array Value)(n:Nat),K.lookup a=some o/\o.cls=.type "tuple"/\o.data=.seq aq n/\aq.size<=sizeLine/\Vals xs aq.toList
noncomputable def absV:Value->Option V
 |.none=>some .o
 |.bool b=>some (.v b)
 |.int i _=>some (.int i)
 |.str x _=>some (.str x)
 |.bytes b _=>some (.zH b)
 |.float b _=>some (.zd b)
 |.ref a=>some (.ref a)
 |.type n=>some (.ty n)
 |_=>none
theorem RelV.abs(r:RelV x u):absV u=some x:=by cases x with|o=>cases r;rfl|v _=>cases r;rfl|int _=>obtain⟨t,rfl⟩:=r;rfl|str _=>obtain⟨t,rfl⟩:=r;rfl|zH _=>obtain⟨t,rfl⟩:=r;rfl|zd _=>obtain⟨t,rfl⟩:=r;rfl|ref _=>cases r;rfl|ty _=>cases r;rfl
theorem RelV.inj(r:RelV x u)(q:RelV y u):x=y:=Option.some.inj (r.abs.symm.trans q.abs)
theorem Vals.inj:∀{xs ys:List V}{us:List Value},Vals xs us->Vals ys us->xs=ys
 |_,_,_,.nil,.nil=>rfl
 |_,_,_,.cons r t,.cons r' t'=>by rw[r.inj r',Vals.inj t t']
section
variable{X:Cx}{aa:List (Addr×Obj)}{U:St}{H:Hp}{s:Shared}{a:Addr}{xs ys:List V}
theorem SqL.of{K:Fg}(h:H a=some (.lst xs)):SqL K H a xs:=.inl (.inl h)
theorem SqT.of{K:Fg}(h:H a=some (.tup xs)):SqT K H a xs:=.inl (.inl h)
theorem Inv.list(I:Inv X aa U H s)(h:SqL X.K H a xs):∃aq:List Value,Vals xs aq/\PlainL s.heap a aq.toArray/\xs.length<=sizeLine:=by
 rcases h with h|⟨o,aq,n,hk,hc,hd,hs,hz,r⟩
 .obtain⟨z,aq,n,r,e⟩:=h.ok I.z9;exact⟨aq,r,⟨_,n,e,rfl,rfl,rfl⟩,z⟩
 .refine⟨aq.toList,r,⟨o,n,I.kIn a o hk,hc,hd,by simpa using hs⟩,?_⟩;have e:=r.length;simp only[uM]at e
  lia
theorem Inv.tuple(I:Inv X aa U H s)(h:SqT X.K H a xs):∃aq:List Value,Vals xs aq/\IsTup s.heap a aq.toArray/\xs.length<=sizeLine:=by
 rcases h with h|⟨o,aq,n,hk,hc,hs,hz,r⟩
 .obtain⟨z,aq,r,p⟩:=h.ok I.z9;exact⟨aq,r,p.tup,z⟩
 .refine⟨aq.toList,r,⟨o,I.kIn a o hk,hc,n,by simpa using hs⟩,?_⟩;have e:=r.length;simp only[uM]at e
  lia
theorem Inv.KG(I:Inv X aa U H s)(h:SqL X.K H a xs)(h':SqL X.K H a ys):xs=ys:=by
 obtain⟨aq,r,⟨o,n,e,_,_,d⟩,_⟩:=I.list h;obtain⟨bM,r',⟨o',n',e',_,_,d'⟩,_⟩:=I.list h';rw[e]at e';cases e';rw[d]at d';injection d' with d1 _;have:=by simpa using congrArg Array.toList d1
 subst this;exact r.inj r'
theorem Inv.HQ(I:Inv X aa U H s)(h:SqT X.K H a xs)(h':SqT X.K H a ys):xs=ys:=by
 obtain⟨aq,r,⟨o,e,_,n,d⟩,_⟩:=I.tuple h;obtain⟨bM,r',⟨o',e',_,n',d'⟩,_⟩:=I.tuple h';rw[e]at e';cases e';rw[d]at d';injection d' with d1 _;have:=by simpa using congrArg Array.toList d1
 subst this;exact r.inj r'
end
abbrev Cx.E3(X:Cx)(E:Value->Shared->Prop):Cx:={X with xe:=E}
theorem Cx.Ok.E3{X:Cx}(ok:X.Ok)(E:Value->Shared->Prop):(X.E3 E).Ok :=
 ⟨ok.mod,ok.kind,ok.glob,ok.blt,ok.above,ok.inj,ok.has,ok.ze,ok.hd,ok.frames,ok.yW,ok.yS,ok.bs,ok.zw,ok.zu,ok.zv,ok.KO,ok.zg⟩
theorem Cx.Ok.Dr{X:Cx}(ok:(X.E3 E).Ok):X.Ok :=
 ⟨ok.mod,ok.kind,ok.glob,ok.blt,ok.above,ok.inj,ok.has,ok.ze,ok.hd,ok.frames,ok.yW,ok.yS,ok.bs,ok.zw,ok.zu,ok.zv,ok.KO,ok.zg⟩
section
variable{X:Cx}{aa:List (Addr×Obj)}{U:St}{H:Hp}{s:Shared}{E:Value->Shared->Prop}
theorem Inv.E3(I:Inv X aa U H s)(E:Value->Shared->Prop):Inv (X.E3 E) aa U H s:=⟨I.ok.E3 E,I.os,I.bare,I.base,I.loc,I.cell,I.free,I.zX,I.pin,I.z9,I.len⟩
theorem Inv.Dr(I:Inv (X.E3 E) aa U H s):Inv X aa U H s:=⟨I.ok.Dr,I.os,I.bare,I.base,I.loc,I.cell,I.free,I.zX,I.pin,I.z9,I.len⟩
theorem SP.Dr(h:SP (X.E3 E) aa D f s'):SP X aa D f s':=by cases f with|next=>obtain⟨av,H',I,q⟩:=h;exact⟨av,H',I.Dr,q⟩|brk=>obtain⟨av,H',I,q⟩:=h;exact⟨av,H',I.Dr,q⟩|cont=>obtain⟨av,H',I,q⟩:=h;exact⟨av,H',I.Dr,q⟩|ret u=>obtain⟨v,av,H',I,r,q⟩:=h;exact⟨v,av,H',I.Dr,r,q⟩
end
section
variable{X:Cx}{st:Stmt}{rest:List Stmt}{t u:TS}{e:Expr}{te:TE}{pos:Pos}
def Z4:TS:=λD U H=>D.nx U H
def JbB(t u:TS):TS:=λD U H=>t {D with nx:=u D} U H
theorem SK:PSs X [] Z4:=λ_ _ U H _ I h=>wpAny_execs_nil ⟨U,H,I,h⟩
theorem O2(h1:PS X st t)(h2:PSs X rest u):PSs X (st::rest) (JbB t u):=by intro aa s U H D I h;refine wpAny_execs_cons (thn (h1 aa s U H {D with nx:=u D} I h) λf s1 q=>?_);cases f with|next =>obtain⟨av,H',I',q⟩:=q;exact h2 aa s1 av H' D I' q|ret v=>exact q|brk=>exact q|cont=>exact q
theorem SJ(h1:PS X st t):PSs X [st] t:=by intro aa s U H D I h;refine wpAny_execs_cons (thn (h1 aa s U H D I h) λf s1 q=>?_);cases f with|next=>exact wpAny_execs_nil q|ret v=>exact q|brk=>exact q|cont=>exact q
theorem Inv.quiet(I:Inv X aa U H s):interactive X.env=false:=by simp[interactive,I.ok.kind]
def Z5(te:TE):TS:=λD U H=>te U H λ_ H1=>D.nx U H1
theorem SM(he:PE X e te)(hs:swapsWith e none pos.line X.env=pure false:=by rfl):PS X (.Expr e pos) (Z5 te):=by intro aa s U H D I h;exact wpAny_Expr_any (thn (he aa s U H _ I h) λv s1 ⟨x,H1,I1,r1,q1⟩=>⟨U,H1,I1,q1⟩) I.quiet hs
def tRet(te:TE):TS:=λD U H=>te U H D.rt
theorem Wn(he:PE X e te):PS X (.Return (some e) pos) (tRet te):=by intro aa s U H D I h;exact wpAny_Return_some (thn (he aa s U H _ I h) λv s1 ⟨x,H1,I1,r1,q1⟩=>⟨x,U,H1,I1,r1,q1⟩)
def tIfS(c:TT)(t u:TS):TS:=λD U H=>c U H λb H1=>if b=true then t D U H1 else u D U H1
theorem Jal(hc:PT X c tc)(ha:PSs X a t)(hb:PSs X b u):PS X (.If c a b pos) (tIfS tc t u):=by intro aa s U H D I h;refine wpAny_If (thn (hc aa s U H _ I h) λd s1 ao=>?_);obtain⟨H1,I1,q1⟩:= ao;cases d with|true=>exact ha aa s1 U H1 D I1 q1|false=>exact hb aa s1 U H1 D I1 q1
def VM:TS:=λ_ _ _=>False
theorem O4:PS X st VM:=λ_ _ _ _ _ _ h=>h.elim
end
abbrev TG:=V->St->Hp->(St->Hp->Prop)->Prop
abbrev TGs:=List V->St->Hp->(St->Hp->Prop)->Prop
def PG(X:Cx)(target:Expr)(t:TG):Prop :=
 ∀(aa:List (Addr×Obj))(s:Shared)(U:St)(H:Hp)(v:V)(u:Value)(Q:St->Hp->Prop),Inv X aa U H s->RelV v u->t v U H Q ->
  wpAny (model X.prog X.w) X.A (assign target X.env u) (λ_ s'=>NP X aa Q s') X.xe s
def PGs(X:Cx)(ts:List Expr)(t:TGs):Prop :=
 ∀(aa:List (Addr×Obj))(s:Shared)(U:St)(H:Hp)(vs:List V)(us:List Value)(Q:St->Hp->Prop),Inv X aa U H s->Vals vs us->t vs U H Q ->
  wpAny (model X.prog X.w) X.A (assignInOrder ((assignEach ts X.env).map (·.2)) us) (λ_ s'=>NP X aa Q s') X.xe s
abbrev YU:=V->V->V->Hp->(Hp->Prop)->Prop
def QO(X:Cx)(t:YU):Prop :=
 ∀(aa:List (Addr×Obj))(s:Shared)(U:St)(H:Hp)(o i v:V)(ov iv u:Value)(Q:Hp->Prop),Inv X aa U H s->RelV o ov->RelV i iv->RelV v u->t o i v H Q ->
  wpAny (model X.prog X.w) X.A (setItem ov iv u) (λ_ s'=>HP X aa U Q s') X.xe s
section
variable{X:Cx}{pos:Pos}
def P8(i:Nat):TG:=λv U H Q=>Q (U.set i (some v)) H
theorem SY(hN:X.N.Nodup)(hi:X.N[i]?=some x)(hx:Loc X.env.scope x)(hf:X.fn x=true\/X.env.scope.names.lookup x=some .local:=by first|exact .inl rfl|exact .inr rfl|assumption):PG X (.Name x pos) (P8 i):=by intro aa s U H v u Q I r h;exact wpAny_assign_Name (Dh I hN hi hx r (λs' I'=>⟨_,H,I',h⟩) hf)
noncomputable def gNil:TGs:=λvs U H Q=>vs=[]/\Q U H
inductive XG(t:TG)(u:TGs)(vs:List V)(U:St)(H:Hp)(Q:St->Hp->Prop):Prop
 |mk (v r:_) (h0:vs=v::r) (h1:t v U H λav H'=>u r av H' Q)
theorem SX:PGs X [] gNil:=by intro aa s U H vs us Q I r h;obtain⟨e,h⟩:=h;subst e;cases r;exact assignInOrder_nil ⟨U,H,I,h⟩
theorem DO(h1:PG X e t)(h2:PGs X es u)
  (hs:(assignEach (e::es) X.env).map (·.2)=assign e X.env::(assignEach es X.env).map (·.2):=by rfl):PGs X (e::es) (XG t u):=by
 intro aa s U H vs us Q I r h;obtain⟨v,vr,e1,h⟩:=h;subst e1;cases r with|cons r rr =>rw[hs];refine assignInOrder_cons (thn (h1 aa s U H _ _ _ I r h) λ_ s1 ao=>?_);obtain⟨iC,H1,I1,q1⟩:= ao;exact h2 aa s1 iC H1 _ _ Q I1 rr q1
inductive gTup(K:Fg)(n:Nat)(t:TGs)(v:V)(U:St)(H:Hp)(Q:St->Hp->Prop):Prop
 |mk (a xs:_) (h0:v=.ref a) (h1:SqT K H a xs) (h2:xs.length=n) (h3:t xs U H Q)
theorem Wu(hc:X.calm=true)(h:PGs X es t)
  (hn:(assignEach es X.env).length=n:=by rfl) (dH:(assignEach es X.env).findIdx? (·.1)=none:=by rfl):PG X (.Tuple es k pos) (gTup X.K n t):=by
 intro aa s U H v u Q I r hw;obtain⟨a,xs,e1,hq,hl,hw⟩:=hw;subst e1;cases r;obtain⟨aq,rv,ht,hz⟩:=I.tuple hq;refine assign_Tuple_tuple (I.ok.hd hc) ht (by simp[hn,<- hl,rv.length]) dH λh' hx=>?_
 have I1:Inv X aa U H {s with heap:=h' }:=I.kept λb o e=>hx b o (tN (tj e)) e
 exact h aa _ U H xs _ Q I1 (by simpa using rv) hw
def JbO(to ti:TE)(t:YU):TG:=λv U H Q=>to U H λo H1=>ti U H1 λi H2=>t o i v H2 λH3=>Q U H3
theorem Wv(ho:PE X o to)(hi:PE X i ti)(hs:QO X t)
  (ha:∀v,assign (.Subscript o i pos) X.env v=(do
   let ov <- holding [v] (eval o X.env)
   let iv <- holding [v,ov] (eval i X.env)
   standAt pos
   holding [v,ov,iv] (setItem ov iv v)
   release [v,ov,iv] []):=by intro _;rfl):PG X (.Subscript o i pos) (JbO to ti t):=by
 intro aa s U H v u Q I r h;refine sQ (wpAny_holding (thn (ho aa s U H _ I h) λov s1 ao=>?_));obtain⟨x,H1,I1,r1,q1⟩:= ao;refine sQ (wpAny_holding (thn (hi aa s1 U H1 _ I1 q1) λiv s2 ao=>?_));obtain⟨y,H2,I2,r2,q2⟩:= ao;refine sQ (wpAny_standAt (sQ (wpAny_holding (thn (hs aa s2 U H2 x y v ov iv u _ I2 r1 r2 r q2) λ_ s3 ao=>?_))));obtain⟨H3,I3,q3⟩:= ao;exact wpAny_release ⟨U,H3,I3,q3⟩
def VR(te:TE)(g:TG):TS:=λD U H=>te U H λx H1=>g x U H1 D.nx
theorem Q7(he:PE X e te)(hg:PG X tg g)(hs:swapsWithSole [tg] e pos.line X.env=pure false:=by rfl)(hw:swappedStores [tg] e X.env=pure none:=by rfl)
  (h1:(assignEach [tg] X.env).map (·.2)=[assign tg X.env]:=by rfl):PS X (.Assign [tg] e pos) (VR te g):=by
 intro aa s U H D I h;refine wpAny_Assign_stores (thn (he aa s U H _ I h) λv s1 ao=>?_) hs hw;obtain⟨x,H1,I1,r1,q1⟩:= ao;rw[h1];exact thn (hg aa s1 U H1 x v _ I1 r1 q1) λ_ s2 q=>q
theorem Wm(hN:X.N.Nodup)(hi:X.N[i]?=some x)(hx:Loc X.env.scope x)(he:PE X e te)(hs:swapsWith e (some (.Name x aS)) pos.line X.env=pure false:=by rfl)(hf:X.fn x=true\/X.env.scope.names.lookup x=some .local:=by first|exact .inl rfl|exact .inr rfl|assumption) :
  PS X (.Assign [.Name x aS] e pos) (VR te (P8 i)):=by
 intro aa s U H D I h;refine wpAny_Assign_Name (thn (he aa s U H _ I h) λv s1 ao=>?_) hs;obtain⟨y,H1,I1,r1,q1⟩:= ao;exact Dh I1 hN hi hx r1 (λs2 I2=>⟨_,H1,I2,q1⟩) hf
def tPar(i j:Nat)(ta:TA):TS:=λD U H=>ta U H λvs H1=>∃v w,vs=[v,w]/\D.nx ((U.set i (some v)).set j (some w)) H1
theorem Wo{i j:Nat}{x y:Str}{a b:Expr}{ta:TA}{px py pt:Pos}{kt k2 ir}(hc:X.calm=true)(hN:X.N.Nodup)(hi:X.N[i]?=some x)(hj:X.N[j]?=some y)(cL:i≠j)
  (hx:X.env.scope.names.lookup x=some .local) (hy:X.env.scope.names.lookup y=some .local) (ha:PA X [a,b] ta)
  (hw:swappedStores [.Tuple [.Name x px,.Name y py] kt pt] (.Tuple [a,b] k2 ir) X.env=pure (some [x,y]))
  (hs:swapsWithSole [.Tuple [.Name x px,.Name y py] kt pt] (.Tuple [a,b] k2 ir) pos.line X.env=pure false:=by rfl) :
  PS X (.Assign [.Tuple [.Name x px,.Name y py] kt pt] (.Tuple [a,b] k2 ir) pos) (tPar i j ta):=by
 intro aa s U H D I h;rw[exec_Assign_arm];refine sQ (wpAny_standAt ?_);rw[hs];refine sQ (sV ?_);rw[if_neg (by decide)];refine sQ (Tuple_ (thn (ha _ aa s U H _ I h) λus s1 ao=>?_));obtain⟨vs,H1,I1,r1,q1⟩:= ao;obtain⟨v,w,e1,q1⟩:=q1;subst e1;obtain⟨u1,u2,rfl,rv,dk⟩:∃u1 u2,us=[u1,u2]/\RelV v u1/\RelV w u2:=by cases r1 with|cons p q =>cases q with|cons p' q' =>cases q';exact⟨_,_,rfl,p,p'⟩
 refine wpAny_newObj_type ?_ (by show 2<=sizeLine;decide);have I2:Inv X aa U H1 {s1 with heap:=s1.heap.push {cls:=.type "tuple",data:=.seq [u1,u2].toArray} }:=I1.kept (t':=s1.toks) λb o e=>sR _ e
 rw[hw];refine sQ (sV ?_);show wpAny (model X.prog X.w) X.A (do rule "assign.swapped-stores";let items <- unpackItems (.ref s1.heap.objs.size) 2 none;assignInOrder [λv=>bindName X.env y v,λv=>bindName X.env x v] items.reverse;pure Flow.next) _ _ _;refine sQ (wpAny_rule (sQ (unpackItems_tuple (items:=#[u1,u2]) (I.ok.hd hc) (IsTup.new s1.heap _) λh' eQ=>?_)));have I3:=I2.kept (h':=h') (t':=s1.toks) λb o e=>eQ b o (tN (tj e)) e
 show wpAny _ _ (assignInOrder [λv=>bindName X.env y v,λv=>bindName X.env x v] [u2,u1] >>= λ_=>pure Flow.next) _ _ _;refine sQ (assignInOrder_cons (wpAny_bindName (Dh I3 hN hj (.inl hy) dk (λs2 I4=>?_) (.inr hy))));refine assignInOrder_cons (wpAny_bindName (Dh I4 hN hi (.inl hx) rv (λs3 I5=>assignInOrder_nil (sV ?_)) (.inr hx)));rw[List.set_comm _ _ (Ne.symm cL)]at I5;exact⟨_,H1,I5,q1⟩
end
section
variable{X:Cx}{pos:Pos}
end
structure It where
 go:Nat->Hp->Prop
 yR:Nat->Hp->V->Hp->Prop
 stop:Nat->Hp->Prop
def Jo(X:Cx)(aa:List (Addr×Obj))(H:Hp)(b:Addr):Prop :=
 H b=none/\b≠X.env.locals/\b∉X.fs/\(b∈X.ex\/X.zZ.heap.objs.size<=b)/\(∀x c,X.env.cells.lookup x=some c->c≠b)/\∀p∈X.pn++aa,p.1≠b
theorem Inv.RD(I:Inv X aa U H s)(hb:s.heap.objs.size<=b)(hn:H' b=none):Jo X aa H' b:=by
 refine⟨hn,vw (tE I.lt hb),I.nofs hb,.inr (tQ I.sz hb),λx c e z=>?_,λp hp z=>?_⟩
 .obtain⟨v,q⟩:=I.cell x c e;exact absurd (tE q.lt (by rwa[z])) (uw _)
 .exact absurd (tE (tj (I.pin p hp).1) (by rwa[z])) (uw _)
structure Turn(P:Program)(w:World)(K:Fg)(tg:Expr)(J:It)(fp:List Addr)(it:Addr)(tn:Nat->Heap->Prop):Prop where
 mem:it∈fp
 obj:∀i h,tn i h->∀b∈fp,∃o,h.get? b=some o/\∀v,o.data≠.cell v
 keep:∀i h h',tn i h->(∀b∈fp,∀o,h.get? b=some o->h'.get? b=some o)->tn i h'
 item:∀(X:Cx),X.prog=P->X.w=w->X.K=K->X.calm=true->∀(i:Nat)(aa:List (Addr×Obj))(s:Shared)(U:St)(H:Hp)(E:Value->Shared->Prop),Inv X aa U H s->(∀b∈fp,Jo X aa H b)->tn i s.heap->J.go i H ->
  wpAny (model P w) X.A (pyNext (.ref it)) (λr s1=>∃u,r=some u /\
   wpAny (model P w) X.A (letOwnedTupleGo tg (.ref it) u) (λ_ s2=>∃x H',Inv X aa U H' s2/\RelV x u/\J.yR i H x H'/\tn (i+1) s2.heap/\∀b∈fp,H' b=none) E s1) E s
 done:∀(X:Cx),X.prog=P->X.w=w->X.K=K->X.calm=true->∀(i:Nat)(aa:List (Addr×Obj))(s:Shared)(U:St)(H:Hp)(E:Value->Shared->Prop),Inv X aa U H s->(∀b∈fp,Jo X aa H b)->tn i s.heap->J.stop i H ->
  wpAny (model P w) X.A (pyNext (.ref it)) (λr s1=>r=none/\Inv X aa U H s1) E s
 self:∀(A:Around)(i:Nat)(s:Shared)(Q:Value->Shared->Prop)(E:Value->Shared->Prop),tn i s.heap->Q (.ref it) s->wpAny (model P w) A (pyIter (.ref it)) Q E s
abbrev TI:=St->Hp->(It->Hp->Prop)->Prop
inductive PIE(X:Cx)(aa:List (Addr×Obj))(U:St)(tg:Expr)(R:It->Hp->Prop)(jP:Value)(s2:Shared):Prop
 |mk (it:Addr) (fp:List Addr) (tn:Nat->Heap->Prop) (J:It) (H':Hp) (h0:jP=.ref it) (h1:Inv X aa U H' s2) (h2:Turn X.prog X.w X.K tg J fp it tn) (h3:tn 0 s2.heap) (h4:∀b∈fp,Jo X aa H' b) (h5:R J H')
def PI(X:Cx)(tg aC:Expr)(wi:TI):Prop :=
 ∀(aa:List (Addr×Obj))(s:Shared)(U:St)(H:Hp)(R:It->Hp->Prop),Inv X aa U H s->wi U H R ->
  wpAny (model X.prog X.w) X.A (eval aC X.env) (λv s1=>wpAny (model X.prog X.w) X.A (pyIter v) (PIE X aa U tg R) X.xe s1) X.xe s
theorem P2(ho:s.heap.get? it=some o)(hc:o.cls=.type n)(hd:o.data=.fields vs)
    (hn:["enumerate","zip","dict_itemiterator","dict_reverseitemiterator","odict_iterator","itertools.zip_longest","itertools.pairwise"].contains n=false) (hQ:Q () s):wpAny M A (letOwnedTupleGo tg (.ref it) u) Q E s:=by
  cases tg<;>first
    |exact sV hQ
    | (cases u <;> first
        |exact sV hQ
        | (refine sQ (wpAny_load ho ?_)
           rw[hc,hd];show wpAny M A (if(["enumerate","zip","dict_itemiterator","dict_reverseitemiterator","odict_iterator","itertools.zip_longest","itertools.pairwise"].contains n&&vs[0]?==some (rawInt _))=true then _ else _) Q E s;rw[if_neg (by intro h;rw[hn,Bool.false_and]at h;cases h)];exact sV hQ))
def Itl(K:Fg)(a:Addr):It :=
 ⟨λi H=>∃xs x,SqL K H a xs/\xs[i]?=some x,λi H x H'=>H'=H/\∀xs,SqL K H a xs->xs[i]?=some x,λi H=>∃xs,SqL K H a xs/\xs.length<=i⟩
def Itt(K:Fg)(a:Addr):It :=
 ⟨λi H=>∃xs x,SqT K H a xs/\xs[i]?=some x,λi H x H'=>H'=H/\∀xs,SqT K H a xs->xs[i]?=some x,λi H=>∃xs,SqT K H a xs/\xs.length<=i⟩
def Itr(lo:Int)(n:Nat):It:=⟨λi _=>i<n,λi H x H'=>H'=H/\x=.int (lo+i),λi _=>n<=i⟩
theorem Mm{K:Fg}(a it:Addr):Turn P w K tg (Itl K a) [it] it (λi h=>h.IsListIter it a i) where
 mem:=by simp
 obj:=λi h st b hb=>by
  have e:=by simpa using hb
  subst e;obtain⟨o,e,c,d⟩:=st;exact⟨o,e,λv z=>by rw[d]at z;cases z⟩
 keep:=λi h h' st k=>st.at λo e=>k it (by simp) o e
 item:=by
  intro X hP hw hK hc i aa s U H E I hf st hg;subst hP hw hK;obtain⟨xs,x,hq,hx⟩:=hg;obtain⟨aq,rv,p,hz⟩:=I.list hq;obtain⟨u,hu,ru⟩:=rv.get hx;obtain⟨f0,f1,f2,f3,f4,f5⟩:=hf it (by simp);refine wpAny_pyNext_list_item st p.isList (by simpa using hu) λh' dN sb=>?_
  have I1:Inv X aa U H {s with heap:=h' }:=I.turned (λb o hb e=>(sb.2 b hb).trans e) f0 f1 f3 f4 f5;obtain⟨o,e,c,d⟩:=id dN;exact⟨u,rfl,P2 e c d (by decide) ⟨x,H,I1,ru,⟨rfl,λys hy=>by rwa[I.KG hy hq]⟩,dN,λb hb=>(hf b hb).1⟩⟩
 done:=by intro X hP hw hK hc i aa s U H E I hf st hg;subst hP hw hK;obtain⟨xs,hq,hx⟩:=hg;obtain⟨aq,rv,p,hz⟩:=I.list hq;obtain⟨f0,f1,f2,f3,f4,f5⟩:=hf it (by simp);have hl:=rv.length;exact wpAny_pyNext_list_end (I.ok.hd hc) st p.isList (by simp;lia) λh' eb=>⟨rfl,I.turned (λb o hb e=>eb b o hb e) f0 f1 f3 f4 f5⟩
 self:=λ_ _ _ _ _ st h=>wpAny_pyIter_listiter st h
theorem Lq{K:Fg}(a it:Addr):Turn P w K tg (Itt K a) [it] it (λi h=>h.IsTupleIter it a i) where
 mem:=by simp
 obj:=λi h st b hb=>by
  have e:=by simpa using hb
  subst e;obtain⟨o,e,c,d⟩:=st;exact⟨o,e,λv z=>by rw[d]at z;cases z⟩
 keep:=λi h h' st k=>st.at λo e=>k it (by simp) o e
 item:=by
  intro X hP hw hK hc i aa s U H E I hf st hg;subst hP hw hK;obtain⟨xs,x,hq,hx⟩:=hg;obtain⟨aq,rv,p,hz⟩:=I.tuple hq;obtain⟨u,hu,ru⟩:=rv.get hx;obtain⟨f0,f1,f2,f3,f4,f5⟩:=hf it (by simp);refine wpAny_pyNext_tuple_item st (show s.heap.IsTuple a aq.toArray from p) (by simpa using hu) λh' dN sb=>?_
  have I1:Inv X aa U H {s with heap:=h' }:=I.turned (λb o hb e=>(sb.2 b hb).trans e) f0 f1 f3 f4 f5;obtain⟨o,e,c,d⟩:=id dN;exact⟨u,rfl,P2 e c d (by decide) ⟨x,H,I1,ru,⟨rfl,λys hy=>by rwa[I.HQ hy hq]⟩,dN,λb hb=>(hf b hb).1⟩⟩
 done:=by intro X hP hw hK hc i aa s U H E I hf st hg;subst hP hw hK;obtain⟨xs,hq,hx⟩:=hg;obtain⟨aq,rv,p,hz⟩:=I.tuple hq;obtain⟨f0,f1,f2,f3,f4,f5⟩:=hf it (by simp);have hl:=rv.length;exact wpAny_pyNext_tuple_end (I.ok.hd hc) st (show s.heap.IsTuple a aq.toArray from p) (by simp;lia) λh' eb=>⟨rfl,I.turned (λb o hb e=>eb b o hb e) f0 f1 f3 f4 f5⟩
 self:=λ_ _ _ _ _ st h=>wpAny_pyIter_tupleiter st h
theorem Lr{K:Fg}(it:Addr)(lo:Int)(n:Nat):Turn P w K tg (Itr lo n) [it] it (λi h=>IsRangeIter h it (lo+(i:Nat)*1) ((n:Int)-(i:Nat)) 1) where
 mem:=by simp
 obj:=λi h st b hb=>by
  have e:=by simpa using hb
  subst e;exact⟨_,st,λv z=>by have z':=z;cases z'⟩
 keep:=λi h h' st k=>k it (by simp) _ st
 item:=by
  intro X hP hw hK hc i aa s U H E I hf st hg;subst hP hw hK;obtain⟨f0,f1,f2,f3,f4,f5⟩:=hf it (by simp);have W:=Walks.range (prog:=X.prog) (w:=X.w) (I.ok.hd hc) it lo 1 n;refine W.item i s _ _ hg st λv h' tk hv dN kk=>?_
  obtain⟨t,rfl⟩:=hv;have I1:Inv X aa U H {s with heap:=h',toks:=tk}:=I.turned (λb o hb e=>kk b o (by simpa using hb) e) f0 f1 f3 f4 f5;refine⟨_,rfl,P2 dN rfl rfl (by decide) ⟨.int (lo+i),H,I1,⟨t,?_⟩,⟨rfl,rfl⟩,dN,λb hb=>(hf b hb).1⟩⟩;rw[Int.mul_one]
 done:=by intro X hP hw hK hc i aa s U H E I hf st hg;obtain⟨f0,f1,f2,f3,f4,f5⟩:=hf it (by simp);exact wpAny_pyNext_range_end (I.ok.hd hc) st (by have:n<=i:=hg;lia) λh' eb=>⟨rfl,I.turned (λb o hb e=>eb b o hb e) f0 f1 f3 f4 f5⟩
 self:=λ_ _ _ _ _ st h=>wpAny_pyIter_rangeiter st h
section
variable{X:Cx}{tg:Expr}
theorem OW{lo hi:Int}(I:Inv X aa U H s)(h1:-(2^62)<=lo)(h2:lo<2^62)(h3:-(2^62)<=hi)(h4:hi<2^62)
  (q:R (Itr lo (hi-lo).toNat) H):wpAny (model X.prog X.w) X.A (pyIter (.ref s.heap.objs.size)) (PIE X aa U tg R) E {s with heap:=s.heap.push {cls:=.type "range",data:=.fields #[.int lo t,.int hi u,.int 1 v]},toks:=tk}:=by
 refine wpAny_pyIter_range (IsRange.new ..) (small_one h1 h2 h3 h4) ?_;have I1:Inv X aa U H {s with heap:=s.heap.push {cls:=.type "range",data:=.fields #[.int lo t,.int hi u,.int 1 v]},toks:=tk}:=I.kept λb o e=>sR _ e
 refine⟨(s.heap.push {cls:=.type "range",data:=.fields #[.int lo t,.int hi u,.int 1 v]}).objs.size,[(s.heap.push {cls:=.type "range",data:=.fields #[.int lo t,.int hi u,.int 1 v]}).objs.size],_,_,H,rfl,
  I1.kept λb o e=>sR _ e,Lr _ lo (hi-lo).toNat,?_,λb hb=>?_,q⟩
 .have e1:lo+((0:Nat):Int)*1=lo:=by simp
  have e2:(((hi-lo).toNat:Nat):Int)-((0:Nat):Int)=Builtin.Range.rangeSize lo hi 1:=by rw[rangeSize_one];split<;>lia
  rw[e1,e2];exact tq _ rfl
 .have e:b=(s.heap.push {cls:=.type "range",data:=.fields #[.int lo t,.int hi u,.int 1 v]}).objs.size:=by simpa using hb
  subst e;exact I1.RD (tJ _) (I1.z9.fresh (tJ _))
def JaJ(ta:TA):TI:=λU H R=>ta U H λvs H1=>∃j:Int,vs=[.int j]/\-(2^62)<=j/\j<2^62/\R (Itr 0 j.toNat) H1
theorem ML{p pos:Pos}(hg:Gl X "range")(hm:X.mg "range"=none)(ha:PA X [a] ta)(hs:starEach [a] X.env=[(false,eval a X.env)]:=by rfl):PI X tg (.Call (.Name "range" p) [a] [] pos) (JaJ ta):=by intro aa s U H R I h;refine Call_ (Ey I hg hm boot_range (callWith_type1 (thn (ha pos aa s U H _ I h) λus s1 ao=>?_) hs rfl));obtain⟨vs,H1,I1,r1,q1⟩:= ao;obtain⟨j,e,q1,q2,q⟩:=q1;subst e;cases r1 with|cons r rr =>cases rr;obtain⟨t,rfl⟩:=r;exact call_range_1 (OW I1 (by lia) (by lia) q1 q2 (by simpa using q))
def tFor(wi:TI)(g:TG)(tb:TS):TS:=λD U H=>wi U H λJ H1=>∃W:Nat->Nat->St->Hp->Prop,(∃m,W 0 m U H1)/\∀i m U H,W i m U H ->
 (J.stop i H/\D.nx U H)\/(J.go i H/\∃N:St->Hp->Prop,(∀av H',N av H'->∃m',m'<m/\W (i+1) m' av H')/\∀x H',J.yR i H x H'->g x U H' λfO H2=>tb {D with nx:=N,ct:=N,bk:=D.nx} fO H2)
noncomputable def Ie(fp:List Addr)(h:Heap):List (Addr×Obj):=fp.filterMap λb=>(h.get? b).map λo=>(b,o)
theorem Di(hb:b∈fp)(e:h.get? b=some o):(b,o)∈Ie fp h:=vA.mpr ⟨b,hb,by rw[e];rfl⟩
theorem M0(hp:p∈Ie fp h):p.1∈fp/\h.get? p.1=some p.2:=by obtain⟨b,hb,e⟩:=vA.mp hp;cases q:h.get? b with|none=>rw[q]at e;cases e|some o =>rw[q]at e;have e':=Option.some.inj e;subst e';exact⟨hb,q⟩
theorem Inv.pinned(I:Inv X aa U H s)(hf:∀b∈fp,Jo X aa H b)(ho:∀b∈fp,∃o,s.heap.get? b=some o/\∀v,o.data≠.cell v):Inv X (aa++Ie fp s.heap) U H s :=
 I.Hj λp hp=>(sZ.mp hp).elim (λz=>I.pin p (tB _ z)) λz=>by obtain⟨hb,e⟩:=M0 z;obtain⟨f0,f1,f2,_⟩:=hf p.1 hb;obtain⟨o,e',d⟩:=ho p.1 hb;rw[e]at e';cases e';exact⟨e,f0,f1,f2,d⟩
theorem Inv.EM(I:Inv X (aa++pl) U H s):Inv X aa U H s:=I.Hj λp hp=>I.pin p (tB _ (tm _ hp))
theorem Wq(hp:PassesOwn (model X.prog X.w) X.A X.env X.xe)(hc:X.calm=true)(hi:PI X tg aC wi)(hg:PG X tg g)(hb:PSs X body tb)
  (hs:∀x,foldedSetIterable aC X.env x=pure x:=by intro _;rfl):PS X (.For tg aC body [] pos) (tFor wi g tb):=by
 intro aa s U H D I h;refine wpAny_For (thn (hi aa s U H _ I h) λv s1 h1=>thn h1 λjP s2 h2=>?_) hs;obtain⟨it,fp,tn,J,H2,e,I2,T,rM,f2,W,⟨m0,w0⟩,turn⟩:=h2;subst e;have dP:∀{H':Hp},(∀b∈fp,H' b=none)->∀b∈fp,Jo X aa H' b:=λhn b hb=>⟨hn b hb,(f2 b hb).2⟩
 refine codeAny_forLoop_any (λn s'=>∃i av H',Inv X aa av H' s'/\tn i s'.heap/\(∀b∈fp,H' b=none)/\W i n av H') ?_ m0 ⟨0,U,H2,I2,rM,λb hb=>(f2 b hb).1,w0⟩
 rintro n s3 ⟨i,iD,H3,I3,st3,fr3,w3⟩
 rcases turn i n iD H3 w3 with⟨stop,qn⟩|⟨go,N,hN,step⟩
 .refine wpAny_passesOwn hp (thn (T.done X rfl rfl rfl hc i aa s3 iD H3 X.xe I3 (dP fr3) st3 stop) λr s4 ao=>?_);obtain⟨hr,I4⟩:= ao;subst hr;exact wpAny_execs_nil ⟨iD,H3,I4,qn⟩
 .refine wpAny_passesOwn hp (thn (T.item X rfl rfl rfl hc i aa s3 iD H3 X.xe I3 (dP fr3) st3 go) λr s4 ao=>?_);obtain⟨u,hr,h4⟩:= ao;subst hr;refine wpAny_passesOwn hp (thn h4 λ_ s5 ao=>?_);obtain⟨x,H5,I5,r5,y5,lH,pY⟩:= ao;have oK:=I5.pinned (dP pY) (T.obj _ _ lH);refine wpAny_passesOwn hp (thn (hg _ s5 iD H5 x u _ oK r5 (step x H5 y5)) λ_ s6 ao=>?_);obtain⟨rU,H6,I6,q6⟩:= ao;refine wpAny_passesOwn hp (thn (hb _ s6 rU H6 _ I6 q6) λf s7 q7=>?_);have again:∀{fF:St}{H7:Hp},Inv X (aa++Ie fp s5.heap) fF H7 s7->N fF H7->∃m,m<n/\∃i av H',Inv X aa av H' s7/\tn i s7.heap/\(∀b∈fp,H' b=none)/\W i m av H':=λ{fF H7} I7 n7=>by obtain⟨m',hm,w7⟩:=hN fF H7 n7;refine⟨m',hm,i+1,fF,H7,I7.EM,T.keep _ _ _ lH λb hb o e=>(I7.pin (b,o) (tB _ (tB _ (Di hb e)))).1,λb hb=>?_,w7⟩;obtain⟨o,e,d⟩:=T.obj _ _ lH b hb;exact(I7.pin (b,o) (tB _ (tB _ (Di hb e)))).2.1
  cases f with|next=>obtain⟨fF,H7,I7,n7⟩:=q7;exact again I7 n7|cont=>obtain⟨fF,H7,I7,n7⟩:=q7;exact again I7 n7|brk=>obtain⟨fF,H7,I7,q7⟩:=q7;exact⟨fF,H7,I7.EM,q7⟩|ret v=>obtain⟨x7,fF,H7,I7,r7,q7⟩:=q7;exact⟨x7,fF,H7,I7.EM,r7,q7⟩
end
abbrev R2:=V->V->Hp->VK->Prop
def OpR(X:Cx)(f:Value->Value->Sem Value)(r:R2):Prop :=
 ∀(aa:List (Addr×Obj))(s:Shared)(U:St)(H:Hp)(x y:V)(v u:Value)(Q:VK),Inv X aa U H s->RelV x v->RelV y u->r x y H Q ->
  wpAny (model X.prog X.w) X.A (f v u) (EP X aa U Q) X.xe s
def BU(X:Cx)(f:Value)(r:List V->Hp->VK->Prop):Prop :=
 ∀(aa:List (Addr×Obj))(s:Shared)(U:St)(H:Hp)(xs:List V)(us:List Value)(Q:VK),Inv X aa U H s->Vals xs us->r xs H Q ->
  wpAny (model X.prog X.w) X.A (call f us) (EP X aa U Q) X.xe s
def TruR(X:Cx)(r:V->Hp->(Bool->Hp->Prop)->Prop):Prop :=
 ∀(aa:List (Addr×Obj))(s:Shared)(U:St)(H:Hp)(x:V)(v:Value)(Q:Bool->Hp->Prop),Inv X aa U H s->RelV x v->r x H Q ->
  wpAny (model X.prog X.w) X.A (truthy v) (TP X aa U Q) X.xe s
def tOp(r:R2)(ta tb:TE):TE:=λU H Q=>ta U H λx H1=>tb U H1 λy H2=>r x y H2 Q
inductive rI(C:Int->Int->Prop)(g:Int->Int->V)(x:V)(y:V)(H:Hp)(Q:VK):Prop
 |mk (i j:_) (h0:x=.int i) (h1:y=.int j) (h2:C i j) (h3:Q (g i j) H)
inductive rI0(g:Int->Int->V)(x:V)(y:V)(H:Hp)(Q:VK):Prop
 |mk (i j:_) (h0:x=.int i) (h1:y=.int j) (h2:Q (g i j) H)
section
variable{X:Cx}{a b c:Expr}{ta tb tc:TE}{pos:Pos}
theorem Jbt(ha:PE X a ta)(hb:PE X b tb){R:V->V->Hp->Prop}(I:Inv X aa U H s)
  (h:ta U H λx H1=>tb U H1 λy H2=>R x y H2) {f:Value->Value->Sem Value}
  (hf:∀v u s2 x y H2,Inv X aa U H2 s2->RelV x v->RelV y u->R x y H2->wpAny (model X.prog X.w) X.A (f v u) Q X.xe s2) :
  wpAny (model X.prog X.w) X.A (eval a X.env) (λv az=>wpAny (model X.prog X.w) X.A (eval b X.env) (λu cS=>wpAny (model X.prog X.w) X.A (f v u) Q X.xe cS) X.xe az) X.xe s:=by
 refine thn (ha aa s U H _ I h) λv s1 ao=>?_
 obtain⟨x,H1,I1,r1,q1⟩:= ao;refine thn (hb aa s1 U H1 _ I1 q1) λu s2 ao=>?_
 obtain⟨y,H2,I2,r2,q2⟩:= ao;exact hf v u s2 x y H2 I2 r1 r2 q2
theorem Jao(ho:OpR X (binaryOp op) r)(ha:PE X a ta)(hb:PE X b tb):PE X (.BinOp a op b pos) (tOp r ta tb):=by intro aa s U H Q I h;exact wpAny_BinOp (Jbt ha hb I h λv u s2 x y H2 I2 rx ry q=>ho aa s2 U H2 x y v u Q I2 rx ry q)
theorem opI{g:Int->Int->Int}
  (rule:∀(i j:Int)(t u:Tok)(s:Shared)(Q:Value->Shared->Prop)(E:Value->Shared->Prop),C i j->Q (.int (g i j) s.toks) {s with toks:=s.toks+1}->wpAny (model X.prog X.w) X.A (f (.int i t) (.int j u)) Q E s) :
  OpR X f (rI C λi j=>.int (g i j)):=by
 intro aa s U H x y v u Q I rx ry h;obtain⟨i,j,rfl,rfl,hc,q⟩:=h;obtain⟨t,rfl⟩:=rx;obtain⟨t',rfl⟩:=ry;exact rule i j t t' s _ _ hc ⟨.int (g i j),H,I.tok _,⟨_,rfl⟩,q⟩
theorem JbK{g:Int->Int->Int}
  (rule:∀(i j:Int)(t u:Tok)(s:Shared)(Q:Value->Shared->Prop)(E:Value->Shared->Prop),Q (.int (g i j) s.toks) {s with toks:=s.toks+1}->wpAny (model X.prog X.w) X.A (f (.int i t) (.int j u)) Q E s) :
  OpR X f (rI0 λi j=>.int (g i j)):=by
 intro aa s U H x y v u Q I rx ry h;obtain⟨i,j,rfl,rfl,q⟩:=h;obtain⟨t,rfl⟩:=rx;obtain⟨t',rfl⟩:=ry;exact rule i j t t' s _ _ ⟨.int (g i j),H,I.tok _,⟨_,rfl⟩,q⟩
theorem Jax{g:Int->Int->Bool}
  (rule:∀(i j:Int)(t u:Tok)(s:Shared)(Q:Value->Shared->Prop)(E:Value->Shared->Prop),Q (.bool (g i j)) s->wpAny (model X.prog X.w) X.A (f (.int i t) (.int j u)) Q E s) :
  OpR X f (rI0 λi j=>.v (g i j)):=by
 intro aa s U H x y v u Q I rx ry h;obtain⟨i,j,rfl,rfl,q⟩:=h;obtain⟨t,rfl⟩:=rx;obtain⟨t',rfl⟩:=ry;exact rule i j t t' s _ _ ⟨.v (g i j),H,I,rfl,q⟩
def JbX(i j:Int):Prop:=0<j/\j<1073741824
def JbW(i j:Int):Prop:=0<=j/\j<=1000000/\i.natAbs<2^64
def Y8(i j:Int):Prop:=(-(2^64)<i/\i<2^64)\/(-(2^64)<j/\j<2^64)
theorem Y8.ok(h:Y8 i j):IntMulOk i j:=by
 rcases h with⟨h1,h2⟩|⟨h1,h2⟩
 .exact .of_left (intBits_le_64 h1 h2)
 .exact .of_right (intBits_le_64 h1 h2)
theorem WU:OpR X (binaryOp .Add) (rI0 λi j=>.int (i+j)):=JbK λ_ _ _ _ _ _ _ q=>add_int q
theorem WM:OpR X (binaryOp .Sub) (rI0 λi j=>.int (i-j)):=JbK λ_ _ _ _ _ _ _ q=>sub_int q
theorem Tb:OpR X (binaryOp .FloorDiv) (rI JbX λi j=>.int (i/j)):=opI λi j _ _ _ _ _ hc q=>by have h1:=hc.1;have h2:j<1073741824:=hc.2;exact floordiv_int (by lia) (by rwa[Int.fdiv_eq_ediv_of_nonneg i (by lia)]) (.inl (PyProof.noPylong_small (by lia)))
theorem WQ:OpR X (binaryOp .Mod) (rI (λ_ j=>0<j) λi j=>.int (i%j)):=opI λi j _ _ _ _ _ hc q=>by exact mod_int' (by lia) (by rwa[Int.fmod_eq_emod_of_nonneg i (by lia)])
theorem WN:OpR X (binaryOp .Pow) (rI JbW λi j=>.int (i^j.toNat)):=opI λ_ _ _ _ _ _ _ hc q=>pow_int_small hc.1 hc.2.1 hc.2.2 q
end
noncomputable def QZ:V->V->Bool
 |.o,.o=>true|.o,.int _=>true|.int _,.o=>true|.o,.v _=>true|.v _,.o=>true|.o,.str _=>true|.str _,.o=>true
 |.int _,.int _=>true|.v _,.v _=>true|.str _,.str _=>true|.zH _,.zH _=>true
 |.int _,.str _=>true|.str _,.int _=>true|.v _,.str _=>true|.str _,.v _=>true
 |_,_=>false
def rEq:R2:=λx y H Q=>QZ x y=true/\Q (.v (decide (x=y))) H
def rNe:R2:=λx y H Q=>QZ x y=true/\Q (.v (!decide (x=y))) H
theorem N8:decide (V.int i=V.int j)=(i==j):=by rw[uK];simp
theorem RN:decide (V.v i=V.v j)=(i==j):=by rw[uK];simp
theorem N7:decide (V.str i=V.str j)=(i==j):=by rw[uK];simp
theorem N9:decide (V.zH i=V.zH j)=(i.toList==j.toList):=by rw[uK];cases i;cases j;simp
section
variable{X:Cx}{a b c:Expr}{ta tb tc:TE}{pos:Pos}
theorem AM(I:Inv X aa U H s)(q:Q (.v k) H)(e:k=k'):EP X aa U Q (.bool k') s:=by subst e;exact⟨.v k,H,I,rfl,q⟩
theorem WS:OpR X (compareOp .Eq) rEq:=by
 intro aa s U H x y v u Q I rx ry h;obtain⟨hs,q⟩:=h;cases x with
 |o =>cases rx;cases y with|o=>cases ry;exact PySem.EqNone.eq_none_none (AM I q (by simp))|v j=>cases ry;exact PySem.EqNone.eq_none_bool (AM I q (by simp))|int j=>obtain⟨t',rfl⟩:=ry;exact PySem.EqNone.eq_none_int (AM I q (by simp))|str j=>obtain⟨t',rfl⟩:=ry;exact PySem.EqNone.eq_none_str (AM I q (by simp))|_=>exact absurd (show false=true from hs) tW
 |v i =>cases rx;cases y with|o=>cases ry;exact PySem.EqNone.eq_bool_none (AM I q (by simp))|v j=>cases ry;exact eq_bool (AM I q RN)|str j=>obtain⟨t',rfl⟩:=ry;exact PySem.EqMixed.eq_bool_str (AM I q (by simp))|_=>exact absurd (show false=true from hs) tW
 |int i =>obtain⟨t,rfl⟩:=rx;cases y with|o=>cases ry;exact PySem.EqNone.eq_int_none (AM I q (by simp))|int j=>obtain⟨t',rfl⟩:=ry;exact eq_int (AM I q N8)|str j=>obtain⟨t',rfl⟩:=ry;exact PySem.EqMixed.eq_int_str (AM I q (by simp))|_=>exact absurd (show false=true from hs) tW
 |str i =>obtain⟨t,rfl⟩:=rx;cases y with|o=>cases ry;exact PySem.EqNone.eq_str_none (AM I q (by simp))|v j=>cases ry;exact PySem.EqMixed.eq_str_bool (AM I q (by simp))|int j=>obtain⟨t',rfl⟩:=ry;exact PySem.EqMixed.eq_str_int (AM I q (by simp))|str j=>obtain⟨t',rfl⟩:=ry;exact eq_str (AM I q N7)|_=>exact absurd (show false=true from hs) tW
 |zH i =>obtain⟨t,rfl⟩:=rx;cases y with|zH j=>obtain⟨t',rfl⟩:=ry;exact PySem.W.eq_bytes (AM I q N9)|_=>exact absurd (show false=true from hs) tW
 |_=>cases y<;>exact absurd (show false=true from hs) tW
theorem WO:OpR X (compareOp .NotEq) rNe:=by
 intro aa s U H x y v u Q I rx ry h;obtain⟨hs,q⟩:=h;cases x with
 |o =>cases rx;cases y with|o=>cases ry;exact PySem.EqNone.ne_none_none (AM I q (by simp))|v j=>cases ry;exact PySem.EqNone.ne_none_bool (AM I q (by simp))|int j=>obtain⟨t',rfl⟩:=ry;exact PySem.EqNone.ne_none_int (AM I q (by simp))|str j=>obtain⟨t',rfl⟩:=ry;exact PySem.EqNone.ne_none_str (AM I q (by simp))|_=>exact absurd (show false=true from hs) tW
 |v i =>cases rx;cases y with|o=>cases ry;exact PySem.EqNone.ne_bool_none (AM I q (by simp))|v j=>cases ry;exact ne_bool (AM I q (congrArg not RN))|str j=>obtain⟨t',rfl⟩:=ry;exact PySem.EqMixed.ne_bool_str (AM I q (by simp))|_=>exact absurd (show false=true from hs) tW
 |int i =>obtain⟨t,rfl⟩:=rx;cases y with|o=>cases ry;exact PySem.EqNone.ne_int_none (AM I q (by simp))|int j=>obtain⟨t',rfl⟩:=ry;exact ne_int (AM I q (congrArg not N8))|str j=>obtain⟨t',rfl⟩:=ry;exact PySem.EqMixed.ne_int_str (AM I q (by simp))|_=>exact absurd (show false=true from hs) tW
 |str i =>obtain⟨t,rfl⟩:=rx;cases y with|o=>cases ry;exact PySem.EqNone.ne_str_none (AM I q (by simp))|v j=>cases ry;exact PySem.EqMixed.ne_str_bool (AM I q (by simp))|int j=>obtain⟨t',rfl⟩:=ry;exact PySem.EqMixed.ne_str_int (AM I q (by simp))|str j=>obtain⟨t',rfl⟩:=ry;exact ne_str (AM I q (congrArg not N7))|_=>exact absurd (show false=true from hs) tW
 |zH i =>obtain⟨t,rfl⟩:=rx;cases y with|zH j=>obtain⟨t',rfl⟩:=ry;exact PySem.W.ne_bytes (AM I q (congrArg not N9))|_=>exact absurd (show false=true from hs) tW
 |_=>cases y<;>exact absurd (show false=true from hs) tW
theorem Jaw:OpR X (compareOp .Lt) (rI0 λi j=>.v (decide (i<j))):=Jax λ_ _ _ _ _ _ _ q=>lt_int q
theorem Ta:OpR X (compareOp .LtE) (rI0 λi j=>.v (decide (i<=j))):=Jax λ_ _ _ _ _ _ _ q=>le_int q
theorem WR:OpR X (compareOp .Gt) (rI0 λi j=>.v (decide (j<i))):=Jax λ_ _ _ _ _ _ _ q=>gt_int q
theorem Io:OpR X (compareOp .In) (λx y H Q=>∃i j,x=.str i/\y=.str j/\Q (.v (!(Builtin.Str.occurrences j i 0 j.length 1).isEmpty)) H):=by intro aa s U H x y v u Q I rx ry h;obtain⟨i,j,rfl,rfl,q⟩:=h;obtain⟨t,rfl⟩:=rx;obtain⟨t',rfl⟩:=ry;exact in_str (AM I q rfl)
theorem Rg:OpR X (compareOp .Is) (λx y H Q=>y=.o/\Q (.v (decide (x=.o))) H):=by
 intro aa s U H x y v u Q I rx ry h;obtain⟨rfl,q⟩:=h;cases ry;refine is_none_gen (AM I q ?_);cases x<;>first
  |(cases rx;rfl)
  |(obtain⟨t,rfl⟩:=rx;rfl)
theorem Ds(b:Expr)(h:op≠.In:=by decide)(h2:op≠.NotIn:=by decide):behindInMarks op b=false:=by
 have e1:(op==CmpOp.In)=false:=by cases op<;>first|rfl|exact absurd rfl h
 have e2:(op==CmpOp.NotIn)=false:=by cases op<;>first|rfl|exact absurd rfl h2
 cases b<;>simp[behindInMarks,e1,e2]
theorem S7(ho:OpR X (compareOp op) r)(ha:PE X a ta)(hb:PE X b tb)(hm:behindInMarks op b=false):PE X (.Compare a [op] [b] pos) (tOp r ta tb):=by intro aa s U H Q I h;exact wpAny_Compare1 (Jbt ha hb I h λv u s2 x y H2 I2 rx ry q=>ho aa s2 U H2 x y v u Q I2 rx ry q) hm
def Sk(t:TE):TT:=λU H Q=>t U H λx H'=>∃k,x=.v k/\Q k H'
theorem SI(ho:OpR X (compareOp op) r)(ha:PE X a ta)(hb:PE X b tb)(hm:behindInMarks op b=false):PT X (.Compare a [op] [b] pos) (Sk (tOp r ta tb)):=by intro aa s U H Q I h;refine wpAny_isTrue_Compare1 (thn (ha aa s U H _ I h) λv s1 ⟨x,H1,I1,r1,q1⟩=>thn (hb aa s1 U H1 _ I1 q1) λu s2 ⟨y,H2,I2,r2,q2⟩ =>thn (ho aa s2 U H2 x y v u _ I2 r1 r2 q2) λc s3 ⟨z,H3,I3,r3,k,e,q3⟩=>?_) hm;subst e;cases r3;exact wpAny_truthy_bool ⟨H3,I3,q3⟩
def Mr(r r':R2)(ta tb tc:TE):TE:=λU H Q=>ta U H λx H1=>tb U H1 λy H2=>r x y H2 λz H3=>∃k,z=.v k /\
 (if k=true then tc U H3 λw' H4=>r' y w' H4 Q else Q (.v false) H3)
theorem O1(ho:OpR X (compareOp op) r)(bC:OpR X (compareOp op') r')(ha:PE X a ta)(hb:PE X b tb)(hc:PE X c tc)
  (hm:lastMarks [op,op'] [b,c]=false:=by with_unfolding_all rfl):PT X (.Compare a [op,op'] [b,c] pos) (Sk (Mr r r' ta tb tc)):=by
 intro aa s U H Q I h;refine isTrue_chain (thn (ha aa s U H _ I h) λv s1 ⟨x,H1,I1,r1,q1⟩=>test_link (thn (hb aa s1 U H1 _ I1 q1) λu s2 ⟨y,H2,I2,r2,q2⟩ =>thn (ho aa s2 U H2 x y v u _ I2 r1 r2 q2) λd s3 ⟨z,H3,I3,r3,k,e,q3⟩=>?_)) hm;subst e;cases r3;refine wpAny_truthy_bool ?_;cases k with|false =>obtain⟨k',e',q'⟩:=q3;cases e';exact ite_ff ⟨H3,I3,q'⟩|true =>refine ite_tt (test_last (thn (hc aa s3 U H3 _ I3 q3) λw' s4 ⟨z',H4,I4,r4,q4⟩=>thn (bC aa s4 U H4 y z' u w' _ I4 r2 r4 q4) λd' s5 ao=>?_));obtain⟨z2,H5,I5,r5,k2,e2,q5⟩:= ao;subst e2;cases r5;exact wpAny_truthy_bool ⟨H5,I5,q5⟩
def Jby(K:Fg)(x:V)(H:Hp)(k:Bool):Prop :=
 match x with|.o=>k=false|.v b=>k=b|.int i=>k=(i !=0)|.str y=>y.length<=sizeLine/\k=((y.length:Int)!=0)|.zH y=>y.size<=sizeLine/\k=((y.size:Int)!=0)|.ref p=>(∃xs,SqL K H p xs/\k=!xs.isEmpty)\/(∃xs,SqT K H p xs/\k=!xs.isEmpty)\/∃ah,H p=some (.l ah)/\k=!ah.isEmpty|_=>False
theorem LL(r:KV ah vs):(!vs.isEmpty)=!ah.isEmpty:=by cases r<;>rfl
theorem GN(r:Vals xs aq):(!aq.toArray.isEmpty)=!xs.isEmpty:=by cases r<;>simp
theorem GL:(sizeLine:Nat)<2^63:=by rw[sizeLine_eq];decide
theorem VJ:TruR X (λx H Q=>∃k,Jby X.K x H k/\Q k H):=by
 intro aa s U H x v Q I rx h;obtain⟨k,e,q⟩:=h;have hs:=sizeLine_eq;cases x with
 |o =>cases rx;have e':=e;subst e';exact truthy_none ⟨H,I,q⟩
 |v b =>cases rx;have e':k=b:=e;subst e';exact wpAny_truthy_bool ⟨H,I,q⟩
 |int i =>obtain⟨t,rfl⟩:=rx;have e':=e;subst e';exact PySem.P.truthy_int ⟨H,I,q⟩
 |str y =>obtain⟨t,rfl⟩:=rx;obtain⟨hy,e'⟩:y.length<=sizeLine/\k=((y.length:Int)!=0):=e;subst e';exact PySem.P.truthy_str (by lia) ⟨H,I.tok _,q⟩
 |zH y =>obtain⟨t,rfl⟩:=rx;obtain⟨hy,e'⟩:y.size<=sizeLine/\k=((y.size:Int)!=0):=e;subst e';exact PySem.W.truthy_bytes (by lia) ⟨H,I.tok _,q⟩
 |ref p =>
  cases rx;have e':=e;rcases e' with⟨xs,hx,e'⟩|⟨xs,hx,e'⟩|⟨ah,hx,e'⟩
  .subst e';obtain⟨aq,r,pl,hz⟩:=I.list hx;have hlen:=r.length;exact wpAny_truthy_list pl.isList (by simp only[tK];lia) ⟨H,I.tok _,by rwa[GN r]⟩
  .subst e';obtain⟨aq,r,pl,hz⟩:=I.tuple hx;have hlen:=r.length;exact truthy_tuple pl (by simp only[tK];lia) ⟨H,I.tok _,by rwa[GN r]⟩
  .subst e';obtain⟨hz,hS,vs,r,m⟩:ah.length<=sizeLine/\(p==sysModules)=false/\∃vs,KV ah vs/\s.heap.DictOf (AR X.prog X.w) p vs:=I.z9 p _ hx;have hlen:=Paired.length r;exact wpAny_truthy_dict hS m (by lia) ⟨H,I.tok _,by rwa[LL r]⟩
 |_=>exact(show False from e).elim
theorem O0(ha:PE X a ta)(he:∀bA,isTrue a X.env bA=(do let v <- bA;standAt a.pos;holding [v] (truthy v))) :
  PT X a (λU H Q=>ta U H λx H'=>∃k,Jby X.K x H' k/\Q k H'):=by
 intro aa s U H Q I h;exact isTrue_plain (thn (ha aa s U H _ I h) λv s1 ⟨x,H1,I1,r1,q1⟩=>VJ aa s1 U H1 x v Q I1 r1 q1) (he _)
theorem LC:OpR X (binaryOp .Add) (λx y H Q=>∃i j,x=.str i/\y=.str j/\i.length+j.length<=sizeLine/\Q (.str (i++j)) H):=by intro aa s U H x y v u Q I rx ry h;obtain⟨i,j,rfl,rfl,hz,q⟩:=h;obtain⟨t,rfl⟩:=rx;obtain⟨t',rfl⟩:=ry;exact add_str (λt' tk=>⟨.str (i++j),H,I.tok _,⟨_,rfl⟩,q⟩) hz
theorem vals1(r:Vals [x] us):∃u,us=[u]/\RelV x u:=by cases r with|cons r1 r2=>cases r2;exact⟨_,rfl,r1⟩
theorem Oe:BU X (.type "int") (λxs H Q=>(∃i,xs=[.int i]/\Q (.int i) H)\/∃k,xs=[.v k]/\Q (.int (if k then 1 else 0)) H):=by
 intro aa s U H xs us Q I r h;rcases h with⟨i,rfl,q⟩|⟨k,rfl,q⟩
 .obtain⟨u,rfl,t,rfl⟩:=vals1 r;exact call_int_int ⟨.int i,H,I,⟨_,rfl⟩,q⟩
 .obtain⟨u,rfl,r1⟩:=vals1 r;cases r1;exact call_int_bool ⟨.int (if k then 1 else 0),H,I.tok _,⟨_,rfl⟩,q⟩
end
structure Vb(h:Heap)(x dx C:Addr)(mA:Str->Option Value):Prop where
 obj:h.get? x=some (instObj C dx)
 ns:h.Ns1 dx mA
 ne:dx≠x
set_option tactic.hygienic true in
theorem Nd{h:Heap}(n:h.Ns1 dx mA):∃od,h.get? dx=some od/\∀name,lookIn name od=some (mA name):=by
 obtain⟨o,es,ep,ho,hd,hk,_,hm⟩:=n;refine⟨o,ho,λname=>?_⟩;have e:=hm name;unfold nsFind findBy at e;rw[<- Array.find?_toList]at e;unfold lookIn;rw[hd];dsimp only;split
 next y q=>rw[q]at e;exact congrArg some e
 .rename_i q;rw[q]at e;have a:es.toList.any (·.refKey)=false:=by rw[vF];intro y hy;obtain⟨z,t,kG⟩:=hk y (Array.mem_toList_iff.mp hy);simp[DictEntry.refKey,kG]
  have a':¬es.toList.any (·.refKey)=true:=by rw[a];exact tW
  rw[if_neg a'];exact congrArg some e
theorem Vb.look(I:Vb h x dx C mA):∃od,PySem.W.InstAt h x (instObj C dx) C (some od)/\∀name,lookIn name od=some (mA name) :=
 let⟨od,ho,hl⟩:=Nd I.ns
 ⟨od,⟨I.obj,rfl,rfl,ho⟩,hl⟩
section
variable{prog:Program}{w:World}{A:Around}{E:Value->Shared->Prop}{s:Shared}{K:Fg}{x dx C f:Addr}{mA:Str->Option Value}{name:Str}{v:Value}
theorem get_map(X:K.In s.heap)(I:Vb s.heap x dx C mA)(hg:plainGet K C name=true)(hh:hasDictIn K C=true)
  (ha:findIn K (.ref C) name=some none) (hv:mA name=some v) (qQ:handedIn v=true) (h:Q v {s with toks:=s.toks+1}) :
  wpAny (model prog w) A (getAttr (.ref x) name expr) Q E s:=by
 obtain⟨od,J,hl⟩:=I.look;exact PySem.W.get_value X J (plainGet_of hg).1 (PySem.W.findObj_own hh ha rfl (by rw[hl,hv])) qQ h
theorem P4(X:K.In s.heap)(I:Vb s.heap x dx C mA)(hg:plainGet K C name=true)
  (hf:findIn K (.ref C) name=some (some (.ref f))) (ht:isFn K (.ref f)=true) (hv:mA name=none) (h:Q (.ref f,[.ref x]) s) :
  wpAny (model prog w) A (getMethod (.ref x) name pl) Q E s:=by
 obtain⟨od,J,hl⟩:=I.look;exact PySem.W.method_fn X J (plainGet_of hg).1 (plainGet_of hg).2 hf (beq_iff_eq.mp ht) (by show(lookIn name od).map (·.isSome)=some false;rw[hl,hv];rfl) h
theorem Su(X:K.In s.heap)(I:Vb s.heap x dx C mA)
  (hs:findIn K (.ref C) "__setattr__"=some (some (.builtin "object.__setattr__"))) (hp:plainOver K C=true) (ht:takerIn K C name=some none) (hh:hasDictIn K C=true)
  (hw:PySem.Within mA ns) (hsz:ns.length<=sizeLine)
  (h:∀h',Vb h' x dx C (λy=>if y=name then some v else mA y)->Heap.SameBut dx s.heap h'->Q () {s with heap:=h',toks:=s.toks+2}) :
  wpAny (model prog w) A (setAttr (.ref x) name v) Q E s:=by
 obtain⟨od,J,hl⟩:=I.look;refine PySem.W.set_plain X J hs (PySem.W.osa_open X J hp ht λb=>?_);obtain⟨cd,hc,fZ⟩:=PySem.W.any_some hh;have hx:=I.obj;refine sQ (sV (sQ (sQ (wpAny_loadPart hx (sQ (PySem.W.Looks.here (PySem.W.looks_clsIn X hc) ?_))))));rw[fZ];refine sV (sQ (sV (sQ ?_)));refine wpAny_nsSet1 I.ns λh' fL aW=>?_
 obtain⟨oD,se,sd,qE,qj,qh⟩:=fL.count (PySem.Within.cons name v hw);refine sQ (wpAny_lookBehind qE (by rw[qj];exact pastItsLine_dict (tQ qh (by rw[tV];lia))) ?_);exact sV (h _ ⟨(aW.2 _ (Ne.symm I.ne)).trans I.obj,fL,I.ne⟩ aW)
theorem Pw(X:K.In s.heap)(hm:makesIn K C=true)
  (hi:findIn K (.ref C) "__init__"=some (some (.ref f))) (hf:PySem.W.typeIn K (.ref f)=some (.type "function"))
  (h:codeAny (model prog w) (A.under (.builtin "type.__call__" ⟨.ref C::vs,kw⟩)) (.call (.ref f) ⟨.ref (s.heap.objs.size+1)::vs,kw⟩) (PySem.W.InitBack (s.heap.objs.size+1) R)
   {s with heap:=(s.heap.push emptyDict).push (instObj C s.heap.objs.size)}) :
  codeAny (model prog w) A (.call (.ref C) ⟨vs,kw⟩) R s:=by
 exact PySem.W.make_core (PySem.W.makes_of X hm) (PySem.W.looks_findIn X hi) (λself=>PySem.W.bind_fn X self hf) (.inl rfl) h
end
noncomputable def ES(f:Str)(v:V):List (Str×V)->List (Str×V)
 | []=>[(f,v)]
 |(g,x)::r=>if g=f then(g,v)::r else(g,x)::ES f v r
theorem Ft(f g:Str)(v:V):∀fs:List (Str×V),(ES f v fs).lookup g=if g=f then some v else fs.lookup g
 | []=>by
  show List.lookup g [(f,v)]=_;by_cases h:g=f
  .have hb:=beq_iff_eq.mpr h;simp only[List.lookup,hb,if_pos h]
  .have hb:=beq_eq_false_iff_ne.mpr h;simp only[List.lookup,hb,if_neg h]
 |(k,x)::r=>by
  have ih:=Ft f g v r;rw[show ES f v ((k,x)::r)=(if k=f then(k,v)::r else(k,x)::ES f v r)from rfl];by_cases hk:k=f
  .rw[if_pos hk];by_cases h:g=k
   .have hb:=beq_iff_eq.mpr h;simp only[List.lookup,hb,if_pos (h.trans hk)]
   .have hb:=beq_eq_false_iff_ne.mpr h;simp only[List.lookup,hb,if_neg (λe:g=f=>h (e.trans hk.symm))]
  .rw[if_neg hk];by_cases h:g=k
   .have hb:=beq_iff_eq.mpr h;simp only[List.lookup,hb,if_neg (λe:g=f=>hk (h.symm.trans e))]
   .have hb:=beq_eq_false_iff_ne.mpr h;simp only[List.lookup,hb];exact ih
theorem Fx(f:Str)(v:V):∀fs:List (Str×V),f∈(ES f v fs).map (·.1)/\∀g,g∈fs.map (·.1)->g∈(ES f v fs).map (·.1)
 | []=>⟨by simp[ES],λg h=>by simp at h⟩
 |(k,x)::r=>by
  obtain⟨i1,i2⟩:=Fx f v r;rw[show ES f v ((k,x)::r)=(if k=f then(k,v)::r else(k,x)::ES f v r)from rfl];by_cases hk:k=f
  .rw[if_pos hk];subst hk;exact⟨by simp,λg h=>by simpa using h⟩
  .rw[if_neg hk];refine⟨?_,λg h=>?_⟩
   .rw[sX];exact sW _ i1
   .rw[sX]at h ⊢;rcases tH.mp h with e|e
    .exact tH.mpr (.inl e)
    .exact sW _ (i2 g e)
theorem Fv(f:Str)(v:V):∀fs:List (Str×V),(ES f v fs).length<=fs.length+1
 | []=>by simp[ES]
 |(k,x)::r=>by
  have ih:=Fv f v r;rw[show ES f v ((k,x)::r)=(if k=f then(k,v)::r else(k,x)::ES f v r)from rfl];by_cases hk:k=f
  .rw[if_pos hk,tV,tV];lia
  .rw[if_neg hk,tV,tV];lia
theorem AO.some_of(r:AO (some v) o):∃u,o=some u/\RelV v u:=by cases o with|none=>exact(show False from r).elim|some u=>exact⟨u,rfl,r⟩
theorem AO.none_of(r:AO none o):o=none:=by cases o with|none=>rfl|some u=>exact(show False from r).elim
theorem NB(r:RelV v u):handedIn u=true:=by cases v with|o=>cases(show u=Value.none from r);rfl|v b=>cases(show u=Value.bool b from r);rfl|int i=>obtain⟨t,e⟩:=(show ∃t,u=Value.int i t from r);cases e;rfl|str x=>obtain⟨t,e⟩:=(show ∃t,u=Value.str x t from r);cases e;rfl|zH b=>obtain⟨t,e⟩:=(show ∃t,u=Value.bytes b t from r);cases e;rfl|zd b=>obtain⟨t,e⟩:=(show ∃t,u=Value.float b t from r);cases e;rfl|ref a=>cases(show u=Value.ref a from r);rfl|ty n=>cases(show u=Value.type n from r);rfl
section
variable{P:Program}{w:World}{H H':Hp}{h h':Heap}{a C dx:Addr}{fs ar:List (Str×V)}
theorem Hv(z9:HOk P w H h)(e:H a=some (.ins C dx fs)):∃mA,Vb h a dx C mA/\(∀f,AO (fs.lookup f) (mA f))/\PySem.Within mA (fs.map (·.1))/\fs.length<=1000/\H dx=some (.own a):=by
 obtain⟨d,z,ne,ob,mA,n,r,q⟩:=(show A2 P w H h a (.ins C dx fs)from z9 a _ e)
 exact⟨mA,⟨ob,n,ne⟩,r,q,z,d⟩
end
structure Cls(K:Fg)(C:Addr):Prop where
 pg:plainGet K C Str.empty=true
 hd:hasDictIn K C=true
 po:plainOver K C=true
 sa:findIn K (.ref C) "__setattr__"=some (some (.builtin "object.__setattr__"))
theorem Cls.get{K:Fg}(c:Cls K C)(f:Str):plainGet K C f=true:=c.pg
def Be(K:Fg)(C:Addr)(f:Str):Prop:=findIn K (.ref C) f=some none
theorem Be.Z1{K:Fg}(n:Be K C f):takerIn K C f=some none:=by unfold takerIn;rw[show findIn K (.ref C) f=some none from n];rfl
structure Meth(K:Fg)(C:Addr)(m:Str)(f:Addr):Prop where
 at_:findIn K (.ref C) m=some (some (.ref f))
 fn:isFn K (.ref f)=true
 kp:keepIn K (.ref f)=true
section
variable{X:Cx}{aa:List (Addr×Obj)}{U:St}{H:Hp}{s:Shared}{a C dx:Addr}{fs:List (Str×V)}{f:Str}{v:V}{A:Around}{E:Value->Shared->Prop}
theorem LN(I:Inv X aa U H s)(e:H a=some (.ins C dx fs))(c:Cls X.K C)(n:Be X.K C f)(l:fs.lookup f=some v)
  (h:∀u s',Inv X aa U H s'->RelV v u->Q u s'):wpAny (model X.prog X.w) A (getAttr (.ref a) f b) Q E s:=by
 obtain⟨mA,O,r,_,_,_⟩:=Hv I.z9 e;obtain⟨u,hu,ru⟩:=AO.some_of (by rw[<- l];exact r f);exact get_map I.kIn O (c.get f) c.hd n hu (NB ru) (h u _ (I.tok _) ru)
theorem GO(I:Inv X aa U H s)(e:H a=some (.ins C dx fs))(c:Cls X.K C)(k:Meth X.K C m g)(l:fs.lookup m=none)
  (h:Q (.ref g,[.ref a]) s):wpAny (model X.prog X.w) A (getMethod (.ref a) m pl) Q E s:=by
 obtain⟨mA,O,r,_,_,_⟩:=Hv I.z9 e;have hn:=AO.none_of (by rw[<- l];exact r m);exact P4 I.kIn O (c.get m) k.at_ k.fn hn h
theorem Lv(I:Inv X aa U H s)(e:H a=some (.ins C dx fs))(c:Cls X.K C)(n:Be X.K C f)(hl:fs.length<1000)(ry:RelV y u)
  (h:∀s',Inv X aa U (upd H a (.ins C dx (ES f y fs))) s'->Q () s'):wpAny (model X.prog X.w) A (setAttr (.ref a) f u) Q E s:=by
 obtain⟨mA,O,r,wi,_,ho⟩:=Hv I.z9 e;have hz:(fs.map (·.1)).length<=sizeLine:=by rw[tf,sizeLine_eq];lia
 refine Su I.kIn O c.sa c.po n.Z1 c.hd wi hz λh' O' sb=>h _ ?_
 have hd:∃o,h'.get? dx=some o:=let⟨o,_,_,e',_⟩:=O'.ns;⟨o,e'⟩;refine I.write (by rw[e];exact True.intro) (.inr ho) (λb q hb z=>(sb.2 b hb).trans z) hd ?_;refine⟨by rw[Aj O.ne];exact ho,?_,O.ne,O'.obj,_,O'.ns,λg=>?_,λg hg=>?_⟩
 .have:=Fv f y fs;lia
 .show AO ((ES f y fs).lookup g) (if g=f then some u else mA g);rw[Ft];by_cases q:g=f
  .rwa[if_pos q,if_pos q]
  .rw[if_neg q,if_neg q];exact r g
 .by_cases q:g=f
  .rw[q];exact(Fx f y fs).1
  .refine(Fx f y fs).2 g (wi g λz=>hg ?_);show(if g=f then some u else mA g)=none;rwa[if_neg q]
theorem Inv.made(I:Inv X aa U H s):Inv X aa U (upd (upd H s.heap.objs.size (.own (s.heap.objs.size+1))) (s.heap.objs.size+1) (.ins C s.heap.objs.size []))
  {s with heap:=(s.heap.push emptyDict).push (instObj C s.heap.objs.size)}:=by
 have e1:(s.heap.push emptyDict).get? s.heap.objs.size=some emptyDict:=tq s.heap rfl;have e2:((s.heap.push emptyDict).push (instObj C s.heap.objs.size)).get? (s.heap.objs.size+1)=some (instObj C s.heap.objs.size):=by have:=tq (s.heap.push emptyDict) (o:=instObj C s.heap.objs.size) rfl;rwa[uD]at this
 have e3:(s.heap.push emptyDict).Ns s.heap.objs.size (λ_=>none):=⟨emptyDict,#[],_,e1,rfl,(λe he=>absurd he (by simp)),λ_=>rfl⟩
 have I1:=I.laid (a:=s.heap.objs.size) (o:=.own (s.heap.objs.size+1)) (h':=s.heap.push emptyDict) (t':=s.toks) (λb u q=>sR _ q) (tJ _) ⟨_,e1⟩;refine I1.laid (a:=s.heap.objs.size+1) (o:=.ins C s.heap.objs.size []) (t':=s.toks) (λb u q=>sR _ q) (Nat.le_of_eq (uD _ _)) ?_;have ne:s.heap.objs.size≠s.heap.objs.size+1:=tN (Nat.lt_succ_self _);refine⟨by rw[Aj ne,Am],vG _,ne,e2,λ_=>none,(Heap.Ns1.of_empty e3).at λo q=>sR _ q,λ_=>True.intro,λy hy=>absurd rfl hy⟩
theorem Va(hb:attributeBase e f env (eval e env)=eval e env)
  (h:wpAny (model prog w) A (eval e env) (λo az=>wpAny (model prog w) A (getAttr o f true) Q E az) E s):wpAny (model prog w) A (eval (.Attribute e f pos) env) Q E s :=
 Attribute_any_ h (by rw[arm_eval_Attribute,hb])
end
inductive FldP(K:Fg)(f:Str)(Q:VK)(x:V)(H1:Hp):Prop
 |mk (a C dx fs v:_) (h0:x=.ref a) (h1:H1 a=some (.ins C dx fs)) (h2:Cls K C) (h3:Be K C f) (h4:fs.lookup f=some v) (h5:Q v H1)
def JbC(K:Fg)(ta:TE)(f:Str):TE:=λU H Q=>ta U H (FldP K f Q)
def JbE(K:Fg)(ta tv:TE)(f:Str):TS:=λD U H=>tv U H λy H1=>ta U H1 λx H2=>∃a C dx fs,x=.ref a/\H2 a=some (.ins C dx fs)/\Cls K C/\Be K C f/\fs.length<1000 /\
 D.nx U (upd H2 a (.ins C dx (ES f y fs)))
section
variable{X:Cx}{o e value:Expr}{f:Str}{pos aS bH:Pos}{ta tv:TE}
theorem Kv(he:PE X e ta)(hb:attributeBase e f X.env (eval e X.env)=eval e X.env):PE X (.Attribute e f pos) (JbC X.K ta f):=by intro aa s U H Q I h;refine Va hb (thn (he aa s U H _ I h) λu s1 ao=>?_);obtain⟨x,H1,I1,rx,a,C,dx,fs,v,ex,ea,c,n,l,q⟩:= ao;subst ex;obtain rfl:u=Value.ref a:=rx;exact LN I1 ea c n l λu' s2 I2 ru=>⟨v,H1,I2,ru,q⟩
theorem Wr(ha:PE X o ta)(hv:PE X value tv)(hs:swapsWith value (some (.Attribute o f aS)) pos.line X.env=pure false):PS X (.Assign [.Attribute o f aS] value pos) (JbE X.K ta tv f):=by intro aa s U H D I h;refine plainObj_wpAny_Assign_Attribute (thn (hv aa s U H _ I h) λu s1 ⟨y,H1,I1,ry,q⟩=>thn (ha aa s1 U H1 _ I1 q) λov s2 ao=>?_) hs;obtain⟨x,H2,I2,rx,a,C,dx,fs,ex,ea,c,n,l,q2⟩:= ao;subst ex;obtain rfl:ov=Value.ref a:=rx;exact Lv I2 ea c n l ry λs3 I3=>⟨U,_,I3,q2⟩
end
section
variable{X:Cx}{aa:List (Addr×Obj)}{U:St}{H:Hp}{s:Shared}{A:Around}{E:Value->Shared->Prop}{Q:Value->Shared->Prop}{c:Value}{b:Bool}
inductive Ll(K:Fg)(H:Hp):V->Value->Prop where
 |o:Ll K H .o (.type "NoneType")
 |v (x:Bool):Ll K H (.v x) (.type "bool")
 |int (i:Int):Ll K H (.int i) (.type "int")
 |str (x:Str):Ll K H (.str x) (.type "str")
 |zd (x:UInt64):Ll K H (.zd x) (.type "float")
 |lst {a:Addr} {xs:List V} (e:H a=some (.lst xs)):Ll K H (.ref a) (.type "list")
 |frz {a:Addr} {o:Obj} {xs:List V} (e:H a=some (.frz o (.lst xs))):Ll K H (.ref a) (.type "list")
 |tup {a:Addr} {xs:List V} (e:H a=some (.tup xs)):Ll K H (.ref a) (.type "tuple")
 |l {a:Addr} {ah:List (Key×V)} (e:H a=some (.l ah)):Ll K H (.ref a) (.type "dict")
 |dT {a:Addr} {ah:List (List Key×V)} (e:H a=some (.dT ah)):Ll K H (.ref a) (.type "dict")
 |ins {a C dx:Addr} {fs:List (Str×V)} (e:H a=some (.ins C dx fs)) (cl:Cls K C) (ha:findIn K (.ref C) "__class__"=some (some (.builtin "object.__class__")))
   (hn:specialIn K (.builtin "object.__class__") "__get__"=some (some (.builtin "getset_descriptor.__get__"))) (mU:takesIn K (.builtin "object.__class__")=some true)
   (hm:mroIn K C (.type "object")=some true):Ll K H (.ref a) (.ref C)
theorem Nq{x:V}{u t:Value}(I:Inv X aa U H s)(rx:RelV x u)(ty:Ll X.K H x t)(e:kitOne X.K t c=some b)(h:∀tk,Q (.bool b) {s with toks:=tk}) :
  wpAny (model X.prog X.w) A (call (.builtin "isinstance") [u,c]) Q E s:=by
 cases ty with
 |o=>cases(show u=Value.none from rx);exact kia_one PySem.W.kitx_none I.kIn True.intro e (λz=>nomatch z) h
 |v y=>cases(show u=Value.bool y from rx);exact kia_one PySem.W.kitx_bool I.kIn True.intro e (λz=>nomatch z) h
 |int i=>obtain⟨t,q⟩:=(show ∃t,u=Value.int i t from rx);cases q;exact kia_one PySem.W.kitx_int I.kIn True.intro e (λz=>nomatch z) h
 |str y=>obtain⟨t,q⟩:=(show ∃t,u=Value.str y t from rx);cases q;exact kia_one PySem.W.kitx_str I.kIn True.intro e (λz=>nomatch z) h
 |zd y=>obtain⟨t,q⟩:=(show ∃t,u=Value.float y t from rx);cases q;exact kia_one PySem.W.kitx_float I.kIn True.intro e (λz=>nomatch z) h
 |@lst a xs ea =>
  cases(show u=Value.ref a from rx);obtain⟨_,_,n,_,h1⟩:=(show A2 X.prog X.w H s.heap a (.lst xs)from I.z9 a _ ea)
  exact kia_one kitx_list I.kIn ⟨_,h1,rfl⟩ e (λz=>nomatch z) h
 |@frz a ob xs ea =>
  cases(show u=Value.ref a from rx);obtain⟨_,_,_,n,_,h1⟩:=(show A2 X.prog X.w H s.heap a (.frz ob (.lst xs))from I.z9 a _ ea)
  exact kia_one kitx_list I.kIn ⟨_,h1,rfl⟩ e (λz=>nomatch z) h
 |@tup a xs ea =>
  cases(show u=Value.ref a from rx);obtain⟨_,_,_,p⟩:=(show A2 X.prog X.w H s.heap a (.tup xs)from I.z9 a _ ea)
  obtain⟨o,h1,h2,_⟩:=p;exact kia_one PySem.W.kitx_tuple I.kIn ⟨o,h1,h2⟩ e (λz=>nomatch z) h
 |@l a ah ea =>
  cases(show u=Value.ref a from rx);obtain⟨_,_,vs,_,p⟩:=(show A2 X.prog X.w H s.heap a (.l ah)from I.z9 a _ ea)
  obtain⟨o,es,ep,h1,h2,_⟩:=p;exact kia_one kitx_dict I.kIn ⟨o,h1,h2.1⟩ e (λz=>nomatch z) h
 |@dT a ah ea =>
  cases(show u=Value.ref a from rx);obtain⟨_,_,xs,_,o,es,ep,h1,h2,_⟩:=(show A2 X.prog X.w H s.heap a (.dT ah)from I.z9 a _ ea)
  exact kia_one kitx_dict I.kIn ⟨o,h1,h2.1⟩ e (λz=>nomatch z) h
 |@ins a C dx fs ea cl ha hn mU hm =>cases(show u=Value.ref a from rx);obtain⟨mA,O,_⟩:=Hv I.z9 ea;obtain⟨od,J,_⟩:=O.look;exact kia_one (PySem.W.kitx_own (cl.get _) cl.hd ha hn mU hm) I.kIn J e (λz=>nomatch z) h
end
structure Df(k:Nat)(A:Around):Prop where
 hd:A.handled=none
 dp:A.depth+3*k+5<recursionLimit
 un:A.units+16*k+200<cLine
theorem Df.mono(r:Df k A)(h:j<=k):Df j A:=⟨r.hd,by have:=r.dp;lia,by have:=r.un;lia⟩
theorem Df.deeper(r:Df (k+1) A)(env:Env):Df k (A.deeper env) :=
 ⟨r.hd,by have:=r.dp;show A.depth+1+3*k+5<_;lia,by have:=r.un;show A.units+3+16*k+200<_;lia⟩
theorem LK{A:Around}{C:Addr}{us:List Value}{kw:List (Str×Value)}:(A.under (.builtin "type.__call__" ⟨.ref C::us,kw⟩)).depth=A.depth+1:=by first|rfl|simp[guardIds]
theorem LJ{A:Around}{C:Addr}{us:List Value}{kw:List (Str×Value)}:(A.under (.builtin "type.__call__" ⟨.ref C::us,kw⟩)).units=A.units+1:=by first|rfl|simp[Code.isFrame]
theorem Df.make(r:Df (k+1) A)(C:Addr)(us:List Value)(kw:List (Str×Value)):Df k (A.under (.builtin "type.__call__" ⟨.ref C::us,kw⟩)) :=
 ⟨r.hd,by have:=r.dp;rw[LK];lia,by have:=r.un;rw[LJ];lia⟩
theorem Df.depth(r:Df k A):A.depth<recursionLimit:=by have:=r.dp;lia
theorem Df.units(r:Df k A):A.units+64<cLine:=by have:=r.un;lia
def YW:TA:=λ_ H Q=>Q [] H
def Z8(ta:TE)(tr:TA):TA:=λU H Q=>ta U H λx H1=>tr U H1 λxs H2=>Q (x::xs) H2
section
variable{X:Cx}{e:Expr}{es:List Expr}{te:TE}{t:TA}{pos:Pos}
theorem Fb:PA X [] YW:=λ_ _ _ _ H Q I h=>Calls.spliced_nil ⟨[],H,I,.nil,h⟩
theorem B9(ha:PE X e te)(hr:PA X es t)(hs:starEach (e::es) X.env=(false,eval e X.env)::starEach es X.env:=by rfl):PA X (e::es) (Z8 te t):=by
 intro pos aa s U H Q I h;rw[hs];refine Calls.spliced_cons (thn (ha aa s U H _ I h) λu s1 ao=>?_);obtain⟨x,H1,I1,r1,q1⟩:= ao;refine thn (hr pos aa s1 U H1 _ I1 q1) λus s2 ao => ?_
 obtain⟨xs,H2,I2,r2,q2⟩:= ao;exact⟨x::xs,H2,I2,.cons r1 r2,q2⟩
def tTup(t:TA):TE:=λU H Q=>t U H λxs H1=>xs.length<=sizeLine/\∀p,H1 p=none->Q (.ref p) (upd H1 p (.tup xs))
def tLst(t:TA):TE:=λU H Q=>t U H λxs H1=>xs.length<=sizeLine/\∀p,H1 p=none->Q (.ref p) (upd H1 p (.lst xs))
theorem Wz(h:PA X es t):PE X (.Tuple es x1 pos) (tTup t):=by intro aa s U H Q I hq;refine wpAny_Tuple_spliced (thn (h pos aa s U H _ I hq) λus s1 ⟨xs,H1,I1,r,z,q⟩=>⟨by rw[<- r.length];exact z,?_⟩);have hf:=I1.z9.fresh (tJ _);refine⟨.ref s1.heap.objs.size,upd H1 s1.heap.objs.size (.tup xs),I1.laid (λb u e=>sR _ e) (tJ _) ?_,rfl,q _ hf⟩;exact⟨z,us,r,⟨_,tq _ rfl,rfl,_,rfl,rfl⟩⟩
theorem Rb(h:PA X es t):PE X (.List es pos) (tLst t):=by intro aa s U H Q I hq;refine wpAny_List_spliced (thn (h pos aa s U H _ I hq) λus s1 ⟨xs,H1,I1,r,z,q⟩=>⟨by rw[<- r.length];exact z,?_⟩);have hf:=I1.z9.fresh (tJ _);refine⟨.ref s1.heap.objs.size,upd H1 s1.heap.objs.size (.lst xs),I1.laid (λb u e=>sR _ e) (tJ _) ?_,rfl,q _ hf⟩;exact⟨z,us,0,r,tq _ rfl⟩
end
abbrev Sp:=List V->Hp->VK->XK->Prop
abbrev CXT:=List Env->Hp->Shared->XK->Value->Shared->Prop
structure Vd(P:Program)(w:World)(K:Fg)(mg:Str->Option Value)(base:Heap)(A:Around)(outer:List Env)(s:Shared)(H:Hp):Prop where
 frames:A.frames=some outer
 mod:Mod K mg base
 bs:∀b o,base.get? b=some o->s.heap.get? b=some o/\H b=none
 zw:base.objs.size<=s.heap.objs.size
 KO:s.heap.FunFrames base outer
 zg:∀b∈frs outer,H b=none
 z9:HOk P w H s.heap
 bare:AllBare s.gens
inductive CE(outer:List Env)(P:Program)(w:World)(H:Hp)(s:Shared)(Q:VK)(u:Value)(s':Shared):Prop
 |mk (v:V) (H':Hp) (h0:s'.os=s.os) (h1:AllBare s'.gens) (h2:Un (frs outer) [] H H' s.heap s'.heap) (h3:HOk P w H' s'.heap) (h4:RelV v u) (h5:Q v H')
def CR(CX:CXT)(outer:List Env)(P:Program)(w:World)(H:Hp)(s:Shared)(Q:VK)(E:XK)(r:Result)(s':Shared):Prop :=
 match r with|.ok (.ret u)=>CE outer P w H s Q u s'|.ok _=>False|.error e=>CX outer H s E e s'
structure Dn(P:Program)(w:World)(K:Fg)(mg:Str->Option Value)(base:Heap)(CX:CXT)(k:Nat)(f:Addr)(fd:FuncData)(ps:List Str)(sp:Sp):Prop where
 len:∀vs H Q E,sp vs H Q E->vs.length=ps.length
 run:∀(A:Around)(outer:List Env)(s:Shared)(H:Hp)(args:Args)(us:List Value)(vs:List V)(Q:VK)(E:XK),Df k A->Vd P w K mg base A outer s H->BindsTo s fd args (ps.zip us)->Vals vs us->sp vs H Q E ->
  codeAny (model P w) A (.call (.ref f) args) (CR CX outer P w H s Q E) s
theorem Dn.imp{P:Program}{w:World}{K:Fg}{mg:Str->Option Value}{base:Heap}{CX:CXT}{k:Nat}{f:Addr}{fd:FuncData}{ps:List Str}{sp nM:Sp}(F:Dn P w K mg base CX k f fd ps sp)
  (h:∀vs H Q E,nM vs H Q E->sp vs H Q E):Dn P w K mg base CX k f fd ps nM :=
 ⟨λvs H Q E q=>F.len vs H Q E (h _ _ _ _ q),λA outer s H args us vs Q E hr he hb hv hs=>F.run A outer s H args us vs Q E hr he hb hv (h _ _ _ _ hs)⟩
theorem Vd.make{P:Program}{w:World}{K:Fg}{mg:Str->Option Value}{base:Heap}{A:Around}{outer:List Env}{s:Shared}{H:Hp}(e:Vd P w K mg base A outer s H)(C:Addr)(us:List Value)(kw:List (Str×Value)) :
  Vd P w K mg base (A.under (.builtin "type.__call__" ⟨.ref C::us,kw⟩)) outer s H:=⟨by first|exact e.frames|(simpa[pushEnvs]using e.frames),e.mod,e.bs,e.zw,e.KO,e.zg,e.z9,e.bare⟩
section
variable{X:Cx}{aa:List (Addr×Obj)}{U:St}{H:Hp}{s s':Shared}
theorem Inv.Jbo(I:Inv X aa U H s):Vd X.prog X.w X.K X.mg X.base X.A X.stack s H :=
 ⟨I.ok.frames,I.ok.mod,I.bs,tQ I.ok.zw I.sz,I.stack,I.Jw,I.z9,I.bare⟩
theorem Inv.after(I:Inv X aa U H s)(h:CE X.stack X.prog X.w H s Q u s'):EP X aa U Q u s':=by obtain⟨v,H',os,bare,un,z9,r,q⟩:=h;obtain⟨hh,g,d,t,eN⟩:=s';obtain rfl:eN=s.os:=os;exact⟨v,H',I.call un z9 bare (λb z=>absurd z (by simp)),r,q⟩
end
def Sn(C:Addr)(m:Str)(sp:Sp)(dU:List V)(E:XK)(ta:TE)(t:TA):TE:=λU H Q=>ta U H λx H1=>∃a dx fs,x=.ref a/\H1 a=some (.ins C dx fs)/\fs.lookup m=none /\
 t U H1 λvs H2=>sp (x::(vs++dU)) H2 Q E
def VO(C:Addr)(sp:Sp)(dU:List V)(E:XK)(t:TA):TE:=λU H Q=>t U H λvs H1=>∀x dx,H1 x=none->H1 dx=none->dx≠x ->
 sp (.ref x::(vs++dU)) (upd (upd H1 dx (.own x)) x (.ins C dx [])) (λv H2=>v=.o/\Q (.ref x) H2) E
def Binds(K:Fg)(fd:FuncData)(ps:List Str)(ds:List Value):Prop :=
 ∀(s:Shared)(us:List Value),K.In s.heap->(us++ds).length=ps.length->BindsTo s fd ⟨us,[]⟩ (ps.zip (us++ds))
theorem Binds.all{K:Fg}{fd:FuncData}{ps:List Str}(h:∀us:List Value,us.length=ps.length->bindArgs fd ⟨us,[]⟩=pure (ps.zip us)):Binds K fd ps []:=λs us _ hl=>by rw[ud]at hl ⊢;exact .of_eq (h us hl)
def Passes(CX:CXT)(X:Cx)(E:XK):Prop:=∀(aa:List (Addr×Obj))(U:St)(H:Hp)(s:Shared)(e:Value)(s':Shared),Inv X aa U H s->CX X.stack H s E e s'->X.xe e s'
section
variable{X:Cx}{CX:CXT}{k:Nat}{f C:Addr}{fd:FuncData}{ps:List Str}{sp:Sp}{dU:List V}{ds:List Value}{E:XK}{x m:Str}{p pos aA:Pos}{e o:Expr}{es:List Expr}{ta:TE}{t:TA}
theorem V3(F:Dn X.prog X.w X.K X.mg X.base CX k f fd ps sp)(hr:Df k X.A)(hb:Binds X.K fd ps ds)(hd:Vals dU ds)(hx:Passes CX X E)
  (I:Inv X aa U H s) (r:Vals vs us) (h:sp (vs++dU) H Q E):wpAny (model X.prog X.w) X.A (call (.ref f) us) (EP X aa U Q) X.xe s:=by
 have r2:=r.append hd;have hl:(us++ds).length=ps.length:=by rw[<- r2.length];exact F.len _ _ _ _ h
 refine wpAny_call (codeAny_mono (F.run X.A X.stack s H ⟨us,[]⟩ (us++ds) (vs++dU) Q E hr I.Jbo (hb s us I.kIn hl) r2 h) λr s' hq=>?_);cases r with|error e=>exact hx aa U H s e s' I hq|ok fl =>cases fl with|ret u=>exact I.after hq|next=>exact False.elim hq|brk=>exact False.elim hq|cont=>exact False.elim hq
theorem Pd(he:PE X o ta)(c:Cls X.K C)(hm:Meth X.K C m f)(F:Dn X.prog X.w X.K X.mg X.base CX k f fd ps sp)(hr:Df k X.A)(hb:Binds X.K fd ps ds)(hd:Vals dU ds)(hx:Passes CX X E)
  (ht:eval (.Call (.Attribute o m aA) [] [] pos) X.env=(do
   let ov <- eval o X.env
   standAt aA.atName
   let(f,first) <- holding [ov] (getMethod ov m pl)
   callWith pos f first (backTo pos (starEach [] X.env)) (backToKw pos (keywordEach [] X.env))):=by rfl) :
  PE X (.Call (.Attribute o m aA) [] [] pos) (Sn C m sp dU E ta YW):=by
 intro aa s U H Q I h;refine methodCall_KW (thn (he aa s U H _ I h) λu s1 ao=>?_) ht;obtain⟨x,H1,I1,rx,a,dx,fs,ex,ea,l,q⟩:= ao;subst ex;obtain rfl:u=Value.ref a:=rx;refine GO I1 ea c hm l ?_;exact PySem.W.callWith_K0 I1.kIn hm.kp (V3 (vs:=[.ref a]) F hr hb hd hx I1 (.cons rfl .nil) q)
structure Mk(K:Fg)(C f:Addr):Prop where
 makes:makesIn K C=true
 init:findIn K (.ref C) "__init__"=some (some (.ref f))
 fn:isFn K (.ref f)=true
 kp:keepIn K (.ref C)=true
theorem OS(M:Mk X.K C f)(F:Dn X.prog X.w X.K X.mg X.base CX k f fd ps sp)(hr:Df (k+1) X.A)(hb:Binds X.K fd ps ds)(hd:Vals dU ds)
  (hx:Passes CX X E) (I:Inv X aa U H s) (r:Vals vs us)
  (h:∀x dx,H x=none->H dx=none->dx≠x->sp (.ref x::(vs++dU)) (upd (upd H dx (.own x)) x (.ins C dx [])) (λv H2=>v=.o/\Q (.ref x) H2) E) :
  wpAny (model X.prog X.w) X.A (call (.ref C) us) (EP X aa U Q) X.xe s:=by
 have hq:=h (s.heap.objs.size+1) s.heap.objs.size (I.z9.fresh (Nat.le_succ _)) (I.z9.fresh (tJ _)) (tN (Nat.lt_succ_self _));have I2:=Inv.made (C:=C) I;have r2:Vals (V.ref (s.heap.objs.size+1)::(vs++dU)) (Value.ref (s.heap.objs.size+1)::(us++ds)):=.cons rfl (r.append hd);have hl:=by have e:=r2.length;rw[F.len _ _ _ _ hq]at e;exact e.symm
 refine wpAny_call (Pw I.kIn M.makes M.init (beq_iff_eq.mp M.fn) (codeAny_mono (F.run _ X.stack _ _ ⟨Value.ref (s.heap.objs.size+1)::us,[]⟩ (Value.ref (s.heap.objs.size+1)::(us++ds)) _ _ E (hr.make C us [])
  (I2.Jbo.make C us []) (hb _ (Value.ref (s.heap.objs.size+1)::us) I2.kIn hl) r2 hq) λr s' i9=>?_))
 cases r with|error e=>exact hx aa U _ _ e s' I2 i9|ok fl =>cases fl with|ret u =>obtain⟨v,H',I3,rv,ev,q3⟩:=I2.after i9;subst ev;exact⟨rv,⟨V.ref (s.heap.objs.size+1),H',I3,rfl,q3⟩⟩|next=>exact False.elim i9|brk=>exact False.elim i9|cont=>exact False.elim i9
theorem S3(M:Mk X.K C f)(F:Dn X.prog X.w X.K X.mg X.base CX k f fd ps sp)(hr:Df (k+1) X.A)(hg:Gl X x)(hm:X.mg x=some (.ref C))(hb:Binds X.K fd ps ds)(hd:Vals dU ds)(hx:Passes CX X E)
  (ha:PA X (e::es) t) (aR:(x==("__debug__":Str))=false:=by decide) (he:starEach (e::es) X.env=(false,eval e X.env)::starEach es X.env:=by rfl) (aI:(backTo pos (starEach es X.env)).any (·.1)=false:=by rfl) :
  PE X (.Call (.Name x p) (e::es) [] pos) (VO C sp dU E t):=by
 intro aa s U H Q I h;refine wpAny_Call_Name_kw (Eg I hg hm ?_ aR);refine callWith_K I.ok.mod.yX M.kp (thn (ha pos aa s U H _ I h) λus s1 ⟨vs,H1,I1,r,q⟩=>⟨I1.kIn,?_⟩) he aI;exact OS M F hr hb hd hx I1 r q
end
section
variable{X:Cx}{CX:CXT}{k:Nat}{f C:Addr}{fd:FuncData}{ps ks:List Str}{sp:Sp}{E:XK}{x m:Str}{p pos aA qV:Pos}{e o:Expr}{es:List Expr}{gQ:List Keyword}{te ta:TE}{t tk:TA}{nm:Option Str}
variable{g:List Value->List Value->List Value}{gV:List V->List V->List V}
end
structure HL(N P:List Str)(sc:Scope):Prop where
 kind:sc.kind=.function
 co:sc.isCoroutine=false
 gen:sc.isGenerator=false
 nd:N.Nodup
 pre:N.take P.length=P
 par:∀x∈P,sc.names.lookup x=some .local\/sc.names.lookup x=some .cell
 yQ:∀y∈sc.names,y.2≠.free
theorem Jd{kindOf:Str->Option NameKind}{x:Str}:∀{binds:List (Str×Value)}{m:Str->Option Value},(∀v,(x,v)∉binds)->bindL kindOf binds m x=m x
 | [],_,_=>rfl
 |(n,v)::r,m,h=>by
  unfold bindL;rw[Jd λw hw=>h w (sW _ hw)];split
  .have:x≠n:=by rintro rfl;exact h v tL
   simp[this]
  .rfl
theorem Jf{kindOf:Str->Option NameKind}{x:Str}:∀{binds:List (Str×Value)}{m:Str->Option Value},(∀v,(x,v)∉binds)->bindC kindOf binds m x=m x
 | [],_,_=>rfl
 |(n,v)::r,m,h=>by
  unfold bindC;rw[Jf λw hw=>h w (sW _ hw)];split
  .rfl
  .have:x≠n:=by rintro rfl;exact h v tL
   simp[this]
theorem Je{kindOf:Str->Option NameKind}{x:Str}{v:Value}:∀{P:List Str}{vs:List Value}{i:Nat}{m:Str->Option Value},P.Nodup->P[i]?=some x->vs[i]?=some v->kindOf x=some .local ->
  bindL kindOf (P.zip vs) m x=some v
 | [],_,_,_,_,h,_,_=>by simp at h
 |_::_,[],_,_,_,_,h,_=>by simp at h
 |p::P,w::vs,0,m,nd,h1,h2,hk=>by simp at h1 h2;subst h1;subst h2;show bindL kindOf ((p,w)::P.zip vs) m p=_;unfold bindL;rw[Jd λv hv=>(uc.mp nd).1 (u9 hv).1,if_pos hk];simp
 |p::P,w::vs,i+1,m,nd,h1,h2,hk=>by unfold bindL;exact Je (i:=i) (uc.mp nd).2 (by simpa using h1) (by simpa using h2) hk
theorem Jg{kindOf:Str->Option NameKind}{x:Str}{v:Value}:∀{P:List Str}{vs:List Value}{i:Nat}{m:Str->Option Value},P.Nodup->P[i]?=some x->vs[i]?=some v->kindOf x≠some .local ->
  bindC kindOf (P.zip vs) m x=some v
 | [],_,_,_,_,h,_,_=>by simp at h
 |_::_,[],_,_,_,_,h,_=>by simp at h
 |p::P,w::vs,0,m,nd,h1,h2,hk=>by simp at h1 h2;subst h1;subst h2;show bindC kindOf ((p,w)::P.zip vs) m p=_;unfold bindC;rw[Jf λv hv=>(uc.mp nd).1 (u9 hv).1,if_neg hk];simp
 |p::P,w::vs,i+1,m,nd,h1,h2,hk=>by unfold bindC;exact Jg (i:=i) (uc.mp nd).2 (by simpa using h1) (by simpa using h2) hk
noncomputable def start(N:List Str)(vs:List V):St:=vs.map some++List.replicate (N.length-vs.length) none
noncomputable def LS(CX:CXT)(P:Program)(w:World)(K:Fg)(mg:Str->Option Value)(base:Heap)(N:List Str)(qual:Str)(scope:Scope)(f:Addr)(cd:Value)(A:Around)(outer:List Env)(s:Shared)(H:Hp)(E:XK):Cx where
 prog:=P
 w:=w
 K:=K
 mg:=mg
 base:=base
 A:=A.deeper (envOfC qual scope s.heap.objs.size f cd)
 N:=N
 zZ:=s
 zo:=H
 env:=envOfC qual scope s.heap.objs.size f cd
 outer:=outer
 stack:=envOfC qual scope s.heap.objs.size f cd::outer
 ex:=[]
 calm:=true
 fn:=λ_=>true
 pn:=[]
 xe:=λe s'=>wpAny (model P w) (A.deeper (envOfC qual scope s.heap.objs.size f cd)) (leaving (envOfC qual scope s.heap.objs.size f cd) e) (λ_ lD=>CX outer H s E e lD) (λe' lD=>CX outer H s E e' lD) s'
theorem K6{sc:Scope}{n:Nat}{x:Str}(h:sc.names.lookup x=some .cell):∃c,(cellsFrom n sc.names []).lookup x=some c:=by have q:=PySem.W.cellsFrom_some sc.names n [] (.inl h);exact u6.mp q
theorem Nt{CX:CXT}{P:Program}{w:World}{K:Fg}{mg:Str->Option Value}{base:Heap}{N ps:List Str}{qual:Str}{scope:Scope}{f:Addr}{cd:Value}{A:Around}{outer:List Env}{s s1:Shared}{H:Hp}{E:XK}{us:List Value}{vs:List V}
  (S:HL N ps scope) (hd:A.handled=none) (e0:Vd P w K mg base A outer s H) (hl:vs.length=ps.length) (r:Vals vs us)
  (x:InCallC s s.heap.objs.size (bindL (envOfC qual scope s.heap.objs.size f cd).kindOf (ps.zip us) λ_=>none) (cellsFrom (s.heap.objs.size+1) scope.names []) (bindC (envOfC qual scope s.heap.objs.size f cd).kindOf (ps.zip us) λ_=>none) s1) :
  Inv (LS CX P w K mg base N qual scope f cd A outer s H E) [] (start N vs) H s1:=by
 have aI:ps.length<=N.length:=by have:=congrArg List.length S.pre;rw[uh]at this;lia
 obtain⟨h1,tk,rfl,hk⟩:=x.done;have jm:∀b:Addr,b∉(LS CX P w K mg base N qual scope f cd A outer s H E).ex:=λb z=>absurd (show b∈([]:List Addr)from z) (by simp)
 refine⟨⟨e0.mod,S.kind,rfl,rfl,tJ _,λy z c h1 h2=>?_,λy hy=>?_,λy c _ h=>?_,λ_=>hd,Around.frames_deeper e0.frames,.inr ⟨rfl,rfl⟩,λb z=>absurd z (jm b),e0.bs,e0.zw,λb _ _=>jm b,λb z=>absurd z (jm b),e0.KO,e0.zg⟩,
  rfl,e0.bare,Un.kept hk,⟨_,x.toInCall.ns,λi y v h1 h2 h3=>?_⟩,λy c h=>⟨_,x.cell y c h⟩,e0.z9.fresh (tJ _),λy c h=>?_,λp hp=>absurd (show p∈([]:List (Addr×Obj))from hp) (by simp),e0.z9.kept hk,?_⟩
 .exact name_of_addr x.apart (PySem.mem_of_lookup h1) (PySem.mem_of_lookup h2)
 .have hy:scope.names.lookup y=some .cell\/scope.names.lookup y=some .free:=hy;rcases hy with hy|hy
  .exact K6 hy
  .exact absurd rfl (S.yQ _ (PySem.mem_of_lookup hy))
 .exact vz (x.above y c (PySem.mem_of_lookup h))
 .have hi:i<vs.length:=by
   unfold start at h2;by_cases hi:i<vs.length
   .exact hi
   .rw[uH (by simpa using hi)]at h2;rw[List.getElem?_replicate]at h2;split at h2<;>cases h2
  have ha:vs[i]?=some v:=by unfold start at h2;rw[uX (by simpa using hi),tR]at h2;cases e:vs[i]? with|none=>rw[e]at h2;cases h2|some a=>rw[e]at h2;cases h2;rfl
  obtain⟨u,hu,rv⟩:=r.get ha;have hp:ps[i]?=some y:=by rwa[<- S.pre,vE (by lia)]
  have ny:ps.Nodup:=by rw[<- S.pre];exact S.nd.sublist (uU _ _)
  refine⟨u,rv,?_⟩;rcases S.par y (uk hp)with k|k
  .exact .inl ⟨k,Je ny hp hu k⟩
  .obtain⟨c,e⟩:=K6 (n:=s.heap.objs.size+1) k;refine .inr ⟨.inl k,c,e,?_⟩;have q:=x.cell y c e;rwa[Jg ny hp hu (by show scope.names.lookup y≠_;rw[k];decide)]at q
 .exact e0.z9.fresh (vz (x.above y c (PySem.mem_of_lookup h)))
 .unfold start;show _=N.length;rw[tY,tf,List.length_replicate]
  lia
section
variable{X:Cx}{x:Str}{p pos:Pos}{e:Expr}{es:List Expr}{t:TA}{id T:String}{r:List V->Hp->VK->Prop}
def tCB(r:List V->Hp->VK->Prop)(t:TA):TE:=λU H Q=>t U H λvs H1=>r vs H1 Q
theorem ET(hc:BU X (.builtin id) r)(hg:Gl X x)(hm:X.mg x=none)(hv:bootBuiltins x=some (.builtin id))(ha:PA X (e::es) t)(hn:x≠"__name__":=by decide)(aR:(x==("__debug__":Str))=false:=by decide)
  (he:starEach (e::es) X.env=(false,eval e X.env)::starEach es X.env:=by rfl) (aI:(backTo pos (starEach es X.env)).any (·.1)=false:=by rfl):PE X (.Call (.Name x p) (e::es) [] pos) (tCB r t):=by
 intro aa s U H Q I h;refine wpAny_Call_Name_kw (Ey I hg hm hv ?_ hn aR);exact PyProof.Rows.callWith_builtin1 (thn (ha pos aa s U H _ I h) λus s1 ⟨vs,H1,I1,r1,q1⟩=>hc aa s1 U H1 vs us Q I1 r1 q1) he aI
theorem MP(hc:BU X (.type T) r)(hg:Gl X x)(hm:X.mg x=none)(hv:bootBuiltins x=some (.type T))(ha:PA X (e::es) t)(hn:x≠"__name__":=by decide)(aR:(x==("__debug__":Str))=false:=by decide)
  (he:starEach (e::es) X.env=(false,eval e X.env)::starEach es X.env:=by rfl) (aI:(backTo pos (starEach es X.env)).any (·.1)=false:=by rfl):PE X (.Call (.Name x p) (e::es) [] pos) (tCB r t):=by
 intro aa s U H Q I h;refine wpAny_Call_Name_kw (Ey I hg hm hv ?_ hn aR);exact callWith_type1 (thn (ha pos aa s U H _ I h) λus s1 ⟨vs,H1,I1,r1,q1⟩=>hc aa s1 U H1 vs us Q I1 r1 q1) he aI
end
end L2
namespace HT
open PySem PyProof.Rows
section
open PySem.SeqAt
open PySem.AutoSeq1 (wpAny_loadPart')
open PySem.MeetsSeq PySem.MeetsSeq2 PySem.MeetsSeq3
end
section
variable{prog:Program}{w:World}{A:Around}{E:Value->Shared->Prop}{s:Shared}
theorem U5(ht:IsTup s.heap t vs.toArray)(hb:IsTup s.heap b ws.toArray)(hv:vs≠[])
  (h1:ws=[]->Q (.ref t) s) (h2:ws≠[]->Q (.ref s.heap.objs.size) {s with heap:=s.heap.push {cls:=.type "tuple",data:=.seq (vs++ws).toArray} })
  (hsz:vs.length+ws.length<=sizeLine):wpAny (model prog w) A (binaryOp .Add (.ref t) (.ref b)) Q E s:=by
 obtain⟨⟨cls,dd,data,sl⟩,ho,hc,n,hd⟩:=id ht;obtain⟨⟨kb,jA,data2,j4⟩,gM,c9,n2,hd2⟩:=id hb;subst hc hd c9 hd2;have e:vs.toArray++ws.toArray=(vs++ws).toArray:=by simp
 by_cases hw:ws=[]
 .exact concat_meets ⟨_,ho,rfl⟩ ⟨_,gM,rfl⟩ noFill_tuple_add seq_tuple_add slot_tuple_add entry_tuple_add (args_tuple_add_2 _ _)
   (tuple_addW1 t b vs.toArray ws.toArray n n2 dd jA sl j4 (by simpa using hv) (by simp[hw])) ⟨ho,gM,h1 hw⟩
 .refine concat_meets ⟨_,ho,rfl⟩ ⟨_,gM,rfl⟩ noFill_tuple_add seq_tuple_add slot_tuple_add entry_tuple_add (args_tuple_add_2 _ _)
   (tuple_addW2 t b vs.toArray ws.toArray n n2 dd jA sl j4 (by simpa using hv) (by simpa using hw) (by rwa[tK,tK])) ⟨ho,gM,?_⟩
  rw[e];exact h2 hw
noncomputable def sIx(n d:Nat):Option Int->Nat
 |none=>d
 |some v=>if v<0 then(v+(n:Int)).toNat else min v.toNat n
theorem Jz(n d k:Nat):sIx n d (some (k:Int))=min k n:=by show(if(k:Int)<0 then((k:Int)+(n:Int)).toNat else min (k:Int).toNat n)=min k n;rw[if_neg (by lia),ux]
theorem JbD(n d:Nat)(hd:d<=n)(o:Option Int):sIx n d o<=n:=by
 cases o with
 |none=>exact hd
 |some v =>
  show(if v<0 then(v+(n:Int)).toNat else min v.toNat n)<=n;by_cases hv:v<0
  .rw[if_pos hv];lia
  .rw[if_neg hv];exact Nat.min_le_right _ _
theorem Oa(v:Int)(n d:Nat):(if v<0 then max (v+(n:Int)) 0 else min v (n:Int))=((sIx n d (some v):Nat):Int):=by
 show(if v<0 then max (v+(n:Int)) 0 else min v (n:Int))=(((if v<0 then(v+(n:Int)).toNat else min v.toNat n):Nat):Int);by_cases hv:v<0
 .simp only[if_pos hv];lia
 .simp only[if_neg hv];lia
theorem LZ(lo hi:Option Int)(n:Nat):Builtin.Slice.sliceAdjust lo hi 1 (n:Int)=(((sIx n 0 lo:Nat):Int),((sIx n n hi:Nat):Int)):=by
 have h1:¬((1:Int)<0):=by lia
 unfold Builtin.Slice.sliceAdjust;refine Prod.ext ?_ ?_
 .cases lo with|none=>rfl|some v=>exact Oa v n 0
 .cases hi with|none=>rfl|some v=>exact Oa v n n
theorem LA(i j:Nat):Builtin.Slice.slicePlaces (i:Int) (j:Int) 1=j-i:=by unfold Builtin.Slice.slicePlaces;split<;>lia
theorem Gz(p:IsPart v o)(h:Q o s):wpAny (model prog w) A (Builtin.Slice.slicePartIndex v) Q E s:=by cases p with|none=>exact slicePart_none h|int i t=>exact slicePart_int h
theorem CV{sl:Addr}{vl vu:Value}{lo hi:Option Int}{n:Nat}{Q:Int×Int×Nat->Shared->Prop}(hs:s.heap.IsSliceOf sl vl vu .none)(pl:IsPart vl lo)(pu:IsPart vu hi)
  (h:Q (((sIx n 0 lo:Nat):Int),1,sIx n n hi-sIx n 0 lo) s):wpAny (model prog w) A (Builtin.Slice.sliceApplied (.ref sl) (pure (n:Int))) Q E s:=by
 obtain⟨os,hX,iu,iT⟩:=id hs;refine sQ (sQ (tZ hX iT (x:=vl) rfl (sQ (tZ hX iT (x:=vu) rfl (sQ (tZ hX iT (x:=.none) rfl (sV ?_)))))));refine sQ (slicePart_none ?_);refine sQ (Gz pl (sQ (Gz pu (sQ (sV ?_)))));show wpAny _ _ (match Builtin.Slice.sliceAdjust lo hi 1 (n:Int)with|(lo,hi)=>pure (lo,(1:Int),Builtin.Slice.slicePlaces lo hi 1)) _ _ s;rw[LZ lo hi n];show wpAny _ _ (pure (((sIx n 0 lo:Nat):Int),(1:Int),Builtin.Slice.slicePlaces ((sIx n 0 lo:Nat):Int) ((sIx n n hi:Nat):Int) 1)) _ _ s;rw[LA];exact sV h
theorem Pb(xs:Array Value)(i k:Nat):((List.range k).filterMap λ(m:Nat)=>xs[((i:Int)+(m:Int)*1).toNat]?).toArray=((xs.toList.drop i).take k).toArray:=by
 have e:(λ(m:Nat)=>xs[((i:Int)+(m:Int)*1).toNat]?)=λm=>xs[i+m]?:=by
  funext m;have:((i:Int)+(m:Int)*1).toNat=i+m:=by lia
  rw[this]
 rw[e];have:=pick_run xs i k;rw[List.filterMap_map]at this;have e2:((λx=>xs[x]?)∘λx=>i+x)=λm=>xs[i+m]?:=rfl
 rw[e2]at this;rw[this]
theorem Ei{t sl:Addr}{items:Array Value}{vl vu:Value}{lo hi:Option Int}{Q:Value->Shared->Prop}(ht:IsTup s.heap t items)(hs:s.heap.IsSliceOf sl vl vu .none)(pl:IsPart vl lo)(pu:IsPart vu hi)
  (hw:¬(sIx items.size 0 lo=0/\sIx items.size items.size hi=items.size))
  (h:Q (.ref s.heap.objs.size) {s with heap:=s.heap.push {cls:=.type "tuple",data:=.seq ((items.toList.drop (sIx items.size 0 lo)).take (sIx items.size items.size hi-sIx items.size 0 lo)).toArray} })
  (hsz:items.size<=sizeLine):wpAny (model prog w) A (getItem (.ref t) (.ref sl)) Q E s:=by
 have dX:sizeOk (.seq ((items.toList.drop (sIx items.size 0 lo)).take (sIx items.size items.size hi-sIx items.size 0 lo)).toArray):=by
  show((items.toList.drop (sIx items.size 0 lo)).take (sIx items.size items.size hi-sIx items.size 0 lo)).toArray.size<=sizeLine;rw[tK,uh,uN,uM]
  lia
 obtain⟨os,hX,iu,iT⟩:=id hs;have qf:s.TypeIs (.ref sl) "slice":=⟨os,hX,iu⟩
 unfold getItem
 try with_reducible refine wpAny_holding ?_
 first|refine sQ (sV ?_)|skip
 refine sQ (wpAny_sequenceKey ht.typeIs (by decide) ?_);refine sQ (wpAny_callSpecial?_slot (name:=Str.ofString "__getitem__") ht.typeIs slot_tuple_getitem
  (wpAny_call_entry slot_tuple_getitem ht.typeIs entry_tuple_getitem ?_ (args_tuple_getitem _ _)))
 show wpAny _ _ (Builtin.Tuple.tupleItemsOf (.ref t) >>= _) _ _ s;refine sQ (tupleItemsOf_ ht ?_);refine sQ (wpAny_typeOf qf ?_);refine sQ (CV hs pl pu ?_);have kM:¬((((sIx items.size 0 lo:Nat):Int)==0&&(1:Int)==1&&(sIx items.size items.size hi-sIx items.size 0 lo)==items.size)=true):=by intro q;rw[tO,tO]at q;have q1:((sIx items.size 0 lo:Nat):Int)=0:=eq_of_beq q.1.1;have q2:sIx items.size items.size hi-sIx items.size 0 lo=items.size:=eq_of_beq q.2;exact hw ⟨by lia,by lia⟩
 show wpAny _ _ (if(((sIx items.size 0 lo:Nat):Int)==0&&(1:Int)==1&&(sIx items.size items.size hi-sIx items.size 0 lo)==items.size)=true then _ else _) _ _ s;rw[if_neg kM,Pb]
 first
  |exact sQ (m:=Builtin.Tuple.tupleExact _) (wpAny_newObj_type (sV ⟨_,rfl,sV h⟩) dX)
  |exact sQ (m:=Builtin.Tuple.tupleExact _) (wpAny_newObj_type (sQ (sV (sV ⟨_,rfl,sV h⟩))) dX)
  |exact sQ (sQ (m:=Builtin.Tuple.tupleExact _) (wpAny_newObj_type (sV (sV ⟨_,rfl,sV h⟩)) dX))
  |exact sQ (sQ (m:=Builtin.Tuple.tupleExact _) (wpAny_newObj_type (sV ⟨_,rfl,sV h⟩) dX))
end
end HT
namespace L2
open PySem PySem.Spec PyProof.Rows
abbrev TO:=St->Hp->(Option Int->Hp->Prop)->Prop
def PO(X:Cx)(e:Option Expr)(t:TO):Prop :=
 ∀(aa:List (Addr×Obj))(s:Shared)(U:St)(H:Hp)(Q:Option Int->Hp->Prop),Inv X aa U H s->t U H Q ->
  wpAny (model X.prog X.w) X.A (evalPart e X.env) (λu s'=>∃o H',Inv X aa U H' s'/\IsPart u o/\Q o H') X.xe s
def Sm:TO:=λ_ H Q=>Q none H
def Z3(t:TE):TO:=λU H Q=>t U H λx H1=>∃i,x=.int i/\Q (some i) H1
theorem intsAre_of:∀{us:List Value},Vals (ns.map V.int) us->IntsAre us ns:=by induction ns with|nil=>intro us r;rw[uL]at r;cases r;exact .nil|cons n ns ih =>intro us r;cases r with|cons r1 r2 =>obtain⟨t,e⟩:=r1;subst e;exact .cons n t (ih r2)
section
variable{X:Cx}{e:Expr}{te:TE}{lo hi:Option Expr}{tl th:TO}{pos p2:Pos}
theorem SU:PO X none Sm:=by intro aa s U H Q I h;exact sV ⟨none,H,I,.none,h⟩
theorem SS(h:PE X e te):PO X (some e) (Z3 te):=by
 intro aa s U H Q I hw;refine thn (h aa s U H _ I hw) λu s1 ao=>?_
 obtain⟨x,H1,I1,r1,q1⟩:= ao;obtain⟨i,rfl,q⟩:=q1;obtain⟨t,rfl⟩:=r1;exact⟨some i,H1,I1,.int i t,q⟩
def SlR(X:Cx)(r:V->Option Int->Option Int->Hp->VK->Prop):Prop :=
 ∀(aa:List (Addr×Obj))(s:Shared)(U:St)(H:Hp)(x:V)(v vl vu:Value)(lo hi:Option Int)(sl:Addr)(Q:VK),Inv X aa U H s->RelV x v->s.heap.IsSliceOf sl vl vu .none->IsPart vl lo->IsPart vu hi->r x lo hi H Q ->
  ∃T id,typeLookup (.type T) "__getitem__"=pure (some (.builtin id))/\s.TypeIs v T/\wpAny (model X.prog X.w) X.A (getItem v (.ref sl)) (EP X aa U Q) X.xe s
theorem SlR.or(h:SlR X r)(h':SlR X r'):SlR X (λx lo hi H Q=>r x lo hi H Q\/r' x lo hi H Q):=by
 intro aa s U H x v vl vu lo hi sl Q I rx hs pl pu q;rcases q with q|q
 .exact h aa s U H x v vl vu lo hi sl Q I rx hs pl pu q
 .exact h' aa s U H x v vl vu lo hi sl Q I rx hs pl pu q
def tSl(r:V->Option Int->Option Int->Hp->VK->Prop)(te:TE)(tl th:TO):TE:=λU H Q=>te U H λx H1=>tl U H1 λl H2=>th U H2 λu H3=>r x l u H3 Q
theorem Ku{r:V->Option Int->Option Int->Hp->VK->Prop}(hr:SlR X r)(he:PE X e te)(hl:PO X lo tl)(hu:PO X hi th):PE X (.Subscript e (.Slice lo hi none p2) pos) (tSl r te tl th):=by
 intro aa s U H Q I h;refine Subscript_ (thn (he aa s U H _ I h) λv s1 ao=>?_);obtain⟨x,H1,I1,r1,q1⟩:= ao;refine wpAny_Slice (thn (hl aa s1 U H1 _ I1 q1) λvl s2 ⟨l,H2,I2,pl,q2⟩=>thn (hu aa s2 U H2 _ I2 q2) λvu s3 ao=>?_);obtain⟨u,H3,I3,pu,q3⟩:= ao;refine sV ?_;have I4:Inv X aa U H3 {s3 with heap:=s3.heap.push {cls:=.type "slice",data:=.fields #[vl,vu,.none]} }:=I3.kept (t':=s3.toks) λb ob q=>sR _ q
 obtain⟨T,id,hT,ht,hg⟩:=hr aa {s3 with heap:=s3.heap.push {cls:=.type "slice",data:=.fields #[vl,vu,.none]} } U H3 x v vl vu l u s3.heap.objs.size Q I4 r1 (Heap.IsSliceOf.new ..) pl pu q3;exact tail_any (ops:=[.ref s3.heap.objs.size,v]) ht hT hg (by with_unfolding_all rfl)
noncomputable def UX(xs:List V)(lo hi:Option Int):List V:=(xs.drop (HT.sIx xs.length 0 lo)).take (HT.sIx xs.length xs.length hi-HT.sIx xs.length 0 lo)
theorem FK(xs:List V)(lo hi:Option Int):(UX xs lo hi).length<=xs.length:=by
 unfold UX;rw[uh,uN]
 lia
def rSlT(K:Fg):V->Option Int->Option Int->Hp->VK->Prop:=λx lo hi H Q=>∃a xs,x=.ref a/\SqT K H a xs /\
 ¬(HT.sIx xs.length 0 lo=0/\HT.sIx xs.length xs.length hi=xs.length)/\∀p,H p=none->Q (.ref p) (upd H p (.tup (UX xs lo hi)))
theorem VU:SlR X (rSlT X.K):=by
 intro aa s U H x v vl vu lo hi sl Q I rx hs pl pu h;obtain⟨a,xs,rfl,hx,hw,q⟩:=h;cases rx;obtain⟨aq,r,ht,hz⟩:=I.tuple hx;have hlen:aq.toArray.size=xs.length:=by rw[tK];exact r.length.symm
 refine⟨"tuple",_,PyProof.Rows.slot_tuple_getitem.lookup,ht.typeIs,?_⟩;refine HT.Ei ht hs pl pu (by rwa[hlen]) ?_ (by rwa[hlen]);rw[hlen];refine⟨.ref s.heap.objs.size,_,I.laid (t':=s.toks) (o:=.tup (UX xs lo hi)) (λb ob q=>sR _ q) (tJ _) ?_,rfl,q _ (I.z9.fresh (tJ _))⟩;exact⟨tQ (FK xs lo hi) hz,_,(r.drop (HT.sIx xs.length 0 lo)).take (HT.sIx xs.length xs.length hi-HT.sIx xs.length 0 lo),PlT.new _ _⟩
def V7(K:Fg):R2:=λx y H Q=>∃a b xs ys,x=.ref a/\y=.ref b/\SqT K H a xs/\SqT K H b ys/\xs≠[]/\xs.length+ys.length<=sizeLine /\
 (ys=[]->Q (.ref a) H)/\(ys≠[]->∀p,H p=none->Q (.ref p) (upd H p (.tup (xs++ys))))
theorem Vals.JM(r:Vals xs us):us=[]↔xs=[]:=by cases r with|nil=>simp|cons _ _=>simp
theorem Tc:OpR X (binaryOp .Add) (V7 X.K):=by intro aa s U H x y v u Q I rx ry h;obtain⟨a,b,xs,ys,rfl,rfl,ha,hb,hx,hz,q1,q2⟩:=h;cases rx;cases ry;obtain⟨aq,r1,p1,_⟩:=I.tuple ha;obtain⟨aX,r2,p2,_⟩:=I.tuple hb;refine HT.U5 p1 p2 (λz=>hx (r1.JM.mp z)) (λz=>⟨.ref a,H,I,rfl,q1 (r2.JM.mp z)⟩) (λz=>?_) (by rwa[<- r1.length,<- r2.length]);refine⟨.ref s.heap.objs.size,_,I.laid (λb ob q=>sR _ q) (tJ _) ?_,rfl,q2 (λw=>z (r2.JM.mpr w)) _ (I.z9.fresh (tJ _))⟩;exact⟨by rw[tY];exact hz,_,r1.append r2,PlT.new _ _⟩
end
noncomputable def ixN(n:Nat)(i:Int):Option Nat:=if 0<=i then(if i<n then some i.toNat else none)else if -(n:Int)<=i then some (i+n).toNat else none
noncomputable def atI{α:Type}(xs:List α)(i:Int):Option α:=(ixN xs.length i).bind λj=>xs[j]?
theorem Np(h:ixN n i=some j):seqIndex? i n=some j/\j<n/\-(n:Int)<=i/\i<n:=by
 unfold ixN at h;by_cases h0:0<=i
 .rw[if_pos h0]at h;by_cases h1:i<n
  .rw[if_pos h1]at h;have e:=Option.some.inj h;exact⟨by rw[seqIndex_of h0 h1,e],by lia,by lia,h1⟩
  .rw[if_neg h1]at h;cases h
 .rw[if_neg h0]at h;by_cases h1:-(n:Int)<=i
  .rw[if_pos h1]at h;have e:=Option.some.inj h;exact⟨by rw[seqIndex_neg (by lia) h1,e],by lia,h1,by lia⟩
  .rw[if_neg h1]at h;cases h
theorem Kg(h:atI xs i=some v):∃j,seqIndex? i xs.length=some j/\xs[j]?=some v/\j<xs.length/\-(xs.length:Int)<=i/\i<xs.length:=by unfold atI at h;cases e:ixN xs.length i with|none=>rw[e]at h;cases h|some j =>rw[e]at h;obtain⟨h1,h2,h3,h4⟩:=Np e;exact⟨j,h1,h,h2,h3,h4⟩
theorem BH{α:Type}{xs:List α}{j:Nat}{v:α}(h:xs[j]?=some v):atI xs (j:Int)=some v:=by
 have hj:j<xs.length:=(sY.mp h).1;have e:ixN xs.length (j:Int)=some j:=by unfold ixN;rw[if_pos (by lia),if_pos (by lia)];simp
 unfold atI;rwa[e]
def Kj(b:Expr):Prop:=∀o i,subscripted b false o i=operate [o,i] (getItem o i)
def IxR(X:Cx)(r:R2):Prop :=
 ∀(value slice:Expr)(aa:List (Addr×Obj))(s:Shared)(U:St)(H:Hp)(x y:V)(v u:Value)(Q:VK),Inv X aa U H s->RelV x v->RelV y u->r x y H Q ->
  subscripted slice false v u=operate [v,u] (getItem v u)->wpAny (model X.prog X.w) X.A (subscriptTail value slice v u) (EP X aa U Q) X.xe s
def MtR(X:Cx)(id:String)(r:V->List V->Hp->VK->Prop):Prop :=
 ∀(aa:List (Addr×Obj))(s:Shared)(U:St)(H:Hp)(x:V)(xs:List V)(v:Value)(us:List Value)(Q:VK),Inv X aa U H s->RelV x v->Vals xs us->r x xs H Q ->
  wpAny (model X.prog X.w) X.A (call (.builtin id) (v::us)) (EP X aa U Q) X.xe s
section
variable{X:Cx}{a b:Expr}{ta tb:TE}{pos:Pos}
theorem IxR.or(h:IxR X r)(h':IxR X r'):IxR X (λx y H Q=>r x y H Q\/r' x y H Q):=by
 intro value slice aa s U H x y v u Q I rx ry q hs;rcases q with q|q
 .exact h value slice aa s U H x y v u Q I rx ry q hs
 .exact h' value slice aa s U H x y v u Q I rx ry q hs
theorem Jar(hr:IxR X r)(ha:PE X a ta)(hb:PE X b tb)(hs:Kj b):PE X (.Subscript a b pos) (tOp r ta tb):=by intro aa s U H Q I h;exact Subscript_ (Jbt ha hb I h λv u s2 x y H2 I2 rx ry q=>hr a b aa s2 U H2 x y v u Q I2 rx ry q (hs _ _))
inductive JbH(K:Fg)(x:V)(y:V)(H:Hp)(Q:VK):Prop
 |mk (p xs i v:_) (h0:x=.ref p) (h1:y=.int i) (h2:SqL K H p xs) (h3:atI xs i=some v) (h4:Q v H)
inductive JbF(K:Fg)(x:V)(y:V)(H:Hp)(Q:VK):Prop
 |mk (p xs i v:_) (h0:x=.ref p) (h1:y=.int i) (h2:SqT K H p xs) (h3:atI xs i=some v) (h4:Q v H)
inductive JbG(x:V)(y:V)(H:Hp)(Q:VK):Prop
 |mk (z i c:_) (h0:x=.str z) (h1:y=.int i) (h2:z.length<=sizeLine) (h3:atI z.cps.toList i=some c) (h4:Q (.str ⟨#[c]⟩) H)
theorem T4:IxR X (JbH X.K):=by
 intro value slice aa s U H x y v u Q I rx ry h hs;obtain⟨p,xs,i,z,rfl,rfl,hq,he,q⟩:=h;cases rx;obtain⟨t,rfl⟩:=ry;obtain⟨aq,r,pl,hz⟩:=I.list hq;obtain⟨j,h1,h2,h3,h4,h5⟩:=Kg he;obtain⟨w,ew,dk⟩:=r.get h2;have hl:=r.length;have hn:=GL;have ba:EP X aa U Q w s:=⟨z,H,I,dk,q⟩
 by_cases h0:0<=i
 .have hj:i.toNat=j:=by rw[seqIndex_of h0 h5]at h1;exact Option.some.inj h1
  exact item_listR pl.isList h0 (by lia) (by rw[hj];simpa using ew) ba hs
 .have hj:(i+(aq.toArray.size:Int)).toNat=j:=by rw[seqIndex_neg (by lia) h4]at h1;rw[tK,<- hl];exact Option.some.inj h1
  exact subscriptTail_builtinR (x:=w) pl.isList.typeIs slot_list_getitem.lookup
   (wpAny_getItem_list_neg (Q:=λr s'=>r=w/\EP X aa U Q r s') pl.isList (by lia) (by rw[tK]<;>lia) (by lia) (by rw[hj];simpa using ew) ⟨rfl,ba⟩) hs
theorem Xm:IxR X (JbF X.K):=by
 intro value slice aa s U H x y v u Q I rx ry h hs;obtain⟨p,xs,i,z,rfl,rfl,hq,he,q⟩:=h;cases rx;obtain⟨t,rfl⟩:=ry;obtain⟨aq,r,pl,hz⟩:=I.tuple hq;obtain⟨j,h1,h2,h3,h4,h5⟩:=Kg he;obtain⟨w,ew,dk⟩:=r.get h2;have hl:=r.length;have hn:=GL;have ba:EP X aa U Q w s:=⟨z,H,I,dk,q⟩
 exact subscriptTail_builtinR (x:=w) pl.typeIs slot_tuple_getitem.lookup
  (getItem_tuple (j:=j) (Q:=λr s'=>r=w/\EP X aa U Q r s') pl (by lia) (by lia) (by rwa[tK,<- hl]) (by simpa using ew) ⟨rfl,ba⟩) hs
theorem Xn:IxR X JbG:=by
 intro value slice aa s U H x y v u Q I rx ry h hs;obtain⟨z,i,c,rfl,rfl,hz,he,q⟩:=h;obtain⟨t,rfl⟩:=rx;obtain⟨t',rfl⟩:=ry;obtain⟨j,h1,h2,h3,h4,h5⟩:=Kg he;have hl:z.cps.toList.length=z.length:=by simp[Str.length]
 rw[hl]at h1 h4 h5;have hn:=GL;exact tail_any (typeIs_str s z t) slot_str_getitem.lookup (getItem_str (c:=c) (by have e1:decide (i < -(2^63:Int))=false:=tS (by lia);have e2:decide (i>=2^63)=false:=tS (by lia);rw[e1,e2,Bool.or_false]) (by rw[h1];simpa using h2) ⟨.str ⟨#[c]⟩,H,I.tok _,⟨_,rfl⟩,q⟩) hs
def rIx(K:Fg):R2:=λx y H Q=>JbH K x y H Q\/JbF K x y H Q\/JbG x y H Q
theorem Xo:IxR X (rIx X.K):=T4.or (Xm.or Xn)
theorem LI(aq:List Value)(n j:Nat)(u:Value):Obj.mapSeq (·.setIfInBounds j u) {cls:=.type "list",data:=.seq aq.toArray n}={cls:=.type "list",data:=.seq (aq.set j u).toArray n}:=by simp[Obj.mapSeq]
theorem Inv.lst(I:Inv X aa U H s)(h:H p=some (.lst xs)) :
  ∃(aq:List Value)(n:Nat),Vals xs aq/\s.heap.get? p=some {cls:=.type "list",data:=.seq aq.toArray n}/\xs.length<=sizeLine:=by
 obtain⟨z,aq,n,r,e⟩:=I.z9 p _ h;exact⟨aq,n,r,e,z⟩
theorem Inv.Xe{aa:List (Addr×Obj)}{U:St}{H:Hp}{s:Shared}{p:Addr}{xs ys:List V}{aq bM:List Value}{n n':Nat}{f:Obj->Obj}(I:Inv X aa U H s)(h:H p=some (.lst xs))
  (ho:s.heap.get? p=some {cls:=.type "list",data:=.seq aq.toArray n}) (hf:f {cls:=.type "list",data:=.seq aq.toArray n}={cls:=.type "list",data:=.seq bM.toArray n' }) (r:Vals ys bM) (hz:ys.length<=sizeLine) (t:Nat) :
  Inv X aa U (upd H p (.lst ys)) {s with heap:=s.heap.update p f,toks:=t}:=by
 have e:(s.heap.update p f).get? p=some {cls:=.type "list",data:=.seq bM.toArray n' }:=by rw[vi f ho (by rw[hf]<;>rfl),hf]
 refine I.write (x:=p) (e:=p) (by rw[h];trivial) (.inl rfl) (λb u hb q=>(uG _ _ (Ne.symm hb)).trans q) ⟨_,e⟩ ?_;exact⟨hz,bM,n',r,e⟩
inductive Sz(o:V)(i:V)(v:V)(H:Hp)(Q:Hp->Prop):Prop
 |mk (p xs k j:_) (h0:o=.ref p) (h1:i=.int k) (h2:H p=some (.lst xs)) (h3:ixN xs.length k=some j) (h4:Q (upd H p (.lst (xs.set j v))))
theorem set_list:QO X Sz:=by
 intro aa s U H o i v ov iv u Q I ro ri rv h;obtain⟨p,xs,k,j,rfl,rfl,hp,hj,q⟩:=h;cases ro;obtain⟨t,rfl⟩:=ri;obtain⟨aq,n,r,ho,hz⟩:=I.lst hp;obtain⟨h1,h2,h3,h4⟩:=Np hj;have hl:=r.length;have hn:=GL;have I':Inv X aa U (upd H p (.lst (xs.set j v))) {s with heap:=s.heap.update p (Obj.mapSeq (·.setIfInBounds j u))} :=
  I.Xe hp ho (LI aq n j u) (r.set rv j) (by rwa[List.length_set]) s.toks
 by_cases h0:0<=k
 .have hk:k.toNat=j:=by rw[seqIndex_of h0 h4]at h1;exact Option.some.inj h1
  exact PySem.W.ki_setAt ho h0 (by lia) (by rwa[tK,<- hl]) (by rw[hk];exact⟨_,I',q⟩)
 .have hk:(k+(aq.toArray.size:Int)).toNat=j:=by rw[seqIndex_neg (by lia) h3]at h1;rw[tK,<- hl];exact Option.some.inj h1
  exact PySem.W.ki_setBack ho (by lia) (by rwa[tK,<- hl]) (by lia) (by rw[hk];exact⟨_,I',q⟩)
theorem HU(lo hi:Option Int)(n:Nat):(sliceBounds lo hi none n).1=((HT.sIx n 0 lo:Nat):Int)/\(sliceBounds lo hi none n).2.1=((HT.sIx n n hi:Nat):Int)/\(sliceBounds lo hi none n).2.2=1:=by
 refine⟨?_,?_,rfl⟩
 .cases lo with
  |none=>simp[sliceBounds,HT.sIx]
  |some i =>
   simp only[sliceBounds,HT.sIx,Option.getD_none,if_true];by_cases h:i<0
   .simp only[h,if_true]<;>lia
   .simp only[h,if_false]<;>lia
 .cases hi with
  |none=>simp[sliceBounds,HT.sIx]
  |some i =>
   simp only[sliceBounds,HT.sIx,Option.getD_none,if_true];by_cases h:i<0
   .simp only[h,if_true]<;>lia
   .simp only[h,if_false]<;>lia
theorem He(aq:List Value)(lo hi:Option Int):slicePick aq.toArray lo hi none=((aq.drop (HT.sIx aq.length 0 lo)).take (HT.sIx aq.length aq.length hi-HT.sIx aq.length 0 lo)).toArray:=by obtain⟨h1,h2,h3⟩:=HU lo hi aq.toArray.size;unfold slicePick;rw[h1,h2,h3];simp only[sliceRange_one,pick_run]<;>rfl
inductive rSlL(K:Fg)(x:V)(lo:Option Int)(hi:Option Int)(H:Hp)(Q:VK):Prop
 |mk (a xs:_) (h0:x=.ref a) (h1:SqL K H a xs) (h2:∀p,H p=none->Q (.ref p) (upd H p (.lst (UX xs lo hi))))
theorem Ss:SlR X (rSlL X.K):=by intro aa s U H x v vl vu lo hi sl Q I rx hs pl pu h;obtain⟨a,xs,rfl,hx,q⟩:=h;cases rx;obtain⟨aq,r,ht,hz⟩:=I.list hx;have hlen:=r.length;refine⟨"list",_,slot_list_getitem.lookup,ht.isList.typeIs,?_⟩;refine wpAny_getItem_list_slice ht.isList hs pl pu .none (by simp) ?_ (by rw[tK]<;>lia);rw[He,<- hlen];refine⟨.ref s.heap.objs.size,_,I.laid (λb ob q=>sR _ q) (tJ _) ?_,rfl,q _ (I.z9.fresh (tJ _))⟩;exact⟨tQ (FK xs lo hi) hz,_,0,(r.drop (HT.sIx xs.length 0 lo)).take (HT.sIx xs.length xs.length hi-HT.sIx xs.length 0 lo),tq _ rfl⟩
noncomputable def En:V->Bool
 |.o=>true
 |.v _=>true
 |.int _=>true
 |.str _=>true
 |_=>false
noncomputable def eqV:V->V->Bool
 |.o,.o=>true
 |.v a,.v b=>a==b
 |.v a,.int b=>(if a then 1 else 0)==b
 |.int a,.v b=>a==(if b then 1 else 0)
 |.int a,.int b=>a==b
 |.str a,.str b=>a==b
 |_,_=>false
theorem RL(ry:RelV y u)(rx:RelV x v)(fy:En y=true)(fx:En x=true):SeqAt.EqAt A s u v (eqV y x):=by
 cases y with
 |o =>cases ry;cases x with|o=>cases rx;exact SeqAt.EqAt.same _|v b=>cases rx;exact SeqAt.EqAt.none_bool b|int b=>obtain⟨t,rfl⟩:=rx;exact SeqAt.EqAt.none_int b t|str b=>obtain⟨t,rfl⟩:=rx;exact SeqAt.EqAt.none_str b t|_=>exact absurd (show false=true from fx) tW
 |v a =>cases ry;cases x with|o=>cases rx;exact SeqAt.EqAt.bool_none a|v b=>cases rx;exact SeqAt.EqAt.bool_bool a b|int b=>obtain⟨t,rfl⟩:=rx;exact SeqAt.EqAt.bool_int a b t|str b=>obtain⟨t,rfl⟩:=rx;exact SeqAt.EqAt.bool_str a b t|_=>exact absurd (show false=true from fx) tW
 |int a =>obtain⟨t',rfl⟩:=ry;cases x with|o=>cases rx;exact SeqAt.EqAt.int_none a t'|v b=>cases rx;exact SeqAt.EqAt.int_bool a t' b|int b=>obtain⟨t,rfl⟩:=rx;exact SeqAt.EqAt.int_int a t' b t|str b=>obtain⟨t,rfl⟩:=rx;exact SeqAt.EqAt.int_str a t' b t|_=>exact absurd (show false=true from fx) tW
 |str a =>obtain⟨t',rfl⟩:=ry;cases x with|o=>cases rx;exact SeqAt.EqAt.str_none a t'|v b=>cases rx;exact SeqAt.EqAt.str_bool a t' b|int b=>obtain⟨t,rfl⟩:=rx;exact SeqAt.EqAt.str_int a t' b t|str b=>obtain⟨t,rfl⟩:=rx;exact SeqAt.EqAt.str_str a t' b t|_=>exact absurd (show false=true from fx) tW
 |_=>exact absurd (show false=true from fy) tW
noncomputable def eqU(x:V)(u:Value):Bool:=match u with|.none=>eqV .o x|.bool b=>eqV (.v b) x|.int i _=>eqV (.int i) x|.str z _=>eqV (.str z) x|_=>false
theorem RG(r:RelV y u)(f:En y=true):eqU x u=eqV y x:=by cases y with|o=>cases r;rfl|v b=>cases r;rfl|int i=>obtain⟨t,rfl⟩:=r;rfl|str z=>obtain⟨t,rfl⟩:=r;rfl|_=>exact absurd (show false=true from f) tW
theorem Ge:∀{xs:List V}{us:List Value},Vals xs us->xs.all En=true->us.any (eqU x)=xs.any λy=>eqV y x
 |_,_,.nil,_=>rfl
 |y::xs,u::us,.cons r t,f=>by rw[vH,tO]at f;rw[vd,vd,RG r f.1,Ge t f.2]
theorem DR(rx:RelV x v)(fx:En x=true):∀{xs:List V}{us:List Value},Vals xs us->xs.all En=true->∀u∈us,SeqAt.EqAt A s u v (eqU x u)
 |_,_,.nil,_=>λu hu=>by cases hu
 |y::xs,u::us,.cons r t,f=>λu' hu=>by
  rw[vH,tO]at f;rcases tH.mp hu with rfl|hu
  .rw[RG r f.1];exact RL r rx f.1 fx
  .exact DR rx fx t f.2 u' hu
noncomputable def inV(x:V)(xs:List V):Bool:=xs.any λy=>eqV y x
inductive rIn(K:Fg)(neg:Bool)(x:V)(y:V)(H:Hp)(Q:VK):Prop
 |mk (p xs:_) (h0:y=.ref p) (h1:(SqL K H p xs\/SqT K H p xs)/\En x=true/\xs.all En=true/\Q (.v (if neg then !inV x xs else inV x xs)) H)
theorem Ip:OpR X (compareOp .In) (rIn X.K false):=by
 intro aa s U H x y v u Q I rx ry h;obtain⟨p,xs,rfl,hq,fx,fs,q⟩:=h;cases ry;rcases hq with hq|hq
 .obtain⟨aq,r,pl,hz⟩:=I.list hq;refine SeqAt.in_listAt (eqU x) pl.isList (λw hw=>DR rx fx r fs w (by simpa using hw)) ⟨.v _,H,I,rfl,?_⟩;rwa[show aq.toArray.any (eqU x)=aq.any (eqU x) by simp,Ge r fs]
 .obtain⟨aq,r,pl,hz⟩:=I.tuple hq;refine SeqAt.in_tupleAt (eqU x) pl (λw hw=>DR rx fx r fs w (by simpa using hw)) ⟨.v _,H,I,rfl,?_⟩;rwa[show aq.toArray.any (eqU x)=aq.any (eqU x) by simp,Ge r fs]
theorem Ik:OpR X (compareOp .NotIn) (rIn X.K true):=by
 intro aa s U H x y v u Q I rx ry h;obtain⟨p,xs,rfl,hq,fx,fs,q⟩:=h;cases ry;rcases hq with hq|hq
 .obtain⟨aq,r,pl,hz⟩:=I.list hq;refine SeqAt.notIn_listAt (eqU x) pl.isList (λw hw=>DR rx fx r fs w (by simpa using hw)) ⟨.v _,H,I,rfl,?_⟩;rwa[show aq.toArray.any (eqU x)=aq.any (eqU x) by simp,Ge r fs]
 .obtain⟨aq,r,pl,hz⟩:=I.tuple hq;refine SeqAt.notIn_tupleAt (eqU x) pl (λw hw=>DR rx fx r fs w (by simpa using hw)) ⟨.v _,H,I,rfl,?_⟩;rwa[show aq.toArray.any (eqU x)=aq.any (eqU x) by simp,Ge r fs]
theorem Ij:OpR X (compareOp .NotIn) (λx y H Q=>∃i j,x=.str i/\y=.str j/\Q (.v (!(!(Builtin.Str.occurrences j i 0 j.length 1).isEmpty))) H):=by intro aa s U H x y v u Q I rx ry h;obtain⟨i,j,rfl,rfl,q⟩:=h;obtain⟨t,rfl⟩:=rx;obtain⟨t',rfl⟩:=ry;exact notIn_str ⟨.v _,H,I,rfl,q⟩
theorem Jb:BU X (.builtin "len") (λxs H Q=>∃p ys,xs=[.ref p]/\(SqL X.K H p ys\/SqT X.K H p ys)/\Q (.int ys.length) H):=by
 intro aa s U H xs us Q I r h;obtain⟨p,ys,rfl,hq,q⟩:=h;obtain⟨u,rfl,rx⟩:=vals1 r;cases rx;have hn:=GL;rcases hq with hq|hq
 .obtain⟨aq,r',pl,hz⟩:=I.list hq;have hlen:=r'.length;exact Calls.call_len_list pl.isList (by simp only[tK]<;>lia) ⟨.int ys.length,H,I.tok _,⟨s.toks+1,by rw[tK,hlen]⟩,q⟩
 .obtain⟨aq,r',pl,hz⟩:=I.tuple hq;have hlen:=r'.length;exact len_tuple pl (by simp only[tK]<;>lia) ⟨.int ys.length,H,I.tok _,⟨s.toks+1,by rw[tK,hlen]⟩,q⟩
theorem Ja:BU X (.builtin "len") (λxs H Q=>∃z,xs=[.str z]/\z.length<=sizeLine/\Q (.int z.length) H):=by intro aa s U H xs us Q I r h;obtain⟨z,rfl,hz,q⟩:=h;obtain⟨u,rfl,t,rfl⟩:=vals1 r;have hn:=GL;exact len_str (by lia) ⟨.int z.length,H,I.tok _,⟨_,rfl⟩,q⟩
theorem I0:BU X (.type "list") (λxs H Q=>∃p ys,xs=[.ref p]/\(SqL X.K H p ys\/SqT X.K H p ys)/\∀l,H l=none->Q (.ref l) (upd H l (.lst ys))):=by
 intro aa s U H xs us Q I r h;obtain⟨p,ys,rfl,hq,q⟩:=h;obtain⟨u,rfl,rx⟩:=vals1 r;cases rx;have ba:∀(aq:List Value),Vals ys aq->ys.length<=sizeLine->∀(h':Heap)(c':Nat),(∀b o',s.heap.get? b=some o'->h'.get? b=some o') ->
   h'.get? s.heap.objs.size=some {cls:=.type "list",dict:=none,data:=.seq aq.toArray c',slots:=#[]}->EP X aa U Q (.ref s.heap.objs.size) {s with heap:=h' }:=λaq r' hz h' c' kp e =>
  ⟨.ref s.heap.objs.size,_,I.laid (t':=s.toks) kp (tJ _) (show A2 X.prog X.w _ h' _ (.lst ys)from⟨hz,aq,c',r',e⟩),rfl,q _ (I.z9.fresh (tJ _))⟩
 rcases hq with hq|hq
 .obtain⟨aq,r',pl,hz⟩:=I.list hq;have hlen:=r'.length;obtain⟨o,ho,hc,n,hd⟩:=pl.isList;exact call_list_seq p (.inl rfl) ho hc hd (λh' c' kp e=>ba aq r' hz h' c' kp e) (by simp only[tK]<;>lia)
 .obtain⟨aq,r',pl,hz⟩:=I.tuple hq;have hlen:=r'.length;obtain⟨o,ho,hc,n,hd⟩:=pl;exact call_list_seq p (.inr rfl) ho hc hd (λh' c' kp e=>ba aq r' hz h' c' kp e) (by simp only[tK]<;>lia)
theorem HF:BU X (.type "tuple") (λxs H Q=>∃p ys,xs=[.ref p]/\((SqL X.K H p ys/\∀l,H l=none->Q (.ref l) (upd H l (.tup ys)))\/(SqT X.K H p ys/\Q (.ref p) H))):=by
 intro aa s U H xs us Q I r h;obtain⟨p,ys,rfl,h⟩:=h;obtain⟨u,rfl,rx⟩:=vals1 r;cases rx;rcases h with⟨hq,q⟩|⟨hq,q⟩
 .obtain⟨aq,r',pl,hz⟩:=I.list hq;have hlen:=r'.length;refine call_tuple_list pl.isList (λh' kp=>?_) (by simp only[tK]<;>lia);have I1:Inv X aa U H {s with heap:=h' }:=I.kept (t':=s.toks) kp;have I2:Inv X aa U (upd H h'.objs.size (.tup ys)) {s with heap:=h'.push {cls:=.type "tuple",data:=.seq aq.toArray} } :=
   I1.laid (t':=s.toks) (λb o e=>sR _ e) (tJ _) (show A2 X.prog X.w _ _ _ (.tup ys)from⟨hz,aq,r',PlT.new _ _⟩)
  exact⟨.ref h'.objs.size,_,I2,rfl,q _ (I1.z9.fresh (tJ _))⟩
 .obtain⟨aq,r',pl,hz⟩:=I.tuple hq;exact call_tuple_same pl ⟨.ref p,H,I,rfl,q⟩
def tyV(K:Fg)(T:String)(x:V)(H:Hp):Prop:=match x with
 |.str _=>T="str"
 |.int _=>T="int"
 |.ref p=>(T="list"/\∃xs,SqL K H p xs)\/(T="tuple"/\∃o,K.lookup p=some o/\o.cls=.type "tuple"/\o.dict=none)\/
   (T="dict"/\((∃ah,H p=some (.l ah))\/∃ah,H p=some (.dT ah)))\/(T="set"/\∃S n,H p=some (.set S n))
 |_=>False
theorem VH{aa:List (Addr×Obj)}{U:St}{H:Hp}{s:Shared}{T:String}{x:V}{v:Value}(I:Inv X aa U H s)(r:RelV x v)(ty:tyV X.K T x H) :
  s.TypeIs v T/\∀a,v=.ref a->∃ob,s.heap.get? a=some ob/\ob.dict=none:=by
 cases x with
 |str z =>obtain⟨t,rfl⟩:=r;cases(show T="str" from ty);exact⟨typeIs_str s z t,λ_ e=>nomatch e⟩
 |int i =>obtain⟨t,rfl⟩:=r;cases(show T="int" from ty);exact⟨typeIs_int s i t,λ_ e=>nomatch e⟩
 |ref p =>
  cases r;rcases ty with⟨rfl,xs,hq⟩|⟨rfl,o,hk,hc,hd⟩|⟨rfl,hk⟩|⟨rfl,S,n,hk⟩
  .obtain⟨aq,_,pl,_⟩:=I.list hq;refine⟨pl.isList.typeIs,λa e=>?_⟩;cases e;obtain⟨o,n,e,c,hd,_⟩:=pl;exact⟨o,e,hd⟩
  .refine⟨⟨o,I.kIn p o hk,hc⟩,λa e=>?_⟩;cases e;exact⟨o,I.kIn _ o hk,hd⟩
  .have z:∃o,s.heap.get? p=some o/\o.ExactDict:=by
    rcases hk with⟨ah,hk⟩|⟨ah,hk⟩
    .obtain⟨_,_,_,_,o,_,_,e,ex,_⟩:=I.z9 p _ hk;exact⟨o,e,ex⟩
    .obtain⟨_,_,_,_,o,_,_,e,ex,_⟩:=I.z9 p _ hk;exact⟨o,e,ex⟩
   obtain⟨o,e,ex⟩:=z;refine⟨⟨o,e,ex.1⟩,λa e2=>?_⟩;cases e2;exact⟨o,e,ex.2.1⟩
  .obtain⟨o,_,_,_,e,ex,_⟩:=I.z9 p _ hk;refine⟨⟨o,e,ex.1⟩,λa e2=>?_⟩;cases e2;exact⟨o,e,ex.2.1⟩
 |_=>exact False.elim ty
def tBM(K:Fg)(T:String)(r:V->List V->Hp->VK->Prop)(to:TE)(t:TA):TE:=λU H Q=>to U H λx H1=>tyV K T x H1/\t U H1 λxs H2=>r x xs H2 Q
variable{o e:Expr}{es:List Expr}{to:TE}{t:TA}{name:Str}{aA aD:Pos}{T id:String}{r:V->List V->Hp->VK->Prop}
theorem Jau(pa:PlainAttrs T)(slot:Slot T name id)(gp:typeOf (.builtin id)=pure (.type "method_descriptor"))(hm:MtR X id r)(ho:PE X o to)(ha:PA X (e::es) t)
  (fj:attributeBase o name X.env (eval o X.env)=eval o X.env:=by rfl)
  (g8:((backTo aD (starEach (e::es) X.env)).all (λx=>!x.1)&&(backToKw aD (keywordEach [] X.env)).all (λx=>x.1.isSome)
  &&decide ((e::es).length+([]:List Keyword).length+(if([]:List Keyword).isEmpty then 0 else 1)<30))=true:=by rfl)
  (fw:(aA.endLine==aD.line)=true:=by rfl) (hs:starEach (e::es) X.env=(false,eval e X.env)::starEach es X.env:=by rfl) (dC:(backTo aD (starEach es X.env)).any (·.1)=false:=by rfl) :
  PE X (.Call (.Attribute o name aA) (e::es) [] aD) (tBM X.K T r to t):=by
 intro aa s U H Q I h;refine wpAny_Call_method_late fj g8 fw rfl (thn (ho aa s U H _ I h) λv s1 ao=>?_);obtain⟨x,H1,I1,r1,ty,q1⟩:= ao;obtain⟨h1,h2⟩:=VH I1 r1 ty;refine⟨T,id,pa,slot,gp,h1,h2,?_⟩;have hA:=ha aD aa s1 U H1 _ I1 q1;rw[hs]at hA ⊢;refine Calls.callWith_builtin (by show(false||(backTo aD (starEach es X.env)).any (·.1))=false;rw[dC]<;>rfl) (Calls.evalArgs_plain ?_);refine thn hA λus s2 ao => ?_
 obtain⟨vs,H2,I2,r2,q2⟩:= ao;exact hm aa s2 U H2 x vs v us Q I2 r1 r2 q2
end
def MtM(X:Cx)(id:String)(r:V->List V->Hp->VK->Prop):Prop :=
 ∀(aa:List (Addr×Obj))(s:Shared)(U:St)(H:Hp)(x:V)(xs:List V)(v:Value)(us:List Value)(Q:VK),Inv X aa U H s->RelV x v->Vals xs us->r x xs H Q ->
  wpAny (model X.prog X.w) X.A (call (.builtin id) (v::us)) (EP X aa U Q) X.xe s
theorem Vals.one:∀{x:V}{us:List Value},Vals [x] us->∃u,us=[u]/\RelV x u
 |_,_,.cons r .nil=>⟨_,rfl,r⟩
section
variable{X:Cx}{aa:List (Addr×Obj)}{U:St}{H:Hp}{s:Shared}{l b:Addr}{xs ys zs:List V}
theorem Inv.lset{aq bM:List Value}{n:Nat}{f:Array Value->Array Value}{t':Nat}(I:Inv X aa U H s)(hH:H l=some (.lst xs))
  (e:s.heap.get? l=some {cls:=.type "list",data:=.seq aq.toArray n}) (hf:f aq.toArray=bM.toArray) (hv:Vals ys bM) (hz:ys.length<=sizeLine) :
  Inv X aa U (upd H l (.lst ys)) {s with heap:=s.heap.update l (Obj.mapSeq f),toks:=t' }:=by
 have q:=PySem.IsL.update e f;rw[hf]at q;refine I.write (by rw[hH];exact trivial) (.inl rfl) (λb' u hb hu=>(uG s.heap (Obj.mapSeq f) (Ne.symm hb)).trans hu) ⟨_,q⟩ ?_;exact⟨hz,bM,_,hv,q⟩
theorem Inv.lnew(I:Inv X aa U H s)(hv:Vals ys aq)(hz:ys.length<=sizeLine) :
  Inv X aa U (upd H s.heap.objs.size (.lst ys)) {s with heap:=s.heap.push {cls:=.type "list",data:=.seq aq.toArray},toks:=t' } :=
 I.laid (λ_ _ q=>sR _ q) (tJ _) ⟨hz,aq,0,hv,tq _ rfl⟩
theorem Inv.fresh(I:Inv X aa U H s):H s.heap.objs.size=none:=I.z9.fresh (tJ _)
theorem Inv.JaD(I:Inv X aa U H s)(hH:H l=some (.lst xs)):xs.length<=sizeLine/\∃(aq:List Value)(n:Nat),Vals xs aq/\xs.length=aq.length/\s.heap.get? l=some {cls:=.type "list",data:=.seq aq.toArray n}:=by obtain⟨z,aq,n,r,e⟩:=I.z9 l _ hH;exact⟨z,aq,n,r,r.length,e⟩
end
section
variable{X:Cx}
inductive MC(x:V)(vs:List V)(H:Hp)(Q:VK):Prop
 |mk (l xs y:_) (h0:x=.ref l) (h1:vs=[y]) (h2:H l=some (.lst xs)) (h3:xs.length<sizeLine) (h4:Q .o (upd H l (.lst (xs++[y]))))
theorem Iy:MtM X "list.append" MC:=by
 intro aa s U H x vs v us Q I rx rv h;obtain⟨l,xs,y,rfl,rfl,hH,hz,q⟩:=h;cases rx;obtain⟨u,rfl,ru⟩:=rv.one;obtain⟨z,aq,n,r,hl,e⟩:=I.JaD hH;refine call_meets F.slot_list_append ⟨_,e,rfl⟩ F.entry_list_append (F.args_list_append_2 _ _) (PySem.list_append l aq.toArray n u (by rw[tK];lia)) ⟨e,?_⟩;refine⟨.o,_,I.lset hH e (by simp) (r.append (.cons ru .nil)) ?_,rfl,q⟩;rw[tY,uS]
 lia
inductive JbI(x:V)(y:V)(H:Hp)(Q:VK):Prop
 |mk (l b xs zs:_) (h0:x=.ref l) (h1:y=.ref b) (h2:H l=some (.lst xs)) (h3:H b=some (.lst zs)) (h4:xs.length+zs.length<=sizeLine) (h5:∀p,H p=none->Q (.ref p) (upd H p (.lst (xs++zs))))
theorem WT:OpR X (binaryOp .Add) JbI:=by
 intro aa s U H x y v u Q I rx ry h;obtain⟨l,b,xs,zs,rfl,rfl,hH,hB,hz,q⟩:=h;cases rx;cases ry;obtain⟨z,aq,n,r,hl,e⟩:=I.JaD hH;obtain⟨z2,aX,n2,r2,eP,e2⟩:=I.JaD hB;refine PySem.P.add_list e e2 ?_ (by rw[tK,tK];lia);have ea:aq.toArray++aX.toArray=(aq++aX).toArray:=by simp
 rw[ea];exact⟨.ref _,_,I.lnew (t':=s.toks) (r.append r2) (by rw[tY];lia),rfl,q _ I.fresh⟩
end
section
variable{prog:Program}{w:World}{A:Around}{E:Value->Shared->Prop}{s:Shared}
set_option maxRecDepth 100000 in
end
section
variable{X:Cx}
end
section
variable{κ:Type}[DecidableEq κ]
noncomputable def Js(ah:List (κ×V))(k:κ):Option V:=(ah.find? λkv=>decide (kv.1=k)).map (·.2)
noncomputable def putK(ah:List (κ×V))(k:κ)(v:V):List (κ×V) :=
 if(ah.any λkv=>decide (kv.1=k))=true then ah.map (λkv=>if kv.1=k then(kv.1,v)else kv)else ah++[(k,v)]
theorem DK{p:κ×V}{r:List (κ×V)}{k:κ}(e:p.1=k):Js (p::r) k=some p.2:=by simp[Js,e]
theorem DL{p:κ×V}{r:List (κ×V)}{k:κ}(e:¬p.1=k):Js (p::r) k=Js r k:=by simp[Js,e]
theorem Kl(k:κ):∀ah:List (κ×V),(ah.any λkv=>decide (kv.1=k))=(Js ah k).isSome
 | []=>rfl
 |p::r=>by
  rw[vd];by_cases e:p.1=k
  .simp only[DK e,t9 e,Bool.true_or,Option.isSome_some]
  .rw[DL e,tS e,Bool.false_or];exact Kl k r
theorem DA(ah:List (κ×V))(k:κ)(v:V):(putK ah k v).length<=ah.length+1:=by
 unfold putK;split
 .rw[tf];lia
 .rw[tY,tV,vo];lia
theorem AO.C5(r:AO o u):o.isSome=u.isSome:=by
 cases o with
 |none=>cases u with|none=>rfl|some _=>exact(show False from r).elim
 |some _=>cases u with|none=>exact(show False from r).elim|some _=>rfl
theorem KV.val{ah:List (κ×V)}{vs:List (κ×Value)}(r:KV ah vs)(k:κ):AO (Js ah k) (valueAt vs k):=by
 induction r with
 |nil=>exact True.intro
 |@cons p q ps qs h t ih =>
  obtain⟨h1,h2⟩:=h;by_cases e:p.1=k
  .have e':q.1=k:=h1.symm.trans e;have b:valueAt (q::qs) k=some q.2:=by simp[valueAt,e']
   rwa[DK e,b]
  .have e':¬q.1=k:=λz=>e (h1.trans z)
   have b:valueAt (q::qs) k=valueAt qs k:=by simp[valueAt,e']
   rwa[DL e,b]
theorem KV.any{ah:List (κ×V)}{vs:List (κ×Value)}(r:KV ah vs)(k:κ):(ah.any λkv=>decide (kv.1=k))=vs.any λkv=>decide (kv.1=k):=by induction r with|nil=>rfl|cons h t ih=>rw[vd,vd,ih,h.1]
theorem KV.Jac(r:KV ah vs)(k:κ)(ry:RelV y u) :
  KV (ah.map λkv=>if kv.1=k then(kv.1,y)else kv) (vs.map λkv=>if kv.1=k then(kv.1,u)else kv):=by
 induction r with
 |nil=>exact .nil
 |@cons p q ps qs h t ih =>
  rw[sX,sX];refine .cons ?_ ih;obtain⟨h1,h2⟩:=h;by_cases e:p.1=k
  .rw[if_pos e,if_pos (h1.symm.trans e)];exact⟨h1,ry⟩
  .rw[if_neg e,if_neg (λz=>e (h1.trans z))];exact⟨h1,h2⟩
theorem KV.put(r:KV ah vs)(k:κ)(ry:RelV y u):KV (putK ah k y) (stored vs k u):=by
 unfold putK stored;rw[r.any k];by_cases e:(vs.any λkv=>decide (kv.1=k))=true
 .rw[if_pos e,if_pos e];exact r.Jac k ry
 .rw[if_neg e,if_neg e];exact Paired.snoc r ⟨rfl,ry⟩
theorem KV.length(r:KV ah vs):ah.length=vs.length:=Paired.length r
end
theorem ID(r:RelV (kV k) u):(AR P w).is k u=true:=by cases k with|inl i=>obtain⟨t,e⟩:=(show ∃t,u=Value.int i t from r);subst e;exact JP P w i t|inr x=>obtain⟨t,e⟩:=(show ∃t,u=Value.str x t from r);subst e;exact JO P w x t
theorem IF:∀{ks:List Key}{us:List Value},Vals (ks.map kV) us->ItemsAre (AR P w) ks us
 | [],_,r=>by rw[uL]at r;cases r;exact .nil
 |k::ks,_,r=>by cases r with|cons h t=>exact .cons (ID h) (IF t)
abbrev KT(H:Hp):List (List Key×V)->List (List Key×Addr×Value)->Prop:=Paired λp q=>p.1=q.1/\H q.2.1=some (.tup (p.1.map kV))/\RelV p.2 q.2.2
theorem KT.val{H:Hp}{ah:List (List Key×V)}{xs:List (List Key×Addr×Value)}(r:KT H ah xs)(k:List Key):AO (Js ah k) ((atKey xs k).map (·.2)):=by
 induction r with
 |nil=>exact True.intro
 |@cons p q ps qs h t ih =>
  obtain⟨h1,_,h2⟩:=h;by_cases e:p.1=k
  .have e':q.1=k:=h1.symm.trans e;have b:atKey (q::qs) k=some q.2:=by simp[atKey,e']
   rwa[DK e,b]
  .have e':¬q.1=k:=λz=>e (h1.trans z)
   have b:atKey (q::qs) k=atKey qs k:=by simp[atKey,e']
   rwa[DL e,b]
theorem KT.Jac(r:KT H ah xs)(k:List Key)(ry:RelV y u) :
  KT H (ah.map λkv=>if kv.1=k then(kv.1,y)else kv) (xs.map (putAt k u)):=by
 induction r with
 |nil=>exact .nil
 |@cons p q ps qs h t ih =>
  rw[sX,sX];refine .cons ?_ ih;obtain⟨h1,h2,h3⟩:=h;unfold putAt;by_cases e:p.1=k
  .rw[if_pos e,if_pos (h1.symm.trans e)];exact⟨h1,h2,ry⟩
  .rw[if_neg e,if_neg (λz=>e (h1.trans z))];exact⟨h1,h2,h3⟩
theorem KT.put{H:Hp}{ah:List (List Key×V)}{xs:List (List Key×Addr×Value)}(r:KT H ah xs)(k:List Key){b:Addr}{y:V}{u:Value}(hb:H b=some (.tup (k.map kV)))(ry:RelV y u) :
  KT H (putK ah k y) (storedH xs k b u):=by
 have e:(ah.any λkv=>decide (kv.1=k))=(atKey xs k).isSome:=by rw[Kl,(r.val k).C5,Option.isSome_map]
 unfold putK storedH;rw[e];by_cases q:(atKey xs k).isSome=true
 .rw[if_pos q,if_pos q];exact r.Jac k ry
 .rw[if_neg q,if_neg q];exact Paired.snoc r ⟨rfl,hb,ry⟩
theorem KT.keeps(r:KT H ah xs)(ht:∀b ys,H b=some (.tup ys)->H' b=some (.tup ys)):KT H' ah xs :=
 Paired.JaB r λ_ _ z=>⟨z.1,ht _ _ z.2.1,z.2.2⟩
section
variable{P:Program}{w:World}{H:Hp}{h:Heap}{a:Addr}
theorem V5(ok:HOk P w H h)(e:Rd H a u):A2 P w H h a u:=e.ok ok
theorem IQ(ok:HOk P w H h)(e:Rd H a (.l ah)):ah.length<=sizeLine/\(a==sysModules)=false/\∃vs,KV ah vs/\h.DictOf (AR P w) a vs :=
 show A2 P w H h a (.l ah)from V5 ok e
theorem YC(ok:HOk P w H h)(e:H a=some (.l ah)):ah.length<=sizeLine/\(a==sysModules)=false/\∃vs,KV ah vs/\h.DictOf (AR P w) a vs:=IQ ok (.inl e)
theorem IC(ok:HOk P w H h)(e:H a=some (.tup (ks.map kV))):(tupleKind (AR P w)).is h ks a:=by
 obtain⟨_,aq,r,o,h1,h2,n,h3,_⟩:=(show A2 P w H h a (.tup (ks.map kV))from ok a _ e)
 exact⟨o,aq.toArray,n,h1,h2,h3,by simpa using IF r⟩
theorem NZ{ah:List (List Key×V)}(ok:HOk P w H h)(e:Rd H a (.dT ah)):ah.length<=sizeLine/\(a==sysModules)=false /\
  ∃xs,KT H ah xs/\h.DictOfH (tupleKind (AR P w)) a xs:=by
 obtain⟨z,y,xs,r,o,es,ep,h1,h2,h3,h4,h5⟩:=(show A2 P w H h a (.dT ah)from V5 ok e)
 refine⟨z,y,xs,r,o,es,ep,h1,h2,h3,h4,λx hx=>?_,h5⟩;have all:∀{l:List (List Key×V)}{m:List (List Key×Addr×Value)},KT H l m->∀x∈m,(tupleKind (AR P w)).is h x.1 x.2.1:=by
  intro l m q
  induction q with
  |nil=>intro x hx;exact nomatch hx
  |@cons p q ps qs hq t ih =>
   intro x hx;rcases tH.mp hx with e|hx
   .subst e;exact IC ok (by rw[<- hq.1];exact hq.2.1)
   .exact ih x hx
 exact all r x hx
theorem Jbr(ok:HOk P w H h)(e:H a=some (.dT ah)):ah.length<=sizeLine/\(a==sysModules)=false /\
  ∃xs,KT H ah xs/\h.DictOfH (tupleKind (AR P w)) a xs:=NZ ok (.inl e)
end
def Jp(H:Hp)(a:Addr)(y:V)(r:Option V):Prop :=
 (∃ah k,Rd H a (.l ah)/\y=kV k/\r=Js ah k)\/∃ah k b,Rd H a (.dT ah)/\y=.ref b/\H b=some (.tup (k.map kV))/\r=Js ah k
def L7(H:Hp)(a:Addr)(y v:V)(H':Hp):Prop :=
 (∃ah k,H a=some (.l ah)/\y=kV k/\ah.length<sizeLine/\H'=upd H a (.l (putK ah k v)))\/
 ∃ah k b,H a=some (.dT ah)/\y=.ref b/\H b=some (.tup (k.map kV))/\ah.length<sizeLine/\H'=upd H a (.dT (putK ah k v))
theorem Jp.k{H:Hp}{a:Addr}{ah:List (Key×V)}{k:Key}(e:H a=some (.l ah)):Jp H a (kV k) (Js ah k):=.inl ⟨ah,k,.inl e,rfl,rfl⟩
theorem Jp.t{H:Hp}{a b:Addr}{ah:List (List Key×V)}{k:List Key}(e:H a=some (.dT ah))(eb:H b=some (.tup (k.map kV))):Jp H a (.ref b) (Js ah k):=.inr ⟨ah,k,b,.inl e,rfl,eb,rfl⟩
theorem L7.k{H:Hp}{a:Addr}{ah:List (Key×V)}{k:Key}{v:V}(e:H a=some (.l ah))(hl:ah.length<sizeLine):L7 H a (kV k) v (upd H a (.l (putK ah k v))):=.inl ⟨ah,k,e,rfl,hl,rfl⟩
theorem L7.t{H:Hp}{a b:Addr}{ah:List (List Key×V)}{k:List Key}{v:V}(e:H a=some (.dT ah))(eb:H b=some (.tup (k.map kV)))(hl:ah.length<sizeLine) :
  L7 H a (.ref b) v (upd H a (.dT (putK ah k v))):=.inr ⟨ah,k,b,e,rfl,eb,hl,rfl⟩
section
variable{X:Cx}{aa:List (Addr×Obj)}{U:St}{H:Hp}{s:Shared}{a:Addr}{y v:V}{u r:Value}{o:Option V}{A:Around}{E:Value->Shared->Prop}
theorem Inv.big(I:Inv X aa U H s):sysModules<s.heap.objs.size:=by have h:=(I.mod.glob.keeps I.bk).lt;exact uC (by decide) h
theorem IU(hu:A.units+1<cLine)(I:Inv X aa U H s)(g:Jp H a y (some v))(ry:RelV y u)(h:∀w' s',Inv X aa U H s'->RelV v w'->Q w' s') :
  wpAny (model X.prog X.w) A (getItem (.ref a) u) Q E s:=by
 rcases g with⟨ah,k,e,ey,l⟩|⟨ah,k,b,e,ey,eb,l⟩
 .subst ey;obtain⟨z,hd,vs,aO,dd⟩:=IQ I.z9 e;obtain⟨w',hw,dk⟩:=AO.some_of (by rw[l];exact aO.val k);exact wpAny_getItem_of (ID ry) dd.mapOf hw (h w' _ (I.tok _) dk)
 .subst ey;cases(show u=Value.ref b from ry);obtain⟨z,hd,xs,aO,dd⟩:=NZ I.z9 e;obtain⟨w',hw,dk⟩:=AO.some_of (by rw[l];exact aO.val k);obtain⟨p,hp,qI⟩:=tu.mp hw;refine wpAny_getItem_heap (tupleKind_room_in1 hu) (IC I.z9 eb) dd hp ?_;rw[qI];exact h w' _ (I.tok _) dk
theorem d_in(hu:A.units+1<cLine)(I:Inv X aa U H s)(g:Jp H a y o)(ry:RelV y u)(h:∀s',Inv X aa U H s'->Q (.bool o.isSome) s') :
  wpAny (model X.prog X.w) A (compareOp .In u (.ref a)) Q E s:=by
 rcases g with⟨ah,k,e,ey,l⟩|⟨ah,k,b,e,ey,eb,l⟩
 .subst ey;obtain⟨z,hd,vs,aO,dd⟩:=IQ I.z9 e;refine wpAny_in_of (ID ry) hd dd.mapOf ?_;rw[<- (aO.val k).C5,<- l];exact h _ (I.tok _)
 .subst ey;cases(show u=Value.ref b from ry);obtain⟨z,hd,xs,aO,dd⟩:=NZ I.z9 e;refine wpAny_in_heap (tupleKind_room_in1 hu) (IC I.z9 eb) hd dd ?_;have q:=(aO.val k).C5;rw[Option.isSome_map]at q;rw[<- q,<- l];exact h _ (I.tok _)
theorem UW(hu:A.units+1<cLine)(I:Inv X aa U H s)(g:Jp H a y o)(ry:RelV y u)(h:∀s',Inv X aa U H s'->Q (.bool (!o.isSome)) s') :
  wpAny (model X.prog X.w) A (compareOp .NotIn u (.ref a)) Q E s:=by
 rcases g with⟨ah,k,e,ey,l⟩|⟨ah,k,b,e,ey,eb,l⟩
 .subst ey;obtain⟨z,hd,vs,aO,dd⟩:=IQ I.z9 e;refine wpAny_notIn_of (ID ry) hd dd.mapOf ?_;rw[<- (aO.val k).C5,<- l];exact h _ (I.tok _)
 .subst ey;cases(show u=Value.ref b from ry);obtain⟨z,hd,xs,aO,dd⟩:=NZ I.z9 e;refine wpAny_notIn_heap (tupleKind_room_in1 hu) (IC I.z9 eb) hd dd ?_;have q:=(aO.val k).C5;rw[Option.isSome_map]at q;rw[<- q,<- l];exact h _ (I.tok _)
theorem J9(I:Inv X aa U H s)(mu:Mut (H a))(hs:Heap.SameBut a s.heap h')(he:∃q,h'.get? a=some q)(new:A2 X.prog X.w (upd H a ob) h' a ob) :
  Inv X aa U (upd H a ob) {s with heap:=h',toks:=t' } :=
 I.write mu (.inl rfl) (λb q hb z=>(hs.2 b hb).trans z) he new
theorem KW(z:ah.length<=sizeLine)(hd:(a==sysModules)=false)(aO:KV ah vs)(dd:h'.DictOf (AR P w) a vs) :
  A2 P w H' h' a (.l ah):=⟨z,hd,vs,aO,dd⟩
theorem IT{H':Hp}{Q:Unit->Shared->Prop}(hu:A.units+1<cLine)(I:Inv X aa U H s)(g:L7 H a y v H')(ry:RelV y u)(rv:RelV v r)(h:∀s',Inv X aa U H' s'->Q () s') :
  wpAny (model X.prog X.w) A (setItem (.ref a) u r) Q E s:=by
 rcases g with⟨ah,k,e,ey,l,eH⟩|⟨ah,k,b,e,ey,eb,l,eH⟩
 .subst ey eH;obtain⟨z,hd,vs,aO,dd⟩:=YC I.z9 e;have hz:vs.length<=sizeLine:=by rwa[<- aO.length]
  have hl:(putK ah k v).length<=sizeLine:=by have:=DA ah k v;lia
  refine wpAny_setItem_pairs (hsz:=hz) (ID ry) dd λh' fV hs=>h _ ?_
  have he:∃q,h'.get? a=some q:=let⟨q,_,_,hq,_⟩:=fV;⟨q,hq⟩;exact J9 I (by rw[e];exact True.intro) hs he (KW hl hd (aO.put k rv) fV)
 .subst ey eH;cases(show u=Value.ref b from ry);obtain⟨z,hd,xs,aO,dd⟩:=Jbr I.z9 e;have hz:xs.length<=sizeLine:=by rwa[<- Paired.length aO]
  have hl:(putK ah k v).length<=sizeLine:=by have:=DA ah k v;lia
  refine wpAny_setItem_heap (hsz:=hz) (tupleKind_room_in1 hu) (IC I.z9 eb) dd λh' fV hs=>h _ ?_
  obtain⟨q,es,ep,hq,h2,h3,h4,_,h5⟩:=fV;refine J9 I (by rw[e];exact True.intro) hs ⟨q,hq⟩ ⟨hl,hd,_,(aO.put k eb rv).keeps λc ys ec=>?_,q,es,ep,hq,h2,h3,h4,h5⟩;rwa[Aj (Jaz ec e (λz=>nomatch z))]
end
section
variable{X:Cx}{aa:List (Addr×Obj)}{U:St}{H:Hp}{s:Shared}{a:Addr}{ah:List (Key×V)}{k:Key}{u:Value}{A:Around}{E:Value->Shared->Prop}
theorem Jbs(I:Inv X aa U H s)(e:Rd H a (.l ah))(h:∀t s',Inv X aa U H s'->Q (.int ah.length t) s'):wpAny (model X.prog X.w) A (call (.builtin "len") [.ref a]) Q E s:=by obtain⟨z,hd,vs,aO,dd⟩:=IQ I.z9 e;refine call_len_dict hd dd (by rw[<- aO.length];rw[sizeLine_eq]at z;lia) ?_;rw[<- aO.length];exact h _ _ (I.tok _)
end
def Jbz(i:Expr):Prop:=∀ov iv,subscripted i false ov iv=operate [ov,iv] (getItem ov iv)
theorem Sq{prog:Program}{w:World}{A:Around}{E:Value->Shared->Prop}{s:Shared}{env:Env}{value slice:Expr}{pos:Pos}{T id:String}{Q:Value->Shared->Prop}
  (hl:typeLookup (.type T) "__getitem__"=pure (some (.builtin id))) (hs:Jbz slice)
  (h:wpAny (model prog w) A (eval value env) (λo az=>wpAny (model prog w) A (eval slice env) (λi cS=>cS.TypeIs o T/\wpAny (model prog w) A (getItem o i) Q E cS) E az) E s) :
  wpAny (model prog w) A (eval (.Subscript value slice pos) env) Q E s:=by
 refine Subscript_ (wpAny_mono h (λo az aB=>wpAny_mono aB (λi cS cM=>?_) λ_ _ x=>x) λ_ _ x=>x);obtain⟨hT,cM⟩:=cM;refine sQ ?_;refine sQ (wpAny_specialOf hT hl ?_);have ba:wpAny (model prog w) A (subscripted slice false o i) (λr br=>wpAny (model prog w) A (letTemporaryGo value o r >>= λ_=>pure r) Q E br) E cS:=by rw[hs o i];exact wpAny_operating (wpAny_mono cM (λr br eM=>sQ (wpAny_letTemporaryGo (sV eM))) λ_ _ x=>x)
 first
  |exact sV (sQ ba)
  |exact sQ (sV (sQ ba))
  |exact sQ ba
theorem FH(I:Inv X aa U H s)(g:Jp H a y o):s.TypeIs (.ref a) "dict":=by
 rcases g with⟨ah,k,e,_,_⟩|⟨ah,k,b,e,_,_,_⟩
 .obtain⟨_,_,vs,_,dd⟩:=IQ I.z9 e;exact dd.typeIs
 .obtain⟨_,_,xs,_,dd⟩:=NZ I.z9 e;exact dd.typeIs
def Z7(td ty:TE):TE:=λU H Q=>td U H λx H1=>ty U H1 λy H2=>∃a v,x=.ref a/\Jp H2 a y (some v)/\Q v H2
def V2(td ty tv:TE):TS:=λD U H=>tv U H λv H1=>td U H1 λx H2=>ty U H2 λy H3=>∃a H4,x=.ref a/\L7 H3 a y v H4/\D.nx U H4
section
variable{X:Cx}{o i e value:Expr}{pos aS bH:Pos}{td ty tv:TE}
theorem S5(hu:X.A.units+1<cLine)(ho:PE X o td)(hi:PE X i ty)(hs:Jbz i):PE X (.Subscript o i pos) (Z7 td ty):=by intro aa s U H Q I h;refine Sq PySem.F.slot_dict_getitem.lookup hs (thn (ho aa s U H _ I h) λu s1 ⟨x,H1,I1,rx,q1⟩=>thn (hi aa s1 U H1 _ I1 q1) λiv s2 ao=>?_);obtain⟨y,H2,I2,ry,a,v,ex,g,q2⟩:= ao;subst ex;obtain rfl:u=Value.ref a:=rx;exact⟨FH I2 g,IU hu I2 g ry λw' s3 I3 dk=>⟨v,H2,I3,dk,q2⟩⟩
theorem JE(hu:X.A.units+1<cLine)(ho:PE X o td)(hi:PE X i ty)(hv:PE X value tv)(hs:swapsWith value (some (.Subscript o i aS)) pos.line X.env=pure false) :
  PS X (.Assign [.Subscript o i aS] value pos) (V2 td ty tv):=by
 intro aa s U H D I h;refine wpAny_Assign_Subscript (thn (hv aa s U H _ I h) λr s1 ⟨v,H1,I1,rv,q1⟩=>thn (ho aa s1 U H1 _ I1 q1) λu s2 ⟨x,H2,I2,rx,q2⟩=>thn (hi aa s2 U H2 _ I2 q2) λiv s3 ao=>?_) hs;obtain⟨y,H3,I3,ry,a,H4,ex,g,q3⟩:= ao;subst ex;obtain rfl:u=Value.ref a:=rx;exact IT hu I3 g ry rv λs4 I4=>⟨U,H4,I4,q3⟩
end
theorem KY(h:Heap)(hb:sysModules<h.objs.size):A2 P w H (h.push {cls:=.type "dict",data:=.dict #[]}) h.objs.size (.l []) :=
 ⟨vG _,beq_eq_false_iff_ne.mpr (Ne.symm (tN hb)),[],.nil,Heap.DictOf.new h⟩
def VP:TE:=λ_ H Q=>∀p,H p=none->Q (.ref p) (upd H p (.l []))
section
variable{X:Cx}{pos:Pos}
theorem Kw:PE X (.Dict [] [] pos) VP:=λaa s U H Q I h =>wpAny_Dict_empty ⟨.ref s.heap.objs.size,_,I.laid (λ_ _ q=>sR _ q) (tJ _) (KY s.heap I.big),rfl,h _ (I.z9.fresh (tJ _))⟩
end
def Mq:List (TE×TE)->St->Hp->(List (V×V)->Hp->Prop)->Prop
 | [],_,H,Q=>Q [] H
 |(tk,tv)::r,U,H,Q=>tk U H λx H1=>tv U H1 λy H2=>Mq r U H2 λps H3=>Q ((x,y)::ps) H3
abbrev VV:List (V×V)->List (Value×Value)->Prop:=Paired λp q=>RelV p.1 q.1/\RelV p.2 q.2
def PPs(X:Cx)(pos:Pos)(di:List (Option Expr))(values:List Expr)(gW:List (TE×TE)):Prop :=
 ∀(aa:List (Addr×Obj))(s:Shared)(U:St)(H:Hp)(Q:List (V×V)->Hp->Prop),Inv X aa U H s->Mq gW U H Q ->
  wpAny (model X.prog X.w) X.A (evalPairs (pairTrees di values X.env pos)) (λvs s'=>∃ps H',Inv X aa U H' s'/\VV ps vs/\Q ps H') X.xe s
theorem SR:PPs X pos [] [] []:=λaa s U H Q I h=>pairTrees_nil_walk ⟨[],H,I,.nil,h⟩
theorem O7(hk:PE X k tk)(hv:PE X v tv)(hr:PPs X pos ks vs gW) :
  PPs X pos (some k::ks) (v::vs) ((tk,tv)::gW):=λaa s U H Q I h =>
 pairTrees_cons_walk (thn (hk aa s U H _ I h) λu s1 ⟨x,H1,I1,rx,q1⟩=>thn (hv aa s1 U H1 _ I1 q1) λw2 s2 ⟨y,H2,I2,ry,q2⟩ =>thn (hr aa s2 U H2 _ I2 q2) λws s3 ⟨ps,H3,I3,aO,q3⟩=>⟨(x,y)::ps,H3,I3,.cons ⟨rx,ry⟩ aO,q3⟩)
noncomputable def DQ(ah more:List (Key×V)):List (Key×V):=more.foldl (λax kv=>putK ax kv.1 kv.2) ah
theorem KV.merge:∀{more:List (Key×V)}{rs:List (Key×Value)}{ah:List (Key×V)}{vs:List (Key×Value)},KV more rs->KV ah vs->KV (DQ ah more) (merged vs rs):=by
 intro more rs ah vs r
 induction r generalizing ah vs with
 |nil=>intro q;exact q
 |@cons p q ps qs h t ih =>
  intro r0;have e:KV (putK ah p.1 p.2) (stored vs q.1 q.2):=by have:=r0.put p.1 h.2;rwa[<- h.1]
  exact ih e
theorem DT:∀(more ah:List (Key×V)),(DQ ah more).length<=ah.length+more.length
 | [],ah=>by show ah.length<=ah.length+0;lia
 |p::r,ah=>by have h1:=DT r (putK ah p.1 p.2);have h2:=DA ah p.1 p.2;show(DQ (putK ah p.1 p.2) r).length<=_;rw[tV];lia
theorem GR:∀{ah:List (Key×V)}{ws:List (Value×Value)},VV (ah.map λkv=>(kV kv.1,kv.2)) ws->∃rs,Carries (AR P w) ws rs/\KV ah rs
 | [],_,r=>by rw[uL]at r;cases r;exact⟨[],True.intro,.nil⟩
 |p::ah,_,r=>by cases r with|@cons a b as bs h t =>obtain⟨rs,c,q⟩:=GR t;obtain⟨b1,b2⟩:=b;exact⟨(p.1,b2)::rs,⟨ID h.1,rfl,c⟩,.cons ⟨rfl,h.2⟩ q⟩
def Z6(gW:List (TE×TE)):TE:=λU H Q=>∀p,H p=none->Mq gW U (upd H p (.l [])) λps H2=>H2 p=some (.l [])/\∃ah:List (Key×V),ps=ah.map (λkv=>(kV kv.1,kv.2))/\ah.length<=15/\Q (.ref p) (upd H2 p (.l (DQ [] ah)))
theorem S4{X:Cx}{pos:Pos}{di:List (Option Expr)}{values:List Expr}{gW:List (TE×TE)}(h:PPs X pos di values gW)(dz:di.all (·.isSome)=true)(hl:di.length=values.length)(h0:di≠[])
  (p7:di.length<=15):PE X (.Dict di values pos) (Z6 gW):=by
 intro aa s U H Q I q;have hn:=I.z9.fresh (tJ s.heap.objs.size);have I1:=I.laid (a:=s.heap.objs.size) (o:=.l []) (h':=s.heap.push {cls:=.type "dict",data:=.dict #[]}) (t':=s.toks) (λ_ _ q=>sR _ q) (tJ _) (KY s.heap I.big);refine wpAny_Dict_walk (knd:=AR X.prog X.w) dz hl h0 p7 (thn (h aa _ U _ _ I1 (q _ hn)) λws s2 ao=>?_);obtain⟨ps,H2,I2,aO,e,ah,ep,lk,q2⟩:= ao;subst ep;obtain⟨rs,c,rk⟩:=GR (P:=X.prog) (w:=X.w) aO;obtain⟨z,hd,sP,r0,dd⟩:=YC I2.z9 e;cases r0;refine⟨rs,c,dd,λh' fV hs=>⟨.ref s.heap.objs.size,_,?_,rfl,q2⟩⟩;have hz:(DQ [] ah).length<=sizeLine:=by have h1:=DT ah [];rw[vo]at h1;rw[sizeLine_eq];lia
 have he:∃q,h'.get? s.heap.objs.size=some q:=let⟨q,_,_,hq,_⟩:=fV;⟨q,hq⟩;exact J9 I2 (by rw[e];exact True.intro) hs he (KW hz hd (rk.merge .nil) fV)
section
variable{X:Cx}{aa:List (Addr×Obj)}{U:St}{H:Hp}{s:Shared}{a:Addr}{y d:V}{u r:Value}{o:Option V}{A:Around}{E:Value->Shared->Prop}
end
section
variable{X:Cx}{o e f:Expr}{aA aD:Pos}{td ty tx:TE}
end
section
variable{X:Cx}{aa:List (Addr×Obj)}{U:St}{H:Hp}{s:Shared}{a:Addr}{ah:List (Key×V)}{A:Around}{E:Value->Shared->Prop}
theorem Qu{Q:Value->Shared->Prop}(I:Inv X aa U H s)(e:Rd H a (.l ah))(h:∀p s',H p=none->Inv X aa U (upd H p (.l ah)) s'->Q (.ref p) s'):wpAny (model X.prog X.w) A (call (.type "dict") [.ref a]) Q E s:=by
 obtain⟨z,hd,vs,aO,dd⟩:=IQ I.z9 e;refine kt_call_dict hd dd (by rw[<- aO.length];exact z) λh' fV hs=>?_
 refine h _ _ (I.z9.fresh (tJ _)) (I.laid (a:=s.heap.objs.size) (o:=.l ah) (t':=s.toks) (λb q hq=>?_) (tJ _) (KW z (beq_eq_false_iff_ne.mpr (Ne.symm (tN I.big))) aO fV));exact(hs.2 b (tN (tj hq))).trans (sR _ hq)
end
section
variable{X:Cx}{aa:List (Addr×Obj)}{U:St}{H:Hp}{s:Shared}{a:Addr}{y:V}{u:Value}{A:Around}{E:Value->Shared->Prop}
end
end L2
namespace Att
open PySem PySem.W PySem.Calls PyProof.Rows
theorem Fy:∀(ns:List Int)(vs:List Value),WellAll P h vs (ns.map WData.int)->IntsAre vs ns:=by
 intro ns
 induction ns with|nil =>intro vs w;cases w;exact .nil|cons n ns ih =>intro vs w;cases w with|cons a b =>cases a;exact .cons _ _ (ih _ b)
theorem Mx{l:OpenLaw}{n:Nat}(hn:l.most=some n){P:Params}{h:Heap}{args:List WData}{vals:List Value}
  (eG:l.row.toRowW.claim.pre args=true) (je:WellAll P h vals args) :
  ∃a vs ns,vals=[Value.ref a]/\args=[WData.list (ns.map WData.int)]/\h.get? a=some {cls:=.type "list",data:=.seq vs.toArray}/\IntsAre vs ns/\ns.length<=n:=by
 have qM:WShape.hasAll [] args [.list .int]=true:=(pre_splitW eG).1;have hc:l.pre.holds [] {args:=args}=true:=(pre_splitW eG).2;obtain⟨d,r,rfl,h1,h2⟩:=hasAllW_cons qM;obtain rfl:=hasAllW_nil h2;obtain⟨xs,rfl,h3⟩:=hasW_list h1;obtain⟨ns,rfl⟩:=items_int h3;have hlen:ns.length<=n:=by
  have h4:(WTm.not (.lt (.lit (.int (n:Int))) (.len (.arg 0)))).holds [] {args:=[.list (ns.map .int)]}=true:=by have h4:=(holds_andW hc).1;rwa[hn]at h4
  have h5:=condW_of h4 (w_not (w_lt w_lit (w_len_list (w_arg rfl))));refine Nat.le_of_not_lt λq=>?_
  first
   |(rw[t9 q']at h5;exact absurd h5 (by decide))
   |(simp at h5;lia)
 cases je with|cons w1 w2 =>cases w2;cases w1 with|list ho dz=>exact⟨_,_,ns,rfl,rfl,ho,Fy ns _ dz,hlen⟩
theorem MK(l:OpenLaw)(args:List WData):l.row.toRowW.claim.post args (.bool true) args=true :=
 postW_of
  (show WShape.has [] (.bool true) .bool=true by first|rfl|decide|simp[WShape.armsAll])
  (show(WTm.eq .res (.lit (.bool true))).value [] {args:=args,res:=some (.bool true),after:=args}=some (.bool (true==true))from w_eq_bool (w_res rfl) w_lit) rfl
section
variable{prog:Program}{w:World}{A:Around}{E:Value->Shared->Prop}{s:Shared}{K:Frag}
end
end Att
namespace L2
open PySem PySem.Spec PyProof.Rows
theorem HM:∀{vs:List Value}{ns:List Int},IntsAre vs ns->Vals (ns.map V.int) vs
 |_,_,.nil=>.nil
 |_,_,.cons n t h=>.cons ⟨t,rfl⟩ (HM h)
def Y4(H:Hp):Prop:=∀b,H b=none\/∃o xs,H b=some (.frz o (.lst xs))
theorem Py{P:Program}{w:World}{K:Fg}{mg mb:Str->Option Value}{CX:CXT}{k:Nat}{fa a:Addr}{fd:FuncData}{x:Str}{sp:Sp}{az:Shared}{vs:List Value}{ns:List Int}
  (KX:K.In az.heap) (mQ:az.heap.Ns mainGlobals mg) (hb:az.heap.Ns builtinsNs mb) (qg:∀x:Str,x≠"__name__"->mb x=bootBuiltins x) (kI:az.heap.NoLimit) (hg:az.gens=#[])
  (ha:az.heap.get? a=some {cls:=.type "list",data:=.seq vs.toArray}) (hi:IntsAre vs ns) (hl:ns.length<=sizeLine) (hr:Df k callerA)
  (F:∀base:Heap,K.In base->base.Ns mainGlobals mg->Dn P w K mg base CX k fa fd [x] sp) (iQ:∀(s:Shared)(u:Value),BindsTo s fd ⟨[u],[]⟩ [(x,u)])
  (fM:∀H:Hp,Y4 H->SqL K H a (ns.map V.int)->sp [.ref a] H (λv _=>v=.v true) λ_ _ _=>False)
  (iN:∀H e s',CX [] H az (λ_ _ _=>False) e s'->False) :
  codeAny (model P w) callerA (.call (.ref fa) ⟨[.ref a],[]⟩) (λr s'=>r=.ok (.ret (.bool true))/\OldK az.heap s'.heap/\s'.os=az.os/\AllBare s'.gens) az:=by
 have rv:=HM hi;have k8:=hi.length;have core:∀H:Hp,Y4 H->SqL K H a (ns.map V.int)->HOk P w H az.heap->(∀b,H b≠none->b=a)->(H a≠none->K.lookup a=none) ->
   codeAny (model P w) callerA (.call (.ref fa) ⟨[.ref a],[]⟩) (λr s'=>r=.ok (.ret (.bool true))/\OldK az.heap s'.heap/\s'.os=az.os/\AllBare s'.gens) az:=by
  intro H hO hS z9 hA hK;have dS:∀{b:Addr}{o:Obj},az.heap.get? b=some o->H b=none->(PN az.heap H).get? b=some o:=λe n=>PM e n
  have jm:∀{b:Addr}{o:Obj}{es:Array DictEntry}{ep:Nat},az.heap.get? b=some o->o.data=.dict es ep->H b=none:=λ{b o es ep} e d=>by cases q:H b with|none=>rfl|some u =>have e':b=a:=hA b (by rw[q];simp);subst e';rw[ha]at e;cases e;have d':Data.seq vs.toArray _=Data.dict es ep:=d;cases d'
  have jY:∀{b:Addr}{m:Str->Option Value},az.heap.Ns b m->(PN az.heap H).Ns b m:=λ{b m} ⟨o,es,ep,e,d,r⟩=>⟨o,es,ep,dS e (jm e d),d,r⟩
  have mj:K.In (PN az.heap H):=λb o e=>dS (KX b o e) (by cases q:H b with|none=>rfl|some u =>have e':b=a:=hA b (by rw[q];simp);subst e';rw[hK (by rw[q];simp)]at e;cases e)
  have hM:Mod K mg (PN az.heap H):=⟨mj,jY mQ,⟨mb,jY hb,qg⟩,let⟨mc,h1,h2⟩:=kI;⟨mc,jY h1,h2⟩⟩
  have e0:Vd P w K mg (PN az.heap H) callerA [] az H:=⟨rfl,hM,λb o e=>Tr e,Nat.le_of_eq (NA _ _),trivial,λb hb=>absurd (show b∈([]:List Addr)from hb) (by simp),z9,.of_eq hg⟩
  refine codeAny_mono ((F _ mj (jY mQ)).run callerA [] az H ⟨[.ref a],[]⟩ [.ref a] [.ref a] _ _ hr e0 (iQ az (.ref a)) (.cons rfl .nil) (fM H hO hS)) λr s' h=>?_
  cases r with
  |error e=>exact(iN H e s' h).elim
  |ok fl =>
   cases fl with
   |next=>exact False.elim h
   |brk=>exact False.elim h
   |cont=>exact False.elim h
   |ret u =>
    obtain⟨v,H',os,bare,un,kO,r',q⟩:=h;have q':v=.v true:=q;subst q';obtain rfl:u=Value.bool true:=r';refine⟨rfl,OldK.of_keep λb o e=>?_,os,bare⟩;cases q:H b with
    |none=>exact un.keep b o e q (by intro z;exact absurd (show b∈([]:List Addr)from z) (by simp)) (by simp)
    |some u =>
     rcases hO b with z|⟨ob,xs,z⟩
     .rw[q]at z;cases z
     .have z2:=un.zV b ob _ z;obtain⟨e1,_⟩:=z9 b _ z;obtain⟨e2,_⟩:=kO b _ z2;rw[e]at e1;cases e1;exact e2
 cases hk:K.lookup a with
 |some o =>have e:=KX a o hk;rw[ha]at e;cases e;refine core (λ_=>none) (λ_=>.inl rfl) (.inr ⟨_,vs.toArray,_,hk,rfl,rfl,rfl,by rw[tK,k8];exact hl,by simpa using rv⟩) (λb u z=>by have z':(none:Option HO)=some u:=z;cases z') (λb z=>absurd rfl z) λz=>absurd rfl z
 |none =>
  refine core (λb=>if b=a then some (.frz {cls:=.type "list",data:=.seq vs.toArray} (.lst (ns.map V.int)))else none) (λb=>?_) (.inl (.inr ⟨{cls:=.type "list",data:=.seq vs.toArray},if_pos rfl⟩)) (λb u z=>?_) (λb z=>?_) λ_=>hk
  .by_cases hb:b=a
   .exact .inr ⟨_,_,if_pos hb⟩
   .exact .inl (if_neg hb)
  .by_cases hb:b=a
   .have z':=(if_pos hb).symm.trans z;cases z';subst hb;exact⟨ha,by rw[tf];exact hl,vs,_,rv,ha⟩
   .have z':=(if_neg hb).symm.trans z;cases z'
  .by_cases hb:b=a
   .exact hb
   .exact absurd (if_neg hb) z
noncomputable def inClass(s:Stmt)(j:Nat):Stmt:=match s with|.ClassDef _ _ _ body _ _ _ _ _ _ _=>body.getD j (.Pass ⟨0,0,0,0⟩)|_=>.Pass ⟨0,0,0,0⟩
noncomputable def FJ(s:Stmt):Arguments:=match s with|.FunctionDef _ a _ _ _ _ _ _ _ _=>a|_=>{posonlyargs:=[],args:=[],vararg:=none,kwonlyargs:=[],kw_defaults:=[],kwarg:=none,defaults:=[]}
noncomputable def DB(s:Stmt):List Stmt:=match s with|.FunctionDef _ _ b _ _ _ _ _ _ _=>b|_=>[]
noncomputable def Bh(s:Stmt):Scope:=match s with|.FunctionDef _ _ _ _ _ _ sc _ _ _=>sc|_=>{kind:=.function,names:=[],isGenerator:=false,isCoroutine:=false}
abbrev E0:XK:=λ_ _ _=>False
structure Fun(K:Fg)(x qual:Str)(st:Stmt)(f:Addr)(fd:FuncData):Prop where
 ex:∃(oc:Value)(od:Option Addr)(kV cV pm:Value)(an:Option Addr)(cdv ct:Value)(gT:Array (Option Value)),
  fd=fnOf x qual (FJ st) (DB st) (Bh st) .none kV cV pm an cdv ct/\K.lookup f=some ⟨oc,od,.func fd,gT⟩/\codeIn K cdv qual=true
 kp:keepIn K (.ref f)=true
section
variable{P:Program}{w:World}{K:Fg}{mg:Str->Option Value}{base:Heap}
theorem Fun.binds{x qual:Str}{st:Stmt}{f:Addr}{fd:FuncData}{ps:List Str}(F:Fun K x qual st f fd)
  (h:∀(kV cV pm:Value)(an:Option Addr)(cdv ct:Value)(us:List Value),us.length=ps.length->bindArgs (fnOf x qual (FJ st) (DB st) (Bh st) .none kV cV pm an cdv ct) ⟨us,[]⟩=pure (ps.zip us)):Binds K fd ps []:=by
 obtain⟨oc,od,kV,cV,pm,an,cdv,ct,gT,rfl,lk,eC⟩:=F.ex;exact .all (h kV cV pm an cdv ct)
theorem Ar{x qual:Str}{st:Stmt}{f:Addr}{oc:Value}{od an:Option Addr}{gT:Array (Option Value)}{kV cV pm cdv ct:Value}(l:K.lookup f=some ⟨oc,od,.func (fnOf x qual (FJ st) (DB st) (Bh st) .none kV cV pm an cdv ct),gT⟩)
  (c:codeIn K cdv qual=true) (k:keepIn K (.ref f)=true):Fun K x qual st f (fnOf x qual (FJ st) (DB st) (Bh st) .none kV cV pm an cdv ct):=⟨⟨oc,od,kV,cV,pm,an,cdv,ct,gT,rfl,l,c⟩,k⟩
end
theorem JaL(hr:Df k A):A.units+1<cLine:=Nat.lt_of_le_of_lt (Nat.add_le_add_left (by decide:1<=64) _) hr.units
section
variable{X:Cx}
theorem pv(i:Nat)(hN:X.N[i]?=some x:=by rfl)(hv:Vis X.env.scope x:=by first|exact Or.inl rfl|exact Or.inr (Or.inl rfl)|exact Or.inr (Or.inr rfl))(hd:(x==("__debug__":Str))=false:=by decide)
  (eC:(x==("__classdict__":Str))=false:=by decide):PE X (.Name x pos) (Ow i):=Wy hN hv hd eC
end
section
variable{κ:Type}[DecidableEq κ]
end
theorem DC:∀(l:List (Str×NameKind))(cs:List (Str×Addr)),(∀y∈l,y.2=.free->∃c,env.cells.lookup y.1=some c)->(∀n c,cs.lookup n=some c->env.cells.lookup n=some c) ->
  ∃cl,(forIn l cs λ(x:Str×NameKind)(r:List (Str×Addr))=>match x with|(name,kind)=>if(kind==NameKind.free)=true then do let c <- cellOf env name;pure (ForInStep.yield ((name,c)::r))else pure (ForInStep.yield r))=(pure cl:Sem _) /\
   (∀n c,cl.lookup n=some c->env.cells.lookup n=some c)/\(∀y∈l,y.2=.free->∃c,cl.lookup y.1=some c)/\(∀n c,cs.lookup n=some c->∃c',cl.lookup n=some c')
 | [],cs,_,h2=>⟨cs,rfl,h2,(λ_ h=>nomatch h),λn c h=>⟨c,h⟩⟩
 |(n,k)::r,cs,h1,h2=>by
  by_cases e:k=.free
  .subst e;obtain⟨c,hc⟩:=h1 (n,.free) tL rfl;have e1:cellOf env n=(pure c:Sem _):=by unfold cellOf;rw[hc]
   obtain⟨cl,q1,q2,q3,q4⟩:=DC r ((n,c)::cs) (λy hy=>h1 y (sW _ hy)) (λn' c' q=>by rw[ug]at q;cases hb:n'==n with|true=>rw[hb]at q;cases q;rw[beq_iff_eq.mp hb];exact hc|false=>rw[hb]at q;exact h2 _ _ q);have gN:=q4 n c (by simp);refine⟨cl,?_,q2,λy hy hf=>?_,λn' c' q=>?_⟩
   .rw[List.forIn_cons];simp only[e1];exact q1
   .rcases tH.mp hy with rfl|hy
    .exact gN
    .exact q3 y hy hf
   .by_cases hb:n'=n
    .subst hb;exact gN
    .exact q4 n' c' (by rwa[ug,beq_eq_false_iff_ne.mpr hb])
  .obtain⟨cl,q1,q2,q3,q4⟩:=DC r cs (λy hy=>h1 y (sW _ hy)) h2;refine⟨cl,?_,q2,λy hy hf=>?_,q4⟩
   .rw[List.forIn_cons];have hb:(k==NameKind.free)=false:=by simpa using e
    simp only[hb,pure_bind];exact q1
   .rcases tH.mp hy with rfl|hy
    .exact absurd hf e
    .exact q3 y hy hf
theorem D5(h:∀y∈sc.names,y.2=.free->∃c,env.cells.lookup y.1=some c) :
  ∃cl,closureFor sc env=pure cl/\(∀n c,cl.lookup n=some c->env.cells.lookup n=some c)/\(∀y∈sc.names,y.2=.free->∃c,cl.lookup y.1=some c):=by
 obtain⟨cl,q1,q2,q3,_⟩:=DC sc.names [] h (λn c q=>by simp at q);refine⟨cl,?_,q2,q3⟩;unfold closureFor;simp only[bind_pure];refine Eq.trans ?_ q1;congr 1
section
variable{prog:Program}{w:World}{A:Around}{R:Result->Shared->Prop}{s:Shared}
theorem IW(I:Nat->Shared->Prop)
  (turn:∀n s,I n s->wpAny (model prog w) A (pyNext it) (λr az=>match r with
   |none=>R (.ok .next) az
   |some v=>wpAny (model prog w) A (letOwnedTupleGo target it v) (λ_ az=>wpAny (model prog w) A (assign target env v) (λ_ cS =>
     wpAny (model prog w) A (forIn cy true λc r=>if r=true then do let ok <- isTrue c env (eval c env);pure (ForInStep.yield ok)else pure (ForInStep.yield r)) (λok br =>
      if ok=true then wpAny (model prog w) A (eval dm env) (λx gA =>wpAny (model prog w) A (call (.builtin "list.append") [ax,x]) (λ_ jt=>∃m,m<n/\I m jt) (λ_ _=>False) gA) (λ_ _=>False) br
      else ∃m,m<n/\I m br) (λ_ _=>False) cS) (λ_ _=>False) az) (λ_ _=>False) az) (λ_ _=>False) s)
  (n:Nat) (h:I n s) :
  codeAny (model prog w) A (.compLoop (.ListComp dm [⟨target,aC,cy,0⟩] scope pos) 0 it ax env) R s:=by
 refine codeAny_loop rfl I (λn s hI=>?_) n h;refine wpAny_noted ?_;refine sQ (wpAny_standAt (sQ (wpAny_mono (turn n s hI) (λr az aB=>?_) λ_ _ h'=>h'.elim)));cases r with|none=>exact sV aB|some v =>refine sQ (wpAny_mono aB (λ_ nO jf=>?_) λ_ _ h'=>h'.elim);refine sQ (wpAny_mono jf (λ_ cS cM=>sQ (wpAny_mono cM (λok br eM=>?_) λ_ _ h'=>h'.elim)) λ_ _ h'=>h'.elim);cases ok with|false=>exact sV ⟨rfl,eM⟩|true =>exact sQ (sQ (wpAny_mono eM (λx gA k4=>sQ (wpAny_mono k4 (λ_ jt k6=>sV (sV ⟨rfl,k6⟩)) λ_ _ h'=>h'.elim)) λ_ _ h'=>h'.elim))
end
structure Lm(fn sc:Scope):Prop where
 kind:sc.kind=.function
 yY:∀y∈sc.names,y.2≠.cell
 loc:∀y∈sc.names,y.2=.local->sc.names.lookup y.1=some .local
 fr:∀y∈sc.names,y.2=.free->fn.names.lookup y.1=some .cell\/fn.names.lookup y.1=some .free
noncomputable def GQ(fn sc:Scope):Bool :=
 decide (sc.kind=.function)&&sc.names.all λy=>decide (y.2≠.cell)&&(decide (y.2≠.local)||decide (sc.names.lookup y.1=some .local)) &&
  (decide (y.2≠.free)||decide (fn.names.lookup y.1=some .cell)||decide (fn.names.lookup y.1=some .free))
theorem IV(h:GQ fn sc=true):Lm fn sc:=by
 unfold GQ at h;rw[tO,uf]at h;obtain⟨h1,h2⟩:=h;refine⟨tM h1,λy hy=>?_,λy hy e=>?_,λy hy e=>?_⟩
 all_goals
  have q:=h2 y hy;rw[tO,tO]at q;obtain⟨⟨q1,q2⟩,q3⟩:=q
 .exact tM q1
 .rw[uT]at q2;rcases q2 with q|q
  .exact absurd e (tM q)
  .exact tM q
 .rw[uT,uT]at q3;rcases q3 with(q|q)|q
  .exact absurd e (tM q)
  .exact .inl (tM q)
  .exact .inr (tM q)
theorem Ct{env:Env}:∀{names:List (Str×NameKind)},
  (names.map λ(n,k)=>if(k==NameKind.free&&env.scope.kind==.function&&env.kindOf n==some .cell)then(n,NameKind.cell)else(n,k)).lookup x=some k'->∃k,names.lookup x=some k/\(k'=k\/(k=.free/\k'=.cell))
 | [],h=>by simp at h
 |(n,k)::r,h=>by
  have h:List.lookup x ((if(k==NameKind.free&&env.scope.kind==.function&&env.kindOf n==some .cell)=true then(n,NameKind.cell)else(n,k))::_)=some k':=h;cases hx:x==n with
  |true =>
   refine⟨k,by simp[ug,hx],?_⟩;by_cases hc:(k==NameKind.free&&env.scope.kind==.function&&env.kindOf n==some .cell)=true
   .rw[if_pos hc]at h;simp only[ug,hx]at h;cases h;rw[tO,tO]at hc;exact .inr ⟨beq_iff_eq.mp hc.1.1,rfl⟩
   .rw[if_neg hc]at h;simp only[ug,hx]at h;cases h;exact .inl rfl
  |false =>
   obtain⟨k0,e1,e2⟩:=Ct (by
    by_cases hc:(k==NameKind.free&&env.scope.kind==.function&&env.kindOf n==some .cell)=true
    .rw[if_pos hc]at h;simpa only[ug,hx]using h
    .rw[if_neg hc]at h;simpa only[ug,hx]using h)
   exact⟨k0,by simp only[ug,hx];exact e1,e2⟩
noncomputable def BG(X:Cx)(N:List Str)(sc:Scope)(cl:List (Str×Addr))(C:Addr)(s:Shared)(H:Hp)(ex:List Addr):Cx :=
 {X with N:=N,zZ:=s,zo:=H,env:=compEnvC sc cl C X.env,outer:=X.stack,stack:=X.stack,ex:=ex,fn:=λ_=>false,xe:=λ_ _=>False}
noncomputable def Ep(XN:List Str)(sc:Scope):List Str->List (Option Nat)->Bool
 | [],[]=>true
 |n::r,none::q=>Ep XN sc r q
 |n::r,some i::q=>decide (XN[i]?=some n)&&decide (sc.names.lookup n=some .free)&&Ep XN sc r q
 |_,_=>false
noncomputable def EL(U:St)(src:List (Option Nat)):St:=src.map λo=>o.bind λi=>(U[i]?).join
theorem FR:∀{N:List Str}{src:List (Option Nat)},Ep XN sc N src=true->src.length=N.length
 | [],[],_=>rfl
 |_::r,none::q,h=>by rw[tV,tV,FR (src:=q) h]
 |_::r,some i::q,h=>by unfold Ep at h;rw[tO]at h;rw[tV,tV,FR h.2]
 | [],_::_,h=>by cases h
 |_::_,[],h=>by cases h
theorem IZ:∀{N:List Str}{src:List (Option Nat)}{j i:Nat}{n:Str},Ep XN sc N src=true->N[j]?=some n->src[j]?=some (some i)->XN[i]?=some n/\sc.names.lookup n=some .free
 | [],_,j,i,n,_,h1,_=>by simp at h1
 |_::_,[],j,i,n,_,_,h2=>by simp at h2
 |n0::r,o::q,0,i,n,h,h1,h2=>by simp at h1 h2;subst h1;subst h2;unfold Ep at h;rw[tO,tO]at h;exact⟨tM h.1.1,tM h.1.2⟩
 |n0::r,o::q,j+1,i,n,h,h1,h2=>by refine IZ ?_ (by simpa using h1) (by simpa using h2);cases o with|none=>exact h|some k =>unfold Ep at h;rw[tO]at h;exact h.2
section
variable{X:Cx}{aa:List (Addr×Obj)}{U:St}{H:Hp}{s:Shared}{fp:List Addr}{N:List Str}{sc:Scope}{cl:List (Str×Addr)}{C:Addr}{src:List (Option Nat)}
theorem YN(I:Inv X aa U H s)(hf:∀b∈fp,Jo X aa H b)(g9:∀b∈fp,b<s.heap.objs.size)(hS:Lm X.env.scope sc)(hC:s.heap.objs.size<=C)
  (dA:∀n c,cl.lookup n=some c->X.env.cells.lookup n=some c) (c9:∀y∈sc.names,y.2=.free->∃c,cl.lookup y.1=some c):(BG X N sc cl C s H fp).Ok where
 mod:=I.ok.mod
 kind:=hS.kind
 glob:=I.ok.glob
 blt:=I.ok.blt
 above:=hC
 inj:=λx y c h1 h2=>I.ok.inj x y c (dA _ _ h1) (dA _ _ h2)
 has:=λx hx=>by
  have free:∀k',(k'=NameKind.cell\/k'=NameKind.free)->(relabel sc X.env).names.lookup x=some k'->∃c,cl.lookup x=some c:=λk' hk e=>by
   obtain⟨k,e1,e2⟩:=Ct e;have hm:=PySem.mem_of_lookup e1;exact c9 _ hm (by
    rcases e2 with e2|⟨e2,_⟩
    .subst e2;rcases hk with hk|hk
     .exact absurd hk (hS.yY _ hm)
     .exact hk
    .exact e2)
  rcases hx with hx|hx
  .exact free _ (.inl rfl) hx
  .exact free _ (.inr rfl) hx
 ze:=λx c h _=>absurd (show false=true from h) tW
 hd:=I.ok.hd
 frames:=I.ok.frames
 yW:=.inl rfl
 yS:=λb hb=>⟨tN (tE (g9 b hb) hC),λx c e=>(hf b hb).2.2.2.2.1 x c (dA x c e)⟩
 bs:=I.bs
 zw:=tQ I.ok.zw I.sz
 zu:=λb o e hb=>by
  rcases(hf b hb).2.2.2.1 with z|z
  .exact I.ok.zu b o e z
  .exact absurd (tE (tj e) (tQ I.ok.zw z)) (uw _)
 zv:=λb hb hz=>by
  rcases tH.mp (I.HS b hz)with z|z
  .exact(hf b hb).2.1 z
  .exact(hf b hb).2.2.1 z
 KO:=I.stack
 zg:=I.Jw
theorem U9(I:Inv X aa U H s)(hf:∀b∈fp,Jo X aa H b)(g9:∀b∈fp,b<s.heap.objs.size)(hS:Lm X.env.scope sc)
  (dA:∀n c,cl.lookup n=some c->X.env.cells.lookup n=some c) (c9:∀y∈sc.names,y.2=.free->∃c,cl.lookup y.1=some c) (bL:Ep X.N sc N src=true)
  (hD:s.heap.objs.size<=D) (hC:s.heap.objs.size<=C) (jF:D≠C) (hk:∀b o,s.heap.get? b=some o->h'.get? b=some o) (hn:h'.Ns C m) (hl:h'.get? D=some {cls:=.type "list",data:=.seq (#[]:Array Value)}) :
  Inv (BG X N sc cl C s H fp) aa (EL U src) (upd H D (.lst [])) {s with heap:=h',toks:=tk}:=by
 have old:∀{b:Addr}{o:Obj},s.heap.get? b=some o->b≠D/\b≠C:=λ{b o} e=>⟨tN (tE (tj e) hD),tN (tE (tj e) hC)⟩
 refine⟨YN I hf g9 hS hC dA c9,rfl,I.bare,Un.laid hk hD (I.z9.fresh hD),⟨m,hn,λj x v e1 e2 e3=>?_⟩,λx c e=>?_,?_,λx c e=>?_,λp hp=>?_,I.z9.laid hk hD ⟨vG _,[],0,.nil,hl⟩,?_⟩
 .unfold EL at e2;rw[tR]at e2;cases q:src[j]? with
  |none=>rw[q]at e2;cases e2
  |some o =>
   rw[q]at e2;cases o with
   |none=>cases e2
   |some i =>
    have iI:(U[i]?).join=some v:=Option.some.inj e2;obtain⟨g1,g2⟩:=IZ bL e1 q;obtain⟨m0,_,qv⟩:=I.loc;have gH:=hS.fr _ (PySem.mem_of_lookup g2) rfl;obtain⟨u,ru,lk⟩:=qv i x v g1 (by cases r:U[i]? with|none=>rw[r]at iI;cases iI|some u=>rw[r]at iI;cases u with|none=>cases iI|some u=>have e5:=iI;cases e5;rfl) (gH.elim (λz=>.inr (.inl z)) λz=>.inr (.inr z));refine⟨u,ru,.inr ⟨?_,?_⟩⟩
    .rcases e3 with e3|e3|e3
     .obtain⟨k,r1,r2⟩:=Ct (show(relabel sc X.env).names.lookup x=some .local from e3);rw[g2]at r1;cases r1;rcases r2 with r2|⟨_,r2⟩<;>cases r2
     .exact .inl e3
     .exact .inr e3
    .obtain⟨c,hc⟩:=c9 _ (PySem.mem_of_lookup g2) rfl;refine⟨c,hc,?_⟩;rcases lk with⟨lk,_⟩|⟨_,c',jJ,z⟩
     .rcases gH with z|z
      .have z':X.env.kindOf x=some .cell:=z;rw[lk]at z';cases z'
      .have z':X.env.kindOf x=some .free:=z;rw[lk]at z';cases z'
     .have:=dA _ _ hc;rw[jJ]at this;cases this;obtain⟨o,ho,hd⟩:=z;exact⟨o,hk _ _ ho,hd⟩
 .obtain⟨v,o,ho,hd⟩:=I.cell x c (dA x c e);exact⟨v,o,hk _ _ ho,hd⟩
 .show upd H D (.lst []) C=none;rw[Aj (Ne.symm jF)];exact(I.z9.fresh hC)
 .obtain⟨v,o,ho,hd⟩:=I.cell x c (dA x c e);rw[Aj (old ho).1];exact I.zX x c (dA x c e)
 .obtain⟨p1,p2,p3,p4,p5⟩:=I.pin p hp;refine⟨hk _ _ p1,by rw[Aj (old p1).1];exact p2,(old p1).2,λz=>?_,p5⟩;rcases tH.mp (I.HS _ z)with z|z
  .exact p3 z
  .exact p4 z
 .show(EL U src).length=N.length;unfold EL;rw[tf];exact FR bL
end
def RW(X:Cx)(cy:List Expr)(t:TT):Prop :=
 ∀(aa:List (Addr×Obj))(s:Shared)(U:St)(H:Hp)(Q:Bool->Hp->Prop),Inv X aa U H s->t U H Q ->
  wpAny (model X.prog X.w) X.A (forIn cy true λc r=>if r=true then do let ok <- isTrue c X.env (eval c X.env);pure (ForInStep.yield ok)else pure (ForInStep.yield r)) (TP X aa U Q) X.xe s
def tYes:TT:=λ_ H Q=>Q true H
theorem O9:RW X [] tYes:=λaa s U H Q I h=>sV ⟨H,I,h⟩
theorem O8(h:PT X c t):RW X [c] t:=by intro aa s U H Q I q;rw[List.forIn_cons];refine sQ (sQ (thn (h aa s U H Q I q) λb s1 q1=>sV ?_));exact sV q1
def YE(J:It)(g:TG)(tt:TT)(te:TE)(Q:VK)(lL:St)(H1:Hp):Prop:=∀D,H1 D=none ->
 ∃W:Nat->Nat->St->Hp->Prop,(∃m,W 0 m lL (upd H1 D (.lst [])))/\∀i m τ H2,W i m τ H2 ->
  (J.stop i H2/\Q (.ref D) H2)\/(J.go i H2/\∃N:St->Hp->Prop,(∀j8 H',N j8 H'->∃m',m'<m/\W (i+1) m' j8 H')/\∀x H3,J.yR i H2 x H3->g x τ H3 λcU H4=>tt cU H4 λb H5 =>if b=true then te cU H5 λy H6=>∃ys,H6 D=some (.lst ys)/\ys.length<sizeLine/\N cU (upd H6 D (.lst (ys++[y])))else N cU H5)
def So(src:List (Option Nat))(wi:TI)(g:TG)(tt:TT)(te:TE):TE:=λU H Q=>wi U H λJ H1=>YE J g tt te Q (EL U src) H1
section
variable{X:Cx}{tg aC dm:Expr}{cy:List Expr}{sc:Scope}{pos:Pos}{N:List Str}{src:List (Option Nat)}{wi:TI}{g:TG}{tt:TT}{te:TE}
theorem K2(bh:X.calm=true)(hS:Lm X.env.scope sc)(bL:Ep X.N sc N src=true)
  (hg:∀cl C s H fp,PG (BG X N sc cl C s H fp) tg g) (ht:∀cl C s H fp,RW (BG X N sc cl C s H fp) cy tt) (he:∀cl C s H fp,PE (BG X N sc cl C s H fp) dm te)
  {RR:Value->Addr->Result->Shared->Prop}
  (dA:∀n c,cl.lookup n=some c->X.env.cells.lookup n=some c) (c9:∀y∈sc.names,y.2=.free->∃c,cl.lookup y.1=some c)
  (I:Inv X aa U H s) (T:Turn X.prog X.w X.K tg J fp it tn) (t0:tn 0 s.heap) (hf:∀b∈fp,Jo X aa H b) (hw:YE J g tt te Q (EL U src) H)
  (hR:∀(D C:Addr)(s':Shared)(τ:St)(H':Hp)(m:Str->Option Value),s.heap.objs.size<=C->s'.heap.Ns C m->Inv (BG X N sc cl C s H fp) aa τ H' s'->(∀b∈fp,H' b=none)->Q (.ref D) H'->RR (.ref D) C (.ok .next) s') :
  wpAny (model X.prog X.w) X.A (newList []) (λax br=>wpAny (model X.prog X.w) X.A (newFunctionEnv sc X.env.globals cl [] X.env.qual none .none (some X.env)) (λiH gA =>codeAny (model X.prog X.w) X.A (.compStart (.ListComp dm [⟨tg,aC,cy,0⟩] sc pos) 0 (.ref it) ax {iH with scope:=relabel sc X.env}) (RR ax iH.locals) gA) E br) E s:=by
 have g9:∀b∈fp,b<s.heap.objs.size:=λb hb=>by obtain⟨o,e,_⟩:=T.obj 0 _ t0 b hb;exact tj e
 refine wpAny_newObj_type (wpAny_newFunctionEnv hS.yY (by intro y hy;simp at hy) (λaB fB dE=>?_) hS.kind);generalize hH2:s.heap.push {cls:=.type "list",dict:=none,data:=.seq ([]:List Value).toArray}=H2 at fB dE ⊢;have hC:H2.objs.size=s.heap.objs.size+1:=by rw[<- hH2,uD]
 have jF:s.heap.objs.size≠H2.objs.size:=by rw[hC];exact tN (Nat.lt_succ_self _)
 have fW:s.heap.objs.size<=H2.objs.size:=by rw[hC];exact Nat.le_succ _
 have old:=λb o e=>dE.extBut b o (tN (tE (tj e) fW)) (sR _ (hH2▸sR _ e))
 obtain⟨W,⟨m0,w0⟩,turn⟩:=hw s.heap.objs.size (I.z9.fresh (tJ _));have Y0:Inv (BG X N sc cl H2.objs.size s H fp) aa (EL U src) (upd H s.heap.objs.size (.lst [])) {s with heap:=aB,toks:=s.toks+([]:List (Str×Value)).length} :=
  U9 I hf g9 hS dA c9 bL (tJ _) fW jF old fB (dE.extBut _ _ jF (sR _ (hH2▸tq _ rfl)))
 have t1:tn 0 aB:=T.keep 0 _ _ t0 λb _ o e=>old b o e
 have dP:∀{H':Hp},(∀b∈fp,H' b=none)->∀b∈fp,Jo (BG X N sc cl H2.objs.size s H fp) aa H' b:=λ{H'} hn b hb =>⟨hn b hb,tN (tE (g9 b hb) fW),Y0.ok.zv b hb,.inl hb,(Y0.ok.yS b hb).2,(hf b hb).2.2.2.2.2⟩
 have loop:∀br:Shared,br={s with heap:=aB,toks:=s.toks+([]:List (Str×Value)).length} ->
   codeAny (model X.prog X.w) X.A (.compLoop (.ListComp dm [⟨tg,aC,cy,0⟩] sc pos) 0 (.ref it) (.ref s.heap.objs.size) (compEnvC sc cl H2.objs.size X.env)) (RR (.ref s.heap.objs.size) H2.objs.size) br:=by
  rintro br rfl
  refine IW (λn s'=>∃i τ H',Inv (BG X N sc cl H2.objs.size s H fp) aa τ H' s'/\tn i s'.heap/\(∀b∈fp,H' b=none)/\W i n τ H') ?_ m0 ⟨0,_,_,Y0,t1,(λb hb=>by
  rw[Aj (tN (g9 b hb))];exact(hf b hb).1),w0⟩
  rintro n s4 ⟨i,τ,H4,I4,t4,fr4,w4⟩
  rcases turn i n τ H4 w4 with⟨stop,qn⟩|⟨go,Nx,hNx,step⟩
  .refine thn (T.done (BG X N sc cl H2.objs.size s H fp) rfl rfl rfl bh i aa s4 τ H4 _ I4 (dP fr4) t4 stop) λr s5 ⟨hr,I5⟩=>?_
   subst hr;obtain⟨m5,qD,_⟩:=I5.loc;exact hR _ _ s5 τ H4 m5 fW qD I5 fr4 qn
  .refine thn (T.item (BG X N sc cl H2.objs.size s H fp) rfl rfl rfl bh i aa s4 τ H4 _ I4 (dP fr4) t4 go) λr s5 ⟨u,hr,h5⟩=>?_
   subst hr;refine thn h5 λ_ s6 ao=>?_
   obtain⟨x,H6,I6,r6,y6,lI,pZ⟩:= ao;have again:∀{gD:St}{H7:Hp}{s7:Shared}{m':Nat},Inv (BG X N sc cl H2.objs.size s H fp) (aa++Ie fp s6.heap) gD H7 s7->m'<n->W (i+1) m' gD H7 ->
     ∃m,m<n/\∃i τ H',Inv (BG X N sc cl H2.objs.size s H fp) aa τ H' s7/\tn i s7.heap/\(∀b∈fp,H' b=none)/\W i m τ H':=λ{gD H7 s7 m'} I7 hm w7=>by
    refine⟨m',hm,i+1,gD,H7,I7.EM,T.keep _ _ _ lI λb hb o e=>(I7.pin (b,o) (tB _ (tB _ (Di hb e)))).1,λb hb=>?_,w7⟩;obtain⟨o,e,d⟩:=T.obj _ _ lI b hb;exact(I7.pin (b,o) (tB _ (tB _ (Di hb e)))).2.1
   refine thn (hg cl H2.objs.size s H fp _ s6 τ H6 x u _ (I6.pinned (dP pZ) (T.obj _ _ lI)) r6 (step x H6 y6)) λ_ s7 ao=>?_
   obtain⟨gD,H7,I7,q7⟩:= ao;refine thn (ht cl H2.objs.size s H fp _ s7 gD H7 _ I7 q7) λb s8 ao=>?_
   obtain⟨H8,I8,q8⟩:= ao;cases b with
   |false =>obtain⟨m',hm,w8⟩:=hNx _ _ q8;exact again I8 hm w8
   |true =>
    refine thn (he cl H2.objs.size s H fp _ s8 gD H8 _ I8 q8) λv s9 ao=>?_
    obtain⟨y,H9,I9,r9,ys,qc,hz,w9⟩:= ao;obtain⟨m',hm,w9⟩:=hNx _ _ w9;refine thn (Iy _ s9 gD H9 (.ref s.heap.objs.size) [y] (.ref s.heap.objs.size) [v] (λ_ Hn=>W (i+1) m' gD Hn) I9 rfl (.cons r9 .nil) ⟨_,ys,y,rfl,rfl,qc,hz,w9⟩) λ_ sO ao=>?_
    obtain⟨_,rW,oJ,_,rQ⟩:= ao;exact again oJ hm rQ
 exact codeAny_compStart_list (loop _ rfl) (T.self X.A 0 _ _ _ t1 (loop _ rfl))
theorem Oh(I:Inv X aa U H s)(hf:∀b∈fp,Jo X aa H b)(J:Inv (BG X N sc cl C s H fp) aa τ H' s'):Inv X aa U H' s' :=
 I.YM J.os J.base J.z9 J.bare λb hb=>⟨(hf b hb).2.2.2.1,(hf b hb).2.1,(hf b hb).2.2.2.2.1,(hf b hb).2.2.2.2.2⟩
theorem U8(I:Inv X aa U H s)(hC:s.heap.objs.size<=C)(hf:∀b∈fp,Jo X aa H b)
  (J:Inv (BG X N sc cl C s H fp) aa τ H' s') (hs:Heap.SameBut C s'.heap h'):Inv X aa U H' {s' with heap:=h' }:=by
 refine(Oh I hf J).turned (λb o hb e=>hs.extBut b o hb e) J.free (vw (tE I.lt hC)) (.inr (tQ I.sz hC)) (λx c e z=>?_) λp hp z=>?_
 .obtain⟨v,q⟩:=I.cell x c e;exact absurd (tE q.lt (by rwa[z])) (uw _)
 .exact absurd (tE (tj (I.pin p hp).1) (by rwa[z])) (uw _)
theorem S6(N:List Str)(src:List (Option Nat))(bh:X.calm=true)(hi:PI X tg aC wi)(hg:∀cl C s H fp,PG (BG X N sc cl C s H fp) tg g)(ht:∀cl C s H fp,RW (BG X N sc cl C s H fp) cy tt)
  (he:∀cl C s H fp,PE (BG X N sc cl C s H fp) dm te) (hS:GQ X.env.scope sc=true:=by rfl) (bL:Ep X.N sc N src=true:=by rfl)
  (hs:∀x,foldedSetIterable aC X.env x=pure x:=by intro _;rfl):PE X (.ListComp dm [⟨tg,aC,cy,0⟩] sc pos) (So src wi g tt te):=by
 intro aa s U H Q I h;have S:=IV hS;obtain⟨cl,jK,dA,c9⟩:=D5 λy hy e=>I.ok.has y.1 (S.fr y hy e)
 refine wpAny_comprehension_free rfl hs jK S.kind S.loc (thn (hi aa s U H _ I h) λv s1 h1=>thn h1 λjP s2 h2=>?_);obtain⟨it,fp,tn,J,H2,e,I2,T,t2,f2,hw⟩:=h2;subst e;refine K2 bh S bL hg ht he dA c9 I2 T t2 f2 hw λD C s' τ H' m hC hn J' _ q=>?_
 exact⟨m,hn,λh' bj=>⟨.ref D,H',U8 I2 hC f2 J' bj,rfl,q⟩⟩
theorem Lz{i:Nat}{y:Str}{aS gz:Pos}(N:List Str)(src:List (Option Nat))(bh:X.calm=true)(hN:X.N.Nodup)(kF:X.N[i]?=some y)(hy:Loc X.env.scope y)(hi:PI X tg aC wi)(hg:∀cl C s H fp,PG (BG X N sc cl C s H fp) tg g)(ht:∀cl C s H fp,RW (BG X N sc cl C s H fp) cy tt)
  (he:∀cl C s H fp,PE (BG X N sc cl C s H fp) dm te) (hS:GQ X.env.scope sc=true:=by rfl) (bL:Ep X.N sc N src=true:=by rfl)
  (hs:∀x,foldedSetIterable aC X.env x=pure x:=by intro _;rfl) (kU:swapsWith (.ListComp dm [⟨tg,aC,cy,0⟩] sc pos) (some (.Name y aS)) gz.line X.env=pure true:=by rfl)
  (hf:X.fn y=true\/X.env.scope.names.lookup y=some .local:=by first|exact .inl rfl|exact .inr rfl|assumption) :
  PS X (.Assign [.Name y aS] (.ListComp dm [⟨tg,aC,cy,0⟩] sc pos) gz) (VR (So src wi g tt te) (P8 i)):=by
 intro aa s U H D0 I h;have S:=IV hS;obtain⟨cl,jK,dA,c9⟩:=D5 (sc:=sc) (env:=X.env) λy hy e=>I.ok.has y.1 (S.fr y hy e)
 rw[exec_Assign_Name_used _ _ _ _ kU];refine sQ (wpAny_standAt (sQ ?_));refine sQ (wpAny_mono (wpAny_comprehension_free (use:=some (assign (.Name y aS) X.env)) (Q:=λ_ s'=>SP X aa D0 .next s') rfl hs jK S.kind S.loc
  (thn (hi aa s U H _ I h) λv s1 h1=>thn h1 λjP s2 h2=>?_)) (λ_ s' hq=>sV (sV hq)) λ_ _ e=>e)
 obtain⟨it,fp,tn,J,H2,e,I2,T,t2,f2,hw⟩:=h2;subst e;refine K2 bh S bL hg ht he dA c9 I2 T t2 f2 hw (RR:=λax C=>compPost (model X.prog X.w) X.A X.xe (some (assign (.Name y aS) X.env)) (λ_ s'=>SP X aa D0 .next s') ax C) λD C s' τ H' m hC hn J' _ q=>?_
 have ng:∀{b:Addr}{o:Obj},s2.heap.get? b=some o->b≠C:=λe=>tN (tE (tj e) hC)
 have cC:∀x c,X.env.cells.lookup x=some c->c≠C:=λx c e=>by obtain⟨v,o,ho,_⟩:=I2.cell x c e;exact ng ho
 have lC:X.env.locals≠C:=tN (tE I2.lt hC);refine wpAny_assign_Name (HR (Oh I2 f2 J') hN kF hy (v:=.ref D) rfl (λs3 I3 ao=>?_) hf);obtain⟨a,sb,ha⟩:= ao;refine⟨m,hn.sameBut sb (by
  rcases ha with rfl|ha
  .exact Ne.symm lC
  .exact Ne.symm (cC _ _ ha)),λh' mS=>⟨_,H',I3.turned (it:=C) (t':=s3.toks) (λb o hb e=>mS.extBut b o hb e) J'.free (Ne.symm lC) (.inr (tQ I2.sz hC)) cC (λp hp z=>ng (I2.pin p hp).1 z),q⟩⟩
end
section
variable{K:Fg}{a:Addr}{xs:List V}{g:TG}{tt:TT}{te:TE}{Q:VK}{lL:St}{H1:Hp}
end
end L2
namespace PySem
namespace F
end F
section
variable{prog:Program}{w:World}{A:Around}{s:Shared}{R:Result->Shared->Prop}
variable{I:Addr}{fp wr:List Addr}{G:Array GenState->Array GenState->Prop}{n:Nat}{P:Nat->Value->Prop}{St:Nat->Shared->Prop}
end
section
variable{prog:Program}{w:World}{A:Around}{E:Value->Shared->Prop}{s:Shared}
end
end PySem
namespace L2
open PySem PySem.Spec PyProof.Rows
section
variable{X:Cx}{aa:List (Addr×Obj)}{U:St}{H:Hp}{s:Shared}
end
section
variable{X:Cx}{a:Expr}{ta:TE}{p1 p2 gx cR:Pos}
theorem QE(hc:X.calm=true):BU X (.builtin "sum") (λxs H Q=>∃(l:Addr)(ns:List Int),xs=[.ref l]/\SqL X.K H l (ns.map V.int)/\Q (.int ns.sum) H):=by
 intro aa s U H xs us Q I r h;obtain⟨l,ns,rfl,hq,q⟩:=h;obtain⟨u,rfl,rx⟩:=vals1 r;cases rx;obtain⟨aq,rv,pl,hz⟩:=I.list hq;have hi:=intsAre_of rv;obtain⟨zs,hx⟩:=hi.allInts.items;refine sum_intListG (I.ok.hd hc) (hx▸pl.isList) λh' tk t' hk=>?_
 have e1:ns=zs.toList.map (·.1):=by rw[<- nums_intItems,<- hx];exact(show numsOf aq.toArray.toList=ns from hi.numsOf).symm
 have e2:preSum (numAt zs) zs.size=ns.sum:=by rw[preSum_eq,uF (by simp),e1]
 rw[e2];exact⟨.int ns.sum,H,I.kept hk,⟨_,rfl⟩,q⟩
theorem Cf:∀{bs:List Bool}{us:List Value},Vals (bs.map V.v) us->us=bs.map Value.bool
 | [],_,.nil=>rfl
 |b::bs,_,.cons r t=>by cases(show _=Value.bool b from r);rw[sX,Cf t]
theorem QG(hc:X.calm=true):BU X (.builtin "all") (λxs H Q=>∃(l:Addr)(bs:List Bool),xs=[.ref l]/\SqL X.K H l (bs.map V.v)/\Q (.v (bs.all id)) H):=by
 intro aa s U H xs us Q I r h;obtain⟨l,bs,rfl,hq,q⟩:=h;obtain⟨u,rfl,rx⟩:=vals1 r;cases rx;obtain⟨aq,rv,pl,hz⟩:=I.list hq;have hb:=Cf rv;have hl:=pl.isList;refine call_all_walk (wpAny_pyIter_list hl ?_);refine⟨s.heap.objs.size,[s.heap.objs.size,l],[s.heap.objs.size],aq.toArray.size,_,_,λi=>(bs[i]?).getD true,rfl,Walks.list (A:=X.A.in1) (I.ok.hd hc) _ l (tN (by obtain⟨_,e,_⟩:=hl;exact tj e)) aq.toArray,
  ⟨⟨_,tq _ rfl,rfl,rfl⟩,hl.push _⟩,λi v s' Q' E' hP hQ=>?_,λh' tk hk=>?_⟩
 .have e:=by simpa using hP
  rw[hb,tR]at e;cases eb:bs[i]? with|none=>rw[eb]at e;cases e|some b =>rw[eb]at e;have e':=Option.some.inj e;subst e';simp only[eb]at hQ;exact wpAny_truthy_bool hQ
 .have e:((List.range aq.toArray.size).all λi=>(bs[i]?).getD true)=bs.all id:=by
   have hlen:aq.toArray.size=bs.length:=by rw[hb];simp
   rw[hlen];rw[uK,uf,uf];constructor
   .intro hh b hm;obtain⟨i,hi,rfl⟩:=u4 hm;have:=hh i (uQ.mpr hi);simpa[sS hi]using this
   .intro hh i hi;have eD:=uQ.mp hi;have:=hh _ (List.getElem_mem eD);simpa[sS eD]using this
  rw[e];exact⟨.v _,H,I.kept (λb o e=>hk b o (λhm=>by rw[tD.mp hm]at e;exact uw _ (tj e)) (sR _ e)),rfl,q⟩
theorem S9:OpR X (binaryOp .Mult) (rI IntMulOk λi j=>.int (i*j)):=opI λ_ _ _ _ _ _ _ hc q=>mul_int q hc
theorem Im:OpR X (binaryOp .Mult) (λx y H Q=>∃z n,x=.str z/\y=.int n/\MulOk z n/\Q (.str (Txt.mul z n)) H):=by intro aa s U H x y v u Q I rx ry h;obtain⟨z,n,rfl,rfl,z9,q⟩:=h;obtain⟨t,rfl⟩:=rx;obtain⟨t',rfl⟩:=ry;exact SB.mul z9 λt' k=>⟨.str _,H,I.tok _,⟨_,rfl⟩,q⟩
end
section
variable{X:Cx}{tg:Expr}
def Its(z:Str):It:=⟨λi _=>i<z.cps.size,λi H x H'=>H'=H/\∃c,z.cps[i]?=some c/\x=.str ⟨#[c]⟩,λi _=>z.cps.size<=i⟩
theorem XA(hQ:Q () s):wpAny M A (letOwnedTupleGo tg it (.str x t)) Q E s:=by
 cases tg<;>first
  |exact sV hQ
  |(cases it<;>exact sV hQ)
theorem OI{K:Fg}(it:Addr)(ty:String)(z:Str)(t:Tok)(gp:ty="str_ascii_iterator"\/ty="str_iterator"):Turn P w K tg (Its z) [it] it (λi h=>h.IsStrIter it ty z t i) where
 mem:=by simp
 obj:=λi h st b hb=>by
  have e:=by simpa using hb
  subst e;obtain⟨o,e,c,d⟩:=st;exact⟨o,e,λv z=>by rw[d]at z;cases z⟩
 keep:=λi h h' st k=>by obtain⟨o,e,c,d⟩:=st;exact⟨o,k it (by simp) o e,c,d⟩
 item:=by
  intro X hP hw hK hc i aa s U H E I hf st hg;subst hP hw hK;obtain⟨f0,f1,f2,f3,f4,f5⟩:=hf it (by simp);have ba:∀(v:Value)(h':Heap)(tk:Nat),SignAt z i v->h'.IsStrIter it ty z t (i+1)->(∀b o,b∉[it]->s.heap.get? b=some o->h'.get? b=some o) ->
    ∃u,some v=some u/\wpAny (model X.prog X.w) X.A (letOwnedTupleGo tg (.ref it) u) (λ_ s2=>∃x H',Inv X aa U H' s2/\RelV x u/\(Its z).yR i H x H'/\s2.heap.IsStrIter it ty z t (i+1)/\∀b∈[it],H' b=none) E {s with heap:=h',toks:=tk}:=λv h' tk hv dN kk=>by
   obtain⟨c,u,iu,rfl⟩:=hv;exact⟨_,rfl,XA ⟨.str ⟨#[c]⟩,H,(I.turned (λb o hb e=>kk b o (by simpa using hb) e) f0 f1 f3 f4 f5),⟨u,rfl⟩,⟨rfl,c,iu,rfl⟩,dN,λb hb=>(hf b hb).1⟩⟩
  rcases gp with rfl|rfl
  .exact(Walks.strAscii (I.ok.hd hc) it z t).item i s _ _ hg st ba
  .exact(Walks.strWide (I.ok.hd hc) it z t).item i s _ _ hg st ba
 done:=by
  intro X hP hw hK hc i aa s U H E I hf st hg;obtain⟨f0,f1,f2,f3,f4,f5⟩:=hf it (by simp);have hz:=Array.getElem?_eq_none hg;rcases gp with rfl|rfl
  .exact wpAny_pyNext_ascii_end (I.ok.hd hc) st hz λh' iU=>⟨rfl,I.turned (λb o hb e=>iU b o hb e) f0 f1 f3 f4 f5⟩
  .exact wpAny_pyNext_wide_end (I.ok.hd hc) st hz λh' iU=>⟨rfl,I.turned (λb o hb e=>iU b o hb e) f0 f1 f3 f4 f5⟩
 self:=λ_ _ _ _ _ st h=>by
  rcases gp with rfl|rfl
  .exact wpAny_pyIter_striter_ascii st h
  .exact wpAny_pyIter_striter_wide st h
end
section
variable{K:Fg}{a:Addr}{xs:List V}{g:TG}{te:TE}{Q:VK}{lL:St}{H1:Hp}
end
section
variable{X:Cx}(K:Fg)
end
structure FnAt(P:Program)(w:World)(K:Fg)(mg:Str->Option Value)(base:Heap)(CX:CXT)(x:Str)(k:Nat)(ps:List Str)(sp:Sp):Prop where
 ex:∃f fd,Dn P w K mg base CX k f fd ps sp/\mg x=some (.ref f)/\keepIn K (.ref f)=true/\Binds K fd ps []
section
variable{X:Cx}{CX:CXT}{k:Nat}{ps:List Str}{sp:Sp}{E:XK}{x:Str}{p pos:Pos}{e:Expr}{es:List Expr}{t:TA}
end
section
variable{X:Cx}{x:Str}{pos:Pos}
theorem Jat(h:∃t,X.mg x=some (.int i t))(hg:Gl X x:=by rfl)(hd:(x==("__debug__":Str))=false:=by decide):PE X (.Name x pos) (tC (.int i)):=by obtain⟨t,h⟩:=h;exact MO hg h ⟨t,rfl⟩ hd
theorem Jas(h:∃t,X.mg x=some (.str z t))(hg:Gl X x:=by rfl)(hd:(x==("__debug__":Str))=false:=by decide):PE X (.Name x pos) (tC (.str z)):=by obtain⟨t,h⟩:=h;exact MO hg h ⟨t,rfl⟩ hd
theorem Nj(h:Gu k v=true):RelV (kV k) v:=by
 rcases AU h with⟨i,t,rfl,rfl⟩|⟨x,t,rfl,rfl⟩
 .exact⟨t,rfl⟩
 .exact⟨t,rfl⟩
theorem Mh(r:KV ah vs)(h:ItemsOf (λi v=>∃k x,vs[i]?=some (k,x)/\Gu k v=true) ax vs.length):Vals (ah.map λkv=>kV kv.1) ax.toList:=by
 obtain⟨h1,h2⟩:=h;have key:∀(ah:List (Key×V))(vs:List (Key×Value))(l:List Value),KV ah vs->l.length=vs.length->(∀(j:Nat)(v:Value),l[j]?=some v->∃k x,vs[j]?=some (k,x)/\Gu k v=true)->Vals (ah.map λkv=>kV kv.1) l:=by
  intro ah
  induction ah with
  |nil =>intro vs l r hl _;cases r;have:=uP (by simpa using hl);subst this;exact .nil
  |cons p ah ih =>
   intro vs l r hl hh;cases r with
   |@cons _ q _ vr e t =>
    cases l with
    |nil=>simp at hl
    |cons v l =>
     obtain⟨k,x,e1,e2⟩:=hh 0 v rfl;refine .cons ?_ (ih vr l t (by simpa using hl) λj w hw=>?_)
     .have:p.1=k:=by rw[e.1,(Option.some.inj e1)]
      show RelV (kV p.1) v;rw[this];exact Nj e2
     .exact hh (j+1) w hw
 exact key ah vs ax.toList r (by rwa[uM]) λj v e=>h2 j v (by rwa[<- Array.getElem?_toList])
end
structure Vk(P:Program)(w:World)(K:Fg)(mg:Str->Option Value)(base:Heap)(CX:CXT)(C:Addr)(m:Str)(k:Nat)(ps:List Str)(sp:Sp):Prop where
 cl:Cls K C
 ex:∃f fd,Dn P w K mg base CX k f fd ps sp/\Meth K C m f/\Binds K fd ps []
structure Y6(P:Program)(w:World)(K:Fg)(mg:Str->Option Value)(base:Heap)(CX:CXT)(x:Str)(C:Addr)(k:Nat)(ps:List Str)(sp:Sp):Prop where
 at_:mg x=some (.ref C)
 ex:∃f fd,Dn P w K mg base CX k f fd ps sp/\Mk K C f/\Binds K fd ps []
section
variable{X:Cx}{CX:CXT}{k:Nat}{C:Addr}{ps:List Str}{sp:Sp}{E:XK}{x m:Str}{p pos aA:Pos}{e o:Expr}{es:List Expr}{ta:TE}{t:TA}
theorem WE(G:Vk X.prog X.w X.K X.mg X.base CX C m k ps sp)(hr:Df k X.A)(hx:Passes CX X E)(he:PE X o ta)
  (ht:eval (.Call (.Attribute o m aA) [] [] pos) X.env=(do
   let ov <- eval o X.env
   standAt aA.atName
   let(f,first) <- holding [ov] (getMethod ov m pl)
   callWith pos f first (backTo pos (starEach [] X.env)) (backToKw pos (keywordEach [] X.env))):=by rfl) :
  PE X (.Call (.Attribute o m aA) [] [] pos) (Sn C m sp [] E ta YW):=by
 obtain⟨f,fd,F,hm,hb⟩:=G.ex;exact Pd he G.cl hm F hr hb .nil hx ht
theorem Jap(G:Y6 X.prog X.w X.K X.mg X.base CX x C k ps sp)(hr:Df (k+1) X.A)(hx:Passes CX X E)(ha:PA X (e::es) t)(hg:Gl X x:=by rfl)(aR:(x==("__debug__":Str))=false:=by decide)
  (he:starEach (e::es) X.env=(false,eval e X.env)::starEach es X.env:=by rfl) (aI:(backTo pos (starEach es X.env)).any (·.1)=false:=by rfl):PE X (.Call (.Name x p) (e::es) [] pos) (VO C sp [] E t):=by
 obtain⟨f,fd,F,M,hb⟩:=G.ex;exact S3 M F hr hg G.at_ hb .nil hx ha aR he aI
end
def orR(r r':R2):R2:=λx y H Q=>r x y H Q\/r' x y H Q
section
variable{X:Cx}
theorem OpR.orR(h:OpR X f r)(h':OpR X f r'):OpR X f (orR r r'):=λaa s U H x y v u Q I rx ry q=>q.elim (h aa s U H x y v u Q I rx ry) (h' aa s U H x y v u Q I rx ry)
theorem IxR.orR(h:IxR X r)(h':IxR X r'):IxR X (L2.orR r r'):=λvalue slice aa s U H x y v u Q I rx ry q e=>q.elim (λq=>h value slice aa s U H x y v u Q I rx ry q e) (λq=>h' value slice aa s U H x y v u Q I rx ry q e)
inductive V6(x:V)(y:V)(H:Hp)(Q:VK):Prop
 |mk (a v:_) (h0:x=.ref a) (h1:Jp H a y (some v)) (h2:Q v H)
inductive Jad(neg:Bool)(y:V)(x:V)(H:Hp)(Q:VK):Prop
 |mk (a o:_) (h0:x=.ref a) (h1:Jp H a y o) (h2:Q (.v (if neg then !o.isSome else o.isSome)) H)
theorem Rh(hu:X.A.units+1<cLine):OpR X (compareOp .In) (Jad false):=by intro aa s U H y x v u Q I ry rx h;obtain⟨a,o,rfl,g,q⟩:=h;obtain rfl:u=Value.ref a:=rx;exact d_in hu I g ry λs3 I3=>⟨.v o.isSome,H,I3,rfl,q⟩
theorem MS(hu:X.A.units+1<cLine):OpR X (compareOp .NotIn) (Jad true):=by intro aa s U H y x v u Q I ry rx h;obtain⟨a,o,rfl,g,q⟩:=h;obtain rfl:u=Value.ref a:=rx;exact UW hu I g ry λs3 I3=>⟨.v (!o.isSome),H,I3,rfl,q⟩
theorem T5(hu:X.A.units+1<cLine):IxR X V6:=by
 intro value slice aa s U H x y v u Q I rx ry h hs;obtain⟨a,w,rfl,g,q⟩:=h;obtain rfl:v=Value.ref a:=rx;have hT:=FH I g;refine sQ ?_;refine sQ (wpAny_specialOf hT PySem.F.slot_dict_getitem.lookup ?_);have ba:wpAny (model X.prog X.w) X.A (subscripted slice false (.ref a) u) (λr br=>wpAny (model X.prog X.w) X.A (letTemporaryGo value (.ref a) r >>= λ_=>pure r) (EP X aa U Q) X.xe br) X.xe s:=by rw[hs];exact wpAny_operating (wpAny_mono (IU hu I g ry λw' s3 I3 dk=>⟨w,H,I3,dk,q⟩) (λr br eM=>sQ (wpAny_letTemporaryGo (sV eM))) λ_ _ x=>x)
 first
  |exact sV (sQ ba)
  |exact sQ (sV (sQ ba))
  |exact sQ ba
noncomputable def WL(r r':YU):YU:=λo i v H Q=>r o i v H Q\/r' o i v H Q
theorem QO.orR(h:QO X r)(h':QO X r'):QO X (WL r r'):=λaa s U H o i v ov iv u Q I r1 r2 r3 q=>q.elim (h aa s U H o i v ov iv u Q I r1 r2 r3) (h' aa s U H o i v ov iv u Q I r1 r2 r3)
inductive SA(o:V)(i:V)(v:V)(H:Hp)(Q:Hp->Prop):Prop
 |mk (a H4:_) (h0:o=.ref a) (h1:L7 H a i v H4) (h2:Q H4)
theorem set_dict(hu:X.A.units+1<cLine):QO X SA:=by intro aa s U H o i v ov iv u Q I ro ri rv h;obtain⟨a,H4,rfl,g,q⟩:=h;obtain rfl:ov=Value.ref a:=ro;exact IT hu I g ri rv λs4 I4=>⟨H4,I4,q⟩
def Rf(r r':List V->Hp->VK->Prop):List V->Hp->VK->Prop:=λvs H Q=>r vs H Q\/r' vs H Q
theorem BU.orR(h:BU X f r)(h':BU X f r'):BU X f (Rf r r'):=λaa s U H xs us Q I rx q=>q.elim (h aa s U H xs us Q I rx) (h' aa s U H xs us Q I rx)
def iSeq(K:Fg)(tl:TE):TI:=λU H R=>tl U H λx H1=>(∃a,x=.ref a/\(∃xs,SqL K H1 a xs)/\R (Itl K a) H1)\/(∃a,x=.ref a/\(∃xs,SqT K H1 a xs)/\R (Itt K a) H1)\/(∃z,x=.str z/\R (Its z) H1)
variable{tg:Expr}
theorem Wt(hl:PE X l tl):PI X tg l (iSeq X.K tl):=by
 intro aa s U H R I h;have key:∀(x:V)(H1:Hp)(v:Value)(s1:Shared),Inv X aa U H1 s1->RelV x v->((∃a,x=.ref a/\(∃xs,SqL X.K H1 a xs)/\R (Itl X.K a) H1)\/(∃a,x=.ref a/\(∃xs,SqT X.K H1 a xs)/\R (Itt X.K a) H1)\/(∃z,x=.str z/\R (Its z) H1)) ->
   wpAny (model X.prog X.w) X.A (pyIter v) (PIE X aa U tg R) X.xe s1:=by
  intro x H1 v s1 I1 r1 q1;rcases q1 with⟨a,e,⟨xs,hq⟩,q⟩|⟨a,e,⟨xs,hq⟩,q⟩|⟨z,e,q⟩
  .subst e;cases r1;obtain⟨aq,rv,p,hz⟩:=I1.list hq;refine wpAny_pyIter_list p.isList ?_;refine⟨s1.heap.objs.size,[s1.heap.objs.size],_,_,H1,rfl,I1.kept λb o e=>sR _ e,Mm a _,⟨_,tq _ rfl,rfl,rfl⟩,λb hb=>?_,q⟩;have e:=by simpa using hb
   subst e;exact I1.RD (tJ _) (I1.z9.fresh (tJ _))
  .subst e;cases r1;obtain⟨aq,rv,p,hz⟩:=I1.tuple hq;refine wpAny_pyIter_tuple (show s1.heap.IsTuple a aq.toArray from p) ?_;refine⟨s1.heap.objs.size,[s1.heap.objs.size],_,_,H1,rfl,I1.kept λb o e=>sR _ e,Lq a _,⟨_,tq _ rfl,rfl,rfl⟩,λb hb=>?_,q⟩;have e:=by simpa using hb
   subst e;exact I1.RD (tJ _) (I1.z9.fresh (tJ _))
  .subst e;obtain⟨t,rfl⟩:=r1;have go:∀(ty:String),(ty="str_ascii_iterator"\/ty="str_iterator")->PIE X aa U tg R (.ref s1.heap.objs.size) {s1 with heap:=s1.heap.push {cls:=.type ty,data:=.fields #[.str z t,.int 0 0]} }:=λty gp=>by
    refine⟨s1.heap.objs.size,[s1.heap.objs.size],_,_,H1,rfl,I1.kept λb o e=>sR _ e,OI _ ty z t gp,⟨_,tq _ rfl,rfl,rfl⟩,λb hb=>?_,q⟩;have e:=by simpa using hb
    subst e;exact I1.RD (tJ _) (I1.z9.fresh (tJ _))
   cases ha:z.cps.all (·<128)
   .exact wpAny_pyIter_wide ha (go _ (.inr rfl))
   .exact wpAny_pyIter_ascii ha (go _ (.inl rfl))
 refine thn (hl aa s U H _ I h) λv s1 ao => ?_
 obtain⟨x,H1,I1,r1,q1⟩:= ao;exact key x H1 v s1 I1 r1 q1
end
end L2
namespace PySem
namespace Zp
section
variable{prog:Program}{w:World}{A:Around}{E:Value->Shared->Prop}{s:Shared}
theorem OK(bP:s.heap.IsTupleIter it t i)(ht:s.heap.IsTuple t items)(hx:items[i]?=some x)
  (hQ:∀h',h'.IsTupleIter it t (i+1)->Heap.SameBut it s.heap h'->Q x {s with heap:=h' }):wpAny (model prog w) A (Builtin.SmallTypes.nextOf (.ref it)) Q E s:=by
 obtain⟨o,ho,hc,hd⟩:=id bP;obtain⟨ol,kP,_,nl,kB⟩:=ht;refine sQ (wpAny_callSpecial?_slot bP.typeIs F.slot_tuple_iterator_next (wpAny_call_entry F.slot_tuple_iterator_next bP.typeIs F.entry_tuple_iterator_next ?_ (F.args_tuple_iterator_next_1 _)));show wpAny _ _ (field (.ref it) 0 >>= _) _ _ s;refine sQ (tZ ho hd rfl ?_);show wpAny _ _ (field (.ref it) 1 >>= _) _ _ s;refine sQ (tZ ho hd rfl ?_);show wpAny _ _ (seqItems? (.ref t) >>= _) _ _ s;refine sQ (wpAny_seqItems kP kB ?_);simp only[ux,hx];refine sQ (wpAny_setField ho hd (by simp) (sV ⟨x,rfl,sV (hQ _ ?_ (Heap.SameBut.update ..))⟩));exact⟨_,vi _ ho (Obj.isFreed_of_fields (Obj.data_mapFields hd _)),(Obj.cls_mapFields ..).trans hc,by rw[Obj.data_mapFields hd];simp[rawInt]⟩
theorem Sh(hh:A.handled=none)(bP:s.heap.IsTupleIter it t i)(ht:s.heap.IsTuple t items)(hx:items[i]?=none)
  (hE:∀h' e,Heap.ExtBut it s.heap h'->(∃o,h'.get? e=some o/\o.cls=.type "StopIteration")->E (.ref e) {s with heap:=h' }):wpAny (model prog w) A (Builtin.SmallTypes.nextOf (.ref it)) Q E s:=by
 obtain⟨o,ho,hc,hd⟩:=id bP;obtain⟨ol,kP,_,nl,kB⟩:=ht;refine sQ (wpAny_callSpecial?_slot bP.typeIs F.slot_tuple_iterator_next (wpAny_call_entry F.slot_tuple_iterator_next bP.typeIs F.entry_tuple_iterator_next ?_ (F.args_tuple_iterator_next_1 _)));show wpAny _ _ (field (.ref it) 0 >>= _) _ _ s;refine sQ (tZ ho hd rfl ?_);show wpAny _ _ (field (.ref it) 1 >>= _) _ _ s;refine sQ (tZ ho hd rfl ?_);show wpAny _ _ (seqItems? (.ref t) >>= _) _ _ s;refine sQ (wpAny_seqItems kP kB ?_);simp only[ux,hx];refine sQ (wpAny_rule (sQ (wpAny_setField ho hd (by simp) ?_)));show wpAny _ _ (newExc (.type "StopIteration") [] >>= _) _ _ _;refine sQ ?_;simp only[newExc];refine sQ (wpAny_newObj_type ?_ (by size_fits));refine sQ (wpAny_of_eq (by first|rfl|(simp only;rfl)) ?_);refine wpAny_newObj_type ?_ (by size_fits);simp only;refine sQ (wpAny_handled ?_);first|rw[show A.in1.handled=none from hh]|rw[hh]
 refine sQ (sV (wpAny_throw ?_));exact hE _ _ (((Heap.SameBut.update ..).extBut.push _).push _) ⟨_,tq _ rfl,rfl⟩
end
structure Draws(prog:Program)(w:World)(it src:Addr)(xs:Array Value)(S:Nat->Heap->Prop):Prop where
 ne:src≠it
 obj:∀k h,S k h->∃o,h.get? it=some o/\∀v,o.data≠.cell v
 yG:∀k h,S k h->∃o,h.get? src=some o/\(o.cls=.type "list"\/o.cls=.type "tuple")
 keep:∀k (h h':Heap),S k h->(∀o,h.get? it=some o->h'.get? it=some o)->(∀o,h.get? src=some o->h'.get? src=some o)->S k h'
 item:∀(A:Around)(s:Shared)(k:Nat)(x:Value)(Q:Value->Shared->Prop)(E:Value->Shared->Prop),S k s.heap->xs[k]?=some x->(∀h',S (k+1) h'->Heap.SameBut it s.heap h'->Q x {s with heap:=h' }) ->
  wpAny (model prog w) A (Builtin.SmallTypes.nextOf (.ref it)) Q E s
 stop:∀(A:Around)(s:Shared)(k:Nat)(Q:Value->Shared->Prop)(E:Value->Shared->Prop),A.handled=none->S k s.heap->xs[k]?=none ->
  (∀h' e,Heap.ExtBut it s.heap h'->(∃o,h'.get? e=some o/\o.cls=.type "StopIteration")->E (.ref e) {s with heap:=h' })->wpAny (model prog w) A (Builtin.SmallTypes.nextOf (.ref it)) Q E s
theorem Draws.tup(aT:t≠it):Draws prog w it t xs (λk h=>h.IsTupleIter it t k/\h.IsTuple t xs) where
 ne:=aT
 obj:=λk h st=>by obtain⟨⟨o,e,c,d⟩,_⟩:=st;exact⟨o,e,λv z=>by rw[d]at z;cases z⟩
 yG:=λk h st=>by obtain⟨_,o,e,c,_⟩:=st;exact⟨o,e,.inr c⟩
 keep:=λk h h' st k1 k2=>⟨st.1.at k1,st.2.at k2⟩
 item:=λA s k x Q E st hx hQ=>OK st.1 st.2 hx λh' a b=>hQ h' ⟨a,st.2.at λo e=>(b.2 t aT).trans e⟩ b
 stop:=λA s k Q E hh st hx hE=>Sh hh st.1 st.2 hx hE
theorem Draws.lst(aT:t≠it):Draws prog w it t xs (λk h=>h.IsListIter it t k/\h.IsList t xs) where
 ne:=aT
 obj:=λk h st=>by obtain⟨⟨o,e,c,d⟩,_⟩:=st;exact⟨o,e,λv z=>by rw[d]at z;cases z⟩
 yG:=λk h st=>by obtain⟨_,o,e,c,_⟩:=st;exact⟨o,e,.inl c⟩
 keep:=λk h h' st k1 k2=>⟨st.1.at k1,st.2.at k2⟩
 item:=λA s k x Q E st hx hQ=>wpAny_nextOf_list_item st.1 st.2 hx λh' a b=>hQ h' ⟨a,st.2.at λo e=>(b.2 t aT).trans e⟩ b
 stop:=λA s k Q E hh st hx hE=>wpAny_nextOf_list_end hh st.1 st.2 hx hE
structure Apart(z TI TO i1 i2 l1 l2:Addr):Prop where
 zs:TI≠z/\TO≠z/\i1≠z/\i2≠z/\l1≠z/\l2≠z
 ts:TI≠TO/\TI≠i1/\TI≠i2/\TO≠i1/\TO≠i2/\i1≠i2
 ls:l1≠TO/\l1≠i1/\l1≠i2/\l2≠TO/\l2≠i1/\l2≠i2
section
variable{prog:Program}{w:World}{A:Around}{E:Value->Shared->Prop}{s:Shared}{z TI TO i1 i2 l1 l2:Addr}{xs ys:Array Value}{S1 S2:Nat->Heap->Prop}
theorem Po(D:Apart z TI TO i1 i2 l1 l2)(W1:Draws prog w i1 l1 xs S1)(W2:Draws prog w i2 l2 ys S2){Q:Value->Shared->Prop}
  (hz:IsZip s.heap z TI TO .none) (bg:IsPair s.heap TI (.ref i1) (.ref i2)) (bK:IsPair s.heap TO a b) (h1:S1 k s.heap) (h2:S2 k s.heap) (hx:xs[k]?=some x) (hy:ys[k]?=some y)
  (hQ:∀h',IsZip h' z TI TO (rawInt s.heap.objs.size)->IsPair h' TO x y->S1 (k+1) h'->S2 (k+1) h'->IsPair h' s.heap.objs.size x y->h'.objs.size=s.heap.objs.size+1 ->
   (∀c o,c≠z->c≠TO->c≠i1->c≠i2->s.heap.get? c=some o->h'.get? c=some o)->Q (.ref s.heap.objs.size) {s with heap:=h' }) :
  wpAny (model prog w) A (Builtin.«zip.__next__» ⟨[.ref z],[]⟩) (λba s'=>∃v,ba=.done (.ret v)/\Q v s') E s:=by
 obtain⟨⟨fH,eB,dq,dI,fC,fD⟩,⟨c7,cI,cJ,cf,cj,eR⟩,⟨cO,bF,cQ,cu,bY,bG⟩⟩:=D;show wpAny _ _ (field (.ref z) 2 >>= _) _ _ _;refine sQ (tZ hz rfl rfl ?_);show wpAny _ _ (field (.ref z) 3 >>= _) _ _ _;refine sQ (tZ hz rfl rfl ?_);refine sQ (wpAny_seqItems bg rfl ?_);show wpAny _ _ (Builtin.SmallTypes.ownedTupleIsFree (.ref z) >>= _) _ _ _;refine sQ ?_;unfold Builtin.SmallTypes.ownedTupleIsFree;refine sQ (tZ hz rfl rfl (sV ?_));simp only;refine sQ (wpAny_rule ?_);refine sQ (tZ hz rfl rfl ?_);refine sQ (wpAny_setField_rec hz (by simp) λha gO dD=>?_);replace gO:IsZip ha z TI TO .ellipsis:=gO;refine sQ ?_;simp only[List.zipIdx_cons,List.forIn_nil];refine sQ (sQ (wpAny_onRaise ?_));show wpAny _ _ (Builtin.SmallTypes.nextOf (.ref i1) >>= _) _ _ _;refine sQ (W1.item _ _ k x _ _ (W1.keep _ _ _ h1 (λo e=>dD.extBut _ _ dq e) λo e=>dD.extBut _ _ fC e) hx λhb iM bj=>sV ?_);have fg:=bj.extBut _ _ cf (dD.extBut _ _ eB bK);refine sQ (wpAny_seqItems fg rfl ?_);refine sQ (wpAny_updateSeq_pair fg λhc fX dG=>?_);replace fX:IsPair hc TO x b:=fX;refine sQ (wpAny_letGo (sV ?_));refine sQ (sQ (wpAny_onRaise ?_));show wpAny _ _ (Builtin.SmallTypes.nextOf (.ref i2) >>= _) _ _ _;refine sQ (W2.item _ _ k y _ _ (W2.keep _ _ _ h2 (λo e=>dG.extBut _ _ (Ne.symm cj) (bj.extBut _ _ (Ne.symm eR) (dD.extBut _ _ dI e))) λo e=>dG.extBut _ _ cu (bj.extBut _ _ bY (dD.extBut _ _ fD e))) hy λhd ki dh=>sV ?_);have iO:=dh.extBut _ _ cj fX;refine sQ (wpAny_seqItems iO rfl ?_);refine sQ (wpAny_updateSeq_pair iO λhe fY h9=>?_);replace fY:IsPair he TO x y:=fY;refine sQ (wpAny_letGo (sV (sV ?_)));refine sQ (wpAny_seqItems fY rfl ?_);refine sQ (wpAny_newTuple ?_);have hsz:he.objs.size=s.heap.objs.size:=by rw[h9.1,dh.1,dG.1,bj.1,dD.1]
 have mZ:=h9.extBut _ _ (Ne.symm eB) (dh.extBut _ _ (Ne.symm dI) (dG.extBut _ _ (Ne.symm eB) (bj.extBut _ _ (Ne.symm dq) gO)));have nh:=tj mZ;show wpAny _ _ (Builtin.SmallTypes.ownedTupleHandOut (.ref z) (.ref he.objs.size) >>= _) _ _ _;refine sQ ?_;unfold Builtin.SmallTypes.ownedTupleHandOut;refine sQ (wpAny_setField_rec (sR _ mZ) (by simp) λhg kY kQ=>?_);replace kY:IsZip hg z TI TO (rawInt he.objs.size):=kY;refine wpAny_setField_rec kY (by simp) λhi jO kR=>?_;replace jO:IsZip hi z TI TO (rawInt he.objs.size):=jO
 have up:∀c o,c≠z->he.get? c=some o->hi.get? c=some o:=λc o c1 e=>kR.extBut _ _ c1 (kQ.extBut _ _ c1 (sR _ e))
 have mC:IsPair hi he.objs.size x y:=kR.extBut _ _ (vw nh) (kQ.extBut _ _ (vw nh) (tq _ rfl));have nN:hi.objs.size=he.objs.size+1:=by rw[kR.1,kQ.1,uD]
 rw[hsz]at jO mC nN;refine sV ⟨_,rfl,?_⟩;show Q (.ref he.objs.size) _;rw[hsz];exact hQ hi jO (up _ _ eB fY) (W1.keep _ _ _ (W1.keep _ _ _ iM (λo e=>h9.extBut _ _ (Ne.symm cf) (dh.extBut _ _ eR (dG.extBut _ _ (Ne.symm cf) e))) λo e=>h9.extBut _ _ cO (dh.extBut _ _ cQ (dG.extBut _ _ cO e))) (λo e=>up _ o dq e) λo e=>up _ o fC e) (W2.keep _ _ _ (W2.keep _ _ _ ki (λo e=>h9.extBut _ _ (Ne.symm cj) e) λo e=>h9.extBut _ _ cu e) (λo e=>up _ o dI e) λo e=>up _ o fD e) mC nN λc o c1 c2 c3 c4 e=>up c o c1 (h9.extBut _ _ c2 (dh.extBut _ _ c4 (dG.extBut _ _ c2 (bj.extBut _ _ c3 (dD.extBut _ _ c1 e)))))
theorem next_end(hh:A.handled=none)(D:Apart z TI TO i1 i2 l1 l2)(W1:Draws prog w i1 l1 xs S1)(W2:Draws prog w i2 l2 ys S2)
  (hz:IsZip s.heap z TI TO .none) (bg:IsPair s.heap TI (.ref i1) (.ref i2)) (bK:IsPair s.heap TO a b) (h1:S1 k s.heap) (h2:S2 k s.heap) (bE:xs[k]?=none\/ys[k]?=none)
  (hE:∀h' e,(∀c o,c≠z->c≠TO->c≠i1->c≠i2->s.heap.get? c=some o->h'.get? c=some o)->(∃o,h'.get? e=some o/\o.cls=.type "StopIteration")->E (.ref e) {s with heap:=h' }) :
  wpAny (model prog w) A (Builtin.«zip.__next__» ⟨[.ref z],[]⟩) Q E s:=by
 obtain⟨⟨fH,eB,dq,dI,fC,fD⟩,⟨c7,cI,cJ,cf,cj,eR⟩,⟨cO,bF,cQ,cu,bY,bG⟩⟩:=D;show wpAny _ _ (field (.ref z) 2 >>= _) _ _ _;refine sQ (tZ hz rfl rfl ?_);show wpAny _ _ (field (.ref z) 3 >>= _) _ _ _;refine sQ (tZ hz rfl rfl ?_);refine sQ (wpAny_seqItems bg rfl ?_);show wpAny _ _ (Builtin.SmallTypes.ownedTupleIsFree (.ref z) >>= _) _ _ _;refine sQ ?_;unfold Builtin.SmallTypes.ownedTupleIsFree;refine sQ (tZ hz rfl rfl (sV ?_));simp only;refine sQ (wpAny_rule ?_);refine sQ (tZ hz rfl rfl ?_);refine sQ (wpAny_setField_rec hz (by simp) λha gO dD=>?_);replace gO:IsZip ha z TI TO .ellipsis:=gO;refine sQ ?_;simp only[List.zipIdx_cons,List.forIn_nil];refine sQ (sQ (wpAny_onRaise ?_));show wpAny _ _ (Builtin.SmallTypes.nextOf (.ref i1) >>= _) _ _ _;have iL:=W1.keep _ _ _ h1 (λo e=>dD.extBut _ _ dq e) λo e=>dD.extBut _ _ fC e
 cases hx:xs[k]? with
 |none =>
  refine sQ (W1.stop _ _ k _ _ hh iL hx λhb e bj he=>?_);obtain⟨oe,hW,iR⟩:=he;have mX:=bj _ _ (Ne.symm dq) gO;have qm:e≠z:=λq=>by subst q;rw[mX]at hW;cases hW;simp at iR
  refine wpAny_setField_rec mX (by simp) λhc _ dG=>hE hc e (λc o c1 _ c3 _ q=>dG.extBut _ _ c1 (bj _ _ c3 (dD.extBut _ _ c1 q))) ⟨oe,dG.extBut _ _ qm hW,iR⟩
 |some x =>refine sQ (W1.item _ _ k x _ _ iL hx λhb iM bj=>sV ?_);have fg:=bj.extBut _ _ cf (dD.extBut _ _ eB bK);refine sQ (wpAny_seqItems fg rfl ?_);refine sQ (wpAny_updateSeq_pair fg λhc fX dG=>?_);refine sQ (wpAny_letGo (sV ?_));refine sQ (sQ (wpAny_onRaise ?_));show wpAny _ _ (Builtin.SmallTypes.nextOf (.ref i2) >>= _) _ _ _;refine sQ (W2.stop _ _ k _ _ hh (W2.keep _ _ _ h2 (λo e=>dG.extBut _ _ (Ne.symm cj) (bj.extBut _ _ (Ne.symm eR) (dD.extBut _ _ dI e))) λo e=>dG.extBut _ _ cu (bj.extBut _ _ bY (dD.extBut _ _ fD e))) (by rcases bE with h|h;rw[hx]at h;cases h;exact h) λhd e dh he=>?_);obtain⟨oe,hW,iR⟩:=he;have mY:=dh _ _ (Ne.symm dI) (dG.extBut _ _ (Ne.symm eB) (bj.extBut _ _ (Ne.symm dq) gO));refine wpAny_setField_rec mY (by simp) λhf _ mT=>hE hf e (λc o c1 c2 c3 c4 q=>mT.extBut _ _ c1 (dh _ _ c4 (dG.extBut _ _ c2 (bj.extBut _ _ c3 (dD.extBut _ _ c1 q))))) ⟨oe,mT.extBut _ _ (λq=>by subst q;rw[mY]at hW;cases hW;simp at iR) hW,iR⟩
end
end Zp
end PySem
namespace PySem
namespace Zp
noncomputable def Eh(T:String)(l:Addr):Obj:={cls:=.type T,data:=.fields #[.ref l,.int 0 0]}
noncomputable def z1(h:Heap)(T1:String)(l1:Addr):Heap:=h.push (Eh T1 l1)
noncomputable def z2(h:Heap)(T1 T2:String)(l1 l2:Addr):Heap:=(z1 h T1 l1).push (Eh T2 l2)
noncomputable def z3(h:Heap)(T1 T2:String)(l1 l2:Addr):Heap:=(z2 h T1 T2 l1 l2).push {cls:=.type "tuple",data:=.seq #[.ref h.objs.size,.ref (z1 h T1 l1).objs.size]}
noncomputable def z4(h:Heap)(T1 T2:String)(l1 l2:Addr):Heap:=(z3 h T1 T2 l1 l2).push {cls:=.type "tuple",data:=.seq #[.none,.none]}
noncomputable def z5(h:Heap)(T1 T2:String)(l1 l2:Addr):Heap:=(z4 h T1 T2 l1 l2).push {cls:=.type "zip",data:=.fields #[.none,.bool false,.bool false,.ref (z2 h T1 T2 l1 l2).objs.size,.ref (z3 h T1 T2 l1 l2).objs.size]}
abbrev Its(T:String)(l:Addr)(C:Heap->Prop):Prop:=∀{prog:Program}{w:World}{A:Around}{E:Value->Shared->Prop}{s:Shared}{Q:Value->Shared->Prop},C s.heap->Q (.ref s.heap.objs.size) {s with heap:=s.heap.push (Eh T l)}->wpAny (model prog w) A (pyIter (.ref l)) Q E s
theorem M8(T1 T2:String)(l1 l2:Addr)(C1 C2:Heap->Prop)(p1:Its T1 l1 C1)(p2:Its T2 l2 C2)(k2:∀h o,C2 h->C2 (Heap.push h o)) :
  Meets (Builtin.«zip.__new__» ⟨[.type "zip",.ref l1,.ref l2],[]⟩) (λ_ R s=>C1 s.heap/\C2 s.heap/\R (.ok (.ret (.ref (z4 s.heap T1 T2 l1 l2).objs.size))) {s with heap:=z5 s.heap T1 T2 l1 l2}) :=
 .of_wp λprog w A R s h=>by
  obtain⟨hp,g,d,tk,os⟩:=s;obtain⟨c1,c2,h⟩:=h;have gn:=sub_zip
  wp_walk using p1 c1,p2 (k2 _ _ c2)
  exact⟨_,rfl,h⟩
section
variable{prog:Program}{w:World}{A:Around}{E:Value->Shared->Prop}{s:Shared}{z TI TO i1 i2 l1 l2:Addr}{xs ys:Array Value}{S1 S2:Nat->Heap->Prop}
theorem K7(p1:Its T1 l1 C1)(p2:Its T2 l2 C2)(k2:∀h o,C2 h->C2 (Heap.push h o))(c1:C1 s.heap)(c2:C2 s.heap)
  (h:Q (.ref (z4 s.heap T1 T2 l1 l2).objs.size) {s with heap:=z5 s.heap T1 T2 l1 l2}):wpAny (model prog w) A (call (.type "zip") [.ref l1,.ref l2]) Q E s :=
 callType_new F.called_zip (by decide) (F.typeCall_zip_2 _ _) (F.newCall_zip_2 _ _) (λobj=>F.args_object_init_3 obj _ _) F.entry_zip_new (M8 T1 T2 l1 l2 C1 C2 p1 p2 k2)
  ⟨c1,c2,⟨_,tq _ rfl,rfl⟩,h⟩
theorem GF(D:Apart z TI TO i1 i2 l1 l2)(W1:Draws prog w i1 l1 xs S1)(W2:Draws prog w i2 l2 ys S2)
  (hz:IsZip s.heap z TI TO .none) (bg:IsPair s.heap TI (.ref i1) (.ref i2)) (bK:IsPair s.heap TO a b) (h1:S1 k s.heap) (h2:S2 k s.heap) (hx:xs[k]?=some x) (hy:ys[k]?=some y)
  (hQ:∀h',IsZip h' z TI TO (rawInt s.heap.objs.size)->IsPair h' TO x y->S1 (k+1) h'->S2 (k+1) h'->IsPair h' s.heap.objs.size x y->h'.objs.size=s.heap.objs.size+1 ->
   (∀c o,c≠z->c≠TO->c≠i1->c≠i2->s.heap.get? c=some o->h'.get? c=some o)->Q (some (.ref s.heap.objs.size)) {s with heap:=h' }) :
  wpAny (model prog w) A (pyNext (.ref z)) Q E s:=by
 have hT:s.TypeIs (.ref z) "zip":=⟨_,hz,rfl⟩
 exact sQ (wpAny_attempt (wpAny_callSpecial?_slot hT F.slot_zip_next (wpAny_call_entry F.slot_zip_next hT F.entry_zip_next
  (Po D W1 W2 hz bg bK h1 h2 hx hy λh' a1 a2 a3 a4 a5 a6 a7=>sV (hQ h' a1 a2 a3 a4 a5 a6 a7)) (F.args_zip_next_1 _))))
theorem GG(hh:A.handled=none)(D:Apart z TI TO i1 i2 l1 l2)(W1:Draws prog w i1 l1 xs S1)(W2:Draws prog w i2 l2 ys S2)
  (hz:IsZip s.heap z TI TO .none) (bg:IsPair s.heap TI (.ref i1) (.ref i2)) (bK:IsPair s.heap TO a b) (h1:S1 k s.heap) (h2:S2 k s.heap) (bE:xs[k]?=none\/ys[k]?=none)
  (hQ:∀h',(∀c o,c≠z->c≠TO->c≠i1->c≠i2->s.heap.get? c=some o->h'.get? c=some o)->Q none {s with heap:=h' }):wpAny (model prog w) A (pyNext (.ref z)) Q E s:=by
 have hT:s.TypeIs (.ref z) "zip":=⟨_,hz,rfl⟩
 refine sQ (wpAny_attempt (wpAny_callSpecial?_slot hT F.slot_zip_next (wpAny_call_entry F.slot_zip_next hT F.entry_zip_next
  (next_end (show A.in1.handled=none from hh) D W1 W2 hz bg bK h1 h2 bE λh' e hk he=>?_) (F.args_zip_next_1 _))))
 obtain⟨o,ho,hc⟩:=he;refine sQ (wpAny_isInstance ⟨o,ho,hc⟩ isSubtype_stop ?_);exact sV (hQ _ hk)
end
def EG:Bool->Heap->Addr->Addr->Nat->Prop
 |true,h,it,l,k=>h.IsTupleIter it l k
 |false,h,it,l,k=>h.IsListIter it l k
def Dg:Bool->Heap->Addr->Array Value->Prop
 |true,h,l,xs=>h.IsTuple l xs
 |false,h,l,xs=>h.IsList l xs
noncomputable def BQ:Bool->String
 |true=>"tuple_iterator"
 |false=>"list_iterator"
theorem A9(b:Bool)(aT:t≠it):Draws prog w it t xs (λk h=>EG b h it t k/\Dg b h t xs):=by
 cases b
 .exact Draws.lst aT
 .exact Draws.tup aT
theorem IE(b:Bool)(l:Addr)(xs:Array Value):Its (BQ b) l (λh=>Dg b h l xs):=by
 intro prog w A E s Q c q;cases b
 .exact wpAny_pyIter_list c q
 .exact wpAny_pyIter_tuple c q
theorem Dg.at(c:Dg b h l xs)(e:∀o,h.get? l=some o->h'.get? l=some o):Dg b h' l xs:=by
 cases b
 .exact Heap.IsList.at c e
 .exact Heap.IsTuple.at c e
theorem EG.at(c:EG b h it l k)(e:∀o,h.get? it=some o->h'.get? it=some o):EG b h' it l k:=by
 cases b
 .exact Heap.IsListIter.at c e
 .exact Heap.IsTupleIter.at c e
theorem EG.obj(c:EG b h it l k):∃o,h.get? it=some o/\∀v,o.data≠.cell v:=by
 cases b
 .obtain⟨o,e,_,d⟩:=c;exact⟨o,e,λv z=>by rw[d]at z;cases z⟩
 .obtain⟨o,e,_,d⟩:=c;exact⟨o,e,λv z=>by rw[d]at z;cases z⟩
theorem EG.new(e:h.get? it=some (Eh (BQ b) l)):EG b h it l 0:=by
 cases b
 .exact⟨_,e,rfl,rfl⟩
 .exact⟨_,e,rfl,rfl⟩
end Zp
end PySem
namespace L2
open PySem PySem.Spec PyProof.Rows
def SqB(b:Bool)(K:Fg)(H:Hp)(a:Addr)(xs:List V):Prop:=match b with|true=>SqT K H a xs|false=>SqL K H a xs
section
variable{X:Cx}{aa:List (Addr×Obj)}{U:St}{H:Hp}{s:Shared}{a:Addr}{xs ys:List V}{b:Bool}
theorem Inv.sqb(I:Inv X aa U H s)(h:SqB b X.K H a xs):∃aq:List Value,Vals xs aq/\Zp.Dg b s.heap a aq.toArray/\xs.length<=sizeLine:=by
 cases b
 .obtain⟨aq,r,p,z⟩:=I.list h;exact⟨aq,r,p.isList,z⟩
 .obtain⟨aq,r,p,z⟩:=I.tuple h;exact⟨aq,r,p,z⟩
theorem Inv.Jx(I:Inv X aa U H s)(h:SqB b X.K H a xs)(h':SqB b X.K H a ys):xs=ys:=by
 cases b
 .exact I.KG h h'
 .exact I.HQ h h'
theorem Inv.Hd{fp:List Addr}(I:Inv X aa U H s)(k:∀b o,b∉fp->s.heap.get? b=some o->h'.get? b=some o)(hf:∀b∈fp,Jo X aa H b):Inv X aa U H {s with heap:=h',toks:=t' }:=by
 have gS:∀b u,H b=some u->b∉fp:=λb u e z=>by rw[(hf b z).1]at e;cases e
 refine I.step (λb hb=>?_) (λb o _ _ hc e _=>k b o hc e) (λb o _ _ hc e _=>⟨o.slots,k b o hc e⟩) (λ_ _ _ _ n=>n)
  (λb o hc e=>⟨o,k b o hc e⟩) (λ_ _ e=>e) (λ_ _ _ e=>e) (λb ps e=>⟨#[],by rw[e];simp⟩) (λm hm=>?_) (λb u e=>?_) I.bare
 .obtain⟨f0,f1,f2,f3,f4,f5⟩:=hf b hb;exact⟨f3,f1,f4,f5⟩
 .obtain⟨o,es,ep,ho,r⟩:=hm;exact⟨o,es,ep,k _ o (λz=>(hf _ z).2.1 rfl) ho,r⟩
 .refine(I.z9 b u e).Mt (λc v hc q=>k c v ?_ q) (λ_ q=>q) λ_ _ q=>q
  rcases hc with z|z
  .rw[z];exact gS b u e
  .exact gS c _ z
end
def Itz(K:Fg)(b1:Bool)(a1:Addr)(b2:Bool)(a2:Addr):It :=
  ⟨λi H=>∃xs ys x y,SqB b1 K H a1 xs/\SqB b2 K H a2 ys/\xs[i]?=some x/\ys[i]?=some y,
   λi H x H'=>∃T vx vy,H T=none/\x=.ref T/\H'=upd H T (.tup [vx,vy])/\(∀xs,SqB b1 K H a1 xs->xs[i]?=some vx)/\∀ys,SqB b2 K H a2 ys->ys[i]?=some vy,
   λi H=>∃xs ys,SqB b1 K H a1 xs/\SqB b2 K H a2 ys/\(xs.length<=i\/ys.length<=i)⟩
theorem OH{K:Fg}{a1 a2 z TI TO i1 i2:Addr}(D:Zp.Apart z TI TO i1 i2 a1 a2) :
  Turn P w K (.Tuple bx k0 bH) (Itz K b1 a1 b2 a2) [z,TI,TO,i1,i2] z (λi h=>IsZip h z TI TO .none/\IsPair h TI (.ref i1) (.ref i2)/\(∃a b,IsPair h TO a b)/\Zp.EG b1 h i1 a1 i/\Zp.EG b2 h i2 a2 i) where
 mem:=by simp
 obj:=λi h st b hb=>by
  obtain⟨hz,bg,⟨ta,tb,bK⟩,h1,h2⟩:=st;simp only[tH,ue,or_false]at hb;rcases hb with rfl|rfl|rfl|rfl|rfl
  .exact⟨_,hz,λv z=>nomatch z⟩
  .exact⟨_,bg,λv z=>nomatch z⟩
  .exact⟨_,bK,λv z=>nomatch z⟩
  .exact h1.obj
  .exact h2.obj
 keep:=λi h h' st k=>by obtain⟨hz,bg,⟨ta,tb,bK⟩,h1,h2⟩:=st;exact⟨k z (by simp) _ hz,k TI (by simp) _ bg,⟨ta,tb,k TO (by simp) _ bK⟩,h1.at λo e=>k i1 (by simp) o e,h2.at λo e=>k i2 (by simp) o e⟩
 item:=by
  intro X hP hw hK hc i aa s U H E I hf st hg;subst hP hw hK;obtain⟨hz,bg,⟨ta,tb,bK⟩,h1,h2⟩:=st;obtain⟨xs,ys,x,y,q1,q2,ex,ey⟩:=hg;obtain⟨cq,r1,c1,z1⟩:=I.sqb q1;obtain⟨aX,r2,c2,z2⟩:=I.sqb q2;obtain⟨u1,kW,lx⟩:=r1.get ex;obtain⟨u2,qP,rJ⟩:=r2.get ey;obtain⟨⟨fH,eB,dq,dI,fC,fD⟩,⟨c7,cI,cJ,cf,cj,eR⟩,⟨cO,bF,cQ,cu,bY,bG⟩⟩:=id D;refine Zp.GF D (Zp.A9 b1 bF) (Zp.A9 b2 bG) hz bg bK ⟨h1,c1⟩ ⟨h2,c2⟩ (by simpa using kW) (by simpa using qP) λh' ib kj rK rL qe mS mG=>⟨_,rfl,?_⟩
  refine wpAny_letOwnedTupleGo_zip ib λmf mV sb=>?_
  have fh:∀{c o},s.heap.get? c=some o->c≠s.heap.objs.size:=λe=>tN (tj e)
  have Il:Inv X aa U (upd H s.heap.objs.size (.tup [x,y])) {s with heap:=s.heap.push {cls:=.type "tuple",data:=.seq #[u1,u2]},toks:=s.toks} :=
   I.laid (λb o e=>sR _ e) (tJ _) ⟨by show 2<=sizeLine;rw[sizeLine_eq];decide,[u1,u2],.cons lx (.cons rJ .nil),⟨_,tq _ rfl,rfl,_,rfl,rfl⟩⟩
  have iV:∀b∈[z,TI,TO,i1,i2],Jo X aa (upd H s.heap.objs.size (.tup [x,y])) b:=λb hb=>by
   obtain⟨f0,f⟩:=hf b hb;exact⟨by rw[Aj (by
   simp only[tH,ue,or_false]at hb;rcases hb with rfl|rfl|rfl|rfl|rfl
   .exact fh hz
   .exact fh bg
   .exact fh bK
   .obtain⟨o,e,_⟩:=h1.obj;exact fh e
   .obtain⟨o,e,_⟩:=h2.obj;exact fh e)];exact f0,f⟩
  refine⟨.ref s.heap.objs.size,_,(Il.Hd (λb o hb e=>by
   have nz:b≠z:=λq=>hb (by simp[q])
   refine sb.extBut _ _ nz ?_;by_cases hbT:b=s.heap.objs.size
   .subst hbT;have e':(s.heap.push {cls:=.type "tuple",data:=.seq #[u1,u2]}).get? s.heap.objs.size=some o:=e;rw[tq _ rfl]at e';cases e';exact qe
   .have e':(s.heap.push {cls:=.type "tuple",data:=.seq #[u1,u2]}).get? b=some o:=e;rw[Heap.get?_push_ne _ _ _ hbT]at e';exact mG b o nz (λq=>hb (by simp[q])) (λq=>hb (by simp[q])) (λq=>hb (by simp[q])) e') iV),rfl,⟨s.heap.objs.size,x,y,I.z9.fresh (tJ _),rfl,rfl,λzs hz=>by rw[I.Jx hz q1];exact ex,λzs hz=>by rw[I.Jx hz q2];exact ey⟩,?_,λb hb=>(iV b hb).1⟩
  exact⟨mV,sb.extBut _ _ fH (mG _ _ fH c7 cI cJ bg),⟨_,_,sb.extBut _ _ eB kj⟩,rK.1.at λo e=>sb.extBut _ _ dq e,rL.1.at λo e=>sb.extBut _ _ dI e⟩
 done:=by
  intro X hP hw hK hc i aa s U H E I hf st hg;subst hP hw hK;obtain⟨hz,bg,⟨ta,tb,bK⟩,h1,h2⟩:=st;obtain⟨xs,ys,q1,q2,bE⟩:=hg;obtain⟨cq,r1,c1,z1⟩:=I.sqb q1;obtain⟨aX,r2,c2,z2⟩:=I.sqb q2;have e1:=r1.length;have e2:=r2.length;obtain⟨_,_,⟨cO,bF,cQ,cu,bY,bG⟩⟩:=id D;refine Zp.GG (I.ok.hd hc) D (Zp.A9 b1 bF) (Zp.A9 b2 bG) hz bg bK ⟨h1,c1⟩ ⟨h2,c2⟩ ?_ λh' hk=>⟨rfl,I.Hd (λb o hb e=>hk b o (λq=>hb (by simp[q])) (λq=>hb (by simp[q])) (λq=>hb (by simp[q])) (λq=>hb (by simp[q])) e) hf⟩
  rcases bE with z|z
  .exact .inl (by simp;lia)
  .exact .inr (by simp;lia)
 self:=λ_ _ _ _ _ st h=>wpAny_pyIter_zip st.1 h
end L2
namespace PySem
namespace Zp
theorem made(c1:Dg b1 h l1 xs)(c2:Dg b2 h l2 ys) :
  ∃z TI TO i1 i2,z=(z4 h (BQ b1) (BQ b2) l1 l2).objs.size/\h.objs.size<=z/\h.objs.size<=TI/\h.objs.size<=TO/\h.objs.size<=i1/\h.objs.size<=i2/\Apart z TI TO i1 i2 l1 l2 /\
   IsZip (z5 h (BQ b1) (BQ b2) l1 l2) z TI TO .none/\IsPair (z5 h (BQ b1) (BQ b2) l1 l2) TI (.ref i1) (.ref i2)/\IsPair (z5 h (BQ b1) (BQ b2) l1 l2) TO .none .none /\
   EG b1 (z5 h (BQ b1) (BQ b2) l1 l2) i1 l1 0/\EG b2 (z5 h (BQ b1) (BQ b2) l1 l2) i2 l2 0/\∀c o,h.get? c=some o->(z5 h (BQ b1) (BQ b2) l1 l2).get? c=some o:=by
 have s1:(z1 h (BQ b1) l1).objs.size=h.objs.size+1:=uD ..;have s2:(z2 h (BQ b1) (BQ b2) l1 l2).objs.size=h.objs.size+2:=by unfold z2;rw[uD,s1]
 have s3:(z3 h (BQ b1) (BQ b2) l1 l2).objs.size=h.objs.size+3:=by unfold z3;rw[uD,s2]
 have s4:(z4 h (BQ b1) (BQ b2) l1 l2).objs.size=h.objs.size+4:=by unfold z4;rw[uD,s3]
 have lt:∀{b:Bool}{l:Addr}{xs:Array Value},Dg b h l xs->l<h.objs.size:=λ{b l xs} c=>by
  cases b
  .obtain⟨o,e,_⟩:=c;exact tj e
  .obtain⟨o,e,_⟩:=c;exact tj e
 have t1:@LT.lt Nat _ l1 h.objs.size:=lt c1;have t2:@LT.lt Nat _ l2 h.objs.size:=lt c2;refine⟨(z4 h (BQ b1) (BQ b2) l1 l2).objs.size,(z2 h (BQ b1) (BQ b2) l1 l2).objs.size,(z3 h (BQ b1) (BQ b2) l1 l2).objs.size,h.objs.size,(z1 h (BQ b1) l1).objs.size,rfl,by lia,by lia,by lia,by lia,by lia,⟨?_,?_,?_⟩,?_,?_,?_,?_,?_,?_⟩
 .rw[s1,s2,s3,s4];refine⟨?_,?_,?_,?_,?_,?_⟩<;>(intro e;have e2:@Eq Nat _ _:=e;lia)
 .rw[s1,s2,s3];refine⟨?_,?_,?_,?_,?_,?_⟩<;>(intro e;have e2:@Eq Nat _ _:=e;lia)
 .rw[s1,s3];refine⟨?_,?_,?_,?_,?_,?_⟩<;>(intro e;have e2:@Eq Nat _ _:=e;lia)
 .exact tq _ rfl
 .exact sR _ (sR _ (tq _ rfl))
 .exact sR _ (tq _ rfl)
 .exact EG.new (sR _ (sR _ (sR _ (sR _ (tq _ rfl)))))
 .exact EG.new (sR _ (sR _ (sR _ (tq _ rfl))))
 .exact λc o e=>sR _ (sR _ (sR _ (sR _ (sR _ e))))
end Zp
end PySem
namespace L2
open PySem PySem.Spec PyProof.Rows
def iZip(K:Fg)(ta:TA):TI:=λU H R=>ta U H λvs H1=>∃b1 a1 b2 a2,vs=[.ref a1,.ref a2]/\(∃xs,SqB b1 K H1 a1 xs)/\(∃ys,SqB b2 K H1 a2 ys)/\R (Itz K b1 a1 b2 a2) H1
theorem Ws(hg:Gl X "zip")(hm:X.mg "zip"=none)(ha:PA X [a,b] ta)(hs:starEach [a,b] X.env=[(false,eval a X.env),(false,eval b X.env)]:=by rfl)(aW:starEach [b] X.env=[(false,eval b X.env)]:=by rfl) :
  PI X (.Tuple bx k0 bH) (.Call (.Name "zip" p) [a,b] [] pos) (iZip X.K ta):=by
 intro aa s U H R I h;refine Call_ (Ey I hg hm boot_zip (callWith_type1 (thn (ha pos aa s U H _ I h) λus s1 ao=>?_) (by rw[hs,aW]) (by rw[aW];rfl)));obtain⟨vs,H1,I1,r1,q1⟩:= ao;obtain⟨b1,a1,b2,a2,e,⟨xs,hx⟩,⟨ys,hy⟩,q⟩:=q1;subst e;cases r1 with
 |cons r rr =>
  cases rr with
  |cons r' rr =>
   cases rr;cases r;cases r';obtain⟨cq,ly,c1,_⟩:=I1.sqb hx;obtain⟨aX,lA,c2,_⟩:=I1.sqb hy;refine Zp.K7 (C1:=λh=>Zp.Dg b1 h a1 cq.toArray) (C2:=λh=>Zp.Dg b2 h a2 aX.toArray) (Zp.IE b1 a1 cq.toArray) (Zp.IE b2 a2 aX.toArray) (λh o c=>Zp.Dg.at c λo e=>sR _ e) c1 c2 ?_;obtain⟨z,TI,TO,i1,i2,ez,g0,g1,g2,g3,g4,D,hz,bg,bK,t1,t2,hk⟩:=Zp.made c1 c2;rw[<- ez];refine wpAny_pyIter_zip hz ⟨z,[z,TI,TO,i1,i2],_,Itz X.K b1 a1 b2 a2,H1,rfl,I1.kept hk,OH D,⟨hz,bg,⟨_,_,bK⟩,t1,t2⟩,λb hb=>?_,q⟩;have gK:s1.heap.objs.size<=b:=by simp only[tH,ue,or_false]at hb;rcases hb with rfl|rfl|rfl|rfl|rfl<;>assumption
   exact I1.RD gK (I1.z9.fresh gK)
end L2
namespace PySem
end PySem
namespace L2
open PySem PySem.Spec PyProof.Rows
section
variable{X:Cx}
inductive Q1(K:Fg)(x:V)(y:V)(H:Hp)(Q:VK):Prop
 |mk (a b ys:_) (h0:x=.ref a) (h1:y=.ref b) (h2:SqT K H a []) (h3:SqT K H b ys) (h4:Q (.ref b) H)
theorem Pg:OpR X (binaryOp .Add) (Q1 X.K):=by intro aa s U H x y v u Q I rx ry h;obtain⟨a,b,ys,rfl,rfl,ha,hb,q⟩:=h;cases rx;cases ry;obtain⟨aq,r1,⟨⟨cls,dd,data,sl⟩,ho,hc,n,hd⟩,_⟩:=I.tuple ha;obtain⟨aX,r2,⟨⟨kb,jA,data2,j4⟩,gM,c9,n2,hd2⟩,_⟩:=I.tuple hb;subst hc hd c9 hd2;cases r1;exact concat_meets ⟨_,ho,rfl⟩ ⟨_,gM,rfl⟩ noFill_tuple_add seq_tuple_add slot_tuple_add entry_tuple_add (args_tuple_add_2 _ _) (tuple_addW0 a b _ _ n n2 dd jA sl j4 (by simp)) ⟨ho,gM,⟨.ref b,H,I,rfl,q⟩⟩
theorem Kb(T:String):BU X (.builtin "isinstance") (λxs H Q=>∃x t b,xs=[x,.ty T]/\Ll X.K H x t/\kitOne X.K t (.type T)=some b/\Q (.v b) H):=by intro aa s U H xs us Q I r h;obtain⟨x,t,b,rfl,ty,e,q⟩:=h;cases r with|cons r1 rr =>cases rr with|cons r2 rr =>cases rr;obtain rfl:_=Value.type T:=r2;exact Nq I r1 ty e λtk=>⟨.v b,H,I.tok tk,rfl,q⟩
end
end L2
namespace PySem
namespace Zp
abbrev HK(h:Heap)(z TI TO a:Addr)(f:Bool):Prop:=h.get? z=some {cls:=.type "zip",data:=.fields #[rawInt a,.bool f,.bool false,.ref TI,.ref TO]}
section
variable{prog:Program}{w:World}{A:Around}{E:Value->Shared->Prop}{s:Shared}{z TI TO i1 i2 l1 l2 ad:Addr}{xs ys:Array Value}{S1 S2:Nat->Heap->Prop}
theorem alive(ho:s.heap.get? a=some o)(h:Q (some o) s):wpAny (model prog w) A (loadIfAlive a) Q E s:=by
 have h':Q (s.heap.get? a) s:=by rwa[ho]
 exact λ_ _ _=>h'
theorem M5(hz:HK s.heap z TI TO ad f)(ha:s.heap.get? ad=some oa)(hQ:∀h',HK h' z TI TO ad true->Heap.SameBut z s.heap h'->Q false {s with heap:=h' }) :
  wpAny (model prog w) A (Builtin.SmallTypes.ownedTupleIsFree (.ref z)) Q E s:=by
 refine sQ (tZ hz rfl rfl ?_);show wpAny _ _ (loadIfAlive ((ad:Int).toNat) >>= _) _ _ _;refine sQ (alive ha ?_);refine sQ (tZ hz rfl (x:=.bool f) rfl ?_);cases f with|true =>exact sV (hQ s.heap hz (Heap.SameBut.refl _ _))|false =>exact sQ (wpAny_setField_rec hz (by simp) λh3 he hs=>sV (hQ h3 he hs))
theorem M6(D:Apart z TI TO i1 i2 l1 l2)(W1:Draws prog w i1 l1 xs S1)(W2:Draws prog w i2 l2 ys S2){Q:Value->Shared->Prop}
  (hz:HK s.heap z TI TO ad f) (ha:s.heap.get? ad=some oa) (bg:IsPair s.heap TI (.ref i1) (.ref i2)) (h1:S1 k s.heap) (h2:S2 k s.heap) (hx:xs[k]?=some x) (hy:ys[k]?=some y)
  (hQ:∀h',HK h' z TI TO ad true->S1 (k+1) h'->S2 (k+1) h'->IsPair h' s.heap.objs.size x y->h'.objs.size=s.heap.objs.size+1 ->
   (∀c o,c≠z->c≠i1->c≠i2->s.heap.get? c=some o->h'.get? c=some o)->Q (.ref s.heap.objs.size) {s with heap:=h' }) :
  wpAny (model prog w) A (Builtin.«zip.__next__» ⟨[.ref z],[]⟩) (λba s'=>∃v,ba=.done (.ret v)/\Q v s') E s:=by
 obtain⟨⟨fH,eB,dq,dI,fC,fD⟩,⟨c7,cI,cJ,cf,cj,eR⟩,⟨cO,bF,cQ,cu,bY,bG⟩⟩:=D;show wpAny _ _ (field (.ref z) 2 >>= _) _ _ _;refine sQ (tZ hz rfl rfl ?_);show wpAny _ _ (field (.ref z) 3 >>= _) _ _ _;refine sQ (tZ hz rfl rfl ?_);refine sQ (wpAny_seqItems bg rfl ?_);show wpAny _ _ (Builtin.SmallTypes.ownedTupleIsFree (.ref z) >>= _) _ _ _;refine sQ (M5 hz ha λhA mW eI=>?_);refine sQ (sQ (sQ (wpAny_holding ?_)));show wpAny _ _ (Builtin.SmallTypes.nextOf (.ref i1) >>= _) _ _ _;refine sQ (W1.item _ _ k x _ _ (W1.keep _ _ _ h1 (λo e=>eI.extBut _ _ dq e) λo e=>eI.extBut _ _ fC e) hx λhb iM bj=>sV (sV ?_));refine sQ (sQ (wpAny_holding ?_));show wpAny _ _ (Builtin.SmallTypes.nextOf (.ref i2) >>= _) _ _ _;refine sQ (W2.item _ _ k y _ _ (W2.keep _ _ _ h2 (λo e=>bj.extBut _ _ (Ne.symm eR) (eI.extBut _ _ dI e)) λo e=>bj.extBut _ _ bY (eI.extBut _ _ fD e)) hy λhd ki dh=>sV (sV (sV ?_)));refine sQ (wpAny_newTuple (hsz:=by show 2<=sizeLine;rw[sizeLine_eq];decide) ?_);have hsz:hd.objs.size=s.heap.objs.size:=by rw[dh.1,bj.1,eI.1]
 refine sV ⟨_,rfl,?_⟩;rw[hsz];refine hQ _ (sR _ (dh.extBut _ _ (Ne.symm dI) (bj.extBut _ _ (Ne.symm dq) mW))) (W1.keep _ _ _ (W1.keep _ _ _ iM (λo e=>dh.extBut _ _ eR e) λo e=>dh.extBut _ _ cQ e) (λo e=>sR _ e) λo e=>sR _ e) (W2.keep _ _ _ ki (λo e=>sR _ e) λo e=>sR _ e) ?_ (by rw[uD,hsz]) λc o c1 c2 c3 e=>sR _ (dh.extBut _ _ c3 (bj.extBut _ _ c2 (eI.extBut _ _ c1 e)))
 rw[<- hsz];exact tq _ rfl
theorem Qs(hh:A.handled=none)(D:Apart z TI TO i1 i2 l1 l2)(W1:Draws prog w i1 l1 xs S1)(W2:Draws prog w i2 l2 ys S2)
  (hz:HK s.heap z TI TO ad f) (ha:s.heap.get? ad=some oa) (bg:IsPair s.heap TI (.ref i1) (.ref i2)) (h1:S1 k s.heap) (h2:S2 k s.heap) (bE:xs[k]?=none\/ys[k]?=none)
  (hE:∀h' e,(∀c o,c≠z->c≠i1->c≠i2->s.heap.get? c=some o->h'.get? c=some o)->(∃o,h'.get? e=some o/\o.cls=.type "StopIteration")->E (.ref e) {s with heap:=h' }) :
  wpAny (model prog w) A (Builtin.«zip.__next__» ⟨[.ref z],[]⟩) Q E s:=by
 obtain⟨⟨fH,eB,dq,dI,fC,fD⟩,⟨c7,cI,cJ,cf,cj,eR⟩,⟨cO,bF,cQ,cu,bY,bG⟩⟩:=D;show wpAny _ _ (field (.ref z) 2 >>= _) _ _ _;refine sQ (tZ hz rfl rfl ?_);show wpAny _ _ (field (.ref z) 3 >>= _) _ _ _;refine sQ (tZ hz rfl rfl ?_);refine sQ (wpAny_seqItems bg rfl ?_);show wpAny _ _ (Builtin.SmallTypes.ownedTupleIsFree (.ref z) >>= _) _ _ _;refine sQ (M5 hz ha λhA mW eI=>?_);refine sQ (sQ (sQ (wpAny_holding ?_)));show wpAny _ _ (Builtin.SmallTypes.nextOf (.ref i1) >>= _) _ _ _;have iL:=W1.keep _ _ _ h1 (λo e=>eI.extBut _ _ dq e) λo e=>eI.extBut _ _ fC e
 cases hx:xs[k]? with
 |none=>exact sQ (W1.stop _ _ k _ _ hh iL hx λhb e bj he=>hE hb e (λc o c1 c2 c3 q=>bj _ _ c2 (eI.extBut _ _ c1 q)) he)
 |some x =>
  refine sQ (W1.item _ _ k x _ _ iL hx λhb iM bj=>sV (sV ?_));refine sQ (sQ (wpAny_holding ?_));show wpAny _ _ (Builtin.SmallTypes.nextOf (.ref i2) >>= _) _ _ _;exact sQ (W2.stop _ _ k _ _ hh (W2.keep _ _ _ h2 (λo e=>bj.extBut _ _ (Ne.symm eR) (eI.extBut _ _ dI e)) λo e=>bj.extBut _ _ bY (eI.extBut _ _ fD e)) (by
   rcases bE with h|h
   .rw[hx]at h;cases h
   .exact h) λhd e dh he=>hE hd e (λc o c1 c2 c3 q=>dh _ _ c3 (bj.extBut _ _ c2 (eI.extBut _ _ c1 q))) he)
theorem JD(D:Apart z TI TO i1 i2 l1 l2)(W1:Draws prog w i1 l1 xs S1)(W2:Draws prog w i2 l2 ys S2)
  (hz:HK s.heap z TI TO ad f) (ha:s.heap.get? ad=some oa) (bg:IsPair s.heap TI (.ref i1) (.ref i2)) (h1:S1 k s.heap) (h2:S2 k s.heap) (hx:xs[k]?=some x) (hy:ys[k]?=some y)
  (hQ:∀h',HK h' z TI TO ad true->S1 (k+1) h'->S2 (k+1) h'->IsPair h' s.heap.objs.size x y->h'.objs.size=s.heap.objs.size+1 ->
   (∀c o,c≠z->c≠i1->c≠i2->s.heap.get? c=some o->h'.get? c=some o)->Q (some (.ref s.heap.objs.size)) {s with heap:=h' }):wpAny (model prog w) A (pyNext (.ref z)) Q E s:=by
 have hT:s.TypeIs (.ref z) "zip":=⟨_,hz,rfl⟩
 exact sQ (wpAny_attempt (wpAny_callSpecial?_slot hT F.slot_zip_next (wpAny_call_entry F.slot_zip_next hT F.entry_zip_next
  (M6 D W1 W2 hz ha bg h1 h2 hx hy λh' a1 a3 a4 a5 a6 a7=>sV (hQ h' a1 a3 a4 a5 a6 a7)) (F.args_zip_next_1 _))))
theorem Ly(hh:A.handled=none)(D:Apart z TI TO i1 i2 l1 l2)(W1:Draws prog w i1 l1 xs S1)(W2:Draws prog w i2 l2 ys S2)
  (hz:HK s.heap z TI TO ad f) (ha:s.heap.get? ad=some oa) (bg:IsPair s.heap TI (.ref i1) (.ref i2)) (h1:S1 k s.heap) (h2:S2 k s.heap) (bE:xs[k]?=none\/ys[k]?=none)
  (hQ:∀h',(∀c o,c≠z->c≠i1->c≠i2->s.heap.get? c=some o->h'.get? c=some o)->Q none {s with heap:=h' }):wpAny (model prog w) A (pyNext (.ref z)) Q E s:=by
 have hT:s.TypeIs (.ref z) "zip":=⟨_,hz,rfl⟩
 refine sQ (wpAny_attempt (wpAny_callSpecial?_slot hT F.slot_zip_next (wpAny_call_entry F.slot_zip_next hT F.entry_zip_next
  (Qs (show A.in1.handled=none from hh) D W1 W2 hz ha bg h1 h2 bE λh' e hk he=>?_) (F.args_zip_next_1 _))))
 obtain⟨o,ho,hc⟩:=he;refine sQ (wpAny_isInstance ⟨o,ho,hc⟩ isSubtype_stop ?_);exact sV (hQ _ hk)
end
def Frs(b1 b2:Bool)(h:Heap)(z TI TO i1 i2 l1 l2 lo:Addr)(i:Nat):Prop :=
 ((i=0/\IsZip h z TI TO .none/\∃a b,IsPair h TO a b)\/∃ad f oa,HK h z TI TO ad f/\h.get? ad=some oa/\lo<=ad)/\IsPair h TI (.ref i1) (.ref i2)/\EG b1 h i1 l1 i/\EG b2 h i2 l2 i
theorem Frs.keep(x:Frs b1 b2 h z TI TO i1 i2 l1 l2 lo i)(hk:∀b o,b≠S->h.get? b=some o->h'.get? b=some o)(hS:∀b∈[z,TI,TO,i1,i2],b≠S)(bZ:S<lo):Frs b1 b2 h' z TI TO i1 i2 l1 l2 lo i:=by
 obtain⟨x,p,t1,t2⟩:=x;refine⟨?_,hk _ _ (hS _ (by simp)) p,t1.at λo e=>hk _ o (hS _ (by simp)) e,t2.at λo e=>hk _ o (hS _ (by simp)) e⟩;rcases x with⟨e,hz,a,b,ht⟩|⟨ad,f,oa,hz,ha,hl⟩
 .exact .inl ⟨e,hk _ _ (hS _ (by simp)) hz,a,b,hk _ _ (hS _ (by simp)) ht⟩
 .exact .inr ⟨ad,f,oa,hk _ _ (hS _ (by simp)) hz,hk _ _ (λq=>absurd (tE bZ hl) (by rw[q];exact uw _)) ha,hl⟩
section
variable{prog:Program}{w:World}{A:Around}{E:Value->Shared->Prop}{s:Shared}{z TI TO i1 i2 l1 l2 ad lo S:Addr}{xs ys:Array Value}{b1 b2:Bool}{R:Result->Shared->Prop}
theorem OJ(D:Apart z TI TO i1 i2 l1 l2)(st:Frs b1 b2 s.heap z TI TO i1 i2 l1 l2 lo k)(c1:Dg b1 s.heap l1 xs)(c2:Dg b2 s.heap l2 ys)(hx:xs[k]?=some x)(hy:ys[k]?=some y)(hl:lo<=s.heap.objs.size)(bZ:∀b∈[z,TI,TO,i1,i2,l1,l2],b<lo)
  (hQ:∀h',Frs b1 b2 h' z TI TO i1 i2 l1 l2 lo (k+1)->Dg b1 h' l1 xs->Dg b2 h' l2 ys->IsPair h' s.heap.objs.size x y->h'.objs.size=s.heap.objs.size+1 ->
   (∀c o,c≠z->c≠TO->c≠i1->c≠i2->s.heap.get? c=some o->h'.get? c=some o)->Q (some (.ref s.heap.objs.size)) {s with heap:=h' }):wpAny (model prog w) A (pyNext (.ref z)) Q E s:=by
 obtain⟨x0,p,t1,t2⟩:=st;obtain⟨⟨fH,eB,dq,dI,fC,fD⟩,⟨c7,cI,cJ,cf,cj,eR⟩,⟨cO,bF,cQ,cu,bY,bG⟩⟩:=id D;rcases x0 with⟨e,hz,a,b,ht⟩|⟨ad,f,oa,hz,ha,eP⟩
 .exact GF D (A9 b1 bF) (A9 b2 bG) hz p ht ⟨t1,c1⟩ ⟨t2,c2⟩ hx hy λh' ib _ s1 s2 hp hs hk=>hQ h' ⟨.inr ⟨_,false,_,ib,hp,hl⟩,hk _ _ fH c7 cI cJ p,s1.1,s2.1⟩ s1.2 s2.2 hp hs hk
 .have aT:∀b∈[z,TI,TO,i1,i2,l1,l2],ad≠b:=λb hb q=>absurd (tE (bZ b hb) eP) (by rw[q];exact uw _)
  exact JD D (A9 b1 bF) (A9 b2 bG) hz ha p ⟨t1,c1⟩ ⟨t2,c2⟩ hx hy λh' ib s1 s2 hp hs hk=>hQ h' ⟨.inr ⟨ad,true,oa,ib,hk _ _ (aT _ (by simp)) (aT _ (by simp)) (aT _ (by simp)) ha,eP⟩,hk _ _ fH cI cJ p,s1.1,s2.1⟩ s1.2 s2.2 hp hs λc o q1 _ q3 q4 e=>hk c o q1 q3 q4 e
theorem UN(hh:A.handled=none)(D:Apart z TI TO i1 i2 l1 l2)(st:Frs b1 b2 s.heap z TI TO i1 i2 l1 l2 lo k)(c1:Dg b1 s.heap l1 xs)(c2:Dg b2 s.heap l2 ys)(bE:xs[k]?=none\/ys[k]?=none)
  (hQ:∀h',(∀c o,c≠z->c≠TO->c≠i1->c≠i2->s.heap.get? c=some o->h'.get? c=some o)->Q none {s with heap:=h' }):wpAny (model prog w) A (pyNext (.ref z)) Q E s:=by
 obtain⟨x0,p,t1,t2⟩:=st;obtain⟨⟨fH,eB,dq,dI,fC,fD⟩,⟨c7,cI,cJ,cf,cj,eR⟩,⟨cO,bF,cQ,cu,bY,bG⟩⟩:=id D;rcases x0 with⟨e,hz,a,b,ht⟩|⟨ad,f,oa,hz,ha,eP⟩
 .exact GG hh D (A9 b1 bF) (A9 b2 bG) hz p ht ⟨t1,c1⟩ ⟨t2,c2⟩ bE hQ
 .exact Ly hh D (A9 b1 bF) (A9 b2 bG) hz ha p ⟨t1,c1⟩ ⟨t2,c2⟩ bE λh' hk=>hQ h' λc o q1 _ q3 q4 e=>hk c o q1 q3 q4 e
end
end Zp
end PySem
namespace PySem
namespace F
end F
namespace Zp
section
variable{prog:Program}{w:World}{A:Around}{E:Value->Shared->Prop}{s:Shared}{z TI TO i1 i2 l1 l2 S:Addr}{xs ys:Array Value}{b1 b2:Bool}{R:Result->Shared->Prop}
end
end Zp
end PySem
namespace L2
open PySem PySem.Spec PyProof.Rows
section
variable{X:Cx}{aa:List (Addr×Obj)}{U:St}{H H':Hp}{s:Shared}
theorem Inv.TR{fp:List Addr}(I:Inv X aa U H s)(k:∀b o,b∉fp->s.heap.get? b=some o->h'.get? b=some o)(hf:∀b∈fp,Jo X aa H b)
  (up:∀b u,H b=some u->H' b=some u) (dn:∀b u,H' b=some u->H b=some u\/(s.heap.objs.size<=b/\A2 X.prog X.w H' h' b u)):Inv X aa U H' {s with heap:=h',toks:=t' }:=by
 have gS:∀b u,H b=some u->b∉fp:=λb u e z=>by rw[(hf b z).1]at e;cases e
 refine I.step (λb hb=>?_) (λb o _ _ hc e _=>k b o hc e) (λb o _ _ hc e _=>⟨o.slots,k b o hc e⟩) (λb o _ e n=>?_)
  (λb o hc e=>⟨o,k b o hc e⟩) (λb _ e=>up b _ e) (λb _ _ e=>up b _ e) (λb ps e=>⟨#[],by rw[up b _ e];simp⟩) (λm hm=>?_) (λb u e=>?_) I.bare
 .obtain⟨f0,f1,f2,f3,f4,f5⟩:=hf b hb;exact⟨f3,f1,f4,f5⟩
 .cases q:H' b with
  |none=>rfl
  |some u =>
   rcases dn b u q with z|z
   .rw[n]at z;cases z
   .exact absurd (tE (tj e) z.1) (uw _)
 .obtain⟨o,es,ep,ho,r⟩:=hm;exact⟨o,es,ep,k _ o (λz=>(hf _ z).2.1 rfl) ho,r⟩
 .rcases dn b u e with z|z
  .refine(I.z9 b u z).Mt (λc v hc q=>k c v ?_ q) (λc q=>up c _ q) λc _ q=>up c _ q
   rcases hc with y|y
   .rw[y];exact gS b u z
   .exact gS c _ y
  .exact z.2
end
end L2
namespace PySem
open PyProof.Rows (IsTup)
namespace Rv
section
variable{prog:Program}{w:World}{A:Around}{E:Value->Shared->Prop}{s:Shared}
end
end Rv
end PySem
namespace L2
open PySem PySem.Spec PyProof.Rows
end L2
namespace HT
open PySem PyProof.Rows
section
variable{prog:Program}{w:World}{A:Around}{E:Value->Shared->Prop}{s:Shared}
theorem Ej{lo hi:Option Int}(ht:IsTup s.heap t items)(hs:s.heap.IsSliceOf sl vl vu .none)(pl:IsPart vl lo)(pu:IsPart vu hi)
  (hw:sIx items.size 0 lo=0/\sIx items.size items.size hi=items.size) (h:Q (.ref t) s):wpAny (model prog w) A (getItem (.ref t) (.ref sl)) Q E s:=by
 obtain⟨os,hX,iu,iT⟩:=id hs;unfold getItem
 try with_reducible refine wpAny_holding ?_
 first|refine sQ (sV ?_)|skip
 refine sQ (wpAny_sequenceKey ht.typeIs (by decide) ?_);refine sQ (wpAny_callSpecial?_slot ht.typeIs slot_tuple_getitem
  (wpAny_call_entry slot_tuple_getitem ht.typeIs entry_tuple_getitem ?_ (args_tuple_getitem _ _)))
 show wpAny _ _ (Builtin.Tuple.tupleItemsOf (.ref t) >>= _) _ _ s;refine sQ (tupleItemsOf_ ht ?_);refine sQ (wpAny_typeOf (⟨os,hX,iu⟩) ?_);refine sQ (CV hs pl pu ?_);show wpAny _ _ (if(((sIx items.size 0 lo:Nat):Int)==0&&(1:Int)==1&&(sIx items.size items.size hi-sIx items.size 0 lo)==items.size)=true then _ else _) _ _ s;rw[if_pos (by rw[hw.1,hw.2];simp)];refine sQ ?_;refine sQ (wpAny_typeOf ht.typeIs (sV ?_));exact sQ (wpAny_rule (sV ⟨_,rfl,sV h⟩))
end
end HT
namespace L2
open PySem PySem.Spec PyProof.Rows
inductive rSlA(K:Fg)(x:V)(lo:Option Int)(hi:Option Int)(H:Hp)(Q:VK):Prop
 |mk (a xs:_) (h0:x=.ref a) (h1:SqT K H a xs) (h2:(HT.sIx xs.length 0 lo=0/\HT.sIx xs.length xs.length hi=xs.length)) (h3:Q (.ref a) H)
theorem VY:SlR X (rSlA X.K):=by
 intro aa s U H x v vl vu lo hi sl Q I rx hs pl pu h;obtain⟨a,xs,rfl,hx,hw,q⟩:=h;cases rx;obtain⟨aq,r,ht,hz⟩:=I.tuple hx;have hlen:aq.toArray.size=xs.length:=by rw[tK];exact r.length.symm
 refine⟨"tuple",_,PyProof.Rows.slot_tuple_getitem.lookup,ht.typeIs,?_⟩;exact HT.Ej ht hs pl pu (by rwa[hlen]) ⟨.ref a,H,I,rfl,q⟩
end L2
namespace L2
open PySem PySem.Spec PySem.W PyProof.Rows
noncomputable def Dd:List Int->Nat
 | []=>0
 |n::ns=>Builtin.Int.intBits n+1+Dd ns
theorem FY:∀ns:List Int,WData.weightAll (ns.map WData.int)=Dd ns
 | []=>by simp[WData.weightAll,Dd]
 |n::ns=>by simp only[sX,WData.weightAll,FY ns];rfl
end L2
namespace L2
open PySem PySem.Spec
theorem V4(h:Gu k u=true):RelV (kV k) u:=by
 cases k with
 |inl i =>
  have h:Value.isInt i u=true:=h;cases u<;>first
   |(simp[Value.isInt]at h;subst h;exact⟨_,rfl⟩)
   |(simp at h)
   |(cases h)
 |inr x =>
  have h:Value.isStrOf x u=true:=h;cases u<;>first
   |(simp[Value.isStrOf]at h;subst h;exact⟨_,rfl⟩)
   |(simp at h)
   |(cases h)
noncomputable def Jbn(o:Obj):Nat:=match o.data with|.dict _ ep=>ep|_=>0
def Itd(a:Addr)(o:Obj)(ah:List (Key×V)):It :=
 ⟨λi H=>H a=some (.frz o (.l ah))/\i<ah.length,λi H x H'=>H'=H/\∃k,(ah.map (·.1))[i]?=some k/\x=kV k,λi H=>H a=some (.frz o (.l ah))/\ah.length<=i⟩
section
variable{X:Cx}{aa:List (Addr×Obj)}{U:St}{H:Hp}{s:Shared}{a:Addr}{o:Obj}{ah:List (Key×V)}
theorem Inv.Ja7(I:Inv X aa U H s)(e:H a=some (.frz o (.l ah))):(a==sysModules)=false/\∃vs,KV ah vs/\s.heap.DictAt (AR X.prog X.w) a vs (Jbn o):=by
 obtain⟨h1,h2⟩:=(show A2 X.prog X.w H s.heap a (.frz o (.l ah))from I.z9 a _ e)
 obtain⟨z,hd,vs,aO,dd⟩:=(show ah.length<=sizeLine/\(a==sysModules)=false/\∃vs,KV ah vs/\s.heap.DictOf (AR X.prog X.w) a vs from h2)
 refine⟨hd,vs,aO,?_⟩;obtain⟨o',es,ep,ho,hc,gf,r⟩:=dd;rw[h1]at ho;cases ho;refine⟨o,es,h1,hc,?_,r⟩;unfold Jbn;rw[gf]
theorem Inv.freeze(I:Inv X aa U H s)(e:H a=some (.l ah)):∃o,Inv X aa U (upd H a (.frz o (.l ah))) s:=by
 obtain⟨z,hd,vs,aO,dd⟩:=(show ah.length<=sizeLine/\(a==sysModules)=false/\∃vs,KV ah vs/\s.heap.DictOf (AR X.prog X.w) a vs from((show A2 X.prog X.w H s.heap a (.l ah)from I.z9 a _ e)))
 obtain⟨o,es,ep,ho,r⟩:=id dd;exact⟨o,I.write (by rw[e];exact True.intro) (.inl rfl) (λ_ _ _ z=>z) ⟨o,ho⟩ ⟨ho,z,hd,vs,aO,dd⟩⟩
end
theorem Mo{P:Program}{w:World}{K:Fg}{tg:Expr}(a it:Addr)(o:Obj)(ah:List (Key×V)):Turn P w K tg (Itd a o ah) [it] it (λi h=>h.IsKeyIter it a i ah.length (Jbn o)) where
 mem:=by simp
 obj:=λi h st b hb=>by
  have e:b=it:=by simpa using hb
  subst e;obtain⟨o,e,c,d⟩:=st;exact⟨o,e,λv z=>by rw[d]at z;cases z⟩
 keep:=λi h h' st k=>by obtain⟨o,e,r⟩:=st;exact⟨o,k it (by simp) o e,r⟩
 item:=by
  intro X hP hw hK hc i aa s U H E I hf st hg;subst hP hw hK;obtain⟨he,hi⟩:=hg;obtain⟨hd,vs,aO,da⟩:=I.Ja7 he;have hl:=aO.length;have eD:i<vs.length:=by lia
  obtain⟨f0,f1,f2,f3,f4,f5⟩:=hf it (by simp);have hx:vs[i]?=some ((vs[i]).1,(vs[i]).2):=sS eD;rw[hl]at st;refine wpAny_pyNext_dict_item st da hx λkey h' hk dN sb=>?_
  rw[<- hl]at dN;have I1:Inv X aa U H {s with heap:=h' }:=I.turned (t':=s.toks) (λb o hb e=>(sb.2 b hb).trans e) f0 f1 f3 f4 f5;obtain⟨o',e,c,d⟩:=id dN;have mH:(ah.map (·.1))[i]?=some (vs[i]).1:=by
   have:ah.map (·.1)=vs.map (·.1):=by
    clear hx eD hl da st hk dN sb I1 e c d he hi;unfold KV at aO
    induction aO with|nil=>rfl|cons h t ih=>rw[sX,sX,h.1,ih]
   rw[this,tR,sS eD];rfl
  exact⟨key,rfl,P2 (s:={s with heap:=h' }) e c d (by decide) ⟨kV (vs[i]).1,H,I1,V4 hk,⟨rfl,_,mH,rfl⟩,dN,λb hb=>(hf b hb).1⟩⟩
 done:=by intro X hP hw hK hc i aa s U H E I hf st hg;subst hP hw hK;obtain⟨he,hi⟩:=hg;obtain⟨hd,vs,aO,da⟩:=I.Ja7 he;have hl:=aO.length;obtain⟨f0,f1,f2,f3,f4,f5⟩:=hf it (by simp);rw[hl]at st;exact wpAny_pyNext_dict_end (I.ok.hd hc) st da (vh (by lia)) λh' eb=>⟨rfl,I.turned (t':=s.toks) (λb o hb e=>eb b o hb e) f0 f1 f3 f4 f5⟩
 self:=λ_ _ _ _ _ st h=>wpAny_pyIter_keyiter st h
section
variable{X:Cx}{tg:Expr}
end
section
variable{X:Cx}
theorem FU(hc:X.calm=true):BU X (.type "list") (λxs H Q=>∃p ah,xs=[.ref p]/\Rd H p (.l ah)/\∀l,H l=none->Q (.ref l) (upd H l (.lst (ah.map λkv=>kV kv.1)))):=by
 intro aa s U H xs us Q I r h;obtain⟨p,ah,rfl,hp,q⟩:=h;obtain⟨u,rfl,rx⟩:=vals1 r;cases rx;obtain⟨z,hd,vs,aO,dd⟩:=IQ I.z9 hp;obtain⟨ep,da⟩:=dd.dictAt;refine PySem.W.kdl_call (PySem.W.kdl_dict hd) (I.ok.hd hc) da (by rwa[<- (Paired.length aO)]) λh' tk ax c' kp e km=>?_
 refine⟨.ref s.heap.objs.size,_,I.laid kp (tJ _) (show A2 X.prog X.w _ h' _ (.lst (ah.map λkv=>kV kv.1))from⟨by rw[tf];exact z,ax.toList,c',Mh aO km,by simpa using e⟩),rfl,q _ (I.z9.fresh (tJ _))⟩
theorem LU:BU X (.builtin "len") (λxs H Q=>∃a ah,xs=[V.ref a]/\Rd H a (.l ah)/\Q (.int ah.length) H):=by intro aa s U H xs us Q I r h;obtain⟨a,ah,rfl,ha,q⟩:=h;obtain⟨u,rfl,ru⟩:=vals1 r;cases ru;exact Jbs I ha λt s' I'=>⟨.int ah.length,H,I',⟨t,rfl⟩,q⟩
end
section
variable{X:Cx}{aa:List (Addr×Obj)}{U:St}{H:Hp}{s:Shared}
theorem LW:BU X (.type "dict") (λxs H Q=>∃a ah,xs=[.ref a]/\Rd H a (.l ah)/\∀l,H l=none->Q (.ref l) (upd H l (.l ah))):=by intro aa s U H xs us Q I r h;obtain⟨a,ah,rfl,ha,q⟩:=h;obtain⟨u,rfl,rx⟩:=vals1 r;cases rx;exact Qu I ha λp s' hp I'=>⟨.ref p,_,I',rfl,q p hp⟩
end
section
variable{X:Cx}{tg:Expr}
def Xs(td:TE):TI:=λU H R=>td U H λx H1=>∃a ah,x=.ref a/\((H1 a=some (.l ah)/\∀o,R (Itd a o ah) (upd H1 a (.frz o (.l ah))))\/∃o,H1 a=some (.frz o (.l ah))/\R (Itd a o ah) H1)
theorem Pc{l:Expr}{td:TE}(hl:PE X l td):PI X tg l (Xs td):=by
 intro aa s U H R I h;refine thn (hl aa s U H _ I h) λv s1 ao=>?_
 obtain⟨x,H1,I1,r1,q1⟩:= ao;obtain⟨a,ah,e,hq⟩:=q1;subst e;cases r1
 suffices key:∃(o:Obj)(H2:Hp),Inv X aa U H2 s1/\H2 a=some (.frz o (.l ah))/\R (Itd a o ah) H2 by
  obtain⟨o,H2,I2,h2,q⟩:=key;obtain⟨hd,vs,aO,da⟩:=I2.Ja7 h2;have hlen:=aO.length;refine wpAny_pyIter_dict hd da ?_;refine⟨s1.heap.objs.size,[s1.heap.objs.size],_,_,_,rfl,I2.kept (t':=s1.toks) λb o e=>sR _ e,Mo a _ o ah,⟨_,tq _ rfl,rfl,by rw[hlen];rfl⟩,λb hb=>?_,q⟩;have e:b=s1.heap.objs.size:=by simpa using hb
  subst e;exact I2.RD (tJ _) (I2.z9.fresh (tJ _))
 rcases hq with⟨hq,q⟩|⟨o,hq,q⟩
 .obtain⟨o,I2⟩:=I1.freeze hq;exact⟨o,_,I2,Am,q o⟩
 .exact⟨o,H1,I1,hq,q⟩
def tFrz(td:TE):TE:=λU H Q=>td U H λx H1=>∃a ah,x=.ref a/\H1 a=some (.l ah)/\∀o,Q (.ref a) (upd H1 a (.frz o (.l ah)))
theorem Rc{e:Expr}{td:TE}(h:PE X e td):PE X e (tFrz td):=by
 intro aa s U H Q I q;refine thn (h aa s U H _ I q) λv s1 ao=>?_
 obtain⟨x,H1,I1,r1,a,ah,ex,hq,q⟩:= ao;subst ex;cases r1;obtain⟨o,I2⟩:=I1.freeze hq;exact⟨.ref a,_,I2,rfl,q o⟩
end
end L2
namespace L2
open PySem PySem.Spec PyProof.Rows PySem.W
theorem Nc:∀(K:Fg),(K.map (·.1)).map h.get?=K.map (λp=>some p.2)->K.In h
 | [],_=>λa o e=>by cases e
 |p::K,hk=>λa o e=>by
  simp only[sX,List.cons.injEq]at hk;rw[ug]at e;by_cases q:a=p.1
  .subst q;rw[show(p.1==p.1)=true by simp]at e;cases e;exact hk.1
  .rw[show(a==p.1)=false by simpa using q]at e;exact Nc K hk.2 a o e
end L2
namespace L2
open PySem PySem.Spec PyProof.Rows
def ExT(h:Heap)(vs:Array Value)(a:Addr)(fl:Value):Option Addr->Prop
 |none=>vs[1]?=some .none
 |some T=>vs[1]?=some (.ref T)/\T≠a/\∃oT ts,h.get? T=some oT/\oT.data=.fields ts/\ts[3]?=some fl
inductive QP(h:Heap)(a:Addr)(c:Value)(T:Option Addr)(fl:Value):Prop
 |mk (oe:Obj) (vs:Array Value) (h0:h.get? a=some oe) (h1:oe.cls=c) (h2:oe.dict=none) (h3:oe.data=.fields vs) (h4:ExT h vs a fl T)
theorem Obj.N5(o:Obj)(f:Array Value->Array Value):(o.mapFields f).dict=o.dict:=by obtain⟨_,_,dt,_⟩:=o;cases dt<;>rfl
section
variable{M:Model}{A:Around}{E:Value->Shared->Prop}{s:Shared}
theorem KU
  (gH:A.frames=some (env::outer)) (hl:s.heap.FunFrames base (env::outer)) (hf:env.frame=some L) (he:s.heap.get? e=some oe) (gg:oe.dict=none) (hd:oe.data=.fields vs) (hsz:1<vs.size)
  (h:∀h' T,s.heap.objs.size<=T->(∀b o,s.heap.get? b=some o->b∉frs (env::outer)->b≠e->h'.get? b=some o)->(∀b o,s.heap.get? b=some o->b∈frs (env::outer)->∃sl,h'.get? b=some {o with slots:=sl}) ->
   QP h' e oe.cls (some T) (rawInt L)->Q () {s with heap:=h' }) :
  wpAny M A (do let a <- frameOf env;let pl <- entryPlaceOf L hadNext;let b <- EntryCells.newEntry head a .none (rawInt L) .none pl;setField (.ref e) 1 b) Q E s:=by
 have nE:e∉(env::outer).filterMap (·.frame):=λhm=>by obtain⟨_,o,ho,gm⟩:=hl.mem hm;rw[he]at ho;injection ho with ho;subst ho;exact gm vs hd
 refine sQ (wpAny_frameOf_fun gH hl hf λaB bp=>?_);refine sQ (wpAny_entryPlaceOf λpl aI=>?_);refine sQ (wpAny_newObj_type ?_ (aI.sizeOk5 _ _ _ _ _));have gG:=(bp.2.1 e nE).trans he;have dW:=sR {cls:=.type "traceback",dict:=none,data:=.fields ([head,.ref L,.none,rawInt L,.none]++(if pl.isEmpty then List.replicate 6 Value.none else pl)).toArray} gG;refine wpAny_setField dW hd hsz ?_;have g7:=vw (tj gG);have gF:=Obj.data_mapFields hd (·.setIfInBounds 1 (Value.ref aB.objs.size));have keep:∀b o,b≠e->aB.get? b=some o ->
   ((aB.push {cls:=.type "traceback",dict:=none,data:=.fields ([head,.ref L,.none,rawInt L,.none]++(if pl.isEmpty then List.replicate 6 Value.none else pl)).toArray}).update e (Obj.mapFields (·.setIfInBounds 1 (Value.ref aB.objs.size)))).get? b=some o:=λb o fm hb=>by
  rw[uG _ _ (Ne.symm fm)];exact sR _ hb
 refine h _ aB.objs.size (by rw[bp.1];exact tJ _) (λb o hb hn fm=>keep b o fm ((bp.2.1 b hn).trans hb)) (λb o hb hn=>?_) ?_
 .obtain⟨sl,q⟩:=bp.2.2 b o hb;exact⟨sl,keep b _ (λz=>nE (by rwa[<- z])) q⟩
 .exact⟨_,_,(vi (Obj.mapFields (·.setIfInBounds 1 (Value.ref aB.objs.size))) dW (Obj.isFreed_of_fields gF)),Obj.cls_mapFields _ _,(Obj.N5 _ _).trans gg,gF,by simp[hsz],g7,_,_,((uG (aB.push {cls:=.type "traceback",dict:=none,data:=.fields ([head,.ref L,.none,rawInt L,.none]++(if pl.isEmpty then List.replicate 6 Value.none else pl)).toArray})
  (Obj.mapFields (·.setIfInBounds 1 (Value.ref aB.objs.size))) (Ne.symm g7)).trans (tq aB rfl)),rfl,by first|(simp;done)|(rcases aI with rfl|⟨_,_,_,_,_,_,_,rfl⟩<;>simp)⟩
end
structure Ou(X:Cx):Prop where
 pn:X.pn=[]
 ex:X.ex=[]
 st:X.stack=X.env::X.outer
 fr:X.env.frame=some X.env.locals
theorem A2.get(x:A2 P w H h a o):∃u,h.get? a=some u:=by cases o with|lst xs=>obtain⟨_,_,_,_,e⟩:=x;exact⟨_,e⟩|tup xs=>obtain⟨_,_,_,ob,e,_⟩:=x;exact⟨_,e⟩|l ah=>obtain⟨_,_,_,_,o,_,_,e,_⟩:=x;exact⟨_,e⟩|dT ah=>obtain⟨_,_,_,_,o,_,_,e,_⟩:=x;exact⟨_,e⟩|set S n=>obtain⟨o,_,_,_,e,_⟩:=x;exact⟨_,e⟩|ins C dx fs=>obtain⟨_,_,_,e,_⟩:=x;exact⟨_,e⟩|own y=>obtain⟨_,e⟩:=x;exact⟨_,e⟩|xd fs=>obtain⟨_,⟨_,_,_,e,_⟩,_⟩:=x;exact⟨_,e⟩|yP lo hi=>obtain⟨_,_,_,e⟩:=x;exact⟨_,e⟩|frz ob u=>obtain⟨e,_⟩:=x;exact⟨_,e⟩|zf ps=>exact⟨_,(show h.get? a=some _ from x)⟩|met f y=>exact⟨_,(show h.get? a=some _ from x)⟩|ext φ=>obtain⟨_,⟨_,e⟩,_⟩:=x;exact⟨_,e⟩
theorem HOk.none(x:HOk P w H h)(e:h.get? a=none):H a=none:=by cases q:H a with|none=>rfl|some u =>obtain⟨o,z⟩:=(x a u q).get;rw[e]at z;cases z
section
variable{X:Cx}{U:St}{H:Hp}{s:Shared}{h':Heap}{ch:List Addr}
theorem Inv.kp(I:Inv X aa U H s)(h8:X.pn=[])(k:∀b o,s.heap.get? b=some o->b∉frs X.stack->b∉ch->h'.get? b=some o)(sl:∀b o,s.heap.get? b=some o->b∈frs X.stack->∃sl,h'.get? b=some {o with slots:=sl})
  (nc:∀b∈ch,X.zZ.heap.get? b=none/\H b=none/\∃o vs,s.heap.get? b=some o/\o.data=.fields vs):Inv X [] U H {s with heap:=h' }:=by
 have any:=λb o e n=>by
  by_cases hb:b∈frs X.stack
  .exact sl b o e hb
  .exact⟨o.slots,k b o e hb n⟩
 have n0:∀b o,X.zZ.heap.get? b=some o->b∉ch:=λb o e z=>by have:=(nc b z).1;rw[e]at this;cases this
 have nf:∀b o,s.heap.get? b=some o->(∀vs,o.data≠.fields vs)->b∉ch:=λb o e hd z=>by obtain⟨_,_,o',vs,e',d⟩:=nc b z;rw[e]at e';cases e';exact hd vs d
 have c8:∀x c,X.env.cells.lookup x=some c->∀v,s.heap.IsCell c v->h'.IsCell c v:=λx c e v ⟨o,ho,hd⟩=>by obtain⟨l,q⟩:=any c o ho (nf c o ho λvs z=>by rw[hd]at z;cases z);exact⟨_,q,hd⟩
 refine⟨I.ok,I.os,I.bare,⟨λb o e n hb hx=>?_,λb o e n hb hx=>?_,I.base.free,λb o e hx=>?_,I.base.zL,I.base.zV,I.base.zN⟩,?_,λx c e=>?_,I.free,I.zX,λp hp=>?_,λb u e=>?_,I.len⟩
 .refine k b o (I.base.keep b o e n hb hx) (λz=>?_) (n0 b o e);rcases tH.mp (I.HS b z)with z|z
  .exact tN (tE (tj e) I.ok.above) z
  .exact hb z
 .obtain⟨l,e1⟩:=I.base.slot b o e n hb hx;obtain⟨l',e2⟩:=any b _ e1 (n0 b o e);exact⟨l',e2⟩
 .obtain⟨o',e1⟩:=I.base.there b o e hx;obtain⟨l',e2⟩:=any b _ e1 (n0 b o e);exact⟨_,e2⟩
 .obtain⟨m,⟨o,es,ep,ho,hd,r⟩,hl⟩:=I.loc;obtain⟨l,q⟩:=any _ o ho (nf _ o ho λvs z=>by rw[hd]at z;cases z);refine⟨m,⟨_,es,ep,q,hd,r⟩,λi x v e1 e2 e3=>?_⟩;obtain⟨u,rv,z⟩:=hl i x v e1 e2 e3;refine⟨u,rv,?_⟩;rcases z with z|⟨kk,c,e,z⟩
  .exact .inl z
  .exact .inr ⟨kk,c,e,c8 x c e _ z⟩
 .obtain⟨v,z⟩:=I.cell x c e;exact⟨v,c8 x c e v z⟩
 .rw[h8]at hp;cases hp
 .have nn:∀c,(c=b\/H c=some (.own b))->H c≠none:=λc hc z=>by
   rcases hc with rfl|hc
   .rw[z]at e;cases e
   .rw[z]at hc;cases hc
  exact(I.z9 b u e).Mt (λc v hc q=>k c v q (λz=>nn c hc (I.Jw c z)) λz=>nn c hc (nc c z).2.1) (λ_ q=>q) λ_ _ q=>q
theorem Inv.new(I:Inv X aa U H s)(D:X.ex=[])(e:s.heap.get? b=none):X.zZ.heap.get? b=none/\H b=none:=by refine⟨?_,I.z9.none e⟩;cases q:X.zZ.heap.get? b with|none=>rfl|some o =>obtain⟨o',z⟩:=I.base.there b o q (by rw[D];simp);rw[e]at z;cases z
end
section
variable{X:Cx}{U:St}{H:Hp}{s:Shared}{a:Addr}{c fl:Value}{T:Option Addr}{M:Model}{A:Around}{E:Value->Shared->Prop}{Q:Unit->Shared->Prop}
def Y5(X:Cx)(H:Hp)(a:Addr)(T:Option Addr):Prop:=∀b,b=a\/T=some b->X.zZ.heap.get? b=none/\H b=none
theorem QP.there(e:QP s.heap a c T fl):∀b,b=a\/T=some b->∃o vs,s.heap.get? b=some o/\o.data=.fields vs:=by
 obtain⟨oe,vs,h1,h2,h3,h4,h5⟩:=e;intro b hb;rcases hb with rfl|rfl
 .exact⟨oe,vs,h1,h4⟩
 .obtain⟨_,_,oT,ts,q1,q2,_⟩:=h5;exact⟨oT,ts,q1,q2⟩
theorem JL(D:Ou X)(gH:A.frames=some X.stack)(I:Inv X [] U H s)(e:QP s.heap a c T fl)(qp:fl=.none\/fl=rawInt X.env.locals)(nw:Y5 X H a T)
  (h:∀h' T',QP h' a c (some T') (rawInt X.env.locals)->Y5 X H a (some T')->Inv X [] U H {s with heap:=h' }->Q () {s with heap:=h' }):wpAny M A (noteFrame (.ref a) X.env) Q E s:=by
 have hl:=I.stack;rw[D.st]at gH hl;obtain⟨oe,vs,he,cn,gg,hd,ht⟩:=id e;subst cn;unfold noteFrame;simp only[D.fr];cases T with
 |none =>
  refine sQ (tZ he hd ht ?_);refine KU gH hl D.fr he gg hd (uV.mp ht).1 λh' T' q1 q2 q3 q4=>?_
  have nT:=I.new D.ex (Heap.get?_none_of_le q1);refine h h' T' q4 (λb hb=>hb.elim (λz=>nw b (.inl z)) λz=>by cases z;exact nT) (I.kp (ch:=[a]) D.pn (λb o x y z=>q2 b o x (by rwa[<- D.st]) λw=>z (by simp[w])) (λb o x y=>q3 b o x (by rwa[<- D.st])) λb hb=>?_);rw[tD.mp hb];exact⟨(nw a (.inl rfl)).1,(nw a (.inl rfl)).2,oe,vs,he,hd⟩
 |some T =>
  obtain⟨h1,g7,oT,ts,hT,gd,h3⟩:=ht;refine sQ (tZ he hd h1 ?_);refine sQ (tZ hT gd h3 ?_);rcases qp with rfl|rfl
  .rw[if_neg (show ¬((Value.none==rawInt X.env.locals)=true)from by simp[rawInt])];refine sQ (wpAny_setField hT gd (uV.mp h3).1 ?_);have other:∀b,b≠T->(s.heap.update T (Obj.mapFields (·.setIfInBounds 3 Value.none))).get? b=s.heap.get? b:=λb hb=>uG _ _ (Ne.symm hb)
   have rl:T∉frs X.stack:=λhm=>by obtain⟨_,o,ho,gm⟩:=I.stack.mem hm;rw[hT]at ho;injection ho with ho;subst ho;exact gm ts gd
   refine KU gH (hl.of_keeps λb o hb gm=>⟨o,(other b ((λb o hb gm q=>by rw[q,hT]at hb;injection hb with hb;subst hb;exact gm ts gd) b o hb gm)).trans hb,rfl⟩) D.fr ((other a (Ne.symm g7)).trans he) gg hd (uV.mp h1).1 λh' T' q1 q2 q3 q4=>?_
   have nT:=I.new D.ex (Heap.get?_none_of_le (by have:(s.heap.update T (Obj.mapFields (·.setIfInBounds 3 Value.none))).objs.size=s.heap.objs.size:=Heap.size_after_update ..;rwa[<- this]));refine h h' T' q4 (λb hb=>hb.elim (λz=>nw b (.inl z)) λz=>by cases z;exact nT) (I.kp (ch:=[a,T]) D.pn (λb o x y z=>?_) (λb o x y=>?_) λb hb=>?_)
   .exact q2 b o ((other b λw=>z (by simp[w])).trans x) (by rwa[<- D.st]) λw=>z (by simp[w])
   .exact q3 b o ((other b λw=>rl (by rwa[<- w])).trans x) (by rwa[<- D.st])
   .have ko:b=a\/some T=some b:=by
     rcases tH.mp hb with z|z
     .exact .inl z
     .exact .inr (by rw[tD.mp z])
    exact⟨(nw b ko).1,(nw b ko).2,e.there b ko⟩
  .rw[if_pos (show(rawInt X.env.locals==rawInt X.env.locals)=true from by simp)];exact sV (h s.heap T e nw I)
theorem D1(h8:X.pn=[])(I:Inv X [] U H s)(e:QP s.heap a c T fl)(nw:Y5 X H a T)
  (h:∀h',QP h' a c T (f.elim .none λf=>rawInt f)->Inv X [] U H {s with heap:=h' }->Q () {s with heap:=h' }):wpAny M A (setFlight (.ref a) f) Q E s:=by
 obtain⟨oe,vs,he,cn,gg,hd,ht⟩:=id e;cases T with
 |none =>refine sQ (tZ he hd ht ?_);exact sV (h s.heap ⟨oe,vs,he,cn,gg,hd,ht⟩ I)
 |some T =>
  obtain⟨h1,g7,oT,ts,hT,gd,h3⟩:=ht;have hsz:=(uV.mp h3).1;refine sQ (tZ he hd h1 ?_);have other:∀b,b≠T->(s.heap.update T (Obj.mapFields (·.setIfInBounds 3 (f.elim Value.none λf=>rawInt f)))).get? b=s.heap.get? b:=λb hb=>uG _ _ (Ne.symm hb)
  refine wpAny_setField hT gd hsz (h _ ⟨oe,vs,(other a (Ne.symm g7)).trans he,cn,gg,hd,h1,g7,_,_,vi _ hT (Obj.isFreed_of_fields (Obj.data_mapFields gd _)),Obj.data_mapFields gd _,by simp[hsz]⟩ (I.kp (ch:=[T]) h8 (λb o x _ z=>(other b λw=>z (by simp[w])).trans x) (λb o x y=>?_) λb hb=>?_))
  .refine⟨o.slots,(other b λw=>?_).trans x⟩;obtain⟨_,o',bC,gm⟩:=I.stack.mem y;rw[w,hT]at bC;injection bC with bC;subst bC;exact gm ts gd
  .rw[tD.mp hb];exact⟨(nw T (.inr rfl)).1,(nw T (.inr rfl)).2,e.there T (.inr rfl)⟩
end
abbrev XE:=Value->St->Hp->Prop
inductive XW(X:Cx)(Z:XE)(e:Value)(s:Shared):Prop
 |mk (a:Addr) (c:Value) (T:Option Addr) (fl:Value) (U:St) (H:Hp) (h0:e=.ref a) (h1:Inv X [] U H s) (h2:QP s.heap a c T fl) (h3:fl=.none\/fl=rawInt X.env.locals) (h4:Y5 X H a T) (h5:Z c U H)
inductive CX1(P:Program)(w:World)(outer:List Env)(H:Hp)(s:Shared)(E:XK)(e:Value)(s':Shared):Prop
 |mk (a:Addr) (c:Value) (T:Option Addr) (H':Hp) (h0:e=.ref a) (h1:s'.os=s.os) (h2:AllBare s'.gens) (h3:Un (frs outer) [] H H' s.heap s'.heap) (h4:HOk P w H' s'.heap) (h5:QP s'.heap a c T .none) (h6:∀b,b=a\/T=some b->s.heap.get? b=none/\H' b=none) (h7:E c none H')
section
variable{X:Cx}{Z Z':XE}{e:Value}{s s':Shared}{aa:List (Addr×Obj)}{U:St}{H:Hp}
theorem XW.imp(h:XW X Z e s)(k:∀c U H,Z c U H->Z' c U H):XW X Z' e s :=
 let⟨a,c,T,fl,U,H,q1,q2,q3,q4,q5,q6⟩:=h
 ⟨a,c,T,fl,U,H,q1,q2,q3,q4,q5,k _ _ _ q6⟩
theorem XW.E3(h:XW (X.E3 E) Z e s):XW X Z e s :=
 let⟨a,c,T,fl,U,H,q1,q2,q3,q4,q5,q6⟩:=h
 ⟨a,c,T,fl,U,H,q1,q2.Dr,q3,q4,q5,q6⟩
theorem CX1.xw(D:X.ex=[])(I:Inv X aa U H s)(h:CX1 X.prog X.w X.stack H s (λc _ H'=>Z c U H') e s'):XW X Z e s':=by obtain⟨a,c,T,H',rfl,q1,q2,q3,q4,q5,q6,q7⟩:=h;exact⟨a,c,T,.none,U,H',rfl,(I.YM q1 q3 q4 q2 λb z=>absurd z (by simp)).Hj λ_ z=>absurd z (by simp),q5,.inl rfl,λb hb=>⟨(I.new D (q6 b hb).1).1,(q6 b hb).2⟩,q7⟩
theorem XW.own(D:Ou X):PassesOwn (model X.prog X.w) X.A X.env (XW X Z):=by
 intro e s' h;obtain⟨a,c,T,fl,U,H,rfl,I,q3,q4,q5,q6⟩:=h;refine JL D I.ok.frames I q3 q4 q5 λh1 T1 e1 n1 I1=>?_
 obtain⟨oe,vs,he,hc,gg,hd,ht⟩:=id e1;refine sQ (tZ he hd ht.1 ?_);rw[D.fr];exact D1 D.pn I1 e1 n1 λh2 e2 I2=>⟨a,c,some T1,rawInt X.env.locals,U,H,rfl,I2,e2,.inr rfl,n1,q6⟩
end
section
variable{P:Program}{w:World}{K:Fg}{mg:Str->Option Value}{base:Heap}{N:List Str}{qual:Str}{scope:Scope}{f:Addr}{cd:Value}{A:Around}{outer:List Env}{s:Shared}{H:Hp}{E:XK}
theorem YD:Ou (LS (CX1 P w) P w K mg base N qual scope f cd A outer s H E):=⟨rfl,rfl,rfl,rfl⟩
theorem Y9(h:XW (LS (CX1 P w) P w K mg base N qual scope f cd A outer s H E) (λc _ H'=>E c none H') e s'):(LS (CX1 P w) P w K mg base N qual scope f cd A outer s H E).xe e s':=by
 obtain⟨a,c,T,fl,U,H',rfl,I,q3,q4,q5,q6⟩:=h;show wpAny _ _ (leaving (LS (CX1 P w) P w K mg base N qual scope f cd A outer s H E).env (.ref a)) _ _ s';refine sQ (JL YD I.ok.frames I q3 q4 q5 λh1 T1 e1 n1 I1=>?_);refine D1 rfl I1 e1 n1 λh2 e2 I2=>?_
 exact⟨a,c,some T1,H',rfl,I2.os,I2.bare,I2.base,I2.z9,e2,n1,q6⟩
end
def Lk(X:Cx)(Z:XE):Prop:=∀(aa:List (Addr×Obj))(U:St)(H:Hp)(s:Shared)(e:Value)(s':Shared),Inv X aa U H s->CX1 X.prog X.w X.stack H s (λc _ H'=>Z c U H') e s'->X.xe e s'
theorem Lk.of(D:X.ex=[])(k:∀e s,XW X Z e s->X.xe e s):Lk X Z:=λ_ _ _ _ _ _ I h=>k _ _ (CX1.xw D I h)
section
variable{X:Cx}{k:Nat}{f C:Addr}{fd:FuncData}{ps:List Str}{sp:Sp}{Z:XE}{x m:Str}{p pos aA:Pos}{e o:Expr}{es:List Expr}{ta:TE}{t:TA}
def VQ(sp:Sp)(Z:XE)(t:TA):TE:=λU H Q=>t U H λvs H1=>sp vs H1 Q λc _ H'=>Z c U H'
theorem My(F:Dn X.prog X.w X.K X.mg X.base (CX1 X.prog X.w) k f fd ps sp)(hr:Df k X.A)(hb:Binds X.K fd ps [])(hx:Lk X Z)
  (I:Inv X aa U H s) (r:Vals vs us) (h:sp vs H Q λc _ H'=>Z c U H'):wpAny (model X.prog X.w) X.A (call (.ref f) us) (EP X aa U Q) X.xe s:=by
 have b:=hb s us I.kIn (by rw[ud];exact(by rw[<- r.length];exact F.len _ _ _ _ h));rw[ud]at b;refine wpAny_call (codeAny_mono (F.run X.A X.stack s H ⟨us,[]⟩ us vs Q _ hr I.Jbo b r h) λr s' hq=>?_);cases r with|error e=>exact hx aa U H s e s' I hq|ok fl =>cases fl with|ret u=>exact I.after hq|next=>exact False.elim hq|brk=>exact False.elim hq|cont=>exact False.elim hq
theorem WH(G:FnAt X.prog X.w X.K X.mg X.base (CX1 X.prog X.w) x k ps sp)(hr:Df k X.A)(hx:Lk X Z)(ha:PA X (e::es) t)(hg:Gl X x:=by rfl)(aR:(x==("__debug__":Str))=false:=by decide)
  (he:starEach (e::es) X.env=(false,eval e X.env)::starEach es X.env:=by rfl) (aI:(backTo pos (starEach es X.env)).any (·.1)=false:=by rfl):PE X (.Call (.Name x p) (e::es) [] pos) (VQ sp Z t):=by
 obtain⟨f,fd,F,hm,hk,hb⟩:=G.ex;intro aa s U H Q I h;refine wpAny_Call_Name_kw (Eg I hg hm ?_ aR);refine callWith_K I.ok.mod.yX hk (thn (ha pos aa s U H _ I h) λus s1 ⟨vs,H1,I1,r,q⟩=>⟨I1.kIn,?_⟩) he aI;exact My F hr hb hx I1 r q
end
noncomputable def Vj:List Value:=[.type "ValueError",.type "Exception",.type "BaseException",.type "object"]
structure ExC(K:Fg)(mg:Str->Option Value)(x:Str)(C:Addr):Prop where
 at_:mg x=some (.ref C)
 ok:excIn K C Vj "ValueError.__new__"=true
def VL(C:Addr)(Z:XE)(t:TA):TS:=λ_ U H=>t U H λvs H1=>vs.length<=1000/\Z (.ref C) U H1
set_option tactic.hygienic true in
theorem ExC.own{K:Fg}(c:ExC K mg x C)(X:K.In h):OwnCls x C Vj "ValueError.__new__" mg h:=by
 refine⟨c.at_,?_⟩;have q:=c.ok;unfold excIn at q;split at q
 .rename_i dd cd sl ho;split at q
  .rename_i C' bm k0 k1 k2 k3 n k5 hm hs;simp only[tO,beq_iff_eq,Bool.not_eq_true']at q;obtain⟨⟨⟨⟨⟨rfl,rfl⟩,kx⟩,ht⟩,z9⟩,kK⟩:=q;obtain⟨nm,bs,mro,ns,qn,hd,sn,sub,ab,col,del⟩:=cd;subst hm kx;have qN:sl=#[k0,k1,k2,k3,some (.builtin "ValueError.__new__"),k5]:=by obtain⟨l⟩:=sl;simp only at hs;rw[hs]
   subst qN;exact⟨bm,ns,nm,qn,bs,hd,sn,sub,ab,col,dd,k0,k1,k2,k3,k5,_,X _ _ ho,.of_isNs (PySem.W.isNs_of_in X z9),PySem.W.nsMap_none_of_in X z9 kK,PySem.W.tail_of_in X ht⟩
  .cases q
 .cases q
section
variable{X:Cx}{C:Addr}{Z:XE}{x:Str}{np aD pos:Pos}{e:Expr}{es:List Expr}{t:TA}
theorem TL(D:X.ex=[])(I:Inv X aa U H s)(hm:Heap.MadeExcOf s.heap h' a (.ref C) us)(q:Z (.ref C) U H):XW X Z (.ref a) {s with heap:=h' }:=by
 obtain⟨t,ht,_,_⟩:=hm.there;refine⟨a,.ref C,none,.none,U,H,rfl,(I.kept hm.keeps).Hj λ_ z=>absurd z (by simp),⟨_,_,ht,rfl,rfl,rfl,rfl⟩,.inl rfl,λb hb=>?_,q⟩;rcases hb with rfl|hb
 .exact I.new D hm.new
 .cases hb
theorem O3(c:ExC X.K X.mg x C)(D:X.ex=[])(hc:X.calm=true)(hx:∀e s,XW X Z e s->X.xe e s)(ha:PA X (e::es) t)(hg:Gl X x:=by rfl)(aR:(x==("__debug__":Str))=false:=by decide)
  (he:starEach (e::es) X.env=(false,eval e X.env)::starEach es X.env:=by rfl) (aI:(backTo aD (starEach es X.env)).any (·.1)=false:=by rfl) :
  PS X (.Raise (some (.Call (.Name x np) (e::es) [] aD)) none pos) (VL C Z t):=by
 intro aa s U H D' I h;obtain⟨tl,N,nm,q,bs,hdct,sn,sub,ab,col,dd,k0,k1,k2,k3,k5,mN,hC,hN,kK,T⟩:=(c.own I.ok.mod.yX).obj;refine wpAny_Raise_call_subT (nm:=nm) (q:=q) (N:=N) (bs:=bs) (bm:=tl) (hdct:=hdct) (sn:=sn) (sub:=sub) (ab:=ab) (col:=col) (dd:=dd) (k0:=k0) (k1:=k1) (k2:=k2) (k3:=k3) (k5:=k5)
  PySem.F.excBase_ValueError (mN:=mN) (T.hasType PySem.F.excBase_ValueError.hasBase) (I.ok.hd hc) (by rw[he];show(false||(backTo aD (starEach es X.env)).any (·.1))=false;rw[aI];rfl) kK (Eg I hg c.at_ ⟨rfl,?_⟩ aR)
 have h1:=ha aD aa s U H _ I h;rw[he]at h1 ⊢;refine Calls.evalArgs_plain (thn h1 λus s2 ⟨vs,H1,I1,r,hl,hz⟩=>⟨rfl,?_,I1.bk _ _ hC,hN.keeps I1.bk,T.keeps I1.bk,λh' a hm=>hx _ _ (TL D I1 hm hz)⟩);rw[<- r.length,sizeLine_eq]
 lia
end
noncomputable def exO(c:Value)(a:Addr):HO:=.ext λh=>∃o vs,h.get? a=some o/\o.cls=c/\o.dict=none/\o.data=.fields vs
abbrev Cx.hand(X:Cx)(a:Addr):Cx:={X with A:=X.A.mark (some (.ref a)),calm:=false,xe:=λ_ _=>False}
section
variable{X:Cx}{aa:List (Addr×Obj)}{U:St}{H:Hp}{s:Shared}{a:Addr}
theorem Cx.Ok.hand(ok:X.Ok):(X.hand a).Ok :=
 ⟨ok.mod,ok.kind,ok.glob,ok.blt,ok.above,ok.inj,ok.has,ok.ze,(λz=>nomatch z),ok.frames,ok.yW,ok.yS,ok.bs,ok.zw,ok.zu,ok.zv,ok.KO,ok.zg⟩
theorem Inv.hand(I:Inv X aa U H s):Inv (X.hand a) aa U H s:=⟨I.ok.hand,I.os,I.bare,I.base,I.loc,I.cell,I.free,I.zX,I.pin,I.z9,I.len⟩
theorem Inv.Gx(ok:X.Ok)(I:Inv (X.hand a) aa U H s):Inv X aa U H s:=⟨ok,I.os,I.bare,I.base,I.loc,I.cell,I.free,I.zX,I.pin,I.z9,I.len⟩
theorem Inv.ZZ(I:Inv X [] U H s)(h8:X.pn=[])(h0:X.zZ.heap.get? a=none)(hn:H a=none)(hf:∃u vs,s.heap.get? a=some u/\u.data=.fields vs)(new:A2 X.prog X.w (upd H a o) s.heap a o):Inv X [] U (upd H a o) s:=by
 obtain⟨u,vs,hu,hd⟩:=hf;refine⟨I.ok,I.os,I.bare,⟨I.base.keep,I.base.slot,λb o e n hx=>?_,I.base.there,λb xs e=>?_,λb o u e=>?_,λb ps e=>?_⟩,I.loc,I.cell,?_,λx c e=>?_,λp hp=>?_,λb u e=>?_,I.len⟩
 .rw[Aj ((λb u e z=>by rw[z,h0]at e;cases e) b o e)];exact I.base.free b o e n hx
 .have q:=I.base.zL b xs e;rwa[Aj (A4 q hn)]
 .have q:=I.base.zV b o u e;rwa[Aj (A4 q hn)]
 .obtain⟨more,q⟩:=I.base.zN b ps e;exact⟨more,by rwa[Aj (A4 q hn)]⟩
 .rw[Aj]
  .exact I.free
  .intro z;obtain⟨m,⟨o',_,_,bC,fZ,_⟩,_⟩:=I.loc;rw[z,hu]at bC;cases bC;rw[hd]at fZ;cases fZ
 .rw[Aj]
  .exact I.zX x c e
  .intro z;obtain⟨v,o',bC,fZ⟩:=I.cell x c e;rw[z,hu]at bC;cases bC;rw[hd]at fZ;cases fZ
 .rw[h8]at hp;cases hp
 .by_cases hb:b=a
  .subst hb;rw[Am]at e;cases e;exact new
  .rw[Aj hb]at e;exact(I.z9 b u e).Mt (λ_ _ _ q=>q) (λc q=>by rwa[Aj (A4 q hn)]) λc xs q=>by rwa[Aj (A4 q hn)]
theorem Hx(I:Inv X [] U H s)(h8:X.pn=[])(hN:X.N.Nodup)(hi:X.N[i]?=some n)(hl:X.env.scope.names.lookup n=some .local)
  (h:∀s',Inv X [] (U.set i none) H s'->Q () s'):wpAny M A (do bindName X.env n .none;unbindBehindTheSuite X.env n pos) Q E s:=by
 have cn:(X.env.scope.kind==.class||(X.env.scope.kind==.module&&X.env.locals !=X.env.globals))=false:=by rw[I.ok.kind];rfl
 have hk:X.env.kindOf n=some .local:=hl;refine sQ (wpAny_bindName (Dh I hN hi (.inl hl) (v:=V.o) rfl (λs1 I1=>?_) (.inr hl)));refine wpAny_onRaise ?_;refine sQ (wpAny_point (sQ ?_));unfold deleteName;simp only[hk,cn];obtain⟨m,hn,mJ⟩:=id I1.loc;have fu:i<U.length:=by rw[I.len];exact(sY.mp hi).1
 have qA:(m n).isSome=true:=by
  obtain⟨u,_,z⟩:=mJ i n V.o hi (by rw[um fu]) (.inl hl);rcases z with⟨_,z⟩|⟨z,_⟩
  .rw[z];rfl
  .rw[hk]at z;rcases z with z|z<;>cases z
 refine sQ (wpAny_nsDel_keeps hn λh2 v fL aW=>?_);simp only[qA,if_false];refine sV (wpAny_point ?_);have cne:=I1.cne;have iB:∀b o,X.zZ.heap.get? b=some o->b≠X.env.locals:=λb o e=>tN (tE (tj e) I.ok.above)
 have key:Inv X [] (U.set i none) H {s1 with heap:=h2}:=by
  refine⟨I1.ok,I1.os,I1.bare,⟨λb o e n hb hx=>(aW.2 b (iB b o e)).trans (I1.base.keep b o e n hb hx),λb o e n hb hx=>?_,I1.base.free,λb o e hx=>?_,I1.base.zL,I1.base.zV,I1.base.zN⟩,⟨_,fL,λj y v' e1 e2 e3=>?_⟩,λy c e=>?_,I1.free,I1.zX,λp hp=>?_,λb ob e=>?_,by simpa using I1.len⟩
  .obtain⟨sl,e1⟩:=I1.base.slot b o e n hb hx;exact⟨sl,(aW.2 b (iB b o e)).trans e1⟩
  .obtain⟨o',e1⟩:=I1.base.there b o e hx;exact⟨o',(aW.2 b (iB b o e)).trans e1⟩
  .by_cases hj:j=i
   .subst hj;rw[um fu]at e2;cases e2
   .rw[uq (Ne.symm hj)]at e2;obtain⟨u',r',q⟩:=mJ j y v' e1 (by rwa[uq (Ne.symm hj)]) e3;refine⟨u',r',?_⟩;rcases q with⟨k,e⟩|⟨k,c,e,z⟩
    .refine .inl ⟨k,?_⟩;have:y≠n:=λe=>hj (Hr hN e1 (e▸hi))
     simp[this,e]
    .exact .inr ⟨k,c,e,z.sameBut aW (cne y c e)⟩
  .obtain⟨w',z⟩:=I1.cell y c e;exact⟨w',z.sameBut aW (cne y c e)⟩
  .rw[h8]at hp;cases hp
  .refine(I1.z9 b ob e).Mt (λc w' hc q=>(aW.2 c ?_).trans q) (λ_ q=>q) λ_ _ q=>q
   rintro rfl
   rcases hc with rfl|hc
   .rw[I1.free]at e;cases e
   .rw[I1.free]at hc;cases hc
 first
  |exact h _ key
  |exact h _ (key.tok _)
end
def PS0(X:Cx)(st:Stmt)(t:TS):Prop:=∀(s:Shared)(U:St)(H:Hp)(D:Ends),Inv X [] U H s->t D U H->wpAny (model X.prog X.w) X.A (exec st X.env) (SP X [] D) X.xe s
def QN(X:Cx)(st:List Stmt)(t:TS):Prop:=∀(s:Shared)(U:St)(H:Hp)(D:Ends),Inv X [] U H s->t D U H->wpAny (model X.prog X.w) X.A (execs st X.env) (SP X [] D) X.xe s
section
variable{X:Cx}{st:Stmt}{rest:List Stmt}{t u:TS}
theorem PS.zero(h:PS X st t):PS0 X st t:=λs U H D I q=>h [] s U H D I q
theorem PSs.zero(h:PSs X rest t):QN X rest t:=λs U H D I q=>h [] s U H D I q
theorem MG(h1:PS0 X st t)(h2:QN X rest u):QN X (st::rest) (JbB t u):=by intro s U H D I h;refine wpAny_execs_cons (thn (h1 s U H {D with nx:=u D} I h) λf s1 q=>?_);cases f with|next =>obtain⟨av,H',I',q⟩:=q;exact h2 s1 av H' D I' q|ret v=>exact q|brk=>exact q|cont=>exact q
theorem QN.unw(h:QN (X.E3 E) rest t)(k:∀e s,E e s->X.xe e s):QN X rest t:=λs U H D I hw =>wpAny_mono (h s U H D (I.E3 _) hw) (λ_ _ q=>q.Dr) λe s z=>k e s z
end
theorem XR{K:Fg}{dV kV cV pm cdv ct oc:Value}{an od:Option Addr}
  {gT:Array (Option Value)} {N ps:List Str} {sp:Sp} (lk:K.lookup f=some ⟨oc,od,.func (fnOf name qual params body scope dV kV cV pm an cdv ct),gT⟩) (eC:codeIn K cdv qual=true) (S:HL N ps scope)
  (len:∀vs H Q E,sp vs H Q E->vs.length=ps.length)
  (fq:∀(A:Around)(outer:List Env)(s:Shared)(H:Hp)(vs:List V)(Q:VK)(E:XK),Df k (A.deeper (envOfC qual scope s.heap.objs.size f cdv))->sp vs H Q E ->
   ∃t,QN (LS CX P w K mg base N qual scope f cdv A outer s H E) body t/\t {nx:=λ_ H'=>Q .o H',rt:=Q} (start N vs) H) :
  Dn P w K mg base CX (k+1) f (fnOf name qual params body scope dV kV cV pm an cdv ct) ps sp:=by
 refine⟨len,λA outer s H args us vs Q E hr e0 hb r fM=>?_⟩;have KX:K.In s.heap:=e0.mod.yX.keeps λb o e=>(e0.bs b o e).1
 refine codeAny_call_function hr.depth (KX _ _ lk) rfl S.co S.gen rfl (PySem.W.codeRec_of KX eC) (hb _ _ _ _ ?_);refine wpAny_newFunctionEnv_cells S.kind (λ⟨n,v⟩ hy=>by
  rcases S.par n (u9 hy).1 with q|q
  .exact .inl q
  .exact .inr ⟨q,PySem.W.cellsFrom_some _ _ _ (.inl q)⟩) λenv he s1 x=>?_
 subst he;refine⟨(e0.mod.nolimit.keeps λb o e=>(e0.bs b o e).1).keeps x.toInCall.keep,codeAny_func ?_⟩;obtain⟨t,ht,hq⟩:=fq A outer s H vs Q E (hr.deeper _) fM;have I:Inv (LS CX P w K mg base N qual scope f cdv A outer s H E) [] (start N vs) H s1:=Nt S hr.hd e0 (len _ _ _ _ fM) r x;refine wpAny_mono (ht s1 (start N vs) H _ I hq) (λfl s' hs=>?_) λe s' hs=>hs
 have ba:∀{av:St}{H':Hp}{v:V}{u:Value},Inv (LS CX P w K mg base N qual scope f cdv A outer s H E) [] av H' s'->RelV v u->Q v H'->CE outer P w H s Q u s' :=
  λ{av H' v u} J rv q=>⟨v,H',J.os,J.bare,J.base,J.z9,rv,q⟩
 cases fl with|ret u =>obtain⟨v,av,H',J,rv,q⟩:=hs;exact ba J rv q|next =>obtain⟨av,H',J,q⟩:=hs;exact ba (v:=V.o) (u:=Value.none) J rfl q|brk =>obtain⟨_,_,_,q⟩:=hs;exact False.elim q|cont =>obtain⟨_,_,_,q⟩:=hs;exact False.elim q
theorem Fun.ok0{K:Fg}{mg:Str->Option Value}{base:Heap}{N:List Str}{qual:Str}{f:Addr}{x:Str}{st:Stmt}{fd:FuncData}{ps:List Str}{k:Nat}{sp:Sp}(F:Fun K x qual st f fd)(S:HL N ps (Bh st))(len:∀vs H Q E,sp vs H Q E->vs.length=ps.length)
  (fq:∀(cdv:Value)(A:Around)(outer:List Env)(s:Shared)(H:Hp)(vs:List V)(Q:VK)(E:XK),Df k (A.deeper (envOfC qual (Bh st) s.heap.objs.size f cdv))->sp vs H Q E ->
   ∃t,QN ((LS (CX1 P w) P w K mg base N qual (Bh st) f cdv A outer s H E).E3 (XW (LS (CX1 P w) P w K mg base N qual (Bh st) f cdv A outer s H E) λc _ H'=>E c none H')) (DB st) t/\t {nx:=λ_ H'=>Q .o H',rt:=Q} (start N vs) H) :
  Dn P w K mg base (CX1 P w) (k+1) f fd ps sp:=by
 obtain⟨oc,od,kV,cV,pm,an,cdv,ct,gT,rfl,lk,eC⟩:=F.ex;refine XR lk eC S len λA outer s H vs Q E hr fM=>?_
 obtain⟨t,h,q⟩:=fq cdv A outer s H vs Q E hr fM;exact⟨t,h.unw λ_ _=>Y9,q⟩
noncomputable def RU(i:Nat)(D:Ends):Ends:={nx:=λU H=>D.nx (U.set i none) H,rt:=D.rt,bk:=λU H=>D.bk (U.set i none) H,ct:=λU H=>D.ct (U.set i none) H}
def ZTry(K:Fg)(C:Addr)(i:Nat)(th:TS)(D:Ends):XE:=λc U H=>exmOne K c (.ref C)=some true/\∀a,H a=none->th (RU i D) (U.set i (some (.ref a))) (upd H a (exO c a))
section
variable{X:Cx}{C:Addr}{x n:Str}{i:Nat}{np pos eF:Pos}{body bz:List Stmt}{cK:Stmt}{tb:Ends->TS}{th:TS}
theorem SP.Gx(ok:X.Ok)(h:SP (X.hand a) [] D f s'):SP X [] D f s':=by cases f with|next=>obtain⟨av,H',I,q⟩:=h;exact⟨av,H',I.Gx ok,q⟩|brk=>obtain⟨av,H',I,q⟩:=h;exact⟨av,H',I.Gx ok,q⟩|cont=>obtain⟨av,H',I,q⟩:=h;exact⟨av,H',I.Gx ok,q⟩|ret u=>obtain⟨v,av,H',I,r,q⟩:=h;exact⟨v,av,H',I.Gx ok,r,q⟩
theorem SN(D:Ou X)(hC:X.mg x=some (.ref C))(hN:X.N.Nodup)(hb:∀D,PSs (X.E3 (XW X (ZTry X.K C i th D))) body (tb D))(hs:∀a,PSs (X.hand a) (cK::bz) th)(hi:X.N[i]?=some n:=by rfl)(hl:X.env.scope.names.lookup n=some .local:=by rfl)
  (hg:Gl X x:=by rfl) (aR:(x==("__debug__":Str))=false:=by decide) :
  PS0 X (.Try body [.ExceptHandler (some (.Name x np)) (some n) (cK::bz) eF] [] [] pos) (λD=>tb D D):=by
 intro s U H D' I h;refine wpAny_Try_except (wpAny_mono (hb D' [] s U H D' (I.E3 _) h) (λf s1 q=>?_) λe s1 q=>?_)
 .have q:=q.Dr;cases f with|next=>exact wpAny_execs_nil q|ret v=>exact q|brk=>exact q|cont=>exact q
 .obtain⟨a,c,T,fl,iC,H1,rfl,I1,e1,f1,n1,z1,z2⟩:=q;refine JL D I1.ok.frames I1 e1 f1 n1 λh2 T2 e2 n2 I2=>?_
  refine D1 D.pn I2 e2 n2 λh3 e3 I3=>?_
  refine wpAny_handleBy_cons (codeAny_handlers_test (Eg I3.hand hg hC ?_ aR)) (by intro q;cases q);obtain⟨oe,vs,he,cn,gg,hd,ht⟩:=id e3;refine PySem.W.Looks.here (PySem.W.exm_one I3.kIn (cn▸(PySem.W.Looks.ld he).andThen .now) z1) ?_;refine codeAny_handlers_suite_as ?_;refine D1 D.pn I3 e3 n2 λh4 e4 I4=>?_
  obtain⟨lh,nR,kC,iS,kA,mE,sC⟩:=id e4;have kJ:=n2 a (.inl rfl);have I5:Inv X [] iC (upd H1 a (exO c a)) {s1 with heap:=h4}:=I4.ZZ D.pn kJ.1 kJ.2 ⟨lh,nR,kC,mE⟩ ⟨⟨lh,nR,kC,iS,kA,mE⟩,⟨lh,kC⟩,λg1 g2 ⟨o,v,q1,q2⟩ k=>⟨o,v,k o q1,q2⟩⟩;refine Dh I5 hN hi (.inl hl) (v:=V.ref a) rfl (λs6 I6=>?_) (.inr hl);refine wpAny_mono (hs a [] s6 _ _ (RU i D') I6.hand (z2 a kJ.2)) (λf s7 q=>?_) λ_ _ z=>False.elim z
  have q:=q.Gx I.ok;cases f with
  |next =>obtain⟨av,H',I',q⟩:=q;exact Hx I' D.pn hN hi hl λs8 I8=>⟨_,_,I8,q⟩
  |ret u =>obtain⟨v,av,H',I',r,q⟩:=q;exact Hx I' D.pn hN hi hl λs8 I8=>⟨v,_,_,I8,r,q⟩
  |brk =>obtain⟨av,H',I',q⟩:=q;exact Hx I' D.pn hN hi hl λs8 I8=>⟨_,_,I8,q⟩
  |cont =>obtain⟨av,H',I',q⟩:=q;exact Hx I' D.pn hN hi hl λs8 I8=>⟨_,_,I8,q⟩
end
end L2
namespace PySem.W
open PySem PySem.Spec PySem.Calls PyProof.Rows
section
variable{prog:Program}{w:World}{A:Around}{E:Value->Shared->Prop}{K:Frag}{x D:Addr}{ox:Obj}
structure ExK(K:Frag)(D:Addr):Prop where
 ga:findIn K (.ref D) "__getattribute__"=some (some (.builtin "BaseException.__getattribute__"))
 gt:findIn K (.ref D) "__getattr__"=some none
 ca:findIn K (.ref D) "__class__"=some (some (.builtin "object.__class__"))
 gs:specialIn K (.builtin "object.__class__") "__get__"=some (some (.builtin "getset_descriptor.__get__"))
 tk:takesIn K (.builtin "object.__class__")=some true
 mo:mroIn K D (.type "object")=some true
 mb:mroIn K D (.type "BaseException")=some true
theorem ExK.find(k:ExK K D)(hc:(clsIn K D).isSome=true):findObj K D none "__class__"=some (.bind (.builtin "getset_descriptor.__get__") (.builtin "object.__class__")):=by obtain⟨cd,hc⟩:=u6.mp hc;unfold findObj;rw[hc,uB,k.ca,uB];simp[k.gs,k.tk]
theorem NS(k:ExK K D)(hc:(clsIn K D).isSome=true)(X:K.In s.heap)(I:InstAt s.heap x ox D none)(h:Q (.done (.ret (.ref D))) s) :
  wpAny (model prog w) A (Builtin.«object.__getattribute__» ⟨[.ref x,.str "__class__" tk],[]⟩) Q E s:=by
 repeat (any_goals (first|assumption|with_reducible refine(I.type (M:=model prog w)).at ?_|with_reducible refine(looks_find (M:=model prog w) X I (k.find hc)).at ?_|wp_step))
 exact class_get X I k.mo (sV h)
theorem NU(k:ExK K D)(X:K.In s.heap)(I:InstAt s.heap x ox D none)(h:Q () s):wpAny M A (checkBuiltinCall "BaseException.__getattribute__" ⟨[.ref x,nameV],[]⟩) Q E s:=by
 have hk:builtinKind "BaseException.__getattribute__"=some .slot:=by decide +kernel
 have ia:splitId "BaseException.__getattribute__"=some ("BaseException","__getattribute__"):=by decide +kernel
 simp only[checkBuiltinCall,hk,ia];refine sQ ?_
 repeat (first|with_reducible refine(I.type (M:=M)).at ?_|with_reducible refine(looks_mroIn (M:=M) X k.mb).at ?_|wp_step)
 exact h
theorem Qn(k:ExK K D)(hc:(clsIn K D).isSome=true)(X:K.In s.heap)(I:InstAt s.heap x ox D none)(h:R (.ok (.ret (.ref D))) s) :
  codeAny (model prog w) A (.call (.builtin "BaseException.__getattribute__") ⟨[.ref x,.str "__class__" tk],[]⟩) R s :=
 codeAny_call_builtin PySem.F.excAttr_ValueError.ga.plain F.entry_bexc_ga (NU k X I (NS k hc X I h))
theorem Ys(k:ExK K D)(hc:(clsIn K D).isSome=true)(X:K.In s.heap)(I:InstAt s.heap x ox D none)(h:Q (.ref D) s) :
  wpAny (model prog w) A (getAttrBy (.ref x) (.str "__class__" tk) false) Q E s:=by
 have f3:=PySem.F.excAttr_ValueError.ga.bind (.ref x)
 repeat (any_goals (first|assumption|with_reducible refine(I.type (M:=model prog w)).at ?_|with_reducible refine(looks_findIn (M:=model prog w) X k.ga).at ?_|with_reducible refine(looks_findIn (M:=model prog w) X k.gt).at ?_|wp_step))
 refine Qn k hc X I ?_
 repeat (any_goals (first|assumption|wp_step))
theorem NT(k:ExK K D)(hc:(clsIn K D).isSome=true)(X:K.In s.heap)(I:InstAt s.heap x ox D none)(h:Q (some (.ref D)) {s with toks:=s.toks+1}) :
  wpAny (model prog w) A (getAttr? (.ref x) "__class__") Q E s:=by
 exact sQ (wpAny_mkText (sQ (wpAny_attempt (Ys k hc X I (sV h)))))
set_option tactic.hygienic true in
theorem Pz(k:ExK K D)(hc:(clsIn K D).isSome=true):KitX K (.ref x) (.ref D) (λh=>InstAt h x ox D none) where
 ty:=λ_ _ _ I=>I.type
 it:=λ_ _ X _=>by
  unfold clsIn at hc;split at hc
  next c' d' oS lE ho=>intro A' Q' E' s' k q;exact sQ (wpAny_loadPart (k _ _ (X _ _ ho)) (sV q))
  .cases hc
 ne:=λh tp dd aq n sl X jN=>by
  refine Bool.eq_false_iff.mpr λq=>?_
  have e:=Value.ref.inj (beq_iff_eq.mp q);subst e;unfold clsIn at hc;split at hc
  next c' d' oS lE ho=>cases((X _ _ ho).symm.trans jN)
  .cases hc
 ca:=λX I q=>NT k hc X I q
end
end PySem.W
namespace L2
open PySem PySem.Spec PyProof.Rows
section
variable{X:Cx}
theorem GU:BU X (.builtin "isinstance") (λxs H Q=>∃a D y c b,xs=[.ref a,y]/\(∀u,RelV y u->u=c)/\H a=some (exO (.ref D) a)/\PySem.W.ExK X.K D/\(clsIn X.K D).isSome=true/\kitOne X.K (.ref D) c=some b/\Q (.v b) H):=by
 intro aa s U H xs us Q I r h;obtain⟨a,D,y,c,b,rfl,hy,ha,k,hc,e,q⟩:=h;cases r with
 |cons r1 rr =>
  cases rr with
  |cons r2 rr =>
   cases rr;cases(show _=Value.ref a from r1);cases hy _ r2;obtain⟨⟨o,vs,h1,h2,h3,h4⟩,_⟩:=(show A2 X.prog X.w H s.heap a (exO (.ref D) a)from I.z9 a _ ha)
   exact kia_one (PySem.W.Pz k hc) I.kIn (⟨h1,h2,by unfold PySem.W.notCls;rw[h4],by rw[h3];trivial⟩) e (λz=>nomatch z) λtk=>⟨.v b,H,I.tok tk,rfl,q⟩
theorem QK{bs:List Bool}(rv:Vals (bs.map V.v) aq):∀y,y∈aq.toArray->∃b,y=Value.bool b:=by intro y hy;rw[Cf rv]at hy;simp only[List.mem_toArray,tw]at hy;obtain⟨b,_,rfl⟩:=hy;exact⟨b,rfl⟩
noncomputable def isT:Value->Bool
 |.bool b=>b==true
 |_=>false
theorem Yu{bs:List Bool}(rv:Vals (bs.map V.v) aq):∀y,y∈aq.toArray->SeqAt.EqAt A s y (.bool true) (isT y):=λy hy=>by obtain⟨b,rfl⟩:=QK rv y hy;exact SeqAt.EqAt.bool_bool b true
theorem Pt:MtR X "list.index" (λx vs H Q=>∃(l:Addr)(bs:List Bool)(j:Nat),x=.ref l/\vs=[.v true]/\SqL X.K H l (bs.map V.v)/\bs[j]?=some true/\(∀m,m<j->bs[m]?=some false)/\Q (.int ((j:Nat):Int)) H):=by
 intro aa s U H x vs v us Q I rx rv h;obtain⟨l,bs,j,rfl,rfl,hq,hj,kM,q⟩:=h;cases rx;obtain⟨u,rfl,ru⟩:=rv.one;cases(show u=Value.bool true from ru);obtain⟨aq,rv,⟨⟨cls,dd,data,sl⟩,n,ho,hc,qk,hd⟩,hz⟩:=I.list hq;subst hc qk hd;have hb:=Cf rv;subst hb;have qt:=(sY.mp hj).1;rw[tf,sizeLine_eq]at hz;refine call_meets F.slot_list_index ⟨_,ho,rfl⟩ F.entry_list_index (F.args_list_index_2 _ _) (SeqAt.list_indexAt l (bs.map Value.bool).toArray n none sl (.bool true) isT j (by simpa using qt) (by lia) ?_ ?_) ⟨ho,Yu rv,?_⟩
 .have:=(sY.mp hj).2;simp[isT,this]
 .intro m hm qz;have:=(sY.mp (kM m qz)).2;simp[isT,this]
 .exact⟨.int _,H,I.tok _,⟨_,rfl⟩,q⟩
end
end L2
namespace L2
open PySem PySem.Spec PySem.W PyProof.Rows
theorem Ln{l:OpenLaw}{K:Params->Fg}{CX:World->CXT}{sp:Fg->Sp}{x:Str}
  (hn:l.most=some n) (fL:n<=sizeLine) (jL:d.params.defaults=[]) (hr:Df k callerA)
  (hY:∀(w:World)(h:Heap),YP w h->(K w.params).In h)
  (F:∀(w:World)(mg:Str->Option Value)(fa:Addr)(h:Heap),(K w.params).In h->h.Ns mainGlobals mg->mg d.name=some (.ref fa) ->
   ∃fd:FuncData,(∀(s:Shared)(u:Value),BindsTo s fd ⟨[u],[]⟩ [(x,u)]) /\
    ∀base:Heap,(K w.params).In base->base.Ns mainGlobals mg->Dn l.prog w (K w.params) mg base (CX w) k fa fd [x] (sp (K w.params)))
  (fM:∀(K:Fg)(H:Hp)(a:Addr)(ns:List Int),ns.length<=n->Dd ns<=2^20->Y4 H->SqL K H a (ns.map V.int)->sp K [.ref a] H (λv _=>v=.v true) λ_ _ _=>False)
  (iN:∀(w:World)(H:Hp)(s:Shared)(e:Value)(s':Shared),CX w [] H s (λ_ _ _=>False) e s'->False) :
  WalkO q loose XP YP l.row.toRowW d [] (λf vs=>PySem.call f vs):=by
 intro w zZ az mg mb G Y fa o pm cd cV dV kV ho hd eC hD i5 hg args vals as eG gj mR je bZ;obtain⟨a,vs,ns,rfl,rfl,kN,hints,hlen⟩:=Att.Mx hn eG je;have KX:=hY w _ Y;obtain⟨fd,hb,hF⟩:=F w mg fa _ KX G.T.g i5;refine PySem.W.enter_call (codeAny_mono (Py KX G.T.g G.T.b G.T.builtins G.T.nolimit hg kN hints (tQ hlen fL) hr hF hb (λH hO hS=>fM (K w.params) H a ns hlen (by
  have h1:(WData.list (ns.map WData.int)).layable=true:=by unfold WData.layableAll at gj;simpa using gj
  unfold WData.layable at h1;rw[tO]at h1;have h2:=tM h1.2;rwa[<- FY]) hO hS) λH e s'=>iN w H az e s') λr s' hq=>?_)
 obtain⟨rfl,h2,h3,h4⟩:=hq;exact⟨.inl ⟨.bool true,.bool true,[],rfl,λ_=>rfl,.bool true,Att.MK l _,λ_=>⟨List.Pairwise.nil,λ_ hm=>(nomatch hm)⟩⟩,h2,h3,h4⟩
theorem Jr{l:OpenLaw}{K:Params->Fg}{as:List Addr}{CX:World->CXT}{sp:Fg->Sp}{x:Str}
  (hn:l.most=some n) (fL:n<=sizeLine) (jL:d.params.defaults=[]) (hr:Df k callerA)
  (hK:∀P:Params,as=(K P).map (·.1))
  (F:∀(w:World)(mg:Str->Option Value)(fa:Addr)(h:Heap),(K w.params).In h->h.Ns mainGlobals mg->mg d.name=some (.ref fa) ->
   ∃fd:FuncData,(∀(s:Shared)(u:Value),BindsTo s fd ⟨[u],[]⟩ [(x,u)]) /\
    ∀base:Heap,(K w.params).In base->base.Ns mainGlobals mg->Dn l.prog w (K w.params) mg base (CX w) k fa fd [x] (sp (K w.params)))
  (fM:∀(K:Fg)(H:Hp)(a:Addr)(ns:List Int),ns.length<=n->Dd ns<=2^20->Y4 H->SqL K H a (ns.map V.int)->sp K [.ref a] H (λv _=>v=.v true) λ_ _ _=>False)
  (iN:∀(w:World)(H:Hp)(s:Shared)(e:Value)(s':Shared),CX w [] H s (λ_ _ _=>False) e s'->False) :
  WalkX q loose XP (PySem.W.X.obsZ as) (PySem.W.X.valZ K N tk) l.row.toRowW d [] (λf vs=>PySem.call f vs):=by
 intro w zZ az mg mb G Y fa o pm cd cV dV kV ho hd eC hD i5 hg args vals oO hL eG gj mR je bZ;refine(Ln (l:=l) (q:=q) (loose:=loose) (XP:=XP) (YP:=λw h=>(K w.params).In h) (d:=d) (K:=K) (CX:=CX) (sp:=sp) (x:=x) hn fL jL hr (λ_ _ h=>h) F fM iN) w zZ az mg mb G ?_ fa o pm cd cV dV kV ho hd eC hD i5 hg args vals oO eG gj mR je bZ;have h1:as.map zZ.heap.get?=(K w.params).map (λp=>some p.2):=congrArg Prod.fst Y;rw[hK w.params]at h1;exact λa o e=>hL.keeps a o (Nc _ h1 a o e)
end L2
namespace L2
open PySem PySem.Spec PyProof.Rows
section
variable{X:Cx}{k:Nat}{C:Addr}{ps:List Str}{sp:Sp}{Z:XE}{x m:Str}{p pos aA:Pos}{e o:Expr}{es:List Expr}{ta:TE}{t:TA}
def VN(C:Addr)(m:Str)(sp:Sp)(Z:XE)(ta:TE)(t:TA):TE:=λU H Q=>ta U H λx H1=>∃a dx fs,x=.ref a/\H1 a=some (.ins C dx fs)/\fs.lookup m=none /\
 t U H1 λvs H2=>sp (x::vs) H2 Q λc _ H'=>Z c U H'
theorem WD(G:Vk X.prog X.w X.K X.mg X.base (CX1 X.prog X.w) C m k ps sp)(hr:Df k X.A)(hx:Lk X Z)(he:PE X o ta)(ha:PA X (e::es) t)
  (dH:starEach (e::es) X.env=(false,eval e X.env)::starEach es X.env:=by rfl) (aI:(backTo pos (starEach es X.env)).any (·.1)=false:=by rfl)
  (ht:eval (.Call (.Attribute o m aA) (e::es) [] pos) X.env=(do
   let ov <- eval o X.env
   standAt aA.atName
   let(f,first) <- holding [ov] (getMethod ov m pl)
   callWith pos f first (backTo pos (starEach (e::es) X.env)) (backToKw pos (keywordEach [] X.env))):=by rfl) :
  PE X (.Call (.Attribute o m aA) (e::es) [] pos) (VN C m sp Z ta t):=by
 obtain⟨f,fd,F,hm,hb⟩:=G.ex;intro aa s U H Q I h;refine methodCall_KW (thn (he aa s U H _ I h) λu s1 ao=>?_) ht;obtain⟨x,H1,I1,rx,a,dx,fs,ex,ea,l,q⟩:= ao;subst ex;obtain rfl:u=Value.ref a:=rx;refine GO I1 ea G.cl hm l ?_;refine callWith_K I.ok.mod.yX hm.kp (thn (ha pos aa s1 U H1 _ I1 q) λus s2 ⟨vs,H2,I2,r,q2⟩=>⟨I2.kIn,?_⟩) dH aI;exact My (vs:=.ref a::vs) F hr hb hx I2 (.cons rfl r) q2
theorem WJ:Passes (CX1 X.prog X.w) X E0:=λ_ _ _ _ _ _ _ ⟨_,_,_,_,_,_,_,_,_,_,_,q⟩=>q.elim
end
noncomputable def BX(z:Str):Bool:=decide (z.length<=3000)&&z.cps.toList.all λc=>decide (c<16^8)
theorem Iw{z:Str}(h:BX z=true):(reprText z).length<=40000:=by
 unfold BX at h;rw[tO]at h;have h1:=tM h.1;have h2:=PySem.StrLaws.reprText_len z λc m=>tM (uf.mp h.2 c m)
 lia
section
variable{X:Cx}{v:Expr}{ta:TE}{a:Str}{j:Nat}{cp fp jp:Pos}
end
section
variable{X:Cx}
theorem QF(hc:X.calm=true):BU X (.builtin "any") (λxs H Q=>∃(l:Addr)(bs:List Bool),xs=[.ref l]/\SqL X.K H l (bs.map V.v)/\Q (.v (bs.any id)) H):=by
 intro aa s U H xs us Q I r h;obtain⟨l,bs,rfl,hq,q⟩:=h;obtain⟨u,rfl,rx⟩:=vals1 r;cases rx;obtain⟨aq,rv,pl,hz⟩:=I.list hq;have hb:=Cf rv;have hl:=pl.isList;refine call_any_walk (wpAny_pyIter_list hl ?_);refine⟨s.heap.objs.size,[s.heap.objs.size,l],[s.heap.objs.size],aq.toArray.size,_,_,λi=>(bs[i]?).getD false,rfl,Walks.list (A:=X.A.in1) (I.ok.hd hc) _ l (tN (by obtain⟨_,e,_⟩:=hl;exact tj e)) aq.toArray,
  ⟨⟨_,tq _ rfl,rfl,rfl⟩,hl.push _⟩,λi v s' Q' E' hP hQ=>?_,λh' tk hk=>?_⟩
 .have e:=by simpa using hP
  rw[hb,tR]at e;cases eb:bs[i]? with|none=>rw[eb]at e;cases e|some b =>rw[eb]at e;have e':=Option.some.inj e;subst e';simp only[eb]at hQ;exact wpAny_truthy_bool hQ
 .have e:((List.range aq.toArray.size).any λi=>(bs[i]?).getD false)=bs.any id:=by
   have hlen:aq.toArray.size=bs.length:=by rw[hb];simp
   rw[hlen];rw[uK,vJ,vJ];constructor
   .rintro⟨i,hi,hh⟩
    have eD:=uQ.mp hi;exact⟨bs[i],List.getElem_mem eD,by simpa[sS eD]using hh⟩
   .rintro⟨b,hm,hh⟩
    obtain⟨i,hi,rfl⟩:=u4 hm;exact⟨i,uQ.mpr hi,by simpa[sS hi]using hh⟩
  rw[e];exact⟨.v _,H,I.kept (λb o e=>hk b o (λhm=>by rw[tD.mp hm]at e;exact uw _ (tj e)) (sR _ e)),rfl,q⟩
end
section
variable{X:Cx}{v:Expr}{ta:TE}{fp:Pos}
def tJs:List TE->Str->TE
 | [],ax=>λ_ H Q=>ax.length<=sizeLine/\Q (.str ax) H
 |t::ts,ax=>λU H Q=>t U H λx H1=>∃z,x=.str z/\(ax++z).length<=sizeLine/\tJs ts (ax++z) U H1 Q
inductive PEs(X:Cx):List Expr->List TE->Prop
 |nil:PEs X [] []
 |cons {e:Expr} {t:TE} {es:List Expr} {ts:List TE} (h:PE X e t) (r:PEs X es ts):PEs X (e::es) (t::ts)
theorem PC{X:Cx}:∀{es:List Expr}{ts:List TE},PEs X es ts->∀(ax:Str){aa:List (Addr×Obj)}{s:Shared}{U:St}{H:Hp}{Q:VK},Inv X aa U H s->tJs ts ax U H Q ->
  Joins (model X.prog X.w) X.A X.xe (evalEach es X.env) ax (λout az=>out.length<=sizeLine/\EP X aa U Q (.str out az.toks) {az with toks:=az.toks+1}) s:=by
 intro es ts p
 induction p with
 |nil =>intro ax aa s U H Q I h;exact⟨h.1,.str ax,H,I.tok _,⟨_,rfl⟩,h.2⟩
 |@cons e t es ts h r ih =>
  intro ax aa s U H Q I q;show wpAny _ _ (eval e X.env) _ _ s;refine thn (h aa s U H _ I q) λu s1 ao=>?_
  obtain⟨x,H1,I1,r1,z,ez,hz,q1⟩:= ao;subst ez;obtain⟨t,rfl⟩:=r1;exact⟨z,t,rfl,hz,ih (ax++z) I1 q1⟩
theorem Jaq{v1 v2:Expr}{es:List Expr}{ts:List TE}{jp:Pos}(p:PEs X (v1::v2::es) ts):PE X (.JoinedStr (v1::v2::es) jp) (tJs ts Str.empty):=λaa s U H Q I h =>wpAny_JoinedStr (PC p Str.empty I h)
end
end L2
namespace PySem
namespace Zp
theorem OA:typeLookup (.type "zip") "__getattr__"=pure none:=by rw[typeLookup_type,builtinLookup_eq_fast];kernel_rfl
theorem OC:typeLookup (.type "zip") "keys"=pure none:=by rw[typeLookup_type,builtinLookup_eq_fast];kernel_rfl
theorem Mc:entryFor table "zip.__getattribute__"=some Builtin.«object.__getattribute__» :=
 entryFor_alias (id':="object.__getattribute__") (by kernel_rfl) (by decide +kernel) (by decide +kernel) (by kernel_rfl)
theorem OB(a:Addr)(vs:Array Value)(u:Tok) :
  Meets (Builtin.«object.__getattribute__» ⟨[.ref a,.str "keys" u],[]⟩) (λA R s=>s.heap.get? a=some {cls:=.type "zip",dict:=none,data:=.fields vs,slots:=#[]}/\raisesAttr (.ref a) "keys" A R s) :=
 Meets.of_wp λprog w A R s hs=>by
  obtain⟨hx,hs⟩:=hs;have mK:=OC
  repeat (any_goals (first|assumption|wp_step))
  try simp only[if_false]
  repeat (any_goals (first|assumption|wp_step))
  exact wpAny_raiseAttrError hs.1 hs.2 (attrMsg_fits (by decide +kernel) (by size_fits))
theorem Oz
  (hx:s.heap.get? a=some {cls:=.type "zip",data:=.fields vs}) (hA:A.handled=none)
  (h:∀h' tk,(∀b o,s.heap.get? b=some o->h'.get? b=some o)->Q none {s with heap:=h',toks:=tk}):wpAny (model prog w) A (getAttr? (.ref a) "keys") Q E s:=by
 obtain⟨hp,g,d,tk,os⟩:=s;have hT:∀fE,(⟨hp,g,d,fE,os⟩:Shared).TypeIs (.ref a) "zip":=λ_=>⟨_,hx,rfl⟩
 have f1:=sub_AttributeError;have f3:=F.slot_zip_getattribute.lookup;have f4:=F.slot_zip_getattribute.bind (.ref a);have f5:=OA
 repeat (any_goals (first|assumption|exact hT _|((with_reducible show wpAny _ _ (call (Value.builtin "zip.__getattribute__") _ _) _ _ _);refine call_meets F.slot_zip_getattribute (hT _) Mc (F.args_zip_getattribute_2 _ _) (OB a vs _) ⟨hx,hA,λh' fE e eQ=>?_⟩)|wp_step))
 obtain⟨t',u',he⟩:=eQ.there;unfold getattributeRaised
 repeat (any_goals (first|assumption|wp_step))
 exact h h' fE eQ.1
theorem D4:entryFor table "dict.update.loop"=some Builtin.«dict.update.loop»:=entryFor_of_fast (by kernel_rfl)
theorem CA:plainId "dict.update.loop"=true:=by decide +kernel
section
variable{prog:Program}{w:World}{A:Around}{E:Value->Shared->Prop}{s:Shared}{z TI TO i1 i2 l1 l2 lo S:Addr}{xs ys:Array Value}{b1 b2:Bool}{R:Result->Shared->Prop}{K:Type}[DecidableEq K]{knd:KeyKind prog w K}
theorem OG(hh:A.handled=none)(D:Apart z TI TO i1 i2 l1 l2)(bZ:∀b∈[z,TI,TO,i1,i2,l1,l2],b<lo)(dy:∀b∈[z,TI,TO,i1,i2,l1,l2],b≠S)(mB:S<lo){ks:List K}(eO:∀(i:Nat)(x:Value),xs[i]?=some x->∃k,ks[i]?=some k/\knd.is k x=true)(hn:xs.size<=sizeLine)(hl:ks.length=xs.size)(res:Value){aB:Heap}
  (hR:∀h' tk,(∀b o,b≠S->b∉[z,TO,i1,i2]->aB.get? b=some o->h'.get? b=some o)->h'.DictOf knd S (merged [] (ks.zip ys.toList))->R (.ok (.ret res)) {s with heap:=h',toks:=tk}) :
  ∀(k i:Nat)(h:Heap)(tk:Nat),min xs.size ys.size-i=k->i<=min xs.size ys.size->Frs b1 b2 h z TI TO i1 i2 l1 l2 lo i->Dg b1 h l1 xs->Dg b2 h l2 ys->(∀b o,b≠S->b∉[z,TO,i1,i2]->aB.get? b=some o->h.get? b=some o) ->
   h.DictOf knd S (merged [] ((ks.zip ys.toList).take i))->lo<=h.objs.size ->
   codeAny (model prog w) A (.builtin "dict.update.loop" ⟨[.ref S,.ref z,rawInt i,res],[]⟩) R {s with heap:=h,toks:=tk}:=by
 have rn:∀{b a:Addr},b<lo->lo<=a->a≠b:=λ{b a} h1 h2 q=>absurd (tE h1 h2) (by rw[q];exact uw _)
 have zl:(ks.zip ys.toList).length=min xs.size ys.size:=by rw[vn,hl,uM]
 intro k
 induction k with
 |zero =>
  intro i h tk hk hi dH c1 c2 bJ hS jG;refine codeAny_builtin D4 ?_;refine sQ (UN (A:=A.in1) hh D dH c1 c2 (by
   rcases Nat.le_total xs.size ys.size with q|q
   .left;rw[vv];lia
   .right;rw[vv];lia) λh' he=>?_)
  refine sQ (sV (sV (hR h' tk (λb o q1 q2 e=>?_) ?_)))
  .simp only[tH,ue,or_false,not_or]at q2;exact he b o q2.1 q2.2.1 q2.2.2.1 q2.2.2.2 (bJ b o q1 (by simp[q2]) e)
  .rw[uF (by lia)]at hS;obtain⟨o,es,ep,ho,r⟩:=hS;exact⟨o,es,ep,he S _ (Ne.symm (dy _ (by simp))) (Ne.symm (dy _ (by simp))) (Ne.symm (dy _ (by simp))) (Ne.symm (dy _ (by simp))) ho,r⟩
 |succ k ih =>
  intro i h tk hk hi dH c1 c2 bJ hS jG;have iX:i<xs.size:=by lia
  have iY:i<ys.size:=by lia
  obtain⟨κ,ek,kZ⟩:=eO i _ (uu iX);have ez:(ks.zip ys.toList)[i]?=some (κ,ys[i]):=by rw[List.getElem?_zip_eq_some];exact⟨ek,by rw[Array.getElem?_toList];exact uu iY⟩
  refine codeAny_builtin D4 ?_;refine sQ (OJ (s:={s with heap:=h,toks:=tk}) D dH c1 c2 (uu iX) (uu iY) jG bZ λh' kS oQ oR ht hz mI=>?_);refine sQ (wpAny_holding ?_);refine sQ (wpAny_tryCatch ?_);refine sQ (wpAny_typeOf (T:="tuple") ⟨_,ht,rfl⟩ ?_);refine sQ (wpAny_seqItems ht rfl (sV ?_));refine wpAny_holding (wpAny_dictSet_pairs (s:={s with heap:=h',toks:=tk}) kZ (by obtain⟨o,es,ep,ho,r⟩:=hS;exact⟨o,es,ep,mI S _ (Ne.symm (dy _ (by simp))) (Ne.symm (dy _ (by simp))) (Ne.symm (dy _ (by simp))) (Ne.symm (dy _ (by simp))) ho,r⟩) (λh2 hd2 sb=>?_) (tQ (merged_length_le _ _) (by simp only[vo,uh];lia)));rw[<- merged_take_succ _ _ _ _ ez]at hd2;have up:∀b o,b≠S->h'.get? b=some o->h2.get? b=some o:=λb o hb e=>sb.extBut b o hb e
  refine sV ⟨plainId_quiet CA _,ih (i+1) h2 (tk+1) (by lia) (by lia) (kS.keep up (λb hb=>dy b (tm [l1,l2] hb)) mB) (oQ.at λo e=>up _ o (dy _ (by simp)) e) (oR.at λo e=>up _ o (dy _ (by simp)) e) (λb o q1 q2 e=>?_) hd2 ?_⟩
  .have q3:=q2;simp only[tH,ue,or_false,not_or]at q3;exact up b o q1 (mI b o q3.1 q3.2.1 q3.2.2.1 q3.2.2.2 (bJ b o q1 q2 e))
  .exact tQ jG (vz (tj (up _ _ (rn mB jG) ht)))
theorem HG(hh:A.handled=none)(D:Apart z TI TO i1 i2 l1 l2)(hz:IsZip s.heap z TI TO .none)(bg:IsPair s.heap TI (.ref i1) (.ref i2))(bK:∃a b,IsPair s.heap TO a b)(t1:EG b1 s.heap i1 l1 0)(t2:EG b2 s.heap i2 l2 0)(c1:Dg b1 s.heap l1 xs)(c2:Dg b2 s.heap l2 ys)
  (bZ:∀b∈[z,TI,TO,i1,i2,l1,l2],b<s.heap.objs.size) {ks:List K} (eO:∀(i:Nat)(x:Value),xs[i]?=some x->∃k,ks[i]?=some k/\knd.is k x=true) (hn:xs.size<=sizeLine) (hl:ks.length=xs.size)
  (hQ:∀h' tk,(∀b o,b∉[z,TO,i1,i2]->s.heap.get? b=some o->h'.get? b=some o)->h'.DictOf knd s.heap.objs.size (merged [] (ks.zip ys.toList))->Q (.ref s.heap.objs.size) {s with heap:=h',toks:=tk}) :
  wpAny (model prog w) A (call (.type "dict") [.ref z]) Q E s:=by
 refine callType_codes (Q₁:=λobj az=>obj=.ref s.heap.objs.size/\az={s with heap:=s.heap.push {cls:=.type "dict",data:=.dict #[]} }) F.kt_called_dict (F.kt_typeCall_dict_1 _) F.entry_dict_init (kt_code_dict_new _ ⟨rfl,rfl⟩) ?_
 rintro obj az ⟨rfl,rfl⟩
 have de:(s.heap.push {cls:=.type "dict",data:=.dict #[]}).DictOf knd s.heap.objs.size []:=Heap.DictOf.new s.heap;have z6:∀b o,s.heap.get? b=some o->(s.heap.push {cls:=.type "dict",data:=.dict #[]}).get? b=some o:=λb o e=>sR _ e
 refine⟨de.typeIs,F.args_dict_init_2 _ _,?_⟩;refine sQ ?_;refine sQ (wpAny_notOrdered_dict de.typeIs ?_);refine sV ?_;show wpAny _ _ (Builtin.Dict.updateFrom "dict.__init__" s.heap.objs.size (.ref z) [] .none) _ _ _;refine sQ (wpAny_typeOf (T:="zip") ⟨_,z6 _ _ hz,rfl⟩ ?_);refine sQ (Oz (z6 _ _ hz) hh λh2 j6 k2=>?_);have up:∀b o,s.heap.get? b=some o->h2.get? b=some o:=λb o e=>k2 b o (z6 b o e)
 refine sQ (wpAny_rule ?_);refine sQ (wpAny_pyIter_zip (up _ _ hz) ?_);obtain⟨ta,tb,bK⟩:=bK;have df:h2.DictOf knd s.heap.objs.size []:=by obtain⟨o,es,ep,ho,r⟩:=de;exact⟨o,es,ep,k2 _ _ ho,r⟩
 refine sV ⟨plainId_quiet CA _,OG (A:=A.in1) (s:=s) (aB:=h2) (lo:=h2.objs.size) (b1:=b1) (b2:=b2) (xs:=xs) (ys:=ys) (knd:=knd) hh D (λb hb=>tE (bZ b hb) (by
  obtain⟨o,es,ep,ho,_⟩:=de;exact vz (tj (k2 _ _ ho)))) (λb hb=>tN (bZ b hb)) (by
  obtain⟨o,es,ep,ho,_⟩:=df;exact tj ho) eO hn hl .none (λh' tk kp dd=>?_) (min xs.size ys.size) 0 h2 j6 rfl (vG _)
  ⟨.inl ⟨rfl,up _ _ hz,ta,tb,up _ _ bK⟩,up _ _ bg,t1.at λo e=>up _ o e,t2.at λo e=>up _ o e⟩ (c1.at λo e=>up _ o e) (c2.at λo e=>up _ o e) (λb o _ _ e=>e) (by simpa[merged]using df) (tJ _)⟩
 exact⟨rfl,hQ h' tk (λb o q e=>kp b o (tN (tj e)) q (up b o e)) dd⟩
end
end Zp
end PySem
namespace L2
open PySem PySem.Spec PyProof.Rows
theorem Rm:∀{ks:List Key}{ys:List V}{us:List Value},Vals ys us->KV (ks.zip ys) (ks.zip us)
 | [],_,_,_=>.nil
 |_::_,[],_,.nil=>.nil
 |k::ks,_::_,_::_,.cons r rr=>.cons ⟨rfl,r⟩ (Rm rr)
def OM(K:Fg)(ta:TA):TE:=λU H Q=>ta U H λvs H1=>∃(b1:Bool)(a1:Addr)(b2:Bool)(a2:Addr)(ks:List Key)(ys:List V),vs=[.ref a1,.ref a2]/\SqB b1 K H1 a1 (ks.map kV)/\SqB b2 K H1 a2 ys/\ks.Nodup/\ks.length=ys.length/\∀d,H1 d=none->Q (.ref d) (upd H1 d (.l (ks.zip ys)))
theorem LB(hc:X.calm=true)(iZ:X.mg "dict"=none)(eE:X.mg "zip"=none)(ha:PA X [a,b] ta)(kD:Gl X "dict":=by rfl)(gi:Gl X "zip":=by rfl)
  (he:starEach [(.Call (.Name "zip" p2) [a,b] [] cR:Expr)] X.env=[(false,eval (.Call (.Name "zip" p2) [a,b] [] cR) X.env)]:=by rfl) (hs:starEach [a,b] X.env=[(false,eval a X.env),(false,eval b X.env)]:=by rfl) (aW:starEach [b] X.env=[(false,eval b X.env)]:=by rfl) :
  PE X (.Call (.Name "dict" p1) [.Call (.Name "zip" p2) [a,b] [] cR] [] gx) (OM X.K ta):=by
 intro aa s U H Q I h;refine wpAny_Call_Name_kw (Ey I kD iZ boot_dict ?_);refine callWith_type1 ?_ he rfl;refine Calls.spliced_cons ?_;refine wpAny_Call_Name_kw (Ey I gi eE boot_zip ?_);refine callWith_type1 (thn (ha cR aa s U H _ I h) λus s1 ao=>?_) (by rw[hs,aW]) (by rw[aW];rfl);obtain⟨vs,H1,I1,r1,q1⟩:= ao;obtain⟨b1,a1,b2,a2,ks,ys,e,hx,hy,nd,ln,q⟩:=q1;subst e;cases r1 with
 |cons r rr =>
  cases rr with
  |cons r' rr =>
   cases rr;cases r;cases r';obtain⟨cq,ly,c1,z1⟩:=I1.sqb hx;obtain⟨aX,lA,c2,z2⟩:=I1.sqb hy;have e1:=ly.length;have e2:=lA.length;rw[tf]at e1;refine Zp.K7 (T1:=Zp.BQ b1) (T2:=Zp.BQ b2) (C1:=λh=>Zp.Dg b1 h a1 cq.toArray) (C2:=λh=>Zp.Dg b2 h a2 aX.toArray) (Zp.IE b1 a1 cq.toArray) (Zp.IE b2 a2 aX.toArray) (λh o c=>Zp.Dg.at (b:=b2) c λo e=>sR _ e) c1 c2 ?_;obtain⟨z,TI,TO,i1,i2,ez,g0,g1,g2,g3,g4,D,hz,bg,bK,t1,t2,hk⟩:=Zp.made c1 c2;rw[<- ez];refine Calls.spliced_nil ?_;have lX:Zp.Dg b1 (Zp.z5 s1.heap (Zp.BQ b1) (Zp.BQ b2) a1 a2) a1 cq.toArray:=Zp.Dg.at (b:=b1) c1 λo e=>hk _ o e
   have lY:Zp.Dg b2 (Zp.z5 s1.heap (Zp.BQ b1) (Zp.BQ b2) a1 a2) a2 aX.toArray:=Zp.Dg.at (b:=b2) c2 λo e=>hk _ o e
   have l7:∀{b:Bool}{h:Heap}{l:Addr}{xs:Array Value},Zp.Dg b h l xs->l<h.objs.size:=λ{b h l xs} c=>by
    cases b
    .obtain⟨o,e,_⟩:=c;exact tj e
    .obtain⟨o,e,_⟩:=c;exact tj e
   refine Zp.HG (s:={s1 with heap:=Zp.z5 s1.heap (Zp.BQ b1) (Zp.BQ b2) a1 a2}) (b1:=b1) (b2:=b2) (xs:=cq.toArray) (ys:=aX.toArray) (knd:=AR X.prog X.w) (ks:=ks) (I.ok.hd hc) D hz bg ⟨_,_,bK⟩ t1 t2 lX lY (λb hb=>?_) (λi x ex=>?_) (by simp only[tK];lia) (by simp only[tK];lia) λh' tk kp dd=>?_
   .simp only[tH,ue,or_false]at hb;rcases hb with rfl|rfl|rfl|rfl|rfl|rfl|rfl
    .exact tj hz
    .exact tj bg
    .exact tj bK
    .obtain⟨o,e,_⟩:=t1.obj;exact tj e
    .obtain⟨o,e,_⟩:=t2.obj;exact tj e
    .exact l7 lX
    .exact l7 lY
   .have kh:cq[i]?=some x:=by simpa using ex
    have li:=(sY.mp kh).1;obtain⟨u',hu,ru⟩:=ly.get (i:=i) (sS (by rw[tf];lia));rw[kh]at hu;cases hu;rw[uO]at ru;exact⟨_,sS (by lia),ID ru⟩
   .have gs:s1.heap.objs.size<=(Zp.z5 s1.heap (Zp.BQ b1) (Zp.BQ b2) a1 a2).objs.size:=tQ g0 (vz (tj hz));have zk:((ks.zip aX).map (·.1))=ks:=by rw[uY (by lia)]
    rw[merged_nil_of_nodup _ (by simp only;rw[zk];exact nd)]at dd;have fr:=I1.z9.fresh (a:=(Zp.z5 s1.heap (Zp.BQ b1) (Zp.BQ b2) a1 a2).objs.size) gs;refine⟨.ref (Zp.z5 s1.heap (Zp.BQ b1) (Zp.BQ b2) a1 a2).objs.size,upd H1 (Zp.z5 s1.heap (Zp.BQ b1) (Zp.BQ b2) a1 a2).objs.size (.l (ks.zip ys)),?_,rfl,q _ fr⟩;refine(I1.kept hk).TR (fp:=[z,TO,i1,i2]) kp (λb hb=>?_) (λb u e=>?_) λb u e=>?_
    .have gK:s1.heap.objs.size<=b:=by simp only[tH,ue,or_false]at hb;rcases hb with rfl|rfl|rfl|rfl<;>assumption
     exact I1.RD gK (I1.z9.fresh gK)
    .rwa[Aj (λz=>by rw[z,fr]at e;cases e)]
    .by_cases hb:b=(Zp.z5 s1.heap (Zp.BQ b1) (Zp.BQ b2) a1 a2).objs.size
     .subst hb;rw[Am]at e;cases e;refine .inr ⟨tJ _,(show A2 X.prog X.w _ h' _ (.l (ks.zip ys))from⟨by rw[vn];lia,(beq_eq_false_iff_ne.mpr (Ne.symm (tN (tE I1.big gs)))),ks.zip aX,Rm lA,dd⟩)⟩
     .rw[Aj hb]at e;exact .inl e
section
variable{X:Cx}
inductive rSlS(x:V)(lo:Option Int)(hi:Option Int)(H:Hp)(Q:VK):Prop
 |mk (z:Str) (h0:x=.str z) (h1:(Txt.slice z lo hi).length<=sizeLine) (h2:Q (.str (Txt.slice z lo hi)) H)
theorem part_of{v:Value}{o:Option Int}(p:IsPart v o):∃l:Option (Int×Tok),v=partValue l/\l.map (·.1)=o:=by cases p with|none=>exact⟨none,rfl,rfl⟩|int i t=>exact⟨some (i,t),rfl,rfl⟩
theorem VW:SlR X rSlS:=by
 intro aa s U H x v vl vu lo hi sl Q I rx hs pl pu h;obtain⟨z,rfl,hz,q⟩:=h;obtain⟨t,rfl⟩:=rx;obtain⟨l,rfl,el⟩:=part_of pl;obtain⟨u,rfl,eu⟩:=part_of pu;refine⟨"str",_,PyProof.Rows.slot_str_getitem.lookup,typeIs_str s z t,?_⟩;refine wpAny_getItem_str_slice (l:=l) (u:=u) (st:=none) hs rfl ?_;have e:Builtin.Str.strSliceIndices lo hi 1 z.length=slicePicked z l u none:=by rw[<- el,<- eu];rfl
 unfold sliceMade;unfold Txt.slice at q hz;rw[e]at q hz;split
 next c=>rw[if_pos (by simpa using c)]at q;exact⟨.str z,H,I,⟨t,rfl⟩,q⟩
 next c=>rw[if_neg (by simpa using c)]at q hz;exact⟨hz,.str _,H,I.tok _,⟨_,rfl⟩,q⟩
end
end L2
namespace L2
open PySem PySem.Spec
section
variable{X:Cx}{aa:List (Addr×Obj)}{U:List (Option V)}{H:Hp}{s:Shared}{a:Addr}{o:Obj}{ah:List (Key×V)}{dQ:HO}{xs:List V}
theorem Inv.thaw(I:Inv X aa U H s)(e:H a=some (.frz o dQ))(n:∀o u,X.zo a≠some (.frz o u))(nf:∀o w,dQ≠.frz o w):Inv X aa U (upd H a dQ) s:=by
 have h1:=(show A2 X.prog X.w H s.heap a (.frz o dQ)from I.z9 a _ e)
 have ne:∀{b:Addr}{u:HO},H b=some u->(∀o w,u≠.frz o w)->upd H a dQ b=some u:=λ{b u} z q=>by unfold upd;rw[if_neg (λx=>by subst x;rw[e]at z;cases z;exact q _ _ rfl)];exact z
 have no:∀{b:Addr},H b=none->upd H a dQ b=none:=λ{b} z=>by unfold upd;rw[if_neg (λx=>by subst x;rw[e]at z;cases z)];exact z
 have st:∀{b:Addr}{u:HO},A2 X.prog X.w H s.heap b u->A2 X.prog X.w (upd H a dQ) s.heap b u:=λz=>z.Mt (λ_ _ _ q=>q) (λ_ q=>ne q (λ_ _=>nofun)) λ_ _ q=>ne q (λ_ _=>nofun)
 exact⟨I.ok,I.os,I.bare,⟨I.base.keep,I.base.slot,λb ob q z x=>no (I.base.free b ob q z x),I.base.there,λb xs q=>ne (I.base.zL b xs q) (λ_ _=>nofun),λb ob u q=>by
  have q':=I.base.zV b ob u q;unfold upd;rw[if_neg (λx=>by subst x;exact n _ _ q)];exact q',λb ps q=>by
  obtain⟨m,z⟩:=I.base.zN b ps q;exact⟨m,ne z (λ_ _=>nofun)⟩⟩,I.loc,I.cell,no I.free,λx c q=>no (I.zX x c q),λp q=>⟨(I.pin p q).1,no (I.pin p q).2.1,(I.pin p q).2.2⟩,λb u q=>by
  by_cases z:b=a
  .subst z;rw[Am]at q;cases q;exact st h1.2
  .unfold upd at q;rw[if_neg z]at q;exact st (I.z9 b u q),I.len⟩
inductive Z2(td:TE)(U:St)(H:Hp)(Q:VK):Prop
 |mk (a ah:_) (h0:H a=some (.l ah)) (h1:∀o,td U (upd H a (.frz o (.l ah))) λv H1=>H1 a=some (.frz o (.l ah))/\Q v (upd H1 a (.l ah)))
theorem S0{e:Expr}{td:TE}(h:PE X e td):PE X e (Z2 td):=by
 intro aa s U H Q I q;obtain⟨a,ah,ha,q⟩:=q;obtain⟨o,I2⟩:=I.freeze ha;refine thn (h aa s U _ _ I2 (q o)) λv s1 ao => ?_
 obtain⟨x,H1,I1,r1,h1,q1⟩:= ao;refine⟨x,_,I1.thaw h1 (λob u z=>by rw[I.base.zV a ob u z]at ha;cases ha) (λ_ _=>nofun),r1,q1⟩
end
end L2
namespace PySem
section
variable{prog:Program}{w:World}{A:Around}{E:Value->Shared->Prop}
theorem YA{it t:Addr}{items:Array Value}(aT:t≠it):∀(n i:Nat)(s:Shared)(Q:List Value->Shared->Prop),s.heap.IsListIter it t i->s.heap.IsList t items->i+n<=items.size ->
  (∀h',h'.IsListIter it t (i+n)->Heap.SameBut it s.heap h'->Q ((items.toList.drop i).take n) {s with heap:=h' })->wpAny (model prog w) A (draw (.ref it) n) Q E s
 |0,i,s,Q,bP,_,_,hQ=>by show wpAny _ _ (pure []) Q E s;exact sV (by simpa using hQ s.heap bP (Heap.SameBut.refl ..))
 |n+1,i,s,Q,bP,ht,hle,hQ=>by
  have fA:i<items.size:=by lia
  show wpAny _ _ (pyNext (.ref it) >>= _) Q E s;refine sQ (wpAny_pyNext_list_item bP ht (x:=items[i]) (by simp[fA]) λaB dB bp=>?_);refine sQ (wpAny_holding (YA aT n (i+1) _ _ dB (ht.at λo e=>(bp.2 t aT).trans e) (by lia) λcM hU jc=>sV ?_));have hd:items.toList.drop i=items[i]::items.toList.drop (i+1):=by simp[vD,fA]
  have:=hQ cM (by rw[show i+(n+1)=i+1+n by lia];exact hU) (bp.trans jc);rw[hd,List.take_succ_cons]at this;exact this
theorem Et{s:Shared}{env:Env}{bx:List Expr}{x1}{pos:Pos}{t:Addr}{items:Array Value}{Q:Unit->Shared->Prop}(hh:A.handled=none)(ht:s.heap.IsList t items)
  (hn:(assignEach bx env).length=items.size) (jb:(assignEach bx env).findIdx? (·.1)=none)
  (h:∀h',Heap.ExtBut s.heap.objs.size s.heap h'->wpAny (model prog w) A (assignInOrder ((assignEach bx env).map (·.2)) items.toList) Q E {s with heap:=h' }) :
  wpAny (model prog w) A (assign (.Tuple bx x1 pos) env (.ref t)) Q E s:=by
 rw[arm_assign_Tuple];refine sQ (wpAny_standAt ?_);unfold unpack;rw[hn,jb];refine sQ (wpAny_holding ?_);have fA:t≠s.heap.objs.size:=by obtain⟨o,ho,_⟩:=ht;exact tN (tj ho)
 unfold unpackItems;refine sQ ?_;unfold notIterableAtAll;refine sQ (wpAny_specialOf ht.typeIs slot_list_iter.lookup ?_);refine sV ?_;simp only[vB,if_false];refine sQ (wpAny_holding (wpAny_pyIter_list ht ?_));have jN:(s.heap.push {cls:=.type "list_iterator",data:=.fields #[.ref t,.int 0 0]}).IsList t items:=ht.at λo e=>sR _ e
 refine sQ (wpAny_holding (YA fA items.size 0 _ _ ⟨_,tq _ rfl,rfl,rfl⟩ jN (by lia) λaB dB bp=>?_));have dz:List.take items.size (List.drop 0 items.toList)=items.toList:=by rw[List.drop_zero];exact uF (by simp)
 rw[dz];rw[if_neg (by simp)];have jd:aB.IsList t items:=jN.at λo e=>(bp.2 t fA).trans e
 refine sQ (wpAny_holding (wpAny_pyNext_list_end hh dB jd (by simp) λcM dW=>?_));simp only[Option.isSome_none,vB,if_false];refine sV (h cM λb o hb e=>dW b o hb (bp.extBut b o hb (sR _ e)))
end
end PySem
namespace L2
open PySem PySem.Spec
section
variable{X:Cx}{pos:Pos}
inductive gLst(K:Fg)(n:Nat)(t:TGs)(v:V)(U:St)(H:Hp)(Q:St->Hp->Prop):Prop
 |mk (a xs:_) (h0:v=.ref a) (h1:SqL K H a xs) (h2:xs.length=n) (h3:t xs U H Q)
theorem Ww{es:List Expr}{k:Nat}{t:TGs}{n:Nat}(hc:X.calm=true)(h:PGs X es t)
  (hn:(assignEach es X.env).length=n:=by rfl) (dH:(assignEach es X.env).findIdx? (·.1)=none:=by rfl):PG X (.Tuple es k pos) (gLst X.K n t):=by
 intro aa s U H v u Q I r hw;obtain⟨a,xs,e1,hq,hl,hw⟩:=hw;subst e1;cases r;obtain⟨aq,rv,⟨o,m,e,c,d,hs⟩,hz⟩:=I.list hq;refine Et (I.ok.hd hc) ⟨o,e,c,m,hs⟩ (by simp[hn,<- hl,rv.length]) dH λh' hx=>?_
 have I1:Inv X aa U H {s with heap:=h' }:=I.kept (t':=s.toks) λb o e=>hx b o (tN (tj e)) e
 exact h aa _ U H xs _ Q I1 (by simpa using rv) hw
end
end L2
namespace PySem
namespace Zp
section
variable{prog:Program}{w:World}{A:Around}{E:Value->Shared->Prop}{s:Shared}{e it l:Addr}{xs:Array Value}{S:Nat->Heap->Prop}
theorem NV(W:Draws prog w it l xs S)(ei:e≠it)(le:l≠e){i:Nat}{x old:Value}{Q:Option Value->Shared->Prop}(he:IsEnum s.heap e it i old)(h1:S i s.heap)(hx:xs[i]?=some x)
  (hQ:∀h',IsEnumOut h' e it ((i:Int)+1) x s.heap.objs.size->S (i+1) h'->IsPair h' s.heap.objs.size (.int i s.toks) x->(∀c o,c≠e->c≠it->s.heap.get? c=some o->h'.get? c=some o)->Q (some (.ref s.heap.objs.size)) {s with heap:=h',toks:=s.toks+1}) :
  wpAny (model prog w) A (pyNext (.ref e)) Q E s:=by
 have hT:s.TypeIs (.ref e) "enumerate":=⟨_,he,rfl⟩
 unfold pyNext;refine sQ (wpAny_attempt (wpAny_callSpecial?_slot (name:=Str.ofString "__next__") hT F.slot_enumerate_next (wpAny_call_entry F.slot_enumerate_next hT F.entry_enumerate_next ?_ (F.args_enumerate_next_1 _))));obtain⟨hp,g,d,tk,os⟩:=s;show wpAny _ _ (field (.ref e) 2 >>= _) _ _ _;refine sQ (tZ he rfl (x:=.ref it) rfl ?_);refine sQ (W.item _ _ i x _ _ h1 hx λa s1 b1=>?_);replace b1:Heap.SameBut it hp a:=b1;have ea:IsEnum a e it i old:=(b1.2 e ei).trans he;show wpAny _ _ (field (.ref e) 3 >>= _) _ _ ⟨a,g,d,tk,os⟩;refine sQ (tZ ea rfl (x:=rawInt i) rfl ?_);show wpAny _ _ (field (.ref e) 4 >>= _) _ _ ⟨a,g,d,tk,os⟩;refine sQ (tZ ea rfl (x:=.none) rfl ?_);show wpAny _ _ (mkInt i >>= _) _ _ ⟨a,g,d,tk,os⟩;refine sQ (wpAny_mkInt ?_);show wpAny _ _ (setField (.ref e) 3 (rawInt ((i:Int)+1)) >>= _) _ _ ⟨a,g,d,tk+1,os⟩;refine sQ (wpAny_setField_rec ea (by simp) λb eb bb=>?_);replace bb:Heap.SameBut e a b:=bb;replace eb:IsEnum b e it ((i:Int)+1) old:=eb;show wpAny _ _ (setField (.ref e) 4 .none >>= _) _ _ ⟨b,g,d,tk+1,os⟩;refine sQ (wpAny_setField_rec eb (by simp) λc ec bc=>?_);replace bc:Heap.SameBut e b c:=bc;replace ec:IsEnum c e it ((i:Int)+1) old:=ec;show wpAny _ _ (newTuple [.int i tk,x] >>= _) _ _ ⟨c,g,d,tk+1,os⟩;refine sQ (wpAny_newTuple ?_);have sz:c.objs.size=hp.objs.size:=by rw[bc.1,bb.1,b1.1]
 have lt:e<hp.objs.size:=tj he;have keep:∀q o,q≠e->q≠it->hp.get? q=some o->c.get? q=some o:=λq o q1 q2 z=>bc.extBut q o q1 (bb.extBut q o q1 (b1.extBut q o q2 z))
 have sc:S (i+1) c:=W.keep _ _ _ s1 (λo z=>bc.extBut _ _ ei.symm (bb.extBut _ _ ei.symm z)) λo z=>bc.extBut _ _ le (bb.extBut _ _ le z)
 have ef:IsEnum (c.push {cls:=.type "tuple",data:=.seq #[.int i tk,x]}) e it ((i:Int)+1) old:=sR _ ec;show wpAny _ _ (Builtin.SmallTypes.ownedTupleIsFree (.ref e) >>= _) _ _ ⟨c.push {cls:=.type "tuple",data:=.seq #[.int i tk,x]},g,d,tk+1,os⟩;refine sQ ?_;unfold Builtin.SmallTypes.ownedTupleIsFree;refine sQ (tZ ef rfl (x:=.none) rfl (sV ?_));simp only[if_true];refine sQ (wpAny_rule ?_);refine sQ (tZ ef rfl (x:=old) rfl ?_);refine sQ (wpAny_setField_rec ef (by simp) λf eg bf=>?_);replace bf:Heap.SameBut e (c.push {cls:=.type "tuple",data:=.seq #[.int i tk,x]}) f:=bf;replace eg:IsEnum f e it ((i:Int)+1) x:=eg;show wpAny _ _ (Builtin.SmallTypes.ownedTupleHandOut (.ref e) (.ref c.objs.size) >>= _) _ _ ⟨f,g,d,tk+1,os⟩;refine sQ ?_;unfold Builtin.SmallTypes.ownedTupleHandOut;refine sQ (wpAny_setField_rec eg (by simp) λk ek bk=>?_);replace bk:Heap.SameBut e f k:=bk;replace ek:IsEnumOut k e it ((i:Int)+1) x c.objs.size:=ek;refine wpAny_setField_rec ek (by simp) λm em bm=>?_;replace bm:Heap.SameBut e k m:=bm;replace em:IsEnumOut m e it ((i:Int)+1) x c.objs.size:=em
 have up:∀q o,q≠e->(c.push {cls:=.type "tuple",data:=.seq #[.int i tk,x]}).get? q=some o->m.get? q=some o:=λq o q1 z=>bm.extBut q o q1 (bk.extBut q o q1 (bf.extBut q o q1 z))
 refine sQ (wpAny_letGo (sV ⟨_,rfl,sV ?_⟩));have ne:hp.objs.size≠e:=vw lt;rw[sz]at em ⊢;exact hQ m em (W.keep _ _ _ sc (λo z=>up _ o ei.symm (sR _ z)) λo z=>up _ o le (sR _ z)) (up _ _ ne (by rw[<- sz];exact tq _ rfl)) λq o q1 q2 z=>up q o q1 (sR _ (keep q o q1 q2 z))
theorem Qr(hh:A.handled=none)(W:Draws prog w it l xs S){i:Nat}{old:Value}{Q:Option Value->Shared->Prop}(he:IsEnum s.heap e it i old)(h1:S i s.heap)(hx:xs[i]?=none)
  (hQ:∀h',Heap.ExtBut it s.heap h'->Q none {s with heap:=h' }):wpAny (model prog w) A (pyNext (.ref e)) Q E s:=by
 have hT:s.TypeIs (.ref e) "enumerate":=⟨_,he,rfl⟩
 unfold pyNext;refine sQ (wpAny_attempt (wpAny_callSpecial?_slot (name:=Str.ofString "__next__") hT F.slot_enumerate_next (wpAny_call_entry F.slot_enumerate_next hT F.entry_enumerate_next ?_ (F.args_enumerate_next_1 _))));show wpAny _ _ (field (.ref e) 2 >>= _) _ _ _;refine sQ (tZ he rfl (x:=.ref it) rfl ?_);refine sQ (W.stop _ _ i _ _ hh h1 hx λh' x iU eQ=>?_);obtain⟨o,ho,hc⟩:=eQ;refine sQ (wpAny_isInstance (T:="StopIteration") (b:=true) ⟨o,ho,hc⟩ isSubtype_stop ?_);exact sV (hQ _ iU)
end
noncomputable def UO(i:Addr):Obj:={cls:=.type "enumerate",data:=.fields #[.none,.bool false,.ref i,rawInt 0,.none,.none]}
set_option tactic.hygienic true in
theorem JS(l:Addr)(xs:Array Value)(n:Nat)(dc:Option Addr)(sl:Array (Option Value)) :
  Meets (Builtin.«enumerate.__new__» ⟨[.type "enumerate",.ref l],[]⟩) (λ_ R s=>s.heap.get? l=some {cls:=.type "tuple",dict:=dc,data:=.seq xs n,slots:=sl} /\
   R (.ok (.ret (.ref (s.heap.push (Eh "tuple_iterator" l)).objs.size))) {s with heap:=(s.heap.push (Eh "tuple_iterator" l)).push (UO s.heap.objs.size)}) :=
 .of_wp λprog w A R s h=>by
  obtain⟨hp,g,d,tk,os⟩:=s;obtain⟨hl,h⟩:=h;have gn:=sub_enumerate;have hL:Heap.IsTuple (Shared.heap ⟨hp,g,d,tk,os⟩) l xs:=⟨_,hl,rfl,n,rfl⟩
  wp_walk using wpAny_loadPart' hl
  refine wpAny_stack_any λst=>sV ?_
  split
  next c _ _ _ _ _=>cases(c==Value.type "enumerate")<;>(wp_walk using wpAny_loadPart' hl,wpAny_pyIter_tuple hL;exact⟨_,rfl,h⟩)
  .wp_walk using wpAny_loadPart' hl,wpAny_pyIter_tuple hL;exact⟨_,rfl,h⟩
section
variable{prog:Program}{w:World}{A:Around}{E:Value->Shared->Prop}{s:Shared}
theorem Of(b:Bool){l:Addr}{xs:Array Value}{Q:Value->Shared->Prop}(c:Dg b s.heap l xs)
  (h:∀h',IsEnum h' (s.heap.objs.size+1) s.heap.objs.size 0 .none->EG b h' s.heap.objs.size l 0->(∀c o,s.heap.get? c=some o->h'.get? c=some o)->Q (.ref (s.heap.objs.size+1)) {s with heap:=h' }) :
  wpAny (model prog w) A (call (.type "enumerate") [.ref l]) Q E s:=by
 cases b
 .exact call_enumerate_list c λh' a1 a2 _ a4=>h h' a1 a2 a4
 .obtain⟨⟨cc,dc,dt,sl⟩,hl,hc,n,hd⟩:=c;replace hc:cc=.type "tuple":=hc;replace hd:dt=.seq xs n:=hd;subst hc hd;refine callType_new F.called_enumerate (by decide) (F.typeCall_enumerate_1 _) (F.newCall_enumerate_1 _) (λobj=>F.args_object_init_2 obj _) F.entry_enumerate_new (JS l xs n dc sl) ⟨hl,?_⟩;have hz:(s.heap.push (Eh "tuple_iterator" l)).objs.size=s.heap.objs.size+1:=uD ..;have he:IsEnum ((s.heap.push (Eh "tuple_iterator" l)).push (UO s.heap.objs.size)) (s.heap.objs.size+1) s.heap.objs.size 0 .none:=by have:=tq (s.heap.push (Eh "tuple_iterator" l)) (o:=UO s.heap.objs.size) rfl;rw[hz]at this;exact this
  show _/\_;rw[hz];exact⟨⟨_,he,rfl⟩,h _ he (EG.new (b:=true) (sR _ (tq _ rfl))) λb o x=>sR _ (sR _ x)⟩
end
end Zp
end PySem
namespace L2
open PySem PySem.Spec PyProof.Rows
def Ite(K:Fg)(b:Bool)(a:Addr):It :=
  ⟨λi H=>∃xs x,SqB b K H a xs/\xs[i]?=some x,
   λi H x H'=>∃T vx,H T=none/\x=.ref T/\H'=upd H T (.tup [.int i,vx])/\∀xs,SqB b K H a xs->xs[i]?=some vx,
   λi H=>∃xs,SqB b K H a xs/\xs.length<=i⟩
theorem Mn{P:Program}{w:World}{K:Fg}{bx:List Expr}{k0:Nat}{bH:Pos}{b:Bool}{a e it:Addr}(ei:e≠it)(ae:a≠e)(ai:a≠it) :
  Turn P w K (.Tuple bx k0 bH) (Ite K b a) [e,it] e (λi h=>(∃old,IsEnum h e it i old)/\Zp.EG b h it a i) where
 mem:=by simp
 obj:=λi h st c hc=>by
  obtain⟨⟨old,he⟩,h1⟩:=st;simp only[tH,ue,or_false]at hc;rcases hc with rfl|rfl
  .exact⟨_,he,λv z=>nomatch z⟩
  .exact h1.obj
 keep:=λi h h' st k=>by obtain⟨⟨old,he⟩,h1⟩:=st;exact⟨⟨old,k e (by simp) _ he⟩,h1.at λo z=>k it (by simp) o z⟩
 item:=by
  intro X hP hw hK hc i aa s U H E I hf st hg;subst hP hw hK;obtain⟨⟨old,he⟩,h1⟩:=st;obtain⟨xs,x,q1,ex⟩:=hg;obtain⟨aq,r1,c1,z1⟩:=I.sqb q1;obtain⟨u1,kW,lx⟩:=r1.get ex;refine Zp.NV (Zp.A9 b ai) ei ae he ⟨h1,c1⟩ (x:=u1) (by simpa using kW) λh' eo s' hT hk=>⟨_,rfl,?_⟩
  refine wpAny_letOwnedTupleGo_enum eo λh2 e2 sb=>?_
  have Tn:∀{c o},s.heap.get? c=some o->c≠s.heap.objs.size:=λq=>tN (tj q)
  have Il:Inv X aa U (upd H s.heap.objs.size (.tup [.int i,x])) {s with heap:=s.heap.push {cls:=.type "tuple",data:=.seq #[.int i s.toks,u1]},toks:=s.toks+1} :=
   I.laid (λb o e=>sR _ e) (tJ _) ⟨by show 2<=sizeLine;rw[sizeLine_eq];decide,[.int i s.toks,u1],.cons ⟨_,rfl⟩ (.cons lx .nil),⟨_,tq _ rfl,rfl,_,rfl,rfl⟩⟩
  have fA:∀c∈[e,it],c≠s.heap.objs.size:=λc hc=>by
   simp only[tH,ue,or_false]at hc;rcases hc with rfl|rfl
   .exact Tn he
   .obtain⟨o,q,_⟩:=h1.obj;exact Tn q
  have iV:∀c∈[e,it],Jo X aa (upd H s.heap.objs.size (.tup [.int i,x])) c:=λc hc=>by obtain⟨f0,f⟩:=hf c hc;exact⟨by rw[Aj (fA c hc)];exact f0,f⟩
  have I2:Inv X aa U (upd H s.heap.objs.size (.tup [.int i,x])) {s with heap:=h2,toks:=s.toks+1}:=Il.Hd (t':=s.toks+1) (λc o hc z=>by
   have ne:c≠e:=λq=>hc (by simp[q])
   refine sb.extBut _ _ ne ?_;by_cases cT:c=s.heap.objs.size
   .subst cT;have z':(s.heap.push {cls:=.type "tuple",data:=.seq #[.int i s.toks,u1]}).get? s.heap.objs.size=some o:=z;rw[tq _ rfl]at z';cases z';exact hT
   .have z':(s.heap.push {cls:=.type "tuple",data:=.seq #[.int i s.toks,u1]}).get? c=some o:=z;rw[Heap.get?_push_ne _ _ _ cT]at z';exact hk c o ne (λq=>hc (by simp[q])) z') iV
  refine⟨.ref s.heap.objs.size,_,I2,rfl,⟨s.heap.objs.size,x,I.z9.fresh (tJ _),rfl,rfl,λzs hz=>by rw[I.Jx hz q1];exact ex⟩,?_,λc hc=>(iV c hc).1⟩;exact⟨⟨_,by simpa using e2⟩,s'.1.at λo z=>sb.extBut _ _ ei.symm z⟩
 done:=by intro X hP hw hK hc i aa s U H E I hf st hg;subst hP hw hK;obtain⟨⟨old,he⟩,h1⟩:=st;obtain⟨xs,q1,bE⟩:=hg;obtain⟨aq,r1,c1,z1⟩:=I.sqb q1;have e1:=r1.length;exact Zp.Qr (I.ok.hd hc) (Zp.A9 b ai) he ⟨h1,c1⟩ (by simp;lia) λh' hk=>⟨rfl,I.Hd (t':=s.toks) (λc o hc z=>hk c o (λq=>hc (by simp[q])) z) hf⟩
 self:=λ_ _ _ _ _ st h=>by obtain⟨⟨old,he⟩,_⟩:=st;exact wpAny_pyIter_enum he h
def JaK(K:Fg)(ta:TA):TI:=λU H R=>ta U H λvs H1=>∃b a,vs=[.ref a]/\(∃xs,SqB b K H1 a xs)/\R (Ite K b a) H1
theorem SW{X:Cx}{a:Expr}{ta:TA}{p pos bH:Pos}{bx:List Expr}{k0:Nat}(hg:Gl X "enumerate")(hm:X.mg "enumerate"=none)(ha:PA X [a] ta)(hs:starEach [a] X.env=[(false,eval a X.env)]:=by rfl) :
  PI X (.Tuple bx k0 bH) (.Call (.Name "enumerate" p) [a] [] pos) (JaK X.K ta):=by
 intro aa s U H R I h;refine Call_ (Ey I hg hm boot_enumerate (callWith_type1 (thn (ha pos aa s U H _ I h) λus s1 ao=>?_) (by rw[hs];rfl) (by rfl)));obtain⟨vs,H1,I1,r1,q1⟩:= ao;obtain⟨b,a1,e,⟨xs,hx⟩,q⟩:=q1;subst e;cases r1 with
 |cons r rr =>
  cases rr;cases r;obtain⟨aq,rv,c,_⟩:=I1.sqb hx;have lt:@LT.lt Nat _ a1 s1.heap.objs.size:=by
   cases b
   .obtain⟨o,e,_⟩:=c;exact tj e
   .obtain⟨o,e,_⟩:=c;exact tj e
  refine Zp.Of b c λh' he hi hk=>?_
  refine wpAny_pyIter_enum he ⟨s1.heap.objs.size+1,[s1.heap.objs.size+1,s1.heap.objs.size],_,Ite X.K b a1,H1,rfl,I1.kept (t':=s1.toks) hk,Mn (by intro z;have z2:@Eq Nat _ _:=z;lia) (by intro z;have z2:@Eq Nat _ _:=z;lia) (by intro z;have z2:@Eq Nat _ _:=z;lia),⟨⟨_,he⟩,hi⟩,λc hc=>?_,q⟩;have gK:@LE.le Nat _ s1.heap.objs.size c:=by
   simp only[tH,ue,or_false]at hc;rcases hc with rfl|rfl
   .exact Nat.le_succ _
   .exact tJ _
  exact I1.RD gK (I1.z9.fresh gK)
end L2
namespace PySem
namespace Zp
theorem JaE:typeLookup (.type "list") "keys"=pure none:=by rw[typeLookup_type,builtinLookup_eq_fast];kernel_rfl
theorem Z0:typeLookup (.type "tuple") "keys"=pure none:=by rw[typeLookup_type,builtinLookup_eq_fast];kernel_rfl
inductive CtB(b:Bool)(h:Heap)(l:Addr)(xs:Array Value):Prop
 |mk (o:_) (h0:h.get? l=some o) (h1:o.cls=.type (if b then "tuple" else "list")) (h2:(∃n,o.data=.seq xs n)) (h3:o.dict=none)
theorem CtB.ct{b:Bool}{h:Heap}{l:Addr}{xs:Array Value}(c:CtB b h l xs):Dg b h l xs:=by
 obtain⟨o,e,h1,h2,_⟩:=c;cases b
 .exact⟨o,e,h1,h2⟩
 .exact⟨o,e,h1,h2⟩
section
variable{prog:Program}{w:World}{A:Around}{E:Value->Shared->Prop}{s:Shared}{b:Bool}{l it:Addr}{xs:Array Value}
theorem OQ{Q:Option Value->Shared->Prop}(c:CtB b s.heap l xs)(hA:A.handled=none)(h:∀h' tk,(∀b o,s.heap.get? b=some o->h'.get? b=some o)->Q none {s with heap:=h',toks:=tk}):wpAny (model prog w) A (getAttr? (.ref l) "keys") Q E s:=by
 obtain⟨⟨c,r8,dat,sl⟩,hx,hc,⟨n,gf⟩,hd⟩:=c;simp only at hc gf hd;subst gf hd;have gL:(["__module__","__name__","__qualname__","__doc__","__annotations__"]:List Str).contains "keys"=false:=by decide +kernel
 obtain⟨hp,g,d,tk,os⟩:=s;have f1:=sub_AttributeError;cases b
 .simp only[vB,if_false]at hc;subst hc;have hT:∀fE,(⟨hp,g,d,fE,os⟩:Shared).TypeIs (.ref l) "list":=λ_=>⟨_,hx,rfl⟩
  have f3:=F.slot_list_getattribute.lookup;have f4:=F.slot_list_getattribute.bind (.ref l);have f5:=am_list_getattr_none;unfold getAttr? getAttrBy? getAttrBy
  repeat (any_goals (first|assumption|exact hT _|((with_reducible show wpAny _ _ (call (Value.builtin "list.__getattribute__") _ _) _ _ _);refine call_meets F.slot_list_getattribute (hT _) am_entry_list_getattribute (F.args_list_getattribute_2 _ _) (meets_getattribute_miss_list l xs n sl "keys" _ JaE gL) ⟨hx,hA,λh' fE e eQ=>?_⟩)|wp_step))
  obtain⟨t',u',he⟩:=eQ.there;show wpAny _ _ (getattributeRaised _ _ _ _ _ _ _) _ _ _;unfold getattributeRaised
  repeat (any_goals (first|assumption|wp_step))
  exact h h' fE eQ.1
 .simp only[if_true]at hc;subst hc;have hT:∀fE,(⟨hp,g,d,fE,os⟩:Shared).TypeIs (.ref l) "tuple":=λ_=>⟨_,hx,rfl⟩
  have f3:=F.slot_tuple_getattribute.lookup;have f4:=F.slot_tuple_getattribute.bind (.ref l);have f5:=am_tuple_getattr_none;unfold getAttr? getAttrBy? getAttrBy
  repeat (any_goals (first|assumption|exact hT _|((with_reducible show wpAny _ _ (call (Value.builtin "tuple.__getattribute__") _ _) _ _ _);refine call_meets F.slot_tuple_getattribute (hT _) am_entry_tuple_getattribute (F.args_tuple_getattribute_2 _ _) (meets_getattribute_miss_tuple l xs n sl "keys" _ Z0 gL) ⟨hx,hA,λh' fE e eQ=>?_⟩)|wp_step))
  obtain⟨t',u',he⟩:=eQ.there;show wpAny _ _ (getattributeRaised _ _ _ _ _ _ _) _ _ _;unfold getattributeRaised
  repeat (any_goals (first|assumption|wp_step))
  exact h h' fE eQ.1
theorem TB{i:Nat}{x:Value}{Q:Option Value->Shared->Prop}(bP:EG b s.heap it l i)(hl:Dg b s.heap l xs)(hx:xs[i]?=some x)(hQ:∀h',EG b h' it l (i+1)->Heap.SameBut it s.heap h'->Q (some x) {s with heap:=h' }):wpAny (model prog w) A (pyNext (.ref it)) Q E s:=by
 cases b
 .exact wpAny_pyNext_list_item bP hl hx hQ
 .exact wpAny_pyNext_tuple_item bP hl hx hQ
theorem W7{i:Nat}{Q:Option Value->Shared->Prop}(hh:A.handled=none)(bP:EG b s.heap it l i)(hl:Dg b s.heap l xs)(hx:xs[i]?=none)(hQ:∀h',Heap.ExtBut it s.heap h'->Q none {s with heap:=h' }):wpAny (model prog w) A (pyNext (.ref it)) Q E s:=by
 cases b
 .exact wpAny_pyNext_list_end hh bP hl hx hQ
 .exact wpAny_pyNext_tuple_end hh bP hl hx hQ
end
section
variable{prog:Program}{w:World}{A:Around}{E:Value->Shared->Prop}{s:Shared}{it l S:Addr}{xs:Array Value}{b:Bool}{R:Result->Shared->Prop}{K:Type}[DecidableEq K]{knd:KeyKind prog w K}
def JbU(knd:KeyKind prog w K)(h:Heap)(xs:Array Value)(ah:List (K×Value)):Prop:=ah.length=xs.size/\∀(i:Nat)(x:Value),xs[i]?=some x->∃p k kv u,x=.ref p/\ah[i]?=some (k,u)/\knd.is k kv=true/\h.IsTuple p #[kv,u]
theorem Mj(hh:A.handled=none)(ne:l≠it)(dy:S≠it){ah:List (K×Value)}{aB:Heap}(hp:JbU knd aB xs ah)(qJ:∀p∈xs,p≠.ref S/\p≠.ref it)(hn:xs.size<=sizeLine)(res:Value)
  (hR:∀h' tk,(∀b o,b≠S->b≠it->aB.get? b=some o->h'.get? b=some o)->h'.DictOf knd S (merged [] ah)->R (.ok (.ret res)) {s with heap:=h',toks:=tk}) :
  ∀(k i:Nat)(h:Heap)(tk:Nat),xs.size-i=k->i<=xs.size->EG b h it l i->Dg b h l xs->(∀b o,b≠S->b≠it->aB.get? b=some o->h.get? b=some o)->h.DictOf knd S (merged [] (ah.take i))->l≠S ->
   codeAny (model prog w) A (.builtin "dict.update.loop" ⟨[.ref S,.ref it,rawInt i,res],[]⟩) R {s with heap:=h,toks:=tk}:=by
 obtain⟨kl,hp⟩:=hp;intro k
 induction k with
 |zero =>intro i h tk hk hi bP c bJ hS kH;refine codeAny_builtin D4 ?_;rw[Around.under_plainId CA _];show wpAny _ A.in1 (pyNext (.ref it) >>= _) _ _ _;refine sQ (W7 (s:={s with heap:=h,toks:=tk}) (A:=A.in1) hh bP c (by rw[vv];lia) λh' he=>?_);show wpAny _ _ (Builtin.Dict.addKeywords S [] >>= _) _ _ _;refine sQ (sV (sV (hR h' tk (λb o q1 q2 e=>he b o q2 (bJ b o q1 q2 e)) ?_)));rw[uF (by lia)]at hS;obtain⟨o,es,ep,ho,r⟩:=hS;exact⟨o,es,ep,he S _ dy ho,r⟩
 |succ k ih =>
  intro i h tk hk hi bP c bJ hS kH;have fA:i<xs.size:=by lia
  obtain⟨p,κ,kv,u,ex,ek,kZ,ht⟩:=hp i _ (uu fA);have i8:=qJ xs[i] (Array.getElem_mem fA);rw[ex]at i8;have pS:p≠S:=λe=>i8.1 (by rw[e])
  have pI:p≠it:=λe=>i8.2 (by rw[e])
  refine codeAny_builtin D4 ?_;rw[Around.under_plainId CA _];show wpAny _ A.in1 (pyNext (.ref it) >>= _) _ _ _;refine sQ (TB (s:={s with heap:=h,toks:=tk}) bP c (uu fA) λh' kE bj=>?_);rw[ex];dsimp only at bj ⊢;have jS:∀b o,b≠it->h.get? b=some o->h'.get? b=some o:=λb o q e=>bj.extBut b o q e
  have qd:h'.DictOf knd S (merged [] (ah.take i)):=by obtain⟨o,es,ep,ho,r⟩:=hS;exact⟨o,es,ep,jS S _ dy ho,r⟩
  obtain⟨o,ho,oc,n,od⟩:=ht;have bC:h'.get? p=some o:=jS p o pI (bJ p o pS pI ho);refine sQ (wpAny_holding ?_);refine sQ (wpAny_tryCatch ?_);unfold Builtin.Dict.pairItems;refine sQ (wpAny_typeOf (T:="tuple") ⟨_,bC,oc⟩ ?_);rw[if_pos (by decide)];refine sQ (wpAny_seqItems bC od (sV ?_));show wpAny _ _ (holding [kv,u] (dictSet S kv u)) _ _ _;refine wpAny_holding (wpAny_dictSet_pairs (s:={s with heap:=h',toks:=tk}) kZ qd (λh2 hd2 sb=>?_) (tQ (merged_length_le _ _) (by simp only[vo,uh];lia)));rw[<- merged_take_succ _ _ _ _ ek]at hd2;have up:∀b o,b≠S->h'.get? b=some o->h2.get? b=some o:=λb o hb e=>sb.extBut b o hb e
  exact sV ⟨plainId_quiet CA _,ih (i+1) h2 (tk+1) (by lia) (by lia) (kE.at λo e=>up _ o (Ne.symm dy) e) ((c.at λo e=>jS _ o ne e).at λo e=>up _ o kH e) (λb o q1 q2 e=>up b o q1 (jS b o q2 (bJ b o q1 q2 e))) hd2 kH⟩
theorem FV{Q:Value->Shared->Prop}(hh:A.handled=none)(c:CtB b s.heap l xs){ah:List (K×Value)}(hp:JbU knd s.heap xs ah)(hn:xs.size<=sizeLine)
  (hQ:∀h' tk,(∀b o,s.heap.get? b=some o->h'.get? b=some o)->h'.DictOf knd s.heap.objs.size (merged [] ah)->Q (.ref s.heap.objs.size) {s with heap:=h',toks:=tk}) :
  wpAny (model prog w) A (call (.type "dict") [.ref l]) Q E s:=by
 refine callType_codes (Q₁:=λobj az=>obj=.ref s.heap.objs.size/\az={s with heap:=s.heap.push {cls:=.type "dict",data:=.dict #[]} }) F.kt_called_dict (F.kt_typeCall_dict_1 _) F.entry_dict_init (kt_code_dict_new _ ⟨rfl,rfl⟩) ?_
 rintro obj az ⟨rfl,rfl⟩
 have de:(s.heap.push {cls:=.type "dict",data:=.dict #[]}).DictOf knd s.heap.objs.size []:=Heap.DictOf.new s.heap;have z6:∀b o,s.heap.get? b=some o->(s.heap.push {cls:=.type "dict",data:=.dict #[]}).get? b=some o:=λb o e=>sR _ e
 obtain⟨o,ho,oc,od,ob⟩:=id c;refine⟨de.typeIs,F.args_dict_init_2 _ _,?_⟩;unfold Builtin.«dict.__init__»;refine sQ ?_;unfold Builtin.Dict.selfAndRest;refine sQ (wpAny_notOrdered_dict de.typeIs ?_);show wpAny _ _ (pure (s.heap.objs.size,[Value.ref l])) _ _ _;refine sV ?_;show wpAny _ _ (Builtin.Dict.updateFrom "dict.__init__" s.heap.objs.size (.ref l) [] .none) _ _ _;unfold Builtin.Dict.updateFrom;refine sQ (wpAny_typeOf (T:=if b then "tuple" else "list") ⟨_,z6 _ _ ho,oc⟩ ?_);rw[if_pos (by cases b<;>decide)];refine sQ (OQ (s:={s with heap:=s.heap.push {cls:=.type "dict",data:=.dict #[]} }) (b:=b) (xs:=xs) ⟨o,z6 _ _ ho,oc,od,ob⟩ hh λh2 j6 k2=>?_);have up:∀b o,s.heap.get? b=some o->h2.get? b=some o:=λb o e=>k2 b o (z6 b o e)
 simp only[Option.isNone_none,if_true];refine sQ (wpAny_rule ?_);refine sQ (IE b l xs (s:={s with heap:=h2,toks:=j6}) (c.ct.at λo e=>up _ o e) ?_);have df:h2.DictOf knd s.heap.objs.size []:=by obtain⟨o,es,ep,ho,r⟩:=de;exact⟨o,es,ep,k2 _ _ ho,r⟩
 have lS:s.heap.objs.size<h2.objs.size:=by obtain⟨o,es,ep,ho,_⟩:=df;exact tj ho
 have j7:∀c o,h2.get? c=some o->(h2.push (Eh (BQ b) l)).get? c=some o:=λc o e=>sR _ e
 have jV:∀{a:Addr}{o:Obj},s.heap.get? a=some o->a<s.heap.objs.size:=λe=>tj e
 have ll:=jV ho;have i7:(h2.push (Eh (BQ b) l)).DictOf knd s.heap.objs.size []:=by obtain⟨o,es,ep,ho,r⟩:=df;exact⟨o,es,ep,j7 _ _ ho,r⟩
 refine sV ⟨plainId_quiet CA _,Mj (A:=A.in1) (s:=s) (aB:=h2.push (Eh (BQ b) l)) (it:=h2.objs.size) (S:=s.heap.objs.size) (b:=b) (xs:=xs) (knd:=knd) hh (tN (uC ll lS)) (tN lS) ⟨hp.1,λi x ex=>?_⟩ (λp mp=>?_) hn .none (λh' tk kp dd=>?_) xs.size 0 (h2.push (Eh (BQ b) l)) j6 rfl (vG _) (EG.new (tq _ rfl)) ((c.ct.at λo e=>up _ o e).at λo e=>j7 _ o e) (λ_ _ _ _ e=>e) (by simpa[merged]using i7) (tN ll)⟩
 .obtain⟨p,k,kv,u,e1,e2,e3,o,e4,r⟩:=hp.2 i x ex;exact⟨p,k,kv,u,e1,e2,e3,o,j7 _ _ (up _ _ e4),r⟩
 .obtain⟨i,hi,e⟩:=Array.getElem_of_mem mp;obtain⟨q,k,kv,u,e1,e2,e3,o,e4,r⟩:=hp.2 i p (by rw[<- e];exact uu hi);have hq:=jV e4;rw[e1];exact⟨λz=>tN hq (Value.ref.inj z),λz=>tN (uC hq lS) (Value.ref.inj z)⟩
 .exact⟨rfl,hQ h' tk (λc o e=>kp c o (tN (jV e)) (tN (uC (jV e) lS)) (j7 _ _ (up _ _ e))) dd⟩
end
end Zp
end PySem
namespace L2
open PySem PySem.Spec PyProof.Rows
def Y3(H:Hp):List V->List (Key×V)->Prop:=Paired λ(v:V)(kv:Key×V)=>∃p,v=.ref p/\Rd H p (.tup [kV kv.1,kv.2])
theorem Kx{P:Program}{w:World}{H:Hp}{h:Heap}(z9:HOk P w H h):∀{vs:List V}{aq:List Value}{ah:List (Key×V)},Vals vs aq->Y3 H vs ah->∃gQ:List (Key×Value),KV ah gQ/\gQ.length=aq.length/\gQ.map (·.1)=ah.map (·.1)/\∀(i:Nat)(x:Value),aq[i]?=some x->∃p k kv u,x=.ref p/\gQ[i]?=some (k,u)/\(AR P w).is k kv=true/\h.IsTuple p #[kv,u]
 |_,_,_,.nil,.nil=>⟨[],.nil,rfl,rfl,λi x e=>by simp at e⟩
 |_,_,(k,y)::_,.cons r rr,.cons hp i8=>by obtain⟨gQ,h1,h2,h3,h4⟩:=Kx z9 rr i8;obtain⟨p,rfl,hd⟩:=hp;cases r;obtain⟨_,aq,rt,o,e,c,n,d,_⟩:=hd.ok z9;cases rt with|cons ra rb =>cases rb with|cons rb rc =>cases rc;refine⟨(k,_)::gQ,.cons ⟨rfl,rb⟩ h1,by simp[h2],by simp[h3],λi x ex=>?_⟩;cases i with|zero =>simp at ex;subst ex;exact⟨p,k,_,_,rfl,rfl,ID ra,o,e,c,n,d⟩|succ i=>exact h4 i x (by simpa using ex)
section
variable{X:Cx}
theorem LV(hc:X.calm=true):BU X (.type "dict") (λxs H Q=>∃(b:Bool)(a:Addr)(vs:List V)(ah:List (Key×V)),xs=[.ref a]/\Rd H a (if b then .tup vs else .lst vs)/\Y3 H vs ah/\(ah.map (·.1)).Nodup/\∀l,H l=none->Q (.ref l) (upd H l (.l ah))):=by
 intro aa s U H xs us Q I r h;obtain⟨b,a,vs,ah,rfl,ha,hp,nd,q⟩:=h;obtain⟨u,rfl,rx⟩:=vals1 r;cases rx;obtain⟨aq,rv,cb,hz⟩:∃aq:List Value,Vals vs aq/\Zp.CtB b s.heap a aq.toArray/\vs.length<=sizeLine:=by
  cases b
  .obtain⟨z,aq,n,r,e⟩:=ha.ok I.z9;exact⟨aq,r,⟨_,e,rfl,⟨n,rfl⟩,rfl⟩,z⟩
  .obtain⟨z,aq,r,o,e,c,n,d,dn⟩:=ha.ok I.z9;exact⟨aq,r,⟨o,e,c,⟨n,d⟩,dn⟩,z⟩
 obtain⟨gQ,kv,kl,kk,kp⟩:=Kx I.z9 rv hp;have e1:=rv.length;refine Zp.FV (b:=b) (xs:=aq.toArray) (knd:=AR X.prog X.w) (I.ok.hd hc) cb ⟨by simpa using kl,λi x ex=>kp i x (by simpa using ex)⟩ (by simp only[tK];lia) λh' tk hk dd=>?_
 rw[merged_nil_of_nodup _ (by rw[kk];exact nd)]at dd;exact⟨.ref s.heap.objs.size,_,I.laid (a:=s.heap.objs.size) (o:=.l ah) (t':=tk) hk (tJ _) (KW (by have:=kv.length;lia) (beq_eq_false_iff_ne.mpr (Ne.symm (tN I.big))) kv dd),rfl,q _ (I.z9.fresh (tJ _))⟩
end
end L2
namespace FL
open PySem PySem.Spec L2
inductive T where
 |o|v (b:Bool)|int (i:Int)|str (x:Str)
 |tup (ts:List T)|lst (ts:List T)
 |zY (ts:List T)
 |l (ks:List Key) (ts:List T)|dT (ks:List (List Key)) (ts:List T)
 |ins (C:Addr) (fs:List Str) (ts:List T)
 |dF (ks:List Key) (ts:List T)
 |zD (c:Str)
inductive FO where
 |lst (ts:List T)|l (ks:List Key) (ts:List T)|dT (ks:List (List Key)) (ts:List T)
 |ins (C:Addr) (fs:List Str) (os:List FO)|val (t:T)
 |zb (os:List FO)|y0 (os:List FO)
 |dO (ks:List Key) (os:List FO)|la (p:Addr) (ts:List T)
inductive Sl where
 |val (t:T)|own (o:FO)|bor (o:FO)
abbrev FS:=List (Option Sl)
inductive Rv where
 |t (t:T)|nw (o:FO)|n (i:Nat)
inductive Out(α:Type) where
 |ok (a:α) (fs:FS)|exc (c:Str) (fs:FS)|bad
inductive SO where
 |nx (fs:FS)|ret (r:Rv) (fs:FS)|brk (fs:FS)|cnt (fs:FS)|exc (c:Str) (fs:FS)|bad
structure Wd where
 f:Addr->Prop
 p:Addr->Prop
instance:CoeFun Wd λ_=>Addr->Prop:=⟨Wd.f⟩
structure Le(F:Wd)(H:Hp)(F':Wd)(H':Hp):Prop where
 f:∀a,F a->F' a/\H' a=H a
 p:∀a,F.p a->F'.p a/\H' a=H a
theorem Le.refl:Le F H F H:=⟨λ_ h=>⟨h,rfl⟩,λ_ h=>⟨h,rfl⟩⟩
theorem Le.trans(x:Le F H F1 H1)(y:Le F1 H1 F2 H2):Le F H F2 H2 :=
 ⟨λa h=>let⟨p,q⟩:=x.f a h;let⟨p2,q2⟩:=y.f a p;⟨p2,q2.trans q⟩,λa h=>let⟨p,q⟩:=x.p a h;let⟨p2,q2⟩:=y.p a p;⟨p2,q2.trans q⟩⟩
section
variable(K:Fg)
def KL(a:Addr)(vs:List V):Prop:=∃(o:Obj)(aq:Array Value)(n:Nat),K.lookup a=some o/\o.cls=.type "list"/\o.dict=none/\o.data=.seq aq n/\aq.size<=sizeLine/\Vals vs aq.toList
def StL(F:Wd)(H:Hp)(a:Addr)(vs:List V):Prop:=(F a/\Rd H a (.lst vs))\/KL K a vs
def StT(F:Wd)(H:Hp)(a:Addr)(vs:List V):Prop:=K=K/\F a/\H a=some (.tup vs)
end
section
variable{K:Fg}{F F':Wd}{H H':Hp}{a:Addr}{vs:List V}
theorem StL.sq(h:StL K F H a vs):SqL K H a vs:=by
 rcases h with⟨_,h⟩|h
 .exact .inl h
 .exact .inr h
theorem StT.sq(h:StT K F H a vs):SqT K H a vs:=SqT.of h.2.2
theorem Rd.same(h:Rd H a u)(e:H' a=H a):Rd H' a u:=by unfold Rd at *;rwa[e]
theorem StL.le(h:StL K F H a vs)(l:Le F H F' H'):StL K F' H' a vs:=by
 rcases h with⟨f,h⟩|h
 .exact .inl ⟨(l.f a f).1,FL.Rd.same h (l.f a f).2⟩
 .exact .inr h
theorem StT.le(h:StT K F H a vs)(l:Le F H F' H'):StT K F' H' a vs:=⟨rfl,(l.f a h.2.1).1,(l.f a h.2.1).2.trans h.2.2⟩
end
noncomputable def CJ(K:Fg)(c:Str):Option Addr:=match nsIn K mainGlobals c with|some (some (.ref C))=>some C|_=>none
section
variable(K:Fg)(F:Wd)(H:Hp)
mutual
def AF:T->V->Prop
 |.o,v=>v=.o
 |.v b,v=>v=.v b
 |.int i,v=>v=.int i
 |.str x,v=>v=.str x
 |.tup ts,v=>∃a vs,v=.ref a/\StT K F H a vs/\Ag ts vs
 |.lst ts,v=>∃a vs,v=.ref a/\F a/\H a=some (.lst vs)/\Ag ts vs
 |.zY ts,v=>∃a vs,v=.ref a/\StL K F H a vs/\Ag ts vs
 |.l ks ts,v=>∃a ah,v=.ref a/\F a/\Rd H a (.l ah)/\ah.map (·.1)=ks/\Ag ts (ah.map (·.2))
 |.dT ks ts,v=>∃a ah,v=.ref a/\F a/\H a=some (.dT ah)/\ah.map (·.1)=ks/\Ag ts (ah.map (·.2))
 |.ins C fs ts,v=>∃a dx ah,v=.ref a/\F a/\H a=some (.ins C dx ah)/\ah.map (·.1)=fs/\Ag ts (ah.map (·.2))
 |.dF ks ts,v=>∃a ah,v=.ref a/\F a/\(∃o,H a=some (.frz o (.l ah)))/\ah.map (·.1)=ks/\Ag ts (ah.map (·.2))
 |.zD c,v=>∃a C,v=.ref a/\F a/\H a=some (exO (.ref C) a)/\CJ K c=some C
def Ag:List T->List V->Prop
 | [],vs=>vs=[]
 |t::ts,vs=>∃v r,vs=v::r/\AF t v/\Ag ts r
end
mutual
def AO:FO->V->List Addr->Prop
 |.val t,v,L=>L=[]/\AF K F H t v
 |.lst ts,v,L=>∃a vs,v=.ref a/\H a=some (.lst vs)/\Ag K F H ts vs/\L=[a]
 |.l ks ts,v,L=>∃a ah,v=.ref a/\H a=some (.l ah)/\ah.map (·.1)=ks/\Ag K F H ts (ah.map (·.2))/\L=[a]
 |.dT ks ts,v,L=>∃a ah,v=.ref a/\H a=some (.dT ah)/\ah.map (·.1)=ks/\Ag K F H ts (ah.map (·.2))/\L=[a]
 |.ins C fs os,v,L=>∃a dx ah L',v=.ref a/\H a=some (.ins C dx ah)/\ah.map (·.1)=fs/\Aw os (ah.map (·.2)) L'/\L=a::L'
 |.zb os,v,L=>∃a vs L',v=.ref a/\H a=some (.lst vs)/\Aw os vs L'/\L=a::L'
 |.y0 os,v,L=>∃a vs L',v=.ref a/\H a=some (.tup vs)/\Aw os vs L'/\L=a::L'
 |.dO ks os,v,L=>∃a ah L',v=.ref a/\H a=some (.l ah)/\ah.map (·.1)=ks/\Aw os (ah.map (·.2)) L'/\L=a::L'
 |.la p ts,v,L=>∃vs,v=.ref p/\H p=some (.lst vs)/\Ag K F H ts vs/\L=[p]
def Aw:List FO->List V->List Addr->Prop
 | [],vs,L=>vs=[]/\L=[]
 |o::os,vs,L=>∃v r L1 L2,vs=v::r/\AO o v L1/\Aw os r L2/\L=L1++L2
end
mutual
noncomputable def toT:FO->T
 |.val t=>t
 |.lst ts=>.lst ts
 |.l ks ts=>.l ks ts
 |.dT ks ts=>.dT ks ts
 |.ins C fs os=>.ins C fs (Ov os)
 |.zb os=>.lst (Ov os)
 |.y0 os=>.tup (Ov os)
 |.dO ks os=>.l ks (Ov os)
 |.la _ ts=>.lst ts
noncomputable def Ov:List FO->List T
 | []=>[]
 |o::os=>toT o::Ov os
end
def Ao:FS->St->List Addr->Prop
 | [],U,L=>U=[]/\L=[]
 |none::r,U,L=>∃v av,U=v::av/\Ao r av L
 |some (.val t)::r,U,L=>∃v av,U=some v::av/\AF K F H t v/\Ao r av L
 |some (.own o)::r,U,L=>∃v av L1 L2,U=some v::av/\AO K F H o v L1/\Ao r av L2/\L=L1++L2
 |some (.bor o)::r,U,L=>∃v av L1 L2,U=some v::av/\AO K F H o v L1/\Ao r av L2/\L=L1++L2
end
section
variable{K:Fg}{F F':Wd}{H H':Hp}
mutual
theorem AF.le(l:Le F H F' H'):∀{t:T}{v:V},AF K F H t v->AF K F' H' t v
 |.o,_,h=>h
 |.v _,_,h=>h
 |.int _,_,h=>h
 |.str _,_,h=>h
 |.tup ts,_,h=>by obtain⟨a,vs,e,s,r⟩:=h;exact⟨a,vs,e,s.le l,Ag.le l r⟩
 |.lst ts,_,h=>by obtain⟨a,vs,e,f,s,r⟩:=h;exact⟨a,vs,e,(l.f a f).1,(l.f a f).2.trans s,Ag.le l r⟩
 |.zY ts,_,h=>by obtain⟨a,vs,e,s,r⟩:=h;exact⟨a,vs,e,s.le l,Ag.le l r⟩
 |.l ks ts,_,h=>by obtain⟨a,ah,e,f,s,k,r⟩:=h;exact⟨a,ah,e,(l.f a f).1,FL.Rd.same s (l.f a f).2,k,Ag.le l r⟩
 |.dT ks ts,_,h=>by obtain⟨a,ah,e,f,s,k,r⟩:=h;exact⟨a,ah,e,(l.f a f).1,(l.f a f).2.trans s,k,Ag.le l r⟩
 |.ins C fs ts,_,h=>by obtain⟨a,dx,ah,e,f,s,k,r⟩:=h;exact⟨a,dx,ah,e,(l.f a f).1,(l.f a f).2.trans s,k,Ag.le l r⟩
 |.dF ks ts,_,h=>by obtain⟨a,ah,e,f,⟨o,s⟩,k,r⟩:=h;exact⟨a,ah,e,(l.f a f).1,⟨o,(l.f a f).2.trans s⟩,k,Ag.le l r⟩
 |.zD c,_,h=>by obtain⟨a,C,e,f,s,k⟩:=h;exact⟨a,C,e,(l.f a f).1,(l.f a f).2.trans s,k⟩
theorem Ag.le(l:Le F H F' H'):∀{ts:List T}{vs:List V},Ag K F H ts vs->Ag K F' H' ts vs
 | [],_,h=>h
 |t::ts,_,h=>by obtain⟨v,r,e,h1,h2⟩:=h;exact⟨v,r,e,AF.le l h1,Ag.le l h2⟩
end
theorem Ag.len:∀{ts:List T}{vs:List V},Ag K F H ts vs->vs.length=ts.length
 | [],_,h=>by simp only[Ag]at h;subst h;rfl
 |t::ts,_,h=>by obtain⟨v,r,rfl,_,h2⟩:=h;simp[Ag.len h2]
theorem Ag.at:∀{ts:List T}{vs:List V}{i:Nat}{t:T},Ag K F H ts vs->ts[i]?=some t->∃v,vs[i]?=some v/\AF K F H t v
 | [],_,_,_,_,e=>by simp at e
 |t::ts,_,0,_,h,e=>by obtain⟨v,r,rfl,h1,_⟩:=h;simp at e;subst e;exact⟨v,rfl,h1⟩
 |t::ts,_,i+1,_,h,e=>by obtain⟨v,r,rfl,_,h2⟩:=h;obtain⟨u,e1,e2⟩:=Ag.at h2 (by simpa using e);exact⟨u,by simpa using e1,e2⟩
theorem Ag.app:∀{ts us:List T}{vs ws:List V},Ag K F H ts vs->Ag K F H us ws->Ag K F H (ts++us) (vs++ws)
 | [],_,_,_,h,h'=>by simp only[Ag]at h;subst h;exact h'
 |t::ts,us,_,ws,h,h'=>by obtain⟨v,r,rfl,h1,h2⟩:=h;show Ag K F H (t::(ts++us)) (v::(r++ws));exact⟨v,r++ws,rfl,h1,Ag.app h2 h'⟩
theorem Ag.one(h:AF K F H t v):Ag K F H [t] [v]:=by exact⟨v,[],rfl,h,rfl⟩
theorem Ag.take:∀{ts:List T}{vs:List V}(n:Nat),Ag K F H ts vs->Ag K F H (ts.take n) (vs.take n)
 | [],_,n,h=>by simp only[Ag]at h;subst h;simp[Ag]
 |t::ts,_,0,h=>by simp[Ag]
 |t::ts,_,n+1,h=>by obtain⟨v,r,rfl,h1,h2⟩:=h;exact⟨v,_,rfl,h1,Ag.take n h2⟩
theorem Ag.drop:∀{ts:List T}{vs:List V}(n:Nat),Ag K F H ts vs->Ag K F H (ts.drop n) (vs.drop n)
 | [],_,n,h=>by simp only[Ag]at h;subst h;simp[Ag]
 |t::ts,_,0,h=>by simpa using h
 |t::ts,_,n+1,h=>by obtain⟨v,r,rfl,h1,h2⟩:=h;exact Ag.drop n h2
theorem Ag.set(q:AF K F H t v):∀{ts:List T}{vs:List V}(n:Nat),Ag K F H ts vs->Ag K F H (ts.set n t) (vs.set n v)
 | [],_,n,h=>by simp only[Ag]at h;subst h;simp[Ag]
 |u::ts,_,0,h=>by obtain⟨w,r,rfl,h1,h2⟩:=h;exact⟨v,r,rfl,q,h2⟩
 |u::ts,_,n+1,h=>by obtain⟨w,r,rfl,h1,h2⟩:=h;exact⟨w,_,rfl,h1,Ag.set q n h2⟩
mutual
theorem AO.le(l:Le F H F' H'):∀{o:FO}{v:V}{L:List Addr},(∀a∈L,H' a=H a)->AO K F H o v L->AO K F' H' o v L
 |.val t,_,L,k,h=>by exact⟨h.1,h.2.le l⟩
 |.lst ts,_,L,k,h=>by obtain⟨a,vs,e,s,r,rfl⟩:=h;exact⟨a,vs,e,(k a (by simp)).trans s,r.le l,rfl⟩
 |.l ks ts,_,L,k,h=>by obtain⟨a,vs,e,s,q,r,rfl⟩:=h;exact⟨a,vs,e,(k a (by simp)).trans s,q,r.le l,rfl⟩
 |.dT ks ts,_,L,k,h=>by obtain⟨a,vs,e,s,q,r,rfl⟩:=h;exact⟨a,vs,e,(k a (by simp)).trans s,q,r.le l,rfl⟩
 |.ins C fs os,_,L,k,h=>by obtain⟨a,dx,ah,L',e,s,q,r,rfl⟩:=h;exact⟨a,dx,ah,L',e,(k a (by simp)).trans s,q,Aw.le l (λb hb=>k b (sW _ hb)) r,rfl⟩
 |.zb os,_,L,k,h=>by obtain⟨a,vs,L',e,s,r,rfl⟩:=h;exact⟨a,vs,L',e,(k a (by simp)).trans s,Aw.le l (λb hb=>k b (sW _ hb)) r,rfl⟩
 |.y0 os,_,L,k,h=>by obtain⟨a,vs,L',e,s,r,rfl⟩:=h;exact⟨a,vs,L',e,(k a (by simp)).trans s,Aw.le l (λb hb=>k b (sW _ hb)) r,rfl⟩
 |.dO ks os,_,L,k,h=>by obtain⟨a,ah,L',e,s,q,r,rfl⟩:=h;exact⟨a,ah,L',e,(k a (by simp)).trans s,q,Aw.le l (λb hb=>k b (sW _ hb)) r,rfl⟩
 |.la p ts,_,L,k,h=>by obtain⟨vs,e,s,r,rfl⟩:=h;exact⟨vs,e,(k p (by simp)).trans s,r.le l,rfl⟩
theorem Aw.le(l:Le F H F' H'):∀{os:List FO}{vs:List V}{L:List Addr},(∀a∈L,H' a=H a)->Aw K F H os vs L->Aw K F' H' os vs L
 | [],_,L,k,h=>h
 |o::os,_,L,k,h=>by obtain⟨v,r,L1,L2,e,h1,h2,rfl⟩:=h;exact⟨v,r,L1,L2,e,AO.le l (λa ha=>k a (tm _ ha)) h1,Aw.le l (λa ha=>k a (tB _ ha)) h2,rfl⟩
end
mutual
theorem AO.def:∀{o:FO}{v:V}{L:List Addr},AO K F H o v L->∀a∈L,H a≠none
 |.val t,_,L,h,a,m=>by rw[h.1]at m;cases m
 |.lst ts,_,L,h,a,m=>by obtain⟨b,vs,e,s,r,rfl⟩:=h;rw[tD.mp m,s];simp
 |.l ks ts,_,L,h,a,m=>by obtain⟨b,vs,e,s,q,r,rfl⟩:=h;rw[tD.mp m,s];simp
 |.dT ks ts,_,L,h,a,m=>by obtain⟨b,vs,e,s,q,r,rfl⟩:=h;rw[tD.mp m,s];simp
 |.ins C fs os,_,L,h,a,m=>by
  obtain⟨b,dx,ah,L',e,s,q,r,rfl⟩:=h;rcases tH.mp m with m|m
  .rw[m,s];simp
  .exact Aw.def r a m
 |.zb os,_,L,h,a,m=>by
  obtain⟨b,vs,L',e,s,r,rfl⟩:=h;rcases tH.mp m with m|m
  .rw[m,s];simp
  .exact Aw.def r a m
 |.y0 os,_,L,h,a,m=>by
  obtain⟨b,vs,L',e,s,r,rfl⟩:=h;rcases tH.mp m with m|m
  .rw[m,s];simp
  .exact Aw.def r a m
 |.dO ks os,_,L,h,a,m=>by
  obtain⟨b,vs,L',e,s,q,r,rfl⟩:=h;rcases tH.mp m with m|m
  .rw[m,s];simp
  .exact Aw.def r a m
 |.la p ts,_,L,h,a,m=>by obtain⟨vs,e,s,r,rfl⟩:=h;rw[tD.mp m,s];simp
theorem Aw.def:∀{os:List FO}{vs:List V}{L:List Addr},Aw K F H os vs L->∀a∈L,H a≠none
 | [],_,L,h,a,m=>by rw[h.2]at m;cases m
 |o::os,_,L,h,a,m=>by
  obtain⟨v,r,L1,L2,e,h1,h2,rfl⟩:=h;rcases sZ.mp m with m|m
  .exact AO.def h1 a m
  .exact Aw.def h2 a m
end
mutual
theorem AO.frz(l:Le F H F' H):∀{o:FO}{v:V}{L:List Addr},(∀a∈L,F' a)->AO K F H o v L->AF K F' H (toT o) v
 |.val t,_,L,k,h=>by exact AF.le l h.2
 |.lst ts,_,L,k,h=>by obtain⟨a,vs,e,s,r,rfl⟩:=h;exact⟨a,vs,e,k a (by simp),s,Ag.le l r⟩
 |.l ks ts,_,L,k,h=>by obtain⟨a,vs,e,s,q,r,rfl⟩:=h;exact⟨a,vs,e,k a (by simp),.inl s,q,Ag.le l r⟩
 |.dT ks ts,_,L,k,h=>by obtain⟨a,vs,e,s,q,r,rfl⟩:=h;exact⟨a,vs,e,k a (by simp),s,q,Ag.le l r⟩
 |.ins C fs os,_,L,k,h=>by obtain⟨a,dx,ah,L',e,s,q,r,rfl⟩:=h;exact⟨a,dx,ah,e,k a (by simp),s,q,Aw.frz l (λb hb=>k b (sW _ hb)) r⟩
 |.zb os,_,L,k,h=>by obtain⟨a,vs,L',e,s,r,rfl⟩:=h;exact⟨a,vs,e,k a (by simp),s,Aw.frz l (λb hb=>k b (sW _ hb)) r⟩
 |.y0 os,_,L,k,h=>by obtain⟨a,vs,L',e,s,r,rfl⟩:=h;exact⟨a,vs,e,⟨rfl,k a (by simp),s⟩,Aw.frz l (λb hb=>k b (sW _ hb)) r⟩
 |.dO ks os,_,L,k,h=>by obtain⟨a,ah,L',e,s,q,r,rfl⟩:=h;exact⟨a,ah,e,k a (by simp),.inl s,q,Aw.frz l (λb hb=>k b (sW _ hb)) r⟩
 |.la p ts,_,L,k,h=>by obtain⟨vs,e,s,r,rfl⟩:=h;exact⟨p,vs,e,k p (by simp),s,Ag.le l r⟩
theorem Aw.frz(l:Le F H F' H):∀{os:List FO}{vs:List V}{L:List Addr},(∀a∈L,F' a)->Aw K F H os vs L->Ag K F' H (Ov os) vs
 | [],_,L,k,h=>by exact h.1
 |o::os,_,L,k,h=>by obtain⟨v,r,L1,L2,e,h1,h2,rfl⟩:=h;exact⟨v,r,e,AO.frz l (λa ha=>k a (tm _ ha)) h1,Aw.frz l (λa ha=>k a (tB _ ha)) h2⟩
end
theorem Ao.len:∀{fs:FS}{U:St}{L:List Addr},Ao K F H fs U L->U.length=fs.length
 | [],_,_,h=>by simp only[Ao]at h;rw[h.1];rfl
 |none::r,_,_,h=>by obtain⟨v,av,rfl,h⟩:=h;simp[Ao.len h]
 |some (.val t)::r,_,_,h=>by obtain⟨v,av,rfl,_,h⟩:=h;simp[Ao.len h]
 |some (.own t)::r,_,_,h=>by obtain⟨v,av,L1,L2,rfl,_,h,_⟩:=h;simp[Ao.len h]
 |some (.bor t)::r,_,_,h=>by obtain⟨v,av,L1,L2,rfl,_,h,_⟩:=h;simp[Ao.len h]
theorem Ao.le(l:Le F H F' H'):∀{fs:FS}{U:St}{L:List Addr},(∀a∈L,H' a=H a)->Ao K F H fs U L->Ao K F' H' fs U L
 | [],_,_,k,h=>h
 |none::r,_,_,k,h=>by obtain⟨v,av,e,h⟩:=h;exact⟨v,av,e,Ao.le l k h⟩
 |some (.val t)::r,_,_,k,h=>by obtain⟨v,av,e,q,h⟩:=h;exact⟨v,av,e,q.le l,Ao.le l k h⟩
 |some (.own t)::r,_,_,k,h=>by obtain⟨v,av,L1,L2,e,q,h,rfl⟩:=h;exact⟨v,av,L1,L2,e,q.le l λa ha=>k a (tm _ ha),Ao.le l (λa ha=>k a (tB _ ha)) h,rfl⟩
 |some (.bor t)::r,_,_,k,h=>by obtain⟨v,av,L1,L2,e,q,h,rfl⟩:=h;exact⟨v,av,L1,L2,e,q.le l λa ha=>k a (tm _ ha),Ao.le l (λa ha=>k a (tB _ ha)) h,rfl⟩
theorem Ao.def:∀{fs:FS}{U:St}{L:List Addr},Ao K F H fs U L->∀a∈L,H a≠none
 | [],_,_,h,a,m=>by simp only[Ao]at h;rw[h.2]at m;cases m
 |none::r,_,_,h,a,m=>by obtain⟨v,av,e,h⟩:=h;exact Ao.def h a m
 |some (.val t)::r,_,_,h,a,m=>by obtain⟨v,av,e,q,h⟩:=h;exact Ao.def h a m
 |some (.own t)::r,_,_,h,a,m=>by
  obtain⟨v,av,L1,L2,e,q,h,rfl⟩:=h;rcases sZ.mp m with m|m
  .exact q.def a m
  .exact Ao.def h a m
 |some (.bor t)::r,_,_,h,a,m=>by
  obtain⟨v,av,L1,L2,e,q,h,rfl⟩:=h;rcases sZ.mp m with m|m
  .exact q.def a m
  .exact Ao.def h a m
def Ot(K:Fg)(F:Wd)(H:Hp):Option Sl->Option V->List Addr->Prop
 |none,_,L=>L=[]
 |some (.val t),v,L=>∃u,v=some u/\AF K F H t u/\L=[]
 |some (.own o),v,L=>∃u,v=some u/\AO K F H o u L
 |some (.bor o),v,L=>∃u,v=some u/\AO K F H o u L
theorem Ao.cons(h1:Ot K F H s v L1)(h2:Ao K F H r U L2):Ao K F H (s::r) (v::U) (L1++L2):=by cases s with|none =>subst h1;exact⟨v,U,rfl,h2⟩|some s =>cases s with|val t =>obtain⟨u,rfl,q,rfl⟩:=h1;exact⟨u,U,rfl,q,h2⟩|own o =>obtain⟨u,rfl,q⟩:=h1;exact⟨u,U,L1,L2,rfl,q,h2,rfl⟩|bor o =>obtain⟨u,rfl,q⟩:=h1;exact⟨u,U,L1,L2,rfl,q,h2,rfl⟩
theorem Ao.Gy(h:Ao K F H (s::r) U L):∃v av L1 L2,U=v::av/\Ot K F H s v L1/\Ao K F H r av L2/\L=L1++L2:=by cases s with|none =>obtain⟨v,av,rfl,h⟩:=h;exact⟨v,av,[],L,rfl,rfl,h,rfl⟩|some s =>cases s with|val t =>obtain⟨v,av,rfl,q,h⟩:=h;exact⟨some v,av,[],L,rfl,⟨v,rfl,q,rfl⟩,h,rfl⟩|own o =>obtain⟨v,av,L1,L2,rfl,q,h,rfl⟩:=h;exact⟨some v,av,L1,L2,rfl,⟨v,rfl,q⟩,h,rfl⟩|bor o =>obtain⟨v,av,L1,L2,rfl,q,h,rfl⟩:=h;exact⟨some v,av,L1,L2,rfl,⟨v,rfl,q⟩,h,rfl⟩
theorem Ao.pick:∀{fs:FS}{U:St}{L:List Addr}{i:Nat}{s:Option Sl},Ao K F H fs U L->fs[i]?=some s->∃v L1 L2 L3,U[i]?=some v/\L=L1++(L2++L3)/\Ot K F H s v L2 /\
  ∀(F':Wd)(H':Hp)(s':Option Sl)(v':Option V)(iG:List Addr),Le F H F' H'->(∀a∈L1++L3,H' a=H a)->Ot K F' H' s' v' iG->Ao K F' H' (fs.set i s') (U.set i v') (L1++(iG++L3))
 | [],_,_,_,_,_,e=>by simp at e
 |s::r,_,_,0,_,h,e=>by obtain⟨v,av,L1,L2,rfl,h1,h2,rfl⟩:=h.Gy;simp at e;subst e;refine⟨v,[],L1,L2,rfl,rfl,h1,λF' H' s' v' iG l k q=>?_⟩;have h3:=Ao.cons q (h2.le l λa ha=>k a (by simpa using ha));exact h3
 |s::r,_,_,i+1,_,h,e=>by
  obtain⟨v,av,L1,L2,rfl,h1,h2,rfl⟩:=h.Gy;obtain⟨w,M1,M2,M3,e1,rfl,h3,h4⟩:=Ao.pick h2 (by simpa using e);refine⟨w,L1++M1,M2,M3,by simpa using e1,by simp,h3,λF' H' s' v' iG l k q=>?_⟩;have h6:Ot K F' H' s v L1:=by cases s with|none=>exact h1|some s =>cases s with|val t =>obtain⟨u,e,q,z⟩:=h1;exact⟨u,e,q.le l,z⟩|own o =>obtain⟨u,e,q⟩:=h1;exact⟨u,e,q.le l λa ha=>k a (by simp[ha])⟩|bor o =>obtain⟨u,e,q⟩:=h1;exact⟨u,e,q.le l λa ha=>k a (by simp[ha])⟩
  have h7:=Ao.cons h6 (h4 F' H' s' v' iG l (λa ha=>k a (by simp at ha ⊢;rcases ha with ha|ha;exact .inr (.inl ha);exact .inr (.inr ha))) q);simpa using h7
mutual
theorem AF.wp:∀{t:T}{v:V},AF K F H t v->AF K ⟨F.f,p⟩ H t v
 |.o,_,h=>h
 |.v _,_,h=>h
 |.int _,_,h=>h
 |.str _,_,h=>h
 |.tup ts,_,h=>by obtain⟨a,vs,e,s,r⟩:=h;exact⟨a,vs,e,s,Ag.wp r⟩
 |.lst ts,_,h=>by obtain⟨a,vs,e,f,s,r⟩:=h;exact⟨a,vs,e,f,s,Ag.wp r⟩
 |.zY ts,_,h=>by obtain⟨a,vs,e,s,r⟩:=h;exact⟨a,vs,e,s,Ag.wp r⟩
 |.l ks ts,_,h=>by obtain⟨a,ah,e,f,s,k,r⟩:=h;exact⟨a,ah,e,f,s,k,Ag.wp r⟩
 |.dT ks ts,_,h=>by obtain⟨a,ah,e,f,s,k,r⟩:=h;exact⟨a,ah,e,f,s,k,Ag.wp r⟩
 |.ins C fs ts,_,h=>by obtain⟨a,dx,ah,e,f,s,k,r⟩:=h;exact⟨a,dx,ah,e,f,s,k,Ag.wp r⟩
 |.dF ks ts,_,h=>by obtain⟨a,ah,e,f,s,k,r⟩:=h;exact⟨a,ah,e,f,s,k,Ag.wp r⟩
 |.zD c,_,h=>by obtain⟨a,C,e,f,s,k⟩:=h;exact⟨a,C,e,f,s,k⟩
theorem Ag.wp:∀{ts:List T}{vs:List V},Ag K F H ts vs->Ag K ⟨F.f,p⟩ H ts vs
 | [],_,h=>h
 |t::ts,_,h=>by obtain⟨v,r,e,h1,h2⟩:=h;exact⟨v,r,e,AF.wp h1,Ag.wp h2⟩
end
mutual
theorem AO.wp:∀{o:FO}{v:V}{L:List Addr},AO K F H o v L->AO K ⟨F.f,p⟩ H o v L
 |.val t,_,L,h=>by exact⟨h.1,h.2.wp⟩
 |.lst ts,_,L,h=>by obtain⟨a,vs,e,s,r,q⟩:=h;exact⟨a,vs,e,s,r.wp,q⟩
 |.l ks ts,_,L,h=>by obtain⟨a,vs,e,s,q,r,z⟩:=h;exact⟨a,vs,e,s,q,r.wp,z⟩
 |.dT ks ts,_,L,h=>by obtain⟨a,vs,e,s,q,r,z⟩:=h;exact⟨a,vs,e,s,q,r.wp,z⟩
 |.ins C fs os,_,L,h=>by obtain⟨a,dx,ah,L',e,s,q,r,z⟩:=h;exact⟨a,dx,ah,L',e,s,q,Aw.wp r,z⟩
 |.zb os,_,L,h=>by obtain⟨a,vs,L',e,s,r,z⟩:=h;exact⟨a,vs,L',e,s,Aw.wp r,z⟩
 |.y0 os,_,L,h=>by obtain⟨a,vs,L',e,s,r,z⟩:=h;exact⟨a,vs,L',e,s,Aw.wp r,z⟩
 |.dO ks os,_,L,h=>by obtain⟨a,vs,L',e,s,q,r,z⟩:=h;exact⟨a,vs,L',e,s,q,Aw.wp r,z⟩
 |.la p ts,_,L,h=>by obtain⟨vs,e,s,r,z⟩:=h;exact⟨vs,e,s,r.wp,z⟩
theorem Aw.wp:∀{os:List FO}{vs:List V}{L:List Addr},Aw K F H os vs L->Aw K ⟨F.f,p⟩ H os vs L
 | [],_,L,h=>h
 |o::os,_,L,h=>by obtain⟨v,r,L1,L2,e,h1,h2,z⟩:=h;exact⟨v,r,L1,L2,e,AO.wp h1,Aw.wp h2,z⟩
end
theorem Ao.wp:∀{fs:FS}{U:St}{L:List Addr},Ao K F H fs U L->Ao K ⟨F.f,p⟩ H fs U L
 | [],_,_,h=>h
 |none::r,_,_,h=>by obtain⟨v,av,e,h⟩:=h;exact⟨v,av,e,Ao.wp h⟩
 |some (.val t)::r,_,_,h=>by obtain⟨v,av,e,q,h⟩:=h;exact⟨v,av,e,q.wp,Ao.wp h⟩
 |some (.own t)::r,_,_,h=>by obtain⟨v,av,L1,L2,e,q,h,z⟩:=h;exact⟨v,av,L1,L2,e,q.wp,Ao.wp h,z⟩
 |some (.bor t)::r,_,_,h=>by obtain⟨v,av,L1,L2,e,q,h,z⟩:=h;exact⟨v,av,L1,L2,e,q.wp,Ao.wp h,z⟩
theorem Ot.le(l:Le F H F' H')(k:∀a∈L,H' a=H a)(h:Ot K F H s v L):Ot K F' H' s v L:=by cases s with|none=>exact h|some s =>cases s with|val t =>obtain⟨u,e,q,z⟩:=h;exact⟨u,e,q.le l,z⟩|own o =>obtain⟨u,e,q⟩:=h;exact⟨u,e,q.le l k⟩|bor o =>obtain⟨u,e,q⟩:=h;exact⟨u,e,q.le l k⟩
end
def Ew(B:Nat->Option V)(fs:FS)(U:St):Prop:=∀(i:Nat)(o:FO),fs[i]?=some (some (.bor o))->∃v,U[i]?=some (some v)/\B i=some v
structure Ok(K:Fg)(F:Wd)(B:Nat->Option V)(H:Hp)(fs:FS)(U:St)(L:List Addr):Prop where
 sl:Ao K F H fs U L
 nd:L.Nodup
 nf:∀a∈L,¬F a
 fd:∀a,F a->H a≠none
 bo:Ew B fs U
 pd:∀a,F.p a->H a≠none
 pf:∀a,F a->¬F.p a
 pl:∀a∈L,¬F.p a
def Okk(K:Fg)(F:Wd)(B:Nat->Option V)(H:Hp)(fs:FS)(U:St):Prop:=∃L,Ok K F B H fs U L
structure Xp where
 p:Wd->(Nat->Option V)->Hp->Str->FS->Prop
 mono:∀{F:Wd}{B:Nat->Option V}{H:Hp}{c:Str}{fs:FS}{F':Wd}{H':Hp},p F B H c fs->Le F H F' H'->p F' B H' c fs
noncomputable def Xp.no:Xp:=⟨λ_ _ _ _ _=>False,λh _=>h⟩
def sat(Z:Xp)(B:Nat->Option V){α β:Type}(R:Wd->Hp->FS->α->β->Prop)(F:Wd)(H:Hp)(o:Out α)(Q:β->Hp->Prop):Prop :=
 match o with|.ok a fs=>∀F' H' b,Le F H F' H'->R F' H' fs a b->Q b H'|.exc c fs=>Z.p F B H c fs|.bad=>False
theorem sat.le(h:sat Z B R F H o Q)(l:Le F H F' H'):sat Z B R F' H' o Q:=by
 cases o with
 |ok a fs=>exact λF2 H2 b l2 r=>h F2 H2 b (l.trans l2) r
 |exc c fs=>exact Z.mono h l
 |bad=>exact h
noncomputable def Out.bind{α β:Type}(o:Out α)(k:α->FS->Out β):Out β:=match o with|.ok a fs=>k a fs|.exc c fs=>.exc c fs|.bad=>.bad
theorem As{R2:Wd->Hp->FS->γ->δ->Prop}
  (h:sat Z B R2 F H (o.bind k) Q) (hk:∀a fs F' H' b,Le F H F' H'->R1 F' H' fs a b->sat Z B R2 F' H' (k a fs) Q->Q' b H'):sat Z B R1 F H o Q':=by
 cases o with
 |ok a fs=>exact λF2 H2 b l r=>hk a fs F2 H2 b l r (sat.le h l)
 |exc c fs=>exact h
 |bad=>exact h
def L5(K:Fg)(F:Wd)(H:Hp)(U:St):Rv->V->List Addr->Prop
 |.t t,v,L=>L=[]/\AF K F H t v
 |.nw o,v,L=>AO K F H o v L
 |.n i,v,L=>L=[]/\U[i]?=some (some v)
inductive RR(K:Fg)(B:Nat->Option V)(U:St)(F:Wd)(H:Hp)(fs:FS)(r:Rv)(u:V):Prop
 |mk (L L':List Addr) (h0:Ok K F B H fs U L) (h1:L5 K F H U r u L') (h2:(L++L').Nodup) (h3:∀a∈L',¬F a/\¬F.p a)
def CW(K:Fg)(F:Wd)(H:Hp)(U:St):Rv->V->Prop
 |.t t,v=>AF K F H t v
 |.nw _,_=>False
 |.n i,v=>U[i]?=some (some v)
noncomputable def Out.bnd{α:Type}(o:Out Rv)(k:Rv->FS->Out α):Out α:=o.bind λr fs=>match r with|.nw _=>.bad|.t t=>k (.t t) fs|.n i=>k (.n i) fs
section
variable{K:Fg}{Z:Xp}{B:Nat->Option V}{F F':Wd}{H H':Hp}{U:St}{fs:FS}{r:Rv}{u:V}
theorem CW.le(h:CW K F H U r u)(l:Le F H F' H'):CW K F' H' U r u:=by cases r with|t t=>exact AF.le l h|nw o=>exact h|n i=>exact h
theorem RR.of(h:Okk K F B H fs U)(q:CW K F H U r u):RR K B U F H fs r u:=by obtain⟨L,h⟩:=h;refine⟨L,[],h,?_,by simpa using h.nd,(λ_ m=>nomatch m)⟩;cases r with|t t=>exact⟨rfl,q⟩|nw o=>exact q.elim|n i=>exact⟨rfl,q⟩
theorem RR.ok(h:RR K B U F H fs r u):Okk K F B H fs U:=let⟨L,_,h,_,_,_⟩:=h;⟨L,h⟩
theorem Au{R2:Wd->Hp->FS->γ->δ->Prop}{o:Out Rv}
  (h:sat Z B R2 F H (o.bnd k) Q) (hk:∀r fs F' H' u,Le F H F' H'->Okk K F' B H' fs U->CW K F' H' U r u->sat Z B R2 F' H' (k r fs) Q->Q' u H'):sat Z B (RR K B U) F H o Q':=by
 refine As h λr fs F' H' u l q s=>?_
 cases r with|t t =>obtain⟨L,L',q1,q2,_⟩:=q;exact hk (.t t) fs F' H' u l ⟨L,q1⟩ q2.2 s|nw o=>exact s.elim|n i =>obtain⟨L,L',q1,q2,_⟩:=q;exact hk (.n i) fs F' H' u l ⟨L,q1⟩ q2.2 s
end
inductive tF(K:Fg)(Z:Xp)(f:FS->Out Rv)(U:St)(H:Hp)(Q:VK):Prop
 |mk (F:Wd) (B:Nat->Option V) (fs:FS) (h0:Okk K F B H fs U) (h1:sat Z B (RR K B U) F H (f fs) Q)
def RB(K:Fg)(B:Nat->Option V)(U:St):Wd->Hp->FS->Bool->Bool->Prop:=λF H fs b b'=>Okk K F B H fs U/\b'=b
inductive tT(K:Fg)(Z:Xp)(f:FS->Out Bool)(U:St)(H:Hp)(Q:Bool->Hp->Prop):Prop
 |mk (F:Wd) (B:Nat->Option V) (fs:FS) (h0:Okk K F B H fs U) (h1:sat Z B (RB K B U) F H (f fs) Q)
def HJ(K:Fg)(F:Wd)(H:Hp)(U:St):List Rv->List V->Prop
 | [],vs=>vs=[]
 |r::rs,vs=>∃v w,vs=v::w/\CW K F H U r v/\HJ K F H U rs w
def RA(K:Fg)(B:Nat->Option V)(U:St):Wd->Hp->FS->List Rv->List V->Prop:=λF H fs rs vs=>Okk K F B H fs U/\HJ K F H U rs vs
inductive tA(K:Fg)(Z:Xp)(f:FS->Out (List Rv))(U:St)(H:Hp)(Q:List V->Hp->Prop):Prop
 |mk (F:Wd) (B:Nat->Option V) (fs:FS) (h0:Okk K F B H fs U) (h1:sat Z B (RA K B U) F H (f fs) Q)
def FE(X:Cx)(Z:Xp)(e:Expr)(f:FS->Out Rv):Prop:=PE X e (tF X.K Z f)
def FT(X:Cx)(Z:Xp)(e:Expr)(f:FS->Out Bool):Prop:=PT X e (tT X.K Z f)
def FA(X:Cx)(Z:Xp)(es:List Expr)(f:FS->Out (List Rv)):Prop:=PA X es (tA X.K Z f)
theorem AG(h:PE X e t)(i:∀U H Q,t' U H Q->t U H Q):PE X e t':=λaa s U H Q I q=>h aa s U H Q I (i _ _ _ q)
theorem Ks(h:PT X e t)(i:∀U H Q,t' U H Q->t U H Q):PT X e t':=λaa s U H Q I q=>h aa s U H Q I (i _ _ _ q)
theorem Ky(h:PA X e t)(i:∀U H Q,t' U H Q->t U H Q):PA X e t':=λpos aa s U H Q I q=>h pos aa s U H Q I (i _ _ _ q)
theorem B8(h:PS X e t)(i:∀D U H,t' D U H->t D U H):PS X e t':=λaa s U H D I q=>h aa s U H D I (i _ _ _ q)
theorem MF(h:PSs X e t)(i:∀D U H,t' D U H->t D U H):PSs X e t':=λaa s U H D I q=>h aa s U H D I (i _ _ _ q)
section
variable{K:Fg}{B:Nat->Option V}{F:Wd}{H:Hp}{U:St}{fs:FS}{p:Addr}{o:HO}
noncomputable def Oy(F:Wd)(p:Addr):Wd:=⟨λa=>F a\/a=p,F.p⟩
theorem AS(h:Okk K F B H fs U)(hp:H p=none):Le F H (Oy F p) (upd H p o) :=
 let⟨_,h⟩:=h
 ⟨λa f=>⟨.inl f,Aj λe=>h.fd a f (e▸hp)⟩,λa f=>⟨f,Aj λe=>h.pd a f (e▸hp)⟩⟩
theorem AB(h:Okk K F B H fs U)(hp:H p=none):Le F H F (upd H p o) :=
 let⟨_,h⟩:=h
 ⟨λa f=>⟨f,Aj λe=>h.fd a f (e▸hp)⟩,λa f=>⟨f,Aj λe=>h.pd a f (e▸hp)⟩⟩
theorem CZ(h:H a≠none):upd H p o a≠none:=by
 by_cases e:a=p
 .subst e;rw[Am];simp
 .rwa[Aj e]
theorem Ok.TX(h:Ok K F B H fs U L)(hp:H p=none):∀a∈L,(upd H p o) a=H a:=λa m=>Aj λe=>h.sl.def a m (e▸hp)
theorem Okk.fd(h:Okk K F B H fs U):∀a,F a->H a≠none:=let⟨_,h⟩:=h;h.fd
theorem Okk.alloc(h:Okk K F B H fs U)(hp:H p=none):Okk K (Oy F p) B (upd H p o) fs U:=by
 obtain⟨L,h⟩:=h;refine⟨L,h.sl.le (AS ⟨L,h⟩ hp) (h.TX hp),h.nd,λa m q=>?_,λa q=>?_,h.bo,λa q=>CZ (h.pd a q),λa q z=>?_,h.pl⟩
 rotate_left 2
 .rcases q with q|q
  .exact h.pf a q z
  .exact h.pd a z (q▸hp)
 .rcases q with q|q
  .exact h.nf a m q
  .exact h.sl.def a m (q▸hp)
 .rcases q with q|q
  .exact CZ (h.fd a q)
  .rw[q,Am];simp
theorem RR.alloc(h:Okk K F B H fs U)(hp:H p=none)(q:AO K F (upd H p o) ob (.ref p) [p]):RR K B U F (upd H p o) fs (.nw ob) (.ref p):=by
 obtain⟨L,h⟩:=h;refine⟨L,[p],⟨h.sl.le (AB ⟨L,h⟩ hp) (h.TX hp),h.nd,h.nf,λa q=>CZ (h.fd a q),h.bo,λa q=>CZ (h.pd a q),h.pf,h.pl⟩,q,?_,λa m=>?_⟩
 .rw[sT];exact⟨h.nd,by simp,λa ma b mb e=>h.sl.def a ma (by rwa[e,tD.mp mb])⟩
 .rw[tD.mp m];exact⟨λf=>h.fd p f hp,λf=>h.pd p f hp⟩
end
noncomputable def Sl.put:Sl->FO->Sl
 |.own _,o=>.own o
 |.bor _,o=>.bor o
 |.val t,_=>.val t
noncomputable def AE(fs:FS)(i:Nat):Option FO:=match fs[i]? with|some (some (.own o))=>some o|some (some (.bor o))=>some o|_=>none
noncomputable def putAt(fs:FS)(i:Nat)(o:FO):FS:=match fs[i]? with|some (some s)=>fs.set i (some (s.put o))|_=>fs
section
variable{K:Fg}{B:Nat->Option V}{F F':Wd}{H H':Hp}{U:St}{fs:FS}{i:Nat}{ob:FO}
theorem Ew.put(h:Ew B fs U)(hs:∀o,s=some (.bor o)->∃u,v=some u/\B i=some u)(hl:U.length=fs.length):Ew B (fs.set i s) (U.set i v):=by
 intro j o e;by_cases hj:i=j
 .subst hj;have hi:=by have:=(sY.mp e).1;simpa using this
  rw[um hi]at e;obtain⟨u,e1,e2⟩:=hs o (by simpa using e);exact⟨u,by rw[um (by lia),e1],e2⟩
 .rw[uq hj]at e;obtain⟨v,e1,e2⟩:=h j o e;exact⟨v,by rw[uq hj];exact e1,e2⟩
theorem A8{l:List α}(h:l[i]?=some x):l.set i x=l:=by
 apply List.ext_getElem?;intro j;by_cases hj:i=j
 .subst hj;rw[um (sY.mp h).1,h]
 .rw[uq hj]
theorem BE{L1 L2 L3 M:List Addr}(h:(L1++(L2++L3)).Nodup)(hm:M.Nodup)(d:∀a∈M,a∉L1++L3):(L1++(M++L3)).Nodup:=by
 rw[sT]at h ⊢;obtain⟨h1,h2,h3⟩:=h;rw[sT]at h2;obtain⟨h4,h5,h6⟩:=h2;refine⟨h1,?_,λa ha b hb e=>?_⟩
 .rw[sT];exact⟨hm,h5,λa ha b hb e=>d a ha (by rw[e];exact tB _ hb)⟩
 .rcases sZ.mp hb with hb|hb
  .exact d b hb (by rw[<- e];exact tm _ ha)
  .exact h3 a ha b (tB _ hb) e
set_option tactic.hygienic true in
theorem Okk.own(h:Okk K F B H fs U)(e:AE fs i=some ob):∃v L2,U[i]?=some (some v)/\AO K F H ob v L2/\(∀a∈L2,¬F a/\¬F.p a)/\L2.Nodup /\
  ∀bN H',(∀a,a∉L2->H a≠none->H' a=H a)->AO K F H' bN v L2->Okk K F B H' (putAt fs i bN) U/\Le F H F H':=by
 obtain⟨L,h⟩:=h;have key:∀s:Sl,fs[i]?=some (some s)->(s=.own ob\/s=.bor ob)->∃v L2,U[i]?=some (some v)/\AO K F H ob v L2/\(∀a∈L2,¬F a/\¬F.p a)/\L2.Nodup /\
  ∀bN H',(∀a,a∉L2->H a≠none->H' a=H a)->AO K F H' bN v L2->Okk K F B H' (fs.set i (some (s.put bN))) U/\Le F H F H':=by
  intro s es ho;obtain⟨v,L1,L2,L3,e1,rfl,h1,h2⟩:=h.sl.pick es;obtain⟨u,rfl,q⟩:∃u,v=some u/\AO K F H ob u L2:=by
   rcases ho with rfl|rfl
   .exact h1
   .exact h1
  have nd:=h.nd;have eY:∀a∈L1++L3,a∉L2:=λa ha hb=>by
   rw[sT]at nd;rcases sZ.mp ha with ha|ha
   .exact nd.2.2 a ha a (tm _ hb) rfl
   .have:=(sT.mp nd.2.1).2.2;exact this a hb a ha rfl
  refine⟨u,L2,e1,q,λa m=>⟨h.nf a (by simp[m]),h.pl a (by simp[m])⟩,?_,λbN H' k q'=>?_⟩
  .rw[sT]at nd;exact(sT.mp nd.2.1).1
  .have l:Le F H F H':=⟨λa f=>⟨f,k a (λm=>h.nf a (by simp[m]) f) (h.fd a f)⟩,λa f=>⟨f,k a (λm=>h.pl a (by simp[m]) f) (h.pd a f)⟩⟩
   refine⟨⟨L1++(L2++L3),?_,nd,h.nf,λa f=>by rw[(l.f a f).2];exact h.fd a f,?_,λa f=>by rw[(l.p a f).2];exact h.pd a f,h.pf,h.pl⟩,l⟩
   .have hL:∀a∈L1++L3,H' a=H a:=λa m=>k a (eY a m) (h.sl.def a (by
      rcases sZ.mp m with m|m
      .simp[m]
      .simp[m]))
    have h3:=h2 F H' (some (s.put bN)) (some u) L2 l hL (by
     rcases ho with rfl|rfl
     .exact⟨u,rfl,q'⟩
     .exact⟨u,rfl,q'⟩)
    rwa[A8 e1]at h3
   .have:=Ew.put (s:=some (s.put bN)) h.bo (λo eo=>by
     rcases ho with rfl|rfl
     .cases eo
     .obtain⟨w,e3,e4⟩:=h.bo i ob es;rw[e1]at e3;have e5:u=w:=by simpa using e3
      exact⟨u,rfl,by rwa[e5]⟩) h.sl.len
    rwa[A8 e1]at this
 unfold AE at e;split at e
 next o es=>cases e;obtain⟨v,L2,a1,a2,a3,a4,a5⟩:=key _ es (.inl rfl);refine⟨v,L2,a1,a2,a3,a4,λbN H' k q=>?_⟩;have:=a5 bN H' k q;unfold putAt;rwa[es]
 next o es=>cases e;obtain⟨v,L2,a1,a2,a3,a4,a5⟩:=key _ es (.inr rfl);refine⟨v,L2,a1,a2,a3,a4,λbN H' k q=>?_⟩;have:=a5 bN H' k q;unfold putAt;rwa[es]
 .cases e
end
noncomputable def Aa(i:Nat):FS->Out Rv:=λfs=>match fs[i]? with|some (some (.val t))=>.ok (.t t) fs|some (some (.own _))=>.ok (.n i) fs|some (some (.bor _))=>.ok (.n i) fs|_=>.bad
noncomputable def gc(t:T):FS->Out Rv:=λfs=>.ok (.t t) fs
section
variable{X:Cx}{Z:Xp}{e:Expr}
set_option tactic.hygienic true in
theorem fe_v(i:Nat)(hN:X.N[i]?=some x:=by rfl)(hv:Vis X.env.scope x:=by first|exact Or.inl rfl|exact Or.inr (Or.inl rfl)|exact Or.inr (Or.inr rfl))(hd:(x==("__debug__":Str))=false:=by decide)
  (eC:(x==("__classdict__":Str))=false:=by decide):FE X Z (.Name x pos) (Aa i):=by
 refine AG (pv i hN hv hd eC) λU H Q h=>?_
 obtain⟨F,B,fs,ok,s⟩:=h;obtain⟨L,o⟩:=id ok;unfold Aa at s;split at s
 next t es=>obtain⟨v,L1,L2,L3,e1,_,h1,_⟩:=o.sl.pick es;obtain⟨u,rfl,q,_⟩:=h1;exact⟨u,e1,s F H u Le.refl (RR.of ok q)⟩
 next t es=>obtain⟨v,L1,L2,L3,e1,_,h1,_⟩:=o.sl.pick es;obtain⟨u,rfl,q⟩:=h1;exact⟨u,e1,s F H u Le.refl (RR.of ok e1)⟩
 next t es=>obtain⟨v,L1,L2,L3,e1,_,h1,_⟩:=o.sl.pick es;obtain⟨u,rfl,q⟩:=h1;exact⟨u,e1,s F H u Le.refl (RR.of ok e1)⟩
 .exact s.elim
theorem Vh(t:T)(h:PE X e (tC v))(r:∀K F H,AF K F H t v):FE X Z e (gc t) :=
 AG h λU H Q ⟨F,B,fs,ok,s⟩=>s F H v Le.refl (RR.of ok (r _ _ _))
theorem Ye:FE X Z (.Constant (.int i) j pos) (gc (.int i)):=Vh _ WG λ_ _ _=>rfl
theorem Jbk:FE X Z (.Constant (.bool b) j pos) (gc (.v b)):=Vh _ Jav λ_ _ _=>rfl
theorem X4:FE X Z (.Constant .none j pos) (gc .o):=Vh _ WC λ_ _ _=>rfl
theorem X0:FE X Z (.Constant (.str x) j pos) (gc (.str x)):=Vh _ WA λ_ _ _=>rfl
theorem Yf(h:∃t,X.mg x=some (.int i t))(hg:Gl X x:=by rfl)(hd:(x==("__debug__":Str))=false:=by decide):FE X Z (.Name x pos) (gc (.int i)):=Vh _ (Jat h hg hd) λ_ _ _=>rfl
theorem Jbh(h:∃t,X.mg x=some (.str z t))(hg:Gl X x:=by rfl)(hd:(x==("__debug__":Str))=false:=by decide):FE X Z (.Name x pos) (gc (.str z)):=Vh _ (Jas h hg hd) λ_ _ _=>rfl
end
noncomputable def fz(f:FS->Out Rv):FS->Out Rv:=λfs=>(f fs).bind λr fs=>match r with|.t t=>.ok (.t t) fs|.nw o=>.ok (.t (toT o)) fs|.n i=>match fs[i]? with|some (some (.own o))=>.ok (.t (toT o)) (fs.set i (some (.val (toT o))))|_=>.bad
section
variable{X:Cx}{Z:Xp}{e:Expr}{f:FS->Out Rv}
noncomputable def GZ(F:Wd)(L:List Addr):Wd:=⟨λa=>F a\/a∈L,F.p⟩
theorem orF:Le F H (GZ F L) H:=⟨λ_ f=>⟨.inl f,rfl⟩,λ_ f=>⟨f,rfl⟩⟩
theorem Jbi(h:FE X Z e f):FE X Z e (fz f):=by
 refine AG h λU H Q ao => ?_
 obtain⟨F,B,fs,ok,s⟩:= ao;refine⟨F,B,fs,ok,?_⟩;refine As s λr fs F' H' u l q s=>?_
 cases r with
 |t t=>exact s F' H' u Le.refl q
 |nw o =>
  obtain⟨L,L',o1,q,nd,nf⟩:=q;refine s (GZ F' L') H' u orF (RR.of ⟨L,?_⟩ (AO.frz orF (λa m=>.inr m) q));refine⟨o1.sl.le orF λ_ _=>rfl,o1.nd,λa m z=>?_,λa z=>?_,o1.bo,o1.pd,λa z=>?_,o1.pl⟩
  .rcases z with z|z
   .exact o1.nf a m z
   .exact(sT.mp nd).2.2 a m a z rfl
  .rcases z with z|z
   .exact o1.fd a z
   .exact AO.def q a z
  .rcases z with z|z
   .exact o1.pf a z
   .exact(nf a z).2
 |n i =>
  dsimp only at s;split at s
  .rename_i o es;obtain⟨L,L',o1,⟨_,q⟩,nd,nf⟩:=q;obtain⟨v,L1,L2,L3,e1,rfl,h1,h2⟩:=o1.sl.pick es;obtain⟨w,rfl,q2⟩:=h1;rw[e1]at q;have eu:w=u:=by simpa using q
   subst eu;have l2:Le F' H' (GZ F' L2) H':=orF;have r2:=AO.frz orF (λa m=>.inr m) q2;refine s (GZ F' L2) H' w l2 (RR.of ⟨L1++([]++L3),?_⟩ r2);have h3:=h2 (GZ F' L2) H' (some (.val (toT o))) (some w) [] l2 (λ_ _=>rfl) ⟨w,rfl,r2,rfl⟩;rw[A8 e1]at h3;have bQ:=o1.nd;refine⟨h3,BE bQ ua (λ_ m=>nomatch m),λa m z=>?_,λa z=>?_,?_,o1.pd,λa z=>?_,λa m=>o1.pl a ?_⟩
   .have m':=by simpa using m
    rcases z with z|z
    .exact o1.nf a (by rcases m' with m|m<;>simp[m]) z
    .rw[sT]at bQ;rcases m' with m|m
     .exact bQ.2.2 a m a (tm _ z) rfl
     .exact(sT.mp bQ.2.1).2.2 a z a m rfl
   .rcases z with z|z
    .exact o1.fd a z
    .exact AO.def q2 a z
   .have:=Ew.put (i:=i) (s:=some (.val (toT o))) (v:=some w) o1.bo (λo eo=>by cases eo) o1.sl.len;rwa[A8 e1]at this
   .rcases z with z|z
    .exact o1.pf a z
    .exact o1.pl a (by simp[z])
   .have m':=by simpa using m
    rcases m' with m|m<;>simp[m]
  .exact s.elim
end
noncomputable def big:Nat:=1000000
theorem De:big<=sizeLine:=by rw[sizeLine_eq];decide
theorem FZ:big<sizeLine:=by rw[sizeLine_eq];decide
noncomputable def DG(fs:FS):Rv->Option (List T)
 |.t (.lst ts)=>some ts
 |.t (.zY ts)=>some ts
 |.n i=>match AE fs i with|some (.lst ts)=>some ts|_=>none
 |_=>none
noncomputable def Sv:Rv->Option (List T)
 |.t (.tup ts)=>some ts
 |_=>none
section
variable{K:Fg}{B:Nat->Option V}{F F':Wd}{H H':Hp}{U:St}{fs:FS}{x:Rv}{u:V}{ts:List T}
set_option tactic.hygienic true in
theorem Br(h:Okk K F B H fs U)(r:CW K F H U x u)(e:DG fs x=some ts):∃a vs,u=.ref a/\SqL K H a vs/\Ag K F H ts vs:=by
 unfold DG at e;split at e
 .cases e;obtain⟨a,vs,e,f,s,q⟩:=r;exact⟨a,vs,e,SqL.of s,q⟩
 .cases e;obtain⟨a,vs,e,s,q⟩:=r;exact⟨a,vs,e,s.sq,q⟩
 .rename_i i;split at e
  .rename_i gX eo;cases e;obtain⟨v,L2,e1,q,_⟩:=h.own eo;have e2:U[i]?=some (some u):=r;rw[e1]at e2;have e3:v=u:=by simpa using e2
   subst e3;obtain⟨a,vs,e,s,q,_⟩:=q;exact⟨a,vs,e,SqL.of s,q⟩
  .cases e
 .cases e
theorem B7(r:CW K F H U x u)(e:Sv x=some ts):∃a vs,u=.ref a/\SqT K H a vs/\Ag K F H ts vs:=by
 unfold Sv at e;split at e
 .cases e;obtain⟨a,vs,e,s,q⟩:=r;exact⟨a,vs,e,s.sq,q⟩
 .cases e
theorem Oq(r:Ag K F H ts vs)(e:atI ts i=some t):∃v,atI vs i=some v/\AF K F H t v:=by unfold atI at e ⊢;rw[r.len];cases q:ixN ts.length i with|none=>rw[q]at e;cases e|some j =>rw[q]at e;exact r.at e
theorem Ag.ints:∀{ns:List Int}{vs:List V},Ag K F H (ns.map T.int) vs->vs=ns.map V.int
 | [],_,h=>by simpa[Ag]using h
 |n::ns,_,h=>by obtain⟨v,r,rfl,rfl,h⟩:=h;rw[sX,Ag.ints h]
theorem Ag.bls:∀{ns:List Bool}{vs:List V},Ag K F H (ns.map T.v) vs->vs=ns.map V.v
 | [],_,h=>by simpa[Ag]using h
 |n::ns,_,h=>by obtain⟨v,r,rfl,rfl,h⟩:=h;rw[sX,Ag.bls h]
end
noncomputable def Cs:List T->Option (List Int)
 | []=>some []
 |.int i::r=>(Cs r).map (i::·)
 |_=>none
noncomputable def CY:List T->Option (List Bool)
 | []=>some []
 |.v i::r=>(CY r).map (i::·)
 |_=>none
theorem Jj:∀{ts:List T}{ns:List Int},Cs ts=some ns->ts=ns.map T.int
 | [],_,e=>by cases e;rfl
 |.int i::r,_,e=>by simp only[Cs,tu]at e;obtain⟨ns,e,rfl⟩:=e;rw[sX,<- Jj e]
 |.o::r,_,e=>by simp[Cs]at e
 |.v _::r,_,e=>by simp[Cs]at e
 |.str _::r,_,e=>by simp[Cs]at e
 |.tup _::r,_,e=>by simp[Cs]at e
 |.lst _::r,_,e=>by simp[Cs]at e
 |.zY _::r,_,e=>by simp[Cs]at e
 |.l _ _::r,_,e=>by simp[Cs]at e
 |.dT _ _::r,_,e=>by simp[Cs]at e
 |.ins _ _ _::r,_,e=>by simp[Cs]at e
 |.dF _ _::r,_,e=>by simp[Cs]at e
theorem E1:∀{ts:List T}{ns:List Bool},CY ts=some ns->ts=ns.map T.v
 | [],_,e=>by cases e;rfl
 |.v i::r,_,e=>by simp only[CY,tu]at e;obtain⟨ns,e,rfl⟩:=e;rw[sX,<- E1 e]
 |.o::r,_,e=>by simp[CY]at e
 |.int _::r,_,e=>by simp[CY]at e
 |.str _::r,_,e=>by simp[CY]at e
 |.tup _::r,_,e=>by simp[CY]at e
 |.lst _::r,_,e=>by simp[CY]at e
 |.zY _::r,_,e=>by simp[CY]at e
 |.l _ _::r,_,e=>by simp[CY]at e
 |.dT _ _::r,_,e=>by simp[CY]at e
 |.ins _ _ _::r,_,e=>by simp[CY]at e
 |.dF _ _::r,_,e=>by simp[CY]at e
noncomputable def Ae(g:Rv->Rv->FS->Out Rv)(fa fb:FS->Out Rv):FS->Out Rv:=λfs=>(fa fs).bnd λx fs=>(fb fs).bnd λy fs=>g x y fs
def OpF(K:Fg)(Z:Xp)(r:R2)(g:Rv->Rv->FS->Out Rv):Prop:=∀(F:Wd)(B:Nat->Option V)(H:Hp)(U:St)(fs:FS)(x y:Rv)(u w:V)(Q:VK),Okk K F B H fs U->CW K F H U x u->CW K F H U y w ->
 sat Z B (RR K B U) F H (g x y fs) Q->r u w H Q
noncomputable def asB(f:FS->Out Rv):FS->Out Bool:=λfs=>(f fs).bind λr fs=>match r with|.t (.v b)=>.ok b fs|_=>.bad
section
variable{X:Cx}{K:Fg}{Z:Xp}{a b c:Expr}{fa fb fc f:FS->Out Rv}{r r':R2}{g g':Rv->Rv->FS->Out Rv}{pos:Pos}{U:St}{H:Hp}
theorem EY(hg:OpF K Z r g)(h:tF K Z (Ae g fa fb) U H Q):tOp r (tF K Z fa) (tF K Z fb) U H Q:=by obtain⟨F,B,fs,ok,s⟩:=h;exact⟨F,B,fs,ok,Au s λx ag F1 H1 u l ay rx s1=>⟨F1,B,ag,ay,Au s1 λy au F2 H2 w l2 aN ry s2=>hg F2 B H2 U au x y u w Q aN (rx.le l2) ry s2⟩⟩
set_option tactic.hygienic true in
theorem RV(h:tT K Z (asB f) U H Q):tF K Z f U H λx H'=>∃k,x=.v k/\Q k H':=by
 obtain⟨F,B,fs,ok,s⟩:=h;refine⟨F,B,fs,ok,As s λr ag F1 H1 u l q s1=>?_⟩;split at s1
 next b=>obtain⟨L,L',o1,⟨_,q⟩,_⟩:=q;exact⟨b,q,s1 F1 H1 b Le.refl ⟨⟨L,o1⟩,rfl⟩⟩
 .exact s1.elim
theorem IL(hg:OpF X.K Z r g)(ho:OpR X (binaryOp op) r)(ha:FE X Z a fa)(hb:FE X Z b fb):FE X Z (.BinOp a op b pos) (Ae g fa fb) :=
 AG (Jao ho ha hb) λ_ _ _ h=>EY hg h
theorem IM(hg:OpF X.K Z r g)(ho:OpR X (compareOp op) r)(ha:FE X Z a fa)(hb:FE X Z b fb)(hm:behindInMarks op b=false):FE X Z (.Compare a [op] [b] pos) (Ae g fa fb) :=
 AG (S7 ho ha hb hm) λ_ _ _ h=>EY hg h
theorem DY(hg:OpF X.K Z r g)(ho:OpR X (compareOp op) r)(ha:FE X Z a fa)(hb:FE X Z b fb)(hm:behindInMarks op b=false):FT X Z (.Compare a [op] [b] pos) (asB (Ae g fa fb)) :=
 Ks (SI ho ha hb hm) λ_ _ _ h=>EY hg (RV h)
theorem Jbe(hg:OpF X.K Z r g)(hr:IxR X r)(ha:FE X Z a fa)(hb:FE X Z b fb)(hs:Kj b):FE X Z (.Subscript a b pos) (Ae g fa fb) :=
 AG (Jar hr ha hb hs) λ_ _ _ h=>EY hg h
noncomputable def chain(g g':Rv->Rv->FS->Out Rv)(fa fb fc:FS->Out Rv):FS->Out Rv:=λfs=>(fa fs).bnd λx fs=>(fb fs).bnd λy fs=>(g x y fs).bnd λz fs=>match z with
 |.t (.v true)=>(fc fs).bnd λw fs=>g' y w fs
 |.t (.v false)=>.ok (.t (.v false)) fs
 |_=>.bad
theorem U0(hg:OpF K Z r g)(hJ:OpF K Z r' g')(h:tF K Z (chain g g' fa fb fc) U H Q):Mr r r' (tF K Z fa) (tF K Z fb) (tF K Z fc) U H Q:=by
 obtain⟨F,B,fs,ok,s⟩:=h;refine⟨F,B,fs,ok,Au s λx ag F1 H1 u l ay rx s1=>⟨F1,B,ag,ay,Au s1 λy au F2 H2 w l2 aN ry s2=>hg F2 B H2 U au x y u w _ aN (rx.le l2) ry ?_⟩⟩;refine Au s2 λz bX F3 H3 v l3 dM rz s3=>?_
 split at s3
 .refine⟨true,rz,?_⟩;exact⟨F3,B,bX,dM,Au s3 λw' gE F4 H4 v' l4 il dk s4=>hJ F4 B H4 U gE y w' w v' Q il ((ry.le l3).le l4) dk s4⟩
 .refine⟨false,rz,?_⟩;exact s3 F3 H3 (.v false) Le.refl (RR.of dM rfl)
 .exact s3.elim
end
theorem Pr(ha:Builtin.Int.intBits a<=2^26)(hb:Builtin.Int.intBits b<=2^26):IntMulOk a b:=by intro h;rw[tO]at h;have h2:=tM (show decide _=true from h.2);have e:bitsLine=134217728:=rfl;omega
noncomputable def gI(g:Int->Int->FS->Out Rv):Rv->Rv->FS->Out Rv
 |.t (.int i),.t (.int j),fs=>g i j fs
 |_,_,_=>.bad
noncomputable def okT(t:T)(fs:FS):Out Rv:=.ok (.t t) fs
noncomputable def JaZ:=gI λi j=>okT (.int (i+j))
noncomputable def Hy:=gI λi j=>okT (.int (i-j))
noncomputable def XD:=gI λi j fs=>if(decide (-(2^64)<i/\i<2^64)||decide (-(2^64)<j/\j<2^64)||(decide (Builtin.Int.intBits i<=2^26)&&decide (Builtin.Int.intBits j<=2^26)))=true then okT (.int (i*j)) fs else .bad
noncomputable def BZ:=gI λi j fs=>if 0<j then okT (.int (i%j)) fs else .bad
noncomputable def DI:=gI λi j fs=>if 0<j/\j<1073741824 then okT (.int (i/j)) fs else .bad
noncomputable def gLt:=gI λi j=>okT (.v (decide (i<j)))
noncomputable def gLe:=gI λi j=>okT (.v (decide (i<=j)))
noncomputable def gGt:=gI λi j=>okT (.v (decide (j<i)))
section
variable{K:Fg}{Z:Xp}
set_option tactic.hygienic true in
theorem MR{t:Int->Int->T}(hv:∀K F H i j,AF K F H (t i j) (v i j))(hg:∀i j fs,g i j fs=.bad\/(C i j/\g i j fs=okT (t i j) fs)):OpF K Z (rI C v) (gI g):=by
 intro F B H U fs x y u w Q ok rx ry s;unfold gI at s;split at s
 .rename_i i j;rcases hg i j fs with e|⟨c,e⟩
  .rw[e]at s;exact s.elim
  .rw[e]at s;exact⟨i,j,rx,ry,c,s F H _ Le.refl (RR.of ok (hv _ _ _ _ _))⟩
 .exact s.elim
set_option tactic.hygienic true in
theorem Ii{t:Int->Int->T}(hv:∀K F H i j,AF K F H (t i j) (v i j)):OpF K Z (rI0 v) (gI λi j=>okT (t i j)):=by
 intro F B H U fs x y u w Q ok rx ry s;unfold gI at s;split at s
 next i j=>exact⟨i,j,rx,ry,s F H _ Le.refl (RR.of ok (hv _ _ _ _ _))⟩
 .exact s.elim
theorem W6:OpF K Z (rI0 λi j=>.int (i+j)) JaZ:=Ii λ_ _ _ _ _=>rfl
theorem WX:OpF K Z (rI0 λi j=>.int (i-j)) Hy:=Ii λ_ _ _ _ _=>rfl
theorem of_lt:OpF K Z (rI0 λi j=>.v (decide (i<j))) gLt:=Ii λ_ _ _ _ _=>rfl
theorem of_le:OpF K Z (rI0 λi j=>.v (decide (i<=j))) gLe:=Ii λ_ _ _ _ _=>rfl
theorem W4:OpF K Z (rI0 λi j=>.v (decide (j<i))) gGt:=Ii λ_ _ _ _ _=>rfl
theorem W3:OpF K Z (rI (λ_ j=>0<j) λi j=>.int (i%j)) BZ:=MR (t:=λi j=>.int (i%j)) (λ_ _ _ _ _=>rfl) λi j fs=>by
 by_cases h:0<j
 .exact .inr ⟨h,if_pos h⟩
 .exact .inl (if_neg h)
theorem W5:OpF K Z (rI JbX λi j=>.int (i/j)) DI:=MR (t:=λi j=>.int (i/j)) (λ_ _ _ _ _=>rfl) λi j fs=>by
 by_cases h:0<j/\j<1073741824
 .exact .inr ⟨h,if_pos h⟩
 .exact .inl (if_neg h)
theorem W0:OpF K Z (rI IntMulOk λi j=>.int (i*j)) XD:=MR (t:=λi j=>.int (i*j)) (λ_ _ _ _ _=>rfl) λi j fs=>by
 by_cases h:(decide (-(2^64)<i/\i<2^64)||decide (-(2^64)<j/\j<2^64)||(decide (Builtin.Int.intBits i<=2^26)&&decide (Builtin.Int.intBits j<=2^26)))=true
 .refine .inr ⟨?_,if_pos h⟩;rw[uT,uT,tO]at h;rcases h with(h|h)|⟨h1,h2⟩
  .exact Y8.ok (.inl (tM h))
  .exact Y8.ok (.inr (tM h))
  .exact Pr (tM h1) (tM h2)
 .exact .inl (if_neg h)
end
noncomputable def plV:T->Option V
 |.o=>some .o
 |.v b=>some (.v b)
 |.int i=>some (.int i)
 |.str x=>some (.str x)
 |_=>none
theorem BD(e:plV t=some v)(r:AF K F H t u):u=v:=by cases t with|o=>cases e;exact r|v b=>cases e;exact r|int i=>cases e;exact r|str x=>cases e;exact r|tup ts=>cases e|lst ts=>cases e|zY ts=>cases e|l ks ts=>cases e|dT ks ts=>cases e|ins C fs ts=>cases e|dF ks ts=>cases e|zD c=>cases e
noncomputable def gEq(neg:Bool):Rv->Rv->FS->Out Rv
 |.t x,.t y,fs=>match plV x,plV y with|some u,some w=>if QZ u w=true then okT (.v (if neg then !decide (u=w)else decide (u=w))) fs else .bad|_,_=>.bad
 |_,_,_=>.bad
noncomputable def SV:List T->Option (List V)
 | []=>some []
 |t::r=>(plV t).bind λv=>(SV r).map (v::·)
theorem Hh:∀{ts:List T}{us vs:List V},SV ts=some vs->Ag K F H ts us->us=vs/\vs.all En=true
 | [],_,_,e,r=>by cases e;exact⟨r,rfl⟩
 |t::ts,_,_,e,r=>by obtain⟨v,w,rfl,r1,r2⟩:=r;simp only[SV,tX,tu]at e;obtain⟨v',e1,ws,e2,rfl⟩:=e;obtain⟨rfl,h⟩:=Hh e2 r2;have:=BD e1 r1;subst this;refine⟨rfl,?_⟩;rw[vH,h,Bool.and_true];cases t<;>first|(cases e1;rfl)|cases e1
theorem Cm(e:plV t=some v):En v=true:=by cases t<;>first|(cases e;rfl)|cases e
noncomputable def gIn(neg:Bool):Rv->Rv->FS->Out Rv
 |.t x,y,fs=>match plV x with
  |some v=>match(match DG fs y with|some ts=>SV ts|none=>(Sv y).bind SV)with|some vs=>okT (.v (if neg then !inV v vs else inV v vs)) fs|none=>.bad
  |none=>.bad
 |_,_,_=>.bad
noncomputable def II(neg:Bool):Rv->Rv->FS->Out Rv
 |.t (.str i),.t (.str j),fs=>okT (.v (if neg then !(!(Builtin.Str.occurrences j i 0 j.length 1).isEmpty)else !(Builtin.Str.occurrences j i 0 j.length 1).isEmpty)) fs
 |_,_,_=>.bad
section
variable{K:Fg}{Z:Xp}
theorem of_eq:OpF K Z rEq (gEq false):=by
 intro F B H U fs x y u w Q ok rx ry s;unfold gEq at s;split at s
 .split at s
  .rename_i e1 e2;split at s
   next hs=>have h1:=BD e1 rx;have h2:=BD e2 ry;subst h1 h2;exact⟨hs,s F H _ Le.refl (RR.of ok rfl)⟩
   .exact s.elim
  .exact s.elim
 .exact s.elim
theorem WZ:OpF K Z rNe (gEq true):=by
 intro F B H U fs x y u w Q ok rx ry s;unfold gEq at s;split at s
 .split at s
  .rename_i e1 e2;split at s
   next hs=>have h1:=BD e1 rx;have h2:=BD e2 ry;subst h1 h2;exact⟨hs,s F H _ Le.refl (RR.of ok rfl)⟩
   .exact s.elim
  .exact s.elim
 .exact s.elim
set_option tactic.hygienic true in
theorem Tq(neg:Bool):OpF K Z (rIn K neg) (gIn neg):=by
 intro F B H U fs x y u w Q ok rx ry s;unfold gIn at s;split at s
 .split at s
  .rename_i v e1;split at s
   .rename_i vs e2;have h1:=BD e1 rx;subst h1;split at e2
    next ts e3=>obtain⟨a,us,rfl,hs,q⟩:=Br ok ry e3;obtain⟨rfl,hf⟩:=Hh e2 q;exact⟨a,us,rfl,.inl hs,Cm e1,hf,s F H _ Le.refl (RR.of ok rfl)⟩
    .rw[tX]at e2;obtain⟨ts,e3,e2⟩:=e2;obtain⟨a,us,rfl,hs,q⟩:=B7 ry e3;obtain⟨rfl,hf⟩:=Hh e2 q;exact⟨a,us,rfl,.inr hs,Cm e1,hf,s F H _ Le.refl (RR.of ok rfl)⟩
   .exact s.elim
  .exact s.elim
 .exact s.elim
set_option tactic.hygienic true in
theorem KA:OpF K Z (λx y H Q=>∃i j,x=.str i/\y=.str j/\Q (.v (!(Builtin.Str.occurrences j i 0 j.length 1).isEmpty)) H) (II false):=by
 intro F B H U fs x y u w Q ok rx ry s;unfold II at s;split at s
 next i j=>exact⟨i,j,rx,ry,s F H _ Le.refl (RR.of ok rfl)⟩
 .exact s.elim
set_option tactic.hygienic true in
theorem JK:OpF K Z (λx y H Q=>∃i j,x=.str i/\y=.str j/\Q (.v (!(!(Builtin.Str.occurrences j i 0 j.length 1).isEmpty))) H) (II true):=by
 intro F B H U fs x y u w Q ok rx ry s;unfold II at s;split at s
 next i j=>exact⟨i,j,rx,ry,s F H _ Le.refl (RR.of ok rfl)⟩
 .exact s.elim
end
noncomputable def gIx:Rv->Rv->FS->Out Rv
 |x,.t (.int i),fs=>match DG fs x with
  |some ts=>match atI ts i with|some t=>okT t fs|none=>.bad
  |none=>match x with
   |.t (.tup ts)=>match atI ts i with|some t=>okT t fs|none=>.bad
   |.t (.str z)=>if z.length<=big then match atI z.cps.toList i with|some c=>okT (.str ⟨#[c]⟩) fs|none=>.bad
    else .bad
   |_=>.bad
 |_,_,_=>.bad
section
variable{K:Fg}{Z:Xp}
set_option tactic.hygienic true in
theorem Jay:OpF K Z (rIx K) gIx:=by
 intro F B H U fs x y u w Q ok rx ry s;unfold gIx at s;split at s
 .rename_i i;split at s
  .rename_i ts e;split at s
   next t et=>obtain⟨a,vs,rfl,hs,q⟩:=Br ok rx e;obtain⟨v,ev,rv⟩:=Oq q et;exact .inl ⟨a,vs,i,v,rfl,ry,hs,ev,s F H v Le.refl (RR.of ok rv)⟩
   .exact s.elim
  .split at s
   .rename_i ts _;split at s
    next t et=>obtain⟨a,vs,rfl,hs,q⟩:=B7 rx rfl;obtain⟨v,ev,rv⟩:=Oq q et;exact .inr (.inl ⟨a,vs,i,v,rfl,ry,hs,ev,s F H v Le.refl (RR.of ok rv)⟩)
    .exact s.elim
   .rename_i z _;split at s
    .rename_i hz;split at s
     next c ec=>exact .inr (.inr ⟨z,i,c,rx,ry,tQ hz De,ec,s F H _ Le.refl (RR.of ok rfl)⟩)
     .exact s.elim
    .exact s.elim
   .exact s.elim
 .exact s.elim
end
noncomputable def Qb:Rv->Rv->FS->Out Rv
 |.t (.str i),.t (.str j),fs=>if i.length+j.length<=big then okT (.str (i++j)) fs else .bad
 |_,_,_=>.bad
noncomputable def Uj:Rv->Rv->FS->Out Rv
 |.t (.str z),.t (.int n),fs=>if z.length=1/\1<=n/\n<=1000 then okT (.str (Txt.mul z n)) fs else .bad
 |_,_,_=>.bad
theorem TJ(hz:z.length=1)(h0:1<=n)(h1:n<=1000):MulOk z n:=by
 refine⟨?_,λ_ _=>?_,λ_ _=>?_⟩
 .rw[Bool.or_eq_false_iff];exact⟨tS (by omega),tS (by omega)⟩
 .have h:=by omega
  have h2:1<=((2:Int)^63-1)/n:=(Int.le_ediv_iff_mul_le (by omega)).mpr (by omega);omega
 .unfold Builtin.Str.tooLong;refine tS ?_;rw[hz];have h3:(1000:Nat)<=sizeLine:=by rw[sizeLine_eq];decide
  omega
section
variable{K:Fg}{Z:Xp}
set_option tactic.hygienic true in
theorem Tw:OpF K Z (λx y H Q=>∃i j,x=.str i/\y=.str j/\i.length+j.length<=sizeLine/\Q (.str (i++j)) H) Qb:=by
 intro F B H U fs x y u w Q ok rx ry s;unfold Qb at s;split at s
 .rename_i i j;split at s
  next h=>exact⟨i,j,rx,ry,tQ h De,s F H _ Le.refl (RR.of ok rfl)⟩
  .exact s.elim
 .exact s.elim
set_option tactic.hygienic true in
theorem Tp:OpF K Z (λx y H Q=>∃z n,x=.str z/\y=.int n/\MulOk z n/\Q (.str (Txt.mul z n)) H) Uj:=by
 intro F B H U fs x y u w Q ok rx ry s;unfold Uj at s;split at s
 .rename_i i j;split at s
  next h=>exact⟨i,j,rx,ry,TJ h.1 h.2.1 h.2.2,s F H _ Le.refl (RR.of ok rfl)⟩
  .exact s.elim
 .exact s.elim
end
noncomputable def ZY(fs:FS):Rv->Option Bool
 |.t .o=>some false
 |.t (.v b)=>some b
 |.t (.int i)=>some (i !=0)
 |.t (.str x)=>if x.length<=big then some ((x.length:Int)!=0)else none
 |.t (.lst ts)=>some !ts.isEmpty
 |.t (.tup ts)=>some !ts.isEmpty
 |.n i=>match AE fs i with|some (.lst ts)=>some !ts.isEmpty|some (.l ks _)=>some !ks.isEmpty|_=>none
 |_=>none
noncomputable def Kn(f:FS->Out Rv):FS->Out Bool:=λfs=>(f fs).bnd λr fs=>match ZY fs r with|some b=>.ok b fs|none=>.bad
noncomputable def Fm(f:FS->Out Bool):FS->Out Bool:=λfs=>(f fs).bind λb fs=>.ok (!b) fs
noncomputable def Ki(f g:FS->Out Bool):FS->Out Bool:=λfs=>(f fs).bind λb fs=>if b=true then g fs else .ok false fs
noncomputable def orT(f g:FS->Out Bool):FS->Out Bool:=λfs=>(f fs).bind λb fs=>if b=true then .ok true fs else g fs
noncomputable def YT(f g:FS->Out Rv):FS->Out Rv:=λfs=>(f fs).bnd λr fs=>match r with|.t (.v true)=>g fs|.t (.v false)=>okT (.v false) fs|_=>.bad
noncomputable def orV(f g:FS->Out Rv):FS->Out Rv:=λfs=>(f fs).bnd λr fs=>match r with|.t (.v false)=>g fs|.t (.v true)=>okT (.v true) fs|_=>.bad
theorem CN{xs:List α}{ys:List β}(h:ys.length=xs.length):(!ys.isEmpty)=!xs.isEmpty:=by cases xs<;>cases ys<;>simp_all
section
variable{K:Fg}{B:Nat->Option V}{F:Wd}{H:Hp}{U:St}{fs:FS}{x:Rv}{u:V}
set_option tactic.hygienic true in
theorem Si(h:Okk K F B H fs U)(r:CW K F H U x u)(e:ZY fs x=some b):Jby K u H b:=by
 unfold ZY at e;split at e
 .cases e;cases r;rfl
 .cases e;cases r;rfl
 .cases e;cases r;rfl
 .split at e
  next hz=>cases e;cases r;exact⟨tQ hz De,rfl⟩
  .cases e
 .cases e;obtain⟨a,vs,rfl,hs,q⟩:=Br h r rfl;exact .inl ⟨vs,hs,(CN q.len).symm⟩
 .cases e;obtain⟨a,vs,rfl,hs,q⟩:=B7 r rfl;exact .inr (.inl ⟨vs,hs,(CN q.len).symm⟩)
 .rename_i i;split at e
  next ts eo=>cases e;obtain⟨a,vs,rfl,hs,q⟩:=Br (ts:=ts) h r (by simp[DG,eo]);exact .inl ⟨vs,hs,(CN q.len).symm⟩
  .rename_i ks ts eo;cases e;obtain⟨v,L2,e1,q,_⟩:=h.own eo;have e2:U[i]?=some (some u):=r;rw[e1]at e2;have e3:v=u:=by simpa using e2
   subst e3;obtain⟨a,ah,rfl,hd,rfl,_⟩:=q;exact .inr (.inr ⟨ah,hd,(CN (by simp))⟩)
  .cases e
 .cases e
end
section
variable{X:Cx}{Z:Xp}{a b c:Expr}{fa fb:FS->Out Rv}{ga gb:FS->Out Bool}{pos:Pos}{rest:List Expr}
set_option tactic.hygienic true in
theorem Qc(ha:FE X Z a fa)(he:∀bA,isTrue a X.env bA=(do let v <- bA;standAt a.pos;holding [v] (truthy v))):FT X Z a (Kn fa):=by
 refine Ks (O0 ha he) λU H Q ao => ?_
 obtain⟨F,B,fs,ok,s⟩:= ao;refine⟨F,B,fs,ok,Au s λr ag F1 H1 u l ay rx s1=>?_⟩;split at s1
 next b e=>exact⟨b,Si ay rx e,s1 F1 H1 b Le.refl ⟨ay,rfl⟩⟩
 .exact s1.elim
theorem XM(ha:FT X Z a ga):FT X Z (.UnaryOp .Not a pos) (Fm ga):=by
 refine Ks (Wl ha) λU H Q ao => ?_
 obtain⟨F,B,fs,ok,s⟩:= ao;refine⟨F,B,fs,ok,As s λb ag F1 H1 b' l q s1=>?_⟩;obtain⟨ay,rfl⟩:=q;exact s1 F1 H1 _ Le.refl ⟨ay,rfl⟩
def FW(X:Cx)(Z:Xp)(e:Expr)(f:FS->Out Bool):Prop:=PW X e (tT X.K Z f)
theorem FW.ft(h:FW X Z a ga):FT X Z a ga:=PW.pt h
theorem Q6(h:PW X e t)(i:∀U H Q,t' U H Q->t U H Q):PW X e t':=λbA aa s U H Q I q=>h bA aa s U H Q I (i _ _ _ q)
theorem Up(ha:FT X Z a ga):FW X Z (.BoolOp .And [a] pos) ga:=SH ha
theorem XI(ha:FT X Z a ga):FW X Z (.BoolOp .Or [a] pos) ga:=Wh ha
theorem XJ(ha:FT X Z a ga)(hb:FW X Z (.BoolOp .And (b::rest) pos) gb):FW X Z (.BoolOp .And (a::b::rest) pos) (Ki ga gb):=by
 refine Q6 (Wi ha hb) λU H Q ao => ?_
 obtain⟨F,B,fs,ok,s⟩:= ao;refine⟨F,B,fs,ok,As s λb ag F1 H1 b' l q s1=>?_⟩;obtain⟨ay,rfl⟩:=q;cases b' with|true =>exact⟨F1,B,ag,ay,s1⟩|false =>exact s1 F1 H1 _ Le.refl ⟨ay,rfl⟩
theorem Ja0(ha:FT X Z a ga)(hb:FW X Z (.BoolOp .Or (b::rest) pos) gb):FW X Z (.BoolOp .Or (a::b::rest) pos) (orT ga gb):=by
 refine Q6 (Jak ha hb) λU H Q ao => ?_
 obtain⟨F,B,fs,ok,s⟩:= ao;refine⟨F,B,fs,ok,As s λb ag F1 H1 b' l q s1=>?_⟩;obtain⟨ay,rfl⟩:=q;cases b' with|true =>exact s1 F1 H1 _ Le.refl ⟨ay,rfl⟩|false =>exact⟨F1,B,ag,ay,s1⟩
theorem X3(h:FE X Z a fa):FE X Z (.BoolOp op [a] pos) fa:=WB h
theorem Yn(ha:FE X Z a fa)(hb:FE X Z (.BoolOp .And (b::rest) pos) fb):FE X Z (.BoolOp .And (a::b::rest) pos) (YT fa fb):=by
 refine AG (WI ha hb) λU H Q ao => ?_
 obtain⟨F,B,fs,ok,s⟩:= ao;refine⟨F,B,fs,ok,Au s λr ag F1 H1 u l ay rx s1=>?_⟩;split at s1
 .exact⟨true,rx,by rw[if_pos rfl];exact⟨F1,B,ag,ay,s1⟩⟩
 .exact⟨false,rx,by rw[if_neg (by decide)];exact s1 F1 H1 _ Le.refl (RR.of ay rfl)⟩
 .exact s1.elim
theorem Jbb(ha:FE X Z a fa)(hb:FE X Z (.BoolOp .Or (b::rest) pos) fb):FE X Z (.BoolOp .Or (a::b::rest) pos) (orV fa fb):=by
 refine AG (Jan ha hb) λU H Q ao => ?_
 obtain⟨F,B,fs,ok,s⟩:= ao;refine⟨F,B,fs,ok,Au s λr ag F1 H1 u l ay rx s1=>?_⟩;split at s1
 .exact⟨false,rx,by rw[if_neg (by decide)];exact⟨F1,B,ag,ay,s1⟩⟩
 .exact⟨true,rx,by rw[if_pos rfl];exact s1 F1 H1 _ Le.refl (RR.of ay rfl)⟩
 .exact s1.elim
end
section
variable{X:Cx}{Z:Xp}{a b c:Expr}{fa fb fc:FS->Out Rv}{r r':R2}{g g':Rv->Rv->FS->Out Rv}{pos:Pos}
theorem Qe(hg:OpF X.K Z r g)(hJ:OpF X.K Z r' g')(ha:FE X Z a fa)(hb:FE X Z b fb)(hc:FE X Z c fc)
  (h:∀{ta tb tc:TE},PE X a ta->PE X b tb->PE X c tc->PT X (.Compare a [op,op'] [b,c] pos) (Sk (Mr r r' ta tb tc))):FT X Z (.Compare a [op,op'] [b,c] pos) (asB (chain g g' fa fb fc)) :=
 Ks (h ha hb hc) λ_ _ _ q=>U0 hg hJ (RV q)
end
noncomputable def Ai:FS->Out (List Rv):=λfs=>.ok [] fs
noncomputable def Ab(f:FS->Out Rv)(g:FS->Out (List Rv)):FS->Out (List Rv):=λfs=>(f fs).bnd λr fs=>(g fs).bind λrs fs=>.ok (r::rs) fs
noncomputable def LY:List Rv->Option (List T)
 | []=>some []
 |.t t::r=>(LY r).map (t::·)
 |_=>none
theorem E2:∀{rs:List Rv}{vs:List V}{ts:List T},HJ K F H U rs vs->LY rs=some ts->Ag K F H ts vs
 | [],_,_,h,e=>by cases e;exact h
 |.t t::r,_,_,h,e=>by simp only[LY,tu]at e;obtain⟨ts,e,rfl⟩:=e;obtain⟨v,w,rfl,h1,h2⟩:=h;exact⟨v,w,rfl,h1,E2 h2 e⟩
 |.nw _::r,_,_,h,e=>by simp[LY]at e
 |.n _::r,_,_,h,e=>by simp[LY]at e
noncomputable def An(g:List T->FS->Out Rv)(f:FS->Out (List Rv)):FS->Out Rv:=λfs=>(f fs).bind λrs fs=>match LY rs with|some ts=>if ts.length<=big then g ts fs else .bad|none=>.bad
noncomputable def AX(ts:List T)(fs:FS):Out Rv:=.ok (.t (.tup ts)) fs
noncomputable def BF(ts:List T)(fs:FS):Out Rv:=.ok (.t (.lst ts)) fs
noncomputable def Dq(ts:List T)(fs:FS):Out Rv:=.ok (.nw (.lst ts)) fs
section
variable{X:Cx}{Z:Xp}{e:Expr}{es:List Expr}{f:FS->Out Rv}{g:FS->Out (List Rv)}{pos:Pos}
theorem Yq:FA X Z [] Ai:=Ky Fb λU H Q ⟨F,B,fs,ok,s⟩=>s F H [] Le.refl ⟨ok,rfl⟩
theorem UI(ha:FE X Z e f)(hr:FA X Z es g)(hs:starEach (e::es) X.env=(false,eval e X.env)::starEach es X.env:=by rfl):FA X Z (e::es) (Ab f g):=by
 refine Ky (B9 ha hr hs) λU H Q ao => ?_
 obtain⟨F,B,fs,ok,s⟩:= ao;refine⟨F,B,fs,ok,Au s λr ag F1 H1 u l ay rx s1=>⟨F1,B,ag,ay,As s1 λrs au F2 H2 us l2 q s2=>?_⟩⟩;exact s2 F2 H2 (u::us) Le.refl ⟨q.1,u,us,rfl,rx.le l2,q.2⟩
set_option tactic.hygienic true in
theorem XX(h:FA X Z es g):FE X Z (.Tuple es x1 pos) (An AX g):=by
 refine AG (Wz h) λU H Q ao => ?_
 obtain⟨F,B,fs,ok,s⟩:= ao;refine⟨F,B,fs,ok,As s λrs ag F1 H1 us l q s1=>?_⟩;obtain⟨ay,q⟩:=q;split at s1
 .rename_i ts e;have r:=E2 q e;split at s1
  next hl=>refine⟨by rw[r.len];exact tQ hl De,λp hp=>s1 (Oy F1 p) (upd H1 p (.tup us)) (.ref p) (AS ay hp) (RR.of (ay.alloc hp) ?_)⟩;exact⟨p,us,rfl,⟨rfl,.inr rfl,Am⟩,r.le (AS ay hp)⟩
  .exact s1.elim
 .exact s1.elim
set_option tactic.hygienic true in
theorem X9(h:FA X Z es g):FE X Z (.List es pos) (An BF g):=by
 refine AG (Rb h) λU H Q ao => ?_
 obtain⟨F,B,fs,ok,s⟩:= ao;refine⟨F,B,fs,ok,As s λrs ag F1 H1 us l q s1=>?_⟩;obtain⟨ay,q⟩:=q;split at s1
 .rename_i ts e;have r:=E2 q e;split at s1
  next hl=>refine⟨by rw[r.len];exact tQ hl De,λp hp=>s1 (Oy F1 p) (upd H1 p (.lst us)) (.ref p) (AS ay hp) (RR.of (ay.alloc hp) ?_)⟩;exact⟨p,us,rfl,.inr rfl,Am,r.le (AS ay hp)⟩
  .exact s1.elim
 .exact s1.elim
theorem CM(h:H p=some (.lst us))(r:Ag K F H ts us):AO K F H (.lst ts) (.ref p) [p]:=by exact⟨p,us,rfl,h,r,rfl⟩
set_option tactic.hygienic true in
theorem UC(h:FA X Z es g):FE X Z (.List es pos) (An Dq g):=by
 refine AG (Rb h) λU H Q ao => ?_
 obtain⟨F,B,fs,ok,s⟩:= ao;refine⟨F,B,fs,ok,As s λrs ag F1 H1 us l q s1=>?_⟩;obtain⟨ay,q⟩:=q;split at s1
 .rename_i ts e;have r:=E2 q e;split at s1
  next hl=>exact⟨by rw[r.len];exact tQ hl De,λp hp=>s1 F1 (upd H1 p (.lst us)) (.ref p) (AB ay hp) (RR.alloc ay hp (CM Am (r.le (AB ay hp))))⟩
  .exact s1.elim
 .exact s1.elim
noncomputable def Ek:FS->Out Rv:=λfs=>.ok (.nw (.l [] [])) fs
theorem Qi:FE X Z (.Dict [] [] pos) Ek:=by
 refine AG Kw λU H Q ⟨F,B,fs,ok,s⟩ p hp=>s F (upd H p (.l [])) (.ref p) (AB ok hp) (RR.alloc ok hp ?_)
 exact⟨p,[],rfl,Am,rfl,rfl,rfl⟩
end
def Cw(K:Fg)(Z:Xp)(r:List V->Hp->VK->Prop)(g:List Rv->FS->Out Rv):Prop:=∀(F:Wd)(B:Nat->Option V)(H:Hp)(U:St)(fs:FS)(rs:List Rv)(vs:List V)(Q:VK),Okk K F B H fs U->HJ K F H U rs vs ->
 sat Z B (RR K B U) F H (g rs fs) Q->r vs H Q
noncomputable def Ad(g:List Rv->FS->Out Rv)(f:FS->Out (List Rv)):FS->Out Rv:=λfs=>(f fs).bind λrs fs=>g rs fs
section
variable{X:Cx}{Z:Xp}{e:Expr}{es:List Expr}{fa:FS->Out (List Rv)}{g:List Rv->FS->Out Rv}{r:List V->Hp->VK->Prop}{pos p:Pos}{x:Str}{id Ty:String}
theorem EV(hJ:Cw X.K Z r g)(hc:BU X (.builtin id) r)(hm:X.mg x=none)(hv:bootBuiltins x=some (.builtin id))(ha:FA X Z (e::es) fa)(hg:Gl X x:=by rfl)(hn:x≠"__name__":=by decide)(aR:(x==("__debug__":Str))=false:=by decide)
  (he:starEach (e::es) X.env=(false,eval e X.env)::starEach es X.env:=by rfl) (aI:(backTo pos (starEach es X.env)).any (·.1)=false:=by rfl):FE X Z (.Call (.Name x p) (e::es) [] pos) (Ad g fa) :=
 AG (ET hc hg hm hv ha hn aR he aI) λU H Q ⟨F,B,fs,ok,s⟩=>⟨F,B,fs,ok,As s λrs ag F1 H1 us l q s1=>hJ F1 B H1 U ag rs us Q q.1 q.2 s1⟩
theorem C7(hJ:Cw X.K Z r g)(hc:BU X (.type Ty) r)(hm:X.mg x=none)(hv:bootBuiltins x=some (.type Ty))(ha:FA X Z (e::es) fa)(hg:Gl X x:=by rfl)(hn:x≠"__name__":=by decide)(aR:(x==("__debug__":Str))=false:=by decide)
  (he:starEach (e::es) X.env=(false,eval e X.env)::starEach es X.env:=by rfl) (aI:(backTo pos (starEach es X.env)).any (·.1)=false:=by rfl):FE X Z (.Call (.Name x p) (e::es) [] pos) (Ad g fa) :=
 AG (MP hc hg hm hv ha hn aR he aI) λU H Q ⟨F,B,fs,ok,s⟩=>⟨F,B,fs,ok,As s λrs ag F1 H1 us l q s1=>hJ F1 B H1 U ag rs us Q q.1 q.2 s1⟩
end
noncomputable def JaV:List Rv->FS->Out Rv
 | [x],fs=>match DG fs x with|some ts=>okT (.int ts.length) fs|none=>match Sv x with|some ts=>okT (.int ts.length) fs|none=>.bad
 |_,_=>.bad
noncomputable def NG:List Rv->FS->Out Rv
 | [.t (.str z)],fs=>if z.length<=big then okT (.int z.length) fs else .bad
 |_,_=>.bad
noncomputable def El:List Rv->FS->Out Rv
 | [.t (.int i)],fs=>okT (.int i) fs
 | [.t (.v k)],fs=>okT (.int (if k then 1 else 0)) fs
 |_,_=>.bad
noncomputable def Y1:List Rv->FS->Out Rv
 | [x],fs=>match(DG fs x).bind Cs with|some ns=>okT (.int ns.sum) fs|none=>.bad
 |_,_=>.bad
noncomputable def XH:List Rv->FS->Out Rv
 | [x],fs=>match(DG fs x).bind CY with|some ns=>okT (.v (ns.all id)) fs|none=>.bad
 |_,_=>.bad
noncomputable def Uk:List Rv->FS->Out Rv
 | [x],fs=>match DG fs x with|some ts=>.ok (.nw (.lst ts)) fs|none=>match Sv x with|some ts=>.ok (.nw (.lst ts)) fs|none=>.bad
 |_,_=>.bad
noncomputable def Bd:List Rv->FS->Out Rv
 | [x],fs=>match DG fs x with|some ts=>okT (.tup ts) fs|none=>match Sv x with|some ts=>okT (.tup ts) fs|none=>.bad
 |_,_=>.bad
noncomputable def Ox:Key->T
 |.inl i=>.int i
 |.inr x=>.str x
noncomputable def NF:List Rv->FS->Out Rv
 | [.t (.l ks _)],fs=>.ok (.nw (.lst (ks.map Ox))) fs
 |_,_=>.bad
section
variable{K:Fg}{Z:Xp}
theorem Ba(h:HJ K F H U [x] vs):∃v,vs=[v]/\CW K F H U x v:=by obtain⟨v,w,rfl,h1,h2⟩:=h;have:=h2;subst this;exact⟨v,rfl,h1⟩
theorem YI:Cw K Z (λxs H Q=>∃p ys,xs=[.ref p]/\(SqL K H p ys\/SqT K H p ys)/\Q (.int ys.length) H) JaV:=by
 intro F B H U fs rs vs Q ok q s;unfold JaV at s;split at s
 .obtain⟨v,rfl,qq⟩:=Ba q;have q:=qq;split at s
  next ts e=>obtain⟨a,us,rfl,hs,r⟩:=Br ok q e;exact⟨a,us,rfl,.inl hs,by rw[r.len];exact s F H _ Le.refl (RR.of ok rfl)⟩
  .split at s
   next ts e=>obtain⟨a,us,rfl,hs,r⟩:=B7 q e;exact⟨a,us,rfl,.inr hs,by rw[r.len];exact s F H _ Le.refl (RR.of ok rfl)⟩
   .exact s.elim
 .exact s.elim
set_option tactic.hygienic true in
theorem U2:Cw K Z (λxs H Q=>∃z,xs=[.str z]/\z.length<=sizeLine/\Q (.int z.length) H) NG:=by
 intro F B H U fs rs vs Q ok q s;unfold NG at s;split at s
 .rename_i z;obtain⟨v,rfl,qq⟩:=Ba q;cases qq;split at s
  next hz=>exact⟨z,rfl,tQ hz De,s F H _ Le.refl (RR.of ok rfl)⟩
  .exact s.elim
 .exact s.elim
theorem U4:Cw K Z (λxs H Q=>(∃i,xs=[.int i]/\Q (.int i) H)\/∃k,xs=[.v k]/\Q (.int (if k then 1 else 0)) H) El:=by
 intro F B H U fs rs vs Q ok q s;unfold El at s;split at s
 .obtain⟨v,rfl,qq⟩:=Ba q;have q:=qq;cases q;exact .inl ⟨_,rfl,s F H _ Le.refl (RR.of ok rfl)⟩
 .obtain⟨v,rfl,qq⟩:=Ba q;cases qq;exact .inr ⟨_,rfl,s F H _ Le.refl (RR.of ok rfl)⟩
 .exact s.elim
set_option tactic.hygienic true in
theorem YH:Cw K Z (λxs H Q=>∃(l:Addr)(ns:List Int),xs=[.ref l]/\SqL K H l (ns.map V.int)/\Q (.int ns.sum) H) Y1:=by
 intro F B H U fs rs vs Q ok q s;unfold Y1 at s;split at s
 .obtain⟨v,rfl,qq⟩:=Ba q;split at s
  next ns e=>rw[tX]at e;obtain⟨ts,e1,e2⟩:=e;obtain⟨a,us,rfl,hs,r⟩:=Br ok qq e1;rw[Jj e2]at r;rw[Ag.ints r]at hs;exact⟨a,ns,rfl,hs,s F H _ Le.refl (RR.of ok rfl)⟩
  .exact s.elim
 .exact s.elim
set_option tactic.hygienic true in
theorem YK:Cw K Z (λxs H Q=>∃(l:Addr)(bs:List Bool),xs=[.ref l]/\SqL K H l (bs.map V.v)/\Q (.v (bs.all id)) H) XH:=by
 intro F B H U fs rs vs Q ok q s;unfold XH at s;split at s
 .obtain⟨v,rfl,qq⟩:=Ba q;split at s
  next ns e=>rw[tX]at e;obtain⟨ts,e1,e2⟩:=e;obtain⟨a,us,rfl,hs,r⟩:=Br ok qq e1;rw[E1 e2]at r;rw[Ag.bls r]at hs;exact⟨a,ns,rfl,hs,s F H _ Le.refl (RR.of ok rfl)⟩
  .exact s.elim
 .exact s.elim
theorem U1:Cw K Z (λxs H Q=>∃p ys,xs=[.ref p]/\(SqL K H p ys\/SqT K H p ys)/\∀l,H l=none->Q (.ref l) (upd H l (.lst ys))) Uk:=by
 intro F B H U fs rs vs Q ok q s;unfold Uk at s;split at s
 .obtain⟨v,rfl,qq⟩:=Ba q;have q:=qq;split at s
  next ts e=>obtain⟨a,us,rfl,hs,r⟩:=Br ok q e;exact⟨a,us,rfl,.inl hs,λp hp=>s F (upd H p (.lst us)) (.ref p) (AB ok hp) (RR.alloc ok hp (CM Am (r.le (AB ok hp))))⟩
  .split at s
   next ts e=>obtain⟨a,us,rfl,hs,r⟩:=B7 q e;exact⟨a,us,rfl,.inr hs,λp hp=>s F (upd H p (.lst us)) (.ref p) (AB ok hp) (RR.alloc ok hp (CM Am (r.le (AB ok hp))))⟩
   .exact s.elim
 .exact s.elim
theorem Eb(ok:Okk K F B H fs U)(hp:H p=none)(r:Ag K F H ts us):RR K B U (Oy F p) (upd H p (.tup us)) fs (.t (.tup ts)) (.ref p):=by refine RR.of (ok.alloc hp) ?_;exact⟨p,us,rfl,⟨rfl,.inr rfl,Am⟩,r.le (AS ok hp)⟩
theorem Lx(ok:Okk K F B H fs U)(hp:H p=none)(r:Ag K F H ts us):RR K B U (Oy F p) (upd H p (.lst us)) fs (.t (.lst ts)) (.ref p):=by refine RR.of (ok.alloc hp) ?_;exact⟨p,us,rfl,.inr rfl,Am,r.le (AS ok hp)⟩
set_option tactic.hygienic true in
theorem QA:Cw K Z (λxs H Q=>∃p ys,xs=[.ref p]/\((SqL K H p ys/\∀l,H l=none->Q (.ref l) (upd H l (.tup ys)))\/(SqT K H p ys/\Q (.ref p) H))) Bd:=by
 intro F B H U fs rs vs Q ok q s;unfold Bd at s;split at s
 .rename_i x;obtain⟨v,rfl,qq⟩:=Ba q;have q:=qq;split at s
  next ts e=>obtain⟨a,us,rfl,hs,r⟩:=Br ok q e;exact⟨a,us,rfl,.inl ⟨hs,λp hp=>s _ _ (.ref p) (AS ok hp) (Eb ok hp r)⟩⟩
  .split at s
   .rename_i ts e;obtain⟨a,us,rfl,hs,r⟩:=B7 q e;have ex:x=.t (.tup ts):=by
     unfold Sv at e;split at e
     .cases e;rfl
     .cases e
    rw[ex]at q;exact⟨a,us,rfl,.inr ⟨hs,s F H _ Le.refl (RR.of ok q)⟩⟩
   .exact s.elim
 .exact s.elim
theorem Ht:∀ks:List Key,Ag K F H (ks.map Ox) (ks.map kV)
 | []=>by simp[Ag]
 |.inl i::r=>by exact⟨_,_,rfl,rfl,Ht r⟩
 |.inr i::r=>by exact⟨_,_,rfl,rfl,Ht r⟩
set_option tactic.hygienic true in
theorem QB:Cw K Z (λxs H Q=>∃p ah,xs=[.ref p]/\Rd H p (.l ah)/\∀l,H l=none->Q (.ref l) (upd H l (.lst (ah.map λkv=>kV kv.1)))) NF:=by
 intro F B H U fs rs vs Q ok q s;unfold NF at s;split at s
 .rename_i ks ts;obtain⟨v,rfl,qq⟩:=Ba q;have q:=qq;obtain⟨a,ah,rfl,f,hd,rfl,r⟩:=q;refine⟨a,ah,rfl,hd,λp hp=>s F _ (.ref p) (AB ok hp) (RR.alloc ok hp (CM Am ?_))⟩;have e:(ah.map λkv=>kV kv.1)=(ah.map (·.1)).map kV:=by rw[tU];rfl
  rw[e];exact Ht _
 .exact s.elim
end
def MtF(K:Fg)(Z:Xp)(r:V->List V->Hp->VK->Prop)(g:Rv->List Rv->FS->Out Rv):Prop:=∀(F:Wd)(B:Nat->Option V)(H:Hp)(U:St)(fs:FS)(x:Rv)(rs:List Rv)(u:V)(vs:List V)(Q:VK),Okk K F B H fs U->CW K F H U x u->HJ K F H U rs vs ->
 sat Z B (RR K B U) F H (g x rs fs) Q->r u vs H Q
noncomputable def Cu(g:Rv->List Rv->FS->Out Rv)(fo:FS->Out Rv)(fa:FS->Out (List Rv)):FS->Out Rv:=λfs=>(fo fs).bnd λx fs=>if(DG fs x).isSome=true then(fa fs).bind λrs fs=>g x rs fs else .bad
section
variable{X:Cx}{Z:Xp}{o e:Expr}{es:List Expr}{fo:FS->Out Rv}{fa:FS->Out (List Rv)}{g:Rv->List Rv->FS->Out Rv}{r:V->List V->Hp->VK->Prop}{aA aD:Pos}{name:Str}{id:String}
theorem Yl(hg:MtF X.K Z r g)(slot:Slot "list" name id)(gp:typeOf (.builtin id)=pure (.type "method_descriptor"))(hm:MtR X id r)(ho:FE X Z o fo)(ha:FA X Z (e::es) fa)
  (fj:attributeBase o name X.env (eval o X.env)=eval o X.env:=by rfl)
  (g8:((backTo aD (starEach (e::es) X.env)).all (λx=>!x.1)&&(backToKw aD (keywordEach [] X.env)).all (λx=>x.1.isSome)
  &&decide ((e::es).length+([]:List Keyword).length+(if([]:List Keyword).isEmpty then 0 else 1)<30))=true:=by rfl)
  (fw:(aA.endLine==aD.line)=true:=by rfl) (hs:starEach (e::es) X.env=(false,eval e X.env)::starEach es X.env:=by rfl) (dC:(backTo aD (starEach es X.env)).any (·.1)=false:=by rfl) :
  FE X Z (.Call (.Attribute o name aA) (e::es) [] aD) (Cu g fo fa):=by
 refine AG (Jau PySem.F.plainAttrs_list slot gp hm ho ha fj g8 fw hs dC) λU H Q ao => ?_
 obtain⟨F,B,fs,ok,s⟩:= ao;refine⟨F,B,fs,ok,Au s λx ag F1 H1 u l ay rx s1=>?_⟩;split at s1
 next he=>obtain⟨ts,pX⟩:=u6.mp he;obtain⟨a,vs,rfl,hs,q⟩:=Br ay rx pX;exact⟨.inl ⟨rfl,vs,hs⟩,F1,B,ag,ay,As s1 λrs au F2 H2 us l2 q2 s2=>hg F2 B H2 U au x rs _ us Q q2.1 (rx.le l2) q2.2 s2⟩
 .exact s1.elim
end
noncomputable def Gv:Rv->List Rv->FS->Out Rv
 |.n i,[.t t],fs=>match AE fs i with|some (.lst ts)=>if ts.length<big then .ok (.t .o) (putAt fs i (.lst (ts++[t])))else .bad|_=>.bad
 |_,_,_=>.bad
section
variable{K:Fg}{Z:Xp}{B:Nat->Option V}{F:Wd}{H:Hp}{U:St}{fs:FS}{i:Nat}{u:V}{ts:List T}
theorem Okk.list(h:Okk K F B H fs U)(r:U[i]?=some (some u))(e:AE fs i=some (.lst ts)):∃a vs,u=.ref a/\H a=some (.lst vs)/\Ag K F H ts vs /\
  ∀gX gY,Ag K F H gX gY->Okk K F B (upd H a (.lst gY)) (putAt fs i (.lst gX)) U/\Le F H F (upd H a (.lst gY)):=by
 obtain⟨v,L2,e1,q,nf,_,k⟩:=h.own e;rw[e1]at r;have e3:v=u:=by simpa using r
 subst e3;obtain⟨a,vs,rfl,hs,q,rfl⟩:=q;refine⟨a,vs,rfl,hs,q,λgX gY q'=>?_⟩;have l:Le F H F (upd H a (.lst gY)):=⟨λb f=>⟨f,Aj λz=>(nf a (by simp)).1 (z▸f)⟩,λb f=>⟨f,Aj λz=>(nf a (by simp)).2 (z▸f)⟩⟩
 exact k _ _ (λb hb _=>Aj (by simpa using hb)) (CM Am (q'.le l))
set_option tactic.hygienic true in
theorem Xc:MtF K Z MC Gv:=by
 intro F B H U fs x rs u vs Q ok rx q s;unfold Gv at s;split at s
 .rename_i i t;obtain⟨v,rfl,qq⟩:=Ba q;split at s
  .rename_i ts e;split at s
   next hl=>obtain⟨a,us,rfl,hs,r,k⟩:=ok.list rx e;obtain⟨dJ,l⟩:=k (ts++[t]) (us++[v]) (r.app (Ag.one qq));exact⟨a,us,v,rfl,rfl,hs,by rw[r.len];exact uC hl FZ,s F _ _ l (RR.of dJ rfl)⟩
   .exact s.elim
  .exact s.elim
 .exact s.elim
end
noncomputable def EN:T->Option Key
 |.int i=>some (.inl i)
 |.str x=>some (.inr x)
 |_=>none
noncomputable def Gj:List T->Option (List Key)
 | []=>some []
 |t::r=>(EN t).bind λk=>(Gj r).map (k::·)
theorem Cj(e:EN t=some k)(r:AF K F H t u):u=kV k:=by
 unfold EN at e;split at e
 .cases e;exact r
 .cases e;exact r
 .cases e
theorem DN:∀{ts:List T}{us:List V}{ks:List Key},Gj ts=some ks->Ag K F H ts us->us=ks.map kV
 | [],_,_,e,r=>by cases e;exact r
 |t::ts,_,_,e,r=>by simp only[Gj,tX,tu]at e;obtain⟨k,e1,ks,e2,rfl⟩:=e;obtain⟨v,w,rfl,r1,r2⟩:=r;rw[sX,DN e2 r2,Cj e1 r1]
noncomputable def BV{κ:Type}[DecidableEq κ]:List κ->List T->κ->Option T
 |k::ks,t::ts,j=>if k=j then some t else BV ks ts j
 |_,_,_=>none
noncomputable def Ec{κ:Type}[DecidableEq κ](ks:List κ)(ts:List T)(j:κ)(v:T):List κ×List T :=
 if(ks.any λk=>decide (k=j))=true then(ks,List.zipWith (λk t=>if k=j then v else t) ks ts)else(ks++[j],ts++[v])
section
variable{K:Fg}{F:Wd}{H:Hp}{κ:Type}[DecidableEq κ]
theorem Hb:∀{ah:List (κ×V)}{ts:List T}{j:κ},Ag K F H ts (ah.map (·.2))->(BV (ah.map (·.1)) ts j=none/\Js ah j=none)\/∃t v,BV (ah.map (·.1)) ts j=some t/\Js ah j=some v/\AF K F H t v
 | [],ts,j,r=>by have h:=r.len;cases ts with|nil=>exact .inl ⟨rfl,rfl⟩|cons t ts=>simp at h
 |(k,v)::ah,ts,j,r=>by
  cases ts with
  |nil =>have h:=r.len;simp at h
  |cons t ts =>
   obtain⟨v',w,e,r1,r2⟩:=r;cases e;by_cases hk:k=j
   .refine .inr ⟨t,v,?_,DK hk,r1⟩;simp only[sX,BV];rw[if_pos hk]
   .have e1:BV (((k,v)::ah).map (·.1)) (t::ts) j=BV (ah.map (·.1)) ts j:=by simp only[sX,BV];rw[if_neg hk]
    rw[e1,DL hk];exact Hb r2
theorem Ma(q:AF K F H t w):∀{ah:List (κ×V)}{ts:List T},Ag K F H ts (ah.map (·.2)) ->
  Ag K F H (List.zipWith (λk t'=>if k=j then t else t') (ah.map (·.1)) ts) ((ah.map λkv=>if kv.1=j then(kv.1,w)else kv).map (·.2))
 | [],ts,r=>by have h:=r.len;cases ts with|cons t ts=>simp at h|nil=>exact rfl
 |(k,v)::ah,ts,r=>by
  cases ts with
  |nil =>have h:=r.len;simp at h
  |cons t' ts =>
   obtain⟨v',w',e,r1,r2⟩:=r;cases e;have ih:=Ma q (j:=j) r2;simp only[sX,List.zipWith_cons_cons];by_cases hk:k=j
   .rw[if_pos hk,if_pos hk];exact⟨w,_,rfl,q,ih⟩
   .rw[if_neg hk,if_neg hk];exact⟨v,_,rfl,r1,ih⟩
theorem ER(q:AF K F H t w){ah:List (κ×V)}(r:Ag K F H ts (ah.map (·.2))) :
  (putK ah j w).map (·.1)=(Ec (ah.map (·.1)) ts j t).1/\Ag K F H (Ec (ah.map (·.1)) ts j t).2 ((putK ah j w).map (·.2)):=by
 have e:((ah.map (·.1)).any λk=>decide (k=j))=(ah.any λkv=>decide (kv.1=j)):=by rw[List.any_map];rfl
 unfold putK Ec;rw[e];by_cases h:(ah.any λkv=>decide (kv.1=j))=true
 .rw[if_pos h,if_pos h];refine⟨?_,Ma q r⟩;rw[tU];refine List.map_congr_left λp hp=>?_
  show(if p.1=j then(p.1,w)else p).1=p.1;split<;>rfl
 .rw[if_neg h,if_neg h];refine⟨by rw[sU];rfl,?_⟩;rw[sU];exact r.app (Ag.one q)
end
noncomputable def RM(fs:FS):Rv->T->Option (Option T)
 |.t (.l ks ts),y=>(EN y).map λk=>BV ks ts k
 |.t (.dF ks ts),y=>(EN y).map λk=>BV ks ts k
 |.t (.dT ks ts),.tup y=>(Gj y).map λk=>BV ks ts k
 |.n i,y=>match AE fs i with
  |some (.l ks ts)=>(EN y).map λk=>BV ks ts k
  |some (.dT ks ts)=>match y with
   |.tup y=>(Gj y).map λk=>BV ks ts k
   |_=>none
  |_=>none
 |_,_=>none
section
variable{K:Fg}{B:Nat->Option V}{F:Wd}{H:Hp}{U:St}{fs:FS}{x:Rv}{y:T}{u w:V}
set_option tactic.hygienic true in
theorem N6(h:Okk K F B H fs U)(rx:CW K F H U x u)(ry:AF K F H y w)(e:RM fs x y=some o) :
  ∃a o',u=.ref a/\Jp H a w o'/\((o=none/\o'=none)\/∃t v,o=some t/\o'=some v/\AF K F H t v):=by
 have key:∀{a:Addr}{ah:List (Key×V)}{ts:List T},Rd H a (.l ah)->Ag K F H ts (ah.map (·.2))->(EN y).map (λk=>BV (ah.map (·.1)) ts k)=some o ->
   ∃o',Jp H a w o'/\((o=none/\o'=none)\/∃t v,o=some t/\o'=some v/\AF K F H t v):=by
  intro a ah ts hd r e;rw[tu]at e;obtain⟨k,ek,eo⟩:=e;have:=Cj ek ry;subst this;refine⟨_,.inl ⟨ah,k,hd,rfl,rfl⟩,?_⟩;rcases Hb r with⟨h1,h2⟩|⟨t,v,h1,h2,h3⟩
  .exact .inl ⟨eo.symm.trans h1,h2⟩
  .exact .inr ⟨t,v,eo.symm.trans h1,h2,h3⟩
 have Ox:∀{a:Addr}{ah:List (List Key×V)}{ts ys:List T},H a=some (.dT ah)->Ag K F H ts (ah.map (·.2))->y=.tup ys->(Gj ys).map (λk=>BV (ah.map (·.1)) ts k)=some o ->
   ∃o',Jp H a w o'/\((o=none/\o'=none)\/∃t v,o=some t/\o'=some v/\AF K F H t v):=by
  intro a ah ts ys hd r ey e;rw[tu]at e;obtain⟨k,ek,eo⟩:=e;subst ey;obtain⟨b,vs,rfl,hb,rb⟩:=ry;have:=DN ek rb;subst this;refine⟨_,Jp.t hd hb.2.2,?_⟩;rcases Hb r with⟨h1,h2⟩|⟨t,v,h1,h2,h3⟩
  .exact .inl ⟨eo.symm.trans h1,h2⟩
  .exact .inr ⟨t,v,eo.symm.trans h1,h2,h3⟩
 unfold RM at e;split at e
 .simp only[CW,AF]at rx;obtain⟨a,ah,rfl,f,hd,rfl,r⟩:=rx;obtain⟨o',h1,h2⟩:=key hd r e;exact⟨a,o',rfl,h1,h2⟩
 .simp only[CW,AF]at rx;obtain⟨a,ah,rfl,f,⟨ob,hd⟩,rfl,r⟩:=rx;obtain⟨o',h1,h2⟩:=key (.inr ⟨ob,hd⟩) r e;exact⟨a,o',rfl,h1,h2⟩
 .simp only[CW,AF]at rx;obtain⟨a,ah,rfl,f,hd,rfl,r⟩:=rx;obtain⟨o',h1,h2⟩:=Ox hd r rfl e;exact⟨a,o',rfl,h1,h2⟩
 .rename_i y' i;have e2:U[i]?=some (some u):=rx;split at e
  .rename_i eo;obtain⟨v,L2,e1,q,_⟩:=h.own eo;rw[e1]at e2;have e3:v=u:=by simpa using e2
   subst e3;obtain⟨a,ah,rfl,hd,rfl,r,_⟩:=q;obtain⟨o',h1,h2⟩:=key (.inl hd) r e;exact⟨a,o',rfl,h1,h2⟩
  .rename_i eo;split at e
   .obtain⟨v,L2,e1,q,_⟩:=h.own eo;rw[e1]at e2;have e3:v=u:=by simpa using e2
    subst e3;obtain⟨a,ah,rfl,hd,rfl,r,_⟩:=q;obtain⟨o',h1,h2⟩:=Ox hd r rfl e;exact⟨a,o',rfl,h1,h2⟩
   .cases e
  .cases e
 .cases e
end
noncomputable def J3:Rv->Rv->FS->Out Rv
 |x,.t y,fs=>match RM fs x y with|some (some t)=>okT t fs|_=>.bad
 |_,_,_=>.bad
noncomputable def Uo(neg:Bool):Rv->Rv->FS->Out Rv
 |.t y,x,fs=>match RM fs x y with|some o=>okT (.v (if neg then !o.isSome else o.isSome)) fs|_=>.bad
 |_,_,_=>.bad
section
variable{X:Cx}{Z:Xp}{o i:Expr}{fo fi:FS->Out Rv}{pos:Pos}
end
noncomputable def Gf:List Str->List T->Str->Option T
 |f::fs,t::ts,g=>if g==f then some t else Gf fs ts g
 |_,_,_=>none
noncomputable def BB:List Str->List FO->Str->Option FO
 |f::fs,t::ts,g=>if g==f then some t else BB fs ts g
 |_,_,_=>none
noncomputable def JaY(C:Addr)(f:Str):Rv->FS->Out Rv
 |.t (.ins C' fs ts),st=>if C'=C then match Gf fs ts f with|some t=>okT t st|none=>.bad
  else .bad
 |.n i,st=>match AE st i with
  |some (.ins C' fs os)=>if C'=C then match BB fs os f with|some (.val t)=>okT t st|_=>.bad
   else .bad
  |_=>.bad
 |_,_=>.bad
theorem Km:∀{ah:List (Str×V)}{ts:List T}{t:T},Ag K F H ts (ah.map (·.2))->Gf (ah.map (·.1)) ts g=some t->∃v,ah.lookup g=some v/\AF K F H t v
 | [],ts,t,r,e=>by cases ts<;>simp[Gf]at e
 |(k,v)::ah,ts,t,r,e=>by cases ts with|nil=>simp[Gf]at e|cons t' ts =>obtain⟨v',w',ee,r1,r2⟩:=r;cases ee;simp only[sX,Gf]at e;rw[ug];cases hb:g==k with|true =>rw[hb]at e;cases e;exact⟨v,rfl,r1⟩|false =>rw[hb]at e;exact Km r2 (by simpa using e)
theorem HN:∀{ah:List (Str×V)}{ts:List FO}{L:List Addr}{t:FO},Aw K F H ts (ah.map (·.2)) L->BB (ah.map (·.1)) ts g=some t->∃v L',ah.lookup g=some v/\AO K F H t v L'/\∀a∈L',a∈L
 | [],ts,L,t,r,e=>by cases ts<;>simp[BB]at e
 |(k,v)::ah,ts,L,t,r,e=>by cases ts with|nil=>simp[BB]at e|cons t' ts =>obtain⟨v',w',L1,L2,ee,r1,r2,rfl⟩:=r;cases ee;simp only[sX,BB]at e;rw[ug];cases hb:g==k with|true =>rw[hb]at e;cases e;exact⟨v,L1,rfl,r1,λa m=>tm _ m⟩|false =>rw[hb]at e;obtain⟨v2,L',h1,h2,h3⟩:=HN r2 (by simpa using e);exact⟨v2,L',h1,h2,λa m=>tB _ (h3 a m)⟩
noncomputable def Ez(C:Addr)(f:Str)(fo:FS->Out Rv):FS->Out Rv:=λfs=>(fo fs).bnd λx fs=>JaY C f x fs
section
variable{X:Cx}{Z:Xp}{o:Expr}{fo:FS->Out Rv}{pos:Pos}{C:Addr}{f:Str}
set_option tactic.hygienic true in
theorem Yj(c:Cls X.K C)(n:Be X.K C f)(ho:FE X Z o fo)(hb:attributeBase o f X.env (eval o X.env)=eval o X.env:=by rfl):FE X Z (.Attribute o f pos) (Ez C f fo):=by
 refine AG (Kv ho hb) λU H Q ao => ?_
 obtain⟨F,B,fs,ok,s⟩:= ao;refine⟨F,B,fs,ok,Au s λx ag F1 H1 u l ay rx s1=>?_⟩;unfold JaY at s1;split at s1
 .rename_i C' gs ts;split at s1
  .rename_i hC;subst hC;split at s1
   next t e=>obtain⟨a,dx,ah,rfl,ff,hd,rfl,r⟩:=rx;obtain⟨v,e1,rv⟩:=Km r e;exact⟨a,C',dx,ah,v,rfl,hd,c,n,e1,s1 F1 H1 v Le.refl (RR.of ay rv)⟩
   .exact s1.elim
  .exact s1.elim
 .rename_i i;split at s1
  .rename_i C' gs os eo;split at s1
   .rename_i hC;subst hC;split at s1
    .rename_i t e;obtain⟨v,L2,e1,q,_⟩:=ay.own eo;have e2:U[i]?=some (some u):=rx;rw[e1]at e2;have e3:v=u:=by simpa using e2
     subst e3;obtain⟨a,dx,ah,L',rfl,hd,rfl,r,_⟩:=q;obtain⟨v2,L3,e4,r4,_⟩:=HN r e;exact⟨a,C',dx,ah,v2,rfl,hd,c,n,e4,s1 F1 H1 v2 Le.refl (RR.of ay r4.2)⟩
    .exact s1.elim
   .exact s1.elim
  .exact s1.elim
 .exact s1.elim
end
def GC(K:Fg)(Z:Xp)(B:Nat->Option V)(F:Wd)(H:Hp)(o:SO)(D:Ends):Prop:=match o with|.nx fs=>∀F' H' U,Le F H F' H'->Okk K F' B H' fs U->D.nx U H'|.ret r fs=>∀F' H' U u,Le F H F' H'->RR K B U F' H' fs r u->D.rt u H'|.brk fs=>∀F' H' U,Le F H F' H'->Okk K F' B H' fs U->D.bk U H'|.cnt fs=>∀F' H' U,Le F H F' H'->Okk K F' B H' fs U->D.ct U H'|.exc c fs=>Z.p F B H c fs|.bad=>False
inductive tSt(K:Fg)(Z:Xp)(g:FS->SO)(D:Ends)(U:St)(H:Hp):Prop
 |mk (F:Wd) (B:Nat->Option V) (fs:FS) (h0:Okk K F B H fs U) (h1:GC K Z B F H (g fs) D)
def GS(X:Cx)(Z:Xp)(st:Stmt)(g:FS->SO):Prop:=PS X st (tSt X.K Z g)
def GSs(X:Cx)(Z:Xp)(lJ:List Stmt)(g:FS->SO):Prop:=PSs X lJ (tSt X.K Z g)
theorem GC.le(h:GC K Z B F H o D)(l:Le F H F' H'):GC K Z B F' H' o D:=by
 cases o with
 |nx fs=>exact λF2 H2 U l2 k=>h F2 H2 U (l.trans l2) k
 |ret r fs=>exact λF2 H2 U u l2 k=>h F2 H2 U u (l.trans l2) k
 |brk fs=>exact λF2 H2 U l2 k=>h F2 H2 U (l.trans l2) k
 |cnt fs=>exact λF2 H2 U l2 k=>h F2 H2 U (l.trans l2) k
 |exc c fs=>exact Z.mono h l
 |bad=>exact h
noncomputable def nxS:FS->SO:=λfs=>.nx fs
noncomputable def Ak(g h:FS->SO):FS->SO:=λfs=>match g fs with|.nx fs=>h fs|o=>o
noncomputable def SO.of{α:Type}(o:Out α)(k:α->FS->SO):SO:=match o with|.ok a fs=>k a fs|.exc c fs=>.exc c fs|.bad=>.bad
theorem BR(h:GC K Z B F H (SO.of o k) D)
  (hk:∀a fs F' H' b,Le F H F' H'->R F' H' fs a b->GC K Z B F' H' (k a fs) D->Q b H'):sat Z B R F H o Q:=by
 cases o with
 |ok a fs=>exact λF2 H2 b l r=>hk a fs F2 H2 b l r (GC.le h l)
 |exc c fs=>exact h
 |bad=>exact h
noncomputable def Wk(i:Nat)(r:Rv)(fs:FS):Option FS:=match r with|.t t=>some (fs.set i (some (.val t)))|.nw o=>some (fs.set i (some (.own o)))|.n _=>none
noncomputable def Gg(i:Nat)(r:Rv)(fs:FS):Option FS:=match fs[i]? with|none=>none|some (some (.bor _))=>none|some _=>Wk i r fs
set_option tactic.hygienic true in
theorem E7(h:RR K B U F H fs r u)(e:Gg i r fs=some ar):Okk K F B H ar (U.set i (some u)):=by
 obtain⟨L,L',ok,q,nd,nf⟩:=h;have key:∀s:Option Sl,fs[i]?=some s->(∀o,s≠some (.bor o))->Wk i r fs=some ar->Okk K F B H ar (U.set i (some u)):=by
  intro s es hb e;obtain⟨v,L1,L2,L3,e1,rfl,h1,h2⟩:=ok.sl.pick es;have jX:∀a∈L1++(L'++L3),¬F a/\¬F.p a:=λa m=>by
   rcases sZ.mp m with m|m
   .exact⟨ok.nf a (by simp[m]),ok.pl a (by simp[m])⟩
   .rcases sZ.mp m with m|m
    .exact nf a m
    .exact⟨ok.nf a (by simp[m]),ok.pl a (by simp[m])⟩
  cases r with
  |t t =>cases e;obtain⟨rfl,q⟩:=q;refine⟨L1++([]++L3),h2 F H (some (.val t)) (some u) [] Le.refl (λ_ _=>rfl) ⟨u,rfl,q,rfl⟩,BE ok.nd ua (λ_ m=>nomatch m),λa m=>(jX a m).1,ok.fd,?_,ok.pd,ok.pf,λa m=>(jX a m).2⟩;exact Ew.put ok.bo (λo eo=>by cases eo) ok.sl.len
  |nw o =>
   cases e;refine⟨L1++(L'++L3),h2 F H (some (.own o)) (some u) L' Le.refl (λ_ _=>rfl) ⟨u,rfl,q⟩,BE ok.nd (sT.mp nd).2.1 (λa m m2=>(sT.mp nd).2.2 a (by
   rcases sZ.mp m2 with m2|m2
   .simp[m2]
   .simp[m2]) a m rfl),λa m=>(jX a m).1,ok.fd,?_,ok.pd,ok.pf,λa m=>(jX a m).2⟩
   exact Ew.put ok.bo (λo eo=>by cases eo) ok.sl.len
  |n j=>cases e
 unfold Gg at e;split at e
 .cases e
 .cases e
 next s hb es=>exact key s es (λo z=>hb o z) e
noncomputable def Ay(i:Nat)(f:FS->Out Rv):FS->SO:=λfs=>SO.of (f fs) λr fs=>match Gg i r fs with|some fs=>.nx fs|none=>.bad
noncomputable def Bg(f:FS->Out Rv):FS->SO:=λfs=>SO.of (f fs) λ_ fs=>.nx fs
noncomputable def retS(f:FS->Out Rv):FS->SO:=λfs=>SO.of (f fs) λr fs=>.ret r fs
noncomputable def ifS(c:FS->Out Bool)(g h:FS->SO):FS->SO:=λfs=>SO.of (c fs) λb fs=>if b=true then g fs else h fs
section
variable{X:Cx}{Z:Xp}{st:Stmt}{rest a b:List Stmt}{e c:Expr}{f:FS->Out Rv}{fc:FS->Out Bool}{g h:FS->SO}{pos:Pos}
theorem Ud:GSs X Z [] nxS:=MF SK λD U H ⟨F,B,fs,ok,s⟩=>s F H U Le.refl ok
theorem PR(h1:GS X Z st g)(h2:GSs X Z rest h):GSs X Z (st::rest) (Ak g h):=by
 refine MF (O2 h1 h2) λD U H ao => ?_
 obtain⟨F,B,fs,ok,s⟩:= ao;refine⟨F,B,fs,ok,?_⟩;unfold Ak at s;cases e:g fs with
 |nx ag =>rw[e]at s;exact λF1 H1 iC l k=>⟨F1,B,ag,k,GC.le s l⟩
 |ret r ag=>rwa[e]at s
 |brk ag=>rwa[e]at s
 |cnt ag=>rwa[e]at s
 |exc c ag=>rwa[e]at s
 |bad=>rwa[e]at s
theorem Uc(h1:GS X Z st g):GSs X Z [st] g:=SJ h1
theorem Ue(he:FE X Z e f)(hs:swapsWith e none pos.line X.env=pure false:=by rfl):GS X Z (.Expr e pos) (Bg f) :=
 B8 (SM he hs) λD U H ⟨F,B,fs,ok,s⟩=>⟨F,B,fs,ok,BR s λr ag F1 H1 u l q s1=>s1 F1 H1 U Le.refl q.ok⟩
theorem Xv(he:FE X Z e f):GS X Z (.Return (some e) pos) (retS f) :=
 B8 (Wn he) λD U H ⟨F,B,fs,ok,s⟩=>⟨F,B,fs,ok,BR s λr ag F1 H1 u l q s1=>s1 F1 H1 U u Le.refl q⟩
theorem JaQ(hc:FT X Z c fc)(ha:GSs X Z a g)(hb:GSs X Z b h):GS X Z (.If c a b pos) (ifS fc g h):=by
 refine B8 (Jal hc ha hb) λD U H ao => ?_
 obtain⟨F,B,fs,ok,s⟩:= ao;refine⟨F,B,fs,ok,BR s λr ag F1 H1 u l q s1=>?_⟩;obtain⟨ay,rfl⟩:=q;cases u with|true =>exact⟨F1,B,ag,ay,s1⟩|false =>exact⟨F1,B,ag,ay,s1⟩
set_option tactic.hygienic true in
theorem VZ(s:tSt K Z (Ay i f) D U H):VR (tF K Z f) (P8 i) D U H:=by
 obtain⟨F,B,fs,ok,s⟩:=s;refine⟨F,B,fs,ok,BR s λr ag F1 H1 u l q s1=>?_⟩;split at s1
 next au e2=>exact s1 F1 H1 _ Le.refl (E7 q e2)
 .exact s1.elim
theorem Xu(i:Nat)(hN:X.N.Nodup)(hx:Loc X.env.scope x)(he:FE X Z e f)(hi:X.N[i]?=some x:=by rfl)(hs:swapsWith e (some (.Name x aS)) pos.line X.env=pure false:=by rfl)(hf:X.fn x=true\/X.env.scope.names.lookup x=some .local:=by first|exact .inl rfl|exact .inr rfl|assumption) :
  GS X Z (.Assign [.Name x aS] e pos) (Ay i f) :=
 B8 (Wm hN hi hx he hs hf) λ_ _ _ s=>VZ s
end
def tG(K:Fg)(gt:T->FS->Option FS):TG:=λv U H Q=>∃F B fs t,Okk K F B H fs U/\AF K F H t v/\match gt t fs with|some ar=>∀F' H' av,Le F H F' H'->Okk K F' B H' ar av->Q av H'|none=>False
noncomputable def tGs(K:Fg)(gt:List T->FS->Option FS):TGs:=λvs U H Q=>∃F B fs ts,Okk K F B H fs U/\Ag K F H ts vs/\match gt ts fs with|some ar=>∀F' H' av,Le F H F' H'->Okk K F' B H' ar av->Q av H'|none=>False
def GT(X:Cx)(tg:Expr)(gt:T->FS->Option FS):Prop:=PG X tg (tG X.K gt)
def GTs(X:Cx)(rN:List Expr)(gt:List T->FS->Option FS):Prop:=PGs X rN (tGs X.K gt)
theorem MN(h:PG X e t)(i:∀v U H Q,t' v U H Q->t v U H Q):PG X e t':=λaa s U H v u Q I r q=>h aa s U H v u Q I r (i _ _ _ _ q)
theorem MM(h:PGs X e t)(i:∀v U H Q,t' v U H Q->t v U H Q):PGs X e t':=λaa s U H v u Q I r q=>h aa s U H v u Q I r (i _ _ _ _ q)
noncomputable def tgN(i:Nat):T->FS->Option FS:=λt fs=>Gg i (.t t) fs
noncomputable def AD:List T->FS->Option FS
 | [],fs=>some fs
 |_,_=>none
noncomputable def Af(g:T->FS->Option FS)(h:List T->FS->Option FS):List T->FS->Option FS
 |t::ts,fs=>(g t fs).bind λfs=>h ts fs
 |_,_=>none
noncomputable def AH(n:Nat)(h:List T->FS->Option FS):T->FS->Option FS
 |.tup ts,fs=>if ts.length=n then h ts fs else none
 |_,_=>none
section
variable{X:Cx}{e:Expr}{es:List Expr}{g:T->FS->Option FS}{h:List T->FS->Option FS}{pos:Pos}
set_option tactic.hygienic true in
theorem Bo(i:Nat)(hN:X.N.Nodup)(hx:Loc X.env.scope x)(hi:X.N[i]?=some x:=by rfl)(hf:X.fn x=true\/X.env.scope.names.lookup x=some .local:=by first|exact .inl rfl|exact .inr rfl|assumption):GT X (.Name x pos) (tgN i):=by
 refine MN (SY hN hi hx hf) λv U H Q ao=>?_
 obtain⟨F,B,fs,t,ok,r,s⟩:= ao;split at s
 next ar e=>exact s F H _ Le.refl (E7 (RR.of (r:=.t t) ok r) e)
 .exact s.elim
theorem Ub:GTs X [] AD:=by
 refine MM SX λv U H Q ao=>?_
 obtain⟨F,B,fs,ts,ok,r,s⟩:= ao;cases ts with|nil=>exact⟨r,s F H U Le.refl ok⟩|cons t ts=>exact s.elim
theorem DW(h1:GT X e g)(h2:GTs X es h)
  (hc:∀{t:TG}{u:TGs},PG X e t->PGs X es u->PGs X (e::es) (XG t u)):GTs X (e::es) (Af g h):=by
 refine MM (hc h1 h2) λv U H Q ao=>?_
 obtain⟨F,B,fs,ts,ok,r,s⟩:= ao;cases ts with
 |nil=>exact s.elim
 |cons t ts =>
  obtain⟨v',w,rfl,r1,r2⟩:=r;refine⟨v',w,rfl,F,B,fs,t,ok,r1,?_⟩;simp only[Af]at s;cases e1:g t fs with
  |none=>rwa[e1]at s
  |some ag =>
   rw[e1]at s;exact λF1 H1 iC l k=>⟨F1,B,ag,ts,k,r2.le l,by
    simp only[uB]at s;split at s
    .exact λF2 H2 fO l2 k2=>s F2 H2 fO (l.trans l2) k2
    .exact s.elim⟩
set_option tactic.hygienic true in
theorem IH(hc:X.calm=true)(h1:GTs X es h)(hn:(assignEach es X.env).length=n:=by rfl)(dH:(assignEach es X.env).findIdx? (·.1)=none:=by rfl):GT X (.Tuple es k pos) (AH n h):=by
 refine MN (Wu hc h1 hn dH) λv U H Q ao=>?_
 obtain⟨F,B,fs,t,ok,r,s⟩:= ao;unfold AH at s;split at s
 .rename_i ar e;split at e
  .rename_i ts;split at e
   next hl=>obtain⟨a,vs,rfl,hs,r⟩:=r;refine⟨a,vs,rfl,hs.sq,by rw[r.len];exact hl,F,B,fs,ts,ok,r,?_⟩;rwa[e]
   .cases e
  .cases e
 .exact s.elim
end
noncomputable def EF(f:FS->Out Rv)(g:T->FS->Option FS):FS->SO:=λfs=>SO.of (f fs) λr fs=>match r with
 |.t t=>match g t fs with|some fs=>.nx fs|none=>.bad
 |_=>.bad
section
variable{X:Cx}{Z:Xp}{e tg:Expr}{f:FS->Out Rv}{g:T->FS->Option FS}{pos:Pos}
set_option tactic.hygienic true in
theorem Xz(he:FE X Z e f)(hg:GT X tg g)(hs:swapsWithSole [tg] e pos.line X.env=pure false:=by rfl)(hw:swappedStores [tg] e X.env=pure none:=by rfl)
  (h1:(assignEach [tg] X.env).map (·.2)=[assign tg X.env]:=by rfl):GS X Z (.Assign [tg] e pos) (EF f g):=by
 refine B8 (Q7 he hg hs hw h1) λD U H ao => ?_
 obtain⟨F,B,fs,ok,s⟩:= ao;refine⟨F,B,fs,ok,BR s λr ag F1 H1 u l q s1=>?_⟩;split at s1
 .rename_i t;obtain⟨L,L',o1,⟨_,q⟩,_⟩:=q;refine⟨F1,B,ag,t,⟨L,o1⟩,q,?_⟩;split at s1
  next au e2=>exact λF2 H2 fO l2 k2=>s1 F2 H2 fO l2 k2
  .exact s1.elim
 .exact s1.elim
end
def Nw(K:Fg)(F:Wd)(H:Hp)(F':Wd)(H':Hp):Prop:=Le F H F' H'/\∀B fs U,Okk K F B H fs U->Okk K F' B H' fs U
theorem Nw.refl:Nw K F H F H:=⟨Le.refl,λ_ _ _ h=>h⟩
def JOk(K:Fg)(F:Wd)(H:Hp)(J:It)(ts:List T):Prop:=∀(F':Wd)(H':Hp),(∀a,F a->F' a/\H' a=H a)->(∃B fs U,Okk K F' B H' fs U)->∀i,(∀t,ts[i]?=some t->J.go i H'/\∀x fG,J.yR i H' x fG->∃F'',Nw K F' H' F'' fG/\AF K F'' fG t x)/\(ts.length<=i->J.stop i H')
theorem JOk.within(h:JOk K F H J ts):JOk K ⟨F.f,p⟩ H J ts:=λF2 H2 l2=>h F2 H2 l2
theorem Ag.lf(l:∀a,F a->F' a/\H' a=H a)(r:Ag K F H ts vs):Ag K F' H' ts vs :=
 Ag.le (F:=⟨F.f,λ_=>False⟩) ⟨l,λ_ z=>z.elim⟩ (Ag.wp r)
theorem StL.lf(l:∀a,F a->F' a/\H' a=H a)(r:StL K F H a vs):StL K F' H' a vs:=by
 rcases r with⟨f,h⟩|h
 .exact .inl ⟨(l a f).1,FL.Rd.same h (l a f).2⟩
 .exact .inr h
theorem stays(e:H'=H)(r:AF K F H t x):∃F',Nw K F H F' H'/\AF K F' H' t x:=by subst e;exact⟨F,Nw.refl,r⟩
def RJ(K:Fg)(B:Nat->Option V)(U:St):Wd->Hp->FS->List T->It->Prop:=λF H fs ts J=>Okk K F B H fs U/\JOk K F H J ts
inductive tI(K:Fg)(Z:Xp)(f:FS->Out (List T))(U:St)(H:Hp)(R:It->Hp->Prop):Prop
 |mk (F:Wd) (B:Nat->Option V) (fs:FS) (h0:Okk K F B H fs U) (h1:sat Z B (RJ K B U) F H (f fs) R)
def FI(X:Cx)(Z:Xp)(tg aC:Expr)(f:FS->Out (List T)):Prop:=PI X tg aC (tI X.K Z f)
theorem Ig(h:PI X tg e t)(i:∀U H Q,t' U H Q->t U H Q):PI X tg e t':=λaa s U H Q I q=>h aa s U H Q I (i _ _ _ q)
noncomputable def signs(z:Str):List T:=z.cps.toList.map λc=>T.str ⟨#[c]⟩
noncomputable def upTo(lo:Int)(n:Nat):List T:=(List.range n).map λi=>T.int (lo+(i:Nat))
noncomputable def JX(f:FS->Out (List Rv)):FS->Out (List T):=λfs=>(f fs).bind λrs fs=>match rs with| [.t (.int j)]=>if -(2^62)<=j/\j<2^62 then .ok (upTo 0 j.toNat) fs else .bad|_=>.bad
section
variable{X:Cx}{Z:Xp}{tg l a b c:Expr}{f:FS->Out Rv}{fa:FS->Out (List Rv)}{p pos:Pos}{K:Fg}{F:Wd}{H:Hp}
theorem KI{a:Addr}(hs:∀(F':Wd) H',(∀a,F a->F' a/\H' a=H a)->SqL K H' a vs)(r:Ag K F H ts vs):JOk K F H (Itl K a) ts:=by intro F' H' l _ i;refine⟨λt et=>?_,λhl=>⟨vs,hs F' H' l,by rwa[r.len]⟩⟩;obtain⟨v,ev,rv⟩:=(Ag.lf l r).at et;refine⟨⟨vs,v,hs F' H' l,ev⟩,λx fG hy=>stays hy.1 ?_⟩;have:=hy.2 vs (hs F' H' l);rw[ev]at this;cases this;exact rv
theorem TZ{a:Addr}(hs:∀(F':Wd) H',(∀a,F a->F' a/\H' a=H a)->SqT K H' a vs)(r:Ag K F H ts vs):JOk K F H (Itt K a) ts:=by intro F' H' l _ i;refine⟨λt et=>?_,λhl=>⟨vs,hs F' H' l,by rwa[r.len]⟩⟩;obtain⟨v,ev,rv⟩:=(Ag.lf l r).at et;refine⟨⟨vs,v,hs F' H' l,ev⟩,λx fG hy=>stays hy.1 ?_⟩;have:=hy.2 vs (hs F' H' l);rw[ev]at this;cases this;exact rv
theorem Nm:JOk K F H (Itr lo n) (upTo lo n):=by
 intro F' H' l _ i;refine⟨λt et=>?_,λhl=>by unfold upTo at hl;simpa[Itr]using hl⟩;unfold upTo at et;rw[tR]at et;have hi:i<n:=by
  by_cases h:i<n
  .exact h
  .rw[vh (by simpa using h)]at et;cases et
 rw[vp hi]at et;cases et;exact⟨hi,λx fG hy=>stays hy.1 hy.2⟩
theorem T3:JOk K F H (Its z) (signs z):=by
 intro F' H' l _ i;refine⟨λt et=>?_,λhl=>by unfold signs at hl;simpa[Its]using hl⟩;unfold signs at et;rw[tR,tu]at et;obtain⟨c,ec,rfl⟩:=et;have hi:=by have:=(sY.mp ec).1;simpa using this
 refine⟨hi,λx fG hy=>stays hy.1 ?_⟩;obtain⟨c',e1,e2⟩:=hy.2;rw[Array.getElem?_toList]at ec;rw[ec]at e1;cases e1;exact e2
set_option tactic.hygienic true in
theorem NQ(hm:X.mg "range"=none)(ha:FA X Z [a] fa)(hg:Gl X "range":=by rfl)(hs:starEach [a] X.env=[(false,eval a X.env)]:=by rfl):FI X Z tg (.Call (.Name "range" p) [a] [] pos) (JX fa):=by
 refine Ig (ML hg hm ha hs) λU H Q ao => ?_
 obtain⟨F,B,fs,ok,s⟩:= ao;refine⟨F,B,fs,ok,As s λrs ag F1 H1 us l q s1=>?_⟩;obtain⟨ay,q⟩:=q;split at s1
 .rename_i j;split at s1
  next hj=>obtain⟨v,rfl,qq⟩:=Ba q;cases qq;exact⟨j,rfl,hj.1,hj.2,s1 F1 H1 _ Le.refl ⟨ay,Nm⟩⟩
  .exact s1.elim
 .exact s1.elim
end
noncomputable def DJ(gt:T->FS->Option FS)(body:FS->SO):List T->FS->SO
 | [],fs=>.nx fs
 |t::ts,fs=>match gt t fs with|none=>.bad|some fs=>match body fs with|.nx fs=>DJ gt body ts fs|.cnt fs=>DJ gt body ts fs|.brk fs=>.nx fs|o=>o
noncomputable def BC(src:FS->Out (List T))(gt:T->FS->Option FS)(body:FS->SO):FS->SO:=λfs=>SO.of (src fs) λts fs=>DJ gt body ts fs
section
variable{X:Cx}{Z:Xp}{tg aC c:Expr}{src:FS->Out (List T)}{gt:T->FS->Option FS}{g:FS->SO}{body:List Stmt}{pos:Pos}{fc:FS->Out Bool}
theorem Xx(hp:PassesOwn (model X.prog X.w) X.A X.env X.xe)(hc:X.calm=true)(hi:FI X Z tg aC src)(hg:GT X tg gt)(hb:GSs X Z body g)
  (hs:∀x,foldedSetIterable aC X.env x=pure x:=by intro _;rfl):GS X Z (.For tg aC body [] pos) (BC src gt g):=by
 refine B8 (Wq hp hc hi hg hb hs) λD U H ao => ?_
 obtain⟨F,B,fs,ok,s⟩:= ao;refine⟨F,B,fs,ok,BR s λts ag F1 H1 J l q s1=>?_⟩;obtain⟨ay,jk⟩:=q;refine⟨λi m U H=>m=ts.length-i/\∃F' ar,Le F1 H1 F' H/\Okk X.K F' B H ar U/\GC X.K Z B F' H (DJ gt g (ts.drop i) ar) D,⟨ts.length,rfl,F1,ag,Le.refl,ay,s1⟩,?_⟩
 rintro i m U H ⟨rfl,F2,au,l2,aN,s2⟩
 by_cases hi:i<ts.length
 .refine .inr ?_;rw[(vD hi)]at s2;obtain⟨j1,j2⟩:=(jk F2 H l2.f ⟨_,_,_,aN⟩ i).1 _ (sS hi);refine⟨j1,λav H'=>∃F' ar,Le F1 H1 F' H'/\Okk X.K F' B H' ar av/\GC X.K Z B F' H' (DJ gt g (ts.drop (i+1)) ar) D,λav H' h=>⟨ts.length-(i+1),by lia,rfl,h⟩,λx H' hy=>?_⟩;obtain⟨nX,⟨m7,nw⟩,rx⟩:=j2 x H' hy;replace l2:=l2.trans m7;replace s2:=GC.le s2 m7;replace aN:=nw _ _ _ aN;refine⟨nX,B,au,ts[i],aN,rx,?_⟩;simp only[DJ]at s2;cases eg:gt ts[i] au with
  |none=>rwa[eg]at s2
  |some bX =>
   rw[eg]at s2;intro F3 H3 iD l3 dM;refine⟨F3,B,bX,dM,?_⟩;have s3:=GC.le s2 l3;simp only at s3;cases eb:g bX with
   |nx gE =>rw[eb]at s3;exact λF4 H4 rT l4 il=>⟨F4,gE,(l2.trans l3).trans l4,il,GC.le s3 l4⟩
   |cnt gE =>rw[eb]at s3;exact λF4 H4 rT l4 il=>⟨F4,gE,(l2.trans l3).trans l4,il,GC.le s3 l4⟩
   |brk gE=>rwa[eb]at s3
   |ret r gE=>rwa[eb]at s3
   |exc c gE=>rwa[eb]at s3
   |bad=>rwa[eb]at s3
 .refine .inl ⟨(jk F2 H l2.f ⟨_,_,_,aN⟩ i).2 (by lia),?_⟩;rw[uR (by lia)]at s2;exact s2 F2 H U Le.refl aN
end
section
variable{K:Fg}{F F':Wd}{H H':Hp}{B:Nat->Option V}{fs:FS}{U:St}{L:List Addr}
theorem Ao.toP:∀{fs:FS}{U:St}{L:List Addr},Ao K F H fs U L->∃bB:Nat->List Addr,(∀i s,fs[i]?=some s->∃v,U[i]?=some v/\Ot K F H s v (bB i))/\(∀i a,a∈bB i->a∈L) /\
  (L.Nodup->(∀i,(bB i).Nodup)/\∀i j a,i≠j->a∈bB i->a∉bB j)/\∀i,fs.length<=i->bB i=[]
 | [],U,L,h=>⟨λ_=>[],(λi s e=>by simp at e),(λi a m=>nomatch m),(λ_=>⟨λ_=>ua,(λ_ _ _ _ m=>nomatch m)⟩),λ_ _=>rfl⟩
 |s::r,U,L,h=>by
  obtain⟨v,av,L1,L2,rfl,h1,h2,rfl⟩:=h.Gy;obtain⟨bB,q1,q2,q3,q4⟩:=Ao.toP h2;refine⟨λi=>match i with|0=>L1|i+1=>bB i,λi s' e=>?_,λi a m=>?_,λnd=>?_,λi hi=>?_⟩
  .cases i with|zero =>simp at e;subst e;exact⟨v,rfl,h1⟩|succ i =>obtain⟨w,e1,e2⟩:=q1 i s' (by simpa using e);exact⟨w,by simpa using e1,e2⟩
  .cases i with|zero=>exact tm _ m|succ i=>exact tB _ (q2 i a m)
  .rw[sT]at nd;obtain⟨n1,n2,n3⟩:=nd;obtain⟨m1,m2⟩:=q3 n2;refine⟨λi=>?_,λi j a cL hi hj=>?_⟩
   .cases i with|zero=>exact n1|succ i=>exact m1 i
   .cases i with
    |zero =>cases j with|zero=>exact cL rfl|succ j=>exact n3 a hi a (q2 j a hj) rfl
    |succ i =>cases j with|zero=>exact n3 a hj a (q2 i a hi) rfl|succ j=>exact m2 i j a (λe=>cL (by rw[e])) hi hj
  .cases i with|zero=>simp at hi|succ i=>exact q4 i (by simpa using hi)
theorem Ao.ofP:∀{fs:FS}{U:St}(bB:Nat->List Addr),U.length=fs.length->(∀i s,fs[i]?=some s->∃v,U[i]?=some v/\Ot K F H s v (bB i))->(∀i,(bB i).Nodup)->(∀i j a,i≠j->a∈bB i->a∉bB j) ->
  ∃L,Ao K F H fs U L/\L.Nodup/\∀a∈L,∃i,i<fs.length/\a∈bB i
 | [],U,bB,hl,h,nd,dj=>by have:=uP (by simpa using hl);subst this;exact⟨[],⟨rfl,rfl⟩,ua,λ_ m=>nomatch m⟩
 |s::r,[],bB,hl,h,nd,dj=>by simp at hl
 |s::r,v::U,bB,hl,h,nd,dj=>by
  obtain⟨L,h1,h2,h3⟩:=Ao.ofP (U:=U) (λi=>bB (i+1)) (by simpa using hl) (λi s' e=>by obtain⟨w,e1,e2⟩:=h (i+1) s' (by simpa using e);exact⟨w,by simpa using e1,e2⟩) (λi=>nd (i+1)) (λi j a cL=>dj (i+1) (j+1) a (by lia));obtain⟨w,e1,e2⟩:=h 0 s rfl;simp at e1;subst e1;refine⟨bB 0++L,Ao.cons e2 h1,?_,λa m=>?_⟩
  .rw[sT];refine⟨nd 0,h2,λa ha b hb e=>?_⟩;obtain⟨i,_,hi⟩:=h3 b hb;exact dj 0 (i+1) a (by lia) ha (by rwa[e])
  .rcases sZ.mp m with m|m
   .exact⟨0,by simp,m⟩
   .obtain⟨i,hi,q⟩:=h3 a m;exact⟨i+1,by simp;exact hi,q⟩
theorem Ok.take(h:Ok K F B H fs U L)(n:Nat):∃L',Ok K F B H (fs.take n) (U.take n) L'/\∀a∈L',a∈L:=by
 obtain⟨bB,q1,q2,q3,q4⟩:=h.sl.toP;obtain⟨n1,n2⟩:=q3 h.nd;obtain⟨L',p1,p2,p3⟩:=Ao.ofP (U:=U.take n) bB (by rw[uh,uh,h.sl.len]) (λi s e=>by
  have hi:i<n:=by
   have:=(sY.mp e).1;rw[uh]at this
   lia
  rw[vE hi]at e ⊢;exact q1 i s e) n1 n2
 have sub:=λa m=>let⟨i,_,q⟩:=p3 a m;q2 i a q
 refine⟨L',⟨p1,p2,λa m=>h.nf a (sub a m),h.fd,λi o e=>?_,h.pd,h.pf,λa m=>h.pl a (sub a m)⟩,sub⟩;have hi:i<n:=by
  have:=(sY.mp e).1;rw[uh]at this
  lia
 rw[vE hi]at e ⊢;exact h.bo i o e
theorem RR.take(h:RR K B U F H fs r u)(n:Nat)(hr:∀i,r≠.n i):RR K B (U.take n) F H (fs.take n) r u:=by
 obtain⟨L,L',ok,q,nd,nf⟩:=h;obtain⟨L2,aN,sub⟩:=ok.take n;refine⟨L2,L',aN,?_,?_,nf⟩
 .cases r with|t t=>exact q|nw o=>exact q|n i=>exact(hr i rfl).elim
 .rw[sT]at nd ⊢;exact⟨aN.nd,nd.2.1,λa ha b hb=>nd.2.2 a (sub a ha) b hb⟩
theorem Ok.more(h:Ok K F B H fs U L)(n:Nat):Ok K F B H (fs++List.replicate n none) (U++List.replicate n none) L:=by
 have key:∀n:Nat,Ao K F H (List.replicate n none) (List.replicate n none) []:=by
  intro n
  induction n with|zero=>exact⟨rfl,rfl⟩|succ n ih =>rw[u3,u3];exact⟨none,_,rfl,ih⟩
 have app:∀{fs gs:FS}{U τ:St}{L M:List Addr},Ao K F H fs U L->Ao K F H gs τ M->Ao K F H (fs++gs) (U++τ) (L++M):=by
  intro fs
  induction fs with|nil =>intro gs U τ L M h1 h2;obtain⟨rfl,rfl⟩:=h1;exact h2|cons s r ih =>intro gs U τ L M h1 h2;obtain⟨v,av,L1,L2,rfl,q1,q2,rfl⟩:=h1.Gy;have:=Ao.cons q1 (ih q2 h2);simpa using this
 refine⟨by simpa using app h.sl (key n),h.nd,h.nf,h.fd,λi o e=>?_,h.pd,h.pf,h.pl⟩;by_cases hi:i<fs.length
 .rw[uX hi]at e;obtain⟨v,e1,e2⟩:=h.bo i o e;exact⟨v,by rw[uX (by rw[h.sl.len];exact hi)];exact e1,e2⟩
 .rw[uH (by lia)]at e;have:=uk e;simp at this
theorem RR.mv(q:RR K B U F H fs (.n i) u)(es:fs[i]?=some (some (.own o))):RR K B U F H (fs.set i none) (.nw o) u:=by
 obtain⟨L,L',o1,⟨_,q⟩,nd,nf⟩:=q;obtain⟨v,L1,L2,L3,e1,rfl,h1,h2⟩:=o1.sl.pick es;obtain⟨w,rfl,q2⟩:=h1;rw[e1]at q;have eu:w=u:=by simpa using q
 subst eu;have h3:=h2 F H none (some w) [] Le.refl (λ_ _=>rfl) rfl;rw[A8 e1]at h3;have bQ:=o1.nd;refine⟨L1++([]++L3),L2,⟨h3,BE bQ ua (λ_ m=>nomatch m),λa m=>o1.nf a ?_,o1.fd,?_,o1.pd,o1.pf,λa m=>o1.pl a ?_⟩,q2,?_,λa m=>⟨o1.nf a (by simp[m]),o1.pl a (by simp[m])⟩⟩
 .have m':=by simpa using m
  rcases m' with m|m<;>simp[m]
 .have:=Ew.put (i:=i) (s:=none) (v:=some w) o1.bo (λo eo=>by cases eo) o1.sl.len;rwa[A8 e1]at this
 .have m':=by simpa using m
  rcases m' with m|m<;>simp[m]
 .have p:(L1++(L2++L3)).Perm ((L1++([]++L3))++L2):=by rw[vm,ub];exact List.Perm.append_left _ List.perm_append_comm
  exact p.nodup_iff.mp bQ
end
inductive Ini where
 |no|val (t:T)|slot (j:Nat)|new (o:FO)
noncomputable def PJ(fs:FS):Ini->Option Sl
 |.no=>none
 |.val t=>some (.val t)
 |.new o=>some (.bor o)
 |.slot j=>match fs[j]? with|some (some (.val t))=>some (.val t)|some (some (.own o))=>some (.bor o)|some (some (.bor o))=>some (.bor o)|_=>none
noncomputable def BY(fs:FS)(is:List Ini):FS:=is.map (PJ fs)
noncomputable def Bb(fs:FS):Ini->Option Nat
 |.slot j=>if(AE fs j).isSome=true then some j else none
 |_=>none
noncomputable def DH(fs:FS)(is:List Ini):List Nat:=is.filterMap (Bb fs)
noncomputable def placeOf(fs:FS)(j:Nat):List Ini->Nat->Option Nat
 | [],_=>none
 |i::r,k=>if Bb fs i=some j then some k else placeOf fs j r (k+1)
noncomputable def Ke(fs:FS)(is:List Ini)(τ:FS)(j:Nat)(s:Option Sl):Option (Option Sl):=match placeOf fs j is 0 with|none=>some s|some k=>match τ[k]?,s with|some (some (.bor o)),some s=>some (some (s.put o))|_,_=>none
noncomputable def HH(fs:FS)(is:List Ini)(τ:FS):Nat->FS->Option FS
 |_,[]=>some []
 |j,s::r=>match Ke fs is τ j s,HH fs is τ (j+1) r with|some s',some r'=>some (s'::r')|_,_=>none
noncomputable def DD(is:List Ini)(τ fs:FS):Option FS:=HH fs is τ 0 fs
theorem placeOf_some:∀{is:List Ini}{k k':Nat},placeOf fs j is k=some k'->k<=k'/\∃i,is[k'-k]?=some i/\Bb fs i=some j
 | [],_,_,e=>by simp[placeOf]at e
 |i::r,k,k',e=>by
  simp only[placeOf]at e;split at e
  next h=>cases e;exact⟨tJ _,i,by simp,h⟩
  .obtain⟨h1,i',h2,h3⟩:=placeOf_some e;refine⟨by lia,i',?_,h3⟩;rw[show k'-k=(k'-(k+1))+1 by lia];simpa using h2
theorem placeOf_none:∀{is:List Ini}{k:Nat},placeOf fs j is k=none->j∉DH fs is
 | [],_,_,h=>by simp[DH]at h
 |i::r,k,e,h=>by
  simp only[placeOf]at e;split at e
  .cases e
  .rename_i hn;unfold DH at h;rw[u5]at h;cases q:Bb fs i with
   |none =>rw[q]at h;exact placeOf_none e h
   |some j' =>
    rw[q]at h;rcases tH.mp h with h|h
    .exact hn (by rw[q,h])
    .exact placeOf_none e h
theorem IB:∀{is:List Ini}{k k':Nat}{i i':Ini}{j:Nat},(DH fs is).Nodup->is[k]?=some i->is[k']?=some i'->Bb fs i=some j->Bb fs i'=some j->k=k'
 | [],_,_,_,_,_,_,e,_,_,_=>by simp at e
 |i0::r,k,k',i,i',j,nd,e,e',h,h'=>by
  have mem:∀{m:Nat}{x:Ini},r[m]?=some x->Bb fs x=some j->j∈DH fs r:=λhm hx=>vA.mpr ⟨_,uk hm,hx⟩
  unfold DH at nd;rw[u5]at nd;cases k with
  |zero =>simp at e;subst e;rw[h]at nd;have ic:=nd;cases k' with|zero=>rfl|succ k'=>exact((uc.mp ic).1 (mem (by simpa using e') h')).elim
  |succ k =>cases k' with|zero =>simp at e';subst e';rw[h']at nd;have ic:=nd;exact((uc.mp ic).1 (mem (by simpa using e) h)).elim|succ k' =>exact congrArg (·+1) (IB (by cases q:Bb fs i0 with|none=>rwa[q]at nd|some j'=>rw[q]at nd;exact(uc.mp nd).2) (by simpa using e) (by simpa using e') h h')
set_option tactic.hygienic true in
theorem La:∀{r r':FS}{j:Nat},HH fs is τ j r=some r'->r'.length=r.length/\∀i s,r[i]?=some s->∃s',r'[i]?=some s'/\Ke fs is τ (j+i) s=some s'
 | [],_,_,e=>by cases e;exact⟨rfl,λi s q=>by simp at q⟩
 |s::r,_,j,e=>by
  simp only[HH]at e;split at e
  next s' r' h1 h2=>cases e;obtain⟨q1,q2⟩:=La h2;refine⟨by simp[q1],λi s0 q=>?_⟩;cases i with|zero =>simp at q;subst q;exact⟨s',rfl,h1⟩|succ i =>obtain⟨s1,e1,e2⟩:=q2 i s0 (by simpa using q);exact⟨s1,by simpa using e1,by rwa[show j+(i+1)=j+1+i by lia]⟩
  .cases e
def Vc(K:Fg)(F:Wd)(H:Hp)(U:St)(i:Ini)(v:Option V)(M:List Addr):Prop:=match i with|.no=>True|.val t=>∃u,v=some u/\AF K F H t u|.slot j=>U[j]?=some v|.new o=>∃u,v=some u/\AO K F H o u M
structure Mu(F:Wd)(H:Hp)(L:List Addr)(μ:Nat->List Addr):Prop where
 out:∀k a,a∈μ k->¬F a/\¬F.p a/\a∉L/\H a≠none
 nd:∀k,(μ k).Nodup
 dj:∀k k' a,k≠k'->a∈μ k->a∉μ k'
theorem Mu.no:Mu F H L (λ_=>[]):=⟨(λ_ _ m=>nomatch m),λ_=>ua,(λ_ _ _ _ m=>nomatch m)⟩
set_option tactic.hygienic true in
theorem lend(ok:Ok K F B H fs U L)(hl:σi.length=is.length)(hi:∀(k:Nat)(i:Ini)(v:Option V),is[k]?=some i->σi[k]?=some v->Vc K F H U i v (μ k))(nd:(DH fs is).Nodup)(eJ:Mu F H L μ) :
  ∃P:Addr->Prop,(∀a,F.p a->P a)/\Okk K ⟨F.f,P⟩ (λk=>(σi[k]?).join) H (BY fs is) σi/\(∀a,P a->H a≠none) /\
   ∀(F2:Wd)(H2:Hp)(τ:FS)(fO:St)(Li:List Addr)(ar:FS),Le ⟨F.f,P⟩ H F2 H2->Ok K F2 (λk=>(σi[k]?).join) H2 τ fO Li->DD is τ fs=some ar ->
    Le F H ⟨F2.f,F.p⟩ H2/\∃L,Ok K ⟨F2.f,F.p⟩ B H2 ar U L/\∀a∈L,a∈Li\/P a:=by
 obtain⟨bB,q1,q2,q3,q4⟩:=ok.sl.toP;obtain⟨n1,n2⟩:=q3 ok.nd;have jo:∀j,(AE fs j).isSome=true->∃o s,AE fs j=some o/\fs[j]?=some (some s)/\(s=.own o\/s=.bor o):=by
  intro j hj;unfold AE at hj ⊢;split at hj
  next o es=>exact⟨o,_,rfl,es,.inl rfl⟩
  next o es=>exact⟨o,_,rfl,es,.inr rfl⟩
  .cases hj
 refine⟨λa=>F.p a\/∃j,a∈bB j/\j∉DH fs is,λa p=>.inl p,?_,λa p=>?_,?_⟩
 .
  obtain⟨L',p1,p2,p3⟩:=Ao.ofP (fs:=BY fs is) (U:=σi) (λk=>match is[k]? with|some i=>(match Bb fs i with|some j=>bB j|none=>(match i with|.new _=>μ k|_=>[]))|none=>[]) (by unfold BY;rwa[tf])
   (λk s e=>by
    unfold BY at e;rw[tR,tu]at e;obtain⟨i,ei,rfl⟩:=e;have hk:k<σi.length:=by rw[hl];exact(sY.mp ei).1
    refine⟨σi[k],sS hk,?_⟩;have io:=hi k i _ ei (sS hk);simp only[ei];have lw:∀(t:T)(u:V),AF K F H t u->AF K ⟨F.f,λa=>F.p a\/∃j,a∈bB j/\j∉DH fs is⟩ H t u:=λt u r=>AF.wp r
    cases i with
    |no=>rfl
    |val t =>obtain⟨u,eu,r⟩:=io;exact⟨u,eu,lw t u r,rfl⟩
    |new o =>obtain⟨u,eu,r⟩:=io;exact⟨u,eu,AO.wp r⟩
    |slot j =>
     have ej:U[j]?=some σi[k]:=io;simp only[PJ,Bb];cases es:fs[j]? with
     |none =>
      have:AE fs j=none:=by unfold AE;rw[es]
      rw[this];rfl
     |some s =>
      obtain⟨v,e1,e2⟩:=q1 j s es;rw[ej]at e1;cases e1;cases s with
      |none =>
       have:AE fs j=none:=by unfold AE;rw[es]
       rw[this];rfl
      |some s =>
       cases s with
       |val t =>
        have:AE fs j=none:=by unfold AE;rw[es]
        rw[this];obtain⟨u,eu,r,_⟩:=e2;exact⟨u,eu,lw t u r,rfl⟩
       |own o =>
        have:AE fs j=some o:=by unfold AE;rw[es]
        rw[this];obtain⟨u,eu,r⟩:=e2;exact⟨u,eu,AO.wp r⟩
       |bor o =>
        have:AE fs j=some o:=by unfold AE;rw[es]
        rw[this];obtain⟨u,eu,r⟩:=e2;exact⟨u,eu,AO.wp r⟩)
   (λk=>by
    try dsimp only
    split
    .split
     .exact n1 _
     .split
      .exact eJ.nd _
      .exact ua
    .exact ua)
   (λk k' a hk ha hb=>by
    try dsimp only at ha hb
    split at ha
    .rename_i i ei;split at ha
     .rename_i j ej;split at hb
      .rename_i i' g6;split at hb
       .rename_i j' l8;by_cases e:j=j'
        .subst e;exact hk (IB nd ei g6 ej l8)
        .exact n2 j j' a e ha hb
       .split at hb
        .exact(eJ.out _ a hb).2.2.1 (q2 j a ha)
        .cases hb
      .cases hb
     .split at ha
      .split at hb
       .split at hb
        next j' l8=>exact(eJ.out _ a ha).2.2.1 (q2 j' a hb)
        .split at hb
         .exact eJ.dj k k' a hk ha hb
         .cases hb
       .cases hb
      .cases ha
    .cases ha)
  have mem:∀a∈L',(∃j,j∈DH fs is/\a∈bB j)\/∃k,a∈μ k:=λa m=>by
   obtain⟨k,_,q⟩:=p3 a m
   try dsimp only at q
   split at q
   .rename_i i ei;split at q
    next j ej=>exact .inl ⟨j,vA.mpr ⟨i,uk ei,ej⟩,q⟩
    .split at q
     .exact .inr ⟨k,q⟩
     .cases q
   .cases q
  refine⟨L',p1,p2,λa m=>?_,ok.fd,λk o e=>?_,λa p=>?_,λa f p=>?_,λa m p=>?_⟩
  .rcases mem a m with⟨j,_,q⟩|⟨k,q⟩
   .exact ok.nf a (q2 j a q)
   .exact(eJ.out k a q).1
  .unfold BY at e;rw[tR,tu]at e;obtain⟨i,ei,e⟩:=e;have hk:k<σi.length:=by rw[hl];exact(sY.mp ei).1
   cases i with
   |no=>cases e
   |val t=>cases e
   |new o' =>obtain⟨u,eu,_⟩:=hi k _ _ ei (sS hk);exact⟨u,by rw[sS hk,eu],by show(σi[k]?).join=some u;rw[sS hk,eu];rfl⟩
   |slot j =>
    simp only[PJ]at e;have:∃o s,fs[j]?=some (some s)/\(s=.own o\/s=.bor o):=by
     split at e
     .cases e
     next o' es=>exact⟨o',_,es,.inl rfl⟩
     next o' es=>exact⟨o',_,es,.inr rfl⟩
     .cases e
    obtain⟨o',s,es,hs⟩:=this;obtain⟨v,e1,e2⟩:=q1 j _ es;rw[(hi k _ _ ei (sS hk))]at e1;cases e1;obtain⟨u,eu⟩:∃u,σi[k]=some u:=by
     rcases hs with rfl|rfl
     .exact⟨_,e2.choose_spec.1⟩
     .exact⟨_,e2.choose_spec.1⟩
    exact⟨u,by rw[sS hk,eu],by show(σi[k]?).join=some u;rw[sS hk,eu];rfl⟩
  .rcases p with p|⟨j,p,_⟩
   .exact ok.pd a p
   .exact ok.sl.def a (q2 j a p)
  .rcases p with p|⟨j,p,_⟩
   .exact ok.pf a f p
   .exact ok.nf a (q2 j a p) f
  .rcases mem a m with⟨j,hj,q⟩|⟨k,q⟩
   .rcases p with p|⟨j',p,hj'⟩
    .exact ok.pl a (q2 j a q) p
    .by_cases e:j=j'
     .subst e;exact hj' hj
     .exact n2 j j' a e q p
   .rcases p with p|⟨j',p,hj'⟩
    .exact(eJ.out k a q).2.1 p
    .exact(eJ.out k a q).2.2.1 (q2 j' a p)
 .rcases p with p|⟨j,p,_⟩
  .exact ok.pd a p
  .exact ok.sl.def a (q2 j a p)
 .
  intro F2 H2 τ fO Li ar l aN eb;have le:Le F H ⟨F2.f,F.p⟩ H2:=⟨λa f=>l.f a f,λa f=>⟨f,(l.p a (.inl f)).2⟩⟩
  obtain⟨jw,r1,r2,r3,r4⟩:=aN.sl.toP;obtain⟨m1,m2⟩:=r3 aN.nd;obtain⟨b1,b2⟩:=La eb;have dY:∀j a,a∈bB j->j∉DH fs is->F2.p a/\H2 a=H a:=λj a q hj=>l.p a (.inr ⟨j,q,hj⟩)
  refine⟨le,?_⟩;obtain⟨L',p1,p2,p3⟩:=Ao.ofP (U:=U) (λj=>match placeOf fs j is 0 with|some k=>jw k|none=>bB j) (by rw[b1];exact ok.sl.len)
   (λj s' e=>by
    have hj:j<fs.length:=by rw[<- b1];exact(sY.mp e).1
    obtain⟨s1,e1,e2⟩:=b2 j fs[j] (sS hj);rw[e]at e1;cases e1;rw[Nat.zero_add]at e2;obtain⟨v,e3,e4⟩:=q1 j fs[j] (sS hj);refine⟨v,e3,?_⟩;unfold Ke at e2;cases ep:placeOf fs j is 0 with
    |none =>rw[ep]at e2;cases e2;exact Ot.le le (λa m=>(dY j a m (placeOf_none ep)).2) e4
    |some k =>
     rw[ep]at e2;obtain⟨_,i,ei,bZ⟩:=placeOf_some ep;dsimp only at e2 ⊢;split at e2
     .rename_i o s et es;cases e2;obtain⟨w,e5,e6⟩:=r1 k _ et;obtain⟨u,e7,e8⟩:=aN.bo k o et;rw[e5]at e7;cases e7;have ij:i=.slot j:=by
       cases i with
       |no=>cases bZ
       |val t=>cases bZ
       |new o=>cases bZ
       |slot j' =>
        simp only[Bb]at bZ;split at bZ
        .cases bZ;rfl
        .cases bZ
      subst ij;have hk:k<σi.length:=by rw[hl];exact(sY.mp ei).1
      have io:U[j]?=some σi[k]:=hi k _ _ ei (sS hk);rw[e3]at io;cases io;have e9:(σi[k]?).join=some u:=e8;rw[sS hk]at e9;have pV:σi[k]=some u:=by simpa using e9
      rw[pV];obtain⟨u',eu,ro⟩:=e6;cases eu;have ob:∃o0,s=.own o0\/s=.bor o0:=by
       simp only[Bb]at bZ;split at bZ
       next qG=>obtain⟨o0,s0,_,md,qL⟩:=jo j qG;rw[sS hj,es]at md;cases md;exact⟨o0,qL⟩
       .cases bZ
      obtain⟨o0,ob⟩:=ob;have j0:AO K ⟨F2.f,F.p⟩ H2 o u (jw k):=AO.wp ro;rcases ob with rfl|rfl
      .exact⟨u,rfl,j0⟩
      .exact⟨u,rfl,j0⟩
     .cases e2)
   (λj=>by
    try dsimp only
    split
    .exact m1 _
    .exact n1 _)
   (λj j' a hj ha hb=>by
    try dsimp only at ha hb
    split at ha
    .rename_i k ek;split at hb
     .rename_i k' jC;by_cases e:k=k'
      .subst e;obtain⟨_,i,ei,h1⟩:=placeOf_some ek;obtain⟨_,i',g6,h2⟩:=placeOf_some jC;rw[ei]at g6;cases g6;rw[h1]at h2;cases h2;exact hj rfl
      .exact m2 k k' a e ha hb
     next jC=>exact aN.pl a (r2 k a ha) (dY j' a hb (placeOf_none jC)).1
    .rename_i ek;split at hb
     next k' jC=>exact aN.pl a (r2 k' a hb) (dY j a ha (placeOf_none ek)).1
     .exact n2 j j' a hj ha hb)
  have src:∀a∈L',(a∈Li/\¬F2.p a)\/∃j,a∈bB j/\j∉DH fs is:=λa m=>by
   obtain⟨j,_,q⟩:=p3 a m
   try dsimp only at q
   split at q
   next k ek=>exact .inl ⟨r2 k a q,aN.pl a (r2 k a q)⟩
   next ek=>exact .inr ⟨j,q,placeOf_none ek⟩
  refine⟨L',⟨p1,p2,λa m f=>?_,λa f=>aN.fd a f,λj o e=>?_,λa p=>?_,λa f p=>?_,λa m p=>?_⟩,λa m=>?_⟩
  .rcases src a m with⟨q,_⟩|⟨j,q,hj⟩
   .exact aN.nf a q f
   .exact aN.pf a f (dY j a q hj).1
  .have hj:j<fs.length:=by rw[<- b1];exact(sY.mp e).1
   obtain⟨s1,e1,e2⟩:=b2 j fs[j] (sS hj);rw[e]at e1;cases e1;have:∃o',fs[j]?=some (some (.bor o')):=by
    unfold Ke at e2;split at e2
    .exact⟨o,by rwa[sS hj]⟩
    .split at e2
     next o1 s et es=>cases s with|val t=>cases e2|own o2=>cases e2|bor o2=>exact⟨o2,by rw[sS hj,es]⟩
     .cases e2
   obtain⟨o',eo⟩:=this;exact ok.bo j o' eo
  .rw[(l.p a (.inl p)).2];exact ok.pd a p
  .exact aN.pf a f (l.p a (.inl p)).1
  .rcases src a m with⟨_,q⟩|⟨j,q,hj⟩
   .exact q (l.p a (.inl p)).1
   .exact ok.pl a (q2 j a q) p
  .rcases src a m with⟨q,_⟩|⟨j,q,hj⟩
   .exact .inl q
   .exact .inr (.inr ⟨j,q,hj⟩)
noncomputable def Bof(U:St):Nat->Option V:=λk=>(U[k]?).join
def spF(K:Fg)(p:Nat)(Fn:FS->Out Rv):Sp:=λvs H Q _=>vs.length=p/\∃F cm,Okk K F (Bof (vs.map some)) H cm (vs.map some)/\match Fn cm with|.ok r τ=>∀F' H' u av,Le F H F' H'->RR K (Bof (vs.map some)) av F' H' τ r u->Q u H'|_=>False
noncomputable def Bj(n:Nat)(g:FS->SO):FS->Out Rv:=λargs=>match g (args++List.replicate n none)with
 |.nx τ=>.ok (.t .o) (τ.take args.length)
 |.ret (.t t) τ=>.ok (.t t) (τ.take args.length)
 |.ret (.nw o) τ=>.ok (.nw o) (τ.take args.length)
 |.ret (.n i) τ=>match τ[i]? with|some (some (.own o))=>.ok (.nw o) ((τ.set i none).take args.length)|_=>.bad
 |.exc c τ=>.exc c (τ.take args.length)
 |_=>.bad
section
variable{P:Program}{w:World}{K:Fg}{mg:Str->Option Value}{base:Heap}
end
noncomputable def AW:Rv->Ini
 |.t t=>.val t
 |.n i=>.slot i
 |.nw o=>.new o
noncomputable def QI(Fn:FS->Out Rv)(rs:List Rv)(fs:FS):Out Rv :=
 if(DH fs (rs.map AW)).Nodup then(match Fn (BY fs (rs.map AW))with|.ok (.t t) τ=>(match DD (rs.map AW) τ fs with|some ar=>.ok (.t t) ar|none=>.bad)|.ok (.nw o) τ=>(match DD (rs.map AW) τ fs with|some ar=>.ok (.nw o) ar|none=>.bad)|_=>.bad)else .bad
theorem HJ.len:∀{rs:List Rv}{vs:List V},HJ K F H U rs vs->vs.length=rs.length
 | [],_,h=>by cases h;rfl
 |r::rs,_,h=>by obtain⟨v,w,rfl,h1,h2⟩:=h;simp[HJ.len h2]
def Eu(K:Fg)(F:Wd)(H:Hp)(U:St):List Rv->List V->List Addr->Prop
 | [],vs,L=>vs=[]/\L=[]
 |r::rs,vs,L=>∃v w L1 L2,vs=v::w/\L5 K F H U r v L1/\Eu K F H U rs w L2/\L=L1++L2
inductive RAn(K:Fg)(B:Nat->Option V)(U:St)(F:Wd)(H:Hp)(fs:FS)(rs:List Rv)(vs:List V):Prop
 |mk (L M:List Addr) (h0:Ok K F B H fs U L) (h1:Eu K F H U rs vs M) (h2:(L++M).Nodup) (h3:∀a∈M,¬F a/\¬F.p a)
inductive tAn(K:Fg)(Z:Xp)(f:FS->Out (List Rv))(U:St)(H:Hp)(Q:List V->Hp->Prop):Prop
 |mk (F:Wd) (B:Nat->Option V) (fs:FS) (h0:Okk K F B H fs U) (h1:sat Z B (RAn K B U) F H (f fs) Q)
def FAn(X:Cx)(Z:Xp)(es:List Expr)(f:FS->Out (List Rv)):Prop:=PA X es (tAn X.K Z f)
noncomputable def Ac(f:FS->Out Rv)(g:FS->Out (List Rv)):FS->Out (List Rv):=λfs=>(f fs).bind λr fs=>(g fs).bind λrs fs=>.ok (r::rs) fs
section
variable{K:Fg}{F F':Wd}{H H':Hp}{B:Nat->Option V}{fs:FS}{U:St}{rs:List Rv}{vs:List V}{Z:Xp}{Q:VK}{Fn:FS->Out Rv}{E:XK}
theorem Eu.len:∀{rs:List Rv}{vs:List V}{M:List Addr},Eu K F H U rs vs M->vs.length=rs.length
 | [],_,_,h=>by obtain⟨rfl,_⟩:=h;rfl
 |r::rs,_,_,h=>by obtain⟨v,w,L1,L2,rfl,_,h,_⟩:=h;simp[Eu.len h]
theorem L5.def(h:L5 K F H U r v L):∀a∈L,H a≠none:=by
 cases r with
 |t t=>obtain⟨rfl,_⟩:=h;exact λa m=>nomatch m
 |nw o=>exact AO.def h
 |n i=>obtain⟨rfl,_⟩:=h;exact λa m=>nomatch m
theorem L5.lf(l:∀a,F a->F' a/\H' a=H a)(k:∀a∈L,H' a=H a)(h:L5 K F H U r v L):L5 K F' H' U r v L:=by cases r with|t t=>exact⟨h.1,AF.le (F:=⟨F.f,λ_=>False⟩) ⟨l,λ_ z=>z.elim⟩ (AF.wp h.2)⟩|nw o=>exact AO.le (F:=⟨F.f,λ_=>False⟩) ⟨l,λ_ z=>z.elim⟩ k (AO.wp h)|n i=>exact h
theorem Eu.lf(l:∀a,F a->F' a/\H' a=H a):∀{rs:List Rv}{vs:List V}{M:List Addr},(∀a∈M,H' a=H a)->Eu K F H U rs vs M->Eu K F' H' U rs vs M
 | [],_,_,_,h=>h
 |r::rs,_,_,k,h=>by obtain⟨v,w,L1,L2,e,h1,h2,rfl⟩:=h;exact⟨v,w,L1,L2,e,h1.lf l λa m=>k a (tm _ m),Eu.lf l (λa m=>k a (tB _ m)) h2,rfl⟩
theorem Eu.toP:∀{rs:List Rv}{vs:List V}{M:List Addr},Eu K F H U rs vs M->∃μ:Nat->List Addr,(∀k r,rs[k]?=some r->∃v,vs[k]?=some v/\L5 K F H U r v (μ k))/\(∀k a,a∈μ k->a∈M/\H a≠none) /\
  (M.Nodup->(∀k,(μ k).Nodup)/\∀i j a,i≠j->a∈μ i->a∉μ j)
 | [],_,_,h=>⟨λ_=>[],(λk r e=>by simp at e),(λ_ _ m=>nomatch m),λ_=>⟨λ_=>ua,(λ_ _ _ _ m=>nomatch m)⟩⟩
 |r::rs,_,_,h=>by
  obtain⟨v,w,L1,L2,rfl,h1,h2,rfl⟩:=h;obtain⟨μ,q1,q2,q3⟩:=Eu.toP h2;refine⟨λi=>match i with|0=>L1|i+1=>μ i,λk r' e=>?_,λk a m=>?_,λnd=>?_⟩
  .cases k with|zero =>simp at e;subst e;exact⟨v,rfl,h1⟩|succ k =>obtain⟨u,e1,e2⟩:=q1 k r' (by simpa using e);exact⟨u,by simpa using e1,e2⟩
  .cases k with|zero=>exact⟨tm _ m,h1.def a m⟩|succ k=>exact⟨tB _ (q2 k a m).1,(q2 k a m).2⟩
  .rw[sT]at nd;obtain⟨n1,n2,n3⟩:=nd;obtain⟨m1,m2⟩:=q3 n2;refine⟨λi=>?_,λi j a cL hi hj=>?_⟩
   .cases i with|zero=>exact n1|succ i=>exact m1 i
   .cases i with
    |zero =>cases j with|zero=>exact cL rfl|succ j=>exact n3 a hi a (q2 j a hj).1 rfl
    |succ i =>cases j with|zero=>exact n3 a hj a (q2 i a hi).1 rfl|succ j=>exact m2 i j a (λe=>cL (by rw[e])) hi hj
theorem Nu(q:RAn K B U F H fs rs vs):∃L μ,Ok K F B H fs U L/\Mu F H L μ/\(vs.map some).length=(rs.map AW).length/\∀(k:Nat)(i:Ini)(v:Option V),(rs.map AW)[k]?=some i->(vs.map some)[k]?=some v->Vc K F H U i v (μ k):=by obtain⟨L,M,ok,q,nd,nf⟩:=q;obtain⟨μ,q1,q2,q3⟩:=q.toP;rw[sT]at nd;obtain⟨m1,m2⟩:=q3 nd.2.1;refine⟨L,μ,ok,⟨λk a m=>⟨(nf a (q2 k a m).1).1,(nf a (q2 k a m).1).2,λz=>nd.2.2 a z a (q2 k a m).1 rfl,(q2 k a m).2⟩,m1,m2⟩,by simp[q.len],λk i v e1 e2=>?_⟩;rw[tR,tu]at e1 e2;obtain⟨r,er,rfl⟩:=e1;obtain⟨u,eu,rfl⟩:=e2;obtain⟨u',e3,rr⟩:=q1 k r er;rw[eu]at e3;cases e3;cases r with|t t=>exact⟨u,rfl,rr.2⟩|nw o=>exact⟨u,rfl,rr⟩|n i=>exact rr.2
theorem RAn.len(q:RAn K B U F H fs rs vs):vs.length=rs.length:=by obtain⟨L,M,ok,q,_⟩:=q;exact q.len
set_option tactic.hygienic true in
theorem QH(q:RAn K B U F H fs rs vs)(s:sat Z B (RR K B U) F H (QI Fn rs fs) Q):spF K rs.length Fn vs H Q E:=by
 unfold QI at s;split at s
 .rename_i nd;obtain⟨L9,μ,ok,eJ,hl,hi⟩:=Nu q;obtain⟨Pp,p1,p2,p3,p4⟩:=lend ok hl hi nd eJ;refine⟨q.len,⟨F.f,Pp⟩,BY fs (rs.map AW),p2,?_⟩;split at s
  .rename_i t τ e;rw[e];split at s
   next ar eb=>intro F' H' u av l k;obtain⟨Li,L',o1,⟨_,r⟩,_⟩:=k;obtain⟨le,L,o2,_⟩:=p4 F' H' τ av Li ar l o1 eb;exact s ⟨F'.f,F.p⟩ H' u le (RR.of ⟨L,o2⟩ (AF.wp r))
   .exact s.elim
  .rename_i o τ e;rw[e];split at s
   .rename_i ar eb;intro F' H' u av l k;obtain⟨Li,L',o1,r,nd,nf⟩:=k;obtain⟨le,L,o2,sub⟩:=p4 F' H' τ av Li ar l o1 eb;refine s ⟨F'.f,F.p⟩ H' u le ⟨L,L',o2,AO.wp r,?_,λa m=>⟨(nf a m).1,λp=>(nf a m).2 (l.p a (p1 a p)).1⟩⟩;rw[sT]at nd ⊢;refine⟨o2.nd,nd.2.1,λa ha b hb e=>?_⟩;rcases sub a ha with z|z
    .exact nd.2.2 a z b hb e
    .exact(nf b hb).2 (l.p b (e▸z)).1
   .exact s.elim
  .exact s.elim
 .exact s.elim
end
section
variable{X:Cx}{Z:Xp}{e:Expr}{es:List Expr}{f:FS->Out Rv}{g:FS->Out (List Rv)}
theorem UH:FAn X Z [] Ai:=Ky Fb λU H Q ⟨F,B,fs,⟨L,ok⟩,s⟩=>s F H [] Le.refl ⟨L,[],ok,⟨rfl,rfl⟩,by simpa using ok.nd,(λ_ m=>nomatch m)⟩
theorem PL{R2:Wd->Hp->FS->γ->δ->Prop}(q:RR K B U F1 H1 ag r u)(s1:sat Z B R2 F1 H1 ((g ag).bind k) Q)
  (hk:∀rs au F2 H2 us,Le F1 H1 F2 H2->RAn K B U F2 H2 au (r::rs) (u::us)->sat Z B R2 F2 H2 (k rs au) Q->Q' us H2):tAn K Z g U H1 Q':=by
 obtain⟨L,L1,o1,r1,nd,nf⟩:=q;have jl:=sT.mp nd;have m9:Le F1 H1 ⟨F1.f,λa=>F1.p a\/a∈L1⟩ H1:=⟨λa f=>⟨f,rfl⟩,λa f=>⟨.inl f,rfl⟩⟩
 refine⟨⟨F1.f,λa=>F1.p a\/a∈L1⟩,B,ag,⟨L,o1.sl.le m9 λ_ _=>rfl,o1.nd,o1.nf,o1.fd,o1.bo,λa p=>?_,λa f p=>?_,λa m p=>?_⟩,?_⟩
 .rcases p with p|p
  .exact o1.pd a p
  .exact r1.def a p
 .rcases p with p|p
  .exact o1.pf a f p
  .exact(nf a p).1 f
 .rcases p with p|p
  .exact o1.pl a m p
  .exact jl.2.2 a m a p rfl
 .cases eg:g ag with
  |bad=>rwa[eg]at s1
  |exc c t=>rw[eg]at s1;exact Z.mono s1 m9
  |ok rs au =>
   rw[eg]at s1;intro F2 H2 us l2 q2;obtain⟨L2,M2,o2,r2,ie,lb⟩:=q2;have eT:Le F1 H1 ⟨F2.f,F1.p⟩ H2:=⟨λa f=>l2.f a f,λa f=>⟨f,(l2.p a (.inl f)).2⟩⟩
   have hp:∀a∈L1,F2.p a/\H2 a=H1 a:=λa m=>l2.p a (.inr m)
   have ji:=sT.mp ie;refine hk rs au ⟨F2.f,F1.p⟩ H2 us eT ⟨L2,L1++M2,⟨Ao.wp o2.sl,o2.nd,o2.nf,o2.fd,o2.bo,λa f=>by rw[(eT.p a f).2];exact o1.pd a f,λa f p=>o2.pf a f (l2.p a (.inl p)).1,λa m p=>o2.pl a m (l2.p a (.inl p)).1⟩,⟨u,us,L1,M2,rfl,L5.lf (F:=F1) (F':=⟨F2.f,F1.p⟩) (H:=H1) (H':=H2) (λa f=>l2.f a f) (λa m=>(hp a m).2) r1,Eu.lf (F:=F2) (F':=⟨F2.f,F1.p⟩) (λa f=>⟨f,rfl⟩) (λ_ _=>rfl) r2,rfl⟩,?_,λa m=>?_⟩ (sat.le s1 eT)
   .rw[sT];refine⟨o2.nd,?_,λa ha b hb e=>?_⟩
    .rw[sT];exact⟨jl.2.1,ji.2.1,λa ha b hb e=>(lb b hb).2 (e▸(hp a ha).1)⟩
    .rcases sZ.mp hb with hb|hb
     .exact o2.pl a ha (e▸(hp b hb).1)
     .exact ji.2.2 a ha b hb e
   .rcases sZ.mp m with m|m
    .exact⟨λf=>o2.pf a f (hp a m).1,(nf a m).2⟩
    .exact⟨(lb a m).1,λp=>(lb a m).2 (l2.p a (.inl p)).1⟩
theorem Qm(ha:FE X Z e f)(hr:FAn X Z es g)(hs:starEach (e::es) X.env=(false,eval e X.env)::starEach es X.env:=by rfl):FAn X Z (e::es) (Ac f g) :=
 Ky (B9 ha hr hs) λU H Q ⟨F,B,fs,ok,s⟩=>⟨F,B,fs,ok,As s λr ag F1 H1 u l q s1=>PL q s1 λrs au F2 H2 us _ ra s2=>s2 F2 H2 (u::us) Le.refl ra⟩
end
section
variable{X:Cx}{Z:Xp}{x:Str}{k p:Nat}{ps:List Str}{Fn:FS->Out Rv}{e o:Expr}{es:List Expr}{fa:FS->Out (List Rv)}{fo:FS->Out Rv}{pp pos aA:Pos}{C:Addr}{m:Str}
noncomputable def Og(p:Nat)(Fn:FS->Out Rv):List Rv->FS->Out Rv:=λrs fs=>if rs.length=p then QI Fn rs fs else .bad
noncomputable def Hw(C:Addr)(m:Str)(fs:FS):Rv->Bool
 |.t (.ins C' gs _)=>decide (C'=C)&&!gs.any (·==m)
 |.n i=>match AE fs i with|some (.ins C' gs _)=>decide (C'=C)&&!gs.any (·==m)|_=>false
 |_=>false
theorem IA{ah:List (Str×V)}(h:((ah.map (·.1)).any (·==m))=false):ah.lookup m=none:=by
 induction ah with
 |nil=>rfl
 |cons p r ih =>
  rw[sX,vd,Bool.or_eq_false_iff]at h;obtain⟨k,v⟩:=p;rw[ug];have:(m==k)=false:=by have h1:=h.1;rw[beq_eq_false_iff_ne]at h1 ⊢;exact λe=>h1 e.symm
  rw[this];exact ih h.2
set_option tactic.hygienic true in
theorem KN(ok:Okk K F B H fs U)(q:CW K F H U r u)(h:Hw C m fs r=true):∃a dx ah,u=.ref a/\H a=some (.ins C dx ah)/\ah.lookup m=none:=by
 unfold Hw at h;split at h
 next C' gs ts=>rw[tO]at h;have hC:=tM h.1;subst hC;obtain⟨a,dx,ah,rfl,f,hd,rfl,r⟩:=q;exact⟨a,dx,ah,rfl,hd,IA (by simpa using h.2)⟩
 .rename_i i;split at h
  .rename_i C' gs os eo;rw[tO]at h;have hC:=tM h.1;subst hC;obtain⟨v,L2,e1,q2,_⟩:=ok.own eo;have e2:U[i]?=some (some u):=q;rw[e1]at e2;have e3:v=u:=by simpa using e2
   subst e3;obtain⟨a,dx,ah,L',rfl,hd,rfl,_⟩:=q2;exact⟨a,dx,ah,rfl,hd,IA (by simpa using h.2)⟩
  .cases h
 .cases h
noncomputable def JQ(C:Addr)(m:Str)(p:Nat)(Fn:FS->Out Rv)(fo:FS->Out Rv)(fa:FS->Out (List Rv)):FS->Out Rv:=λfs=>(fo fs).bnd λx fs=>if Hw C m fs x=true then(fa fs).bind λrs fs=>Og p Fn (x::rs) fs else .bad
noncomputable def DS(C:Addr)(p:Nat)(Fn:FS->Out Rv)(rs:List Rv)(fs:FS):Out Rv :=
 if(DH fs (rs.map AW)).Nodup/\rs.length+1=p then(match Fn (some (.bor (.ins C [] []))::BY fs (rs.map AW))with|.ok (.t .o) (some (.bor o)::τ)=>(match DD (rs.map AW) τ fs with|some ar=>.ok (.nw o) ar|none=>.bad)|_=>.bad)else .bad
set_option tactic.hygienic true in
theorem Px(q:RAn K B U F H fs rs vs)(s:sat Z B (RR K B U) F H (DS C p Fn rs fs) Q)
  {x dx:Addr} (hx:H x=none) (sm:H dx=none) (aT:dx≠x):spF K p Fn (.ref x::vs) (upd (upd H dx (.own x)) x (.ins C dx [])) (λv H2=>v=.o/\Q (.ref x) H2) E:=by
 unfold DS at s;split at s
 .rename_i hh;obtain⟨nd,hp⟩:=hh;obtain⟨L9,μ,ok,eJ,hl,hi⟩:=Nu q;obtain⟨Pp,p1,⟨L0,p2⟩,p3,p4⟩:=lend ok hl hi nd eJ;have l0:∀a,H a≠none->(upd (upd H dx (.own x)) x (.ins C dx [])) a=H a:=λa h=>by rw[Aj (λe=>h (by rw[e];exact hx)),Aj (λe=>h (by rwa[e]))]
  have m8:Le ⟨F.f,Pp⟩ H ⟨F.f,Pp⟩ (upd (upd H dx (.own x)) x (.ins C dx [])):=⟨λa f=>⟨f,l0 a (p2.fd a f)⟩,λa f=>⟨f,l0 a (p3 a f)⟩⟩
  refine⟨by rw[tV,q.len];exact hp,⟨F.f,Pp⟩,some (.bor (.ins C [] []))::BY fs (rs.map AW),?_,?_⟩
  .refine⟨[x]++L0,Ao.cons ⟨.ref x,rfl,?_⟩ (p2.sl.le m8 λa m=>l0 a (p2.sl.def a m)),?_,λa m=>?_,λa f=>?_,λi o e=>?_,λa f=>?_,p2.pf,λa m=>?_⟩
   .simp only[AO];exact⟨x,dx,[],[],rfl,Am,rfl,⟨rfl,rfl⟩,rfl⟩
   .rw[sT];exact⟨by simp,p2.nd,λa ha b hb e=>p2.sl.def b hb (by rwa[<- e,tD.mp ha])⟩
   .rcases sZ.mp m with m|m
    .rw[tD.mp m];exact λf=>p2.fd x f hx
    .exact p2.nf a m
   .rw[l0 a (p2.fd a f)];exact p2.fd a f
   .cases i with|zero=>exact⟨.ref x,rfl,rfl⟩|succ i=>exact p2.bo i o (by simpa using e)
   .rw[l0 a (p3 a f)];exact p3 a f
   .rcases sZ.mp m with m|m
    .rw[tD.mp m];exact λf=>p3 x f hx
    .exact p2.pl a m
  .split at s
   .rename_i o τ e;rw[e];split at s
    .rename_i ar eb;intro F' H' u av l k;obtain⟨oN,L',o1,⟨_,r⟩,_⟩:=k;refine⟨r,?_⟩;obtain⟨v,fO,L1,L2,rfl,h1,h2,rfl⟩:=o1.sl.Gy;obtain⟨w,rfl,ro⟩:=h1;obtain⟨w',e3,e4⟩:=o1.bo 0 o rfl;have ew:w=.ref x:=by have z1:some (some w)=some (some w'):=e3;have z2:some (V.ref x)=some w':=e4;cases z1;cases z2;rfl
     subst ew;have bQ:=sT.mp o1.nd;have l':Le ⟨F.f,Pp⟩ H F' H':=m8.trans l;obtain⟨le,L,o3,sub⟩:=p4 F' H' τ fO L2 ar l' (⟨h2,bQ.2.1,λa m=>o1.nf a (tB _ m),o1.fd,λi ob eo=>by obtain⟨v,z1,z2⟩:=o1.bo (i+1) ob (by simpa using eo);exact⟨v,by simpa using z1,by have z3:(((V.ref x::vs).map some)[i+1]?).join=some v:=z2;simpa using z3⟩,o1.pd,o1.pf,λa m=>o1.pl a (tB _ m)⟩) eb;refine s ⟨F'.f,F.p⟩ H' (.ref x) le ⟨L,L1,o3,AO.wp ro,?_,λa m=>⟨o1.nf a (tm _ m),λp=>o1.pl a (tm _ m) (l'.p a (p1 a p)).1⟩⟩;rw[sT];refine⟨o3.nd,bQ.1,λa ha b hb e=>?_⟩;rcases sub a ha with z|z
     .exact bQ.2.2 b hb a z e.symm
     .exact o1.pl b (tm _ hb) (l'.p b (e▸z)).1
    .exact s.elim
   .exact s.elim
 .exact s.elim
end
noncomputable def Bp(gt:T->FS->Option FS)(ft:FS->Out Bool)(fe:FS->Out Rv):List T->FS->List T->Option (List T×FS)
 | [],τ,ax=>some (ax,τ)
 |t::ts,τ,ax=>match gt t τ with|none=>none|some τ=>match ft τ with|.ok true τ=>(match fe τ with|.ok (.t v) τ=>if ax.length<big then Bp gt ft fe ts τ (ax++[v])else none|_=>none)|.ok false τ=>Bp gt ft fe ts τ ax|_=>none
noncomputable def Dz:FS->Out Bool:=λfs=>.ok true fs
noncomputable def Bq(new:Bool)(src:List (Option Nat))(fi:FS->Out (List T))(gt:T->FS->Option FS)(ft:FS->Out Bool)(fe:FS->Out Rv):FS->Out Rv:=λfs=>(fi fs).bind λts fs =>if(DH fs (src.map λo=>o.elim Ini.no Ini.slot)).Nodup/\(src.all λo=>o.elim true λj=>decide (j<fs.length))=true then(match Bp gt ft fe ts (BY fs (src.map λo=>o.elim Ini.no Ini.slot)) []with|some (vs,τ)=>(match DD (src.map λo=>o.elim Ini.no Ini.slot) τ fs with|some ar=>if new=true then .ok (.nw (.lst vs)) ar else .ok (.t (.lst vs)) ar|none=>.bad)|none=>.bad)else .bad
def FIf(X:Cx)(cy:List Expr)(ft:FS->Out Bool):Prop:=RW X cy (tT X.K Xp.no ft)
theorem Pa(h:RW X e t)(i:∀U H Q,t' U H Q->t U H Q):RW X e t':=λaa s U H Q I q=>h aa s U H Q I (i _ _ _ q)
theorem Uw:FIf X [] Dz:=Pa O9 λU H Q ⟨F,B,fs,ok,s⟩=>s F H true Le.refl ⟨ok,rfl⟩
theorem Uv(h:FT X Xp.no c ft):FIf X [c] ft:=O8 h
section
variable{K:Fg}{F:Wd}{H:Hp}{B:Nat->Option V}{fs:FS}{U:St}
theorem Okk.hide(h:Okk K F B H fs U)(hp:H p=none):Okk K ⟨F.f,λa=>F.p a\/a=p⟩ B (upd H p o) fs U:=by
 obtain⟨L,h⟩:=h;have l:Le F H ⟨F.f,λa=>F.p a\/a=p⟩ (upd H p o):=⟨λa f=>⟨f,Aj λe=>h.fd a f (e▸hp)⟩,λa f=>⟨.inl f,Aj λe=>h.pd a f (e▸hp)⟩⟩
 refine⟨L,h.sl.le l (h.TX hp),h.nd,h.nf,λa q=>CZ (h.fd a q),h.bo,λa q=>?_,λa f q=>?_,λa m q=>?_⟩
 .rcases q with q|q
  .exact CZ (h.pd a q)
  .rw[q,Am];simp
 .rcases q with q|q
  .exact h.pf a f q
  .exact h.fd a f (q▸hp)
 .rcases q with q|q
  .exact h.pl a m q
  .exact h.sl.def a m (q▸hp)
theorem Okk.upP(h:Okk K F B H fs U)(hp:F.p p):Okk K F B (upd H p o) fs U:=by
 obtain⟨L,h⟩:=h;have hf:∀a,F a->(upd H p o) a=H a:=λa f=>Aj λe=>h.pf a f (e▸hp)
 have l:Le ⟨F.f,λ_=>False⟩ H ⟨F.f,F.p⟩ (upd H p o):=⟨λa f=>⟨f,hf a f⟩,λa f=>f.elim⟩
 refine⟨L,(Ao.wp h.sl).le l λa m=>Aj λe=>h.pl a m (e▸hp),h.nd,h.nf,λa q=>CZ (h.fd a q),h.bo,λa q=>CZ (h.pd a q),h.pf,h.pl⟩
theorem Ag.upP(h:Okk K F B H fs U)(hp:F.p p)(r:Ag K F H ts vs):Ag K F (upd H p o) ts vs:=by
 obtain⟨L,h⟩:=h;have l:Le ⟨F.f,λ_=>False⟩ H ⟨F.f,F.p⟩ (upd H p o):=⟨λa f=>⟨f,Aj λe=>h.pf a f (e▸hp)⟩,λa f=>f.elim⟩
 exact Ag.le l (Ag.wp r)
end
section
variable{X:Cx}{Z:Xp}{N:List Str}{sc:Scope}{tg aC dm:Expr}{cy:List Expr}{fi:FS->Out (List T)}{gt:T->FS->Option FS}{ft:FS->Out Bool}{fe:FS->Out Rv}{pos:Pos}{K:Fg}
inductive CI(K:Fg)(W:Wd)(H1:Hp)(D:Addr)(Bc:Nat->Option V)(gt:T->FS->Option FS)(ft:FS->Out Bool)(fe:FS->Out Rv)(r:List T×FS)(l:List T)(bI:St)(H2:Hp):Prop
 |mk (F2:Wd) (τ:FS) (ax:List T) (ys:List V) (l2:Le W H1 F2 H2) (pD:F2.p D) (aN:Okk K F2 Bc H2 τ bI) (eZ:H2 D=some (.lst ys)) (cw:Ag K F2 H2 ax ys) (ec:Bp gt ft fe l τ ax=some r):CI K W H1 D Bc gt ft fe r l bI H2
theorem CI.put(nP:¬W.p D)(jg:Le W H1 F6 H6)(p6:F6.p D)(o6:Ok K F6 Bc H6 iE bI L6)(jq:Ag K F6 H6 ax ys)(rv:AF K F6 H6 v y)
  (aV:Bp gt ft fe l iE (ax++[v])=some r):CI K W H1 D Bc gt ft fe r l bI (upd H6 D (.lst (ys++[y]))) :=
 .mk F6 iE (ax++[v]) (ys++[y]) ⟨λa f=>⟨(jg.f a f).1,by rw[Aj λe=>o6.pf a (jg.f a f).1 (by rw[e];exact p6)];exact(jg.f a f).2⟩,λa f=>⟨(jg.p a f).1,by rw[Aj λe=>nP (by rw[<- e];exact f)];exact(jg.p a f).2⟩⟩
  p6 (Okk.upP ⟨L6,o6⟩ p6) Am (Ag.upP ⟨L6,o6⟩ p6 (jq.app (Ag.one rv))) aV
theorem CI.one(nP:¬W.p D)(jT:Le W H1 F5 H5)(p5:F5.p D)(jZ:Okk K F5 Bc H5 cU bI)(qb:H5 D=some (.lst ys))(gU:Ag K F5 H5 ax ys)
  (aV:(match fe cU with|.ok (.t v) τ=>if ax.length<big then Bp gt ft fe l τ (ax++[v])else none|_=>none)=some r) :
  tF K Xp.no fe bI H5 λy H6=>∃ys,H6 D=some (.lst ys)/\ys.length<sizeLine/\CI K W H1 D Bc gt ft fe r l bI (upd H6 D (.lst (ys++[y]))):=by
 refine⟨F5,Bc,cU,jZ,?_⟩;cases ee:fe cU with
 |exc c iE=>rw[ee]at aV;cases aV
 |bad=>rw[ee]at aV;cases aV
 |ok w iE =>
  rw[ee]at aV;cases w with
  |nw o=>cases aV
  |n o=>cases aV
  |t v =>
   dsimp only at aV;by_cases hlen:ax.length<big
   .rw[if_pos hlen]at aV;intro F6 H6 y l6 q6;obtain⟨L6,rX,o6,⟨_,rv⟩,_⟩:=q6;have p6:=l6.p D p5;exact⟨ys,p6.2.trans qb,by rw[gU.len];exact uC hlen FZ,CI.put nP (jT.trans l6) p6.1 o6 (gU.le l6) rv aV⟩
   .rw[if_neg hlen]at aV;cases aV
theorem CI.turn(nP:¬W.p D)(l2:Le W H1 F3 H3)(pD:F3.p D)(aN:Okk K F3 Bc H3 τ bI)(eZ:H3 D=some (.lst ys))(cw:Ag K F3 H3 ax ys)
  (aV:Bp gt ft fe (t::l) τ ax=some r) (rx:AF K F3 H3 t x) :
  tG K gt x bI H3 λcU H4=>tT K Xp.no ft cU H4 λb H5=>if b=true then tF K Xp.no fe cU H5 λy H6=>∃ys,H6 D=some (.lst ys)/\ys.length<sizeLine/\CI K W H1 D Bc gt ft fe r l cU (upd H6 D (.lst (ys++[y])))else CI K W H1 D Bc gt ft fe r l cU H5:=by
 simp only[Bp]at aV;refine⟨F3,Bc,τ,t,aN,rx,?_⟩;cases eg:gt t τ with|none=>rw[eg]at aV;cases aV|some jv =>rw[eg]at aV;intro F4 H4 nW l4 il;refine⟨F4,Bc,jv,il,?_⟩;dsimp only at aV;cases et:ft jv with|exc c cU=>rw[et]at aV;cases aV|bad=>rw[et]at aV;cases aV|ok b cU =>rw[et]at aV;intro F5 H5 b' l5 q5;obtain⟨jZ,rfl⟩:=q5;have p4:=l4.p D pD;have p5:=l5.p D p4.1;have h5:=(p5.2.trans p4.2).trans eZ;have jT:=(l2.trans l4).trans l5;have r5:=(cw.le l4).le l5;cases b' with|false =>exact .mk F5 cU ax ys jT p5.1 jZ h5 r5 aV|true =>exact CI.one nP jT p5.1 jZ h5 r5 aV
theorem U7(ok:Okk K F B H fs U)(dz:(src.all λo=>o.elim true λj=>decide (j<fs.length))=true)(k:Nat)(i:Ini)(v:Option V)(e1:(src.map λo=>o.elim Ini.no Ini.slot)[k]?=some i)(e2:(EL U src)[k]?=some v):Vc K F H U i v []:=by unfold EL at e2;rw[tR,tu]at e1 e2;obtain⟨o,eo,rfl⟩:=e1;obtain⟨o',l9,rfl⟩:=e2;rw[eo]at l9;cases l9;cases o with|none=>exact trivial|some j =>show U[j]?=some ((U[j]?).join);rw[sS (by obtain⟨L1,o1⟩:=ok;rw[o1.sl.len];exact tM (uf.mp dz _ (uk eo)))];rfl
theorem Qy{F1 F2:Wd}(o3:Ok K ⟨F2.f,F1.p⟩ B H2 ar U L)(eZ:H2 D=some (.lst ys))(cw:Ag K F2 H2 ax ys)(nL:D∉L)(nF:¬F2 D)(np:¬F1.p D):RR K B U ⟨F2.f,F1.p⟩ H2 ar (.nw (.lst ax)) (.ref D):=by
 refine⟨L,[D],o3,CM eZ (Ag.wp cw),?_,λa m=>?_⟩
 .rw[sT];exact⟨o3.nd,by simp,λa ha b hb e=>nL (by rwa[<- tD.mp hb,<- e])⟩
 .rw[tD.mp m];exact⟨nF,np⟩
theorem Qx{F1 F2:Wd}(o3:Ok K ⟨F2.f,F1.p⟩ B H2 ar U L)(eZ:H2 D=some (.lst ys))(cw:Ag K F2 H2 ax ys)(nL:D∉L)(np:¬F1.p D):RR K B U (GZ ⟨F2.f,F1.p⟩ [D]) H2 ar (.t (.lst ax)) (.ref D):=by
 have l3:Le ⟨F2.f,F1.p⟩ H2 (GZ ⟨F2.f,F1.p⟩ [D]) H2:=orF;refine RR.of ⟨L,?_⟩ ?_
 .refine⟨o3.sl.le l3 λ_ _=>rfl,o3.nd,λa m z=>?_,λa z=>?_,o3.bo,o3.pd,λa z=>?_,o3.pl⟩
  .rcases z with z|z
   .exact o3.nf a m z
   .exact nL (by rwa[<- tD.mp z])
  .rcases z with z|z
   .exact o3.fd a z
   .rw[tD.mp z,eZ];simp
  .rcases z with z|z
   .exact o3.pf a z
   .rwa[tD.mp z]
 .simp only[CW,AF];exact⟨D,ys,rfl,.inr (by simp),eZ,Ag.le l3 (Ag.wp cw)⟩
set_option tactic.hygienic true in
theorem RQ(h:tF K Z (Bq new src fi gt ft fe) U H Q):So src (tI K Z fi) (tG K gt) (tT K Xp.no ft) (tF K Xp.no fe) U H Q:=by
 obtain⟨F,B,fs,ok,s⟩:=h;refine⟨F,B,fs,ok,As s λts ag F1 H1 J l q s1=>?_⟩;obtain⟨ay,jk⟩:=q;split at s1
 .rename_i mM;obtain⟨L9,rp⟩:=id ay;obtain⟨Pp,p1,p2,p3,p4⟩:=lend (μ:=λ_=>[]) rp (by unfold EL;simp) (U7 ay mM.2) mM.1 Mu.no;have jI:JOk K ⟨F1.f,Pp⟩ H1 J ts:=jk.within;split at s1
  .rename_i vs lM ec;split at s1
   .rename_i ar eb;intro D hD;have nP:=λz=>p3 D z hD
    refine⟨λi m bI H2=>m=ts.length-i/\CI K ⟨F1.f,Pp⟩ H1 D (Bof (EL U src)) gt ft fe (vs,lM) (ts.drop i) bI H2,
     ⟨ts.length,rfl,.mk ⟨F1.f,λa=>Pp a\/a=D⟩ _ [] [] ⟨λa f=>⟨f,Aj λe=>p2.fd a f (e▸hD)⟩,λa f=>⟨.inl f,Aj λe=>nP (e▸f)⟩⟩ (.inr rfl) (p2.hide hD) Am rfl ec⟩,λi m bI H2 hc=>?_⟩
    obtain⟨rfl,F2,τ,ax,ys,l2,pD,aN,eZ,cw,aV⟩:=hc;by_cases bP:i<ts.length
    .have ei:=sS bP;rw[vD bP]at aV;obtain⟨j1,j2⟩:=(jI F2 H2 l2.f ⟨_,_,_,aN⟩ i).1 _ ei;refine .inr ⟨j1,CI K ⟨F1.f,Pp⟩ H1 D (Bof (EL U src)) gt ft fe (vs,lM) (ts.drop (i+1)),λnU H' h=>⟨ts.length-(i+1),by lia,rfl,h⟩,λx H3 hy=>?_⟩;obtain⟨F3,⟨jU,nw⟩,rx⟩:=j2 x H3 hy;exact CI.turn nP (l2.trans jU) (jU.p D pD).1 (nw _ _ _ aN) ((jU.p D pD).2.trans eZ) (cw.le jU) aV rx
    .refine .inl ⟨(jI F2 H2 l2.f ⟨_,_,_,aN⟩ i).2 (by lia),?_⟩;rw[uR (by lia)]at aV;cases aV;obtain⟨Li,o2⟩:=aN;obtain⟨le,L,o3,sub⟩:=p4 F2 H2 lM bI Li ar l2 o2 eb;have nL:D∉L:=λm=>(sub D m).elim (λz=>o2.pl D z pD) nP
     have np:=λz=>nP (p1 D z)
     cases new with|true =>exact s1 ⟨F2.f,F1.p⟩ H2 (.ref D) le (Qy o3 eZ cw nL (λf=>o2.pf D f pD) np)|false =>exact s1 (GZ ⟨F2.f,F1.p⟩ [D]) H2 (.ref D) (le.trans orF) (Qx o3 eZ cw nL np)
   .exact s1.elim
  .exact s1.elim
 .exact s1.elim
theorem C6(new:Bool)(N:List Str)(src:List (Option Nat))(bh:X.calm=true)(hi:FI X Z tg aC fi)(hg:∀cl C s H fp,GT (BG X N sc cl C s H fp) tg gt)(ht:∀cl C s H fp,FIf (BG X N sc cl C s H fp) cy ft)
  (he:∀cl C s H fp,FE (BG X N sc cl C s H fp) Xp.no dm fe) (hS:GQ X.env.scope sc=true:=by rfl) (bL:Ep X.N sc N src=true:=by rfl)
  (hs:∀x,foldedSetIterable aC X.env x=pure x:=by intro _;rfl):FE X Z (.ListComp dm [⟨tg,aC,cy,0⟩] sc pos) (Bq new src fi gt ft fe) :=
 AG (S6 (g:=tG X.K gt) (tt:=tT X.K Xp.no ft) (te:=tF X.K Xp.no fe) N src bh hi hg ht he hS bL hs) λ_ _ _ h=>RQ h
theorem B3(new:Bool)(i:Nat)(N:List Str)(src:List (Option Nat))(bh:X.calm=true)(hN:X.N.Nodup)(hy:Loc X.env.scope y)(hi:FI X Z tg aC fi)(hg:∀cl C s H fp,GT (BG X N sc cl C s H fp) tg gt)(ht:∀cl C s H fp,FIf (BG X N sc cl C s H fp) cy ft)
  (he:∀cl C s H fp,FE (BG X N sc cl C s H fp) Xp.no dm fe) (kF:X.N[i]?=some y:=by rfl) (hS:GQ X.env.scope sc=true:=by rfl) (bL:Ep X.N sc N src=true:=by rfl)
  (hs:∀x,foldedSetIterable aC X.env x=pure x:=by intro _;rfl) (kU:swapsWith (.ListComp dm [⟨tg,aC,cy,0⟩] sc pos) (some (.Name y aS)) gz.line X.env=pure true:=by rfl)
  (hf:X.fn y=true\/X.env.scope.names.lookup y=some .local:=by first|exact .inl rfl|exact .inr rfl|assumption) :
  GS X Z (.Assign [.Name y aS] (.ListComp dm [⟨tg,aC,cy,0⟩] sc pos) gz) (Ay i (Bq new src fi gt ft fe)) :=
 B8 (Lz (g:=tG X.K gt) (tt:=tT X.K Xp.no ft) (te:=tF X.K Xp.no fe) N src bh hN kF hy hi hg ht he hS bL hs kU hf) λ_ _ _ s=>RQ (VZ s)
end
noncomputable def orG(g g':Rv->Rv->FS->Out Rv):Rv->Rv->FS->Out Rv:=λx y fs=>match g x y fs with|.bad=>g' x y fs|o=>o
theorem OpF.or(h:OpF K Z r g)(h':OpF K Z r' g'):OpF K Z (orR r r') (orG g g'):=by intro F B H U fs x y u w Q ok rx ry s;unfold orG at s;cases e:g x y fs with|ok a t=>rw[e]at s;exact .inl (h F B H U fs x y u w Q ok rx ry (by rw[e];exact s))|exc c t=>rw[e]at s;exact .inl (h F B H U fs x y u w Q ok rx ry (by rw[e];exact s))|bad=>rw[e]at s;exact .inr (h' F B H U fs x y u w Q ok rx ry s)
noncomputable def orC(g g':List Rv->FS->Out Rv):List Rv->FS->Out Rv:=λx fs=>match g x fs with|.bad=>g' x fs|o=>o
theorem Cw.or(h:Cw K Z r g)(h':Cw K Z r' g'):Cw K Z (Rf r r') (orC g g'):=by intro F B H U fs x u Q ok rx s;unfold orC at s;cases e:g x fs with|ok a t=>rw[e]at s;exact .inl (h F B H U fs x u Q ok rx (by rw[e];exact s))|exc c t=>rw[e]at s;exact .inl (h F B H U fs x u Q ok rx (by rw[e];exact s))|bad=>rw[e]at s;exact .inr (h' F B H U fs x u Q ok rx s)
noncomputable def exL(fs:FS):Rv->Option (List T)
 |.t (.lst ts)=>some ts
 |.n i=>match AE fs i with|some (.lst ts)=>some ts|_=>none
 |_=>none
set_option tactic.hygienic true in
theorem RF(h:Okk K F B H fs U)(r:CW K F H U x u)(e:exL fs x=some ts):∃a vs,u=.ref a/\H a=some (.lst vs)/\Ag K F H ts vs:=by
 unfold exL at e;split at e
 .cases e;obtain⟨a,vs,e,f,s,q⟩:=r;exact⟨a,vs,e,s,q⟩
 .rename_i i;split at e
  .rename_i gX eo;cases e;obtain⟨v,L2,e1,q,_⟩:=h.own eo;have e2:U[i]?=some (some u):=r;rw[e1]at e2;have e3:v=u:=by simpa using e2
   subst e3;obtain⟨a,vs,e,s,q,_⟩:=q;exact⟨a,vs,e,s,q⟩
  .cases e
 .cases e
noncomputable def LP:Rv->Rv->FS->Out Rv:=λx y fs=>match exL fs x,exL fs y with|some ts,some us=>if ts.length+us.length<=big then .ok (.nw (.lst (ts++us))) fs else .bad|_,_=>.bad
noncomputable def NJ:Rv->Rv->FS->Out Rv
 |.t (.tup ts),.t (.tup us),fs=>if ts≠[]/\ts.length+us.length<=big then okT (.tup (ts++us)) fs else .bad
 |_,_,_=>.bad
section
variable{K:Fg}{Z:Xp}
set_option tactic.hygienic true in
theorem Tv:OpF K Z JbI LP:=by
 intro F B H U fs x y u w Q ok rx ry s;unfold LP at s;split at s
 .rename_i ts us e1 e2;split at s
  next hl=>obtain⟨a,vs,rfl,hs,r⟩:=RF ok rx e1;obtain⟨b,ws,rfl,aW,r2⟩:=RF ok ry e2;exact⟨a,b,vs,ws,rfl,rfl,hs,aW,by rw[r.len,r2.len];exact tQ hl De,λp hp=>s F _ (.ref p) (AB ok hp) (RR.alloc ok hp (CM Am ((r.app r2).le (AB ok hp))))⟩
  .exact s.elim
 .exact s.elim
set_option tactic.hygienic true in
theorem Tu:OpF K Z (V7 K) NJ:=by
 intro F B H U fs x y u w Q ok rx ry s;unfold NJ at s;split at s
 .rename_i ts us;split at s
  .rename_i hl;obtain⟨a,vs,rfl,hs,r⟩:=B7 rx rfl;obtain⟨b,ws,rfl,aW,r2⟩:=B7 ry rfl;refine⟨a,b,vs,ws,rfl,rfl,hs,aW,λz=>hl.1 ?_,by rw[r.len,r2.len];exact tQ hl.2 De,λz=>?_,λ_ p hp=>s _ _ (.ref p) (AS ok hp) (Eb ok hp (r.app r2))⟩
   .have:=r.len;rw[z]at this;exact uP this.symm
   .have e:=by have:=r2.len;rw[z]at this;exact uP this.symm
    subst e;rw[ud]at s;exact s F H _ Le.refl (RR.of ok rx)
  .exact s.elim
 .exact s.elim
noncomputable def NI:Rv->Rv->FS->Out Rv
 |.t (.tup []),.t (.tup us),fs=>okT (.tup us) fs
 |_,_,_=>.bad
set_option tactic.hygienic true in
theorem Pm:OpF K Z (Q1 K) NI:=by
 intro F B H U fs x y u w Q ok rx ry s;unfold NI at s;split at s
 next us=>obtain⟨a,vs,rfl,hs,r⟩:=B7 rx rfl;obtain⟨b,ws,rfl,aW,r2⟩:=B7 ry rfl;subst(by simpa using r);exact⟨a,b,ws,rfl,rfl,hs,aW,s F H _ Le.refl (RR.of ok ry)⟩
 .exact s.elim
set_option tactic.hygienic true in
theorem Tt:OpF K Z V6 J3:=by
 intro F B H U fs x y u w Q ok rx ry s;unfold J3 at s;split at s
 .split at s
  .rename_i t e;obtain⟨a,o',rfl,hd,h⟩:=N6 ok rx ry e;rcases h with⟨h1,_⟩|⟨t',v,h1,h2,h3⟩
   .cases h1
   .cases h1;subst h2;exact⟨a,v,rfl,hd,s F H v Le.refl (RR.of ok h3)⟩
  .exact s.elim
 .exact s.elim
set_option tactic.hygienic true in
theorem M4(neg:Bool):OpF K Z (Jad neg) (Uo neg):=by
 intro F B H U fs y x w u Q ok ry rx s;unfold Uo at s;split at s
 .split at s
  .rename_i t e;obtain⟨a,o',rfl,hd,h⟩:=N6 ok rx ry e;refine⟨a,o',rfl,hd,?_⟩;have:o'.isSome=t.isSome:=by
    rcases h with⟨h1,h2⟩|⟨t',v,h1,h2,h3⟩
    .rw[h1,h2];rfl
    .rw[h1,h2];rfl
   rw[this];exact s F H _ Le.refl (RR.of ok rfl)
  .exact s.elim
 .exact s.elim
end
noncomputable def Av:=orG JaZ (orG Qb (orG LP (orG NJ NI)))
noncomputable def Bk:=orG XD Uj
noncomputable def AA:=orG gIx J3
noncomputable def CB(neg:Bool):=orG (Uo neg) (orG (II neg) (gIn neg))
noncomputable def P9:List Rv->FS->Out Rv
 | [.t (.l ks _)],fs=>okT (.int ks.length) fs
 | [.n i],fs=>match AE fs i with|some (.l ks _)=>okT (.int ks.length) fs|_=>.bad
 |_,_=>.bad
noncomputable def AQ:=orC JaV (orC NG P9)
noncomputable def Ca:=orC Uk NF
section
variable{K:Fg}{Z:Xp}
set_option tactic.hygienic true in
theorem U3:Cw K Z (λxs H Q=>∃a ah,xs=[V.ref a]/\Rd H a (.l ah)/\Q (.int ah.length) H) P9:=by
 intro F B H U fs rs vs Q ok q s;unfold P9 at s;split at s
 .obtain⟨v,rfl,qq⟩:=Ba q;have q:=qq;obtain⟨a,ah,rfl,f,hd,rfl,r⟩:=q;rw[tf]at s;exact⟨a,ah,rfl,hd,s F H _ Le.refl (RR.of ok rfl)⟩
 .rename_i i;obtain⟨v,rfl,qq⟩:=Ba q;split at s
  .rename_i eo;obtain⟨v',L2,e1,q2,_⟩:=ok.own eo;have e2:U[i]?=some (some v):=qq;rw[e1]at e2;have e3:=by simpa using e2
   subst e3;obtain⟨a,ah,rfl,hd,rfl,_⟩:=q2;rw[tf]at s;exact⟨a,ah,rfl,.inl hd,s F H _ Le.refl (RR.of ok rfl)⟩
  .exact s.elim
 .exact s.elim
end
section
variable{X:Cx}{Z:Xp}{a b:Expr}{fa fb:FS->Out Rv}{pos:Pos}
theorem Yp(ha:FE X Z a fa)(hb:FE X Z b fb):FE X Z (.BinOp a .Add b pos) (Ae Av fa fb) :=
 IL (OpF.or W6 (OpF.or Tw (OpF.or Tv (OpF.or Tu Pm)))) (OpR.orR WU (OpR.orR LC (OpR.orR WT (OpR.orR Tc Pg)))) ha hb
theorem XZ(ha:FE X Z a fa)(hb:FE X Z b fb):FE X Z (.BinOp a .Sub b pos) (Ae Hy fa fb):=IL WX WM ha hb
theorem X5(ha:FE X Z a fa)(hb:FE X Z b fb):FE X Z (.BinOp a .Mult b pos) (Ae Bk fa fb):=IL (OpF.or W0 Tp) (OpR.orR S9 Im) ha hb
theorem X7(ha:FE X Z a fa)(hb:FE X Z b fb):FE X Z (.BinOp a .Mod b pos) (Ae BZ fa fb):=IL W3 WQ ha hb
theorem Yk(ha:FE X Z a fa)(hb:FE X Z b fb):FE X Z (.BinOp a .FloorDiv b pos) (Ae DI fa fb):=IL W5 Tb ha hb
theorem Ja8(hu:X.A.units+1<cLine)(ha:FE X Z a fa)(hb:FE X Z b fb)(hs:Kj b):FE X Z (.Subscript a b pos) (Ae AA fa fb):=Jbe (OpF.or Jay Tt) (IxR.orR Xo (T5 hu)) ha hb hs
theorem Jbj(ha:FE X Z a fa)(hb:FE X Z b fb):FE X Z (.Compare a [.Eq] [b] pos) (Ae (gEq false) fa fb):=IM of_eq WS ha hb (Ds _)
theorem Jbc(ha:FE X Z a fa)(hb:FE X Z b fb):FE X Z (.Compare a [.NotEq] [b] pos) (Ae (gEq true) fa fb):=IM WZ WO ha hb (Ds _)
theorem Ja6(ha:FE X Z a fa)(hb:FE X Z b fb):FT X Z (.Compare a [.Eq] [b] pos) (asB (Ae (gEq false) fa fb)):=DY of_eq WS ha hb (Ds _)
theorem Ja1(ha:FE X Z a fa)(hb:FE X Z b fb):FT X Z (.Compare a [.NotEq] [b] pos) (asB (Ae (gEq true) fa fb)):=DY WZ WO ha hb (Ds _)
theorem Ja2(ha:FE X Z a fa)(hb:FE X Z b fb):FT X Z (.Compare a [.Lt] [b] pos) (asB (Ae gLt fa fb)):=DY of_lt Jaw ha hb (Ds _)
theorem Ja3(ha:FE X Z a fa)(hb:FE X Z b fb):FT X Z (.Compare a [.LtE] [b] pos) (asB (Ae gLe fa fb)):=DY of_le Ta ha hb (Ds _)
theorem Ja5(ha:FE X Z a fa)(hb:FE X Z b fb):FT X Z (.Compare a [.Gt] [b] pos) (asB (Ae gGt fa fb)):=DY W4 WR ha hb (Ds _)
theorem Jbg(ha:FE X Z a fa)(hb:FE X Z b fb):FE X Z (.Compare a [.Gt] [b] pos) (Ae gGt fa fb):=IM W4 WR ha hb (Ds _)
theorem Jbf(hu:X.A.units+1<cLine)(ha:FE X Z a fa)(hb:FE X Z b fb)(hm:behindInMarks .In b=false:=by rfl):FE X Z (.Compare a [.In] [b] pos) (Ae (CB false) fa fb) :=
 IM (OpF.or (M4 false) (OpF.or KA (Tq false))) (OpR.orR (Rh hu) (OpR.orR Io Ip)) ha hb hm
theorem Ja4(hu:X.A.units+1<cLine)(ha:FE X Z a fa)(hb:FE X Z b fb)(hm:behindInMarks .In b=false:=by rfl):FT X Z (.Compare a [.In] [b] pos) (asB (Ae (CB false) fa fb)) :=
 DY (OpF.or (M4 false) (OpF.or KA (Tq false))) (OpR.orR (Rh hu) (OpR.orR Io Ip)) ha hb hm
theorem Qd(hu:X.A.units+1<cLine)(ha:FE X Z a fa)(hb:FE X Z b fb)(hm:behindInMarks .NotIn b=false:=by rfl):FT X Z (.Compare a [.NotIn] [b] pos) (asB (Ae (CB true) fa fb)) :=
 DY (OpF.or (M4 true) (OpF.or JK (Tq true))) (OpR.orR (MS hu) (OpR.orR Ij Ik)) ha hb hm
end
noncomputable def itU(f:FS->Out Rv):FS->Out (List T):=λfs=>(f fs).bnd λr fs=>match r with|.t (.lst ts)=>.ok ts fs|.t (.zY ts)=>.ok ts fs|.t (.tup ts)=>.ok ts fs|.t (.str z)=>.ok (signs z) fs|_=>.bad
theorem XU(hl:FE X Z l f):FI X Z tg l (itU f):=by
 refine Ig (Wt hl) λU H Q ao => ?_
 obtain⟨F,B,fs,ok,s⟩:= ao;refine⟨F,B,fs,ok,Au s λr ag F1 H1 u l ay rx s1=>?_⟩;split at s1
 next ts=>obtain⟨a,vs,rfl,ff,hs,r⟩:=rx;exact .inl ⟨a,rfl,⟨vs,SqL.of hs⟩,s1 F1 H1 _ Le.refl ⟨ay,KI (λF' H' l=>SqL.of ((l a ff).2.trans hs)) r⟩⟩
 next ts=>obtain⟨a,vs,rfl,hs,r⟩:=rx;exact .inl ⟨a,rfl,⟨vs,hs.sq⟩,s1 F1 H1 _ Le.refl ⟨ay,KI (λF' H' l=>(StL.lf l hs).sq) r⟩⟩
 next ts=>obtain⟨a,vs,rfl,hs,r⟩:=rx;exact .inr (.inl ⟨a,rfl,⟨vs,hs.sq⟩,s1 F1 H1 _ Le.refl ⟨ay,TZ (λF' H' l=>SqT.of ((l a hs.2.1).2.trans hs.2.2)) r⟩⟩)
 next z=>exact .inr (.inr ⟨z,rx,s1 F1 H1 _ Le.refl ⟨ay,T3⟩⟩)
 .exact s1.elim
noncomputable def P6:Rv->Rv->Rv->FS->SO
 |.n i,.t (.int k),.t t,fs=>match AE fs i with
  |some (.lst ts)=>match ixN ts.length k with|some j=>.nx (putAt fs i (.lst (ts.set j t)))|none=>.bad
  |_=>.bad
 |_,_,_,_=>.bad
noncomputable def NC:Rv->Rv->Rv->FS->SO
 |.n i,.t y,.t t,fs=>match AE fs i with
  |some (.l ks ts)=>match EN y with|some k=>if ks.length<big then .nx (putAt fs i (.l (Ec ks ts k t).1 (Ec ks ts k t).2))else .bad|none=>.bad
  |some (.dT ks ts)=>match y with
   |.tup ys=>match Gj ys with|some k=>if ks.length<big then .nx (putAt fs i (.dT (Ec ks ts k t).1 (Ec ks ts k t).2))else .bad|none=>.bad
   |_=>.bad
  |_=>.bad
 |_,_,_,_=>.bad
noncomputable def Ui:Rv->Rv->Rv->FS->SO:=λo i v fs=>match P6 o i v fs with|.bad=>NC o i v fs|s=>s
noncomputable def BW(fv fo fi:FS->Out Rv):FS->SO:=λfs=>SO.of ((fv fs).bnd λv fs=>(fo fs).bnd λo fs=>(fi fs).bnd λi fs=>.ok (v,o,i) fs) λ(v,o,i) fs=>Ui o i v fs
section
variable{K:Fg}{Z:Xp}{B:Nat->Option V}{F:Wd}{H:Hp}{U:St}{fs:FS}{D:Ends}
set_option tactic.hygienic true in
theorem P5(ok:Okk K F B H fs U)(ro:CW K F H U o uo)(ri:CW K F H U i ui)(rv:CW K F H U v uv)(s:GC K Z B F H (P6 o i v fs) D):Sz uo ui uv H (λH3=>D.nx U H3):=by
 unfold P6 at s;split at s
 .rename_i i k t;split at s
  .rename_i ts e;split at s
   next j ej=>obtain⟨a,us,rfl,hs,r,kk⟩:=ok.list ro e;obtain⟨dJ,l⟩:=kk (ts.set j t) (us.set j uv) (Ag.set rv j r);exact⟨a,us,k,j,rfl,ri,hs,by rw[r.len];exact ej,s F _ U l dJ⟩
   .exact s.elim
  .exact s.elim
 .exact s.elim
set_option tactic.hygienic true in
theorem P7(ok:Okk K F B H fs U)(ro:CW K F H U o uo)(ri:CW K F H U i ui)(rv:CW K F H U v uv)(s:GC K Z B F H (NC o i v fs) D):SA uo ui uv H (λH3=>D.nx U H3):=by
 unfold NC at s;split at s
 .rename_i i y t;split at s
  .rename_i ks ts e;split at s
   .rename_i k ek;split at s
    .rename_i hl;obtain⟨v,L2,e1,q,nf,_,kk⟩:=ok.own e;have e2:U[i]?=some (some uo):=ro;rw[e1]at e2;have e3:=by simpa using e2
     subst e3;obtain⟨a,ah,rfl,hs,rfl,q,rfl⟩:=q;have:=Cj ek ri;subst this;refine⟨a,_,rfl,L7.k hs (by rw[tf]at hl;exact uC hl FZ),?_⟩;obtain⟨h1,h2⟩:=ER rv q;have l:Le F H F (upd H a (.l (putK ah k uv))):=⟨λb f=>⟨f,Aj λz=>(nf a (by simp)).1 (z▸f)⟩,λb f=>⟨f,Aj λz=>(nf a (by simp)).2 (z▸f)⟩⟩
     obtain⟨dJ,l'⟩:=kk (.l (Ec (ah.map (·.1)) ts k t).1 (Ec (ah.map (·.1)) ts k t).2) (upd H a (.l (putK ah k uv))) (λb hb _=>Aj (by simpa using hb)) (by exact⟨a,_,rfl,Am,h1,h2.le l,rfl⟩);exact s F _ U l' dJ
    .exact s.elim
   .exact s.elim
  .rename_i ks ts e;split at s
   .rename_i ys;split at s
    .rename_i k ek;split at s
     .rename_i hl;obtain⟨v,L2,e1,q,nf,_,kk⟩:=ok.own e;have e2:U[i]?=some (some uo):=ro;rw[e1]at e2;have e3:v=uo:=by simpa using e2
      subst e3;obtain⟨a,ah,rfl,hs,rfl,q,rfl⟩:=q;obtain⟨b,vs,rfl,hb,rb⟩:=ri;have:=DN ek rb;subst this;refine⟨a,_,rfl,L7.t hs hb.2.2 (by rw[tf]at hl;exact uC hl FZ),?_⟩;obtain⟨h1,h2⟩:=ER rv q;have l:Le F H F (upd H a (.dT (putK ah k uv))):=⟨λb f=>⟨f,Aj λz=>(nf a (by simp)).1 (z▸f)⟩,λb f=>⟨f,Aj λz=>(nf a (by simp)).2 (z▸f)⟩⟩
      obtain⟨dJ,l'⟩:=kk (.dT (Ec (ah.map (·.1)) ts k t).1 (Ec (ah.map (·.1)) ts k t).2) (upd H a (.dT (putK ah k uv))) (λb hb _=>Aj (by simpa using hb)) (by exact⟨a,_,rfl,Am,h1,h2.le l,rfl⟩);exact s F _ U l' dJ
     .exact s.elim
    .exact s.elim
   .exact s.elim
  .exact s.elim
 .exact s.elim
end
theorem PU(hu:X.A.units+1<cLine)(he:FE X Z e fv)(ho:FE X Z o fo)(hi:FE X Z i fi)
  (h:∀{te to ti:TE}{t:YU},PE X e te->PE X o to->PE X i ti->QO X t->PS X (.Assign [.Subscript o i bH] e pos) (VR te (JbO to ti t))):GS X Z (.Assign [.Subscript o i bH] e pos) (BW fv fo fi):=by
 refine B8 (h he ho hi (QO.orR set_list (set_dict hu))) λD U H ao=>?_
 obtain⟨F,B,fs,ok,s⟩:= ao;exact⟨F,B,fs,ok,(by
  have s1:=BR (R:=λF' H' ar (a:Rv×Rv×Rv) (b:V×V×V)=>Okk X.K F' B H' ar U/\CW X.K F' H' U a.1 b.1/\CW X.K F' H' U a.2.1 b.2.1/\CW X.K F' H' U a.2.2 b.2.2) (Q:=λb H3=>WL Sz SA b.2.1 b.2.2 b.1 H3 λH4=>D.nx U H4) s (λa ar F' H' b l q s2=>by
   obtain⟨q1,q2,q3,q4⟩:=q;dsimp only at s2 q2 q3 q4 ⊢;unfold Ui at s2;split at s2
   .exact .inr (P7 q1 q3 q4 q2 s2)
   .exact .inl (P5 q1 q3 q4 q2 s2))
  refine Au s1 λv ag F1 H1 uv l1 ay rv s2=>?_
  refine⟨F1,B,ag,ay,Au s2 λo au F2 H2 uo l2 aN ro s3=>⟨F2,B,au,aN,Au s3 λi bX F3 H3 ui l3 dM ri s4=>?_⟩⟩;exact s4 F3 H3 (uv,uo,ui) Le.refl ⟨dM,(rv.le l2).le l3,ro.le l3,ri⟩)⟩
theorem PX:GS X Z st (λ_=>.bad):=B8 O4 λD U H ⟨F,B,fs,ok,s⟩=>s.elim
section
variable{K:Fg}{B:Nat->Option V}{F F':Wd}{H H':Hp}{U:St}{fs:FS}{i:Nat}{ob:FO}{r:Rv}{u:V}
set_option tactic.hygienic true in
theorem RR.put(h:RR K B U F H fs r u)(e:AE fs i=some ob):∃v L2 L',U[i]?=some (some v)/\AO K F H ob v L2/\L5 K F H U r u L'/\(L2++L').Nodup/\(∀a∈L2++L',¬F a/\¬F.p a) /\
  ∀bN H' M,(∀a,a∉L2->H a≠none->H' a=H a)->AO K F H' bN v M->M.Nodup->(∀b∈M,b∈L2\/b∈L')->Okk K F B H' (putAt fs i bN) U/\Le F H F H':=by
 obtain⟨L,L',h,qr,rh,nH⟩:=h;have key:∀s:Sl,fs[i]?=some (some s)->(s=.own ob\/s=.bor ob)->∃v L2 L',U[i]?=some (some v)/\AO K F H ob v L2/\L5 K F H U r u L'/\(L2++L').Nodup/\(∀a∈L2++L',¬F a/\¬F.p a) /\
  ∀bN H' M,(∀a,a∉L2->H a≠none->H' a=H a)->AO K F H' bN v M->M.Nodup->(∀b∈M,b∈L2\/b∈L')->Okk K F B H' (fs.set i (some (s.put bN))) U/\Le F H F H':=by
  intro s es ho;obtain⟨v,L1,L2,L3,e1,rfl,h1,h2⟩:=h.sl.pick es;obtain⟨u',rfl,q⟩:∃u,v=some u/\AO K F H ob u L2:=by
   rcases ho with rfl|rfl
   .exact h1
   .exact h1
  have nd:=h.nd;have eY:∀a∈L1++L3,a∉L2:=λa ha hb=>by
   rw[sT]at nd;rcases sZ.mp ha with ha|ha
   .exact nd.2.2 a ha a (tm _ hb) rfl
   .have:=(sT.mp nd.2.1).2.2;exact this a hb a ha rfl
  have ig:=sT.mp rh;refine⟨u',L2,L',e1,q,qr,?_,λa m=>?_,λbN H' M k q' hm gn=>?_⟩
  .rw[sT];refine⟨?_,ig.2.1,λa ha b hb=>ig.2.2 a (by simp[ha]) b hb⟩;rw[sT]at nd;exact(sT.mp nd.2.1).1
  .rcases sZ.mp m with m|m
   .exact⟨h.nf a (by simp[m]),h.pl a (by simp[m])⟩
   .exact nH a m
  .have l:Le F H F H':=⟨λa f=>⟨f,k a (λm=>h.nf a (by simp[m]) f) (h.fd a f)⟩,λa f=>⟨f,k a (λm=>h.pl a (by simp[m]) f) (h.pd a f)⟩⟩
   have nC:∀a∈L1++(M++L3),¬F a/\¬F.p a:=λa m=>by
    rcases sZ.mp m with m|m
    .exact⟨h.nf a (by simp[m]),h.pl a (by simp[m])⟩
    .rcases sZ.mp m with m|m
     .rcases gn a m with z|z
      .exact⟨h.nf a (by simp[z]),h.pl a (by simp[z])⟩
      .exact nH a z
     .exact⟨h.nf a (by simp[m]),h.pl a (by simp[m])⟩
   refine⟨⟨L1++(M++L3),?_,BE nd hm (λa m m2=>?_),λa m=>(nC a m).1,λa f=>by rw[(l.f a f).2];exact h.fd a f,?_,λa f=>by rw[(l.p a f).2];exact h.pd a f,h.pf,λa m=>(nC a m).2⟩,l⟩
   .have hL:∀a∈L1++L3,H' a=H a:=λa m=>k a (eY a m) (h.sl.def a (by
      rcases sZ.mp m with m|m
      .simp[m]
      .simp[m]))
    have h3:=h2 F H' (some (s.put bN)) (some u') M l hL (by
     rcases ho with rfl|rfl
     .exact⟨u',rfl,q'⟩
     .exact⟨u',rfl,q'⟩)
    rwa[A8 e1]at h3
   .rcases gn a m with z|z
    .exact eY a m2 z
    .exact(λa ha hb=>ig.2.2 a (by
   rcases sZ.mp ha with ha|ha
   .simp[ha]
   .simp[ha]) a hb rfl) a m2 z
   .have:=Ew.put (s:=some (s.put bN)) h.bo (λo eo=>by
     rcases ho with rfl|rfl
     .cases eo
     .obtain⟨w,e3,e4⟩:=h.bo i ob es;rw[e1]at e3;have e5:u'=w:=by simpa using e3
      exact⟨u',rfl,by rwa[e5]⟩) h.sl.len
    rwa[A8 e1]at this
 unfold AE at e;split at e
 next o es=>cases e;obtain⟨v,L2,L',a1,a2,a3,a4,a5,a6⟩:=key _ es (.inl rfl);refine⟨v,L2,L',a1,a2,a3,a4,a5,λbN H' M k q m1 m2=>?_⟩;have:=a6 bN H' M k q m1 m2;unfold putAt;rwa[es]
 next o es=>cases e;obtain⟨v,L2,L',a1,a2,a3,a4,a5,a6⟩:=key _ es (.inr rfl);refine⟨v,L2,L',a1,a2,a3,a4,a5,λbN H' M k q m1 m2=>?_⟩;have:=a6 bN H' M k q m1 m2;unfold putAt;rwa[es]
 .cases e
end
noncomputable def Jbx:Rv->Option FO
 |.t t=>some (.val t)
 |.nw o=>some o
 |.n _=>none
noncomputable def Ia:List Str->List FO->Str->FO->Option (List Str×List FO)
 | [],[],f,o=>some ([f],[o])
 |g::gs,x::os,f,o=>if g=f then(match x with|.val _=>some (g::gs,o::os)|_=>none)else(Ia gs os f o).map λp=>(g::p.1,x::p.2)
 |_,_,_,_=>none
theorem HZ(ro:AO K F H o y L'):∀{ah:List (Str×V)}{os eN:List FO}{jD:List Str}{L:List Addr},Aw K F H os (ah.map (·.2)) L->Ia (ah.map (·.1)) os f o=some (jD,eN) ->
  ∃M,(ES f y ah).map (·.1)=jD/\Aw K F H eN ((ES f y ah).map (·.2)) M/\(∀a∈M,a∈L\/a∈L')/\((L++L').Nodup->M.Nodup)
 | [],os,eN,jD,L,r,e=>by cases os with|cons x os=>simp[Ia]at e|nil =>obtain⟨rfl,rfl⟩:=e;refine⟨L',rfl,?_,λa m=>.inr m,λnd=>(sT.mp nd).2.1⟩;exact⟨y,[],L',[],rfl,ro,⟨rfl,rfl⟩,by simp⟩
 |(g,x)::ah,os,eN,jD,L,r,e=>by
  cases os with
  |nil=>simp[Ia]at e
  |cons o1 os =>
   obtain⟨v,w,L1,L2,ee,r1,r2,rfl⟩:=r;cases ee;simp only[sX,Ia]at e;by_cases hg:g=f
   .rw[if_pos hg]at e;cases o1 with
    |val t =>
     obtain⟨rfl,rfl⟩:=e;obtain⟨rfl,_⟩:=r1;refine⟨L'++L2,?_,?_,λa m=>?_,λnd=>?_⟩
     .simp only[ES];rw[if_pos hg];rfl
     .simp only[ES];rw[if_pos hg];exact⟨y,_,L',L2,rfl,ro,r2,rfl⟩
     .rcases sZ.mp m with m|m
      .exact .inr m
      .exact .inl (by simpa using m)
     .rw[vm]at nd;exact(List.perm_append_comm).nodup_iff.mp nd
    |lst _=>cases e
    |l _ _=>cases e
    |dT _ _=>cases e
    |ins _ _ _=>cases e
    |zb _=>cases e
    |y0 _=>cases e
    |dO _ _=>cases e
    |la _ _=>cases e
   .rw[if_neg hg,tu]at e;obtain⟨p,ep,e⟩:=e;obtain⟨rfl,rfl⟩:=e;obtain⟨M,m1,m2,m3,m4⟩:=HZ ro r2 (by rw[ep]);refine⟨L1++M,?_,?_,λa m=>?_,λnd=>?_⟩
    .simp only[ES];rw[if_neg hg,sX,m1]
    .simp only[ES];rw[if_neg hg];exact⟨x,_,L1,M,rfl,r1,m2,rfl⟩
    .rcases sZ.mp m with m|m
     .exact .inl (tm _ m)
     .rcases m3 a m with z|z
      .exact .inl (tB _ z)
      .exact .inr z
    .rw[ub,sT]at nd;rw[sT];refine⟨nd.1,m4 nd.2.1,λa ha b hb e=>?_⟩;rcases m3 b hb with z|z
     .exact nd.2.2 a ha b (tm _ z) e
     .exact nd.2.2 a ha b (tB _ z) e
noncomputable def IK(C:Addr)(f:Str)(i:Nat)(fv:FS->Out Rv):FS->SO:=λfs=>SO.of (fv fs) λr fs=>match Jbx r,AE fs i with|some o,some (.ins C' gs os)=>if C'=C/\gs.length<900 then(match Ia gs os f o with|some p=>.nx (putAt fs i (.ins C p.1 p.2))|none=>.bad)else .bad|_,_=>.bad
set_option tactic.hygienic true in
theorem Xy(c:Cls X.K C)(n:Be X.K C f)(i:Nat)(he:FE X Z e fv)
  (h:∀{tv:TE},PE X e tv->PS X (.Assign [.Attribute (.Name x p1) f p2] e pos) (JbE X.K (Ow i) tv f)):GS X Z (.Assign [.Attribute (.Name x p1) f p2] e pos) (IK C f i fv):=by
 refine B8 (h he) λD U H ao => ?_
 obtain⟨F,B,fs,ok,s⟩:= ao;refine⟨F,B,fs,ok,BR s λr ag F1 H1 u l q s1=>?_⟩;split at s1
 .rename_i o C' gs os e1 e2;split at s1
  .rename_i hC;obtain⟨rfl,hl⟩:=hC;split at s1
   .rename_i p ep;obtain⟨v,L2,L',a1,a2,a3,a4,a5,a6⟩:=RR.put q e2;obtain⟨a,dx,ah,L3,rfl,hd,rfl,ro,rfl⟩:=a2;have rF:AO X.K F1 H1 o u L':=by cases r with|t t =>cases e1;exact a3|nw o'=>cases e1;exact a3|n j=>cases e1
    obtain⟨M,m1,m2,m3,m4⟩:=HZ rF ro (by rw[ep]);have nt:a∉M:=λz=>((uc.mp a4).1) (by
     rcases m3 a z with z|z
     .exact tm _ z
     .exact tB _ z)
    have l1:Le F1 H1 F1 (upd H1 a (.ins C' dx (ES f u ah))):=⟨λb f=>⟨f,Aj λz=>(a5 a (by simp)).1 (z▸f)⟩,λb f=>⟨f,Aj λz=>(a5 a (by simp)).2 (z▸f)⟩⟩
    obtain⟨dJ,l'⟩:=a6 (.ins C' p.1 p.2) (upd H1 a (.ins C' dx (ES f u ah))) (a::M) (λb hb _=>Aj λz=>hb (by rw[z];simp)) (by
     exact⟨a,dx,_,M,rfl,Am,m1,Aw.le l1 (λb hb=>Aj λz=>nt (z▸hb)) m2,rfl⟩) (uc.mpr ⟨nt,m4 ((uc.mp a4).2)⟩) (λb hb=>by
     rcases tH.mp hb with z|z
     .exact .inl (by rw[z];simp)
     .rcases m3 b z with z|z
      .exact .inl (sW _ z)
      .exact .inr z)
    exact⟨_,a1,a,C',dx,ah,rfl,hd,c,n,by rw[tf]at hl;lia,s1 F1 _ U l' dJ⟩
   .exact s1.elim
  .exact s1.elim
 .exact s1.elim
noncomputable def B6:List Str->List FO->Str->FO->List FO
 |g::gs,x::os,f,o=>if f==g then o::os else x::B6 gs os f o
 |_,os,_,_=>os
theorem HV:∀{ah:List (Str×V)}{os:List FO}{L:List Addr},Aw K F H os (ah.map (·.2)) L->L.Nodup->BB (ah.map (·.1)) os f=some (.l ks ts) ->
  ∃b aH,ah.lookup f=some (.ref b)/\b∈L/\H b=some (.l aH)/\aH.map (·.1)=ks/\Ag K F H ts (aH.map (·.2)) /\
   ∀H' o',(∀a∈L,a≠b->H' a=H a)->Le F H F H'->AO K F H' o' (.ref b) [b]->Aw K F H' (B6 (ah.map (·.1)) os f o') (ah.map (·.2)) L
 | [],os,L,r,nd,e=>by cases os<;>simp[BB]at e
 |(g,x)::ah,os,L,r,nd,e=>by cases os with|nil=>simp[BB]at e|cons o1 os =>obtain⟨v,w,L1,L2,ee,r1,r2,rfl⟩:=r;cases ee;simp only[sX,BB]at e;rw[ug];have ic:=sT.mp nd;cases hb:f==g with|true =>rw[hb]at e;cases e;obtain⟨b,aH,rfl,hd,rfl,rt,rfl⟩:=r1;refine⟨b,aH,rfl,by simp,hd,rfl,rt,λH' o' k l ro=>?_⟩;simp only[sX,B6,hb,Aw];refine⟨.ref b,_,[b],L2,rfl,ro,Aw.le l (λa m=>k a (by simp[m]) λz=>ic.2.2 b (by simp) a m z.symm) r2,rfl⟩|false =>rw[hb]at e;obtain⟨b,aH,h1,h2,h3,h4,h5,h6⟩:=HV r2 ic.2.1 (by simpa using e);refine⟨b,aH,h1,tB _ h2,h3,h4,h5,λH' o' k l ro=>?_⟩;have:=h6 H' o' (λa m=>k a (tB _ m)) l ro;simp only[sX,B6,hb];exact⟨x,_,L1,L2,rfl,r1.le l λa m=>k a (tm _ m) λz=>ic.2.2 a m b h2 z,this,rfl⟩
noncomputable def C9(C:Addr)(f:Str)(i j:Nat)(fv:FS->Out Rv):FS->SO:=λfs=>SO.of (fv fs) λr fs=>match r,AE fs i,fs[j]? with|.t t,some (.ins C' gs os),some (some (.val y))=>if C'=C then(match BB gs os f,EN y with|some (.l ks ts),some k=>if ks.length<big then .nx (putAt fs i (.ins C gs (B6 gs os f (.l (Ec ks ts k t).1 (Ec ks ts k t).2))))else .bad|_,_=>.bad)else .bad|_,_,_=>.bad
set_option tactic.hygienic true in
theorem PZ(c:Cls X.K C)(n:Be X.K C f)(i j:Nat)(he:FE X Z e fv)
  (h:∀{tv:TE},PE X e tv->PS X (.Assign [.Subscript (.Attribute (.Name x p1) f p2) (.Name y p3) p4] e pos) (V2 (JbC X.K (Ow i) f) (Ow j) tv)) :
  GS X Z (.Assign [.Subscript (.Attribute (.Name x p1) f p2) (.Name y p3) p4] e pos) (C9 C f i j fv):=by
 refine B8 (h he) λD U H ao => ?_
 obtain⟨F,B,fs,ok,s⟩:= ao;refine⟨F,B,fs,ok,BR s λr ag F1 H1 u l q s1=>?_⟩;split at s1
 .rename_i t C' gs os y' e2 e3;split at s1
  .rename_i hC;subst hC;split at s1
   .rename_i ks ts k e4 e5;split at s1
    .rename_i hl;have ay:=q.ok;obtain⟨v,L2,a1,a2,a3,a4,a5⟩:=ay.own e2;obtain⟨a,dx,ah,L3,rfl,hd,rfl,ro,rfl⟩:=a2;have nB:=uc.mp a4;obtain⟨b,aH,b1,b2,b3,rfl,b5,b6⟩:=HV ro nB.2 e4;obtain⟨L9,o9⟩:=id ay;obtain⟨w,M1,M2,M3,e6,_,h1,_⟩:=o9.sl.pick e3;obtain⟨uy,rfl,ry,_⟩:=h1;have:=Cj e5 ry;subst this;have iP:a≠b:=λz=>nB.1 (z▸b2)
     obtain⟨h1,h2⟩:=ER (by obtain⟨_,_,_,⟨_,q⟩,_⟩:=q;exact q) b5;have nb:=a3 b (sW _ b2);have l1:Le F1 H1 F1 (upd H1 b (.l (putK aH k u))):=⟨λz f=>⟨f,Aj λq=>nb.1 (q▸f)⟩,λz f=>⟨f,Aj λq=>nb.2 (q▸f)⟩⟩
     obtain⟨dJ,l'⟩:=a5 (.ins C' (ah.map (·.1)) (B6 (ah.map (·.1)) os f (.l (Ec (aH.map (·.1)) ts k t).1 (Ec (aH.map (·.1)) ts k t).2))) (upd H1 b (.l (putK aH k u))) (λz hz _=>Aj λq=>hz (by rw[q];exact sW _ b2)) (by refine⟨a,dx,ah,L3,rfl,by rw[Aj iP];exact hd,rfl,b6 _ _ (λz _ hz=>Aj hz) l1 ?_,rfl⟩;exact⟨b,_,rfl,Am,h1,h2.le l1,rfl⟩);exact⟨_,a1,a,C',dx,ah,.ref b,rfl,hd,c,n,b1,kV k,e6,b,_,rfl,L7.k b3 (by rw[tf]at hl;exact uC hl FZ),s1 F1 _ U l' dJ⟩
    .exact s1.elim
   .exact s1.elim
  .exact s1.elim
 .exact s1.elim
section
variable{X:Cx}{Z:Xp}{e:Expr}{es:List Expr}{fa:FS->Out (List Rv)}{pos p:Pos}
theorem Ya(hm:X.mg "len"=none)(ha:FA X Z (e::es) fa)(hg:Gl X "len":=by rfl)(he:starEach (e::es) X.env=(false,eval e X.env)::starEach es X.env:=by rfl)(aI:(backTo pos (starEach es X.env)).any (·.1)=false:=by rfl) :
  FE X Z (.Call (.Name "len" p) (e::es) [] pos) (Ad AQ fa):=EV (Cw.or YI (Cw.or U2 U3)) (BU.orR Jb (BU.orR Ja LU)) hm PySem.boot_len ha hg (by decide) (by decide) he aI
theorem XY(hm:X.mg "sum"=none)(ha:FA X Z (e::es) fa)(hc:X.calm=true:=by rfl)(hg:Gl X "sum":=by rfl)(he:starEach (e::es) X.env=(false,eval e X.env)::starEach es X.env:=by rfl)(aI:(backTo pos (starEach es X.env)).any (·.1)=false:=by rfl) :
  FE X Z (.Call (.Name "sum" p) (e::es) [] pos) (Ad Y1 fa):=EV YH (QE hc) hm boot_sum ha hg (by decide) (by decide) he aI
theorem Yo(hm:X.mg "all"=none)(ha:FA X Z (e::es) fa)(hc:X.calm=true:=by rfl)(hg:Gl X "all":=by rfl)(he:starEach (e::es) X.env=(false,eval e X.env)::starEach es X.env:=by rfl)(aI:(backTo pos (starEach es X.env)).any (·.1)=false:=by rfl) :
  FE X Z (.Call (.Name "all" p) (e::es) [] pos) (Ad XH fa):=EV YK (QG hc) hm boot_all ha hg (by decide) (by decide) he aI
theorem UD(hm:X.mg "list"=none)(ha:FA X Z (e::es) fa)(hc:X.calm=true:=by rfl)(hg:Gl X "list":=by rfl)(he:starEach (e::es) X.env=(false,eval e X.env)::starEach es X.env:=by rfl)(aI:(backTo pos (starEach es X.env)).any (·.1)=false:=by rfl) :
  FE X Z (.Call (.Name "list" p) (e::es) [] pos) (Ad Ca fa):=C7 (Cw.or U1 QB) (BU.orR I0 (FU hc)) hm boot_list ha hg (by decide) (by decide) he aI
theorem Qg(hm:X.mg "tuple"=none)(ha:FA X Z (e::es) fa)(hg:Gl X "tuple":=by rfl)(he:starEach (e::es) X.env=(false,eval e X.env)::starEach es X.env:=by rfl)(aI:(backTo pos (starEach es X.env)).any (·.1)=false:=by rfl) :
  FE X Z (.Call (.Name "tuple" p) (e::es) [] pos) (Ad Bd fa):=C7 QA HF hm boot_tuple ha hg (by decide) (by decide) he aI
theorem UE(hm:X.mg "int"=none)(ha:FA X Z (e::es) fa)(hg:Gl X "int":=by rfl)(he:starEach (e::es) X.env=(false,eval e X.env)::starEach es X.env:=by rfl)(aI:(backTo pos (starEach es X.env)).any (·.1)=false:=by rfl) :
  FE X Z (.Call (.Name "int" p) (e::es) [] pos) (Ad El fa):=C7 U4 Oe hm boot_int ha hg (by decide) (by decide) he aI
end
noncomputable def JZ:=gI λi j fs=>if 0<=j/\j<=1000000/\i.natAbs<2^64 then okT (.int (i^j.toNat)) fs else .bad
theorem WY{K:Fg}{Z:Xp}:OpF K Z (rI JbW λi j=>.int (i^j.toNat)) JZ:=MR (t:=λi j=>.int (i^j.toNat)) (λ_ _ _ _ _=>rfl) λi j fs=>by
 by_cases h:0<=j/\j<=1000000/\i.natAbs<2^64
 .exact .inr ⟨h,if_pos h⟩
 .exact .inl (if_neg h)
theorem X2{X:Cx}{Z:Xp}{a b:Expr}{fa fb:FS->Out Rv}{pos:Pos}(ha:FE X Z a fa)(hb:FE X Z b fb):FE X Z (.BinOp a .Pow b pos) (Ae JZ fa fb):=IL WY WN ha hb
def RP(K:Fg)(B:Nat->Option V)(U:St):Wd->Hp->FS->Option Int->Option Int->Prop:=λF H fs a b=>Okk K F B H fs U/\b=a
inductive tP(K:Fg)(Z:Xp)(f:FS->Out (Option Int))(U:St)(H:Hp)(Q:Option Int->Hp->Prop):Prop
 |mk (F:Wd) (B:Nat->Option V) (fs:FS) (h0:Okk K F B H fs U) (h1:sat Z B (RP K B U) F H (f fs) Q)
def FP(X:Cx)(Z:Xp)(e:Option Expr)(f:FS->Out (Option Int)):Prop:=PO X e (tP X.K Z f)
theorem Q8(h:PO X e t)(i:∀U H Q,t' U H Q->t U H Q):PO X e t':=λaa s U H Q I q=>h aa s U H Q I (i _ _ _ q)
noncomputable def noP:FS->Out (Option Int):=λfs=>.ok none fs
noncomputable def B5(f:FS->Out Rv):FS->Out (Option Int):=λfs=>(f fs).bnd λr fs=>match r with|.t (.int i)=>.ok (some i) fs|_=>.bad
noncomputable def K0(ts:List T)(lo hi:Option Int):List T:=(ts.drop (HT.sIx ts.length 0 lo)).take (HT.sIx ts.length ts.length hi-HT.sIx ts.length 0 lo)
theorem KZ(r:Ag K F H ts vs):Ag K F H (K0 ts lo hi) (UX vs lo hi):=by unfold K0 UX;rw[r.len];exact(r.drop _).take _
noncomputable def Jn:Rv->Option Int->Option Int->FS->Out Rv:=λx lo hi fs=>match DG fs x with|some ts=>okT (.lst (K0 ts lo hi)) fs|none=>match x with|.t (.tup ts)=>okT (.tup (K0 ts lo hi)) fs|_=>.bad
noncomputable def slF(f:FS->Out Rv)(l h:FS->Out (Option Int)):FS->Out Rv:=λfs=>(f fs).bnd λx fs=>(l fs).bind λlo fs=>(h fs).bind λhi fs=>Jn x lo hi fs
section
variable{X:Cx}{Z:Xp}{e:Expr}{lo hi:Option Expr}{f:FS->Out Rv}{l h:FS->Out (Option Int)}{pos p2:Pos}
theorem Uu:FP X Z none noP:=Q8 SU λU H Q ⟨F,B,fs,ok,s⟩=>s F H none Le.refl ⟨ok,rfl⟩
theorem Ut(he:FE X Z e f):FP X Z (some e) (B5 f):=by
 refine Q8 (SS he) λU H Q ao => ?_
 obtain⟨F,B,fs,ok,s⟩:= ao;refine⟨F,B,fs,ok,Au s λr ag F1 H1 u l ay rx s1=>?_⟩;split at s1
 .exact⟨_,rx,s1 F1 H1 _ Le.refl ⟨ay,rfl⟩⟩
 .exact s1.elim
set_option tactic.hygienic true in
theorem Ja9(he:FE X Z e f)(hl:FP X Z lo l)(hu:FP X Z hi h):FE X Z (.Subscript e (.Slice lo hi none p2) pos) (slF f l h):=by
 refine AG (Ku (SlR.or Ss (SlR.or VU VY)) he hl hu) λU H Q ao => ?_
 obtain⟨F,B,fs,ok,s⟩:= ao;refine⟨F,B,fs,ok,Au s λx ag F1 H1 u l1 ay rx s1=>⟨F1,B,ag,ay,As s1 λlo au F2 H2 k9 l2 q2 s2=>?_⟩⟩;obtain⟨aN,rfl⟩:=q2;refine⟨F2,B,au,aN,As s2 λhi bX F3 H3 eD l3 q3 s3=>?_⟩;obtain⟨dM,rfl⟩:=q3;have j3:=(rx.le l2).le l3;unfold Jn at s3;split at s3
 next ts e=>obtain⟨a,vs,rfl,hs,r⟩:=Br dM j3 e;exact .inl ⟨a,vs,rfl,hs,λp hp=>s3 _ _ (.ref p) (AS dM hp) (Lx dM hp (KZ r))⟩
 .split at s3
  .rename_i ts _;obtain⟨a,vs,rfl,hs,r⟩:=B7 j3 rfl;by_cases hw:HT.sIx ts.length 0 k9=0/\HT.sIx ts.length ts.length eD=ts.length
   .refine .inr (.inr ⟨a,vs,rfl,hs,by rw[r.len];exact hw,s3 F3 H3 _ Le.refl (RR.of dM ?_)⟩);have e:K0 ts k9 eD=ts:=by unfold K0;rw[hw.1,hw.2];simp
    rwa[e]
   .exact .inr (.inl ⟨a,vs,rfl,hs,by rw[r.len];exact hw,λp hp=>s3 _ _ (.ref p) (AS dM hp) (Eb dM hp (KZ r))⟩)
  .exact s3.elim
end
noncomputable def Jl:T->Option (List T)
 |.lst ts=>some ts
 |.zY ts=>some ts
 |.tup ts=>some ts
 |_=>none
noncomputable def pairs:List T->List T->List T
 |x::xs,y::ys=>.tup [x,y]::pairs xs ys
 |_,_=>[]
theorem pairs_at:∀{xs ys:List T}{i:Nat}{t:T},(pairs xs ys)[i]?=some t->∃x y,xs[i]?=some x/\ys[i]?=some y/\t=.tup [x,y]
 | [],_,i,t,h=>by simp[pairs]at h
 |_::_,[],i,t,h=>by simp[pairs]at h
 |x::xs,y::ys,0,t,h=>by simp only[pairs,va,Option.some.injEq]at h;exact⟨x,y,rfl,rfl,h.symm⟩
 |x::xs,y::ys,i+1,t,h=>by simp only[pairs]at h;simpa using pairs_at h
theorem pairs_len:∀{xs ys:List T}{i:Nat},(pairs xs ys).length<=i->xs.length<=i\/ys.length<=i
 | [],_,i,h=>.inl (by simp)
 |_::_,[],i,h=>.inr (by simp)
 |x::xs,y::ys,0,h=>by simp[pairs]at h
 |x::xs,y::ys,i+1,h=>by simp only[pairs,tV,Nat.add_le_add_iff_right]at h;simpa using pairs_len h
theorem E8(r:AF K F H t u)(e:Jl t=some ts):∃b a vs,u=.ref a/\Ag K F H ts vs/\∀(F':Wd)(H':Hp),(∀a,F a->F' a/\H' a=H a)->SqB b K H' a vs:=by
 unfold Jl at e;split at e
 .cases e;obtain⟨a,vs,rfl,f,hs,r⟩:=r;exact⟨false,a,vs,rfl,r,λF' H' l=>SqL.of ((l a f).2.trans hs)⟩
 .cases e;obtain⟨a,vs,rfl,hs,r⟩:=r;exact⟨false,a,vs,rfl,r,λF' H' l=>(StL.lf l hs).sq⟩
 .cases e;obtain⟨a,vs,rfl,hs,r⟩:=r;exact⟨true,a,vs,rfl,r,λF' H' l=>SqT.of ((l a hs.2.1).2.trans hs.2.2)⟩
 .cases e
noncomputable def itZ(f g:FS->Out Rv):FS->Out (List T):=λfs=>(f fs).bnd λr fs=>(g fs).bnd λr' fs=>match r,r' with
 |.t x,.t y=>match Jl x,Jl y with|some xs,some ys=>.ok (pairs xs ys) fs|_,_=>.bad
 |_,_=>.bad
theorem TY(h1:∀(F':Wd)(H':Hp),(∀a,F a->F' a/\H' a=H a)->SqB b1 K H' a1 vs)(h2:∀(F':Wd)(H':Hp),(∀a,F a->F' a/\H' a=H a)->SqB b2 K H' a2 ws)
  (r1:Ag K F H xs vs) (r2:Ag K F H ys ws):JOk K F H (Itz K b1 a1 b2 a2) (pairs xs ys):=by
 intro F' H' l ⟨B,fs,U,ok⟩ i;refine⟨λt et=>?_,λhl=>⟨vs,ws,h1 F' H' l,h2 F' H' l,by rw[r1.len,r2.len];exact pairs_len hl⟩⟩;obtain⟨x,y,ex,ey,rfl⟩:=pairs_at et;obtain⟨v,ev,rv⟩:=(Ag.lf l r1).at ex;obtain⟨w,ew,dk⟩:=(Ag.lf l r2).at ey;refine⟨⟨vs,ws,v,w,h1 F' H' l,h2 F' H' l,ev,ew⟩,λz fG hy=>?_⟩;obtain⟨T,vx,vy,hn,rfl,rfl,g1,g2⟩:=hy;have e1:=g1 vs (h1 F' H' l);have e2:=g2 ws (h2 F' H' l);rw[ev]at e1;rw[ew]at e2;cases e1;cases e2;refine⟨Oy F' T,⟨AS ok hn,λB fs U k=>k.alloc hn⟩,?_⟩;exact⟨T,[v,w],rfl,⟨rfl,.inr rfl,Am⟩,by exact⟨v,[w],rfl,rv.le (AS ok hn),w,[],rfl,dk.le (AS ok hn),rfl⟩⟩
set_option tactic.hygienic true in
theorem XT(hm:X.mg "zip"=none)(ha:FE X Z a fa)(hb:FE X Z b fb)(hg:Gl X "zip":=by rfl)
  (hs:starEach [a,b] X.env=[(false,eval a X.env),(false,eval b X.env)]:=by rfl) (aW:starEach [b] X.env=[(false,eval b X.env)]:=by rfl):FI X Z (.Tuple bx k0 bH) (.Call (.Name "zip" p) [a,b] [] pos) (itZ fa fb):=by
 refine Ig (Ws hg hm (B9 ha (B9 hb Fb aW) (by rw[hs,aW])) hs aW) λU H Q ao=>?_
 obtain⟨F,B,fs,ok,s⟩:= ao;refine⟨F,B,fs,ok,Au s λr ag F1 H1 u l1 ay rx s1=>⟨F1,B,ag,ay,Au s1 λr' au F2 H2 u' l2 aN ry s2=>?_⟩⟩;split at s2
 .rename_i x y;split at s2
  next xs ys e1 e2=>obtain⟨b1,a1,vs,rfl,q1,h1⟩:=E8 (AF.le l2 rx) e1;obtain⟨b2,a2,ws,rfl,q2,h2⟩:=E8 ry e2;exact⟨b1,a1,b2,a2,rfl,⟨vs,h1 F2 H2 λ_ f=>⟨f,rfl⟩⟩,⟨ws,h2 F2 H2 λ_ f=>⟨f,rfl⟩⟩,s2 F2 H2 _ Le.refl ⟨aN,TY h1 h2 q1 q2⟩⟩
  .exact s2.elim
 .exact s2.elim
noncomputable def tyT:T->Option String
 |.o=>some "NoneType"
 |.v _=>some "bool"
 |.int _=>some "int"
 |.str _=>some "str"
 |.tup _=>some "tuple"
 |.lst _=>some "list"
 |.dT _ _=>some "dict"
 |_=>none
noncomputable def Ju:List String:=["NoneType","bool","int","str","tuple","list","dict"]
noncomputable def VS(t T:String):Bool:=t==T||(t == "bool"&&T == "int")
def Kit(K:Fg)(T:String):Prop:=∀t,t∈Ju->kitOne K (.type t) (.type T)=some (VS t T)
theorem VI{K:Fg}{F:Wd}{H:Hp}{t:T}{u:V}{n:String}(r:AF K F H t u)(e:tyT t=some n):Ll K H u (.type n)/\n∈Ju:=by
 cases t<;>simp only[tyT,Option.some.injEq,reduceCtorEq]at e<;>(try subst e)<;>(try simp only[AF]at r)
 .subst r;exact⟨.o,by decide⟩
 .subst r;exact⟨.v _,by decide⟩
 .subst r;exact⟨.int _,by decide⟩
 .subst r;exact⟨.str _,by decide⟩
 .obtain⟨a,vs,rfl,hs,_⟩:=r;exact⟨.tup hs.2.2,by decide⟩
 .obtain⟨a,vs,rfl,f,hs,_⟩:=r;exact⟨.lst hs,by decide⟩
 .obtain⟨a,ah,rfl,f,hs,_⟩:=r;exact⟨.dT hs,by decide⟩
noncomputable def isF(T:String)(f:FS->Out Rv):FS->Out Rv:=λfs=>(f fs).bnd λr fs=>match r with
 |.t t=>match tyT t with|some n=>.ok (.t (.v (VS n T))) fs|none=>.bad
 |_=>.bad
set_option tactic.hygienic true in
theorem NR{X:Cx}{Z:Xp}{a:Expr}{f:FS->Out Rv}{p p2 pos:Pos}{x:Str}{T:String}(k:Kit X.K T)(hb:bootBuiltins x=some (.type T))(hm:X.mg "isinstance"=none)(eE:X.mg x=none)(ha:FE X Z a f)(hg:Gl X "isinstance":=by rfl)(gi:Gl X x:=by rfl)
  (hn:x≠"__name__":=by decide) (aR:(x==("__debug__":Str))=false:=by decide)
  (hs:starEach [a,.Name x p2] X.env=(false,eval a X.env)::starEach [.Name x p2] X.env:=by rfl) (aW:starEach [.Name x p2] X.env=[(false,eval (.Name x p2) X.env)]:=by rfl) (aI:(backTo pos (starEach [.Name x p2] X.env)).any (·.1)=false:=by rfl) :
  FE X Z (.Call (.Name "isinstance" p) [a,.Name x p2] [] pos) (isF T f):=by
 refine AG (ET (Kb T) hg hm boot_isinstance (B9 ha (B9 (MQ (v:=.ty T) gi eE hb rfl hn aR) Fb aW) hs) (by decide) (by decide) hs aI) λU H Q ao=>?_
 obtain⟨F,B,fs,ok,s⟩:= ao;refine⟨F,B,fs,ok,Au s λr ag F1 H1 u l1 ay rx s1=>?_⟩;split at s1
 .rename_i t;split at s1
  next n e=>obtain⟨ty,mem⟩:=VI rx e;exact⟨u,_,_,rfl,ty,k n mem,s1 F1 H1 _ Le.refl (RR.of ay rfl)⟩
  .exact s1.elim
 .exact s1.elim
section
variable{K:Fg}
theorem TV:Kit K "str":=λt h=>by simp only[Ju,tH,ue,or_false]at h;rcases h with rfl|rfl|rfl|rfl|rfl|rfl|rfl<;>rfl
end
noncomputable def E4:T->Option (List T)
 |.tup ts=>some ts
 |_=>none
theorem OL(e:E4 t=some ts):t=.tup ts:=by cases t<;>first|(cases e;rfl)|cases e
noncomputable def Qq(f:T->T->Option Bool):List T->List T->Option Bool
 |x::xs,y::ys=>(f x y).bind λb=>(Qq f xs ys).map (b&&·)
 |_,_=>some true
noncomputable def eqT:Nat->T->T->Option Bool
 |0,x,y=>(plV x).bind λu=>(plV y).map (eqV u)
 |n+1,x,y=>match E4 x with
  |some xs=>match E4 y with|some ys=>(Qq (eqT n) xs ys).map (·&&xs.length==ys.length)|none=>(plV y).map λ_=>false
  |none=>match E4 y with
   |some _=>(plV x).map λ_=>false
   |none=>(plV x).bind λu=>(plV y).map (eqV u)
noncomputable def eAt(f:T->T->Option Bool)(xs ys:List T)(j:Nat):Bool:=(f (xs.getD j .o) (ys.getD j .o)).getD false
theorem HC:∀{xs ys:List T}{b:Bool},Qq f xs ys=some b->b=(List.range (min xs.length ys.length)).all (eAt f xs ys)
 | [],_,_,e=>by cases e;simp
 |_::_,[],_,e=>by cases e;simp
 |x::xs,y::ys,b,e=>by
  simp only[Qq,tX,tu]at e;obtain⟨c,e1,d,e2,rfl⟩:=e;rw[tV,tV,Nat.succ_min_succ,List.range_succ_eq_map,vH,List.all_map,(HC e2)];have h0:eAt f (x::xs) (y::ys) 0=c:=by simp[eAt,e1]
  rw[h0];congr 1
theorem J7:∀{xs ys:List T}{b:Bool},Qq f xs ys=some b->∀(j:Nat)(x y:T),xs[j]?=some x->ys[j]?=some y->f x y=some (eAt f xs ys j)
 | [],_,_,e=>by intro j x y h;simp at h
 |_::_,[],_,e=>by intro j x y _ h;simp at h
 |x::xs,y::ys,b,e=>by simp only[Qq,tX,tu]at e;obtain⟨c,e1,d,e2,rfl⟩:=e;intro j x' y' h1 h2;cases j with|zero =>simp only[va,Option.some.injEq]at h1 h2;subst h1 h2;simp[eAt,e1]|succ j =>have:=J7 e2 _ _ _ h1 h2;rw[this];simp[eAt]
theorem Qp(h:En v=true):eqV v v=true:=by cases v<;>first|rfl|(simp[eqV];done)|(simp[En]at h)
theorem Ra(rx:AF K F H x v)(ry:AF K F H y v)(e:((plV x).bind λu=>(plV y).map (eqV u))=some b):b=true:=by simp only[tX,tu]at e;obtain⟨u,e1,w,e2,rfl⟩:=e;have h1:=BD e1 rx;have h2:=BD e2 ry;subst h1 h2;exact Qp (Cm e1)
theorem Ic(e:plV x=some u)(r:AF K F H x v):v≠.ref a:=by have h1:=BD e r;subst h1;have:=Cm e;intro h;subst h;cases this
theorem Cz(e:E4 t=some ts)(r:AF K F H t v):∃a vs,v=.ref a/\StT K F H a vs/\Ag K F H ts vs:=by cases OL e;simpa only[AF]using r
theorem KQ:∀{n:Nat}{x y:T}{v:V}{b:Bool},eqT n x y=some b->AF K F H x v->AF K F H y v->b=true
 |0,x,y,v,b,e,rx,ry=>Ra rx ry e
 |n+1,x,y,v,b,e,rx,ry=>by
  unfold eqT at e;cases e1:E4 x with
  |none =>rw[e1]at e;cases e2:E4 y with|none=>rw[e2]at e;exact Ra rx ry e|some ys =>rw[e2]at e;obtain⟨a,vs,rfl,_⟩:=Cz e2 ry;obtain⟨u,e3,_⟩:=tu.mp e;exact absurd rfl (Ic e3 rx)
  |some xs =>
   rw[e1]at e;obtain⟨a,vs,rfl,sx,jr⟩:=Cz e1 rx;cases e2:E4 y with
   |none =>rw[e2]at e;obtain⟨u,e3,_⟩:=tu.mp e;exact absurd rfl (Ic e3 ry)
   |some ys =>
    rw[e2]at e;obtain⟨a',gY,ea,sy,js⟩:=Cz e2 ry;cases ea;have hv:vs=gY:=by have:=sx.2.2.symm.trans sy.2.2;injection this with this;injection this
    subst hv;obtain⟨c,e3,rfl⟩:=tu.mp e;have hl:xs.length=ys.length:=by rw[<- jr.len,<- js.len]
    rw[tO];refine⟨?_,by simp[hl]⟩;rw[HC e3,uf];intro j hj;rw[uQ]at hj;have h1:j<xs.length:=by lia
    have h2:j<ys.length:=by lia
    have g1:=sS h1;have g2:=sS h2;obtain⟨v1,q1,r1⟩:=jr.at g1;obtain⟨v2,q2,r2⟩:=js.at g2;have:=by rw[q1]at q2;injection q2
    subst this;exact KQ (J7 e3 _ _ _ g1 g2) r1 r2
section
variable{X:Cx}{aa:List (Addr×Obj)}{U:St}{H:Hp}{s:Shared}{F:Wd}
theorem KP(hl:s.heap.IsTuple l items)(hu:A.units<cLine)(ry:RelV y u)(fy:En y=true) :
  SeqAt.EqAt A s (.ref l) u false/\SeqAt.EqAt A s u (.ref l) false/\SeqAt.RcAt A s (.ref l) u false/\SeqAt.RcAt A s u (.ref l) false:=by
 cases y with|o=>cases ry;exact⟨.tuple_none hl hu,.none_tuple hl hu,.tuple_none hl hu,.none_tuple hl hu⟩|v b=>cases ry;exact⟨.tuple_bool _ hl hu,.bool_tuple _ hl hu,.tuple_bool _ hl hu,.bool_tuple _ hl hu⟩|int b=>obtain⟨t,rfl⟩:=ry;exact⟨.tuple_int _ _ hl hu,.int_tuple _ _ hl hu,.tuple_int _ _ hl hu,.int_tuple _ _ hl hu⟩|str b=>obtain⟨t,rfl⟩:=ry;exact⟨.tuple_str _ _ hl hu,.str_tuple _ _ hl hu,.tuple_str _ _ hl hu,.str_tuple _ _ hl hu⟩|_=>cases fy
theorem Kt(rx:AF X.K F H x v)(ry:AF X.K F H y w)(qx:RelV v u)(qy:RelV w u')(e:((plV x).bind λu=>(plV y).map (eqV u))=some b):SeqAt.EqAt A s u u' b:=by simp only[tX,tu]at e;obtain⟨p,e1,q,e2,rfl⟩:=e;have h1:=BD e1 rx;have h2:=BD e2 ry;subst h1 h2;exact RL qx qy (Cm e1) (Cm e2)
theorem items_eqAt(e:Qq f xs ys=some b)(rx:Ag X.K F H xs vs)(ry:Ag X.K F H ys ws)(qx:Vals vs us)(qy:Vals ws us')
  (ih:∀{x y:T}{v w:V}{u u':Value}{b:Bool},f x y=some b->AF X.K F H x v->AF X.K F H y w->RelV v u->RelV w u'->SeqAt.EqAt A s u u' b) :
  ∀j (h1:j<us.toArray.size) (h2:j<us'.toArray.size),SeqAt.EqAt A s us.toArray[j] us'.toArray[j] (eAt f xs ys j):=by
 intro j h1 h2;have l1:=rx.len;have l2:=ry.len;have l3:=qx.length;have l4:=qy.length;rw[tK]at h1 h2;have g1:xs[j]?=some (xs[j]'(by lia)):=sS (by lia);have g2:ys[j]?=some (ys[j]'(by lia)):=sS (by lia);obtain⟨v,q1,r1⟩:=rx.at g1;obtain⟨w,q2,r2⟩:=ry.at g2;obtain⟨u,p1,o1⟩:=qx.get q1;obtain⟨u',p2,o2⟩:=qy.get q2;rw[sS h1]at p1;rw[sS h2]at p2;injection p1 with p1;injection p2 with p2;rw[show us.toArray[j]=us[j] by simp,show us'.toArray[j]=us'[j] by simp,p1,p2];exact ih (J7 e _ _ _ g1 g2) r1 r2 o1 o2
theorem RH(I:Inv X aa U H s):∀{n:Nat}{A:Around}{x y:T}{v w:V}{u u':Value}{b:Bool},A.units+n<cLine->eqT n x y=some b->AF X.K F H x v->AF X.K F H y w->RelV v u->RelV w u'->SeqAt.EqAt A s u u' b
 |0,A,x,y,v,w,u,u',b,hu,e,rx,ry,qx,qy=>Kt rx ry qx qy e
 |n+1,A,x,y,v,w,u,u',b,hu,e,rx,ry,qx,qy=>by
  have e0:=e;unfold eqT at e;cases e1:E4 x with
  |none =>rw[e1]at e;cases e2:E4 y with|none=>rw[e2]at e;exact Kt rx ry qx qy e|some ys =>rw[e2]at e;obtain⟨a,vs,rfl,st,_⟩:=Cz e2 ry;obtain⟨p,e3,rfl⟩:=tu.mp e;have h1:=BD e3 rx;subst h1;cases qy;obtain⟨aq,_,ht,_⟩:=I.tuple st.sq;exact(KP ht (by lia) qx (Cm e3)).2.1
  |some xs =>
   rw[e1]at e;obtain⟨a,vs,rfl,sx,jr⟩:=Cz e1 rx;cases qx;obtain⟨aq,vx,ht,_⟩:=I.tuple sx.sq;cases e2:E4 y with
   |none =>rw[e2]at e;obtain⟨p,e3,rfl⟩:=tu.mp e;have h1:=BD e3 ry;subst h1;exact(KP ht (by lia) qy (Cm e3)).1
   |some ys =>
    rw[e2]at e;obtain⟨a',gY,rfl,sy,js⟩:=Cz e2 ry;cases qy;obtain⟨bM,nS,qO,_⟩:=I.tuple sy.sq;by_cases iP:a=a'
    .subst iP;rw[KQ e0 rx ry];exact SeqAt.EqAt.same _
    .obtain⟨c,e3,rfl⟩:=tu.mp e;have l1:aq.length=xs.length:=by rw[<- vx.length,jr.len]
     have l2:bM.length=ys.length:=by rw[<- nS.length,js.len]
     have:=SeqAt.RcAt.tuples ht qO (by lia) (items_eqAt e3 jr js vx nS (λh r1 r2 o1 o2=>RH I (A:=A.in1) (by show A.units+1+n<_;lia) h r1 r2 o1 o2));rw[tK,tK,l1,l2,<- HC e3]at this;exact SeqAt.EqAt.of_refs iP this
end
section
variable{X:Cx}{Z:Xp}{a b:Expr}{fa fb:FS->Out Rv}{pos:Pos}
end
noncomputable def Nr(fs:FS):Rv->Option Bool
 |.t t=>some (match t with|.o=>true|_=>false)
 |.n i=>match AE fs i with|some (.l _ _)=>some false|some (.lst _)=>some false|_=>none
 |.nw _=>none
noncomputable def Rz(neg:Bool):Rv->Rv->FS->Out Rv:=λx y fs=>match y with
 |.t .o=>match Nr fs x with|some b=>okT (.v (if neg then !b else b)) fs|none=>.bad
 |_=>.bad
theorem PD(ok:Okk K F B H fs U)(rx:CW K F H U x u)(e:Nr fs x=some b):decide (u=V.o)=b:=by
 cases x with
 |t t =>have rx:AF K F H t u:=rx;cases t with|o=>cases e;cases rx;rfl|v=>cases e;cases rx;rfl|int=>cases e;cases rx;rfl|str=>cases e;cases rx;rfl|ins=>cases e;simp only[AF]at rx;obtain⟨a,dx,vs,rfl,_⟩:=rx;rfl|_=>cases e;simp only[AF]at rx;obtain⟨a,vs,rfl,_⟩:=rx;rfl
 |nw o=>cases e
 |n i =>
  have e2:U[i]?=some (some u):=rx;simp only[Nr]at e;split at e
  .rename_i eo;cases e;obtain⟨v,L2,e1,q,_⟩:=ok.own eo;rw[e1]at e2;have e3:v=u:=by simpa using e2
   subst e3;obtain⟨a,ah,rfl,_⟩:=q;rfl
  .rename_i eo;cases e;obtain⟨v,L2,e1,q,_⟩:=ok.own eo;rw[e1]at e2;have e3:v=u:=by simpa using e2
   subst e3;obtain⟨a,ah,rfl,_⟩:=q;rfl
  .cases e
set_option tactic.hygienic true in
theorem Ri:OpF K Z (λx y H Q=>y=.o/\Q (.v (decide (x=.o))) H) (Rz false):=by
 intro F B H U fs x y u w Q ok rx ry s;unfold Rz at s;split at s
 .split at s
  next b e=>refine⟨ry,?_⟩;rw[(PD ok rx e)];exact s F H _ Le.refl (RR.of ok rfl)
  .exact s.elim
 .exact s.elim
section
variable{X:Cx}{Z:Xp}{a b:Expr}{fa fb:FS->Out Rv}{pos:Pos}
theorem Yd(ha:FE X Z a fa)(hb:FE X Z b fb):FE X Z (.Compare a [.Is] [b] pos) (Ae (Rz false) fa fb):=IM Ri Rg ha hb (Ds _)
theorem XO(ha:FE X Z a fa)(hb:FE X Z b fb):FT X Z (.Compare a [.Is] [b] pos) (asB (Ae (Rz false) fa fb)):=DY Ri Rg ha hb (Ds _)
end
noncomputable def itD(f:FS->Out Rv):FS->Out (List T):=λfs=>(f fs).bnd λr fs=>match r with
 |.n i=>match fs[i]? with|some (some (.own (.l ks ts)))=>.ok (ks.map Ox) (fs.set i (some (.val (.l ks ts))))|_=>.bad
 |.t (.dF ks ts)=>.ok (ks.map Ox) fs
 |_=>.bad
theorem Okk.frzD{K:Fg}{F:Wd}{B:Nat->Option V}{H:Hp}{fs:FS}{U:St}{i:Nat}{ks:List Key}{ts:List T}{u:V}(h:Okk K F B H fs U)(e:U[i]?=some (some u))(es:fs[i]?=some (some (.own (.l ks ts)))) :
  ∃a ah,u=.ref a/\H a=some (.l ah)/\ah.map (·.1)=ks/\∀o,Le F H (GZ F [a]) (upd H a (.frz o (.l ah)))/\Okk K (GZ F [a]) B (upd H a (.frz o (.l ah))) (fs.set i (some (.val (.l ks ts)))) U:=by
 obtain⟨L,o1⟩:=h;obtain⟨v,L1,L2,L3,e1,rfl,h1,h2⟩:=o1.sl.pick es;obtain⟨w,rfl,q2⟩:=h1;rw[e1]at e;have eu:w=u:=by simpa using e
 subst eu;have q3:=q2;simp only[AO]at q3;obtain⟨a,ah,rfl,hd,rfl,q,rfl⟩:=q3;refine⟨a,ah,rfl,hd,rfl,λob=>?_⟩;have bQ:=o1.nd;have na:∀b∈L1++L3,b≠a:=λb hb z=>by
  subst z;rw[sT]at bQ;rcases sZ.mp hb with m|m
  .exact bQ.2.2 b m b (by simp) rfl
  .exact(sT.mp bQ.2.1).2.2 b (by simp) b m rfl
 have l2:Le F H (GZ F [a]) (upd H a (.frz ob (.l ah))):=⟨λb f=>⟨.inl f,Aj λz=>o1.nf b (by subst z;simp) f⟩,λb f=>⟨f,Aj λz=>o1.pl b (by subst z;simp) f⟩⟩
 have r2:AF K (GZ F [a]) (upd H a (.frz ob (.l ah))) (.l (ah.map (·.1)) ts) (.ref a):=by simp only[AF];exact⟨a,ah,rfl,.inr (by simp),.inr ⟨ob,Am⟩,rfl,q.le l2⟩
 refine⟨l2,L1++([]++L3),?_⟩;have h3:=h2 (GZ F [a]) (upd H a (.frz ob (.l ah))) (some (.val (.l (ah.map (·.1)) ts))) (some (.ref a)) [] l2 (λb hb=>Aj (na b hb)) ⟨.ref a,rfl,r2,rfl⟩;rw[A8 e1]at h3;refine⟨h3,BE bQ ua (λ_ m=>nomatch m),λb m z=>?_,λb z=>?_,?_,λb z=>?_,λb z=>?_,λb m=>o1.pl b ?_⟩
 .have m':b∈L1\/b∈L3:=by simpa using m
  rcases z with z|z
  .exact o1.nf b (by rcases m' with m|m<;>simp[m]) z
  .exact na b (by rcases m' with m|m<;>simp[m]) (by simpa using z)
 .rcases z with z|z
  .rw[Aj λy=>o1.nf b (by subst y;simp) z];exact o1.fd b z
  .have:b=a:=by simpa using z
   subst this;rw[Am];exact λy=>nomatch y
 .have:=Ew.put (i:=i) (s:=some (.val (.l (ah.map (·.1)) ts))) (v:=some (.ref a)) o1.bo (λo eo=>by cases eo) o1.sl.len;rwa[A8 e1]at this
 .rw[Aj λy=>o1.pl b (by subst y;simp) z];exact o1.pd b z
 .rcases z with z|z
  .exact o1.pf b z
  .have:b=a:=by simpa using z
   subst this;exact o1.pl b (by simp)
 .have m':b∈L1\/b∈L3:=by simpa using m
  rcases m' with m|m<;>simp[m]
theorem KJ{K:Fg}{F:Wd}{H:Hp}{a:Addr}{o:Obj}{ah:List (Key×V)}(f:F a)(e:H a=some (.frz o (.l ah))):JOk K F H (Itd a o ah) ((ah.map (·.1)).map Ox):=by
 intro F' H' l _ i;have e':H' a=some (.frz o (.l ah)):=(l a f).2.trans e;refine⟨λt et=>?_,λhl=>⟨e',by simpa using hl⟩⟩;have hi:i<ah.length:=by have:=(sY.mp et).1;simpa using this
 refine⟨⟨e',hi⟩,λx fG hy=>stays hy.1 ?_⟩;obtain⟨k,ek,rfl⟩:=hy.2;rw[tR,ek]at et;cases et;cases k<;>rfl
set_option tactic.hygienic true in
theorem Uy{X:Cx}{Z:Xp}{tg l:Expr}{f:FS->Out Rv}(hl:FE X Z l f):FI X Z tg l (itD f):=by
 refine Ig (Pc hl) λU H Q ao => ?_
 obtain⟨F,B,fs,ok,s⟩:= ao;refine⟨F,B,fs,ok,Au s λr ag F1 H1 u l ay rx s1=>?_⟩;split at s1
 .rename_i i;split at s1
  next ks ts es=>obtain⟨a,ah,rfl,hd,rfl,k⟩:=ay.frzD rx es;refine⟨a,ah,rfl,.inl ⟨hd,λo=>?_⟩⟩;obtain⟨l2,aN⟩:=k o;exact s1 _ _ (Itd a o ah) l2 ⟨aN,KJ (.inr (by simp)) Am⟩
  .exact s1.elim
 .simp only[CW,AF]at rx;obtain⟨a,ah,rfl,f,⟨o,hd⟩,rfl,r⟩:=rx;exact⟨a,ah,rfl,.inr ⟨o,hd,s1 _ _ (Itd a o ah) Le.refl ⟨ay,KJ f hd⟩⟩⟩
 .exact s1.elim
noncomputable def UU(fs:FS):Rv->Option (List Key×List T)
 |.t (.l ks ts)=>some (ks,ts)
 |.t (.dF ks ts)=>some (ks,ts)
 |.n i=>match AE fs i with|some (.l ks ts)=>some (ks,ts)|_=>none
 |_=>none
set_option tactic.hygienic true in
theorem Qt{K:Fg}{B:Nat->Option V}{F:Wd}{H:Hp}{U:St}{fs:FS}{x:Rv}{u:V}{ks:List Key}{ts:List T}(h:Okk K F B H fs U)(rx:CW K F H U x u)(e:UU fs x=some (ks,ts)) :
  ∃a ah,u=.ref a/\Rd H a (.l ah)/\ah.map (·.1)=ks/\Ag K F H ts (ah.map (·.2)):=by
 unfold UU at e;split at e
 .cases e;simp only[CW,AF]at rx;obtain⟨a,ah,rfl,f,hd,rfl,r⟩:=rx;exact⟨a,ah,rfl,hd,rfl,r⟩
 .cases e;simp only[CW,AF]at rx;obtain⟨a,ah,rfl,f,⟨ob,hd⟩,rfl,r⟩:=rx;exact⟨a,ah,rfl,.inr ⟨ob,hd⟩,rfl,r⟩
 .rename_i i;have e2:U[i]?=some (some u):=rx;split at e
  .rename_i eo;cases e;obtain⟨v,L2,e1,q,_⟩:=h.own eo;rw[e1]at e2;have e3:v=u:=by simpa using e2
   subst e3;simp only[AO]at q;obtain⟨a,ah,rfl,hd,rfl,r,_⟩:=q;exact⟨a,ah,rfl,.inl hd,rfl,r⟩
  .cases e
 .cases e
section
variable{X:Cx}{Z:Xp}{a b:Expr}{fa fb:FS->Out Rv}{pos:Pos}
end
theorem JbN(hr:Df k A):A.units+61<cLine:=by have:=hr.units;lia
section
variable{X:Cx}{Z:Xp}{a b:Expr}{fa fb:FS->Out Rv}{pos:Pos}
end
section
variable{K:Fg}{Z:Xp}
noncomputable def IJ:List Rv->FS->Out Rv
 | [x],fs=>match UU fs x with|some p=>.ok (.nw (.l p.1 p.2)) fs|none=>.bad
 |_,_=>.bad
set_option tactic.hygienic true in
theorem QD:Cw K Z (λxs H Q=>∃a ah,xs=[.ref a]/\Rd H a (.l ah)/\∀l,H l=none->Q (.ref l) (upd H l (.l ah))) IJ:=by
 intro F B H U fs rs vs Q ok q s;unfold IJ at s;split at s
 .obtain⟨v,rfl,qq⟩:=Ba q;split at s
  next p e=>obtain⟨a,ah,rfl,hd,ek,r⟩:=Qt (ks:=p.1) (ts:=p.2) ok qq e;refine⟨a,ah,rfl,hd,λl hl=>s F _ (.ref l) (AB ok hl) (RR.alloc ok hl ?_)⟩;simp only[AO];exact⟨l,ah,rfl,Am,ek,r.le (AB ok hl),rfl⟩
  .exact s.elim
 .exact s.elim
end
section
variable{X:Cx}{Z:Xp}{a:Expr}{f:FS->Out Rv}{fa:FS->Out (List Rv)}{p p1 p2 pos gx cR:Pos}
theorem Ql(hm:X.mg "dict"=none)(ha:FA X Z [a] fa)(hg:Gl X "dict":=by rfl)(he:starEach [a] X.env=[(false,eval a X.env)]:=by rfl):FE X Z (.Call (.Name "dict" p) [a] [] pos) (Ad IJ fa) :=
 C7 QD LW hm boot_dict ha (hg:=hg) (he:=he)
end
noncomputable def fzD(f:FS->Out Rv):FS->Out Rv:=λfs=>(f fs).bnd λr fs=>match r with
 |.n i=>match fs[i]? with|some (some (.own (.l ks ts)))=>.ok (.t (.dF ks ts)) (fs.set i (some (.val (.dF ks ts))))|_=>.bad
 |_=>.bad
theorem Okk.frzF(h:Okk K F B H fs U)(e:U[i]?=some (some u))(es:fs[i]?=some (some (.own (.l ks ts)))) :
  ∃a ah,u=.ref a/\H a=some (.l ah)/\ah.map (·.1)=ks/\∀o,Le F H (GZ F [a]) (upd H a (.frz o (.l ah)))/\Okk K (GZ F [a]) B (upd H a (.frz o (.l ah))) (fs.set i (some (.val (.dF ks ts)))) U/\AF K (GZ F [a]) (upd H a (.frz o (.l ah))) (.dF ks ts) (.ref a):=by
 obtain⟨L,o1⟩:=h;obtain⟨v,L1,L2,L3,e1,rfl,h1,h2⟩:=o1.sl.pick es;obtain⟨w,rfl,q2⟩:=h1;rw[e1]at e;have eu:w=u:=by simpa using e
 subst eu;have q3:=q2;obtain⟨a,ah,rfl,hd,rfl,q,rfl⟩:=q3;refine⟨a,ah,rfl,hd,rfl,λob=>?_⟩;have bQ:=o1.nd;have na:∀b∈L1++L3,b≠a:=λb hb z=>by
  subst z;rw[sT]at bQ;rcases sZ.mp hb with m|m
  .exact bQ.2.2 b m b (by simp) rfl
  .exact(sT.mp bQ.2.1).2.2 b (by simp) b m rfl
 have l2:Le F H (GZ F [a]) (upd H a (.frz ob (.l ah))):=⟨λb f=>⟨.inl f,Aj λz=>o1.nf b (by subst z;simp) f⟩,λb f=>⟨f,Aj λz=>o1.pl b (by subst z;simp) f⟩⟩
 have r2:AF K (GZ F [a]) (upd H a (.frz ob (.l ah))) (.dF (ah.map (·.1)) ts) (.ref a):=by exact⟨a,ah,rfl,.inr (by simp),⟨ob,Am⟩,rfl,q.le l2⟩
 refine⟨l2,⟨L1++([]++L3),?_⟩,r2⟩;have h3:=h2 (GZ F [a]) (upd H a (.frz ob (.l ah))) (some (.val (.dF (ah.map (·.1)) ts))) (some (.ref a)) [] l2 (λb hb=>Aj (na b hb)) ⟨.ref a,rfl,r2,rfl⟩;rw[A8 e1]at h3;refine⟨h3,BE bQ ua (λ_ m=>nomatch m),λb m z=>?_,λb z=>?_,?_,λb z=>?_,λb z=>?_,λb m=>o1.pl b ?_⟩
 .have m':b∈L1\/b∈L3:=by simpa using m
  rcases z with z|z
  .exact o1.nf b (by rcases m' with m|m<;>simp[m]) z
  .exact na b (by rcases m' with m|m<;>simp[m]) (by simpa using z)
 .rcases z with z|z
  .rw[Aj λy=>o1.nf b (by subst y;simp) z];exact o1.fd b z
  .have:b=a:=by simpa using z
   subst this;rw[Am];exact λy=>nomatch y
 .have:=Ew.put (i:=i) (s:=some (.val (.dF (ah.map (·.1)) ts))) (v:=some (.ref a)) o1.bo (λo eo=>by cases eo) o1.sl.len;rwa[A8 e1]at this
 .rw[Aj λy=>o1.pl b (by subst y;simp) z];exact o1.pd b z
 .rcases z with z|z
  .exact o1.pf b z
  .have:b=a:=by simpa using z
   subst this;exact o1.pl b (by simp)
 .have m':b∈L1\/b∈L3:=by simpa using m
  rcases m' with m|m<;>simp[m]
set_option tactic.hygienic true in
theorem Yh{X:Cx}{Z:Xp}{e:Expr}{f:FS->Out Rv}(h:FE X Z e f):FE X Z e (fzD f):=by
 refine AG (Rc h) λU H Q ao => ?_
 obtain⟨F,B,fs,ok,s⟩:= ao;refine⟨F,B,fs,ok,Au s λr ag F1 H1 u l ay rx s1=>?_⟩;split at s1
 .rename_i i;split at s1
  next ks ts es=>obtain⟨a,ah,rfl,hd,rfl,k⟩:=ay.frzF rx es;refine⟨a,ah,rfl,hd,λo=>?_⟩;obtain⟨l2,aN,r2⟩:=k o;exact s1 _ _ (.ref a) l2 (RR.of aN r2)
  .exact s1.elim
 .exact s1.elim
inductive EZ(K:Fg)(Z:Xp)(cv:Value)(U:St)(H:Hp):Prop
 |mk (F:Wd) (B:Nat->Option V) (fs:FS) (c:Str) (C:Addr) (h0:CJ K c=some C) (h1:cv=.ref C) (h2:Okk K F B H fs U) (h3:Z.p F B H c fs)
def Lks(X:Cx)(Z:Xp):Prop:=Lk X (EZ X.K Z)
theorem Lks.no:Lks X Xp.no:=λ_ _ _ _ _ _ _ ⟨_,_,_,_,_,_,_,_,_,_,_,⟨_,_,_,_,_,_,_,_,z⟩⟩=>z.elim
structure LkD(X:Cx)(Z:Xp):Prop where
 d:Ou X
 k:∀e s,XW X (EZ X.K Z) e s->X.xe e s
 own:PassesOwn (model X.prog X.w) X.A X.env X.xe
theorem LkD.lk(l:LkD X Z):Lks X Z:=Lk.of l.d.ex l.k
noncomputable def Zd(K:Fg)(E:XK):Xp:=⟨λF B H c fs=>∀C,CJ K c=some C->∀F' H' av,Le F H F' H'->Okk K F' B H' fs av->E (.ref C) none H',λh l C hC F' H' av l' k=>h C hC F' H' av (l.trans l') k⟩
def spX(K:Fg)(p:Nat)(Fn:FS->Out Rv):Sp:=λvs H Q E=>vs.length=p/\∃F cm,Okk K F (Bof (vs.map some)) H cm (vs.map some)/\match Fn cm with|.ok r τ=>∀F' H' u av,Le F H F' H'->RR K (Bof (vs.map some)) av F' H' τ r u->Q u H'|.exc c τ=>∀C,CJ K c=some C->∀F' H' av,Le F H F' H'->Okk K F' (Bof (vs.map some)) H' τ av->E (.ref C) none H'|.bad=>False
def GS0(X:Cx)(Z:Xp)(st:Stmt)(g:FS->SO):Prop:=PS0 X st (tSt X.K Z g)
def Y7(X:Cx)(Z:Xp)(lJ:List Stmt)(g:FS->SO):Prop:=QN X lJ (tSt X.K Z g)
section
variable{X:Cx}{Z:Xp}{st:Stmt}{rest:List Stmt}{g h:FS->SO}
theorem GS.zero(q:GS X Z st g):GS0 X Z st g:=PS.zero q
theorem GSs.zero(q:GSs X Z rest g):Y7 X Z rest g:=PSs.zero q
theorem AI(h1:GS0 X Z st g)(h2:Y7 X Z rest h):Y7 X Z (st::rest) (Ak g h):=by
 intro s0 U H D I q;refine MG h1 h2 s0 U H D I ?_;obtain⟨F,B,fs,ok,s⟩:=q;refine⟨F,B,fs,ok,?_⟩;unfold Ak at s;cases e:g fs with
 |nx ag =>rw[e]at s;exact λF1 H1 iC l k=>⟨F1,B,ag,k,GC.le s l⟩
 |ret r ag=>rwa[e]at s
 |brk ag=>rwa[e]at s
 |cnt ag=>rwa[e]at s
 |exc c ag=>rwa[e]at s
 |bad=>rwa[e]at s
end
section
variable{P:Program}{w:World}{K:Fg}{mg:Str->Option Value}{base:Heap}
set_option tactic.hygienic true in
theorem FC(Fu:Fun K x qual st f fd)(S:HL N ps (Bh st))(p n:Nat)(hp:ps.length=p)(hn:N.length=p+n)
  (hb:∀cdv (A:Around) outer (s:Shared) H E E' (Z:Xp),Df k (A.deeper (envOfC qual (Bh st) s.heap.objs.size f cdv))->LkD ((LS (CX1 P w) P w K mg base N qual (Bh st) f cdv A outer s H E).E3 E') Z ->
   Y7 ((LS (CX1 P w) P w K mg base N qual (Bh st) f cdv A outer s H E).E3 E') Z (DB st) g):Dn P w K mg base (CX1 P w) (k+1) f fd ps (spX K p (Bj n g)):=by
 refine Fu.ok0 S (λvs H Q E h=>by rw[h.1,hp]) (λcdv A outer s H vs Q E hr h=>⟨_,hb cdv A outer s H E _ (Zd K E) hr ⟨⟨rfl,rfl,rfl,rfl⟩,λe s q=>?_,XW.own YD⟩,?_⟩)
 .refine XW.imp (XW.E3 q) λc U H z=>?_
  obtain⟨F,B,fs,c,C,hC,rfl,ok,z⟩:=z;exact z C hC F H U Le.refl ok
 obtain⟨hl,F,cm,⟨L,ok⟩,h⟩:=h;have es:L2.start N vs=vs.map some++List.replicate n none:=by unfold L2.start;rw[hl,hn,Nat.add_sub_cancel_left]
 rw[es];refine⟨F,Bof (vs.map some),cm++List.replicate n none,⟨L,ok.more n⟩,?_⟩;unfold Bj at h;cases e:g (cm++List.replicate n none)with
 |nx τ =>rw[e]at h;intro F' H' av l k;exact h F' H' .o (av.take cm.length) l (RR.take (RR.of (r:=.t .o) k rfl) _ (λi z=>nomatch z))
 |ret r τ =>
  rw[e]at h;intro F' H' av u l k;cases r with
  |t t=>exact h F' H' u (av.take cm.length) l (RR.take k _ (λi z=>nomatch z))
  |nw o=>exact h F' H' u (av.take cm.length) l (RR.take k _ (λi z=>nomatch z))
  |n i =>
   dsimp only at h;split at h
   .rename_i r' j8 e2;split at e2
    next o eo=>cases e2;exact h F' H' u (av.take cm.length) l (RR.take (RR.mv k eo) _ (λi z=>nomatch z))
    .cases e2
   .rename_i c j8 e2;split at e2
    .cases e2
    .cases e2
   .exact h.elim
 |brk τ=>rw[e]at h;exact h.elim
 |cnt τ=>rw[e]at h;exact h.elim
 |exc c τ =>rw[e]at h;intro C hC F' H' av l k;exact h C hC F' H' (av.take cm.length) l (RR.take (RR.of (r:=.t .o) k rfl) _ (λi z=>nomatch z)).ok
 |bad=>rwa[e]at h
end
noncomputable def GV(Fn:FS->Out Rv)(rs:List Rv)(fs:FS):Out Rv :=
 if(DH fs (rs.map AW)).Nodup then(match Fn (BY fs (rs.map AW))with|.ok (.t t) τ=>(match DD (rs.map AW) τ fs with|some ar=>.ok (.t t) ar|none=>.bad)|.ok (.nw o) τ=>(match DD (rs.map AW) τ fs with|some ar=>.ok (.nw o) ar|none=>.bad)|.exc c τ=>(match DD (rs.map AW) τ fs with|some ar=>.exc c ar|none=>.bad)|_=>.bad)else .bad
noncomputable def Ah(p:Nat)(Fn:FS->Out Rv):List Rv->FS->Out Rv:=λrs fs=>if rs.length=p then GV Fn rs fs else .bad
section
variable{K:Fg}{F F':Wd}{H H':Hp}{B:Nat->Option V}{fs:FS}{U:St}{rs:List Rv}{vs:List V}{Z:Xp}{Q:VK}{Fn:FS->Out Rv}
set_option tactic.hygienic true in
theorem Jc(q:RAn K B U F H fs rs vs)(s:sat Z B (RR K B U) F H (GV Fn rs fs) Q):spX K rs.length Fn vs H Q λc _ H'=>EZ K Z c U H':=by
 unfold GV at s;split at s
 .rename_i nd;obtain⟨L9,μ,ok,eJ,hl,hi⟩:=Nu q;obtain⟨Pp,p1,p2,p3,p4⟩:=lend ok hl hi nd eJ;refine⟨q.len,⟨F.f,Pp⟩,BY fs (rs.map AW),p2,?_⟩;split at s
  .rename_i t τ e;rw[e];split at s
   next ar eb=>intro F' H' u av l k;obtain⟨Li,L',o1,⟨_,r⟩,_⟩:=k;obtain⟨le,L,o2,_⟩:=p4 F' H' τ av Li ar l o1 eb;exact s ⟨F'.f,F.p⟩ H' u le (RR.of ⟨L,o2⟩ (AF.wp r))
   .exact s.elim
  .rename_i o τ e;rw[e];split at s
   .rename_i ar eb;intro F' H' u av l k;obtain⟨Li,L',o1,r,nd,nf⟩:=k;obtain⟨le,L,o2,sub⟩:=p4 F' H' τ av Li ar l o1 eb;refine s ⟨F'.f,F.p⟩ H' u le ⟨L,L',o2,AO.wp r,?_,λa m=>⟨(nf a m).1,λp=>(nf a m).2 (l.p a (p1 a p)).1⟩⟩;rw[sT]at nd ⊢;refine⟨o2.nd,nd.2.1,λa ha b hb e=>?_⟩;rcases sub a ha with z|z
    .exact nd.2.2 a z b hb e
    .exact(nf b hb).2 (l.p b (e▸z)).1
   .exact s.elim
  .rename_i c τ e;rw[e];split at s
   next ar eb=>intro C hC F' H' av l k;obtain⟨Li,o1⟩:=k;obtain⟨le,L,o2,_⟩:=p4 F' H' τ av Li ar l o1 eb;exact⟨⟨F'.f,F.p⟩,B,ar,c,C,hC,rfl,⟨L,o2⟩,Z.mono s le⟩
   .exact s.elim
  .exact s.elim
 .exact s.elim
end
section
variable{X:Cx}{Z:Xp}{x:Str}{k p:Nat}{ps:List Str}{Fn:FS->Out Rv}{e:Expr}{es:List Expr}{fa:FS->Out (List Rv)}{pp pos np aD:Pos}{C:Addr}
theorem Yi(G:FnAt X.prog X.w X.K X.mg X.base (CX1 X.prog X.w) x k ps (spX X.K p Fn))(hr:Df k X.A)(lk:Lks X Z)(ha:FAn X Z (e::es) fa)(hg:Gl X x:=by rfl)(aR:(x==("__debug__":Str))=false:=by decide)
  (he:starEach (e::es) X.env=(false,eval e X.env)::starEach es X.env:=by rfl) (aI:(backTo pos (starEach es X.env)).any (·.1)=false:=by rfl):FE X Z (.Call (.Name x pp) (e::es) [] pos) (Ad (Ah p Fn) fa):=by
 refine AG (WH G hr lk ha hg aR he aI) λU H Q ao => ?_
 obtain⟨F,B,fs,ok,s⟩:= ao;refine⟨F,B,fs,ok,As s λrs ag F1 H1 us l q s1=>?_⟩;unfold Ah at s1;split at s1
 next hp=>rw[<- hp];exact Jc q s1
 .exact s1.elim
structure JbV(K:Fg)(mg:Str->Option Value)(x:Str):Prop where
 ex:∃C,mg x=some (.ref C)/\CJ K x=some C/\excIn K C Vj "ValueError.__new__"=true
noncomputable def Bs(c:Str)(fa:FS->Out (List Rv)):FS->SO:=λfs=>SO.of (fa fs) λrs fs=>if rs.length<=1000 then .exc c fs else .bad
theorem PV(c:JbV X.K X.mg x)(l:LkD X Z)(hc:X.calm=true)(ha:FA X Z (e::es) fa)(hg:Gl X x:=by rfl)(aR:(x==("__debug__":Str))=false:=by decide)
  (he:starEach (e::es) X.env=(false,eval e X.env)::starEach es X.env:=by rfl) (aI:(backTo aD (starEach es X.env)).any (·.1)=false:=by rfl) :
  GS X Z (.Raise (some (.Call (.Name x np) (e::es) [] aD)) none pos) (Bs x fa):=by
 obtain⟨C,h1,h2,h3⟩:=c.ex;refine B8 (O3 ⟨h1,h3⟩ l.d.ex hc l.k ha hg aR he aI) λD U H ao => ?_
 obtain⟨F,B,fs,ok,s⟩:= ao;refine⟨F,B,fs,ok,BR s λrs ag F1 H1 us l q s1=>?_⟩;split at s1
 next hl=>exact⟨by rw[q.2.len];exact hl,F1,B,ag,x,C,h2,rfl,q.1,s1⟩
 .exact s1.elim
end
noncomputable def Ve(i:Nat)(dr:Str->Bool)(h:FS->SO)(c:Str)(fs:FS):SO:=if dr c=true then(match Gg i (.t (.zD c)) fs with|some fs=>(match h fs with|.nx fs=>(match fs[i]? with|some (some (.val _))=>.nx (fs.set i none)|_=>.bad)|.ret (.t t) fs=>.ret (.t t) fs|_=>.bad)|none=>.bad)else .bad
noncomputable def QV(i:Nat)(dr:Str->Bool)(g h:FS->SO):FS->SO:=λfs=>match g fs with|.exc c fs=>Ve i dr h c fs|o=>o
section
variable{X:Cx}{Z:Xp}{K:Fg}{B:Nat->Option V}{F:Wd}{H:Hp}{U:St}{fs:FS}
theorem Okk.forget(h:Okk K F B H fs U)(e:fs[i]?=some (some (.val t))):Okk K F B H (fs.set i none) (U.set i none):=by
 obtain⟨L,ok⟩:=h;obtain⟨v,L1,L2,L3,e1,rfl,h1,h2⟩:=ok.sl.pick e;have e2:L2=[]:=by obtain⟨u,rfl,q,z⟩:=h1;exact z
 subst e2;exact⟨L1++([]++L3),h2 F H none none [] Le.refl (λ_ _=>rfl) rfl,ok.nd,ok.nf,ok.fd,Ew.put ok.bo (λo eo=>by cases eo) ok.sl.len,ok.pd,ok.pf,ok.pl⟩
noncomputable def Ztry(K:Fg)(Z:Xp)(i:Nat)(dr:Str->Bool)(h:FS->SO)(D:Ends):Xp:=⟨λF B H c fs=>GC K Z B F H (Ve i dr h c fs) D,λq l=>GC.le q l⟩
set_option tactic.hygienic true in
theorem Ug{x n:Str}{C:Addr}{i:Nat}{np pos eF:Pos}{body bz:List Stmt}{cK:Stmt}{g h:FS->SO}(dr:Str->Bool)(i:Nat)(l:LkD X Z)(hC:X.mg x=some (.ref C))(hN:X.N.Nodup)(hk:∀c C',dr c=true->CJ X.K c=some C'->exmOne X.K (.ref C') (.ref C)=some true)
  (hb:∀E' Z',LkD (X.E3 E') Z'->GSs (X.E3 E') Z' body g) (hs:∀a,GSs (X.hand a) Xp.no (cK::bz) h) (hi:X.N[i]?=some n:=by rfl) (hl:X.env.scope.names.lookup n=some .local:=by rfl) (hg:Gl X x:=by rfl) (aR:(x==("__debug__":Str))=false:=by decide) :
  GS0 X Z (.Try body [.ExceptHandler (some (.Name x np)) (some n) (cK::bz) eF] [] [] pos) (QV i dr g h):=by
 have key:=SN (np:=np) (pos:=pos) (eF:=eF) (body:=body) (cK:=cK) (bz:=bz) (th:=tSt X.K Xp.no h) (tb:=λD=>tSt X.K (Ztry X.K Z i dr h D) g) l.d hC hN (λD=>?_) hs hi hl hg aR
 .intro s0 U H D I q;refine key s0 U H D I ?_;obtain⟨F,B,fs,ok,s⟩:=q;refine⟨F,B,fs,ok,?_⟩;unfold QV at s;cases e:g fs with|nx ag=>rwa[e]at s|ret r ag=>rwa[e]at s|brk ag=>rwa[e]at s|cnt ag=>rwa[e]at s|exc c ag=>rwa[e]at s|bad=>rwa[e]at s
 .refine hb _ _ ⟨⟨l.d.pn,l.d.ex,l.d.st,l.d.fr⟩,λe s q=>XW.imp (XW.E3 q) λcv U H z=>?_,XW.own l.d⟩;obtain⟨F,B,fs,c,C',mi,rfl,ok,z⟩:=z;have z:GC X.K Z B F H (Ve i dr h c fs) D:=z;unfold Ve at z;split at z
  .rename_i jM;refine⟨hk c C' jM mi,λa ha=>?_⟩;split at z
   .rename_i au e2;have eT:Le F H (Oy F a) (upd H a (exO (.ref C') a)):=AS ok ha;refine⟨Oy F a,B,au,(E7 (RR.of (r:=.t (.zD c)) (u:=.ref a) (Okk.alloc ok ha) (by exact⟨a,C',rfl,.inr rfl,Am,mi⟩)) e2),?_⟩;cases eh:h au with
    |nx bX =>
     rw[eh]at z;dsimp only at z;split at z
     next t et=>exact λF' H' av l k=>z F' H' _ (eT.trans l) (k.forget et)
     .exact z.elim
    |ret r bX =>rw[eh]at z;cases r with|t t =>intro F' H' av u l k;exact z F' H' av u (eT.trans l) k|nw o=>exact z.elim|n j=>exact z.elim
    |brk bX=>rw[eh]at z;exact z.elim
    |cnt bX=>rw[eh]at z;exact z.elim
    |exc c bX=>rwa[eh]at z
    |bad=>rwa[eh]at z
   .exact z.elim
  .exact z.elim
end
noncomputable def UK(K:Fg)(ds:List Str)(tab:Str->Str->Bool)(c:Str):Bool:=match CJ K c with
 |some C=>excIn K C Vj "ValueError.__new__"&&(findIn K (.ref C) "__getattribute__"==some (some (.builtin "BaseException.__getattribute__")))&&(findIn K (.ref C) "__getattr__"==some none) &&
  (findIn K (.ref C) "__class__"==some (some (.builtin "object.__class__")))&&(specialIn K (.builtin "object.__class__") "__get__"==some (some (.builtin "getset_descriptor.__get__")))&&(takesIn K (.builtin "object.__class__")==some true) &&
  (mroIn K C (.type "object")==some true)&&(mroIn K C (.type "BaseException")==some true)&&(clsIn K C).isSome&&(kitOne K (.ref C) (.type "ValueError")==some true) &&
  ds.all λd=>match CJ K d with|some D=>(kitOne K (.ref C) (.ref D)==some (tab c d))&&(!tab c d||exmOne K (.ref C) (.ref D)==some true)|none=>false
 |none=>false
noncomputable def Yt(K:Fg)(rs ds:List Str)(tab:Str->Str->Bool):Bool:=rs.all (UK K ds tab)&&ds.all λd=>(CJ K d).isSome
structure Jk(K:Fg)(mg:Str->Option Value)(rs ds:List Str)(tab:Str->Str->Bool):Prop where
 k:∀c∈rs,∀C,CJ K c=some C->PySem.W.ExK K C/\(clsIn K C).isSome=true
 own:∀c∈rs,∀d∈ds,∀C D,CJ K c=some C->CJ K d=some D->kitOne K (.ref C) (.ref D)=some (tab c d)/\(tab c d=true->exmOne K (.ref C) (.ref D)=some true)
 ve:∀c∈rs,∀C,CJ K c=some C->kitOne K (.ref C) (.type "ValueError")=some true
 at_:∀c∈rs,∃C,mg c=some (.ref C)/\CJ K c=some C/\excIn K C Vj "ValueError.__new__"=true
 yH:∀d∈ds,∃D,mg d=some (.ref D)/\CJ K d=some D
set_option tactic.hygienic true in
theorem RS(X:K.In h)(G:h.Ns mainGlobals mg)(e:CJ K c=some C):mg c=some (.ref C):=by
 unfold CJ at e;split at e
 next D q=>cases e;exact mg_of X G q
 .cases e
theorem Jk.of(X:K.In h)(G:h.Ns mainGlobals mg)(e:Yt K rs ds tab=true):Jk K mg rs ds tab:=by
 unfold Yt at e;rw[tO]at e;obtain⟨e1,e2⟩:=e;have one:∀c∈rs,∀C,CJ K c=some C->excIn K C Vj "ValueError.__new__"=true/\PySem.W.ExK K C/\(clsIn K C).isSome=true/\kitOne K (.ref C) (.type "ValueError")=some true /\
   ∀d∈ds,∀D,CJ K d=some D->kitOne K (.ref C) (.ref D)=some (tab c d)/\(tab c d=true->exmOne K (.ref C) (.ref D)=some true):=λc hc C hC=>by
  have q:=uf.mp e1 c hc;unfold UK at q;rw[hC]at q;simp only[tO,beq_iff_eq]at q;obtain⟨⟨⟨⟨⟨⟨⟨⟨⟨⟨q1,q2⟩,q3⟩,q4⟩,q5⟩,q6⟩,q7⟩,q8⟩,q9⟩,rC⟩,rD⟩:=q;refine⟨q1,⟨q2,q3,q4,q5,q6,q7,q8⟩,q9,rC,λd hd D hD=>?_⟩;have z:=uf.mp rD d hd;rw[hD]at z;simp only[tO,beq_iff_eq]at z;refine⟨z.1,λht=>?_⟩;have z2:=z.2;rw[ht]at z2;simpa using z2
 refine⟨λc hc C hC=>⟨(one c hc C hC).2.1,(one c hc C hC).2.2.1⟩,λc hc d hd C D hC hD=>(one c hc C hC).2.2.2.2 d hd D hD,λc hc C hC=>(one c hc C hC).2.2.2.1,λc hc=>?_,λd hd=>?_⟩
 .have q:=uf.mp e1 c hc;unfold UK at q;cases hC:CJ K c with|none=>rw[hC]at q;cases q|some C=>exact⟨C,RS X G hC,rfl,(one c hc C hC).1⟩
 .obtain⟨D,hD⟩:=u6.mp (uf.mp e2 d hd);exact⟨D,RS X G hD,hD⟩
theorem Jk.t1(t:Jk K mg rs ds tab)(h:c∈rs):JbV K mg c:=⟨t.at_ c h⟩
noncomputable def isX(cs:List Str)(tab:Str->Str->Bool)(d:Str)(f:FS->Out Rv):FS->Out Rv:=λfs=>(f fs).bnd λr fs=>match r with|.t (.zD c)=>if cs.contains c=true then okT (.v (tab c d)) fs else .bad|_=>.bad
section
variable{X:Cx}{Z:Xp}{a:Expr}{f:FS->Out Rv}{p p2 pos:Pos}{x:Str}{cs ds:List Str}{tab:Str->Str->Bool}
set_option tactic.hygienic true in
theorem Yb(t:Jk X.K X.mg cs ds tab)(hm:X.mg "isinstance"=none)(hx:x∈ds)(ha:FE X Z a f)(hg:Gl X "isinstance":=by rfl)(gi:Gl X x:=by rfl)(aR:(x==("__debug__":Str))=false:=by decide)
  (hs:starEach [a,.Name x p2] X.env=(false,eval a X.env)::starEach [.Name x p2] X.env:=by rfl) (aW:starEach [.Name x p2] X.env=[(false,eval (.Name x p2) X.env)]:=by rfl) (aI:(backTo pos (starEach [.Name x p2] X.env)).any (·.1)=false:=by rfl) :
  FE X Z (.Call (.Name "isinstance" p) [a,.Name x p2] [] pos) (isX cs tab x f):=by
 obtain⟨D,h1,h2⟩:=t.yH x hx;refine AG (ET GU hg hm boot_isinstance (B9 ha (B9 (λaa s U H Q I h=>Eg I gi h1 ⟨.ref D,H,I,rfl,h⟩ aR) Fb aW) hs) (by decide) (by decide) hs aI) λU H Q ao=>?_
 obtain⟨F,B,fs,ok,s⟩:= ao;refine⟨F,B,fs,ok,Au s λr ag F1 H1 u l1 ay rx s1=>?_⟩;split at s1
 .rename_i c;split at s1
  .rename_i hc;have hc:=by simpa using hc
   obtain⟨b,C,rfl,fb,hb,hC⟩:=rx;exact⟨b,C,.ref D,.ref D,_,rfl,(λu z=>z),hb,(t.k c hc C hC).1,(t.k c hc C hC).2,(t.own c hc x hx C D hC h2).1,s1 F1 H1 _ Le.refl (RR.of ay rfl)⟩
  .exact s1.elim
 .exact s1.elim
noncomputable def isV(cs:List Str)(f:FS->Out Rv):FS->Out Rv:=λfs=>(f fs).bnd λr fs=>match r with|.t (.zD c)=>if cs.contains c=true then okT (.v true) fs else .bad|_=>.bad
set_option tactic.hygienic true in
theorem Yc(t:Jk X.K X.mg cs ds tab)(hm:X.mg "isinstance"=none)(eE:X.mg "ValueError"=none)(ha:FE X Z a f)(hg:Gl X "isinstance":=by rfl)(gi:Gl X "ValueError":=by rfl)
  (hs:starEach [a,.Name "ValueError" p2] X.env=(false,eval a X.env)::starEach [.Name "ValueError" p2] X.env:=by rfl) (aW:starEach [.Name "ValueError" p2] X.env=[(false,eval (.Name "ValueError" p2) X.env)]:=by rfl) (aI:(backTo pos (starEach [.Name "ValueError" p2] X.env)).any (·.1)=false:=by rfl) :
  FE X Z (.Call (.Name "isinstance" p) [a,.Name "ValueError" p2] [] pos) (isV cs f):=by
 refine AG (ET GU hg hm boot_isinstance (B9 ha (B9 (MQ (v:=.ty "ValueError") gi eE PyProof.Rows.Boot.«ValueError» rfl) Fb aW) hs) (by decide) (by decide) hs aI) λU H Q ao=>?_
 obtain⟨F,B,fs,ok,s⟩:= ao;refine⟨F,B,fs,ok,Au s λr ag F1 H1 u l1 ay rx s1=>?_⟩;split at s1
 .rename_i c;split at s1
  .rename_i hc;have hc:=by simpa using hc
   obtain⟨b,C,rfl,fb,hb,hC⟩:=rx;exact⟨b,C,.ty "ValueError",.type "ValueError",_,rfl,(λu z=>z),hb,(t.k c hc C hC).1,(t.k c hc C hC).2,t.ve c hc C hC,s1 F1 H1 _ Le.refl (RR.of ay rfl)⟩
  .exact s1.elim
 .exact s1.elim
end
theorem P1(t:Jk X.K X.mg rs ds tab)(hx:x∈ds)(i:Nat)(l:LkD X Z)(hN:X.N.Nodup)
  (hb:∀E' Z',LkD (X.E3 E') Z'->GSs (X.E3 E') Z' body g) (hs:∀a,GSs (X.hand a) Xp.no (cK::bz) h) (hi:X.N[i]?=some n:=by rfl) (hl:X.env.scope.names.lookup n=some .local:=by rfl) (hg:Gl X x:=by rfl) (aR:(x==("__debug__":Str))=false:=by decide) :
  GS0 X Z (.Try body [.ExceptHandler (some (.Name x np)) (some n) (cK::bz) eF] [] [] pos) (QV i (λc=>rs.contains c&&tab c x) g h):=by
 obtain⟨C,h1,h2⟩:=t.yH x hx;refine Ug (i:=i) _ i l h1 hN (λc C' ho hc=>?_) hb hs hi hl hg aR;rw[tO]at ho;exact(t.own c (by simpa using ho.1) x hx C' C hc h2).2 ho.2
noncomputable def JaX:Rv->List Rv->FS->Out Rv
 |x,[.t (.v true)],fs=>match(DG fs x).bind CY with
  |some bs=>match bs.findIdx? id with|some j=>okT (.int ((j:Nat):Int)) fs|none=>.bad
  |none=>.bad
 |_,_,_=>.bad
section
variable{K:Fg}{Z:Xp}
set_option tactic.hygienic true in
theorem Pu:MtF K Z (λx vs H Q=>∃(l:Addr)(bs:List Bool)(j:Nat),x=.ref l/\vs=[.v true]/\SqL K H l (bs.map V.v)/\bs[j]?=some true/\(∀m,m<j->bs[m]?=some false)/\Q (.int ((j:Nat):Int)) H) JaX:=by
 intro F B H U fs x rs u vs Q ok rx q s;unfold JaX at s;split at s
 .obtain⟨v,rfl,qq⟩:=Ba q;subst(by simpa only[CW,AF]using qq);split at s
  .rename_i bs e;rw[tX]at e;obtain⟨ts,e1,e2⟩:=e;obtain⟨a,us,rfl,hs,r⟩:=Br ok rx e1;rw[E1 e2]at r;rw[Ag.bls r]at hs;split at s
   next j ej=>obtain⟨hj,h1,h2⟩:=List.findIdx?_eq_some_iff_getElem.mp ej;refine⟨a,bs,j,rfl,rfl,hs,by rw[sS hj];exact congrArg some h1,λm hm=>?_,s F H _ Le.refl (RR.of ok rfl)⟩;have:=h2 m hm;rw[sS (uC hm hj)];simpa using this
   .exact s.elim
  .exact s.elim
 .exact s.elim
end
theorem VT(h:spF K p Fn vs H Q E):spX K p Fn vs H Q E':=by obtain⟨h1,F,cm,ok,h⟩:=h;refine⟨h1,F,cm,ok,?_⟩;cases e:Fn cm with|ok r τ=>rwa[e]at h|exc c τ=>rw[e]at h;exact h.elim|bad=>rwa[e]at h
section
variable{X:Cx}{Z:Xp}{x:Str}{k p:Nat}{ps:List Str}{Fn:FS->Out Rv}{e o:Expr}{es:List Expr}{fa:FS->Out (List Rv)}{fo f:FS->Out Rv}{pp pos aA np aD cp fp jp:Pos}{C:Addr}{m:Str}{v:Expr}{a:Str}{j:Nat}
noncomputable def EJ(C:Addr)(m:Str)(p:Nat)(Fn:FS->Out Rv)(fo:FS->Out Rv)(fa:FS->Out (List Rv)):FS->Out Rv:=λfs=>(fo fs).bnd λx fs=>if Hw C m fs x=true then(fa fs).bind λrs fs=>Ah p Fn (x::rs) fs else .bad
theorem X6(G:Vk X.prog X.w X.K X.mg X.base (CX1 X.prog X.w) C m k ps (spX X.K p Fn))(hr:Df k X.A)(lk:Lks X Z)(ho:FE X Z o fo)(ha:FAn X Z (e::es) fa)
  (dH:starEach (e::es) X.env=(false,eval e X.env)::starEach es X.env:=by rfl) (aI:(backTo pos (starEach es X.env)).any (·.1)=false:=by rfl)
  (ht:eval (.Call (.Attribute o m aA) (e::es) [] pos) X.env=(do
   let ov <- eval o X.env
   standAt aA.atName
   let(f,first) <- holding [ov] (getMethod ov m pl)
   callWith pos f first (backTo pos (starEach (e::es) X.env)) (backToKw pos (keywordEach [] X.env))):=by rfl) :
  FE X Z (.Call (.Attribute o m aA) (e::es) [] pos) (EJ C m p Fn fo fa):=by
 refine AG (WD G hr lk ho ha dH aI ht) λU H Q ao => ?_
 obtain⟨F,B,fs,ok,s⟩:= ao;refine⟨F,B,fs,ok,Au s λr ag F1 H1 u l ay rx s1=>?_⟩;split at s1
 .rename_i hi;obtain⟨a,dx,ah,rfl,hd,hn⟩:=KN ay rx hi;refine⟨a,dx,ah,rfl,hd,hn,F1,B,ag,ay,As s1 λrs au F2 H2 us l2 q s2=>?_⟩;unfold Ah at s2;split at s2
  next hp=>rw[<- hp];obtain⟨L9,M9,o9,q9,rd,rj⟩:=q;refine Jc ⟨L9,M9,o9,⟨_,us,[],M9,rfl,?_,q9,rfl⟩,rd,rj⟩ s2;have lB:=rx.le l2;cases r with|t t=>exact⟨rfl,lB⟩|nw o=>exact lB.elim|n i=>exact⟨rfl,lB⟩
  .exact s2.elim
 .exact s1.elim
theorem UB(G:Vk X.prog X.w X.K X.mg X.base (CX1 X.prog X.w) C m k ps (spX X.K p Fn))(hr:Df k X.A)(ho:FE X Z o fo)
  (h:∀{ta:TE},PE X o ta->PE X (.Call (.Attribute o m aA) [] [] pos) (Sn C m (spX X.K p Fn) [] E0 ta YW)):FE X Z (.Call (.Attribute o m aA) [] [] pos) (JQ C m p Fn fo Ai):=by
 refine AG (h ho) λU H Q ao => ?_
 obtain⟨F,B,fs,ok,s⟩:= ao;refine⟨F,B,fs,ok,Au s λr ag F1 H1 u l ay rx s1=>?_⟩;split at s1
 .rename_i hi;obtain⟨a,dx,ah,rfl,hd,hn⟩:=KN ay rx hi;refine⟨a,dx,ah,rfl,hd,hn,?_⟩;have s2:sat Z B (RR X.K B U) F1 H1 (Og p Fn [r] ag) Q:=s1;unfold Og at s2;split at s2
  next hp=>rw[<- hp];obtain⟨L9,o9⟩:=ay;refine VT (E:=E0) (QH ⟨L9,[],o9,⟨_,[],[],[],rfl,?_,⟨rfl,rfl⟩,rfl⟩,by simpa using o9.nd,(λ_ m=>nomatch m)⟩ s2);cases r with|t t=>exact⟨rfl,rx⟩|nw o=>exact rx.elim|n i=>exact⟨rfl,rx⟩
  .exact s2.elim
 .exact s1.elim
theorem X8(G:Y6 X.prog X.w X.K X.mg X.base (CX1 X.prog X.w) x C k ps (spX X.K p Fn))(hr:Df (k+1) X.A)(ha:FAn X Z (e::es) fa)(hg:Gl X x:=by rfl)(aR:(x==("__debug__":Str))=false:=by decide)
  (he:starEach (e::es) X.env=(false,eval e X.env)::starEach es X.env:=by rfl) (aI:(backTo pos (starEach es X.env)).any (·.1)=false:=by rfl):FE X Z (.Call (.Name x pp) (e::es) [] pos) (Ad (DS C p Fn) fa):=by
 refine AG (Jap G hr WJ ha hg aR he aI) λU H Q ao => ?_
 obtain⟨F,B,fs,ok,s⟩:= ao;refine⟨F,B,fs,ok,As s λrs ag F1 H1 us l q s1=>?_⟩;intro a dx h1 h2 h3;rw[ud];exact VT (E:=E0) (Px q s1 h1 h2 h3)
end
section
variable{K:Fg}{B:Nat->Option V}{F F':Wd}{H H':Hp}{U:St}{fs:FS}{i:Nat}{ob:FO}
theorem Aw.app:∀{os:List FO}{o:FO}{vs:List V}{v:V}{L1 L2:List Addr},Aw K F H os vs L1->AO K F H o v L2->Aw K F H (os++[o]) (vs++[v]) (L1++L2)
 | [],o,vs,v,L1,L2,h,g=>by
  obtain⟨rfl,rfl⟩:=(show vs=[]/\L1=[] by simpa only[Aw]using h)
  exact⟨v,[],L2,[],rfl,g,⟨rfl,rfl⟩,by simp⟩
 |x::os,o,vs,v,L1,L2,h,g=>by obtain⟨w,r,M1,M2,rfl,h1,h2,rfl⟩:=h;exact⟨w,r++[v],M1,M2++L2,rfl,h1,Aw.app h2 g,by simp⟩
end
noncomputable def Vg:List Rv->FS->Out Rv
 | [x],fs=>match(DG fs x).bind CY with|some ns=>okT (.v (ns.any id)) fs|none=>.bad
 |_,_=>.bad
set_option tactic.hygienic true in
theorem YJ:Cw K Z (λxs H Q=>∃(l:Addr)(bs:List Bool),xs=[.ref l]/\SqL K H l (bs.map V.v)/\Q (.v (bs.any id)) H) Vg:=by
 intro F B H U fs rs vs Q ok q s;unfold Vg at s;split at s
 .obtain⟨v,rfl,qq⟩:=Ba q;split at s
  next ns e=>rw[tX]at e;obtain⟨ts,e1,e2⟩:=e;obtain⟨a,us,rfl,hs,r⟩:=Br ok qq e1;rw[E1 e2]at r;rw[Ag.bls r]at hs;exact⟨a,ns,rfl,hs,s F H _ Le.refl (RR.of ok rfl)⟩
  .exact s.elim
 .exact s.elim
section
variable{X:Cx}{Z:Xp}{x:Str}{e a:Expr}{es:List Expr}{f:FS->Out Rv}{fa:FS->Out (List Rv)}{p pos aS:Pos}
theorem Ym(hm:X.mg "any"=none)(ha:FA X Z (e::es) fa)(hc:X.calm=true:=by rfl)(hg:Gl X "any":=by rfl)(he:starEach (e::es) X.env=(false,eval e X.env)::starEach es X.env:=by rfl)(aI:(backTo pos (starEach es X.env)).any (·.1)=false:=by rfl) :
  FE X Z (.Call (.Name "any" p) (e::es) [] pos) (Ad Vg fa):=EV YJ (QF hc) hm boot_any ha hg (by decide) (by decide) he aI
end
noncomputable def jsF:List (FS->Out Rv)->Str->FS->Out Rv
 | [],ax=>λfs=>if ax.length<=big then okT (.str ax) fs else .bad
 |f::r,ax=>λfs=>(f fs).bnd λx fs=>match x with|.t (.str z)=>if(ax++z).length<=big then jsF r (ax++z) fs else .bad|_=>.bad
inductive FEs(X:Cx)(Z:Xp):List Expr->List (FS->Out Rv)->Prop
 |nil:FEs X Z [] []
 |cons {e:Expr} {f:FS->Out Rv} {es:List Expr} {gs:List (FS->Out Rv)} (h:FE X Z e f) (r:FEs X Z es gs):FEs X Z (e::es) (f::gs)
section
variable{X:Cx}{Z:Xp}{v v1 v2:Expr}{es:List Expr}{f:FS->Out Rv}{gs:List (FS->Out Rv)}{fp jp:Pos}
theorem FEs.pes(h:FEs X Z es gs):PEs X es (gs.map (tF X.K Z)):=by induction h with|nil=>exact .nil|cons h r ih=>exact .cons h ih
set_option tactic.hygienic true in
theorem JbL{K:Fg}:∀(gs:List (FS->Out Rv))(ax:Str){U:St}{H:Hp}{Q:VK}{F:Wd}{B:Nat->Option V}{fs:FS},Okk K F B H fs U->sat Z B (RR K B U) F H (jsF gs ax fs) Q->tJs (gs.map (tF K Z)) ax U H Q
 | [],ax,U,H,Q,F,B,fs,ok,s=>by
  unfold jsF at s;split at s
  next hl=>exact⟨tQ hl De,s F H _ Le.refl (RR.of ok rfl)⟩
  .exact s.elim
 |g::gs,ax,U,H,Q,F,B,fs,ok,s=>by
  refine⟨F,B,fs,ok,Au (k:=λx fs=>match x with|.t (.str z)=>if(ax++z).length<=big then jsF gs (ax++z) fs else .bad|_=>.bad) s λr ag F1 H1 u l ay rx s1=>?_⟩;split at s1
  .rename_i z;split at s1
   next hz=>exact⟨z,rx,tQ hz De,JbL gs (ax++z) ay s1⟩
   .exact s1.elim
  .exact s1.elim
theorem Jbd(h:FEs X Z (v1::v2::es) gs):FE X Z (.JoinedStr (v1::v2::es) jp) (jsF gs Str.empty) :=
 AG (Jaq h.pes) λU H Q ⟨F,B,fs,ok,s⟩=>JbL gs Str.empty ok s
end
section
variable{X:Cx}{Z:Xp}{a:Expr}{x:Str}{ts:List Str}{f:FS->Out Rv}{p pos:Pos}
end
noncomputable def YQ:T->Bool
 |.o=>true
 |.v _=>true
 |.int _=>true
 |.str _=>true
 |_=>false
section
variable{K:Fg}{F F':Wd}{H:Hp}
theorem AF.atom:∀{t:T}{v:V},YQ t=true->AF K F H t v->AF K F' H t v/\∀b,v≠.ref b
 |.o,_,_,h=>by cases h;exact⟨rfl,λ_=>nofun⟩
 |.v _,_,_,h=>by cases h;exact⟨rfl,λ_=>nofun⟩
 |.int _,_,_,h=>by cases h;exact⟨rfl,λ_=>nofun⟩
 |.str _,_,_,h=>by cases h;exact⟨rfl,λ_=>nofun⟩
 |.tup _,_,e,_=>by cases e
 |.lst _,_,e,_=>by cases e
 |.zY _,_,e,_=>by cases e
 |.l _ _,_,e,_=>by cases e
 |.dT _ _,_,e,_=>by cases e
 |.ins _ _ _,_,e,_=>by cases e
 |.dF _ _,_,e,_=>by cases e
 |.zD _,_,e,_=>by cases e
end
section
variable{K:Fg}{F:Wd}{H:Hp}{B:Nat->Option V}
end
section
variable{K:Fg}{F:Wd}{H:Hp}{B:Nat->Option V}{fs:FS}{U:St}
theorem J5:∀{ah:List (Str×V)}{os:List FO}{L:List Addr},Aw K F H os (ah.map (·.2)) L->BB (ah.map (·.1)) os f=some o ->
  ∃v L1 A Z,ah.lookup f=some v/\AO K F H o v L1/\L=A++(L1++Z)/\∀H' o' eA,(∀a∈A++Z,H' a=H a)->Le F H F H'->AO K F H' o' v eA->Aw K F H' (B6 (ah.map (·.1)) os f o') (ah.map (·.2)) (A++(eA++Z))
 | [],os,L,r,e=>by cases os<;>simp[BB]at e
 |(g,x)::ah,os,L,r,e=>by
  cases os with
  |nil=>simp[BB]at e
  |cons o1 os =>
   obtain⟨v,w,L1,L2,ee,r1,r2,rfl⟩:=r;cases ee;simp only[sX,BB]at e;rw[ug];cases hb:f==g with
   |true =>rw[hb]at e;cases e;refine⟨x,L1,[],L2,rfl,r1,rfl,λH' o' eA k l ro=>?_⟩;simp only[sX,B6,hb,Aw];exact⟨x,_,eA,L2,rfl,ro,Aw.le l (λa m=>k a (by simpa using m)) r2,rfl⟩
   |false =>
    rw[hb]at e;obtain⟨v,M,A,Z,h1,h2,rfl,h3⟩:=J5 r2 (by simpa using e);refine⟨v,M,L1++A,Z,h1,h2,by simp,λH' o' eA k l ro=>?_⟩;have:=h3 H' o' eA (λa m=>k a (by
     rcases sZ.mp m with m|m
     .simp[m]
     .simp[m])) l ro
    simp only[sX,B6,hb];exact⟨x,_,L1,_,rfl,r1.le l λa m=>k a (by simp[m]),this,by simp⟩
theorem Okk.fld{os:List FO}(ok:Okk K F B H fs U)(e:AE fs i=some (.ins C gs os))(ef:BB gs os f=some o) :
  ∃a dx ah v L1,U[i]?=some (some (.ref a))/\H a=some (.ins C dx ah)/\ah.map (·.1)=gs/\ah.lookup f=some v/\AO K F H o v L1/\a∉L1/\(∀b∈L1,¬F b/\¬F.p b)/\L1.Nodup /\
   ∀o' H',(∀b,b∉L1->H b≠none->H' b=H b)->AO K F H' o' v L1->Okk K F B H' (putAt fs i (.ins C gs (B6 gs os f o'))) U/\Le F H F H':=by
 obtain⟨v,L2,a1,a2,a3,a4,a5⟩:=ok.own e;have d2:=AO.def a2;obtain⟨a,dx,ah,L3,rfl,hd,rfl,ro,rfl⟩:=a2;obtain⟨v,L1,A,Z,e1,r1,rfl,bk⟩:=J5 ro ef;have nd:=uc.mp a4;have ie:=sT.mp nd.2;have jj:=sT.mp ie.2.1;have m1:∀b∈L1,b∈a::(A++(L1++Z)):=λb m=>by simp[m]
 refine⟨a,dx,ah,v,L1,a1,hd,rfl,e1,r1,λm=>nd.1 (by simp[m]),λb m=>a3 b (m1 b m),jj.1,λo' H' k j0=>?_⟩;have q:=bk H' o' L1 (λb m=>k b (λm1=>by
   rcases sZ.mp m with m|m
   .exact ie.2.2 b m b (tm _ m1) rfl
   .exact jj.2.2 b m1 b m rfl) (d2 b (by
   rcases sZ.mp m with m|m
   .simp[m]
   .simp[m]))) (by
  obtain⟨L,o9⟩:=ok;exact⟨λb f=>⟨f,k b (λm=>(a3 b (m1 b m)).1 f) (o9.fd b f)⟩,λb f=>⟨f,k b (λm=>(a3 b (m1 b m)).2 f) (o9.pd b f)⟩⟩) j0
 exact a5 _ H' (λb hb hn=>k b (λm=>hb (m1 b m)) hn) (by exact⟨a,dx,ah,_,rfl,by rw[k a (λm=>nd.1 (by simp[m])) (d2 a (by simp))];exact hd,rfl,q,rfl⟩)
end
section
variable{X:Cx}{Z:Xp}{x f:Str}{e:Expr}{fe:FS->Out Rv}{C:Addr}{p1 p2 aA aD pos:Pos}
end
section
variable{X:Cx}{Z:Xp}{x f:Str}{e:Expr}{fe:FS->Out Rv}{C:Addr}{p1 p2 p3 p4 p5 p6 aA aD pos:Pos}{j:Nat}
noncomputable def YR:FO->Option (List Key×List FO)
 |.l [] []=>some ([],[])
 |.dO ks os=>some (ks,os)
 |_=>none
theorem QM{os:List FO}(e:YR o=some (ks,os))(r:AO K F H o v L) :
  ∃a ah L',v=.ref a/\H a=some (.l ah)/\ah.map (·.1)=ks/\Aw K F H os (ah.map (·.2)) L'/\L=a::L':=by
 unfold YR at e;split at e
 .cases e;obtain⟨a,ah,rfl,hd,hk,_,rfl⟩:=r;have:=by simpa using hk
  subst this;exact⟨a,[],[],rfl,hd,rfl,⟨rfl,rfl⟩,rfl⟩
 .cases e;exact r
 .cases e
noncomputable def J8(C:Addr)(f:Str)(i jy:Nat):FS->SO:=λfs=>match AE fs i,fs[jy]? with|some (.ins C' gs os),some (some (.val y))=>if C'=C then(match BB gs os f,EN y with|some o,some k=>(match YR o with|some (ks,ds)=>if ks.length<big/\(ks.any λq=>decide (q=k))=false then .nx (putAt fs i (.ins C gs (B6 gs os f (.dO (ks++[k]) (ds++[.l [] []])))))else .bad|none=>.bad)|_,_=>.bad)else .bad|_,_=>.bad
theorem OZ{k:Key}(h:k∉ah.map (·.1)):putK ah k v=ah++[(k,v)]:=by unfold putK;rw[if_neg];intro z;obtain⟨q,hq,e⟩:=vJ.mp z;exact h (tw.mpr ⟨q,hq,tM e⟩)
set_option tactic.hygienic true in
theorem PY(hu:X.A.units+1<cLine)(c:Cls X.K C)(n:Be X.K C f)(i jy:Nat)(hx:PE X (.Name x p1) (Ow i))(hy:PE X (.Name y p3) (Ow jy))(kq:attributeBase (.Name x p1) f X.env (eval (.Name x p1) X.env)=eval (.Name x p1) X.env:=by rfl)
  (hs:swapsWith (.Dict [] [] p5) (some (.Subscript (.Attribute (.Name x p1) f p2) (.Name y p3) p4)) pos.line X.env=pure false:=by rfl) :
  GS X Z (.Assign [.Subscript (.Attribute (.Name x p1) f p2) (.Name y p3) p4] (.Dict [] [] p5) pos) (J8 C f i jy):=by
 refine B8 (JE hu (Kv hx kq) hy Kw hs) λD U H ao=>?_
 obtain⟨F,B,fs,ok,s⟩:= ao;unfold J8 at s;split at s
 .rename_i C' gs os y' eo ey;split at s
  .rename_i hC;subst hC;split at s
   .rename_i o k ef ek;split at s
    .rename_i ks ds ed;split at s
     .rename_i hk;intro p hp;have q:RR X.K B U F (upd H p (.l [])) fs (.nw (.l [] [])) (.ref p):=RR.alloc ok hp (by exact⟨p,[],rfl,Am,rfl,rfl,rfl⟩);obtain⟨v,L2,L',a1,a2,a3,a4,a5,a6⟩:=RR.put q eo;obtain⟨a,dx,ah,L3,rfl,hd,rfl,ro,rfl⟩:=a2;obtain⟨v1,M1,A,Zz,e1,r1,rfl,bk⟩:=J5 ro ef;obtain⟨b,aH,M2,rfl,aR,rfl,lj,rfl⟩:=QM ed r1;have eL:L'=[p]:=by have a3:AO X.K F (upd H p (.l [])) (.l [] []) (.ref p) L':=a3;obtain⟨_,_,z,_,_,_,rfl⟩:=a3;cases z;rfl
      subst eL;obtain⟨L9,o9⟩:=id q.ok;obtain⟨w,N1,N2,N3,e6,_,h1,_⟩:=o9.sl.pick ey;obtain⟨uy,rfl,ry,_⟩:=h1;have:=Cj ek ry;subst this;have nb:=a5 b (by simp);have mb:b∈a::(A++((b::M2)++Zz)):=by simp
      have gR:=sT.mp a4;have bQ:=uc.mp gR.1;have ie:=sT.mp bQ.2;have jj:=sT.mp ie.2.1;have l1:Le F (upd H p (.l [])) F (upd (upd H p (.l [])) b (.l (aH++[(k,.ref p)]))):=⟨λz f=>⟨f,Aj λq=>nb.1 (q▸f)⟩,λz f=>⟨f,Aj λq=>nb.2 (q▸f)⟩⟩
      have rE:AO X.K F (upd (upd H p (.l [])) b (.l (aH++[(k,.ref p)]))) (.dO (aH.map (·.1)++[k]) (ds++[.l [] []])) (.ref b) (b::(M2++[p])):=by refine⟨b,aH++[(k,.ref p)],M2++[p],rfl,Am,by simp,?_,rfl⟩;rw[sU];refine Aw.app (Aw.le l1 (λz m=>Aj λq=>(uc.mp jj.1).1 (q▸m)) lj) ?_;exact⟨p,[],rfl,by rw[Aj (λz=>gR.2.2 b mb p (by simp) z.symm)];exact Am,rfl,rfl,rfl⟩
      obtain⟨dJ,l'⟩:=a6 (.ins C' (ah.map (·.1)) (B6 (ah.map (·.1)) os f (.dO (aH.map (·.1)++[k]) (ds++[.l [] []])))) (upd (upd H p (.l [])) b (.l (aH++[(k,.ref p)]))) (a::(A++((b::(M2++[p]))++Zz))) (λz hz _=>Aj λq=>hz (by rwa[q])) (by
       exact⟨a,dx,ah,_,rfl,by rw[Aj (λz=>bQ.1 (by rw[z];simp))];exact hd,rfl,(bk (upd (upd H p (.l [])) b (.l (aH++[(k,.ref p)]))) _ _ (λz m=>Aj λq=>by
       subst q;rcases sZ.mp m with m|m
       .exact ie.2.2 z m z (by simp) rfl
       .exact jj.2.2 z (by simp) z m rfl) l1 rE),rfl⟩) (by
       have pm:(a::(A++((b::(M2++[p]))++Zz))).Perm ((a::(A++((b::M2)++Zz)))++[p]):=by simp only[u0,ub];refine List.Perm.cons _ (List.Perm.append_left _ (List.Perm.cons _ (List.Perm.append_left _ ?_)));exact(List.perm_append_comm (l₁:=[p]))
       exact pm.nodup_iff.mpr a4) (λz hz=>by
       simp only[tH,sZ,u0,or_false]at hz ⊢;rcases hz with h|h|h|(h|h)|h
       .exact .inl (.inl h)
       .exact .inl (.inr (.inl h))
       .exact .inl (.inr (.inr (.inl h)))
       .exact .inl (.inr (.inr (.inr (.inl h))))
       .exact .inr h
       .exact .inl (.inr (.inr (.inr (.inr h)))))
      refine⟨_,a1,a,C',dx,ah,.ref b,rfl,hd,c,n,e1,kV k,e6,b,_,rfl,L7.k aR (by have:=hk.1;rw[tf]at this;exact uC this FZ),?_⟩;rw[OZ (λm=>by have:=vF.mp hk.2 k m;simp at this)];exact s F _ U ((AB ok hp).trans l') dJ
     .exact s.elim
    .exact s.elim
   .exact s.elim
  .exact s.elim
 .exact s.elim
end
noncomputable def LR(fa:FS->Out (List Rv)):FS->Out Rv:=λfs=>(fa fs).bind λrs fs=>match rs with| [.t x,.t y]=>(match Jl x,Jl y with|some xs,some ys=>(match Gj xs with|some ks=>if ks.Nodup/\ks.length=ys.length then .ok (.nw (.l ks ys)) fs else .bad|none=>.bad)|_,_=>.bad)|_=>.bad
noncomputable def Rw(x:T):List T->Option Bool
 | []=>some false
 |y::ys=>(eqT 9 y x).bind λb=>(Rw x ys).map (b||·)
noncomputable def LO:Rv->Rv->FS->Out Rv:=λx y fs=>match x with|.t x=>(match(DG fs y).bind (Rw x)with|some b=>okT (.v !b) fs|none=>.bad)|_=>.bad
noncomputable def A6(fs:FS):FS:=fs.map λs=>match s with|some (.val t)=>some (.val t)|_=>none
noncomputable def JF(j:Nat)(f:FS->Out Rv):FS->Out Rv:=λfs=>match AE fs j with|some o=>(match f ((A6 fs).set j (some (.val (toT o))))with|.ok (.t t) _=>if YQ t=true then .ok (.t t) fs else .bad|.exc c τ=>.exc c τ|_=>.bad)|none=>.bad
noncomputable def Hc:List Key->List FO->Key->Option FO
 |k::ks,o::os,j=>if k=j then some o else Hc ks os j
 |_,_,_=>none
noncomputable def Hf:List Key->List FO->Key->FO->List FO
 |k::ks,o::os,j,x=>if k=j then x::os else o::Hf ks os j x
 |_,os,_,_=>os
noncomputable def dput2(C:Addr)(f:Str)(i jy jz:Nat)(fv:FS->Out Rv):FS->SO:=λfs=>SO.of (fv fs) λr fs=>match r,AE fs i,fs[jy]?,fs[jz]? with|.t t,some (.ins C' gs os),some (some (.val y)),some (some (.val z))=>if C'=C then(match BB gs os f,EN y,EN z with|some (.dO ks ds),some k,some k2=>(match Hc ks ds k with|some (.l eS eU)=>if eS.length<big then .nx (putAt fs i (.ins C gs (B6 gs os f (.dO ks (Hf ks ds k (.l (Ec eS eU k2 t).1 (Ec eS eU k2 t).2))))))else .bad|_=>.bad)|_,_,_=>.bad)else .bad|_,_,_,_=>.bad
end FL
namespace L2
open PySem PySem.Spec
end L2
namespace FL
open PySem PySem.Spec L2
section
variable{X:Cx}{Z:Xp}{tg l o a b e:Expr}{f fa fb:FS->Out Rv}{g:FS->Out (List Rv)}{p1 p2 pos gx cR aA aD bH kp cp:Pos}{bx:List Expr}{k0 j:Nat}{d:Int}
theorem MA{ks:List Key}(r:Ag K F H ys vs)(h:ks.length=ys.length):(ks.zip vs).map (·.1)=ks/\(ks.zip vs).map (·.2)=vs:=by have hl:=r.len;exact⟨uY (by lia),List.map_snd_zip (by lia)⟩
set_option tactic.hygienic true in
theorem LQ(hc:X.calm=true)(iZ:X.mg "dict"=none)(eE:X.mg "zip"=none)(ha:FA X Z [a,b] g)(kD:Gl X "dict":=by rfl)(gi:Gl X "zip":=by rfl)
  (he:starEach [(.Call (.Name "zip" p2) [a,b] [] cR:Expr)] X.env=[(false,eval (.Call (.Name "zip" p2) [a,b] [] cR) X.env)]:=by rfl) (hs:starEach [a,b] X.env=[(false,eval a X.env),(false,eval b X.env)]:=by rfl) (aW:starEach [b] X.env=[(false,eval b X.env)]:=by rfl) :
  FE X Z (.Call (.Name "dict" p1) [.Call (.Name "zip" p2) [a,b] [] cR] [] gx) (LR g):=by
 refine AG (LB hc iZ eE ha kD gi he hs aW) λU H Q ao => ?_
 obtain⟨F,B,fs,ok,s⟩:= ao;refine⟨F,B,fs,ok,As s λrs ag F1 H1 us l q s1=>?_⟩;split at s1
 .rename_i x y;split at s1
  .rename_i xs ys e1 e2;split at s1
   .rename_i ks ek;split at s1
    next hk=>obtain⟨ay,u,w,rfl,rx,u2,w2,rfl,ry,rfl⟩:=q;obtain⟨b1,a1,vs,rfl,q1,h1⟩:=E8 rx e1;obtain⟨b2,a2,ws,rfl,q2,h2⟩:=E8 ry e2;have ev:=DN ek q1;subst ev;obtain⟨z1,z2⟩:=MA q2 hk.2;refine⟨b1,a1,b2,a2,ks,ws,rfl,h1 F1 H1 λ_ f=>⟨f,rfl⟩,h2 F1 H1 λ_ f=>⟨f,rfl⟩,hk.1,by rw[q2.len];exact hk.2,λd hd=>?_⟩;refine s1 F1 _ (.ref d) (AB ay hd) (RR.alloc ay hd ?_);exact⟨d,ks.zip ws,rfl,Am,z1,by rw[z2];exact q2.le (AB ay hd),rfl⟩
    .exact s1.elim
   .exact s1.elim
  .exact s1.elim
 .exact s1.elim
end
section
variable{X:Cx}{Z:Xp}{a b e:Expr}{f fa fb:FS->Out Rv}{pos p1 p2 rZ oU:Pos}{j1 j2:Nat}{x1 x2 k1 k2:Str}
def JbA(X:Cx)(H:Hp)(x y:V)(b:Bool):Prop:=∀(aa:List (Addr×Obj))(U:St)(s:Shared)(u w:Value),Inv X aa U H s->RelV x u->RelV y w->∀(Q:Value->Shared->Prop),Q (.bool !b) s->wpAny (model X.prog X.w) X.A (compareOp .NotIn u w) Q X.xe s
theorem S8:OpR X (compareOp .NotIn) (λx y H Q=>∃b,JbA X H x y b/\Q (.v !b) H):=by intro aa s U H x y v u Q I rx ry ⟨b,h,q⟩;exact h aa U s v u I rx ry _ ⟨.v !b,H,I,rfl,q⟩
theorem Nv:∀{ys:List T}{b:Bool},Rw x ys=some b->(∀(i:Nat)(y:T),ys[i]?=some y->∃c,eqT 9 y x=some c)/\(b=true↔∃(i:Nat)(y:T),ys[i]?=some y/\eqT 9 y x=some true)
 | [],b,e=>by cases e;exact⟨λi y h=>by simp at h,by simp⟩
 |y::ys,b,e=>by
  simp only[Rw,tX,tu]at e;obtain⟨c,e1,d,e2,rfl⟩:=e;obtain⟨h1,h2⟩:=Nv e2;refine⟨λi z h=>?_,?_⟩
  .cases i with|zero=>simp at h;subst h;exact⟨c,e1⟩|succ i=>exact h1 i z (by simpa using h)
  .rw[uT,h2];constructor
   .rintro(h|⟨i,z,h,h'⟩)
    .exact⟨0,y,rfl,by rw[e1,h]⟩
    .exact⟨i+1,z,by simpa using h,h'⟩
   .rintro⟨i,z,h,h'⟩
    cases i with|zero=>simp at h;subst h;rw[e1]at h';cases h';exact .inl rfl|succ i=>exact .inr ⟨i,z,by simpa using h,h'⟩
open Classical in
theorem Pn{b:Bool}(hu:X.A.units+61<cLine)(e:Rw x ys=some b)(rx:AF X.K F H x v)(sy:SqL X.K H p vs)(ry:Ag X.K F H ys vs):JbA X H v (.ref p) b:=by
 intro aa U s u w I qx qy Q q;cases qy;obtain⟨aq,vy,pl,hz⟩:=I.list sy;obtain⟨h1,h2⟩:=Nv e;have key:∀(i:Nat)(z:T),ys[i]?=some z->∃w',aq[i]?=some w'/\∀c,eqT 9 z x=some c->SeqAt.EqAt X.A.in1 s w' u c:=λi z ib=>by obtain⟨v1,e1,r1⟩:=ry.at ib;obtain⟨w1,e2,r2⟩:=vy.get e1;exact⟨w1,e2,λc hc=>RH I (by show X.A.units+1+9<_;lia) hc r1 rx r2 qx⟩
 have ln:aq.length=ys.length:=by rw[<- vy.length,ry.len]
 let ee:Value->Bool:=λw'=>decide (∃(i:Nat)(z:T),ys[i]?=some z/\aq[i]?=some w'/\eqT 9 z x=some true)
 refine SeqAt.notIn_listAt ee pl.isList (λw' hw=>?_) ?_
 .have qS:w'∈aq:=by simpa using hw
  obtain⟨i,hi,ei⟩:=u4 qS;have g6:aq[i]?=some w':=by rw[sS hi,ei]
  by_cases h:∃(i:Nat)(z:T),ys[i]?=some z/\aq[i]?=some w'/\eqT 9 z x=some true
  .obtain⟨i,z,g1,g2,g3⟩:=id h;obtain⟨w1,f1,f2⟩:=key i z g1;rw[g2]at f1;cases f1;rw[show ee w'=true from t9 h];exact f2 true g3
  .have gy:ys[i]?=some (ys[i]'(by lia)):=sS (by lia);obtain⟨c,ec⟩:=h1 i _ gy;obtain⟨w1,f1,f2⟩:=key i _ gy;rw[g6]at f1;cases f1;rw[show ee w'=false from tS h];cases c with|true=>exact(h ⟨i,_,gy,g6,ec⟩).elim|false=>exact f2 false ec
 .have:aq.toArray.any ee=b:=by
   rw[uK,h2];simp only[List.any_toArray,vJ];constructor
   .rintro⟨w',_,h⟩
    obtain⟨i,z,g1,_,g3⟩:=tM h;exact⟨i,z,g1,g3⟩
   .rintro⟨i,z,g1,g3⟩
    obtain⟨w1,f1,_⟩:=key i z g1;exact⟨w1,uk f1,t9 ⟨i,z,g1,f1,g3⟩⟩
  rwa[this]
set_option tactic.hygienic true in
theorem Tj(hu:X.A.units+61<cLine):OpF X.K Z (λx y H Q=>∃b,JbA X H x y b/\Q (.v !b) H) LO:=by
 intro F B H U fs x y u w Q ok rx ry s;unfold LO at s;split at s
 .rename_i t;split at s
  next b e=>rw[tX]at e;obtain⟨ys,e1,e2⟩:=e;obtain⟨p,vs,rfl,hq,r⟩:=Br ok ry e1;exact⟨b,Pn hu e2 rx hq r,s F H _ Le.refl (RR.of ok rfl)⟩
  .exact s.elim
 .exact s.elim
theorem Uq(hu:X.A.units+61<cLine)(ha:FE X Z a fa)(hb:FE X Z b fb)(hm:behindInMarks .NotIn b=false:=by rfl):FT X Z (.Compare a [.NotIn] [b] pos) (asB (Ae LO fa fb)):=DY (Tj hu) S8 ha hb hm
end
end FL
namespace FL
open PySem PySem.Spec L2
section
variable{K:Fg}{F:Wd}{H:Hp}
theorem Ao.vals:∀{fs:FS}{U:St}{L:List Addr},Ao K F H fs U L->Ao K F H (A6 fs) U []
 | [],U,L,h=>by exact⟨h.1,rfl⟩
 |s::r,U,L,h=>by
  obtain⟨v,av,L1,L2,rfl,h1,h2,rfl⟩:=h.Gy;have ih:=Ao.vals h2
  match s,h1 with|Option.none,h1=>exact Ao.cons (L1:=[]) (by exact rfl) ih|some (.val t),h1 =>obtain⟨u,rfl,q,_⟩:=h1;exact Ao.cons (L1:=[]) (by exact⟨u,rfl,q,rfl⟩) ih|some (.own o),h1=>exact Ao.cons (L1:=[]) (by exact rfl) ih|some (.bor o),h1=>exact Ao.cons (L1:=[]) (by exact rfl) ih
set_option tactic.hygienic true in
theorem Uz(j:Nat)(he:FE X Z e f):FE X Z e (JF j f):=by
 refine AG he λU H Q ao=>?_
 obtain⟨F,B,fs,⟨L,ok⟩,s⟩:= ao;unfold JF at s;split at s
 .rename_i o eo;obtain⟨sl,es,ho⟩:∃sl,fs[j]?=some (some sl)/\(sl=.own o\/sl=.bor o):=by
   unfold AE at eo;split at eo
   next o' es=>cases eo;exact⟨_,es,.inl rfl⟩
   next o' es=>cases eo;exact⟨_,es,.inr rfl⟩
   .cases eo
  obtain⟨v,L1,Lj,L3,e1,rfl,h1,_⟩:=ok.sl.pick es;obtain⟨u,rfl,q⟩:∃u,v=some u/\AO X.K F H o u Lj:=by
   rcases ho with rfl|rfl
   .exact h1
   .exact h1
  have nd:=ok.nd;have eY:∀a∈L1++L3,a∉Lj:=λa ha hb=>by
   rw[sT]at nd;rcases sZ.mp ha with ha|ha
   .exact nd.2.2 a ha a (tm _ hb) rfl
   .exact(sT.mp nd.2.1).2.2 a hb a ha rfl
  have mL:∀a,a∈L1++(Lj++L3)->a∈L1++L3\/a∈Lj:=λa h=>by
   simp only[sZ]at h ⊢;rcases h with h|h|h
   .exact .inl (.inl h)
   .exact .inr h
   .exact .inl (.inr h)
  have mO:∀a,a∈L1++L3->a∈L1++(Lj++L3):=λa h=>by rcases sZ.mp h with h|h<;>simp[h]
  have lF:Le F H ⟨λa=>F a\/a∈Lj,F.p⟩ H:=⟨λa f=>⟨.inl f,rfl⟩,λa f=>⟨f,rfl⟩⟩
  have ay:Ok X.K ⟨λa=>F a\/a∈Lj,λa=>F.p a\/a∈L1++L3⟩ B H ((A6 fs).set j (some (.val (toT o)))) U []:=by
   have h0:Ao X.K ⟨λa=>F a\/a∈Lj,λa=>F.p a\/a∈L1++L3⟩ H (A6 fs) U []:=by have:=(Ao.vals ok.sl).le lF (by simp);exact Ao.wp this
   obtain⟨v',M1,M2,M3,z1,z2,z3,z4⟩:=h0.pick (by
   unfold A6;rw[tR,es];rcases ho with rfl|rfl<;>rfl);obtain⟨rfl,rfl,rfl⟩:=(by simpa using z2.symm)
   have z5:=z4 _ H (some (.val (toT o))) (some u) [] Le.refl (λ_ m=>nomatch m) ⟨u,rfl,(AF.wp (AO.frz lF (λa m=>.inr m) q)),rfl⟩;rw[A8 e1]at z5;refine⟨z5,ua,(λ_ m=>nomatch m),λa f=>?_,λi ob e=>?_,λa f=>?_,λa f z=>?_,(λ_ m=>nomatch m)⟩
   .rcases f with f|f
    .exact ok.fd a f
    .exact AO.def q a f
   .exfalso;by_cases cL:j=i
    .subst cL;rw[um (by unfold A6;rw[tf];exact((sY.mp es).1))]at e;cases e
    .rw[uq cL]at e;unfold A6 at e;rw[tR,tu]at e;obtain⟨x,_,ex⟩:=e;split at ex<;>cases ex
   .rcases f with f|f
    .exact ok.pd a f
    .exact ok.sl.def a (mO a f)
   .rcases f with f|f
    .rcases z with z|z
     .exact ok.pf a f z
     .exact ok.nf a (mO a z) f
    .rcases z with z|z
     .exact ok.pl a (by simp[f]) z
     .exact eY a z f
  refine⟨_,B,_,⟨[],ay⟩,?_⟩;cases ef:f ((A6 fs).set j (some (.val (toT o))))with
  |exc c τ=>rw[ef]at s;exact Z.mono s ⟨λa f=>⟨.inl f,rfl⟩,λa f=>⟨.inl f,rfl⟩⟩
  |bad=>rw[ef]at s;exact s.elim
  |ok r τ =>
   rw[ef]at s;cases r with
   |nw t=>exact s.elim
   |n t=>exact s.elim
   |t t =>
    dsimp only at s;split at s
    .rename_i ha;intro F2 H2 w l2 q2;obtain⟨_,_,_,⟨_,rv⟩,_⟩:=q2;have lq:Le F H F H2:=⟨λa f=>⟨f,(l2.f a (.inl f)).2⟩,λa f=>⟨f,(l2.p a (.inl f)).2⟩⟩
     refine s F H2 w lq (RR.of ⟨L1++(Lj++L3),ok.sl.le lq (λa m=>by
      rcases mL a m with m|m
      .exact(l2.p a (.inr m)).2
      .exact(l2.f a (.inr m)).2),ok.nd,ok.nf,λa f=>by rw[(lq.f a f).2];exact ok.fd a f,ok.bo,λa f=>by rw[(lq.p a f).2];exact ok.pd a f,ok.pf,ok.pl⟩ (AF.atom ha rv).1)
    .exact s.elim
 .exact s.elim
end
section
variable{K:Fg}{F:Wd}{H:Hp}
theorem Nh:∀{ah:List (Key×V)}{os:List FO}{L:List Addr},Aw K F H os (ah.map (·.2)) L->Hc (ah.map (·.1)) os k=some o ->
  ∃v L1 A Z,Js ah k=some v/\AO K F H o v L1/\L=A++(L1++Z)/\∀H' o' eA,(∀a∈A++Z,H' a=H a)->Le F H F H'->AO K F H' o' v eA->Aw K F H' (Hf (ah.map (·.1)) os k o') (ah.map (·.2)) (A++(eA++Z))
 | [],os,L,r,e=>by cases os<;>simp[Hc]at e
 |(g,x)::ah,os,L,r,e=>by
  cases os with
  |nil=>simp[Hc]at e
  |cons o1 os =>
   obtain⟨v,w,L1,L2,ee,r1,r2,rfl⟩:=r;cases ee;simp only[sX,Hc]at e;by_cases hb:g=k
   .rw[if_pos hb]at e;cases e;refine⟨x,L1,[],L2,DK hb,r1,rfl,λH' o' eA kk l ro=>?_⟩;simp only[sX,Hf,hb,Aw];exact⟨x,_,eA,L2,rfl,ro,Aw.le l (λa m=>kk a (by simpa using m)) r2,rfl⟩
   .rw[if_neg hb]at e;obtain⟨v,M,A,Z,h1,h2,rfl,h3⟩:=Nh r2 e;refine⟨v,M,L1++A,Z,by rw[DL hb];exact h1,h2,by simp,λH' o' eA kk l ro=>?_⟩;have:=h3 H' o' eA (λa m=>kk a (by
     rcases sZ.mp m with m|m
     .simp[m]
     .simp[m])) l ro
    simp only[sX,Hf,hb,Aw];exact⟨x,_,L1,_,rfl,r1.le l λa m=>kk a (by simp[m]),this,by simp⟩
end
section
variable{X:Cx}{Z:Xp}{x y z f:Str}{v:Expr}{fv:FS->Out Rv}{C:Addr}{p1 p2 p3 p4 p5 p6 pos:Pos}
set_option tactic.hygienic true in
theorem P0(hu:X.A.units+1<cLine)(c:Cls X.K C)(n:Be X.K C f)(i jy jz:Nat)(hx:PE X (.Name x p1) (Ow i))(hy:PE X (.Name y p3) (Ow jy))(hz:PE X (.Name z p5) (Ow jz))(hv:FE X Z v fv)(kq:attributeBase (.Name x p1) f X.env (eval (.Name x p1) X.env)=eval (.Name x p1) X.env:=by rfl)
  (hs:swapsWith v (some (.Subscript (.Subscript (.Attribute (.Name x p1) f p2) (.Name y p3) p4) (.Name z p5) p6)) pos.line X.env=pure false:=by rfl) (hn:Jbz (.Name y p3):=by exact λ_ _=>rfl) :
  GS X Z (.Assign [.Subscript (.Subscript (.Attribute (.Name x p1) f p2) (.Name y p3) p4) (.Name z p5) p6] v pos) (dput2 C f i jy jz fv):=by
 refine B8 (JE hu (S5 hu (Kv hx kq) hy hn) hz hv hs) λD U H ao => ?_
 obtain⟨F,B,fs,ok,s⟩:= ao;refine⟨F,B,fs,ok,BR s λr ag F1 H1 u l q s1=>?_⟩;split at s1
 .rename_i t C' gs os yt zt eo ey ez;split at s1
  .rename_i hC;subst hC;split at s1
   .rename_i ks ds k k2 ef ek pW;split at s1
    .rename_i eS eU ed;split at s1
     .rename_i eP;have ay:=q.ok;obtain⟨a,dx,ah,w,L1,a1,hd,rfl,e1,r1,na,nf,rg,bk⟩:=ay.fld eo ef;obtain⟨b,aH,M2,rfl,aR,rfl,lj,rfl⟩:=r1;obtain⟨v2,N,A,Zz,e2,r2,rfl,oP⟩:=Nh lj ed;obtain⟨c2,cN,rfl,c9,rfl,lu,rfl⟩:=r2;obtain⟨L9,o9⟩:=id ay;have slot:∀{j:Nat}{t':T}{kk:Key},ag[j]?=some (some (.val t'))->EN t'=some kk->U[j]?=some (some (kV kk)):=λ{j t' kk} ej et=>by obtain⟨w,_,_,_,e6,_,h1,_⟩:=o9.sl.pick ej;obtain⟨uy,rfl,ry,_⟩:=h1;have:=Cj et ry;subst this;exact e6
      have nA:=uc.mp rg;have jl:=sT.mp nA.2;have fc:=nf c2 (by simp);have lq:Le F1 H1 F1 (upd H1 c2 (.l (putK cN k2 u))):=⟨λa f=>⟨f,Aj λq=>fc.1 (q▸f)⟩,λa f=>⟨f,Aj λq=>fc.2 (q▸f)⟩⟩
      obtain⟨rq,rA⟩:=ER (by obtain⟨_,_,_,⟨_,rt⟩,_⟩:=q;exact rt) lu;have rH:AO X.K F1 (upd H1 c2 (.l (putK cN k2 u))) (.l (Ec (cN.map (·.1)) eU k2 t).1 (Ec (cN.map (·.1)) eU k2 t).2) (.ref c2) [c2]:=by exact⟨c2,putK cN k2 u,rfl,Am,rq,Ag.le lq rA,rfl⟩
      have rO:=oP (upd H1 c2 (.l (putK cN k2 u))) _ _ (λa m=>Aj λq=>by
       subst q;rcases sZ.mp m with m|m
       .exact jl.2.2 a m a (by simp) rfl
       .exact(sT.mp jl.2.1).2.2 a (by simp) a m rfl) lq rH
      obtain⟨dJ,l'⟩:=bk (.dO (aH.map (·.1)) (Hf (aH.map (·.1)) ds k (.l (Ec (cN.map (·.1)) eU k2 t).1 (Ec (cN.map (·.1)) eU k2 t).2))) (upd H1 c2 (.l (putK cN k2 u))) (λa hb _=>Aj λq=>hb (by rw[q];simp)) (by exact⟨b,aH,_,rfl,by rw[Aj (λzz=>nA.1 (by rw[zz];simp))];exact aR,rfl,rO,rfl⟩);exact⟨_,a1,a,C',dx,ah,.ref b,rfl,hd,c,n,e1,kV k,slot ey ek,b,.ref c2,rfl,by rw[<- e2];exact Jp.k aR,kV k2,slot ez pW,c2,_,rfl,L7.k c9 (by rw[tf]at eP;exact uC eP FZ),s1 F1 _ U l' dJ⟩
     .exact s1.elim
    .exact s1.elim
   .exact s1.elim
  .exact s1.elim
 .exact s1.elim
end
end FL
namespace FL
open PySem PySem.Spec L2 PyProof.Rows
section
variable{X:Cx}{Z:Xp}{x:Str}{k p:Nat}{ps:List Str}{Fn:FS->Out Rv}{e o:Expr}{es:List Expr}{fa:FS->Out (List Rv)}{fo f:FS->Out Rv}{pp pos aA np aD cp fp jp:Pos}{C:Addr}{m:Str}{v:Expr}{a:Str}{j:Nat}
end
noncomputable def JbP:Rv->Option Int->Option Int->FS->Out Rv:=λx lo hi fs=>match x with|.t (.str z)=>if(Txt.slice z lo hi).length<=big then okT (.str (Txt.slice z lo hi)) fs else .bad|_=>.bad
noncomputable def slS(f:FS->Out Rv)(l h:FS->Out (Option Int)):FS->Out Rv:=λfs=>(f fs).bnd λx fs=>(l fs).bind λlo fs=>(h fs).bind λhi fs=>JbP x lo hi fs
section
variable{X:Cx}{Z:Xp}{e:Expr}{lo hi:Option Expr}{f:FS->Out Rv}{l h:FS->Out (Option Int)}{pos p2:Pos}
set_option tactic.hygienic true in
theorem X1(he:FE X Z e f)(hl:FP X Z lo l)(hu:FP X Z hi h):FE X Z (.Subscript e (.Slice lo hi none p2) pos) (slS f l h):=by
 refine AG (Ku VW he hl hu) λU H Q ao => ?_
 obtain⟨F,B,fs,ok,s⟩:= ao;refine⟨F,B,fs,ok,Au s λx ag F1 H1 u l1 ay rx s1=>⟨F1,B,ag,ay,As s1 λlo au F2 H2 k9 l2 q2 s2=>?_⟩⟩;obtain⟨aN,rfl⟩:=q2;refine⟨F2,B,au,aN,As s2 λhi bX F3 H3 eD l3 q3 s3=>?_⟩;obtain⟨dM,rfl⟩:=q3;have j3:=(rx.le l2).le l3;unfold JbP at s3;split at s3
 .rename_i z;split at s3
  next hz=>have eu:u=.str z:=j3;subst eu;exact⟨z,rfl,by rw[sizeLine_eq];exact tQ hz (by decide),s3 F3 H3 _ Le.refl (RR.of dM rfl)⟩
  .exact s3.elim
 .exact s3.elim
end
end FL
namespace FL
open PySem PySem.Spec L2
noncomputable def D3:Int->List T->List T
 |_,[]=>[]
 |i,t::ts=>.tup [.int i,t]::D3 (i+1) ts
noncomputable def itE(f:FS->Out Rv):FS->Out (List T):=λfs=>(f fs).bnd λr fs=>match r with
 |.t x=>match Jl x with|some xs=>.ok (D3 0 xs) fs|none=>.bad
 |_=>.bad
noncomputable def Lu(n:Nat)(h:List T->FS->Option FS):T->FS->Option FS:=λt fs=>match t with|.lst ts=>if ts.length=n then h ts fs else none|_=>none
set_option tactic.hygienic true in
theorem Xt{X:Cx}{es:List Expr}{h:List T->FS->Option FS}{pos:Pos}{k n:Nat}(hc:X.calm=true)(h1:GTs X es h)(hn:(assignEach es X.env).length=n:=by rfl)(dH:(assignEach es X.env).findIdx? (·.1)=none:=by rfl):GT X (.Tuple es k pos) (Lu n h):=by
 refine MN (Ww hc h1 hn dH) λv U H Q ao=>?_
 obtain⟨F,B,fs,t,ok,r,s⟩:= ao;unfold Lu at s;split at s
 .rename_i ar e;split at e
  .rename_i ts;split at e
   next hl=>simp only[AF]at r;obtain⟨a,vs,rfl,_,hs,r⟩:=r;refine⟨a,vs,rfl,.inl (.inl hs),by rw[r.len];exact hl,F,B,fs,ts,ok,r,?_⟩;rw[e];exact s
   .cases e
  .cases e
 .exact s.elim
section
variable{X:Cx}{Z:Xp}{x a a2:Str}{v w:Expr}{f g:FS->Out Rv}{j j2:Nat}{np aD cp fp oU sg jp pos:Pos}
end
noncomputable def Qa:Rv->Rv->FS->Out Rv:=gI λi j fs=>if 0<j/\j.natAbs.log2<9000 then okT (.int (i/j)) fs else .bad
theorem Pf{X:Cx}:OpR X (binaryOp .FloorDiv) (rI (λ_ j=>0<j/\j.natAbs.log2<9000) λi j=>.int (i/j)):=opI λi j _ _ _ _ _ hc q=>by have h1:(0:Int)<j:=hc.1;exact PyProof.Rows.floordiv_int (by lia) (by rw[Int.fdiv_eq_ediv_of_nonneg i (by lia)];exact q) (.inl (PyProof.noPylong_of_log2 hc.2))
theorem Ts{K:Fg}{Z:Xp}:OpF K Z (rI (λ_ j=>0<j/\j.natAbs.log2<9000) λi j=>.int (i/j)) Qa:=MR (t:=λi j=>.int (i/j)) (λ_ _ _ _ _=>rfl) λi j fs=>by
 by_cases h:0<j/\j.natAbs.log2<9000
 .exact .inr ⟨h,if_pos h⟩
 .exact .inl (if_neg h)
theorem UG{X:Cx}{Z:Xp}{a b:Expr}{fa fb:FS->Out Rv}{pos:Pos}(ha:FE X Z a fa)(hb:FE X Z b fb):FE X Z (.BinOp a .FloorDiv b pos) (Ae Qa fa fb):=IL Ts Pf ha hb
mutual
noncomputable def noD:T->Bool
 |.o=>true
 |.v _=>true
 |.int _=>true
 |.str _=>true
 |.tup ts=>Rk ts
 |_=>false
noncomputable def Rk:List T->Bool
 | []=>true
 |t::ts=>noD t&&Rk ts
end
noncomputable def Ls(j:Nat)(f:FS->Out Rv):FS->Out Rv:=λfs=>match fs[j]? with|some (some (.own (.l ks ts)))=>(match f ((A6 fs).set j (some (.val (.dF ks ts))))with|.ok (.t t) _=>if noD t=true then .ok (.t t) fs else .bad|_=>.bad)|_=>.bad
section
variable{K:Fg}{F F':Wd}{H H':Hp}
mutual
theorem AF.noD(hF:∀a vs,F a->H a=some (.tup vs)->F' a/\H' a=some (.tup vs)):∀{t:T}{v:V},noD t=true->AF K F H t v->AF K F' H' t v
 |.o,_,_,h=>h
 |.v _,_,_,h=>h
 |.int _,_,_,h=>h
 |.str _,_,_,h=>h
 |.tup ts,_,e,h=>by simp only[FL.noD]at e;simp only[AF]at h ⊢;obtain⟨a,vs,rfl,s,r⟩:=h;exact⟨a,vs,rfl,⟨rfl,hF a vs s.2.1 s.2.2⟩,Ag.noD hF e r⟩
 |.lst _,_,e,_=>by simp[FL.noD]at e
 |.zY _,_,e,_=>by simp[FL.noD]at e
 |.l _ _,_,e,_=>by simp[FL.noD]at e
 |.dT _ _,_,e,_=>by simp[FL.noD]at e
 |.ins _ _ _,_,e,_=>by simp[FL.noD]at e
 |.dF _ _,_,e,_=>by simp[FL.noD]at e
 |.zD _,_,e,_=>by simp[FL.noD]at e
theorem Ag.noD(hF:∀a vs,F a->H a=some (.tup vs)->F' a/\H' a=some (.tup vs)):∀{ts:List T}{vs:List V},Rk ts=true->Ag K F H ts vs->Ag K F' H' ts vs
 | [],_,_,h=>h
 |t::ts,_,e,h=>by simp only[Rk,tO]at e;simp only[Ag]at h ⊢;obtain⟨v,r,rfl,h1,h2⟩:=h;exact⟨v,r,rfl,AF.noD hF e.1 h1,Ag.noD hF e.2 h2⟩
end
end
set_option tactic.hygienic true in
theorem Qh{X:Cx}{Z:Xp}{e:Expr}{f:FS->Out Rv}(j:Nat)(he:FE X Z e f):FE X Z e (Ls j f):=by
 refine AG (S0 he) λU H Q ao=>?_
 obtain⟨F,B,fs,⟨L,ok⟩,s⟩:= ao;unfold Ls at s;split at s
 .rename_i ks ts es;obtain⟨v,L1,Lj,L3,e1,rfl,h1,_⟩:=ok.sl.pick es;obtain⟨u,rfl,q⟩:=h1;simp only[AO]at q;obtain⟨a,ah,rfl,ha,hk,lu,rfl⟩:=q;have nd:=ok.nd;have ma:a∈L1++([a]++L3):=by simp
  have eY:∀b∈L1++L3,b≠a:=λb hb z=>by
   subst z;rw[sT]at nd;rcases sZ.mp hb with hb|hb
   .exact nd.2.2 b hb b (by simp) rfl
   .exact(sT.mp nd.2.1).2.2 b (by simp) b hb rfl
  have mL:∀b,b∈L1++([a]++L3)->b∈L1++L3\/b=a:=λb h=>by
   simp only[sZ,tD]at h ⊢;rcases h with h|h|h
   .exact .inl (.inl h)
   .exact .inr h
   .exact .inl (.inr h)
  have mO:∀b,b∈L1++L3->b∈L1++([a]++L3):=λb h=>by rcases sZ.mp h with h|h<;>simp[h]
  have fa:∀b,F b->b≠a:=λb f z=>ok.nf b (by rw[z];exact ma) f
  have pa:∀b,F.p b->b≠a:=λb f z=>ok.pl b (by rw[z];exact ma) f
  refine⟨a,ah,ha,λo=>?_⟩;have un:∀b,b≠a->upd H a (.frz o (.l ah)) b=H b:=λb z=>by unfold upd;rw[if_neg z]
  have lF:Le F H ⟨λb=>F b\/b=a,F.p⟩ (upd H a (.frz o (.l ah))):=⟨λb f=>⟨.inl f,un b (fa b f)⟩,λb f=>⟨f,un b (pa b f)⟩⟩
  have rt:AF X.K ⟨λb=>F b\/b=a,λb=>F.p b\/b∈L1++L3⟩ (upd H a (.frz o (.l ah))) (.dF ks ts) (.ref a):=by simp only[AF];exact⟨a,ah,rfl,.inr rfl,⟨o,Am⟩,hk,Ag.wp (F:=⟨λb=>F b\/b=a,F.p⟩) (Ag.le lF lu)⟩
  have hj:j<fs.length:=(sY.mp es).1;have ev:(A6 fs)[j]?=some none:=by unfold A6;rw[tR,es];rfl
  have ay:Ok X.K ⟨λb=>F b\/b=a,λb=>F.p b\/b∈L1++L3⟩ B (upd H a (.frz o (.l ah))) ((A6 fs).set j (some (.val (.dF ks ts)))) U []:=by
   have h0:Ao X.K ⟨λb=>F b\/b=a,λb=>F.p b\/b∈L1++L3⟩ (upd H a (.frz o (.l ah))) (A6 fs) U []:=by have:=(Ao.vals ok.sl).le lF (by simp);exact Ao.wp this
   obtain⟨v',M1,M2,M3,z1,z2,z3,z4⟩:=h0.pick ev;have zM:M1=[]/\M2=[]/\M3=[]:=by simpa using z2.symm
   obtain⟨rfl,rfl,rfl⟩:=zM;have z5:=z4 _ (upd H a (.frz o (.l ah))) (some (.val (.dF ks ts))) (some (.ref a)) [] Le.refl (λ_ m=>nomatch m) ⟨_,rfl,rt,rfl⟩;rw[A8 e1]at z5;refine⟨z5,ua,(λ_ m=>nomatch m),λb f=>?_,λi ob e=>?_,λb f=>?_,λb f z=>?_,(λ_ m=>nomatch m)⟩
   .rcases f with f|f
    .rw[un b (fa b f)];exact ok.fd b f
    .rw[f,Am];exact nofun
   .exfalso;by_cases cL:j=i
    .subst cL;rw[um (by unfold A6;rw[tf];exact hj)]at e;cases e
    .rw[uq cL]at e;unfold A6 at e;rw[tR,tu]at e;obtain⟨x,_,ex⟩:=e;split at ex<;>cases ex
   .rcases f with f|f
    .rw[un b (pa b f)];exact ok.pd b f
    .rw[un b (eY b f)];exact ok.sl.def b (mO b f)
   .rcases f with f|f
    .rcases z with z|z
     .exact ok.pf b f z
     .exact ok.nf b (mO b z) f
    .rcases z with z|z
     .exact pa b z f
     .exact eY b z f
  refine⟨_,B,_,⟨[],ay⟩,?_⟩;cases ef:f ((A6 fs).set j (some (.val (.dF ks ts))))with
  |exc c τ=>rw[ef]at s;exact s.elim
  |bad=>rw[ef]at s;exact s.elim
  |ok r τ =>
   rw[ef]at s;cases r with
   |nw t=>exact s.elim
   |n t=>exact s.elim
   |t t =>
    dsimp only at s;split at s
    .rename_i hn;intro F2 H2 w l2 q2;obtain⟨_,_,o2,⟨_,rv⟩,_⟩:=q2;have mh:H2 a=some (.frz o (.l ah)):=(l2.f a (.inr rfl)).2.trans Am;have eV:∀b,b≠a->upd H2 a (.l ah) b=H2 b:=λb z=>by unfold upd;rw[if_neg z]
     have kL:∀b∈L1++([a]++L3),upd H2 a (.l ah) b=H b:=λb m=>by
      rcases mL b m with m|m
      .rw[eV b (eY b m),(l2.p b (.inr m)).2,un b (eY b m)]
      .rw[m,Am,ha]
     have lq:Le F H ⟨λb=>F2 b/\b≠a,F.p⟩ (upd H2 a (.l ah)):=⟨λb f=>⟨⟨(l2.f b (.inl f)).1,fa b f⟩,by rw[eV b (fa b f),(l2.f b (.inl f)).2,un b (fa b f)]⟩,λb f=>⟨f,by rw[eV b (pa b f),(l2.p b (.inl f)).2,un b (pa b f)]⟩⟩
     refine⟨mh,s ⟨λb=>F2 b/\b≠a,F.p⟩ (upd H2 a (.l ah)) w lq (RR.of ⟨L1++([a]++L3),ok.sl.le lq kL,nd,λb m f=>?_,λb f=>by rw[eV b f.2];exact o2.fd b f.1,ok.bo,λb f=>by rw[(lq.p b f).2];exact ok.pd b f,λb f z=>o2.pf b f.1 (l2.p b (.inl z)).1,ok.pl⟩ (AF.noD (F:=F2) (H:=H2) (λb vs f z=>?_) hn rv))⟩
     .rcases mL b m with m|m
      .exact o2.pf b f.1 (l2.p b (.inr m)).1
      .exact f.2 m
     .have hb:b≠a:=λx=>by rw[x,mh]at z;cases z
      exact⟨⟨f,hb⟩,(eV b hb).trans z⟩
    .exact s.elim
 .exact s.elim
noncomputable def IS(fk fv:FS->Out Rv):FS->Out Rv:=λfs=>match fk fs with|.ok (.t x) ag=>(match fv ag with|.ok (.t y) au=>(match EN x with|some k=>.ok (.nw (.l [k] [y])) au|none=>.bad)|_=>.bad)|_=>.bad
set_option tactic.hygienic true in
theorem Qj{X:Cx}{Z:Xp}{k v:Expr}{fk fv:FS->Out Rv}{pos:Pos}(hk:FE X Z k fk)(hv:FE X Z v fv):FE X Z (.Dict [some k] [v] pos) (IS fk fv):=by
 refine AG (S4 (O7 hk hv SR) rfl rfl (by simp) (by simp)) λU H Q ⟨F,B,fs,⟨L,ok⟩,s⟩ p hp=>?_
 unfold IS at s;cases ek:fk fs with
 |bad=>rw[ek]at s;exact s.elim
 |exc c τ=>rw[ek]at s;exact s.elim
 |ok r ag =>
  rw[ek]at s;cases r with
  |nw o=>exact s.elim
  |n i=>exact s.elim
  |t x =>
   dsimp only at s;cases ev:fv ag with
   |bad=>rw[ev]at s;exact s.elim
   |exc c τ=>rw[ev]at s;exact s.elim
   |ok r au =>
    rw[ev]at s;cases r with
    |nw o=>exact s.elim
    |n i=>exact s.elim
    |t y =>
     dsimp only at s;split at s
     .rename_i k hk;have un:∀b,b≠p->upd H p (.l []) b=H b:=λb z=>by unfold upd;rw[if_neg z]
      have fp:∀b,F b->b≠p:=λb f z=>ok.fd b f (by rw[z];exact hp)
      have pp:∀b,F.p b->b≠p:=λb f z=>ok.pd b f (by rw[z];exact hp)
      have Lp:∀b∈L,b≠p:=λb m z=>ok.sl.def b m (by rw[z];exact hp)
      have l0:Le F H F (upd H p (.l [])):=⟨λb f=>⟨f,un b (fp b f)⟩,λb f=>⟨f,un b (pp b f)⟩⟩
      have ok0:Ok X.K ⟨F.f,λb=>F.p b\/b=p⟩ B (upd H p (.l [])) fs U L:=by
       refine⟨Ao.wp (ok.sl.le l0 λb m=>un b (Lp b m)),ok.nd,ok.nf,λb f=>?_,ok.bo,λb f=>?_,λb f z=>?_,λb m z=>?_⟩
       .rw[un b (fp b f)];exact ok.fd b f
       .rcases f with f|f
        .rw[un b (pp b f)];exact ok.pd b f
        .rw[f,Am];exact nofun
       .rcases z with z|z
        .exact ok.pf b f z
        .exact fp b f z
       .rcases z with z|z
        .exact ok.pl b m z
        .exact Lp b m z
      refine⟨_,B,fs,⟨L,ok0⟩,?_⟩;rw[ek];intro F1 H1 u1 l1 q1;obtain⟨M1,_,o1,⟨_,r1⟩,_⟩:=q1;refine⟨F1,B,ag,⟨M1,o1⟩,?_⟩;rw[ev];intro F2 H2 u2 l2 q2;obtain⟨M2,_,o2,⟨_,r2⟩,_⟩:=q2;have p1:=l1.p p (.inr rfl);have p2:=l2.p p p1.1;have p8:H2 p=some (.l []):=by rw[p2.2,p1.2,Am]
      refine⟨p8,[(k,u2)],by rw[Cj hk r1];rfl,by simp,?_⟩;have eV:∀b,b≠p->upd H2 p (.l (DQ [] [(k,u2)])) b=H2 b:=λb z=>by unfold upd;rw[if_neg z]
      have f2:∀b,F2 b->b≠p:=λb f z=>o2.pf b f (by rw[z];exact p2.1)
      have m2:∀b∈M2,b≠p:=λb m z=>o2.pl b m (by rw[z];exact p2.1)
      have l3:Le ⟨F2.f,F.p⟩ H2 ⟨F2.f,F.p⟩ (upd H2 p (.l (DQ [] [(k,u2)]))):=⟨λb f=>⟨f,eV b (f2 b f)⟩,λb f=>⟨f,eV b (pp b f)⟩⟩
      have lq:Le F H ⟨F2.f,F.p⟩ (upd H2 p (.l (DQ [] [(k,u2)]))):=⟨λb f=>by
       have a1:=l1.f b f;have a2:=l2.f b a1.1;exact⟨a2.1,by rw[eV b (fp b f),a2.2,a1.2,un b (fp b f)]⟩,λb f=>by
       have a1:=l1.p b (.inl f);have a2:=l2.p b a1.1;exact⟨f,by rw[eV b (pp b f),a2.2,a1.2,un b (pp b f)]⟩⟩
      refine s ⟨F2.f,F.p⟩ _ (.ref p) lq ⟨M2,[p],⟨(Ao.wp o2.sl).le l3 λb m=>eV b (m2 b m),o2.nd,o2.nf,λb f=>?_,o2.bo,λb f=>?_,λb f z=>?_,λb m z=>?_⟩,?_,?_,?_⟩
      .rw[eV b (f2 b f)];exact o2.fd b f
      .rw[(lq.p b f).2];exact ok.pd b f
      .exact o2.pf b f ((l2.p b (l1.p b (.inl z)).1).1)
      .exact o2.pl b m ((l2.p b (l1.p b (.inl z)).1).1)
      .show AO X.K ⟨F2.f,F.p⟩ (upd H2 p (.l (DQ [] [(k,u2)]))) (.l [k] [y]) (.ref p) [p];simp only[AO,Ag];exact⟨p,_,rfl,Am,rfl,⟨u2,[],rfl,AF.le l3 (AF.wp r2),rfl⟩,rfl⟩
      .rw[sT];refine⟨o2.nd,by simp,λa m b mb z=>?_⟩;rw[tD.mp mb]at z;exact m2 a m z
      .intro b m;rw[tD.mp m];exact⟨λf=>f2 p f rfl,λf=>pp p f rfl⟩
     .exact s.elim
section
variable{K:Fg}{F F':Wd}{H H':Hp}{xs:List V}
end
theorem NW:∀{xs:List T}{k:Int}{i:Nat}{t:T},(D3 k xs)[i]?=some t->∃x,xs[i]?=some x/\t=.tup [.int (k+i),x]
 | [],k,i,t,h=>by simp[D3]at h
 |x::xs,k,0,t,h=>by
  have:T.tup [.int k,x]=t:=by simpa[D3]using h
  exact⟨x,rfl,by rw[<- this];simp⟩
 |x::xs,k,i+1,t,h=>by
  have h:(D3 (k+1) xs)[i]?=some t:=by simpa[D3]using h
  obtain⟨y,h1,h2⟩:=NW h;exact⟨y,by simpa using h1,by rw[h2,show k+1+(i:Int)=k+((i+1:Nat):Int) by lia]⟩
theorem KS:∀(xs:List T)(k:Int),(D3 k xs).length=xs.length
 | [],_=>rfl
 |_::xs,k=>by simp[D3,KS xs]
theorem PB{K:Fg}{F:Wd}{H:Hp}{b:Bool}{a:Addr}{vs:List V}{xs:List T}(h1:∀(F':Wd)(H':Hp),(∀a,F a->F' a/\H' a=H a)->SqB b K H' a vs)
  (r1:Ag K F H xs vs):JOk K F H (Ite K b a) (D3 0 xs):=by
 intro F' H' l ⟨B,fs,U,ok⟩ i;have q1:=Ag.lf l r1;refine⟨λt et=>?_,λhl=>⟨vs,h1 F' H' l,by rw[r1.len];rw[KS]at hl;exact hl⟩⟩;obtain⟨x,ex,rfl⟩:=NW et;obtain⟨v,ev,rv⟩:=q1.at ex;refine⟨⟨vs,v,h1 F' H' l,ev⟩,λz fG hy=>?_⟩;obtain⟨T,vx,hn,rfl,rfl,g1⟩:=hy;have e1:=g1 vs (h1 F' H' l);rw[ev]at e1;cases e1;refine⟨Oy F' T,⟨AS ok hn,λB fs U k=>k.alloc hn⟩,?_⟩;simp only[AF];exact⟨T,[.int i,v],rfl,⟨rfl,.inr rfl,Am⟩,by simp only[Ag];exact⟨.int i,[v],rfl,by simp[AF],v,[],rfl,rv.le (AS ok hn),rfl⟩⟩
set_option tactic.hygienic true in
theorem Ux{X:Cx}{Z:Xp}{a:Expr}{fa:FS->Out Rv}{p pos bH:Pos}{bx:List Expr}{k0:Nat}(hm:X.mg "enumerate"=none)(ha:FE X Z a fa)(hg:Gl X "enumerate":=by rfl)
  (hs:starEach [a] X.env=[(false,eval a X.env)]:=by rfl):FI X Z (.Tuple bx k0 bH) (.Call (.Name "enumerate" p) [a] [] pos) (itE fa):=by
 refine Ig (SW hg hm (B9 ha Fb hs) hs) λU H Q ao=>?_
 obtain⟨F,B,fs,ok,s⟩:= ao;refine⟨F,B,fs,ok,Au s λr ag F1 H1 u l1 ay rx s1=>?_⟩;split at s1
 .rename_i x;split at s1
  next xs e1=>obtain⟨b1,a1,vs,rfl,q1,h1⟩:=E8 rx e1;exact⟨b1,a1,rfl,⟨vs,h1 F1 H1 λ_ f=>⟨f,rfl⟩⟩,s1 F1 H1 _ Le.refl ⟨ay,PB h1 q1⟩⟩
  .exact s1.elim
 .exact s1.elim
noncomputable def prK:List T->Option (List Key×List T)
 | []=>some ([],[])
 |t::r=>match t with
  |.tup [k,v]=>(EN k).bind λk=>(prK r).map λp=>(k::p.1,v::p.2)
  |_=>none
noncomputable def V1(fs:FS):Rv->Option (Bool×List T)
 |.t (.lst ts)=>some (false,ts)
 |.t (.tup ts)=>some (true,ts)
 |.n i=>match AE fs i with|some (.lst ts)=>some (false,ts)|_=>none
 |_=>none
noncomputable def Dt:List Rv->FS->Out Rv
 | [x],fs=>match V1 fs x with|some q=>(match prK q.2 with|some p=>if p.1.Nodup then .ok (.nw (.l p.1 p.2)) fs else .bad|none=>.bad)|none=>.bad
 |_,_=>.bad
noncomputable def fzN(f:FS->Out Rv):FS->Out Rv:=λfs=>(f fs).bind λr fs=>match r with|.nw (.l ks ts)=>.ok (.t (.dF ks ts)) fs|_=>.bad
section
variable{K:Fg}{Z:Xp}{B:Nat->Option V}{F:Wd}{H:Hp}{U:St}{fs:FS}{x:Rv}{u:V}
set_option tactic.hygienic true in
theorem MJ:∀{ts us:List T}{ks:List Key}{vs:List V},prK ts=some (ks,us)->Ag K F H ts vs->∃ah,Y3 H vs ah/\ah.map (·.1)=ks/\Ag K F H us (ah.map (·.2))
 | [],_,_,_,e,r=>by cases e;simp only[Ag]at r;subst r;exact⟨[],.nil,rfl,by simp[Ag]⟩
 |t::ts,us,ks,vs,e,r=>by
  simp only[Ag]at r;obtain⟨v,vs,rfl,r1,r2⟩:=r;unfold prK at e;split at e
  next k y=>simp only[tX,tu]at e;obtain⟨k',ek,p,ep,e⟩:=e;cases e;obtain⟨ah,h1,h2,h3⟩:=MJ (ks:=p.1) (us:=p.2) ep r2;simp only[AF,Ag]at r1;obtain⟨a,ws,rfl,st,w1,_,rfl,q1,w2,_,rfl,q2,rfl⟩:=r1;have:=Cj ek q1;subst this;exact⟨(k',w2)::ah,.cons ⟨a,rfl,.inl st.2.2⟩ h1,by simp[h2],by simp only[sX,Ag];exact⟨_,_,rfl,q2,h3⟩⟩
  .cases e
set_option tactic.hygienic true in
theorem Sw{b:Bool}{ts:List T}(h:Okk K F B H fs U)(r:CW K F H U x u)(e:V1 fs x=some (b,ts)):∃a vs,u=.ref a/\Rd H a (if b then .tup vs else .lst vs)/\Ag K F H ts vs:=by
 unfold V1 at e;split at e
 .cases e;simp only[CW,AF]at r;obtain⟨a,vs,e,f,s,q⟩:=r;exact⟨a,vs,e,.inl s,q⟩
 .cases e;simp only[CW,AF]at r;obtain⟨a,vs,e,s,q⟩:=r;exact⟨a,vs,e,.inl s.2.2,q⟩
 .rename_i i;split at e
  .rename_i gX eo;cases e;obtain⟨v,L2,e1,q,_⟩:=h.own eo;have e2:U[i]?=some (some u):=r;rw[e1]at e2;have e3:v=u:=by simpa using e2
   subst e3;simp only[AO]at q;obtain⟨a,vs,e,s,q,_⟩:=q;exact⟨a,vs,e,.inl s,q⟩
  .cases e
 .cases e
set_option tactic.hygienic true in
theorem QC:Cw K Z (λxs H Q=>∃(b:Bool)(a:Addr)(vs:List V)(ah:List (Key×V)),xs=[.ref a]/\Rd H a (if b then .tup vs else .lst vs)/\Y3 H vs ah/\(ah.map (·.1)).Nodup/\∀l,H l=none->Q (.ref l) (upd H l (.l ah))) Dt:=by
 intro F B H U fs rs vs Q ok q s;unfold Dt at s;split at s
 .obtain⟨v,rfl,qq⟩:=Ba q;split at s
  .rename_i bt e;split at s
   .rename_i p ep;by_cases nd:p.1.Nodup
    .rw[if_pos nd]at s;obtain⟨a,vs,rfl,ha,r⟩:=Sw (b:=bt.1) (ts:=bt.2) ok qq e;obtain⟨ah,h1,h2,h3⟩:=MJ (ks:=p.1) (us:=p.2) ep r;refine⟨bt.1,a,vs,ah,rfl,ha,h1,by rw[h2];exact nd,λl hl=>s F _ (.ref l) (AB ok hl) (RR.alloc ok hl ?_)⟩;simp only[AO];exact⟨l,ah,rfl,Am,h2,h3.le (AB ok hl),rfl⟩
    .rw[if_neg nd]at s;exact s.elim
   .exact s.elim
  .exact s.elim
 .exact s.elim
end
theorem Qk{X:Cx}{Z:Xp}{a:Expr}{fa:FS->Out (List Rv)}{p pos:Pos}(hc:X.calm=true)(hm:X.mg "dict"=none)(ha:FA X Z [a] fa)(hg:Gl X "dict":=by rfl)(he:starEach [a] X.env=[(false,eval a X.env)]:=by rfl):FE X Z (.Call (.Name "dict" p) [a] [] pos) (Ad Dt fa) :=
 C7 QC (LV hc) hm boot_dict ha (hg:=hg) (he:=he)
theorem Yg{X:Cx}{Z:Xp}{e:Expr}{f:FS->Out Rv}(h:FE X Z e f):FE X Z e (fzN f):=by
 refine AG (Rc h) λU H Q ao => ?_
 obtain⟨F,B,fs,ok,s⟩:= ao;refine⟨F,B,fs,ok,As s λr ag F1 H1 u l q s1=>?_⟩;split at s1
 .obtain⟨L,L',o1,q,nd,nf⟩:=q;simp only[L5,AO]at q;obtain⟨a,ah,rfl,hd,rfl,q,rfl⟩:=q;refine⟨a,ah,rfl,hd,λob=>?_⟩;have na:∀b∈L,b≠a:=λb hb z=>(sT.mp nd).2.2 b hb a (by simp) z
  have fa:=nf a (by simp);have l2:Le F1 H1 (GZ F1 [a]) (upd H1 a (.frz ob (.l ah))):=⟨λb f=>⟨.inl f,Aj λz=>fa.1 (z▸f)⟩,λb f=>⟨f,Aj λz=>fa.2 (z▸f)⟩⟩
  refine s1 _ _ (.ref a) l2 (RR.of ⟨L,o1.sl.le l2 λb hb=>Aj (na b hb),o1.nd,λb m z=>?_,λb z=>?_,o1.bo,λb z=>?_,λb z=>?_,o1.pl⟩ ?_)
  .rcases z with z|z
   .exact o1.nf b m z
   .exact na b m (by simpa using z)
  .rcases z with z|z
   .rw[Aj λ(y:b=a)=>fa.1 (y▸z)];exact o1.fd b z
   .have:b=a:=by simpa using z
    subst this;rw[Am];exact λy=>nomatch y
  .rw[Aj λ(y:b=a)=>fa.2 (y▸z)];exact o1.pd b z
  .rcases z with z|z
   .exact o1.pf b z
   .have:b=a:=by simpa using z
    subst this;exact fa.2
  .show AF _ _ _ _ _;simp only[AF];exact⟨a,ah,rfl,.inr (by simp),⟨ob,Am⟩,rfl,q.le l2⟩
 .exact s1.elim
noncomputable def ND:Rv->Rv->FS->Out Rv
 |.t (.str z),.t (.int n),fs=>if z.length<=1000/\1<=n/\n<=1000 then okT (.str (Txt.mul z n)) fs else .bad
 |_,_,_=>.bad
theorem TH{z:Str}{n:Int}(hz:z.length<=1000)(h0:1<=n)(h1:n<=1000):MulOk z n:=by
 refine⟨?_,λ_ _=>?_,λ_ _=>?_⟩
 .rw[Bool.or_eq_false_iff];exact⟨tS (by lia),tS (by lia)⟩
 .have h2:1000<=((2:Int)^63-1)/n:=(Int.le_ediv_iff_mul_le (by lia)).mpr (by lia)
  lia
 .unfold Builtin.Str.tooLong;have h4:n.toNat<=1000:=by lia
  refine tS ?_;have h3:(1000000:Nat)<=sizeLine:=by rw[sizeLine_eq];decide
  have h5:z.length*n.toNat<=1000*1000:=Nat.mul_le_mul hz h4
  lia
set_option tactic.hygienic true in
theorem To{K:Fg}{Z:Xp}:OpF K Z (λx y H Q=>∃z n,x=.str z/\y=.int n/\MulOk z n/\Q (.str (Txt.mul z n)) H) ND:=by
 intro F B H U fs x y u w Q ok rx ry s;unfold ND at s;split at s
 .rename_i i j;split at s
  next h=>exact⟨i,j,rx,ry,TH h.1 h.2.1 h.2.2,s F H _ Le.refl (RR.of ok rfl)⟩
  .exact s.elim
 .exact s.elim
theorem UA{X:Cx}{Z:Xp}{a b:Expr}{fa fb:FS->Out Rv}{pos:Pos}(ha:FE X Z a fa)(hb:FE X Z b fb):FE X Z (.BinOp a .Mult b pos) (Ae ND fa fb):=IL To Im ha hb
noncomputable def YX(i j:Nat)(fa:FS->Out (List Rv)):FS->SO:=λfs=>SO.of (fa fs) λrs fs=>match rs with| [.t a,.t b]=>(match(Gg i (.t a) fs).bind (Gg j (.t b))with|some fs=>.nx fs|none=>.bad)|_=>.bad
set_option tactic.hygienic true in
theorem Xw(i j:Nat){X:Cx}{Z:Xp}{x y:Str}{a b:Expr}{fa:FS->Out (List Rv)}{px py pt ir pos:Pos}{kt k2:Nat}(hc:X.calm=true)(hN:X.N.Nodup)(hx:X.env.scope.names.lookup x=some .local)(hy:X.env.scope.names.lookup y=some .local)(ha:FA X Z [a,b] fa)
  (hi:X.N[i]?=some x:=by rfl) (hj:X.N[j]?=some y:=by rfl) (cL:i≠j:=by decide) (hw:swappedStores [.Tuple [.Name x px,.Name y py] kt pt] (.Tuple [a,b] k2 ir) X.env=pure (some [x,y]):=by rfl)
  (hs:swapsWithSole [.Tuple [.Name x px,.Name y py] kt pt] (.Tuple [a,b] k2 ir) pos.line X.env=pure false:=by rfl) :
  GS X Z (.Assign [.Tuple [.Name x px,.Name y py] kt pt] (.Tuple [a,b] k2 ir) pos) (YX i j fa):=by
 refine B8 (Wo hc hN hi hj cL hx hy ha hw hs) λD U H ao => ?_
 obtain⟨F,B,fs,ok,s⟩:= ao;refine⟨F,B,fs,ok,BR s λrs ag F1 H1 us l q s1=>?_⟩;split at s1
 .rename_i ta tb;obtain⟨ay,u,_,rfl,rx,u2,_,rfl,ry,rfl⟩:=q;split at s1
  next au e=>obtain⟨sh,e1,e2⟩:=tX.mp e;exact⟨u,u2,rfl,s1 F1 H1 _ Le.refl (E7 (r:=.t tb) (RR.of (E7 (RR.of ay rx) e1) (show AF X.K F1 H1 tb u2 from ry)) e2)⟩
  .exact s1.elim
 .exact s1.elim
end FL
namespace FL
open PySem PySem.Spec L2 PyProof.Rows
theorem Jam{X:Cx}{v:Expr}{ta:TE}{fp:Pos}(hv:PE X v ta):PE X (.FormattedValue v 114 none fp) (λU H Q=>ta U H λx H1=>∃z,x=.str z/\BX z=true/\Q (.str (reprText z)) H1):=by intro aa s U H Q I h;refine wpAny_FormattedValue_repr (thn (hv aa s U H _ I h) λu s2 ao=>?_);obtain⟨x,H2,I2,r2,z,ez,hz,q⟩:= ao;subst ez;obtain⟨t2,rfl⟩:=r2;have hr:=Iw hz;refine wpAny_pyReprObj_str ?_ (by rw[sizeLine_eq];lia);exact formatField_str (λt' tk=>⟨.str _,H2,(I2.tok _).tok _,⟨_,rfl⟩,q⟩) (by rw[sizeLine_eq];lia)
noncomputable def Jm(f:FS->Out Rv):FS->Out Rv:=λfs=>(f fs).bnd λr fs=>match r with|.t (.str z)=>if BX z=true then okT (.str (reprText z)) fs else .bad|_=>.bad
set_option tactic.hygienic true in
theorem Jba{X:Cx}{Z:Xp}{v:Expr}{f:FS->Out Rv}{fp:Pos}(hv:FE X Z v f):FE X Z (.FormattedValue v 114 none fp) (Jm f):=by
 refine AG (Jam hv) λU H Q ao => ?_
 obtain⟨F,B,fs,ok,s⟩:= ao;refine⟨F,B,fs,ok,Au s λr ag F1 H1 u l ay rx s1=>?_⟩;split at s1
 .rename_i z;split at s1
  next hz=>exact⟨z,rx,hz,s1 F1 H1 _ Le.refl (RR.of ay rfl)⟩
  .exact s1.elim
 .exact s1.elim
end FL
namespace Sy
open PySem PySem.Spec L2 FL
abbrev xrs:List Str:=["BadCount","BadKind","BadName","NoFunction","NoKind","NoMaker","NoName","NotLess","Twice"]
abbrev xds:List Str:=["BadCount","BadKind","BadName","BadText","Groundless","NoFunction","NoKind","NoMaker","NoName","NoPlace","NoSaying","NotLess","NotShown","SayError","TooLong","Twice"]
noncomputable def Ha(c d:Str):Bool:=c==d||d == "SayError"
noncomputable def top(i:Nat):Stmt:=PySem.Challenge.pw_stairsay_k41_sided.main.body.getD i (.Pass ⟨0,0,0,0⟩)
structure Tx(K:Fg)(mg:Str->Option Value)(ak:Addr)(aj:Addr)(af:Addr):Prop where
 zr:mg "ValueError"=none
 yO:mg "all"=none
 yN:mg "any"=none
 zi:mg "dict"=none
 zh:mg "enumerate"=none
 yM:mg "int"=none
 zT:mg "isinstance"=none
 yL:mg "len"=none
 yZ:mg "list"=none
 yV:mg "range"=none
 yK:mg "str"=none
 yJ:mg "sum"=none
 yU:mg "tuple"=none
 yT:mg "zip"=none
 zc:∃t,mg "LETTERS"=some (.str ("abcdefghijklmnopqrstuvwxyz":Str) t)
 zU:∃t,mg "MOST_ARGUMENTS"=some (.int 3 t)
 zJ:∃t,mg "MOST_KINDS"=some (.int 4 t)
 zO:∃t,mg "MOST_LETTERS"=some (.int 12 t)
 zK:∃t,mg "MOST_MAKERS"=some (.int 4 t)
 zI:∃t,mg "MOST_PARTS"=some (.int 2 t)
 zW:Cls K ak
 zm:Cls K aj
 zj:Cls K af
 zG:Be K ak "heads"
 z0:Be K ak "rows_by_function"
 zF:Be K ak "stock"
 zC:Be K aj "heads"
 zQ:Be K aj "kinds_by_name"
 zE:Be K aj "lessers"
 zp:Be K aj "own"
 zy:Be K aj "stock"
 zP:Be K af "home_by_maker"
 zS:Be K af "makers_by_kind"
 zR:Be K af "parts_by_maker"
 xt:Jk K mg xrs xds Ha
noncomputable def Oj:FS->SO :=
  (Ak (ifS (Ki (asB (Ae (gEq false) (Ae BZ (Aa 0) (gc (.int 2))) (gc (.int 1)))) (asB (Ae gGt (Aa 0) (Ae JZ (gc (.int 10)) (gc (.int 30)))))) (retS (Ae DI (Aa 0) (gc (.int 2)))) nxS)
  (Ak (Ay 2 (Ae BZ (Aa 0) (Ae JZ (gc (.int 10)) (gc (.int 60)))))
  (Ak (Ay 2 (Ae BZ (Ae Bk (Ae Av (Ae Av (Ae Bk (Aa 2) (Aa 2)) (Ae Bk (Ae Bk (gc (.int 40503)) (Aa 1)) (Aa 1))) (gc (.int 7919))) (gc (.int 1812433253982451697))) (Ae Av (Ae JZ (gc (.int 10)) (gc (.int 18))) (gc (.int 9)))))
  (retS (Ae BZ (Ae Bk (Ae Av (Ae Bk (Aa 2) (Aa 2)) (Aa 1)) (gc (.int 739108512309184756019283746561))) (Ae Av (Ae JZ (gc (.int 10)) (gc (.int 40))) (gc (.int 121))))))))
noncomputable def Bz:FS->Out Rv:=Bj 1 (Oj)
noncomputable def GY:FS->SO :=
  (Ak (Ay 2 (gc (.str ("":Str))))
  (Ak (BC (JX (Ab (Aa 1) Ai)) (tgN 3) (Ak (Ay 2 (Ae Av (Aa 2) (Ae AA (gc (.str ("abcdefghijklmnopqrstuvwxyz":Str))) (Ae BZ (Aa 0) (gc (.int 26))))))
  (Ay 0 (Ae DI (Aa 0) (gc (.int 26))))))
  (retS (Aa 2))))
noncomputable def CG:FS->Out Rv:=Bj 2 (GY)
noncomputable def Lb:FS->SO :=
  (Ak (Ay 2 (Ae BZ (Aa 0) (gc (.int 8))))
  (Ak (Ay 3 (An Dq Ai))
  (Ak (BC (JX (Ab (Aa 1) Ai)) (tgN 4) (Ak (Ay 5 (Ae Av (Ae DI (Aa 0) (gc (.int 8))) (Ae Bk (Ae Bk (Ae Av (Ae Bk (Aa 4) (Aa 4)) (gc (.int 1))) (Ae JZ (gc (.int 7919)) (gc (.int 4)))) (Ad El (Ab (Ae gGt (Ae BZ (Aa 0) (gc (.int 3))) (gc (.int 0))) Ai)))))
  (Ak (Ay 6 (fz (Ad (Ah 2 CG) (Ac (fz (Aa 5)) (Ac (Ae Av (Ae Av (Aa 2) (gc (.int 1))) (Ae BZ (Ae DI (Aa 0) (gc (.int 24))) (Ae Hy (gc (.int 12)) (Aa 2)))) Ai)))))
  (Ak (Ay 7 (Ae AA (gc (.str ("abcdefghijklmnopqrstuvwxyz":Str))) (Ae BZ (Ae Av (Aa 4) (Aa 0)) (gc (.int 26)))))
  (Bg (Cu Gv (Aa 3) (Ab (Ae Av (Ae Av (slS (Aa 6) noP (B5 (Aa 2))) (Aa 7)) (slS (Aa 6) (B5 (Ae Av (Aa 2) (gc (.int 1)))) noP)) Ai)))))))
  (retS (Aa 3)))))
noncomputable def Bn:FS->Out Rv:=Bj 6 (Lb)
noncomputable def Dm:FS->SO :=
  (Ak (ifS (asB (Ae gLt (Aa 1) (Ad AQ (Ab (Aa 0) Ai)))) (retS (Ae AA (Aa 0) (fz (Aa 1)))) nxS)
  (retS (gc (.int 0))))
noncomputable def Ax:FS->Out Rv:=Bj 0 (Dm)
noncomputable def Ld:FS->SO :=
  (Ak (Ay 1 (Ae Av (gc (.int 1)) (Ae BZ (fz (Ad (Ah 2 Bz) (Ac (fz (Ad (Ah 2 Ax) (Ac (fz (Aa 0)) (Ac (gc (.int 1)) Ai)))) (Ac (gc (.int 1)) Ai)))) (gc (.int 3)))))
  (Ak (Ay 2 (fz (Ad (Ah 2 Bn) (Ac (fz (Ad (Ah 2 Bz) (Ac (fz (Ad (Ah 2 Ax) (Ac (fz (Aa 0)) (Ac (gc (.int 2)) Ai)))) (Ac (gc (.int 2)) Ai)))) (Ac (fz (Aa 1)) Ai)))))
  (Ak (Ay 3 (fz (Ad (Ah 2 Bn) (Ac (fz (Ad (Ah 2 Bz) (Ac (fz (Ad (Ah 2 Ax) (Ac (fz (Aa 0)) (Ac (gc (.int 2)) Ai)))) (Ac (gc (.int 3)) Ai)))) (Ac (gc (.int 16)) Ai)))))
  (Ak (Ay 4 (An Dq Ai))
  (Ak (BC (JX (Ab (Aa 1) Ai)) (tgN 5) (Ak (Ay 6 (fz (Ad (Ah 2 Bz) (Ac (fz (Ad (Ah 2 Ax) (Ac (fz (Aa 0)) (Ac (Ae Av (gc (.int 3)) (Aa 5)) Ai)))) (Ac (gc (.int 4)) Ai)))))
  (Ak (Ay 7 (An Dq Ai))
  (Ak (BC (JX (Ab (Ae Av (gc (.int 2)) (Ae BZ (Aa 6) (gc (.int 3)))) Ai)) (tgN 8) (Ak (Ay 6 (Ae DI (Aa 6) (gc (.int 3))))
  (Ak (Ay 9 (An Dq Ai))
  (Ak (BC (JX (Ab (Ae Bk (Ae BZ (Aa 6) (gc (.int 3))) (Ad El (Ab (orV (Ae gGt (Aa 5) (gc (.int 0))) (Ae gGt (Aa 8) (gc (.int 0)))) Ai))) Ai)) (tgN 10) (Ak (Ay 6 (Ae DI (Aa 6) (gc (.int 3))))
  (Bg (Cu Gv (Aa 9) (Ab (Ae AA (Aa 2) (Ae BZ (Aa 6) (Ae AA (An BF (Ab (fz (Aa 1)) (Ab (fz (Aa 5)) Ai))) (Ad El (Ab (Ae (gEq false) (Aa 8) (gc (.int 0))) Ai))))) Ai)))))
  (Ak (Ay 6 (Ae DI (Aa 6) (gc (.int 3))))
  (Bg (Cu Gv (Aa 7) (Ab (An AX (Ab (Ae AA (Aa 3) (Ae Av (Ae Bk (gc (.int 4)) (Aa 5)) (Aa 8))) (Ab (Ad Bd (Ab (Aa 9) Ai)) Ai))) Ai))))))))
  (Bg (Cu Gv (Aa 4) (Ab (An AX (Ab (Ae AA (Aa 2) (fz (Aa 5))) (Ab (fz (Aa 7)) Ai))) Ai)))))))
  (retS (Aa 4)))))))
noncomputable def D2:FS->Out Rv:=Bj 10 (Ld)
noncomputable def Gb:FS->SO :=
  (Ak (Ay 5 (An Dq Ai))
  (Ak (BC (itZ (Aa 4) (Aa 3)) (AH 2 (Af (tgN 6) (Af (tgN 7) AD))) (ifS (asB (Ae (gEq false) (Aa 7) (Aa 1))) (Bg (Cu Gv (Aa 5) (Ab (An AX (Ab (gc (.str ("call":Str))) (Ab (fz (Aa 0)) (Ab (An AX (Ab (An AX (Ab (gc (.str ("name":Str))) (Ab (fz (Aa 6)) Ai))) Ai)) Ai)))) Ai))) (Bg (Cu Gv (Aa 5) (Ab (An AX (Ab (gc (.str ("name":Str))) (Ab (fz (Aa 6)) Ai))) Ai)))))
  (retS (An AX (Ab (Ad Bd (Ab (slF (Aa 4) noP (B5 (Ad AQ (Ab (Aa 3) Ai)))) Ai)) (Ab (An AX (Ab (gc (.str ("make":Str))) (Ab (fz (Aa 2)) (Ab (Ad Bd (Ab (Aa 5) Ai)) Ai)))) Ai))))))
noncomputable def CQ:FS->Out Rv:=Bj 3 (Gb)
noncomputable def Ji:FS->SO :=
  (Ak (BC (itU (fz (Aa 0))) (AH 2 (Af (tgN 2) (Af (tgN 3) AD))) (ifS (asB (Ae (gEq false) (Aa 2) (Aa 1))) (retS (Aa 3)) nxS))
  (retS (An BF Ai)))
noncomputable def CF:FS->Out Rv:=Bj 2 (Ji)
noncomputable def Jh(rec:FS->Out Rv):FS->SO :=
  (Ak (ifS (asB (Ae (gEq false) (Ae AA (Aa 0) (gc (.int 0))) (gc (.str ("name":Str))))) (retS (Ae AA (An BF (Ab (fz (Aa 0)) (Ab (fz (Aa 2)) Ai))) (Ad El (Ab (Ae (gEq false) (Ae AA (Aa 0) (gc (.int 1))) (Aa 1)) Ai)))) nxS)
  (retS (An AX (Ab (Ae AA (Aa 0) (gc (.int 0))) (Ab (Ae AA (Aa 0) (gc (.int 1))) (Ab (Ad Bd (Ab (Bq false [none,some 1,some 2] (itU (Ae AA (Aa 0) (gc (.int 2)))) (tgN 0) Dz (fz (Ad (Ah 3 rec) (Ac (fz (Aa 0)) (Ac (fz (Aa 1)) (Ac (fz (Aa 2)) Ai)))))) Ai)) Ai))))))
noncomputable def EA:Nat->FS->Out Rv
 |0=>λ_=>.bad
 |n+1=>Bj 0 (Jh (EA n))
noncomputable def HI(rec:FS->Out Rv):FS->SO :=
  (Ak (EF (Ae AA (fz (Ad (Ah 2 CF) (Ac (fz (Aa 0)) (Ac (fz (Aa 1)) Ai)))) (gc (.int 0))) (AH 2 (Af (tgN 2) (Af (tgN 3) AD))))
  (retS (An AX (Ab (gc (.str ("make":Str))) (Ab (fz (Aa 2)) (Ab (Ad Bd (Ab (Bq false [none,some 0] (itU (fz (Aa 3))) (tgN 0) Dz (fz (Ad (Ah 2 rec) (Ac (fz (Aa 1)) (Ac (fz (Aa 0)) Ai))))) Ai)) Ai))))))
noncomputable def Cq:Nat->FS->Out Rv
 |0=>λ_=>.bad
 |n+1=>Bj 2 (HI (Cq n))
noncomputable def F9(rec:FS->Out Rv):FS->SO :=
  (Ak (Ay 6 (Bq false [none,some 3,some 1] (itD (Aa 1)) (tgN 0) (asB (Ae (gEq false) (Ae AA (Aa 2) (fz (Aa 0))) (Aa 1))) (fz (Aa 0))))
  (Ak (Ay 7 (Bq false [none,some 3,some 2] (itD (Aa 2)) (tgN 0) (asB (Ae (gEq false) (Ae AA (Ae AA (Aa 2) (fz (Aa 0))) (gc (.int 1))) (Aa 1))) (fz (Aa 0))))
  (Ak (Ay 8 (Ae BZ (Aa 4) (gc (.int 5))))
  (Ak (Ay 4 (Ae DI (Aa 4) (gc (.int 5))))
  (Ak (ifS (Ki (asB (Ae gGt (Ad AQ (Ab (Aa 6) Ai)) (gc (.int 0)))) (orT (asB (Ae gLe (Aa 5) (gc (.int 1)))) (asB (Ae gLt (Aa 8) (gc (.int 2)))))) (retS (An BF (Ab (An AX (Ab (gc (.str ("name":Str))) (Ab (Ae AA (Aa 6) (Ae BZ (Aa 4) (Ad AQ (Ab (Aa 6) Ai)))) Ai))) (Ab (Ae DI (Aa 4) (Ad AQ (Ab (Aa 6) Ai))) Ai)))) nxS)
  (Ak (ifS (asB (Ae gLe (Aa 5) (gc (.int 1)))) (retS (An BF (Ab (fz (Ad (Ah 2 (Cq 8)) (Ac (fz (Aa 0)) (Ac (fz (Aa 3)) Ai)))) (Ab (fz (Aa 4)) Ai)))) nxS)
  (Ak (Ay 9 (gc (.str ("make":Str))))
  (Ak (Ay 10 (fz (Ad (Ah 2 CF) (Ac (fz (Aa 0)) (Ac (fz (Aa 3)) Ai)))))
  (Ak (EF (Ae AA (Aa 10) (Ae BZ (Aa 4) (Ad AQ (Ab (Aa 10) Ai)))) (AH 2 (Af (tgN 11) (Af (tgN 12) AD))))
  (Ak (ifS (Ki (asB (Ae gGt (Ad AQ (Ab (Aa 7) Ai)) (gc (.int 0)))) (asB (Ae gGt (Aa 8) (gc (.int 2))))) (Ak (Ay 9 (gc (.str ("call":Str))))
  (Ak (Ay 11 (Ae AA (Aa 7) (Ae BZ (Aa 4) (Ad AQ (Ab (Aa 7) Ai)))))
  (Ay 12 (Ae AA (Ae AA (Aa 2) (fz (Aa 11))) (gc (.int 0)))))) nxS)
  (Ak (Ay 4 (Ae DI (Aa 4) (gc (.int 12))))
  (Ak (Ay 13 (An Dq Ai))
  (Ak (BC (itU (fz (Aa 12))) (tgN 14) (Ak (EF (fz (Ad (Ah 6 rec) (Ac (fz (Aa 0)) (Ac (fz (Aa 1)) (Ac (fz (Aa 2)) (Ac (fz (Aa 14)) (Ac (fz (Aa 4)) (Ac (Ae Hy (Aa 5) (gc (.int 1))) Ai)))))))) (Lu 2 (Af (tgN 15) (Af (tgN 4) AD))))
  (Bg (Cu Gv (Aa 13) (Ab (fz (Aa 15)) Ai)))))
  (retS (An BF (Ab (An AX (Ab (fz (Aa 9)) (Ab (fz (Aa 11)) (Ab (Ad Bd (Ab (Aa 13) Ai)) Ai)))) (Ab (fz (Aa 4)) Ai)))))))))))))))))
noncomputable def By:Nat->FS->Out Rv
 |0=>λ_=>.bad
 |n+1=>Bj 10 (F9 (By n))
noncomputable def Lf:FS->SO :=
  (retS (Ae AA (fz (Ad (Ah 6 (By 6)) (Ac (fz (Aa 0)) (Ac (fz (Aa 1)) (Ac (fz (Aa 2)) (Ac (fz (Aa 3)) (Ac (fz (Aa 4)) (Ac (fz (Aa 5)) Ai)))))))) (gc (.int 0))))
noncomputable def Dk:FS->Out Rv:=Bj 0 (Lf)
noncomputable def Om:FS->SO :=
  (Ak (EF (fz (Aa 2)) (AH 3 (Af (tgN 6) (Af (tgN 7) (Af (tgN 8) AD)))))
  (Ak (ifS (orT (asB (Ae (gEq false) (Ad AQ (Ab (Aa 4) Ai)) (gc (.int 0)))) (asB (Ae (gEq false) (Ae BZ (Aa 5) (gc (.int 4))) (gc (.int 0))))) (retS (Ad (Ah 6 Dk) (Ac (fz (Aa 0)) (Ac (fz (Aa 3)) (Ac (fz (Aa 1)) (Ac (fz (Aa 8)) (Ac (Ae DI (Aa 5) (gc (.int 8))) (Ac (gc (.int 3)) Ai)))))))) nxS)
  (Ak (Ay 9 (Ad IJ (Ab (Aa 3) Ai)))
  (Ak (BW (fz (Aa 8)) (Aa 9) (gc (.str ("":Str))))
  (Ak (Ay 10 (An Dq (Ab (An AX (Ab (gc (.str ("name":Str))) (Ab (Ae AA (Aa 4) (Ae BZ (Ae DI (Aa 5) (gc (.int 4))) (Ad AQ (Ab (Aa 4) Ai)))) Ai))) Ai)))
  (Ak (Ay 5 (Ae DI (Aa 5) (gc (.int 8))))
  (Ak (BC (itU (slF (Aa 7) (B5 (gc (.int 1))) noP)) (tgN 11) (Ak (EF (fz (Ad (Ah 6 (By 6)) (Ac (fz (Aa 0)) (Ac (fz (Aa 3)) (Ac (fz (Aa 1)) (Ac (fz (Aa 11)) (Ac (fz (Aa 5)) (Ac (gc (.int 2)) Ai)))))))) (Lu 2 (Af (tgN 12) (Af (tgN 5) AD))))
  (Bg (Cu Gv (Aa 10) (Ab (fz (Aa 12)) Ai)))))
  (retS (Ad (Ah 3 (EA 20)) (Ac (fz (Ad (Ah 6 Dk) (Ac (fz (Aa 0)) (Ac (fzD (Aa 9)) (Ac (fz (Aa 1)) (Ac (fz (Aa 8)) (Ac (fz (Aa 5)) (Ac (gc (.int 3)) Ai)))))))) (Ac (gc (.str ("":Str))) (Ac (An AX (Ab (gc (.str ("call":Str))) (Ab (fz (Aa 6)) (Ab (Ad Bd (Ab (Aa 10) Ai)) Ai)))) Ai))))))))))))
noncomputable def FF:FS->Out Rv:=Bj 7 (Om)
noncomputable def Ga:FS->SO :=
  (Ak (Ay 4 (fz (Ad (Ah 2 Bn) (Ac (Ae DI (Aa 3) (gc (.int 11))) (Ac (gc (.int 4)) Ai)))))
  (Ak (Ay 5 (Bq false [none,some 0,some 3] (JX (Ab (Ae Av (gc (.int 1)) (Ae BZ (Aa 3) (gc (.int 3)))) Ai)) (tgN 0) Dz (Ae AA (Ae AA (Aa 1) (Ae BZ (Ae DI (Aa 2) (Ae Av (gc (.int 3)) (Ae Bk (gc (.int 2)) (Aa 0)))) (Ad AQ (Ab (Aa 1) Ai)))) (gc (.int 0)))))
  (Ak (Ay 6 (Ae AA (Ae AA (Aa 0) (Ae BZ (Ae DI (Aa 3) (gc (.int 100))) (Ad AQ (Ab (Aa 0) Ai)))) (gc (.int 0))))
  (Ak (Ay 7 (slF (Aa 4) (B5 (gc (.int 2))) (B5 (Ae Av (gc (.int 1)) (Ad AQ (Ab (Aa 5) Ai))))))
  (Ak (Ay 8 (An Dq Ai))
  (Ak (BC (itE (fz (Ad (Ah 2 CF) (Ac (fz (Aa 0)) (Ac (Ae AA (Aa 5) (gc (.int 0))) Ai))))) (AH 2 (Af (tgN 9) (Af (AH 2 (Af (tgN 10) (Af (tgN 11) AD))) AD))) (Ak (Ay 12 (slF (Aa 4) noP (B5 (Ad AQ (Ab (Aa 11) Ai)))))
  (Ak (Ay 13 (LR (Ab (fz (Ae Av (Aa 12) (Aa 7))) (Ab (fz (Ae Av (fz (Ad Ca (Ab (Aa 11) Ai))) (slF (Aa 5) (B5 (gc (.int 1))) noP))) Ai))))
  (Ak (Ay 14 (Bq false [none,none,some 5] (itZ (Aa 12) (Aa 11)) (AH 2 (Af (tgN 0) (Af (tgN 1) AD))) (asB (Ae (gEq false) (Aa 1) (Ae AA (Aa 2) (gc (.int 0))))) (fz (Aa 0))))
  (Ak (Ay 15 (fz (Ad (Ah 2 Bz) (Ac (Ae BZ (Aa 3) (Ae JZ (gc (.int 10)) (gc (.int 18)))) (Ac (Ae Av (gc (.int 70)) (Aa 9)) Ai)))))
  (Ak (ifS (asB (Ae gGt (Aa 3) (Ae JZ (gc (.int 10)) (gc (.int 41))))) (Ak (Ay 3 (Ae Qa (Aa 3) (Ae JZ (gc (.int 10)) (gc (.int 40)))))
  (Ay 15 (fz (Aa 3)))) nxS)
  (Bg (Cu Gv (Aa 8) (Ab (An AX (Ab (Ad Bd (Ab (Aa 12) Ai)) (Ab (fz (Ad (Ah 6 FF) (Ac (fz (Aa 0)) (Ac (fz (Aa 2)) (Ac (An AX (Ab (fz (Aa 1)) (Ab (fz (Aa 5)) (Ab (fz (Aa 6)) Ai)))) (Ac (fzD (Aa 13)) (Ac (fz (Aa 14)) (Ac (fz (Aa 15)) Ai)))))))) Ai))) Ai)))))))))
  (retS (An AX (Ab (fz (Aa 1)) (Ab (Ad Bd (Ab (Aa 5) Ai)) (Ab (fz (Aa 6)) (Ab (Ad Bd (Ab (Aa 7) Ai)) (Ab (Ad Bd (Ab (Aa 8) Ai)) Ai)))))))))))))
noncomputable def Cb:FS->Out Rv:=Bj 12 (Ga)
noncomputable def EE:FS->SO :=
  (Ak (Ay 2 (slF (fz (Ad (Ah 2 Bn) (Ac (fz (Ad (Ah 2 Bz) (Ac (fz (Ad (Ah 2 Ax) (Ac (fz (Aa 0)) (Ac (gc (.int 2)) Ai)))) (Ac (gc (.int 3)) Ai)))) (Ac (gc (.int 16)) Ai)))) (B5 (gc (.int 12))) noP))
  (Ak (Ay 3 (fz (Ad (Ah 2 Bz) (Ac (fz (Ad (Ah 2 Ax) (Ac (fz (Aa 0)) (Ac (gc (.int 6)) Ai)))) (Ac (gc (.int 5)) Ai)))))
  (Ak (EF (Ae AA (Aa 1) (Ae BZ (Aa 3) (Ad AQ (Ab (Aa 1) Ai)))) (AH 2 (Af (tgN 4) (Af (tgN 5) AD))))
  (Ak (Ay 6 (fz (Ad (Ah 2 Bn) (Ac (Ae DI (Aa 3) (gc (.int 5))) (Ac (gc (.int 2)) Ai)))))
  (Ak (Ay 7 (Bq false [none,none,some 4,some 6,some 2] (itU (fz (Aa 5))) (AH 2 (Af (tgN 0) (Af (tgN 1) AD))) Dz (fz (Ad (Ah 5 CQ) (Ac (Ae AA (Aa 4) (gc (.int 0))) (Ac (fz (Aa 2)) (Ac (fz (Aa 0)) (Ac (fz (Aa 1)) (Ac (fz (Aa 3)) Ai)))))))))
  (Ak (Ay 8 (An Dq (Ab (An AX (Ab (Ae AA (Aa 2) (gc (.int 0))) (Ab (An AX (Ab (fz (Aa 4)) Ai)) (Ab (fz (Aa 4)) (Ab (An AX Ai) (Ab (Ad Bd (Ab (Aa 7) Ai)) Ai)))))) Ai)))
  (Ak (Ay 9 (IS (Ae AA (Aa 2) (gc (.int 0))) (An AX (Ab (An AX (Ab (fz (Aa 4)) Ai)) (Ab (fz (Aa 4)) Ai)))))
  (Ak (BC (JX (Ab (Ae BZ (Ae DI (Aa 3) (gc (.int 3))) (gc (.int 4))) Ai)) (tgN 10) (Ak (Ay 11 (fz (Ls 9 (Ad (Ah 4 Cb) (Ac (fz (Aa 1)) (Ac (Ae AA (Aa 2) (Ae Av (gc (.int 1)) (Aa 10))) (Ac (Aa 9) (Ac (fz (Ad (Ah 2 Bz) (Ac (fz (Ad (Ah 2 Ax) (Ac (fz (Aa 0)) (Ac (Ae Av (gc (.int 7)) (Aa 10)) Ai)))) (Ac (gc (.int 7)) Ai)))) Ai))))))))
  (Ak (Bg (Cu Gv (Aa 8) (Ab (fz (Aa 11)) Ai)))
  (BW (An AX (Ab (Ae AA (Aa 11) (gc (.int 1))) (Ab (Ae AA (Aa 11) (gc (.int 2))) Ai))) (Aa 9) (Ae AA (Aa 11) (gc (.int 0)))))))
  (retS (Aa 8))))))))))
noncomputable def BO:FS->Out Rv:=Bj 10 (EE)
noncomputable def Lc:FS->SO :=
  (Ak (BC (itU (fz (Aa 0))) (AH 2 (Af (tgN 2) (Af (tgN 3) AD))) (BC (itU (fz (Aa 3))) (AH 2 (Af (tgN 4) (Af (tgN 5) AD))) (ifS (asB (Ae (gEq false) (Aa 4) (Aa 1))) (retS (An AX (Ab (fz (Aa 2)) (Ab (fz (Aa 5)) Ai)))) nxS)))
  (retS (gc .o)))
noncomputable def EW:FS->Out Rv:=Bj 4 (Lc)
noncomputable def DE(rec:FS->Out Rv):FS->SO :=
  (Ak (EF (slF (Aa 5) noP (B5 (gc (.int 2)))) (AH 2 (Af (tgN 6) (Af (tgN 7) AD))))
  (Ak (ifS (asB (Ae (gEq false) (Aa 6) (gc (.str ("name":Str))))) (Ak (ifS (asB (Ae (CB false) (fz (Aa 7)) (Aa 1))) (retS (Ae AA (Aa 1) (fz (Aa 7)))) nxS)
  (retS (gc (.str ("NoName":Str))))) nxS)
  (Ak (Ay 8 (fz (Ad (Ah 2 EW) (Ac (fz (Aa 0)) (Ac (fz (Aa 7)) Ai)))))
  (Ak (ifS (asB (Ae (gEq false) (Aa 6) (gc (.str ("make":Str))))) (Ak (ifS (asB (Ae (Rz false) (Aa 8) (gc .o))) (retS (gc (.str ("NoMaker":Str)))) nxS)
  (EF (fz (Aa 8)) (AH 2 (Af (tgN 9) (Af (tgN 10) AD))))) (Ak (ifS (asB (Ae (CB true) (fz (Aa 7)) (Aa 2))) (retS (gc (.str ("NoFunction":Str)))) nxS)
  (EF (Ae AA (Aa 2) (fz (Aa 7))) (AH 2 (Af (tgN 10) (Af (tgN 9) AD))))))
  (Ak (ifS (asB (Ae (gEq true) (Ad AQ (Ab (Ae AA (Aa 5) (gc (.int 2))) Ai)) (Ad AQ (Ab (Aa 10) Ai)))) (retS (gc (.str ("BadCount":Str)))) nxS)
  (Ak (ifS (Ki (asB (Ae (gEq false) (Aa 6) (gc (.str ("call":Str))))) (asB (Ae (gEq false) (Aa 7) (Aa 3)))) (ifS (orT (asB (Ae (gEq true) (Ae AA (Ae AA (Ae AA (Aa 5) (gc (.int 2))) (gc (.int 0))) (gc (.int 0))) (gc (.str ("name":Str))))) (asB (Ae (CB true) (Ae AA (Ae AA (Ae AA (Aa 5) (gc (.int 2))) (gc (.int 0))) (gc (.int 1))) (Aa 4)))) (retS (gc (.str ("NotLess":Str)))) nxS) nxS)
  (Ak (BC (itZ (Aa 10) (Ae AA (Aa 5) (gc (.int 2)))) (AH 2 (Af (tgN 11) (Af (tgN 12) AD))) (Ak (Ay 13 (fz (Ad (Ah 6 rec) (Ac (fz (Aa 0)) (Ac (fz (Aa 1)) (Ac (fz (Aa 2)) (Ac (fz (Aa 3)) (Ac (fz (Aa 4)) (Ac (fz (Aa 12)) Ai)))))))))
  (Ak (ifS (asB (Ae (CB false) (fz (Aa 13)) (An BF (Ab (gc (.str ("NoName":Str))) (Ab (gc (.str ("NoMaker":Str))) (Ab (gc (.str ("NoFunction":Str))) (Ab (gc (.str ("BadCount":Str))) (Ab (gc (.str ("NotLess":Str))) (Ab (gc (.str ("BadKind":Str))) Ai))))))))) (retS (Aa 13)) nxS)
  (ifS (asB (Ae (gEq true) (Aa 13) (Aa 11))) (retS (gc (.str ("BadKind":Str)))) nxS))))
  (retS (Aa 9)))))))))
noncomputable def C8:Nat->FS->Out Rv
 |0=>λ_=>.bad
 |n+1=>Bj 8 (DE (C8 n))
noncomputable def Lg:FS->SO :=
  (Ak (Ay 1 Ek)
  (Ak (BC (itU (fz (Aa 0))) (tgN 2) (BW (An AX (Ab (Ae AA (Aa 2) (gc (.int 1))) (Ab (Ae AA (Aa 2) (gc (.int 2))) Ai))) (Aa 1) (Ae AA (Aa 2) (gc (.int 0)))))
  (retS (Aa 1))))
noncomputable def CS:FS->Out Rv:=Bj 2 (Lg)
noncomputable def Dl:FS->SO :=
  (Ak (ifS (orT (asB (Ae gLt (Ad AQ (Ab (Aa 0) Ai)) (gc (.int 1)))) (asB (Ae gGt (Ad AQ (Ab (Aa 0) Ai)) (gc (.int 12))))) (retS (gc (.v false))) nxS)
  (Ak (BC (itU (fz (Aa 0))) (tgN 1) (ifS (asB (Ae (CB true) (fz (Aa 1)) (gc (.str ("abcdefghijklmnopqrstuvwxyz":Str))))) (retS (gc (.v false))) nxS))
  (retS (gc (.v true)))))
noncomputable def CH:FS->Out Rv:=Bj 1 (Dl)
noncomputable def Ol:FS->SO :=
  (Ak (EF (fz (Aa 2)) (AH 3 (Af (tgN 3) (Af (tgN 4) (Af (tgN 5) AD)))))
  (Ak (Ay 6 Ek)
  (Ak (BC (itU (fz (Aa 3))) (AH 2 (Af (tgN 7) (Af (tgN 8) AD))) (Ak (ifS (Fm (Kn (fz (Ad (Ah 1 CH) (Ac (fz (Aa 7)) Ai))))) (retS (gc (.str ("BadName":Str)))) nxS)
  (Ak (ifS (asB (Ae (CB false) (fz (Aa 7)) (Aa 6))) (retS (gc (.str ("Twice":Str)))) nxS)
  (Ak (ifS (asB (Ae (CB true) (fz (Aa 8)) (Bq false [none] (itU (fz (Aa 0))) (tgN 0) Dz (Ae AA (Aa 0) (gc (.int 0)))))) (retS (gc (.str ("NoKind":Str)))) nxS)
  (BW (fz (Aa 8)) (Aa 6) (fz (Aa 7)))))))
  (Ak (Ay 9 (fz (Ad (Ah 6 (C8 20)) (Ac (fz (Aa 0)) (Ac (fz (Aa 6)) (Ac (fz (Ad (Ah 1 CS) (Ac (fz (Aa 1)) Ai))) (Ac (gc (.str ("":Str))) (Ac (An BF Ai) (Ac (fz (Aa 4)) Ai)))))))))
  (Ak (ifS (asB (Ae (CB true) (fz (Aa 9)) (Bq false [none] (itU (fz (Aa 0))) (tgN 0) Dz (Ae AA (Aa 0) (gc (.int 0)))))) (retS (Aa 9)) nxS)
  (Ak (Ay 10 (fz (Ad (Ah 6 (C8 20)) (Ac (fz (Aa 0)) (Ac (fz (Aa 6)) (Ac (fz (Ad (Ah 1 CS) (Ac (fz (Aa 1)) Ai))) (Ac (gc (.str ("":Str))) (Ac (An BF Ai) (Ac (fz (Aa 5)) Ai)))))))))
  (Ak (ifS (asB (Ae (CB true) (fz (Aa 10)) (Bq false [none] (itU (fz (Aa 0))) (tgN 0) Dz (Ae AA (Aa 0) (gc (.int 0)))))) (retS (Aa 10)) nxS)
  (retS (Ae AA (An BF (Ab (fz (Aa 9)) (Ab (gc (.str ("BadKind":Str))) Ai))) (Ad El (Ab (Ae (gEq true) (Aa 9) (Aa 10)) Ai)))))))))))
noncomputable def IP:FS->Out Rv:=Bj 8 (Ol)
noncomputable def Oo:FS->SO :=
  (Ak (Ay 5 (Ae BZ (Aa 3) (gc (.int 6))))
  (Ak (Ay 6 (Ae BZ (Ae DI (Aa 3) (gc (.int 6))) (Ad AQ (Ab (Aa 0) Ai))))
  (Ak (EF (Ae AA (Aa 0) (fz (Aa 6))) (AH 2 (Af (tgN 7) (Af (tgN 8) AD))))
  (Ak (Ay 3 (Ae DI (Aa 3) (gc (.int 60))))
  (Ak (ifS (asB (Ae (gEq false) (Aa 5) (gc (.int 0)))) (Ay 7 (Ae AA (An BF (Ab (gc (.str ("":Str))) (Ab (Ae Av (Aa 7) (gc (.str ("A":Str)))) (Ab (Ae ND (Aa 7) (gc (.int 13))) (Ab (Ae Av (gc (.str (" ":Str))) (Aa 7)) Ai))))) (Ae BZ (Aa 3) (gc (.int 4))))) (ifS (asB (Ae (gEq false) (Aa 5) (gc (.int 1)))) (Ay 7 (Ae AA (Ae AA (Aa 0) (Ae BZ (Aa 3) (Ad AQ (Ab (Aa 0) Ai)))) (gc (.int 0)))) (ifS (asB (Ae (gEq false) (Aa 5) (gc (.int 2)))) (Ay 8 (Ae AA (Aa 4) (Ae BZ (Aa 3) (Ad AQ (Ab (Aa 4) Ai))))) (ifS (asB (Ae (gEq false) (Aa 5) (gc (.int 3)))) (Ay 2 (slF (An AX (Ab (Ae AA (An BF (Ab (gc (.str ("make":Str))) (Ab (gc (.str ("call":Str))) (Ab (gc (.str ("name":Str))) Ai)))) (Ae BZ (Aa 3) (gc (.int 3)))) (Ab (Ae AA (Aa 4) (Ae BZ (Ae DI (Aa 3) (gc (.int 3))) (Ad AQ (Ab (Aa 4) Ai)))) (Ab (An AX Ai) Ai)))) noP (B5 (Ae Hy (gc (.int 3)) (Ad El (Ab (Ae (gEq false) (Ae BZ (Aa 3) (gc (.int 3))) (gc (.int 2))) Ai)))))) (ifS (asB (Ae (gEq false) (Aa 5) (gc (.int 4)))) (Ay 1 (slF (An AX (Ab (Ae AA (An BF (Ab (gc (.str ("make":Str))) (Ab (gc (.str ("call":Str))) (Ab (gc (.str ("name":Str))) Ai)))) (Ae BZ (Aa 3) (gc (.int 3)))) (Ab (Ae AA (Aa 4) (Ae BZ (Ae DI (Aa 3) (gc (.int 3))) (Ad AQ (Ab (Aa 4) Ai)))) (Ab (An AX Ai) Ai)))) noP (B5 (Ae Hy (gc (.int 3)) (Ad El (Ab (Ae (gEq false) (Ae BZ (Aa 3) (gc (.int 3))) (gc (.int 2))) Ai)))))) (YX 1 2 (Ab (fz (Aa 2)) (Ab (fz (Aa 1)) Ai))))))))
  (retS (An AX (Ab (Ae Av (Ae Av (slF (Aa 0) noP (B5 (Aa 6))) (An AX (Ab (An AX (Ab (fz (Aa 7)) (Ab (fz (Aa 8)) Ai))) Ai))) (slF (Aa 0) (B5 (Ae Av (Aa 6) (gc (.int 1)))) noP)) (Ab (fz (Aa 1)) (Ab (fz (Aa 2)) Ai))))))))))
noncomputable def FG:FS->Out Rv:=Bj 4 (Oo)
noncomputable def F7:FS->SO :=
  (Ak (ifS (Fm (asB (chain gLe gLe (gc (.int 1)) (Ad AQ (Ab (Aa 0) Ai)) (gc (.int 12))))) (retS (gc (.v false))) nxS)
  (retS (Ad XH (Ab (Bq false [none] (itU (fz (Aa 0))) (tgN 0) Dz (Ae (CB false) (fz (Aa 0)) (gc (.str ("abcdefghijklmnopqrstuvwxyz":Str))))) Ai))))
noncomputable def AY:FS->Out Rv:=Bj 0 (F7)
noncomputable def D9(af:Addr):FS->SO :=
  (retS (Ad Ca (Ab (Ez af "makers_by_kind" (Aa 0)) Ai)))
noncomputable def A1(af:Addr):FS->Out Rv:=Bj 0 (D9 af)
noncomputable def CT(af:Addr):FS->SO :=
  (Ak (Ay 2 Ek)
  (BC (itU (fz (Aa 1))) (AH 2 (Af (tgN 3) (Af (tgN 4) AD))) (Ak (ifS (Fm (Kn (fz (Ad (Ah 1 AY) (Ac (fz (Aa 3)) Ai))))) (Bs "BadName" (Ab (jsF ((gc (.str ("no name: ":Str)))::((Jm (Aa 3)) :: [])) Str.empty) Ai)) nxS)
  (Ak (ifS (asB (Ae (CB false) (fz (Aa 3)) (Aa 2))) (Bs "Twice" (Ab (jsF ((gc (.str ("two names of a saying: ":Str)))::((Jm (Aa 3)) :: [])) Str.empty) Ai)) nxS)
  (Ak (ifS (asB (Ae (CB true) (fz (Aa 4)) (fz (JQ af "kinds" 1 (A1 af) (fz (Aa 0)) Ai)))) (Bs "NoKind" (Ab (jsF ((gc (.str ("no kind is called ":Str)))::((Jm (Aa 4)) :: [])) Str.empty) Ai)) nxS)
  (BW (gc (.v true)) (Aa 2) (fz (Aa 3))))))))
noncomputable def Bw(af:Addr):FS->Out Rv:=Bj 3 (CT af)
noncomputable def CU(af:Addr):FS->SO :=
  (Ak (ifS (asB (Ae (CB true) (fz (Aa 1)) (Ez af "parts_by_maker" (Aa 0)))) (Bs "NoMaker" (Ab (jsF ((gc (.str ("no maker is called ":Str)))::((Jm (Aa 1)) :: [])) Str.empty) Ai)) nxS)
  (retS (Ae AA (Ez af "parts_by_maker" (Aa 0)) (fz (Aa 1)))))
noncomputable def Bf(af:Addr):FS->Out Rv:=Bj 0 (CU af)
noncomputable def Cr(af:Addr):FS->SO :=
  (Ak (ifS (asB (Ae (CB true) (fz (Aa 1)) (Ez af "home_by_maker" (Aa 0)))) (Bs "NoMaker" (Ab (jsF ((gc (.str ("no maker is called ":Str)))::((Jm (Aa 1)) :: [])) Str.empty) Ai)) nxS)
  (retS (Ae AA (Ez af "home_by_maker" (Aa 0)) (fz (Aa 1)))))
noncomputable def Cp(af:Addr):FS->Out Rv:=Bj 0 (Cr af)
noncomputable def AN(aj:Addr)(af:Addr):FS->SO :=
  (Ak (ifS (asB (Ae (gEq false) (Aa 1) (gc (.str ("make":Str))))) (retS (An AX (Ab (fz (EJ af "parts" 2 (Bf af) (Ez aj "stock" (Aa 0)) (Ac (fz (Aa 2)) Ai))) (Ab (fz (EJ af "home" 2 (Cp af) (Ez aj "stock" (Aa 0)) (Ac (fz (Aa 2)) Ai))) Ai)))) nxS)
  (Ak (ifS (asB (Ae (CB true) (fz (Aa 2)) (Ez aj "heads" (Aa 0)))) (Bs "NoFunction" (Ab (jsF ((gc (.str ("no function that may be called here is called ":Str)))::((Jm (Aa 2)) :: [])) Str.empty) Ai)) nxS)
  (retS (Ae AA (Ez aj "heads" (Aa 0)) (fz (Aa 2))))))
noncomputable def Ap(aj:Addr)(af:Addr):FS->Out Rv:=Bj 0 (AN aj af)
noncomputable def BL(aj:Addr):FS->SO :=
  (Ak (ifS (asB (Ae (CB true) (fz (Aa 1)) (Ez aj "kinds_by_name" (Aa 0)))) (Bs "NoName" (Ab (jsF ((gc (.str ("no such name may stand here: ":Str)))::((Jm (Aa 1)) :: [])) Str.empty) Ai)) nxS)
  (retS (Ae AA (Ez aj "kinds_by_name" (Aa 0)) (fz (Aa 1)))))
noncomputable def A5(aj:Addr):FS->Out Rv:=Bj 0 (BL aj)
noncomputable def AK(aj:Addr)(af:Addr)(rec:FS->Out Rv):FS->SO :=
  (Ak (ifS (asB (Ae (gEq false) (Ae AA (Aa 1) (gc (.int 0))) (gc (.str ("name":Str))))) (retS (Ad (Ah 2 (A5 aj)) (Ac (fz (Aa 0)) (Ac (Ae AA (Aa 1) (gc (.int 1))) Ai)))) nxS)
  (Ak (EF (fz (Aa 1)) (AH 3 (Af (tgN 2) (Af (tgN 3) (Af (tgN 4) AD)))))
  (Ak (EF (fz (Ad (Ah 3 (Ap aj af)) (Ac (fz (Aa 0)) (Ac (fz (Aa 2)) (Ac (fz (Aa 3)) Ai))))) (AH 2 (Af (tgN 5) (Af (tgN 6) AD))))
  (Ak (ifS (asB (Ae (gEq true) (Ad AQ (Ab (Aa 4) Ai)) (Ad AQ (Ab (Aa 5) Ai)))) (Bs "BadCount" (Ab (jsF ((Jm (Aa 3))::((gc (.str (" has another number of arguments":Str))) :: [])) Str.empty) Ai)) nxS)
  (Ak (ifS (Ki (asB (Ae (gEq false) (Aa 2) (gc (.str ("call":Str))))) (Ki (asB (Ae (gEq false) (Aa 3) (Ez aj "own" (Aa 0)))) (asB (Ae LO (Ae AA (Aa 4) (gc (.int 0))) (Ez aj "lessers" (Aa 0)))))) (Bs "NotLess" (Ab (jsF ((Jm (Aa 3))::((gc (.str (" calls itself for something that is no part":Str))) :: [])) Str.empty) Ai)) nxS)
  (Ak (BC (itZ (Aa 4) (Aa 5)) (AH 2 (Af (tgN 7) (Af (tgN 8) AD))) (ifS (asB (Ae (gEq true) (fz (Ad (Ah 2 rec) (Ac (fz (Aa 0)) (Ac (fz (Aa 7)) Ai)))) (Aa 8))) (Bs "BadKind" (Ab (jsF ((gc (.str ("an argument of ":Str)))::((Jm (Aa 3))::((gc (.str (" isn't of the kind ":Str)))::((Jm (Aa 8)) :: [])))) Str.empty) Ai)) nxS))
  (retS (Aa 6))))))))
noncomputable def Aq(aj:Addr)(af:Addr):Nat->FS->Out Rv
 |0=>λ_=>.bad
 |n+1=>Bj 7 (AK aj af (Aq aj af n))
noncomputable def ED(aj:Addr):FS->SO :=
  (Ak (IK aj "stock" 0 (fz (Aa 1)))
  (Ak (IK aj "heads" 0 (fz (Aa 2)))
  (Ak (IK aj "kinds_by_name" 0 (fz (Aa 3)))
  (Ak (IK aj "own" 0 (fz (Aa 4)))
  (IK aj "lessers" 0 (fz (Aa 5)))))))
noncomputable def BN(aj:Addr):FS->Out Rv:=Bj 0 (ED aj)
noncomputable def F0(ak:Addr)(aj:Addr)(af:Addr):FS->SO :=
  (retS (Ad (Ah 2 (Aq aj af 20)) (Ac (fz (Ad (DS aj 6 (BN aj)) (Ac (Ez ak "stock" (Aa 0)) (Ac (Ez ak "heads" (Aa 0)) (Ac (fz (Aa 1)) (Ac (gc .o) (Ac (An BF Ai) Ai))))))) (Ac (fz (Aa 2)) Ai))))
noncomputable def CD(ak:Addr)(aj:Addr)(af:Addr):FS->Out Rv:=Bj 0 (F0 ak aj af)
noncomputable def Es(ak:Addr)(aj:Addr)(af:Addr):FS->SO :=
  (Ak (EF (fz (Aa 1)) (AH 3 (Af (tgN 2) (Af (tgN 3) (Af (tgN 4) AD)))))
  (Ak (Bg (Ad (Ah 2 (Bw af)) (Ac (Ez ak "stock" (Aa 0)) (Ac (fz (Aa 2)) Ai))))
  (Ak (Ay 5 (fz (Ad (Ah 3 (CD ak aj af)) (Ac (fz (Aa 0)) (Ac (fz (Ad Dt (Ab (Aa 2) Ai))) (Ac (fz (Aa 3)) Ai))))))
  (Ak (ifS (asB (Ae (gEq true) (fz (Ad (Ah 3 (CD ak aj af)) (Ac (fz (Aa 0)) (Ac (fz (Ad Dt (Ab (Aa 2) Ai))) (Ac (fz (Aa 4)) Ai))))) (Aa 5))) (Bs "BadKind" (Ab (gc (.str ("the sides are of two kinds":Str))) Ai)) nxS)
  (retS (Aa 5))))))
noncomputable def FD(ak:Addr)(aj:Addr)(af:Addr):FS->Out Rv:=Bj 4 (Es ak aj af)
noncomputable def QL:FS->SO :=
  (Ak (Ay 1 (An BF (Ab (isX xrs Ha "BadCount" (Aa 0)) (Ab (isX xrs Ha "BadKind" (Aa 0)) (Ab (isX xrs Ha "BadName" (Aa 0)) Ai)))))
  (Ak (Ay 1 (fz (Ae Av (Aa 1) (An BF (Ab (isX xrs Ha "BadText" (Aa 0)) (Ab (isX xrs Ha "Groundless" (Aa 0)) (Ab (isX xrs Ha "NoFunction" (Aa 0)) Ai)))))))
  (Ak (Ay 1 (fz (Ae Av (Aa 1) (An BF (Ab (isX xrs Ha "NoKind" (Aa 0)) (Ab (isX xrs Ha "NoMaker" (Aa 0)) (Ab (isX xrs Ha "NoName" (Aa 0)) Ai)))))))
  (Ak (Ay 1 (fz (Ae Av (Aa 1) (An BF (Ab (isX xrs Ha "NoPlace" (Aa 0)) (Ab (isX xrs Ha "NoSaying" (Aa 0)) (Ab (isX xrs Ha "NotLess" (Aa 0)) Ai)))))))
  (Ak (Ay 1 (fz (Ae Av (Aa 1) (An BF (Ab (isX xrs Ha "NotShown" (Aa 0)) (Ab (isX xrs Ha "TooLong" (Aa 0)) (Ab (isX xrs Ha "Twice" (Aa 0)) Ai)))))))
  (Ak (ifS (orT (Fm (Kn (isX xrs Ha "SayError" (Aa 0)))) (orT (Fm (Kn (isV xrs (Aa 0)))) (asB (Ae (gEq true) (Ad Y1 (Ab (Bq false [none] (itU (fz (Aa 1))) (tgN 0) Dz (Ad El (Ab (Aa 0) Ai))) Ai)) (gc (.int 1)))))) (retS (gc (.str ("":Str)))) nxS)
  (Ak (Ay 2 (An BF (Ab (gc (.str ("BadCount":Str))) (Ab (gc (.str ("BadKind":Str))) (Ab (gc (.str ("BadName":Str))) (Ab (gc (.str ("BadText":Str))) (Ab (gc (.str ("Groundless":Str))) (Ab (gc (.str ("NoFunction":Str))) (Ab (gc (.str ("NoKind":Str))) (Ab (gc (.str ("NoMaker":Str))) Ai))))))))))
  (Ak (Ay 2 (fz (Ae Av (Aa 2) (An BF (Ab (gc (.str ("NoName":Str))) (Ab (gc (.str ("NoPlace":Str))) (Ab (gc (.str ("NoSaying":Str))) (Ab (gc (.str ("NotLess":Str))) (Ab (gc (.str ("NotShown":Str))) (Ab (gc (.str ("TooLong":Str))) (Ab (gc (.str ("Twice":Str))) Ai)))))))))))
  (retS (Ae AA (Aa 2) (fz (Cu JaX (Aa 1) (Ab (gc (.v true)) Ai)))))))))))))
noncomputable def EX:FS->Out Rv:=Bj 2 (QL)
noncomputable def Dw(af:Addr):FS->SO :=
  (Ak (ifS (asB (Ae (CB true) (fz (Aa 1)) (Ez af "makers_by_kind" (Aa 0)))) (λ_=>.bad) nxS)
  (retS (Ad Ca (Ab (Ae AA (Ez af "makers_by_kind" (Aa 0)) (fz (Aa 1))) Ai))))
noncomputable def AV(af:Addr):FS->Out Rv:=Bj 0 (Dw af)
noncomputable def GX(af:Addr):FS->SO :=
  (retS (Ad Vg (Ab (Bq false [none,some 1,some 0] (itU (fz (JQ af "kinds" 1 (A1 af) (fz (Aa 0)) Ai))) (tgN 0) Dz (Ae (CB false) (fz (Aa 1)) (fz (EJ af "makers" 2 (AV af) (fz (Aa 2)) (Ac (fz (Aa 0)) Ai))))) Ai)))
noncomputable def Dj(af:Addr):FS->Out Rv:=Bj 0 (GX af)
noncomputable def EB(af:Addr):FS->SO :=
  (Ak (EF (fz (Aa 2)) (AH 5 (Af (tgN 3) (Af (tgN 4) (Af (tgN 5) (Af (tgN 6) (Af (tgN 7) AD)))))))
  (Ak (ifS (Fm (Kn (fz (Ad (Ah 1 AY) (Ac (fz (Aa 3)) Ai))))) (λ_=>.bad) nxS)
  (Ak (ifS (orT (asB (Ae (CB false) (fz (Aa 3)) (Aa 1))) (Kn (fz (Ad (Ah 2 (Dj af)) (Ac (fz (Aa 0)) (Ac (fz (Aa 3)) Ai)))))) (λ_=>.bad) nxS)
  (Ak (ifS (Fm (asB (chain gLe gLe (gc (.int 1)) (Ad AQ (Ab (Aa 4) Ai)) (gc (.int 3))))) (λ_=>.bad) nxS)
  (Ak (BC (itU (fz (Ae Av (fz (Ad Ca (Ab (Aa 4) Ai))) (An BF (Ab (fz (Aa 5)) Ai))))) (tgN 8) (ifS (asB (Ae (CB true) (fz (Aa 8)) (fz (JQ af "kinds" 1 (A1 af) (fz (Aa 0)) Ai)))) (λ_=>.bad) nxS))
  (Ak (ifS (asB (Ae (gEq true) (Ad AQ (Ab (Aa 6) Ai)) (Ae Hy (Ad AQ (Ab (Aa 4) Ai)) (gc (.int 1))))) (λ_=>.bad) nxS)
  (ifS (asB (Ae (gEq true) (Ad AQ (Ab (Aa 7) Ai)) (Ad AQ (Ab (fz (EJ af "makers" 2 (AV af) (fz (Aa 0)) (Ac (Ae AA (Aa 4) (gc (.int 0))) Ai))) Ai)))) (λ_=>.bad) nxS)))))))
noncomputable def Cn(af:Addr):FS->Out Rv:=Bj 6 (EB af)
noncomputable def D6:FS->SO :=
  (Ak (Ay 1 Ek)
  (BC (itU (fz (Aa 0))) (tgN 2) (Ak (ifS (Fm (Kn (fz (Ad (Ah 1 AY) (Ac (fz (Aa 2)) Ai))))) (λ_=>.bad) nxS)
  (Ak (ifS (asB (Ae (CB false) (fz (Aa 2)) (Aa 1))) (λ_=>.bad) nxS)
  (BW (gc (.v true)) (Aa 1) (fz (Aa 2)))))))
noncomputable def B0:FS->Out Rv:=Bj 2 (D6)
noncomputable def F8(aj:Addr)(af:Addr):FS->SO :=
  (Ak (EF (fz (Aa 2)) (AH 5 (Af (tgN 5) (Af (tgN 6) (Af (tgN 7) (Af (tgN 8) (Af (tgN 9) AD)))))))
  (Ak (EF (fz (Aa 4)) (AH 2 (Af (tgN 10) (Af (tgN 11) AD))))
  (Ak (Ay 12 (fz (EJ af "parts" 2 (Bf af) (fz (Aa 0)) (Ac (fz (Aa 3)) Ai))))
  (Ak (ifS (asB (Ae (gEq true) (Ad AQ (Ab (Aa 10) Ai)) (Ad AQ (Ab (Aa 12) Ai)))) (λ_=>.bad) nxS)
  (Ak (Bg (Ad (Ah 1 B0) (Ac (fz (Ae Av (fz (Ad Ca (Ab (Aa 10) Ai))) (fz (Ad Ca (Ab (Aa 8) Ai))))) Ai)))
  (Ak (Ay 13 (fz (LR (Ab (fz (Ae Av (fz (Ad Ca (Ab (Aa 10) Ai))) (fz (Ad Ca (Ab (Aa 8) Ai))))) (Ab (fz (Ae Av (fz (Ad Ca (Ab (Aa 12) Ai))) (fz (Ad Ca (Ab (slF (Aa 6) (B5 (gc (.int 1))) noP) Ai))))) Ai)))))
  (Ak (Ay 14 (Bq false [none,some 13,some 6] (itU (fz (Aa 10))) (tgN 0) (asB (Ae (gEq false) (Ae AA (Aa 1) (fz (Aa 0))) (Ae AA (Aa 2) (gc (.int 0))))) (An AX (Ab (gc (.str ("name":Str))) (Ab (fz (Aa 0)) Ai)))))
  (ifS (asB (Ae (gEq true) (fz (Ad (Ah 2 (Aq aj af 20)) (Ac (fz (Ad (DS aj 6 (BN aj)) (Ac (fz (Aa 0)) (Ac (fz (Aa 1)) (Ac (fz (Aa 13)) (Ac (fz (Aa 5)) (Ac (fz (Aa 14)) Ai))))))) (Ac (fz (Aa 11)) Ai)))) (Aa 7))) (λ_=>.bad) nxS))))))))
noncomputable def CP(aj:Addr)(af:Addr):FS->Out Rv:=Bj 10 (F8 aj af)
noncomputable def Dx(ak:Addr)(aj:Addr)(af:Addr):FS->SO :=
  (Ak (IK ak "stock" 0 (fz (Aa 1)))
  (Ak (IK ak "heads" 0 Ek)
  (Ak (IK ak "rows_by_function" 0 Ek)
  (BC (itU (fz (Aa 2))) (tgN 3) (Ak (Bg (JF 0 (Ad (Ah 3 (Cn af)) (Ac (fz (Aa 1)) (Ac (Ez ak "heads" (Aa 0)) (Ac (fz (Aa 3)) Ai))))))
  (Ak (EF (fz (Aa 3)) (AH 5 (Af (tgN 4) (Af (tgN 5) (Af (tgN 6) (Af (tgN 7) (Af (tgN 8) AD)))))))
  (Ak (C9 ak "heads" 0 4 (An AX (Ab (Ad Bd (Ab (Aa 5) Ai)) (Ab (fz (Aa 6)) Ai))))
  (Ak (J8 ak "rows_by_function" 0 4)
  (BC (itZ (fz (EJ af "makers" 2 (AV af) (fz (Aa 1)) (Ac (Ae AA (Aa 5) (gc (.int 0))) Ai))) (Aa 8)) (AH 2 (Af (tgN 9) (Af (tgN 10) AD))) (Ak (Bg (JF 0 (Ad (Ah 5 (CP aj af)) (Ac (fz (Aa 1)) (Ac (Ez ak "heads" (Aa 0)) (Ac (fz (Aa 3)) (Ac (fz (Aa 9)) (Ac (fz (Aa 10)) Ai))))))))
  (dput2 ak "rows_by_function" 0 4 9 (An AX (Ab (Ae Av (Ad Bd (Ab (Ae AA (Aa 10) (gc (.int 0))) Ai)) (Ad Bd (Ab (Aa 7) Ai))) (Ab (Ae AA (Aa 10) (gc (.int 1))) Ai))))))))))))))
noncomputable def BJ(ak:Addr)(aj:Addr)(af:Addr):FS->Out Rv:=Bj 8 (Dx ak aj af)
noncomputable def Dy:FS->SO :=
  (Ak (Ay 1 (An Dq Ai))
  (Ak (BC (itU (fz (Aa 0))) (AH 2 (Af (tgN 2) (Af (tgN 3) AD))) (BC (itU (fz (Aa 3))) (AH 2 (Af (tgN 4) (Af (tgN 5) AD))) (Bg (Cu Gv (Aa 1) (Ab (fz (Aa 4)) Ai)))))
  (retS (Aa 1))))
noncomputable def Bm:FS->Out Rv:=Bj 5 (Dy)
noncomputable def D8:FS->SO :=
  (Ak (ifS (Fm (asB (chain gLe gLe (gc (.int 1)) (Ad AQ (Ab (Aa 0) Ai)) (gc (.int 4))))) (Bs "BadCount" (Ab (gc (.str ("a stock has one to four kinds":Str))) Ai)) nxS)
  (Ak (Ay 1 Ek)
  (BC (itU (fz (Aa 0))) (AH 2 (Af (tgN 2) (Af (tgN 3) AD))) (Ak (ifS (Fm (Kn (fz (Ad (Ah 1 AY) (Ac (fz (Aa 2)) Ai))))) (λ_=>.bad) nxS)
  (Ak (ifS (asB (Ae (CB false) (fz (Aa 2)) (Aa 1))) (λ_=>.bad) nxS)
  (Ak (ifS (Fm (asB (chain gLe gLe (gc (.int 1)) (Ad AQ (Ab (Aa 3) Ai)) (gc (.int 4))))) (λ_=>.bad) nxS)
  (BW (gc (.v true)) (Aa 1) (fz (Aa 2)))))))))
noncomputable def B1:FS->Out Rv:=Bj 3 (D8)
noncomputable def D7:FS->SO :=
  (Ak (ifS (Fm (Kn (fz (Ad (Ah 1 AY) (Ac (fz (Aa 0)) Ai))))) (λ_=>.bad) nxS)
  (Ak (ifS (asB (Ae (CB false) (fz (Aa 0)) (Aa 2))) (λ_=>.bad) nxS)
  (Ak (ifS (asB (Ae gGt (Ad AQ (Ab (Aa 1) Ai)) (gc (.int 2)))) (λ_=>.bad) nxS)
  (BC (itU (fz (Aa 1))) (tgN 4) (ifS (asB (Ae (CB true) (fz (Aa 4)) (Aa 3))) (λ_=>.bad) nxS)))))
noncomputable def Bx:FS->Out Rv:=Bj 1 (D7)
noncomputable def Dv:FS->SO :=
  (BC (itU (fz (Aa 1))) (tgN 3) (ifS (asB (Ae (CB true) (fz (Aa 3)) (Aa 2))) (λ_=>.bad) nxS))
noncomputable def Bl:FS->Out Rv:=Bj 1 (Dv)
noncomputable def Du:FS->SO :=
  (Ak (Ay 1 (Bq false [none,none] (itU (fz (Aa 0))) (AH 2 (Af (tgN 0) (Af (tgN 1) AD))) Dz (fz (Aa 0))))
  (Ak (Ay 2 (An Dq Ai))
  (Ak (Ay 3 Ek)
  (BC (itU (fz (Aa 0))) (AH 2 (Af (tgN 4) (Af (tgN 5) AD))) (Ak (Ay 6 (Ae AA (Ae AA (Aa 5) (gc (.int 0))) (gc (.int 0))))
  (Ak (BC (itU (fz (Aa 5))) (AH 2 (Af (tgN 7) (Af (tgN 8) AD))) (Ak (Bg (Ad (Ah 4 Bx) (Ac (fz (Aa 7)) (Ac (fz (Aa 8)) (Ac (Aa 3) (Ac (fz (Aa 1)) Ai))))))
  (Ak (ifS (asB (Ae (gEq false) (Aa 7) (Aa 6))) (Bg (Ad (Ah 3 Bl) (Ac (fz (Aa 7)) (Ac (fz (Aa 8)) (Ac (Aa 2) Ai))))) nxS)
  (BW (gc (.v true)) (Aa 3) (fz (Aa 7))))))
  (Bg (Cu Gv (Aa 2) (Ab (fz (Aa 4)) Ai)))))))))
noncomputable def BI:FS->Out Rv:=Bj 8 (Du)
noncomputable def EC(af:Addr):FS->SO :=
  (Ak (Bg (Ad (Ah 1 B1) (Ac (fz (Aa 1)) Ai)))
  (Ak (Bg (Ad (Ah 1 BI) (Ac (fz (Aa 1)) Ai)))
  (Ak (IK af "makers_by_kind" 0 Ek)
  (Ak (IK af "parts_by_maker" 0 Ek)
  (Ak (IK af "home_by_maker" 0 Ek)
  (BC (itU (fz (Aa 1))) (AH 2 (Af (tgN 2) (Af (tgN 3) AD))) (Ak (C9 af "makers_by_kind" 0 2 (Bq false [none,none] (itU (fz (Aa 3))) (AH 2 (Af (tgN 0) (Af (tgN 1) AD))) Dz (fz (Aa 0))))
  (BC (itU (fz (Aa 3))) (AH 2 (Af (tgN 4) (Af (tgN 5) AD))) (Ak (C9 af "parts_by_maker" 0 4 (Ad Bd (Ab (Aa 5) Ai)))
  (C9 af "home_by_maker" 0 4 (fz (Aa 2))))))))))))
noncomputable def Co(af:Addr):FS->Out Rv:=Bj 4 (EC af)
noncomputable def YO(ak:Addr)(aj:Addr)(af:Addr):FS->SO :=
  (Ak (Ay 1 (fz (Ad (Ah 2 Bz) (Ac (fz (Ad (Ah 2 Ax) (Ac (fz (Aa 0)) (Ac (gc (.int 0)) Ai)))) (Ac (gc (.int 0)) Ai)))))
  (Ak (Ay 2 (fz (Ad (Ah 1 D2) (Ac (fz (Aa 0)) Ai))))
  (Ak (Ay 3 (fz (Ad (Ah 2 BO) (Ac (fz (Aa 0)) (Ac (fz (Aa 2)) Ai)))))
  (Ak (Ay 4 (fz (Ad (Ah 2 Bn) (Ac (fz (Ad (Ah 2 Bz) (Ac (fz (Ad (Ah 2 Ax) (Ac (fz (Aa 0)) (Ac (gc (.int 13)) Ai)))) (Ac (gc (.int 1)) Ai)))) (Ac (gc (.int 3)) Ai)))))
  (Ak (Ay 5 (An Dq Ai))
  (Ak (BC (JX (Ab (Ae Av (gc (.int 1)) (Ae BZ (Aa 1) (gc (.int 3)))) Ai)) (tgN 6) (Bg (Cu Gv (Aa 5) (Ab (An AX (Ab (Ae AA (Aa 4) (fz (Aa 6))) (Ab (Ae AA (Ae AA (Aa 2) (Ae BZ (fz (Ad (Ah 2 Bz) (Ac (fz (Ad (Ah 2 Ax) (Ac (fz (Aa 0)) (Ac (Ae Av (gc (.int 14)) (Aa 6)) Ai)))) (Ac (gc (.int 2)) Ai)))) (Ad AQ (Ab (Aa 2) Ai)))) (gc (.int 0))) Ai))) Ai))))
  (Ak (Ay 7 (Ae AA (Ae AA (Aa 2) (Ae BZ (Ae DI (Aa 1) (gc (.int 3))) (Ad AQ (Ab (Aa 2) Ai)))) (gc (.int 0))))
  (Ak (Ay 8 (An Dq Ai))
  (Ak (BC (JX (Ab (gc (.int 2)) Ai)) (tgN 6) (Ak (Ay 9 (fz (Ad (Ah 2 Bz) (Ac (fz (Ad (Ah 2 Ax) (Ac (fz (Aa 0)) (Ac (Ae Av (gc (.int 17)) (Aa 6)) Ai)))) (Ac (gc (.int 3)) Ai)))))
  (Ak (Bg (Cu Gv (Aa 8) (Ab (fz (Ad (Ah 6 Dk) (Ac (fz (Aa 2)) (Ac (fzN (Ad Dt (Ab (Aa 5) Ai))) (Ac (fzN (Ad (Ah 1 CS) (Ac (fz (Aa 3)) Ai))) (Ac (fz (Aa 7)) (Ac (fz (Aa 9)) (Ac (gc (.int 3)) Ai)))))))) Ai)))
  (Ay 7 (Ae AA (An BF (Ab (fz (Aa 7)) (Ab (Ae AA (Ae AA (Aa 2) (Ae BZ (Ae DI (Aa 1) (gc (.int 9))) (Ad AQ (Ab (Aa 2) Ai)))) (gc (.int 0))) Ai))) (Ad El (Ab (Ae (gEq false) (Ae BZ (Ae DI (Aa 1) (gc (.int 27))) (gc (.int 4))) (gc (.int 1))) Ai)))))))
  (Ak (Ay 10 (An AX (Ab (Ad Bd (Ab (Aa 5) Ai)) (Ab (Ae AA (Aa 8) (gc (.int 0))) (Ab (Ae AA (Aa 8) (gc (.int 1))) Ai)))))
  (Ak (Ay 4 (fz (Ae Av (fz (Ae Av (fz (Ae Av (fz (Ae Av (Aa 4) (Bq false [none] (itU (fz (Aa 3))) (tgN 0) Dz (Ae AA (Aa 0) (gc (.int 0)))))) (fz (Ad (Ah 1 Bm) (Ac (fz (Aa 2)) Ai))))) (Bq false [none] (itU (fz (Aa 2))) (tgN 0) Dz (Ae AA (Aa 0) (gc (.int 0)))))) (An BF (Ab (gc (.str ("zzzzzz":Str))) Ai)))))
  (Ak (BC (JX (Ab (Ae BZ (Ae DI (Aa 1) (gc (.int 108))) (gc (.int 3))) Ai)) (tgN 6) (Ay 10 (fz (Ad (Ah 5 FG) (Ac (Ae AA (Aa 10) (gc (.int 0))) (Ac (Ae AA (Aa 10) (gc (.int 1))) (Ac (Ae AA (Aa 10) (gc (.int 2))) (Ac (fz (Ad (Ah 2 Bz) (Ac (fz (Ad (Ah 2 Ax) (Ac (fz (Aa 0)) (Ac (Ae Av (gc (.int 20)) (Aa 6)) Ai)))) (Ac (gc (.int 5)) Ai)))) (Ac (fz (Aa 4)) Ai)))))))))
  (Ak (Ay 11 (fz (Ad (Ah 3 IP) (Ac (fz (Aa 2)) (Ac (fz (Aa 3)) (Ac (fz (Aa 10)) Ai))))))
  (Ak (Ay 12 (gc .o))
  (Ak (Ay 13 (gc .o))
  (Ak (QV 14 (λc=>xrs.contains c&&Ha c "SayError") (Ay 12 (fz (Ad (Ah 2 (FD ak aj af)) (Ac (fz (Ad (DS ak 3 (BJ ak aj af)) (Ac (fz (Ad (DS af 2 (Co af)) (Ac (fz (Ad Ca (Ab (Aa 2) Ai))) Ai))) (Ac (fz (Ad Ca (Ab (Aa 3) Ai))) Ai)))) (Ac (fz (Aa 10)) Ai))))) (Ay 13 (fz (Aa 14))))
  (Ak (ifS (asB (Ae (CB false) (fz (Aa 11)) (Bq false [none] (itU (fz (Aa 2))) (tgN 0) Dz (Ae AA (Aa 0) (gc (.int 0)))))) (retS (YT (Ae (Rz false) (Aa 13) (gc .o)) (YT (isF "str" (Aa 12)) (Ae (gEq false) (Aa 12) (Aa 11))))) nxS)
  (retS (Ae (gEq false) (fz (Ad (Ah 1 EX) (Ac (fz (Aa 13)) Ai))) (Aa 11))))))))))))))))))))
noncomputable def Yr(ak:Addr)(aj:Addr)(af:Addr):FS->Out Rv:=Bj 14 (YO ak aj af)
theorem Jy{g h:FS->SO}{fs ar:FS}(e:g fs=.nx ar):Ak g h fs=h ar:=by unfold Ak;rw[e]
abbrev vl(t:T):Option Sl:=some (.val t)
abbrev iv(i:Int):Option Sl:=some (.val (.int i))
def Fre:Option Sl->Prop
 |some (.bor _)=>False
 |_=>True
theorem DZ:Fre none:=True.intro
theorem Al{t:T}:Fre (vl t):=True.intro
theorem Kp{fs:FS}{i:Nat}{t:T}{x:Option Sl}(e:fs[i]?=some x)(h:Fre x):Gg i (.t t) fs=some (fs.set i (vl t)):=by unfold Gg;rw[e];cases x with|none=>rfl|some s=>cases s with|val t=>rfl|own o=>rfl|bor o=>exact h.elim
theorem NN{gt:T->FS->Option FS}{body:FS->SO}(P:List T->FS->Prop)(step:∀t ts fs,P (t::ts) fs->∃ag au,gt t fs=some ag/\body ag=.nx au/\P ts au):∀(ts:List T)(fs:FS),P ts fs->∃ar,DJ gt body ts fs=.nx ar/\P [] ar
 | [],fs,h=>⟨fs,rfl,h⟩
 |t::ts,fs,h=>by obtain⟨ag,au,e1,e2,h2⟩:=step t ts fs h;obtain⟨ar,e,hp⟩:=NN P step ts au h2;exact⟨ar,by simp only[DJ,e1,e2,e],hp⟩
def IsI(t:T)(ns:List Int):Prop:=t=.zY (ns.map T.int)\/t=.lst (ns.map T.int)
theorem IsI.seq{t:T}{ns:List Int}(h:IsI t ns)(fs:FS):DG fs (.t t)=some (ns.map T.int):=by rcases h with rfl|rfl<;>rfl
section
variable{i j:Int}{fs:FS}
theorem Em:Av (.t (.int i)) (.t (.int j)) fs=.ok (.t (.int (i+j))) fs:=rfl
theorem XC:Hy (.t (.int i)) (.t (.int j)) fs=.ok (.t (.int (i-j))) fs:=rfl
theorem GP(h:0<j):BZ (.t (.int i)) (.t (.int j)) fs=.ok (.t (.int (i%j))) fs:=if_pos h
theorem NH(h:0<j/\j<1073741824):DI (.t (.int i)) (.t (.int j)) fs=.ok (.t (.int (i/j))) fs:=if_pos h
theorem J1(h:-(2^64)<i/\i<2^64):Bk (.t (.int i)) (.t (.int j)) fs=.ok (.t (.int (i*j))) fs:=by have e:XD (.t (.int i)) (.t (.int j)) fs=.ok (.t (.int (i*j))) fs:=if_pos (by rw[t9 h];rfl);unfold Bk orG;rw[e]
theorem J2(h:Builtin.Int.intBits i<=2^26/\Builtin.Int.intBits j<=2^26):Bk (.t (.int i)) (.t (.int j)) fs=.ok (.t (.int (i*j))) fs:=by have e:XD (.t (.int i)) (.t (.int j)) fs=.ok (.t (.int (i*j))) fs:=if_pos (by rw[t9 h.1,t9 h.2];simp);unfold Bk orG;rw[e]
end
theorem Hz{x:Rv}{ts:List T}{i:Int}{t:T}{fs:FS}(h:DG fs x=some ts)(e:atI ts i=some t):AA x (.t (.int i)) fs=.ok (.t t) fs:=by
 have e':gIx x (.t (.int i)) fs=.ok (.t t) fs:=by simp only[gIx,h,e,okT]
 unfold AA orG;rw[e']
theorem XF{t:T}{ns:List Int}{i:Int}{fs:FS}(h:IsI t ns)(h0:0<=i)(h1:i<ns.length):AA (.t t) (.t (.int i)) fs=.ok (.t (.int (ns.getD i.toNat 0))) fs:=by
 refine Hz (h.seq fs) ?_;have e:(ns.map T.int)[i.toNat]?=some (T.int (ns.getD i.toNat 0)):=by
  have:i.toNat<ns.length:=by lia
  simp[this]
 have:=BH e;rwa[Int.toNat_of_nonneg h0]at this
theorem GH{fs:FS}{j:Nat}:∀{is:List Ini}{k:Nat},(∀i∈is,Bb fs i=none)->FL.placeOf fs j is k=none
 | [],_,_=>rfl
 |i::is,k,h=>by simp only[FL.placeOf];rw[h i tL,if_neg (by simp)];exact GH λi' m=>h i' (sW _ m)
theorem GW{fs:FS}{is:List Ini}{τ:FS}(h:∀i∈is,Bb fs i=none):∀(gs:FS)(j:Nat),HH fs is τ j gs=some gs
 | [],_=>rfl
 |g::gs,j=>by simp only[HH,Ke,GH h,GW h gs (j+1)]
theorem Cg{fs:FS}{is:List Ini}{τ:FS}(h:DH fs is=[]):DD is τ fs=some fs:=GW (List.filterMap_eq_nil_iff.mp h) fs 0
theorem UY{src:List (Option Nat)}{fi:FS->Out (List T)}{gt:T->FS->Option FS}{ft:FS->Out Bool}{fe:FS->Out Rv}{fs ar:FS}{ts vs:List T}{τ:FS}(h1:fi fs=.ok ts fs)(h2:(DH fs (src.map λo=>o.elim Ini.no Ini.slot)).Nodup/\(src.all λo=>o.elim true λj=>decide (j<fs.length))=true)
  (h3:Bp gt ft fe ts (BY fs (src.map λo=>o.elim Ini.no Ini.slot)) []=some (vs,τ)) (h4:DD (src.map λo=>o.elim Ini.no Ini.slot) τ fs=some ar):Bq false src fi gt ft fe fs=.ok (.t (.lst vs)) ar:=by
 unfold Bq;rw[h1];simp only[Out.bind];rw[if_pos h2,h3];dsimp only;rw[h4];rfl
theorem Sr{x y:Str}(h:x.cps.toList=y.cps.toList):x=y:=by
 obtain⟨a⟩:=x;obtain⟨b⟩:=y;have:a=b:=by simpa using h
 rw[this]
theorem NX:Str.ofString ""=(⟨#[]⟩:Str):=by decide +kernel
theorem J0{i j:Int}{fs:FS}(h:-(2^64)<j/\j<2^64):Bk (.t (.int i)) (.t (.int j)) fs=.ok (.t (.int (i*j))) fs:=by have e:XD (.t (.int i)) (.t (.int j)) fs=.ok (.t (.int (i*j))) fs:=if_pos (by rw[t9 h];simp);unfold Bk orG;rw[e]
theorem Fz{x y:Str}{fs:FS}(h:x.length+y.length<=big):Av (.t (.str x)) (.t (.str y)) fs=.ok (.t (.str (x++y))) fs:=by have e:Qb (.t (.str x)) (.t (.str y)) fs=.ok (.t (.str (x++y))) fs:=if_pos h;have e2:JaZ (.t (.str x)) (.t (.str y)) fs=.bad:=rfl;unfold Av orG;rw[e2];dsimp only;rw[e]
theorem FN{xs:List T}{v:Int}(h0:0<=v)(h1:v.toNat<=xs.length):K0 xs none (some v)=xs.take v.toNat:=by show(xs.drop 0).take ((if v<0 then(v+(xs.length:Int)).toNat else min v.toNat xs.length)-0)=_;rw[if_neg (by lia),Nat.min_eq_left h1];simp
theorem FQ{xs:List T}{v:Int}(h0:0<=v)(h1:v.toNat<=xs.length):K0 xs (some v) none=xs.drop v.toNat:=by show(xs.drop (if v<0 then(v+(xs.length:Int)).toNat else min v.toNat xs.length)).take (xs.length-(if v<0 then(v+(xs.length:Int)).toNat else min v.toNat xs.length))=_;rw[if_neg (by lia),Nat.min_eq_left h1];exact uF (by rw[uN];lia)
theorem AJ{g:Rv->Rv->FS->Out Rv}{fa fb:FS->Out Rv}{fs:FS}{x y:T}{r:Out Rv}(h1:fa fs=.ok (.t x) fs)(h2:fb fs=.ok (.t y) fs)(h3:g (.t x) (.t y) fs=r):Ae g fa fb fs=r:=by unfold Ae;rw[h1];show(fb fs).bnd _=r;rw[h2];exact h3
theorem Az{i:Nat}{fs:FS}{t:T}(h:fs[i]?=some (vl t)):Aa i fs=.ok (.t t) fs:=by unfold Aa;rw[h]
theorem Dp{t:T}{fs:FS}:gc t fs=.ok (.t t) fs:=rfl
theorem Mw{i:Nat}{f:FS->Out Rv}{fs ar:FS}{t:T}(h:f fs=.ok (.t t) fs)(hs:Gg i (.t t) fs=some ar):Ay i f fs=.nx ar:=by unfold Ay;rw[h];show(match Gg i (.t t) fs with|some fs=>SO.nx fs|none=>.bad)=_;rw[hs]
theorem K1{f:FS->Out Rv}{g:FS->Out (List Rv)}{fs:FS}{t:T}{rs:List Rv}(h1:f fs=.ok (.t t) fs)(h2:g fs=.ok rs fs):Ab f g fs=.ok (.t t::rs) fs:=by unfold Ab;rw[h1];show(g fs).bind _=_;rw[h2];rfl
theorem NK{f:FS->Out Rv}{fs:FS}{t:T}(h:f fs=.ok (.t t) fs):fz f fs=.ok (.t t) fs:=by unfold fz;rw[h];rfl
theorem K9{g:List Rv->FS->Out Rv}{fa:FS->Out (List Rv)}{fs:FS}{rs:List Rv}{r:Out Rv}(h:fa fs=.ok rs fs)(h2:g rs fs=r):Ad g fa fs=r:=by unfold Ad;rw[h];exact h2
theorem PK{c:FS->Out Bool}{g h:FS->SO}{fs:FS}{r:SO}(hc:c fs=.ok true fs)(e:g fs=r):ifS c g h fs=r:=by unfold ifS;rw[hc];exact e
theorem Ny{c:FS->Out Bool}{g h:FS->SO}{fs:FS}{r:SO}(hc:c fs=.ok false fs)(e:h fs=r):ifS c g h fs=r:=by unfold ifS;rw[hc];exact e
theorem RK{fa fb:FS->Out Rv}{fs:FS}{i j:Int}(h1:fa fs=.ok (.t (.int i)) fs)(h2:fb fs=.ok (.t (.int j)) fs):asB (Ae (gEq false) fa fb) fs=.ok (decide (i=j)) fs:=by
 have e:gEq false (.t (.int i)) (.t (.int j)) fs=.ok (.t (.v (decide (i=j)))) fs:=by
  have q:decide (V.int i=V.int j)=decide (i=j):=by
   by_cases h:i=j
   .subst h;simp
   .rw[tS h,tS (by intro z;cases z;exact h rfl)]
  show(if QZ (V.int i) (V.int j)=true then okT (.v (if false=true then _ else decide (V.int i=V.int j))) fs else .bad)=_;rw[if_pos (show QZ (V.int i) (V.int j)=true from rfl),q];rfl
 unfold asB;rw[AJ h1 h2 e];rfl
theorem Ce(ns:List Int)(k:Nat):Ax [vl (.zY (ns.map T.int)),iv k]=.ok (.t (.int (ns.getD k 0))) [vl (.zY (ns.map T.int)),iv k]:=by
 have hl:asB (Ae gLt (Aa 1) (Ad AQ (Ab (Aa 0) Ai))) [vl (.zY (ns.map T.int)),iv k]=.ok (decide ((k:Int)<((ns.map T.int).length:Int))) [vl (.zY (ns.map T.int)),iv k]:=rfl;unfold Ax Bj;show(match Dm [vl (.zY (ns.map T.int)),iv k]with|.nx τ=>_|.ret (.t t) τ=>_|.ret (.nw o) τ=>_|.ret (.n i) τ=>_|.exc c τ=>_|_=>_)=_;have e:Dm [vl (.zY (ns.map T.int)),iv k]=.ret (.t (.int (ns.getD k 0))) [vl (.zY (ns.map T.int)),iv k]:=by
  unfold Dm;by_cases h:(k:Int)<((ns.map T.int).length:Int)
  .rw[t9 h]at hl;have h':k<ns.length:=by rw[tf]at h;lia
   have e2:retS (Ae AA (Aa 0) (fz (Aa 1))) [vl (.zY (ns.map T.int)),iv k]=.ret (.t (.int (ns.getD k 0))) [vl (.zY (ns.map T.int)),iv k]:=by have:=AJ (g:=AA) (fa:=Aa 0) (fb:=fz (Aa 1)) (fs:=[vl (.zY (ns.map T.int)),iv k]) (Az rfl) (NK (Az rfl)) (XF (ns:=ns) (i:=(k:Int)) (.inl rfl) (by lia) (by lia));unfold retS;rw[this,ux];rfl
   unfold Ak;rw[PK hl e2]
  .rw[tS h]at hl;have h':ns.length<=k:=by rw[tf]at h;lia
   rw[Jy (Ny (h:=nxS) (fs:=[vl (.zY (ns.map T.int)),iv k]) (r:=.nx [vl (.zY (ns.map T.int)),iv k]) hl rfl)];have:ns.getD k 0=0:=by simp[List.getD,h']
   rw[this];rfl
 rw[e];rfl
theorem BK{f:FS->Out Rv}{g:FS->Out (List Rv)}{fs ag au:FS}{t:T}{rs:List Rv}(h1:f fs=.ok (.t t) ag)(h2:g ag=.ok rs au):Ab f g fs=.ok (.t t::rs) au:=by unfold Ab;rw[h1];show(g ag).bind _=_;rw[h2];rfl
theorem UT{g:List T->FS->Out Rv}{fa:FS->Out (List Rv)}{fs ag:FS}{rs:List Rv}{ts:List T}{r:Out Rv}(h:fa fs=.ok rs ag)(h2:LY rs=some ts)(h3:ts.length<=big)(e:g ts ag=r):An g fa fs=r:=by unfold An;rw[h];show(match LY rs with|some ts=>_|none=>_)=_;rw[h2];exact(if_pos h3).trans e
theorem CL{f:FS->Out Rv}{fs ag:FS}{r:Rv}(h:f fs=.ok r ag):retS f fs=.ret r ag:=by unfold retS;rw[h];rfl
theorem EO{g h:FS->SO}{fs ar:FS}{r:Rv}(e:g fs=.ret r ar):Ak g h fs=.ret r ar:=by unfold Ak;rw[e]
theorem Gd:∀bs:List Bool,CY (bs.map T.v)=some bs
 | []=>rfl
 |b::bs=>by simp[CY,Gd bs]
theorem Qw{f:FS->Out Rv}{g:FS->Out (List Rv)}{fs ag au:FS}{r:Rv}{rs:List Rv}(h1:f fs=.ok r ag)(h2:g ag=.ok rs au):Ac f g fs=.ok (r::rs) au:=by unfold Ac;rw[h1];show(g ag).bind _=_;rw[h2];rfl
theorem K8{p:Nat}{Fn:FS->Out Rv}{fa:FS->Out (List Rv)}{fs ag ar τ:FS}{rs:List Rv}{t:T}(ha:fa fs=.ok rs ag)(hp:rs.length=p)(hn:(DH ag (rs.map AW)).Nodup)(hf:Fn (BY ag (rs.map AW))=.ok (.t t) τ)(hb:DD (rs.map AW) τ ag=some ar) :
  Ad (Ah p Fn) fa fs=.ok (.t t) ar:=by
 unfold Ad;rw[ha];show Ah p Fn rs ag=_;unfold Ah;rw[if_pos hp];unfold GV;rw[if_pos hn,hf];dsimp only;rw[hb]
theorem QJ{p:Nat}{Fn:FS->Out Rv}{fa:FS->Out (List Rv)}{fs ag ar τ:FS}{rs:List Rv}{o:FO}(ha:fa fs=.ok rs ag)(hp:rs.length=p)(hn:(DH ag (rs.map AW)).Nodup)(hf:Fn (BY ag (rs.map AW))=.ok (.nw o) τ)(hb:DD (rs.map AW) τ ag=some ar) :
  Ad (Ah p Fn) fa fs=.ok (.nw o) ar:=by
 unfold Ad;rw[ha];show Ah p Fn rs ag=_;unfold Ah;rw[if_pos hp];unfold GV;rw[if_pos hn,hf];dsimp only;rw[hb]
theorem YS{i:Nat}{f:FS->Out Rv}{fs ag ar:FS}{t:T}{us ts:List T}(h0:fs[i]?=some (some (.own (.lst us))))(h:f fs=.ok (.t t) ag)(jE:ag[i]?=some (some (.own (.lst ts))))(hl:ts.length<big)(e:ag.set i (some (.own (.lst (ts++[t]))))=ar):Bg (Cu Gv (Aa i) (Ab f Ai)) fs=.nx ar:=by
 have h1:Aa i fs=.ok (.n i) fs:=by unfold Aa;rw[h0]
 have h2:FL.AE fs i=some (.lst us):=by unfold FL.AE;rw[h0]
 have mf:FL.AE ag i=some (.lst ts):=by unfold FL.AE;rw[jE]
 have h3:DG fs (.n i)=some us:=by simp only[DG,h2]
 have h4:Ab f Ai fs=.ok [.t t] ag:=BK h rfl;have h5:Gv (.n i) [.t t] ag=.ok (.t .o) ar:=by
  simp only[Gv,mf];rw[if_pos hl];have:FL.putAt ag i (.lst (ts++[t]))=ar:=by unfold FL.putAt;rw[jE];exact e
  rw[this]
 have h6:Cu Gv (Aa i) (Ab f Ai) fs=.ok (.t .o) ar:=by unfold Cu;rw[h1];show(if(DG fs (.n i)).isSome=true then _ else _)=_;rw[h3,if_pos (show(some us).isSome=true from rfl),h4];exact h5
 unfold Bg;rw[h6];rfl
noncomputable def EH:Str×List Str->T:=λr=>.tup [.str r.1,.tup (r.2.map T.str)]
noncomputable def A7:Str×List (Str×List Str)->T:=λk=>.tup [.str k.1,.lst (k.2.map EH)]
theorem MB{j:Int}{fs ag:FS}{fa:FS->Out (List Rv)}(e:fa fs=.ok [.t (.int j)] ag)(h:-(2^62)<=j/\j<2^62):JX fa fs=.ok (FL.upTo 0 j.toNat) ag:=by unfold JX;rw[e];simp only[Out.bind];exact if_pos h
abbrev Kd:=List (Str×List (Str×List Str))
theorem Wj{fv fi:FS->Out Rv}{o:Nat}{fs ar:FS}{v:T}{k:Str}{ks:List Key}{ts:List T}(h0:fs[o]?=some (some (.own (.l ks ts))))(hv:fv fs=.ok (.t v) fs)(hi:fi fs=.ok (.t (.str k)) fs)(hn:(ks.any λk'=>decide (k'=(.inr k:Key)))=false)(hl:ks.length<big)
  (e:fs.set o (some (.own (.l (ks++[.inr k]) (ts++[v]))))=ar):BW fv (Aa o) fi fs=.nx ar:=by
 have h1:Aa o fs=.ok (.n o) fs:=by unfold Aa;rw[h0]
 have h2:FL.AE fs o=some (.l ks ts):=by unfold FL.AE;rw[h0]
 have h3:Ec ks ts (.inr k:Key) v=(ks++[.inr k],ts++[v]):=by unfold Ec;rw[hn];rfl
 have h4:FL.putAt fs o (.l (ks++[.inr k]) (ts++[v]))=ar:=by unfold FL.putAt;rw[h0];exact e
 have h5:P6 (.n o) (.t (.str k)) (.t v) fs=.bad:=rfl;have h6:NC (.n o) (.t (.str k)) (.t v) fs=.nx ar:=by simp only[NC,h2,EN,hl,if_true,h3,h4]
 unfold BW;rw[hv];simp only[Out.bnd,Out.bind];rw[h1];simp only;rw[hi];simp only[SO.of];unfold Ui;rw[h5];exact h6
theorem Ml{i j:Nat}{fs ag au:FS}{x y:T}(h1:tgN i x fs=some ag)(h2:tgN j y ag=some au):AH 2 (Af (tgN i) (Af (tgN j) AD)) (.tup [x,y]) fs=some au:=by have e:AH 2 (Af (tgN i) (Af (tgN j) AD)) (.tup [x,y]) fs=Af (tgN i) (Af (tgN j) AD) [x,y] fs:=rfl;rw[e];simp only[Af,h1,h2,uB,AD]
noncomputable def EK(K:Kd):List Key:=K.map λkd=>(.inr kd.1:Key)
theorem any_false{ks:List Key}{k:Key}(h:k∉ks):(ks.any λk'=>decide (k'=k))=false:=by rw[vF];intro x hx;rw[decide_eq_true_eq];intro e;exact h (e▸hx)
theorem sq{g h:FS->SO}{fs ar:FS}{r:SO}(e:g fs=.nx ar)(e2:h ar=r):Ak g h fs=r:=(Jy e).trans e2
theorem Lh{f:FS->Out Rv}{fs ag:FS}{b:Bool}(h:f fs=.ok (.t (.v b)) ag):asB f fs=.ok b ag:=by unfold asB;rw[h];rfl
theorem TC{f:FS->Out Bool}{fs ag:FS}{b:Bool}(h:f fs=.ok b ag):Fm f fs=.ok (!b) ag:=by unfold Fm;rw[h];rfl
theorem Sj{f:FS->Out Rv}{fs ag:FS}{b:Bool}(h:f fs=.ok (.t (.v b)) ag):Kn f fs=.ok b ag:=by unfold Kn;rw[h];rfl
theorem Ry{c:FS->Out Bool}{g h:FS->SO}{fs ag:FS}{r:SO}(hc:c fs=.ok false ag)(e:h ag=r):ifS c g h fs=r:=by unfold ifS;rw[hc];exact e
theorem Rx{c:FS->Out Bool}{g h:FS->SO}{fs ag:FS}{r:SO}(hc:c fs=.ok true ag)(e:g ag=r):ifS c g h fs=r:=by unfold ifS;rw[hc];exact e
theorem EU{i:Nat}{fs:FS}{o:FO}(h:fs[i]?=some (some (.own o))):Aa i fs=.ok (.n i) fs:=by unfold Aa;rw[h]
theorem PQ{i:Nat}{fs:FS}{o:FO}(h:fs[i]?=some (some (.bor o))):Aa i fs=.ok (.n i) fs:=by unfold Aa;rw[h]
theorem YY{i:Nat}{fs:FS}{o:FO}(h:fs[i]?=some (some (.own o))):FL.AE fs i=some o:=by unfold FL.AE;rw[h]
theorem Tz{i:Nat}{fs:FS}{o:FO}(h:fs[i]?=some (some (.bor o))):FL.AE fs i=some o:=by unfold FL.AE;rw[h]
theorem N0{f:FS->Out Rv}{fs ag:FS}{r:Rv}(h:f fs=.ok r ag):Bg f fs=.nx ag:=by unfold Bg;rw[h];rfl
theorem A3{κ:Type}[DecidableEq κ]:∀{ks:List κ}{ts:List T}{k:κ},k∉ks->BV ks ts k=none
 | [],_,_,_=>by unfold BV;rfl
 |k'::ks,[],k,_=>by unfold BV;rfl
 |k'::ks,t::ts,k,h=>by
  have h1:k'≠k:=λe=>h (e▸tL)
  have h2:k∉ks:=λm=>h (sW _ m)
  simp only[BV,if_neg h1,A3 h2]
theorem Cy{κ α:Type}[DecidableEq κ]{f:α->κ}{g:α->T}:∀{xs:List α}{x:α},x∈xs->(xs.map f).Nodup->BV (xs.map f) (xs.map g) (f x)=some (g x)
 |y::ys,x,m,nd=>by
  rw[sX,sX];unfold BV;rw[sX,uc]at nd;by_cases e:f y=f x
  .rw[if_pos e];rcases tH.mp m with rfl|m
   .rfl
   .exact(nd.1 (tw.mpr ⟨x,m,e.symm⟩)).elim
  .rw[if_neg e];rcases tH.mp m with rfl|m
   .exact(e rfl).elim
   .exact Cy m nd.2
theorem Xr{neg:Bool}{k:Str}{i:Nat}{ks:List Key}{ts:List T}{fs:FS}(h:FL.AE fs i=some (.l ks ts)):CB neg (.t (.str k)) (.n i) fs=.ok (.t (.v (if neg then !(BV ks ts (.inr k:Key)).isSome else(BV ks ts (.inr k:Key)).isSome))) fs:=by
 unfold CB orG;have e:Uo neg (.t (.str k)) (.n i) fs=.ok (.t (.v (if neg then !(BV ks ts (.inr k:Key)).isSome else(BV ks ts (.inr k:Key)).isSome))) fs:=by simp only[Uo,RM,h,EN,vj];rfl
 rw[e]
theorem JbM{neg:Bool}{k:Str}{ks:List Key}{ts:List T}{fs:FS}:CB neg (.t (.str k)) (.t (.l ks ts)) fs=.ok (.t (.v (if neg then !(BV ks ts (.inr k:Key)).isSome else(BV ks ts (.inr k:Key)).isSome))) fs:=rfl
theorem Hi:∀xs:List Str,SV (xs.map T.str)=some (xs.map V.str)
 | []=>rfl
 |x::xs=>by simp only[sX,SV,plV,uB,Hi xs,vj]
theorem JY(k:Str):∀xs:List Str,inV (.str k) (xs.map V.str)=decide (k∈xs)
 | []=>by simp[inV]
 |x::xs=>by
  have:=JY k xs;unfold inV at this ⊢;rw[sX,vd,this];have e:eqV (.str x) (.str k)=decide (k=x):=by
   by_cases h:k=x
   .subst h;simp[eqV]
   .have h':x≠k:=λe=>h e.symm
    simp[eqV,h,h']
  rw[e,uK];simp
theorem Ru{neg:Bool}{k:Str}{xs:List Str}{fs:FS}:CB neg (.t (.str k)) (.t (.lst (xs.map T.str))) fs=.ok (.t (.v (if neg then !decide (k∈xs)else decide (k∈xs)))) fs:=by
 have e:gIn neg (.t (.str k)) (.t (.lst (xs.map T.str))) fs=.ok (.t (.v (if neg then !decide (k∈xs)else decide (k∈xs)))) fs:=by simp only[gIn,plV,DG,Hi,okT,JY]
 exact e
theorem Xq{neg:Bool}{k:Str}{xs:List Str}{i:Nat}{fs:FS}(h:FL.AE fs i=some (.lst (xs.map T.str))):CB neg (.t (.str k)) (.n i) fs=.ok (.t (.v (if neg then !decide (k∈xs)else decide (k∈xs)))) fs:=by
 have e:gIn neg (.t (.str k)) (.n i) fs=.ok (.t (.v (if neg then !decide (k∈xs)else decide (k∈xs)))) fs:=by simp only[gIn,plV,DG,h,Hi,okT,JY]
 have e1:Uo neg (.t (.str k)) (.n i) fs=.bad:=by simp only[Uo,RM,h]
 unfold CB orG;rw[e1];exact e
theorem Qz{fa fb fc:FS->Out Rv}{fs:FS}{a b c:Int}(ha:fa fs=.ok (.t (.int a)) fs)(hb:fb fs=.ok (.t (.int b)) fs)(hc:fc fs=.ok (.t (.int c)) fs)(h1:a<=b)(h2:b<=c):Fm (asB (chain gLe gLe fa fb fc)) fs=.ok false fs:=by
 have e1:gLe (.t (.int a)) (.t (.int b)) fs=.ok (.t (.v true)) fs:=by show okT (.v (decide (a<=b))) _=_;rw[t9 h1];rfl
 have e2:gLe (.t (.int b)) (.t (.int c)) fs=.ok (.t (.v true)) fs:=by show okT (.v (decide (b<=c))) _=_;rw[t9 h2];rfl
 simp only[Fm,asB,chain,Out.bnd,Out.bind,ha,hb,hc,e1,e2,Bool.not_true]
theorem TQ{x:T}{ts:List T}{f:FS->Out Rv}{fs ag:FS}(h:f fs=.ok (.t x) ag)(hs:x=.lst ts\/x=.tup ts):Ad AQ (Ab f Ai) fs=.ok (.t (.int ts.length)) ag:=by unfold Ad;rw[BK h (show Ai ag=.ok [] ag from rfl)];rcases hs with rfl|rfl<;>rfl
theorem C4{fs:FS}:Ai fs=.ok [] fs:=rfl
theorem Ul{x y:Str}{fs:FS}:gEq false (.t (.str x)) (.t (.str y)) fs=.ok (.t (.v (decide (x=y)))) fs:=by
 have q:decide (V.str x=V.str y)=decide (x=y):=by
  by_cases h:x=y
  .subst h;simp
  .rw[tS h,tS (by intro z;cases z;exact h rfl)]
 show(if QZ (V.str x) (V.str y)=true then okT (.v (if false=true then _ else decide (V.str x=V.str y))) fs else .bad)=_;rw[if_pos (show QZ (V.str x) (V.str y)=true from rfl),q];rfl
theorem RI{fa fb:FS->Out Rv}{fs:FS}{x y:Str}(h1:fa fs=.ok (.t (.str x)) fs)(h2:fb fs=.ok (.t (.str y)) fs):asB (Ae (gEq false) fa fb) fs=.ok (decide (x=y)) fs:=Lh (AJ h1 h2 Ul)
noncomputable def mks(K:Kd):List Str:=K.flatMap λkd=>kd.2.map (·.1)
noncomputable def Bt(K:Kd):List Key:=(mks K).map λm=>(.inr m:Key)
structure Well(K:Kd):Prop where
 lo:1<=K.length
 hi:K.length<=4
 nd:(K.map (·.1)).Nodup
 nm:∀kd∈K,AY [vl (.str kd.1)]=.ok (.t (.v true)) [vl (.str kd.1)]
 rw:∀kd∈K,1<=kd.2.length/\kd.2.length<=4
 yI:(mks K).Nodup
 yE:∀m∈mks K,AY [vl (.str m)]=.ok (.t (.v true)) [vl (.str m)]
 yC:∀m∈mks K,m.length<=12
 two:∀kd∈K,∀r∈kd.2,r.2.length<=2
 za:∀kd∈K,∀r∈kd.2,∀x∈r.2,x∈K.map (·.1)
 gr:∀D kd R,K=D++kd::R->∀r,kd.2[0]?=some r->∀x∈r.2,x∈D.map (·.1)
theorem JR{K:Kd}{kd:Str×List (Str×List Str)}{r:Str×List Str}(h1:kd∈K)(h2:r∈kd.2):r.1∈mks K:=uA.mpr ⟨kd,h1,tw.mpr ⟨r,h2,rfl⟩⟩
theorem JN{K:Kd}(h4:K.length<=4)(hr:∀kd∈K,kd.2.length<=4):(mks K).length<=16:=by
 have:∀K:Kd,(∀kd∈K,kd.2.length<=4)->(mks K).length<=4*K.length:=by
  intro K
  induction K with
  |nil=>intro _;simp[mks]
  |cons kd K ih =>
   intro h;have:=ih λkd m=>h kd (sW _ m)
   have h1:=h kd tL;unfold mks at this ⊢;rw[List.flatMap_cons,tY,tf,tV]
   lia
 have:=this K hr
 lia
theorem Fp(D R:Kd):mks (D++R)=mks D++mks R:=by unfold mks;rw[List.flatMap_append]
theorem DP(kd:Str×List (Str×List Str))(R:Kd):mks (kd::R)=kd.2.map (·.1)++mks R:=by unfold mks;rw[List.flatMap_cons]
theorem OV{rs:List (Str×List Str)}(h:(rs.map (·.1)).Nodup){r r':Str×List Str}(m:r∈rs)(m':r'∈rs)(e:r.1=r'.1):r=r':=by
 induction rs with
 |nil=>cases m
 |cons a rs ih =>
  rw[sX,uc]at h;rcases tH.mp m with q|q
  .rcases tH.mp m' with q'|q'
   .rw[q,q']
   .exact(h.1 (tw.mpr ⟨r',q',by rw[<- e,q]⟩)).elim
  .rcases tH.mp m' with q'|q'
   .exact(h.1 (tw.mpr ⟨r,q,by rw[e,q']⟩)).elim
   .exact ih h.2 q q'
noncomputable def KH(r:Str×List Str):Key:=.inr r.1
theorem Ef(D:Kd)(kd:Str×List (Str×List Str)):Bt (D++[kd])=Bt D++kd.2.map KH:=by unfold Bt;rw[Fp,DP,sU,sU,tU];simp[mks,KH,Function.comp_def]
theorem Bv{xs:List Str}(h:xs.Nodup):(xs.map λm=>(.inr m:Key)).Nodup:=by
 induction xs with
 |nil=>simp
 |cons x xs ih =>
  rw[uc]at h;rw[sX,uc];refine⟨λm=>?_,ih h.2⟩;rw[tw]at m;obtain⟨y,my,e⟩:=m;have:y=x:=by simpa using e
  exact h.1 (this▸my)
theorem Well.part{K:Kd}(W:Well K){D R:Kd}{kd:Str×List (Str×List Str)}(e:D++kd::R=K):(Bt D++kd.2.map KH).Nodup/\(Bt D).length+kd.2.length<1000/\kd∈K/\(kd.2.map (·.1)).Nodup:=by
 have h:=W.yI;have hl:=JN W.hi λkd m=>(W.rw kd m).2
 rw[<- e,Fp,DP]at h hl;refine⟨?_,?_,by rw[<- e];simp,?_⟩
 .rw[<- Ef];refine Bv ?_;rw[Fp,DP];simp only[mks,List.flatMap_nil,ud];rw[<- ub]at h;exact(sT.mp h).1
 .unfold Bt;rw[tf];simp at hl
  lia
 .exact(sT.mp (sT.mp h).2.1).1
theorem US{C:Addr}{f:Str}{i j:Nat}{fv:FS->Out Rv}{fs ag ar:FS}{gs:List Str}{os:List FO}{ks:List Key}{ts:List T}{k:Str}{t:T}(hv:fv fs=.ok (.t t) ag)(h0:ag[i]?=some (some (.bor (.ins C gs os))))(hj:ag[j]?=some (vl (.str k)))(hf:BB gs os f=some (.l ks ts))(hn:(.inr k:Key)∉ks)(hl:ks.length<big)
  (e:ag.set i (some (.bor (.ins C gs (B6 gs os f (.l (ks++[.inr k]) (ts++[t]))))))=ar):C9 C f i j fv fs=.nx ar:=by
 have h3:Ec ks ts (.inr k:Key) t=(ks++[.inr k],ts++[t]):=by unfold Ec;rw[any_false hn];rfl
 unfold C9;rw[hv];simp only[SO.of,Tz h0,hj,EN,hf,if_true,hl,h3];unfold FL.putAt;rw[h0];simp only[Sl.put,e]
noncomputable def Vf(rows:List (Str×List Str)):List T:=rows.map λr=>T.tup (r.2.map T.str)
noncomputable def MI(K:Kd):List T:=K.flatMap λkd=>Vf kd.2
noncomputable def LM(k:Str)(rows:List (Str×List Str)):List T:=rows.map λ_=>T.str k
noncomputable def CO(K:Kd):List T:=K.flatMap λkd=>LM kd.1 kd.2
noncomputable def Iz(K:Kd):List T:=K.map λkd=>T.lst ((kd.2.map (·.1)).map T.str)
theorem MH(D:Kd)(kd:Str×List (Str×List Str)):MI (D++[kd])=MI D++Vf kd.2:=by unfold MI;simp
theorem Pq:("makers_by_kind":Str)≠("parts_by_maker":Str)/\("makers_by_kind":Str)≠("home_by_maker":Str)/\("parts_by_maker":Str)≠("home_by_maker":Str):=by decide +kernel
noncomputable def QW(C:Addr)(K:Kd)(hs:List T):FO:=.ins C ["makers_by_kind","parts_by_maker","home_by_maker"] [.l (EK K) (Iz K),.l (Bt K) (MI K),.l (Bt K) hs]
noncomputable def B4(C:Addr)(K:Kd)(hs:List T):T:=.ins C ["makers_by_kind","parts_by_maker","home_by_maker"] [.l (EK K) (Iz K),.l (Bt K) (MI K),.l (Bt K) hs]
theorem JV{K:Kd}(W:Well K):(K.map λkd=>(.inr kd.1:Key)).Nodup:=by have:=Bv W.nd;rwa[tU]at this
theorem val_mk{K:Kd}(W:Well K){kd:Str×List (Str×List Str)}(m:kd∈K):BV (EK K) (Iz K) (.inr kd.1:Key)=some (.lst ((kd.2.map (·.1)).map T.str)) :=
 Cy (f:=λkd:Str×List (Str×List Str)=>(.inr kd.1:Key)) (g:=λkd:Str×List (Str×List Str)=>T.lst ((kd.2.map (λr:Str×List Str=>r.1)).map T.str)) m (JV W)
noncomputable def allR(K:Kd):List (Str×List Str):=K.flatMap (·.2)
theorem Fq(K:Kd):Bt K=(allR K).map KH:=by unfold Bt mks allR;rw[uZ,uZ];simp only[tU];rfl
theorem O5(K:Kd):MI K=(allR K).map λr=>T.tup (r.2.map T.str):=by unfold MI Vf allR;rw[uZ]
theorem Mi{K:Kd}(W:Well K){kd:Str×List (Str×List Str)}{r:Str×List Str}(m:kd∈K)(m2:r∈kd.2):BV (Bt K) (MI K) (.inr r.1:Key)=some (.tup (r.2.map T.str)):=by have h:=Bv W.yI;have h2:=Fq K;unfold Bt at h2;rw[h2]at h;rw[Fq,O5];exact Cy (f:=KH) (g:=λr=>T.tup (r.2.map T.str)) (x:=r) (uA.mpr ⟨kd,m,m2⟩) h
theorem XB{k:Str}{ks:List Key}{ts:List T}{t:T}{fs:FS}(h:BV ks ts (.inr k:Key)=some t):AA (.t (.l ks ts)) (.t (.str k)) fs=.ok (.t t) fs:=by
 have e:J3 (.t (.l ks ts)) (.t (.str k)) fs=.ok (.t t) fs:=by simp only[J3,RM,EN,vj,h,okT]
 exact e
theorem PH{C:Addr}{mt:Str}{fs:FS}{K:Kd}{hs:List T}(h:(["makers_by_kind","parts_by_maker","home_by_maker"]:List Str).any (·==mt)=false):Hw C mt fs (.t (B4 C K hs))=true:=by unfold Hw B4;simp only[h];simp
theorem NM{gt:T->FS->Option FS}{body:FS->SO}{t:T}{ts:List T}{fs ag au:FS}(h1:gt t fs=some ag)(h2:body ag=.nx au):DJ gt body (t::ts) fs=DJ gt body ts au:=by simp only[DJ,h1,h2]
theorem Ur{gt:T->FS->Option FS}{body:FS->SO}{t:T}{ts:List T}{fs ag au:FS}{r:Rv}(h1:gt t fs=some ag)(h2:body ag=.ret r au):DJ gt body (t::ts) fs=.ret r au:=by simp only[DJ,h1,h2]
theorem B2{g:List Rv->FS->Out Rv}{fa:FS->Out (List Rv)}{fs ag:FS}{rs:List Rv}{r:Out Rv}(h:fa fs=.ok rs ag)(h2:g rs ag=r):Ad g fa fs=r:=by unfold Ad;rw[h];exact h2
theorem K3{gt:T->FS->Option FS}{fe:FS->Out Rv}{t v:T}{ts ax:List T}{τ jv cU:FS}(h1:gt t τ=some jv)(h2:fe jv=.ok (.t v) cU)(hl:ax.length<big):Bp gt Dz fe (t::ts) τ ax=Bp gt Dz fe ts cU (ax++[v]):=by simp only[Bp,h1,Dz,h2,if_pos hl]
theorem V0{fs:FS}{i:Nat}{ts:List T}(h:fs[i]?=some (some (.own (.lst ts)))):DG fs (.n i)=some ts:=by simp only[DG,YY h]
theorem Kh{f g:FS->Out Bool}{fs:FS}{a b:Bool}(h1:f fs=.ok a fs)(h2:g fs=.ok b fs):Ki f g fs=.ok (a&&b) fs:=by
 unfold Ki;rw[h1];cases a
 .rfl
 .show g fs=_;rw[h2];rfl
theorem YL{ps us:List T}{fs:FS}(h:ps.length+us.length<=big):Av (.t (.tup ps)) (.t (.tup us)) fs=.ok (.t (.tup (ps++us))) fs:=by cases ps with|nil=>rfl|cons p ps =>have:NJ (.t (.tup (p::ps))) (.t (.tup us)) fs=.ok (.t (.tup (p::ps++us))) fs:=if_pos ⟨by simp,h⟩;show(match NJ (.t (.tup (p::ps))) (.t (.tup us)) fs with|.bad=>_|o=>o)=_;rw[this]
theorem Ms:("a":Str).length=1:=by decide +kernel
open PySem.Builtin.Int (intBits)
theorem Kc{x:Int}{n:Nat}:intBits x<=n↔x.natAbs<2^n:=by
 unfold intBits;by_cases h:x=0
 .subst h;simp[Nat.two_pow_pos]
 .have h':(x==0)=false:=by simpa using h
  rw[h'];have hn:x.natAbs≠0:=by lia
  have:=Nat.log2_lt hn (k:=n);simp only[vB,if_false]
  lia
theorem bits_add{x y:Int}{n:Nat}(h1:intBits x<=n)(h2:intBits y<=n):intBits (x+y)<=n+1:=by
 rw[Kc]at h1 h2 ⊢;rw[Nat.pow_succ];generalize 2^n=m at *
 lia
theorem bits_mul{x y:Int}{n m:Nat}(h1:intBits x<=n)(h2:intBits y<=m):intBits (x*y)<=n+m:=by
 rw[Kc]at h1 h2 ⊢;rw[Int.natAbs_mul,Nat.pow_add];have hp:0<2^n:=Nat.two_pow_pos n
 calc x.natAbs*y.natAbs<=2^n*y.natAbs:=Nat.mul_le_mul_right _ (by lia)
  _<2^n*2^m:=Nat.mul_lt_mul_of_pos_left h2 hp
theorem Er{x:Int}{n:Nat}(h:x.natAbs<2^n):intBits x<=n:=Kc.mpr h
theorem JT{C:Addr}{p:Nat}{Fn:FS->Out Rv}{fa:FS->Out (List Rv)}{fs ag τ:FS}{rs:List Rv}{o:FO}(ha:fa fs=.ok rs ag)(hp:rs.length+1=p)(hl:DH ag (rs.map AW)=[])(hf:Fn (some (.bor (.ins C [] []))::BY ag (rs.map AW))=.ok (.t .o) (some (.bor o)::τ)):Ad (DS C p Fn) fa fs=.ok (.nw o) ag:=by unfold Ad;rw[ha];show DS C p Fn rs ag=_;unfold DS;rw[if_pos ⟨by rw[hl];exact ua,hp⟩,hf];dsimp only;rw[Cg hl]
theorem U6{xs ys:List T}{fs:FS}(h:xs.length+ys.length<=big):Av (.t (.lst xs)) (.t (.lst ys)) fs=.ok (.nw (.lst (xs++ys))) fs:=by
 have:LP (.t (.lst xs)) (.t (.lst ys)) fs=.ok (.nw (.lst (xs++ys))) fs:=by simp only[LP,exL];exact if_pos h
 show(match LP (.t (.lst xs)) (.t (.lst ys)) fs with|.bad=>_|o=>o)=_;rw[this]
theorem QX{fs:FS}{i:Nat}{o:FO}{x:Option Sl}(e:fs[i]?=some x)(h:Fre x):Gg i (.nw o) fs=some (fs.set i (some (.own o))):=by unfold Gg;rw[e];cases x with|none=>rfl|some s=>cases s with|val t=>rfl|own o=>rfl|bor o=>exact h.elim
theorem HW{n:Nat}{g:FS->SO}{args τ:FS}{t:T}(h:g (args++List.replicate n none)=.ret (.t t) τ):Bj n g args=.ok (.t t) (τ.take args.length):=by unfold Bj;rw[h]
theorem T6{f:FS->Out Rv}{fs:FS}{ts:List T}(h:f fs=.ok (.t (.lst ts)) fs):itU f fs=.ok ts fs:=by unfold itU;rw[h];rfl
theorem OT{n:Nat}{g:FS->SO}{args τ:FS}{i:Nat}{o:FO}(h:g (args++List.replicate n none)=.ret (.n i) τ)(hi:τ[i]?=some (some (.own o))):Bj n g args=.ok (.nw o) ((τ.set i none).take args.length):=by unfold Bj;rw[h];simp only[hi]
theorem Sx{n:Nat}{g:FS->SO}{args τ:FS}{o:FO}(h:g (args++List.replicate n none)=.ret (.nw o) τ):Bj n g args=.ok (.nw o) (τ.take args.length):=by unfold Bj;rw[h]
noncomputable def exN(s:Str):T:=.tup [.str "name",.str s]
noncomputable def exP(h s:Str)(ts:List T):T:=.tup [.str h,.str s,.tup ts]
theorem UM(m:Nat)(a b:Str):eqT m (.str a) (.str b)=some (a==b):=by cases m<;>rfl
theorem UL(m:Nat)(xs ys:List T):eqT (m+1) (.tup xs) (.tup ys)=(Qq (eqT m) xs ys).map (·&&xs.length==ys.length):=rfl
theorem OR{g h:FS->SO}{fs ar:FS}{c:Str}(e:g fs=.exc c ar):Ak g h fs=.exc c ar:=by unfold Ak;rw[e]
theorem OU{n:Nat}{g:FS->SO}{args τ:FS}{c:Str}(h:g (args++List.replicate n none)=.exc c τ):Bj n g args=.exc c (τ.take args.length):=by unfold Bj;rw[h]
theorem FX{p:Nat}{Fn:FS->Out Rv}{fa:FS->Out (List Rv)}{fs ag τ:FS}{rs:List Rv}{c:Str}(ha:fa fs=.ok rs ag)(hp:rs.length=p)(hn:DH ag (rs.map AW)=[])(hf:Fn (BY ag (rs.map AW))=.exc c τ):Ad (Ah p Fn) fa fs=.exc c ag:=by have hb:DD (rs.map AW) τ ag=some ag:=Cg hn;unfold Ad;rw[ha];show Ah p Fn rs ag=_;unfold Ah;rw[if_pos hp];unfold GV;rw[if_pos (by rw[hn];exact ua),hf];simp only[hb]
theorem N4{f:FS->Out Rv}{fs ag:FS}{c:Str}(h:f fs=.exc c ag):Bg f fs=.exc c ag:=by unfold Bg;rw[h];rfl
def Nn:Rv->Prop
 |.nw _=>False
 |_=>True
section
variable{α:Type}{f fa fb:FS->Out Rv}{ga:FS->Out (List Rv)}{c ct:FS->Out Bool}{it:FS->Out (List T)}{s s' h:FS->SO}{fs ag au ar τ:FS}{x y r:Rv}{rs:List Rv}{o:Out Rv}{so:SO}{b b':Bool}{t u:T}{ts us:List T}{i j p:Nat}{g:Rv->Rv->FS->Out Rv}{gt:T->FS->Option FS}{gs:List T->FS->Option FS}{Fn:FS->Out Rv}{C:Addr}{m:Str}
theorem BP{k:Rv->FS->Out α}(n:Nn x):(Out.ok x fs).bnd k=k x fs:=by cases x<;>first|rfl|exact n.elim
theorem ZQ(h1:fa fs=.ok x ag)(n1:Nn x)(h2:fb ag=.ok y au)(n2:Nn y)(h3:g x y au=o):Ae g fa fb fs=o:=by unfold Ae;rw[h1,BP n1];show(fb ag).bnd _=_;rw[h2,BP n2];exact h3
theorem Jq(h1:f fs=.ok x ag)(n1:Nn x)(h2:ga ag=.ok rs au):Ab f ga fs=.ok (x::rs) au:=by unfold Ab;rw[h1,BP n1];show(ga ag).bind _=_;rw[h2];rfl
noncomputable def fzR:Rv->FS->Out Rv
 |.t t,fs=>.ok (.t t) fs
 |.nw o,fs=>.ok (.t (toT o)) fs
 |.n i,fs=>match fs[i]? with|some (some (.own o))=>.ok (.t (toT o)) (fs.set i (some (.val (toT o))))|_=>.bad
theorem ZO(h:f fs=.ok r ag)(e:fzR r ag=o):fz f fs=o:=by unfold fz;rw[h];show _=_;cases r<;>exact e
theorem x_call(h0:ga fs=.ok rs ag)(hp:rs.length=p)(hl:DH ag (rs.map AW)=[])(hf:Fn (BY ag (rs.map AW))=.ok r τ)(hr:r=.t t\/∃o,r=.nw o):Ad (Ah p Fn) ga fs=.ok r ag:=by
 rcases hr with rfl|⟨o,rfl⟩
 .exact K8 h0 hp (by rw[hl];exact ua) hf (Cg hl)
 .exact QJ h0 hp (by rw[hl];exact ua) hf (Cg hl)
theorem Sf(h0:ga fs=.ok rs ag)(hp:rs.length=p)(hl:DH ag (rs.map AW)=[])(hf:Fn (BY ag (rs.map AW))=.ok (.t t) τ):Ad (Ah p Fn) ga fs=.ok (.t t) ag:=x_call (t:=t) h0 hp hl hf (.inl rfl)
theorem Se{o:FO}(h0:ga fs=.ok rs ag)(hp:rs.length=p)(hl:DH ag (rs.map AW)=[])(hf:Fn (BY ag (rs.map AW))=.ok (.nw o) τ):Ad (Ah p Fn) ga fs=.ok (.nw o) ag:=x_call (t:=.o) h0 hp hl hf (.inr ⟨o,rfl⟩)
theorem ZS(h:f fs=.ok (.t (.v b)) ag):asB f fs=.ok b ag:=Lh h
theorem Zm(e:s fs=.nx ag)(e2:h ag=so):Ak s h fs=so:=sq e e2
theorem R0(hc:c fs=.ok b ag)(e:(bif b then Ak s h ag else Ak s' h ag)=so):Ak (ifS c s s') h fs=so:=by unfold Ak ifS;rw[hc];cases b<;>exact e
theorem Jb2(hc:c fs=.ok b ag)(e:(bif b then s ag else s' ag)=so):ifS c s s' fs=so:=by unfold ifS;rw[hc];cases b<;>exact e
theorem VF(hc:c fs=.ok b ag)(hb:b=false)(e:s' ag=so):ifS c (λ_=>.bad) s' fs=so:=by subst hb;unfold ifS;rw[hc];exact e
theorem Zh:Ak nxS h fs=h fs:=rfl
theorem QQ(e:f fs=.ok r ag):Ak (retS f) h fs=.ret r ag:=EO (CL e)
theorem Zl(h:f fs=.ok r ag)(e:Gg i r ag=some au):Ay i f fs=.nx au:=by unfold Ay;rw[h];show(match Gg i r ag with|some fs=>SO.nx fs|none=>.bad)=_;rw[e]
theorem ZR(h:f fs=.ok (.t t) ag)(e:gt t ag=some au):EF f gt fs=.nx au:=by unfold EF;rw[h];show(match gt t ag with|some fs=>SO.nx fs|none=>.bad)=_;rw[e]
theorem Za(h:ts.length=i)(e:gs ts fs=some ar):AH i gs (.tup ts) fs=some ar:=(if_pos h).trans e
theorem Vn(h:ts.length=i)(e:gs ts fs=some ar):Lu i gs (.lst ts) fs=some ar:=(if_pos h).trans e
theorem Ze(e:gt t fs=some ag)(e2:gs ts ag=some au):Af gt gs (t::ts) fs=some au:=by show(gt t fs).bind _=_;rw[e];exact e2
theorem Gh{z:Option Sl}(e:fs[i]?=some z)(h:Fre z):tgN i t fs=some (fs.set i (vl t)):=by unfold tgN;exact Kp e h
theorem Gi(h:it fs=.ok ts ag)(e:DJ gt s ts ag=so):BC it gt s fs=so:=by unfold BC;rw[h];exact e
theorem OE(h:f fs=.ok (.t t) ag)(e:t=.lst ts\/t=.tup ts\/t=.zY ts):itU f fs=.ok ts ag:=by unfold itU;rw[h];rcases e with rfl|rfl|rfl<;>rfl
theorem ZA(h1:fa fs=.ok (.t t) ag)(e1:Jl t=some ts)(h2:fb ag=.ok (.t u) au)(e2:Jl u=some us):itZ fa fb fs=.ok (FL.pairs ts us) au:=by unfold itZ;rw[h1,BP (x:=.t t) True.intro];show(fb ag).bnd _=_;rw[h2,BP (x:=.t u) True.intro];show(match Jl t,Jl u with|some xs,some ys=>Out.ok (FL.pairs xs ys) au|_,_=>.bad)=_;rw[e1,e2]
theorem ZD(h1:fa fs=.ok (.t t) ag)(e1:Jl t=some ts):itE fa fs=.ok (D3 0 ts) ag:=by unfold itE;rw[h1,BP (x:=.t t) True.intro];show(match Jl t with|some xs=>Out.ok (D3 0 xs) ag|none=>.bad)=_;rw[e1]
theorem VE{d:List T->FS->Out Rv}(h:ga fs=.ok rs ag)(h2:LY rs=some ts)(h3:ts.length<=big)(e:d ts ag=o):An d ga fs=o:=UT h h2 h3 e
theorem Zw(h:f fs=.ok (.t t) ag)(e:t=.lst ts\/t=.tup ts):Ad AQ (Ab f Ai) fs=.ok (.t (.int ts.length)) ag:=TQ h e
theorem Mf(h1:c fs=.ok b ag)(h2:b=true->ct ag=.ok b' ag):Ki c ct fs=.ok (b&&b') ag:=by unfold Ki;rw[h1];cases b with|true=>exact h2 rfl|false=>rfl
theorem Mg(h1:c fs=.ok b ag)(hb:b=false):Ki c ct fs=.ok false ag:=by subst hb;exact Mf (b':=false) h1 (λh=>by cases h)
theorem Me{ar:FS}(h1:c fs=.ok b ag)(hb:b=true)(h2:ct ag=.ok b' ar):Ki c ct fs=.ok b' ar:=by subst hb;unfold Ki;rw[h1];exact h2
theorem Vx{ar:FS}(h1:c fs=.ok b ag)(hb:b=false)(h2:ct ag=.ok b' ar):orT c ct fs=.ok b' ar:=by subst hb;unfold orT;rw[h1];exact h2
theorem Zq(h1:c fs=.ok b ag)(h2:b=false->ct ag=.ok b' ag):orT c ct fs=.ok (b||b') ag:=by unfold orT;rw[h1];cases b with|false=>exact h2 rfl|true=>rfl
theorem JaU{i j:Int}:gLt (.t (.int i)) (.t (.int j)) fs=.ok (.t (.v (decide (i<j)))) fs:=rfl
theorem JaW{i j:Int}:gLe (.t (.int i)) (.t (.int j)) fs=.ok (.t (.v (decide (i<=j)))) fs:=rfl
theorem JbQ{i j:Int}:gEq false (.t (.int i)) (.t (.int j)) fs=.ok (.t (.v (decide (i=j)))) fs:=by
 have:=RK (fa:=gc (.int i)) (fb:=gc (.int j)) (fs:=fs) Dp Dp;unfold asB at this;show gEq false (.t (.int i)) (.t (.int j)) fs=_;rw[show Ae (gEq false) (gc (.int i)) (gc (.int j)) fs=gEq false (.t (.int i)) (.t (.int j)) fs from rfl]at this;cases e:gEq false (.t (.int i)) (.t (.int j)) fs with
 |ok r au =>rw[e]at this;cases r with|t t=>cases t<;>simp_all[Out.bind]|nw o=>simp[Out.bind]at this|n i=>simp[Out.bind]at this
 |exc c au=>rw[e]at this;simp[Out.bind]at this
 |bad=>rw[e]at this;simp[Out.bind]at this
theorem QR(hc:c fs=.ok b ag)(hb:b=false)(e:Ak s' h ag=so):Ak (ifS c (λ_=>.bad) s') h fs=so:=by subst hb;exact R0 hc e
def Rt:Rv->Prop
 |.n _=>False
 |_=>True
theorem Sd{as:FS}(h0:ga fs=.ok rs ag)(hp:rs.length=p)(hl:DH ag (rs.map AW)=[])(ha:BY ag (rs.map AW)=as)(hf:Fn as=.ok r τ)(hr:Rt r):Ad (Ah p Fn) ga fs=.ok r ag:=by subst ha;cases r with|t t=>exact Sf h0 hp hl hf|nw o=>exact Se h0 hp hl hf|n i=>exact hr.elim
theorem Jcb{a1:T}(h0:ga fs=.ok [.t a1] ag)(hf:Fn [vl a1]=.ok r τ)(hr:Rt r):Ad (Ah 1 Fn) ga fs=.ok r ag:=Sd h0 rfl rfl rfl hf hr
theorem Jca{a1 a2:T}(h0:ga fs=.ok [.t a1,.t a2] ag)(hf:Fn [vl a1,vl a2]=.ok r τ)(hr:Rt r):Ad (Ah 2 Fn) ga fs=.ok r ag:=Sd h0 rfl rfl rfl hf hr
theorem Jb9{a1 a2 a3:T}(h0:ga fs=.ok [.t a1,.t a2,.t a3] ag)(hf:Fn [vl a1,vl a2,vl a3]=.ok r τ)(hr:Rt r):Ad (Ah 3 Fn) ga fs=.ok r ag:=Sd h0 rfl rfl rfl hf hr
theorem Jb8{a1 a2 a3 a4:T}(h0:ga fs=.ok [.t a1,.t a2,.t a3,.t a4] ag)(hf:Fn [vl a1,vl a2,vl a3,vl a4]=.ok r τ)(hr:Rt r):Ad (Ah 4 Fn) ga fs=.ok r ag:=Sd h0 rfl rfl rfl hf hr
theorem Jb7{a1 a2 a3 a4 a5:T}(h0:ga fs=.ok [.t a1,.t a2,.t a3,.t a4,.t a5] ag)(hf:Fn [vl a1,vl a2,vl a3,vl a4,vl a5]=.ok r τ)(hr:Rt r):Ad (Ah 5 Fn) ga fs=.ok r ag:=Sd h0 rfl rfl rfl hf hr
theorem Jb6{a1 a2 a3 a4 a5 a6:T}(h0:ga fs=.ok [.t a1,.t a2,.t a3,.t a4,.t a5,.t a6] ag)(hf:Fn [vl a1,vl a2,vl a3,vl a4,vl a5,vl a6]=.ok r τ)(hr:Rt r):Ad (Ah 6 Fn) ga fs=.ok r ag:=Sd h0 rfl rfl rfl hf hr
theorem JbY{a0 a1:T}(h1:f fs=.ok (.t a0) ag)(h2:ga ag=.ok [.t a1] au)(hf:Fn [vl a0,vl a1]=.ok r τ)(hr:Rt r)(hi:Hw C m ag (.t a0)=true):EJ C m 2 Fn f ga fs=.ok r au:=by unfold EJ;rw[h1,BP (x:=.t a0) True.intro];show(if _ then _ else _)=_;rw[if_pos hi,h2];exact Sd (ga:=λfs=>.ok [.t a0,.t a1] fs) rfl rfl rfl rfl hf hr
theorem JbZ{a0:T}{o:FO}(h1:f fs=.ok (.t a0) ag)(hf:Fn [vl a0]=.ok (.nw o) τ)(hi:Hw C m ag (.t a0)=true):JQ C m 1 Fn f Ai fs=.ok (.nw o) ag:=by unfold JQ;rw[h1,BP (x:=.t a0) True.intro];show(if _ then _ else _)=_;rw[if_pos hi];show Og 1 Fn [.t a0] ag=_;unfold Og QI;rw[if_pos (show [Rv.t a0].length=1 from rfl),show DH ag ([Rv.t a0].map AW)=[]from rfl,if_pos ua,show BY ag ([Rv.t a0].map AW)=[vl a0]from rfl,hf];show(match DD ([Rv.t a0].map AW) τ ag with|some ar=>Out.ok (Rv.nw o) ar|none=>.bad)=_;rw[Cg rfl]
theorem ZP{n:Str}{gs:List Str}{ts:List T}(h:f fs=.ok (.t (.ins C gs ts)) ag)(hv:Gf gs ts n=some t):Ez C n f fs=.ok (.t t) ag:=by unfold Ez;rw[h,BP (x:=.t (.ins C gs ts)) True.intro];show(if _ then _ else _)=_;rw[if_pos rfl,hv];rfl
theorem gNe{x y:Rv}(h:gEq false x y fs=.ok (.t (.v b)) fs):gEq true x y fs=.ok (.t (.v (!b))) fs:=by unfold gEq at *;split at h<;>simp_all;split at h<;>simp_all[okT];split at h<;>simp_all
theorem JaS{x y:Str}:gEq true (.t (.str x)) (.t (.str y)) fs=.ok (.t (.v (!decide (x=y)))) fs:=gNe Ul
theorem JaT{x y:Int}:gEq true (.t (.int x)) (.t (.int y)) fs=.ok (.t (.v (!decide (x=y)))) fs:=gNe JbQ
theorem R5:fzR (.t t) fs=.ok (.t t) fs:=rfl
theorem ZH:fzR (.nw (.lst ts)) fs=.ok (.t (.lst ts)) fs:=rfl
theorem ZG(h:fs[i]?=some (some (.own (.lst ts)))):fzR (.n i) fs=.ok (.t (.lst ts)) (fs.set i (vl (.lst ts))):=by simp only[fzR,h];rfl
theorem Vq:nxS fs=.nx fs:=rfl
theorem Zf:AD [] fs=some fs:=rfl
theorem Jb3:AX ts fs=.ok (.t (.tup ts)) fs:=rfl
theorem Jb5:BF ts fs=.ok (.t (.lst ts)) fs:=rfl
theorem Jb4:Dq ts fs=.ok (.nw (.lst ts)) fs:=rfl
theorem ZW:LY []=some []:=rfl
theorem ZV(h:LY rs=some ts):LY (.t t::rs)=some (t::ts):=by unfold LY;rw[h];rfl
theorem Zg:Jl (.tup ts)=some ts:=rfl
theorem Zx{k:Int}(h:atI ts k=some t):AA (.t (.tup ts)) (.t (.int k)) fs=.ok (.t t) fs:=by
 have e:gIx (.t (.tup ts)) (.t (.int k)) fs=.ok (.t t) fs:=by simp only[gIx,DG,h];rfl
 show(match gIx (.t (.tup ts)) (.t (.int k)) fs with|.bad=>_|o=>o)=_;rw[e]
theorem Zy{k:Int}(h:atI ts k=some t):AA (.t (.lst ts)) (.t (.int k)) fs=.ok (.t t) fs:=Hz rfl h
end
def Sat(Q:SO->Prop)(so:SO):Prop:=Q so
section
variable{Q:SO->Prop}{f:FS->Out Rv}{c:FS->Out Bool}{it:FS->Out (List T)}{s s' h:FS->SO}{fs ag:FS}{r:Rv}{b:Bool}{ts:List T}{gt:T->FS->Option FS}{P:List T->FS->Prop}{R:FS->SO->Prop}{n:Nat}{args τ:FS}{A:Rv->Prop}
theorem Ci(e:s fs=.nx ag)(k:Sat Q (h ag)):Sat Q (Ak s h fs):=by unfold Sat;rw[Jy e];exact k
theorem JB(hc:c fs=.ok b ag)(k1:b=true->Sat Q (Ak s h ag))(k2:b=false->Sat Q (Ak s' h ag)):Sat Q (Ak (ifS c s s') h fs):=by unfold Sat;rw[R0 hc rfl];cases b;exact k2 rfl;exact k1 rfl
theorem q_if(hc:c fs=.ok b ag)(k1:b=true->Sat Q (s ag))(k2:b=false->Sat Q (s' ag)):Sat Q (ifS c s s' fs):=by unfold Sat;rw[Jb2 hc rfl];cases b;exact k2 rfl;exact k1 rfl
theorem Wa(hc:c fs=.ok b ag)(hb:b=false)(k:Sat Q (Ak s' h ag)):Sat Q (Ak (ifS c (λ_=>.bad) s') h fs):=by unfold Sat;rw[QR hc hb rfl];exact k
theorem Jaj(hc:c fs=.ok b ag)(hb:b=false)(k:Sat Q (s' ag)):Sat Q (ifS c (λ_=>.bad) s' fs):=by unfold Sat;rw[VF hc hb rfl];exact k
theorem Wc(e:f fs=.ok r ag)(k:Sat Q (.ret r ag)):Sat Q (retS f fs):=by unfold Sat;rw[CL e];exact k
theorem V8(e:f fs=.ok r ag)(k:Sat Q (.ret r ag)):Sat Q (Ak (retS f) h fs):=by unfold Sat;rw[QQ e];exact k
theorem MD(k:Sat Q (h fs)):Sat Q (Ak nxS h fs):=k
theorem q_ss(k:Sat Q (Ak s (Ak s' h) fs)):Sat Q (Ak (Ak s s') h fs):=by unfold Sat at *;unfold Ak at *;cases e:s fs<;>simp only[e]at k ⊢<;>exact k
theorem Wf(e:s fs=.nx ag)(k:Sat Q (.nx ag)):Sat Q (s fs):=by unfold Sat;rw[e];exact k
theorem J4(st:∀t ts fs,P (t::ts) fs->∃ag,gt t fs=some ag/\Sat (λso=>∃au,so=.nx au/\P ts au) (s ag)):∀(ts:List T)(fs:FS),P ts fs->∃ar,DJ gt s ts fs=.nx ar/\P [] ar :=
 NN P λt ts fs p=>let⟨ag,a,au,b,c⟩:=st t ts fs p;⟨ag,au,a,b,c⟩
theorem V9(hi:it fs=.ok ts ag)(P:List T->FS->Prop)(h0:P ts ag)(st:∀t ts fs,P (t::ts) fs->∃ag,gt t fs=some ag/\Sat (λso=>∃au,so=.nx au/\P ts au) (s ag))(k:∀ar,P [] ar->Sat Q (h ar)):Sat Q (Ak (BC it gt s) h fs):=by obtain⟨ar,e,p⟩:=J4 st ts ag h0;exact Ci (Gi hi e) (k ar p)
theorem Jai(hi:it fs=.ok ts ag)(P:List T->FS->Prop)(h0:P ts ag)(st:∀t ts fs,P (t::ts) fs->∃ag,gt t fs=some ag/\Sat (λso=>∃au,so=.nx au/\P ts au) (s ag))(k:∀ar,P [] ar->Sat Q (.nx ar)):Sat Q (BC it gt s fs):=by obtain⟨ar,e,p⟩:=J4 st ts ag h0;unfold Sat;rw[Gi hi e];exact k ar p
theorem JC(hi:it fs=.ok ts ag)(Pe:T->Prop)(I:FS->Prop)(h0:∀u∈ts,Pe u)(h1:I ag)(st:∀t fs,Pe t->I fs->∃ag,gt t fs=some ag/\Sat (λso=>∃au,so=.nx au/\I au) (s ag))(k:∀ar,I ar->Sat Q (h ar)):Sat Q (Ak (BC it gt s) h fs) :=
 V9 hi (λus fs=>(∀u∈us,Pe u)/\I fs) ⟨h0,h1⟩ (λt us fs ⟨a,b⟩=>let⟨ag,e,au,e2,i⟩:=st t fs (a t tL) b;⟨ag,e,au,e2,λu m=>a u (sW _ m),i⟩) (λfs p=>k fs p.2)
theorem Q5(hi:it fs=.ok ts ag)(Pe:T->Prop)(I:FS->Prop)(h0:∀u∈ts,Pe u)(h1:I ag)(st:∀t fs,Pe t->I fs->∃ag,gt t fs=some ag/\Sat (λso=>∃au,so=.nx au/\I au) (s ag))(k:∀ar,I ar->Sat Q (.nx ar)):Sat Q (BC it gt s fs) :=
 Jai hi (λus fs=>(∀u∈us,Pe u)/\I fs) ⟨h0,h1⟩ (λt us fs ⟨a,b⟩=>let⟨ag,e,au,e2,i⟩:=st t fs (a t tL) b;⟨ag,e,au,e2,λu m=>a u (sW _ m),i⟩) (λfs p=>k fs p.2)
theorem XQ{α:Type}{p:α->T}{xs:List α}{I:List α->FS->Prop}(h0:I [] fs)(st:∀D a R fs,D++a::R=xs->I D fs->∃ag,gt (p a) fs=some ag/\Sat (λso=>∃au,so=.nx au/\I (D++[a]) au) (s ag)):∃ar,DJ gt s (xs.map p) fs=.nx ar/\I xs ar:=by
 obtain⟨ar,e,D,R,h1,h2,h3⟩:=J4 (P:=λus fs=>∃D R,D++R=xs/\us=R.map p/\I D fs) (gt:=gt) (s:=s) (λt us fs ⟨D,R,h1,h2,h3⟩=>by cases R with|nil=>cases h2|cons a R =>obtain⟨rfl,rfl⟩:=List.cons.inj h2;obtain⟨ag,e,au,e2,i⟩:=st D a R fs h1 h3;exact⟨ag,e,au,e2,D++[a],R,by rw[<- h1];simp,rfl,i⟩) (xs.map p) fs ⟨[],xs,rfl,rfl,h0⟩;have:R=[]:=by cases R with|nil=>rfl|cons a R=>cases h2
 subst this;rw[ud]at h1;exact⟨ar,e,h1▸h3⟩
theorem Bi{α:Type}{p:α->T}{xs:List α}(hi:it fs=.ok (xs.map p) ag)(I:List α->FS->Prop)(h0:I [] ag)(st:∀D a R fs,D++a::R=xs->I D fs->∃ag,gt (p a) fs=some ag/\Sat (λso=>∃au,so=.nx au/\I (D++[a]) au) (s ag))(k:∀ar,I xs ar->Sat Q (h ar)):Sat Q (Ak (BC it gt s) h fs):=by obtain⟨ar,e,p⟩:=XQ h0 st;exact Ci (Gi hi e) (k ar p)
theorem Ex{α:Type}{p:α->T}{xs:List α}(hi:it fs=.ok (xs.map p) ag)(I:List α->FS->Prop)(h0:I [] ag)(st:∀D a R fs,D++a::R=xs->I D fs->∃ag,gt (p a) fs=some ag/\Sat (λso=>∃au,so=.nx au/\I (D++[a]) au) (s ag))(k:∀ar,I xs ar->Sat Q (.nx ar)):Sat Q (BC it gt s fs):=by obtain⟨ar,e,p⟩:=XQ h0 st;unfold Sat;rw[Gi hi e];exact k ar p
theorem JbJ{t:T}{R:SO->Prop}(e:gt t fs=some ag)(k:Sat R (s ag)):∃ag,gt t fs=some ag/\Sat R (s ag):=⟨ag,e,k⟩
def Rr(A:Rv->Prop)(so:SO):Prop:=∃r τ,so=.ret r τ/\Rt r/\A r
theorem JA(k:Sat (Rr A) (s (args++List.replicate n none))):∃r τ,Bj n s args=.ok r τ/\A r:=by obtain⟨r,τ,e,hr,a⟩:=k;cases r with|t t=>exact⟨_,_,HW e,a⟩|nw o=>exact⟨_,_,Sx e,a⟩|n i=>exact hr.elim
theorem SD(hr:Rt r)(a:A r):Sat (Rr A) (.ret r fs):=⟨r,fs,rfl,hr,a⟩
theorem SE{P:FS->Prop}(p:P fs):Sat (λso=>∃au,so=.nx au/\P au) (.nx fs):=⟨fs,rfl,p⟩
theorem Jae:Sat (λso=>∃τ,so=.nx τ) (.nx fs):=⟨fs,rfl⟩
theorem AL{t:T}(k:Sat (Rr (·=.t t)) (s (args++List.replicate n none))):∃τ,Bj n s args=.ok (.t t) τ:=by obtain⟨r,τ,e,rfl⟩:=JA k;exact⟨τ,e⟩
theorem GD(k:Sat (λso=>∃τ,so=.nx τ) (s (args++List.replicate n none))):∃τ,Bj n s args=.ok (.t .o) τ:=by obtain⟨τ,e⟩:=k;exact⟨τ.take args.length,by unfold Bj;rw[e]⟩
end
theorem keys_map:∀xs:List Str,Gj (xs.map T.str)=some (xs.map λx=>(.inr x:Key))
 | []=>rfl
 |x::xs=>by simp only[sX,Gj,keys_map xs,EN,uB,vj]
section
variable{α:Type}{f fv fi:FS->Out Rv}{ga:FS->Out (List Rv)}{it:FS->Out (List T)}{ft:FS->Out Bool}{fs ag au bX τ rest:FS}{x:Option Sl}{p q p1 p2:α->T}{b:α->Bool}{xs:List α}{ts us:List T}{t u:T}{i:Nat}{gt:T->FS->Option FS}{src:List (Option Nat)}{fe:FS->Out Rv}{ks:List Key}{k:Str}{r:Rv}{o:Out Rv}{lo hi:Option Int}{l h:FS->Out (Option Int)}
noncomputable def Cv(p:α->T):List α->Option Sl->Option Sl
 | [],x=>x
 |a::xs,_=>Cv p xs (vl (p a))
theorem YF:∀(xs:List α)(x:Option Sl)(ax:List T),Fre x->(∀a∈xs,ft (vl (p a)::rest)=.ok (b a) (vl (p a)::rest))->(∀a∈xs,b a=true->fe (vl (p a)::rest)=.ok (.t (q a)) (vl (p a)::rest))->ax.length+xs.length<=big->Bp (tgN 0) ft fe (xs.map p) (x::rest) ax=some (ax++(xs.filter b).map q,Cv p xs x::rest)
 | [],x,ax,_,_,_,_=>by simp[Bp,Cv]
 |a::xs,x,ax,hx,ht,he,hl=>by
  rw[tV]at hl;have h1:tgN 0 (p a) (x::rest)=some (vl (p a)::rest):=Gh rfl hx;have h2:=ht a tL;have h3:=he a tL;have g:=λax hl=>YF xs (vl (p a)) ax Al (λa m=>ht a (sW _ m)) (λa m=>he a (sW _ m)) hl
  cases e:b a with|true =>rw[e]at h2;simp only[sX,Bp,h1,h2,h3 e,if_pos (show ax.length<big by lia),g (ax++[q a]) (by simp;lia),vI,e,Cv];simp|false =>rw[e]at h2;simp only[sX,Bp,h1,h2,g ax (by lia),vI,e,Cv];simp
theorem K5(hx:Fre x)(ht:∀a∈xs,ft (vl (p a)::rest)=.ok (b a) (vl (p a)::rest))(he:∀a∈xs,b a=true->fe (vl (p a)::rest)=.ok (.t (q a)) (vl (p a)::rest))(hl:xs.length<=1000):Bp (tgN 0) ft fe (xs.map p) (x::rest) []=some ((xs.filter b).map q,Cv p xs x::rest):=YF xs x [] hx ht he (by show 0+_<=1000000;lia)
theorem Oc(hx:Fre x)(he:∀a∈xs,fe (vl (p a)::rest)=.ok (.t (q a)) (vl (p a)::rest))(hl:xs.length<=1000):Bp (tgN 0) Dz fe (xs.map p) (x::rest) []=some (xs.map q,Cv p xs x::rest):=by have:=K5 (ft:=Dz) (b:=λ_=>true) hx (λ_ _=>rfl) (λa m _=>he a m) hl;rwa[List.filter_eq_self.mpr λ_ _=>rfl]at this
theorem RT:∀(xs:List α)(x y:Option Sl)(ax:List T),Fre x->Fre y->(∀a,p a=.tup [p1 a,p2 a])->(∀a∈xs,ft (vl (p1 a)::vl (p2 a)::rest)=.ok (b a) (vl (p1 a)::vl (p2 a)::rest))->(∀a∈xs,b a=true->fe (vl (p1 a)::vl (p2 a)::rest)=.ok (.t (q a)) (vl (p1 a)::vl (p2 a)::rest))->ax.length+xs.length<=big->Bp (AH 2 (Af (tgN 0) (Af (tgN 1) AD))) ft fe (xs.map p) (x::y::rest) ax=some (ax++(xs.filter b).map q,Cv p1 xs x::Cv p2 xs y::rest)
 | [],x,y,ax,_,_,_,_,_,_=>by simp[Bp,Cv]
 |a::xs,x,y,ax,hx,hy,hp,ht,he,hl=>by
  rw[tV]at hl;have h1:AH 2 (Af (tgN 0) (Af (tgN 1) AD)) (p a) (x::y::rest)=some (vl (p1 a)::vl (p2 a)::rest):=by rw[hp];exact Ml (Gh rfl hx) (Gh rfl hy)
  have h2:=ht a tL;have h3:=he a tL;have g:=λax hl=>RT xs (vl (p1 a)) (vl (p2 a)) ax Al Al hp (λa m=>ht a (sW _ m)) (λa m=>he a (sW _ m)) hl
  cases e:b a with|true =>rw[e]at h2;simp only[sX,Bp,h1,h2,h3 e,if_pos (show ax.length<big by lia),g (ax++[q a]) (by simp;lia),vI,e,Cv];simp|false =>rw[e]at h2;simp only[sX,Bp,h1,h2,g ax (by lia),vI,e,Cv];simp
theorem Od{y:Option Sl}(hx:Fre x)(hy:Fre y)(hp:∀a,p a=.tup [p1 a,p2 a])(ht:∀a∈xs,ft (vl (p1 a)::vl (p2 a)::rest)=.ok (b a) (vl (p1 a)::vl (p2 a)::rest))(he:∀a∈xs,b a=true->fe (vl (p1 a)::vl (p2 a)::rest)=.ok (.t (q a)) (vl (p1 a)::vl (p2 a)::rest))(hl:xs.length<=1000):Bp (AH 2 (Af (tgN 0) (Af (tgN 1) AD))) ft fe (xs.map p) (x::y::rest) []=some ((xs.filter b).map q,Cv p1 xs x::Cv p2 xs y::rest):=RT xs x y [] hx hy hp ht he (by show 0+_<=1000000;lia)
theorem Ka{y:Option Sl}(hx:Fre x)(hy:Fre y)(hp:∀a,p a=.tup [p1 a,p2 a])(he:∀a∈xs,fe (vl (p1 a)::vl (p2 a)::rest)=.ok (.t (q a)) (vl (p1 a)::vl (p2 a)::rest))(hl:xs.length<=1000):Bp (AH 2 (Af (tgN 0) (Af (tgN 1) AD))) Dz fe (xs.map p) (x::y::rest) []=some (xs.map q,Cv p1 xs x::Cv p2 xs y::rest):=by have:=Od (ft:=Dz) (b:=λ_=>true) hx hy hp (λ_ _=>rfl) (λa m _=>he a m) hl;rwa[List.filter_eq_self.mpr λ_ _=>rfl]at this
theorem at0:atI (t::ts) 0=some t:=BH (j:=0) rfl
theorem at1:atI (t::u::ts) 1=some u:=BH (j:=1) rfl
theorem at2{v:T}:atI (t::u::v::ts) 2=some v:=BH (j:=2) rfl
theorem JbT:K0 (t::ts) (some 1) none=ts:=FQ (by decide) (by simp)
def Src(fs:FS)(src:List (Option Nat)):Prop:=DH fs (src.map λo=>o.elim Ini.no Ini.slot)=[]/\(src.all λo=>o.elim true λj=>decide (j<fs.length))=true
theorem so0:Src fs []:=⟨rfl,rfl⟩
theorem so1(h:Src fs src):Src fs (none::src):=h
theorem so2{j:Nat}(h0:fs[j]?=some (vl t))(h:Src fs src):Src fs (some j::src):=by
 refine⟨?_,?_⟩
 .show List.filterMap (Bb fs) (Ini.slot j::src.map _)=[];rw[List.filterMap_cons_none (by show(if(FL.AE fs j).isSome=true then some j else none)=none;unfold FL.AE;rw[h0];rfl)];exact h.1
 .rw[vH,h.2,Bool.and_true];exact t9 (sY.mp h0).1
theorem Md(h1:it fs=.ok ts ag)(hs:Src ag src)(hc:Bp gt ft fe ts (BY ag (src.map λo=>o.elim Ini.no Ini.slot)) []=some (us,τ)):Bq false src it gt ft fe fs=.ok (.t (.lst us)) ag:=by unfold Bq;rw[h1];show(if _ then _ else _)=_;rw[if_pos ⟨by rw[hs.1];exact ua,hs.2⟩,hc];show(match DD _ τ ag with|some ar=>_|none=>_)=_;rw[Cg hs.1];rfl
theorem Zn{o:Nat}(hv:fv fs=.ok (.t t) fs)(h0:fs[o]?=some (some (.own (.l ks ts))))(hi:fi fs=.ok (.t (.str k)) fs)(hn:(.inr k:Key)∉ks)(hl:ks.length<1000000):BW fv (Aa o) fi fs=.nx (fs.set o (some (.own (.l (ks++[.inr k]) (ts++[t]))))):=Wj h0 hv hi (any_false hn) hl rfl
theorem Vy:Ek fs=.ok (.nw (.l [] [])) fs:=rfl
theorem ZI:fzR (.nw (.l ks ts)) fs=.ok (.t (.l ks ts)) fs:=rfl
theorem R9{xs:List Str}(h:ga fs=.ok [.t t,.t u] ag)(hx:Jl t=some (xs.map T.str))(hy:Jl u=some us)(nd:xs.Nodup)(hl:xs.length=us.length):LR ga fs=.ok (.nw (.l (xs.map λx=>(.inr x:Key)) us)) ag:=by unfold LR;rw[h];simp only[Out.bind,hx,hy,keys_map];rw[if_pos ⟨Bv nd,by rw[tf];exact hl⟩]
theorem Zv(h:f fs=.ok (.t t) ag)(e:t=.lst ts\/t=.tup ts):Ad Ca (Ab f Ai) fs=.ok (.nw (.lst ts)) ag:=by refine B2 (BK h C4) ?_;rcases e with rfl|rfl<;>rfl
theorem Vz(h:f fs=.ok (.t (.l ks ts)) ag):Ad Ca (Ab f Ai) fs=.ok (.nw (.lst (ks.map Ox))) ag:=B2 (BK h C4) rfl
theorem Zc(h:f fs=.ok (.t t) ag)(e:t=.lst ts\/t=.tup ts):Ad Bd (Ab f Ai) fs=.ok (.t (.tup ts)) ag:=by refine B2 (BK h C4) ?_;rcases e with rfl|rfl<;>rfl
theorem ZU(h:f fs=.ok (.t (.lst us)) ag)(e:us=xs.map λa=>T.v (b a)):Ad Vg (Ab f Ai) fs=.ok (.t (.v (xs.any b))) ag:=by subst e;refine B2 (BK h C4) ?_;have:=Gd (xs.map b);rw[tU]at this;simp only[Vg,DG,uB];rw[show(λa=>T.v (b a))=T.v∘b from rfl,this];show okT _ ag=_;rw[List.any_map];rfl
theorem Vm(h:fs[i]?=some (some (.own (.lst ts)))):Ad Bd (Ab (Aa i) Ai) fs=.ok (.t (.tup ts)) fs:=by refine B2 (Jq (EU h) True.intro C4) ?_;simp only[Bd,V0 h];rfl
theorem Zk{r:Rv}{o:Out Rv}(h1:f fs=.ok r ag)(n:Nn r)(h2:l ag=.ok lo au)(h3:h au=.ok hi bX)(e:Jn r lo hi bX=o):slF f l h fs=o:=by unfold slF;rw[h1,BP n];show(l ag).bind _=_;rw[h2];show(h au).bind _=_;rw[h3];exact e
theorem Zr:noP fs=.ok none fs:=rfl
theorem RZ{j:Int}(h:f fs=.ok (.t (.int j)) ag):B5 f fs=.ok (some j) ag:=by unfold B5;rw[h];rfl
theorem Vt:Jn (.t (.tup (t::ts))) (some 1) none fs=.ok (.t (.tup ts)) fs:=congrArg (λl=>Out.ok (Rv.t (.tup l)) fs) JbT
theorem Vu:Jn (.t (.lst (t::ts))) (some 1) none fs=.ok (.t (.lst ts)) fs:=congrArg (λl=>Out.ok (Rv.t (.lst l)) fs) JbT
theorem ZT(h0:fs[i]?=some (some (.own (.lst us))))(h:f fs=.ok (.t t) ag)(jE:ag[i]?=some (some (.own (.lst ts))))(hl:ts.length<1000000):Bg (Cu Gv (Aa i) (Ab f Ai)) fs=.nx (ag.set i (some (.own (.lst (ts++[t]))))):=YS h0 h jE hl rfl
end
theorem H0{o:FO}:∀{gs:List Str}{os:List FO}{f:Str},gs.length=os.length->f∉gs->Ia gs os f o=some (gs++[f],os++[o])
 | [],[],f,_,_=>rfl
 |g::gs,o'::os,f,hl,hn=>by
  have h1:¬g=f:=λe=>hn (e▸tL)
  have:=H0 (o:=o) (gs:=gs) (os:=os) (f:=f) (by simpa using hl) (λm=>hn (sW _ m));simp[Ia,h1,this]
section
variable{f fv:FS->Out Rv}{fs ag τ:FS}{t:T}{i j z:Nat}{C:Addr}{n:Str}{gs:List Str}{os eN ds:List FO}{o:FO}{ks eS:List Key}{ts eU:List T}{k k2:Str}{s:FS->SO}{args:FS}{m:Nat}{a:Option Sl}
theorem VC{r:Rv}(hv:fv fs=.ok r ag)(ha:Jbx r=some o)(h0:ag[i]?=some (some (.bor (.ins C gs os))))(hl:gs.length=os.length/\gs.length<900)(hn:n∉gs):IK C n i fv fs=.nx (ag.set i (some (.bor (.ins C (gs++[n]) (os++[o]))))):=by unfold IK;rw[hv];simp only[SO.of,ha,Tz h0];rw[if_pos ⟨True.intro,hl.2⟩,H0 hl.1 hn];unfold FL.putAt;rw[h0];rfl
theorem Jag(k:Sat (λso=>∃τ,so=.nx (some (.bor o)::τ)) (s ((a::args)++List.replicate m none))):∃τ,Bj m s (a::args)=.ok (.t .o) (some (.bor o)::τ):=by obtain⟨τ,e⟩:=k;exact⟨τ.take args.length,by unfold Bj;rw[e];rfl⟩
theorem We:Sat (λso=>∃τ,so=.nx (some (.bor o)::τ)) (.nx (some (.bor o)::fs)):=⟨fs,rfl⟩
theorem Zu{Fn:FS->Out Rv}{fa:FS->Out (List Rv)}{a1:T}(ha:fa fs=.ok [.t a1] ag)(hf:Fn [some (.bor (.ins C [] [])),vl a1]=.ok (.t .o) (some (.bor o)::τ)):Ad (DS C 2 Fn) fa fs=.ok (.nw o) ag:=JT ha rfl rfl hf
theorem Zt{Fn:FS->Out Rv}{fa:FS->Out (List Rv)}{a1 a2:T}(ha:fa fs=.ok [.t a1,.t a2] ag)(hf:Fn [some (.bor (.ins C [] [])),vl a1,vl a2]=.ok (.t .o) (some (.bor o)::τ)):Ad (DS C 3 Fn) fa fs=.ok (.nw o) ag:=JT ha rfl rfl hf
theorem Zs{Fn:FS->Out Rv}{fa:FS->Out (List Rv)}{a1 a2 a3 a4 a5:T}(ha:fa fs=.ok [.t a1,.t a2,.t a3,.t a4,.t a5] ag)(hf:Fn [some (.bor (.ins C [] [])),vl a1,vl a2,vl a3,vl a4,vl a5]=.ok (.t .o) (some (.bor o)::τ)):Ad (DS C 6 Fn) fa fs=.ok (.nw o) ag:=JT ha rfl rfl hf
theorem ZK{a1 a2 a3 a4 a5:T}:fzR (.nw (.ins C gs [.val a1,.val a2,.val a3,.val a4,.val a5])) fs=.ok (.t (.ins C gs [a1,a2,a3,a4,a5])) fs:=rfl
theorem QS(h0:fs[j]?=some (some (.bor o)))(hf:f ((A6 fs).set j (vl (toT o)))=.ok (.t .o) τ):Bg (JF j f) fs=.nx fs:=by refine N0 (r:=.t .o) ?_;unfold JF;rw[Tz h0];simp only[hf];rfl
theorem VD(hv:fv fs=.ok (.t t) ag)(h0:ag[i]?=some (some (.bor (.ins C gs os))))(hj:ag[j]?=some (vl (.str k)))(hf:BB gs os n=some (.l ks ts))(hn:(.inr k:Key)∉ks)(hl:ks.length<1000000)(hs:B6 gs os n (.l (ks++[.inr k]) (ts++[t]))=eN):C9 C n i j fv fs=.nx (ag.set i (some (.bor (.ins C gs eN)))):=US hv h0 hj hf hn hl (by rw[hs])
theorem R6(h0:fs[i]?=some (some (.bor (.ins C gs os))))(hj:fs[j]?=some (vl (.str k)))(hf:BB gs os n=some o)(ho:YR o=some (ks,ds))(hn:(.inr k:Key)∉ks)(hl:ks.length<1000000)(hs:B6 gs os n (.dO (ks++[.inr k]) (ds++[.l [] []]))=eN):J8 C n i j fs=.nx (fs.set i (some (.bor (.ins C gs eN)))):=by subst hs;unfold J8;simp only[Tz h0,hj,hf,if_true,EN,ho];rw[if_pos ⟨hl,any_false hn⟩];unfold FL.putAt;rw[h0];rfl
theorem Gw{d:FO}{kk:Key}:∀{ks:List Key}{ds:List FO},ks.length=ds.length->kk∉ks->Hc (ks++[kk]) (ds++[d]) kk=some d
 | [],[],_,_=>by simp[Hc]
 |a::ks,b::ds,h,n=>by simp only[u0,Hc];rw[if_neg λz=>n (by simp[z])];exact Gw (by simpa using h) λm=>n (sW _ m)
theorem GA{d x:FO}{kk:Key}:∀{ks:List Key}{ds:List FO},ks.length=ds.length->kk∉ks->Hf (ks++[kk]) (ds++[d]) kk x=ds++[x]
 | [],[],_,_=>by simp[Hf]
 |a::ks,b::ds,h,n=>by simp only[u0,Hf];rw[if_neg λz=>n (by simp[z]),GA (by simpa using h) λm=>n (sW _ m)]
theorem R7(hv:fv fs=.ok (.t t) ag)(h0:ag[i]?=some (some (.bor (.ins C gs os))))(hj:ag[j]?=some (vl (.str k)))(hz:ag[z]?=some (vl (.str k2)))(hf:BB gs os n=some (.dO (ks++[.inr k]) (ds++[.l eS eU])))(hl:ks.length=ds.length)(hn:(.inr k:Key)∉ks)(fL:(.inr k2:Key)∉eS)(eP:eS.length<1000000)(hs:B6 gs os n (.dO (ks++[.inr k]) (ds++[.l (eS++[.inr k2]) (eU++[t])]))=eN):dput2 C n i j z fv fs=.nx (ag.set i (some (.bor (.ins C gs eN)))):=by
 subst hs;have h3:Ec eS eU (.inr k2:Key) t=(eS++[.inr k2],eU++[t]):=by unfold Ec;rw[any_false fL];rfl
 unfold dput2;rw[hv];simp only[SO.of,Tz h0,hj,hz,hf,if_true,EN,Gw hl hn,GA hl hn,h3];rw[if_pos (show eS.length<big from eP)];unfold FL.putAt;rw[h0];rfl
end
section
variable{Q:SO->Prop}{f:FS->Out Rv}{c ct:FS->Out Bool}{s s' h:FS->SO}{fs ag:FS}{b b':Bool}{α β:Type}{ks:List Key}{ts:List T}{t:T}{k:Str}
theorem ME{J:β->FS}{P:β->Prop}(hc:c fs=.ok b ag)(h1:b=true->∃x,P x/\s ag=.nx (J x))(h2:b=false->∃x,P x/\s' ag=.nx (J x))(k:∀x,P x->Sat Q (h (J x))):Sat Q (Ak (ifS c s s') h fs):=by cases b with|true=>obtain⟨x,p,e⟩:=h1 rfl;exact Ci (Rx hc e) (k x p)|false=>obtain⟨x,p,e⟩:=h2 rfl;exact Ci (Ry hc e) (k x p)
theorem Ih(h1:c fs=.ok b fs)(h2:ct fs=.ok b' fs):orT c ct fs=.ok (b||b') fs:=Zq h1 λ_=>h2
theorem ZE{p:α->Str}{N:List α}(h:f fs=.ok (.t (.dF (N.map λa=>(.inr (p a):Key)) ts)) ag):itD f fs=.ok (N.map λa=>.str (p a)) ag:=by unfold itD;rw[h,BP (x:=.t (.dF _ ts)) True.intro];show Out.ok _ ag=_;rw[tU];rfl
theorem JaR{t:T}(h:BV ks ts (.inr k:Key)=some t):AA (.t (.dF ks ts)) (.t (.str k)) fs=.ok (.t t) fs:=by show(match J3 (.t (.dF ks ts)) (.t (.str k)) fs with|o=>o)=_;unfold J3;simp only[RM,EN,vj,h];rfl
theorem BS{L:List α}(hL:L≠[])(p:α->T)(x:Int):∃a∈L,atI (L.map p) (x%((L.map p).length:Int))=some (p a):=by
 have hl:0<L.length:=uE.mpr hL;rw[tf];have h1:=vq x (show(L.length:Int)≠0 by lia);have h2:=vf x (show(0:Int)<L.length by lia);have hi:(x%(L.length:Int)).toNat<L.length:=by lia
 refine⟨L[(x%(L.length:Int)).toNat],List.getElem_mem hi,?_⟩;have:=BH (xs:=L.map p) (j:=(x%(L.length:Int)).toNat) (by rw[tR,sS hi];rfl);rwa[show(((x%(L.length:Int)).toNat:Nat):Int)=x%(L.length:Int) by lia]at this
inductive F2(R:α->β->Prop):List α->List β->Prop
 |nil:F2 R [] []
 |cons {a b as bs}:R a b->F2 R as bs->F2 R (a::as) (b::bs)
section
variable{R S:α->β->Prop}{as:List α}{bs:List β}
theorem F2.len(h:F2 R as bs):as.length=bs.length:=by induction h with|nil=>rfl|cons _ _ i=>simp[i]
theorem F2.imp(h:F2 R as bs)(i:∀a b,R a b->S a b):F2 S as bs:=by induction h with|nil=>exact .nil|cons h _ ih=>exact .cons (i _ _ h) ih
theorem F2.flip(h:F2 R as bs):F2 (λb a=>R a b) bs as:=by induction h with|nil=>exact .nil|cons h _ ih=>exact .cons h ih
theorem F2.snoc{a:α}{b:β}(h:F2 R as bs)(r:R a b):F2 R (as++[a]) (bs++[b]):=by induction h with|nil=>exact .cons r .nil|cons h _ ih=>exact .cons h ih
theorem UJ:∀{as:List α},(∀a∈as,∃b,R a b)->∃bs,F2 R as bs
 | [],_=>⟨[],.nil⟩
 |a::as,h=>let⟨b,r⟩:=h a tL;let⟨bs,rs⟩:=UJ λa m=>h a (sW _ m);⟨b::bs,.cons r rs⟩
end
theorem UZ{fe:FS->Out Rv}{p:α->T}{xs:List α}{vs:List T}{rest:FS}{x:Option Sl}(hx:Fre x)(hv:F2 (λa v=>fe (vl (p a)::rest)=.ok (.t v) (vl (p a)::rest)) xs vs)(hl:xs.length<=1000):Bp (tgN 0) Dz fe (xs.map p) (x::rest) []=some (vs,Cv p xs x::rest):=by
 have go:∀(xs:List α)(vs:List T)(x:Option Sl)(ax:List T),Fre x->F2 (λa v=>fe (vl (p a)::rest)=.ok (.t v) (vl (p a)::rest)) xs vs->ax.length+xs.length<=big->Bp (tgN 0) Dz fe (xs.map p) (x::rest) ax=some (ax++vs,Cv p xs x::rest):=by
  intro xs vs x ax hx h
  induction h generalizing x ax with|nil=>intro _;simp[Bp,Cv]|@cons a v xs vs h _ ih =>intro hl;rw[tV]at hl;rw[sX,K3 (Gh (z:=x) rfl hx) h (by lia),ih (vl (p a)) (ax++[v]) Al (by simp;lia)];simp[Cv]
 exact go xs vs x [] hx hv (by show 0+_<=1000000;lia)
end
section
variable{f:FS->Out Rv}{fs ag:FS}{b:Bool}{ts:List T}{n:Nat}{ks:List Key}
theorem VA(h:f fs=.ok (.t (.v b)) ag):Ad El (Ab f Ai) fs=.ok (.t (.int (if b=true then 1 else 0))) ag:=B2 (BK h C4) rfl
theorem Vw(h:n<=ts.length):Jn (.t (.lst ts)) none (some (n:Int)) fs=.ok (.t (.lst (ts.take n))) fs:=by have:=FN (xs:=ts) (v:=(n:Int)) (by lia) (by simpa using h);rw[ux]at this;show Out.ok (Rv.t (.lst (K0 ts none (some (n:Int))))) fs=_;rw[this]
theorem YG{fe:FS->Out Rv}{vs:List T}{rest:FS}{x:Option Sl}(hx:Fre x)(hv:F2 (λa v=>fe (vl a::rest)=.ok (.t v) (vl a::rest)) ts vs)(hl:ts.length<=1000):Bp (tgN 0) Dz fe ts (x::rest) []=some (vs,Cv id ts x::rest):=by have:=UZ (p:=id) hx hv hl;rwa[List.map_id]at this
theorem Sb(h:f fs=.ok (.t (.dF ks ts)) ag):Ad IJ (Ab f Ai) fs=.ok (.nw (.l ks ts)) ag:=B2 (BK h C4) rfl
theorem ZN{i:Nat}(h:fs[i]?=some (some (.own (.l ks ts)))):fzD (Aa i) fs=.ok (.t (.dF ks ts)) (fs.set i (vl (.dF ks ts))):=by unfold fzD;rw[EU h,BP (x:=.n i) True.intro];simp only[h]
end
section
variable{f:FS->Out Rv}{ga:FS->Out (List Rv)}{fs ag:FS}{ts:List T}{n m:Nat}{a b j:Int}{α β γ:Type}
theorem ZC(h:ga fs=.ok [.t (.int j)] ag)(hj:j=(n:Int))(hn:n<1000):JX ga fs=.ok ((List.range n).map λi=>T.int (i:Nat)) ag:=by subst hj;rw[MB h ⟨by lia,by lia⟩,ux];unfold FL.upTo;simp
theorem Zi(ha:a=(n:Int))(hb:b=(m:Int))(h:n<=m/\m<=ts.length):Jn (.t (.lst ts)) (some a) (some b) fs=.ok (.t (.lst ((ts.drop n).take (m-n)))) fs:=by subst ha hb;show Out.ok (Rv.t (.lst (K0 ts (some (n:Int)) (some (m:Int))))) fs=_;unfold K0;rw[HT.Jz,HT.Jz,Nat.min_eq_left h.2,Nat.min_eq_left (by lia)]
theorem Um(h:0<b/\b.natAbs.log2<9000):Qa (.t (.int a)) (.t (.int b)) fs=.ok (.t (.int (a/b))) fs:=if_pos h
theorem F2.JaA{S:α->β->Prop}{f:γ->β}{as:List α}{cs:List γ}(h:F2 (λa c=>S a (f c)) as cs):F2 S as (cs.map f):=by induction h with|nil=>exact .nil|cons h _ ih=>exact .cons h ih
theorem KR(p:α->T):∀(L:List α)(i:Nat),D3 (i:Int) (L.map p)=(L.zipIdx i).map λq=>.tup [.int q.2,p q.1]
 | [],_=>rfl
 |a::L,i=>by have:=KR p L (i+1);simp only[sX,D3,List.zipIdx_cons];rw[<- this];simp
end
theorem DV{k:Str}{xs:List Str}(h:k∉xs):(.inr k:Key)∉xs.map λm=>(.inr m:Key):=λm=>by obtain⟨x,hm,e⟩:=tw.mp m;exact h (Sum.inr.inj e▸hm)
section
variable{f fk fv:FS->Out Rv}{fs ag au τ:FS}{ts:List T}{t u:T}{n j:Nat}{a:Int}{ks:List Key}{k:Str}{s:FS->SO}{args:FS}{A:FO->Prop}{o:FO}{r:Rv}
theorem Zj(h:n<=ts.length)(ha:a=(n:Int)):Jn (.t (.lst ts)) (some a) none fs=.ok (.t (.lst (ts.drop n))) fs:=by subst ha;have:=FQ (xs:=ts) (v:=(n:Int)) (by lia) (by simpa using h);rw[ux]at this;unfold Jn;simp only[DG,this];rfl
theorem R8(hk:fk fs=.ok (.t (.str k)) ag)(hv:fv ag=.ok (.t u) au):IS fk fv fs=.ok (.nw (.l [.inr k] [u])) au:=by unfold IS;rw[hk];show(match fv ag with|.ok (.t y) au=>_|_=>_)=_;rw[hv];rfl
theorem RY(h0:fs[j]?=some (some (.own (.l ks ts))))(hf:f ((A6 fs).set j (vl (.dF ks ts)))=.ok (.t t) τ)(hn:noD t=true):Ls j f fs=.ok (.t t) fs:=by unfold Ls;rw[h0];simp only[hf,hn,if_true]
def Ro(A:FO->Prop)(so:SO):Prop:=∃i τ o,so=.ret (.n i) τ/\τ[i]?=some (some (.own o))/\A o
theorem HX(k:Sat (Ro A) (s (args++List.replicate n none))):∃o τ,Bj n s args=.ok (.nw o) τ/\A o:=by unfold Sat at k;obtain⟨i,τ,o,e,h,a⟩:=k;exact⟨o,_,OT e h,a⟩
theorem Wb{i:Nat}(h:fs[i]?=some (some (.own o)))(a:A o):Sat (Ro A) (.ret (.n i) fs):=by unfold Sat;exact⟨i,fs,o,rfl,h,a⟩
end
section
variable{Q:SO->Prop}{f:FS->Out Rv}{ga:FS->Out (List Rv)}{s g h:FS->SO}{fs ag au bX args τ:FS}{i j n p:Nat}{c z y m:Str}{C:Addr}{Fn:FS->Out Rv}{a0 a1 a2 t:T}{dr:Str->Bool}{neg:Bool}{xs ts:List T}{r:Rv}
theorem Ck(k:Sat (λso=>∃τ,so=.exc c τ) (s (args++List.replicate n none))):∃τ,Bj n s args=.exc c τ:=by obtain⟨τ,e⟩:=k;exact⟨_,OU e⟩
theorem OX:Sat (λso=>∃τ,so=.exc c τ) (.exc c fs):=⟨fs,rfl⟩
theorem Zb(hg:g fs=.exc c ag)(hc:dr c=true)(hs:Gg i (.t (.zD c)) ag=some au)(hh:h au=.nx bX)(hv:bX[i]?=some (vl t)):QV i dr g h fs=.nx (bX.set i none):=by unfold QV;rw[hg];show Ve i dr h c ag=_;unfold Ve;rw[if_pos hc,hs];simp only[hh,hv]
end
section
variable{f:FS->Out Rv}{fs τ:FS}{i j:Nat}{ts:List T}{o:FO}{C:Addr}{K:Kd}{hs:List T}{G:List Fd}
theorem ZJ:fzR (.nw (QW C K hs)) fs=.ok (.t (B4 C K hs)) fs:=rfl
end
theorem Jaf{Q:SO->Prop}{s h:FS->SO}{fs ar:FS}(e:fs=ar)(k:Sat Q (Ak s h ar)):Sat Q (Ak s h fs):=by rw[e];exact k
abbrev cds(s:Str):List Nat:=s.cps.toList
theorem Eo(x y:Str):cds (x++y)=cds x++cds y:=by show(x.cps++y.cps).toList=_;simp
theorem AZ(x:Str):x.length=(cds x).length:=by show x.cps.size=_;simp
structure Lw(s:Str):Prop where
 lo:1<=(cds s).length
 hi:(cds s).length<=12
 al:∀c∈cds s,97<=c/\c<=122
abbrev ch(c:Nat):Str:=⟨#[c]⟩
abbrev Xf:Str:="abcdefghijklmnopqrstuvwxyz"
noncomputable def sgn(c:Nat):Str:=⟨#[c]⟩
noncomputable def isL(c:Nat):Bool:=!(Builtin.Str.occurrences Xf (sgn c) 0 Xf.length 1).isEmpty
noncomputable def isNm(z:Str):Bool:=decide (1<=z.length/\z.length<=12)&&z.cps.toList.all isL
theorem Rq{neg:Bool}{c:Nat}{fs:FS}:CB neg (.t (.str (sgn c))) (.t (.str Xf)) fs=.ok (.t (.v (if neg then !isL c else isL c))) fs:=rfl
theorem K4{fe:FS->Out Rv}{h:Nat->T}:∀(cs:List Nat)(x:Option Sl)(ax:List T),Fre x->(∀c∈cs,fe [vl (.str (sgn c))]=.ok (.t (h c)) [vl (.str (sgn c))])->ax.length+cs.length<=1000->∃y,Bp (tgN 0) Dz fe (cs.map λc=>T.str (sgn c)) [x] ax=some (ax++cs.map h,[y])
 | [],x,ax,_,_,_=>⟨x,by simp[Bp]⟩
 |c::cs,x,ax,fx,he,hl=>by rw[tV]at hl;obtain⟨y,e⟩:=K4 (fe:=fe) (h:=h) cs (vl (.str (sgn c))) (ax++[h c]) Al (λc m=>he c (sW _ m)) (by rw[tY];simp;lia);refine⟨y,?_⟩;rw[sX,K3 (by unfold tgN;exact Kp rfl fx) (he c (by simp)) (by show _<1000000;lia),e];simp
theorem len_str{i:Nat}{z:Str}{fs:FS}(h:fs[i]?=some (vl (.str z)))(hz:z.length<=3000):Ad AQ (Ab (Aa i) Ai) fs=.ok (.t (.int z.length)) fs:=by have e:NG [.t (.str z)] fs=.ok (.t (.int z.length)) fs:=if_pos (show z.length<=1000000 by lia);refine K9 (K1 (Az h) rfl) ?_;unfold AQ orC;show(match orC NG P9 [.t (.str z)] fs with|o=>o)=_;unfold orC;rw[e]
theorem between{f:FS->Out Rv}{n:Nat}{m:Int}{fs:FS}(h:f fs=.ok (.t (.int n)) fs):Fm (asB (chain gLe gLe (gc (.int 1)) f (gc (.int m)))) fs=.ok (!decide (1<=n/\(n:Int)<=m)) fs:=by
 have e1:gLe (.t (.int 1)) (.t (.int n)) fs=.ok (.t (.v (decide ((1:Int)<=n)))) fs:=rfl;have e2:gLe (.t (.int n)) (.t (.int m)) fs=.ok (.t (.v (decide ((n:Int)<=m)))) fs:=rfl;by_cases h1:(1:Int)<=n
 .rw[t9 h1]at e1;simp only[Fm,asB,chain,gc,Out.bnd,Out.bind,h,e1,e2];congr 2;rw[decide_eq_decide];constructor
  .exact λz=>⟨by lia,z⟩
  .exact λz=>z.2
 .rw[tS h1]at e1;simp only[Fm,asB,chain,gc,Out.bnd,Out.bind,h,e1];rw[tS (by lia)]
theorem Hu{z:Str}(hz:z.length<=3000):AY [vl (.str z)]=.ok (.t (.v (isNm z))) [vl (.str z)]:=by
 have hc:=between (m:=12) (len_str (i:=0) (fs:=[vl (.str z)]) rfl hz);refine(HW (n:=0) (g:=F7) (args:=[vl (.str z)]) (τ:=[vl (.str z)]) ?_).trans rfl;unfold F7;by_cases h:1<=z.length/\(z.length:Int)<=12
 .rw[t9 h]at hc;refine sq (Ny hc rfl) ?_;obtain⟨y,e2⟩:=K4 (fe:=Ae (CB false) (fz (Aa 0)) (gc (.str Xf))) (h:=λc=>.v (isL c)) z.cps.toList none [] DZ (λc m=>AJ (NK (Az rfl)) Dp Rq) (by rw[uM];show 0+z.length<=1000;lia);have e3:=UY (src:=[none]) (fi:=itU (fz (Aa 0))) (fs:=[vl (.str z)]) (ts:=signs z) rfl ⟨by rw[show DH [vl (.str z)] _=[]from rfl];exact ua,by rfl⟩ e2 (Cg rfl);rw[vm,show z.cps.toList.map (λc=>T.v (isL c))=(z.cps.toList.map isL).map T.v by rw[tU];rfl]at e3;refine CL (K9 (K1 e3 rfl) ?_);simp only[XH,DG,uB,Gd,okT];congr 3;unfold isNm;rw[t9 (show 1<=z.length/\z.length<=12 by lia),List.all_map];rfl
 .rw[tS h]at hc;have:isNm z=false:=by unfold isNm;rw[tS (show ¬(1<=z.length/\z.length<=12) by lia)];rfl
  rw[this];exact EO (PK hc (CL Dp))
theorem Rp(c:Nat):isL c=decide (97<=c/\c<=122):=by
 unfold isL sgn;rw[StrLaws.found_one,show Xf.cps.toList=List.range' 97 26 from by decide +kernel,decide_eq_decide,List.mem_range'_1]
 lia
theorem W8(z:Str):isNm z=true↔Lw z:=by
 unfold isNm;rw[tO,decide_eq_true_iff,uf];constructor
 .exact λh=>⟨by rw[<- AZ];exact h.1.1,by rw[<- AZ];exact h.1.2,λc m=>by have:=h.2 c m;rw[Rp]at this;exact tM this⟩
 .exact λh=>⟨⟨by rw[AZ];exact h.lo,by rw[AZ];exact h.hi⟩,λc m=>by rw[Rp];exact t9 (h.al c m)⟩
abbrev mkS(l:List Nat):Str:=⟨l.toArray⟩
theorem QY{f:FS->Out Rv}{l h:FS->Out (Option Int)}{fs:FS}{z:Str}{lo hi:Option Int}(h1:f fs=.ok (.t (.str z)) fs)(h2:l fs=.ok lo fs)(h3:h fs=.ok hi fs)(hz:z.length<=1000):slS f l h fs=.ok (.t (.str (Txt.slice z lo hi))) fs:=by unfold slS;rw[h1];show(l fs).bind _=_;rw[h2];show(h fs).bind _=_;rw[h3];show(if(Txt.slice z lo hi).length<=big then okT (.str (Txt.slice z lo hi)) fs else .bad)=_;rw[if_pos (tQ (Txt.slice_le z lo hi) (tQ hz (by decide)))];rfl
theorem Kq{g:FS->Out Rv}{fs:FS}{i:Int}(h:g fs=.ok (.t (.int i)) fs):B5 g fs=.ok (some i) fs:=by unfold B5;rw[h];rfl
theorem ixS{z:Str}{i c:Nat}{fs:FS}(hz:(cds z).length<=1000)(h:(cds z)[i]?=some c):AA (.t (.str z)) (.t (.int i)) fs=.ok (.t (.str (ch c))) fs:=by
 have:gIx (.t (.str z)) (.t (.int i)) fs=.ok (.t (.str (ch c))) fs:=by show(if z.length<=big then match atI z.cps.toList i with|some c=>okT (.str ⟨#[c]⟩) fs|none=>.bad else .bad)=_;rw[if_pos (by rw[AZ];exact tQ hz (by decide)),BH h];rfl
 show(match gIx (.t (.str z)) (.t (.int i)) fs with|.bad=>_|o=>o)=_;rw[this]
theorem Jaa{f g:FS->Out Rv}{fs:FS}{z:Str}{i:Nat}(h1:f fs=.ok (.t (.str z)) fs)(h2:g fs=.ok (.t (.int i)) fs)(hi:i<=(cds z).length)(hz:(cds z).length<=1000) :
  slS f noP (B5 g) fs=.ok (.t (.str (mkS ((cds z).take i)))) fs:=by
 rw[QY (l:=noP) (lo:=none) h1 rfl (Kq h2) (by rw[AZ];exact hz),beq_iff_eq.mp (PyProof.Rows.slice_closes_to (x:=z) (j:=i) ⟨by lia,Int.ofNat_le.mpr hi⟩)];rfl
theorem Jab{f g:FS->Out Rv}{fs:FS}{z:Str}{i:Nat}(h1:f fs=.ok (.t (.str z)) fs)(h2:g fs=.ok (.t (.int i)) fs)(hz:(cds z).length<=1000) :
  slS f (B5 g) noP fs=.ok (.t (.str (mkS ((cds z).drop i)))) fs:=by
 rw[QY (h:=noP) (hi:=none) h1 (Kq h2) rfl (by rw[AZ];exact hz)];have hl:=AZ z;rcases Nat.lt_or_ge (cds z).length i with q|q
 .rw[PyProof.Rows.slice_beyond (by lia),uR (by lia)];rfl
 .rw[PyProof.Rows.slice_from_eq (b:=(z.length:Int)) (by lia) (by lia) rfl];congr 4;show(((cds z).drop (i:Int).toNat).take _).toArray=((cds z).drop i).toArray;rw[ux,uF (by rw[uN];lia)]
open PySem.Builtin.Int (intBits)
theorem E9(m:Nat)(hm:m<=1000000){fs:FS}:Ae JZ (gc (.int 10)) (gc (.int m)) fs=.ok (.t (.int (10^m))) fs:=by refine AJ Dp Dp ?_;show(if(0:Int)<=m/\(m:Int)<=1000000/\(10:Int).natAbs<2^64 then okT (.int (10^(m:Int).toNat)) fs else .bad)=_;rw[if_pos ⟨by lia,by lia,by decide⟩];rfl
theorem KD{x q:Int}{n:Nat}(h0:0<q)(h:q.natAbs<=2^n):intBits (x%q)<=n:=Er (by
 have h1:=vq x (show q≠0 by lia);have h2:=vf x h0
 lia)
theorem mix(c:Int){k:Nat}(hk:k<=100):∃(v:Int)(τ:FS),Bz [iv c,iv k]=.ok (.t (.int v)) τ:=by
 have run:∀{v:Int}{τ:FS},Oj [iv c,iv k,none]=.ret (.t (.int v)) τ->∃(v:Int)(τ:FS),Bz [iv c,iv k]=.ok (.t (.int v)) τ:=λ{v τ} h=>⟨v,_,HW (n:=1) (g:=Oj) (args:=[iv c,iv k]) h⟩
 have lW:(2:Nat)^26=67108864:=by decide
 have c1:=RK (fa:=Ae BZ (Aa 0) (gc (.int 2))) (fb:=gc (.int 1)) (fs:=[iv c,iv k,none]) (i:=c%2) (AJ (Az rfl) Dp (GP (by decide))) Dp;have c2:asB (Ae gGt (Aa 0) (Ae JZ (gc (.int 10)) (gc (.int 30)))) [iv c,iv k,none]=.ok (decide ((10:Int)^30<c)) [iv c,iv k,none]:=Lh (AJ (Az rfl) (E9 30 (by decide)) rfl);have cc:=Kh c1 c2;cases hb:(decide (c%2=1)&&decide ((10:Int)^30<c))with
 |true =>rw[hb]at cc;exact run (EO (PK cc (CL (AJ (Az rfl) Dp (NH ⟨by decide,by decide⟩)))))
 |false =>
  rw[hb]at cc;have nJ:(0:Int)<10^60:=by decide
  have q0:((10:Int)^60).natAbs<=2^200:=by decide
  have s1:Ay 2 (Ae BZ (Aa 0) (Ae JZ (gc (.int 10)) (gc (.int 60)))) [iv c,iv k,none]=.nx [iv c,iv k,iv (c%10^60)]:=Mw (AJ (Az rfl) (E9 60 (by decide)) (GP nJ)) rfl;have b0:intBits (c%10^60)<=200:=KD nJ q0;generalize c%10^60=x at s1 b0;have bk:intBits (k:Int)<=7:=Er (by show k<2^7;lia);have m1:Ae Bk (Ae Bk (gc (.int 40503)) (Aa 1)) (Aa 1) [iv c,iv k,iv x]=.ok (.t (.int (40503*k*k))) [iv c,iv k,iv x]:=AJ (AJ Dp (Az rfl) (J1 ⟨by decide,by decide⟩)) (Az rfl) (J0 ⟨by lia,by lia⟩);have m2:Ae Bk (Ae Av (Ae Av (Ae Bk (Aa 2) (Aa 2)) (Ae Bk (Ae Bk (gc (.int 40503)) (Aa 1)) (Aa 1))) (gc (.int 7919))) (gc (.int 1812433253982451697)) [iv c,iv k,iv x]=.ok (.t (.int ((x*x+40503*k*k+7919)*1812433253982451697))) [iv c,iv k,iv x] :=
   AJ (AJ (AJ (AJ (Az rfl) (Az rfl) (J2 ⟨by lia,by lia⟩)) m1 Em) Dp Em) Dp (J0 ⟨by decide,by decide⟩)
  generalize (x*x+40503*k*k+7919)*1812433253982451697=y at m2;have nI:(0:Int)<10^18+9:=by decide
  have qZ:((10:Int)^18+9).natAbs<=2^61:=by decide
  have s2:Ay 2 (Ae BZ (Ae Bk (Ae Av (Ae Av (Ae Bk (Aa 2) (Aa 2)) (Ae Bk (Ae Bk (gc (.int 40503)) (Aa 1)) (Aa 1))) (gc (.int 7919))) (gc (.int 1812433253982451697))) (Ae Av (Ae JZ (gc (.int 10)) (gc (.int 18))) (gc (.int 9)))) [iv c,iv k,iv x]=.nx [iv c,iv k,iv (y%(10^18+9))] :=
   Mw (AJ m2 (AJ (E9 18 (by decide)) Dp Em) (GP nI)) rfl
  have b1:intBits (y%(10^18+9))<=61:=KD nI qZ;generalize y%(10^18+9)=z at s2 b1;have b2:intBits (z*z+k)<=61+61+1:=bits_add (bits_mul b1 b1) (by lia);have bc:intBits 739108512309184756019283746561<=100:=Er (by decide);have m3:Ae Bk (Ae Av (Ae Bk (Aa 2) (Aa 2)) (Aa 1)) (gc (.int 739108512309184756019283746561)) [iv c,iv k,iv z]=.ok (.t (.int ((z*z+k)*739108512309184756019283746561))) [iv c,iv k,iv z] :=
   AJ (AJ (AJ (Az rfl) (Az rfl) (J2 ⟨by lia,by lia⟩)) (Az rfl) Em) Dp (J2 ⟨by lia,by lia⟩)
  have rB:(0:Int)<10^40+121:=by decide
  exact run (sq (Ny cc rfl) (sq s1 (sq s2 (CL (AJ m3 (AJ (E9 40 (by decide)) Dp Em) (GP rB))))))
section
variable{fa fb f:FS->Out Rv}{ga:FS->Out (List Rv)}{fs ag au bX τ:FS}{c m k:Str}{g:Rv->Rv->FS->Out Rv}{ct:FS->Out Bool}{s s' h:FS->SO}{i n:Nat}{gt:T->FS->Option FS}{d:List T->FS->Out Rv}{Fn:FS->Out Rv}{a0 a1 a2 a3 a4 a5 a6 t u:T}{C:Addr}{Q:SO->Prop}{ts:List T}{ks:List Key}{r:Rv}{b:Bool}
theorem Yy(h:fa fs=.exc c ag):Ae g fa fb fs=.exc c ag:=by unfold Ae;rw[h];rfl
theorem Vi(h:f fs=.exc c ag):fz f fs=.exc c ag:=by unfold fz;rw[h];rfl
theorem Yz(h:f fs=.exc c ag):asB f fs=.exc c ag:=by unfold asB;rw[h];rfl
theorem JbS(h:ct fs=.exc c ag):ifS ct s s' fs=.exc c ag:=by unfold ifS;rw[h];rfl
theorem UP(h:f fs=.exc c ag):retS f fs=.exc c ag:=by unfold retS;rw[h];rfl
theorem Jbq(h:f fs=.exc c ag):EF f gt fs=.exc c ag:=by unfold EF;rw[h];rfl
theorem Yv(h:f fs=.exc c ag):Ay i f fs=.exc c ag:=by unfold Ay;rw[h];rfl
theorem UR(h:f fs=.exc c ag):Ab f ga fs=.exc c ag:=by unfold Ab;rw[h];rfl
theorem Yw(h:ga fs=.exc c ag):An d ga fs=.exc c ag:=by unfold An;rw[h];rfl
theorem Yx(h0:ga fs=.ok [.t a1,.t a2] ag)(hf:Fn [vl a1,vl a2]=.exc c τ):Ad (Ah 2 Fn) ga fs=.exc c ag:=FX h0 rfl rfl hf
theorem Jbp(h0:ga fs=.ok [.t a1,.t a2,.t a3] ag)(hf:Fn [vl a1,vl a2,vl a3]=.exc c τ):Ad (Ah 3 Fn) ga fs=.exc c ag:=FX h0 rfl rfl hf
theorem e_m1(h1:f fs=.ok (.t a0) ag)(h2:ga ag=.ok [.t a1] au)(hf:Fn [vl a0,vl a1]=.exc c τ)(hi:Hw C m ag (.t a0)=true):EJ C m 2 Fn f ga fs=.exc c au:=by unfold EJ;rw[h1,BP (x:=.t a0) True.intro];show(if _ then _ else _)=_;rw[if_pos hi,h2];exact FX (fa:=λfs=>.ok [.t a0,.t a1] fs) rfl rfl rfl hf
theorem q_X(e:s fs=.exc c ag)(k:Sat Q (.exc c ag)):Sat Q (s fs):=by unfold Sat;rw[e];exact k
theorem Q3(e:s fs=.exc c ag)(k:Sat Q (.exc c ag)):Sat Q (Ak s h fs):=q_X (OR e) k
theorem JaI:Rz false (.t .o) (.t .o) fs=.ok (.t (.v true)) fs:=rfl
theorem JaH:Rz false (.t (.tup ts)) (.t .o) fs=.ok (.t (.v false)) fs:=rfl
theorem Jbm:gEq false (.t (.str k)) (.t .o) fs=.ok (.t (.v false)) fs:=by unfold gEq;simp only[plV];rw[show QZ (V.str k) V.o=true from rfl];simp[okT]
theorem Vr:Jn (.t (.tup (t::u::ts))) none (some 2) fs=.ok (.t (.tup [t,u])) fs:=by have:=FN (xs:=t::u::ts) (v:=2) (by decide) (by simp);exact congrArg (λl=>Out.ok (Rv.t (.tup l)) fs) this
theorem OD{j:Int}(hj:j=(n:Int))(h:n<=ts.length):Jn (.t (.tup ts)) none (some j) fs=.ok (.t (.tup (ts.take n))) fs:=by subst hj;have:=FN (xs:=ts) (v:=(n:Int)) (by lia) (by simpa using h);rw[ux]at this;exact congrArg (λl=>Out.ok (Rv.t (.tup l)) fs) this
theorem Vp{j:Int}(hj:j=(n:Int)):Jn (.t (.tup ts)) (some j) none fs=.ok (.t (.tup (ts.drop n))) fs:=by
 subst hj;have:K0 ts (some (n:Int)) none=ts.drop n:=by
  by_cases h:n<=ts.length
  .have:=FQ (xs:=ts) (v:=(n:Int)) (by lia) (by simpa using h);rwa[ux]at this
  .unfold K0;rw[HT.Jz,Nat.min_eq_right (by lia),uR (by lia),uR (by lia),List.take_nil]
 exact congrArg (λl=>Out.ok (Rv.t (.tup l)) fs) this
theorem ZF(h:f fs=.ok (.t (.str k)) ag):isF "str" f fs=.ok (.t (.v true)) ag:=by unfold isF;rw[h,BP (x:=.t (.str k)) True.intro];rfl
theorem QU(h:f fs=.ok (.t (.v b)) ag)(hb:b=true)(h2:fa ag=.ok r au):YT f fa fs=.ok r au:=by subst hb;unfold YT;rw[h,BP (x:=.t (.v true)) True.intro];exact h2
def Stop:SO->Prop
 |.ret _ _=>True
 |.exc _ _=>True
 |_=>False
theorem Stop.seq(h:Stop (s fs)):Ak s s' fs=s fs:=by unfold Ak;cases e:s fs<;>rw[e]at h<;>first|rfl|exact h.elim
section
variable{α:Type}{p:α->T}{ok:α->Option Str}{I:FS->Prop}{E:Str->SO->Prop}
theorem Us(hE:∀c so,E c so->Stop so):∀(xs:List α),(∀a∈xs,ok a=none->∀fs,I fs->∃ag,gt (p a) fs=some ag/\Sat (λso=>∃au,so=.nx au/\I au) (s ag))->(∀a∈xs,∀c,ok a=some c->∀fs,I fs->∃ag,gt (p a) fs=some ag/\Sat (E c) (s ag))->∀fs,I fs->(xs.findSome? ok=none/\∃ar,DJ gt s (xs.map p) fs=.nx ar/\I ar)\/∃c,xs.findSome? ok=some c/\E c (DJ gt s (xs.map p) fs)
 | [],_,_,fs,h=>.inl ⟨rfl,fs,rfl,h⟩
 |a::xs,s0,s1,fs,h=>by
  rw[List.findSome?_cons];cases e:ok a with
  |none =>obtain⟨ag,h1,au,h2,h3⟩:=s0 a tL e fs h;rw[sX,NM h1 h2];exact Us hE xs (λa m=>s0 a (sW _ m)) (λa m=>s1 a (sW _ m)) au h3
  |some c =>
   obtain⟨ag,h1,h2⟩:=s1 a tL c e fs h;have h2:E c (s ag):=h2;have hs:=hE _ _ h2;refine .inr ⟨c,rfl,?_⟩;rw[sX];have:DJ gt s (p a::xs.map p) fs=s ag:=by rw[DJ,h1];cases e2:s ag<;>rw[e2]at hs<;>first|exact hs.elim|simp only[e2]
   rw[this];exact h2
theorem Hg{it:FS->Out (List T)}{xs:List α}(hi:it fs=.ok (xs.map p) ag)(ok:α->Option Str)(I:FS->Prop)(E:Str->SO->Prop)(hE:∀c so,E c so->Stop so)(h1:I ag)(s0:∀a∈xs,ok a=none->∀fs,I fs->∃ag,gt (p a) fs=some ag/\Sat (λso=>∃au,so=.nx au/\I au) (s ag))(s1:∀a∈xs,∀c,ok a=some c->∀fs,I fs->∃ag,gt (p a) fs=some ag/\Sat (E c) (s ag))(k0:xs.findSome? ok=none->∀fs,I fs->Sat Q (h fs))(k1:∀c,xs.findSome? ok=some c->∀so,E c so->Q so):Sat Q (Ak (BC it gt s) h fs):=by
 have ef:BC it gt s fs=DJ gt s (xs.map p) ag:=Gi hi rfl;rcases Us hE xs s0 s1 ag h1 with⟨e,ar,e1,e2⟩|⟨c,e,e1⟩
 .exact Ci (ef.trans e1) (k0 e ar e2)
 .have e1:E c (BC it gt s fs):=ef▸e1;unfold Sat;rw[(hE _ _ e1).seq];exact k1 c e _ e1
theorem Wg{it:FS->Out (List T)}{xs:List α}(hi:it fs=.ok (xs.map p) ag)(ok:α->Option Str)(I:FS->Prop)(E:Str->SO->Prop)(hE:∀c so,E c so->Stop so)(h1:I ag)(s0:∀a∈xs,ok a=none->∀fs,I fs->∃ag,gt (p a) fs=some ag/\Sat (λso=>∃au,so=.nx au/\I au) (s ag))(s1:∀a∈xs,∀c,ok a=some c->∀fs,I fs->∃ag,gt (p a) fs=some ag/\Sat (E c) (s ag))(k0:xs.findSome? ok=none->∀fs,I fs->Q (.nx fs))(k1:∀c,xs.findSome? ok=some c->∀so,E c so->Q so):Sat Q (BC it gt s fs):=by
 have ef:BC it gt s fs=DJ gt s (xs.map p) ag:=Gi hi rfl;unfold Sat;rcases Us hE xs s0 s1 ag h1 with⟨e,ar,e1,e2⟩|⟨c,e,e1⟩
 .rw[ef,e1];exact k0 e ar e2
 .exact k1 c e _ (ef▸e1)
end
end
theorem q_i{Q:SO->Prop}{so:SO}(h:Q so):Sat Q so:=h
theorem Q4{P Q:SO->Prop}{so:SO}(h:Sat P so)(i:∀so,P so->Q so):Sat Q so:=i _ h
theorem q_o{Q:SO->Prop}{so:SO}(h:Sat Q so):Q so:=h
inductive L4(fs:FS):List (FS->Out Rv)->Prop
 |nil:L4 fs []
 |c {a:Str} {gs:List (FS->Out Rv)} (h:a.length<=1000) (r:L4 fs gs):L4 fs (gc (.str a)::gs)
 |r {i:Nat} {z:Str} {gs:List (FS->Out Rv)} (h:fs[i]?=some (vl (.str z))) (hz:BX z=true) (r:L4 fs gs):L4 fs (Jm (Aa i)::gs)
theorem L4.go{fs:FS}{gs:List (FS->Out Rv)}(h:L4 fs gs):∀ax:Str,ax.length+41000*gs.length<=900000->∃z,jsF gs ax fs=.ok (.t (.str z)) fs:=by
 have ap:∀x y:Str,(x++y).length=x.length+y.length:=λx y=>by rw[AZ,Eo,tY,<- AZ,<- AZ]
 induction h with
 |nil=>exact λax h=>⟨ax,if_pos (show ax.length<=1000000 by lia)⟩
 |@c a gs ha r ih =>intro ax h;rw[tV]at h;have e:=ap ax a;obtain⟨z,ez⟩:=ih (ax++a) (by lia);exact⟨z,(if_pos (show(ax++a).length<=1000000 by lia)).trans ez⟩
 |@r i y gs hi hy r ih =>
  intro ax h;rw[tV]at h;have e:=ap ax (reprText y);have hr:=Iw hy;obtain⟨z,ez⟩:=ih (ax++reprText y) (by lia);refine⟨z,?_⟩;have er:Jm (Aa i) fs=.ok (.t (.str (reprText y))) fs:=by unfold Jm;rw[Az hi,BP (x:=.t (.str y)) True.intro];exact if_pos hy
  unfold jsF;rw[er,BP (x:=.t (.str (reprText y))) True.intro];exact(if_pos (show(ax++reprText y).length<=1000000 by lia)).trans ez
section
variable{Q:SO->Prop}{fs:FS}{c:Str}{gs:List (FS->Out Rv)}{h:FS->SO}
theorem JbR(j:L4 fs gs)(l:gs.length<=10):Bs c (Ab (jsF gs Str.empty) Ai) fs=.exc c fs:=by obtain⟨z,e⟩:=j.go Str.empty (by show 0+_<=_;lia);unfold Bs;rw[BK e C4];rfl
theorem q_js(j:L4 fs gs)(l:gs.length<=10)(k:Sat Q (.exc c fs)):Sat Q (Ak (Bs c (Ab (jsF gs Str.empty) Ai)) h fs):=Q3 (JbR j l) k
theorem Jah(j:L4 fs gs)(l:gs.length<=10)(k:Sat Q (.exc c fs)):Sat Q (Bs c (Ab (jsF gs Str.empty) Ai) fs):=q_X (JbR j l) k
end
noncomputable def Qo:List Str:=["NoName","NoMaker","NoFunction","BadCount","NotLess","BadKind"]
theorem T7{c:Str}{fs:FS}:CB false (.t (.str c)) (.t (.lst [.str "NoName",.str "NoMaker",.str "NoFunction",.str "BadCount",.str "NotLess",.str "BadKind"])) fs=.ok (.t (.v (decide (c∈Qo)))) fs:=Ru (xs:=Qo)
theorem Nb{c:Str}(h:Lw c):c∉Qo:=λm=>by
 have key:∀c∈Qo,¬ ∀x∈cds c,97<=x/\x<=122:=by decide +kernel
 exact key c m h.al
theorem JaC{c:Str}(h:Lw c):¬c="":=λe=>by
 have:(cds ("":Str)).length=0:=by decide +kernel
 have:=h.lo;rw[e]at this
 lia
theorem Na{x:Str}(h:Lw x):BX x=true:=by
 unfold BX;rw[tO];refine⟨t9 (by rw[AZ];have:=h.hi;lia),uf.mpr λc m=>t9 ?_⟩;have:=(h.al c m).2;have:(122:Nat)<16^8:=by decide
 lia
noncomputable def Jbl:List Str:=Qo++(["BadName","Twice","NoKind"]:List Str)
theorem Ob{c:Str}(h:c∈Jbl):EX [vl (.zD c)]=.ok (.t (.str c)) [vl (.zD c)]/\(xrs.contains c&&Ha c "SayError")=true:=by simp only[Jbl,Qo,u0,vm,tH,ue,or_false]at h;rcases h with rfl|rfl|rfl|rfl|rfl|rfl|rfl|rfl|rfl<;>exact⟨by rfl,by decide +kernel⟩
theorem Vl{i:Nat}{dr:Str->Bool}{g h:FS->SO}{fs ag:FS}(hg:g fs=.nx ag):QV i dr g h fs=.nx ag:=by unfold QV;rw[hg]
abbrev pqT(q:Str×Str):T:=.tup [.str q.1,.str q.2]
theorem SQ:∀N:List (Str×Str),prK (N.map pqT)=some (N.map (λp=>(.inr p.1:Key)),N.map λp=>.str p.2)
 | []=>rfl
 |q::N=>by simp[prK,EN,SQ N]
section
variable{f fa:FS->Out Rv}{ga:FS->Out (List Rv)}{fs ag au bX:FS}{i j:Nat}{ks:List Key}{ts:List T}{N:List (Str×Str)}{z:Str}{n:Int}{a b:T}{gt:T->FS->Option FS}{s h:FS->SO}{Q:SO->Prop}{c:FS->Out Bool}
theorem Sa(h:f fs=.ok (.t (.tup (N.map pqT))) ag)(nd:(N.map (·.1)).Nodup):Ad Dt (Ab f Ai) fs=.ok (.nw (.l (N.map λp=>(.inr p.1:Key)) (N.map λp=>.str p.2))) ag:=by refine B2 (BK h C4) ?_;simp only[Dt,V1,SQ];rw[if_pos (by have:=Bv nd;rwa[tU]at this)]
theorem OF(h:fs[i]?=some (some (.own (.lst (N.map pqT)))))(nd:(N.map (·.1)).Nodup):Ad Dt (Ab (Aa i) Ai) fs=.ok (.nw (.l (N.map λp=>(.inr p.1:Key)) (N.map λp=>.str p.2))) fs:=by refine B2 (Jq (EU h) True.intro C4) ?_;have e:=YY h;simp only[Dt,V1,e,SQ];rw[if_pos (by have:=Bv nd;rwa[tU]at this)]
theorem ZM(h:f fs=.ok (.nw (.l ks ts)) ag):fzN f fs=.ok (.t (.dF ks ts)) ag:=by unfold fzN;rw[h];rfl
theorem Xa(hz:z.length<=1000)(h0:1<=n)(h1:n<=1000):ND (.t (.str z)) (.t (.int n)) fs=.ok (.t (.str (Txt.mul z n))) fs:=if_pos ⟨hz,h0,h1⟩
theorem Zo(h:ga fs=.ok [.t a,.t b] ag)(e1:Gg i (.t a) ag=some au)(e2:Gg j (.t b) au=some bX):YX i j ga fs=.nx bX:=by unfold YX;rw[h];show(match(Gg i (.t a) ag).bind (Gg j (.t b))with|some fs=>SO.nx fs|none=>.bad)=_;rw[e1];show(match Gg j (.t b) au with|some fs=>SO.nx fs|none=>.bad)=_;rw[e2]
section
variable{α:Type}{p:α->T}{I:List α->FS->Prop}{E:Str->SO->Prop}
noncomputable def HA(ok:List α->α->Option Str):List α->List α->Option Str
 |_,[]=>none
 |D,a::R=>match ok D a with|some c=>some c|none=>HA ok (D++[a]) R
theorem NO{ok:List α->α->Option Str}(hE:∀c so,E c so->Stop so){xs:List α}(s0:∀D a R fs,D++a::R=xs->ok D a=none->I D fs->∃ag,gt (p a) fs=some ag/\Sat (λso=>∃au,so=.nx au/\I (D++[a]) au) (s ag))(s1:∀D a R c fs,D++a::R=xs->ok D a=some c->I D fs->∃ag,gt (p a) fs=some ag/\Sat (E c) (s ag)):∀(R D:List α)(fs:FS),D++R=xs->I D fs->(HA ok D R=none/\∃ar,DJ gt s (R.map p) fs=.nx ar/\I xs ar)\/∃c,HA ok D R=some c/\E c (DJ gt s (R.map p) fs)
 | [],D,fs,e,h=>.inl ⟨rfl,fs,rfl,by rw[ud]at e;exact e▸h⟩
 |a::R,D,fs,e,h=>by
  unfold HA;cases eo:ok D a with
  |none =>obtain⟨ag,h1,au,h2,h3⟩:=s0 D a R fs e eo h;rw[sX,NM h1 h2];exact NO hE s0 s1 R (D++[a]) au (by rw[ub];exact e) h3
  |some c =>
   obtain⟨ag,h1,h2⟩:=s1 D a R c fs e eo h;have h2:E c (s ag):=h2;have hs:=hE _ _ h2;refine .inr ⟨c,rfl,?_⟩;rw[sX];have:DJ gt s (p a::R.map p) fs=s ag:=by rw[DJ,h1];cases e2:s ag<;>rw[e2]at hs<;>first|exact hs.elim|simp only[e2]
   rw[this];exact h2
theorem OY{it:FS->Out (List T)}{xs:List α}(hi:it fs=.ok (xs.map p) ag)(ok:List α->α->Option Str)(I:List α->FS->Prop)(E:Str->SO->Prop)(hE:∀c so,E c so->Stop so)(h1:I [] ag)(s0:∀D a R fs,D++a::R=xs->ok D a=none->I D fs->∃ag,gt (p a) fs=some ag/\Sat (λso=>∃au,so=.nx au/\I (D++[a]) au) (s ag))(s1:∀D a R c fs,D++a::R=xs->ok D a=some c->I D fs->∃ag,gt (p a) fs=some ag/\Sat (E c) (s ag))(k0:HA ok [] xs=none->∀fs,I xs fs->Sat Q (h fs))(k1:∀c,HA ok [] xs=some c->∀so,E c so->Q so):Sat Q (Ak (BC it gt s) h fs):=by
 have ef:BC it gt s fs=DJ gt s (xs.map p) ag:=Gi hi rfl;rcases NO hE s0 s1 xs [] ag rfl h1 with⟨e,ar,e1,e2⟩|⟨c,e,e1⟩
 .exact Ci (ef.trans e1) (k0 e ar e2)
 .have e1:E c (BC it gt s fs):=ef▸e1;unfold Sat;rw[(hE _ _ e1).seq];exact k1 c e _ e1
theorem SG{it:FS->Out (List T)}{xs:List α}(hi:it fs=.ok (xs.map p) ag)(ok:List α->α->Option Str)(I:List α->FS->Prop)(E:Str->SO->Prop)(hE:∀c so,E c so->Stop so)(h1:I [] ag)(s0:∀D a R fs,D++a::R=xs->ok D a=none->I D fs->∃ag,gt (p a) fs=some ag/\Sat (λso=>∃au,so=.nx au/\I (D++[a]) au) (s ag))(s1:∀D a R c fs,D++a::R=xs->ok D a=some c->I D fs->∃ag,gt (p a) fs=some ag/\Sat (E c) (s ag))(k0:HA ok [] xs=none->∀fs,I xs fs->Q (.nx fs))(k1:∀c,HA ok [] xs=some c->∀so,E c so->Q so):Sat Q (BC it gt s fs):=by
 have ef:BC it gt s fs=DJ gt s (xs.map p) ag:=Gi hi rfl;unfold Sat;rcases NO hE s0 s1 xs [] ag rfl h1 with⟨e,ar,e1,e2⟩|⟨c,e,e1⟩
 .rw[ef,e1];exact k0 e ar e2
 .exact k1 c e _ (ef▸e1)
end
end
noncomputable def okP(ks:List Str)(D:List (Str×Str))(q:Str×Str):Option Str:=if isNm q.1=false then some "BadName" else if q.1∈D.map (·.1)then some "Twice" else if q.2∈ks then none else some "NoKind"
theorem Ti{ks:List Str}{D:List (Str×Str)}{q:Str×Str}(h:okP ks D q=none):isNm q.1=true/\q.1∉D.map (·.1)/\q.2∈ks:=by
 unfold okP at h;split at h
 .cases h
 .split at h
  .cases h
  .split at h
   .exact⟨by simpa using ‹¬isNm q.1=false›,‹_›,‹_›⟩
   .cases h
theorem Th{ks:List Str}{D:List (Str×Str)}{q:Str×Str}{c:Str}(h:okP ks D q=some c):(isNm q.1=false/\c="BadName")\/(isNm q.1=true/\q.1∈D.map (·.1)/\c="Twice")\/isNm q.1=true/\q.1∉D.map (·.1)/\q.2∉ks/\c="NoKind":=by
 unfold okP at h;split at h
 .exact .inl ⟨‹_›,(Option.some.inj h).symm⟩
 .split at h
  .exact .inr (.inl ⟨by simpa using ‹¬isNm q.1=false›,‹_›,(Option.some.inj h).symm⟩)
  .split at h
   .cases h
   .exact .inr (.inr ⟨by simpa using ‹¬isNm q.1=false›,‹_›,‹_›,(Option.some.inj h).symm⟩)
theorem RC{ks:List Str}:∀{R D:List (Str×Str)},HA (okP ks) D R=none->(D.map (·.1)).Nodup->((D++R).map (·.1)).Nodup/\∀q∈R,isNm q.1=true/\q.2∈ks
 | [],D,_,h=>⟨by rwa[ud],nofun⟩
 |q::R,D,e,h=>by unfold HA at e;cases eo:okP ks D q with|some c=>rw[eo]at e;cases e|none =>rw[eo]at e;obtain⟨h1,h2,h3⟩:=Ti eo;obtain⟨g1,g2⟩:=RC (R:=R) (D:=D++[q]) e (by rw[sU,sT];exact⟨h,u7 _ _,λa ma b mb z=>h2 (by rw[sX,uL,tD]at mb;rw[<- mb,<- z];exact ma)⟩);rw[ub]at g1;exact⟨g1,λx mx=>(tH.mp mx).elim (λz=>by rw[z];exact⟨h1,h3⟩) (g2 x)⟩
theorem R4{f:FS->Out Rv}{fs ag:FS}{z:Str}(h:f fs=.ok (.t (.str z)) ag):itU f fs=.ok (z.cps.toList.map λc=>T.str (sgn c)) ag:=by unfold itU;rw[h];rfl
theorem VB{i:Nat}{fs:FS}{ks:List Key}{ts:List T}(h:fs[i]?=some (some (.own (.l ks ts)))):fzR (.n i) fs=.ok (.t (.l ks ts)) (fs.set i (vl (.l ks ts))):=by simp only[fzR,h];rfl
theorem NL{ks:List Str}{c:Str}:∀{R D:List (Str×Str)},HA (okP ks) D R=some c->c∈(["BadName","Twice","NoKind"]:List Str)
 | [],D,e=>by cases e
 |q::R,D,e=>by unfold HA at e;cases eo:okP ks D q with|none=>rw[eo]at e;exact NL e|some c' =>rw[eo]at e;cases e;rcases Th eo with⟨_,rfl⟩|⟨_,_,rfl⟩|⟨_,_,_,rfl⟩<;>simp
theorem lw_3{c:Str}(h:Lw c):c∉(["BadName","Twice","NoKind"]:List Str):=λm=>by
 have key:∀c∈(["BadName","Twice","NoKind"]:List Str),¬ ∀x∈cds c,97<=x/\x<=122:=by decide +kernel
 exact key c m h.al
theorem Oi{fs:FS}{is:List Ini}{τ:FS}{i k:Nat}{o:FO}(hp:∀j,FL.placeOf fs j is 0=if j=i then some k else none)(ht:τ[k]?=some (some (.bor o))):∀(gs:FS)(j:Nat),(∀n s,gs[n]?=some s->j+n=i->s=some (.own o))->HH fs is τ j gs=some gs
 | [],_,_=>by simp[HH]
 |s::gs,j,h=>by
  have ih:=Oi hp ht gs (j+1) λn s e1 e2=>h (n+1) s (by simpa using e1) (by lia)
  have b1:FL.Ke fs is τ j s=some s:=by
   unfold FL.Ke;rw[hp j];by_cases q:j=i
   .rw[if_pos q,h 0 s rfl (by lia)];simp only[ht,FL.Sl.put]
   .rw[if_neg q]
  simp only[HH,b1,ih]
theorem QT{p i k:Nat}{Fn:FS->Out Rv}{ga:FS->Out (List Rv)}{fs ag τ:FS}{rs:List Rv}{t:T}{o:FO}(h0:ga fs=.ok rs ag)(hp:rs.length=p)(hi:ag[i]?=some (some (.own o)))(hl:DH ag (rs.map AW)=[i])(hk:∀j,FL.placeOf ag j (rs.map AW) 0=if j=i then some k else none)(hf:Fn (BY ag (rs.map AW))=.ok (.t t) τ)(ht:τ[k]?=some (some (.bor o))):Ad (Ah p Fn) ga fs=.ok (.t t) ag :=
 K8 h0 hp (by rw[hl];simp) hf (Oi hk ht ag 0 λn s e1 e2=>by rw[Nat.zero_add]at e2;subst e2;rw[hi]at e1;exact(Option.some.inj e1).symm)
section
variable{i:Nat}{Fn:FS->Out Rv}{ga:FS->Out (List Rv)}{fs ag τ:FS}{t a1 a2 a4:T}{o:FO}
theorem Q9{j:Nat}(hi:ag[i]?=some (some (.own o))):Bb ag (.slot i)=some i:=by simp only[FL.Bb,FL.AE,hi];rfl
theorem Jb0(h0:ga fs=.ok [.t a1,.t a2,.n i,.t a4] ag)(hi:ag[i]?=some (some (.own o)))(hf:Fn [vl a1,vl a2,some (.bor o),vl a4]=.ok (.t t) τ)(ht:τ[2]?=some (some (.bor o))):Ad (Ah 4 Fn) ga fs=.ok (.t t) ag:=by
 have e:=Q9 (j:=0) hi;refine QT (k:=2) h0 rfl hi ?_ (λj=>?_) ?_ ht
 .show List.filterMap (Bb ag) [.val a1,.val a2,.slot i,.val a4]=_;simp[List.filterMap,e,show ∀a,Bb ag (.val a)=none from λ_=>rfl]
 .show FL.placeOf ag j [.val a1,.val a2,.slot i,.val a4] 0=_;simp[FL.placeOf,e,show ∀a,Bb ag (.val a)=none from λ_=>rfl,eq_comm]
 .show Fn [vl a1,vl a2,PJ ag (.slot i),vl a4]=_;rw[show PJ ag (.slot i)=some (.bor o) by simp only[FL.PJ,hi]];exact hf
theorem Jb1(h0:ga fs=.ok [.t a1,.t a2,.n i] ag)(hi:ag[i]?=some (some (.own o)))(hf:Fn [vl a1,vl a2,some (.bor o)]=.ok (.t t) τ)(ht:τ[2]?=some (some (.bor o))):Ad (Ah 3 Fn) ga fs=.ok (.t t) ag:=by
 have e:=Q9 (j:=0) hi;refine QT (k:=2) h0 rfl hi ?_ (λj=>?_) ?_ ht
 .show List.filterMap (Bb ag) [.val a1,.val a2,.slot i]=_;simp[List.filterMap,e,show ∀a,Bb ag (.val a)=none from λ_=>rfl]
 .show FL.placeOf ag j [.val a1,.val a2,.slot i] 0=_;simp[FL.placeOf,e,show ∀a,Bb ag (.val a)=none from λ_=>rfl,eq_comm]
 .show Fn [vl a1,vl a2,PJ ag (.slot i)]=_;rw[show PJ ag (.slot i)=some (.bor o) by simp only[FL.PJ,hi]];exact hf
end
section
seal Sat jsF Jm Bs Rr Src Ak Ay ifS retS Bg BC EF Ae Aa gc fz Ac Ab Ai Ad Ah An Cu EJ JQ Bq asB Fm Kn Ki orT tgN AH Af Lu AD itU itZ itE itD JX Ez slF chain DJ gEq AA CB BZ DI Hy Av Bk fzR Gg LR DS IK BW C9 J8 dput2 JF fzD Jn AX BF Dq Ls slS
set_option hygiene false
def Zz9(s:String):Lean.MacroM Lean.Syntax:=do
 let l<-(s.splitOn " ").toArray.mapM λx=>do
  let a<-((x.drop 1).toString.splitOn ",").toArray.mapM λy:String=>match y with
   |"!"=>`(by assumption)|"%"=>`(hr.mono (by first | decide | omega))|"&"=>`(by decide)|"#"=>`(⟨by lia,by lia⟩)|"$"=>`(Tz rfl)|"^"=>`(by decide +kernel)|"~"=>`(by first | exact lk.lk | exact Lks.no)|"="=>`(by first | exact T.zU | exact T.zJ | exact T.zO | exact T.zK | exact T.zI)|"+"=>`(by first | exact Or.inl rfl | exact Or.inr rfl)|"*"=>`(T.xt.t1 (by decide +kernel))|"@"=>`(JbN hr)|"?"=>`(?_)|"_"=>`(_)|_=>return Lean.mkIdent y.toName
  let t:=Lean.Syntax.mkApp a[0]! (a.extract 1)
  match x.front with
  |'a'=>`(Lean.Parser.Tactic.tacticSeq|apply $t)|'e'=>`(Lean.Parser.Tactic.tacticSeq|exact $t)|'r'=>`(Lean.Parser.Tactic.tacticSeq|refine $t)|'s'=>`(Lean.Parser.Tactic.tacticSeq|(refine(?_:Sat _ _);apply $t))|_=>`(Lean.Parser.Tactic.tacticSeq|(refine(?_:Sat _ _);exact $t))
 `(tactic|first $[|$l]*)
local macro_rules|`(tactic|infer_instance)=>`(tactic|(refine(?_:_=Out.ok _ _);assumption))
local macro_rules|`(tactic|infer_instance)=>`(tactic|(refine(?_:BV _ _ _=_);assumption))
local macro_rules|`(tactic|infer_instance)=>`(tactic|(refine(?_:((_:Nat):Int)<=_);focus (first | lia | (simp;lia))))
local macro_rules|`(tactic|infer_instance)=>`(tactic|(refine(?_:_<=((_:Nat):Int));focus (first | lia | (simp;lia))))
local macro_rules|`(tactic|infer_instance)=>`(tactic|(refine(?_:(_:Bool)=false);focus (first | rfl | (simp [h1];done) | (simp [h];done) | (simp [hl];done))))
local macro_rules|`(tactic|infer_instance)=>`(tactic|(refine(?_:¬ _);focus (decide +kernel)))
local macro_rules|`(tactic|infer_instance)=>Zz9 "es_k0 es_k1 es_k2 ePH,^"
local macro_rules|`(tactic|infer_instance)=>`(tactic|(refine(?_:_<=big);focus (show _<=1000000;first | lia | (simp;lia))))
local macro_rules|`(tactic|infer_instance)=>Zz9 "eNat.le_of_ble_eq_true,rfl"
local macro_rules|`(tactic|infer_instance)=>`(tactic|exact .inr (.inl rfl))
local macro_rules|`(tactic|infer_instance)=>`(tactic|exact .inr rfl)
local macro_rules|`(tactic|infer_instance)=>`(tactic|exact .inl rfl)
local macro_rules|`(tactic|infer_instance)=>`(tactic|exact(rfl:Dz _=_))
local macro_rules|`(tactic|infer_instance)=>Zz9 "eso0 aso1 aso2,rfl aOE aR4 aZA aZD aZE aZC"
local macro_rules|`(tactic|infer_instance)=>`(tactic|(refine(?_:List.map _ _=List.map _ _);rfl))
local macro_rules|`(tactic|infer_instance)=>`(tactic|(refine(?_:List.length _=_);first | rfl | focus (simp;done)))
local macro_rules|`(tactic|infer_instance)=>`(tactic|(refine(?_:List.length _<=List.length _);focus (first | lia | (simp;lia))))
local macro_rules|`(tactic|infer_instance)=>`(tactic|(refine(?_:_ < 1000000);focus (first | omega | (simp;omega))))
local macro_rules|`(tactic|infer_instance)=>`(tactic|(refine(?_:List.Nodup (List.map Prod.fst _));assumption))
local macro_rules|`(tactic|infer_instance)=>`(tactic|(refine(?_:¬ _);assumption))
local macro_rules|`(tactic|infer_instance)=>`(tactic|(refine(?_:(_:FS)[(_:Nat)]?=_);rfl))
local macro_rules|`(tactic|infer_instance)=>`(tactic|(refine(?_:¬ _∈([]:List Str));exact ue))
local macro_rules|`(tactic|infer_instance)=>`(tactic|(refine(?_:_/\List.length _ < 900);exact⟨rfl,Nat.le_of_ble_eq_true rfl⟩))
local macro_rules|`(tactic|infer_instance)=>`(tactic|(refine(?_:Jbx _=_);rfl))
local macro_rules|`(tactic|infer_instance)=>Zz9 "aJbJ eL4.nil aL4.c,& aL4.r,rfl aVF eZr aRZ"
local macro_rules|`(tactic|infer_instance)=>`(tactic|(refine(?_:_=_->Sat _ _);first | (focus (intro hb;exfalso;simp [HB] at hb;first | done | contradiction | omega)) | (focus (intro hb;exfalso;simp [h] at hb;done)) | (focus (intro hb;exfalso;simp [h1] at hb;done)) | (focus (intro hb;exfalso;simp [hv] at hb;done)) | intro hb))
local macro_rules|`(tactic|infer_instance)=>do
 let w1<-Zz9 "eJcj eJci eJch eJcg eJcf ev_k0 eJck eJce eJcd eJcc"
 `(tactic|(refine(?_:(_:Option _)=_);first|(refine(?_:atI _ _=_);with_unfolding_all rfl)|$(⟨w1⟩):tactic|(refine(?_:atI _ _=_);assumption)))
local macro_rules|`(tactic|infer_instance)=>do
 let w1<-Zz9 "aZa aVn aZe eGh,rfl,True.intro eGh,rfl,! eZf eKp,rfl,True.intro eKp,rfl,! eQX,rfl,True.intro eQX,rfl,! eZW aZV eZg eat0 eat1 eat2"
 `(tactic|(refine(?_:(_:Option _)=_);$(⟨w1⟩):tactic))
local macro_rules|`(tactic|infer_instance)=>do
 let w1<-Zz9 "aVD aR6 aR7"
 `(tactic|(refine(?_:(_:SO)=_);$(⟨w1⟩):tactic))
local macro_rules|`(tactic|infer_instance)=>do
 let w1<-Zz9 "eVq aQR aR0 aQQ aZm aZl aZR aCL aZT,rfl aQS,rfl aN0 aGi aZo aZn aVC aQS,rfl"
 `(tactic|(refine(?_:(_:SO)=_);$(⟨w1⟩):tactic))
local macro_rules|`(tactic|infer_instance)=>do
 let w1<-Zz9 "eT7 eJaI eJaH"
 let w2<-Zz9 "eXr,$ eXq,$ eRu eninT,!"
 `(tactic|(refine(?_:(_:Out Rv)=_);first|$(⟨w1⟩):tactic|exact Xr (YY rfl)|$(⟨w2⟩):tactic))
local macro_rules|`(tactic|infer_instance)=>do
 let w1<-Zz9 "aYL eGP,&"
 let w2<-Zz9 "eNH,& eNH,#"
 let w3<-Zz9 "eJ1,#"
 let w4<-Zz9 "eJaU eJaW eJb3 eJb5 eJb4 eJbM eRq"
 `(tactic|(refine(?_:(_:Out Rv)=_);first|$(⟨w1⟩):tactic|exact GP (by lia)|$(⟨w2⟩):tactic|exact J1 ⟨by decide,by decide⟩|$(⟨w3⟩):tactic|exact J0 ⟨by split <;> decide,by split <;> decide⟩|exact Um ⟨by decide,by decide +kernel⟩|$(⟨w4⟩):tactic))
local macro_rules|`(tactic|infer_instance)=>do
 let w1<-Zz9 "eVt eVr"
 let w2<-Zz9 "eVp,hj eVo,hj eVu aVv aVw aR9 aZu aZt aZs aZP eEm eXC aU6"
 `(tactic|(refine(?_:(_:Out Rv)=_);first|$(⟨w1⟩):tactic|exact OD hj (by omega)|$(⟨w2⟩):tactic))
local macro_rules|`(tactic|infer_instance)=>do
 let w1<-Zz9 "aSa aZF aSb eZN,rfl aR8 aRY,rfl aZv aVm,rfl aZc eTU,rfl,! eUh,rfl,! aMd aZU aZk aJaa aVX"
 `(tactic|(refine(?_:(_:Out Rv)=_);$(⟨w1⟩):tactic))
local macro_rules|`(tactic|infer_instance)=>do
 let w1<-Zz9 "eVy"
 let w2<-Zz9 "aJcb aJca aJb9 aJb8 aJb7 aJb6 aJbZ aJbY elen_str,rfl,! aZw aVA aZM aOF,rfl"
 `(tactic|(refine(?_:(_:Out Rv)=_);first|$(⟨w1⟩):tactic|(refine(?_:Ad (Ah 4 Bx) _ _=_);apply Jb0)|(refine(?_:Ad (Ah 3 Bl) _ _=_);apply Jb1)|$(⟨w2⟩):tactic))
local macro_rules|`(tactic|infer_instance)=>do
 let w1<-Zz9 "aZS aQz aTC aSj"
 `(tactic|(refine(?_:(_:Out Bool)=_);$(⟨w1⟩):tactic))
local macro_rules|`(tactic|infer_instance)=>do
 let w1<-Zz9 "aWa"
 let w2<-Zz9 "aV8 aMD aq_js aJah aq_ss"
 let w3<-Zz9 "aJaj aq_if aWc eOX"
 `(tactic|(refine(?_:Sat _ _);first|(refine(?_:Sat _ (Ak _ _ (List.set _ _ _)));apply Jaf;focus (dsimp only [List.set_cons_zero,List.set_cons_succ,List.cons_append,List.nil_append,List.replicate_succ,List.replicate_zero,List.append_nil];try exact rfl))|$(⟨w1⟩):tactic|((first | refine(?_:Sat _ (Ak (ifS (asB _) _ _) _ _)) | refine(?_:Sat _ (Ak (ifS (Fm _) _ _) _ _)));apply JB)|$(⟨w2⟩):tactic|((first | refine(?_:Sat _ (Ak (Ay _ _) _ _)) | refine(?_:Sat _ (Ak (Bg _) _ _)) | refine(?_:Sat _ (Ak (EF _ _) _ _)) | refine(?_:Sat _ (Ak (BW _ _ _) _ _)) | refine(?_:Sat _ (Ak (IK _ _ _ _) _ _)) | refine(?_:Sat _ (Ak (C9 _ _ _ _ _) _ _)) | refine(?_:Sat _ (Ak (J8 _ _ _ _) _ _)));apply Ci)|$(⟨w3⟩):tactic|(refine(?_:Sat _ (.ret _ _));first | exact SD True.intro rfl | (apply SD;exact True.intro))|(refine(?_:Sat _ (.nx _));first | exact Jae | exact We | apply SE)|((first | refine(?_:Sat _ (Ay _ _ _)) | refine(?_:Sat _ (Bg _ _)) | refine(?_:Sat _ (EF _ _ _)) | refine(?_:Sat _ (BW _ _ _ _)) | refine(?_:Sat _ (IK _ _ _ _ _)) | refine(?_:Sat _ (C9 _ _ _ _ _ _)) | refine(?_:Sat _ (dput2 _ _ _ _ _ _ _)));apply Wf)))
local macro_rules|`(tactic|infer_instance)=>do
 let w1<-Zz9 "eC4 aQw aJq"
 `(tactic|(refine(?_:(_:Out (List Rv))=_);$(⟨w1⟩):tactic))
local macro_rules|`(tactic|infer_instance)=>do
 let w1<-Zz9 "eZJ eZL eRn,rfl,at0 eRn,rfl,at1 aZx aZy eTN aXB aJaR eJbQ eUl eJbm eJaS eJaT aVE"
 `(tactic|(refine(?_:(_:Out Rv)=_);$(⟨w1⟩):tactic))
local macro_rules|`(tactic|infer_instance)=>do
 let w1<-Zz9 "eAz,rfl eEU,rfl ePQ,rfl epow7"
 let w2<-Zz9 "aZQ aZO eDp eR5 eZH eZG,rfl eVB,rfl eZI eZK"
 `(tactic|(refine(?_:(_:Out Rv)=_);first|$(⟨w1⟩):tactic|exact E9 18 (by decide)|exact E9 40 (by decide)|exact E9 41 (by decide)|$(⟨w2⟩):tactic))
local macro_rules|`(tactic|infer_instance)=>`(tactic|(refine(?_:_=_);with_reducible assumption))
local macro_rules|`(tactic|infer_instance)=>Zz9 "eTrue.intro"
local macro_rules|`(tactic|trivial)=>`(tactic|repeat infer_instance)
theorem C0{D R:List Nat}{a c:Nat}(e:D++a::R=List.range c):a=D.length/\D.length<c:=by have h:=congrArg List.length e;simp at h;have:=congrArg (λl:List Nat=>l[D.length]?) e;simp only[uH (tJ _),Nat.sub_self,va]at this;rw[vp (by lia)]at this;exact⟨Option.some.inj this,by lia⟩
noncomputable def lt:Nat->Int->List Nat
 |0,_=>[]
 |k+1,n=>(97+(n%26).toNat)::lt k (n/26)
theorem GK:∀(k:Nat)(n:Int),(lt k n).length=k
 |0,_=>rfl
 |k+1,n=>by simp[lt,GK k]
theorem Xd:∀(k:Nat)(n:Int),∀c∈lt k n,97<=c/\c<=122
 |0,_,_,m=>nomatch m
 |k+1,n,c,m=>by
  rcases tH.mp m with rfl|m
  .lia
  .exact Xd k _ c m
theorem TN{n:Int}{fs:FS}:AA (.t (.str ("abcdefghijklmnopqrstuvwxyz":Str))) (.t (.int (n%26))) fs=.ok (.t (.str (ch (97+(n%26).toNat)))) fs:=by
 have key:∀j∈List.range 26,(cds ("abcdefghijklmnopqrstuvwxyz":Str))[j]?=some (97+j):=by decide +kernel
 have:=ixS (fs:=fs) (i:=(n%26).toNat) (by decide +kernel) (key _ (uQ.mpr (by lia)));rwa[show(((n%26).toNat:Nat):Int)=n%26 by lia]at this
theorem TK(a b:List Nat):mkS a++mkS b=mkS (a++b):=Sr ((Eo _ _).trans rfl)
theorem TM{n:Int}{k:Nat}(hk:k<=100):∃τ,CG [iv n,iv k]=.ok (.t (.str (mkS (lt k n)))) τ:=by
 apply AL;unfold GY;trivial;apply Bi (I:=λ(D:List Nat) fs=>∃(m:Int)(z:List Nat)(y:Option Sl),fs=[iv m,iv k,vl (.str (mkS z)),y]/\Fre y/\z.length=D.length/\∀c,z++lt c m=lt (D.length+c) n) (xs:=List.range k) (p:=λi=>.int (i:Nat))
 case hi =>
  trivial
  .rfl
  .lia
 case h0=>exact⟨n,[],none,by rw[show mkS []=("":Str)from NX.symm],True.intro,rfl,λc=>by simp⟩
 case st =>
  rintro D i R _ e ⟨m,z,y,rfl,f,lz,hz⟩
  have:=C0 e;trivial
  .apply Fz;rw[AZ,AZ];show z.length+1<=1000000
   lia
  trivial;exact⟨m/26,z++[97+(m%26).toNat],_,by rw[<- TK];rfl,Al,by simp[lz],λc=>by have:=hz (c+1);rw[ub,tY,uS,Nat.add_assoc,Nat.add_comm 1 c];exact this⟩
 case k =>
  rintro _ ⟨m,z,y,rfl,f,lz,hz⟩
  have:=hz 0;rw[lt,ud,uj]at this;subst this;trivial
theorem Kf{α:Type}{P:Nat->α->Prop}{l:List α}{x:α}(h:∀(j:Nat) t,l[j]?=some t->P j t)(hx:P l.length x):∀(j:Nat) t,(l++[x])[j]?=some t->P j t:=λj t ht=>by
 rcases Nat.lt_trichotomy j l.length with q|q|q
 .rw[uX q]at ht;exact h j t ht
 .subst q;rw[List.getElem?_concat_length]at ht;cases ht;exact hx
 .rw[vh (by simp;lia)]at ht;cases ht
structure Wd1(p q:Nat)(s:Str):Prop where
 lw:Lw s
 at_:(cds s)[p]?=some q
theorem ZX{p i j:Nat}{n:Int}{s t:Str}(h1:Wd1 p (97+(((i:Int)+n)%26).toNat) s)(h2:Wd1 p (97+(((j:Int)+n)%26).toNat) t)(hi:i<26)(hj:j<26)(h:i≠j):s≠t:=λe=>by
 subst e;have:=h1.at_.symm.trans h2.at_;simp only[Option.some.injEq]at this
 lia
theorem VX{f g:FS->Out Rv}{fs:FS}{z:Str}{i:Nat}{j:Int}(h1:f fs=.ok (.t (.str z)) fs)(h2:g fs=.ok (.t (.int j)) fs)(hj:j=(i:Int))(hz:(cds z).length<=1000):slS f (B5 g) noP fs=.ok (.t (.str (mkS ((cds z).drop i)))) fs:=Jab h1 (hj▸h2) hz
theorem pow7{fs:FS}:Ae JZ (gc (.int 7919)) (gc (.int 4)) fs=.ok (.t (.int (7919^4))) fs:=by unfold Ae gc;show(if 0<=(4:Int)/\(4:Int)<=1000000/\(7919:Int).natAbs<2^64 then okT (.int (7919^(4:Int).toNat)) fs else .bad)=_;rw[if_pos (by decide)];rfl
theorem words(n:Int){c:Nat}(hc:c<=100):∃(p:Nat)(vs:List Str)(τ:FS),vs.length=c/\(∀(j:Nat) s,vs[j]?=some s->Wd1 p (97+(((j:Int)+n)%26).toNat) s)/\Bn [iv n,iv c]=.ok (.nw (.lst (vs.map T.str))) τ:=by
 obtain⟨p,hp⟩:∃p:Nat,n%8=(p:Int):=⟨(n%8).toNat,by lia⟩
 obtain⟨m,iZ,eE⟩:∃m:Nat,n/24%(12-(p:Int))=(m:Int)/\p+1+m<=12:=by have h1:=vq (n/24) (show(12-(p:Int))≠0 by lia);have h2:=vf (n/24) (show 0<(12-(p:Int)) by lia);exact⟨(n/24%(12-(p:Int))).toNat,by lia,by lia⟩
 suffices h:∃o τ,Bn [iv n,iv c]=.ok (.nw o) τ/\∃vs:List Str,o=.lst (vs.map .str)/\vs.length=c/\∀(j:Nat) s,vs[j]?=some s->Wd1 p (97+(((j:Int)+n)%26).toNat) s by obtain⟨_,τ,e,vs,rfl,a,b⟩:=h;exact⟨p,vs,τ,a,b,e⟩
 have qX:∀o:Int,∃τ,CG [iv o,iv ((p:Int)+1+n/24%(12-(p:Int)))]=.ok (.t (.str (mkS (lt (p+1+m) o)))) τ:=λo=>by rw[iZ,show(p:Int)+1+(m:Int)=((p+1+m:Nat):Int) by lia];exact TM (by lia)
 have qY:=λo=>(qX o).choose_spec
 apply HX;unfold Lb;trivial;apply Bi (I:=λ(D:List Nat) fs=>∃(vs:List Str)(y4 y5 y6 y7:Option Sl),fs=[iv n,iv c,iv p,some (.own (.lst (vs.map .str))),y4,y5,y6,y7]/\Fre y4/\Fre y5/\Fre y6/\Fre y7/\vs.length=D.length/\∀(j:Nat) s,vs[j]?=some s->Wd1 p (97+(((j:Int)+n)%26).toNat) s) (xs:=List.range c) (p:=λi=>.int (i:Nat))
 case hi =>
  trivial
  .rfl
  .lia
 case h0=>exact⟨[],none,none,none,none,by rw[hp];rfl,True.intro,True.intro,True.intro,True.intro,rfl,λj s h=>by simp at h⟩
 case st =>
  rintro D k R _ e ⟨vs,y4,y5,y6,y7,rfl,f4,f5,f6,f7,lv,hv⟩
  have rm:=C0 e;have mH:(k:Int)*k<10000:=by
   have:k*k<=99*99:=Nat.mul_le_mul (by lia) (by lia);have e:(k:Int)*k=((k*k:Nat):Int):=by simp
   lia
  have sr:0<=(k:Int)*k:=Int.mul_nonneg (by lia) (by lia);have ln:∀l:List Nat,(mkS l).length=l.length:=λl=>AZ (mkS l)
  trivial
  .exact qY _
  trivial
  .show p<=(lt (p+1+m) _).length;rw[GK];lia
  .show(lt (p+1+m) _).length<=_;rw[GK];lia
  trivial
  .apply Fz;rw[ln,ln,uh];show _+1<=1000000;lia
  trivial
  .show(p:Int)+1=((p+1:Nat):Int);lia
  .show(lt (p+1+m) _).length<=_;rw[GK];lia
  trivial
  .apply Fz;rw[AZ,Eo,tY,ln,uN];show(List.take p _).length+1+((lt (p+1+m) _).length-_)<=1000000;rw[uh,GK];lia
  trivial;generalize hw:lt (p+1+m) _=w;have lw:w.length=p+1+m:=by rw[<- hw,GK]
  have al:∀c∈w,97<=c/\c<=122:=by rw[<- hw];exact Xd _ _
  have ht:(w.take p).length=p:=by rw[uh];lia
  refine⟨vs++[mkS (w.take p)++mkS [97+((k+n)%26).toNat]++mkS (w.drop (p+1))],_,_,_,_,by rw[sU];rfl,Al,Al,Al,Al,by simp[lv],Kf hv ?_⟩;rw[lv,<- rm.1];have cs:cds (mkS (w.take p)++mkS [97+((k+n)%26).toNat]++mkS (w.drop (p+1)))=w.take p++[97+((k+n)%26).toNat]++w.drop (p+1):=by rw[Eo,Eo]
  refine⟨⟨?_,?_,λc hc=>?_⟩,?_⟩
  .rw[cs];simp;lia
  .rw[cs,tY,tY,ht,uN];show p+1+_<=12;lia
  .rw[cs]at hc;rcases sZ.mp hc with hc|hc
   .rcases sZ.mp hc with hc|hc
    .exact al c (uz hc)
    .rw[tD.mp hc];lia
   .exact al c (uW hc)
  .rw[cs,ub,uH (by lia),ht,Nat.sub_self];rfl
 case k =>
  rintro _ ⟨vs,y4,y5,y6,y7,rfl,f4,f5,f6,f7,lv,hv⟩
  rw[uj]at lv;trivial;exact Wb rfl ⟨vs,rfl,lv,hv⟩
structure Rw1(ks ws:List Str)(a k:Nat)(r:Str×List Str):Prop where
 nm:ws[4*a+k]?=some r.1
 two:r.2.length<=2
 za:∀x∈r.2,x∈ks.take (if k=0 then a else ks.length)
def Rws(ks ws:List Str)(a:Nat)(rs:List (Str×List Str)):Prop:=∀(j:Nat) r,rs[j]?=some r->Rw1 ks ws a j r
structure Kd1(ks ws:List Str)(a:Nat)(kd:Str×List (Str×List Str)):Prop where
 nm:ks[a]?=some kd.1
 lo:2<=kd.2.length
 hi:kd.2.length<=4
 rw:Rws ks ws a kd.2
structure Wds(n:Int)(vs:List Str):Prop where
 ex:∃p,∀(j:Nat) s,vs[j]?=some s->Wd1 p (97+(((j:Int)+n)%26).toNat) s
theorem WK{f g:FS->Out Rv}{fs:FS}{a b:Bool}(h1:f fs=.ok (.t (.v a)) fs)(h2:g fs=.ok (.t (.v b)) fs):orV f g fs=.ok (.t (.v (a||b))) fs:=by unfold orV;rw[h1];cases a with|true=>rfl|false=>exact h2
theorem kinds(ns:List Int):∃(K:Kd)(ks ws:List Str)(n m:Int),1<=ks.length/\ks.length<=3/\ws.length=16/\Wds n ks/\Wds m ws/\K.length=ks.length/\(∀(j:Nat) kd,K[j]?=some kd->Kd1 ks ws j kd) /\
  (∃τ,Bn [iv m,iv 16]=.ok (.nw (.lst (ws.map T.str))) τ)/\(∃τ,Bz [iv (ns.getD 2 0),iv 3]=.ok (.t (.int m)) τ) /\
  ∃τ,D2 [vl (.zY (ns.map T.int))]=.ok (.nw (.lst (K.map A7))) τ:=by
 have c1:=Ce ns 1;have c2:=Ce ns 2;obtain⟨v,_,e1⟩:=mix (ns.getD 1 0) (k:=1) (by lia);obtain⟨n,_,e2⟩:=mix (ns.getD 2 0) (k:=2) (by lia);obtain⟨m,iE,e3⟩:=mix (ns.getD 2 0) (k:=3) (by lia);obtain⟨c,hc,evc⟩:∃c:Nat,c<3/\v%3=(c:Int):=⟨(v%3).toNat,by lia,by lia⟩
 obtain⟨p,ks,_,k1,k2,k3⟩:=words n (c:=1+c) (by lia);obtain⟨q,ws,rV,w1,w2,w3⟩:=words m (c:=16) (by lia)
 suffices h:∃o τ,D2 [vl (.zY (ns.map T.int))]=.ok (.nw o) τ/\∃K:Kd,o=.lst (K.map A7)/\K.length=ks.length/\∀(j:Nat) kd,K[j]?=some kd->Kd1 ks ws j kd by obtain⟨_,τ,e,K,rfl,a,b⟩:=h;exact⟨K,ks,ws,n,m,by lia,by lia,w1,⟨p,k2⟩,⟨q,w2⟩,a,b,⟨rV,w3⟩,⟨iE,e3⟩,τ,e⟩
 rw[show((1+c:Nat):Int)=1+v%3 by lia]at k3;apply HX;unfold Ld;trivial;apply Bi (I:=λ(D:List Nat) fs=>∃(K:Kd)(y5 y6 y7 y8 y9 aU:Option Sl),fs=[vl (.zY (ns.map T.int)),iv (1+v%3),vl (.lst (ks.map .str)),vl (.lst (ws.map .str)),some (.own (.lst (K.map A7))),y5,y6,y7,y8,y9,aU]/\(Fre y5/\Fre y6/\Fre y7/\Fre y8/\Fre y9/\Fre aU)/\K.length=D.length/\∀(j:Nat) kd,K[j]?=some kd->Kd1 ks ws j kd) (xs:=List.range (1+c)) (p:=λi=>.int (i:Nat))
 case hi =>
  trivial
  .lia
  .lia
 case h0=>exact⟨[],none,none,none,none,none,none,rfl,⟨True.intro,True.intro,True.intro,True.intro,True.intro,True.intro⟩,rfl,λj s h=>by simp at h⟩
 case st =>
  rintro D a R _ e ⟨K,y5,y6,y7,y8,y9,aU,rfl,⟨f5,f6,f7,f8,f9,f10⟩,lK,hK⟩
  have rm:=C0 e;have ca:=Ce ns (3+a);rw[show((3+a:Nat):Int)=3+(a:Int) by lia]at ca;obtain⟨nu,_,ea⟩:=mix (ns.getD (3+a) 0) (k:=4) (by lia);obtain⟨c2,c9,aV⟩:∃c:Nat,(2<=c/\c<=4)/\2+nu%3=(c:Int):=⟨(2+nu%3).toNat,by lia,by lia⟩
  trivial;apply Bi (I:=λ(Z:List Nat) fs=>∃(num:Int)(rs:List (Str×List Str))(y8 y9 aU:Option Sl),fs=[vl (.zY (ns.map T.int)),iv (1+v%3),vl (.lst (ks.map .str)),vl (.lst (ws.map .str)),some (.own (.lst (K.map A7))),iv a,iv num,some (.own (.lst (rs.map EH))),y8,y9,aU]/\(Fre y8/\Fre y9/\Fre aU)/\rs.length=Z.length/\Rws ks ws a rs) (xs:=List.range c2) (p:=λi=>.int (i:Nat))
  case hi =>
   trivial
   lia
  case h0=>exact⟨_,[],_,_,_,rfl,⟨f8,f9,f10⟩,rfl,λj s h=>by simp at h⟩
  case st =>
   rintro Z k R2 _ e2 ⟨num,rs,y8,y9,aU,rfl,⟨f8,f9,f10⟩,lr,hr⟩
   have rG:=C0 e2;obtain⟨c3,hc3,ec3⟩:∃c3:Nat,(c3<=2/\(a=0->k=0->c3=0))/\num/3%3*(if(decide ((0:Int)<a)||decide ((0:Int)<k))=true then 1 else 0)=(c3:Int):=by
    by_cases h:a=0/\k=0
    .exact⟨0,⟨by lia,λ_ _=>rfl⟩,by simp[h.1,h.2]⟩
    .refine⟨(num/3%3).toNat,⟨by lia,λp q=>absurd ⟨p,q⟩ h⟩,?_⟩;rw[if_pos (by rw[uT,decide_eq_true_iff,decide_eq_true_iff];lia)]
     lia
   obtain⟨m2,eE⟩:∃m2,m2=if k=0 then a else ks.length:=⟨_,rfl⟩
   have am:atI [T.int (1+v%3),T.int a] (if decide ((k:Int)=0)=true then 1 else 0)=some (.int (m2:Nat)):=by
    by_cases h:k=0
    .rw[eE,if_pos h,if_pos (by simp[h])];exact at1
    .rw[eE,if_neg h,if_neg (by simp[h]),show((ks.length:Nat):Int)=1+v%3 by lia];exact at0
   have ww:ws[4*a+k]?=some ws[4*a+k]:=sS (by lia);have aw:atI (ws.map T.str) (4*(a:Int)+k)=some (.str ws[4*a+k]):=by rw[show 4*(a:Int)+k=((4*a+k:Nat):Int) by lia];exact BH (by rw[tR,ww];rfl)
   trivial;apply Bi (I:=λ(Y:List Nat) fs=>∃(nu:Int)(ps:List Str)(aU:Option Sl),fs=[vl (.zY (ns.map T.int)),iv (1+v%3),vl (.lst (ks.map .str)),vl (.lst (ws.map .str)),some (.own (.lst (K.map A7))),iv a,iv nu,some (.own (.lst (rs.map EH))),iv k,some (.own (.lst (ps.map .str))),aU]/\Fre aU/\ps.length=Y.length/\∀x∈ps,x∈ks.take m2) (xs:=List.range c3) (p:=λi=>.int (i:Nat))
   case hi =>
    trivial
    .apply WK;trivial
    trivial
    lia
   case h0=>exact⟨_,[],_,rfl,f10,rfl,λ_ h=>nomatch h⟩
   case st =>
    rintro Y i R3 _ e3 ⟨nu,ps,aU,rfl,f10,lp,hp⟩
    have sN:=C0 e3;have hm:1<=m2/\m2<=ks.length:=by rw[eE];split<;>lia
    obtain⟨x,mx,ex⟩:∃x∈ks.take m2,atI (ks.map T.str) (nu/3%(m2:Int))=some (.str x):=by
     have g1:=vq (nu/3) (show(m2:Int)≠0 by lia);have g2:=vf (nu/3) (show(0:Int)<m2 by lia);have hi:(nu/3%(m2:Int)).toNat<ks.length:=by lia
     refine⟨ks[(nu/3%(m2:Int)).toNat],vC.mpr ⟨(nu/3%(m2:Int)).toNat,by lia,rfl⟩,?_⟩;have:=BH (xs:=ks.map T.str) (j:=(nu/3%(m2:Int)).toNat) (by rw[tR,sS hi];rfl);rwa[show(((nu/3%(m2:Int)).toNat:Nat):Int)=nu/3%(m2:Int) by lia]at this
    trivial;exact⟨_,ps++[x],_,by rw[sU];rfl,Al,by simp[lp],λz mz=>(sZ.mp mz).elim (hp z) λh=>by rw[tD.mp h];exact mx⟩
   case k =>
    rintro _ ⟨nu,ps,aU,rfl,f10,lp,hp⟩
    rw[uj]at lp;trivial;exact⟨_,rs++[(ws[4*a+k],ps)],_,some (.own (.lst (ps.map .str))),_,by rw[sU];rfl,⟨Al,True.intro,f10⟩,by simp[lr],Kf hr (by rw[lr,<- rG.1];exact⟨ww,by show ps.length<=2;lia,by rw[<- eE];exact hp⟩)⟩
  case k =>
   rintro _ ⟨num,rs,y8,y9,aU,rfl,⟨f8,f9,f10⟩,lr,hr⟩
   rw[uj]at lr;have ha:ks[a]?=some ks[a]:=sS (by lia);have a1:atI (ks.map T.str) (a:Int)=some (.str ks[a]):=BH (by rw[tR,ha];rfl);trivial;exact⟨K++[(ks[a],rs)],_,_,_,_,_,_,by rw[sU];rfl,⟨Al,Al,Al,f8,f9,f10⟩,by simp[lK],Kf hK (by rw[lK,<- rm.1];exact⟨ha,by show 2<=rs.length;lia,by show rs.length<=4;lia,hr⟩)⟩
 case k =>
  rintro _ ⟨K,y5,y6,y7,y8,y9,aU,rfl,⟨f5,f6,f7,f8,f9,f10⟩,lK,hK⟩
  rw[uj]at lK;trivial;exact Wb rfl ⟨K,rfl,by lia,hK⟩
theorem Q2{A:FS->Prop}{n:Nat}{s:FS->SO}{args:FS}(k:Sat (λso=>∃τ,so=.nx τ/\A (τ.take args.length)) (s (args++List.replicate n none))):∃τ,Bj n s args=.ok (.t .o) τ/\A τ:=by unfold Sat at k;obtain⟨τ,e,a⟩:=k;exact⟨_,by unfold Bj;rw[e],a⟩
section
variable{K:Kd}
theorem W9{D R:Kd}{kd:Str×List (Str×List Str)}(e:D++kd::R=K)(nd:(K.map (·.1)).Nodup):(.inr kd.1:Key)∉D.map λkd=>(.inr kd.1:Key):=λm=>by obtain⟨z,mz,ez⟩:=tw.mp m;rw[<- e,sU,sX]at nd;exact(sT.mp nd).2.2 z.1 (tw.mpr ⟨z,mz,rfl⟩) kd.1 tL (Sum.inr.inj ez)
theorem Nf{α:Type}{xs D R:List α}{a:α}(e:D++a::R=xs):D.length<xs.length/\a∈xs:=by rw[<- e];simp
theorem IY(W:Well K):∃τ,B1 [vl (.lst (K.map A7))]=.ok (.t .o) τ:=by
 have h1:=W.lo;have h4:=W.hi;apply GD;unfold D8;trivial;apply Ex (I:=λ(D:Kd) fs=>∃(vs:List T)(y2 y3:Option Sl),fs=[vl (.lst (K.map A7)),some (.own (.l (D.map λkd=>.inr kd.1) vs)),y2,y3]/\Fre y2/\Fre y3) (xs:=K) (p:=A7)
 case hi=>trivial
 case h0=>exact⟨_,_,_,rfl,True.intro,True.intro⟩
 case st =>
  rintro D kd R _ e ⟨vs,y2,y3,rfl,f2,f3⟩
  have le:=Nf e;have hn:=W.nm kd le.2;have hr:=W.rw kd le.2;have nk:=W9 e W.nd;have nv:=A3 (ts:=vs) nk;trivial
  .simp[nv]
  trivial;exact⟨_,_,_,by rw[sU];rfl,Al,Al⟩
 case k =>intro fs h;trivial
theorem IX{m:Str}{ps names:List Str}{ks:List Key}{vs:List T}(hn:AY [vl (.str m)]=.ok (.t (.v true)) [vl (.str m)])(hk:(.inr m:Key)∉ks)(h2:ps.length<=2)(hp:∀p∈ps,p∈names):∃τ,Bx [vl (.str m),vl (.tup (ps.map .str)),some (.bor (.l ks vs)),vl (.lst (names.map .str))]=.ok (.t .o) τ/\τ[2]?=some (some (.bor (.l ks vs))):=by
 have nv:=A3 (ts:=vs) hk;apply Q2;unfold D7;trivial
 .simp[nv]
 trivial
 .simp;lia
 trivial;apply Q5 (Pe:=λu=>∃p,u=.str p/\p∈names) (I:=λfs=>∃y4,fs=[vl (.str m),vl (.tup (ps.map .str)),some (.bor (.l ks vs)),vl (.lst (names.map .str)),y4]/\Fre y4)
 case hi=>trivial
 case h0=>exact λu mu=>let⟨p,mp,e⟩:=tw.mp mu;⟨p,e.symm,hp p mp⟩
 case h1=>exact⟨_,rfl,True.intro⟩
 case st =>
  rintro _ _ ⟨p,rfl,mp⟩ ⟨y4,rfl,f4⟩
  trivial
  .simp[mp]
  trivial;exact⟨_,rfl,Al⟩
 case k =>
  rintro _ ⟨y4,rfl,f4⟩
  apply SE;rfl
end
section
variable{K:Kd}
theorem HE{m:Str}{ps names:List Str}(hp:∀p∈ps,p∈names):∃τ,Bl [vl (.str m),vl (.tup (ps.map .str)),some (.bor (.lst (names.map .str)))]=.ok (.t .o) τ/\τ[2]?=some (some (.bor (.lst (names.map .str)))):=by
 apply Q2;unfold Dv;apply Q5 (Pe:=λu=>∃p,u=.str p/\p∈names) (I:=λfs=>∃y4,fs=[vl (.str m),vl (.tup (ps.map .str)),some (.bor (.lst (names.map .str))),y4]/\Fre y4)
 case hi=>trivial
 case h0=>exact λu mu=>let⟨p,mp,e⟩:=tw.mp mu;⟨p,e.symm,hp p mp⟩
 case h1=>exact⟨_,rfl,True.intro⟩
 case st =>
  rintro _ _ ⟨p,rfl,mp⟩ ⟨y4,rfl,f4⟩
  trivial
  .simp[mp]
  trivial;exact⟨_,rfl,Al⟩
 case k =>
  rintro _ ⟨y4,rfl,f4⟩
  apply SE;rfl
theorem HD(W:Well K):∃τ,BI [vl (.lst (K.map A7))]=.ok (.t .o) τ:=by
 have h4:=W.hi;apply GD;unfold Du;trivial
 .apply Ka
  .trivial
  .trivial
  .exact λ_=>rfl
  .intro r mr;trivial
  .lia
 rw[show(K.map λkd=>T.str kd.1)=(K.map (·.1)).map T.str by rw[tU];rfl];trivial;apply Ex (I:=λ(D:Kd) fs=>∃(vs:List T)(y4 y5 y6 y7 y8:Option Sl),fs=[vl (.lst (K.map A7)),vl (.lst ((K.map (·.1)).map .str)),some (.own (.lst ((D.map (·.1)).map .str))),some (.own (.l (Bt D) vs)),y4,y5,y6,y7,y8]/\Fre y4/\Fre y5/\Fre y6/\Fre y7/\Fre y8) (xs:=K) (p:=A7)
 case hi=>trivial
 case h0=>exact⟨[],none,none,none,none,none,rfl,True.intro,True.intro,True.intro,True.intro,True.intro⟩
 case st =>
  rintro D kd R _ e ⟨vs,y4,y5,y6,y7,y8,rfl,f4,f5,f6,f7,f8⟩
  obtain⟨w1,w2,w3,w4⟩:=W.part e;have le:=Nf e;obtain⟨r0,rt,er⟩:=List.exists_cons_of_length_pos (W.rw kd w3).1;have a0:atI (kd.2.map EH) 0=some (EH r0):=by rw[er];exact at0
  trivial;apply Bi (I:=λ(Z:List (Str×List Str)) fs=>∃(vs:List T)(y7 y8:Option Sl),fs=[vl (.lst (K.map A7)),vl (.lst ((K.map (·.1)).map .str)),some (.own (.lst ((D.map (·.1)).map .str))),some (.own (.l (Bt D++Z.map KH) vs)),vl (.str kd.1),vl (.lst (kd.2.map EH)),vl (.str r0.1),y7,y8]/\Fre y7/\Fre y8) (xs:=kd.2) (p:=EH)
  case hi=>trivial
  case h0=>exact⟨vs,y7,y8,by rw[uL,ud],f7,f8⟩
  case st =>
   rintro Z r Y _ e2 ⟨vs,y7,y8,rfl,f7,f8⟩
   have eT:=Nf e2;have nk:(.inr r.1:Key)∉Bt D++Z.map KH:=by rw[<- e2,sU,sX,<- ub]at w1;exact λm=>(sT.mp w1).2.2 _ m _ tL rfl
   obtain⟨_,c1,c2⟩:=IX (vs:=vs) (W.yE _ (JR w3 eT.2)) nk (W.two kd w3 r eT.2) (W.za kd w3 r eT.2);have hl:(Bt D++Z.map KH).length<1000:=by rw[tY,tf];lia
   have cg:decide (r.1=r0.1)=true->_:=λh=>HE (m:=r.1) (ps:=r.2) (names:=D.map (·.1)) (W.gr D kd R e.symm r (by rw[er,OV w4 eT.2 (by rw[er];exact tL) (tM h)];rfl))
   trivial
   .exact(cg hb).choose_spec.1
   .exact(cg hb).choose_spec.2
   trivial
   .exact⟨_,_,_,by rw[sU,<- ub];rfl,Al,Al⟩
   trivial;exact⟨_,_,_,by rw[sU,<- ub];rfl,Al,Al⟩
  case k =>
   rintro _ ⟨vs,y7,y8,rfl,f7,f8⟩
   trivial;exact⟨vs,_,_,_,_,_,by rw[sU,sU,Ef];rfl,Al,Al,Al,f7,f8⟩
 case k =>intro fs h;trivial
end
abbrev TF:List Str:=["makers_by_kind","parts_by_maker","home_by_maker"]
theorem Mp:(("parts_by_maker":Str) == "makers_by_kind")=false/\(("home_by_maker":Str) == "makers_by_kind")=false/\(("home_by_maker":Str) == "parts_by_maker")=false:=by decide +kernel
section
variable{a b c:T}{x y z w:FO}
theorem v_k0:Gf TF [a,b,c] "makers_by_kind"=some a:=by simp[Gf]
theorem Jck:Gf TF [a,b,c] "parts_by_maker"=some b:=by simp[Gf,Mp]
theorem Jce:BB TF [x,y,z] "makers_by_kind"=some x:=by simp[BB]
theorem Jcd:BB TF [x,y,z] "parts_by_maker"=some y:=by simp[BB,Mp]
theorem Jcc:BB TF [x,y,z] "home_by_maker"=some z:=by simp[BB,Mp]
theorem s_k0:B6 TF [x,y,z] "makers_by_kind" w=[w,y,z]:=by simp[B6]
theorem s_k1:B6 TF [x,y,z] "parts_by_maker" w=[x,w,z]:=by simp[B6,Mp]
theorem s_k2:B6 TF [x,y,z] "home_by_maker" w=[x,y,w]:=by simp[B6,Mp]
end
section
variable{K:Kd}{C:Addr}
theorem Jv(W:Well K):∃τ,Co C [some (.bor (.ins C [] [])),vl (.lst (K.map A7))]=.ok (.t .o) (some (.bor (QW C K (CO K)))::τ):=by
 obtain⟨_,k1⟩:=IY W;obtain⟨_,k2⟩:=HD W;have h4:=W.hi;apply Jag;unfold EC;trivial;apply Ex (I:=λ(D:Kd) fs=>∃y2 y3 y4 y5,fs=[some (.bor (.ins C TF [.l (EK D) (Iz D),.l (Bt D) (MI D),.l (Bt D) (CO D)])),vl (.lst (K.map A7)),y2,y3,y4,y5]/\Fre y2/\Fre y3/\Fre y4/\Fre y5) (xs:=K) (p:=A7)
 case hi=>trivial
 case h0=>exact⟨none,none,none,none,rfl,True.intro,True.intro,True.intro,True.intro⟩
 case st =>
  rintro D kd R _ e ⟨y2,y3,y4,y5,rfl,f2,f3,f4,f5⟩
  obtain⟨w1,w2,w3,w4⟩:=W.part e;have le:=Nf e;have hr:=(W.rw kd w3).2;have nk:(.inr kd.1:Key)∉EK D:=W9 e W.nd;have lk:(EK D).length<1000:=by unfold EK;rw[tf];lia
  trivial
  .apply Ka
   .trivial
   .trivial
   .exact λ_=>rfl
   .intro r mr;trivial
   .lia
  trivial;apply Ex (I:=λ(Z:List (Str×List Str)) fs=>∃y4 y5,fs=[some (.bor (.ins C TF [.l (EK D++[.inr kd.1]) (Iz D++[.lst (kd.2.map λr=>.str r.1)]),.l (Bt D++Z.map KH) (MI D++Vf Z),.l (Bt D++Z.map KH) (CO D++LM kd.1 Z)])),vl (.lst (K.map A7)),vl (.str kd.1),vl (.lst (kd.2.map EH)),y4,y5]/\Fre y4/\Fre y5) (xs:=kd.2) (p:=EH)
  case hi=>trivial
  case h0=>exact⟨y4,y5,by unfold Vf LM;rw[uL,uL,uL,ud,ud,ud];rfl,f4,f5⟩
  case st =>
   rintro Z r Y _ e2 ⟨y4,y5,rfl,f4,f5⟩
   have eT:=Nf e2;have nr:(.inr r.1:Key)∉Bt D++Z.map KH:=by rw[<- e2,sU,sX,<- ub]at w1;exact λm=>(sT.mp w1).2.2 _ m _ tL rfl
   have hl:(Bt D++Z.map KH).length<1000:=by rw[tY,tf];lia
   trivial;exact⟨_,_,by unfold Vf LM;rw[sU,sU,sU,<- ub,<- ub,<- ub];rfl,Al,Al⟩
  case k =>
   rintro _ ⟨y4,y5,rfl,f4,f5⟩
   trivial;exact⟨_,_,_,_,by rw[Ef,MH,show CO (D++[kd])=CO D++LM kd.1 kd.2 by simp[CO],show EK (D++[kd])=EK D++[.inr kd.1]from sU,show Iz (D++[kd])=Iz D++[.lst (kd.2.map λr=>.str r.1)] by unfold Iz;rw[sU];simp],Al,Al,f4,f5⟩
 case k =>
  rintro _ ⟨y2,y3,y4,y5,rfl,f2,f3,f4,f5⟩
  exact We
theorem E6{hs:List T}:∃τ,A1 C [vl (B4 C K hs)]=.ok (.nw (.lst ((K.map (·.1)).map .str))) τ:=by
 obtain⟨r,τ,e,rfl⟩:∃r τ,A1 C [vl (B4 C K hs)]=.ok r τ/\r=.nw (.lst ((EK K).map Ox)):=by apply JA;unfold D9 B4;apply Wc;apply Vz;trivial
 exact⟨τ,by rw[e];unfold EK;rw[tU,tU];rfl⟩
theorem Ea{hs:List T}(W:Well K){kd:Str×List (Str×List Str)}(m:kd∈K):∃τ,AV C [vl (B4 C K hs),vl (.str kd.1)]=.ok (.nw (.lst ((kd.2.map (·.1)).map .str))) τ:=by
 have h:=val_mk W m;obtain⟨r,τ,e,rfl⟩:∃r τ,AV C [vl (B4 C K hs),vl (.str kd.1)]=.ok r τ/\r=.nw (.lst ((kd.2.map (·.1)).map .str)):=by apply JA;unfold Dw B4;trivial
 exact⟨τ,e⟩
theorem E5{hs:List T}(W:Well K){kd:Str×List (Str×List Str)}{r:Str×List Str}(m:kd∈K)(m2:r∈kd.2):∃τ,Bf C [vl (B4 C K hs),vl (.str r.1)]=.ok (.t (.tup (r.2.map .str))) τ:=by have h:=Mi W m m2;apply AL;unfold CU B4;trivial
end
theorem Wds.lw{n:Int}{vs:List Str}(h:Wds n vs){s:Str}(hs:s∈vs):Lw s:=by obtain⟨p,h⟩:=h.ex;obtain⟨j,hj⟩:=uI.mp hs;exact(h j s hj).lw
theorem Wds.inj{n:Int}{vs:List Str}(h:Wds n vs)(hl:vs.length<=26){i j:Nat}{s:Str}(h1:vs[i]?=some s)(h2:vs[j]?=some s):i=j:=by
 obtain⟨p,h⟩:=h.ex;have l1:=(sY.mp h1).1;have l2:=(sY.mp h2).1;rcases Nat.decEq i j with z|z
 .exact absurd rfl (ZX (h i s h1) (h j s h2) (by lia) (by lia) z)
 .exact z
theorem Fs{s:Str}(h:Lw s):AY [vl (.str s)]=.ok (.t (.v true)) [vl (.str s)]:=by have:=Hu (z:=s) (by rw[AZ];have:=h.hi;lia);rwa[(W8 s).mpr h]at this
section
variable{K:Kd}{ks ws:List Str}{n m:Int}(k1:1<=ks.length)(k3:ks.length<=3)(ju:ws.length=16)(hk:Wds n ks)(hw:Wds m ws)(hl:K.length=ks.length)(h:∀(j:Nat) kd,K[j]?=some kd->Kd1 ks ws j kd)
include hl h in
theorem Nl:K.map (·.1)=ks:=by
 apply List.ext_getElem?;intro j;rw[tR];cases e:K[j]? with
 |none =>
  have:ks.length<=j:=by rw[<- hl];exact List.getElem?_eq_none_iff.mp e
  rw[vh this];rfl
 |some kd=>exact(h j kd e).nm.symm
include h in
theorem JW{a:Nat}{kd:Str×List (Str×List Str)}{r:Str×List Str}(ha:K[a]?=some kd)(hr:r∈kd.2):∃j,j<4/\kd.2[j]?=some r/\ws[4*a+j]?=some r.1:=by obtain⟨j,hj⟩:=uI.mp hr;have:=(sY.mp hj).1;have:=(h a kd ha).hi;exact⟨j,by lia,hj,((h a kd ha).rw j r hj).nm⟩
include k1 k3 ju hk hw hl h in
theorem VG:Well K:=by
 have hn:=Nl hl h;have mk:∀s∈mks K,∃a j,j<4/\ws[4*a+j]?=some s:=λs hs=>by obtain⟨kd,m1,m2⟩:=uA.mp hs;obtain⟨r,m3,rfl⟩:=tw.mp m2;obtain⟨a,ha⟩:=uI.mp m1;obtain⟨j,j1,_,j2⟩:=JW h ha m3;exact⟨a,j,j1,j2⟩
 have gu:∀s∈mks K,Lw s:=λs hs=>by obtain⟨a,j,_,e⟩:=mk s hs;exact hw.lw (uk e)
 have at_:∀kd∈K,∃a:Nat,K[a]?=some kd:=λkd m=>uI.mp m
 refine⟨by lia,by lia,?_,λkd mk=>?_,λkd mk=>?_,?_,λs hs=>Fs (gu s hs),λs hs=>by rw[AZ];exact(gu s hs).hi,λkd mk r mr=>?_,λkd mk r mr x mx=>?_,λD kd R e r er x mx=>?_⟩
 .rw[hn];refine ur.mpr λi j hi hj cL e=>?_
  have:=hk.inj (by lia) (i:=i) (j:=j) (s:=ks[i]) (sS hi) (by rw[e];exact sS hj)
  lia
 .exact Fs (hk.lw (by rw[<- hn];exact tw.mpr ⟨kd,mk,rfl⟩))
 .obtain⟨a,ha⟩:=at_ kd mk;have g1:=(h a kd ha).lo;exact⟨by lia,(h a kd ha).hi⟩
 .refine List.pairwise_flatMap.mpr ⟨λkd m1=>?_,ur.mpr λa b ha hb iP x mx y my e=>?_⟩
  .obtain⟨a,ha⟩:=at_ kd m1;refine ur.mpr λi j hi hj cL e=>?_
   rw[tf]at hi hj;rw[uO,uO]at e;have g1:=((h a kd ha).rw i _ (sS hi)).nm;have g2:=((h a kd ha).rw j _ (sS hj)).nm;rw[e]at g1;have:=hw.inj (by lia) g1 g2
   lia
  .obtain⟨r,m3,rfl⟩:=tw.mp mx;obtain⟨r2,m4,rfl⟩:=tw.mp my;obtain⟨i,i1,_,i2⟩:=JW h (sS ha) m3;obtain⟨j,j1,_,j2⟩:=JW h (sS hb) m4;rw[<- e]at j2;have:=hw.inj (by lia) i2 j2
   lia
 .obtain⟨a,ha⟩:=at_ kd mk;obtain⟨j,_,ej,_⟩:=JW h ha mr;exact((h a kd ha).rw j r ej).two
 .obtain⟨a,ha⟩:=at_ kd mk;obtain⟨j,_,ej,_⟩:=JW h ha mr;rw[hn];exact uz (((h a kd ha).rw j r ej).za x mx)
 .have ha:K[D.length]?=some kd:=by rw[e];simp
  have:=((h D.length kd ha).rw 0 r er).za x mx;rw[if_pos rfl,<- hn,<- List.map_take,e]at this;simpa using this
end
theorem Xl{K:Kd}(W:Well K){kd z:Str×List (Str×List Str)}(hk:kd∈K)(mz:z∈K)(e:z.1=kd.1):z=kd:=by
 obtain⟨i,hi,rfl⟩:=u4 mz;obtain⟨j,hj,rfl⟩:=u4 hk;have nd:=ur.mp W.nd;rcases Nat.lt_trichotomy i j with q|q|q
 .exact absurd (by rw[uO,uO];exact e) (nd i j (by simpa using hi) (by simpa using hj) q)
 .subst q;rfl
 .exact absurd (by rw[uO,uO];exact e.symm) (nd j i (by simpa using hj) (by simpa using hi) q)
theorem makers{K:Kd}(W:Well K){kd:Str×List (Str×List Str)}(hk:kd∈K):∃τ,CF [vl (.lst (K.map A7)),vl (.str kd.1)]=.ok (.t (.lst (kd.2.map EH))) τ:=by
 have go:∀(R:Kd)(x2 x3:Option Sl),kd∈R->(∀z∈R,z∈K)->Fre x2->Fre x3->∃τ,DJ (AH 2 (Af (tgN 2) (Af (tgN 3) AD))) (ifS (asB (Ae (gEq false) (Aa 2) (Aa 1))) (retS (Aa 3)) nxS) (R.map A7) [vl (.lst (K.map A7)),vl (.str kd.1),x2,x3]=.ret (.t (.lst (kd.2.map EH))) τ:=by
  intro R
  induction R with
  |nil=>exact λ_ _ m=>nomatch m
  |cons z R ih =>
   intro x2 x3 m u f2 f3;by_cases h:z.1=kd.1
   .rw[Xl W hk (u z tL) h];exact⟨_,Ur (Ml (Gh rfl f2) (Gh rfl f3)) (PK ((RI (x:=kd.1) (y:=kd.1) (Az rfl) (Az rfl)).trans (by rw[t9 rfl])) (CL (Az rfl)))⟩
   .obtain⟨τ,g⟩:=ih (vl (.str z.1)) (vl (.lst (z.2.map EH))) ((tH.mp m).resolve_left λe=>h (by rw[e])) (λz m=>u z (sW _ m)) Al Al;exact⟨τ,(NM (Ml (Gh rfl f2) (Gh rfl f3)) (Ny (h:=nxS) ((RI (x:=z.1) (y:=kd.1) (Az rfl) (Az rfl)).trans (by rw[tS h])) rfl)).trans g⟩
 obtain⟨τ,g⟩:=go K none none hk (λ_ m=>m) DZ DZ;exact⟨_,HW (n:=2) (g:=Ji) (args:=[vl (.lst (K.map A7)),vl (.str kd.1)]) (EO (Gi (T6 (NK (Az rfl))) g))⟩
noncomputable def Y2(K:Kd):List (Str×Str×List Str):=K.flatMap λkd=>kd.2.map λr=>(kd.1,r)
theorem M7(K:Kd):Bt K=(Y2 K).map λq=>KH q.2:=by rw[Fq];unfold Y2 allR;rw[uZ,uZ];simp only[tU];rfl
theorem T8(K:Kd):CO K=(Y2 K).map λq=>T.str q.1:=by unfold CO LM Y2;rw[uZ];simp only[tU];rfl
theorem Kk{K:Kd}(W:Well K){kd:Str×List (Str×List Str)}{r:Str×List Str}(m:kd∈K)(m2:r∈kd.2):BV (Bt K) (CO K) (.inr r.1:Key)=some (.str kd.1):=by have h:(Bt K).Nodup:=Bv W.yI;rw[M7]at h;rw[M7,T8];exact Cy (f:=λq:Str×Str×List Str=>KH q.2) (g:=λq=>T.str q.1) (x:=(kd.1,r)) (uA.mpr ⟨kd,m,tw.mpr ⟨r,m2,rfl⟩⟩) h
abbrev stT(C:Addr)(K:Kd):T:=B4 C K (CO K)
section
variable{C:Addr}{K:Kd}{hs:List T}
theorem RE{i:Nat}{fs:FS}(h:fs[i]?=some (vl (B4 C K hs))):Ez C "home_by_maker" (Aa i) fs=.ok (.t (.l (Bt K) hs)) fs:=by unfold Ez;rw[Az h];obtain⟨sk,p9,qa⟩:=Pq;unfold B4;generalize ("makers_by_kind":Str)=A at *;generalize ("parts_by_maker":Str)=B at *;generalize ("home_by_maker":Str)=H at *;simp[Out.bnd,Out.bind,JaY,Gf,okT,Ne.symm p9,Ne.symm qa]
theorem Mv(W:Well K){kd:Str×List (Str×List Str)}{r:Str×List Str}(m:kd∈K)(m2:r∈kd.2):Cp C [vl (stT C K),vl (.str r.1)]=.ok (.t (.str kd.1)) [vl (stT C K),vl (.str r.1)]:=by
 have all:Cr C [vl (stT C K),vl (.str r.1)]=.ret (.t (.str kd.1)) [vl (stT C K),vl (.str r.1)]:=by
  unfold Cr;refine sq (Ny (Lh (b:=false) (AJ (NK (Az (t:=.str r.1) rfl)) (RE rfl) ?_)) rfl) ?_
  .rw[JbM,Kk W m m2];rfl
  exact CL (AJ (RE rfl) (NK (Az (t:=.str r.1) rfl)) (XB (Kk W m m2)))
 exact(HW (n:=0) (g:=Cr C) (args:=[vl (stT C K),vl (.str r.1)]) all).trans rfl
end
theorem HY{Q:SO->Prop}{c:FS->Out Bool}{s s' h:FS->SO}{fs ag:FS}{b:Bool}(hc:c fs=.ok b ag)(hb:b=false)(k:Sat Q (Ak s' h ag)):Sat Q (Ak (ifS c s s') h fs):=JB hc (λh=>absurd (h.symm.trans hb) (by decide)) λ_=>k
theorem F2.prs{R:T->Str->Prop}{ts:List T}{ps:List Str}(h:F2 R ts ps):∀u∈FL.pairs ts (ps.map .str),∃t k,u=.tup [t,.str k]/\R t k:=by
 induction h with
 |nil=>exact λ_ m=>nomatch m
 |cons h _ ih =>
  intro u m;rcases tH.mp m with rfl|m
  .exact⟨_,_,rfl,h⟩
  .exact ih u m
section
variable(K:Kd)(kn:Str->Str->Prop)(cl:Str->List Str->Str->List T->Prop)
def Ty:Nat->T->Str->Prop
 |0,_,_=>False
 |n+1,t,k=>(∃x,kn x k/\t=exN x)\/(∃m ps ts,(∃kd∈K,kd.1=k/\(m,ps)∈kd.2)/\F2 (Ty n) ts ps/\t=exP "make" m ts)\/∃f ps ts,cl f ps k ts/\F2 (Ty n) ts ps/\t=exP "call" f ts
end
theorem Ty.mono{K:Kd}{kn gq:Str->Str->Prop}{cl fU:Str->List Str->Str->List T->Prop}(h1:∀x k,kn x k->gq x k)(h2:∀f ps k ts,cl f ps k ts->fU f ps k ts):∀{n m:Nat}{t:T}{k:Str},Ty K kn cl n t k->n<=m->Ty K gq fU m t k
 |n+1,m+1,t,k,h,l=>by
  rcases h with⟨x,a,b⟩|⟨f,ps,ts,a,b,c⟩|⟨f,ps,ts,a,b,c⟩
  .exact .inl ⟨x,h1 _ _ a,b⟩
  .exact .inr (.inl ⟨f,ps,ts,a,b.imp λ_ _ q=>Ty.mono h1 h2 q (by lia),c⟩)
  .exact .inr (.inr ⟨f,ps,ts,h2 _ _ _ _ a,b.imp λ_ _ q=>Ty.mono h1 h2 q (by lia),c⟩)
theorem HB:("call":Str)≠"make"/\("make":Str)≠"name"/\("call":Str)≠"name"/\("make":Str)≠"call":=by decide +kernel
abbrev SF:List Str:=["stock","heads","kinds_by_name","own","lessers"]
theorem OP:(("heads":Str) == "stock")=false/\(("kinds_by_name":Str) == "stock")=false/\(("kinds_by_name":Str) == "heads")=false/\(("own":Str) == "stock")=false/\(("own":Str) == "heads")=false/\(("own":Str) == "kinds_by_name")=false /\
  (("lessers":Str) == "stock")=false/\(("lessers":Str) == "heads")=false/\(("lessers":Str) == "kinds_by_name")=false/\(("lessers":Str) == "own")=false:=by decide +kernel
section
variable{a b c d e:T}
theorem Jcj:Gf SF [a,b,c,d,e] "stock"=some a:=by simp[Gf]
theorem Jci:Gf SF [a,b,c,d,e] "heads"=some b:=by simp[Gf,OP]
theorem Jch:Gf SF [a,b,c,d,e] "kinds_by_name"=some c:=by simp[Gf,OP]
theorem Jcg:Gf SF [a,b,c,d,e] "own"=some d:=by simp[Gf,OP]
theorem Jcf:Gf SF [a,b,c,d,e] "lessers"=some e:=by simp[Gf,OP]
end
structure Sco where
 z7:Addr
 z8:Addr
 K:Kd
 hk:List Key
 hv:List T
 xk:List Key
 xv:List T
 own:Str
 ls:List Str
abbrev Sco.t(s:Sco):T:=.ins s.z7 SF [stT s.z8 s.K,.l s.hk s.hv,.l s.xk s.xv,.str s.own,.lst (s.ls.map exN)]
structure SOk(s:Sco)(kn:Str->Str->Prop)(cl:Str->List Str->Str->List T->Prop):Prop where
 W:Well s.K
 nm:∀x k,kn x k->BV s.xk s.xv (.inr x:Key)=some (.str k)
 hd:∀f ps k ts,cl f ps k ts->BV s.hk s.hv (.inr f:Key)=some (.tup [.tup (ps.map .str),.str k])/\(f=s.own->∃x∈s.ls,ts[0]?=some (exN x))
section
variable{s:Sco}{kn:Str->Str->Prop}{cl:Str->List Str->Str->List T->Prop}
theorem BM{x:Str}{t:T}(h:BV s.xk s.xv (.inr x:Key)=some t):∃τ,A5 s.z7 [vl s.t,vl (.str x)]=.ok (.t t) τ:=by apply AL;unfold BL;trivial
theorem T9(W:Well s.K){m:Str}{ps:List Str}{kd:Str×List (Str×List Str)}(hk:kd∈s.K)(hr:(m,ps)∈kd.2):∃τ,Ap s.z7 s.z8 [vl s.t,vl (.str "make"),vl (.str m)]=.ok (.t (.tup [.tup (ps.map .str),.str kd.1])) τ:=by obtain⟨_,h1⟩:=E5 (C:=s.z8) (hs:=CO s.K) W hk hr;have h2:=Mv (C:=s.z8) W hk hr;apply AL;unfold AN;trivial
theorem Ua{f:Str}{t:T}(h:BV s.hk s.hv (.inr f:Key)=some t):∃τ,Ap s.z7 s.z8 [vl s.t,vl (.str "call"),vl (.str f)]=.ok (.t t) τ:=by apply AL;unfold AN;trivial
theorem IG(x:Str):∀ls:List Str,Rw (exN x) (ls.map exN)=some (decide (x∈ls))
 | []=>by simp[Rw]
 |y::ls=>by
  have e:eqT 9 (exN y) (exN x)=some (decide (y=x)):=by unfold exN;rw[UL];simp only[Qq,UM];by_cases h:y=x<;>simp[h]
  rw[sX,Rw,e,IG x ls];by_cases h:y=x
  .simp[h]
  .have h2:¬x=y:=λz=>h z.symm
   simp[h,h2]
theorem ninT{x:Str}{ls:List Str}{fs:FS}(h:x∈ls):LO (.t (exN x)) (.t (.lst (ls.map exN))) fs=.ok (.t (.v false)) fs:=by unfold LO;simp only[DG,uB,IG,h,decide_true];rfl
theorem A0(O:SOk s kn cl):∀(n:Nat)(t:T)(k:Str),Ty s.K kn cl n t k->∃τ,Aq s.z7 s.z8 n [vl s.t,vl t]=.ok (.t (.str k)) τ
 |n+1,t,k,h=>by
  have key:(∃x,kn x k/\t=exN x)\/∃f m ps ts,(∃τ,Ap s.z7 s.z8 [vl s.t,vl (.str f),vl (.str m)]=.ok (.t (.tup [.tup (ps.map .str),.str k])) τ)/\f≠"name"/\(f="call"->m=s.own->∃x∈s.ls,ts[0]?=some (exN x))/\F2 (λt k=>∃τ,Aq s.z7 s.z8 n [vl s.t,vl t]=.ok (.t (.str k)) τ) ts ps/\t=exP f m ts:=by
   have lp:=λt k=>A0 O n t k
   rcases h with h|⟨m,ps,ts,⟨kd,m1,rfl,m2⟩,b,rfl⟩|⟨f,ps,ts,a,b,rfl⟩
   .exact .inl h
   .exact .inr ⟨_,m,ps,ts,T9 O.W m1 m2,HB.2.1,λh=>absurd h HB.2.2.2,b.imp lp,rfl⟩
   .exact .inr ⟨_,f,ps,ts,Ua (O.hd f ps k ts a).1,HB.2.2.1,λ_=>(O.hd f ps k ts a).2,b.imp lp,rfl⟩
  clear h;apply AL;unfold AK;rcases key with⟨x,a,rfl⟩|⟨f,m,ps,ts,⟨_,e⟩,hf,ho,b,rfl⟩
  .obtain⟨_,e⟩:=BM (s:=s) (O.nm x k a);unfold exN;trivial
  .have hl:=b.len;unfold exP;trivial;apply HY
   .by_cases h1:f="call"
    .apply Me;trivial
     .simp[h1]
     by_cases h2:m=s.own
     .obtain⟨x,mx,ex⟩:=ho h1 h2;have e1:atI ts 0=some (exN x):=BH ex;apply Me;trivial
      .simp[h2]
      trivial
     .apply Mg;trivial
      .simp[h2]
    .apply Mg;trivial
   trivial;apply JC (Pe:=λu=>∃t k,u=.tup [t,.str k]/\∃τ,Aq s.z7 s.z8 n [vl s.t,vl t]=.ok (.t (.str k)) τ) (I:=λfs=>∃y7 y8,fs=[vl s.t,vl (exP f m ts),vl (.str f),vl (.str m),vl (.tup ts),vl (.tup (ps.map .str)),vl (.str k),y7,y8]/\Fre y7/\Fre y8)
   .trivial
   .exact b.prs
   .exact⟨_,_,rfl,True.intro,True.intro⟩
   .rintro _ _ ⟨t,z,rfl,_,h⟩ ⟨y7,y8,rfl,f7,f8⟩
    trivial;exact⟨_,_,rfl,True.intro,True.intro⟩
   .rintro _ ⟨y7,y8,rfl,f7,f8⟩
    trivial
end
abbrev RX(x:Str):Prop:=AY [vl (.str x)]=.ok (.t (.v true)) [vl (.str x)]
abbrev ky(x:Str):Key:=.inr x
theorem Rl{xs D R:List Str}{a:Str}(e:D++a::R=xs)(nd:xs.Nodup):a∉D:=λm=>(sT.mp (e▸nd)).2.2 a m a tL rfl
theorem mem_mid{α:Type}{xs D R:List α}{a:α}(e:D++a::R=xs):a∈xs:=by rw[<- e];simp
theorem Bu{α:Type}{xs D R:List α}{a:α}(e:D++a::R=xs):D.length<xs.length:=by rw[<- e];simp
theorem Cd{xs:List Str}(nd:xs.Nodup)(hn:∀x∈xs,RX x)(hl:xs.length<=1000):∃τ,B0 [vl (.lst (xs.map .str))]=.ok (.t .o) τ:=by
 apply GD;unfold D6;trivial;apply Ex (I:=λ(D:List Str) fs=>∃(vs:List T)(y2:Option Sl),fs=[vl (.lst (xs.map .str)),some (.own (.l (D.map ky) vs)),y2]/\Fre y2)
 .trivial
 .exact⟨_,_,rfl,True.intro⟩
 .rintro D x R _ e ⟨vs,y2,rfl,f2⟩
  have hx:=hn x (mem_mid e);have nx:=DV (Rl e nd);have nv:=A3 (ts:=vs) nx;have:=Bu e;trivial
  .simp[nv]
  trivial;exact⟨_,_,by rw[sU];rfl,Al⟩
 .intro fs h;trivial
section
variable{z8:Addr}{K:Kd}(W:Well K)
include W
theorem DU{x:Str}(hx:x∉mks K):∃τ,Dj z8 [vl (stT z8 K),vl (.str x)]=.ok (.t (.v false)) τ:=by
 obtain⟨_,h1⟩:=E6 (C:=z8) (K:=K) (hs:=CO K);have h2:=λkd (m:kd∈K)=>(Ea (C:=z8) (hs:=CO K) W m).choose_spec
 simp only[tU,Function.comp_def]at h1;have hl:=W.hi;apply AL;unfold GX;trivial;apply Oc
 .trivial
 .intro kd m;have h2:=h2 kd m;trivial
 .exact tQ hl (by decide)
 trivial;congr 2;refine vF.mpr λkd m=>?_
 have:x∉kd.2.map (·.1):=λh=>hx (uA.mpr ⟨kd,m,h⟩)
 simp[this]
end
structure Fd where
 nm:Str
 ks:List Str
 k:Str
 z6:List Str
 rows:List (Str×List Str×T)
noncomputable def rwT(r:Str×List Str×T):T:=.tup [.tup (r.2.1.map .str),r.2.2]
abbrev Fd.t(g:Fd):T:=.tup [.str g.nm,.tup (g.ks.map .str),.str g.k,.tup (g.z6.map .str),.tup (g.rows.map rwT)]
section
variable{z8:Addr}{K:Kd}(W:Well K)
include W
theorem CK{g:Fd}{hk:List Key}{hv:List T}{kd:Str×List (Str×List Str)}{ks:List Str}(fJ:kd∈K)(hn:RX g.nm)(mP:ky g.nm∉hk)(iA:g.nm∉mks K)(eO:g.ks=kd.1::ks)(ho:g.z6.length=ks.length)(h2:ks.length<=2)(hr:g.rows.length=kd.2.length)(mF:∀x∈g.ks++[g.k],x∈K.map (·.1)) :
  ∃τ,Cn z8 [vl (stT z8 K),vl (.l hk hv),vl g.t]=.ok (.t .o) τ:=by
 obtain⟨_,h1⟩:=E6 (C:=z8) (K:=K) (hs:=CO K);obtain⟨_,h3⟩:=Ea (C:=z8) (hs:=CO K) W fJ;obtain⟨_,h4⟩:=DU (z8:=z8) W iA;have nv:=A3 (ts:=hv) mP;obtain⟨nm,sj,k,z6,rows⟩:=g;simp only at hn mP iA eO ho hr mF h4 nv;subst eO;apply GD;unfold EB;trivial
 .apply Vx;trivial
  .simp[nv]
  trivial
 trivial;apply JC (Pe:=λu=>∃x,u=.str x/\x∈K.map (·.1)) (I:=λfs=>∃y8,fs=[vl (stT z8 K),vl (.l hk hv),vl (Fd.t ⟨nm,kd.1::ks,k,z6,rows⟩),vl (.str nm),vl (.tup ((kd.1::ks).map .str)),vl (.str k),vl (.tup (z6.map .str)),vl (.tup (rows.map rwT)),y8]/\Fre y8)
 .trivial
 .intro u m;have m:u∈((kd.1::ks)++[k]).map T.str:=by rw[sU];exact m
  obtain⟨x,mx,rfl⟩:=tw.mp m;exact⟨x,rfl,mF x mx⟩
 .exact⟨_,rfl,True.intro⟩
 .rintro _ _ ⟨x,rfl,mx⟩ ⟨y8,rfl,f8⟩
  trivial
  .simp only[mx];rfl
  trivial;exact⟨_,rfl,True.intro⟩
 .rintro _ ⟨y8,rfl,f8⟩
  trivial
  .simp[ho]
  trivial
  .simp[hr]
  trivial
end
theorem GB{c:Addr}{A B D E F:T}:∃τ,BN c [some (.bor (.ins c [] [])),vl A,vl B,vl D,vl E,vl F]=.ok (.t .o) (some (.bor (.ins c SF [.val A,.val B,.val D,.val E,.val F]))::τ):=by apply Jag;unfold ED;trivial
section
variable{z7 z8:Addr}{K:Kd}{nm k:Str}{ks z6:List Str}{rows:List T}{hk:List Key}{hv:List T}{kd:Str×List (Str×List Str)}{m:Str}{ys ps:List Str}{body:T}{kn:Str->Str->Prop}{cl:Str->List Str->Str->List T->Prop}{kf:Str->Str}
theorem Dc(O:SOk ⟨z7,z8,K,hk,hv,(ys++z6).map ky,ps.map .str++ks.map .str,nm,ys.filter λx=>decide (kf x=kd.1)⟩ kn cl)(iy:∀x∈ys,BV ((ys++z6).map ky) (ps.map .str++ks.map .str) (ky x)=some (.str (kf x)))(fJ:kd∈K)(hm:(m,ps)∈kd.2)(hl:ys.length=ps.length)(ho:z6.length=ks.length)(nd:(ys++z6).Nodup)(hn:∀x∈ys++z6,RX x)(hb:ys.length<=2/\z6.length<=2)(ht:Ty K kn cl 20 body k) :
  ∃τ,CP z7 z8 [vl (stT z8 K),vl (.l hk hv),vl (.tup [.str nm,.tup ((kd.1::ks).map .str),.str k,.tup (z6.map .str),.tup rows]),vl (.str m),vl (.tup [.tup (ys.map .str),body])]=.ok (.t .o) τ:=by
 obtain⟨_,h1⟩:=E5 (C:=z8) (hs:=CO K) O.W fJ hm;obtain⟨_,h2⟩:=Cd nd hn (by simp;lia);obtain⟨_,h3⟩:=GB (c:=z7) (A:=stT z8 K) (B:=.l hk hv) (D:=.l ((ys++z6).map ky) (ps.map .str++ks.map .str)) (E:=.str nm) (F:=.lst ((ys.filter λx=>decide (kf x=kd.1)).map exN));obtain⟨_,h4⟩:=A0 O 20 body k ht;rw[sU]at h2;apply GD;unfold F8;trivial
 .exact congrArg some sU.symm
 trivial
 .exact nd
 .simp[hl,ho]
 trivial
 .apply K5
  .trivial
  .intro x mx;have:=iy x mx;trivial
  .intro x mx _;trivial
  .lia
 trivial
end
abbrev PF:List Str:=["stock","heads","rows_by_function"]
section
variable{a b c:T}{x y z w:FO}
end
abbrev hkD(D:List Fd):List Key:=D.map λg=>ky g.nm
abbrev hvT(g:Fd):T:=.tup [.tup (g.ks.map .str),.str g.k]
abbrev hvD(D:List Fd):List T:=D.map hvT
noncomputable def rvT(g:Fd)(r:Str×List Str×T):T:=.tup [.tup (r.2.1.map .str++g.z6.map .str),r.2.2]
abbrev kyR(r:Str×List Str×T):Key:=ky r.1
noncomputable def rwD(g:Fd):FO:=.l (g.rows.map kyR) (g.rows.map (rvT g))
structure ROk(K:Kd)(D:List Fd)(g:Fd)(kd:Str×List (Str×List Str))(ks:List Str)(r:Str×List Str×T):Prop where
 two:r.2.1.length<=2
 nd:(r.2.1++g.z6).Nodup
 nm:∀x∈r.2.1++g.z6,RX x
 ex:∃(ps:List Str)(kn:Str->Str->Prop)(cl:Str->List Str->Str->List T->Prop)(kf:Str->Str),(r.1,ps)∈kd.2/\r.2.1.length=ps.length/\(∀z7 z8,SOk ⟨z7,z8,K,hkD (D++[g]),hvD (D++[g]),(r.2.1++g.z6).map ky,ps.map .str++ks.map .str,g.nm,r.2.1.filter λx=>decide (kf x=kd.1)⟩ kn cl)/\(∀x∈r.2.1,BV ((r.2.1++g.z6).map ky) (ps.map .str++ks.map .str) (ky x)=some (.str (kf x)))/\Ty K kn cl 20 r.2.2 g.k
structure FOk(K:Kd)(D:List Fd)(g:Fd):Prop where
 nm:RX g.nm
 new:g.nm∉D.map Fd.nm
 yD:g.nm∉mks K
 ind:∀x∈g.ks++[g.k],x∈K.map (·.1)
 ex:∃kd ks,kd∈K/\g.ks=kd.1::ks/\g.z6.length=ks.length/\ks.length<=2/\g.rows.map (·.1)=kd.2.map (·.1)/\∀r∈g.rows,ROk K D g kd ks r
theorem GI:∀R:List (Str×List Str×T),FL.pairs ((R.map (·.1)).map .str) (R.map rwT)=R.map λr=>.tup [.str r.1,rwT r]
 | []=>rfl
 |r::R=>by simp only[sX,FL.pairs,GI R]
section
variable{cP z7 z8:Addr}{K:Kd}{g:Fd}{D:List Fd}{x2:Option Sl}
theorem kyD{x:Str}(h:x∉D.map Fd.nm):ky x∉hkD D:=by have:=DV h;rwa[tU]at this
theorem Ib(W:Well K){G:List Fd}{F:T}(hF:F=.lst (G.map Fd.t)\/F=.tup (G.map Fd.t)\/F=.zY (G.map Fd.t))(hl:G.length<=100)(aT:G≠[])(hG:∀A g B,A++g::B=G->FOk K A g) :
  ∃τ,BJ cP z7 z8 [some (.bor (.ins cP [] [])),vl (stT z8 K),vl F]=.ok (.t .o) (some (.bor (.ins cP PF [.val (stT z8 K),.l (hkD G) (hvD G),.dO (hkD G) (G.map rwD)]))::τ):=by
 apply Jag;unfold Dx;trivial;apply Ex (I:=λD fs=>∃RO y3 y4 y5 y6 y7 y8 y9 aU,fs=[some (.bor (.ins cP PF [.val (stT z8 K),.l (hkD D) (hvD D),RO])),vl (stT z8 K),vl F,y3,y4,y5,y6,y7,y8,y9,aU]/\YR RO=some (hkD D,D.map rwD)/\(D≠[]->RO=.dO (hkD D) (D.map rwD))/\Fre y3/\Fre y4/\Fre y5/\Fre y6/\Fre y7/\Fre y8/\Fre y9/\Fre aU) (xs:=G) (p:=Fd.t)
 .apply OE;trivial;exact hF
 .exact⟨_,_,_,_,_,_,_,_,_,rfl,rfl,λh=>absurd rfl h,True.intro,True.intro,True.intro,True.intro,True.intro,True.intro,True.intro,True.intro⟩
 .rintro D g R _ e ⟨RO,y3,y4,y5,y6,y7,y8,y9,aU,rfl,hR,_,f3,f4,f5,f6,f7,f8,f9,f10⟩
  have hD:=Bu e;have O:=hG D g R e;obtain⟨kd,ks,fJ,eO,ho,h2,hr,ja⟩:=O.ex;have nk:=kyD O.new;have qK:g.rows.length=kd.2.length:=by simpa using congrArg List.length hr
  obtain⟨_,c1⟩:=CK (z8:=z8) (hk:=hkD D) (hv:=hvD D) W fJ O.nm nk O.yD eO ho h2 qK O.ind;obtain⟨_,h3⟩:=Ea (C:=z8) (hs:=CO K) W fJ;trivial;apply Ex (I:=λQ fs=>∃y9 aU,fs=[some (.bor (.ins cP PF [.val (stT z8 K),.l (hkD D++[ky g.nm]) (hvD D++[hvT g]),.dO (hkD D++[ky g.nm]) (D.map rwD++[.l (Q.map kyR) (Q.map (rvT g))])])),vl (stT z8 K),vl F,vl g.t,vl (.str g.nm),vl (.tup (g.ks.map .str)),vl (.str g.k),vl (.tup (g.z6.map .str)),vl (.tup (g.rows.map rwT)),y9,aU]/\Fre y9/\Fre aU) (xs:=g.rows) (p:=λr=>.tup [.str r.1,rwT r])
  case hi =>
   rw[<- GI,hr];have h0:atI (g.ks.map T.str) 0=some (.str kd.1):=by rw[eO];exact at0
   trivial
  case h0=>exact⟨_,_,rfl,f9,f10⟩
  case st =>
   rintro Q r Z _ e2 ⟨y9,aU,rfl,f9,f10⟩
   obtain⟨m,ys,body⟩:=r;have hq:=Bu e2;have Or:=ja _ (mem_mid e2);obtain⟨ps,kn,cl,kf,hm,eP,hS,iy,ht⟩:=Or.ex;have h4:=W.rw kd fJ;have hy:ys.length<=2:=Or.two;have gM:g.z6.length<=2:=by lia
   have nr:ky m∉Q.map kyR:=by
    have nd:(g.rows.map (·.1)).Nodup:=by rw[hr];exact(W.part (vc fJ).choose_spec.choose_spec.symm).2.2.2
    rw[<- e2,sU,sX]at nd;have:=DV (Rl rfl nd);rwa[tU]at this
   have hS:=hS z7 z8;rw[show hkD (D++[g])=hkD D++[ky g.nm]from sU,show hvD (D++[g])=hvD D++[hvT g]from sU]at hS;obtain⟨_,c2⟩:=Dc (rows:=g.rows.map rwT) hS iy fJ hm eP ho Or.nd Or.nm ⟨Or.two,by lia⟩ ht;rw[<- eO]at c2;trivial;exact⟨_,_,by rw[sU,sU];rfl,Al,Al⟩
  case k =>
   rintro _ ⟨y9,aU,rfl,f9,f10⟩
   trivial;exact⟨_,_,_,_,_,_,_,_,_,by simp only[hkD,hvD,sU];rfl,by simp only[hkD,hvD,sU];rfl,λ_=>by simp only[hkD,hvD,sU];rfl,Al,Al,Al,Al,Al,Al,f9,f10⟩
 .rintro _ ⟨RO,y3,y4,y5,y6,y7,y8,y9,aU,rfl,hR,h,f3,f4,f5,f6,f7,f8,f9,f10⟩
  rw[h aT];trivial
end
section
variable{K:Kd}(W:Well K){kn:Str->Str->Prop}{cl:Str->List Str->Str->List T->Prop}
abbrev kT(K:Kd):T:=.lst (K.map A7)
include W
theorem least:∀(d n:Nat),d<n->∀D kd R,D++kd::R=K->D.length<=d->∃t,(∃τ,Cq n [vl (kT K),vl (.str kd.1)]=.ok (.t t) τ)/\Ty K kn cl (d+1) t kd.1
 |d,n+1,hn,D,kd,R,e,hd=>by
  have hk:=mem_mid e;obtain⟨_,h1⟩:=makers W hk;obtain⟨r,rs,er⟩:=List.exists_cons_of_length_pos (W.rw kd hk).1;have hr:r∈kd.2:=by rw[er];exact tL
  have h2:=W.two kd hk r hr;obtain⟨vs,hv⟩:∃vs,F2 (λp v=>(∃τ,Cq n [vl (kT K),vl (.str p)]=.ok (.t v) τ)/\Ty K kn cl d v p) r.2 vs:=UJ λp mp=>by
   have mp:=W.gr D kd R e.symm r (by rw[er];rfl) p mp;obtain⟨kp,mk,rfl⟩:=tw.mp mp;obtain⟨A,B,rfl⟩:=vc mk;rw[tY,tV]at hd;obtain⟨d,rfl⟩:∃e,d=e+1:=⟨d-1,by lia⟩
   exact least d n (by lia) A kp (B++kd::R) (by rw[<- e];simp) (by lia)
  rw[er]at h1;refine⟨exP "make" r.1 vs,?_,.inr (.inl ⟨r.1,r.2,vs,⟨kd,hk,rfl,hr⟩,(hv.imp λ_ _ h=>h.2).flip,rfl⟩)⟩;apply AL;unfold HI;trivial
  .apply UZ
   .trivial
   .exact hv.imp λp v ⟨⟨_,h⟩,_⟩=>by trivial
   .lia
  trivial
end
section
variable{K:Kd}(W:Well K){N:List (Str×Str)}{D:List Fd}
abbrev nK(N:List (Str×Str)):List Key:=N.map λp=>.inr p.1
abbrev nV(N:List (Str×Str)):List T:=N.map λp=>.str p.2
abbrev knN(N:List (Str×Str)):Str->Str->Prop:=λx k=>(x,k)∈N
abbrev clD(D:List Fd):Str->List Str->Str->List T->Prop:=λf ps k _=>∃g∈D,g.nm=f/\g.ks=ps/\g.k=k
theorem Sg(nd:(N.map (·.1)).Nodup){p:Str×Str}(m:p∈N):BV (nK N) (nV N) (.inr p.1:Key)=some (.str p.2) :=
 Cy (f:=λp:Str×Str=>(.inr p.1:Key)) (g:=λp=>T.str p.2) m (by have:=Bv nd;rwa[tU]at this)
theorem Lo(nd:(D.map Fd.nm).Nodup){g:Fd}(m:g∈D):BV (hkD D) (hvD D) (.inr g.nm:Key)=some (hvT g) :=
 Cy (f:=λg:Fd=>ky g.nm) (g:=hvT) m (by have:=Bv nd;rwa[tU]at this)
include W
theorem stream(n1:(N.map (·.1)).Nodup)(n2:(D.map Fd.nm).Nodup)(l1:N.length<=1000)(l2:D.length<=1000)(hN:∀p∈N,p.2∈K.map (·.1))(hD:∀g∈D,∀x∈g.ks,x∈K.map (·.1))(hK:K.length<=3)(h3:∀g∈D,g.ks.length<=100):∀(l n:Nat),l<n->∀kd∈K,∀num:Int,∃(e:T)(gv:Int),(∃τ,By n [vl (kT K),vl (.dF (nK N) (nV N)),vl (.dF (hkD D) (hvD D)),vl (.str kd.1),iv num,iv ((l+1:Nat):Int)]=.ok (.t (.lst [e,.int gv])) τ)/\Ty K (knN N) (clD D) (l+3) e kd.1
 |l,n+1,hn,kd,hk,num=>by
  obtain⟨A,B,eK⟩:=vc hk;have hA:A.length<=2:=by
   have:=congrArg List.length eK;simp at this
   lia
  obtain⟨lt,⟨_,h1⟩,ht⟩:=least (kn:=knN N) (cl:=clD D) W 2 8 (by lia) A kd B eK.symm hA;obtain⟨_,h2⟩:=makers W hk;have h4:=W.rw kd hk
  suffices hs:∃r τ,By (n+1) [vl (kT K),vl (.dF (nK N) (nV N)),vl (.dF (hkD D) (hvD D)),vl (.str kd.1),iv num,iv ((l+1:Nat):Int)]=.ok r τ/\∃(e:T)(gv:Int),r=.t (.lst [e,.int gv])/\Ty K (knN N) (clD D) (l+3) e kd.1 by obtain⟨_,τ,e,a,b,rfl,c⟩:=hs;exact⟨a,b,⟨τ,e⟩,c⟩
  apply JA;unfold F9;trivial
  .apply K5
   .trivial
   .intro p mp;have:=Sg n1 mp;trivial
   .intro p mp _;trivial
   .exact l1
  trivial
  .apply K5
   .trivial
   .intro g mg;have:=Lo n2 mg;trivial
   .intro g mg _;trivial
   .exact l2
  trivial;apply JB
  .apply Kh;trivial;apply Ih;trivial
  .intro hb;have aT:N.filter (λp=>decide (p.2=kd.1))≠[]:=λh=>by simp[h]at hb
   have g1:=uE.mpr aT;have g2:=tQ (List.length_filter_le (λp=>decide (p.2=kd.1)) N) l1;obtain⟨p,mp,hp⟩:=BS aT (λp=>T.str p.1) (num/5);rw[<- tf (f:=λp:Str×Str=>T.str p.1)]at g1 g2;obtain⟨mp,ep⟩:=uJ.mp mp;trivial;exact⟨_,_,rfl,.inl ⟨p.1,by rw[<- tM ep];exact mp,rfl⟩⟩
  .intro _;trivial
   .exact⟨_,_,rfl,ht.mono (λ_ _ h=>h) (λ_ _ _ _ h=>h) (by lia)⟩
   intro hb;have hl:=of_decide_eq_false hb;obtain⟨l,rfl⟩:∃j,l=j+1:=⟨l-1,by lia⟩
   have aT:kd.2≠[]:=λh=>by simp[h]at h4
   obtain⟨r,mr,hr⟩:=BS aT EH (num/5);have g1:0<(kd.2.map EH).length:=by rw[tf];lia
   trivial;apply ME (J:=λx:Str×Str×List Str=>[vl (kT K),vl (.dF (nK N) (nV N)),vl (.dF (hkD D) (hvD D)),vl (.str kd.1),iv (num/5),iv ((l+1+1:Nat):Int),vl (.lst ((N.filter λp=>decide (p.2=kd.1)).map λp=>T.str p.1)),vl (.lst ((D.filter λg=>decide (g.k=kd.1)).map λg=>T.str g.nm)),iv (num%5),vl (.str x.1),vl (.lst (kd.2.map EH)),vl (.str x.2.1),vl (.tup (x.2.2.map .str)),none,none,none]) (P:=λx=>(∀p∈x.2.2,p∈K.map (·.1))/\x.2.2.length<=100/\∀vs,F2 (Ty K (knN N) (clD D) (l+3)) vs x.2.2->Ty K (knN N) (clD D) (l+1+3) (exP x.1 x.2.1 vs) kd.1)
   .apply Kh;trivial
   .intro hb;have aT:D.filter (λg=>decide (g.k=kd.1))≠[]:=λh=>by simp[h]at hb
    have g1:=uE.mpr aT;obtain⟨g,mg,hg⟩:=BS aT (λg=>T.str g.nm) (num/5);rw[<- tf (f:=λg:Fd=>T.str g.nm)]at g1;obtain⟨mg,eg⟩:=uJ.mp mg;have:=Lo n2 mg;refine⟨("call",g.nm,g.ks),⟨hD g mg,?_,λvs h=>.inr (.inr ⟨g.nm,g.ks,vs,⟨g,mg,rfl,rfl,tM eg⟩,h,rfl⟩)⟩,?_⟩
    .exact h3 g mg
    .trivial
   .intro _;refine⟨("make",r.1,r.2),⟨W.za kd hk r mr,tQ (W.two kd hk r mr) (by decide),λvs h=>.inr (.inl ⟨r.1,r.2,vs,⟨kd,hk,rfl,mr⟩,h,rfl⟩)⟩,rfl⟩
   rintro⟨w,m,ps⟩ ⟨p1,p2,p3⟩
   trivial;apply Bi (I:=λZ fs=>∃(vs:List T)(nu:Int)(gB gC:Option Sl),fs=[vl (kT K),vl (.dF (nK N) (nV N)),vl (.dF (hkD D) (hvD D)),vl (.str kd.1),iv nu,iv ((l+1+1:Nat):Int),vl (.lst ((N.filter λp=>decide (p.2=kd.1)).map λp=>T.str p.1)),vl (.lst ((D.filter λg=>decide (g.k=kd.1)).map λg=>T.str g.nm)),iv (num%5),vl (.str w),vl (.lst (kd.2.map EH)),vl (.str m),vl (.tup (ps.map .str)),some (.own (.lst vs)),gB,gC]/\Fre gB/\Fre gC/\F2 (Ty K (knN N) (clD D) (l+3)) vs Z) (xs:=ps) (p:=T.str)
   case hi=>trivial
   case h0=>exact⟨_,_,_,_,rfl,True.intro,True.intro,.nil⟩
   case st =>
    rintro Z p R _ e ⟨vs,nu,gB,gC,rfl,f14,f15,hv⟩
    obtain⟨kp,mk,rfl⟩:=tw.mp (p1 _ (mem_mid e));obtain⟨v,sM,⟨_,h⟩,ht⟩:=stream n1 n2 l1 l2 hN hD hK h3 l n (by lia) kp mk nu;rw[show((l+1:Nat):Int)=((l+1+1:Nat):Int)-1 by lia]at h;have:=hv.len;have:=Bu e;simp only at p2;trivial;exact⟨_,_,_,_,rfl,Al,Al,hv.snoc ht⟩
   case k =>
    rintro _ ⟨vs,nu,gB,gC,rfl,f14,f15,hv⟩
    trivial;exact⟨_,_,rfl,p3 vs hv⟩
end
section
variable{K:Kd}(W:Well K){N:List (Str×Str)}{D:List Fd}
include W
theorem grown(n1:(N.map (·.1)).Nodup)(n2:(D.map Fd.nm).Nodup)(l1:N.length<=1000)(l2:D.length<=1000)(hN:∀p∈N,p.2∈K.map (·.1))(hD:∀g∈D,∀x∈g.ks,x∈K.map (·.1))(hK:K.length<=3)(h3:∀g∈D,g.ks.length<=100){kd:Str×List (Str×List Str)}(hk:kd∈K)(num:Int):∃e:T,(∃τ,Dk [vl (kT K),vl (.dF (nK N) (nV N)),vl (.dF (hkD D) (hvD D)),vl (.str kd.1),iv num,iv 3]=.ok (.t e) τ)/\Ty K (knN N) (clD D) 5 e kd.1:=by obtain⟨e,gv,⟨_,h⟩,ht⟩:=stream W n1 n2 l1 l2 hN hD hK h3 2 6 (by lia) kd hk num;refine⟨e,?_,ht⟩;apply AL;unfold Lf;trivial
end
theorem put{K:Kd}{kn gq:Str->Str->Prop}{cl fU:Str->List Str->Str->List T->Prop}{k0:Str}{o:T}{j:Nat}(hk:∀x k,gq x k->(x=""/\k=k0)\/(x≠""/\kn x k))(hc:∀f ps k ts,cl f ps k ts->(∀gX,fU f ps k gX)/\ps.length<=100)(h2:∀kd∈K,∀r∈kd.2,r.2.length<=2)(ho:Ty K kn fU j o k0):∀m n,m<=n->∀t k,Ty K gq cl m t k->∃t',(∃τ,EA n [vl t,vl (.str ""),vl o]=.ok (.t t') τ)/\Ty K kn fU (m+j) t' k
 |m+1,n+1,hn,t,k,h=>by
  have key:(∃x,gq x k/\t=exN x)\/∃(f s:Str)(ps:List Str)(ts:List T),f≠"name"/\F2 (Ty K gq cl m) ts ps/\ps.length<=100/\(∀vs,F2 (Ty K kn fU (m+j)) vs ps->Ty K kn fU (m+j+1) (exP f s vs) k)/\t=exP f s ts:=by
   rcases h with h|⟨s,ps,ts,⟨kd,m1,rfl,m2⟩,b,rfl⟩|⟨f,ps,ts,a,b,rfl⟩
   .exact .inl h
   .exact .inr ⟨_,s,ps,ts,HB.2.1,b,tQ (h2 kd m1 _ m2) (by decide),λvs hv=>.inr (.inl ⟨s,ps,vs,⟨kd,m1,rfl,m2⟩,hv,rfl⟩),rfl⟩
   .exact .inr ⟨_,f,ps,ts,HB.2.2.1,b,(hc _ _ _ _ a).2,λvs hv=>.inr (.inr ⟨f,ps,vs,(hc _ _ _ _ a).1 vs,hv,rfl⟩),rfl⟩
  rcases key with⟨x,a,rfl⟩|⟨f,s,ps,ts,hf,b,hl,hT,rfl⟩
  .rcases hk x k a with⟨rfl,rfl⟩|⟨hx,iW⟩
   .refine⟨o,?_,ho.mono (λ_ _ h=>h) (λ_ _ _ _ h=>h) (by lia)⟩;apply AL;unfold Jh exN;trivial
   .refine⟨exN x,?_,Ty.mono (n:=1) (λ_ _ h=>h) (λ_ _ _ _ h=>h) (.inl ⟨x,iW,rfl⟩) (by lia)⟩;apply AL;unfold Jh exN;trivial
    .rw[if_neg (by simp[hx])];exact at0
    trivial
  .have go:∀{ts:List T}{ps:List Str},F2 (Ty K gq cl m) ts ps->∃vs,F2 (λt v=>∃τ,EA n [vl t,vl (.str ""),vl o]=.ok (.t v) τ) ts vs/\F2 (Ty K kn fU (m+j)) vs ps:=λh=>by induction h with|nil=>exact⟨[],.nil,.nil⟩|cons h _ ih =>obtain⟨vs,a,b⟩:=ih;obtain⟨v,c,d⟩:=put hk hc h2 ho m n (by lia) _ _ h;exact⟨v::vs,.cons c a,.cons d b⟩
   obtain⟨vs,hv,hw⟩:=go b;have eP:=b.len;refine⟨exP f s vs,?_,by rw[Nat.add_right_comm];exact hT vs hw⟩;apply AL;unfold Jh exP;trivial
   .apply YG
    .trivial
    .exact hv.imp λt v ⟨_,h⟩=>by trivial
    .lia
   trivial
theorem Ed:∀xs ys:List Str,FL.pairs (xs.map .str) (ys.map .str)=(xs.zip ys).map λq=>.tup [.str q.1,.str q.2]
 | [],_=>by simp[FL.pairs]
 |x::xs,[]=>by simp[FL.pairs]
 |x::xs,y::ys=>by simp[FL.pairs,Ed xs ys]
noncomputable def cpE(own k:Str)(q:Str×Str):T:=if q.2=k then exP "call" own [exN q.1]else exN q.1
theorem Qv{own k m:Str}{ps ws:List Str}(h1:ps.length<=ws.length)(h2:ws.length<=100):∃τ,CQ [vl (.str own),vl (.str k),vl (.str m),vl (.tup (ps.map .str)),vl (.lst (ws.map .str))]=.ok (.t (.tup [.tup ((ws.take ps.length).map .str),exP "make" m ((ws.zip ps).map (cpE own k))])) τ:=by
 apply AL;unfold Gb;trivial;apply Bi (I:=λZ fs=>∃y6 y7,fs=[vl (.str own),vl (.str k),vl (.str m),vl (.tup (ps.map .str)),vl (.lst (ws.map .str)),some (.own (.lst (Z.map (cpE own k)))),y6,y7]/\Fre y6/\Fre y7) (xs:=ws.zip ps) (p:=λq=>.tup [.str q.1,.str q.2])
 case hi =>rw[<- Ed];trivial
 case h0=>exact⟨_,_,rfl,True.intro,True.intro⟩
 case st =>
  rintro Z q R _ e ⟨y6,y7,rfl,f6,f7⟩
  have:=Bu e;rw[vn]at this;trivial
  .exact⟨vl (.str q.1),vl (.str q.2),by rw[sU];unfold cpE exP exN;simp at hb;simp[hb],Al,Al⟩
  trivial
  .exact⟨vl (.str q.1),vl (.str q.2),by rw[sU];unfold cpE exP exN;simp at hb;simp[hb],Al,Al⟩
 case k =>
  rintro _ ⟨y6,y7,rfl,f6,f7⟩
  trivial;rw[tf,<- List.map_take];rfl
abbrev clO(D:List Fd)(own:Str)(ps:List Str)(k:Str)(ls:List Str):Str->List Str->Str->List T->Prop:=λf qs k' ts=>clD D f qs k' ts\/(f=own/\qs=ps/\k'=k/\∃x∈ls,ts[0]?=some (exN x))
section
variable{K:Kd}(W:Well K){N:List (Str×Str)}{D:List Fd}
include W
theorem body(n1:(N.map (·.1)).Nodup)(n2:(D.map Fd.nm).Nodup)(l1:N.length<=100)(l2:D.length<=100)(hN:∀p∈N,p.2∈K.map (·.1))(hD:∀g∈D,∀x∈g.ks,x∈K.map (·.1))(hK:K.length<=3)(h3:∀g∈D,g.ks.length<=100){kd:Str×List (Str×List Str)}(hk:kd∈K){own w0:Str}{ws ls:List Str}(hw:∀x∈ws,x∈K.map (·.1))(lw:ws.length<=2)(ll:ls.length<=2)(qw:∀x∈ls,(x,w0)∈N)(aT:∀p∈N,p.1≠"")(dg:Int) :
  ∃e:T,(∃τ,FF [vl (kT K),vl (.dF (hkD D) (hvD D)),vl (.tup [.str own,.lst ((w0::ws).map .str),.str kd.1]),vl (.dF (nK N) (nV N)),vl (.lst (ls.map .str)),iv dg]=.ok (.t e) τ)/\Ty K (knN N) (clO D own (w0::ws) kd.1 ls) 20 e kd.1:=by
 suffices hs:∃r τ,FF [vl (kT K),vl (.dF (hkD D) (hvD D)),vl (.tup [.str own,.lst ((w0::ws).map .str),.str kd.1]),vl (.dF (nK N) (nV N)),vl (.lst (ls.map .str)),iv dg]=.ok r τ/\∃e:T,r=.t e/\Ty K (knN N) (clO D own (w0::ws) kd.1 ls) 20 e kd.1 by obtain⟨_,τ,e,a,rfl,c⟩:=hs;exact⟨a,⟨τ,e⟩,c⟩
 obtain⟨e1,⟨_,g1⟩,t1⟩:=grown W n1 n2 (by lia) (by lia) hN hD hK h3 hk (dg/8);apply JA;unfold Om;trivial;apply JB
 .apply Ih;trivial
 .intro _;trivial;exact⟨_,rfl,t1.mono (λ_ _ h=>h) (λ_ _ _ _ h=>.inl h) (by lia)⟩
 intro hb;have i6:ls≠[]:=λh=>by simp[h]at hb
 have p1:0<(ls.map T.str).length:=by rw[tf];exact uE.mpr i6
 obtain⟨x,mx,hx⟩:=BS i6 T.str (dg/4);have ne:(.inr "":Key)∉nK N:=λm=>by obtain⟨p,mp,e⟩:=tw.mp m;exact aT p mp (Sum.inr.inj e)
 trivial;apply Bi (I:=λZ fs=>∃(vs:List T)(d:Int)(cz dR:Option Sl),fs=[vl (kT K),vl (.dF (hkD D) (hvD D)),vl (.tup [.str own,.lst ((w0::ws).map .str),.str kd.1]),vl (.dF (nK N) (nV N)),vl (.lst (ls.map .str)),iv d,vl (.str own),vl (.lst ((w0::ws).map .str)),vl (.str kd.1),some (.own (.l (nK N++[.inr ""]) (nV N++[.str kd.1]))),some (.own (.lst (exN x::vs))),cz,dR]/\Fre cz/\Fre dR/\F2 (Ty K (knN N) (clD D) 4) vs Z) (xs:=ws) (p:=T.str)
 case hi=>trivial
 case h0=>exact⟨_,_,_,_,rfl,True.intro,True.intro,.nil⟩
 case st =>
  rintro Z p R _ e ⟨vs,d,cz,dR,rfl,f11,f12,hv⟩
  obtain⟨kp,mk,rfl⟩:=tw.mp (hw _ (mem_mid e));obtain⟨v,d',⟨_,h⟩,ht⟩:=stream W n1 n2 (by lia) (by lia) hN hD hK h3 1 6 (by lia) kp mk d;have:=hv.len;have:=Bu e;trivial;exact⟨vs++[v],_,_,_,rfl,Al,Al,hv.snoc ht⟩
 case k =>
  rintro _ ⟨vs,d,cz,dR,rfl,f11,f12,hv⟩
  obtain⟨e2,⟨_,g2⟩,t2⟩:=grown (N:=N++[(("":Str),kd.1)]) (D:=D) W (by
   rw[sU];exact sT.mpr ⟨n1,by simp,λa ma b mb e=>by obtain⟨p,mp,rfl⟩:=tw.mp ma;exact aT p mp (by rw[e];simpa using mb)⟩) n2 (by simp;lia) (by lia) (λp mp=>by
   rcases sZ.mp mp with mp|mp
   .exact hN p mp
   .rw[tD.mp mp];exact tw.mpr ⟨kd,hk,rfl⟩) hD hK h3 hk d
  rw[show nK (N++[((("":Str)),kd.1)])=nK N++[.inr ""]from sU,show nV (N++[((("":Str)),kd.1)])=nV N++[.str kd.1]from sU]at g2;have to:Ty K (knN N) (clO D own (w0::ws) kd.1 ls) 5 (exP "call" own (exN x::vs)) kd.1:=.inr (.inr ⟨own,w0::ws,_,.inr ⟨rfl,rfl,rfl,x,mx,rfl⟩,.cons (.inl ⟨x,qw x mx,rfl⟩) (hv.imp λ_ _ h=>h.mono (λ_ _ h=>h) (λ_ _ _ _ h=>.inl h) (tJ _)),rfl⟩);obtain⟨e3,⟨_,g3⟩,t3⟩:=put (kn:=knN N) (gq:=knN (N++[((("":Str)),kd.1)])) (cl:=clD D) (k0:=kd.1) (λz k h=>by
   rcases sZ.mp h with h|h
   .exact .inr ⟨aT _ h,h⟩
   .have:=tD.mp h;cases this;exact .inl ⟨rfl,rfl⟩) (λf ps k ts h=>⟨λ_=>.inl h,by obtain⟨g,m,_,rfl,_⟩:=h;exact h3 g m⟩) W.two to 5 20 (by lia) e2 kd.1 t2
  unfold exP at g3;trivial;exact⟨_,rfl,t3.mono (λ_ _ h=>h) (λ_ _ _ _ h=>h) (by lia)⟩
end
theorem Mb{xs ys:List Str}(h:xs.length=ys.length):nK (xs.zip ys)=xs.map λx=>(.inr x:Key):=by
 have:=uY (l₁:=xs) (l₂:=ys) (by lia)
 conv=>rhs;rw[<- this,tU]
 rfl
theorem L8{xs ys:List Str}(h:xs.length=ys.length):nV (xs.zip ys)=ys.map T.str:=by
 have:=List.map_snd_zip (l₁:=xs) (l₂:=ys) (by lia)
 conv=>rhs;rw[<- this,tU]
 rfl
theorem Vv{α β:Type}{xs:List α}{ys:List β}{p:α->T}{q:β->T}{fs:FS}(h:ys.length<=xs.length):Jn (.t (.lst (xs.map p))) none (some ((ys.map q).length:Int)) fs=.ok (.t (.lst ((xs.take ys.length).map p))) fs:=by rw[Vw (by rw[tf,tf];exact h),tf,List.map_take]
theorem Wds.nd{n:Int}{vs:List Str}(h:Wds n vs)(hl:vs.length<=26):vs.Nodup :=
 ur.mpr λi j hi hj cL e=>by
  have:=h.inj hl (sS hi) (by rw[e];exact sS hj)
  lia
theorem F2.r{α β:Type}{R:α->β->Prop}{as:List α}{bs:List β}(h:F2 R as bs):∀b∈bs,∃a,R a b:=by
 induction h with
 |nil=>exact λ_ m=>nomatch m
 |cons h _ ih =>
  intro b m;rcases tH.mp m with rfl|m
  .exact⟨_,h⟩
  .exact ih b m
structure Fun1(K:Kd)(D:List Fd)(g:Fd):Prop where
 ind:∀x∈g.ks++[g.k],x∈K.map (·.1)
 ex:∃kd ks,kd∈K/\g.ks=kd.1::ks/\g.z6.length=ks.length/\ks.length<=2/\g.rows.map (·.1)=kd.2.map (·.1)/\∀r∈g.rows,ROk K D g kd ks r
theorem Q0{K:Kd}(W:Well K){D:List Fd}{own m k1:Str}{names z6 ps kn:List Str}{kd:Str×List (Str×List Str)}{X:List (Str×List Str×T)}{e:T}(n2:(D.map Fd.nm).Nodup)(ho:own∉D.map Fd.nm)(hr:(m,ps)∈kd.2)(ln:names.length=ps.length)(lo:z6.length=kn.length)(l2:names.length<=2)(nd:(names++z6).Nodup)(nm:∀x∈names++z6,RX x)
  (te:Ty K (knN ((names++z6).zip (ps++kn))) (clO D own (kd.1::kn) k1 (((names.zip ps).filter λq=>decide (q.2=kd.1)).map (·.1))) 20 e k1):ROk K D ⟨own,kd.1::kn,k1,z6,X⟩ kd kn (m,names,e):=by
 have lN:(names++z6).length=(ps++kn).length:=by simp;lia
 have z1:=Mb lN;have z2:=L8 lN;have z3:=List.zip_append (l₁:=names) (l₂:=ps) (r₁:=z6) (r₂:=kn) ln;have val:∀x k,(x,k)∈(names++z6).zip (ps++kn)->BV ((names++z6).map ky) (ps.map .str++kn.map .str) (ky x)=some (.str k):=λx k h=>by have:=Sg (by rw[uY (by lia)];exact nd) h;rwa[z1,z2,sU (f:=T.str)]at this
 obtain⟨kf,iy⟩:∃kf:Str->Str,∀x k,(x,k)∈(names++z6).zip (ps++kn)->kf x=k:=⟨λx=>match BV ((names++z6).map ky) (ps.map .str++kn.map .str) (ky x)with|some (.str k)=>k|_=>"",λx k h=>by simp only[val x k h]⟩
 have n3:∀X,((D++[(⟨own,kd.1::kn,k1,z6,X⟩:Fd)]).map Fd.nm).Nodup:=λX=>by rw[sU];exact sT.mpr ⟨n2,by simp,λa ma b mb e=>ho (by have hb:b=own:=tD.mp mb;rw[<- hb,<- e];exact ma)⟩
 refine⟨l2,nd,nm,ps,_,_,kf,hr,ln,λz7 z8=>⟨W,val,λf qs k ts h=>?_⟩,λx mx=>?_,te⟩
 .rcases h with⟨g,mg,rfl,rfl,rfl⟩|⟨rfl,rfl,rfl,x,mx,ex⟩
  .exact⟨Lo (n3 X) (tm _ mg),λh=>absurd (tw.mpr ⟨g,mg,h⟩) ho⟩
  .refine⟨Lo (n3 X) (tB _ (tD.mpr rfl)),λ_=>⟨x,?_,ex⟩⟩;obtain⟨⟨a,b⟩,mq,rfl⟩:=tw.mp mx;obtain⟨mq,eq⟩:=uJ.mp mq;have eq:=tM eq;exact uJ.mpr ⟨(u9 mq).1,t9 ((iy a b (by rw[z3];exact tm _ mq)).trans eq)⟩
 .have:x∈(names.zip ps).map (·.1):=by rw[uY (by lia)];exact mx
  obtain⟨⟨a,b⟩,mq,rfl⟩:=tw.mp this;have mq:(a,b)∈(names++z6).zip (ps++kn):=by rw[z3];exact tm _ mq
  rw[iy a b mq];exact val a b mq
section
variable{K:Kd}(W:Well K){D:List Fd}
include W
theorem JU(num:Int):∃kd∈K,atI (K.map A7) (num%((K.map A7).length:Int))=some (A7 kd):=BS (λh=>by have:=W.lo;simp[h]at this) A7 num
theorem function(n2:(D.map Fd.nm).Nodup)(l2:D.length<=100)(hD:∀g∈D,∀x∈g.ks,x∈K.map (·.1))(hK:K.length<=3)(h3:∀g∈D,g.ks.length<=100){own:Str}(ho:own∉D.map Fd.nm)(num:Int) :
  ∃g:Fd,g.nm=own/\Fun1 K D g/\∃τ,Cb [vl (kT K),vl (.str own),vl (.dF (hkD D) (hvD D)),iv num]=.ok (.t g.t) τ:=by
 obtain⟨pl,wd,_,w1,w2,hw⟩:=words (num/11) (c:=4) (by lia);have Wd:Wds (num/11) wd:=⟨pl,w2⟩
 obtain⟨c,hc,ec⟩:∃c:Nat,c<=2/\1+num%3=((1+c:Nat):Int):=⟨(num%3).toNat,by lia,by lia⟩
 obtain⟨kds,hkds⟩:∃kds,F2 (λ(i:Nat) kd=>i<1+c/\kd∈K/\atI (K.map A7) (num/(3+2*(i:Int))%((K.map A7).length:Int))=some (A7 kd)) (List.range (1+c)) kds:=UJ λi m=>let⟨kd,a,b⟩:=JU W (num/(3+2*(i:Int)));⟨kd,uQ.mp m,a,b⟩
 obtain⟨k1,ni,su⟩:=JU W (num/100);have kl:0<(K.map A7).length:=by rw[tf];exact W.lo
 have lk:=hkds.len;rw[uj]at lk;obtain⟨kd,ks,rfl⟩:∃kd ks,kds=kd::ks:=by cases kds with|nil=>simp at lk|cons a b=>exact⟨a,b,rfl⟩
 suffices hs:∃r τ,Cb [vl (kT K),vl (.str own),vl (.dF (hkD D) (hvD D)),iv num]=.ok r τ/\∃g:Fd,r=.t g.t/\g.nm=own/\Fun1 K D g by obtain⟨_,τ,e,g,rfl,a,b⟩:=hs;exact⟨g,a,b,τ,e⟩
 apply JA;unfold Ga;trivial
 .lia
 trivial
 .apply UZ
  .trivial
  .exact F2.JaA (f:=λkd:Str×List (Str×List Str)=>T.str kd.1) (hkds.imp λi kd ⟨hi,m,h⟩=>by trivial)
  .simp;lia
 trivial
 .apply Zi (n:=2) (m:=1+(1+c))
  .rfl
  .simp at lk ⊢;lia
  .exact⟨by lia,by rw[tf];lia⟩
 trivial;rw[<- List.map_drop,<- List.map_take,show 1+(1+c)-2=c by lia,show(kd::ks).map (λkd=>T.str kd.1)=(kd.1::ks.map (·.1)).map T.str by simp];have mk:kd∈K:=let⟨_,_,h,_⟩:=hkds.r kd tL;h;have mks:∀x∈ks.map (·.1),x∈K.map (·.1):=λx mx=>by obtain⟨z,mz,rfl⟩:=tw.mp mx;obtain⟨_,_,h,_⟩:=hkds.r z (sW _ mz);exact tw.mpr ⟨z,h,rfl⟩
 obtain⟨z6,hoth⟩:∃z6,z6=(wd.drop 2).take c:=⟨_,rfl⟩
 obtain⟨kn,iW⟩:∃kn,kn=ks.map (·.1):=⟨_,rfl⟩
 have sI:kn.length=c:=by rw[iW];simp at lk ⊢;lia
 have lo:z6.length=c:=by rw[hoth];simp;lia
 rw[<- iW]at mks ⊢;rw[<- hoth];obtain⟨_,sA⟩:=makers W mk;apply Bi (I:=λ(Z:List ((Str×List Str)×Nat)) fs=>∃(rows:List (Str×List Str×T))(nu:Int)(y9 aU cz dR fN gB gC:Option Sl),fs=[vl (kT K),vl (.str own),vl (.dF (hkD D) (hvD D)),iv nu,vl (.lst (wd.map .str)),vl (.lst ((kd.1::kn).map .str)),vl (.str k1.1),vl (.lst (z6.map .str)),some (.own (.lst (rows.map rwT))),y9,aU,cz,dR,fN,gB,gC]/\(Fre y9/\Fre aU/\Fre cz/\Fre dR/\Fre fN/\Fre gB/\Fre gC)/\rows.map (·.1)=Z.map (λq=>q.1.1)/\∀r∈rows,∀X,ROk K D ⟨own,kd.1::kn,k1.1,z6,X⟩ kd kn r) (xs:=kd.2.zipIdx) (p:=λq=>.tup [.int q.2,EH q.1])
 case hi =>rw[<- KR EH kd.2 0];trivial
 case h0=>exact⟨[],_,_,_,_,_,_,_,_,rfl,⟨True.intro,True.intro,True.intro,True.intro,True.intro,True.intro,True.intro⟩,rfl,λ_ m=>nomatch m⟩
 case st =>
  rintro Z ⟨⟨m,ps⟩,i⟩ R _ e ⟨rows,nu,y9,aU,cz,dR,fN,gB,gC,rfl,⟨f9,f10,f11,f12,f13,f14,f15⟩,hrw,z9⟩
  have hi:=List.mk_mem_zipIdx_iff_getElem?.mp (mem_mid e);have hr:=uk hi;have hi:=(sY.mp hi).1;have h4:=(W.rw kd mk).2;have qW:ps.length<=2:=W.two kd mk _ hr;obtain⟨v,_,hm⟩:=mix (nu%10^18) (k:=70+i) (by lia);rw[show((70+i:Nat):Int)=70+(i:Int) by lia]at hm;have nd:(wd.take ps.length++z6).Nodup:=by
   refine List.Nodup.sublist ?_ (Wd.nd (by lia));rw[hoth,<- vg 2 wd];refine List.Sublist.append ?_ ?_
   .rw[vg];exact List.take_sublist_take_left qW
   .rw[vg];exact uU _ _
  obtain⟨nms,hnms⟩:∃nms,nms=wd.take ps.length:=⟨_,rfl⟩
  have ln:nms.length=ps.length:=by rw[hnms,uh];lia
  rw[<- hnms]at nd;have lw:∀x∈nms++z6,Lw x:=λx mx=>Wd.lw (by
   rcases sZ.mp mx with mx|mx
   .rw[hnms]at mx;exact uz mx
   .rw[hoth]at mx;exact uW (uz mx))
  have nm:∀x∈nms++z6,RX x:=λx mx=>Fs (lw x mx)
  have lN:(nms++z6).length=(ps++kn).length:=by simp;lia
  have z1:=Mb lN;have z2:=L8 lN;have z3:=List.zip_append (l₁:=nms) (l₂:=ps) (r₁:=z6) (r₂:=kn) ln;have bd:=λdg=>body (N:=(nms++z6).zip (ps++kn)) (D:=D) W (by rw[uY (by lia)];exact nd) n2 (by rw[vn];simp;lia) l2 (λq mq=>by
   rcases sZ.mp (u9 mq).2 with h|h
   .exact W.za kd mk _ hr _ h
   .exact mks _ h) hD hK h3 ni (own:=own) (w0:=kd.1) (ws:=kn) (ls:=((nms.zip ps).filter λq=>decide (q.2=kd.1)).map (·.1)) mks (by lia) (by rw[tf];exact tQ (List.length_filter_le _ _) (by rw[vn];lia)) (λx mx=>by
   obtain⟨⟨a,b⟩,mq,rfl⟩:=tw.mp mx;obtain⟨mq,eq⟩:=uJ.mp mq;rw[z3,<- tM eq];exact tm _ mq) (λq mq h=>by
   have:=(lw _ (u9 mq).1).lo;rw[h]at this;exact absurd this (by decide +kernel)) dg
  have ba:∀e,Ty K (knN ((nms++z6).zip (ps++kn))) (clO D own (kd.1::kn) k1.1 (((nms.zip ps).filter λq=>decide (q.2=kd.1)).map (·.1))) 20 e k1.1->∀r∈rows++[(m,nms,e)],∀X,ROk K D ⟨own,kd.1::kn,k1.1,z6,X⟩ kd kn r:=λe te r mr X=>by
   rcases sZ.mp mr with mr|mr
   .exact z9 r mr X
   .rw[tD.mp mr];exact Q0 W n2 ho hr ln (by lia) (by lia) nd nm te
  obtain⟨e1,⟨_,b1⟩,t1⟩:=bd (nu/10^40);obtain⟨e2,⟨_,b2⟩,t2⟩:=bd v;rw[z1,z2,tU,sU (f:=T.str)]at b1 b2;have lr:rows.length<4:=by
   have h1:=Bu e;have h2:=congrArg List.length hrw;simp at h1 h2
   lia
  subst hnms;dsimp only;trivial
  .exact congrArg some sU.symm
  trivial
  .exact nd
  .simp;lia
  trivial
  .rw[Ed];apply Od
   .trivial
   .trivial
   .exact λ_=>rfl
   .intro q mq;trivial
   .intro q mq _;trivial
   .simp;lia
  trivial
  .exact⟨rows++[(m,wd.take ps.length,e1)],_,_,_,_,_,_,_,_,by rw[sU (f:=rwT)];rfl,⟨Al,Al,Al,Al,Al,Al,Al⟩,by rw[sU,sU,hrw];rfl,ba e1 t1⟩
  trivial;exact⟨rows++[(m,wd.take ps.length,e2)],_,_,_,_,_,_,_,_,by rw[sU (f:=rwT)];rfl,⟨Al,Al,Al,Al,Al,Al,Al⟩,by rw[sU,sU,hrw];rfl,ba e2 t2⟩
 case k =>
  rintro _ ⟨rows,nu,y9,aU,cz,dR,fN,gB,gC,rfl,⟨f9,f10,f11,f12,f13,f14,f15⟩,hrw,z9⟩
  trivial;refine⟨⟨own,kd.1::kn,k1.1,z6,rows⟩,rfl,rfl,λx mx=>?_,kd,kn,mk,rfl,by show z6.length=_;lia,by lia,?_,λr mr=>z9 r mr _⟩
  .rcases sZ.mp mx with mx|mx
   .rcases tH.mp mx with rfl|mx
    .exact tw.mpr ⟨kd,mk,rfl⟩
    .exact mks x mx
   .rw[tD.mp mx];exact tw.mpr ⟨k1,ni,rfl⟩
  .show rows.map (·.1)=_;have:=congrArg (List.map (·.1)) (List.zipIdx_map_fst 0 kd.2);rw[tU]at this;exact hrw.trans this
end
section
variable{K:Kd}(W:Well K)
include W
theorem Qf{own:Str}{kd:Str×List (Str×List Str)}(hk:kd∈K){ws:List Str}(lw:ws.length=2)(nd:ws.Nodup)(nm:∀x∈ws,RX x):Fun1 K [] ⟨own,[kd.1],kd.1,[],kd.2.map λr=>(r.1,ws.take r.2.length,exP "make" r.1 ((ws.zip r.2).map (cpE own kd.1)))⟩:=by
 have mk:kd.1∈K.map (·.1):=tw.mpr ⟨kd,hk,rfl⟩;refine⟨λx mx=>?_,kd,[],hk,rfl,rfl,by simp,by rw[tU];rfl,λr mr=>?_⟩
 .simp at mx;rcases mx with rfl|rfl<;>exact mk
 .obtain⟨⟨m,ps⟩,m2,rfl⟩:=tw.mp mr;clear mr;dsimp only;have l2:ps.length<=2:=W.two kd hk (m,ps) m2;have tk:(ws.take ps.length).length=ps.length:=by rw[uh];lia
  have zz:ws.zip ps=(ws.take ps.length).zip ps:=by
   conv=>lhs;rw[<- vg ps.length ws]
   rw[<- ud ps,List.zip_append (by rw[ud];exact tk)];simp
  refine Q0 W (by simp) (by simp) m2 tk rfl (by lia) (by simpa using nd.sublist (uU _ _)) (λx mx=>nm x (uz (by simpa using mx))) ?_;refine .inr (.inl ⟨m,ps,_,⟨kd,hk,rfl,m2⟩,?_,rfl⟩);rw[zz];have go:∀(N:List (Str×Str)),(∀q∈N,q∈(ws.take ps.length).zip ps)->F2 (Ty K (knN ((ws.take ps.length++[]).zip (ps++[]))) (clO [] own [kd.1] kd.1 ((((ws.take ps.length).zip ps).filter λq=>decide (q.2=kd.1)).map (·.1))) 19) (N.map (cpE own kd.1)) (N.map (·.2)):=by
   intro N
   induction N with
   |nil=>exact λ_=>.nil
   |cons q N ih =>
    intro h;refine .cons ?_ (ih λq m=>h q (sW _ m));have mq:=h q tL;have nj:q∈(ws.take ps.length++[]).zip (ps++[]):=by simpa using mq
    show Ty _ _ _ 19 (cpE own kd.1 q) q.2;unfold cpE;by_cases hq:q.2=kd.1
    .rw[if_pos hq,hq];refine .inr (.inr ⟨own,[kd.1],_,.inr ⟨rfl,rfl,rfl,q.1,tw.mpr ⟨q,uJ.mpr ⟨mq,t9 hq⟩,rfl⟩,rfl⟩,.cons (.inl ⟨q.1,?_,rfl⟩) .nil,rfl⟩);rw[<- hq];exact nj
    .rw[if_neg hq];exact .inl ⟨q.1,nj,rfl⟩
  have:=go ((ws.take ps.length).zip ps) (λ_ m=>m);rwa[List.map_snd_zip (by lia)]at this
end
mutual
theorem KC:∀ts:List T,(∀t∈ts,noD t=true)->Rk ts=true
 | [],_=>by simp[Rk]
 |t::ts,h=>by simp[Rk,h t tL,KC ts λt m=>h t (sW _ m)]
end
theorem Fo{s:Str}:noD (.str s)=true:=by simp[noD]
theorem Ee{ts:List T}(h:∀t∈ts,noD t=true):noD (.tup ts)=true:=by rw[noD];exact KC ts h
theorem Hs(xs:List Str):noD (.tup (xs.map .str))=true:=Ee λt m=>by obtain⟨x,_,rfl⟩:=tw.mp m;exact Fo
theorem Ty.noD{K:Kd}{kn:Str->Str->Prop}{cl:Str->List Str->Str->List T->Prop}:∀{n:Nat}{t:T}{k:Str},Ty K kn cl n t k->noD t=true
 |n+1,t,k,h=>by
  rcases h with⟨x,a,rfl⟩|⟨f,ps,ts,a,b,rfl⟩|⟨f,ps,ts,a,b,rfl⟩
  .simp[exN,FL.noD,FL.Rk]
  all_goals
   have:∀t∈ts,FL.noD t=true:=λt m=>by obtain⟨p,h⟩:=b.flip.r t m;exact Ty.noD h
   unfold exP;exact Ee λt m=>by
    simp at m;rcases m with rfl|rfl|rfl
    .exact Fo
    .exact Fo
    .exact Ee this
theorem XS{K:Kd}{D:List Fd}{g:Fd}(h:Fun1 K D g):noD g.t=true:=by
 obtain⟨kd,ks,_,_,_,_,_,hr⟩:=h.ex;refine Ee λt m=>?_
 simp only[tH,ue,or_false]at m;rcases m with rfl|rfl|rfl|rfl|rfl
 .exact Fo
 .exact Hs _
 .exact Fo
 .exact Hs _
 .refine Ee λt m=>?_
  obtain⟨r,mr,rfl⟩:=tw.mp m;obtain⟨ps,kn,cl,kf,_,_,_,_,ht⟩:=(hr r mr).ex;exact Ee λt m=>by
   simp only[tH,ue,or_false]at m;rcases m with rfl|rfl
   .exact Hs _
   .exact ht.noD
theorem OO{α:Type}{A B G:List α}{x g:α}(h:A++x::B=G++[g]):(A=G/\x=g)\/∃B',A++x::B'=G:=by
 rcases List.eq_nil_or_concat B with rfl|⟨B',b,rfl⟩
 .have:=List.append_inj' h rfl;exact .inl ⟨this.1,by simpa using this.2⟩
 .have h:(A++x::B')++[b]=G++[g]:=by simpa using h
  exact .inr ⟨B',(List.append_inj' h rfl).1⟩
section
variable{K:Kd}(W:Well K)
include W
theorem DX{ns:List Int}{m:Int}{ws:List Str}(hK:K.length<=3)(ju:ws.length=16)(hw:Wds m ws)(iA:∀(j:Nat) s,ws[12+j]?=some s->s∉mks K)(h1:∃τ,Bn [iv m,iv 16]=.ok (.nw (.lst (ws.map T.str))) τ)(h2:∃τ,Bz [iv (ns.getD 2 0),iv 3]=.ok (.t (.int m)) τ) :
  ∃G:List Fd,G≠[]/\G.length<=4/\G.map Fd.nm=(ws.drop 12).take G.length/\(∀A g B,A++g::B=G->FOk K A g)/\∃τ,BO [vl (.zY (ns.map T.int)),vl (kT K)]=.ok (.nw (.lst (G.map Fd.t))) τ:=by
 obtain⟨_,h1⟩:=h1;obtain⟨_,h2⟩:=h2;have c2:=Ce ns 2;have c6:=Ce ns 6;obtain⟨num,_,h6⟩:=mix (ns.getD 6 0) (k:=5) (by lia);obtain⟨kd,mk,fJ⟩:=JU W num;have kl:0<(K.map A7).length:=by rw[tf];exact W.lo
 obtain⟨pl,vs,_,v1,v2,hv⟩:=words (num/5) (c:=2) (by lia);have Vs:Wds (num/5) vs:=⟨pl,v2⟩
 obtain⟨own,hown⟩:∃s,ws[12]?=some s:=⟨_,sS (by lia)⟩
 have a0:atI ((ws.drop 12).map T.str) 0=some (.str own):=BH (j:=0) (by rw[tR,List.getElem?_drop];simp[hown]);obtain⟨c,hc,ec⟩:∃c:Nat,c<=3/\num/3%4=(c:Int):=⟨(num/3%4).toNat,by lia,by lia⟩
 suffices hs:∃o τ,BO [vl (.zY (ns.map T.int)),vl (kT K)]=.ok (.nw o) τ/\∃G:List Fd,o=.lst (G.map Fd.t)/\G≠[]/\G.length<=4/\G.map Fd.nm=(ws.drop 12).take G.length/\(∀A g B,A++g::B=G->FOk K A g) by obtain⟨_,τ,e,G,rfl,a,b,c,d⟩:=hs;exact⟨G,a,b,c,d,τ,e⟩
 have h4:=(W.rw kd mk).2;apply HX;unfold EE;trivial
 .apply Zj (n:=12)
  .rw[tf];lia
  .rfl
 rw[<- List.map_drop];trivial
 .apply Ka
  .trivial
  .trivial
  .exact λ_=>rfl
  .intro r mr;have:=W.two kd mk r mr;obtain⟨_,h⟩:=Qv (own:=own) (k:=kd.1) (m:=r.1) (ps:=r.2) (ws:=vs) (by lia) (by lia);trivial
  .lia
 trivial;have dn:(ws.drop 12).Nodup:=(hw.nd (by lia)).sublist (List.drop_sublist _ _);have dl:(ws.drop 12).length=4:=by rw[uN];lia
 have ay:∀(G:List Fd)(g:Fd),G.map Fd.nm=(ws.drop 12).take G.length->G.length<4->(ws.drop 12)[G.length]?=some g.nm->Fun1 K G g->FOk K G g:=λG g e l h F=>by have mg:g.nm∈ws:=uW (uk h);refine⟨Fs (hw.lw mg),λm=>?_,iA G.length _ (by rwa[List.getElem?_drop]at h),F.ind,F.ex⟩;rw[e]at m;obtain⟨i,hi,ei⟩:=vC.mp m;have:=ur.mp dn i G.length (by lia) (by lia) (by lia);rw[ei]at this;exact this (sY.mp h).2.symm
 apply Bi (I:=λ(Z:List Nat) fs=>∃(G:List Fd)(aU cz:Option Sl),fs=[vl (.zY (ns.map T.int)),vl (kT K),vl (.lst ((ws.drop 12).map .str)),iv num,vl (.str kd.1),vl (.lst (kd.2.map EH)),vl (.lst (vs.map .str)),vl (.lst (kd.2.map λr=>.tup [.tup ((vs.take r.2.length).map .str),exP "make" r.1 ((vs.zip r.2).map (cpE own kd.1))])),some (.own (.lst (G.map Fd.t))),some (.own (.l (hkD G) (hvD G))),aU,cz]/\Fre aU/\Fre cz/\G.length=1+Z.length/\G.map Fd.nm=(ws.drop 12).take G.length/\∀A g B,A++g::B=G->FOk K A g) (xs:=List.range c) (p:=λi=>.int (i:Nat))
 case hi =>
  trivial
  lia
 case h0 =>
  have ow:(ws.drop 12)[0]?=some own:=by rw[List.getElem?_drop];exact hown
  refine⟨[⟨own,[kd.1],kd.1,[],kd.2.map λr=>(r.1,vs.take r.2.length,exP "make" r.1 ((vs.zip r.2).map (cpE own kd.1)))⟩],none,none,by simp only[sX,uL,Fd.t,tU];rfl,True.intro,True.intro,rfl,?_,λA g B e=>?_⟩
  .cases hd:ws.drop 12 with|nil=>rw[hd]at dl;cases dl|cons a l=>rw[hd]at ow;cases ow;rfl
  .cases A with|nil =>obtain⟨rfl,rfl⟩:=List.cons.inj e;exact ay [] _ rfl (by decide) ow (Qf W mk v1 (Vs.nd (by lia)) λx mx=>Fs (Vs.lw mx))|cons a A=>cases A<;>cases e
 case st =>
  rintro Z i R _ e ⟨G,aU,cz,rfl,f10,f11,lG,nG,hG⟩
  have lZ:=Bu e;rw[uj]at lZ;have hi:i=Z.length:=by have:=congrArg (λl:List Nat=>l[Z.length]?) e;simp only[uH (tJ _),Nat.sub_self,va]at this;rw[vp lZ]at this;exact Option.some.inj this
  subst hi;obtain⟨own',bC⟩:∃s,(ws.drop 12)[G.length]?=some s:=⟨_,sS (by lia)⟩
  have a1:atI ((ws.drop 12).map T.str) (1+(Z.length:Int))=some (.str own'):=by rw[show(1:Int)+(Z.length:Int)=(G.length:Nat) by lia];exact BH (by rw[tR,bC];rfl)
  have ck:=Ce ns (7+Z.length);rw[show((7+Z.length:Nat):Int)=7+(Z.length:Int) by lia]at ck;obtain⟨nu,_,hm⟩:=mix (ns.getD (7+Z.length) 0) (k:=7) (by lia);have iK:∀g∈G,∃A,FOk K A g:=λg mg=>let⟨A,B,e⟩:=vc mg;⟨A,hG A g B e.symm⟩
  have iJ:(G.map Fd.nm).Nodup:=by rw[nG];exact dn.sublist (uU _ _)
  have new:own'∉G.map Fd.nm:=λm=>by rw[nG]at m;obtain⟨i,hi,ei⟩:=vC.mp m;have:=ur.mp dn i G.length (by lia) (by lia) (by lia);rw[ei]at this;exact this (sY.mp bC).2.symm
  obtain⟨g,rfl,hF,_,gh⟩:=function (D:=G) W iJ (by lia) (λg mg x mx=>by obtain⟨A,O⟩:=iK g mg;exact O.ind x (tm _ mx)) hK (λg mg=>by obtain⟨A,O⟩:=iK g mg;obtain⟨kd,ks,_,e,_,h,_⟩:=O.ex;rw[e];simp;lia) new nu;have nD:=XS hF;have sG:=kyD new;trivial;refine⟨G++[g],_,_,by simp only[hkD,hvD,sU];rfl,Al,Al,by simp;lia,?_,λA g' B e=>?_⟩
  .rw[sU,nG,tY,uS,List.take_add_one,bC];rfl
  .rcases OO e with⟨rfl,rfl⟩|⟨B',e⟩
   .exact ay A g' nG (by lia) bC hF
   .exact hG A g' B' e
 case k =>
  rintro _ ⟨G,aU,cz,rfl,f10,f11,lG,nG,hG⟩
  trivial;rw[uj]at lG;exact Wb rfl ⟨G,rfl,λh=>by rw[h,vo]at lG;lia,by lia,nG,hG⟩
end
theorem YV{K:Kd}{m:Str}{v:T}(hv:∀kd∈K,∀r∈kd.2,r.1=m->v=.tup [.str kd.1,.tup (r.2.map .str)])(h0:m∉mks K->v=.o):∃τ,EW [vl (kT K),vl (.str m)]=.ok (.t v) τ:=by
 have inner:∀kd∈K,∀y4 y5,Fre y4->Fre y5->Sat (λso=>(m∈kd.2.map (·.1)/\∃τ,so=.ret (.t v) τ)\/m∉kd.2.map (·.1)/\∃y4 y5,so=.nx [vl (kT K),vl (.str m),vl (.str kd.1),vl (.lst (kd.2.map EH)),y4,y5]/\Fre y4/\Fre y5) (BC (itU (fz (Aa 3))) (AH 2 (Af (tgN 4) (Af (tgN 5) AD))) (ifS (asB (Ae (gEq false) (Aa 4) (Aa 1))) (retS (An AX (Ab (fz (Aa 2)) (Ab (fz (Aa 5)) Ai)))) nxS) [vl (kT K),vl (.str m),vl (.str kd.1),vl (.lst (kd.2.map EH)),y4,y5]):=by
  intro kd mk y4 y5 f4 f5;apply Wg (xs:=kd.2) (p:=EH) (ok:=λr=>if r.1=m then some "" else none) (I:=λfs=>∃y4 y5,fs=[vl (kT K),vl (.str m),vl (.str kd.1),vl (.lst (kd.2.map EH)),y4,y5]/\Fre y4/\Fre y5) (E:=λ_ so=>∃τ,so=.ret (.t v) τ)
  case hi=>trivial
  case hE=>rintro _ _ ⟨τ,rfl⟩;exact True.intro
  case h1=>exact⟨_,_,rfl,f4,f5⟩
  case s0 =>
   rintro r mr ho _ ⟨y4,y5,rfl,f4,f5⟩
   have h:¬r.1=m:=λh=>by simp[h]at ho
   trivial;exact⟨_,_,rfl,Al,Al⟩
  case s1 =>
   rintro r mr c ho _ ⟨y4,y5,rfl,f4,f5⟩
   have h:r.1=m:=by by_cases h:r.1=m;exact h;simp[h]at ho
   have hv:=hv kd mk r mr h;trivial
   .exact q_i ⟨_,by rw[hv]⟩
   trivial
  case k0 =>
   rintro e _ ⟨y4,y5,rfl,f4,f5⟩
   exact .inr ⟨λmm=>by obtain⟨r,mr,e2⟩:=tw.mp mm;have:=vt.mp e r mr;simp[e2]at this,y4,y5,rfl,f4,f5⟩
  case k1 =>
   intro c e so h;obtain⟨r,mr,er⟩:=List.exists_of_findSome?_eq_some e;by_cases hr:r.1=m
   .exact .inl ⟨tw.mpr ⟨r,mr,hr⟩,h⟩
   .simp[hr]at er
 apply AL;unfold Lc;apply Hg (xs:=K) (p:=A7) (ok:=λkd=>if m∈kd.2.map (·.1)then some "" else none) (I:=λfs=>∃y2 y3 y4 y5,fs=[vl (kT K),vl (.str m),y2,y3,y4,y5]/\Fre y2/\Fre y3/\Fre y4/\Fre y5) (E:=λ_ so=>∃τ,so=.ret (.t v) τ)
 case hi=>trivial
 case hE=>rintro _ _ ⟨τ,rfl⟩;exact True.intro
 case h1=>exact⟨none,none,none,none,rfl,True.intro,True.intro,True.intro,True.intro⟩
 case s0 =>
  rintro kd mk ho _ ⟨y2,y3,y4,y5,rfl,f2,f3,f4,f5⟩
  trivial;refine Q4 (inner kd mk y4 y5 f4 f5) ?_
  rintro _ (⟨h,_⟩|⟨_,y4,y5,rfl,f4,f5⟩)
  .rw[if_pos h]at ho;cases ho
  .exact⟨_,rfl,_,_,_,_,rfl,Al,Al,f4,f5⟩
 case s1 =>
  rintro kd mk c ho _ ⟨y2,y3,y4,y5,rfl,f2,f3,f4,f5⟩
  trivial;refine Q4 (inner kd mk y4 y5 f4 f5) ?_
  rintro _ (⟨_,h⟩|⟨h,_⟩)
  .exact h
  .rw[if_neg h]at ho;cases ho
 case k0 =>
  rintro e _ ⟨y2,y3,y4,y5,rfl,f2,f3,f4,f5⟩
  rw[h0 λmm=>by obtain⟨kd,mk,hm⟩:=uA.mp mm;have:=vt.mp e kd mk;rw[if_pos hm]at this;cases this];trivial
 case k1 =>
  rintro c e _ ⟨τ,rfl⟩
  exact q_o (SD True.intro rfl)
abbrev scT(z7 z8:Addr)(K:Kd)(N:List (Str×Str))(G:List Fd):T:=.ins z7 SF [stT z8 K,.l (hkD G) (hvD G),.l (nK N) (nV N),.o,.lst []]
section
variable{z7 z8:Addr}{K:Kd}{N:List (Str×Str)}{G:List Fd}{x m:Str}{t:T}
theorem JaF(h:BV (nK N) (nV N) (.inr x:Key)=some t):∃τ,A5 z7 [vl (scT z7 z8 K N G),vl (.str x)]=.ok (.t t) τ:=by apply AL;unfold BL;trivial
theorem JaG(h:BV (nK N) (nV N) (.inr x:Key)=none)(hx:BX x=true):∃τ,A5 z7 [vl (scT z7 z8 K N G),vl (.str x)]=.exc "NoName" τ:=by apply Ck;unfold BL;trivial
theorem JaM(W:Well K){ps:List Str}{kd:Str×List (Str×List Str)}(hk:kd∈K)(hr:(m,ps)∈kd.2):∃τ,Ap z7 z8 [vl (scT z7 z8 K N G),vl (.str "make"),vl (.str m)]=.ok (.t (.tup [.tup (ps.map .str),.str kd.1])) τ:=by obtain⟨_,h1⟩:=E5 (C:=z8) (hs:=CO K) W hk hr;have h2:=Mv (C:=z8) W hk hr;apply AL;unfold AN;trivial
theorem JaN(h:m∉mks K)(hx:BX m=true):∃τ,Ap z7 z8 [vl (scT z7 z8 K N G),vl (.str "make"),vl (.str m)]=.exc "NoMaker" τ:=by
 have h:=A3 (ts:=MI K) (show(.inr m:Key)∉Bt K from DV h);obtain⟨_,e⟩:∃τ,Bf z8 [vl (stT z8 K),vl (.str m)]=.exc "NoMaker" τ:=by apply Ck;unfold CU stT B4;trivial
 apply Ck;unfold AN;apply JB
 .trivial
 .intro _;apply Q3
  .apply UP;apply Yw;apply UR;apply Vi;apply e_m1
   .trivial
   .trivial
   .exact e
   .trivial
  exact OX
 .trivial
theorem JaO(h:BV (hkD G) (hvD G) (.inr m:Key)=some t):∃τ,Ap z7 z8 [vl (scT z7 z8 K N G),vl (.str "call"),vl (.str m)]=.ok (.t t) τ:=by apply AL;unfold AN;trivial
theorem JaP(h:BV (hkD G) (hvD G) (.inr m:Key)=none)(hx:BX m=true):∃τ,Ap z7 z8 [vl (scT z7 z8 K N G),vl (.str "call"),vl (.str m)]=.exc "NoFunction" τ:=by apply Ck;unfold AN;trivial
end
noncomputable def okZ(z:T×Str×Bool×Str):Option Str:=if z.2.2.1=true then some z.2.2.2 else if z.2.2.2=z.2.1 then none else some "BadKind"
theorem WW{z:T×Str×Bool×Str}(h:okZ z=none):z.2.2.1=false/\z.2.2.2=z.2.1:=by
 unfold okZ at h;split at h
 .cases h
 .split at h
  .exact⟨by simpa using ‹¬z.2.2.1=true›,‹_›⟩
  .cases h
theorem Tg{z:T×Str×Bool×Str}{c:Str}(h:okZ z=some c):(z.2.2.1=true/\z.2.2.2=c)\/z.2.2.1=false/\¬z.2.2.2=z.2.1/\c="BadKind":=by
 unfold okZ at h;split at h
 .exact .inl ⟨‹_›,Option.some.inj h⟩
 .split at h
  .cases h
  .exact .inr ⟨by simpa using ‹¬z.2.2.1=true›,‹_›,(Option.some.inj h).symm⟩
theorem Xb{P:T->Bool->Str->Prop}:∀{ts:List T}{ps:List Str},ts.length=ps.length->(∀t∈ts,∃b c,P t b c)->∃zs:List (T×Str×Bool×Str),ts=zs.map (·.1)/\ps=zs.map (·.2.1)/\∀z∈zs,P z.1 z.2.2.1 z.2.2.2
 | [],[],_,_=>⟨[],rfl,rfl,nofun⟩
 |t::ts,p::ps,h,q=>by
  obtain⟨zs,rfl,rfl,hz⟩:=Xb (ts:=ts) (ps:=ps) (by simpa using h) λt m=>q t (sW _ m)
  obtain⟨b,c,hp⟩:=q t tL;exact⟨(t,p,b,c)::zs,rfl,rfl,λz m=>(tH.mp m).elim (λe=>by rw[e];exact hp) (hz z)⟩
theorem O6:∀zs:List (T×Str×Bool×Str),FL.pairs (zs.map (·.1)) ((zs.map (·.2.1)).map .str)=zs.map (λz=>.tup [z.1,.str z.2.1])/\FL.pairs ((zs.map (·.2.1)).map .str) (zs.map (·.1))=zs.map λz=>.tup [.str z.2.1,z.1]
 | []=>⟨rfl,rfl⟩
 |z::zs=>⟨by simp only[sX,FL.pairs,(O6 zs).1],by simp only[sX,FL.pairs,(O6 zs).2]⟩
def Wx(l:Nat):Nat->T->Prop
 |0,_=>False
 |n+1,t=>(∃x,Lw x/\t=exN x)\/∃(f m:Str)(ts:List T),(f="make"\/f="call")/\Lw m/\ts.length<=l/\(∀u∈ts,Wx l n u)/\t=exP f m ts
section
variable(z7 z8:Addr){K:Kd}(W:Well K){N:List (Str×Str)}{G:List Fd}(n1:(N.map (·.1)).Nodup)(n2:(G.map Fd.nm).Nodup)(hK:∀kd∈K,Lw kd.1)(hN:∀p∈N,p.2∈K.map (·.1))(hG:∀g∈G,g.k∈K.map (·.1)/\g.ks.length<=100/\∀x∈g.ks,Lw x)
abbrev fK(K:Kd)(N:List (Str×Str))(G:List Fd)(n:Nat)(t:T):Out Rv:=C8 n [vl (kT K),vl (.l (nK N) (nV N)),vl (.l (hkD G) (hvD G)),vl (.str ""),vl (.lst []),vl t]
def Kst(K:Kd)(N:List (Str×Str))(G:List Fd)(n:Nat)(t:T)(b:Bool)(c:Str):Prop:=(∃τ,fK K N G n t=.ok (.t (.str c)) τ)/\(b=false->c∈K.map (·.1)/\∃τ,Aq z7 z8 n [vl (scT z7 z8 K N G),vl t]=.ok (.t (.str c)) τ)/\(b=true->c∈Qo/\∃τ,Aq z7 z8 n [vl (scT z7 z8 K N G),vl t]=.exc c τ)
include W n1 n2 hK hN hG
theorem both{l:Nat}(hl:l<=100):∀(n:Nat)(t:T),Wx l n t->∃b c,Kst z7 z8 K N G n t b c
 |n+1,t,h=>by
  have jQ:∀c∈K.map (·.1),Lw c:=λc mc=>by obtain⟨kd,mk,rfl⟩:=tw.mp mc;exact hK kd mk
  rcases h with⟨x,hx,rfl⟩|⟨f,m,ts,hf,hm,lt,ht,rfl⟩
  .unfold exN;by_cases h:x∈N.map (·.1)
   .obtain⟨p,mp,rfl⟩:=tw.mp h;have h:=Sg n1 mp;obtain⟨_,e⟩:=JaF (z7:=z7) (z8:=z8) (K:=K) (G:=G) h;refine⟨false,p.2,?_,λ_=>⟨hN p mp,?_⟩,nofun⟩
    .apply AL;unfold DE;trivial
    .apply AL;unfold AK;trivial
   .have h:=A3 (ts:=nV N) (show(.inr x:Key)∉nK N by have:=DV h;rwa[tU]at this);obtain⟨_,e⟩:=JaG (z7:=z7) (z8:=z8) (K:=K) (G:=G) h (Na hx);refine⟨true,"NoName",?_,nofun,λ_=>⟨by decide +kernel,?_⟩⟩
    .apply AL;unfold DE;trivial
    .apply Ck;unfold AK;apply JB
     .trivial
     .intro _;apply Q3
      .apply UP;apply Yx
       .trivial
       .exact e
      exact OX
     .trivial
  .have ez:=Na hm;have h:¬m="":=JaC hm;obtain⟨v,hv1,hv2⟩:∃v:T,(∀kd∈K,∀r∈kd.2,r.1=m->v=.tup [.str kd.1,.tup (r.2.map .str)])/\(m∉mks K->v=.o):=by
    by_cases hmm:m∈mks K
    .obtain⟨kd,mk,hr⟩:=uA.mp hmm;obtain⟨r,mr,rfl⟩:=tw.mp hr;exact⟨.tup [.str kd.1,.tup (r.2.map .str)],λk7 mk' r' nq e=>by have:=Mi W mk mr;have e1:=Mi W mk' nq;have e2:=Kk W mk mr;have e3:=Kk W mk' nq;rw[e]at e1 e3;rw[Option.some.inj (this.symm.trans e1),Option.some.inj (e2.symm.trans e3)],λh=>absurd hmm h⟩
    .exact⟨.o,λkd mk r mr e=>absurd (e▸JR mk mr) hmm,λ_=>rfl⟩
   obtain⟨_,lm⟩:=YV hv1 hv2;have hd:(∃(k:Str)(ps:List Str),k∈K.map (·.1)/\(ps.length<=100/\∀x∈ps,Lw x)/\(f="make"/\v=.tup [.str k,.tup (ps.map .str)]\/f="call"/\BV (hkD G) (hvD G) (.inr m:Key)=some (.tup [.tup (ps.map .str),.str k]))/\∃τ,Ap z7 z8 [vl (scT z7 z8 K N G),vl (.str f),vl (.str m)]=.ok (.t (.tup [.tup (ps.map .str),.str k])) τ)\/∃c∈Qo,(f="make"/\v=.o/\c="NoMaker"\/f="call"/\BV (hkD G) (hvD G) (.inr m:Key)=none/\c="NoFunction")/\∃τ,Ap z7 z8 [vl (scT z7 z8 K N G),vl (.str f),vl (.str m)]=.exc c τ:=by
    rcases hf with rfl|rfl
    .by_cases hmm:m∈mks K
     .obtain⟨kd,mk,hr⟩:=uA.mp hmm;obtain⟨r,mr,rfl⟩:=tw.mp hr;exact .inl ⟨kd.1,r.2,tw.mpr ⟨kd,mk,rfl⟩,⟨by have:=W.two kd mk r mr;lia,λx mx=>by obtain⟨kd,m1,rfl⟩:=tw.mp (W.za kd mk r mr x mx);exact hK kd m1⟩,.inl ⟨rfl,hv1 kd mk r mr rfl⟩,JaM W mk mr⟩
     .exact .inr ⟨_,by decide +kernel,.inl ⟨rfl,hv2 hmm,rfl⟩,JaN hmm ez⟩
    .by_cases hmm:m∈G.map Fd.nm
     .obtain⟨g,mg,rfl⟩:=tw.mp hmm;exact .inl ⟨g.k,g.ks,(hG g mg).1,(hG g mg).2,.inr ⟨rfl,Lo n2 mg⟩,JaO (Lo n2 mg)⟩
     .have hn:=A3 (ts:=hvD G) (kyD hmm);exact .inr ⟨_,by decide +kernel,.inr ⟨rfl,hn,rfl⟩,JaP hn ez⟩
   clear hv1 hv2;have gh:¬f="name":=by rcases hf with rfl|rfl;exact HB.2.1;exact HB.2.2.1
   unfold exP;rcases hd with⟨k,ps,hk,lp,a,⟨_,e⟩⟩|⟨c,mc,a,⟨_,e⟩⟩
   .by_cases hl:ts.length=ps.length
    .obtain⟨zs,rfl,rfl,hz⟩:=Xb hl λt mt=>both (by assumption) n t (ht t mt)
     have lk:∃τ,fK K N G (n+1) (.tup [.str f,.str m,.tup (zs.map (·.1))])=.ok (.t (.str ((zs.findSome? okZ).getD k))) τ:=by
      apply AL;unfold DE;apply Ci
      .trivial
      apply HY
      .trivial
      .simp[gh]
      apply MD;apply Ci
      .trivial
      apply ME (J:=λv:T=>[vl (kT K),vl (.l (nK N) (nV N)),vl (.l (hkD G) (hvD G)),vl (.str ""),vl (.lst []),vl (.tup [.str f,.str m,.tup (zs.map (·.1))]),vl (.str f),vl (.str m),vl v,vl (.str k),vl (.tup ((zs.map (·.2.1)).map .str)),none,none,none]) (P:=λ_=>True)
      .trivial
      .intro hb;rcases a with⟨rfl,rfl⟩|⟨rfl,hv⟩
       .exact⟨_,True.intro,by trivial⟩
       .simp[HB]at hb
      .intro hb;rcases a with⟨rfl,rfl⟩|⟨rfl,hv⟩
       .simp at hb
       .refine⟨v,True.intro,?_⟩;trivial;rw[hv];exact Zh.trans (by trivial)
      .intro v _;trivial;apply HY
       .apply Mf
        .trivial
        intro _;trivial
       .simp[h]
       trivial;apply Hg (xs:=zs) (p:=λz=>.tup [.str z.2.1,z.1]) (ok:=okZ) (I:=λfs=>∃t5 t6 t7 t8 cz dR fN,fs=[vl (kT K),vl (.l (nK N) (nV N)),vl (.l (hkD G) (hvD G)),vl (.str ""),vl (.lst []),vl t5,vl t6,vl t7,vl t8,vl (.str k),vl (.tup ((zs.map (·.2.1)).map .str)),cz,dR,fN]/\Fre cz/\Fre dR/\Fre fN) (E:=λc so=>∃τ,so=.ret (.t (.str c)) τ)
       case hi =>rw[<- (O6 zs).2];trivial
       case hE=>rintro _ _ ⟨τ,rfl⟩;exact True.intro
       case h1=>exact⟨_,_,_,_,_,_,_,rfl,True.intro,True.intro,True.intro⟩
       case s0 =>
        rintro z mz ho _ ⟨t5,t6,t7,t8,cz,dR,fN,rfl,f11,f12,f13⟩
        obtain⟨hb,h⟩:=WW ho;obtain⟨⟨_,e1⟩,e2,_⟩:=hz z mz;have h1:=Nb (jQ _ (e2 hb).1);trivial;exact⟨_,_,_,_,_,_,_,rfl,Al,Al,Al⟩
       case s1 =>
        rintro z mz c ho _ ⟨t5,t6,t7,t8,cz,dR,fN,rfl,f11,f12,f13⟩
        obtain⟨⟨_,e1⟩,e2,e3⟩:=hz z mz;rcases Tg ho with⟨hb,rfl⟩|⟨hb,h,rfl⟩
        .have h1:=(e3 hb).1;trivial
         .exact q_i ⟨_,rfl⟩
         trivial
        .have h1:=Nb (jQ _ (e2 hb).1);trivial
         .exact q_i ⟨_,rfl⟩
         trivial
       case k0 =>
        rintro e _ ⟨t5,t6,t7,t8,cz,dR,fN,rfl,f11,f12,f13⟩
        rw[e];trivial
       case k1 =>
        rintro c e _ ⟨τ,rfl⟩
        rw[e];exact q_o (SD True.intro rfl)
       trivial
     have kw:Sat (λso=>(zs.findSome? okZ=none/\Rr (·=.t (.str k)) so)\/∃c,zs.findSome? okZ=some c/\∃τ,so=.exc c τ) (AK z7 z8 (Aq z7 z8 n) ([vl (scT z7 z8 K N G),vl (.tup [.str f,.str m,.tup (zs.map (·.1))])]++List.replicate 7 none)):=by
      unfold AK;apply HY
      .trivial
      .simp[gh]
      trivial;apply HY
      .apply Mf
       .trivial
       intro _;apply Mg
       .trivial
       .rfl
      .simp
      trivial;apply Hg (xs:=zs) (p:=λz=>.tup [z.1,.str z.2.1]) (ok:=okZ) (I:=λfs=>∃t1 t2 t4 t5 y7 y8,fs=[vl (scT z7 z8 K N G),vl t1,vl t2,vl (.str m),vl t4,vl t5,vl (.str k),y7,y8]/\Fre y7/\Fre y8) (E:=λc so=>∃τ,so=.exc c τ)
      case hi =>rw[<- (O6 zs).1];trivial
      case hE=>rintro _ _ ⟨τ,rfl⟩;exact True.intro
      case h1=>exact⟨_,_,_,_,_,_,rfl,True.intro,True.intro⟩
      case s0 =>
       rintro z mz ho _ ⟨t1,t2,t4,t5,y7,y8,rfl,f7,f8⟩
       obtain⟨hb,h⟩:=WW ho;obtain⟨_,_,e4⟩:=(hz z mz).2.1 hb;trivial;exact⟨_,_,_,_,_,_,rfl,Al,Al⟩
      case s1 =>
       rintro z mz c ho _ ⟨t1,t2,t4,t5,y7,y8,rfl,f7,f8⟩
       rcases Tg ho with⟨hb,rfl⟩|⟨hb,h,rfl⟩
       .obtain⟨_,_,e4⟩:=(hz z mz).2.2 hb;apply JbJ
        .trivial
        apply q_X
        .apply JbS;apply Yz;apply Yy;apply Vi;apply Yx
         .trivial
         .exact e4
        exact q_i ⟨_,rfl⟩
       .obtain⟨_,_,e4⟩:=(hz z mz).2.1 hb;have hp:=Na (lp.2 _ (tw.mpr ⟨z,mz,rfl⟩));trivial
      case k0 =>
       rintro e _ ⟨t1,t2,t4,t5,y7,y8,rfl,f7,f8⟩
       trivial;exact q_i (.inl ⟨e,q_o (SD True.intro rfl)⟩)
      case k1=>exact λc e so h=>.inr ⟨c,e,h⟩
     cases e0:zs.findSome? okZ with
     |none =>
      rw[e0]at lk;refine⟨false,k,lk,λ_=>⟨hk,?_⟩,nofun⟩;rcases q_o kw with⟨_,h⟩|⟨c,e,_⟩
      .apply AL;exact q_i h
      .rw[e0]at e;cases e
     |some c =>
      rw[e0]at lk;refine⟨true,c,lk,nofun,λ_=>⟨?_,?_⟩⟩
      .obtain⟨z,mz,ho⟩:=List.exists_of_findSome?_eq_some e0;rcases Tg ho with⟨hb,rfl⟩|⟨_,_,rfl⟩
       .exact((hz z mz).2.2 hb).1
       .decide +kernel
      .rcases q_o kw with⟨e,_⟩|⟨c,e,h⟩
       .rw[e0]at e;cases e
       .rw[e0]at e;cases e;apply Ck;exact q_i h
    .refine⟨true,"BadCount",?_,nofun,λ_=>⟨by decide +kernel,?_⟩⟩
     .apply AL;unfold DE;rcases a with⟨rfl,rfl⟩|⟨rfl,hv⟩
      .trivial
      .trivial
     .apply Ck;unfold AK;trivial
   .refine⟨true,c,?_,nofun,λ_=>⟨mc,?_⟩⟩
    .apply AL;unfold DE;rcases a with⟨rfl,rfl,rfl⟩|⟨rfl,hv,rfl⟩
     .trivial
     .trivial
    .apply Ck;unfold AK;apply HY
     .trivial
     .simp[gh]
     apply MD;apply Ci
     .trivial
     apply Q3
     .apply Jbq;apply Vi;apply Jbp
      .trivial
      .exact e
     exact OX
end
theorem Vo{n:Nat}{j:Int}{ts:List T}{fs:FS}(hj:j=(n:Int)):Jn (.t (.tup ts)) (some (j+1)) none fs=.ok (.t (.tup (ts.drop (n+1)))) fs:=Vp (by rw[hj];rfl)
theorem Wx.mono{l l':Nat}(hl:l<=l'):∀{n n':Nat}{t:T},Wx l n t->n<=n'->Wx l' n' t
 |n+1,n'+1,t,h,hn=>by
  rcases h with h|⟨f,m,ts,hf,hm,lt,ht,e⟩
  .exact .inl h
  .exact .inr ⟨f,m,ts,hf,hm,by lia,λu mu=>(ht u mu).mono hl (by lia),e⟩
abbrev rwV(g:Fd):T:=.l (g.rows.map kyR) (g.rows.map (rvT g))
abbrev prT(cP z8:Addr)(K:Kd)(G:List Fd):T:=.ins cP PF [stT z8 K,.l (hkD G) (hvD G),.l (hkD G) (G.map rwV)]
section
variable{fs:FS}{C:Addr}{G:List Fd}
theorem Ko:∀G:List Fd,Ov (G.map rwD)=G.map rwV
 | []=>by simp[Ov]
 |g::G=>by simp[Ov,Ko G,rwD,toT]
theorem ZL{t:T}{ks:List Key}{vs:List T}:fzR (.nw (.ins C PF [.val t,.l ks vs,.dO ks (G.map rwD)])) fs=.ok (.t (.ins C PF [t,.l ks vs,.l ks (G.map rwV)])) fs:=by unfold fzR;simp only[toT,Ov,Ko]
end
section
variable{cP z7 z8:Addr}{K:Kd}{N:List (Str×Str)}{G:List Fd}
theorem J6(W:Well K):∃τ,Bm [vl (kT K)]=.ok (.nw (.lst ((mks K).map .str))) τ:=by
 suffices h:∃o τ,Bm [vl (kT K)]=.ok (.nw o) τ/\o=.lst ((mks K).map .str) by obtain⟨_,τ,e,rfl⟩:=h;exact⟨τ,e⟩
 apply HX;unfold Dy;trivial;have len:∀D kd R Z r Y,D++kd::R=K->Z++r::Y=kd.2->(mks D).length+Z.length<1000:=λD kd R Z r Y e e2=>by
  have h1:=JN W.hi λkd m=>(W.rw kd m).2
  rw[<- e,Fp,DP,<- e2]at h1;simp at h1
  lia
 apply Bi (I:=λD fs=>∃y2 y3 y4 y5,fs=[vl (kT K),some (.own (.lst ((mks D).map .str))),y2,y3,y4,y5]/\Fre y2/\Fre y3/\Fre y4/\Fre y5) (xs:=K) (p:=A7)
 case hi=>trivial
 case h0=>exact⟨none,none,none,none,rfl,True.intro,True.intro,True.intro,True.intro⟩
 case st =>
  rintro D kd R _ e ⟨y2,y3,y4,y5,rfl,f2,f3,f4,f5⟩
  trivial;apply Ex (I:=λ(Z:List (Str×List Str)) fs=>∃y4 y5,fs=[vl (kT K),some (.own (.lst ((mks D++Z.map (·.1)).map .str))),vl (.str kd.1),vl (.lst (kd.2.map EH)),y4,y5]/\Fre y4/\Fre y5) (xs:=kd.2) (p:=EH)
  case hi=>trivial
  case h0=>exact⟨y4,y5,by rw[uL,ud];rfl,f4,f5⟩
  case st =>
   rintro Z r Y _ e2 ⟨y4,y5,rfl,f4,f5⟩
   have:=len D kd R Z r Y e e2;trivial;exact⟨_,_,by rw[sU (f:=Prod.fst),<- ub,sU (l₂:=[r].map Prod.fst)];rfl,Al,Al⟩
  case k =>
   rintro _ ⟨y4,y5,rfl,f4,f5⟩
   trivial;exact⟨_,_,_,_,by rw[Fp,DP,show mks []=[]from rfl,ud],Al,Al,f4,f5⟩
 case k =>
  rintro _ ⟨y2,y3,y4,y5,rfl,f2,f3,f4,f5⟩
  trivial;exact Wb rfl rfl
theorem calls(nd:(G.map Fd.nm).Nodup)(lG:G.length<=100):∃τ,CS [vl (.lst (G.map Fd.t))]=.ok (.nw (.l (hkD G) (hvD G))) τ:=by
 suffices h:∃o τ,CS [vl (.lst (G.map Fd.t))]=.ok (.nw o) τ/\o=.l (hkD G) (hvD G) by obtain⟨_,τ,e,rfl⟩:=h;exact⟨τ,e⟩
 apply HX;unfold Lg;trivial;apply Bi (I:=λD fs=>∃y2,fs=[vl (.lst (G.map Fd.t)),some (.own (.l (hkD D) (hvD D))),y2]/\Fre y2) (xs:=G) (p:=Fd.t)
 case hi=>trivial
 case h0=>exact⟨none,rfl,True.intro⟩
 case st =>
  rintro D g R _ e ⟨y2,rfl,f2⟩
  have:=Bu e;have hn:ky g.nm∉hkD D:=kyD (by rw[<- e,sU,sX]at nd;exact λm=>(sT.mp nd).2.2 _ m _ tL rfl);trivial;exact⟨_,by simp only[hkD,hvD,sU];rfl,Al⟩
 case k =>
  rintro _ ⟨y2,rfl,f2⟩
  trivial;exact Wb rfl rfl
theorem Ng{t:T}{b:Bool}{c:Str}(h:Kst z7 z8 K N G 20 t b c):(b=false->∃τ,CD cP z7 z8 [vl (prT cP z8 K G),vl (.l (nK N) (nV N)),vl t]=.ok (.t (.str c)) τ)/\(b=true->∃τ,CD cP z7 z8 [vl (prT cP z8 K G),vl (.l (nK N) (nV N)),vl t]=.exc c τ):=by
 obtain⟨_,si⟩:=GB (c:=z7) (A:=stT z8 K) (B:=.l (hkD G) (hvD G)) (D:=.l (nK N) (nV N)) (E:=.o) (F:=.lst []);refine⟨λhb=>?_,λhb=>?_⟩
 .obtain⟨_,_,e⟩:=h.2.1 hb;apply AL;unfold F0;trivial
 .obtain⟨_,_,e⟩:=h.2.2 hb;apply Ck;unfold F0;apply q_X
  .apply UP;apply Yx
   .trivial
   .exact e
  exact OX
theorem Ty.wx(W:Well K)(gu:∀s∈mks K,Lw s)(hN:∀p∈N,Lw p.1)(hG:∀g∈G,Lw g.nm/\g.ks.length<=3):∀{n:Nat}{t:T}{k:Str},Ty K (knN N) (clD G) n t k->Wx 3 n t
 |n+1,t,k,h=>by
  rcases h with⟨x,a,b⟩|⟨m,ps,ts,⟨kd,m1,_,m2⟩,b,e⟩|⟨f,ps,ts,⟨g,mg,rfl,rfl,_⟩,b,e⟩
  .exact .inl ⟨x,hN _ a,b⟩
  .exact .inr ⟨"make",m,ts,.inl rfl,gu _ (JR m1 m2),by have:=b.len;have:=W.two kd m1 _ m2;simp only at this;lia,λu mu=>by obtain⟨p,h⟩:=b.flip.r u mu;exact h.wx W gu hN hG,e⟩
  .exact .inr ⟨"call",g.nm,ts,.inr rfl,(hG g mg).1,by have:=b.len;have:=(hG g mg).2;lia,λu mu=>by obtain⟨p,h⟩:=b.flip.r u mu;exact h.wx W gu hN hG,e⟩
end
theorem Fw{z:Str}(hz:z.length<=3000):∃τ,CH [vl (.str z)]=.ok (.t (.v (isNm z))) τ:=by
 by_cases h:1<=z.length/\z.length<=12
 .by_cases ha:z.cps.toList.all isL=true
  .have e:isNm z=true:=by unfold isNm;simp only[h,decide_true,ha];rfl
   rw[e];apply AL;unfold Dl;apply HY
   .apply Ih
    .trivial
    .trivial
   .simp;lia
   apply MD;apply JC (Pe:=λu=>∃c,u=.str (sgn c)/\isL c=true) (I:=λfs=>∃y1,fs=[vl (.str z),y1]/\Fre y1)
   case hi =>apply R4;trivial
   case h0=>exact λu mu=>by obtain⟨c,mc,rfl⟩:=tw.mp mu;exact⟨c,rfl,uf.mp ha c mc⟩
   case h1=>exact⟨_,rfl,True.intro⟩
   case st =>
    rintro _ _ ⟨c,rfl,h⟩ ⟨y1,rfl,f1⟩
    trivial;exact⟨_,rfl,Al⟩
   case k =>
    rintro _ ⟨y1,rfl,f1⟩
    trivial
  .have e:isNm z=false:=by unfold isNm;simp only[h,decide_true,Bool.true_and];simpa using ha
   rw[e];apply AL;unfold Dl;apply HY
   .apply Ih
    .trivial
    .trivial
   .simp;lia
   apply MD;apply Hg (xs:=z.cps.toList) (p:=λc=>T.str (sgn c)) (ok:=λc=>if isL c=true then none else some "") (I:=λfs=>∃y1,fs=[vl (.str z),y1]/\Fre y1) (E:=λ_ so=>∃τ,so=.ret (.t (.v false)) τ)
   case hi =>apply R4;trivial
   case hE=>rintro _ _ ⟨τ,rfl⟩;exact True.intro
   case h1=>exact⟨_,rfl,True.intro⟩
   case s0 =>
    rintro c mc ho _ ⟨y1,rfl,f1⟩
    have h:isL c=true:=by by_cases h:isL c=true;exact h;simp[h]at ho
    trivial;exact⟨_,rfl,Al⟩
   case s1 =>
    rintro c mc _ ho _ ⟨y1,rfl,f1⟩
    have h:isL c=false:=by by_cases h:isL c=true;simp[h]at ho;simpa using h
    trivial
    .exact q_i ⟨_,rfl⟩
    trivial
   case k0 =>
    intro e;refine absurd (uf.mpr λc mc=>?_) ha;have:=vt.mp e c mc;by_cases h:isL c=true
    .exact h
    .simp[h]at this
   case k1 =>
    rintro c e _ ⟨τ,rfl⟩
    exact q_o (SD True.intro rfl)
 .have e:isNm z=false:=by unfold isNm;rw[tS h];rfl
  rw[e];apply AL;unfold Dl;apply JB
  .apply Ih
   .trivial
   .trivial
  .intro _;trivial
  .intro hb;simp at hb
   lia
theorem Jt{g:Str×Str->T}{x:Str}:∀{D:List (Str×Str)},x∈D.map (·.1)->(BV (D.map λp=>(.inr p.1:Key)) (D.map g) (.inr x:Key)).isSome=true
 |q::D,m=>by
  simp only[sX,BV];by_cases e:(.inr q.1:Key)=.inr x
  .rw[if_pos e];rfl
  .rw[if_neg e];exact Jt ((tH.mp m).resolve_left λz=>e (by rw[z]))
section
variable{C:Addr}{K:Kd}{P:List (Str×Str)}
theorem Cc(W:Well K)(hz:∀q∈P,q.1.length<=3000/\BX q.1=true/\BX q.2=true)(lP:P.length<=100):(HA (okP (K.map (·.1))) [] P=none->∃τ,Bw C [vl (stT C K),vl (.tup (P.map pqT))]=.ok (.t .o) τ)/\∀c,HA (okP (K.map (·.1))) [] P=some c->∃τ,Bw C [vl (stT C K),vl (.tup (P.map pqT))]=.exc c τ:=by
 obtain⟨_,hk⟩:=E6 (C:=C) (K:=K) (hs:=CO K);have key:Sat (λso=>(HA (okP (K.map (·.1))) [] P=none/\∃τ,so=.nx τ)\/∃c,HA (okP (K.map (·.1))) [] P=some c/\∃τ,so=.exc c τ) (CT C ([vl (stT C K),vl (.tup (P.map pqT))]++List.replicate 3 none)):=by
  unfold CT;trivial;apply SG (xs:=P) (p:=pqT) (ok:=okP (K.map (·.1))) (I:=λD fs=>∃y3 y4,fs=[vl (stT C K),vl (.tup (P.map pqT)),some (.own (.l (D.map λp=>(.inr p.1:Key)) (D.map λ_=>.v true))),y3,y4]/\Fre y3/\Fre y4) (E:=λc so=>∃τ,so=.exc c τ)
  case hi=>trivial
  case hE=>rintro _ _ ⟨τ,rfl⟩;exact True.intro
  case h1=>exact⟨_,_,rfl,True.intro,True.intro⟩
  case s0 =>
   rintro D q R _ e ho ⟨y3,y4,rfl,f3,f4⟩
   obtain⟨h1,h2,h3⟩:=Ti ho;have le:=Bu e;have hn:=Hu (hz q (mem_mid e)).1;rw[h1]at hn;have hV:(.inr q.1:Key)∉D.map λp=>(.inr p.1:Key):=by have:=DV h2;rwa[tU]at this
   have hv:=A3 (ts:=D.map λ_=>T.v true) hV;have hl:(D.map λp=>(.inr p.1:Key)).length<1000000:=by rw[tf];lia
   have h:q.2∈K.map (·.1):=h3;trivial;exact⟨_,_,by rw[sU,sU];rfl,Al,Al⟩
  case s1 =>
   rintro D q R c _ e ho ⟨y3,y4,rfl,f3,f4⟩
   obtain⟨qU,mV,sE⟩:=hz q (mem_mid e);have hn:=Hu qU;rcases Th ho with⟨h1,rfl⟩|⟨h1,h2,rfl⟩|⟨h1,h2,h,rfl⟩
   .rw[h1]at hn;trivial
   .rw[h1]at hn;have hv:=Jt (g:=λ_=>T.v true) h2;trivial
   .rw[h1]at hn;have hV:(.inr q.1:Key)∉D.map λp=>(.inr p.1:Key):=by have:=DV h2;rwa[tU]at this
    have hv:=A3 (ts:=D.map λ_=>T.v true) hV;trivial
  case k0=>exact λe fs _=>.inl ⟨e,_,rfl⟩
  case k1=>exact λc e so h=>.inr ⟨c,e,h⟩
 refine⟨λe=>?_,λc e=>?_⟩
 .rcases q_o key with⟨_,h⟩|⟨c,e2,_⟩
  .apply GD;exact q_i h
  .rw[e]at e2;cases e2
 .rcases q_o key with⟨e2,_⟩|⟨c',e2,h⟩
  .rw[e]at e2;cases e2
  .rw[e]at e2;cases e2;apply Ck;exact q_i h
end
theorem TU{K:Kd}{fs:FS}{i:Nat}(h0:fs[i]?=some (vl (kT K)))(h4:K.length<=4):Bq false [none] (itU (fz (Aa i))) (tgN 0) Dz (Ae AA (Aa 0) (gc (.int 0))) fs=.ok (.t (.lst ((K.map (·.1)).map .str))) fs:=by rw[show(K.map (·.1)).map T.str=K.map λkd=>T.str kd.1 by rw[tU];rfl];refine Md (OE (ZO (Az h0) R5) (.inl rfl)) (so1 so0) (Oc (p:=A7) (q:=λkd=>T.str kd.1) (rest:=[]) DZ (λkd _=>?_) (by lia));trivial
theorem Uh{G:List Fd}{fs:FS}{i:Nat}(h0:fs[i]?=some (vl (.lst (G.map Fd.t))))(h4:G.length<=4):Bq false [none] (itU (fz (Aa i))) (tgN 0) Dz (Ae AA (Aa 0) (gc (.int 0))) fs=.ok (.t (.lst ((G.map Fd.nm).map .str))) fs:=by rw[show(G.map Fd.nm).map T.str=G.map λg=>T.str g.nm by rw[tU];rfl];refine Md (OE (ZO (Az h0) R5) (.inl rfl)) (so1 so0) (Oc (p:=Fd.t) (q:=λg=>T.str g.nm) (rest:=[]) DZ (λg _=>?_) (by lia));trivial
theorem UQ{c z:Str}{fs:FS}:Bs c (Ab (gc (.str z)) Ai) fs=.exc c fs:=by with_unfolding_all rfl
section
variable{cP z7 z8:Addr}{K:Kd}{P:List (Str×Str)}{G:List Fd}{l r:T}
theorem YB{Q:SO->Prop}{h:FS->SO}(W:Well K)(hz:∀q∈P,q.1.length<=3000/\BX q.1=true/\BX q.2=true)(lP:P.length<=100)(k0:HA (okP (K.map (·.1))) [] P=none->∀y7 y8,Fre y7->Fre y8->Sat Q (h [vl (kT K),vl (.lst (G.map Fd.t)),vl (.tup [.tup (P.map pqT),l,r]),vl (.tup (P.map pqT)),vl l,vl r,some (.own (.l (nK P) (nV P))),y7,y8,none,none]))(k1:∀c,HA (okP (K.map (·.1))) [] P=some c->∀so,(∃τ,so=.ret (.t (.str c)) τ)->Q so) :
  Sat Q (Ak (BC (itU (fz (Aa 3))) (AH 2 (Af (tgN 7) (Af (tgN 8) AD))) (Ak (ifS (Fm (Kn (fz (Ad (Ah 1 CH) (Ac (fz (Aa 7)) Ai))))) (retS (gc (.str ("BadName":Str)))) nxS) (Ak (ifS (asB (Ae (CB false) (fz (Aa 7)) (Aa 6))) (retS (gc (.str ("Twice":Str)))) nxS) (Ak (ifS (asB (Ae (CB true) (fz (Aa 8)) (Bq false [none] (itU (fz (Aa 0))) (tgN 0) Dz (Ae AA (Aa 0) (gc (.int 0)))))) (retS (gc (.str ("NoKind":Str)))) nxS) (BW (fz (Aa 8)) (Aa 6) (fz (Aa 7))))))) h [vl (kT K),vl (.lst (G.map Fd.t)),vl (.tup [.tup (P.map pqT),l,r]),vl (.tup (P.map pqT)),vl l,vl r,some (.own (.l [] [])),none,none,none,none]):=by
 have h4:=W.hi;apply OY (xs:=P) (p:=pqT) (ok:=okP (K.map (·.1))) (I:=λD fs=>∃y7 y8,fs=[vl (kT K),vl (.lst (G.map Fd.t)),vl (.tup [.tup (P.map pqT),l,r]),vl (.tup (P.map pqT)),vl l,vl r,some (.own (.l (nK D) (nV D))),y7,y8,none,none]/\Fre y7/\Fre y8) (E:=λc so=>∃τ,so=.ret (.t (.str c)) τ)
 case hi=>trivial
 case hE=>rintro _ _ ⟨τ,rfl⟩;exact True.intro
 case h1=>exact⟨none,none,rfl,True.intro,True.intro⟩
 case s0 =>
  rintro D q R _ e ho ⟨y7,y8,rfl,f7,f8⟩
  obtain⟨h1,h2,h⟩:=Ti ho;have le:=Bu e;obtain⟨_,hn⟩:=Fw (hz q (mem_mid e)).1;rw[h1]at hn;have hV:(.inr q.1:Key)∉nK D:=by have:=DV h2;rwa[tU]at this
  have hv:=A3 (ts:=nV D) hV;have hl:(nK D).length<1000000:=by rw[tf];lia
  trivial;exact⟨_,_,by simp only[nK,nV,sU];rfl,Al,Al⟩
 case s1 =>
  rintro D q R c _ e ho ⟨y7,y8,rfl,f7,f8⟩
  obtain⟨_,hn⟩:=Fw (hz q (mem_mid e)).1;rcases Th ho with⟨h1,rfl⟩|⟨h1,h2,rfl⟩|⟨h1,h2,h,rfl⟩
  .rw[h1]at hn;trivial
   .exact q_i ⟨_,rfl⟩
   trivial
  .rw[h1]at hn;have hv:=Jt (g:=λp=>T.str p.2) h2;trivial
   .exact q_i ⟨_,rfl⟩
   trivial
  .rw[h1]at hn;have hV:(.inr q.1:Key)∉nK D:=by have:=DV h2;rwa[tU]at this
   have hv:=A3 (ts:=nV D) hV;trivial
   .exact q_i ⟨_,rfl⟩
   trivial
 case k0 =>
  rintro e _ ⟨y7,y8,rfl,f7,f8⟩
  exact k0 e y7 y8 f7 f8
 case k1=>exact k1
theorem NY(W:Well K)(n2:(G.map Fd.nm).Nodup)(lG:G.length<=100)(hK:∀kd∈K,Lw kd.1)(hG:∀g∈G,g.k∈K.map (·.1)/\g.ks.length<=100/\∀x∈g.ks,Lw x)(hz:∀q∈P,q.1.length<=3000/\BX q.1=true/\BX q.2=true)(lP:P.length<=100)(hl:Wx 100 20 l)(hr:Wx 100 20 r) :
  ∃b c,(∃τ,IP [vl (kT K),vl (.lst (G.map Fd.t)),vl (.tup [.tup (P.map pqT),l,r])]=.ok (.t (.str c)) τ)/\(b=false->c∈K.map (·.1)/\∃τ,FD cP z7 z8 [vl (prT cP z8 K G),vl (.tup [.tup (P.map pqT),l,r])]=.ok (.t (.str c)) τ)/\(b=true->c∈Jbl/\c∉K.map (·.1)/\∃τ,FD cP z7 z8 [vl (prT cP z8 K G),vl (.tup [.tup (P.map pqT),l,r])]=.exc c τ):=by
 have ck:=Cc (C:=z8) W hz lP;cases e:HA (okP (K.map (·.1))) [] P with
 |some c =>
  obtain⟨_,h⟩:=ck.2 c e;refine⟨true,c,?_,nofun,λ_=>⟨tB _ (NL e),λm=>?_,?_⟩⟩
  .apply AL;unfold Ol;trivial;exact YB W hz lP (λe2=>by rw[e]at e2;cases e2) λc' e2 so h=>by rw[e]at e2;cases e2;obtain⟨τ,rfl⟩:=h;exact q_o (SD True.intro rfl)
  .obtain⟨kd,mk,rfl⟩:=tw.mp m;exact lw_3 (hK kd mk) (NL e)
  .apply Ck;unfold Es;apply Ci
   .trivial
   apply Q3
   .apply N4;apply Yx
    .trivial
    .exact h
   exact OX
 |none =>
  obtain⟨_,h⟩:=ck.1 e;obtain⟨nd,hP⟩:=RC e ua;have nd:(P.map (·.1)).Nodup:=nd;have jQ:∀c∈K.map (·.1),Lw c:=λc mc=>by obtain⟨kd,mk,rfl⟩:=tw.mp mc;exact hK kd mk
  obtain⟨b1,c1,k1⟩:=both z7 z8 W nd n2 hK (λp mp=>(hP p mp).2) hG (l:=100) (by lia) 20 l hl;obtain⟨b2,c2,k2⟩:=both z7 z8 W nd n2 hK (λp mp=>(hP p mp).2) hG (l:=100) (by lia) 20 r hr;obtain⟨_,f1⟩:=k1.1;obtain⟨_,f2⟩:=k2.1;obtain⟨_,hc⟩:=calls n2 lG;have o1:=Ng (cP:=cP) k1;have o2:=Ng (cP:=cP) k2;have h4:=W.hi;have er:∀c∈Qo,c∉K.map (·.1):=λc m mk=>Nb (jQ c mk) m
  have jB:∃τ,IP [vl (kT K),vl (.lst (G.map Fd.t)),vl (.tup [.tup (P.map pqT),l,r])]=.ok (.t (.str (if b1=true then c1 else if b2=true then c2 else if c1=c2 then c1 else "BadKind"))) τ:=by
   apply AL;unfold Ol;trivial;refine YB W hz lP (λ_ y7 y8 f7 f8=>?_) λc' e2=>by rw[e]at e2;cases e2
   cases b1 with
   |true =>have h:=er c1 (k1.2.2 rfl).1;trivial
   |false =>
    have h1:=(k1.2.1 rfl).1;cases b2 with
    |true =>have h:=er c2 (k2.2.2 rfl).1;trivial
    |false =>
     have h:=(k2.2.1 rfl).1;have i1:atI [T.str c1,T.str "BadKind"] (if(!decide (c1=c2))=true then 1 else 0)=some (.str (if c1=c2 then c1 else "BadKind")):=by
      by_cases z:c1=c2
      .simp only[z,decide_true];exact at0
      .simp only[z,decide_false,if_false];exact at1
     trivial
  cases b1 with
  |true =>
   obtain⟨_,x1⟩:=o1.2 rfl;refine⟨true,c1,by simpa using jB,nofun,λ_=>⟨tm _ (k1.2.2 rfl).1,er c1 (k1.2.2 rfl).1,?_⟩⟩;apply Ck;unfold Es;apply Ci
   .trivial
   apply Ci
   .trivial
   apply Q3
   .apply Yv;apply Vi;apply Jbp
    .trivial
    .exact x1
   exact OX
  |false =>
   obtain⟨_,y1⟩:=o1.1 rfl;cases b2 with
   |true =>
    obtain⟨_,x2⟩:=o2.2 rfl;refine⟨true,c2,by simpa using jB,nofun,λ_=>⟨tm _ (k2.2.2 rfl).1,er c2 (k2.2.2 rfl).1,?_⟩⟩;apply Ck;unfold Es;apply Ci
    .trivial
    apply Ci
    .trivial
    apply Ci
    .trivial
    apply Q3
    .apply JbS;apply Yz;apply Yy;apply Vi;apply Jbp
     .trivial
     .exact x2
    exact OX
   |false =>
    obtain⟨_,y2⟩:=o2.1 rfl;by_cases z:c1=c2
    .refine⟨false,c1,by simpa[z]using jB,λ_=>⟨(k1.2.1 rfl).1,?_⟩,nofun⟩;have h:c2=c1:=z.symm;apply AL;unfold Es;trivial
    .refine⟨true,"BadKind",by simpa[z]using jB,nofun,λ_=>⟨tm _ (by decide +kernel),er _ (by decide +kernel),?_⟩⟩;have h:¬c2=c1:=λq=>z q.symm
     apply Ck;unfold Es;trivial
     .exact Q3 UQ OX
     trivial
end
def Nz(n:Nat)(z:Str):Prop:=(cds z).length<=n/\∀c∈cds z,c<16^8
theorem Nz.ok{n:Nat}{z:Str}(h:Nz n z)(hn:n<=3000):z.length<=3000/\BX z=true:=by
 have h1:z.length<=3000:=by rw[AZ];exact tQ h.1 hn
 exact⟨h1,by unfold BX;rw[tO,decide_eq_true_iff,uf];exact⟨h1,λc m=>t9 (h.2 c m)⟩⟩
theorem Lw.nz{z:Str}(h:Lw z):Nz 12 z:=⟨h.hi,λc m=>Nat.lt_of_le_of_lt (h.al c m).2 (by decide)⟩
theorem Mz{z:Str}:∀(k:Nat)(a:Array Nat),((List.replicate k z.cps).foldl (·++·) a).toList=a.toList++(List.replicate k (cds z)).flatten
 |0,a=>by simp
 |k+1,a=>by rw[u3,List.foldl_cons,Mz k,u3,List.flatten_cons,Array.toList_append,ub]
theorem Nz.mul{n:Nat}{z:Str}(h:Nz n z):Nz (13*n) (Txt.mul z 13):=by
 have h1:=h.1;unfold Txt.mul;rw[if_neg (by decide)];split
 .exact⟨by lia,h.2⟩
 .have e:cds ⟨(List.replicate (13:Int).toNat z.cps).foldl (·++·) #[]⟩=(List.replicate 13 (cds z)).flatten:=by show((List.replicate 13 z.cps).foldl (·++·) #[]).toList=_;rw[Mz];rfl
  refine⟨?_,λc m=>?_⟩
  .rw[e,List.length_flatten,List.map_replicate,List.sum_replicate_nat]
   lia
  .rw[e,List.mem_flatten]at m;obtain⟨l,ml,mc⟩:=m;rw[List.eq_of_mem_replicate ml]at mc;exact h.2 c mc
theorem Nz.app{n m:Nat}{x y:Str}(h:Nz n x)(g:Nz m y):Nz (n+m) (x++y):=by have h1:=h.1;have g1:=g.1;unfold Nz;rw[Eo];exact⟨by rw[tY];lia,λc mc=>(sZ.mp mc).elim (h.2 c) (g.2 c)⟩
theorem Nz.mono{n m:Nat}{x:Str}(h:Nz n x)(k:n<=m):Nz m x:=⟨tQ h.1 k,h.2⟩
theorem Rj{c:Str}(h:(cds c).length=1/\∀x∈cds c,x<16^8):Nz 1 c:=⟨Nat.le_of_eq h.1,h.2⟩
theorem YZ{β:Type}{c:FS->Out Bool}{s s':FS->SO}{fs ag:FS}{b:Bool}{J:β->FS}{P:β->Prop}(hc:c fs=.ok b ag)(h1:b=true->∃x,P x/\s ag=.nx (J x))(h2:b=false->∃x,P x/\s' ag=.nx (J x)):∃x,P x/\ifS c s s' fs=.nx (J x):=by cases b with|true=>obtain⟨x,p,e⟩:=h1 rfl;exact⟨x,p,Rx hc e⟩|false=>obtain⟨x,p,e⟩:=h2 rfl;exact⟨x,p,Ry hc e⟩
theorem side{w:Str}(hw:Lw w)(m:Int):∃f s,atI [T.str "make",T.str "call",T.str "name"] (m%3)=some (.str f)/\(∀fs,Jn (.t (.tup [.str f,.str w,.tup []])) none (some (3-(if decide (m%3=2)=true then 1 else 0))) fs=.ok (.t s) fs)/\Wx 100 20 s:=by
 have h:m%3=0\/m%3=1\/m%3=2:=by lia
 rcases h with h|h|h<;>rw[h]
 .exact⟨"make",_,at0,λ_=>OD (n:=3) rfl (tJ 3),.inr ⟨"make",w,[],.inl rfl,hw,by simp,nofun,rfl⟩⟩
 .exact⟨"call",_,at1,λ_=>OD (n:=3) rfl (tJ 3),.inr ⟨"call",w,[],.inr rfl,hw,by simp,nofun,rfl⟩⟩
 .exact⟨"name",_,at2,λ_=>OD (n:=2) rfl (Nat.le_succ 2),.inl ⟨w,hw,rfl⟩⟩
theorem Jbu{P:List (Str×Str)}{l r:T}{ws:List Str}{n:Nat}(num:Int)(hP:P≠[])(lP:P.length<=100)(n1:1<=n)(n2:n<=200)(hz:∀q∈P,Nz n q.1/\BX q.2=true)(hl:Wx 100 20 l)(hr:Wx 100 20 r)(hw:∀w∈ws,Lw w)(aT:ws≠[]):∃(P':List (Str×Str))(l' r':T),(∃τ,FG [vl (.tup (P.map pqT)),vl l,vl r,iv num,vl (.lst (ws.map .str))]=.ok (.t (.tup [.tup (P'.map pqT),l',r'])) τ)/\P'.length=P.length/\(∀q∈P',Nz (13*n) q.1/\BX q.2=true)/\Wx 100 20 l'/\Wx 100 20 r':=by
 suffices h:∃x τ,FG [vl (.tup (P.map pqT)),vl l,vl r,iv num,vl (.lst (ws.map .str))]=.ok x τ/\∃(P':List (Str×Str))(l' r':T),x=.t (.tup [.tup (P'.map pqT),l',r'])/\P'.length=P.length/\(∀q∈P',Nz (13*n) q.1/\BX q.2=true)/\Wx 100 20 l'/\Wx 100 20 r' by obtain⟨_,τ,e,P',l',r',rfl,w⟩:=h;exact⟨P',l',r',⟨τ,e⟩,w⟩
 have gP:0<(P.map pqT).length:=by rw[tf];exact uE.mpr hP
 have gw:0<(ws.map T.str).length:=by rw[tf];exact uE.mpr aT
 obtain⟨a,hj,ha⟩:∃a:Nat,num/6%((P.map pqT).length:Int)=(a:Int)/\a<(P.map pqT).length:=by have h1:=vq (num/6) (show((P.map pqT).length:Int)≠0 by lia);have h2:=vf (num/6) (show(0:Int)<((P.map pqT).length:Int) by lia);exact⟨(num/6%((P.map pqT).length:Int)).toNat,by lia,by lia⟩
 obtain⟨q,mq,iq⟩:=BS hP pqT (num/6);obtain⟨p,mp,ip⟩:=BS hP pqT (num/60);obtain⟨w1,m1,i1⟩:=BS aT T.str (num/60);obtain⟨w2,m2,i2⟩:=BS aT T.str (num/60/3);obtain⟨f,s,i3,sl,wx⟩:=side (hw w2 m2) (num/60);have zq:=(hz q mq).1;have zA:Nz 1 ("A":Str):=Rj (by decide +kernel);have zB:Nz 1 (" ":Str):=Rj (by decide +kernel);have l0:q.1.length<=1000:=by have:=zq.1;rw[AZ];lia
 have hA:q.1.length+("A":Str).length<=big:=by rw[show("A":Str).length=1 from Ms];show _<=1000000;lia
 have hB:(" ":Str).length+q.1.length<=big:=by rw[show(" ":Str).length=1 from Ms];show _<=1000000;lia
 obtain⟨x,i0,zx⟩:∃x,atI [T.str "",.str (q.1++"A"),.str (Txt.mul q.1 13),.str (" "++q.1)] (num/60%4)=some (.str x)/\Nz (13*n) x:=by
  have h:num/60%4=0\/num/60%4=1\/num/60%4=2\/num/60%4=3:=by lia
  rcases h with h|h|h|h<;>rw[h]
  .exact⟨_,at0,vG _,nofun⟩
  .exact⟨_,at1,(zq.app zA).mono (by lia)⟩
  .exact⟨_,at2,zq.mul⟩
  .exact⟨_,rfl,(zB.app zq).mono (by lia)⟩
 have lP:(P.map pqT).length<=100:=by rw[tf];exact lP
 apply JA;unfold Oo;apply Ci
 .trivial
 apply Ci
 .trivial
 apply Ci
 .trivial
 apply Ci
 .trivial
 apply ME (β:=Str×Str×T×T) (J:=λx=>[vl (.tup (P.map pqT)),vl x.2.2.1,vl x.2.2.2,iv (num/60),vl (.lst (ws.map .str)),iv (num%6),iv (num/6%((P.map pqT).length:Int)),vl (.str x.1),vl (.str x.2.1)]) (P:=λx=>Nz (13*n) x.1/\BX x.2.1=true/\Wx 100 20 x.2.2.1/\Wx 100 20 x.2.2.2)
 .trivial
 .intro _;refine⟨(x,q.2,l,r),⟨zx,(hz q mq).2,hl,hr⟩,?_⟩;trivial
  .exact Fz hA
  trivial
  .exact Xa l0 (by decide) (by decide)
  trivial
  .exact Fz hB
  trivial
 .intro _;apply YZ
  .trivial
  .intro _;refine⟨(p.1,q.2,l,r),⟨((hz p mp).1).mono (by lia),(hz q mq).2,hl,hr⟩,?_⟩;trivial
  intro _;apply YZ
  .trivial
  .intro _;refine⟨(q.1,w1,l,r),⟨zq.mono (by lia),Na (hw w1 m1),hl,hr⟩,?_⟩;trivial
  intro _;apply YZ
  .trivial
  .intro _;refine⟨(q.1,q.2,l,s),⟨zq.mono (by lia),(hz q mq).2,hl,wx⟩,?_⟩;trivial
   .exact sl _
   trivial
  intro _;apply YZ
  .trivial
  .intro _;refine⟨(q.1,q.2,s,r),⟨zq.mono (by lia),(hz q mq).2,wx,hr⟩,?_⟩;trivial
   .exact sl _
   trivial
  intro _;refine⟨(q.1,q.2,r,l),⟨zq.mono (by lia),(hz q mq).2,hr,hl⟩,?_⟩;trivial
 .rintro⟨x,k,l',r'⟩ ⟨h1,h2,h3,h4⟩
  trivial;refine⟨P.take a++(x,k)::P.drop (a+1),l',r',by simp,by rw[tf]at ha;simp;lia,λy my=>?_,h3,h4⟩;have old:∀y∈P,Nz (13*n) y.1/\BX y.2=true:=λy my=>⟨((hz y my).1).mono (by lia),(hz y my).2⟩
  rcases sZ.mp my with my|my
  .exact old y (uz my)
  .rcases tH.mp my with rfl|my
   .exact⟨h1,h2⟩
   .exact old y (uW my)
theorem Rn{i:Nat}{ts:List T}{k:Int}{fs:FS}{t:T}(h:fs[i]?=some (some (.own (.lst ts))))(e:atI ts k=some t):AA (.n i) (.t (.int k)) fs=.ok (.t t) fs:=by have o:=YY h;exact Hz (by simp only[DG,o]) e
theorem good(cP z7 z8:Addr):∀ns:List Int,ns.length<=63->Dd ns<=2^20->∃fs,Yr cP z7 z8 [some (.val (.zY (ns.map T.int)))]=.ok (.t (.v true)) fs:=by
 intro ns hl mD;obtain⟨K,ks,ws,n,m,k1,k3,ju,hk,hw,lK,jH,qT,qB,_,iW⟩:=kinds ns;have W:=VG k1 k3 ju hk hw lK jH;have iA:∀(j:Nat) s,ws[12+j]?=some s->s∉mks K:=λj s e ms=>by
  obtain⟨kd,m1,m2⟩:=uA.mp ms;obtain⟨r,m3,rfl⟩:=tw.mp m2;obtain⟨a,ha⟩:=uI.mp m1;obtain⟨i,i4,_,ei⟩:=JW jH ha m3;have:=hw.inj (by lia) ei e;have:=(sY.mp ha).1
  lia
 have gu:∀s∈mks K,Lw s:=λs ms=>by obtain⟨kd,m1,m2⟩:=uA.mp ms;obtain⟨r,m3,rfl⟩:=tw.mp m2;obtain⟨a,ha⟩:=uI.mp m1;obtain⟨i,i4,_,ei⟩:=JW jH ha m3;exact hw.lw (uk ei)
 have jR:∀s∈K.map (·.1),Lw s:=λs ms=>hk.lw (by rw[<- Nl lK jH];exact ms)
 obtain⟨G,p0,g4,me,iK,_,gh⟩:=DX (ns:=ns) W (by lia) ju hw iA qT qB;have iJ:(G.map Fd.nm).Nodup:=by rw[me];exact((hw.nd (by lia)).sublist (List.drop_sublist _ _)).sublist (uU _ _)
 have gk:∀g∈G,(Lw g.nm/\g.ks.length<=3)/\g.k∈K.map (·.1)/\g.ks.length<=100/\(∀x∈g.ks,Lw x)/\∀x∈g.ks,x∈K.map (·.1):=λg mg=>by
  obtain⟨A,B,e⟩:=vc mg;have O:=iK A g B e.symm;obtain⟨kd,kr,_,eO,_,l2,_⟩:=O.ex;have l3:g.ks.length<=3:=by rw[eO];simp;lia
  have i1:=λx mx=>O.ind x (tm _ mx)
  exact⟨⟨hw.lw (uW (uz (me▸tw.mpr ⟨g,mg,rfl⟩))),l3⟩,O.ind _ (by simp),by lia,λx mx=>jR _ (i1 x mx),i1⟩
 have h4:=W.hi;have c0:=Ce ns 0;obtain⟨hd,_,sv⟩:=mix (ns.getD 0 0) (k:=0) (by lia);obtain⟨_,si⟩:=Jv (C:=z8) W;obtain⟨_,pi⟩:=Ib (cP:=cP) (z7:=z7) (z8:=z8) (F:=.lst (G.map Fd.t)) W (.inl rfl) (by lia) p0 iK;obtain⟨_,jK⟩:=calls iJ (by lia);obtain⟨_,em⟩:=J6 W;have rY:=Ce ns 13;obtain⟨nQ,_,sJ⟩:=mix (ns.getD 13 0) (k:=1) (by lia);obtain⟨p,vs,_,lv,qR,sD⟩:=words nQ (c:=3) (by lia);have kX:Wds nQ vs:=⟨p,qR⟩
 obtain⟨q,hq,hq3⟩:∃q:Nat,1+hd%3=(q:Int)/\1<=q/\q<=3:=⟨(1+hd%3).toNat,by lia,by lia,by lia⟩
 obtain⟨bn,hbn,hb3⟩:∃q:Nat,hd/108%3=(q:Int)/\q<3:=⟨(hd/108%3).toNat,by lia,by lia⟩
 have rP:=kX.nd (by lia);have jx:K≠[]:=λh=>by rw[h]at lK;simp at lK;lia
 have oM:0<(K.map A7).length:=by rw[tf];exact uE.mpr jx
 obtain⟨kd,mk,ik⟩:=BS jx A7 (hd/3);obtain⟨k7,mk',sF⟩:=BS jx A7 (hd/9);have ml:=JN W.hi λkd m=>(W.rw kd m).2
 apply AL;unfold YO;trivial;apply Bi (I:=λ(Z:List Nat) fs=>∃(N:List (Str×Str))(y6:Option Sl),fs=[vl (.zY (ns.map T.int)),iv hd,vl (kT K),vl (.lst (G.map Fd.t)),vl (.lst (vs.map .str)),some (.own (.lst (N.map pqT))),y6,none,none,none,none,none,none,none,none]/\Fre y6/\N.map (·.1)=vs.take Z.length/\∀p∈N,p.2∈K.map (·.1)) (xs:=List.range q) (p:=λi=>.int (i:Nat))
 case hi =>
  trivial
  lia
 case h0=>exact⟨[],none,rfl,True.intro,rfl,nofun⟩
 case st =>
  rintro Z i R _ e ⟨N,y6,rfl,f6,hZ,hN⟩
  have lz:=Bu e;rw[uj]at lz;have ei:i=Z.length:=by have:=congrArg (·[Z.length]?) e;simp at this;rw[vp (by lia)]at this;exact Option.some.inj this
  have m6:vs[i]?=some vs[i]:=sS (by lia);have iw:atI (vs.map T.str) (i:Int)=some (.str vs[i]):=BH (by rw[tR,m6];rfl);have ck:=Ce ns (14+i);rw[show((14+i:Nat):Int)=14+(i:Int) by lia]at ck;obtain⟨vk,_,sL⟩:=mix (ns.getD (14+i) 0) (k:=2) (by lia);obtain⟨kd,mk,ik⟩:=BS jx A7 vk;have lN:N.length<=3:=by have:=congrArg List.length hZ;simp at this;lia
  trivial;refine⟨N++[(vs[i],kd.1)],_,by rw[sU];rfl,Al,?_,λp mp=>?_⟩
  .rw[sU,hZ,tY,uS,<- ei,List.take_succ,m6];rfl
  rcases sZ.mp mp with mp|mp
  .exact hN p mp
  .rw[tD.mp mp];exact tw.mpr ⟨kd,mk,rfl⟩
 case k =>
  rintro _ ⟨N,y6,rfl,f6,hZ,hN⟩
  rw[uj]at hZ;have hn:(N.map (·.1)).Nodup:=hZ▸rP.sublist (uU _ _);have lN:N.length=q:=by have:=congrArg List.length hZ;simp at this;lia
  have lV:∀p∈N,Lw p.1:=λp mp=>kX.lw (uz (i:=q) (by rw[<- hZ];exact tw.mpr ⟨p,mp,rfl⟩))
  trivial;apply Bi (I:=λ(Z:List Nat) fs=>∃(es:List T)(kd:Str×List (Str×List Str))(y6 y9:Option Sl),fs=[vl (.zY (ns.map T.int)),iv hd,vl (kT K),vl (.lst (G.map Fd.t)),vl (.lst (vs.map .str)),some (.own (.lst (N.map pqT))),y6,vl (.str kd.1),some (.own (.lst es)),y9,none,none,none,none,none]/\Fre y6/\Fre y9/\kd∈K/\es.length=Z.length/\∀e∈es,Wx 100 20 e) (xs:=List.range 2) (p:=λi=>.int (i:Nat))
  case hi =>
   trivial
   .rfl
   lia
  case h0=>exact⟨[],kd,y6,none,rfl,f6,True.intro,mk,rfl,nofun⟩
  case st =>
   rintro Z i R _ e ⟨es,kd,y6,y9,rfl,f6,f9,mk,le,he⟩
   have lz:=Bu e;rw[uj]at lz;have ck:=Ce ns (17+i);rw[show((17+i:Nat):Int)=17+(i:Int) by lia]at ck;obtain⟨vb,_,mb⟩:=mix (ns.getD (17+i) 0) (k:=3) (by lia);obtain⟨e,⟨_,hg⟩,te⟩:=grown W hn iJ (by lia) (by lia) hN (λg mg=>(gk g mg).2.2.2.2) (by lia) (λg mg=>(gk g mg).2.2.1) mk vb;obtain⟨kz,mz,iz⟩:∃kz∈K,atI [T.str kd.1,T.str k7.1] (if decide (hd/27%4=1)=true then 1 else 0)=some (.str kz.1):=by
    by_cases h:hd/27%4=1
    .exact⟨k7,mk',by simp only[h,decide_true,if_true];exact at1⟩
    .exact⟨kd,mk,by simp only[h,decide_false];exact at0⟩
   trivial;refine⟨es++[e],kz,_,_,rfl,Al,Al,mz,by simp[le],λu mu=>?_⟩;rcases sZ.mp mu with mu|mu
   .exact he u mu
   .rw[tD.mp mu];exact(te.wx W gu lV (λg mg=>(gk g mg).1)).mono (by lia) (by lia)
  case k =>
   rintro _ ⟨es,kd,y6,y9,rfl,f6,f9,mk,le,he⟩
   obtain⟨l,r,rfl⟩:∃l r,es=[l,r]:=by match es,le with| [l,r],_=>exact⟨l,r,rfl⟩
   have gl:=he l (by simp);have gr:=he r (by simp);trivial;obtain⟨wl,ewl,wlw,wne⟩:∃wl:List Str,vs.map T.str++(G.map Fd.nm).map T.str++(mks K).map T.str++(K.map (·.1)).map T.str++[T.str "zzzzzz"]=wl.map T.str/\(∀w∈wl,Lw w)/\wl≠[]:=by
    refine⟨vs++G.map Fd.nm++mks K++K.map (·.1)++[("zzzzzz":Str)],by simp only[sU];rfl,λw mw=>?_,by simp⟩;simp only[sZ,tD]at mw;rcases mw with(((mw|mw)|mw)|mw)|rfl
    .exact kX.lw mw
    .obtain⟨g,mg,rfl⟩:=tw.mp mw;exact(gk g mg).1.1
    .exact gu w mw
    .exact jR w mw
    .exact⟨by decide +kernel,by decide +kernel,by decide +kernel⟩
   rw[ewl];apply Bi (I:=λ(Z:List Nat) fs=>∃(P:List (Str×Str))(u v:T)(y6:Option Sl),fs=[vl (.zY (ns.map T.int)),iv hd,vl (kT K),vl (.lst (G.map Fd.t)),vl (.lst (wl.map .str)),some (.own (.lst (N.map pqT))),y6,vl (.str kd.1),some (.own (.lst [l,r])),y9,vl (.tup [.tup (P.map pqT),u,v]),none,none,none,none]/\Fre y6/\P.length=q/\(∀q∈P,Nz (12*13^Z.length) q.1/\BX q.2=true)/\Wx 100 20 u/\Wx 100 20 v) (xs:=List.range bn) (p:=λi=>.int (i:Nat))
   case hi =>
    trivial
    lia
   case h0=>exact⟨N,l,r,y6,rfl,f6,lN,λp mp=>⟨(lV p mp).nz,Na (jR _ (hN p mp))⟩,gl,gr⟩
   case st =>
    rintro Z i R _ er ⟨P,u,v,y6,rfl,f6,lP,hP,wu,wv⟩
    have lz:=Bu er;rw[uj]at lz;have ck:=Ce ns (20+i);rw[show((20+i:Nat):Int)=20+(i:Int) by lia]at ck;obtain⟨vb,_,mb⟩:=mix (ns.getD (20+i) 0) (k:=5) (by lia);have z1:1<=12*13^Z.length/\12*13^Z.length<=200:=by
     have h:Z.length=0\/Z.length=1:=by lia
     rcases h with h|h<;>rw[h]<;>decide
    obtain⟨P',u',v',⟨_,hb⟩,sH,mn,rR,rS⟩:=Jbu vb (λh=>by rw[h]at lP;simp at lP;lia) (by lia) z1.1 z1.2 hP wu wv wlw wne;trivial;exact⟨P',u',v',_,rfl,Al,by lia,λq mq=>by rw[tY,uS,Nat.pow_succ];exact⟨((mn q mq).1).mono (by lia),(mn q mq).2⟩,rR,rS⟩
   case k =>
    rintro _ ⟨P,u,v,y6,rfl,f6,lP,hP,wu,wv⟩
    rw[uj]at hP;have z1:12*13^bn<=3000:=by
     have h:bn=0\/bn=1\/bn=2:=by lia
     rcases h with h|h|h<;>rw[h]<;>decide
    obtain⟨b,c,⟨_,ql⟩,b0,b1⟩:=NY (cP:=cP) (z7:=z7) (z8:=z8) (l:=u) (r:=v) W iJ (by lia) (λkd mk=>jR _ (tw.mpr ⟨kd,mk,rfl⟩)) (λg mg=>⟨(gk g mg).2.1,(gk g mg).2.2.1,(gk g mg).2.2.2.1⟩) (λq mq=>⟨((hP q mq).1.ok z1).1,((hP q mq).1.ok z1).2,(hP q mq).2⟩) (by lia) wu wv;trivial;cases b with
    |false =>
     obtain⟨h,_,sf⟩:=b0 rfl;apply Ci
     .apply Vl;trivial
     trivial
     .apply QU
      .trivial
      .rfl
      apply QU
      .trivial
      .rfl
      trivial
     trivial
     .simp
     trivial
    |true =>
     obtain⟨hc,h,_,sx⟩:=b1 rfl;obtain⟨ku,qi⟩:=Ob hc;apply Ci
     .apply Zb (c:=c)
      .apply Yv;apply Vi;apply Yx
       .trivial
       .exact sx
      .exact qi
      .trivial
      .trivial
      .trivial
     trivial
     .simp
     trivial
end
theorem us1{α:Type}{us:List α}(e:us.length=1):∃a,us=[a]:=by match us,e with| [a],_=>exact⟨a,rfl⟩
theorem us2{α:Type}{us:List α}(e:us.length=2):∃a b,us=[a,b]:=by match us,e with| [a,b],_=>exact⟨a,b,rfl⟩
theorem us3{α:Type}{us:List α}(e:us.length=3):∃a b c,us=[a,b,c]:=by match us,e with| [a,b,c],_=>exact⟨a,b,c,rfl⟩
theorem us4{α:Type}{us:List α}(e:us.length=4):∃a b c d,us=[a,b,c,d]:=by match us,e with| [a,b,c,d],_=>exact⟨a,b,c,d,rfl⟩
theorem us5{α:Type}{us:List α}(e:us.length=5):∃a b c d e,us=[a,b,c,d,e]:=by match us,e with| [a,b,c,d,e],_=>exact⟨a,b,c,d,e,rfl⟩
theorem us6{α:Type}{us:List α}(e:us.length=6):∃a b c d e f,us=[a,b,c,d,e,f]:=by match us,e with| [a,b,c,d,e,f],_=>exact⟨a,b,c,d,e,f,rfl⟩
abbrev DF(K:Fg)(n:Str)(st:Stmt):Prop:=∃f fd,nsIn K mainGlobals n=some (some (.ref f))/\Fun K n n st f fd
abbrev DM(K:Fg)(C:Addr)(m q:Str)(st:Stmt):Prop:=∃f fd,findIn K (.ref C) m=some (some (.ref f))/\isFn K (.ref f)=true/\Fun K m q st f fd
structure CC(K:Fg)(x:Str)(C:Addr):Prop where
 ac:nsIn K mainGlobals x=some (some (.ref C))
 yF:makesIn K C=true
 kc:keepIn K (.ref C)=true
abbrev aF(P:Program)(w:World)(K:Fg)(mg:Str->Option Value)(base:Heap)(n:Str)(k:Nat)(ps:List Str)(p:Nat)(Fn:FS->Out Rv):Prop:=FnAt P w K mg base (CX1 P w) n k ps (spX K p Fn)
abbrev aM(P:Program)(w:World)(K:Fg)(mg:Str->Option Value)(base:Heap)(C:Addr)(n:Str)(k:Nat)(ps:List Str)(p:Nat)(Fn:FS->Out Rv):Prop:=Vk P w K mg base (CX1 P w) C n k ps (spX K p Fn)
abbrev aK(P:Program)(w:World)(K:Fg)(mg:Str->Option Value)(base:Heap)(n:Str)(C:Addr)(k:Nat)(ps:List Str)(p:Nat)(Fn:FS->Out Rv):Prop:=Y6 P w K mg base (CX1 P w) n C k ps (spX K p Fn)
section
variable{P:Program}{w:World}{K:Fg}{mg:Str->Option Value}{base h:Heap}{CX:CXT}{n m q:Str}{st:Stmt}{k:Nat}{ps:List Str}{sp:Sp}{C:Addr}(X:K.In h)(G:h.Ns mainGlobals mg)
abbrev BA(x q:Str)(st:Stmt)(ps:List Str):Prop:=∀(kV cV pm:Value)(an:Option Addr)(cdv ct:Value)(us:List Value),us.length=ps.length->bindArgs (fnOf x q (FJ st) (DB st) (Bh st) .none kV cV pm an cdv ct) ⟨us,[]⟩=pure (ps.zip us)
theorem LX(X:K.In h)(G:h.Ns mainGlobals mg)(d:DF K n st)(B:BA n n st ps)(O:∀f fd,Fun K n n st f fd->(∀k sp,Dn P w K mg base CX k f fd ps sp->FnAt P w K mg base CX n k ps sp)->Dn P w K mg base CX k f fd ps sp):FnAt P w K mg base CX n k ps sp :=
 let⟨f,fd,a,F⟩:=d
 ⟨f,fd,O f fd F λ_ _ o=>⟨f,fd,o,mg_of X G a,F.kp,F.binds B⟩,mg_of X G a,F.kp,F.binds B⟩
theorem Jbv(c:Cls K C)(d:DM K C m q st)(B:BA m q st ps)(O:∀f fd,Fun K m q st f fd->Dn P w K mg base CX k f fd ps sp):Vk P w K mg base CX C m k ps sp :=
 let⟨f,fd,a,i,F⟩:=d
 ⟨c,f,fd,O f fd F,⟨a,i,F.kp⟩,F.binds B⟩
theorem Jbw(X:K.In h)(G:h.Ns mainGlobals mg)(c:CC K n C)(d:DM K C "__init__" q st)(B:BA "__init__" q st ps)(O:∀f fd,Fun K "__init__" q st f fd->Dn P w K mg base CX k f fd ps sp):Y6 P w K mg base CX n C k ps sp :=
 let⟨f,fd,a,i,F⟩:=d
 ⟨mg_of X G c.ac,f,fd,O f fd F,⟨c.yF,a,i,c.kc⟩,F.binds B⟩
end
section
variable{P:Program}{w:World}{K:Fg}{mg:Str->Option Value}{base h:Heap}{ak aj af:Addr}(X:K.In h)(G:h.Ns mainGlobals mg)(T:Tx K mg ak aj af)(bD:CC K "Program" ak)(cA:CC K "Scope" aj)(cB:CC K "Stock" af)
seal FE FT FA FW FP GS GSs GT GTs FI FAn FIf
set_option hygiene false in
local macro_rules|`(tactic|trivial)=>do
 let w1<-Zz9 "efe_v,_ rJbi,? eYe rXX,?"
 let w2<-Zz9 "rYi,!,%,~,? rYp,?,? eX0 rYj,!,!,? rYa,T.yL,? rYb,T.xt,T.zT,^,? rX7,?,? eJbk rX9,? rX6,!,%,~,?,? rYl,Xc,PySem.F.slot_list_append,PySem.F.type_list_append,Iy,?,? rYl,Pu,PySem.F.slot_list_index,PySem.F.type_list_index,Pt,?,? eQi rUC,? rUD,T.yZ,? rXZ,?,? eYf,= rYk,?,? rQg,T.yU,? rJa9,?,?,? rX5,?,? rX8,!,%,? rJbj,?,? eX4 rUE,T.yM,? rJbb,?,? rLQ,rfl,T.zi,T.yT,?"
 let w3<-Zz9 "rUz,_,? rXY,T.yJ,? rJbf,hu,?,? rYn,?,? eJbh,T.zc rYo,T.yO,? rYc,T.xt,T.zT,T.zr,? rYm,T.yN,? rYd,?,? rX3,? rX1,?,?,? eYf,= rX2,?,?"
 let w4<-Zz9 "rUG,?,? rYh,? rJbg,?,? rQh,_,? rNR,TV,boot_str,T.zT,T.yK,? rQj,?,? rQl,T.zi,? rQk,rfl,T.zi,? rYg,? rUA,?,? rJbc,?,? rJbd,? rJba,?"
 let w5<-Zz9 "eFEs.nil rFEs.cons,?,?"
 let w6<-Zz9 "eYq rUI,?,?"
 let w7<-Zz9 "rUc,? rPR,?,? eUd"
 let w8<-Zz9 "rXu,_,nd,+,? rJaQ,?,?,? rXv,? rUe,? rXx,lk.own,rfl,?,?,?"
 let w9<-Zz9 "rXz,?,?"
 let w10<-Zz9 "rPV,*,lk,rfl,?"
 let w11<-Zz9 "ePX rXw,_,_,rfl,nd,rfl,rfl,?"
 let w12<-Zz9 "rQm,?,? eUH"
 let w13<-Zz9 "rIH,rfl,? rXt,rfl,?"
 let w14<-Zz9 "eUb"
 let w15<-Zz9 "rJa6,?,? rXM,?"
 let w16<-Zz9 "rQd,hu,?,? rJa1,?,? rJa4,hu,?,? rJa5,?,?"
 let w17<-Zz9 "rJa2,?,? rJa3,?,? rUq,@,?,? rXO,?,? rFW.ft,?"
 let w18<-Zz9 "rXU,? rNQ,T.yV,? rXT,T.yT,?,? rUx,T.zh,? rUy,?"
 let w19<-Zz9 "eUw rUv,?"
 let w20<-Zz9 "rUt,? eUu"
 let w21<-Zz9 "rJa0,?,? rXI,? rXJ,?,? rUp,?"
 `(tactic|(
 intro cdv A outer s H E _ _ hr lk;have hu:=JaL hr;have a0:=T.zW;have a1:=T.zm;have a2:=T.zj;have a3:=T.zG;have a4:=T.z0;have a5:=T.zF;have a6:=T.zC;have a7:=T.zQ;have a8:=T.zE;have a9:=T.zp;have a10:=T.zy;have a11:=T.zP;have a12:=T.zS;have a13:=T.zR
 first
  | refine AI (GS.zero ?_) (AI (GS.zero ?_) (AI (GS.zero ?_) (AI (GS.zero ?_) (AI (GS.zero ?_) (AI (GS.zero ?_) (AI (GS.zero ?_) (AI (GS.zero ?_) (AI (GS.zero ?_) (AI (GS.zero ?_) (AI (GS.zero ?_) (AI (GS.zero ?_) (AI (GS.zero ?_) (AI (GS.zero ?_) (AI (GS.zero ?_) (AI (P1 T.xt (by decide +kernel) 14 lk nd (fun _ _ lk=>?_) (fun _=>?_)) (GSs.zero ?_))))))))))))))))
  | refine GSs.zero ?_
 repeat' first
  |(show FE _ _ _ _;first|$(⟨w1⟩):tactic|refine Ja8 hu ?_ ?_ (fun _ _=>rfl)|$(⟨w2⟩):tactic|refine UB (by assumption) (hr.mono (by first | decide | omega)) ?_ (fun ho=>WE (by assumption) (hr.mono (by first | decide | omega)) WJ ho)|$(⟨w3⟩):tactic|refine C6 false ["_law_k","_law_kinds_here","_law_number"] [none,some 0,some 3] rfl ?_ (fun _ _ _ _ _=>Bo 0 (show List.Nodup (["_law_k","_law_kinds_here","_law_number"]:List Str) by decide +kernel) (Or.inl rfl) (hf:=.inr rfl)) (fun _ _ _ _ _=>?_) (fun _ _ _ _ _=>?_)|refine C6 false ["_law_one","_law_name","_law_other"] [none,some 1,some 2] rfl ?_ (fun _ _ _ _ _=>Bo 0 (show List.Nodup (["_law_one","_law_name","_law_other"]:List Str) by decide +kernel) (Or.inl rfl) (hf:=.inr rfl)) (fun _ _ _ _ _=>?_) (fun _ _ _ _ _=>?_)|refine C6 false ["_law_one"] [none] rfl ?_ (fun _ _ _ _ _=>Bo 0 (u7 _ _) (Or.inl rfl) (hf:=.inr rfl)) (fun _ _ _ _ _=>?_) (fun _ _ _ _ _=>?_)|refine C6 false ["_law_part","_law_kinds_here"] [none,some 0] rfl ?_ (fun _ _ _ _ _=>Bo 0 (show List.Nodup (["_law_part","_law_kinds_here"]:List Str) by decide +kernel) (Or.inl rfl) (hf:=.inr rfl)) (fun _ _ _ _ _=>?_) (fun _ _ _ _ _=>?_)|refine C6 false ["_law_row"] [none] rfl ?_ (fun _ _ _ _ _=>Bo 0 (u7 _ _) (Or.inl rfl) (hf:=.inr rfl)) (fun _ _ _ _ _=>?_) (fun _ _ _ _ _=>?_)|refine C6 false ["kind","name","stock"] [none,some 1,some 0] rfl ?_ (fun _ _ _ _ _=>Bo 0 (show List.Nodup (["kind","name","stock"]:List Str) by decide +kernel) (Or.inl rfl) (hf:=.inr rfl)) (fun _ _ _ _ _=>?_) (fun _ _ _ _ _=>?_)|refine C6 false ["maker","parts"] [none,none] rfl ?_ (fun _ _ _ _ _=>IH rfl (DW (Bo 0 (show List.Nodup (["maker","parts"]:List Str) by decide +kernel) (Or.inl rfl) (hf:=.inr rfl)) ?_ (fun h1 h2=>DO h1 h2))) (fun _ _ _ _ _=>?_) (fun _ _ _ _ _=>?_)|refine C6 false ["sign"] [none] rfl ?_ (fun _ _ _ _ _=>Bo 0 (u7 _ _) (Or.inl rfl) (hf:=.inr rfl)) (fun _ _ _ _ _=>?_) (fun _ _ _ _ _=>?_)|$(⟨w4⟩):tactic)
  |(show FEs _ _ _ _;$(⟨w5⟩):tactic)
  |(show FA _ _ _ _;$(⟨w6⟩):tactic)
  |(show GSs _ _ _ _;$(⟨w7⟩):tactic)
  |(show GS _ _ _ _;first|refine B3 false _ ["_law_maker_here","_law_parts","_law_kind_here","_law_names","_law_words_here"] [none,none,some 4,some 6,some 2] rfl nd (Or.inl rfl) ?_ (fun _ _ _ _ _=>IH rfl (DW (Bo 0 (show List.Nodup (["_law_maker_here","_law_parts","_law_kind_here","_law_names","_law_words_here"]:List Str) by decide +kernel) (Or.inl rfl) (hf:=.inr rfl)) ?_ (fun h1 h2=>DO h1 h2))) (fun _ _ _ _ _=>?_) (fun _ _ _ _ _=>?_)|refine B3 false _ ["_law_name","_law_kind_here","_law_calls_here"] [none,some 3,some 2] rfl nd (Or.inl rfl) ?_ (fun _ _ _ _ _=>Bo 0 (show List.Nodup (["_law_name","_law_kind_here","_law_calls_here"]:List Str) by decide +kernel) (Or.inl rfl) (hf:=.inr rfl)) (fun _ _ _ _ _=>?_) (fun _ _ _ _ _=>?_)|refine B3 false _ ["_law_name","_law_kind_here","_law_known"] [none,some 3,some 1] rfl nd (Or.inl rfl) ?_ (fun _ _ _ _ _=>Bo 0 (show List.Nodup (["_law_name","_law_kind_here","_law_known"]:List Str) by decide +kernel) (Or.inl rfl) (hf:=.inr rfl)) (fun _ _ _ _ _=>?_) (fun _ _ _ _ _=>?_)|refine B3 false _ ["_law_name","_law_part","_law_wanted"] [none,none,some 5] rfl nd (Or.inl rfl) ?_ (fun _ _ _ _ _=>IH rfl (DW (Bo 0 (show List.Nodup (["_law_name","_law_part","_law_wanted"]:List Str) by decide +kernel) (Or.inl rfl) (hf:=.inr rfl)) ?_ (fun h1 h2=>DO h1 h2))) (fun _ _ _ _ _=>?_) (fun _ _ _ _ _=>?_)|refine B3 false _ ["each","kinds_by_name","kinds"] [none,some 13,some 6] rfl nd (Or.inl rfl) ?_ (fun _ _ _ _ _=>Bo 0 (show List.Nodup (["each","kinds_by_name","kinds"]:List Str) by decide +kernel) (Or.inl rfl) (hf:=.inr rfl)) (fun _ _ _ _ _=>?_) (fun _ _ _ _ _=>?_)|refine B3 false _ ["kind","makers"] [none,none] rfl nd (Or.inl rfl) ?_ (fun _ _ _ _ _=>IH rfl (DW (Bo 0 (show List.Nodup (["kind","makers"]:List Str) by decide +kernel) (Or.inl rfl) (hf:=.inr rfl)) ?_ (fun h1 h2=>DO h1 h2))) (fun _ _ _ _ _=>?_) (fun _ _ _ _ _=>?_)|$(⟨w8⟩):tactic|refine Xy (by assumption) (by assumption) _ ?_ (fun hv=>Wr (pv 0) hv rfl)|$(⟨w9⟩):tactic|refine PZ (by assumption) (by assumption) _ _ ?_ (fun hv=>JE hu (Kv (pv _) rfl) (pv _) hv rfl)|refine PU hu ?_ ?_ ?_ (fun he ho hi hs=>Q7 he (Wv ho hi hs))|$(⟨w10⟩):tactic|exact PY hu T.zW T.z0 0 4 (pv 0) (pv 4)|refine P0 hu T.zW T.z0 0 4 9 (pv 0) (pv 4) (pv 9) ?_|$(⟨w11⟩):tactic)
  |(show FAn _ _ _ _;$(⟨w12⟩):tactic)
  |(show GT _ _ _;first|refine Bo _ (by first | exact nd | exact(show List.Nodup (["_law_k","_law_kinds_here","_law_number"]:List Str) by decide +kernel) | exact(show List.Nodup (["_law_maker_here","_law_parts","_law_kind_here","_law_names","_law_words_here"]:List Str) by decide +kernel) | exact(show List.Nodup (["_law_name","_law_kind_here","_law_calls_here"]:List Str) by decide +kernel) | exact(show List.Nodup (["_law_name","_law_kind_here","_law_known"]:List Str) by decide +kernel) | exact(show List.Nodup (["_law_name","_law_part","_law_wanted"]:List Str) by decide +kernel) | exact(show List.Nodup (["_law_one","_law_name","_law_other"]:List Str) by decide +kernel) | exact(show List.Nodup (["_law_part","_law_kinds_here"]:List Str) by decide +kernel) | exact(show List.Nodup (["each","kinds_by_name","kinds"]:List Str) by decide +kernel) | exact(show List.Nodup (["kind","makers"]:List Str) by decide +kernel) | exact(show List.Nodup (["kind","name","stock"]:List Str) by decide +kernel) | exact(show List.Nodup (["maker","parts"]:List Str) by decide +kernel)) (by first | exact Or.inl rfl | exact Or.inr rfl)|$(⟨w13⟩):tactic)
  |(show GTs _ _ _;first|refine DW ?_ ?_ (fun h1 h2=>DO h1 h2)|$(⟨w14⟩):tactic)
  |(show FT _ _ _ _;first|$(⟨w15⟩):tactic|refine Qc ?_ (fun _=>rfl)|$(⟨w16⟩):tactic|refine Qe of_le of_le ?_ ?_ ?_ (fun ha hb hc=>O1 Ta Ta ha hb hc)|$(⟨w17⟩):tactic)
  |(show FI _ _ _ _ _;$(⟨w18⟩):tactic)
  |(show FIf _ _ _;$(⟨w19⟩):tactic)
  |(show FP _ _ _ _;$(⟨w20⟩):tactic)
  |(show FW _ _ _ _;$(⟨w21⟩):tactic)))
set_option hygiene false in
local macro_rules | `(tactic| exists $N)=>`(tactic| (
 have nd:List.Nodup (($N):List Str):=by decide +kernel
 first
  | refine LX X G d (fun kV dc pm an cdv ct us hl=>?_) fun f fd Fu _=>?_
  | refine Jbv (by first | exact T.zW | exact T.zm | exact T.zj) d (fun kV dc pm an cdv ct us hl=>?_) fun f fd Fu=>?_
  | refine Jbw X G (by assumption) d (fun kV dc pm an cdv ct us hl=>?_) fun f fd Fu=>?_
 ·first
   | (obtain⟨a,rfl⟩:=us1 hl;rfl)
   | (obtain⟨a,b,rfl⟩:=us2 hl;rfl)
   | (obtain⟨a,b,c,rfl⟩:=us3 hl;rfl)
   | (obtain⟨a,b,c,d,rfl⟩:=us4 hl;rfl)
   | (obtain⟨a,b,c,d,e,rfl⟩:=us5 hl;rfl)
   | (obtain⟨a,b,c,d,e,f,rfl⟩:=us6 hl;rfl)
 ·refine FC (N:=$N) Fu ⟨rfl,rfl,rfl,nd,rfl,by decide +kernel,by decide +kernel⟩ _ _ rfl rfl ?_;trivial))
include X G T
theorem Te(d:DF K "_law_mix" (top 48)):aF P w K mg base "_law_mix" 1 ["_law_cell","_law_k"] 2 Bz:=by exists ["_law_cell","_law_k","_law_number"]
variable(cE:aF P w K mg base "_law_mix" 1 ["_law_cell","_law_k"] 2 Bz)
theorem JH(d:DF K "_law_letters" (top 49)):aF P w K mg base "_law_letters" 1 ["_law_number","_law_many"] 2 CG:=by exists ["_law_number","_law_many","_law_made","_law_k"]
variable(dv:aF P w K mg base "_law_letters" 1 ["_law_number","_law_many"] 2 CG)
include dv in
theorem MT(d:DF K "_law_words" (top 50)):aF P w K mg base "_law_words" 2 ["_law_number","_law_many"] 2 Bn:=by exists ["_law_number","_law_many","_law_place","_law_made","_law_at","_law_own","_law_word","_law_sign"]
variable(bu:aF P w K mg base "_law_words" 2 ["_law_number","_law_many"] 2 Bn)
theorem JJ(d:DF K "_law_cell_at" (top 47)):aF P w K mg base "_law_cell_at" 1 ["_law_script","_law_k"] 2 Ax:=by exists ["_law_script","_law_k"]
variable(bq:aF P w K mg base "_law_cell_at" 1 ["_law_script","_law_k"] 2 Ax)
include cE bu bq in
theorem MW(d:DF K "_law_kinds" (top 51)):aF P w K mg base "_law_kinds" 3 ["_law_script"] 1 D2:=by exists ["_law_script","_law_count","_law_kinds_here","_law_words_here","_law_made","_law_at","_law_number","_law_makers_here","_law_k","_law_parts","_law_spot"]
variable(eX:aF P w K mg base "_law_kinds" 3 ["_law_script"] 1 D2)
theorem Iv(d:DF K "_law_copy_row" (top 58)):aF P w K mg base "_law_copy_row" 1 ["_law_own","_law_kind_here","_law_maker_here","_law_parts","_law_names"] 5 CQ:=by exists ["_law_own","_law_kind_here","_law_maker_here","_law_parts","_law_names","_law_arguments","_law_name","_law_part"]
variable(cX:aF P w K mg base "_law_copy_row" 1 ["_law_own","_law_kind_here","_law_maker_here","_law_parts","_law_names"] 5 CQ)
theorem LH(d:DF K "_law_makers" (top 52)):aF P w K mg base "_law_makers" 1 ["_law_kinds_here","_law_kind_here"] 2 CF:=by exists ["_law_kinds_here","_law_kind_here","_law_name","_law_makers_here"]
variable(aE:aF P w K mg base "_law_makers" 1 ["_law_kinds_here","_law_kind_here"] 2 CF)
theorem Kz{f:Addr}{fd:FuncData}(Fu:Fun K "_law_put" "_law_put" (top 57) f fd)(bO:∀k sp,Dn P w K mg base (CX1 P w) k f fd ["_law_expression","_law_name","_law_other"] sp->FnAt P w K mg base (CX1 P w) "_law_put" k ["_law_expression","_law_name","_law_other"] sp):∀n,Dn P w K mg base (CX1 P w) (1+n) f fd ["_law_expression","_law_name","_law_other"] (spX K 3 (EA n))
 |0=>⟨λvs H Q E h=>by rw[h.1];rfl,λA outer s H args us vs Q E hr he hb hv h=>by obtain⟨_,F,cm,ok,h⟩:=h;exact h.elim⟩
 |n+1=>by
  have fT:=bO _ _ (Kz Fu bO n);have nd:List.Nodup (["_law_expression","_law_name","_law_other"]:List Str):=by decide +kernel
  have hb:=FC (P:=P) (w:=w) (mg:=mg) (base:=base) (k:=1+n) (g:=Jh (EA n)) (N:=["_law_expression","_law_name","_law_other"]) (ps:=["_law_expression","_law_name","_law_other"]) Fu ⟨rfl,rfl,rfl,nd,rfl,by decide +kernel,by decide +kernel⟩ 3 0 rfl rfl (by trivial);exact hb
theorem Td(d:DF K "_law_put" (top 57)):aF P w K mg base "_law_put" 21 ["_law_expression","_law_name","_law_other"] 3 (EA 20):=LX X G d (λ_ _ _ _ _ _ us hl=>by obtain⟨a,b,c,rfl⟩:=us3 hl;rfl) λf fd F bO=>Kz X G T  F bO 20
variable(g5:aF P w K mg base "_law_put" 21 ["_law_expression","_law_name","_law_other"] 3 (EA 20))
include aE in
theorem GJ{f:Addr}{fd:FuncData}(Fu:Fun K "_law_least" "_law_least" (top 53) f fd)(bO:∀k sp,Dn P w K mg base (CX1 P w) k f fd ["_law_kinds_here","_law_kind_here"] sp->FnAt P w K mg base (CX1 P w) "_law_least" k ["_law_kinds_here","_law_kind_here"] sp):∀n,Dn P w K mg base (CX1 P w) (2+n) f fd ["_law_kinds_here","_law_kind_here"] (spX K 2 (Cq n))
 |0=>⟨λvs H Q E h=>by rw[h.1];rfl,λA outer s H args us vs Q E hr he hb hv h=>by obtain⟨_,F,cm,ok,h⟩:=h;exact h.elim⟩
 |n+1=>by
  have fT:=bO _ _ (GJ Fu bO n);have nd:List.Nodup (["_law_kinds_here","_law_kind_here","_law_maker_here","_law_parts"]:List Str):=by decide +kernel
  have hb:=FC (P:=P) (w:=w) (mg:=mg) (base:=base) (k:=2+n) (g:=HI (Cq n)) (N:=["_law_kinds_here","_law_kind_here","_law_maker_here","_law_parts"]) (ps:=["_law_kinds_here","_law_kind_here"]) Fu ⟨rfl,rfl,rfl,nd,rfl,by decide +kernel,by decide +kernel⟩ 2 2 rfl rfl (by trivial);exact hb
include aE in
theorem MV(d:DF K "_law_least" (top 53)):aF P w K mg base "_law_least" 10 ["_law_kinds_here","_law_kind_here"] 2 (Cq 8):=LX X G d (λ_ _ _ _ _ _ us hl=>by obtain⟨a,b,rfl⟩:=us2 hl;rfl) λf fd F bO=>GJ X G T aE F bO 8
variable(bS:aF P w K mg base "_law_least" 10 ["_law_kinds_here","_law_kind_here"] 2 (Cq 8))
include aE bS in
theorem Fc{f:Addr}{fd:FuncData}(Fu:Fun K "_law_stream" "_law_stream" (top 55) f fd)(bO:∀k sp,Dn P w K mg base (CX1 P w) k f fd ["_law_kinds_here","_law_known","_law_calls_here","_law_kind_here","_law_number","_law_levels"] sp->FnAt P w K mg base (CX1 P w) "_law_stream" k ["_law_kinds_here","_law_known","_law_calls_here","_law_kind_here","_law_number","_law_levels"] sp):∀n,Dn P w K mg base (CX1 P w) (11+n) f fd ["_law_kinds_here","_law_known","_law_calls_here","_law_kind_here","_law_number","_law_levels"] (spX K 6 (By n))
 |0=>⟨λvs H Q E h=>by rw[h.1];rfl,λA outer s H args us vs Q E hr he hb hv h=>by obtain⟨_,F,cm,ok,h⟩:=h;exact h.elim⟩
 |n+1=>by
  have fT:=bO _ _ (Fc Fu bO n);have nd:List.Nodup (["_law_kinds_here","_law_known","_law_calls_here","_law_kind_here","_law_number","_law_levels","_law_names","_law_funs","_law_way","_law_word","_law_makers_here","_law_name","_law_wanted","_law_arguments","_law_one","_law_argument"]:List Str):=by decide +kernel
  have hb:=FC (P:=P) (w:=w) (mg:=mg) (base:=base) (k:=11+n) (g:=F9 (By n)) (N:=["_law_kinds_here","_law_known","_law_calls_here","_law_kind_here","_law_number","_law_levels","_law_names","_law_funs","_law_way","_law_word","_law_makers_here","_law_name","_law_wanted","_law_arguments","_law_one","_law_argument"]) (ps:=["_law_kinds_here","_law_known","_law_calls_here","_law_kind_here","_law_number","_law_levels"]) Fu ⟨rfl,rfl,rfl,nd,rfl,by decide +kernel,by decide +kernel⟩ 6 10 rfl rfl (by trivial);exact hb
include aE bS in
theorem LG(d:DF K "_law_stream" (top 55)):aF P w K mg base "_law_stream" 17 ["_law_kinds_here","_law_known","_law_calls_here","_law_kind_here","_law_number","_law_levels"] 6 (By 6):=LX X G d (λ_ _ _ _ _ _ us hl=>by obtain⟨a,b,c,d,e,f,rfl⟩:=us6 hl;rfl) λf fd F bO=>Fc X G T aE bS F bO 6
variable(cx:aF P w K mg base "_law_stream" 17 ["_law_kinds_here","_law_known","_law_calls_here","_law_kind_here","_law_number","_law_levels"] 6 (By 6))
include cx in
theorem MX(d:DF K "_law_grown" (top 56)):aF P w K mg base "_law_grown" 18 ["_law_kinds_here","_law_known","_law_calls_here","_law_kind_here","_law_number","_law_levels"] 6 Dk:=by exists ["_law_kinds_here","_law_known","_law_calls_here","_law_kind_here","_law_number","_law_levels"]
variable(cZ:aF P w K mg base "_law_grown" 18 ["_law_kinds_here","_law_known","_law_calls_here","_law_kind_here","_law_number","_law_levels"] 6 Dk)
include g5 cx cZ in
theorem Pk(d:DF K "_law_body" (top 59)):aF P w K mg base "_law_body" 22 ["_law_kinds_here","_law_calls_here","_law_function_here","_law_known","_law_lessers","_law_digit"] 6 FF:=by exists ["_law_kinds_here","_law_calls_here","_law_function_here","_law_known","_law_lessers","_law_digit","_law_own","_law_wanted","_law_kind_here","_law_more","_law_arguments","_law_one","_law_argument"]
variable(fQ:aF P w K mg base "_law_body" 22 ["_law_kinds_here","_law_calls_here","_law_function_here","_law_known","_law_lessers","_law_digit"] 6 FF)
include cE bu aE fQ in
theorem Iu(d:DF K "_law_function" (top 60)):aF P w K mg base "_law_function" 23 ["_law_kinds_here","_law_own","_law_calls_here","_law_number"] 4 Cb:=by exists ["_law_kinds_here","_law_own","_law_calls_here","_law_number","_law_words_here","_law_wanted","_law_kind_here","_law_others","_law_rows","_law_at","_law_maker_here","_law_parts","_law_names","_law_known","_law_lessers","_law_digit"]
variable(cY:aF P w K mg base "_law_function" 23 ["_law_kinds_here","_law_own","_law_calls_here","_law_number"] 4 Cb)
include cE bu bq cX cY in
theorem Hq(d:DF K "_law_functions" (top 61)):aF P w K mg base "_law_functions" 24 ["_law_script","_law_kinds_here"] 2 BO:=by exists ["_law_script","_law_kinds_here","_law_words_here","_law_number","_law_kind_here","_law_makers_here","_law_names","_law_rows","_law_made","_law_calls_here","_law_k","_law_function_here"]
variable(cD:aF P w K mg base "_law_functions" 24 ["_law_script","_law_kinds_here"] 2 BO)
theorem MU(d:DF K "_law_maker" (top 63)):aF P w K mg base "_law_maker" 1 ["_law_kinds_here","_law_name"] 2 EW:=by exists ["_law_kinds_here","_law_name","_law_kind_here","_law_makers_here","_law_maker_here","_law_parts"]
variable(bT:aF P w K mg base "_law_maker" 1 ["_law_kinds_here","_law_name"] 2 EW)
include bT in
theorem Iq{f:Addr}{fd:FuncData}(Fu:Fun K "_law_kind" "_law_kind" (top 64) f fd)(bO:∀k sp,Dn P w K mg base (CX1 P w) k f fd ["_law_kinds_here","_law_known","_law_calls_here","_law_own","_law_lessers","_law_expression"] sp->FnAt P w K mg base (CX1 P w) "_law_kind" k ["_law_kinds_here","_law_known","_law_calls_here","_law_own","_law_lessers","_law_expression"] sp):∀n,Dn P w K mg base (CX1 P w) (2+n) f fd ["_law_kinds_here","_law_known","_law_calls_here","_law_own","_law_lessers","_law_expression"] (spX K 6 (C8 n))
 |0=>⟨λvs H Q E h=>by rw[h.1];rfl,λA outer s H args us vs Q E hr he hb hv h=>by obtain⟨_,F,cm,ok,h⟩:=h;exact h.elim⟩
 |n+1=>by
  have fT:=bO _ _ (Iq Fu bO n);have nd:List.Nodup (["_law_kinds_here","_law_known","_law_calls_here","_law_own","_law_lessers","_law_expression","_law_word","_law_name","_law_got","_law_kind_here","_law_wanted","_law_one","_law_argument","_law_told"]:List Str):=by decide +kernel
  have hb:=FC (P:=P) (w:=w) (mg:=mg) (base:=base) (k:=2+n) (g:=DE (C8 n)) (N:=["_law_kinds_here","_law_known","_law_calls_here","_law_own","_law_lessers","_law_expression","_law_word","_law_name","_law_got","_law_kind_here","_law_wanted","_law_one","_law_argument","_law_told"]) (ps:=["_law_kinds_here","_law_known","_law_calls_here","_law_own","_law_lessers","_law_expression"]) Fu ⟨rfl,rfl,rfl,nd,rfl,by decide +kernel,by decide +kernel⟩ 6 8 rfl rfl (by trivial);exact hb
include bT in
theorem Pj(d:DF K "_law_kind" (top 64)):aF P w K mg base "_law_kind" 22 ["_law_kinds_here","_law_known","_law_calls_here","_law_own","_law_lessers","_law_expression"] 6 (C8 20):=LX X G d (λ_ _ _ _ _ _ us hl=>by obtain⟨a,b,c,d,e,f,rfl⟩:=us6 hl;rfl) λf fd F bO=>Iq X G T bT F bO 20
variable(fR:aF P w K mg base "_law_kind" 22 ["_law_kinds_here","_law_known","_law_calls_here","_law_own","_law_lessers","_law_expression"] 6 (C8 20))
theorem MZ(d:DF K "_law_calls" (top 62)):aF P w K mg base "_law_calls" 1 ["_law_functions_here"] 1 CS:=by exists ["_law_functions_here","_law_made","_law_function_here"]
variable(cW:aF P w K mg base "_law_calls" 1 ["_law_functions_here"] 1 CS)
theorem JI(d:DF K "_law_is_name" (top 66)):aF P w K mg base "_law_is_name" 1 ["_law_text"] 1 CH:=by exists ["_law_text","_law_sign"]
variable(du:aF P w K mg base "_law_is_name" 1 ["_law_text"] 1 CH)
include fR cW du in
theorem Tf(d:DF K "_law_due" (top 67)):aF P w K mg base "_law_due" 23 ["_law_kinds_here","_law_functions_here","_law_saying"] 3 IP:=by exists ["_law_kinds_here","_law_functions_here","_law_saying","_law_names","_law_left","_law_right","_law_known","_law_name","_law_kind_here","_law_one","_law_other"]
variable(gZ:aF P w K mg base "_law_due" 23 ["_law_kinds_here","_law_functions_here","_law_saying"] 3 IP)
theorem Pl(d:DF K "_law_bent" (top 68)):aF P w K mg base "_law_bent" 1 ["_law_names","_law_left","_law_right","_law_number","_law_words_here"] 5 FG:=by exists ["_law_names","_law_left","_law_right","_law_number","_law_words_here","_law_way","_law_at","_law_name","_law_kind_here"]
variable(fP:aF P w K mg base "_law_bent" 1 ["_law_names","_law_left","_law_right","_law_number","_law_words_here"] 5 FG)
theorem LF(d:DF K "is_name" (top 21)):aF P w K mg base "is_name" 1 ["text"] 1 AY:=by exists ["text"]
variable(aQ:aF P w K mg base "is_name" 1 ["text"] 1 AY)
theorem Gs(d:DM K af "kinds" "Stock.kinds" (inClass (top 41) 1)):aM P w K mg base af "kinds" 1 ["self"] 1 (A1 af):=by exists ["self"]
variable(aP:aM P w K mg base af "kinds" 1 ["self"] 1 (A1 af))
include aQ aP in
theorem Gm(d:DF K "check_pairs" (top 36)):aF P w K mg base "check_pairs" 2 ["stock","pairs"] 2 (Bw af):=by exists ["stock","pairs","ahead","name","kind"]
variable(b9:aF P w K mg base "check_pairs" 2 ["stock","pairs"] 2 (Bw af))
theorem Gr(d:DM K af "parts" "Stock.parts" (inClass (top 41) 3)):aM P w K mg base af "parts" 1 ["self","maker"] 2 (Bf af):=by exists ["self","maker"]
variable(aY:aM P w K mg base af "parts" 1 ["self","maker"] 2 (Bf af))
theorem Hm(d:DM K af "home" "Stock.home" (inClass (top 41) 4)):aM P w K mg base af "home" 1 ["self","maker"] 2 (Cp af):=by exists ["self","maker"]
variable(cF:aM P w K mg base af "home" 1 ["self","maker"] 2 (Cp af))
include aY cF in
theorem EI(d:DF K "kinds_of_head" (top 29)):aF P w K mg base "kinds_of_head" 2 ["scope","form","head"] 3 (Ap aj af):=by exists ["scope","form","head"]
variable(aG:aF P w K mg base "kinds_of_head" 2 ["scope","form","head"] 3 (Ap aj af))
theorem Fe(d:DF K "kind_of_name" (top 28)):aF P w K mg base "kind_of_name" 1 ["scope","name"] 2 (A5 aj):=by exists ["scope","name"]
variable(aL:aF P w K mg base "kind_of_name" 1 ["scope","name"] 2 (A5 aj))
include aG aL in
theorem C3{f:Addr}{fd:FuncData}(Fu:Fun K "kind_within" "kind_within" (top 27) f fd)(bO:∀k sp,Dn P w K mg base (CX1 P w) k f fd ["scope","expression"] sp->FnAt P w K mg base (CX1 P w) "kind_within" k ["scope","expression"] sp):∀n,Dn P w K mg base (CX1 P w) (3+n) f fd ["scope","expression"] (spX K 2 (Aq aj af n))
 |0=>⟨λvs H Q E h=>by rw[h.1];rfl,λA outer s H args us vs Q E hr he hb hv h=>by obtain⟨_,F,cm,ok,h⟩:=h;exact h.elim⟩
 |n+1=>by
  have fT:=bO _ _ (C3 Fu bO n);have nd:List.Nodup (["scope","expression","form","head","arguments","wanted","kind","argument","kind_wanted"]:List Str):=by decide +kernel
  have hb:=FC (P:=P) (w:=w) (mg:=mg) (base:=base) (k:=3+n) (g:=AK aj af (Aq aj af n)) (N:=["scope","expression","form","head","arguments","wanted","kind","argument","kind_wanted"]) (ps:=["scope","expression"]) Fu ⟨rfl,rfl,rfl,nd,rfl,by decide +kernel,by decide +kernel⟩ 2 7 rfl rfl (by trivial);exact hb
include aG aL in
theorem Gk(d:DF K "kind_within" (top 27)):aF P w K mg base "kind_within" 23 ["scope","expression"] 2 (Aq aj af 20):=LX X G d (λ_ _ _ _ _ _ us hl=>by obtain⟨a,b,rfl⟩:=us2 hl;rfl) λf fd F bO=>C3 X G T aG aL F bO 20
variable(aZ:aF P w K mg base "kind_within" 23 ["scope","expression"] 2 (Aq aj af 20))
include cA in
theorem Ho(d:DM K aj "__init__" "Scope.__init__" (inClass (top 25) 0)):aK P w K mg base "Scope" aj 1 ["self","stock","heads","kinds_by_name","own","lessers"] 6 (BN aj):=by exists ["self","stock","heads","kinds_by_name","own","lessers"]
variable(bw:aK P w K mg base "Scope" aj 1 ["self","stock","heads","kinds_by_name","own","lessers"] 6 (BN aj))
include aZ bw in
theorem LD(d:DF K "kind_of" (top 26)):aF P w K mg base "kind_of" 24 ["program","names","expression"] 3 (CD ak aj af):=by exists ["program","names","expression"]
variable(en:aF P w K mg base "kind_of" 24 ["program","names","expression"] 3 (CD ak aj af))
include b9 en in
theorem Ph(d:DF K "sided" (top 35)):aF P w K mg base "sided" 25 ["program","saying"] 2 (FD ak aj af):=by exists ["program","saying","names","left","right","kind"]
variable(fS:aF P w K mg base "sided" 25 ["program","saying"] 2 (FD ak aj af))
theorem MY(d:DF K "_law_class" (top 65)):aF P w K mg base "_law_class" 1 ["_law_kept"] 1 EX:=by exists ["_law_kept","_law_got","_law_names"]
variable(eW:aF P w K mg base "_law_class" 1 ["_law_kept"] 1 EX)
theorem Fi(d:DM K af "makers" "Stock.makers" (inClass (top 41) 2)):aM P w K mg base af "makers" 1 ["self","kind"] 2 (AV af):=by exists ["self","kind"]
variable(aJ:aM P w K mg base af "makers" 1 ["self","kind"] 2 (AV af))
include aP aJ in
theorem JG(d:DF K "is_maker" (top 31)):aF P w K mg base "is_maker" 2 ["stock","name"] 2 (Dj af):=by exists ["stock","name"]
variable(dw:aF P w K mg base "is_maker" 2 ["stock","name"] 2 (Dj af))
include aQ aP aJ dw in
theorem Hk(d:DF K "check_head" (top 30)):aF P w K mg base "check_head" 3 ["stock","heads","function"] 3 (Cn af):=by exists ["stock","heads","function","name","kinds","kind","others","rows","each"]
variable(cH:aF P w K mg base "check_head" 3 ["stock","heads","function"] 3 (Cn af))
include aQ in
theorem Gn(d:DF K "check_names" (top 33)):aF P w K mg base "check_names" 2 ["names"] 1 B0:=by exists ["names","ahead","name"]
variable(b8:aF P w K mg base "check_names" 2 ["names"] 1 B0)
include aY aZ bw b8 in
theorem Ir(d:DF K "check_row" (top 32)):aF P w K mg base "check_row" 24 ["stock","heads","function","maker","row"] 5 (CP aj af):=by exists ["stock","heads","function","maker","row","name","kinds","kind","others","rows","names","body","parts","kinds_by_name","lessers"]
variable(c5:aF P w K mg base "check_row" 24 ["stock","heads","function","maker","row"] 5 (CP aj af))
include bD aJ cH c5 in
theorem Fj(d:DM K ak "__init__" "Program.__init__" (inClass (top 24) 0)):aK P w K mg base "Program" ak 25 ["self","stock","functions"] 3 (BJ ak aj af):=by exists ["self","stock","functions","function","name","kinds","kind","others","rows","maker","row"]
variable(bU:aK P w K mg base "Program" ak 25 ["self","stock","functions"] 3 (BJ ak aj af))
theorem Fl(d:DF K "_law_every_maker" (top 54)):aF P w K mg base "_law_every_maker" 1 ["_law_kinds_here"] 1 Bm:=by exists ["_law_kinds_here","_law_made","_law_kind_here","_law_makers_here","_law_maker_here","_law_parts"]
variable(bR:aF P w K mg base "_law_every_maker" 1 ["_law_kinds_here"] 1 Bm)
include aQ in
theorem Gq(d:DF K "check_kinds" (top 42)):aF P w K mg base "check_kinds" 2 ["kinds"] 1 B1:=by exists ["kinds","above","kind","makers"]
variable(b4:aF P w K mg base "check_kinds" 2 ["kinds"] 1 B1)
include aQ in
theorem Gp(d:DF K "check_maker" (top 44)):aF P w K mg base "check_maker" 2 ["maker","parts","makers_ahead","all_kinds"] 4 Bx:=by exists ["maker","parts","makers_ahead","all_kinds","part"]
variable(b7:aF P w K mg base "check_maker" 2 ["maker","parts","makers_ahead","all_kinds"] 4 Bx)
theorem Fh(d:DF K "check_ground" (top 45)):aF P w K mg base "check_ground" 1 ["maker","parts","kinds_above"] 3 Bl:=by exists ["maker","parts","kinds_above","part"]
variable(bV:aF P w K mg base "check_ground" 1 ["maker","parts","kinds_above"] 3 Bl)
include b7 bV in
theorem Ff(d:DF K "check_makers" (top 43)):aF P w K mg base "check_makers" 3 ["kinds"] 1 BI:=by exists ["kinds","all_kinds","kinds_above","makers_ahead","kind","makers","first","maker","parts"]
variable(bW:aF P w K mg base "check_makers" 3 ["kinds"] 1 BI)
include cB b4 bW in
theorem Hl(d:DM K af "__init__" "Stock.__init__" (inClass (top 41) 0)):aK P w K mg base "Stock" af 4 ["self","kinds"] 2 (Co af):=by exists ["self","kinds","kind","makers","maker","parts"]
variable(cG:aK P w K mg base "Stock" af 4 ["self","kinds"] 2 (Co af))
include cE bu bq eX cZ cD cW gZ fP fS eW bU bR cG in
theorem WV{f:Addr}{fd:FuncData}(Fu:Fun K "law" "law" (top 69) f fd):Dn P w K mg base (CX1 P w) 27 f fd ["_law_script"] (spX K 1 (Yr ak aj af)):=by
 have nd:List.Nodup (["_law_script","_law_head","_law_kinds_here","_law_functions_here","_law_words_here","_law_names","_law_k","_law_kind_here","_law_sides","_law_number","_law_saying","_law_due_here","_law_told","_law_kept","e"]:List Str):=by decide +kernel
 refine FC (N:=["_law_script","_law_head","_law_kinds_here","_law_functions_here","_law_words_here","_law_names","_law_k","_law_kind_here","_law_sides","_law_number","_law_saying","_law_due_here","_law_told","_law_kept","e"]) Fu ⟨rfl,rfl,rfl,nd,rfl,by decide +kernel,by decide +kernel⟩ _ _ rfl rfl ?_;trivial
end
def ON(K:Fg):Sp:=λvs H Q _=>∃(a:Addr)(ns:List Int),vs=[.ref a]/\SqL K H a (ns.map V.int)/\ns.length<=63/\Dd ns<=2^20/\∀H',Q (.v true) H'
theorem Kr{K:Fg}{F:Wd}{H:Hp}:∀(ns:List Int),Ag K F H (ns.map T.int) (ns.map V.int)
 | []=>by simp[Ag]
 |n::ns=>by simp only[sX,Ag];exact⟨_,_,rfl,by simp[AF],Kr ns⟩
theorem Xg{K:Fg}{Fn:FS->Out Rv}(good:∀ns:List Int,ns.length<=63->Dd ns<=2^20->∃fs,Fn [some (.val (.zY (ns.map T.int)))]=.ok (.t (.v true)) fs):∀vs H Q E,ON K vs H Q E->spX K 1 Fn vs H Q E:=by
 intro vs H Q E ⟨a,ns,e,hs,hl,hb,k⟩;subst e;obtain⟨fs,eg⟩:=good ns hl hb;have key:∀F:Wd,StL K F H a (ns.map V.int)->(∀b,F b->H b≠none)->(∀b,¬F.p b)->spX K 1 Fn [.ref a] H Q E:=λF st fd np=>by
  refine⟨rfl,F,[some (.val (.zY (ns.map T.int)))],⟨[],?_,ua,(λ_ m=>nomatch m),fd,?_,λb p=>(np b p).elim,λb _ p=>np b p,(λ_ m=>nomatch m)⟩,?_⟩
  .show Ao K F H [some (.val (.zY (ns.map T.int)))] [some (.ref a)] [];simp only[Ao];exact⟨_,_,rfl,by simp only[AF];exact⟨a,_,rfl,st,Kr ns⟩,by first|exact⟨rfl,rfl⟩|trivial⟩
  .intro i o e;cases i with|zero=>cases e|succ i=>simp at e
  .rw[eg];intro F' H' u av _ q;obtain⟨L,L',_,⟨_,qu⟩,_⟩:=q;have:u=.v true:=qu;subst this;exact k H'
 rcases hs with hs|hs
 .exact key ⟨λb=>b=a,λ_=>False⟩ (.inl ⟨rfl,hs⟩) (λb e=>by have e':b=a:=e;subst e';rcases hs with z|⟨o,z⟩<;>(rw[z];exact λq=>nomatch q)) λ_ p=>p
 .exact key ⟨λ_=>False,λ_=>False⟩ (.inr hs) (λb e=>e.elim) λ_ p=>p
theorem all_mk{l:OpenLaw}{w:World}{K:Fg}{h:Heap}{mg:Str->Option Value}{fa ak aj af:Addr}(X:K.In h)(G:h.Ns mainGlobals mg)(qo:mg "law"=some (.ref fa))(bD:CC K "Program" ak)(cA:CC K "Scope" aj)(cB:CC K "Stock" af)(T:Tx K mg ak aj af)
  (d0:DF K "_law_mix" (top 48))
  (d1:DF K "_law_letters" (top 49))
  (d2:DF K "_law_words" (top 50))
  (d3:DF K "_law_cell_at" (top 47))
  (d4:DF K "_law_kinds" (top 51))
  (d5:DF K "_law_copy_row" (top 58))
  (d6:DF K "_law_makers" (top 52))
  (d7:DF K "_law_put" (top 57))
  (d8:DF K "_law_least" (top 53))
  (d9:DF K "_law_stream" (top 55))
  (oV:DF K "_law_grown" (top 56))
  (oW:DF K "_law_body" (top 59))
  (oX:DF K "_law_function" (top 60))
  (oY:DF K "_law_functions" (top 61))
  (oZ:DF K "_law_maker" (top 63))
  (o4:DF K "_law_kind" (top 64))
  (o5:DF K "_law_calls" (top 62))
  (o7:DF K "_law_is_name" (top 66))
  (o8:DF K "_law_due" (top 67))
  (pb:DF K "_law_bent" (top 68))
  (pe:DF K "is_name" (top 21))
  (ph:DM K af "kinds" "Stock.kinds" (inClass (top 41) 1))
  (pj:DF K "check_pairs" (top 36))
  (pk:DM K af "parts" "Stock.parts" (inClass (top 41) 3))
  (pq:DM K af "home" "Stock.home" (inClass (top 41) 4))
  (pw:DF K "kinds_of_head" (top 29))
  (pz:DF K "kind_of_name" (top 28))
  (pA:DF K "kind_within" (top 27))
  (pB:DM K aj "__init__" "Scope.__init__" (inClass (top 25) 0))
  (pC:DF K "kind_of" (top 26))
  (pE:DF K "sided" (top 35))
  (pF:DF K "_law_class" (top 65))
  (pG:DM K af "makers" "Stock.makers" (inClass (top 41) 2))
  (pH:DF K "is_maker" (top 31))
  (pJ:DF K "check_head" (top 30))
  (pK:DF K "check_names" (top 33))
  (pL:DF K "check_row" (top 32))
  (pM:DM K ak "__init__" "Program.__init__" (inClass (top 24) 0))
  (pN:DF K "_law_every_maker" (top 54))
  (pO:DF K "check_kinds" (top 42))
  (pP:DF K "check_maker" (top 44))
  (pQ:DF K "check_ground" (top 45))
  (pR:DF K "check_makers" (top 43))
  (pT:DM K af "__init__" "Stock.__init__" (inClass (top 41) 0))
  (pU:DF K "law" (top 69)) :
  ∃fd:FuncData,(∀(s:Shared)(v:Value),BindsTo s fd ⟨[v],[]⟩ [("_law_script",v)])/\∀base:Heap,K.In base->base.Ns mainGlobals mg->Dn l.prog w K mg base (CX1 l.prog w) 27 fa fd ["_law_script"] (ON K):=by
 obtain⟨f,fd,a,F⟩:=pU;cases qo.symm.trans (mg_of X G a);refine⟨fd,by obtain⟨_,_,_,_,_,_,_,_,_,rfl,_⟩:=F.ex;exact λs v=>.of_eq rfl,λbase _ _=>?_⟩;have G0:=Te (P:=l.prog) (w:=w) (base:=base) X G T  d0;have G1:=JH (P:=l.prog) (w:=w) (base:=base) X G T  d1;have G2:=MT (P:=l.prog) (w:=w) (base:=base) X G T G1 d2;have G3:=JJ (P:=l.prog) (w:=w) (base:=base) X G T  d3;have G4:=MW (P:=l.prog) (w:=w) (base:=base) X G T G0 G2 G3 d4;have G5:=Iv (P:=l.prog) (w:=w) (base:=base) X G T  d5;have G6:=LH (P:=l.prog) (w:=w) (base:=base) X G T  d6;have G7:=Td (P:=l.prog) (w:=w) (base:=base) X G T  d7;have G8:=MV (P:=l.prog) (w:=w) (base:=base) X G T G6 d8;have G9:=LG (P:=l.prog) (w:=w) (base:=base) X G T G6 G8 d9;have lO:=MX (P:=l.prog) (w:=w) (base:=base) X G T G9 oV;have nY:=Pk (P:=l.prog) (w:=w) (base:=base) X G T G7 G9 lO oW;have nZ:=Iu (P:=l.prog) (w:=w) (base:=base) X G T G0 G2 G6 nY oX;have n4:=Hq (P:=l.prog) (w:=w) (base:=base) X G T G0 G2 G3 G5 nZ oY;have n5:=MU (P:=l.prog) (w:=w) (base:=base) X G T  oZ;have n6:=Pj (P:=l.prog) (w:=w) (base:=base) X G T n5 o4;have lQ:=MZ (P:=l.prog) (w:=w) (base:=base) X G T  o5;have n8:=JI (P:=l.prog) (w:=w) (base:=base) X G T  o7;have n9:=Tf (P:=l.prog) (w:=w) (base:=base) X G T n6 lQ n8 o8;have og:=Pl (P:=l.prog) (w:=w) (base:=base) X G T  pb;have iF:=LF (P:=l.prog) (w:=w) (base:=base) X G T  pe;have j9:=Gs (P:=l.prog) (w:=w) (base:=base) X G T  ph;have oh:=Gm (P:=l.prog) (w:=w) (base:=base) X G T iF j9 pj;have lR:=Gr (P:=l.prog) (w:=w) (base:=base) X G T  pk;have oi:=Hm (P:=l.prog) (w:=w) (base:=base) X G T  pq;have oj:=EI (P:=l.prog) (w:=w) (base:=base) X G T lR oi pw;have om:=Fe (P:=l.prog) (w:=w) (base:=base) X G T  pz;have lT:=Gk (P:=l.prog) (w:=w) (base:=base) X G T oj om pA;have lU:=Ho (P:=l.prog) (w:=w) (base:=base) X G T cA pB;have oo:=LD (P:=l.prog) (w:=w) (base:=base) X G T lT lU pC;have oq:=Ph (P:=l.prog) (w:=w) (base:=base) X G T oh oo pE;have ot:=MY (P:=l.prog) (w:=w) (base:=base) X G T  pF;have ka:=Fi (P:=l.prog) (w:=w) (base:=base) X G T  pG;have ou:=JG (P:=l.prog) (w:=w) (base:=base) X G T j9 ka pH;have oy:=Hk (P:=l.prog) (w:=w) (base:=base) X G T iF j9 ka ou pJ;have oz:=Gn (P:=l.prog) (w:=w) (base:=base) X G T iF pK;have oA:=Ir (P:=l.prog) (w:=w) (base:=base) X G T lR lT lU oz pL;have oB:=Fj (P:=l.prog) (w:=w) (base:=base) X G T bD ka oy oA pM;have oC:=Fl (P:=l.prog) (w:=w) (base:=base) X G T  pN;have oE:=Gq (P:=l.prog) (w:=w) (base:=base) X G T iF pO;have oF:=Gp (P:=l.prog) (w:=w) (base:=base) X G T iF pP;have oG:=Fh (P:=l.prog) (w:=w) (base:=base) X G T  pQ;have oH:=Ff (P:=l.prog) (w:=w) (base:=base) X G T oF oG pR;have oI:=Hl (P:=l.prog) (w:=w) (base:=base) X G T cB oE oH pT;exact(WV (P:=l.prog) (w:=w) (base:=base) X G T G0 G2 G3 G4 lO n4 lQ n9 og oq ot oB oC oI F).imp (Xg (good ak aj af))
theorem exG{α:Type}{K:Fg}{h:Heap}{mg:Str->Option Value}{x:Str}{v:α->Value}{t:α}(X:K.In h)(G:h.Ns mainGlobals mg)(e:nsIn K mainGlobals x=some (some (v t))):∃t,mg x=some (v t):=⟨t,mg_of X G e⟩
theorem naG{K:Fg}{C:Addr}{f:Str}(e:findIn K (.ref C) f=some none):Be K C f:=e
theorem walk{l:OpenLaw}{q:Program}{loose:List Str}{XP:(Str->Option Value)->Heap->Prop}{d:DefRec}{K:Params->Fg}{as:List Addr}{N tk:Nat}(hn:l.most=some 63)(jL:d.params.defaults=[])(hK:∀P:Params,as=(K P).map (·.1))
  (F:∀(w:World)(mg:Str->Option Value)(fa:Addr)(h:Heap),(K w.params).In h->h.Ns mainGlobals mg->mg d.name=some (.ref fa) ->
   ∃fd:FuncData,(∀(s:Shared)(u:Value),BindsTo s fd ⟨[u],[]⟩ [("_law_script",u)])/\∀base:Heap,(K w.params).In base->base.Ns mainGlobals mg->Dn l.prog w (K w.params) mg base (CX1 l.prog w) 27 fa fd ["_law_script"] (ON (K w.params))) :
  WalkX q loose XP (PySem.W.X.obsZ as) (PySem.W.X.valZ K N tk) l.row.toRowW d [] (λf vs=>PySem.call f vs) :=
 L2.Jr (n:=63) (k:=27) (x:="_law_script") (CX:=λw=>CX1 l.prog w) (sp:=ON) hn (by decide) jL ⟨rfl,by decide,by decide⟩ hK F (λ_ _ a ns hl hb _ hS=>⟨a,ns,rfl,hS,hl,hb,λ_=>rfl⟩) λ_ _ _ _ _ ⟨_,_,_,_,_,_,_,_,_,_,_,q⟩=>q
end Sy
structure PySem.W.Fast:Prop where(tw7878036446394478983 tw15669912100026306854 tw1110770836296804203 tw16445483180937306091 tw4946149190913754468 tw2344739032291919794 tw12776387665060592559 tw15883226375178391713 tw9358573572738561808 tw8263347832688791192 tw4827234549900407218 tw9531390547142770483 tw82025482277605084 tw15210835577827180930 tw9713390675112969065 tw12492491450003100634 tw3060523996182362350 tw6901658687746145149 tw7291726123998996342 tw17657261826658408343 tw3296200950523574116 tw4345536320398693615 tw5320649498984113175 tw8029931882366710599 tw17092801109461463116 tw11933968702106575577 tw2773281164890634959 tw11936188864894199219 tw12915047161763220375 tw551931134636520731 tw10183212859526720928 tw15912616938070602648 tw13246059413449174839 tw5610397627865108134 tw9057141720745679001 tw6615900009961110864 tw799552751258187186 tw10467140159143245854 tw9008429553452680748 tw9990834138452051431 tw4928452765294885537 tw433794175319682061 tw10806609414265819964 tw719568371192761004 tw12072212090496169906 tw14843144486046008918 tw12444261724915109008 tw3389755613229901568 tw4251347743089102600 tw12258736880165399657 tw2293458481160366766 tw14232905225216030717 tw14585568634454118690 tw9037651064955387550 tw10584836257367933755 tw10053960141395343844 tw9180010800734905061 tw8137125541546191658 tw2808917112430369294 tw9765591720919082237 tw14746426419903893131 tw8145628782856310846 tw17061812084270253815 tw8078067590351807234 tw14022973299430494904 tw12939409201401188990 tw3810436316394894805 tw4812191001384018448 tw7795768610550169272 tw11196181778702449339 tw13164237928057850576 tw9403305589382247501 tw10013034973840378833 tw7648052128068497138 tw17425643844457650254 tw16948878932546817891 tw8467166388022450633 tw15095889435022757733 tw3326503408172774312 tw4339145888054951350 tw14680629158144702246 tw13126744215866734789 tw10126997389562597348 tw5668843423347242403 tw16363388624892148207 tw10709829122403523039 tw6336842605053249474 tw4919669848197190778 tw12130536531797860571 tw4048935988522773121 tw12206608878569214901 tw14917952294279968095 tw2840571666713073400 tw11497716564933471973 tw13423770742939362583 tw11224256730884147155 tw5224978856258751860 tw16698548026525581519 tw16502330263060848312 tw39258221771656536 tw16261759216181916098 tw6542877331699372061 tw15703613150135319264 tw6196212597308044606 tw12274572524107737063 tw8101045308977465412 tw16279676022631471721 tw16494246194041305342 tw18030876340346748753 tw657618983943755047 tw16226754319255070977 tw5392324997832102887 tw13577872414484115108 tw16027229245301192303 tw2224919711521615740 tw1970600507502029950 tw7738207831049512123 tw7921363276974117692 tw13593244515330283591 tw12774961619250588298 tw12180866444530241102 tw8946456395782238547 tw753631729380859082 tw12335695960158948407 tw14439145297995604521 tw8073513497571056897 tw13407961250489304087 tw7597109962010584913 tw2235190892360349370 tw12601729738805139307 tw12028032592098977373 tw12489102394075696188 tw16437581327111752385 tw12756632629448643903 tw349029957803754627 tw8708062686456221030 tw4139617803592818698 tw8107833547434883675 tw7090325806680446314 tw18167627968322682258 tw17920502983164722399 tw2396384049527365398 tw6497788468562913576 tw15650520825990251408 tw13980510875094163537 tw5046723457383193892 tw17664597643858233658 tw4282132091347789077 tw16823010613487452530 tw17941068874238916264 tw7853843028050544931:True)
open PySem PySem.W PyProof.Rows
set_option maxRecDepth 100000 in
set_option maxHeartbeats 0 in
theorem PySem.Challenge.cw_stairsay_k41_sided_holds : PySem.Challenge.rw_stairsay_k41_sided.Holds := by
 w_on;o_law;z_head;(case hw=>w_witness2)
 k_fill
 refine Sy.walk (l:=PySem.Challenge.rw_stairsay_k41_sided) rfl rfl (λP=>rfl) ?F
 case F =>
  intro w mg fa h KX G i5;refine' Sy.all_mk KX G i5 ⟨?_,?_,?_⟩ ⟨?_,?_,?_⟩ ⟨?_,?_,?_⟩ ⟨PySem.W.mg_none_of KX G ?_,PySem.W.mg_none_of KX G ?_,PySem.W.mg_none_of KX G ?_,PySem.W.mg_none_of KX G ?_,PySem.W.mg_none_of KX G ?_,PySem.W.mg_none_of KX G ?_,PySem.W.mg_none_of KX G ?_,PySem.W.mg_none_of KX G ?_,PySem.W.mg_none_of KX G ?_,PySem.W.mg_none_of KX G ?_,PySem.W.mg_none_of KX G ?_,PySem.W.mg_none_of KX G ?_,PySem.W.mg_none_of KX G ?_,PySem.W.mg_none_of KX G ?_,Sy.exG KX G ?_,Sy.exG KX G ?_,Sy.exG KX G ?_,Sy.exG KX G ?_,Sy.exG KX G ?_,Sy.exG KX G ?_,⟨?_,?_,?_,?_⟩,⟨?_,?_,?_,?_⟩,⟨?_,?_,?_,?_⟩,Sy.naG ?_,Sy.naG ?_,Sy.naG ?_,Sy.naG ?_,Sy.naG ?_,Sy.naG ?_,Sy.naG ?_,Sy.naG ?_,Sy.naG ?_,Sy.naG ?_,Sy.naG ?_,.of KX G (by kernel_rfl)⟩ ⟨_,_,?_,L2.Ar ?_ ?_ ?_⟩ ⟨_,_,?_,L2.Ar ?_ ?_ ?_⟩ ⟨_,_,?_,L2.Ar ?_ ?_ ?_⟩ ⟨_,_,?_,L2.Ar ?_ ?_ ?_⟩ ⟨_,_,?_,L2.Ar ?_ ?_ ?_⟩ ⟨_,_,?_,L2.Ar ?_ ?_ ?_⟩ ⟨_,_,?_,L2.Ar ?_ ?_ ?_⟩ ⟨_,_,?_,L2.Ar ?_ ?_ ?_⟩ ⟨_,_,?_,L2.Ar ?_ ?_ ?_⟩ ⟨_,_,?_,L2.Ar ?_ ?_ ?_⟩ ⟨_,_,?_,L2.Ar ?_ ?_ ?_⟩ ⟨_,_,?_,L2.Ar ?_ ?_ ?_⟩ ⟨_,_,?_,L2.Ar ?_ ?_ ?_⟩ ⟨_,_,?_,L2.Ar ?_ ?_ ?_⟩ ⟨_,_,?_,L2.Ar ?_ ?_ ?_⟩ ⟨_,_,?_,L2.Ar ?_ ?_ ?_⟩ ⟨_,_,?_,L2.Ar ?_ ?_ ?_⟩ ⟨_,_,?_,L2.Ar ?_ ?_ ?_⟩ ⟨_,_,?_,L2.Ar ?_ ?_ ?_⟩ ⟨_,_,?_,L2.Ar ?_ ?_ ?_⟩ ⟨_,_,?_,L2.Ar ?_ ?_ ?_⟩ ⟨_,_,?_,?_,L2.Ar ?_ ?_ ?_⟩ ⟨_,_,?_,L2.Ar ?_ ?_ ?_⟩ ⟨_,_,?_,?_,L2.Ar ?_ ?_ ?_⟩ ⟨_,_,?_,?_,L2.Ar ?_ ?_ ?_⟩ ⟨_,_,?_,L2.Ar ?_ ?_ ?_⟩ ⟨_,_,?_,L2.Ar ?_ ?_ ?_⟩ ⟨_,_,?_,L2.Ar ?_ ?_ ?_⟩ ⟨_,_,?_,?_,L2.Ar ?_ ?_ ?_⟩ ⟨_,_,?_,L2.Ar ?_ ?_ ?_⟩ ⟨_,_,?_,L2.Ar ?_ ?_ ?_⟩ ⟨_,_,?_,L2.Ar ?_ ?_ ?_⟩ ⟨_,_,?_,?_,L2.Ar ?_ ?_ ?_⟩ ⟨_,_,?_,L2.Ar ?_ ?_ ?_⟩ ⟨_,_,?_,L2.Ar ?_ ?_ ?_⟩ ⟨_,_,?_,L2.Ar ?_ ?_ ?_⟩ ⟨_,_,?_,L2.Ar ?_ ?_ ?_⟩ ⟨_,_,?_,?_,L2.Ar ?_ ?_ ?_⟩ ⟨_,_,?_,L2.Ar ?_ ?_ ?_⟩ ⟨_,_,?_,L2.Ar ?_ ?_ ?_⟩ ⟨_,_,?_,L2.Ar ?_ ?_ ?_⟩ ⟨_,_,?_,L2.Ar ?_ ?_ ?_⟩ ⟨_,_,?_,L2.Ar ?_ ?_ ?_⟩ ⟨_,_,?_,?_,L2.Ar ?_ ?_ ?_⟩ ⟨_,_,?_,L2.Ar ?_ ?_ ?_⟩
  all_goals try k_is
