import PyProof.Rows.All
import Wide.All
import OpenK.AllK
import Wide.FinOn
import PyProof.EqAt
import PyProof.EqKinds
import PyProof.TupleCall
import PyProof.DictWalks
import KE.KSortTup
import KE.KTryMore
import PyProof.NsDelKeeps
import PyProof.ReprStr
import PyProof.StrLawsRepr
import PyProof.Rows.FStr
import PyProof.ListMulRoad
import PyProof.FactsAll.tuple_2
import KE.KPairComp
import PyProof.AttrMissHeap
import PyProof.FactsAll.zip_1
import KE.KDictOf
import KE.KMinBuiltin
import PyProof.Rows.CallKwBuiltin
import KE.KEqDict
import PySem.Challenge.RW_stairsay_k22_too_long
set_option Elab.async false
set_option linter.all false
set_option maxRecDepth 100000
set_option maxHeartbeats 4000000
open PySem.W (Frag instObj lookIn plainGet hasDictIn findIn handedIn plainGet_of isFn plainOver takerIn makesIn emptyDict keepIn methodCall_KW callWith_K fnOf codeIn excIn exmOne clsIn kitOne OpenLaw WalkO WalkX nsIn mroIn mg_of)
open PyProof.Rows (callWith_type1 isub_int slot_tuple_getitem len_tuple boot_min boot_sum boot_all boot_list boot_tuple boot_int envOfC boot_isinstance boot_any)
open PySem.F (slot_tuple_add entry_tuple_add args_tuple_add_2 slot_int_rmul plainAttrs_list)
abbrev sE:=@PySem.wpAny_bind
abbrev sF:=@PySem.Heap.get?_push_of_some
abbrev sG:=@List.map_cons
abbrev sH:=@List.length_map
abbrev sI:=@List.nodup_append
abbrev sJ:=@List.size_toArray
abbrev sL:=@List.getElem?_eq_getElem
abbrev sM:=@PySem.wpAny_pure
abbrev sN:=@List.mem_cons_of_mem
abbrev sO:=@PySem.Heap.lt_size
abbrev sP:=@PySem.Heap.get?_push_size
abbrev sQ:=@List.mem_cons
abbrev sR:=@Option.map_eq_some_iff
abbrev sS:=@List.getElem?_eq_some_iff
abbrev sT:=@Nat.lt_of_lt_of_le
abbrev sU:=@List.mem_append_right
abbrev sV:=@Nat.le_refl
abbrev sW:=@List.mem_append
abbrev sX:=@List.mem_append_left
abbrev sY:=@List.nodup_nil
abbrev sZ:=@List.mem_singleton
abbrev tf:=@List.map_append
abbrev tj:=@List.length_cons
abbrev tm:=@Bool.false_ne_true
abbrev tq:=@List.not_mem_nil
abbrev tu:=@List.nodup_cons
abbrev tw:=@decide_eq_true
abbrev tB:=@decide_eq_false
abbrev tD:=@Nat.ne_of_lt
abbrev tE:=@Option.bind_eq_some_iff
abbrev tH:=@Bool.and_eq_true
abbrev tJ:=@of_decide_eq_true
abbrev tK:=@Nat.le_trans
abbrev tL:=@List.mem_cons_self
abbrev tM:=@List.length_append
abbrev tN:=@PySem.wpAny_field
abbrev tO:=@List.getElem?_map
abbrev tQ:=@List.mem_map
abbrev tR:=@List.append_assoc
abbrev tS:=@List.nil_append
abbrev tU:=@List.map_map
abbrev tV:=@Option.bind_some
abbrev tW:=@PySem.Heap.get?_update_other
abbrev tX:=@List.lookup_cons
abbrev tY:=@Bool.false_eq_true
abbrev tZ:=@Nat.lt_irrefl
abbrev t5:=@List.append_nil
abbrev t6:=@PySem.Heap.get?_update_self
abbrev t7:=@List.getElem?_set_self
abbrev t8:=@List.getElem?_set_ne
abbrev t9:=@Array.getElem?_eq_getElem
abbrev ua:=@List.getElem?_eq_none
abbrev ub:=@List.all_eq_true
abbrev uc:=@List.mem_of_getElem?
abbrev ud:=@List.map_nil
abbrev ue:=@PySem.Heap.size_push
abbrev uf:=@List.length_range
abbrev ug:=@List.filterMap_cons
abbrev uh:=@List.length_take
abbrev uj:=@List.flatMap_cons
abbrev uk:=@Bool.eq_iff_iff
abbrev um:=@Nat.lt_trans
abbrev uq:=@Array.length_toList
abbrev ur:=@List.eq_nil_of_length_eq_zero
abbrev uu:=@List.cons_append
abbrev uw:=@List.mem_range
abbrev ux:=@List.forIn_cons
abbrev uz:=@Array.getElem?_eq_some_iff
abbrev uA:=@Array.getElem?_eq_none_iff
abbrev uB:=@List.map_flatMap
abbrev uC:=@List.replicate_succ
abbrev uD:=@Option.isSome_iff_exists
abbrev uE:=@List.getElem?_replicate
abbrev uF:=@List.find?_cons
abbrev uG:=@List.any_cons
abbrev uH:=@Bool.or_eq_true
abbrev uI:=@Nat.zero_le
abbrev uJ:=@List.reverse_cons
abbrev uK:=@Int.toNat_natCast
abbrev uL:=@Array.getElem?_toList
abbrev uM:=@List.length_reverse
abbrev uN:=@List.getElem_of_mem
abbrev uO:=@List.getElem?_range
abbrev uP:=@Nat.le_of_lt
abbrev uQ:=@List.mem_filterMap
abbrev uR:=@List.getElem?_append_left
abbrev uS:=@List.drop_eq_getElem_cons
abbrev uT:=@List.getElem?_take_of_lt
abbrev uU:=@List.pairwise_singleton
abbrev uV:=@List.mem_flatMap
abbrev uW:=@List.flatMap_nil
abbrev uX:=@List.any_eq_true
abbrev uY:=@List.take_of_length_le
abbrev Fg:=Frag
namespace L2
open PySem PySem.Spec PyProof.Rows
abbrev Key:=Sum Int Str
def Hy:Key->Value->Bool
 |.inl k,v=>Value.isInt k v
 |.inr x,v=>Value.isStrOf x v
def keyH(w:World):Key->Int
 |.inl k=>hashInt k
 |.inr x=>hashStr w x
theorem Bf:∀{k:Key}{v:Value},Hy k v=true->(∃i t,k=Sum.inl i/\v=Value.int i t)\/(∃x t,k=Sum.inr x/\v=Value.str x t)
 |.inl i,v,h=>by obtain⟨t,e⟩:=Value.isInt_shape h;exact .inl ⟨i,t,rfl,e⟩
 |.inr x,v,h=>by obtain⟨t,e⟩:=Value.isStrOf_shape h;exact .inr ⟨x,t,rfl,e⟩
theorem O1(i:Int)(t:Tok):Hy (.inl i) (.int i t)=true:=by simp[Hy,Value.isInt]
theorem OZ(x:Str)(t:Tok):Hy (.inr x) (.str x t)=true:=by simp[Hy,Value.isStrOf]
theorem YS(a b:Int):decide ((Sum.inl a:Key)=Sum.inl b)=(a==b):=by
 by_cases e:a=b
 .subst e;simp
 .have h:¬(Sum.inl a:Key)=Sum.inl b:=λq=>e (Sum.inl.inj q)
  rw[tB h];exact(beq_eq_false_iff_ne.mpr e).symm
theorem YO(a b:Str):decide ((Sum.inr a:Key)=Sum.inr b)=decide (a=b):=by
 by_cases e:a=b
 .subst e;simp
 .have h:¬(Sum.inr a:Key)=Sum.inr b:=λq=>e (Sum.inr.inj q)
  rw[tB h,tB e]
theorem YR(a:Int)(b:Str):decide ((Sum.inl a:Key)=Sum.inr b)=false:=tB (λq=>nomatch q)
theorem YQ(a:Str)(b:Int):decide ((Sum.inr a:Key)=Sum.inl b)=false:=tB (λq=>nomatch q)
def Bd(prog:Program)(w:World):PySem.KeyKind prog w Key where
 is:=Hy
 hash:=keyH w
 inj:=λv a b ha hb=>by
  rcases Bf ha with⟨i,t,rfl,rfl⟩|⟨x,t,rfl,rfl⟩
  .rcases Bf hb with⟨j,u,rfl,e⟩|⟨y,u,rfl,e⟩
   .injection e with e1 _;rw[e1]
   .exact nomatch e
  .rcases Bf hb with⟨j,u,rfl,e⟩|⟨y,u,rfl,e⟩
   .exact nomatch e
   .injection e with e1 _;rw[e1]
 byValue:=λk v h=>by rcases Bf h with⟨i,t,rfl,rfl⟩|⟨x,t,rfl,rfl⟩<;>rfl
 pyHash:=λhv h=>by
  rcases Bf hv with⟨i,t,rfl,rfl⟩|⟨x,t,rfl,rfl⟩
  .exact wpAny_pyHash_int h
  .exact wpAny_pyHash_str h
 eqBool:=λhu hv h=>by
  rcases Bf hu with⟨i,t,rfl,rfl⟩|⟨x,t,rfl,rfl⟩
  .rcases Bf hv with⟨j,u,rfl,rfl⟩|⟨y,u,rfl,rfl⟩
   .rw[YS]at h;exact wpAny_eqBool_int h
   .rw[YR]at h;exact SeqAt.EqAt.int_str i t y u _ _ _ _ h
  .rcases Bf hv with⟨j,u,rfl,rfl⟩|⟨y,u,rfl,rfl⟩
   .rw[YQ]at h;exact SeqAt.EqAt.str_int x t j u _ _ _ _ h
   .rw[YO]at h;exact wpAny_eqBool_str h
 «strs»:=λk x t v h=>by
  rcases Bf h with⟨i,u,rfl,e⟩|⟨y,u,rfl,e⟩
  .exact nomatch e
  .injection e with e1 _
   subst e1;cases v<;>rfl
theorem Lm(prog:Program)(w:World)(i:Int)(t:Tok):(Bd prog w).is (.inl i) (.int i t)=true:=O1 i t
theorem Ll(prog:Program)(w:World)(x:Str)(t:Tok):(Bd prog w).is (.inr x) (.str x t)=true:=OZ x t
inductive V where
 |v|o (b:Bool)|int (i:Int)|str (x:Str)|zE (b:Array UInt8)|yJ (b:UInt64)|ref (a:Addr)|ty (n:String)
 deriving DecidableEq
def RelV:V->Value->Prop
 |.v,u=>u=Value.none
 |.o b,u=>u=Value.bool b
 |.int i,u=>∃t,u=Value.int i t
 |.str x,u=>∃t,u=Value.str x t
 |.zE b,u=>∃t,u=Value.bytes b t
 |.yJ b,u=>∃t,u=Value.float b t
 |.ref a,u=>u=Value.ref a
 |.ty n,u=>u=Value.type n
abbrev Vals:List V->List Value->Prop:=Paired RelV
theorem Vals.length(r:Vals xs us):xs.length=us.length:=Paired.length r
theorem Vals.get:∀{xs:List V}{us:List Value}{i:Nat}{x:V},Vals xs us->xs[i]?=some x->∃u,us[i]?=some u/\RelV x u
 |_,_,_,_,.nil,e=>by simp at e
 |_,_,0,_,.cons r _,e=>by simp at e;subst e;exact⟨_,rfl,r⟩
 |_,_,i+1,x,.cons _ t,e=>by obtain⟨u,h1,h2⟩:=Vals.get t (by simpa using e);exact⟨u,by simpa using h1,h2⟩
theorem Vals.set(r:RelV x u):∀{xs:List V}{us:List Value}(i:Nat),Vals xs us->Vals (xs.set i x) (us.set i u)
 |_,_,_,.nil=>.nil
 |_,_,0,.cons _ t=>.cons r t
 |_,_,i+1,.cons q t=>.cons q (Vals.set r i t)
theorem Vals.append:∀{xs ys:List V}{us ws:List Value},Vals xs us->Vals ys ws->Vals (xs++ys) (us++ws)
 |_,_,_,_,.nil,s=>s
 |_,_,_,_,.cons r t,s=>.cons r (Vals.append t s)
theorem Vals.take:∀{xs:List V}{us:List Value}(n:Nat),Vals xs us->Vals (xs.take n) (us.take n)
 |_,_,0,_=>.nil
 |_,_,_+1,.nil=>.nil
 |_,_,n+1,.cons r t=>.cons r (Vals.take n t)
theorem Vals.drop:∀{xs:List V}{us:List Value}(n:Nat),Vals xs us->Vals (xs.drop n) (us.drop n)
 |_,_,0,r=>r
 |_,_,_+1,.nil=>.nil
 |_,_,n+1,.cons _ t=>Vals.drop n t
def Ax:Option V->Option Value->Prop
 |some v,some u=>RelV v u
 |none,none=>True
 |_,_=>False
def KV{κ:Type}:List (κ×V)->List (κ×Value)->Prop:=Paired λ(p:κ×V)(q:κ×Value)=>p.1=q.1/\RelV p.2 q.2
def kV:Key->V
 |.inl i=>.int i
 |.inr x=>.str x
inductive HO where
 |lst (xs:List V)
 |tup (xs:List V)
 |l (ah:List (Key×V))|dT (ah:List (List Key×V))
 |set (S:Int->Bool) (n:Nat)
 |ins (C dx:Addr) (fs:List (Str×V))
 |own (x:Addr)
 |xd (fs:List (Str×V))
 |met (f x:Addr)
 |yH (lo hi:Int)
 |frz (o:Obj) (u:HO)
 |yZ (ps:Array Value)
 |ext (φ:Heap->Prop)
abbrev Hp:=Addr->Option HO
def upd(H:Hp)(a:Addr)(o:HO):Hp:=λb=>if b=a then some o else H b
theorem As:upd H a o a=some o:=by unfold upd;rw[if_pos rfl]
theorem Ap(h:b≠a):upd H a o b=H b:=by unfold upd;rw[if_neg h]
theorem Ja7{H:Hp}(h:H a=some o)(h':H b=some u)(d:o≠u):a≠b:=by intro e;subst e;rw[h]at h';exact d (Option.some.inj h')
theorem AZ{H:Hp}(h:H a=some o)(h':H b=none):a≠b:=by intro e;subst e;rw[h]at h';cases h'
section
variable(P:Program)(w:World)
def BJ(H:Hp)(h:Heap)(a:Addr):HO->Prop
 |.lst xs=>xs.length<=sizeLine/\∃(ak:List Value)(n:Nat),Vals xs ak/\h.get? a=some {cls:=.type "list",data:=.seq ak.toArray n}
 |.tup xs=>xs.length<=sizeLine/\∃ak:List Value,Vals xs ak/\IsTup h a ak.toArray
 |.l ah=>ah.length<=sizeLine/\(a==sysModules)=false/\∃vs,KV ah vs/\h.DictOf (Bd P w) a vs
 |.dT ah=>ah.length<=sizeLine/\(a==sysModules)=false/\∃xs:List (List Key×Addr×Value),
   Paired (λ(p:List Key×V)(q:List Key×Addr×Value)=>p.1=q.1/\H q.2.1=some (.tup (p.1.map kV))/\RelV p.2 q.2.2) ah xs /\
   ∃o es ep,h.get? a=some o/\o.ExactDict/\o.data=.dict es ep/\es.toList=xs.map (entryOfKey (tupleKind (Bd P w)))/\(xs.map (·.1)).Nodup
 |.set S n=>h.SetOf (intKind P w) a S n
 |.ins C dx fs=>H dx=some (.own a)/\fs.length<=1000/\dx≠a/\h.get? a=some (instObj C dx) /\
   ∃mA,h.Ns1 dx mA/\(∀f,Ax (fs.lookup f) (mA f))/\PySem.Within mA (fs.map (·.1))
 |.own _=>∃o,h.get? a=some o
 |.xd fs=>∃mA,h.Ns1 a mA/\∀f,Ax (fs.lookup f) (mA f)
 |.yH lo hi=>∃t u v,h.get? a=some {cls:=.type "range",data:=.fields #[.int lo t,.int hi u,.int 1 v]}
 |.frz o u=>h.get? a=some o/\BJ H h a u
 |.yZ ps=>h.get? a=some {cls:=.none,data:=.fields ps}
 |.met f x=>h.get? a=some (PySem.W.methodObj (.ref f) (.ref x))
 |.ext φ=>φ h/\(∃o,h.get? a=some o)/\∀h1 h2:Heap,φ h1->(∀o,h1.get? a=some o->h2.get? a=some o)->φ h2
def HOk(H:Hp)(h:Heap):Prop:=∀a o,H a=some o->BJ P w H h a o
end
variable{P:Program}{w:World}{H H':Hp}{h h':Heap}{a:Addr}{o:HO}
theorem BJ.lt(x:BJ P w H h a o):a<h.objs.size:=by cases o with|lst xs=>obtain⟨_,_,_,_,e⟩:=x;exact sO e|tup xs=>obtain⟨_,_,_,p⟩:=x;exact p.lt|l ah=>obtain⟨_,_,_,_,o,_,_,e,_⟩:=x;exact sO e|dT ah=>obtain⟨_,_,_,_,o,_,_,e,_⟩:=x;exact sO e|set S n=>obtain⟨o,_,_,_,e,_⟩:=x;exact sO e|ins C dx fs=>obtain⟨_,_,_,e,_⟩:=x;exact sO e|own y=>obtain⟨_,e⟩:=x;exact sO e|xd fs=>obtain⟨_,⟨_,_,_,e,_⟩,_⟩:=x;exact sO e|yH lo hi=>obtain⟨_,_,_,e⟩:=x;exact sO e|frz ob u=>obtain⟨e,_⟩:=x;exact sO e|yZ ps=>exact sO (show h.get? a=some _ from x)|met f y=>exact sO (show h.get? a=some _ from x)|ext φ=>obtain⟨_,⟨_,e⟩,_⟩:=x;exact sO e
theorem Paired.Ja9:∀{l₁:List α}{l₂:List β},Paired F l₁ l₂->(∀a b,F a b->G a b)->Paired G l₁ l₂
 |_,_,.nil,_=>.nil
 |_,_,.cons r t,f=>.cons (f _ _ r) (Paired.Ja9 t f)
theorem BJ.N7(x:BJ P w H h a o)(k:∀b u,(b=a\/H b=some (.own a))->h.get? b=some u->h'.get? b=some u)
  (ho:∀b,H b=some (.own a)->H' b=some (.own a)) (ht:∀b xs,H b=some (.tup xs)->H' b=some (.tup xs)):BJ P w H' h' a o:=by
 induction o with|lst xs=>obtain⟨z,ak,n,r,e⟩:=x;exact⟨z,ak,n,r,k _ _ (.inl rfl) e⟩|tup xs=>obtain⟨z,ak,r,ob,e,c⟩:=x;exact⟨z,ak,r,ob,k _ _ (.inl rfl) e,c⟩|l ah=>obtain⟨z,y,vs,r,ob,es,ep,e,c⟩:=x;exact⟨z,y,vs,r,ob,es,ep,k _ _ (.inl rfl) e,c⟩|dT ah =>obtain⟨z,y,xs,r,ob,es,ep,e,c⟩:=x;exact⟨z,y,xs,Paired.Ja9 r λp q z=>⟨z.1,ht _ _ z.2.1,z.2.2⟩,ob,es,ep,k _ _ (.inl rfl) e,c⟩|set S n=>obtain⟨ob,es,ep,t,e,c⟩:=x;exact⟨ob,es,ep,t,k _ _ (.inl rfl) e,c⟩|ins C dx fs =>obtain⟨d,z,ne,e,mA,⟨od,es,ep,e2,c⟩,r⟩:=x;exact⟨ho _ d,z,ne,k _ _ (.inl rfl) e,mA,⟨od,es,ep,k _ _ (.inr d) e2,c⟩,r⟩|own y=>obtain⟨ob,e⟩:=x;exact⟨ob,k _ _ (.inl rfl) e⟩|xd fs=>obtain⟨mA,⟨od,es,ep,e,c⟩,r⟩:=x;exact⟨mA,⟨od,es,ep,k _ _ (.inl rfl) e,c⟩,r⟩|yH lo hi=>obtain⟨t,u,v,e⟩:=x;exact⟨t,u,v,k _ _ (.inl rfl) e⟩|frz ob u ih=>obtain⟨e,q⟩:=x;exact⟨k _ _ (.inl rfl) e,ih q⟩|yZ ps =>have e:=x;exact k a _ (.inl rfl) e|met f y =>have e:=x;exact k a _ (.inl rfl) e|ext φ=>obtain⟨p,⟨o,e⟩,st⟩:=x;exact⟨st _ _ p λo q=>k _ _ (.inl rfl) q,⟨o,k _ _ (.inl rfl) e⟩,st⟩
theorem HOk.lt(x:HOk P w H h)(e:H a=some o):a<h.objs.size:=(x a o e).lt
theorem HOk.fresh(x:HOk P w H h)(e:h.objs.size<=a):H a=none:=by cases q:H a with|none=>rfl|some u=>exact absurd (sT (x.lt q) e) (tZ _)
theorem HOk.kept(x:HOk P w H h)(k:∀b u,h.get? b=some u->h'.get? b=some u):HOk P w H h':=λa o e =>(x a o e).N7 (λb u _ q=>k b u q) (λ_ q=>q) λ_ _ q=>q
theorem HOk.laid(x:HOk P w H h)(k:∀b u,h.get? b=some u->h'.get? b=some u)(hp:h.objs.size<=a)(new:BJ P w (upd H a o) h' a o):HOk P w (upd H a o) h':=λb u e=>by
 have hn:=x.fresh hp;by_cases hb:b=a
 .subst hb;rw[As]at e;cases e;exact new
 .rw[Ap hb]at e;exact(x b u e).N7 (λc v _ q=>k c v q) (λc q=>by rw[Ap (AZ q hn)];exact q) λc xs q=>by rw[Ap (AZ q hn)];exact q
def Rd(H:Hp)(a:Addr)(u:HO):Prop:=H a=some u\/∃o,H a=some (.frz o u)
theorem Rd.ok(r:Rd H a u)(x:HOk P w H h):BJ P w H h a u:=by
 rcases r with r|⟨o,r⟩
 .exact x a u r
 .obtain⟨_,q⟩:=x a _ r;exact q
def Mut:Option HO->Prop
 |some (.lst _)=>True
 |some (.l _)=>True
 |some (.dT _)=>True
 |some (.set _ _)=>True
 |some (.ins _ _ _)=>True
 |some (.ext _)=>True
 |_=>False
variable{x e:Addr}{o':HO}
theorem HOk.write(ok:HOk P w H h)(mu:Mut (H x))(he:e=x\/H e=some (.own x))(k:∀b u,b≠e->h.get? b=some u->h'.get? b=some u)(jc:∃u,h'.get? e=some u)
  (new:BJ P w (upd H x o') h' x o'):HOk P w (upd H x o') h':=λb u q=>by
 have ka:∀c y,H c=some (.own y)->c≠x:=λc y r z=>by subst z;rw[r]at mu;exact mu
 have me:∀c xs,H c=some (.tup xs)->c≠x:=λc xs r z=>by subst z;rw[r]at mu;exact mu
 by_cases hb:b=x
 .subst hb;rw[As]at q;cases q;exact new
 .rw[Ap hb]at q;by_cases fW:b=e
  .have q':H b=some (.own x):=by
    rcases he with z|z
    .exact absurd (fW.trans z) hb
    .rw[fW];exact z
   rw[q]at q';cases q';obtain⟨v,hv⟩:=jc;exact⟨v,by rw[fW];exact hv⟩
  .refine(ok b u q).N7 (λc v hc r=>k c v ?_ r) (λc r=>by rw[Ap (ka c b r)];exact r) λc xs r=>by rw[Ap (me c xs r)];exact r
   rcases hc with rfl|hc
   .exact fW
   .rintro rfl
    rcases he with z|z
    .exact ka c b hc z
    .rw[hc]at z;cases z;exact hb rfl
structure Un(fs ex:List Addr)(H H':Hp)(h h':Heap):Prop where
 keep:∀b o,h.get? b=some o->H b=none->b∉fs->b∉ex->h'.get? b=some o
 slot:∀b o,h.get? b=some o->H b=none->b∈fs->b∉ex->∃sl,h'.get? b=some {o with slots:=sl}
 free:∀b o,h.get? b=some o->H b=none->b∉ex->H' b=none
 there:∀b o,h.get? b=some o->b∉ex->∃o',h'.get? b=some o'
 zH:∀b xs,H b=some (.tup xs)->H' b=some (.tup xs)
 zL:∀b o u,H b=some (.frz o u)->H' b=some (.frz o u)
 zI:∀b ps,H b=some (.yZ ps)->∃more,H' b=some (.yZ (ps++more))
variable{aq ex k7:List Addr}{H1 H2:Hp}{h1 h2:Heap}
section
variable{fs:List Addr}
theorem Un.any(u:Un fs ex H H1 h h1){b:Addr}{ob:Obj}(q:h.get? b=some ob)(n:H b=none)(hx:b∉ex):∃sl,h1.get? b=some {ob with slots:=sl}:=by
 by_cases hb:b∈fs
 .exact u.slot b ob q n hb hx
 .exact⟨ob.slots,u.keep b ob q n hb hx⟩
theorem Un.kept(k:∀b u,h.get? b=some u->h'.get? b=some u):Un fs ex H H h h' :=
 ⟨λb ob q _ _ _=>k b ob q,λb ob q _ _ _=>⟨ob.slots,k b ob q⟩,λ_ _ _ n _=>n,λb ob q _=>⟨ob,k b ob q⟩,λ_ _ q=>q,λ_ _ _ q=>q,λ_ ps q=>⟨#[],by rw[q];simp⟩⟩
theorem Un.refl:Un fs ex H H h h:=Un.kept λ_ _ q=>q
theorem Un.laid(k:∀b u,h.get? b=some u->h'.get? b=some u)(hp:h.objs.size<=a)(hn:H a=none):Un fs ex H (upd H a o) h h' where
 keep:=λb u q _ _ _=>k b u q
 slot:=λb u q _ _ _=>⟨u.slots,k b u q⟩
 free:=λb u q n _=>by rw[Ap (tD (sT (sO q) hp))];exact n
 there:=λb u q _=>⟨u,k b u q⟩
 zH:=λb xs q=>by rw[Ap (AZ q hn)];exact q
 zL:=λb u xs q=>by rw[Ap (AZ q hn)];exact q
 zI:=λb ps q=>⟨#[],by rw[Ap (AZ q hn),q];simp⟩
theorem Un.write(mu:Mut (H x))(he:e=x\/H e=some (.own x))(k:∀b u,b≠e->h.get? b=some u->h'.get? b=some u)(jc:∃u,h'.get? e=some u):Un fs ex H (upd H x o) h h':=by
 have hx:∀b,H b=none->b≠x:=λb n z=>by subst z;rw[n]at mu;exact mu
 have hb:∀b,H b=none->b≠e:=λb n z=>by
  subst z;rcases he with r|r
  .exact hx b n r
  .rw[n]at r;cases r
 have hm:∀b u,H b=some u->¬Mut (some u)->b≠x:=λb u q nm z=>by subst z;rw[q]at mu;exact nm mu
 refine⟨λb u q n _ _=>k b u (hb b n) q,λb u q n _ _=>⟨u.slots,k b u (hb b n) q⟩,λb u q n _=>by rw[Ap (hx b n)];exact n,λb u q _=>?_,
  λb xs q=>by rw[Ap (hm b _ q λz=>z)];exact q,λb u xs q=>by rw[Ap (hm b _ q λz=>z)];exact q,λb ps q=>⟨#[],by rw[Ap (hm b _ q λz=>z),q];simp⟩⟩
 by_cases fW:b=e
 .subst fW;exact jc
 .exact⟨u,k b u fW q⟩
end
def trk(h:Heap)(H:Hp):List Addr:=(List.range h.objs.size).filter λa=>(H a).isSome
def RS(h:Heap)(H:Hp):Heap:=PySem.W.hideAll h (trk h H)
theorem Pe(h:Heap)(H:Hp):(RS h H).objs.size=h.objs.size:=PySem.W.hideAll_size _ _
theorem RQ{o}(e:h.get? b=some o)(n:H b=none):(RS h H).get? b=some o :=
 PySem.W.hideAll_get _ e λhm=>by have q:=(List.mem_filter.mp hm).2;rw[n]at q;simp at q
theorem Vu{o}(e:(RS h H).get? b=some o):h.get? b=some o/\H b=none:=by have e':=PySem.W.of_hideAll (trk h H) e;refine⟨e',?_⟩;cases q:H b with|none=>rfl|some x =>have hm:b∈trk h H:=List.mem_filter.mpr ⟨uw.mpr (sO e'),by simp[q]⟩;have z:(RS h H).get? b=none:=PySem.W.hideAll_none (trk h H) hm;rw[z]at e;cases e
structure Mod(K:Fg)(mg:Str->Option Value)(base:Heap):Prop where
 yR:K.In base
 glob:base.Ns mainGlobals mg
 blt:∃mb,base.Ns builtinsNs mb/\∀x:Str,x≠"__name__"->mb x=bootBuiltins x
 nolimit:base.NoLimit
structure Cx where
 prog:Program
 w:World
 K:Fg
 mg:Str->Option Value
 base:Heap
 A:Around
 N:List Str
 zV:Shared
 y0:Hp
 env:Env
 outer:List Env
 stack:List Env
 ex:List Addr
 fn:Str->Bool
 calm:Bool
 pn:List (Addr×Obj)
 xe:Value->Shared->Prop
def frs(l:List Env):List Addr:=l.filterMap (·.frame)
abbrev Cx.fs(X:Cx):List Addr:=frs X.outer
def Vis(sc:Scope)(x:Str):Prop:=sc.names.lookup x=some .local\/sc.names.lookup x=some .cell\/sc.names.lookup x=some .free
def Loc(sc:Scope)(x:Str):Prop:=sc.names.lookup x=some .local\/sc.names.lookup x=some .cell
def Look(env:Env)(h:Heap)(m:Str->Option Value)(x:Str)(u:Value):Prop :=
 (env.kindOf x=some .local/\m x=some u)\/((env.kindOf x=some .cell\/env.kindOf x=some .free)/\∃c,env.cells.lookup x=some c/\h.IsCell c (some u))
structure Cx.Ok(X:Cx):Prop where
 mod:Mod X.K X.mg X.base
 kind:X.env.scope.kind=.function
 glob:X.env.globals=mainGlobals
 blt:X.env.builtins=builtinsNs
 above:X.zV.heap.objs.size<=X.env.locals
 inj:∀x y c,X.env.cells.lookup x=some c->X.env.cells.lookup y=some c->x=y
 has:∀x,(X.env.kindOf x=some .cell\/X.env.kindOf x=some .free)->∃c,X.env.cells.lookup x=some c
 yY:∀x c,X.fn x=true->X.env.cells.lookup x=some c->X.zV.heap.objs.size<=c
 hd:X.calm=true->X.A.handled=none
 frames:X.A.frames=some X.stack
 yQ:X.stack=X.outer\/(X.stack=X.env::X.outer/\X.env.frame=some X.env.locals)
 yM:∀b∈X.ex,b≠X.env.locals/\∀x c,X.env.cells.lookup x=some c->c≠b
 bs:∀b o,X.base.get? b=some o->X.zV.heap.get? b=some o/\X.y0 b=none
 zo:X.base.objs.size<=X.zV.heap.objs.size
 zi:∀b o,X.base.get? b=some o->b∉X.ex
 zm:∀b∈X.ex,b∉X.fs
 Mt:X.zV.heap.FunFrames X.base X.outer
 zb:∀b∈X.fs,X.y0 b=none
structure Inv(X:Cx)(ae:List (Addr×Obj))(U:List (Option V))(H:Hp)(s:Shared):Prop where
 ok:X.Ok
 os:s.os=X.zV.os
 bare:AllBare s.gens
 base:Un X.fs X.ex X.y0 H X.zV.heap s.heap
 loc:∃m,s.heap.Ns X.env.locals m/\∀(i:Nat)(x:Str)(v:V),X.N[i]?=some x->U[i]?=some (some v)->Vis X.env.scope x->∃u,RelV v u/\Look X.env s.heap m x u
 cell:∀x c,X.env.cells.lookup x=some c->∃v,s.heap.IsCell c v
 free:H X.env.locals=none
 zS:∀x c,X.env.cells.lookup x=some c->H c=none
 pin:∀p∈X.pn++ae,s.heap.get? p.1=some p.2/\H p.1=none/\p.1≠X.env.locals/\p.1∉X.fs/\∀v,p.2.data≠.cell v
 zZ:HOk X.prog X.w H s.heap
 len:U.length=X.N.length
variable{X:Cx}{ae:List (Addr×Obj)}{U:List (Option V)}{s:Shared}
theorem Cx.Ok.nofr{o}(ok:X.Ok)(e:X.base.get? b=some o):b∉X.fs:=λhb=>by have:=(ok.Mt.mem hb).1;rw[e]at this;cases this
theorem Inv.bs(I:Inv X ae U H s):∀b o,X.base.get? b=some o->s.heap.get? b=some o/\H b=none:=λb o e =>⟨I.base.keep b o (I.ok.bs b o e).1 (I.ok.bs b o e).2 (I.ok.nofr e) (I.ok.zi b o e),I.base.free b o (I.ok.bs b o e).1 (I.ok.bs b o e).2 (I.ok.zi b o e)⟩
theorem Inv.bk(I:Inv X ae U H s):∀b o,X.base.get? b=some o->s.heap.get? b=some o:=λb o e=>(I.bs b o e).1
theorem Inv.mod(I:Inv X ae U H s):Mod X.K X.mg X.base:=I.ok.mod
theorem Inv.kIn(I:Inv X ae U H s):X.K.In s.heap:=I.ok.mod.yR.keeps I.bk
theorem Inv.lt(I:Inv X ae U H s):X.env.locals<s.heap.objs.size:=let⟨_,hn,_⟩:=I.loc;hn.lt
theorem Inv.sz(I:Inv X ae U H s):X.zV.heap.objs.size<=s.heap.objs.size:=tK I.ok.above (uP I.lt)
theorem Inv.nofs(I:Inv X ae U H s)(h:s.heap.objs.size<=a):a∉X.fs:=λhb=>by obtain⟨_,o,ho,_⟩:=I.ok.Mt.mem hb;exact absurd (sT (sO ho) (tK I.sz h)) (tZ _)
theorem Inv.cne(I:Inv X ae U H s):∀x c,X.env.cells.lookup x=some c->c≠X.env.locals:=λx c e z=>by obtain⟨v,o,ho,hd⟩:=I.cell x c e;obtain⟨m,⟨o',es,ep,cL,dN,_⟩,_⟩:=I.loc;rw[z,cL]at ho;cases ho;rw[dN]at hd;cases hd
theorem Inv.Mt(I:Inv X ae U H s):s.heap.FunFrames X.base X.outer:=by
 have all:∀(l:List Env),(∀b∈frs l,b∈X.fs)->X.zV.heap.FunFrames X.base l->s.heap.FunFrames X.base l:=by
  intro l
  induction l with
  |nil=>intro _ _;trivial
  |cons env r ih =>
   intro hs hl;obtain⟨hk,⟨L,o,hf,hn,ho,hd⟩,hr⟩:=hl;have hL:=hs L (by unfold frs;rw[ug,hf];exact tL);obtain⟨sl,e⟩:=I.base.slot L o ho (I.ok.zb L hL) hL λz=>I.ok.zm L z hL
   exact⟨hk,⟨L,_,hf,hn,e,hd⟩,ih (λb hb=>hs b (by unfold frs;rw[ug,hf];exact sN _ hb)) hr⟩
 exact all X.outer (λ_ hb=>hb) I.ok.Mt
theorem Inv.stack(I:Inv X ae U H s):s.heap.FunFrames X.base X.stack:=by
 rcases I.ok.yQ with e|⟨e,hf⟩
 .rw[e];exact I.Mt
 .rw[e];obtain⟨m,hn,_⟩:=I.loc;refine .cons (by rw[I.ok.kind];decide) hf hn ?_ I.Mt;exact Heap.get?_none_of_le (tK I.ok.zo I.ok.above)
theorem Inv.JC(I:Inv X ae U H s):∀b∈frs X.stack,b∈X.env.locals::X.fs:=λb hb=>by
 rcases I.ok.yQ with e|⟨e,hf⟩
 .rw[e]at hb;exact sN _ hb
 .rw[e]at hb;unfold frs at hb;rw[ug,hf]at hb;exact hb
theorem Inv.K1(I:Inv X ae U H s):∀b∈frs X.stack,H b=none:=λb hb=>by
 rcases sQ.mp (I.JC b hb)with e|hb
 .rw[e];exact I.free
 .obtain⟨_,o,ho,_⟩:=I.ok.Mt.mem hb;exact I.base.free b o ho (I.ok.zb b hb) λz=>I.ok.zm b z hb
theorem Inv.step{ch:List Addr}(I:Inv X ae U H s)
  (gB:∀b∈ch,(b∈X.ex\/X.zV.heap.objs.size<=b)/\b≠X.env.locals/\(∀x c,X.env.cells.lookup x=some c->c≠b)/\∀p∈X.pn++ae,p.1≠b)
  (keep:∀b o,b≠X.env.locals->b∉X.fs->b∉ch->s.heap.get? b=some o->H b=none->h'.get? b=some o)
  (slot:∀b o,b≠X.env.locals->b∈X.fs->b∉ch->s.heap.get? b=some o->H b=none->∃sl,h'.get? b=some {o with slots:=sl}) (free:∀b o,b∉ch->s.heap.get? b=some o->H b=none->H' b=none)
  (there:∀b o,b∉ch->s.heap.get? b=some o->∃o',h'.get? b=some o')
  (zH:∀b xs,H b=some (.tup xs)->H' b=some (.tup xs)) (zL:∀b o u,H b=some (.frz o u)->H' b=some (.frz o u)) (zI:∀b ps,H b=some (.yZ ps)->∃more,H' b=some (.yZ (ps++more)))
  (ns:∀m,s.heap.Ns X.env.locals m->h'.Ns X.env.locals m) (zZ:HOk X.prog X.w H' h') (hg:AllBare g') :
  Inv X ae U H' {s with heap:=h',gens:=g',drawn:=d',toks:=t' }:=by
 have jf:∀b o,X.zV.heap.get? b=some o->b≠X.env.locals:=λb o e=>tD (sT (sO e) I.ok.above)
 have kH:∀b o,X.zV.heap.get? b=some o->b∉X.ex->b∉ch:=λb o e hx hb=>by
  rcases(gB b hb).1 with z|z
  .exact hx z
  .exact absurd (sT (sO e) z) (tZ _)
 have dE:∀x c,X.env.cells.lookup x=some c->∀v,s.heap.IsCell c v->h'.IsCell c v:=λx c e v ⟨o,ho,hd⟩=>by
  have j5:=λz=>(gB c z).2.2.1 x c e rfl
  by_cases hc:c∈X.fs
  .obtain⟨sl,q⟩:=slot c o (I.cne x c e) hc j5 ho (I.zS x c e);exact⟨_,q,hd⟩
  .exact⟨o,keep c o (I.cne x c e) hc j5 ho (I.zS x c e),hd⟩
 refine⟨I.ok,I.os,hg,⟨λb o e n hb hx=>?_,λb o e n hb hx=>?_,λb o e n hx=>?_,λb o e hx=>?_,λb xs e=>zH b xs (I.base.zH b xs e),λb o xs e=>zL b o xs (I.base.zL b o xs e),λb ps e=>?_⟩,?_,λx c e=>?_,?_,λx c e=>?_,λp hp=>?_,zZ,I.len⟩
 .exact keep b o (jf b o e) hb (kH b o e hx) (I.base.keep b o e n hb hx) (I.base.free b o e n hx)
 .obtain⟨sl,e1⟩:=I.base.slot b o e n hb hx;obtain⟨mz,e2⟩:=slot b _ (jf b o e) hb (kH b o e hx) e1 (I.base.free b o e n hx);exact⟨mz,e2⟩
 .obtain⟨o',e1⟩:=I.base.there b o e hx;exact free b o' (kH b o e hx) e1 (I.base.free b o e n hx)
 .obtain⟨o',e1⟩:=I.base.there b o e hx;exact there b o' (kH b o e hx) e1
 .obtain⟨m1,e1⟩:=I.base.zI b ps e;obtain⟨m2,e2⟩:=zI b _ e1;exact⟨m1++m2,by rw[e2,Array.append_assoc]⟩
 .obtain⟨m,hn,hl⟩:=I.loc;refine⟨m,ns m hn,λi x v e1 e2 e3=>?_⟩;obtain⟨u,r,l⟩:=hl i x v e1 e2 e3;refine⟨u,r,?_⟩;rcases l with l|⟨k,c,e,z⟩
  .exact .inl l
  .exact .inr ⟨k,c,e,dE x c e _ z⟩
 .obtain⟨v,z⟩:=I.cell x c e;exact⟨v,dE x c e v z⟩
 .obtain⟨m,⟨o,_,_,ho,_⟩,_⟩:=I.loc;exact free _ o (λz=>(gB _ z).2.1 rfl) ho I.free
 .obtain⟨v,o,ho,hd⟩:=I.cell x c e;exact free c o (λz=>(gB c z).2.2.1 x c e rfl) ho (I.zS x c e)
 .obtain⟨e,n,ne,nf,d⟩:=I.pin p hp;have j5:=λz=>(gB p.1 z).2.2.2 p hp rfl
  exact⟨keep p.1 p.2 ne nf j5 e n,free p.1 p.2 j5 e n,ne,nf,d⟩
theorem Inv.un(I:Inv X ae U H s)(u:Un X.fs [] H H' s.heap h')(zZ:HOk X.prog X.w H' h'):Inv X ae U H' {s with heap:=h',toks:=t' }:=by obtain⟨m,⟨o,es,ep,ho,r⟩,_⟩:=id I.loc;obtain⟨sl,hL⟩:=u.any ho I.free (by simp);exact I.step (ch:=[]) (λ_ z=>nomatch z) (λb o _ hb _ e n=>u.keep b o e n hb (by simp)) (λb o _ hb _ e n=>u.slot b o e n hb (by simp)) (λb o _ e n=>u.free b o e n (by simp)) (λb o _ e=>u.there b o e (by simp)) u.zH u.zL u.zI (λm' hm=>by obtain⟨o',kZ,kY,cL,r'⟩:=hm;rw[ho]at cL;cases cL;exact⟨_,kZ,kY,hL,r'⟩) zZ I.bare
theorem Inv.call(I:Inv X ae U H s)(u:Un (frs X.stack) ch H H' s.heap h')(zZ:HOk X.prog X.w H' h')(hg:AllBare g')
  (gB:∀b∈ch,(b∈X.ex\/X.zV.heap.objs.size<=b)/\b≠X.env.locals/\(∀x c,X.env.cells.lookup x=some c->c≠b)/\∀p∈X.pn++ae,p.1≠b) :
  Inv X ae U H' {s with heap:=h',gens:=g',drawn:=d',toks:=t' }:=by
 obtain⟨m,⟨o,es,ep,ho,r⟩,_⟩:=id I.loc;obtain⟨sl,hL⟩:=u.any ho I.free λz=>(gB _ z).2.1 rfl
 exact I.step gB (λb o hL hb hc e n=>u.keep b o e n (λz=>(sQ.mp (I.JC b z)).elim hL hb) hc) (λb o _ _ hc e n=>u.any e n hc) (λb o hc e n=>u.free b o e n hc) (λb o hc e=>u.there b o e hc) u.zH u.zL u.zI (λm' hm=>by obtain⟨o',kZ,kY,cL,r'⟩:=hm;rw[ho]at cL;cases cL;exact⟨_,kZ,kY,hL,r'⟩) zZ hg
theorem Inv.turned(I:Inv X ae U H s)(k:∀b o,b≠it->s.heap.get? b=some o->h'.get? b=some o)(hn:H it=none)(hL:it≠X.env.locals)
  (h1:it∈X.ex\/X.zV.heap.objs.size<=it) (h2:∀x c,X.env.cells.lookup x=some c->c≠it) (h3:∀p∈X.pn++ae,p.1≠it):Inv X ae U H {s with heap:=h',toks:=t' }:=by
 have gm:∀b u,H b=some u->b≠it:=λb u e z=>by rw[z,hn]at e;cases e
 refine I.step (ch:=[it]) (λb hb=>?_) (λb o _ _ hc e _=>k b o (λz=>hc (by simp[z])) e) (λb o _ _ hc e _=>⟨o.slots,k b o (λz=>hc (by simp[z])) e⟩) (λ_ _ _ _ n=>n)
  (λb o hc e=>⟨o,k b o (λz=>hc (by simp[z])) e⟩) (λ_ _ e=>e) (λ_ _ _ e=>e) (λb ps e=>⟨#[],by rw[e];simp⟩) (λm hm=>?_) (λb u e=>?_) I.bare
 .have e:=by simpa using hb
  subst e;exact⟨h1,hL,h2,h3⟩
 .obtain⟨o,es,ep,ho,r⟩:=hm;exact⟨o,es,ep,k _ o (Ne.symm hL) ho,r⟩
 .refine(I.zZ b u e).N7 (λc v hc q=>k c v ?_ q) (λ_ q=>q) λ_ _ q=>q
  rcases hc with z|z
  .rw[z];exact gm b u e
  .exact gm c _ z
theorem Inv.tok(I:Inv X ae U H s)(t:Nat):Inv X ae U H {s with toks:=t}:=I.un Un.refl I.zZ
theorem Inv.kept(I:Inv X ae U H s)(k:∀b u,s.heap.get? b=some u->h'.get? b=some u):Inv X ae U H {s with heap:=h',toks:=t' }:=I.un (Un.kept k) (I.zZ.kept k)
theorem Inv.laid(I:Inv X ae U H s)(k:∀b u,s.heap.get? b=some u->h'.get? b=some u)(hp:s.heap.objs.size<=a)(new:BJ X.prog X.w (upd H a o) h' a o):
  Inv X ae U (upd H a o) {s with heap:=h',toks:=t' }:=I.un (Un.laid k hp (I.zZ.fresh hp)) (I.zZ.laid k hp new)
theorem Inv.write(I:Inv X ae U H s)(mu:Mut (H x))(he:e=x\/H e=some (.own x))(k:∀b u,b≠e->s.heap.get? b=some u->h'.get? b=some u)(jc:∃u,h'.get? e=some u)
  (new:BJ X.prog X.w (upd H x o) h' x o):Inv X ae U (upd H x o) {s with heap:=h',toks:=t' }:=I.un (Un.write mu he k jc) (I.zZ.write mu he k jc new)
theorem Inv.IE(I:Inv X ae U H s)(h:∀p∈pins',s.heap.get? p.1=some p.2/\H p.1=none/\p.1≠X.env.locals/\p.1∉X.fs/\∀v,p.2.data≠.cell v):Inv X pins' U H s :=
 ⟨I.ok,I.os,I.bare,I.base,I.loc,I.cell,I.free,I.zS,λp hp=>(sW.mp hp).elim (λz=>I.pin p (sX _ z)) (h p),I.zZ,I.len⟩
theorem IL{x}{N:List Str}(hN:N.Nodup){i j:Nat}(a:N[i]?=some x)(b:N[j]?=some x):i=j:=by obtain⟨h1,e1⟩:=sS.mp a;obtain⟨h2,e2⟩:=sS.mp b;exact(List.getElem_inj hN).mp (e1.trans e2.symm)
theorem JB{x}(I:Inv X ae U H s)(hN:X.N.Nodup)(hi:X.N[i]?=some x)(hx:Loc X.env.scope x)(r:RelV v u)
  (h:∀s',Inv X ae (U.set i (some v)) H s'->(∃a,Heap.SameBut a s.heap s'.heap/\(a=X.env.locals\/X.env.cells.lookup x=some a))->Q () s') (hf:X.fn x=true\/X.env.scope.names.lookup x=some .local:=by first|exact .inl rfl|exact .inr rfl|assumption):wpAny M A (storeName X.env x u) Q E s:=by
 obtain⟨m,hn,hl⟩:=id I.loc;have cE:(X.env.scope.kind==.class||(X.env.scope.kind==.module&&X.env.locals !=X.env.globals))=false:=by rw[I.ok.kind];rfl
 have fY:i<U.length:=by rw[I.len];exact(sS.mp hi).1
 have cne:=I.cne;have fh:∀{a:Addr}{h':Heap},(∃o,s.heap.get? a=some o/\H a=none)->Heap.SameBut a s.heap h'->HOk X.prog X.w H h':=λ{a h'} ha hs b ob e=>by
  obtain⟨_,_,iu⟩:=ha;refine(I.zZ b ob e).N7 (λc w' hc q=>(hs.2 c ?_).trans q) (λ_ q=>q) λ_ _ q=>q
  rintro rfl
  rcases hc with rfl|hc
  .rw[iu]at e;cases e
  .rw[iu]at hc;cases hc
 rcases hx with hk|hk
 .refine wpAny_storeName_local hk hn (λh' qB hs=>?_) cE;obtain⟨oL,_,_,qF,_⟩:=id hn;refine h _ ⟨I.ok,I.os,I.bare,⟨λb o e n hb hx=>?_,λb o e n hb hx=>?_,I.base.free,λb o e hx=>?_,I.base.zH,I.base.zL,I.base.zI⟩,⟨_,qB,λj y v' e1 e2 e3=>?_⟩,λy c e=>?_,I.free,I.zS,λp hp=>?_,fh ⟨oL,qF,I.free⟩ hs,by simpa using I.len⟩ ⟨_,hs,.inl rfl⟩
  .exact(hs.2 b (tD (sT (sO e) I.ok.above))).trans (I.base.keep b o e n hb hx)
  .obtain⟨sl,e1⟩:=I.base.slot b o e n hb hx;exact⟨sl,(hs.2 b (tD (sT (sO e) I.ok.above))).trans e1⟩
  .obtain⟨o',e1⟩:=I.base.there b o e hx;exact⟨o',(hs.2 b (tD (sT (sO e) I.ok.above))).trans e1⟩
  .by_cases hj:j=i
   .subst hj;rw[hi]at e1;cases e1;rw[t7 fY]at e2;cases e2;exact⟨u,r,.inl ⟨hk,by simp⟩⟩
   .rw[t8 (Ne.symm hj)]at e2;obtain⟨u',r',q⟩:=hl j y v' e1 e2 e3;refine⟨u',r',?_⟩;rcases q with⟨k,e⟩|⟨k,c,e,z⟩
    .refine .inl ⟨k,?_⟩;have:y≠x:=λe=>hj (IL hN e1 (e▸hi))
     simp[this,e]
    .exact .inr ⟨k,c,e,z.sameBut hs (cne y c e)⟩
  .obtain⟨w',z⟩:=I.cell y c e;exact⟨w',z.sameBut hs (cne y c e)⟩
  .obtain⟨e,n,ne,nf,d⟩:=I.pin p hp;exact⟨(hs.2 p.1 ne).trans e,n,ne,nf,d⟩
 .have lz:X.fn x=true:=by
   rcases hf with z|z
   .exact z
   .rw[z]at hk;cases hk
  obtain⟨c,hc⟩:=I.ok.has x (.inl hk);obtain⟨w',z⟩:=I.cell x c hc;refine wpAny_storeName_cell I.ok.kind hk hc z (λh' ku hs=>?_);obtain⟨oc,kA,lM⟩:=id z;refine h {s with heap:=h' } ⟨I.ok,I.os,I.bare,⟨λb o e n hb hx=>?_,λb o e n hb hx=>?_,I.base.free,λb o e hx=>?_,I.base.zH,I.base.zL,I.base.zI⟩,⟨m,hn.sameBut hs (Ne.symm (cne x c hc)),λj y v' e1 e2 e3=>?_⟩,λy c' e=>?_,I.free,I.zS,λp hp=>?_,fh ⟨oc,kA,I.zS x c hc⟩ hs,by simpa using I.len⟩ ⟨c,hs,.inr hc⟩
  .exact(hs.2 b (tD (sT (sO e) (I.ok.yY x c lz hc)))).trans (I.base.keep b o e n hb hx)
  .obtain⟨sl,e1⟩:=I.base.slot b o e n hb hx;exact⟨sl,(hs.2 b (tD (sT (sO e) (I.ok.yY x c lz hc)))).trans e1⟩
  .obtain⟨o',e1⟩:=I.base.there b o e hx;exact⟨o',(hs.2 b (tD (sT (sO e) (I.ok.yY x c lz hc)))).trans e1⟩
  .by_cases hj:j=i
   .subst hj;rw[hi]at e1;cases e1;rw[t7 fY]at e2;cases e2;exact⟨u,r,.inr ⟨.inl hk,c,hc,ku⟩⟩
   .rw[t8 (Ne.symm hj)]at e2;obtain⟨u',r',q⟩:=hl j y v' e1 e2 e3;refine⟨u',r',?_⟩;rcases q with q|⟨k,c',e,z'⟩
    .exact .inl q
    .refine .inr ⟨k,c',e,z'.sameBut hs ?_⟩
     rintro rfl
     exact hj (IL hN e1 (I.ok.inj _ _ _ e hc▸hi))
  .by_cases hcc:c'=c
   .subst hcc;exact⟨_,ku⟩
   .obtain⟨w2,z2⟩:=I.cell y c' e;exact⟨w2,z2.sameBut hs hcc⟩
  .obtain⟨e,n,ne,nf,d⟩:=I.pin p hp;refine⟨(hs.2 p.1 ?_).trans e,n,ne,nf,d⟩;intro q;rw[q,kA]at e;have q':=Option.some.inj e;exact d w' (by rw[<- q'];exact lM)
theorem FJ{x}(I:Inv X ae U H s)(hN:X.N.Nodup)(hi:X.N[i]?=some x)(hx:Loc X.env.scope x)(r:RelV v u)
  (h:∀s',Inv X ae (U.set i (some v)) H s'->Q () s') (hf:X.fn x=true\/X.env.scope.names.lookup x=some .local:=by first|exact .inl rfl|exact .inr rfl|assumption):wpAny M A (storeName X.env x u) Q E s :=
 JB I hN hi hx r (λs' I' _=>h s' I') hf
theorem Inv.Z2(I:Inv X ae U H s)(ho:s'.os=s.os)(u:Un (frs X.stack) ch H H' s.heap s'.heap)(zZ:HOk X.prog X.w H' s'.heap)(hg:AllBare s'.gens)
  (gB:∀b∈ch,(b∈X.ex\/X.zV.heap.objs.size<=b)/\b≠X.env.locals/\(∀x c,X.env.cells.lookup x=some c->c≠b)/\∀p∈X.pn++ae,p.1≠b):Inv X ae U H' s':=by
 obtain⟨h',g',d',t',o'⟩:=s';have e:=ho;subst e;exact I.call u zZ hg gB
abbrev XK:=Value->Option Addr->Hp->Prop
abbrev St:=List (Option V)
abbrev VK:=V->Hp->Prop
abbrev TE:=St->Hp->VK->Prop
abbrev TT:=St->Hp->(Bool->Hp->Prop)->Prop
abbrev TA:=St->Hp->(List V->Hp->Prop)->Prop
structure Ends where
 nx:St->Hp->Prop
 rt:VK
 bk:St->Hp->Prop:=λ_ _=>False
 ct:St->Hp->Prop:=λ_ _=>False
abbrev TS:=Ends->St->Hp->Prop
def EP(X:Cx)(ae:List (Addr×Obj))(U:St)(Q:VK)(u:Value)(s':Shared):Prop:=∃v H',Inv X ae U H' s'/\RelV v u/\Q v H'
def TP(X:Cx)(ae:List (Addr×Obj))(U:St)(Q:Bool->Hp->Prop)(b:Bool)(s':Shared):Prop:=∃H',Inv X ae U H' s'/\Q b H'
def AP(X:Cx)(ae:List (Addr×Obj))(U:St)(Q:List V->Hp->Prop)(us:List Value)(s':Shared):Prop:=∃vs H',Inv X ae U H' s'/\Vals vs us/\Q vs H'
def SP(X:Cx)(ae:List (Addr×Obj))(D:Ends)(f:Flow)(s':Shared):Prop :=
 match f with|.next=>∃ar H',Inv X ae ar H' s'/\D.nx ar H'|.brk=>∃ar H',Inv X ae ar H' s'/\D.bk ar H'|.cont=>∃ar H',Inv X ae ar H' s'/\D.ct ar H'|.ret u=>∃v ar H',Inv X ae ar H' s'/\RelV v u/\D.rt v H'
def PE(X:Cx)(e:Expr)(t:TE):Prop :=
 ∀(ae:List (Addr×Obj))(s:Shared)(U:St)(H:Hp)(Q:VK),Inv X ae U H s->t U H Q->wpAny (model X.prog X.w) X.A (eval e X.env) (EP X ae U Q) X.xe s
def PT(X:Cx)(e:Expr)(t:TT):Prop :=
 ∀(ae:List (Addr×Obj))(s:Shared)(U:St)(H:Hp)(Q:Bool->Hp->Prop),Inv X ae U H s->t U H Q->wpAny (model X.prog X.w) X.A (isTrue e X.env (eval e X.env)) (TP X ae U Q) X.xe s
def PW(X:Cx)(e:Expr)(t:TT):Prop :=
 ∀(aW:Sem Value)(ae:List (Addr×Obj))(s:Shared)(U:St)(H:Hp)(Q:Bool->Hp->Prop),Inv X ae U H s->t U H Q->wpAny (model X.prog X.w) X.A (isTrue e X.env aW) (TP X ae U Q) X.xe s
theorem PW.pt{e}(h:PW X e t):PT X e t:=h _
def PA(X:Cx)(es:List Expr)(t:TA):Prop :=
 ∀(pos:Pos)(ae:List (Addr×Obj))(s:Shared)(U:St)(H:Hp)(Q:List V->Hp->Prop),Inv X ae U H s->t U H Q->wpAny (model X.prog X.w) X.A (spliced (backTo pos (starEach es X.env))) (AP X ae U Q) X.xe s
def PS(X:Cx)(st:Stmt)(t:TS):Prop :=
 ∀(ae:List (Addr×Obj))(s:Shared)(U:St)(H:Hp)(D:Ends),Inv X ae U H s->t D U H->wpAny (model X.prog X.w) X.A (exec st X.env) (SP X ae D) X.xe s
def PSs(X:Cx)(st:List Stmt)(t:TS):Prop :=
 ∀(ae:List (Addr×Obj))(s:Shared)(U:St)(H:Hp)(D:Ends),Inv X ae U H s->t D U H->wpAny (model X.prog X.w) X.A (execs st X.env) (SP X ae D) X.xe s
theorem thn(h:wpAny M A t Q E s)(hQ:∀a s,Q a s->Q' a s):wpAny M A t Q' E s:=wpAny_mono h hQ λ_ _ x=>x
variable{a b:Expr}{ta tb:TE}{pos:Pos}
variable{tA kM:TT}{rest:List Expr}
def JA(i:Nat):TE:=λU H Q=>∃v,U[i]?=some (some v)/\Q v H
def tC(v:V):TE:=λ_ H Q=>Q v H
theorem Yc{x}(hN:X.N[i]?=some x)(hv:Vis X.env.scope x)(hd:(x==("__debug__":Str))=false:=by decide)(fq:(x==("__classdict__":Str))=false:=by decide):PE X (.Name x pos) (JA i):=by
 intro ae s U H Q I h;obtain⟨v,e,h⟩:=h;obtain⟨m,hn,hl⟩:=I.loc;obtain⟨u,r,l⟩:=hl i x v hN e hv;have ba:EP X ae U Q u s:=⟨v,H,I,r,h⟩
 rcases l with⟨hk,hm⟩|⟨hk,c,hc,hcell⟩
 .exact wpAny_Name (wpAny_loadName_local I.ok.kind hk hn hm ba) hd
 .rcases hk with hk|hk
  .exact wpAny_Name (wpAny_loadName_cell I.ok.kind hk hc hcell ba) hd
  .exact wpAny_Name (wpAny_loadName_free I.ok.kind hk hc hcell ba fq) hd
theorem Ma:PE X (.Constant (.int i) j pos) (tC (.int i)):=λ_ _ _ H _ I h=>wpAny_Constant_int ⟨.int i,H,I.tok _,⟨_,rfl⟩,h⟩
theorem JaY{b}:PE X (.Constant (.bool b) j pos) (tC (.o b)):=λ_ _ _ H _ I h=>Constant_bool ⟨.o b,H,I,rfl,h⟩
theorem Yf:PE X (.Constant .none j pos) (tC .v):=λ_ _ _ H _ I h=>Constant_none ⟨.v,H,I,rfl,h⟩
theorem Ot{x}:PE X (.Constant (.str x) j pos) (tC (.str x)):=λ_ _ _ H _ I h=>Calls.Constant_str ⟨.str x,H,I.tok _,⟨_,rfl⟩,h⟩
def Gl(X:Cx)(x:Str):Prop:=X.env.kindOf x=some .globalImplicit
theorem E8{x}(I:Inv X ae U H s)(hg:Gl X x)(hm:X.mg x=some u)(h:Q u s)
  (hd:(x==("__debug__":Str))=false:=by decide):wpAny (model X.prog X.w) X.A (eval (.Name x pos) X.env) Q E s :=
 Calls.Name_function_global I.ok.kind hg (Calls.loadGlobal_global (by rw[I.ok.glob];exact I.mod.glob.keeps I.bk) hm h) hd
theorem DS{x}(I:Inv X ae U H s)(hg:Gl X x)(hm:X.mg x=none)(hv:bootBuiltins x=some u)(h:Q u s)
  (hn:x≠"__name__":=by decide) (hd:(x==("__debug__":Str))=false:=by decide):wpAny (model X.prog X.w) X.A (eval (.Name x pos) X.env) Q E s:=by
 obtain⟨mb,h1,h2⟩:=I.mod.blt;exact Calls.Name_function_global I.ok.kind hg (Calls.loadGlobal_builtin (by rw[I.ok.glob];exact I.mod.glob.keeps I.bk) hm (by rw[I.ok.blt];exact h1.keeps I.bk) ((h2 x hn).trans hv) h) hd
theorem Ou{x}(hg:Gl X x)(hm:X.mg x=some u)(r:RelV v u)(hd:(x==("__debug__":Str))=false:=by decide):PE X (.Name x pos) (tC v) :=
 λ_ _ _ H _ I h=>E8 I hg hm ⟨v,H,I,r,h⟩ hd
theorem Vi{x}(hg:Gl X x)(hm:X.mg x=none)(hv:bootBuiltins x=some u)(r:RelV v u)(hn:x≠"__name__":=by decide)(hd:(x==("__debug__":Str))=false:=by decide):PE X (.Name x pos) (tC v) :=
 λ_ _ _ H _ I h=>DS I hg hm hv ⟨v,H,I,r,h⟩ hn hd
def Jck(t u:TT):TT:=λU H Q=>t U H λc H1=>if c=true then u U H1 Q else Q false H1
def tOr(t u:TT):TT:=λU H Q=>t U H λc H1=>if c=true then Q true H1 else u U H1 Q
def Jcf(t:TT):TT:=λU H Q=>t U H λc H1=>Q (!c) H1
theorem UT(ha:PT X a tA):PW X (.BoolOp .And [a] pos) tA:=by intro wh ae s U H Q I h;refine isTrue_and (thn (ha ae s U H Q I h) λc s1 e=>?_);cases c with|true=>exact isTrue_and_nil e|false=>exact e
theorem XY(ha:PT X a tA):PW X (.BoolOp .Or [a] pos) tA:=by intro wh ae s U H Q I h;refine isTrue_or (thn (ha ae s U H Q I h) λc s1 e=>?_);cases c with|false=>exact isTrue_or_nil e|true=>exact e
theorem XZ(ha:PT X a tA)(hb:PW X (.BoolOp .And (b::rest) pos) kM):PW X (.BoolOp .And (a::b::rest) pos) (Jck tA kM):=by intro wh ae s U H Q I h;refine isTrue_and (thn (ha ae s U H _ I h) λc s1 ⟨H1,I1,q1⟩=>?_);cases c with|true=>exact hb wh ae s1 U H1 Q I1 q1|false=>exact⟨H1,I1,q1⟩
theorem JaO(ha:PT X a tA)(hb:PW X (.BoolOp .Or (b::rest) pos) kM):PW X (.BoolOp .Or (a::b::rest) pos) (tOr tA kM):=by intro wh ae s U H Q I h;refine isTrue_or (thn (ha ae s U H _ I h) λc s1 ⟨H1,I1,q1⟩=>?_);cases c with|true=>exact⟨H1,I1,q1⟩|false=>exact hb wh ae s1 U H1 Q I1 q1
theorem X1(ha:PT X a tA):PT X (.UnaryOp .Not a pos) (Jcf tA):=by intro ae s U H Q I h;exact isTrue_not (ha ae s U H (λc H1=>Q (!c) H1) I h)
def JaL(ta tb:TE):TE:=λU H Q=>ta U H λx H1=>∃c,x=.o c/\if c=true then tb U H1 Q else Q (.o false) H1
def Jce(ta tb:TE):TE:=λU H Q=>ta U H λx H1=>∃c,x=.o c/\if c=true then Q (.o true) H1 else tb U H1 Q
theorem Ye(h:PE X a t):PE X (.BoolOp op [a] pos) t:=λae s U H Q I hw=>BoolOp_one (h ae s U H Q I hw)
theorem Yk(ha:PE X a ta)(hb:PE X (.BoolOp .And (b::rest) pos) tb):PE X (.BoolOp .And (a::b::rest) pos) (JaL ta tb):=by intro ae s U H Q I h;refine BoolOp_and (thn (ha ae s U H _ I h) λv s1 ⟨x,H1,I1,r1,q1⟩=>?_);obtain⟨c,rfl,q1⟩:=q1;cases r1;refine wpAny_truthy_bool ?_;cases c with|true=>exact hb ae s1 U H1 Q I1 q1|false=>exact⟨.o false,H1,I1,rfl,q1⟩
theorem JaT(ha:PE X a ta)(hb:PE X (.BoolOp .Or (b::rest) pos) tb):PE X (.BoolOp .Or (a::b::rest) pos) (Jce ta tb):=by intro ae s U H Q I h;refine BoolOp_or (thn (ha ae s U H _ I h) λv s1 ⟨x,H1,I1,r1,q1⟩=>?_);obtain⟨c,rfl,q1⟩:=q1;cases r1;refine wpAny_truthy_bool ?_;cases c with|false=>exact hb ae s1 U H1 Q I1 q1|true=>exact⟨.o true,H1,I1,rfl,q1⟩
def SqL(K:Fg)(H:Hp)(a:Addr)(xs:List V):Prop :=
 Rd H a (.lst xs)\/
  ∃(o:Obj)(ak:Array Value)(n:Nat),K.lookup a=some o/\o.cls=.type "list"/\o.dict=none/\o.data=.seq ak n/\ak.size<=sizeLine/\Vals xs ak.toList
def SqT(K:Fg)(H:Hp)(a:Addr)(xs:List V):Prop :=
 Rd H a (.tup xs)\/
  ∃(o:Obj)(ak:Array Value)(n:Nat),K.lookup a=some o/\o.cls=.type "tuple"/\o.data=.seq ak n/\ak.size<=sizeLine/\Vals xs ak.toList
def absV:Value->Option V
 |.none=>some .v
 |.bool b=>some (.o b)
 |.int i _=>some (.int i)
 |.str x _=>some (.str x)
 |.bytes b _=>some (.zE b)
 |.float b _=>some (.yJ b)
 |.ref a=>some (.ref a)
 |.type n=>some (.ty n)
 |_=>none
theorem RelV.abs{x}(r:RelV x u):absV u=some x:=by cases x with|v=>cases r;rfl|o _=>cases r;rfl|int _=>obtain⟨t,rfl⟩:=r;rfl|str _=>obtain⟨t,rfl⟩:=r;rfl|zE _=>obtain⟨t,rfl⟩:=r;rfl|yJ _=>obtain⟨t,rfl⟩:=r;rfl|ref _=>cases r;rfl|ty _=>cases r;rfl
theorem RelV.inj{x}{y}(r:RelV x u)(q:RelV y u):x=y:=Option.some.inj (r.abs.symm.trans q.abs)
theorem Vals.inj:∀{xs ys:List V}{us:List Value},Vals xs us->Vals ys us->xs=ys
 |_,_,_,.nil,.nil=>rfl
 |_,_,_,.cons r t,.cons r' t'=>by rw[r.inj r',Vals.inj t t']
variable{U:St}{a:Addr}{xs ys:List V}
theorem SqL.of{K:Fg}(h:H a=some (.lst xs)):SqL K H a xs:=.inl (.inl h)
theorem SqT.of{K:Fg}(h:H a=some (.tup xs)):SqT K H a xs:=.inl (.inl h)
theorem Inv.list(I:Inv X ae U H s)(h:SqL X.K H a xs):∃ak:List Value,Vals xs ak/\PlainL s.heap a ak.toArray/\xs.length<=sizeLine:=by
 rcases h with h|⟨o,ak,n,hk,hc,hd,hs,hz,r⟩
 .obtain⟨z,ak,n,r,e⟩:=h.ok I.zZ;exact⟨ak,r,⟨_,n,e,rfl,rfl,rfl⟩,z⟩
 .refine⟨ak.toList,r,⟨o,n,I.kIn a o hk,hc,hd,by simpa using hs⟩,?_⟩;have e:=r.length;simp only[uq]at e;omega
theorem Inv.tuple(I:Inv X ae U H s)(h:SqT X.K H a xs):∃ak:List Value,Vals xs ak/\IsTup s.heap a ak.toArray/\xs.length<=sizeLine:=by
 rcases h with h|⟨o,ak,n,hk,hc,hs,hz,r⟩
 .obtain⟨z,ak,r,p⟩:=h.ok I.zZ;exact⟨ak,r,p,z⟩
 .refine⟨ak.toList,r,⟨o,I.kIn a o hk,hc,n,by simpa using hs⟩,?_⟩;have e:=r.length;simp only[uq]at e;omega
theorem Inv.Mh(I:Inv X ae U H s)(h:SqL X.K H a xs)(h':SqL X.K H a ys):xs=ys:=by
 obtain⟨ak,r,⟨o,n,e,_,_,d⟩,_⟩:=I.list h;obtain⟨aR,r',⟨o',n',e',_,_,d'⟩,_⟩:=I.list h';rw[e]at e';cases e';rw[d]at d';injection d' with d1 _;have:=by simpa using congrArg Array.toList d1
 subst this;exact r.inj r'
theorem Inv.Ge(I:Inv X ae U H s)(h:SqT X.K H a xs)(h':SqT X.K H a ys):xs=ys:=by
 obtain⟨ak,r,⟨o,e,_,n,d⟩,_⟩:=I.tuple h;obtain⟨aR,r',⟨o',e',_,n',d'⟩,_⟩:=I.tuple h';rw[e]at e';cases e';rw[d]at d';injection d' with d1 _;have:=by simpa using congrArg Array.toList d1
 subst this;exact r.inj r'
abbrev Cx.Gd(X:Cx)(E:Value->Shared->Prop):Cx:={X with xe:=E}
theorem Cx.Ok.Gd(ok:X.Ok)(E:Value->Shared->Prop):(X.Gd E).Ok :=
 ⟨ok.mod,ok.kind,ok.glob,ok.blt,ok.above,ok.inj,ok.has,ok.yY,ok.hd,ok.frames,ok.yQ,ok.yM,ok.bs,ok.zo,ok.zi,ok.zm,ok.Mt,ok.zb⟩
theorem Cx.Ok.Ei(ok:(X.Gd E).Ok):X.Ok :=
 ⟨ok.mod,ok.kind,ok.glob,ok.blt,ok.above,ok.inj,ok.has,ok.yY,ok.hd,ok.frames,ok.yQ,ok.yM,ok.bs,ok.zo,ok.zi,ok.zm,ok.Mt,ok.zb⟩
variable{E:Value->Shared->Prop}
theorem Inv.Gd(I:Inv X ae U H s)(E:Value->Shared->Prop):Inv (X.Gd E) ae U H s:=⟨I.ok.Gd E,I.os,I.bare,I.base,I.loc,I.cell,I.free,I.zS,I.pin,I.zZ,I.len⟩
theorem Inv.Ei(I:Inv (X.Gd E) ae U H s):Inv X ae U H s:=⟨I.ok.Ei,I.os,I.bare,I.base,I.loc,I.cell,I.free,I.zS,I.pin,I.zZ,I.len⟩
theorem SP.Ei(h:SP (X.Gd E) ae D f s'):SP X ae D f s':=by cases f with|next=>obtain⟨ar,H',I,q⟩:=h;exact⟨ar,H',I.Ei,q⟩|brk=>obtain⟨ar,H',I,q⟩:=h;exact⟨ar,H',I.Ei,q⟩|cont=>obtain⟨ar,H',I,q⟩:=h;exact⟨ar,H',I.Ei,q⟩|ret u=>obtain⟨v,ar,H',I,r,q⟩:=h;exact⟨v,ar,H',I.Ei,r,q⟩
variable{st:Stmt}{rest:List Stmt}{t u:TS}{e:Expr}{te:TE}
def JaF:TS:=λD U H=>D.nx U H
def JbN(t u:TS):TS:=λD U H=>t {D with nx:=u D} U H
theorem UX:PSs X [] JaF:=λ_ _ U H _ I h=>wpAny_execs_nil ⟨U,H,I,h⟩
theorem Q1(h1:PS X st t)(h2:PSs X rest u):PSs X (st::rest) (JbN t u):=by intro ae s U H D I h;refine wpAny_execs_cons (thn (h1 ae s U H {D with nx:=u D} I h) λf s1 q=>?_);cases f with|next =>obtain⟨ar,H',I',q⟩:=q;exact h2 ae s1 ar H' D I' q|ret v=>exact q|brk=>exact q|cont=>exact q
theorem UW(h1:PS X st t):PSs X [st] t:=by intro ae s U H D I h;refine wpAny_execs_cons (thn (h1 ae s U H D I h) λf s1 q=>?_);cases f with|next=>exact wpAny_execs_nil q|ret v=>exact q|brk=>exact q|cont=>exact q
theorem Inv.quiet(I:Inv X ae U H s):interactive X.env=false:=by simp[interactive,I.ok.kind]
def JaI(te:TE):TS:=λD U H=>te U H λ_ H1=>D.nx U H1
theorem UY(he:PE X e te)(hs:swapsWith e none pos.line X.env=pure false:=by rfl):PS X (.Expr e pos) (JaI te):=by intro ae s U H D I h;exact wpAny_Expr_any (thn (he ae s U H _ I h) λv s1 ⟨x,H1,I1,r1,q1⟩=>⟨U,H1,I1,q1⟩) I.quiet hs
def Jcd(te:TE):TS:=λD U H=>te U H D.rt
theorem X3(he:PE X e te):PS X (.Return (some e) pos) (Jcd te):=by intro ae s U H D I h;exact wpAny_Return_some (thn (he ae s U H _ I h) λv s1 ⟨x,H1,I1,r1,q1⟩=>⟨x,U,H1,I1,r1,q1⟩)
def Jch(c:TT)(t u:TS):TS:=λD U H=>c U H λb H1=>if b=true then t D U H1 else u D U H1
theorem JaP{a}{b}(hc:PT X c tc)(ha:PSs X a t)(hb:PSs X b u):PS X (.If c a b pos) (Jch tc t u):=by intro ae s U H D I h;refine wpAny_If (thn (hc ae s U H _ I h) λd s1 ⟨H1,I1,q1⟩=>?_);cases d with|true=>exact ha ae s1 U H1 D I1 q1|false=>exact hb ae s1 U H1 D I1 q1
def Xs:TS:=λ_ _ _=>False
theorem Q4:PS X st Xs:=λ_ _ _ _ _ _ h=>h.elim
abbrev TG:=V->St->Hp->(St->Hp->Prop)->Prop
abbrev TGs:=List V->St->Hp->(St->Hp->Prop)->Prop
def PG(X:Cx)(target:Expr)(t:TG):Prop :=
 ∀(ae:List (Addr×Obj))(s:Shared)(U:St)(H:Hp)(v:V)(u:Value)(Q:St->Hp->Prop),Inv X ae U H s->RelV v u->t v U H Q ->
  wpAny (model X.prog X.w) X.A (assign target X.env u) (λ_ s'=>∃ar H',Inv X ae ar H' s'/\Q ar H') X.xe s
def PGs(X:Cx)(ts:List Expr)(t:TGs):Prop :=
 ∀(ae:List (Addr×Obj))(s:Shared)(U:St)(H:Hp)(vs:List V)(us:List Value)(Q:St->Hp->Prop),Inv X ae U H s->Vals vs us->t vs U H Q ->
  wpAny (model X.prog X.w) X.A (assignInOrder ((assignEach ts X.env).map (·.2)) us) (λ_ s'=>∃ar H',Inv X ae ar H' s'/\Q ar H') X.xe s
abbrev Xj:=V->V->V->Hp->(Hp->Prop)->Prop
def Tf(X:Cx)(t:Xj):Prop :=
 ∀(ae:List (Addr×Obj))(s:Shared)(U:St)(H:Hp)(o i v:V)(ov iv u:Value)(Q:Hp->Prop),Inv X ae U H s->RelV o ov->RelV i iv->RelV v u->t o i v H Q ->
  wpAny (model X.prog X.w) X.A (setItem ov iv u) (λ_ s'=>∃H',Inv X ae U H' s'/\Q H') X.xe s
def Se(i:Nat):TG:=λv U H Q=>Q (U.set i (some v)) H
theorem U8{x}(hN:X.N.Nodup)(hi:X.N[i]?=some x)(hx:Loc X.env.scope x)(hf:X.fn x=true\/X.env.scope.names.lookup x=some .local:=by first|exact .inl rfl|exact .inr rfl|assumption):PG X (.Name x pos) (Se i):=by intro ae s U H v u Q I r h;exact wpAny_assign_Name (FJ I hN hi hx r (λs' I'=>⟨_,H,I',h⟩) hf)
def gNil:TGs:=λvs U H Q=>vs=[]/\Q U H
def Zc(t:TG)(u:TGs):TGs:=λvs U H Q=>∃v r,vs=v::r/\t v U H λar H'=>u r ar H' Q
theorem U7:PGs X [] gNil:=by intro ae s U H vs us Q I r h;obtain⟨e,h⟩:=h;subst e;cases r;exact assignInOrder_nil ⟨U,H,I,h⟩
theorem Rb{t}{u}(h1:PG X e t)(h2:PGs X es u)
  (hs:(assignEach (e::es) X.env).map (·.2)=assign e X.env::(assignEach es X.env).map (·.2):=by rfl):PGs X (e::es) (Zc t u):=by
 intro ae s U H vs us Q I r h;obtain⟨v,vr,e1,h⟩:=h;subst e1;cases r with|cons r rr =>rw[hs];refine assignInOrder_cons (thn (h1 ae s U H _ _ _ I r h) λ_ s1 ⟨fH,H1,I1,q1⟩=>?_);exact h2 ae s1 fH H1 _ _ Q I1 rr q1
def gTup(K:Fg)(n:Nat)(t:TGs):TG:=λv U H Q=>∃a xs,v=.ref a/\SqT K H a xs/\xs.length=n/\t xs U H Q
theorem Ya{t}(hc:X.calm=true)(h:PGs X es t)
  (hn:(assignEach es X.env).length=n:=by rfl) (bK:(assignEach es X.env).findIdx? (·.1)=none:=by rfl):PG X (.Tuple es k pos) (gTup X.K n t):=by
 intro ae s U H v u Q I r hw;obtain⟨a,xs,e1,hq,hl,hw⟩:=hw;subst e1;cases r;obtain⟨ak,rv,ht,hz⟩:=I.tuple hq;refine assign_Tuple_tuple (I.ok.hd hc) ht (by simp[hn,<- hl,rv.length]) bK λh' hx=>?_
 have I1:Inv X ae U H {s with heap:=h' }:=I.kept λb o e=>hx b o (tD (sO e)) e
 exact h ae _ U H xs _ Q I1 (by simpa using rv) hw
def JbZ(to ti:TE)(t:Xj):TG:=λv U H Q=>to U H λo H1=>ti U H1 λi H2=>t o i v H2 λH3=>Q U H3
theorem Yb{o}{t}(ho:PE X o to)(hi:PE X i ti)(hs:Tf X t)
  (ha:∀v,assign (.Subscript o i pos) X.env v=(do
   let ov <- holding [v] (eval o X.env)
   let iv <- holding [v,ov] (eval i X.env)
   standAt pos
   holding [v,ov,iv] (setItem ov iv v)
   release [v,ov,iv] []):=by intro _;rfl):PG X (.Subscript o i pos) (JbZ to ti t):=by
 intro ae s U H v u Q I r h;rw[ha];refine sE (wpAny_holding (thn (ho ae s U H _ I h) λov s1 ⟨x,H1,I1,r1,q1⟩=>?_));refine sE (wpAny_holding (thn (hi ae s1 U H1 _ I1 q1) λiv s2 ⟨y,H2,I2,r2,q2⟩=>?_));refine sE (wpAny_standAt (sE (wpAny_holding (thn (hs ae s2 U H2 x y v ov iv u _ I2 r1 r2 r q2) λ_ s3 ⟨H3,I3,q3⟩=>?_))));exact wpAny_release ⟨U,H3,I3,q3⟩
def Xy(te:TE)(g:TG):TS:=λD U H=>te U H λx H1=>g x U H1 D.nx
theorem Tw(he:PE X e te)(hg:PG X tg g)(hs:swapsWithSole [tg] e pos.line X.env=pure false:=by rfl)(hw:swappedStores [tg] e X.env=pure none:=by rfl)
  (h1:(assignEach [tg] X.env).map (·.2)=[assign tg X.env]:=by rfl):PS X (.Assign [tg] e pos) (Xy te g):=by
 intro ae s U H D I h;refine wpAny_Assign_stores (thn (he ae s U H _ I h) λv s1 ⟨x,H1,I1,r1,q1⟩=>?_) hs hw;rw[h1];exact thn (hg ae s1 U H1 x v _ I1 r1 q1) λ_ s2 q=>q
theorem X2{x}(hN:X.N.Nodup)(hi:X.N[i]?=some x)(hx:Loc X.env.scope x)(he:PE X e te)(hs:swapsWith e (some (.Name x aU)) pos.line X.env=pure false:=by rfl)(hf:X.fn x=true\/X.env.scope.names.lookup x=some .local:=by first|exact .inl rfl|exact .inr rfl|assumption):
  PS X (.Assign [.Name x aU] e pos) (Xy te (Se i)):=by
 intro ae s U H D I h;refine wpAny_Assign_Name (thn (he ae s U H _ I h) λv s1 ⟨y,H1,I1,r1,q1⟩=>?_) hs;exact FJ I1 hN hi hx r1 (λs2 I2=>⟨_,H1,I2,q1⟩) hf
def Xo(c:TT)(tb:TS):TS:=λD U H=>∃W:Nat->St->Hp->Prop,(∃m,W m U H)/\∀m U H,W m U H ->
 c U H λb H1=>if b=true then ∃N:St->Hp->Prop,(∀ar H',N ar H'->∃m',m'<m/\W m' ar H')/\tb {D with nx:=N,ct:=N,bk:=D.nx} U H1 else D.nx U H1
theorem Q2{tb}(hp:PassesOwn (model X.prog X.w) X.A X.env X.xe)(hc:PT X c tc)(hb:PSs X body tb):PS X (.While c body [] pos) (Xo tc tb):=by
 intro ae s U H D I h;obtain⟨W,⟨m0,w0⟩,turn⟩:=h;refine wpAny_While (codeAny_whileLoop (λn s'=>∃ar H',Inv X ae ar H' s'/\W n ar H') ?_ m0 ⟨U,H,I,w0⟩)
 rintro n s1 ⟨fH,H1,I1,w1⟩
 refine wpAny_passesOwn hp (thn (hc ae s1 fH H1 _ I1 (turn n fH H1 w1)) λb s2 ⟨H2,I2,q2⟩=>?_);cases b with
 |true =>obtain⟨N,hN,q2⟩:=q2;rw[if_pos rfl];refine wpAny_passesOwn hp (thn (hb ae s2 fH H2 _ I2 q2) λf s3 q3=>?_);cases f with|next =>obtain⟨fJ,H3,I3,n3⟩:=q3;obtain⟨m',hm,w3⟩:=hN fJ H3 n3;exact⟨m',hm,fJ,H3,I3,w3⟩|cont =>obtain⟨fJ,H3,I3,n3⟩:=q3;obtain⟨m',hm,w3⟩:=hN fJ H3 n3;exact⟨m',hm,fJ,H3,I3,w3⟩|brk=>exact q3|ret v=>exact q3
 |false =>rw[if_neg tm];exact wpAny_execs_nil ⟨fH,H2,I2,q2⟩
structure It where
 go:Nat->Hp->Prop
 yL:Nat->Hp->V->Hp->Prop
 stop:Nat->Hp->Prop
def KS(X:Cx)(ae:List (Addr×Obj))(H:Hp)(b:Addr):Prop :=
 H b=none/\b≠X.env.locals/\b∉X.fs/\(b∈X.ex\/X.zV.heap.objs.size<=b)/\(∀x c,X.env.cells.lookup x=some c->c≠b)/\∀p∈X.pn++ae,p.1≠b
theorem Inv.Sn{b}(I:Inv X ae U H s)(hb:s.heap.objs.size<=b)(hn:H' b=none):KS X ae H' b:=by
 refine⟨hn,Nat.ne_of_gt (sT I.lt hb),I.nofs hb,.inr (tK I.sz hb),λx c e z=>?_,λp hp z=>?_⟩
 .obtain⟨v,q⟩:=I.cell x c e;exact absurd (sT q.lt (by rw[z];exact hb)) (tZ _)
 .exact absurd (sT (sO (I.pin p hp).1) (by rw[z];exact hb)) (tZ _)
structure Turn(P:Program)(w:World)(K:Fg)(tg:Expr)(J:It)(fp:List Addr)(it:Addr)(tn:Nat->Heap->Prop):Prop where
 mem:it∈fp
 obj:∀i h,tn i h->∀b∈fp,∃o,h.get? b=some o/\∀v,o.data≠.cell v
 keep:∀i h h',tn i h->(∀b∈fp,∀o,h.get? b=some o->h'.get? b=some o)->tn i h'
 item:∀(X:Cx),X.prog=P->X.w=w->X.K=K->X.calm=true->∀(i:Nat)(ae:List (Addr×Obj))(s:Shared)(U:St)(H:Hp)(E:Value->Shared->Prop),Inv X ae U H s->(∀b∈fp,KS X ae H b)->tn i s.heap->J.go i H ->
  wpAny (model P w) X.A (pyNext (.ref it)) (λr s1=>∃u,r=some u /\
   wpAny (model P w) X.A (letOwnedTupleGo tg (.ref it) u) (λ_ s2=>∃x H',Inv X ae U H' s2/\RelV x u/\J.yL i H x H'/\tn (i+1) s2.heap/\∀b∈fp,H' b=none) E s1) E s
 done:∀(X:Cx),X.prog=P->X.w=w->X.K=K->X.calm=true->∀(i:Nat)(ae:List (Addr×Obj))(s:Shared)(U:St)(H:Hp)(E:Value->Shared->Prop),Inv X ae U H s->(∀b∈fp,KS X ae H b)->tn i s.heap->J.stop i H ->
  wpAny (model P w) X.A (pyNext (.ref it)) (λr s1=>r=none/\Inv X ae U H s1) E s
 self:∀(A:Around)(i:Nat)(s:Shared)(Q:Value->Shared->Prop)(E:Value->Shared->Prop),tn i s.heap->Q (.ref it) s->wpAny (model P w) A (pyIter (.ref it)) Q E s
abbrev TI:=St->Hp->(It->Hp->Prop)->Prop
def PIE(X:Cx)(ae:List (Addr×Obj))(U:St)(tg:Expr)(R:It->Hp->Prop)(kD:Value)(s2:Shared):Prop :=
 ∃(it:Addr)(fp:List Addr)(tn:Nat->Heap->Prop)(J:It)(H':Hp),kD=.ref it/\Inv X ae U H' s2/\Turn X.prog X.w X.K tg J fp it tn/\tn 0 s2.heap/\(∀b∈fp,KS X ae H' b)/\R J H'
def PI(X:Cx)(tg az:Expr)(wi:TI):Prop :=
 ∀(ae:List (Addr×Obj))(s:Shared)(U:St)(H:Hp)(R:It->Hp->Prop),Inv X ae U H s->wi U H R ->
  wpAny (model X.prog X.w) X.A (eval az X.env) (λv s1=>wpAny (model X.prog X.w) X.A (pyIter v) (PIE X ae U tg R) X.xe s1) X.xe s
theorem R7{u}{o}(ho:s.heap.get? it=some o)(hc:o.cls=.type n)(hd:o.data=.fields vs)
    (hn:["enumerate","zip","dict_itemiterator","dict_reverseitemiterator","odict_iterator","itertools.zip_longest","itertools.pairwise"].contains n=false) (hQ:Q () s):wpAny M A (letOwnedTupleGo tg (.ref it) u) Q E s:=by
  unfold letOwnedTupleGo;cases tg<;>first
    |exact sM hQ
    | (cases u <;> first
        |exact sM hQ
        | (refine sE (wpAny_load ho ?_)
           rw[hc,hd];show wpAny M A (if(["enumerate","zip","dict_itemiterator","dict_reverseitemiterator","odict_iterator","itertools.zip_longest","itertools.pairwise"].contains n&&vs[0]?==some (rawInt _))=true then _ else _) Q E s;rw[if_neg (by intro h;rw[hn,Bool.false_and]at h;cases h)];exact sM hQ))
def Itl(K:Fg)(a:Addr):It :=
 ⟨λi H=>∃xs x,SqL K H a xs/\xs[i]?=some x,λi H x H'=>H'=H/\∀xs,SqL K H a xs->xs[i]?=some x,λi H=>∃xs,SqL K H a xs/\xs.length<=i⟩
def Itt(K:Fg)(a:Addr):It :=
 ⟨λi H=>∃xs x,SqT K H a xs/\xs[i]?=some x,λi H x H'=>H'=H/\∀xs,SqT K H a xs->xs[i]?=some x,λi H=>∃xs,SqT K H a xs/\xs.length<=i⟩
def Itr(lo:Int)(n:Nat):It:=⟨λi _=>i<n,λi H x H'=>H'=H/\x=.int (lo+i),λi _=>n<=i⟩
theorem NV{K:Fg}(a it:Addr):Turn P w K tg (Itl K a) [it] it (λi h=>h.IsListIter it a i) where
 mem:=by simp
 obj:=λi h st b hb=>by
  have e:=by simpa using hb
  subst e;obtain⟨o,e,c,d⟩:=st;exact⟨o,e,λv z=>by rw[d]at z;cases z⟩
 keep:=λi h h' st k=>st.at λo e=>k it (by simp) o e
 item:=by
  intro X hP hw hK hc i ae s U H E I hf st hg;subst hP hw hK;obtain⟨xs,x,hq,hx⟩:=hg;obtain⟨ak,rv,p,hz⟩:=I.list hq;obtain⟨u,hu,ru⟩:=rv.get hx;obtain⟨f0,f1,f2,f3,f4,f5⟩:=hf it (by simp);refine wpAny_pyNext_list_item st p.isList (by simpa using hu) λh' eQ sb=>?_
  have I1:Inv X ae U H {s with heap:=h' }:=I.turned (λb o hb e=>(sb.2 b hb).trans e) f0 f1 f3 f4 f5;obtain⟨o,e,c,d⟩:=id eQ;exact⟨u,rfl,R7 e c d (by decide) ⟨x,H,I1,ru,⟨rfl,λys hy=>by rw[I.Mh hy hq];exact hx⟩,eQ,λb hb=>(hf b hb).1⟩⟩
 done:=by intro X hP hw hK hc i ae s U H E I hf st hg;subst hP hw hK;obtain⟨xs,hq,hx⟩:=hg;obtain⟨ak,rv,p,hz⟩:=I.list hq;obtain⟨f0,f1,f2,f3,f4,f5⟩:=hf it (by simp);have hl:=rv.length;exact wpAny_pyNext_list_end (I.ok.hd hc) st p.isList (by simp;omega) λh' eb=>⟨rfl,I.turned (λb o hb e=>eb b o hb e) f0 f1 f3 f4 f5⟩
 self:=λ_ _ _ _ _ st h=>wpAny_pyIter_listiter st h
theorem MO{K:Fg}(a it:Addr):Turn P w K tg (Itt K a) [it] it (λi h=>h.IsTupleIter it a i) where
 mem:=by simp
 obj:=λi h st b hb=>by
  have e:=by simpa using hb
  subst e;obtain⟨o,e,c,d⟩:=st;exact⟨o,e,λv z=>by rw[d]at z;cases z⟩
 keep:=λi h h' st k=>st.at λo e=>k it (by simp) o e
 item:=by
  intro X hP hw hK hc i ae s U H E I hf st hg;subst hP hw hK;obtain⟨xs,x,hq,hx⟩:=hg;obtain⟨ak,rv,p,hz⟩:=I.tuple hq;obtain⟨u,hu,ru⟩:=rv.get hx;obtain⟨f0,f1,f2,f3,f4,f5⟩:=hf it (by simp);refine wpAny_pyNext_tuple_item st (show s.heap.IsTuple a ak.toArray from p) (by simpa using hu) λh' eQ sb=>?_
  have I1:Inv X ae U H {s with heap:=h' }:=I.turned (λb o hb e=>(sb.2 b hb).trans e) f0 f1 f3 f4 f5;obtain⟨o,e,c,d⟩:=id eQ;exact⟨u,rfl,R7 e c d (by decide) ⟨x,H,I1,ru,⟨rfl,λys hy=>by rw[I.Ge hy hq];exact hx⟩,eQ,λb hb=>(hf b hb).1⟩⟩
 done:=by intro X hP hw hK hc i ae s U H E I hf st hg;subst hP hw hK;obtain⟨xs,hq,hx⟩:=hg;obtain⟨ak,rv,p,hz⟩:=I.tuple hq;obtain⟨f0,f1,f2,f3,f4,f5⟩:=hf it (by simp);have hl:=rv.length;exact wpAny_pyNext_tuple_end (I.ok.hd hc) st (show s.heap.IsTuple a ak.toArray from p) (by simp;omega) λh' eb=>⟨rfl,I.turned (λb o hb e=>eb b o hb e) f0 f1 f3 f4 f5⟩
 self:=λ_ _ _ _ _ st h=>wpAny_pyIter_tupleiter st h
theorem MP{K:Fg}(it:Addr)(lo:Int)(n:Nat):Turn P w K tg (Itr lo n) [it] it (λi h=>IsRangeIter h it (lo+(i:Nat)*1) ((n:Int)-(i:Nat)) 1) where
 mem:=by simp
 obj:=λi h st b hb=>by
  have e:=by simpa using hb
  subst e;exact⟨_,st,λv z=>by have z':=z;cases z'⟩
 keep:=λi h h' st k=>k it (by simp) _ st
 item:=by
  intro X hP hw hK hc i ae s U H E I hf st hg;subst hP hw hK;obtain⟨f0,f1,f2,f3,f4,f5⟩:=hf it (by simp);have W:=Walks.range (prog:=X.prog) (w:=X.w) (I.ok.hd hc) it lo 1 n;refine W.item i s _ _ hg st λv h' tk hv eQ kk=>?_
  obtain⟨t,rfl⟩:=hv;have I1:Inv X ae U H {s with heap:=h',toks:=tk}:=I.turned (λb o hb e=>kk b o (by simpa using hb) e) f0 f1 f3 f4 f5;refine⟨_,rfl,R7 eQ rfl rfl (by decide) ⟨.int (lo+i),H,I1,⟨t,?_⟩,⟨rfl,rfl⟩,eQ,λb hb=>(hf b hb).1⟩⟩;rw[Int.mul_one]
 done:=by intro X hP hw hK hc i ae s U H E I hf st hg;subst hP hw hK;obtain⟨f0,f1,f2,f3,f4,f5⟩:=hf it (by simp);exact wpAny_pyNext_range_end (I.ok.hd hc) st (by have:n<=i:=hg;omega) λh' eb=>⟨rfl,I.turned (λb o hb e=>eb b o hb e) f0 f1 f3 f4 f5⟩
 self:=λ_ _ _ _ _ st h=>wpAny_pyIter_rangeiter st h
variable{tg:Expr}
theorem QX{t}{u}{lo hi:Int}(I:Inv X ae U H s)(h1:-(2^62)<=lo)(h2:lo<2^62)(h3:-(2^62)<=hi)(h4:hi<2^62)
  (q:R (Itr lo (hi-lo).toNat) H):wpAny (model X.prog X.w) X.A (pyIter (.ref s.heap.objs.size)) (PIE X ae U tg R) E {s with heap:=s.heap.push {cls:=.type "range",data:=.fields #[.int lo t,.int hi u,.int 1 v]},toks:=tk}:=by
 refine wpAny_pyIter_range (IsRange.new ..) (small_one h1 h2 h3 h4) ?_;have I1:Inv X ae U H {s with heap:=s.heap.push {cls:=.type "range",data:=.fields #[.int lo t,.int hi u,.int 1 v]},toks:=tk}:=I.kept λb o e=>sF _ e
 refine⟨(s.heap.push {cls:=.type "range",data:=.fields #[.int lo t,.int hi u,.int 1 v]}).objs.size,[(s.heap.push {cls:=.type "range",data:=.fields #[.int lo t,.int hi u,.int 1 v]}).objs.size],_,_,H,rfl,
  I1.kept λb o e=>sF _ e,MP _ lo (hi-lo).toNat,?_,λb hb=>?_,q⟩
 .have e1:lo+((0:Nat):Int)*1=lo:=by simp
  have e2:(((hi-lo).toNat:Nat):Int)-((0:Nat):Int)=Builtin.Range.rangeSize lo hi 1:=by rw[rangeSize_one];split<;>omega
  show IsRangeIter _ _ (lo+((0:Nat):Int)*1) ((((hi-lo).toNat:Nat):Int)-((0:Nat):Int)) 1;rw[e1,e2];exact sP _ rfl
 .have e:b=(s.heap.push {cls:=.type "range",data:=.fields #[.int lo t,.int hi u,.int 1 v]}).objs.size:=by simpa using hb
  subst e;exact I1.Sn (sV _) (I1.zZ.fresh (sV _))
def Jbb(ta:TA):TI:=λU H R=>ta U H λvs H1=>∃j:Int,vs=[.int j]/\-(2^62)<=j/\j<2^62/\R (Itr 0 j.toNat) H1
theorem Oo{a}{ta}{p:Pos}(hg:Gl X "range")(hm:X.mg "range"=none)(ha:PA X [a] ta)(hs:starEach [a] X.env=[(false,eval a X.env)]:=by rfl):PI X tg (.Call (.Name "range" p) [a] [] pos) (Jbb ta):=by intro ae s U H R I h;refine Call_ (DS I hg hm boot_range (callWith_type1 (thn (ha pos ae s U H _ I h) λus s1 ⟨vs,H1,I1,r1,q1⟩=>?_) hs rfl));obtain⟨j,e,q1,q2,q⟩:=q1;subst e;cases r1 with|cons r rr =>cases rr;obtain⟨t,rfl⟩:=r;exact call_range_1 (QX I1 (by omega) (by omega) q1 q2 (by simpa using q))
def Jci(wi:TI)(g:TG)(tb:TS):TS:=λD U H=>wi U H λJ H1=>∃W:Nat->Nat->St->Hp->Prop,(∃m,W 0 m U H1)/\∀i m U H,W i m U H ->
 (J.stop i H/\D.nx U H)\/(J.go i H/\∃N:St->Hp->Prop,(∀ar H',N ar H'->∃m',m'<m/\W (i+1) m' ar H')/\∀x H',J.yL i H x H'->g x U H' λgv H2=>tb {D with nx:=N,ct:=N,bk:=D.nx} gv H2)
def JO(fp:List Addr)(h:Heap):List (Addr×Obj):=fp.filterMap λb=>(h.get? b).map λo=>(b,o)
theorem Eb{b}{o}(hb:b∈fp)(e:h.get? b=some o):(b,o)∈JO fp h:=uQ.mpr ⟨b,hb,by rw[e];rfl⟩
theorem OD(hp:p∈JO fp h):p.1∈fp/\h.get? p.1=some p.2:=by obtain⟨b,hb,e⟩:=uQ.mp hp;cases q:h.get? b with|none=>rw[q]at e;cases e|some o =>rw[q]at e;have e':=Option.some.inj e;subst e';exact⟨hb,q⟩
theorem Inv.pinned(I:Inv X ae U H s)(hf:∀b∈fp,KS X ae H b)(ho:∀b∈fp,∃o,s.heap.get? b=some o/\∀v,o.data≠.cell v):Inv X (ae++JO fp s.heap) U H s :=
 I.IE λp hp=>(sW.mp hp).elim (λz=>I.pin p (sU _ z)) λz=>by obtain⟨hb,e⟩:=OD z;obtain⟨f0,f1,f2,_⟩:=hf p.1 hb;obtain⟨o,e',d⟩:=ho p.1 hb;rw[e]at e';cases e';exact⟨e,f0,f1,f2,d⟩
theorem Inv.FH(I:Inv X (ae++pl) U H s):Inv X ae U H s:=I.IE λp hp=>I.pin p (sU _ (sX _ hp))
theorem X4{tb}(hp:PassesOwn (model X.prog X.w) X.A X.env X.xe)(hc:X.calm=true)(hi:PI X tg az wi)(hg:PG X tg g)(hb:PSs X body tb)
  (hs:∀x,foldedSetIterable az X.env x=pure x:=by intro _;rfl):PS X (.For tg az body [] pos) (Jci wi g tb):=by
 intro ae s U H D I h;refine wpAny_For (thn (hi ae s U H _ I h) λv s1 h1=>thn h1 λkD s2 h2=>?_) hs;obtain⟨it,fp,tn,J,H2,e,I2,T,i6,f2,W,⟨m0,w0⟩,turn⟩:=h2;subst e;have eS:∀{H':Hp},(∀b∈fp,H' b=none)->∀b∈fp,KS X ae H' b:=λhn b hb=>⟨hn b hb,(f2 b hb).2⟩
 refine codeAny_forLoop_any (λn s'=>∃i ar H',Inv X ae ar H' s'/\tn i s'.heap/\(∀b∈fp,H' b=none)/\W i n ar H') ?_ m0 ⟨0,U,H2,I2,i6,λb hb=>(f2 b hb).1,w0⟩
 rintro n s3 ⟨i,fJ,H3,I3,st3,fr3,w3⟩
 rcases turn i n fJ H3 w3 with⟨stop,qn⟩|⟨go,N,hN,step⟩
 .refine wpAny_passesOwn hp (thn (T.done X rfl rfl rfl hc i ae s3 fJ H3 X.xe I3 (eS fr3) st3 stop) λr s4 ⟨hr,I4⟩=>?_);subst hr;exact wpAny_execs_nil ⟨fJ,H3,I4,qn⟩
 .refine wpAny_passesOwn hp (thn (T.item X rfl rfl rfl hc i ae s3 fJ H3 X.xe I3 (eS fr3) st3 go) λr s4 ⟨u,hr,h4⟩=>?_);subst hr;refine wpAny_passesOwn hp (thn h4 λ_ s5 ⟨x,H5,I5,r5,y5,st5,fr5⟩=>?_);have oP:=I5.pinned (eS fr5) (T.obj _ _ st5);refine wpAny_passesOwn hp (thn (hg _ s5 fJ H5 x u _ oP r5 (step x H5 y5)) λ_ s6 ⟨σ6,H6,I6,q6⟩=>?_);refine wpAny_passesOwn hp (thn (hb _ s6 σ6 H6 _ I6 q6) λf s7 q7=>?_);have again:∀{gw:St}{H7:Hp},Inv X (ae++JO fp s5.heap) gw H7 s7->N gw H7->∃m,m<n/\∃i ar H',Inv X ae ar H' s7/\tn i s7.heap/\(∀b∈fp,H' b=none)/\W i m ar H':=λ{gw H7} I7 n7=>by obtain⟨m',hm,w7⟩:=hN gw H7 n7;refine⟨m',hm,i+1,gw,H7,I7.FH,T.keep _ _ _ st5 λb hb o e=>(I7.pin (b,o) (sU _ (sU _ (Eb hb e)))).1,λb hb=>?_,w7⟩;obtain⟨o,e,d⟩:=T.obj _ _ st5 b hb;exact(I7.pin (b,o) (sU _ (sU _ (Eb hb e)))).2.1
  cases f with|next=>obtain⟨gw,H7,I7,n7⟩:=q7;exact again I7 n7|cont=>obtain⟨gw,H7,I7,n7⟩:=q7;exact again I7 n7|brk=>obtain⟨gw,H7,I7,q7⟩:=q7;exact⟨gw,H7,I7.FH,q7⟩|ret v=>obtain⟨x7,gw,H7,I7,r7,q7⟩:=q7;exact⟨x7,gw,H7,I7.FH,r7,q7⟩
abbrev R2:=V->V->Hp->VK->Prop
def OpR(X:Cx)(f:Value->Value->Sem Value)(r:R2):Prop :=
 ∀(ae:List (Addr×Obj))(s:Shared)(U:St)(H:Hp)(x y:V)(v u:Value)(Q:VK),Inv X ae U H s->RelV x v->RelV y u->r x y H Q ->
  wpAny (model X.prog X.w) X.A (f v u) (EP X ae U Q) X.xe s
def UnR(X:Cx)(f:Value->Sem Value)(r:V->Hp->VK->Prop):Prop :=
 ∀(ae:List (Addr×Obj))(s:Shared)(U:St)(H:Hp)(x:V)(v:Value)(Q:VK),Inv X ae U H s->RelV x v->r x H Q ->
  wpAny (model X.prog X.w) X.A (f v) (EP X ae U Q) X.xe s
def CV(X:Cx)(f:Value)(r:List V->Hp->VK->Prop):Prop :=
 ∀(ae:List (Addr×Obj))(s:Shared)(U:St)(H:Hp)(xs:List V)(us:List Value)(Q:VK),Inv X ae U H s->Vals xs us->r xs H Q ->
  wpAny (model X.prog X.w) X.A (call f us) (EP X ae U Q) X.xe s
def TruR(X:Cx)(r:V->Hp->(Bool->Hp->Prop)->Prop):Prop :=
 ∀(ae:List (Addr×Obj))(s:Shared)(U:St)(H:Hp)(x:V)(v:Value)(Q:Bool->Hp->Prop),Inv X ae U H s->RelV x v->r x H Q ->
  wpAny (model X.prog X.w) X.A (truthy v) (TP X ae U Q) X.xe s
def tOp(r:R2)(ta tb:TE):TE:=λU H Q=>ta U H λx H1=>tb U H1 λy H2=>r x y H2 Q
def tUn(r:V->Hp->VK->Prop)(ta:TE):TE:=λU H Q=>ta U H λx H1=>r x H1 Q
def rI(C:Int->Int->Prop)(g:Int->Int->V):R2:=λx y H Q=>∃i j,x=.int i/\y=.int j/\C i j/\Q (g i j) H
def rI0(g:Int->Int->V):R2:=λx y H Q=>∃i j,x=.int i/\y=.int j/\Q (g i j) H
def rU(g:Int->V):V->Hp->VK->Prop:=λx H Q=>∃i,x=.int i/\Q (g i) H
variable{a c:Expr}{tc:TE}
theorem JbE(ha:PE X a ta)(hb:PE X b tb){R:V->V->Hp->Prop}(I:Inv X ae U H s)
  (h:ta U H λx H1=>tb U H1 λy H2=>R x y H2) {f:Value->Value->Sem Value}
  (hf:∀v u s2 x y H2,Inv X ae U H2 s2->RelV x v->RelV y u->R x y H2->wpAny (model X.prog X.w) X.A (f v u) Q X.xe s2) :
  wpAny (model X.prog X.w) X.A (eval a X.env) (λv ay=>wpAny (model X.prog X.w) X.A (eval b X.env) (λu dh=>wpAny (model X.prog X.w) X.A (f v u) Q X.xe dh) X.xe ay) X.xe s:=by
 refine thn (ha ae s U H _ I h) λv s1 ⟨x,H1,I1,r1,q1⟩=>?_
 refine thn (hb ae s1 U H1 _ I1 q1) λu s2 ⟨y,H2,I2,r2,q2⟩=>?_
 exact hf v u s2 x y H2 I2 r1 r2 q2
theorem JaU(ho:OpR X (binaryOp op) r)(ha:PE X a ta)(hb:PE X b tb):PE X (.BinOp a op b pos) (tOp r ta tb):=by intro ae s U H Q I h;exact wpAny_BinOp (JbE ha hb I h λv u s2 x y H2 I2 rx ry q=>ho ae s2 U H2 x y v u Q I2 rx ry q)
theorem JaS(ho:UnR X (unaryOp op) r)(ha:PE X a ta):PE X (.UnaryOp op a pos) (tUn r ta):=by intro ae s U H Q I h;exact UnaryOp_ (thn (ha ae s U H _ I h) λv s1 ⟨x,H1,I1,r1,q1⟩=>ho ae s1 U H1 x v Q I1 r1 q1)
theorem opI{g:Int->Int->Int}
  (eP:∀(i j:Int)(t u:Tok)(s:Shared)(Q:Value->Shared->Prop)(E:Value->Shared->Prop),C i j->Q (.int (g i j) s.toks) {s with toks:=s.toks+1}->wpAny (model X.prog X.w) X.A (f (.int i t) (.int j u)) Q E s) :
  OpR X f (rI C λi j=>.int (g i j)):=by
 intro ae s U H x y v u Q I rx ry h;obtain⟨i,j,rfl,rfl,hc,q⟩:=h;obtain⟨t,rfl⟩:=rx;obtain⟨t',rfl⟩:=ry;exact eP i j t t' s _ _ hc ⟨.int (g i j),H,I.tok _,⟨_,rfl⟩,q⟩
theorem JbU{g:Int->Int->Int}
  (eP:∀(i j:Int)(t u:Tok)(s:Shared)(Q:Value->Shared->Prop)(E:Value->Shared->Prop),Q (.int (g i j) s.toks) {s with toks:=s.toks+1}->wpAny (model X.prog X.w) X.A (f (.int i t) (.int j u)) Q E s) :
  OpR X f (rI0 λi j=>.int (g i j)):=by
 intro ae s U H x y v u Q I rx ry h;obtain⟨i,j,rfl,rfl,q⟩:=h;obtain⟨t,rfl⟩:=rx;obtain⟨t',rfl⟩:=ry;exact eP i j t t' s _ _ ⟨.int (g i j),H,I.tok _,⟨_,rfl⟩,q⟩
theorem Ja2{g:Int->Int->Bool}
  (eP:∀(i j:Int)(t u:Tok)(s:Shared)(Q:Value->Shared->Prop)(E:Value->Shared->Prop),Q (.bool (g i j)) s->wpAny (model X.prog X.w) X.A (f (.int i t) (.int j u)) Q E s) :
  OpR X f (rI0 λi j=>.o (g i j)):=by
 intro ae s U H x y v u Q I rx ry h;obtain⟨i,j,rfl,rfl,q⟩:=h;obtain⟨t,rfl⟩:=rx;obtain⟨t',rfl⟩:=ry;exact eP i j t t' s _ _ ⟨.o (g i j),H,I,rfl,q⟩
def Jb6(i j:Int):Prop:=0<j/\j<1073741824
def Jb5(i j:Int):Prop:=0<=j/\j<=1000000/\i.natAbs<2^64
def Jay(i j:Int):Prop:=(-(2^64)<i/\i<2^64)\/(-(2^64)<j/\j<2^64)
theorem Jay.ok(h:Jay i j):IntMulOk i j:=by
 rcases h with⟨h1,h2⟩|⟨h1,h2⟩
 .exact .of_left (intBits_le_64 h1 h2)
 .exact .of_right (intBits_le_64 h1 h2)
theorem Yx:OpR X (binaryOp .Add) (rI0 λi j=>.int (i+j)):=JbU λ_ _ _ _ _ _ _ q=>add_int q
theorem Yq:OpR X (binaryOp .Sub) (rI0 λi j=>.int (i-j)):=JbU λ_ _ _ _ _ _ _ q=>sub_int q
theorem Vn:OpR X (binaryOp .FloorDiv) (rI Jb6 λi j=>.int (i/j)):=opI λi j _ _ _ _ _ hc q=>by have h1:=hc.1;have h2:j<1073741824:=hc.2;exact floordiv_int (by omega) (by rw[Int.fdiv_eq_ediv_of_nonneg i (by omega)];exact q) (.inl (PyProof.noPylong_small (by omega)))
theorem Yt:OpR X (binaryOp .Mod) (rI (λ_ j=>0<j) λi j=>.int (i%j)):=opI λi j _ _ _ _ _ hc q=>by have h1:(0:Int)<j:=hc;exact mod_int' (by omega) (by rw[Int.fmod_eq_emod_of_nonneg i (by omega)];exact q)
theorem Yr:OpR X (binaryOp .LShift) (rI Jb5 λi j=>.int (i*2^j.toNat)):=opI λ_ _ _ _ _ _ _ hc q=>lshift_int_small hc.1 hc.2.1 hc.2.2 q
theorem unI{g:Int->Int}
  (eP:∀(i:Int)(t:Tok)(s:Shared)(Q:Value->Shared->Prop)(E:Value->Shared->Prop),Q (.int (g i) s.toks) {s with toks:=s.toks+1}->wpAny (model X.prog X.w) X.A (f (.int i t)) Q E s) :
  UnR X f (rU λi=>.int (g i)):=by
 intro ae s U H x v Q I rx h;obtain⟨i,rfl,q⟩:=h;obtain⟨t,rfl⟩:=rx;exact eP i t s _ _ ⟨.int (g i),H,I.tok _,⟨_,rfl⟩,q⟩
theorem Xm:UnR X (unaryOp .USub) (rU λi=>.int (-i)):=unI λ_ _ _ _ _ q=>neg_int q
def Ob:V->V->Bool
 |.v,.v=>true|.v,.int _=>true|.int _,.v=>true|.v,.o _=>true|.o _,.v=>true|.v,.str _=>true|.str _,.v=>true
 |.int _,.int _=>true|.o _,.o _=>true|.str _,.str _=>true|.zE _,.zE _=>true
 |.int _,.str _=>true|.str _,.int _=>true|.o _,.str _=>true|.str _,.o _=>true
 |_,_=>false
def rEq:R2:=λx y H Q=>Ob x y=true/\Q (.o (decide (x=y))) H
def rNe:R2:=λx y H Q=>Ob x y=true/\Q (.o (!decide (x=y))) H
theorem PZ:decide (V.int i=V.int j)=(i==j):=by rw[uk];simp
theorem Ul:decide (V.o i=V.o j)=(i==j):=by rw[uk];simp
theorem PY:decide (V.str i=V.str j)=(i==j):=by rw[uk];simp
theorem P0:decide (V.zE i=V.zE j)=(i.toList==j.toList):=by rw[uk];cases i;cases j;simp
theorem A8(I:Inv X ae U H s)(q:Q (.o k) H)(e:k=k'):EP X ae U Q (.bool k') s:=by subst e;exact⟨.o k,H,I,rfl,q⟩
theorem Yv:OpR X (compareOp .Eq) rEq:=by
 intro ae s U H x y v u Q I rx ry h;obtain⟨hs,q⟩:=h;cases x with
 |v =>cases rx;cases y with|v=>cases ry;exact PySem.EqNone.eq_none_none (A8 I q (by simp))|o j=>cases ry;exact PySem.EqNone.eq_none_bool (A8 I q (by simp))|int j=>obtain⟨t',rfl⟩:=ry;exact PySem.EqNone.eq_none_int (A8 I q (by simp))|str j=>obtain⟨t',rfl⟩:=ry;exact PySem.EqNone.eq_none_str (A8 I q (by simp))|_=>exact absurd (show false=true from hs) tm
 |o i =>cases rx;cases y with|v=>cases ry;exact PySem.EqNone.eq_bool_none (A8 I q (by simp))|o j=>cases ry;exact eq_bool (A8 I q Ul)|str j=>obtain⟨t',rfl⟩:=ry;exact PySem.EqMixed.eq_bool_str (A8 I q (by simp))|_=>exact absurd (show false=true from hs) tm
 |int i =>obtain⟨t,rfl⟩:=rx;cases y with|v=>cases ry;exact PySem.EqNone.eq_int_none (A8 I q (by simp))|int j=>obtain⟨t',rfl⟩:=ry;exact eq_int (A8 I q PZ)|str j=>obtain⟨t',rfl⟩:=ry;exact PySem.EqMixed.eq_int_str (A8 I q (by simp))|_=>exact absurd (show false=true from hs) tm
 |str i =>obtain⟨t,rfl⟩:=rx;cases y with|v=>cases ry;exact PySem.EqNone.eq_str_none (A8 I q (by simp))|o j=>cases ry;exact PySem.EqMixed.eq_str_bool (A8 I q (by simp))|int j=>obtain⟨t',rfl⟩:=ry;exact PySem.EqMixed.eq_str_int (A8 I q (by simp))|str j=>obtain⟨t',rfl⟩:=ry;exact eq_str (A8 I q PY)|_=>exact absurd (show false=true from hs) tm
 |zE i =>obtain⟨t,rfl⟩:=rx;cases y with|zE j=>obtain⟨t',rfl⟩:=ry;exact PySem.W.eq_bytes (A8 I q P0)|_=>exact absurd (show false=true from hs) tm
 |_=>cases y<;>exact absurd (show false=true from hs) tm
theorem JaZ:OpR X (compareOp .NotEq) rNe:=by
 intro ae s U H x y v u Q I rx ry h;obtain⟨hs,q⟩:=h;cases x with
 |v =>cases rx;cases y with|v=>cases ry;exact PySem.EqNone.ne_none_none (A8 I q (by simp))|o j=>cases ry;exact PySem.EqNone.ne_none_bool (A8 I q (by simp))|int j=>obtain⟨t',rfl⟩:=ry;exact PySem.EqNone.ne_none_int (A8 I q (by simp))|str j=>obtain⟨t',rfl⟩:=ry;exact PySem.EqNone.ne_none_str (A8 I q (by simp))|_=>exact absurd (show false=true from hs) tm
 |o i =>cases rx;cases y with|v=>cases ry;exact PySem.EqNone.ne_bool_none (A8 I q (by simp))|o j=>cases ry;exact ne_bool (A8 I q (congrArg not Ul))|str j=>obtain⟨t',rfl⟩:=ry;exact PySem.EqMixed.ne_bool_str (A8 I q (by simp))|_=>exact absurd (show false=true from hs) tm
 |int i =>obtain⟨t,rfl⟩:=rx;cases y with|v=>cases ry;exact PySem.EqNone.ne_int_none (A8 I q (by simp))|int j=>obtain⟨t',rfl⟩:=ry;exact ne_int (A8 I q (congrArg not PZ))|str j=>obtain⟨t',rfl⟩:=ry;exact PySem.EqMixed.ne_int_str (A8 I q (by simp))|_=>exact absurd (show false=true from hs) tm
 |str i =>obtain⟨t,rfl⟩:=rx;cases y with|v=>cases ry;exact PySem.EqNone.ne_str_none (A8 I q (by simp))|o j=>cases ry;exact PySem.EqMixed.ne_str_bool (A8 I q (by simp))|int j=>obtain⟨t',rfl⟩:=ry;exact PySem.EqMixed.ne_str_int (A8 I q (by simp))|str j=>obtain⟨t',rfl⟩:=ry;exact ne_str (A8 I q (congrArg not PY))|_=>exact absurd (show false=true from hs) tm
 |zE i =>obtain⟨t,rfl⟩:=rx;cases y with|zE j=>obtain⟨t',rfl⟩:=ry;exact PySem.W.ne_bytes (A8 I q (congrArg not P0))|_=>exact absurd (show false=true from hs) tm
 |_=>cases y<;>exact absurd (show false=true from hs) tm
theorem Ja0:OpR X (compareOp .Lt) (rI0 λi j=>.o (decide (i<j))):=Ja2 λ_ _ _ _ _ _ _ q=>lt_int q
theorem Rg:OpR X (compareOp .LtE) (rI0 λi j=>.o (decide (i<=j))):=Ja2 λ_ _ _ _ _ _ _ q=>le_int q
theorem Ja1:OpR X (compareOp .Gt) (rI0 λi j=>.o (decide (j<i))):=Ja2 λ_ _ _ _ _ _ _ q=>gt_int q
theorem JV:OpR X (compareOp .In) (λx y H Q=>∃i j,x=.str i/\y=.str j/\Q (.o (!(Builtin.Str.occurrences j i 0 j.length 1).isEmpty)) H):=by intro ae s U H x y v u Q I rx ry h;obtain⟨i,j,rfl,rfl,q⟩:=h;obtain⟨t,rfl⟩:=rx;obtain⟨t',rfl⟩:=ry;exact in_str (A8 I q rfl)
theorem TM:OpR X (compareOp .Is) (λx y H Q=>y=.v/\Q (.o (decide (x=.v))) H):=by
 intro ae s U H x y v u Q I rx ry h;obtain⟨rfl,q⟩:=h;cases ry;refine is_none_gen (A8 I q ?_);cases x<;>first
  |(cases rx;rfl)
  |(obtain⟨t,rfl⟩:=rx;rfl)
theorem DQ(b:Expr)(h:op≠.In:=by decide)(h2:op≠.NotIn:=by decide):behindInMarks op b=false:=by
 have e1:(op==CmpOp.In)=false:=by cases op<;>first|rfl|exact absurd rfl h
 have e2:(op==CmpOp.NotIn)=false:=by cases op<;>first|rfl|exact absurd rfl h2
 cases b<;>simp[behindInMarks,e1,e2]
theorem Vg(ho:OpR X (compareOp op) r)(ha:PE X a ta)(hb:PE X b tb)(hm:behindInMarks op b=false):PE X (.Compare a [op] [b] pos) (tOp r ta tb):=by intro ae s U H Q I h;exact wpAny_Compare1 (JbE ha hb I h λv u s2 x y H2 I2 rx ry q=>ho ae s2 U H2 x y v u Q I2 rx ry q) hm
def UA(t:TE):TT:=λU H Q=>t U H λx H'=>∃k,x=.o k/\Q k H'
theorem UU(ho:OpR X (compareOp op) r)(ha:PE X a ta)(hb:PE X b tb)(hm:behindInMarks op b=false):PT X (.Compare a [op] [b] pos) (UA (tOp r ta tb)):=by intro ae s U H Q I h;refine wpAny_isTrue_Compare1 (thn (ha ae s U H _ I h) λv s1 ⟨x,H1,I1,r1,q1⟩=>thn (hb ae s1 U H1 _ I1 q1) λu s2 ⟨y,H2,I2,r2,q2⟩ =>thn (ho ae s2 U H2 x y v u _ I2 r1 r2 q2) λc s3 ⟨z,H3,I3,r3,k,e,q3⟩=>?_) hm;subst e;cases r3;exact wpAny_truthy_bool ⟨H3,I3,q3⟩
def NZ(r r':R2)(ta tb tc:TE):TE:=λU H Q=>ta U H λx H1=>tb U H1 λy H2=>r x y H2 λz H3=>∃k,z=.o k /\
 (if k=true then tc U H3 λw' H4=>r' y w' H4 Q else Q (.o false) H3)
theorem Q0(ho:OpR X (compareOp op) r)(cL:OpR X (compareOp op') r')(ha:PE X a ta)(hb:PE X b tb)(hc:PE X c tc)
  (hm:lastMarks [op,op'] [b,c]=false:=by with_unfolding_all rfl):PT X (.Compare a [op,op'] [b,c] pos) (UA (NZ r r' ta tb tc)):=by
 intro ae s U H Q I h;refine isTrue_chain (thn (ha ae s U H _ I h) λv s1 ⟨x,H1,I1,r1,q1⟩=>test_link (thn (hb ae s1 U H1 _ I1 q1) λu s2 ⟨y,H2,I2,r2,q2⟩ =>thn (ho ae s2 U H2 x y v u _ I2 r1 r2 q2) λd s3 ⟨z,H3,I3,r3,k,e,q3⟩=>?_)) hm;subst e;cases r3;refine wpAny_truthy_bool ?_;cases k with|false =>obtain⟨k',e',q'⟩:=q3;cases e';exact ite_ff ⟨H3,I3,q'⟩|true =>refine ite_tt (test_last (thn (hc ae s3 U H3 _ I3 q3) λw' s4 ⟨z',H4,I4,r4,q4⟩=>thn (cL ae s4 U H4 y z' u w' _ I4 r2 r4 q4) λd' s5 ⟨z2,H5,I5,r5,k2,e2,q5⟩=>?_));subst e2;cases r5;exact wpAny_truthy_bool ⟨H5,I5,q5⟩
def JbJ(K:Fg)(x:V)(H:Hp)(k:Bool):Prop :=
 match x with|.v=>k=false|.o b=>k=b|.int i=>k=(i !=0)|.str y=>y.length<=sizeLine/\k=((y.length:Int)!=0)|.zE y=>y.size<=sizeLine/\k=((y.size:Int)!=0)|.ref p=>(∃xs,SqL K H p xs/\k=!xs.isEmpty)\/(∃xs,SqT K H p xs/\k=!xs.isEmpty)\/∃ah,H p=some (.l ah)/\k=!ah.isEmpty|_=>False
theorem Nh(r:KV ah vs):(!vs.isEmpty)=!ah.isEmpty:=by cases r<;>rfl
theorem HV(r:Vals xs ak):(!ak.toArray.isEmpty)=!xs.isEmpty:=by cases r<;>simp
theorem Gz:(sizeLine:Nat)<2^63:=by rw[sizeLine_eq];decide
theorem Xn:TruR X (λx H Q=>∃k,JbJ X.K x H k/\Q k H):=by
 intro ae s U H x v Q I rx h;obtain⟨k,e,q⟩:=h;have hl:=Gz;have hs:=sizeLine_eq;cases x with
 |v =>cases rx;have e':=e;subst e';exact truthy_none ⟨H,I,q⟩
 |o b =>cases rx;have e':k=b:=e;subst e';exact wpAny_truthy_bool ⟨H,I,q⟩
 |int i =>obtain⟨t,rfl⟩:=rx;have e':=e;subst e';exact PySem.P.truthy_int ⟨H,I,q⟩
 |str y =>obtain⟨t,rfl⟩:=rx;obtain⟨hy,e'⟩:y.length<=sizeLine/\k=((y.length:Int)!=0):=e;subst e';exact PySem.P.truthy_str (by omega) ⟨H,I.tok _,q⟩
 |zE y =>obtain⟨t,rfl⟩:=rx;obtain⟨hy,e'⟩:y.size<=sizeLine/\k=((y.size:Int)!=0):=e;subst e';exact PySem.W.truthy_bytes (by omega) ⟨H,I.tok _,q⟩
 |ref p =>
  cases rx;have e':=e;rcases e' with⟨xs,hx,e'⟩|⟨xs,hx,e'⟩|⟨ah,hx,e'⟩
  .subst e';obtain⟨ak,r,pl,hz⟩:=I.list hx;have hlen:=r.length;exact wpAny_truthy_list pl.isList (by simp only[sJ];omega) ⟨H,I.tok _,by rw[HV r];exact q⟩
  .subst e';obtain⟨ak,r,pl,hz⟩:=I.tuple hx;have hlen:=r.length;exact truthy_tuple pl (by simp only[sJ];omega) ⟨H,I.tok _,by rw[HV r];exact q⟩
  .subst e';obtain⟨hz,hS,vs,r,m⟩:ah.length<=sizeLine/\(p==sysModules)=false/\∃vs,KV ah vs/\s.heap.DictOf (Bd X.prog X.w) p vs:=I.zZ p _ hx;have hlen:=Paired.length r;exact wpAny_truthy_dict hS m (by omega) ⟨H,I.tok _,by rw[Nh r];exact q⟩
 |_=>exact(show False from e).elim
theorem L5(ha:PE X a ta)(he:∀aW,isTrue a X.env aW=(do let v <- aW;standAt a.pos;holding [v] (truthy v))):
  PT X a (λU H Q=>ta U H λx H'=>∃k,JbJ X.K x H' k/\Q k H'):=by
 intro ae s U H Q I h;exact isTrue_plain (thn (ha ae s U H _ I h) λv s1 ⟨x,H1,I1,r1,q1⟩=>Xn ae s1 U H1 x v Q I1 r1 q1) (he _)
theorem M6:OpR X (binaryOp .Add) (λx y H Q=>∃i j,x=.str i/\y=.str j/\i.length+j.length<=sizeLine/\Q (.str (i++j)) H):=by intro ae s U H x y v u Q I rx ry h;obtain⟨i,j,rfl,rfl,hz,q⟩:=h;obtain⟨t,rfl⟩:=rx;obtain⟨t',rfl⟩:=ry;exact add_str (λt' tk=>⟨.str (i++j),H,I.tok _,⟨_,rfl⟩,q⟩) hz
theorem vals1{x}(r:Vals [x] us):∃u,us=[u]/\RelV x u:=by cases r with|cons r1 r2=>cases r2;exact⟨_,rfl,r1⟩
theorem vals2{x}(r:Vals [x,y] us):∃u w',us=[u,w']/\RelV x u/\RelV y w':=by cases r with|cons r1 r2 =>cases r2 with|cons r3 r4=>cases r4;exact⟨_,_,rfl,r1,r3⟩
theorem Qa(hc:X.calm=true):CV X (.builtin "min") (λxs H Q=>∃i j,xs=[.int i,.int j]/\Q (.int (if j<i then j else i)) H):=by
 intro ae s U H xs us Q I r h;obtain⟨i,j,rfl,q⟩:=h;obtain⟨u,w',rfl,⟨t,rfl⟩,⟨t',rfl⟩⟩:=vals2 r;refine min_two_ints (I.ok.hd hc) λh' tk k=>⟨_,H,I.kept k,?_,q⟩
 by_cases hj:j<i
 .rw[if_pos hj,if_pos hj];exact⟨_,rfl⟩
 .rw[if_neg hj,if_neg hj];exact⟨_,rfl⟩
theorem Qc:CV X (.type "int") (λxs H Q=>(∃i,xs=[.int i]/\Q (.int i) H)\/∃k,xs=[.o k]/\Q (.int (if k then 1 else 0)) H):=by
 intro ae s U H xs us Q I r h;rcases h with⟨i,rfl,q⟩|⟨k,rfl,q⟩
 .obtain⟨u,rfl,t,rfl⟩:=vals1 r;exact call_int_int ⟨.int i,H,I,⟨_,rfl⟩,q⟩
 .obtain⟨u,rfl,r1⟩:=vals1 r;cases r1;exact call_int_bool ⟨.int (if k then 1 else 0),H,I.tok _,⟨_,rfl⟩,q⟩
structure W5(h:Heap)(x dx C:Addr)(mA:Str->Option Value):Prop where
 obj:h.get? x=some (instObj C dx)
 ns:h.Ns1 dx mA
 ne:dx≠x
theorem OR(n:h.Ns1 dx mA):∃od,h.get? dx=some od/\∀name,lookIn name od=some (mA name):=by
 obtain⟨o,es,ep,ho,hd,hk,_,hm⟩:=n;refine⟨o,ho,λname=>?_⟩;have e:=hm name;unfold nsFind findBy at e;rw[<- Array.find?_toList]at e;unfold lookIn;rw[hd];dsimp only;split
 next y q=>rw[q]at e;exact congrArg some e
 .rename_i q;rw[q]at e;have a:es.toList.any (·.refKey)=false:=by rw[List.any_eq_false];intro y hy;obtain⟨z,t,lD⟩:=hk y (Array.mem_toList_iff.mp hy);simp[DictEntry.refKey,lD]
  have a':¬es.toList.any (·.refKey)=true:=by rw[a];exact tm
  rw[if_neg a'];exact congrArg some e
theorem W5.look(I:W5 h x dx C mA):∃od,PySem.W.InstAt h x (instObj C dx) C (some od)/\∀name,lookIn name od=some (mA name) :=
 let⟨od,ho,hl⟩:=OR I.ns
 ⟨od,⟨I.obj,rfl,rfl,ho⟩,hl⟩
variable{prog:Program}{A:Around}{K:Fg}{dx C f:Addr}{mA:Str->Option Value}{name:Str}{v:Value}
theorem get_map(X:K.In s.heap)(I:W5 s.heap x dx C mA)(hg:plainGet K C name=true)(hh:hasDictIn K C=true)
  (ha:findIn K (.ref C) name=some none) (hv:mA name=some v) (qR:handedIn v=true) (h:Q v {s with toks:=s.toks+1}) :
  wpAny (model prog w) A (getAttr (.ref x) name expr) Q E s:=by
 obtain⟨od,J,hl⟩:=I.look;exact PySem.W.get_value X J (plainGet_of hg).1 (PySem.W.findObj_own hh ha rfl (by rw[hl,hv])) qR h
theorem R8(X:K.In s.heap)(I:W5 s.heap x dx C mA)(hg:plainGet K C name=true)
  (hf:findIn K (.ref C) name=some (some (.ref f))) (ht:isFn K (.ref f)=true) (hv:mA name=none) (h:Q (.ref f,[.ref x]) s) :
  wpAny (model prog w) A (getMethod (.ref x) name pl) Q E s:=by
 obtain⟨od,J,hl⟩:=I.look;exact PySem.W.method_fn X J (plainGet_of hg).1 (plainGet_of hg).2 hf (beq_iff_eq.mp ht) (by show(lookIn name od).map (·.isSome)=some false;rw[hl,hv];rfl) h
theorem UL(X:K.In s.heap)(I:W5 s.heap x dx C mA)
  (hs:findIn K (.ref C) "__setattr__"=some (some (.builtin "object.__setattr__"))) (hp:plainOver K C=true) (ht:takerIn K C name=some none) (hh:hasDictIn K C=true)
  (hw:PySem.Within mA ns) (hsz:ns.length<=sizeLine)
  (h:∀h',W5 h' x dx C (λy=>if y=name then some v else mA y)->Heap.SameBut dx s.heap h'->Q () {s with heap:=h',toks:=s.toks+2}) :
  wpAny (model prog w) A (setAttr (.ref x) name v) Q E s:=by
 obtain⟨od,J,hl⟩:=I.look;refine PySem.W.set_plain X J hs (PySem.W.osa_open X J hp ht λb=>?_);obtain⟨cd,hc,dN⟩:=PySem.W.any_some hh;have hx:=I.obj;refine sE (sM (sE (sE (wpAny_loadPart hx (sE (PySem.W.Looks.here (PySem.W.looks_clsIn X hc) ?_))))));rw[dN];refine sM (sE (sM (sE ?_)));refine wpAny_nsSet1 I.ns λh' gD bw=>?_
 obtain⟨oD,sm,sk,qE,qk,qj⟩:=gD.count (PySem.Within.cons name v hw);refine sE (wpAny_lookBehind qE (by rw[qk];exact pastItsLine_dict (tK qj (by rw[tj];omega))) ?_);exact sM (h _ ⟨(bw.2 _ (Ne.symm I.ne)).trans I.obj,gD,I.ne⟩ bw)
theorem Ry(X:K.In s.heap)(hm:makesIn K C=true)
  (hi:findIn K (.ref C) "__init__"=some (some (.ref f))) (hf:PySem.W.typeIn K (.ref f)=some (.type "function"))
  (h:codeAny (model prog w) (A.under (.builtin "type.__call__" ⟨.ref C::vs,kw⟩)) (.call (.ref f) ⟨.ref (s.heap.objs.size+1)::vs,kw⟩) (PySem.W.InitBack (s.heap.objs.size+1) R)
   {s with heap:=(s.heap.push emptyDict).push (instObj C s.heap.objs.size)}) :
  codeAny (model prog w) A (.call (.ref C) ⟨vs,kw⟩) R s:=by
 obtain⟨hh,g,d,t,os⟩:=s;exact PySem.W.make_core (PySem.W.makes_of X hm) (PySem.W.looks_findIn X hi) (λself=>PySem.W.bind_fn X self hf) (.inl rfl) h
def EW(f:Str)(v:V):List (Str×V)->List (Str×V)
 | []=>[(f,v)]
 |(g,x)::r=>if g=f then(g,v)::r else(g,x)::EW f v r
theorem Gw(f g:Str)(v:V):∀fs:List (Str×V),(EW f v fs).lookup g=if g=f then some v else fs.lookup g
 | []=>by
  show List.lookup g [(f,v)]=_;by_cases h:g=f
  .have hb:=beq_iff_eq.mpr h;simp only[List.lookup,hb,if_pos h]
  .have hb:=beq_eq_false_iff_ne.mpr h;simp only[List.lookup,hb,if_neg h]
 |(k,x)::r=>by
  have ih:=Gw f g v r;rw[show EW f v ((k,x)::r)=(if k=f then(k,v)::r else(k,x)::EW f v r)from rfl];by_cases hk:k=f
  .rw[if_pos hk];by_cases h:g=k
   .have hb:=beq_iff_eq.mpr h;simp only[List.lookup,hb,if_pos (h.trans hk)]
   .have hb:=beq_eq_false_iff_ne.mpr h;simp only[List.lookup,hb,if_neg (λe:g=f=>h (e.trans hk.symm))]
  .rw[if_neg hk];by_cases h:g=k
   .have hb:=beq_iff_eq.mpr h;simp only[List.lookup,hb,if_neg (λe:g=f=>hk (h.symm.trans e))]
   .have hb:=beq_eq_false_iff_ne.mpr h;simp only[List.lookup,hb];exact ih
theorem GB(f:Str)(v:V):∀fs:List (Str×V),f∈(EW f v fs).map (·.1)/\∀g,g∈fs.map (·.1)->g∈(EW f v fs).map (·.1)
 | []=>⟨by simp[EW],λg h=>by simp at h⟩
 |(k,x)::r=>by
  obtain⟨i1,i2⟩:=GB f v r;rw[show EW f v ((k,x)::r)=(if k=f then(k,v)::r else(k,x)::EW f v r)from rfl];by_cases hk:k=f
  .rw[if_pos hk];subst hk;exact⟨by simp,λg h=>by simpa using h⟩
  .rw[if_neg hk];refine⟨?_,λg h=>?_⟩
   .rw[sG];exact sN _ i1
   .rw[sG]at h ⊢;rcases sQ.mp h with e|e
    .exact sQ.mpr (.inl e)
    .exact sN _ (i2 g e)
theorem GA(f:Str)(v:V):∀fs:List (Str×V),(EW f v fs).length<=fs.length+1
 | []=>by simp[EW]
 |(k,x)::r=>by
  have ih:=GA f v r;rw[show EW f v ((k,x)::r)=(if k=f then(k,v)::r else(k,x)::EW f v r)from rfl];by_cases hk:k=f
  .rw[if_pos hk,tj,tj];omega
  .rw[if_neg hk,tj,tj];omega
theorem Ax.some_of{v}{o}(r:Ax (some v) o):∃u,o=some u/\RelV v u:=by cases o with|none=>exact(show False from r).elim|some u=>exact⟨u,rfl,r⟩
theorem Ax.none_of{o}(r:Ax none o):o=none:=by cases o with|none=>rfl|some u=>exact(show False from r).elim
theorem Pg{u}{v}(r:RelV v u):handedIn u=true:=by cases v with|v=>cases(show u=Value.none from r);rfl|o b=>cases(show u=Value.bool b from r);rfl|int i=>obtain⟨t,e⟩:=(show ∃t,u=Value.int i t from r);cases e;rfl|str x=>obtain⟨t,e⟩:=(show ∃t,u=Value.str x t from r);cases e;rfl|zE b=>obtain⟨t,e⟩:=(show ∃t,u=Value.bytes b t from r);cases e;rfl|yJ b=>obtain⟨t,e⟩:=(show ∃t,u=Value.float b t from r);cases e;rfl|ref a=>cases(show u=Value.ref a from r);rfl|ty n=>cases(show u=Value.type n from r);rfl
variable{a:Addr}{fs aq:List (Str×V)}
theorem Lu(zZ:HOk P w H h)(e:H a=some (.ins C dx fs)):∃mA,W5 h a dx C mA/\(∀f,Ax (fs.lookup f) (mA f))/\PySem.Within mA (fs.map (·.1))/\fs.length<=1000/\H dx=some (.own a):=by
 obtain⟨d,z,ne,ob,mA,n,r,q⟩:=(show BJ P w H h a (.ins C dx fs)from zZ a _ e)
 exact⟨mA,⟨ob,n,ne⟩,r,q,z,d⟩
structure Cls(K:Fg)(C:Addr):Prop where
 pg:plainGet K C Str.empty=true
 hd:hasDictIn K C=true
 po:plainOver K C=true
 sa:findIn K (.ref C) "__setattr__"=some (some (.builtin "object.__setattr__"))
theorem Cls.get(c:Cls K C)(f:Str):plainGet K C f=true:=c.pg
def A4(K:Fg)(C:Addr)(f:Str):Prop:=findIn K (.ref C) f=some none
theorem A4.JaD{f}(n:A4 K C f):takerIn K C f=some none:=by unfold takerIn;rw[show findIn K (.ref C) f=some none from n];rfl
structure Meth(K:Fg)(C:Addr)(m:Str)(f:Addr):Prop where
 at_:findIn K (.ref C) m=some (some (.ref f))
 fn:isFn K (.ref f)=true
 kp:keepIn K (.ref f)=true
variable{f:Str}{v:V}
theorem HX{b}(I:Inv X ae U H s)(e:H a=some (.ins C dx fs))(c:Cls X.K C)(n:A4 X.K C f)(l:fs.lookup f=some v)
  (h:∀u s',Inv X ae U H s'->RelV v u->Q u s'):wpAny (model X.prog X.w) A (getAttr (.ref a) f b) Q E s:=by
 obtain⟨mA,O,r,_,_,_⟩:=Lu I.zZ e;obtain⟨u,hu,ru⟩:=Ax.some_of (by rw[<- l];exact r f);exact get_map I.kIn O (c.get f) c.hd n hu (Pg ru) (h u _ (I.tok _) ru)
theorem HW(I:Inv X ae U H s)(e:H a=some (.ins C dx fs))(c:Cls X.K C)(k:Meth X.K C m g)(l:fs.lookup m=none)
  (h:Q (.ref g,[.ref a]) s):wpAny (model X.prog X.w) A (getMethod (.ref a) m pl) Q E s:=by
 obtain⟨mA,O,r,_,_,_⟩:=Lu I.zZ e;have hn:=Ax.none_of (by rw[<- l];exact r m);exact R8 I.kIn O (c.get m) k.at_ k.fn hn h
theorem HI{u}(I:Inv X ae U H s)(e:H a=some (.ins C dx fs))(c:Cls X.K C)(n:A4 X.K C f)(hl:fs.length<1000)(ry:RelV y u)
  (h:∀s',Inv X ae U (upd H a (.ins C dx (EW f y fs))) s'->Q () s'):wpAny (model X.prog X.w) A (setAttr (.ref a) f u) Q E s:=by
 obtain⟨mA,O,r,wi,_,ho⟩:=Lu I.zZ e;have hz:(fs.map (·.1)).length<=sizeLine:=by rw[sH,sizeLine_eq];omega
 refine UL I.kIn O c.sa c.po n.JaD c.hd wi hz λh' O' sb=>h _ ?_
 have hd:∃o,h'.get? dx=some o:=let⟨o,_,_,e',_⟩:=O'.ns;⟨o,e'⟩;refine I.write (by rw[e];exact True.intro) (.inr ho) (λb q hb z=>(sb.2 b hb).trans z) hd ?_;refine⟨by rw[Ap O.ne];exact ho,?_,O.ne,O'.obj,_,O'.ns,λg=>?_,λg hg=>?_⟩
 .have:=GA f y fs;omega
 .show Ax ((EW f y fs).lookup g) (if g=f then some u else mA g);rw[Gw];by_cases q:g=f
  .rw[if_pos q,if_pos q];exact ry
  .rw[if_neg q,if_neg q];exact r g
 .by_cases q:g=f
  .rw[q];exact(GB f y fs).1
  .refine(GB f y fs).2 g (wi g λz=>hg ?_);show(if g=f then some u else mA g)=none;rw[if_neg q];exact z
theorem Inv.made(I:Inv X ae U H s):Inv X ae U (upd (upd H s.heap.objs.size (.own (s.heap.objs.size+1))) (s.heap.objs.size+1) (.ins C s.heap.objs.size []))
  {s with heap:=(s.heap.push emptyDict).push (instObj C s.heap.objs.size)}:=by
 have e1:(s.heap.push emptyDict).get? s.heap.objs.size=some emptyDict:=sP s.heap rfl;have e2:((s.heap.push emptyDict).push (instObj C s.heap.objs.size)).get? (s.heap.objs.size+1)=some (instObj C s.heap.objs.size):=by have:=sP (s.heap.push emptyDict) (o:=instObj C s.heap.objs.size) rfl;rwa[ue]at this
 have e3:(s.heap.push emptyDict).Ns s.heap.objs.size (λ_=>none):=⟨emptyDict,#[],_,e1,rfl,(λe he=>absurd he (by simp)),λ_=>rfl⟩
 have I1:=I.laid (a:=s.heap.objs.size) (o:=.own (s.heap.objs.size+1)) (h':=s.heap.push emptyDict) (t':=s.toks) (λb u q=>sF _ q) (sV _) ⟨_,e1⟩;refine I1.laid (a:=s.heap.objs.size+1) (o:=.ins C s.heap.objs.size []) (t':=s.toks) (λb u q=>sF _ q) (Nat.le_of_eq (ue _ _)) ?_;have ne:s.heap.objs.size≠s.heap.objs.size+1:=tD (Nat.lt_succ_self _);refine⟨by rw[Ap ne,As],uI _,ne,e2,λ_=>none,(Heap.Ns1.of_empty e3).at λo q=>sF _ q,λ_=>True.intro,λy hy=>absurd rfl hy⟩
theorem W0(hb:attributeBase e f env (eval e env)=eval e env)
  (h:wpAny (model prog w) A (eval e env) (λo ay=>wpAny (model prog w) A (getAttr o f true) Q E ay) E s):wpAny (model prog w) A (eval (.Attribute e f pos) env) Q E s :=
 Attribute_any_ h (by rw[arm_eval_Attribute,hb])
def JbO(K:Fg)(ta:TE)(f:Str):TE:=λU H Q=>ta U H λx H1=>∃a C dx fs v,x=.ref a/\H1 a=some (.ins C dx fs)/\Cls K C/\A4 K C f/\fs.lookup f=some v/\Q v H1
def JbP(K:Fg)(ta tv:TE)(f:Str):TS:=λD U H=>tv U H λy H1=>ta U H1 λx H2=>∃a C dx fs,x=.ref a/\H2 a=some (.ins C dx fs)/\Cls K C/\A4 K C f/\fs.length<1000 /\
 D.nx U (upd H2 a (.ins C dx (EW f y fs)))
def Jb3(X:Cx)(op:Operator)(rd:V->V->Hp->VK->Prop):Prop :=
 ∀(ae:List (Addr×Obj))(s:Shared)(U:St)(H:Hp)(x y:V)(u v:Value)(Q:VK),Inv X ae U H s->RelV x u->RelV y v->rd x y H Q->wpAny (model X.prog X.w) X.A (inplaceOp op u v) (EP X ae U Q) X.xe s
def UO(K:Fg)(ta tv:TE)(rd:V->V->Hp->VK->Prop)(f:Str):TS:=λD U H=>ta U H λx H1=>∃a C dx fs v,x=.ref a/\H1 a=some (.ins C dx fs)/\Cls K C/\A4 K C f/\fs.lookup f=some v /\
 tv U H1 λy H2=>rd v y H2 λz H3=>∃i9 aq,H3 a=some (.ins C i9 aq)/\aq.length<1000/\D.nx U (upd H3 a (.ins C i9 (EW f z aq)))
variable{o value:Expr}{aU cf:Pos}{tv:TE}
theorem Fq(he:PE X e ta)(hb:attributeBase e f X.env (eval e X.env)=eval e X.env):PE X (.Attribute e f pos) (JbO X.K ta f):=by intro ae s U H Q I h;refine W0 hb (thn (he ae s U H _ I h) λu s1 ⟨x,H1,I1,rx,a,C,dx,fs,v,ex,ea,c,n,l,q⟩=>?_);subst ex;obtain rfl:u=Value.ref a:=rx;exact HX I1 ea c n l λu' s2 I2 ru=>⟨v,H1,I2,ru,q⟩
theorem X5(ha:PE X o ta)(hv:PE X value tv)(hs:swapsWith value (some (.Attribute o f aU)) pos.line X.env=pure false):PS X (.Assign [.Attribute o f aU] value pos) (JbP X.K ta tv f):=by intro ae s U H D I h;refine plainObj_wpAny_Assign_Attribute (thn (hv ae s U H _ I h) λu s1 ⟨y,H1,I1,ry,q⟩=>thn (ha ae s1 U H1 _ I1 q) λov s2 ⟨x,H2,I2,rx,a,C,dx,fs,ex,ea,c,n,l,q2⟩=>?_) hs;subst ex;obtain rfl:ov=Value.ref a:=rx;exact HI I2 ea c n l ry λs3 I3=>⟨U,_,I3,q2⟩
theorem Oi(ha:PE X o ta)(hv:PE X value tv)(qH:Jb3 X op rd):PS X (.AugAssign (.Attribute o f cf) op value pos) (UO X.K ta tv rd f):=by
 intro ae s U H D I h;refine wpAny_AugAssign_AttributeAny (thn (ha ae s U H _ I h) λov s1 ⟨x,H1,I1,rx,a,C,dx,fs,v,ex,ea,c,n,l,q⟩=>?_);subst ex;obtain rfl:ov=Value.ref a:=rx;refine HX I1 ea c n l λu s2 I2 ru=>thn (hv ae s2 U H1 _ I2 q) λw3 s3 ⟨y,H2,I3,ry,q3⟩=>thn (qH ae s3 U H2 v y u w3 _ I3 ru ry q3) λw4 s4 ⟨z,H3,I4,rz,i9,aq,ea',l',q4⟩=>?_
 exact HI I4 ea' c n l' rz λs5 I5=>⟨U,_,I5,q4⟩
def rSub:V->V->Hp->VK->Prop:=λx y H Q=>∃i j,x=.int i/\y=.int j/\Q (.int (i-j)) H
theorem YY:Jb3 X .Sub rSub:=by
 rintro ae s U H x y u v Q I rx ry ⟨i,j,rfl,rfl,q⟩
 obtain⟨t,rfl⟩:=(show ∃t,u=Value.int i t from rx)
 obtain⟨t',rfl⟩:=(show ∃t',v=Value.int j t' from ry)
 exact isub_int ⟨.int (i-j),H,I.tok _,⟨_,rfl⟩,q⟩
variable{Q:Value->Shared->Prop}{c:Value}{b:Bool}
structure DK(k:Nat)(A:Around):Prop where
 hd:A.handled=none
 dp:A.depth+3*k+5<recursionLimit
 un:A.units+16*k+200<cLine
theorem DK.mono(r:DK k A)(h:j<=k):DK j A:=⟨r.hd,by have:=r.dp;omega,by have:=r.un;omega⟩
theorem DK.deeper(r:DK (k+1) A)(env:Env):DK k (A.deeper env) :=
 ⟨r.hd,by have:=r.dp;show A.depth+1+3*k+5<_;omega,by have:=r.un;show A.units+3+16*k+200<_;omega⟩
theorem Nd{us:List Value}{kw:List (Str×Value)}:(A.under (.builtin "type.__call__" ⟨.ref C::us,kw⟩)).depth=A.depth+1:=by first|rfl|simp[Around.under,Code.weight,Code.isCreation,Code.isGuard,Code.isCaller,Code.frames,Code.isFrame,guardIds]
theorem Nc{us:List Value}{kw:List (Str×Value)}:(A.under (.builtin "type.__call__" ⟨.ref C::us,kw⟩)).units=A.units+1:=by first|rfl|simp[Around.under,Code.cUnits,Code.frames,Code.isFrame]
theorem DK.make(r:DK (k+1) A)(C:Addr)(us:List Value)(kw:List (Str×Value)):DK k (A.under (.builtin "type.__call__" ⟨.ref C::us,kw⟩)) :=
 ⟨r.hd,by have:=r.dp;rw[Nd];omega,by have:=r.un;rw[Nc];omega⟩
theorem DK.depth(r:DK k A):A.depth<recursionLimit:=by have:=r.dp;omega
theorem DK.units(r:DK k A):A.units+64<cLine:=by have:=r.un;omega
def Xr:TA:=λ_ H Q=>Q [] H
def Xw(ta:TE)(tr:TA):TA:=λU H Q=>ta U H λx H1=>tr U H1 λxs H2=>Q (x::xs) H2
variable{es:List Expr}{t:TA}
theorem HP:PA X [] Xr:=λ_ _ _ _ H Q I h=>Calls.spliced_nil ⟨[],H,I,.nil,h⟩
theorem Dt(ha:PE X e te)(hr:PA X es t)(hs:starEach (e::es) X.env=(false,eval e X.env)::starEach es X.env:=by rfl):PA X (e::es) (Xw te t):=by intro pos ae s U H Q I h;rw[hs];refine Calls.spliced_cons (thn (ha ae s U H _ I h) λu s1 ⟨x,H1,I1,r1,q1⟩=>?_);exact thn (hr pos ae s1 U H1 _ I1 q1) λus s2 ⟨xs,H2,I2,r2,q2⟩=>⟨x::xs,H2,I2,.cons r1 r2,q2⟩
def Jcc(t:TA):TE:=λU H Q=>t U H λxs H1=>xs.length<=sizeLine/\∀p,H1 p=none->Q (.ref p) (upd H1 p (.tup xs))
def Jcg(t:TA):TE:=λU H Q=>t U H λxs H1=>xs.length<=sizeLine/\∀p,H1 p=none->Q (.ref p) (upd H1 p (.lst xs))
theorem Yd(h:PA X es t):PE X (.Tuple es x1 pos) (Jcc t):=by intro ae s U H Q I hq;refine wpAny_Tuple_spliced (thn (h pos ae s U H _ I hq) λus s1 ⟨xs,H1,I1,r,z,q⟩=>⟨by rw[<- r.length];exact z,?_⟩);have hf:=I1.zZ.fresh (sV _);refine⟨.ref s1.heap.objs.size,upd H1 s1.heap.objs.size (.tup xs),I1.laid (λb u e=>sF _ e) (sV _) ?_,rfl,q _ hf⟩;exact⟨z,us,r,⟨_,sP _ rfl,rfl,_,rfl⟩⟩
theorem TK(h:PA X es t):PE X (.List es pos) (Jcg t):=by intro ae s U H Q I hq;refine wpAny_List_spliced (thn (h pos ae s U H _ I hq) λus s1 ⟨xs,H1,I1,r,z,q⟩=>⟨by rw[<- r.length];exact z,?_⟩);have hf:=I1.zZ.fresh (sV _);refine⟨.ref s1.heap.objs.size,upd H1 s1.heap.objs.size (.lst xs),I1.laid (λb u e=>sF _ e) (sV _) ?_,rfl,q _ hf⟩;exact⟨z,us,0,r,sP _ rfl⟩
abbrev Sp:=List V->Hp->VK->XK->Prop
abbrev CXT:=List Env->Hp->Shared->XK->Value->Shared->Prop
structure W9(P:Program)(w:World)(K:Fg)(mg:Str->Option Value)(base:Heap)(A:Around)(outer:List Env)(s:Shared)(H:Hp):Prop where
 frames:A.frames=some outer
 mod:Mod K mg base
 bs:∀b o,base.get? b=some o->s.heap.get? b=some o/\H b=none
 zo:base.objs.size<=s.heap.objs.size
 Mt:s.heap.FunFrames base outer
 zb:∀b∈frs outer,H b=none
 zZ:HOk P w H s.heap
 bare:AllBare s.gens
def CE(outer:List Env)(P:Program)(w:World)(H:Hp)(s:Shared)(Q:VK)(u:Value)(s':Shared):Prop :=
 ∃v H',s'.os=s.os/\AllBare s'.gens/\Un (frs outer) [] H H' s.heap s'.heap/\HOk P w H' s'.heap/\RelV v u/\Q v H'
def CR(CX:CXT)(outer:List Env)(P:Program)(w:World)(H:Hp)(s:Shared)(Q:VK)(E:XK)(r:Result)(s':Shared):Prop :=
 match r with|.ok (.ret u)=>CE outer P w H s Q u s'|.ok _=>False|.error e=>CX outer H s E e s'
structure EY(P:Program)(w:World)(K:Fg)(mg:Str->Option Value)(base:Heap)(CX:CXT)(k:Nat)(f:Addr)(fd:FuncData)(ps:List Str)(sp:Sp):Prop where
 len:∀vs H Q E,sp vs H Q E->vs.length=ps.length
 run:∀(A:Around)(outer:List Env)(s:Shared)(H:Hp)(args:Args)(us:List Value)(vs:List V)(Q:VK)(E:XK),DK k A->W9 P w K mg base A outer s H->BindsTo s fd args (ps.zip us)->Vals vs us->sp vs H Q E ->
  codeAny (model P w) A (.call (.ref f) args) (CR CX outer P w H s Q E) s
theorem EY.imp{mg:Str->Option Value}{base:Heap}{CX:CXT}{k:Nat}{f:Addr}{fd:FuncData}{ps:List Str}{sp nR:Sp}(F:EY P w K mg base CX k f fd ps sp)
  (h:∀vs H Q E,nR vs H Q E->sp vs H Q E):EY P w K mg base CX k f fd ps nR :=
 ⟨λvs H Q E q=>F.len vs H Q E (h _ _ _ _ q),λA outer s H args us vs Q E hr he hb hv hs=>F.run A outer s H args us vs Q E hr he hb hv (h _ _ _ _ hs)⟩
theorem W9.make{mg:Str->Option Value}{base:Heap}{outer:List Env}(e:W9 P w K mg base A outer s H)(C:Addr)(us:List Value)(kw:List (Str×Value)):
  W9 P w K mg base (A.under (.builtin "type.__call__" ⟨.ref C::us,kw⟩)) outer s H:=⟨by first|exact e.frames|(simpa[Around.under,Code.envs,Code.isFrame,pushEnvs]using e.frames),e.mod,e.bs,e.zo,e.Mt,e.zb,e.zZ,e.bare⟩
variable{s':Shared}
theorem Inv.JbA(I:Inv X ae U H s):W9 X.prog X.w X.K X.mg X.base X.A X.stack s H :=
 ⟨I.ok.frames,I.ok.mod,I.bs,tK I.ok.zo I.sz,I.stack,I.K1,I.zZ,I.bare⟩
theorem Inv.after{Q}{u}(I:Inv X ae U H s)(h:CE X.stack X.prog X.w H s Q u s'):EP X ae U Q u s':=by obtain⟨v,H',os,bare,un,zZ,r,q⟩:=h;obtain⟨hh,g,d,t,cj⟩:=s';obtain rfl:cj=s.os:=os;exact⟨v,H',I.call un zZ bare (λb z=>absurd z (by simp)),r,q⟩
def UC(C:Addr)(m:Str)(sp:Sp)(dY:List V)(E:XK)(ta:TE)(t:TA):TE:=λU H Q=>ta U H λx H1=>∃a dx fs,x=.ref a/\H1 a=some (.ins C dx fs)/\fs.lookup m=none /\
 t U H1 λvs H2=>sp (x::(vs++dY)) H2 Q E
def Xu(C:Addr)(sp:Sp)(dY:List V)(E:XK)(t:TA):TE:=λU H Q=>t U H λvs H1=>∀x dx,H1 x=none->H1 dx=none->dx≠x ->
 sp (.ref x::(vs++dY)) (upd (upd H1 dx (.own x)) x (.ins C dx [])) (λv H2=>v=.v/\Q (.ref x) H2) E
def Binds(K:Fg)(fd:FuncData)(ps:List Str)(ds:List Value):Prop :=
 ∀(s:Shared)(us:List Value),K.In s.heap->(us++ds).length=ps.length->BindsTo s fd ⟨us,[]⟩ (ps.zip (us++ds))
theorem Binds.all{fd:FuncData}{ps:List Str}(h:∀us:List Value,us.length=ps.length->bindArgs fd ⟨us,[]⟩=pure (ps.zip us)):Binds K fd ps []:=λs us _ hl=>by rw[t5]at hl ⊢;exact .of_eq (h us hl)
def Passes(CX:CXT)(X:Cx)(E:XK):Prop:=∀(ae:List (Addr×Obj))(U:St)(H:Hp)(s:Shared)(e:Value)(s':Shared),Inv X ae U H s->CX X.stack H s E e s'->X.xe e s'
variable{CX:CXT}{k:Nat}{f:Addr}{fd:FuncData}{ps:List Str}{sp:Sp}{dY:List V}{ds:List Value}{E:XK}{x m:Str}{p av:Pos}
theorem XO{Q}(F:EY X.prog X.w X.K X.mg X.base CX k f fd ps sp)(hr:DK k X.A)(hb:Binds X.K fd ps ds)(hd:Vals dY ds)(hx:Passes CX X E)
  (I:Inv X ae U H s) (r:Vals vs us) (h:sp (vs++dY) H Q E):wpAny (model X.prog X.w) X.A (call (.ref f) us) (EP X ae U Q) X.xe s:=by
 have r2:=r.append hd;have hl:(us++ds).length=ps.length:=by rw[<- r2.length];exact F.len _ _ _ _ h
 refine wpAny_call (codeAny_mono (F.run X.A X.stack s H ⟨us,[]⟩ (us++ds) (vs++dY) Q E hr I.JbA (hb s us I.kIn hl) r2 h) λr s' hq=>?_);cases r with|error e=>exact hx ae U H s e s' I hq|ok fl =>cases fl with|ret u=>exact I.after hq|next=>exact False.elim hq|brk=>exact False.elim hq|cont=>exact False.elim hq
theorem Rf(he:PE X o ta)(c:Cls X.K C)(hm:Meth X.K C m f)(F:EY X.prog X.w X.K X.mg X.base CX k f fd ps sp)(hr:DK k X.A)(hb:Binds X.K fd ps ds)(hd:Vals dY ds)(hx:Passes CX X E)
  (ht:eval (.Call (.Attribute o m av) [] [] pos) X.env=(do
   let ov <- eval o X.env
   standAt av.atName
   let(f,first) <- holding [ov] (getMethod ov m pl)
   callWith pos f first (backTo pos (starEach [] X.env)) (backToKw pos (keywordEach [] X.env))):=by rfl) :
  PE X (.Call (.Attribute o m av) [] [] pos) (UC C m sp dY E ta Xr):=by
 intro ae s U H Q I h;refine methodCall_KW (thn (he ae s U H _ I h) λu s1 ⟨x,H1,I1,rx,a,dx,fs,ex,ea,l,q⟩=>?_) ht;subst ex;obtain rfl:u=Value.ref a:=rx;refine HW I1 ea c hm l ?_;exact PySem.W.callWith_K0 I1.kIn hm.kp (XO (vs:=[.ref a]) F hr hb hd hx I1 (.cons rfl .nil) q)
structure Mk(K:Fg)(C f:Addr):Prop where
 makes:makesIn K C=true
 init:findIn K (.ref C) "__init__"=some (some (.ref f))
 fn:isFn K (.ref f)=true
 kp:keepIn K (.ref C)=true
theorem QR{Q}(M:Mk X.K C f)(F:EY X.prog X.w X.K X.mg X.base CX k f fd ps sp)(hr:DK (k+1) X.A)(hb:Binds X.K fd ps ds)(hd:Vals dY ds)
  (hx:Passes CX X E) (I:Inv X ae U H s) (r:Vals vs us)
  (h:∀x dx,H x=none->H dx=none->dx≠x->sp (.ref x::(vs++dY)) (upd (upd H dx (.own x)) x (.ins C dx [])) (λv H2=>v=.v/\Q (.ref x) H2) E) :
  wpAny (model X.prog X.w) X.A (call (.ref C) us) (EP X ae U Q) X.xe s:=by
 have hq:=h (s.heap.objs.size+1) s.heap.objs.size (I.zZ.fresh (Nat.le_succ _)) (I.zZ.fresh (sV _)) (tD (Nat.lt_succ_self _));have I2:=Inv.made (C:=C) I;have r2:Vals (V.ref (s.heap.objs.size+1)::(vs++dY)) (Value.ref (s.heap.objs.size+1)::(us++ds)):=.cons rfl (r.append hd);have hl:=by have e:=r2.length;rw[F.len _ _ _ _ hq]at e;exact e.symm
 refine wpAny_call (Ry I.kIn M.makes M.init (beq_iff_eq.mp M.fn) (codeAny_mono (F.run _ X.stack _ _ ⟨Value.ref (s.heap.objs.size+1)::us,[]⟩ (Value.ref (s.heap.objs.size+1)::(us++ds)) _ _ E (hr.make C us [])
  (I2.JbA.make C us []) (hb _ (Value.ref (s.heap.objs.size+1)::us) I2.kIn hl) r2 hq) λr s' jW=>?_))
 cases r with|error e=>exact hx ae U _ _ e s' I2 jW|ok fl =>cases fl with|ret u =>obtain⟨v,H',I3,rv,ev,q3⟩:=I2.after jW;subst ev;exact⟨rv,⟨V.ref (s.heap.objs.size+1),H',I3,rfl,q3⟩⟩|next=>exact False.elim jW|brk=>exact False.elim jW|cont=>exact False.elim jW
theorem Vb(M:Mk X.K C f)(F:EY X.prog X.w X.K X.mg X.base CX k f fd ps sp)(hr:DK (k+1) X.A)(hg:Gl X x)(hm:X.mg x=some (.ref C))(hb:Binds X.K fd ps ds)(hd:Vals dY ds)(hx:Passes CX X E)
  (ha:PA X (e::es) t) (bh:(x==("__debug__":Str))=false:=by decide) (he:starEach (e::es) X.env=(false,eval e X.env)::starEach es X.env:=by rfl) (aC:(backTo pos (starEach es X.env)).any (·.1)=false:=by rfl) :
  PE X (.Call (.Name x p) (e::es) [] pos) (Xu C sp dY E t):=by
 intro ae s U H Q I h;refine wpAny_Call_Name_kw (E8 I hg hm ?_ bh);refine callWith_K I.ok.mod.yR M.kp (thn (ha pos ae s U H _ I h) λus s1 ⟨vs,H1,I1,r,q⟩=>⟨I1.kIn,?_⟩) he aC;exact QR M F hr hb hd hx I1 r q
def PK(X:Cx)(kE:List Keyword)(t:TA):Prop :=
 ∀(pos:Pos)(ae:List (Addr×Obj))(s:Shared)(U:St)(H:Hp)(Q:List V->Hp->Prop),Inv X ae U H s->t U H Q->wpAny (model X.prog X.w) X.A (evalAll ((backToKw pos (keywordEach kE X.env)).map (·.2))) (AP X ae U Q) X.xe s
variable{ks:List Str}{lZ:Pos}{kE:List Keyword}{tk:TA}{nm:Option Str}
variable{g:List Value->List Value->List Value}{gV:List V->List V->List V}
theorem X7:PK X [] Xr:=λ_ _ _ _ H Q I h=>wpAny_evalAll_nil ⟨[],H,I,.nil,h⟩
theorem U5(ha:PE X e te)(hr:PK X kE t):PK X (⟨nm,e,lZ⟩:: kE) (Xw te t):=by intro pos ae s U H Q I h;refine wpAny_evalAll_cons (sE (thn (ha ae s U H _ I h) λu s1 ⟨x,H1,I1,r1,q1⟩=>sE (wpAny_standAt (sM ?_))));exact thn (hr pos ae s1 U H1 _ I1 q1) λus s2 ⟨xs,H2,I2,r2,q2⟩=>⟨x::xs,H2,I2,.cons r1 r2,q2⟩
structure Jq(N P:List Str)(sc:Scope):Prop where
 kind:sc.kind=.function
 co:sc.isCoroutine=false
 gen:sc.isGenerator=false
 nd:N.Nodup
 pre:N.take P.length=P
 par:∀x∈P,sc.names.lookup x=some .local\/sc.names.lookup x=some .cell
 yI:∀y∈sc.names,y.2≠.free
theorem KH{kindOf:Str->Option NameKind}:∀{binds:List (Str×Value)}{m:Str->Option Value},(∀v,(x,v)∉binds)->bindL kindOf binds m x=m x
 | [],_,_=>rfl
 |(n,v)::r,m,h=>by
  unfold bindL;rw[KH λw hw=>h w (sN _ hw)];split
  .have:x≠n:=by rintro rfl;exact h v tL
   simp[this]
  .rfl
theorem KJ{kindOf:Str->Option NameKind}:∀{binds:List (Str×Value)}{m:Str->Option Value},(∀v,(x,v)∉binds)->bindC kindOf binds m x=m x
 | [],_,_=>rfl
 |(n,v)::r,m,h=>by
  unfold bindC;rw[KJ λw hw=>h w (sN _ hw)];split
  .rfl
  .have:x≠n:=by rintro rfl;exact h v tL
   simp[this]
theorem KI{kindOf:Str->Option NameKind}{v:Value}:∀{P:List Str}{vs:List Value}{i:Nat}{m:Str->Option Value},P.Nodup->P[i]?=some x->vs[i]?=some v->kindOf x=some .local ->
  bindL kindOf (P.zip vs) m x=some v
 | [],_,_,_,_,h,_,_=>by simp at h
 |_::_,[],_,_,_,_,h,_=>by simp at h
 |p::P,w::vs,0,m,nd,h1,h2,hk=>by simp at h1 h2;subst h1;subst h2;show bindL kindOf ((p,w)::P.zip vs) m p=_;unfold bindL;rw[KH λv hv=>(tu.mp nd).1 (List.of_mem_zip hv).1,if_pos hk];simp
 |p::P,w::vs,i+1,m,nd,h1,h2,hk=>by show bindL kindOf ((p,w)::P.zip vs) m x=_;unfold bindL;exact KI (i:=i) (tu.mp nd).2 (by simpa using h1) (by simpa using h2) hk
theorem KN{kindOf:Str->Option NameKind}{v:Value}:∀{P:List Str}{vs:List Value}{i:Nat}{m:Str->Option Value},P.Nodup->P[i]?=some x->vs[i]?=some v->kindOf x≠some .local ->
  bindC kindOf (P.zip vs) m x=some v
 | [],_,_,_,_,h,_,_=>by simp at h
 |_::_,[],_,_,_,_,h,_=>by simp at h
 |p::P,w::vs,0,m,nd,h1,h2,hk=>by simp at h1 h2;subst h1;subst h2;show bindC kindOf ((p,w)::P.zip vs) m p=_;unfold bindC;rw[KJ λv hv=>(tu.mp nd).1 (List.of_mem_zip hv).1,if_neg hk];simp
 |p::P,w::vs,i+1,m,nd,h1,h2,hk=>by show bindC kindOf ((p,w)::P.zip vs) m x=_;unfold bindC;exact KN (i:=i) (tu.mp nd).2 (by simpa using h1) (by simpa using h2) hk
def start(N:List Str)(vs:List V):St:=vs.map some++List.replicate (N.length-vs.length) none
def NB(CX:CXT)(P:Program)(w:World)(K:Fg)(mg:Str->Option Value)(base:Heap)(N:List Str)(qual:Str)(scope:Scope)(f:Addr)(cd:Value)(A:Around)(outer:List Env)(s:Shared)(H:Hp)(E:XK):Cx where
 prog:=P
 w:=w
 K:=K
 mg:=mg
 base:=base
 A:=A.deeper (envOfC qual scope s.heap.objs.size f cd)
 N:=N
 zV:=s
 y0:=H
 env:=envOfC qual scope s.heap.objs.size f cd
 outer:=outer
 stack:=envOfC qual scope s.heap.objs.size f cd::outer
 ex:=[]
 calm:=true
 fn:=λ_=>true
 pn:=[]
 xe:=λe s'=>wpAny (model P w) (A.deeper (envOfC qual scope s.heap.objs.size f cd)) (leaving (envOfC qual scope s.heap.objs.size f cd) e) (λ_ mw=>CX outer H s E e mw) (λe' mw=>CX outer H s E e' mw) s'
theorem ME{sc:Scope}{n:Nat}(h:sc.names.lookup x=some .cell):∃c,(cellsFrom n sc.names []).lookup x=some c:=by have q:=PySem.W.cellsFrom_some sc.names n [] (.inl h);exact uD.mp q
theorem O8{mg:Str->Option Value}{base:Heap}{N:List Str}{qual:Str}{scope:Scope}{cd:Value}{outer:List Env}{s1:Shared}{us:List Value}{vs:List V}
  (S:Jq N ps scope) (hd:A.handled=none) (e0:W9 P w K mg base A outer s H) (hl:vs.length=ps.length) (r:Vals vs us)
  (x:InCallC s s.heap.objs.size (bindL (envOfC qual scope s.heap.objs.size f cd).kindOf (ps.zip us) λ_=>none) (cellsFrom (s.heap.objs.size+1) scope.names []) (bindC (envOfC qual scope s.heap.objs.size f cd).kindOf (ps.zip us) λ_=>none) s1) :
  Inv (NB CX P w K mg base N qual scope f cd A outer s H E) [] (start N vs) H s1:=by
 have aC:ps.length<=N.length:=by have:=congrArg List.length S.pre;rw[uh]at this;omega
 obtain⟨h1,tk,rfl,hk⟩:=x.done;have j9:∀b:Addr,b∉(NB CX P w K mg base N qual scope f cd A outer s H E).ex:=λb z=>absurd (show b∈([]:List Addr)from z) (by simp)
 refine⟨⟨e0.mod,S.kind,rfl,rfl,sV _,λy z c h1 h2=>?_,λy hy=>?_,λy c _ h=>?_,λ_=>hd,Around.frames_deeper e0.frames,.inr ⟨rfl,rfl⟩,λb z=>absurd z (j9 b),e0.bs,e0.zo,λb _ _=>j9 b,λb z=>absurd z (j9 b),e0.Mt,e0.zb⟩,
  rfl,e0.bare,Un.kept hk,⟨_,x.toInCall.ns,λi y v h1 h2 h3=>?_⟩,λy c h=>⟨_,x.cell y c h⟩,e0.zZ.fresh (sV _),λy c h=>?_,λp hp=>absurd (show p∈([]:List (Addr×Obj))from hp) (by simp),e0.zZ.kept hk,?_⟩
 .exact name_of_addr x.apart (PySem.mem_of_lookup h1) (PySem.mem_of_lookup h2)
 .have hy:scope.names.lookup y=some .cell\/scope.names.lookup y=some .free:=hy;rcases hy with hy|hy
  .exact ME hy
  .exact absurd rfl (S.yI _ (PySem.mem_of_lookup hy))
 .exact uP (x.above y c (PySem.mem_of_lookup h))
 .have hi:i<vs.length:=by
   unfold start at h2;by_cases hi:i<vs.length
   .exact hi
   .rw[List.getElem?_append_right (by simpa using hi)]at h2;rw[uE]at h2;split at h2<;>cases h2
  have ha:vs[i]?=some v:=by unfold start at h2;rw[uR (by simpa using hi),tO]at h2;cases e:vs[i]? with|none=>rw[e]at h2;cases h2|some a=>rw[e]at h2;cases h2;rfl
  obtain⟨u,hu,rv⟩:=r.get ha;have hp:ps[i]?=some y:=by rw[<- S.pre,uT (by omega)];exact h1
  have nE:ps.Nodup:=by rw[<- S.pre];exact S.nd.sublist (List.take_sublist _ _)
  refine⟨u,rv,?_⟩;rcases S.par y (uc hp)with k|k
  .exact .inl ⟨k,KI nE hp hu k⟩
  .obtain⟨c,e⟩:=ME (n:=s.heap.objs.size+1) k;refine .inr ⟨.inl k,c,e,?_⟩;have q:=x.cell y c e;rw[KN nE hp hu (by show scope.names.lookup y≠_;rw[k];decide)]at q;exact q
 .exact e0.zZ.fresh (uP (x.above y c (PySem.mem_of_lookup h)))
 .unfold start;show _=N.length;rw[tM,sH,List.length_replicate];omega
variable{T:String}{r:List V->Hp->VK->Prop}
section
variable{id:String}
def tCB(r:List V->Hp->VK->Prop)(t:TA):TE:=λU H Q=>t U H λvs H1=>r vs H1 Q
theorem IG(hc:CV X (.builtin id) r)(hg:Gl X x)(hm:X.mg x=none)(hv:bootBuiltins x=some (.builtin id))(ha:PA X (e::es) t)(hn:x≠"__name__":=by decide)(bh:(x==("__debug__":Str))=false:=by decide)
  (he:starEach (e::es) X.env=(false,eval e X.env)::starEach es X.env:=by rfl) (aC:(backTo pos (starEach es X.env)).any (·.1)=false:=by rfl):PE X (.Call (.Name x p) (e::es) [] pos) (tCB r t):=by
 intro ae s U H Q I h;refine wpAny_Call_Name_kw (DS I hg hm hv ?_ hn bh);exact PyProof.Rows.callWith_builtin1 (thn (ha pos ae s U H _ I h) λus s1 ⟨vs,H1,I1,r1,q1⟩=>hc ae s1 U H1 vs us Q I1 r1 q1) he aC
theorem Ov(hc:CV X (.type T) r)(hg:Gl X x)(hm:X.mg x=none)(hv:bootBuiltins x=some (.type T))(ha:PA X (e::es) t)(hn:x≠"__name__":=by decide)(bh:(x==("__debug__":Str))=false:=by decide)
  (he:starEach (e::es) X.env=(false,eval e X.env)::starEach es X.env:=by rfl) (aC:(backTo pos (starEach es X.env)).any (·.1)=false:=by rfl):PE X (.Call (.Name x p) (e::es) [] pos) (tCB r t):=by
 intro ae s U H Q I h;refine wpAny_Call_Name_kw (DS I hg hm hv ?_ hn bh);exact callWith_type1 (thn (ha pos ae s U H _ I h) λus s1 ⟨vs,H1,I1,r1,q1⟩=>hc ae s1 U H1 vs us Q I1 r1 q1) he aC
end
end L2
namespace HT
open PySem PyProof.Rows
section
open PySem.SeqAt
open PySem.AutoSeq1 (wpAny_loadPart')
open PySem.MeetsSeq PySem.MeetsSeq2 PySem.MeetsSeq3
end
variable{prog:Program}{w:World}{A:Around}{E:Value->Shared->Prop}{s:Shared}
theorem WU(ht:IsTup s.heap t vs.toArray)(hb:IsTup s.heap b ws.toArray)(hv:vs≠[])
  (h1:ws=[]->Q (.ref t) s) (h2:ws≠[]->Q (.ref s.heap.objs.size) {s with heap:=s.heap.push {cls:=.type "tuple",data:=.seq (vs++ws).toArray} })
  (hsz:vs.length+ws.length<=sizeLine):wpAny (model prog w) A (binaryOp .Add (.ref t) (.ref b)) Q E s:=by
 obtain⟨⟨cls,dd,data,sl⟩,ho,hc,n,hd⟩:=id ht;obtain⟨⟨kU,i7,data2,jh⟩,iR,dr,n2,hd2⟩:=id hb;simp only at hc hd dr hd2;subst hc hd dr hd2;have e:vs.toArray++ws.toArray=(vs++ws).toArray:=by simp
 by_cases hw:ws=[]
 .exact concat_meets ⟨_,ho,rfl⟩ ⟨_,iR,rfl⟩ noFill_tuple_add seq_tuple_add slot_tuple_add entry_tuple_add (args_tuple_add_2 _ _)
   (tuple_addW1 t b vs.toArray ws.toArray n n2 dd i7 sl jh (by simpa using hv) (by simp[hw])) ⟨ho,iR,h1 hw⟩
 .refine concat_meets ⟨_,ho,rfl⟩ ⟨_,iR,rfl⟩ noFill_tuple_add seq_tuple_add slot_tuple_add entry_tuple_add (args_tuple_add_2 _ _)
   (tuple_addW2 t b vs.toArray ws.toArray n n2 dd i7 sl jh (by simpa using hv) (by simpa using hw) (by rw[sJ,sJ];exact hsz)) ⟨ho,iR,?_⟩
  rw[e];exact h2 hw
def sIx(n d:Nat):Option Int->Nat
 |none=>d
 |some v=>if v<0 then(v+(n:Int)).toNat else min v.toNat n
theorem XI(n d:Nat)(hd:d<=n)(o:Option Int):sIx n d o<=n:=by
 cases o with
 |none=>exact hd
 |some v =>
  show(if v<0 then(v+(n:Int)).toNat else min v.toNat n)<=n;by_cases hv:v<0
  .rw[if_pos hv];omega
  .rw[if_neg hv];exact Nat.min_le_right _ _
theorem P7(v:Int)(n d:Nat):(if v<0 then max (v+(n:Int)) 0 else min v (n:Int))=((sIx n d (some v):Nat):Int):=by
 show(if v<0 then max (v+(n:Int)) 0 else min v (n:Int))=(((if v<0 then(v+(n:Int)).toNat else min v.toNat n):Nat):Int);by_cases hv:v<0
 .simp only[if_pos hv];omega
 .simp only[if_neg hv];omega
theorem NJ(lo hi:Option Int)(n:Nat):Builtin.Slice.sliceAdjust lo hi 1 (n:Int)=(((sIx n 0 lo:Nat):Int),((sIx n n hi:Nat):Int)):=by
 have h1:¬((1:Int)<0):=by omega
 unfold Builtin.Slice.sliceAdjust;simp only[h1,if_false];refine Prod.ext ?_ ?_
 .cases lo with|none=>rfl|some v=>exact P7 v n 0
 .cases hi with|none=>rfl|some v=>exact P7 v n n
theorem M0(i j:Nat):Builtin.Slice.slicePlaces (i:Int) (j:Int) 1=j-i:=by
 unfold Builtin.Slice.slicePlaces;have h1:(1:Int)>0:=by omega
 simp only[h1,if_true,Int.ediv_one];split<;>omega
theorem HH(p:IsPart v o)(h:Q o s):wpAny (model prog w) A (Builtin.Slice.slicePartIndex v) Q E s:=by cases p with|none=>exact slicePart_none h|int i t=>exact slicePart_int h
theorem DD{sl:Addr}{vl vu:Value}{lo hi:Option Int}{n:Nat}{Q:Int×Int×Nat->Shared->Prop}(hs:s.heap.IsSliceOf sl vl vu .none)(pl:IsPart vl lo)(pu:IsPart vu hi)
  (h:Q (((sIx n 0 lo:Nat):Int),1,sIx n n hi-sIx n 0 lo) s):wpAny (model prog w) A (Builtin.Slice.sliceApplied (.ref sl) (pure (n:Int))) Q E s:=by
 obtain⟨os,iT,jb,jL⟩:=id hs;unfold Builtin.Slice.sliceApplied Builtin.Slice.sliceFields;refine sE (sE (tN iT jL (x:=vl) rfl (sE (tN iT jL (x:=vu) rfl (sE (tN iT jL (x:=.none) rfl (sM ?_)))))));refine sE (slicePart_none ?_);show wpAny _ _ (if((1:Int)==0)=true then _ else _) _ _ s;rw[if_neg (by decide)];refine sE (HH pl (sE (HH pu (sE (sM ?_)))));show wpAny _ _ (match Builtin.Slice.sliceAdjust lo hi 1 (n:Int)with|(lo,hi)=>pure (lo,(1:Int),Builtin.Slice.slicePlaces lo hi 1)) _ _ s;rw[NJ lo hi n];show wpAny _ _ (pure (((sIx n 0 lo:Nat):Int),(1:Int),Builtin.Slice.slicePlaces ((sIx n 0 lo:Nat):Int) ((sIx n n hi:Nat):Int) 1)) _ _ s;rw[M0];exact sM h
theorem Q9(xs:Array Value)(i k:Nat):((List.range k).filterMap λ(m:Nat)=>xs[((i:Int)+(m:Int)*1).toNat]?).toArray=((xs.toList.drop i).take k).toArray:=by
 have e:(λ(m:Nat)=>xs[((i:Int)+(m:Int)*1).toNat]?)=λm=>xs[i+m]?:=by
  funext m;have:((i:Int)+(m:Int)*1).toNat=i+m:=by omega
  rw[this]
 rw[e];have:=pick_run xs i k;rw[List.filterMap_map]at this;have e2:((λx=>xs[x]?)∘λx=>i+x)=λm=>xs[i+m]?:=rfl
 rw[e2]at this;rw[this]
theorem Fb{t sl:Addr}{items:Array Value}{vl vu:Value}{lo hi:Option Int}{Q:Value->Shared->Prop}(ht:IsTup s.heap t items)(hs:s.heap.IsSliceOf sl vl vu .none)(pl:IsPart vl lo)(pu:IsPart vu hi)
  (hw:¬(sIx items.size 0 lo=0/\sIx items.size items.size hi=items.size))
  (h:Q (.ref s.heap.objs.size) {s with heap:=s.heap.push {cls:=.type "tuple",data:=.seq ((items.toList.drop (sIx items.size 0 lo)).take (sIx items.size items.size hi-sIx items.size 0 lo)).toArray} })
  (hsz:items.size<=sizeLine):wpAny (model prog w) A (getItem (.ref t) (.ref sl)) Q E s:=by
 have eY:sizeOk (.seq ((items.toList.drop (sIx items.size 0 lo)).take (sIx items.size items.size hi-sIx items.size 0 lo)).toArray):=by show((items.toList.drop (sIx items.size 0 lo)).take (sIx items.size items.size hi-sIx items.size 0 lo)).toArray.size<=sizeLine;rw[sJ,uh,List.length_drop,uq];omega
 have hj:sIx items.size items.size hi<=items.size:=XI _ _ (sV _) hi;obtain⟨os,iT,jb,jL⟩:=id hs;have qg:s.TypeIs (.ref sl) "slice":=⟨os,iT,jb⟩
 unfold getItem
 try with_reducible refine wpAny_holding ?_
 first|refine sE (sM ?_)|skip
 refine sE (wpAny_sequenceKey ht.typeIs (by decide) ?_);refine sE (wpAny_callSpecial?_slot (name:=Str.ofString "__getitem__") ht.typeIs slot_tuple_getitem
  (wpAny_call_entry slot_tuple_getitem ht.typeIs entry_tuple_getitem ?_ (args_tuple_getitem _ _)))
 show wpAny _ _ (Builtin.Tuple.tupleItemsOf (.ref t) >>= _) _ _ s;refine sE (tupleItemsOf_ ht ?_);refine sE (wpAny_typeOf qg ?_);rw[if_pos (by decide)];refine sE (DD hs pl pu ?_);have lK:¬((((sIx items.size 0 lo:Nat):Int)==0&&(1:Int)==1&&(sIx items.size items.size hi-sIx items.size 0 lo)==items.size)=true):=by intro q;rw[tH,tH]at q;have q1:((sIx items.size 0 lo:Nat):Int)=0:=eq_of_beq q.1.1;have q2:sIx items.size items.size hi-sIx items.size 0 lo=items.size:=eq_of_beq q.2;exact hw ⟨by omega,by omega⟩
 show wpAny _ _ (if(((sIx items.size 0 lo:Nat):Int)==0&&(1:Int)==1&&(sIx items.size items.size hi-sIx items.size 0 lo)==items.size)=true then _ else _) _ _ s;rw[if_neg lK,Q9]
 first
  |exact sE (m:=Builtin.Tuple.tupleExact _) (wpAny_newObj_type (sM ⟨_,rfl,sM h⟩) eY)
  |exact sE (m:=Builtin.Tuple.tupleExact _) (wpAny_newObj_type (sE (sM (sM ⟨_,rfl,sM h⟩))) eY)
  |exact sE (sE (m:=Builtin.Tuple.tupleExact _) (wpAny_newObj_type (sM (sM ⟨_,rfl,sM h⟩)) eY))
  |exact sE (sE (m:=Builtin.Tuple.tupleExact _) (wpAny_newObj_type (sM ⟨_,rfl,sM h⟩) eY))
end HT
namespace L2
open PySem PySem.Spec PyProof.Rows
abbrev TO:=St->Hp->(Option Int->Hp->Prop)->Prop
def PO(X:Cx)(e:Option Expr)(t:TO):Prop :=
 ∀(ae:List (Addr×Obj))(s:Shared)(U:St)(H:Hp)(Q:Option Int->Hp->Prop),Inv X ae U H s->t U H Q ->
  wpAny (model X.prog X.w) X.A (evalPart e X.env) (λu s'=>∃o H',Inv X ae U H' s'/\IsPart u o/\Q o H') X.xe s
def UB:TO:=λ_ H Q=>Q none H
def JaE(t:TE):TO:=λU H Q=>t U H λx H1=>∃i,x=.int i/\Q (some i) H1
theorem intsAre_of:∀{us:List Value},Vals (ns.map V.int) us->IntsAre us ns:=by induction ns with|nil=>intro us r;rw[ud]at r;cases r;exact .nil|cons n ns ih =>intro us r;rw[sG]at r;cases r with|cons r1 r2 =>obtain⟨t,e⟩:=r1;subst e;exact .cons n t (ih r2)
variable{X:Cx}{e:Expr}{te:TE}{lo hi:Option Expr}{tl th:TO}{pos p2:Pos}
theorem U3:PO X none UB:=by intro ae s U H Q I h;rw[evalPart_none];exact sM ⟨none,H,I,.none,h⟩
theorem U2(h:PE X e te):PO X (some e) (JaE te):=by
 intro ae s U H Q I hw;rw[evalPart_some];refine thn (h ae s U H _ I hw) λu s1 ⟨x,H1,I1,r1,q1⟩=>?_
 obtain⟨i,rfl,q⟩:=q1;obtain⟨t,rfl⟩:=r1;exact⟨some i,H1,I1,.int i t,q⟩
def SlR(X:Cx)(r:V->Option Int->Option Int->Hp->VK->Prop):Prop :=
 ∀(ae:List (Addr×Obj))(s:Shared)(U:St)(H:Hp)(x:V)(v vl vu:Value)(lo hi:Option Int)(sl:Addr)(Q:VK),Inv X ae U H s->RelV x v->s.heap.IsSliceOf sl vl vu .none->IsPart vl lo->IsPart vu hi->r x lo hi H Q ->
  ∃T id,typeLookup (.type T) "__getitem__"=pure (some (.builtin id))/\s.TypeIs v T/\wpAny (model X.prog X.w) X.A (getItem v (.ref sl)) (EP X ae U Q) X.xe s
theorem SlR.or(h:SlR X r)(h':SlR X r'):SlR X (λx lo hi H Q=>r x lo hi H Q\/r' x lo hi H Q):=by
 intro ae s U H x v vl vu lo hi sl Q I rx hs pl pu q;rcases q with q|q
 .exact h ae s U H x v vl vu lo hi sl Q I rx hs pl pu q
 .exact h' ae s U H x v vl vu lo hi sl Q I rx hs pl pu q
def tSl(r:V->Option Int->Option Int->Hp->VK->Prop)(te:TE)(tl th:TO):TE:=λU H Q=>te U H λx H1=>tl U H1 λl H2=>th U H2 λu H3=>r x l u H3 Q
theorem Rc{r:V->Option Int->Option Int->Hp->VK->Prop}(hr:SlR X r)(he:PE X e te)(hl:PO X lo tl)(hu:PO X hi th):PE X (.Subscript e (.Slice lo hi none p2) pos) (tSl r te tl th):=by
 intro ae s U H Q I h;refine Subscript_ (thn (he ae s U H _ I h) λv s1 ⟨x,H1,I1,r1,q1⟩=>?_);refine wpAny_Slice (thn (hl ae s1 U H1 _ I1 q1) λvl s2 ⟨l,H2,I2,pl,q2⟩=>thn (hu ae s2 U H2 _ I2 q2) λvu s3 ⟨u,H3,I3,pu,q3⟩=>?_);rw[evalPart_none];refine sM ?_;have I4:Inv X ae U H3 {s3 with heap:=s3.heap.push {cls:=.type "slice",data:=.fields #[vl,vu,.none]} }:=I3.kept (t':=s3.toks) λb ob q=>sF _ q
 obtain⟨T,id,hT,ht,hg⟩:=hr ae {s3 with heap:=s3.heap.push {cls:=.type "slice",data:=.fields #[vl,vu,.none]} } U H3 x v vl vu l u s3.heap.objs.size Q I4 r1 (Heap.IsSliceOf.new ..) pl pu q3;show wpAny (model X.prog X.w) X.A (subscriptTail e (.Slice lo hi none p2) v (.ref s3.heap.objs.size)) (EP X ae U Q) X.xe {s3 with heap:=s3.heap.push {cls:=.type "slice",data:=.fields #[vl,vu,.none]} };exact tail_any (ops:=[.ref s3.heap.objs.size,v]) ht hT hg (by with_unfolding_all rfl)
def WL(xs:List V)(lo hi:Option Int):List V:=(xs.drop (HT.sIx xs.length 0 lo)).take (HT.sIx xs.length xs.length hi-HT.sIx xs.length 0 lo)
theorem GV(xs:List V)(lo hi:Option Int):(WL xs lo hi).length<=xs.length:=by unfold WL;rw[uh,List.length_drop];omega
def rSlT(K:Fg):V->Option Int->Option Int->Hp->VK->Prop:=λx lo hi H Q=>∃a xs,x=.ref a/\SqT K H a xs /\
 ¬(HT.sIx xs.length 0 lo=0/\HT.sIx xs.length xs.length hi=xs.length)/\∀p,H p=none->Q (.ref p) (upd H p (.tup (WL xs lo hi)))
theorem XC:SlR X (rSlT X.K):=by
 intro ae s U H x v vl vu lo hi sl Q I rx hs pl pu h;obtain⟨a,xs,rfl,hx,hw,q⟩:=h;cases rx;obtain⟨ak,r,ht,hz⟩:=I.tuple hx;have hlen:ak.toArray.size=xs.length:=by rw[sJ];exact r.length.symm
 refine⟨"tuple",_,PyProof.Rows.slot_tuple_getitem.lookup,ht.typeIs,?_⟩;refine HT.Fb ht hs pl pu (by rw[hlen];exact hw) ?_ (by rw[hlen];exact hz);rw[hlen];refine⟨.ref s.heap.objs.size,_,I.laid (t':=s.toks) (o:=.tup (WL xs lo hi)) (λb ob q=>sF _ q) (sV _) ?_,rfl,q _ (I.zZ.fresh (sV _))⟩;exact⟨tK (GV xs lo hi) hz,_,(r.drop (HT.sIx xs.length 0 lo)).take (HT.sIx xs.length xs.length hi-HT.sIx xs.length 0 lo),IsTup.new _ _⟩
def XX(K:Fg):R2:=λx y H Q=>∃a b xs ys,x=.ref a/\y=.ref b/\SqT K H a xs/\SqT K H b ys/\xs≠[]/\xs.length+ys.length<=sizeLine /\
 (ys=[]->Q (.ref a) H)/\(ys≠[]->∀p,H p=none->Q (.ref p) (upd H p (.tup (xs++ys))))
theorem Vals.Lg(r:Vals xs us):us=[]↔xs=[]:=by cases r with|nil=>simp|cons _ _=>simp
theorem Vo:OpR X (binaryOp .Add) (XX X.K):=by intro ae s U H x y v u Q I rx ry h;obtain⟨a,b,xs,ys,rfl,rfl,ha,hb,hx,hz,q1,q2⟩:=h;cases rx;cases ry;obtain⟨ak,r1,p1,_⟩:=I.tuple ha;obtain⟨aI,r2,p2,_⟩:=I.tuple hb;refine HT.WU p1 p2 (λz=>hx (r1.Lg.mp z)) (λz=>⟨.ref a,H,I,rfl,q1 (r2.Lg.mp z)⟩) (λz=>?_) (by rw[<- r1.length,<- r2.length];exact hz);refine⟨.ref s.heap.objs.size,_,I.laid (λb ob q=>sF _ q) (sV _) ?_,rfl,q2 (λw=>z (r2.Lg.mpr w)) _ (I.zZ.fresh (sV _))⟩;exact⟨by rw[tM];exact hz,_,r1.append r2,IsTup.new _ _⟩
def ixN(n:Nat)(i:Int):Option Nat:=if 0<=i then(if i<n then some i.toNat else none)else if -(n:Int)<=i then some (i+n).toNat else none
def atI{α:Type}(xs:List α)(i:Int):Option α:=(ixN xs.length i).bind λj=>xs[j]?
theorem O4(h:ixN n i=some j):seqIndex? i n=some j/\j<n/\-(n:Int)<=i/\i<n:=by
 unfold ixN at h;by_cases h0:0<=i
 .rw[if_pos h0]at h;by_cases h1:i<n
  .rw[if_pos h1]at h;have e:=Option.some.inj h;exact⟨by rw[seqIndex_of h0 h1,e],by omega,by omega,h1⟩
  .rw[if_neg h1]at h;cases h
 .rw[if_neg h0]at h;by_cases h1:-(n:Int)<=i
  .rw[if_pos h1]at h;have e:=Option.some.inj h;exact⟨by rw[seqIndex_neg (by omega) h1,e],by omega,h1,by omega⟩
  .rw[if_neg h1]at h;cases h
theorem LJ(h:atI xs i=some v):∃j,seqIndex? i xs.length=some j/\xs[j]?=some v/\j<xs.length/\-(xs.length:Int)<=i/\i<xs.length:=by unfold atI at h;cases e:ixN xs.length i with|none=>rw[e]at h;cases h|some j =>rw[e]at h;obtain⟨h1,h2,h3,h4⟩:=O4 e;exact⟨j,h1,h,h2,h3,h4⟩
theorem DB{α:Type}{xs:List α}{j:Nat}{v:α}(h:xs[j]?=some v):atI xs (j:Int)=some v:=by
 have hj:j<xs.length:=(sS.mp h).1;have e:ixN xs.length (j:Int)=some j:=by unfold ixN;rw[if_pos (by omega),if_pos (by omega)];simp
 unfold atI;rw[e];exact h
def Jo(b:Expr):Prop:=∀o i,subscripted b false o i=operate [o,i] (getItem o i)
def IxR(X:Cx)(r:R2):Prop :=
 ∀(value aB:Expr)(ae:List (Addr×Obj))(s:Shared)(U:St)(H:Hp)(x y:V)(v u:Value)(Q:VK),Inv X ae U H s->RelV x v->RelV y u->r x y H Q ->
  subscripted aB false v u=operate [v,u] (getItem v u)->wpAny (model X.prog X.w) X.A (subscriptTail value aB v u) (EP X ae U Q) X.xe s
def MtR(X:Cx)(id:String)(r:V->List V->Hp->VK->Prop):Prop :=
 ∀(ae:List (Addr×Obj))(s:Shared)(U:St)(H:Hp)(x:V)(xs:List V)(v:Value)(us:List Value)(Q:VK),Inv X ae U H s->RelV x v->Vals xs us->r x xs H Q ->
  wpAny (model X.prog X.w) X.A (call (.builtin id) (v::us)) (EP X ae U Q) X.xe s
variable{a b:Expr}{ta tb:TE}
variable{o:Expr}{es:List Expr}{to:TE}{name:Str}{av aw:Pos}{T:String}{r:V->List V->Hp->VK->Prop}
section
theorem IxR.or{r}(h:IxR X r)(h':IxR X r'):IxR X (λx y H Q=>r x y H Q\/r' x y H Q):=by
 intro value aB ae s U H x y v u Q I rx ry q hs;rcases q with q|q
 .exact h value aB ae s U H x y v u Q I rx ry q hs
 .exact h' value aB ae s U H x y v u Q I rx ry q hs
theorem Yh{r}(hr:IxR X r)(ha:PE X a ta)(hb:PE X b tb)(hs:Jo b):PE X (.Subscript a b pos) (tOp r ta tb):=by intro ae s U H Q I h;exact Subscript_ (JbE ha hb I h λv u s2 x y H2 I2 rx ry q=>hr a b ae s2 U H2 x y v u Q I2 rx ry q (hs _ _))
def JbS(K:Fg):R2:=λx y H Q=>∃p xs i v,x=.ref p/\y=.int i/\SqL K H p xs/\atI xs i=some v/\Q v H
def JbQ(K:Fg):R2:=λx y H Q=>∃p xs i v,x=.ref p/\y=.int i/\SqT K H p xs/\atI xs i=some v/\Q v H
def JbR:R2:=λx y H Q=>∃z i c,x=.str z/\y=.int i/\z.length<=sizeLine/\atI z.cps.toList i=some c/\Q (.str ⟨#[c]⟩) H
theorem O3:IxR X (JbS X.K):=by
 intro value aB ae s U H x y v u Q I rx ry h hs;obtain⟨p,xs,i,z,rfl,rfl,hq,he,q⟩:=h;cases rx;obtain⟨t,rfl⟩:=ry;obtain⟨ak,r,pl,hz⟩:=I.list hq;obtain⟨j,h1,h2,h3,h4,h5⟩:=LJ he;obtain⟨w,ew,dM⟩:=r.get h2;have hl:=r.length;have hn:=Gz;have ba:EP X ae U Q w s:=⟨z,H,I,dM,q⟩
 by_cases h0:0<=i
 .have hj:i.toNat=j:=by rw[seqIndex_of h0 h5]at h1;exact Option.some.inj h1
  exact item_listR pl.isList h0 (by omega) (by rw[hj];simpa using ew) ba hs
 .have hj:(i+(ak.toArray.size:Int)).toNat=j:=by rw[seqIndex_neg (by omega) h4]at h1;rw[sJ,<- hl];exact Option.some.inj h1
  exact subscriptTail_builtinR (x:=w) pl.isList.typeIs slot_list_getitem.lookup
   (wpAny_getItem_list_neg (Q:=λr s'=>r=w/\EP X ae U Q r s') pl.isList (by omega) (by rw[sJ]<;>omega) (by omega) (by rw[hj];simpa using ew) ⟨rfl,ba⟩) hs
theorem YT:IxR X (JbQ X.K):=by
 intro value aB ae s U H x y v u Q I rx ry h hs;obtain⟨p,xs,i,z,rfl,rfl,hq,he,q⟩:=h;cases rx;obtain⟨t,rfl⟩:=ry;obtain⟨ak,r,pl,hz⟩:=I.tuple hq;obtain⟨j,h1,h2,h3,h4,h5⟩:=LJ he;obtain⟨w,ew,dM⟩:=r.get h2;have hl:=r.length;have hn:=Gz;have ba:EP X ae U Q w s:=⟨z,H,I,dM,q⟩
 exact subscriptTail_builtinR (x:=w) pl.typeIs slot_tuple_getitem.lookup
  (getItem_tuple (j:=j) (Q:=λr s'=>r=w/\EP X ae U Q r s') pl (by omega) (by omega) (by rw[sJ,<- hl];exact h1) (by simpa using ew) ⟨rfl,ba⟩) hs
theorem YU:IxR X JbR:=by
 intro value aB ae s U H x y v u Q I rx ry h hs;obtain⟨z,i,c,rfl,rfl,hz,he,q⟩:=h;obtain⟨t,rfl⟩:=rx;obtain⟨t',rfl⟩:=ry;obtain⟨j,h1,h2,h3,h4,h5⟩:=LJ he;have hl:z.cps.toList.length=z.length:=by simp[Str.length]
 rw[hl]at h1 h4 h5;have hn:=Gz;exact tail_any (typeIs_str s z t) slot_str_getitem.lookup (getItem_str (c:=c) (by have e1:decide (i < -(2^63:Int))=false:=tB (by omega);have e2:decide (i>=2^63)=false:=tB (by omega);rw[e1,e2,Bool.or_false]) (by rw[h1];simpa using h2) ⟨.str ⟨#[c]⟩,H,I.tok _,⟨_,rfl⟩,q⟩) hs
def rIx(K:Fg):R2:=λx y H Q=>JbS K x y H Q\/JbQ K x y H Q\/JbR x y H Q
theorem YV:IxR X (rIx X.K):=O3.or (YT.or YU)
theorem Nb(ak:List Value)(n j:Nat)(u:Value):Obj.mapSeq (·.setIfInBounds j u) {cls:=.type "list",data:=.seq ak.toArray n}={cls:=.type "list",data:=.seq (ak.set j u).toArray n}:=by simp[Obj.mapSeq]
theorem Inv.lst(I:Inv X ae U H s)(h:H p=some (.lst xs)):
  ∃(ak:List Value)(n:Nat),Vals xs ak/\s.heap.get? p=some {cls:=.type "list",data:=.seq ak.toArray n}/\xs.length<=sizeLine:=by
 obtain⟨z,ak,n,r,e⟩:=I.zZ p _ h;exact⟨ak,n,r,e,z⟩
theorem Inv.YK{ae:List (Addr×Obj)}{U:St}{H:Hp}{s:Shared}{p:Addr}{xs ys:List V}{ak aR:List Value}{n n':Nat}{f:Obj->Obj}(I:Inv X ae U H s)(h:H p=some (.lst xs))
  (ho:s.heap.get? p=some {cls:=.type "list",data:=.seq ak.toArray n}) (hf:f {cls:=.type "list",data:=.seq ak.toArray n}={cls:=.type "list",data:=.seq aR.toArray n' }) (r:Vals ys aR) (hz:ys.length<=sizeLine) (t:Nat) :
  Inv X ae U (upd H p (.lst ys)) {s with heap:=s.heap.update p f,toks:=t}:=by
 have e:(s.heap.update p f).get? p=some {cls:=.type "list",data:=.seq aR.toArray n' }:=by rw[t6 f ho (by rw[hf]<;>rfl),hf]
 refine I.write (x:=p) (e:=p) (by rw[h];trivial) (.inl rfl) (λb u hb q=>(tW _ _ (Ne.symm hb)).trans q) ⟨_,e⟩ ?_;exact⟨hz,aR,n',r,e⟩
def UR:V->V->V->Hp->(Hp->Prop)->Prop:=λo i v H Q=>∃p xs k j,o=.ref p/\i=.int k/\H p=some (.lst xs)/\ixN xs.length k=some j/\Q (upd H p (.lst (xs.set j v)))
theorem set_list:Tf X UR:=by
 intro ae s U H o i v ov iv u Q I ro ri rv h;obtain⟨p,xs,k,j,rfl,rfl,hp,hj,q⟩:=h;cases ro;obtain⟨t,rfl⟩:=ri;obtain⟨ak,n,r,ho,hz⟩:=I.lst hp;obtain⟨h1,h2,h3,h4⟩:=O4 hj;have hl:=r.length;have hn:=Gz;have I':Inv X ae U (upd H p (.lst (xs.set j v))) {s with heap:=s.heap.update p (Obj.mapSeq (·.setIfInBounds j u))} :=
  I.YK hp ho (Nb ak n j u) (r.set rv j) (by rw[List.length_set];exact hz) s.toks
 by_cases h0:0<=k
 .have hk:k.toNat=j:=by rw[seqIndex_of h0 h4]at h1;exact Option.some.inj h1
  exact PySem.W.ki_setAt ho h0 (by omega) (by rw[sJ,<- hl];exact h4) (by rw[hk];exact⟨_,I',q⟩)
 .have hk:(k+(ak.toArray.size:Int)).toNat=j:=by rw[seqIndex_neg (by omega) h3]at h1;rw[sJ,<- hl];exact Option.some.inj h1
  exact PySem.W.ki_setBack ho (by omega) (by rw[sJ,<- hl];exact h3) (by omega) (by rw[hk];exact⟨_,I',q⟩)
theorem JE(lo hi:Option Int)(n:Nat):(sliceBounds lo hi none n).1=((HT.sIx n 0 lo:Nat):Int)/\(sliceBounds lo hi none n).2.1=((HT.sIx n n hi:Nat):Int)/\(sliceBounds lo hi none n).2.2=1:=by
 refine⟨?_,?_,rfl⟩
 .cases lo with
  |none=>simp[sliceBounds,HT.sIx]
  |some i =>
   simp only[sliceBounds,HT.sIx,Option.getD_none,show(1:Int)>0 by decide,if_true];by_cases h:i<0
   .simp only[h,if_true]<;>omega
   .simp only[h,if_false]<;>omega
 .cases hi with
  |none=>simp[sliceBounds,HT.sIx]
  |some i =>
   simp only[sliceBounds,HT.sIx,Option.getD_none,show(1:Int)>0 by decide,if_true];by_cases h:i<0
   .simp only[h,if_true]<;>omega
   .simp only[h,if_false]<;>omega
theorem Iw(ak:List Value)(lo hi:Option Int):slicePick ak.toArray lo hi none=((ak.drop (HT.sIx ak.length 0 lo)).take (HT.sIx ak.length ak.length hi-HT.sIx ak.length 0 lo)).toArray:=by obtain⟨h1,h2,h3⟩:=JE lo hi ak.toArray.size;unfold slicePick;rw[h1,h2,h3];simp only[sliceRange_one,pick_run,sJ]<;>rfl
def rSlL(K:Fg):V->Option Int->Option Int->Hp->VK->Prop:=λx lo hi H Q=>∃a xs,x=.ref a/\SqL K H a xs/\∀p,H p=none->Q (.ref p) (upd H p (.lst (WL xs lo hi)))
theorem UK:SlR X (rSlL X.K):=by intro ae s U H x v vl vu lo hi sl Q I rx hs pl pu h;obtain⟨a,xs,rfl,hx,q⟩:=h;cases rx;obtain⟨ak,r,ht,hz⟩:=I.list hx;have hlen:=r.length;refine⟨"list",_,slot_list_getitem.lookup,ht.isList.typeIs,?_⟩;refine wpAny_getItem_list_slice ht.isList hs pl pu .none (by simp) ?_ (by rw[sJ]<;>omega);rw[Iw,<- hlen];refine⟨.ref s.heap.objs.size,_,I.laid (λb ob q=>sF _ q) (sV _) ?_,rfl,q _ (I.zZ.fresh (sV _))⟩;exact⟨tK (GV xs lo hi) hz,_,0,(r.drop (HT.sIx xs.length 0 lo)).take (HT.sIx xs.length xs.length hi-HT.sIx xs.length 0 lo),sP _ rfl⟩
def Ff:V->Bool
 |.v=>true
 |.o _=>true
 |.int _=>true
 |.str _=>true
 |_=>false
def eqV:V->V->Bool
 |.v,.v=>true
 |.o a,.o b=>a==b
 |.o a,.int b=>(if a then 1 else 0)==b
 |.int a,.o b=>a==(if b then 1 else 0)
 |.int a,.int b=>a==b
 |.str a,.str b=>a==b
 |_,_=>false
theorem Uj(ry:RelV y u)(rx:RelV x v)(fy:Ff y=true)(fx:Ff x=true):SeqAt.EqAt A s u v (eqV y x):=by
 cases y with
 |v =>cases ry;cases x with|v=>cases rx;exact SeqAt.EqAt.same _|o b=>cases rx;exact SeqAt.EqAt.none_bool b|int b=>obtain⟨t,rfl⟩:=rx;exact SeqAt.EqAt.none_int b t|str b=>obtain⟨t,rfl⟩:=rx;exact SeqAt.EqAt.none_str b t|_=>exact absurd (show false=true from fx) tm
 |o a =>cases ry;cases x with|v=>cases rx;exact SeqAt.EqAt.bool_none a|o b=>cases rx;exact SeqAt.EqAt.bool_bool a b|int b=>obtain⟨t,rfl⟩:=rx;exact SeqAt.EqAt.bool_int a b t|str b=>obtain⟨t,rfl⟩:=rx;exact SeqAt.EqAt.bool_str a b t|_=>exact absurd (show false=true from fx) tm
 |int a =>obtain⟨t',rfl⟩:=ry;cases x with|v=>cases rx;exact SeqAt.EqAt.int_none a t'|o b=>cases rx;exact SeqAt.EqAt.int_bool a t' b|int b=>obtain⟨t,rfl⟩:=rx;exact SeqAt.EqAt.int_int a t' b t|str b=>obtain⟨t,rfl⟩:=rx;exact SeqAt.EqAt.int_str a t' b t|_=>exact absurd (show false=true from fx) tm
 |str a =>obtain⟨t',rfl⟩:=ry;cases x with|v=>cases rx;exact SeqAt.EqAt.str_none a t'|o b=>cases rx;exact SeqAt.EqAt.str_bool a t' b|int b=>obtain⟨t,rfl⟩:=rx;exact SeqAt.EqAt.str_int a t' b t|str b=>obtain⟨t,rfl⟩:=rx;exact SeqAt.EqAt.str_str a t' b t|_=>exact absurd (show false=true from fx) tm
 |_=>exact absurd (show false=true from fy) tm
def eqU(x:V)(u:Value):Bool:=match u with|.none=>eqV .v x|.bool b=>eqV (.o b) x|.int i _=>eqV (.int i) x|.str z _=>eqV (.str z) x|_=>false
theorem Ui(r:RelV y u)(f:Ff y=true):eqU x u=eqV y x:=by cases y with|v=>cases r;rfl|o b=>cases r;rfl|int i=>obtain⟨t,rfl⟩:=r;rfl|str z=>obtain⟨t,rfl⟩:=r;rfl|_=>exact absurd (show false=true from f) tm
theorem Hi:∀{xs:List V}{us:List Value},Vals xs us->xs.all Ff=true->us.any (eqU x)=xs.any λy=>eqV y x
 |_,_,.nil,_=>rfl
 |y::xs,u::us,.cons r t,f=>by rw[List.all_cons,tH]at f;rw[uG,uG,Ui r f.1,Hi t f.2]
theorem EG(rx:RelV x v)(fx:Ff x=true):∀{xs:List V}{us:List Value},Vals xs us->xs.all Ff=true->∀u∈us,SeqAt.EqAt A s u v (eqU x u)
 |_,_,.nil,_=>λu hu=>by cases hu
 |y::xs,u::us,.cons r t,f=>λu' hu=>by
  rw[List.all_cons,tH]at f;rcases sQ.mp hu with rfl|hu
  .rw[Ui r f.1];exact Uj r rx f.1 fx
  .exact EG rx fx t f.2 u' hu
def inV(x:V)(xs:List V):Bool:=xs.any λy=>eqV y x
def rIn(K:Fg)(neg:Bool):R2:=λx y H Q=>∃p xs,y=.ref p/\(SqL K H p xs\/SqT K H p xs)/\Ff x=true/\xs.all Ff=true/\Q (.o (if neg then !inV x xs else inV x xs)) H
theorem JW:OpR X (compareOp .In) (rIn X.K false):=by
 intro ae s U H x y v u Q I rx ry h;obtain⟨p,xs,rfl,hq,fx,fs,q⟩:=h;cases ry;rcases hq with hq|hq
 .obtain⟨ak,r,pl,hz⟩:=I.list hq;refine SeqAt.in_listAt (eqU x) pl.isList (λw hw=>EG rx fx r fs w (by simpa using hw)) ⟨.o _,H,I,rfl,?_⟩;rw[show ak.toArray.any (eqU x)=ak.any (eqU x) by simp,Hi r fs];exact q
 .obtain⟨ak,r,pl,hz⟩:=I.tuple hq;refine SeqAt.in_tupleAt (eqU x) pl (λw hw=>EG rx fx r fs w (by simpa using hw)) ⟨.o _,H,I,rfl,?_⟩;rw[show ak.toArray.any (eqU x)=ak.any (eqU x) by simp,Hi r fs];exact q
theorem JU:OpR X (compareOp .NotIn) (rIn X.K true):=by
 intro ae s U H x y v u Q I rx ry h;obtain⟨p,xs,rfl,hq,fx,fs,q⟩:=h;cases ry;rcases hq with hq|hq
 .obtain⟨ak,r,pl,hz⟩:=I.list hq;refine SeqAt.notIn_listAt (eqU x) pl.isList (λw hw=>EG rx fx r fs w (by simpa using hw)) ⟨.o _,H,I,rfl,?_⟩;rw[show ak.toArray.any (eqU x)=ak.any (eqU x) by simp,Hi r fs];exact q
 .obtain⟨ak,r,pl,hz⟩:=I.tuple hq;refine SeqAt.notIn_tupleAt (eqU x) pl (λw hw=>EG rx fx r fs w (by simpa using hw)) ⟨.o _,H,I,rfl,?_⟩;rw[show ak.toArray.any (eqU x)=ak.any (eqU x) by simp,Hi r fs];exact q
theorem JT:OpR X (compareOp .NotIn) (λx y H Q=>∃i j,x=.str i/\y=.str j/\Q (.o (!(!(Builtin.Str.occurrences j i 0 j.length 1).isEmpty))) H):=by intro ae s U H x y v u Q I rx ry h;obtain⟨i,j,rfl,rfl,q⟩:=h;obtain⟨t,rfl⟩:=rx;obtain⟨t',rfl⟩:=ry;exact notIn_str ⟨.o _,H,I,rfl,q⟩
theorem KC:CV X (.builtin "len") (λxs H Q=>∃p ys,xs=[.ref p]/\(SqL X.K H p ys\/SqT X.K H p ys)/\Q (.int ys.length) H):=by
 intro ae s U H xs us Q I r h;obtain⟨p,ys,rfl,hq,q⟩:=h;obtain⟨u,rfl,rx⟩:=vals1 r;cases rx;have hn:=Gz;rcases hq with hq|hq
 .obtain⟨ak,r',pl,hz⟩:=I.list hq;have hlen:=r'.length;exact Calls.call_len_list pl.isList (by simp only[sJ]<;>omega) ⟨.int ys.length,H,I.tok _,⟨s.toks+1,by rw[sJ,hlen]⟩,q⟩
 .obtain⟨ak,r',pl,hz⟩:=I.tuple hq;have hlen:=r'.length;exact len_tuple pl (by simp only[sJ]<;>omega) ⟨.int ys.length,H,I.tok _,⟨s.toks+1,by rw[sJ,hlen]⟩,q⟩
theorem KA:CV X (.builtin "len") (λxs H Q=>∃z,xs=[.str z]/\z.length<=sizeLine/\Q (.int z.length) H):=by intro ae s U H xs us Q I r h;obtain⟨z,rfl,hz,q⟩:=h;obtain⟨u,rfl,t,rfl⟩:=vals1 r;have hn:=Gz;exact len_str (by omega) ⟨.int z.length,H,I.tok _,⟨_,rfl⟩,q⟩
theorem Kz:CV X (.type "list") (λxs H Q=>∃p ys,xs=[.ref p]/\(SqL X.K H p ys\/SqT X.K H p ys)/\∀l,H l=none->Q (.ref l) (upd H l (.lst ys))):=by
 intro ae s U H xs us Q I r h;obtain⟨p,ys,rfl,hq,q⟩:=h;obtain⟨u,rfl,rx⟩:=vals1 r;cases rx;have ba:∀(ak:List Value),Vals ys ak->ys.length<=sizeLine->∀(h':Heap)(c':Nat),(∀b o',s.heap.get? b=some o'->h'.get? b=some o') ->
   h'.get? s.heap.objs.size=some {cls:=.type "list",dict:=none,data:=.seq ak.toArray c',slots:=#[]}->EP X ae U Q (.ref s.heap.objs.size) {s with heap:=h' }:=λak r' hz h' c' kp e =>
  ⟨.ref s.heap.objs.size,_,I.laid (t':=s.toks) kp (sV _) (show BJ X.prog X.w _ h' _ (.lst ys)from⟨hz,ak,c',r',e⟩),rfl,q _ (I.zZ.fresh (sV _))⟩
 rcases hq with hq|hq
 .obtain⟨ak,r',pl,hz⟩:=I.list hq;have hlen:=r'.length;obtain⟨o,ho,hc,n,hd⟩:=pl.isList;exact call_list_seq p (.inl rfl) ho hc hd (λh' c' kp e=>ba ak r' hz h' c' kp e) (by simp only[sJ]<;>omega)
 .obtain⟨ak,r',pl,hz⟩:=I.tuple hq;have hlen:=r'.length;obtain⟨o,ho,hc,n,hd⟩:=pl;exact call_list_seq p (.inr rfl) ho hc hd (λh' c' kp e=>ba ak r' hz h' c' kp e) (by simp only[sJ]<;>omega)
theorem Ji:CV X (.type "tuple") (λxs H Q=>∃p ys,xs=[.ref p]/\((SqL X.K H p ys/\∀l,H l=none->Q (.ref l) (upd H l (.tup ys)))\/(SqT X.K H p ys/\Q (.ref p) H))):=by
 intro ae s U H xs us Q I r h;obtain⟨p,ys,rfl,h⟩:=h;obtain⟨u,rfl,rx⟩:=vals1 r;cases rx;rcases h with⟨hq,q⟩|⟨hq,q⟩
 .obtain⟨ak,r',pl,hz⟩:=I.list hq;have hlen:=r'.length;refine call_tuple_list pl.isList (λh' kp=>?_) (by simp only[sJ]<;>omega);have I1:Inv X ae U H {s with heap:=h' }:=I.kept (t':=s.toks) kp;have I2:Inv X ae U (upd H h'.objs.size (.tup ys)) {s with heap:=h'.push {cls:=.type "tuple",data:=.seq ak.toArray} } :=
   I1.laid (t':=s.toks) (λb o e=>sF _ e) (sV _) (show BJ X.prog X.w _ _ _ (.tup ys)from⟨hz,ak,r',IsTup.new _ _⟩)
  exact⟨.ref h'.objs.size,_,I2,rfl,q _ (I1.zZ.fresh (sV _))⟩
 .obtain⟨ak,r',pl,hz⟩:=I.tuple hq;exact call_tuple_same pl ⟨.ref p,H,I,rfl,q⟩
def tyV(K:Fg)(T:String)(x:V)(H:Hp):Prop:=match x with
 |.str _=>T="str"
 |.int _=>T="int"
 |.ref p=>(T="list"/\∃xs,SqL K H p xs)\/(T="tuple"/\∃o,K.lookup p=some o/\o.cls=.type "tuple"/\o.dict=none)\/
   (T="dict"/\((∃ah,H p=some (.l ah))\/∃ah,H p=some (.dT ah)))\/(T="set"/\∃S n,H p=some (.set S n))
 |_=>False
theorem Tp{ae:List (Addr×Obj)}{U:St}{H:Hp}{s:Shared}{T:String}{x:V}{v:Value}(I:Inv X ae U H s)(r:RelV x v)(ty:tyV X.K T x H):
  s.TypeIs v T/\∀a,v=.ref a->∃ob,s.heap.get? a=some ob/\ob.dict=none:=by
 cases x with
 |str z =>obtain⟨t,rfl⟩:=r;cases(show T="str" from ty);exact⟨typeIs_str s z t,λ_ e=>nomatch e⟩
 |int i =>obtain⟨t,rfl⟩:=r;cases(show T="int" from ty);exact⟨typeIs_int s i t,λ_ e=>nomatch e⟩
 |ref p =>
  cases r;rcases ty with⟨rfl,xs,hq⟩|⟨rfl,o,hk,hc,hd⟩|⟨rfl,hk⟩|⟨rfl,S,n,hk⟩
  .obtain⟨ak,_,pl,_⟩:=I.list hq;refine⟨pl.isList.typeIs,λa e=>?_⟩;cases e;obtain⟨o,n,e,c,hd,_⟩:=pl;exact⟨o,e,hd⟩
  .refine⟨⟨o,I.kIn p o hk,hc⟩,λa e=>?_⟩;cases e;exact⟨o,I.kIn _ o hk,hd⟩
  .have z:∃o,s.heap.get? p=some o/\o.ExactDict:=by
    rcases hk with⟨ah,hk⟩|⟨ah,hk⟩
    .obtain⟨_,_,_,_,o,_,_,e,ex,_⟩:=I.zZ p _ hk;exact⟨o,e,ex⟩
    .obtain⟨_,_,_,_,o,_,_,e,ex,_⟩:=I.zZ p _ hk;exact⟨o,e,ex⟩
   obtain⟨o,e,ex⟩:=z;refine⟨⟨o,e,ex.1⟩,λa e2=>?_⟩;cases e2;exact⟨o,e,ex.2.1⟩
  .obtain⟨o,_,_,_,e,ex,_⟩:=I.zZ p _ hk;refine⟨⟨o,e,ex.1⟩,λa e2=>?_⟩;cases e2;exact⟨o,e,ex.2.1⟩
 |_=>exact False.elim ty
def Jcj(K:Fg)(T:String)(r:V->List V->Hp->VK->Prop)(to:TE):TE:=λU H Q=>to U H λx H1=>tyV K T x H1/\r x [] H1 Q
def tBM(K:Fg)(T:String)(r:V->List V->Hp->VK->Prop)(to:TE)(t:TA):TE:=λU H Q=>to U H λx H1=>tyV K T x H1/\t U H1 λxs H2=>r x xs H2 Q
variable{t:TA}{id:String}
theorem Yj(pa:PlainAttrs T)(slot:Slot T name id)(fB:typeOf (.builtin id)=pure (.type "method_descriptor"))(hm:MtR X id r)(ho:PE X o to)
  (aN:attributeBase o name X.env (eval o X.env)=eval o X.env:=by rfl) (aO:(av.endLine==aw.line)=true:=by rfl):PE X (.Call (.Attribute o name av) [] [] aw) (Jcj X.K T r to):=by
 intro ae s U H Q I h;refine wpAny_Call_method0_late aN aO (thn (ho ae s U H _ I h) λv s1 ⟨x,H1,I1,r1,ty,q1⟩=>?_);obtain⟨h1,h2⟩:=Tp I1 r1 ty;exact⟨T,id,pa,slot,fB,h1,h2,Calls.callWith_builtin rfl (PySem.evalArgs_none (hm ae s1 U H1 x [] v [] Q I1 r1 .nil q1))⟩
theorem Vh(pa:PlainAttrs T)(slot:Slot T name id)(fB:typeOf (.builtin id)=pure (.type "method_descriptor"))(hm:MtR X id r)(ho:PE X o to)(ha:PA X (e::es) t)
  (aN:attributeBase o name X.env (eval o X.env)=eval o X.env:=by rfl)
  (eE:((backTo aw (starEach (e::es) X.env)).all (λx=>!x.1)&&(backToKw aw (keywordEach [] X.env)).all (λx=>x.1.isSome)
  &&decide ((e::es).length+([]:List Keyword).length+(if([]:List Keyword).isEmpty then 0 else 1)<30))=true:=by rfl)
  (aO:(av.endLine==aw.line)=true:=by rfl) (hs:starEach (e::es) X.env=(false,eval e X.env)::starEach es X.env:=by rfl) (b9:(backTo aw (starEach es X.env)).any (·.1)=false:=by rfl) :
  PE X (.Call (.Attribute o name av) (e::es) [] aw) (tBM X.K T r to t):=by
 intro ae s U H Q I h;refine wpAny_Call_method_late aN eE aO rfl (thn (ho ae s U H _ I h) λv s1 ⟨x,H1,I1,r1,ty,q1⟩=>?_);obtain⟨h1,h2⟩:=Tp I1 r1 ty;refine⟨T,id,pa,slot,fB,h1,h2,?_⟩;have hA:=ha aw ae s1 U H1 _ I1 q1;rw[hs]at hA ⊢;refine Calls.callWith_builtin (by show(false||(backTo aw (starEach es X.env)).any (·.1))=false;rw[b9]<;>rfl) (Calls.evalArgs_plain ?_);exact thn hA λus s2 ⟨vs,H2,I2,r2,q2⟩=>hm ae s2 U H2 x vs v us Q I2 r1 r2 q2
end
def MtM(X:Cx)(id:String)(r:V->List V->Hp->VK->Prop):Prop :=
 ∀(ae:List (Addr×Obj))(s:Shared)(U:St)(H:Hp)(x:V)(xs:List V)(v:Value)(us:List Value)(Q:VK),Inv X ae U H s->RelV x v->Vals xs us->r x xs H Q ->
  wpAny (model X.prog X.w) X.A (call (.builtin id) (v::us)) (EP X ae U Q) X.xe s
theorem Vals.one:∀{x:V}{us:List Value},Vals [x] us->∃u,us=[u]/\RelV x u
 |_,_,.cons r .nil=>⟨_,rfl,r⟩
theorem Vals.zero:∀{us:List Value},Vals [] us->us=[]
 |_,.nil=>rfl
theorem Vals.dropLast(h:Vals xs us):Vals xs.dropLast us.dropLast:=by induction h with|nil=>exact .nil|cons r t ih =>cases t with|nil=>exact .nil|cons q t'=>exact .cons r ih
theorem Vals.reverse(h:Vals xs us):Vals xs.reverse us.reverse:=by induction h with|nil=>exact .nil|cons r t ih=>rw[uJ,uJ];exact Vals.append ih (.cons r .nil)
theorem Ny{α:Type}(l:List α):l.eraseIdx (l.length-1)=l.dropLast:=by
 induction l with
 |nil=>rfl
 |cons a r ih =>
  cases r with
  |nil=>rfl
  |cons b r =>
   have e:(a::b::r).length-1=((b::r).length-1)+1:=by have h1:(a::b::r).length=r.length+2:=rfl;have h2:(b::r).length=r.length+1:=rfl;omega
   rw[e,List.eraseIdx_cons_succ,ih]
   all_goals rfl
variable{ae:List (Addr×Obj)}{U:St}{H:Hp}{s:Shared}{l b:Addr}{xs ys zs:List V}
theorem Inv.Jal{ak aR:List Value}{n:Nat}{f:Array Value->Array Value}{t':Nat}(I:Inv X ae U H s)(hH:H l=some (.lst xs))
  (e:s.heap.get? l=some {cls:=.type "list",data:=.seq ak.toArray n}) (hf:f ak.toArray=aR.toArray) (hv:Vals ys aR) (hz:ys.length<=sizeLine) :
  Inv X ae U (upd H l (.lst ys)) {s with heap:=s.heap.update l (Obj.mapSeq f),toks:=t' }:=by
 have q:=PySem.IsL.update e f;rw[hf]at q;refine I.write (by rw[hH];exact trivial) (.inl rfl) (λb' u hb hu=>(tW s.heap (Obj.mapSeq f) (Ne.symm hb)).trans hu) ⟨_,q⟩ ?_;exact⟨hz,aR,_,hv,q⟩
theorem Inv.lnew(I:Inv X ae U H s)(hv:Vals ys ak)(hz:ys.length<=sizeLine):
  Inv X ae U (upd H s.heap.objs.size (.lst ys)) {s with heap:=s.heap.push {cls:=.type "list",data:=.seq ak.toArray},toks:=t' } :=
 I.laid (λ_ _ q=>sF _ q) (sV _) ⟨hz,ak,0,hv,sP _ rfl⟩
theorem Inv.fresh(I:Inv X ae U H s):H s.heap.objs.size=none:=I.zZ.fresh (sV _)
theorem Inv.VR(I:Inv X ae U H s)(hH:H l=some (.lst xs)):xs.length<=sizeLine/\∃(ak:List Value)(n:Nat),Vals xs ak/\xs.length=ak.length/\s.heap.get? l=some {cls:=.type "list",data:=.seq ak.toArray n}:=by obtain⟨z,ak,n,r,e⟩:=I.zZ l _ hH;exact⟨z,ak,n,r,r.length,e⟩
theorem Mf(h:n<=sizeLine):Builtin.List.listTooLong n=false:=by unfold Builtin.List.listTooLong;exact tB (by omega)
def Of:V->List V->Hp->VK->Prop:=λx vs H Q=>∃l xs y,x=.ref l/\vs=[y]/\H l=some (.lst xs)/\xs.length<sizeLine/\Q .v (upd H l (.lst (xs++[y])))
theorem Gr:MtM X "list.append" Of:=by intro ae s U H x vs v us Q I rx rv h;obtain⟨l,xs,y,rfl,rfl,hH,hz,q⟩:=h;cases rx;obtain⟨u,rfl,ru⟩:=rv.one;obtain⟨z,ak,n,r,hl,e⟩:=I.VR hH;refine call_meets F.slot_list_append ⟨_,e,rfl⟩ F.entry_list_append (F.args_list_append_2 _ _) (PySem.list_append l ak.toArray n u (by rw[sJ];omega)) ⟨e,?_⟩;refine⟨.v,_,I.Jal hH e (by simp) (r.append (.cons ru .nil)) ?_,rfl,q⟩;rw[tM,List.length_singleton];omega
def IB:V->List V->Hp->VK->Prop:=λx vs H Q=>∃l b xs zs,x=.ref l/\vs=[.ref b]/\H l=some (.lst xs)/\H b=some (.lst zs)/\xs.length+zs.length<=sizeLine/\Q .v (upd H l (.lst (xs++zs)))
theorem OL:MtM X "list.extend" IB:=by
 intro ae s U H x vs v us Q I rx rv h;obtain⟨l,b,xs,zs,rfl,rfl,hH,hB,hz,q⟩:=h;cases rx;obtain⟨u,rfl,ru⟩:=rv.one;cases ru;obtain⟨z,ak,n,r,hl,e⟩:=I.VR hH;obtain⟨z2,aI,n2,r2,bU,e2⟩:=I.VR hB;have hsz:ak.toArray.size+aI.toArray.size<=sizeLine:=by rw[sJ,sJ];omega
 have jP:¬(!ak.toArray.isEmpty&&Builtin.List.listTooLong (ak.toArray.size+aI.toArray.size))=true:=by rw[Mf hsz,Bool.and_false];exact tm
 refine call_meets F.slot_list_extend ⟨_,e,rfl⟩ F.entry_list_extend (F.args_list_extend_2 _ _)
  (AutoSeq1.list_extend_list_list_0 l ak.toArray n b aI.toArray n2 jP (by rw[sJ];omega) (by omega)) ⟨e,e2,?_⟩
 refine⟨.v,_,I.Jal (aR:=ak++aI) hH e (by simp) (r.append r2) ?_,rfl,q⟩;rw[tM];omega
def rPop:V->List V->Hp->VK->Prop:=λx vs H Q=>∃l xs y,x=.ref l/\vs=[]/\H l=some (.lst xs)/\xs[xs.length-1]?=some y/\Q y (upd H l (.lst xs.dropLast))
theorem YH:MtM X "list.pop" rPop:=by
 intro ae s U H x vs v us Q I rx rv h;obtain⟨l,xs,y,rfl,rfl,hH,hy,q⟩:=h;cases rx;have qQ:=rv.zero;subst qQ;obtain⟨z,ak,n,r,hl,e⟩:=I.VR hH;obtain⟨u,hu,ru⟩:=r.get hy;have qV:ak.toArray[ak.toArray.size-1]?=some u:=by show ak.toArray[ak.length-1]?=some u;rw[<- uL,<- hl];exact hu
 refine call_meets F.slot_list_pop ⟨_,e,rfl⟩ F.entry_list_pop (F.args_list_pop_1 _) (MeetsSeq.list_pop_last l ak.toArray n u qV (by rw[sJ];omega)) ⟨e,?_⟩;refine⟨y,_,I.Jal (aR:=ak.dropLast) hH e ?_ r.dropLast ?_,ru,q⟩
 .show ak.toArray.eraseIdxIfInBounds (ak.toArray.size-1)=ak.dropLast.toArray;rw[sJ,List.eraseIdxIfInBounds_toArray,Ny]
 .rw[List.length_dropLast];omega
def JbT:R2:=λx y H Q=>∃l b xs zs,x=.ref l/\y=.ref b/\H l=some (.lst xs)/\H b=some (.lst zs)/\xs.length+zs.length<=sizeLine/\∀p,H p=none->Q (.ref p) (upd H p (.lst (xs++zs)))
theorem Yw:OpR X (binaryOp .Add) JbT:=by
 intro ae s U H x y v u Q I rx ry h;obtain⟨l,b,xs,zs,rfl,rfl,hH,hB,hz,q⟩:=h;cases rx;cases ry;obtain⟨z,ak,n,r,hl,e⟩:=I.VR hH;obtain⟨z2,aI,n2,r2,bU,e2⟩:=I.VR hB;refine PySem.P.add_list e e2 ?_ (by rw[sJ,sJ];omega);have ea:ak.toArray++aI.toArray=(ak++aI).toArray:=by simp
 rw[ea];exact⟨.ref _,_,I.lnew (t':=s.toks) (r.append r2) (by rw[tM];omega),rfl,q _ I.fresh⟩
variable{prog:Program}{w:World}{A:Around}{E:Value->Shared->Prop}
set_option maxRecDepth 100000 in
section
variable{κ:Type}[DecidableEq κ]
def K0(ah:List (κ×V))(k:κ):Option V:=(ah.find? λkv=>decide (kv.1=k)).map (·.2)
def putK(ah:List (κ×V))(k:κ)(v:V):List (κ×V) :=
 if(ah.any λkv=>decide (kv.1=k))=true then ah.map (λkv=>if kv.1=k then(kv.1,v)else kv)else ah++[(k,v)]
theorem EB{p:κ×V}{r:List (κ×V)}{k:κ}(e:p.1=k):K0 (p::r) k=some p.2:=by simp[K0,uF,e]
theorem EC{p:κ×V}{r:List (κ×V)}{k:κ}(e:¬p.1=k):K0 (p::r) k=K0 r k:=by simp[K0,uF,e]
theorem LN(k:κ):∀ah:List (κ×V),(ah.any λkv=>decide (kv.1=k))=(K0 ah k).isSome
 | []=>rfl
 |p::r=>by
  rw[uG];by_cases e:p.1=k
  .simp only[EB e,tw e,Bool.true_or,Option.isSome_some]
  .rw[EC e,tB e,Bool.false_or];exact LN k r
theorem Ep(ah:List (κ×V))(k:κ)(v:V):(putK ah k v).length<=ah.length+1:=by
 unfold putK;split
 .rw[sH];omega
 .rw[tM,tj,List.length_nil];omega
theorem Ax.DT{o}(r:Ax o u):o.isSome=u.isSome:=by
 cases o with
 |none=>cases u with|none=>rfl|some _=>exact(show False from r).elim
 |some _=>cases u with|none=>exact(show False from r).elim|some _=>rfl
theorem KV.val{ah:List (κ×V)}{vs:List (κ×Value)}(r:KV ah vs)(k:κ):Ax (K0 ah k) (valueAt vs k):=by
 unfold KV at r
 induction r with
 |nil=>exact True.intro
 |@cons p q ps qs h t ih =>
  obtain⟨h1,h2⟩:=h;by_cases e:p.1=k
  .have e':q.1=k:=h1.symm.trans e;have b:valueAt (q::qs) k=some q.2:=by simp[valueAt,uF,e']
   rw[EB e,b];exact h2
  .have e':¬q.1=k:=λz=>e (h1.trans z)
   have b:valueAt (q::qs) k=valueAt qs k:=by simp[valueAt,uF,e']
   rw[EC e,b];exact ih
theorem KV.any{ah:List (κ×V)}{vs:List (κ×Value)}(r:KV ah vs)(k:κ):(ah.any λkv=>decide (kv.1=k))=vs.any λkv=>decide (kv.1=k):=by
 unfold KV at r
 induction r with|nil=>rfl|cons h t ih=>rw[uG,uG,ih,h.1]
theorem KV.JaM(r:KV ah vs)(k:κ)(ry:RelV y u):
  KV (ah.map λkv=>if kv.1=k then(kv.1,y)else kv) (vs.map λkv=>if kv.1=k then(kv.1,u)else kv):=by
 unfold KV at r ⊢
 induction r with
 |nil=>exact .nil
 |@cons p q ps qs h t ih =>
  rw[sG,sG];refine .cons ?_ ih;obtain⟨h1,h2⟩:=h;by_cases e:p.1=k
  .rw[if_pos e,if_pos (h1.symm.trans e)];exact⟨h1,ry⟩
  .rw[if_neg e,if_neg (λz=>e (h1.trans z))];exact⟨h1,h2⟩
theorem KV.put(r:KV ah vs)(k:κ)(ry:RelV y u):KV (putK ah k y) (stored vs k u):=by
 unfold putK stored;rw[r.any k];by_cases e:(vs.any λkv=>decide (kv.1=k))=true
 .rw[if_pos e,if_pos e];exact r.JaM k ry
 .rw[if_neg e,if_neg e];exact Paired.snoc r ⟨rfl,ry⟩
theorem KV.length(r:KV ah vs):ah.length=vs.length:=Paired.length r
end
theorem Ls(r:RelV (kV k) u):(Bd P w).is k u=true:=by cases k with|inl i=>obtain⟨t,e⟩:=(show ∃t,u=Value.int i t from r);subst e;exact Lm P w i t|inr x=>obtain⟨t,e⟩:=(show ∃t,u=Value.str x t from r);subst e;exact Ll P w x t
theorem J8:∀{ks:List Key}{us:List Value},Vals (ks.map kV) us->ItemsAre (Bd P w) ks us
 | [],_,r=>by rw[ud]at r;cases r;exact .nil
 |k::ks,_,r=>by rw[sG]at r;cases r with|cons h t=>exact .cons (Ls h) (J8 t)
abbrev KT(H:Hp):List (List Key×V)->List (List Key×Addr×Value)->Prop:=Paired λp q=>p.1=q.1/\H q.2.1=some (.tup (p.1.map kV))/\RelV p.2 q.2.2
theorem KT.val{ah:List (List Key×V)}{xs:List (List Key×Addr×Value)}(r:KT H ah xs)(k:List Key):Ax (K0 ah k) ((atKey xs k).map (·.2)):=by
 induction r with
 |nil=>exact True.intro
 |@cons p q ps qs h t ih =>
  obtain⟨h1,_,h2⟩:=h;by_cases e:p.1=k
  .have e':q.1=k:=h1.symm.trans e;have b:atKey (q::qs) k=some q.2:=by simp[atKey,uF,e']
   rw[EB e,b];exact h2
  .have e':¬q.1=k:=λz=>e (h1.trans z)
   have b:atKey (q::qs) k=atKey qs k:=by simp[atKey,uF,e']
   rw[EC e,b];exact ih
theorem KT.JaM{xs}(r:KT H ah xs)(k:List Key)(ry:RelV y u):
  KT H (ah.map λkv=>if kv.1=k then(kv.1,y)else kv) (xs.map (putAt k u)):=by
 induction r with
 |nil=>exact .nil
 |@cons p q ps qs h t ih =>
  rw[sG,sG];refine .cons ?_ ih;obtain⟨h1,h2,h3⟩:=h;unfold putAt;by_cases e:p.1=k
  .rw[if_pos e,if_pos (h1.symm.trans e)];exact⟨h1,h2,ry⟩
  .rw[if_neg e,if_neg (λz=>e (h1.trans z))];exact⟨h1,h2,h3⟩
theorem KT.put{ah:List (List Key×V)}{xs:List (List Key×Addr×Value)}(r:KT H ah xs)(k:List Key){y:V}{u:Value}(hb:H b=some (.tup (k.map kV)))(ry:RelV y u):
  KT H (putK ah k y) (storedH xs k b u):=by
 have e:(ah.any λkv=>decide (kv.1=k))=(atKey xs k).isSome:=by rw[LN,(r.val k).DT,Option.isSome_map]
 unfold putK storedH;rw[e];by_cases q:(atKey xs k).isSome=true
 .rw[if_pos q,if_pos q];exact r.JaM k ry
 .rw[if_neg q,if_neg q];exact Paired.snoc r ⟨rfl,hb,ry⟩
theorem KT.keeps{xs}(r:KT H ah xs)(ht:∀b ys,H b=some (.tup ys)->H' b=some (.tup ys)):KT H' ah xs :=
 Paired.Ja9 r λ_ _ z=>⟨z.1,ht _ _ z.2.1,z.2.2⟩
variable{P:Program}{h:Heap}{a:Addr}
theorem XT(ok:HOk P w H h)(e:Rd H a u):BJ P w H h a u:=e.ok ok
theorem Kq(ok:HOk P w H h)(e:Rd H a (.l ah)):ah.length<=sizeLine/\(a==sysModules)=false/\∃vs,KV ah vs/\h.DictOf (Bd P w) a vs :=
 show BJ P w H h a (.l ah)from XT ok e
theorem ZU(ok:HOk P w H h)(e:H a=some (.l ah)):ah.length<=sizeLine/\(a==sysModules)=false/\∃vs,KV ah vs/\h.DictOf (Bd P w) a vs:=Kq ok (.inl e)
theorem J6(ok:HOk P w H h)(e:H a=some (.tup (ks.map kV))):(tupleKind (Bd P w)).is h ks a:=by
 obtain⟨_,ak,r,o,h1,h2,n,h3⟩:=(show BJ P w H h a (.tup (ks.map kV))from ok a _ e)
 exact⟨o,ak.toArray,n,h1,h2,h3,by simpa using J8 r⟩
theorem Nz{ah:List (List Key×V)}(ok:HOk P w H h)(e:Rd H a (.dT ah)):ah.length<=sizeLine/\(a==sysModules)=false /\
  ∃xs,KT H ah xs/\h.DictOfH (tupleKind (Bd P w)) a xs:=by
 obtain⟨z,y,xs,r,o,es,ep,h1,h2,h3,h4,h5⟩:=(show BJ P w H h a (.dT ah)from XT ok e)
 refine⟨z,y,xs,r,o,es,ep,h1,h2,h3,h4,λx hx=>?_,h5⟩;have all:∀{l:List (List Key×V)}{m:List (List Key×Addr×Value)},KT H l m->∀x∈m,(tupleKind (Bd P w)).is h x.1 x.2.1:=by
  intro l m q
  induction q with
  |nil=>intro x hx;exact nomatch hx
  |@cons p q ps qs hq t ih =>
   intro x hx;rcases sQ.mp hx with e|hx
   .subst e;exact J6 ok (by rw[<- hq.1];exact hq.2.1)
   .exact ih x hx
 exact all r x hx
theorem JbB(ok:HOk P w H h)(e:H a=some (.dT ah)):ah.length<=sizeLine/\(a==sysModules)=false /\
  ∃xs,KT H ah xs/\h.DictOfH (tupleKind (Bd P w)) a xs:=Nz ok (.inl e)
def KW(H:Hp)(a:Addr)(y:V)(r:Option V):Prop :=
 (∃ah k,Rd H a (.l ah)/\y=kV k/\r=K0 ah k)\/∃ah k b,Rd H a (.dT ah)/\y=.ref b/\H b=some (.tup (k.map kV))/\r=K0 ah k
def NM(H:Hp)(a:Addr)(y v:V)(H':Hp):Prop :=
 (∃ah k,H a=some (.l ah)/\y=kV k/\ah.length<sizeLine/\H'=upd H a (.l (putK ah k v)))\/
 ∃ah k b,H a=some (.dT ah)/\y=.ref b/\H b=some (.tup (k.map kV))/\ah.length<sizeLine/\H'=upd H a (.dT (putK ah k v))
theorem KW.k{ah:List (Key×V)}{k:Key}(e:H a=some (.l ah)):KW H a (kV k) (K0 ah k):=.inl ⟨ah,k,.inl e,rfl,rfl⟩
theorem KW.t{ah:List (List Key×V)}{k:List Key}(e:H a=some (.dT ah))(eb:H b=some (.tup (k.map kV))):KW H a (.ref b) (K0 ah k):=.inr ⟨ah,k,b,.inl e,rfl,eb,rfl⟩
theorem NM.k{ah:List (Key×V)}{k:Key}{v:V}(e:H a=some (.l ah))(hl:ah.length<sizeLine):NM H a (kV k) v (upd H a (.l (putK ah k v))):=.inl ⟨ah,k,e,rfl,hl,rfl⟩
theorem NM.t{ah:List (List Key×V)}{k:List Key}{v:V}(e:H a=some (.dT ah))(eb:H b=some (.tup (k.map kV)))(hl:ah.length<sizeLine):
  NM H a (.ref b) v (upd H a (.dT (putK ah k v))):=.inr ⟨ah,k,b,e,rfl,eb,hl,rfl⟩
variable{y v:V}{u r:Value}{o:Option V}
theorem Inv.big(I:Inv X ae U H s):sysModules<s.heap.objs.size:=by have h:=(I.mod.glob.keeps I.bk).lt;exact um (by decide) h
theorem Ks(hu:A.units+1<cLine)(I:Inv X ae U H s)(g:KW H a y (some v))(ry:RelV y u)(h:∀w' s',Inv X ae U H s'->RelV v w'->Q w' s'):
  wpAny (model X.prog X.w) A (getItem (.ref a) u) Q E s:=by
 rcases g with⟨ah,k,e,ey,l⟩|⟨ah,k,b,e,ey,eb,l⟩
 .subst ey;obtain⟨z,hd,vs,aT,dd⟩:=Kq I.zZ e;obtain⟨w',hw,dM⟩:=Ax.some_of (by rw[l];exact aT.val k);exact wpAny_getItem_of (Ls ry) dd.mapOf hw (h w' _ (I.tok _) dM)
 .subst ey;cases(show u=Value.ref b from ry);obtain⟨z,hd,xs,aT,dd⟩:=Nz I.zZ e;obtain⟨w',hw,dM⟩:=Ax.some_of (by rw[l];exact aT.val k);obtain⟨p,hp,qJ⟩:=sR.mp hw;refine wpAny_getItem_heap (tupleKind_room_in1 hu) (J6 I.zZ eb) dd hp ?_;rw[qJ];exact h w' _ (I.tok _) dM
theorem d_in(hu:A.units+1<cLine)(I:Inv X ae U H s)(g:KW H a y o)(ry:RelV y u)(h:∀s',Inv X ae U H s'->Q (.bool o.isSome) s'):
  wpAny (model X.prog X.w) A (compareOp .In u (.ref a)) Q E s:=by
 rcases g with⟨ah,k,e,ey,l⟩|⟨ah,k,b,e,ey,eb,l⟩
 .subst ey;obtain⟨z,hd,vs,aT,dd⟩:=Kq I.zZ e;refine wpAny_in_of (Ls ry) hd dd.mapOf ?_;rw[<- (aT.val k).DT,<- l];exact h _ (I.tok _)
 .subst ey;cases(show u=Value.ref b from ry);obtain⟨z,hd,xs,aT,dd⟩:=Nz I.zZ e;refine wpAny_in_heap (tupleKind_room_in1 hu) (J6 I.zZ eb) hd dd ?_;have q:=(aT.val k).DT;rw[Option.isSome_map]at q;rw[<- q,<- l];exact h _ (I.tok _)
theorem WK(hu:A.units+1<cLine)(I:Inv X ae U H s)(g:KW H a y o)(ry:RelV y u)(h:∀s',Inv X ae U H s'->Q (.bool (!o.isSome)) s'):
  wpAny (model X.prog X.w) A (compareOp .NotIn u (.ref a)) Q E s:=by
 rcases g with⟨ah,k,e,ey,l⟩|⟨ah,k,b,e,ey,eb,l⟩
 .subst ey;obtain⟨z,hd,vs,aT,dd⟩:=Kq I.zZ e;refine wpAny_notIn_of (Ls ry) hd dd.mapOf ?_;rw[<- (aT.val k).DT,<- l];exact h _ (I.tok _)
 .subst ey;cases(show u=Value.ref b from ry);obtain⟨z,hd,xs,aT,dd⟩:=Nz I.zZ e;refine wpAny_notIn_heap (tupleKind_room_in1 hu) (J6 I.zZ eb) hd dd ?_;have q:=(aT.val k).DT;rw[Option.isSome_map]at q;rw[<- q,<- l];exact h _ (I.tok _)
theorem LG(I:Inv X ae U H s)(mu:Mut (H a))(hs:Heap.SameBut a s.heap h')(he:∃q,h'.get? a=some q)(new:BJ X.prog X.w (upd H a ob) h' a ob):
  Inv X ae U (upd H a ob) {s with heap:=h',toks:=t' } :=
 I.write mu (.inl rfl) (λb q hb z=>(hs.2 b hb).trans z) he new
theorem Uk(z:ah.length<=sizeLine)(hd:(a==sysModules)=false)(aT:KV ah vs)(dd:h'.DictOf (Bd P w) a vs):
  BJ P w H' h' a (.l ah):=⟨z,hd,vs,aT,dd⟩
theorem Kr{H':Hp}{Q:Unit->Shared->Prop}(hu:A.units+1<cLine)(I:Inv X ae U H s)(g:NM H a y v H')(ry:RelV y u)(rv:RelV v r)(h:∀s',Inv X ae U H' s'->Q () s'):
  wpAny (model X.prog X.w) A (setItem (.ref a) u r) Q E s:=by
 rcases g with⟨ah,k,e,ey,l,eH⟩|⟨ah,k,b,e,ey,eb,l,eH⟩
 .subst ey eH;obtain⟨z,hd,vs,aT,dd⟩:=ZU I.zZ e;have hz:vs.length<=sizeLine:=by rw[<- aT.length];exact z
  have hl:(putK ah k v).length<=sizeLine:=by have:=Ep ah k v;omega
  refine wpAny_setItem_pairs (hsz:=hz) (Ls ry) dd λh' iG hs=>h _ ?_
  have he:∃q,h'.get? a=some q:=let⟨q,_,_,hq,_⟩:=iG;⟨q,hq⟩;exact LG I (by rw[e];exact True.intro) hs he (Uk hl hd (aT.put k rv) iG)
 .subst ey eH;cases(show u=Value.ref b from ry);obtain⟨z,hd,xs,aT,dd⟩:=JbB I.zZ e;have hz:xs.length<=sizeLine:=by rw[<- Paired.length aT];exact z
  have hl:(putK ah k v).length<=sizeLine:=by have:=Ep ah k v;omega
  refine wpAny_setItem_heap (hsz:=hz) (tupleKind_room_in1 hu) (J6 I.zZ eb) dd λh' iG hs=>h _ ?_
  obtain⟨q,es,ep,hq,h2,h3,h4,_,h5⟩:=iG;refine LG I (by rw[e];exact True.intro) hs ⟨q,hq⟩ ⟨hl,hd,_,(aT.put k eb rv).keeps λc ys ec=>?_,q,es,ep,hq,h2,h3,h4,h5⟩;rw[Ap (Ja7 ec e (λz=>nomatch z))];exact ec
variable{ah:List (Key×V)}{k:Key}
theorem JbC(I:Inv X ae U H s)(e:Rd H a (.l ah))(h:∀t s',Inv X ae U H s'->Q (.int ah.length t) s'):wpAny (model X.prog X.w) A (call (.builtin "len") [.ref a]) Q E s:=by obtain⟨z,hd,vs,aT,dd⟩:=Kq I.zZ e;refine call_len_dict hd dd (by rw[<- aT.length];rw[sizeLine_eq]at z;omega) ?_;rw[<- aT.length];exact h _ _ (I.tok _)
def JbK(i:Expr):Prop:=∀ov iv,subscripted i false ov iv=operate [ov,iv] (getItem ov iv)
theorem UH{env:Env}{value aB:Expr}{id:String}{Q:Value->Shared->Prop}
  (hl:typeLookup (.type T) "__getitem__"=pure (some (.builtin id))) (hs:JbK aB)
  (h:wpAny (model prog w) A (eval value env) (λo ay=>wpAny (model prog w) A (eval aB env) (λi dh=>dh.TypeIs o T/\wpAny (model prog w) A (getItem o i) Q E dh) E ay) E s) :
  wpAny (model prog w) A (eval (.Subscript value aB pos) env) Q E s:=by
 refine Subscript_ (wpAny_mono h (λo ay aH=>wpAny_mono aH (λi dh gi=>?_) λ_ _ x=>x) λ_ _ x=>x);obtain⟨hT,gi⟩:=gi;unfold subscriptTail;refine sE ?_;rw[getitemInPython_of_ne hT.not_modules];refine sE (wpAny_specialOf hT hl ?_);have ba:wpAny (model prog w) A (subscripted aB false o i) (λr bx=>wpAny (model prog w) A (letTemporaryGo value o r >>= λ_=>pure r) Q E bx) E dh:=by rw[hs o i];exact wpAny_operating (wpAny_mono gi (λr bx fD=>sE (wpAny_letTemporaryGo (sM fD))) λ_ _ x=>x)
 first
  |exact sM (sE ba)
  |exact sE (sM (sE ba))
  |exact sE ba
theorem GR(I:Inv X ae U H s)(g:KW H a y o):s.TypeIs (.ref a) "dict":=by
 rcases g with⟨ah,k,e,_,_⟩|⟨ah,k,b,e,_,_,_⟩
 .obtain⟨_,_,vs,_,dd⟩:=Kq I.zZ e;exact dd.typeIs
 .obtain⟨_,_,xs,_,dd⟩:=Nz I.zZ e;exact dd.typeIs
def JaK(td ty:TE):TE:=λU H Q=>td U H λx H1=>ty U H1 λy H2=>∃a v,x=.ref a/\KW H2 a y (some v)/\Q v H2
def XJ(td ty tv:TE):TS:=λD U H=>tv U H λv H1=>td U H1 λx H2=>ty U H2 λy H3=>∃a H4,x=.ref a/\NM H3 a y v H4/\D.nx U H4
variable{o i value:Expr}{aU cf:Pos}{td ty tv:TE}
theorem Ve(hu:X.A.units+1<cLine)(ho:PE X o td)(hi:PE X i ty)(hs:JbK i):PE X (.Subscript o i pos) (JaK td ty):=by intro ae s U H Q I h;refine UH PySem.F.slot_dict_getitem.lookup hs (thn (ho ae s U H _ I h) λu s1 ⟨x,H1,I1,rx,q1⟩=>thn (hi ae s1 U H1 _ I1 q1) λiv s2 ⟨y,H2,I2,ry,a,v,ex,g,q2⟩=>?_);subst ex;obtain rfl:u=Value.ref a:=rx;exact⟨GR I2 g,Ks hu I2 g ry λw' s3 I3 dM=>⟨v,H2,I3,dM,q2⟩⟩
theorem K6(hu:X.A.units+1<cLine)(ho:PE X o td)(hi:PE X i ty)(hv:PE X value tv)(hs:swapsWith value (some (.Subscript o i aU)) pos.line X.env=pure false):
  PS X (.Assign [.Subscript o i aU] value pos) (XJ td ty tv):=by
 intro ae s U H D I h;refine wpAny_Assign_Subscript (thn (hv ae s U H _ I h) λr s1 ⟨v,H1,I1,rv,q1⟩=>thn (ho ae s1 U H1 _ I1 q1) λu s2 ⟨x,H2,I2,rx,q2⟩=>thn (hi ae s2 U H2 _ I2 q2) λiv s3 ⟨y,H3,I3,ry,a,H4,ex,g,q3⟩=>?_) hs;subst ex;obtain rfl:u=Value.ref a:=rx;exact Kr hu I3 g ry rv λs4 I4=>⟨U,H4,I4,q3⟩
theorem Mz(h:Heap)(hb:sysModules<h.objs.size):BJ P w H (h.push {cls:=.type "dict",data:=.dict #[]}) h.objs.size (.l []) :=
 ⟨uI _,beq_eq_false_iff_ne.mpr (Ne.symm (tD hb)),[],.nil,Heap.DictOf.new h⟩
def Xv:TE:=λ_ H Q=>∀p,H p=none->Q (.ref p) (upd H p (.l []))
theorem Mb:PE X (.Dict [] [] pos) Xv:=λae s U H Q I h =>wpAny_Dict_empty ⟨.ref s.heap.objs.size,_,I.laid (λ_ _ q=>sF _ q) (sV _) (Mz s.heap I.big),rfl,h _ (I.zZ.fresh (sV _))⟩
def NY:List (TE×TE)->St->Hp->(List (V×V)->Hp->Prop)->Prop
 | [],_,H,Q=>Q [] H
 |(tk,tv)::r,U,H,Q=>tk U H λx H1=>tv U H1 λy H2=>NY r U H2 λps H3=>Q ((x,y)::ps) H3
abbrev VV:List (V×V)->List (Value×Value)->Prop:=Paired λp q=>RelV p.1 q.1/\RelV p.2 q.2
def PPs(X:Cx)(pos:Pos)(dJ:List (Option Expr))(values:List Expr)(iE:List (TE×TE)):Prop :=
 ∀(ae:List (Addr×Obj))(s:Shared)(U:St)(H:Hp)(Q:List (V×V)->Hp->Prop),Inv X ae U H s->NY iE U H Q ->
  wpAny (model X.prog X.w) X.A (evalPairs (pairTrees dJ values X.env pos)) (λvs s'=>∃ps H',Inv X ae U H' s'/\VV ps vs/\Q ps H') X.xe s
theorem U1:PPs X pos [] [] []:=λae s U H Q I h=>pairTrees_nil_walk ⟨[],H,I,.nil,h⟩
theorem L7{k}{v}(hk:PE X k tk)(hv:PE X v tv)(hr:PPs X pos ks vs iE):
  PPs X pos (some k::ks) (v::vs) ((tk,tv)::iE):=λae s U H Q I h =>
 pairTrees_cons_walk (thn (hk ae s U H _ I h) λu s1 ⟨x,H1,I1,rx,q1⟩=>thn (hv ae s1 U H1 _ I1 q1) λw2 s2 ⟨y,H2,I2,ry,q2⟩ =>thn (hr ae s2 U H2 _ I2 q2) λws s3 ⟨ps,H3,I3,aT,q3⟩=>⟨(x,y)::ps,H3,I3,.cons ⟨rx,ry⟩ aT,q3⟩)
def Gu(ah more:List (Key×V)):List (Key×V):=more.foldl (λax kv=>putK ax kv.1 kv.2) ah
theorem KV.merge:∀{more:List (Key×V)}{rs:List (Key×Value)}{ah:List (Key×V)}{vs:List (Key×Value)},KV more rs->KV ah vs->KV (Gu ah more) (merged vs rs):=by
 intro more rs ah vs r;unfold KV at r
 induction r generalizing ah vs with
 |nil=>intro q;exact q
 |@cons p q ps qs h t ih =>
  intro r0;have e:KV (putK ah p.1 p.2) (stored vs q.1 q.2):=by have:=r0.put p.1 h.2;rw[<- h.1];exact this
  exact ih e
theorem EH:∀(more ah:List (Key×V)),(Gu ah more).length<=ah.length+more.length
 | [],ah=>by show ah.length<=ah.length+0;omega
 |p::r,ah=>by have h1:=EH r (putK ah p.1 p.2);have h2:=Ep ah p.1 p.2;show(Gu (putK ah p.1 p.2) r).length<=_;rw[tj];omega
theorem Ih:∀{ah:List (Key×V)}{ws:List (Value×Value)},VV (ah.map λkv=>(kV kv.1,kv.2)) ws->∃rs,Carries (Bd P w) ws rs/\KV ah rs
 | [],_,r=>by rw[ud]at r;cases r;exact⟨[],True.intro,.nil⟩
 |p::ah,_,r=>by rw[sG]at r;cases r with|@cons a b as bs h t =>obtain⟨rs,c,q⟩:=Ih t;obtain⟨b1,b2⟩:=b;exact⟨(p.1,b2)::rs,⟨Ls h.1,rfl,c⟩,.cons ⟨rfl,h.2⟩ q⟩
def JaJ(iE:List (TE×TE)):TE:=λU H Q=>∀p,H p=none->NY iE U (upd H p (.l [])) λps H2=>H2 p=some (.l [])/\∃ah:List (Key×V),ps=ah.map (λkv=>(kV kv.1,kv.2))/\ah.length<=15/\Q (.ref p) (upd H2 p (.l (Gu [] ah)))
theorem Vd{dJ:List (Option Expr)}{values:List Expr}{iE:List (TE×TE)}(h:PPs X pos dJ values iE)(eB:dJ.all (·.isSome)=true)(hl:dJ.length=values.length)(h0:dJ≠[])
  (qd:dJ.length<=15):PE X (.Dict dJ values pos) (JaJ iE):=by
 intro ae s U H Q I q;have hn:=I.zZ.fresh (sV s.heap.objs.size);have I1:=I.laid (a:=s.heap.objs.size) (o:=.l []) (h':=s.heap.push {cls:=.type "dict",data:=.dict #[]}) (t':=s.toks) (λ_ _ q=>sF _ q) (sV _) (Mz s.heap I.big);refine wpAny_Dict_walk (knd:=Bd X.prog X.w) eB hl h0 qd (thn (h ae _ U _ _ I1 (q _ hn)) λws s2 ⟨ps,H2,I2,aT,e,ah,ep,lk,q2⟩=>?_);subst ep;obtain⟨rs,c,rk⟩:=Ih (P:=X.prog) (w:=X.w) aT;obtain⟨z,hd,kN,r0,dd⟩:=ZU I2.zZ e;cases r0;refine⟨rs,c,dd,λh' iG hs=>⟨.ref s.heap.objs.size,_,?_,rfl,q2⟩⟩;have hz:(Gu [] ah).length<=sizeLine:=by have h1:=EH ah [];rw[List.length_nil]at h1;rw[sizeLine_eq];omega
 have he:∃q,h'.get? s.heap.objs.size=some q:=let⟨q,_,_,hq,_⟩:=iG;⟨q,hq⟩;exact LG I2 (by rw[e];exact True.intro) hs he (Uk hz hd (rk.merge .nil) iG)
def IsD(H:Hp)(a:Addr):Prop:=(∃ah,Rd H a (.l ah))\/∃ah,Rd H a (.dT ah)
theorem YW(I:Inv X ae U H s)(d:IsD H a):
  s.TypeIs (.ref a) "dict"/\(∀b,Value.ref a=.ref b->∃ob,s.heap.get? b=some ob/\ob.dict=none)/\(a==sysModules)=false:=by
 rcases d with⟨ah,e⟩|⟨ah,e⟩
 .obtain⟨_,hd,vs,_,dd⟩:=Kq I.zZ e;refine⟨dd.typeIs,λb q=>?_,hd⟩;cases q;obtain⟨ob,_,_,h1,h2,_⟩:=dd;exact⟨ob,h1,h2.2.1⟩
 .obtain⟨_,hd,xs,_,dd⟩:=Nz I.zZ e;refine⟨dd.typeIs,λb q=>?_,hd⟩;cases q;obtain⟨ob,_,_,h1,h2,_⟩:=dd;exact⟨ob,h1,h2.2.1⟩
variable{d:V}{o:Option V}
variable{o f:Expr}{tx:TE}
end L2
namespace Att
open PySem PySem.W PySem.Calls PyProof.Rows
theorem GD:∀(ns:List Int)(vs:List Value),WellAll P h vs (ns.map WData.int)->IntsAre vs ns:=by
 intro ns
 induction ns with|nil =>intro vs w;rw[ud]at w;cases w;exact .nil|cons n ns ih =>intro vs w;rw[sG]at w;cases w with|cons a b =>cases a;exact .cons _ _ (ih _ b)
theorem Oa{l:OpenLaw}{n:Nat}(hn:l.most=some n){P:Params}{h:Heap}{args:List WData}{vals:List Value}
  (fw:l.row.toRowW.claim.pre args=true) (jX:WellAll P h vals args) :
  ∃a vs ns,vals=[Value.ref a]/\args=[WData.list (ns.map WData.int)]/\h.get? a=some {cls:=.type "list",data:=.seq vs.toArray}/\IntsAre vs ns/\ns.length<=n:=by
 have qL:WShape.hasAll [] args [.list .int]=true:=(pre_splitW fw).1;have hc:l.pre.holds [] {args:=args}=true:=(pre_splitW fw).2;obtain⟨d,r,rfl,h1,h2⟩:=hasAllW_cons qL;obtain rfl:=hasAllW_nil h2;obtain⟨xs,rfl,h3⟩:=hasW_list h1;obtain⟨ns,rfl⟩:=items_int h3;have hlen:ns.length<=n:=by
  unfold OpenLaw.pre at hc;have h4:(WTm.not (.lt (.lit (.int (n:Int))) (.len (.arg 0)))).holds [] {args:=[.list (ns.map .int)]}=true:=by have h4:=(holds_andW hc).1;rw[hn]at h4;exact h4
  have h5:=condW_of h4 (w_not (w_lt w_lit (w_len_list (w_arg rfl))));rw[sH]at h5;refine Nat.le_of_not_lt λq=>?_
  have q':(n:Int)<((ns.length:Nat):Int):=by omega
  first
   |(rw[tw q']at h5;exact absurd h5 (by decide))
   |(simp at h5;omega)
 cases jX with|cons w1 w2 =>cases w2;cases w1 with|list ho eB=>exact⟨_,_,ns,rfl,rfl,ho,GD ns _ eB,hlen⟩
theorem Ol(l:OpenLaw)(args:List WData):l.row.toRowW.claim.post args (.bool true) args=true :=
 postW_of
  (show WShape.has [] (.bool true) .bool=true by first|rfl|decide|simp[WShape.has,WShape.arms,WShape.armsAll])
  (show(WTm.eq .res (.lit (.bool true))).value [] {args:=args,res:=some (.bool true),after:=args}=some (.bool (true==true))from w_eq_bool (w_res rfl) w_lit) rfl
variable{prog:Program}{w:World}{A:Around}{E:Value->Shared->Prop}{s:Shared}{K:Frag}
end Att
namespace L2
open PySem PySem.Spec PyProof.Rows
theorem Jw:∀{vs:List Value}{ns:List Int},IntsAre vs ns->Vals (ns.map V.int) vs
 |_,_,.nil=>.nil
 |_,_,.cons n t h=>.cons ⟨t,rfl⟩ (Jw h)
def Jat(H:Hp):Prop:=∀b,H b=none\/∃o xs,H b=some (.frz o (.lst xs))
theorem RD{P:Program}{w:World}{K:Fg}{mg mb:Str->Option Value}{CX:CXT}{k:Nat}{fa a:Addr}{fd:FuncData}{x:Str}{sp:Sp}{ay:Shared}{vs:List Value}{ns:List Int}
  (KX:K.In ay.heap) (m9:ay.heap.Ns mainGlobals mg) (hb:ay.heap.Ns builtinsNs mb) (qi:∀x:Str,x≠"__name__"->mb x=bootBuiltins x) (lH:ay.heap.NoLimit) (hg:ay.gens=#[])
  (ha:ay.heap.get? a=some {cls:=.type "list",data:=.seq vs.toArray}) (hi:IntsAre vs ns) (hl:ns.length<=sizeLine) (hr:DK k callerA)
  (F:∀base:Heap,K.In base->base.Ns mainGlobals mg->EY P w K mg base CX k fa fd [x] sp) (jC:∀(s:Shared)(u:Value),BindsTo s fd ⟨[u],[]⟩ [(x,u)])
  (gE:∀H:Hp,Jat H->SqL K H a (ns.map V.int)->sp [.ref a] H (λv _=>v=.o true) λ_ _ _=>False)
  (jx:∀H e s',CX [] H ay (λ_ _ _=>False) e s'->False) :
  codeAny (model P w) callerA (.call (.ref fa) ⟨[.ref a],[]⟩) (λr s'=>r=.ok (.ret (.bool true))/\OldK ay.heap s'.heap/\s'.os=ay.os/\AllBare s'.gens) ay:=by
 have rv:=Jw hi;have l7:=hi.length;have core:∀H:Hp,Jat H->SqL K H a (ns.map V.int)->HOk P w H ay.heap->(∀b,H b≠none->b=a)->(H a≠none->K.lookup a=none) ->
   codeAny (model P w) callerA (.call (.ref fa) ⟨[.ref a],[]⟩) (λr s'=>r=.ok (.ret (.bool true))/\OldK ay.heap s'.heap/\s'.os=ay.os/\AllBare s'.gens) ay:=by
  intro H hO hS zZ hA hK;have eV:∀{b:Addr}{o:Obj},ay.heap.get? b=some o->H b=none->(RS ay.heap H).get? b=some o:=λe n=>RQ e n
  have j9:∀{b:Addr}{o:Obj}{es:Array DictEntry}{ep:Nat},ay.heap.get? b=some o->o.data=.dict es ep->H b=none:=λ{b o es ep} e d=>by cases q:H b with|none=>rfl|some u =>have e':b=a:=hA b (by rw[q];simp);subst e';rw[ha]at e;cases e;have d':Data.seq vs.toArray _=Data.dict es ep:=d;cases d'
  have kJ:∀{b:Addr}{m:Str->Option Value},ay.heap.Ns b m->(RS ay.heap H).Ns b m:=λ{b m} ⟨o,es,ep,e,d,r⟩=>⟨o,es,ep,eV e (j9 e d),d,r⟩
  have mV:K.In (RS ay.heap H):=λb o e=>eV (KX b o e) (by cases q:H b with|none=>rfl|some u =>have e':b=a:=hA b (by rw[q];simp);subst e';rw[hK (by rw[q];simp)]at e;cases e)
  have hM:Mod K mg (RS ay.heap H):=⟨mV,kJ m9,⟨mb,kJ hb,qi⟩,let⟨mc,h1,h2⟩:=lH;⟨mc,kJ h1,h2⟩⟩
  have e0:W9 P w K mg (RS ay.heap H) callerA [] ay H:=⟨rfl,hM,λb o e=>Vu e,Nat.le_of_eq (Pe _ _),trivial,λb hb=>absurd (show b∈([]:List Addr)from hb) (by simp),zZ,.of_eq hg⟩
  refine codeAny_mono ((F _ mV (kJ m9)).run callerA [] ay H ⟨[.ref a],[]⟩ [.ref a] [.ref a] _ _ hr e0 (jC ay (.ref a)) (.cons rfl .nil) (gE H hO hS)) λr s' h=>?_
  cases r with
  |error e=>exact(jx H e s' h).elim
  |ok fl =>
   cases fl with
   |next=>exact False.elim h
   |brk=>exact False.elim h
   |cont=>exact False.elim h
   |ret u =>
    obtain⟨v,H',os,bare,un,lN,r',q⟩:=h;have q':v=.o true:=q;subst q';obtain rfl:u=Value.bool true:=r';refine⟨rfl,OldK.of_keep λb o e=>?_,os,bare⟩;cases q:H b with
    |none=>exact un.keep b o e q (by intro z;exact absurd (show b∈([]:List Addr)from z) (by simp)) (by simp)
    |some u =>
     rcases hO b with z|⟨ob,xs,z⟩
     .rw[q]at z;cases z
     .have z2:=un.zL b ob _ z;obtain⟨e1,_⟩:=zZ b _ z;obtain⟨e2,_⟩:=lN b _ z2;rw[e]at e1;cases e1;exact e2
 cases hk:K.lookup a with
 |some o =>have e:=KX a o hk;rw[ha]at e;cases e;refine core (λ_=>none) (λ_=>.inl rfl) (.inr ⟨_,vs.toArray,_,hk,rfl,rfl,rfl,by rw[sJ,l7];exact hl,by simpa using rv⟩) (λb u z=>by have z':(none:Option HO)=some u:=z;cases z') (λb z=>absurd rfl z) λz=>absurd rfl z
 |none =>
  refine core (λb=>if b=a then some (.frz {cls:=.type "list",data:=.seq vs.toArray} (.lst (ns.map V.int)))else none) (λb=>?_) (.inl (.inr ⟨{cls:=.type "list",data:=.seq vs.toArray},if_pos rfl⟩)) (λb u z=>?_) (λb z=>?_) λ_=>hk
  .by_cases hb:b=a
   .exact .inr ⟨_,_,if_pos hb⟩
   .exact .inl (if_neg hb)
  .by_cases hb:b=a
   .have z':=(if_pos hb).symm.trans z;cases z';subst hb;exact⟨ha,by rw[sH];exact hl,vs,_,rv,ha⟩
   .have z':=(if_neg hb).symm.trans z;cases z'
  .by_cases hb:b=a
   .exact hb
   .exact absurd (if_neg hb) z
def inClass(s:Stmt)(j:Nat):Stmt:=match s with|.ClassDef _ _ _ body _ _ _ _ _ _ _=>body.getD j (.Pass ⟨0,0,0,0⟩)|_=>.Pass ⟨0,0,0,0⟩
def GU(s:Stmt):Arguments:=match s with|.FunctionDef _ a _ _ _ _ _ _ _ _=>a|_=>{posonlyargs:=[],args:=[],vararg:=none,kwonlyargs:=[],kw_defaults:=[],kwarg:=none,defaults:=[]}
def Et(s:Stmt):List Stmt:=match s with|.FunctionDef _ _ b _ _ _ _ _ _ _=>b|_=>[]
def Bz(s:Stmt):Scope:=match s with|.FunctionDef _ _ _ _ _ _ sc _ _ _=>sc|_=>{kind:=.function,names:=[],isGenerator:=false,isCoroutine:=false}
abbrev E0:XK:=λ_ _ _=>False
structure Fun(K:Fg)(x qual:Str)(st:Stmt)(f:Addr)(fd:FuncData):Prop where
 ex:∃(oc:Value)(od:Option Addr)(kV di pm:Value)(an:Option Addr)(aV ct:Value)(iC:Array (Option Value)),
  fd=fnOf x qual (GU st) (Et st) (Bz st) .none kV di pm an aV ct/\K.lookup f=some ⟨oc,od,.func fd,iC⟩/\codeIn K aV qual=true
 kp:keepIn K (.ref f)=true
variable{P:Program}{w:World}{K:Fg}{mg:Str->Option Value}{base:Heap}
theorem Fun.binds{x qual:Str}{st:Stmt}{f:Addr}{fd:FuncData}{ps:List Str}(F:Fun K x qual st f fd)
  (h:∀(kV di pm:Value)(an:Option Addr)(aV ct:Value)(us:List Value),us.length=ps.length->bindArgs (fnOf x qual (GU st) (Et st) (Bz st) .none kV di pm an aV ct) ⟨us,[]⟩=pure (ps.zip us)):Binds K fd ps []:=by
 obtain⟨oc,od,kV,di,pm,an,aV,ct,iC,rfl,lk,fq⟩:=F.ex;exact .all (h kV di pm an aV ct)
theorem AO{x qual:Str}{st:Stmt}{f:Addr}{oc:Value}{od an:Option Addr}{iC:Array (Option Value)}{kV di pm aV ct:Value}(l:K.lookup f=some ⟨oc,od,.func (fnOf x qual (GU st) (Et st) (Bz st) .none kV di pm an aV ct),iC⟩)
  (c:codeIn K aV qual=true) (k:keepIn K (.ref f)=true):Fun K x qual st f (fnOf x qual (GU st) (Et st) (Bz st) .none kV di pm an aV ct):=⟨⟨oc,od,kV,di,pm,an,aV,ct,iC,rfl,l,c⟩,k⟩
theorem Y2(hr:DK k A):A.units+1<cLine:=Nat.lt_of_le_of_lt (Nat.add_le_add_left (by decide:1<=64) _) hr.units
variable{X:Cx}
theorem pv(i:Nat)(hN:X.N[i]?=some x:=by rfl)(hv:Vis X.env.scope x:=by first|exact Or.inl rfl|exact Or.inr (Or.inl rfl)|exact Or.inr (Or.inr rfl))(hd:(x==("__debug__":Str))=false:=by decide)
  (fq:(x==("__classdict__":Str))=false:=by decide):PE X (.Name x pos) (JA i):=Yc hN hv hd fq
section
variable{κ:Type}[DecidableEq κ]
end
theorem Eu:∀(l:List (Str×NameKind))(cs:List (Str×Addr)),(∀y∈l,y.2=.free->∃c,env.cells.lookup y.1=some c)->(∀n c,cs.lookup n=some c->env.cells.lookup n=some c) ->
  ∃cl,(forIn l cs λ(x:Str×NameKind)(r:List (Str×Addr))=>match x with|(name,kind)=>if(kind==NameKind.free)=true then do let c <- cellOf env name;pure (ForInStep.yield ((name,c)::r))else pure (ForInStep.yield r))=(pure cl:Sem _) /\
   (∀n c,cl.lookup n=some c->env.cells.lookup n=some c)/\(∀y∈l,y.2=.free->∃c,cl.lookup y.1=some c)/\(∀n c,cs.lookup n=some c->∃c',cl.lookup n=some c')
 | [],cs,_,h2=>⟨cs,rfl,h2,(λ_ h=>nomatch h),λn c h=>⟨c,h⟩⟩
 |(n,k)::r,cs,h1,h2=>by
  by_cases e:k=.free
  .subst e;obtain⟨c,hc⟩:=h1 (n,.free) tL rfl;have e1:cellOf env n=(pure c:Sem _):=by unfold cellOf;rw[hc]
   obtain⟨cl,q1,q2,q3,q4⟩:=Eu r ((n,c)::cs) (λy hy=>h1 y (sN _ hy)) (λn' c' q=>by rw[tX]at q;cases hb:n'==n with|true=>rw[hb]at q;cases q;rw[beq_iff_eq.mp hb];exact hc|false=>rw[hb]at q;exact h2 _ _ q);have iz:=q4 n c (by simp);refine⟨cl,?_,q2,λy hy hf=>?_,λn' c' q=>?_⟩
   .rw[ux];simp only[beq_self_eq_true,if_true,e1,pure_bind];exact q1
   .rcases sQ.mp hy with rfl|hy
    .exact iz
    .exact q3 y hy hf
   .by_cases hb:n'=n
    .subst hb;exact iz
    .exact q4 n' c' (by rw[tX,beq_eq_false_iff_ne.mpr hb];exact q)
  .obtain⟨cl,q1,q2,q3,q4⟩:=Eu r cs (λy hy=>h1 y (sN _ hy)) h2;refine⟨cl,?_,q2,λy hy hf=>?_,q4⟩
   .rw[ux];have hb:(k==NameKind.free)=false:=by simpa using e
    simp only[hb,tY,if_false,pure_bind];exact q1
   .rcases sQ.mp hy with rfl|hy
    .exact absurd hf e
    .exact q3 y hy hf
theorem ES(h:∀y∈sc.names,y.2=.free->∃c,env.cells.lookup y.1=some c):
  ∃cl,closureFor sc env=pure cl/\(∀n c,cl.lookup n=some c->env.cells.lookup n=some c)/\(∀y∈sc.names,y.2=.free->∃c,cl.lookup y.1=some c):=by
 obtain⟨cl,q1,q2,q3,_⟩:=Eu sc.names [] h (λn c q=>by simp at q);refine⟨cl,?_,q2,q3⟩;unfold closureFor;simp only[bind_pure];refine Eq.trans ?_ q1;congr 1
variable{prog:Program}{A:Around}{R:Result->Shared->Prop}{s:Shared}
theorem Kv(I:Nat->Shared->Prop)
  (turn:∀n s,I n s->wpAny (model prog w) A (pyNext it) (λr ay=>match r with
   |none=>R (.ok .next) ay
   |some v=>wpAny (model prog w) A (letOwnedTupleGo target it v) (λ_ ay=>wpAny (model prog w) A (assign target env v) (λ_ dh =>
     wpAny (model prog w) A (forIn cF true λc r=>if r=true then do let ok <- isTrue c env (eval c env);pure (ForInStep.yield ok)else pure (ForInStep.yield r)) (λok bx =>
      if ok=true then wpAny (model prog w) A (eval dk env) (λx hU =>wpAny (model prog w) A (call (.builtin "list.append") [ax,x]) (λ_ kl=>∃m,m<n/\I m kl) (λ_ _=>False) hU) (λ_ _=>False) bx
      else ∃m,m<n/\I m bx) (λ_ _=>False) dh) (λ_ _=>False) ay) (λ_ _=>False) ay) (λ_ _=>False) s)
  (n:Nat) (h:I n s) :
  codeAny (model prog w) A (.compLoop (.ListComp dk [⟨target,az,cF,0⟩] scope pos) 0 it ax env) R s:=by
 refine codeAny_loop rfl I (λn s hI=>?_) n h;refine wpAny_noted ?_;rw[compTurn_list];refine sE (wpAny_standAt (sE (wpAny_mono (turn n s hI) (λr ay aH=>?_) λ_ _ h'=>h'.elim)));cases r with|none=>exact sM aH|some v =>refine sE (wpAny_mono aH (λ_ nU jZ=>?_) λ_ _ h'=>h'.elim);refine sE (wpAny_mono jZ (λ_ dh gi=>sE (wpAny_mono gi (λok bx fD=>?_) λ_ _ h'=>h'.elim)) λ_ _ h'=>h'.elim);cases ok with|false=>exact sM ⟨rfl,fD⟩|true =>exact sE (sE (wpAny_mono fD (λx hU lX=>sE (wpAny_mono lX (λ_ kl lY=>sM (sM ⟨rfl,lY⟩)) λ_ _ h'=>h'.elim)) λ_ _ h'=>h'.elim))
structure MM(fn sc:Scope):Prop where
 kind:sc.kind=.function
 yS:∀y∈sc.names,y.2≠.cell
 loc:∀y∈sc.names,y.2=.local->sc.names.lookup y.1=some .local
 fr:∀y∈sc.names,y.2=.free->fn.names.lookup y.1=some .cell\/fn.names.lookup y.1=some .free
def Ib(fn sc:Scope):Bool :=
 decide (sc.kind=.function)&&sc.names.all λy=>decide (y.2≠.cell)&&(decide (y.2≠.local)||decide (sc.names.lookup y.1=some .local)) &&
  (decide (y.2≠.free)||decide (fn.names.lookup y.1=some .cell)||decide (fn.names.lookup y.1=some .free))
theorem Ku(h:Ib fn sc=true):MM fn sc:=by
 unfold Ib at h;rw[tH,ub]at h;obtain⟨h1,h2⟩:=h;refine⟨tJ h1,λy hy=>?_,λy hy e=>?_,λy hy e=>?_⟩
 all_goals
  have q:=h2 y hy;rw[tH,tH]at q;obtain⟨⟨q1,q2⟩,q3⟩:=q
 .exact tJ q1
 .rw[uH]at q2;rcases q2 with q|q
  .exact absurd e (tJ q)
  .exact tJ q
 .rw[uH,uH]at q3;rcases q3 with(q|q)|q
  .exact absurd e (tJ q)
  .exact .inl (tJ q)
  .exact .inr (tJ q)
theorem C9{env:Env}:∀{names:List (Str×NameKind)},
  (names.map λ(n,k)=>if(k==NameKind.free&&env.scope.kind==.function&&env.kindOf n==some .cell)then(n,NameKind.cell)else(n,k)).lookup x=some k'->∃k,names.lookup x=some k/\(k'=k\/(k=.free/\k'=.cell))
 | [],h=>by simp at h
 |(n,k)::r,h=>by
  have h:List.lookup x ((if(k==NameKind.free&&env.scope.kind==.function&&env.kindOf n==some .cell)=true then(n,NameKind.cell)else(n,k))::_)=some k':=h;cases hx:x==n with
  |true =>
   refine⟨k,by simp[tX,hx],?_⟩;by_cases hc:(k==NameKind.free&&env.scope.kind==.function&&env.kindOf n==some .cell)=true
   .rw[if_pos hc]at h;simp only[tX,hx]at h;cases h;rw[tH,tH]at hc;exact .inr ⟨beq_iff_eq.mp hc.1.1,rfl⟩
   .rw[if_neg hc]at h;simp only[tX,hx]at h;cases h;exact .inl rfl
  |false =>
   obtain⟨k0,e1,e2⟩:=C9 (by
    by_cases hc:(k==NameKind.free&&env.scope.kind==.function&&env.kindOf n==some .cell)=true
    .rw[if_pos hc]at h;simpa only[tX,hx]using h
    .rw[if_neg hc]at h;simpa only[tX,hx]using h)
   exact⟨k0,by simp only[tX,hx];exact e1,e2⟩
def B5(X:Cx)(N:List Str)(sc:Scope)(cl:List (Str×Addr))(C:Addr)(s:Shared)(H:Hp)(ex:List Addr):Cx :=
 {X with N:=N,zV:=s,y0:=H,env:=compEnvC sc cl C X.env,outer:=X.stack,stack:=X.stack,ex:=ex,fn:=λ_=>false,xe:=λ_ _=>False}
def Fh(XN:List Str)(sc:Scope):List Str->List (Option Nat)->Bool
 | [],[]=>true
 |n::r,none::q=>Fh XN sc r q
 |n::r,some i::q=>decide (XN[i]?=some n)&&decide (sc.names.lookup n=some .free)&&Fh XN sc r q
 |_,_=>false
def FF(U:St)(src:List (Option Nat)):St:=src.map λo=>o.bind λi=>(U[i]?).join
theorem GZ:∀{N:List Str}{src:List (Option Nat)},Fh XN sc N src=true->src.length=N.length
 | [],[],_=>rfl
 |_::r,none::q,h=>by rw[tj,tj,GZ (src:=q) h]
 |_::r,some i::q,h=>by unfold Fh at h;rw[tH]at h;rw[tj,tj,GZ h.2]
 | [],_::_,h=>by cases h
 |_::_,[],h=>by cases h
theorem Ky:∀{N:List Str}{src:List (Option Nat)}{j i:Nat}{n:Str},Fh XN sc N src=true->N[j]?=some n->src[j]?=some (some i)->XN[i]?=some n/\sc.names.lookup n=some .free
 | [],_,j,i,n,_,h1,_=>by simp at h1
 |_::_,[],j,i,n,_,_,h2=>by simp at h2
 |n0::r,o::q,0,i,n,h,h1,h2=>by simp at h1 h2;subst h1;subst h2;unfold Fh at h;rw[tH,tH]at h;exact⟨tJ h.1.1,tJ h.1.2⟩
 |n0::r,o::q,j+1,i,n,h,h1,h2=>by refine Ky ?_ (by simpa using h1) (by simpa using h2);cases o with|none=>exact h|some k =>unfold Fh at h;rw[tH]at h;exact h.2
variable{ae:List (Addr×Obj)}{U:St}{H:Hp}{fp:List Addr}{N:List Str}{sc:Scope}{cl:List (Str×Addr)}{C:Addr}{src:List (Option Nat)}
theorem Z3(I:Inv X ae U H s)(hf:∀b∈fp,KS X ae H b)(iM:∀b∈fp,b<s.heap.objs.size)(hS:MM X.env.scope sc)(hC:s.heap.objs.size<=C)
  (eC:∀n c,cl.lookup n=some c->X.env.cells.lookup n=some c) (dr:∀y∈sc.names,y.2=.free->∃c,cl.lookup y.1=some c):(B5 X N sc cl C s H fp).Ok where
 mod:=I.ok.mod
 kind:=hS.kind
 glob:=I.ok.glob
 blt:=I.ok.blt
 above:=hC
 inj:=λx y c h1 h2=>I.ok.inj x y c (eC _ _ h1) (eC _ _ h2)
 has:=λx hx=>by
  have free:∀k',(k'=NameKind.cell\/k'=NameKind.free)->(relabel sc X.env).names.lookup x=some k'->∃c,cl.lookup x=some c:=λk' hk e=>by
   obtain⟨k,e1,e2⟩:=C9 e;have hm:=PySem.mem_of_lookup e1;exact dr _ hm (by
    rcases e2 with e2|⟨e2,_⟩
    .subst e2;rcases hk with hk|hk
     .exact absurd hk (hS.yS _ hm)
     .exact hk
    .exact e2)
  rcases hx with hx|hx
  .exact free _ (.inl rfl) hx
  .exact free _ (.inr rfl) hx
 yY:=λx c h _=>absurd (show false=true from h) tm
 hd:=I.ok.hd
 frames:=I.ok.frames
 yQ:=.inl rfl
 yM:=λb hb=>⟨tD (sT (iM b hb) hC),λx c e=>(hf b hb).2.2.2.2.1 x c (eC x c e)⟩
 bs:=I.bs
 zo:=tK I.ok.zo I.sz
 zi:=λb o e hb=>by
  rcases(hf b hb).2.2.2.1 with z|z
  .exact I.ok.zi b o e z
  .exact absurd (sT (sO e) (tK I.ok.zo z)) (tZ _)
 zm:=λb hb hz=>by
  rcases sQ.mp (I.JC b hz)with z|z
  .exact(hf b hb).2.1 z
  .exact(hf b hb).2.2.1 z
 Mt:=I.stack
 zb:=I.K1
theorem WX(I:Inv X ae U H s)(hf:∀b∈fp,KS X ae H b)(iM:∀b∈fp,b<s.heap.objs.size)(hS:MM X.env.scope sc)
  (eC:∀n c,cl.lookup n=some c->X.env.cells.lookup n=some c) (dr:∀y∈sc.names,y.2=.free->∃c,cl.lookup y.1=some c) (bN:Fh X.N sc N src=true)
  (hD:s.heap.objs.size<=D) (hC:s.heap.objs.size<=C) (kq:D≠C) (hk:∀b o,s.heap.get? b=some o->h'.get? b=some o) (hn:h'.Ns C m) (hl:h'.get? D=some {cls:=.type "list",data:=.seq (#[]:Array Value)}) :
  Inv (B5 X N sc cl C s H fp) ae (FF U src) (upd H D (.lst [])) {s with heap:=h',toks:=tk}:=by
 have old:∀{b:Addr}{o:Obj},s.heap.get? b=some o->b≠D/\b≠C:=λ{b o} e=>⟨tD (sT (sO e) hD),tD (sT (sO e) hC)⟩
 refine⟨Z3 I hf iM hS hC eC dr,rfl,I.bare,Un.laid hk hD (I.zZ.fresh hD),⟨m,hn,λj x v e1 e2 e3=>?_⟩,λx c e=>?_,?_,λx c e=>?_,λp hp=>?_,I.zZ.laid hk hD ⟨uI _,[],0,.nil,hl⟩,?_⟩
 .unfold FF at e2;rw[tO]at e2;cases q:src[j]? with
  |none=>rw[q]at e2;cases e2
  |some o =>
   rw[q]at e2;cases o with
   |none=>cases e2
   |some i =>
    have jo:(U[i]?).join=some v:=Option.some.inj e2;obtain⟨g1,g2⟩:=Ky bN e1 q;obtain⟨m0,_,qw⟩:=I.loc;have iq:=hS.fr _ (PySem.mem_of_lookup g2) rfl;obtain⟨u,ru,lk⟩:=qw i x v g1 (by cases r:U[i]? with|none=>rw[r]at jo;cases jo|some u=>rw[r]at jo;cases u with|none=>cases jo|some u=>have e5:=jo;cases e5;rfl) (iq.elim (λz=>.inr (.inl z)) λz=>.inr (.inr z));refine⟨u,ru,.inr ⟨?_,?_⟩⟩
    .rcases e3 with e3|e3|e3
     .obtain⟨k,r1,r2⟩:=C9 (show(relabel sc X.env).names.lookup x=some .local from e3);rw[g2]at r1;cases r1;rcases r2 with r2|⟨_,r2⟩<;>cases r2
     .exact .inl e3
     .exact .inr e3
    .obtain⟨c,hc⟩:=dr _ (PySem.mem_of_lookup g2) rfl;refine⟨c,hc,?_⟩;rcases lk with⟨lk,_⟩|⟨_,c',ku,z⟩
     .rcases iq with z|z
      .have z':X.env.kindOf x=some .cell:=z;rw[lk]at z';cases z'
      .have z':X.env.kindOf x=some .free:=z;rw[lk]at z';cases z'
     .have:=eC _ _ hc;rw[ku]at this;cases this;obtain⟨o,ho,hd⟩:=z;exact⟨o,hk _ _ ho,hd⟩
 .obtain⟨v,o,ho,hd⟩:=I.cell x c (eC x c e);exact⟨v,o,hk _ _ ho,hd⟩
 .show upd H D (.lst []) C=none;rw[Ap (Ne.symm kq)];exact(I.zZ.fresh hC)
 .obtain⟨v,o,ho,hd⟩:=I.cell x c (eC x c e);rw[Ap (old ho).1];exact I.zS x c (eC x c e)
 .obtain⟨p1,p2,p3,p4,p5⟩:=I.pin p hp;refine⟨hk _ _ p1,by rw[Ap (old p1).1];exact p2,(old p1).2,λz=>?_,p5⟩;rcases sQ.mp (I.JC _ z)with z|z
  .exact p3 z
  .exact p4 z
 .show(FF U src).length=N.length;unfold FF;rw[sH];exact GZ bN
def Uu(X:Cx)(cF:List Expr)(t:TT):Prop :=
 ∀(ae:List (Addr×Obj))(s:Shared)(U:St)(H:Hp)(Q:Bool->Hp->Prop),Inv X ae U H s->t U H Q ->
  wpAny (model X.prog X.w) X.A (forIn cF true λc r=>if r=true then do let ok <- isTrue c X.env (eval c X.env);pure (ForInStep.yield ok)else pure (ForInStep.yield r)) (TP X ae U Q) X.xe s
def Jcb:TT:=λ_ H Q=>Q true H
theorem Q7:Uu X [] Jcb:=λae s U H Q I h=>sM ⟨H,I,h⟩
theorem Q6(h:PT X c t):Uu X [c] t:=by intro ae s U H Q I q;rw[ux];simp only[if_true];refine sE (sE (thn (h ae s U H Q I q) λb s1 q1=>sM ?_));exact sM q1
def ZW(J:It)(g:TG)(tt:TT)(te:TE)(Q:VK)(mD:St)(H1:Hp):Prop:=∀D,H1 D=none ->
 ∃W:Nat->Nat->St->Hp->Prop,(∃m,W 0 m mD (upd H1 D (.lst [])))/\∀i m τ H2,W i m τ H2 ->
  (J.stop i H2/\Q (.ref D) H2)\/(J.go i H2/\∃N:St->Hp->Prop,(∀kO H',N kO H'->∃m',m'<m/\W (i+1) m' kO H')/\∀x H3,J.yL i H2 x H3->g x τ H3 λdQ H4=>tt dQ H4 λb H5 =>if b=true then te dQ H5 λy H6=>∃ys,H6 D=some (.lst ys)/\ys.length<sizeLine/\N dQ (upd H6 D (.lst (ys++[y])))else N dQ H5)
def UD(src:List (Option Nat))(wi:TI)(g:TG)(tt:TT)(te:TE):TE:=λU H Q=>wi U H λJ H1=>ZW J g tt te Q (FF U src) H1
variable{tg az dk:Expr}{cF:List Expr}{pos:Pos}{wi:TI}{g:TG}{tt:TT}{te:TE}
theorem MB(bu:X.calm=true)(hS:MM X.env.scope sc)(bN:Fh X.N sc N src=true)
  (hg:∀cl C s H fp,PG (B5 X N sc cl C s H fp) tg g) (ht:∀cl C s H fp,Uu (B5 X N sc cl C s H fp) cF tt) (he:∀cl C s H fp,PE (B5 X N sc cl C s H fp) dk te)
  {RR:Value->Addr->Result->Shared->Prop}
  (eC:∀n c,cl.lookup n=some c->X.env.cells.lookup n=some c) (dr:∀y∈sc.names,y.2=.free->∃c,cl.lookup y.1=some c)
  (I:Inv X ae U H s) (T:Turn X.prog X.w X.K tg J fp it tn) (t0:tn 0 s.heap) (hf:∀b∈fp,KS X ae H b) (hw:ZW J g tt te Q (FF U src) H)
  (hR:∀(D C:Addr)(s':Shared)(τ:St)(H':Hp)(m:Str->Option Value),s.heap.objs.size<=C->s'.heap.Ns C m->Inv (B5 X N sc cl C s H fp) ae τ H' s'->(∀b∈fp,H' b=none)->Q (.ref D) H'->RR (.ref D) C (.ok .next) s') :
  wpAny (model X.prog X.w) X.A (newList []) (λax bx=>wpAny (model X.prog X.w) X.A (newFunctionEnv sc X.env.globals cl [] X.env.qual none .none (some X.env)) (λjl hU =>codeAny (model X.prog X.w) X.A (.compStart (.ListComp dk [⟨tg,az,cF,0⟩] sc pos) 0 (.ref it) ax {jl with scope:=relabel sc X.env}) (RR ax jl.locals) hU) E bx) E s:=by
 have iM:∀b∈fp,b<s.heap.objs.size:=λb hb=>by obtain⟨o,e,_⟩:=T.obj 0 _ t0 b hb;exact sO e
 refine wpAny_newObj_type (wpAny_newFunctionEnv hS.yS (by intro y hy;simp at hy) (λaH eG cZ=>?_) hS.kind);dsimp only at eG cZ ⊢;generalize hH2:s.heap.push {cls:=.type "list",dict:=none,data:=.seq ([]:List Value).toArray}=H2 at eG cZ ⊢;have hC:H2.objs.size=s.heap.objs.size+1:=by rw[<- hH2,ue]
 have kq:s.heap.objs.size≠H2.objs.size:=by rw[hC];exact tD (Nat.lt_succ_self _)
 have gK:s.heap.objs.size<=H2.objs.size:=by rw[hC];exact Nat.le_succ _
 have old:=λb o e=>cZ.extBut b o (tD (sT (sO e) gK)) (sF _ (hH2▸sF _ e))
 obtain⟨W,⟨m0,w0⟩,turn⟩:=hw s.heap.objs.size (I.zZ.fresh (sV _));have Y0:Inv (B5 X N sc cl H2.objs.size s H fp) ae (FF U src) (upd H s.heap.objs.size (.lst [])) {s with heap:=aH,toks:=s.toks+([]:List (Str×Value)).length} :=
  WX I hf iM hS eC dr bN (sV _) gK kq old eG (cZ.extBut _ _ kq (sF _ (hH2▸sP _ rfl)))
 have t1:tn 0 aH:=T.keep 0 _ _ t0 λb _ o e=>old b o e
 have eS:∀{H':Hp},(∀b∈fp,H' b=none)->∀b∈fp,KS (B5 X N sc cl H2.objs.size s H fp) ae H' b:=λ{H'} hn b hb =>⟨hn b hb,tD (sT (iM b hb) gK),Y0.ok.zm b hb,.inl hb,(Y0.ok.yM b hb).2,(hf b hb).2.2.2.2.2⟩
 have loop:∀bx:Shared,bx={s with heap:=aH,toks:=s.toks+([]:List (Str×Value)).length} ->
   codeAny (model X.prog X.w) X.A (.compLoop (.ListComp dk [⟨tg,az,cF,0⟩] sc pos) 0 (.ref it) (.ref s.heap.objs.size) (compEnvC sc cl H2.objs.size X.env)) (RR (.ref s.heap.objs.size) H2.objs.size) bx:=by
  rintro bx rfl
  refine Kv (λn s'=>∃i τ H',Inv (B5 X N sc cl H2.objs.size s H fp) ae τ H' s'/\tn i s'.heap/\(∀b∈fp,H' b=none)/\W i n τ H') ?_ m0 ⟨0,_,_,Y0,t1,(λb hb=>by
  rw[Ap (tD (iM b hb))];exact(hf b hb).1),w0⟩
  rintro n s4 ⟨i,τ,H4,I4,t4,fr4,w4⟩
  rcases turn i n τ H4 w4 with⟨stop,qn⟩|⟨go,Nx,hNx,step⟩
  .refine thn (T.done (B5 X N sc cl H2.objs.size s H fp) rfl rfl rfl bu i ae s4 τ H4 _ I4 (eS fr4) t4 stop) λr s5 ⟨hr,I5⟩=>?_
   subst hr;obtain⟨m5,qC,_⟩:=I5.loc;exact hR _ _ s5 τ H4 m5 gK qC I5 fr4 qn
  .refine thn (T.item (B5 X N sc cl H2.objs.size s H fp) rfl rfl rfl bu i ae s4 τ H4 _ I4 (eS fr4) t4 go) λr s5 ⟨u,hr,h5⟩=>?_
   subst hr;refine thn h5 λ_ s6 ⟨x,H6,I6,r6,y6,st6,fr6⟩=>?_
   have again:∀{hV:St}{H7:Hp}{s7:Shared}{m':Nat},Inv (B5 X N sc cl H2.objs.size s H fp) (ae++JO fp s6.heap) hV H7 s7->m'<n->W (i+1) m' hV H7 ->
     ∃m,m<n/\∃i τ H',Inv (B5 X N sc cl H2.objs.size s H fp) ae τ H' s7/\tn i s7.heap/\(∀b∈fp,H' b=none)/\W i m τ H':=λ{hV H7 s7 m'} I7 hm w7=>by
    refine⟨m',hm,i+1,hV,H7,I7.FH,T.keep _ _ _ st6 λb hb o e=>(I7.pin (b,o) (sU _ (sU _ (Eb hb e)))).1,λb hb=>?_,w7⟩;obtain⟨o,e,d⟩:=T.obj _ _ st6 b hb;exact(I7.pin (b,o) (sU _ (sU _ (Eb hb e)))).2.1
   refine thn (hg cl H2.objs.size s H fp _ s6 τ H6 x u _ (I6.pinned (eS fr6) (T.obj _ _ st6)) r6 (step x H6 y6)) λ_ s7 ⟨hV,H7,I7,q7⟩=>?_
   refine thn (ht cl H2.objs.size s H fp _ s7 hV H7 _ I7 q7) λb s8 ⟨H8,I8,q8⟩=>?_
   cases b with
   |false =>rw[if_neg tm]at q8 ⊢;obtain⟨m',hm,w8⟩:=hNx _ _ q8;exact again I8 hm w8
   |true =>
    rw[if_pos rfl]at q8 ⊢;refine thn (he cl H2.objs.size s H fp _ s8 hV H8 _ I8 q8) λv s9 ⟨y,H9,I9,r9,ys,hD9,hz,w9⟩=>?_
    obtain⟨m',hm,w9⟩:=hNx _ _ w9;refine thn (Gr _ s9 hV H9 (.ref s.heap.objs.size) [y] (.ref s.heap.objs.size) [v] (λ_ Hn=>W (i+1) m' hV Hn) I9 rfl (.cons r9 .nil) ⟨_,ys,y,rfl,rfl,hD9,hz,w9⟩) λ_ s10 ⟨_,H10,I10,_,w10⟩=>?_
    exact again I10 hm w10
 exact codeAny_compStart_list (loop _ rfl) (T.self X.A 0 _ _ _ t1 (loop _ rfl))
theorem Qg(I:Inv X ae U H s)(hf:∀b∈fp,KS X ae H b)(J:Inv (B5 X N sc cl C s H fp) ae τ H' s'):Inv X ae U H' s' :=
 I.Z2 J.os J.base J.zZ J.bare λb hb=>⟨(hf b hb).2.2.2.1,(hf b hb).2.1,(hf b hb).2.2.2.2.1,(hf b hb).2.2.2.2.2⟩
theorem WW(I:Inv X ae U H s)(hC:s.heap.objs.size<=C)(hf:∀b∈fp,KS X ae H b)
  (J:Inv (B5 X N sc cl C s H fp) ae τ H' s') (hs:Heap.SameBut C s'.heap h'):Inv X ae U H' {s' with heap:=h' }:=by
 refine(Qg I hf J).turned (λb o hb e=>hs.extBut b o hb e) J.free (Nat.ne_of_gt (sT I.lt hC)) (.inr (tK I.sz hC)) (λx c e z=>?_) λp hp z=>?_
 .obtain⟨v,q⟩:=I.cell x c e;exact absurd (sT q.lt (by rw[z];exact hC)) (tZ _)
 .exact absurd (sT (sO (I.pin p hp).1) (by rw[z];exact hC)) (tZ _)
theorem Vf(N:List Str)(src:List (Option Nat))(bu:X.calm=true)(hi:PI X tg az wi)(hg:∀cl C s H fp,PG (B5 X N sc cl C s H fp) tg g)(ht:∀cl C s H fp,Uu (B5 X N sc cl C s H fp) cF tt)
  (he:∀cl C s H fp,PE (B5 X N sc cl C s H fp) dk te) (hS:Ib X.env.scope sc=true:=by rfl) (bN:Fh X.N sc N src=true:=by rfl)
  (hs:∀x,foldedSetIterable az X.env x=pure x:=by intro _;rfl):PE X (.ListComp dk [⟨tg,az,cF,0⟩] sc pos) (UD src wi g tt te):=by
 intro ae s U H Q I h;have S:=Ku hS;obtain⟨cl,ll,eC,dr⟩:=ES λy hy e=>I.ok.has y.1 (S.fr y hy e)
 rw[eval_ListComp];refine wpAny_comprehension_free rfl hs ll S.kind S.loc (thn (hi ae s U H _ I h) λv s1 h1=>thn h1 λkD s2 h2=>?_);obtain⟨it,fp,tn,J,H2,e,I2,T,t2,f2,hw⟩:=h2;subst e;refine MB bu S bN hg ht he eC dr I2 T t2 f2 hw λD C s' τ H' m hC hn J' _ q=>?_
 exact⟨m,hn,λh' bB=>⟨.ref D,H',WW I2 hC f2 J' bB,rfl,q⟩⟩
theorem MZ{i:Nat}{y:Str}{aU hJ:Pos}(N:List Str)(src:List (Option Nat))(bu:X.calm=true)(hN:X.N.Nodup)(lB:X.N[i]?=some y)(hy:Loc X.env.scope y)(hi:PI X tg az wi)(hg:∀cl C s H fp,PG (B5 X N sc cl C s H fp) tg g)(ht:∀cl C s H fp,Uu (B5 X N sc cl C s H fp) cF tt)
  (he:∀cl C s H fp,PE (B5 X N sc cl C s H fp) dk te) (hS:Ib X.env.scope sc=true:=by rfl) (bN:Fh X.N sc N src=true:=by rfl)
  (hs:∀x,foldedSetIterable az X.env x=pure x:=by intro _;rfl) (lS:swapsWith (.ListComp dk [⟨tg,az,cF,0⟩] sc pos) (some (.Name y aU)) hJ.line X.env=pure true:=by rfl)
  (hf:X.fn y=true\/X.env.scope.names.lookup y=some .local:=by first|exact .inl rfl|exact .inr rfl|assumption) :
  PS X (.Assign [.Name y aU] (.ListComp dk [⟨tg,az,cF,0⟩] sc pos) hJ) (Xy (UD src wi g tt te) (Se i)):=by
 intro ae s U H D0 I h;have S:=Ku hS;obtain⟨cl,ll,eC,dr⟩:=ES (sc:=sc) (env:=X.env) λy hy e=>I.ok.has y.1 (S.fr y hy e)
 rw[exec_Assign_Name_used _ _ _ _ lS];refine sE (wpAny_standAt (sE ?_));show wpAny _ X.A (do let _ <- comprehension (.ListComp dk [⟨tg,az,cF,0⟩] sc pos) sc X.env _ (newList []) false (eval az X.env) (some (assign (.Name y aU) X.env))) _ _ s;refine sE (wpAny_mono (wpAny_comprehension_free (use:=some (assign (.Name y aU) X.env)) (Q:=λ_ s'=>SP X ae D0 .next s') rfl hs ll S.kind S.loc
  (thn (hi ae s U H _ I h) λv s1 h1=>thn h1 λkD s2 h2=>?_)) (λ_ s' hq=>sM (sM hq)) λ_ _ e=>e)
 obtain⟨it,fp,tn,J,H2,e,I2,T,t2,f2,hw⟩:=h2;subst e;refine MB bu S bN hg ht he eC dr I2 T t2 f2 hw (RR:=λax C=>compPost (model X.prog X.w) X.A X.xe (some (assign (.Name y aU) X.env)) (λ_ s'=>SP X ae D0 .next s') ax C) λD C s' τ H' m hC hn J' _ q=>?_
 show wpAny _ X.A (assign (.Name y aU) X.env (.ref D)) _ _ s';have nC:∀{b:Addr}{o:Obj},s2.heap.get? b=some o->b≠C:=λe=>tD (sT (sO e) hC)
 have cC:∀x c,X.env.cells.lookup x=some c->c≠C:=λx c e=>by obtain⟨v,o,ho,_⟩:=I2.cell x c e;exact nC ho
 have lC:X.env.locals≠C:=tD (sT I2.lt hC);refine wpAny_assign_Name (JB (Qg I2 f2 J') hN lB hy (v:=.ref D) rfl (λs3 I3 ⟨a,sb,ha⟩=>?_) hf);refine⟨m,hn.sameBut sb (by
  rcases ha with rfl|ha
  .exact Ne.symm lC
  .exact Ne.symm (cC _ _ ha)),λh' aZ=>⟨_,H',I3.turned (it:=C) (t':=s3.toks) (λb o hb e=>aZ.extBut b o hb e) J'.free (Ne.symm lC) (.inr (tK I2.sz hC)) cC (λp hp z=>nC (I2.pin p hp).1 z),q⟩⟩
variable{a:Addr}{xs:List V}{Q:VK}{mD:St}{H1:Hp}
end L2
namespace PySem
namespace F
theorem OG:typeLookup (.type "list_reverseiterator") "__len__"=pure none:=by rw[typeLookup_type,builtinLookup_eq_fast];kernel_rfl
theorem RN:typeLookup (.type "list_reverseiterator") "__length_hint__"=pure (some (.builtin "list_reverseiterator.__length_hint__")):=by rw[typeLookup_type,builtinLookup_eq_fast];kernel_rfl
end F
variable{prog:Program}{w:World}{A:Around}{s:Shared}{R:Result->Shared->Prop}
variable{I:Addr}{fp wr:List Addr}{G:Array GenState->Array GenState->Prop}{n:Nat}{P:Nat->Value->Prop}{St:Nat->Shared->Prop}
theorem FC(W:WalksS prog w A.in1 I fp wr G n P St)(hT:∀i s,St i s->s.TypeIs (.ref I) "list_reverseiterator")(S:Addr)(res:Value)(c₀:Nat)(bK:St 0 s)(jA:S∉fp)(hI:I∈fp)
  (hS:s.heap.get? S=some {cls:=.type "list",data:=.seq #[] c₀})
  (hR:∀s' bA c',Moved (S::wr) G s s'->s'.heap.get? S=some {cls:=.type "list",dict:=none,data:=.seq bA c',slots:=#[]}->ItemsOf P bA n->R (.ok (.ret res)) s') (hn:n<=sizeLine) :
  wpAny (model prog w) A.in1 (Builtin.List.listExtendWith (.ref S) (.ref I) res)
   (λba s'=>match ba with|.done f=>R (.ok f) s'|.again c'=>c'.quiet=true/\codeAny (model prog w) A c' R s') (λe s'=>R (.error e) s') s:=by
 have fS:S≠I:=λe=>jA (e▸hI)
 unfold Builtin.List.listExtendWith;refine sE (wpAny_typeOf (hT 0 _ bK) ?_);have h1:Builtin.List.listSameRef (.ref S) (.ref I)=false:=by simp[Builtin.List.listSameRef,fS]
 have h2:(Value.type "list_reverseiterator"==Value.type "list")=false:=by decide
 have h3:(Value.type "list_reverseiterator"==Value.type "tuple")=false:=by decide
 simp only[h1,h2,h3,Bool.or_false,tY,if_false];refine sE (W.self 0 _ _ _ bK ?_);refine sE (wpAny_holding ?_);unfold Builtin.List.listLengthHint;refine sE (wpAny_specialOf (hT 0 _ bK) F.OG ?_);refine sE (wpAny_specialOf (hT 0 _ bK) F.RN ?_);generalize hid:("list_reverseiterator.__length_hint__":String)=id0
 wp_delta
 rw[show splitId id0=some ("list_reverseiterator","__length_hint__")from by subst hid;decide +kernel];subst hid;refine sE (wpAny_isInstance (b:=true) (hT 0 _ bK) (by rw[isSubtype_type];kernel_rfl) ?_);refine sM ?_;rw[if_neg (by decide)];refine sM ⟨plainId_quiet F.plain_extend_loop _,codeAny_extend_loopS W hn _ jA _ n 0 _ _ _ rfl (uI _) bK hS (ItemsOf.nil P) λs' bA c' hm eA cX=>?_⟩;exact hR s' bA c' hm eA cX
theorem Em(W:WalksS prog w A.in1 I fp wr G n P St)(hT:∀i s,St i s->s.TypeIs (.ref I) "list_reverseiterator")(S:Addr)(bK:St 0 s)(jA:S∉fp)(hI:I∈fp)
  (hS:s.heap.get? S=some {cls:=.type "list",data:=.seq #[]})
  (hR:∀s' bA c',Moved (S::wr) G s s'->s'.heap.get? S=some {cls:=.type "list",dict:=none,data:=.seq bA c',slots:=#[]}->ItemsOf P bA n->R (.ok (.ret .none)) s') (hn:n<=sizeLine) :
  wpAny (model prog w) A.in1 (Builtin.«list.__init__» ⟨[.ref S,.ref I],[]⟩)
   (λba s'=>match ba with|.done f=>R (.ok f) s'|.again c'=>c'.quiet=true/\codeAny (model prog w) A c' R s') (λe s'=>R (.error e) s') s:=by
 refine sE ?_;unfold Builtin.List.listItems;refine sE (wpAny_seqItems hS rfl (sM ?_));refine sE (wpAny_updateSeq hS rfl ?_);have zX:∀b o,b≠S->s.heap.get? b=some o->(s.heap.update S (Obj.mapSeq (λ_=>(#[]:Array Value)))).get? b=some o :=
  λb o hb e=>(tW _ _ (Ne.symm hb)).trans e
 refine sE (wpAny_letGo ?_);refine FC (hn:=hn) W hT S .none _ (W.frame 0 s _ s.toks bK (sV _) λb hb o e=>zX b o (λh=>jA (h▸hb)) e) jA hI (t6 (Obj.mapSeq (λ_=>(#[]:Array Value))) hS rfl) λs' bA c' hm eA cX=>?_
 exact hR s' bA c' (Moved.trans W.gtrans ((Moved.refl W.grefl).then_heap (sV _) λb o hb e=>zX b o (λh=>hb (h▸tL)) e) hm) eA cX
variable{E:Value->Shared->Prop}
theorem Fi(hh:A.handled=none)(bV:l≠it)(bc:s.heap.IsRevIter it l ((items.size:Int)-1))(hl:s.heap.IsList l items)(hz:items.size<=sizeLine)
  (hQ:∀h' tk bA c',(∀b o,b≠it->s.heap.get? b=some o->h'.get? b=some o) ->
   h'.get? s.heap.objs.size=some {cls:=.type "list",dict:=none,data:=.seq bA c',slots:=#[]}->ItemsOf (λi v=>items[items.size-1-i]?=some v) bA items.size->Q (.ref s.heap.objs.size) {s with heap:=h',toks:=tk}) :
  wpAny (model prog w) A (call (.type "list") [.ref it]) Q E s:=by
 refine callType_codes (Q₁:=λobj ay=>obj=.ref s.heap.objs.size/\ay={s with heap:=s.heap.push {cls:=.type "list",data:=.seq #[]} }) F.called_list (F.typeCall_list_1 _) F.entry_list_init
  (code_list_new _ ⟨rfl,rfl⟩) λobj ay aH=>?_
 obtain⟨rfl,rfl⟩:=aH;have hS:(s.heap.push {cls:=.type "list",data:=.seq #[]}).get? s.heap.objs.size=some {cls:=.type "list",data:=.seq #[]}:=sP _ rfl;have e0:(items.size:Int)-1-((0:Nat):Int)=(items.size:Int)-1:=by simp
 refine⟨⟨_,hS,rfl⟩,F.args_list_init_2 _ _,Em ((Walks.listRev (prog:=prog) (w:=w) (A:=A.in1.in1) hh it l bV items).toS) (λi s' st=>?_) _ ?_ ?_ (by simp) hS (λs' bA c' hm eA cX=>?_) hz⟩
 .exact st.2.1.typeIs
 .refine⟨uI _,?_,hl.push _⟩;rw[e0];exact bc.at λo e=>sF _ e
 .intro hm;rcases sQ.mp hm with e|hm
  .exact absurd (by obtain⟨o,e,_⟩:=bc;exact sO e) (by rw[e];exact tZ _)
  .exact absurd (by obtain⟨o,e,_⟩:=hl;exact sO e) (by rw[sZ.mp hm];exact tZ _)
 .rw[Moved.eq_with hm]at eA ⊢;refine⟨rfl,hQ s'.heap s'.toks bA c' (λb o hb e=>hm.heap b o (λiQ=>?_) (sF _ e)) eA cX⟩;rcases sQ.mp iQ with e'|iQ
  .exact absurd (sO e) (by rw[e'];exact tZ _)
  .exact hb (sZ.mp iQ)
end PySem
namespace L2
open PySem PySem.Spec PyProof.Rows
variable{X:Cx}{ae:List (Addr×Obj)}{U:St}{H:Hp}{s:Shared}
theorem Inv.P2(I:Inv X ae U H s)(hf:KS X ae H it)(hd:s.heap.objs.size<=d)(k:∀b o,b≠it->s.heap.get? b=some o->h'.get? b=some o)
  (hz:ys.length<=sizeLine) (r:Vals ys ak) (e:h'.get? d=some {cls:=.type "list",data:=.seq ak.toArray n}):Inv X ae U (upd H d (.lst ys)) {s with heap:=h',toks:=t' }:=by
 obtain⟨f0,f1,f2,f3,f4,f5⟩:=hf;have fd:=I.zZ.fresh hd;have gm:∀{b:Addr}{u:HO},H b=some u->b≠it:=λ{b u} e z=>by rw[z,f0]at e;cases e
 refine I.step (ch:=[it]) (λb hb=>?_) (λb o _ _ hc e _=>k b o (λz=>hc (by simp[z])) e) (λb o _ _ hc e _=>⟨o.slots,k b o (λz=>hc (by simp[z])) e⟩)
  (λb o _ e n=>by rw[Ap (tD (sT (sO e) hd))];exact n) (λb o hc e=>⟨o,k b o (λz=>hc (by simp[z])) e⟩) (λb xs e=>by rw[Ap (AZ e fd)];exact e) (λb o u e=>by rw[Ap (AZ e fd)];exact e)
  (λb ps e=>⟨#[],by rw[Ap (AZ e fd),e];simp⟩) (λm hm=>?_) (λb u e=>?_) I.bare
 .have e:=by simpa using hb
  subst e;exact⟨f3,f1,f4,f5⟩
 .obtain⟨o,es,ep,ho,r⟩:=hm;exact⟨o,es,ep,k _ o (Ne.symm f1) ho,r⟩
 .by_cases hb:b=d
  .subst hb;rw[As]at e;cases e;exact⟨hz,ak,n,r,‹_›⟩
  .rw[Ap hb]at e;refine(I.zZ b u e).N7 (λc v hc q=>k c v ?_ q) (λc q=>by rw[Ap (AZ q fd)];exact q) λc xs q=>by rw[Ap (AZ q fd)];exact q
   rcases hc with z|z
   .rw[z];exact gm e
   .exact gm z
theorem Qz(r:Vals ys ak)(h:ItemsOf (λi v=>ak.toArray[ak.toArray.size-1-i]?=some v) ax ak.toArray.size):Vals ys.reverse ax.toList:=by
 have e:ax.toList=ak.reverse:=by
  apply List.ext_getElem?;intro i;obtain⟨h1,h2⟩:=h;have hs:ak.toArray.size=ak.length:=by simp
  by_cases hi:i<ak.length
  .have ha:ax[i]?=some (ax[i]'(by omega)):=by simp
   rw[List.getElem?_reverse (by omega)];have q':=by simpa using (h2 i _ ha)
   rw[q'];simp
  .rw[ua (by simp;omega),ua (by simp;omega)]
 rw[e];exact r.reverse
variable{a:Expr}{ta:TE}{p1 p2 fF bf:Pos}
def QH(K:Fg)(ta:TE):TE:=λU H Q=>ta U H λx H1=>∃l ys,x=.ref l/\SqL K H1 l ys/\∀d,H1 d=none->Q (.ref d) (upd H1 d (.lst ys.reverse))
theorem M4(hc:X.calm=true)(iP:X.mg "list"=none)(fu:X.mg "reversed"=none)(ha:PE X a ta)(iO:Gl X "list":=by rfl)(eF:Gl X "reversed":=by rfl)
  (he:starEach [(.Call (.Name "reversed" p2) [a] [] bf:Expr)] X.env=[(false,eval (.Call (.Name "reversed" p2) [a] [] bf) X.env)]:=by rfl) (gR:starEach [a] X.env=[(false,eval a X.env)]:=by rfl) :
  PE X (.Call (.Name "list" p1) [.Call (.Name "reversed" p2) [a] [] bf] [] fF) (QH X.K ta):=by
 intro ae s U H Q I h;refine wpAny_Call_Name_kw (DS I iO iP boot_list ?_);refine callWith_type1 ?_ he rfl;rw[he];refine Calls.spliced_cons ?_;refine wpAny_Call_Name_kw (DS I eF fu boot_reversed ?_);refine callWith_type1 ?_ gR rfl;rw[gR];refine Calls.spliced_cons (thn (ha ae s U H _ I h) λu s1 ⟨x,H1,I1,r1,l,ys,ex,hq,q⟩=>?_);subst ex;cases r1;obtain⟨ak,rv,pl,hz⟩:=I1.list hq;have hlen:=rv.length;refine Calls.spliced_nil (call_reversed_list pl.isList ?_);refine Calls.spliced_nil ?_;have I2:Inv X ae U H1 {s1 with heap:=s1.heap.push (revObj l ((ak.toArray.size:Int)-1))}:=I1.kept λb o e=>sF _ e
 refine Fi (I.ok.hd hc) (tD (by obtain⟨o,n,e,_⟩:=pl;exact sO e)) ⟨_,sP _ rfl,rfl,rfl⟩ (pl.isList.push _) (by rw[sJ];omega) λh' tk ax c kp e cX=>?_
 refine⟨.ref _,_,I2.P2 (I1.Sn (sV _) (I1.zZ.fresh (sV _))) (sV _) kp (by rw[uM];exact hz) (Qz rv cX) (by simpa using e),rfl,q _ (I2.zZ.fresh (sV _))⟩
theorem SV(hc:X.calm=true):CV X (.builtin "sum") (λxs H Q=>∃(l:Addr)(ns:List Int),xs=[.ref l]/\SqL X.K H l (ns.map V.int)/\Q (.int ns.sum) H):=by
 intro ae s U H xs us Q I r h;obtain⟨l,ns,rfl,hq,q⟩:=h;obtain⟨u,rfl,rx⟩:=vals1 r;cases rx;obtain⟨ak,rv,pl,hz⟩:=I.list hq;have hi:=intsAre_of rv;obtain⟨zs,hx⟩:=hi.allInts.items;refine sum_intListG (I.ok.hd hc) (hx▸pl.isList) λh' tk t' hk=>?_
 have e1:ns=zs.toList.map (·.1):=by rw[<- nums_intItems,<- hx];exact(show numsOf ak.toArray.toList=ns from hi.numsOf).symm
 have e2:preSum (numAt zs) zs.size=ns.sum:=by rw[preSum_eq,uY (by simp),e1]
 rw[e2];exact⟨.int ns.sum,H,I.kept hk,⟨_,rfl⟩,q⟩
theorem B6:∀{bs:List Bool}{us:List Value},Vals (bs.map V.o) us->us=bs.map Value.bool
 | [],_,.nil=>rfl
 |b::bs,_,.cons r t=>by cases(show _=Value.bool b from r);rw[sG,B6 t]
theorem SY(hc:X.calm=true):CV X (.builtin "all") (λxs H Q=>∃(l:Addr)(bs:List Bool),xs=[.ref l]/\SqL X.K H l (bs.map V.o)/\Q (.o (bs.all id)) H):=by
 intro ae s U H xs us Q I r h;obtain⟨l,bs,rfl,hq,q⟩:=h;obtain⟨u,rfl,rx⟩:=vals1 r;cases rx;obtain⟨ak,rv,pl,hz⟩:=I.list hq;have hb:=B6 rv;have hl:=pl.isList;refine call_all_walk (wpAny_pyIter_list hl ?_);refine⟨s.heap.objs.size,[s.heap.objs.size,l],[s.heap.objs.size],ak.toArray.size,_,_,λi=>(bs[i]?).getD true,rfl,Walks.list (A:=X.A.in1) (I.ok.hd hc) _ l (tD (by obtain⟨_,e,_⟩:=hl;exact sO e)) ak.toArray,
  ⟨⟨_,sP _ rfl,rfl,rfl⟩,hl.push _⟩,λi v s' Q' E' hP hQ=>?_,λh' tk hk=>?_⟩
 .have e:=by simpa using hP
  rw[hb,tO]at e;cases eb:bs[i]? with|none=>rw[eb]at e;cases e|some b =>rw[eb]at e;have e':=Option.some.inj e;subst e';simp only[eb,Option.getD_some]at hQ;exact wpAny_truthy_bool hQ
 .have e:((List.range ak.toArray.size).all λi=>(bs[i]?).getD true)=bs.all id:=by
   have hlen:ak.toArray.size=bs.length:=by rw[hb];simp
   rw[hlen];rw[uk,ub,ub];constructor
   .intro hh b hm;obtain⟨i,hi,rfl⟩:=uN hm;have:=hh i (uw.mpr hi);simpa[sL hi]using this
   .intro hh i hi;have gC:=uw.mp hi;have:=hh _ (List.getElem_mem gC);simpa[sL gC]using this
  rw[e];exact⟨.o _,H,I.kept (λb o e=>hk b o (λhm=>by rw[sZ.mp hm]at e;exact tZ _ (sO e)) (sF _ e)),rfl,q⟩
theorem Vm:OpR X (binaryOp .Mult) (rI IntMulOk λi j=>.int (i*j)):=opI λ_ _ _ _ _ _ _ hc q=>mul_int q hc
theorem Ox:OpR X (binaryOp .Mult) (λx y H Q=>∃z n,x=.str z/\y=.int n/\MulOk z n/\Q (.str (Txt.mul z n)) H):=by intro ae s U H x y v u Q I rx ry h;obtain⟨z,n,rfl,rfl,zZ,q⟩:=h;obtain⟨t,rfl⟩:=rx;obtain⟨t',rfl⟩:=ry;exact SB.mul zZ λt' k=>⟨.str _,H,I.tok _,⟨_,rfl⟩,q⟩
theorem Gg:∀{ys:List Str}{us:List Value},Vals (ys.map V.str) us->StrsAre us ys
 | [],_,.nil=>.nil
 |y::ys,_,.cons r t=>by
  obtain⟨tk,rfl⟩:=(show ∃tk,_=Value.str y tk from r)
  exact .cons _ _ (Gg t)
theorem VG:MtR X "str.join" (λx xs H Q=>∃(z:Str)(l:Addr)(ys:List Str),x=.str z/\xs=[.ref l]/\SqL X.K H l (ys.map V.str)/\(ys.map (·.length)).sum+ys.length*z.length<=16777216/\Q (.str (Txt.join z ys)) H):=by intro ae s U H x xs v us Q I rx rv h;obtain⟨z,l,ys,rfl,rfl,hq,zZ,q⟩:=h;obtain⟨t,rfl⟩:=rx;obtain⟨u,rfl,ru⟩:=vals1 rv;cases ru;obtain⟨ak,r,pl,hz⟩:=I.list hq;exact join_list pl.isList (Gg r) zZ λt' k=>⟨.str _,H,I.tok _,⟨_,rfl⟩,q⟩
variable{tg:Expr}
def Its(z:Str):It:=⟨λi _=>i<z.cps.size,λi H x H'=>H'=H/\∃c,z.cps[i]?=some c/\x=.str ⟨#[c]⟩,λi _=>z.cps.size<=i⟩
theorem Y9(hQ:Q () s):wpAny M A (letOwnedTupleGo tg it (.str x t)) Q E s:=by
 unfold letOwnedTupleGo;cases tg<;>first
  |exact sM hQ
  |(cases it<;>exact sM hQ)
theorem QC{K:Fg}(it:Addr)(ty:String)(z:Str)(t:Tok)(fB:ty="str_ascii_iterator"\/ty="str_iterator"):Turn P w K tg (Its z) [it] it (λi h=>h.IsStrIter it ty z t i) where
 mem:=by simp
 obj:=λi h st b hb=>by
  have e:=by simpa using hb
  subst e;obtain⟨o,e,c,d⟩:=st;exact⟨o,e,λv z=>by rw[d]at z;cases z⟩
 keep:=λi h h' st k=>by obtain⟨o,e,c,d⟩:=st;exact⟨o,k it (by simp) o e,c,d⟩
 item:=by
  intro X hP hw hK hc i ae s U H E I hf st hg;subst hP hw hK;obtain⟨f0,f1,f2,f3,f4,f5⟩:=hf it (by simp);have ba:∀(v:Value)(h':Heap)(tk:Nat),SignAt z i v->h'.IsStrIter it ty z t (i+1)->(∀b o,b∉[it]->s.heap.get? b=some o->h'.get? b=some o) ->
    ∃u,some v=some u/\wpAny (model X.prog X.w) X.A (letOwnedTupleGo tg (.ref it) u) (λ_ s2=>∃x H',Inv X ae U H' s2/\RelV x u/\(Its z).yL i H x H'/\s2.heap.IsStrIter it ty z t (i+1)/\∀b∈[it],H' b=none) E {s with heap:=h',toks:=tk}:=λv h' tk hv eQ kk=>by
   obtain⟨c,u,jb,rfl⟩:=hv;exact⟨_,rfl,Y9 ⟨.str ⟨#[c]⟩,H,(I.turned (λb o hb e=>kk b o (by simpa using hb) e) f0 f1 f3 f4 f5),⟨u,rfl⟩,⟨rfl,c,jb,rfl⟩,eQ,λb hb=>(hf b hb).1⟩⟩
  rcases fB with rfl|rfl
  .exact(Walks.strAscii (I.ok.hd hc) it z t).item i s _ _ hg st ba
  .exact(Walks.strWide (I.ok.hd hc) it z t).item i s _ _ hg st ba
 done:=by
  intro X hP hw hK hc i ae s U H E I hf st hg;subst hP hw hK;obtain⟨f0,f1,f2,f3,f4,f5⟩:=hf it (by simp);have hz:=Array.getElem?_eq_none hg;rcases fB with rfl|rfl
  .exact wpAny_pyNext_ascii_end (I.ok.hd hc) st hz λh' ik=>⟨rfl,I.turned (λb o hb e=>ik b o hb e) f0 f1 f3 f4 f5⟩
  .exact wpAny_pyNext_wide_end (I.ok.hd hc) st hz λh' ik=>⟨rfl,I.turned (λb o hb e=>ik b o hb e) f0 f1 f3 f4 f5⟩
 self:=λ_ _ _ _ _ st h=>by
  rcases fB with rfl|rfl
  .exact wpAny_pyIter_striter_ascii st h
  .exact wpAny_pyIter_striter_wide st h
variable{a:Addr}{xs:List V}{g:TG}{te:TE}{Q:VK}{mD:St}{H1:Hp}
section
variable{K:Fg}
end
section
variable(K:Fg)
end
theorem VF:MtM X "list.pop" (λx vs H Q=>∃l e z,x=.ref l/\vs=[]/\H l=some (.lst (e++[z]))/\Q z (upd H l (.lst e))):=by intro ae s U H x vs v us Q I rx rv h;obtain⟨l,e,z,rfl,rfl,hH,q⟩:=h;refine YH ae s U H _ _ v us Q I rx rv ⟨l,e++[z],z,rfl,rfl,hH,by simp,?_⟩;rw[List.dropLast_concat];exact q
structure FnAt(P:Program)(w:World)(K:Fg)(mg:Str->Option Value)(base:Heap)(CX:CXT)(x:Str)(k:Nat)(ps:List Str)(sp:Sp):Prop where
 ex:∃f fd,EY P w K mg base CX k f fd ps sp/\mg x=some (.ref f)/\keepIn K (.ref f)=true/\Binds K fd ps []
variable{CX:CXT}{k:Nat}{ps:List Str}{sp:Sp}{E:XK}{x:Str}{p pos:Pos}{e:Expr}{es:List Expr}{t:TA}
theorem JaX(h:∃t,X.mg x=some (.int i t))(hg:Gl X x:=by rfl)(hd:(x==("__debug__":Str))=false:=by decide):PE X (.Name x pos) (tC (.int i)):=by obtain⟨t,h⟩:=h;exact Ou hg h ⟨t,rfl⟩ hd
theorem JaW(h:∃t,X.mg x=some (.str z t))(hg:Gl X x:=by rfl)(hd:(x==("__debug__":Str))=false:=by decide):PE X (.Name x pos) (tC (.str z)):=by obtain⟨t,h⟩:=h;exact Ou hg h ⟨t,rfl⟩ hd
theorem O0{k}(h:Hy k v=true):RelV (kV k) v:=by
 rcases Bf h with⟨i,t,rfl,rfl⟩|⟨x,t,rfl,rfl⟩
 .exact⟨t,rfl⟩
 .exact⟨t,rfl⟩
theorem NP(r:KV ah vs)(h:ItemsOf (λi v=>∃k x,vs[i]?=some (k,x)/\Hy k v=true) ax vs.length):Vals (ah.map λkv=>kV kv.1) ax.toList:=by
 obtain⟨h1,h2⟩:=h;have key:∀(ah:List (Key×V))(vs:List (Key×Value))(l:List Value),KV ah vs->l.length=vs.length->(∀(j:Nat)(v:Value),l[j]?=some v->∃k x,vs[j]?=some (k,x)/\Hy k v=true)->Vals (ah.map λkv=>kV kv.1) l:=by
  intro ah
  induction ah with
  |nil =>intro vs l r hl _;cases r;have:=ur (by simpa using hl);subst this;exact .nil
  |cons p ah ih =>
   intro vs l r hl hh;cases r with
   |@cons _ q _ vr e t =>
    cases l with
    |nil=>simp at hl
    |cons v l =>
     obtain⟨k,x,e1,e2⟩:=hh 0 v rfl;refine .cons ?_ (ih vr l t (by simpa using hl) λj w hw=>?_)
     .have:p.1=k:=by rw[e.1,(Option.some.inj e1)]
      show RelV (kV p.1) v;rw[this];exact O0 e2
     .exact hh (j+1) w hw
 exact key ah vs ax.toList r (by rw[uq];exact h1) λj v e=>h2 j v (by rw[<- uL];exact e)
structure W6(P:Program)(w:World)(K:Fg)(mg:Str->Option Value)(base:Heap)(CX:CXT)(C:Addr)(m:Str)(k:Nat)(ps:List Str)(sp:Sp):Prop where
 cl:Cls K C
 ex:∃f fd,EY P w K mg base CX k f fd ps sp/\Meth K C m f/\Binds K fd ps []
structure Jav(P:Program)(w:World)(K:Fg)(mg:Str->Option Value)(base:Heap)(CX:CXT)(x:Str)(C:Addr)(k:Nat)(ps:List Str)(sp:Sp):Prop where
 at_:mg x=some (.ref C)
 ex:∃f fd,EY P w K mg base CX k f fd ps sp/\Mk K C f/\Binds K fd ps []
variable{C:Addr}{m:Str}{av:Pos}{o:Expr}
theorem Yg(G:W6 X.prog X.w X.K X.mg X.base CX C m k ps sp)(hr:DK k X.A)(hx:Passes CX X E)(he:PE X o ta)
  (ht:eval (.Call (.Attribute o m av) [] [] pos) X.env=(do
   let ov <- eval o X.env
   standAt av.atName
   let(f,first) <- holding [ov] (getMethod ov m pl)
   callWith pos f first (backTo pos (starEach [] X.env)) (backToKw pos (keywordEach [] X.env))):=by rfl) :
  PE X (.Call (.Attribute o m av) [] [] pos) (UC C m sp [] E ta Xr):=by
 obtain⟨f,fd,F,hm,hb⟩:=G.ex;exact Rf he G.cl hm F hr hb .nil hx ht
theorem JaV(G:Jav X.prog X.w X.K X.mg X.base CX x C k ps sp)(hr:DK (k+1) X.A)(hx:Passes CX X E)(ha:PA X (e::es) t)(hg:Gl X x:=by rfl)(bh:(x==("__debug__":Str))=false:=by decide)
  (he:starEach (e::es) X.env=(false,eval e X.env)::starEach es X.env:=by rfl) (aC:(backTo pos (starEach es X.env)).any (·.1)=false:=by rfl):PE X (.Call (.Name x p) (e::es) [] pos) (Xu C sp [] E t):=by
 obtain⟨f,fd,F,M,hb⟩:=G.ex;exact Vb M F hr hg G.at_ hb .nil hx ha bh he aC
def orR(r r':R2):R2:=λx y H Q=>r x y H Q\/r' x y H Q
theorem OpR.orR(h:OpR X f r)(h':OpR X f r'):OpR X f (orR r r'):=λae s U H x y v u Q I rx ry q=>q.elim (h ae s U H x y v u Q I rx ry) (h' ae s U H x y v u Q I rx ry)
theorem IxR.orR(h:IxR X r)(h':IxR X r'):IxR X (L2.orR r r'):=λvalue aB ae s U H x y v u Q I rx ry q e=>q.elim (λq=>h value aB ae s U H x y v u Q I rx ry q e) (λq=>h' value aB ae s U H x y v u Q I rx ry q e)
def XU:R2:=λx y H Q=>∃a v,x=.ref a/\KW H a y (some v)/\Q v H
def JaN(neg:Bool):R2:=λy x H Q=>∃a o,x=.ref a/\KW H a y o/\Q (.o (if neg then !o.isSome else o.isSome)) H
theorem TN(hu:X.A.units+1<cLine):OpR X (compareOp .In) (JaN false):=by intro ae s U H y x v u Q I ry rx h;obtain⟨a,o,rfl,g,q⟩:=h;obtain rfl:u=Value.ref a:=rx;exact d_in hu I g ry λs3 I3=>⟨.o o.isSome,H,I3,rfl,q⟩
theorem Oy(hu:X.A.units+1<cLine):OpR X (compareOp .NotIn) (JaN true):=by intro ae s U H y x v u Q I ry rx h;obtain⟨a,o,rfl,g,q⟩:=h;obtain rfl:u=Value.ref a:=rx;exact WK hu I g ry λs3 I3=>⟨.o (!o.isSome),H,I3,rfl,q⟩
theorem V0(hu:X.A.units+1<cLine):IxR X XU:=by
 intro value aB ae s U H x y v u Q I rx ry h hs;obtain⟨a,w,rfl,g,q⟩:=h;obtain rfl:v=Value.ref a:=rx;have hT:=GR I g;unfold subscriptTail;refine sE ?_;rw[getitemInPython_of_ne hT.not_modules];refine sE (wpAny_specialOf hT PySem.F.slot_dict_getitem.lookup ?_);have ba:wpAny (model X.prog X.w) X.A (subscripted aB false (.ref a) u) (λr bx=>wpAny (model X.prog X.w) X.A (letTemporaryGo value (.ref a) r >>= λ_=>pure r) (EP X ae U Q) X.xe bx) X.xe s:=by rw[hs];exact wpAny_operating (wpAny_mono (Ks hu I g ry λw' s3 I3 dM=>⟨w,H,I3,dM,q⟩) (λr bx fD=>sE (wpAny_letTemporaryGo (sM fD))) λ_ _ x=>x)
 first
  |exact sM (sE ba)
  |exact sE (sM (sE ba))
  |exact sE ba
def Yp(r r':Xj):Xj:=λo i v H Q=>r o i v H Q\/r' o i v H Q
theorem Tf.orR(h:Tf X r)(h':Tf X r'):Tf X (Yp r r'):=λae s U H o i v ov iv u Q I r1 r2 r3 q=>q.elim (h ae s U H o i v ov iv u Q I r1 r2 r3) (h' ae s U H o i v ov iv u Q I r1 r2 r3)
def US:Xj:=λo i v H Q=>∃a H4,o=.ref a/\NM H a i v H4/\Q H4
theorem set_dict(hu:X.A.units+1<cLine):Tf X US:=by intro ae s U H o i v ov iv u Q I ro ri rv h;obtain⟨a,H4,rfl,g,q⟩:=h;obtain rfl:ov=Value.ref a:=ro;exact Kr hu I g ri rv λs4 I4=>⟨H4,I4,q⟩
def TL(r r':List V->Hp->VK->Prop):List V->Hp->VK->Prop:=λvs H Q=>r vs H Q\/r' vs H Q
theorem CV.orR(h:CV X f r)(h':CV X f r'):CV X f (TL r r'):=λae s U H xs us Q I rx q=>q.elim (h ae s U H xs us Q I rx) (h' ae s U H xs us Q I rx)
def Jai(r r':V->List V->Hp->VK->Prop):V->List V->Hp->VK->Prop:=λx vs H Q=>r x vs H Q\/r' x vs H Q
theorem MtR.orR{id:String}(h:MtR X id r)(h':MtR X id r'):MtR X id (Jai r r'):=λae s U H x xs v us Q I rx rs q=>q.elim (h ae s U H x xs v us Q I rx rs) (h' ae s U H x xs v us Q I rx rs)
def iSeq(K:Fg)(tl:TE):TI:=λU H R=>tl U H λx H1=>(∃a,x=.ref a/\(∃xs,SqL K H1 a xs)/\R (Itl K a) H1)\/(∃a,x=.ref a/\(∃xs,SqT K H1 a xs)/\R (Itt K a) H1)\/(∃z,x=.str z/\R (Its z) H1)
theorem X9(hl:PE X l tl):PI X tg l (iSeq X.K tl):=by
 intro ae s U H R I h;have key:∀(x:V)(H1:Hp)(v:Value)(s1:Shared),Inv X ae U H1 s1->RelV x v->((∃a,x=.ref a/\(∃xs,SqL X.K H1 a xs)/\R (Itl X.K a) H1)\/(∃a,x=.ref a/\(∃xs,SqT X.K H1 a xs)/\R (Itt X.K a) H1)\/(∃z,x=.str z/\R (Its z) H1)) ->
   wpAny (model X.prog X.w) X.A (pyIter v) (PIE X ae U tg R) X.xe s1:=by
  intro x H1 v s1 I1 r1 q1;rcases q1 with⟨a,e,⟨xs,hq⟩,q⟩|⟨a,e,⟨xs,hq⟩,q⟩|⟨z,e,q⟩
  .subst e;cases r1;obtain⟨ak,rv,p,hz⟩:=I1.list hq;refine wpAny_pyIter_list p.isList ?_;refine⟨s1.heap.objs.size,[s1.heap.objs.size],_,_,H1,rfl,I1.kept λb o e=>sF _ e,NV a _,⟨_,sP _ rfl,rfl,rfl⟩,λb hb=>?_,q⟩;have e:=by simpa using hb
   subst e;exact I1.Sn (sV _) (I1.zZ.fresh (sV _))
  .subst e;cases r1;obtain⟨ak,rv,p,hz⟩:=I1.tuple hq;refine wpAny_pyIter_tuple (show s1.heap.IsTuple a ak.toArray from p) ?_;refine⟨s1.heap.objs.size,[s1.heap.objs.size],_,_,H1,rfl,I1.kept λb o e=>sF _ e,MO a _,⟨_,sP _ rfl,rfl,rfl⟩,λb hb=>?_,q⟩;have e:=by simpa using hb
   subst e;exact I1.Sn (sV _) (I1.zZ.fresh (sV _))
  .subst e;obtain⟨t,rfl⟩:=r1;have go:∀(ty:String),(ty="str_ascii_iterator"\/ty="str_iterator")->PIE X ae U tg R (.ref s1.heap.objs.size) {s1 with heap:=s1.heap.push {cls:=.type ty,data:=.fields #[.str z t,.int 0 0]} }:=λty fB=>by
    refine⟨s1.heap.objs.size,[s1.heap.objs.size],_,_,H1,rfl,I1.kept λb o e=>sF _ e,QC _ ty z t fB,⟨_,sP _ rfl,rfl,rfl⟩,λb hb=>?_,q⟩;have e:=by simpa using hb
    subst e;exact I1.Sn (sV _) (I1.zZ.fresh (sV _))
   cases ha:z.cps.all (·<128)
   .exact wpAny_pyIter_wide ha (go _ (.inr rfl))
   .exact wpAny_pyIter_ascii ha (go _ (.inl rfl))
 exact thn (hl ae s U H _ I h) λv s1 ⟨x,H1,I1,r1,q1⟩=>key x H1 v s1 I1 r1 q1
end L2
namespace PySem
namespace Zp
variable{prog:Program}{w:World}{A:Around}{E:Value->Shared->Prop}{s:Shared}
theorem QF(bc:s.heap.IsTupleIter it t i)(ht:s.heap.IsTuple t items)(hx:items[i]?=some x)
  (hQ:∀h',h'.IsTupleIter it t (i+1)->Heap.SameBut it s.heap h'->Q x {s with heap:=h' }):wpAny (model prog w) A (Builtin.SmallTypes.nextOf (.ref it)) Q E s:=by
 obtain⟨o,ho,hc,hd⟩:=id bc;obtain⟨ol,lO,_,nl,lx⟩:=ht;unfold Builtin.SmallTypes.nextOf;refine sE (wpAny_callSpecial?_slot bc.typeIs F.slot_tuple_iterator_next (wpAny_call_entry F.slot_tuple_iterator_next bc.typeIs F.entry_tuple_iterator_next ?_ (F.args_tuple_iterator_next_1 _)));show wpAny _ _ (field (.ref it) 0 >>= _) _ _ s;refine sE (tN ho hd rfl ?_);show wpAny _ _ (field (.ref it) 1 >>= _) _ _ s;refine sE (tN ho hd rfl ?_);show wpAny _ _ (seqItems? (.ref t) >>= _) _ _ s;refine sE (wpAny_seqItems lO lx ?_);simp only[uK,hx];refine sE (wpAny_setField ho hd (by simp) (sM ⟨x,rfl,sM (hQ _ ?_ (Heap.SameBut.update ..))⟩));exact⟨_,t6 _ ho (Obj.isFreed_of_fields (Obj.data_mapFields hd _)),(Obj.cls_mapFields ..).trans hc,by rw[Obj.data_mapFields hd];simp[rawInt]⟩
theorem Uy(hh:A.handled=none)(bc:s.heap.IsTupleIter it t i)(ht:s.heap.IsTuple t items)(hx:items[i]?=none)
  (hE:∀h' e,Heap.ExtBut it s.heap h'->(∃o,h'.get? e=some o/\o.cls=.type "StopIteration")->E (.ref e) {s with heap:=h' }):wpAny (model prog w) A (Builtin.SmallTypes.nextOf (.ref it)) Q E s:=by
 obtain⟨o,ho,hc,hd⟩:=id bc;obtain⟨ol,lO,_,nl,lx⟩:=ht;unfold Builtin.SmallTypes.nextOf;refine sE (wpAny_callSpecial?_slot bc.typeIs F.slot_tuple_iterator_next (wpAny_call_entry F.slot_tuple_iterator_next bc.typeIs F.entry_tuple_iterator_next ?_ (F.args_tuple_iterator_next_1 _)));show wpAny _ _ (field (.ref it) 0 >>= _) _ _ s;refine sE (tN ho hd rfl ?_);show wpAny _ _ (field (.ref it) 1 >>= _) _ _ s;refine sE (tN ho hd rfl ?_);show wpAny _ _ (seqItems? (.ref t) >>= _) _ _ s;refine sE (wpAny_seqItems lO lx ?_);simp only[uK,hx];refine sE (wpAny_rule (sE (wpAny_setField ho hd (by simp) ?_)));show wpAny _ _ (newExc (.type "StopIteration") [] >>= _) _ _ _;refine sE ?_;simp only[newExc,newTuple];refine sE (wpAny_newObj_type ?_ (by size_fits));refine sE (wpAny_of_eq (by first|rfl|(simp only[firstArgMember];rfl)) ?_);refine wpAny_newObj_type ?_ (by size_fits);simp only[raiseNew];refine sE (wpAny_handled ?_);first|rw[show A.in1.handled=none from hh]|rw[hh]
 refine sE (sM (wpAny_throw ?_));exact hE _ _ (((Heap.SameBut.update ..).extBut.push _).push _) ⟨_,sP _ rfl,rfl⟩
structure Draws(prog:Program)(w:World)(it src:Addr)(xs:Array Value)(S:Nat->Heap->Prop):Prop where
 ne:src≠it
 obj:∀k h,S k h->∃o,h.get? it=some o/\∀v,o.data≠.cell v
 yw:∀k h,S k h->∃o,h.get? src=some o/\(o.cls=.type "list"\/o.cls=.type "tuple")
 keep:∀k (h h':Heap),S k h->(∀o,h.get? it=some o->h'.get? it=some o)->(∀o,h.get? src=some o->h'.get? src=some o)->S k h'
 item:∀(A:Around)(s:Shared)(k:Nat)(x:Value)(Q:Value->Shared->Prop)(E:Value->Shared->Prop),S k s.heap->xs[k]?=some x->(∀h',S (k+1) h'->Heap.SameBut it s.heap h'->Q x {s with heap:=h' }) ->
  wpAny (model prog w) A (Builtin.SmallTypes.nextOf (.ref it)) Q E s
 stop:∀(A:Around)(s:Shared)(k:Nat)(Q:Value->Shared->Prop)(E:Value->Shared->Prop),A.handled=none->S k s.heap->xs[k]?=none ->
  (∀h' e,Heap.ExtBut it s.heap h'->(∃o,h'.get? e=some o/\o.cls=.type "StopIteration")->E (.ref e) {s with heap:=h' })->wpAny (model prog w) A (Builtin.SmallTypes.nextOf (.ref it)) Q E s
theorem Draws.tup(bV:t≠it):Draws prog w it t xs (λk h=>h.IsTupleIter it t k/\h.IsTuple t xs) where
 ne:=bV
 obj:=λk h st=>by obtain⟨⟨o,e,c,d⟩,_⟩:=st;exact⟨o,e,λv z=>by rw[d]at z;cases z⟩
 yw:=λk h st=>by obtain⟨_,o,e,c,_⟩:=st;exact⟨o,e,.inr c⟩
 keep:=λk h h' st k1 k2=>⟨st.1.at k1,st.2.at k2⟩
 item:=λA s k x Q E st hx hQ=>QF st.1 st.2 hx λh' a b=>hQ h' ⟨a,st.2.at λo e=>(b.2 t bV).trans e⟩ b
 stop:=λA s k Q E hh st hx hE=>Uy hh st.1 st.2 hx hE
theorem Draws.lst(bV:t≠it):Draws prog w it t xs (λk h=>h.IsListIter it t k/\h.IsList t xs) where
 ne:=bV
 obj:=λk h st=>by obtain⟨⟨o,e,c,d⟩,_⟩:=st;exact⟨o,e,λv z=>by rw[d]at z;cases z⟩
 yw:=λk h st=>by obtain⟨_,o,e,c,_⟩:=st;exact⟨o,e,.inl c⟩
 keep:=λk h h' st k1 k2=>⟨st.1.at k1,st.2.at k2⟩
 item:=λA s k x Q E st hx hQ=>wpAny_nextOf_list_item st.1 st.2 hx λh' a b=>hQ h' ⟨a,st.2.at λo e=>(b.2 t bV).trans e⟩ b
 stop:=λA s k Q E hh st hx hE=>wpAny_nextOf_list_end hh st.1 st.2 hx hE
structure Apart(z TI TO i1 i2 l1 l2:Addr):Prop where
 zs:TI≠z/\TO≠z/\i1≠z/\i2≠z/\l1≠z/\l2≠z
 ts:TI≠TO/\TI≠i1/\TI≠i2/\TO≠i1/\TO≠i2/\i1≠i2
 ls:l1≠TO/\l1≠i1/\l1≠i2/\l2≠TO/\l2≠i1/\l2≠i2
variable{z TI TO i1 i2 l1 l2:Addr}{xs ys:Array Value}{S1 S2:Nat->Heap->Prop}
theorem Rn(D:Apart z TI TO i1 i2 l1 l2)(W1:Draws prog w i1 l1 xs S1)(W2:Draws prog w i2 l2 ys S2){Q:Value->Shared->Prop}
  (hz:IsZip s.heap z TI TO .none) (bt:IsPair s.heap TI (.ref i1) (.ref i2)) (bM:IsPair s.heap TO a b) (h1:S1 k s.heap) (h2:S2 k s.heap) (hx:xs[k]?=some x) (hy:ys[k]?=some y)
  (hQ:∀h',IsZip h' z TI TO (rawInt s.heap.objs.size)->IsPair h' TO x y->S1 (k+1) h'->S2 (k+1) h'->IsPair h' s.heap.objs.size x y->h'.objs.size=s.heap.objs.size+1 ->
   (∀c o,c≠z->c≠TO->c≠i1->c≠i2->s.heap.get? c=some o->h'.get? c=some o)->Q (.ref s.heap.objs.size) {s with heap:=h' }) :
  wpAny (model prog w) A (Builtin.«zip.__next__» ⟨[.ref z],[]⟩) (λba s'=>∃v,ba=.done (.ret v)/\Q v s') E s:=by
 obtain⟨⟨gz,fj,dP,eN,gj,gk⟩,⟨dD,cU,cV,cB,cD,fI⟩,⟨de,bH,df,cH,cb,bI⟩⟩:=D;show wpAny _ _ (field (.ref z) 2 >>= _) _ _ _;refine sE (tN hz rfl rfl ?_);show wpAny _ _ (field (.ref z) 3 >>= _) _ _ _;refine sE (tN hz rfl rfl ?_);refine sE (wpAny_seqItems bt rfl ?_);show wpAny _ _ (Builtin.SmallTypes.ownedTupleIsFree (.ref z) >>= _) _ _ _;refine sE ?_;unfold Builtin.SmallTypes.ownedTupleIsFree;refine sE (tN hz rfl rfl (sM ?_));simp only[if_true];refine sE (wpAny_rule ?_);refine sE (tN hz rfl rfl ?_);refine sE (wpAny_setField_rec hz (by simp) λha iA eJ=>?_);replace iA:IsZip ha z TI TO .ellipsis:=iA;refine sE ?_;simp only[List.zipIdx_cons,List.zipIdx_nil,ux,List.forIn_nil];refine sE (sE (wpAny_onRaise ?_));show wpAny _ _ (Builtin.SmallTypes.nextOf (.ref i1) >>= _) _ _ _;refine sE (W1.item _ _ k x _ _ (W1.keep _ _ _ h1 (λo e=>eJ.extBut _ _ dP e) λo e=>eJ.extBut _ _ gj e) hx λhb jw bB=>sM ?_);have fT:=bB.extBut _ _ cB (eJ.extBut _ _ fj bM);refine sE (wpAny_seqItems fT rfl ?_);refine sE (wpAny_updateSeq_pair fT λhc gM eM=>?_);replace gM:IsPair hc TO x b:=gM;refine sE (wpAny_letGo (sM ?_));refine sE (sE (wpAny_onRaise ?_));show wpAny _ _ (Builtin.SmallTypes.nextOf (.ref i2) >>= _) _ _ _;refine sE (W2.item _ _ k y _ _ (W2.keep _ _ _ h2 (λo e=>eM.extBut _ _ (Ne.symm cD) (bB.extBut _ _ (Ne.symm fI) (eJ.extBut _ _ eN e))) λo e=>eM.extBut _ _ cH (bB.extBut _ _ cb (eJ.extBut _ _ gk e))) hy λhd k9 dI=>sM ?_);have jB:=dI.extBut _ _ cD gM;refine sE (wpAny_seqItems jB rfl ?_);refine sE (wpAny_updateSeq_pair jB λhe gN iW=>?_);replace gN:IsPair he TO x y:=gN;refine sE (wpAny_letGo (sM (sM ?_)));refine sE (wpAny_seqItems gN rfl ?_);refine sE (wpAny_newTuple ?_);have hsz:he.objs.size=s.heap.objs.size:=by rw[iW.1,dI.1,eM.1,bB.1,eJ.1]
 have nu:=iW.extBut _ _ (Ne.symm fj) (dI.extBut _ _ (Ne.symm eN) (eM.extBut _ _ (Ne.symm fj) (bB.extBut _ _ (Ne.symm dP) iA)));have nD:=sO nu;show wpAny _ _ (Builtin.SmallTypes.ownedTupleHandOut (.ref z) (.ref he.objs.size) >>= _) _ _ _;refine sE ?_;unfold Builtin.SmallTypes.ownedTupleHandOut;refine sE (wpAny_setField_rec (sF _ nu) (by simp) λhg lW lP=>?_);replace lW:IsZip hg z TI TO (rawInt he.objs.size):=lW;refine wpAny_setField_rec lW (by simp) λhi kC lQ=>?_;replace kC:IsZip hi z TI TO (rawInt he.objs.size):=kC
 have up:∀c o,c≠z->he.get? c=some o->hi.get? c=some o:=λc o c1 e=>lQ.extBut _ _ c1 (lP.extBut _ _ c1 (sF _ e))
 have mW:IsPair hi he.objs.size x y:=lQ.extBut _ _ (Nat.ne_of_gt nD) (lP.extBut _ _ (Nat.ne_of_gt nD) (sP _ rfl));have nS:hi.objs.size=he.objs.size+1:=by rw[lQ.1,lP.1,ue]
 rw[hsz]at kC mW nS;refine sM ⟨_,rfl,?_⟩;show Q (.ref he.objs.size) _;rw[hsz];exact hQ hi kC (up _ _ fj gN) (W1.keep _ _ _ (W1.keep _ _ _ jw (λo e=>iW.extBut _ _ (Ne.symm cB) (dI.extBut _ _ fI (eM.extBut _ _ (Ne.symm cB) e))) λo e=>iW.extBut _ _ de (dI.extBut _ _ df (eM.extBut _ _ de e))) (λo e=>up _ o dP e) λo e=>up _ o gj e) (W2.keep _ _ _ (W2.keep _ _ _ k9 (λo e=>iW.extBut _ _ (Ne.symm cD) e) λo e=>iW.extBut _ _ cH e) (λo e=>up _ o eN e) λo e=>up _ o gk e) mW nS λc o c1 c2 c3 c4 e=>up c o c1 (iW.extBut _ _ c2 (dI.extBut _ _ c4 (eM.extBut _ _ c2 (bB.extBut _ _ c3 (eJ.extBut _ _ c1 e)))))
theorem next_end(hh:A.handled=none)(D:Apart z TI TO i1 i2 l1 l2)(W1:Draws prog w i1 l1 xs S1)(W2:Draws prog w i2 l2 ys S2)
  (hz:IsZip s.heap z TI TO .none) (bt:IsPair s.heap TI (.ref i1) (.ref i2)) (bM:IsPair s.heap TO a b) (h1:S1 k s.heap) (h2:S2 k s.heap) (bP:xs[k]?=none\/ys[k]?=none)
  (hE:∀h' e,(∀c o,c≠z->c≠TO->c≠i1->c≠i2->s.heap.get? c=some o->h'.get? c=some o)->(∃o,h'.get? e=some o/\o.cls=.type "StopIteration")->E (.ref e) {s with heap:=h' }) :
  wpAny (model prog w) A (Builtin.«zip.__next__» ⟨[.ref z],[]⟩) Q E s:=by
 obtain⟨⟨gz,fj,dP,eN,gj,gk⟩,⟨dD,cU,cV,cB,cD,fI⟩,⟨de,bH,df,cH,cb,bI⟩⟩:=D;show wpAny _ _ (field (.ref z) 2 >>= _) _ _ _;refine sE (tN hz rfl rfl ?_);show wpAny _ _ (field (.ref z) 3 >>= _) _ _ _;refine sE (tN hz rfl rfl ?_);refine sE (wpAny_seqItems bt rfl ?_);show wpAny _ _ (Builtin.SmallTypes.ownedTupleIsFree (.ref z) >>= _) _ _ _;refine sE ?_;unfold Builtin.SmallTypes.ownedTupleIsFree;refine sE (tN hz rfl rfl (sM ?_));simp only[if_true];refine sE (wpAny_rule ?_);refine sE (tN hz rfl rfl ?_);refine sE (wpAny_setField_rec hz (by simp) λha iA eJ=>?_);replace iA:IsZip ha z TI TO .ellipsis:=iA;refine sE ?_;simp only[List.zipIdx_cons,List.zipIdx_nil,ux,List.forIn_nil];refine sE (sE (wpAny_onRaise ?_));show wpAny _ _ (Builtin.SmallTypes.nextOf (.ref i1) >>= _) _ _ _;have jv:=W1.keep _ _ _ h1 (λo e=>eJ.extBut _ _ dP e) λo e=>eJ.extBut _ _ gj e
 cases hx:xs[k]? with
 |none =>
  refine sE (W1.stop _ _ k _ _ hh jv hx λhb e bB he=>?_);obtain⟨oe,iS,jE⟩:=he;have nr:=bB _ _ (Ne.symm dP) iA;have qm:e≠z:=λq=>by subst q;rw[nr]at iS;cases iS;simp at jE
  refine wpAny_setField_rec nr (by simp) λhc _ eM=>hE hc e (λc o c1 _ c3 _ q=>eM.extBut _ _ c1 (bB _ _ c3 (eJ.extBut _ _ c1 q))) ⟨oe,eM.extBut _ _ qm iS,jE⟩
 |some x =>refine sE (W1.item _ _ k x _ _ jv hx λhb jw bB=>sM ?_);have fT:=bB.extBut _ _ cB (eJ.extBut _ _ fj bM);refine sE (wpAny_seqItems fT rfl ?_);refine sE (wpAny_updateSeq_pair fT λhc gM eM=>?_);refine sE (wpAny_letGo (sM ?_));refine sE (sE (wpAny_onRaise ?_));show wpAny _ _ (Builtin.SmallTypes.nextOf (.ref i2) >>= _) _ _ _;refine sE (W2.stop _ _ k _ _ hh (W2.keep _ _ _ h2 (λo e=>eM.extBut _ _ (Ne.symm cD) (bB.extBut _ _ (Ne.symm fI) (eJ.extBut _ _ eN e))) λo e=>eM.extBut _ _ cH (bB.extBut _ _ cb (eJ.extBut _ _ gk e))) (by rcases bP with h|h;rw[hx]at h;cases h;exact h) λhd e dI he=>?_);obtain⟨oe,iS,jE⟩:=he;have nt:=dI _ _ (Ne.symm eN) (eM.extBut _ _ (Ne.symm fj) (bB.extBut _ _ (Ne.symm dP) iA));refine wpAny_setField_rec nt (by simp) λhf _ ni=>hE hf e (λc o c1 c2 c3 c4 q=>ni.extBut _ _ c1 (dI _ _ c4 (eM.extBut _ _ c2 (bB.extBut _ _ c3 (eJ.extBut _ _ c1 q))))) ⟨oe,ni.extBut _ _ (λq=>by subst q;rw[nt]at iS;cases iS;simp at jE) iS,jE⟩
end Zp
end PySem
namespace PySem
namespace Zp
def RH(T:String)(l:Addr):Obj:={cls:=.type T,data:=.fields #[.ref l,.int 0 0]}
def z1(h:Heap)(T1:String)(l1:Addr):Heap:=h.push (RH T1 l1)
def z2(h:Heap)(T1 T2:String)(l1 l2:Addr):Heap:=(z1 h T1 l1).push (RH T2 l2)
def z3(h:Heap)(T1 T2:String)(l1 l2:Addr):Heap:=(z2 h T1 T2 l1 l2).push {cls:=.type "tuple",data:=.seq #[.ref h.objs.size,.ref (z1 h T1 l1).objs.size]}
def z4(h:Heap)(T1 T2:String)(l1 l2:Addr):Heap:=(z3 h T1 T2 l1 l2).push {cls:=.type "tuple",data:=.seq #[.none,.none]}
def z5(h:Heap)(T1 T2:String)(l1 l2:Addr):Heap:=(z4 h T1 T2 l1 l2).push {cls:=.type "zip",data:=.fields #[.none,.bool false,.bool false,.ref (z2 h T1 T2 l1 l2).objs.size,.ref (z3 h T1 T2 l1 l2).objs.size]}
abbrev Its(T:String)(l:Addr)(C:Heap->Prop):Prop:=∀{prog:Program}{w:World}{A:Around}{E:Value->Shared->Prop}{s:Shared}{Q:Value->Shared->Prop},C s.heap->Q (.ref s.heap.objs.size) {s with heap:=s.heap.push (RH T l)}->wpAny (model prog w) A (pyIter (.ref l)) Q E s
theorem Gv(T1 T2:String)(l1 l2:Addr)(C1 C2:Heap->Prop)(p1:Its T1 l1 C1)(p2:Its T2 l2 C2)(k2:∀h o,C2 h->C2 (Heap.push h o)):
  Meets (Builtin.«zip.__new__» ⟨[.type "zip",.ref l1,.ref l2],[]⟩) (λ_ R s=>C1 s.heap/\C2 s.heap/\R (.ok (.ret (.ref (z4 s.heap T1 T2 l1 l2).objs.size))) {s with heap:=z5 s.heap T1 T2 l1 l2}) :=
 .of_wp λprog w A R s h=>by
  obtain⟨hp,g,d,tk,os⟩:=s;obtain⟨c1,c2,h⟩:=h;have iY:=sub_zip
  wp_walk using p1 c1,p2 (k2 _ _ c2)
  exact⟨_,rfl,h⟩
variable{prog:Program}{w:World}{A:Around}{E:Value->Shared->Prop}{s:Shared}{z TI TO i1 i2 l1 l2:Addr}{xs ys:Array Value}{S1 S2:Nat->Heap->Prop}
theorem MF(p1:Its T1 l1 C1)(p2:Its T2 l2 C2)(k2:∀h o,C2 h->C2 (Heap.push h o))(c1:C1 s.heap)(c2:C2 s.heap)
  (h:Q (.ref (z4 s.heap T1 T2 l1 l2).objs.size) {s with heap:=z5 s.heap T1 T2 l1 l2}):wpAny (model prog w) A (call (.type "zip") [.ref l1,.ref l2]) Q E s :=
 callType_new F.called_zip (by decide) (F.typeCall_zip_2 _ _) (F.newCall_zip_2 _ _) (λobj=>F.args_object_init_3 obj _ _) F.entry_zip_new (Gv T1 T2 l1 l2 C1 C2 p1 p2 k2)
  ⟨c1,c2,⟨_,sP _ rfl,rfl⟩,h⟩
theorem HK(D:Apart z TI TO i1 i2 l1 l2)(W1:Draws prog w i1 l1 xs S1)(W2:Draws prog w i2 l2 ys S2)
  (hz:IsZip s.heap z TI TO .none) (bt:IsPair s.heap TI (.ref i1) (.ref i2)) (bM:IsPair s.heap TO a b) (h1:S1 k s.heap) (h2:S2 k s.heap) (hx:xs[k]?=some x) (hy:ys[k]?=some y)
  (hQ:∀h',IsZip h' z TI TO (rawInt s.heap.objs.size)->IsPair h' TO x y->S1 (k+1) h'->S2 (k+1) h'->IsPair h' s.heap.objs.size x y->h'.objs.size=s.heap.objs.size+1 ->
   (∀c o,c≠z->c≠TO->c≠i1->c≠i2->s.heap.get? c=some o->h'.get? c=some o)->Q (some (.ref s.heap.objs.size)) {s with heap:=h' }) :
  wpAny (model prog w) A (pyNext (.ref z)) Q E s:=by
 have hT:s.TypeIs (.ref z) "zip":=⟨_,hz,rfl⟩
 unfold pyNext;exact sE (wpAny_attempt (wpAny_callSpecial?_slot hT F.slot_zip_next (wpAny_call_entry F.slot_zip_next hT F.entry_zip_next
  (Rn D W1 W2 hz bt bM h1 h2 hx hy λh' a1 a2 a3 a4 a5 a6 a7=>sM (hQ h' a1 a2 a3 a4 a5 a6 a7)) (F.args_zip_next_1 _))))
theorem HL(hh:A.handled=none)(D:Apart z TI TO i1 i2 l1 l2)(W1:Draws prog w i1 l1 xs S1)(W2:Draws prog w i2 l2 ys S2)
  (hz:IsZip s.heap z TI TO .none) (bt:IsPair s.heap TI (.ref i1) (.ref i2)) (bM:IsPair s.heap TO a b) (h1:S1 k s.heap) (h2:S2 k s.heap) (bP:xs[k]?=none\/ys[k]?=none)
  (hQ:∀h',(∀c o,c≠z->c≠TO->c≠i1->c≠i2->s.heap.get? c=some o->h'.get? c=some o)->Q none {s with heap:=h' }):wpAny (model prog w) A (pyNext (.ref z)) Q E s:=by
 have hT:s.TypeIs (.ref z) "zip":=⟨_,hz,rfl⟩
 unfold pyNext;refine sE (wpAny_attempt (wpAny_callSpecial?_slot hT F.slot_zip_next (wpAny_call_entry F.slot_zip_next hT F.entry_zip_next
  (next_end (show A.in1.handled=none from hh) D W1 W2 hz bt bM h1 h2 bP λh' e hk he=>?_) (F.args_zip_next_1 _))))
 obtain⟨o,ho,hc⟩:=he;refine sE (wpAny_isInstance ⟨o,ho,hc⟩ isSubtype_stop ?_);exact sM (hQ _ hk)
def Ju:Bool->Heap->Addr->Addr->Nat->Prop
 |true,h,it,l,k=>h.IsTupleIter it l k
 |false,h,it,l,k=>h.IsListIter it l k
def EA:Bool->Heap->Addr->Array Value->Prop
 |true,h,l,xs=>h.IsTuple l xs
 |false,h,l,xs=>h.IsList l xs
def CK:Bool->String
 |true=>"tuple_iterator"
 |false=>"list_iterator"
theorem BF(b:Bool)(bV:t≠it):Draws prog w it t xs (λk h=>Ju b h it t k/\EA b h t xs):=by
 cases b
 .exact Draws.lst bV
 .exact Draws.tup bV
theorem Mn(b:Bool)(l:Addr)(xs:Array Value):Its (CK b) l (λh=>EA b h l xs):=by
 intro prog w A E s Q c q;cases b
 .exact wpAny_pyIter_list c q
 .exact wpAny_pyIter_tuple c q
theorem EA.at(c:EA b h l xs)(e:∀o,h.get? l=some o->h'.get? l=some o):EA b h' l xs:=by
 cases b
 .exact Heap.IsList.at c e
 .exact Heap.IsTuple.at c e
theorem Ju.at(c:Ju b h it l k)(e:∀o,h.get? it=some o->h'.get? it=some o):Ju b h' it l k:=by
 cases b
 .exact Heap.IsListIter.at c e
 .exact Heap.IsTupleIter.at c e
theorem Ju.obj(c:Ju b h it l k):∃o,h.get? it=some o/\∀v,o.data≠.cell v:=by
 cases b
 .obtain⟨o,e,_,d⟩:=c;exact⟨o,e,λv z=>by rw[d]at z;cases z⟩
 .obtain⟨o,e,_,d⟩:=c;exact⟨o,e,λv z=>by rw[d]at z;cases z⟩
theorem Ju.new(e:h.get? it=some (RH (CK b) l)):Ju b h it l 0:=by
 cases b
 .exact⟨_,e,rfl,rfl⟩
 .exact⟨_,e,rfl,rfl⟩
end Zp
end PySem
namespace L2
open PySem PySem.Spec PyProof.Rows
def SqB(b:Bool)(K:Fg)(H:Hp)(a:Addr)(xs:List V):Prop:=match b with|true=>SqT K H a xs|false=>SqL K H a xs
variable{X:Cx}{ae:List (Addr×Obj)}{U:St}{H:Hp}{s:Shared}{a:Addr}{xs ys:List V}{b:Bool}
theorem Inv.sqb(I:Inv X ae U H s)(h:SqB b X.K H a xs):∃ak:List Value,Vals xs ak/\Zp.EA b s.heap a ak.toArray/\xs.length<=sizeLine:=by
 cases b
 .obtain⟨ak,r,p,z⟩:=I.list h;exact⟨ak,r,p.isList,z⟩
 .obtain⟨ak,r,p,z⟩:=I.tuple h;exact⟨ak,r,p,z⟩
theorem Inv.N9(I:Inv X ae U H s)(h:SqB b X.K H a xs)(h':SqB b X.K H a ys):xs=ys:=by
 cases b
 .exact I.Mh h h'
 .exact I.Ge h h'
theorem Inv.Ir{fp:List Addr}(I:Inv X ae U H s)(k:∀b o,b∉fp->s.heap.get? b=some o->h'.get? b=some o)(hf:∀b∈fp,KS X ae H b):Inv X ae U H {s with heap:=h',toks:=t' }:=by
 have gm:∀b u,H b=some u->b∉fp:=λb u e z=>by rw[(hf b z).1]at e;cases e
 refine I.step (λb hb=>?_) (λb o _ _ hc e _=>k b o hc e) (λb o _ _ hc e _=>⟨o.slots,k b o hc e⟩) (λ_ _ _ _ n=>n)
  (λb o hc e=>⟨o,k b o hc e⟩) (λ_ _ e=>e) (λ_ _ _ e=>e) (λb ps e=>⟨#[],by rw[e];simp⟩) (λm hm=>?_) (λb u e=>?_) I.bare
 .obtain⟨f0,f1,f2,f3,f4,f5⟩:=hf b hb;exact⟨f3,f1,f4,f5⟩
 .obtain⟨o,es,ep,ho,r⟩:=hm;exact⟨o,es,ep,k _ o (λz=>(hf _ z).2.1 rfl) ho,r⟩
 .refine(I.zZ b u e).N7 (λc v hc q=>k c v ?_ q) (λ_ q=>q) λ_ _ q=>q
  rcases hc with z|z
  .rw[z];exact gm b u e
  .exact gm c _ z
def Itz(K:Fg)(b1:Bool)(a1:Addr)(b2:Bool)(a2:Addr):It :=
  ⟨λi H=>∃xs ys x y,SqB b1 K H a1 xs/\SqB b2 K H a2 ys/\xs[i]?=some x/\ys[i]?=some y,
   λi H x H'=>∃T vx vy,H T=none/\x=.ref T/\H'=upd H T (.tup [vx,vy])/\(∀xs,SqB b1 K H a1 xs->xs[i]?=some vx)/\∀ys,SqB b2 K H a2 ys->ys[i]?=some vy,
   λi H=>∃xs ys,SqB b1 K H a1 xs/\SqB b2 K H a2 ys/\(xs.length<=i\/ys.length<=i)⟩
theorem QB{K:Fg}{a1 a2 z TI TO i1 i2:Addr}(D:Zp.Apart z TI TO i1 i2 a1 a2):
  Turn P w K (.Tuple fm k0 cf) (Itz K b1 a1 b2 a2) [z,TI,TO,i1,i2] z (λi h=>IsZip h z TI TO .none/\IsPair h TI (.ref i1) (.ref i2)/\(∃a b,IsPair h TO a b)/\Zp.Ju b1 h i1 a1 i/\Zp.Ju b2 h i2 a2 i) where
 mem:=by simp
 obj:=λi h st b hb=>by
  obtain⟨hz,bt,⟨ta,tb,bM⟩,h1,h2⟩:=st;simp only[sQ,tq,or_false]at hb;rcases hb with rfl|rfl|rfl|rfl|rfl
  .exact⟨_,hz,λv z=>nomatch z⟩
  .exact⟨_,bt,λv z=>nomatch z⟩
  .exact⟨_,bM,λv z=>nomatch z⟩
  .exact h1.obj
  .exact h2.obj
 keep:=λi h h' st k=>by obtain⟨hz,bt,⟨ta,tb,bM⟩,h1,h2⟩:=st;exact⟨k z (by simp) _ hz,k TI (by simp) _ bt,⟨ta,tb,k TO (by simp) _ bM⟩,h1.at λo e=>k i1 (by simp) o e,h2.at λo e=>k i2 (by simp) o e⟩
 item:=by
  intro X hP hw hK hc i ae s U H E I hf st hg;subst hP hw hK;obtain⟨hz,bt,⟨ta,tb,bM⟩,h1,h2⟩:=st;obtain⟨xs,ys,x,y,q1,q2,ex,ey⟩:=hg;obtain⟨cG,r1,c1,z1⟩:=I.sqb q1;obtain⟨aI,r2,c2,z2⟩:=I.sqb q2;obtain⟨u1,qO,rE⟩:=r1.get ex;obtain⟨u2,qP,rF⟩:=r2.get ey;obtain⟨⟨gz,fj,dP,eN,gj,gk⟩,⟨dD,cU,cV,cB,cD,fI⟩,⟨de,bH,df,cH,cb,bI⟩⟩:=id D;refine Zp.HK D (Zp.BF b1 bH) (Zp.BF b2 bI) hz bt bM ⟨h1,c1⟩ ⟨h2,c2⟩ (by simpa using qO) (by simpa using qP) λh' iZ lh rH rK lg aZ fZ=>⟨_,rfl,?_⟩
  refine wpAny_letOwnedTupleGo_zip iZ λk8 kB sb=>?_
  have fU:∀{c o},s.heap.get? c=some o->c≠s.heap.objs.size:=λe=>tD (sO e)
  have Il:Inv X ae U (upd H s.heap.objs.size (.tup [x,y])) {s with heap:=s.heap.push {cls:=.type "tuple",data:=.seq #[u1,u2]},toks:=s.toks} :=
   I.laid (λb o e=>sF _ e) (sV _) ⟨by show 2<=sizeLine;rw[sizeLine_eq];decide,[u1,u2],.cons rE (.cons rF .nil),⟨_,sP _ rfl,rfl,_,rfl⟩⟩
  have jM:∀b∈[z,TI,TO,i1,i2],KS X ae (upd H s.heap.objs.size (.tup [x,y])) b:=λb hb=>by
   obtain⟨f0,f⟩:=hf b hb;exact⟨by rw[Ap (by
   simp only[sQ,tq,or_false]at hb;rcases hb with rfl|rfl|rfl|rfl|rfl
   .exact fU hz
   .exact fU bt
   .exact fU bM
   .obtain⟨o,e,_⟩:=h1.obj;exact fU e
   .obtain⟨o,e,_⟩:=h2.obj;exact fU e)];exact f0,f⟩
  refine⟨.ref s.heap.objs.size,_,(Il.Ir (λb o hb e=>by
   have nz:b≠z:=λq=>hb (by simp[q])
   refine sb.extBut _ _ nz ?_;by_cases hbT:b=s.heap.objs.size
   .subst hbT;have e':(s.heap.push {cls:=.type "tuple",data:=.seq #[u1,u2]}).get? s.heap.objs.size=some o:=e;rw[sP _ rfl]at e';cases e';exact lg
   .have e':(s.heap.push {cls:=.type "tuple",data:=.seq #[u1,u2]}).get? b=some o:=e;rw[Heap.get?_push_ne _ _ _ hbT]at e';exact fZ b o nz (λq=>hb (by simp[q])) (λq=>hb (by simp[q])) (λq=>hb (by simp[q])) e') jM),rfl,⟨s.heap.objs.size,x,y,I.zZ.fresh (sV _),rfl,rfl,λzs hz=>by rw[I.N9 hz q1];exact ex,λzs hz=>by rw[I.N9 hz q2];exact ey⟩,?_,λb hb=>(jM b hb).1⟩
  exact⟨kB,sb.extBut _ _ gz (fZ _ _ gz dD cU cV bt),⟨_,_,sb.extBut _ _ fj lh⟩,rH.1.at λo e=>sb.extBut _ _ dP e,rK.1.at λo e=>sb.extBut _ _ eN e⟩
 done:=by
  intro X hP hw hK hc i ae s U H E I hf st hg;subst hP hw hK;obtain⟨hz,bt,⟨ta,tb,bM⟩,h1,h2⟩:=st;obtain⟨xs,ys,q1,q2,bP⟩:=hg;obtain⟨cG,r1,c1,z1⟩:=I.sqb q1;obtain⟨aI,r2,c2,z2⟩:=I.sqb q2;have e1:=r1.length;have e2:=r2.length;obtain⟨_,_,⟨de,bH,df,cH,cb,bI⟩⟩:=id D;refine Zp.HL (I.ok.hd hc) D (Zp.BF b1 bH) (Zp.BF b2 bI) hz bt bM ⟨h1,c1⟩ ⟨h2,c2⟩ ?_ λh' hk=>⟨rfl,I.Ir (λb o hb e=>hk b o (λq=>hb (by simp[q])) (λq=>hb (by simp[q])) (λq=>hb (by simp[q])) (λq=>hb (by simp[q])) e) hf⟩
  rcases bP with z|z
  .exact .inl (by simp;omega)
  .exact .inr (by simp;omega)
 self:=λ_ _ _ _ _ st h=>wpAny_pyIter_zip st.1 h
end L2
namespace PySem
namespace Zp
theorem made(c1:EA b1 h l1 xs)(c2:EA b2 h l2 ys):
  ∃z TI TO i1 i2,z=(z4 h (CK b1) (CK b2) l1 l2).objs.size/\h.objs.size<=z/\h.objs.size<=TI/\h.objs.size<=TO/\h.objs.size<=i1/\h.objs.size<=i2/\Apart z TI TO i1 i2 l1 l2 /\
   IsZip (z5 h (CK b1) (CK b2) l1 l2) z TI TO .none/\IsPair (z5 h (CK b1) (CK b2) l1 l2) TI (.ref i1) (.ref i2)/\IsPair (z5 h (CK b1) (CK b2) l1 l2) TO .none .none /\
   Ju b1 (z5 h (CK b1) (CK b2) l1 l2) i1 l1 0/\Ju b2 (z5 h (CK b1) (CK b2) l1 l2) i2 l2 0/\∀c o,h.get? c=some o->(z5 h (CK b1) (CK b2) l1 l2).get? c=some o:=by
 have s1:(z1 h (CK b1) l1).objs.size=h.objs.size+1:=ue ..;have s2:(z2 h (CK b1) (CK b2) l1 l2).objs.size=h.objs.size+2:=by unfold z2;rw[ue,s1]
 have s3:(z3 h (CK b1) (CK b2) l1 l2).objs.size=h.objs.size+3:=by unfold z3;rw[ue,s2]
 have s4:(z4 h (CK b1) (CK b2) l1 l2).objs.size=h.objs.size+4:=by unfold z4;rw[ue,s3]
 have lt:∀{b:Bool}{l:Addr}{xs:Array Value},EA b h l xs->l<h.objs.size:=λ{b l xs} c=>by
  cases b
  .obtain⟨o,e,_⟩:=c;exact sO e
  .obtain⟨o,e,_⟩:=c;exact sO e
 have t1:@LT.lt Nat _ l1 h.objs.size:=lt c1;have t2:@LT.lt Nat _ l2 h.objs.size:=lt c2;refine⟨(z4 h (CK b1) (CK b2) l1 l2).objs.size,(z2 h (CK b1) (CK b2) l1 l2).objs.size,(z3 h (CK b1) (CK b2) l1 l2).objs.size,h.objs.size,(z1 h (CK b1) l1).objs.size,rfl,by omega,by omega,by omega,by omega,by omega,⟨?_,?_,?_⟩,?_,?_,?_,?_,?_,?_⟩
 .rw[s1,s2,s3,s4];refine⟨?_,?_,?_,?_,?_,?_⟩<;>(intro e;have e2:@Eq Nat _ _:=e;omega)
 .rw[s1,s2,s3];refine⟨?_,?_,?_,?_,?_,?_⟩<;>(intro e;have e2:@Eq Nat _ _:=e;omega)
 .rw[s1,s3];refine⟨?_,?_,?_,?_,?_,?_⟩<;>(intro e;have e2:@Eq Nat _ _:=e;omega)
 .exact sP _ rfl
 .exact sF _ (sF _ (sP _ rfl))
 .exact sF _ (sP _ rfl)
 .exact Ju.new (sF _ (sF _ (sF _ (sF _ (sP _ rfl)))))
 .exact Ju.new (sF _ (sF _ (sF _ (sP _ rfl))))
 .exact λc o e=>sF _ (sF _ (sF _ (sF _ (sF _ e))))
end Zp
end PySem
namespace L2
open PySem PySem.Spec PyProof.Rows
def iZip(K:Fg)(ta:TA):TI:=λU H R=>ta U H λvs H1=>∃b1 a1 b2 a2,vs=[.ref a1,.ref a2]/\(∃xs,SqB b1 K H1 a1 xs)/\(∃ys,SqB b2 K H1 a2 ys)/\R (Itz K b1 a1 b2 a2) H1
theorem X8(hg:Gl X "zip")(hm:X.mg "zip"=none)(ha:PA X [a,b] ta)(hs:starEach [a,b] X.env=[(false,eval a X.env),(false,eval b X.env)]:=by rfl)(bw:starEach [b] X.env=[(false,eval b X.env)]:=by rfl):
  PI X (.Tuple fm k0 cf) (.Call (.Name "zip" p) [a,b] [] pos) (iZip X.K ta):=by
 intro ae s U H R I h;refine Call_ (DS I hg hm boot_zip (callWith_type1 (thn (ha pos ae s U H _ I h) λus s1 ⟨vs,H1,I1,r1,q1⟩=>?_) (by rw[hs,bw]) (by rw[bw];rfl)));obtain⟨b1,a1,b2,a2,e,⟨xs,hx⟩,⟨ys,hy⟩,q⟩:=q1;subst e;cases r1 with
 |cons r rr =>
  cases rr with
  |cons r' rr =>
   cases rr;cases r;cases r';obtain⟨cG,ml,c1,_⟩:=I1.sqb hx;obtain⟨aI,mm,c2,_⟩:=I1.sqb hy;refine Zp.MF (C1:=λh=>Zp.EA b1 h a1 cG.toArray) (C2:=λh=>Zp.EA b2 h a2 aI.toArray) (Zp.Mn b1 a1 cG.toArray) (Zp.Mn b2 a2 aI.toArray) (λh o c=>Zp.EA.at c λo e=>sF _ e) c1 c2 ?_;obtain⟨z,TI,TO,i1,i2,ez,g0,g1,g2,g3,g4,D,hz,bt,bM,t1,t2,hk⟩:=Zp.made c1 c2;rw[<- ez];refine wpAny_pyIter_zip hz ⟨z,[z,TI,TO,i1,i2],_,Itz X.K b1 a1 b2 a2,H1,rfl,I1.kept hk,QB D,⟨hz,bt,⟨_,_,bM⟩,t1,t2⟩,λb hb=>?_,q⟩;have jN:s1.heap.objs.size<=b:=by simp only[sQ,tq,or_false]at hb;rcases hb with rfl|rfl|rfl|rfl|rfl<;>assumption
   exact I1.Sn jN (I1.zZ.fresh jN)
end L2
namespace PySem
theorem LA(l b:Addr)(items c0:Array Value)(n n2:Nat)(i7:Option Addr)(jh:Array (Option Value))(gY:¬(!items.isEmpty&&Builtin.List.listTooLong (items.size+c0.size))=true)(so:items.size<=sizeLine)(bw:items.size+c0.size<=sizeLine+1):
  Meets (Builtin.«list.extend» ⟨[.ref l,.ref b],[]⟩) (λ_ R s=>s.heap.get? l=some {cls:=.type "list",dict:=none,data:=.seq items n,slots:=#[]}/\s.heap.get? b=some {cls:=.type "tuple",dict:=i7,data:=.seq c0 n2,slots:=jh} /\
   R (.ok (.ret Value.none)) {s with heap:=s.heap.update l (Obj.mapSeq λx=>x++c0),toks:=s.toks}) :=
 .of_wp λprog w A R s h=>by
  obtain⟨hp,g,d,tk,os⟩:=s;obtain⟨hl,hb,h⟩:=h;have f1:=AutoSeq1.idx_int;have f2:=AutoSeq1.sub_tuple_tuple;have f3:=AutoSeq1.sub_list_list;have f4:=AutoSeq1.sub_tuple_list;have f5:=AutoSeq1.sub_list_tuple
  wp_walk using (wpAny_updateSeq hl rfl),wpAny_loadPart' hl,wpAny_loadPart' hb
  exact⟨_,rfl,h⟩
end PySem
namespace L2
open PySem PySem.Spec PyProof.Rows
variable{X:Cx}
def QY(K:Fg):V->List V->Hp->VK->Prop:=λx vs H Q=>∃l b xs zs,x=.ref l/\vs=[.ref b]/\H l=some (.lst xs)/\SqT K H b zs/\xs.length+zs.length<=sizeLine/\Q .v (upd H l (.lst (xs++zs)))
theorem VI:MtM X "list.extend" (QY X.K):=by
 intro ae s U H x vs v us Q I rx rv h;obtain⟨l,b,xs,zs,rfl,rfl,hH,hB,hz,q⟩:=h;cases rx;obtain⟨u,rfl,ru⟩:=rv.one;cases ru;obtain⟨z,ak,n,r,hl,e⟩:=I.VR hH;obtain⟨aI,r2,⟨⟨cls,dd,data,sl⟩,ho,hc,n2,hd⟩,z2⟩:=I.tuple hB;simp only at hc hd;subst hc hd;have e2:=r2.length;have hsz:ak.toArray.size+aI.toArray.size<=sizeLine:=by rw[sJ,sJ];omega
 refine call_meets F.slot_list_extend ⟨_,e,rfl⟩ F.entry_list_extend (F.args_list_extend_2 _ _) (LA l b ak.toArray aI.toArray n n2 dd sl (by rw[Mf hsz,Bool.and_false];exact tm) (by rw[sJ];omega) (by omega)) ⟨e,ho,?_⟩;refine⟨.v,_,I.Jal hH e (by simp) (r.append r2) ?_,rfl,q⟩;rw[tM];omega
def Tu(K:Fg):R2:=λx y H Q=>∃a b ys,x=.ref a/\y=.ref b/\SqT K H a []/\SqT K H b ys/\Q (.ref b) H
theorem Rh:OpR X (binaryOp .Add) (Tu X.K):=by intro ae s U H x y v u Q I rx ry h;obtain⟨a,b,ys,rfl,rfl,ha,hb,q⟩:=h;cases rx;cases ry;obtain⟨ak,r1,⟨⟨cls,dd,data,sl⟩,ho,hc,n,hd⟩,_⟩:=I.tuple ha;obtain⟨aI,r2,⟨⟨kU,i7,data2,jh⟩,iR,dr,n2,hd2⟩,_⟩:=I.tuple hb;simp only at hc hd dr hd2;subst hc hd dr hd2;cases r1;exact concat_meets ⟨_,ho,rfl⟩ ⟨_,iR,rfl⟩ noFill_tuple_add seq_tuple_add slot_tuple_add entry_tuple_add (args_tuple_add_2 _ _) (tuple_addW0 a b _ _ n n2 dd i7 sl jh (by simp)) ⟨ho,iR,⟨.ref b,H,I,rfl,q⟩⟩
end L2
namespace PySem
namespace Zp
abbrev Jp(h:Heap)(z TI TO a:Addr)(f:Bool):Prop:=h.get? z=some {cls:=.type "zip",data:=.fields #[rawInt a,.bool f,.bool false,.ref TI,.ref TO]}
variable{prog:Program}{w:World}{A:Around}{E:Value->Shared->Prop}{s:Shared}{z TI TO i1 i2 l1 l2 ad:Addr}{xs ys:Array Value}{S1 S2:Nat->Heap->Prop}
theorem alive(ho:s.heap.get? a=some o)(h:Q (some o) s):wpAny (model prog w) A (loadIfAlive a) Q E s:=by
 have h':Q (s.heap.get? a) s:=by rw[ho];exact h
 exact λ_ _ _=>h'
theorem OF(hz:Jp s.heap z TI TO ad f)(ha:s.heap.get? ad=some oa)(hQ:∀h',Jp h' z TI TO ad true->Heap.SameBut z s.heap h'->Q false {s with heap:=h' }):
  wpAny (model prog w) A (Builtin.SmallTypes.ownedTupleIsFree (.ref z)) Q E s:=by
 unfold Builtin.SmallTypes.ownedTupleIsFree;refine sE (tN hz rfl rfl ?_);show wpAny _ _ (loadIfAlive ((ad:Int).toNat) >>= _) _ _ _;rw[uK];refine sE (alive ha ?_);simp only[Option.isNone_some,tY,if_false];refine sE (tN hz rfl (x:=.bool f) rfl ?_);cases f with|true =>rw[if_neg (show ¬((Value.bool true !=Value.bool true)=true)from tm)];exact sM (hQ s.heap hz (Heap.SameBut.refl _ _))|false =>rw[if_pos (show(Value.bool false !=Value.bool true)=true from rfl)];exact sE (wpAny_setField_rec hz (by simp) λh3 he hs=>sM (hQ h3 he hs))
theorem OJ(D:Apart z TI TO i1 i2 l1 l2)(W1:Draws prog w i1 l1 xs S1)(W2:Draws prog w i2 l2 ys S2){Q:Value->Shared->Prop}
  (hz:Jp s.heap z TI TO ad f) (ha:s.heap.get? ad=some oa) (bt:IsPair s.heap TI (.ref i1) (.ref i2)) (h1:S1 k s.heap) (h2:S2 k s.heap) (hx:xs[k]?=some x) (hy:ys[k]?=some y)
  (hQ:∀h',Jp h' z TI TO ad true->S1 (k+1) h'->S2 (k+1) h'->IsPair h' s.heap.objs.size x y->h'.objs.size=s.heap.objs.size+1 ->
   (∀c o,c≠z->c≠i1->c≠i2->s.heap.get? c=some o->h'.get? c=some o)->Q (.ref s.heap.objs.size) {s with heap:=h' }) :
  wpAny (model prog w) A (Builtin.«zip.__next__» ⟨[.ref z],[]⟩) (λba s'=>∃v,ba=.done (.ret v)/\Q v s') E s:=by
 obtain⟨⟨gz,fj,dP,eN,gj,gk⟩,⟨dD,cU,cV,cB,cD,fI⟩,⟨de,bH,df,cH,cb,bI⟩⟩:=D;show wpAny _ _ (field (.ref z) 2 >>= _) _ _ _;refine sE (tN hz rfl rfl ?_);show wpAny _ _ (field (.ref z) 3 >>= _) _ _ _;refine sE (tN hz rfl rfl ?_);refine sE (wpAny_seqItems bt rfl ?_);show wpAny _ _ (Builtin.SmallTypes.ownedTupleIsFree (.ref z) >>= _) _ _ _;refine sE (OF hz ha λhA nq fA=>?_);simp only[tY,if_false];simp only[<- Array.forIn_toList,ux,List.forIn_nil];refine sE (sE (sE (wpAny_holding ?_)));show wpAny _ _ (Builtin.SmallTypes.nextOf (.ref i1) >>= _) _ _ _;refine sE (W1.item _ _ k x _ _ (W1.keep _ _ _ h1 (λo e=>fA.extBut _ _ dP e) λo e=>fA.extBut _ _ gj e) hx λhb jw bB=>sM (sM ?_));refine sE (sE (wpAny_holding ?_));show wpAny _ _ (Builtin.SmallTypes.nextOf (.ref i2) >>= _) _ _ _;refine sE (W2.item _ _ k y _ _ (W2.keep _ _ _ h2 (λo e=>bB.extBut _ _ (Ne.symm fI) (fA.extBut _ _ eN e)) λo e=>bB.extBut _ _ cb (fA.extBut _ _ gk e)) hy λhd k9 dI=>sM (sM (sM ?_)));refine sE (wpAny_newTuple (hsz:=by show 2<=sizeLine;rw[sizeLine_eq];decide) ?_);have hsz:hd.objs.size=s.heap.objs.size:=by rw[dI.1,bB.1,fA.1]
 refine sM ⟨_,rfl,?_⟩;show Q (.ref hd.objs.size) _;rw[hsz];refine hQ _ (sF _ (dI.extBut _ _ (Ne.symm eN) (bB.extBut _ _ (Ne.symm dP) nq))) (W1.keep _ _ _ (W1.keep _ _ _ jw (λo e=>dI.extBut _ _ fI e) λo e=>dI.extBut _ _ df e) (λo e=>sF _ e) λo e=>sF _ e) (W2.keep _ _ _ k9 (λo e=>sF _ e) λo e=>sF _ e) ?_ (by rw[ue,hsz]) λc o c1 c2 c3 e=>sF _ (dI.extBut _ _ c3 (bB.extBut _ _ c2 (fA.extBut _ _ c1 e)))
 rw[<- hsz];exact sP _ rfl
theorem SG(hh:A.handled=none)(D:Apart z TI TO i1 i2 l1 l2)(W1:Draws prog w i1 l1 xs S1)(W2:Draws prog w i2 l2 ys S2)
  (hz:Jp s.heap z TI TO ad f) (ha:s.heap.get? ad=some oa) (bt:IsPair s.heap TI (.ref i1) (.ref i2)) (h1:S1 k s.heap) (h2:S2 k s.heap) (bP:xs[k]?=none\/ys[k]?=none)
  (hE:∀h' e,(∀c o,c≠z->c≠i1->c≠i2->s.heap.get? c=some o->h'.get? c=some o)->(∃o,h'.get? e=some o/\o.cls=.type "StopIteration")->E (.ref e) {s with heap:=h' }) :
  wpAny (model prog w) A (Builtin.«zip.__next__» ⟨[.ref z],[]⟩) Q E s:=by
 obtain⟨⟨gz,fj,dP,eN,gj,gk⟩,⟨dD,cU,cV,cB,cD,fI⟩,⟨de,bH,df,cH,cb,bI⟩⟩:=D;show wpAny _ _ (field (.ref z) 2 >>= _) _ _ _;refine sE (tN hz rfl rfl ?_);show wpAny _ _ (field (.ref z) 3 >>= _) _ _ _;refine sE (tN hz rfl rfl ?_);refine sE (wpAny_seqItems bt rfl ?_);show wpAny _ _ (Builtin.SmallTypes.ownedTupleIsFree (.ref z) >>= _) _ _ _;refine sE (OF hz ha λhA nq fA=>?_);simp only[tY,if_false];simp only[<- Array.forIn_toList,ux,List.forIn_nil];refine sE (sE (sE (wpAny_holding ?_)));show wpAny _ _ (Builtin.SmallTypes.nextOf (.ref i1) >>= _) _ _ _;have jv:=W1.keep _ _ _ h1 (λo e=>fA.extBut _ _ dP e) λo e=>fA.extBut _ _ gj e
 cases hx:xs[k]? with
 |none=>exact sE (W1.stop _ _ k _ _ hh jv hx λhb e bB he=>hE hb e (λc o c1 c2 c3 q=>bB _ _ c2 (fA.extBut _ _ c1 q)) he)
 |some x =>
  refine sE (W1.item _ _ k x _ _ jv hx λhb jw bB=>sM (sM ?_));refine sE (sE (wpAny_holding ?_));show wpAny _ _ (Builtin.SmallTypes.nextOf (.ref i2) >>= _) _ _ _;exact sE (W2.stop _ _ k _ _ hh (W2.keep _ _ _ h2 (λo e=>bB.extBut _ _ (Ne.symm fI) (fA.extBut _ _ eN e)) λo e=>bB.extBut _ _ cb (fA.extBut _ _ gk e)) (by
   rcases bP with h|h
   .rw[hx]at h;cases h
   .exact h) λhd e dI he=>hE hd e (λc o c1 c2 c3 q=>dI _ _ c3 (bB.extBut _ _ c2 (fA.extBut _ _ c1 q))) he)
theorem K5(D:Apart z TI TO i1 i2 l1 l2)(W1:Draws prog w i1 l1 xs S1)(W2:Draws prog w i2 l2 ys S2)
  (hz:Jp s.heap z TI TO ad f) (ha:s.heap.get? ad=some oa) (bt:IsPair s.heap TI (.ref i1) (.ref i2)) (h1:S1 k s.heap) (h2:S2 k s.heap) (hx:xs[k]?=some x) (hy:ys[k]?=some y)
  (hQ:∀h',Jp h' z TI TO ad true->S1 (k+1) h'->S2 (k+1) h'->IsPair h' s.heap.objs.size x y->h'.objs.size=s.heap.objs.size+1 ->
   (∀c o,c≠z->c≠i1->c≠i2->s.heap.get? c=some o->h'.get? c=some o)->Q (some (.ref s.heap.objs.size)) {s with heap:=h' }):wpAny (model prog w) A (pyNext (.ref z)) Q E s:=by
 have hT:s.TypeIs (.ref z) "zip":=⟨_,hz,rfl⟩
 unfold pyNext;exact sE (wpAny_attempt (wpAny_callSpecial?_slot hT F.slot_zip_next (wpAny_call_entry F.slot_zip_next hT F.entry_zip_next
  (OJ D W1 W2 hz ha bt h1 h2 hx hy λh' a1 a3 a4 a5 a6 a7=>sM (hQ h' a1 a3 a4 a5 a6 a7)) (F.args_zip_next_1 _))))
theorem MY(hh:A.handled=none)(D:Apart z TI TO i1 i2 l1 l2)(W1:Draws prog w i1 l1 xs S1)(W2:Draws prog w i2 l2 ys S2)
  (hz:Jp s.heap z TI TO ad f) (ha:s.heap.get? ad=some oa) (bt:IsPair s.heap TI (.ref i1) (.ref i2)) (h1:S1 k s.heap) (h2:S2 k s.heap) (bP:xs[k]?=none\/ys[k]?=none)
  (hQ:∀h',(∀c o,c≠z->c≠i1->c≠i2->s.heap.get? c=some o->h'.get? c=some o)->Q none {s with heap:=h' }):wpAny (model prog w) A (pyNext (.ref z)) Q E s:=by
 have hT:s.TypeIs (.ref z) "zip":=⟨_,hz,rfl⟩
 unfold pyNext;refine sE (wpAny_attempt (wpAny_callSpecial?_slot hT F.slot_zip_next (wpAny_call_entry F.slot_zip_next hT F.entry_zip_next
  (SG (show A.in1.handled=none from hh) D W1 W2 hz ha bt h1 h2 bP λh' e hk he=>?_) (F.args_zip_next_1 _))))
 obtain⟨o,ho,hc⟩:=he;refine sE (wpAny_isInstance ⟨o,ho,hc⟩ isSubtype_stop ?_);exact sM (hQ _ hk)
def Frs(b1 b2:Bool)(h:Heap)(z TI TO i1 i2 l1 l2 lo:Addr)(i:Nat):Prop :=
 ((i=0/\IsZip h z TI TO .none/\∃a b,IsPair h TO a b)\/∃ad f oa,Jp h z TI TO ad f/\h.get? ad=some oa/\lo<=ad)/\IsPair h TI (.ref i1) (.ref i2)/\Ju b1 h i1 l1 i/\Ju b2 h i2 l2 i
theorem Frs.keep(x:Frs b1 b2 h z TI TO i1 i2 l1 l2 lo i)(hk:∀b o,b≠S->h.get? b=some o->h'.get? b=some o)(hS:∀b∈[z,TI,TO,i1,i2],b≠S)(cg:S<lo):Frs b1 b2 h' z TI TO i1 i2 l1 l2 lo i:=by
 obtain⟨x,p,t1,t2⟩:=x;refine⟨?_,hk _ _ (hS _ (by simp)) p,t1.at λo e=>hk _ o (hS _ (by simp)) e,t2.at λo e=>hk _ o (hS _ (by simp)) e⟩;rcases x with⟨e,hz,a,b,ht⟩|⟨ad,f,oa,hz,ha,hl⟩
 .exact .inl ⟨e,hk _ _ (hS _ (by simp)) hz,a,b,hk _ _ (hS _ (by simp)) ht⟩
 .exact .inr ⟨ad,f,oa,hk _ _ (hS _ (by simp)) hz,hk _ _ (λq=>absurd (sT cg hl) (by rw[q];exact tZ _)) ha,hl⟩
variable{lo S:Addr}{b1 b2:Bool}{R:Result->Shared->Prop}
theorem QE(D:Apart z TI TO i1 i2 l1 l2)(st:Frs b1 b2 s.heap z TI TO i1 i2 l1 l2 lo k)(c1:EA b1 s.heap l1 xs)(c2:EA b2 s.heap l2 ys)(hx:xs[k]?=some x)(hy:ys[k]?=some y)(hl:lo<=s.heap.objs.size)(cg:∀b∈[z,TI,TO,i1,i2,l1,l2],b<lo)
  (hQ:∀h',Frs b1 b2 h' z TI TO i1 i2 l1 l2 lo (k+1)->EA b1 h' l1 xs->EA b2 h' l2 ys->IsPair h' s.heap.objs.size x y->h'.objs.size=s.heap.objs.size+1 ->
   (∀c o,c≠z->c≠TO->c≠i1->c≠i2->s.heap.get? c=some o->h'.get? c=some o)->Q (some (.ref s.heap.objs.size)) {s with heap:=h' }):wpAny (model prog w) A (pyNext (.ref z)) Q E s:=by
 obtain⟨x0,p,t1,t2⟩:=st;obtain⟨⟨gz,fj,dP,eN,gj,gk⟩,⟨dD,cU,cV,cB,cD,fI⟩,⟨de,bH,df,cH,cb,bI⟩⟩:=id D;rcases x0 with⟨e,hz,a,b,ht⟩|⟨ad,f,oa,hz,ha,bU⟩
 .exact HK D (BF b1 bH) (BF b2 bI) hz p ht ⟨t1,c1⟩ ⟨t2,c2⟩ hx hy λh' iZ _ s1 s2 hp hs hk=>hQ h' ⟨.inr ⟨_,false,_,iZ,hp,hl⟩,hk _ _ gz dD cU cV p,s1.1,s2.1⟩ s1.2 s2.2 hp hs hk
 .have bV:∀b∈[z,TI,TO,i1,i2,l1,l2],ad≠b:=λb hb q=>absurd (sT (cg b hb) bU) (by rw[q];exact tZ _)
  exact K5 D (BF b1 bH) (BF b2 bI) hz ha p ⟨t1,c1⟩ ⟨t2,c2⟩ hx hy λh' iZ s1 s2 hp hs hk=>hQ h' ⟨.inr ⟨ad,true,oa,iZ,hk _ _ (bV _ (by simp)) (bV _ (by simp)) (bV _ (by simp)) ha,bU⟩,hk _ _ gz cU cV p,s1.1,s2.1⟩ s1.2 s2.2 hp hs λc o q1 _ q3 q4 e=>hk c o q1 q3 q4 e
theorem WH(hh:A.handled=none)(D:Apart z TI TO i1 i2 l1 l2)(st:Frs b1 b2 s.heap z TI TO i1 i2 l1 l2 lo k)(c1:EA b1 s.heap l1 xs)(c2:EA b2 s.heap l2 ys)(bP:xs[k]?=none\/ys[k]?=none)
  (hQ:∀h',(∀c o,c≠z->c≠TO->c≠i1->c≠i2->s.heap.get? c=some o->h'.get? c=some o)->Q none {s with heap:=h' }):wpAny (model prog w) A (pyNext (.ref z)) Q E s:=by
 obtain⟨x0,p,t1,t2⟩:=st;obtain⟨⟨gz,fj,dP,eN,gj,gk⟩,⟨dD,cU,cV,cB,cD,fI⟩,⟨de,bH,df,cH,cb,bI⟩⟩:=id D;rcases x0 with⟨e,hz,a,b,ht⟩|⟨ad,f,oa,hz,ha,bU⟩
 .exact HL hh D (BF b1 bH) (BF b2 bI) hz p ht ⟨t1,c1⟩ ⟨t2,c2⟩ bP hQ
 .exact MY hh D (BF b1 bH) (BF b2 bI) hz ha p ⟨t1,c1⟩ ⟨t2,c2⟩ bP λh' hk=>hQ h' λc o q1 _ q3 q4 e=>hk c o q1 q3 q4 e
end Zp
end PySem
namespace PySem
namespace F
end F
namespace Zp
variable{prog:Program}{w:World}{A:Around}{E:Value->Shared->Prop}{s:Shared}{z TI TO i1 i2 l1 l2 S:Addr}{xs ys:Array Value}{b1 b2:Bool}{R:Result->Shared->Prop}
end Zp
end PySem
namespace L2
open PySem PySem.Spec PyProof.Rows
variable{X:Cx}{ae:List (Addr×Obj)}{U:St}{H H':Hp}{s:Shared}
theorem Inv.VS{fp:List Addr}(I:Inv X ae U H s)(k:∀b o,b∉fp->s.heap.get? b=some o->h'.get? b=some o)(hf:∀b∈fp,KS X ae H b)
  (up:∀b u,H b=some u->H' b=some u) (dn:∀b u,H' b=some u->H b=some u\/(s.heap.objs.size<=b/\BJ X.prog X.w H' h' b u)):Inv X ae U H' {s with heap:=h',toks:=t' }:=by
 have gm:∀b u,H b=some u->b∉fp:=λb u e z=>by rw[(hf b z).1]at e;cases e
 refine I.step (λb hb=>?_) (λb o _ _ hc e _=>k b o hc e) (λb o _ _ hc e _=>⟨o.slots,k b o hc e⟩) (λb o _ e n=>?_)
  (λb o hc e=>⟨o,k b o hc e⟩) (λb _ e=>up b _ e) (λb _ _ e=>up b _ e) (λb ps e=>⟨#[],by rw[up b _ e];simp⟩) (λm hm=>?_) (λb u e=>?_) I.bare
 .obtain⟨f0,f1,f2,f3,f4,f5⟩:=hf b hb;exact⟨f3,f1,f4,f5⟩
 .cases q:H' b with
  |none=>rfl
  |some u =>
   rcases dn b u q with z|z
   .rw[n]at z;cases z
   .exact absurd (sT (sO e) z.1) (tZ _)
 .obtain⟨o,es,ep,ho,r⟩:=hm;exact⟨o,es,ep,k _ o (λz=>(hf _ z).2.1 rfl) ho,r⟩
 .rcases dn b u e with z|z
  .refine(I.zZ b u z).N7 (λc v hc q=>k c v ?_ q) (λc q=>up c _ q) λc _ q=>up c _ q
   rcases hc with y|y
   .rw[y];exact gm b u z
   .exact gm c _ y
  .exact z.2
end L2
namespace PySem
namespace F
theorem Lf:typeLookup (.type "tuple") "__reversed__"=pure none:=by rw[typeLookup_type,builtinLookup_eq_fast];kernel_rfl
theorem Md:Manifest.owners.lookup (String.ofList ['d','e','s','r','e','v','e','r'].reverse)=some Manifest.sig_reversed:=by kernel_rfl
theorem Ce:Slot "reversed" "__next__" "reversed.__next__" :=
 .of (owner:="reversed") (n:="__next__") (by rw[typeLookup_type,builtinLookup_eq_fast];kernel_rfl) (by decide +kernel) (by decide +kernel) (by decide +kernel)
  (by first|exact .inl (by decide +kernel)|exact .inr (by decide +kernel)) (by rw[isSubtype_type];kernel_rfl)
theorem EO:entryFor table "reversed.__next__"=some Builtin.«reversed.__next__»:=entryFor_of_tree (by kernel_rfl)
theorem Fz(a:Value):argsOk "reversed.__next__" ⟨[a],[]⟩:=by unfold argsOk;rw[signature?_of (n:=['_','_','t','x','e','n','_','_']) (by kernel_rfl) Md];kernel_rfl
theorem Fo:Slot "reversed" "__iter__" "reversed.__iter__" :=
 .of (owner:="reversed") (n:="__iter__") (by rw[typeLookup_type,builtinLookup_eq_fast];kernel_rfl) (by decide +kernel) (by decide +kernel) (by decide +kernel)
  (by first|exact .inl (by decide +kernel)|exact .inr (by decide +kernel)) (by rw[isSubtype_type];kernel_rfl)
theorem KQ(a:Value):argsOk "reversed.__iter__" ⟨[a],[]⟩:=by unfold argsOk;rw[signature?_of (n:=['_','_','r','e','t','i','_','_']) (by kernel_rfl) Md];kernel_rfl
theorem Jc:entryFor table "reversed.__iter__"=some Builtin.«dict_keyiterator.__iter__» :=
 entryFor_alias (id':="dict_keyiterator.__iter__") (by kernel_rfl) (by first|rfl|decide +kernel|(unfold String.splitOn;simp +decide [String.splitOnAux])) (by decide +kernel) (by kernel_rfl)
theorem JD:Slot "reversed" "__init__" "object.__init__" :=
 .of (owner:="object") (n:="__init__") (by rw[typeLookup_type,builtinLookup_eq_fast];kernel_rfl) (by decide +kernel) (by decide +kernel) (by decide +kernel)
  (by first|exact .inl (by decide +kernel)|exact .inr (by decide +kernel)) (by rw[isSubtype_type];kernel_rfl)
theorem P9:TypeCalled "reversed" "reversed.__new__" "object.__init__" :=
 ⟨by decide +kernel,by decide +kernel,⟨_,_,mro_reversed⟩,made_reversed,by decide +kernel,by rw[isSubtype_type];kernel_rfl,JD⟩
end F
end PySem
namespace PySem
open PyProof.Rows (IsTup)
namespace Rv
def obj(t:Addr)(i:Int):Obj:={cls:=.type "reversed",data:=.fields #[.ref t,rawInt i]}
def Is(h:Heap)(a t:Addr)(i:Int):Prop:=∃o,h.get? a=some o/\o.cls=.type "reversed"/\o.data=.fields #[.ref t,rawInt i]
theorem Is.typeIs{s:Shared}(x:Is s.heap a t i):s.TypeIs (.ref a) "reversed":=let⟨o,ho,hc,_⟩:=x;⟨o,ho,hc⟩
theorem Is.at(x:Is h a t i)(e:∀o,h.get? a=some o->h'.get? a=some o):Is h' a t i:=let⟨o,ho,r⟩:=x;⟨o,e _ ho,r⟩
theorem Gv(t:Addr)(items:Array Value)(hz:items.size<=sizeLine):
  Meets (Builtin.«reversed.__new__» ⟨[.type "reversed",.ref t],[]⟩) (λ_ R s=>IsTup s.heap t items/\∀tk,R (.ok (.ret (.ref s.heap.objs.size))) {s with heap:=s.heap.push (obj t ((items.size:Int)-1)),toks:=tk}) :=
 .of_wp λprog w A R s h=>by
  obtain⟨ht,h⟩:=h;unfold Builtin.«reversed.__new__»;refine sE (wpAny_of_eq (newClass_reversed _) ?_)
  try dsimp only
  refine sE (wpAny_of_eq (by first|rfl|kernel_rfl) ?_);refine sE (wpAny_of_eq (by first|rfl|kernel_rfl) ?_)
  try dsimp only
  refine sE (wpAny_specialOf ht.typeIs F.Lf ?_)
  try dsimp only
  refine sE ?_;refine sE (wpAny_isInstance (b:=false) ht.typeIs (by rw[isSubtype_type];kernel_rfl) ?_);simp only[tY,if_false];refine sE (wpAny_specialOf ht.typeIs PyProof.Rows.slot_tuple_getitem.lookup ?_);dsimp only;refine wpAny_ite_split (λ_=>sM ?_) (λie=>absurd (by decide +kernel) ie);simp only[Bool.not_true,tY,if_false];refine sE (len_tuple ht (by rw[sizeLine_eq]at hz;omega) ?_);refine sE (sM ?_);dsimp only;unfold Builtin.SmallTypes.newRecord;refine sE (wpAny_newObj_type (sM ⟨_,rfl,h _⟩) (by size_fits))
variable{prog:Program}{w:World}{A:Around}{E:Value->Shared->Prop}{s:Shared}
theorem SW(hz:items.size<=sizeLine)(ht:IsTup s.heap t items)(h:∀tk,Q (.ref s.heap.objs.size) {s with heap:=s.heap.push (obj t ((items.size:Int)-1)),toks:=tk}):
  wpAny (model prog w) A (call (.type "reversed") [.ref t]) Q E s :=
 callType_new F.P9 (by decide) (F.typeCall_reversed_1 _) (F.newCall_reversed_1 _) (λob=>F.args_object_init_2 ob _) F.entry_reversed_new (Gv t items hz) ⟨ht,λtk=>⟨⟨_,sP _ rfl,rfl⟩,h tk⟩⟩
theorem next_item{i:Nat}(bc:Is s.heap it t (i:Int))(ht:IsTup s.heap t items)(hz:items.size<=sizeLine)(hx:items[i]?=some x)(bV:t≠it)
  (hQ:∀h' tk,s.toks<=tk->Is h' it t ((i:Int)-1)->Heap.SameBut it s.heap h'->Q (some x) {s with heap:=h',toks:=tk}):wpAny (model prog w) A (pyNext (.ref it)) Q E s:=by
 obtain⟨o,ho,hc,hd⟩:=id bc;have hi:i<items.size:=by
  rcases Nat.lt_or_ge i items.size with q|q
  .exact q
  .rw[Array.getElem?_eq_none q]at hx;cases hx
 rw[sizeLine_eq]at hz;unfold pyNext;refine sE (wpAny_attempt (wpAny_callSpecial?_slot bc.typeIs F.Ce
  (wpAny_call_entry F.Ce bc.typeIs F.EO ?_ (F.Fz _))))
 unfold Builtin.«reversed.__next__»;refine sE (wpAny_of_eq rfl ?_)
 try dsimp only
 refine sE (tN ho hd rfl ?_);refine sE (tN ho hd rfl ?_);show wpAny _ _ (if(i:Int)<0 then _ else _) _ _ s;rw[if_neg (by omega)];refine sE (wpAny_specialOf ht.typeIs PyProof.Rows.slot_tuple_getitem.lookup ?_);simp only[Option.isNone_some,tY,if_false];refine sE (wpAny_mkInt ?_);refine sE (wpAny_attempt (PyProof.Rows.getItem_tuple ht (by omega) (by omega) (by unfold seqIndex?;simp only[show ¬((i:Int)<0)from by omega,if_false];simp[hi]) hx ?_));dsimp only;refine sE (tN ho hd rfl ?_);dsimp only[rawInt];refine sE (wpAny_setField ho hd (by simp) ?_);refine sM ⟨x,rfl,sM (hQ _ _ ?_ ?_ (Heap.SameBut.update ..))⟩
 .exact tK (Nat.le_succ _) (sV _)
 .exact⟨_,t6 _ ho (Obj.isFreed_of_fields (Obj.data_mapFields hd _)),(Obj.cls_mapFields ..).trans hc,by rw[Obj.data_mapFields hd];simp[rawInt]⟩
theorem next_end(hh:A.handled=none)(bc:Is s.heap it t (-1))
  (hQ:∀h',Heap.ExtBut it s.heap h'->Q none {s with heap:=h' }):wpAny (model prog w) A (pyNext (.ref it)) Q E s:=by
 obtain⟨o,ho,hc,hd⟩:=id bc;unfold pyNext;refine sE (wpAny_attempt (wpAny_callSpecial?_slot bc.typeIs F.Ce
  (wpAny_call_entry F.Ce bc.typeIs F.EO ?_ (F.Fz _))))
 unfold Builtin.«reversed.__next__»;refine sE (wpAny_of_eq rfl ?_)
 try dsimp only
 refine sE (tN ho hd rfl ?_);refine sE (tN ho hd rfl ?_);show wpAny _ _ (if(-1:Int)<0 then _ else _) _ _ s;rw[if_pos (by decide)];refine sE (wpAny_rule ?_);refine sE ?_;refine sE (wpAny_setField ho hd (by simp) ?_);refine wpAny_setField (t6 (Obj.mapFields (λvs=>vs.setIfInBounds 1 (rawInt (-1)))) ho (Obj.isFreed_of_fields (Obj.data_mapFields hd _))) (Obj.data_mapFields hd _) (by simp) ?_;refine sE ?_;refine sE ?_;simp only[newExc,newTuple];refine sE (wpAny_newObj_type ?_ (by size_fits));refine sE (wpAny_of_eq (by first|rfl|(simp only[firstArgMember];rfl)) ?_);refine wpAny_newObj_type ?_ (by size_fits);simp only[raiseNew];refine sE (wpAny_handled ?_)
 first|rw[show A.in1.handled=none from hh]|rw[hh]
 refine sE (sM (wpAny_throw ?_));refine sE (wpAny_isInstance ⟨_,sP _ rfl,rfl⟩ isSubtype_stop ?_);refine sM (hQ _ ?_);exact λb ob hb e=>sF _ (sF _ ((Heap.SameBut.update ..).extBut b ob hb ((Heap.SameBut.update ..).extBut b ob hb e)))
theorem J7(bc:Is s.heap it t i)(h:Q (.ref it) s):wpAny (model prog w) A (pyIter (.ref it)) Q E s:=by refine wpAny_pyIter_slot bc.typeIs F.Fo (wpAny_call_entry F.Fo bc.typeIs F.Jc ?_ (F.KQ _));exact sM ⟨_,rfl,"reversed",_,bc.typeIs,F.Ce.lookup,h⟩
end Rv
end PySem
namespace PySem
open PyProof.Rows (IsTup)
namespace Rv
variable{prog:Program}{w:World}{A:Around}{E:Value->Shared->Prop}{s:Shared}
end Rv
end PySem
namespace L2
open PySem PySem.Spec PyProof.Rows
end L2
namespace HT
open PySem PyProof.Rows
variable{prog:Program}{w:World}{A:Around}{E:Value->Shared->Prop}{s:Shared}
theorem Fc{lo hi:Option Int}(ht:IsTup s.heap t items)(hs:s.heap.IsSliceOf sl vl vu .none)(pl:IsPart vl lo)(pu:IsPart vu hi)
  (hw:sIx items.size 0 lo=0/\sIx items.size items.size hi=items.size) (h:Q (.ref t) s):wpAny (model prog w) A (getItem (.ref t) (.ref sl)) Q E s:=by
 obtain⟨os,iT,jb,jL⟩:=id hs;unfold getItem
 try with_reducible refine wpAny_holding ?_
 first|refine sE (sM ?_)|skip
 refine sE (wpAny_sequenceKey ht.typeIs (by decide) ?_);refine sE (wpAny_callSpecial?_slot ht.typeIs slot_tuple_getitem
  (wpAny_call_entry slot_tuple_getitem ht.typeIs entry_tuple_getitem ?_ (args_tuple_getitem _ _)))
 show wpAny _ _ (Builtin.Tuple.tupleItemsOf (.ref t) >>= _) _ _ s;refine sE (tupleItemsOf_ ht ?_);refine sE (wpAny_typeOf (⟨os,iT,jb⟩) ?_);rw[if_pos (by decide)];refine sE (DD hs pl pu ?_);show wpAny _ _ (if(((sIx items.size 0 lo:Nat):Int)==0&&(1:Int)==1&&(sIx items.size items.size hi-sIx items.size 0 lo)==items.size)=true then _ else _) _ _ s;rw[if_pos (by rw[hw.1,hw.2];simp)];refine sE ?_;unfold Builtin.Tuple.tupleIsExact;refine sE (wpAny_typeOf ht.typeIs (sM ?_));rw[if_pos (by decide)];exact sE (wpAny_rule (sM ⟨_,rfl,sM h⟩))
end HT
namespace L2
open PySem PySem.Spec PyProof.Rows
def rSlA(K:Fg):V->Option Int->Option Int->Hp->VK->Prop:=λx lo hi H Q=>∃a xs,x=.ref a/\SqT K H a xs/\(HT.sIx xs.length 0 lo=0/\HT.sIx xs.length xs.length hi=xs.length)/\Q (.ref a) H
theorem XD:SlR X (rSlA X.K):=by
 intro ae s U H x v vl vu lo hi sl Q I rx hs pl pu h;obtain⟨a,xs,rfl,hx,hw,q⟩:=h;cases rx;obtain⟨ak,r,ht,hz⟩:=I.tuple hx;have hlen:ak.toArray.size=xs.length:=by rw[sJ];exact r.length.symm
 refine⟨"tuple",_,PyProof.Rows.slot_tuple_getitem.lookup,ht.typeIs,?_⟩;exact HT.Fc ht hs pl pu (by rw[hlen];exact hw) ⟨.ref a,H,I,rfl,q⟩
end L2
namespace L2
open PySem PySem.Spec PySem.W PyProof.Rows
def Cs:List Int->Nat
 | []=>0
 |n::ns=>Builtin.Int.intBits n+1+Cs ns
theorem Hc:∀ns:List Int,WData.weightAll (ns.map WData.int)=Cs ns
 | []=>by simp[WData.weightAll,Cs]
 |n::ns=>by simp only[sG,WData.weightAll,Cs,WData.weight,Hc ns];rfl
end L2
namespace L2
open PySem PySem.Spec
variable{prog:Program}{w:World}{A:Around}{E:Value->Shared->Prop}{s:Shared}
section
variable{K:Type}[DecidableEq K]{knd:KeyKind prog w K}
end
variable{X:Cx}{ae:List (Addr×Obj)}{U:St}{H:Hp}{a:Addr}
variable{o e f:Expr}{td ty tx:TE}{av aw:Pos}
theorem XS(h:Hy k u=true):RelV (kV k) u:=by
 cases k with
 |inl i =>
  have h:Value.isInt i u=true:=h;cases u<;>first
   |(simp[Value.isInt]at h;subst h;exact⟨_,rfl⟩)
   |(simp[Value.isInt]at h)
   |(cases h)
 |inr x =>
  have h:Value.isStrOf x u=true:=h;cases u<;>first
   |(simp[Value.isStrOf]at h;subst h;exact⟨_,rfl⟩)
   |(simp[Value.isStrOf]at h)
   |(cases h)
def Jbz(o:Obj):Nat:=match o.data with|.dict _ ep=>ep|_=>0
variable{o:Obj}{ah:List (Key×V)}
theorem Inv.Jbn(I:Inv X ae U H s)(e:H a=some (.frz o (.l ah))):(a==sysModules)=false/\∃vs,KV ah vs/\s.heap.DictAt (Bd X.prog X.w) a vs (Jbz o):=by
 obtain⟨h1,h2⟩:=(show BJ X.prog X.w H s.heap a (.frz o (.l ah))from I.zZ a _ e)
 obtain⟨z,hd,vs,aT,dd⟩:=(show ah.length<=sizeLine/\(a==sysModules)=false/\∃vs,KV ah vs/\s.heap.DictOf (Bd X.prog X.w) a vs from h2)
 refine⟨hd,vs,aT,?_⟩;obtain⟨o',es,ep,ho,hc,jG,r⟩:=dd;rw[h1]at ho;cases ho;refine⟨o,es,h1,hc,?_,r⟩;rw[jG];unfold Jbz;rw[jG]
theorem Inv.freeze(I:Inv X ae U H s)(e:H a=some (.l ah)):∃o,Inv X ae U (upd H a (.frz o (.l ah))) s:=by
 obtain⟨z,hd,vs,aT,dd⟩:=(show ah.length<=sizeLine/\(a==sysModules)=false/\∃vs,KV ah vs/\s.heap.DictOf (Bd X.prog X.w) a vs from((show BJ X.prog X.w H s.heap a (.l ah)from I.zZ a _ e)))
 obtain⟨o,es,ep,ho,r⟩:=id dd;exact⟨o,I.write (by rw[e];exact True.intro) (.inl rfl) (λ_ _ _ z=>z) ⟨o,ho⟩ ⟨ho,z,hd,vs,aT,dd⟩⟩
variable{tg:Expr}
theorem Ha(hc:X.calm=true):CV X (.type "list") (λxs H Q=>∃p ah,xs=[.ref p]/\Rd H p (.l ah)/\∀l,H l=none->Q (.ref l) (upd H l (.lst (ah.map λkv=>kV kv.1)))):=by
 intro ae s U H xs us Q I r h;obtain⟨p,ah,rfl,hp,q⟩:=h;obtain⟨u,rfl,rx⟩:=vals1 r;cases rx;obtain⟨z,hd,vs,aT,dd⟩:=Kq I.zZ hp;obtain⟨ep,da⟩:=dd.dictAt;refine PySem.W.kdl_call (PySem.W.kdl_dict hd) (I.ok.hd hc) da (by rw[<- (Paired.length aT)];exact z) λh' tk ax c' kp e cX=>?_
 refine⟨.ref s.heap.objs.size,_,I.laid kp (sV _) (show BJ X.prog X.w _ h' _ (.lst (ah.map λkv=>kV kv.1))from⟨by rw[sH];exact z,ax.toList,c',NP aT cX,by simpa using e⟩),rfl,q _ (I.zZ.fresh (sV _))⟩
theorem ND:CV X (.builtin "len") (λxs H Q=>∃a ah,xs=[V.ref a]/\Rd H a (.l ah)/\Q (.int ah.length) H):=by intro ae s U H xs us Q I r h;obtain⟨a,ah,rfl,ha,q⟩:=h;obtain⟨u,rfl,ru⟩:=vals1 r;cases ru;exact JbC I ha λt s' I'=>⟨.int ah.length,H,I',⟨t,rfl⟩,q⟩
end L2
namespace PySem
open PyProof.Rows
namespace So
variable{prog:Program}{w:World}{A:Around}{E:Value->Shared->Prop}{s:Shared}
end So
end PySem
namespace PySem
open PyProof.Rows
namespace So
variable{prog:Program}{w:World}{A:Around}{E:Value->Shared->Prop}{s:Shared}
end So
end PySem
namespace PySem
open PyProof.Rows
namespace So
variable{prog:Program}{w:World}{A:Around}{E:Value->Shared->Prop}{s:Shared}
end So
end PySem
namespace L2
open PySem PySem.Spec
variable{X:Cx}{ae:List (Addr×Obj)}{U:St}{H:Hp}{s:Shared}
end L2
namespace PySem
open PyProof.Rows (IsTup)
namespace Rv
variable{prog:Program}{w:World}{A:Around}{E:Value->Shared->Prop}{s:Shared}
end Rv
end PySem
namespace L2
open PySem PySem.Spec PyProof.Rows
end L2
namespace L2
open PySem PySem.Spec
variable{X:Cx}{tg:Expr}
end L2
namespace L2
open PySem PySem.Spec PyProof.Rows PySem.W
theorem OQ:∀(K:Fg),(K.map (·.1)).map h.get?=K.map (λp=>some p.2)->K.In h
 | [],_=>λa o e=>by cases e
 |p::K,hk=>λa o e=>by
  simp only[sG,List.cons.injEq]at hk;rw[tX]at e;by_cases q:a=p.1
  .subst q;rw[show(p.1==p.1)=true by simp]at e;cases e;exact hk.1
  .rw[show(a==p.1)=false by simpa using q]at e;exact OQ K hk.2 a o e
end L2
namespace L2
open PySem PySem.Spec PyProof.Rows
def ExT(h:Heap)(vs:Array Value)(a:Addr)(fl:Value):Option Addr->Prop
 |none=>vs[1]?=some .none
 |some T=>vs[1]?=some (.ref T)/\T≠a/\∃oT ts,h.get? T=some oT/\oT.data=.fields ts/\ts[3]?=some fl
def Ti(h:Heap)(a:Addr)(c:Value)(T:Option Addr)(fl:Value):Prop:=∃oe vs,h.get? a=some oe/\oe.cls=c/\oe.dict=none/\oe.data=.fields vs/\ExT h vs a fl T
theorem Obj.PV(o:Obj)(f:Array Value->Array Value):(o.mapFields f).dict=o.dict:=by obtain⟨_,_,dt,_⟩:=o;cases dt<;>rfl
variable{M:Model}{A:Around}{E:Value->Shared->Prop}{s:Shared}
theorem Mx
  (iq:A.frames=some (env::outer)) (hl:s.heap.FunFrames base (env::outer)) (hf:env.frame=some L) (he:s.heap.get? e=some oe) (gQ:oe.dict=none) (hd:oe.data=.fields vs) (hsz:1<vs.size)
  (h:∀h' T,s.heap.objs.size<=T->(∀b o,s.heap.get? b=some o->b∉frs (env::outer)->b≠e->h'.get? b=some o)->(∀b o,s.heap.get? b=some o->b∈frs (env::outer)->∃sl,h'.get? b=some {o with slots:=sl}) ->
   Ti h' e oe.cls (some T) (rawInt L)->Q () {s with heap:=h' }) :
  wpAny M A (do let a <- frameOf env;let pl <- entryPlaceOf L hadNext;let b <- EntryCells.newEntry head a .none (rawInt L) .none pl;setField (.ref e) 1 b) Q E s:=by
 have nJ:e∉(env::outer).filterMap (·.frame):=λhm=>by obtain⟨_,o,ho,gX⟩:=hl.mem hm;rw[he]at ho;injection ho with ho;subst ho;exact gX vs hd
 refine sE (wpAny_frameOf_fun iq hl hf λaH eX=>?_);refine sE (wpAny_entryPlaceOf λpl aC=>?_);unfold EntryCells.newEntry newFields;refine sE (wpAny_newObj_type ?_ (aC.sizeOk5 _ _ _ _ _));have il:=(eX.2.1 e nJ).trans he;have ip:=sF {cls:=.type "traceback",dict:=none,data:=.fields ([head,.ref L,.none,rawInt L,.none]++(if pl.isEmpty then List.replicate 6 Value.none else pl)).toArray} il;refine wpAny_setField ip hd hsz ?_;have iK:=Nat.ne_of_gt (sO il);have ig:=Obj.data_mapFields hd (·.setIfInBounds 1 (Value.ref aH.objs.size));have keep:∀b o,b≠e->aH.get? b=some o ->
   ((aH.push {cls:=.type "traceback",dict:=none,data:=.fields ([head,.ref L,.none,rawInt L,.none]++(if pl.isEmpty then List.replicate 6 Value.none else pl)).toArray}).update e (Obj.mapFields (·.setIfInBounds 1 (Value.ref aH.objs.size)))).get? b=some o:=λb o fW hb=>by
  rw[tW _ _ (Ne.symm fW)];exact sF _ hb
 refine h _ aH.objs.size (by rw[eX.1];exact sV _) (λb o hb hn fW=>keep b o fW ((eX.2.1 b hn).trans hb)) (λb o hb hn=>?_) ?_
 .obtain⟨sl,q⟩:=eX.2.2 b o hb;exact⟨sl,keep b _ (λz=>nJ (by rw[<- z];exact hn)) q⟩
 .exact⟨_,_,(t6 (Obj.mapFields (·.setIfInBounds 1 (Value.ref aH.objs.size))) ip (Obj.isFreed_of_fields ig)),Obj.cls_mapFields _ _,(Obj.PV _ _).trans gQ,ig,by simp[hsz],iK,_,_,((tW (aH.push {cls:=.type "traceback",dict:=none,data:=.fields ([head,.ref L,.none,rawInt L,.none]++(if pl.isEmpty then List.replicate 6 Value.none else pl)).toArray})
  (Obj.mapFields (·.setIfInBounds 1 (Value.ref aH.objs.size))) (Ne.symm iK)).trans (sP aH rfl)),rfl,by first|(simp;done)|(rcases aC with rfl|⟨_,_,_,_,_,_,_,rfl⟩<;>simp)⟩
structure Qr(X:Cx):Prop where
 pn:X.pn=[]
 ex:X.ex=[]
 st:X.stack=X.env::X.outer
 fr:X.env.frame=some X.env.locals
theorem BJ.get(x:BJ P w H h a o):∃u,h.get? a=some u:=by cases o with|lst xs=>obtain⟨_,_,_,_,e⟩:=x;exact⟨_,e⟩|tup xs=>obtain⟨_,_,_,ob,e,_⟩:=x;exact⟨_,e⟩|l ah=>obtain⟨_,_,_,_,o,_,_,e,_⟩:=x;exact⟨_,e⟩|dT ah=>obtain⟨_,_,_,_,o,_,_,e,_⟩:=x;exact⟨_,e⟩|set S n=>obtain⟨o,_,_,_,e,_⟩:=x;exact⟨_,e⟩|ins C dx fs=>obtain⟨_,_,_,e,_⟩:=x;exact⟨_,e⟩|own y=>obtain⟨_,e⟩:=x;exact⟨_,e⟩|xd fs=>obtain⟨_,⟨_,_,_,e,_⟩,_⟩:=x;exact⟨_,e⟩|yH lo hi=>obtain⟨_,_,_,e⟩:=x;exact⟨_,e⟩|frz ob u=>obtain⟨e,_⟩:=x;exact⟨_,e⟩|yZ ps=>exact⟨_,(show h.get? a=some _ from x)⟩|met f y=>exact⟨_,(show h.get? a=some _ from x)⟩|ext φ=>obtain⟨_,⟨_,e⟩,_⟩:=x;exact⟨_,e⟩
theorem HOk.none(x:HOk P w H h)(e:h.get? a=none):H a=none:=by cases q:H a with|none=>rfl|some u =>obtain⟨o,z⟩:=(x a u q).get;rw[e]at z;cases z
variable{X:Cx}{U:St}{H:Hp}{h':Heap}{ch:List Addr}
theorem Inv.kp(I:Inv X ae U H s)(iU:X.pn=[])(k:∀b o,s.heap.get? b=some o->b∉frs X.stack->b∉ch->h'.get? b=some o)(sl:∀b o,s.heap.get? b=some o->b∈frs X.stack->∃sl,h'.get? b=some {o with slots:=sl})
  (nc:∀b∈ch,X.zV.heap.get? b=none/\H b=none/\∃o vs,s.heap.get? b=some o/\o.data=.fields vs):Inv X [] U H {s with heap:=h' }:=by
 have any:=λb o e n=>by
  by_cases hb:b∈frs X.stack
  .exact sl b o e hb
  .exact⟨o.slots,k b o e hb n⟩
 have n0:∀b o,X.zV.heap.get? b=some o->b∉ch:=λb o e z=>by have:=(nc b z).1;rw[e]at this;cases this
 have nf:∀b o,s.heap.get? b=some o->(∀vs,o.data≠.fields vs)->b∉ch:=λb o e hd z=>by obtain⟨_,_,o',vs,e',d⟩:=nc b z;rw[e]at e';cases e';exact hd vs d
 have dE:∀x c,X.env.cells.lookup x=some c->∀v,s.heap.IsCell c v->h'.IsCell c v:=λx c e v ⟨o,ho,hd⟩=>by obtain⟨l,q⟩:=any c o ho (nf c o ho λvs z=>by rw[hd]at z;cases z);exact⟨_,q,hd⟩
 refine⟨I.ok,I.os,I.bare,⟨λb o e n hb hx=>?_,λb o e n hb hx=>?_,I.base.free,λb o e hx=>?_,I.base.zH,I.base.zL,I.base.zI⟩,?_,λx c e=>?_,I.free,I.zS,λp hp=>?_,λb u e=>?_,I.len⟩
 .refine k b o (I.base.keep b o e n hb hx) (λz=>?_) (n0 b o e);rcases sQ.mp (I.JC b z)with z|z
  .exact tD (sT (sO e) I.ok.above) z
  .exact hb z
 .obtain⟨l,e1⟩:=I.base.slot b o e n hb hx;obtain⟨l',e2⟩:=any b _ e1 (n0 b o e);exact⟨l',e2⟩
 .obtain⟨o',e1⟩:=I.base.there b o e hx;obtain⟨l',e2⟩:=any b _ e1 (n0 b o e);exact⟨_,e2⟩
 .obtain⟨m,⟨o,es,ep,ho,hd,r⟩,hl⟩:=I.loc;obtain⟨l,q⟩:=any _ o ho (nf _ o ho λvs z=>by rw[hd]at z;cases z);refine⟨m,⟨_,es,ep,q,hd,r⟩,λi x v e1 e2 e3=>?_⟩;obtain⟨u,rv,z⟩:=hl i x v e1 e2 e3;refine⟨u,rv,?_⟩;rcases z with z|⟨kk,c,e,z⟩
  .exact .inl z
  .exact .inr ⟨kk,c,e,dE x c e _ z⟩
 .obtain⟨v,z⟩:=I.cell x c e;exact⟨v,dE x c e v z⟩
 .rw[iU]at hp;cases hp
 .have nn:∀c,(c=b\/H c=some (.own b))->H c≠none:=λc hc z=>by
   rcases hc with rfl|hc
   .rw[z]at e;cases e
   .rw[z]at hc;cases hc
  exact(I.zZ b u e).N7 (λc v hc q=>k c v q (λz=>nn c hc (I.K1 c z)) λz=>nn c hc (nc c z).2.1) (λ_ q=>q) λ_ _ q=>q
theorem Inv.new(I:Inv X ae U H s)(D:X.ex=[])(e:s.heap.get? b=none):X.zV.heap.get? b=none/\H b=none:=by refine⟨?_,I.zZ.none e⟩;cases q:X.zV.heap.get? b with|none=>rfl|some o =>obtain⟨o',z⟩:=I.base.there b o q (by rw[D];simp);rw[e]at z;cases z
variable{a:Addr}{c fl:Value}{T:Option Addr}{Q:Unit->Shared->Prop}
def Jau(X:Cx)(H:Hp)(a:Addr)(T:Option Addr):Prop:=∀b,b=a\/T=some b->X.zV.heap.get? b=none/\H b=none
theorem Ti.there(e:Ti s.heap a c T fl):∀b,b=a\/T=some b->∃o vs,s.heap.get? b=some o/\o.data=.fields vs:=by
 obtain⟨oe,vs,h1,h2,h3,h4,h5⟩:=e;intro b hb;rcases hb with rfl|rfl
 .exact⟨oe,vs,h1,h4⟩
 .obtain⟨_,_,oT,ts,q1,q2,_⟩:=h5;exact⟨oT,ts,q1,q2⟩
theorem Ld(D:Qr X)(iq:A.frames=some X.stack)(I:Inv X [] U H s)(e:Ti s.heap a c T fl)(qp:fl=.none\/fl=rawInt X.env.locals)(nw:Jau X H a T)
  (h:∀h' T',Ti h' a c (some T') (rawInt X.env.locals)->Jau X H a (some T')->Inv X [] U H {s with heap:=h' }->Q () {s with heap:=h' }):wpAny M A (noteFrame (.ref a) X.env) Q E s:=by
 have hl:=I.stack;rw[D.st]at iq hl;obtain⟨oe,vs,he,cE,gQ,hd,ht⟩:=id e;subst cE;unfold noteFrame;simp only[D.fr];cases T with
 |none =>
  refine sE (tN he hd ht ?_);rw[if_neg (by decide)];refine Mx iq hl D.fr he gQ hd (uz.mp ht).1 λh' T' q1 q2 q3 q4=>?_
  have nT:=I.new D.ex (Heap.get?_none_of_le q1);refine h h' T' q4 (λb hb=>hb.elim (λz=>nw b (.inl z)) λz=>by cases z;exact nT) (I.kp (ch:=[a]) D.pn (λb o x y z=>q2 b o x (by rw[<- D.st];exact y) λw=>z (by simp[w])) (λb o x y=>q3 b o x (by rw[<- D.st];exact y)) λb hb=>?_);rw[sZ.mp hb];exact⟨(nw a (.inl rfl)).1,(nw a (.inl rfl)).2,oe,vs,he,hd⟩
 |some T =>
  obtain⟨h1,iK,oT,ts,hT,gP,h3⟩:=ht;refine sE (tN he hd h1 ?_);rw[if_pos (show(Value.ref T !=Value.none)=true from by simp)];refine sE (tN hT gP h3 ?_);rcases qp with rfl|rfl
  .rw[if_neg (show ¬((Value.none==rawInt X.env.locals)=true)from by simp[rawInt])];refine sE (wpAny_setField hT gP (uz.mp h3).1 ?_);have other:∀b,b≠T->(s.heap.update T (Obj.mapFields (·.setIfInBounds 3 Value.none))).get? b=s.heap.get? b:=λb hb=>tW _ _ (Ne.symm hb)
   have rh:T∉frs X.stack:=λhm=>by obtain⟨_,o,ho,gX⟩:=I.stack.mem hm;rw[hT]at ho;injection ho with ho;subst ho;exact gX ts gP
   refine Mx iq (hl.of_keeps λb o hb gX=>⟨o,(other b ((λb o hb gX q=>by rw[q,hT]at hb;injection hb with hb;subst hb;exact gX ts gP) b o hb gX)).trans hb,rfl⟩) D.fr ((other a (Ne.symm iK)).trans he) gQ hd (uz.mp h1).1 λh' T' q1 q2 q3 q4=>?_
   have nT:=I.new D.ex (Heap.get?_none_of_le (by have:(s.heap.update T (Obj.mapFields (·.setIfInBounds 3 Value.none))).objs.size=s.heap.objs.size:=Heap.size_after_update ..;rw[<- this];exact q1));refine h h' T' q4 (λb hb=>hb.elim (λz=>nw b (.inl z)) λz=>by cases z;exact nT) (I.kp (ch:=[a,T]) D.pn (λb o x y z=>?_) (λb o x y=>?_) λb hb=>?_)
   .exact q2 b o ((other b λw=>z (by simp[w])).trans x) (by rw[<- D.st];exact y) λw=>z (by simp[w])
   .exact q3 b o ((other b λw=>rh (by rw[<- w];exact y)).trans x) (by rw[<- D.st];exact y)
   .have gA:b=a\/some T=some b:=by
     rcases sQ.mp hb with z|z
     .exact .inl z
     .exact .inr (by rw[sZ.mp z])
    exact⟨(nw b gA).1,(nw b gA).2,e.there b gA⟩
  .rw[if_pos (show(rawInt X.env.locals==rawInt X.env.locals)=true from by simp)];exact sM (h s.heap T e nw I)
theorem EM(iU:X.pn=[])(I:Inv X [] U H s)(e:Ti s.heap a c T fl)(nw:Jau X H a T)
  (h:∀h',Ti h' a c T (f.elim .none λf=>rawInt f)->Inv X [] U H {s with heap:=h' }->Q () {s with heap:=h' }):wpAny M A (setFlight (.ref a) f) Q E s:=by
 obtain⟨oe,vs,he,cE,gQ,hd,ht⟩:=id e;unfold setFlight;cases T with
 |none =>refine sE (tN he hd ht ?_);rw[if_neg (by decide)];exact sM (h s.heap ⟨oe,vs,he,cE,gQ,hd,ht⟩ I)
 |some T =>
  obtain⟨h1,iK,oT,ts,hT,gP,h3⟩:=ht;have hsz:=(uz.mp h3).1;refine sE (tN he hd h1 ?_);rw[if_pos (show(Value.ref T !=Value.none)=true from by simp)];have other:∀b,b≠T->(s.heap.update T (Obj.mapFields (·.setIfInBounds 3 (f.elim Value.none λf=>rawInt f)))).get? b=s.heap.get? b:=λb hb=>tW _ _ (Ne.symm hb)
  refine wpAny_setField hT gP hsz (h _ ⟨oe,vs,(other a (Ne.symm iK)).trans he,cE,gQ,hd,h1,iK,_,_,t6 _ hT (Obj.isFreed_of_fields (Obj.data_mapFields gP _)),Obj.data_mapFields gP _,by simp[hsz]⟩ (I.kp (ch:=[T]) iU (λb o x _ z=>(other b λw=>z (by simp[w])).trans x) (λb o x y=>?_) λb hb=>?_))
  .refine⟨o.slots,(other b λw=>?_).trans x⟩;obtain⟨_,o',cL,gX⟩:=I.stack.mem y;rw[w,hT]at cL;injection cL with cL;subst cL;exact gX ts gP
  .rw[sZ.mp hb];exact⟨(nw T (.inr rfl)).1,(nw T (.inr rfl)).2,e.there T (.inr rfl)⟩
abbrev XE:=Value->St->Hp->Prop
def XW(X:Cx)(Z:XE)(e:Value)(s:Shared):Prop:=∃a c T fl U H,e=.ref a/\Inv X [] U H s/\Ti s.heap a c T fl/\(fl=.none\/fl=rawInt X.env.locals)/\Jau X H a T/\Z c U H
def CX1(P:Program)(w:World):CXT:=λouter H s E e s'=>∃a c T H',e=.ref a/\s'.os=s.os/\AllBare s'.gens/\Un (frs outer) [] H H' s.heap s'.heap/\HOk P w H' s'.heap/\Ti s'.heap a c T .none /\
 (∀b,b=a\/T=some b->s.heap.get? b=none/\H' b=none)/\E c none H'
variable{Z Z':XE}{e:Value}{s':Shared}{ae:List (Addr×Obj)}
theorem XW.imp(h:XW X Z e s)(k:∀c U H,Z c U H->Z' c U H):XW X Z' e s :=
 let⟨a,c,T,fl,U,H,q1,q2,q3,q4,q5,q6⟩:=h
 ⟨a,c,T,fl,U,H,q1,q2,q3,q4,q5,k _ _ _ q6⟩
theorem XW.Gd(h:XW (X.Gd E) Z e s):XW X Z e s :=
 let⟨a,c,T,fl,U,H,q1,q2,q3,q4,q5,q6⟩:=h
 ⟨a,c,T,fl,U,H,q1,q2.Ei,q3,q4,q5,q6⟩
theorem CX1.xw(D:X.ex=[])(I:Inv X ae U H s)(h:CX1 X.prog X.w X.stack H s (λc _ H'=>Z c U H') e s'):XW X Z e s':=by obtain⟨a,c,T,H',rfl,q1,q2,q3,q4,q5,q6,q7⟩:=h;exact⟨a,c,T,.none,U,H',rfl,(I.Z2 q1 q3 q4 q2 λb z=>absurd z (by simp)).IE λ_ z=>absurd z (by simp),q5,.inl rfl,λb hb=>⟨(I.new D (q6 b hb).1).1,(q6 b hb).2⟩,q7⟩
theorem XW.own(D:Qr X):PassesOwn (model X.prog X.w) X.A X.env (XW X Z):=by
 intro e s' h;obtain⟨a,c,T,fl,U,H,rfl,I,q3,q4,q5,q6⟩:=h;refine Ld D I.ok.frames I q3 q4 q5 λh1 T1 e1 n1 I1=>?_
 obtain⟨oe,vs,he,hc,gQ,hd,ht⟩:=id e1;refine sE (tN he hd ht.1 ?_);rw[if_neg (show ¬((Value.ref T1==Value.none)=true)from by simp)];rw[D.fr];exact EM D.pn I1 e1 n1 λh2 e2 I2=>⟨a,c,some T1,rawInt X.env.locals,U,H,rfl,I2,e2,.inr rfl,n1,q6⟩
variable{P:Program}{w:World}{K:Fg}{mg:Str->Option Value}{base:Heap}{N:List Str}{qual:Str}{scope:Scope}{f:Addr}{cd:Value}{outer:List Env}{E:XK}
theorem ZV:Qr (NB (CX1 P w) P w K mg base N qual scope f cd A outer s H E):=⟨rfl,rfl,rfl,rfl⟩
theorem Jaz(h:XW (NB (CX1 P w) P w K mg base N qual scope f cd A outer s H E) (λc _ H'=>E c none H') e s'):(NB (CX1 P w) P w K mg base N qual scope f cd A outer s H E).xe e s':=by
 obtain⟨a,c,T,fl,U,H',rfl,I,q3,q4,q5,q6⟩:=h;show wpAny _ _ (leaving (NB (CX1 P w) P w K mg base N qual scope f cd A outer s H E).env (.ref a)) _ _ s';unfold leaving;refine sE (Ld ZV I.ok.frames I q3 q4 q5 λh1 T1 e1 n1 I1=>?_);refine EM rfl I1 e1 n1 λh2 e2 I2=>?_
 exact⟨a,c,some T1,H',rfl,I2.os,I2.bare,I2.base,I2.zZ,e2,n1,q6⟩
def Lk(X:Cx)(Z:XE):Prop:=∀(ae:List (Addr×Obj))(U:St)(H:Hp)(s:Shared)(e:Value)(s':Shared),Inv X ae U H s->CX1 X.prog X.w X.stack H s (λc _ H'=>Z c U H') e s'->X.xe e s'
theorem Lk.of(D:X.ex=[])(k:∀e s,XW X Z e s->X.xe e s):Lk X Z:=λ_ _ _ _ _ _ I h=>k _ _ (CX1.xw D I h)
variable{k:Nat}{C:Addr}{fd:FuncData}{ps:List Str}{sp:Sp}{x m:Str}{p pos av:Pos}{e o:Expr}{es:List Expr}{ta:TE}{t:TA}
def Xx(sp:Sp)(Z:XE)(t:TA):TE:=λU H Q=>t U H λvs H1=>sp vs H1 Q λc _ H'=>Z c U H'
theorem Oc{Q}(F:EY X.prog X.w X.K X.mg X.base (CX1 X.prog X.w) k f fd ps sp)(hr:DK k X.A)(hb:Binds X.K fd ps [])(hx:Lk X Z)
  (I:Inv X ae U H s) (r:Vals vs us) (h:sp vs H Q λc _ H'=>Z c U H'):wpAny (model X.prog X.w) X.A (call (.ref f) us) (EP X ae U Q) X.xe s:=by
 have b:=hb s us I.kIn (by rw[t5];exact(by rw[<- r.length];exact F.len _ _ _ _ h));rw[t5]at b;refine wpAny_call (codeAny_mono (F.run X.A X.stack s H ⟨us,[]⟩ us vs Q _ hr I.JbA b r h) λr s' hq=>?_);cases r with|error e=>exact hx ae U H s e s' I hq|ok fl =>cases fl with|ret u=>exact I.after hq|next=>exact False.elim hq|brk=>exact False.elim hq|cont=>exact False.elim hq
theorem Yi(G:FnAt X.prog X.w X.K X.mg X.base (CX1 X.prog X.w) x k ps sp)(hr:DK k X.A)(hx:Lk X Z)(ha:PA X (e::es) t)(hg:Gl X x:=by rfl)(bh:(x==("__debug__":Str))=false:=by decide)
  (he:starEach (e::es) X.env=(false,eval e X.env)::starEach es X.env:=by rfl) (aC:(backTo pos (starEach es X.env)).any (·.1)=false:=by rfl):PE X (.Call (.Name x p) (e::es) [] pos) (Xx sp Z t):=by
 obtain⟨f,fd,F,hm,hk,hb⟩:=G.ex;intro ae s U H Q I h;refine wpAny_Call_Name_kw (E8 I hg hm ?_ bh);refine callWith_K I.ok.mod.yR hk (thn (ha pos ae s U H _ I h) λus s1 ⟨vs,H1,I1,r,q⟩=>⟨I1.kIn,?_⟩) he aC;exact Oc F hr hb hx I1 r q
def Xh:List Value:=[.type "ValueError",.type "Exception",.type "BaseException",.type "object"]
structure ExC(K:Fg)(mg:Str->Option Value)(x:Str)(C:Addr):Prop where
 at_:mg x=some (.ref C)
 ok:excIn K C Xh "ValueError.__new__"=true
def Xq(C:Addr)(Z:XE)(t:TA):TS:=λ_ U H=>t U H λvs H1=>vs.length<=1000/\Z (.ref C) U H1
theorem ExC.own(c:ExC K mg x C)(X:K.In h):OwnCls x C Xh "ValueError.__new__" mg h:=by
 refine⟨c.at_,?_⟩;have q:=c.ok;unfold excIn at q;split at q
 .rename_i dd cd sl ho;split at q
  .rename_i C' bm k0 k1 k2 k3 n k5 hm hs;simp only[tH,beq_iff_eq,Bool.not_eq_true']at q;obtain⟨⟨⟨⟨⟨rfl,rfl⟩,jJ⟩,ht⟩,zZ⟩,kz⟩:=q;obtain⟨nm,bs,mro,ns,qn,hd,sn,sub,ab,col,del⟩:=cd;dsimp only at hm jJ zZ kz;subst hm jJ;have qM:sl=#[k0,k1,k2,k3,some (.builtin "ValueError.__new__"),k5]:=by obtain⟨l⟩:=sl;simp only at hs;rw[hs]
   subst qM;exact⟨bm,ns,nm,qn,bs,hd,sn,sub,ab,col,dd,k0,k1,k2,k3,k5,_,X _ _ ho,.of_isNs (PySem.W.isNs_of_in X zZ),PySem.W.nsMap_none_of_in X zZ kz,PySem.W.tail_of_in X ht⟩
  .cases q
 .cases q
variable{np aw:Pos}
theorem VQ(D:X.ex=[])(I:Inv X ae U H s)(hm:Heap.MadeExcOf s.heap h' a (.ref C) us)(q:Z (.ref C) U H):XW X Z (.ref a) {s with heap:=h' }:=by
 obtain⟨t,ht,_,_⟩:=hm.there;refine⟨a,.ref C,none,.none,U,H,rfl,(I.kept hm.keeps).IE λ_ z=>absurd z (by simp),⟨_,_,ht,rfl,rfl,rfl,rfl⟩,.inl rfl,λb hb=>?_,q⟩;rcases hb with rfl|hb
 .exact I.new D hm.new
 .cases hb
theorem Q3(c:ExC X.K X.mg x C)(D:X.ex=[])(hc:X.calm=true)(hx:∀e s,XW X Z e s->X.xe e s)(ha:PA X (e::es) t)(hg:Gl X x:=by rfl)(bh:(x==("__debug__":Str))=false:=by decide)
  (he:starEach (e::es) X.env=(false,eval e X.env)::starEach es X.env:=by rfl) (aC:(backTo aw (starEach es X.env)).any (·.1)=false:=by rfl) :
  PS X (.Raise (some (.Call (.Name x np) (e::es) [] aw)) none pos) (Xq C Z t):=by
 intro ae s U H D' I h;obtain⟨tl,N,nm,q,bs,hdct,sn,sub,ab,col,dd,k0,k1,k2,k3,k5,mN,hC,hN,kz,T⟩:=(c.own I.ok.mod.yR).obj;refine wpAny_Raise_call_subT (nm:=nm) (q:=q) (N:=N) (bs:=bs) (bm:=tl) (hdct:=hdct) (sn:=sn) (sub:=sub) (ab:=ab) (col:=col) (dd:=dd) (k0:=k0) (k1:=k1) (k2:=k2) (k3:=k3) (k5:=k5)
  PySem.F.excBase_ValueError (mN:=mN) (T.hasType PySem.F.excBase_ValueError.hasBase) (I.ok.hd hc) (by rw[he];show(false||(backTo aw (starEach es X.env)).any (·.1))=false;rw[aC];rfl) kz (E8 I hg c.at_ ⟨rfl,?_⟩ bh)
 have h1:=ha aw ae s U H _ I h;rw[he]at h1 ⊢;refine Calls.evalArgs_plain (thn h1 λus s2 ⟨vs,H1,I1,r,hl,hz⟩=>⟨rfl,?_,I1.bk _ _ hC,hN.keeps I1.bk,T.keeps I1.bk,λh' a hm=>hx _ _ (VQ D I1 hm hz)⟩);show us.length<=sizeLine;rw[<- r.length,sizeLine_eq];omega
def exO(c:Value)(a:Addr):HO:=.ext λh=>∃o vs,h.get? a=some o/\o.cls=c/\o.dict=none/\o.data=.fields vs
abbrev Cx.hand(X:Cx)(a:Addr):Cx:={X with A:=X.A.mark (some (.ref a)),calm:=false,xe:=λ_ _=>False}
theorem Cx.Ok.hand(ok:X.Ok):(X.hand a).Ok :=
 ⟨ok.mod,ok.kind,ok.glob,ok.blt,ok.above,ok.inj,ok.has,ok.yY,(λz=>nomatch z),ok.frames,ok.yQ,ok.yM,ok.bs,ok.zo,ok.zi,ok.zm,ok.Mt,ok.zb⟩
theorem Inv.hand(I:Inv X ae U H s):Inv (X.hand a) ae U H s:=⟨I.ok.hand,I.os,I.bare,I.base,I.loc,I.cell,I.free,I.zS,I.pin,I.zZ,I.len⟩
theorem Inv.HD(ok:X.Ok)(I:Inv (X.hand a) ae U H s):Inv X ae U H s:=⟨ok,I.os,I.bare,I.base,I.loc,I.cell,I.free,I.zS,I.pin,I.zZ,I.len⟩
theorem Inv.JaC{o}(I:Inv X [] U H s)(iU:X.pn=[])(h0:X.zV.heap.get? a=none)(hn:H a=none)(hf:∃u vs,s.heap.get? a=some u/\u.data=.fields vs)(new:BJ X.prog X.w (upd H a o) s.heap a o):Inv X [] U (upd H a o) s:=by
 obtain⟨u,vs,hu,hd⟩:=hf;refine⟨I.ok,I.os,I.bare,⟨I.base.keep,I.base.slot,λb o e n hx=>?_,I.base.there,λb xs e=>?_,λb o u e=>?_,λb ps e=>?_⟩,I.loc,I.cell,?_,λx c e=>?_,λp hp=>?_,λb u e=>?_,I.len⟩
 .rw[Ap ((λb u e z=>by rw[z,h0]at e;cases e) b o e)];exact I.base.free b o e n hx
 .have q:=I.base.zH b xs e;rw[Ap (AZ q hn)];exact q
 .have q:=I.base.zL b o u e;rw[Ap (AZ q hn)];exact q
 .obtain⟨more,q⟩:=I.base.zI b ps e;exact⟨more,by rw[Ap (AZ q hn)];exact q⟩
 .rw[Ap]
  .exact I.free
  .intro z;obtain⟨m,⟨o',_,_,cL,dN,_⟩,_⟩:=I.loc;rw[z,hu]at cL;cases cL;rw[hd]at dN;cases dN
 .rw[Ap]
  .exact I.zS x c e
  .intro z;obtain⟨v,o',cL,dN⟩:=I.cell x c e;rw[z,hu]at cL;cases cL;rw[hd]at dN;cases dN
 .rw[iU]at hp;cases hp
 .by_cases hb:b=a
  .subst hb;rw[As]at e;cases e;exact new
  .rw[Ap hb]at e;exact(I.zZ b u e).N7 (λ_ _ _ q=>q) (λc q=>by rw[Ap (AZ q hn)];exact q) λc xs q=>by rw[Ap (AZ q hn)];exact q
theorem IW{E}(I:Inv X [] U H s)(iU:X.pn=[])(hN:X.N.Nodup)(hi:X.N[i]?=some n)(hl:X.env.scope.names.lookup n=some .local)
  (h:∀s',Inv X [] (U.set i none) H s'->Q () s'):wpAny M A (do bindName X.env n .none;unbindBehindTheSuite X.env n pos) Q E s:=by
 have cE:(X.env.scope.kind==.class||(X.env.scope.kind==.module&&X.env.locals !=X.env.globals))=false:=by rw[I.ok.kind];rfl
 have hk:X.env.kindOf n=some .local:=hl;refine sE (wpAny_bindName (FJ I hN hi (.inl hl) (v:=V.v) rfl (λs1 I1=>?_) (.inr hl)));unfold unbindBehindTheSuite;refine wpAny_onRaise ?_;unfold unbindName;refine sE (wpAny_point (sE ?_));unfold deleteName;simp only[hk,cE];rw[if_neg (by decide)];obtain⟨m,hn,jO⟩:=id I1.loc;have fY:i<U.length:=by rw[I.len];exact(sS.mp hi).1
 have qA:(m n).isSome=true:=by
  obtain⟨u,_,z⟩:=jO i n V.v hi (by rw[t7 fY]) (.inl hl);rcases z with⟨_,z⟩|⟨z,_⟩
  .rw[z];rfl
  .rw[hk]at z;rcases z with z|z<;>cases z
 refine sE (wpAny_nsDel_keeps hn λh2 v gD bw=>?_);simp only[qA,Bool.not_true,tY,if_false];refine sM (wpAny_point ?_);have cne:=I1.cne;have jf:∀b o,X.zV.heap.get? b=some o->b≠X.env.locals:=λb o e=>tD (sT (sO e) I.ok.above)
 have key:Inv X [] (U.set i none) H {s1 with heap:=h2}:=by
  refine⟨I1.ok,I1.os,I1.bare,⟨λb o e n hb hx=>(bw.2 b (jf b o e)).trans (I1.base.keep b o e n hb hx),λb o e n hb hx=>?_,I1.base.free,λb o e hx=>?_,I1.base.zH,I1.base.zL,I1.base.zI⟩,⟨_,gD,λj y v' e1 e2 e3=>?_⟩,λy c e=>?_,I1.free,I1.zS,λp hp=>?_,λb ob e=>?_,by simpa using I1.len⟩
  .obtain⟨sl,e1⟩:=I1.base.slot b o e n hb hx;exact⟨sl,(bw.2 b (jf b o e)).trans e1⟩
  .obtain⟨o',e1⟩:=I1.base.there b o e hx;exact⟨o',(bw.2 b (jf b o e)).trans e1⟩
  .by_cases hj:j=i
   .subst hj;rw[t7 fY]at e2;cases e2
   .rw[t8 (Ne.symm hj)]at e2;obtain⟨u',r',q⟩:=jO j y v' e1 (by rw[t8 (Ne.symm hj)];exact e2) e3;refine⟨u',r',?_⟩;rcases q with⟨k,e⟩|⟨k,c,e,z⟩
    .refine .inl ⟨k,?_⟩;have:y≠n:=λe=>hj (IL hN e1 (e▸hi))
     simp[this,e]
    .exact .inr ⟨k,c,e,z.sameBut bw (cne y c e)⟩
  .obtain⟨w',z⟩:=I1.cell y c e;exact⟨w',z.sameBut bw (cne y c e)⟩
  .rw[iU]at hp;cases hp
  .refine(I1.zZ b ob e).N7 (λc w' hc q=>(bw.2 c ?_).trans q) (λ_ q=>q) λ_ _ q=>q
   rintro rfl
   rcases hc with rfl|hc
   .rw[I1.free]at e;cases e
   .rw[I1.free]at hc;cases hc
 first
  |exact h _ key
  |exact h _ (key.tok _)
def PS0(X:Cx)(st:Stmt)(t:TS):Prop:=∀(s:Shared)(U:St)(H:Hp)(D:Ends),Inv X [] U H s->t D U H->wpAny (model X.prog X.w) X.A (exec st X.env) (SP X [] D) X.xe s
def Te(X:Cx)(st:List Stmt)(t:TS):Prop:=∀(s:Shared)(U:St)(H:Hp)(D:Ends),Inv X [] U H s->t D U H->wpAny (model X.prog X.w) X.A (execs st X.env) (SP X [] D) X.xe s
variable{st:Stmt}{rest:List Stmt}{t u:TS}
theorem PS.zero(h:PS X st t):PS0 X st t:=λs U H D I q=>h [] s U H D I q
theorem PSs.zero(h:PSs X rest t):Te X rest t:=λs U H D I q=>h [] s U H D I q
theorem Oh(h1:PS0 X st t)(h2:Te X rest u):Te X (st::rest) (JbN t u):=by intro s U H D I h;refine wpAny_execs_cons (thn (h1 s U H {D with nx:=u D} I h) λf s1 q=>?_);cases f with|next =>obtain⟨ar,H',I',q⟩:=q;exact h2 s1 ar H' D I' q|ret v=>exact q|brk=>exact q|cont=>exact q
theorem Te.unw{E}(h:Te (X.Gd E) rest t)(k:∀e s,E e s->X.xe e s):Te X rest t:=λs U H D I hw =>wpAny_mono (h s U H D (I.Gd _) hw) (λ_ _ q=>q.Ei) λe s z=>k e s z
theorem Zl{dV kV di pm aV ct oc:Value}{an od:Option Addr}
  {iC:Array (Option Value)} {N ps:List Str} {sp:Sp} (lk:K.lookup f=some ⟨oc,od,.func (fnOf name qual params body scope dV kV di pm an aV ct),iC⟩) (fq:codeIn K aV qual=true) (S:Jq N ps scope)
  (len:∀vs H Q E,sp vs H Q E->vs.length=ps.length)
  (fX:∀(A:Around)(outer:List Env)(s:Shared)(H:Hp)(vs:List V)(Q:VK)(E:XK),DK k (A.deeper (envOfC qual scope s.heap.objs.size f aV))->sp vs H Q E ->
   ∃t,Te (NB CX P w K mg base N qual scope f aV A outer s H E) body t/\t {nx:=λ_ H'=>Q .v H',rt:=Q} (start N vs) H) :
  EY P w K mg base CX (k+1) f (fnOf name qual params body scope dV kV di pm an aV ct) ps sp:=by
 refine⟨len,λA outer s H args us vs Q E hr e0 hb r gE=>?_⟩;have KX:K.In s.heap:=e0.mod.yR.keeps λb o e=>(e0.bs b o e).1
 refine codeAny_call_function hr.depth (KX _ _ lk) rfl S.co S.gen rfl (PySem.W.codeRec_of KX fq) (hb _ _ _ _ ?_);refine wpAny_newFunctionEnv_cells S.kind (λ⟨n,v⟩ hy=>by
  rcases S.par n (List.of_mem_zip hy).1 with q|q
  .exact .inl q
  .exact .inr ⟨q,PySem.W.cellsFrom_some _ _ _ (.inl q)⟩) λenv he s1 x=>?_
 subst he;refine⟨(e0.mod.nolimit.keeps λb o e=>(e0.bs b o e).1).keeps x.toInCall.keep,codeAny_func ?_⟩;obtain⟨t,ht,hq⟩:=fX A outer s H vs Q E (hr.deeper _) gE;have I:Inv (NB CX P w K mg base N qual scope f aV A outer s H E) [] (start N vs) H s1:=O8 S hr.hd e0 (len _ _ _ _ gE) r x;refine wpAny_mono (ht s1 (start N vs) H _ I hq) (λfl s' hs=>?_) λe s' hs=>hs
 have ba:∀{ar:St}{H':Hp}{v:V}{u:Value},Inv (NB CX P w K mg base N qual scope f aV A outer s H E) [] ar H' s'->RelV v u->Q v H'->CE outer P w H s Q u s' :=
  λ{ar H' v u} J rv q=>⟨v,H',J.os,J.bare,J.base,J.zZ,rv,q⟩
 cases fl with|ret u =>obtain⟨v,ar,H',J,rv,q⟩:=hs;exact ba J rv q|next =>obtain⟨ar,H',J,q⟩:=hs;exact ba (v:=V.v) (u:=Value.none) J rfl q|brk =>obtain⟨_,_,_,q⟩:=hs;exact False.elim q|cont =>obtain⟨_,_,_,q⟩:=hs;exact False.elim q
theorem Fun.ok0(F:Fun K x qual st f fd)(S:Jq N ps (Bz st))(len:∀vs H Q E,sp vs H Q E->vs.length=ps.length)
  (fX:∀(aV:Value)(A:Around)(outer:List Env)(s:Shared)(H:Hp)(vs:List V)(Q:VK)(E:XK),DK k (A.deeper (envOfC qual (Bz st) s.heap.objs.size f aV))->sp vs H Q E ->
   ∃t,Te ((NB (CX1 P w) P w K mg base N qual (Bz st) f aV A outer s H E).Gd (XW (NB (CX1 P w) P w K mg base N qual (Bz st) f aV A outer s H E) λc _ H'=>E c none H')) (Et st) t/\t {nx:=λ_ H'=>Q .v H',rt:=Q} (start N vs) H) :
  EY P w K mg base (CX1 P w) (k+1) f fd ps sp:=by
 obtain⟨oc,od,kV,di,pm,an,aV,ct,iC,rfl,lk,fq⟩:=F.ex;refine Zl lk fq S len λA outer s H vs Q E hr gE=>?_
 obtain⟨t,h,q⟩:=fX aV A outer s H vs Q E hr gE;exact⟨t,h.unw λ_ _=>Jaz,q⟩
def Uq(i:Nat)(D:Ends):Ends:={nx:=λU H=>D.nx (U.set i none) H,rt:=D.rt,bk:=λU H=>D.bk (U.set i none) H,ct:=λU H=>D.ct (U.set i none) H}
def ZTry(K:Fg)(C:Addr)(i:Nat)(th:TS)(D:Ends):XE:=λc U H=>exmOne K c (.ref C)=some true/\∀a,H a=none->th (Uq i D) (U.set i (some (.ref a))) (upd H a (exO c a))
variable{n:Str}{i:Nat}{eI:Pos}{body bC:List Stmt}{cW:Stmt}{tb:Ends->TS}{th:TS}
theorem SP.HD{f}(ok:X.Ok)(h:SP (X.hand a) [] D f s'):SP X [] D f s':=by cases f with|next=>obtain⟨ar,H',I,q⟩:=h;exact⟨ar,H',I.HD ok,q⟩|brk=>obtain⟨ar,H',I,q⟩:=h;exact⟨ar,H',I.HD ok,q⟩|cont=>obtain⟨ar,H',I,q⟩:=h;exact⟨ar,H',I.HD ok,q⟩|ret u=>obtain⟨v,ar,H',I,r,q⟩:=h;exact⟨v,ar,H',I.HD ok,r,q⟩
theorem UZ(D:Qr X)(hC:X.mg x=some (.ref C))(hN:X.N.Nodup)(hb:∀D,PSs (X.Gd (XW X (ZTry X.K C i th D))) body (tb D))(hs:∀a,PSs (X.hand a) (cW::bC) th)(hi:X.N[i]?=some n:=by rfl)(hl:X.env.scope.names.lookup n=some .local:=by rfl)
  (hg:Gl X x:=by rfl) (bh:(x==("__debug__":Str))=false:=by decide) :
  PS0 X (.Try body [.ExceptHandler (some (.Name x np)) (some n) (cW::bC) eI] [] [] pos) (λD=>tb D D):=by
 intro s U H D' I h;refine wpAny_Try_except (wpAny_mono (hb D' [] s U H D' (I.Gd _) h) (λf s1 q=>?_) λe s1 q=>?_)
 .have q:=q.Ei;cases f with|next=>exact wpAny_execs_nil q|ret v=>exact q|brk=>exact q|cont=>exact q
 .obtain⟨a,c,T,fl,fH,H1,rfl,I1,e1,f1,n1,z1,z2⟩:=q;refine Ld D I1.ok.frames I1 e1 f1 n1 λh2 T2 e2 n2 I2=>?_
  refine EM D.pn I2 e2 n2 λh3 e3 I3=>?_
  refine wpAny_handleBy_cons (codeAny_handlers_test (E8 I3.hand hg hC ?_ bh)) (by intro q;cases q);obtain⟨oe,vs,he,cE,gQ,hd,ht⟩:=id e3;refine PySem.W.Looks.here (PySem.W.exm_one I3.kIn (cE▸(PySem.W.Looks.ld he).andThen .now) z1) ?_;refine codeAny_handlers_suite_as ?_;refine EM D.pn I3 e3 n2 λh4 e4 I4=>?_
  obtain⟨mf,nV,ly,jF,lu,mX,sr⟩:=id e4;have lI:=n2 a (.inl rfl);have I5:Inv X [] fH (upd H1 a (exO c a)) {s1 with heap:=h4}:=I4.JaC D.pn lI.1 lI.2 ⟨mf,nV,ly,mX⟩ ⟨⟨mf,nV,ly,jF,lu,mX⟩,⟨mf,ly⟩,λg1 g2 ⟨o,v,q1,q2⟩ k=>⟨o,v,k o q1,q2⟩⟩;refine FJ I5 hN hi (.inl hl) (v:=V.ref a) rfl (λs6 I6=>?_) (.inr hl);refine wpAny_mono (hs a [] s6 _ _ (Uq i D') I6.hand (z2 a lI.2)) (λf s7 q=>?_) λ_ _ z=>False.elim z
  have q:=q.HD I.ok;cases f with
  |next =>obtain⟨ar,H',I',q⟩:=q;exact IW I' D.pn hN hi hl λs8 I8=>⟨_,_,I8,q⟩
  |ret u =>obtain⟨v,ar,H',I',r,q⟩:=q;exact IW I' D.pn hN hi hl λs8 I8=>⟨v,_,_,I8,r,q⟩
  |brk =>obtain⟨ar,H',I',q⟩:=q;exact IW I' D.pn hN hi hl λs8 I8=>⟨_,_,I8,q⟩
  |cont =>obtain⟨ar,H',I',q⟩:=q;exact IW I' D.pn hN hi hl λs8 I8=>⟨_,_,I8,q⟩
end L2
namespace PySem.W
open PySem PySem.Spec PySem.Calls PyProof.Rows
variable{prog:Program}{w:World}{A:Around}{E:Value->Shared->Prop}{K:Frag}{x D:Addr}{ox:Obj}
structure ExK(K:Frag)(D:Addr):Prop where
 ga:findIn K (.ref D) "__getattribute__"=some (some (.builtin "BaseException.__getattribute__"))
 gt:findIn K (.ref D) "__getattr__"=some none
 ca:findIn K (.ref D) "__class__"=some (some (.builtin "object.__class__"))
 gs:specialIn K (.builtin "object.__class__") "__get__"=some (some (.builtin "getset_descriptor.__get__"))
 tk:takesIn K (.builtin "object.__class__")=some true
 mo:mroIn K D (.type "object")=some true
 mb:mroIn K D (.type "BaseException")=some true
theorem ExK.find(k:ExK K D)(hc:(clsIn K D).isSome=true):findObj K D none "__class__"=some (.bind (.builtin "getset_descriptor.__get__") (.builtin "object.__class__")):=by obtain⟨cd,hc⟩:=uD.mp hc;unfold findObj;rw[hc,tV,k.ca,tV];simp[k.gs,k.tk]
theorem PJ(k:ExK K D)(hc:(clsIn K D).isSome=true)(X:K.In s.heap)(I:InstAt s.heap x ox D none)(h:Q (.done (.ret (.ref D))) s):
  wpAny (model prog w) A (Builtin.«object.__getattribute__» ⟨[.ref x,.str "__class__" tk],[]⟩) Q E s:=by
 obtain⟨hh,g,d,t,os⟩:=s;unfold Builtin.«object.__getattribute__»
 repeat (any_goals (first|assumption|with_reducible refine(I.type (M:=model prog w)).at ?_|with_reducible refine(looks_find (M:=model prog w) X I (k.find hc)).at ?_|wp_step))
 exact class_get X I k.mo (sM h)
theorem PM(k:ExK K D)(X:K.In s.heap)(I:InstAt s.heap x ox D none)(h:Q () s):wpAny M A (checkBuiltinCall "BaseException.__getattribute__" ⟨[.ref x,nameV],[]⟩) Q E s:=by
 obtain⟨hh,g,d,t,os⟩:=s;have hk:builtinKind "BaseException.__getattribute__"=some .slot:=by decide +kernel
 have iX:splitId "BaseException.__getattribute__"=some ("BaseException","__getattribute__"):=by decide +kernel
 simp only[checkBuiltinCall,hk,iX];refine sE ?_;unfold isInstance
 repeat (first|with_reducible refine(I.type (M:=M)).at ?_|with_reducible refine(looks_mroIn (M:=M) X k.mb).at ?_|wp_step)
 exact h
theorem SA(k:ExK K D)(hc:(clsIn K D).isSome=true)(X:K.In s.heap)(I:InstAt s.heap x ox D none)(h:R (.ok (.ret (.ref D))) s):
  codeAny (model prog w) A (.call (.builtin "BaseException.__getattribute__") ⟨[.ref x,.str "__class__" tk],[]⟩) R s :=
 codeAny_call_builtin PySem.F.excAttr_ValueError.ga.plain F.entry_bexc_ga (PM k X I (PJ k hc X I h))
theorem ZR(k:ExK K D)(hc:(clsIn K D).isSome=true)(X:K.In s.heap)(I:InstAt s.heap x ox D none)(h:Q (.ref D) s):
  wpAny (model prog w) A (getAttrBy (.ref x) (.str "__class__" tk) false) Q E s:=by
 obtain⟨hh,g,d,t,os⟩:=s;have f3:=PySem.F.excAttr_ValueError.ga.bind (.ref x);have sA:(Value.builtin "BaseException.__getattribute__"==Value.builtin "object.__getattribute__")=false:=by decide +kernel
 repeat (any_goals (first|assumption|with_reducible refine(I.type (M:=model prog w)).at ?_|with_reducible refine(looks_findIn (M:=model prog w) X k.ga).at ?_|with_reducible refine(looks_findIn (M:=model prog w) X k.gt).at ?_|wp_step))
 refine SA k hc X I ?_
 repeat (any_goals (first|assumption|wp_step))
theorem PL(k:ExK K D)(hc:(clsIn K D).isSome=true)(X:K.In s.heap)(I:InstAt s.heap x ox D none)(h:Q (some (.ref D)) {s with toks:=s.toks+1}):
  wpAny (model prog w) A (getAttr? (.ref x) "__class__") Q E s:=by
 obtain⟨hh,g,d,t,os⟩:=s;unfold getAttr? getAttrBy?;exact sE (wpAny_mkText (sE (wpAny_attempt (ZR k hc X I (sM h)))))
theorem RE(k:ExK K D)(hc:(clsIn K D).isSome=true):KitX K (.ref x) (.ref D) (λh=>InstAt h x ox D none) where
 ty:=λ_ _ _ I=>I.type
 it:=λ_ _ X _=>by
  unfold clsIn at hc;split at hc
  next c' d' o4 mz ho=>intro A' Q' E' s' k q;unfold isType loadHead;exact sE (wpAny_loadPart (k _ _ (X _ _ ho)) (sM q))
  .cases hc
 ne:=λh tp dd ak n sl X qN=>by
  refine Bool.eq_false_iff.mpr λq=>?_
  have e:=Value.ref.inj (beq_iff_eq.mp q);subst e;unfold clsIn at hc;split at hc
  next c' d' o4 mz ho=>cases((X _ _ ho).symm.trans qN)
  .cases hc
 ca:=λX I q=>PL k hc X I q
end PySem.W
namespace L2
open PySem PySem.Spec PyProof.Rows
variable{X:Cx}
theorem Ii:CV X (.builtin "isinstance") (λxs H Q=>∃a D y c b,xs=[.ref a,y]/\(∀u,RelV y u->u=c)/\H a=some (exO (.ref D) a)/\PySem.W.ExK X.K D/\(clsIn X.K D).isSome=true/\kitOne X.K (.ref D) c=some b/\Q (.o b) H):=by
 intro ae s U H xs us Q I r h;obtain⟨a,D,y,c,b,rfl,hy,ha,k,hc,e,q⟩:=h;cases r with
 |cons r1 rr =>
  cases rr with
  |cons r2 rr =>
   cases rr;cases(show _=Value.ref a from r1);cases hy _ r2;obtain⟨⟨o,vs,h1,h2,h3,h4⟩,_⟩:=(show BJ X.prog X.w H s.heap a (exO (.ref D) a)from I.zZ a _ ha)
   exact PySem.W.kia_one (PySem.W.RE k hc) I.kIn (⟨h1,h2,by unfold PySem.W.notCls;rw[h4],by rw[h3];trivial⟩) e (λz=>nomatch z) λtk=>⟨.o b,H,I.tok tk,rfl,q⟩
theorem S6{bs:List Bool}(rv:Vals (bs.map V.o) ak):∀y,y∈ak.toArray->∃b,y=Value.bool b:=by intro y hy;rw[B6 rv]at hy;simp only[List.mem_toArray,tQ]at hy;obtain⟨b,_,rfl⟩:=hy;exact⟨b,rfl⟩
def isT:Value->Bool
 |.bool b=>b==true
 |_=>false
theorem Uh{bs:List Bool}(rv:Vals (bs.map V.o) ak):∀y,y∈ak.toArray->SeqAt.EqAt A s y (.bool true) (isT y):=λy hy=>by obtain⟨b,rfl⟩:=S6 rv y hy;exact SeqAt.EqAt.bool_bool b true
theorem Rq:MtR X "list.count" (λx vs H Q=>∃(l:Addr)(bs:List Bool),x=.ref l/\vs=[.o true]/\SqL X.K H l (bs.map V.o)/\Q (.int ((bs.countP id:Nat):Int)) H):=by
 intro ae s U H x vs v us Q I rx rv h;obtain⟨l,bs,rfl,rfl,hq,q⟩:=h;cases rx;obtain⟨u,rfl,ru⟩:=rv.one;cases(show u=Value.bool true from ru);obtain⟨ak,rv,⟨⟨cls,dd,data,sl⟩,n,ho,hc,jH,hd⟩,hz⟩:=I.list hq;simp only at hc jH hd;subst hc jH hd;refine call_meets F.slot_list_count ⟨_,ho,rfl⟩ F.entry_list_count (F.args_list_count_2 _ _) (SeqAt.list_countAt l ak.toArray n none sl (.bool true) isT) ⟨ho,Uh rv,?_⟩;refine⟨.int _,H,I.tok _,⟨_,rfl⟩,?_⟩;have e:ak.toArray.toList.countP isT=bs.countP id:=by rw[(B6 rv)];simp only[List.countP_map];exact List.countP_congr λb _=>by cases b<;>simp[isT]
 rw[e];exact q
theorem Rp:MtR X "list.index" (λx vs H Q=>∃(l:Addr)(bs:List Bool)(j:Nat),x=.ref l/\vs=[.o true]/\SqL X.K H l (bs.map V.o)/\bs[j]?=some true/\(∀m,m<j->bs[m]?=some false)/\Q (.int ((j:Nat):Int)) H):=by
 intro ae s U H x vs v us Q I rx rv h;obtain⟨l,bs,j,rfl,rfl,hq,hj,lK,q⟩:=h;cases rx;obtain⟨u,rfl,ru⟩:=rv.one;cases(show u=Value.bool true from ru);obtain⟨ak,rv,⟨⟨cls,dd,data,sl⟩,n,ho,hc,jH,hd⟩,hz⟩:=I.list hq;simp only at hc jH hd;subst hc jH hd;have hb:=B6 rv;subst hb;have qv:=(sS.mp hj).1;rw[sH,sizeLine_eq]at hz;refine call_meets F.slot_list_index ⟨_,ho,rfl⟩ F.entry_list_index (F.args_list_index_2 _ _) (SeqAt.list_indexAt l (bs.map Value.bool).toArray n none sl (.bool true) isT j (by simpa using qv) (by omega) ?_ ?_) ⟨ho,Uh rv,?_⟩
 .have:=(sS.mp hj).2;simp[isT,this]
 .intro m hm qz;have:=(sS.mp (lK m qz)).2;simp[isT,this]
 .exact⟨.int _,H,I.tok _,⟨_,rfl⟩,q⟩
end L2
namespace L2
open PySem PySem.Spec PySem.W PyProof.Rows
theorem MN{l:OpenLaw}{K:Params->Fg}{CX:World->CXT}{sp:Fg->Sp}{x:Str}
  (hn:l.most=some n) (gD:n<=sizeLine) (jK:d.params.defaults=[]) (hr:DK k callerA)
  (hY:∀(w:World)(h:Heap),YP w h->(K w.params).In h)
  (F:∀(w:World)(mg:Str->Option Value)(fa:Addr)(h:Heap),(K w.params).In h->h.Ns mainGlobals mg->mg d.name=some (.ref fa) ->
   ∃fd:FuncData,(∀(s:Shared)(u:Value),BindsTo s fd ⟨[u],[]⟩ [(x,u)]) /\
    ∀base:Heap,(K w.params).In base->base.Ns mainGlobals mg->EY l.prog w (K w.params) mg base (CX w) k fa fd [x] (sp (K w.params)))
  (gE:∀(K:Fg)(H:Hp)(a:Addr)(ns:List Int),ns.length<=n->Cs ns<=2^20->Jat H->SqL K H a (ns.map V.int)->sp K [.ref a] H (λv _=>v=.o true) λ_ _ _=>False)
  (jx:∀(w:World)(H:Hp)(s:Shared)(e:Value)(s':Shared),CX w [] H s (λ_ _ _=>False) e s'->False) :
  WalkO q loose XP YP l.row.toRowW d [] (λf vs=>PySem.call f vs):=by
 intro w zV ay mg mb G Y fa o pm cd di dV kV ho hd fq hD jU hg args vals as fw gU nh jX cg;obtain rfl:dV=.none:=Dflts.none hD jK;obtain rfl:kV=.none:=Dflts.noKw hD;obtain⟨a,vs,ns,rfl,rfl,lL,hints,hlen⟩:=Att.Oa hn fw jX;have KX:=hY w _ Y;obtain⟨fd,hb,hF⟩:=F w mg fa _ KX G.T.g jU;refine PySem.W.enter_call (codeAny_mono (RD KX G.T.g G.T.b G.T.builtins G.T.nolimit hg lL hints (tK hlen gD) hr hF hb (λH hO hS=>gE (K w.params) H a ns hlen (by
  have h1:(WData.list (ns.map WData.int)).layable=true:=by unfold WData.layableAll at gU;simpa using gU
  unfold WData.layable at h1;rw[tH]at h1;have h2:=tJ h1.2;simp only[WData.weight]at h2;rw[<- Hc];exact h2) hO hS) λH e s'=>jx w H ay e s') λr s' hq=>?_)
 obtain⟨rfl,h2,h3,h4⟩:=hq;exact⟨.inl ⟨.bool true,.bool true,[],rfl,λ_=>rfl,.bool true,Att.Ol l _,λ_=>⟨List.Pairwise.nil,λ_ hm=>(nomatch hm)⟩⟩,h2,h3,h4⟩
theorem KZ{l:OpenLaw}{K:Params->Fg}{as:List Addr}{CX:World->CXT}{sp:Fg->Sp}{x:Str}
  (hn:l.most=some n) (gD:n<=sizeLine) (jK:d.params.defaults=[]) (hr:DK k callerA)
  (hK:∀P:Params,as=(K P).map (·.1))
  (F:∀(w:World)(mg:Str->Option Value)(fa:Addr)(h:Heap),(K w.params).In h->h.Ns mainGlobals mg->mg d.name=some (.ref fa) ->
   ∃fd:FuncData,(∀(s:Shared)(u:Value),BindsTo s fd ⟨[u],[]⟩ [(x,u)]) /\
    ∀base:Heap,(K w.params).In base->base.Ns mainGlobals mg->EY l.prog w (K w.params) mg base (CX w) k fa fd [x] (sp (K w.params)))
  (gE:∀(K:Fg)(H:Hp)(a:Addr)(ns:List Int),ns.length<=n->Cs ns<=2^20->Jat H->SqL K H a (ns.map V.int)->sp K [.ref a] H (λv _=>v=.o true) λ_ _ _=>False)
  (jx:∀(w:World)(H:Hp)(s:Shared)(e:Value)(s':Shared),CX w [] H s (λ_ _ _=>False) e s'->False) :
  WalkX q loose XP (PySem.W.X.obsZ as) (PySem.W.X.valZ K N tk) l.row.toRowW d [] (λf vs=>PySem.call f vs):=by
 intro w zV ay mg mb G Y fa o pm cd di dV kV ho hd fq hD jU hg args vals oV hL fw gU nh jX cg;refine(MN (l:=l) (q:=q) (loose:=loose) (XP:=XP) (YP:=λw h=>(K w.params).In h) (d:=d) (K:=K) (CX:=CX) (sp:=sp) (x:=x) hn gD jK hr (λ_ _ h=>h) F gE jx) w zV ay mg mb G ?_ fa o pm cd di dV kV ho hd fq hD jU hg args vals oV fw gU nh jX cg;have h1:as.map zV.heap.get?=(K w.params).map (λp=>some p.2):=congrArg Prod.fst Y;rw[hK w.params]at h1;exact λa o e=>hL.keeps a o (OQ _ h1 a o e)
end L2
namespace L2
open PySem PySem.Spec PyProof.Rows
variable{X:Cx}{k:Nat}{C:Addr}{ps:List Str}{sp:Sp}{Z:XE}{x m:Str}{p pos av:Pos}{e o:Expr}{es:List Expr}{ta:TE}{t:TA}
def Xt(C:Addr)(m:Str)(sp:Sp)(Z:XE)(ta:TE)(t:TA):TE:=λU H Q=>ta U H λx H1=>∃a dx fs,x=.ref a/\H1 a=some (.ins C dx fs)/\fs.lookup m=none /\
 t U H1 λvs H2=>sp (x::vs) H2 Q λc _ H'=>Z c U H'
theorem TJ(G:W6 X.prog X.w X.K X.mg X.base (CX1 X.prog X.w) C m k ps sp)(hr:DK k X.A)(hx:Lk X Z)(he:PE X o ta)(ha:PA X (e::es) t)
  (bK:starEach (e::es) X.env=(false,eval e X.env)::starEach es X.env:=by rfl) (aC:(backTo pos (starEach es X.env)).any (·.1)=false:=by rfl)
  (ht:eval (.Call (.Attribute o m av) (e::es) [] pos) X.env=(do
   let ov <- eval o X.env
   standAt av.atName
   let(f,first) <- holding [ov] (getMethod ov m pl)
   callWith pos f first (backTo pos (starEach (e::es) X.env)) (backToKw pos (keywordEach [] X.env))):=by rfl) :
  PE X (.Call (.Attribute o m av) (e::es) [] pos) (Xt C m sp Z ta t):=by
 obtain⟨f,fd,F,hm,hb⟩:=G.ex;intro ae s U H Q I h;refine methodCall_KW (thn (he ae s U H _ I h) λu s1 ⟨x,H1,I1,rx,a,dx,fs,ex,ea,l,q⟩=>?_) ht;subst ex;obtain rfl:u=Value.ref a:=rx;refine HW I1 ea G.cl hm l ?_;refine callWith_K I.ok.mod.yR hm.kp (thn (ha pos ae s1 U H1 _ I1 q) λus s2 ⟨vs,H2,I2,r,q2⟩=>⟨I2.kIn,?_⟩) bK aC;exact Oc (vs:=.ref a::vs) F hr hb hx I2 (.cons rfl r) q2
theorem Yl:Passes (CX1 X.prog X.w) X E0:=λ_ _ _ _ _ _ _ ⟨_,_,_,_,_,_,_,_,_,_,_,q⟩=>q.elim
variable{v:Expr}{a:Str}{j:Nat}{cp fp jp:Pos}
theorem SX(hc:X.calm=true):CV X (.builtin "any") (λxs H Q=>∃(l:Addr)(bs:List Bool),xs=[.ref l]/\SqL X.K H l (bs.map V.o)/\Q (.o (bs.any id)) H):=by
 intro ae s U H xs us Q I r h;obtain⟨l,bs,rfl,hq,q⟩:=h;obtain⟨u,rfl,rx⟩:=vals1 r;cases rx;obtain⟨ak,rv,pl,hz⟩:=I.list hq;have hb:=B6 rv;have hl:=pl.isList;refine call_any_walk (wpAny_pyIter_list hl ?_);refine⟨s.heap.objs.size,[s.heap.objs.size,l],[s.heap.objs.size],ak.toArray.size,_,_,λi=>(bs[i]?).getD false,rfl,Walks.list (A:=X.A.in1) (I.ok.hd hc) _ l (tD (by obtain⟨_,e,_⟩:=hl;exact sO e)) ak.toArray,
  ⟨⟨_,sP _ rfl,rfl,rfl⟩,hl.push _⟩,λi v s' Q' E' hP hQ=>?_,λh' tk hk=>?_⟩
 .have e:=by simpa using hP
  rw[hb,tO]at e;cases eb:bs[i]? with|none=>rw[eb]at e;cases e|some b =>rw[eb]at e;have e':=Option.some.inj e;subst e';simp only[eb,Option.getD_some]at hQ;exact wpAny_truthy_bool hQ
 .have e:((List.range ak.toArray.size).any λi=>(bs[i]?).getD false)=bs.any id:=by
   have hlen:ak.toArray.size=bs.length:=by rw[hb];simp
   rw[hlen];rw[uk,uX,uX];constructor
   .rintro⟨i,hi,hh⟩
    have gC:=uw.mp hi;exact⟨bs[i],List.getElem_mem gC,by simpa[sL gC]using hh⟩
   .rintro⟨b,hm,hh⟩
    obtain⟨i,hi,rfl⟩:=uN hm;exact⟨i,uw.mpr hi,by simpa[sL hi]using hh⟩
  rw[e];exact⟨.o _,H,I.kept (λb o e=>hk b o (λhm=>by rw[sZ.mp hm]at e;exact tZ _ (sO e)) (sF _ e)),rfl,q⟩
variable{f:Addr}{fd:FuncData}{ds:List Value}{dY:List V}
theorem DE:fillsNumberSlot (.type "tuple") "mul"=pure false :=
 PySem.fillsNumberSlot_seq F.slot_tuple_mul.lookup (by decide +kernel) F.slot_tuple_rmul.lookup (by decide +kernel)
theorem Fp:seqRepeat? (.type "tuple")=pure (some (.builtin "tuple.__mul__")):=by unfold seqRepeat?;rw[PySem.seqSlot_of (name:="__mul__") F.slot_tuple_mul.lookup (by decide +kernel),PySem.seqSlot_of (name:="__rmul__") F.slot_tuple_rmul.lookup (by decide +kernel)];rfl
theorem Ej(a:Int)(t:Tok)(l:Addr)(items:Array Value)(n:Nat)(dd:Option Addr)(sl:Array (Option Value)):
  Meets (Builtin.«int.__rmul__» ⟨[.int a t,.ref l],[]⟩) (λ_ R s=>s.heap.get? l=some {cls:=.type "tuple",dict:=dd,data:=.seq items n,slots:=sl}/\R (.ok (.ret Value.notImplemented)) s) :=
 .of_wp λprog w A R s h=>by obtain⟨hp,g,d,tk,os⟩:=s;obtain⟨hl,h⟩:=h;wp_walk;exact⟨_,rfl,h⟩
variable{w:Expr}{tb:TE}{a2:Str}{j2:Nat}{kW qc:Pos}
end L2
namespace L2
open PySem PySem.Spec
def Iti(a:Addr)(o:Obj)(ah:List (Key×V)):It :=
 ⟨λi H=>H a=some (.frz o (.l ah))/\i<ah.length,λi H x H'=>∃T k v,H T=none/\x=.ref T/\H'=upd H T (.tup [kV k,v])/\ah[i]?=some (k,v),λi H=>H a=some (.frz o (.l ah))/\ah.length<=i⟩
theorem KV.at:∀{ah:List (κ×V)}{vs:List (κ×Value)}{i:Nat}{q:κ×Value},KV ah vs->vs[i]?=some q->∃v,ah[i]?=some (q.1,v)/\RelV v q.2
 |_,_,_,_,.nil,e=>by simp at e
 |(k,v)::_,_::_,0,_,.cons h t,e=>by simp at e;subst e;exact⟨v,by simp[<- h.1],h.2⟩
 |_::_,_::_,i+1,_,.cons h t,e=>by obtain⟨v,e1,e2⟩:=KV.at t (by simpa using e);exact⟨v,by simpa using e1,e2⟩
theorem MQ(a it:Addr)(o:Obj)(ah:List (Key×V)):Turn P w K (.Tuple fm k0 cf) (Iti a o ah) [it] it (λi h=>∃ok ov,IsItemIter h it a i ah.length (Jbz o) ok ov) where
 mem:=by simp
 obj:=λi h st b hb=>by
  have e:=by simpa using hb
  subst e;obtain⟨ok,ov,e⟩:=st;exact⟨_,e,λv z=>nomatch z⟩
 keep:=λi h h' st k=>by obtain⟨ok,ov,e⟩:=st;exact⟨ok,ov,k it (by simp) _ e⟩
 item:=by
  intro X hP hw hK hc i ae s U H E I hf st hg;subst hP hw hK;obtain⟨he,hi⟩:=hg;obtain⟨hd,vs,aT,da⟩:=I.Jbn he;have hl:=aT.length;have gC:i<vs.length:=by omega
  have hx:vs[i]?=some ((vs[i]).1,(vs[i]).2):=sL gC;obtain⟨v,ev,rv⟩:=KV.at aT hx;obtain⟨ok,ov,st⟩:=st;rw[hl]at st;refine wpAny_pyNext_items_item st da hx λkey h' hk eQ lg aZ fZ=>⟨_,rfl,?_⟩
  refine wpAny_letOwnedTupleGo_items eQ λk8 kB sb=>?_
  rw[<- hl]at kB;have Il:Inv X ae U (upd H s.heap.objs.size (.tup [kV (vs[i]).1,v])) {s with heap:=s.heap.push {cls:=.type "tuple",data:=.seq #[key,(vs[i]).2]},toks:=s.toks} :=
   I.laid (λb o e=>sF _ e) (sV _) ⟨by show 2<=sizeLine;rw[sizeLine_eq];decide,[key,(vs[i]).2],.cons (XS hk) (.cons rv .nil),⟨_,sP _ rfl,rfl,_,rfl⟩⟩
  have jM:∀b∈[it],KS X ae (upd H s.heap.objs.size (.tup [kV (vs[i]).1,v])) b:=λb hb=>by
   obtain⟨f0,f⟩:=hf b hb;have e:b=it:=by simpa using hb
   subst e;exact⟨by rw[Ap (tD (sO st))];exact f0,f⟩
  exact⟨.ref s.heap.objs.size,_,(Il.Ir (λb o hb e=>by
   have nz:b≠it:=λq=>hb (by simp[q])
   refine sb.extBut _ _ nz ?_;by_cases hbT:b=s.heap.objs.size
   .subst hbT;have e':(s.heap.push {cls:=.type "tuple",data:=.seq #[key,(vs[i]).2]}).get? s.heap.objs.size=some o:=e;rw[sP _ rfl]at e';cases e';exact lg
   .have e':(s.heap.push {cls:=.type "tuple",data:=.seq #[key,(vs[i]).2]}).get? b=some o:=e;rw[Heap.get?_push_ne _ _ _ hbT]at e';exact fZ b o nz e') jM),rfl,⟨s.heap.objs.size,_,v,I.zZ.fresh (sV _),rfl,rfl,ev⟩,⟨_,_,kB⟩,λb hb=>(jM b hb).1⟩
 done:=by intro X hP hw hK hc i ae s U H E I hf st hg;subst hP hw hK;obtain⟨he,hi⟩:=hg;obtain⟨hd,vs,aT,da⟩:=I.Jbn he;have hl:=aT.length;obtain⟨ok,ov,st⟩:=st;rw[hl]at st;exact wpAny_pyNext_items_end (I.ok.hd hc) st da (ua (by omega)) λh' eb=>⟨rfl,I.Ir (λb o hb e=>eb b o (λq=>hb (by simp[q])) e) hf⟩
 self:=λA i s Q E st h=>by obtain⟨ok,ov,st⟩:=st;exact PySem.W.kcp_self st h
def Y1(td:TE):TI:=λU H R=>td U H λx H1=>∃a o ah,x=.ref a/\H1 a=some (.frz o (.l ah))/\R (Iti a o ah) H1
theorem Ra(ho:PE X o td)(aN:attributeBase o "items" X.env (eval o X.env)=eval o X.env:=by rfl)(aO:(av.endLine==aw.line)=true:=by rfl):
  PI X (.Tuple fm k0 cf) (.Call (.Attribute o "items" av) [] [] aw) (Y1 td):=by
 intro ae s U H R I h;refine wpAny_Call_method0_late aN aO (thn (ho ae s U H _ I h) λv s1 ⟨x,H1,I1,r1,a,ob,ah,ex,hd,q⟩=>?_);subst ex;cases r1;obtain⟨hS,vs,aT,da⟩:=I1.Jbn hd;obtain⟨t1,t2,_⟩:=YW I1 (.inl ⟨ah,.inr ⟨ob,hd⟩⟩);refine⟨"dict","dict.items",PySem.F.plainAttrs_dict,PySem.F.slot_dict_items,PySem.F.type_dict_items,t1,t2,Calls.callWith_builtin rfl (PySem.evalArgs_none ?_)⟩;refine call_meetsIn PySem.F.slot_dict_items da.dictOf.typeIs PySem.F.entry_dict_items (PySem.F.args_dict_items_1 _) (meets_dict_items (Bd X.prog X.w) a hS) ⟨⟨vs,da.dictOf⟩,?_⟩;have I2:Inv X ae U H1 {s1 with heap:=s1.heap.push {cls:=.type "dict_items",data:=.fields #[.ref a]} }:=I1.kept λb o e=>sF _ e
 refine wpAny_pyIter_items ⟨_,sP _ rfl,rfl,rfl⟩ (da.push _) ?_;refine⟨_,[_],_,Iti a ob ah,H1,rfl,I2.kept λb o e=>sF _ e,MQ a _ ob ah,⟨.none,.none,by rw[aT.length];exact sP _ rfl⟩,λb hb=>?_,q⟩;have e:=sZ.mp hb;subst e;exact I2.Sn (sV _) (I2.zZ.fresh (sV _))
end L2
namespace PySem
namespace Zp
theorem Qu:typeLookup (.type "zip") "__getattr__"=pure none:=by rw[typeLookup_type,builtinLookup_eq_fast];kernel_rfl
theorem Qw:typeLookup (.type "zip") "keys"=pure none:=by rw[typeLookup_type,builtinLookup_eq_fast];kernel_rfl
theorem NO:entryFor table "zip.__getattribute__"=some Builtin.«object.__getattribute__» :=
 entryFor_alias (id':="object.__getattribute__") (by kernel_rfl) (by decide +kernel) (by decide +kernel) (by kernel_rfl)
theorem Qv(a:Addr)(vs:Array Value)(u:Tok):
  Meets (Builtin.«object.__getattribute__» ⟨[.ref a,.str "keys" u],[]⟩) (λA R s=>s.heap.get? a=some {cls:=.type "zip",dict:=none,data:=.fields vs,slots:=#[]}/\raisesAttr (.ref a) "keys" A R s) :=
 Meets.of_wp λprog w A R s hs=>by
  obtain⟨hp,g,d,tk,os⟩:=s;obtain⟨hx,hs⟩:=hs;have mZ:=Qw;unfold Builtin.«object.__getattribute__»
  repeat (any_goals (first|assumption|wp_step))
  try simp only[(by decide +kernel),tY,if_false]
  repeat (any_goals (first|assumption|wp_step))
  exact wpAny_raiseAttrError hs.1 hs.2 (attrMsg_fits (by decide +kernel) (by size_fits))
theorem Qt
  (hx:s.heap.get? a=some {cls:=.type "zip",data:=.fields vs}) (hA:A.handled=none)
  (h:∀h' tk,(∀b o,s.heap.get? b=some o->h'.get? b=some o)->Q none {s with heap:=h',toks:=tk}):wpAny (model prog w) A (getAttr? (.ref a) "keys") Q E s:=by
 obtain⟨hp,g,d,tk,os⟩:=s;have hT:∀mB,(⟨hp,g,d,mB,os⟩:Shared).TypeIs (.ref a) "zip":=λ_=>⟨_,hx,rfl⟩
 have f1:=sub_AttributeError;have f3:=F.slot_zip_getattribute.lookup;have f4:=F.slot_zip_getattribute.bind (.ref a);have f5:=Qu;unfold getAttr? getAttrBy? getAttrBy
 repeat (any_goals (first|assumption|exact hT _|((with_reducible show wpAny _ _ (call (Value.builtin "zip.__getattribute__") _ _) _ _ _);refine call_meets F.slot_zip_getattribute (hT _) NO (F.args_zip_getattribute_2 _ _) (Qv a vs _) ⟨hx,hA,λh' mB e nj=>?_⟩)|wp_step))
 obtain⟨t',u',he⟩:=nj.there;unfold getattributeRaised
 repeat (any_goals (first|assumption|wp_step))
 exact h h' mB nj.1
theorem Ko:entryFor table "dict.update.loop"=some Builtin.«dict.update.loop»:=entryFor_of_fast (by kernel_rfl)
theorem EF:plainId "dict.update.loop"=true:=by decide +kernel
variable{prog:Program}{w:World}{A:Around}{E:Value->Shared->Prop}{s:Shared}{z TI TO i1 i2 l1 l2 lo S:Addr}{xs ys:Array Value}{b1 b2:Bool}{R:Result->Shared->Prop}
section
variable{K:Type}[DecidableEq K]{knd:KeyKind prog w K}
theorem QA(hh:A.handled=none)(D:Apart z TI TO i1 i2 l1 l2)(cg:∀b∈[z,TI,TO,i1,i2,l1,l2],b<lo)(fR:∀b∈[z,TI,TO,i1,i2,l1,l2],b≠S)(iJ:S<lo){ks:List K}(lG:∀(i:Nat)(x:Value),xs[i]?=some x->∃k,ks[i]?=some k/\knd.is k x=true)(hn:xs.size<=sizeLine)(hl:ks.length=xs.size)(res:Value){aH:Heap}
  (hR:∀h' tk,(∀b o,b≠S->b∉[z,TO,i1,i2]->aH.get? b=some o->h'.get? b=some o)->h'.DictOf knd S (merged [] (ks.zip ys.toList))->R (.ok (.ret res)) {s with heap:=h',toks:=tk}) :
  ∀(k i:Nat)(h:Heap)(tk:Nat),min xs.size ys.size-i=k->i<=min xs.size ys.size->Frs b1 b2 h z TI TO i1 i2 l1 l2 lo i->EA b1 h l1 xs->EA b2 h l2 ys->(∀b o,b≠S->b∉[z,TO,i1,i2]->aH.get? b=some o->h.get? b=some o) ->
   h.DictOf knd S (merged [] ((ks.zip ys.toList).take i))->lo<=h.objs.size ->
   codeAny (model prog w) A (.builtin "dict.update.loop" ⟨[.ref S,.ref z,rawInt i,res],[]⟩) R {s with heap:=h,toks:=tk}:=by
 have rj:∀{b a:Addr},b<lo->lo<=a->a≠b:=λ{b a} h1 h2 q=>absurd (sT h1 h2) (by rw[q];exact tZ _)
 have zl:(ks.zip ys.toList).length=min xs.size ys.size:=by rw[List.length_zip,hl,uq]
 intro k
 induction k with
 |zero =>
  intro i h tk hk hi bK c1 c2 gf hS kr;refine codeAny_builtin Ko ?_;rw[Around.under_plainId EF _];show wpAny _ A.in1 (pyNext (.ref z) >>= _) _ _ _;refine sE (WH (A:=A.in1) hh D bK c1 c2 (by
   rcases Nat.le_total xs.size ys.size with q|q
   .left;rw[uA];omega
   .right;rw[uA];omega) λh' he=>?_)
  show wpAny _ _ (Builtin.Dict.addKeywords S [] >>= _) _ _ _;refine sE (sM (sM (hR h' tk (λb o q1 q2 e=>?_) ?_)))
  .simp only[sQ,tq,or_false,not_or]at q2;exact he b o q2.1 q2.2.1 q2.2.2.1 q2.2.2.2 (gf b o q1 (by simp[q2]) e)
  .rw[uY (by omega)]at hS;obtain⟨o,es,ep,ho,r⟩:=hS;exact⟨o,es,ep,he S _ (Ne.symm (fR _ (by simp))) (Ne.symm (fR _ (by simp))) (Ne.symm (fR _ (by simp))) (Ne.symm (fR _ (by simp))) ho,r⟩
 |succ k ih =>
  intro i h tk hk hi bK c1 c2 gf hS kr;have jS:i<xs.size:=by omega
  have jT:i<ys.size:=by omega
  obtain⟨κ,ek,qW⟩:=lG i _ (t9 jS);have ez:(ks.zip ys.toList)[i]?=some (κ,ys[i]):=by rw[List.getElem?_zip_eq_some];exact⟨ek,by rw[uL];exact t9 jT⟩
  refine codeAny_builtin Ko ?_;rw[Around.under_plainId EF _];show wpAny _ A.in1 (pyNext (.ref z) >>= _) _ _ _;refine sE (QE (s:={s with heap:=h,toks:=tk}) D bK c1 c2 (t9 jS) (t9 jT) kr cg λh' lR oX oZ ht hz lE=>?_);dsimp only at ht hz lE ⊢;refine sE (wpAny_holding ?_);refine sE (wpAny_tryCatch ?_);unfold Builtin.Dict.pairItems;refine sE (wpAny_typeOf (T:="tuple") ⟨_,ht,rfl⟩ ?_);rw[if_pos (by decide)];refine sE (wpAny_seqItems ht rfl (sM ?_));show wpAny _ _ (holding [xs[i],ys[i]] (dictSet S xs[i] ys[i])) _ _ _;refine wpAny_holding (wpAny_dictSet_pairs (s:={s with heap:=h',toks:=tk}) qW (by obtain⟨o,es,ep,ho,r⟩:=hS;exact⟨o,es,ep,lE S _ (Ne.symm (fR _ (by simp))) (Ne.symm (fR _ (by simp))) (Ne.symm (fR _ (by simp))) (Ne.symm (fR _ (by simp))) ho,r⟩) (λh2 hd2 sb=>?_) (tK (merged_length_le _ _) (by simp only[List.length_nil,uh];omega)));rw[<- merged_take_succ _ _ _ _ ez]at hd2;have up:∀b o,b≠S->h'.get? b=some o->h2.get? b=some o:=λb o hb e=>sb.extBut b o hb e
  refine sM ⟨plainId_quiet EF _,ih (i+1) h2 (tk+1) (by omega) (by omega) (lR.keep up (λb hb=>fR b (sX [l1,l2] hb)) iJ) (oX.at λo e=>up _ o (fR _ (by simp)) e) (oZ.at λo e=>up _ o (fR _ (by simp)) e) (λb o q1 q2 e=>?_) hd2 ?_⟩
  .have q3:=q2;simp only[sQ,tq,or_false,not_or]at q3;exact up b o q1 (lE b o q3.1 q3.2.1 q3.2.2.1 q3.2.2.2 (gf b o q1 q2 e))
  .exact tK kr (uP (sO (up _ _ (rj iJ kr) ht)))
theorem Jj(hh:A.handled=none)(D:Apart z TI TO i1 i2 l1 l2)(hz:IsZip s.heap z TI TO .none)(bt:IsPair s.heap TI (.ref i1) (.ref i2))(bM:∃a b,IsPair s.heap TO a b)(t1:Ju b1 s.heap i1 l1 0)(t2:Ju b2 s.heap i2 l2 0)(c1:EA b1 s.heap l1 xs)(c2:EA b2 s.heap l2 ys)
  (cg:∀b∈[z,TI,TO,i1,i2,l1,l2],b<s.heap.objs.size) {ks:List K} (lG:∀(i:Nat)(x:Value),xs[i]?=some x->∃k,ks[i]?=some k/\knd.is k x=true) (hn:xs.size<=sizeLine) (hl:ks.length=xs.size)
  (hQ:∀h' tk,(∀b o,b∉[z,TO,i1,i2]->s.heap.get? b=some o->h'.get? b=some o)->h'.DictOf knd s.heap.objs.size (merged [] (ks.zip ys.toList))->Q (.ref s.heap.objs.size) {s with heap:=h',toks:=tk}) :
  wpAny (model prog w) A (call (.type "dict") [.ref z]) Q E s:=by
 refine callType_codes (Q₁:=λobj ay=>obj=.ref s.heap.objs.size/\ay={s with heap:=s.heap.push {cls:=.type "dict",data:=.dict #[]} }) F.kt_called_dict (F.kt_typeCall_dict_1 _) F.entry_dict_init (kt_code_dict_new _ ⟨rfl,rfl⟩) ?_
 rintro obj ay ⟨rfl,rfl⟩
 have gW:(s.heap.push {cls:=.type "dict",data:=.dict #[]}).DictOf knd s.heap.objs.size []:=Heap.DictOf.new s.heap;have zX:∀b o,s.heap.get? b=some o->(s.heap.push {cls:=.type "dict",data:=.dict #[]}).get? b=some o:=λb o e=>sF _ e
 refine⟨gW.typeIs,F.args_dict_init_2 _ _,?_⟩;unfold Builtin.«dict.__init__»;refine sE ?_;unfold Builtin.Dict.selfAndRest;refine sE (wpAny_notOrdered_dict gW.typeIs ?_);show wpAny _ _ (pure (s.heap.objs.size,[Value.ref z])) _ _ _;refine sM ?_;show wpAny _ _ (Builtin.Dict.updateFrom "dict.__init__" s.heap.objs.size (.ref z) [] .none) _ _ _;unfold Builtin.Dict.updateFrom;refine sE (wpAny_typeOf (T:="zip") ⟨_,zX _ _ hz,rfl⟩ ?_);rw[if_pos (by decide)];refine sE (Qt (zX _ _ hz) hh λh2 rM k2=>?_);have up:∀b o,s.heap.get? b=some o->h2.get? b=some o:=λb o e=>k2 b o (zX b o e)
 simp only[Option.isNone_none,if_true];refine sE (wpAny_rule ?_);refine sE (wpAny_pyIter_zip (up _ _ hz) ?_);obtain⟨ta,tb,bM⟩:=bM;have iy:h2.DictOf knd s.heap.objs.size []:=by obtain⟨o,es,ep,ho,r⟩:=gW;exact⟨o,es,ep,k2 _ _ ho,r⟩
 refine sM ⟨plainId_quiet EF _,QA (A:=A.in1) (s:=s) (aH:=h2) (lo:=h2.objs.size) (b1:=b1) (b2:=b2) (xs:=xs) (ys:=ys) (knd:=knd) hh D (λb hb=>sT (cg b hb) (by
  obtain⟨o,es,ep,ho,_⟩:=gW;exact uP (sO (k2 _ _ ho)))) (λb hb=>tD (cg b hb)) (by
  obtain⟨o,es,ep,ho,_⟩:=iy;exact sO ho) lG hn hl .none (λh' tk kp dd=>?_) (min xs.size ys.size) 0 h2 rM rfl (uI _)
  ⟨.inl ⟨rfl,up _ _ hz,ta,tb,up _ _ bM⟩,up _ _ bt,t1.at λo e=>up _ o e,t2.at λo e=>up _ o e⟩ (c1.at λo e=>up _ o e) (c2.at λo e=>up _ o e) (λb o _ _ e=>e) (by simpa[merged]using iy) (sV _)⟩
 exact⟨rfl,hQ h' tk (λb o q e=>kp b o (tD (sO e)) q (up b o e)) dd⟩
end
end Zp
end PySem
namespace L2
open PySem PySem.Spec PyProof.Rows
theorem TX:∀{ks:List Key}{ys:List V}{us:List Value},Vals ys us->KV (ks.zip ys) (ks.zip us)
 | [],_,_,_=>.nil
 |_::_,[],_,.nil=>.nil
 |k::ks,_::_,_::_,.cons r rr=>.cons ⟨rfl,r⟩ (TX rr)
def QI(K:Fg)(ta:TA):TE:=λU H Q=>ta U H λvs H1=>∃(b1:Bool)(a1:Addr)(b2:Bool)(a2:Addr)(ks:List Key)(ys:List V),vs=[.ref a1,.ref a2]/\SqB b1 K H1 a1 (ks.map kV)/\SqB b2 K H1 a2 ys/\ks.Nodup/\ks.length=ys.length/\∀d,H1 d=none->Q (.ref d) (upd H1 d (.l (ks.zip ys)))
theorem M5(hc:X.calm=true)(iP:X.mg "dict"=none)(fu:X.mg "zip"=none)(ha:PA X [a,b] ta)(iO:Gl X "dict":=by rfl)(eF:Gl X "zip":=by rfl)
  (he:starEach [(.Call (.Name "zip" p2) [a,b] [] bf:Expr)] X.env=[(false,eval (.Call (.Name "zip" p2) [a,b] [] bf) X.env)]:=by rfl) (hs:starEach [a,b] X.env=[(false,eval a X.env),(false,eval b X.env)]:=by rfl) (bw:starEach [b] X.env=[(false,eval b X.env)]:=by rfl) :
  PE X (.Call (.Name "dict" p1) [.Call (.Name "zip" p2) [a,b] [] bf] [] fF) (QI X.K ta):=by
 intro ae s U H Q I h;refine wpAny_Call_Name_kw (DS I iO iP boot_dict ?_);refine callWith_type1 ?_ he rfl;rw[he];refine Calls.spliced_cons ?_;refine wpAny_Call_Name_kw (DS I eF fu boot_zip ?_);refine callWith_type1 (thn (ha bf ae s U H _ I h) λus s1 ⟨vs,H1,I1,r1,q1⟩=>?_) (by rw[hs,bw]) (by rw[bw];rfl);obtain⟨b1,a1,b2,a2,ks,ys,e,hx,hy,nd,ln,q⟩:=q1;subst e;cases r1 with
 |cons r rr =>
  cases rr with
  |cons r' rr =>
   cases rr;cases r;cases r';obtain⟨cG,ml,c1,z1⟩:=I1.sqb hx;obtain⟨aI,mm,c2,z2⟩:=I1.sqb hy;have e1:=ml.length;have e2:=mm.length;rw[sH]at e1;refine Zp.MF (T1:=Zp.CK b1) (T2:=Zp.CK b2) (C1:=λh=>Zp.EA b1 h a1 cG.toArray) (C2:=λh=>Zp.EA b2 h a2 aI.toArray) (Zp.Mn b1 a1 cG.toArray) (Zp.Mn b2 a2 aI.toArray) (λh o c=>Zp.EA.at (b:=b2) c λo e=>sF _ e) c1 c2 ?_;obtain⟨z,TI,TO,i1,i2,ez,g0,g1,g2,g3,g4,D,hz,bt,bM,t1,t2,hk⟩:=Zp.made c1 c2;rw[<- ez];refine Calls.spliced_nil ?_;have mJ:Zp.EA b1 (Zp.z5 s1.heap (Zp.CK b1) (Zp.CK b2) a1 a2) a1 cG.toArray:=Zp.EA.at (b:=b1) c1 λo e=>hk _ o e
   have mK:Zp.EA b2 (Zp.z5 s1.heap (Zp.CK b1) (Zp.CK b2) a1 a2) a2 aI.toArray:=Zp.EA.at (b:=b2) c2 λo e=>hk _ o e
   have mM:∀{b:Bool}{h:Heap}{l:Addr}{xs:Array Value},Zp.EA b h l xs->l<h.objs.size:=λ{b h l xs} c=>by
    cases b
    .obtain⟨o,e,_⟩:=c;exact sO e
    .obtain⟨o,e,_⟩:=c;exact sO e
   refine Zp.Jj (s:={s1 with heap:=Zp.z5 s1.heap (Zp.CK b1) (Zp.CK b2) a1 a2}) (b1:=b1) (b2:=b2) (xs:=cG.toArray) (ys:=aI.toArray) (knd:=Bd X.prog X.w) (ks:=ks) (I.ok.hd hc) D hz bt ⟨_,_,bM⟩ t1 t2 mJ mK (λb hb=>?_) (λi x ex=>?_) (by simp only[sJ];omega) (by simp only[sJ];omega) λh' tk kp dd=>?_
   .simp only[sQ,tq,or_false]at hb;rcases hb with rfl|rfl|rfl|rfl|rfl|rfl|rfl
    .exact sO hz
    .exact sO bt
    .exact sO bM
    .obtain⟨o,e,_⟩:=t1.obj;exact sO e
    .obtain⟨o,e,_⟩:=t2.obj;exact sO e
    .exact mM mJ
    .exact mM mK
   .have k7:cG[i]?=some x:=by simpa using ex
    have li:=(sS.mp k7).1;obtain⟨u',hu,ru⟩:=ml.get (i:=i) (sL (by rw[sH];omega));rw[k7]at hu;cases hu;rw[List.getElem_map]at ru;exact⟨_,sL (by omega),Ls ru⟩
   .have gs:s1.heap.objs.size<=(Zp.z5 s1.heap (Zp.CK b1) (Zp.CK b2) a1 a2).objs.size:=tK g0 (uP (sO hz));have zk:((ks.zip aI).map (·.1))=ks:=by rw[List.map_fst_zip (by omega)]
    rw[merged_nil_of_nodup _ (by simp only[List.toList_toArray];rw[zk];exact nd)]at dd;have fr:=I1.zZ.fresh (a:=(Zp.z5 s1.heap (Zp.CK b1) (Zp.CK b2) a1 a2).objs.size) gs;refine⟨.ref (Zp.z5 s1.heap (Zp.CK b1) (Zp.CK b2) a1 a2).objs.size,upd H1 (Zp.z5 s1.heap (Zp.CK b1) (Zp.CK b2) a1 a2).objs.size (.l (ks.zip ys)),?_,rfl,q _ fr⟩;refine(I1.kept hk).VS (fp:=[z,TO,i1,i2]) kp (λb hb=>?_) (λb u e=>?_) λb u e=>?_
    .have jN:s1.heap.objs.size<=b:=by simp only[sQ,tq,or_false]at hb;rcases hb with rfl|rfl|rfl|rfl<;>assumption
     exact I1.Sn jN (I1.zZ.fresh jN)
    .rw[Ap (λz=>by rw[z,fr]at e;cases e)];exact e
    .by_cases hb:b=(Zp.z5 s1.heap (Zp.CK b1) (Zp.CK b2) a1 a2).objs.size
     .subst hb;rw[As]at e;cases e;refine .inr ⟨sV _,(show BJ X.prog X.w _ h' _ (.l (ks.zip ys))from⟨by rw[List.length_zip];omega,(beq_eq_false_iff_ne.mpr (Ne.symm (tD (sT I1.big gs)))),ks.zip aI,TX mm,dd⟩)⟩
     .rw[Ap hb]at e;exact .inl e
def mxF(b n:Int):Int:=if n>b then n else b
def mxD(d:Int):List Int->Int
 | []=>d
 |n::ns=>ns.foldl mxF n
variable{prog:Program}{w:World}{A:Around}{E:Value->Shared->Prop}{s:Shared}{R:Result->Shared->Prop}{I l S:Addr}{kw:List (Str×Value)}{ak:Array Value}
def W7(ak:Array Value)(ns:List Int):Prop:=∀(i:Nat)(v:Value),ak[i]?=some v->∃n t,ns[i]?=some n/\v=.int n t
theorem OP(hh:A.handled=none)(kx:l≠I)(fS:S≠I)(iJ:S≠l)(hn:W7 ak ns)(hz:ns.length=ak.size):
  ∀(r:List Int)(i:Nat)(s:Shared)(b:Int)(t:Tok)(c:Nat),ns.drop i=r->s.heap.IsListIter I l i->s.heap.IsList l ak ->
  s.heap.get? S=some {cls:=.type "list",dict:=none,data:=.seq #[.int b t,.int b t] c,slots:=#[]} ->
  (∀t' h' tk,(∀b o,b≠I->b≠S->s.heap.get? b=some o->h'.get? b=some o)->R (.ok (.ret (.int (r.foldl mxF b) t'))) {s with heap:=h',toks:=tk}) ->
  codeAny (model prog w) A (.builtin "max.loop" ⟨[.ref I,.none,.ref S],kw⟩) R s:=by
 have dH:(toString "max"++toString ".loop":String)="max.loop":=by decide
 intro r
 induction r with
 |nil =>
  intro i s b t c hr bc hl hS hR;refine codeAny_builtin F.entry_max_loop ?_;rw[Around.under_plainId F.plain_max_loop _];show wpAny _ A.in1 (seqItems? (.ref S) >>= _) _ _ s;refine sE (wpAny_seqItems hS rfl ?_);show wpAny _ A.in1 (tryCatch (pyNext (.ref I)) _ >>= _) _ _ s;have hi:ak[i]?=none:=by rw[uA];have:=List.drop_eq_nil_iff.mp hr;omega
  refine sE (wpAny_tryCatch (wpAny_pyNext_list_end hh bc hl hi λh' ik=>?_));have eA:=ik S _ fS hS;show wpAny _ A.in1 (updateSeq S (λ_=>#[]) >>= _) _ _ _;refine sE ?_;refine wpAny_updateSeq eA rfl (sE (wpAny_letGo (sM ?_)));exact hR t _ s.toks λb o iL ja e=>(tW _ _ (Ne.symm ja)).trans (ik b o iL e)
 |cons n r ih =>
  intro i s b t c hr bc hl hS hR;have hi:i<ak.size:=by
   have:i<ns.length:=by apply Decidable.byContradiction;intro h;rw[List.drop_eq_nil_iff.mpr (by omega)]at hr;cases hr
   omega
  obtain⟨n',u,en,ev⟩:=hn i _ (t9 hi);have e0:ns[i]?=some n:=by have:=congrArg (λl=>l[0]?) hr;simpa using this
  rw[e0]at en;cases en;have ng:ns.drop (i+1)=r:=by have:=congrArg List.tail hr;simpa using this
  refine codeAny_builtin F.entry_max_loop ?_;rw[Around.under_plainId F.plain_max_loop _];show wpAny _ A.in1 (seqItems? (.ref S) >>= _) _ _ s;refine sE (wpAny_seqItems hS rfl ?_);show wpAny _ A.in1 (tryCatch (pyNext (.ref I)) _ >>= _) _ _ s;refine sE (wpAny_tryCatch (wpAny_pyNext_list_item bc hl (x:=ak[i]) (by simp[hi]) λh' gT aZ=>?_));have eA:=aZ.extBut S _ fS hS;have jO:=hl.extBut aZ.extBut kx;rw[ev];show wpAny _ A.in1 (tryCatch (holding [Value.int n u,Value.int n u] (richCompare .Gt (.int n u) (.int b t) >>= _)) _ >>= _) _ _ _;refine sE (wpAny_tryCatch (wpAny_holding (sE (richCompare_gives (typeIs_int _ _ u) (typeIs_int _ _ t) F.slot_int_gt F.entry_int_gt (F.args_int_gt_2 _ _) (gives_int_gt _ _ u t) (λx=>nomatch x) ?_))));refine sE (wpAny_holding (wpAny_truthy_bool ?_));refine sE (wpAny_letGo (sM ?_));have ef:(n::r).foldl mxF b=r.foldl mxF (mxF b n):=rfl;rw[ef]at hR;cases hb:decide (n>b)with
  |true =>
   have gA:mxF b n=n:=if_pos (tJ hb);rw[gA]at hR;simp only[if_true];refine sE ?_;refine wpAny_updateSeq eA rfl (sE (wpAny_letGo ?_));rw[dH];have up:∀b o,b≠S->h'.get? b=some o->(h'.update S (Obj.mapSeq (λ_=>#[.int n u,.int n u]))).get? b=some o:=λb o hb e=>(tW _ _ (Ne.symm hb)).trans e
   refine sM ⟨plainId_quiet F.plain_max_loop _,ih (i+1) _ n u _ ng (gT.at λo e=>up _ o (Ne.symm fS) e) (jO.at λo e=>up _ o (Ne.symm iJ) e) (t6 _ eA rfl) λt' ju gp gd=>?_⟩;exact hR t' ju gp λb o iL ja e=>gd b o iL ja (up b o ja (aZ.extBut b o iL e))
  |false =>have gA:mxF b n=b:=if_neg (of_decide_eq_false hb);rw[gA]at hR;simp only[tY,if_false];refine sE (wpAny_letGo ?_);rw[dH];refine sM ⟨plainId_quiet F.plain_max_loop _,ih (i+1) _ b t c ng gT jO eA λt' ju gp gd=>?_⟩;exact hR t' ju gp λb o iL ja e=>gd b o iL ja (aZ.extBut b o iL e)
theorem Qm(a v:Value):argsOk "max" ⟨[a],[(Str.ofString "default",v)]⟩:=by unfold argsOk;kernel_rfl
theorem Qb(hh:A.handled=none)(hl:s.heap.IsList l ak)(hn:W7 ak ns)(hz:ns.length=ak.size)
  (hQ:∀t' h' tk,(∀b o,s.heap.get? b=some o->h'.get? b=some o)->Q (.int (mxD d ns) t') {s with heap:=h',toks:=tk}) :
  wpAny (model prog w) A (call (.builtin "max") [.ref l] [(Str.ofString "default",.int d td)]) Q E s:=by
 have dH:(toString "max"++toString ".loop":String)="max.loop":=by decide
 refine kmb_tree F.kind_max F.plain_max F.entry_max (Qm _ _) ?_;show wpAny _ A.in1 (Builtin.Builtins.bindParams "max" ["key","default"] 0 ⟨[],[(Str.ofString "default",.int d td)]⟩ >>= _) _ _ s;refine sE (wpAny_of_eq (show Builtin.Builtins.bindParams "max" ["key","default"] 0 ⟨[],[(Str.ofString "default",.int d td)]⟩=pure [none,some (.int d td)]from by rfl) ?_);refine sE (sM ?_);refine sE (wpAny_pyIter_list hl ?_);refine sE (wpAny_newObj_type ?_);rw[dH];have jR:l<s.heap.objs.size:=by obtain⟨o,e,_⟩:=hl;exact sO e
 have fS:¬ @Eq Nat (s.heap.objs.size+1) s.heap.objs.size:=by omega
 have ex:(s.heap.push {cls:=.type "list_iterator",data:=.fields #[.ref l,.int 0 0]}).objs.size=s.heap.objs.size+1:=ue ..;have iJ:(s.heap.push {cls:=.type "list_iterator",data:=.fields #[.ref l,.int 0 0]}).objs.size≠l:=λe=>by rw[ex]at e;have h2:@LT.lt Nat _ l s.heap.objs.size:=jR;omega
 have fS:(s.heap.push {cls:=.type "list_iterator",data:=.fields #[.ref l,.int 0 0]}).objs.size≠s.heap.objs.size:=λe=>by rw[ex]at e;exact fS e
 have kx:l≠s.heap.objs.size:=tD jR;have kp:∀b o,s.heap.get? b=some o->b≠s.heap.objs.size/\b≠(s.heap.push {cls:=.type "list_iterator",data:=.fields #[.ref l,.int 0 0]}).objs.size/\((s.heap.push {cls:=.type "list_iterator",data:=.fields #[.ref l,.int 0 0]}).push {cls:=.type "list",data:=.seq #[]}).get? b=some o:=λb o e=>by have h1:@LT.lt Nat _ b s.heap.objs.size:=sO e;refine⟨tD h1,λz=>?_,sF _ (sF _ e)⟩;rw[ex]at z;have e:@Eq Nat _ _:=z;omega
 generalize hS0:(s.heap.push {cls:=.type "list_iterator",data:=.fields #[.ref l,.int 0 0]}).objs.size=S at *;have hS:((s.heap.push {cls:=.type "list_iterator",data:=.fields #[.ref l,.int 0 0]}).push {cls:=.type "list",data:=.seq #[]}).get? S=some {cls:=.type "list",data:=.seq #[]}:=by rw[<- hS0];exact sP _ rfl
 have bc:((s.heap.push {cls:=.type "list_iterator",data:=.fields #[.ref l,.int 0 0]}).push {cls:=.type "list",data:=.seq #[]}).IsListIter s.heap.objs.size l 0:=⟨_,sF _ (sP _ rfl),rfl,rfl⟩
 have bU:((s.heap.push {cls:=.type "list_iterator",data:=.fields #[.ref l,.int 0 0]}).push {cls:=.type "list",data:=.seq #[]}).IsList l ak:=(hl.push _).push _;refine sM ⟨plainId_quiet F.plain_max_loop _,codeAny_builtin F.entry_max_loop ?_⟩;rw[Around.under_plainId F.plain_max_loop _];show wpAny _ A.in1 (seqItems? (.ref S) >>= _) _ _ _;refine sE (wpAny_seqItems hS rfl ?_);show wpAny _ A.in1 (tryCatch (pyNext (.ref s.heap.objs.size)) _ >>= _) _ _ _;cases ns with
 |nil =>
  have hi:ak[0]?=none:=by rw[uA];simp at hz;omega
  refine sE (wpAny_tryCatch (wpAny_pyNext_list_end hh bc bU hi λh' ik=>?_));refine sE (wpAny_rule (sM ?_));exact hQ td h' s.toks λb o e=>ik b o (kp b o e).1 (kp b o e).2.2
 |cons n r =>
  have hi:0<ak.size:=by simp at hz;omega
  obtain⟨n',u,en,ev⟩:=hn 0 _ (t9 hi);cases en;refine sE (wpAny_tryCatch (wpAny_pyNext_list_item bc bU (x:=ak[0]) (by simp[hi]) λh' gT aZ=>?_));have eA:=aZ.extBut S _ fS hS;rw[ev];show wpAny _ A.in1 (updateSeq S (λ_=>#[Value.int n u,Value.int n u]) >>= _) _ _ _;refine sE ?_;refine wpAny_updateSeq eA rfl ?_;rw[dH];have up:∀b o,b≠S->h'.get? b=some o->(h'.update S (Obj.mapSeq (λ_=>#[.int n u,.int n u]))).get? b=some o:=λb o hb e=>(tW _ _ (Ne.symm hb)).trans e
  refine sM ⟨plainId_quiet F.plain_max_loop _,OP hh kx fS iJ hn hz r 1 _ n u _ rfl (gT.at λo e=>up _ o (Ne.symm fS) e) ((bU.extBut aZ.extBut kx).at λo e=>up _ o (Ne.symm iJ) e) (t6 _ eA rfl) λt' ju gp gd=>?_⟩;exact hQ t' ju gp λb o e=>gd b o (kp b o e).1 (kp b o e).2.1 (up b o (kp b o e).2.1 (aZ.extBut b o (kp b o e).1 (kp b o e).2.2))
def JaG(K:Fg)(d:Int)(ta:TA):TE:=λU H Q=>ta U H λvs H1=>∃(l:Addr)(ns:List Int),vs=[.ref l]/\SqL K H1 l (ns.map V.int)/\Q (.int (mxD d ns)) H1
theorem RK(r:Vals (ns.map V.int) us):W7 us.toArray ns:=λi v e=>by
 have e':=by simpa using e
 have hl:=r.length;rw[sH]at hl;have hi:=(sS.mp e').1;obtain⟨u,hu,ru⟩:=r.get (i:=i) (sL (by rw[sH];omega));rw[e']at hu;cases hu;rw[List.getElem_map]at ru;obtain⟨t,rfl⟩:=ru;exact⟨_,t,sL (by omega),rfl⟩
theorem Va(hc:X.calm=true)(hm:X.mg "max"=none)(ha:PA X [a] ta)(hg:Gl X "max":=by rfl)
  (he:starEach [a] X.env=[(false,eval a X.env)]:=by rfl) :
  PE X (.Call (.Name "max" p) [a] [⟨some "default",.Constant (.int d) j cp,kp⟩] pos) (JaG X.K d ta):=by
 intro ae s U H Q I h;refine wpAny_Call_Name_kw (DS I hg hm boot_max ?_);refine callWith_kw ?_ (by rw[he];rfl) (by rw[he];rfl) rfl rfl;refine thn (ha pos ae s U H _ I h) λus s1 ⟨vs,H1,I1,r1,l,ns,e,hl,q⟩=>?_
 subst e;obtain⟨u,rfl,rx⟩:=vals1 r1;cases rx;refine thn (U5 (Ma) X7 pos ae s1 U H1 (λzs H2=>zs=[.int d]/\H2=H1) I1 ⟨rfl,rfl⟩) λws s2 ⟨zs,H2,I2,rz,ez,eH⟩=>?_
 subst ez eH;obtain⟨u2,rfl,t2,rfl⟩:=vals1 rz;obtain⟨ak,rv,pl,hz⟩:=I2.list hl;have ky:=rv.length;rw[sH]at ky;refine Qb (I.ok.hd hc) pl.isList (RK rv) (by rw[sJ];exact ky) λt' h' tk k=>⟨.int (mxD d ns),H2,I2.kept k,⟨t',rfl⟩,q⟩
theorem MR(l:Addr)(x:Value)(n:Nat)(u:Tok)(dd:Option Addr)(sl:Array (Option Value)):
  Meets (Builtin.«tuple.__mul__» ⟨[.ref l,.int 2 u],[]⟩) (λ_ R s=>s.heap.get? l=some {cls:=.type "tuple",dict:=dd,data:=.seq #[x] n,slots:=sl}/\R (.ok (.ret (Value.ref s.heap.objs.size))) {s with heap:=s.heap.push {cls:=Value.type "tuple",data:=Data.seq #[x,x]},toks:=s.toks}) :=
 .of_wp λprog w A R s h=>by obtain⟨hp,g,d,tk,os⟩:=s;obtain⟨hl,h⟩:=h;have f1:=AutoSeq1.idx_int;wp_walk using wpAny_loadPart' hl;exact⟨_,rfl,h⟩
theorem MS(l:Addr)(x:Value)(n:Nat)(u:Tok)(dd:Option Addr)(sl:Array (Option Value)):
  Meets (Builtin.«tuple.__mul__» ⟨[.ref l,.int 1 u],[]⟩) (λ_ R s=>s.heap.get? l=some {cls:=.type "tuple",dict:=dd,data:=.seq #[x] n,slots:=sl}/\R (.ok (.ret (Value.ref l))) s) :=
 .of_wp λprog w A R s h=>by obtain⟨hp,g,d,tk,os⟩:=s;obtain⟨hl,h⟩:=h;have f1:=AutoSeq1.idx_int;wp_walk using wpAny_loadPart' hl;exact⟨_,rfl,h⟩
theorem Ow:OpR X (binaryOp .Mult) (λx y H Q=>∃a v,x=.ref a/\SqT X.K H a [v]/\((y=.int 1/\Q (.ref a) H)\/(y=.int 2/\∀p,H p=none->Q (.ref p) (upd H p (.tup [v,v]))))):=by
 intro ae s U H x y v u Q I rx ry h;obtain⟨a,z,rfl,ha,q⟩:=h;cases rx;obtain⟨ak,r1,p1,_⟩:=I.tuple ha;obtain⟨w,rfl,nQ⟩:=vals1 r1;obtain⟨⟨cls,dd,data,sl⟩,ho,hc,n,hd⟩:=id p1;simp only at hc hd;subst hc hd;rcases q with⟨rfl,q⟩|⟨rfl,q⟩
 .obtain⟨t',rfl⟩:=ry;refine wpAny_binaryOp_repeat_ref (by decide) ⟨_,ho,rfl⟩ (λs'=>typeIs_int s' 1 t') DE PySem.F.fills_int_mul slot_int_rmul Fp PySem.F.slot_int_index.lookup
   (call_meets slot_int_rmul (typeIs_int s 1 t') PySem.F.entry_int_rmul (PySem.F.args_int_rmul_2 _ _) (Ej 1 t' a _ n dd sl)
    ⟨ho,rfl,⟨_,ho,rfl⟩,call_meets PySem.F.slot_tuple_mul ⟨_,ho,rfl⟩ PySem.F.entry_tuple_mul (PySem.F.args_tuple_mul_2 _ _) (MS a w n t' dd sl) ⟨ho,?_⟩⟩)
  exact⟨.ref a,H,I,rfl,q⟩
 .obtain⟨t',rfl⟩:=ry;refine wpAny_binaryOp_repeat_ref (by decide) ⟨_,ho,rfl⟩ (λs'=>typeIs_int s' 2 t') DE PySem.F.fills_int_mul slot_int_rmul Fp PySem.F.slot_int_index.lookup
   (call_meets slot_int_rmul (typeIs_int s 2 t') PySem.F.entry_int_rmul (PySem.F.args_int_rmul_2 _ _) (Ej 2 t' a _ n dd sl)
    ⟨ho,rfl,⟨_,ho,rfl⟩,call_meets PySem.F.slot_tuple_mul ⟨_,ho,rfl⟩ PySem.F.entry_tuple_mul (PySem.F.args_tuple_mul_2 _ _) (MR a w n t' dd sl) ⟨ho,?_⟩⟩)
  refine⟨.ref s.heap.objs.size,_,I.laid (λb ob q=>sF _ q) (sV _) ?_,rfl,q _ (I.zZ.fresh (sV _))⟩;exact⟨by rw[sizeLine_eq];show 2<=_;decide,[w,w],.cons nQ (.cons nQ .nil),IsTup.new _ _⟩
def Itw(K:Fg)(a:Addr)(n:Nat):It :=
 ⟨λi H=>i<n/\∃xs x,SqT K H a xs/\xs[n-1-i]?=some x,λi H x H'=>H'=H/\∀xs,SqT K H a xs->xs[n-1-i]?=some x,λi _=>n<=i⟩
theorem NS{K:Fg}(a it:Addr)(n:Nat)(bV:a≠it):Turn P w K tg (Itw K a n) [it] it (λi h=>i<=n/\Rv.Is h it a ((n:Int)-1-i)) where
 mem:=by simp
 obj:=λi h st b hb=>by
  have e:=by simpa using hb
  subst e;obtain⟨_,o,e,c,d⟩:=st;exact⟨o,e,λv z=>by rw[d]at z;cases z⟩
 keep:=λi h h' st k=>⟨st.1,st.2.at λo e=>k it (by simp) o e⟩
 item:=by
  intro X hP hw hK hc i ae s U H E I hf st hg;subst hP hw hK;obtain⟨hi,xs,x,hq,hx⟩:=hg;obtain⟨ak,rv,p,hz⟩:=I.tuple hq;obtain⟨u,hu,ru⟩:=rv.get hx;have ky:=rv.length;obtain⟨f0,f1,f2,f3,f4,f5⟩:=hf it (by simp);have e:(n:Int)-1-i=((n-1-i:Nat):Int):=by omega
  have i6:=st.2;rw[e]at i6;refine Rv.next_item i6 p (by rw[sJ];omega) (by simpa using hu) bV λh' tk su eQ sb=>?_
  obtain⟨o,e,c,d⟩:=id eQ;exact⟨u,rfl,R7 e c d (by decide) ⟨x,H,(I.turned (λb o hb e=>(sb.2 b hb).trans e) f0 f1 f3 f4 f5),ru,⟨rfl,λys hy=>by rw[I.Ge hy hq];exact hx⟩,⟨by omega,by
   have e2:(n:Int)-1-((i+1:Nat):Int)=((n-1-i:Nat):Int)-1:=by omega
   rw[e2];exact eQ⟩,λb hb=>(hf b hb).1⟩⟩
 done:=by
  intro X hP hw hK hc i ae s U H E I hf st hg;subst hP hw hK;have hg:n<=i:=hg;obtain⟨f0,f1,f2,f3,f4,f5⟩:=hf it (by simp);have e:(n:Int)-1-i=-1:=by have:=st.1;omega
  have i6:=st.2;rw[e]at i6;exact Rv.next_end (I.ok.hd hc) i6 λh' eb=>⟨rfl,I.turned (λb o hb e=>eb b o hb e) f0 f1 f3 f4 f5⟩
 self:=λ_ _ _ _ _ st h=>Rv.J7 st.2 h
def Jbc(K:Fg)(ta:TE):TI:=λU H R=>ta U H λx H1=>∃a xs,x=.ref a/\SqT K H1 a xs/\R (Itw K a xs.length) H1
theorem U6{ta:TE}(fu:X.mg "reversed"=none)(ha:PE X a ta)(eF:Gl X "reversed":=by rfl)(gR:starEach [a] X.env=[(false,eval a X.env)]:=by rfl):
  PI X tg (.Call (.Name "reversed" p2) [a] [] bf) (Jbc X.K ta):=by
 intro ae s U H R I h;refine wpAny_Call_Name_kw (DS I eF fu boot_reversed ?_);refine callWith_type1 ?_ gR rfl;rw[gR];refine Calls.spliced_cons (thn (ha ae s U H _ I h) λu s1 ⟨x,H1,I1,r1,l,ys,ex,hq,q⟩=>?_);subst ex;cases r1;obtain⟨ak,rv,pl,hz⟩:=I1.tuple hq;have hlen:=rv.length;refine Calls.spliced_nil (Rv.SW (by rw[sJ];omega) pl λtk=>?_);have bc:Rv.Is (s1.heap.push (Rv.obj l ((ak.toArray.size:Int)-1))) s1.heap.objs.size l ((ak.toArray.size:Int)-1):=⟨_,sP _ rfl,rfl,rfl⟩
 refine Rv.J7 bc ?_;refine⟨s1.heap.objs.size,[s1.heap.objs.size],_,_,H1,rfl,(I1.kept λb o e=>sF _ e),NS l _ ys.length (tD pl.lt),⟨uI _,?_⟩,λb hb=>?_,q⟩
 .have e:(ys.length:Int)-1-((0:Nat):Int)=(ak.toArray.size:Int)-1:=by rw[sJ,hlen];omega
  rw[e];exact bc
 .rw[show b=s1.heap.objs.size by simpa using hb];exact(I1.Sn (sV _) (I1.zZ.fresh (sV _)))
end L2
namespace FL
open PySem PySem.Spec L2
inductive T where
 |v|o (b:Bool)|int (i:Int)|str (x:Str)
 |tup (ts:List T)|lst (ts:List T)
 |zU (ts:List T)
 |l (ks:List Key) (ts:List T)|dT (ks:List (List Key)) (ts:List T)
 |ins (C:Addr) (fs:List Str) (ts:List T)
 |dF (ks:List Key) (ts:List T)
 |zT (c:Str)
inductive FO where
 |lst (ts:List T)|l (ks:List Key) (ts:List T)|dT (ks:List (List Key)) (ts:List T)
 |ins (C:Addr) (fs:List Str) (os:List FO)|val (t:T)
 |yW (os:List FO)|yU (os:List FO)
 |dO (ks:List Key) (os:List FO)|la (p:Addr) (ts:List T)
inductive Sl where
 |val (t:T)|own (o:FO)|bor (o:FO)
abbrev FS:=List (Option Sl)
inductive Rv where
 |t (t:T)|nw (o:FO)|n (i:Nat)
inductive Out(α:Type) where
 |ok (a:α) (fs:FS)|exc (c:Str) (fs:FS)|bad
inductive SO where
 |nx (fs:FS)|ret (r:Rv) (fs:FS)|brk (fs:FS)|cnt (fs:FS)|exc (c:Str) (fs:FS)|bad
structure Wd where
 f:Addr->Prop
 p:Addr->Prop
instance:CoeFun Wd λ_=>Addr->Prop:=⟨Wd.f⟩
structure Le(F:Wd)(H:Hp)(F':Wd)(H':Hp):Prop where
 f:∀a,F a->F' a/\H' a=H a
 p:∀a,F.p a->F'.p a/\H' a=H a
theorem Le.refl:Le F H F H:=⟨λ_ h=>⟨h,rfl⟩,λ_ h=>⟨h,rfl⟩⟩
theorem Le.trans(x:Le F H F1 H1)(y:Le F1 H1 F2 H2):Le F H F2 H2 :=
 ⟨λa h=>let⟨p,q⟩:=x.f a h;let⟨p2,q2⟩:=y.f a p;⟨p2,q2.trans q⟩,λa h=>let⟨p,q⟩:=x.p a h;let⟨p2,q2⟩:=y.p a p;⟨p2,q2.trans q⟩⟩
section
variable(K:Fg)
def KL(a:Addr)(vs:List V):Prop:=∃(o:Obj)(ak:Array Value)(n:Nat),K.lookup a=some o/\o.cls=.type "list"/\o.dict=none/\o.data=.seq ak n/\ak.size<=sizeLine/\Vals vs ak.toList
def StL(F:Wd)(H:Hp)(a:Addr)(vs:List V):Prop:=(F a/\Rd H a (.lst vs))\/KL K a vs
def StT(F:Wd)(H:Hp)(a:Addr)(vs:List V):Prop:=K=K/\F a/\H a=some (.tup vs)
end
variable{F':Wd}{H':Hp}{a:Addr}{vs:List V}
section
variable{K:Fg}{F:Wd}{H:Hp}
theorem StL.sq(h:StL K F H a vs):SqL K H a vs:=by
 rcases h with⟨_,h⟩|h
 .exact .inl h
 .exact .inr h
theorem StT.sq(h:StT K F H a vs):SqT K H a vs:=SqT.of h.2.2
theorem Rd.same(h:Rd H a u)(e:H' a=H a):Rd H' a u:=by unfold Rd at *;rw[e];exact h
theorem StL.le(h:StL K F H a vs)(l:Le F H F' H'):StL K F' H' a vs:=by
 rcases h with⟨f,h⟩|h
 .exact .inl ⟨(l.f a f).1,FL.Rd.same h (l.f a f).2⟩
 .exact .inr h
theorem StT.le(h:StT K F H a vs)(l:Le F H F' H'):StT K F' H' a vs:=⟨rfl,(l.f a h.2.1).1,(l.f a h.2.1).2.trans h.2.2⟩
end
def Dm(K:Fg)(c:Str):Option Addr:=match nsIn K mainGlobals c with|some (some (.ref C))=>some C|_=>none
section
variable(K:Fg)(F:Wd)(H:Hp)
mutual
def AE:T->V->Prop
 |.v,v=>v=.v
 |.o b,v=>v=.o b
 |.int i,v=>v=.int i
 |.str x,v=>v=.str x
 |.tup ts,v=>∃a vs,v=.ref a/\StT K F H a vs/\Ah ts vs
 |.lst ts,v=>∃a vs,v=.ref a/\F a/\H a=some (.lst vs)/\Ah ts vs
 |.zU ts,v=>∃a vs,v=.ref a/\StL K F H a vs/\Ah ts vs
 |.l ks ts,v=>∃a ah,v=.ref a/\F a/\Rd H a (.l ah)/\ah.map (·.1)=ks/\Ah ts (ah.map (·.2))
 |.dT ks ts,v=>∃a ah,v=.ref a/\F a/\H a=some (.dT ah)/\ah.map (·.1)=ks/\Ah ts (ah.map (·.2))
 |.ins C fs ts,v=>∃a dx ah,v=.ref a/\F a/\H a=some (.ins C dx ah)/\ah.map (·.1)=fs/\Ah ts (ah.map (·.2))
 |.dF ks ts,v=>∃a ah,v=.ref a/\F a/\(∃o,H a=some (.frz o (.l ah)))/\ah.map (·.1)=ks/\Ah ts (ah.map (·.2))
 |.zT c,v=>∃a C,v=.ref a/\F a/\H a=some (exO (.ref C) a)/\Dm K c=some C
def Ah:List T->List V->Prop
 | [],vs=>vs=[]
 |t::ts,vs=>∃v r,vs=v::r/\AE t v/\Ah ts r
end
mutual
def Ax:FO->V->List Addr->Prop
 |.val t,v,L=>L=[]/\AE K F H t v
 |.lst ts,v,L=>∃a vs,v=.ref a/\H a=some (.lst vs)/\Ah K F H ts vs/\L=[a]
 |.l ks ts,v,L=>∃a ah,v=.ref a/\H a=some (.l ah)/\ah.map (·.1)=ks/\Ah K F H ts (ah.map (·.2))/\L=[a]
 |.dT ks ts,v,L=>∃a ah,v=.ref a/\H a=some (.dT ah)/\ah.map (·.1)=ks/\Ah K F H ts (ah.map (·.2))/\L=[a]
 |.ins C fs os,v,L=>∃a dx ah L',v=.ref a/\H a=some (.ins C dx ah)/\ah.map (·.1)=fs/\Az os (ah.map (·.2)) L'/\L=a::L'
 |.yW os,v,L=>∃a vs L',v=.ref a/\H a=some (.lst vs)/\Az os vs L'/\L=a::L'
 |.yU os,v,L=>∃a vs L',v=.ref a/\H a=some (.tup vs)/\Az os vs L'/\L=a::L'
 |.dO ks os,v,L=>∃a ah L',v=.ref a/\H a=some (.l ah)/\ah.map (·.1)=ks/\Az os (ah.map (·.2)) L'/\L=a::L'
 |.la p ts,v,L=>∃vs,v=.ref p/\H p=some (.lst vs)/\Ah K F H ts vs/\L=[p]
def Az:List FO->List V->List Addr->Prop
 | [],vs,L=>vs=[]/\L=[]
 |o::os,vs,L=>∃v r L1 L2,vs=v::r/\Ax o v L1/\Az os r L2/\L=L1++L2
end
mutual
def toT:FO->T
 |.val t=>t
 |.lst ts=>.lst ts
 |.l ks ts=>.l ks ts
 |.dT ks ts=>.dT ks ts
 |.ins C fs os=>.ins C fs (LR os)
 |.yW os=>.lst (LR os)
 |.yU os=>.tup (LR os)
 |.dO ks os=>.l ks (LR os)
 |.la _ ts=>.lst ts
def LR:List FO->List T
 | []=>[]
 |o::os=>toT o::LR os
end
def Aw:FS->St->List Addr->Prop
 | [],U,L=>U=[]/\L=[]
 |none::r,U,L=>∃v ar,U=v::ar/\Aw r ar L
 |some (.val t)::r,U,L=>∃v ar,U=some v::ar/\AE K F H t v/\Aw r ar L
 |some (.own o)::r,U,L=>∃v ar L1 L2,U=some v::ar/\Ax K F H o v L1/\Aw r ar L2/\L=L1++L2
 |some (.bor o)::r,U,L=>∃v ar L1 L2,U=some v::ar/\Ax K F H o v L1/\Aw r ar L2/\L=L1++L2
end
variable{K:Fg}{F:Wd}{H:Hp}
mutual
theorem AE.le(l:Le F H F' H'):∀{t:T}{v:V},AE K F H t v->AE K F' H' t v
 |.v,_,h=>h
 |.o _,_,h=>h
 |.int _,_,h=>h
 |.str _,_,h=>h
 |.tup ts,_,h=>by simp only[AE]at h ⊢;obtain⟨a,vs,e,s,r⟩:=h;exact⟨a,vs,e,s.le l,Ah.le l r⟩
 |.lst ts,_,h=>by simp only[AE]at h ⊢;obtain⟨a,vs,e,f,s,r⟩:=h;exact⟨a,vs,e,(l.f a f).1,(l.f a f).2.trans s,Ah.le l r⟩
 |.zU ts,_,h=>by simp only[AE]at h ⊢;obtain⟨a,vs,e,s,r⟩:=h;exact⟨a,vs,e,s.le l,Ah.le l r⟩
 |.l ks ts,_,h=>by simp only[AE]at h ⊢;obtain⟨a,ah,e,f,s,k,r⟩:=h;exact⟨a,ah,e,(l.f a f).1,FL.Rd.same s (l.f a f).2,k,Ah.le l r⟩
 |.dT ks ts,_,h=>by simp only[AE]at h ⊢;obtain⟨a,ah,e,f,s,k,r⟩:=h;exact⟨a,ah,e,(l.f a f).1,(l.f a f).2.trans s,k,Ah.le l r⟩
 |.ins C fs ts,_,h=>by simp only[AE]at h ⊢;obtain⟨a,dx,ah,e,f,s,k,r⟩:=h;exact⟨a,dx,ah,e,(l.f a f).1,(l.f a f).2.trans s,k,Ah.le l r⟩
 |.dF ks ts,_,h=>by simp only[AE]at h ⊢;obtain⟨a,ah,e,f,⟨o,s⟩,k,r⟩:=h;exact⟨a,ah,e,(l.f a f).1,⟨o,(l.f a f).2.trans s⟩,k,Ah.le l r⟩
 |.zT c,_,h=>by simp only[AE]at h ⊢;obtain⟨a,C,e,f,s,k⟩:=h;exact⟨a,C,e,(l.f a f).1,(l.f a f).2.trans s,k⟩
theorem Ah.le(l:Le F H F' H'):∀{ts:List T}{vs:List V},Ah K F H ts vs->Ah K F' H' ts vs
 | [],_,h=>h
 |t::ts,_,h=>by simp only[Ah]at h ⊢;obtain⟨v,r,e,h1,h2⟩:=h;exact⟨v,r,e,AE.le l h1,Ah.le l h2⟩
end
theorem Ah.len:∀{ts:List T}{vs:List V},Ah K F H ts vs->vs.length=ts.length
 | [],_,h=>by simp only[Ah]at h;subst h;rfl
 |t::ts,_,h=>by simp only[Ah]at h;obtain⟨v,r,rfl,_,h2⟩:=h;simp[Ah.len h2]
theorem Ah.at:∀{ts:List T}{vs:List V}{i:Nat}{t:T},Ah K F H ts vs->ts[i]?=some t->∃v,vs[i]?=some v/\AE K F H t v
 | [],_,_,_,_,e=>by simp at e
 |t::ts,_,0,_,h,e=>by simp only[Ah]at h;obtain⟨v,r,rfl,h1,_⟩:=h;simp at e;subst e;exact⟨v,rfl,h1⟩
 |t::ts,_,i+1,_,h,e=>by simp only[Ah]at h;obtain⟨v,r,rfl,_,h2⟩:=h;obtain⟨u,e1,e2⟩:=Ah.at h2 (by simpa using e);exact⟨u,by simpa using e1,e2⟩
theorem Ah.app:∀{ts us:List T}{vs ws:List V},Ah K F H ts vs->Ah K F H us ws->Ah K F H (ts++us) (vs++ws)
 | [],_,_,_,h,h'=>by simp only[Ah]at h;subst h;exact h'
 |t::ts,us,_,ws,h,h'=>by simp only[Ah]at h;obtain⟨v,r,rfl,h1,h2⟩:=h;show Ah K F H (t::(ts++us)) (v::(r++ws));simp only[Ah];exact⟨v,r++ws,rfl,h1,Ah.app h2 h'⟩
theorem Ah.one(h:AE K F H t v):Ah K F H [t] [v]:=by simp only[Ah];exact⟨v,[],rfl,h,rfl⟩
theorem Ah.take:∀{ts:List T}{vs:List V}(n:Nat),Ah K F H ts vs->Ah K F H (ts.take n) (vs.take n)
 | [],_,n,h=>by simp only[Ah]at h;subst h;simp[Ah]
 |t::ts,_,0,h=>by simp[Ah]
 |t::ts,_,n+1,h=>by simp only[Ah]at h;obtain⟨v,r,rfl,h1,h2⟩:=h;simp only[List.take_succ_cons,Ah];exact⟨v,_,rfl,h1,Ah.take n h2⟩
theorem Ah.drop:∀{ts:List T}{vs:List V}(n:Nat),Ah K F H ts vs->Ah K F H (ts.drop n) (vs.drop n)
 | [],_,n,h=>by simp only[Ah]at h;subst h;simp[Ah]
 |t::ts,_,0,h=>by simpa using h
 |t::ts,_,n+1,h=>by simp only[Ah]at h;obtain⟨v,r,rfl,h1,h2⟩:=h;simp only[List.drop_succ_cons];exact Ah.drop n h2
theorem Ah.set(q:AE K F H t v):∀{ts:List T}{vs:List V}(n:Nat),Ah K F H ts vs->Ah K F H (ts.set n t) (vs.set n v)
 | [],_,n,h=>by simp only[Ah]at h;subst h;simp[Ah]
 |u::ts,_,0,h=>by simp only[Ah]at h;obtain⟨w,r,rfl,h1,h2⟩:=h;simp only[List.set_cons_zero,Ah];exact⟨v,r,rfl,q,h2⟩
 |u::ts,_,n+1,h=>by simp only[Ah]at h;obtain⟨w,r,rfl,h1,h2⟩:=h;simp only[List.set_cons_succ,Ah];exact⟨w,_,rfl,h1,Ah.set q n h2⟩
theorem Ah.rev:∀{ts:List T}{vs:List V},Ah K F H ts vs->Ah K F H ts.reverse vs.reverse
 | [],_,h=>by simp only[Ah]at h;subst h;simp[Ah]
 |t::ts,_,h=>by simp only[Ah]at h;obtain⟨v,r,rfl,h1,h2⟩:=h;rw[uJ,uJ];exact Ah.app (Ah.rev h2) (Ah.one h1)
mutual
theorem Ax.le(l:Le F H F' H'):∀{o:FO}{v:V}{L:List Addr},(∀a∈L,H' a=H a)->Ax K F H o v L->Ax K F' H' o v L
 |.val t,_,L,k,h=>by simp only[Ax]at h ⊢;exact⟨h.1,h.2.le l⟩
 |.lst ts,_,L,k,h=>by simp only[Ax]at h ⊢;obtain⟨a,vs,e,s,r,rfl⟩:=h;exact⟨a,vs,e,(k a (by simp)).trans s,r.le l,rfl⟩
 |.l ks ts,_,L,k,h=>by simp only[Ax]at h ⊢;obtain⟨a,vs,e,s,q,r,rfl⟩:=h;exact⟨a,vs,e,(k a (by simp)).trans s,q,r.le l,rfl⟩
 |.dT ks ts,_,L,k,h=>by simp only[Ax]at h ⊢;obtain⟨a,vs,e,s,q,r,rfl⟩:=h;exact⟨a,vs,e,(k a (by simp)).trans s,q,r.le l,rfl⟩
 |.ins C fs os,_,L,k,h=>by simp only[Ax]at h ⊢;obtain⟨a,dx,ah,L',e,s,q,r,rfl⟩:=h;exact⟨a,dx,ah,L',e,(k a (by simp)).trans s,q,Az.le l (λb hb=>k b (sN _ hb)) r,rfl⟩
 |.yW os,_,L,k,h=>by simp only[Ax]at h ⊢;obtain⟨a,vs,L',e,s,r,rfl⟩:=h;exact⟨a,vs,L',e,(k a (by simp)).trans s,Az.le l (λb hb=>k b (sN _ hb)) r,rfl⟩
 |.yU os,_,L,k,h=>by simp only[Ax]at h ⊢;obtain⟨a,vs,L',e,s,r,rfl⟩:=h;exact⟨a,vs,L',e,(k a (by simp)).trans s,Az.le l (λb hb=>k b (sN _ hb)) r,rfl⟩
 |.dO ks os,_,L,k,h=>by simp only[Ax]at h ⊢;obtain⟨a,ah,L',e,s,q,r,rfl⟩:=h;exact⟨a,ah,L',e,(k a (by simp)).trans s,q,Az.le l (λb hb=>k b (sN _ hb)) r,rfl⟩
 |.la p ts,_,L,k,h=>by simp only[Ax]at h ⊢;obtain⟨vs,e,s,r,rfl⟩:=h;exact⟨vs,e,(k p (by simp)).trans s,r.le l,rfl⟩
theorem Az.le(l:Le F H F' H'):∀{os:List FO}{vs:List V}{L:List Addr},(∀a∈L,H' a=H a)->Az K F H os vs L->Az K F' H' os vs L
 | [],_,L,k,h=>h
 |o::os,_,L,k,h=>by simp only[Az]at h ⊢;obtain⟨v,r,L1,L2,e,h1,h2,rfl⟩:=h;exact⟨v,r,L1,L2,e,Ax.le l (λa ha=>k a (sX _ ha)) h1,Az.le l (λa ha=>k a (sU _ ha)) h2,rfl⟩
end
mutual
theorem Ax.def:∀{o:FO}{v:V}{L:List Addr},Ax K F H o v L->∀a∈L,H a≠none
 |.val t,_,L,h,a,m=>by simp only[Ax]at h;rw[h.1]at m;cases m
 |.lst ts,_,L,h,a,m=>by simp only[Ax]at h;obtain⟨b,vs,e,s,r,rfl⟩:=h;rw[sZ.mp m,s];simp
 |.l ks ts,_,L,h,a,m=>by simp only[Ax]at h;obtain⟨b,vs,e,s,q,r,rfl⟩:=h;rw[sZ.mp m,s];simp
 |.dT ks ts,_,L,h,a,m=>by simp only[Ax]at h;obtain⟨b,vs,e,s,q,r,rfl⟩:=h;rw[sZ.mp m,s];simp
 |.ins C fs os,_,L,h,a,m=>by
  simp only[Ax]at h;obtain⟨b,dx,ah,L',e,s,q,r,rfl⟩:=h;rcases sQ.mp m with m|m
  .rw[m,s];simp
  .exact Az.def r a m
 |.yW os,_,L,h,a,m=>by
  simp only[Ax]at h;obtain⟨b,vs,L',e,s,r,rfl⟩:=h;rcases sQ.mp m with m|m
  .rw[m,s];simp
  .exact Az.def r a m
 |.yU os,_,L,h,a,m=>by
  simp only[Ax]at h;obtain⟨b,vs,L',e,s,r,rfl⟩:=h;rcases sQ.mp m with m|m
  .rw[m,s];simp
  .exact Az.def r a m
 |.dO ks os,_,L,h,a,m=>by
  simp only[Ax]at h;obtain⟨b,vs,L',e,s,q,r,rfl⟩:=h;rcases sQ.mp m with m|m
  .rw[m,s];simp
  .exact Az.def r a m
 |.la p ts,_,L,h,a,m=>by simp only[Ax]at h;obtain⟨vs,e,s,r,rfl⟩:=h;rw[sZ.mp m,s];simp
theorem Az.def:∀{os:List FO}{vs:List V}{L:List Addr},Az K F H os vs L->∀a∈L,H a≠none
 | [],_,L,h,a,m=>by simp only[Az]at h;rw[h.2]at m;cases m
 |o::os,_,L,h,a,m=>by
  simp only[Az]at h;obtain⟨v,r,L1,L2,e,h1,h2,rfl⟩:=h;rcases sW.mp m with m|m
  .exact Ax.def h1 a m
  .exact Az.def h2 a m
end
mutual
theorem Ax.frz(l:Le F H F' H):∀{o:FO}{v:V}{L:List Addr},(∀a∈L,F' a)->Ax K F H o v L->AE K F' H (toT o) v
 |.val t,_,L,k,h=>by simp only[Ax]at h;exact AE.le l h.2
 |.lst ts,_,L,k,h=>by simp only[Ax]at h;obtain⟨a,vs,e,s,r,rfl⟩:=h;simp only[toT,AE];exact⟨a,vs,e,k a (by simp),s,Ah.le l r⟩
 |.l ks ts,_,L,k,h=>by simp only[Ax]at h;obtain⟨a,vs,e,s,q,r,rfl⟩:=h;simp only[toT,AE];exact⟨a,vs,e,k a (by simp),.inl s,q,Ah.le l r⟩
 |.dT ks ts,_,L,k,h=>by simp only[Ax]at h;obtain⟨a,vs,e,s,q,r,rfl⟩:=h;simp only[toT,AE];exact⟨a,vs,e,k a (by simp),s,q,Ah.le l r⟩
 |.ins C fs os,_,L,k,h=>by simp only[Ax]at h;obtain⟨a,dx,ah,L',e,s,q,r,rfl⟩:=h;simp only[toT,AE];exact⟨a,dx,ah,e,k a (by simp),s,q,Az.frz l (λb hb=>k b (sN _ hb)) r⟩
 |.yW os,_,L,k,h=>by simp only[Ax]at h;obtain⟨a,vs,L',e,s,r,rfl⟩:=h;simp only[toT,AE];exact⟨a,vs,e,k a (by simp),s,Az.frz l (λb hb=>k b (sN _ hb)) r⟩
 |.yU os,_,L,k,h=>by simp only[Ax]at h;obtain⟨a,vs,L',e,s,r,rfl⟩:=h;simp only[toT,AE];exact⟨a,vs,e,⟨rfl,k a (by simp),s⟩,Az.frz l (λb hb=>k b (sN _ hb)) r⟩
 |.dO ks os,_,L,k,h=>by simp only[Ax]at h;obtain⟨a,ah,L',e,s,q,r,rfl⟩:=h;simp only[toT,AE];exact⟨a,ah,e,k a (by simp),.inl s,q,Az.frz l (λb hb=>k b (sN _ hb)) r⟩
 |.la p ts,_,L,k,h=>by simp only[Ax]at h;obtain⟨vs,e,s,r,rfl⟩:=h;simp only[toT,AE];exact⟨p,vs,e,k p (by simp),s,Ah.le l r⟩
theorem Az.frz(l:Le F H F' H):∀{os:List FO}{vs:List V}{L:List Addr},(∀a∈L,F' a)->Az K F H os vs L->Ah K F' H (LR os) vs
 | [],_,L,k,h=>by simp only[Az]at h;simp only[LR,Ah];exact h.1
 |o::os,_,L,k,h=>by simp only[Az]at h;obtain⟨v,r,L1,L2,e,h1,h2,rfl⟩:=h;simp only[LR,Ah];exact⟨v,r,e,Ax.frz l (λa ha=>k a (sX _ ha)) h1,Az.frz l (λa ha=>k a (sU _ ha)) h2⟩
end
theorem Aw.len:∀{fs:FS}{U:St}{L:List Addr},Aw K F H fs U L->U.length=fs.length
 | [],_,_,h=>by simp only[Aw]at h;rw[h.1];rfl
 |none::r,_,_,h=>by simp only[Aw]at h;obtain⟨v,ar,rfl,h⟩:=h;simp[Aw.len h]
 |some (.val t)::r,_,_,h=>by simp only[Aw]at h;obtain⟨v,ar,rfl,_,h⟩:=h;simp[Aw.len h]
 |some (.own t)::r,_,_,h=>by simp only[Aw]at h;obtain⟨v,ar,L1,L2,rfl,_,h,_⟩:=h;simp[Aw.len h]
 |some (.bor t)::r,_,_,h=>by simp only[Aw]at h;obtain⟨v,ar,L1,L2,rfl,_,h,_⟩:=h;simp[Aw.len h]
theorem Aw.le(l:Le F H F' H'):∀{fs:FS}{U:St}{L:List Addr},(∀a∈L,H' a=H a)->Aw K F H fs U L->Aw K F' H' fs U L
 | [],_,_,k,h=>h
 |none::r,_,_,k,h=>by simp only[Aw]at h ⊢;obtain⟨v,ar,e,h⟩:=h;exact⟨v,ar,e,Aw.le l k h⟩
 |some (.val t)::r,_,_,k,h=>by simp only[Aw]at h ⊢;obtain⟨v,ar,e,q,h⟩:=h;exact⟨v,ar,e,q.le l,Aw.le l k h⟩
 |some (.own t)::r,_,_,k,h=>by simp only[Aw]at h ⊢;obtain⟨v,ar,L1,L2,e,q,h,rfl⟩:=h;exact⟨v,ar,L1,L2,e,q.le l λa ha=>k a (sX _ ha),Aw.le l (λa ha=>k a (sU _ ha)) h,rfl⟩
 |some (.bor t)::r,_,_,k,h=>by simp only[Aw]at h ⊢;obtain⟨v,ar,L1,L2,e,q,h,rfl⟩:=h;exact⟨v,ar,L1,L2,e,q.le l λa ha=>k a (sX _ ha),Aw.le l (λa ha=>k a (sU _ ha)) h,rfl⟩
theorem Aw.def:∀{fs:FS}{U:St}{L:List Addr},Aw K F H fs U L->∀a∈L,H a≠none
 | [],_,_,h,a,m=>by simp only[Aw]at h;rw[h.2]at m;cases m
 |none::r,_,_,h,a,m=>by simp only[Aw]at h;obtain⟨v,ar,e,h⟩:=h;exact Aw.def h a m
 |some (.val t)::r,_,_,h,a,m=>by simp only[Aw]at h;obtain⟨v,ar,e,q,h⟩:=h;exact Aw.def h a m
 |some (.own t)::r,_,_,h,a,m=>by
  simp only[Aw]at h;obtain⟨v,ar,L1,L2,e,q,h,rfl⟩:=h;rcases sW.mp m with m|m
  .exact q.def a m
  .exact Aw.def h a m
 |some (.bor t)::r,_,_,h,a,m=>by
  simp only[Aw]at h;obtain⟨v,ar,L1,L2,e,q,h,rfl⟩:=h;rcases sW.mp m with m|m
  .exact q.def a m
  .exact Aw.def h a m
def LK(K:Fg)(F:Wd)(H:Hp):Option Sl->Option V->List Addr->Prop
 |none,_,L=>L=[]
 |some (.val t),v,L=>∃u,v=some u/\AE K F H t u/\L=[]
 |some (.own o),v,L=>∃u,v=some u/\Ax K F H o u L
 |some (.bor o),v,L=>∃u,v=some u/\Ax K F H o u L
theorem Aw.cons(h1:LK K F H s v L1)(h2:Aw K F H r U L2):Aw K F H (s::r) (v::U) (L1++L2):=by cases s with|none =>simp only[LK]at h1;subst h1;simp only[Aw];exact⟨v,U,rfl,h2⟩|some s =>cases s with|val t =>simp only[LK]at h1;obtain⟨u,rfl,q,rfl⟩:=h1;simp only[Aw];exact⟨u,U,rfl,q,h2⟩|own o =>simp only[LK]at h1;obtain⟨u,rfl,q⟩:=h1;simp only[Aw];exact⟨u,U,L1,L2,rfl,q,h2,rfl⟩|bor o =>simp only[LK]at h1;obtain⟨u,rfl,q⟩:=h1;simp only[Aw];exact⟨u,U,L1,L2,rfl,q,h2,rfl⟩
theorem Aw.HE(h:Aw K F H (s::r) U L):∃v ar L1 L2,U=v::ar/\LK K F H s v L1/\Aw K F H r ar L2/\L=L1++L2:=by cases s with|none =>simp only[Aw]at h;obtain⟨v,ar,rfl,h⟩:=h;exact⟨v,ar,[],L,rfl,rfl,h,rfl⟩|some s =>cases s with|val t =>simp only[Aw]at h;obtain⟨v,ar,rfl,q,h⟩:=h;exact⟨some v,ar,[],L,rfl,⟨v,rfl,q,rfl⟩,h,rfl⟩|own o =>simp only[Aw]at h;obtain⟨v,ar,L1,L2,rfl,q,h,rfl⟩:=h;exact⟨some v,ar,L1,L2,rfl,⟨v,rfl,q⟩,h,rfl⟩|bor o =>simp only[Aw]at h;obtain⟨v,ar,L1,L2,rfl,q,h,rfl⟩:=h;exact⟨some v,ar,L1,L2,rfl,⟨v,rfl,q⟩,h,rfl⟩
theorem Aw.pick:∀{fs:FS}{U:St}{L:List Addr}{i:Nat}{s:Option Sl},Aw K F H fs U L->fs[i]?=some s->∃v L1 L2 L3,U[i]?=some v/\L=L1++(L2++L3)/\LK K F H s v L2 /\
  ∀(F':Wd)(H':Hp)(s':Option Sl)(v':Option V)(ji:List Addr),Le F H F' H'->(∀a∈L1++L3,H' a=H a)->LK K F' H' s' v' ji->Aw K F' H' (fs.set i s') (U.set i v') (L1++(ji++L3))
 | [],_,_,_,_,_,e=>by simp at e
 |s::r,_,_,0,_,h,e=>by obtain⟨v,ar,L1,L2,rfl,h1,h2,rfl⟩:=h.HE;simp at e;subst e;refine⟨v,[],L1,L2,rfl,rfl,h1,λF' H' s' v' ji l k q=>?_⟩;have h3:=Aw.cons q (h2.le l λa ha=>k a (by simpa using ha));exact h3
 |s::r,_,_,i+1,_,h,e=>by
  obtain⟨v,ar,L1,L2,rfl,h1,h2,rfl⟩:=h.HE;obtain⟨w,M1,M2,M3,e1,rfl,h3,h4⟩:=Aw.pick h2 (by simpa using e);refine⟨w,L1++M1,M2,M3,by simpa using e1,by simp,h3,λF' H' s' v' ji l k q=>?_⟩;have h6:LK K F' H' s v L1:=by cases s with|none=>exact h1|some s =>cases s with|val t =>obtain⟨u,e,q,z⟩:=h1;exact⟨u,e,q.le l,z⟩|own o =>obtain⟨u,e,q⟩:=h1;exact⟨u,e,q.le l λa ha=>k a (by simp[ha])⟩|bor o =>obtain⟨u,e,q⟩:=h1;exact⟨u,e,q.le l λa ha=>k a (by simp[ha])⟩
  have h7:=Aw.cons h6 (h4 F' H' s' v' ji l (λa ha=>k a (by simp at ha ⊢;rcases ha with ha|ha;exact .inr (.inl ha);exact .inr (.inr ha))) q);simpa using h7
mutual
theorem AE.wp:∀{t:T}{v:V},AE K F H t v->AE K ⟨F.f,p⟩ H t v
 |.v,_,h=>h
 |.o _,_,h=>h
 |.int _,_,h=>h
 |.str _,_,h=>h
 |.tup ts,_,h=>by simp only[AE]at h ⊢;obtain⟨a,vs,e,s,r⟩:=h;exact⟨a,vs,e,s,Ah.wp r⟩
 |.lst ts,_,h=>by simp only[AE]at h ⊢;obtain⟨a,vs,e,f,s,r⟩:=h;exact⟨a,vs,e,f,s,Ah.wp r⟩
 |.zU ts,_,h=>by simp only[AE]at h ⊢;obtain⟨a,vs,e,s,r⟩:=h;exact⟨a,vs,e,s,Ah.wp r⟩
 |.l ks ts,_,h=>by simp only[AE]at h ⊢;obtain⟨a,ah,e,f,s,k,r⟩:=h;exact⟨a,ah,e,f,s,k,Ah.wp r⟩
 |.dT ks ts,_,h=>by simp only[AE]at h ⊢;obtain⟨a,ah,e,f,s,k,r⟩:=h;exact⟨a,ah,e,f,s,k,Ah.wp r⟩
 |.ins C fs ts,_,h=>by simp only[AE]at h ⊢;obtain⟨a,dx,ah,e,f,s,k,r⟩:=h;exact⟨a,dx,ah,e,f,s,k,Ah.wp r⟩
 |.dF ks ts,_,h=>by simp only[AE]at h ⊢;obtain⟨a,ah,e,f,s,k,r⟩:=h;exact⟨a,ah,e,f,s,k,Ah.wp r⟩
 |.zT c,_,h=>by simp only[AE]at h ⊢;obtain⟨a,C,e,f,s,k⟩:=h;exact⟨a,C,e,f,s,k⟩
theorem Ah.wp:∀{ts:List T}{vs:List V},Ah K F H ts vs->Ah K ⟨F.f,p⟩ H ts vs
 | [],_,h=>h
 |t::ts,_,h=>by simp only[Ah]at h ⊢;obtain⟨v,r,e,h1,h2⟩:=h;exact⟨v,r,e,AE.wp h1,Ah.wp h2⟩
end
mutual
theorem Ax.wp:∀{o:FO}{v:V}{L:List Addr},Ax K F H o v L->Ax K ⟨F.f,p⟩ H o v L
 |.val t,_,L,h=>by simp only[Ax]at h ⊢;exact⟨h.1,h.2.wp⟩
 |.lst ts,_,L,h=>by simp only[Ax]at h ⊢;obtain⟨a,vs,e,s,r,q⟩:=h;exact⟨a,vs,e,s,r.wp,q⟩
 |.l ks ts,_,L,h=>by simp only[Ax]at h ⊢;obtain⟨a,vs,e,s,q,r,z⟩:=h;exact⟨a,vs,e,s,q,r.wp,z⟩
 |.dT ks ts,_,L,h=>by simp only[Ax]at h ⊢;obtain⟨a,vs,e,s,q,r,z⟩:=h;exact⟨a,vs,e,s,q,r.wp,z⟩
 |.ins C fs os,_,L,h=>by simp only[Ax]at h ⊢;obtain⟨a,dx,ah,L',e,s,q,r,z⟩:=h;exact⟨a,dx,ah,L',e,s,q,Az.wp r,z⟩
 |.yW os,_,L,h=>by simp only[Ax]at h ⊢;obtain⟨a,vs,L',e,s,r,z⟩:=h;exact⟨a,vs,L',e,s,Az.wp r,z⟩
 |.yU os,_,L,h=>by simp only[Ax]at h ⊢;obtain⟨a,vs,L',e,s,r,z⟩:=h;exact⟨a,vs,L',e,s,Az.wp r,z⟩
 |.dO ks os,_,L,h=>by simp only[Ax]at h ⊢;obtain⟨a,vs,L',e,s,q,r,z⟩:=h;exact⟨a,vs,L',e,s,q,Az.wp r,z⟩
 |.la p ts,_,L,h=>by simp only[Ax]at h ⊢;obtain⟨vs,e,s,r,z⟩:=h;exact⟨vs,e,s,r.wp,z⟩
theorem Az.wp:∀{os:List FO}{vs:List V}{L:List Addr},Az K F H os vs L->Az K ⟨F.f,p⟩ H os vs L
 | [],_,L,h=>h
 |o::os,_,L,h=>by simp only[Az]at h ⊢;obtain⟨v,r,L1,L2,e,h1,h2,z⟩:=h;exact⟨v,r,L1,L2,e,Ax.wp h1,Az.wp h2,z⟩
end
theorem Aw.wp:∀{fs:FS}{U:St}{L:List Addr},Aw K F H fs U L->Aw K ⟨F.f,p⟩ H fs U L
 | [],_,_,h=>h
 |none::r,_,_,h=>by simp only[Aw]at h ⊢;obtain⟨v,ar,e,h⟩:=h;exact⟨v,ar,e,Aw.wp h⟩
 |some (.val t)::r,_,_,h=>by simp only[Aw]at h ⊢;obtain⟨v,ar,e,q,h⟩:=h;exact⟨v,ar,e,q.wp,Aw.wp h⟩
 |some (.own t)::r,_,_,h=>by simp only[Aw]at h ⊢;obtain⟨v,ar,L1,L2,e,q,h,z⟩:=h;exact⟨v,ar,L1,L2,e,q.wp,Aw.wp h,z⟩
 |some (.bor t)::r,_,_,h=>by simp only[Aw]at h ⊢;obtain⟨v,ar,L1,L2,e,q,h,z⟩:=h;exact⟨v,ar,L1,L2,e,q.wp,Aw.wp h,z⟩
theorem LK.le(l:Le F H F' H')(k:∀a∈L,H' a=H a)(h:LK K F H s v L):LK K F' H' s v L:=by cases s with|none=>exact h|some s =>cases s with|val t =>obtain⟨u,e,q,z⟩:=h;exact⟨u,e,q.le l,z⟩|own o =>obtain⟨u,e,q⟩:=h;exact⟨u,e,q.le l k⟩|bor o =>obtain⟨u,e,q⟩:=h;exact⟨u,e,q.le l k⟩
def FG(B:Nat->Option V)(fs:FS)(U:St):Prop:=∀(i:Nat)(o:FO),fs[i]?=some (some (.bor o))->∃v,U[i]?=some (some v)/\B i=some v
structure Ok(K:Fg)(F:Wd)(B:Nat->Option V)(H:Hp)(fs:FS)(U:St)(L:List Addr):Prop where
 sl:Aw K F H fs U L
 nd:L.Nodup
 nf:∀a∈L,¬F a
 fd:∀a,F a->H a≠none
 bo:FG B fs U
 pd:∀a,F.p a->H a≠none
 pf:∀a,F a->¬F.p a
 pl:∀a∈L,¬F.p a
def Okk(K:Fg)(F:Wd)(B:Nat->Option V)(H:Hp)(fs:FS)(U:St):Prop:=∃L,Ok K F B H fs U L
structure Xp where
 p:Wd->(Nat->Option V)->Hp->Str->FS->Prop
 mono:∀{F:Wd}{B:Nat->Option V}{H:Hp}{c:Str}{fs:FS}{F':Wd}{H':Hp},p F B H c fs->Le F H F' H'->p F' B H' c fs
def Xp.no:Xp:=⟨λ_ _ _ _ _=>False,λh _=>h⟩
def sat(Z:Xp)(B:Nat->Option V){α β:Type}(R:Wd->Hp->FS->α->β->Prop)(F:Wd)(H:Hp)(o:Out α)(Q:β->Hp->Prop):Prop :=
 match o with|.ok a fs=>∀F' H' b,Le F H F' H'->R F' H' fs a b->Q b H'|.exc c fs=>Z.p F B H c fs|.bad=>False
theorem sat.le(h:sat Z B R F H o Q)(l:Le F H F' H'):sat Z B R F' H' o Q:=by
 cases o with
 |ok a fs=>exact λF2 H2 b l2 r=>h F2 H2 b (l.trans l2) r
 |exc c fs=>exact Z.mono h l
 |bad=>exact h
def Out.bind{α β:Type}(o:Out α)(k:α->FS->Out β):Out β:=match o with|.ok a fs=>k a fs|.exc c fs=>.exc c fs|.bad=>.bad
theorem AJ{R2:Wd->Hp->FS->γ->δ->Prop}
  (h:sat Z B R2 F H (o.bind k) Q) (hk:∀a fs F' H' b,Le F H F' H'->R1 F' H' fs a b->sat Z B R2 F' H' (k a fs) Q->Q' b H'):sat Z B R1 F H o Q':=by
 cases o with
 |ok a fs=>exact λF2 H2 b l r=>hk a fs F2 H2 b l r (sat.le h l)
 |exc c fs=>exact h
 |bad=>exact h
def NL(K:Fg)(F:Wd)(H:Hp)(U:St):Rv->V->List Addr->Prop
 |.t t,v,L=>L=[]/\AE K F H t v
 |.nw o,v,L=>Ax K F H o v L
 |.n i,v,L=>L=[]/\U[i]?=some (some v)
def RR(K:Fg)(B:Nat->Option V)(U:St):Wd->Hp->FS->Rv->V->Prop:=λF H fs r u=>∃L L',Ok K F B H fs U L/\NL K F H U r u L'/\(L++L').Nodup/\∀a∈L',¬F a/\¬F.p a
def BL(K:Fg)(F:Wd)(H:Hp)(U:St):Rv->V->Prop
 |.t t,v=>AE K F H t v
 |.nw _,_=>False
 |.n i,v=>U[i]?=some (some v)
def Out.bnd{α:Type}(o:Out Rv)(k:Rv->FS->Out α):Out α:=o.bind λr fs=>match r with|.nw _=>.bad|.t t=>k (.t t) fs|.n i=>k (.n i) fs
variable{Z:Xp}{B:Nat->Option V}{U:St}{fs:FS}{r:Rv}{u:V}
theorem BL.le(h:BL K F H U r u)(l:Le F H F' H'):BL K F' H' U r u:=by cases r with|t t=>exact AE.le l h|nw o=>exact h|n i=>exact h
theorem RR.of(h:Okk K F B H fs U)(q:BL K F H U r u):RR K B U F H fs r u:=by obtain⟨L,h⟩:=h;refine⟨L,[],h,?_,by simpa using h.nd,(λ_ m=>nomatch m)⟩;cases r with|t t=>exact⟨rfl,q⟩|nw o=>exact q.elim|n i=>exact⟨rfl,q⟩
theorem RR.ok(h:RR K B U F H fs r u):Okk K F B H fs U:=let⟨L,_,h,_⟩:=h;⟨L,h⟩
theorem AM{R2:Wd->Hp->FS->γ->δ->Prop}{o:Out Rv}
  (h:sat Z B R2 F H (o.bnd k) Q) (hk:∀r fs F' H' u,Le F H F' H'->Okk K F' B H' fs U->BL K F' H' U r u->sat Z B R2 F' H' (k r fs) Q->Q' u H'):sat Z B (RR K B U) F H o Q':=by
 refine AJ h λr fs F' H' u l q s=>?_
 cases r with|t t =>obtain⟨L,L',q1,q2,_⟩:=q;exact hk (.t t) fs F' H' u l ⟨L,q1⟩ q2.2 s|nw o=>exact s.elim|n i =>obtain⟨L,L',q1,q2,_⟩:=q;exact hk (.n i) fs F' H' u l ⟨L,q1⟩ q2.2 s
def tF(K:Fg)(Z:Xp)(f:FS->Out Rv):TE:=λU H Q=>∃F B fs,Okk K F B H fs U/\sat Z B (RR K B U) F H (f fs) Q
def RB(K:Fg)(B:Nat->Option V)(U:St):Wd->Hp->FS->Bool->Bool->Prop:=λF H fs b b'=>Okk K F B H fs U/\b'=b
def tT(K:Fg)(Z:Xp)(f:FS->Out Bool):TT:=λU H Q=>∃F B fs,Okk K F B H fs U/\sat Z B (RB K B U) F H (f fs) Q
def Jn(K:Fg)(F:Wd)(H:Hp)(U:St):List Rv->List V->Prop
 | [],vs=>vs=[]
 |r::rs,vs=>∃v w,vs=v::w/\BL K F H U r v/\Jn K F H U rs w
def RA(K:Fg)(B:Nat->Option V)(U:St):Wd->Hp->FS->List Rv->List V->Prop:=λF H fs rs vs=>Okk K F B H fs U/\Jn K F H U rs vs
def tA(K:Fg)(Z:Xp)(f:FS->Out (List Rv)):TA:=λU H Q=>∃F B fs,Okk K F B H fs U/\sat Z B (RA K B U) F H (f fs) Q
def FE(X:Cx)(Z:Xp)(e:Expr)(f:FS->Out Rv):Prop:=PE X e (tF X.K Z f)
def FT(X:Cx)(Z:Xp)(e:Expr)(f:FS->Out Bool):Prop:=PT X e (tT X.K Z f)
def FA(X:Cx)(Z:Xp)(es:List Expr)(f:FS->Out (List Rv)):Prop:=PA X es (tA X.K Z f)
theorem A0(h:PE X e t)(i:∀U H Q,t' U H Q->t U H Q):PE X e t':=λae s U H Q I q=>h ae s U H Q I (i _ _ _ q)
theorem JK(h:PT X e t)(i:∀U H Q,t' U H Q->t U H Q):PT X e t':=λae s U H Q I q=>h ae s U H Q I (i _ _ _ q)
theorem Mc(h:PA X e t)(i:∀U H Q,t' U H Q->t U H Q):PA X e t':=λpos ae s U H Q I q=>h pos ae s U H Q I (i _ _ _ q)
theorem Cv(h:PS X e t)(i:∀D U H,t' D U H->t D U H):PS X e t':=λae s U H D I q=>h ae s U H D I (i _ _ _ q)
theorem Og(h:PSs X e t)(i:∀D U H,t' D U H->t D U H):PSs X e t':=λae s U H D I q=>h ae s U H D I (i _ _ _ q)
variable{p:Addr}{o:HO}
def Qq(F:Wd)(p:Addr):Wd:=⟨λa=>F a\/a=p,F.p⟩
theorem A5(h:Okk K F B H fs U)(hp:H p=none):Le F H (Qq F p) (upd H p o) :=
 let⟨_,h⟩:=h
 ⟨λa f=>⟨.inl f,Ap λe=>h.fd a f (e▸hp)⟩,λa f=>⟨f,Ap λe=>h.pd a f (e▸hp)⟩⟩
theorem A1(h:Okk K F B H fs U)(hp:H p=none):Le F H F (upd H p o) :=
 let⟨_,h⟩:=h
 ⟨λa f=>⟨f,Ap λe=>h.fd a f (e▸hp)⟩,λa f=>⟨f,Ap λe=>h.pd a f (e▸hp)⟩⟩
theorem DO(h:H a≠none):upd H p o a≠none:=by
 by_cases e:a=p
 .subst e;rw[As];simp
 .rw[Ap e];exact h
theorem Ok.VU(h:Ok K F B H fs U L)(hp:H p=none):∀a∈L,(upd H p o) a=H a:=λa m=>Ap λe=>h.sl.def a m (e▸hp)
theorem Okk.fd(h:Okk K F B H fs U):∀a,F a->H a≠none:=let⟨_,h⟩:=h;h.fd
theorem Okk.alloc(h:Okk K F B H fs U)(hp:H p=none):Okk K (Qq F p) B (upd H p o) fs U:=by
 obtain⟨L,h⟩:=h;refine⟨L,h.sl.le (A5 ⟨L,h⟩ hp) (h.VU hp),h.nd,λa m q=>?_,λa q=>?_,h.bo,λa q=>DO (h.pd a q),λa q z=>?_,h.pl⟩
 rotate_left 2
 .rcases q with q|q
  .exact h.pf a q z
  .exact h.pd a z (q▸hp)
 .rcases q with q|q
  .exact h.nf a m q
  .exact h.sl.def a m (q▸hp)
 .rcases q with q|q
  .exact DO (h.fd a q)
  .rw[q,As];simp
theorem RR.alloc(h:Okk K F B H fs U)(hp:H p=none)(q:Ax K F (upd H p o) ob (.ref p) [p]):RR K B U F (upd H p o) fs (.nw ob) (.ref p):=by
 obtain⟨L,h⟩:=h;refine⟨L,[p],⟨h.sl.le (A1 ⟨L,h⟩ hp) (h.VU hp),h.nd,h.nf,λa q=>DO (h.fd a q),h.bo,λa q=>DO (h.pd a q),h.pf,h.pl⟩,q,?_,λa m=>?_⟩
 .rw[sI];exact⟨h.nd,by simp,λa ma b mb e=>h.sl.def a ma (by rw[e,sZ.mp mb];exact hp)⟩
 .rw[sZ.mp m];exact⟨λf=>h.fd p f hp,λf=>h.pd p f hp⟩
def Sl.put:Sl->FO->Sl
 |.own _,o=>.own o
 |.bor _,o=>.bor o
 |.val t,_=>.val t
def AK(fs:FS)(i:Nat):Option FO:=match fs[i]? with|some (some (.own o))=>some o|some (some (.bor o))=>some o|_=>none
def putAt(fs:FS)(i:Nat)(o:FO):FS:=match fs[i]? with|some (some s)=>fs.set i (some (s.put o))|_=>fs
variable{i:Nat}{ob:FO}
theorem FG.put(h:FG B fs U)(hs:∀o,s=some (.bor o)->∃u,v=some u/\B i=some u)(hl:U.length=fs.length):FG B (fs.set i s) (U.set i v):=by
 intro j o e;by_cases hj:i=j
 .subst hj;have hi:=by have:=(sS.mp e).1;simpa using this
  rw[t7 hi]at e;obtain⟨u,e1,e2⟩:=hs o (by simpa using e);exact⟨u,by rw[t7 (by omega),e1],e2⟩
 .rw[t8 hj]at e;obtain⟨v,e1,e2⟩:=h j o e;exact⟨v,by rw[t8 hj];exact e1,e2⟩
theorem BM{l:List α}(h:l[i]?=some x):l.set i x=l:=by
 apply List.ext_getElem?;intro j;by_cases hj:i=j
 .subst hj;rw[t7 (sS.mp h).1,h]
 .rw[t8 hj]
theorem CJ{L1 L2 L3 M:List Addr}(h:(L1++(L2++L3)).Nodup)(hm:M.Nodup)(d:∀a∈M,a∉L1++L3):(L1++(M++L3)).Nodup:=by
 rw[sI]at h ⊢;obtain⟨h1,h2,h3⟩:=h;rw[sI]at h2;obtain⟨h4,h5,h6⟩:=h2;refine⟨h1,?_,λa ha b hb e=>?_⟩
 .rw[sI];exact⟨hm,h5,λa ha b hb e=>d a ha (by rw[e];exact sU _ hb)⟩
 .rcases sW.mp hb with hb|hb
  .exact d b hb (by rw[<- e];exact sX _ ha)
  .exact h3 a ha b (sU _ hb) e
theorem Okk.own(h:Okk K F B H fs U)(e:AK fs i=some ob):∃v L2,U[i]?=some (some v)/\Ax K F H ob v L2/\(∀a∈L2,¬F a/\¬F.p a)/\L2.Nodup /\
  ∀bQ H',(∀a,a∉L2->H a≠none->H' a=H a)->Ax K F H' bQ v L2->Okk K F B H' (putAt fs i bQ) U/\Le F H F H':=by
 obtain⟨L,h⟩:=h;have key:∀s:Sl,fs[i]?=some (some s)->(s=.own ob\/s=.bor ob)->∃v L2,U[i]?=some (some v)/\Ax K F H ob v L2/\(∀a∈L2,¬F a/\¬F.p a)/\L2.Nodup /\
  ∀bQ H',(∀a,a∉L2->H a≠none->H' a=H a)->Ax K F H' bQ v L2->Okk K F B H' (fs.set i (some (s.put bQ))) U/\Le F H F H':=by
  intro s es ho;obtain⟨v,L1,L2,L3,e1,rfl,h1,h2⟩:=h.sl.pick es;obtain⟨u,rfl,q⟩:∃u,v=some u/\Ax K F H ob u L2:=by
   rcases ho with rfl|rfl
   .exact h1
   .exact h1
  have nd:=h.nd;have i8:∀a∈L1++L3,a∉L2:=λa ha hb=>by
   rw[sI]at nd;rcases sW.mp ha with ha|ha
   .exact nd.2.2 a ha a (sX _ hb) rfl
   .have:=(sI.mp nd.2.1).2.2;exact this a hb a ha rfl
  refine⟨u,L2,e1,q,λa m=>⟨h.nf a (by simp[m]),h.pl a (by simp[m])⟩,?_,λbQ H' k q'=>?_⟩
  .rw[sI]at nd;exact(sI.mp nd.2.1).1
  .have l:Le F H F H':=⟨λa f=>⟨f,k a (λm=>h.nf a (by simp[m]) f) (h.fd a f)⟩,λa f=>⟨f,k a (λm=>h.pl a (by simp[m]) f) (h.pd a f)⟩⟩
   refine⟨⟨L1++(L2++L3),?_,nd,h.nf,λa f=>by rw[(l.f a f).2];exact h.fd a f,?_,λa f=>by rw[(l.p a f).2];exact h.pd a f,h.pf,h.pl⟩,l⟩
   .have hL:∀a∈L1++L3,H' a=H a:=λa m=>k a (i8 a m) (h.sl.def a (by
      rcases sW.mp m with m|m
      .simp[m]
      .simp[m]))
    have h3:=h2 F H' (some (s.put bQ)) (some u) L2 l hL (by
     rcases ho with rfl|rfl
     .exact⟨u,rfl,q'⟩
     .exact⟨u,rfl,q'⟩)
    rwa[BM e1]at h3
   .have:=FG.put (s:=some (s.put bQ)) h.bo (λo eo=>by
     rcases ho with rfl|rfl
     .cases eo
     .obtain⟨w,e3,e4⟩:=h.bo i ob es;rw[e1]at e3;have e5:u=w:=by simpa using e3
      exact⟨u,rfl,by rw[e5];exact e4⟩) h.sl.len
    rwa[BM e1]at this
 unfold AK at e;split at e
 next o es=>cases e;obtain⟨v,L2,a1,a2,a3,a4,a5⟩:=key _ es (.inl rfl);refine⟨v,L2,a1,a2,a3,a4,λbQ H' k q=>?_⟩;have:=a5 bQ H' k q;unfold putAt;rw[es];exact this
 next o es=>cases e;obtain⟨v,L2,a1,a2,a3,a4,a5⟩:=key _ es (.inr rfl);refine⟨v,L2,a1,a2,a3,a4,λbQ H' k q=>?_⟩;have:=a5 bQ H' k q;unfold putAt;rw[es];exact this
 .cases e
def Ab(i:Nat):FS->Out Rv:=λfs=>match fs[i]? with|some (some (.val t))=>.ok (.t t) fs|some (some (.own _))=>.ok (.n i) fs|some (some (.bor _))=>.ok (.n i) fs|_=>.bad
def gc(t:T):FS->Out Rv:=λfs=>.ok (.t t) fs
variable{X:Cx}{e:Expr}
theorem Pz(i:Nat)(hN:X.N[i]?=some x:=by rfl)(hv:Vis X.env.scope x:=by first|exact Or.inl rfl|exact Or.inr (Or.inl rfl)|exact Or.inr (Or.inr rfl))(hd:(x==("__debug__":Str))=false:=by decide)
  (fq:(x==("__classdict__":Str))=false:=by decide):FE X Z (.Name x pos) (Ab i):=by
 refine A0 (pv i hN hv hd fq) λU H Q h=>?_
 obtain⟨F,B,fs,ok,s⟩:=h;obtain⟨L,o⟩:=id ok;unfold Ab at s;split at s
 next t es=>obtain⟨v,L1,L2,L3,e1,_,h1,_⟩:=o.sl.pick es;obtain⟨u,rfl,q,_⟩:=h1;exact⟨u,e1,s F H u Le.refl (RR.of ok q)⟩
 next t es=>obtain⟨v,L1,L2,L3,e1,_,h1,_⟩:=o.sl.pick es;obtain⟨u,rfl,q⟩:=h1;exact⟨u,e1,s F H u Le.refl (RR.of ok e1)⟩
 next t es=>obtain⟨v,L1,L2,L3,e1,_,h1,_⟩:=o.sl.pick es;obtain⟨u,rfl,q⟩:=h1;exact⟨u,e1,s F H u Le.refl (RR.of ok e1)⟩
 .exact s.elim
theorem Xg(t:T)(h:PE X e (tC v))(r:∀K F H,AE K F H t v):FE X Z e (gc t) :=
 A0 h λU H Q ⟨F,B,fs,ok,s⟩=>s F H v Le.refl (RR.of ok (r _ _ _))
theorem Uc:FE X Z (.Constant (.int i) j pos) (gc (.int i)):=Xg _ Ma λ_ _ _=>rfl
theorem Jbw:FE X Z (.Constant (.bool b) j pos) (gc (.o b)):=Xg _ JaY λ_ _ _=>rfl
theorem Kj:FE X Z (.Constant .none j pos) (gc .v):=Xg _ Yf λ_ _ _=>rfl
theorem Zt:FE X Z (.Constant (.str x) j pos) (gc (.str x)):=Xg _ Ot λ_ _ _=>rfl
theorem Jbv(h:∃t,X.mg x=some (.int i t))(hg:Gl X x:=by rfl)(hd:(x==("__debug__":Str))=false:=by decide):FE X Z (.Name x pos) (gc (.int i)):=Xg _ (JaX h hg hd) λ_ _ _=>rfl
theorem Jbu(h:∃t,X.mg x=some (.str z t))(hg:Gl X x:=by rfl)(hd:(x==("__debug__":Str))=false:=by decide):FE X Z (.Name x pos) (gc (.str z)):=Xg _ (JaW h hg hd) λ_ _ _=>rfl
def fz(f:FS->Out Rv):FS->Out Rv:=λfs=>(f fs).bind λr fs=>match r with|.t t=>.ok (.t t) fs|.nw o=>.ok (.t (toT o)) fs|.n i=>match fs[i]? with|some (some (.own o))=>.ok (.t (toT o)) (fs.set i (some (.val (toT o))))|_=>.bad
variable{f:FS->Out Rv}
def ML(F:Wd)(L:List Addr):Wd:=⟨λa=>F a\/a∈L,F.p⟩
theorem orF:Le F H (ML F L) H:=⟨λ_ f=>⟨.inl f,rfl⟩,λ_ f=>⟨f,rfl⟩⟩
theorem Ja(h:FE X Z e f):FE X Z e (fz f):=by
 refine A0 h λU H Q ⟨F,B,fs,ok,s⟩=>⟨F,B,fs,ok,?_⟩
 refine AJ s λr fs F' H' u l q s=>?_
 cases r with
 |t t=>exact s F' H' u Le.refl q
 |nw o =>
  obtain⟨L,L',o1,q,nd,nf⟩:=q;refine s (ML F' L') H' u orF (RR.of ⟨L,?_⟩ (Ax.frz orF (λa m=>.inr m) q));refine⟨o1.sl.le orF λ_ _=>rfl,o1.nd,λa m z=>?_,λa z=>?_,o1.bo,o1.pd,λa z=>?_,o1.pl⟩
  .rcases z with z|z
   .exact o1.nf a m z
   .exact(sI.mp nd).2.2 a m a z rfl
  .rcases z with z|z
   .exact o1.fd a z
   .exact Ax.def q a z
  .rcases z with z|z
   .exact o1.pf a z
   .exact(nf a z).2
 |n i =>
  dsimp only at s;split at s
  .rename_i o es;obtain⟨L,L',o1,⟨_,q⟩,nd,nf⟩:=q;obtain⟨v,L1,L2,L3,e1,rfl,h1,h2⟩:=o1.sl.pick es;obtain⟨w,rfl,q2⟩:=h1;rw[e1]at q;have eu:w=u:=by simpa using q
   subst eu;have l2:Le F' H' (ML F' L2) H':=orF;have r2:=Ax.frz orF (λa m=>.inr m) q2;refine s (ML F' L2) H' w l2 (RR.of ⟨L1++([]++L3),?_⟩ r2);have h3:=h2 (ML F' L2) H' (some (.val (toT o))) (some w) [] l2 (λ_ _=>rfl) ⟨w,rfl,r2,rfl⟩;rw[BM e1]at h3;have dg:=o1.nd;refine⟨h3,CJ dg sY (λ_ m=>nomatch m),λa m z=>?_,λa z=>?_,?_,o1.pd,λa z=>?_,λa m=>o1.pl a ?_⟩
   .have m':=by simpa using m
    rcases z with z|z
    .exact o1.nf a (by rcases m' with m|m<;>simp[m]) z
    .rw[sI]at dg;rcases m' with m|m
     .exact dg.2.2 a m a (sX _ z) rfl
     .exact(sI.mp dg.2.1).2.2 a z a m rfl
   .rcases z with z|z
    .exact o1.fd a z
    .exact Ax.def q2 a z
   .have:=FG.put (i:=i) (s:=some (.val (toT o))) (v:=some w) o1.bo (λo eo=>by cases eo) o1.sl.len;rwa[BM e1]at this
   .rcases z with z|z
    .exact o1.pf a z
    .exact o1.pl a (by simp[z])
   .have m':=by simpa using m
    rcases m' with m|m<;>simp[m]
  .exact s.elim
def big:Nat:=1000000
theorem D2:big<=sizeLine:=by rw[sizeLine_eq];decide
theorem Fx:big<sizeLine:=by rw[sizeLine_eq];decide
def Cu(fs:FS):Rv->Option (List T)
 |.t (.lst ts)=>some ts
 |.t (.zU ts)=>some ts
 |.n i=>match AK fs i with|some (.lst ts)=>some ts|_=>none
 |_=>none
def K3:Rv->Option (List T)
 |.t (.tup ts)=>some ts
 |_=>none
variable{x:Rv}{ts:List T}
theorem Bg(h:Okk K F B H fs U)(r:BL K F H U x u)(e:Cu fs x=some ts):∃a vs,u=.ref a/\SqL K H a vs/\Ah K F H ts vs:=by
 unfold Cu at e;split at e
 .cases e;simp only[BL,AE]at r;obtain⟨a,vs,e,f,s,q⟩:=r;exact⟨a,vs,e,SqL.of s,q⟩
 .cases e;simp only[BL,AE]at r;obtain⟨a,vs,e,s,q⟩:=r;exact⟨a,vs,e,s.sq,q⟩
 .rename_i i;split at e
  .rename_i km eo;cases e;obtain⟨v,L2,e1,q,_⟩:=h.own eo;have e2:U[i]?=some (some u):=r;rw[e1]at e2;have e3:v=u:=by simpa using e2
   subst e3;simp only[Ax]at q;obtain⟨a,vs,e,s,q,_⟩:=q;exact⟨a,vs,e,SqL.of s,q⟩
  .cases e
 .cases e
theorem BG(r:BL K F H U x u)(e:K3 x=some ts):∃a vs,u=.ref a/\SqT K H a vs/\Ah K F H ts vs:=by
 unfold K3 at e;split at e
 .cases e;simp only[BL,AE]at r;obtain⟨a,vs,e,s,q⟩:=r;exact⟨a,vs,e,s.sq,q⟩
 .cases e
theorem Ql{i}(r:Ah K F H ts vs)(e:atI ts i=some t):∃v,atI vs i=some v/\AE K F H t v:=by unfold atI at e ⊢;rw[r.len];cases q:ixN ts.length i with|none=>rw[q]at e;cases e|some j =>rw[q]at e;exact r.at e
theorem Ah.ints:∀{ns:List Int}{vs:List V},Ah K F H (ns.map T.int) vs->vs=ns.map V.int
 | [],_,h=>by simpa[Ah]using h
 |n::ns,_,h=>by simp only[sG,Ah,AE]at h;obtain⟨v,r,rfl,rfl,h⟩:=h;rw[sG,Ah.ints h]
theorem Ah.bls:∀{ns:List Bool}{vs:List V},Ah K F H (ns.map T.o) vs->vs=ns.map V.o
 | [],_,h=>by simpa[Ah]using h
 |n::ns,_,h=>by simp only[sG,Ah,AE]at h;obtain⟨v,r,rfl,rfl,h⟩:=h;rw[sG,Ah.bls h]
theorem Ah.strs:∀{ns:List Str}{vs:List V},Ah K F H (ns.map T.str) vs->vs=ns.map V.str
 | [],_,h=>by simpa[Ah]using h
 |n::ns,_,h=>by simp only[sG,Ah,AE]at h;obtain⟨v,r,rfl,rfl,h⟩:=h;rw[sG,Ah.strs h]
def BX:List T->Option (List Int)
 | []=>some []
 |.int i::r=>(BX r).map (i::·)
 |_=>none
def Dp:List T->Option (List Bool)
 | []=>some []
 |.o i::r=>(Dp r).map (i::·)
 |_=>none
def Cy:List T->Option (List Str)
 | []=>some []
 |.str i::r=>(Cy r).map (i::·)
 |_=>none
theorem Hg:∀{ts:List T}{ns:List Int},BX ts=some ns->ts=ns.map T.int
 | [],_,e=>by cases e;rfl
 |.int i::r,_,e=>by simp only[BX,sR]at e;obtain⟨ns,e,rfl⟩:=e;rw[sG,<- Hg e]
 |.v::r,_,e=>by simp[BX]at e
 |.o _::r,_,e=>by simp[BX]at e
 |.str _::r,_,e=>by simp[BX]at e
 |.tup _::r,_,e=>by simp[BX]at e
 |.lst _::r,_,e=>by simp[BX]at e
 |.zU _::r,_,e=>by simp[BX]at e
 |.l _ _::r,_,e=>by simp[BX]at e
 |.dT _ _::r,_,e=>by simp[BX]at e
 |.ins _ _ _::r,_,e=>by simp[BX]at e
 |.dF _ _::r,_,e=>by simp[BX]at e
theorem EV:∀{ts:List T}{ns:List Bool},Dp ts=some ns->ts=ns.map T.o
 | [],_,e=>by cases e;rfl
 |.o i::r,_,e=>by simp only[Dp,sR]at e;obtain⟨ns,e,rfl⟩:=e;rw[sG,<- EV e]
 |.v::r,_,e=>by simp[Dp]at e
 |.int _::r,_,e=>by simp[Dp]at e
 |.str _::r,_,e=>by simp[Dp]at e
 |.tup _::r,_,e=>by simp[Dp]at e
 |.lst _::r,_,e=>by simp[Dp]at e
 |.zU _::r,_,e=>by simp[Dp]at e
 |.l _ _::r,_,e=>by simp[Dp]at e
 |.dT _ _::r,_,e=>by simp[Dp]at e
 |.ins _ _ _::r,_,e=>by simp[Dp]at e
 |.dF _ _::r,_,e=>by simp[Dp]at e
theorem KP:∀{ts:List T}{ns:List Str},Cy ts=some ns->ts=ns.map T.str
 | [],_,e=>by cases e;rfl
 |.str i::r,_,e=>by simp only[Cy,sR]at e;obtain⟨ns,e,rfl⟩:=e;rw[sG,<- KP e]
 |.v::r,_,e=>by simp[Cy]at e
 |.int _::r,_,e=>by simp[Cy]at e
 |.o _::r,_,e=>by simp[Cy]at e
 |.tup _::r,_,e=>by simp[Cy]at e
 |.lst _::r,_,e=>by simp[Cy]at e
 |.zU _::r,_,e=>by simp[Cy]at e
 |.l _ _::r,_,e=>by simp[Cy]at e
 |.dT _ _::r,_,e=>by simp[Cy]at e
 |.ins _ _ _::r,_,e=>by simp[Cy]at e
 |.dF _ _::r,_,e=>by simp[Cy]at e
def Ag(g:Rv->Rv->FS->Out Rv)(fa fb:FS->Out Rv):FS->Out Rv:=λfs=>(fa fs).bnd λx fs=>(fb fs).bnd λy fs=>g x y fs
def OpF(K:Fg)(Z:Xp)(r:R2)(g:Rv->Rv->FS->Out Rv):Prop:=∀(F:Wd)(B:Nat->Option V)(H:Hp)(U:St)(fs:FS)(x y:Rv)(u w:V)(Q:VK),Okk K F B H fs U->BL K F H U x u->BL K F H U y w ->
 sat Z B (RR K B U) F H (g x y fs) Q->r u w H Q
def asB(f:FS->Out Rv):FS->Out Bool:=λfs=>(f fs).bind λr fs=>match r with|.t (.o b)=>.ok b fs|_=>.bad
variable{a b c:Expr}{fa fb fc:FS->Out Rv}{r r':R2}{g g':Rv->Rv->FS->Out Rv}{pos:Pos}
theorem F9(hg:OpF K Z r g)(h:tF K Z (Ag g fa fb) U H Q):tOp r (tF K Z fa) (tF K Z fb) U H Q:=by obtain⟨F,B,fs,ok,s⟩:=h;exact⟨F,B,fs,ok,AM s λx aj F1 H1 u l au rx s1=>⟨F1,B,aj,au,AM s1 λy aA F2 H2 w l2 aQ ry s2=>hg F2 B H2 U aA x y u w Q aQ (rx.le l2) ry s2⟩⟩
theorem Ur(h:tT K Z (asB f) U H Q):tF K Z f U H λx H'=>∃k,x=.o k/\Q k H':=by
 obtain⟨F,B,fs,ok,s⟩:=h;refine⟨F,B,fs,ok,AJ s λr aj F1 H1 u l q s1=>?_⟩;split at s1
 next b=>obtain⟨L,L',o1,⟨_,q⟩,_⟩:=q;exact⟨b,q,s1 F1 H1 b Le.refl ⟨⟨L,o1⟩,rfl⟩⟩
 .exact s1.elim
theorem Ly(hg:OpF X.K Z r g)(ho:OpR X (binaryOp op) r)(ha:FE X Z a fa)(hb:FE X Z b fb):FE X Z (.BinOp a op b pos) (Ag g fa fb) :=
 A0 (JaU ho ha hb) λ_ _ _ h=>F9 hg h
theorem Kk(hg:OpF X.K Z r g)(ho:OpR X (compareOp op) r)(ha:FE X Z a fa)(hb:FE X Z b fb)(hm:behindInMarks op b=false):FE X Z (.Compare a [op] [b] pos) (Ag g fa fb) :=
 A0 (Vg ho ha hb hm) λ_ _ _ h=>F9 hg h
theorem Ek(hg:OpF X.K Z r g)(ho:OpR X (compareOp op) r)(ha:FE X Z a fa)(hb:FE X Z b fb)(hm:behindInMarks op b=false):FT X Z (.Compare a [op] [b] pos) (asB (Ag g fa fb)) :=
 JK (UU ho ha hb hm) λ_ _ _ h=>F9 hg (Ur h)
theorem Jbs(hg:OpF X.K Z r g)(hr:IxR X r)(ha:FE X Z a fa)(hb:FE X Z b fb)(hs:Jo b):FE X Z (.Subscript a b pos) (Ag g fa fb) :=
 A0 (Yh hr ha hb hs) λ_ _ _ h=>F9 hg h
def chain(g g':Rv->Rv->FS->Out Rv)(fa fb fc:FS->Out Rv):FS->Out Rv:=λfs=>(fa fs).bnd λx fs=>(fb fs).bnd λy fs=>(g x y fs).bnd λz fs=>match z with
 |.t (.o true)=>(fc fs).bnd λw fs=>g' y w fs
 |.t (.o false)=>.ok (.t (.o false)) fs
 |_=>.bad
theorem WM(hg:OpF K Z r g)(iN:OpF K Z r' g')(h:tF K Z (chain g g' fa fb fc) U H Q):NZ r r' (tF K Z fa) (tF K Z fb) (tF K Z fc) U H Q:=by
 obtain⟨F,B,fs,ok,s⟩:=h;refine⟨F,B,fs,ok,AM s λx aj F1 H1 u l au rx s1=>⟨F1,B,aj,au,AM s1 λy aA F2 H2 w l2 aQ ry s2=>hg F2 B H2 U aA x y u w _ aQ (rx.le l2) ry ?_⟩⟩;refine AM s2 λz dZ F3 H3 v l3 fE rz s3=>?_
 split at s3
 .refine⟨true,rz,?_⟩;rw[if_pos rfl];exact⟨F3,B,dZ,fE,AM s3 λw' dG F4 H4 v' l4 gn dM s4=>iN F4 B H4 U dG y w' w v' Q gn ((ry.le l3).le l4) dM s4⟩
 .refine⟨false,rz,?_⟩;rw[if_neg (by decide)];exact s3 F3 H3 (.o false) Le.refl (RR.of fE rfl)
 .exact s3.elim
theorem Ro{a}{b}(ha:Builtin.Int.intBits a<=2^26)(hb:Builtin.Int.intBits b<=2^26):IntMulOk a b:=by intro h;rw[tH]at h;have h2:=tJ (show decide _=true from h.2);have e:bitsLine=134217728:=rfl;rw[e]at h2;omega
def gI(g:Int->Int->FS->Out Rv):Rv->Rv->FS->Out Rv
 |.t (.int i),.t (.int j),fs=>g i j fs
 |_,_,_=>.bad
def okT(t:T)(fs:FS):Out Rv:=.ok (.t t) fs
def Jbf:=gI λi j=>okT (.int (i+j))
def Dj:=gI λi j=>okT (.int (i-j))
def Xf:=gI λi j fs=>if(decide (-(2^64)<i/\i<2^64)||decide (-(2^64)<j/\j<2^64)||(decide (Builtin.Int.intBits i<=2^26)&&decide (Builtin.Int.intBits j<=2^26)))=true then okT (.int (i*j)) fs else .bad
def DG:=gI λi j fs=>if 0<j then okT (.int (i%j)) fs else .bad
def GJ:=gI λi j fs=>if 0<j/\j<1073741824 then okT (.int (i/j)) fs else .bad
def gLt:=gI λi j=>okT (.o (decide (i<j)))
def gLe:=gI λi j=>okT (.o (decide (i<=j)))
def gGt:=gI λi j=>okT (.o (decide (j<i)))
theorem Vk{g}{t:Int->Int->T}(hv:∀K F H i j,AE K F H (t i j) (v i j))(hg:∀i j fs,g i j fs=.bad\/(C i j/\g i j fs=okT (t i j) fs)):OpF K Z (rI C v) (gI g):=by
 intro F B H U fs x y u w Q ok rx ry s;unfold gI at s;split at s
 .rename_i i j;simp only[BL,AE]at rx ry;rcases hg i j fs with e|⟨c,e⟩
  .rw[e]at s;exact s.elim
  .rw[e]at s;exact⟨i,j,rx,ry,c,s F H _ Le.refl (RR.of ok (hv _ _ _ _ _))⟩
 .exact s.elim
theorem JS{t:Int->Int->T}(hv:∀K F H i j,AE K F H (t i j) (v i j)):OpF K Z (rI0 v) (gI λi j=>okT (t i j)):=by
 intro F B H U fs x y u w Q ok rx ry s;unfold gI at s;split at s
 next i j=>simp only[BL,AE]at rx ry;exact⟨i,j,rx,ry,s F H _ Le.refl (RR.of ok (hv _ _ _ _ _))⟩
 .exact s.elim
theorem YG:OpF K Z (rI0 λi j=>.int (i+j)) Jbf:=JS λ_ _ _ _ _=>rfl
theorem YA:OpF K Z (rI0 λi j=>.int (i-j)) Dj:=JS λ_ _ _ _ _=>rfl
theorem of_lt:OpF K Z (rI0 λi j=>.o (decide (i<j))) gLt:=JS λ_ _ _ _ _=>rfl
theorem of_le:OpF K Z (rI0 λi j=>.o (decide (i<=j))) gLe:=JS λ_ _ _ _ _=>rfl
theorem Ja5:OpF K Z (rI0 λi j=>.o (decide (j<i))) gGt:=JS λ_ _ _ _ _=>rfl
theorem YD:OpF K Z (rI (λ_ j=>0<j) λi j=>.int (i%j)) DG:=Vk (t:=λi j=>.int (i%j)) (λ_ _ _ _ _=>rfl) λi j fs=>by
 by_cases h:0<j
 .exact .inr ⟨h,if_pos h⟩
 .exact .inl (if_neg h)
theorem YF:OpF K Z (rI Jb6 λi j=>.int (i/j)) GJ:=Vk (t:=λi j=>.int (i/j)) (λ_ _ _ _ _=>rfl) λi j fs=>by
 by_cases h:0<j/\j<1073741824
 .exact .inr ⟨h,if_pos h⟩
 .exact .inl (if_neg h)
theorem YC:OpF K Z (rI IntMulOk λi j=>.int (i*j)) Xf:=Vk (t:=λi j=>.int (i*j)) (λ_ _ _ _ _=>rfl) λi j fs=>by
 by_cases h:(decide (-(2^64)<i/\i<2^64)||decide (-(2^64)<j/\j<2^64)||(decide (Builtin.Int.intBits i<=2^26)&&decide (Builtin.Int.intBits j<=2^26)))=true
 .refine .inr ⟨?_,if_pos h⟩;rw[uH,uH,tH]at h;rcases h with(h|h)|⟨h1,h2⟩
  .exact Jay.ok (.inl (tJ h))
  .exact Jay.ok (.inr (tJ h))
  .exact Ro (tJ h1) (tJ h2)
 .exact .inl (if_neg h)
def plV:T->Option V
 |.v=>some .v
 |.o b=>some (.o b)
 |.int i=>some (.int i)
 |.str x=>some (.str x)
 |_=>none
theorem BZ(e:plV t=some v)(r:AE K F H t u):u=v:=by cases t with|v=>cases e;exact r|o b=>cases e;exact r|int i=>cases e;exact r|str x=>cases e;exact r|tup ts=>cases e|lst ts=>cases e|zU ts=>cases e|l ks ts=>cases e|dT ks ts=>cases e|ins C fs ts=>cases e|dF ks ts=>cases e|zT c=>cases e
def gEq(neg:Bool):Rv->Rv->FS->Out Rv
 |.t x,.t y,fs=>match plV x,plV y with|some u,some w=>if Ob u w=true then okT (.o (if neg then !decide (u=w)else decide (u=w))) fs else .bad|_,_=>.bad
 |_,_,_=>.bad
def U4:List T->Option (List V)
 | []=>some []
 |t::r=>(plV t).bind λv=>(U4 r).map (v::·)
theorem IC:∀{ts:List T}{us vs:List V},U4 ts=some vs->Ah K F H ts us->us=vs/\vs.all Ff=true
 | [],_,_,e,r=>by cases e;simp only[Ah]at r;exact⟨r,rfl⟩
 |t::ts,_,_,e,r=>by simp only[Ah]at r;obtain⟨v,w,rfl,r1,r2⟩:=r;simp only[U4,tE,sR]at e;obtain⟨v',e1,ws,e2,rfl⟩:=e;obtain⟨rfl,h⟩:=IC e2 r2;have:=BZ e1 r1;subst this;refine⟨rfl,?_⟩;rw[List.all_cons,h,Bool.and_true];cases t<;>first|(cases e1;rfl)|cases e1
theorem C3(e:plV t=some v):Ff v=true:=by cases t<;>first|(cases e;rfl)|cases e
def gIn(neg:Bool):Rv->Rv->FS->Out Rv
 |.t x,y,fs=>match plV x with
  |some v=>match(match Cu fs y with|some ts=>U4 ts|none=>(K3 y).bind U4)with|some vs=>okT (.o (if neg then !inV v vs else inV v vs)) fs|none=>.bad
  |none=>.bad
 |_,_,_=>.bad
def Ke(neg:Bool):Rv->Rv->FS->Out Rv
 |.t (.str i),.t (.str j),fs=>okT (.o (if neg then !(!(Builtin.Str.occurrences j i 0 j.length 1).isEmpty)else !(Builtin.Str.occurrences j i 0 j.length 1).isEmpty)) fs
 |_,_,_=>.bad
theorem of_eq:OpF K Z rEq (gEq false):=by
 intro F B H U fs x y u w Q ok rx ry s;unfold gEq at s;split at s
 .split at s
  .rename_i e1 e2;split at s
   next hs=>have h1:=BZ e1 rx;have h2:=BZ e2 ry;subst h1 h2;exact⟨hs,s F H _ Le.refl (RR.of ok rfl)⟩
   .exact s.elim
  .exact s.elim
 .exact s.elim
theorem Ja3:OpF K Z rNe (gEq true):=by
 intro F B H U fs x y u w Q ok rx ry s;unfold gEq at s;split at s
 .split at s
  .rename_i e1 e2;split at s
   next hs=>have h1:=BZ e1 rx;have h2:=BZ e2 ry;subst h1 h2;exact⟨hs,s F H _ Le.refl (RR.of ok rfl)⟩
   .exact s.elim
  .exact s.elim
 .exact s.elim
theorem Vt(neg:Bool):OpF K Z (rIn K neg) (gIn neg):=by
 intro F B H U fs x y u w Q ok rx ry s;unfold gIn at s;split at s
 .split at s
  .rename_i v e1;split at s
   .rename_i vs e2;have h1:=BZ e1 rx;subst h1;split at e2
    next ts e3=>obtain⟨a,us,rfl,hs,q⟩:=Bg ok ry e3;obtain⟨rfl,hf⟩:=IC e2 q;exact⟨a,us,rfl,.inl hs,C3 e1,hf,s F H _ Le.refl (RR.of ok rfl)⟩
    .rw[tE]at e2;obtain⟨ts,e3,e2⟩:=e2;obtain⟨a,us,rfl,hs,q⟩:=BG ry e3;obtain⟨rfl,hf⟩:=IC e2 q;exact⟨a,us,rfl,.inr hs,C3 e1,hf,s F H _ Le.refl (RR.of ok rfl)⟩
   .exact s.elim
  .exact s.elim
 .exact s.elim
theorem Me:OpF K Z (λx y H Q=>∃i j,x=.str i/\y=.str j/\Q (.o (!(Builtin.Str.occurrences j i 0 j.length 1).isEmpty)) H) (Ke false):=by
 intro F B H U fs x y u w Q ok rx ry s;unfold Ke at s;split at s
 next i j=>exact⟨i,j,rx,ry,s F H _ Le.refl (RR.of ok rfl)⟩
 .exact s.elim
theorem Lc:OpF K Z (λx y H Q=>∃i j,x=.str i/\y=.str j/\Q (.o (!(!(Builtin.Str.occurrences j i 0 j.length 1).isEmpty))) H) (Ke true):=by
 intro F B H U fs x y u w Q ok rx ry s;unfold Ke at s;split at s
 next i j=>exact⟨i,j,rx,ry,s F H _ Le.refl (RR.of ok rfl)⟩
 .exact s.elim
def gIx:Rv->Rv->FS->Out Rv
 |x,.t (.int i),fs=>match Cu fs x with
  |some ts=>match atI ts i with|some t=>okT t fs|none=>.bad
  |none=>match x with
   |.t (.tup ts)=>match atI ts i with|some t=>okT t fs|none=>.bad
   |.t (.str z)=>if z.length<=big then match atI z.cps.toList i with|some c=>okT (.str ⟨#[c]⟩) fs|none=>.bad
    else .bad
   |_=>.bad
 |_,_,_=>.bad
theorem Ja4:OpF K Z (rIx K) gIx:=by
 intro F B H U fs x y u w Q ok rx ry s;unfold gIx at s;split at s
 .rename_i i;split at s
  .rename_i ts e;split at s
   next t et=>obtain⟨a,vs,rfl,hs,q⟩:=Bg ok rx e;obtain⟨v,ev,rv⟩:=Ql q et;exact .inl ⟨a,vs,i,v,rfl,ry,hs,ev,s F H v Le.refl (RR.of ok rv)⟩
   .exact s.elim
  .split at s
   .rename_i ts _;split at s
    next t et=>obtain⟨a,vs,rfl,hs,q⟩:=BG rx rfl;obtain⟨v,ev,rv⟩:=Ql q et;exact .inr (.inl ⟨a,vs,i,v,rfl,ry,hs,ev,s F H v Le.refl (RR.of ok rv)⟩)
    .exact s.elim
   .rename_i z _;split at s
    .rename_i hz;split at s
     next c ec=>exact .inr (.inr ⟨z,i,c,rx,ry,tK hz D2,ec,s F H _ Le.refl (RR.of ok rfl)⟩)
     .exact s.elim
    .exact s.elim
   .exact s.elim
 .exact s.elim
def Sh:Rv->Rv->FS->Out Rv
 |.t (.str i),.t (.str j),fs=>if i.length+j.length<=big then okT (.str (i++j)) fs else .bad
 |_,_,_=>.bad
def Wg:Rv->Rv->FS->Out Rv
 |.t (.str z),.t (.int n),fs=>if z.length=1/\1<=n/\n<=1000 then okT (.str (Txt.mul z n)) fs else .bad
 |_,_,_=>.bad
theorem VE(hz:z.length=1)(h0:1<=n)(h1:n<=1000):MulOk z n:=by
 refine⟨?_,λ_ _=>?_,λ_ _=>?_⟩
 .rw[Bool.or_eq_false_iff];exact⟨tB (by omega),tB (by omega)⟩
 .have h:=by omega
  have h2:1<=((2:Int)^63-1)/n:=(Int.le_ediv_iff_mul_le (by omega)).mpr (by omega);rw[hz];omega
 .unfold Builtin.Str.tooLong;have:=by omega
  refine tB ?_;rw[hz];have h3:(1000:Nat)<=sizeLine:=by rw[sizeLine_eq];decide
  omega
theorem Vz:OpF K Z (λx y H Q=>∃i j,x=.str i/\y=.str j/\i.length+j.length<=sizeLine/\Q (.str (i++j)) H) Sh:=by
 intro F B H U fs x y u w Q ok rx ry s;unfold Sh at s;split at s
 .rename_i i j;split at s
  next h=>exact⟨i,j,rx,ry,tK h D2,s F H _ Le.refl (RR.of ok rfl)⟩
  .exact s.elim
 .exact s.elim
theorem Vs:OpF K Z (λx y H Q=>∃z n,x=.str z/\y=.int n/\MulOk z n/\Q (.str (Txt.mul z n)) H) Wg:=by
 intro F B H U fs x y u w Q ok rx ry s;unfold Wg at s;split at s
 .rename_i i j;split at s
  next h=>exact⟨i,j,rx,ry,VE h.1 h.2.1 h.2.2,s F H _ Le.refl (RR.of ok rfl)⟩
  .exact s.elim
 .exact s.elim
def JaB(fs:FS):Rv->Option Bool
 |.t .v=>some false
 |.t (.o b)=>some b
 |.t (.int i)=>some (i !=0)
 |.t (.str x)=>if x.length<=big then some ((x.length:Int)!=0)else none
 |.t (.lst ts)=>some !ts.isEmpty
 |.t (.tup ts)=>some !ts.isEmpty
 |.n i=>match AK fs i with|some (.lst ts)=>some !ts.isEmpty|some (.l ks _)=>some !ks.isEmpty|_=>none
 |_=>none
def Hj(f:FS->Out Rv):FS->Out Bool:=λfs=>(f fs).bnd λr fs=>match JaB fs r with|some b=>.ok b fs|none=>.bad
def Ft(f:FS->Out Bool):FS->Out Bool:=λfs=>(f fs).bind λb fs=>.ok (!b) fs
def Qp(f g:FS->Out Bool):FS->Out Bool:=λfs=>(f fs).bind λb fs=>if b=true then g fs else .ok false fs
def orT(f g:FS->Out Bool):FS->Out Bool:=λfs=>(f fs).bind λb fs=>if b=true then .ok true fs else g fs
def Us(f g:FS->Out Rv):FS->Out Rv:=λfs=>(f fs).bnd λr fs=>match r with|.t (.o true)=>g fs|.t (.o false)=>okT (.o false) fs|_=>.bad
def orV(f g:FS->Out Rv):FS->Out Rv:=λfs=>(f fs).bnd λr fs=>match r with|.t (.o false)=>g fs|.t (.o true)=>okT (.o true) fs|_=>.bad
theorem Dv{xs:List α}{ys:List β}(h:ys.length=xs.length):(!ys.isEmpty)=!xs.isEmpty:=by cases xs<;>cases ys<;>simp_all
theorem Uz{b}(h:Okk K F B H fs U)(r:BL K F H U x u)(e:JaB fs x=some b):JbJ K u H b:=by
 unfold JaB at e;split at e
 .cases e;cases r;rfl
 .cases e;cases r;rfl
 .cases e;cases r;rfl
 .split at e
  next hz=>cases e;cases r;exact⟨tK hz D2,rfl⟩
  .cases e
 .cases e;obtain⟨a,vs,rfl,hs,q⟩:=Bg h r rfl;exact .inl ⟨vs,hs,(Dv q.len).symm⟩
 .cases e;obtain⟨a,vs,rfl,hs,q⟩:=BG r rfl;exact .inr (.inl ⟨vs,hs,(Dv q.len).symm⟩)
 .rename_i i;split at e
  next ts eo=>cases e;obtain⟨a,vs,rfl,hs,q⟩:=Bg (ts:=ts) h r (by simp[Cu,eo]);exact .inl ⟨vs,hs,(Dv q.len).symm⟩
  .rename_i ks ts eo;cases e;obtain⟨v,L2,e1,q,_⟩:=h.own eo;have e2:U[i]?=some (some u):=r;rw[e1]at e2;have e3:v=u:=by simpa using e2
   subst e3;simp only[Ax]at q;obtain⟨a,ah,rfl,hd,rfl,_⟩:=q;exact .inr (.inr ⟨ah,hd,(Dv (by simp))⟩)
  .cases e
 .cases e
variable{ga gb:FS->Out Bool}{rest:List Expr}
theorem Si(ha:FE X Z a fa)(he:∀aW,isTrue a X.env aW=(do let v <- aW;standAt a.pos;holding [v] (truthy v))):FT X Z a (Hj fa):=by
 refine JK (L5 ha he) λU H Q ⟨F,B,fs,ok,s⟩=>⟨F,B,fs,ok,AM s λr aj F1 H1 u l au rx s1=>?_⟩
 split at s1
 next b e=>exact⟨b,Uz au rx e,s1 F1 H1 b Le.refl ⟨au,rfl⟩⟩
 .exact s1.elim
theorem Zi(ha:FT X Z a ga):FT X Z (.UnaryOp .Not a pos) (Ft ga):=by
 refine JK (X1 ha) λU H Q ⟨F,B,fs,ok,s⟩=>⟨F,B,fs,ok,AJ s λb aj F1 H1 b' l q s1=>?_⟩
 obtain⟨au,rfl⟩:=q;exact s1 F1 H1 _ Le.refl ⟨au,rfl⟩
def FW(X:Cx)(Z:Xp)(e:Expr)(f:FS->Out Bool):Prop:=PW X e (tT X.K Z f)
theorem FW.ft(h:FW X Z a ga):FT X Z a ga:=PW.pt h
theorem Tv(h:PW X e t)(i:∀U H Q,t' U H Q->t U H Q):PW X e t':=λaW ae s U H Q I q=>h aW ae s U H Q I (i _ _ _ q)
theorem Wj(ha:FT X Z a ga):FW X Z (.BoolOp .And [a] pos) ga:=UT ha
theorem Zg(ha:FT X Z a ga):FW X Z (.BoolOp .Or [a] pos) ga:=XY ha
theorem Zh(ha:FT X Z a ga)(hb:FW X Z (.BoolOp .And (b::rest) pos) gb):FW X Z (.BoolOp .And (a::b::rest) pos) (Qp ga gb):=by
 refine Tv (XZ ha hb) λU H Q ⟨F,B,fs,ok,s⟩=>⟨F,B,fs,ok,AJ s λb aj F1 H1 b' l q s1=>?_⟩
 obtain⟨au,rfl⟩:=q;cases b' with|true =>rw[if_pos rfl]at s1 ⊢;exact⟨F1,B,aj,au,s1⟩|false =>rw[if_neg (by decide)]at s1 ⊢;exact s1 F1 H1 _ Le.refl ⟨au,rfl⟩
theorem Jbg(ha:FT X Z a ga)(hb:FW X Z (.BoolOp .Or (b::rest) pos) gb):FW X Z (.BoolOp .Or (a::b::rest) pos) (orT ga gb):=by
 refine Tv (JaO ha hb) λU H Q ⟨F,B,fs,ok,s⟩=>⟨F,B,fs,ok,AJ s λb aj F1 H1 b' l q s1=>?_⟩
 obtain⟨au,rfl⟩:=q;cases b' with|true =>rw[if_pos rfl]at s1 ⊢;exact s1 F1 H1 _ Le.refl ⟨au,rfl⟩|false =>rw[if_neg (by decide)]at s1 ⊢;exact⟨F1,B,aj,au,s1⟩
theorem Ua(h:FE X Z a fa):FE X Z (.BoolOp op [a] pos) fa:=Ye h
theorem Ud(ha:FE X Z a fa)(hb:FE X Z (.BoolOp .And (b::rest) pos) fb):FE X Z (.BoolOp .And (a::b::rest) pos) (Us fa fb):=by
 refine A0 (Yk ha hb) λU H Q ⟨F,B,fs,ok,s⟩=>⟨F,B,fs,ok,AM s λr aj F1 H1 u l au rx s1=>?_⟩
 split at s1
 .exact⟨true,rx,by rw[if_pos rfl];exact⟨F1,B,aj,au,s1⟩⟩
 .exact⟨false,rx,by rw[if_neg (by decide)];exact s1 F1 H1 _ Le.refl (RR.of au rfl)⟩
 .exact s1.elim
theorem Jbq(ha:FE X Z a fa)(hb:FE X Z (.BoolOp .Or (b::rest) pos) fb):FE X Z (.BoolOp .Or (a::b::rest) pos) (orV fa fb):=by
 refine A0 (JaT ha hb) λU H Q ⟨F,B,fs,ok,s⟩=>⟨F,B,fs,ok,AM s λr aj F1 H1 u l au rx s1=>?_⟩
 split at s1
 .exact⟨false,rx,by rw[if_neg (by decide)];exact⟨F1,B,aj,au,s1⟩⟩
 .exact⟨true,rx,by rw[if_pos rfl];exact s1 F1 H1 _ Le.refl (RR.of au rfl)⟩
 .exact s1.elim
theorem Sm(hg:OpF X.K Z r g)(iN:OpF X.K Z r' g')(ha:FE X Z a fa)(hb:FE X Z b fb)(hc:FE X Z c fc)
  (h:∀{ta tb tc:TE},PE X a ta->PE X b tb->PE X c tc->PT X (.Compare a [op,op'] [b,c] pos) (UA (NZ r r' ta tb tc))):FT X Z (.Compare a [op,op'] [b,c] pos) (asB (chain g g' fa fb fc)) :=
 JK (h ha hb hc) λ_ _ _ q=>WM hg iN (Ur q)
def Ai:FS->Out (List Rv):=λfs=>.ok [] fs
def Ac(f:FS->Out Rv)(g:FS->Out (List Rv)):FS->Out (List Rv):=λfs=>(f fs).bnd λr fs=>(g fs).bind λrs fs=>.ok (r::rs) fs
def Qs:List Rv->Option (List T)
 | []=>some []
 |.t t::r=>(Qs r).map (t::·)
 |_=>none
theorem Gb:∀{rs:List Rv}{vs:List V}{ts:List T},Jn K F H U rs vs->Qs rs=some ts->Ah K F H ts vs
 | [],_,_,h,e=>by cases e;exact h
 |.t t::r,_,_,h,e=>by simp only[Qs,sR]at e;obtain⟨ts,e,rfl⟩:=e;obtain⟨v,w,rfl,h1,h2⟩:=h;simp only[Ah];exact⟨v,w,rfl,h1,Gb h2 e⟩
 |.nw _::r,_,_,h,e=>by simp[Qs]at e
 |.n _::r,_,_,h,e=>by simp[Qs]at e
def An(g:List T->FS->Out Rv)(f:FS->Out (List Rv)):FS->Out Rv:=λfs=>(f fs).bind λrs fs=>match Qs rs with|some ts=>if ts.length<=big then g ts fs else .bad|none=>.bad
def Ar(ts:List T)(fs:FS):Out Rv:=.ok (.t (.tup ts)) fs
def Cz(ts:List T)(fs:FS):Out Rv:=.ok (.t (.lst ts)) fs
def Er(ts:List T)(fs:FS):Out Rv:=.ok (.nw (.lst ts)) fs
variable{es:List Expr}{g:FS->Out (List Rv)}
theorem ZO:FA X Z [] Ai:=Mc HP λU H Q ⟨F,B,fs,ok,s⟩=>s F H [] Le.refl ⟨ok,rfl⟩
theorem Wz(ha:FE X Z e f)(hr:FA X Z es g)(hs:starEach (e::es) X.env=(false,eval e X.env)::starEach es X.env:=by rfl):FA X Z (e::es) (Ac f g):=by
 refine Mc (Dt ha hr hs) λU H Q ⟨F,B,fs,ok,s⟩=>⟨F,B,fs,ok,AM s λr aj F1 H1 u l au rx s1=>⟨F1,B,aj,au,AJ s1 λrs aA F2 H2 us l2 q s2=>?_⟩⟩
 exact s2 F2 H2 (u::us) Le.refl ⟨q.1,u,us,rfl,rx.le l2,q.2⟩
theorem Zq(h:FA X Z es g):FE X Z (.Tuple es x1 pos) (An Ar g):=by
 refine A0 (Yd h) λU H Q ⟨F,B,fs,ok,s⟩=>⟨F,B,fs,ok,AJ s λrs aj F1 H1 us l q s1=>?_⟩
 obtain⟨au,q⟩:=q;split at s1
 .rename_i ts e;have r:=Gb q e;split at s1
  next hl=>refine⟨by rw[r.len];exact tK hl D2,λp hp=>s1 (Qq F1 p) (upd H1 p (.tup us)) (.ref p) (A5 au hp) (RR.of (au.alloc hp) ?_)⟩;simp only[BL,AE];exact⟨p,us,rfl,⟨rfl,.inr rfl,As⟩,r.le (A5 au hp)⟩
  .exact s1.elim
 .exact s1.elim
theorem ZC(h:FA X Z es g):FE X Z (.List es pos) (An Cz g):=by
 refine A0 (TK h) λU H Q ⟨F,B,fs,ok,s⟩=>⟨F,B,fs,ok,AJ s λrs aj F1 H1 us l q s1=>?_⟩
 obtain⟨au,q⟩:=q;split at s1
 .rename_i ts e;have r:=Gb q e;split at s1
  next hl=>refine⟨by rw[r.len];exact tK hl D2,λp hp=>s1 (Qq F1 p) (upd H1 p (.lst us)) (.ref p) (A5 au hp) (RR.of (au.alloc hp) ?_)⟩;simp only[BL,AE];exact⟨p,us,rfl,.inr rfl,As,r.le (A5 au hp)⟩
  .exact s1.elim
 .exact s1.elim
theorem C0(h:H p=some (.lst us))(r:Ah K F H ts us):Ax K F H (.lst ts) (.ref p) [p]:=by simp only[Ax];exact⟨p,us,rfl,h,r,rfl⟩
theorem Ww(h:FA X Z es g):FE X Z (.List es pos) (An Er g):=by
 refine A0 (TK h) λU H Q ⟨F,B,fs,ok,s⟩=>⟨F,B,fs,ok,AJ s λrs aj F1 H1 us l q s1=>?_⟩
 obtain⟨au,q⟩:=q;split at s1
 .rename_i ts e;have r:=Gb q e;split at s1
  next hl=>exact⟨by rw[r.len];exact tK hl D2,λp hp=>s1 F1 (upd H1 p (.lst us)) (.ref p) (A1 au hp) (RR.alloc au hp (C0 As (r.le (A1 au hp))))⟩
  .exact s1.elim
 .exact s1.elim
def EL:FS->Out Rv:=λfs=>.ok (.nw (.l [] [])) fs
theorem Sv:FE X Z (.Dict [] [] pos) EL:=by
 refine A0 Mb λU H Q ⟨F,B,fs,ok,s⟩ p hp=>s F (upd H p (.l [])) (.ref p) (A1 ok hp) (RR.alloc ok hp ?_)
 simp only[Ax,Ah];exact⟨p,[],rfl,As,rfl,rfl,rfl⟩
def Dq(K:Fg)(Z:Xp)(r:List V->Hp->VK->Prop)(g:List Rv->FS->Out Rv):Prop:=∀(F:Wd)(B:Nat->Option V)(H:Hp)(U:St)(fs:FS)(rs:List Rv)(vs:List V)(Q:VK),Okk K F B H fs U->Jn K F H U rs vs ->
 sat Z B (RR K B U) F H (g rs fs) Q->r vs H Q
def Aj(g:List Rv->FS->Out Rv)(f:FS->Out (List Rv)):FS->Out Rv:=λfs=>(f fs).bind λrs fs=>g rs fs
variable{fa:FS->Out (List Rv)}{g:List Rv->FS->Out Rv}{r:List V->Hp->VK->Prop}{p:Pos}{x:Str}{Ty:String}
section
variable{id:String}
theorem EN(iN:Dq X.K Z r g)(hc:CV X (.builtin id) r)(hm:X.mg x=none)(hv:bootBuiltins x=some (.builtin id))(ha:FA X Z (e::es) fa)(hg:Gl X x:=by rfl)(hn:x≠"__name__":=by decide)(bh:(x==("__debug__":Str))=false:=by decide)
  (he:starEach (e::es) X.env=(false,eval e X.env)::starEach es X.env:=by rfl) (aC:(backTo pos (starEach es X.env)).any (·.1)=false:=by rfl):FE X Z (.Call (.Name x p) (e::es) [] pos) (Aj g fa) :=
 A0 (IG hc hg hm hv ha hn bh he aC) λU H Q ⟨F,B,fs,ok,s⟩=>⟨F,B,fs,ok,AJ s λrs aj F1 H1 us l q s1=>iN F1 B H1 U aj rs us Q q.1 q.2 s1⟩
theorem GO(iN:Dq X.K Z r g)(hc:CV X (.type Ty) r)(hm:X.mg x=none)(hv:bootBuiltins x=some (.type Ty))(ha:FA X Z (e::es) fa)(hg:Gl X x:=by rfl)(hn:x≠"__name__":=by decide)(bh:(x==("__debug__":Str))=false:=by decide)
  (he:starEach (e::es) X.env=(false,eval e X.env)::starEach es X.env:=by rfl) (aC:(backTo pos (starEach es X.env)).any (·.1)=false:=by rfl):FE X Z (.Call (.Name x p) (e::es) [] pos) (Aj g fa) :=
 A0 (Ov hc hg hm hv ha hn bh he aC) λU H Q ⟨F,B,fs,ok,s⟩=>⟨F,B,fs,ok,AJ s λrs aj F1 H1 us l q s1=>iN F1 B H1 U aj rs us Q q.1 q.2 s1⟩
end
def Jbd:List Rv->FS->Out Rv
 | [x],fs=>match Cu fs x with|some ts=>okT (.int ts.length) fs|none=>match K3 x with|some ts=>okT (.int ts.length) fs|none=>.bad
 |_,_=>.bad
def Po:List Rv->FS->Out Rv
 | [.t (.str z)],fs=>if z.length<=big then okT (.int z.length) fs else .bad
 |_,_=>.bad
def IY:List Rv->FS->Out Rv
 | [.t (.int i),.t (.int j)],fs=>okT (.int (if j<i then j else i)) fs
 |_,_=>.bad
def Nj:List Rv->FS->Out Rv
 | [.t (.int i)],fs=>okT (.int i) fs
 | [.t (.o k)],fs=>okT (.int (if k then 1 else 0)) fs
 |_,_=>.bad
def T3:List Rv->FS->Out Rv
 | [x],fs=>match(Cu fs x).bind BX with|some ns=>okT (.int ns.sum) fs|none=>.bad
 |_,_=>.bad
def Zf:List Rv->FS->Out Rv
 | [x],fs=>match(Cu fs x).bind Dp with|some ns=>okT (.o (ns.all id)) fs|none=>.bad
 |_,_=>.bad
def Wh:List Rv->FS->Out Rv
 | [x],fs=>match Cu fs x with|some ts=>.ok (.nw (.lst ts)) fs|none=>match K3 x with|some ts=>.ok (.nw (.lst ts)) fs|none=>.bad
 |_,_=>.bad
def BQ:List Rv->FS->Out Rv
 | [x],fs=>match Cu fs x with|some ts=>okT (.tup ts) fs|none=>match K3 x with|some ts=>okT (.tup ts) fs|none=>.bad
 |_,_=>.bad
def VT:Key->T
 |.inl i=>.int i
 |.inr x=>.str x
def Pn:List Rv->FS->Out Rv
 | [.t (.l ks _)],fs=>.ok (.nw (.lst (ks.map VT))) fs
 |_,_=>.bad
theorem Bh{x}(h:Jn K F H U [x] vs):∃v,vs=[v]/\BL K F H U x v:=by obtain⟨v,w,rfl,h1,h2⟩:=h;have:=h2;subst this;exact⟨v,rfl,h1⟩
theorem ZY:Dq K Z (λxs H Q=>∃p ys,xs=[.ref p]/\(SqL K H p ys\/SqT K H p ys)/\Q (.int ys.length) H) Jbd:=by
 intro F B H U fs rs vs Q ok q s;unfold Jbd at s;split at s
 .obtain⟨v,rfl,qq⟩:=Bh q;have q:=qq;split at s
  next ts e=>obtain⟨a,us,rfl,hs,r⟩:=Bg ok q e;exact⟨a,us,rfl,.inl hs,by rw[r.len];exact s F H _ Le.refl (RR.of ok rfl)⟩
  .split at s
   next ts e=>obtain⟨a,us,rfl,hs,r⟩:=BG q e;exact⟨a,us,rfl,.inr hs,by rw[r.len];exact s F H _ Le.refl (RR.of ok rfl)⟩
   .exact s.elim
 .exact s.elim
theorem WQ:Dq K Z (λxs H Q=>∃z,xs=[.str z]/\z.length<=sizeLine/\Q (.int z.length) H) Po:=by
 intro F B H U fs rs vs Q ok q s;unfold Po at s;split at s
 .rename_i z;obtain⟨v,rfl,qq⟩:=Bh q;cases qq;split at s
  next hz=>exact⟨z,rfl,tK hz D2,s F H _ Le.refl (RR.of ok rfl)⟩
  .exact s.elim
 .exact s.elim
theorem WN:Dq K Z (λxs H Q=>∃i j,xs=[.int i,.int j]/\Q (.int (if j<i then j else i)) H) IY:=by
 intro F B H U fs rs vs Q ok q s;unfold IY at s;split at s
 next i j=>obtain⟨v,w,rfl,q1,v2,w2,rfl,q2,q3⟩:=q;cases q1;cases q2;cases q3;exact⟨i,j,rfl,s F H _ Le.refl (RR.of ok rfl)⟩
 .exact s.elim
theorem WS:Dq K Z (λxs H Q=>(∃i,xs=[.int i]/\Q (.int i) H)\/∃k,xs=[.o k]/\Q (.int (if k then 1 else 0)) H) Nj:=by
 intro F B H U fs rs vs Q ok q s;unfold Nj at s;split at s
 .obtain⟨v,rfl,qq⟩:=Bh q;have q:=qq;cases q;exact .inl ⟨_,rfl,s F H _ Le.refl (RR.of ok rfl)⟩
 .obtain⟨v,rfl,qq⟩:=Bh q;cases qq;exact .inr ⟨_,rfl,s F H _ Le.refl (RR.of ok rfl)⟩
 .exact s.elim
theorem ZX:Dq K Z (λxs H Q=>∃(l:Addr)(ns:List Int),xs=[.ref l]/\SqL K H l (ns.map V.int)/\Q (.int ns.sum) H) T3:=by
 intro F B H U fs rs vs Q ok q s;unfold T3 at s;split at s
 .obtain⟨v,rfl,qq⟩:=Bh q;split at s
  next ns e=>rw[tE]at e;obtain⟨ts,e1,e2⟩:=e;obtain⟨a,us,rfl,hs,r⟩:=Bg ok qq e1;rw[Hg e2]at r;rw[Ah.ints r]at hs;exact⟨a,ns,rfl,hs,s F H _ Le.refl (RR.of ok rfl)⟩
  .exact s.elim
 .exact s.elim
theorem Z0:Dq K Z (λxs H Q=>∃(l:Addr)(bs:List Bool),xs=[.ref l]/\SqL K H l (bs.map V.o)/\Q (.o (bs.all id)) H) Zf:=by
 intro F B H U fs rs vs Q ok q s;unfold Zf at s;split at s
 .obtain⟨v,rfl,qq⟩:=Bh q;split at s
  next ns e=>rw[tE]at e;obtain⟨ts,e1,e2⟩:=e;obtain⟨a,us,rfl,hs,r⟩:=Bg ok qq e1;rw[EV e2]at r;rw[Ah.bls r]at hs;exact⟨a,ns,rfl,hs,s F H _ Le.refl (RR.of ok rfl)⟩
  .exact s.elim
 .exact s.elim
theorem WO:Dq K Z (λxs H Q=>∃p ys,xs=[.ref p]/\(SqL K H p ys\/SqT K H p ys)/\∀l,H l=none->Q (.ref l) (upd H l (.lst ys))) Wh:=by
 intro F B H U fs rs vs Q ok q s;unfold Wh at s;split at s
 .obtain⟨v,rfl,qq⟩:=Bh q;have q:=qq;split at s
  next ts e=>obtain⟨a,us,rfl,hs,r⟩:=Bg ok q e;exact⟨a,us,rfl,.inl hs,λp hp=>s F (upd H p (.lst us)) (.ref p) (A1 ok hp) (RR.alloc ok hp (C0 As (r.le (A1 ok hp))))⟩
  .split at s
   next ts e=>obtain⟨a,us,rfl,hs,r⟩:=BG q e;exact⟨a,us,rfl,.inr hs,λp hp=>s F (upd H p (.lst us)) (.ref p) (A1 ok hp) (RR.alloc ok hp (C0 As (r.le (A1 ok hp))))⟩
   .exact s.elim
 .exact s.elim
theorem E3{p}(ok:Okk K F B H fs U)(hp:H p=none)(r:Ah K F H ts us):RR K B U (Qq F p) (upd H p (.tup us)) fs (.t (.tup ts)) (.ref p):=by refine RR.of (ok.alloc hp) ?_;simp only[BL,AE];exact⟨p,us,rfl,⟨rfl,.inr rfl,As⟩,r.le (A5 ok hp)⟩
theorem MX{p}(ok:Okk K F B H fs U)(hp:H p=none)(r:Ah K F H ts us):RR K B U (Qq F p) (upd H p (.lst us)) fs (.t (.lst ts)) (.ref p):=by refine RR.of (ok.alloc hp) ?_;simp only[BL,AE];exact⟨p,us,rfl,.inr rfl,As,r.le (A5 ok hp)⟩
theorem SS:Dq K Z (λxs H Q=>∃p ys,xs=[.ref p]/\((SqL K H p ys/\∀l,H l=none->Q (.ref l) (upd H l (.tup ys)))\/(SqT K H p ys/\Q (.ref p) H))) BQ:=by
 intro F B H U fs rs vs Q ok q s;unfold BQ at s;split at s
 .rename_i x;obtain⟨v,rfl,qq⟩:=Bh q;have q:=qq;split at s
  next ts e=>obtain⟨a,us,rfl,hs,r⟩:=Bg ok q e;exact⟨a,us,rfl,.inl ⟨hs,λp hp=>s _ _ (.ref p) (A5 ok hp) (E3 ok hp r)⟩⟩
  .split at s
   .rename_i ts e;obtain⟨a,us,rfl,hs,r⟩:=BG q e;have ex:x=.t (.tup ts):=by
     unfold K3 at e;split at e
     .cases e;rfl
     .cases e
    rw[ex]at q;exact⟨a,us,rfl,.inr ⟨hs,s F H _ Le.refl (RR.of ok q)⟩⟩
   .exact s.elim
 .exact s.elim
theorem IS:∀ks:List Key,Ah K F H (ks.map VT) (ks.map kV)
 | []=>by simp[Ah]
 |.inl i::r=>by simp only[sG,Ah];exact⟨_,_,rfl,rfl,IS r⟩
 |.inr i::r=>by simp only[sG,Ah];exact⟨_,_,rfl,rfl,IS r⟩
theorem SU:Dq K Z (λxs H Q=>∃p ah,xs=[.ref p]/\Rd H p (.l ah)/\∀l,H l=none->Q (.ref l) (upd H l (.lst (ah.map λkv=>kV kv.1)))) Pn:=by
 intro F B H U fs rs vs Q ok q s;unfold Pn at s;split at s
 .rename_i ks ts;obtain⟨v,rfl,qq⟩:=Bh q;have q:=qq;simp only[BL,AE]at q;obtain⟨a,ah,rfl,f,hd,rfl,r⟩:=q;refine⟨a,ah,rfl,hd,λp hp=>s F _ (.ref p) (A1 ok hp) (RR.alloc ok hp (C0 As ?_))⟩;have e:(ah.map λkv=>kV kv.1)=(ah.map (·.1)).map kV:=by rw[tU];rfl
  rw[e];exact IS _
 .exact s.elim
def MtF(K:Fg)(Z:Xp)(r:V->List V->Hp->VK->Prop)(g:Rv->List Rv->FS->Out Rv):Prop:=∀(F:Wd)(B:Nat->Option V)(H:Hp)(U:St)(fs:FS)(x:Rv)(rs:List Rv)(u:V)(vs:List V)(Q:VK),Okk K F B H fs U->BL K F H U x u->Jn K F H U rs vs ->
 sat Z B (RR K B U) F H (g x rs fs) Q->r u vs H Q
def BC(g:Rv->List Rv->FS->Out Rv)(fo:FS->Out Rv)(fa:FS->Out (List Rv)):FS->Out Rv:=λfs=>(fo fs).bnd λx fs=>if(Cu fs x).isSome=true then(fa fs).bind λrs fs=>g x rs fs else .bad
def IP(g:Rv->List Rv->FS->Out Rv)(fo:FS->Out Rv)(fa:FS->Out (List Rv)):FS->Out Rv:=λfs=>(fo fs).bnd λx fs=>match x with
 |.t (.str _)=>(fa fs).bind λrs fs=>g x rs fs
 |_=>.bad
variable{o:Expr}{fo:FS->Out Rv}{g:Rv->List Rv->FS->Out Rv}{r:V->List V->Hp->VK->Prop}{av aw:Pos}{name:Str}
section
variable{id:String}
theorem Sx(hg:MtF X.K Z r g)(slot:Slot "list" name id)(fB:typeOf (.builtin id)=pure (.type "method_descriptor"))(hm:MtR X id r)(ho:FE X Z o fo)(ha:FA X Z (e::es) fa)
  (aN:attributeBase o name X.env (eval o X.env)=eval o X.env:=by rfl)
  (eE:((backTo aw (starEach (e::es) X.env)).all (λx=>!x.1)&&(backToKw aw (keywordEach [] X.env)).all (λx=>x.1.isSome)
  &&decide ((e::es).length+([]:List Keyword).length+(if([]:List Keyword).isEmpty then 0 else 1)<30))=true:=by rfl)
  (aO:(av.endLine==aw.line)=true:=by rfl) (hs:starEach (e::es) X.env=(false,eval e X.env)::starEach es X.env:=by rfl) (b9:(backTo aw (starEach es X.env)).any (·.1)=false:=by rfl) :
  FE X Z (.Call (.Attribute o name av) (e::es) [] aw) (BC g fo fa):=by
 refine A0 (Vh plainAttrs_list slot fB hm ho ha aN eE aO hs b9) λU H Q ⟨F,B,fs,ok,s⟩=>⟨F,B,fs,ok,AM s λx aj F1 H1 u l au rx s1=>?_⟩
 split at s1
 next he=>obtain⟨ts,k6⟩:=uD.mp he;obtain⟨a,vs,rfl,hs,q⟩:=Bg au rx k6;exact⟨.inl ⟨rfl,vs,hs⟩,F1,B,aj,au,AJ s1 λrs aA F2 H2 us l2 q2 s2=>hg F2 B H2 U aA x rs _ us Q q2.1 (rx.le l2) q2.2 s2⟩
 .exact s1.elim
theorem ZK(hg:MtF X.K Z r g)(slot:Slot "str" name id)(fB:typeOf (.builtin id)=pure (.type "method_descriptor"))(hm:MtR X id r)(ho:FE X Z o fo)(ha:FA X Z (e::es) fa)
  (aN:attributeBase o name X.env (eval o X.env)=eval o X.env:=by rfl)
  (eE:((backTo aw (starEach (e::es) X.env)).all (λx=>!x.1)&&(backToKw aw (keywordEach [] X.env)).all (λx=>x.1.isSome)
  &&decide ((e::es).length+([]:List Keyword).length+(if([]:List Keyword).isEmpty then 0 else 1)<30))=true:=by rfl)
  (aO:(av.endLine==aw.line)=true:=by rfl) (hs:starEach (e::es) X.env=(false,eval e X.env)::starEach es X.env:=by rfl) (b9:(backTo aw (starEach es X.env)).any (·.1)=false:=by rfl) :
  FE X Z (.Call (.Attribute o name av) (e::es) [] aw) (IP g fo fa):=by
 refine A0 (Vh PySem.F.plainAttrs_str slot fB hm ho ha aN eE aO hs b9) λU H Q ⟨F,B,fs,ok,s⟩=>⟨F,B,fs,ok,AM s λx aj F1 H1 u l au rx s1=>?_⟩
 split at s1
 .have kg:=rx;cases rx;exact⟨rfl,F1,B,aj,au,AJ s1 λrs aA F2 H2 us l2 q2 s2=>hg F2 B H2 U aA _ rs _ us Q q2.1 (BL.le kg l2) q2.2 s2⟩
 .exact s1.elim
end
def Fw:Rv->List Rv->FS->Out Rv
 |.n i,[.t t],fs=>match AK fs i with|some (.lst ts)=>if ts.length<big then .ok (.t .v) (putAt fs i (.lst (ts++[t])))else .bad|_=>.bad
 |_,_,_=>.bad
def Jan:Rv->List Rv->FS->Out Rv
 |.n i,[.t (.lst us)],fs=>match AK fs i with|some (.lst ts)=>if ts.length+us.length<=big then .ok (.t .v) (putAt fs i (.lst (ts++us)))else .bad|_=>.bad
 |_,_,_=>.bad
def GI:Rv->List Rv->FS->Out Rv
 |.t (.str z),[x],fs=>match(Cu fs x).bind Cy with|some ys=>if(ys.map (·.length)).sum+ys.length*z.length<=big then okT (.str (Txt.join z ys)) fs else .bad|none=>.bad
 |_,_,_=>.bad
theorem Ah.last(r:Ah K F H ts vs)(e:ts.getLast?=some t):∃z,vs=vs.dropLast++[z]/\AE K F H t z/\Ah K F H ts.dropLast vs.dropLast:=by
 have hl:=r.len;rw[List.getLast?_eq_getElem?]at e;obtain⟨z,ez,rz⟩:=r.at e;have eI:=by have:=(sS.mp e).1;omega
 refine⟨z,?_,rz,?_⟩
 .have bV:vs≠[]:=by intro q;rw[q]at hl;simp at hl;omega
  have h1:=(List.dropLast_concat_getLast bV).symm;have h2:vs.getLast bV=z:=by
   rw[List.getLast_eq_getElem];have:=(sS.mp ez)
   obtain⟨h3,h4⟩:=this;rw[<- h4];congr 1;rw[hl]
  rw[h2]at h1;exact h1
 .rw[List.dropLast_eq_take,List.dropLast_eq_take,hl];exact r.take _
theorem Okk.list(h:Okk K F B H fs U)(r:U[i]?=some (some u))(e:AK fs i=some (.lst ts)):∃a vs,u=.ref a/\H a=some (.lst vs)/\Ah K F H ts vs /\
  ∀km eT,Ah K F H km eT->Okk K F B (upd H a (.lst eT)) (putAt fs i (.lst km)) U/\Le F H F (upd H a (.lst eT)):=by
 obtain⟨v,L2,e1,q,nf,_,k⟩:=h.own e;rw[e1]at r;have e3:v=u:=by simpa using r
 subst e3;simp only[Ax]at q;obtain⟨a,vs,rfl,hs,q,rfl⟩:=q;refine⟨a,vs,rfl,hs,q,λkm eT q'=>?_⟩;have l:Le F H F (upd H a (.lst eT)):=⟨λb f=>⟨f,Ap λz=>(nf a (by simp)).1 (z▸f)⟩,λb f=>⟨f,Ap λz=>(nf a (by simp)).2 (z▸f)⟩⟩
 exact k _ _ (λb hb _=>Ap (by simpa using hb)) (C0 As (q'.le l))
theorem YJ:MtF K Z Of Fw:=by
 intro F B H U fs x rs u vs Q ok rx q s;unfold Fw at s;split at s
 .rename_i i t;obtain⟨v,rfl,qq⟩:=Bh q;split at s
  .rename_i ts e;split at s
   next hl=>obtain⟨a,us,rfl,hs,r,k⟩:=ok.list rx e;obtain⟨bR,l⟩:=k (ts++[t]) (us++[v]) (r.app (Ah.one qq));exact⟨a,us,v,rfl,rfl,hs,by rw[r.len];exact um hl Fx,s F _ _ l (RR.of bR rfl)⟩
   .exact s.elim
  .exact s.elim
 .exact s.elim
theorem YI:MtF K Z IB Jan:=by
 intro F B H U fs x rs u vs Q ok rx q s;unfold Jan at s;split at s
 .rename_i i ws;obtain⟨v,rfl,qq⟩:=Bh q;have q:=qq;split at s
  .rename_i ts e;split at s
   next hl=>obtain⟨a,us,rfl,hs,r,k⟩:=ok.list rx e;simp only[BL,AE]at q;obtain⟨b,zs,rfl,f,hb,rz⟩:=q;obtain⟨bR,l⟩:=k _ _ (r.app rz);exact⟨a,b,us,zs,rfl,rfl,hs,hb,by rw[r.len,rz.len];exact tK hl D2,s F _ _ l (RR.of bR rfl)⟩
   .exact s.elim
  .exact s.elim
 .exact s.elim
theorem VL:MtF K Z (λx xs H Q=>∃(z:Str)(l:Addr)(ys:List Str),x=.str z/\xs=[.ref l]/\SqL K H l (ys.map V.str)/\(ys.map (·.length)).sum+ys.length*z.length<=16777216/\Q (.str (Txt.join z ys)) H) GI:=by
 intro F B H U fs x rs u vs Q ok rx q s;unfold GI at s;split at s
 .rename_i z x;obtain⟨v,rfl,qq⟩:=Bh q;cases rx;split at s
  .rename_i ys e;rw[tE]at e;obtain⟨ts,e1,e2⟩:=e;split at s
   next hl=>obtain⟨a,us,rfl,hs,r⟩:=Bg ok qq e1;rw[KP e2]at r;rw[Ah.strs r]at hs;exact⟨z,a,ys,rfl,rfl,hs,tK hl (by decide),s F H _ Le.refl (RR.of ok rfl)⟩
   .exact s.elim
  .exact s.elim
 .exact s.elim
def HG:T->Option Key
 |.int i=>some (.inl i)
 |.str x=>some (.inr x)
 |_=>none
def Hl:List T->Option (List Key)
 | []=>some []
 |t::r=>(HG t).bind λk=>(Hl r).map (k::·)
theorem D8(e:HG t=some k)(r:AE K F H t u):u=kV k:=by
 unfold HG at e;split at e
 .cases e;exact r
 .cases e;exact r
 .cases e
theorem ED:∀{ts:List T}{us:List V}{ks:List Key},Hl ts=some ks->Ah K F H ts us->us=ks.map kV
 | [],_,_,e,r=>by cases e;exact r
 |t::ts,_,_,e,r=>by simp only[Hl,tE,sR]at e;obtain⟨k,e1,ks,e2,rfl⟩:=e;simp only[Ah]at r;obtain⟨v,w,rfl,r1,r2⟩:=r;rw[sG,ED e2 r2,D8 e1 r1]
def Co{κ:Type}[DecidableEq κ]:List κ->List T->κ->Option T
 |k::ks,t::ts,j=>if k=j then some t else Co ks ts j
 |_,_,_=>none
def E4{κ:Type}[DecidableEq κ](ks:List κ)(ts:List T)(j:κ)(v:T):List κ×List T :=
 if(ks.any λk=>decide (k=j))=true then(ks,List.zipWith (λk t=>if k=j then v else t) ks ts)else(ks++[j],ts++[v])
section
variable{κ:Type}[DecidableEq κ]
theorem Ip:∀{ah:List (κ×V)}{ts:List T}{j:κ},Ah K F H ts (ah.map (·.2))->(Co (ah.map (·.1)) ts j=none/\K0 ah j=none)\/∃t v,Co (ah.map (·.1)) ts j=some t/\K0 ah j=some v/\AE K F H t v
 | [],ts,j,r=>by have h:=r.len;cases ts with|nil=>exact .inl ⟨rfl,rfl⟩|cons t ts=>simp at h
 |(k,v)::ah,ts,j,r=>by
  cases ts with
  |nil =>have h:=r.len;simp at h
  |cons t ts =>
   simp only[sG,Ah]at r;obtain⟨v',w,e,r1,r2⟩:=r;cases e;by_cases hk:k=j
   .refine .inr ⟨t,v,?_,EB hk,r1⟩;simp only[sG,Co];rw[if_pos hk]
   .have e1:Co (((k,v)::ah).map (·.1)) (t::ts) j=Co (ah.map (·.1)) ts j:=by simp only[sG,Co];rw[if_neg hk]
    rw[e1,EC hk];exact Ip r2
theorem NN(q:AE K F H t w):∀{ah:List (κ×V)}{ts:List T},Ah K F H ts (ah.map (·.2)) ->
  Ah K F H (List.zipWith (λk t'=>if k=j then t else t') (ah.map (·.1)) ts) ((ah.map λkv=>if kv.1=j then(kv.1,w)else kv).map (·.2))
 | [],ts,r=>by have h:=r.len;cases ts with|cons t ts=>simp at h|nil=>exact rfl
 |(k,v)::ah,ts,r=>by
  cases ts with
  |nil =>have h:=r.len;simp at h
  |cons t' ts =>
   simp only[sG,Ah]at r;obtain⟨v',w',e,r1,r2⟩:=r;cases e;have ih:=NN q (j:=j) r2;simp only[sG,List.zipWith_cons_cons,Ah];by_cases hk:k=j
   .rw[if_pos hk,if_pos hk];exact⟨w,_,rfl,q,ih⟩
   .rw[if_neg hk,if_neg hk];exact⟨v,_,rfl,r1,ih⟩
theorem FQ(q:AE K F H t w){ah:List (κ×V)}(r:Ah K F H ts (ah.map (·.2))):
  (putK ah j w).map (·.1)=(E4 (ah.map (·.1)) ts j t).1/\Ah K F H (E4 (ah.map (·.1)) ts j t).2 ((putK ah j w).map (·.2)):=by
 have e:((ah.map (·.1)).any λk=>decide (k=j))=(ah.any λkv=>decide (kv.1=j)):=by rw[List.any_map];rfl
 unfold putK E4;rw[e];by_cases h:(ah.any λkv=>decide (kv.1=j))=true
 .rw[if_pos h,if_pos h];refine⟨?_,NN q r⟩;rw[tU];refine List.map_congr_left λp hp=>?_
  show(if p.1=j then(p.1,w)else p).1=p.1;split<;>rfl
 .rw[if_neg h,if_neg h];refine⟨by rw[tf];rfl,?_⟩;rw[tf];exact r.app (Ah.one q)
end
def WJ(fs:FS):Rv->T->Option (Option T)
 |.t (.l ks ts),y=>(HG y).map λk=>Co ks ts k
 |.t (.dF ks ts),y=>(HG y).map λk=>Co ks ts k
 |.t (.dT ks ts),.tup y=>(Hl y).map λk=>Co ks ts k
 |.n i,y=>match AK fs i with
  |some (.l ks ts)=>(HG y).map λk=>Co ks ts k
  |some (.dT ks ts)=>match y with
   |.tup y=>(Hl y).map λk=>Co ks ts k
   |_=>none
  |_=>none
 |_,_=>none
variable{x:Rv}{y:T}{w:V}
theorem PX{o}(h:Okk K F B H fs U)(rx:BL K F H U x u)(ry:AE K F H y w)(e:WJ fs x y=some o):
  ∃a o',u=.ref a/\KW H a w o'/\((o=none/\o'=none)\/∃t v,o=some t/\o'=some v/\AE K F H t v):=by
 have key:∀{a:Addr}{ah:List (Key×V)}{ts:List T},Rd H a (.l ah)->Ah K F H ts (ah.map (·.2))->(HG y).map (λk=>Co (ah.map (·.1)) ts k)=some o ->
   ∃o',KW H a w o'/\((o=none/\o'=none)\/∃t v,o=some t/\o'=some v/\AE K F H t v):=by
  intro a ah ts hd r e;rw[sR]at e;obtain⟨k,ek,eo⟩:=e;have:=D8 ek ry;subst this;refine⟨_,.inl ⟨ah,k,hd,rfl,rfl⟩,?_⟩;rcases Ip r with⟨h1,h2⟩|⟨t,v,h1,h2,h3⟩
  .exact .inl ⟨eo.symm.trans h1,h2⟩
  .exact .inr ⟨t,v,eo.symm.trans h1,h2,h3⟩
 have VT:∀{a:Addr}{ah:List (List Key×V)}{ts ys:List T},H a=some (.dT ah)->Ah K F H ts (ah.map (·.2))->y=.tup ys->(Hl ys).map (λk=>Co (ah.map (·.1)) ts k)=some o ->
   ∃o',KW H a w o'/\((o=none/\o'=none)\/∃t v,o=some t/\o'=some v/\AE K F H t v):=by
  intro a ah ts ys hd r ey e;rw[sR]at e;obtain⟨k,ek,eo⟩:=e;subst ey;simp only[AE]at ry;obtain⟨b,vs,rfl,hb,rb⟩:=ry;have:=ED ek rb;subst this;refine⟨_,KW.t hd hb.2.2,?_⟩;rcases Ip r with⟨h1,h2⟩|⟨t,v,h1,h2,h3⟩
  .exact .inl ⟨eo.symm.trans h1,h2⟩
  .exact .inr ⟨t,v,eo.symm.trans h1,h2,h3⟩
 unfold WJ at e;split at e
 .simp only[BL,AE]at rx;obtain⟨a,ah,rfl,f,hd,rfl,r⟩:=rx;obtain⟨o',h1,h2⟩:=key hd r e;exact⟨a,o',rfl,h1,h2⟩
 .simp only[BL,AE]at rx;obtain⟨a,ah,rfl,f,⟨ob,hd⟩,rfl,r⟩:=rx;obtain⟨o',h1,h2⟩:=key (.inr ⟨ob,hd⟩) r e;exact⟨a,o',rfl,h1,h2⟩
 .simp only[BL,AE]at rx;obtain⟨a,ah,rfl,f,hd,rfl,r⟩:=rx;obtain⟨o',h1,h2⟩:=VT hd r rfl e;exact⟨a,o',rfl,h1,h2⟩
 .rename_i y' i;have e2:U[i]?=some (some u):=rx;split at e
  .rename_i eo;obtain⟨v,L2,e1,q,_⟩:=h.own eo;rw[e1]at e2;have e3:v=u:=by simpa using e2
   subst e3;simp only[Ax]at q;obtain⟨a,ah,rfl,hd,rfl,r,_⟩:=q;obtain⟨o',h1,h2⟩:=key (.inl hd) r e;exact⟨a,o',rfl,h1,h2⟩
  .rename_i eo;split at e
   .obtain⟨v,L2,e1,q,_⟩:=h.own eo;rw[e1]at e2;have e3:v=u:=by simpa using e2
    subst e3;simp only[Ax]at q;obtain⟨a,ah,rfl,hd,rfl,r,_⟩:=q;obtain⟨o',h1,h2⟩:=VT hd r rfl e;exact⟨a,o',rfl,h1,h2⟩
   .cases e
  .cases e
 .cases e
def Pq:Rv->Rv->FS->Out Rv
 |x,.t y,fs=>match WJ fs x y with|some (some t)=>okT t fs|_=>.bad
 |_,_,_=>.bad
def Wi(neg:Bool):Rv->Rv->FS->Out Rv
 |.t y,x,fs=>match WJ fs x y with|some o=>okT (.o (if neg then !o.isSome else o.isSome)) fs|_=>.bad
 |_,_,_=>.bad
variable{i:Expr}{fi:FS->Out Rv}
def Jr:List Str->List T->Str->Option T
 |f::fs,t::ts,g=>if g==f then some t else Jr fs ts g
 |_,_,_=>none
def Ba:List Str->List FO->Str->Option FO
 |f::fs,t::ts,g=>if g==f then some t else Ba fs ts g
 |_,_,_=>none
def Sg(C:Addr)(f:Str):Rv->FS->Out Rv
 |.t (.ins C' fs ts),st=>if C'=C then match Jr fs ts f with|some t=>okT t st|none=>.bad
  else .bad
 |.n i,st=>match AK st i with
  |some (.ins C' fs os)=>if C'=C then match Ba fs os f with|some (.val t)=>okT t st|_=>.bad
   else .bad
  |_=>.bad
 |_,_=>.bad
theorem LO{g}:∀{ah:List (Str×V)}{ts:List T}{t:T},Ah K F H ts (ah.map (·.2))->Jr (ah.map (·.1)) ts g=some t->∃v,ah.lookup g=some v/\AE K F H t v
 | [],ts,t,r,e=>by cases ts<;>simp[Jr]at e
 |(k,v)::ah,ts,t,r,e=>by cases ts with|nil=>simp[Jr]at e|cons t' ts =>simp only[sG,Ah]at r;obtain⟨v',w',ee,r1,r2⟩:=r;cases ee;simp only[sG,Jr]at e;rw[tX];cases hb:g==k with|true =>rw[hb]at e;cases e;exact⟨v,rfl,r1⟩|false =>rw[hb]at e;exact LO r2 (by simpa using e)
theorem Jx{g}:∀{ah:List (Str×V)}{ts:List FO}{L:List Addr}{t:FO},Az K F H ts (ah.map (·.2)) L->Ba (ah.map (·.1)) ts g=some t->∃v L',ah.lookup g=some v/\Ax K F H t v L'/\∀a∈L',a∈L
 | [],ts,L,t,r,e=>by cases ts<;>simp[Ba]at e
 |(k,v)::ah,ts,L,t,r,e=>by cases ts with|nil=>simp[Ba]at e|cons t' ts =>simp only[sG,Az]at r;obtain⟨v',w',L1,L2,ee,r1,r2,rfl⟩:=r;cases ee;simp only[sG,Ba]at e;rw[tX];cases hb:g==k with|true =>rw[hb]at e;cases e;exact⟨v,L1,rfl,r1,λa m=>sX _ m⟩|false =>rw[hb]at e;obtain⟨v2,L',h1,h2,h3⟩:=Jx r2 (by simpa using e);exact⟨v2,L',h1,h2,λa m=>sU _ (h3 a m)⟩
def CL(C:Addr)(f:Str)(fo:FS->Out Rv):FS->Out Rv:=λfs=>(fo fs).bnd λx fs=>Sg C f x fs
variable{C:Addr}{f:Str}
theorem ZH(c:Cls X.K C)(n:A4 X.K C f)(ho:FE X Z o fo)(hb:attributeBase o f X.env (eval o X.env)=eval o X.env:=by rfl):FE X Z (.Attribute o f pos) (CL C f fo):=by
 refine A0 (Fq ho hb) λU H Q ⟨F,B,fs,ok,s⟩=>⟨F,B,fs,ok,AM s λx aj F1 H1 u l au rx s1=>?_⟩
 unfold Sg at s1;split at s1
 .rename_i C' gs ts;split at s1
  .rename_i hC;subst hC;split at s1
   next t e=>simp only[BL,AE]at rx;obtain⟨a,dx,ah,rfl,ff,hd,rfl,r⟩:=rx;obtain⟨v,e1,rv⟩:=LO r e;exact⟨a,C',dx,ah,v,rfl,hd,c,n,e1,s1 F1 H1 v Le.refl (RR.of au rv)⟩
   .exact s1.elim
  .exact s1.elim
 .rename_i i;split at s1
  .rename_i C' gs os eo;split at s1
   .rename_i hC;subst hC;split at s1
    .rename_i t e;obtain⟨v,L2,e1,q,_⟩:=au.own eo;have e2:U[i]?=some (some u):=rx;rw[e1]at e2;have e3:v=u:=by simpa using e2
     subst e3;simp only[Ax]at q;obtain⟨a,dx,ah,L',rfl,hd,rfl,r,_⟩:=q;obtain⟨v2,L3,e4,r4,_⟩:=Jx r e;simp only[Ax]at r4;exact⟨a,C',dx,ah,v2,rfl,hd,c,n,e4,s1 F1 H1 v2 Le.refl (RR.of au r4.2)⟩
    .exact s1.elim
   .exact s1.elim
  .exact s1.elim
 .exact s1.elim
def FN(K:Fg)(Z:Xp)(B:Nat->Option V)(F:Wd)(H:Hp)(o:SO)(D:Ends):Prop:=match o with|.nx fs=>∀F' H' U,Le F H F' H'->Okk K F' B H' fs U->D.nx U H'|.ret r fs=>∀F' H' U u,Le F H F' H'->RR K B U F' H' fs r u->D.rt u H'|.brk fs=>∀F' H' U,Le F H F' H'->Okk K F' B H' fs U->D.bk U H'|.cnt fs=>∀F' H' U,Le F H F' H'->Okk K F' B H' fs U->D.ct U H'|.exc c fs=>Z.p F B H c fs|.bad=>False
def tSt(K:Fg)(Z:Xp)(g:FS->SO):TS:=λD U H=>∃F B fs,Okk K F B H fs U/\FN K Z B F H (g fs) D
def GS(X:Cx)(Z:Xp)(st:Stmt)(g:FS->SO):Prop:=PS X st (tSt X.K Z g)
def GSs(X:Cx)(Z:Xp)(kj:List Stmt)(g:FS->SO):Prop:=PSs X kj (tSt X.K Z g)
theorem FN.le{o}(h:FN K Z B F H o D)(l:Le F H F' H'):FN K Z B F' H' o D:=by
 cases o with
 |nx fs=>exact λF2 H2 U l2 k=>h F2 H2 U (l.trans l2) k
 |ret r fs=>exact λF2 H2 U u l2 k=>h F2 H2 U u (l.trans l2) k
 |brk fs=>exact λF2 H2 U l2 k=>h F2 H2 U (l.trans l2) k
 |cnt fs=>exact λF2 H2 U l2 k=>h F2 H2 U (l.trans l2) k
 |exc c fs=>exact Z.mono h l
 |bad=>exact h
def nxS:FS->SO:=λfs=>.nx fs
def Av(g h:FS->SO):FS->SO:=λfs=>match g fs with|.nx fs=>h fs|o=>o
def SO.of{α:Type}(o:Out α)(k:α->FS->SO):SO:=match o with|.ok a fs=>k a fs|.exc c fs=>.exc c fs|.bad=>.bad
theorem Cr{o}(h:FN K Z B F H (SO.of o k) D)
  (hk:∀a fs F' H' b,Le F H F' H'->R F' H' fs a b->FN K Z B F' H' (k a fs) D->Q b H'):sat Z B R F H o Q:=by
 cases o with
 |ok a fs=>exact λF2 H2 b l r=>hk a fs F2 H2 b l r (FN.le h l)
 |exc c fs=>exact h
 |bad=>exact h
def X0(i:Nat)(r:Rv)(fs:FS):Option FS:=match r with|.t t=>some (fs.set i (some (.val t)))|.nw o=>some (fs.set i (some (.own o)))|.n _=>none
def MV(i:Nat)(r:Rv)(fs:FS):Option FS:=match fs[i]? with|none=>none|some (some (.bor _))=>none|some _=>X0 i r fs
theorem K2{i}{r}(h:RR K B U F H fs r u)(e:MV i r fs=some aq):Okk K F B H aq (U.set i (some u)):=by
 obtain⟨L,L',ok,q,nd,nf⟩:=h;have key:∀s:Option Sl,fs[i]?=some s->(∀o,s≠some (.bor o))->X0 i r fs=some aq->Okk K F B H aq (U.set i (some u)):=by
  intro s es hb e;obtain⟨v,L1,L2,L3,e1,rfl,h1,h2⟩:=ok.sl.pick es;have kI:∀a∈L1++(L'++L3),¬F a/\¬F.p a:=λa m=>by
   rcases sW.mp m with m|m
   .exact⟨ok.nf a (by simp[m]),ok.pl a (by simp[m])⟩
   .rcases sW.mp m with m|m
    .exact nf a m
    .exact⟨ok.nf a (by simp[m]),ok.pl a (by simp[m])⟩
  cases r with
  |t t =>cases e;obtain⟨rfl,q⟩:=q;refine⟨L1++([]++L3),h2 F H (some (.val t)) (some u) [] Le.refl (λ_ _=>rfl) ⟨u,rfl,q,rfl⟩,CJ ok.nd sY (λ_ m=>nomatch m),λa m=>(kI a m).1,ok.fd,?_,ok.pd,ok.pf,λa m=>(kI a m).2⟩;exact FG.put ok.bo (λo eo=>by cases eo) ok.sl.len
  |nw o =>
   cases e;refine⟨L1++(L'++L3),h2 F H (some (.own o)) (some u) L' Le.refl (λ_ _=>rfl) ⟨u,rfl,q⟩,CJ ok.nd (sI.mp nd).2.1 (λa m m2=>(sI.mp nd).2.2 a (by
   rcases sW.mp m2 with m2|m2
   .simp[m2]
   .simp[m2]) a m rfl),λa m=>(kI a m).1,ok.fd,?_,ok.pd,ok.pf,λa m=>(kI a m).2⟩
   exact FG.put ok.bo (λo eo=>by cases eo) ok.sl.len
  |n j=>cases e
 unfold MV at e;split at e
 .cases e
 .cases e
 next s hb es=>exact key s es (λo z=>hb o z) e
def AN(i:Nat)(f:FS->Out Rv):FS->SO:=λfs=>SO.of (f fs) λr fs=>match MV i r fs with|some fs=>.nx fs|none=>.bad
def AH(f:FS->Out Rv):FS->SO:=λfs=>SO.of (f fs) λ_ fs=>.nx fs
def retS(f:FS->Out Rv):FS->SO:=λfs=>SO.of (f fs) λr fs=>.ret r fs
def ifS(c:FS->Out Bool)(g h:FS->SO):FS->SO:=λfs=>SO.of (c fs) λb fs=>if b=true then g fs else h fs
variable{st:Stmt}{rest a b:List Stmt}{f:FS->Out Rv}{fc:FS->Out Bool}{g h:FS->SO}
theorem Ph:GSs X Z [] nxS:=Og UX λD U H ⟨F,B,fs,ok,s⟩=>s F H U Le.refl ok
theorem Mr(h1:GS X Z st g)(h2:GSs X Z rest h):GSs X Z (st::rest) (Av g h):=by
 refine Og (Q1 h1 h2) λD U H ⟨F,B,fs,ok,s⟩=>⟨F,B,fs,ok,?_⟩
 unfold Av at s;cases e:g fs with
 |nx aj =>rw[e]at s;exact λF1 H1 fH l k=>⟨F1,B,aj,k,FN.le s l⟩
 |ret r aj=>rw[e]at s;exact s
 |brk aj=>rw[e]at s;exact s
 |cnt aj=>rw[e]at s;exact s
 |exc c aj=>rw[e]at s;exact s
 |bad=>rw[e]at s;exact s
theorem GF(h1:GS X Z st g):GSs X Z [st] g:=UW h1
theorem V8(he:FE X Z e f)(hs:swapsWith e none pos.line X.env=pure false:=by rfl):GS X Z (.Expr e pos) (AH f) :=
 Cv (UY he hs) λD U H ⟨F,B,fs,ok,s⟩=>⟨F,B,fs,ok,Cr s λr aj F1 H1 u l q s1=>s1 F1 H1 U Le.refl q.ok⟩
theorem Pj(he:FE X Z e f):GS X Z (.Return (some e) pos) (retS f) :=
 Cv (X3 he) λD U H ⟨F,B,fs,ok,s⟩=>⟨F,B,fs,ok,Cr s λr aj F1 H1 u l q s1=>s1 F1 H1 U u Le.refl q⟩
theorem Y5(hc:FT X Z c fc)(ha:GSs X Z a g)(hb:GSs X Z b h):GS X Z (.If c a b pos) (ifS fc g h):=by
 refine Cv (JaP hc ha hb) λD U H ⟨F,B,fs,ok,s⟩=>⟨F,B,fs,ok,Cr s λr aj F1 H1 u l q s1=>?_⟩
 obtain⟨au,rfl⟩:=q;cases u with|true =>rw[if_pos rfl]at s1 ⊢;exact⟨F1,B,aj,au,s1⟩|false =>rw[if_neg (by decide)]at s1 ⊢;exact⟨F1,B,aj,au,s1⟩
theorem XG{i}(s:tSt K Z (AN i f) D U H):Xy (tF K Z f) (Se i) D U H:=by
 obtain⟨F,B,fs,ok,s⟩:=s;refine⟨F,B,fs,ok,Cr s λr aj F1 H1 u l q s1=>?_⟩;split at s1
 next aA e2=>exact s1 F1 H1 _ Le.refl (K2 q e2)
 .exact s1.elim
theorem Kb{x}(i:Nat)(hN:X.N.Nodup)(hx:Loc X.env.scope x)(he:FE X Z e f)(hi:X.N[i]?=some x:=by rfl)(hs:swapsWith e (some (.Name x aU)) pos.line X.env=pure false:=by rfl)(hf:X.fn x=true\/X.env.scope.names.lookup x=some .local:=by first|exact .inl rfl|exact .inr rfl|assumption):
  GS X Z (.Assign [.Name x aU] e pos) (AN i f) :=
 Cv (X2 hN hi hx he hs hf) λ_ _ _ s=>XG s
def tG(K:Fg)(gt:T->FS->Option FS):TG:=λv U H Q=>∃F B fs t,Okk K F B H fs U/\AE K F H t v/\match gt t fs with|some aq=>∀F' H' ar,Le F H F' H'->Okk K F' B H' aq ar->Q ar H'|none=>False
def tGs(K:Fg)(gt:List T->FS->Option FS):TGs:=λvs U H Q=>∃F B fs ts,Okk K F B H fs U/\Ah K F H ts vs/\match gt ts fs with|some aq=>∀F' H' ar,Le F H F' H'->Okk K F' B H' aq ar->Q ar H'|none=>False
def GT(X:Cx)(tg:Expr)(gt:T->FS->Option FS):Prop:=PG X tg (tG X.K gt)
def GTs(X:Cx)(rL:List Expr)(gt:List T->FS->Option FS):Prop:=PGs X rL (tGs X.K gt)
theorem TF(h:PG X e t)(i:∀v U H Q,t' v U H Q->t v U H Q):PG X e t':=λae s U H v u Q I r q=>h ae s U H v u Q I r (i _ _ _ _ q)
theorem Oq{e}(h:PGs X e t)(i:∀v U H Q,t' v U H Q->t v U H Q):PGs X e t':=λae s U H v u Q I r q=>h ae s U H v u Q I r (i _ _ _ _ q)
def tgN(i:Nat):T->FS->Option FS:=λt fs=>MV i (.t t) fs
def AQ:List T->FS->Option FS
 | [],fs=>some fs
 |_,_=>none
def Af(g:T->FS->Option FS)(h:List T->FS->Option FS):List T->FS->Option FS
 |t::ts,fs=>(g t fs).bind λfs=>h ts fs
 |_,_=>none
def AY(n:Nat)(h:List T->FS->Option FS):T->FS->Option FS
 |.tup ts,fs=>if ts.length=n then h ts fs else none
 |_,_=>none
variable{g:T->FS->Option FS}{h:List T->FS->Option FS}
theorem IV{x}(i:Nat)(hN:X.N.Nodup)(hx:Loc X.env.scope x)(hi:X.N[i]?=some x:=by rfl)(hf:X.fn x=true\/X.env.scope.names.lookup x=some .local:=by first|exact .inl rfl|exact .inr rfl|assumption):GT X (.Name x pos) (tgN i):=by
 refine TF (U8 hN hi hx hf) λv U H Q ⟨F,B,fs,t,ok,r,s⟩=>?_
 split at s
 next aq e=>exact s F H _ Le.refl (K2 (RR.of (r:=.t t) ok r) e)
 .exact s.elim
theorem V7:GTs X [] AQ:=by
 refine Oq U7 λv U H Q ⟨F,B,fs,ts,ok,r,s⟩=>?_
 cases ts with|nil=>exact⟨r,s F H U Le.refl ok⟩|cons t ts=>exact s.elim
theorem RT(h1:GT X e g)(h2:GTs X es h)
  (hc:∀{t:TG}{u:TGs},PG X e t->PGs X es u->PGs X (e::es) (Zc t u)):GTs X (e::es) (Af g h):=by
 refine Oq (hc h1 h2) λv U H Q ⟨F,B,fs,ts,ok,r,s⟩=>?_
 cases ts with
 |nil=>exact s.elim
 |cons t ts =>
  simp only[Ah]at r;obtain⟨v',w,rfl,r1,r2⟩:=r;refine⟨v',w,rfl,F,B,fs,t,ok,r1,?_⟩;simp only[Af]at s;cases e1:g t fs with
  |none=>rw[e1]at s;exact s.elim
  |some aj =>
   rw[e1]at s;exact λF1 H1 fH l k=>⟨F1,B,aj,ts,k,r2.le l,by
    simp only[tV]at s;split at s
    .exact λF2 H2 gv l2 k2=>s F2 H2 gv (l.trans l2) k2
    .exact s.elim⟩
theorem Y4(hc:X.calm=true)(h1:GTs X es h)(hn:(assignEach es X.env).length=n:=by rfl)(bK:(assignEach es X.env).findIdx? (·.1)=none:=by rfl):GT X (.Tuple es k pos) (AY n h):=by
 refine TF (Ya hc h1 hn bK) λv U H Q ⟨F,B,fs,t,ok,r,s⟩=>?_
 unfold AY at s;split at s
 .rename_i aq e;split at e
  .rename_i ts;split at e
   next hl=>simp only[AE]at r;obtain⟨a,vs,rfl,hs,r⟩:=r;refine⟨a,vs,rfl,hs.sq,by rw[r.len];exact hl,F,B,fs,ts,ok,r,?_⟩;rw[e];exact s
   .cases e
  .cases e
 .exact s.elim
def Hk(f:FS->Out Rv)(g:T->FS->Option FS):FS->SO:=λfs=>SO.of (f fs) λr fs=>match r with
 |.t t=>match g t fs with|some fs=>.nx fs|none=>.bad
 |_=>.bad
variable{tg:Expr}
theorem Y8(he:FE X Z e f)(hg:GT X tg g)(hs:swapsWithSole [tg] e pos.line X.env=pure false:=by rfl)(hw:swappedStores [tg] e X.env=pure none:=by rfl)
  (h1:(assignEach [tg] X.env).map (·.2)=[assign tg X.env]:=by rfl):GS X Z (.Assign [tg] e pos) (Hk f g):=by
 refine Cv (Tw he hg hs hw h1) λD U H ⟨F,B,fs,ok,s⟩=>⟨F,B,fs,ok,Cr s λr aj F1 H1 u l q s1=>?_⟩
 split at s1
 .rename_i t;obtain⟨L,L',o1,⟨_,q⟩,_⟩:=q;refine⟨F1,B,aj,t,⟨L,o1⟩,q,?_⟩;split at s1
  next aA e2=>exact λF2 H2 gv l2 k2=>s1 F2 H2 gv l2 k2
  .exact s1.elim
 .exact s1.elim
def Nw(K:Fg)(F:Wd)(H:Hp)(F':Wd)(H':Hp):Prop:=Le F H F' H'/\∀B fs U,Okk K F B H fs U->Okk K F' B H' fs U
theorem Nw.refl:Nw K F H F H:=⟨Le.refl,λ_ _ _ h=>h⟩
def JOk(K:Fg)(F:Wd)(H:Hp)(J:It)(ts:List T):Prop:=∀(F':Wd)(H':Hp),(∀a,F a->F' a/\H' a=H a)->(∃B fs U,Okk K F' B H' fs U)->∀i,(∀t,ts[i]?=some t->J.go i H'/\∀x gx,J.yL i H' x gx->∃F'',Nw K F' H' F'' gx/\AE K F'' gx t x)/\(ts.length<=i->J.stop i H')
theorem JOk.within{p}(h:JOk K F H J ts):JOk K ⟨F.f,p⟩ H J ts:=λF2 H2 l2=>h F2 H2 l2
theorem Ah.lf(l:∀a,F a->F' a/\H' a=H a)(r:Ah K F H ts vs):Ah K F' H' ts vs :=
 Ah.le (F:=⟨F.f,λ_=>False⟩) ⟨l,λ_ z=>z.elim⟩ (Ah.wp r)
theorem StL.lf{a}(l:∀a,F a->F' a/\H' a=H a)(r:StL K F H a vs):StL K F' H' a vs:=by
 rcases r with⟨f,h⟩|h
 .exact .inl ⟨(l a f).1,FL.Rd.same h (l a f).2⟩
 .exact .inr h
theorem stays{x}(e:H'=H)(r:AE K F H t x):∃F',Nw K F H F' H'/\AE K F' H' t x:=by subst e;exact⟨F,Nw.refl,r⟩
def RJ(K:Fg)(B:Nat->Option V)(U:St):Wd->Hp->FS->List T->It->Prop:=λF H fs ts J=>Okk K F B H fs U/\JOk K F H J ts
def tI(K:Fg)(Z:Xp)(f:FS->Out (List T)):TI:=λU H R=>∃F B fs,Okk K F B H fs U/\sat Z B (RJ K B U) F H (f fs) R
def FI(X:Cx)(Z:Xp)(tg az:Expr)(f:FS->Out (List T)):Prop:=PI X tg az (tI X.K Z f)
theorem JP(h:PI X tg e t)(i:∀U H Q,t' U H Q->t U H Q):PI X tg e t':=λae s U H Q I q=>h ae s U H Q I (i _ _ _ q)
def signs(z:Str):List T:=z.cps.toList.map λc=>T.str ⟨#[c]⟩
def upTo(lo:Int)(n:Nat):List T:=(List.range n).map λi=>T.int (lo+(i:Nat))
def O6(f:FS->Out (List Rv)):FS->Out (List T):=λfs=>(f fs).bind λrs fs=>match rs with| [.t (.int j)]=>if -(2^62)<=j/\j<2^62 then .ok (upTo 0 j.toNat) fs else .bad|_=>.bad
variable{l a b:Expr}
theorem Mj{a:Addr}(hs:∀(F':Wd) H',(∀a,F a->F' a/\H' a=H a)->SqL K H' a vs)(r:Ah K F H ts vs):JOk K F H (Itl K a) ts:=by intro F' H' l _ i;refine⟨λt et=>?_,λhl=>⟨vs,hs F' H' l,by rw[r.len];exact hl⟩⟩;obtain⟨v,ev,rv⟩:=(Ah.lf l r).at et;refine⟨⟨vs,v,hs F' H' l,ev⟩,λx gx hy=>stays hy.1 ?_⟩;have:=hy.2 vs (hs F' H' l);rw[ev]at this;cases this;exact rv
theorem VX{a:Addr}(hs:∀(F':Wd) H',(∀a,F a->F' a/\H' a=H a)->SqT K H' a vs)(r:Ah K F H ts vs):JOk K F H (Itt K a) ts:=by intro F' H' l _ i;refine⟨λt et=>?_,λhl=>⟨vs,hs F' H' l,by rw[r.len];exact hl⟩⟩;obtain⟨v,ev,rv⟩:=(Ah.lf l r).at et;refine⟨⟨vs,v,hs F' H' l,ev⟩,λx gx hy=>stays hy.1 ?_⟩;have:=hy.2 vs (hs F' H' l);rw[ev]at this;cases this;exact rv
theorem O2:JOk K F H (Itr lo n) (upTo lo n):=by
 intro F' H' l _ i;refine⟨λt et=>?_,λhl=>by unfold upTo at hl;simpa[Itr]using hl⟩;unfold upTo at et;rw[tO]at et;have hi:i<n:=by
  by_cases h:i<n
  .exact h
  .rw[ua (by simpa using h)]at et;cases et
 rw[uO hi]at et;cases et;exact⟨hi,λx gx hy=>stays hy.1 hy.2⟩
theorem VY:JOk K F H (Its z) (signs z):=by
 intro F' H' l _ i;refine⟨λt et=>?_,λhl=>by unfold signs at hl;simpa[Its]using hl⟩;unfold signs at et;rw[tO,sR]at et;obtain⟨c,ec,rfl⟩:=et;have hi:=by have:=(sS.mp ec).1;simpa using this
 refine⟨hi,λx gx hy=>stays hy.1 ?_⟩;obtain⟨c',e1,e2⟩:=hy.2;rw[uL]at ec;rw[ec]at e1;cases e1;exact e2
theorem Py(hm:X.mg "range"=none)(ha:FA X Z [a] fa)(hg:Gl X "range":=by rfl)(hs:starEach [a] X.env=[(false,eval a X.env)]:=by rfl):FI X Z tg (.Call (.Name "range" p) [a] [] pos) (O6 fa):=by
 refine JP (Oo hg hm ha hs) λU H Q ⟨F,B,fs,ok,s⟩=>⟨F,B,fs,ok,AJ s λrs aj F1 H1 us l q s1=>?_⟩
 obtain⟨au,q⟩:=q;split at s1
 .rename_i j;split at s1
  next hj=>obtain⟨v,rfl,qq⟩:=Bh q;cases qq;exact⟨j,rfl,hj.1,hj.2,s1 F1 H1 _ Le.refl ⟨au,O2⟩⟩
  .exact s1.elim
 .exact s1.elim
def DX(gt:T->FS->Option FS)(body:FS->SO):List T->FS->SO
 | [],fs=>.nx fs
 |t::ts,fs=>match gt t fs with|none=>.bad|some fs=>match body fs with|.nx fs=>DX gt body ts fs|.cnt fs=>DX gt body ts fs|.brk fs=>.nx fs|o=>o
def Dr(src:FS->Out (List T))(gt:T->FS->Option FS)(body:FS->SO):FS->SO:=λfs=>SO.of (src fs) λts fs=>DX gt body ts fs
variable{az:Expr}{src:FS->Out (List T)}{gt:T->FS->Option FS}{g:FS->SO}{body:List Stmt}
theorem Y6(hp:PassesOwn (model X.prog X.w) X.A X.env X.xe)(hc:X.calm=true)(hi:FI X Z tg az src)(hg:GT X tg gt)(hb:GSs X Z body g)
  (hs:∀x,foldedSetIterable az X.env x=pure x:=by intro _;rfl):GS X Z (.For tg az body [] pos) (Dr src gt g):=by
 refine Cv (X4 hp hc hi hg hb hs) λD U H ⟨F,B,fs,ok,s⟩=>⟨F,B,fs,ok,Cr s λts aj F1 H1 J l q s1=>?_⟩
 obtain⟨au,jk⟩:=q;refine⟨λi m U H=>m=ts.length-i/\∃F' aq,Le F1 H1 F' H/\Okk X.K F' B H aq U/\FN X.K Z B F' H (DX gt g (ts.drop i) aq) D,⟨ts.length,rfl,F1,aj,Le.refl,au,s1⟩,?_⟩
 rintro i m U H ⟨rfl,F2,aA,l2,aQ,s2⟩
 by_cases hi:i<ts.length
 .refine .inr ?_;rw[(uS hi)]at s2;obtain⟨j1,j2⟩:=(jk F2 H l2.f ⟨_,_,_,aQ⟩ i).1 _ (sL hi);refine⟨j1,λar H'=>∃F' aq,Le F1 H1 F' H'/\Okk X.K F' B H' aq ar/\FN X.K Z B F' H' (DX gt g (ts.drop (i+1)) aq) D,λar H' h=>⟨ts.length-(i+1),by omega,rfl,h⟩,λx H' hy=>?_⟩;obtain⟨nY,⟨nv,nw⟩,rx⟩:=j2 x H' hy;replace l2:=l2.trans nv;replace s2:=FN.le s2 nv;replace aQ:=nw _ _ _ aQ;refine⟨nY,B,aA,ts[i],aQ,rx,?_⟩;simp only[DX]at s2;cases eg:gt ts[i] aA with
  |none=>rw[eg]at s2;exact s2.elim
  |some dZ =>
   rw[eg]at s2;intro F3 H3 fJ l3 fE;refine⟨F3,B,dZ,fE,?_⟩;have s3:=FN.le s2 l3;simp only at s3;cases eb:g dZ with
   |nx dG =>rw[eb]at s3;exact λF4 H4 mC l4 gn=>⟨F4,dG,(l2.trans l3).trans l4,gn,FN.le s3 l4⟩
   |cnt dG =>rw[eb]at s3;exact λF4 H4 mC l4 gn=>⟨F4,dG,(l2.trans l3).trans l4,gn,FN.le s3 l4⟩
   |brk dG=>rw[eb]at s3;exact s3
   |ret r dG=>rw[eb]at s3;exact s3
   |exc c dG=>rw[eb]at s3;exact s3
   |bad=>rw[eb]at s3;exact s3
 .refine .inl ⟨(jk F2 H l2.f ⟨_,_,_,aQ⟩ i).2 (by omega),?_⟩;rw[List.drop_eq_nil_of_le (by omega)]at s2;exact s2 F2 H U Le.refl aQ
def Cd(c:FS->Out Bool)(body:FS->SO):Nat->FS->SO
 |0,_=>.bad
 |n+1,fs=>SO.of (c fs) λb fs=>if b=true then(match body fs with|.nx fs=>Cd c body n fs|.cnt fs=>Cd c body n fs|.brk fs=>.nx fs|o=>o)else .nx fs
theorem RV(n:Nat)(hp:PassesOwn (model X.prog X.w) X.A X.env X.xe)(hc:FT X Z c fc)(hb:GSs X Z body g):GS X Z (.While c body [] pos) (Cd fc g n):=by
 refine Cv (Q2 hp hc hb) λD U H ⟨F,B,fs,ok,s⟩=>?_
 refine⟨λm ar H'=>∃F' aq,Le F H F' H'/\Okk X.K F' B H' aq ar/\FN X.K Z B F' H' (Cd fc g m aq) D,⟨n,F,fs,Le.refl,ok,s⟩,?_⟩
 rintro m fH H1 ⟨F1,aj,l1,au,s1⟩
 cases m with
 |zero=>exact s1.elim
 |succ m =>
  refine⟨F1,B,aj,au,Cr s1 λb aA F2 H2 b' l2 q s2=>?_⟩;obtain⟨aQ,rfl⟩:=q;cases b' with
  |false =>rw[if_neg (by decide)]at s2 ⊢;exact s2 F2 H2 fH Le.refl aQ
  |true =>
   rw[if_pos rfl]at s2 ⊢;refine⟨λar H'=>∃F' aq,Le F H F' H'/\Okk X.K F' B H' aq ar/\FN X.K Z B F' H' (Cd fc g m aq) D,λar H' h=>⟨m,by omega,h⟩,F2,B,aA,aQ,?_⟩;cases eb:g aA with
   |nx dG =>rw[eb]at s2;exact λF4 H4 mC l4 gn=>⟨F4,dG,(l1.trans l2).trans l4,gn,FN.le s2 l4⟩
   |cnt dG =>rw[eb]at s2;exact λF4 H4 mC l4 gn=>⟨F4,dG,(l1.trans l2).trans l4,gn,FN.le s2 l4⟩
   |brk dG=>rw[eb]at s2;exact s2
   |ret r dG=>rw[eb]at s2;exact s2
   |exc c dG=>rw[eb]at s2;exact s2
   |bad=>rw[eb]at s2;exact s2
variable{L:List Addr}
theorem Aw.toP:∀{fs:FS}{U:St}{L:List Addr},Aw K F H fs U L->∃bD:Nat->List Addr,(∀i s,fs[i]?=some s->∃v,U[i]?=some v/\LK K F H s v (bD i))/\(∀i a,a∈bD i->a∈L) /\
  (L.Nodup->(∀i,(bD i).Nodup)/\∀i j a,i≠j->a∈bD i->a∉bD j)/\∀i,fs.length<=i->bD i=[]
 | [],U,L,h=>⟨λ_=>[],(λi s e=>by simp at e),(λi a m=>nomatch m),(λ_=>⟨λ_=>sY,(λ_ _ _ _ m=>nomatch m)⟩),λ_ _=>rfl⟩
 |s::r,U,L,h=>by
  obtain⟨v,ar,L1,L2,rfl,h1,h2,rfl⟩:=h.HE;obtain⟨bD,q1,q2,q3,q4⟩:=Aw.toP h2;refine⟨λi=>match i with|0=>L1|i+1=>bD i,λi s' e=>?_,λi a m=>?_,λnd=>?_,λi hi=>?_⟩
  .cases i with|zero =>simp at e;subst e;exact⟨v,rfl,h1⟩|succ i =>obtain⟨w,e1,e2⟩:=q1 i s' (by simpa using e);exact⟨w,by simpa using e1,e2⟩
  .cases i with|zero=>exact sX _ m|succ i=>exact sU _ (q2 i a m)
  .rw[sI]at nd;obtain⟨n1,n2,n3⟩:=nd;obtain⟨m1,m2⟩:=q3 n2;refine⟨λi=>?_,λi j a gS hi hj=>?_⟩
   .cases i with|zero=>exact n1|succ i=>exact m1 i
   .cases i with
    |zero =>cases j with|zero=>exact gS rfl|succ j=>exact n3 a hi a (q2 j a hj) rfl
    |succ i =>cases j with|zero=>exact n3 a hj a (q2 i a hi) rfl|succ j=>exact m2 i j a (λe=>gS (by rw[e])) hi hj
  .cases i with|zero=>simp at hi|succ i=>exact q4 i (by simpa using hi)
theorem Aw.ofP:∀{fs:FS}{U:St}(bD:Nat->List Addr),U.length=fs.length->(∀i s,fs[i]?=some s->∃v,U[i]?=some v/\LK K F H s v (bD i))->(∀i,(bD i).Nodup)->(∀i j a,i≠j->a∈bD i->a∉bD j) ->
  ∃L,Aw K F H fs U L/\L.Nodup/\∀a∈L,∃i,i<fs.length/\a∈bD i
 | [],U,bD,hl,h,nd,dj=>by have:=ur (by simpa using hl);subst this;exact⟨[],⟨rfl,rfl⟩,sY,λ_ m=>nomatch m⟩
 |s::r,[],bD,hl,h,nd,dj=>by simp at hl
 |s::r,v::U,bD,hl,h,nd,dj=>by
  obtain⟨L,h1,h2,h3⟩:=Aw.ofP (U:=U) (λi=>bD (i+1)) (by simpa using hl) (λi s' e=>by obtain⟨w,e1,e2⟩:=h (i+1) s' (by simpa using e);exact⟨w,by simpa using e1,e2⟩) (λi=>nd (i+1)) (λi j a gS=>dj (i+1) (j+1) a (by omega));obtain⟨w,e1,e2⟩:=h 0 s rfl;simp at e1;subst e1;refine⟨bD 0++L,Aw.cons e2 h1,?_,λa m=>?_⟩
  .rw[sI];refine⟨nd 0,h2,λa ha b hb e=>?_⟩;obtain⟨i,_,hi⟩:=h3 b hb;exact dj 0 (i+1) a (by omega) ha (by rw[e];exact hi)
  .rcases sW.mp m with m|m
   .exact⟨0,by simp,m⟩
   .obtain⟨i,hi,q⟩:=h3 a m;exact⟨i+1,by simp;exact hi,q⟩
theorem Ok.take(h:Ok K F B H fs U L)(n:Nat):∃L',Ok K F B H (fs.take n) (U.take n) L'/\∀a∈L',a∈L:=by
 obtain⟨bD,q1,q2,q3,q4⟩:=h.sl.toP;obtain⟨n1,n2⟩:=q3 h.nd;obtain⟨L',p1,p2,p3⟩:=Aw.ofP (U:=U.take n) bD (by rw[uh,uh,h.sl.len]) (λi s e=>by
  have hi:i<n:=by have:=(sS.mp e).1;rw[uh]at this;omega
  rw[uT hi]at e ⊢;exact q1 i s e) n1 n2
 have sub:=λa m=>let⟨i,_,q⟩:=p3 a m;q2 i a q
 refine⟨L',⟨p1,p2,λa m=>h.nf a (sub a m),h.fd,λi o e=>?_,h.pd,h.pf,λa m=>h.pl a (sub a m)⟩,sub⟩;have hi:i<n:=by have:=(sS.mp e).1;rw[uh]at this;omega
 rw[uT hi]at e ⊢;exact h.bo i o e
theorem RR.take{r}(h:RR K B U F H fs r u)(n:Nat)(hr:∀i,r≠.n i):RR K B (U.take n) F H (fs.take n) r u:=by
 obtain⟨L,L',ok,q,nd,nf⟩:=h;obtain⟨L2,aQ,sub⟩:=ok.take n;refine⟨L2,L',aQ,?_,?_,nf⟩
 .cases r with|t t=>exact q|nw o=>exact q|n i=>exact(hr i rfl).elim
 .rw[sI]at nd ⊢;exact⟨aQ.nd,nd.2.1,λa ha b hb=>nd.2.2 a (sub a ha) b hb⟩
theorem Ok.more(h:Ok K F B H fs U L)(n:Nat):Ok K F B H (fs++List.replicate n none) (U++List.replicate n none) L:=by
 have key:∀n:Nat,Aw K F H (List.replicate n none) (List.replicate n none) []:=by
  intro n
  induction n with|zero=>exact⟨rfl,rfl⟩|succ n ih =>rw[uC,uC];simp only[Aw];exact⟨none,_,rfl,ih⟩
 have app:∀{fs gs:FS}{U τ:St}{L M:List Addr},Aw K F H fs U L->Aw K F H gs τ M->Aw K F H (fs++gs) (U++τ) (L++M):=by
  intro fs
  induction fs with|nil =>intro gs U τ L M h1 h2;simp only[Aw]at h1;obtain⟨rfl,rfl⟩:=h1;exact h2|cons s r ih =>intro gs U τ L M h1 h2;obtain⟨v,ar,L1,L2,rfl,q1,q2,rfl⟩:=h1.HE;have:=Aw.cons q1 (ih q2 h2);simpa using this
 refine⟨by simpa using app h.sl (key n),h.nd,h.nf,h.fd,λi o e=>?_,h.pd,h.pf,h.pl⟩;by_cases hi:i<fs.length
 .rw[uR hi]at e;obtain⟨v,e1,e2⟩:=h.bo i o e;exact⟨v,by rw[uR (by rw[h.sl.len];exact hi)];exact e1,e2⟩
 .rw[List.getElem?_append_right (by omega)]at e;have:=uc e;simp at this
theorem RR.mv{i}{o}(q:RR K B U F H fs (.n i) u)(es:fs[i]?=some (some (.own o))):RR K B U F H (fs.set i none) (.nw o) u:=by
 obtain⟨L,L',o1,⟨_,q⟩,nd,nf⟩:=q;obtain⟨v,L1,L2,L3,e1,rfl,h1,h2⟩:=o1.sl.pick es;obtain⟨w,rfl,q2⟩:=h1;rw[e1]at q;have eu:w=u:=by simpa using q
 subst eu;have h3:=h2 F H none (some w) [] Le.refl (λ_ _=>rfl) rfl;rw[BM e1]at h3;have dg:=o1.nd;refine⟨L1++([]++L3),L2,⟨h3,CJ dg sY (λ_ m=>nomatch m),λa m=>o1.nf a ?_,o1.fd,?_,o1.pd,o1.pf,λa m=>o1.pl a ?_⟩,q2,?_,λa m=>⟨o1.nf a (by simp[m]),o1.pl a (by simp[m])⟩⟩
 .have m':=by simpa using m
  rcases m' with m|m<;>simp[m]
 .have:=FG.put (i:=i) (s:=none) (v:=some w) o1.bo (λo eo=>by cases eo) o1.sl.len;rwa[BM e1]at this
 .have m':=by simpa using m
  rcases m' with m|m<;>simp[m]
 .have p:(L1++(L2++L3)).Perm ((L1++([]++L3))++L2):=by rw[tS,tR];exact List.Perm.append_left _ List.perm_append_comm
  exact p.nodup_iff.mp dg
inductive Ini where
 |no|val (t:T)|slot (j:Nat)|new (o:FO)
def V2(fs:FS):Ini->Option Sl
 |.no=>none
 |.val t=>some (.val t)
 |.new o=>some (.bor o)
 |.slot j=>match fs[j]? with|some (some (.val t))=>some (.val t)|some (some (.own o))=>some (.bor o)|some (some (.bor o))=>some (.bor o)|_=>none
def B1(fs:FS)(is:List Ini):FS:=is.map (V2 fs)
def BO(fs:FS):Ini->Option Nat
 |.slot j=>if(AK fs j).isSome=true then some j else none
 |_=>none
def Dc(fs:FS)(is:List Ini):List Nat:=is.filterMap (BO fs)
def placeOf(fs:FS)(j:Nat):List Ini->Nat->Option Nat
 | [],_=>none
 |i::r,k=>if BO fs i=some j then some k else placeOf fs j r (k+1)
def LH(fs:FS)(is:List Ini)(τ:FS)(j:Nat)(s:Option Sl):Option (Option Sl):=match placeOf fs j is 0 with|none=>some s|some k=>match τ[k]?,s with|some (some (.bor o)),some s=>some (some (s.put o))|_,_=>none
def Hz(fs:FS)(is:List Ini)(τ:FS):Nat->FS->Option FS
 |_,[]=>some []
 |j,s::r=>match LH fs is τ j s,Hz fs is τ (j+1) r with|some s',some r'=>some (s'::r')|_,_=>none
def D3(is:List Ini)(τ fs:FS):Option FS:=Hz fs is τ 0 fs
theorem placeOf_some:∀{is:List Ini}{k k':Nat},placeOf fs j is k=some k'->k<=k'/\∃i,is[k'-k]?=some i/\BO fs i=some j
 | [],_,_,e=>by simp[placeOf]at e
 |i::r,k,k',e=>by
  simp only[placeOf]at e;split at e
  next h=>cases e;exact⟨sV _,i,by simp,h⟩
  .obtain⟨h1,i',h2,h3⟩:=placeOf_some e;refine⟨by omega,i',?_,h3⟩;rw[show k'-k=(k'-(k+1))+1 by omega];simpa using h2
theorem placeOf_none:∀{is:List Ini}{k:Nat},placeOf fs j is k=none->j∉Dc fs is
 | [],_,_,h=>by simp[Dc]at h
 |i::r,k,e,h=>by
  simp only[placeOf]at e;split at e
  .cases e
  .rename_i hn;unfold Dc at h;rw[ug]at h;cases q:BO fs i with
   |none =>rw[q]at h;exact placeOf_none e h
   |some j' =>
    rw[q]at h;rcases sQ.mp h with h|h
    .exact hn (by rw[q,h])
    .exact placeOf_none e h
theorem J4:∀{is:List Ini}{k k':Nat}{i i':Ini}{j:Nat},(Dc fs is).Nodup->is[k]?=some i->is[k']?=some i'->BO fs i=some j->BO fs i'=some j->k=k'
 | [],_,_,_,_,_,_,e,_,_,_=>by simp at e
 |i0::r,k,k',i,i',j,nd,e,e',h,h'=>by
  have mem:∀{m:Nat}{x:Ini},r[m]?=some x->BO fs x=some j->j∈Dc fs r:=λhm hx=>uQ.mpr ⟨_,uc hm,hx⟩
  unfold Dc at nd;rw[ug]at nd;cases k with
  |zero =>simp at e;subst e;rw[h]at nd;have i3:=nd;cases k' with|zero=>rfl|succ k'=>exact((tu.mp i3).1 (mem (by simpa using e') h')).elim
  |succ k =>cases k' with|zero =>simp at e';subst e';rw[h']at nd;have i3:=nd;exact((tu.mp i3).1 (mem (by simpa using e) h)).elim|succ k' =>exact congrArg (·+1) (J4 (by cases q:BO fs i0 with|none=>rw[q]at nd;exact nd|some j'=>rw[q]at nd;exact(tu.mp nd).2) (by simpa using e) (by simpa using e') h h')
theorem MJ:∀{r r':FS}{j:Nat},Hz fs is τ j r=some r'->r'.length=r.length/\∀i s,r[i]?=some s->∃s',r'[i]?=some s'/\LH fs is τ (j+i) s=some s'
 | [],_,_,e=>by simp only[Hz]at e;cases e;exact⟨rfl,λi s q=>by simp at q⟩
 |s::r,_,j,e=>by
  simp only[Hz]at e;split at e
  next s' r' h1 h2=>cases e;obtain⟨q1,q2⟩:=MJ h2;refine⟨by simp[q1],λi s0 q=>?_⟩;cases i with|zero =>simp at q;subst q;exact⟨s',rfl,h1⟩|succ i =>obtain⟨s1,e1,e2⟩:=q2 i s0 (by simpa using q);exact⟨s1,by simpa using e1,by rw[show j+(i+1)=j+1+i by omega];exact e2⟩
  .cases e
def W8(K:Fg)(F:Wd)(H:Hp)(U:St)(i:Ini)(v:Option V)(M:List Addr):Prop:=match i with|.no=>True|.val t=>∃u,v=some u/\AE K F H t u|.slot j=>U[j]?=some v|.new o=>∃u,v=some u/\Ax K F H o u M
structure Mu(F:Wd)(H:Hp)(L:List Addr)(μ:Nat->List Addr):Prop where
 out:∀k a,a∈μ k->¬F a/\¬F.p a/\a∉L/\H a≠none
 nd:∀k,(μ k).Nodup
 dj:∀k k' a,k≠k'->a∈μ k->a∉μ k'
theorem Mu.no:Mu F H L (λ_=>[]):=⟨(λ_ _ m=>nomatch m),λ_=>sY,(λ_ _ _ _ m=>nomatch m)⟩
theorem lend(ok:Ok K F B H fs U L)(hl:σi.length=is.length)(hi:∀(k:Nat)(i:Ini)(v:Option V),is[k]?=some i->σi[k]?=some v->W8 K F H U i v (μ k))(nd:(Dc fs is).Nodup)(fC:Mu F H L μ):
  ∃P:Addr->Prop,(∀a,F.p a->P a)/\Okk K ⟨F.f,P⟩ (λk=>(σi[k]?).join) H (B1 fs is) σi/\(∀a,P a->H a≠none) /\
   ∀(F2:Wd)(H2:Hp)(τ:FS)(gv:St)(Li:List Addr)(aq:FS),Le ⟨F.f,P⟩ H F2 H2->Ok K F2 (λk=>(σi[k]?).join) H2 τ gv Li->D3 is τ fs=some aq ->
    Le F H ⟨F2.f,F.p⟩ H2/\∃L,Ok K ⟨F2.f,F.p⟩ B H2 aq U L/\∀a∈L,a∈Li\/P a:=by
 obtain⟨bD,q1,q2,q3,q4⟩:=ok.sl.toP;obtain⟨n1,n2⟩:=q3 ok.nd;have kb:∀j,(AK fs j).isSome=true->∃o s,AK fs j=some o/\fs[j]?=some (some s)/\(s=.own o\/s=.bor o):=by
  intro j hj;unfold AK at hj ⊢;split at hj
  next o es=>exact⟨o,_,rfl,es,.inl rfl⟩
  next o es=>exact⟨o,_,rfl,es,.inr rfl⟩
  .cases hj
 refine⟨λa=>F.p a\/∃j,a∈bD j/\j∉Dc fs is,λa p=>.inl p,?_,λa p=>?_,?_⟩
 .
  obtain⟨L',p1,p2,p3⟩:=Aw.ofP (fs:=B1 fs is) (U:=σi) (λk=>match is[k]? with|some i=>(match BO fs i with|some j=>bD j|none=>(match i with|.new _=>μ k|_=>[]))|none=>[]) (by unfold B1;rw[sH];exact hl)
   (λk s e=>by
    unfold B1 at e;rw[tO,sR]at e;obtain⟨i,ei,rfl⟩:=e;have hk:k<σi.length:=by rw[hl];exact(sS.mp ei).1
    refine⟨σi[k],sL hk,?_⟩;have io:=hi k i _ ei (sL hk);simp only[ei];have lw:∀(t:T)(u:V),AE K F H t u->AE K ⟨F.f,λa=>F.p a\/∃j,a∈bD j/\j∉Dc fs is⟩ H t u:=λt u r=>AE.wp r
    cases i with
    |no=>rfl
    |val t =>obtain⟨u,eu,r⟩:=io;exact⟨u,eu,lw t u r,rfl⟩
    |new o =>obtain⟨u,eu,r⟩:=io;exact⟨u,eu,Ax.wp r⟩
    |slot j =>
     have ej:U[j]?=some σi[k]:=io;simp only[V2,BO];cases es:fs[j]? with
     |none =>
      have:AK fs j=none:=by unfold AK;rw[es]
      rw[this];rfl
     |some s =>
      obtain⟨v,e1,e2⟩:=q1 j s es;rw[ej]at e1;cases e1;cases s with
      |none =>
       have:AK fs j=none:=by unfold AK;rw[es]
       rw[this];rfl
      |some s =>
       cases s with
       |val t =>
        have:AK fs j=none:=by unfold AK;rw[es]
        rw[this];obtain⟨u,eu,r,_⟩:=e2;exact⟨u,eu,lw t u r,rfl⟩
       |own o =>
        have:AK fs j=some o:=by unfold AK;rw[es]
        rw[this];obtain⟨u,eu,r⟩:=e2;exact⟨u,eu,Ax.wp r⟩
       |bor o =>
        have:AK fs j=some o:=by unfold AK;rw[es]
        rw[this];obtain⟨u,eu,r⟩:=e2;exact⟨u,eu,Ax.wp r⟩)
   (λk=>by
    try dsimp only
    split
    .split
     .exact n1 _
     .split
      .exact fC.nd _
      .exact sY
    .exact sY)
   (λk k' a hk ha hb=>by
    try dsimp only at ha hb
    split at ha
    .rename_i i ei;split at ha
     .rename_i j ej;split at hb
      .rename_i i' iH;split at hb
       .rename_i j' mP;by_cases e:j=j'
        .subst e;exact hk (J4 nd ei iH ej mP)
        .exact n2 j j' a e ha hb
       .split at hb
        .exact(fC.out _ a hb).2.2.1 (q2 j a ha)
        .cases hb
      .cases hb
     .split at ha
      .split at hb
       .split at hb
        next j' mP=>exact(fC.out _ a ha).2.2.1 (q2 j' a hb)
        .split at hb
         .exact fC.dj k k' a hk ha hb
         .cases hb
       .cases hb
      .cases ha
    .cases ha)
  have mem:∀a∈L',(∃j,j∈Dc fs is/\a∈bD j)\/∃k,a∈μ k:=λa m=>by
   obtain⟨k,_,q⟩:=p3 a m
   try dsimp only at q
   split at q
   .rename_i i ei;split at q
    next j ej=>exact .inl ⟨j,uQ.mpr ⟨i,uc ei,ej⟩,q⟩
    .split at q
     .exact .inr ⟨k,q⟩
     .cases q
   .cases q
  refine⟨L',p1,p2,λa m=>?_,ok.fd,λk o e=>?_,λa p=>?_,λa f p=>?_,λa m p=>?_⟩
  .rcases mem a m with⟨j,_,q⟩|⟨k,q⟩
   .exact ok.nf a (q2 j a q)
   .exact(fC.out k a q).1
  .unfold B1 at e;rw[tO,sR]at e;obtain⟨i,ei,e⟩:=e;have hk:k<σi.length:=by rw[hl];exact(sS.mp ei).1
   cases i with
   |no=>cases e
   |val t=>cases e
   |new o' =>obtain⟨u,eu,_⟩:=hi k _ _ ei (sL hk);exact⟨u,by rw[sL hk,eu],by show(σi[k]?).join=some u;rw[sL hk,eu];rfl⟩
   |slot j =>
    simp only[V2]at e;have:∃o s,fs[j]?=some (some s)/\(s=.own o\/s=.bor o):=by
     split at e
     .cases e
     next o' es=>exact⟨o',_,es,.inl rfl⟩
     next o' es=>exact⟨o',_,es,.inr rfl⟩
     .cases e
    obtain⟨o',s,es,hs⟩:=this;obtain⟨v,e1,e2⟩:=q1 j _ es;rw[(hi k _ _ ei (sL hk))]at e1;cases e1;obtain⟨u,eu⟩:∃u,σi[k]=some u:=by
     rcases hs with rfl|rfl
     .exact⟨_,e2.choose_spec.1⟩
     .exact⟨_,e2.choose_spec.1⟩
    exact⟨u,by rw[sL hk,eu],by show(σi[k]?).join=some u;rw[sL hk,eu];rfl⟩
  .rcases p with p|⟨j,p,_⟩
   .exact ok.pd a p
   .exact ok.sl.def a (q2 j a p)
  .rcases p with p|⟨j,p,_⟩
   .exact ok.pf a f p
   .exact ok.nf a (q2 j a p) f
  .rcases mem a m with⟨j,hj,q⟩|⟨k,q⟩
   .rcases p with p|⟨j',p,hj'⟩
    .exact ok.pl a (q2 j a q) p
    .by_cases e:j=j'
     .subst e;exact hj' hj
     .exact n2 j j' a e q p
   .rcases p with p|⟨j',p,hj'⟩
    .exact(fC.out k a q).2.1 p
    .exact(fC.out k a q).2.2.1 (q2 j' a p)
 .rcases p with p|⟨j,p,_⟩
  .exact ok.pd a p
  .exact ok.sl.def a (q2 j a p)
 .
  intro F2 H2 τ gv Li aq l aQ eb;have le:Le F H ⟨F2.f,F.p⟩ H2:=⟨λa f=>l.f a f,λa f=>⟨f,(l.p a (.inl f)).2⟩⟩
  obtain⟨kn,r1,r2,r3,r4⟩:=aQ.sl.toP;obtain⟨m1,m2⟩:=r3 aQ.nd;obtain⟨b1,b2⟩:=MJ eb;have fg:∀j a,a∈bD j->j∉Dc fs is->F2.p a/\H2 a=H a:=λj a q hj=>l.p a (.inr ⟨j,q,hj⟩)
  refine⟨le,?_⟩;obtain⟨L',p1,p2,p3⟩:=Aw.ofP (U:=U) (λj=>match placeOf fs j is 0 with|some k=>kn k|none=>bD j) (by rw[b1];exact ok.sl.len)
   (λj s' e=>by
    have hj:j<fs.length:=by rw[<- b1];exact(sS.mp e).1
    obtain⟨s1,e1,e2⟩:=b2 j fs[j] (sL hj);rw[e]at e1;cases e1;rw[Nat.zero_add]at e2;obtain⟨v,e3,e4⟩:=q1 j fs[j] (sL hj);refine⟨v,e3,?_⟩;unfold LH at e2;cases ep:placeOf fs j is 0 with
    |none =>rw[ep]at e2;cases e2;exact LK.le le (λa m=>(fg j a m (placeOf_none ep)).2) e4
    |some k =>
     rw[ep]at e2;obtain⟨_,i,ei,cg⟩:=placeOf_some ep;rw[Nat.sub_zero]at ei;dsimp only at e2 ⊢;split at e2
     .rename_i o s et es;cases e2;obtain⟨w,e5,e6⟩:=r1 k _ et;obtain⟨u,e7,e8⟩:=aQ.bo k o et;rw[e5]at e7;cases e7;have ij:i=.slot j:=by
       cases i with
       |no=>cases cg
       |val t=>cases cg
       |new o=>cases cg
       |slot j' =>
        simp only[BO]at cg;split at cg
        .cases cg;rfl
        .cases cg
      subst ij;have hk:k<σi.length:=by rw[hl];exact(sS.mp ei).1
      have io:U[j]?=some σi[k]:=hi k _ _ ei (sL hk);rw[e3]at io;cases io;have e9:(σi[k]?).join=some u:=e8;rw[sL hk]at e9;have kX:σi[k]=some u:=by simpa using e9
      rw[kX];obtain⟨u',eu,ro⟩:=e6;cases eu;have ob:∃o0,s=.own o0\/s=.bor o0:=by
       simp only[BO]at cg;split at cg
       next qG=>obtain⟨o0,s0,_,mS,gY⟩:=kb j qG;rw[sL hj,es]at mS;cases mS;exact⟨o0,gY⟩
       .cases cg
      obtain⟨o0,ob⟩:=ob;have jg:Ax K ⟨F2.f,F.p⟩ H2 o u (kn k):=Ax.wp ro;rcases ob with rfl|rfl
      .exact⟨u,rfl,jg⟩
      .exact⟨u,rfl,jg⟩
     .cases e2)
   (λj=>by
    try dsimp only
    split
    .exact m1 _
    .exact n1 _)
   (λj j' a hj ha hb=>by
    try dsimp only at ha hb
    split at ha
    .rename_i k ek;split at hb
     .rename_i k' ic;by_cases e:k=k'
      .subst e;obtain⟨_,i,ei,h1⟩:=placeOf_some ek;obtain⟨_,i',iH,h2⟩:=placeOf_some ic;rw[ei]at iH;cases iH;rw[h1]at h2;cases h2;exact hj rfl
      .exact m2 k k' a e ha hb
     next ic=>exact aQ.pl a (r2 k a ha) (fg j' a hb (placeOf_none ic)).1
    .rename_i ek;split at hb
     next k' ic=>exact aQ.pl a (r2 k' a hb) (fg j a ha (placeOf_none ek)).1
     .exact n2 j j' a hj ha hb)
  have src:∀a∈L',(a∈Li/\¬F2.p a)\/∃j,a∈bD j/\j∉Dc fs is:=λa m=>by
   obtain⟨j,_,q⟩:=p3 a m
   try dsimp only at q
   split at q
   next k ek=>exact .inl ⟨r2 k a q,aQ.pl a (r2 k a q)⟩
   next ek=>exact .inr ⟨j,q,placeOf_none ek⟩
  refine⟨L',⟨p1,p2,λa m f=>?_,λa f=>aQ.fd a f,λj o e=>?_,λa p=>?_,λa f p=>?_,λa m p=>?_⟩,λa m=>?_⟩
  .rcases src a m with⟨q,_⟩|⟨j,q,hj⟩
   .exact aQ.nf a q f
   .exact aQ.pf a f (fg j a q hj).1
  .have hj:j<fs.length:=by rw[<- b1];exact(sS.mp e).1
   obtain⟨s1,e1,e2⟩:=b2 j fs[j] (sL hj);rw[e]at e1;cases e1;rw[Nat.zero_add]at e2;have:∃o',fs[j]?=some (some (.bor o')):=by
    unfold LH at e2;split at e2
    .exact⟨o,by rw[sL hj];exact e2⟩
    .split at e2
     next o1 s et es=>cases s with|val t=>cases e2|own o2=>cases e2|bor o2=>exact⟨o2,by rw[sL hj,es]⟩
     .cases e2
   obtain⟨o',eo⟩:=this;exact ok.bo j o' eo
  .rw[(l.p a (.inl p)).2];exact ok.pd a p
  .exact aQ.pf a f (l.p a (.inl p)).1
  .rcases src a m with⟨_,q⟩|⟨j,q,hj⟩
   .exact q (l.p a (.inl p)).1
   .exact ok.pl a (q2 j a q) p
  .rcases src a m with⟨q,_⟩|⟨j,q,hj⟩
   .exact .inl q
   .exact .inr (.inr ⟨j,q,hj⟩)
def Bof(U:St):Nat->Option V:=λk=>(U[k]?).join
def spF(K:Fg)(p:Nat)(Fn:FS->Out Rv):Sp:=λvs H Q _=>vs.length=p/\∃F dm,Okk K F (Bof (vs.map some)) H dm (vs.map some)/\match Fn dm with|.ok r τ=>∀F' H' u ar,Le F H F' H'->RR K (Bof (vs.map some)) ar F' H' τ r u->Q u H'|_=>False
def Bo(n:Nat)(g:FS->SO):FS->Out Rv:=λargs=>match g (args++List.replicate n none)with
 |.nx τ=>.ok (.t .v) (τ.take args.length)
 |.ret (.t t) τ=>.ok (.t t) (τ.take args.length)
 |.ret (.nw o) τ=>.ok (.nw o) (τ.take args.length)
 |.ret (.n i) τ=>match τ[i]? with|some (some (.own o))=>.ok (.nw o) ((τ.set i none).take args.length)|_=>.bad
 |.exc c τ=>.exc c (τ.take args.length)
 |_=>.bad
variable{P:Program}{w:World}{mg:Str->Option Value}{base:Heap}
def Bj:Rv->Ini
 |.t t=>.val t
 |.n i=>.slot i
 |.nw o=>.new o
def S3(Fn:FS->Out Rv)(rs:List Rv)(fs:FS):Out Rv :=
 if(Dc fs (rs.map Bj)).Nodup then(match Fn (B1 fs (rs.map Bj))with|.ok (.t t) τ=>(match D3 (rs.map Bj) τ fs with|some aq=>.ok (.t t) aq|none=>.bad)|.ok (.nw o) τ=>(match D3 (rs.map Bj) τ fs with|some aq=>.ok (.nw o) aq|none=>.bad)|_=>.bad)else .bad
theorem Jn.len:∀{rs:List Rv}{vs:List V},Jn K F H U rs vs->vs.length=rs.length
 | [],_,h=>by cases h;rfl
 |r::rs,_,h=>by obtain⟨v,w,rfl,h1,h2⟩:=h;simp[Jn.len h2]
def Fm(K:Fg)(F:Wd)(H:Hp)(U:St):List Rv->List V->List Addr->Prop
 | [],vs,L=>vs=[]/\L=[]
 |r::rs,vs,L=>∃v w L1 L2,vs=v::w/\NL K F H U r v L1/\Fm K F H U rs w L2/\L=L1++L2
def RAn(K:Fg)(B:Nat->Option V)(U:St):Wd->Hp->FS->List Rv->List V->Prop:=λF H fs rs vs=>∃L M,Ok K F B H fs U L/\Fm K F H U rs vs M/\(L++M).Nodup/\∀a∈M,¬F a/\¬F.p a
def tAn(K:Fg)(Z:Xp)(f:FS->Out (List Rv)):TA:=λU H Q=>∃F B fs,Okk K F B H fs U/\sat Z B (RAn K B U) F H (f fs) Q
def FAn(X:Cx)(Z:Xp)(es:List Expr)(f:FS->Out (List Rv)):Prop:=PA X es (tAn X.K Z f)
def Ad(f:FS->Out Rv)(g:FS->Out (List Rv)):FS->Out (List Rv):=λfs=>(f fs).bind λr fs=>(g fs).bind λrs fs=>.ok (r::rs) fs
variable{rs:List Rv}{Q:VK}{Fn:FS->Out Rv}{E:XK}
theorem Fm.len:∀{rs:List Rv}{vs:List V}{M:List Addr},Fm K F H U rs vs M->vs.length=rs.length
 | [],_,_,h=>by obtain⟨rfl,_⟩:=h;rfl
 |r::rs,_,_,h=>by obtain⟨v,w,L1,L2,rfl,_,h,_⟩:=h;simp[Fm.len h]
theorem NL.def{r}(h:NL K F H U r v L):∀a∈L,H a≠none:=by
 cases r with
 |t t=>obtain⟨rfl,_⟩:=h;exact λa m=>nomatch m
 |nw o=>exact Ax.def h
 |n i=>obtain⟨rfl,_⟩:=h;exact λa m=>nomatch m
theorem NL.lf{r}(l:∀a,F a->F' a/\H' a=H a)(k:∀a∈L,H' a=H a)(h:NL K F H U r v L):NL K F' H' U r v L:=by cases r with|t t=>exact⟨h.1,AE.le (F:=⟨F.f,λ_=>False⟩) ⟨l,λ_ z=>z.elim⟩ (AE.wp h.2)⟩|nw o=>exact Ax.le (F:=⟨F.f,λ_=>False⟩) ⟨l,λ_ z=>z.elim⟩ k (Ax.wp h)|n i=>exact h
theorem Fm.lf(l:∀a,F a->F' a/\H' a=H a):∀{rs:List Rv}{vs:List V}{M:List Addr},(∀a∈M,H' a=H a)->Fm K F H U rs vs M->Fm K F' H' U rs vs M
 | [],_,_,_,h=>h
 |r::rs,_,_,k,h=>by obtain⟨v,w,L1,L2,e,h1,h2,rfl⟩:=h;exact⟨v,w,L1,L2,e,h1.lf l λa m=>k a (sX _ m),Fm.lf l (λa m=>k a (sU _ m)) h2,rfl⟩
theorem Fm.toP:∀{rs:List Rv}{vs:List V}{M:List Addr},Fm K F H U rs vs M->∃μ:Nat->List Addr,(∀k r,rs[k]?=some r->∃v,vs[k]?=some v/\NL K F H U r v (μ k))/\(∀k a,a∈μ k->a∈M/\H a≠none) /\
  (M.Nodup->(∀k,(μ k).Nodup)/\∀i j a,i≠j->a∈μ i->a∉μ j)
 | [],_,_,h=>⟨λ_=>[],(λk r e=>by simp at e),(λ_ _ m=>nomatch m),λ_=>⟨λ_=>sY,(λ_ _ _ _ m=>nomatch m)⟩⟩
 |r::rs,_,_,h=>by
  obtain⟨v,w,L1,L2,rfl,h1,h2,rfl⟩:=h;obtain⟨μ,q1,q2,q3⟩:=Fm.toP h2;refine⟨λi=>match i with|0=>L1|i+1=>μ i,λk r' e=>?_,λk a m=>?_,λnd=>?_⟩
  .cases k with|zero =>simp at e;subst e;exact⟨v,rfl,h1⟩|succ k =>obtain⟨u,e1,e2⟩:=q1 k r' (by simpa using e);exact⟨u,by simpa using e1,e2⟩
  .cases k with|zero=>exact⟨sX _ m,h1.def a m⟩|succ k=>exact⟨sU _ (q2 k a m).1,(q2 k a m).2⟩
  .rw[sI]at nd;obtain⟨n1,n2,n3⟩:=nd;obtain⟨m1,m2⟩:=q3 n2;refine⟨λi=>?_,λi j a gS hi hj=>?_⟩
   .cases i with|zero=>exact n1|succ i=>exact m1 i
   .cases i with
    |zero =>cases j with|zero=>exact gS rfl|succ j=>exact n3 a hi a (q2 j a hj).1 rfl
    |succ i =>cases j with|zero=>exact n3 a hj a (q2 i a hi).1 rfl|succ j=>exact m2 i j a (λe=>gS (by rw[e])) hi hj
theorem Pb(q:RAn K B U F H fs rs vs):∃L μ,Ok K F B H fs U L/\Mu F H L μ/\(vs.map some).length=(rs.map Bj).length/\∀(k:Nat)(i:Ini)(v:Option V),(rs.map Bj)[k]?=some i->(vs.map some)[k]?=some v->W8 K F H U i v (μ k):=by obtain⟨L,M,ok,q,nd,nf⟩:=q;obtain⟨μ,q1,q2,q3⟩:=q.toP;rw[sI]at nd;obtain⟨m1,m2⟩:=q3 nd.2.1;refine⟨L,μ,ok,⟨λk a m=>⟨(nf a (q2 k a m).1).1,(nf a (q2 k a m).1).2,λz=>nd.2.2 a z a (q2 k a m).1 rfl,(q2 k a m).2⟩,m1,m2⟩,by simp[q.len],λk i v e1 e2=>?_⟩;rw[tO,sR]at e1 e2;obtain⟨r,er,rfl⟩:=e1;obtain⟨u,eu,rfl⟩:=e2;obtain⟨u',e3,rr⟩:=q1 k r er;rw[eu]at e3;cases e3;cases r with|t t=>exact⟨u,rfl,rr.2⟩|nw o=>exact⟨u,rfl,rr⟩|n i=>exact rr.2
theorem RAn.len(q:RAn K B U F H fs rs vs):vs.length=rs.length:=by obtain⟨L,M,ok,q,_⟩:=q;exact q.len
theorem S0(q:RAn K B U F H fs rs vs)(s:sat Z B (RR K B U) F H (S3 Fn rs fs) Q):spF K rs.length Fn vs H Q E:=by
 unfold S3 at s;split at s
 .rename_i nd;obtain⟨L9,μ,ok,fC,hl,hi⟩:=Pb q;obtain⟨Pp,p1,p2,p3,p4⟩:=lend ok hl hi nd fC;refine⟨q.len,⟨F.f,Pp⟩,B1 fs (rs.map Bj),p2,?_⟩;split at s
  .rename_i t τ e;rw[e];split at s
   next aq eb=>intro F' H' u ar l k;obtain⟨Li,L',o1,⟨_,r⟩,_⟩:=k;obtain⟨le,L,o2,_⟩:=p4 F' H' τ ar Li aq l o1 eb;exact s ⟨F'.f,F.p⟩ H' u le (RR.of ⟨L,o2⟩ (AE.wp r))
   .exact s.elim
  .rename_i o τ e;rw[e];split at s
   .rename_i aq eb;intro F' H' u ar l k;obtain⟨Li,L',o1,r,nd,nf⟩:=k;obtain⟨le,L,o2,sub⟩:=p4 F' H' τ ar Li aq l o1 eb;refine s ⟨F'.f,F.p⟩ H' u le ⟨L,L',o2,Ax.wp r,?_,λa m=>⟨(nf a m).1,λp=>(nf a m).2 (l.p a (p1 a p)).1⟩⟩;rw[sI]at nd ⊢;refine⟨o2.nd,nd.2.1,λa ha b hb e=>?_⟩;rcases sub a ha with z|z
    .exact nd.2.2 a z b hb e
    .exact(nf b hb).2 (l.p b (e▸z)).1
   .exact s.elim
  .exact s.elim
 .exact s.elim
variable{g:FS->Out (List Rv)}
theorem Lz:FAn X Z [] Ai:=Mc HP λU H Q ⟨F,B,fs,⟨L,ok⟩,s⟩=>s F H [] Le.refl ⟨L,[],ok,⟨rfl,rfl⟩,by simpa using ok.nd,(λ_ m=>nomatch m)⟩
theorem Mq{Q}{r}{R2:Wd->Hp->FS->γ->δ->Prop}(q:RR K B U F1 H1 aj r u)(s1:sat Z B R2 F1 H1 ((g aj).bind k) Q)
  (hk:∀rs aA F2 H2 us,Le F1 H1 F2 H2->RAn K B U F2 H2 aA (r::rs) (u::us)->sat Z B R2 F2 H2 (k rs aA) Q->Q' us H2):tAn K Z g U H1 Q':=by
 obtain⟨L,L1,o1,r1,nd,nf⟩:=q;have j8:=sI.mp nd;have nA:Le F1 H1 ⟨F1.f,λa=>F1.p a\/a∈L1⟩ H1:=⟨λa f=>⟨f,rfl⟩,λa f=>⟨.inl f,rfl⟩⟩
 refine⟨⟨F1.f,λa=>F1.p a\/a∈L1⟩,B,aj,⟨L,o1.sl.le nA λ_ _=>rfl,o1.nd,o1.nf,o1.fd,o1.bo,λa p=>?_,λa f p=>?_,λa m p=>?_⟩,?_⟩
 .rcases p with p|p
  .exact o1.pd a p
  .exact r1.def a p
 .rcases p with p|p
  .exact o1.pf a f p
  .exact(nf a p).1 f
 .rcases p with p|p
  .exact o1.pl a m p
  .exact j8.2.2 a m a p rfl
 .cases eg:g aj with
  |bad=>rw[eg]at s1;exact s1.elim
  |exc c t=>rw[eg]at s1;exact Z.mono s1 nA
  |ok rs aA =>
   rw[eg]at s1;intro F2 H2 us l2 q2;obtain⟨L2,M2,o2,r2,i4,l9⟩:=q2;have je:Le F1 H1 ⟨F2.f,F1.p⟩ H2:=⟨λa f=>l2.f a f,λa f=>⟨f,(l2.p a (.inl f)).2⟩⟩
   have hp:∀a∈L1,F2.p a/\H2 a=H1 a:=λa m=>l2.p a (.inr m)
   have j6:=sI.mp i4;refine hk rs aA ⟨F2.f,F1.p⟩ H2 us je ⟨L2,L1++M2,⟨Aw.wp o2.sl,o2.nd,o2.nf,o2.fd,o2.bo,λa f=>by rw[(je.p a f).2];exact o1.pd a f,λa f p=>o2.pf a f (l2.p a (.inl p)).1,λa m p=>o2.pl a m (l2.p a (.inl p)).1⟩,⟨u,us,L1,M2,rfl,NL.lf (F:=F1) (F':=⟨F2.f,F1.p⟩) (H:=H1) (H':=H2) (λa f=>l2.f a f) (λa m=>(hp a m).2) r1,Fm.lf (F:=F2) (F':=⟨F2.f,F1.p⟩) (λa f=>⟨f,rfl⟩) (λ_ _=>rfl) r2,rfl⟩,?_,λa m=>?_⟩ (sat.le s1 je)
   .rw[sI];refine⟨o2.nd,?_,λa ha b hb e=>?_⟩
    .rw[sI];exact⟨j8.2.1,j6.2.1,λa ha b hb e=>(l9 b hb).2 (e▸(hp a ha).1)⟩
    .rcases sW.mp hb with hb|hb
     .exact o2.pl a ha (e▸(hp b hb).1)
     .exact j6.2.2 a ha b hb e
   .rcases sW.mp m with m|m
    .exact⟨λf=>o2.pf a f (hp a m).1,(nf a m).2⟩
    .exact⟨(l9 a m).1,λp=>(l9 a m).2 (l2.p a (.inl p)).1⟩
theorem Ed(ha:FE X Z e f)(hr:FAn X Z es g)(hs:starEach (e::es) X.env=(false,eval e X.env)::starEach es X.env:=by rfl):FAn X Z (e::es) (Ad f g) :=
 Mc (Dt ha hr hs) λU H Q ⟨F,B,fs,ok,s⟩=>⟨F,B,fs,ok,AJ s λr aj F1 H1 u l q s1=>Mq q s1 λrs aA F2 H2 us _ ra s2=>s2 F2 H2 (u::us) Le.refl ra⟩
variable{x m:Str}{k p:Nat}{ps:List Str}{pp:Pos}
def Qe(p:Nat)(Fn:FS->Out Rv):List Rv->FS->Out Rv:=λrs fs=>if rs.length=p then S3 Fn rs fs else .bad
def DU(C:Addr)(m:Str)(fs:FS):Rv->Bool
 |.t (.ins C' gs _)=>decide (C'=C)&&!gs.any (·==m)
 |.n i=>match AK fs i with|some (.ins C' gs _)=>decide (C'=C)&&!gs.any (·==m)|_=>false
 |_=>false
theorem Gx{ah:List (Str×V)}(h:((ah.map (·.1)).any (·==m))=false):ah.lookup m=none:=by
 induction ah with
 |nil=>rfl
 |cons p r ih =>
  rw[sG,uG,Bool.or_eq_false_iff]at h;obtain⟨k,v⟩:=p;rw[tX];have:(m==k)=false:=by have h1:=h.1;rw[beq_eq_false_iff_ne]at h1 ⊢;exact λe=>h1 e.symm
  rw[this];exact ih h.2
theorem Mp{r}(ok:Okk K F B H fs U)(q:BL K F H U r u)(h:DU C m fs r=true):∃a dx ah,u=.ref a/\H a=some (.ins C dx ah)/\ah.lookup m=none:=by
 unfold DU at h;split at h
 next C' gs ts=>rw[tH]at h;have hC:=tJ h.1;subst hC;simp only[BL,AE]at q;obtain⟨a,dx,ah,rfl,f,hd,rfl,r⟩:=q;exact⟨a,dx,ah,rfl,hd,Gx (by simpa using h.2)⟩
 .rename_i i;split at h
  .rename_i C' gs os eo;rw[tH]at h;have hC:=tJ h.1;subst hC;obtain⟨v,L2,e1,q2,_⟩:=ok.own eo;have e2:U[i]?=some (some u):=q;rw[e1]at e2;have e3:v=u:=by simpa using e2
   subst e3;simp only[Ax]at q2;obtain⟨a,dx,ah,L',rfl,hd,rfl,_⟩:=q2;exact⟨a,dx,ah,rfl,hd,Gx (by simpa using h.2)⟩
  .cases h
 .cases h
def Hx(C:Addr)(m:Str)(p:Nat)(Fn:FS->Out Rv)(fo:FS->Out Rv)(fa:FS->Out (List Rv)):FS->Out Rv:=λfs=>(fo fs).bnd λx fs=>if DU C m fs x=true then(fa fs).bind λrs fs=>Qe p Fn (x::rs) fs else .bad
def E7(C:Addr)(p:Nat)(Fn:FS->Out Rv)(rs:List Rv)(fs:FS):Out Rv :=
 if(Dc fs (rs.map Bj)).Nodup/\rs.length+1=p then(match Fn (some (.bor (.ins C [] []))::B1 fs (rs.map Bj))with|.ok (.t .v) (some (.bor o)::τ)=>(match D3 (rs.map Bj) τ fs with|some aq=>.ok (.nw o) aq|none=>.bad)|_=>.bad)else .bad
theorem Rz(q:RAn K B U F H fs rs vs)(s:sat Z B (RR K B U) F H (E7 C p Fn rs fs) Q)
  {x dx:Addr} (hx:H x=none) (ql:H dx=none) (bV:dx≠x):spF K p Fn (.ref x::vs) (upd (upd H dx (.own x)) x (.ins C dx [])) (λv H2=>v=.v/\Q (.ref x) H2) E:=by
 unfold E7 at s;split at s
 .rename_i hh;obtain⟨nd,hp⟩:=hh;obtain⟨L9,μ,ok,fC,hl,hi⟩:=Pb q;obtain⟨Pp,p1,⟨L0,p2⟩,p3,p4⟩:=lend ok hl hi nd fC;have l0:∀a,H a≠none->(upd (upd H dx (.own x)) x (.ins C dx [])) a=H a:=λa h=>by rw[Ap (λe=>h (by rw[e];exact hx)),Ap (λe=>h (by rw[e];exact ql))]
  have ny:Le ⟨F.f,Pp⟩ H ⟨F.f,Pp⟩ (upd (upd H dx (.own x)) x (.ins C dx [])):=⟨λa f=>⟨f,l0 a (p2.fd a f)⟩,λa f=>⟨f,l0 a (p3 a f)⟩⟩
  refine⟨by rw[tj,q.len];exact hp,⟨F.f,Pp⟩,some (.bor (.ins C [] []))::B1 fs (rs.map Bj),?_,?_⟩
  .refine⟨[x]++L0,Aw.cons ⟨.ref x,rfl,?_⟩ (p2.sl.le ny λa m=>l0 a (p2.sl.def a m)),?_,λa m=>?_,λa f=>?_,λi o e=>?_,λa f=>?_,p2.pf,λa m=>?_⟩
   .simp only[Ax];exact⟨x,dx,[],[],rfl,As,rfl,⟨rfl,rfl⟩,rfl⟩
   .rw[sI];exact⟨by simp,p2.nd,λa ha b hb e=>p2.sl.def b hb (by rw[<- e,sZ.mp ha];exact hx)⟩
   .rcases sW.mp m with m|m
    .rw[sZ.mp m];exact λf=>p2.fd x f hx
    .exact p2.nf a m
   .rw[l0 a (p2.fd a f)];exact p2.fd a f
   .cases i with|zero=>exact⟨.ref x,rfl,rfl⟩|succ i=>exact p2.bo i o (by simpa using e)
   .rw[l0 a (p3 a f)];exact p3 a f
   .rcases sW.mp m with m|m
    .rw[sZ.mp m];exact λf=>p3 x f hx
    .exact p2.pl a m
  .split at s
   .rename_i o τ e;rw[e];split at s
    .rename_i aq eb;intro F' H' u ar l k;obtain⟨oQ,L',o1,⟨_,r⟩,_⟩:=k;refine⟨r,?_⟩;obtain⟨v,gv,L1,L2,rfl,h1,h2,rfl⟩:=o1.sl.HE;obtain⟨w,rfl,ro⟩:=h1;obtain⟨w',e3,e4⟩:=o1.bo 0 o rfl;have ew:w=.ref x:=by have z1:some (some w)=some (some w'):=e3;have z2:some (V.ref x)=some w':=e4;cases z1;cases z2;rfl
     subst ew;have dg:=sI.mp o1.nd;have l':Le ⟨F.f,Pp⟩ H F' H':=ny.trans l;obtain⟨le,L,o3,sub⟩:=p4 F' H' τ gv L2 aq l' (⟨h2,dg.2.1,λa m=>o1.nf a (sU _ m),o1.fd,λi ob eo=>by obtain⟨v,z1,z2⟩:=o1.bo (i+1) ob (by simpa using eo);exact⟨v,by simpa using z1,by have z3:(((V.ref x::vs).map some)[i+1]?).join=some v:=z2;simpa[Bof]using z3⟩,o1.pd,o1.pf,λa m=>o1.pl a (sU _ m)⟩) eb;refine s ⟨F'.f,F.p⟩ H' (.ref x) le ⟨L,L1,o3,Ax.wp ro,?_,λa m=>⟨o1.nf a (sX _ m),λp=>o1.pl a (sX _ m) (l'.p a (p1 a p)).1⟩⟩;rw[sI];refine⟨o3.nd,dg.1,λa ha b hb e=>?_⟩;rcases sub a ha with z|z
     .exact dg.2.2 b hb a z e.symm
     .exact o1.pl b (sX _ hb) (l'.p b (e▸z)).1
    .exact s.elim
   .exact s.elim
 .exact s.elim
def CY(gt:T->FS->Option FS)(ft:FS->Out Bool)(fe:FS->Out Rv):List T->FS->List T->Option (List T×FS)
 | [],τ,ax=>some (ax,τ)
 |t::ts,τ,ax=>match gt t τ with|none=>none|some τ=>match ft τ with|.ok true τ=>(match fe τ with|.ok (.t v) τ=>if ax.length<big then CY gt ft fe ts τ (ax++[v])else none|_=>none)|.ok false τ=>CY gt ft fe ts τ ax|_=>none
def E1:FS->Out Bool:=λfs=>.ok true fs
def Ck(new:Bool)(src:List (Option Nat))(fi:FS->Out (List T))(gt:T->FS->Option FS)(ft:FS->Out Bool)(fe:FS->Out Rv):FS->Out Rv:=λfs=>(fi fs).bind λts fs =>if(Dc fs (src.map λo=>o.elim Ini.no Ini.slot)).Nodup/\(src.all λo=>o.elim true λj=>decide (j<fs.length))=true then(match CY gt ft fe ts (B1 fs (src.map λo=>o.elim Ini.no Ini.slot)) []with|some (vs,τ)=>(match D3 (src.map λo=>o.elim Ini.no Ini.slot) τ fs with|some aq=>if new=true then .ok (.nw (.lst vs)) aq else .ok (.t (.lst vs)) aq|none=>.bad)|none=>.bad)else .bad
def FIf(X:Cx)(cF:List Expr)(ft:FS->Out Bool):Prop:=Uu X cF (tT X.K Xp.no ft)
theorem Q8{e}(h:Uu X e t)(i:∀U H Q,t' U H Q->t U H Q):Uu X e t':=λae s U H Q I q=>h ae s U H Q I (i _ _ _ q)
theorem Wo:FIf X [] E1:=Q8 Q7 λU H Q ⟨F,B,fs,ok,s⟩=>s F H true Le.refl ⟨ok,rfl⟩
theorem Wn(h:FT X Xp.no c ft):FIf X [c] ft:=Q6 h
theorem Okk.hide{o}(h:Okk K F B H fs U)(hp:H p=none):Okk K ⟨F.f,λa=>F.p a\/a=p⟩ B (upd H p o) fs U:=by
 obtain⟨L,h⟩:=h;have l:Le F H ⟨F.f,λa=>F.p a\/a=p⟩ (upd H p o):=⟨λa f=>⟨f,Ap λe=>h.fd a f (e▸hp)⟩,λa f=>⟨.inl f,Ap λe=>h.pd a f (e▸hp)⟩⟩
 refine⟨L,h.sl.le l (h.VU hp),h.nd,h.nf,λa q=>DO (h.fd a q),h.bo,λa q=>?_,λa f q=>?_,λa m q=>?_⟩
 .rcases q with q|q
  .exact DO (h.pd a q)
  .rw[q,As];simp
 .rcases q with q|q
  .exact h.pf a f q
  .exact h.fd a f (q▸hp)
 .rcases q with q|q
  .exact h.pl a m q
  .exact h.sl.def a m (q▸hp)
theorem Okk.upP{o}(h:Okk K F B H fs U)(hp:F.p p):Okk K F B (upd H p o) fs U:=by
 obtain⟨L,h⟩:=h;have hf:∀a,F a->(upd H p o) a=H a:=λa f=>Ap λe=>h.pf a f (e▸hp)
 have l:Le ⟨F.f,λ_=>False⟩ H ⟨F.f,F.p⟩ (upd H p o):=⟨λa f=>⟨f,hf a f⟩,λa f=>f.elim⟩
 refine⟨L,(Aw.wp h.sl).le l λa m=>Ap λe=>h.pl a m (e▸hp),h.nd,h.nf,λa q=>DO (h.fd a q),h.bo,λa q=>DO (h.pd a q),h.pf,h.pl⟩
theorem Ah.upP{o}(h:Okk K F B H fs U)(hp:F.p p)(r:Ah K F H ts vs):Ah K F (upd H p o) ts vs:=by
 obtain⟨L,h⟩:=h;have l:Le ⟨F.f,λ_=>False⟩ H ⟨F.f,F.p⟩ (upd H p o):=⟨λa f=>⟨f,Ap λe=>h.pf a f (e▸hp)⟩,λa f=>f.elim⟩
 exact Ah.le l (Ah.wp r)
variable{N:List Str}{sc:Scope}{dk:Expr}{cF:List Expr}{fi:FS->Out (List T)}{ft:FS->Out Bool}{fe:FS->Out Rv}
inductive CI(K:Fg)(W:Wd)(H1:Hp)(D:Addr)(Bc:Nat->Option V)(gt:T->FS->Option FS)(ft:FS->Out Bool)(fe:FS->Out Rv)(r:List T×FS)(l:List T)(bJ:St)(H2:Hp):Prop
 |mk (F2:Wd) (τ:FS) (ax:List T) (ys:List V) (l2:Le W H1 F2 H2) (pD:F2.p D) (aQ:Okk K F2 Bc H2 τ bJ) (fQ:H2 D=some (.lst ys)) (cI:Ah K F2 H2 ax ys) (ec:CY gt ft fe l τ ax=some r):CI K W H1 D Bc gt ft fe r l bJ H2
theorem CI.put{l}{r}{y}(nP:¬W.p D)(j3:Le W H1 F6 H6)(p6:F6.p D)(o6:Ok K F6 Bc H6 τ3 bJ L6)(kf:Ah K F6 H6 ax ys)(rv:AE K F6 H6 v y)
  (bj:CY gt ft fe l τ3 (ax++[v])=some r):CI K W H1 D Bc gt ft fe r l bJ (upd H6 D (.lst (ys++[y]))) :=
 .mk F6 τ3 (ax++[v]) (ys++[y]) ⟨λa f=>⟨(j3.f a f).1,by rw[Ap λe=>o6.pf a (j3.f a f).1 (by rw[e];exact p6)];exact(j3.f a f).2⟩,λa f=>⟨(j3.p a f).1,by rw[Ap λe=>nP (by rw[<- e];exact f)];exact(j3.p a f).2⟩⟩
  p6 (Okk.upP ⟨L6,o6⟩ p6) As (Ah.upP ⟨L6,o6⟩ p6 (kf.app (Ah.one rv))) bj
theorem CI.one{l}{r}(nP:¬W.p D)(kF:Le W H1 F5 H5)(p5:F5.p D)(kK:Okk K F5 Bc H5 dQ bJ)(qf:H5 D=some (.lst ys))(iD:Ah K F5 H5 ax ys)
  (bj:(match fe dQ with|.ok (.t v) τ=>if ax.length<big then CY gt ft fe l τ (ax++[v])else none|_=>none)=some r) :
  tF K Xp.no fe bJ H5 λy H6=>∃ys,H6 D=some (.lst ys)/\ys.length<sizeLine/\CI K W H1 D Bc gt ft fe r l bJ (upd H6 D (.lst (ys++[y]))):=by
 refine⟨F5,Bc,dQ,kK,?_⟩;cases ee:fe dQ with
 |exc c τ3=>rw[ee]at bj;cases bj
 |bad=>rw[ee]at bj;cases bj
 |ok w τ3 =>
  rw[ee]at bj;cases w with
  |nw o=>cases bj
  |n o=>cases bj
  |t v =>
   dsimp only at bj;by_cases hlen:ax.length<big
   .rw[if_pos hlen]at bj;intro F6 H6 y l6 q6;obtain⟨L6,rV,o6,⟨_,rv⟩,_⟩:=q6;have p6:=l6.p D p5;exact⟨ys,p6.2.trans qf,by rw[iD.len];exact um hlen Fx,CI.put nP (kF.trans l6) p6.1 o6 (iD.le l6) rv bj⟩
   .rw[if_neg hlen]at bj;cases bj
theorem CI.turn{l}{r}{x}(nP:¬W.p D)(l2:Le W H1 F3 H3)(pD:F3.p D)(aQ:Okk K F3 Bc H3 τ bJ)(fQ:H3 D=some (.lst ys))(cI:Ah K F3 H3 ax ys)
  (bj:CY gt ft fe (t::l) τ ax=some r) (rx:AE K F3 H3 t x) :
  tG K gt x bJ H3 λdQ H4=>tT K Xp.no ft dQ H4 λb H5=>if b=true then tF K Xp.no fe dQ H5 λy H6=>∃ys,H6 D=some (.lst ys)/\ys.length<sizeLine/\CI K W H1 D Bc gt ft fe r l dQ (upd H6 D (.lst (ys++[y])))else CI K W H1 D Bc gt ft fe r l dQ H5:=by
 simp only[CY]at bj;refine⟨F3,Bc,τ,t,aQ,rx,?_⟩;cases eg:gt t τ with|none=>rw[eg]at bj;cases bj|some τ1 =>rw[eg]at bj;intro F4 H4 nX l4 gn;refine⟨F4,Bc,τ1,gn,?_⟩;dsimp only at bj;cases et:ft τ1 with|exc c dQ=>rw[et]at bj;cases bj|bad=>rw[et]at bj;cases bj|ok b dQ =>rw[et]at bj;intro F5 H5 b' l5 q5;obtain⟨kK,rfl⟩:=q5;have p4:=l4.p D pD;have p5:=l5.p D p4.1;have h5:=(p5.2.trans p4.2).trans fQ;have kF:=(l2.trans l4).trans l5;have r5:=(cI.le l4).le l5;cases b' with|false =>rw[if_neg (by decide)];exact .mk F5 dQ ax ys kF p5.1 kK h5 r5 bj|true =>rw[if_pos rfl];exact CI.one nP kF p5.1 kK h5 r5 bj
theorem WV{src}(ok:Okk K F B H fs U)(eB:(src.all λo=>o.elim true λj=>decide (j<fs.length))=true)(k:Nat)(i:Ini)(v:Option V)(e1:(src.map λo=>o.elim Ini.no Ini.slot)[k]?=some i)(e2:(FF U src)[k]?=some v):W8 K F H U i v []:=by unfold FF at e2;rw[tO,sR]at e1 e2;obtain⟨o,eo,rfl⟩:=e1;obtain⟨o',mR,rfl⟩:=e2;rw[eo]at mR;cases mR;cases o with|none=>exact trivial|some j =>show U[j]?=some ((U[j]?).join);rw[sL (by obtain⟨L1,o1⟩:=ok;rw[o1.sl.len];exact tJ (ub.mp eB _ (uc eo)))];rfl
theorem SQ{F1 F2:Wd}(o3:Ok K ⟨F2.f,F1.p⟩ B H2 aq U L)(fQ:H2 D=some (.lst ys))(cI:Ah K F2 H2 ax ys)(nL:D∉L)(nF:¬F2 D)(np:¬F1.p D):RR K B U ⟨F2.f,F1.p⟩ H2 aq (.nw (.lst ax)) (.ref D):=by
 refine⟨L,[D],o3,C0 fQ (Ah.wp cI),?_,λa m=>?_⟩
 .rw[sI];exact⟨o3.nd,by simp,λa ha b hb e=>nL (by rw[<- sZ.mp hb,<- e];exact ha)⟩
 .rw[sZ.mp m];exact⟨nF,np⟩
theorem SN{F1 F2:Wd}(o3:Ok K ⟨F2.f,F1.p⟩ B H2 aq U L)(fQ:H2 D=some (.lst ys))(cI:Ah K F2 H2 ax ys)(nL:D∉L)(np:¬F1.p D):RR K B U (ML ⟨F2.f,F1.p⟩ [D]) H2 aq (.t (.lst ax)) (.ref D):=by
 have l3:Le ⟨F2.f,F1.p⟩ H2 (ML ⟨F2.f,F1.p⟩ [D]) H2:=orF;refine RR.of ⟨L,?_⟩ ?_
 .refine⟨o3.sl.le l3 λ_ _=>rfl,o3.nd,λa m z=>?_,λa z=>?_,o3.bo,o3.pd,λa z=>?_,o3.pl⟩
  .rcases z with z|z
   .exact o3.nf a m z
   .exact nL (by rw[<- sZ.mp z];exact m)
  .rcases z with z|z
   .exact o3.fd a z
   .rw[sZ.mp z,fQ];simp
  .rcases z with z|z
   .exact o3.pf a z
   .rw[sZ.mp z];exact np
 .simp only[BL,AE];exact⟨D,ys,rfl,.inr (by simp),fQ,Ah.le l3 (Ah.wp cI)⟩
theorem Uo{src}(h:tF K Z (Ck new src fi gt ft fe) U H Q):UD src (tI K Z fi) (tG K gt) (tT K Xp.no ft) (tF K Xp.no fe) U H Q:=by
 obtain⟨F,B,fs,ok,s⟩:=h;refine⟨F,B,fs,ok,AJ s λts aj F1 H1 J l q s1=>?_⟩;obtain⟨au,jk⟩:=q;split at s1
 .rename_i eW;obtain⟨L9,rl⟩:=id au;obtain⟨Pp,p1,p2,p3,p4⟩:=lend (μ:=λ_=>[]) rl (by unfold FF;simp) (WV au eW.2) eW.1 Mu.no;have jI:JOk K ⟨F1.f,Pp⟩ H1 J ts:=jk.within;split at s1
  .rename_i vs mE ec;split at s1
   .rename_i aq eb;intro D hD;have nP:=λz=>p3 D z hD
    refine⟨λi m bJ H2=>m=ts.length-i/\CI K ⟨F1.f,Pp⟩ H1 D (Bof (FF U src)) gt ft fe (vs,mE) (ts.drop i) bJ H2,
     ⟨ts.length,rfl,.mk ⟨F1.f,λa=>Pp a\/a=D⟩ _ [] [] ⟨λa f=>⟨f,Ap λe=>p2.fd a f (e▸hD)⟩,λa f=>⟨.inl f,Ap λe=>nP (e▸f)⟩⟩ (.inr rfl) (p2.hide hD) As rfl ec⟩,λi m bJ H2 hc=>?_⟩
    obtain⟨rfl,F2,τ,ax,ys,l2,pD,aQ,fQ,cI,bj⟩:=hc;by_cases bc:i<ts.length
    .have ei:=sL bc;rw[uS bc]at bj;obtain⟨j1,j2⟩:=(jI F2 H2 l2.f ⟨_,_,_,aQ⟩ i).1 _ ei;refine .inr ⟨j1,CI K ⟨F1.f,Pp⟩ H1 D (Bof (FF U src)) gt ft fe (vs,mE) (ts.drop (i+1)),λnW H' h=>⟨ts.length-(i+1),by omega,rfl,h⟩,λx H3 hy=>?_⟩;obtain⟨F3,⟨kG,nw⟩,rx⟩:=j2 x H3 hy;exact CI.turn nP (l2.trans kG) (kG.p D pD).1 (nw _ _ _ aQ) ((kG.p D pD).2.trans fQ) (cI.le kG) bj rx
    .refine .inl ⟨(jI F2 H2 l2.f ⟨_,_,_,aQ⟩ i).2 (by omega),?_⟩;rw[List.drop_eq_nil_of_le (by omega)]at bj;simp only[CY]at bj;cases bj;obtain⟨Li,o2⟩:=aQ;obtain⟨le,L,o3,sub⟩:=p4 F2 H2 mE bJ Li aq l2 o2 eb;have nL:D∉L:=λm=>(sub D m).elim (λz=>o2.pl D z pD) nP
     have np:=λz=>nP (p1 D z)
     cases new with|true =>rw[if_pos rfl]at s1;exact s1 ⟨F2.f,F1.p⟩ H2 (.ref D) le (SQ o3 fQ cI nL (λf=>o2.pf D f pD) np)|false =>rw[if_neg (by decide)]at s1;exact s1 (ML ⟨F2.f,F1.p⟩ [D]) H2 (.ref D) (le.trans orF) (SN o3 fQ cI nL np)
   .exact s1.elim
  .exact s1.elim
 .exact s1.elim
theorem GN(new:Bool)(N:List Str)(src:List (Option Nat))(bu:X.calm=true)(hi:FI X Z tg az fi)(hg:∀cl C s H fp,GT (B5 X N sc cl C s H fp) tg gt)(ht:∀cl C s H fp,FIf (B5 X N sc cl C s H fp) cF ft)
  (he:∀cl C s H fp,FE (B5 X N sc cl C s H fp) Xp.no dk fe) (hS:Ib X.env.scope sc=true:=by rfl) (bN:Fh X.N sc N src=true:=by rfl)
  (hs:∀x,foldedSetIterable az X.env x=pure x:=by intro _;rfl):FE X Z (.ListComp dk [⟨tg,az,cF,0⟩] sc pos) (Ck new src fi gt ft fe) :=
 A0 (Vf (g:=tG X.K gt) (tt:=tT X.K Xp.no ft) (te:=tF X.K Xp.no fe) N src bu hi hg ht he hS bN hs) λ_ _ _ h=>Uo h
theorem E9{y}(new:Bool)(i:Nat)(N:List Str)(src:List (Option Nat))(bu:X.calm=true)(hN:X.N.Nodup)(hy:Loc X.env.scope y)(hi:FI X Z tg az fi)(hg:∀cl C s H fp,GT (B5 X N sc cl C s H fp) tg gt)(ht:∀cl C s H fp,FIf (B5 X N sc cl C s H fp) cF ft)
  (he:∀cl C s H fp,FE (B5 X N sc cl C s H fp) Xp.no dk fe) (lB:X.N[i]?=some y:=by rfl) (hS:Ib X.env.scope sc=true:=by rfl) (bN:Fh X.N sc N src=true:=by rfl)
  (hs:∀x,foldedSetIterable az X.env x=pure x:=by intro _;rfl) (lS:swapsWith (.ListComp dk [⟨tg,az,cF,0⟩] sc pos) (some (.Name y aU)) hJ.line X.env=pure true:=by rfl)
  (hf:X.fn y=true\/X.env.scope.names.lookup y=some .local:=by first|exact .inl rfl|exact .inr rfl|assumption) :
  GS X Z (.Assign [.Name y aU] (.ListComp dk [⟨tg,az,cF,0⟩] sc pos) hJ) (AN i (Ck new src fi gt ft fe)) :=
 Cv (MZ (g:=tG X.K gt) (tt:=tT X.K Xp.no ft) (te:=tF X.K Xp.no fe) N src bu hN lB hy hi hg ht he hS bN hs lS hf) λ_ _ _ s=>Uo (XG s)
def orG(g g':Rv->Rv->FS->Out Rv):Rv->Rv->FS->Out Rv:=λx y fs=>match g x y fs with|.bad=>g' x y fs|o=>o
theorem OpF.or{g}{r}(h:OpF K Z r g)(h':OpF K Z r' g'):OpF K Z (orR r r') (orG g g'):=by intro F B H U fs x y u w Q ok rx ry s;unfold orG at s;cases e:g x y fs with|ok a t=>rw[e]at s;exact .inl (h F B H U fs x y u w Q ok rx ry (by rw[e];exact s))|exc c t=>rw[e]at s;exact .inl (h F B H U fs x y u w Q ok rx ry (by rw[e];exact s))|bad=>rw[e]at s;exact .inr (h' F B H U fs x y u w Q ok rx ry s)
def orC(g g':List Rv->FS->Out Rv):List Rv->FS->Out Rv:=λx fs=>match g x fs with|.bad=>g' x fs|o=>o
theorem Dq.or{g}{r'}{r}{g'}(h:Dq K Z r g)(h':Dq K Z r' g'):Dq K Z (TL r r') (orC g g'):=by intro F B H U fs x u Q ok rx s;unfold orC at s;cases e:g x fs with|ok a t=>rw[e]at s;exact .inl (h F B H U fs x u Q ok rx (by rw[e];exact s))|exc c t=>rw[e]at s;exact .inl (h F B H U fs x u Q ok rx (by rw[e];exact s))|bad=>rw[e]at s;exact .inr (h' F B H U fs x u Q ok rx s)
def exL(fs:FS):Rv->Option (List T)
 |.t (.lst ts)=>some ts
 |.n i=>match AK fs i with|some (.lst ts)=>some ts|_=>none
 |_=>none
theorem Ue{x}(h:Okk K F B H fs U)(r:BL K F H U x u)(e:exL fs x=some ts):∃a vs,u=.ref a/\H a=some (.lst vs)/\Ah K F H ts vs:=by
 unfold exL at e;split at e
 .cases e;simp only[BL,AE]at r;obtain⟨a,vs,e,f,s,q⟩:=r;exact⟨a,vs,e,s,q⟩
 .rename_i i;split at e
  .rename_i km eo;cases e;obtain⟨v,L2,e1,q,_⟩:=h.own eo;have e2:U[i]?=some (some u):=r;rw[e1]at e2;have e3:v=u:=by simpa using e2
   subst e3;simp only[Ax]at q;obtain⟨a,vs,e,s,q,_⟩:=q;exact⟨a,vs,e,s,q⟩
  .cases e
 .cases e
def Nq:Rv->Rv->FS->Out Rv:=λx y fs=>match exL fs x,exL fs y with|some ts,some us=>if ts.length+us.length<=big then .ok (.nw (.lst (ts++us))) fs else .bad|_,_=>.bad
def Pt:Rv->Rv->FS->Out Rv
 |.t (.tup ts),.t (.tup us),fs=>if ts≠[]/\ts.length+us.length<=big then okT (.tup (ts++us)) fs else .bad
 |_,_,_=>.bad
theorem Vy:OpF K Z JbT Nq:=by
 intro F B H U fs x y u w Q ok rx ry s;unfold Nq at s;split at s
 .rename_i ts us e1 e2;split at s
  next hl=>obtain⟨a,vs,rfl,hs,r⟩:=Ue ok rx e1;obtain⟨b,ws,rfl,bw,r2⟩:=Ue ok ry e2;exact⟨a,b,vs,ws,rfl,rfl,hs,bw,by rw[r.len,r2.len];exact tK hl D2,λp hp=>s F _ (.ref p) (A1 ok hp) (RR.alloc ok hp (C0 As ((r.app r2).le (A1 ok hp))))⟩
  .exact s.elim
 .exact s.elim
theorem Vx:OpF K Z (XX K) Pt:=by
 intro F B H U fs x y u w Q ok rx ry s;unfold Pt at s;split at s
 .rename_i ts us;split at s
  .rename_i hl;obtain⟨a,vs,rfl,hs,r⟩:=BG rx rfl;obtain⟨b,ws,rfl,bw,r2⟩:=BG ry rfl;refine⟨a,b,vs,ws,rfl,rfl,hs,bw,λz=>hl.1 ?_,by rw[r.len,r2.len];exact tK hl.2 D2,λz=>?_,λ_ p hp=>s _ _ (.ref p) (A5 ok hp) (E3 ok hp (r.app r2))⟩
   .have:=r.len;rw[z]at this;exact ur this.symm
   .have e:=by have:=r2.len;rw[z]at this;exact ur this.symm
    subst e;rw[t5]at s;exact s F H _ Le.refl (RR.of ok rx)
  .exact s.elim
 .exact s.elim
def Pr:Rv->Rv->FS->Out Rv
 |.t (.tup []),.t (.tup us),fs=>okT (.tup us) fs
 |_,_,_=>.bad
theorem Rl:OpF K Z (Tu K) Pr:=by
 intro F B H U fs x y u w Q ok rx ry s;unfold Pr at s;split at s
 next us=>obtain⟨a,vs,rfl,hs,r⟩:=BG rx rfl;obtain⟨b,ws,rfl,bw,r2⟩:=BG ry rfl;subst(by simpa[Ah]using r);exact⟨a,b,ws,rfl,rfl,hs,bw,s F H _ Le.refl (RR.of ok ry)⟩
 .exact s.elim
theorem Vw:OpF K Z XU Pq:=by
 intro F B H U fs x y u w Q ok rx ry s;unfold Pq at s;split at s
 .split at s
  .rename_i t e;obtain⟨a,o',rfl,hd,h⟩:=PX ok rx ry e;rcases h with⟨h1,_⟩|⟨t',v,h1,h2,h3⟩
   .cases h1
   .cases h1;subst h2;exact⟨a,v,rfl,hd,s F H v Le.refl (RR.of ok h3)⟩
  .exact s.elim
 .exact s.elim
theorem OE(neg:Bool):OpF K Z (JaN neg) (Wi neg):=by
 intro F B H U fs y x w u Q ok ry rx s;unfold Wi at s;split at s
 .split at s
  .rename_i t e;obtain⟨a,o',rfl,hd,h⟩:=PX ok rx ry e;refine⟨a,o',rfl,hd,?_⟩;have:o'.isSome=t.isSome:=by
    rcases h with⟨h1,h2⟩|⟨t',v,h1,h2,h3⟩
    .rw[h1,h2];rfl
    .rw[h1,h2];rfl
   rw[this];exact s F H _ Le.refl (RR.of ok rfl)
  .exact s.elim
 .exact s.elim
def Ay:=orG Jbf (orG Sh (orG Nq (orG Pt Pr)))
def CP:=orG Xf Wg
def AF:=orG gIx Pq
def DL(neg:Bool):=orG (Wi neg) (orG (Ke neg) (gIn neg))
def Sf:List Rv->FS->Out Rv
 | [.t (.l ks _)],fs=>okT (.int ks.length) fs
 | [.n i],fs=>match AK fs i with|some (.l ks _)=>okT (.int ks.length) fs|_=>.bad
 |_,_=>.bad
def Bx:=orC Jbd (orC Po Sf)
def Cw:=orC Wh Pn
theorem WR:Dq K Z (λxs H Q=>∃a ah,xs=[V.ref a]/\Rd H a (.l ah)/\Q (.int ah.length) H) Sf:=by
 intro F B H U fs rs vs Q ok q s;unfold Sf at s;split at s
 .obtain⟨v,rfl,qq⟩:=Bh q;have q:=qq;simp only[BL,AE]at q;obtain⟨a,ah,rfl,f,hd,rfl,r⟩:=q;rw[sH]at s;exact⟨a,ah,rfl,hd,s F H _ Le.refl (RR.of ok rfl)⟩
 .rename_i i;obtain⟨v,rfl,qq⟩:=Bh q;split at s
  .rename_i eo;obtain⟨v',L2,e1,q2,_⟩:=ok.own eo;have e2:U[i]?=some (some v):=qq;rw[e1]at e2;have e3:=by simpa using e2
   subst e3;simp only[Ax]at q2;obtain⟨a,ah,rfl,hd,rfl,_⟩:=q2;rw[sH]at s;exact⟨a,ah,rfl,.inl hd,s F H _ Le.refl (RR.of ok rfl)⟩
  .exact s.elim
 .exact s.elim
variable{fa:FS->Out Rv}
theorem ZN(ha:FE X Z a fa)(hb:FE X Z b fb):FE X Z (.BinOp a .Add b pos) (Ag Ay fa fb) :=
 Ly (OpF.or YG (OpF.or Vz (OpF.or Vy (OpF.or Vx Rl)))) (OpR.orR Yx (OpR.orR M6 (OpR.orR Yw (OpR.orR Vo Rh)))) ha hb
theorem Zs(ha:FE X Z a fa)(hb:FE X Z b fb):FE X Z (.BinOp a .Sub b pos) (Ag Dj fa fb):=Ly YA Yq ha hb
theorem Zw(ha:FE X Z a fa)(hb:FE X Z b fb):FE X Z (.BinOp a .Mult b pos) (Ag CP fa fb):=Ly (OpF.or YC Vs) (OpR.orR Vm Ox) ha hb
theorem Zy(ha:FE X Z a fa)(hb:FE X Z b fb):FE X Z (.BinOp a .Mod b pos) (Ag DG fa fb):=Ly YD Yt ha hb
theorem ZJ(ha:FE X Z a fa)(hb:FE X Z b fb):FE X Z (.BinOp a .FloorDiv b pos) (Ag GJ fa fb):=Ly YF Vn ha hb
theorem Jbo(hu:X.A.units+1<cLine)(ha:FE X Z a fa)(hb:FE X Z b fb)(hs:Jo b):FE X Z (.Subscript a b pos) (Ag AF fa fb):=Jbs (OpF.or Ja4 Vw) (IxR.orR YV (V0 hu)) ha hb hs
theorem ZI(ha:FE X Z a fa)(hb:FE X Z b fb):FE X Z (.Compare a [.Eq] [b] pos) (Ag (gEq false) fa fb):=Kk of_eq Yv ha hb (DQ _)
theorem Jbm(ha:FE X Z a fa)(hb:FE X Z b fb):FT X Z (.Compare a [.Eq] [b] pos) (asB (Ag (gEq false) fa fb)):=Ek of_eq Yv ha hb (DQ _)
theorem Jbh(ha:FE X Z a fa)(hb:FE X Z b fb):FT X Z (.Compare a [.NotEq] [b] pos) (asB (Ag (gEq true) fa fb)):=Ek Ja3 JaZ ha hb (DQ _)
theorem Jbi(ha:FE X Z a fa)(hb:FE X Z b fb):FT X Z (.Compare a [.Lt] [b] pos) (asB (Ag gLt fa fb)):=Ek of_lt Ja0 ha hb (DQ _)
theorem Jbj(ha:FE X Z a fa)(hb:FE X Z b fb):FT X Z (.Compare a [.LtE] [b] pos) (asB (Ag gLe fa fb)):=Ek of_le Rg ha hb (DQ _)
theorem Jbl(ha:FE X Z a fa)(hb:FE X Z b fb):FT X Z (.Compare a [.Gt] [b] pos) (asB (Ag gGt fa fb)):=Ek Ja5 Ja1 ha hb (DQ _)
theorem Jbr(ha:FE X Z a fa)(hb:FE X Z b fb):FE X Z (.Compare a [.LtE] [b] pos) (Ag gLe fa fb):=Kk of_le Rg ha hb (DQ _)
theorem Jbt(hu:X.A.units+1<cLine)(ha:FE X Z a fa)(hb:FE X Z b fb)(hm:behindInMarks .In b=false:=by rfl):FE X Z (.Compare a [.In] [b] pos) (Ag (DL false) fa fb) :=
 Kk (OpF.or (OE false) (OpF.or Me (Vt false))) (OpR.orR (TN hu) (OpR.orR JV JW)) ha hb hm
theorem Jbk(hu:X.A.units+1<cLine)(ha:FE X Z a fa)(hb:FE X Z b fb)(hm:behindInMarks .In b=false:=by rfl):FT X Z (.Compare a [.In] [b] pos) (asB (Ag (DL false) fa fb)) :=
 Ek (OpF.or (OE false) (OpF.or Me (Vt false))) (OpR.orR (TN hu) (OpR.orR JV JW)) ha hb hm
theorem Sk(hu:X.A.units+1<cLine)(ha:FE X Z a fa)(hb:FE X Z b fb)(hm:behindInMarks .NotIn b=false:=by rfl):FT X Z (.Compare a [.NotIn] [b] pos) (asB (Ag (DL true) fa fb)) :=
 Ek (OpF.or (OE true) (OpF.or Lc (Vt true))) (OpR.orR (Oy hu) (OpR.orR JT JU)) ha hb hm
def itU(f:FS->Out Rv):FS->Out (List T):=λfs=>(f fs).bnd λr fs=>match r with|.t (.lst ts)=>.ok ts fs|.t (.zU ts)=>.ok ts fs|.t (.tup ts)=>.ok ts fs|.t (.str z)=>.ok (signs z) fs|_=>.bad
theorem Zo(hl:FE X Z l f):FI X Z tg l (itU f):=by
 refine JP (X9 hl) λU H Q ⟨F,B,fs,ok,s⟩=>⟨F,B,fs,ok,AM s λr aj F1 H1 u l au rx s1=>?_⟩
 split at s1
 next ts=>simp only[BL,AE]at rx;obtain⟨a,vs,rfl,ff,hs,r⟩:=rx;exact .inl ⟨a,rfl,⟨vs,SqL.of hs⟩,s1 F1 H1 _ Le.refl ⟨au,Mj (λF' H' l=>SqL.of ((l a ff).2.trans hs)) r⟩⟩
 next ts=>simp only[BL,AE]at rx;obtain⟨a,vs,rfl,hs,r⟩:=rx;exact .inl ⟨a,rfl,⟨vs,hs.sq⟩,s1 F1 H1 _ Le.refl ⟨au,Mj (λF' H' l=>(StL.lf l hs).sq) r⟩⟩
 next ts=>simp only[BL,AE]at rx;obtain⟨a,vs,rfl,hs,r⟩:=rx;exact .inr (.inl ⟨a,rfl,⟨vs,hs.sq⟩,s1 F1 H1 _ Le.refl ⟨au,VX (λF' H' l=>SqT.of ((l a hs.2.1).2.trans hs.2.2)) r⟩⟩)
 next z=>exact .inr (.inr ⟨z,rx,s1 F1 H1 _ Le.refl ⟨au,VY⟩⟩)
 .exact s1.elim
def Sa:Rv->Rv->Rv->FS->SO
 |.n i,.t (.int k),.t t,fs=>match AK fs i with
  |some (.lst ts)=>match ixN ts.length k with|some j=>.nx (putAt fs i (.lst (ts.set j t)))|none=>.bad
  |_=>.bad
 |_,_,_,_=>.bad
def Sd:Rv->Rv->Rv->FS->SO
 |.n i,.t y,.t t,fs=>match AK fs i with
  |some (.l ks ts)=>match HG y with|some k=>if ks.length<big then .nx (putAt fs i (.l (E4 ks ts k t).1 (E4 ks ts k t).2))else .bad|none=>.bad
  |some (.dT ks ts)=>match y with
   |.tup ys=>match Hl ys with|some k=>if ks.length<big then .nx (putAt fs i (.dT (E4 ks ts k t).1 (E4 ks ts k t).2))else .bad|none=>.bad
   |_=>.bad
  |_=>.bad
 |_,_,_,_=>.bad
def Wb:Rv->Rv->Rv->FS->SO:=λo i v fs=>match Sa o i v fs with|.bad=>Sd o i v fs|s=>s
def Dh(fv fo fi:FS->Out Rv):FS->SO:=λfs=>SO.of ((fv fs).bnd λv fs=>(fo fs).bnd λo fs=>(fi fs).bnd λi fs=>.ok (v,o,i) fs) λ(v,o,i) fs=>Wb o i v fs
variable{D:Ends}
theorem R9{i}{o}(ok:Okk K F B H fs U)(ro:BL K F H U o uo)(ri:BL K F H U i ui)(rv:BL K F H U v uv)(s:FN K Z B F H (Sa o i v fs) D):UR uo ui uv H (λH3=>D.nx U H3):=by
 unfold Sa at s;split at s
 .rename_i i k t;split at s
  .rename_i ts e;split at s
   next j ej=>obtain⟨a,us,rfl,hs,r,kk⟩:=ok.list ro e;obtain⟨bR,l⟩:=kk (ts.set j t) (us.set j uv) (Ah.set rv j r);exact⟨a,us,k,j,rfl,ri,hs,by rw[r.len];exact ej,s F _ U l bR⟩
   .exact s.elim
  .exact s.elim
 .exact s.elim
theorem Sb{i}{o}(ok:Okk K F B H fs U)(ro:BL K F H U o uo)(ri:BL K F H U i ui)(rv:BL K F H U v uv)(s:FN K Z B F H (Sd o i v fs) D):US uo ui uv H (λH3=>D.nx U H3):=by
 unfold Sd at s;split at s
 .rename_i i y t;split at s
  .rename_i ks ts e;split at s
   .rename_i k ek;split at s
    .rename_i hl;obtain⟨v,L2,e1,q,nf,_,kk⟩:=ok.own e;have e2:U[i]?=some (some uo):=ro;rw[e1]at e2;have e3:=by simpa using e2
     subst e3;simp only[Ax]at q;obtain⟨a,ah,rfl,hs,rfl,q,rfl⟩:=q;have:=D8 ek ri;subst this;refine⟨a,_,rfl,NM.k hs (by rw[sH]at hl;exact um hl Fx),?_⟩;obtain⟨h1,h2⟩:=FQ rv q;have l:Le F H F (upd H a (.l (putK ah k uv))):=⟨λb f=>⟨f,Ap λz=>(nf a (by simp)).1 (z▸f)⟩,λb f=>⟨f,Ap λz=>(nf a (by simp)).2 (z▸f)⟩⟩
     obtain⟨bR,l'⟩:=kk (.l (E4 (ah.map (·.1)) ts k t).1 (E4 (ah.map (·.1)) ts k t).2) (upd H a (.l (putK ah k uv))) (λb hb _=>Ap (by simpa using hb)) (by simp only[Ax];exact⟨a,_,rfl,As,h1,h2.le l,rfl⟩);exact s F _ U l' bR
    .exact s.elim
   .exact s.elim
  .rename_i ks ts e;split at s
   .rename_i ys;split at s
    .rename_i k ek;split at s
     .rename_i hl;obtain⟨v,L2,e1,q,nf,_,kk⟩:=ok.own e;have e2:U[i]?=some (some uo):=ro;rw[e1]at e2;have e3:v=uo:=by simpa using e2
      subst e3;simp only[Ax]at q;obtain⟨a,ah,rfl,hs,rfl,q,rfl⟩:=q;simp only[BL,AE]at ri;obtain⟨b,vs,rfl,hb,rb⟩:=ri;have:=ED ek rb;subst this;refine⟨a,_,rfl,NM.t hs hb.2.2 (by rw[sH]at hl;exact um hl Fx),?_⟩;obtain⟨h1,h2⟩:=FQ rv q;have l:Le F H F (upd H a (.dT (putK ah k uv))):=⟨λb f=>⟨f,Ap λz=>(nf a (by simp)).1 (z▸f)⟩,λb f=>⟨f,Ap λz=>(nf a (by simp)).2 (z▸f)⟩⟩
      obtain⟨bR,l'⟩:=kk (.dT (E4 (ah.map (·.1)) ts k t).1 (E4 (ah.map (·.1)) ts k t).2) (upd H a (.dT (putK ah k uv))) (λb hb _=>Ap (by simpa using hb)) (by simp only[Ax];exact⟨a,_,rfl,As,h1,h2.le l,rfl⟩);exact s F _ U l' bR
     .exact s.elim
    .exact s.elim
   .exact s.elim
  .exact s.elim
 .exact s.elim
theorem RX{fi}(hu:X.A.units+1<cLine)(he:FE X Z e fv)(ho:FE X Z o fo)(hi:FE X Z i fi)
  (h:∀{te to ti:TE}{t:Xj},PE X e te->PE X o to->PE X i ti->Tf X t->PS X (.Assign [.Subscript o i cf] e pos) (Xy te (JbZ to ti t))):GS X Z (.Assign [.Subscript o i cf] e pos) (Dh fv fo fi):=by
 refine Cv (h he ho hi (Tf.orR set_list (set_dict hu))) λD U H ⟨F,B,fs,ok,s⟩=>?_
 exact⟨F,B,fs,ok,(by
  have s1:=Cr (R:=λF' H' aq (a:Rv×Rv×Rv) (b:V×V×V)=>Okk X.K F' B H' aq U/\BL X.K F' H' U a.1 b.1/\BL X.K F' H' U a.2.1 b.2.1/\BL X.K F' H' U a.2.2 b.2.2) (Q:=λb H3=>Yp UR US b.2.1 b.2.2 b.1 H3 λH4=>D.nx U H4) s (λa aq F' H' b l q s2=>by
   obtain⟨q1,q2,q3,q4⟩:=q;obtain⟨v,o,i⟩:=a;dsimp only at s2 q2 q3 q4 ⊢;unfold Wb at s2;split at s2
   .exact .inr (Sb q1 q3 q4 q2 s2)
   .exact .inl (R9 q1 q3 q4 q2 s2))
  refine AM s1 λv aj F1 H1 uv l1 au rv s2=>?_
  refine⟨F1,B,aj,au,AM s2 λo aA F2 H2 uo l2 aQ ro s3=>⟨F2,B,aA,aQ,AM s3 λi dZ F3 H3 ui l3 fE ri s4=>?_⟩⟩;exact s4 F3 H3 (uv,uo,ui) Le.refl ⟨fE,(rv.le l2).le l3,ro.le l3,ri⟩)⟩
theorem RZ:GS X Z st (λ_=>.bad):=Cv Q4 λD U H ⟨F,B,fs,ok,s⟩=>s.elim
variable{i:Nat}{r:Rv}
theorem RR.put(h:RR K B U F H fs r u)(e:AK fs i=some ob):∃v L2 L',U[i]?=some (some v)/\Ax K F H ob v L2/\NL K F H U r u L'/\(L2++L').Nodup/\(∀a∈L2++L',¬F a/\¬F.p a) /\
  ∀bQ H' M,(∀a,a∉L2->H a≠none->H' a=H a)->Ax K F H' bQ v M->M.Nodup->(∀b∈M,b∈L2\/b∈L')->Okk K F B H' (putAt fs i bQ) U/\Le F H F H':=by
 obtain⟨L,L',h,qr,qZ,nK⟩:=h;have key:∀s:Sl,fs[i]?=some (some s)->(s=.own ob\/s=.bor ob)->∃v L2 L',U[i]?=some (some v)/\Ax K F H ob v L2/\NL K F H U r u L'/\(L2++L').Nodup/\(∀a∈L2++L',¬F a/\¬F.p a) /\
  ∀bQ H' M,(∀a,a∉L2->H a≠none->H' a=H a)->Ax K F H' bQ v M->M.Nodup->(∀b∈M,b∈L2\/b∈L')->Okk K F B H' (fs.set i (some (s.put bQ))) U/\Le F H F H':=by
  intro s es ho;obtain⟨v,L1,L2,L3,e1,rfl,h1,h2⟩:=h.sl.pick es;obtain⟨u',rfl,q⟩:∃u,v=some u/\Ax K F H ob u L2:=by
   rcases ho with rfl|rfl
   .exact h1
   .exact h1
  have nd:=h.nd;have i8:∀a∈L1++L3,a∉L2:=λa ha hb=>by
   rw[sI]at nd;rcases sW.mp ha with ha|ha
   .exact nd.2.2 a ha a (sX _ hb) rfl
   .have:=(sI.mp nd.2.1).2.2;exact this a hb a ha rfl
  have i5:=sI.mp qZ;refine⟨u',L2,L',e1,q,qr,?_,λa m=>?_,λbQ H' M k q' hm iY=>?_⟩
  .rw[sI];refine⟨?_,i5.2.1,λa ha b hb=>i5.2.2 a (by simp[ha]) b hb⟩;rw[sI]at nd;exact(sI.mp nd.2.1).1
  .rcases sW.mp m with m|m
   .exact⟨h.nf a (by simp[m]),h.pl a (by simp[m])⟩
   .exact nK a m
  .have l:Le F H F H':=⟨λa f=>⟨f,k a (λm=>h.nf a (by simp[m]) f) (h.fd a f)⟩,λa f=>⟨f,k a (λm=>h.pl a (by simp[m]) f) (h.pd a f)⟩⟩
   have nI:∀a∈L1++(M++L3),¬F a/\¬F.p a:=λa m=>by
    rcases sW.mp m with m|m
    .exact⟨h.nf a (by simp[m]),h.pl a (by simp[m])⟩
    .rcases sW.mp m with m|m
     .rcases iY a m with z|z
      .exact⟨h.nf a (by simp[z]),h.pl a (by simp[z])⟩
      .exact nK a z
     .exact⟨h.nf a (by simp[m]),h.pl a (by simp[m])⟩
   refine⟨⟨L1++(M++L3),?_,CJ nd hm (λa m m2=>?_),λa m=>(nI a m).1,λa f=>by rw[(l.f a f).2];exact h.fd a f,?_,λa f=>by rw[(l.p a f).2];exact h.pd a f,h.pf,λa m=>(nI a m).2⟩,l⟩
   .have hL:∀a∈L1++L3,H' a=H a:=λa m=>k a (i8 a m) (h.sl.def a (by
      rcases sW.mp m with m|m
      .simp[m]
      .simp[m]))
    have h3:=h2 F H' (some (s.put bQ)) (some u') M l hL (by
     rcases ho with rfl|rfl
     .exact⟨u',rfl,q'⟩
     .exact⟨u',rfl,q'⟩)
    rwa[BM e1]at h3
   .rcases iY a m with z|z
    .exact i8 a m2 z
    .exact(λa ha hb=>i5.2.2 a (by
   rcases sW.mp ha with ha|ha
   .simp[ha]
   .simp[ha]) a hb rfl) a m2 z
   .have:=FG.put (s:=some (s.put bQ)) h.bo (λo eo=>by
     rcases ho with rfl|rfl
     .cases eo
     .obtain⟨w,e3,e4⟩:=h.bo i ob es;rw[e1]at e3;have e5:u'=w:=by simpa using e3
      exact⟨u',rfl,by rw[e5];exact e4⟩) h.sl.len
    rwa[BM e1]at this
 unfold AK at e;split at e
 next o es=>cases e;obtain⟨v,L2,L',a1,a2,a3,a4,a5,a6⟩:=key _ es (.inl rfl);refine⟨v,L2,L',a1,a2,a3,a4,a5,λbQ H' M k q m1 m2=>?_⟩;have:=a6 bQ H' M k q m1 m2;unfold putAt;rw[es];exact this
 next o es=>cases e;obtain⟨v,L2,L',a1,a2,a3,a4,a5,a6⟩:=key _ es (.inr rfl);refine⟨v,L2,L',a1,a2,a3,a4,a5,λbQ H' M k q m1 m2=>?_⟩;have:=a6 bQ H' M k q m1 m2;unfold putAt;rw[es];exact this
 .cases e
def JbH:Rv->Option FO
 |.t t=>some (.val t)
 |.nw o=>some o
 |.n _=>none
def CW:List Str->List FO->Str->FO->Option (List Str×List FO)
 | [],[],f,o=>some ([f],[o])
 |g::gs,x::os,f,o=>if g=f then(match x with|.val _=>some (g::gs,o::os)|_=>none)else(CW gs os f o).map λp=>(g::p.1,x::p.2)
 |_,_,_,_=>none
theorem Gi{f}{o}{y}(ro:Ax K F H o y L'):∀{ah:List (Str×V)}{os cj:List FO}{dq:List Str}{L:List Addr},Az K F H os (ah.map (·.2)) L->CW (ah.map (·.1)) os f o=some (dq,cj) ->
  ∃M,(EW f y ah).map (·.1)=dq/\Az K F H cj ((EW f y ah).map (·.2)) M/\(∀a∈M,a∈L\/a∈L')/\((L++L').Nodup->M.Nodup)
 | [],os,cj,dq,L,r,e=>by cases os with|cons x os=>simp[CW]at e|nil =>simp only[ud,CW,Option.some.injEq,Prod.mk.injEq]at e;obtain⟨rfl,rfl⟩:=e;refine⟨L',rfl,?_,λa m=>.inr m,λnd=>(sI.mp nd).2.1⟩;simp only[EW,sG,ud,Az];exact⟨y,[],L',[],rfl,ro,⟨rfl,rfl⟩,by simp⟩
 |(g,x)::ah,os,cj,dq,L,r,e=>by
  cases os with
  |nil=>simp[CW]at e
  |cons o1 os =>
   simp only[sG,Az]at r;obtain⟨v,w,L1,L2,ee,r1,r2,rfl⟩:=r;cases ee;simp only[sG,CW]at e;by_cases hg:g=f
   .rw[if_pos hg]at e;cases o1 with
    |val t =>
     simp only[Option.some.injEq,Prod.mk.injEq]at e;obtain⟨rfl,rfl⟩:=e;simp only[Ax]at r1;obtain⟨rfl,_⟩:=r1;refine⟨L'++L2,?_,?_,λa m=>?_,λnd=>?_⟩
     .simp only[EW];rw[if_pos hg];rfl
     .simp only[EW];rw[if_pos hg];simp only[sG,Az];exact⟨y,_,L',L2,rfl,ro,r2,rfl⟩
     .rcases sW.mp m with m|m
      .exact .inr m
      .exact .inl (by simpa using m)
     .rw[tS]at nd;exact(List.perm_append_comm).nodup_iff.mp nd
    |lst _=>cases e
    |l _ _=>cases e
    |dT _ _=>cases e
    |ins _ _ _=>cases e
    |yW _=>cases e
    |yU _=>cases e
    |dO _ _=>cases e
    |la _ _=>cases e
   .rw[if_neg hg,sR]at e;obtain⟨p,ep,e⟩:=e;simp only[Prod.mk.injEq]at e;obtain⟨rfl,rfl⟩:=e;obtain⟨M,m1,m2,m3,m4⟩:=Gi ro r2 (by rw[ep]);refine⟨L1++M,?_,?_,λa m=>?_,λnd=>?_⟩
    .simp only[EW];rw[if_neg hg,sG,m1]
    .simp only[EW];rw[if_neg hg];simp only[sG,Az];exact⟨x,_,L1,M,rfl,r1,m2,rfl⟩
    .rcases sW.mp m with m|m
     .exact .inl (sX _ m)
     .rcases m3 a m with z|z
      .exact .inl (sU _ z)
      .exact .inr z
    .rw[tR,sI]at nd;rw[sI];refine⟨nd.1,m4 nd.2.1,λa ha b hb e=>?_⟩;rcases m3 b hb with z|z
     .exact nd.2.2 a ha b (sX _ z) e
     .exact nd.2.2 a ha b (sU _ z) e
def H0(C:Addr)(f:Str)(i:Nat)(fv:FS->Out Rv):FS->SO:=λfs=>SO.of (fv fs) λr fs=>match JbH r,AK fs i with|some o,some (.ins C' gs os)=>if C'=C/\gs.length<900 then(match CW gs os f o with|some p=>.nx (putAt fs i (.ins C p.1 p.2))|none=>.bad)else .bad|_,_=>.bad
theorem Y7{f}(c:Cls X.K C)(n:A4 X.K C f)(i:Nat)(he:FE X Z e fv)
  (h:∀{tv:TE},PE X e tv->PS X (.Assign [.Attribute (.Name x p1) f p2] e pos) (JbP X.K (JA i) tv f)):GS X Z (.Assign [.Attribute (.Name x p1) f p2] e pos) (H0 C f i fv):=by
 refine Cv (h he) λD U H ⟨F,B,fs,ok,s⟩=>⟨F,B,fs,ok,Cr s λr aj F1 H1 u l q s1=>?_⟩
 split at s1
 .rename_i o C' gs os e1 e2;split at s1
  .rename_i hC;obtain⟨rfl,hl⟩:=hC;split at s1
   .rename_i p ep;obtain⟨v,L2,L',a1,a2,a3,a4,a5,a6⟩:=RR.put q e2;simp only[Ax]at a2;obtain⟨a,dx,ah,L3,rfl,hd,rfl,ro,rfl⟩:=a2;have mi:Ax X.K F1 H1 o u L':=by cases r with|t t =>cases e1;simp only[Ax];exact a3|nw o'=>cases e1;exact a3|n j=>cases e1
    obtain⟨M,m1,m2,m3,m4⟩:=Gi mi ro (by rw[ep]);have j4:a∉M:=λz=>((tu.mp a4).1) (by
     rcases m3 a z with z|z
     .exact sX _ z
     .exact sU _ z)
    have l1:Le F1 H1 F1 (upd H1 a (.ins C' dx (EW f u ah))):=⟨λb f=>⟨f,Ap λz=>(a5 a (by simp)).1 (z▸f)⟩,λb f=>⟨f,Ap λz=>(a5 a (by simp)).2 (z▸f)⟩⟩
    obtain⟨bR,l'⟩:=a6 (.ins C' p.1 p.2) (upd H1 a (.ins C' dx (EW f u ah))) (a::M) (λb hb _=>Ap λz=>hb (by rw[z];simp)) (by
     simp only[Ax];exact⟨a,dx,_,M,rfl,As,m1,Az.le l1 (λb hb=>Ap λz=>j4 (z▸hb)) m2,rfl⟩) (tu.mpr ⟨j4,m4 ((tu.mp a4).2)⟩) (λb hb=>by
     rcases sQ.mp hb with z|z
     .exact .inl (by rw[z];simp)
     .rcases m3 b z with z|z
      .exact .inl (sN _ z)
      .exact .inr z)
    exact⟨_,a1,a,C',dx,ah,rfl,hd,c,n,by rw[sH]at hl;omega,s1 F1 _ U l' bR⟩
   .exact s1.elim
  .exact s1.elim
 .exact s1.elim
def Bw:List Str->List FO->Str->FO->List FO
 |g::gs,x::os,f,o=>if f==g then o::os else x::Bw gs os f o
 |_,os,_,_=>os
theorem JF{f}:∀{ah:List (Str×V)}{os:List FO}{L:List Addr},Az K F H os (ah.map (·.2)) L->L.Nodup->Ba (ah.map (·.1)) os f=some (.l ks ts) ->
  ∃b aE,ah.lookup f=some (.ref b)/\b∈L/\H b=some (.l aE)/\aE.map (·.1)=ks/\Ah K F H ts (aE.map (·.2)) /\
   ∀H' o',(∀a∈L,a≠b->H' a=H a)->Le F H F H'->Ax K F H' o' (.ref b) [b]->Az K F H' (Bw (ah.map (·.1)) os f o') (ah.map (·.2)) L
 | [],os,L,r,nd,e=>by cases os<;>simp[Ba]at e
 |(g,x)::ah,os,L,r,nd,e=>by cases os with|nil=>simp[Ba]at e|cons o1 os =>simp only[sG,Az]at r;obtain⟨v,w,L1,L2,ee,r1,r2,rfl⟩:=r;cases ee;simp only[sG,Ba]at e;rw[tX];have i3:=sI.mp nd;cases hb:f==g with|true =>rw[hb]at e;cases e;simp only[Ax]at r1;obtain⟨b,aE,rfl,hd,rfl,rt,rfl⟩:=r1;refine⟨b,aE,rfl,by simp,hd,rfl,rt,λH' o' k l ro=>?_⟩;simp only[sG,Bw,hb,if_true,Az];refine⟨.ref b,_,[b],L2,rfl,ro,Az.le l (λa m=>k a (by simp[m]) λz=>i3.2.2 b (by simp) a m z.symm) r2,rfl⟩|false =>rw[hb]at e;obtain⟨b,aE,h1,h2,h3,h4,h5,h6⟩:=JF r2 i3.2.1 (by simpa using e);refine⟨b,aE,h1,sU _ h2,h3,h4,h5,λH' o' k l ro=>?_⟩;have:=h6 H' o' (λa m=>k a (sU _ m)) l ro;simp only[sG,Bw,hb,Az];exact⟨x,_,L1,L2,rfl,r1.le l λa m=>k a (sX _ m) λz=>i3.2.2 a m b h2 z,this,rfl⟩
def CQ(C:Addr)(f:Str)(i j:Nat)(fv:FS->Out Rv):FS->SO:=λfs=>SO.of (fv fs) λr fs=>match r,AK fs i,fs[j]? with|.t t,some (.ins C' gs os),some (some (.val y))=>if C'=C then(match Ba gs os f,HG y with|some (.l ks ts),some k=>if ks.length<big then .nx (putAt fs i (.ins C gs (Bw gs os f (.l (E4 ks ts k t).1 (E4 ks ts k t).2))))else .bad|_,_=>.bad)else .bad|_,_,_=>.bad
theorem R4{f}{y}(c:Cls X.K C)(n:A4 X.K C f)(i j:Nat)(he:FE X Z e fv)
  (h:∀{tv:TE},PE X e tv->PS X (.Assign [.Subscript (.Attribute (.Name x p1) f p2) (.Name y p3) p4] e pos) (XJ (JbO X.K (JA i) f) (JA j) tv)) :
  GS X Z (.Assign [.Subscript (.Attribute (.Name x p1) f p2) (.Name y p3) p4] e pos) (CQ C f i j fv):=by
 refine Cv (h he) λD U H ⟨F,B,fs,ok,s⟩=>⟨F,B,fs,ok,Cr s λr aj F1 H1 u l q s1=>?_⟩
 split at s1
 .rename_i t C' gs os y' e2 e3;split at s1
  .rename_i hC;subst hC;split at s1
   .rename_i ks ts k e4 e5;split at s1
    .rename_i hl;have au:=q.ok;obtain⟨v,L2,a1,a2,a3,a4,a5⟩:=au.own e2;simp only[Ax]at a2;obtain⟨a,dx,ah,L3,rfl,hd,rfl,ro,rfl⟩:=a2;have nH:=tu.mp a4;obtain⟨b,aE,b1,b2,b3,rfl,b5,b6⟩:=JF ro nH.2 e4;obtain⟨L9,o9⟩:=id au;obtain⟨w,M1,M2,M3,e6,_,h1,_⟩:=o9.sl.pick e3;obtain⟨uy,rfl,ry,_⟩:=h1;have:=D8 e5 ry;subst this;have ie:a≠b:=λz=>nH.1 (z▸b2)
     obtain⟨h1,h2⟩:=FQ (by obtain⟨_,_,_,⟨_,q⟩,_⟩:=q;exact q) b5;have nb:=a3 b (sN _ b2);have l1:Le F1 H1 F1 (upd H1 b (.l (putK aE k u))):=⟨λz f=>⟨f,Ap λq=>nb.1 (q▸f)⟩,λz f=>⟨f,Ap λq=>nb.2 (q▸f)⟩⟩
     obtain⟨bR,l'⟩:=a5 (.ins C' (ah.map (·.1)) (Bw (ah.map (·.1)) os f (.l (E4 (aE.map (·.1)) ts k t).1 (E4 (aE.map (·.1)) ts k t).2))) (upd H1 b (.l (putK aE k u))) (λz hz _=>Ap λq=>hz (by rw[q];exact sN _ b2)) (by simp only[Ax];refine⟨a,dx,ah,L3,rfl,by rw[Ap ie];exact hd,rfl,b6 _ _ (λz _ hz=>Ap hz) l1 ?_,rfl⟩;simp only[Ax];exact⟨b,_,rfl,As,h1,h2.le l1,rfl⟩);exact⟨_,a1,a,C',dx,ah,.ref b,rfl,hd,c,n,b1,kV k,e6,b,_,rfl,NM.k b3 (by rw[sH]at hl;exact um hl Fx),s1 F1 _ U l' bR⟩
    .exact s1.elim
   .exact s1.elim
  .exact s1.elim
 .exact s1.elim
variable{fa:FS->Out (List Rv)}{p:Pos}
theorem ZD(hm:X.mg "len"=none)(ha:FA X Z (e::es) fa)(hg:Gl X "len":=by rfl)(he:starEach (e::es) X.env=(false,eval e X.env)::starEach es X.env:=by rfl)(aC:(backTo pos (starEach es X.env)).any (·.1)=false:=by rfl):
  FE X Z (.Call (.Name "len" p) (e::es) [] pos) (Aj Bx fa):=EN (Dq.or ZY (Dq.or WQ WR)) (CV.orR KC (CV.orR KA ND)) hm PySem.boot_len ha hg (by decide) (by decide) he aC
theorem Wu(hm:X.mg "min"=none)(ha:FA X Z (e::es) fa)(hc:X.calm=true:=by rfl)(hg:Gl X "min":=by rfl)(he:starEach (e::es) X.env=(false,eval e X.env)::starEach es X.env:=by rfl)(aC:(backTo pos (starEach es X.env)).any (·.1)=false:=by rfl):
  FE X Z (.Call (.Name "min" p) (e::es) [] pos) (Aj IY fa):=EN WN (Qa hc) hm boot_min ha hg (by decide) (by decide) he aC
theorem Zr(hm:X.mg "sum"=none)(ha:FA X Z (e::es) fa)(hc:X.calm=true:=by rfl)(hg:Gl X "sum":=by rfl)(he:starEach (e::es) X.env=(false,eval e X.env)::starEach es X.env:=by rfl)(aC:(backTo pos (starEach es X.env)).any (·.1)=false:=by rfl):
  FE X Z (.Call (.Name "sum" p) (e::es) [] pos) (Aj T3 fa):=EN ZX (SV hc) hm boot_sum ha hg (by decide) (by decide) he aC
theorem ZM(hm:X.mg "all"=none)(ha:FA X Z (e::es) fa)(hc:X.calm=true:=by rfl)(hg:Gl X "all":=by rfl)(he:starEach (e::es) X.env=(false,eval e X.env)::starEach es X.env:=by rfl)(aC:(backTo pos (starEach es X.env)).any (·.1)=false:=by rfl):
  FE X Z (.Call (.Name "all" p) (e::es) [] pos) (Aj Zf fa):=EN Z0 (SY hc) hm boot_all ha hg (by decide) (by decide) he aC
theorem Wx(hm:X.mg "list"=none)(ha:FA X Z (e::es) fa)(hc:X.calm=true:=by rfl)(hg:Gl X "list":=by rfl)(he:starEach (e::es) X.env=(false,eval e X.env)::starEach es X.env:=by rfl)(aC:(backTo pos (starEach es X.env)).any (·.1)=false:=by rfl):
  FE X Z (.Call (.Name "list" p) (e::es) [] pos) (Aj Cw fa):=GO (Dq.or WO SU) (CV.orR Kz (Ha hc)) hm boot_list ha hg (by decide) (by decide) he aC
theorem Sr(hm:X.mg "tuple"=none)(ha:FA X Z (e::es) fa)(hg:Gl X "tuple":=by rfl)(he:starEach (e::es) X.env=(false,eval e X.env)::starEach es X.env:=by rfl)(aC:(backTo pos (starEach es X.env)).any (·.1)=false:=by rfl):
  FE X Z (.Call (.Name "tuple" p) (e::es) [] pos) (Aj BQ fa):=GO SS Ji hm boot_tuple ha hg (by decide) (by decide) he aC
theorem Wy(hm:X.mg "int"=none)(ha:FA X Z (e::es) fa)(hg:Gl X "int":=by rfl)(he:starEach (e::es) X.env=(false,eval e X.env)::starEach es X.env:=by rfl)(aC:(backTo pos (starEach es X.env)).any (·.1)=false:=by rfl):
  FE X Z (.Call (.Name "int" p) (e::es) [] pos) (Aj Nj fa):=GO WS Qc hm boot_int ha hg (by decide) (by decide) he aC
def Jag(f:FS->Out Rv):FS->Out Rv:=λfs=>(f fs).bnd λr fs=>match Cu fs r with|some ts=>.ok (.nw (.lst ts.reverse)) fs|none=>.bad
theorem Nt(hc:X.calm=true)(iP:X.mg "list"=none)(fu:X.mg "reversed"=none)(ha:FE X Z a f)(iO:Gl X "list":=by rfl)(eF:Gl X "reversed":=by rfl)
  (he:starEach [(.Call (.Name "reversed" p2) [a] [] bf:Expr)] X.env=[(false,eval (.Call (.Name "reversed" p2) [a] [] bf) X.env)]:=by rfl) (gR:starEach [a] X.env=[(false,eval a X.env)]:=by rfl) :
  FE X Z (.Call (.Name "list" p1) [.Call (.Name "reversed" p2) [a] [] bf] [] fF) (Jag f):=by
 refine A0 (M4 hc iP fu ha iO eF he gR) λU H Q ⟨F,B,fs,ok,s⟩=>⟨F,B,fs,ok,AM s λr aj F1 H1 u l au rx s1=>?_⟩
 split at s1
 next ts k6=>obtain⟨a,vs,rfl,hs,q⟩:=Bg au rx k6;exact⟨a,vs,rfl,hs,λd hd=>s1 F1 _ (.ref d) (A1 au hd) (RR.alloc au hd (C0 As ((q.rev).le (A1 au hd))))⟩
 .exact s1.elim
def JbV(f:FS->Out Rv):FS->Out Rv:=λfs=>(f fs).bnd λr fs=>match r with|.t (.int i)=>okT (.int (-i)) fs|_=>.bad
theorem Zv(ha:FE X Z a f):FE X Z (.UnaryOp .USub a pos) (JbV f):=by
 refine A0 (JaS Xm ha) λU H Q ⟨F,B,fs,ok,s⟩=>⟨F,B,fs,ok,AM s λr aj F1 H1 u l au rx s1=>?_⟩
 split at s1
 .exact⟨_,rx,s1 F1 H1 _ Le.refl (RR.of au rfl)⟩
 .exact s1.elim
def RP(K:Fg)(B:Nat->Option V)(U:St):Wd->Hp->FS->Option Int->Option Int->Prop:=λF H fs a b=>Okk K F B H fs U/\b=a
def tP(K:Fg)(Z:Xp)(f:FS->Out (Option Int)):TO:=λU H Q=>∃F B fs,Okk K F B H fs U/\sat Z B (RP K B U) F H (f fs) Q
def FP(X:Cx)(Z:Xp)(e:Option Expr)(f:FS->Out (Option Int)):Prop:=PO X e (tP X.K Z f)
theorem TB{e}(h:PO X e t)(i:∀U H Q,t' U H Q->t U H Q):PO X e t':=λae s U H Q I q=>h ae s U H Q I (i _ _ _ q)
def noP:FS->Out (Option Int):=λfs=>.ok none fs
def C8(f:FS->Out Rv):FS->Out (Option Int):=λfs=>(f fs).bnd λr fs=>match r with|.t (.int i)=>.ok (some i) fs|_=>.bad
def Um(ts:List T)(lo hi:Option Int):List T:=(ts.drop (HT.sIx ts.length 0 lo)).take (HT.sIx ts.length ts.length hi-HT.sIx ts.length 0 lo)
theorem MA(r:Ah K F H ts vs):Ah K F H (Um ts lo hi) (WL vs lo hi):=by unfold Um WL;rw[r.len];exact(r.drop _).take _
def Xe:Rv->Option Int->Option Int->FS->Out Rv:=λx lo hi fs=>match Cu fs x with|some ts=>okT (.lst (Um ts lo hi)) fs|none=>match x with|.t (.tup ts)=>okT (.tup (Um ts lo hi)) fs|_=>.bad
def slF(f:FS->Out Rv)(l h:FS->Out (Option Int)):FS->Out Rv:=λfs=>(f fs).bnd λx fs=>(l fs).bind λlo fs=>(h fs).bind λhi fs=>Xe x lo hi fs
variable{lo hi:Option Expr}{l h:FS->Out (Option Int)}{p2:Pos}
theorem Wm:FP X Z none noP:=TB U3 λU H Q ⟨F,B,fs,ok,s⟩=>s F H none Le.refl ⟨ok,rfl⟩
theorem Wl(he:FE X Z e f):FP X Z (some e) (C8 f):=by
 refine TB (U2 he) λU H Q ⟨F,B,fs,ok,s⟩=>⟨F,B,fs,ok,AM s λr aj F1 H1 u l au rx s1=>?_⟩
 split at s1
 .exact⟨_,rx,s1 F1 H1 _ Le.refl ⟨au,rfl⟩⟩
 .exact s1.elim
theorem Jbp(he:FE X Z e f)(hl:FP X Z lo l)(hu:FP X Z hi h):FE X Z (.Subscript e (.Slice lo hi none p2) pos) (slF f l h):=by
 refine A0 (Rc (SlR.or UK (SlR.or XC XD)) he hl hu) λU H Q ⟨F,B,fs,ok,s⟩=>⟨F,B,fs,ok,AM s λx aj F1 H1 u l1 au rx s1=>⟨F1,B,aj,au,AJ s1 λlo aA F2 H2 nB l2 q2 s2=>?_⟩⟩
 obtain⟨aQ,rfl⟩:=q2;refine⟨F2,B,aA,aQ,AJ s2 λhi dZ F3 H3 gC l3 q3 s3=>?_⟩;obtain⟨fE,rfl⟩:=q3;have mn:=(rx.le l2).le l3;unfold Xe at s3;split at s3
 next ts e=>obtain⟨a,vs,rfl,hs,r⟩:=Bg fE mn e;exact .inl ⟨a,vs,rfl,hs,λp hp=>s3 _ _ (.ref p) (A5 fE hp) (MX fE hp (MA r))⟩
 .split at s3
  .rename_i ts _;obtain⟨a,vs,rfl,hs,r⟩:=BG mn rfl;by_cases hw:HT.sIx ts.length 0 nB=0/\HT.sIx ts.length ts.length gC=ts.length
   .refine .inr (.inr ⟨a,vs,rfl,hs,by rw[r.len];exact hw,s3 F3 H3 _ Le.refl (RR.of fE ?_)⟩);have e:Um ts nB gC=ts:=by unfold Um;rw[hw.1,hw.2];simp
    rw[e];exact mn
   .exact .inr (.inl ⟨a,vs,rfl,hs,by rw[r.len];exact hw,λp hp=>s3 _ _ (.ref p) (A5 fE hp) (E3 fE hp (MA r))⟩)
  .exact s3.elim
def QQ:T->Option (List T)
 |.lst ts=>some ts
 |.zU ts=>some ts
 |.tup ts=>some ts
 |_=>none
def pairs:List T->List T->List T
 |x::xs,y::ys=>.tup [x,y]::pairs xs ys
 |_,_=>[]
theorem pairs_at:∀{xs ys:List T}{i:Nat}{t:T},(pairs xs ys)[i]?=some t->∃x y,xs[i]?=some x/\ys[i]?=some y/\t=.tup [x,y]
 | [],_,i,t,h=>by simp[pairs]at h
 |_::_,[],i,t,h=>by simp[pairs]at h
 |x::xs,y::ys,0,t,h=>by simp only[pairs,List.getElem?_cons_zero,Option.some.injEq]at h;exact⟨x,y,rfl,rfl,h.symm⟩
 |x::xs,y::ys,i+1,t,h=>by simp only[pairs,List.getElem?_cons_succ]at h;simpa using pairs_at h
theorem pairs_len:∀{xs ys:List T}{i:Nat},(pairs xs ys).length<=i->xs.length<=i\/ys.length<=i
 | [],_,i,h=>.inl (by simp)
 |_::_,[],i,h=>.inr (by simp)
 |x::xs,y::ys,0,h=>by simp[pairs]at h
 |x::xs,y::ys,i+1,h=>by simp only[pairs,tj,Nat.add_le_add_iff_right]at h;simpa using pairs_len h
theorem Iz(r:AE K F H t u)(e:QQ t=some ts):∃b a vs,u=.ref a/\Ah K F H ts vs/\∀(F':Wd)(H':Hp),(∀a,F a->F' a/\H' a=H a)->SqB b K H' a vs:=by
 unfold QQ at e;split at e
 .cases e;simp only[AE]at r;obtain⟨a,vs,rfl,f,hs,r⟩:=r;exact⟨false,a,vs,rfl,r,λF' H' l=>SqL.of ((l a f).2.trans hs)⟩
 .cases e;simp only[AE]at r;obtain⟨a,vs,rfl,hs,r⟩:=r;exact⟨false,a,vs,rfl,r,λF' H' l=>(StL.lf l hs).sq⟩
 .cases e;simp only[AE]at r;obtain⟨a,vs,rfl,hs,r⟩:=r;exact⟨true,a,vs,rfl,r,λF' H' l=>SqT.of ((l a hs.2.1).2.trans hs.2.2)⟩
 .cases e
def itZ(f g:FS->Out Rv):FS->Out (List T):=λfs=>(f fs).bnd λr fs=>(g fs).bnd λr' fs=>match r,r' with
 |.t x,.t y=>match QQ x,QQ y with|some xs,some ys=>.ok (pairs xs ys) fs|_,_=>.bad
 |_,_=>.bad
theorem VW(h1:∀(F':Wd)(H':Hp),(∀a,F a->F' a/\H' a=H a)->SqB b1 K H' a1 vs)(h2:∀(F':Wd)(H':Hp),(∀a,F a->F' a/\H' a=H a)->SqB b2 K H' a2 ws)
  (r1:Ah K F H xs vs) (r2:Ah K F H ys ws):JOk K F H (Itz K b1 a1 b2 a2) (pairs xs ys):=by
 intro F' H' l ⟨B,fs,U,ok⟩ i;refine⟨λt et=>?_,λhl=>⟨vs,ws,h1 F' H' l,h2 F' H' l,by rw[r1.len,r2.len];exact pairs_len hl⟩⟩;obtain⟨x,y,ex,ey,rfl⟩:=pairs_at et;obtain⟨v,ev,rv⟩:=(Ah.lf l r1).at ex;obtain⟨w,ew,dM⟩:=(Ah.lf l r2).at ey;refine⟨⟨vs,ws,v,w,h1 F' H' l,h2 F' H' l,ev,ew⟩,λz gx hy=>?_⟩;obtain⟨T,vx,vy,hn,rfl,rfl,g1,g2⟩:=hy;have e1:=g1 vs (h1 F' H' l);have e2:=g2 ws (h2 F' H' l);rw[ev]at e1;rw[ew]at e2;cases e1;cases e2;refine⟨Qq F' T,⟨A5 ok hn,λB fs U k=>k.alloc hn⟩,?_⟩;simp only[AE];exact⟨T,[v,w],rfl,⟨rfl,.inr rfl,As⟩,by simp only[Ah];exact⟨v,[w],rfl,rv.le (A5 ok hn),w,[],rfl,dM.le (A5 ok hn),rfl⟩⟩
theorem Zn{fa}(hm:X.mg "zip"=none)(ha:FE X Z a fa)(hb:FE X Z b fb)(hg:Gl X "zip":=by rfl)
  (hs:starEach [a,b] X.env=[(false,eval a X.env),(false,eval b X.env)]:=by rfl) (bw:starEach [b] X.env=[(false,eval b X.env)]:=by rfl):FI X Z (.Tuple fm k0 cf) (.Call (.Name "zip" p) [a,b] [] pos) (itZ fa fb):=by
 refine JP (X8 hg hm (Dt ha (Dt hb HP bw) (by rw[hs,bw])) hs bw) λU H Q ⟨F,B,fs,ok,s⟩=>?_
 refine⟨F,B,fs,ok,AM s λr aj F1 H1 u l1 au rx s1=>⟨F1,B,aj,au,AM s1 λr' aA F2 H2 u' l2 aQ ry s2=>?_⟩⟩;split at s2
 .rename_i x y;split at s2
  next xs ys e1 e2=>obtain⟨b1,a1,vs,rfl,q1,h1⟩:=Iz (AE.le l2 rx) e1;obtain⟨b2,a2,ws,rfl,q2,h2⟩:=Iz ry e2;exact⟨b1,a1,b2,a2,rfl,⟨vs,h1 F2 H2 λ_ f=>⟨f,rfl⟩⟩,⟨ws,h2 F2 H2 λ_ f=>⟨f,rfl⟩⟩,s2 F2 H2 _ Le.refl ⟨aQ,VW h1 h2 q1 q2⟩⟩
  .exact s2.elim
 .exact s2.elim
def orM(g g':Rv->List Rv->FS->Out Rv):Rv->List Rv->FS->Out Rv:=λx rs fs=>match g x rs fs with|.bad=>g' x rs fs|o=>o
theorem MtF.or{g}{r'}{r}{g'}(h:MtF K Z r g)(h':MtF K Z r' g'):MtF K Z (Jai r r') (orM g g'):=by intro F B H U fs x rs u vs Q ok rx q s;unfold orM at s;cases e:g x rs fs with|ok a t=>rw[e]at s;exact .inl (h F B H U fs x rs u vs Q ok rx q (by rw[e];exact s))|exc c t=>rw[e]at s;exact .inl (h F B H U fs x rs u vs Q ok rx q (by rw[e];exact s))|bad=>rw[e]at s;exact .inr (h' F B H U fs x rs u vs Q ok rx q s)
def Nl:Rv->List Rv->FS->Out Rv
 |.n i,[.t (.tup us)],fs=>match AK fs i with|some (.lst ts)=>if ts.length+us.length<=big then .ok (.t .v) (putAt fs i (.lst (ts++us)))else .bad|_=>.bad
 |_,_,_=>.bad
theorem VN:MtF K Z (QY K) Nl:=by
 intro F B H U fs x rs u vs Q ok rx q s;unfold Nl at s;split at s
 .rename_i i ws;obtain⟨v,rfl,qq⟩:=Bh q;have q:=qq;split at s
  .rename_i ts e;split at s
   next hl=>obtain⟨a,us,rfl,hs,r,k⟩:=ok.list rx e;simp only[BL,AE]at q;obtain⟨b,zs,rfl,hb,rz⟩:=q;obtain⟨bR,l⟩:=k _ _ (r.app rz);exact⟨a,b,us,zs,rfl,rfl,hs,hb.sq,by rw[r.len,rz.len];exact tK hl D2,s F _ _ l (RR.of bR rfl)⟩
   .exact s.elim
  .exact s.elim
 .exact s.elim
def Nk:=orM Jan Nl
theorem VM:MtF K Z (Jai IB (QY K)) Nk:=MtF.or YI VN
theorem VH:MtR X "list.extend" (Jai IB (QY X.K)):=MtR.orR OL VI
variable{f:Expr}{fk fd:FS->Out Rv}
def Gf:T->Option (List T)
 |.tup ts=>some ts
 |_=>none
theorem QG(e:Gf t=some ts):t=.tup ts:=by cases t<;>first|(cases e;rfl)|cases e
def Jt(f:T->T->Option Bool):List T->List T->Option Bool
 |x::xs,y::ys=>(f x y).bind λb=>(Jt f xs ys).map (b&&·)
 |_,_=>some true
def eqT:Nat->T->T->Option Bool
 |0,x,y=>(plV x).bind λu=>(plV y).map (eqV u)
 |n+1,x,y=>match Gf x with
  |some xs=>match Gf y with|some ys=>(Jt (eqT n) xs ys).map (·&&xs.length==ys.length)|none=>(plV y).map λ_=>false
  |none=>match Gf y with
   |some _=>(plV x).map λ_=>false
   |none=>(plV x).bind λu=>(plV y).map (eqV u)
def eAt(f:T->T->Option Bool)(xs ys:List T)(j:Nat):Bool:=(f (xs.getD j .v) (ys.getD j .v)).getD false
theorem Dy{f}:∀{xs ys:List T}{b:Bool},Jt f xs ys=some b->b=(List.range (min xs.length ys.length)).all (eAt f xs ys)
 | [],_,_,e=>by cases e;simp
 |_::_,[],_,e=>by cases e;simp
 |x::xs,y::ys,b,e=>by
  simp only[Jt,tE,sR]at e;obtain⟨c,e1,d,e2,rfl⟩:=e;rw[tj,tj,Nat.succ_min_succ,List.range_succ_eq_map,List.all_cons,List.all_map,(Dy e2)];have h0:eAt f (x::xs) (y::ys) 0=c:=by simp[eAt,e1]
  rw[h0];congr 1
theorem LC{f}:∀{xs ys:List T}{b:Bool},Jt f xs ys=some b->∀(j:Nat)(x y:T),xs[j]?=some x->ys[j]?=some y->f x y=some (eAt f xs ys j)
 | [],_,_,e=>by intro j x y h;simp at h
 |_::_,[],_,e=>by intro j x y _ h;simp at h
 |x::xs,y::ys,b,e=>by simp only[Jt,tE,sR]at e;obtain⟨c,e1,d,e2,rfl⟩:=e;intro j x' y' h1 h2;cases j with|zero =>simp only[List.getElem?_cons_zero,Option.some.injEq]at h1 h2;subst h1 h2;simp[eAt,e1]|succ j =>rw[List.getElem?_cons_succ]at h1 h2;have:=LC e2 _ _ _ h1 h2;rw[this];simp[eAt]
theorem SE(h:Ff v=true):eqV v v=true:=by cases v<;>first|rfl|(simp[eqV];done)|(simp[Ff]at h)
theorem TC{x}{b}(rx:AE K F H x v)(ry:AE K F H y v)(e:((plV x).bind λu=>(plV y).map (eqV u))=some b):b=true:=by simp only[tE,sR]at e;obtain⟨u,e1,w,e2,rfl⟩:=e;have h1:=BZ e1 rx;have h2:=BZ e2 ry;subst h1 h2;exact SE (C3 e1)
theorem JN{a}{x}(e:plV x=some u)(r:AE K F H x v):v≠.ref a:=by have h1:=BZ e r;subst h1;have:=C3 e;intro h;subst h;cases this
theorem Dg(e:Gf t=some ts)(r:AE K F H t v):∃a vs,v=.ref a/\StT K F H a vs/\Ah K F H ts vs:=by cases QG e;simpa only[AE]using r
theorem Mw:∀{n:Nat}{x y:T}{v:V}{b:Bool},eqT n x y=some b->AE K F H x v->AE K F H y v->b=true
 |0,x,y,v,b,e,rx,ry=>TC rx ry e
 |n+1,x,y,v,b,e,rx,ry=>by
  unfold eqT at e;cases e1:Gf x with
  |none =>rw[e1]at e;cases e2:Gf y with|none=>rw[e2]at e;exact TC rx ry e|some ys =>rw[e2]at e;obtain⟨a,vs,rfl,_⟩:=Dg e2 ry;obtain⟨u,e3,_⟩:=sR.mp e;exact absurd rfl (JN e3 rx)
  |some xs =>
   rw[e1]at e;obtain⟨a,vs,rfl,sx,kh⟩:=Dg e1 rx;cases e2:Gf y with
   |none =>rw[e2]at e;obtain⟨u,e3,_⟩:=sR.mp e;exact absurd rfl (JN e3 ry)
   |some ys =>
    rw[e2]at e;obtain⟨a',eT,ea,sy,ki⟩:=Dg e2 ry;cases ea;have hv:vs=eT:=by have:=sx.2.2.symm.trans sy.2.2;injection this with this;injection this
    subst hv;obtain⟨c,e3,rfl⟩:=sR.mp e;have hl:xs.length=ys.length:=by rw[<- kh.len,<- ki.len]
    rw[tH];refine⟨?_,by simp[hl]⟩;rw[Dy e3,ub];intro j hj;rw[uw]at hj;have h1:j<xs.length:=by omega
    have h2:j<ys.length:=by omega
    have g1:=sL h1;have g2:=sL h2;obtain⟨v1,q1,r1⟩:=kh.at g1;obtain⟨v2,q2,r2⟩:=ki.at g2;have:=by rw[q1]at q2;injection q2
    subst this;exact Mw (LC e3 _ _ _ g1 g2) r1 r2
variable{ae:List (Addr×Obj)}{s:Shared}
theorem Mv{l}{u}{y}(hl:s.heap.IsTuple l items)(hu:A.units<cLine)(ry:RelV y u)(fy:Ff y=true):
  SeqAt.EqAt A s (.ref l) u false/\SeqAt.EqAt A s u (.ref l) false/\SeqAt.RcAt A s (.ref l) u false/\SeqAt.RcAt A s u (.ref l) false:=by
 cases y with|v=>cases ry;exact⟨.tuple_none hl hu,.none_tuple hl hu,.tuple_none hl hu,.none_tuple hl hu⟩|o b=>cases ry;exact⟨.tuple_bool _ hl hu,.bool_tuple _ hl hu,.tuple_bool _ hl hu,.bool_tuple _ hl hu⟩|int b=>obtain⟨t,rfl⟩:=ry;exact⟨.tuple_int _ _ hl hu,.int_tuple _ _ hl hu,.tuple_int _ _ hl hu,.int_tuple _ _ hl hu⟩|str b=>obtain⟨t,rfl⟩:=ry;exact⟨.tuple_str _ _ hl hu,.str_tuple _ _ hl hu,.tuple_str _ _ hl hu,.str_tuple _ _ hl hu⟩|_=>cases fy
theorem L8{u}{w}{x}{b}(rx:AE X.K F H x v)(ry:AE X.K F H y w)(qx:RelV v u)(qy:RelV w u')(e:((plV x).bind λu=>(plV y).map (eqV u))=some b):SeqAt.EqAt A s u u' b:=by simp only[tE,sR]at e;obtain⟨p,e1,q,e2,rfl⟩:=e;have h1:=BZ e1 rx;have h2:=BZ e2 ry;subst h1 h2;exact Uj qx qy (C3 e1) (C3 e2)
theorem items_eqAt{f}{b}(e:Jt f xs ys=some b)(rx:Ah X.K F H xs vs)(ry:Ah X.K F H ys ws)(qx:Vals vs us)(qy:Vals ws us')
  (ih:∀{x y:T}{v w:V}{u u':Value}{b:Bool},f x y=some b->AE X.K F H x v->AE X.K F H y w->RelV v u->RelV w u'->SeqAt.EqAt A s u u' b) :
  ∀j (h1:j<us.toArray.size) (h2:j<us'.toArray.size),SeqAt.EqAt A s us.toArray[j] us'.toArray[j] (eAt f xs ys j):=by
 intro j h1 h2;have l1:=rx.len;have l2:=ry.len;have l3:=qx.length;have l4:=qy.length;rw[sJ]at h1 h2;have g1:xs[j]?=some (xs[j]'(by omega)):=sL (by omega);have g2:ys[j]?=some (ys[j]'(by omega)):=sL (by omega);obtain⟨v,q1,r1⟩:=rx.at g1;obtain⟨w,q2,r2⟩:=ry.at g2;obtain⟨u,p1,o1⟩:=qx.get q1;obtain⟨u',p2,o2⟩:=qy.get q2;rw[sL h1]at p1;rw[sL h2]at p2;injection p1 with p1;injection p2 with p2;rw[show us.toArray[j]=us[j] by simp,show us'.toArray[j]=us'[j] by simp,p1,p2];exact ih (LC e _ _ _ g1 g2) r1 r2 o1 o2
theorem Kn(I:Inv X ae U H s):∀{n:Nat}{A:Around}{x y:T}{v w:V}{u u':Value}{b:Bool},A.units+n<cLine->eqT n x y=some b->AE X.K F H x v->AE X.K F H y w->RelV v u->RelV w u'->SeqAt.EqAt A s u u' b
 |0,A,x,y,v,w,u,u',b,hu,e,rx,ry,qx,qy=>L8 rx ry qx qy e
 |n+1,A,x,y,v,w,u,u',b,hu,e,rx,ry,qx,qy=>by
  have e0:=e;unfold eqT at e;cases e1:Gf x with
  |none =>rw[e1]at e;cases e2:Gf y with|none=>rw[e2]at e;exact L8 rx ry qx qy e|some ys =>rw[e2]at e;obtain⟨a,vs,rfl,st,_⟩:=Dg e2 ry;obtain⟨p,e3,rfl⟩:=sR.mp e;have h1:=BZ e3 rx;subst h1;cases qy;obtain⟨ak,_,ht,_⟩:=I.tuple st.sq;exact(Mv ht (by omega) qx (C3 e3)).2.1
  |some xs =>
   rw[e1]at e;obtain⟨a,vs,rfl,sx,kh⟩:=Dg e1 rx;cases qx;obtain⟨ak,vx,ht,_⟩:=I.tuple sx.sq;cases e2:Gf y with
   |none =>rw[e2]at e;obtain⟨p,e3,rfl⟩:=sR.mp e;have h1:=BZ e3 ry;subst h1;exact(Mv ht (by omega) qy (C3 e3)).1
   |some ys =>
    rw[e2]at e;obtain⟨a',eT,rfl,sy,ki⟩:=Dg e2 ry;cases qy;obtain⟨aR,gq,gh,_⟩:=I.tuple sy.sq;by_cases ie:a=a'
    .subst ie;rw[Mw e0 rx ry];exact SeqAt.EqAt.same _
    .obtain⟨c,e3,rfl⟩:=sR.mp e;have l1:ak.length=xs.length:=by rw[<- vx.length,kh.len]
     have l2:aR.length=ys.length:=by rw[<- gq.length,ki.len]
     have:=SeqAt.RcAt.tuples ht gh (by omega) (items_eqAt e3 kh ki vx gq (λh r1 r2 o1 o2=>Kn I (A:=A.in1) (by show A.units+1+n<_;omega) h r1 r2 o1 o2));rw[sJ,sJ,l1,l2,<- Dy e3]at this;exact SeqAt.EqAt.of_refs ie this
def eqB(neg:Bool)(xs ys:List T)(fs:FS):Out Rv:=match Jt (eqT 60) xs ys with|some b=>okT (.o (if neg then !(b&&xs.length==ys.length)else(b&&xs.length==ys.length))) fs|none=>.bad
def Jao(neg:Bool):Rv->Rv->FS->Out Rv:=λx y fs=>match K3 x with
 |some xs=>match K3 y with|some ys=>eqB neg xs ys fs|none=>.bad
 |none=>match Cu fs x with
  |some xs=>match Cu fs y with|some ys=>eqB neg xs ys fs|none=>.bad
  |none=>.bad
def EqS(X:Cx)(neg:Bool)(H:Hp)(x y:V)(b:Bool):Prop:=∀(ae:List (Addr×Obj))(U:St)(s:Shared)(u w:Value),Inv X ae U H s->RelV x u->RelV y w ->
 if neg then SeqAt.RcNeAt X.A s u w (!b)else SeqAt.RcAt X.A s u w b
def Jah(X:Cx)(neg:Bool):R2:=λx y H Q=>∃b,EqS X neg H x y b/\Q (.o (if neg then !b else b)) H
theorem Yu:OpR X (compareOp .Eq) (Jah X false):=by intro ae s U H x y v u Q I rx ry h;obtain⟨b,e,q⟩:=h;exact(e ae U s v u I rx ry) X.prog X.w X.xe _ ⟨.o b,H,I,rfl,q⟩
theorem Ys:OpR X (compareOp .NotEq) (Jah X true):=by intro ae s U H x y v u Q I rx ry h;obtain⟨b,e,q⟩:=h;exact(e ae U s v u I rx ry) X.prog X.w X.xe _ ⟨.o (!b),H,I,rfl,q⟩
theorem WD{a}{b}(hu:X.A.units+61<cLine)(e:Jt (eqT 60) xs ys=some b)(sx:SqT X.K H a vs)(sy:SqT X.K H a' ws)(rx:Ah X.K F H xs vs)(ry:Ah X.K F H ys ws):
  EqS X neg H (.ref a) (.ref a') (b&&xs.length==ys.length):=by
 intro ae U s u w I qx qy;cases qx;cases qy;obtain⟨ak,vx,ht,_⟩:=I.tuple sx;obtain⟨aR,gq,gh,_⟩:=I.tuple sy;have l1:ak.length=xs.length:=by rw[<- vx.length,rx.len]
 have l2:aR.length=ys.length:=by rw[<- gq.length,ry.len]
 have he:=items_eqAt e rx ry vx gq (λh r1 r2 o1 o2=>Kn I (A:=X.A.in1) (by show X.A.units+1+60<_;omega) h r1 r2 o1 o2);cases neg with|false =>have:=SeqAt.RcAt.tuples ht gh (by omega) he;rw[sJ,sJ,l1,l2,<- Dy e]at this;exact this|true =>have:=SeqAt.RcNeAt.tuples ht gh (by omega) he;rw[sJ,sJ,l1,l2,<- Dy e]at this;exact this
theorem WE{a}{b}(hu:X.A.units+61<cLine)(e:Jt (eqT 60) xs ys=some b)(sx:SqL X.K H a vs)(sy:SqL X.K H a' ws)(rx:Ah X.K F H xs vs)(ry:Ah X.K F H ys ws):
  EqS X neg H (.ref a) (.ref a') (b&&xs.length==ys.length):=by
 intro ae U s u w I qx qy;cases qx;cases qy;obtain⟨ak,vx,ht,_⟩:=I.list sx;obtain⟨aR,gq,gh,_⟩:=I.list sy;have l1:ak.length=xs.length:=by rw[<- vx.length,rx.len]
 have l2:aR.length=ys.length:=by rw[<- gq.length,ry.len]
 have he:=items_eqAt e rx ry vx gq (λh r1 r2 o1 o2=>Kn I (A:=X.A.in1) (by show X.A.units+1+60<_;omega) h r1 r2 o1 o2);by_cases hl:xs.length=ys.length
 .have hs:ak.toArray.size=aR.toArray.size:=by rw[sJ,sJ];omega
  have hb:(b&&xs.length==ys.length)=(List.range ak.toArray.size).all (eAt (eqT 60) xs ys):=by rw[Dy e,hl,Nat.min_self,sJ,l1,hl];simp
  rw[hb];cases neg with|false=>exact SeqAt.RcAt.lists ht.isList gh.isList hs (by omega) he|true=>exact SeqAt.RcNeAt.lists ht.isList gh.isList hs (by omega) he
 .have hs:(ak.toArray.size !=aR.toArray.size)=true:=by rw[sJ,sJ,bne_iff_ne];omega
  have hb:(b&&xs.length==ys.length)=false:=by simp[hl]
  rw[hb];cases neg with|false=>exact SeqAt.RcAt.lists_lengths ht.isList gh.isList hs (by omega)|true=>exact SeqAt.RcNeAt.lists_lengths ht.isList gh.isList hs (by omega)
theorem YE(neg:Bool)(hu:X.A.units+61<cLine):OpF X.K Z (Jah X neg) (Jao neg):=by
 intro F B H U fs x y u w Q ok rx ry s;unfold Jao at s;cases e1:K3 x with
 |some xs =>rw[e1]at s;cases e2:K3 y with|none=>rw[e2]at s;exact s.elim|some ys =>rw[e2]at s;obtain⟨a,vs,rfl,sx,r1⟩:=BG rx e1;obtain⟨a',ws,rfl,sy,r2⟩:=BG ry e2;simp only[eqB]at s;cases e3:Jt (eqT 60) xs ys with|none=>rw[e3]at s;exact s.elim|some b =>rw[e3]at s;exact⟨_,WD hu e3 sx sy r1 r2,s F H _ Le.refl (RR.of ok rfl)⟩
 |none =>rw[e1]at s;cases e2:Cu fs x with|none=>rw[e2]at s;exact s.elim|some xs =>rw[e2]at s;cases e3:Cu fs y with|none=>rw[e3]at s;exact s.elim|some ys =>rw[e3]at s;obtain⟨a,vs,rfl,sx,r1⟩:=Bg ok rx e2;obtain⟨a',ws,rfl,sy,r2⟩:=Bg ok ry e3;simp only[eqB]at s;cases e4:Jt (eqT 60) xs ys with|none=>rw[e4]at s;exact s.elim|some b =>rw[e4]at s;exact⟨_,WE hu e4 sx sy r1 r2,s F H _ Le.refl (RR.of ok rfl)⟩
variable{fa:FS->Out Rv}
def Mo(fs:FS):Rv->Option Bool
 |.t t=>some (match t with|.v=>true|_=>false)
 |.n i=>match AK fs i with|some (.l _ _)=>some false|some (.lst _)=>some false|_=>none
 |.nw _=>none
def T4(neg:Bool):Rv->Rv->FS->Out Rv:=λx y fs=>match y with
 |.t .v=>match Mo fs x with|some b=>okT (.o (if neg then !b else b)) fs|none=>.bad
 |_=>.bad
theorem RI{b}{x}(ok:Okk K F B H fs U)(rx:BL K F H U x u)(e:Mo fs x=some b):decide (u=V.v)=b:=by
 cases x with
 |t t =>have rx:AE K F H t u:=rx;cases t with|v=>cases e;cases rx;rfl|o=>cases e;cases rx;rfl|int=>cases e;cases rx;rfl|str=>cases e;cases rx;rfl|ins=>cases e;simp only[AE]at rx;obtain⟨a,dx,vs,rfl,_⟩:=rx;rfl|_=>cases e;simp only[AE]at rx;obtain⟨a,vs,rfl,_⟩:=rx;rfl
 |nw o=>cases e
 |n i =>
  have e2:U[i]?=some (some u):=rx;simp only[Mo]at e;split at e
  .rename_i eo;cases e;obtain⟨v,L2,e1,q,_⟩:=ok.own eo;rw[e1]at e2;have e3:v=u:=by simpa using e2
   subst e3;simp only[Ax]at q;obtain⟨a,ah,rfl,_⟩:=q;rfl
  .rename_i eo;cases e;obtain⟨v,L2,e1,q,_⟩:=ok.own eo;rw[e1]at e2;have e3:v=u:=by simpa using e2
   subst e3;simp only[Ax]at q;obtain⟨a,ah,rfl,_⟩:=q;rfl
  .cases e
theorem TQ:OpF K Z (λx y H Q=>y=.v/\Q (.o (decide (x=.v))) H) (T4 false):=by
 intro F B H U fs x y u w Q ok rx ry s;unfold T4 at s;split at s
 .split at s
  next b e=>refine⟨ry,?_⟩;rw[(RI ok rx e)];exact s F H _ Le.refl (RR.of ok rfl)
  .exact s.elim
 .exact s.elim
theorem Ub(ha:FE X Z a fa)(hb:FE X Z b fb):FE X Z (.Compare a [.Is] [b] pos) (Ag (T4 false) fa fb):=Kk TQ TM ha hb (DQ _)
theorem T6(ha:FE X Z a fa)(hb:FE X Z b fb):FT X Z (.Compare a [.Is] [b] pos) (asB (Ag (T4 false) fa fb)):=Ek TQ TM ha hb (DQ _)
theorem JbX(hr:DK k A):A.units+61<cLine:=by have:=hr.units;omega
variable{f:FS->Out Rv}{fa:FS->Out (List Rv)}{p1 fF bf:Pos}
theorem Okk.frzF(h:Okk K F B H fs U)(e:U[i]?=some (some u))(es:fs[i]?=some (some (.own (.l ks ts)))):
  ∃a ah,u=.ref a/\H a=some (.l ah)/\ah.map (·.1)=ks/\∀o,Le F H (ML F [a]) (upd H a (.frz o (.l ah)))/\Okk K (ML F [a]) B (upd H a (.frz o (.l ah))) (fs.set i (some (.val (.dF ks ts)))) U/\AE K (ML F [a]) (upd H a (.frz o (.l ah))) (.dF ks ts) (.ref a):=by
 obtain⟨L,o1⟩:=h;obtain⟨v,L1,L2,L3,e1,rfl,h1,h2⟩:=o1.sl.pick es;obtain⟨w,rfl,q2⟩:=h1;rw[e1]at e;have eu:w=u:=by simpa using e
 subst eu;have q3:=q2;simp only[Ax]at q3;obtain⟨a,ah,rfl,hd,rfl,q,rfl⟩:=q3;refine⟨a,ah,rfl,hd,rfl,λob=>?_⟩;have dg:=o1.nd;have na:∀b∈L1++L3,b≠a:=λb hb z=>by
  subst z;rw[sI]at dg;rcases sW.mp hb with m|m
  .exact dg.2.2 b m b (by simp) rfl
  .exact(sI.mp dg.2.1).2.2 b (by simp) b m rfl
 have l2:Le F H (ML F [a]) (upd H a (.frz ob (.l ah))):=⟨λb f=>⟨.inl f,Ap λz=>o1.nf b (by subst z;simp) f⟩,λb f=>⟨f,Ap λz=>o1.pl b (by subst z;simp) f⟩⟩
 have r2:AE K (ML F [a]) (upd H a (.frz ob (.l ah))) (.dF (ah.map (·.1)) ts) (.ref a):=by simp only[AE];exact⟨a,ah,rfl,.inr (by simp),⟨ob,As⟩,rfl,q.le l2⟩
 refine⟨l2,⟨L1++([]++L3),?_⟩,r2⟩;have h3:=h2 (ML F [a]) (upd H a (.frz ob (.l ah))) (some (.val (.dF (ah.map (·.1)) ts))) (some (.ref a)) [] l2 (λb hb=>Ap (na b hb)) ⟨.ref a,rfl,r2,rfl⟩;rw[BM e1]at h3;refine⟨h3,CJ dg sY (λ_ m=>nomatch m),λb m z=>?_,λb z=>?_,?_,λb z=>?_,λb z=>?_,λb m=>o1.pl b ?_⟩
 .have m':b∈L1\/b∈L3:=by simpa using m
  rcases z with z|z
  .exact o1.nf b (by rcases m' with m|m<;>simp[m]) z
  .exact na b (by rcases m' with m|m<;>simp[m]) (by simpa using z)
 .rcases z with z|z
  .rw[Ap λy=>o1.nf b (by subst y;simp) z];exact o1.fd b z
  .have:b=a:=by simpa using z
   subst this;rw[As];exact λy=>nomatch y
 .have:=FG.put (i:=i) (s:=some (.val (.dF (ah.map (·.1)) ts))) (v:=some (.ref a)) o1.bo (λo eo=>by cases eo) o1.sl.len;rwa[BM e1]at this
 .rw[Ap λy=>o1.pl b (by subst y;simp) z];exact o1.pd b z
 .rcases z with z|z
  .exact o1.pf b z
  .have:b=a:=by simpa using z
   subst this;exact o1.pl b (by simp)
 .have m':b∈L1\/b∈L3:=by simpa using m
  rcases m' with m|m<;>simp[m]
def EZ(K:Fg)(Z:Xp):XE:=λcv U H=>∃F B fs c C,Dm K c=some C/\cv=.ref C/\Okk K F B H fs U/\Z.p F B H c fs
def Lks(X:Cx)(Z:Xp):Prop:=Lk X (EZ X.K Z)
theorem Lks.no:Lks X Xp.no:=λ_ _ _ _ _ _ _ ⟨_,_,_,_,_,_,_,_,_,_,_,⟨_,_,_,_,_,_,_,_,z⟩⟩=>z.elim
structure LkD(X:Cx)(Z:Xp):Prop where
 d:Qr X
 k:∀e s,XW X (EZ X.K Z) e s->X.xe e s
 own:PassesOwn (model X.prog X.w) X.A X.env X.xe
theorem LkD.lk(l:LkD X Z):Lks X Z:=Lk.of l.d.ex l.k
def Zd(K:Fg)(E:XK):Xp:=⟨λF B H c fs=>∀C,Dm K c=some C->∀F' H' ar,Le F H F' H'->Okk K F' B H' fs ar->E (.ref C) none H',λh l C hC F' H' ar l' k=>h C hC F' H' ar (l.trans l') k⟩
def spX(K:Fg)(p:Nat)(Fn:FS->Out Rv):Sp:=λvs H Q E=>vs.length=p/\∃F dm,Okk K F (Bof (vs.map some)) H dm (vs.map some)/\match Fn dm with|.ok r τ=>∀F' H' u ar,Le F H F' H'->RR K (Bof (vs.map some)) ar F' H' τ r u->Q u H'|.exc c τ=>∀C,Dm K c=some C->∀F' H' ar,Le F H F' H'->Okk K F' (Bof (vs.map some)) H' τ ar->E (.ref C) none H'|.bad=>False
def GS0(X:Cx)(Z:Xp)(st:Stmt)(g:FS->SO):Prop:=PS0 X st (tSt X.K Z g)
def Jaw(X:Cx)(Z:Xp)(kj:List Stmt)(g:FS->SO):Prop:=Te X kj (tSt X.K Z g)
variable{g h:FS->SO}
theorem GS.zero(q:GS X Z st g):GS0 X Z st g:=PS.zero q
theorem GSs.zero(q:GSs X Z rest g):Jaw X Z rest g:=PSs.zero q
theorem GG(h1:GS0 X Z st g)(h2:Jaw X Z rest h):Jaw X Z (st::rest) (Av g h):=by
 intro s0 U H D I q;refine Oh h1 h2 s0 U H D I ?_;obtain⟨F,B,fs,ok,s⟩:=q;refine⟨F,B,fs,ok,?_⟩;unfold Av at s;cases e:g fs with
 |nx aj =>rw[e]at s;exact λF1 H1 fH l k=>⟨F1,B,aj,k,FN.le s l⟩
 |ret r aj=>rw[e]at s;exact s
 |brk aj=>rw[e]at s;exact s
 |cnt aj=>rw[e]at s;exact s
 |exc c aj=>rw[e]at s;exact s
 |bad=>rw[e]at s;exact s
theorem Kg{f}{fd}(Fu:Fun K x qual st f fd)(S:Jq N ps (Bz st))(p n:Nat)(hp:ps.length=p)(hn:N.length=p+n)
  (hb:∀aV (A:Around) outer (s:Shared) H E E' (Z:Xp),DK k (A.deeper (envOfC qual (Bz st) s.heap.objs.size f aV))->LkD ((NB (CX1 P w) P w K mg base N qual (Bz st) f aV A outer s H E).Gd E') Z ->
   Jaw ((NB (CX1 P w) P w K mg base N qual (Bz st) f aV A outer s H E).Gd E') Z (Et st) g):EY P w K mg base (CX1 P w) (k+1) f fd ps (spX K p (Bo n g)):=by
 refine Fu.ok0 S (λvs H Q E h=>by rw[h.1,hp]) (λaV A outer s H vs Q E hr h=>⟨_,hb aV A outer s H E _ (Zd K E) hr ⟨⟨rfl,rfl,rfl,rfl⟩,λe s q=>?_,XW.own ZV⟩,?_⟩)
 .refine XW.imp (XW.Gd q) λc U H z=>?_
  obtain⟨F,B,fs,c,C,hC,rfl,ok,z⟩:=z;exact z C hC F H U Le.refl ok
 obtain⟨hl,F,dm,⟨L,ok⟩,h⟩:=h;have es:L2.start N vs=vs.map some++List.replicate n none:=by unfold L2.start;rw[hl,hn,Nat.add_sub_cancel_left]
 rw[es];refine⟨F,Bof (vs.map some),dm++List.replicate n none,⟨L,ok.more n⟩,?_⟩;unfold Bo at h;cases e:g (dm++List.replicate n none)with
 |nx τ =>rw[e]at h;intro F' H' ar l k;exact h F' H' .v (ar.take dm.length) l (RR.take (RR.of (r:=.t .v) k rfl) _ (λi z=>nomatch z))
 |ret r τ =>
  rw[e]at h;intro F' H' ar u l k;cases r with
  |t t=>exact h F' H' u (ar.take dm.length) l (RR.take k _ (λi z=>nomatch z))
  |nw o=>exact h F' H' u (ar.take dm.length) l (RR.take k _ (λi z=>nomatch z))
  |n i =>
   dsimp only at h;split at h
   .rename_i r' kO e2;split at e2
    next o eo=>cases e2;exact h F' H' u (ar.take dm.length) l (RR.take (RR.mv k eo) _ (λi z=>nomatch z))
    .cases e2
   .rename_i c kO e2;split at e2
    .cases e2
    .cases e2
   .exact h.elim
 |brk τ=>rw[e]at h;exact h.elim
 |cnt τ=>rw[e]at h;exact h.elim
 |exc c τ =>rw[e]at h;intro C hC F' H' ar l k;exact h C hC F' H' (ar.take dm.length) l (RR.take (RR.of (r:=.t .v) k rfl) _ (λi z=>nomatch z)).ok
 |bad=>rw[e]at h;exact h.elim
def El(Fn:FS->Out Rv)(rs:List Rv)(fs:FS):Out Rv :=
 if(Dc fs (rs.map Bj)).Nodup then(match Fn (B1 fs (rs.map Bj))with|.ok (.t t) τ=>(match D3 (rs.map Bj) τ fs with|some aq=>.ok (.t t) aq|none=>.bad)|.ok (.nw o) τ=>(match D3 (rs.map Bj) τ fs with|some aq=>.ok (.nw o) aq|none=>.bad)|.exc c τ=>(match D3 (rs.map Bj) τ fs with|some aq=>.exc c aq|none=>.bad)|_=>.bad)else .bad
def Al(p:Nat)(Fn:FS->Out Rv):List Rv->FS->Out Rv:=λrs fs=>if rs.length=p then El Fn rs fs else .bad
theorem Hb(q:RAn K B U F H fs rs vs)(s:sat Z B (RR K B U) F H (El Fn rs fs) Q):spX K rs.length Fn vs H Q λc _ H'=>EZ K Z c U H':=by
 unfold El at s;split at s
 .rename_i nd;obtain⟨L9,μ,ok,fC,hl,hi⟩:=Pb q;obtain⟨Pp,p1,p2,p3,p4⟩:=lend ok hl hi nd fC;refine⟨q.len,⟨F.f,Pp⟩,B1 fs (rs.map Bj),p2,?_⟩;split at s
  .rename_i t τ e;rw[e];split at s
   next aq eb=>intro F' H' u ar l k;obtain⟨Li,L',o1,⟨_,r⟩,_⟩:=k;obtain⟨le,L,o2,_⟩:=p4 F' H' τ ar Li aq l o1 eb;exact s ⟨F'.f,F.p⟩ H' u le (RR.of ⟨L,o2⟩ (AE.wp r))
   .exact s.elim
  .rename_i o τ e;rw[e];split at s
   .rename_i aq eb;intro F' H' u ar l k;obtain⟨Li,L',o1,r,nd,nf⟩:=k;obtain⟨le,L,o2,sub⟩:=p4 F' H' τ ar Li aq l o1 eb;refine s ⟨F'.f,F.p⟩ H' u le ⟨L,L',o2,Ax.wp r,?_,λa m=>⟨(nf a m).1,λp=>(nf a m).2 (l.p a (p1 a p)).1⟩⟩;rw[sI]at nd ⊢;refine⟨o2.nd,nd.2.1,λa ha b hb e=>?_⟩;rcases sub a ha with z|z
    .exact nd.2.2 a z b hb e
    .exact(nf b hb).2 (l.p b (e▸z)).1
   .exact s.elim
  .rename_i c τ e;rw[e];split at s
   next aq eb=>intro C hC F' H' ar l k;obtain⟨Li,o1⟩:=k;obtain⟨le,L,o2,_⟩:=p4 F' H' τ ar Li aq l o1 eb;exact⟨⟨F'.f,F.p⟩,B,aq,c,C,hC,rfl,⟨L,o2⟩,Z.mono s le⟩
   .exact s.elim
  .exact s.elim
 .exact s.elim
variable{p:Nat}{np:Pos}
theorem PB(G:FnAt X.prog X.w X.K X.mg X.base (CX1 X.prog X.w) x k ps (spX X.K p Fn))(hr:DK k X.A)(lk:Lks X Z)(ha:FAn X Z (e::es) fa)(hg:Gl X x:=by rfl)(bh:(x==("__debug__":Str))=false:=by decide)
  (he:starEach (e::es) X.env=(false,eval e X.env)::starEach es X.env:=by rfl) (aC:(backTo pos (starEach es X.env)).any (·.1)=false:=by rfl):FE X Z (.Call (.Name x pp) (e::es) [] pos) (Aj (Al p Fn) fa):=by
 refine A0 (Yi G hr lk ha hg bh he aC) λU H Q ⟨F,B,fs,ok,s⟩=>⟨F,B,fs,ok,AJ s λrs aj F1 H1 us l q s1=>?_⟩
 unfold Al at s1;split at s1
 next hp=>rw[<- hp];exact Hb q s1
 .exact s1.elim
structure Jb4(K:Fg)(mg:Str->Option Value)(x:Str):Prop where
 ex:∃C,mg x=some (.ref C)/\Dm K x=some C/\excIn K C Xh "ValueError.__new__"=true
def JI(c:Str)(fa:FS->Out (List Rv)):FS->SO:=λfs=>SO.of (fa fs) λrs fs=>if rs.length<=1000 then .exc c fs else .bad
theorem RY(c:Jb4 X.K X.mg x)(l:LkD X Z)(hc:X.calm=true)(ha:FA X Z (e::es) fa)(hg:Gl X x:=by rfl)(bh:(x==("__debug__":Str))=false:=by decide)
  (he:starEach (e::es) X.env=(false,eval e X.env)::starEach es X.env:=by rfl) (aC:(backTo aw (starEach es X.env)).any (·.1)=false:=by rfl) :
  GS X Z (.Raise (some (.Call (.Name x np) (e::es) [] aw)) none pos) (JI x fa):=by
 obtain⟨C,h1,h2,h3⟩:=c.ex;refine Cv (Q3 ⟨h1,h3⟩ l.d.ex hc l.k ha hg bh he aC) λD U H ⟨F,B,fs,ok,s⟩=>⟨F,B,fs,ok,Cr s λrs aj F1 H1 us l q s1=>?_⟩
 split at s1
 next hl=>exact⟨by rw[q.2.len];exact hl,F1,B,aj,x,C,h2,rfl,q.1,s1⟩
 .exact s1.elim
def Xc(i:Nat)(gF:Str->Bool)(h:FS->SO)(c:Str)(fs:FS):SO:=if gF c=true then(match MV i (.t (.zT c)) fs with|some fs=>(match h fs with|.nx fs=>(match fs[i]? with|some (some (.val _))=>.nx (fs.set i none)|_=>.bad)|.ret (.t t) fs=>.ret (.t t) fs|_=>.bad)|none=>.bad)else .bad
def Xb(i:Nat)(gF:Str->Bool)(g h:FS->SO):FS->SO:=λfs=>match g fs with|.exc c fs=>Xc i gF h c fs|o=>o
theorem Okk.forget(h:Okk K F B H fs U)(e:fs[i]?=some (some (.val t))):Okk K F B H (fs.set i none) (U.set i none):=by
 obtain⟨L,ok⟩:=h;obtain⟨v,L1,L2,L3,e1,rfl,h1,h2⟩:=ok.sl.pick e;have e2:L2=[]:=by obtain⟨u,rfl,q,z⟩:=h1;exact z
 subst e2;exact⟨L1++([]++L3),h2 F H none none [] Le.refl (λ_ _=>rfl) rfl,ok.nd,ok.nf,ok.fd,FG.put ok.bo (λo eo=>by cases eo) ok.sl.len,ok.pd,ok.pf,ok.pl⟩
def Ztry(K:Fg)(Z:Xp)(i:Nat)(gF:Str->Bool)(h:FS->SO)(D:Ends):Xp:=⟨λF B H c fs=>FN K Z B F H (Xc i gF h c fs) D,λq l=>FN.le q l⟩
theorem V9{i:Nat}{n:Str}{eI:Pos}{bC:List Stmt}{cW:Stmt}(gF:Str->Bool)(i:Nat)(l:LkD X Z)(hC:X.mg x=some (.ref C))(hN:X.N.Nodup)(hk:∀c C',gF c=true->Dm X.K c=some C'->exmOne X.K (.ref C') (.ref C)=some true)
  (hb:∀E' Z',LkD (X.Gd E') Z'->GSs (X.Gd E') Z' body g) (hs:∀a,GSs (X.hand a) Xp.no (cW::bC) h) (hi:X.N[i]?=some n:=by rfl) (hl:X.env.scope.names.lookup n=some .local:=by rfl) (hg:Gl X x:=by rfl) (bh:(x==("__debug__":Str))=false:=by decide) :
  GS0 X Z (.Try body [.ExceptHandler (some (.Name x np)) (some n) (cW::bC) eI] [] [] pos) (Xb i gF g h):=by
 have key:=UZ (np:=np) (pos:=pos) (eI:=eI) (body:=body) (cW:=cW) (bC:=bC) (th:=tSt X.K Xp.no h) (tb:=λD=>tSt X.K (Ztry X.K Z i gF h D) g) l.d hC hN (λD=>?_) hs hi hl hg bh
 .intro s0 U H D I q;refine key s0 U H D I ?_;obtain⟨F,B,fs,ok,s⟩:=q;refine⟨F,B,fs,ok,?_⟩;unfold Xb at s;cases e:g fs with|nx aj=>rw[e]at s;exact s|ret r aj=>rw[e]at s;exact s|brk aj=>rw[e]at s;exact s|cnt aj=>rw[e]at s;exact s|exc c aj=>rw[e]at s;exact s|bad=>rw[e]at s;exact s
 .refine hb _ _ ⟨⟨l.d.pn,l.d.ex,l.d.st,l.d.fr⟩,λe s q=>XW.imp (XW.Gd q) λcv U H z=>?_,XW.own l.d⟩;obtain⟨F,B,fs,c,C',mU,rfl,ok,z⟩:=z;have z:FN X.K Z B F H (Xc i gF h c fs) D:=z;unfold Xc at z;split at z
  .rename_i kA;refine⟨hk c C' kA mU,λa ha=>?_⟩;split at z
   .rename_i aA e2;have je:Le F H (Qq F a) (upd H a (exO (.ref C') a)):=A5 ok ha;refine⟨Qq F a,B,aA,(K2 (RR.of (r:=.t (.zT c)) (u:=.ref a) (Okk.alloc ok ha) (by simp only[BL,AE];exact⟨a,C',rfl,.inr rfl,As,mU⟩)) e2),?_⟩;cases eh:h aA with
    |nx dZ =>
     rw[eh]at z;dsimp only at z;split at z
     next t et=>exact λF' H' ar l k=>z F' H' _ (je.trans l) (k.forget et)
     .exact z.elim
    |ret r dZ =>rw[eh]at z;cases r with|t t =>intro F' H' ar u l k;exact z F' H' ar u (je.trans l) k|nw o=>exact z.elim|n j=>exact z.elim
    |brk dZ=>rw[eh]at z;exact z.elim
    |cnt dZ=>rw[eh]at z;exact z.elim
    |exc c dZ=>rw[eh]at z;exact z.elim
    |bad=>rw[eh]at z;exact z.elim
   .exact z.elim
  .exact z.elim
def WA(K:Fg)(ds:List Str)(tab:Str->Str->Bool)(c:Str):Bool:=match Dm K c with
 |some C=>excIn K C Xh "ValueError.__new__"&&(findIn K (.ref C) "__getattribute__"==some (some (.builtin "BaseException.__getattribute__")))&&(findIn K (.ref C) "__getattr__"==some none) &&
  (findIn K (.ref C) "__class__"==some (some (.builtin "object.__class__")))&&(PySem.W.specialIn K (.builtin "object.__class__") "__get__"==some (some (.builtin "getset_descriptor.__get__")))&&(PySem.W.takesIn K (.builtin "object.__class__")==some true) &&
  (mroIn K C (.type "object")==some true)&&(mroIn K C (.type "BaseException")==some true)&&(clsIn K C).isSome&&(kitOne K (.ref C) (.type "ValueError")==some true) &&
  ds.all λd=>match Dm K d with|some D=>(kitOne K (.ref C) (.ref D)==some (tab c d))&&(!tab c d||exmOne K (.ref C) (.ref D)==some true)|none=>false
 |none=>false
def ZS(K:Fg)(rs ds:List Str)(tab:Str->Str->Bool):Bool:=rs.all (WA K ds tab)&&ds.all λd=>(Dm K d).isSome
structure KU(K:Fg)(mg:Str->Option Value)(rs ds:List Str)(tab:Str->Str->Bool):Prop where
 k:∀c∈rs,∀C,Dm K c=some C->PySem.W.ExK K C/\(clsIn K C).isSome=true
 own:∀c∈rs,∀d∈ds,∀C D,Dm K c=some C->Dm K d=some D->kitOne K (.ref C) (.ref D)=some (tab c d)/\(tab c d=true->exmOne K (.ref C) (.ref D)=some true)
 ve:∀c∈rs,∀C,Dm K c=some C->kitOne K (.ref C) (.type "ValueError")=some true
 at_:∀c∈rs,∃C,mg c=some (.ref C)/\Dm K c=some C/\excIn K C Xh "ValueError.__new__"=true
 yx:∀d∈ds,∃D,mg d=some (.ref D)/\Dm K d=some D
theorem Up{c}{h}(X:K.In h)(G:h.Ns mainGlobals mg)(e:Dm K c=some C):mg c=some (.ref C):=by
 unfold Dm at e;split at e
 next D q=>cases e;exact mg_of X G q
 .cases e
theorem KU.of{h}{rs}(X:K.In h)(G:h.Ns mainGlobals mg)(e:ZS K rs ds tab=true):KU K mg rs ds tab:=by
 unfold ZS at e;rw[tH]at e;obtain⟨e1,e2⟩:=e;have one:∀c∈rs,∀C,Dm K c=some C->excIn K C Xh "ValueError.__new__"=true/\PySem.W.ExK K C/\(clsIn K C).isSome=true/\kitOne K (.ref C) (.type "ValueError")=some true /\
   ∀d∈ds,∀D,Dm K d=some D->kitOne K (.ref C) (.ref D)=some (tab c d)/\(tab c d=true->exmOne K (.ref C) (.ref D)=some true):=λc hc C hC=>by
  have q:=ub.mp e1 c hc;unfold WA at q;rw[hC]at q;simp only[tH,beq_iff_eq]at q;obtain⟨⟨⟨⟨⟨⟨⟨⟨⟨⟨q1,q2⟩,q3⟩,q4⟩,q5⟩,q6⟩,q7⟩,q8⟩,q9⟩,rp⟩,rq⟩:=q;refine⟨q1,⟨q2,q3,q4,q5,q6,q7,q8⟩,q9,rp,λd hd D hD=>?_⟩;have z:=ub.mp rq d hd;rw[hD]at z;simp only[tH,beq_iff_eq]at z;refine⟨z.1,λht=>?_⟩;have z2:=z.2;rw[ht]at z2;simpa using z2
 refine⟨λc hc C hC=>⟨(one c hc C hC).2.1,(one c hc C hC).2.2.1⟩,λc hc d hd C D hC hD=>(one c hc C hC).2.2.2.2 d hd D hD,λc hc C hC=>(one c hc C hC).2.2.2.1,λc hc=>?_,λd hd=>?_⟩
 .have q:=ub.mp e1 c hc;unfold WA at q;cases hC:Dm K c with|none=>rw[hC]at q;cases q|some C=>exact⟨C,Up X G hC,rfl,(one c hc C hC).1⟩
 .obtain⟨D,hD⟩:=uD.mp (ub.mp e2 d hd);exact⟨D,Up X G hD,hD⟩
theorem KU.t1{c}{rs}(t:KU K mg rs ds tab)(h:c∈rs):Jb4 K mg c:=⟨t.at_ c h⟩
def isX(cs:List Str)(tab:Str->Str->Bool)(d:Str)(f:FS->Out Rv):FS->Out Rv:=λfs=>(f fs).bnd λr fs=>match r with|.t (.zT c)=>if cs.contains c=true then okT (.o (tab c d)) fs else .bad|_=>.bad
variable{p:Pos}{cs ds:List Str}{tab:Str->Str->Bool}
theorem ZE(t:KU X.K X.mg cs ds tab)(hm:X.mg "isinstance"=none)(hx:x∈ds)(ha:FE X Z a f)(hg:Gl X "isinstance":=by rfl)(eF:Gl X x:=by rfl)(bh:(x==("__debug__":Str))=false:=by decide)
  (hs:starEach [a,.Name x p2] X.env=(false,eval a X.env)::starEach [.Name x p2] X.env:=by rfl) (bw:starEach [.Name x p2] X.env=[(false,eval (.Name x p2) X.env)]:=by rfl) (aC:(backTo pos (starEach [.Name x p2] X.env)).any (·.1)=false:=by rfl) :
  FE X Z (.Call (.Name "isinstance" p) [a,.Name x p2] [] pos) (isX cs tab x f):=by
 obtain⟨D,h1,h2⟩:=t.yx x hx;refine A0 (IG Ii hg hm boot_isinstance (Dt ha (Dt (λae s U H Q I h=>E8 I eF h1 ⟨.ref D,H,I,rfl,h⟩ bh) HP bw) hs) (by decide) (by decide) hs aC) λU H Q ⟨F,B,fs,ok,s⟩=>?_
 refine⟨F,B,fs,ok,AM s λr aj F1 H1 u l1 au rx s1=>?_⟩;split at s1
 .rename_i c;split at s1
  .rename_i hc;have hc:=by simpa using hc
   simp only[BL,AE]at rx;obtain⟨b,C,rfl,fb,hb,hC⟩:=rx;exact⟨b,C,.ref D,.ref D,_,rfl,(λu z=>z),hb,(t.k c hc C hC).1,(t.k c hc C hC).2,(t.own c hc x hx C D hC h2).1,s1 F1 H1 _ Le.refl (RR.of au rfl)⟩
  .exact s1.elim
 .exact s1.elim
def isV(cs:List Str)(f:FS->Out Rv):FS->Out Rv:=λfs=>(f fs).bnd λr fs=>match r with|.t (.zT c)=>if cs.contains c=true then okT (.o true) fs else .bad|_=>.bad
theorem ZF(t:KU X.K X.mg cs ds tab)(hm:X.mg "isinstance"=none)(fu:X.mg "ValueError"=none)(ha:FE X Z a f)(hg:Gl X "isinstance":=by rfl)(eF:Gl X "ValueError":=by rfl)
  (hs:starEach [a,.Name "ValueError" p2] X.env=(false,eval a X.env)::starEach [.Name "ValueError" p2] X.env:=by rfl) (bw:starEach [.Name "ValueError" p2] X.env=[(false,eval (.Name "ValueError" p2) X.env)]:=by rfl) (aC:(backTo pos (starEach [.Name "ValueError" p2] X.env)).any (·.1)=false:=by rfl) :
  FE X Z (.Call (.Name "isinstance" p) [a,.Name "ValueError" p2] [] pos) (isV cs f):=by
 refine A0 (IG Ii hg hm boot_isinstance (Dt ha (Dt (Vi (v:=.ty "ValueError") eF fu PyProof.Rows.Boot.«ValueError» rfl) HP bw) hs) (by decide) (by decide) hs aC) λU H Q ⟨F,B,fs,ok,s⟩=>?_
 refine⟨F,B,fs,ok,AM s λr aj F1 H1 u l1 au rx s1=>?_⟩;split at s1
 .rename_i c;split at s1
  .rename_i hc;have hc:=by simpa using hc
   simp only[BL,AE]at rx;obtain⟨b,C,rfl,fb,hb,hC⟩:=rx;exact⟨b,C,.ty "ValueError",.type "ValueError",_,rfl,(λu z=>z),hb,(t.k c hc C hC).1,(t.k c hc C hC).2,t.ve c hc C hC,s1 F1 H1 _ Le.refl (RR.of au rfl)⟩
  .exact s1.elim
 .exact s1.elim
theorem R6{rs}(t:KU X.K X.mg rs ds tab)(hx:x∈ds)(i:Nat)(l:LkD X Z)(hN:X.N.Nodup)
  (hb:∀E' Z',LkD (X.Gd E') Z'->GSs (X.Gd E') Z' body g) (hs:∀a,GSs (X.hand a) Xp.no (cW::bC) h) (hi:X.N[i]?=some n:=by rfl) (hl:X.env.scope.names.lookup n=some .local:=by rfl) (hg:Gl X x:=by rfl) (bh:(x==("__debug__":Str))=false:=by decide) :
  GS0 X Z (.Try body [.ExceptHandler (some (.Name x np)) (some n) (cW::bC) eI] [] [] pos) (Xb i (λc=>rs.contains c&&tab c x) g h):=by
 obtain⟨C,h1,h2⟩:=t.yx x hx;refine V9 (i:=i) _ i l h1 hN (λc C' ho hc=>?_) hb hs hi hl hg bh;rw[tH]at ho;exact(t.own c (by simpa using ho.1) x hx C' C hc h2).2 ho.2
def Jap:Rv->List Rv->FS->Out Rv
 |x,[.t (.o true)],fs=>match(Cu fs x).bind Dp with|some bs=>okT (.int ((bs.countP id:Nat):Int)) fs|none=>.bad
 |_,_,_=>.bad
def Jam:Rv->List Rv->FS->Out Rv
 |x,[.t (.o true)],fs=>match(Cu fs x).bind Dp with
  |some bs=>match bs.findIdx? id with|some j=>okT (.int ((j:Nat):Int)) fs|none=>.bad
  |none=>.bad
 |_,_,_=>.bad
theorem Rt:MtF K Z (λx vs H Q=>∃(l:Addr)(bs:List Bool),x=.ref l/\vs=[.o true]/\SqL K H l (bs.map V.o)/\Q (.int ((bs.countP id:Nat):Int)) H) Jap:=by
 intro F B H U fs x rs u vs Q ok rx q s;unfold Jap at s;split at s
 .obtain⟨v,rfl,qq⟩:=Bh q;subst(by simpa only[BL,AE]using qq);split at s
  next bs e=>rw[tE]at e;obtain⟨ts,e1,e2⟩:=e;obtain⟨a,us,rfl,hs,r⟩:=Bg ok rx e1;rw[EV e2]at r;rw[Ah.bls r]at hs;exact⟨a,bs,rfl,rfl,hs,s F H _ Le.refl (RR.of ok rfl)⟩
  .exact s.elim
 .exact s.elim
theorem Rr:MtF K Z (λx vs H Q=>∃(l:Addr)(bs:List Bool)(j:Nat),x=.ref l/\vs=[.o true]/\SqL K H l (bs.map V.o)/\bs[j]?=some true/\(∀m,m<j->bs[m]?=some false)/\Q (.int ((j:Nat):Int)) H) Jam:=by
 intro F B H U fs x rs u vs Q ok rx q s;unfold Jam at s;split at s
 .obtain⟨v,rfl,qq⟩:=Bh q;subst(by simpa only[BL,AE]using qq);split at s
  .rename_i bs e;rw[tE]at e;obtain⟨ts,e1,e2⟩:=e;obtain⟨a,us,rfl,hs,r⟩:=Bg ok rx e1;rw[EV e2]at r;rw[Ah.bls r]at hs;split at s
   next j ej=>obtain⟨hj,h1,h2⟩:=List.findIdx?_eq_some_iff_getElem.mp ej;refine⟨a,bs,j,rfl,rfl,hs,by rw[sL hj];exact congrArg some h1,λm hm=>?_,s F H _ Le.refl (RR.of ok rfl)⟩;have:=h2 m hm;rw[sL (um hm hj)];simpa using this
   .exact s.elim
  .exact s.elim
 .exact s.elim
end FL
namespace L2
open PySem PySem.Spec PyProof.Rows
end L2
namespace FL
open PySem PySem.Spec L2
theorem XB(h:spF K p Fn vs H Q E):spX K p Fn vs H Q E':=by obtain⟨h1,F,dm,ok,h⟩:=h;refine⟨h1,F,dm,ok,?_⟩;cases e:Fn dm with|ok r τ=>rw[e]at h;exact h|exc c τ=>rw[e]at h;exact h.elim|bad=>rw[e]at h;exact h.elim
variable{X:Cx}{Z:Xp}{x m a:Str}{k p j:Nat}{ps:List Str}{Fn fo f:FS->Out Rv}{e o v:Expr}{es:List Expr}{fa:FS->Out (List Rv)}{pp pos av np aw cp fp jp:Pos}{C:Addr}
def BH(C:Addr)(m:Str)(p:Nat)(Fn:FS->Out Rv)(fo:FS->Out Rv)(fa:FS->Out (List Rv)):FS->Out Rv:=λfs=>(fo fs).bnd λx fs=>if DU C m fs x=true then(fa fs).bind λrs fs=>Al p Fn (x::rs) fs else .bad
theorem Zx(G:W6 X.prog X.w X.K X.mg X.base (CX1 X.prog X.w) C m k ps (spX X.K p Fn))(hr:DK k X.A)(lk:Lks X Z)(ho:FE X Z o fo)(ha:FAn X Z (e::es) fa)
  (bK:starEach (e::es) X.env=(false,eval e X.env)::starEach es X.env:=by rfl) (aC:(backTo pos (starEach es X.env)).any (·.1)=false:=by rfl)
  (ht:eval (.Call (.Attribute o m av) (e::es) [] pos) X.env=(do
   let ov <- eval o X.env
   standAt av.atName
   let(f,first) <- holding [ov] (getMethod ov m pl)
   callWith pos f first (backTo pos (starEach (e::es) X.env)) (backToKw pos (keywordEach [] X.env))):=by rfl) :
  FE X Z (.Call (.Attribute o m av) (e::es) [] pos) (BH C m p Fn fo fa):=by
 refine A0 (TJ G hr lk ho ha bK aC ht) λU H Q ⟨F,B,fs,ok,s⟩=>⟨F,B,fs,ok,AM s λr aj F1 H1 u l au rx s1=>?_⟩
 split at s1
 .rename_i hi;obtain⟨a,dx,ah,rfl,hd,hn⟩:=Mp au rx hi;refine⟨a,dx,ah,rfl,hd,hn,F1,B,aj,au,AJ s1 λrs aA F2 H2 us l2 q s2=>?_⟩;unfold Al at s2;split at s2
  next hp=>rw[<- hp];obtain⟨L9,M9,o9,q9,qX,rg⟩:=q;refine Hb ⟨L9,M9,o9,⟨_,us,[],M9,rfl,?_,q9,rfl⟩,qX,rg⟩ s2;have kg:=rx.le l2;cases r with|t t=>exact⟨rfl,kg⟩|nw o=>exact kg.elim|n i=>exact⟨rfl,kg⟩
  .exact s2.elim
 .exact s1.elim
theorem Wt(G:W6 X.prog X.w X.K X.mg X.base (CX1 X.prog X.w) C m k ps (spX X.K p Fn))(hr:DK k X.A)(ho:FE X Z o fo)
  (h:∀{ta:TE},PE X o ta->PE X (.Call (.Attribute o m av) [] [] pos) (UC C m (spX X.K p Fn) [] E0 ta Xr)):FE X Z (.Call (.Attribute o m av) [] [] pos) (Hx C m p Fn fo Ai):=by
 refine A0 (h ho) λU H Q ⟨F,B,fs,ok,s⟩=>⟨F,B,fs,ok,AM s λr aj F1 H1 u l au rx s1=>?_⟩
 split at s1
 .rename_i hi;obtain⟨a,dx,ah,rfl,hd,hn⟩:=Mp au rx hi;refine⟨a,dx,ah,rfl,hd,hn,?_⟩;have s2:sat Z B (RR X.K B U) F1 H1 (Qe p Fn [r] aj) Q:=s1;unfold Qe at s2;split at s2
  next hp=>rw[<- hp];obtain⟨L9,o9⟩:=au;refine XB (E:=E0) (S0 ⟨L9,[],o9,⟨_,[],[],[],rfl,?_,⟨rfl,rfl⟩,rfl⟩,by simpa using o9.nd,(λ_ m=>nomatch m)⟩ s2);cases r with|t t=>exact⟨rfl,rx⟩|nw o=>exact rx.elim|n i=>exact⟨rfl,rx⟩
  .exact s2.elim
 .exact s1.elim
theorem ZA(G:Jav X.prog X.w X.K X.mg X.base (CX1 X.prog X.w) x C k ps (spX X.K p Fn))(hr:DK (k+1) X.A)(ha:FAn X Z (e::es) fa)(hg:Gl X x:=by rfl)(bh:(x==("__debug__":Str))=false:=by decide)
  (he:starEach (e::es) X.env=(false,eval e X.env)::starEach es X.env:=by rfl) (aC:(backTo pos (starEach es X.env)).any (·.1)=false:=by rfl):FE X Z (.Call (.Name x pp) (e::es) [] pos) (Aj (E7 C p Fn) fa):=by
 refine A0 (JaV G hr Yl ha hg bh he aC) λU H Q ⟨F,B,fs,ok,s⟩=>⟨F,B,fs,ok,AJ s λrs aj F1 H1 us l q s1=>?_⟩
 intro a dx h1 h2 h3;rw[t5];exact XB (E:=E0) (Rz q s1 h1 h2 h3)
theorem Zj{a b:Expr}{fa fb:FS->Out Rv}(hu:X.A.units+61<cLine)(ha:FE X Z a fa)(hb:FE X Z b fb):FT X Z (.Compare a [.NotEq] [b] pos) (asB (Ag (Jao true) fa fb)):=Ek (YE true hu) Ys ha hb (DQ _)
variable{K:Fg}{B:Nat->Option V}{F F':Wd}{H H':Hp}{U:St}{fs:FS}{i:Nat}{ob:FO}
theorem Az.app:∀{os:List FO}{o:FO}{vs:List V}{v:V}{L1 L2:List Addr},Az K F H os vs L1->Ax K F H o v L2->Az K F H (os++[o]) (vs++[v]) (L1++L2)
 | [],o,vs,v,L1,L2,h,g=>by
  obtain⟨rfl,rfl⟩:=(show vs=[]/\L1=[] by simpa only[Az]using h)
  simp only[tS,Az];exact⟨v,[],L2,[],rfl,g,⟨rfl,rfl⟩,by simp⟩
 |x::os,o,vs,v,L1,L2,h,g=>by simp only[Az]at h;obtain⟨w,r,M1,M2,rfl,h1,h2,rfl⟩:=h;simp only[uu,Az];exact⟨w,r++[v],M1,M2++L2,rfl,h1,Az.app h2 g,by simp⟩
variable{p1 p2 p ap:Pos}
variable{q1 q2:Pos}
def Ze:List Rv->FS->Out Rv
 | [x],fs=>match(Cu fs x).bind Dp with|some ns=>okT (.o (ns.any id)) fs|none=>.bad
 |_,_=>.bad
theorem ZZ:Dq K Z (λxs H Q=>∃(l:Addr)(bs:List Bool),xs=[.ref l]/\SqL K H l (bs.map V.o)/\Q (.o (bs.any id)) H) Ze:=by
 intro F B H U fs rs vs Q ok q s;unfold Ze at s;split at s
 .obtain⟨v,rfl,qq⟩:=Bh q;split at s
  next ns e=>rw[tE]at e;obtain⟨ts,e1,e2⟩:=e;obtain⟨a,us,rfl,hs,r⟩:=Bg ok qq e1;rw[EV e2]at r;rw[Ah.bls r]at hs;exact⟨a,ns,rfl,hs,s F H _ Le.refl (RR.of ok rfl)⟩
  .exact s.elim
 .exact s.elim
variable{a:Expr}{aU:Pos}
theorem ZL(hm:X.mg "any"=none)(ha:FA X Z (e::es) fa)(hc:X.calm=true:=by rfl)(hg:Gl X "any":=by rfl)(he:starEach (e::es) X.env=(false,eval e X.env)::starEach es X.env:=by rfl)(aC:(backTo pos (starEach es X.env)).any (·.1)=false:=by rfl):
  FE X Z (.Call (.Name "any" p) (e::es) [] pos) (Aj Ze fa):=EN ZZ (SX hc) hm boot_any ha hg (by decide) (by decide) he aC
variable{v1 v2:Expr}{gs:List (FS->Out Rv)}
variable{ts:List Str}
end FL
namespace FL
open PySem PySem.Spec L2 PyProof.Rows
variable{X:Cx}{Z:Xp}{a b:Expr}{x:Str}{tab:List (Str×List Str)}{fa fb:FS->Out Rv}{p p2 pos:Pos}
end FL
namespace FL
open PySem PySem.Spec L2
variable{K:Fg}{F F':Wd}{H H':Hp}{U:St}
variable{X:Cx}{Z:Xp}{es:List Expr}{g:FS->Out (List Rv)}{pos:Pos}
variable{N:List Str}{sc:Scope}{tg az dk:Expr}{fi:FS->Out (List T)}{gt:T->FS->Option FS}{fe:FS->Out Rv}
def Z4:T->Bool
 |.v=>true
 |.o _=>true
 |.int _=>true
 |.str _=>true
 |_=>false
theorem AE.atom:∀{t:T}{v:V},Z4 t=true->AE K F H t v->AE K F' H t v/\∀b,v≠.ref b
 |.v,_,_,h=>by cases h;exact⟨rfl,λ_=>nofun⟩
 |.o _,_,_,h=>by cases h;exact⟨rfl,λ_=>nofun⟩
 |.int _,_,_,h=>by cases h;exact⟨rfl,λ_=>nofun⟩
 |.str _,_,_,h=>by cases h;exact⟨rfl,λ_=>nofun⟩
 |.tup _,_,e,_=>by cases e
 |.lst _,_,e,_=>by cases e
 |.zU _,_,e,_=>by cases e
 |.l _ _,_,e,_=>by cases e
 |.dT _ _,_,e,_=>by cases e
 |.ins _ _ _,_,e,_=>by cases e
 |.dF _ _,_,e,_=>by cases e
 |.zT _,_,e,_=>by cases e
variable{B:Nat->Option V}
variable{fs:FS}{i:Nat}{L:List Addr}
variable{a b h:Str}{k:Nat}{pa pb tp ph p1 p2 p3 p4 p5 p6 p7 p8:Pos}{kj:List Stmt}{g:FS->SO}
variable{x:Str}{p:Nat}{ps:List Str}{Fn:FS->Out Rv}{e:Expr}{fa:FS->Out (List Rv)}{pp:Pos}{C:Addr}
variable{i0 ir ia j:Nat}{os:List FO}{aa:Int}{κ:T}{rs:List T}{a0 t b:Addr}{vs:List V}{M:List Addr}{sD:V}
variable{c:Expr}{A A':List Stmt}{st:Stmt}{fc:FS->Out Bool}{f:FS->Out Rv}{h:FS->SO}
variable{a b:Expr}{fa fb:FS->Out Rv}{fl:FS->Out (List Rv)}{p:Pos}
variable{a a2:Str}{v w:Expr}{g:FS->Out Rv}{j2:Nat}{np aw cp fp kW qc jp:Pos}
variable{a:Expr}
variable{ae:List (Addr×Obj)}{s:Shared}
theorem Lx{f}:∀{ah:List (Str×V)}{os:List FO}{L:List Addr},Az K F H os (ah.map (·.2)) L->Ba (ah.map (·.1)) os f=some o ->
  ∃v L1 A Z,ah.lookup f=some v/\Ax K F H o v L1/\L=A++(L1++Z)/\∀H' o' eU,(∀a∈A++Z,H' a=H a)->Le F H F H'->Ax K F H' o' v eU->Az K F H' (Bw (ah.map (·.1)) os f o') (ah.map (·.2)) (A++(eU++Z))
 | [],os,L,r,e=>by cases os<;>simp[Ba]at e
 |(g,x)::ah,os,L,r,e=>by
  cases os with
  |nil=>simp[Ba]at e
  |cons o1 os =>
   simp only[sG,Az]at r;obtain⟨v,w,L1,L2,ee,r1,r2,rfl⟩:=r;cases ee;simp only[sG,Ba]at e;rw[tX];cases hb:f==g with
   |true =>rw[hb]at e;cases e;refine⟨x,L1,[],L2,rfl,r1,rfl,λH' o' eU k l ro=>?_⟩;simp only[sG,Bw,hb,if_true,Az];exact⟨x,_,eU,L2,rfl,ro,Az.le l (λa m=>k a (by simpa using m)) r2,rfl⟩
   |false =>
    rw[hb]at e;obtain⟨v,M,A,Z,h1,h2,rfl,h3⟩:=Lx r2 (by simpa using e);refine⟨v,M,L1++A,Z,h1,h2,by simp,λH' o' eU k l ro=>?_⟩;have:=h3 H' o' eU (λa m=>k a (by
     rcases sW.mp m with m|m
     .simp[m]
     .simp[m])) l ro
    simp only[sG,Bw,hb,Az];exact⟨x,_,L1,_,rfl,r1.le l λa m=>k a (by simp[m]),this,by simp⟩
theorem Okk.fld{f}(ok:Okk K F B H fs U)(e:AK fs i=some (.ins C gs os))(ef:Ba gs os f=some o):
  ∃a dx ah v L1,U[i]?=some (some (.ref a))/\H a=some (.ins C dx ah)/\ah.map (·.1)=gs/\ah.lookup f=some v/\Ax K F H o v L1/\a∉L1/\(∀b∈L1,¬F b/\¬F.p b)/\L1.Nodup /\
   ∀o' H',(∀b,b∉L1->H b≠none->H' b=H b)->Ax K F H' o' v L1->Okk K F B H' (putAt fs i (.ins C gs (Bw gs os f o'))) U/\Le F H F H':=by
 obtain⟨v,L2,a1,a2,a3,a4,a5⟩:=ok.own e;have d2:=Ax.def a2;simp only[Ax]at a2;obtain⟨a,dx,ah,L3,rfl,hd,rfl,ro,rfl⟩:=a2;obtain⟨v,L1,A,Z,e1,r1,rfl,bk⟩:=Lx ro ef;have nd:=tu.mp a4;have i4:=sI.mp nd.2;have j7:=sI.mp i4.2.1;have m1:∀b∈L1,b∈a::(A++(L1++Z)):=λb m=>by simp[m]
 refine⟨a,dx,ah,v,L1,a1,hd,rfl,e1,r1,λm=>nd.1 (by simp[m]),λb m=>a3 b (m1 b m),j7.1,λo' H' k jg=>?_⟩;have q:=bk H' o' L1 (λb m=>k b (λm1=>by
   rcases sW.mp m with m|m
   .exact i4.2.2 b m b (sX _ m1) rfl
   .exact j7.2.2 b m1 b m rfl) (d2 b (by
   rcases sW.mp m with m|m
   .simp[m]
   .simp[m]))) (by
  obtain⟨L,o9⟩:=ok;exact⟨λb f=>⟨f,k b (λm=>(a3 b (m1 b m)).1 f) (o9.fd b f)⟩,λb f=>⟨f,k b (λm=>(a3 b (m1 b m)).2 f) (o9.pd b f)⟩⟩) jg
 exact a5 _ H' (λb hb hn=>k b (λm=>hb (m1 b m)) hn) (by simp only[Ax];exact⟨a,dx,ah,_,rfl,by rw[k a (λm=>nd.1 (by simp[m])) (d2 a (by simp))];exact hd,rfl,q,rfl⟩)
variable{f:Str}{av:Pos}
def Ho(C:Addr)(f:Str)(i:Nat):FS->Out Rv:=λfs=>match AK fs i with|some (.ins C' gs os)=>if C'=C then(match Ba gs os f with|some (.la p ts)=>(match ts.getLast? with|some t=>.ok (.t t) (putAt fs i (.ins C gs (Bw gs os f (.la p ts.dropLast))))|none=>.bad)|_=>.bad)else .bad|_=>.bad
theorem Ss(c:Cls X.K C)(n:A4 X.K C f)(i:Nat)(hx:PE X (.Name x p1) (JA i))(fV:attributeBase (.Name x p1) f X.env (eval (.Name x p1) X.env)=eval (.Name x p1) X.env:=by rfl)
  (aN:attributeBase (.Attribute (.Name x p1) f p2) "pop" X.env (eval (.Attribute (.Name x p1) f p2) X.env)=eval (.Attribute (.Name x p1) f p2) X.env:=by rfl) (aO:(av.endLine==aw.line)=true:=by rfl) :
  FE X Z (.Call (.Attribute (.Attribute (.Name x p1) f p2) "pop" av) [] [] aw) (Ho C f i):=by
 refine A0 (Yj plainAttrs_list PySem.F.slot_list_pop PySem.F.type_list_pop VF (Fq (f:=f) hx fV) aN aO) λU H Q ⟨F,B,fs,ok,s⟩=>?_
 unfold Ho at s;split at s
 .rename_i C' gs os eo;split at s
  .rename_i hC;subst hC;split at s
   .rename_i p ts ef;split at s
    .rename_i t et;obtain⟨a,dx,ah,v,L1,a1,hd,rfl,e1,r1,na,nf,_,bk⟩:=ok.fld eo ef;simp only[Ax]at r1;obtain⟨vs,rfl,hp,rt,rfl⟩:=r1;obtain⟨z,ez,rz,rd⟩:=Ah.last rt et;obtain⟨bR,l'⟩:=bk (.la p ts.dropLast) (upd H p (.lst vs.dropLast)) (λb hb _=>Ap λq=>hb (by simp[q])) (by
      simp only[Ax];have l2:Le F H F (upd H p (.lst vs.dropLast)):=⟨λb f=>⟨f,Ap λq=>(nf p (by simp)).1 (q▸f)⟩,λb f=>⟨f,Ap λq=>(nf p (by simp)).2 (q▸f)⟩⟩
      exact⟨_,trivial,As,rd.le l2,trivial⟩)
     exact⟨_,a1,a,C',dx,ah,.ref p,rfl,hd,c,n,e1,.inl ⟨rfl,vs,SqL.of hp⟩,p,_,z,rfl,rfl,(by rw[<- ez];exact hp),s F _ z l' (RR.of bR (rz.le l'))⟩
    .exact s.elim
   .exact s.elim
  .exact s.elim
 .exact s.elim
def DJ(C:Addr)(f:Str)(i:Nat)(fe:FS->Out Rv):FS->Out Rv:=λfs=>match AK fs i with
 |some (.ins C' gs os)=>if C'=C then(match Ba gs os f with
  |some (.la p _)=>(fe fs).bnd λr aj=>(match r,AK aj i with|.t t,some (.ins C2 jt kL)=>if C2=C then(match Ba jt kL f with|some (.la p2 du)=>if p2=p/\du.length<big then .ok (.t .v) (putAt aj i (.ins C jt (Bw jt kL f (.la p (du++[t])))))else .bad|_=>.bad)else .bad|_,_=>.bad)
  |_=>.bad)else .bad
 |_=>.bad
theorem Sz(c:Cls X.K C)(n:A4 X.K C f)(i:Nat)(hx:PE X (.Name x p1) (JA i))(he:FE X Z e fe)(fV:attributeBase (.Name x p1) f X.env (eval (.Name x p1) X.env)=eval (.Name x p1) X.env:=by rfl)
  (aN:attributeBase (.Attribute (.Name x p1) f p2) "append" X.env (eval (.Attribute (.Name x p1) f p2) X.env)=eval (.Attribute (.Name x p1) f p2) X.env:=by rfl)
  (eE:((backTo aw (starEach [e] X.env)).all (λx=>!x.1)&&(backToKw aw (keywordEach [] X.env)).all (λx=>x.1.isSome)
  &&decide (([e]:List Expr).length+([]:List Keyword).length+(if([]:List Keyword).isEmpty then 0 else 1)<30))=true:=by rfl)
  (aO:(av.endLine==aw.line)=true:=by rfl) (hs:starEach [e] X.env=(false,eval e X.env)::starEach [] X.env:=by rfl) :
  FE X Z (.Call (.Attribute (.Attribute (.Name x p1) f p2) "append" av) [e] [] aw) (DJ C f i fe):=by
 refine A0 (Vh plainAttrs_list PySem.F.slot_list_append PySem.F.type_list_append Gr (Fq (f:=f) hx fV) (Dt he HP hs) aN eE aO hs) λU H Q ⟨F,B,fs,ok,s⟩=>?_
 unfold DJ at s;split at s
 .rename_i C' gs os eo;split at s
  .rename_i hC;subst hC;split at s
   .rename_i p ts ef;obtain⟨a,dx,ah,v,L1,a1,hd,rfl,e1,r1,_⟩:=ok.fld eo ef;simp only[Ax]at r1;obtain⟨vs,rfl,hp,rt,rfl⟩:=r1;refine⟨_,a1,a,C',dx,ah,.ref p,rfl,hd,c,n,e1,.inl ⟨rfl,vs,SqL.of hp⟩,F,B,fs,ok,AM s λr aj F1 H1 u l au rx s1=>?_⟩;split at s1
    .rename_i t C2 jt kL qa;split at s1
     .rename_i qe;subst qe;split at s1
      .rename_i p2 du pZ;split at s1
       .rename_i aC;obtain⟨rfl,hl⟩:=aC;obtain⟨a',i9,j0,v',eU,rW,dN,rfl,ib,nM,na,nf,_,bk⟩:=au.fld qa pZ;simp only[Ax]at nM;obtain⟨eT,rfl,qI,nN,rfl⟩:=nM;obtain⟨bR,l'⟩:=bk (.la p2 (du++[t])) (upd H1 p2 (.lst (eT++[u]))) (λb hb _=>Ap λq=>hb (by simp[q])) (by
         have l2:Le F1 H1 F1 (upd H1 p2 (.lst (eT++[u]))):=⟨λb f=>⟨f,Ap λq=>(nf p2 (by simp)).1 (q▸f)⟩,λb f=>⟨f,Ap λq=>(nf p2 (by simp)).2 (q▸f)⟩⟩
         simp only[Ax];exact⟨_,trivial,As,(nN.le l2).app (Ah.one (AE.le l2 rx)),trivial⟩)
        exact⟨p2,eT,u,rfl,rfl,qI,by rw[nN.len];exact um hl Fx,s1 F1 _ .v l' (RR.of bR rfl)⟩
       .exact s1.elim
      .exact s1.elim
     .exact s1.elim
    .exact s1.elim
   .exact s.elim
  .exact s.elim
 .exact s.elim
def MT(C:Addr)(f:Str)(i:Nat):FS->Out Bool:=λfs=>match AK fs i with|some (.ins C' gs os)=>if C'=C then(match Ba gs os f with|some (.la _ ts)=>.ok (!ts.isEmpty) fs|_=>.bad)else .bad|_=>.bad
theorem Sj(c:Cls X.K C)(n:A4 X.K C f)(i:Nat)(hx:PE X (.Name x p1) (JA i))(fV:attributeBase (.Name x p1) f X.env (eval (.Name x p1) X.env)=eval (.Name x p1) X.env:=by rfl)
  (he:∀aW,isTrue (.Attribute (.Name x p1) f p2) X.env aW=(do let v <- aW;standAt (Expr.Attribute (.Name x p1) f p2).pos;holding [v] (truthy v))):FT X Z (.Attribute (.Name x p1) f p2) (MT C f i):=by
 refine JK (L5 (Fq hx fV) he) λU H Q ⟨F,B,fs,ok,s⟩=>?_
 unfold MT at s;split at s
 .rename_i C' gs os eo;split at s
  .rename_i hC;subst hC;split at s
   next p ts ef=>obtain⟨a,dx,ah,v,L1,a1,hd,rfl,e1,r1,_⟩:=ok.fld eo ef;simp only[Ax]at r1;obtain⟨vs,rfl,hp,rt,rfl⟩:=r1;refine⟨_,a1,a,C',dx,ah,.ref p,rfl,hd,c,n,e1,_,?_,s F H _ Le.refl ⟨ok,rfl⟩⟩;have ky:=rt.len;refine .inl ⟨vs,SqL.of hp,?_⟩;cases vs<;>cases ts<;>simp_all
   .exact s.elim
  .exact s.elim
 .exact s.elim
def RG(C:Addr)(f:Str)(i:Nat):FS->Out Rv:=λfs=>match AK fs i with|some (.ins C' gs os)=>if C'=C then(match Ba gs os f with|some (.la _ (t::_))=>okT t fs|_=>.bad)else .bad|_=>.bad
theorem Su(c:Cls X.K C)(n:A4 X.K C f)(i:Nat)(hx:PE X (.Name x p1) (JA i))(hs:Jo (.Constant (.int 0) j aw))(fV:attributeBase (.Name x p1) f X.env (eval (.Name x p1) X.env)=eval (.Name x p1) X.env:=by rfl):
  FE X Z (.Subscript (.Attribute (.Name x p1) f p2) (.Constant (.int 0) j aw) pos) (RG C f i):=by
 refine A0 (Yh O3 (Fq hx fV) Ma hs) λU H Q ⟨F,B,fs,ok,s⟩=>?_
 unfold RG at s;split at s
 .rename_i C' gs os eo;split at s
  .rename_i hC;subst hC;split at s
   next p t ts ef=>obtain⟨a,dx,ah,v,L1,a1,hd,rfl,e1,r1,_⟩:=ok.fld eo ef;simp only[Ax,Ah]at r1;obtain⟨vs,rfl,hp,⟨w,r,rfl,dM,_⟩,rfl⟩:=r1;exact⟨_,a1,a,C',dx,ah,.ref p,rfl,hd,c,n,e1,p,w::r,0,w,rfl,rfl,SqL.of hp,DB rfl,s F H w Le.refl (RR.of ok dM)⟩
   .exact s.elim
  .exact s.elim
 .exact s.elim
def N5(C:Addr)(f:Str)(i:Nat)(k:Int):FS->SO:=λfs=>match AK fs i with|some (.ins C' gs os)=>if C'=C/\gs.length<900 then(match Ba gs os f with|some (.val (.int n))=>(match CW gs os f (.val (.int (n-k)))with|some p=>.nx (putAt fs i (.ins C p.1 p.2))|none=>.bad)|_=>.bad)else .bad|_=>.bad
theorem RW(c:Cls X.K C)(n:A4 X.K C f)(i:Nat)(hx:PE X (.Name x p1) (JA i)):
  GS X Z (.AugAssign (.Attribute (.Name x p1) f p2) .Sub (.Constant (.int k) j aw) pos) (N5 C f i k):=by
 refine Cv (Oi hx Ma YY) λD U H ⟨F,B,fs,ok,s⟩=>?_
 unfold N5 at s;split at s
 .rename_i C' gs os eo;split at s
  .rename_i hC;obtain⟨rfl,hl⟩:=hC;split at s
   .rename_i m ef;split at s
    .rename_i p ep;obtain⟨a0,jn,gZ,v0,rT,b1,bd,bk,be,br,_⟩:=ok.fld eo ef;obtain⟨v,L2,L',a1,a2,a3,a4,a5,a6⟩:=RR.put (r:=.t (.int (m-k))) (RR.of ok rfl) eo;simp only[Ax]at a2;obtain⟨a,dx,ah,L3,rfl,hd,rfl,ro,rfl⟩:=a2;rw[a1]at b1;cases b1;rw[hd]at bd;cases bd;simp only[Ax,AE]at br;obtain⟨rfl,rfl⟩:=br;have e0:=a3.1;subst e0;have mi:Ax X.K F H (.val (.int (m-k))) (.int (m-k)) []:=by simp only[Ax,AE];exact⟨trivial,trivial⟩
     obtain⟨M,m1,m2,m3,m4⟩:=Gi mi ro (by rw[ep]);have j4:a0∉M:=λz=>((tu.mp a4).1) (by
      rcases m3 a0 z with z|z
      .exact sX _ z
      .exact sU _ z)
     have l1:Le F H F (upd H a0 (.ins C' jn (EW f (.int (m-k)) gZ))):=⟨λb f=>⟨f,Ap λz=>(a5 a0 (by simp)).1 (z▸f)⟩,λb f=>⟨f,Ap λz=>(a5 a0 (by simp)).2 (z▸f)⟩⟩
     obtain⟨bR,l'⟩:=a6 (.ins C' p.1 p.2) (upd H a0 (.ins C' jn (EW f (.int (m-k)) gZ))) (a0::M) (λb hb _=>Ap λz=>hb (by rw[z];simp)) (by
      simp only[Ax];exact⟨a0,jn,_,M,rfl,As,m1,Az.le l1 (λb hb=>Ap λz=>j4 (z▸hb)) m2,rfl⟩) (tu.mpr ⟨j4,m4 ((tu.mp a4).2)⟩) (λb hb=>by
      rcases sQ.mp hb with z|z
      .exact .inl (by rw[z];simp)
      .rcases m3 b z with z|z
       .exact .inl (sN _ z)
       .exact .inr z)
     exact⟨_,a1,a0,C',jn,gZ,.int m,rfl,hd,c,n,be,m,k,rfl,rfl,jn,gZ,hd,by rw[sH]at hl;omega,s F _ U l' bR⟩
    .exact s.elim
   .exact s.elim
  .exact s.elim
 .exact s.elim
def Z6:FO->Option (List Key×List FO)
 |.l [] []=>some ([],[])
 |.dO ks os=>some (ks,os)
 |_=>none
theorem Tc{v}(e:Z6 o=some (ks,os))(r:Ax K F H o v L):
  ∃a ah L',v=.ref a/\H a=some (.l ah)/\ah.map (·.1)=ks/\Az K F H os (ah.map (·.2)) L'/\L=a::L':=by
 unfold Z6 at e;split at e
 .cases e;simp only[Ax,Ah]at r;obtain⟨a,ah,rfl,hd,hk,_,rfl⟩:=r;have:=by simpa using hk
  subst this;exact⟨a,[],[],rfl,hd,rfl,⟨rfl,rfl⟩,rfl⟩
 .cases e;simp only[Ax]at r;exact r
 .cases e
def LF(C:Addr)(f:Str)(i jy:Nat):FS->SO:=λfs=>match AK fs i,fs[jy]? with|some (.ins C' gs os),some (some (.val y))=>if C'=C then(match Ba gs os f,HG y with|some o,some k=>(match Z6 o with|some (ks,ds)=>if ks.length<big/\(ks.any λq=>decide (q=k))=false then .nx (putAt fs i (.ins C gs (Bw gs os f (.dO (ks++[k]) (ds++[.l [] []])))))else .bad|none=>.bad)|_,_=>.bad)else .bad|_,_=>.bad
theorem QZ{v}{k:Key}(h:k∉ah.map (·.1)):putK ah k v=ah++[(k,v)]:=by unfold putK;rw[if_neg];intro z;obtain⟨q,hq,e⟩:=uX.mp z;exact h (tQ.mpr ⟨q,hq,tJ e⟩)
theorem R3(hu:X.A.units+1<cLine)(c:Cls X.K C)(n:A4 X.K C f)(i jy:Nat)(hx:PE X (.Name x p1) (JA i))(hy:PE X (.Name y p3) (JA jy))(fV:attributeBase (.Name x p1) f X.env (eval (.Name x p1) X.env)=eval (.Name x p1) X.env:=by rfl)
  (hs:swapsWith (.Dict [] [] p5) (some (.Subscript (.Attribute (.Name x p1) f p2) (.Name y p3) p4)) pos.line X.env=pure false:=by rfl) :
  GS X Z (.Assign [.Subscript (.Attribute (.Name x p1) f p2) (.Name y p3) p4] (.Dict [] [] p5) pos) (LF C f i jy):=by
 refine Cv (K6 hu (Fq hx fV) hy Mb hs) λD U H ⟨F,B,fs,ok,s⟩=>?_
 unfold LF at s;split at s
 .rename_i C' gs os y' eo ey;split at s
  .rename_i hC;subst hC;split at s
   .rename_i o k ef ek;split at s
    .rename_i ks ds ed;split at s
     .rename_i hk;intro p hp;have q:RR X.K B U F (upd H p (.l [])) fs (.nw (.l [] [])) (.ref p):=RR.alloc ok hp (by simp only[Ax,Ah];exact⟨p,[],rfl,As,rfl,rfl,rfl⟩);obtain⟨v,L2,L',a1,a2,a3,a4,a5,a6⟩:=RR.put q eo;simp only[Ax]at a2;obtain⟨a,dx,ah,L3,rfl,hd,rfl,ro,rfl⟩:=a2;obtain⟨v1,M1,A,Zz,e1,r1,rfl,bk⟩:=Lx ro ef;obtain⟨b,aE,M2,rfl,bh,rfl,mj,rfl⟩:=Tc ed r1;have eL:L'=[p]:=by have a3:Ax X.K F (upd H p (.l [])) (.l [] []) (.ref p) L':=a3;simp only[Ax]at a3;obtain⟨_,_,z,_,_,_,rfl⟩:=a3;cases z;rfl
      subst eL;obtain⟨L9,o9⟩:=id q.ok;obtain⟨w,N1,N2,N3,e6,_,h1,_⟩:=o9.sl.pick ey;obtain⟨uy,rfl,ry,_⟩:=h1;have:=D8 ek ry;subst this;have nb:=a5 b (by simp);have mb:b∈a::(A++((b::M2)++Zz)):=by simp
      have iB:=sI.mp a4;have dg:=tu.mp iB.1;have i4:=sI.mp dg.2;have j7:=sI.mp i4.2.1;have l1:Le F (upd H p (.l [])) F (upd (upd H p (.l [])) b (.l (aE++[(k,.ref p)]))):=⟨λz f=>⟨f,Ap λq=>nb.1 (q▸f)⟩,λz f=>⟨f,Ap λq=>nb.2 (q▸f)⟩⟩
      have rB:Ax X.K F (upd (upd H p (.l [])) b (.l (aE++[(k,.ref p)]))) (.dO (aE.map (·.1)++[k]) (ds++[.l [] []])) (.ref b) (b::(M2++[p])):=by simp only[Ax];refine⟨b,aE++[(k,.ref p)],M2++[p],rfl,As,by simp,?_,rfl⟩;rw[tf];refine Az.app (Az.le l1 (λz m=>Ap λq=>(tu.mp j7.1).1 (q▸m)) mj) ?_;simp only[Ax,Ah];exact⟨p,[],rfl,by rw[Ap (λz=>iB.2.2 b mb p (by simp) z.symm)];exact As,rfl,rfl,rfl⟩
      obtain⟨bR,l'⟩:=a6 (.ins C' (ah.map (·.1)) (Bw (ah.map (·.1)) os f (.dO (aE.map (·.1)++[k]) (ds++[.l [] []])))) (upd (upd H p (.l [])) b (.l (aE++[(k,.ref p)]))) (a::(A++((b::(M2++[p]))++Zz))) (λz hz _=>Ap λq=>hz (by rw[q];exact mb)) (by
       simp only[Ax];exact⟨a,dx,ah,_,rfl,by rw[Ap (λz=>dg.1 (by rw[z];simp))];exact hd,rfl,(bk (upd (upd H p (.l [])) b (.l (aE++[(k,.ref p)]))) _ _ (λz m=>Ap λq=>by
       subst q;rcases sW.mp m with m|m
       .exact i4.2.2 z m z (by simp) rfl
       .exact j7.2.2 z (by simp) z m rfl) l1 rB),rfl⟩) (by
       have pm:(a::(A++((b::(M2++[p]))++Zz))).Perm ((a::(A++((b::M2)++Zz)))++[p]):=by simp only[uu,tR,tS];refine List.Perm.cons _ (List.Perm.append_left _ (List.Perm.cons _ (List.Perm.append_left _ ?_)));exact(List.perm_append_comm (l₁:=[p]))
       exact pm.nodup_iff.mpr a4) (λz hz=>by
       simp only[sQ,sW,uu,tq,or_false]at hz ⊢;rcases hz with h|h|h|(h|h)|h
       .exact .inl (.inl h)
       .exact .inl (.inr (.inl h))
       .exact .inl (.inr (.inr (.inl h)))
       .exact .inl (.inr (.inr (.inr (.inl h))))
       .exact .inr h
       .exact .inl (.inr (.inr (.inr (.inr h)))))
      refine⟨_,a1,a,C',dx,ah,.ref b,rfl,hd,c,n,e1,kV k,e6,b,_,rfl,NM.k bh (by have:=hk.1;rw[sH]at this;exact um this Fx),?_⟩;rw[QZ (λm=>by have:=List.any_eq_false.mp hk.2 k m;simp at this)];exact s F _ U ((A1 ok hp).trans l') bR
     .exact s.elim
    .exact s.elim
   .exact s.elim
  .exact s.elim
 .exact s.elim
def itI(f:FS->Out Rv):FS->Out (List T):=λfs=>(f fs).bnd λr fs=>match r with|.t (.dF ks ts)=>.ok (pairs (ks.map VT) ts) fs|_=>.bad
def Jba(f:FS->Out Rv):FS->Out (List T):=λfs=>(f fs).bnd λr fs=>match r with|.t (.tup ts)=>.ok ts.reverse fs|_=>.bad
def fzW(f:FS->Out Rv):FS->Out Rv:=λfs=>(f fs).bnd λr fs=>match r with|.n i=>(match fs[i]? with|some (some (.own (.l ks ts)))=>.ok (.t (.dF ks ts)) (fs.set i (some (.val (.dF ks ts))))|_=>.bad)|.t t=>.ok (.t t) fs|.nw _=>.bad
def SK(k1 k2:Str)(i j:Nat):FS->Out Rv:=λfs=>match fs[i]?,fs[j]? with|some (some (.val t)),some (some (.val t'))=>.ok (.nw (.l [.inr k1,.inr k2] [t,t'])) fs|_,_=>.bad
def NA(fa:FS->Out (List Rv)):FS->Out Rv:=λfs=>(fa fs).bind λrs fs=>match rs with| [.t x,.t y]=>(match QQ x,QQ y with|some xs,some ys=>(match Hl xs with|some ks=>if ks.Nodup/\ks.length=ys.length then .ok (.nw (.l ks ys)) fs else .bad|none=>.bad)|_,_=>.bad)|_=>.bad
def Wa:Rv->Rv->FS->Out Rv:=gI λi j fs=>if 0<=j/\j<=1000000/\i.natAbs<2^64 then okT (.int (i*2^j.toNat)) fs else .bad
def Pl:Rv->Rv->FS->Out Rv
 |.t (.tup [t]),.t (.int i),fs=>if i=1 then okT (.tup [t]) fs else if i=2 then okT (.tup [t,t]) fs else .bad
 |_,_,_=>.bad
def maxD(d:Int)(fa:FS->Out (List Rv)):FS->Out Rv:=λfs=>(fa fs).bind λrs fs=>match rs with| [x]=>(match(Cu fs x).bind BX with|some ns=>okT (.int (mxD d ns)) fs|none=>.bad)|_=>.bad
def TZ(x:T):List T->Option Bool
 | []=>some false
 |y::ys=>(eqT 9 y x).bind λb=>(TZ x ys).map (b||·)
def Kc:Rv->Rv->FS->Out Rv:=λx y fs=>match x with|.t x=>(match(Cu fs y).bind (TZ x)with|some b=>okT (.o !b) fs|none=>.bad)|_=>.bad
def Np:Rv->Rv->FS->Out Rv:=λx y fs=>match K3 x,K3 y with|some xs,some ys=>(match Jt (eqT 180) xs ys with|some b=>okT (.o (b&&xs.length==ys.length)) fs|none=>.bad)|_,_=>.bad
def C7(fs:FS):FS:=fs.map λs=>match s with|some (.val t)=>some (.val t)|_=>none
def IF(j:Nat)(f:FS->Out Rv):FS->Out Rv:=λfs=>match AK fs j with|some o=>(match f ((C7 fs).set j (some (.val (toT o))))with|.ok (.t t) _=>if Z4 t=true then .ok (.t t) fs else .bad|_=>.bad)|none=>.bad
def Iq:List Key->List FO->Key->Option FO
 |k::ks,o::os,j=>if k=j then some o else Iq ks os j
 |_,_,_=>none
def Iy:List Key->List FO->Key->FO->List FO
 |k::ks,o::os,j,x=>if k=j then x::os else o::Iy ks os j x
 |_,os,_,_=>os
def dput2(C:Addr)(f:Str)(i jy jz:Nat)(fv:FS->Out Rv):FS->SO:=λfs=>SO.of (fv fs) λr fs=>match r,AK fs i,fs[jy]?,fs[jz]? with|.t t,some (.ins C' gs os),some (some (.val y)),some (some (.val z))=>if C'=C then(match Ba gs os f,HG y,HG z with|some (.dO ks ds),some k,some k2=>(match Iq ks ds k with|some (.l eZ du)=>if eZ.length<big then .nx (putAt fs i (.ins C gs (Bw gs os f (.dO ks (Iy ks ds k (.l (E4 eZ du k2 t).1 (E4 eZ du k2 t).2))))))else .bad|_=>.bad)|_,_,_=>.bad)else .bad|_,_,_,_=>.bad
def Lq(A:Nat->Addr):Nat->List FO->List FO
 |_,[]=>[]
 |i,.lst ts::os=>.la (A i) ts::Lq A (i+1) os
 |i,o::os=>o::Lq A (i+1) os
open Classical in
noncomputable def newMeth(C:Addr)(m:Str)(p:Nat)(Fn:FS->Out Rv)(fo:FS->Out Rv)(fa:FS->Out (List Rv)):FS->Out Rv:=λfs=>(fo fs).bind λr fs=>match r with
 |.nw (.ins C' gs os)=>if C'=C/\gs.any (·==m)=false then(fa fs).bind λrs fs =>if ∀A,Al p Fn (.nw (.ins C gs (Lq A 0 os))::rs) fs=Al p Fn (.nw (.ins C gs (Lq (λi=>i) 0 os))::rs) fs then Al p Fn (.nw (.ins C gs (Lq (λi=>i) 0 os))::rs) fs else .bad
  else .bad
 |_=>.bad
end FL
namespace L2
open PySem PySem.Spec
def JaH(td:TE):TE:=λU H Q=>td U H λx H1=>Q x H1\/∃a ah,x=.ref a/\H1 a=some (.l ah)/\∀o,Q (.ref a) (upd H1 a (.frz o (.l ah)))
theorem Vc(h:PE X e td):PE X e (JaH td):=by
 intro ae s U H Q I q;refine thn (h ae s U H _ I q) λv s1 ⟨x,H1,I1,r1,q⟩=>?_
 rcases q with q|⟨a,ah,ex,hq,q⟩
 .exact⟨x,H1,I1,r1,q⟩
 .subst ex;cases r1;obtain⟨o,I2⟩:=I1.freeze hq;exact⟨.ref a,_,I2,rfl,q o⟩
end L2
namespace FL
open PySem PySem.Spec L2
variable{X:Cx}{Z:Xp}{tg l o a b e:Expr}{f fa fb:FS->Out Rv}{g:FS->Out (List Rv)}{p1 p2 pos fF bf av aw cf kp cp:Pos}{fm:List Expr}{k0 j:Nat}{d:Int}
theorem Sq(ho:FE X Z o f)(aN:attributeBase o "items" X.env (eval o X.env)=eval o X.env:=by rfl)(aO:(av.endLine==aw.line)=true:=by rfl):
  FI X Z (.Tuple fm k0 cf) (.Call (.Attribute o "items" av) [] [] aw) (itI f):=by
 refine JP (Ra ho aN aO) λU H Q ⟨F,B,fs,ok,s⟩=>⟨F,B,fs,ok,AM s λr aj F1 H1 u l au rx s1=>?_⟩
 split at s1
 .rename_i ks ts;simp only[BL,AE]at rx;obtain⟨a,ah,rfl,ff,⟨ob,hd⟩,rfl,r⟩:=rx;refine⟨a,ob,ah,rfl,hd,s1 F1 H1 _ Le.refl ⟨au,λF' H' l ⟨B2,aA,gv,aQ⟩ i=>?_⟩⟩;have dN:=(l a ff).2.trans hd;have hl:=r.len;rw[sH]at hl;refine⟨λt et=>?_,λbU=>⟨dN,?_⟩⟩
  .obtain⟨x,y,ex,ey,rfl⟩:=pairs_at et;rw[tO,sR]at ex;obtain⟨k,ek,rfl⟩:=ex;obtain⟨v,ev,rv⟩:=(Ah.lf l r).at ey;rw[tO,sR]at ek ev;obtain⟨q,eq,rfl⟩:=ek;obtain⟨q2,eq2,rfl⟩:=ev;rw[eq]at eq2;cases eq2;refine⟨⟨dN,(sS.mp eq).1⟩,λx gx hy=>?_⟩;obtain⟨T,k',v',hn,rfl,rfl,e3⟩:=hy;rw[eq]at e3;cases e3;refine⟨Qq F' T,⟨A5 aQ hn,λB fs U k=>k.alloc hn⟩,?_⟩;simp only[AE,Ah];refine⟨T,_,rfl,⟨rfl,.inr rfl,As⟩,_,_,rfl,?_,_,_,rfl,rv.le (A5 aQ hn),rfl⟩;cases k'<;>rfl
  .rcases pairs_len bU with h|h
   .simpa using h
   .omega
 .exact s1.elim
theorem Wq(fu:X.mg "reversed"=none)(hl:FE X Z l f)(eF:Gl X "reversed":=by rfl)(gR:starEach [l] X.env=[(false,eval l X.env)]:=by rfl):
  FI X Z tg (.Call (.Name "reversed" p2) [l] [] bf) (Jba f):=by
 refine JP (U6 fu hl eF gR) λU H Q ⟨F,B,fs,ok,s⟩=>⟨F,B,fs,ok,AM s λr aj F1 H1 u l au rx s1=>?_⟩
 split at s1
 .rename_i ts;simp only[BL,AE]at rx;obtain⟨a,vs,rfl,hs,r⟩:=rx;refine⟨a,vs,rfl,hs.sq,s1 F1 H1 _ Le.refl ⟨au,λF' H' l _ i=>?_⟩⟩;have aZ:SqT X.K H' a vs:=SqT.of ((l a hs.2.1).2.trans hs.2.2);have hl:=r.len;refine⟨λt et=>?_,λbU=>by show vs.length<=i;rw[hl,<- uM];exact bU⟩;have hi:=by have:=(sS.mp et).1;simpa using this
  rw[List.getElem?_reverse hi]at et;obtain⟨v,ev,rv⟩:=(Ah.lf l r).at et;rw[<- hl]at ev;refine⟨⟨by omega,vs,v,aZ,ev⟩,λx gx hy=>stays hy.1 ?_⟩;have:=hy.2 vs aZ;rw[ev]at this;cases this;exact rv
 .exact s1.elim
theorem ZG(h:FE X Z e f):FE X Z e (fzW f):=by
 refine A0 (Vc h) λU H Q ⟨F,B,fs,ok,s⟩=>⟨F,B,fs,ok,AM s λr aj F1 H1 u l au rx s1=>?_⟩
 split at s1
 .rename_i i;split at s1
  next ks ts es=>obtain⟨a,ah,rfl,hd,rfl,k⟩:=au.frzF rx es;refine .inr ⟨a,ah,rfl,hd,λo=>?_⟩;obtain⟨l2,aQ,r2⟩:=k o;exact s1 _ _ (.ref a) l2 (RR.of aQ r2)
  .exact s1.elim
 .exact .inl (s1 F1 H1 u Le.refl (RR.of au rx))
 .exact s1.elim
theorem Oe{ks:List Key}(r:Ah K F H ys vs)(h:ks.length=ys.length):(ks.zip vs).map (·.1)=ks/\(ks.zip vs).map (·.2)=vs:=by have hl:=r.len;exact⟨List.map_fst_zip (by omega),List.map_snd_zip (by omega)⟩
theorem Nu(hc:X.calm=true)(iP:X.mg "dict"=none)(fu:X.mg "zip"=none)(ha:FA X Z [a,b] g)(iO:Gl X "dict":=by rfl)(eF:Gl X "zip":=by rfl)
  (he:starEach [(.Call (.Name "zip" p2) [a,b] [] bf:Expr)] X.env=[(false,eval (.Call (.Name "zip" p2) [a,b] [] bf) X.env)]:=by rfl) (hs:starEach [a,b] X.env=[(false,eval a X.env),(false,eval b X.env)]:=by rfl) (bw:starEach [b] X.env=[(false,eval b X.env)]:=by rfl) :
  FE X Z (.Call (.Name "dict" p1) [.Call (.Name "zip" p2) [a,b] [] bf] [] fF) (NA g):=by
 refine A0 (M5 hc iP fu ha iO eF he hs bw) λU H Q ⟨F,B,fs,ok,s⟩=>⟨F,B,fs,ok,AJ s λrs aj F1 H1 us l q s1=>?_⟩
 split at s1
 .rename_i x y;split at s1
  .rename_i xs ys e1 e2;split at s1
   .rename_i ks ek;split at s1
    next hk=>obtain⟨au,u,w,rfl,rx,u2,w2,rfl,ry,rfl⟩:=q;obtain⟨b1,a1,vs,rfl,q1,h1⟩:=Iz rx e1;obtain⟨b2,a2,ws,rfl,q2,h2⟩:=Iz ry e2;have ev:=ED ek q1;subst ev;obtain⟨z1,z2⟩:=Oe q2 hk.2;refine⟨b1,a1,b2,a2,ks,ws,rfl,h1 F1 H1 λ_ f=>⟨f,rfl⟩,h2 F1 H1 λ_ f=>⟨f,rfl⟩,hk.1,by rw[q2.len];exact hk.2,λd hd=>?_⟩;refine s1 F1 _ (.ref d) (A1 au hd) (RR.alloc au hd ?_);simp only[Ax];exact⟨d,ks.zip ws,rfl,As,z1,by rw[z2];exact q2.le (A1 au hd),rfl⟩
    .exact s1.elim
   .exact s1.elim
  .exact s1.elim
 .exact s1.elim
theorem Wv(hc:X.calm=true)(hm:X.mg "max"=none)(ha:FA X Z [a] g)(hg:Gl X "max":=by rfl)(he:starEach [a] X.env=[(false,eval a X.env)]:=by rfl):
  FE X Z (.Call (.Name "max" p1) [a] [⟨some "default",.Constant (.int d) j cp,kp⟩] pos) (maxD d g):=by
 refine A0 (Va hc hm ha hg he) λU H Q ⟨F,B,fs,ok,s⟩=>⟨F,B,fs,ok,AJ s λrs aj F1 H1 us l q s1=>?_⟩
 split at s1
 .rename_i x;split at s1
  next ns en=>obtain⟨au,u,w,rfl,rx,rfl⟩:=q;rw[tE]at en;obtain⟨ts,e1,e2⟩:=en;obtain⟨l,vs,rfl,hq,r⟩:=Bg au rx e1;have:=Hg e2;subst this;have:=Ah.ints r;subst this;exact⟨l,ns,rfl,hq,s1 F1 H1 _ Le.refl (RR.of au rfl)⟩
  .exact s1.elim
 .exact s1.elim
theorem Vr:OpF X.K Z (λx y H Q=>∃a v,x=.ref a/\SqT X.K H a [v]/\((y=.int 1/\Q (.ref a) H)\/(y=.int 2/\∀p,H p=none->Q (.ref p) (upd H p (.tup [v,v]))))) Pl:=by
 intro F B H U fs x y u w Q ok rx ry s;unfold Pl at s;split at s
 .rename_i t i;have ey:=ry;have rG:=rx;simp only[BL,AE,Ah]at rx;obtain⟨a,vs,rfl,hs,v,r,rfl,rv,rfl⟩:=rx;refine⟨a,v,rfl,hs.sq,?_⟩;split at s
  next hi=>subst hi;exact .inl ⟨ey,s F H _ Le.refl (RR.of ok rG)⟩
  .split at s
   next hi=>subst hi;refine .inr ⟨ey,λp hp=>s (Qq F p) (upd H p (.tup [v,v])) (.ref p) (A5 ok hp) (RR.of (ok.alloc hp) ?_)⟩;have nO:=AE.le (A5 (o:=.tup [v,v]) ok hp) rv;simp only[BL,AE,Ah];exact⟨p,[v,v],rfl,⟨rfl,.inr rfl,As⟩,v,_,rfl,nO,v,_,rfl,nO,rfl⟩
   .exact s.elim
 .exact s.elim
theorem Ws(ha:FE X Z a fa)(hb:FE X Z b fb):FE X Z (.BinOp a .Mult b pos) (Ag Pl fa fb):=Ly Vr Ow ha hb
variable{o5 kW:Pos}{j1 j2:Nat}{x1 x2 k1 k2:Str}
theorem YB:OpF K Z (rI Jb5 λi j=>.int (i*2^j.toNat)) Wa:=by
 intro F B H U fs x y u w Q ok rx ry s;unfold Wa gI at s;split at s
 .rename_i i j;dsimp only at s;split at s
  next h=>exact⟨i,j,rx,ry,h,s F H _ Le.refl (RR.of ok rfl)⟩
  .exact s.elim
 .exact s.elim
theorem Zu(ha:FE X Z a fa)(hb:FE X Z b fb):FE X Z (.BinOp a .LShift b pos) (Ag Wa fa fb):=Ly YB Yr ha hb
theorem Sw(i j:Nat)(hk:k1≠k2)(hx:PE X (.Name x1 p1) (JA i))(hy:PE X (.Name x2 p2) (JA j)):
  FE X Z (.Dict [some (.Constant (.str k1) j1 o5),some (.Constant (.str k2) j2 kW)] [.Name x1 p1,.Name x2 p2] pos) (SK k1 k2 i j):=by
 refine A0 (Vd (L7 Ot hx (L7 Ot hy U1)) rfl rfl (by simp) (by simp)) λU H Q ⟨F,B,fs,ok,s⟩=>?_
 unfold SK at s;split at s
 .rename_i t t' e1 e2;obtain⟨L,o⟩:=id ok;obtain⟨v,_,_,_,g1,_,h1,_⟩:=o.sl.pick e1;obtain⟨u,rfl,q1,_⟩:=h1;obtain⟨v',_,_,_,g2,_,h2,_⟩:=o.sl.pick e2;obtain⟨u',rfl,q2,_⟩:=h2;intro p hp;refine⟨u,g1,u',g2,As,[(.inr k1,u),(.inr k2,u')],rfl,by simp,?_⟩;have em:Gu [] [((.inr k1:Key),u),((.inr k2:Key),u')]=[((.inr k1:Key),u),((.inr k2:Key),u')]:=by
   have:¬(Sum.inr k1:Key)=.inr k2:=λz=>hk (Sum.inr.inj z)
   simp[Gu,putK,this]
  have eu:upd (upd H p (.l [])) p (.l [((.inr k1:Key),u),((.inr k2:Key),u')])=upd H p (.l [((.inr k1:Key),u),((.inr k2:Key),u')]):=by
   funext b;by_cases hb:b=p
   .rw[hb,As,As]
   .rw[Ap hb,Ap hb,Ap hb]
  rw[em,eu];have l0:Le F H F (upd H p (.l [((.inr k1:Key),u),((.inr k2:Key),u')])):=A1 ok hp;refine s F _ (.ref p) l0 (RR.alloc ok hp ?_);simp only[Ax,Ah];exact⟨p,_,rfl,As,rfl,⟨u,_,rfl,q1.le l0,u',_,rfl,q2.le l0,rfl⟩,rfl⟩
 .exact s.elim
def JbL(X:Cx)(H:Hp)(x y:V)(b:Bool):Prop:=∀(ae:List (Addr×Obj))(U:St)(s:Shared)(u w:Value),Inv X ae U H s->RelV x u->RelV y w->∀(Q:Value->Shared->Prop),Q (.bool !b) s->wpAny (model X.prog X.w) X.A (compareOp .NotIn u w) Q X.xe s
theorem Vl:OpR X (compareOp .NotIn) (λx y H Q=>∃b,JbL X H x y b/\Q (.o !b) H):=by intro ae s U H x y v u Q I rx ry ⟨b,h,q⟩;exact h ae U s v u I rx ry _ ⟨.o !b,H,I,rfl,q⟩
theorem Pd:∀{ys:List T}{b:Bool},TZ x ys=some b->(∀(i:Nat)(y:T),ys[i]?=some y->∃c,eqT 9 y x=some c)/\(b=true↔∃(i:Nat)(y:T),ys[i]?=some y/\eqT 9 y x=some true)
 | [],b,e=>by cases e;exact⟨λi y h=>by simp at h,by simp⟩
 |y::ys,b,e=>by
  simp only[TZ,tE,sR]at e;obtain⟨c,e1,d,e2,rfl⟩:=e;obtain⟨h1,h2⟩:=Pd e2;refine⟨λi z h=>?_,?_⟩
  .cases i with|zero=>simp at h;subst h;exact⟨c,e1⟩|succ i=>exact h1 i z (by simpa using h)
  .rw[uH,h2];constructor
   .rintro(h|⟨i,z,h,h'⟩)
    .exact⟨0,y,rfl,by rw[e1,h]⟩
    .exact⟨i+1,z,by simpa using h,h'⟩
   .rintro⟨i,z,h,h'⟩
    cases i with|zero=>simp at h;subst h;rw[e1]at h';cases h';exact .inl rfl|succ i=>exact .inr ⟨i,z,by simpa using h,h'⟩
open Classical in
theorem Rm{b:Bool}(hu:X.A.units+61<cLine)(e:TZ x ys=some b)(rx:AE X.K F H x v)(sy:SqL X.K H p vs)(ry:Ah X.K F H ys vs):JbL X H v (.ref p) b:=by
 intro ae U s u w I qx qy Q q;cases qy;obtain⟨ak,vy,pl,hz⟩:=I.list sy;obtain⟨h1,h2⟩:=Pd e;have key:∀(i:Nat)(z:T),ys[i]?=some z->∃w',ak[i]?=some w'/\∀c,eqT 9 z x=some c->SeqAt.EqAt X.A.in1 s w' u c:=λi z iZ=>by obtain⟨v1,e1,r1⟩:=ry.at iZ;obtain⟨w1,e2,r2⟩:=vy.get e1;exact⟨w1,e2,λc hc=>Kn I (by show X.A.units+1+9<_;omega) hc r1 rx r2 qx⟩
 have ln:ak.length=ys.length:=by rw[<- vy.length,ry.len]
 let ee:Value->Bool:=λw'=>decide (∃(i:Nat)(z:T),ys[i]?=some z/\ak[i]?=some w'/\eqT 9 z x=some true)
 refine SeqAt.notIn_listAt ee pl.isList (λw' hw=>?_) ?_
 .have qT:w'∈ak:=by simpa using hw
  obtain⟨i,hi,ei⟩:=uN qT;have iH:ak[i]?=some w':=by rw[sL hi,ei]
  by_cases h:∃(i:Nat)(z:T),ys[i]?=some z/\ak[i]?=some w'/\eqT 9 z x=some true
  .obtain⟨i,z,g1,g2,g3⟩:=id h;obtain⟨w1,f1,f2⟩:=key i z g1;rw[g2]at f1;cases f1;rw[show ee w'=true from tw h];exact f2 true g3
  .have gy:ys[i]?=some (ys[i]'(by omega)):=sL (by omega);obtain⟨c,ec⟩:=h1 i _ gy;obtain⟨w1,f1,f2⟩:=key i _ gy;rw[iH]at f1;cases f1;rw[show ee w'=false from tB h];cases c with|true=>exact(h ⟨i,_,gy,iH,ec⟩).elim|false=>exact f2 false ec
 .have:ak.toArray.any ee=b:=by
   rw[uk,h2];simp only[List.any_toArray,uX];constructor
   .rintro⟨w',_,h⟩
    obtain⟨i,z,g1,_,g3⟩:=tJ h;exact⟨i,z,g1,g3⟩
   .rintro⟨i,z,g1,g3⟩
    obtain⟨w1,f1,_⟩:=key i z g1;exact⟨w1,uc f1,tw ⟨i,z,g1,f1,g3⟩⟩
  rw[this];exact q
theorem Vq(hu:X.A.units+61<cLine):OpF X.K Z (λx y H Q=>∃b,JbL X H x y b/\Q (.o !b) H) Kc:=by
 intro F B H U fs x y u w Q ok rx ry s;unfold Kc at s;split at s
 .rename_i t;split at s
  next b e=>rw[tE]at e;obtain⟨ys,e1,e2⟩:=e;obtain⟨p,vs,rfl,hq,r⟩:=Bg ok ry e1;exact⟨b,Rm hu e2 rx hq r,s F H _ Le.refl (RR.of ok rfl)⟩
  .exact s.elim
 .exact s.elim
theorem Wk(hu:X.A.units+61<cLine)(ha:FE X Z a fa)(hb:FE X Z b fb)(hm:behindInMarks .NotIn b=false:=by rfl):FT X Z (.Compare a [.NotIn] [b] pos) (asB (Ag Kc fa fb)):=Ek (Vq hu) Vl ha hb hm
theorem Vv(hu:X.A.units+191<cLine):OpF X.K Z (Jah X false) Np:=by
 intro F B H U fs x y u w Q ok rx ry s;unfold Np at s;split at s
 .rename_i xs ys e1 e2;split at s
  .rename_i b e3;obtain⟨a,vs,rfl,sx,r1⟩:=BG rx e1;obtain⟨a',ws,rfl,sy,r2⟩:=BG ry e2;refine⟨_,λae U s u w I qx qy=>?_,s F H _ Le.refl (RR.of ok rfl)⟩;cases qx;cases qy;obtain⟨ak,vx,ht,_⟩:=I.tuple sx;obtain⟨aR,gq,gh,_⟩:=I.tuple sy;have l1:ak.length=xs.length:=by rw[<- vx.length,r1.len]
   have l2:aR.length=ys.length:=by rw[<- gq.length,r2.len]
   have:=SeqAt.RcAt.tuples ht gh (by omega) (items_eqAt e3 r1 r2 vx gq (λh r1 r2 o1 o2=>Kn I (A:=X.A.in1) (by show X.A.units+1+180<_;omega) h r1 r2 o1 o2));rw[sJ,sJ,l1,l2,<- Dy e3]at this;exact this
  .exact s.elim
 .exact s.elim
theorem PC(hu:X.A.units+191<cLine)(ha:FE X Z a fa)(hb:FE X Z b fb):FE X Z (.Compare a [.Eq] [b] pos) (Ag Np fa fb):=Kk (Vv hu) Yu ha hb (DQ _)
theorem Y3(hr:DK k A):A.units+191<cLine:=by have:=hr.un;omega
end FL
namespace FL
open PySem PySem.Spec L2
variable{K:Fg}{F:Wd}{H:Hp}
theorem Aw.vals:∀{fs:FS}{U:St}{L:List Addr},Aw K F H fs U L->Aw K F H (C7 fs) U []
 | [],U,L,h=>by simp only[Aw]at h;exact⟨h.1,rfl⟩
 |s::r,U,L,h=>by
  obtain⟨v,ar,L1,L2,rfl,h1,h2,rfl⟩:=h.HE;have ih:=Aw.vals h2
  match s,h1 with|Option.none,h1=>exact Aw.cons (L1:=[]) (by exact rfl) ih|some (.val t),h1 =>obtain⟨u,rfl,q,_⟩:=h1;exact Aw.cons (L1:=[]) (by exact⟨u,rfl,q,rfl⟩) ih|some (.own o),h1=>exact Aw.cons (L1:=[]) (by exact rfl) ih|some (.bor o),h1=>exact Aw.cons (L1:=[]) (by exact rfl) ih
theorem Wr(j:Nat)(he:FE X Z e f):FE X Z e (IF j f):=by
 refine A0 he λU H Q ⟨F,B,fs,⟨L,ok⟩,s⟩=>?_
 unfold IF at s;split at s
 .rename_i o eo;obtain⟨sl,es,ho⟩:∃sl,fs[j]?=some (some sl)/\(sl=.own o\/sl=.bor o):=by
   unfold AK at eo;split at eo
   next o' es=>cases eo;exact⟨_,es,.inl rfl⟩
   next o' es=>cases eo;exact⟨_,es,.inr rfl⟩
   .cases eo
  obtain⟨v,L1,Lj,L3,e1,rfl,h1,_⟩:=ok.sl.pick es;obtain⟨u,rfl,q⟩:∃u,v=some u/\Ax X.K F H o u Lj:=by
   rcases ho with rfl|rfl
   .exact h1
   .exact h1
  have nd:=ok.nd;have i8:∀a∈L1++L3,a∉Lj:=λa ha hb=>by
   rw[sI]at nd;rcases sW.mp ha with ha|ha
   .exact nd.2.2 a ha a (sX _ hb) rfl
   .exact(sI.mp nd.2.1).2.2 a hb a ha rfl
  have mL:∀a,a∈L1++(Lj++L3)->a∈L1++L3\/a∈Lj:=λa h=>by
   simp only[sW]at h ⊢;rcases h with h|h|h
   .exact .inl (.inl h)
   .exact .inr h
   .exact .inl (.inr h)
  have mO:∀a,a∈L1++L3->a∈L1++(Lj++L3):=λa h=>by rcases sW.mp h with h|h<;>simp[h]
  have lF:Le F H ⟨λa=>F a\/a∈Lj,F.p⟩ H:=⟨λa f=>⟨.inl f,rfl⟩,λa f=>⟨f,rfl⟩⟩
  have au:Ok X.K ⟨λa=>F a\/a∈Lj,λa=>F.p a\/a∈L1++L3⟩ B H ((C7 fs).set j (some (.val (toT o)))) U []:=by
   have h0:Aw X.K ⟨λa=>F a\/a∈Lj,λa=>F.p a\/a∈L1++L3⟩ H (C7 fs) U []:=by have:=(Aw.vals ok.sl).le lF (by simp);exact Aw.wp this
   obtain⟨v',M1,M2,M3,z1,z2,z3,z4⟩:=h0.pick (by
   unfold C7;rw[tO,es];rcases ho with rfl|rfl<;>rfl);obtain⟨rfl,rfl,rfl⟩:=(by simpa using z2.symm)
   have z5:=z4 _ H (some (.val (toT o))) (some u) [] Le.refl (λ_ m=>nomatch m) ⟨u,rfl,(AE.wp (Ax.frz lF (λa m=>.inr m) q)),rfl⟩;rw[BM e1]at z5;refine⟨z5,sY,(λ_ m=>nomatch m),λa f=>?_,λi ob e=>?_,λa f=>?_,λa f z=>?_,(λ_ m=>nomatch m)⟩
   .rcases f with f|f
    .exact ok.fd a f
    .exact Ax.def q a f
   .exfalso;by_cases gS:j=i
    .subst gS;rw[t7 (by unfold C7;rw[sH];exact((sS.mp es).1))]at e;cases e
    .rw[t8 gS]at e;unfold C7 at e;rw[tO,sR]at e;obtain⟨x,_,ex⟩:=e;split at ex<;>cases ex
   .rcases f with f|f
    .exact ok.pd a f
    .exact ok.sl.def a (mO a f)
   .rcases f with f|f
    .rcases z with z|z
     .exact ok.pf a f z
     .exact ok.nf a (mO a z) f
    .rcases z with z|z
     .exact ok.pl a (by simp[f]) z
     .exact i8 a z f
  refine⟨_,B,_,⟨[],au⟩,?_⟩;cases ef:f ((C7 fs).set j (some (.val (toT o))))with
  |exc c τ=>rw[ef]at s;exact s.elim
  |bad=>rw[ef]at s;exact s.elim
  |ok r τ =>
   rw[ef]at s;cases r with
   |nw t=>exact s.elim
   |n t=>exact s.elim
   |t t =>
    dsimp only at s;split at s
    .rename_i ha;intro F2 H2 w l2 q2;obtain⟨_,_,_,⟨_,rv⟩,_⟩:=q2;have lq:Le F H F H2:=⟨λa f=>⟨f,(l2.f a (.inl f)).2⟩,λa f=>⟨f,(l2.p a (.inl f)).2⟩⟩
     refine s F H2 w lq (RR.of ⟨L1++(Lj++L3),ok.sl.le lq (λa m=>by
      rcases mL a m with m|m
      .exact(l2.p a (.inr m)).2
      .exact(l2.f a (.inr m)).2),ok.nd,ok.nf,λa f=>by rw[(lq.f a f).2];exact ok.fd a f,ok.bo,λa f=>by rw[(lq.p a f).2];exact ok.pd a f,ok.pf,ok.pl⟩ (AE.atom ha rv).1)
    .exact s.elim
 .exact s.elim
theorem OY:∀{ah:List (Key×V)}{os:List FO}{L:List Addr},Az K F H os (ah.map (·.2)) L->Iq (ah.map (·.1)) os k=some o ->
  ∃v L1 A Z,K0 ah k=some v/\Ax K F H o v L1/\L=A++(L1++Z)/\∀H' o' eU,(∀a∈A++Z,H' a=H a)->Le F H F H'->Ax K F H' o' v eU->Az K F H' (Iy (ah.map (·.1)) os k o') (ah.map (·.2)) (A++(eU++Z))
 | [],os,L,r,e=>by cases os<;>simp[Iq]at e
 |(g,x)::ah,os,L,r,e=>by
  cases os with
  |nil=>simp[Iq]at e
  |cons o1 os =>
   simp only[sG,Az]at r;obtain⟨v,w,L1,L2,ee,r1,r2,rfl⟩:=r;cases ee;simp only[sG,Iq]at e;by_cases hb:g=k
   .rw[if_pos hb]at e;cases e;refine⟨x,L1,[],L2,EB hb,r1,rfl,λH' o' eU kk l ro=>?_⟩;simp only[sG,Iy,hb,if_true,Az];exact⟨x,_,eU,L2,rfl,ro,Az.le l (λa m=>kk a (by simpa using m)) r2,rfl⟩
   .rw[if_neg hb]at e;obtain⟨v,M,A,Z,h1,h2,rfl,h3⟩:=OY r2 e;refine⟨v,M,L1++A,Z,by rw[EC hb];exact h1,h2,by simp,λH' o' eU kk l ro=>?_⟩;have:=h3 H' o' eU (λa m=>kk a (by
     rcases sW.mp m with m|m
     .simp[m]
     .simp[m])) l ro
    simp only[sG,Iy,hb,if_false,Az];exact⟨x,_,L1,_,rfl,r1.le l λa m=>kk a (by simp[m]),this,by simp⟩
variable{X:Cx}{Z:Xp}{x y z f:Str}{v:Expr}{fv:FS->Out Rv}{C:Addr}{p1 p2 p3 p4 p5 p6 pos:Pos}
theorem R5(hu:X.A.units+1<cLine)(c:Cls X.K C)(n:A4 X.K C f)(i jy jz:Nat)(hx:PE X (.Name x p1) (JA i))(hy:PE X (.Name y p3) (JA jy))(hz:PE X (.Name z p5) (JA jz))(hv:FE X Z v fv)(fV:attributeBase (.Name x p1) f X.env (eval (.Name x p1) X.env)=eval (.Name x p1) X.env:=by rfl)
  (hs:swapsWith v (some (.Subscript (.Subscript (.Attribute (.Name x p1) f p2) (.Name y p3) p4) (.Name z p5) p6)) pos.line X.env=pure false:=by rfl) (hn:JbK (.Name y p3):=by exact λ_ _=>rfl) :
  GS X Z (.Assign [.Subscript (.Subscript (.Attribute (.Name x p1) f p2) (.Name y p3) p4) (.Name z p5) p6] v pos) (dput2 C f i jy jz fv):=by
 refine Cv (K6 hu (Ve hu (Fq hx fV) hy hn) hz hv hs) λD U H ⟨F,B,fs,ok,s⟩=>⟨F,B,fs,ok,Cr s λr aj F1 H1 u l q s1=>?_⟩
 split at s1
 .rename_i t C' gs os yt zt eo ey ez;split at s1
  .rename_i hC;subst hC;split at s1
   .rename_i ks ds k k2 ef ek p9;split at s1
    .rename_i eZ du ed;split at s1
     .rename_i bU;have au:=q.ok;obtain⟨a,dx,ah,w,L1,a1,hd,rfl,e1,r1,na,nf,qY,bk⟩:=au.fld eo ef;simp only[Ax]at r1;obtain⟨b,aE,M2,rfl,bh,rfl,mj,rfl⟩:=r1;obtain⟨v2,N,A,Zz,e2,r2,rfl,oW⟩:=OY mj ed;simp only[Ax]at r2;obtain⟨c2,c9,rfl,dr,rfl,rD,rfl⟩:=r2;obtain⟨L9,o9⟩:=id au;have slot:∀{j:Nat}{t':T}{kk:Key},aj[j]?=some (some (.val t'))->HG t'=some kk->U[j]?=some (some (kV kk)):=λ{j t' kk} ej et=>by obtain⟨w,_,_,_,e6,_,h1,_⟩:=o9.sl.pick ej;obtain⟨uy,rfl,ry,_⟩:=h1;have:=D8 et ry;subst this;exact e6
      have nG:=tu.mp qY;have j8:=sI.mp nG.2;have fc:=nf c2 (by simp);have lq:Le F1 H1 F1 (upd H1 c2 (.l (putK c9 k2 u))):=⟨λa f=>⟨f,Ap λq=>fc.1 (q▸f)⟩,λa f=>⟨f,Ap λq=>fc.2 (q▸f)⟩⟩
      obtain⟨rm,rn⟩:=FQ (by obtain⟨_,_,_,⟨_,rt⟩,_⟩:=q;exact rt) rD;have rC:Ax X.K F1 (upd H1 c2 (.l (putK c9 k2 u))) (.l (E4 (c9.map (·.1)) du k2 t).1 (E4 (c9.map (·.1)) du k2 t).2) (.ref c2) [c2]:=by simp only[Ax];exact⟨c2,putK c9 k2 u,rfl,As,rm,Ah.le lq rn,rfl⟩
      have rO:=oW (upd H1 c2 (.l (putK c9 k2 u))) _ _ (λa m=>Ap λq=>by
       subst q;rcases sW.mp m with m|m
       .exact j8.2.2 a m a (by simp) rfl
       .exact(sI.mp j8.2.1).2.2 a (by simp) a m rfl) lq rC
      obtain⟨bR,l'⟩:=bk (.dO (aE.map (·.1)) (Iy (aE.map (·.1)) ds k (.l (E4 (c9.map (·.1)) du k2 t).1 (E4 (c9.map (·.1)) du k2 t).2))) (upd H1 c2 (.l (putK c9 k2 u))) (λa hb _=>Ap λq=>hb (by rw[q];simp)) (by simp only[Ax];exact⟨b,aE,_,rfl,by rw[Ap (λzz=>nG.1 (by rw[zz];simp))];exact bh,rfl,rO,rfl⟩);exact⟨_,a1,a,C',dx,ah,.ref b,rfl,hd,c,n,e1,kV k,slot ey ek,b,.ref c2,rfl,by rw[<- e2];exact KW.k bh,kV k2,slot ez p9,c2,_,rfl,NM.k dr (by rw[sH]at bU;exact um bU Fx),s1 F1 _ U l' bR⟩
     .exact s1.elim
    .exact s1.elim
   .exact s1.elim
  .exact s1.elim
 .exact s1.elim
theorem HR:∀{os:List FO}{j:Nat},(∀n,j<=n->A n=A' n)->Lq A j os=Lq A' j os
 | [],_,_=>by simp[Lq]
 |o::os,j,h=>by cases o<;>simp[Lq,(HR (os:=os) (j:=j+1) λn hn=>h n (by omega)),h j (sV _)]
theorem OV:∀{os:List FO}{vs:List V}{L:List Addr}(i:Nat),Az K F H os vs L->∃A,Az K F H (Lq A i os) vs L
 | [],vs,L,i,r=>⟨λ_=>0,by simpa[Lq]using r⟩
 |o::os,vs,L,i,r=>by
  simp only[Az]at r;obtain⟨v,w,L1,L2,rfl,r1,r2,rfl⟩:=r;obtain⟨A,rA⟩:=OV (i+1) r2;have same:∀a:Addr,Lq (λn=>if n=i then a else A n) (i+1) os=Lq A (i+1) os:=λa=>HR λn hn=>if_neg (by omega)
  cases o with|lst ts =>simp only[Ax]at r1;obtain⟨a,us,rfl,hd,rt,rfl⟩:=r1;refine⟨λn=>if n=i then a else A n,?_⟩;simp only[Lq,same,if_true,Az,Ax];exact⟨_,_,_,L2,rfl,⟨us,rfl,hd,rt,rfl⟩,rA,rfl⟩|_ =>refine⟨A,?_⟩;simp only[Lq,Az];exact⟨_,_,_,L2,rfl,r1,rA,rfl⟩
variable{k p:Nat}{ps:List Str}{Fn fo:FS->Out Rv}{e o:Expr}{es:List Expr}{fa:FS->Out (List Rv)}{av:Pos}{m:Str}
theorem Nr(G:W6 X.prog X.w X.K X.mg X.base (CX1 X.prog X.w) C m k ps (spX X.K p Fn))(hr:DK k X.A)(lk:Lks X Z)(ho:FE X Z o fo)(ha:FAn X Z (e::es) fa)
  (bK:starEach (e::es) X.env=(false,eval e X.env)::starEach es X.env:=by rfl) (aC:(backTo pos (starEach es X.env)).any (·.1)=false:=by rfl)
  (ht:eval (.Call (.Attribute o m av) (e::es) [] pos) X.env=(do
   let ov <- eval o X.env
   standAt av.atName
   let(f,first) <- holding [ov] (getMethod ov m pl)
   callWith pos f first (backTo pos (starEach (e::es) X.env)) (backToKw pos (keywordEach [] X.env))):=by rfl) :
  FE X Z (.Call (.Attribute o m av) (e::es) [] pos) (newMeth C m p Fn fo fa):=by
 refine A0 (TJ G hr lk ho ha bK aC ht) λU H Q ⟨F,B,fs,ok,s⟩=>⟨F,B,fs,ok,AJ s λr aj F1 H1 u l q s1=>?_⟩
 split at s1
 .rename_i C' gs os;split at s1
  .rename_i hC;obtain⟨rfl,hm⟩:=hC;have q0:=q;obtain⟨L,L',_,ro,_,_⟩:=q0;have ro:Ax X.K F1 H1 (.ins C' gs os) u L':=ro;simp only[Ax]at ro;obtain⟨a,dx,ah,L3,rfl,hd,rfl,ro,rfl⟩:=ro;refine⟨a,dx,ah,rfl,hd,Gx hm,Mq q s1 λrs aA F2 H2 us _ ra s2=>?_⟩;split at s2
   .rename_i eB;obtain⟨L9,M,o9,rr,nd,fr⟩:=ra;obtain⟨v,w,L1,L2,ee,h1,h2,rfl⟩:=rr;cases ee;have h1:Ax X.K F2 H2 (.ins C' (ah.map (·.1)) os) (.ref a) L1:=h1;simp only[Ax]at h1;obtain⟨a',i9,j0,L4,ea,dN,ek,jg,rfl⟩:=h1;obtain⟨A,rA⟩:=OV 0 jg;rw[<- eB A]at s2;unfold Al at s2;split at s2
    next hp=>rw[<- hp];refine Hb ⟨L9,_,o9,⟨.ref a,us,a'::L4,L2,rfl,?_,h2,rfl⟩,nd,fr⟩ s2;simp only[NL,Ax];exact⟨a',i9,j0,L4,ea,dN,ek,rA,rfl⟩
    .exact s2.elim
   .exact s2.elim
  .exact s1.elim
 .exact s1.elim
end FL
namespace Sy
open PySem PySem.Spec L2 FL
abbrev xrs:List Str:=["BadCount","TooLong"]
abbrev xds:List Str:=["BadCount","BadKind","BadName","BadText","Groundless","NoFunction","NoKind","NoMaker","NoName","NoPlace","NoSaying","NotLess","NotShown","SayError","TooLong","Twice"]
def D7(c d:Str):Bool:=c==d||d == "SayError"
def top(i:Nat):Stmt:=PySem.Challenge.pw_stairsay_k22_too_long.main.body.getD i (.Pass ⟨0,0,0,0⟩)
structure Tx(K:Fg)(mg:Str->Option Value)(ao:Addr)(ag:Addr)(ai:Addr)(af:Addr):Prop where
 zh:mg "ValueError"=none
 yG:mg "all"=none
 yF:mg "any"=none
 yK:mg "dict"=none
 yE:mg "int"=none
 zG:mg "isinstance"=none
 yD:mg "len"=none
 yT:mg "list"=none
 yC:mg "max"=none
 yB:mg "min"=none
 yP:mg "range"=none
 zv:mg "reversed"=none
 yA:mg "sum"=none
 yO:mg "tuple"=none
 yN:mg "zip"=none
 yX:∃t,mg "LETTERS"=some (.str ("abcdefghijklmnopqrstuvwxyz":Str) t)
 zC:∃t,mg "MOST_ARGUMENTS"=some (.int 3 t)
 za:∃t,mg "MOST_DEEP"=some (.int 40 t)
 zF:∃t,mg "MOST_DEEP_CALLS"=some (.int 20 t)
 zg:∃t,mg "MOST_KINDS"=some (.int 4 t)
 zu:∃t,mg "MOST_LETTERS"=some (.int 12 t)
 zj:∃t,mg "MOST_MAKERS"=some (.int 4 t)
 zf:∃t,mg "MOST_PARTS"=some (.int 2 t)
 y1:∃t,mg "MOST_SIZE"=some (.int 300 t)
 zD:Cls K ao
 zQ:Cls K ag
 zd:Cls K ai
 zc:Cls K af
 zB:A4 K ag "heads"
 zW:A4 K ag "rows_by_function"
 zA:A4 K ag "stock"
 zR:A4 K ao "calls_left"
 zr:A4 K ao "program"
 zK:A4 K ao "waiting"
 zJ:A4 K ao "worths"
 zq:A4 K ai "heads"
 zN:A4 K ai "kinds_by_name"
 zw:A4 K ai "lessers"
 ze:A4 K ai "own"
 zp:A4 K ai "stock"
 zM:A4 K af "home_by_maker"
 zP:A4 K af "makers_by_kind"
 zO:A4 K af "parts_by_maker"
 xt:KU K mg xrs xds D7
def Ga:FS->SO :=
  (Av (AN 2 (gc (.str ("abcdefghijklmnopqrstuvwxyz":Str))))
  (Av (AN 3 (Ag CP (Ag Ay (Ag Ay (Ag CP (Ab 0) (Ab 0)) (Ab 0)) (gc (.int 1))) (gc (.int 982451653))))
  (Av (AN 4 (Ag Ay (gc (.int 1)) (Ag DG (Ab 3) (gc (.int 12)))))
  (Av (AN 5 (Ag DG (Ag GJ (Ab 3) (gc (.int 12))) (Ab 4)))
  (Av (AN 6 (Ck false [none,some 2,some 3] (O6 (Ac (Ab 4) Ai)) (tgN 0) E1 (Ag AF (Ab 1) (Ag DG (Ag Ay (Ag GJ (Ab 2) (Ag Ay (Ab 0) (gc (.int 5)))) (Ag CP (Ab 0) (Ab 0))) (gc (.int 26))))))
  (Av (AN 7 (Ag AF (An Cz (Ac (gc (.int 1)) (Ac (gc (.int 3)) (Ac (gc (.int 5)) (Ac (gc (.int 7)) (Ac (gc (.int 9)) (Ac (gc (.int 11)) Ai))))))) (Ag DG (Ag GJ (Ab 3) (gc (.int 144))) (gc (.int 6)))))
  (Av (AN 8 (An Er Ai))
  (Av (Dr (O6 (Ac (Ab 1) Ai)) (tgN 9) (Av (AN 10 (Ag AF (Ab 2) (Ag DG (Ag Ay (Ag GJ (Ab 3) (gc (.int 864))) (Ag CP (Ab 9) (Ab 7))) (gc (.int 26)))))
  (ifS (asB (Ag (gEq false) (Ag DG (Ag GJ (Ab 3) (gc (.int 900))) (gc (.int 3))) (gc (.int 1)))) (AH (BC Fw (Ab 8) (Ac (Ag CP (Ag AF (Ab 6) (gc (.int 0))) (Ag Ay (Ag DG (Ag Ay (Ab 9) (Ag GJ (Ab 3) (gc (.int 7)))) (gc (.int 12))) (gc (.int 1)))) Ai))) (AH (BC Fw (Ab 8) (Ac (Ag Ay (Ag Ay (fz (IP GI (gc (.str ("":Str))) (Ac (slF (Ab 6) noP (C8 (Ab 5))) Ai))) (Ab 10)) (fz (IP GI (gc (.str ("":Str))) (Ac (slF (Ab 6) (C8 (Ag Ay (Ab 5) (gc (.int 1)))) noP) Ai)))) Ai))))))
  (retS (Ab 8))))))))))
def Ef:FS->Out Rv:=Bo 9 (Ga)
def EU:FS->SO :=
  (Av (ifS (Ft (asB (chain gLe gLe (gc (.int 1)) (Aj Bx (Ac (Ab 0) Ai)) (gc (.int 12))))) (retS (gc (.o false))) nxS)
  (retS (Aj Zf (Ac (Ck false [none] (itU (fz (Ab 0))) (tgN 0) E1 (Ag (DL false) (fz (Ab 0)) (gc (.str ("abcdefghijklmnopqrstuvwxyz":Str))))) Ai))))
def A2:FS->Out Rv:=Bo 0 (EU)
def CF:FS->SO :=
  (Av (ifS (Ft (asB (chain gLe gLe (gc (.int 1)) (Aj Bx (Ac (Ab 0) Ai)) (gc (.int 4))))) (JI "BadCount" (Ac (gc (.str ("a stock has one to four kinds":Str))) Ai)) nxS)
  (Av (AN 1 EL)
  (Dr (itU (fz (Ab 0))) (AY 2 (Af (tgN 2) (Af (tgN 3) AQ))) (Av (ifS (Ft (Hj (fz (Aj (Al 1 A2) (Ad (fz (Ab 2)) Ai))))) (λ_=>.bad) nxS)
  (Av (ifS (asB (Ag (DL false) (fz (Ab 2)) (Ab 1))) (λ_=>.bad) nxS)
  (Av (ifS (Ft (asB (chain gLe gLe (gc (.int 1)) (Aj Bx (Ac (Ab 3) Ai)) (gc (.int 4))))) (λ_=>.bad) nxS)
  (Dh (gc (.o true)) (Ab 1) (fz (Ab 2)))))))))
def BS:FS->Out Rv:=Bo 3 (CF)
def CD:FS->SO :=
  (Av (ifS (Ft (Hj (fz (Aj (Al 1 A2) (Ad (fz (Ab 0)) Ai))))) (λ_=>.bad) nxS)
  (Av (ifS (asB (Ag (DL false) (fz (Ab 0)) (Ab 2))) (λ_=>.bad) nxS)
  (Av (ifS (asB (Ag gGt (Aj Bx (Ac (Ab 1) Ai)) (gc (.int 2)))) (λ_=>.bad) nxS)
  (Dr (itU (fz (Ab 1))) (tgN 4) (ifS (asB (Ag (DL true) (fz (Ab 4)) (Ab 3))) (λ_=>.bad) nxS)))))
def Bb:FS->Out Rv:=Bo 1 (CD)
def Cb:FS->SO :=
  (Dr (itU (fz (Ab 1))) (tgN 3) (ifS (asB (Ag (DL true) (fz (Ab 3)) (Ab 2))) (λ_=>.bad) nxS))
def A9:FS->Out Rv:=Bo 1 (Cb)
def Ca:FS->SO :=
  (Av (AN 1 (Ck false [none,none] (itU (fz (Ab 0))) (AY 2 (Af (tgN 0) (Af (tgN 1) AQ))) E1 (fz (Ab 0))))
  (Av (AN 2 (An Er Ai))
  (Av (AN 3 EL)
  (Dr (itU (fz (Ab 0))) (AY 2 (Af (tgN 4) (Af (tgN 5) AQ))) (Av (AN 6 (Ag AF (Ag AF (Ab 5) (gc (.int 0))) (gc (.int 0))))
  (Av (Dr (itU (fz (Ab 5))) (AY 2 (Af (tgN 7) (Af (tgN 8) AQ))) (Av (AH (Aj (Al 4 Bb) (Ad (fz (Ab 7)) (Ad (fz (Ab 8)) (Ad (Ab 3) (Ad (fz (Ab 1)) Ai))))))
  (Av (ifS (asB (Ag (gEq false) (Ab 7) (Ab 6))) (AH (Aj (Al 3 A9) (Ad (fz (Ab 7)) (Ad (fz (Ab 8)) (Ad (Ab 2) Ai))))) nxS)
  (Dh (gc (.o true)) (Ab 3) (fz (Ab 7))))))
  (AH (BC Fw (Ab 2) (Ac (fz (Ab 4)) Ai)))))))))
def BD:FS->Out Rv:=Bo 8 (Ca)
def C6(af:Addr):FS->SO :=
  (Av (AH (Aj (Al 1 BS) (Ad (fz (Ab 1)) Ai)))
  (Av (AH (Aj (Al 1 BD) (Ad (fz (Ab 1)) Ai)))
  (Av (H0 af "makers_by_kind" 0 EL)
  (Av (H0 af "parts_by_maker" 0 EL)
  (Av (H0 af "home_by_maker" 0 EL)
  (Dr (itU (fz (Ab 1))) (AY 2 (Af (tgN 2) (Af (tgN 3) AQ))) (Av (CQ af "makers_by_kind" 0 2 (Ck false [none,none] (itU (fz (Ab 3))) (AY 2 (Af (tgN 0) (Af (tgN 1) AQ))) E1 (fz (Ab 0))))
  (Dr (itU (fz (Ab 3))) (AY 2 (Af (tgN 4) (Af (tgN 5) AQ))) (Av (CQ af "parts_by_maker" 0 4 (Aj BQ (Ac (Ab 5) Ai)))
  (CQ af "home_by_maker" 0 4 (fz (Ab 2))))))))))))
def Cj(af:Addr):FS->Out Rv:=Bo 4 (C6 af)
def Cc(af:Addr):FS->SO :=
  (Av (ifS (asB (Ag (DL true) (fz (Ab 1)) (CL af "makers_by_kind" (Ab 0)))) (λ_=>.bad) nxS)
  (retS (Aj Cw (Ac (Ag AF (CL af "makers_by_kind" (Ab 0)) (fz (Ab 1))) Ai))))
def AD(af:Addr):FS->Out Rv:=Bo 0 (Cc af)
def CH(af:Addr):FS->SO :=
  (retS (Aj Cw (Ac (CL af "makers_by_kind" (Ab 0)) Ai)))
def AU(af:Addr):FS->Out Rv:=Bo 0 (CH af)
def Ik(af:Addr):FS->SO :=
  (retS (Aj Ze (Ac (Ck false [none,some 1,some 0] (itU (fz (Hx af "kinds" 1 (AU af) (fz (Ab 0)) Ai))) (tgN 0) E1 (Ag (DL false) (fz (Ab 1)) (fz (BH af "makers" 2 (AD af) (fz (Ab 2)) (Ad (fz (Ab 0)) Ai))))) Ai)))
def Dk(af:Addr):FS->Out Rv:=Bo 0 (Ik af)
def D5(af:Addr):FS->SO :=
  (Av (Hk (fz (Ab 2)) (AY 5 (Af (tgN 3) (Af (tgN 4) (Af (tgN 5) (Af (tgN 6) (Af (tgN 7) AQ)))))))
  (Av (ifS (Ft (Hj (fz (Aj (Al 1 A2) (Ad (fz (Ab 3)) Ai))))) (λ_=>.bad) nxS)
  (Av (ifS (orT (asB (Ag (DL false) (fz (Ab 3)) (Ab 1))) (Hj (fz (Aj (Al 2 (Dk af)) (Ad (fz (Ab 0)) (Ad (fz (Ab 3)) Ai)))))) (λ_=>.bad) nxS)
  (Av (ifS (Ft (asB (chain gLe gLe (gc (.int 1)) (Aj Bx (Ac (Ab 4) Ai)) (gc (.int 3))))) (λ_=>.bad) nxS)
  (Av (Dr (itU (fz (Ag Ay (fz (Aj Cw (Ac (Ab 4) Ai))) (An Cz (Ac (fz (Ab 5)) Ai))))) (tgN 8) (ifS (asB (Ag (DL true) (fz (Ab 8)) (fz (Hx af "kinds" 1 (AU af) (fz (Ab 0)) Ai)))) (λ_=>.bad) nxS))
  (Av (ifS (asB (Ag (gEq true) (Aj Bx (Ac (Ab 6) Ai)) (Ag Dj (Aj Bx (Ac (Ab 4) Ai)) (gc (.int 1))))) (λ_=>.bad) nxS)
  (ifS (asB (Ag (gEq true) (Aj Bx (Ac (Ab 7) Ai)) (Aj Bx (Ac (fz (BH af "makers" 2 (AD af) (fz (Ab 0)) (Ad (Ag AF (Ab 4) (gc (.int 0))) Ai))) Ai)))) (λ_=>.bad) nxS)))))))
def Ci(af:Addr):FS->Out Rv:=Bo 6 (D5 af)
def CG(af:Addr):FS->SO :=
  (Av (ifS (asB (Ag (DL true) (fz (Ab 1)) (CL af "parts_by_maker" (Ab 0)))) (λ_=>.bad) nxS)
  (retS (Ag AF (CL af "parts_by_maker" (Ab 0)) (fz (Ab 1)))))
def Bk(af:Addr):FS->Out Rv:=Bo 0 (CG af)
def DA:FS->SO :=
  (Av (AN 1 EL)
  (Dr (itU (fz (Ab 0))) (tgN 2) (Av (ifS (Ft (Hj (fz (Aj (Al 1 A2) (Ad (fz (Ab 2)) Ai))))) (λ_=>.bad) nxS)
  (Av (ifS (asB (Ag (DL false) (fz (Ab 2)) (Ab 1))) (λ_=>.bad) nxS)
  (Dh (gc (.o true)) (Ab 1) (fz (Ab 2)))))))
def CA:FS->Out Rv:=Bo 2 (DA)
def Fy(af:Addr):FS->SO :=
  (Av (ifS (asB (Ag (DL true) (fz (Ab 1)) (CL af "home_by_maker" (Ab 0)))) (λ_=>.bad) nxS)
  (retS (Ag AF (CL af "home_by_maker" (Ab 0)) (fz (Ab 1)))))
def C5(af:Addr):FS->Out Rv:=Bo 0 (Fy af)
def D4(ai:Addr)(af:Addr):FS->SO :=
  (Av (ifS (asB (Ag (gEq false) (Ab 1) (gc (.str ("make":Str))))) (retS (An Ar (Ac (fz (BH af "parts" 2 (Bk af) (CL ai "stock" (Ab 0)) (Ad (fz (Ab 2)) Ai))) (Ac (fz (BH af "home" 2 (C5 af) (CL ai "stock" (Ab 0)) (Ad (fz (Ab 2)) Ai))) Ai)))) nxS)
  (Av (ifS (asB (Ag (DL true) (fz (Ab 2)) (CL ai "heads" (Ab 0)))) (λ_=>.bad) nxS)
  (retS (Ag AF (CL ai "heads" (Ab 0)) (fz (Ab 2))))))
def Bt(ai:Addr)(af:Addr):FS->Out Rv:=Bo 0 (D4 ai af)
def HB(ai:Addr):FS->SO :=
  (Av (ifS (asB (Ag (DL true) (fz (Ab 1)) (CL ai "kinds_by_name" (Ab 0)))) (λ_=>.bad) nxS)
  (retS (Ag AF (CL ai "kinds_by_name" (Ab 0)) (fz (Ab 1)))))
def B8(ai:Addr):FS->Out Rv:=Bo 0 (HB ai)
def CB(ai:Addr)(af:Addr)(rec:FS->Out Rv):FS->SO :=
  (Av (ifS (asB (Ag (gEq false) (Ag AF (Ab 1) (gc (.int 0))) (gc (.str ("name":Str))))) (retS (Aj (Al 2 (B8 ai)) (Ad (fz (Ab 0)) (Ad (Ag AF (Ab 1) (gc (.int 1))) Ai)))) nxS)
  (Av (Hk (fz (Ab 1)) (AY 3 (Af (tgN 2) (Af (tgN 3) (Af (tgN 4) AQ)))))
  (Av (Hk (fz (Aj (Al 3 (Bt ai af)) (Ad (fz (Ab 0)) (Ad (fz (Ab 2)) (Ad (fz (Ab 3)) Ai))))) (AY 2 (Af (tgN 5) (Af (tgN 6) AQ))))
  (Av (ifS (asB (Ag (gEq true) (Aj Bx (Ac (Ab 4) Ai)) (Aj Bx (Ac (Ab 5) Ai)))) (λ_=>.bad) nxS)
  (Av (ifS (Qp (asB (Ag (gEq false) (Ab 2) (gc (.str ("call":Str))))) (Qp (asB (Ag (gEq false) (Ab 3) (CL ai "own" (Ab 0)))) (asB (Ag Kc (Ag AF (Ab 4) (gc (.int 0))) (CL ai "lessers" (Ab 0)))))) (λ_=>.bad) nxS)
  (Av (Dr (itZ (Ab 4) (Ab 5)) (AY 2 (Af (tgN 7) (Af (tgN 8) AQ))) (ifS (asB (Ag (gEq true) (fz (Aj (Al 2 rec) (Ad (fz (Ab 0)) (Ad (fz (Ab 7)) Ai)))) (Ab 8))) (λ_=>.bad) nxS))
  (retS (Ab 6))))))))
def AS(ai:Addr)(af:Addr):Nat->FS->Out Rv
 |0=>λ_=>.bad
 |n+1=>Bo 7 (CB ai af (AS ai af n))
def D6(ai:Addr):FS->SO :=
  (Av (H0 ai "stock" 0 (fz (Ab 1)))
  (Av (H0 ai "heads" 0 (fz (Ab 2)))
  (Av (H0 ai "kinds_by_name" 0 (fz (Ab 3)))
  (Av (H0 ai "own" 0 (fz (Ab 4)))
  (H0 ai "lessers" 0 (fz (Ab 5)))))))
def BK(ai:Addr):FS->Out Rv:=Bo 0 (D6 ai)
def Ew(ai:Addr)(af:Addr):FS->SO :=
  (Av (Hk (fz (Ab 2)) (AY 5 (Af (tgN 5) (Af (tgN 6) (Af (tgN 7) (Af (tgN 8) (Af (tgN 9) AQ)))))))
  (Av (Hk (fz (Ab 4)) (AY 2 (Af (tgN 10) (Af (tgN 11) AQ))))
  (Av (AN 12 (fz (BH af "parts" 2 (Bk af) (fz (Ab 0)) (Ad (fz (Ab 3)) Ai))))
  (Av (ifS (asB (Ag (gEq true) (Aj Bx (Ac (Ab 10) Ai)) (Aj Bx (Ac (Ab 12) Ai)))) (λ_=>.bad) nxS)
  (Av (AH (Aj (Al 1 CA) (Ad (fz (Ag Ay (fz (Aj Cw (Ac (Ab 10) Ai))) (fz (Aj Cw (Ac (Ab 8) Ai))))) Ai)))
  (Av (AN 13 (fz (NA (Ac (fz (Ag Ay (fz (Aj Cw (Ac (Ab 10) Ai))) (fz (Aj Cw (Ac (Ab 8) Ai))))) (Ac (fz (Ag Ay (fz (Aj Cw (Ac (Ab 12) Ai))) (fz (Aj Cw (Ac (slF (Ab 6) (C8 (gc (.int 1))) noP) Ai))))) Ai)))))
  (Av (AN 14 (Ck false [none,some 13,some 6] (itU (fz (Ab 10))) (tgN 0) (asB (Ag (gEq false) (Ag AF (Ab 1) (fz (Ab 0))) (Ag AF (Ab 2) (gc (.int 0))))) (An Ar (Ac (gc (.str ("name":Str))) (Ac (fz (Ab 0)) Ai)))))
  (ifS (asB (Ag (gEq true) (fz (Aj (Al 2 (AS ai af 8)) (Ad (fz (Aj (E7 ai 6 (BK ai)) (Ad (fz (Ab 0)) (Ad (fz (Ab 1)) (Ad (fz (Ab 13)) (Ad (fz (Ab 5)) (Ad (fz (Ab 14)) Ai))))))) (Ad (fz (Ab 11)) Ai)))) (Ab 7))) (λ_=>.bad) nxS))))))))
def B3(ai:Addr)(af:Addr):FS->Out Rv:=Bo 10 (Ew ai af)
def De(ag:Addr)(ai:Addr)(af:Addr):FS->SO :=
  (Av (H0 ag "stock" 0 (fz (Ab 1)))
  (Av (H0 ag "heads" 0 EL)
  (Av (H0 ag "rows_by_function" 0 EL)
  (Dr (itU (fz (Ab 2))) (tgN 3) (Av (AH (IF 0 (Aj (Al 3 (Ci af)) (Ad (fz (Ab 1)) (Ad (CL ag "heads" (Ab 0)) (Ad (fz (Ab 3)) Ai))))))
  (Av (Hk (fz (Ab 3)) (AY 5 (Af (tgN 4) (Af (tgN 5) (Af (tgN 6) (Af (tgN 7) (Af (tgN 8) AQ)))))))
  (Av (CQ ag "heads" 0 4 (An Ar (Ac (Aj BQ (Ac (Ab 5) Ai)) (Ac (fz (Ab 6)) Ai))))
  (Av (LF ag "rows_by_function" 0 4)
  (Dr (itZ (fz (BH af "makers" 2 (AD af) (fz (Ab 1)) (Ad (Ag AF (Ab 5) (gc (.int 0))) Ai))) (Ab 8)) (AY 2 (Af (tgN 9) (Af (tgN 10) AQ))) (Av (AH (IF 0 (Aj (Al 5 (B3 ai af)) (Ad (fz (Ab 1)) (Ad (CL ag "heads" (Ab 0)) (Ad (fz (Ab 3)) (Ad (fz (Ab 9)) (Ad (fz (Ab 10)) Ai))))))))
  (dput2 ag "rows_by_function" 0 4 9 (An Ar (Ac (Ag Ay (Aj BQ (Ac (Ag AF (Ab 10) (gc (.int 0))) Ai)) (Aj BQ (Ac (Ab 7) Ai))) (Ac (Ag AF (Ab 10) (gc (.int 1))) Ai))))))))))))))
def BE(ag:Addr)(ai:Addr)(af:Addr):FS->Out Rv:=Bo 8 (De ag ai af)
def WZ:FS->SO :=
  (Av (AN 4 (Ag AF (Ab 0) (gc (.int 3))))
  (Av (AN 5 (Ag AF (Ab 0) (gc (.int 4))))
  (Av (AN 6 (An Er Ai))
  (Av (Dr (itU (An Cz (Ac (fz (Ab 4)) (Ac (fz (Ab 5)) Ai)))) (tgN 7) (AH (BC Fw (Ab 6) (Ac (An Ar (Ac (gc (.str ("call":Str))) (Ac (fz (Ab 1)) (Ac (Ag Ay (An Ar (Ac (An Ar (Ac (gc (.str ("name":Str))) (Ac (fz (Ab 7)) Ai))) Ai)) (Aj BQ (Ac (Ck false [none] (itU (fz (Ab 2))) (tgN 0) E1 (An Ar (Ac (gc (.str ("name":Str))) (Ac (fz (Ab 0)) Ai)))) Ai))) Ai)))) Ai))))
  (Av (AN 8 (An Ar (Ac (gc (.str ("make":Str))) (Ac (Ag AF (Ab 0) (gc (.int 0))) (Ac (An Ar Ai) Ai)))))
  (Av (ifS (asB (Ag (Jao true) (Ab 2) (An Ar Ai))) (AN 8 (An Ar (Ac (gc (.str ("name":Str))) (Ac (Ag AF (Ab 2) (gc (.int 0))) Ai)))) nxS)
  (Av (ifS (asB (Ag (gEq false) (Ab 3) (gc (.int 0)))) (retS (An Ar (Ac (An Ar (Ac (An Ar Ai) (Ac (fz (Ab 8)) Ai))) (Ac (An Ar (Ac (An Ar (Ac (fz (Ab 4)) Ai)) (Ac (Ag AF (Ab 6) (gc (.int 0))) Ai))) (Ac (An Ar (Ac (An Ar (Ac (fz (Ab 4)) (Ac (fz (Ab 5)) Ai))) (Ac (Ag AF (Ab 6) (gc (.int 1))) Ai))) Ai))))) nxS)
  (Av (ifS (asB (Ag (gEq false) (Ab 3) (gc (.int 1)))) (Av (AN 9 (An Ar (Ac (gc (.str ("make":Str))) (Ac (Ag AF (Ab 0) (gc (.int 2))) (Ac (An Ar (Ac (Ag AF (Ab 6) (gc (.int 0))) (Ac (Ag AF (Ab 6) (gc (.int 0))) Ai))) Ai)))))
  (retS (An Ar (Ac (An Ar (Ac (An Ar Ai) (Ac (fz (Ab 8)) Ai))) (Ac (An Ar (Ac (An Ar (Ac (fz (Ab 4)) Ai)) (Ac (fz (Ab 9)) Ai))) (Ac (An Ar (Ac (An Ar (Ac (fz (Ab 4)) (Ac (fz (Ab 5)) Ai))) (Ac (fz (Ab 8)) Ai))) Ai)))))) nxS)
  (retS (An Ar (Ac (An Ar (Ac (An Ar Ai) (Ac (fz (Ab 8)) Ai))) (Ac (An Ar (Ac (An Ar (Ac (fz (Ab 4)) Ai)) (Ac (An Ar (Ac (gc (.str ("make":Str))) (Ac (Ag AF (Ab 0) (gc (.int 1))) (Ac (An Ar (Ac (Ag AF (Ab 6) (gc (.int 0))) Ai)) Ai)))) Ai))) (Ac (An Ar (Ac (An Ar (Ac (fz (Ab 4)) (Ac (fz (Ab 5)) Ai))) (Ac (Ag AF (Ab 6) (gc (.int 0))) Ai))) Ai)))))))))))))
def Es:FS->Out Rv:=Bo 6 (WZ)
def Im(ag:Addr)(ai:Addr)(af:Addr):FS->SO :=
  (Av (AN 1 (Ag AF (Ab 0) (gc (.int 5))))
  (Av (AN 2 (fz (Aj (E7 af 2 (Cj af)) (Ad (An Cz (Ac (An Ar (Ac (fz (Ab 1)) (Ac (An Cz (Ac (An Ar (Ac (Ag AF (Ab 0) (gc (.int 0))) (Ac (An Ar Ai) Ai))) (Ac (An Ar (Ac (Ag AF (Ab 0) (gc (.int 1))) (Ac (An Ar (Ac (fz (Ab 1)) Ai)) Ai))) (Ac (An Ar (Ac (Ag AF (Ab 0) (gc (.int 2))) (Ac (An Ar (Ac (fz (Ab 1)) (Ac (fz (Ab 1)) Ai))) Ai))) Ai)))) Ai))) Ai)) Ai))))
  (Av (AN 3 (An Er Ai))
  (Av (Dr (O6 (Ac (gc (.int 3)) Ai)) (tgN 4) (Av (AN 5 (slF (An Ar (Ac (Ag AF (Ab 0) (gc (.int 5))) Ai)) noP (C8 (Aj Nj (Ac (Ag (gEq false) (Ab 4) (gc (.int 2))) Ai)))))
  (Av (AN 6 (Ag Pl (An Ar (Ac (fz (Ab 1)) Ai)) (Ag Ay (gc (.int 1)) (Aj Bx (Ac (Ab 5) Ai)))))
  (AH (BC Fw (Ab 3) (Ac (An Ar (Ac (Ag AF (Ab 0) (Ag Ay (gc (.int 6)) (Ab 4))) (Ac (fz (Ab 6)) (Ac (fz (Ab 1)) (Ac (fz (Ab 5)) (Ac (fz (Aj (Al 4 Es) (Ad (fz (Ab 0)) (Ad (Ag AF (Ab 0) (Ag Ay (gc (.int 6)) (Ab 4))) (Ad (fz (Ab 5)) (Ad (fz (Ab 4)) Ai)))))) Ai)))))) Ai))))))
  (retS (Aj (E7 ag 3 (BE ag ai af)) (Ad (fz (Ab 2)) (Ad (fz (Ab 3)) Ai))))))))
def Dl(ag:Addr)(ai:Addr)(af:Addr):FS->Out Rv:=Bo 6 (Im ag ai af)
def S9:FS->SO :=
  (Av (AN 3 (fz (Ab 2)))
  (Av (Dr (O6 (Ac (Ab 1) Ai)) (tgN 4) (AN 3 (An Ar (Ac (Ag AF (Ab 0) (gc (.int 1))) (Ac (An Ar (Ac (fz (Ab 3)) Ai)) Ai)))))
  (retS (Ab 3))))
def B9:FS->Out Rv:=Bo 2 (S9)
def Hf:FS->SO :=
  (Av (ifS (asB (Ag (gEq false) (Ab 0) (gc (.int 0)))) (retS (An Ar (Ac (Ag Ay (Ab 2) (gc (.int 1))) (Ac (Ag gLe (Ag Ay (Ab 2) (gc (.int 1))) (gc (.int 20))) (Ac (An Ar (Ac (Ag AF (Ab 1) (gc (.int 0))) (Ac (An Ar Ai) Ai))) Ai))))) nxS)
  (Av (ifS (asB (Ag (gEq false) (Ab 0) (gc (.int 1)))) (Av (AN 4 (An Ar (Ac (Ag AF (Ab 1) (gc (.int 0))) (Ac (An Ar Ai) Ai))))
  (Av (Dr (O6 (Ac (Ab 2) Ai)) (tgN 5) (AN 4 (An Ar (Ac (Ag AF (Ab 1) (gc (.int 2))) (Ac (An Ar (Ac (fz (Ab 4)) (Ac (fz (Ab 4)) Ai))) Ai)))))
  (retS (An Ar (Ac (Ag Dj (Ag Wa (gc (.int 1)) (Ag Ay (Ab 2) (gc (.int 1)))) (gc (.int 1))) (Ac (gc (.o true)) (Ac (fz (Ab 4)) Ai))))))) nxS)
  (Av (ifS (asB (Ag (gEq false) (Ab 0) (gc (.int 2)))) (retS (An Ar (Ac (Ag Ay (Ab 2) (gc (.int 1))) (Ac (Us (Ag gLe (Ag Ay (Ab 2) (gc (.int 1))) (gc (.int 20))) (orV (Ag (gEq false) (Ab 2) (gc (.int 0))) (Ag gLe (Ag Ay (Ab 2) (Ab 3)) (gc (.int 40))))) (Ac (gc .v) Ai))))) nxS)
  (retS (An Ar (Ac (gc (.int 0)) (Ac (Ag gLe (Ag Ay (Ag Ay (gc (.int 1)) (Ab 2)) (Ab 3)) (gc (.int 300))) (Ac (gc .v) Ai))))))))
def Bm:FS->Out Rv:=Bo 2 (Hf)
def Eh:FS->SO :=
  (Av (ifS (asB (Ag gLt (Ab 1) (Aj Bx (Ac (Ab 0) Ai)))) (retS (Ag AF (Ab 0) (fz (Ab 1)))) nxS)
  (retS (gc (.int 0))))
def AA:FS->Out Rv:=Bo 0 (Eh)
def LI(rec:FS->Out Rv):FS->SO :=
  (Av (ifS (asB (Ag gLt (Ab 1) (gc (.int 3)))) (retS (Aj (Al 3 B9) (Ad (fz (Ab 0)) (Ad (Ag Dj (Ab 1) (gc (.int 1))) (Ad (An Ar (Ac (Ag AF (Ab 0) (gc (.int 0))) (Ac (An Ar Ai) Ai))) Ai))))) nxS)
  (Av (AN 2 (Ag GJ (Ag Dj (Ab 1) (gc (.int 1))) (gc (.int 2))))
  (retS (An Ar (Ac (Ag AF (Ab 0) (gc (.int 2))) (Ac (An Ar (Ac (fz (Aj (Al 2 rec) (Ad (fz (Ab 0)) (Ad (fz (Ab 2)) Ai)))) (Ac (fz (Aj (Al 2 rec) (Ad (fz (Ab 0)) (Ad (Ag Dj (Ag Dj (Ab 1) (gc (.int 1))) (Ab 2)) Ai)))) Ai))) Ai))))))
def BI:Nat->FS->Out Rv
 |0=>λ_=>.bad
 |n+1=>Bo 1 (LI (BI n))
def Bv(ao:Addr):FS->SO :=
  (Av (AH (DJ ao "waiting" 0 (An Ar (Ac (fz (Ab 1)) (Ac (fz (Ab 2)) (Ac (fz (Ab 3)) (Ac (gc (.o true)) Ai)))))))
  (Dr (Jba (Ag AF (Ab 1) (gc (.int 2)))) (tgN 4) (AH (DJ ao "waiting" 0 (An Ar (Ac (fz (Ab 4)) (Ac (fz (Ab 2)) (Ac (fz (Ab 3)) (Ac (gc (.o false)) Ai)))))))))
def A3(ao:Addr):FS->Out Rv:=Bo 1 (Bv ao)
def Jm(ag:Addr):FS->SO :=
  (Av (ifS (asB (Ag (DL true) (fz (Ab 1)) (CL ag "rows_by_function" (Ab 0)))) (λ_=>.bad) nxS)
  (Av (ifS (asB (Ag (DL true) (fz (Ab 2)) (Ag AF (CL ag "rows_by_function" (Ab 0)) (fz (Ab 1))))) (λ_=>.bad) nxS)
  (retS (Ag AF (Ag AF (CL ag "rows_by_function" (Ab 0)) (fz (Ab 1))) (fz (Ab 2))))))
def Bl(ag:Addr):FS->Out Rv:=Bo 0 (Jm ag)
def HA:FS->SO :=
  (Av (AN 1 (An Er Ai))
  (Av (AN 2 (An Cz (Ac (fz (Ab 0)) Ai)))
  (Av (Cd (Hj (Ab 2)) (Av (AH (BC Fw (Ab 1) (Ac (Aj Bx (Ac (Ab 2) Ai)) Ai)))
  (Av (AN 3 (An Er Ai))
  (Av (Dr (itU (fz (Ab 2))) (AY 2 (Af (tgN 4) (Af (tgN 5) AQ))) (AH (BC Nk (Ab 3) (Ac (fz (Ab 5)) Ai))))
  (AN 2 (fz (Ab 3)))))) 1000)
  (retS (Ab 1)))))
def B7:FS->Out Rv:=Bo 5 (HA)
def KO:FS->SO :=
  (Av (AN 1 (fz (Aj (Al 1 B7) (Ad (fz (Ab 0)) Ai))))
  (retS (An Ar (Ac (fz (Ab 0)) (Ac (Aj T3 (Ac (Ab 1) Ai)) (Ac (Aj Bx (Ac (Ab 1) Ai)) Ai))))))
def BR:FS->Out Rv:=Bo 1 (KO)
def Bp(ag:Addr)(ao:Addr):FS->SO :=
  (Av (ifS (asB (Ag gLe (CL ao "calls_left" (Ab 0)) (gc (.int 0)))) (JI "TooLong" (Ac (gc (.str ("there are too many calls":Str))) Ai)) nxS)
  (Av (ifS (asB (Ag gGt (Ab 3) (gc (.int 20)))) (JI "TooLong" (Ac (gc (.str ("a call is too deep":Str))) Ai)) nxS)
  (Av (N5 ao "calls_left" 0 1)
  (Av (Hk (Ag AF (Ag AF (Ab 2) (gc (.int 0))) (gc (.int 0))) (AY 2 (Af (tgN 4) (Af (tgN 5) AQ))))
  (Av (Hk (fz (BH ag "row" 3 (Bl ag) (CL ao "program" (Ab 0)) (Ad (fz (Ab 1)) (Ad (fz (Ab 4)) Ai)))) (AY 2 (Af (tgN 6) (Af (tgN 7) AQ))))
  (Av (AN 8 (fz (Ag Ay (Ck false [none] (itU (fz (Ab 5))) (tgN 0) E1 (fz (Aj (Al 1 BR) (Ad (fz (Ab 0)) Ai)))) (slF (Ab 2) (C8 (gc (.int 1))) noP))))
  (AH (DJ ao "waiting" 0 (An Ar (Ac (fz (Ab 7)) (Ac (fz (NA (Ac (Ab 6) (Ac (Ab 8) Ai)))) (Ac (Ag Ay (Ab 3) (gc (.int 1))) (Ac (gc (.o false)) Ai)))))))))))))
def AX(ag:Addr)(ao:Addr):FS->Out Rv:=Bo 5 (Bp ag ao)
def Qj:FS->SO :=
  (Av (AN 2 (Ag Ay (gc (.int 1)) (Aj T3 (Ac (Ck false [none] (itU (fz (Ab 1))) (tgN 0) E1 (Ag AF (Ab 0) (gc (.int 1)))) Ai))))
  (Av (AN 3 (Ag Ay (gc (.int 1)) (maxD 0 (Ac (Ck false [none] (itU (fz (Ab 1))) (tgN 0) E1 (Ag AF (Ab 0) (gc (.int 2)))) Ai))))
  (Av (ifS (orT (asB (Ag gGt (Ab 2) (gc (.int 300)))) (asB (Ag gGt (Ab 3) (gc (.int 40))))) (JI "TooLong" (Ac (gc (.str ("a thing is too great or too deep":Str))) Ai)) nxS)
  (retS (An Ar (Ac (An Ar (Ac (fz (Ab 0)) (Ac (Aj BQ (Ac (Ck false [none] (itU (fz (Ab 1))) (tgN 0) E1 (Ag AF (Ab 0) (gc (.int 0)))) Ai)) Ai))) (Ac (fz (Ab 2)) (Ac (fz (Ab 3)) Ai))))))))
def Kl:FS->Out Rv:=Bo 2 (Qj)
def He(ao:Addr):FS->SO :=
  (Av (AN 2 (An Er Ai))
  (Av (Dr (O6 (Ac (Ab 1) Ai)) (tgN 3) (AH (BC Fw (Ab 2) (Ac (fz (Ho ao "worths" 0)) Ai))))
  (retS (Jag (Ab 2)))))
def B4(ao:Addr):FS->Out Rv:=Bo 2 (He ao)
def Hd(ag:Addr)(ao:Addr):FS->SO :=
  (Av (AH (DJ ao "waiting" 0 (An Ar (Ac (fz (Ab 2)) (Ac (fz (Ab 1)) (Ac (gc (.int 1)) (Ac (gc (.o false)) Ai)))))))
  (Av (Cd (MT ao "waiting" 0) (Av (Hk (fz (Ho ao "waiting" 0)) (AY 4 (Af (tgN 3) (Af (tgN 4) (Af (tgN 5) (Af (tgN 6) AQ))))))
  (ifS (asB (Ag (gEq false) (Ag AF (Ab 3) (gc (.int 0))) (gc (.str ("name":Str))))) (AH (DJ ao "worths" 0 (Ag AF (Ab 4) (Ag AF (Ab 3) (gc (.int 1)))))) (ifS (Ft (Hj (Ab 6))) (AH (BH ao "await_arguments" 4 (A3 ao) (Ab 0) (Ad (fz (Ab 3)) (Ad (fz (Ab 4)) (Ad (fz (Ab 5)) Ai))))) (ifS (asB (Ag (gEq false) (Ag AF (Ab 3) (gc (.int 0))) (gc (.str ("make":Str))))) (AH (DJ ao "worths" 0 (fz (Aj (Al 2 Kl) (Ad (Ag AF (Ab 3) (gc (.int 1))) (Ad (fz (BH ao "taken" 2 (B4 ao) (Ab 0) (Ad (Aj Bx (Ac (Ag AF (Ab 3) (gc (.int 2))) Ai)) Ai))) Ai)))))) (AH (BH ao "await_body" 4 (AX ag ao) (Ab 0) (Ad (Ag AF (Ab 3) (gc (.int 1))) (Ad (fz (BH ao "taken" 2 (B4 ao) (Ab 0) (Ad (Aj Bx (Ac (Ag AF (Ab 3) (gc (.int 2))) Ai)) Ai))) (Ad (fz (Ab 5)) Ai))))))))) 4000)
  (retS (Ag AF (RG ao "worths" 0) (gc (.int 0))))))
def Bu(ag:Addr)(ao:Addr):FS->Out Rv:=Bo 4 (Hd ag ao)
def Fj(ao:Addr):FS->SO :=
  (Av (H0 ao "program" 0 (fz (Ab 1)))
  (Av (H0 ao "calls_left" 0 (fz (Ab 2)))
  (Av (H0 ao "waiting" 0 (An Er Ai))
  (H0 ao "worths" 0 (An Er Ai)))))
def CM(ao:Addr):FS->Out Rv:=Bo 0 (Fj ao)
noncomputable def b_run(ag:Addr)(ao:Addr):FS->SO :=
  (Av (AN 4 EL)
  (Av (Dr (itI (Ab 1)) (AY 2 (Af (tgN 5) (Af (tgN 6) AQ))) (Dh (fz (Aj (Al 1 BR) (Ad (fz (Ab 6)) Ai))) (Ab 4) (fz (Ab 5))))
  (retS (newMeth ao "worth" 3 (Bu ag ao) (Aj (E7 ao 3 (CM ao)) (Ad (fz (Ab 0)) (Ad (fz (Ab 3)) Ai))) (Ad (fz (Ab 4)) (Ad (fz (Ab 2)) Ai))))))
noncomputable def f_run(ag:Addr)(ao:Addr):FS->Out Rv:=Bo 3 (b_run ag ao)
def NI:FS->SO :=
  (Av (AN 1 (An Cz (Ac (isX xrs D7 "BadName" (Ab 0)) (Ac (isX xrs D7 "Twice" (Ab 0)) (Ac (isX xrs D7 "BadCount" (Ab 0)) Ai)))))
  (Av (AN 1 (fz (Ag Ay (Ab 1) (An Cz (Ac (isX xrs D7 "NoKind" (Ab 0)) (Ac (isX xrs D7 "Groundless" (Ab 0)) (Ac (isX xrs D7 "NoMaker" (Ab 0)) Ai)))))))
  (Av (AN 1 (fz (Ag Ay (Ab 1) (An Cz (Ac (isX xrs D7 "NoName" (Ab 0)) (Ac (isX xrs D7 "NoFunction" (Ab 0)) (Ac (isX xrs D7 "NotLess" (Ab 0)) Ai)))))))
  (Av (AN 1 (fz (Ag Ay (Ab 1) (An Cz (Ac (isX xrs D7 "BadKind" (Ab 0)) (Ac (isX xrs D7 "TooLong" (Ab 0)) (Ac (isX xrs D7 "NoPlace" (Ab 0)) Ai)))))))
  (retS (Ag Ay (Ab 1) (An Cz (Ac (isX xrs D7 "NotShown" (Ab 0)) (Ac (isX xrs D7 "NoSaying" (Ab 0)) (Ac (isX xrs D7 "BadText" (Ab 0)) Ai))))))))))
def CN:FS->Out Rv:=Bo 1 (NI)
def S8:FS->SO :=
  (Av (ifS (orT (Ft (Hj (isV xrs (Ab 0)))) (asB (Ag (gEq true) (fz (BC Jap (fz (Aj (Al 1 CN) (Ad (fz (Ab 0)) Ai))) (Ac (gc (.o true)) Ai))) (gc (.int 1))))) (retS (JbV (gc (.int 1)))) nxS)
  (retS (BC Jam (fz (Aj (Al 1 CN) (Ad (fz (Ab 0)) Ai))) (Ac (gc (.o true)) Ai))))
def Ee:FS->Out Rv:=Bo 0 (S8)
noncomputable def b_Lright(ag:Addr)(ao:Addr):FS->SO :=
  (Av (AN 5 (gc .v))
  (Av (AN 6 (gc .v))
  (Av (Xb 7 (λc=>xrs.contains c&&D7 c "SayError") (AN 6 (fz (Aj (Al 4 (f_run ag ao)) (Ad (fz (Ab 0)) (Ad (fz (Ab 1)) (Ad (fz (Ab 2)) (Ad (fz (Ab 3)) Ai))))))) (AN 5 (fz (Ab 7))))
  (Av (ifS (asB (Ag (T4 false) (Ab 4) (gc .v))) (retS (Ag (gEq false) (fz (Aj (Al 1 Ee) (Ad (fz (Ab 5)) Ai))) (gc (.int 10)))) nxS)
  (retS (Us (Ag (T4 false) (Ab 5) (gc .v)) (Ag Np (Ab 6) (Ab 4))))))))
noncomputable def f_Lright(ag:Addr)(ao:Addr):FS->Out Rv:=Bo 3 (b_Lright ag ao)
noncomputable def b_law(ag:Addr)(ao:Addr)(ai:Addr)(af:Addr):FS->SO :=
  (Av (AN 1 (fz (Aj (Al 2 Ef) (Ad (fz (Aj (Al 2 AA) (Ad (fz (Ab 0)) (Ad (gc (.int 0)) Ai)))) (Ad (gc (.int 9)) Ai)))))
  (Av (AN 2 (fz (Aj (Al 1 (Dl ag ai af)) (Ad (fz (Ab 1)) Ai))))
  (Av (AN 3 (Ag DG (fz (Aj (Al 2 AA) (Ad (fz (Ab 0)) (Ad (gc (.int 1)) Ai)))) (gc (.int 4))))
  (Av (AN 4 (Ag AF (An Cz (Ac (Ag DG (fz (Aj (Al 2 AA) (Ad (fz (Ab 0)) (Ad (gc (.int 2)) Ai)))) (gc (.int 25))) (Ac (Ag DG (fz (Aj (Al 2 AA) (Ad (fz (Ab 0)) (Ad (gc (.int 2)) Ai)))) (gc (.int 8))) (Ac (Ag DG (fz (Aj (Al 2 AA) (Ad (fz (Ab 0)) (Ad (gc (.int 2)) Ai)))) (gc (.int 21))) Ai)))) (Aj IY (Ac (Ab 3) (Ac (gc (.int 2)) Ai)))))
  (Av (AN 5 (Ag Ay (gc (.int 18)) (Ag DG (fz (Aj (Al 2 AA) (Ad (fz (Ab 0)) (Ad (gc (.int 3)) Ai)))) (gc (.int 8)))))
  (Av (AN 6 (fz (Aj (Al 3 B9) (Ad (fz (Ab 1)) (Ad (fz (Ab 4)) (Ad (An Ar (Ac (Ag AF (Ab 1) (gc (.int 0))) (Ac (An Ar Ai) Ai))) Ai))))))
  (Av (AN 7 (fz (Aj (Al 3 B9) (Ad (fz (Ab 1)) (Ad (Ag Dj (Ab 5) (gc (.int 1))) (Ad (An Ar (Ac (Ag AF (Ab 1) (gc (.int 0))) (Ac (An Ar Ai) Ai))) Ai))))))
  (Av (AN 8 (An Ar (Ac (gc (.str ("call":Str))) (Ac (Ag AF (Ab 1) (Ag Ay (gc (.int 6)) (Aj IY (Ac (Ab 3) (Ac (gc (.int 2)) Ai))))) (Ac (slF (An Ar (Ac (An Ar (Ac (gc (.str ("name":Str))) (Ac (gc (.str ("x":Str))) Ai))) (Ac (An Ar (Ac (gc (.str ("name":Str))) (Ac (gc (.str ("y":Str))) Ai))) Ai))) noP (C8 (Ag Ay (gc (.int 1)) (Aj Nj (Ac (Ag (gEq false) (Ab 3) (gc (.int 2))) Ai))))) Ai)))))
  (Av (ifS (asB (Ag (gEq false) (Ab 3) (gc (.int 3)))) (Av (AN 4 (Ag Ay (gc (.int 140)) (Ag DG (fz (Aj (Al 2 AA) (Ad (fz (Ab 0)) (Ad (gc (.int 2)) Ai)))) (gc (.int 18)))))
  (Av (AN 5 (Ag Ay (gc (.int 140)) (Ag DG (fz (Aj (Al 2 AA) (Ad (fz (Ab 0)) (Ad (gc (.int 3)) Ai)))) (gc (.int 18)))))
  (Av (AN 6 (fz (Aj (Al 2 (BI 10)) (Ad (fz (Ab 1)) (Ad (fz (Ab 4)) Ai)))))
  (Av (AN 7 (fz (Aj (Al 2 (BI 10)) (Ad (fz (Ab 1)) (Ad (fz (Ab 5)) Ai)))))
  (AN 8 (An Ar (Ac (gc (.str ("make":Str))) (Ac (Ag AF (Ab 1) (gc (.int 2))) (Ac (An Ar (Ac (An Ar (Ac (gc (.str ("name":Str))) (Ac (gc (.str ("x":Str))) Ai))) (Ac (An Ar (Ac (gc (.str ("name":Str))) (Ac (gc (.str ("y":Str))) Ai))) Ai))) Ai))))))))) nxS)
  (Av (Hk (fz (Aj (Al 4 Bm) (Ad (fz (Ab 3)) (Ad (fz (Ab 1)) (Ad (fz (Ab 4)) (Ad (fz (Ab 5)) Ai)))))) (AY 3 (Af (tgN 9) (Af (tgN 10) (Af (tgN 11) AQ)))))
  (Av (ifS (asB (Ag (gEq false) (Ab 3) (gc (.int 2)))) (AN 11 (fz (Aj (Al 3 B9) (Ad (fz (Ab 1)) (Ad (fz (Ab 4)) (Ad (fz (Ab 7)) Ai)))))) nxS)
  (Av (ifS (asB (Ag (gEq false) (Ab 3) (gc (.int 3)))) (AN 11 (An Ar (Ac (Ag AF (Ab 1) (gc (.int 2))) (Ac (An Ar (Ac (fz (Ab 6)) (Ac (fz (Ab 7)) Ai))) Ai)))) nxS)
  (Av (AN 12 (SK "x" "y" 6 7))
  (Av (ifS (Ft (Hj (Ab 10))) (AN 11 (gc .v)) nxS)
  (Av (ifS (Ft (Hj (fz (Aj (Al 5 (f_Lright ag ao)) (Ad (fz (Ab 2)) (Ad (fzW (Ab 12)) (Ad (fz (Ab 8)) (Ad (gc (.int 2000)) (Ad (fz (Ab 11)) Ai))))))))) (retS (gc (.o false))) nxS)
  (Av (ifS (Ft (Hj (fz (Aj (Al 5 (f_Lright ag ao)) (Ad (fz (Ab 2)) (Ad (fzW (Ab 12)) (Ad (fz (Ab 8)) (Ad (fz (Ab 9)) (Ad (fz (Ab 11)) Ai))))))))) (retS (gc (.o false))) nxS)
  (retS (orV (Ag (gEq false) (Ab 9) (gc (.int 0))) (fz (Aj (Al 5 (f_Lright ag ao)) (Ad (fz (Ab 2)) (Ad (fzW (Ab 12)) (Ad (fz (Ab 8)) (Ad (Ag Dj (Ab 9) (gc (.int 1))) (Ad (gc .v) Ai)))))))))))))))))))))))))
noncomputable def f_law(ag:Addr)(ao:Addr)(ai:Addr)(af:Addr):FS->Out Rv:=Bo 12 (b_law ag ao ai af)
end Sy
namespace Nm
def M(c:Int):Int:=(c*c+c+1)*982451653
def W(c:Int):Int:=1+M c%12
def At(c:Int):Int:=M c/12%W c
def Cf(i:Int):Nat:=97+(i%26).toNat
def base(c:Int)(j:Nat):Nat:=Cf (M c/((j:Int)+5)+(j:Int)*j)
def stepI(c:Int):Nat:=(M c/144%6).toNat
def step(c:Int):Int:=([1,3,5,7,9,11]:List Int).getD (stepI c) 1
def one(c:Int)(k:Nat):Nat:=Cf (M c/864+(k:Int)*step c)
def Kx(c:Int)(k:Nat):List Nat:=List.replicate (((k:Int)+M c/7)%12+1).toNat (base c 0)
def Ie(c:Int)(k:Nat):List Nat:=(List.range (At c).toNat).map (base c)++[one c k]++(List.range ((W c).toNat-((At c).toNat+1))).map λj=>base c ((At c).toNat+1+j)
def codes(c:Int)(k:Nat):List Nat:=if M c/900%3=1 then Kx c k else Ie c k
theorem Jac(c:Int):1<=W c:=by unfold W;omega
theorem JbI(c:Int):W c<=12:=by unfold W;omega
theorem Jad(c:Int):0<=At c:=Int.emod_nonneg _ (by have:=Jac c;omega)
theorem Jae(c:Int):At c<W c:=Int.emod_lt_of_pos _ (by have:=Jac c;omega)
theorem OS(i:Int):97<=Cf i:=by unfold Cf;omega
theorem OT(i:Int):Cf i<=122:=by unfold Cf;omega
theorem QJ(c:Int):step c=1\/step c=3\/step c=5\/step c=7\/step c=9\/step c=11:=by
 have h:stepI c<6:=by unfold stepI;omega
 unfold step;generalize stepI c=i at h
 match i,h with|0,_=>simp|1,_=>simp|2,_=>simp|3,_=>simp|4,_=>simp|5,_=>simp
theorem one_inj(hk:k<12)(fZ:k'<12)(h:one c k=one c k'):k=k':=by
 unfold one Cf at h;have h':=by omega
 generalize M c/864=m at h';rcases QJ c with e|e|e|e|e|e<;>rw[e]at h'<;>omega
theorem Eg(c:Int)(k:Nat):(Kx c k).length=(((k:Int)+M c/7)%12+1).toNat:=by unfold Kx;simp
theorem Ic(c:Int)(k:Nat):(Ie c k).length=(W c).toNat:=by unfold Ie;simp only[tM,sH,uf,List.length_singleton];have:=Jad c;have:=Jae c;omega
theorem SR(c:Int)(k:Nat):1<=(codes c k).length:=by
 unfold codes;split
 .rw[Eg];omega
 .rw[Ic];have:=Jac c;omega
theorem MC(c:Int)(k:Nat):(codes c k).length<=12:=by
 unfold codes;split
 .rw[Eg];omega
 .rw[Ic];have:=JbI c;omega
theorem Jf(c:Int)(k:Nat):∀x∈codes c k,97<=x/\x<=122:=by
 intro x hx;have key:∃i,x=Cf i:=by
  unfold codes at hx;split at hx
  .unfold Kx at hx;exact⟨_,(List.mem_replicate.mp hx).2⟩
  .unfold Ie at hx;rcases sW.mp hx with hx|hx
   .rcases sW.mp hx with hx|hx
    .obtain⟨j,_,rfl⟩:=tQ.mp hx;exact⟨_,rfl⟩
    .rw[sZ.mp hx];exact⟨_,rfl⟩
   .obtain⟨j,_,rfl⟩:=tQ.mp hx;exact⟨_,rfl⟩
 obtain⟨i,rfl⟩:=key;exact⟨OS i,OT i⟩
theorem P4(hk:k<12)(fZ:k'<12)(h:codes c k=codes c k'):k=k':=by
 unfold codes at h;split at h
 .have e:=congrArg List.length h;rw[Eg,Eg]at e;omega
 .unfold Ie at h;rw[tR,tR]at h;have h1:=List.append_cancel_left h;rw[List.singleton_append,List.singleton_append]at h1;exact one_inj hk fZ (List.cons.inj h1).1
end Nm
namespace Sy
open PySem PySem.Spec L2 FL
theorem Cq(e:g fs=.nx aq):Av g h fs=h aq:=by unfold Av;rw[e]
abbrev vl(t:T):Option Sl:=some (.val t)
abbrev iv(i:Int):Option Sl:=some (.val (.int i))
def Fre:Option Sl->Prop
 |some (.bor _)=>False
 |_=>True
theorem Aq:Fre none:=True.intro
theorem AG:Fre (vl t):=True.intro
theorem Bn(e:fs[i]?=some x)(h:Fre x):MV i (.t t) fs=some (fs.set i (vl t)):=by unfold MV;rw[e];cases x with|none=>rfl|some s=>cases s with|val t=>rfl|own o=>rfl|bor o=>exact h.elim
theorem GX:∀(ts:List T)(x:Option Sl)(ax:List T),Fre x->(∀t∈ts,fe (vl t::rest)=.ok (.t (f t)) (vl t::rest))->ax.length+ts.length<=big ->
  ∃y,Fre y/\CY (tgN 0) E1 fe ts (x::rest) ax=some (ax++ts.map f,y::rest)
 | [],x,ax,hx,_,_=>⟨x,hx,by simp[CY]⟩
 |t::ts,x,ax,hx,h,hl=>by
  obtain⟨y,hy,e⟩:=GX ts (vl t) (ax++[f t]) AG (λt' m=>h t' (sN _ m)) (by simp at hl ⊢;omega);refine⟨y,hy,?_⟩;have h1:tgN 0 t (x::rest)=some (vl t::rest):=by unfold tgN;rw[Bn rfl hx];rfl
  have h3:ax.length<big:=by simp at hl;omega
  simp only[CY,h1,E1,(h t tL),if_pos h3,e];simp
theorem Dx(P:List T->FS->Prop)(step:∀t ts fs,P (t::ts) fs->∃aj aA,gt t fs=some aj/\body aj=.nx aA/\P ts aA):∀(ts:List T)(fs:FS),P ts fs->∃aq,DX gt body ts fs=.nx aq/\P [] aq
 | [],fs,h=>⟨fs,rfl,h⟩
 |t::ts,fs,h=>by obtain⟨aj,aA,e1,e2,h2⟩:=step t ts fs h;obtain⟨aq,e,hp⟩:=Dx P step ts aA h2;exact⟨aq,by simp only[DX,e1,e2,e],hp⟩
theorem Fl:∀ns:List Int,BX (ns.map T.int)=some ns
 | []=>rfl
 |n::ns=>by simp[BX,Fl ns]
def IsI(t:T)(ns:List Int):Prop:=t=.zU (ns.map T.int)\/t=.lst (ns.map T.int)
theorem IsI.seq(h:IsI t ns)(fs:FS):Cu fs (.t t)=some (ns.map T.int):=by rcases h with rfl|rfl<;>rfl
variable{i j:Int}{fs:FS}
theorem Br:Ay (.t (.int i)) (.t (.int j)) fs=.ok (.t (.int (i+j))) fs:=rfl
theorem HY:Dj (.t (.int i)) (.t (.int j)) fs=.ok (.t (.int (i-j))) fs:=rfl
theorem Fv(h:0<j):DG (.t (.int i)) (.t (.int j)) fs=.ok (.t (.int (i%j))) fs:=if_pos h
theorem HZ(h:0<j/\j<1073741824):GJ (.t (.int i)) (.t (.int j)) fs=.ok (.t (.int (i/j))) fs:=if_pos h
theorem Pm(h:-(2^64)<i/\i<2^64):CP (.t (.int i)) (.t (.int j)) fs=.ok (.t (.int (i*j))) fs:=by have e:Xf (.t (.int i)) (.t (.int j)) fs=.ok (.t (.int (i*j))) fs:=if_pos (by rw[tw h];rfl);unfold CP orG;rw[e]
theorem Wf(h:Builtin.Int.intBits i<=2^26/\Builtin.Int.intBits j<=2^26):CP (.t (.int i)) (.t (.int j)) fs=.ok (.t (.int (i*j))) fs:=by have e:Xf (.t (.int i)) (.t (.int j)) fs=.ok (.t (.int (i*j))) fs:=if_pos (by rw[tw h.1,tw h.2];simp);unfold CP orG;rw[e]
theorem Ec(h:Cu fs x=some ts)(e:atI ts i=some t):AF x (.t (.int i)) fs=.ok (.t t) fs:=by
 have e':gIx x (.t (.int i)) fs=.ok (.t t) fs:=by simp only[gIx,h,e,okT]
 unfold AF orG;rw[e']
theorem Za(h:IsI t ns)(h0:0<=i)(h1:i<ns.length):AF (.t t) (.t (.int i)) fs=.ok (.t (.int (ns.getD i.toNat 0))) fs:=by
 refine Ec (h.seq fs) ?_;have e:(ns.map T.int)[i.toNat]?=some (T.int (ns.getD i.toNat 0)):=by
  have:i.toNat<ns.length:=by omega
  simp[this]
 have:=DB e;rwa[Int.toNat_of_nonneg h0]at this
theorem HM{j}:∀{is:List Ini}{k:Nat},(∀i∈is,BO fs i=none)->FL.placeOf fs j is k=none
 | [],_,_=>rfl
 |i::is,k,h=>by simp only[FL.placeOf];rw[h i tL,if_neg (by simp)];exact HM λi' m=>h i' (sN _ m)
theorem Ij(h:∀i∈is,BO fs i=none):∀(gs:FS)(j:Nat),Hz fs is τ j gs=some gs
 | [],_=>rfl
 |g::gs,j=>by simp only[Hz,LH,HM h,Ij h gs (j+1)]
theorem AV(h:Dc fs is=[]):D3 is τ fs=some fs:=Ij (List.filterMap_eq_nil_iff.mp h) fs 0
theorem DZ(h1:fi fs=.ok ts fs)(h2:(Dc fs (src.map λo=>o.elim Ini.no Ini.slot)).Nodup/\(src.all λo=>o.elim true λj=>decide (j<fs.length))=true)
  (h3:CY gt ft fe ts (B1 fs (src.map λo=>o.elim Ini.no Ini.slot)) []=some (vs,τ)) (h4:D3 (src.map λo=>o.elim Ini.no Ini.slot) τ fs=some aq):Ck false src fi gt ft fe fs=.ok (.t (.lst vs)) aq:=by
 unfold Ck;rw[h1];simp only[Out.bind];rw[if_pos h2,h3];dsimp only;rw[h4];rfl
def nmS(c:Int)(k:Nat):Str:=⟨(Nm.codes c k).toArray⟩
def nms(c:Int)(n:Nat):List Str:=(List.range n).map (nmS c)
def ABC:Str:="abcdefghijklmnopqrstuvwxyz"
theorem Jab:∀j,j<26->ABC.cps.toList[j]?=some (97+j):=by decide +kernel
theorem Qk(x:Int):atI ABC.cps.toList (x%26)=some (Nm.Cf x):=by
 have h:(x%26).toNat<26:=by omega
 have e:=DB (Jab _ h);rw[Int.toNat_of_nonneg (by omega)]at e;exact e
theorem HU:∀ys:List Str,(Str.join (⟨#[]⟩:Str) ys).cps.toList=(ys.map λy=>y.cps.toList).flatten
 | []=>rfl
 | [x]=>by simp[Str.join]
 |x::y::r=>by show(x.cps++#[]++(Str.join ⟨#[]⟩ (y::r)).cps).toList=_;rw[sG,List.flatten_cons,<- (HU (y::r))];simp
theorem join_ones(f:Nat->Nat)(js:List Nat):(Txt.join (⟨#[]⟩:Str) (js.map λj=>(⟨#[f j]⟩:Str))).cps.toList=js.map f:=by
 show(Builtin.Str.glued _ _).cps.toList=_;rw[StrLaws.glued_eq_join,HU]
 induction js with|nil=>rfl|cons j r ih =>rw[sG,sG,List.flatten_cons,ih,sG];rfl
theorem UI{x y:Str}(h:x.cps.toList=y.cps.toList):x=y:=by
 obtain⟨a⟩:=x;obtain⟨b⟩:=y;have:a=b:=by simpa using h
 rw[this]
theorem OK(c:Nat)(n:Int)(h0:1<=n):(Txt.mul (⟨#[c]⟩:Str) n).cps.toList=List.replicate n.toNat c:=by
 unfold Txt.mul;rw[if_neg (by omega)];by_cases h1:n=1
 .subst h1;rfl
 .rw[if_neg (by simp[h1,Str.length])];have key:∀(m:Nat)(ax:Array Nat),((List.replicate m #[c]).foldl (·++·) ax).toList=ax.toList++List.replicate m c:=by
   intro m
   induction m with|zero=>intro ax;simp|succ m ih =>intro ax;rw[uC,List.foldl_cons,ih,uC];simp
  have:=key n.toNat #[];simpa using this
theorem PQ:Str.ofString ""=(⟨#[]⟩:Str):=rfl
theorem Ri(f:Nat->Nat)(js:List Nat):((js.map λj=>(⟨#[f j]⟩:Str)).map (·.length)).sum=js.length:=by induction js with|nil=>rfl|cons j r ih =>rw[sG,sG,List.sum_cons,ih,tj];show 1+r.length=_;omega
theorem Ml(f:Nat->Nat)(js:List Nat):(Txt.join (⟨#[]⟩:Str) (js.map λj=>(⟨#[f j]⟩:Str))).length=js.length:=by have e:=congrArg List.length (join_ones f js);rw[sH]at e;rw[<- e];simp[Str.length]
def BW(c:Int)(n:Nat):List Str:=(List.range n).map λj=>(⟨#[Nm.base c j]⟩:Str)
theorem NG(c:Int)(n k:Nat)(h:k<=n):(BW c n).take k=BW c k:=by unfold BW;rw[<- List.map_take,List.take_range,Nat.min_eq_left h]
theorem NH(c:Int)(n k:Nat):(BW c n).drop k=(List.range (n-k)).map λj=>(⟨#[Nm.base c (k+j)]⟩:Str):=by
 unfold BW;rw[<- List.map_drop];apply List.ext_getElem?;intro i;rw[tO,tO,List.getElem?_drop];by_cases hi:k+i<n
 .rw[uO hi,uO (by omega)];rfl
 .rw[ua (by simp;omega),ua (by simp;omega)];rfl
theorem We(h:-(2^64)<j/\j<2^64):CP (.t (.int i)) (.t (.int j)) fs=.ok (.t (.int (i*j))) fs:=by have e:Xf (.t (.int i)) (.t (.int j)) fs=.ok (.t (.int (i*j))) fs:=if_pos (by rw[tw h];simp);unfold CP orG;rw[e]
theorem Wc(h:z.length=1/\1<=n/\n<=1000):CP (.t (.str z)) (.t (.int n)) fs=.ok (.t (.str (Txt.mul z n))) fs:=by have e2:Xf (.t (.str z)) (.t (.int n)) fs=.bad:=rfl;unfold CP orG;rw[e2];exact(if_pos h)
theorem Pu(h:x.length+y.length<=big):Ay (.t (.str x)) (.t (.str y)) fs=.ok (.t (.str (x++y))) fs:=by have e:Sh (.t (.str x)) (.t (.str y)) fs=.ok (.t (.str (x++y))) fs:=if_pos h;have e2:Jbf (.t (.str x)) (.t (.str y)) fs=.bad:=rfl;unfold Ay orG;rw[e2];dsimp only;rw[e]
theorem Ms(hz:z.length<=big)(e:atI z.cps.toList i=some c):AF (.t (.str z)) (.t (.int i)) fs=.ok (.t (.str ⟨#[c]⟩)) fs:=by
 have e':gIx (.t (.str z)) (.t (.int i)) fs=.ok (.t (.str ⟨#[c]⟩)) fs:=by simp only[gIx,Cu,hz,if_true,e,okT]
 unfold AF orG;rw[e']
theorem Io:∀xs:List Str,Cy (xs.map T.str)=some xs
 | []=>rfl
 |n::ns=>by simp[Cy,Io ns]
theorem P1(h0:0<=v)(h1:v.toNat<=xs.length):Um xs none (some v)=xs.take v.toNat:=by show(xs.drop 0).take ((if v<0 then(v+(xs.length:Int)).toNat else min v.toNat xs.length)-0)=_;rw[if_neg (by omega),Nat.min_eq_left h1];simp
theorem Kt(h0:0<=v)(h1:v.toNat<=xs.length):Um xs (some v) none=xs.drop v.toNat:=by show(xs.drop (if v<0 then(v+(xs.length:Int)).toNat else min v.toNat xs.length)).take (xs.length-(if v<0 then(v+(xs.length:Int)).toNat else min v.toNat xs.length))=_;rw[if_neg (by omega),Nat.min_eq_left h1];exact uY (by rw[List.length_drop];omega)
theorem Ta(c:Int):atI [T.int 1,T.int 3,T.int 5,T.int 7,T.int 9,T.int 11] (Nm.M c/144%6)=some (T.int (Nm.step c)):=by
 have h:Nm.stepI c<6:=by unfold Nm.stepI;omega
 have e:([T.int 1,T.int 3,T.int 5,T.int 7,T.int 9,T.int 11]:List T)[Nm.stepI c]?=some (T.int (Nm.step c)):=by
  unfold Nm.step;generalize Nm.stepI c=i at h
  match i,h with|0,_=>rfl|1,_=>rfl|2,_=>rfl|3,_=>rfl|4,_=>rfl|5,_=>rfl
 have e2:=DB e;unfold Nm.stepI at e2;rwa[Int.toNat_of_nonneg (by omega)]at e2
theorem W4:ABC.length<=big:=by decide +kernel
theorem VZ{f:Nat->Nat}{js:List Nat}(h:js.length<=1000):GI (.t (.str ("":Str))) [.t (.lst ((js.map λj=>(⟨#[f j]⟩:Str)).map T.str))] fs=.ok (.t (.str (Txt.join (⟨#[]⟩:Str) (js.map λj=>(⟨#[f j]⟩:Str))))) fs:=by have e0:("":Str).length=0:=rfl;simp only[GI,Cu,tV,Io,Ri,e0,Nat.mul_zero,Nat.add_zero];rw[if_pos (show js.length<=big from tK h (by decide)),show("":Str)=(⟨#[]⟩:Str)from PQ];simp only[okT]
theorem JH(e:fa fs=.ok [.t (.int j)] fs)(h:-(2^62)<=j/\j<2^62):O6 fa fs=.ok (FL.upTo 0 j.toNat) fs:=by unfold O6;rw[e];simp only[Out.bind];exact if_pos h
theorem Ak(h1:fa fs=.ok (.t x) fs)(h2:fb fs=.ok (.t y) fs)(h3:g (.t x) (.t y) fs=r):Ag g fa fb fs=r:=by unfold Ag;rw[h1];show(fb fs).bnd _=r;rw[h2];exact h3
theorem Aa{i}(h:fs[i]?=some (vl t)):Ab i fs=.ok (.t t) fs:=by unfold Ab;rw[h]
theorem AB:gc t fs=.ok (.t t) fs:=rfl
theorem Ja6(gL:L.length<=big)(hL:∀x:Int,atI L.cps.toList (x%26)=some (Nm.Cf x))(m:Int)(k:Nat)(hk:k<12):
  Ag AF (Ab 1) (Ag DG (Ag Ay (Ag GJ (Ab 2) (Ag Ay (Ab 0) (gc (.int 5)))) (Ag CP (Ab 0) (Ab 0))) (gc (.int 26))) [iv (k:Int),vl (.str L),iv m]=.ok (.t (.str ⟨#[Nm.Cf (m/((k:Int)+5)+(k:Int)*(k:Int))]⟩)) [iv (k:Int),vl (.str L),iv m] :=
 Ak (Aa rfl) (Ak (Ak (Ak (Aa rfl) (Ak (Aa rfl) AB Br) (HZ ⟨by omega,by omega⟩)) (Ak (Aa rfl) (Aa rfl) (Pm ⟨by omega,by omega⟩)) Br) AB (Fv (by decide))) (Ms gL (hL _))
theorem AL{i}(h:f fs=.ok (.t t) fs)(hs:MV i (.t t) fs=some aq):AN i f fs=.nx aq:=by unfold AN;rw[h];show(match MV i (.t t) fs with|some fs=>SO.nx fs|none=>.bad)=_;rw[hs]
theorem Ao(h1:f fs=.ok (.t t) fs)(h2:g fs=.ok rs fs):Ac f g fs=.ok (.t t::rs) fs:=by unfold Ac;rw[h1];show(g fs).bind _=_;rw[h2];rfl
theorem Am(h:f fs=.ok (.t t) fs):fz f fs=.ok (.t t) fs:=by unfold fz;rw[h];rfl
theorem BV(h:fa fs=.ok rs fs)(h2:g rs fs=r):Aj g fa fs=r:=by unfold Aj;rw[h];exact h2
theorem MK{i}(h0:fs[i]?=some (some (.own (.lst ts))))(h:f fs=.ok (.t t) fs)(hl:ts.length<big)(e:fs.set i (some (.own (.lst (ts++[t]))))=aq):AH (BC Fw (Ab i) (Ac f Ai)) fs=.nx aq:=by
 have h1:Ab i fs=.ok (.n i) fs:=by unfold Ab;rw[h0]
 have h2:FL.AK fs i=some (.lst ts):=by unfold FL.AK;rw[h0]
 have h3:Cu fs (.n i)=some ts:=by simp only[Cu,h2]
 have h4:Ac f Ai fs=.ok [.t t] fs:=Ao h rfl;have h5:Fw (.n i) [.t t] fs=.ok (.t .v) aq:=by
  simp only[Fw,h2];rw[if_pos hl];have:FL.putAt fs i (.lst (ts++[t]))=aq:=by unfold FL.putAt;rw[h0];exact e
  rw[this]
 have h6:BC Fw (Ab i) (Ac f Ai) fs=.ok (.t .v) aq:=by unfold BC;rw[h1];show(if(Cu fs (.n i)).isSome=true then _ else _)=_;rw[h3,if_pos (show(some ts).isSome=true from rfl),h4];exact h5
 unfold AH;rw[h6];rfl
theorem DV(hc:c fs=.ok true fs)(e:g fs=r):ifS c g h fs=r:=by unfold ifS;rw[hc];exact e
theorem AW(hc:c fs=.ok false fs)(e:h fs=r):ifS c g h fs=r:=by unfold ifS;rw[hc];exact e
theorem ZT(h1:fa fs=.ok (.t (.int i)) fs)(h2:fb fs=.ok (.t (.int j)) fs):asB (Ag (gEq false) fa fb) fs=.ok (decide (i=j)) fs:=by
 have e:gEq false (.t (.int i)) (.t (.int j)) fs=.ok (.t (.o (decide (i=j)))) fs:=by
  have q:decide (V.int i=V.int j)=decide (i=j):=by simp
  show(if Ob (V.int i) (V.int j)=true then okT (.o (if false=true then _ else decide (V.int i=V.int j))) fs else .bad)=_;rw[if_pos (show Ob (V.int i) (V.int j)=true from rfl),q];rfl
 unfold asB;rw[Ak h1 h2 e];rfl
theorem FY(h:fa fs=.ok rs fs)(h2:Qs rs=some ts)(h3:ts.length<=big):An Cz fa fs=.ok (.t (.lst ts)) fs:=by unfold An;rw[h];show(match Qs rs with|some ts=>_|none=>_)=_;rw[h2];exact if_pos h3
theorem QN(h1:f fs=.ok (.t (.lst ts)) fs)(h2:g fs=.ok (.t (.int v)) fs)(h0:0<=v)(hl:v.toNat<=ts.length):slF f noP (C8 g) fs=.ok (.t (.lst (ts.take v.toNat))) fs:=by unfold slF;rw[h1];show((C8 g) fs).bind _=_;unfold C8;rw[h2];simp only[Out.bnd,Out.bind];simp only[Xe,Cu,okT];rw[P1 h0 hl]
theorem LU(h1:f fs=.ok (.t (.lst ts)) fs)(h2:g fs=.ok (.t (.int v)) fs)(h0:0<=v)(hl:v.toNat<=ts.length):slF f (C8 g) noP fs=.ok (.t (.lst (ts.drop v.toNat))) fs:=by unfold slF;rw[h1];show((C8 g) fs).bind _=_;unfold C8;rw[h2];simp only[Out.bnd,Out.bind,noP];simp only[Xe,Cu,okT];rw[Kt h0 hl]
theorem Mm{g:Nat->Nat}{js:List Nat}(h:f fs=.ok (.t (.lst ((js.map λj=>(⟨#[g j]⟩:Str)).map T.str))) fs)(hl:js.length<=1000):fz (IP GI (gc (.str ("":Str))) (Ac f Ai)) fs=.ok (.t (.str (Txt.join (⟨#[]⟩:Str) (js.map λj=>(⟨#[g j]⟩:Str))))) fs:=by refine Am ?_;unfold IP gc;show((Ac f Ai fs).bind _)=_;rw[(Ao h (show Ai fs=.ok [] fs from rfl))];exact VZ hl
theorem VB(gL:L.length<=big)(hL:∀x:Int,atI L.cps.toList (x%26)=some (Nm.Cf x))(sv:0<=w)(hw:w<=12)(m a:Int)(hm:m=Nm.M c)(x0 x1 x6 x7 x8 x9 dw:Option Sl):
  Ck false [none,some 2,some 3] (O6 (Ac (Ab 4) Ai)) (tgN 0) E1 (Ag AF (Ab 1) (Ag DG (Ag Ay (Ag GJ (Ab 2) (Ag Ay (Ab 0) (gc (.int 5)))) (Ag CP (Ab 0) (Ab 0))) (gc (.int 26)))) [x0,x1,vl (.str L),iv m,iv w,iv a,x6,x7,x8,x9,dw]=.ok (.t (.lst ((BW c w.toNat).map T.str))) [x0,x1,vl (.str L),iv m,iv w,iv a,x6,x7,x8,x9,dw]:=by
 obtain⟨y,hy,e2⟩:=GX (f:=λt'=>match t' with|.int i=>.str ⟨#[Nm.Cf (m/(i+5)+i*i)]⟩|_=>.v) (rest:=[vl (.str L),iv m]) (FL.upTo 0 w.toNat) none [] Aq (λt' mt=>by
   unfold FL.upTo at mt;rw[tQ]at mt;obtain⟨k,mk,rfl⟩:=mt;have hk:=uw.mp mk;rw[Int.zero_add];exact Ja6 gL hL m k (by omega)) (by
   unfold FL.upTo;rw[sH,uf];show 0+_<=1000000;omega)
 have e3:=DZ (src:=[none,some 2,some 3]) (JH (fa:=Ac (Ab 4) Ai) (fs:=[x0,x1,vl (.str L),iv m,iv w,iv a,x6,x7,x8,x9,dw]) (Ao (Aa rfl) rfl) ⟨by omega,by omega⟩) ⟨by rw[show Dc [x0,x1,vl (.str L),iv m,iv w,iv a,x6,x7,x8,x9,dw] _=[]from rfl];exact sY,by rfl⟩ e2 (AV rfl);rw[e3,tS];have e4:(FL.upTo 0 w.toNat).map (λt'=>match t' with|.int i=>T.str ⟨#[Nm.Cf (m/(i+5)+i*i)]⟩|_=>.v)=(BW c w.toNat).map T.str:=by
  subst hm;unfold FL.upTo BW;rw[tU,tU];refine List.map_congr_left λk _=>?_
  simp only[Function.comp_apply,Int.zero_add,Nm.base]
 rw[e4]
theorem VA{i}(gL:L.length<=big)(hL:∀x:Int,atI L.cps.toList (x%26)=some (Nm.Cf x))(hm:m=Nm.M c)(hw:w=Nm.W c)(ha:a=Nm.At c)(bK:st=Nm.step c)(hi:i<12)(dw:Option Sl)(hx:Fre dw):
  ∃cJ,Fre cJ/\(Av (AN 10 (Ag AF (Ab 2) (Ag DG (Ag Ay (Ag GJ (Ab 3) (gc (.int 864))) (Ag CP (Ab 9) (Ab 7))) (gc (.int 26)))))
  (ifS (asB (Ag (gEq false) (Ag DG (Ag GJ (Ab 3) (gc (.int 900))) (gc (.int 3))) (gc (.int 1)))) (AH (BC Fw (Ab 8) (Ac (Ag CP (Ag AF (Ab 6) (gc (.int 0))) (Ag Ay (Ag DG (Ag Ay (Ab 9) (Ag GJ (Ab 3) (gc (.int 7)))) (gc (.int 12))) (gc (.int 1)))) Ai))) (AH (BC Fw (Ab 8) (Ac (Ag Ay (Ag Ay (fz (IP GI (gc (.str ("":Str))) (Ac (slF (Ab 6) noP (C8 (Ab 5))) Ai))) (Ab 10)) (fz (IP GI (gc (.str ("":Str))) (Ac (slF (Ab 6) (C8 (Ag Ay (Ab 5) (gc (.int 1)))) noP) Ai)))) Ai)))))
   [iv c,iv n,vl (.str L),iv m,iv w,iv a,vl (.lst ((BW c w.toNat).map T.str)),iv st,some (.own (.lst ((nms c i).map T.str))),iv (i:Int),dw] =
   .nx [iv c,iv n,vl (.str L),iv m,iv w,iv a,vl (.lst ((BW c w.toNat).map T.str)),iv st,some (.own (.lst ((nms c (i+1)).map T.str))),iv (i:Int),cJ]:=by
 have w0:=Nm.Jac c;have w1:=Nm.JbI c;have a0:=Nm.Jad c;have a1:=Nm.Jae c;rw[<- hw]at w0 w1 a1;rw[<- ha]at a0 a1;have kX:Nm.one c i=Nm.Cf (m/864+(i:Int)*st):=by rw[hm,bK];rfl
 have jq:((nms c i).map T.str).length<big:=by unfold nms;rw[sH,sH,uf];show i<1000000;omega
 have mQ:∀z:Str,z.cps.toList=Nm.codes c i->(nms c i).map T.str++[T.str z]=(nms c (i+1)).map T.str:=λz ez=>by unfold nms;rw[List.range_succ,tf,tf];have:z=nmS c i:=UI (by rw[ez];simp[nmS]);rw[this];rfl
 refine⟨vl (.str ⟨#[Nm.one c i]⟩),AG,?_⟩;have s1:AN 10 (Ag AF (Ab 2) (Ag DG (Ag Ay (Ag GJ (Ab 3) (gc (.int 864))) (Ag CP (Ab 9) (Ab 7))) (gc (.int 26)))) [iv c,iv n,vl (.str L),iv m,iv w,iv a,vl (.lst ((BW c w.toNat).map T.str)),iv st,some (.own (.lst ((nms c i).map T.str))),iv (i:Int),dw] =
   .nx [iv c,iv n,vl (.str L),iv m,iv w,iv a,vl (.lst ((BW c w.toNat).map T.str)),iv st,some (.own (.lst ((nms c i).map T.str))),iv (i:Int),vl (.str ⟨#[Nm.one c i]⟩)]:=by
  rw[kX];exact AL (Ak (Aa rfl) (Ak (Ak (Ak (Aa rfl) AB (HZ ⟨by decide,by decide⟩)) (Ak (Aa rfl) (Aa rfl) (Pm ⟨by omega,by omega⟩)) Br) AB (Fv (by decide))) (Ms gL (hL _))) (Bn rfl hx)
 rw[Cq s1];have hc:=ZT (fa:=Ag DG (Ag GJ (Ab 3) (gc (.int 900))) (gc (.int 3))) (fb:=gc (.int 1)) (fs:=[iv c,iv n,vl (.str L),iv m,iv w,iv a,vl (.lst ((BW c w.toNat).map T.str)),iv st,some (.own (.lst ((nms c i).map T.str))),iv (i:Int),vl (.str ⟨#[Nm.one c i]⟩)])
  (Ak (Ak (Aa (t:=.int m) rfl) AB (HZ ⟨by decide,by decide⟩)) AB (Fv (by decide))) AB
 by_cases h1:m/900%3=1
 .rw[tw h1]at hc;have eb:((BW c w.toNat).map T.str)[0]?=some (T.str ⟨#[Nm.base c 0]⟩):=by unfold BW;rw[tU,tO,uO (by omega)];rfl
  refine DV hc (MK (t:=.str (Txt.mul ⟨#[Nm.base c 0]⟩ (((i:Int)+m/7)%12+1))) rfl (Ak (Ak (Aa rfl) AB (Ec (i:=0) rfl (DB eb))) (Ak (Ak (Ak (Aa rfl) (Ak (Aa rfl) AB (HZ ⟨by decide,by decide⟩)) Br) AB (Fv (by decide))) AB Br) (Wc ⟨rfl,by omega,by omega⟩)) jq ?_);rw[mQ _ (by rw[OK _ _ (by omega),Nm.codes,<- hm,if_pos h1,Nm.Kx,<- hm])];rfl
 .rw[tB h1]at hc;have el:((BW c w.toNat).map T.str).length=w.toNat:=by unfold BW;rw[sH,sH,uf]
  have et:((BW c w.toNat).map T.str).take a.toNat=((List.range a.toNat).map λj=>(⟨#[Nm.base c j]⟩:Str)).map T.str:=by rw[<- List.map_take,NG c _ _ (by omega)];rfl
  have ed:((BW c w.toNat).map T.str).drop (a+1).toNat=((List.range (w.toNat-(a+1).toNat)).map λj=>(⟨#[Nm.base c ((a+1).toNat+j)]⟩:Str)).map T.str:=by rw[<- List.map_drop,NH]
  have j1:=QN (f:=Ab 6) (g:=Ab 5) (fs:=[iv c,iv n,vl (.str L),iv m,iv w,iv a,vl (.lst ((BW c w.toNat).map T.str)),iv st,some (.own (.lst ((nms c i).map T.str))),iv (i:Int),vl (.str ⟨#[Nm.one c i]⟩)]) (Aa rfl) (Aa (t:=.int a) rfl) a0 (by rw[el];omega);have j2:=LU (f:=Ab 6) (g:=Ag Ay (Ab 5) (gc (.int 1))) (fs:=[iv c,iv n,vl (.str L),iv m,iv w,iv a,vl (.lst ((BW c w.toNat).map T.str)),iv st,some (.own (.lst ((nms c i).map T.str))),iv (i:Int),vl (.str ⟨#[Nm.one c i]⟩)]) (v:=a+1) (Aa rfl) (Ak (Aa (t:=.int a) rfl) AB Br) (by omega) (by rw[el];omega);rw[et]at j1;rw[ed]at j2;have l1:(Txt.join (⟨#[]⟩:Str) ((List.range a.toNat).map λj=>(⟨#[Nm.base c j]⟩:Str))).length=a.toNat:=by rw[Ml,uf]
  have l2:(Txt.join (⟨#[]⟩:Str) ((List.range (w.toNat-(a+1).toNat)).map λj=>(⟨#[Nm.base c ((a+1).toNat+j)]⟩:Str))).length=w.toNat-(a+1).toNat:=by rw[Ml (λj=>Nm.base c ((a+1).toNat+j)),uf]
  refine AW hc (MK (t:=.str ((Txt.join (⟨#[]⟩:Str) ((List.range a.toNat).map λj=>(⟨#[Nm.base c j]⟩:Str))++(⟨#[Nm.one c i]⟩:Str))++Txt.join (⟨#[]⟩:Str) ((List.range (w.toNat-(a+1).toNat)).map λj=>(⟨#[Nm.base c ((a+1).toNat+j)]⟩:Str)))) rfl (Ak (Ak (Mm j1 (by rw[uf];omega)) (Aa rfl) (Pu ?_)) (Mm (g:=λj=>Nm.base c ((a+1).toNat+j)) j2 (by rw[uf];omega)) (Pu ?_)) jq ?_)
  .rw[l1];show a.toNat+1<=1000000;omega
  .rw[strLen_append,l1,l2];show a.toNat+1+_<=1000000;omega
  .rw[mQ _ ?_]
   .rfl
   .have q1:=join_ones (Nm.base c) (List.range a.toNat);have ea:(a+1).toNat=a.toNat+1:=by omega
    show(((Txt.join (⟨#[]⟩:Str) _).cps++#[Nm.one c i])++(Txt.join (⟨#[]⟩:Str) _).cps).toList=_;rw[Array.toList_append,Array.toList_append,q1,(join_ones (λj=>Nm.base c ((a+1).toNat+j)) (List.range (w.toNat-(a+1).toNat))),Nm.codes,<- hm,if_neg h1,Nm.Ie,<- ha,<- hw,ea]
theorem I0(e:fa fs=.ok [.t (.int (n:Int))] fs)(h:n<2^62)(ef:DX gt body (FL.upTo 0 n) fs=r):Dr (O6 fa) gt body fs=r:=by unfold Dr;rw[JH e ⟨by omega,by omega⟩,uK];exact ef
theorem Na{n:Nat}(hn:n<=12)(hb:Builtin.Int.intBits c<=2^20):∃x2 x3 x4 x5 x6 x7 x9 dw,Ga [iv c,iv n,none,none,none,none,none,none,none,none,none]=.ret (.n 8) [iv c,iv n,x2,x3,x4,x5,x6,x7,some (.own (.lst ((nms c n).map T.str))),x9,dw]:=by
 have gA:Builtin.Int.intBits c<=2^26:=tK hb (by decide);have w0:=Nm.Jac c;have w1:=Nm.JbI c;have hL:∀x:Int,atI ("abcdefghijklmnopqrstuvwxyz":Str).cps.toList (x%26)=some (Nm.Cf x):=Qk;have gL:("abcdefghijklmnopqrstuvwxyz":Str).length<=big:=W4;unfold Ga;generalize ("abcdefghijklmnopqrstuvwxyz":Str)=L at hL gL;have s2:AN 2 (gc (.str L)) [iv c,iv n,none,none,none,none,none,none,none,none,none]=.nx [iv c,iv n,vl (.str L),none,none,none,none,none,none,none,none]:=rfl;have s3:AN 3 (Ag CP (Ag Ay (Ag Ay (Ag CP (Ab 0) (Ab 0)) (Ab 0)) (gc (.int 1))) (gc (.int 982451653))) [iv c,iv n,vl (.str L),none,none,none,none,none,none,none,none]=.nx [iv c,iv n,vl (.str L),iv (Nm.M c),none,none,none,none,none,none,none]:=by unfold Nm.M;exact AL (Ak (Ak (Ak (Ak (Aa rfl) (Aa rfl) (Wf ⟨gA,gA⟩)) (Aa rfl) Br) AB Br) AB (We ⟨by decide,by decide⟩)) rfl
 generalize hm:Nm.M c=m at s3;have s4:AN 4 (Ag Ay (gc (.int 1)) (Ag DG (Ab 3) (gc (.int 12)))) [iv c,iv n,vl (.str L),iv m,none,none,none,none,none,none,none]=.nx [iv c,iv n,vl (.str L),iv m,iv (Nm.W c),none,none,none,none,none,none]:=by unfold Nm.W;rw[hm];exact AL (Ak AB (Ak (Aa rfl) AB (Fv (by decide))) Br) rfl
 generalize hw:Nm.W c=w at s4 w0 w1;have s5:AN 5 (Ag DG (Ag GJ (Ab 3) (gc (.int 12))) (Ab 4)) [iv c,iv n,vl (.str L),iv m,iv w,none,none,none,none,none,none]=.nx [iv c,iv n,vl (.str L),iv m,iv w,iv (Nm.At c),none,none,none,none,none]:=by unfold Nm.At;rw[hm,hw];exact AL (Ak (Ak (Aa rfl) AB (HZ ⟨by decide,by decide⟩)) (Aa rfl) (Fv (by omega))) rfl
 generalize ha:Nm.At c=a at s5;have s6:=AL (i:=6) (aq:=[iv c,iv n,vl (.str L),iv m,iv w,iv a,vl (.lst ((BW c w.toNat).map T.str)),none,none,none,none]) (VB gL hL (c:=c) (w:=w) (by omega) w1 m a hm.symm (iv c) (iv n) none none none none none) rfl;have s7:AN 7 (Ag AF (An Cz (Ac (gc (.int 1)) (Ac (gc (.int 3)) (Ac (gc (.int 5)) (Ac (gc (.int 7)) (Ac (gc (.int 9)) (Ac (gc (.int 11)) Ai))))))) (Ag DG (Ag GJ (Ab 3) (gc (.int 144))) (gc (.int 6)))) [iv c,iv n,vl (.str L),iv m,iv w,iv a,vl (.lst ((BW c w.toNat).map T.str)),none,none,none,none]=.nx [iv c,iv n,vl (.str L),iv m,iv w,iv a,vl (.lst ((BW c w.toNat).map T.str)),iv (Nm.step c),none,none,none]:=by have e:=Ta c;rw[hm]at e;exact AL (Ak (FY rfl rfl (by decide)) (Ak (Ak (Aa rfl) AB (HZ ⟨by decide,by decide⟩)) AB (Fv (by decide))) (Ec rfl e)) rfl
 generalize bK:Nm.step c=st at s7;have s8:AN 8 (An Er Ai) [iv c,iv n,vl (.str L),iv m,iv w,iv a,vl (.lst ((BW c w.toNat).map T.str)),iv st,none,none,none]=.nx [iv c,iv n,vl (.str L),iv m,iv w,iv a,vl (.lst ((BW c w.toNat).map T.str)),iv st,some (.own (.lst [])),none,none]:=rfl;have jQ:=Dx (gt:=tgN 9) (body:=(Av (AN 10 (Ag AF (Ab 2) (Ag DG (Ag Ay (Ag GJ (Ab 3) (gc (.int 864))) (Ag CP (Ab 9) (Ab 7))) (gc (.int 26)))))
  (ifS (asB (Ag (gEq false) (Ag DG (Ag GJ (Ab 3) (gc (.int 900))) (gc (.int 3))) (gc (.int 1)))) (AH (BC Fw (Ab 8) (Ac (Ag CP (Ag AF (Ab 6) (gc (.int 0))) (Ag Ay (Ag DG (Ag Ay (Ab 9) (Ag GJ (Ab 3) (gc (.int 7)))) (gc (.int 12))) (gc (.int 1)))) Ai))) (AH (BC Fw (Ab 8) (Ac (Ag Ay (Ag Ay (fz (IP GI (gc (.str ("":Str))) (Ac (slF (Ab 6) noP (C8 (Ab 5))) Ai))) (Ab 10)) (fz (IP GI (gc (.str ("":Str))) (Ac (slF (Ab 6) (C8 (Ag Ay (Ab 5) (gc (.int 1)))) noP) Ai)))) Ai))))))
  (λts fs=>∃(i:Nat)(x9 dw:Option Sl),fs=[iv c,iv n,vl (.str L),iv m,iv w,iv a,vl (.lst ((BW c w.toNat).map T.str)),iv st,some (.own (.lst ((nms c i).map T.str))),x9,dw]/\Fre x9/\Fre dw/\i<=n/\ts=(FL.upTo 0 n).drop i) (λt' ts fs h=>?_) (FL.upTo 0 n) [iv c,iv n,vl (.str L),iv m,iv w,iv a,vl (.lst ((BW c w.toNat).map T.str)),iv st,some (.own (.lst [])),none,none]
  ⟨0,none,none,rfl,Aq,Aq,uI _,rfl⟩
 .obtain⟨aq,ef,i,x9,dw,rfl,_,_,hi,hd⟩:=jQ;have qt:i=n:=by have:=congrArg List.length hd;simp[FL.upTo]at this;omega
  subst qt;refine⟨vl (.str L),iv m,iv w,iv a,vl (.lst ((BW c w.toNat).map T.str)),iv st,x9,dw,?_⟩;rw[Cq s2,Cq s3,Cq s4,Cq s5,Cq s6,Cq s7,Cq s8];rw[Cq (I0 (n:=i) (fa:=Ac (Ab 1) Ai) (Ao (Aa rfl) rfl) (by omega) ef)];rfl
 .obtain⟨i,x9,dw,rfl,f9,gJ,hi,hd⟩:=h;have jR:i<n:=by have:=congrArg List.length hd;simp[FL.upTo]at this;omega
  rw[(uS (l:=FL.upTo 0 n) (i:=i) (by simp[FL.upTo];exact jR))]at hd;obtain⟨e1,e2⟩:=List.cons.inj hd;have e3:t'=T.int (i:Int):=by rw[e1];simp[FL.upTo]
  subst e3;obtain⟨cJ,fy,e⟩:=VA gL hL (c:=c) (m:=m) (w:=w) (a:=a) (st:=st) (n:=n) (i:=i) hm.symm hw.symm ha.symm bK.symm (by omega) dw gJ;exact⟨_,_,(by unfold tgN;exact Bn rfl f9),e,i+1,_,_,rfl,AG,fy,jR,e2⟩
theorem names{n:Nat}(hn:n<=12)(hb:Builtin.Int.intBits c<=2^20):Ef [iv c,iv n]=.ok (.nw (.lst ((nms c n).map T.str))) [iv c,iv n]:=by obtain⟨x2,x3,x4,x5,x6,x7,x9,dw,e⟩:=Na hn hb;unfold Ef Bo;show(match Ga [iv c,iv n,none,none,none,none,none,none,none,none,none]with|.nx τ=>_|.ret (.t t) τ=>_|.ret (.nw o) τ=>_|.ret (.n i) τ=>_|.exc c τ=>_|_=>_)=_;rw[e];rfl
theorem WT(ns:List Int)(k:Nat):AA [vl (.zU (ns.map T.int)),iv k]=.ok (.t (.int (ns.getD k 0))) [vl (.zU (ns.map T.int)),iv k]:=by
 have hl:asB (Ag gLt (Ab 1) (Aj Bx (Ac (Ab 0) Ai))) [vl (.zU (ns.map T.int)),iv k]=.ok (decide ((k:Int)<((ns.map T.int).length:Int))) [vl (.zU (ns.map T.int)),iv k]:=rfl;unfold AA Bo;show(match Eh [vl (.zU (ns.map T.int)),iv k]with|.nx τ=>_|.ret (.t t) τ=>_|.ret (.nw o) τ=>_|.ret (.n i) τ=>_|.exc c τ=>_|_=>_)=_;have e:Eh [vl (.zU (ns.map T.int)),iv k]=.ret (.t (.int (ns.getD k 0))) [vl (.zU (ns.map T.int)),iv k]:=by
  unfold Eh;by_cases h:(k:Int)<((ns.map T.int).length:Int)
  .rw[tw h]at hl;have h':k<ns.length:=by rw[sH]at h;omega
   have e2:retS (Ag AF (Ab 0) (fz (Ab 1))) [vl (.zU (ns.map T.int)),iv k]=.ret (.t (.int (ns.getD k 0))) [vl (.zU (ns.map T.int)),iv k]:=by have:=Ak (fa:=Ab 0) (fb:=fz (Ab 1)) (fs:=[vl (.zU (ns.map T.int)),iv k]) (Aa rfl) (Am (Aa rfl)) (Za (ns:=ns) (i:=(k:Int)) (.inl rfl) (by omega) (by omega));unfold retS;rw[this,uK];rfl
   unfold Av;rw[DV hl e2]
  .rw[tB h]at hl;have h':ns.length<=k:=by rw[sH]at h;omega
   rw[Cq (AW (h:=nxS) (fs:=[vl (.zU (ns.map T.int)),iv k]) (r:=.nx [vl (.zU (ns.map T.int)),iv k]) hl rfl)];have:ns.getD k 0=0:=by simp[List.getD,h']
   rw[this];rfl
 rw[e];rfl
theorem Je(h1:f fs=.ok (.t t) aj)(h2:g aj=.ok rs aA):Ac f g fs=.ok (.t t::rs) aA:=by unfold Ac;rw[h1];show(g aj).bind _=_;rw[h2];rfl
theorem BU(h:fa fs=.ok rs aj)(h2:Qs rs=some ts)(h3:ts.length<=big)(e:g ts aj=r):An g fa fs=r:=by unfold An;rw[h];show(match Qs rs with|some ts=>_|none=>_)=_;rw[h2];exact(if_pos h3).trans e
theorem IZ(h:f fs=.ok (.t t) aj):fz f fs=.ok (.t t) aj:=by unfold fz;rw[h];rfl
theorem AR(h:f fs=.ok r aj):retS f fs=.ret r aj:=by unfold retS;rw[h];rfl
theorem Ea(e:g fs=.ret r aq):Av g h fs=.ret r aq:=by unfold Av;rw[e]
theorem Jaa:∀j,j<26->(!(Builtin.Str.occurrences ABC ⟨#[97+j]⟩ 0 ABC.length 1).isEmpty)=true:=by decide +kernel
theorem Hh:∀bs:List Bool,Dp (bs.map T.o)=some bs
 | []=>rfl
 |b::bs=>by simp[Dp,Hh bs]
theorem Zb:DL false (.t (.str x)) (.t (.str y)) fs=.ok (.t (.o (!(Builtin.Str.occurrences y x 0 y.length 1).isEmpty))) fs:=rfl
theorem Nf(h0:1<=z.length)(h1:z.length<=12)(hl:∀x∈z.cps.toList,97<=x/\x<=122):A2 [vl (.str z)]=.ok (.t (.o true)) [vl (.str z)]:=by
 have mY:∀x,97<=x/\x<=122->(!(Builtin.Str.occurrences ("abcdefghijklmnopqrstuvwxyz":Str) ⟨#[x]⟩ 0 ("abcdefghijklmnopqrstuvwxyz":Str).length 1).isEmpty)=true:=λx hx=>by have:=Jaa (x-97) (by omega);rwa[show 97+(x-97)=x by omega]at this
 have hlen:Aj Bx (Ac (Ab 0) Ai) [vl (.str z)]=.ok (.t (.int z.length)) [vl (.str z)]:=by have e:Po [.t (.str z)] [vl (.str z)]=.ok (.t (.int z.length)) [vl (.str z)]:=if_pos (show z.length<=1000000 by omega);refine BV (Ao (Aa rfl) rfl) ?_;unfold Bx orC;show(match orC Po Sf [.t (.str z)] [vl (.str z)]with|o=>o)=_;unfold orC;rw[e]
 unfold A2 Bo;show(match EU [vl (.str z)]with|.nx τ=>_|.ret (.t t) τ=>_|.ret (.nw o) τ=>_|.ret (.n i) τ=>_|.exc c τ=>_|_=>_)=_;have all:EU [vl (.str z)]=.ret (.t (.o true)) [vl (.str z)]:=by
  unfold EU;generalize ("abcdefghijklmnopqrstuvwxyz":Str)=L at mY;rw[Cq (AW (h:=nxS) (by
  have e1:gLe (.t (.int 1)) (.t (.int z.length)) [vl (.str z)]=.ok (.t (.o true)) [vl (.str z)]:=by show okT (.o (decide ((1:Int)<=z.length))) _=_;rw[tw (by omega)];rfl
  have e2:gLe (.t (.int z.length)) (.t (.int 12)) [vl (.str z)]=.ok (.t (.o true)) [vl (.str z)]:=by show okT (.o (decide ((z.length:Int)<=12))) _=_;rw[tw (by omega)];rfl
  simp only[Ft,asB,chain,gc,Out.bnd,Out.bind,hlen,e1,e2,Bool.not_true]) rfl)];obtain⟨y,hy,e2⟩:=GX (fe:=Ag (DL false) (fz (Ab 0)) (gc (.str L))) (f:=λ_=>.o true) (rest:=[]) (signs z) none [] Aq (λt' mt=>by
    unfold signs at mt;rw[tQ]at mt;obtain⟨x,mx,rfl⟩:=mt;refine Ak (Am (Aa rfl)) AB ?_;rw[Zb,mY x (hl x mx)]) (by
    unfold signs;rw[sH,uq];show 0+z.length<=1000000;omega)
  have e3:=DZ (src:=[none]) rfl ⟨by rw[show Dc [vl (.str z)] _=[]from rfl];exact sY,by rfl⟩ e2 (AV rfl);have e4:(signs z).map (λ_=>T.o true)=((signs z).map λ_=>true).map T.o:=by rw[tU];rfl
  rw[tS,e4]at e3;refine AR (BV (Ao e3 rfl) ?_);simp only[Zf,Cu,tV,Hh,okT];congr 3;simp
 rw[all];rfl
theorem Ng(c:Int)(k:Nat):A2 [vl (.str (nmS c k))]=.ok (.t (.o true)) [vl (.str (nmS c k))]:=by
 refine Nf ?_ ?_ ?_
 .show 1<=(Nm.codes c k).toArray.size;rw[sJ];exact Nm.SR c k
 .show(Nm.codes c k).toArray.size<=12;rw[sJ];exact Nm.MC c k
 .intro x hx;exact Nm.Jf c k x (by simpa[nmS]using hx)
theorem VD(hk:k<12)(fZ:k'<12)(h:nmS c k=nmS c k'):k=k':=by refine Nm.P4 (c:=c) hk fZ ?_;have:=congrArg (λs:Str=>s.cps.toList) h;simpa[nmS]using this
theorem Ae(h1:f fs=.ok r aj)(h2:g aj=.ok rs aA):Ad f g fs=.ok (r::rs) aA:=by unfold Ad;rw[h1];show(g aj).bind _=_;rw[h2];rfl
theorem Jk(ha:fa fs=.ok rs aj)(hp:rs.length=p)(hn:(Dc aj (rs.map Bj)).Nodup)(hf:Fn (B1 aj (rs.map Bj))=.ok (.t t) τ)(hb:D3 (rs.map Bj) τ aj=some aq):
  Aj (Al p Fn) fa fs=.ok (.t t) aq:=by
 unfold Aj;rw[ha];show Al p Fn rs aj=_;unfold Al;rw[if_pos hp];unfold El;rw[if_pos hn,hf];dsimp only;rw[hb]
theorem FZ(ha:fa fs=.ok rs aj)(hp:rs.length=p)(hn:(Dc aj (rs.map Bj)).Nodup)(hf:Fn (B1 aj (rs.map Bj))=.ok (.nw o) τ)(hb:D3 (rs.map Bj) τ aj=some aq):
  Aj (Al p Fn) fa fs=.ok (.nw o) aq:=by
 unfold Aj;rw[ha];show Al p Fn rs aj=_;unfold Al;rw[if_pos hp];unfold El;rw[if_pos hn,hf];dsimp only;rw[hb]
theorem Z7{i}(h0:fs[i]?=some (some (.own (.lst us))))(h:f fs=.ok (.t t) aj)(mT:aj[i]?=some (some (.own (.lst ts))))(hl:ts.length<big)(e:aj.set i (some (.own (.lst (ts++[t]))))=aq):AH (BC Fw (Ab i) (Ac f Ai)) fs=.nx aq:=by
 have h1:Ab i fs=.ok (.n i) fs:=by unfold Ab;rw[h0]
 have h2:FL.AK fs i=some (.lst us):=by unfold FL.AK;rw[h0]
 have k8:FL.AK aj i=some (.lst ts):=by unfold FL.AK;rw[mT]
 have h3:Cu fs (.n i)=some us:=by simp only[Cu,h2]
 have h4:Ac f Ai fs=.ok [.t t] aj:=Je h rfl;have h5:Fw (.n i) [.t t] aj=.ok (.t .v) aq:=by
  simp only[Fw,k8];rw[if_pos hl];have:FL.putAt aj i (.lst (ts++[t]))=aq:=by unfold FL.putAt;rw[mT];exact e
  rw[this]
 have h6:BC Fw (Ab i) (Ac f Ai) fs=.ok (.t .v) aq:=by unfold BC;rw[h1];show(if(Cu fs (.n i)).isSome=true then _ else _)=_;rw[h3,if_pos (show(some us).isSome=true from rfl),h4];exact h5
 unfold AH;rw[h6];rfl
def Ey:Str×List Str->T:=λr=>.tup [.str r.1,.tup (r.2.map T.str)]
def A6:Str×List (Str×List Str)->T:=λk=>.tup [.str k.1,.lst (k.2.map Ey)]
abbrev Kd:=List (Str×List (Str×List Str))
theorem UM{i}(h:f fs=.ok (.nw o) aj)(hs:MV i (.nw o) aj=some aq):AN i f fs=.nx aq:=by unfold AN;rw[h];show(match MV i (.nw o) aj with|some fs=>SO.nx fs|none=>.bad)=_;rw[hs]
theorem Fe(h:f fs=.ok (.nw o) aj):fz f fs=.ok (.t (toT o)) aj:=by unfold fz;rw[h];rfl
theorem JJ(h0:fs[o]?=some (some (.own (.l ks ts))))(hv:fv fs=.ok (.t v) fs)(hi:fi fs=.ok (.t (.str k)) fs)(hn:(ks.any λk'=>decide (k'=(.inr k:Key)))=false)(hl:ks.length<big)
  (e:fs.set o (some (.own (.l (ks++[.inr k]) (ts++[v]))))=aq):Dh fv (Ab o) fi fs=.nx aq:=by
 have h1:Ab o fs=.ok (.n o) fs:=by unfold Ab;rw[h0]
 have h2:FL.AK fs o=some (.l ks ts):=by unfold FL.AK;rw[h0]
 have h3:E4 ks ts (.inr k:Key) v=(ks++[.inr k],ts++[v]):=by unfold E4;rw[hn];rfl
 have h4:FL.putAt fs o (.l (ks++[.inr k]) (ts++[v]))=aq:=by unfold FL.putAt;rw[h0];exact e
 have h5:Sa (.n o) (.t (.str k)) (.t v) fs=.bad:=rfl;unfold Dh;rw[hv];simp only[Out.bnd,Out.bind];rw[h1];simp only;rw[hi];simp only[SO.of];unfold Wb;rw[h5];exact(by simp only[Sd,h2,HG,hl,if_true,h3,h4])
theorem DC{i}{j}(h1:tgN i x fs=some aj)(h2:tgN j y aj=some aA):AY 2 (Af (tgN i) (Af (tgN j) AQ)) (.tup [x,y]) fs=some aA:=by have e:AY 2 (Af (tgN i) (Af (tgN j) AQ)) (.tup [x,y]) fs=Af (tgN i) (Af (tgN j) AQ) [x,y] fs:=rfl;rw[e];simp only[Af,h1,h2,tV,AQ]
def B0(K:Kd):List Key:=K.map λkd=>(.inr kd.1:Key)
theorem any_false{ks:List Key}(h:k∉ks):(ks.any λk'=>decide (k'=k))=false:=by rw[List.any_eq_false];intro x hx;rw[decide_eq_true_eq];intro e;exact h (e▸hx)
theorem sq(e:g fs=.nx aq)(e2:h aq=r):Av g h fs=r:=(Cq e).trans e2
theorem Bs(h:f fs=.ok (.t (.o b)) aj):asB f fs=.ok b aj:=by unfold asB;rw[h];rfl
theorem CO(h:f fs=.ok b aj):Ft f fs=.ok (!b) aj:=by unfold Ft;rw[h];rfl
theorem Cp(h:f fs=.ok (.t (.o b)) aj):Hj f fs=.ok b aj:=by unfold Hj;rw[h];rfl
theorem Ka(hc:c fs=.ok false aj)(e:h aj=r):ifS c g h fs=r:=by unfold ifS;rw[hc];exact e
theorem Dw{i}(h:fs[i]?=some (some (.own o))):Ab i fs=.ok (.n i) fs:=by unfold Ab;rw[h]
theorem FV{i}(h:fs[i]?=some (some (.bor o))):Ab i fs=.ok (.n i) fs:=by unfold Ab;rw[h]
theorem Jaj{i}(h:fs[i]?=some (some (.own o))):FL.AK fs i=some o:=by unfold FL.AK;rw[h]
theorem J2{i}(h:fs[i]?=some (some (.bor o))):FL.AK fs i=some o:=by unfold FL.AK;rw[h]
theorem Jl{i}(h1:fa fs=.ok (.t x) fs)(h2:fb fs=.ok (.n i) fs)(h3:g (.t x) (.n i) fs=r):Ag g fa fb fs=r:=by unfold Ag;rw[h1];show(fb fs).bnd _=r;rw[h2];exact h3
theorem Dz(h:f fs=.ok r aj):AH f fs=.nx aj:=by unfold AH;rw[h];rfl
theorem DN [DecidableEq κ]:∀{ks:List κ}{ts:List T}{k:κ},k∉ks->Co ks ts k=none
 | [],_,_,_=>by unfold Co;rfl
 |k'::ks,[],k,_=>by unfold Co;rfl
 |k'::ks,t::ts,k,h=>by
  have h1:k'≠k:=λe=>h (e▸tL)
  simp only[Co,if_neg h1,DN (λm=>h (sN _ m))]
theorem Df [DecidableEq κ] {f:α->κ}:∀{xs:List α}{x:α},x∈xs->(xs.map f).Nodup->Co (xs.map f) (xs.map g) (f x)=some (g x)
 |y::ys,x,m,nd=>by
  rw[sG,sG];unfold Co;rw[sG,tu]at nd;by_cases e:f y=f x
  .rw[if_pos e];rcases sQ.mp m with rfl|m
   .rfl
   .exact(nd.1 (tQ.mpr ⟨x,m,e.symm⟩)).elim
  .rw[if_neg e];rcases sQ.mp m with rfl|m
   .exact(e rfl).elim
   .exact Df m nd.2
theorem V3{i}(h:FL.AK fs i=some (.l ks ts)):DL neg (.t (.str k)) (.n i) fs=.ok (.t (.o (if neg then !(Co ks ts (.inr k:Key)).isSome else(Co ks ts (.inr k:Key)).isSome))) fs:=by
 unfold DL orG;have e:Wi neg (.t (.str k)) (.n i) fs=.ok (.t (.o (if neg then !(Co ks ts (.inr k:Key)).isSome else(Co ks ts (.inr k:Key)).isSome))) fs:=by simp only[Wi,WJ,h,HG,Option.map_some];rfl
 rw[e]
theorem TY:DL neg (.t (.str k)) (.t (.l ks ts)) fs=.ok (.t (.o (if neg then !(Co ks ts (.inr k:Key)).isSome else(Co ks ts (.inr k:Key)).isSome))) fs:=rfl
theorem ID:∀xs:List Str,U4 (xs.map T.str)=some (xs.map V.str)
 | []=>rfl
 |x::xs=>by simp only[sG,U4,plV,tV,ID xs,Option.map_some]
theorem Lv(k:Str):∀xs:List Str,inV (.str k) (xs.map V.str)=decide (k∈xs)
 | []=>by simp[inV]
 |x::xs=>by
  have:=Lv k xs;unfold inV at this ⊢;rw[sG,uG,this];have e:eqV (.str x) (.str k)=decide (k=x):=by
   by_cases h:k=x
   .subst h;simp[eqV]
   .have h':x≠k:=λe=>h e.symm
    simp[eqV,h,h']
  rw[e,uk];simp
theorem Pc{xs:List Str}:DL neg (.t (.str k)) (.t (.lst (xs.map T.str))) fs=.ok (.t (.o (if neg then !decide (k∈xs)else decide (k∈xs)))) fs:=by
 have e:gIn neg (.t (.str k)) (.t (.lst (xs.map T.str))) fs=.ok (.t (.o (if neg then !decide (k∈xs)else decide (k∈xs)))) fs:=by simp only[gIn,plV,Cu,ID,okT,Lv]
 exact e
theorem YZ{i}{xs:List Str}(h:FL.AK fs i=some (.lst (xs.map T.str))):DL neg (.t (.str k)) (.n i) fs=.ok (.t (.o (if neg then !decide (k∈xs)else decide (k∈xs)))) fs:=by
 have e:gIn neg (.t (.str k)) (.n i) fs=.ok (.t (.o (if neg then !decide (k∈xs)else decide (k∈xs)))) fs:=by simp only[gIn,plV,Cu,h,ID,okT,Lv]
 have e1:Wi neg (.t (.str k)) (.n i) fs=.bad:=by simp only[Wi,WJ,h]
 unfold DL orG;rw[e1];exact e
theorem Jh(ha:fa fs=.ok (.t (.int a)) fs)(hb:fb fs=.ok (.t (.int b)) fs)(hc:fc fs=.ok (.t (.int c)) fs)(h1:a<=b)(h2:b<=c):Ft (asB (chain gLe gLe fa fb fc)) fs=.ok false fs:=by
 have e1:gLe (.t (.int a)) (.t (.int b)) fs=.ok (.t (.o true)) fs:=by show okT (.o (decide (a<=b))) _=_;rw[tw h1];rfl
 have e2:gLe (.t (.int b)) (.t (.int c)) fs=.ok (.t (.o true)) fs:=by show okT (.o (decide (b<=c))) _=_;rw[tw h2];rfl
 simp only[Ft,asB,chain,Out.bnd,Out.bind,ha,hb,hc,e1,e2,Bool.not_true]
theorem BP(h:f fs=.ok (.t x) aj)(hs:x=.lst ts\/x=.tup ts):Aj Bx (Ac f Ai) fs=.ok (.t (.int ts.length)) aj:=by unfold Aj;rw[Je h (show Ai aj=.ok [] aj from rfl)];rcases hs with rfl|rfl<;>rfl
theorem BY(ha:fa fs=.ok rs aj)(hp:rs.length=p)(hn:Dc aj (rs.map Bj)=[])(hf:Fn (B1 aj (rs.map Bj))=.ok (.t t) τ):Aj (Al p Fn) fa fs=.ok (.t t) aj :=
 Jk ha hp (by rw[hn];exact sY) hf (AV hn)
theorem Au:Ai fs=.ok [] fs:=rfl
theorem CU{K:Kd}(h1:1<=K.length)(h4:K.length<=4)(eW:(K.map (·.1)).Nodup)(jV:∀kd∈K,A2 [vl (.str kd.1)]=.ok (.t (.o true)) [vl (.str kd.1)])(qK:∀kd∈K,1<=kd.2.length/\kd.2.length<=4):
  BS [vl (.lst (K.map A6))]=.ok (.t .v) [vl (.lst (K.map A6))]:=by
 have all:∃x1 x2 x3,CF [vl (.lst (K.map A6)),none,none,none]=.nx [vl (.lst (K.map A6)),x1,x2,x3]:=by
  unfold CF;obtain⟨aq,ef,D,R,x2,x3,ts,rfl,eD,eR,f2,f3⟩:=Dx (gt:=AY 2 (Af (tgN 2) (Af (tgN 3) AQ))) (body:=(Av (ifS (Ft (Hj (fz (Aj (Al 1 A2) (Ad (fz (Ab 2)) Ai))))) (λ_=>.bad) nxS)
  (Av (ifS (asB (Ag (DL false) (fz (Ab 2)) (Ab 1))) (λ_=>.bad) nxS)
  (Av (ifS (Ft (asB (chain gLe gLe (gc (.int 1)) (Aj Bx (Ac (Ab 3) Ai)) (gc (.int 4))))) (λ_=>.bad) nxS)
  (Dh (gc (.o true)) (Ab 1) (fz (Ab 2)))))))
   (λts fs=>∃(D R:Kd)(x2 x3:Option Sl)(vs:List T),fs=[vl (.lst (K.map A6)),some (.own (.l (B0 D) vs)),x2,x3]/\D++R=K/\ts=R.map A6/\Fre x2/\Fre x3)
   (λt' ts fs h=>by
    obtain⟨D,R,x2,x3,vs,rfl,eD,eR,f2,f3⟩:=h;cases R with
    |nil=>cases eR
    |cons kd R =>
     rw[sG]at eR;obtain⟨e1,e2⟩:=List.cons.inj eR;subst e1;have hm:kd∈K:=by rw[<- eD];simp
     have b0:(.inr kd.1:Key)∉B0 D:=by intro m;unfold B0 at m;rw[tQ]at m;obtain⟨jd,m',e'⟩:=m;rw[<- eD,tf,sI]at eW;exact eW.2.2 jd.1 (tQ.mpr ⟨jd,m',rfl⟩) kd.1 (by simp) (by simpa using e')
     have hr:=qK kd hm;refine⟨[vl (.lst (K.map A6)),some (.own (.l (B0 D) vs)),vl (.str kd.1),vl (.lst (kd.2.map Ey))],[vl (.lst (K.map A6)),some (.own (.l (B0 D++[.inr kd.1]) (vs++[.o true]))),vl (.str kd.1),vl (.lst (kd.2.map Ey))],DC (by unfold tgN;exact Bn rfl f2) (by unfold tgN;exact Bn rfl f3),?_,D++[kd],R,vl (.str kd.1),vl (.lst (kd.2.map Ey)),vs++[.o true],?_,by rw[<- eD];simp,e2,AG,AG⟩
     .refine sq (Ka (CO (Cp (IZ (BY (Ae (Am (Aa rfl)) Au) rfl rfl (jV kd hm))))) rfl) ?_;refine sq (AW (Bs (Jl (Am (Aa rfl)) (Dw rfl) ?_)) rfl) ?_
      .rw[V3 (Jaj rfl),DN b0];rfl
      refine sq (AW (Jh AB (BP (Aa rfl) (.inl rfl)) AB (by rw[sH];omega) (by rw[sH];omega)) rfl) ?_;exact JJ rfl AB (Am (Aa rfl)) (any_false b0) (by
      unfold B0;rw[sH];have:=congrArg List.length eD;simp at this;show D.length<1000000;omega) rfl
     .unfold B0;rw[tf];rfl)
   (K.map A6) [vl (.lst (K.map A6)),some (.own (.l [] [])),none,none] ⟨[],K,none,none,[],rfl,rfl,rfl,Aq,Aq⟩
  refine⟨some (.own (.l (B0 D) ts)),x2,x3,?_⟩;refine sq (AW (Jh AB (BP (Aa rfl) (.inl rfl)) AB (by rw[sH];omega) (by rw[sH];omega)) rfl) ?_;exact sq (aq:=[vl (.lst (K.map A6)),some (.own (.l [] [])),none,none]) rfl ef
 obtain⟨x1,x2,x3,all⟩:=all;unfold BS Bo;show(match CF [vl (.lst (K.map A6)),none,none,none]with|.nx τ=>_|.ret (.t t) τ=>_|.ret (.nw o) τ=>_|.ret (.n i) τ=>_|.exc c τ=>_|_=>_)=_;rw[all];rfl
theorem RU(h1:fa fs=.ok (.t (.int a)) fs)(h2:fb fs=.ok (.t (.int b)) fs):asB (Ag gGt fa fb) fs=.ok (decide (b<a)) fs:=Bs (Ak h1 h2 rfl)
theorem JbY(h1:fa fs=.ok (.t (.int a)) fs)(h2:fb fs=.ok (.t (.int b)) fs)(h:¬b<a):asB (Ag gGt fa fb) fs=.ok false fs:=by rw[RU h1 h2,tB h]
theorem Jbe:gEq false (.t (.str x)) (.t (.str y)) fs=.ok (.t (.o (decide (x=y)))) fs:=by
 have q:decide (V.str x=V.str y)=decide (x=y):=by simp
 show(if Ob (V.str x) (V.str y)=true then okT (.o (if false=true then _ else decide (V.str x=V.str y))) fs else .bad)=_;rw[if_pos (show Ob (V.str x) (V.str y)=true from rfl),q];rfl
theorem GQ(h1:fa fs=.ok (.t (.str x)) fs)(h2:fb fs=.ok (.t (.str y)) fs):asB (Ag (gEq false) fa fb) fs=.ok (decide (x=y)) fs:=Bs (Ak h1 h2 Jbe)
theorem CT{ps names:List Str}(hn:A2 [vl (.str m)]=.ok (.t (.o true)) [vl (.str m)])(hk:(.inr m:Key)∉ks)(h2:ps.length<=2)(hp:∀p∈ps,p∈names):
  Bb [vl (.str m),vl (.tup (ps.map T.str)),some (.bor (.l ks vs)),vl (.lst (names.map T.str))]=.ok (.t .v) [vl (.str m),vl (.tup (ps.map T.str)),some (.bor (.l ks vs)),vl (.lst (names.map T.str))]:=by
 have all:∃x4,CD [vl (.str m),vl (.tup (ps.map T.str)),some (.bor (.l ks vs)),vl (.lst (names.map T.str)),none]=.nx [vl (.str m),vl (.tup (ps.map T.str)),some (.bor (.l ks vs)),vl (.lst (names.map T.str)),x4]:=by
  unfold CD;obtain⟨aq,ef,x4,rfl,f4,_⟩:=Dx (gt:=tgN 4) (body:=(ifS (asB (Ag (DL true) (fz (Ab 4)) (Ab 3))) (λ_=>.bad) nxS))
   (λts fs=>∃x4,fs=[vl (.str m),vl (.tup (ps.map T.str)),some (.bor (.l ks vs)),vl (.lst (names.map T.str)),x4]/\Fre x4/\∀t∈ts,∃p∈names,t=.str p)
   (λt' ts fs h=>by obtain⟨x4,rfl,f4,ht⟩:=h;obtain⟨p,mp,rfl⟩:=ht t' tL;refine⟨_,_,(by unfold tgN;exact Bn rfl f4),AW (Bs (b:=false) (Ak (Am (Aa rfl)) (Aa rfl) ?_)) rfl,_,rfl,AG,λt m=>ht t (sN _ m)⟩;rw[Pc,tw mp];rfl)
   (ps.map T.str) [vl (.str m),vl (.tup (ps.map T.str)),some (.bor (.l ks vs)),vl (.lst (names.map T.str)),none] ⟨none,rfl,Aq,λt mt=>by rw[tQ]at mt;obtain⟨p,mp,rfl⟩:=mt;exact⟨p,hp p mp,rfl⟩⟩
  refine⟨x4,?_⟩;refine sq (Ka (CO (Cp (IZ (BY (Ae (Am (Aa (t:=.str m) rfl)) Au) rfl rfl hn)))) rfl) ?_;refine sq (AW (Bs (b:=false) (Jl (Am (Aa (t:=.str m) rfl)) (FV rfl) ?_)) rfl) ?_
  .rw[V3 (J2 rfl),DN hk];rfl
  refine sq (AW (JbY (BP (Aa rfl) (.inr rfl)) AB (by rw[sH];omega)) rfl) ?_;exact ef
 obtain⟨x4,all⟩:=all;unfold Bb Bo;show(match CD [vl (.str m),vl (.tup (ps.map T.str)),some (.bor (.l ks vs)),vl (.lst (names.map T.str)),none]with|.nx τ=>_|.ret (.t t) τ=>_|.ret (.nw o) τ=>_|.ret (.n i) τ=>_|.exc c τ=>_|_=>_)=_;rw[all];rfl
theorem Cn{ps names:List Str}(hp:∀p∈ps,p∈names):
  A9 [vl (.str m),vl (.tup (ps.map T.str)),some (.bor (.lst (names.map T.str)))]=.ok (.t .v) [vl (.str m),vl (.tup (ps.map T.str)),some (.bor (.lst (names.map T.str)))]:=by
 have all:∃x3,Cb [vl (.str m),vl (.tup (ps.map T.str)),some (.bor (.lst (names.map T.str))),none]=.nx [vl (.str m),vl (.tup (ps.map T.str)),some (.bor (.lst (names.map T.str))),x3]:=by
  unfold Cb;obtain⟨aq,ef,x4,rfl,f4,_⟩:=Dx (gt:=tgN 3) (body:=(ifS (asB (Ag (DL true) (fz (Ab 3)) (Ab 2))) (λ_=>.bad) nxS))
   (λts fs=>∃x4,fs=[vl (.str m),vl (.tup (ps.map T.str)),some (.bor (.lst (names.map T.str))),x4]/\Fre x4/\∀t∈ts,∃p∈names,t=.str p)
   (λt' ts fs h=>by obtain⟨x4,rfl,f4,ht⟩:=h;obtain⟨p,mp,rfl⟩:=ht t' tL;refine⟨_,_,(by unfold tgN;exact Bn rfl f4),AW (Bs (Jl (Am (Aa rfl)) (FV rfl) ?_)) rfl,_,rfl,AG,λt m=>ht t (sN _ m)⟩;rw[YZ (J2 rfl),tw mp];rfl)
   (ps.map T.str) [vl (.str m),vl (.tup (ps.map T.str)),some (.bor (.lst (names.map T.str))),none] ⟨none,rfl,Aq,λt mt=>by rw[tQ]at mt;obtain⟨p,mp,rfl⟩:=mt;exact⟨p,hp p mp,rfl⟩⟩
  exact⟨x4,ef⟩
 obtain⟨x4,all⟩:=all;unfold A9 Bo;show(match Cb [vl (.str m),vl (.tup (ps.map T.str)),some (.bor (.lst (names.map T.str))),none]with|.nx τ=>_|.ret (.t t) τ=>_|.ret (.nw o) τ=>_|.ret (.n i) τ=>_|.exc c τ=>_|_=>_)=_;rw[all];rfl
theorem GW{f g h:α->T}:∀(xs:List α)(x y:Option Sl)(ax:List T),Fre x->Fre y->(∀a∈xs,fe (vl (f a)::vl (g a)::rest)=.ok (.t (h a)) (vl (f a)::vl (g a)::rest))->ax.length+xs.length<=big ->
  ∃x' y',Fre x'/\Fre y'/\CY (AY 2 (Af (tgN 0) (Af (tgN 1) AQ))) E1 fe (xs.map λa=>.tup [f a,g a]) (x::y::rest) ax=some (ax++xs.map h,x'::y'::rest)
 | [],x,y,ax,hx,hy,_,_=>⟨x,y,hx,hy,by simp[CY]⟩
 |a::xs,x,y,ax,hx,hy,he,hl=>by
  obtain⟨x',y',fx,fy,e⟩:=GW xs (vl (f a)) (vl (g a)) (ax++[h a]) AG AG (λt' m=>he t' (sN _ m)) (by simp at hl ⊢;omega);refine⟨x',y',fx,fy,?_⟩;have h1:AY 2 (Af (tgN 0) (Af (tgN 1) AQ)) (.tup [f a,g a]) (x::y::rest)=some (vl (f a)::vl (g a)::rest) :=
   DC (by unfold tgN;exact Bn rfl hx) (by unfold tgN;exact Bn rfl hy)
  have h3:ax.length<big:=by simp at hl;omega
  rw[sG];simp only[CY,h1,E1,(he a tL),if_pos h3,e];simp
def mks(K:Kd):List Str:=K.flatMap λkd=>kd.2.map (·.1)
def Bi(K:Kd):List Key:=(mks K).map λm=>(.inr m:Key)
structure Well(K:Kd):Prop where
 lo:1<=K.length
 hi:K.length<=4
 nd:(K.map (·.1)).Nodup
 nm:∀kd∈K,A2 [vl (.str kd.1)]=.ok (.t (.o true)) [vl (.str kd.1)]
 rw:∀kd∈K,1<=kd.2.length/\kd.2.length<=4
 yV:(mks K).Nodup
 yu:∀m∈mks K,A2 [vl (.str m)]=.ok (.t (.o true)) [vl (.str m)]
 yq:∀m∈mks K,m.length<=12
 two:∀kd∈K,∀r∈kd.2,r.2.length<=2
 yz:∀kd∈K,∀r∈kd.2,∀x∈r.2,x∈K.map (·.1)
 gr:∀D kd R,K=D++kd::R->∀r,kd.2[0]?=some r->∀x∈r.2,x∈D.map (·.1)
theorem VP(h1:kd∈K)(h2:r∈kd.2):r.1∈mks K:=uV.mpr ⟨kd,h1,tQ.mpr ⟨r,h2,rfl⟩⟩
theorem VJ(h4:K.length<=4)(hr:∀kd∈K,kd.2.length<=4):(mks K).length<=16:=by
 have:∀K:Kd,(∀kd∈K,kd.2.length<=4)->(mks K).length<=4*K.length:=by
  intro K
  induction K with
  |nil=>intro _;simp[mks]
  |cons kd K ih =>
   intro h;have:=ih λkd m=>h kd (sN _ m)
   have h1:=h kd tL;unfold mks at this ⊢;rw[uj,tM,sH,tj];omega
 have:=this K hr;omega
theorem IM(D R:Kd):mks (D++R)=mks D++mks R:=by unfold mks;rw[List.flatMap_append]
theorem FU(kd:Str×List (Str×List Str))(R:Kd):mks (kd::R)=kd.2.map (·.1)++mks R:=rfl
theorem QV{rs:List (Str×List Str)}(h:(rs.map (·.1)).Nodup)(m:r∈rs)(m':r'∈rs)(e:r.1=r'.1):r=r':=by
 induction rs with
 |nil=>cases m
 |cons a rs ih =>
  rw[sG,tu]at h;rcases sQ.mp m with q|q
  .rcases sQ.mp m' with q'|q'
   .rw[q,q']
   .exact(h.1 (tQ.mpr ⟨r',q',by rw[<- e,q]⟩)).elim
  .rcases sQ.mp m' with q'|q'
   .exact(h.1 (tQ.mpr ⟨r,q,by rw[e,q']⟩)).elim
   .exact ih h.2 q q'
def C4(r:Str×List Str):Key:=.inr r.1
theorem Ln{names above:List Str}{rows:List (Str×List Str)}{x7 x8:Option Sl}(f7:Fre x7)(f8:Fre x8)
  (jV:∀r∈rows,A2 [vl (.str r.1)]=.ok (.t (.o true)) [vl (.str r.1)]) (eW:(aS++rows.map C4).Nodup) (hlen:aS.length+rows.length<1000) (h2:∀r∈rows,r.2.length<=2) (hp:∀r∈rows,∀x∈r.2,x∈names) (hg:∀r∈rows,r.1=first->∀x∈r.2,x∈above) :
  ∃(y7 y8:Option Sl)(vs:List T),Fre y7/\Fre y8/\DX (AY 2 (Af (tgN 7) (Af (tgN 8) AQ))) (Av (AH (Aj (Al 4 Bb) (Ad (fz (Ab 7)) (Ad (fz (Ab 8)) (Ad (Ab 3) (Ad (fz (Ab 1)) Ai))))))
  (Av (ifS (asB (Ag (gEq false) (Ab 7) (Ab 6))) (AH (Aj (Al 3 A9) (Ad (fz (Ab 7)) (Ad (fz (Ab 8)) (Ad (Ab 2) Ai))))) nxS)
  (Dh (gc (.o true)) (Ab 3) (fz (Ab 7))))) (rows.map Ey) [vl sc,vl (.lst (names.map T.str)),some (.own (.lst (above.map T.str))),some (.own (.l aS kN)),vl (.str k),vl (.lst (rows.map Ey)),vl (.str first),x7,x8] =
   .nx [vl sc,vl (.lst (names.map T.str)),some (.own (.lst (above.map T.str))),some (.own (.l (aS++rows.map C4) vs)),vl (.str k),vl (.lst (rows.map Ey)),vl (.str first),y7,y8]:=by
 obtain⟨aq,ef,D,R,y7,y8,vs,rfl,eD,eR,g7,g8⟩:=Dx (gt:=AY 2 (Af (tgN 7) (Af (tgN 8) AQ))) (body:=Av (AH (Aj (Al 4 Bb) (Ad (fz (Ab 7)) (Ad (fz (Ab 8)) (Ad (Ab 3) (Ad (fz (Ab 1)) Ai))))))
  (Av (ifS (asB (Ag (gEq false) (Ab 7) (Ab 6))) (AH (Aj (Al 3 A9) (Ad (fz (Ab 7)) (Ad (fz (Ab 8)) (Ad (Ab 2) Ai))))) nxS)
  (Dh (gc (.o true)) (Ab 3) (fz (Ab 7)))))
  (λts fs=>∃(D R:List (Str×List Str))(y7 y8:Option Sl)(vs:List T),fs=[vl sc,vl (.lst (names.map T.str)),some (.own (.lst (above.map T.str))),some (.own (.l (aS++D.map C4) vs)),vl (.str k),vl (.lst (rows.map Ey)),vl (.str first),y7,y8]/\D++R=rows/\ts=R.map Ey/\Fre y7/\Fre y8)
  (λt' ts fs h=>by
   obtain⟨D,R,y7,y8,vs,rfl,eD,eR,g7,g8⟩:=h;cases R with
   |nil=>cases eR
   |cons r R =>
    rw[sG]at eR;obtain⟨e1,e2⟩:=List.cons.inj eR;subst e1;have hm:r∈rows:=by rw[<- eD];simp
    have b0:(.inr r.1:Key)∉aS++D.map C4:=by rw[<- eD,tf,sG,<- tR,sI]at eW;intro m;exact eW.2.2 _ m (C4 r) (by simp) rfl
    refine⟨[vl sc,vl (.lst (names.map T.str)),some (.own (.lst (above.map T.str))),some (.own (.l (aS++D.map C4) vs)),vl (.str k),vl (.lst (rows.map Ey)),vl (.str first),vl (.str r.1),vl (.tup (r.2.map T.str))],
     [vl sc,vl (.lst (names.map T.str)),some (.own (.lst (above.map T.str))),some (.own (.l (aS++D.map C4++[.inr r.1]) (vs++[.o true]))),vl (.str k),vl (.lst (rows.map Ey)),vl (.str first),vl (.str r.1),vl (.tup (r.2.map T.str))],DC (by unfold tgN;exact Bn rfl g7) (by unfold tgN;exact Bn rfl g8),?_,D++[r],R,vl (.str r.1),vl (.tup (r.2.map T.str)),vs++[.o true],?_,by rw[<- eD];simp,e2,AG,AG⟩
    .refine sq (Dz (Jk (Ae (Am (Aa (t:=.str r.1) rfl)) (Ae (Am (Aa (t:=.tup (r.2.map T.str)) rfl)) (Ae (Dw (i:=3) rfl) (Ae (Am (Aa (t:=.lst (names.map T.str)) rfl)) Au)))) rfl (by rw[show Dc _ _=[3]from rfl];simp) (CT (jV r hm) b0 (h2 r hm) (hp r hm)) rfl)) ?_;refine sq (aq:=[vl sc,vl (.lst (names.map T.str)),some (.own (.lst (above.map T.str))),some (.own (.l (aS++D.map C4) vs)),vl (.str k),vl (.lst (rows.map Ey)),vl (.str first),vl (.str r.1),vl (.tup (r.2.map T.str))]) ?_ ?_
     .by_cases hf:r.1=first
      .refine DV ((GQ (Aa (t:=.str r.1) rfl) (Aa (t:=.str first) rfl)).trans (by rw[tw hf])) ?_;exact Dz (Jk (Ae (Am (Aa (t:=.str r.1) rfl)) (Ae (Am (Aa (t:=.tup (r.2.map T.str)) rfl)) (Ae (Dw (i:=2) rfl) Au))) rfl (by rw[show Dc _ _=[2]from rfl];simp) (Cn (hg r hm hf)) rfl)
      .exact AW ((GQ (Aa (t:=.str r.1) rfl) (Aa (t:=.str first) rfl)).trans (by rw[tB hf])) rfl
     .exact JJ (o:=3) (v:=.o true) (k:=r.1) rfl AB (Am (Aa rfl)) (any_false b0) (by
     have:=congrArg List.length eD;simp at this;rw[tM,sH];show _<1000000;omega) rfl
    .rw[tf,<- tR];rfl)
  (rows.map Ey) [vl sc,vl (.lst (names.map T.str)),some (.own (.lst (above.map T.str))),some (.own (.l aS kN)),vl (.str k),vl (.lst (rows.map Ey)),vl (.str first),x7,x8] ⟨[],rows,x7,x8,kN,by simp,rfl,rfl,f7,f8⟩
 have hR:R=[]:=by cases R with|nil=>rfl|cons a b=>cases eR
 subst hR;rw[t5]at eD;subst eD;exact⟨y7,y8,vs,g7,g8,ef⟩
theorem E6(D:Kd)(kd:Str×List (Str×List Str)):Bi (D++[kd])=Bi D++kd.2.map C4:=by unfold Bi;rw[IM,FU,tf,tf,tU];simp[mks,C4,Function.comp_def]
theorem Di{xs:List Str}(h:xs.Nodup):(xs.map λm=>(.inr m:Key)).Nodup:=by
 induction xs with
 |nil=>simp
 |cons x xs ih =>
  rw[tu]at h;rw[sG,tu];refine⟨λm=>?_,ih h.2⟩;rw[tQ]at m;obtain⟨y,my,e⟩:=m;have:y=x:=by simpa using e
  exact h.1 (this▸my)
theorem Well.part(W:Well K)(e:D++kd::R=K):(Bi D++kd.2.map C4).Nodup/\(Bi D).length+kd.2.length<1000/\kd∈K/\(kd.2.map (·.1)).Nodup:=by
 have h:=W.yV;have hl:=VJ W.hi λkd m=>(W.rw kd m).2
 rw[<- e,IM,FU]at h hl;refine⟨?_,?_,by rw[<- e];simp,?_⟩
 .rw[<- E6];refine Di ?_;rw[IM,FU];simp only[mks,uW,t5];rw[<- tR]at h;exact(sI.mp h).1
 .unfold Bi;rw[sH];simp at hl;omega
 .exact(sI.mp (sI.mp h).2.1).1
theorem Cm(W:Well K):BD [vl (.lst (K.map A6))]=.ok (.t .v) [vl (.lst (K.map A6))]:=by
 have all:∃x1 x2 x3 x4 x5 x6 x7 x8,Ca [vl (.lst (K.map A6)),none,none,none,none,none,none,none,none]=.nx [vl (.lst (K.map A6)),x1,x2,x3,x4,x5,x6,x7,x8]:=by
  unfold Ca;have s1:AN 1 (Ck false [none,none] (itU (fz (Ab 0))) (AY 2 (Af (tgN 0) (Af (tgN 1) AQ))) E1 (fz (Ab 0))) [vl (.lst (K.map A6)),none,none,none,none,none,none,none,none]=.nx [vl (.lst (K.map A6)),vl (.lst ((K.map (·.1)).map T.str)),none,none,none,none,none,none,none]:=AL (by obtain⟨x,y,_,_,e⟩:=GW (fe:=fz (Ab 0)) (f:=λkd:Str×List (Str×List Str)=>.str kd.1) (g:=λkd=>.lst (kd.2.map Ey)) (h:=λkd=>.str kd.1) (rest:=[]) K none none [] Aq Aq (λkd _=>Am (Aa rfl)) (by have:=W.hi;show 0+_<=1000000;omega);have:=DZ (src:=[none,none]) (fi:=itU (fz (Ab 0))) (fs:=[vl (.lst (K.map A6)),none,none,none,none,none,none,none,none]) (ts:=K.map A6) rfl ⟨by rw[show Dc [vl (.lst (K.map A6)),none,none,none,none,none,none,none,none] _=[]from rfl];exact sY,by rfl⟩ e (AV rfl);rw[this,tS,tU];rfl) rfl;generalize hN:K.map (·.1)=names at s1;obtain⟨aq,ef,D,R,x4,x5,x6,x7,x8,vs,rfl,eD,eR,g4,g5,g6,g7,g8⟩:=Dx (gt:=AY 2 (Af (tgN 4) (Af (tgN 5) AQ))) (body:=(Av (AN 6 (Ag AF (Ag AF (Ab 5) (gc (.int 0))) (gc (.int 0))))
  (Av (Dr (itU (fz (Ab 5))) (AY 2 (Af (tgN 7) (Af (tgN 8) AQ))) (Av (AH (Aj (Al 4 Bb) (Ad (fz (Ab 7)) (Ad (fz (Ab 8)) (Ad (Ab 3) (Ad (fz (Ab 1)) Ai))))))
  (Av (ifS (asB (Ag (gEq false) (Ab 7) (Ab 6))) (AH (Aj (Al 3 A9) (Ad (fz (Ab 7)) (Ad (fz (Ab 8)) (Ad (Ab 2) Ai))))) nxS)
  (Dh (gc (.o true)) (Ab 3) (fz (Ab 7))))))
  (AH (BC Fw (Ab 2) (Ac (fz (Ab 4)) Ai))))))
   (λts fs=>∃(D R:Kd)(x4 x5 x6 x7 x8:Option Sl)(vs:List T),fs=[vl (.lst (K.map A6)),vl (.lst (names.map T.str)),some (.own (.lst ((D.map (·.1)).map T.str))),some (.own (.l (Bi D) vs)),x4,x5,x6,x7,x8]/\D++R=K/\ts=R.map A6/\Fre x4/\Fre x5/\Fre x6/\Fre x7/\Fre x8)
   (λt' ts fs h=>by
    obtain⟨D,R,x4,x5,x6,x7,x8,vs,rfl,eD,eR,g4,g5,g6,g7,g8⟩:=h;cases R with
    |nil=>cases eR
    |cons kd R =>
     rw[sG]at eR;obtain⟨e1,e2⟩:=List.cons.inj eR;subst e1;obtain⟨w1,w2,hm,w3⟩:=W.part eD;obtain⟨r0,rs,er⟩:∃r0 rs,kd.2=r0::rs:=by have:=(W.rw kd hm).1;cases h:kd.2 with|nil=>rw[h]at this;simp at this|cons a b=>exact⟨a,b,rfl⟩
     obtain⟨y7,y8,eT,f7,f8,el⟩:=Ln (sc:=.lst (K.map A6)) (names:=names) (above:=D.map (·.1)) (aS:=Bi D) (kN:=vs) (k:=kd.1) (first:=r0.1) (rows:=kd.2) (x7:=x7) (x8:=x8) g7 g8 (λr m=>W.yu _ (VP hm m)) w1 w2 (W.two kd hm) (λr m x hx=>hN▸W.yz kd hm r m x hx) (λr m e x hx=>by have:r=r0:=QV w3 m (by rw[er];simp) e;subst this;exact W.gr D kd R eD.symm r (by rw[er];rfl) x hx);refine⟨[vl (.lst (K.map A6)),vl (.lst (names.map T.str)),some (.own (.lst ((D.map (·.1)).map T.str))),some (.own (.l (Bi D) vs)),vl (.str kd.1),vl (.lst (kd.2.map Ey)),x6,x7,x8],[vl (.lst (K.map A6)),vl (.lst (names.map T.str)),some (.own (.lst ((D.map (·.1)).map T.str++[.str kd.1]))),some (.own (.l (Bi D++kd.2.map C4) eT)),vl (.str kd.1),vl (.lst (kd.2.map Ey)),vl (.str r0.1),y7,y8],DC (by unfold tgN;exact Bn rfl g4) (by unfold tgN;exact Bn rfl g5),?_,D++[kd],R,vl (.str kd.1),vl (.lst (kd.2.map Ey)),vl (.str r0.1),y7,y8,eT,?_,by rw[<- eD];simp,e2,AG,AG,AG,f7,f8⟩
     .have q1:atI (kd.2.map Ey) 0=some (Ey r0):=DB (j:=0) (by rw[er];rfl);refine sq (AL (Ak (Ak (Aa rfl) AB (Ec rfl q1)) AB (show AF (.t (Ey r0)) (.t (.int 0)) _=.ok (.t (.str r0.1)) _ from rfl)) (Bn rfl g6)) ?_;refine sq (show Dr _ _ _ _=_ from el) ?_;exact MK (i:=2) rfl (Am (Aa rfl)) (by have:=congrArg List.length eD;have h4:=W.hi;simp at this;rw[sH,sH];show _<1000000;omega) rfl
     .rw[E6,tf,tf];rfl)
   (K.map A6) [vl (.lst (K.map A6)),vl (.lst (names.map T.str)),some (.own (.lst [])),some (.own (.l [] [])),none,none,none,none,none] ⟨[],K,none,none,none,none,none,[],rfl,rfl,rfl,Aq,Aq,Aq,Aq,Aq⟩
  refine⟨vl (.lst (names.map T.str)),some (.own (.lst ((D.map (·.1)).map T.str))),some (.own (.l (Bi D) vs)),x4,x5,x6,x7,x8,?_⟩;refine sq s1 ?_;refine sq (aq:=[vl (.lst (K.map A6)),vl (.lst (names.map T.str)),some (.own (.lst [])),none,none,none,none,none,none]) rfl ?_;exact sq (aq:=[vl (.lst (K.map A6)),vl (.lst (names.map T.str)),some (.own (.lst [])),some (.own (.l [] [])),none,none,none,none,none]) rfl ef
 obtain⟨x1,x2,x3,x4,x5,x6,x7,x8,all⟩:=all;unfold BD Bo;show(match Ca [vl (.lst (K.map A6)),none,none,none,none,none,none,none,none]with|.nx τ=>_|.ret (.t t) τ=>_|.ret (.nw o) τ=>_|.ret (.n i) τ=>_|.exc c τ=>_|_=>_)=_;rw[all];rfl
theorem GL{i}{os cj:List FO}(hv:fv fs=.ok (.nw o) aj)(h0:aj[i]?=some (some (.bor (.ins C gs os))))(hl:gs.length<900)(hp:CW gs os f o=some (dq,cj))(e:aj.set i (some (.bor (.ins C dq cj)))=aq):H0 C f i fv fs=.nx aq:=by unfold H0;rw[hv];simp only[SO.of,JbH,J2 h0];rw[if_pos ⟨trivial,hl⟩,hp];simp only;unfold FL.putAt;rw[h0];simp only[Sl.put,e]
theorem Jd{i}{j}{os:List FO}(hv:fv fs=.ok (.t t) aj)(h0:aj[i]?=some (some (.bor (.ins C gs os))))(hj:aj[j]?=some (vl (.str k)))(hf:Ba gs os f=some (.l ks ts))(hn:(.inr k:Key)∉ks)(hl:ks.length<big)
  (e:aj.set i (some (.bor (.ins C gs (Bw gs os f (.l (ks++[.inr k]) (ts++[t]))))))=aq):CQ C f i j fv fs=.nx aq:=by
 have h3:E4 ks ts (.inr k:Key) t=(ks++[.inr k],ts++[t]):=by unfold E4;rw[any_false hn];rfl
 unfold CQ;rw[hv];simp only[SO.of,J2 h0,hj,HG,hf,if_true,hl,h3];unfold FL.putAt;rw[h0];simp only[Sl.put,e]
def Js(rows:List (Str×List Str)):List T:=rows.map λr=>T.tup (r.2.map T.str)
def JL(K:Kd):List T:=K.flatMap λkd=>Js kd.2
def Ni(k:Str)(rows:List (Str×List Str)):List T:=rows.map λ_=>T.str k
def IU(K:Kd):List T:=K.flatMap λkd=>Ni kd.1 kd.2
def Eo(K:Kd):List T:=K.map λkd=>T.lst ((kd.2.map (·.1)).map T.str)
theorem Oj(D:Kd)(kd:Str×List (Str×List Str)):JL (D++[kd])=JL D++Js kd.2:=by unfold JL;simp
theorem O9{C:Addr}{A B H:Str}(fN:A≠B)(fO:A≠H)(fP:B≠H){oA:FO}{sc mk:T}{k:Str}{rows:List (Str×List Str)}{aS:List Key}{eO gY:List T}{x4 x5:Option Sl}(f4:Fre x4)(f5:Fre x5)(eW:(aS++rows.map C4).Nodup)(hlen:aS.length+rows.length<1000):
  ∃(y4 y5:Option Sl)(hs:List T),hs=gY++Ni k rows/\Fre y4/\Fre y5/\DX (AY 2 (Af (tgN 4) (Af (tgN 5) AQ))) (Av (CQ C B 0 4 (Aj BQ (Ac (Ab 5) Ai)))
  (CQ C H 0 4 (fz (Ab 2)))) (rows.map Ey) [some (.bor (.ins C [A,B,H] [oA,.l aS eO,.l aS gY])),vl sc,vl (.str k),vl mk,x4,x5] =
   .nx [some (.bor (.ins C [A,B,H] [oA,.l (aS++rows.map C4) (eO++Js rows),.l (aS++rows.map C4) hs])),vl sc,vl (.str k),vl mk,y4,y5]:=by
 obtain⟨aq,ef,D,R,y4,y5,hs,rfl,eD,eR,g4,g5,eh⟩:=Dx (gt:=AY 2 (Af (tgN 4) (Af (tgN 5) AQ))) (body:=Av (CQ C B 0 4 (Aj BQ (Ac (Ab 5) Ai)))
  (CQ C H 0 4 (fz (Ab 2))))
  (λts fs=>∃(D R:List (Str×List Str))(y4 y5:Option Sl)(hs:List T),fs=[some (.bor (.ins C [A,B,H] [oA,.l (aS++D.map C4) (eO++Js D),.l (aS++D.map C4) hs])),vl sc,vl (.str k),vl mk,y4,y5]/\D++R=rows/\ts=R.map Ey/\Fre y4/\Fre y5/\hs=gY++Ni k D)
  (λt' ts fs h=>by
   obtain⟨D,R,y4,y5,hs,rfl,eD,eR,g4,g5,eh⟩:=h;cases R with
   |nil=>cases eR
   |cons r R =>
    rw[sG]at eR;obtain⟨e1,e2⟩:=List.cons.inj eR;subst e1;have b0:(.inr r.1:Key)∉aS++D.map C4:=by rw[<- eD,tf,sG,<- tR,sI]at eW;intro m;exact eW.2.2 _ m (C4 r) (by simp) rfl
    have hl:(aS++D.map C4).length<big:=by have:=congrArg List.length eD;simp at this;rw[tM,sH];show _<1000000;omega
    have v1:Ba [A,B,H] [oA,.l (aS++D.map C4) (eO++Js D),.l (aS++D.map C4) hs] B=some (.l (aS++D.map C4) (eO++Js D)):=by simp[Ba,Ne.symm fN]
    have s1:Bw [A,B,H] [oA,.l (aS++D.map C4) (eO++Js D),.l (aS++D.map C4) hs] B (.l (aS++D.map C4++[.inr r.1]) (eO++Js D++[.tup (r.2.map T.str)]))=[oA,.l (aS++D.map C4++[.inr r.1]) (eO++Js D++[.tup (r.2.map T.str)]),.l (aS++D.map C4) hs]:=by simp[Bw,Ne.symm fN]
    have v2:Ba [A,B,H] [oA,.l (aS++D.map C4++[.inr r.1]) (eO++Js D++[.tup (r.2.map T.str)]),.l (aS++D.map C4) hs] H=some (.l (aS++D.map C4) hs):=by simp[Ba,Ne.symm fO,Ne.symm fP]
    have s2:Bw [A,B,H] [oA,.l (aS++D.map C4++[.inr r.1]) (eO++Js D++[.tup (r.2.map T.str)]),.l (aS++D.map C4) hs] H (.l (aS++D.map C4++[.inr r.1]) (hs++[.str k]))=[oA,.l (aS++D.map C4++[.inr r.1]) (eO++Js D++[.tup (r.2.map T.str)]),.l (aS++D.map C4++[.inr r.1]) (hs++[.str k])]:=by simp[Bw,Ne.symm fO,Ne.symm fP]
    refine⟨[some (.bor (.ins C [A,B,H] [oA,.l (aS++D.map C4) (eO++Js D),.l (aS++D.map C4) hs])),vl sc,vl (.str k),vl mk,vl (.str r.1),vl (.tup (r.2.map T.str))],[some (.bor (.ins C [A,B,H] [oA,.l (aS++D.map C4++[.inr r.1]) (eO++Js D++[.tup (r.2.map T.str)]),.l (aS++D.map C4++[.inr r.1]) (hs++[.str k])])),vl sc,vl (.str k),vl mk,vl (.str r.1),vl (.tup (r.2.map T.str))],DC (by unfold tgN;exact Bn rfl g4) (by unfold tgN;exact Bn rfl g5),?_,D++[r],R,vl (.str r.1),vl (.tup (r.2.map T.str)),hs++[.str k],?_,by rw[<- eD];simp,e2,AG,AG,by rw[eh];simp[Ni]⟩
    .refine sq (Jd (t:=.tup (r.2.map T.str)) (BV (Ao (Aa rfl) rfl) rfl) rfl rfl v1 b0 hl rfl) ?_;rw[s1];refine Jd (t:=.str k) (Am (Aa rfl)) rfl rfl v2 b0 hl ?_;rw[s2];rfl
    .unfold Js;rw[tf,tf,<- tR,<- tR];rfl)
  (rows.map Ey) [some (.bor (.ins C [A,B,H] [oA,.l aS eO,.l aS gY])),vl sc,vl (.str k),vl mk,x4,x5] ⟨[],rows,x4,x5,gY,by simp[Js],rfl,rfl,f4,f5,by simp[Ni]⟩
 have hR:R=[]:=by cases R with|nil=>rfl|cons a b=>cases eR
 subst hR;rw[t5]at eD;subst eD;exact⟨y4,y5,hs,eh,g4,g5,ef⟩
theorem FR:("makers_by_kind":Str)≠("parts_by_maker":Str)/\("makers_by_kind":Str)≠("home_by_maker":Str)/\("parts_by_maker":Str)≠("home_by_maker":Str):=by decide +kernel
def N6(C:Addr)(K:Kd)(hs:List T):FO:=.ins C ["makers_by_kind","parts_by_maker","home_by_maker"] [.l (B0 K) (Eo K),.l (Bi K) (JL K),.l (Bi K) hs]
theorem MU{K:Kd}(W:Well K):Cj C [some (.bor (.ins C [] [])),vl (.lst (K.map A6))]=.ok (.t .v) [some (.bor (N6 C K (IU K))),vl (.lst (K.map A6))]:=by
 have all:∃hs x2 x3 x4 x5,hs=IU K/\C6 C [some (.bor (.ins C [] [])),vl (.lst (K.map A6)),none,none,none,none]=.nx [some (.bor (N6 C K hs)),vl (.lst (K.map A6)),x2,x3,x4,x5]:=by
  unfold C6 N6;obtain⟨fN,fO,fP⟩:=FR;generalize ("makers_by_kind":Str)=A at fN fO ⊢;generalize ("parts_by_maker":Str)=B at fN fP ⊢;generalize ("home_by_maker":Str)=H at fO fP ⊢;obtain⟨aq,ef,D,R,x2,x3,x4,x5,hs,rfl,eD,eR,g2,g3,g4,g5,eh⟩:=Dx (gt:=AY 2 (Af (tgN 2) (Af (tgN 3) AQ))) (body:=(Av (CQ C A 0 2 (Ck false [none,none] (itU (fz (Ab 3))) (AY 2 (Af (tgN 0) (Af (tgN 1) AQ))) E1 (fz (Ab 0))))
  (Dr (itU (fz (Ab 3))) (AY 2 (Af (tgN 4) (Af (tgN 5) AQ))) (Av (CQ C B 0 4 (Aj BQ (Ac (Ab 5) Ai)))
  (CQ C H 0 4 (fz (Ab 2)))))))
   (λts fs=>∃(D R:Kd)(x2 x3 x4 x5:Option Sl)(hs:List T),fs=[some (.bor (.ins C [A,B,H] [.l (B0 D) (Eo D),.l (Bi D) (JL D),.l (Bi D) hs])),vl (.lst (K.map A6)),x2,x3,x4,x5]/\D++R=K/\ts=R.map A6/\Fre x2/\Fre x3/\Fre x4/\Fre x5/\hs=IU D)
   (λt' ts fs h=>by
    obtain⟨D,R,x2,x3,x4,x5,hs,rfl,eD,eR,g2,g3,g4,g5,eh⟩:=h;cases R with
    |nil=>cases eR
    |cons kd R =>
     rw[sG]at eR;obtain⟨e1,e2⟩:=List.cons.inj eR;subst e1;obtain⟨w1,w2,hm,w3⟩:=W.part eD;have eW:=W.nd;have v1:Ba [A,B,H] [.l (B0 D) (Eo D),.l (Bi D) (JL D),.l (Bi D) hs] A=some (.l (B0 D) (Eo D)):=by simp[Ba]
     have s1:Bw [A,B,H] [.l (B0 D) (Eo D),.l (Bi D) (JL D),.l (Bi D) hs] A (.l (B0 D++[.inr kd.1]) (Eo D++[.lst ((kd.2.map (·.1)).map T.str)]))=[.l (B0 D++[.inr kd.1]) (Eo D++[.lst ((kd.2.map (·.1)).map T.str)]),.l (Bi D) (JL D),.l (Bi D) hs]:=by simp[Bw]
     obtain⟨y4,y5,aZ,p0,f4,f5,el⟩:=O9 (C:=C) fN fO fP (oA:=.l (B0 D++[.inr kd.1]) (Eo D++[.lst ((kd.2.map (·.1)).map T.str)])) (sc:=.lst (K.map A6)) (mk:=.lst (kd.2.map Ey)) (k:=kd.1) (rows:=kd.2) (aS:=Bi D) (eO:=JL D) (gY:=hs) (x4:=x4) (x5:=x5) g4 g5 w1 w2;refine⟨[some (.bor (.ins C [A,B,H] [.l (B0 D) (Eo D),.l (Bi D) (JL D),.l (Bi D) hs])),vl (.lst (K.map A6)),vl (.str kd.1),vl (.lst (kd.2.map Ey)),x4,x5],[some (.bor (.ins C [A,B,H] [.l (B0 D++[.inr kd.1]) (Eo D++[.lst ((kd.2.map (·.1)).map T.str)]),.l (Bi D++kd.2.map C4) (JL D++Js kd.2),.l (Bi D++kd.2.map C4) aZ])),vl (.lst (K.map A6)),vl (.str kd.1),vl (.lst (kd.2.map Ey)),y4,y5],DC (by unfold tgN;exact Bn rfl g2) (by unfold tgN;exact Bn rfl g3),?_,D++[kd],R,vl (.str kd.1),vl (.lst (kd.2.map Ey)),y4,y5,aZ,?_,by rw[<- eD];simp,e2,AG,AG,f4,f5,by rw[p0,eh];simp[IU]⟩
     .refine sq (Jd (t:=.lst ((kd.2.map (·.1)).map T.str)) (by
      obtain⟨x,y,_,_,e⟩:=GW (fe:=fz (Ab 0)) (f:=λr:Str×List Str=>.str r.1) (g:=λr=>.tup (r.2.map T.str)) (h:=λr=>.str r.1) (rest:=[]) kd.2 none none [] Aq Aq (λkd _=>Am (Aa rfl)) (by have:=(W.rw kd hm).2;show 0+_<=1000000;omega);have:=DZ (src:=[none,none]) (fi:=itU (fz (Ab 3))) (fs:=[some (.bor (.ins C [A,B,H] [.l (B0 D) (Eo D),.l (Bi D) (JL D),.l (Bi D) hs])),vl (.lst (K.map A6)),vl (.str kd.1),vl (.lst (kd.2.map Ey)),x4,x5]) (ts:=kd.2.map Ey) rfl ⟨by rw[show Dc _ (List.map _ [none,none])=[]from rfl];exact sY,by rfl⟩ e (AV rfl);rw[this,tS,tU];rfl) rfl rfl v1 (by
      intro m;unfold B0 at m;rw[tQ]at m;obtain⟨jd,m',e'⟩:=m;have pY:jd.1=kd.1:=by simpa using e'
      rw[<- eD,tf,sI]at eW;exact eW.2.2 jd.1 (tQ.mpr ⟨jd,m',rfl⟩) kd.1 (by simp) pY) (by
      unfold B0;rw[sH];have:=congrArg List.length eD;have h4:=W.hi;simp at this;show D.length<1000000;omega) rfl) ?_;rw[s1];exact el
     .rw[E6,Oj];unfold B0 Eo;rw[tf,tf];rfl)
   (K.map A6) [some (.bor (.ins C [A,B,H] [.l [] [],.l [] [],.l [] []])),vl (.lst (K.map A6)),none,none,none,none] ⟨[],K,none,none,none,none,[],rfl,rfl,rfl,Aq,Aq,Aq,Aq,rfl⟩
  have hR:R=[]:=by cases R with|nil=>rfl|cons a b=>cases eR
  subst hR;rw[t5]at eD;subst eD;refine⟨hs,x2,x3,x4,x5,eh,?_⟩;refine sq (Dz (BY (Ae (Am (Aa (t:=.lst (D.map A6)) rfl)) Au) rfl rfl (CU W.lo W.hi W.nd W.nm W.rw))) ?_;refine sq (Dz (BY (Ae (Am (Aa (t:=.lst (D.map A6)) rfl)) Au) rfl rfl (Cm W))) ?_;refine sq (aq:=[some (.bor (.ins C [A] [.l [] []])),vl (.lst (D.map A6)),none,none,none,none]) (GL (o:=.l [] []) rfl rfl (show 0<900 by decide) rfl rfl) ?_;refine sq (aq:=[some (.bor (.ins C [A,B] [.l [] [],.l [] []])),vl (.lst (D.map A6)),none,none,none,none]) (GL (o:=.l [] []) rfl rfl (show 1<900 by decide) (by simp[CW,fN]) rfl) ?_;refine sq (aq:=[some (.bor (.ins C [A,B,H] [.l [] [],.l [] [],.l [] []])),vl (.lst (D.map A6)),none,none,none,none]) (GL (o:=.l [] []) rfl rfl (show 2<900 by decide) (by simp[CW,fO,fP]) rfl) ?_;exact ef
 obtain⟨hs,x2,x3,x4,x5,eh,all⟩:=all;subst eh;unfold Cj Bo;show(match C6 C [some (.bor (.ins C [] [])),vl (.lst (K.map A6)),none,none,none,none]with|.nx τ=>_|.ret (.t t) τ=>_|.ret (.nw o) τ=>_|.ret (.n i) τ=>_|.exc c τ=>_|_=>_)=_;rw[all];rfl
def A7(C:Addr)(K:Kd)(hs:List T):T:=.ins C ["makers_by_kind","parts_by_maker","home_by_maker"] [.l (B0 K) (Eo K),.l (Bi K) (JL K),.l (Bi K) hs]
theorem Px{i}(h:fs[i]?=some (vl (A7 C K hs))):CL C "makers_by_kind" (Ab i) fs=.ok (.t (.l (B0 K) (Eo K))) fs:=by unfold CL;rw[Aa h];obtain⟨fN,fO,fP⟩:=FR;unfold A7;generalize ("makers_by_kind":Str)=A at *;simp[Out.bnd,Out.bind,Sg,Jr,okT]
theorem T7{i}(h:fs[i]?=some (vl (A7 C K hs))):CL C "parts_by_maker" (Ab i) fs=.ok (.t (.l (Bi K) (JL K))) fs:=by unfold CL;rw[Aa h];obtain⟨fN,fO,fP⟩:=FR;unfold A7;generalize ("makers_by_kind":Str)=A at *;generalize ("parts_by_maker":Str)=B at *;simp[Out.bnd,Out.bind,Sg,Jr,okT,Ne.symm fN]
theorem QL:AU C [vl (A7 C K hs)]=.ok (.nw (.lst ((K.map (·.1)).map T.str))) [vl (A7 C K hs)]:=by
 have all:CH C [vl (A7 C K hs)]=.ret (.nw (.lst ((K.map (·.1)).map T.str))) [vl (A7 C K hs)]:=by unfold CH;refine AR (BV (Ao (Px rfl) rfl) ?_);show Out.ok (Rv.nw (.lst ((B0 K).map VT))) _=_;unfold B0;rw[tU,tU];rfl
 unfold AU Bo;show(match CH C [vl (A7 C K hs)]with|.nx τ=>_|.ret (.t t) τ=>_|.ret (.nw o) τ=>_|.ret (.n i) τ=>_|.exc c τ=>_|_=>_)=_;rw[all];rfl
theorem Lr(W:Well K):(K.map λkd=>(.inr kd.1:Key)).Nodup:=by have:=Di W.nd;rwa[tU]at this
theorem val_mk(W:Well K)(m:kd∈K):Co (B0 K) (Eo K) (.inr kd.1:Key)=some (.lst ((kd.2.map (·.1)).map T.str)) :=
 Df m (Lr W)
def allR(K:Kd):List (Str×List Str):=K.flatMap (·.2)
theorem Gs(K:Kd):Bi K=(allR K).map C4:=by unfold Bi mks allR;rw[uB,uB];simp only[tU];rfl
theorem Q5(K:Kd):JL K=(allR K).map λr=>T.tup (r.2.map T.str):=by unfold JL Js allR;rw[uB]
theorem Tj(W:Well K)(m:kd∈K)(m2:r∈kd.2):Co (Bi K) (JL K) (.inr r.1:Key)=some (.tup (r.2.map T.str)):=by have h:=Di W.yV;have h2:=Gs K;unfold Bi at h2;rw[h2]at h;rw[Gs,Q5];exact Df (uV.mpr ⟨kd,m,m2⟩) h
theorem IX(h:Co ks ts (.inr k:Key)=some t):AF (.t (.l ks ts)) (.t (.str k)) fs=.ok (.t t) fs:=by
 have e:Pq (.t (.l ks ts)) (.t (.str k)) fs=.ok (.t t) fs:=by simp only[Pq,WJ,HG,Option.map_some,h,okT]
 exact e
theorem N8(W:Well K)(m:kd∈K):AD C [vl (A7 C K hs),vl (.str kd.1)]=.ok (.nw (.lst ((kd.2.map (·.1)).map T.str))) [vl (A7 C K hs),vl (.str kd.1)]:=by
 have all:Cc C [vl (A7 C K hs),vl (.str kd.1)]=.ret (.nw (.lst ((kd.2.map (·.1)).map T.str))) [vl (A7 C K hs),vl (.str kd.1)]:=by
  unfold Cc;refine sq (AW (Bs (Ak (Am (Aa rfl)) (Px rfl) ?_)) rfl) ?_
  .rw[TY,val_mk W m];rfl
  exact AR (BV (Ao (Ak (Px rfl) (Am (Aa rfl)) (IX (val_mk W m))) rfl) rfl)
 unfold AD Bo;show(match Cc C [vl (A7 C K hs),vl (.str kd.1)]with|.nx τ=>_|.ret (.t t) τ=>_|.ret (.nw o) τ=>_|.ret (.n i) τ=>_|.exc c τ=>_|_=>_)=_;rw[all];rfl
theorem LS(W:Well K)(m:kd∈K)(m2:r∈kd.2):Bk C [vl (A7 C K hs),vl (.str r.1)]=.ok (.t (.tup (r.2.map T.str))) [vl (A7 C K hs),vl (.str r.1)]:=by
 have all:CG C [vl (A7 C K hs),vl (.str r.1)]=.ret (.t (.tup (r.2.map T.str))) [vl (A7 C K hs),vl (.str r.1)]:=by
  unfold CG;refine sq (AW (Bs (Ak (Am (Aa rfl)) (T7 rfl) ?_)) rfl) ?_
  .rw[TY,Tj W m m2];rfl
  exact AR (Ak (T7 rfl) (Am (Aa rfl)) (IX (Tj W m m2)))
 unfold Bk Bo;show(match CG C [vl (A7 C K hs),vl (.str r.1)]with|.nx τ=>_|.ret (.t t) τ=>_|.ret (.nw o) τ=>_|.ret (.n i) τ=>_|.exc c τ=>_|_=>_)=_;rw[all];rfl
theorem EK{mt:Str}(h:(["makers_by_kind","parts_by_maker","home_by_maker"]:List Str).any (·==mt)=false):DU C mt fs (.t (A7 C K hs))=true:=by unfold DU A7;simp only[h];simp
theorem Z8(h:f fs=.ok (.t (.o false)) aj):Us f g fs=.ok (.t (.o false)) aj:=by unfold Us;rw[h];rfl
theorem Qo(h:f fs=.ok (.t (.o true)) aj)(e:g aj=r):Us f g fs=r:=by unfold Us;rw[h];exact e
theorem DH(h1:gt t fs=some aj)(h2:body aj=.nx aA):DX gt body (t::ts) fs=DX gt body ts aA:=by simp only[DX,h1,h2]
theorem S4(h:fa fs=.ok rs aj)(h2:g rs aj=r):Aj g fa fs=r:=by unfold Aj;rw[h];exact h2
theorem Z5{i}{j}(h:f fs=.ok (.t (.tup [x,y])) aj)(h1:tgN i x aj=some aA)(h2:tgN j y aA=some aq):Hk f (AY 2 (Af (tgN i) (Af (tgN j) AQ))) fs=.nx aq:=by unfold Hk;rw[h];show(match AY 2 (Af (tgN i) (Af (tgN j) AQ)) (.tup [x,y]) aj with|some fs=>SO.nx fs|none=>.bad)=_;rw[DC h1 h2]
theorem XH{i}(h:fs[i]?=some (some (.own (.lst ts)))):Cu fs (.n i)=some ts:=by simp only[Cu,Jaj h]
theorem Z1(h:ps.length+us.length<=big):Ay (.t (.tup ps)) (.t (.tup us)) fs=.ok (.t (.tup (ps++us))) fs:=by cases ps with|nil=>rfl|cons p ps =>have:Pt (.t (.tup (p::ps))) (.t (.tup us)) fs=.ok (.t (.tup (p::ps++us))) fs:=if_pos ⟨by simp,h⟩;show(match Pt (.t (.tup (p::ps))) (.t (.tup us)) fs with|.bad=>_|o=>o)=_;rw[this]
open Builtin.Int (intBits)
theorem WY:intBits x<=n↔x.natAbs<2^n:=by
 unfold intBits;by_cases h:x=0
 .subst h;simp[Nat.two_pow_pos]
 .have h':(x==0)=false:=by simpa using h
  rw[h'];have hn:x.natAbs≠0:=by omega
  have:=Nat.log2_lt hn (k:=n);simp only[tY,if_false];omega
theorem MH:∀{ns:List Int}{z:Int},z∈ns->intBits z<=Cs ns
 |n::ns,z,h=>by
  simp only[Cs];rcases sQ.mp h with rfl|h
  .omega
  .have:=MH h;omega
theorem S7(hb:Cs ns<=N)(i:Nat):intBits (ns.getD i 0)<=N:=by
 by_cases h:i<ns.length
 .have:ns.getD i 0∈ns:=by simp[List.getD,h]
  have:=MH this;omega
 .have:ns.getD i 0=0:=by simp[List.getD,ua (by omega:ns.length<=i)]
  rw[this,WY];exact Nat.two_pow_pos N
theorem OH(c:Int)(h:n<=12):(nms c n).Nodup:=by unfold nms;rw[List.nodup_iff_pairwise_ne,List.pairwise_map];refine List.Pairwise.imp_of_mem ?_ (List.nodup_iff_pairwise_ne.mp (List.nodup_range));intro a b ma mb ie e;rw[uw]at ma mb;exact ie (VD (by omega) (by omega) e)
theorem OI(h:x∈nms c n):∃k,x=nmS c k:=by unfold nms at h;rw[tQ]at h;obtain⟨k,_,e⟩:=h;exact⟨k,e.symm⟩
theorem VC(c:Int)(k:Nat):(nmS c k).length<=12:=by show(Nm.codes c k).toArray.size<=12;rw[sJ];exact Nm.MC c k
theorem IQ(ha:fa fs=.ok rs aj)(hp:rs.length+1=p)(hl:Dc aj (rs.map Bj)=[])(hf:Fn (some (.bor (.ins C [] []))::B1 aj (rs.map Bj))=.ok (.t .v) (some (.bor o)::τ)):Aj (E7 C p Fn) fa fs=.ok (.nw o) aj:=by unfold Aj;rw[ha];show E7 C p Fn rs aj=_;unfold E7;rw[if_pos ⟨by rw[hl];exact sY,hp⟩,hf];dsimp only;rw[AV hl]
theorem P8(h:xs.length+ys.length<=big):Ay (.t (.lst xs)) (.t (.lst ys)) fs=.ok (.nw (.lst (xs++ys))) fs:=by
 have:Nq (.t (.lst xs)) (.t (.lst ys)) fs=.ok (.nw (.lst (xs++ys))) fs:=by simp only[Nq,exL];exact if_pos h
 show(match Nq (.t (.lst xs)) (.t (.lst ys)) fs with|.bad=>_|o=>o)=_;rw[this]
theorem Yo(h:f fs=.ok false fs)(e:g fs=r):orT f g fs=r:=by unfold orT;rw[h];exact e
theorem XA{i}(e:fs[i]?=some x)(h:Fre x):MV i (.nw o) fs=some (fs.set i (some (.own o))):=by unfold MV;rw[e];cases x with|none=>rfl|some s=>cases s with|val t=>rfl|own o=>rfl|bor o=>exact h.elim
theorem BB(h:g (args++List.replicate n none)=.ret (.t t) τ):Bo n g args=.ok (.t t) (τ.take args.length):=by unfold Bo;rw[h]
theorem O5(h:f fs=.ok (.t (.tup ts)) fs):itU f fs=.ok ts fs:=by unfold itU;rw[h];rfl
theorem ER:∀(xs:List α)(x:Option Sl)(ax:List T),Fre x->(∀a∈xs,fe (vl (p a)::rest)=.ok (.t (q a)) (vl (p a)::rest))->ax.length+xs.length<=big ->
  ∃y,Fre y/\CY (tgN 0) E1 fe (xs.map p) (x::rest) ax=some (ax++xs.map q,y::rest)
 | [],x,ax,hx,_,_=>⟨x,hx,by simp[CY]⟩
 |a::xs,x,ax,hx,h,hl=>by
  obtain⟨y,hy,e⟩:=ER xs (vl (p a)) (ax++[q a]) AG (λb m=>h b (sN _ m)) (by simp at hl ⊢;omega);refine⟨y,hy,?_⟩;have h1:tgN 0 (p a) (x::rest)=some (vl (p a)::rest):=by unfold tgN;rw[Bn rfl hx];rfl
  have h3:ax.length<big:=by simp at hl;omega
  simp only[sG,CY,h1,E1,(h a tL),if_pos h3,e];simp
theorem QU{i}(h:g (args++List.replicate n none)=.ret (.n i) τ)(hi:τ[i]?=some (some (.own o))):Bo n g args=.ok (.nw o) ((τ.set i none).take args.length):=by unfold Bo;rw[h];simp only[hi]
theorem LD(m:Nat)(a b:Str):eqT m (.str a) (.str b)=some (a==b):=by cases m<;>rfl
theorem Jb(m:Nat)(xs ys:List T):eqT (m+1) (.tup xs) (.tup ys)=(Jt (eqT m) xs ys).map (·&&xs.length==ys.length):=rfl
theorem GC(h:f fs=.ok (.t (.lst ts)) fs):itU f fs=.ok ts fs:=by unfold itU;rw[h];rfl
theorem K4(h:g (args++List.replicate n none)=.ret (.nw o) τ):Bo n g args=.ok (.nw o) (τ.take args.length):=by unfold Bo;rw[h]
theorem FK(e:g fs=.exc c aq):Av g h fs=.exc c aq:=by unfold Av;rw[e]
theorem EE(h:g (args++List.replicate n none)=.exc c τ):Bo n g args=.exc c (τ.take args.length):=by unfold Bo;rw[h]
theorem KG(ha:fa fs=.ok rs aj)(hp:rs.length=p)(hn:Dc aj (rs.map Bj)=[])(hf:Fn (B1 aj (rs.map Bj))=.exc c τ):Aj (Al p Fn) fa fs=.exc c aj:=by unfold Aj;rw[ha];show Al p Fn rs aj=_;unfold Al;rw[if_pos hp];unfold El;rw[if_pos (by rw[hn];exact sY),hf];simp only[(AV hn)]
theorem T5(h:f fs=.exc c aj):fz f fs=.exc c aj:=by unfold fz;rw[h];rfl
theorem QW(h:f fs=.exc c aj):retS f fs=.exc c aj:=by unfold retS;rw[h];rfl
theorem Kp(h:f fs=.exc c aj):AH f fs=.exc c aj:=by unfold AH;rw[h];rfl
theorem QP{i}(h:f fs=.exc c aj):AN i f fs=.exc c aj:=by unfold AN;rw[h];rfl
def Jar(K:Kd):List (Str×Str×List Str):=K.flatMap λkd=>kd.2.map λr=>(kd.1,r)
theorem OM(K:Kd):Bi K=(Jar K).map λq=>C4 q.2:=by rw[Gs];unfold Jar allR;rw[uB,uB];simp only[tU];rfl
theorem V4(K:Kd):IU K=(Jar K).map λq=>T.str q.1:=by unfold IU Ni Jar;rw[uB];simp only[tU];rfl
theorem Tn(W:Well K)(m:kd∈K)(m2:r∈kd.2):Co (Bi K) (IU K) (.inr r.1:Key)=some (.str kd.1):=by have h:(Bi K).Nodup:=Di W.yV;rw[OM]at h;rw[OM,V4];exact Df (uV.mpr ⟨kd,m,tQ.mpr ⟨r,m2,rfl⟩⟩) h
abbrev stT(C:Addr)(K:Kd):T:=A7 C K (IU K)
variable{C:Addr}
section
variable{K:Kd}{hs:List T}
theorem T8{i}(h:fs[i]?=some (vl (A7 C K hs))):CL C "home_by_maker" (Ab i) fs=.ok (.t (.l (Bi K) hs)) fs:=by unfold CL;rw[Aa h];obtain⟨fN,fO,fP⟩:=FR;unfold A7;generalize ("makers_by_kind":Str)=A at *;generalize ("parts_by_maker":Str)=B at *;generalize ("home_by_maker":Str)=H at *;simp[Out.bnd,Out.bind,Sg,Jr,okT,Ne.symm fO,Ne.symm fP]
theorem UJ(W:Well K)(m:kd∈K)(m2:r∈kd.2):C5 C [vl (stT C K),vl (.str r.1)]=.ok (.t (.str kd.1)) [vl (stT C K),vl (.str r.1)]:=by
 exact(BB (by
  unfold Fy;refine sq (AW (Bs (Ak (Am (Aa rfl)) (T8 rfl) ?_)) rfl) ?_
  .rw[TY,Tn W m m2];rfl
  exact AR (Ak (T8 rfl) (Am (Aa rfl)) (IX (Tn W m m2))))).trans rfl
theorem YX{xs:List Str}(h:k∉xs):(.inr k:Key)∉xs.map λm=>(.inr m:Key):=λm=>by obtain⟨x,hm,e⟩:=tQ.mp m;exact h (Sum.inr.inj e▸hm)
end
variable{mt:Str}{p:Nat}{Fn fo:FS->Out Rv}{fa:FS->Out (List Rv)}{rs:List Rv}{τ:FS}
section
variable{K:Kd}{hs:List T}
theorem Qd(hp:rs.length=p)(hn:Dc fs (rs.map Bj)=[])(hf:Fn (B1 fs (rs.map Bj))=.ok (.nw o) τ):Al p Fn rs fs=.ok (.nw o) fs:=by unfold Al;rw[if_pos hp];unfold El;rw[if_pos (by rw[hn];exact sY),hf];simp only[(AV hn)]
theorem MG(hp:rs.length=p)(hn:Dc fs (rs.map Bj)=[])(hf:Fn (B1 fs (rs.map Bj))=.ok (.t t) τ):Al p Fn rs fs=.ok (.t t) fs:=by unfold Al;rw[if_pos hp];unfold El;rw[if_pos (by rw[hn];exact sY),hf];simp only[(AV hn)]
theorem NF(hp:rs.length=p)(hn:Dc fs (rs.map Bj)=[])(hf:Fn (B1 fs (rs.map Bj))=.exc c τ):Al p Fn rs fs=.exc c fs:=by unfold Al;rw[if_pos hp];unfold El;rw[if_pos (by rw[hn];exact sY),hf];simp only[(AV hn)]
theorem Rx(ho:fo fs=.ok (.t (A7 C K hs)) fs)(hi:DU C mt fs (.t (A7 C K hs))=true)(hf:Fn [vl (A7 C K hs)]=.ok (.nw o) τ):Hx C mt 1 Fn fo Ai fs=.ok (.nw o) fs:=by have hn:Dc fs ([Rv.t (A7 C K hs)].map Bj)=[]:=rfl;unfold Hx;rw[ho];show(if DU C mt fs (.t (A7 C K hs))=true then _ else _)=_;rw[if_pos hi];show FL.Qe 1 Fn [.t (A7 C K hs)] fs=_;unfold FL.Qe;rw[if_pos (show [Rv.t (A7 C K hs)].length=1 from rfl)];unfold FL.S3;rw[if_pos (by rw[hn];exact sY)];rw[show Fn (B1 fs ([Rv.t (A7 C K hs)].map Bj))=.ok (.nw o) τ from hf];simp only[(AV hn)]
end
theorem RL:(["makers_by_kind","parts_by_maker","home_by_maker"]:List Str).any (·==("home":Str))=false:=rfl
section
variable{c:Str}
theorem O7(hc:xrs.contains c=true)(g0:Ab 0 fs=.ok (.t (.zT c)) fs):isX xrs D7 d (Ab 0) fs=.ok (.t (.o (D7 c d))) fs:=by unfold isX;rw[g0];show(if xrs.contains c=true then okT (.o (D7 c d)) fs else .bad)=_;rw[if_pos hc];rfl
theorem GY{fa}(h1:fa fs=.ok (.t (.lst ts)) fs)(h2:fb fs=.ok (.t (.lst us)) fs)(h:ts.length+us.length<=big):fz (Ag Ay fa fb) fs=.ok (.t (.lst (ts++us))) fs :=
 Fe (Ak h1 h2 (P8 h))
abbrev bl3(c a b d:Str):List T:=[.o (D7 c a),.o (D7 c b),.o (D7 c d)]
theorem Iu(hc:xrs.contains c=true)(g0:Ab 0 fs=.ok (.t (.zT c)) fs):
  An Cz (Ac (isX xrs D7 a (Ab 0)) (Ac (isX xrs D7 b (Ab 0)) (Ac (isX xrs D7 d (Ab 0)) Ai))) fs=.ok (.t (.lst (bl3 c a b d))) fs :=
 FY (Ao (O7 hc g0) (Ao (O7 hc g0) (Ao (O7 hc g0) Au))) rfl (show 3<=big by decide)
def P6(c:Str):List T:=bl3 c "BadName" "Twice" "BadCount"++bl3 c "NoKind" "Groundless" "NoMaker"++bl3 c "NoName" "NoFunction" "NotLess"++bl3 c "BadKind" "TooLong" "NoPlace"++bl3 c "NotShown" "NoSaying" "BadText"
theorem NC(hc:xrs.contains c=true):CN [vl (.zT c)]=.ok (.nw (.lst (P6 c))) [vl (.zT c)]:=by
 have nx:∀(a b d:Str)(ts:List T),ts.length<=100->AN 1 (fz (Ag Ay (Ab 1) (An Cz (Ac (isX xrs D7 a (Ab 0)) (Ac (isX xrs D7 b (Ab 0)) (Ac (isX xrs D7 d (Ab 0)) Ai)))))) [vl (.zT c),vl (.lst ts)]=.nx [vl (.zT c),vl (.lst (ts++bl3 c a b d))]:=λa b d ts hl =>AL (GY (Aa rfl) (Iu hc (Aa rfl)) (by show _<=1000000;simp;omega)) rfl
 have r:∀ts:List T,ts.length<=100->Ag Ay (Ab 1) (An Cz (Ac (isX xrs D7 "NotShown" (Ab 0)) (Ac (isX xrs D7 "NoSaying" (Ab 0)) (Ac (isX xrs D7 "BadText" (Ab 0)) Ai)))) [vl (.zT c),vl (.lst ts)]=.ok (.nw (.lst (ts++bl3 c "NotShown" "NoSaying" "BadText"))) [vl (.zT c),vl (.lst ts)]:=λts hl =>Ak (Aa rfl) (Iu hc (Aa rfl)) (P8 (by show _<=1000000;simp;omega))
 exact(K4 (sq (AL (Iu hc (Aa rfl)) rfl) (sq (nx _ _ _ _ (by simp)) (sq (nx _ _ _ _ (by simp)) (sq (nx _ _ _ _ (by simp)) (AR (r _ (by simp)))))))).trans rfl
theorem MD(hc:xrs.contains c=true):fz (Aj (Al 1 CN) (Ad (fz (Ab 0)) Ai)) [vl (.zT c)]=.ok (.t (.lst (P6 c))) [vl (.zT c)] :=
 Fe (FZ (Ae (Am (Aa rfl)) Au) rfl (by rw[show Dc _ _=[]from rfl];exact sY) (NC hc) (AV rfl))
theorem Mg(h:f fs=.ok (.t (.lst ts)) fs)(e:g (.t (.lst ts)) [.t (.o true)] fs=r):BC g f (Ac (gc (.o true)) Ai) fs=r:=by unfold BC;rw[h];exact e
theorem Jaf(hc:xrs.contains c=true)(h1:Jap (.t (.lst (P6 c))) [.t (.o true)] [vl (.zT c)]=.ok (.t (.int ((1:Nat):Int))) [vl (.zT c)])(h2:Jam (.t (.lst (P6 c))) [.t (.o true)] [vl (.zT c)]=.ok (.t (.int n)) [vl (.zT c)]):Ee [vl (.zT c)]=.ok (.t (.int n)) [vl (.zT c)]:=by
 have v:isV xrs (Ab 0) [vl (.zT c)]=.ok (.t (.o true)) [vl (.zT c)]:=by unfold isV;show(if xrs.contains c=true then okT (.o true) [vl (.zT c)]else .bad)=_;rw[if_pos hc];rfl
 exact(BB (sq (AW (Yo (CO (Cp v)) (Bs (Ak (Am (Mg (MD hc) h1)) AB rfl))) rfl) (AR (Mg (MD hc) h2)))).trans rfl
end
inductive Th where
 |mk (m:Str) (ps:List Th)
def Th.ps:Th->List Th
 |.mk _ ps=>ps
mutual
def Th.t:Th->T
 |.mk m ps=>.tup [.str m,.tup (Th.ts ps)]
def Th.ts:List Th->List T
 | []=>[]
 |h::hs=>h.t::Th.ts hs
end
mutual
def Th.sz:Th->Nat
 |.mk _ ps=>1+Th.szs ps
def Th.szs:List Th->Nat
 | []=>0
 |h::hs=>h.sz+Th.szs hs
end
theorem Th.Ct:∀hs:List Th,Th.ts hs=hs.map Th.t
 | []=>by simp[Th.ts]
 |h::hs=>by simp[Th.ts,Th.Ct hs]
theorem Th.JbM(h:Th):∃m,h.t=.tup [.str m,.tup (h.ps.map Th.t)]:=by cases h with|mk m ps=>exact⟨m,by simp[Th.t,Th.Ct,Th.ps]⟩
theorem N4:∀a b:List Th,Th.szs (a++b)=Th.szs a+Th.szs b
 | [],b=>by simp[Th.szs]
 |h::a,b=>by simp[Th.szs,N4 a b];omega
theorem Xz(h:Th):h.sz=1+Th.szs h.ps:=by cases h;simp[Th.sz,Th.ps]
theorem Iv:∀L:List Th,Th.szs L=L.length+Th.szs (L.flatMap Th.ps)
 | []=>by simp[Th.szs]
 |h::L=>by rw[uj,N4,tj,Th.szs,Xz h,Iv L];omega
theorem UE(L:List Th):L.length<=Th.szs L:=by rw[Iv];omega
mutual
def Th.dp:Th->Nat
 |.mk _ ps=>1+Th.dps ps
def Th.dps:List Th->Nat
 | []=>0
 |h::hs=>max h.dp (Th.dps hs)
end
theorem PR:∀a b:List Th,Th.dps (a++b)=max (Th.dps a) (Th.dps b)
 | [],b=>by simp[Th.dps]
 |h::a,b=>by simp[Th.dps,PR a b,Nat.max_assoc]
theorem SJ(h:Th):h.dp=1+Th.dps h.ps:=by cases h;simp[Th.dp,Th.ps]
theorem My:∀(h:Th)(L:List Th),Th.dps (h::L)=1+Th.dps ((h::L).flatMap Th.ps)
 |h,[]=>by simp[Th.dps,SJ h]
 |h,g::L=>by rw[uj,PR,Th.dps,My g L,SJ h];omega
theorem LM{c}(h:c fs=.ok true fs)(e:b fs=.nx aq):Cd c b (n+1) fs=Cd c b n aq:=by rw[Cd,h];show(match b fs with|.nx fs=>Cd c b n fs|.cnt fs=>_|.brk fs=>_|o=>o)=_;rw[e]
theorem Jv{c}(h:c fs=.ok false fs):Cd c b (n+1) fs=.nx fs:=by rw[Cd,h];rfl
theorem Jby{i}(h0:fs[i]?=some (some (.own (.lst ts))))(h:f fs=.ok (.t (.tup us)) fs)(hl:ts.length+us.length<=big)(e:fs.set i (some (.own (.lst (ts++us))))=aq):AH (BC Nk (Ab i) (Ac f Ai)) fs=.nx aq:=by
 have h2:=Jaj h0;have h3:Cu fs (.n i)=some ts:=by simp only[Cu,h2]
 have h4:Ac f Ai fs=.ok [.t (.tup us)] fs:=Ao h rfl;have h5:Nl (.n i) [.t (.tup us)] fs=.ok (.t .v) aq:=by
  simp only[Nl,h2];rw[if_pos hl];have:FL.putAt fs i (.lst (ts++us))=aq:=by unfold FL.putAt;rw[h0];exact e
  rw[this]
 have h6:BC Nk (Ab i) (Ac f Ai) fs=.ok (.t .v) aq:=by
  unfold BC;rw[(Dw h0)];show(if(Cu fs (.n i)).isSome=true then _ else _)=_;rw[h3,if_pos (show(some ts).isSome=true from rfl),h4];exact(by
  show(match Jan (.n i) [.t (.tup us)] fs with|.bad=>Nl (.n i) [.t (.tup us)] fs|o=>o)=_;exact h5)
 unfold AH;rw[h6];rfl
abbrev Jb1:FS->SO:=AH (BC Nk (Ab 3) (Ac (fz (Ab 5)) Ai))
theorem MI:∀(L:List Th)(ax:List T)(x4 x5:Option Sl),Fre x4->Fre x5->ax.length+Th.szs L<=1000 ->
  ∃y4 y5,Fre y4/\Fre y5/\DX (AY 2 (Af (tgN 4) (Af (tgN 5) AQ))) Jb1 (L.map Th.t) [x0,x1,x2,some (.own (.lst ax)),x4,x5]=.nx [x0,x1,x2,some (.own (.lst (ax++(L.flatMap Th.ps).map Th.t))),y4,y5]
 | [],ax,x4,x5,f4,f5,_=>⟨x4,x5,f4,f5,by simp[DX]⟩
 |h::L,ax,x4,x5,f4,f5,hl=>by
  obtain⟨m,et⟩:=h.JbM;have hz:=Xz h;have aC:=UE h.ps;simp only[Th.szs]at hl;have b1:Jb1 [x0,x1,x2,some (.own (.lst ax)),vl (.str m),vl (.tup (h.ps.map Th.t))]=.nx [x0,x1,x2,some (.own (.lst (ax++h.ps.map Th.t))),vl (.str m),vl (.tup (h.ps.map Th.t))] :=
   Jby rfl (Am (Aa rfl)) (by show _<=1000000;rw[sH];omega) rfl
  obtain⟨y4,y5,k4,k5,g⟩:=MI L (ax++h.ps.map Th.t) (vl (.str m)) (vl (.tup (h.ps.map Th.t))) AG AG (by rw[tM,sH];omega);refine⟨y4,y5,k4,k5,?_⟩;rw[sG,DH (by rw[et];exact DC (by unfold tgN;exact Bn rfl f4) (by unfold tgN;exact Bn rfl f5)) b1,g,uj,tf,tR]
abbrev layB:FS->SO:=(Av (AH (BC Fw (Ab 1) (Ac (Aj Bx (Ac (Ab 2) Ai)) Ai)))
  (Av (AN 3 (An Er Ai))
  (Av (Dr (itU (fz (Ab 2))) (AY 2 (Af (tgN 4) (Af (tgN 5) AQ))) (AH (BC Nk (Ab 3) (Ac (fz (Ab 5)) Ai))))
  (AN 2 (fz (Ab 3))))))
theorem Mi:∀(k:Nat)(L:List Th)(cs:List Int)(x3 x4 x5:Option Sl),Fre x3->Fre x4->Fre x5->Th.szs L<k->cs.length+Th.szs L<=1000 ->
  ∃(jm:List Int)(y2 y3 y4 y5:Option Sl),jm.sum=cs.sum+(Th.szs L:Int)/\jm.length=cs.length+Th.dps L/\Cd (Hj (Ab 2)) layB k [x0,some (.own (.lst (cs.map T.int))),vl (.lst (L.map Th.t)),x3,x4,x5]=.nx [x0,some (.own (.lst (jm.map T.int))),y2,y3,y4,y5]
 |0,L,cs,x3,x4,x5,_,_,_,h,_=>by omega
 |k+1,[],cs,x3,x4,x5,f3,f4,f5,_,_=>⟨cs,vl (.lst []),x3,x4,x5,by simp[Th.szs],by simp[Th.dps],Jv rfl⟩
 |k+1,h::L,cs,x3,x4,x5,f3,f4,f5,hk,hl=>by
  have hf:=Iv (h::L);have hd:=My h L;have bV:(h::L).length=L.length+1:=rfl;generalize hLL:h::L=LL at *;have el:=BP (f:=Ab 2) (fs:=[x0,some (.own (.lst (cs.map T.int))),vl (.lst (LL.map Th.t)),x3,x4,x5]) (Aa rfl) (.inl rfl);rw[sH]at el;have s2:AN 3 (An Er Ai) [x0,some (.own (.lst ((cs++[(LL.length:Int)]).map T.int))),vl (.lst (LL.map Th.t)),x3,x4,x5]=.nx [x0,some (.own (.lst ((cs++[(LL.length:Int)]).map T.int))),vl (.lst (LL.map Th.t)),some (.own (.lst [])),x4,x5] :=
   UM (BU Au rfl (show 0<=big by decide) rfl) (XA rfl f3)
  obtain⟨y4,y5,k4,k5,lp⟩:=MI (x2:=vl (.lst (LL.map Th.t))) LL [] x4 x5 f4 f5 (by simp;omega);have s4:AN 2 (fz (Ab 3)) [x0,some (.own (.lst ((cs++[(LL.length:Int)]).map T.int))),vl (.lst (LL.map Th.t)),some (.own (.lst ((LL.flatMap Th.ps).map Th.t))),y4,y5]=.nx [x0,some (.own (.lst ((cs++[(LL.length:Int)]).map T.int))),vl (.lst ((LL.flatMap Th.ps).map Th.t)),vl (.lst ((LL.flatMap Th.ps).map Th.t)),y4,y5]:=rfl;obtain⟨jm,y2,y3,z4,z5,e1,e0,e2⟩:=Mi (x0:=x0) k (LL.flatMap Th.ps) (cs++[(LL.length:Int)]) (vl (.lst ((LL.flatMap Th.ps).map Th.t))) y4 y5 AG k4 k5 (by omega) (by rw[tM];simp;omega);refine⟨jm,y2,y3,z4,z5,?_,by rw[e0,hd,tM,List.length_singleton];omega,?_⟩
  .rw[e1,List.sum_append,hf];simp;omega
  .rw[LM (by
   subst hLL;rfl) (sq (MK rfl el (by show _<1000000;rw[sH];omega) (by rw[tf];rfl)) (sq s2 (sq (by
   have hi:itU (fz (Ab 2)) [x0,some (.own (.lst ((cs++[(LL.length:Int)]).map T.int))),vl (.lst (LL.map Th.t)),some (.own (.lst [])),x4,x5]=.ok (LL.map Th.t) [x0,some (.own (.lst ((cs++[(LL.length:Int)]).map T.int))),vl (.lst (LL.map Th.t)),some (.own (.lst [])),x4,x5]:=rfl;unfold Dr;rw[hi];rw[tS]at lp;exact lp) s4))),e2]
theorem YL(h:Th)(hz:h.sz<=900):∃cs:List Int,cs.sum=(h.sz:Int)/\cs.length=h.dp/\B7 [vl h.t]=.ok (.nw (.lst (cs.map T.int))) [vl h.t]:=by have e1:Th.szs [h]=h.sz:=rfl;obtain⟨cs,y2,y3,y4,y5,hs,hd,lp⟩:=Mi 1000 [h] [] none none none Aq Aq Aq (by omega) (by simp;omega);rw[e1]at hs;refine⟨cs,by simpa using hs,by simpa[Th.dps]using hd,?_⟩;have s1:AN 1 (An Er Ai) [vl h.t,none,none,none,none,none]=.nx [vl h.t,some (.own (.lst [])),none,none,none,none]:=rfl;have s2:AN 2 (An Cz (Ac (fz (Ab 0)) Ai)) [vl h.t,some (.own (.lst [])),none,none,none,none]=.nx [vl h.t,some (.own (.lst [])),vl (.lst [h.t]),none,none,none] :=rfl;exact(QU (sq s1 (sq s2 (sq lp (AR (Dw rfl))))) rfl).trans rfl
theorem Tr{cs:List Int}(h:f fs=.ok (.t (.lst (cs.map T.int))) aj):Aj T3 (Ac f Ai) fs=.ok (.t (.int cs.sum)) aj:=by refine S4 (Je h Au) ?_;show(match(Cu aj (.t (.lst (cs.map T.int)))).bind BX with|some ns=>okT (.int ns.sum) aj|none=>.bad)=_;rw[show Cu aj (.t (.lst (cs.map T.int)))=some (cs.map T.int)from rfl,tV,Fl];rfl
abbrev RF:List Str:=["program","calls_left","waiting","worths"]
theorem rf_ne:(("calls_left":Str) == "program")=false/\(("waiting":Str) == "program")=false/\(("waiting":Str) == "calls_left")=false/\(("worths":Str) == "program")=false/\(("worths":Str) == "calls_left")=false/\(("worths":Str) == "waiting")=false:=by decide +kernel
variable{x0 x1 x2 x3 y:FO}
theorem Xl:Ba RF [x0,x1,x2,x3] "program"=some x0:=rfl
theorem NR:Ba RF [x0,x1,x2,x3] "calls_left"=some x1:=rfl
theorem Jy:Ba RF [x0,x1,x2,x3] "waiting"=some x2:=rfl
theorem Ds:Ba RF [x0,x1,x2,x3] "worths"=some x3:=rfl
theorem Ts:Bw RF [x0,x1,x2,x3] "waiting" y=[x0,x1,y,x3]:=rfl
theorem IA:Bw RF [x0,x1,x2,x3] "worths" y=[x0,x1,x2,y]:=rfl
theorem Vj:CW RF [x0,.val t,x2,x3] "calls_left" y=some (RF,[x0,y,x2,x3]):=rfl
variable{i:Nat}{aj aq:FS}{iI:List Str}{os ke:List FO}{p:Addr}{us:List T}{fe:FS->Out Rv}
section
variable{gs:List Str}{f:Str}{ts:List T}{t:T}{c:Str}
theorem Tz(h0:fs[i]?=some (some (.bor (.ins C gs os))))(hv:Ba gs os f=some (.la p (ts++[t])))(e:fs.set i (some (.bor (.ins C gs (Bw gs os f (.la p ts)))))=aq):fz (Ho C f i) fs=.ok (.t t) aq:=by refine IZ ?_;unfold Ho;rw[J2 h0];simp only[hv,if_true,List.getLast?_concat,List.dropLast_concat];rw[show FL.putAt fs i (.ins C gs (Bw gs os f (.la p ts)))=aq by unfold FL.putAt;rw[h0];exact e]
theorem Qn(h0:fs[i]?=some (some (.bor (.ins C gs os))))(hv:Ba gs os f=some (.la p us))(he:fe fs=.ok (.t t) aj)(h1:aj[i]?=some (some (.bor (.ins C iI ke))))(qS:Ba iI ke f=some (.la p ts))(hl:ts.length<100000)
  (e:aj.set i (some (.bor (.ins C iI (Bw iI ke f (.la p (ts++[t]))))))=aq):AH (DJ C f i fe) fs=.nx aq:=by
 refine Dz (r:=.t .v) ?_;unfold DJ;rw[J2 h0];simp only[hv,if_true,he];show(match Rv.t t,FL.AK aj i with|.t t,some (.ins C2 jt kL)=>_|_,_=>_)=_;rw[J2 h1];simp only[qS,if_true];rw[if_pos ⟨trivial,(show ts.length<1000000 by omega)⟩];rw[show FL.putAt aj i (.ins C iI (Bw iI ke f (.la p (ts++[t]))))=aq by unfold FL.putAt;rw[h1];exact e]
theorem W3(h0:fs[i]?=some (some (.bor (.ins C gs os))))(hv:Ba gs os f=some (.la p us))(he:fe fs=.exc c aj):AH (DJ C f i fe) fs=.exc c aj:=by refine Kp ?_;unfold DJ;rw[J2 h0];simp only[hv,if_true,he];rfl
theorem Tq(h0:fs[i]?=some (some (.bor (.ins C gs os))))(hv:Ba gs os f=some (.la p ts)):MT C f i fs=.ok (!ts.isEmpty) fs:=by unfold MT;rw[J2 h0];simp only[hv,if_true]
theorem Zm(h0:fs[i]?=some (some (.bor (.ins C gs os))))(hv:Ba gs os f=some (.val t)):CL C f (Ab i) fs=.ok (.t t) fs:=by unfold CL;rw[FV h0];show Sg C f (.n i) fs=_;simp only[Sg,J2 h0,if_true,hv];rfl
theorem tg{j}(e:fs[j]?=some x)(h:Fre x):tgN j t fs=some (fs.set j (vl t)):=by unfold tgN;exact Bn e h
end
def wt(h:Th):T:=.tup [h.t,.int (h.sz:Int),.int (h.dp:Int)]
theorem E2(h:Th)(hz:h.sz<=900):BR [vl h.t]=.ok (.t (wt h)) [vl h.t]:=by obtain⟨cs,hs,hd,e⟩:=YL h hz;have l:=BP (f:=Ab 1) (fs:=[vl h.t,vl (.lst (cs.map T.int))]) (ts:=cs.map T.int) (Aa rfl) (.inl rfl);rw[sH,hd]at l;have s:=Tr (f:=Ab 1) (fs:=[vl h.t,vl (.lst (cs.map T.int))]) (cs:=cs) (Aa rfl);rw[hs]at s;exact(BB (n:=1) (g:=KO) (args:=[vl h.t]) (sq (AL (Fe (FZ (Ae (Am (Aa rfl)) Au) rfl (by rw[show Dc _ _=[]from rfl];exact sY) e (AV rfl))) rfl) (AR (BU (g:=Ar) (ts:=[h.t,.int h.sz,.int h.dp]) (Ao (Am (Aa rfl)) (Ao s (Ao l Au))) rfl (show 3<=big by decide) rfl)))).trans rfl
theorem Om{j}:∀(ts:List T)(k:Nat),FL.placeOf fs j (ts.map Ini.val) k=none
 | [],_=>rfl
 |t::ts,k=>by simp only[sG,FL.placeOf,BO];exact Om ts (k+1)
theorem Qh:∀(gs:FS)(j:Nat),(∀k,j<=k->FL.placeOf fs k is 0=none)->Hz fs is τ j gs=some gs
 | [],_,_=>rfl
 |s::gs,j,h=>by simp only[Hz,LH,h j (sV _),Qh gs (j+1) λk hk=>h k (by omega)]
variable{o1 o2:FO}{rest:FS}
section
variable{ts:List T}
theorem Qi:D3 (.slot 0::ts.map Ini.val) (some (.bor o2)::τ) (some (.bor o1)::rest)=some (some (.bor o2)::rest):=by
 have hl:BO (some (.bor o1)::rest) (.slot 0)=some 0:=rfl;have h0:FL.placeOf (some (.bor o1)::rest) 0 (.slot 0::ts.map Ini.val) 0=some 0:=rfl;unfold D3;rw[Hz,Qh rest 1 (λk hk=>by
  have:¬(0:Nat)=k:=by omega
  simp[FL.placeOf,hl,this,Om])]
 simp only[LH,h0];rfl
theorem Pa{fs:FS}:∀ts:List T,B1 fs (ts.map Ini.val)=ts.map vl
 | []=>rfl
 |t::ts=>by have:=Pa (fs:=fs) ts;unfold B1 at this ⊢;simp only[sG,V2,this]
theorem J3{fs:FS}:∀ts:List T,Dc fs (ts.map Ini.val)=[]
 | []=>rfl
 |t::ts=>by have:=J3 (fs:=fs) ts;unfold Dc at this ⊢;simp only[sG,ug,BO,this]
theorem RM(ts:List T):(ts.map Rv.t).map Bj=ts.map Ini.val:=by rw[tU];rfl
end
variable{m:Str}{p:Nat}{aP:FS}
section
variable{gs:List Str}{ts:List T}{t:T}{c:Str}
theorem VO(hi:gs.any (·==m)=false)(ha:fa (some (.bor (.ins C gs os))::rest)=.ok (ts.map Rv.t) (some (.bor o1)::aP))(hp:ts.length+1=p)
  (he:(match x with|.ok (.t t) τ=>(match D3 (.slot 0::ts.map Ini.val) τ (some (.bor o1)::aP)with|some aq=>.ok (.t t) aq|none=>.bad)|.ok (.nw o) τ=>(match D3 (.slot 0::ts.map Ini.val) τ (some (.bor o1)::aP)with|some aq=>.ok (.nw o) aq|none=>.bad)|.exc c τ=>(match D3 (.slot 0::ts.map Ini.val) τ (some (.bor o1)::aP)with|some aq=>.exc c aq|none=>.bad)|_=>.bad)=r) (hf:Fn (some (.bor o1)::ts.map vl)=x):BH C m p Fn (Ab 0) fa (some (.bor (.ins C gs os))::rest)=r:=by
 unfold BH;rw[FV rfl];show(if DU C m (some (.bor (.ins C gs os))::rest) (.n 0)=true then _ else _)=_;rw[if_pos (by simp[DU,J2 (i:=0) (fs:=some (.bor (.ins C gs os))::rest) rfl,hi]),ha];show Al p Fn (.n 0::ts.map Rv.t) (some (.bor o1)::aP)=_;unfold Al;rw[if_pos (by simpa using hp)];unfold El;have ei:(Rv.n 0::ts.map Rv.t).map Bj=.slot 0::ts.map Ini.val:=by rw[sG,RM];rfl
 have en:Dc (some (.bor o1)::aP) (.slot 0::ts.map Ini.val)=[0]:=by have:=J3 (fs:=some (.bor o1)::aP) ts;unfold Dc at this ⊢;rw[ug,this];rfl
 have es:B1 (some (.bor o1)::aP) (.slot 0::ts.map Ini.val)=some (.bor o1)::ts.map vl:=by have:=Pa (fs:=some (.bor o1)::aP) ts;unfold B1 at this ⊢;rw[sG,this];rfl
 rw[ei,en,if_pos (by simp),es,hf];exact he
theorem ON(hi:gs.any (·==m)=false)(ha:fa (some (.bor (.ins C gs os))::rest)=.ok (ts.map Rv.t) (some (.bor o1)::aP))(hp:ts.length+1=p)
  (hf:Fn (some (.bor o1)::ts.map vl)=.ok (.t t) (some (.bor o2)::τ)):BH C m p Fn (Ab 0) fa (some (.bor (.ins C gs os))::rest)=.ok (.t t) (some (.bor o2)::aP) :=
 VO hi ha hp (by simp only[Qi]) hf
theorem Rw(hi:gs.any (·==m)=false)(ha:fa (some (.bor (.ins C gs os))::rest)=.ok (ts.map Rv.t) (some (.bor o1)::aP))(hp:ts.length+1=p)
  (hf:Fn (some (.bor o1)::ts.map vl)=.ok (.nw o) (some (.bor o2)::τ)):BH C m p Fn (Ab 0) fa (some (.bor (.ins C gs os))::rest)=.ok (.nw o) (some (.bor o2)::aP) :=
 VO hi ha hp (by simp only[Qi]) hf
theorem OO(hi:gs.any (·==m)=false)(ha:fa (some (.bor (.ins C gs os))::rest)=.ok (ts.map Rv.t) (some (.bor o1)::aP))(hp:ts.length+1=p)
  (hf:Fn (some (.bor o1)::ts.map vl)=.exc c (some (.bor o2)::τ)):BH C m p Fn (Ab 0) fa (some (.bor (.ins C gs os))::rest)=.exc c (some (.bor o2)::aP) :=
 VO hi ha hp (by simp only[Qi]) hf
end
def XQ(cR:Addr)(P:T)(a b:Addr)(n:Int)(w W:List T):FO:=.ins cR RF [.val P,.val (.int n),.la a w,.la b W]
def wi(e ρ:T)(d:Int)(r:Bool):T:=.tup [e,ρ,.int d,.o r]
variable{cP cR a b:Addr}{P:T}{w:List T}
section
variable{n:Int}{W:List T}
abbrev bO(cR:Addr)(P:T)(a b:Addr)(n:Int)(w W:List T):Option Sl:=some (.bor (XQ cR P a b n w W))
theorem HF{x1}:∀(us:List T)(k:Int)(ax:List T)(x3:Option Sl),Fre x3->ax.length+us.length<=1000->∃y3,DX (tgN 3) (AH (BC Fw (Ab 2) (Ac (fz (Ho cR "worths" 0)) Ai))) ((List.range us.length).map λi=>T.int (k+(i:Nat))) [bO cR P a b n w (W++us.reverse),x1,some (.own (.lst ax)),x3]=.nx [bO cR P a b n w W,x1,some (.own (.lst (ax++us))),y3]
 | [],k,ax,x3,_,_=>⟨x3,by simp[DX]⟩
 |u::us,k,ax,x3,f3,hl=>by
  rw[tj]at hl;obtain⟨y3,e⟩:=HF us (k+1) (ax++[u]) (vl (.int k)) AG (by rw[tM];simp;omega);refine⟨y3,?_⟩;have b1:AH (BC Fw (Ab 2) (Ac (fz (Ho cR "worths" 0)) Ai)) [bO cR P a b n w (W++(u::us).reverse),x1,some (.own (.lst ax)),vl (.int k)]=.nx [bO cR P a b n w (W++us.reverse),x1,some (.own (.lst (ax++[u]))),vl (.int k)] :=
   Z7 rfl (Tz rfl (by rw[Ds,uJ,tR]) (by rw[IA])) rfl (by show _<1000000;omega) rfl
  have hr:((List.range (u::us).length).map λi=>T.int (k+(i:Nat)))=.int k::(List.range us.length).map λi=>T.int (k+1+(i:Nat)):=by
   rw[tj,List.range_succ_eq_map,sG,tU];refine congr (congrArg _ (by simp)) (List.map_congr_left λi _=>?_);show T.int _=T.int _;congr 1
   push_cast
   omega
  rw[hr,DH (tg rfl f3) b1,e,tR];rfl
theorem taken(vs:List T)(hl:vs.length<=1000):B4 cR [bO cR P a b n w (W++vs),iv (vs.length:Int)]=.ok (.nw (.lst vs)) [bO cR P a b n w W,iv (vs.length:Int)]:=by
 obtain⟨y3,lp⟩:=HF (W:=W) vs.reverse 0 [] none Aq (by simpa using hl);rw[List.reverse_reverse,uM,tS]at lp;have s3:retS (Jag (Ab 2)) [bO cR P a b n w W,iv (vs.length:Int),some (.own (.lst vs.reverse)),y3]=.ret (.nw (.lst vs)) [bO cR P a b n w W,iv (vs.length:Int),some (.own (.lst vs.reverse)),y3]:=by refine AR ?_;unfold Jag;rw[Dw rfl];simp only[Out.bnd,Out.bind,XH (i:=2) (fs:=[bO cR P a b n w W,iv (vs.length:Int),some (.own (.lst vs.reverse)),y3]) (ts:=vs.reverse) rfl,List.reverse_reverse]
 have up:FL.upTo 0 vs.length=(List.range vs.length).map λi=>T.int ((0:Int)+(i:Nat)):=rfl
 refine(K4 (n:=2) (g:=He cR) (args:=[bO cR P a b n w (W++vs),iv (vs.length:Int)]) (sq rfl (sq (I0 (n:=vs.length) (Ao (Aa rfl) Au) (by omega) (by rw[up];exact lp)) s3))).trans rfl
end
theorem JbD{hs:List Th}(h:fs[i]?=some (vl (.lst (hs.map wt))))(he:∀h∈hs,fe [vl (wt h)]=.ok (.t (q h)) [vl (wt h)])(hl:hs.length<=1000):Ck false [none] (itU (fz (Ab i))) (tgN 0) E1 fe fs=.ok (.t (.lst (hs.map q))) fs:=by obtain⟨y,_,e⟩:=ER hs none [] Aq he (by show _<=1000000;simp;omega);have e3:=DZ (src:=[none]) (fi:=itU (fz (Ab i))) (fs:=fs) (ts:=hs.map wt) (GC (Am (Aa h))) ⟨sY,rfl⟩ e (AV rfl);rw[tS]at e3;exact e3
theorem N0:∀hs:List Th,(hs.map λh=>(h.sz:Int)).sum=(Th.szs hs:Int)
 | []=>rfl
 |h::hs=>by rw[sG,List.sum_cons,N0 hs,Th.szs];omega
theorem fold_max:∀(hs:List Th)(k:Nat),(hs.map λh=>(h.dp:Int)).foldl mxF (k:Int)=((max k (Th.dps hs):Nat):Int)
 | [],k=>by simp[Th.dps]
 |h::hs,k=>by
  rw[sG,List.foldl_cons];have e:mxF (k:Int) (h.dp:Int)=((max k h.dp:Nat):Int):=by unfold mxF;split<;>omega
  rw[e,fold_max hs,Th.dps];omega
theorem WI(hs:List Th):mxD 0 (hs.map λh=>(h.dp:Int))=(Th.dps hs:Int):=by cases hs with|nil=>rfl|cons h hs =>show(hs.map λh=>(h.dp:Int)).foldl mxF (h.dp:Int)=_;rw[fold_max,Th.dps]
theorem ix(h:f fs=.ok (.t (.tup ts)) fs)(e:ts[i]?=some t):Ag AF f (gc (.int (i:Int))) fs=.ok (.t t) fs:=by refine Ak h AB ?_;simp only[AF,orG,gIx,exL,K3,Cu,(DB e)];rfl
def fits(h:Th):Bool:=decide (h.sz<=300/\h.dp<=40)
abbrev mdL(m:Str)(hs:List Th):FS:=[vl (.str m),vl (.lst (hs.map wt))]
theorem Uv(i:Nat)(t:T)(e:[h.t,.int (h.sz:Int),.int (h.dp:Int)][i]?=some t):Ag AF (Ab 0) (gc (.int (i:Int))) [vl (wt h)]=.ok (.t t) [vl (wt h)]:=ix (Aa rfl) e
theorem made(m:Str)(hs:List Th)(hl:hs.length<=1000):Kl (mdL m hs)=if fits (.mk m hs)=true then .ok (.t (wt (.mk m hs))) (mdL m hs)else .exc "TooLong" (mdL m hs):=by
 have es:(Th.mk m hs).sz=1+Th.szs hs:=rfl;have ed:(Th.mk m hs).dp=1+Th.dps hs:=rfl;have s2:∀x3,AN 2 (Ag Ay (gc (.int 1)) (Aj T3 (Ac (Ck false [none] (itU (fz (Ab 1))) (tgN 0) E1 (Ag AF (Ab 0) (gc (.int 1)))) Ai))) [vl (.str m),vl (.lst (hs.map wt)),none,x3]=.nx [vl (.str m),vl (.lst (hs.map wt)),iv ((Th.mk m hs).sz:Int),x3]:=λx3=>by have c:=JbD (i:=1) (fs:=[vl (.str m),vl (.lst (hs.map wt)),none,x3]) rfl (λh _=>Uv 1 _ rfl) hl;have c':Aj T3 (Ac (Ck false [none] (itU (fz (Ab 1))) (tgN 0) E1 (Ag AF (Ab 0) (gc (.int 1)))) Ai) [vl (.str m),vl (.lst (hs.map wt)),none,x3]=.ok (.t (.int (hs.map λh=>(h.sz:Int)).sum)) [vl (.str m),vl (.lst (hs.map wt)),none,x3]:=Tr (by rw[tU];exact c);rw[N0]at c';exact AL (Ak AB c' (by rw[Br,es];push_cast;rfl)) rfl
 have s3:AN 3 (Ag Ay (gc (.int 1)) (maxD 0 (Ac (Ck false [none] (itU (fz (Ab 1))) (tgN 0) E1 (Ag AF (Ab 0) (gc (.int 2)))) Ai))) [vl (.str m),vl (.lst (hs.map wt)),iv ((Th.mk m hs).sz:Int),none]=.nx [vl (.str m),vl (.lst (hs.map wt)),iv ((Th.mk m hs).sz:Int),iv ((Th.mk m hs).dp:Int)]:=by
  have c:=JbD (i:=1) (fs:=[vl (.str m),vl (.lst (hs.map wt)),iv ((Th.mk m hs).sz:Int),none]) (hs:=hs) (fe:=Ag AF (Ab 0) (gc (.int ((2:Nat):Int)))) (q:=λh=>.int (h.dp:Int)) rfl (λh _=>Uv 2 _ rfl) hl;exact AL (t:=.int ((Th.mk m hs).dp:Int)) (Ak AB (by
   unfold maxD;have c2:Ac (Ck false [none] (itU (fz (Ab 1))) (tgN 0) E1 (Ag AF (Ab 0) (gc (.int 2)))) Ai [vl (.str m),vl (.lst (hs.map wt)),iv ((Th.mk m hs).sz:Int),none]=.ok [.t (.lst (hs.map λh=>T.int (h.dp:Int)))] [vl (.str m),vl (.lst (hs.map wt)),iv ((Th.mk m hs).sz:Int),none]:=Ao c Au;rw[c2];have ei:BX (hs.map λh=>T.int (h.dp:Int))=some (hs.map λh=>(h.dp:Int)):=by have:=Fl (hs.map λh=>(h.dp:Int));rwa[tU]at this
   simp only[Out.bind,Cu,tV,ei,WI];rfl) (by rw[Br,ed];push_cast;rfl)) rfl
 have tt:orT (asB (Ag gGt (Ab 2) (gc (.int 300)))) (asB (Ag gGt (Ab 3) (gc (.int 40)))) [vl (.str m),vl (.lst (hs.map wt)),iv ((Th.mk m hs).sz:Int),iv ((Th.mk m hs).dp:Int)]=.ok (!fits (.mk m hs)) [vl (.str m),vl (.lst (hs.map wt)),iv ((Th.mk m hs).sz:Int),iv ((Th.mk m hs).dp:Int)]:=by
  unfold orT;rw[(RU (fa:=Ab 2) (fb:=gc (.int 300)) (fs:=[vl (.str m),vl (.lst (hs.map wt)),iv ((Th.mk m hs).sz:Int),iv ((Th.mk m hs).dp:Int)]) (a:=((Th.mk m hs).sz:Int)) (b:=300) (Aa rfl) AB)];unfold fits;by_cases h1:(300:Int)<((Th.mk m hs).sz:Int)
  .have h2:¬((Th.mk m hs).sz<=300/\(Th.mk m hs).dp<=40):=by omega
   simp[Out.bind,h1,h2]
  .have h3:(Th.mk m hs).sz<=300:=by omega
   simp only[Out.bind,h1,decide_false,h3,true_and];rw[(RU (fa:=Ab 3) (fb:=gc (.int 40)) (fs:=[vl (.str m),vl (.lst (hs.map wt)),iv ((Th.mk m hs).sz:Int),iv ((Th.mk m hs).dp:Int)]) (a:=((Th.mk m hs).dp:Int)) (b:=40) (Aa rfl) AB)];by_cases h4:(Th.mk m hs).dp<=40
   .have h5:¬(40:Int)<((Th.mk m hs).dp:Int):=by omega
    simp[h4,h5]
   .have h5:(40:Int)<((Th.mk m hs).dp:Int):=by omega
    simp[h4,h5]
 cases hf:fits (.mk m hs)with|false =>rw[hf]at tt;rw[if_neg (by simp)];exact(EE (n:=2) (g:=Qj) (args:=mdL m hs) (sq (s2 none) (sq s3 (FK (DV tt rfl))))).trans rfl|true =>rw[hf]at tt;rw[if_pos rfl];have tp:Aj BQ (Ac (Ck false [none] (itU (fz (Ab 1))) (tgN 0) E1 (Ag AF (Ab 0) (gc (.int 0)))) Ai) [vl (.str m),vl (.lst (hs.map wt)),iv ((Th.mk m hs).sz:Int),iv ((Th.mk m hs).dp:Int)]=.ok (.t (.tup (hs.map Th.t))) [vl (.str m),vl (.lst (hs.map wt)),iv ((Th.mk m hs).sz:Int),iv ((Th.mk m hs).dp:Int)]:=BV (Ao (JbD (i:=1) (fs:=[vl (.str m),vl (.lst (hs.map wt)),iv ((Th.mk m hs).sz:Int),iv ((Th.mk m hs).dp:Int)]) (hs:=hs) (fe:=Ag AF (Ab 0) (gc (.int ((0:Nat):Int)))) (q:=λh=>h.t) rfl (λh _=>Uv 0 _ rfl) hl) Au) rfl;exact(BB (n:=2) (g:=Qj) (args:=mdL m hs) (sq (s2 none) (sq s3 (sq (AW tt rfl) (AR (BU (g:=Ar) (ts:=[(Th.mk m hs).t,.int ((Th.mk m hs).sz:Int),.int ((Th.mk m hs).dp:Int)]) (Ao (BU (g:=Ar) (ts:=[.str m,.tup (hs.map Th.t)]) (r:=.ok (.t (Th.mk m hs).t) [vl (.str m),vl (.lst (hs.map wt)),iv ((Th.mk m hs).sz:Int),iv ((Th.mk m hs).dp:Int)]) (Ao (f:=fz (Ab 0)) (Am (Aa rfl)) (Ao tp Au)) rfl (show 2<=big by decide) (by simp only[Th.t,Th.Ct];rfl)) (Ao (Am (Aa rfl)) (Ao (Am (Aa rfl)) Au))) rfl (show 3<=big by decide) rfl)))))).trans rfl
section
variable{n:Int}{W:List T}
theorem Td(he:e (bO cR P a b n w W::rest)=.ok (.t t) (bO cR P a b n w W::rest))(hl:w.length<100000):AH (DJ cR "waiting" 0 e) (bO cR P a b n w W::rest)=.nx (bO cR P a b n (w++[t]) W::rest) :=
 Qn rfl Jy he rfl Jy hl (by rw[Ts];rfl)
theorem SM(h1:f1 fs=.ok (.t e) fs)(h2:f2 fs=.ok (.t ρ) fs)(h3:f3 fs=.ok (.t (.int d)) fs):An Ar (Ac f1 (Ac f2 (Ac f3 (Ac (gc (.o r)) Ai)))) fs=.ok (.t (wi e ρ d r)) fs :=
 BU (Ao h1 (Ao h2 (Ao h3 (Ao AB Au)))) rfl (show 4<=big by decide) rfl
theorem KR:∀(ts:List T)(w:List T)(x4:Option Sl),Fre x4->w.length+ts.length<=90000->∃y4,DX (tgN 4) (AH (DJ cR "waiting" 0 (An Ar (Ac (fz (Ab 4)) (Ac (fz (Ab 2)) (Ac (fz (Ab 3)) (Ac (gc (.o false)) Ai))))))) ts [bO cR P a b n w W,vl e,vl ρ,iv d,x4]=.nx [bO cR P a b n (w++ts.map λt=>wi t ρ d false) W,vl e,vl ρ,iv d,y4]
 | [],w,x4,_,_=>⟨x4,by simp[DX]⟩
 |t::ts,w,x4,f4,hl=>by rw[tj]at hl;obtain⟨y4,e1⟩:=KR (ρ:=ρ) ts (w++[wi t ρ d false]) (vl t) AG (by rw[tM];simp;omega);refine⟨y4,?_⟩;rw[DH (tg rfl f4) (Td (SM (Am (Aa rfl)) (Am (Aa rfl)) (Am (Aa rfl))) (by omega))];show DX _ _ ts [bO cR P a b n (w++[wi t ρ d false]) W,vl e,vl ρ,iv d,vl t]=_;rw[e1,tR];rfl
theorem AI(hl:w.length+as.length<=80000):
  A3 cR [bO cR P a b n w W,vl (.tup [f,h,.tup as]),vl ρ,iv d]=.ok (.t .v) [bO cR P a b n (w++[wi (.tup [f,h,.tup as]) ρ d true]++as.reverse.map λt=>wi t ρ d false) W,vl (.tup [f,h,.tup as]),vl ρ,iv d]:=by
 obtain⟨y4,lp⟩:=KR (ρ:=ρ) as.reverse (w++[wi (.tup [f,h,.tup as]) ρ d true]) none Aq (by rw[tM,uM];simp;omega);have hi:Jba (Ag AF (Ab 1) (gc (.int 2))) [bO cR P a b n (w++[wi (.tup [f,h,.tup as]) ρ d true]) W,vl (.tup [f,h,.tup as]),vl ρ,iv d,none]=.ok as.reverse [bO cR P a b n (w++[wi (.tup [f,h,.tup as]) ρ d true]) W,vl (.tup [f,h,.tup as]),vl ρ,iv d,none]:=rfl;have all:Bv cR [bO cR P a b n w W,vl (.tup [f,h,.tup as]),vl ρ,iv d,none]=.nx [bO cR P a b n (w++[wi (.tup [f,h,.tup as]) ρ d true]++as.reverse.map λt=>wi t ρ d false) W,vl (.tup [f,h,.tup as]),vl ρ,iv d,y4]:=by refine sq (Td (SM (Am (Aa rfl)) (Am (Aa rfl)) (Am (Aa rfl))) (by omega)) ?_;unfold Dr;rw[hi];exact lp
 show Bo 1 (Bv cR) [bO cR P a b n w W,vl (.tup [f,h,.tup as]),vl ρ,iv d]=_;unfold Bo;rw[show [bO cR P a b n w W,vl (.tup [f,h,.tup as]),vl ρ,iv d]++List.replicate 1 none=[bO cR P a b n w W,vl (.tup [f,h,.tup as]),vl ρ,iv d,none]from rfl,all];rfl
end
theorem Ru(ho:fo fs=.ok (.t x) aj)(hi:DU C m aj (.t x)=true)(ha:fa aj=.ok (ts.map Rv.t) aA)(hp:ts.length+1=p)(hf:Fn ((x::ts).map vl)=.ok (.t t) τ):BH C m p Fn fo fa fs=.ok (.t t) aA:=by unfold BH;rw[ho];show(if DU C m aj (.t x)=true then _ else _)=_;rw[if_pos hi,ha];show Al p Fn ((x::ts).map Rv.t) aA=_;have e1:=RM (x::ts);exact MG (by simpa using hp) (by rw[e1];exact J3 _) (by rw[e1,Pa];exact hf)
theorem keys_map:∀xs:List Str,Hl (xs.map T.str)=some (xs.map λx=>(.inr x:Key))
 | []=>rfl
 |x::xs=>by simp only[sG,Hl,HG,keys_map xs];rfl
def Ez(xs:List Str)(hs:List Th):T:=.l (xs.map λx=>(.inr x:Key)) (hs.map wt)
variable{ps rest:List Th}{body:T}
section
variable{n:Int}{W:List T}{f:Str}{d:Int}{xs:List Str}
abbrev abS(cR:Addr)(P:T)(a b:Addr)(n:Int)(w W:List T)(f:Str)(hs:List Th)(d:Int):FS:=[bO cR P a b n w W,vl (.str f),vl (.lst (hs.map wt)),iv d]
theorem Lo:asB (Ag gLe (CL cR "calls_left" (Ab 0)) (gc (.int 0))) (bO cR P a b n w W::x)=.ok (decide (n<=0)) (bO cR P a b n w W::x) :=
 Bs (Ak (Zm rfl NR) AB rfl)
theorem S5(h:n<=0)(hs:List Th):AX cP cR (abS cR P a b n w W f hs d)=.exc "TooLong" (abS cR P a b n w W f hs d):=by have c:=Lo (cR:=cR) (P:=P) (a:=a) (b:=b) (n:=n) (w:=w) (W:=W) (x:=[vl (.str f),vl (.lst (hs.map wt)),iv d,none,none,none,none,none]);rw[tw h]at c;exact(EE (n:=5) (g:=Bp cP cR) (args:=abS cR P a b n w W f hs d) (FK (DV c rfl))).trans rfl
theorem Qf(h:0<n)(hd:20<d)(hs:List Th):AX cP cR (abS cR P a b n w W f hs d)=.exc "TooLong" (abS cR P a b n w W f hs d):=by have c:=Lo (cR:=cR) (P:=P) (a:=a) (b:=b) (n:=n) (w:=w) (W:=W) (x:=[vl (.str f),vl (.lst (hs.map wt)),iv d,none,none,none,none,none]);rw[tB (by omega)]at c;exact(EE (n:=5) (g:=Bp cP cR) (args:=abS cR P a b n w W f hs d) (sq (AW c rfl) (FK (DV (by have:=RU (fa:=Ab 3) (fb:=gc (.int 20)) (fs:=abS cR P a b n w W f hs d++[none,none,none,none,none]) (a:=d) (b:=20) (Aa rfl) AB;rwa[tw hd]at this) rfl)))).trans rfl
theorem UG:N5 cR "calls_left" 0 1 (bO cR P a b n w W::x)=.nx (bO cR P a b (n-1) w W::x):=by unfold N5;rw[J2 rfl];simp only[XQ,NR,Vj];rfl
theorem Bq(hn:0<n)(hd:d<=20)(hP:∀fs,DU cP "row" fs (.t P)=true)(iV:Bl cP [vl P,vl (.str f),vl (.str m)]=.ok (.t (.tup [.tup (xs.map T.str),body])) [vl P,vl (.str f),vl (.str m)])
  (hx:xs.Nodup) (lV:xs.length=ps.length+rest.length) (hz:∀h∈ps,h.sz<=900) (hl:ps.length+rest.length<=100) (hw:w.length<=80000) :
  AX cP cR (abS cR P a b n w W f (.mk m ps::rest) d)=.ok (.t .v) (abS cR P a b (n-1) (w++[wi body (Ez xs (ps++rest)) (d+1) false]) W f (.mk m ps::rest) d):=by
 generalize hA:((Th.mk m ps::rest).map wt)=A;have c:=Lo (cR:=cR) (P:=P) (a:=a) (b:=b) (n:=n) (w:=w) (W:=W) (x:=[vl (.str f),vl (.lst A),iv d,none,none,none,none,none]);rw[tB (by omega)]at c;have s6:AN 8 (fz (Ag Ay (Ck false [none] (itU (fz (Ab 5))) (tgN 0) E1 (fz (Aj (Al 1 BR) (Ad (fz (Ab 0)) Ai)))) (slF (Ab 2) (C8 (gc (.int 1))) noP))) [bO cR P a b (n-1) w W,vl (.str f),vl (.lst A),iv d,vl (.str m),vl (.tup (ps.map Th.t)),vl (.tup (xs.map T.str)),vl body,none]=.nx [bO cR P a b (n-1) w W,vl (.str f),vl (.lst A),iv d,vl (.str m),vl (.tup (ps.map Th.t)),vl (.tup (xs.map T.str)),vl body,vl (.lst ((ps++rest).map wt))]:=by
  generalize hF:[bO cR P a b (n-1) w W,vl (.str f),vl (.lst A),iv d,vl (.str m),vl (.tup (ps.map Th.t)),vl (.tup (xs.map T.str)),vl body,none]=F;obtain⟨y,_,e⟩:=ER (fe:=fz (Aj (Al 1 BR) (Ad (fz (Ab 0)) Ai))) (p:=Th.t) (q:=wt) (rest:=[]) ps none [] Aq (λh mh=>Am (BY (rs:=[.t h.t]) (Ae (Am (Aa rfl)) Au) rfl rfl (E2 h (hz h mh)))) (by show _<=1000000;simp;omega);have e1:=DZ (src:=[none]) (fi:=itU (fz (Ab 5))) (fs:=F) (ts:=ps.map Th.t) (O5 (Am (Aa (by subst hF;rfl)))) ⟨sY,rfl⟩ e (AV rfl);rw[tS]at e1;have e2:=LU (f:=Ab 2) (g:=gc (.int 1)) (fs:=F) (ts:=A) (v:=1) (Aa (by subst hF;rfl)) AB (by decide) (by rw[<- hA];simp);have e3:A.drop (1:Int).toNat=rest.map wt:=by rw[<- hA];rfl
  rw[e3]at e2;refine AL (t:=.lst ((ps++rest).map wt)) ?_ (by subst hF;rfl);rw[tf];exact GY e1 e2 (by show _<=1000000;rw[sH,sH];omega)
 have s7:AH (DJ cR "waiting" 0 (An Ar (Ac (fz (Ab 7)) (Ac (fz (NA (Ac (Ab 6) (Ac (Ab 8) Ai)))) (Ac (Ag Ay (Ab 3) (gc (.int 1))) (Ac (gc (.o false)) Ai)))))) [bO cR P a b (n-1) w W,vl (.str f),vl (.lst A),iv d,vl (.str m),vl (.tup (ps.map Th.t)),vl (.tup (xs.map T.str)),vl body,vl (.lst ((ps++rest).map wt))]=.nx [bO cR P a b (n-1) (w++[wi body (Ez xs (ps++rest)) (d+1) false]) W,vl (.str f),vl (.lst A),iv d,vl (.str m),vl (.tup (ps.map Th.t)),vl (.tup (xs.map T.str)),vl body,vl (.lst ((ps++rest).map wt))]:=by refine Td (SM (Am (Aa rfl)) ?_ (Ak (Aa rfl) AB Br)) (by omega);refine Fe (o:=.l (xs.map λx=>(.inr x:Key)) ((ps++rest).map wt)) ?_;unfold NA;rw[Ao (f:=Ab 6) (t:=.tup (xs.map T.str)) (Aa rfl) (Ao (f:=Ab 8) (t:=.lst ((ps++rest).map wt)) (Aa rfl) Au)];simp only[Out.bind,QQ,keys_map];rw[if_pos ⟨Di hx,by rw[sH,sH,tM];exact lV⟩]
 have all:Bp cP cR [bO cR P a b n w W,vl (.str f),vl (.lst A),iv d,none,none,none,none,none]=_:=sq (AW c rfl) (sq (AW (JbY (a:=d) (b:=20) (Aa rfl) AB (by omega)) rfl) (sq UG (sq (by
  have e0:Ag AF (Ab 2) (gc (.int 0)) [bO cR P a b (n-1) w W,vl (.str f),vl (.lst A),iv d,none,none,none,none,none]=.ok (.t (wt (.mk m ps))) [bO cR P a b (n-1) w W,vl (.str f),vl (.lst A),iv d,none,none,none,none,none] :=
   Ak (Aa rfl) AB (Ec (ts:=A) rfl (by rw[<- hA];exact DB (j:=0) rfl))
  have e1:Ag AF (Ag AF (Ab 2) (gc (.int 0))) (gc (.int 0)) [bO cR P a b (n-1) w W,vl (.str f),vl (.lst A),iv d,none,none,none,none,none]=.ok (.t (.tup [.str m,.tup (ps.map Th.t)])) [bO cR P a b (n-1) w W,vl (.str f),vl (.lst A),iv d,none,none,none,none,none] :=
   ix (i:=0) (ts:=[(Th.mk m ps).t,.int ((Th.mk m ps).sz:Int),.int ((Th.mk m ps).dp:Int)]) e0 (by simp only[Th.t,Th.Ct];rfl)
  exact Z5 e1 rfl rfl) (sq (Z5 (IZ (Ru (x:=P) (ts:=[.str f,.str m]) (Zm (C:=cR) (gs:=RF) (os:=[.val P,.val (.int (n-1)),.la a w,.la b W]) rfl Xl) (hP _) (Ae (Am (Aa rfl)) (Ae (Am (Aa rfl)) Au)) rfl iV)) rfl rfl) (sq s6 s7)))))
 show Bo 5 (Bp cP cR) (abS cR P a b n w W f (.mk m ps::rest) d)=_;unfold Bo;rw[show abS cR P a b n w W f (.mk m ps::rest) d++List.replicate 5 none=[bO cR P a b n w W,vl (.str f),vl (.lst A),iv d,none,none,none,none,none] by rw[<- hA];rfl,all];simp only[<- hA];rfl
end
inductive Ex where
 |nm (x:Str)|mk (m:Str) (as:List Ex)|cl (f:Str) (as:List Ex)
mutual
def Ex.t:Ex->T
 |.nm x=>.tup [.str "name",.str x]
 |.mk m as=>.tup [.str "make",.str m,.tup (Ex.ts as)]
 |.cl f as=>.tup [.str "call",.str f,.tup (Ex.ts as)]
def Ex.ts:List Ex->List T
 | []=>[]
 |e::es=>e.t::Ex.ts es
end
theorem Ex.Ct:∀es:List Ex,Ex.ts es=es.map Ex.t
 | []=>by simp[Ex.ts]
 |e::es=>by simp[Ex.ts,Ex.Ct es]
abbrev wC(cR:Addr):FS->Out Bool:=MT cR "waiting" 0
abbrev tkF(cR:Addr):FS->Out Rv:=fz (BH cR "taken" 2 (B4 cR) (Ab 0) (Ad (Aj Bx (Ac (Ag AF (Ab 3) (gc (.int 2))) Ai)) Ai))
abbrev wB(cP cR:Addr):FS->SO:=(Av (Hk (fz (Ho cR "waiting" 0)) (AY 4 (Af (tgN 3) (Af (tgN 4) (Af (tgN 5) (Af (tgN 6) AQ))))))
  (ifS (asB (Ag (gEq false) (Ag AF (Ab 3) (gc (.int 0))) (gc (.str ("name":Str))))) (AH (DJ cR "worths" 0 (Ag AF (Ab 4) (Ag AF (Ab 3) (gc (.int 1)))))) (ifS (Ft (Hj (Ab 6))) (AH (BH cR "await_arguments" 4 (A3 cR) (Ab 0) (Ad (fz (Ab 3)) (Ad (fz (Ab 4)) (Ad (fz (Ab 5)) Ai))))) (ifS (asB (Ag (gEq false) (Ag AF (Ab 3) (gc (.int 0))) (gc (.str ("make":Str))))) (AH (DJ cR "worths" 0 (fz (Aj (Al 2 Kl) (Ad (Ag AF (Ab 3) (gc (.int 1))) (Ad (tkF cR) Ai)))))) (AH (BH cR "await_body" 4 (AX cP cR) (Ab 0) (Ad (Ag AF (Ab 3) (gc (.int 1))) (Ad (tkF cR) (Ad (fz (Ab 5)) Ai)))))))))
theorem Od:RF.any (·==("await_arguments":Str))=false/\RF.any (·==("taken":Str))=false/\RF.any (·==("await_body":Str))=false/\RF.any (·==("worth":Str))=false:=by decide +kernel
theorem GK:("make":Str)≠"name"/\("call":Str)≠"name"/\("call":Str)≠"make":=by decide +kernel
variable{x1 x2 y3 y4 y5 y6:Option Sl}
variable{as:List T}{ρ:T}
section
variable{n:Int}{W:List T}
abbrev fr(cR:Addr)(P:T)(a b:Addr)(x1 x2:Option Sl)(n:Int)(w W:List T)(y3 y4 y5 y6:Option Sl):FS:=[bO cR P a b n w W,x1,x2,y3,y4,y5,y6]
theorem X6(f3:Fre y3)(f4:Fre y4)(f5:Fre y5)(f6:Fre y6):Hk (fz (Ho cR "waiting" 0)) (AY 4 (Af (tgN 3) (Af (tgN 4) (Af (tgN 5) (Af (tgN 6) AQ))))) (fr cR P a b x1 x2 n (w++[wi e ρ d r]) W y3 y4 y5 y6)=.nx (fr cR P a b x1 x2 n w W (vl e) (vl ρ) (iv d) (vl (.o r))):=by
 unfold Hk;rw[(Tz (i:=0) (fs:=fr cR P a b x1 x2 n (w++[wi e ρ d r]) W y3 y4 y5 y6) (aq:=fr cR P a b x1 x2 n w W y3 y4 y5 y6) (gs:=RF) (os:=[.val P,.val (.int n),.la a (w++[wi e ρ d r]),.la b W]) (f:="waiting") (p:=a) (ts:=w) (t:=wi e ρ d r) rfl Jy (by rw[Ts];rfl))];have g3:tgN 3 e (fr cR P a b x1 x2 n w W y3 y4 y5 y6)=some (fr cR P a b x1 x2 n w W (vl e) y4 y5 y6):=tg rfl f3;have g4:tgN 4 ρ (fr cR P a b x1 x2 n w W (vl e) y4 y5 y6)=some (fr cR P a b x1 x2 n w W (vl e) (vl ρ) y5 y6):=tg rfl f4;have g5:tgN 5 (.int d) (fr cR P a b x1 x2 n w W (vl e) (vl ρ) y5 y6)=some (fr cR P a b x1 x2 n w W (vl e) (vl ρ) (iv d) y6):=tg rfl f5;have g6:tgN 6 (.o r) (fr cR P a b x1 x2 n w W (vl e) (vl ρ) (iv d) y6)=some (fr cR P a b x1 x2 n w W (vl e) (vl ρ) (iv d) (vl (.o r))):=tg rfl f6;have gg:AY 4 (Af (tgN 3) (Af (tgN 4) (Af (tgN 5) (Af (tgN 6) AQ)))) (wi e ρ d r) (fr cR P a b x1 x2 n w W y3 y4 y5 y6)=some (fr cR P a b x1 x2 n w W (vl e) (vl ρ) (iv d) (vl (.o r))):=by show(Af (tgN 3) (Af (tgN 4) (Af (tgN 5) (Af (tgN 6) AQ)))) [e,ρ,.int d,.o r] (fr cR P a b x1 x2 n w W y3 y4 y5 y6)=_;simp only[Af,g3,g4,g5,g6,tV];rfl
 simp only[SO.of,gg]
theorem DW{ρ}{d}:asB (Ag (gEq false) (Ag AF (Ab 3) (gc (.int 0))) (gc (.str z'))) (fr cR P a b x1 x2 n w W (vl (.tup (.str z::ts))) ρ d r)=.ok (decide (z=z')) (fr cR P a b x1 x2 n w W (vl (.tup (.str z::ts))) ρ d r) :=
 GQ (ix (Aa rfl) rfl) AB
theorem NU(f3:Fre y3)(f4:Fre y4)(f5:Fre y5)(f6:Fre y6)(hl:W.length<100000)(hx:Co (xs.map λx=>(.inr x:Key)) (hs.map wt) (.inr x:Key)=some (wt h)):
  wB cP cR (fr cR P a b x1 x2 n (w++[wi (Ex.nm x).t (Ez xs hs) d r]) W y3 y4 y5 y6)=.nx (fr cR P a b x1 x2 n w (W++[wt h]) (vl (Ex.nm x).t) (vl (Ez xs hs)) (iv d) (vl (.o r))):=by
 refine sq (X6 f3 f4 f5 f6) ?_;have et:(Ex.nm x).t=.tup [.str "name",.str x]:=rfl;rw[et];refine DV (by rw[DW];simp) ?_;refine Qn (aj:=fr cR P a b x1 x2 n w W (vl (.tup [.str "name",.str x])) (vl (Ez xs hs)) (iv d) (vl (.o r))) rfl Ds ?_ rfl Ds hl (by rw[IA];rfl);exact Ak (Aa rfl) (ix (ts:=[.str "name",.str x]) (Aa rfl) rfl) (IX hx)
theorem NT{aG h:Str}(f3:Fre y3)(f4:Fre y4)(f5:Fre y5)(f6:Fre y6)(hf:aG≠"name")(hl:w.length+as.length<=80000):
  wB cP cR (fr cR P a b x1 x2 n (w++[wi (.tup [.str aG,.str h,.tup as]) ρ d false]) W y3 y4 y5 y6)=.nx (fr cR P a b x1 x2 n (w++[wi (.tup [.str aG,.str h,.tup as]) ρ d true]++as.reverse.map λt=>wi t ρ d false) W (vl (.tup [.str aG,.str h,.tup as])) (vl ρ) (iv d) (vl (.o false))):=by
 refine sq (X6 f3 f4 f5 f6) (AW (by rw[DW];simp[hf]) (DV (CO (Cp (b:=false) (Aa rfl))) ?_));exact Dz (ON (gs:=RF) (os:=[.val P,.val (.int n),.la a w,.la b W]) (ts:=[.tup [.str aG,.str h,.tup as],ρ,.int d]) Od.1 (Ae (Am (Aa rfl)) (Ae (Am (Aa rfl)) (Ae (Am (Aa rfl)) Au))) rfl (AI hl))
theorem NX{ρ}{d}(hl:vs.length<=1000)(ha:as.length=vs.length):tkF cR (fr cR P a b x1 x2 n w (W++vs) (vl (.tup [.str aG,.str h,.tup as])) ρ d r)=.ok (.t (.lst vs)) (fr cR P a b x1 x2 n w W (vl (.tup [.str aG,.str h,.tup as])) ρ d r):=by have l:=BP (f:=Ag AF (Ab 3) (gc (.int 2))) (fs:=fr cR P a b x1 x2 n w (W++vs) (vl (.tup [.str aG,.str h,.tup as])) ρ d r) (ix (Aa rfl) rfl) (.inr rfl);rw[ha]at l;exact Fe (Rw (gs:=RF) (os:=[.val P,.val (.int n),.la a w,.la b (W++vs)]) (ts:=[.int (vs.length:Int)]) Od.2.1 (Ae l Au) rfl (taken vs hl))
theorem Jz(f3:Fre y3)(f4:Fre y4)(f5:Fre y5)(f6:Fre y6)(hl:hs.length<=1000)(hW:W.length<100000)(ha:as.length=hs.length):
  wB cP cR (fr cR P a b x1 x2 n (w++[wi (.tup [.str "make",.str m,.tup as]) ρ d true]) (W++hs.map wt) y3 y4 y5 y6)=if fits (.mk m hs)=true then .nx (fr cR P a b x1 x2 n w (W++[wt (.mk m hs)]) (vl (.tup [.str "make",.str m,.tup as])) (vl ρ) (iv d) (vl (.o true)))else .exc "TooLong" (fr cR P a b x1 x2 n w W (vl (.tup [.str "make",.str m,.tup as])) (vl ρ) (iv d) (vl (.o true))):=by
 refine sq (X6 f3 f4 f5 f6) (AW (by rw[DW];simp[GK.1]) (AW (CO (Cp (b:=true) (Aa rfl))) (DV (by rw[DW];simp) ?_)));have cn:Ad (Ag AF (Ab 3) (gc (.int 1))) (Ad (tkF cR) Ai) (fr cR P a b x1 x2 n w (W++hs.map wt) (vl (.tup [.str "make",.str m,.tup as])) (vl ρ) (iv d) (vl (.o true)))=.ok [.t (.str m),.t (.lst (hs.map wt))] (fr cR P a b x1 x2 n w W (vl (.tup [.str "make",.str m,.tup as])) (vl ρ) (iv d) (vl (.o true))) :=
  Ae (ix (i:=1) (ts:=[.str "make",.str m,.tup as]) (Aa rfl) rfl) (Ae (NX (cR:=cR) (P:=P) (a:=a) (b:=b) (n:=n) (w:=w) (W:=W) (x1:=x1) (x2:=x2) (aG:="make") (h:=m) (as:=as) (vs:=hs.map wt) (ρ:=vl ρ) (d:=iv d) (r:=vl (.o true)) (by simpa using hl) (by simpa using ha)) Au)
 have md:=made m hs hl;cases hf:fits (.mk m hs)with|true =>rw[hf,if_pos rfl]at md;rw[if_pos rfl];exact Qn (C:=cR) (gs:=RF) (os:=[.val P,.val (.int n),.la a w,.la b (W++hs.map wt)]) (iI:=RF) (ke:=[.val P,.val (.int n),.la a w,.la b W]) (p:=b) (ts:=W) (us:=W++hs.map wt) (t:=wt (.mk m hs)) rfl Ds (IZ (BY cn rfl rfl md)) rfl Ds hW (by rw[IA];rfl)|false =>rw[hf,if_neg (by simp)]at md;rw[if_neg (by simp)];exact W3 (C:=cR) (gs:=RF) (os:=[.val P,.val (.int n),.la a w,.la b (W++hs.map wt)]) (p:=b) rfl Ds (T5 (KG cn rfl rfl md))
section
variable{f:Str}{hs:List Th}{d:Int}
theorem KD(hl:hs.length<=1000)(ha:as.length=hs.length):Ad (Ag AF (Ab 3) (gc (.int 1))) (Ad (tkF cR) (Ad (fz (Ab 5)) Ai)) (fr cR P a b x1 x2 n w (W++hs.map wt) (vl (.tup [.str "call",.str f,.tup as])) (vl ρ) (iv d) (vl (.o true)))=.ok ([.str f,.lst (hs.map wt),.int d].map Rv.t) (fr cR P a b x1 x2 n w W (vl (.tup [.str "call",.str f,.tup as])) (vl ρ) (iv d) (vl (.o true))) :=
 Ae (ix (Aa rfl) rfl) (Ae (NX (by simpa using hl) (by simpa using ha)) (Ae (Am (Aa rfl)) Au))
theorem QD(f3:Fre y3)(f4:Fre y4)(f5:Fre y5)(f6:Fre y6)(hl:hs.length<=1000)(ha:as.length=hs.length)(h:AX cP cR (abS cR P a b n w W f hs d)=.exc "TooLong" (abS cR P a b n w W f hs d)):
  wB cP cR (fr cR P a b x1 x2 n (w++[wi (.tup [.str "call",.str f,.tup as]) ρ d true]) (W++hs.map wt) y3 y4 y5 y6)=.exc "TooLong" (fr cR P a b x1 x2 n w W (vl (.tup [.str "call",.str f,.tup as])) (vl ρ) (iv d) (vl (.o true))) :=
 sq (X6 f3 f4 f5 f6) (AW (by rw[DW];simp[GK.2.1]) (AW (CO (Cp (b:=true) (Aa rfl))) (AW (by rw[DW];simp[GK.2.2]) (Kp (OO Od.2.2.1 (KD hl ha) rfl h)))))
theorem NW(f3:Fre y3)(f4:Fre y4)(f5:Fre y5)(f6:Fre y6)(ha:as.length=(Th.mk m ps::rest).length)(hn:0<n)(hd:d<=20)(hP:∀fs,DU cP "row" fs (.t P)=true)(iV:Bl cP [vl P,vl (.str f),vl (.str m)]=.ok (.t (.tup [.tup (xs.map T.str),body])) [vl P,vl (.str f),vl (.str m)])
  (hx:xs.Nodup) (lV:xs.length=ps.length+rest.length) (hz:∀h∈ps,h.sz<=900) (hl:ps.length+rest.length<=100) (hw:w.length<=80000) :
  wB cP cR (fr cR P a b x1 x2 n (w++[wi (.tup [.str "call",.str f,.tup as]) ρ d true]) (W++(Th.mk m ps::rest).map wt) y3 y4 y5 y6)=.nx (fr cR P a b x1 x2 (n-1) (w++[wi body (Ez xs (ps++rest)) (d+1) false]) W (vl (.tup [.str "call",.str f,.tup as])) (vl ρ) (iv d) (vl (.o true))) :=
 sq (X6 f3 f4 f5 f6) (AW (by rw[DW];simp[GK.2.1]) (AW (CO (Cp (b:=true) (Aa rfl))) (AW (by rw[DW];simp[GK.2.2]) (Dz (ON Od.2.2.1 (KD (by simp;omega) ha) rfl (Bq hn hd hP iV hx lV hz hl hw))))))
end
end
structure RC where
 cP:Addr
 cR:Addr
 P:T
 a:Addr
 b:Addr
 x1:Option Sl
 x2:Option Sl
abbrev RC.f(c:RC)(n:Int)(w W:List T)(y3 y4 y5 y6:Option Sl):FS:=fr c.cR c.P c.a c.b c.x1 c.x2 n w W y3 y4 y5 y6
abbrev RC.lp(c:RC):Nat->FS->SO:=Cd (wC c.cR) (wB c.cP c.cR)
def Go(c:RC)(k:Nat)(n:Int)(w W:List T)(n':Int)(w' W':List T):Prop:=∀y3 y4 y5 y6,Fre y3->Fre y4->Fre y5->Fre y6->∀j,∃z3 z4 z5 z6,Fre z3/\Fre z4/\Fre z5/\Fre z6/\c.lp (j+k) (c.f n w W y3 y4 y5 y6)=c.lp j (c.f n' w' W' z3 z4 z5 z6)
def No(c:RC)(k:Nat)(n:Int)(w W:List T):Prop:=∀y3 y4 y5 y6,Fre y3->Fre y4->Fre y5->Fre y6->∀j,∃τ,c.lp (j+k) (c.f n w W y3 y4 y5 y6)=.exc "TooLong" τ
variable{k k1 k2:Nat}{n1 n2:Int}{w1 w2 W1 W2:List T}
section
variable{c:RC}{n:Int}{W:List T}
theorem Go.refl:Go c 0 n w W n w W:=λy3 y4 y5 y6 f3 f4 f5 f6 j=>⟨y3,y4,y5,y6,f3,f4,f5,f6,rfl⟩
theorem Go.then(h:Go c k1 n w W n1 w1 W1)(h2:Go c k2 n1 w1 W1 n2 w2 W2):Go c (k2+k1) n w W n2 w2 W2:=λy3 y4 y5 y6 f3 f4 f5 f6 j=>by obtain⟨z3,z4,z5,z6,g3,g4,g5,g6,e⟩:=h y3 y4 y5 y6 f3 f4 f5 f6 (j+k2);obtain⟨u3,u4,u5,u6,q3,q4,q5,q6,e2⟩:=h2 z3 z4 z5 z6 g3 g4 g5 g6 j;exact⟨u3,u4,u5,u6,q3,q4,q5,q6,by rw[<- Nat.add_assoc,e,e2]⟩
theorem Go.no(h:Go c k1 n w W n1 w1 W1)(h2:No c k2 n1 w1 W1):No c (k2+k1) n w W:=λy3 y4 y5 y6 f3 f4 f5 f6 j=>by obtain⟨z3,z4,z5,z6,g3,g4,g5,g6,e⟩:=h y3 y4 y5 y6 f3 f4 f5 f6 (j+k2);obtain⟨τ,e2⟩:=h2 z3 z4 z5 z6 g3 g4 g5 g6 j;exact⟨τ,by rw[<- Nat.add_assoc,e,e2]⟩
theorem Xk{i}:wC c.cR (c.f n (w++[i]) W y3 y4 y5 y6)=.ok true (c.f n (w++[i]) W y3 y4 y5 y6):=by have:=Tq (i:=0) (fs:=c.f n (w++[i]) W y3 y4 y5 y6) rfl Jy;exact this.trans (by simp)
theorem go1{i}(h:∀y3 y4 y5 y6,Fre y3->Fre y4->Fre y5->Fre y6->∃z3 z4 z5 z6,wB c.cP c.cR (c.f n (w++[i]) W y3 y4 y5 y6)=.nx (c.f n1 w1 W1 (vl z3) (vl z4) (vl z5) (vl z6))):Go c 1 n (w++[i]) W n1 w1 W1:=λy3 y4 y5 y6 f3 f4 f5 f6 j=>by obtain⟨z3,z4,z5,z6,e⟩:=h y3 y4 y5 y6 f3 f4 f5 f6;exact⟨_,_,_,_,AG,AG,AG,AG,LM Xk e⟩
theorem no1{i}(h:∀y3 y4 y5 y6,Fre y3->Fre y4->Fre y5->Fre y6->∃τ,wB c.cP c.cR (c.f n (w++[i]) W y3 y4 y5 y6)=.exc "TooLong" τ):No c 1 n (w++[i]) W:=λy3 y4 y5 y6 f3 f4 f5 f6 j=>by obtain⟨τ,e⟩:=h y3 y4 y5 y6 f3 f4 f5 f6;refine⟨τ,?_⟩;show Cd _ _ (j+1) _=_;rw[Cd,Xk];show(match wB c.cP c.cR _ with|.nx fs=>_|.cnt fs=>_|.brk fs=>_|o=>o)=_;rw[e]
end
section
variable(c:RC)(s:Nat)(xs:List Str)(hs:List Th)(d:Nat)(n:Int)
def Ev(e:Ex)(v:Th)(n':Int)(k:Nat):Prop:=∀w W,w.length+W.length<=200*d+s->Go c k n (w++[wi e.t (Ez xs hs) d false]) W n' w (W++[wt v])
def EvN(e:Ex)(k:Nat):Prop:=∀w W,w.length+W.length<=200*d+s->No c k n (w++[wi e.t (Ez xs hs) d false]) W
def EvL(es:List Ex)(vs:List Th)(n':Int)(k:Nat):Prop:=∀w W,w.length+W.length+es.length<=200*d+s->Go c k n (w++(es.map λe=>wi e.t (Ez xs hs) d false).reverse) W n' w (W++vs.map wt)
def Jax(es:List Ex)(k:Nat):Prop:=∀w W,w.length+W.length+es.length<=200*d+s->No c k n (w++(es.map λe=>wi e.t (Ez xs hs) d false).reverse) W
end
variable{c:RC}{s d:Nat}{xs ys:List Str}{hs vs:List Th}{n:Int}{v:Th}{e body:Ex}{es:List Ex}{f:Str}
theorem GP(hx:Co (xs.map λx=>(.inr x:Key)) (hs.map wt) (.inr x:Key)=some (wt v))(hd:d<=30)(aZ:s<=1000):Ev c s xs hs d n (.nm x) v n 1:=λw W hl=>go1 λy3 y4 y5 y6 f3 f4 f5 f6=>⟨_,_,_,_,NU f3 f4 f5 f6 (by omega) hx⟩
theorem Dd:EvL c s xs hs d n [] [] n 0:=λw W _=>by simpa using Go.refl
theorem By(h1:Ev c s xs hs d n e v n1 k1)(h2:EvL c s xs hs d n1 es vs n2 k2):EvL c s xs hs d n (e::es) (v::vs) n2 (k2+k1):=λw W hl=>by
 rw[tj]at hl;have:=(h1 (w++(es.map λe=>wi e.t (Ez xs hs) d false).reverse) W (by simp;omega)).then (h2 w (W++[wt v]) (by simp;omega))
 simpa using this
theorem LB(h1:EvN c s xs hs d n e k1):Jax c s xs hs d n (e::es) k1:=λw W hl=>by rw[tj]at hl;simpa using (h1 (w++(es.map λe=>wi e.t (Ez xs hs) d false).reverse) W (by simp;omega))
theorem WB(h1:Ev c s xs hs d n e v n1 k1)(h2:Jax c s xs hs d n1 es k2):Jax c s xs hs d n (e::es) (k2+k1):=λw W hl=>by rw[tj]at hl;have:=(h1 (w++(es.map λe=>wi e.t (Ez xs hs) d false).reverse) W (by simp;omega)).no (h2 w (W++[wt v]) (by simp;omega));simpa using this
theorem GH{aG h:Str}(hf:aG≠"name")(hl:w.length+es.length<=80000):Go c 1 n (w++[wi (.tup [.str aG,.str h,.tup (Ex.ts es)]) (Ez xs hs) d false]) W n (w++[wi (.tup [.str aG,.str h,.tup (Ex.ts es)]) (Ez xs hs) d true]++(es.map λe=>wi e.t (Ez xs hs) d false).reverse) W :=
 go1 λy3 y4 y5 y6 f3 f4 f5 f6=>⟨_,_,_,_,by have:=NT (cP:=c.cP) (cR:=c.cR) (P:=c.P) (a:=c.a) (b:=c.b) (n:=n) (w:=w) (W:=W) (x1:=c.x1) (x2:=c.x2) (aG:=aG) (h:=h) (as:=Ex.ts es) (ρ:=Ez xs hs) (d:=d) f3 f4 f5 f6 hf (by rw[Ex.Ct,sH];exact hl);rw[this];simp only[Ex.Ct,<- List.map_reverse,tU];rfl⟩
theorem SD(h:EvL c (s+1+es.length) xs hs d n es vs n1 k)(hv:vs.length=es.length)(hf:fits (.mk m vs)=true)(hd:d<=30)(aZ:s+es.length<=500):Ev c s xs hs d n (.mk m es) (.mk m vs) n1 (1+(k+1)):=λw W hl=>by have et:(Ex.mk m es).t=.tup [.str "make",.str m,.tup (Ex.ts es)]:=rfl;rw[et];refine((GH GK.1 (by omega)).then (h _ W (by simp;omega))).then (go1 λy3 y4 y5 y6 f3 f4 f5 f6=>⟨_,_,_,_,(Jz f3 f4 f5 f6 (by omega) (by omega) (by rw[Ex.Ct,sH];omega)).trans (if_pos hf)⟩)
theorem PN(h:Jax c (s+1+es.length) xs hs d n es k)(aZ:s+es.length<=500)(hd:d<=30):EvN c s xs hs d n (.mk m es) (k+1):=λw W hl=>by have et:(Ex.mk m es).t=.tup [.str "make",.str m,.tup (Ex.ts es)]:=rfl;rw[et];exact(GH GK.1 (by omega)).no (h _ W (by simp;omega))
theorem Ug(h:EvL c (s+1+es.length) xs hs d n es vs n1 k)(hv:vs.length=es.length)(hf:fits (.mk m vs)=false)(hd:d<=30)(aZ:s+es.length<=500):EvN c s xs hs d n (.mk m es) (1+(k+1)):=λw W hl=>by have et:(Ex.mk m es).t=.tup [.str "make",.str m,.tup (Ex.ts es)]:=rfl;rw[et];refine((GH GK.1 (by omega)).then (h _ W (by simp;omega))).no (no1 λy3 y4 y5 y6 f3 f4 f5 f6=>⟨_,(Jz f3 f4 f5 f6 (by omega) (by omega) (by rw[Ex.Ct,sH];omega)).trans (if_neg (by rw[hf];simp))⟩)
structure Row(c:RC)(f m:Str)(ys:List Str)(body:Ex):Prop where
 ins:∀fs,DU c.cP "row" fs (.t c.P)=true
 row:Bl c.cP [vl c.P,vl (.str f),vl (.str m)]=.ok (.t (.tup [.tup (ys.map T.str),body.t])) [vl c.P,vl (.str f),vl (.str m)]
 nd:ys.Nodup
theorem Pk(R:Row c f m ys body)(h:EvL c (s+1+es.length) xs hs d n es (.mk m ps::rest) n1 k)(hv:(Th.mk m ps::rest).length=es.length)(hn:0<n1)(hd:d<=20)(jY:ys.length=ps.length+rest.length)(hz:∀h∈ps,h.sz<=900)(bU:ps.length+rest.length<=100)(aZ:s+es.length<=200){W:List T}(hl:w.length+W.length<=200*d+s):
  Go c (1+(k+1)) n (w++[wi (Ex.cl f es).t (Ez xs hs) d false]) W (n1-1) (w++[wi body.t (Ez ys (ps++rest)) ((d+1:Nat):Int) false]) W:=by
 have et:(Ex.cl f es).t=.tup [.str "call",.str f,.tup (Ex.ts es)]:=rfl;rw[et];refine((GH GK.2.1 (by omega)).then (h _ W (by simp at hv ⊢;omega))).then (go1 λy3 y4 y5 y6 f3 f4 f5 f6=>⟨_,_,_,_,NW f3 f4 f5 f6 (by rw[Ex.Ct,sH];omega) hn (by omega) R.ins R.row R.nd jY hz bU (by omega)⟩)
theorem Nv(R:Row c f m ys body)(h:EvL c (s+1+es.length) xs hs d n es (.mk m ps::rest) n1 k)(hv:(Th.mk m ps::rest).length=es.length)(hn:0<n1)(hd:d<=20)(jY:ys.length=ps.length+rest.length)(hz:∀h∈ps,h.sz<=900)(bU:ps.length+rest.length<=100)(aZ:s+es.length<=200)
  (hb:Ev c 0 ys (ps++rest) (d+1) (n1-1) body v n2 k2):Ev c s xs hs d n (.cl f es) v n2 (k2+(1+(k+1))):=λw W hl=>(Pk R h hv hn hd jY hz bU aZ hl).then (hb w W (by omega))
theorem Km(R:Row c f m ys body)(h:EvL c (s+1+es.length) xs hs d n es (.mk m ps::rest) n1 k)(hv:(Th.mk m ps::rest).length=es.length)(hn:0<n1)(hd:d<=20)(jY:ys.length=ps.length+rest.length)(hz:∀h∈ps,h.sz<=900)(bU:ps.length+rest.length<=100)(aZ:s+es.length<=200)
  (hb:EvN c 0 ys (ps++rest) (d+1) (n1-1) body k2):EvN c s xs hs d n (.cl f es) (k2+(1+(k+1))):=λw W hl=>(Pk R h hv hn hd jY hz bU aZ hl).no (hb w W (by omega))
theorem Ia(h:EvL c (s+1+es.length) xs hs d n es vs n1 k)(hv:vs.length=es.length)(hx:n1<=0\/20<d)(hd:d<=30)(aZ:s+es.length<=200):EvN c s xs hs d n (.cl f es) (1+(k+1)):=λw W hl=>by
 have et:(Ex.cl f es).t=.tup [.str "call",.str f,.tup (Ex.ts es)]:=rfl;rw[et];refine((GH GK.2.1 (by omega)).then (h _ W (by simp;omega))).no (no1 λy3 y4 y5 y6 f3 f4 f5 f6=>⟨_,QD f3 f4 f5 f6 (by omega) (by rw[Ex.Ct,sH];omega) (by
  by_cases h0:n1<=0
  .exact S5 h0 vs
  .exact Qf (by omega) (by omega) vs)⟩)
abbrev rc(cP cR:Addr)(P:T)(xs:List Str)(hs:List Th)(e:Ex)(a b:Addr):RC:=⟨cP,cR,P,a,b,vl (Ez xs hs),vl e.t⟩
theorem Ki:AH (DJ cR "waiting" 0 (An Ar (Ac (fz (Ab 2)) (Ac (fz (Ab 1)) (Ac (gc (.int 1)) (Ac (gc (.o false)) Ai)))))) (fr cR P a b (vl (Ez xs hs)) (vl e.t) n [] [] none none none none)=.nx (fr cR P a b (vl (Ez xs hs)) (vl e.t) n ([]++[wi e.t (Ez xs hs) ((1:Nat):Int) false]) [] none none none none) :=
 Td (SM (Am (Aa rfl)) (Am (Aa rfl)) AB) (by simp)
theorem Qx(h:Ev (rc cP cR P xs hs e a b) 0 xs hs 1 n e v n1 k)(hk:k<4000):∃τ,Bu cP cR [bO cR P a b n [] [],vl (Ez xs hs),vl e.t]=.ok (.t v.t) τ:=by
 obtain⟨z3,z4,z5,z6,_,_,_,_,lp⟩:=h [] [] (by simp) none none none none Aq Aq Aq Aq (4000-k);rw[Nat.sub_add_cancel (by omega)]at lp;obtain⟨j,hj⟩:∃j,4000-k=j+1:=⟨4000-k-1,by omega⟩
 rw[hj]at lp;have we:(rc cP cR P xs hs e a b).lp (j+1) ((rc cP cR P xs hs e a b).f n1 [] ([]++[wt v]) z3 z4 z5 z6)=.nx ((rc cP cR P xs hs e a b).f n1 [] ([]++[wt v]) z3 z4 z5 z6) :=
  Jv (Tq (ts:=[]) rfl Jy)
 rw[we]at lp;exact⟨_,BB (n:=4) (g:=Hd cP cR) (args:=[bO cR P a b n [] [],vl (Ez xs hs),vl e.t]) (sq Ki (sq lp (by refine AR (ix (ts:=[v.t,.int (v.sz:Int),.int (v.dp:Int)]) ?_ rfl);unfold RG;rw[J2 (o:=XQ cR P a b n1 [] ([]++[wt v])) rfl];simp only[XQ,Ds,if_true];rfl)))⟩
theorem Qy(h:EvN (rc cP cR P xs hs e a b) 0 xs hs 1 n e k)(hk:k<4000):∃τ,Bu cP cR [bO cR P a b n [] [],vl (Ez xs hs),vl e.t]=.exc "TooLong" τ:=by obtain⟨τ,lp⟩:=h [] [] (by simp) none none none none Aq Aq Aq Aq (4000-k);rw[Nat.sub_add_cancel (by omega)]at lp;exact⟨_,EE (sq Ki (FK lp))⟩
theorem T9{cj:List FO}(hv:fv fs=.ok (.t t) aj)(h0:aj[i]?=some (some (.bor (.ins C gs os))))(hl:gs.length<900)(hp:CW gs os f (.val t)=some (dq,cj))(e:aj.set i (some (.bor (.ins C dq cj)))=aq):H0 C f i fv fs=.nx aq:=by unfold H0;rw[hv];simp only[SO.of,JbH,J2 h0];rw[if_pos ⟨trivial,hl⟩,hp];simp only;rw[show FL.putAt aj i (.ins C dq cj)=aq by unfold FL.putAt;rw[h0];exact e]
theorem QS{m:Int}:CM cR [some (.bor (.ins cR [] [])),vl P,iv m]=.ok (.t .v) [some (.bor (.ins cR RF [.val P,.val (.int m),.lst [],.lst []])),vl P,iv m]:=by
 have h1:("program":Str)≠"calls_left"/\("program":Str)≠"waiting"/\("program":Str)≠"worths"/\("calls_left":Str)≠"waiting"/\("calls_left":Str)≠"worths"/\("waiting":Str)≠"worths":=by decide +kernel
 have nl:∀fs,An Er Ai fs=.ok (.nw (.lst [])) fs:=λ_=>rfl
 have all:Fj cR [some (.bor (.ins cR [] [])),vl P,iv m]=.nx [some (.bor (.ins cR RF [.val P,.val (.int m),.lst [],.lst []])),vl P,iv m]:=by refine sq (T9 (Am (Aa rfl)) rfl (by simp) rfl rfl) ?_;refine sq (T9 (dq:=["program","calls_left"]) (cj:=[.val P,.val (.int m)]) (Am (Aa rfl)) rfl (by simp) (by simp[CW,h1]) rfl) ?_;refine sq (GL (C:=cR) (gs:=["program","calls_left"]) (os:=[.val P,.val (.int m)]) (dq:=["program","calls_left","waiting"]) (cj:=[.val P,.val (.int m),.lst []]) (o:=.lst []) (nl _) rfl (by simp) (by simp[CW,h1]) rfl) ?_;exact GL (C:=cR) (gs:=["program","calls_left","waiting"]) (os:=[.val P,.val (.int m),.lst []]) (dq:=RF) (cj:=[.val P,.val (.int m),.lst [],.lst []]) (o:=.lst []) (nl _) rfl (by simp) (by simp[CW,h1]) rfl
 show Bo 0 (Fj cR) _=_;unfold Bo;rw[show [some (Sl.bor (.ins cR [] [])),vl P,iv m]++List.replicate 0 none=[some (.bor (.ins cR [] [])),vl P,iv m]from rfl,all];rfl
variable{hx hy:Th}
abbrev sXY:List Str:=["x","y"]
abbrev D9(hx hy:Th):T:=.dF [.inr "x",.inr "y"] [hx.t,hy.t]
abbrev LY(P:T)(hx hy:Th)(e:Ex)(n:Int):FS:=[vl P,vl (D9 hx hy),vl e.t,iv n]
theorem KY:("x":Str)≠"y":=by decide +kernel
theorem LX(zx:hx.sz<=900)(zy:hy.sz<=900):Dr (itI (Ab 1)) (AY 2 (Af (tgN 5) (Af (tgN 6) AQ))) (Dh (fz (Aj (Al 1 BR) (Ad (fz (Ab 6)) Ai))) (Ab 4) (fz (Ab 5))) [vl P,vl (D9 hx hy),vl e.t,iv n,some (.own (.l [] [])),none,none]=.nx [vl P,vl (D9 hx hy),vl e.t,iv n,some (.own (.l [.inr "x",.inr "y"] [wt hx,wt hy])),vl (.str "y"),vl hy.t]:=by
 have hi:itI (Ab 1) [vl P,vl (D9 hx hy),vl e.t,iv n,some (.own (.l [] [])),none,none]=.ok [.tup [.str "x",hx.t],.tup [.str "y",hy.t]] [vl P,vl (D9 hx hy),vl e.t,iv n,some (.own (.l [] [])),none,none]:=rfl;have cw:∀(h:Th)(x4 x5:Option Sl),h.sz<=900->fz (Aj (Al 1 BR) (Ad (fz (Ab 6)) Ai)) [vl P,vl (D9 hx hy),vl e.t,iv n,x4,x5,vl h.t]=.ok (.t (wt h)) [vl P,vl (D9 hx hy),vl e.t,iv n,x4,x5,vl h.t]:=λh x4 x5 hz=>Am (BY (Ae (Am (Aa rfl)) Au) rfl rfl (E2 h hz))
 unfold Dr;rw[hi];simp only[SO.of];rw[DH (DC (by exact tg rfl Aq) (by exact tg rfl Aq)) (JJ rfl (cw hx _ _ zx) (Am (Aa rfl)) rfl (by decide) rfl)];rw[DH (DC (by exact tg rfl AG) (by exact tg rfl AG)) (JJ rfl (cw hy _ _ zy) (Am (Aa rfl)) (by simp[KY]) (by decide) rfl)];rfl
noncomputable abbrev nmF(cP cR:Addr):FS->Out Rv:=newMeth cR "worth" 3 (Bu cP cR) (Aj (E7 cR 3 (CM cR)) (Ad (fz (Ab 0)) (Ad (fz (Ab 3)) Ai))) (Ad (fz (Ab 4)) (Ad (fz (Ab 2)) Ai))
theorem TR(h:∀A:Nat->Addr,Al 3 (Bu cP cR) [.nw (XQ cR P (A 2) (A 3) n [] []),.t (Ez sXY [hx,hy]),.t e.t] [vl P,vl (D9 hx hy),vl e.t,iv n,vl (Ez sXY [hx,hy]),x5,x6]=r):
  nmF cP cR [vl P,vl (D9 hx hy),vl e.t,iv n,some (.own (.l [.inr "x",.inr "y"] [wt hx,wt hy])),x5,x6]=r:=by
 have mk:Aj (E7 cR 3 (CM cR)) (Ad (fz (Ab 0)) (Ad (fz (Ab 3)) Ai)) [vl P,vl (D9 hx hy),vl e.t,iv n,some (.own (.l [.inr "x",.inr "y"] [wt hx,wt hy])),x5,x6]=.ok (.nw (.ins cR RF [.val P,.val (.int n),.lst [],.lst []])) [vl P,vl (D9 hx hy),vl e.t,iv n,some (.own (.l [.inr "x",.inr "y"] [wt hx,wt hy])),x5,x6] :=
  IQ (Ae (Am (Aa rfl)) (Ae (Am (Aa rfl)) Au)) rfl rfl QS
 have fa:Ad (fz (Ab 4)) (Ad (fz (Ab 2)) Ai) [vl P,vl (D9 hx hy),vl e.t,iv n,some (.own (.l [.inr "x",.inr "y"] [wt hx,wt hy])),x5,x6]=.ok [.t (Ez sXY [hx,hy]),.t e.t] [vl P,vl (D9 hx hy),vl e.t,iv n,vl (Ez sXY [hx,hy]),x5,x6] :=rfl;show newMeth cR "worth" 3 (Bu cP cR) _ _ _=_;unfold newMeth;rw[mk];simp only[Out.bind];rw[if_pos ⟨trivial,Od.2.2.2⟩,fa];exact(if_pos (λA=>Eq.trans (h A) (h (λi=>i)).symm)).trans (h (λi=>i))
theorem LV(zx:hx.sz<=900)(zy:hy.sz<=900)(h:∀a b,∃k n1,k<4000/\Ev (rc cP cR P sXY [hx,hy] e a b) 0 sXY [hx,hy] 1 n e v n1 k):∃τ,f_run cP cR (LY P hx hy e n)=.ok (.t v.t) τ:=by exact⟨_,BB (sq (show AN 4 EL _=.nx [vl P,vl (D9 hx hy),vl e.t,iv n,some (.own (.l [] [])),none,none]from rfl) (sq (LX zx zy) (AR (TR λA=>by obtain⟨k,n1,hk,h⟩:=h (A 2) (A 3);obtain⟨τ,e1⟩:=Qx h hk;exact MG rfl rfl e1))))⟩
theorem LW(zx:hx.sz<=900)(zy:hy.sz<=900)(h:∀a b,∃k,k<4000/\EvN (rc cP cR P sXY [hx,hy] e a b) 0 sXY [hx,hy] 1 n e k):∃τ,f_run cP cR (LY P hx hy e n)=.exc "TooLong" τ:=by exact⟨_,EE (sq (show AN 4 EL _=.nx [vl P,vl (D9 hx hy),vl e.t,iv n,some (.own (.l [] [])),none,none]from rfl) (sq (LX zx zy) (QW (TR λA=>by obtain⟨k,hk,h⟩:=h (A 2) (A 3);obtain⟨τ,e1⟩:=Qy h hk;exact NF rfl rfl e1))))⟩
abbrev leaf(k0:Str):Th:=.mk k0 []
def chn(k1:Str)(t:Th):Nat->Th
 |0=>t
 |c+1=>.mk k1 [chn k1 t c]
theorem ET(k1:Str)(t:Th):∀c,(chn k1 t c).sz=c+t.sz/\(chn k1 t c).dp=c+t.dp
 |0=>by simp[chn]
 |c+1=>by have:=ET k1 t c;simp[chn,Th.sz,Th.szs,Th.dp,Th.dps];omega
theorem DR(k0:Str):(leaf k0).sz=1/\(leaf k0).dp=1:=by simp[leaf,Th.sz,Th.szs,Th.dp,Th.dps]
def full(k0 k2:Str):Nat->Th
 |0=>leaf k0
 |c+1=>.mk k2 [full k0 k2 c,full k0 k2 c]
theorem Lw(k0 k2:Str):∀c,(full k0 k2 c).sz+1=2^(c+1)/\(full k0 k2 c).dp=c+1
 |0=>by simp[full,DR]
 |c+1=>by have:=Lw k0 k2 c;simp only[full,Th.sz,Th.szs,Th.dp,Th.dps];rw[Nat.pow_succ];omega
theorem lk1{y}:Co ([y].map λx=>(.inr x:Key)) ([h].map wt) (.inr y:Key)=some (wt h):=by simp[Co]
theorem lk2{x}{y}(hn:x≠y):Co ([x,y].map λx=>(.inr x:Key)) ([h,g].map wt) (.inr x:Key)=some (wt h)/\Co ([x,y].map λx=>(.inr x:Key)) ([h,g].map wt) (.inr y:Key)=some (wt g):=by
 constructor
 .simp[Co]
 .simp[Co,hn]
variable{k0 k1 k2 nn:Str}
section
variable{kd:Str}
theorem OU(hd:d<=30)(aZ:s<=100):Ev c s xs hs d n (.mk k0 []) (leaf k0) n 2 :=
 SD Dd rfl (by have:=DR k0;unfold fits leaf at *;simp[this]) hd (by simpa using tK aZ (by decide))
theorem e0(R0:Row c f k0 [] (.mk k0 []))(R1:Row c f k1 [nn] (.cl f [.nm nn])):∀(ch s:Nat)(xs:List Str)(hs:List Th)(x:Str)(d:Nat)(n:Int),ch<=100->s<=50->d<=21->Co (xs.map λx=>(.inr x:Key)) (hs.map wt) (.inr x:Key)=some (wt (chn k1 (leaf k0) ch)) ->
  (((ch:Int)+1<=n/\d+ch<=20)->∃k,k<=3*ch+5/\Ev c s xs hs d n (.cl f [.nm x]) (leaf k0) (n-(ch+1)) k)/\(¬((ch:Int)+1<=n/\d+ch<=20)->∃k,k<=3*ch+5/\EvN c s xs hs d n (.cl f [.nm x]) k)
 |0,s,xs,hs,x,d,n,hc,aZ,hd,hx=>by have ea:EvL c (s+1+[Ex.nm x].length) xs hs d n [.nm x] [leaf k0] n (0+1):=By (GP hx (by omega) (by simp;omega)) Dd;refine⟨λh=>⟨2+(1+((0+1)+1)),by omega,?_⟩,λh=>⟨1+((0+1)+1),by omega,Ia ea rfl (by omega) (by omega) (by simp;omega)⟩⟩;have:=Nv R0 ea rfl (by omega) (by omega) rfl (by simp) (by simp) (by simp;omega) (OU (by omega) (by omega));simpa using this
 |ch+1,s,xs,hs,x,d,n,hc,aZ,hd,hx=>by
  have ea:EvL c (s+1+[Ex.nm x].length) xs hs d n [.nm x] [chn k1 (leaf k0) (ch+1)] n (0+1):=By (GP hx (by omega) (by simp;omega)) Dd;by_cases hg:0<n/\d<=20
  .obtain⟨i1,i2⟩:=e0 R0 R1 ch 0 [nn] [chn k1 (leaf k0) ch] nn (d+1) (n-1) (by omega) (by omega) (by omega) lk1;have hz:∀h∈[chn k1 (leaf k0) ch],h.sz<=900:=by intro h m;rw[sZ.mp m,(ET k1 (leaf k0) ch).1,(DR k0).1];omega
   constructor
   .intro h;obtain⟨k,hk,ek⟩:=i1 (by push_cast at h;omega);refine⟨k+(1+((0+1)+1)),by omega,?_⟩;have:=Nv R1 ea rfl hg.1 hg.2 rfl hz (by simp) (by simp;omega) ek;have e:n-1-((ch:Int)+1)=n-(((ch+1:Nat):Int)+1):=by push_cast;omega
    rwa[e]at this
   .intro h;obtain⟨k,hk,ek⟩:=i2 (by push_cast at h;omega);exact⟨k+(1+((0+1)+1)),by omega,Km R1 ea rfl hg.1 hg.2 rfl hz (by simp) (by simp;omega) ek⟩
  .exact⟨λh=>absurd h (by push_cast;omega),λh=>⟨1+((0+1)+1),by omega,Ia ea rfl (by omega) (by omega) (by simp;omega)⟩⟩
theorem e1(R0:Row c f k0 [] (.mk k0 []))(R1:Row c f k1 [nn] (.mk k2 [.cl f [.nm nn],.cl f [.nm nn]])):∀(ch s:Nat)(xs:List Str)(hs:List Th)(x:Str)(d:Nat)(n:Int),ch<=7->s<=50->d+ch<=20->Co (xs.map λx=>(.inr x:Key)) (hs.map wt) (.inr x:Key)=some (wt (chn k1 (leaf k0) ch)) ->
  ((2:Int)^(ch+1)-1<=n->∃k,k+5<=10*2^ch/\Ev c s xs hs d n (.cl f [.nm x]) (full k0 k2 ch) (n-(2^(ch+1)-1)) k)/\(¬(2:Int)^(ch+1)-1<=n->∃k,k+5<=10*2^ch/\EvN c s xs hs d n (.cl f [.nm x]) k)
 |0,s,xs,hs,x,d,n,hc,aZ,hd,hx=>by have ea:EvL c (s+1+[Ex.nm x].length) xs hs d n [.nm x] [leaf k0] n (0+1):=By (GP hx (by omega) (by simp;omega)) Dd;refine⟨λh=>⟨2+(1+((0+1)+1)),by decide,?_⟩,λh=>⟨1+((0+1)+1),by decide,Ia ea rfl (by omega) (by omega) (by simp;omega)⟩⟩;have:=Nv R0 ea rfl (by omega) (by omega) rfl (by simp) (by simp) (by simp;omega) (OU (by omega) (by omega));exact this
 |ch+1,s,xs,hs,x,d,n,hc,aZ,hd,hx=>by
  have ea:EvL c (s+1+[Ex.nm x].length) xs hs d n [.nm x] [chn k1 (leaf k0) (ch+1)] n (0+1):=By (GP hx (by omega) (by simp;omega)) Dd;have p1:(2:Int)^(ch+1+1)=2*2^(ch+1):=by rw[Int.pow_succ];omega
  have p3:(1:Int)<=2^(ch+1):=by have:=Int.pow_pos (n:=2) (m:=ch+1) (by decide);omega
  have hz:∀h∈[chn k1 (leaf k0) ch],h.sz<=900:=by intro h m;rw[sZ.mp m,(ET k1 (leaf k0) ch).1,(DR k0).1];omega
  have q:=Nat.pow_pos (a:=2) (n:=ch) (by decide);by_cases hg:0<n
  .obtain⟨i1,i2⟩:=e1 R0 R1 ch (0+1+2) [nn] [chn k1 (leaf k0) ch] nn (d+1) (n-1) (by omega) (by omega) (by omega) lk1;by_cases h1:(2:Int)^(ch+1)-1<=n-1
   .obtain⟨k,hk,ek⟩:=i1 h1;obtain⟨j1,j2⟩:=e1 R0 R1 ch (0+1+2) [nn] [chn k1 (leaf k0) ch] nn (d+1) (n-1-(2^(ch+1)-1)) (by omega) (by omega) (by omega) lk1;constructor
    .intro h;obtain⟨k',fZ,ic⟩:=j1 (by omega);have ff:=Lw k0 k2 (ch+1);have q2:(2:Nat)^(ch+1+1)<=2^8:=Nat.pow_le_pow_right (by decide) (by omega);have mk:=SD (m:=k2) (By ek (By ic Dd)) rfl (by show fits (full k0 k2 (ch+1))=true;unfold fits;simp;omega) (by omega) (by simp);refine⟨(1+((0+k'+k)+1))+(1+((0+1)+1)),by omega,?_⟩;have:=Nv R1 (ps:=[chn k1 (leaf k0) ch]) (rest:=[]) ea rfl hg (by omega) rfl hz (by simp) (by simp;omega) mk;rw[p1];have e:n-1-(2^(ch+1)-1)-(2^(ch+1)-1)=n-(2*(2:Int)^(ch+1)-1):=by omega
     rwa[e]at this
    .intro h;obtain⟨k',fZ,ic⟩:=j2 (by omega);have mk:=PN (m:=k2) (WB ek (LB (es:=[]) ic)) (by simp) (by omega);exact⟨((k'+k)+1)+(1+((0+1)+1)),by omega,Km R1 (ps:=[chn k1 (leaf k0) ch]) (rest:=[]) ea rfl hg (by omega) rfl hz (by simp) (by simp;omega) mk⟩
   .obtain⟨k,hk,ek⟩:=i2 h1;refine⟨λh=>absurd h (by omega),λh=>?_⟩;exact⟨(k+1)+(1+((0+1)+1)),by omega,Km R1 (ps:=[chn k1 (leaf k0) ch]) (rest:=[]) ea rfl hg (by omega) rfl hz (by simp) (by simp;omega) (PN (m:=k2) (LB (es:=[.cl f [.nm nn]]) ek) (by simp) (by omega))⟩
  .exact⟨λh=>absurd h (by omega),λh=>⟨1+((0+1)+1),by omega,Ia ea rfl (by omega) (by omega) (by simp;omega)⟩⟩
theorem e2(hB:t.sz=B/\t.dp=B)(lb:B<=100)(lJ:nn≠kd)(R0:Row c f k0 [kd] (.nm kd))(R1:Row c f k1 [nn,kd] (.mk k1 [.cl f [.nm nn,.nm kd]])):∀(ch s:Nat)(xs:List Str)(hs:List Th)(x y:Str)(d:Nat)(n:Int),ch<=100->s<=50->d<=21 ->
  Co (xs.map λx=>(.inr x:Key)) (hs.map wt) (.inr x:Key)=some (wt (chn k1 (leaf k0) ch))->Co (xs.map λx=>(.inr x:Key)) (hs.map wt) (.inr y:Key)=some (wt t) ->
  (((ch:Int)+1<=n/\d+ch<=20/\(ch=0\/ch+B<=40))->∃k,k<=6*ch+5/\Ev c s xs hs d n (.cl f [.nm x,.nm y]) (chn k1 t ch) (n-(ch+1)) k)/\(¬((ch:Int)+1<=n/\d+ch<=20/\(ch=0\/ch+B<=40))->∃k,k<=6*ch+5/\EvN c s xs hs d n (.cl f [.nm x,.nm y]) k)
 |0,s,xs,hs,x,y,d,n,hc,aZ,hd,hx,hy=>by have ea:EvL c (s+1+[Ex.nm x,Ex.nm y].length) xs hs d n [.nm x,.nm y] [leaf k0,t] n (0+1+1):=By (GP hx (by omega) (by simp;omega)) (By (GP hy (by omega) (by simp;omega)) Dd);refine⟨λh=>⟨1+(1+((0+1+1)+1)),by omega,?_⟩,λh=>⟨1+((0+1+1)+1),by omega,Ia ea rfl (by omega) (by omega) (by simp;omega)⟩⟩;have:=Nv R0 ea rfl (by omega) (by omega) rfl (by simp) (by simp) (by simp;omega) (GP lk1 (by omega) (by omega));simpa[chn]using this
 |ch+1,s,xs,hs,x,y,d,n,hc,aZ,hd,hx,hy=>by
  have ea:EvL c (s+1+[Ex.nm x,Ex.nm y].length) xs hs d n [.nm x,.nm y] [chn k1 (leaf k0) (ch+1),t] n (0+1+1):=By (GP hx (by omega) (by simp;omega)) (By (GP hy (by omega) (by simp;omega)) Dd);by_cases hg:0<n/\d<=20
  .obtain⟨i1,i2⟩:=e2 hB lb lJ R0 R1 ch (0+1+1) [nn,kd] [chn k1 (leaf k0) ch,t] nn kd (d+1) (n-1) (by omega) (by omega) (by omega) (lk2 lJ).1 (lk2 lJ).2;have hz:∀h∈[chn k1 (leaf k0) ch],h.sz<=900:=by intro h m;rw[sZ.mp m,(ET k1 (leaf k0) ch).1,(DR k0).1];omega
   have cs:=ET k1 t (ch+1);by_cases hi:((ch:Int)+1<=n-1/\d+1+ch<=20/\(ch=0\/ch+B<=40))
   .obtain⟨k,hk,ek⟩:=i1 hi;have el:EvL c (0+1+1) [nn,kd] [chn k1 (leaf k0) ch,t] (d+1) (n-1) [.cl f [.nm nn,.nm kd]] [chn k1 t ch] (n-1-(ch+1)) (0+k):=By ek Dd;by_cases hb:ch+1+B<=40
    .refine⟨λh=>?_,λh=>absurd (show _/\_/\_ from⟨by push_cast;omega,by omega,.inr hb⟩) h⟩;have mk:=SD el rfl (by show fits (chn k1 t (ch+1))=true;unfold fits;simp;omega) (by omega) (by simp);refine⟨(1+((0+k)+1))+(1+((0+1+1)+1)),by omega,?_⟩;have:=Nv R1 ea rfl hg.1 hg.2 rfl hz (by simp) (by simp;omega) mk;have e:n-1-((ch:Int)+1)=n-(((ch+1:Nat):Int)+1):=by push_cast;omega
     rwa[e]at this
    .refine⟨λh=>absurd h.2.2 (by omega),λh=>?_⟩;have mk:=Ug el rfl (by show fits (chn k1 t (ch+1))=false;unfold fits;simp;omega) (by omega) (by simp);exact⟨(1+((0+k)+1))+(1+((0+1+1)+1)),by omega,Km R1 ea rfl hg.1 hg.2 rfl hz (by simp) (by simp;omega) mk⟩
   .obtain⟨k,hk,ek⟩:=i2 hi;refine⟨λh=>absurd h (by push_cast;omega),λh=>?_⟩;exact⟨(k+1)+(1+((0+1+1)+1)),by omega,Km R1 ea rfl hg.1 hg.2 rfl hz (by simp) (by simp;omega) (PN (m:=k1) (LB (es:=[]) ek) (by simp) (by omega))⟩
  .exact⟨λh=>absurd h (by push_cast;omega),λh=>⟨1+((0+1+1)+1),by omega,Ia ea rfl (by omega) (by omega) (by simp;omega)⟩⟩
end
abbrev SF:List Str:=["stock","heads","kinds_by_name","own","lessers"]
theorem QO:(("heads":Str) == "stock")=false/\(("kinds_by_name":Str) == "stock")=false/\(("kinds_by_name":Str) == "heads")=false/\(("own":Str) == "stock")=false/\(("own":Str) == "heads")=false/\(("own":Str) == "kinds_by_name")=false /\
  (("lessers":Str) == "stock")=false/\(("lessers":Str) == "heads")=false/\(("lessers":Str) == "kinds_by_name")=false/\(("lessers":Str) == "own")=false:=by decide +kernel
theorem Kh(h:fo fs=.ok (.t (.ins C gs ts)) fs)(hv:Jr gs ts f=some t):CL C f fo fs=.ok (.t t) fs:=by unfold CL;rw[h];show Sg C f (.t (.ins C gs ts)) fs=_;simp only[Sg,if_true,hv];rfl
def HQ(x:Str):T:=.tup [.str "name",.str x]
structure Sco where
 zY:Addr
 z0:Addr
 K:Kd
 k:Str
 hk:List Key
 hv:List T
 xs:List Str
 own:Str
 ls:List Str
 nk:Nat
def Sco.t(s:Sco):T:=.ins s.zY SF [stT s.z0 s.K,.l s.hk s.hv,.l (s.xs.map λx=>(.inr x:Key)) (s.xs.map λ_=>T.str s.k),.str s.own,.lst (s.ls.map HQ)]
variable{s:Sco}
theorem PD(h:fo fs=.ok (.t s.t) fs):CL s.zY "stock" fo fs=.ok (.t (stT s.z0 s.K)) fs:=Kh h (by simp[Jr])
theorem PH(h:fo fs=.ok (.t s.t) fs):CL s.zY "heads" fo fs=.ok (.t (.l s.hk s.hv)) fs:=Kh h (by simp[Jr,QO])
theorem ZQ(h:fo fs=.ok (.t s.t) fs):CL s.zY "kinds_by_name" fo fs=.ok (.t (.l (s.xs.map λx=>(.inr x:Key)) (s.xs.map λ_=>T.str s.k))) fs:=Kh h (by simp[Jr,QO])
theorem Jbx(h:fo fs=.ok (.t s.t) fs):CL s.zY "own" fo fs=.ok (.t (.str s.own)) fs:=Kh h (by simp[Jr,QO])
theorem ZP(h:fo fs=.ok (.t s.t) fs):CL s.zY "lessers" fo fs=.ok (.t (.lst (s.ls.map HQ))) fs:=Kh h (by simp[Jr,QO])
structure SOk(s:Sco):Prop where
 W:Well s.K
 one:∀kd∈s.K,kd.1=s.k
 hd:Co s.hk s.hv (.inr s.own:Key)=some (.tup [.tup (List.replicate s.nk (.str s.k)),.str s.k])
 yy:s.xs.Nodup
def Okx(s:Sco):Nat->Ex->Prop
 |0,_=>False
 |_+1,.nm x=>x∈s.xs
 |n+1,.mk m es=>(∃kd∈s.K,(m,List.replicate es.length s.k)∈kd.2)/\∀e∈es,Okx s n e
 |n+1,.cl f es=>f=s.own/\es.length=s.nk/\(∃x∈s.ls,es[0]?=some (.nm x))/\∀e∈es,Okx s n e
theorem J9(x:Str):∀ls:List Str,TZ (HQ x) (ls.map HQ)=some (decide (x∈ls))
 | []=>by simp[TZ]
 |y::ls=>by
  have e:eqT 9 (HQ y) (HQ x)=some (decide (y=x)):=by unfold HQ;rw[Jb];simp only[Jt,LD];by_cases h:y=x<;>simp[h]
  rw[sG,TZ,e,J9 x ls];by_cases h:y=x
  .simp[h]
  .have h2:¬x=y:=λz=>h z.symm
   simp[h,h2]
theorem ninT{fa}{ls:List Str}(h1:fa fs=.ok (.t (HQ x)) fs)(h2:fb fs=.ok (.t (.lst (ls.map HQ))) fs)(h:x∈ls):asB (Ag Kc fa fb) fs=.ok false fs:=by refine Bs (Ak h1 h2 ?_);unfold Kc;simp only[Cu,tV,J9,h,decide_true];rfl
theorem NQ{f}:∀{xs:List Str}{ys:List α}{i:Nat}{x:Str}{y:α},xs.Nodup->xs.length=ys.length->xs[i]?=some x->ys[i]?=some y->Co (xs.map λx=>(.inr x:Key)) (ys.map f) (.inr x:Key)=some (f y)
 | [],_,i,x,y,_,_,e,_=>by simp at e
 |a::xs,[],i,x,y,_,hl,_,_=>by simp at hl
 |a::xs,b::ys,0,x,y,_,_,e1,e2=>by simp at e1 e2;subst e1 e2;simp[Co]
 |a::xs,b::ys,i+1,x,y,nd,hl,e1,e2=>by
  simp at e1 e2 hl;have ne:¬a=x:=λz=>(tu.mp nd).1 (z▸(uc e1))
  have:=NQ (f:=f) (tu.mp nd).2 hl e1 e2;simp[Co,ne];simpa using this
theorem Uw(O:SOk s)(h:x∈s.xs):Co (s.xs.map λx=>(.inr x:Key)) (s.xs.map λ_=>T.str s.k) (.inr x:Key)=some (.str s.k):=by
 obtain⟨i,hi,e⟩:=uN h;have e1:s.xs[i]?=some x:=by rw[sL hi,e]
 exact NQ O.yy rfl e1 e1
theorem Cg(O:SOk s)(h:x∈s.xs):B8 s.zY [vl s.t,vl (.str x)]=.ok (.t (.str s.k)) [vl s.t,vl (.str x)]:=by exact(BB (sq (AW (Bs (Ak (Am (Aa rfl)) (ZQ (Aa rfl)) (by rw[TY,Uw O h];rfl))) rfl) (AR (Ak (ZQ (Aa rfl)) (Am (Aa rfl)) (IX (Uw O h)))))).trans rfl
theorem QK:(["makers_by_kind","parts_by_maker","home_by_maker"]:List Str).any (·==("kinds":Str))=false/\(["makers_by_kind","parts_by_maker","home_by_maker"]:List Str).any (·==("makers":Str))=false/\(["makers_by_kind","parts_by_maker","home_by_maker"]:List Str).any (·==("parts":Str))=false:=by decide +kernel
theorem V5{ps}(O:SOk s)(hk:kd∈s.K)(hr:(m,ps)∈kd.2):Bt s.zY s.z0 [vl s.t,vl (.str "make"),vl (.str m)]=.ok (.t (.tup [.tup (ps.map T.str),.str s.k])) [vl s.t,vl (.str "make"),vl (.str m)]:=by exact(BB (n:=0) (g:=D4 s.zY s.z0) (args:=[vl s.t,vl (.str "make"),vl (.str m)]) (Ea (DV rfl (AR (BU (g:=Ar) (ts:=[.tup (ps.map T.str),.str s.k]) (Ao (Am (Ru (ts:=[.str m]) (PD (Aa rfl)) (EK QK.2.2) (Ae (Am (Aa rfl)) Au) rfl (LS O.W hk hr))) (Ao (by have:=O.one kd hk;rw[<- this];exact Am (Ru (ts:=[.str m]) (PD (Aa rfl)) (EK RL) (Ae (Am (Aa rfl)) Au) rfl (UJ O.W hk hr))) Au)) rfl (show 2<=big by decide) rfl))))).trans rfl
theorem V6(O:SOk s):Bt s.zY s.z0 [vl s.t,vl (.str "call"),vl (.str s.own)]=.ok (.t (.tup [.tup (List.replicate s.nk (.str s.k)),.str s.k])) [vl s.t,vl (.str "call"),vl (.str s.own)]:=by have c:asB (Ag (gEq false) (Ab 1) (gc (.str ("make":Str)))) [vl s.t,vl (.str "call"),vl (.str s.own)]=.ok false [vl s.t,vl (.str "call"),vl (.str s.own)]:=rfl;exact(BB (sq (AW c rfl) (sq (AW (Bs (Ak (Am (Aa rfl)) (PH (Aa rfl)) (by rw[TY,O.hd];rfl))) rfl) (AR (Ak (PH (Aa rfl)) (Am (Aa rfl)) (IX O.hd)))))).trans rfl
theorem Xi{f}{j}{y}(h:f fs=.ok (.t (.tup [x,y,z])) aj)(h1:tgN i x aj=some aA)(h2:tgN j y aA=some dZ)(h3:tgN k z dZ=some aq):Hk f (AY 3 (Af (tgN i) (Af (tgN j) (Af (tgN k) AQ)))) fs=.nx aq:=by
 have g:AY 3 (Af (tgN i) (Af (tgN j) (Af (tgN k) AQ))) (.tup [x,y,z]) aj=some aq:=by show(Af (tgN i) (Af (tgN j) (Af (tgN k) AQ))) [x,y,z] aj=_;simp only[Af,h1,h2,h3,tV];rfl
 unfold Hk;rw[h];simp only[SO.of,g]
theorem Jb2{f}{j}{m}{v}{y}(h:f fs=.ok (.t (.tup [x,y,z,u,v])) aj)(h1:tgN i x aj=some aA)(h2:tgN j y aA=some dZ)(h3:tgN k z dZ=some dG)(h4:tgN l u dG=some fs5)(h5:tgN m v fs5=some aq):
  Hk f (AY 5 (Af (tgN i) (Af (tgN j) (Af (tgN k) (Af (tgN l) (Af (tgN m) AQ)))))) fs=.nx aq:=by
 have g:AY 5 (Af (tgN i) (Af (tgN j) (Af (tgN k) (Af (tgN l) (Af (tgN m) AQ))))) (.tup [x,y,z,u,v]) aj=some aq:=by show(Af (tgN i) (Af (tgN j) (Af (tgN k) (Af (tgN l) (Af (tgN m) AQ))))) [x,y,z,u,v] aj=_;simp only[Af,h1,h2,h3,h4,h5,tV];rfl
 unfold Hk;rw[h];simp only[SO.of,g]
theorem Z9{f}(h:f fs=.ok false aj):Qp f g fs=.ok false aj:=by unfold Qp;rw[h];rfl
theorem Ut{f}(h:f fs=.ok true aj)(e:g aj=r):Qp f g fs=r:=by unfold Qp;rw[h];exact e
theorem JbW{fa}(h1:fa fs=.ok (.t (.str z)) fs)(h2:fb fs=.ok (.t (.str z)) fs):asB (Ag (gEq true) fa fb) fs=.ok false fs:=by refine Bs (Ak h1 h2 ?_);simp[gEq,plV,okT,show Ob (V.str z) (V.str z)=true from rfl]
theorem Jak{fa}{m}(h1:fa fs=.ok (.t (.int n)) fs)(h2:fb fs=.ok (.t (.int m)) fs)(h:n=m):asB (Ag (gEq true) fa fb) fs=.ok false fs:=by subst h;refine Bs (Ak h1 h2 ?_);simp[gEq,plV,okT,show Ob (V.int n) (V.int n)=true from rfl]
abbrev kwB(rec:FS->Out Rv):FS->SO:=ifS (asB (Ag (gEq true) (fz (Aj (Al 2 rec) (Ad (fz (Ab 0)) (Ad (fz (Ab 7)) Ai)))) (Ab 8))) (λ_=>.bad) nxS
theorem OX{k}{x3}:∀(es:List Ex)(y7 y8:Option Sl),Fre y7->Fre y8->(∀e∈es,rec [vl S,vl e.t]=.ok (.t (.str k)) [vl S,vl e.t])->∃z7 z8,DX (AY 2 (Af (tgN 7) (Af (tgN 8) AQ))) (kwB rec) (es.map λe=>.tup [e.t,.str k]) [vl S,x1,x2,x3,x4,x5,x6,y7,y8]=.nx [vl S,x1,x2,x3,x4,x5,x6,z7,z8]
 | [],y7,y8,_,_,_=>⟨y7,y8,by simp[DX]⟩
 |e::es,y7,y8,f7,f8,h=>by
  obtain⟨z7,z8,lp⟩:=OX es (vl e.t) (vl (.str k)) AG AG λe m=>h e (sN _ m)
  refine⟨z7,z8,?_⟩;have b:kwB rec [vl S,x1,x2,x3,x4,x5,x6,vl e.t,vl (.str k)]=.nx [vl S,x1,x2,x3,x4,x5,x6,vl e.t,vl (.str k)] :=
   AW (JbW (Am (BY (Ae (Am (Aa rfl)) (Ae (Am (Aa rfl)) Au)) rfl rfl (h e tL))) (Aa rfl)) rfl
  rw[sG,DH (DC (by exact tg rfl f7) (by exact tg rfl f8)) b,lp]
theorem JR(k:Str):∀es:List Ex,FL.pairs (es.map Ex.t) (List.replicate es.length (.str k))=es.map λe=>.tup [e.t,.str k]
 | []=>rfl
 |e::es=>by rw[sG,tj,uC,FL.pairs,JR k es];rfl
theorem OW(he:∀e∈es,rec [vl s.t,vl e.t]=.ok (.t (.str s.k)) [vl s.t,vl e.t])
  (ht:Qp (asB (Ag (gEq false) (Ab 2) (gc (.str ("call":Str))))) (Qp (asB (Ag (gEq false) (Ab 3) (CL s.zY "own" (Ab 0)))) (asB (Ag Kc (Ag AF (Ab 4) (gc (.int 0))) (CL s.zY "lessers" (Ab 0))))) [vl s.t,x1,vl (.str aG),vl (.str h),vl (.tup (es.map Ex.t)),vl (.tup (List.replicate es.length (.str s.k))),vl (.str s.k),none,none]=.ok false [vl s.t,x1,vl (.str aG),vl (.str h),vl (.tup (es.map Ex.t)),vl (.tup (List.replicate es.length (.str s.k))),vl (.str s.k),none,none]) :
  ∃z7 z8,(Av (ifS (asB (Ag (gEq true) (Aj Bx (Ac (Ab 4) Ai)) (Aj Bx (Ac (Ab 5) Ai)))) (λ_=>.bad) nxS)
  (Av (ifS (Qp (asB (Ag (gEq false) (Ab 2) (gc (.str ("call":Str))))) (Qp (asB (Ag (gEq false) (Ab 3) (CL s.zY "own" (Ab 0)))) (asB (Ag Kc (Ag AF (Ab 4) (gc (.int 0))) (CL s.zY "lessers" (Ab 0)))))) (λ_=>.bad) nxS)
  (Av (Dr (itZ (Ab 4) (Ab 5)) (AY 2 (Af (tgN 7) (Af (tgN 8) AQ))) (kwB rec))
  (retS (Ab 6))))) [vl s.t,x1,vl (.str aG),vl (.str h),vl (.tup (es.map Ex.t)),vl (.tup (List.replicate es.length (.str s.k))),vl (.str s.k),none,none]=.ret (.t (.str s.k)) [vl s.t,x1,vl (.str aG),vl (.str h),vl (.tup (es.map Ex.t)),vl (.tup (List.replicate es.length (.str s.k))),vl (.str s.k),z7,z8]:=by
 obtain⟨z7,z8,lp⟩:=OX (x6:=vl (.str s.k)) es none none Aq Aq he;refine⟨z7,z8,?_⟩;have hz:itZ (Ab 4) (Ab 5) [vl s.t,x1,vl (.str aG),vl (.str h),vl (.tup (es.map Ex.t)),vl (.tup (List.replicate es.length (.str s.k))),vl (.str s.k),none,none]=.ok (FL.pairs (es.map Ex.t) (List.replicate es.length (.str s.k))) [vl s.t,x1,vl (.str aG),vl (.str h),vl (.tup (es.map Ex.t)),vl (.tup (List.replicate es.length (.str s.k))),vl (.str s.k),none,none]:=rfl;refine sq (AW (Jak (BP (f:=Ab 4) (fs:=[vl s.t,x1,vl (.str aG),vl (.str h),vl (.tup (es.map Ex.t)),vl (.tup (List.replicate es.length (.str s.k))),vl (.str s.k),none,none]) (ts:=es.map Ex.t) (Aa rfl) (.inr rfl)) (BP (f:=Ab 5) (fs:=[vl s.t,x1,vl (.str aG),vl (.str h),vl (.tup (es.map Ex.t)),vl (.tup (List.replicate es.length (.str s.k))),vl (.str s.k),none,none]) (ts:=List.replicate es.length (.str s.k)) (Aa rfl) (.inr rfl)) (by simp)) rfl) (sq (AW ht rfl) (sq ?_ (AR (Aa rfl))));unfold Dr;rw[hz,JR];exact lp
theorem Be(O:SOk s):∀(n:Nat)(e:Ex),Okx s n e->AS s.zY s.z0 n [vl s.t,vl e.t]=.ok (.t (.str s.k)) [vl s.t,vl e.t]
 |0,e,h=>h.elim
 |n+1,.nm x,h=>by have et:(Ex.nm x).t=.tup [.str "name",.str x]:=rfl;rw[et];have c:asB (Ag (gEq false) (Ag AF (Ab 1) (gc (.int 0))) (gc (.str ("name":Str)))) [vl s.t,vl (.tup [.str "name",.str x]),none,none,none,none,none,none,none]=.ok true [vl s.t,vl (.tup [.str "name",.str x]),none,none,none,none,none,none,none]:=rfl;exact(BB (Ea (DV c (AR (BY (Ae (Am (Aa rfl)) (Ae (ix (Aa rfl) rfl) Au)) rfl rfl (Cg O h)))))).trans rfl
 |n+1,.mk m es,h=>by
  obtain⟨⟨kd,hk,hr⟩,ha⟩:=h;have et:(Ex.mk m es).t=.tup [.str "make",.str m,.tup (es.map Ex.t)]:=by simp[Ex.t,Ex.Ct]
  rw[et];have c:asB (Ag (gEq false) (Ag AF (Ab 1) (gc (.int 0))) (gc (.str ("name":Str)))) [vl s.t,vl (.tup [.str "make",.str m,.tup (es.map Ex.t)]),none,none,none,none,none,none,none]=.ok false [vl s.t,vl (.tup [.str "make",.str m,.tup (es.map Ex.t)]),none,none,none,none,none,none,none]:=rfl;have hm:=V5 O hk hr;rw[List.map_replicate]at hm;obtain⟨z7,z8,tl⟩:=OW (es:=es) (λe m=>Be O n e (ha e m)) (Z9 (by rw[GQ (x:="make") (y:="call") (Aa rfl) AB];simp[Ne.symm GK.2.2]));exact(BB (n:=7) (g:=CB s.zY s.z0 (AS s.zY s.z0 n)) (args:=[vl s.t,vl (.tup [.str "make",.str m,.tup (es.map Ex.t)])]) (sq (AW c rfl) (sq (Xi (Am (Aa rfl)) rfl rfl rfl) (sq (Z5 (Am (BY (rs:=[.t s.t,.t (.str "make"),.t (.str m)]) (Ae (Am (Aa rfl)) (Ae (Am (Aa rfl)) (Ae (Am (Aa rfl)) Au))) rfl rfl hm)) rfl rfl) tl)))).trans rfl
 |n+1,.cl f es,h=>by
  obtain⟨rfl,hl,⟨x,hx,e0⟩,ha⟩:=h;have et:(Ex.cl s.own es).t=.tup [.str "call",.str s.own,.tup (es.map Ex.t)]:=by simp[Ex.t,Ex.Ct]
  rw[et];have hm:=V6 O;rw[<- hl]at hm;obtain⟨z7,z8,tl⟩:=OW (s:=s) (rec:=AS s.zY s.z0 n) (aG:="call") (h:=s.own) (x1:=vl (.tup [.str "call",.str s.own,.tup (es.map Ex.t)])) (es:=es) (λe m=>Be O n e (ha e m)) (Ut ((GQ (x:="call") (y:="call") (Aa rfl) AB).trans (by rw[tw rfl])) (Ut ((GQ (x:=s.own) (y:=s.own) (Aa rfl) (Jbx (Aa rfl))).trans (by rw[tw rfl])) (ninT (ix (i:=0) (Aa rfl) (by rw[tO,e0];simp[Ex.t,HQ])) (ZP (Aa rfl)) hx)));exact(BB (n:=7) (g:=CB s.zY s.z0 (AS s.zY s.z0 n)) (args:=[vl s.t,vl (.tup [.str "call",.str s.own,.tup (es.map Ex.t)])]) (sq (AW rfl rfl) (sq (Xi (Am (Aa rfl)) rfl rfl rfl) (sq (Z5 (Am (BY (rs:=[.t s.t,.t (.str "call"),.t (.str s.own)]) (Ae (Am (Aa rfl)) (Ae (Am (Aa rfl)) (Ae (Am (Aa rfl)) Au))) rfl rfl hm)) rfl rfl) tl)))).trans rfl
abbrev Tg(x:Str):Prop:=A2 [vl (.str x)]=.ok (.t (.o true)) [vl (.str x)]
abbrev cnB:FS->SO:=(Av (ifS (Ft (Hj (fz (Aj (Al 1 A2) (Ad (fz (Ab 2)) Ai))))) (λ_=>.bad) nxS)
  (Av (ifS (asB (Ag (DL false) (fz (Ab 2)) (Ab 1))) (λ_=>.bad) nxS)
  (Dh (gc (.o true)) (Ab 1) (fz (Ab 2)))))
theorem P5{x0}:∀(xs:List Str)(ks:List Str)(vs:List T)(y2:Option Sl),Fre y2->(ks++xs).Nodup->(∀x∈xs,Tg x)->ks.length+xs.length<=1000->∃z1 z2,DX (tgN 2) cnB (xs.map T.str) [x0,some (.own (.l (ks.map λx=>(.inr x:Key)) vs)),y2]=.nx [x0,z1,z2]
 | [],ks,vs,y2,_,_,_,_=>⟨some (.own (.l (ks.map λx=>(.inr x:Key)) vs)),y2,by simp only[ud,DX]⟩
 |x::xs,ks,vs,y2,f2,nd,hn,hl=>by
  rw[tj]at hl;obtain⟨z1,z2,e⟩:=P5 xs (ks++[x]) (vs++[.o true]) (vl (.str x)) AG (by simpa using nd) (λy m=>hn y (sN _ m)) (by rw[tM];simp;omega);refine⟨z1,z2,?_⟩;have b0:(.inr x:Key)∉ks.map λx=>(.inr x:Key):=YX (λm=>(sI.mp nd).2.2 x m x (by simp) rfl)
  have b:cnB [x0,some (.own (.l (ks.map λx=>(.inr x:Key)) vs)),vl (.str x)]=.nx [x0,some (.own (.l ((ks++[x]).map λx=>(.inr x:Key)) (vs++[.o true]))),vl (.str x)]:=by refine sq (Ka (CO (Cp (IZ (BY (Ae (Am (Aa rfl)) Au) rfl rfl (hn x tL))))) rfl) ?_;refine sq (AW (Bs (Jl (Am (Aa rfl)) (Dw rfl) (by rw[V3 (Jaj rfl),DN b0];rfl))) rfl) ?_;exact JJ rfl AB (Am (Aa rfl)) (any_false b0) (by show _<1000000;rw[sH];omega) (by rw[tf];rfl)
  rw[sG,DH (tg rfl f2) b,e]
theorem CS(nd:xs.Nodup)(hn:∀x∈xs,Tg x)(hl:xs.length<=1000):CA [vl (.lst (xs.map T.str))]=.ok (.t .v) [vl (.lst (xs.map T.str))]:=by
 obtain⟨z1,z2,e⟩:=P5 xs [] [] none Aq (by simpa using nd) hn (by simpa using hl);have all:DA [vl (.lst (xs.map T.str)),none,none]=.nx [vl (.lst (xs.map T.str)),z1,z2]:=by refine sq (show AN 1 EL _=.nx [vl (.lst (xs.map T.str)),some (.own (.l [] [])),none]from rfl) ?_;unfold Dr;rw[GC (Am (Aa rfl))];exact e
 show Bo 2 DA _=_;unfold Bo;rw[show [vl (.lst (xs.map T.str))]++List.replicate 2 none=[vl (.lst (xs.map T.str)),none,none]from rfl,all];rfl
theorem Ja8(ho:fo fs=.ok (.t x) aj)(hi:DU C m aj (.t x)=true)(ha:fa aj=.ok (ts.map Rv.t) aA)(hp:ts.length+1=p)(hf:Fn ((x::ts).map vl)=.ok (.nw o) τ):BH C m p Fn fo fa fs=.ok (.nw o) aA:=by unfold BH;rw[ho];show(if DU C m aj (.t x)=true then _ else _)=_;rw[if_pos hi,ha];show Al p Fn ((x::ts).map Rv.t) aA=_;have e1:=RM (x::ts);exact Qd (by simpa using hp) (by rw[e1];exact J3 _) (by rw[e1,Pa];exact hf)
theorem Gy{f}(h:f fs=.ok (.t (.tup ts)) fs):fz (Aj Cw (Ac f Ai)) fs=.ok (.t (.lst ts)) fs:=Fe (o:=.lst ts) (BV (Ao h Au) rfl)
variable{z0:Addr}
section
variable{K:Kd}(W:Well K)
include W
theorem Lh{f}(m:kd∈K)(hi:fs[i]?=some (vl (stT z0 K)))(hf:f fs=.ok (.t (.str kd.1)) fs):fz (BH z0 "makers" 2 (AD z0) (fz (Ab i)) (Ad f Ai)) fs=.ok (.t (.lst ((kd.2.map (·.1)).map T.str))) fs :=
 Fe (Ja8 (ts:=[.str kd.1]) (Am (Aa hi)) (EK QK.2.1) (Ae hf Au) rfl (N8 W m))
omit W in
theorem HS(hi:fs[i]?=some (vl (stT z0 K))):fz (Hx z0 "kinds" 1 (AU z0) (fz (Ab i)) Ai) fs=.ok (.t (.lst ((K.map (·.1)).map T.str))) fs :=
 Fe (Rx (Am (Aa hi)) (EK QK.1) QL)
theorem EJ(hx:x∉mks K):Dk z0 [vl (stT z0 K),vl (.str x)]=.ok (.t (.o false)) [vl (stT z0 K),vl (.str x)]:=by
 obtain⟨y,_,e⟩:=ER (fe:=Ag (DL false) (fz (Ab 1)) (fz (BH z0 "makers" 2 (AD z0) (fz (Ab 2)) (Ad (fz (Ab 0)) Ai)))) (q:=λ_=>T.o false) (rest:=[vl (.str x),vl (stT z0 K)]) K none [] Aq (λkd m=>by
  refine Ak (Am (Aa (t:=.str x) rfl)) (Lh W m rfl (Am (Aa rfl))) ?_;rw[Pc];have:x∉kd.2.map (·.1):=λh=>hx (uV.mpr ⟨kd,m,h⟩)
  simp only[this,decide_false];rfl) (by show _<=1000000;have:=W.hi;simp;omega)
 have e3:=DZ (src:=[none,some 1,some 0]) (fi:=itU (fz (Hx z0 "kinds" 1 (AU z0) (fz (Ab 0)) Ai))) (fs:=[vl (stT z0 K),vl (.str x)]) (ts:=K.map λkd=>T.str kd.1) (by have:=HS (z0:=z0) (K:=K) (i:=0) (fs:=[vl (stT z0 K),vl (.str x)]) rfl;rw[tU]at this;exact GC this) ⟨sY,rfl⟩ e (AV rfl);rw[tS]at e3;exact(BB (n:=0) (g:=Ik z0) (args:=[vl (stT z0 K),vl (.str x)]) (AR (by
  refine BV (Ao e3 Au) ?_;have eb:Dp (K.map λ_=>T.o false)=some (K.map λ_=>false):=by have:=Hh (K.map λ_=>false);rwa[tU]at this
  have en:(K.map λ_=>false).any id=false:=by simp
  simp only[Ze,Cu,tV,eb,en];rfl))).trans rfl
structure Fd where
 nm:Str
 zX:List Str
 rows:List (Str×List Str×Ex)
def Fd.kT(k:Str)(g:Fd):T:=.tup (List.replicate (1+g.zX.length) (.str k))
def rwT(r:Str×List Str×Ex):T:=.tup [.tup (r.2.1.map T.str),r.2.2.t]
def Fd.t(k:Str)(g:Fd):T:=.tup [.str g.nm,g.kT k,.str k,.tup (g.zX.map T.str),.tup (g.rows.map rwT)]
theorem Dn{g:Fd}(cY:kd∈K)(hn:Tg g.nm)(qD:(.inr g.nm:Key)∉hk)(jV:g.nm∉mks K)(ho:g.zX.length<=2)(hr:g.rows.length=kd.2.length):
  Ci z0 [vl (stT z0 K),vl (.l hk hv),vl (g.t kd.1)]=.ok (.t .v) [vl (stT z0 K),vl (.l hk hv),vl (g.t kd.1)]:=by
 generalize hF:(λx8:Option Sl=>[vl (stT z0 K),vl (.l hk hv),vl (g.t kd.1),vl (.str g.nm),vl (g.kT kd.1),vl (.str kd.1),vl (.tup (g.zX.map T.str)),vl (.tup (g.rows.map rwT)),x8])=F;have F0:∀x,(F x)[0]?=some (vl (stT z0 K)):=λx=>by subst hF;rfl
 have F3:∀x,(F x)[3]?=some (vl (.str g.nm)):=λx=>by subst hF;rfl
 have F4:∀x,(F x)[4]?=some (vl (g.kT kd.1)):=λx=>by subst hF;rfl
 have F6:∀x,(F x)[6]?=some (vl (.tup (g.zX.map T.str))):=λx=>by subst hF;rfl
 have F7:∀x,(F x)[7]?=some (vl (.tup (g.rows.map rwT))):=λx=>by subst hF;rfl
 have F8:∀x,(F x)[8]?=some x:=λx=>by subst hF;rfl
 have Fs:∀x y,(F x).set 8 y=F y:=λx y=>by subst hF;rfl
 have ib:Hk (fz (Ab 2)) (AY 5 (Af (tgN 3) (Af (tgN 4) (Af (tgN 5) (Af (tgN 6) (Af (tgN 7) AQ)))))) [vl (stT z0 K),vl (.l hk hv),vl (g.t kd.1),none,none,none,none,none,none]=.nx (F none):=by subst hF;exact rfl
 have c2:∀x,orT (asB (Ag (DL false) (fz (Ab 3)) (Ab 1))) (Hj (fz (Aj (Al 2 (Dk z0)) (Ad (fz (Ab 0)) (Ad (fz (Ab 3)) Ai))))) (F x)=.ok false (F x):=λx =>Yo (Bs (Ak (Am (Aa (F3 x))) (Aa (by subst hF;rfl)) (by rw[TY,DN qD];rfl))) (Cp (Am (BY (Ae (Am (Aa (F0 x))) (Ae (Am (Aa (F3 x))) Au)) rfl rfl (EJ W jV))))
 have l4:∀x,Aj Bx (Ac (Ab 4) Ai) (F x)=.ok (.t (.int ((1+g.zX.length:Nat):Int))) (F x):=λx=>by have:=BP (Aa (F4 x)) (.inr rfl);rwa[List.length_replicate]at this
 have hx:∀ts:List T,(∀t∈ts,t=T.str kd.1)->∀x,Fre x->∃y,DX (tgN 8) (ifS (asB (Ag (DL true) (fz (Ab 8)) (fz (Hx z0 "kinds" 1 (AU z0) (fz (Ab 0)) Ai)))) (λ_=>.bad) nxS) ts (F x)=.nx (F y):=by
  intro ts
  induction ts with
  |nil=>exact λ_ x _=>⟨x,rfl⟩
  |cons t ts ih =>
   intro h x fx;obtain⟨y,e⟩:=ih (λt m=>h t (sN _ m)) (vl (.str kd.1)) AG;refine⟨y,?_⟩;have bb:ifS (asB (Ag (DL true) (fz (Ab 8)) (fz (Hx z0 "kinds" 1 (AU z0) (fz (Ab 0)) Ai)))) (λ_=>.bad) nxS (F (vl (.str kd.1)))=.nx (F (vl (.str kd.1))) :=
    AW (Bs (Ak (Am (Aa (F8 _))) (HS (F0 _)) (by rw[Pc];simp only[show kd.1∈K.map (·.1)from tQ.mpr ⟨kd,cY,rfl⟩,decide_true];rfl))) rfl
   rw[h t tL,DH ((tg (F8 x) fx).trans (by rw[Fs])) bb,e]
 obtain⟨y,lp⟩:=hx (List.replicate (1+g.zX.length) (T.str kd.1)++[T.str kd.1]) (λt m=>by
  rcases sW.mp m with m|m
  .exact(List.mem_replicate.mp m).2
  .simpa using m) none Aq
 have s5:Dr (itU (fz (Ag Ay (fz (Aj Cw (Ac (Ab 4) Ai))) (An Cz (Ac (fz (Ab 5)) Ai))))) (tgN 8) (ifS (asB (Ag (DL true) (fz (Ab 8)) (fz (Hx z0 "kinds" 1 (AU z0) (fz (Ab 0)) Ai)))) (λ_=>.bad) nxS) (F none)=.nx (F y):=by unfold Dr;rw[GC (GY (Gy (Aa (F4 none))) (FY (Ao (Am (Aa (by subst hF;rfl))) Au) rfl (show 1<=big by decide)) (by show _<=1000000;simp;omega))];exact lp
 have c6:asB (Ag (gEq true) (Aj Bx (Ac (Ab 6) Ai)) (Ag Dj (Aj Bx (Ac (Ab 4) Ai)) (gc (.int 1)))) (F y)=.ok false (F y) :=
  Jak (by
  have:=BP (Aa (F6 y)) (.inr rfl);rwa[sH]at this) (Ak (l4 y) AB (by rw[HY,show((1+g.zX.length:Nat):Int)-1=(g.zX.length:Int) by push_cast;omega])) rfl
 have l8:Aj Bx (Ac (fz (BH z0 "makers" 2 (AD z0) (fz (Ab 0)) (Ad (Ag AF (Ab 4) (gc (.int 0))) Ai))) Ai) (F y)=.ok (.t (.int (kd.2.length:Int))) (F y):=by have:=BP (Lh W cY (F0 y) (ix (i:=0) (ts:=List.replicate (1+g.zX.length) (.str kd.1)) (Aa (F4 y)) (by rw[uE];simp))) (.inl rfl);rwa[sH,sH]at this
 have all:D5 z0 [vl (stT z0 K),vl (.l hk hv),vl (g.t kd.1),none,none,none,none,none,none]=.nx (F y) :=
  sq ib (sq (AW (CO (Cp (Am (BY (Ae (Am (Aa (F3 _))) Au) rfl rfl hn)))) rfl) (sq (AW (c2 _) rfl) (sq (AW (Jh AB (l4 _) AB (by omega) (by omega)) rfl) (sq s5 (sq (AW c6 rfl) (AW (Jak (by
  have:=BP (ts:=g.rows.map rwT) (Aa (F7 y)) (.inr rfl);rwa[sH,hr]at this) l8 rfl) rfl))))))
 show Bo 6 (D5 z0) _=_;unfold Bo;rw[show [vl (stT z0 K),vl (.l hk hv),vl (g.t kd.1)]++List.replicate 6 none=[vl (stT z0 K),vl (.l hk hv),vl (g.t kd.1),none,none,none,none,none,none]from rfl,all];subst hF;rfl
end
theorem Kw{p}{rest}:∀(xs:List α)(x:Option Sl)(ax:List T),Fre x->(∀a∈xs,ft (vl (p a)::rest)=.ok true (vl (p a)::rest))->(∀a∈xs,fe (vl (p a)::rest)=.ok (.t (q a)) (vl (p a)::rest))->ax.length+xs.length<=big ->
  ∃y,Fre y/\CY (tgN 0) ft fe (xs.map p) (x::rest) ax=some (ax++xs.map q,y::rest)
 | [],x,ax,hx,_,_,_=>⟨x,hx,by simp[CY]⟩
 |a::xs,x,ax,hx,ht,h,hl=>by
  obtain⟨y,hy,e⟩:=Kw xs (vl (p a)) (ax++[q a]) AG (λb m=>ht b (sN _ m)) (λb m=>h b (sN _ m)) (by simp at hl ⊢;omega);refine⟨y,hy,?_⟩;have h1:tgN 0 (p a) (x::rest)=some (vl (p a)::rest):=tg rfl hx;have h3:ax.length<big:=by simp at hl;omega
  simp only[sG,CY,h1,ht a tL,h a tL,if_pos h3,e];simp
theorem MW:BK s.zY [some (.bor (.ins s.zY [] [])),vl (stT s.z0 s.K),vl (.l s.hk s.hv),vl (.l (s.xs.map λx=>(.inr x:Key)) (s.xs.map λ_=>T.str s.k)),vl (.str s.own),vl (.lst (s.ls.map HQ))] =
  .ok (.t .v) [some (.bor (.ins s.zY SF [.val (stT s.z0 s.K),.val (.l s.hk s.hv),.val (.l (s.xs.map λx=>(.inr x:Key)) (s.xs.map λ_=>T.str s.k)),.val (.str s.own),.val (.lst (s.ls.map HQ))])),vl (stT s.z0 s.K),vl (.l s.hk s.hv),vl (.l (s.xs.map λx=>(.inr x:Key)) (s.xs.map λ_=>T.str s.k)),vl (.str s.own),vl (.lst (s.ls.map HQ))]:=by
 have h1:("stock":Str)≠"heads"/\("stock":Str)≠"kinds_by_name"/\("stock":Str)≠"own"/\("stock":Str)≠"lessers"/\("heads":Str)≠"kinds_by_name"/\("heads":Str)≠"own"/\("heads":Str)≠"lessers"/\("kinds_by_name":Str)≠"own"/\("kinds_by_name":Str)≠"lessers"/\("own":Str)≠"lessers":=by decide +kernel
 generalize ea:stT s.z0 s.K=A;generalize eb:T.l s.hk s.hv=B;generalize ec:T.l (s.xs.map λx=>(.inr x:Key)) (s.xs.map λ_=>T.str s.k)=D;generalize ed:T.str s.own=E;generalize ee:T.lst (s.ls.map HQ)=F;have all:D6 s.zY [some (.bor (.ins s.zY [] [])),vl A,vl B,vl D,vl E,vl F]=.nx [some (.bor (.ins s.zY SF [.val A,.val B,.val D,.val E,.val F])),vl A,vl B,vl D,vl E,vl F]:=by refine sq (T9 (Am (Aa rfl)) rfl (by simp) rfl rfl) ?_;refine sq (T9 (dq:=["stock","heads"]) (cj:=[.val A,.val B]) (Am (Aa rfl)) rfl (by simp) (by simp[CW,h1]) rfl) ?_;refine sq (T9 (C:=s.zY) (gs:=["stock","heads"]) (os:=[.val A,.val B]) (dq:=["stock","heads","kinds_by_name"]) (cj:=[.val A,.val B,.val D]) (Am (Aa rfl)) rfl (by simp) (by simp[CW,h1]) rfl) ?_;refine sq (T9 (C:=s.zY) (gs:=["stock","heads","kinds_by_name"]) (os:=[.val A,.val B,.val D]) (dq:=["stock","heads","kinds_by_name","own"]) (cj:=[.val A,.val B,.val D,.val E]) (Am (Aa rfl)) rfl (by simp) (by simp[CW,h1]) rfl) ?_;exact T9 (C:=s.zY) (gs:=["stock","heads","kinds_by_name","own"]) (os:=[.val A,.val B,.val D,.val E]) (dq:=SF) (cj:=[.val A,.val B,.val D,.val E,.val F]) (Am (Aa rfl)) rfl (by simp) (by simp[CW,h1]) rfl
 show Bo 0 (D6 s.zY) _=_;unfold Bo;rw[show [some (Sl.bor (.ins s.zY [] [])),vl A,vl B,vl D,vl E,vl F]++List.replicate 0 none=[some (.bor (.ins s.zY [] [])),vl A,vl B,vl D,vl E,vl F]from rfl,all];rfl
variable{zY:Addr}{g:Fd}{hk:List Key}{hv:List T}
section
variable{K:Kd}{kd:Str×List (Str×List Str)}
abbrev sco(zY z0:Addr)(K:Kd)(k:Str)(hk:List Key)(hv:List T)(g:Fd)(ys:List Str):Sco:=⟨zY,z0,K,k,hk,hv,ys++g.zX,g.nm,ys,1+g.zX.length⟩
theorem D1(O:SOk (sco zY z0 K kd.1 hk hv g ys))(cY:kd∈K)(hm:(m,List.replicate ys.length kd.1)∈kd.2)(hn:∀x∈ys++g.zX,Tg x)(hl:ys.length+g.zX.length<=100)(hb:Okx (sco zY z0 K kd.1 hk hv g ys) 8 body):
  B3 zY z0 [vl (stT z0 K),vl (.l hk hv),vl (g.t kd.1),vl (.str m),vl (rwT (m,ys,body))]=.ok (.t .v) [vl (stT z0 K),vl (.l hk hv),vl (g.t kd.1),vl (.str m),vl (rwT (m,ys,body))]:=by
 generalize hF:(λrN rP rQ:Option Sl=>[vl (stT z0 K),vl (.l hk hv),vl (g.t kd.1),vl (.str m),vl (rwT (m,ys,body)),vl (.str g.nm),vl (g.kT kd.1),vl (.str kd.1),vl (.tup (g.zX.map T.str)),vl (.tup (g.rows.map rwT)),vl (.tup (ys.map T.str)),vl body.t,rN,rP,rQ])=F;have F0:∀x y z,(F x y z)[0]?=some (vl (stT z0 K)):=λx y z=>by subst hF;rfl
 have F1:∀x y z,(F x y z)[1]?=some (vl (.l hk hv)):=λx y z=>by subst hF;rfl
 have F5:∀x y z,(F x y z)[5]?=some (vl (.str g.nm)):=λx y z=>by subst hF;rfl
 have F6:∀x y z,(F x y z)[6]?=some (vl (g.kT kd.1)):=λx y z=>by subst hF;rfl
 have kP:∀x y z,(F x y z)[10]?=some (vl (.tup (ys.map T.str))):=λx y z=>by subst hF;rfl
 have kQ:∀x y z,(F x y z)[12]?=some x:=λx y z=>by subst hF;rfl
 have ko:∀x y z,(F x y z)[13]?=some y:=λx y z=>by subst hF;rfl
 have mF:∀x y z,(F x y z)[14]?=some z:=λx y z=>by subst hF;rfl
 have oR:∀x y z u,(F x y z).set 12 u=F u y z:=λx y z u=>by subst hF;rfl
 have oS:∀x y z u,(F x y z).set 13 u=F x u z:=λx y z u=>by subst hF;rfl
 have oU:∀x y z u,(F x y z).set 14 u=F x y u:=λx y z u=>by subst hF;rfl
 have L:∀x y z,(F x y z).length=15:=λx y z=>by subst hF;rfl
 let P:T:=.tup (List.replicate ys.length (.str kd.1))
 have rJ:AN 12 (fz (BH z0 "parts" 2 (Bk z0) (fz (Ab 0)) (Ad (fz (Ab 3)) Ai))) (F none none none)=.nx (F (vl P) none none):=by have st:=LS (C:=z0) (hs:=IU K) O.W cY hm;rw[List.map_replicate]at st;exact AL (Am (Ru (ts:=[.str m]) (Am (Aa (F0 _ _ _))) (EK QK.2.2) (Ae (Am (Aa (by subst hF;rfl))) Au) rfl st)) ((Bn (kQ _ _ _) Aq).trans (by rw[oR]))
 have nl:∀y z,fz (Ag Ay (fz (Aj Cw (Ac (Ab 10) Ai))) (fz (Aj Cw (Ac (Ab 8) Ai)))) (F (vl P) y z)=.ok (.t (.lst ((ys++g.zX).map T.str))) (F (vl P) y z):=λy z=>by rw[tf];exact GY (Gy (Aa (kP _ _ _))) (Gy (Aa (by subst hF;rfl))) (by show _<=1000000;simp;omega)
 let D:T:=.l ((ys++g.zX).map λx=>(.inr x:Key)) ((ys++g.zX).map λ_=>T.str kd.1)
 have last:asB (Ag (gEq true) (fz (Aj (Al 2 (AS zY z0 8)) (Ad (fz (Aj (E7 zY 6 (BK zY)) (Ad (fz (Ab 0)) (Ad (fz (Ab 1)) (Ad (fz (Ab 13)) (Ad (fz (Ab 5)) (Ad (fz (Ab 14)) Ai))))))) (Ad (fz (Ab 11)) Ai)))) (Ab 7)) (F (vl P) (vl D) (vl (.lst (ys.map HQ))))=.ok false (F (vl P) (vl D) (vl (.lst (ys.map HQ)))) :=
  JbW (Am (BY (rs:=[.t (sco zY z0 K kd.1 hk hv g ys).t,.t body.t]) (Ae (by
  have mk:=IQ (C:=zY) (p:=6) (Fn:=BK zY) (rs:=[.t (stT z0 K),.t (.l hk hv),.t D,.t (.str g.nm),.t (.lst (ys.map HQ))]) (Ae (Am (Aa (F0 (vl P) (vl D) (vl (.lst (ys.map HQ)))))) (Ae (Am (Aa (F1 _ _ _))) (Ae (Am (Aa (ko _ _ _))) (Ae (Am (Aa (F5 _ _ _))) (Ae (Am (Aa (mF _ _ _))) Au))))) rfl rfl (MW (s:=sco zY z0 K kd.1 hk hv g ys));have:=Fe mk;exact this) (Ae (Am (Aa (by subst hF;rfl))) Au)) rfl rfl (Be O 8 body hb))) (Aa (by subst hF;rfl))
 have all:Ew zY z0 [vl (stT z0 K),vl (.l hk hv),vl (g.t kd.1),vl (.str m),vl (rwT (m,ys,body)),none,none,none,none,none,none,none,none,none,none]=.nx (F (vl P) (vl D) (vl (.lst (ys.map HQ)))):=by
  refine sq (Jb2 (Am (Aa rfl)) rfl rfl rfl rfl rfl) (sq (aq:=F none none none) (Z5 (x:=.tup (ys.map T.str)) (y:=body.t) (Am (Aa rfl)) rfl (by subst hF;rfl)) ?_);exact sq rJ (sq (AW (Jak (by
  have:=BP (Aa (kP (vl P) none none)) (.inr rfl);rwa[sH]at this) (by
  have:=BP (ts:=List.replicate ys.length (.str kd.1)) (Aa (kQ (vl P) none none)) (.inr rfl);rwa[List.length_replicate]at this) rfl) rfl) (sq (Dz (BY (rs:=[.t (.lst ((ys++g.zX).map T.str))]) (Ae (nl none none) Au) rfl rfl (CS O.yy hn (by simp;omega)))) (sq (by
  have k1:slF (Ab 6) (C8 (gc (.int 1))) noP (F (vl P) none none)=.ok (.t (.tup (List.replicate g.zX.length (.str kd.1)))) (F (vl P) none none):=by unfold slF;rw[Aa (F6 _ _ _)];have:=Kt (xs:=List.replicate (1+g.zX.length) (T.str kd.1)) (v:=1) (by decide) (by simp);rw[List.drop_replicate,show 1+g.zX.length-(1:Int).toNat=g.zX.length by simp]at this;show Xe (.t (g.kT kd.1)) (some 1) none (F (vl P) none none)=_;unfold Fd.kT;simp only[Xe,Cu,this];rfl
  have k2:fz (Ag Ay (fz (Aj Cw (Ac (Ab 12) Ai))) (fz (Aj Cw (Ac (slF (Ab 6) (C8 (gc (.int 1))) noP) Ai)))) (F (vl P) none none)=.ok (.t (.lst ((ys++g.zX).map λ_=>T.str kd.1))) (F (vl P) none none):=by have:=GY (Gy (Aa (kQ (vl P) none none))) (Gy k1) (by show _<=1000000;simp;omega);rw[tf,List.map_const',List.map_const'];exact this
  refine AL (t:=D) (Fe (o:=.l ((ys++g.zX).map λx=>(.inr x:Key)) ((ys++g.zX).map λ_=>T.str kd.1)) ?_) ((Bn (ko _ _ _) Aq).trans (by rw[oS]));unfold NA;rw[Ao (nl none none) (Ao k2 Au)];simp only[Out.bind,QQ,keys_map];rw[if_pos ⟨Di O.yy,by rw[sH,sH]⟩]) (sq (by
  obtain⟨y,_,e⟩:=Kw (ft:=asB (Ag (gEq false) (Ag AF (Ab 1) (fz (Ab 0))) (Ag AF (Ab 2) (gc (.int 0))))) (fe:=An Ar (Ac (gc (.str ("name":Str))) (Ac (fz (Ab 0)) Ai))) (p:=T.str) (q:=HQ) (rest:=[vl D,vl (g.kT kd.1)]) ys none [] Aq (λx mx=>by refine(GQ (x:=kd.1) (y:=kd.1) (Ak (Aa rfl) (Am (Aa rfl)) (IX (Uw O (x:=x) (sX _ mx)))) (ix (i:=0) (ts:=List.replicate (1+g.zX.length) (.str kd.1)) (Aa rfl) (by rw[uE];simp))).trans ?_;rw[tw rfl]) (λx mx=>BU (g:=Ar) (ts:=[.str "name",.str x]) (Ao AB (Ao (Am (Aa rfl)) Au)) rfl (show 2<=big by decide) rfl) (by show _<=1000000;simp;omega);have lA:B1 (F (vl P) (vl D) none) ([none,some 13,some 6].map λo=>o.elim Ini.no Ini.slot)=[none,vl D,vl (g.kT kd.1)]:=by show [none,V2 _ (.slot 13),V2 _ (.slot 6)]=_;simp only[V2,ko,F6]
  have iw:Dc (F (vl P) (vl D) none) ([none,some 13,some 6].map λo=>o.elim Ini.no Ini.slot)=[]:=by
   have h1:FL.AK (F (vl P) (vl D) none) 13=none:=by unfold FL.AK;rw[ko]
   have h2:FL.AK (F (vl P) (vl D) none) 6=none:=by unfold FL.AK;rw[F6]
   unfold Dc;show List.filterMap (BO _) [.no,.slot 13,.slot 6]=[];simp[List.filterMap,BO,h1,h2]
  have e3:=DZ (src:=[none,some 13,some 6]) (fi:=itU (fz (Ab 10))) (fs:=F (vl P) (vl D) none) (ts:=ys.map T.str) (O5 (Am (Aa (kP _ _ _)))) ⟨by rw[iw];exact sY,by simp[L]⟩ (by rw[lA];exact e) (AV iw);rw[tS]at e3;exact AL e3 ((Bn (mF _ _ _) Aq).trans (by rw[oU]))) (AW last rfl)))))
 show Bo 10 (Ew zY z0) _=_;unfold Bo;rw[show [vl (stT z0 K),vl (.l hk hv),vl (g.t kd.1),vl (.str m),vl (rwT (m,ys,body))]++List.replicate 10 none=[vl (stT z0 K),vl (.l hk hv),vl (g.t kd.1),vl (.str m),vl (rwT (m,ys,body)),none,none,none,none,none,none,none,none,none,none]from rfl,all];subst hF;rfl
end
abbrev PF:List Str:=["stock","heads","rows_by_function"]
theorem U9:(("heads":Str) == "stock")=false/\(("rows_by_function":Str) == "stock")=false/\(("rows_by_function":Str) == "heads")=false:=by decide +kernel
theorem TH:("stock":Str)≠"heads"/\("stock":Str)≠"rows_by_function"/\("heads":Str)≠"rows_by_function":=by decide +kernel
variable{x1 x2:FO}
theorem Ux:Ba PF [x0,x1,x2] "heads"=some x1:=rfl
theorem To:Ba PF [x0,x1,x2] "rows_by_function"=some x2:=rfl
theorem UN:Bw PF [x0,x1,x2] "heads" y=[x0,y,x2]:=rfl
theorem Tt:Bw PF [x0,x1,x2] "rows_by_function" y=[x0,x1,y]:=rfl
theorem JQ{n}{ts:List T}(h:fs[0]?=some (some (.bor o)))(ha:fa ((C7 fs).set 0 (vl (toT o)))=.ok (ts.map Rv.t) ((C7 fs).set 0 (vl (toT o))))(hp:ts.length=n)(hf:Fn (ts.map vl)=.ok (.t .v) τ):AH (IF 0 (Aj (Al n Fn) fa)) fs=.nx fs:=by refine Dz (r:=.t .v) ?_;unfold IF;rw[J2 h];have e1:=RM ts;have:=BY (p:=n) (Fn:=Fn) (t:=.v) (τ:=τ) ha (by simpa using hp) (by rw[e1];exact J3 _) (by rw[e1,Pa];exact hf);simp only[this];rfl
variable{j z:Nat}{ks:List Key}{ds:List FO}{k:Str}
section
variable{gs:List Str}
theorem SH(h0:fs[i]?=some (some (.bor (.ins C gs os))))(hj:fs[j]?=some (vl (.str k)))(hf:Ba gs os f=some o)(ho:Z6 o=some (ks,ds))(hn:(.inr k:Key)∉ks)(hl:ks.length<1000)
  (e:fs.set i (some (.bor (.ins C gs (Bw gs os f (.dO (ks++[.inr k]) (ds++[.l [] []]))))))=aq):LF C f i j fs=.nx aq:=by
 unfold LF;simp only[J2 h0,hj,hf,if_true,HG,ho];rw[if_pos ⟨show ks.length<1000000 by omega,any_false hn⟩];rw[show FL.putAt fs i (.ins C gs (Bw gs os f (.dO (ks++[.inr k]) (ds++[.l [] []]))))=aq by unfold FL.putAt;rw[h0];exact e]
theorem HC{d}:∀{ks:List Key}{ds:List FO},ks.length=ds.length->kk∉ks->Iq (ks++[kk]) (ds++[d]) kk=some d
 | [],[],_,_=>by simp[Iq]
 | [],_::_,h,_=>by simp at h
 |_::_,[],h,_=>by simp at h
 |a::ks,b::ds,h,n=>by simp only[uu,Iq];rw[if_neg λz=>n (by simp[z])];exact HC (by simpa using h) λm=>n (sN _ m)
theorem HJ{d}:∀{ks:List Key}{ds:List FO},ks.length=ds.length->kk∉ks->Iy (ks++[kk]) (ds++[d]) kk x=ds++[x]
 | [],[],_,_=>by simp[Iy]
 | [],_::_,h,_=>by simp at h
 |_::_,[],h,_=>by simp at h
 |a::ks,b::ds,h,n=>by simp only[uu,Iy];rw[if_neg λz=>n (by simp[z]),HJ (by simpa using h) λm=>n (sN _ m)]
theorem SI(hv:fv fs=.ok (.t t) aj)(h0:aj[i]?=some (some (.bor (.ins C gs os))))(hj:aj[j]?=some (vl (.str k)))(hz:aj[z]?=some (vl (.str k2)))(hf:Ba gs os f=some (.dO (ks++[.inr k]) (ds++[.l eZ du])))(hl:ks.length=ds.length)(hn:(.inr k:Key)∉ks)(gD:(.inr k2:Key)∉eZ)(bU:eZ.length<1000)
  (e:aj.set i (some (.bor (.ins C gs (Bw gs os f (.dO (ks++[.inr k]) (ds++[.l (eZ++[.inr k2]) (du++[t])]))))))=aq):dput2 C f i j z fv fs=.nx aq:=by
 have h3:E4 eZ du (.inr k2:Key) t=(eZ++[.inr k2],du++[t]):=by unfold E4;rw[any_false gD];rfl
 unfold dput2;rw[hv];simp only[SO.of,J2 h0,hj,hz,hf,if_true,HG,HC hl hn,HJ hl hn,h3];rw[if_pos (show eZ.length<big from show eZ.length<1000000 by omega)];rw[show FL.putAt aj i (.ins C gs (Bw gs os f (.dO (ks++[.inr k]) (ds++[.l (eZ++[.inr k2]) (du++[t])]))))=aq by unfold FL.putAt;rw[h0];exact e]
end
abbrev EX(g:Fd):Key:=.inr g.nm
def hvT(k:Str)(g:Fd):T:=.tup [g.kT k,.str k]
abbrev NK(r:Str×List Str×Ex):Key:=.inr r.1
def rvT(g:Fd)(r:Str×List Str×Ex):T:=.tup [.tup ((r.2.1++g.zX).map T.str),r.2.2.t]
def rwO(g:Fd):FO:=.l (g.rows.map NK) (g.rows.map (rvT g))
def pO(cP:Addr)(S:T)(k:Str)(D:List Fd)(R:FO):FO:=.ins cP PF [.val S,.l (D.map EX) (D.map (hvT k)),R]
abbrev Gh(D:List Fd):FO:=.dO (D.map EX) (D.map rwO)
structure FOk(K:Kd)(kd:Str×List (Str×List Str))(zY z0:Addr)(D:List Fd)(g:Fd):Prop where
 nm:Tg g.nm
 new:g.nm∉D.map (·.nm)
 yr:g.nm∉mks K
 zX:g.zX.length<=2
 rws:g.rows.map (·.1)=kd.2.map (·.1)
 yz:∀r∈g.rows,(r.1,List.replicate r.2.1.length kd.1)∈kd.2
 nd:∀r∈g.rows,(r.2.1++g.zX).Nodup
 nms:∀r∈g.rows,∀x∈r.2.1++g.zX,Tg x
 ok:∀r∈g.rows,∀hk hv,Okx (sco zY z0 K kd.1 hk hv g r.2.1) 8 r.2.2
variable{D:List Fd}{x2:Option Sl}
section
variable{K:Kd}{kd:Str×List (Str×List Str)}
theorem IT(h:g.nm∉D.map (·.nm)):(.inr g.nm:Key)∉D.map EX:=λm=>by obtain⟨a,ma,e⟩:=tQ.mp m;exact h (tQ.mpr ⟨a,ma,Sum.inr.inj e⟩)
theorem Pf(h:g.nm∉D.map (·.nm))(k:Str):Co ((D++[g]).map EX) ((D++[g]).map (hvT k)) (.inr g.nm:Key)=some (hvT k g):=by induction D with|nil=>simp[Co]|cons a D ih =>simp only[sG,sQ,not_or]at h;simp only[uu,sG,Co];rw[if_neg λz=>h.1 (Sum.inr.inj z).symm];exact ih h.2
abbrev riB(cP zY z0:Addr):FS->SO:=(Av (AH (IF 0 (Aj (Al 5 (B3 zY z0)) (Ad (fz (Ab 1)) (Ad (CL cP "heads" (Ab 0)) (Ad (fz (Ab 3)) (Ad (fz (Ab 9)) (Ad (fz (Ab 10)) Ai))))))))
  (dput2 cP "rows_by_function" 0 4 9 (An Ar (Ac (Ag Ay (Aj BQ (Ac (Ag AF (Ab 10) (gc (.int 0))) Ai)) (Aj BQ (Ac (Ab 7) Ai))) (Ac (Ag AF (Ab 10) (gc (.int 1))) Ai)))))
theorem JG(W:Well K)(cY:kd∈K)(one:∀a∈K,a.1=kd.1)(G:FOk K kd zY z0 D g)(hD:D.length<=100):∀(R Q:List (Str×List Str×Ex))(y9 cJ:Option Sl),Q++R=g.rows->Fre y9->Fre cJ ->
  ∃z9 gu,Fre z9/\Fre gu/\DX (AY 2 (Af (tgN 9) (Af (tgN 10) AQ))) (riB cP zY z0) (R.map λr=>.tup [.str r.1,rwT r]) [some (.bor (pO cP (stT z0 K) kd.1 (D++[g]) (.dO (D.map EX++[EX g]) (D.map rwO++[.l (Q.map NK) (Q.map (rvT g))])))),vl (stT z0 K),x2,vl (g.t kd.1),vl (.str g.nm),vl (g.kT kd.1),vl (.str kd.1),vl (.tup (g.zX.map T.str)),vl (.tup (g.rows.map rwT)),y9,cJ] =
   .nx [some (.bor (pO cP (stT z0 K) kd.1 (D++[g]) (Gh (D++[g])))),vl (stT z0 K),x2,vl (g.t kd.1),vl (.str g.nm),vl (g.kT kd.1),vl (.str kd.1),vl (.tup (g.zX.map T.str)),vl (.tup (g.rows.map rwT)),z9,gu]
 | [],Q,y9,cJ,hq,f9,gJ=>⟨y9,cJ,f9,gJ,by rw[t5]at hq;simp only[ud,DX,Gh,tf,sG,hq,rwO]⟩
 |r::R,Q,y9,cJ,hq,f9,gJ=>by
  have mr:r∈g.rows:=by rw[<- hq];simp
  obtain⟨z9,gu,g9,jr,lp⟩:=JG W cY one G hD R (Q++[r]) (vl (.str r.1)) (vl (rwT r)) (by rw[tR];exact hq) AG AG;refine⟨z9,gu,g9,jr,?_⟩;have yV:(g.rows.map (·.1)).Nodup:=by rw[G.rws];obtain⟨A,B,eK⟩:=List.append_of_mem cY;have:=W.yV;rw[eK,IM,FU]at this;exact(sI.mp (sI.mp this).2.1).1
  have hQ:Q.length<=4:=by have h1:=congrArg List.length hq;have h2:=congrArg List.length G.rws;have h3:=(W.rw kd cY).2;simp at h1 h2;omega
  have h2:(r.1,List.replicate r.2.1.length kd.1)∈kd.2:=G.yz r mr;have bU:r.2.1.length<=2:=by simpa using W.two kd cY _ h2
  have ck:=D1 (ys:=r.2.1) (⟨W,one,Pf G.new kd.1,G.nd r mr⟩) cY h2 (G.nms r mr) (by have:=G.zX;omega) (G.ok r mr _ _);generalize hS:FO.dO (D.map EX++[EX g]) (D.map rwO++[.l (Q.map NK) (Q.map (rvT g))])=RO;have pk:AH (IF 0 (Aj (Al 5 (B3 zY z0)) (Ad (fz (Ab 1)) (Ad (CL cP "heads" (Ab 0)) (Ad (fz (Ab 3)) (Ad (fz (Ab 9)) (Ad (fz (Ab 10)) Ai))))))) [some (.bor (pO cP (stT z0 K) kd.1 (D++[g]) RO)),vl (stT z0 K),x2,vl (g.t kd.1),vl (.str g.nm),vl (g.kT kd.1),vl (.str kd.1),vl (.tup (g.zX.map T.str)),vl (.tup (g.rows.map rwT)),vl (.str r.1),vl (rwT r)]=.nx [some (.bor (pO cP (stT z0 K) kd.1 (D++[g]) RO)),vl (stT z0 K),x2,vl (g.t kd.1),vl (.str g.nm),vl (g.kT kd.1),vl (.str kd.1),vl (.tup (g.zX.map T.str)),vl (.tup (g.rows.map rwT)),vl (.str r.1),vl (rwT r)] :=
   JQ (ts:=[stT z0 K,.l ((D++[g]).map EX) ((D++[g]).map (hvT kd.1)),g.t kd.1,.str r.1,rwT r]) rfl (Ae (Am (Aa rfl)) (Ae (Kh (gs:=PF) (Aa rfl) (by simp[Jr,U9,toT,LR])) (Ae (Am (Aa rfl)) (Ae (Am (Aa rfl)) (Ae (Am (Aa rfl)) Au))))) rfl ck
  have tp:∀{f:FS->Out Rv}{fs:FS}{ts:List T},f fs=.ok (.t (.tup ts)) fs->Aj BQ (Ac f Ai) fs=.ok (.t (.tup ts)) fs:=λh=>BV (Ao h Au) rfl
  have dv:An Ar (Ac (Ag Ay (Aj BQ (Ac (Ag AF (Ab 10) (gc (.int 0))) Ai)) (Aj BQ (Ac (Ab 7) Ai))) (Ac (Ag AF (Ab 10) (gc (.int 1))) Ai)) [some (.bor (pO cP (stT z0 K) kd.1 (D++[g]) RO)),vl (stT z0 K),x2,vl (g.t kd.1),vl (.str g.nm),vl (g.kT kd.1),vl (.str kd.1),vl (.tup (g.zX.map T.str)),vl (.tup (g.rows.map rwT)),vl (.str r.1),vl (rwT r)]=.ok (.t (rvT g r)) [some (.bor (pO cP (stT z0 K) kd.1 (D++[g]) RO)),vl (stT z0 K),x2,vl (g.t kd.1),vl (.str g.nm),vl (g.kT kd.1),vl (.str kd.1),vl (.tup (g.zX.map T.str)),vl (.tup (g.rows.map rwT)),vl (.str r.1),vl (rwT r)] :=
   BU (g:=Ar) (ts:=[.tup ((r.2.1++g.zX).map T.str),r.2.2.t]) (Ao (Ak (tp (ix (i:=0) (ts:=[.tup (r.2.1.map T.str),r.2.2.t]) (Aa rfl) rfl)) (tp (Aa rfl)) (by rw[tf];exact Z1 (by show _<=1000000;have:=G.zX;simp;omega))) (Ao (ix (i:=1) (ts:=[.tup (r.2.1.map T.str),r.2.2.t]) (Aa rfl) rfl) Au)) rfl (show 2<=big by decide) rfl
  have b:=sq pk (SI (aq:=[some (.bor (pO cP (stT z0 K) kd.1 (D++[g]) (.dO (D.map EX++[EX g]) (D.map rwO++[.l (Q.map NK++[NK r]) (Q.map (rvT g)++[rvT g r])])))),vl (stT z0 K),x2,vl (g.t kd.1),vl (.str g.nm),vl (g.kT kd.1),vl (.str kd.1),vl (.tup (g.zX.map T.str)),vl (.tup (g.rows.map rwT)),vl (.str r.1),vl (rwT r)]) (i:=0) (j:=4) (z:=9) (C:=cP) (f:="rows_by_function") (gs:=PF) (os:=[.val (stT z0 K),.l ((D++[g]).map EX) ((D++[g]).map (hvT kd.1)),RO]) (ks:=D.map EX) (ds:=D.map rwO) (k:=g.nm) (k2:=r.1) (eZ:=Q.map NK) (du:=Q.map (rvT g)) dv rfl rfl rfl (by rw[To,<- hS]) (by simp) (IT G.new) (λm=>by obtain⟨q,mq,e⟩:=tQ.mp m;rw[<- hq,tf,sI]at yV;exact yV.2.2 q.1 (tQ.mpr ⟨q,mq,rfl⟩) r.1 (by simp) (Sum.inr.inj e)) (by simp;omega) (by rw[Tt];rfl));subst hS;rw[sG,DH (DC (by exact tg rfl f9) (by exact tg rfl gJ)) b];rw[tf,tf]at lp;exact lp
end
section
variable{K:Kd}{kd:Str×List (Str×List Str)}
abbrev fnB(cP zY z0:Addr):FS->SO:=(Av (AH (IF 0 (Aj (Al 3 (Ci z0)) (Ad (fz (Ab 1)) (Ad (CL cP "heads" (Ab 0)) (Ad (fz (Ab 3)) Ai))))))
  (Av (Hk (fz (Ab 3)) (AY 5 (Af (tgN 4) (Af (tgN 5) (Af (tgN 6) (Af (tgN 7) (Af (tgN 8) AQ)))))))
  (Av (CQ cP "heads" 0 4 (An Ar (Ac (Aj BQ (Ac (Ab 5) Ai)) (Ac (fz (Ab 6)) Ai))))
  (Av (LF cP "rows_by_function" 0 4)
  (Dr (itZ (fz (BH z0 "makers" 2 (AD z0) (fz (Ab 1)) (Ad (Ag AF (Ab 5) (gc (.int 0))) Ai))) (Ab 8)) (AY 2 (Af (tgN 9) (Af (tgN 10) AQ))) (riB cP zY z0))))))
def RwO(D:List Fd)(o:FO):Prop:=Z6 o=some (D.map EX,D.map rwO)
theorem UP:RwO [] (.l [] []):=rfl
theorem XM:RwO D (Gh D):=rfl
theorem HN:∀(R:List (Str×List Str×Ex)),FL.pairs ((R.map (·.1)).map T.str) (R.map rwT)=R.map λr=>.tup [.str r.1,rwT r]
 | []=>rfl
 |r::R=>by simp only[sG,FL.pairs,HN R]
theorem Zk(W:Well K)(cY:kd∈K)(one:∀a∈K,a.1=kd.1)(G:FOk K kd zY z0 D g)(hD:D.length<=100)(hR:RwO D RO)(f4:Fre y4)(f5:Fre y5)(f6:Fre y6)(f7:Fre y7)(f8:Fre y8)(f9:Fre y9)(gJ:Fre cJ):
  ∃z9 gu,Fre z9/\Fre gu/\fnB cP zY z0 [some (.bor (pO cP (stT z0 K) kd.1 D RO)),vl (stT z0 K),x2,vl (g.t kd.1),y4,y5,y6,y7,y8,y9,cJ]=.nx [some (.bor (pO cP (stT z0 K) kd.1 (D++[g]) (Gh (D++[g])))),vl (stT z0 K),x2,vl (g.t kd.1),vl (.str g.nm),vl (g.kT kd.1),vl (.str kd.1),vl (.tup (g.zX.map T.str)),vl (.tup (g.rows.map rwT)),z9,gu]:=by
 obtain⟨z9,gu,g9,jr,lp⟩:=JG W cY one G hD g.rows [] y9 cJ rfl f9 gJ;refine⟨z9,gu,g9,jr,?_⟩;have ck:=Dn (z0:=z0) W (hk:=D.map EX) (hv:=D.map (hvT kd.1)) cY G.nm (IT G.new) G.yr G.zX (by simpa using congrArg List.length G.rws);have s4:LF cP "rows_by_function" 0 4 [some (.bor (pO cP (stT z0 K) kd.1 (D++[g]) RO)),vl (stT z0 K),x2,vl (g.t kd.1),vl (.str g.nm),vl (g.kT kd.1),vl (.str kd.1),vl (.tup (g.zX.map T.str)),vl (.tup (g.rows.map rwT)),y9,cJ]=.nx [some (.bor (pO cP (stT z0 K) kd.1 (D++[g]) (.dO (D.map EX++[EX g]) (D.map rwO++[.l (([]:List (Str×List Str×Ex)).map NK) (([]:List (Str×List Str×Ex)).map (rvT g))])))),vl (stT z0 K),x2,vl (g.t kd.1),vl (.str g.nm),vl (g.kT kd.1),vl (.str kd.1),vl (.tup (g.zX.map T.str)),vl (.tup (g.rows.map rwT)),y9,cJ] :=
  SH (i:=0) (j:=4) (C:=cP) (f:="rows_by_function") (gs:=PF) (os:=[.val (stT z0 K),.l ((D++[g]).map EX) ((D++[g]).map (hvT kd.1)),RO]) (k:=g.nm) rfl rfl To hR (IT G.new) (by simp;omega) (by rw[Tt];rfl)
 refine sq (JQ (ts:=[stT z0 K,.l (D.map EX) (D.map (hvT kd.1)),g.t kd.1]) rfl (Ae (Am (Aa rfl)) (Ae (Kh (gs:=PF) (Aa rfl) (by simp[Jr,U9,toT,LR])) (Ae (Am (Aa rfl)) Au))) rfl ck) (sq (Jb2 (Am (Aa rfl)) (tg rfl f4) (tg rfl f5) (tg rfl f6) (tg rfl f7) (tg rfl f8)) (sq (by refine Jd (i:=0) (j:=4) (C:=cP) (f:="heads") (gs:=PF) (os:=[.val (stT z0 K),.l (D.map EX) (D.map (hvT kd.1)),RO]) (k:=g.nm) (t:=hvT kd.1 g) (BU (g:=Ar) (ts:=[g.kT kd.1,.str kd.1]) (Ao (BV (Ao (Aa rfl) Au) rfl) (Ao (Am (Aa rfl)) Au)) rfl (show 2<=big by decide) rfl) rfl rfl Ux (IT G.new) (by show _<1000000;simp;omega) ?_;rw[UN];unfold pO;rw[tf,tf];rfl) (sq s4 ?_)));generalize hS:[some (Sl.bor (pO cP (stT z0 K) kd.1 (D++[g]) (.dO (D.map EX++[EX g]) (D.map rwO++[.l (([]:List (Str×List Str×Ex)).map NK) (([]:List (Str×List Str×Ex)).map (rvT g))])))),vl (stT z0 K),x2,vl (g.t kd.1),vl (.str g.nm),vl (g.kT kd.1),vl (.str kd.1),vl (.tup (g.zX.map T.str)),vl (.tup (g.rows.map rwT)),y9,cJ]=L at *;have hm:fz (BH z0 "makers" 2 (AD z0) (fz (Ab 1)) (Ad (Ag AF (Ab 5) (gc (.int 0))) Ai)) L=.ok (.t (.lst ((kd.2.map (·.1)).map T.str))) L :=
  Lh W cY (by rw[<- hS];rfl) (ix (i:=0) (ts:=List.replicate (1+g.zX.length) (.str kd.1)) (Aa (by rw[<- hS];rfl)) (by rw[uE];simp))
 have hz:itZ (fz (BH z0 "makers" 2 (AD z0) (fz (Ab 1)) (Ad (Ag AF (Ab 5) (gc (.int 0))) Ai))) (Ab 8) L=.ok (g.rows.map λr=>.tup [.str r.1,rwT r]) L:=by unfold itZ;rw[hm];simp only[Out.bnd,Out.bind];rw[Aa (show L[8]?=some (vl (.tup (g.rows.map rwT))) by rw[<- hS];rfl)];simp only[QQ];rw[<- G.rws,HN]
 unfold Dr;rw[hz];exact lp
theorem Pw(W:Well K)(cY:kd∈K)(one:∀a∈K,a.1=kd.1):∀(R D:List Fd)(RO:FO)(y3 y4 y5 y6 y7 y8 y9 cJ:Option Sl),RwO D RO->(∀A g B,D++R=A++g::B->FOk K kd zY z0 A g)->D.length+R.length<=100->Fre y3->Fre y4->Fre y5->Fre y6->Fre y7->Fre y8->Fre y9->Fre cJ ->
  ∃jj τ,RwO (D++R) jj/\(R≠[]->jj=Gh (D++R))/\DX (tgN 3) (fnB cP zY z0) (R.map (Fd.t kd.1)) [some (.bor (pO cP (stT z0 K) kd.1 D RO)),vl (stT z0 K),x2,y3,y4,y5,y6,y7,y8,y9,cJ]=.nx (some (.bor (pO cP (stT z0 K) kd.1 (D++R) jj))::vl (stT z0 K)::x2::τ)
 | [],D,RO,y3,y4,y5,y6,y7,y8,y9,cJ,hR,_,_,_,_,_,_,_,_,_,_=>⟨RO,[y3,y4,y5,y6,y7,y8,y9,cJ],by simpa using hR,λh=>(h rfl).elim,by simp[DX]⟩
 |g::R,D,RO,y3,y4,y5,y6,y7,y8,y9,cJ,hR,hG,hl,f3,f4,f5,f6,f7,f8,f9,gJ=>by
  rw[tj]at hl;obtain⟨z9,gu,g9,jr,e⟩:=Zk W cY one (hG D g R rfl) (by omega) hR f4 f5 f6 f7 f8 f9 gJ;obtain⟨jj,τ,h1,h2,h3⟩:=Pw W cY one R (D++[g]) (Gh (D++[g])) (vl (g.t kd.1)) (vl (.str g.nm)) (vl (g.kT kd.1)) (vl (.str kd.1)) (vl (.tup (g.zX.map T.str))) (vl (.tup (g.rows.map rwT))) z9 gu XM (λA a B h=>hG A a B (by rw[<- h];simp)) (by simp;omega) AG AG AG AG AG AG g9 jr;have ea:D++[g]++R=D++g::R:=by simp
  rw[ea]at h1 h2 h3;refine⟨jj,τ,h1,λ_=>?_,?_⟩
  .cases R with
   |nil =>simp only[ud,DX,tR,uu,tS]at h3;injection h3 with h3;injection h3 with h3 _;injection h3 with h3;injection h3 with h3;unfold pO at h3;injection h3 with _ _ h3;injection h3 with _ h3;injection h3 with _ h3;injection h3 with h3 _;exact h3.symm
   |cons a R=>exact h2 (by simp)
  .rw[sG,DH (tg rfl f3) e,h3]
theorem JM(W:Well K)(cY:kd∈K)(one:∀a∈K,a.1=kd.1)(bV:G≠[])(hl:G.length<=100)(hG:∀A g B,G=A++g::B->FOk K kd zY z0 A g):
  BE cP zY z0 [some (.bor (.ins cP [] [])),vl (stT z0 K),vl (.lst (G.map (Fd.t kd.1)))]=.ok (.t .v) [some (.bor (pO cP (stT z0 K) kd.1 G (Gh G))),vl (stT z0 K),vl (.lst (G.map (Fd.t kd.1)))]:=by
 obtain⟨RO,τ,_,h2,lp⟩:=Pw W cY one G [] (.l [] []) none none none none none none none none UP hG (by simpa using hl) Aq Aq Aq Aq Aq Aq Aq Aq;rw[tS]at lp h2;rw[h2 bV]at lp;have nk:∀fs,EL fs=.ok (.nw (.l [] [])) fs:=λ_=>rfl
 have all:De cP zY z0 [some (.bor (.ins cP [] [])),vl (stT z0 K),vl (.lst (G.map (Fd.t kd.1))),none,none,none,none,none,none,none,none]=.nx (some (.bor (pO cP (stT z0 K) kd.1 G (Gh G)))::vl (stT z0 K)::vl (.lst (G.map (Fd.t kd.1)))::τ):=by refine sq (T9 (Am (Aa rfl)) rfl (by simp) rfl rfl) ?_;refine sq (GL (dq:=["stock","heads"]) (cj:=[.val (stT z0 K),.l [] []]) (o:=.l [] []) (nk _) rfl (by simp) (by simp[CW,TH]) rfl) ?_;refine sq (GL (C:=cP) (gs:=["stock","heads"]) (os:=[.val (stT z0 K),.l [] []]) (dq:=PF) (cj:=[.val (stT z0 K),.l [] [],.l [] []]) (o:=.l [] []) (nk _) rfl (by simp) (by simp[CW,TH]) rfl) ?_;unfold Dr;rw[GC (Am (Aa (t:=.lst (G.map (Fd.t kd.1))) rfl))];exact lp
 show Bo 8 (De cP zY z0) _=_;unfold Bo;rw[show [some (Sl.bor (.ins cP [] [])),vl (stT z0 K),vl (.lst (G.map (Fd.t kd.1)))]++List.replicate 8 none=[some (.bor (.ins cP [] [])),vl (stT z0 K),vl (.lst (G.map (Fd.t kd.1))),none,none,none,none,none,none,none,none]from rfl,all];rfl
end
structure Nn where
 n0:Str
 n1:Str
 n2:Str
 n3:Str
 n4:Str
 n5:Str
 n6:Str
 n7:Str
 n8:Str
abbrev Nn.t(N:Nn):T:=.lst [.str N.n0,.str N.n1,.str N.n2,.str N.n3,.str N.n4,.str N.n5,.str N.n6,.str N.n7,.str N.n8]
def Nn.g0(N:Nn):Fd:=⟨N.n6,[],[(N.n0,[],.mk N.n0 []),(N.n1,[N.n3],.cl N.n6 [.nm N.n3]),(N.n2,[N.n3,N.n4],.cl N.n6 [.nm N.n4])]⟩
def Nn.g1(N:Nn):Fd:=⟨N.n7,[],[(N.n0,[],.mk N.n0 []),(N.n1,[N.n3],.mk N.n2 [.cl N.n7 [.nm N.n3],.cl N.n7 [.nm N.n3]]),(N.n2,[N.n3,N.n4],.mk N.n0 [])]⟩
def Nn.g2(N:Nn):Fd:=⟨N.n8,[N.n5],[(N.n0,[],.nm N.n5),(N.n1,[N.n3],.mk N.n1 [.cl N.n8 [.nm N.n3,.nm N.n5]]),(N.n2,[N.n3,N.n4],.cl N.n8 [.nm N.n3,.nm N.n5])]⟩
theorem rows0(N:Nn):Es [vl N.t,vl (.str N.n6),vl (.tup []),iv 0]=.ok (.t (.tup (N.g0.rows.map rwT))) [vl N.t,vl (.str N.n6),vl (.tup []),iv 0]:=rfl
theorem rows1(N:Nn):Es [vl N.t,vl (.str N.n7),vl (.tup []),iv 1]=.ok (.t (.tup (N.g1.rows.map rwT))) [vl N.t,vl (.str N.n7),vl (.tup []),iv 1]:=rfl
theorem Jcl(N:Nn):Es [vl N.t,vl (.str N.n8),vl (.tup [.str N.n5]),iv 2]=.ok (.t (.tup (N.g2.rows.map rwT))) [vl N.t,vl (.str N.n8),vl (.tup [.str N.n5]),iv 2]:=rfl
abbrev Nn.kd(N:Nn):Str×List (Str×List Str):=(N.n5,[(N.n0,[]),(N.n1,[N.n5]),(N.n2,[N.n5,N.n5])])
abbrev Nn.K(N:Nn):Kd:=[N.kd]
abbrev Nn.gs(N:Nn):List Fd:=[N.g0,N.g1,N.g2]
structure NOk(N:Nn):Prop where
 nd:[N.n0,N.n1,N.n2,N.n3,N.n4,N.n5,N.n6,N.n7,N.n8].Nodup
 nm:∀x∈[N.n0,N.n1,N.n2,N.n3,N.n4,N.n5,N.n6,N.n7,N.n8],Tg x
 ln:∀x∈[N.n0,N.n1,N.n2,N.n3,N.n4,N.n5,N.n6,N.n7,N.n8],x.length<=12
variable{N:Nn}
section
variable(H:NOk N)
include H
theorem JaA:Well N.K:=by
 have nd:=H.nd;simp only[tu,sQ,tq,or_false,not_or,sY,and_true]at nd;refine⟨by simp,by simp,by simp,λkd m=>?_,λkd m=>?_,?_,λx m=>?_,λx m=>?_,λkd m r mr=>?_,λkd m r mr x mx=>?_,λD kd R e r e0 x mx=>?_⟩
 .simp only[sQ,tq,or_false]at m;subst m;exact H.nm _ (by simp)
 .simp only[sQ,tq,or_false]at m;subst m;simp
 .simp only[mks,uj,uW,sG,ud,t5,tu,sQ,tq,or_false,not_or,sY,and_true];exact⟨⟨nd.1.1,nd.1.2.1⟩,nd.2.1.1,by simp⟩
 .simp only[mks,uj,uW,sG,ud,t5,sQ,tq,or_false]at m;exact H.nm x (by rcases m with rfl|rfl|rfl<;>simp)
 .simp only[mks,uj,uW,sG,ud,t5,sQ,tq,or_false]at m;exact H.ln x (by rcases m with rfl|rfl|rfl<;>simp)
 .simp only[sQ,tq,or_false]at m;subst m;simp only[sQ,tq,or_false]at mr;rcases mr with rfl|rfl|rfl<;>simp
 .simp only[sQ,tq,or_false]at m;subst m;simp only[sQ,tq,or_false]at mr;rcases mr with rfl|rfl|rfl<;>simp at mx ⊢<;>exact mx
 .cases D with|nil =>simp only[tS,List.cons.injEq]at e;obtain⟨rfl,_⟩:=e;simp at e0;subst e0;simp at mx|cons a D=>simp at e
theorem Jb0:∀A g B,N.gs=A++g::B->FOk N.K N.kd zY z0 A g:=by
 have nd:=H.nd;simp only[tu,sQ,tq,or_false,not_or,sY,and_true]at nd;obtain⟨⟨a1,a2,a3,a4,a5,a6,a7,a8⟩,⟨b2,b3,b4,b5,b6,b7,b8⟩,⟨c3,c4,c5,c6,c7,c8⟩,⟨d4,d5,d6,d7,d8⟩,⟨e5,e6,e7,e8⟩,⟨f6,f7,f8⟩,⟨g7,g8⟩,h8⟩:=nd;have nm:=H.nm;simp only[List.forall_mem_cons]at nm;obtain⟨m0,m1,m2,m3,m4,m5,m6,m7,m8,_⟩:=nm;have one:∀(g:Fd)(A:List Fd),g.nm∉A.map (·.nm)->Tg g.nm->g.nm∉mks N.K->g.zX.length<=2->g.rows.map (·.1)=N.kd.2.map (·.1)->(∀r∈g.rows,(r.1,List.replicate r.2.1.length N.n5)∈N.kd.2/\(r.2.1++g.zX).Nodup/\(∀x∈r.2.1++g.zX,Tg x)/\∀hk hv,Okx (sco zY z0 N.K N.n5 hk hv g r.2.1) 8 r.2.2)->FOk N.K N.kd zY z0 A g :=
  λg A h1 h2 h3 h4 h5 h6=>⟨h2,h1,h3,h4,h5,λr m=>(h6 r m).1,λr m=>(h6 r m).2.1,λr m=>(h6 r m).2.2.1,λr m=>(h6 r m).2.2.2⟩
 intro A g B e
 match A,e with
 | [],e=>cases e;exact(by
  refine one _ _ (by simp) m6 (by simp[mks,Nn.g0];exact⟨Ne.symm a6,Ne.symm b6,Ne.symm c6⟩) (by simp[Nn.g0]) rfl ?_;intro r mr;simp only[Nn.g0,sQ,tq,or_false]at mr;rcases mr with rfl|rfl|rfl
  .simp[Nn.g0,Okx]
  .simp[Nn.g0,Okx];exact m3
  .simp[Nn.g0,Okx,d4];exact⟨m3,m4⟩)
 | [_],e=>cases e;exact(by
  refine one _ _ (by simp[Nn.g0,Nn.g1];exact Ne.symm g7) m7 (by simp[mks,Nn.g1];exact⟨Ne.symm a7,Ne.symm b7,Ne.symm c7⟩) (by simp[Nn.g1]) rfl ?_;intro r mr;simp only[Nn.g1,sQ,tq,or_false]at mr;rcases mr with rfl|rfl|rfl
  .simp[Nn.g1,Okx]
  .simp[Nn.g1,Okx];exact m3
  .simp[Nn.g1,Okx,d4];exact⟨m3,m4⟩)
 | [_,_],e=>cases e;exact(by
  refine one _ _ (by simp[Nn.g0,Nn.g1,Nn.g2];exact⟨Ne.symm g8,Ne.symm h8.1⟩) m8 (by simp[mks,Nn.g2];exact⟨Ne.symm a8,Ne.symm b8,Ne.symm c8⟩) (by simp[Nn.g2]) rfl ?_;intro r mr;simp only[Nn.g2,sQ,tq,or_false]at mr;rcases mr with rfl|rfl|rfl
  .simp[Nn.g2,Okx];exact m5
  .simp[Nn.g2,Okx,d5];exact⟨m3,m5⟩
  .simp[Nn.g2,Okx,d4,d5,e5];exact⟨m3,m4,m5⟩)
 |_::_::_::A,e=>simp at e
end
def rdT(g:Fd):T:=.l (g.rows.map NK) (g.rows.map (rvT g))
def Hm(cP z0:Addr)(K:Kd)(k:Str)(G:List Fd):T:=.ins cP PF [stT z0 K,.l (G.map EX) (G.map (hvT k)),.l (G.map EX) (G.map rdT)]
theorem LQ{f}:∀xs:List α,LR (xs.map f)=xs.map λx=>toT (f x)
 | []=>by simp[LR]
 |x::xs=>by simp[LR,LQ xs]
theorem U0:toT (pO cP (stT z0 K) k G (Gh G))=Hm cP z0 K k G:=by unfold pO Hm;simp only[toT,LR,Gh,LQ];rfl
theorem JaQ:PF.any (·==("row":Str))=false:=rfl
theorem XR(hG:(G.map EX).Nodup)(mg:g∈G)(hr:(g.rows.map NK).Nodup)(mr:r∈g.rows):
  Bl cP [vl (Hm cP z0 K k G),vl (.str g.nm),vl (.str r.1)]=.ok (.t (rvT g r)) [vl (Hm cP z0 K k G),vl (.str g.nm),vl (.str r.1)]:=by
 have v1:Co (G.map EX) (G.map rdT) (.inr g.nm:Key)=some (rdT g):=Df mg hG;have v2:Co (g.rows.map NK) (g.rows.map (rvT g)) (.inr r.1:Key)=some (rvT g r):=Df mr hr;have fr:CL cP "rows_by_function" (Ab 0) [vl (Hm cP z0 K k G),vl (.str g.nm),vl (.str r.1)]=.ok (.t (.l (G.map EX) (G.map rdT))) [vl (Hm cP z0 K k G),vl (.str g.nm),vl (.str r.1)]:=Kh (Aa rfl) (by simp[Jr,U9]);have i1:Ag AF (CL cP "rows_by_function" (Ab 0)) (fz (Ab 1)) [vl (Hm cP z0 K k G),vl (.str g.nm),vl (.str r.1)]=.ok (.t (rdT g)) [vl (Hm cP z0 K k G),vl (.str g.nm),vl (.str r.1)]:=Ak fr (Am (Aa rfl)) (IX v1);exact(BB
  (sq (AW (Bs (Ak (Am (Aa rfl)) fr (by rw[TY,v1];rfl))) rfl) (sq (AW (Bs (Ak (Am (Aa rfl)) i1 (by unfold rdT;rw[TY,v2];rfl))) rfl) (AR (Ak i1 (Am (Aa rfl)) (IX v2)))))).trans rfl
section
variable(H:NOk N)
include H
theorem YN:(N.gs.map EX).Nodup/\∀g∈N.gs,(g.rows.map NK).Nodup:=by have nd:=H.nd;simp only[tu,sQ,tq,or_false,not_or,sY,and_true]at nd;obtain⟨⟨a1,a2,a3,a4,a5,a6,a7,a8⟩,⟨b2,b3,b4,b5,b6,b7,b8⟩,⟨c3,c4,c5,c6,c7,c8⟩,⟨d4,d5,d6,d7,d8⟩,⟨e5,e6,e7,e8⟩,⟨f6,f7,f8⟩,⟨g7,g8⟩,h8⟩:=nd;refine⟨by simp[Nn.g0,Nn.g1,Nn.g2,g7,g8,h8],λg m=>?_⟩;simp only[sQ,tq,or_false]at m;rcases m with rfl|rfl|rfl<;>simp[Nn.g0,Nn.g1,Nn.g2,a1,a2,b2]
theorem Xd(hc:c.cP=cP)(hP:c.P=Hm cP z0 N.K N.n5 N.gs)(mg:g∈N.gs)(mr:r∈g.rows):Row c g.nm r.1 (r.2.1++g.zX) r.2.2:=by
 obtain⟨A,B,e⟩:=(List.append_of_mem mg)
 refine⟨λfs=>?_,?_,(Jb0 H (zY:=0) (z0:=z0) A g B e).nd r mr⟩
 .rw[hP,hc];show(decide (cP=cP)&&!PF.any (·==("row":Str)))=true;rw[JaQ];simp
 .rw[hP,hc];exact XR (YN H).1 mg ((YN H).2 g mg) mr
end
abbrev pgB:FS->SO:=(Av (AN 5 (slF (An Ar (Ac (Ag AF (Ab 0) (gc (.int 5))) Ai)) noP (C8 (Aj Nj (Ac (Ag (gEq false) (Ab 4) (gc (.int 2))) Ai)))))
  (Av (AN 6 (Ag Pl (An Ar (Ac (fz (Ab 1)) Ai)) (Ag Ay (gc (.int 1)) (Aj Bx (Ac (Ab 5) Ai)))))
  (AH (BC Fw (Ab 3) (Ac (An Ar (Ac (Ag AF (Ab 0) (Ag Ay (gc (.int 6)) (Ab 4))) (Ac (fz (Ab 6)) (Ac (fz (Ab 1)) (Ac (fz (Ab 5)) (Ac (fz (Aj (Al 4 Es) (Ad (fz (Ab 0)) (Ad (Ag AF (Ab 0) (Ag Ay (gc (.int 6)) (Ab 4))) (Ad (fz (Ab 5)) (Ad (fz (Ab 4)) Ai)))))) Ai)))))) Ai)))))
theorem pg0(N:Nn)(S:T):pgB [vl N.t,vl (.str N.n5),vl S,some (.own (.lst [])),iv 0,none,none]=.nx [vl N.t,vl (.str N.n5),vl S,some (.own (.lst [N.g0.t N.n5])),iv 0,vl (.tup []),vl (.tup [.str N.n5])]:=rfl
theorem pg1(N:Nn)(S:T)(a:T):pgB [vl N.t,vl (.str N.n5),vl S,some (.own (.lst [a])),iv 1,vl (.tup []),vl (.tup [.str N.n5])]=.nx [vl N.t,vl (.str N.n5),vl S,some (.own (.lst [a,N.g1.t N.n5])),iv 1,vl (.tup []),vl (.tup [.str N.n5])]:=rfl
theorem pg2(N:Nn)(S:T)(a b:T):pgB [vl N.t,vl (.str N.n5),vl S,some (.own (.lst [a,b])),iv 2,vl (.tup []),vl (.tup [.str N.n5])]=.nx [vl N.t,vl (.str N.n5),vl S,some (.own (.lst [a,b,N.g2.t N.n5])),iv 2,vl (.tup [.str N.n5]),vl (.tup [.str N.n5,.str N.n5])]:=rfl
theorem Lp(H:NOk N):Dl cP zY z0 [vl N.t]=.ok (.nw (pO cP (stT z0 N.K) N.n5 N.gs (Gh N.gs))) [vl N.t]:=by
 have W:=JaA H;have s2:=AL (i:=2) (aq:=[vl N.t,vl (.str N.n5),vl (stT z0 N.K),none,none,none,none]) (Fe (IQ (fs:=[vl N.t,vl (.str N.n5),none,none,none,none,none]) (fa:=Ad (An Cz (Ac (An Ar (Ac (fz (Ab 1)) (Ac (An Cz (Ac (An Ar (Ac (Ag AF (Ab 0) (gc (.int 0))) (Ac (An Ar Ai) Ai))) (Ac (An Ar (Ac (Ag AF (Ab 0) (gc (.int 1))) (Ac (An Ar (Ac (fz (Ab 1)) Ai)) Ai))) (Ac (An Ar (Ac (Ag AF (Ab 0) (gc (.int 2))) (Ac (An Ar (Ac (fz (Ab 1)) (Ac (fz (Ab 1)) Ai))) Ai))) Ai)))) Ai))) Ai)) Ai) rfl rfl rfl (MU (C:=z0) W))) rfl;exact(K4 (n:=6) (g:=Im cP zY z0) (args:=[vl N.t]) (sq rfl (sq s2 (sq rfl (sq rfl (AR (IQ (C:=cP) (p:=3) (Fn:=BE cP zY z0) (rs:=[.t (stT z0 N.K),.t (.lst (N.gs.map (Fd.t N.n5)))]) (fs:=[vl N.t,vl (.str N.n5),vl (stT z0 N.K),some (.own (.lst (N.gs.map (Fd.t N.n5)))),iv 2,vl (.tup [.str N.n5]),vl (.tup [.str N.n5,.str N.n5])]) (aj:=[vl N.t,vl (.str N.n5),vl (stT z0 N.K),vl (.lst (N.gs.map (Fd.t N.n5))),iv 2,vl (.tup [.str N.n5]),vl (.tup [.str N.n5,.str N.n5])]) (fa:=Ad (fz (Ab 2)) (Ad (fz (Ab 3)) Ai)) rfl rfl rfl
  (JM (cP:=cP) (zY:=zY) (z0:=z0) W (kd:=N.kd) (by simp) (by simp) (by simp) (by simp) (Jb0 H))))))))).trans rfl
abbrev lf(N:Nn):Th:=leaf N.n0
theorem TU(k0:Str):(leaf k0).t=.tup [.str k0,.tup []]:=rfl
theorem Ig{x1}:∀(ts:List T)(t:Th)(x4:Option Sl),Fre x4->∃y4,DX (tgN 4) (AN 3 (An Ar (Ac (Ag AF (Ab 0) (gc (.int 1))) (Ac (An Ar (Ac (fz (Ab 3)) Ai)) Ai)))) ts [vl N.t,x1,x2,vl t.t,x4]=.nx [vl N.t,x1,x2,vl (chn N.n1 t ts.length).t,y4]
 | [],t,x4,_=>⟨x4,by simp[DX,chn]⟩
 |a::ts,t,x4,f4=>by
  obtain⟨y4,e⟩:=Ig ts (.mk N.n1 [t]) (vl a) AG;refine⟨y4,?_⟩;have b:AN 3 (An Ar (Ac (Ag AF (Ab 0) (gc (.int 1))) (Ac (An Ar (Ac (fz (Ab 3)) Ai)) Ai))) [vl N.t,x1,x2,vl t.t,vl a]=.nx [vl N.t,x1,x2,vl (Th.mk N.n1 [t]).t,vl a]:=rfl;have ec:∀n,chn N.n1 (.mk N.n1 [t]) n=chn N.n1 t (n+1):=by
   intro n
   induction n with|zero=>rfl|succ n ih=>rw[chn,ih];rfl
  rw[DH (tg (j:=4) rfl f4) b,e,ec,tj]
theorem J5(c:Nat)(t:Th)(hc:c<1000):B9 [vl N.t,iv (c:Int),vl t.t]=.ok (.t (chn N.n1 t c).t) [vl N.t,iv (c:Int),vl t.t]:=by
 obtain⟨y4,e⟩:=Ig (FL.upTo 0 c) t none Aq;have l:(FL.upTo 0 c).length=c:=by simp[FL.upTo]
 rw[l]at e;exact(BB (sq (aq:=[vl N.t,iv (c:Int),vl t.t,vl t.t,none]) rfl (sq (I0 (Ao (Aa rfl) Au) (by omega) e) (AR (Aa rfl))))).trans rfl
def tre(N:Nn):Nat->Nat->Th
 |0,_=>lf N
 |f+1,n=>if n<3 then chn N.n1 (lf N) (n-1)else .mk N.n2 [tre N f ((n-1)/2),tre N f (n-1-(n-1)/2)]
theorem EI:∀(f n:Nat),1<=n->n<=2^f->1<=f->n<=900->BI f [vl N.t,iv (n:Int)]=.ok (.t (tre N f n).t) [vl N.t,iv (n:Int)]/\(tre N f n).sz=n/\(tre N f n).dp<=f+1
 |0,n,_,_,h,_=>by omega
 |f+1,n,h1,h2,_,h9=>by
  have c:∀x2,asB (Ag gLt (Ab 1) (gc (.int 3))) [vl N.t,iv (n:Int),x2]=.ok (decide ((n:Int)<3)) [vl N.t,iv (n:Int),x2]:=λx2=>Bs (Ak (Aa rfl) AB rfl)
  by_cases h3:n<3
  .have ez:=ET N.n1 (lf N) (n-1);have el:(lf N).sz=1/\(lf N).dp=1:=DR N.n0;have et:tre N (f+1) n=chn N.n1 (lf N) (n-1):=by rw[tre,if_pos h3]
   rw[et];refine⟨?_,by omega,by omega⟩;have ch:=J5 (N:=N) (n-1) (lf N) (by omega);rw[show(((n-1:Nat)):Int)=(n:Int)-1 by omega,TU]at ch;exact(BB (n:=1) (args:=[vl N.t,iv (n:Int)]) (Ea (DV (show asB (Ag gLt (Ab 1) (gc (.int 3))) [vl N.t,iv (n:Int),none]=.ok true [vl N.t,iv (n:Int),none] by rw[c none,tw (show(n:Int)<3 by omega)]) (AR (BY (rs:=[.t N.t,.t (.int ((n:Int)-1)),.t (.tup [.str N.n0,.tup []])]) rfl rfl rfl ch))))).trans rfl
  .have hp:(2:Nat)^(f+1)=2*2^f:=by rw[Nat.pow_succ];omega
   have hf:1<=f:=by cases f with|zero=>simp at h2;omega|succ f=>omega
   obtain⟨a1,a2,a3⟩:=EI f ((n-1)/2) (by omega) (by omega) hf (by omega);obtain⟨b1,b2,b3⟩:=EI f (n-1-(n-1)/2) (by omega) (by omega) hf (by omega);have et:tre N (f+1) n=.mk N.n2 [tre N f ((n-1)/2),tre N f (n-1-(n-1)/2)]:=by rw[tre,if_neg h3]
   rw[et];refine⟨?_,by simp[Th.sz,Th.szs];omega,by simp[Th.dp,Th.dps];omega⟩;have qb:(Th.mk N.n2 [tre N f ((n-1)/2),tre N f (n-1-(n-1)/2)]).t=.tup [.str N.n2,.tup [(tre N f ((n-1)/2)).t,(tre N f (n-1-(n-1)/2)).t]]:=rfl;rw[qb];have e1:((n:Int)-1)/2=(((n-1)/2:Nat):Int):=by omega
   have e2:(n:Int)-1-(((n-1)/2:Nat):Int)=((n-1-(n-1)/2:Nat):Int):=by omega
   have s2:AN 2 (Ag GJ (Ag Dj (Ab 1) (gc (.int 1))) (gc (.int 2))) [vl N.t,iv (n:Int),none]=.nx [vl N.t,iv (n:Int),iv (((n-1)/2:Nat):Int)]:=by rw[<- e1];rfl
   generalize hL:[vl N.t,iv (n:Int),iv (((n-1)/2:Nat):Int)]=L at *;have g0:L[0]?=some (vl N.t):=by rw[<- hL];rfl
   have g2:L[2]?=some (iv (((n-1)/2:Nat):Int)):=by rw[<- hL];rfl
   have c2:fz (Aj (Al 2 (BI f)) (Ad (fz (Ab 0)) (Ad (Ag Dj (Ag Dj (Ab 1) (gc (.int 1))) (Ab 2)) Ai))) L=.ok (.t (tre N f (n-1-(n-1)/2)).t) L :=
    Am (BY (rs:=[.t N.t,.t (.int ((n-1-(n-1)/2:Nat):Int))]) (Ae (Am (Aa g0)) (Ae (Ak (Ak (Aa (by rw[<- hL];rfl)) AB HY) (Aa g2) (by rw[HY,e2])) Au)) rfl rfl b1)
   have r:retS (An Ar (Ac (Ag AF (Ab 0) (gc (.int 2))) (Ac (An Ar (Ac (fz (Aj (Al 2 (BI f)) (Ad (fz (Ab 0)) (Ad (fz (Ab 2)) Ai)))) (Ac (fz (Aj (Al 2 (BI f)) (Ad (fz (Ab 0)) (Ad (Ag Dj (Ag Dj (Ab 1) (gc (.int 1))) (Ab 2)) Ai)))) Ai))) Ai))) L=.ret (.t (.tup [.str N.n2,.tup [(tre N f ((n-1)/2)).t,(tre N f (n-1-(n-1)/2)).t]])) L :=
    AR (BU (g:=Ar) (ts:=[.str N.n2,.tup [(tre N f ((n-1)/2)).t,(tre N f (n-1-(n-1)/2)).t]]) (Ao (Ak (Aa g0) AB rfl) (Ao (BU (g:=Ar) (ts:=[(tre N f ((n-1)/2)).t,(tre N f (n-1-(n-1)/2)).t]) (Ao (Am (BY (rs:=[.t N.t,.t (.int (((n-1)/2:Nat):Int))]) (Ae (Am (Aa g0)) (Ae (Am (Aa g2)) Au)) rfl rfl a1)) (Ao c2 Au)) rfl (show 2<=big by decide) rfl) Au)) rfl (show 2<=big by decide) rfl)
   refine(BB (n:=1) (g:=LI (BI f)) (args:=[vl N.t,iv (n:Int)]) (sq (AW (show asB (Ag gLt (Ab 1) (gc (.int 3))) [vl N.t,iv (n:Int),none]=.ok false [vl N.t,iv (n:Int),none] by rw[c none,tB (show ¬(n:Int)<3 by omega)]) rfl) (sq s2 r))).trans ?_;rw[<- hL];rfl
theorem DY{f}:∀(ts:List T),(∀t∈ts,f t t=some true)->Jt f ts ts=some true
 | [],_=>rfl
 |t::ts,h=>by rw[Jt,h t tL,tV,DY ts λt m=>h t (sN _ m)];rfl
theorem PU:∀{hs:List Th},h∈hs->h.dp<=Th.dps hs
 | [],m=>nomatch m
 |a::hs,m=>by
  rw[Th.dps];rcases sQ.mp m with rfl|m
  .omega
  .have:=PU m;omega
theorem WC:∀(n:Nat)(h:Th),2*h.dp<=n->eqT n h.t h.t=some true
 |0,h,hl=>by have:=SJ h;omega
 |1,h,hl=>by have:=SJ h;omega
 |n+2,.mk m ps,hl=>by
  have hd:(Th.mk m ps).dp=1+Th.dps ps:=rfl;have et:(Th.mk m ps).t=.tup [.str m,.tup (ps.map Th.t)]:=by simp[Th.t,Th.Ct]
  rw[et,Jb,DY]
  .simp
  .intro t mt;simp only[sQ,tq,or_false]at mt;rcases mt with rfl|rfl
   .rw[LD];simp
   .rw[Jb,DY]
    .simp
    .intro t mt;obtain⟨p,mp,rfl⟩:=tQ.mp mt;have:=PU mp;exact WC n p (by omega)
theorem WG{fa}{h:Th}(hd:h.dp<=80)(h1:fa fs=.ok (.t h.t) fs)(h2:fb fs=.ok (.t h.t) fs):Ag Np fa fb fs=.ok (.t (.o true)) fs:=by
 refine Ak h1 h2 ?_;have:=WC 182 h (by omega);cases h with
 |mk m ps =>
  have et:(Th.mk m ps).t=.tup [.str m,.tup (ps.map Th.t)]:=by simp[Th.t,Th.Ct]
  rw[et]at this ⊢;have e2:Jt (eqT 180) [.str m,.tup (ps.map Th.t)] [.str m,.tup (ps.map Th.t)]=some true:=by
   refine DY _ λt mt=>?_
   simp only[sQ,tq,or_false]at mt;have dN:(Th.mk m ps).dp=1+Th.dps ps:=rfl;rcases mt with rfl|rfl
   .rw[LD];simp
   .rw[Jb,DY]
    .simp
    .intro t mt;obtain⟨p,mp,rfl⟩:=tQ.mp mt;have:=PU mp;exact WC 179 p (by omega)
  unfold Np;simp only[K3,e2];rfl
abbrev bF:T:=.o false
abbrev bT:T:=.o true
theorem Jaq:P6 "TooLong"=[bF,bF,bF,bF,bF,bF,bF,bF,bF,bF,bT,bF,bF,bF,bF]:=rfl
theorem Ym{f}{g}(h:f fs=.ok (.t (.o true)) aj):orV f g fs=.ok (.t (.o true)) aj:=by unfold orV;rw[h];rfl
theorem Yn{f}{g}(h:f fs=.ok (.t (.o false)) aj)(e:g aj=r):orV f g fs=r:=by unfold orV;rw[h];exact e
theorem Xa:Ee [vl (.zT "TooLong")]=.ok (.t (.int 10)) [vl (.zT "TooLong")]:=rfl
abbrev riA(P:T)(hx hy:Th)(e:Ex)(n:Int)(hZ:T):FS:=[vl P,vl (D9 hx hy),vl e.t,iv n,vl hZ]
theorem QT(h:f_run cP cR (LY P hx hy e n)=.ok (.t v.t) τ):fz (Aj (Al 4 (f_run cP cR)) (Ad (fz (Ab 0)) (Ad (fz (Ab 1)) (Ad (fz (Ab 2)) (Ad (fz (Ab 3)) Ai))))) [vl P,vl (D9 hx hy),vl e.t,iv n,x4,x5,x6,x7]=.ok (.t v.t) [vl P,vl (D9 hx hy),vl e.t,iv n,x4,x5,x6,x7] :=
 Am (BY (Ae (Am (Aa rfl)) (Ae (Am (Aa rfl)) (Ae (Am (Aa rfl)) (Ae (Am (Aa rfl)) Au)))) rfl rfl h)
theorem UQ(h:f_run cP cR (LY P hx hy e n)=.exc "TooLong" τ):fz (Aj (Al 4 (f_run cP cR)) (Ad (fz (Ab 0)) (Ad (fz (Ab 1)) (Ad (fz (Ab 2)) (Ad (fz (Ab 3)) Ai))))) [vl P,vl (D9 hx hy),vl e.t,iv n,x4,x5,x6,x7]=.exc "TooLong" [vl P,vl (D9 hx hy),vl e.t,iv n,x4,x5,x6,x7] :=
 T5 (KG (Ae (Am (Aa rfl)) (Ae (Am (Aa rfl)) (Ae (Am (Aa rfl)) (Ae (Am (Aa rfl)) Au)))) rfl rfl h)
theorem V1{b}(h:fs[i]?=some (vl t))(hb:Mo fs (.t t)=some b):Ag (T4 false) (Ab i) (gc .v) fs=.ok (.t (.o b)) fs:=by refine Ak (Aa h) AB ?_;unfold T4;simp only[hb];rfl
theorem CZ(hd:v.dp<=80)(h:∃τ,f_run cP cR (LY P hx hy e n)=.ok (.t v.t) τ):f_Lright cP cR (riA P hx hy e n v.t)=.ok (.t (.o true)) (riA P hx hy e n v.t):=by obtain⟨τ,h⟩:=h;refine(BB (args:=riA P hx hy e n v.t) (sq (aq:=[vl P,vl (D9 hx hy),vl e.t,iv n,vl v.t,vl .v,none,none]) rfl (sq (aq:=[vl P,vl (D9 hx hy),vl e.t,iv n,vl v.t,vl .v,vl .v,none]) rfl (sq (by unfold Xb;rw[AL (aq:=[vl P,vl (D9 hx hy),vl e.t,iv n,vl v.t,vl .v,vl v.t,none]) (QT h) rfl]) (sq (AW (Bs (V1 rfl (by obtain⟨m,et⟩:=v.JbM;rw[et];rfl))) rfl) (AR (Qo (V1 (i:=5) (t:=.v) (b:=true) rfl rfl) (WG hd (Aa rfl) (Aa rfl))))))))).trans rfl
theorem BN(h:∃τ,f_run cP cR (LY P hx hy e n)=.exc "TooLong" τ):f_Lright cP cR (riA P hx hy e n .v)=.ok (.t (.o true)) (riA P hx hy e n .v):=by obtain⟨τ,h⟩:=h;have hc:(λc=>xrs.contains c&&D7 c "SayError") "TooLong"=true:=rfl;have cw:fz (Aj (Al 1 Ee) (Ad (fz (Ab 5)) Ai)) [vl P,vl (D9 hx hy),vl e.t,iv n,vl .v,vl (.zT "TooLong"),vl .v,none]=.ok (.t (.int 10)) [vl P,vl (D9 hx hy),vl e.t,iv n,vl .v,vl (.zT "TooLong"),vl .v,none] :=rfl;refine(BB (sq (aq:=[vl P,vl (D9 hx hy),vl e.t,iv n,vl .v,vl .v,none,none]) rfl (sq (aq:=[vl P,vl (D9 hx hy),vl e.t,iv n,vl .v,vl .v,vl .v,none]) rfl (sq (by unfold Xb;rw[QP (UQ h)];show Xc 7 (λc=>xrs.contains c&&D7 c "SayError") (AN 5 (fz (Ab 7))) "TooLong" _=_;unfold Xc;rw[if_pos hc];rfl) (Ea (DV (Bs (V1 rfl rfl)) (AR (Ak cw AB rfl)))))))).trans rfl
theorem Kf{x0}{x3}:∀(ts:List T)(c:Nat)(x5:Option Sl),Fre x5->∃y5,DX (tgN 5) (AN 4 (An Ar (Ac (Ag AF (Ab 1) (gc (.int 2))) (Ac (An Ar (Ac (fz (Ab 4)) (Ac (fz (Ab 4)) Ai))) Ai)))) ts [x0,vl N.t,x2,x3,vl (full N.n0 N.n2 c).t,x5]=.nx [x0,vl N.t,x2,x3,vl (full N.n0 N.n2 (c+ts.length)).t,y5]
 | [],c,x5,_=>⟨x5,by simp[DX]⟩
 |a::ts,c,x5,f5=>by obtain⟨y5,e⟩:=Kf ts (c+1) (vl a) AG;refine⟨y5,?_⟩;have b:AN 4 (An Ar (Ac (Ag AF (Ab 1) (gc (.int 2))) (Ac (An Ar (Ac (fz (Ab 4)) (Ac (fz (Ab 4)) Ai))) Ai))) [x0,vl N.t,x2,x3,vl (full N.n0 N.n2 c).t,vl a]=.nx [x0,vl N.t,x2,x3,vl (full N.n0 N.n2 (c+1)).t,vl a]:=rfl;rw[DH (tg (j:=5) rfl f5) b,e,tj,show c+1+ts.length=c+(ts.length+1) by omega]
abbrev duA(N:Nn)(w:Int)(c b:Int):FS:=[iv w,vl N.t,iv c,iv b]
theorem due0(c b:Int):Bm (duA N 0 c b)=.ok (.t (.tup [.int (c+1),.o (decide (c+1<=20)),(lf N).t])) (duA N 0 c b):=rfl
theorem due2(c b:Int):Bm (duA N 2 c b)=.ok (.t (.tup [.int (c+1),.o (decide (c+1<=20/\(c=0\/c+b<=40))),.v])) (duA N 2 c b):=by
 have e1:∀fs:FS,fs[2]?=some (iv c)->Ag gLe (Ag Ay (Ab 2) (gc (.int 1))) (gc (.int 20)) fs=.ok (.t (.o (decide (c+1<=20)))) fs:=λfs h=>Ak (Ak (Aa h) AB Br) AB rfl
 have e2:Ag (gEq false) (Ab 2) (gc (.int 0)) (duA N 2 c b++[none,none])=.ok (.t (.o (decide (c=0)))) (duA N 2 c b++[none,none]):=by refine Ak (Aa rfl) AB ?_;simp[gEq,plV,okT,show Ob (V.int c) (V.int 0)=true from rfl]
 have ea:Us (Ag gLe (Ag Ay (Ab 2) (gc (.int 1))) (gc (.int 20))) (orV (Ag (gEq false) (Ab 2) (gc (.int 0))) (Ag gLe (Ag Ay (Ab 2) (Ab 3)) (gc (.int 40)))) (duA N 2 c b++[none,none])=.ok (.t (.o (decide (c+1<=20/\(c=0\/c+b<=40))))) (duA N 2 c b++[none,none]):=by
  have ib:=e1 (duA N 2 c b++[none,none]) rfl;by_cases h1:c+1<=20
  .rw[tw h1]at ib;by_cases h2:c=0
   .rw[tw h2]at e2;rw[tw (show c+1<=20/\(c=0\/c+b<=40)from⟨h1,.inl h2⟩)];exact Qo ib (Ym e2)
   .rw[tB h2]at e2;rw[show decide (c+1<=20/\(c=0\/c+b<=40))=decide (c+b<=40) by simp[h1,h2]];exact Qo ib (Yn e2 rfl)
  .rw[tB h1]at ib;rw[tB (show ¬(c+1<=20/\(c=0\/c+b<=40)) by omega)];exact Z8 ib
 refine(BB (sq rfl (sq rfl (Ea (DV rfl (AR (BU (Ao (Ak (Aa rfl) AB Br) (Ao ea (Ao AB Au))) rfl (show 3<=big by decide) rfl))))))).trans rfl
theorem due3(c b:Int):Bm (duA N 3 c b)=.ok (.t (.tup [.int 0,.o (decide (1+c+b<=300)),.v])) (duA N 3 c b):=rfl
theorem XF{j}(h0:0<=j)(h1:j<=1000000):Wa (.t (.int 1)) (.t (.int j)) fs=.ok (.t (.int (2^j.toNat))) fs:=by have e:Wa (.t (.int 1)) (.t (.int j)) fs=okT (.int (1*2^j.toNat)) fs:=if_pos ⟨h0,h1,by decide⟩;rw[e,Int.one_mul];unfold okT;exact Eq.refl _
theorem due1(c:Nat)(b:Int)(hc:c<=1000):Bm (duA N 1 c b)=.ok (.t (.tup [.int (2^(c+1)-1),.o true,(full N.n0 N.n2 c).t])) (duA N 1 c b):=by
 obtain⟨y5,lp⟩:=Kf (FL.upTo 0 c) 0 none Aq;have l:(FL.upTo 0 c).length=c:=by simp[FL.upTo]
 rw[l,Nat.zero_add]at lp;have sh:Ag Dj (Ag Wa (gc (.int 1)) (Ag Ay (Ab 2) (gc (.int 1)))) (gc (.int 1)) [iv 1,vl N.t,iv (c:Int),iv b,vl (full N.n0 N.n2 c).t,y5]=.ok (.t (.int (2^(c+1)-1))) [iv 1,vl N.t,iv (c:Int),iv b,vl (full N.n0 N.n2 c).t,y5]:=by refine Ak (Ak AB (Ak (Aa rfl) AB Br) ?_) AB HY;rw[XF (by omega) (by omega),show((c:Int)+1).toNat=c+1 by omega]
 exact(BB (n:=2) (g:=Hf) (args:=duA N 1 c b) (sq (aq:=duA N 1 c b++[none,none]) rfl (Ea (DV rfl (sq rfl (sq (I0 (n:=c) (Ao (Aa rfl) Au) (by omega) lp) (AR (BU (g:=Ar) (r:=.ok (.t (.tup [.int (2^(c+1)-1),.o true,(full N.n0 N.n2 c).t])) [iv 1,vl N.t,iv (c:Int),iv b,vl (full N.n0 N.n2 c).t,y5]) (Ao sh (Ao (AB (t:=.o true)) (Ao (f:=fz (Ab 4)) (Am (Aa rfl)) Au))) rfl (show 3<=big by decide) rfl)))))))).trans rfl
def Jas(o:SO):Prop:=∃τ,o=.ret (.t (.o true)) τ
theorem sqR{g}(e:g fs=.nx aq)(r:Jas (h aq)):Jas (Av g h fs):=by obtain⟨τ,r⟩:=r;exact⟨τ,sq e r⟩
variable{sp:Int}
noncomputable abbrev rtF(cP cR:Addr)(m d:FS->Out Rv):FS->Out Rv:=fz (Aj (Al 5 (f_Lright cP cR)) (Ad (fz (Ab 2)) (Ad (fzW (Ab 12)) (Ad (fz (Ab 8)) (Ad m (Ad d Ai))))))
noncomputable abbrev tlB(cP cR:Addr):FS->SO:=(Av (AN 12 (SK "x" "y" 6 7))
  (Av (ifS (Ft (Hj (Ab 10))) (AN 11 (gc .v)) nxS)
  (Av (ifS (Ft (Hj (rtF cP cR (gc (.int 2000)) (fz (Ab 11))))) (retS (gc (.o false))) nxS)
  (Av (ifS (Ft (Hj (rtF cP cR (fz (Ab 9)) (fz (Ab 11))))) (retS (gc (.o false))) nxS)
  (retS (orV (Ag (gEq false) (Ab 9) (gc (.int 0))) (rtF cP cR (Ag Dj (Ab 9) (gc (.int 1))) (gc .v))))))))
theorem last{x0}{x1}{x3}(hd:due'=if lets=true then hZ else .v)(h1:f_Lright cP cR (riA P hx hy e 2000 due')=.ok (.t (.o true)) (riA P hx hy e 2000 due'))(h2:f_Lright cP cR (riA P hx hy e sp due')=.ok (.t (.o true)) (riA P hx hy e sp due'))(h3:sp=0\/f_Lright cP cR (riA P hx hy e (sp-1) .v)=.ok (.t (.o true)) (riA P hx hy e (sp-1) .v)):
  Jas (tlB cP cR [x0,x1,vl P,x3,x4,x5,vl hx.t,vl hy.t,vl e.t,iv sp,vl (.o lets),vl hZ,none]):=by
 refine sqR rfl (sqR (aq:=[x0,x1,vl P,x3,x4,x5,vl hx.t,vl hy.t,vl e.t,iv sp,vl (.o lets),vl due',some (.own (.l [.inr "x",.inr "y"] [hx.t,hy.t]))]) ?_ ?_)
 .subst hd;cases lets<;>rfl
 have c1:rtF cP cR (gc (.int 2000)) (fz (Ab 11)) [x0,x1,vl P,x3,x4,x5,vl hx.t,vl hy.t,vl e.t,iv sp,vl (.o lets),vl due',some (.own (.l [.inr "x",.inr "y"] [hx.t,hy.t]))]=.ok (.t (.o true)) [x0,x1,vl P,x3,x4,x5,vl hx.t,vl hy.t,vl e.t,iv sp,vl (.o lets),vl due',vl (D9 hx hy)] :=
  IZ (BY (Ae (Am (Aa rfl)) (Ae rfl (Ae (Am (Aa rfl)) (Ae AB (Ae (Am (Aa rfl)) Au))))) rfl rfl h1)
 have c2:rtF cP cR (fz (Ab 9)) (fz (Ab 11)) [x0,x1,vl P,x3,x4,x5,vl hx.t,vl hy.t,vl e.t,iv sp,vl (.o lets),vl due',vl (D9 hx hy)]=.ok (.t (.o true)) [x0,x1,vl P,x3,x4,x5,vl hx.t,vl hy.t,vl e.t,iv sp,vl (.o lets),vl due',vl (D9 hx hy)] :=
  IZ (BY (Ae (Am (Aa rfl)) (Ae rfl (Ae (Am (Aa rfl)) (Ae (Am (Aa rfl)) (Ae (Am (Aa rfl)) Au))))) rfl rfl h2)
 refine sqR (Ka (CO (Cp c1)) rfl) (sqR (Ka (CO (Cp c2)) rfl) ⟨[x0,x1,vl P,x3,x4,x5,vl hx.t,vl hy.t,vl e.t,iv sp,vl (.o lets),vl due',vl (D9 hx hy)],AR ?_⟩);have e0:Ag (gEq false) (Ab 9) (gc (.int 0)) [x0,x1,vl P,x3,x4,x5,vl hx.t,vl hy.t,vl e.t,iv sp,vl (.o lets),vl due',vl (D9 hx hy)]=.ok (.t (.o (decide (sp=0)))) [x0,x1,vl P,x3,x4,x5,vl hx.t,vl hy.t,vl e.t,iv sp,vl (.o lets),vl due',vl (D9 hx hy)]:=by refine Ak (Aa rfl) AB ?_;simp[gEq,plV,okT,show Ob (V.int sp) (V.int 0)=true from rfl]
 by_cases h0:sp=0
 .rw[tw h0]at e0;exact Ym e0
 .rw[tB h0]at e0;refine Yn e0 ?_;exact IZ (BY (Ae (Am (Aa rfl)) (Ae (r:=.t (D9 hx hy)) rfl (Ae (Am (Aa rfl)) (Ae (Ak (Aa rfl) AB HY) (Ae AB Au))))) rfl rfl (h3.resolve_left h0))
section
variable(H:NOk N)
include H
abbrev pgT(cP z0:Addr)(N:Nn):T:=Hm cP z0 N.K N.n5 N.gs
theorem szc(N:Nn)(c:Nat)(hc:c<=100):(chn N.n1 (lf N) c).sz<=900:=by have:=ET N.n1 (lf N) c;have h2:(lf N).sz=1/\(lf N).dp=1:=DR N.n0;omega
theorem Jca(ch:Nat)(hc:ch<=24)(zy:hy.sz<=900)(n:Int):
  (((ch:Int)+1<=n/\ch+1<=20)->∃τ,f_run cP cR (LY (pgT cP z0 N) (chn N.n1 (lf N) ch) hy (.cl N.n6 [.nm "x"]) n)=.ok (.t (lf N).t) τ)/\(¬((ch:Int)+1<=n/\ch+1<=20)->∃τ,f_run cP cR (LY (pgT cP z0 N) (chn N.n1 (lf N) ch) hy (.cl N.n6 [.nm "x"]) n)=.exc "TooLong" τ):=by
 have key:=λa b=>e0 (c:=rc cP cR (pgT cP z0 N) sXY [chn N.n1 (lf N) ch,hy] (.cl N.n6 [.nm "x"]) a b) (Xd H rfl rfl (by simp) (r:=(N.n0,[],.mk N.n0 [])) (by simp[Nn.g0])) (Xd H rfl rfl (g:=N.g0) (by simp) (r:=(N.n1,[N.n3],.cl N.n6 [.nm N.n3])) (by simp[Nn.g0])) ch 0 sXY [chn N.n1 (lf N) ch,hy] "x" 1 n (by omega) (by omega) (by omega) (lk2 KY).1
 refine⟨λh=>LV (szc H N ch (by omega)) zy λa b=>?_,λh=>LW (szc H N ch (by omega)) zy λa b=>?_⟩
 .obtain⟨k,hk,ek⟩:=(key a b).1 ⟨h.1,by omega⟩;exact⟨k,_,by omega,ek⟩
 .obtain⟨k,hk,ek⟩:=(key a b).2 (by omega);exact⟨k,by omega,ek⟩
theorem Jb9(ch:Nat)(hc:ch<=7)(zy:hy.sz<=900)(n:Int):
  ((2:Int)^(ch+1)-1<=n->∃τ,f_run cP cR (LY (pgT cP z0 N) (chn N.n1 (lf N) ch) hy (.cl N.n7 [.nm "x"]) n)=.ok (.t (full N.n0 N.n2 ch).t) τ)/\(¬(2:Int)^(ch+1)-1<=n->∃τ,f_run cP cR (LY (pgT cP z0 N) (chn N.n1 (lf N) ch) hy (.cl N.n7 [.nm "x"]) n)=.exc "TooLong" τ):=by
 have q:(2:Nat)^ch<=2^7:=Nat.pow_le_pow_right (by decide) hc;have key:=λa b=>e1 (c:=rc cP cR (pgT cP z0 N) sXY [chn N.n1 (lf N) ch,hy] (.cl N.n7 [.nm "x"]) a b) (Xd H rfl rfl (by simp) (r:=(N.n0,[],.mk N.n0 [])) (by simp[Nn.g1])) (Xd H rfl rfl (g:=N.g1) (by simp) (r:=(N.n1,[N.n3],.mk N.n2 [.cl N.n7 [.nm N.n3],.cl N.n7 [.nm N.n3]])) (by simp[Nn.g1])) ch 0 sXY [chn N.n1 (lf N) ch,hy] "x" 1 n hc (by omega) (by omega) (lk2 KY).1
 refine⟨λh=>LV (szc H N ch (by omega)) zy λa b=>?_,λh=>LW (szc H N ch (by omega)) zy λa b=>?_⟩
 .obtain⟨k,hk,ek⟩:=(key a b).1 h;exact⟨k,_,by omega,ek⟩
 .obtain⟨k,hk,ek⟩:=(key a b).2 h;exact⟨k,by omega,ek⟩
theorem Jb8(ch B:Nat)(hc:ch<=24)(hB:hy.sz=B/\hy.dp=B)(lb:B<=100)(n:Int):
  (((ch:Int)+1<=n/\ch+1<=20/\(ch=0\/ch+B<=40))->∃τ,f_run cP cR (LY (pgT cP z0 N) (chn N.n1 (lf N) ch) hy (.cl N.n8 [.nm "x",.nm "y"]) n)=.ok (.t (chn N.n1 hy ch).t) τ)/\(¬((ch:Int)+1<=n/\ch+1<=20/\(ch=0\/ch+B<=40))->∃τ,f_run cP cR (LY (pgT cP z0 N) (chn N.n1 (lf N) ch) hy (.cl N.n8 [.nm "x",.nm "y"]) n)=.exc "TooLong" τ):=by
 have nd:=H.nd;simp only[tu,sQ,tq,or_false,not_or,sY,and_true]at nd;have key:=λa b=>e2 (c:=rc cP cR (pgT cP z0 N) sXY [chn N.n1 (lf N) ch,hy] (.cl N.n8 [.nm "x",.nm "y"]) a b) hB lb nd.2.2.2.1.2.1 (Xd H rfl rfl (by simp) (r:=(N.n0,[],.nm N.n5)) (by simp[Nn.g2])) (Xd H rfl rfl (g:=N.g2) (by simp) (r:=(N.n1,[N.n3],.mk N.n1 [.cl N.n8 [.nm N.n3,.nm N.n5]])) (by simp[Nn.g2])) ch 0 sXY [chn N.n1 (lf N) ch,hy] "x" "y" 1 n (by omega) (by omega) (by omega) (lk2 KY).1 (lk2 KY).2
 refine⟨λh=>LV (szc H N ch (by omega)) (by omega) λa b=>?_,λh=>LW (szc H N ch (by omega)) (by omega) λa b=>?_⟩
 .obtain⟨k,hk,ek⟩:=(key a b).1 ⟨h.1,by omega,h.2.2⟩;exact⟨k,_,by omega,ek⟩
 .obtain⟨k,hk,ek⟩:=(key a b).2 (by omega);exact⟨k,by omega,ek⟩
omit H in
theorem Jb7(zx:hx.sz<=900)(zy:hy.sz<=900)(n:Int):
  (fits (.mk m [hx,hy])=true->∃τ,f_run cP cR (LY P hx hy (.mk m [.nm "x",.nm "y"]) n)=.ok (.t (Th.mk m [hx,hy]).t) τ)/\(fits (.mk m [hx,hy])=false->∃τ,f_run cP cR (LY P hx hy (.mk m [.nm "x",.nm "y"]) n)=.exc "TooLong" τ):=by
 have ea:=λa b=>(By (GP (lk2 KY).1 (by decide) (by decide)) (By (GP (lk2 KY).2 (by decide) (by decide)) Dd):EvL (rc cP cR P sXY [hx,hy] (.mk m [.nm "x",.nm "y"]) a b) (0+1+[Ex.nm "x",Ex.nm "y"].length) sXY [hx,hy] 1 n [.nm "x",.nm "y"] [hx,hy] n (0+1+1))
 exact⟨λh=>LV zx zy λa b=>⟨_,_,by decide,SD (ea a b) rfl h (by decide) (by decide)⟩,λh=>LW zx zy λa b=>⟨_,by decide,Ug (ea a b) rfl h (by decide) (by decide)⟩⟩
end
theorem cell{ns:List Int}(h:fs[0]?=some (vl (.zU (ns.map T.int))))(k:Nat):fz (Aj (Al 2 AA) (Ad (fz (Ab 0)) (Ad (gc (.int (k:Int))) Ai))) fs=.ok (.t (.int (ns.getD k 0))) fs :=
 Am (BY (Ae (Am (Aa h)) (Ae AB Au)) rfl rfl (WT ns k))
theorem Du{m}{ns:List Int}(h:fs[0]?=some (vl (.zU (ns.map T.int))))(k:Nat)(hm:0<m):Ag DG (fz (Aj (Al 2 AA) (Ad (fz (Ab 0)) (Ad (gc (.int (k:Int))) Ai)))) (gc (.int m)) fs=.ok (.t (.int (ns.getD k 0%m))) fs:=Ak (cell h k) AB (Fv hm)
theorem En(x:Int)(m:Nat)(hm:0<m):∃c:Nat,x%(m:Int)=(c:Int)/\c<m:=⟨(x%(m:Int)).toNat,by have:=Int.emod_nonneg x (show(m:Int)≠0 by omega);omega,by have:=Int.emod_lt_of_pos x (show(0:Int)<m by omega);have:=Int.emod_nonneg x (show(m:Int)≠0 by omega);omega⟩
section
variable(h1:fs[1]?=some (vl N.t))
include h1
theorem Jg{c}{f}{g}(hf:f fs=.ok (.t (.int (c:Int))) fs)(hc:c<1000)(hg:g fs=.ok (.t t.t) fs):fz (Aj (Al 3 B9) (Ad (fz (Ab 1)) (Ad f (Ad g Ai)))) fs=.ok (.t (chn N.n1 t c).t) fs :=
 Am (BY (Ae (Am (Aa h1)) (Ae hf (Ae hg Au))) rfl rfl (J5 c t hc))
theorem TV:An Ar (Ac (Ag AF (Ab 1) (gc (.int 0))) (Ac (An Ar Ai) Ai)) fs=.ok (.t (lf N).t) fs:=by rw[TU];exact BU (Ao (Ak (Aa h1) AB rfl) (Ao rfl Au)) rfl (show 2<=big by decide) rfl
theorem LP{c:Nat}(hi:fs[i]?=some (iv (c:Int)))(h0:1<=c)(hc:c<=900):fz (Aj (Al 2 (BI 10)) (Ad (fz (Ab 1)) (Ad (fz (Ab i)) Ai))) fs=.ok (.t (tre N 10 c).t) fs :=
 Am (BY (Ae (Am (Aa h1)) (Ae (Am (Aa hi)) Au)) rfl rfl (EI 10 c h0 (by omega) (by decide) hc).1)
theorem FX{c}{w}(h3:fs[3]?=some (iv w))(h4:fs[4]?=some (iv c))(h5:fs[5]?=some (iv b))(h:Bm (duA N w c b)=.ok (.t t) (duA N w c b)):fz (Aj (Al 4 Bm) (Ad (fz (Ab 3)) (Ad (fz (Ab 1)) (Ad (fz (Ab 4)) (Ad (fz (Ab 5)) Ai))))) fs=.ok (.t t) fs :=
 Am (BY (Ae (Am (Aa h3)) (Ae (Am (Aa h1)) (Ae (Am (Aa h4)) (Ae (Am (Aa h5)) Au)))) rfl rfl h)
end
theorem JaR{fa}{w}{y}(h3:fs[3]?=some (iv w))(ha:fa fs=.ok (.t (.int x)) fs)(hb:fb fs=.ok (.t (.int y)) fs)(hc:fc fs=.ok (.t (.int z)) fs)(hi:(if(2:Int)<w then 2 else w)=(i:Int))(ht:[T.int x,T.int y,T.int z][i]?=some (.int t)):Ag AF (An Cz (Ac fa (Ac fb (Ac fc Ai)))) (Aj IY (Ac (Ab 3) (Ac (gc (.int 2)) Ai))) fs=.ok (.t (.int t)) fs:=by
 have hm:Aj IY (Ac (Ab 3) (Ac (gc (.int 2)) Ai)) fs=.ok (.t (.int (i:Int))) fs:=by refine BV (Ao (Aa h3) (Ao AB Au)) ?_;rw[<- hi];simp only[IY];rfl
 exact Ak (FY (Ao ha (Ao hb (Ao hc Au))) rfl (show 3<=big by decide)) hm (Ec rfl (DB ht))
theorem good(cP cR zY z0:Addr):∀ns:List Int,ns.length<=63->Cs ns<=2^20->∃fs,f_law cP cR zY z0 [some (.val (.zU (ns.map T.int)))]=.ok (.t (.o true)) fs:=by
 intro ns hl jD;obtain⟨N,H,hN⟩:∃N:Nn,NOk N/\T.lst ((nms (ns.getD 0 0) 9).map T.str)=N.t:=by
  generalize ns.getD 0 0=c;refine⟨⟨nmS c 0,nmS c 1,nmS c 2,nmS c 3,nmS c 4,nmS c 5,nmS c 6,nmS c 7,nmS c 8⟩,⟨OH c (n:=9) (by decide),λx m=>?_,λx m=>?_⟩,rfl⟩
  .obtain⟨k,rfl⟩:=OI (c:=c) (n:=9) m;exact Ng c k
  .obtain⟨k,rfl⟩:=OI (c:=c) (n:=9) m;exact VC c k
 generalize hS:vl (T.zU (ns.map T.int))=S;have s1:AN 1 (fz (Aj (Al 2 Ef) (Ad (fz (Aj (Al 2 AA) (Ad (fz (Ab 0)) (Ad (gc (.int 0)) Ai)))) (Ad (gc (.int 9)) Ai)))) [S,none,none,none,none,none,none,none,none,none,none,none,none]=.nx [S,vl N.t,none,none,none,none,none,none,none,none,none,none,none]:=by have nm:=names (c:=ns.getD 0 0) (n:=9) (by decide) (S7 jD 0);have cl:=cell (ns:=ns) (fs:=[S,none,none,none,none,none,none,none,none,none,none,none,none]) (by rw[hS];rfl) 0;have cc:=Fe (FZ (rs:=[.t (.int (ns.getD 0 0)),.t (.int 9)]) (Ae cl (Ae AB Au)) rfl (by rw[show Dc _ _=[]from rfl];exact sY) nm (AV rfl));exact AL (t:=N.t) (cc.trans (by rw[<- hN];rfl)) rfl
 have s2:AN 2 (fz (Aj (Al 1 (Dl cP zY z0)) (Ad (fz (Ab 1)) Ai))) [S,vl N.t,none,none,none,none,none,none,none,none,none,none,none]=.nx [S,vl N.t,vl (pgT cP z0 N),none,none,none,none,none,none,none,none,none,none]:=by have cc:=Fe (FZ (rs:=[.t N.t]) (fs:=[S,vl N.t,none,none,none,none,none,none,none,none,none,none,none]) (fa:=Ad (fz (Ab 1)) Ai) (p:=1) (Ae (Am (Aa rfl)) Au) rfl (by rw[show Dc _ _=[]from rfl];exact sY) (Lp H (cP:=cP) (zY:=zY) (z0:=z0)) (AV rfl));rw[U0]at cc;exact AL cc rfl
 obtain⟨w,hw,w4⟩:=En (ns.getD 1 0) 4 (by decide);have s3:AN 3 (Ag DG (fz (Aj (Al 2 AA) (Ad (fz (Ab 0)) (Ad (gc (.int 1)) Ai)))) (gc (.int 4))) [S,vl N.t,vl (pgT cP z0 N),none,none,none,none,none,none,none,none,none,none]=.nx [S,vl N.t,vl (pgT cP z0 N),iv (w:Int),none,none,none,none,none,none,none,none,none]:=by have:=Du (ns:=ns) (fs:=[S,vl N.t,vl (pgT cP z0 N),none,none,none,none,none,none,none,none,none,none]) (by rw[hS];rfl) 1 (m:=4) (by decide);rw[show ns.getD 1 0%4=(w:Int)from hw]at this;exact AL this rfl
 have ba:Jas (b_law cP cR zY z0 [S,none,none,none,none,none,none,none,none,none,none,none,none]):=by
  refine sqR s1 (sqR s2 (sqR s3 ?_));obtain⟨b8,qh,sj⟩:=En (ns.getD 3 0) 8 (by decide);obtain⟨fG,lU,rS⟩:=En (ns.getD 2 0) 25 (by decide);obtain⟨x8,qU,sC⟩:=En (ns.getD 2 0) 8 (by decide);obtain⟨aY,lT,rR⟩:=En (ns.getD 2 0) 21 (by decide);have el:(lf N).sz=1/\(lf N).dp=1:=DR N.n0;have ey:=ET N.n1 (lf N) (17+b8);have pk:∀(i:Nat)(t:Nat),(if(2:Int)<(w:Int)then 2 else(w:Int))=(i:Int)->[T.int fG,T.int x8,T.int aY][i]?=some (.int t)->AN 4 (Ag AF (An Cz (Ac (Ag DG (fz (Aj (Al 2 AA) (Ad (fz (Ab 0)) (Ad (gc (.int 2)) Ai)))) (gc (.int 25))) (Ac (Ag DG (fz (Aj (Al 2 AA) (Ad (fz (Ab 0)) (Ad (gc (.int 2)) Ai)))) (gc (.int 8))) (Ac (Ag DG (fz (Aj (Al 2 AA) (Ad (fz (Ab 0)) (Ad (gc (.int 2)) Ai)))) (gc (.int 21))) Ai)))) (Aj IY (Ac (Ab 3) (Ac (gc (.int 2)) Ai)))) [S,vl N.t,vl (pgT cP z0 N),iv (w:Int),none,none,none,none,none,none,none,none,none]=.nx [S,vl N.t,vl (pgT cP z0 N),iv (w:Int),iv (t:Int),none,none,none,none,none,none,none,none]:=λi t h1 h2=>by
   have g0:([S,vl N.t,vl (pgT cP z0 N),iv (w:Int),none,none,none,none,none,none,none,none,none]:FS)[0]?=some (vl (.zU (ns.map T.int))):=by rw[hS];rfl
   have a:=Du g0 2 (m:=25) (by decide);have b:=Du g0 2 (m:=8) (by decide);have c:=Du g0 2 (m:=21) (by decide);rw[show ns.getD 2 0%25=(fG:Int)from lU]at a;rw[show ns.getD 2 0%8=(x8:Int)from qU]at b;rw[show ns.getD 2 0%21=(aY:Int)from lT]at c;exact AL (JaR (w:=(w:Int)) rfl a b c h1 h2) rfl
  have bs:∀(x4:Option Sl),AN 5 (Ag Ay (gc (.int 18)) (Ag DG (fz (Aj (Al 2 AA) (Ad (fz (Ab 0)) (Ad (gc (.int 3)) Ai)))) (gc (.int 8)))) [S,vl N.t,vl (pgT cP z0 N),iv (w:Int),x4,none,none,none,none,none,none,none,none]=.nx [S,vl N.t,vl (pgT cP z0 N),iv (w:Int),x4,iv ((18+b8:Nat):Int),none,none,none,none,none,none,none]:=λx4=>by
   have g0:([S,vl N.t,vl (pgT cP z0 N),iv (w:Int),x4,none,none,none,none,none,none,none,none]:FS)[0]?=some (vl (.zU (ns.map T.int))):=by rw[hS];rfl
   have a:=Du g0 3 (m:=8) (by decide);rw[show ns.getD 3 0%8=(b8:Int)from qh]at a;exact AL (t:=.int ((18+b8:Nat):Int)) (Ak AB a (by rw[Br];push_cast;rfl)) rfl
  have cx:∀(t:Nat),t<100->AN 6 (fz (Aj (Al 3 B9) (Ad (fz (Ab 1)) (Ad (fz (Ab 4)) (Ad (An Ar (Ac (Ag AF (Ab 1) (gc (.int 0))) (Ac (An Ar Ai) Ai))) Ai))))) [S,vl N.t,vl (pgT cP z0 N),iv (w:Int),iv (t:Int),iv ((18+b8:Nat):Int),none,none,none,none,none,none,none]=.nx [S,vl N.t,vl (pgT cP z0 N),iv (w:Int),iv (t:Int),iv ((18+b8:Nat):Int),vl (chn N.n1 (lf N) t).t,none,none,none,none,none,none]:=λt ht =>AL (Jg rfl (Am (Aa rfl)) (by omega) (TV rfl)) rfl
  have cy:∀(t:Nat),AN 7 (fz (Aj (Al 3 B9) (Ad (fz (Ab 1)) (Ad (Ag Dj (Ab 5) (gc (.int 1))) (Ad (An Ar (Ac (Ag AF (Ab 1) (gc (.int 0))) (Ac (An Ar Ai) Ai))) Ai))))) [S,vl N.t,vl (pgT cP z0 N),iv (w:Int),iv (t:Int),iv ((18+b8:Nat):Int),vl (chn N.n1 (lf N) t).t,none,none,none,none,none,none]=.nx [S,vl N.t,vl (pgT cP z0 N),iv (w:Int),iv (t:Int),iv ((18+b8:Nat):Int),vl (chn N.n1 (lf N) t).t,vl (chn N.n1 (lf N) (17+b8)).t,none,none,none,none,none]:=λt =>AL (Jg rfl (Ak (Aa rfl) AB (by rw[HY,show((18+b8:Nat):Int)-1=((17+b8:Nat):Int) by omega])) (by omega) (TV rfl)) rfl
  generalize hy0:chn N.n1 (lf N) (17+b8)=hy at *;obtain rfl|rfl|rfl|rfl:w=0\/w=1\/w=2\/w=3:=by omega
  .
   refine sqR (pk 0 fG rfl rfl) (sqR (bs _) (sqR (cx fG (by omega)) (sqR (cy fG) ?_)));have et:(Ex.cl N.n6 [.nm "x"]).t=.tup [.str "call",.str N.n6,.tup [.tup [.str "name",.str "x"]]]:=rfl;refine sqR (aq:=[S,vl N.t,vl (pgT cP z0 N),iv 0,iv (fG:Int),iv ((18+b8:Nat):Int),vl (chn N.n1 (lf N) fG).t,vl hy.t,vl (Ex.cl N.n6 [.nm "x"]).t,none,none,none,none]) (by rw[et];rfl) (sqR (AW rfl rfl) (sqR (Xi (FX rfl rfl rfl rfl (due0 _ _)) rfl rfl rfl) (sqR (AW rfl rfl) (sqR (AW rfl rfl) ?_))));have W:=λn=>Jca H (cP:=cP) (cR:=cR) (z0:=z0) fG (by omega) (hy:=hy) (by omega) n
   by_cases h20:fG+1<=20
   .exact last (lets:=decide ((fG:Int)+1<=20)) (hZ:=(lf N).t) (due':=(lf N).t) (by rw[tw (show(fG:Int)+1<=20 by omega)];rfl) (CZ (by omega) ((W 2000).1 (by omega))) (CZ (by omega) ((W _).1 (by omega))) (.inr (BN ((W _).2 (by omega))))
   .exact last (lets:=decide ((fG:Int)+1<=20)) (hZ:=(lf N).t) (due':=.v) (by rw[tB (show ¬(fG:Int)+1<=20 by omega)];rfl) (BN ((W 2000).2 (by omega))) (BN ((W _).2 (by omega))) (.inr (BN ((W _).2 (by omega))))
  .
   refine sqR (pk 1 x8 rfl rfl) (sqR (bs _) (sqR (cx x8 (by omega)) (sqR (cy x8) ?_)));have et:(Ex.cl N.n7 [.nm "x"]).t=.tup [.str "call",.str N.n7,.tup [.tup [.str "name",.str "x"]]]:=rfl;refine sqR (aq:=[S,vl N.t,vl (pgT cP z0 N),iv 1,iv (x8:Int),iv ((18+b8:Nat):Int),vl (chn N.n1 (lf N) x8).t,vl hy.t,vl (Ex.cl N.n7 [.nm "x"]).t,none,none,none,none]) (by rw[et];rfl) (sqR (AW rfl rfl) (sqR (Xi (FX rfl rfl rfl rfl (due1 x8 _ (by omega))) rfl rfl rfl) (sqR (AW rfl rfl) (sqR (AW rfl rfl) ?_))));have W:=λn=>Jb9 H (cP:=cP) (cR:=cR) (z0:=z0) x8 (by omega) (hy:=hy) (by omega) n
   have ff:=Lw N.n0 N.n2 x8;have q:(2:Int)^(x8+1)<=2^8:=by
    have:=Nat.pow_le_pow_right (n:=2) (by decide) (show x8+1<=8 by omega)
    exact_mod_cast this
   generalize (2:Int)^(x8+1)=p at *;exact last (lets:=true) (hZ:=(full N.n0 N.n2 x8).t) (due':=(full N.n0 N.n2 x8).t) rfl (CZ (by omega) ((W 2000).1 (by omega))) (CZ (by omega) ((W _).1 (by omega))) (.inr (BN ((W _).2 (by omega))))
  .
   refine sqR (pk 2 aY rfl rfl) (sqR (bs _) (sqR (cx aY (by omega)) (sqR (cy aY) ?_)));have et:(Ex.cl N.n8 [.nm "x",.nm "y"]).t=.tup [.str "call",.str N.n8,.tup [.tup [.str "name",.str "x"],.tup [.str "name",.str "y"]]]:=by simp[Ex.t,Ex.ts]
   refine sqR (aq:=[S,vl N.t,vl (pgT cP z0 N),iv 2,iv (aY:Int),iv ((18+b8:Nat):Int),vl (chn N.n1 (lf N) aY).t,vl hy.t,vl (Ex.cl N.n8 [.nm "x",.nm "y"]).t,none,none,none,none]) (by rw[et];rfl) (sqR (AW rfl rfl) (sqR (Xi (FX rfl rfl rfl rfl (due2 _ _)) rfl rfl rfl) (sqR (DV rfl (AL (Jg rfl (Am (Aa rfl)) (by omega) (Am (Aa rfl))) rfl)) (sqR (AW rfl rfl) ?_))));have hB:hy.sz=18+b8/\hy.dp=18+b8:=by omega
   have W:=λn=>Jb8 H (cP:=cP) (cR:=cR) (z0:=z0) aY (18+b8) (by omega) hB (by omega) n
   have cs:=ET N.n1 hy aY;by_cases hk:aY+1<=20/\(aY=0\/aY+(18+b8)<=40)
   .exact last (lets:=decide ((aY:Int)+1<=20/\((aY:Int)=0\/(aY:Int)+((18+b8:Nat):Int)<=40))) (hZ:=(chn N.n1 hy aY).t) (due':=(chn N.n1 hy aY).t) (by rw[tw (show(aY:Int)+1<=20/\((aY:Int)=0\/(aY:Int)+((18+b8:Nat):Int)<=40) by omega)];rfl) (CZ (by omega) ((W 2000).1 (by omega))) (CZ (by omega) ((W _).1 (by omega))) (.inr (BN ((W _).2 (by omega))))
   .exact last (lets:=decide ((aY:Int)+1<=20/\((aY:Int)=0\/(aY:Int)+((18+b8:Nat):Int)<=40))) (hZ:=(chn N.n1 hy aY).t) (due':=.v) (by rw[tB (show ¬((aY:Int)+1<=20/\((aY:Int)=0\/(aY:Int)+((18+b8:Nat):Int)<=40)) by omega)];rfl) (BN ((W 2000).2 (by omega))) (BN ((W _).2 (by omega))) (.inr (BN ((W _).2 (by omega))))
  .
   refine sqR (pk 2 aY rfl rfl) (sqR (bs _) (sqR (cx aY (by omega)) (sqR (cy aY) ?_)));obtain⟨bS,lj,oY⟩:=En (ns.getD 2 0) 18 (by decide);obtain⟨bL,lr,pA⟩:=En (ns.getD 3 0) 18 (by decide);generalize hE:T.tup [.str "call",.str N.n8,.tup [.tup [.str "name",.str "x"]]]=E0;refine sqR (aq:=[S,vl N.t,vl (pgT cP z0 N),iv 3,iv (aY:Int),iv ((18+b8:Nat):Int),vl (chn N.n1 (lf N) aY).t,vl hy.t,vl E0,none,none,none,none]) (by rw[<- hE];rfl) ?_;have tx:=EI (N:=N) 10 (140+bS) (by omega) (by omega) (by decide) (by omega);have ty:=EI (N:=N) 10 (140+bL) (by omega) (by omega) (by decide) (by omega);have et:(Ex.mk N.n2 [.nm "x",.nm "y"]).t=.tup [.str "make",.str N.n2,.tup [.tup [.str "name",.str "x"],.tup [.str "name",.str "y"]]]:=by simp[Ex.t,Ex.ts]
   have ev:(Th.mk N.n2 [tre N 10 (140+bS),tre N 10 (140+bL)]).t=.tup [.str N.n2,.tup [(tre N 10 (140+bS)).t,(tre N 10 (140+bL)).t]]:=by simp[Th.t,Th.ts]
   have kS:ifS (asB (Ag (gEq false) (Ab 3) (gc (.int 3)))) (Av (AN 4 (Ag Ay (gc (.int 140)) (Ag DG (fz (Aj (Al 2 AA) (Ad (fz (Ab 0)) (Ad (gc (.int 2)) Ai)))) (gc (.int 18)))))
  (Av (AN 5 (Ag Ay (gc (.int 140)) (Ag DG (fz (Aj (Al 2 AA) (Ad (fz (Ab 0)) (Ad (gc (.int 3)) Ai)))) (gc (.int 18)))))
  (Av (AN 6 (fz (Aj (Al 2 (BI 10)) (Ad (fz (Ab 1)) (Ad (fz (Ab 4)) Ai)))))
  (Av (AN 7 (fz (Aj (Al 2 (BI 10)) (Ad (fz (Ab 1)) (Ad (fz (Ab 5)) Ai)))))
  (AN 8 (An Ar (Ac (gc (.str ("make":Str))) (Ac (Ag AF (Ab 1) (gc (.int 2))) (Ac (An Ar (Ac (An Ar (Ac (gc (.str ("name":Str))) (Ac (gc (.str ("x":Str))) Ai))) (Ac (An Ar (Ac (gc (.str ("name":Str))) (Ac (gc (.str ("y":Str))) Ai))) Ai))) Ai))))))))) nxS [S,vl N.t,vl (pgT cP z0 N),iv 3,iv (aY:Int),iv ((18+b8:Nat):Int),vl (chn N.n1 (lf N) aY).t,vl hy.t,vl E0,none,none,none,none]=.nx [S,vl N.t,vl (pgT cP z0 N),iv 3,iv ((140+bS:Nat):Int),iv ((140+bL:Nat):Int),vl (tre N 10 (140+bS)).t,vl (tre N 10 (140+bL)).t,vl (Ex.mk N.n2 [.nm "x",.nm "y"]).t,none,none,none,none]:=by refine DV rfl ?_;have a:=Du (ns:=ns) (fs:=[S,vl N.t,vl (pgT cP z0 N),iv 3,iv (aY:Int),iv ((18+b8:Nat):Int),vl (chn N.n1 (lf N) aY).t,vl hy.t,vl E0,none,none,none,none]) (by rw[hS];rfl) 2 (m:=18) (by decide);rw[show ns.getD 2 0%18=(bS:Int)from lj]at a;have b:=Du (ns:=ns) (fs:=[S,vl N.t,vl (pgT cP z0 N),iv 3,iv ((140+bS:Nat):Int),iv ((18+b8:Nat):Int),vl (chn N.n1 (lf N) aY).t,vl hy.t,vl E0,none,none,none,none]) (by rw[hS];rfl) 3 (m:=18) (by decide);rw[show ns.getD 3 0%18=(bL:Int)from lr]at b;refine sq (AL (t:=.int ((140+bS:Nat):Int)) (Ak AB a (by rw[Br];push_cast;rfl)) rfl) (sq (AL (t:=.int ((140+bL:Nat):Int)) (Ak AB b (by rw[Br];push_cast;rfl)) rfl) (sq (AL (LP rfl rfl (by omega) (by omega)) rfl) (sq (AL (LP rfl rfl (by omega) (by omega)) rfl) ?_)));rw[et];rfl
   refine sqR kS (sqR (Xi (FX rfl rfl rfl rfl (due3 _ _)) rfl rfl rfl) (sqR (AW rfl rfl) (sqR (aq:=[S,vl N.t,vl (pgT cP z0 N),iv 3,iv ((140+bS:Nat):Int),iv ((140+bL:Nat):Int),vl (tre N 10 (140+bS)).t,vl (tre N 10 (140+bL)).t,vl (Ex.mk N.n2 [.nm "x",.nm "y"]).t,iv 0,vl (.o (decide (1+((140+bS:Nat):Int)+((140+bL:Nat):Int)<=300))),vl (Th.mk N.n2 [tre N 10 (140+bS),tre N 10 (140+bL)]).t,none]) (by rw[ev];rfl) ?_)));have W:=λn=>Jb7 (cP:=cP) (cR:=cR) (P:=pgT cP z0 N) (hx:=tre N 10 (140+bS)) (hy:=tre N 10 (140+bL)) (m:=N.n2) (by omega) (by omega) n
   have ez:(Th.mk N.n2 [tre N 10 (140+bS),tre N 10 (140+bL)]).sz=1+(140+bS)+(140+bL):=by simp[Th.sz,Th.szs];omega
   have ed:(Th.mk N.n2 [tre N 10 (140+bS),tre N 10 (140+bL)]).dp<=12:=by simp[Th.dp,Th.dps];omega
   by_cases h3:1+(140+bS)+(140+bL)<=300
   .have hf:fits (.mk N.n2 [tre N 10 (140+bS),tre N 10 (140+bL)])=true:=by unfold fits;simp;omega
    exact last (lets:=decide (1+((140+bS:Nat):Int)+((140+bL:Nat):Int)<=300)) (due':=(Th.mk N.n2 [tre N 10 (140+bS),tre N 10 (140+bL)]).t) (by rw[tw (show 1+((140+bS:Nat):Int)+((140+bL:Nat):Int)<=300 by omega)];rfl) (CZ (by omega) ((W 2000).1 hf)) (CZ (by omega) ((W _).1 hf)) (.inl rfl)
   .have hf:fits (.mk N.n2 [tre N 10 (140+bS),tre N 10 (140+bL)])=false:=by unfold fits;simp;omega
    exact last (lets:=decide (1+((140+bS:Nat):Int)+((140+bL:Nat):Int)<=300)) (due':=.v) (by rw[tB (show ¬1+((140+bS:Nat):Int)+((140+bL:Nat):Int)<=300 by omega)];rfl) (BN ((W 2000).2 hf)) (BN ((W _).2 hf)) (.inl rfl)
 obtain⟨τ,e⟩:=ba;rw[<- hS]at e;exact⟨_,BB (n:=12) (g:=b_law cP cR zY z0) (args:=[some (.val (.zU (ns.map T.int)))]) e⟩
theorem us1{α:Type}{us:List α}(e:us.length=1):∃a,us=[a]:=by match us,e with| [a],_=>exact⟨a,rfl⟩
theorem us2{α:Type}{us:List α}(e:us.length=2):∃a b,us=[a,b]:=by match us,e with| [a,b],_=>exact⟨a,b,rfl⟩
theorem us3{α:Type}{us:List α}(e:us.length=3):∃a b c,us=[a,b,c]:=by match us,e with| [a,b,c],_=>exact⟨a,b,c,rfl⟩
theorem us4{α:Type}{us:List α}(e:us.length=4):∃a b c d,us=[a,b,c,d]:=by match us,e with| [a,b,c,d],_=>exact⟨a,b,c,d,rfl⟩
theorem us5{α:Type}{us:List α}(e:us.length=5):∃a b c d e,us=[a,b,c,d,e]:=by match us,e with| [a,b,c,d,e],_=>exact⟨a,b,c,d,e,rfl⟩
theorem us6{α:Type}{us:List α}(e:us.length=6):∃a b c d e f,us=[a,b,c,d,e,f]:=by match us,e with| [a,b,c,d,e,f],_=>exact⟨a,b,c,d,e,f,rfl⟩
abbrev DF(K:Fg)(n:Str)(st:Stmt):Prop:=∃f fd,nsIn K mainGlobals n=some (some (.ref f))/\Fun K n n st f fd
abbrev DM(K:Fg)(C:Addr)(m q:Str)(st:Stmt):Prop:=∃f fd,findIn K (.ref C) m=some (some (.ref f))/\isFn K (.ref f)=true/\Fun K m q st f fd
structure CC(K:Fg)(x:Str)(C:Addr):Prop where
 ac:nsIn K mainGlobals x=some (some (.ref C))
 yv:makesIn K C=true
 kc:keepIn K (.ref C)=true
abbrev aF(P:Program)(w:World)(K:Fg)(mg:Str->Option Value)(base:Heap)(n:Str)(k:Nat)(ps:List Str)(p:Nat)(Fn:FS->Out Rv):Prop:=FnAt P w K mg base (CX1 P w) n k ps (spX K p Fn)
abbrev aM(P:Program)(w:World)(K:Fg)(mg:Str->Option Value)(base:Heap)(C:Addr)(n:Str)(k:Nat)(ps:List Str)(p:Nat)(Fn:FS->Out Rv):Prop:=W6 P w K mg base (CX1 P w) C n k ps (spX K p Fn)
abbrev aK(P:Program)(w:World)(K:Fg)(mg:Str->Option Value)(base:Heap)(n:Str)(C:Addr)(k:Nat)(ps:List Str)(p:Nat)(Fn:FS->Out Rv):Prop:=Jav P w K mg base (CX1 P w) n C k ps (spX K p Fn)
variable{P:Program}{w:World}{K:Fg}{mg:Str->Option Value}{base h:Heap}{CX:CXT}{n q:Str}{st:Stmt}{k:Nat}{ps:List Str}{sp:Sp}
section
variable(X:K.In h)(G:h.Ns mainGlobals mg)
abbrev BA(x q:Str)(st:Stmt)(ps:List Str):Prop:=∀(kV di pm:Value)(an:Option Addr)(aV ct:Value)(us:List Value),us.length=ps.length->bindArgs (fnOf x q (GU st) (Et st) (Bz st) .none kV di pm an aV ct) ⟨us,[]⟩=pure (ps.zip us)
theorem Tb(X:K.In h)(G:h.Ns mainGlobals mg)(d:DF K n st)(B:BA n n st ps)(O:∀f fd,Fun K n n st f fd->(∀k sp,EY P w K mg base CX k f fd ps sp->FnAt P w K mg base CX n k ps sp)->EY P w K mg base CX k f fd ps sp):FnAt P w K mg base CX n k ps sp :=
 let⟨f,fd,a,F⟩:=d
 ⟨f,fd,O f fd F λ_ _ o=>⟨f,fd,o,mg_of X G a,F.kp,F.binds B⟩,mg_of X G a,F.kp,F.binds B⟩
theorem JbF(c:Cls K C)(d:DM K C m q st)(B:BA m q st ps)(O:∀f fd,Fun K m q st f fd->EY P w K mg base CX k f fd ps sp):W6 P w K mg base CX C m k ps sp :=
 let⟨f,fd,a,i,F⟩:=d
 ⟨c,f,fd,O f fd F,⟨a,i,F.kp⟩,F.binds B⟩
theorem JbG(X:K.In h)(G:h.Ns mainGlobals mg)(c:CC K n C)(d:DM K C "__init__" q st)(B:BA "__init__" q st ps)(O:∀f fd,Fun K "__init__" q st f fd->EY P w K mg base CX k f fd ps sp):Jav P w K mg base CX n C k ps sp :=
 let⟨f,fd,a,i,F⟩:=d
 ⟨mg_of X G c.ac,f,fd,O f fd F,⟨c.yv,a,i,c.kc⟩,F.binds B⟩
end
variable{ao ag ai af:Addr}
section
variable(X:K.In h)(G:h.Ns mainGlobals mg)(T:Tx K mg ao ag ai af)(fK:CC K "Run" ao)(bE:CC K "Program" ag)(cM:CC K "Scope" ai)(cN:CC K "Stock" af)
seal FE FT FA FW FP GS GSs GT GTs FI FAn FIf
set_option hygiene false in
local macro_rules | `(tactic| trivial)=>`(tactic| (
 intro aV A outer s H E _ _ hr lk;have hu:=Y2 hr;have a0:=T.zD;have a1:=T.zQ;have a2:=T.zd;have a3:=T.zc;have a4:=T.zB;have a5:=T.zW;have a6:=T.zA;have a7:=T.zR;have a8:=T.zr;have a9:=T.zK;have rX:=T.zJ;have rY:=T.zq;have rZ:=T.zN;have r8:=T.zw;have sd:=T.ze;have se:=T.zp;have sf:=T.zM;have sg:=T.zP;have si:=T.zO;refine GSs.zero ?_
 repeat' first
  | (show FE _ _ _ _;first
   | exact Pz _
   | refine Ja ?_
   | exact Uc
   | refine Zq ?_
   | refine Jbo hu ?_ ?_ (fun _ _=>rfl)
   | refine PB (by assumption) (hr.mono (by first | decide | omega)) (by first | exact lk.lk | exact Lks.no) ?_
   | refine ZN ?_ ?_
   | exact Zt
   | refine ZH (by assumption) (by assumption) ?_
   | refine ZD T.yD ?_
   | refine ZE T.xt T.zG (by decide +kernel) ?_
   | refine Zy ?_ ?_
   | exact Jbw
   | refine ZC ?_
   | refine Zx (by assumption) (hr.mono (by first | decide | omega)) (by first | exact lk.lk | exact Lks.no) ?_ ?_
   | refine Sx YJ PySem.F.slot_list_append PySem.F.type_list_append Gr ?_ ?_
   | refine Sx Rr PySem.F.slot_list_index PySem.F.type_list_index Rp ?_ ?_
   | refine Sx VM PySem.F.slot_list_extend PySem.F.type_list_extend VH ?_ ?_
   | refine Sx Rt PySem.F.slot_list_count PySem.F.type_list_count Rq ?_ ?_
   | exact Sv
   | refine Ww ?_
   | refine Wx T.yT ?_
   | refine GN false ["part"] [none] rfl ?_ (fun _ _ _ _ _=>IV 0 (uU _ _) (Or.inl rfl) (hf:=.inr rfl)) (fun _ _ _ _ _=>?_) (fun _ _ _ _ _=>?_)
   | refine GN false ["sign"] [none] rfl ?_ (fun _ _ _ _ _=>IV 0 (uU _ _) (Or.inl rfl) (hf:=.inr rfl)) (fun _ _ _ _ _=>?_) (fun _ _ _ _ _=>?_)
   | refine GN false ["maker","parts"] [none,none] rfl ?_ (fun _ _ _ _ _=>?_) (fun _ _ _ _ _=>?_) (fun _ _ _ _ _=>?_)
   | refine GN false ["kind","name","stock"] [none,some 1,some 0] rfl ?_ (fun _ _ _ _ _=>?_) (fun _ _ _ _ _=>?_) (fun _ _ _ _ _=>?_)
   | refine GN false ["_law_other"] [none] rfl ?_ (fun _ _ _ _ _=>IV 0 (uU _ _) (Or.inl rfl) (hf:=.inr rfl)) (fun _ _ _ _ _=>?_) (fun _ _ _ _ _=>?_)
   | refine Zs ?_ ?_
   | exact Jbv (by first | exact T.y1 | exact T.zf | exact T.zj | exact T.zu | exact T.zg | exact T.zF | exact T.za | exact T.zC)
   | refine ZJ ?_ ?_
   | refine Sr T.yO ?_
   | refine Jbp ?_ ?_ ?_
   | refine Sz (by assumption) (by assumption) _ (pv _) ?_
   | refine Zw ?_ ?_
   | refine ZA (by assumption) (hr.mono (by first | decide | omega)) ?_
   | refine ZI ?_ ?_
   | refine Jbr ?_ ?_
   | exact Kj
   | refine ZG ?_
   | refine Wy T.yE ?_
   | refine Jbq ?_ ?_
   | exact Ss (by assumption) (by assumption) _ (pv _)
   | refine Nu rfl T.yK T.yN ?_
   | refine Wt (by assumption) (hr.mono (by first | decide | omega)) ?_ (fun ho=>Yg (by assumption) (hr.mono (by first | decide | omega)) Yl ho)
   | refine Wr _ ?_
   | refine Zr T.yA ?_
   | refine Jbt hu ?_ ?_
   | refine Wu T.yB ?_
   | refine ZK VL PySem.F.slot_str_join PySem.F.type_str_join VG ?_ ?_
   | refine Ws ?_ ?_
   | refine Zu ?_ ?_
   | refine Ud ?_ ?_
   | refine Nr (by assumption) (hr.mono (by first | decide | omega)) lk.lk ?_ ?_
   | exact Su T.zD T.zJ 0 (pv 0) (fun _ _=>rfl)
   | refine Wv rfl T.yC ?_
   | exact Jbu T.yX
   | refine ZM T.yG ?_
   | refine ZF T.xt T.zG T.zh ?_
   | refine Zv ?_
   | exact Sw 6 7 (by decide +kernel) (pv 6) (pv 7)
   | refine ZL T.yF ?_
   | refine Nt rfl T.yT T.zv ?_
   | refine Ub ?_ ?_
   | refine PC (Y3 hr) ?_ ?_
   | refine Ua ?_)
  | (show FA _ _ _ _;first
   | exact ZO
   | refine Wz ?_ ?_)
  | (show GSs _ _ _ _;first
   | refine GF ?_
   | refine Mr ?_ ?_
   | exact Ph)
  | (show GS _ _ _ _;first
   | refine Y5 ?_ ?_ ?_
   | refine E9 false _ ["_law_k","_law_letters","_law_mixed"] [none,some 2,some 3] rfl nd (Or.inl rfl) ?_ (fun _ _ _ _ _=>?_) (fun _ _ _ _ _=>?_) (fun _ _ _ _ _=>?_)
   | refine E9 false _ ["each","kinds_by_name","kinds"] [none,some 13,some 6] rfl nd (Or.inl rfl) ?_ (fun _ _ _ _ _=>?_) (fun _ _ _ _ _=>?_) (fun _ _ _ _ _=>?_)
   | refine E9 false _ ["kind","makers"] [none,none] rfl nd (Or.inl rfl) ?_ (fun _ _ _ _ _=>?_) (fun _ _ _ _ _=>?_) (fun _ _ _ _ _=>?_)
   | refine Kb _ nd (by first | exact Or.inl rfl | exact Or.inr rfl) ?_
   | refine Pj ?_
   | refine V8 ?_
   | refine Y6 lk.own rfl ?_ ?_ ?_
   | refine Y7 (by assumption) (by assumption) _ ?_ (fun hv=>X5 (pv 0) hv rfl)
   | refine Y8 ?_ ?_
   | refine R4 (by assumption) (by assumption) _ _ ?_ (fun hv=>K6 hu (Fq (pv _) rfl) (pv _) hv rfl)
   | refine RX hu ?_ ?_ ?_ (fun he ho hi hs=>Tw he (Yb ho hi hs))
   | refine RY (T.xt.t1 (by decide +kernel)) lk rfl ?_
   | refine RV _ lk.own ?_ ?_
   | exact RW T.zD T.zR 0 (pv 0)
   | exact R3 hu T.zQ T.zW 0 4 (pv 0) (pv 4)
   | refine R5 hu T.zQ T.zW 0 4 9 (pv 0) (pv 4) (pv 9) ?_
   | exact RZ)
  | (show FAn _ _ _ _;first
   | refine Ed ?_ ?_
   | exact Lz)
  | (show GT _ _ _;first
   | refine IV _ (by first | exact nd | exact(show List.Nodup (["maker","parts"]:List Str) by decide +kernel) | exact(show List.Nodup (["kind","makers"]:List Str) by decide +kernel) | exact(show List.Nodup (["kind","name","stock"]:List Str) by decide +kernel) | exact(show List.Nodup (["each","kinds_by_name","kinds"]:List Str) by decide +kernel) | exact(show List.Nodup (["_law_k","_law_letters","_law_mixed"]:List Str) by decide +kernel)) (by first | exact Or.inl rfl | exact Or.inr rfl)
   | refine Y4 rfl ?_)
  | (show GTs _ _ _;first
   | refine RT ?_ ?_ (fun h1 h2=>Rb h1 h2)
   | exact V7)
  | (show FT _ _ _ _;first
   | refine Jbm ?_ ?_
   | refine Zi ?_
   | refine Si ?_ (fun _=>rfl)
   | refine Sk hu ?_ ?_
   | refine Jbh ?_ ?_
   | refine Jbk hu ?_ ?_
   | refine Jbl ?_ ?_
   | refine Sm of_le of_le ?_ ?_ ?_ (fun ha hb hc=>Q0 Rg Rg ha hb hc)
   | refine Jbi ?_ ?_
   | exact Sj T.zD T.zK 0 (pv 0) (he:=fun _=>rfl)
   | refine Jbj ?_ ?_
   | refine Wk (JbX hr) ?_ ?_
   | refine Zj (JbX hr) ?_ ?_
   | refine T6 ?_ ?_
   | refine FW.ft ?_)
  | (show FI _ _ _ _ _;first
   | refine Zo ?_
   | refine Py T.yP ?_
   | refine Zn T.yN ?_ ?_
   | refine Sq ?_
   | refine Wq T.zv ?_)
  | (show FIf _ _ _;first
   | exact Wo
   | refine Wn ?_)
  | (show FP _ _ _ _;first
   | refine Wl ?_
   | exact Wm)
  | (show FW _ _ _ _;first
   | refine Jbg ?_ ?_
   | refine Zg ?_
   | refine Zh ?_ ?_
   | refine Wj ?_)))
set_option hygiene false in
local macro_rules | `(tactic| exists $N)=>`(tactic| (
 have nd:List.Nodup (($N):List Str):=by decide +kernel
 first
  | refine Tb X G d (fun kV dc pm an aV ct us hl=>?_) fun f fd Fu _=>?_
  | refine JbF (by first | exact T.zD | exact T.zc | exact T.zQ | exact T.zd) d (fun kV dc pm an aV ct us hl=>?_) fun f fd Fu=>?_
  | refine JbG X G (by assumption) d (fun kV dc pm an aV ct us hl=>?_) fun f fd Fu=>?_
 ·first
   | (obtain⟨a,rfl⟩:=us1 hl;rfl)
   | (obtain⟨a,b,rfl⟩:=us2 hl;rfl)
   | (obtain⟨a,b,c,rfl⟩:=us3 hl;rfl)
   | (obtain⟨a,b,c,d,rfl⟩:=us4 hl;rfl)
   | (obtain⟨a,b,c,d,e,rfl⟩:=us5 hl;rfl)
   | (obtain⟨a,b,c,d,e,f,rfl⟩:=us6 hl;rfl)
 ·refine Kg (N:=$N) Fu ⟨rfl,rfl,rfl,nd,rfl,by decide +kernel,by decide +kernel⟩ _ _ rfl rfl ?_;trivial))
include X G T
theorem OB(d:DF K "_law_names" (top 55)):aF P w K mg base "_law_names" 1 ["_law_cell","_law_count"] 2 Ef:=by exists ["_law_cell","_law_count","_law_letters","_law_mixed","_law_wide","_law_at","_law_base","_law_step","_law_got","_law_k","_law_turned_on"]
variable(fL:aF P w K mg base "_law_names" 1 ["_law_cell","_law_count"] 2 Ef)
theorem M8(d:DF K "is_name" (top 31)):aF P w K mg base "is_name" 1 ["text"] 1 A2:=by exists ["text"]
variable(bg:aF P w K mg base "is_name" 1 ["text"] 1 A2)
include bg in
theorem Ht(d:DF K "check_kinds" (top 48)):aF P w K mg base "check_kinds" 2 ["kinds"] 1 BS:=by exists ["kinds","above","kind","makers"]
variable(cq:aF P w K mg base "check_kinds" 2 ["kinds"] 1 BS)
include bg in
theorem Hs(d:DF K "check_maker" (top 50)):aF P w K mg base "check_maker" 2 ["maker","parts","makers_ahead","all_kinds"] 4 Bb:=by exists ["maker","parts","makers_ahead","all_kinds","part"]
variable(cu:aF P w K mg base "check_maker" 2 ["maker","parts","makers_ahead","all_kinds"] 4 Bb)
theorem Gn(d:DF K "check_ground" (top 51)):aF P w K mg base "check_ground" 1 ["maker","parts","kinds_above"] 3 A9:=by exists ["maker","parts","kinds_above","part"]
variable(bX:aF P w K mg base "check_ground" 1 ["maker","parts","kinds_above"] 3 A9)
include cu bX in
theorem Gm(d:DF K "check_makers" (top 49)):aF P w K mg base "check_makers" 3 ["kinds"] 1 BD:=by exists ["kinds","all_kinds","kinds_above","makers_ahead","kind","makers","first","maker","parts"]
variable(bY:aF P w K mg base "check_makers" 3 ["kinds"] 1 BD)
include cN cq bY in
theorem II(d:DM K af "__init__" "Stock.__init__" (inClass (top 47) 0)):aK P w K mg base "Stock" af 4 ["self","kinds"] 2 (Cj af):=by exists ["self","kinds","kind","makers","maker","parts"]
variable(cS:aK P w K mg base "Stock" af 4 ["self","kinds"] 2 (Cj af))
theorem Gp(d:DM K af "makers" "Stock.makers" (inClass (top 47) 2)):aM P w K mg base af "makers" 1 ["self","kind"] 2 (AD af):=by exists ["self","kind"]
variable(aJ:aM P w K mg base af "makers" 1 ["self","kind"] 2 (AD af))
theorem Hv(d:DM K af "kinds" "Stock.kinds" (inClass (top 47) 1)):aM P w K mg base af "kinds" 1 ["self"] 1 (AU af):=by exists ["self"]
variable(bp:aM P w K mg base af "kinds" 1 ["self"] 1 (AU af))
include aJ bp in
theorem K7(d:DF K "is_maker" (top 40)):aF P w K mg base "is_maker" 2 ["stock","name"] 2 (Dk af):=by exists ["stock","name"]
variable(dX:aF P w K mg base "is_maker" 2 ["stock","name"] 2 (Dk af))
include bg aJ bp dX in
theorem IH(d:DF K "check_head" (top 39)):aF P w K mg base "check_head" 3 ["stock","heads","function"] 3 (Ci af):=by exists ["stock","heads","function","name","kinds","kind","others","rows","each"]
variable(cT:aF P w K mg base "check_head" 3 ["stock","heads","function"] 3 (Ci af))
theorem Hu(d:DM K af "parts" "Stock.parts" (inClass (top 47) 3)):aM P w K mg base af "parts" 1 ["self","maker"] 2 (Bk af):=by exists ["self","maker"]
variable(bq:aM P w K mg base af "parts" 1 ["self","maker"] 2 (Bk af))
include bg in
theorem Hr(d:DF K "check_names" (top 42)):aF P w K mg base "check_names" 2 ["names"] 1 CA:=by exists ["names","ahead","name"]
variable(cz:aF P w K mg base "check_names" 2 ["names"] 1 CA)
theorem IJ(d:DM K af "home" "Stock.home" (inClass (top 47) 4)):aM P w K mg base af "home" 1 ["self","maker"] 2 (C5 af):=by exists ["self","maker"]
variable(cQ:aM P w K mg base af "home" 1 ["self","maker"] 2 (C5 af))
include bq cQ in
theorem FD(d:DF K "kinds_of_head" (top 38)):aF P w K mg base "kinds_of_head" 2 ["scope","form","head"] 3 (Bt ai af):=by exists ["scope","form","head"]
variable(aD:aF P w K mg base "kinds_of_head" 2 ["scope","form","head"] 3 (Bt ai af))
theorem Gk(d:DF K "kind_of_name" (top 37)):aF P w K mg base "kind_of_name" 1 ["scope","name"] 2 (B8 ai):=by exists ["scope","name"]
variable(aL:aF P w K mg base "kind_of_name" 1 ["scope","name"] 2 (B8 ai))
include aD aL in
theorem DP{f:Addr}{fd:FuncData}(Fu:Fun K "kind_within" "kind_within" (top 36) f fd)(gO:∀k sp,EY P w K mg base (CX1 P w) k f fd ["scope","expression"] sp->FnAt P w K mg base (CX1 P w) "kind_within" k ["scope","expression"] sp):∀n,EY P w K mg base (CX1 P w) (3+n) f fd ["scope","expression"] (spX K 2 (AS ai af n))
 |0=>⟨λvs H Q E h=>by rw[h.1];rfl,λA outer s H args us vs Q E hr he hb hv h=>by obtain⟨_,F,dm,ok,h⟩:=h;exact h.elim⟩
 |n+1=>by
  have kR:=gO _ _ (DP Fu gO n);have nd:List.Nodup (["scope","expression","form","head","arguments","wanted","kind","argument","kind_wanted"]:List Str):=by decide +kernel
  have hb:=Kg (P:=P) (w:=w) (mg:=mg) (base:=base) (k:=3+n) (g:=CB ai af (AS ai af n)) (N:=["scope","expression","form","head","arguments","wanted","kind","argument","kind_wanted"]) (ps:=["scope","expression"]) Fu ⟨rfl,rfl,rfl,nd,rfl,by decide +kernel,by decide +kernel⟩ 2 7 rfl rfl (by trivial);exact hb
include aD aL in
theorem Hq(d:DF K "kind_within" (top 36)):aF P w K mg base "kind_within" 11 ["scope","expression"] 2 (AS ai af 8):=Tb X G d (λ_ _ _ _ _ _ us hl=>by obtain⟨a,b,rfl⟩:=us2 hl;rfl) λf fd F gO=>DP X G T aD aL F gO 8
variable(cA:aF P w K mg base "kind_within" 11 ["scope","expression"] 2 (AS ai af 8))
include cM in
theorem IK(d:DM K ai "__init__" "Scope.__init__" (inClass (top 35) 0)):aK P w K mg base "Scope" ai 1 ["self","stock","heads","kinds_by_name","own","lessers"] 6 (BK ai):=by exists ["self","stock","heads","kinds_by_name","own","lessers"]
variable(cO:aK P w K mg base "Scope" ai 1 ["self","stock","heads","kinds_by_name","own","lessers"] 6 (BK ai))
include bq cz cA cO in
theorem JY(d:DF K "check_row" (top 41)):aF P w K mg base "check_row" 12 ["stock","heads","function","maker","row"] 5 (B3 ai af):=by exists ["stock","heads","function","maker","row","name","kinds","kind","others","rows","names","body","parts","kinds_by_name","lessers"]
variable(dC:aF P w K mg base "check_row" 12 ["stock","heads","function","maker","row"] 5 (B3 ai af))
include bE aJ cT dC in
theorem Gq(d:DM K ag "__init__" "Program.__init__" (inClass (top 34) 0)):aK P w K mg base "Program" ag 13 ["self","stock","functions"] 3 (BE ag ai af):=by exists ["self","stock","functions","function","name","kinds","kind","others","rows","maker","row"]
variable(bW:aK P w K mg base "Program" ag 13 ["self","stock","functions"] 3 (BE ag ai af))
theorem Rk(d:DF K "_law_rows" (top 60)):aF P w K mg base "_law_rows" 1 ["_law_names_here","_law_word","_law_others","_law_step"] 4 Es:=by exists ["_law_names_here","_law_word","_law_others","_law_step","_law_n","_law_m","_law_calls","_law_one","_law_first","_law_twice"]
variable(gG:aF P w K mg base "_law_rows" 1 ["_law_names_here","_law_word","_law_others","_law_step"] 4 Es)
include cS bW gG in
theorem K9(d:DF K "_law_program" (top 63)):aF P w K mg base "_law_program" 15 ["_law_names_here"] 1 (Dl ag ai af):=by exists ["_law_names_here","_law_kind","_law_stock","_law_functions","_law_k","_law_others","_law_kinds"]
variable(dU:aF P w K mg base "_law_program" 15 ["_law_names_here"] 1 (Dl ag ai af))
theorem OC(d:DF K "_law_chain" (top 58)):aF P w K mg base "_law_chain" 1 ["_law_names_here","_law_count","_law_under"] 3 B9:=by exists ["_law_names_here","_law_count","_law_under","_law_thing","_law_k"]
variable(bz:aF P w K mg base "_law_chain" 1 ["_law_names_here","_law_count","_law_under"] 3 B9)
theorem J1(d:DF K "_law_due_runs" (top 61)):aF P w K mg base "_law_due_runs" 1 ["_law_way","_law_names_here","_law_count","_law_base"] 4 Bm:=by exists ["_law_way","_law_names_here","_law_count","_law_base","_law_thing","_law_k"]
variable(dy:aF P w K mg base "_law_due_runs" 1 ["_law_way","_law_names_here","_law_count","_law_base"] 4 Bm)
theorem Lb(d:DF K "_law_cell_at" (top 53)):aF P w K mg base "_law_cell_at" 1 ["_law_script","_law_k"] 2 AA:=by exists ["_law_script","_law_k"]
variable(dR:aF P w K mg base "_law_cell_at" 1 ["_law_script","_law_k"] 2 AA)
include bz in
theorem JX{f:Addr}{fd:FuncData}(Fu:Fun K "_law_tree" "_law_tree" (top 59) f fd)(gO:∀k sp,EY P w K mg base (CX1 P w) k f fd ["_law_names_here","_law_count"] sp->FnAt P w K mg base (CX1 P w) "_law_tree" k ["_law_names_here","_law_count"] sp):∀n,EY P w K mg base (CX1 P w) (2+n) f fd ["_law_names_here","_law_count"] (spX K 2 (BI n))
 |0=>⟨λvs H Q E h=>by rw[h.1];rfl,λA outer s H args us vs Q E hr he hb hv h=>by obtain⟨_,F,dm,ok,h⟩:=h;exact h.elim⟩
 |n+1=>by
  have kR:=gO _ _ (JX Fu gO n);have nd:List.Nodup (["_law_names_here","_law_count","_law_left"]:List Str):=by decide +kernel
  have hb:=Kg (P:=P) (w:=w) (mg:=mg) (base:=base) (k:=2+n) (g:=LI (BI n)) (N:=["_law_names_here","_law_count","_law_left"]) (ps:=["_law_names_here","_law_count"]) Fu ⟨rfl,rfl,rfl,nd,rfl,by decide +kernel,by decide +kernel⟩ 2 1 rfl rfl (by trivial);exact hb
include bz in
theorem Rj(d:DF K "_law_tree" (top 59)):aF P w K mg base "_law_tree" 12 ["_law_names_here","_law_count"] 2 (BI 10):=Tb X G d (λ_ _ _ _ _ _ us hl=>by obtain⟨a,b,rfl⟩:=us2 hl;rfl) λf fd F gO=>JX X G T bz F gO 10
variable(gH:aF P w K mg base "_law_tree" 12 ["_law_names_here","_law_count"] 2 (BI 10))
theorem DI(d:DM K ao "await_arguments" "Run.await_arguments" (inClass (top 26) 2)):aM P w K mg base ao "await_arguments" 1 ["self","part","names","deep"] 4 (A3 ao):=by exists ["self","part","names","deep","argument"]
variable(aX:aM P w K mg base ao "await_arguments" 1 ["self","part","names","deep"] 4 (A3 ao))
theorem Hw(d:DM K ag "row" "Program.row" (inClass (top 34) 3)):aM P w K mg base ag "row" 1 ["self","function","maker"] 3 (Bl ag):=by exists ["self","function","maker"]
variable(cm:aM P w K mg base ag "row" 1 ["self","function","maker"] 3 (Bl ag))
theorem Gj(d:DF K "layer_counts" (top 19)):aF P w K mg base "layer_counts" 1 ["thing"] 1 B7:=by exists ["thing","counts","layer","below","maker","parts"]
variable(bZ:aF P w K mg base "layer_counts" 1 ["thing"] 1 B7)
include bZ in
theorem M7(d:DF K "weighed" (top 25)):aF P w K mg base "weighed" 2 ["thing"] 1 BR:=by exists ["thing","counts"]
variable(cK:aF P w K mg base "weighed" 2 ["thing"] 1 BR)
include cm cK in
theorem E5(d:DM K ao "await_body" "Run.await_body" (inClass (top 26) 3)):aM P w K mg base ao "await_body" 3 ["self","function","arguments","deep"] 4 (AX ag ao):=by exists ["self","function","arguments","deep","maker","parts","names","body","values"]
variable(bG:aM P w K mg base ao "await_body" 3 ["self","function","arguments","deep"] 4 (AX ag ao))
theorem Vp(d:DF K "made" (top 27)):aF P w K mg base "made" 1 ["maker","parts"] 2 Kl:=by exists ["maker","parts","whole","deep"]
variable(iF:aF P w K mg base "made" 1 ["maker","parts"] 2 Kl)
theorem J0(d:DM K ao "taken" "Run.taken" (inClass (top 26) 4)):aM P w K mg base ao "taken" 1 ["self","count"] 2 (B4 ao):=by exists ["self","count","newest_first","each"]
variable(dA:aM P w K mg base ao "taken" 1 ["self","count"] 2 (B4 ao))
include aX bG iF dA in
theorem JZ(d:DM K ao "worth" "Run.worth" (inClass (top 26) 1)):aM P w K mg base ao "worth" 4 ["self","names","expression"] 3 (Bu ag ao):=by exists ["self","names","expression","part","names_here","deep","ready"]
variable(dB:aM P w K mg base ao "worth" 4 ["self","names","expression"] 3 (Bu ag ao))
include fK in
theorem K8(d:DM K ao "__init__" "Run.__init__" (inClass (top 26) 0)):aK P w K mg base "Run" ao 1 ["self","program","most"] 3 (CM ao):=by exists ["self","program","most"]
variable(dW:aK P w K mg base "Run" ao 1 ["self","program","most"] 3 (CM ao))
include cK dB dW in
theorem Yy(d:DF K "run" (top 24)):aF P w K mg base "run" 5 ["program","setting","expression","most"] 4 (f_run ag ao):=by exists ["program","setting","expression","most","names","name","thing"]
variable(hX:aF P w K mg base "run" 5 ["program","setting","expression","most"] 4 (f_run ag ao))
theorem La(d:DF K "_law_classes" (top 56)):aF P w K mg base "_law_classes" 1 ["_law_kept"] 1 CN:=by exists ["_law_kept","_law_got"]
variable(dS:aF P w K mg base "_law_classes" 1 ["_law_kept"] 1 CN)
include dS in
theorem Oz(d:DF K "_law_which" (top 57)):aF P w K mg base "_law_which" 2 ["_law_kept"] 1 Ee:=by exists ["_law_kept"]
variable(dz:aF P w K mg base "_law_which" 2 ["_law_kept"] 1 Ee)
include hX dz in
theorem OA(d:DF K "_law_right" (top 62)):aF P w K mg base "_law_right" 6 ["_law_program_here","_law_setting","_law_expression","_law_most","_law_due"] 5 (f_Lright ag ao) :=
 Tb X G d (λ_ _ _ _ _ _ us hl=>by obtain⟨a,b,c,d,e,rfl⟩:=us5 hl;rfl) λf fd Fu _=>by
  have nd:List.Nodup (["_law_program_here","_law_setting","_law_expression","_law_most","_law_due","_law_kept","_law_told","e"]:List Str):=by decide +kernel
  refine Kg (N:=["_law_program_here","_law_setting","_law_expression","_law_most","_law_due","_law_kept","_law_told","e"]) Fu ⟨rfl,rfl,rfl,nd,rfl,by decide +kernel,by decide +kernel⟩ 5 3 rfl rfl λaV A outer s H E _ _ hr lk=>?_
  have hu:=Y2 hr;exact(GG (GS.zero (Kb 5 nd (Or.inl rfl) Kj))
   (GG (GS.zero (Kb 6 nd (Or.inl rfl) Kj))
   (GG (R6 T.xt (by decide +kernel) 7 lk nd (λ_ _ lk=>(GF (Kb 6 nd (Or.inl rfl) (Ja (PB hX (hr.mono (by first|decide|omega)) lk.lk (Ed (Ja (Pz 0)) (Ed (Ja (Pz 1)) (Ed (Ja (Pz 2)) (Ed (Ja (Pz 3)) Lz))))))))) (λ_=>(GF (Kb 5 nd (Or.inl rfl) (Ja (Pz 7))))))
   (GSs.zero (Mr (Y5 (T6 (Pz 4) Kj) (GF (Pj (ZI (Ja (PB dz (hr.mono (by first|decide|omega)) lk.lk (Ed (Ja (Pz 5)) Lz))) Uc))) Ph)
   (GF (Pj (Ud (Ub (Pz 5) Kj) (Ua (PC (Y3 hr) (Pz 6) (Pz 4)))))))))))
variable(fM:aF P w K mg base "_law_right" 6 ["_law_program_here","_law_setting","_law_expression","_law_most","_law_due"] 5 (f_Lright ag ao))
include fL dU bz dy dR gH fM in
theorem Yz{f:Addr}{fd:FuncData}(Fu:Fun K "law" "law" (top 64) f fd):EY P w K mg base (CX1 P w) 16 f fd ["_law_script"] (spX K 1 (f_law ag ao ai af)):=by
 have nd:List.Nodup (["_law_script","_law_names_here","_law_program_here","_law_way","_law_count","_law_base","_law_x","_law_y","_law_expression","_law_spent","_law_lets","_law_due","_law_setting"]:List Str):=by decide +kernel
 refine Kg (N:=["_law_script","_law_names_here","_law_program_here","_law_way","_law_count","_law_base","_law_x","_law_y","_law_expression","_law_spent","_law_lets","_law_due","_law_setting"]) Fu ⟨rfl,rfl,rfl,nd,rfl,by decide +kernel,by decide +kernel⟩ _ _ rfl rfl ?_;trivial
end
def QM(K:Fg):Sp:=λvs H Q _=>∃(a:Addr)(ns:List Int),vs=[.ref a]/\SqL K H a (ns.map V.int)/\ns.length<=63/\Cs ns<=2^20/\∀H',Q (.o true) H'
theorem LZ{F:Wd}{H:Hp}:∀(ns:List Int),Ah K F H (ns.map T.int) (ns.map V.int)
 | []=>by simp[Ah]
 |n::ns=>by simp only[sG,Ah];exact⟨_,_,rfl,by simp[AE],LZ ns⟩
theorem YM(good:∀ns:List Int,ns.length<=63->Cs ns<=2^20->∃fs,Fn [some (.val (.zU (ns.map T.int)))]=.ok (.t (.o true)) fs):∀vs H Q E,QM K vs H Q E->spX K 1 Fn vs H Q E:=by
 intro vs H Q E ⟨a,ns,e,hs,hl,hb,k⟩;subst e;obtain⟨fs,eg⟩:=good ns hl hb;have key:∀F:Wd,StL K F H a (ns.map V.int)->(∀b,F b->H b≠none)->(∀b,¬F.p b)->spX K 1 Fn [.ref a] H Q E:=λF st fd np=>by
  refine⟨rfl,F,[some (.val (.zU (ns.map T.int)))],⟨[],?_,sY,(λ_ m=>nomatch m),fd,?_,λb p=>(np b p).elim,λb _ p=>np b p,(λ_ m=>nomatch m)⟩,?_⟩
  .show Aw K F H [some (.val (.zU (ns.map T.int)))] [some (.ref a)] [];simp only[Aw];exact⟨_,_,rfl,by simp only[AE];exact⟨a,_,rfl,st,LZ ns⟩,by first|exact⟨rfl,rfl⟩|trivial⟩
  .intro i o e;cases i with|zero=>cases e|succ i=>simp at e
  .rw[eg];intro F' H' u ar _ q;obtain⟨L,L',_,⟨_,qu⟩,_⟩:=q;have:u=.o true:=qu;subst this;exact k H'
 rcases hs with hs|hs
 .exact key ⟨λb=>b=a,λ_=>False⟩ (.inl ⟨rfl,hs⟩) (λb e=>by have e':b=a:=e;subst e';rcases hs with z|⟨o,z⟩<;>(rw[z];exact λq=>nomatch q)) λ_ p=>p
 .exact key ⟨λ_=>False,λ_=>False⟩ (.inr hs) (λb e=>e.elim) λ_ p=>p
theorem all_mk{l:OpenLaw}{fa:Addr}(X:K.In h)(G:h.Ns mainGlobals mg)(qo:mg "law"=some (.ref fa))(fK:CC K "Run" ao)(bE:CC K "Program" ag)(cM:CC K "Scope" ai)(cN:CC K "Stock" af)(T:Tx K mg ao ag ai af)
  (d0:DF K "_law_names" (top 55))
  (d1:DF K "is_name" (top 31))
  (d2:DF K "check_kinds" (top 48))
  (d3:DF K "check_maker" (top 50))
  (d4:DF K "check_ground" (top 51))
  (d5:DF K "check_makers" (top 49))
  (d6:DM K af "__init__" "Stock.__init__" (inClass (top 47) 0))
  (d7:DM K af "makers" "Stock.makers" (inClass (top 47) 2))
  (d8:DM K af "kinds" "Stock.kinds" (inClass (top 47) 1))
  (d9:DF K "is_maker" (top 40))
  (o7:DF K "check_head" (top 39))
  (o8:DM K af "parts" "Stock.parts" (inClass (top 47) 3))
  (pe:DF K "check_names" (top 42))
  (pj:DM K af "home" "Stock.home" (inClass (top 47) 4))
  (pq:DF K "kinds_of_head" (top 38))
  (pw:DF K "kind_of_name" (top 37))
  (px:DF K "kind_within" (top 36))
  (pz:DM K ai "__init__" "Scope.__init__" (inClass (top 35) 0))
  (bL:DF K "check_row" (top 41))
  (pB:DM K ag "__init__" "Program.__init__" (inClass (top 34) 0))
  (pC:DF K "_law_rows" (top 60))
  (pE:DF K "_law_program" (top 63))
  (pF:DF K "_law_chain" (top 58))
  (pG:DF K "_law_due_runs" (top 61))
  (pH:DF K "_law_cell_at" (top 53))
  (pI:DF K "_law_tree" (top 59))
  (pJ:DM K ao "await_arguments" "Run.await_arguments" (inClass (top 26) 2))
  (pK:DM K ag "row" "Program.row" (inClass (top 34) 3))
  (pL:DF K "layer_counts" (top 19))
  (pM:DF K "weighed" (top 25))
  (pN:DM K ao "await_body" "Run.await_body" (inClass (top 26) 3))
  (pP:DF K "made" (top 27))
  (pQ:DM K ao "taken" "Run.taken" (inClass (top 26) 4))
  (pR:DM K ao "worth" "Run.worth" (inClass (top 26) 1))
  (pS:DM K ao "__init__" "Run.__init__" (inClass (top 26) 0))
  (pT:DF K "run" (top 24))
  (pU:DF K "_law_classes" (top 56))
  (pV:DF K "_law_which" (top 57))
  (pW:DF K "_law_right" (top 62))
  (pX:DF K "law" (top 64)) :
  ∃fd:FuncData,(∀(s:Shared)(v:Value),BindsTo s fd ⟨[v],[]⟩ [("_law_script",v)])/\∀base:Heap,K.In base->base.Ns mainGlobals mg->EY l.prog w K mg base (CX1 l.prog w) 16 fa fd ["_law_script"] (QM K):=by
 obtain⟨f,fd,a,F⟩:=pX;cases qo.symm.trans (mg_of X G a);refine⟨fd,by obtain⟨_,_,_,_,_,_,_,_,_,rfl,_⟩:=F.ex;exact λs v=>.of_eq rfl,λbase _ _=>?_⟩;have G0:=OB (P:=l.prog) (w:=w) (base:=base) X G T  d0;have G1:=M8 (P:=l.prog) (w:=w) (base:=base) X G T  d1;have G2:=Ht (P:=l.prog) (w:=w) (base:=base) X G T G1 d2;have G3:=Hs (P:=l.prog) (w:=w) (base:=base) X G T G1 d3;have G4:=Gn (P:=l.prog) (w:=w) (base:=base) X G T  d4;have G5:=Gm (P:=l.prog) (w:=w) (base:=base) X G T G3 G4 d5;have G6:=II (P:=l.prog) (w:=w) (base:=base) X G T cN G2 G5 d6;have G7:=Gp (P:=l.prog) (w:=w) (base:=base) X G T  d7;have G8:=Hv (P:=l.prog) (w:=w) (base:=base) X G T  d8;have G9:=K7 (P:=l.prog) (w:=w) (base:=base) X G T G7 G8 d9;have nZ:=IH (P:=l.prog) (w:=w) (base:=base) X G T G1 G7 G8 G9 o7;have mG:=Hu (P:=l.prog) (w:=w) (base:=base) X G T  o8;have n9:=Hr (P:=l.prog) (w:=w) (base:=base) X G T G1 pe;have og:=IJ (P:=l.prog) (w:=w) (base:=base) X G T  pj;have oh:=FD (P:=l.prog) (w:=w) (base:=base) X G T mG og pq;have oi:=Gk (P:=l.prog) (w:=w) (base:=base) X G T  pw;have oj:=Hq (P:=l.prog) (w:=w) (base:=base) X G T oh oi px;have om:=IK (P:=l.prog) (w:=w) (base:=base) X G T cM pz;have oo:=JY (P:=l.prog) (w:=w) (base:=base) X G T mG n9 oj om bL;have oq:=Gq (P:=l.prog) (w:=w) (base:=base) X G T bE G7 nZ oo pB;have ot:=Rk (P:=l.prog) (w:=w) (base:=base) X G T  pC;have ou:=K9 (P:=l.prog) (w:=w) (base:=base) X G T G6 oq ot pE;have mH:=OC (P:=l.prog) (w:=w) (base:=base) X G T  pF;have ow:=J1 (P:=l.prog) (w:=w) (base:=base) X G T  pG;have oy:=Lb (P:=l.prog) (w:=w) (base:=base) X G T  pH;have oz:=Rj (P:=l.prog) (w:=w) (base:=base) X G T mH pI;have oB:=DI (P:=l.prog) (w:=w) (base:=base) X G T  pJ;have oC:=Hw (P:=l.prog) (w:=w) (base:=base) X G T  pK;have oE:=Gj (P:=l.prog) (w:=w) (base:=base) X G T  pL;have mI:=M7 (P:=l.prog) (w:=w) (base:=base) X G T oE pM;have oF:=E5 (P:=l.prog) (w:=w) (base:=base) X G T oC mI pN;have oG:=Vp (P:=l.prog) (w:=w) (base:=base) X G T  pP;have oH:=J0 (P:=l.prog) (w:=w) (base:=base) X G T  pQ;have oI:=JZ (P:=l.prog) (w:=w) (base:=base) X G T oB oF oG oH pR;have oJ:=K8 (P:=l.prog) (w:=w) (base:=base) X G T fK pS;have oK:=Yy (P:=l.prog) (w:=w) (base:=base) X G T mI oI oJ pT;have oM:=La (P:=l.prog) (w:=w) (base:=base) X G T  pU;have oN:=Oz (P:=l.prog) (w:=w) (base:=base) X G T oM pV;have oO:=OA (P:=l.prog) (w:=w) (base:=base) X G T oK oN pW;exact(Yz (P:=l.prog) (w:=w) (base:=base) X G T G0 ou mH ow oy oz oO F).imp (YM (good ag ao ai af))
theorem exG{α:Type}{x:Str}{v:α->Value}{t:α}(X:K.In h)(G:h.Ns mainGlobals mg)(e:nsIn K mainGlobals x=some (some (v t))):∃t,mg x=some (v t):=⟨t,mg_of X G e⟩
theorem naG(e:findIn K (.ref C) f=some none):A4 K C f:=e
theorem walk{l:OpenLaw}{q:Program}{loose:List Str}{XP:(Str->Option Value)->Heap->Prop}{d:DefRec}{K:Params->Fg}{as:List Addr}{N tk:Nat}(hn:l.most=some 63)(jK:d.params.defaults=[])(hK:∀P:Params,as=(K P).map (·.1))
  (F:∀(w:World)(mg:Str->Option Value)(fa:Addr)(h:Heap),(K w.params).In h->h.Ns mainGlobals mg->mg d.name=some (.ref fa) ->
   ∃fd:FuncData,(∀(s:Shared)(u:Value),BindsTo s fd ⟨[u],[]⟩ [("_law_script",u)])/\∀base:Heap,(K w.params).In base->base.Ns mainGlobals mg->EY l.prog w (K w.params) mg base (CX1 l.prog w) 16 fa fd ["_law_script"] (QM (K w.params))) :
  WalkX q loose XP (PySem.W.X.obsZ as) (PySem.W.X.valZ K N tk) l.row.toRowW d [] (λf vs=>PySem.call f vs) :=
 L2.KZ (n:=63) (k:=16) (x:="_law_script") (CX:=λw=>CX1 l.prog w) (sp:=QM) hn (by decide) jK ⟨rfl,by decide,by decide⟩ hK F (λ_ _ a ns hl hb _ hS=>⟨a,ns,rfl,hS,hl,hb,λ_=>rfl⟩) λ_ _ _ _ _ ⟨_,_,_,_,_,_,_,_,_,_,_,q⟩=>q
end Sy
inductive PySem.W.Fast:Prop|tw13597613946615480846|tw10716772043011696399|tw6750652050330051543|tw9445405273198597508|tw9496304991802022256|tw10736250679699222316|tw16624357156990312433|tw1060542936167797039|tw10457849764137510329|tw1607379938097164148|tw14033068635346948495|tw5849928766178945759|tw8167866114063762537|tw2451115208333873347|tw3765212144469051614|tw7675611021035796724|tw5958185753612723031|tw13379202547262955804|tw12486919594771228539|tw9501336819188570262|tw14145052690946580816|tw6943228910687082967|tw4343976869365235736|tw7582827924890002933|tw7100916567119763296|tw7714438953961379408|tw14162206690424014500|tw2555713959242009606|tw18088677009812588283|tw9367546299506395413|tw2110998701923453195|tw9137851989459734793|tw12478044812012552665|tw8085267257825495169|tw12104732713686056195|tw850966338797903883|tw17610086468659941480|tw10218865981852014742|tw17031547072263317159|tw13652899437884415039|tw15592017195951381347|tw6092320228327881977|tw5839871020923389645|tw5563651895246889205|tw3401189413542192210|tw1885096146150987079|tw14326793836800431481|tw3570314707946605404|tw17883609863281656190|tw6827083795831946789|tw7072320954692787512|tw11758847549880165571|tw11174383263535971278|tw9760943771020940133|tw5575865259431665705|tw4664720768993213404|tw12041127653403559115|tw17228460247570432494|tw8351120056682911974|tw12426929363617043850|tw18155255494196673614|tw7127688326523566902|tw7098166178478564350|tw10987543506886753603|tw18071318227003164729|tw3163011009385782883|tw6615055492628970386|tw7072402673365395335|tw14691900388814530765|tw425403639690691345|tw7278650218448888432|tw319469525403994126|tw16811178200061250321|tw12327218288830253046|tw12223523432040836992|tw6410964065276464878|tw6293998970778589402|tw6288770791686155569|tw7743048362989619229|tw9600669373437559393|tw13312823471182391953|tw11538043489629600719|tw3221691527889471083|tw7318750747756982364|tw9534418690695424954|tw16227286633436684335|tw9277292230184237364|tw9895229022335636422|tw4707944830419543651|tw9334715804295212791|tw6128065891238742061|tw9288979471155465201|tw6624405729654186808|tw5874666598355028905|tw6147057315791704552|tw4645477726657804958|tw17542269672346393287|tw2235486754902224904|tw5271295788657931781|tw11110619902827556874|tw9088642148886468086|tw7539183783611979831|tw17457798489007199016|tw9933199357405074303|tw16906785891943170882|tw15133900537494192261|tw10174766433775193993|tw2543879159946992777|tw6766209400537137945|tw5080084609223277921|tw5473227673030671309|tw13999199271804263138|tw6338981285217695853|tw966753456221805680|tw2903496135933963024|tw211880525145860213|tw11873437044610645168|tw3756554103697458088|tw12253774231952926721|tw2479600611678468967|tw6550674484598038859|tw14804310646692647932|tw11214886946384011724|tw3042239383945903272|tw17658947184034740353|tw5299432105782198335|tw15580549194721571206|tw9993867128242227354|tw14937579420689318138|tw2603634679421278931|tw1405223299075086239|tw2830365837633673138|tw7789153380592678485|tw9798452800991342074|tw16913063069069160378|tw7607357395361243147|tw2387780926088033512|tw12311284419803469605|tw13748958621042461365|tw10494464989174839958|tw2540471285411323192|tw18444257833604344879|tw10628239657942983461|tw148891794644198745|tw10025985194863058842|tw7494553220774981157|tw7492330064277276690|tw5388944908187845986|tw18426051231102857097|tw17966841918848361828|tw2994796428867757724|tw6828087853671113481|tw13647297903407854907|tw14281161868497131477|tw9751836849492785244|tw2599907609082823836|tw9216266074197049189|tw17991289799601611629|tw10167976969440609387|tw11640311327471477682|tw11507300090075333685|tw1485160731672631257|tw2112094366111653473|tw7715188289258001583|tw11176180789911581655|tw16172656779978370579|tw4261073121314141039|tw2124759083545209447|tw12363469269399191830|tw15039891043336012696|tw15756459532471029227|tw3047530777210685968|tw6216060393217928638|tw259413711181959731|tw17176225266090251353|tw7391937687665733578|tw11613611462113205118|tw12304615446097426803|tw16434102357742739699|tw2088726799709773288|tw18183730607553511438|tw10531484383836537603
open PySem PySem.W PyProof.Rows
set_option maxRecDepth 100000 in
set_option maxHeartbeats 0 in
theorem PySem.Challenge.cw_stairsay_k22_too_long_holds : PySem.Challenge.rw_stairsay_k22_too_long.Holds := by
 w_on;o_law;z_head;(case hw=>w_witness2)
 k_fill
 refine Sy.walk (l:=PySem.Challenge.rw_stairsay_k22_too_long) rfl rfl (λP=>rfl) ?F
 case F =>
  intro w mg fa h KX G jU;refine' Sy.all_mk KX G jU ⟨?_,?_,?_⟩ ⟨?_,?_,?_⟩ ⟨?_,?_,?_⟩ ⟨?_,?_,?_⟩ ⟨PySem.W.mg_none_of KX G ?_,PySem.W.mg_none_of KX G ?_,PySem.W.mg_none_of KX G ?_,PySem.W.mg_none_of KX G ?_,PySem.W.mg_none_of KX G ?_,PySem.W.mg_none_of KX G ?_,PySem.W.mg_none_of KX G ?_,PySem.W.mg_none_of KX G ?_,PySem.W.mg_none_of KX G ?_,PySem.W.mg_none_of KX G ?_,PySem.W.mg_none_of KX G ?_,PySem.W.mg_none_of KX G ?_,PySem.W.mg_none_of KX G ?_,PySem.W.mg_none_of KX G ?_,PySem.W.mg_none_of KX G ?_,Sy.exG KX G ?_,Sy.exG KX G ?_,Sy.exG KX G ?_,Sy.exG KX G ?_,Sy.exG KX G ?_,Sy.exG KX G ?_,Sy.exG KX G ?_,Sy.exG KX G ?_,Sy.exG KX G ?_,⟨?_,?_,?_,?_⟩,⟨?_,?_,?_,?_⟩,⟨?_,?_,?_,?_⟩,⟨?_,?_,?_,?_⟩,Sy.naG ?_,Sy.naG ?_,Sy.naG ?_,Sy.naG ?_,Sy.naG ?_,Sy.naG ?_,Sy.naG ?_,Sy.naG ?_,Sy.naG ?_,Sy.naG ?_,Sy.naG ?_,Sy.naG ?_,Sy.naG ?_,Sy.naG ?_,Sy.naG ?_,.of KX G (by kernel_rfl)⟩ ⟨_,_,?_,L2.AO ?_ ?_ ?_⟩ ⟨_,_,?_,L2.AO ?_ ?_ ?_⟩ ⟨_,_,?_,L2.AO ?_ ?_ ?_⟩ ⟨_,_,?_,L2.AO ?_ ?_ ?_⟩ ⟨_,_,?_,L2.AO ?_ ?_ ?_⟩ ⟨_,_,?_,L2.AO ?_ ?_ ?_⟩ ⟨_,_,?_,?_,L2.AO ?_ ?_ ?_⟩ ⟨_,_,?_,?_,L2.AO ?_ ?_ ?_⟩ ⟨_,_,?_,?_,L2.AO ?_ ?_ ?_⟩ ⟨_,_,?_,L2.AO ?_ ?_ ?_⟩ ⟨_,_,?_,L2.AO ?_ ?_ ?_⟩ ⟨_,_,?_,?_,L2.AO ?_ ?_ ?_⟩ ⟨_,_,?_,L2.AO ?_ ?_ ?_⟩ ⟨_,_,?_,?_,L2.AO ?_ ?_ ?_⟩ ⟨_,_,?_,L2.AO ?_ ?_ ?_⟩ ⟨_,_,?_,L2.AO ?_ ?_ ?_⟩ ⟨_,_,?_,L2.AO ?_ ?_ ?_⟩ ⟨_,_,?_,?_,L2.AO ?_ ?_ ?_⟩ ⟨_,_,?_,L2.AO ?_ ?_ ?_⟩ ⟨_,_,?_,?_,L2.AO ?_ ?_ ?_⟩ ⟨_,_,?_,L2.AO ?_ ?_ ?_⟩ ⟨_,_,?_,L2.AO ?_ ?_ ?_⟩ ⟨_,_,?_,L2.AO ?_ ?_ ?_⟩ ⟨_,_,?_,L2.AO ?_ ?_ ?_⟩ ⟨_,_,?_,L2.AO ?_ ?_ ?_⟩ ⟨_,_,?_,L2.AO ?_ ?_ ?_⟩ ⟨_,_,?_,?_,L2.AO ?_ ?_ ?_⟩ ⟨_,_,?_,?_,L2.AO ?_ ?_ ?_⟩ ⟨_,_,?_,L2.AO ?_ ?_ ?_⟩ ⟨_,_,?_,L2.AO ?_ ?_ ?_⟩ ⟨_,_,?_,?_,L2.AO ?_ ?_ ?_⟩ ⟨_,_,?_,L2.AO ?_ ?_ ?_⟩ ⟨_,_,?_,?_,L2.AO ?_ ?_ ?_⟩ ⟨_,_,?_,?_,L2.AO ?_ ?_ ?_⟩ ⟨_,_,?_,?_,L2.AO ?_ ?_ ?_⟩ ⟨_,_,?_,L2.AO ?_ ?_ ?_⟩ ⟨_,_,?_,L2.AO ?_ ?_ ?_⟩ ⟨_,_,?_,L2.AO ?_ ?_ ?_⟩ ⟨_,_,?_,L2.AO ?_ ?_ ?_⟩ ⟨_,_,?_,L2.AO ?_ ?_ ?_⟩
  all_goals try k_is
