import PyProof.Rows.All
import Wide.All
import OpenK.AllK
import Wide.FinOn
import Lean
import PyProof.EqAt
import PyProof.EqKinds
import PyProof.TupleCall
import PyProof.MaxThree
import PyProof.IsRules
import PySem.Challenge.RW_speakmill_k73_folded
set_option Elab.async false
set_option linter.all false
set_option maxRecDepth 100000
set_option maxHeartbeats 8000000
set_option compiler.extract_closed false
noncomputable section
open List (all_eq_true any_cons append_nil contains_iff_mem count_append drop_eq_nil_of_le filterMap_cons filter_append filter_cons_of_neg filter_cons_of_pos filter_nil find?_cons flatten_cons flatten_nil foldl_cons getElem?_append_left getElem?_append_right getElem?_eq_none getElem?_map getElem?_range getElem?_replicate getElem?_reverse getElem?_set_ne getElem?_set_self getElem_mem length_append length_cons length_drop length_filter_le length_map length_nil length_range length_replicate length_reverse length_set length_singleton length_take lookup_cons map_append map_congr_left map_cons map_nil mem_append mem_append_left mem_append_right mem_cons mem_cons_of_mem mem_cons_self mem_filter mem_filterMap mem_map mem_of_getElem? mem_range mem_reverse mem_singleton nil_append nodup_cons not_mem_nil of_mem_zip pairwise_cons range'_concat range_succ replicate_succ reverse_append reverse_cons reverse_reverse size_toArray sum_append sum_cons take_append_drop take_length take_of_length_le take_succ take_succ_eq_append_getElem take_zero)
open Nat (le_of_lt le_refl le_succ le_trans lt_irrefl lt_of_le_of_lt lt_of_lt_of_le lt_succ_self lt_trans min_eq_left min_eq_right ne_of_lt not_lt_zero one_mul sub_self sub_zero succ_pos zero_le)
open PySem.Heap (get?_push_size lt_size size_push)
open Option (map_some ne_none_iff_exists')
open PySem.W (callWith_K codeIn emptyDict envX findIn fnOf instObj kia_one kitOne kla_obj lookIn plainGet)
open PyProof.Rows (callWith_type1)
abbrev bZ:=@PySem.wpAny_bind
abbrev pZ:=@PySem.wpAny_pure
abbrev gZ:=@PySem.Heap.get?_push_of_some
abbrev nZ:=Bool.false_ne_true
abbrev FZ:=PySem.W.Frag
abbrev kZ:=@PySem.W.keepIn
abbrev cZ{α:Type}{a b:α}{l:List α}:=(mem_cons (a:=a) (b:=b) (l:=l)).mp
abbrev sZ{α:Type}{a b:α}:=(mem_singleton (a:=a) (b:=b)).mp
theorem sJ{a b:α}(h:some a=some b):a=b:=by cases h;rfl
namespace _L
open PySem PySem.Spec PyProof.Rows
abbrev Key:=Sum Int Str
noncomputable def FY:Key->Value->Bool
 | .inl k,v=>Value.isInt k v
 | .inr x,v=>Value.isStrOf x v
def fvZ(w:World):Key->Int
 | .inl k=>hashInt k
 | .inr x=>hashStr w x
theorem F6:∀ {k:Key} {v:Value},FY k v=true->(∃i t,k=Sum.inl i/\v=Value.int i t)\/(∃x t,k=Sum.inr x/\v=Value.str x t)
 | .inl i,v,h=>by
  obtain⟨t,e⟩:=Value.isInt_shape (k:=i) (v:=v) h;exact .inl ⟨i,t,rfl,e⟩
 | .inr x,v,h=>by
  obtain⟨t,e⟩:=Value.isStrOf_shape (x:=x) (v:=v) h;exact .inr ⟨x,t,rfl,e⟩
theorem ST(i:Int)(t:Tok):FY (.inl i) (.int i t)=true:=by simp[FY,Value.isInt]
theorem UL(x:Str)(t:Tok):FY (.inr x) (.str x t)=true:=by simp[FY,Value.isStrOf]
theorem cFZ(a b:Int):decide ((Sum.inl a:Key)=Sum.inl b)=(a==b):=by
 by_cases e:a=b
 ·subst e;simp
 ·have h:¬(Sum.inl a:Key)=Sum.inl b:=λq=>e (Sum.inl.inj q);rw[decide_eq_false h];exact(beq_eq_false_iff_ne.mpr e).symm
theorem dsZ(a b:Str):decide ((Sum.inr a:Key)=Sum.inr b)=decide (a=b):=by
 by_cases e:a=b
 ·subst e;simp
 ·have h:¬(Sum.inr a:Key)=Sum.inr b:=λq=>e (Sum.inr.inj q);rw[decide_eq_false h,decide_eq_false e]
theorem cfZ(a:Int)(b:Str):decide ((Sum.inl a:Key)=Sum.inr b)=false:=decide_eq_false (λq=>nomatch q)
theorem cGZ(a:Str)(b:Int):decide ((Sum.inr a:Key)=Sum.inl b)=false:=decide_eq_false (λq=>nomatch q)
def E3(prog:Program)(w:World):PySem.KeyKind prog w Key where
 is:=FY
 hash:=fvZ w
 inj:=λv a b ha hb=>by
  rcases F6 ha with⟨i,t,rfl,rfl⟩|⟨x,t,rfl,rfl⟩
  ·rcases F6 hb with⟨j,u,rfl,e⟩|⟨y,u,rfl,e⟩
   ·injection e with e1 _;rw[e1]
   ·exact nomatch e
  ·rcases F6 hb with⟨j,u,rfl,e⟩|⟨y,u,rfl,e⟩
   ·exact nomatch e
   ·injection e with e1 _;rw[e1]
 byValue:=λk v h=>by
  rcases F6 h with⟨i,t,rfl,rfl⟩|⟨x,t,rfl,rfl⟩<;>rfl
 pyHash:=λhv h=>by
  rcases F6 hv with⟨i,t,rfl,rfl⟩|⟨x,t,rfl,rfl⟩
  ·exact wpAny_pyHash_int h
  ·exact wpAny_pyHash_str h
 eqBool:=λhu hv h=>by
  rcases F6 hu with⟨i,t,rfl,rfl⟩|⟨x,t,rfl,rfl⟩
  ·rcases F6 hv with⟨j,u,rfl,rfl⟩|⟨y,u,rfl,rfl⟩
   ·rw[cFZ]at h;exact wpAny_eqBool_int h
   ·rw[cfZ]at h;exact SeqAt.EqAt.int_str i t y u _ _ _ _ h
  ·rcases F6 hv with⟨j,u,rfl,rfl⟩|⟨y,u,rfl,rfl⟩
   ·rw[cGZ]at h;exact SeqAt.EqAt.str_int x t j u _ _ _ _ h
   ·rw[dsZ]at h;exact wpAny_eqBool_str h
 «strs»:=λk x t v h=>by
  rcases F6 h with⟨i,u,rfl,e⟩|⟨y,u,rfl,e⟩
  ·exact nomatch e
  ·injection e with e1 _
   subst e1;cases v<;>rfl
theorem LB(prog:Program)(w:World)(i:Int)(t:Tok):(E3 prog w).is (.inl i) (.int i t)=true:=ST i t
theorem LG(prog:Program)(w:World)(x:Str)(t:Tok):(E3 prog w).is (.inr x) (.str x t)=true:=UL x t
inductive V where
 |non|bl (b:Bool)|int (i:Int)|str (x:Str)|byt (b:Array UInt8)|flt (b:UInt64)|ref (a:Addr)|ty (n:String)
 deriving DecidableEq
def RelV:V->Value->Prop
 | .non,u=>u=Value.none
 | .bl b,u=>u=Value.bool b
 | .int i,u=>∃t,u=Value.int i t
 | .str x,u=>∃t,u=Value.str x t
 | .byt b,u=>∃t,u=Value.bytes b t
 | .flt b,u=>∃t,u=Value.float b t
 | .ref a,u=>u=Value.ref a
 | .ty n,u=>u=Value.type n
abbrev Vals:List V->List Value->Prop:=Paired RelV
theorem Vals.length(r:Vals xs us):xs.length=us.length:=Paired.length r
theorem Vals.get:∀ {xs:List V} {us:List Value} {i:Nat} {x:V},Vals xs us->xs[i]? =some x->∃u,us[i]? =some u/\RelV x u
 |_,_,_,_,.nil,e=>by simp at e
 |_,_,0,_,.cons r _,e=>by simp at e;subst e;exact⟨_,rfl,r⟩
 |_,_,i+1,x,.cons _ t,e=>by
  obtain⟨u,h1,h2⟩:=Vals.get (i:=i) (x:=x) t (by simpa using e);exact⟨u,by simpa using h1,h2⟩
theorem Vals.set(r:RelV x u):∀ {xs:List V} {us:List Value} (i:Nat),Vals xs us->Vals (xs.set i x) (us.set i u)
 |_,_,_,.nil=> .nil
 |_,_,0,.cons _ t=> .cons r t
 |_,_,i+1,.cons q t=> .cons q (Vals.set r i t)
theorem Vals.append:∀ {xs ys:List V} {us ws:List Value},Vals xs us->Vals ys ws->Vals (xs++ys) (us++ws)
 |_,_,_,_,.nil,s=>s
 |_,_,_,_,.cons r t,s=> .cons r (Vals.append t s)
theorem Vals.take:∀ {xs:List V} {us:List Value} (n:Nat),Vals xs us->Vals (xs.take n) (us.take n)
 |_,_,0,_=> .nil
 |_,_,_+1,.nil=> .nil
 |_,_,n+1,.cons r t=> .cons r (Vals.take n t)
theorem Vals.drop:∀ {xs:List V} {us:List Value} (n:Nat),Vals xs us->Vals (xs.drop n) (us.drop n)
 |_,_,0,r=>r
 |_,_,_+1,.nil=> .nil
 |_,_,n+1,.cons _ t=>Vals.drop n t
def RelO:Option V->Option Value->Prop
 |some v,some u=>RelV v u
 |none,none=>True
 |_,_=>False
def KV{κ:Type}:List (κ×V)->List (κ×Value)->Prop:=Paired λ(p:κ×V) (q:κ×Value)=>p.1=q.1/\RelV p.2 q.2
def kV:Key->V
 | .inl i=> .int i
 | .inr x=> .str x
inductive HO where
 |lst (xs:List V)
 |tup (xs:List V)
 |dK (kvs:List (Key×V))|dT (kvs:List (List Key×V))
 |set(S:Int->Bool) (n:Nat)
 |ins (C dx:Addr) (fs:List (Str×V))
 |own (x:Addr)
 |xd (fs:List (Str×V))
 |met (f x:Addr)
 |rng (lo hi:Int)
 |frz (o:Obj) (u:HO)
 |tbl (ps:Array Value)
 |ext (φ:Heap->Prop)
abbrev Hp:=Addr->Option HO
def upd(H:Hp)(a:Addr)(o:HO):Hp:=λb=>if b=a then some o else H b
theorem A4:upd H a o a=some o:=by unfold upd;rw[if_pos rfl]
theorem B5{a b:Addr}(h:b≠a):upd H a o b=H b:=by unfold upd;rw[if_neg h]
theorem PV:upd (upd H a o) a u=upd H a u:=by
 funext b;unfold upd;split<;>rfl
theorem MA{H:Hp}{a b:Addr}{o u:HO}(h:H a=some o)(h':H b=some u)(d:o≠u):a≠b:=by
 intro e;subst e;rw[h]at h';exact d (sJ h')
theorem B9{H:Hp}{a b:Addr}{o:HO}(h:H a=some o)(h':H b=none):a≠b:=by
 intro e;subst e;rw[h]at h';cases h'
section
variable(P:Program)(w:World)
def ObjOk(H:Hp)(h:Heap)(a:Addr):HO->Prop
 | .lst xs=>xs.length<=sizeLine/\∃(its:List Value) (n:Nat),Vals xs its/\h.get? a=some {cls:=.type "list",data:=.seq its.toArray n}
 | .tup xs=>xs.length<=sizeLine/\∃its:List Value,Vals xs its/\IsTup h a its.toArray
 | .dK kvs=>kvs.length<=sizeLine/\(a==sysModules)=false/\∃vs,KV kvs vs/\h.DictOf (E3 P w) a vs
 | .dT kvs=>kvs.length<=sizeLine/\(a==sysModules)=false/\∃xs:List (List Key×Addr×Value),
   Paired (λ(p:List Key×V) (q:List Key×Addr×Value)=>p.1=q.1/\H q.2.1=some (.tup (p.1.map kV))/\RelV p.2 q.2.2) kvs xs/\
   ∃o es ep,h.get? a=some o/\o.ExactDict/\o.data=.dict es ep/\es.toList=xs.map (entryOfKey (tupleKind (E3 P w)))/\(xs.map (·.1)).Nodup
 | .set S n=>h.SetOf (intKind P w) a S n
 | .ins C dx fs=>H dx=some (.own a)/\fs.length<=1000/\dx≠a/\h.get? a=some (instObj C dx)/\
   ∃mA,h.Ns1 dx mA/\(∀f,RelO (fs.lookup f) (mA f))/\PySem.Within mA (fs.map (·.1))
 | .own _=>∃o,h.get? a=some o
 | .xd fs=>∃mA,h.Ns1 a mA/\∀f,RelO (fs.lookup f) (mA f)
 | .rng lo hi=>∃t u v,h.get? a=some {cls:=.type "range",data:=.fields #[.int lo t,.int hi u,.int 1 v]}
 | .frz o u=>h.get? a=some o/\ObjOk H h a u
 | .tbl ps=>h.get? a=some {cls:=.none,data:=.fields ps}
 | .met f x=>h.get? a=some (W.methodObj (.ref f) (.ref x))
 | .ext φ=>φ h/\(∃o,h.get? a=some o)/\∀h1 h2:Heap,φ h1->(∀o,h1.get? a=some o->h2.get? a=some o)->φ h2
def HOk(H:Hp)(h:Heap):Prop:=∀a o,H a=some o->ObjOk P w H h a o
end
section
theorem ObjOk.lt(x:ObjOk P w H h a o):a<h.objs.size:=by
 cases o with
 |lst xs=>obtain⟨_,_,_,_,e⟩:=x;exact lt_size e
 |tup xs=>obtain⟨_,_,_,p⟩:=x;exact p.lt
 |dK b=>obtain⟨_,_,_,_,o,_,_,e,_⟩:=x;exact lt_size e
 |dT b=>obtain⟨_,_,_,_,o,_,_,e,_⟩:=x;exact lt_size e
 |set S n=>obtain⟨o,_,_,_,e,_⟩:=x;exact lt_size e
 |ins C dx fs=>obtain⟨_,_,_,e,_⟩:=x;exact lt_size e
 |own y=>obtain⟨_,e⟩:=x;exact lt_size e
 |xd fs=>obtain⟨_,⟨_,_,_,e,_⟩,_⟩:=x;exact lt_size e
 |rng lo hi=>obtain⟨_,_,_,e⟩:=x;exact lt_size e
 |frz ob u=>obtain⟨e,_⟩:=x;exact lt_size e
 |tbl ps=>exact lt_size (show h.get? a=some _ from x)
 |met f y=>exact lt_size (show h.get? a=some _ from x)
 |ext φ=>obtain⟨_,⟨_,e⟩,_⟩:=x;exact lt_size e
theorem Paired.mapP{α β:Type}{F G:α->β->Prop}:∀ {l₁:List α} {l₂:List β},Paired F l₁ l₂->(∀a b,F a b->G a b)->Paired G l₁ l₂
 |_,_,.nil,_=> .nil
 |_,_,.cons r t,f=> .cons (f _ _ r) (Paired.mapP t f)
theorem ObjOk.stay{H':Hp}{h':Heap}(x:ObjOk P w H h a o)(k:∀b u,(b=a\/H b=some (.own a))->h.get? b=some u->h'.get? b=some u)
  (ho:∀b,H b=some (.own a)->H' b=some (.own a))(ht:∀b xs,H b=some (.tup xs)->H' b=some (.tup xs)):ObjOk P w H' h' a o:=by
 induction o with
 |lst xs=>obtain⟨z,g,n,r,e⟩:=x;exact⟨z,g,n,r,k _ _ (.inl rfl) e⟩
 |tup xs=>obtain⟨z,g,r,ob,e,c⟩:=x;exact⟨z,g,r,ob,k _ _ (.inl rfl) e,c⟩
 |dK i=>obtain⟨z,y,vs,r,ob,es,ep,e,c⟩:=x;exact⟨z,y,vs,r,ob,es,ep,k _ _ (.inl rfl) e,c⟩
 |dT i=>
  obtain⟨z,y,xs,r,ob,es,ep,e,c⟩:=x;exact⟨z,y,xs,Paired.mapP r λp q z=>⟨z.1,ht _ _ z.2.1,z.2.2⟩,ob,es,ep,k _ _ (.inl rfl) e,c⟩
 |set S n=>obtain⟨ob,es,ep,t,e,c⟩:=x;exact⟨ob,es,ep,t,k _ _ (.inl rfl) e,c⟩
 |ins C dx fs=>
  obtain⟨d,z,ne,e,mA,⟨od,es,ep,e2,c⟩,r⟩:=x;exact⟨ho _ d,z,ne,k _ _ (.inl rfl) e,mA,⟨od,es,ep,k _ _ (.inr d) e2,c⟩,r⟩
 |own y=>obtain⟨ob,e⟩:=x;exact⟨ob,k _ _ (.inl rfl) e⟩
 |xd fs=>obtain⟨mA,⟨od,es,ep,e,c⟩,r⟩:=x;exact⟨mA,⟨od,es,ep,k _ _ (.inl rfl) e,c⟩,r⟩
 |rng lo hi=>obtain⟨t,u,v,e⟩:=x;exact⟨t,u,v,k _ _ (.inl rfl) e⟩
 |frz ob u ih=>obtain⟨e,q⟩:=x;exact⟨k _ _ (.inl rfl) e,ih q⟩
 |tbl ps=>
  have e:h.get? a=some {cls:=.none,data:=.fields ps}:=x;show h'.get? a=some {cls:=.none,data:=.fields ps};exact k a _ (.inl rfl) e
 |met f y=>
  have e:h.get? a=some (W.methodObj (.ref f) (.ref y)):=x;show h'.get? a=some (W.methodObj (.ref f) (.ref y));exact k a _ (.inl rfl) e
 |ext φ=>obtain⟨p,⟨o,e⟩,st⟩:=x;exact⟨st _ _ p λo q=>k _ _ (.inl rfl) q,⟨o,k _ _ (.inl rfl) e⟩,st⟩
theorem HOk.lt{a:Addr}{o:HO}(x:HOk P w H h)(e:H a=some o):a<h.objs.size:=(x a o e).lt
theorem HOk.fresh{a:Addr}(x:HOk P w H h)(e:h.objs.size<=a):H a=none:=by
 cases q:H a with
 |none=>rfl
 |some u=>exact absurd (lt_of_lt_of_le (x.lt q) e) (lt_irrefl _)
theorem HOk.kept{h':Heap}(x:HOk P w H h)(k:∀b u,h.get? b=some u->h'.get? b=some u):HOk P w H h':=λa o e=>
 (x a o e).stay (λb u _ q=>k b u q) (λ_ q=>q) λ_ _ q=>q
theorem HOk.laid{h':Heap}{a:Addr}(x:HOk P w H h)(k:∀b u,h.get? b=some u->h'.get? b=some u)(hp:h.objs.size<=a)(new:ObjOk P w (upd H a o) h' a o):HOk P w (upd H a o) h':=λb u e=>by
 have hn:=x.fresh hp;by_cases hb:b=a
 ·subst hb;rw[A4]at e;cases e;exact new
 ·rw[B5 hb]at e;exact(x b u e).stay (λc v _ q=>k c v q) (λc q=>by rw[B5 (B9 q hn)];exact q) λc xs q=>by rw[B5 (B9 q hn)];exact q
end
def Rd(H:Hp)(a:Addr)(u:HO):Prop:=H a=some u\/∃o,H a=some (.frz o u)
theorem Rd.ok(r:Rd H a u)(x:HOk P w H h):ObjOk P w H h a u:=by
 rcases r with r|⟨o,r⟩
 ·exact x a u r
 ·obtain⟨_,q⟩:=x a _ r;exact q
def Mut:Option HO->Prop
 |some (.lst _)=>True
 |some (.dK _)=>True
 |some (.dT _)=>True
 |some (.set _ _)=>True
 |some (.ins _ _ _)=>True
 |some (.ext _)=>True
 |_=>False
section
theorem HOk.write{h':Heap}{x e:Addr}(ok:HOk P w H h)(mu:Mut (H x))(he:e=x\/H e=some (.own x))(k:∀b u,b≠e->h.get? b=some u->h'.get? b=some u)(heo:∃u,h'.get? e=some u)
  (new:ObjOk P w (upd H x o') h' x o'):HOk P w (upd H x o') h':=λb u q=>by
 have a:∀c y,H c=some (.own y)->c≠x:=λc y r z=>by subst z;rw[r]at mu;exact mu
 have f:∀c xs,H c=some (.tup xs)->c≠x:=λc xs r z=>by subst z;rw[r]at mu;exact mu
 by_cases hb:b=x
 ·subst hb;rw[A4]at q;cases q;exact new
 ·rw[B5 hb]at q;by_cases d:b=e
  ·have q':H b=some (.own x):=by
    rcases he with z|z
    ·exact absurd (d.trans z) hb
    ·rw[d];exact z
   rw[q]at q';cases q';obtain⟨v,hv⟩:=heo;exact⟨v,by rw[d];exact hv⟩
  ·refine(ok b u q).stay (λc v hc r=>k c v ?_ r) (λc r=>by rw[B5 (a c b r)];exact r) λc xs r=>by rw[B5 (f c xs r)];exact r
   rcases hc with rfl|hc
   ·exact d
   ·rintro rfl;rcases he with z|z
    ·exact a c b hc z
    ·rw[hc]at z;cases z;exact hb rfl
end
structure Un (fs ex:List Addr) (H H':Hp) (h h':Heap):Prop where
 keep:∀b o,h.get? b=some o->H b=none->b∉fs->b∉ex->h'.get? b=some o
 slot:∀b o,h.get? b=some o->H b=none->b∈fs->b∉ex->∃sl,h'.get? b=some {o with slots:=sl}
 free:∀b o,h.get? b=some o->H b=none->b∉ex->H' b=none
 there:∀b o,h.get? b=some o->b∉ex->∃o',h'.get? b=some o'
 tups:∀b xs,H b=some (.tup xs)->H' b=some (.tup xs)
 frzs:∀b o u,H b=some (.frz o u)->H' b=some (.frz o u)
 tbls:∀b ps,H b=some (.tbl ps)->∃more,H' b=some (.tbl (ps++more))
section
theorem Un.any(u:Un fs ex H H1 h h1){b:Addr}{ob:Obj}(q:h.get? b=some ob)(n:H b=none)(hx:b∉ex):∃sl,h1.get? b=some {ob with slots:=sl}:=by
 by_cases hb:b∈fs
 ·exact u.slot b ob q n hb hx
 ·exact⟨ob.slots,u.keep b ob q n hb hx⟩
theorem Un.kept{h h':Heap}(k:∀b u,h.get? b=some u->h'.get? b=some u):Un fs ex H H h h':=
 ⟨λb ob q _ _ _=>k b ob q,λb ob q _ _ _=>⟨ob.slots,k b ob q⟩,λ_ _ _ n _=>n,λb ob q _=>⟨ob,k b ob q⟩,λ_ _ q=>q,λ_ _ _ q=>q,λ_ ps q=>⟨#[],by rw[q];simp⟩⟩
theorem Un.refl:Un fs ex H H h h:=Un.kept λ_ _ q=>q
theorem Un.laid{H:Hp}{h h':Heap}{a:Addr}(k:∀b u,h.get? b=some u->h'.get? b=some u)(hp:h.objs.size<=a)(hn:H a=none):Un fs ex H (upd H a o) h h' where
 keep:=λb u q _ _ _=>k b u q
 slot:=λb u q _ _ _=>⟨u.slots,k b u q⟩
 free:=λb u q n _=>by rw[B5 (ne_of_lt (lt_of_lt_of_le (lt_size q) hp))];exact n
 there:=λb u q _=>⟨u,k b u q⟩
 tups:=λb xs q=>by rw[B5 (B9 q hn)];exact q
 frzs:=λb u xs q=>by rw[B5 (B9 q hn)];exact q
 tbls:=λb ps q=>⟨#[],by rw[B5 (B9 q hn),q];simp⟩
theorem Un.write{H:Hp}{h h':Heap}{x e:Addr}(mu:Mut (H x))(he:e=x\/H e=some (.own x))(k:∀b u,b≠e->h.get? b=some u->h'.get? b=some u)(heo:∃u,h'.get? e=some u):Un fs ex H (upd H x o) h h':=by
 have hx:∀b,H b=none->b≠x:=λb n z=>by subst z;rw[n]at mu;exact mu
 have hb:∀b,H b=none->b≠e:=λb n z=>by
  subst z;rcases he with r|r
  ·exact hx b n r
  ·rw[n]at r;cases r
 have hm:∀b u,H b=some u->¬Mut (some u)->b≠x:=λb u q nm z=>by subst z;rw[q]at mu;exact nm mu
 refine⟨λb u q n _ _=>k b u (hb b n) q,λb u q n _ _=>⟨u.slots,k b u (hb b n) q⟩,λb u q n _=>by rw[B5 (hx b n)];exact n,λb u q _=> ?_,
  λb xs q=>by rw[B5 (hm b _ q λz=>z)];exact q,λb u xs q=>by rw[B5 (hm b _ q λz=>z)];exact q,λb ps q=>⟨#[],by rw[B5 (hm b _ q λz=>z),q];simp⟩⟩
 by_cases a:b=e
 ·subst a;exact heo
 ·exact⟨u,k b u a q⟩
end
def trk(h:Heap)(H:Hp):List Addr:=(List.range h.objs.size).filter λa=>(H a).isSome
def FJ(h:Heap)(H:Hp):Heap:=W.hideAll h (trk h H)
theorem US(h:Heap)(H:Hp):(FJ h H).objs.size=h.objs.size:=W.hideAll_size _ _
theorem WJ{h:Heap}{H:Hp}{b:Addr}{o:Obj}(e:h.get? b=some o)(n:H b=none):(FJ h H).get? b=some o:=
 W.hideAll_get _ e λhm=>by
  have q:(H b).isSome=true:=(mem_filter.mp hm).2;rw[n]at q;simp at q
theorem ajZ{b:Addr}{o:Obj}(e:(FJ h H).get? b=some o):h.get? b=some o/\H b=none:=by
 have e':h.get? b=some o:=W.of_hideAll (trk h H) e;refine⟨e', ?_⟩;cases q:H b with
 |none=>rfl
 |some x=>
  have hm:b∈trk h H:=mem_filter.mpr ⟨mem_range.mpr (lt_size e'),by simp[q]⟩;have z:(FJ h H).get? b=none:=W.hideAll_none (trk h H) hm;rw[z]at e;cases e
structure Mod (Z:FZ) (mg:Str->Option Value) (qB:Heap):Prop where
 kin:Z.In qB
 glob:qB.Ns mainGlobals mg
 blt:∃mb,qB.Ns builtinsNs mb/\∀x:Str,x≠ "__name__"->mb x=bootBuiltins x
 nolimit:qB.NoLimit
structure Cx where
 prog:Program
 w:World
 K:FZ
 mg:Str->Option Value
 qB:Heap
 A:Around
 N:List Str
 s₀:Shared
 H₀:Hp
 env:Env
 outer:List Env
 stack:List Env
 ex:List Addr
 fn:Str->Bool
 calm:Bool
 pn:List (Addr×Obj)
 xe:Value->Shared->Prop
def frs(l:List Env):List Addr:=l.filterMap (·.frame)
abbrev Cx.fs(X:Cx):List Addr:=frs X.outer
def Vis(sc:Scope)(x:Str):Prop:=sc.names.lookup x=some .local\/sc.names.lookup x=some .cell\/sc.names.lookup x=some .free
def Loc(sc:Scope)(x:Str):Prop:=sc.names.lookup x=some .local\/sc.names.lookup x=some .cell
def feZ(env:Env)(h:Heap)(m:Str->Option Value)(x:Str)(u:Value):Prop:=
 (env.kindOf x=some .local/\m x=some u)\/((env.kindOf x=some .cell\/env.kindOf x=some .free)/\∃c,env.cells.lookup x=some c/\h.IsCell c (some u))
structure Cx.Ok (X:Cx):Prop where
 mod:Mod X.K X.mg X.qB
 kind:X.env.scope.kind=.function
 glob:X.env.globals=mainGlobals
 blt:X.env.builtins=builtinsNs
 above:X.s₀.heap.objs.size<=X.env.locals
 inj:∀x y c,X.env.cells.lookup x=some c->X.env.cells.lookup y=some c->x=y
 has:∀x,(X.env.kindOf x=some .cell\/X.env.kindOf x=some .free)->∃c,X.env.cells.lookup x=some c
 cab:∀x c,X.fn x=true->X.env.cells.lookup x=some c->X.s₀.heap.objs.size<=c
 hd:X.calm=true->X.A.handled=none
 frames:X.A.frames=some X.stack
 stk:X.stack=X.outer\/(X.stack=X.env::X.outer/\X.env.frame=some X.env.locals)
 exf:∀b∈X.ex,b≠X.env.locals/\∀x c,X.env.cells.lookup x=some c->c≠b
 bs:∀b o,X.qB.get? b=some o->X.s₀.heap.get? b=some o/\X.H₀ b=none
 bsz:X.qB.objs.size<=X.s₀.heap.objs.size
 noex:∀b o,X.qB.get? b=some o->b∉X.ex
 exfs:∀b∈X.ex,b∉X.fs
 funs:X.s₀.heap.FunFrames X.qB X.outer
 frf:∀b∈X.fs,X.H₀ b=none
structure Inv (X:Cx) (N:List (Addr×Obj)) (σ:List (Option V)) (H:Hp) (s:Shared):Prop where
 ok:X.Ok
 os:s.os=X.s₀.os
 bare:AllBare s.gens
 qB:Un X.fs X.ex X.H₀ H X.s₀.heap s.heap
 loc:∃m,s.heap.Ns X.env.locals m/\∀(i:Nat) (x:Str) (v:V),X.N[i]? =some x->σ[i]? =some (some v)->Vis X.env.scope x->∃u,RelV v u/\feZ X.env s.heap m x u
 cell:∀x c,X.env.cells.lookup x=some c->∃v,s.heap.IsCell c v
 free:H X.env.locals=none
 freeC:∀x c,X.env.cells.lookup x=some c->H c=none
 pin:∀p∈X.pn++N,s.heap.get? p.1=some p.2/\H p.1=none/\p.1≠X.env.locals/\p.1∉X.fs/\∀v,p.2.data≠ .cell v
 hok:HOk X.prog X.w H s.heap
 len:σ.length=X.N.length
section
theorem Cx.Ok.nofr{X:Cx}(ok:X.Ok){b:Addr}{o:Obj}(e:X.qB.get? b=some o):b∉X.fs:=λhb=>by
 have:=(ok.funs.mem hb).1;rw[e]at this;cases this
theorem Inv.bs{H:Hp}(I:Inv X N σ H s):∀b o,X.qB.get? b=some o->s.heap.get? b=some o/\H b=none:=λb o e=>
 ⟨I.qB.keep b o (I.ok.bs b o e).1 (I.ok.bs b o e).2 (I.ok.nofr e) (I.ok.noex b o e),I.qB.free b o (I.ok.bs b o e).1 (I.ok.bs b o e).2 (I.ok.noex b o e)⟩
theorem Inv.bk{H:Hp}(I:Inv X N σ H s):∀b o,X.qB.get? b=some o->s.heap.get? b=some o:=λb o e=>(I.bs b o e).1
theorem Inv.mod{H:Hp}(I:Inv X N σ H s):Mod X.K X.mg X.qB:=I.ok.mod
theorem Inv.kIn{H:Hp}(I:Inv X N σ H s):X.K.In s.heap:=I.ok.mod.kin.keeps I.bk
theorem Inv.lt{H:Hp}(I:Inv X N σ H s):X.env.locals<s.heap.objs.size:=let⟨_,hn,_⟩:=I.loc;hn.lt
theorem Inv.sz{H:Hp}(I:Inv X N σ H s):X.s₀.heap.objs.size<=s.heap.objs.size:=le_trans I.ok.above (le_of_lt I.lt)
theorem Inv.nofs{H:Hp}(I:Inv X N σ H s){a:Addr}(h:s.heap.objs.size<=a):a∉X.fs:=λhb=>by
 obtain⟨_,o,ho,_⟩:=I.ok.funs.mem hb;exact absurd (lt_of_lt_of_le (lt_size ho) (le_trans I.sz h)) (lt_irrefl _)
theorem Inv.cne{H:Hp}(I:Inv X N σ H s):∀x c,X.env.cells.lookup x=some c->c≠X.env.locals:=λx c e z=>by
 obtain⟨v,o,ho,hd⟩:=I.cell x c e;obtain⟨m,⟨o',es,ep,a,b,_⟩,_⟩:=I.loc;rw[z,a]at ho;cases ho;rw[b]at hd;cases hd
theorem Inv.funs{H:Hp}(I:Inv X N σ H s):s.heap.FunFrames X.qB X.outer:=by
 have a:∀(l:List Env),(∀b∈frs l,b∈X.fs)->X.s₀.heap.FunFrames X.qB l->s.heap.FunFrames X.qB l:=by
  intro l;induction l with
  |nil=>intro _ _;trivial
  |cons c r ih=>
   intro hs hl;obtain⟨hk,⟨L,o,hf,hn,ho,hd⟩,hr⟩:=hl;have hL:L∈X.fs:=hs L (by unfold frs;rw[filterMap_cons,hf];exact mem_cons_self);obtain⟨sl,e⟩:=I.qB.slot L o ho (I.ok.frf L hL) hL λz=>I.ok.exfs L z hL;exact⟨hk,⟨L,_,hf,hn,e,hd⟩,ih (λb hb=>hs b (by unfold frs;rw[filterMap_cons,hf];exact mem_cons_of_mem _ hb)) hr⟩
 exact a X.outer (λ_ hb=>hb) I.ok.funs
theorem Inv.stack{H:Hp}(I:Inv X N σ H s):s.heap.FunFrames X.qB X.stack:=by
 rcases I.ok.stk with e|⟨e,hf⟩
 ·rw[e];exact I.funs
 ·rw[e];obtain⟨m,hn,_⟩:=I.loc;refine .cons (by rw[I.ok.kind];decide) hf hn ?_ I.funs;exact Heap.get?_none_of_le (le_trans I.ok.bsz I.ok.above)
theorem Inv.stkSub{H:Hp}(I:Inv X N σ H s):∀b∈frs X.stack,b∈X.env.locals::X.fs:=λb hb=>by
 rcases I.ok.stk with e|⟨e,hf⟩
 ·rw[e]at hb;exact mem_cons_of_mem _ hb
 ·rw[e]at hb;unfold frs at hb;rw[filterMap_cons,hf]at hb;exact hb
theorem Inv.stkFree{H:Hp}(I:Inv X N σ H s):∀b∈frs X.stack,H b=none:=λb hb=>by
 rcases cZ (I.stkSub b hb)with e|hb
 ·rw[e];exact I.free
 ·obtain⟨_,o,ho,_⟩:=I.ok.funs.mem hb;exact I.qB.free b o ho (I.ok.frf b hb) λz=>I.ok.exfs b z hb
theorem Inv.step{H H':Hp}{h':Heap}{t':Nat}{d':Drawn}{ch:List Addr}(I:Inv X N σ H s)
  (hch:∀b∈ch,(b∈X.ex\/X.s₀.heap.objs.size<=b)/\b≠X.env.locals/\(∀x c,X.env.cells.lookup x=some c->c≠b)/\∀p∈X.pn++N,p.1≠b)
  (keep:∀b o,b≠X.env.locals->b∉X.fs->b∉ch->s.heap.get? b=some o->H b=none->h'.get? b=some o)
  (slot:∀b o,b≠X.env.locals->b∈X.fs->b∉ch->s.heap.get? b=some o->H b=none->∃sl,h'.get? b=some {o with slots:=sl})(free:∀b o,b∉ch->s.heap.get? b=some o->H b=none->H' b=none)
  (there:∀b o,b∉ch->s.heap.get? b=some o->∃o',h'.get? b=some o')
  (tups:∀b xs,H b=some (.tup xs)->H' b=some (.tup xs))(frzs:∀b o u,H b=some (.frz o u)->H' b=some (.frz o u))(tbls:∀b ps,H b=some (.tbl ps)->∃more,H' b=some (.tbl (ps++more)))
  (ns:∀m,s.heap.Ns X.env.locals m->h'.Ns X.env.locals m)(hok:HOk X.prog X.w H' h')(hg:AllBare g'):
  Inv X N σ H' {s with heap:=h',gens:=g',drawn:=d',toks:=t'}:=by
 have h:∀b o,X.s₀.heap.get? b=some o->b≠X.env.locals:=λb o e=>ne_of_lt (lt_of_lt_of_le (lt_size e) I.ok.above);have g:∀b o,X.s₀.heap.get? b=some o->b∉X.ex->b∉ch:=λb o e hx hb=>by
  rcases(hch b hb).1 with z|z
  ·exact hx z
  ·exact absurd (lt_of_lt_of_le (lt_size e) z) (lt_irrefl _)
 have a:∀x c,X.env.cells.lookup x=some c->∀v,s.heap.IsCell c v->h'.IsCell c v:=λx c e v ⟨o,ho,hd⟩=>by
  have f:c∉ch:=λz=>(hch c z).2.2.1 x c e rfl;by_cases hc:c∈X.fs
  ·obtain⟨sl,q⟩:=slot c o (I.cne x c e) hc f ho (I.freeC x c e);exact⟨_,q,hd⟩
  ·exact⟨o,keep c o (I.cne x c e) hc f ho (I.freeC x c e),hd⟩
 refine⟨I.ok,I.os,hg,⟨λb o e n hb hx=> ?_,λb o e n hb hx=> ?_,λb o e n hx=> ?_,λb o e hx=> ?_,λb xs e=>tups b xs (I.qB.tups b xs e),λb o xs e=>frzs b o xs (I.qB.frzs b o xs e),λb ps e=> ?_⟩, ?_,λx c e=> ?_, ?_,λx c e=> ?_,λp hp=> ?_,hok,I.len⟩
 ·exact keep b o (h b o e) hb (g b o e hx) (I.qB.keep b o e n hb hx) (I.qB.free b o e n hx)
 ·obtain⟨sl,e1⟩:=I.qB.slot b o e n hb hx;obtain⟨j,e2⟩:=slot b _ (h b o e) hb (g b o e hx) e1 (I.qB.free b o e n hx);exact⟨j,e2⟩
 ·obtain⟨o',e1⟩:=I.qB.there b o e hx;exact free b o' (g b o e hx) e1 (I.qB.free b o e n hx)
 ·obtain⟨o',e1⟩:=I.qB.there b o e hx;exact there b o' (g b o e hx) e1
 ·obtain⟨m1,e1⟩:=I.qB.tbls b ps e;obtain⟨m2,e2⟩:=tbls b _ e1;exact⟨m1++m2,by rw[e2,Array.append_assoc]⟩
 ·obtain⟨m,hn,hl⟩:=I.loc;refine⟨m,ns m hn,λi x v e1 e2 e3=> ?_⟩;obtain⟨u,r,l⟩:=hl i x v e1 e2 e3;refine⟨u,r, ?_⟩;rcases l with l|⟨k,c,e,z⟩
  ·exact .inl l
  ·exact .inr ⟨k,c,e,a x c e _ z⟩
 ·obtain⟨v,z⟩:=I.cell x c e;exact⟨v,a x c e v z⟩
 ·obtain⟨m,⟨o,_,_,ho,_⟩,_⟩:=I.loc;exact free _ o (λz=>(hch _ z).2.1 rfl) ho I.free
 ·obtain⟨v,o,ho,hd⟩:=I.cell x c e;exact free c o (λz=>(hch c z).2.2.1 x c e rfl) ho (I.freeC x c e)
 ·obtain⟨e,n,ne,nf,d⟩:=I.pin p hp;have f:p.1∉ch:=λz=>(hch p.1 z).2.2.2 p hp rfl;exact⟨keep p.1 p.2 ne nf f e n,free p.1 p.2 f e n,ne,nf,d⟩
theorem Inv.un{H:Hp}{t':Nat}(I:Inv X N σ H s)(u:Un X.fs [] H H' s.heap h')(hok:HOk X.prog X.w H' h'):Inv X N σ H' {s with heap:=h',toks:=t'}:=by
 obtain⟨m,⟨o,es,ep,ho,r⟩,_⟩:=id I.loc;obtain⟨sl,hL⟩:=u.any ho I.free (by simp);exact I.step (g':=s.gens) (d':=s.drawn) (ch:=[]) (λ_ z=>nomatch z) (λb o _ hb _ e n=>u.keep b o e n hb (by simp)) (λb o _ hb _ e n=>u.slot b o e n hb (by simp)) (λb o _ e n=>u.free b o e n (by simp)) (λb o _ e=>u.there b o e (by simp)) u.tups u.frzs u.tbls (λm' hm=>by
  obtain⟨o',c,d,a,r'⟩:=hm;rw[ho]at a;cases a;exact⟨_,c,d,hL,r'⟩) hok I.bare
theorem Inv.call{H:Hp}{t':Nat}{d':Drawn}(I:Inv X N σ H s)(u:Un (frs X.stack) ch H H' s.heap h')(hok:HOk X.prog X.w H' h')(hg:AllBare g')
  (hch:∀b∈ch,(b∈X.ex\/X.s₀.heap.objs.size<=b)/\b≠X.env.locals/\(∀x c,X.env.cells.lookup x=some c->c≠b)/\∀p∈X.pn++N,p.1≠b):
  Inv X N σ H' {s with heap:=h',gens:=g',drawn:=d',toks:=t'}:=by
 obtain⟨m,⟨o,es,ep,ho,r⟩,_⟩:=id I.loc;obtain⟨sl,hL⟩:=u.any ho I.free λz=>(hch _ z).2.1 rfl;exact I.step (ch:=ch) hch (λb o hL hb hc e n=>u.keep b o e n (λz=>(cZ (I.stkSub b z)).elim hL hb) hc) (λb o _ _ hc e n=>u.any e n hc) (λb o hc e n=>u.free b o e n hc) (λb o hc e=>u.there b o e hc) u.tups u.frzs u.tbls (λm' hm=>by
  obtain⟨o',d,f,a,r'⟩:=hm;rw[ho]at a;cases a;exact⟨_,d,f,hL,r'⟩) hok hg
theorem Inv.turned{H:Hp}{h':Heap}{t':Nat}{it:Addr}(I:Inv X N σ H s)(k:∀b o,b≠it->s.heap.get? b=some o->h'.get? b=some o)(hn:H it=none)(hL:it≠X.env.locals)
  (h1:it∈X.ex\/X.s₀.heap.objs.size<=it)(h2:∀x c,X.env.cells.lookup x=some c->c≠it)(h3:∀p∈X.pn++N,p.1≠it):Inv X N σ H {s with heap:=h',toks:=t'}:=by
 have a:∀b u,H b=some u->b≠it:=λb u e z=>by rw[z,hn]at e;cases e
 refine I.step (g':=s.gens) (d':=s.drawn) (ch:=[it]) (λb hb=> ?_) (λb o _ _ hc e _=>k b o (λz=>hc (by simp[z])) e) (λb o _ _ hc e _=>⟨o.slots,k b o (λz=>hc (by simp[z])) e⟩) (λ_ _ _ _ n=>n)
  (λb o hc e=>⟨o,k b o (λz=>hc (by simp[z])) e⟩) (λ_ _ e=>e) (λ_ _ _ e=>e) (λb ps e=>⟨#[],by rw[e];simp⟩) (λm hm=> ?_) (λb u e=> ?_) I.bare
 ·have e:b=it:=by simpa using hb
  subst e;exact⟨h1,hL,h2,h3⟩
 ·obtain⟨o,es,ep,ho,r⟩:=hm;exact⟨o,es,ep,k _ o (Ne.symm hL) ho,r⟩
 ·refine(I.hok b u e).stay (λc v hc q=>k c v ?_ q) (λ_ q=>q) λ_ _ q=>q;rcases hc with z|z
  ·rw[z];exact a b u e
  ·exact a c _ z
theorem Inv.tok{H:Hp}(I:Inv X N σ H s)(t:Nat):Inv X N σ H {s with toks:=t}:=I.un (h':=s.heap) (t':=t) Un.refl I.hok
theorem Inv.kept{H:Hp}{h':Heap}{t':Nat}(I:Inv X N σ H s)(k:∀b u,s.heap.get? b=some u->h'.get? b=some u):Inv X N σ H {s with heap:=h',toks:=t'}:=I.un (Un.kept k) (I.hok.kept k)
theorem Inv.laid{H:Hp}{h':Heap}{a:Addr}{t':Nat}(I:Inv X N σ H s)(k:∀b u,s.heap.get? b=some u->h'.get? b=some u)(hp:s.heap.objs.size<=a)(new:ObjOk X.prog X.w (upd H a o) h' a o):
  Inv X N σ (upd H a o) {s with heap:=h',toks:=t'}:=I.un (Un.laid k hp (I.hok.fresh hp)) (I.hok.laid k hp new)
theorem Inv.write{H:Hp}{h':Heap}{x e:Addr}{t':Nat}(I:Inv X N σ H s)(mu:Mut (H x))(he:e=x\/H e=some (.own x))(k:∀b u,b≠e->s.heap.get? b=some u->h'.get? b=some u)(heo:∃u,h'.get? e=some u)
  (new:ObjOk X.prog X.w (upd H x o) h' x o):Inv X N σ (upd H x o) {s with heap:=h',toks:=t'}:=I.un (Un.write mu he k heo) (I.hok.write mu he k heo new)
theorem Inv.weak{H:Hp}{σ':List (Option V)}(I:Inv X N σ H s)(hl:σ'.length=σ.length)(w:∀(i:Nat) v,σ'[i]? =some (some v)->σ[i]? =some (some v)):Inv X N σ' H s:=
 ⟨I.ok,I.os,I.bare,I.qB,let⟨m,hn,hl'⟩:=I.loc;⟨m,hn,λi x v e1 e2 e3=>hl' i x v e1 (w i v e2) e3⟩,I.cell,I.free,I.freeC,I.pin,I.hok,hl.trans I.len⟩
theorem Inv.pins_of{H:Hp}{pins':List (Addr×Obj)}(I:Inv X N σ H s)(h:∀p∈pins',s.heap.get? p.1=some p.2/\H p.1=none/\p.1≠X.env.locals/\p.1∉X.fs/\∀v,p.2.data≠ .cell v):Inv X pins' σ H s:=
 ⟨I.ok,I.os,I.bare,I.qB,I.loc,I.cell,I.free,I.freeC,λp hp=>(mem_append.mp hp).elim (λz=>I.pin p (mem_append_left _ z)) (h p),I.hok,I.len⟩
theorem KB{N:List Str}(hN:N.Nodup){i j:Nat}{x:Str}(a:N[i]? =some x)(b:N[j]? =some x):i=j:=by
 obtain⟨h1,e1⟩:=List.getElem?_eq_some_iff.mp a;obtain⟨h2,e2⟩:=List.getElem?_eq_some_iff.mp b;exact(List.getElem_inj hN).mp (e1.trans e2.symm)
theorem FW{H:Hp}{M:Model}{A:Around}{E:Value->Shared->Prop}{i:Nat}{x:Str}{Q:Unit->Shared->Prop}(I:Inv X N σ H s)(hN:X.N.Nodup)(hi:X.N[i]? =some x)(hx:Loc X.env.scope x)(r:RelV v u)
  (h:∀s',Inv X N (σ.set i (some v)) H s'->(∃a,Heap.SameBut a s.heap s'.heap/\(a=X.env.locals\/X.env.cells.lookup x=some a))->Q () s')(hf:X.fn x=true\/X.env.scope.names.lookup x=some .local:=by first|exact .inl rfl|exact .inr rfl|assumption):wpAny M A (storeName X.env x u) Q E s:=by
 obtain⟨m,hn,hl⟩:=id I.loc;have B:(X.env.scope.kind==.class||(X.env.scope.kind==.module&&X.env.locals !=X.env.globals))=false:=by rw[I.ok.kind];rfl
 have hiσ:i<σ.length:=by rw[I.len];exact(List.getElem?_eq_some_iff.mp hi).1
 have C:=I.cne;have f:∀ {a:Addr} {h':Heap},(∃o,s.heap.get? a=some o/\H a=none)->Heap.SameBut a s.heap h'->HOk X.prog X.w H h':=λ{a h'} ha hs b ob e=>by
  obtain⟨_,_,g⟩:=ha;refine(I.hok b ob e).stay (λc w' hc q=>(hs.2 c ?_).trans q) (λ_ q=>q) λ_ _ q=>q;rintro rfl;rcases hc with rfl|hc
  ·rw[g]at e;cases e
  ·rw[g]at hc;cases hc
 rcases hx with hk|hk
 ·refine wpAny_storeName_local hk hn (λh' L hs=> ?_) B;obtain⟨oL,_,_,J,_⟩:=id hn;refine h _ ⟨I.ok,I.os,I.bare,⟨λb o e n hb hx=> ?_,λb o e n hb hx=> ?_,I.qB.free,λb o e hx=> ?_,I.qB.tups,I.qB.frzs,I.qB.tbls⟩,⟨_,L,λj y v' e1 e2 e3=> ?_⟩,λy c e=> ?_,I.free,I.freeC,λp hp=> ?_,f ⟨oL,J,I.free⟩ hs,by simpa using I.len⟩ ⟨_,hs,.inl rfl⟩
  ·exact(hs.2 b (ne_of_lt (lt_of_lt_of_le (lt_size e) I.ok.above))).trans (I.qB.keep b o e n hb hx)
  ·obtain⟨sl,e1⟩:=I.qB.slot b o e n hb hx;exact⟨sl,(hs.2 b (ne_of_lt (lt_of_lt_of_le (lt_size e) I.ok.above))).trans e1⟩
  ·obtain⟨o',e1⟩:=I.qB.there b o e hx;exact⟨o',(hs.2 b (ne_of_lt (lt_of_lt_of_le (lt_size e) I.ok.above))).trans e1⟩
  ·by_cases hj:j=i
   ·subst hj;rw[hi]at e1;cases e1;rw[getElem?_set_self hiσ]at e2;cases e2;exact⟨u,r,.inl ⟨hk,by simp⟩⟩
   ·rw[getElem?_set_ne (Ne.symm hj)]at e2;obtain⟨u',r',q⟩:=hl j y v' e1 e2 e3;refine⟨u',r', ?_⟩;rcases q with⟨k,e⟩|⟨k,c,e,z⟩
    ·refine .inl ⟨k, ?_⟩;have:y≠x:=λe=>hj (KB hN e1 (e▸hi));simp[this,e]
    ·exact .inr ⟨k,c,e,z.sameBut hs (C y c e)⟩
  ·obtain⟨w',z⟩:=I.cell y c e;exact⟨w',z.sameBut hs (C y c e)⟩
  ·obtain⟨e,n,ne,nf,d⟩:=I.pin p hp;exact⟨(hs.2 p.1 ne).trans e,n,ne,nf,d⟩
 ·have t:X.fn x=true:=by
   rcases hf with z|z
   ·exact z
   ·rw[z]at hk;cases hk
  obtain⟨c,hc⟩:=I.ok.has x (.inl hk);obtain⟨w',z⟩:=I.cell x c hc;refine wpAny_storeName_cell I.ok.kind hk hc z (λh' G hs=> ?_);obtain⟨oc,D,l⟩:=id z;refine h {s with heap:=h'} ⟨I.ok,I.os,I.bare,⟨λb o e n hb hx=> ?_,λb o e n hb hx=> ?_,I.qB.free,λb o e hx=> ?_,I.qB.tups,I.qB.frzs,I.qB.tbls⟩,⟨m,hn.sameBut hs (Ne.symm (C x c hc)),λj y v' e1 e2 e3=> ?_⟩,λy c' e=> ?_,I.free,I.freeC,λp hp=> ?_,f ⟨oc,D,I.freeC x c hc⟩ hs,by simpa using I.len⟩ ⟨c,hs,.inr hc⟩
  ·exact(hs.2 b (ne_of_lt (lt_of_lt_of_le (lt_size e) (I.ok.cab x c t hc)))).trans (I.qB.keep b o e n hb hx)
  ·obtain⟨sl,e1⟩:=I.qB.slot b o e n hb hx;exact⟨sl,(hs.2 b (ne_of_lt (lt_of_lt_of_le (lt_size e) (I.ok.cab x c t hc)))).trans e1⟩
  ·obtain⟨o',e1⟩:=I.qB.there b o e hx;exact⟨o',(hs.2 b (ne_of_lt (lt_of_lt_of_le (lt_size e) (I.ok.cab x c t hc)))).trans e1⟩
  ·by_cases hj:j=i
   ·subst hj;rw[hi]at e1;cases e1;rw[getElem?_set_self hiσ]at e2;cases e2;exact⟨u,r,.inr ⟨.inl hk,c,hc,G⟩⟩
   ·rw[getElem?_set_ne (Ne.symm hj)]at e2;obtain⟨u',r',q⟩:=hl j y v' e1 e2 e3;refine⟨u',r', ?_⟩;rcases q with q|⟨k,c',e,z'⟩
    ·exact .inl q
    ·refine .inr ⟨k,c',e,z'.sameBut hs ?_⟩;rintro rfl;exact hj (KB hN e1 (I.ok.inj _ _ _ e hc▸hi))
  ·by_cases F:c'=c
   ·subst F;exact⟨_,G⟩
   ·obtain⟨w2,z2⟩:=I.cell y c' e;exact⟨w2,z2.sameBut hs F⟩
  ·obtain⟨e,n,ne,nf,d⟩:=I.pin p hp;refine⟨(hs.2 p.1 ?_).trans e,n,ne,nf,d⟩;intro q;rw[q,D]at e;have q':oc=p.2:=sJ e;exact d w' (by rw[<-q'];exact l)
theorem Z9{H:Hp}{M:Model}{A:Around}{E:Value->Shared->Prop}{i:Nat}{x:Str}{Q:Unit->Shared->Prop}(I:Inv X N σ H s)(hN:X.N.Nodup)(hi:X.N[i]? =some x)(hx:Loc X.env.scope x)(r:RelV v u)
  (h:∀s',Inv X N (σ.set i (some v)) H s'->Q () s')(hf:X.fn x=true\/X.env.scope.names.lookup x=some .local:=by first|exact .inl rfl|exact .inr rfl|assumption):wpAny M A (storeName X.env x u) Q E s:=
 FW I hN hi hx r (λs' I' _=>h s' I') hf
theorem Inv.call'{H:Hp}{s':Shared}(I:Inv X N σ H s)(ho:s'.os=s.os)(u:Un (frs X.stack) ch H H' s.heap s'.heap)(hok:HOk X.prog X.w H' s'.heap)(hg:AllBare s'.gens)
  (hch:∀b∈ch,(b∈X.ex\/X.s₀.heap.objs.size<=b)/\b≠X.env.locals/\(∀x c,X.env.cells.lookup x=some c->c≠b)/\∀p∈X.pn++N,p.1≠b):Inv X N σ H' s':=by
 obtain⟨h',g',d',t',o'⟩:=s';have e:o'=s.os:=ho;subst e;exact I.call (g':=g') (t':=t') (d':=d') u hok hg hch
end
abbrev XK:=Value->Option Addr->Hp->Prop
abbrev St:=List (Option V)
abbrev VK:=V->Hp->Prop
abbrev TE:=St->Hp->VK->Prop
abbrev TT:=St->Hp->(Bool->Hp->Prop)->Prop
abbrev TA:=St->Hp->(List V->Hp->Prop)->Prop
structure Ends where
 nx:St->Hp->Prop
 rt:VK
 bk:St->Hp->Prop:=λ_ _=>False
 ct:St->Hp->Prop:=λ_ _=>False
abbrev TS:=Ends->St->Hp->Prop
def EP(X:Cx)(N:List (Addr×Obj))(σ:St)(Q:VK)(u:Value)(s':Shared):Prop:=∃v H',Inv X N σ H' s'/\RelV v u/\Q v H'
def TP(X:Cx)(N:List (Addr×Obj))(σ:St)(Q:Bool->Hp->Prop)(b:Bool)(s':Shared):Prop:=∃H',Inv X N σ H' s'/\Q b H'
def AP(X:Cx)(N:List (Addr×Obj))(σ:St)(Q:List V->Hp->Prop)(us:List Value)(s':Shared):Prop:=∃vs H',Inv X N σ H' s'/\Vals vs us/\Q vs H'
def SP(X:Cx)(N:List (Addr×Obj))(D:Ends)(f:Flow)(s':Shared):Prop:=
 match f with
 | .next=>∃σ' H',Inv X N σ' H' s'/\D.nx σ' H'
 | .brk=>∃σ' H',Inv X N σ' H' s'/\D.bk σ' H'
 | .cont=>∃σ' H',Inv X N σ' H' s'/\D.ct σ' H'
 | .ret u=>∃v σ' H',Inv X N σ' H' s'/\RelV v u/\D.rt v H'
def PE(X:Cx)(e:Expr)(t:TE):Prop:=
 ∀(N:List (Addr×Obj)) (s:Shared) (σ:St) (H:Hp) (Q:VK),Inv X N σ H s->t σ H Q->wpAny (model X.prog X.w) X.A (eval e X.env) (EP X N σ Q) X.xe s
def PT(X:Cx)(e:Expr)(t:TT):Prop:=
 ∀(N:List (Addr×Obj)) (s:Shared) (σ:St) (H:Hp) (Q:Bool->Hp->Prop),Inv X N σ H s->t σ H Q->wpAny (model X.prog X.w) X.A (isTrue e X.env (eval e X.env)) (TP X N σ Q) X.xe s
def PW(X:Cx)(e:Expr)(t:TT):Prop:=
 ∀(whole:Sem Value) (N:List (Addr×Obj)) (s:Shared) (σ:St) (H:Hp) (Q:Bool->Hp->Prop),Inv X N σ H s->t σ H Q->wpAny (model X.prog X.w) X.A (isTrue e X.env whole) (TP X N σ Q) X.xe s
theorem PW.pt(h:PW X e t):PT X e t:=h _
def PA(X:Cx)(es:List Expr)(t:TA):Prop:=
 ∀(pos:Pos) (N:List (Addr×Obj)) (s:Shared) (σ:St) (H:Hp) (Q:List V->Hp->Prop),Inv X N σ H s->t σ H Q->wpAny (model X.prog X.w) X.A (spliced (backTo pos (starEach es X.env))) (AP X N σ Q) X.xe s
def PS(X:Cx)(st:Stmt)(t:TS):Prop:=
 ∀(N:List (Addr×Obj)) (s:Shared) (σ:St) (H:Hp) (D:Ends),Inv X N σ H s->t D σ H->wpAny (model X.prog X.w) X.A (exec st X.env) (SP X N D) X.xe s
def PSs(X:Cx)(st:List Stmt)(t:TS):Prop:=
 ∀(N:List (Addr×Obj)) (s:Shared) (σ:St) (H:Hp) (D:Ends),Inv X N σ H s->t D σ H->wpAny (model X.prog X.w) X.A (execs st X.env) (SP X N D) X.xe s
theorem thn{α:Type}{t:Sem α}{Q Q':α->Shared->Prop}{M:Model}{A:Around}{E:Value->Shared->Prop}{s:Shared}(h:wpAny M A t Q E s)(hQ:∀a s,Q a s->Q' a s):wpAny M A t Q' E s:=wpAny_mono h hQ λ_ _ x=>x
section
inductive tVar(i:Nat)(σ:St)(H:Hp)(Q:VK):Prop
 |mk:∀v,(σ[i]? =some (some v))->(Q v H)->tVar i σ H Q
def tC(v:V):TE:=λ_ H Q=>Q v H
theorem cqZ{X:Cx}{i:Nat}{x:Str}(hN:X.N[i]? =some x)(hv:Vis X.env.scope x)(hd:(x==("__debug__":Str))=false:=by decide)(hcd:(x==("__classdict__":Str))=false:=by decide):PE X (.Name x pos) (tVar i):=by
 intro b s σ H Q I h;obtain⟨v,e,h⟩:=h;obtain⟨m,hn,hl⟩:=I.loc;obtain⟨u,r,l⟩:=hl i x v hN e hv;have d:EP X b σ Q u s:=⟨v,H,I,r,h⟩;rcases l with⟨hk,hm⟩|⟨hk,c,hc,a⟩
 ·exact wpAny_Name (wpAny_loadName_local I.ok.kind hk hn hm d) hd
 ·rcases hk with hk|hk
  ·exact wpAny_Name (wpAny_loadName_cell I.ok.kind hk hc a d) hd
  ·exact wpAny_Name (wpAny_loadName_free I.ok.kind hk hc a d hcd) hd
theorem A6{i j pos}:PE X (.Constant (.int i) j pos) (tC (.int i)):=λ_ _ _ H _ I h=>wpAny_Constant_int ⟨.int i,H,I.tok _,⟨_,rfl⟩,h⟩
theorem K2{b j pos}:PE X (.Constant (.bool b) j pos) (tC (.bl b)):=λ_ _ _ H _ I h=>Constant_bool ⟨.bl b,H,I,rfl,h⟩
theorem G9{j pos}:PE X (.Constant .none j pos) (tC .non):=λ_ _ _ H _ I h=>Constant_none ⟨.non,H,I,rfl,h⟩
theorem B0{x j pos}:PE X (.Constant (.str x) j pos) (tC (.str x)):=λ_ _ _ H _ I h=>Calls.Constant_str ⟨.str x,H,I.tok _,⟨_,rfl⟩,h⟩
def Gl(X:Cx)(x:Str):Prop:=X.env.kindOf x=some .globalImplicit
theorem AA{H:Hp}{u:Value}{Q:Value->Shared->Prop}(I:Inv X N σ H s)(hg:Gl X x)(hm:X.mg x=some u)(h:Q u s)
  (hd:(x==("__debug__":Str))=false:=by decide):wpAny (model X.prog X.w) X.A (eval (.Name x pos) X.env) Q E s:=
 Calls.Name_function_global I.ok.kind hg (Calls.loadGlobal_global (by rw[I.ok.glob];exact I.mod.glob.keeps I.bk) hm h) hd
theorem U9{H:Hp}{u:Value}{Q:Value->Shared->Prop}(I:Inv X N σ H s)(hg:Gl X x)(hm:X.mg x=none)(hv:bootBuiltins x=some u)(h:Q u s)
  (hn:x≠ "__name__":=by decide)(hd:(x==("__debug__":Str))=false:=by decide):wpAny (model X.prog X.w) X.A (eval (.Name x pos) X.env) Q E s:=by
 obtain⟨mb,h1,h2⟩:=I.mod.blt;exact Calls.Name_function_global I.ok.kind hg (Calls.loadGlobal_builtin (by rw[I.ok.glob];exact I.mod.glob.keeps I.bk) hm (by rw[I.ok.blt];exact h1.keeps I.bk) ((h2 x hn).trans hv) h) hd
theorem D7{u:Value}(hg:Gl X x)(hm:X.mg x=some u)(r:RelV v u)(hd:(x==("__debug__":Str))=false:=by decide):PE X (.Name x pos) (tC v):=
 λ_ _ _ H _ I h=>AA I hg hm ⟨v,H,I,r,h⟩ hd
theorem N7{u:Value}(hg:Gl X x)(hm:X.mg x=none)(hv:bootBuiltins x=some u)(r:RelV v u)(hn:x≠ "__name__":=by decide)(hd:(x==("__debug__":Str))=false:=by decide):PE X (.Name x pos) (tC v):=
 λ_ _ _ H _ I h=>U9 I hg hm hv ⟨v,H,I,r,h⟩ hn hd
def fnZ(t u:TT):TT:=fun σ H Q=>t σ H λc H1=>if c=true then u σ H1 Q else Q false H1
def tOr(t u:TT):TT:=fun σ H Q=>t σ H λc H1=>if c=true then Q true H1 else u σ H1 Q
def fuZ(t:TT):TT:=fun σ H Q=>t σ H λc H1=>Q (!c) H1
theorem O6(ha:PT X a tA):PW X (.BoolOp .And [a] pos) tA:=by
 intro wh b s σ H Q I h;refine isTrue_and (thn (ha b s σ H Q I h) λc s1 e=> ?_);cases c with
 |true=>exact isTrue_and_nil e
 |false=>exact e
theorem AZ(ha:PT X a tA):PW X (.BoolOp .Or [a] pos) tA:=by
 intro wh b s σ H Q I h;refine isTrue_or (thn (ha b s σ H Q I h) λc s1 e=> ?_);cases c with
 |false=>exact isTrue_or_nil e
 |true=>exact e
theorem R5{b:Expr}{rest:List Expr}(ha:PT X a tA)(hb:PW X (.BoolOp .And (b::rest) pos) tB'):PW X (.BoolOp .And (a::b::rest) pos) (fnZ tA tB'):=by
 intro wh d s σ H Q I h;refine isTrue_and (thn (ha d s σ H _ I h) λc s1 ⟨H1,I1,q1⟩=> ?_);cases c with
 |true=>exact hb wh d s1 σ H1 Q I1 q1
 |false=>exact⟨H1,I1,q1⟩
theorem V6{b:Expr}{rest:List Expr}(ha:PT X a tA)(hb:PW X (.BoolOp .Or (b::rest) pos) tB'):PW X (.BoolOp .Or (a::b::rest) pos) (tOr tA tB'):=by
 intro wh d s σ H Q I h;refine isTrue_or (thn (ha d s σ H _ I h) λc s1 ⟨H1,I1,q1⟩=> ?_);cases c with
 |true=>exact⟨H1,I1,q1⟩
 |false=>exact hb wh d s1 σ H1 Q I1 q1
theorem HD(ha:PT X a tA):PT X (.UnaryOp .Not a pos) (fuZ tA):=by
 intro b s σ H Q I h;exact isTrue_not (ha b s σ H (λc H1=>Q (!c) H1) I h)
def eQZ(ta tb:TE):TE:=fun σ H Q=>ta σ H λx H1=>∃c,x=.bl c/\if c=true then tb σ H1 Q else Q (.bl false) H1
def flZ(ta tb:TE):TE:=fun σ H Q=>ta σ H λx H1=>∃c,x=.bl c/\if c=true then Q (.bl true) H1 else tb σ H1 Q
def edZ(ta:TE):TE:=fun σ H Q=>ta σ H λx H1=>∃c,x=.bl c/\Q (.bl (!c)) H1
theorem BG{op}(h:PE X a t):PE X (.BoolOp op [a] pos) t:=λb s σ H Q I hw=>BoolOp_one (h b s σ H Q I hw)
theorem BC{b:Expr}{rest:List Expr}(ha:PE X a ta)(hb:PE X (.BoolOp .And (b::rest) pos) tb):PE X (.BoolOp .And (a::b::rest) pos) (eQZ ta tb):=by
 intro d s σ H Q I h;refine BoolOp_and (thn (ha d s σ H _ I h) λv s1 ⟨x,H1,I1,r1,q1⟩=> ?_);obtain⟨c,rfl,q1⟩:=q1;cases r1;refine wpAny_truthy_bool ?_;cases c with
 |true=>exact hb d s1 σ H1 Q I1 q1
 |false=>exact⟨.bl false,H1,I1,rfl,q1⟩
theorem e9Z{b:Expr}{rest:List Expr}(ha:PE X a ta)(hb:PE X (.BoolOp .Or (b::rest) pos) tb):PE X (.BoolOp .Or (a::b::rest) pos) (flZ ta tb):=by
 intro d s σ H Q I h;refine BoolOp_or (thn (ha d s σ H _ I h) λv s1 ⟨x,H1,I1,r1,q1⟩=> ?_);obtain⟨c,rfl,q1⟩:=q1;cases r1;refine wpAny_truthy_bool ?_;cases c with
 |false=>exact hb d s1 σ H1 Q I1 q1
 |true=>exact⟨.bl true,H1,I1,rfl,q1⟩
theorem HC(ha:PE X a ta):PE X (.UnaryOp .Not a pos) (edZ ta):=by
 intro b s σ H Q I h;refine UnaryOp_ (thn (ha b s σ H _ I h) λv s1 ⟨x,H1,I1,r1,q1⟩=> ?_);obtain⟨c,rfl,q1⟩:=q1;cases r1;exact not_of (wpAny_truthy_bool ⟨.bl (!c),H1,I1,rfl,q1⟩)
def tIf(t:TT)(ta tb:TE):TE:=fun σ H Q=>t σ H λc H1=>if c=true then ta σ H1 Q else tb σ H1 Q
theorem J6(hc:PT X c tA)(ha:PE X a ta)(hb:PE X b tb):PE X (.IfExp c a b pos) (tIf tA ta tb):=by
 intro e s σ H Q I h;refine wpAny_IfExp (thn (hc e s σ H _ I h) λd s1 ⟨H1,I1,q1⟩=> ?_);cases d with
 |true=>exact ha e s1 σ H1 Q I1 q1
 |false=>exact hb e s1 σ H1 Q I1 q1
end
def SqL(Z:FZ)(H:Hp)(a:Addr)(xs:List V):Prop:=
 Rd H a (.lst xs)\/
  ∃(o:Obj) (its:Array Value) (n:Nat),Z.lookup a=some o/\o.cls=.type "list"/\o.dict=none/\o.data=.seq its n/\its.size<=sizeLine/\Vals xs its.toList
def SqT(Z:FZ)(H:Hp)(a:Addr)(xs:List V):Prop:=
 Rd H a (.tup xs)\/
  ∃(o:Obj) (its:Array Value) (n:Nat),Z.lookup a=some o/\o.cls=.type "tuple"/\o.data=.seq its n/\its.size<=sizeLine/\Vals xs its.toList
noncomputable def fdZ:Value->Option V
 | .none=>some .non
 | .bool b=>some (.bl b)
 | .int i _=>some (.int i)
 | .str x _=>some (.str x)
 | .bytes b _=>some (.byt b)
 | .float b _=>some (.flt b)
 | .ref a=>some (.ref a)
 | .type n=>some (.ty n)
 |_=>none
theorem RelV.abs(r:RelV x u):fdZ u=some x:=by
 cases x with
 |non=>cases r;rfl
 |bl _=>cases r;rfl
 |int _=>obtain⟨t,rfl⟩:=r;rfl
 |str _=>obtain⟨t,rfl⟩:=r;rfl
 |byt _=>obtain⟨t,rfl⟩:=r;rfl
 |flt _=>obtain⟨t,rfl⟩:=r;rfl
 |ref _=>cases r;rfl
 |ty _=>cases r;rfl
theorem RelV.inj(r:RelV x u)(q:RelV y u):x=y:=sJ (r.abs.symm.trans q.abs)
theorem Vals.inj:∀ {xs ys:List V} {us:List Value},Vals xs us->Vals ys us->xs=ys
 |_,_,_,.nil,.nil=>rfl
 |_,_,_,.cons r t,.cons r' t'=>by rw[r.inj r',Vals.inj t t']
section
theorem SqL.of{H:Hp}{a:Addr}(h:H a=some (.lst xs)):SqL Z H a xs:=.inl (.inl h)
theorem SqT.of{H:Hp}{a:Addr}(h:H a=some (.tup xs)):SqT Z H a xs:=.inl (.inl h)
theorem Inv.list{H:Hp}(I:Inv X N σ H s)(h:SqL X.K H a xs):∃its:List Value,Vals xs its/\PlainL s.heap a its.toArray/\xs.length<=sizeLine:=by
 rcases h with h|⟨o,its,n,hk,hc,hd,hs,hz,r⟩
 ·obtain⟨z,its,n,r,e⟩:=h.ok I.hok;exact⟨its,r,⟨_,n,e,rfl,rfl,rfl⟩,z⟩
 ·refine⟨its.toList,r,⟨o,n,I.kIn a o hk,hc,hd,by simpa using hs⟩, ?_⟩;have e:=r.length;simp only[Array.length_toList]at e;omega
theorem Inv.tuple{H:Hp}(I:Inv X N σ H s)(h:SqT X.K H a xs):∃its:List Value,Vals xs its/\IsTup s.heap a its.toArray/\xs.length<=sizeLine:=by
 rcases h with h|⟨o,its,n,hk,hc,hs,hz,r⟩
 ·obtain⟨z,its,r,p⟩:=h.ok I.hok;exact⟨its,r,p,z⟩
 ·refine⟨its.toList,r,⟨o,I.kIn a o hk,hc,n,by simpa using hs⟩, ?_⟩;have e:=r.length;simp only[Array.length_toList]at e;omega
theorem Inv.list_inj{H:Hp}(I:Inv X N σ H s)(h:SqL X.K H a xs)(h':SqL X.K H a ys):xs=ys:=by
 obtain⟨c,r,⟨o,n,e,_,_,d⟩,_⟩:=I.list h;obtain⟨b,r',⟨o',n',e',_,_,d'⟩,_⟩:=I.list h';rw[e]at e';cases e';rw[d]at d';injection d' with d1 _
 have:c=b:=by simpa using congrArg Array.toList d1
 subst this;exact r.inj r'
theorem Inv.tuple_inj{H:Hp}(I:Inv X N σ H s)(h:SqT X.K H a xs)(h':SqT X.K H a ys):xs=ys:=by
 obtain⟨c,r,⟨o,e,_,n,d⟩,_⟩:=I.tuple h;obtain⟨b,r',⟨o',e',_,n',d'⟩,_⟩:=I.tuple h';rw[e]at e';cases e';rw[d]at d';injection d' with d1 _
 have:c=b:=by simpa using congrArg Array.toList d1
 subst this;exact r.inj r'
end
noncomputable abbrev Cx.wish(X:Cx)(E:Value->Shared->Prop):Cx:={X with xe:=E}
noncomputable abbrev Cx.nox(X:Cx):Cx:=X.wish λ_ _=>False
theorem Cx.Ok.wish{X:Cx}(ok:X.Ok)(E:Value->Shared->Prop):(X.wish E).Ok:=
 ⟨ok.mod,ok.kind,ok.glob,ok.blt,ok.above,ok.inj,ok.has,ok.cab,ok.hd,ok.frames,ok.stk,ok.exf,ok.bs,ok.bsz,ok.noex,ok.exfs,ok.funs,ok.frf⟩
theorem Cx.Ok.unwish{X:Cx}(ok:(X.wish E).Ok):X.Ok:=
 ⟨ok.mod,ok.kind,ok.glob,ok.blt,ok.above,ok.inj,ok.has,ok.cab,ok.hd,ok.frames,ok.stk,ok.exf,ok.bs,ok.bsz,ok.noex,ok.exfs,ok.funs,ok.frf⟩
section
theorem Inv.wish{H:Hp}(I:Inv X N σ H s)(E:Value->Shared->Prop):Inv (X.wish E) N σ H s:=⟨I.ok.wish E,I.os,I.bare,I.qB,I.loc,I.cell,I.free,I.freeC,I.pin,I.hok,I.len⟩
theorem Inv.unwish{X:Cx}{H:Hp}(I:Inv (X.wish E) N σ H s):Inv X N σ H s:=⟨I.ok.unwish,I.os,I.bare,I.qB,I.loc,I.cell,I.free,I.freeC,I.pin,I.hok,I.len⟩
theorem SP.unwish{X:Cx}(h:SP (X.wish E) N D f s'):SP X N D f s':=by
 cases f with
 |next=>obtain⟨σ',H',I,q⟩:=h;exact⟨σ',H',I.unwish,q⟩
 |brk=>obtain⟨σ',H',I,q⟩:=h;exact⟨σ',H',I.unwish,q⟩
 |cont=>obtain⟨σ',H',I,q⟩:=h;exact⟨σ',H',I.unwish,q⟩
 |ret u=>obtain⟨v,σ',H',I,r,q⟩:=h;exact⟨v,σ',H',I.unwish,r,q⟩
theorem PSs.nox{X:Cx}{st:List Stmt}(h:PSs X.nox st t):PSs X st t:=λa s σ H D I hw=>
 wpAny_mono (h a s σ H D (I.wish _) hw) (λ_ _ q=>q.unwish) λ_ _ z=>False.elim z
def ekZ:TS:=λD σ H=>D.nx σ H
def AX(t u:TS):TS:=λD σ H=>t {D with nx:=u D} σ H
theorem C0:PSs X [] ekZ:=λ_ _ σ H _ I h=>wpAny_execs_nil ⟨σ,H,I,h⟩
theorem A7{st:Stmt}(h1:PS X st t)(h2:PSs X rest u):PSs X (st::rest) (AX t u):=by
 intro a s σ H D I h;refine wpAny_execs_cons (thn (h1 a s σ H {D with nx:=u D} I h) λf s1 q=> ?_);cases f with
 |next=>
  obtain⟨σ',H',I',q⟩:=q;exact h2 a s1 σ' H' D I' q
 |ret v=>exact q
 |brk=>exact q
 |cont=>exact q
theorem A8{st:Stmt}(h1:PS X st t):PSs X [st] t:=by
 intro a s σ H D I h;refine wpAny_execs_cons (thn (h1 a s σ H D I h) λf s1 q=> ?_);cases f with
 |next=>exact wpAny_execs_nil q
 |ret v=>exact q
 |brk=>exact q
 |cont=>exact q
theorem Inv.quiet{H:Hp}(I:Inv X N σ H s):interactive X.env=false:=by simp[interactive,I.ok.kind]
def d5Z(te:TE):TS:=λD σ H=>te σ H λ_ H1=>D.nx σ H1
theorem E4{pos:Pos}(he:PE X e te)(hs:swapsWith e none pos.line X.env=pure false:=by rfl):PS X (.Expr e pos) (d5Z te):=by
 intro a s σ H D I h;exact wpAny_Expr_any (thn (he a s σ H _ I h) λv s1 ⟨x,H1,I1,r1,q1⟩=>⟨σ,H1,I1,q1⟩) I.quiet hs
def fzZ(te:TE):TS:=λD σ H=>te σ H D.rt
theorem B6(he:PE X e te):PS X (.Return (some e) pos) (fzZ te):=by
 intro a s σ H D I h;exact wpAny_Return_some (thn (he a s σ H _ I h) λv s1 ⟨x,H1,I1,r1,q1⟩=>⟨x,σ,H1,I1,r1,q1⟩)
def dZZ:TS:=λD _ H=>D.rt .non H
theorem aYZ:PS X (.Return none pos) dZZ:=λ_ _ σ H _ I h=>wpAny_Return_none ⟨.non,σ,H,I,rfl,h⟩
def fmZ(c:TT)(t u:TS):TS:=λD σ H=>c σ H λb H1=>if b=true then t D σ H1 else u D σ H1
theorem C2(hc:PT X c tc)(ha:PSs X a t)(hb:PSs X b u):PS X (.If c a b pos) (fmZ tc t u):=by
 intro e s σ H D I h;refine wpAny_If (thn (hc e s σ H _ I h) λd s1 ⟨H1,I1,q1⟩=> ?_);cases d with
 |true=>exact ha e s1 σ H1 D I1 q1
 |false=>exact hb e s1 σ H1 D I1 q1
end
abbrev TG:=V->St->Hp->(St->Hp->Prop)->Prop
abbrev TGs:=List V->St->Hp->(St->Hp->Prop)->Prop
def PG(X:Cx)(target:Expr)(t:TG):Prop:=
 ∀(N:List (Addr×Obj)) (s:Shared) (σ:St) (H:Hp) (v:V) (u:Value) (Q:St->Hp->Prop),Inv X N σ H s->RelV v u->t v σ H Q->
  wpAny (model X.prog X.w) X.A (assign target X.env u) (λ_ s'=>∃σ' H',Inv X N σ' H' s'/\Q σ' H') X.xe s
def PGs(X:Cx)(ts:List Expr)(t:TGs):Prop:=
 ∀(N:List (Addr×Obj)) (s:Shared) (σ:St) (H:Hp) (vs:List V) (us:List Value) (Q:St->Hp->Prop),Inv X N σ H s->Vals vs us->t vs σ H Q->
  wpAny (model X.prog X.w) X.A (assignInOrder ((assignEach ts X.env).map (·.2)) us) (λ_ s'=>∃σ' H',Inv X N σ' H' s'/\Q σ' H') X.xe s
abbrev dmZ:=V->V->V->Hp->(Hp->Prop)->Prop
def ccZ(X:Cx)(t:dmZ):Prop:=
 ∀(N:List (Addr×Obj)) (s:Shared) (σ:St) (H:Hp) (o i v:V) (ov iv u:Value) (Q:Hp->Prop),Inv X N σ H s->RelV o ov->RelV i iv->RelV v u->t o i v H Q->
  wpAny (model X.prog X.w) X.A (setItem ov iv u) (λ_ s'=>∃H',Inv X N σ H' s'/\Q H') X.xe s
abbrev TIp:=V->V->Hp->VK->Prop
def PIp(X:Cx)(op:Operator)(t:TIp):Prop:=
 ∀(N:List (Addr×Obj)) (s:Shared) (σ:St) (H:Hp) (x y:V) (v u:Value) (Q:VK),Inv X N σ H s->RelV x v->RelV y u->t x y H Q->
  wpAny (model X.prog X.w) X.A (inplaceOp op v u) (EP X N σ Q) X.xe s
section
def S0(i:Nat):TG:=λv σ H Q=>Q (σ.set i (some v)) H
theorem IA{i:Nat}{x:Str}(hN:X.N.Nodup)(hi:X.N[i]? =some x)(hx:Loc X.env.scope x)(hf:X.fn x=true\/X.env.scope.names.lookup x=some .local:=by first|exact .inl rfl|exact .inr rfl|assumption):PG X (.Name x pos) (S0 i):=by
 intro a s σ H v u Q I r h;exact wpAny_assign_Name (Z9 I hN hi hx r (λs' I'=>⟨_,H,I',h⟩) hf)
def eVZ:TGs:=λvs σ H Q=>vs=[]/\Q σ H
def XL(t:TG)(u:TGs):TGs:=λvs σ H Q=>∃v r,vs=v::r/\t v σ H fun σ' H'=>u r σ' H' Q
theorem HM:PGs X [] eVZ:=by
 intro a s σ H vs us Q I r h;obtain⟨e,h⟩:=h;subst e;cases r;exact assignInOrder_nil ⟨σ,H,I,h⟩
theorem Q0(h1:PG X e t)(h2:PGs X es u)
  (hs:(assignEach (e::es) X.env).map (·.2)=assign e X.env::(assignEach es X.env).map (·.2):=by rfl):PGs X (e::es) (XL t u):=by
 intro a s σ H vs us Q I r h;obtain⟨v,vr,e1,h⟩:=h;subst e1;cases r with
 |cons r rr=>
  rw[hs];refine assignInOrder_cons (thn (h1 a s σ H _ _ _ I r h) λ_ s1 ⟨σ1,H1,I1,q1⟩=> ?_);exact h2 a s1 σ1 H1 _ _ Q I1 rr q1
def e0Z(Z:FZ)(n:Nat)(t:TGs):TG:=λv σ H Q=>∃a xs,v=.ref a/\SqT Z H a xs/\xs.length=n/\t xs σ H Q
theorem PD{X:Cx}{n:Nat}(hc:X.calm=true)(h:PGs X es t)
  (hn:(assignEach es X.env).length=n:=by rfl)(hst:(assignEach es X.env).findIdx? (·.1)=none:=by rfl):PG X (.Tuple es k pos) (e0Z X.K n t):=by
 intro c s σ H v u Q I r hw;obtain⟨a,xs,e1,hq,hl,hw⟩:=hw;subst e1;cases r;obtain⟨d,rv,ht,hz⟩:=I.tuple hq;refine assign_Tuple_tuple (I.ok.hd hc) ht (by simp[hn,<-hl,rv.length]) hst λh' hx=> ?_;have I1:Inv X c σ H {s with heap:=h'}:=I.kept (t':=s.toks) λb o e=>hx b o (ne_of_lt (lt_size e)) e;exact h c _ σ H xs _ Q I1 (by simpa using rv) hw
def frZ(to ti:TE)(t:dmZ):TG:=λv σ H Q=>to σ H λo H1=>ti σ H1 λi H2=>t o i v H2 λH3=>Q σ H3
theorem P1(ho:PE X o to)(hi:PE X i ti)(hs:ccZ X t)
  (ha:∀v,assign (.Subscript o i pos) X.env v=(do
   let ov<-holding [v] (eval o X.env);let iv<-holding [v,ov] (eval i X.env)
   standAt pos
   holding [v,ov,iv] (setItem ov iv v)
   release [v,ov,iv] []):=by intro _;rfl):PG X (.Subscript o i pos) (frZ to ti t):=by
 intro a s σ H v u Q I r h;rw[ha];refine bZ (wpAny_holding (thn (ho a s σ H _ I h) λov s1 ⟨x,H1,I1,r1,q1⟩=> ?_));refine bZ (wpAny_holding (thn (hi a s1 σ H1 _ I1 q1) λiv s2 ⟨y,H2,I2,r2,q2⟩=> ?_));refine bZ (wpAny_standAt (bZ (wpAny_holding (thn (hs a s2 σ H2 x y v ov iv u _ I2 r1 r2 r q2) λ_ s3 ⟨H3,I3,q3⟩=> ?_))));exact wpAny_release ⟨σ,H3,I3,q3⟩
def aWZ(te:TE)(g:TG):TS:=λD σ H=>te σ H λx H1=>g x σ H1 D.nx
theorem P0{pos:Pos}(he:PE X e te)(hg:PG X tg g)(hs:swapsWithSole [tg] e pos.line X.env=pure false:=by rfl)(hw:swappedStores [tg] e X.env=pure none:=by rfl)
  (h1:(assignEach [tg] X.env).map (·.2)=[assign tg X.env]:=by rfl):PS X (.Assign [tg] e pos) (aWZ te g):=by
 intro a s σ H D I h;refine wpAny_Assign_stores (thn (he a s σ H _ I h) λv s1 ⟨x,H1,I1,r1,q1⟩=> ?_) hs hw;rw[h1];exact thn (hg a s1 σ H1 x v _ I1 r1 q1) λ_ s2 q=>q
theorem W9{X:Cx}{pos:Pos}{i:Nat}{x:Str}(hN:X.N.Nodup)(hi:X.N[i]? =some x)(hx:Loc X.env.scope x)(he:PE X e te)(hs:swapsWith e (some (.Name x pos')) pos.line X.env=pure false:=by rfl)(hf:X.fn x=true\/X.env.scope.names.lookup x=some .local:=by first|exact .inl rfl|exact .inr rfl|assumption):
  PS X (.Assign [.Name x pos'] e pos) (aWZ te (S0 i)):=by
 intro a s σ H D I h;refine wpAny_Assign_Name (thn (he a s σ H _ I h) λv s1 ⟨y,H1,I1,r1,q1⟩=> ?_) hs;exact Z9 I1 hN hi hx r1 (λs2 I2=>⟨_,H1,I2,q1⟩) hf
def fFZ(i:Nat)(te:TE)(ti:TIp):TS:=λD σ H=>∃x,σ[i]? =some (some x)/\te σ H λy H1=>ti x y H1 λz H2=>D.nx (σ.set i (some z)) H2
theorem cZZ{X:Cx}{i:Nat}{x:Str}(hN:X.N.Nodup)(hi:X.N[i]? =some x)(hx:Loc X.env.scope x)(he:PE X e te)(ho:PIp X op ti)(hf:X.fn x=true\/X.env.scope.names.lookup x=some .local:=by first|exact .inl rfl|exact .inr rfl|assumption):
  PS X (.AugAssign (.Name x pos') op e pos) (fFZ i te ti):=by
 intro a s σ H D I h;obtain⟨v,e1,h⟩:=h;obtain⟨m,hn,hl⟩:=I.loc;have d:Vis X.env.scope x:=by rcases hx with k|k;exact .inl k;exact .inr (.inl k)
 obtain⟨u,r,l⟩:=hl i x v hi e1 d;refine wpAny_AugAssign_Name ?_;have go:wpAny (model X.prog X.w) X.A (eval e X.env) (λw s₂=>wpAny (model X.prog X.w) X.A (inplaceOp op u w) (λr s₃=>wpAny (model X.prog X.w) X.A (storeName X.env x r) (λ_=>SP X a D .next) X.xe s₃) X.xe s₂) X.xe s:=by
  refine thn (he a s σ H _ I h) λw s1 ⟨y,H1,I1,r1,q1⟩=> ?_;refine thn (ho a s1 σ H1 v y u w _ I1 r r1 q1) λz s2 ⟨zv,H2,I2,r2,q2⟩=> ?_;exact Z9 I2 hN hi hx r2 (λs3 I3=>⟨_,H2,I3,q2⟩) hf
 rcases l with⟨hk,hm⟩|⟨hk,c,hc,b⟩
 ·exact wpAny_loadName_local I.ok.kind hk hn hm go
 ·rcases hk with hk|hk
  ·exact wpAny_loadName_cell I.ok.kind hk hc b go
  ·rcases hx with k|k
   ·have:X.env.scope.names.lookup x=some .free:=hk;rw[k]at this;cases this
   ·have:X.env.scope.names.lookup x=some .free:=hk;rw[k]at this;cases this
def ipI(f:Int->Int->Int):TIp:=λx y H Q=>∃i j,x=.int i/\y=.int j/\Q (.int (f i j)) H
theorem dtZ:PIp X .Add (ipI λi j=>i+j):=by
 intro a s σ H x y v u Q I r1 r2 h;obtain⟨i,j,e1,e2,q⟩:=h;subst e1;subst e2;obtain⟨t,rfl⟩:=r1;obtain⟨t',rfl⟩:=r2;exact iadd_int ⟨.int _,H,I.tok _,⟨_,rfl⟩,q⟩
def ctZ(c:TT)(tb:TS):TS:=λD σ H=>∃W:Nat->St->Hp->Prop,(∃m,W m σ H)/\∀m σ H,W m σ H->
 c σ H λb H1=>if b=true then∃N:St->Hp->Prop,(∀σ' H',N σ' H'->∃m',m'<m/\W m' σ' H')/\tb {D with nx:=N,ct:=N,bk:=D.nx} σ H1 else D.nx σ H1
theorem Z7{X:Cx}(hp:PassesOwn (model X.prog X.w) X.A X.env X.xe)(hc:PT X c tc)(hb:PSs X body tb):PS X (.While c body [] pos) (ctZ tc tb):=by
 intro a s σ H D I h;obtain⟨W,⟨m0,w0⟩,d⟩:=h;refine wpAny_While (codeAny_whileLoop (λn s'=>∃σ' H',Inv X a σ' H' s'/\W n σ' H') ?_ m0 ⟨σ,H,I,w0⟩);rintro n s1 ⟨σ1,H1,I1,w1⟩;refine wpAny_passesOwn hp (thn (hc a s1 σ1 H1 _ I1 (d n σ1 H1 w1)) λb s2 ⟨H2,I2,q2⟩=> ?_);cases b with
 |true=>
  obtain⟨N,hN,q2⟩:=q2;rw[if_pos rfl];refine wpAny_passesOwn hp (thn (hb a s2 σ1 H2 _ I2 q2) λf s3 q3=> ?_);cases f with
  |next=>
   obtain⟨σ3,H3,I3,n3⟩:=q3;obtain⟨m',hm,w3⟩:=hN σ3 H3 n3;exact⟨m',hm,σ3,H3,I3,w3⟩
  |cont=>
   obtain⟨σ3,H3,I3,n3⟩:=q3;obtain⟨m',hm,w3⟩:=hN σ3 H3 n3;exact⟨m',hm,σ3,H3,I3,w3⟩
  |brk=>exact q3
  |ret v=>exact q3
 |false=>
  rw[if_neg nZ];exact wpAny_execs_nil ⟨σ1,H2,I2,q2⟩
end
structure It where
 go:Nat->Hp->Prop
 yld:Nat->Hp->V->Hp->Prop
 stop:Nat->Hp->Prop
def FG(X:Cx)(N:List (Addr×Obj))(H:Hp)(b:Addr):Prop:=
 H b=none/\b≠X.env.locals/\b∉X.fs/\(b∈X.ex\/X.s₀.heap.objs.size<=b)/\(∀x c,X.env.cells.lookup x=some c->c≠b)/\∀p∈X.pn++N,p.1≠b
theorem Inv.fpOk{H H':Hp}{b:Addr}(I:Inv X N σ H s)(hb:s.heap.objs.size<=b)(hn:H' b=none):FG X N H' b:=by
 refine⟨hn,Nat.ne_of_gt (lt_of_lt_of_le I.lt hb),I.nofs hb,.inr (le_trans I.sz hb),λx c e z=> ?_,λp hp z=> ?_⟩
 ·obtain⟨v,q⟩:=I.cell x c e;exact absurd (lt_of_lt_of_le q.lt (by rw[z];exact hb)) (lt_irrefl _)
 ·exact absurd (lt_of_lt_of_le (lt_size (I.pin p hp).1) (by rw[z];exact hb)) (lt_irrefl _)
structure Turn (P:Program) (w:World) (Z:FZ) (tg:Expr) (J:It) (fp:List Addr) (it:Addr) (tn:Nat->Heap->Prop):Prop where
 mem:it∈fp
 obj:∀i h,tn i h->∀b∈fp,∃o,h.get? b=some o/\∀v,o.data≠ .cell v
 keep:∀i h h',tn i h->(∀b∈fp,∀o,h.get? b=some o->h'.get? b=some o)->tn i h'
 item:∀(X:Cx),X.prog=P->X.w=w->X.K=Z->X.calm=true->∀(i:Nat) (N:List (Addr×Obj)) (s:Shared) (σ:St) (H:Hp) (E:Value->Shared->Prop),Inv X N σ H s->(∀b∈fp,FG X N H b)->tn i s.heap->J.go i H->
  wpAny (model P w) X.A (pyNext (.ref it)) (λr s1=>∃u,r=some u/\
   wpAny (model P w) X.A (letOwnedTupleGo tg (.ref it) u) (λ_ s2=>∃x H',Inv X N σ H' s2/\RelV x u/\J.yld i H x H'/\tn (i+1) s2.heap/\∀b∈fp,H' b=none) E s1) E s
 done:∀(X:Cx),X.prog=P->X.w=w->X.K=Z->X.calm=true->∀(i:Nat) (N:List (Addr×Obj)) (s:Shared) (σ:St) (H:Hp) (E:Value->Shared->Prop),Inv X N σ H s->(∀b∈fp,FG X N H b)->tn i s.heap->J.stop i H->
  wpAny (model P w) X.A (pyNext (.ref it)) (λr s1=>r=none/\Inv X N σ H s1) E s
 self:∀(A:Around) (i:Nat) (s:Shared) (Q:Value->Shared->Prop) (E:Value->Shared->Prop),tn i s.heap->Q (.ref it) s->wpAny (model P w) A (pyIter (.ref it)) Q E s
abbrev TI:=St->Hp->(It->Hp->Prop)->Prop
def PIE(X:Cx)(N:List (Addr×Obj))(σ:St)(tg:Expr)(R:It->Hp->Prop)(itv:Value)(s2:Shared):Prop:=
 ∃(it:Addr) (fp:List Addr) (tn:Nat->Heap->Prop) (J:It) (H':Hp),itv=.ref it/\Inv X N σ H' s2/\Turn X.prog X.w X.K tg J fp it tn/\tn 0 s2.heap/\(∀b∈fp,FG X N H' b)/\R J H'
def PI(X:Cx)(tg iter:Expr)(wi:TI):Prop:=
 ∀(N:List (Addr×Obj)) (s:Shared) (σ:St) (H:Hp) (R:It->Hp->Prop),Inv X N σ H s->wi σ H R->
  wpAny (model X.prog X.w) X.A (eval iter X.env) (λv s1=>wpAny (model X.prog X.w) X.A (pyIter v) (PIE X N σ tg R) X.xe s1) X.xe s
theorem RH{s:Shared}{it:Addr}{o:Obj}{Q:Unit->Shared->Prop}(ho:s.heap.get? it=some o)(hc:o.cls=.type n)(hd:o.data=.fields vs)
  (hn: ["enumerate","zip","dict_itemiterator","dict_reverseitemiterator","odict_iterator","itertools.zip_longest","itertools.pairwise"].contains n=false)(hQ:Q () s):wpAny M A (letOwnedTupleGo tg (.ref it) u) Q E s:=by
 unfold letOwnedTupleGo;cases tg<;>first
  |exact pZ hQ
  |(cases u<;>first
    |exact pZ hQ
    |(refine bZ (wpAny_load ho ?_)
      rw[hc,hd];show wpAny M A (if(["enumerate","zip","dict_itemiterator","dict_reverseitemiterator","odict_iterator","itertools.zip_longest","itertools.pairwise"].contains n&&vs[0]? ==some (rawInt _))=true then _ else _) Q E s;rw[if_neg (by intro h;rw[hn,Bool.false_and]at h;cases h)];exact pZ hQ))
def Itl(Z:FZ)(a:Addr):It:=
 ⟨λi H=>∃xs x,SqL Z H a xs/\xs[i]? =some x,λi H x H'=>H'=H/\∀xs,SqL Z H a xs->xs[i]? =some x,λi H=>∃xs,SqL Z H a xs/\xs.length<=i⟩
def Itt(Z:FZ)(a:Addr):It:=
 ⟨λi H=>∃xs x,SqT Z H a xs/\xs[i]? =some x,λi H x H'=>H'=H/\∀xs,SqT Z H a xs->xs[i]? =some x,λi H=>∃xs,SqT Z H a xs/\xs.length<=i⟩
def Itr(lo:Int)(n:Nat):It:=⟨λi _=>i<n,λi H x H'=>H'=H/\x=.int (lo+i),λi _=>n<=i⟩
theorem UI(a it:Addr):Turn P w Z tg (Itl Z a) [it] it (λi h=>h.IsListIter it a i) where
 mem:=by simp
 obj:=λi h st b hb=>by
  have e:b=it:=by simpa using hb
  subst e;obtain⟨o,e,c,d⟩:=st;exact⟨o,e,λv z=>by rw[d]at z;cases z⟩
 keep:=λi h h' st k=>st.at λo e=>k it (by simp) o e
 item:=by
  intro X hP hw hK hc i f s σ H E I hf st hg;subst hP hw hK;obtain⟨xs,x,hq,hx⟩:=hg;obtain⟨j,rv,p,hz⟩:=I.list hq;obtain⟨u,hu,ru⟩:=rv.get hx;obtain⟨f0,f1,f2,f3,f4,f5⟩:=hf it (by simp);refine wpAny_pyNext_list_item st p.isList (x:=u) (by simpa using hu) λh' g sb=> ?_;have I1:Inv X f σ H {s with heap:=h'}:=I.turned (t':=s.toks) (λb o hb e=>(sb.2 b hb).trans e) f0 f1 f3 f4 f5;obtain⟨o,e,c,d⟩:=id g;exact⟨u,rfl,RH (s:={s with heap:=h'}) e c d (by decide) ⟨x,H,I1,ru,⟨rfl,λys hy=>by rw[I.list_inj hy hq];exact hx⟩,g,λb hb=>(hf b hb).1⟩⟩
 done:=by
  intro X hP hw hK hc i f s σ H E I hf st hg;subst hP hw hK;obtain⟨xs,hq,hx⟩:=hg;obtain⟨j,rv,p,hz⟩:=I.list hq;obtain⟨f0,f1,f2,f3,f4,f5⟩:=hf it (by simp);have hl:=rv.length;exact wpAny_pyNext_list_end (I.ok.hd hc) st p.isList (by simp;omega) λh' eb=>⟨rfl,I.turned (t':=s.toks) (λb o hb e=>eb b o hb e) f0 f1 f3 f4 f5⟩
 self:=λ_ _ _ _ _ st h=>wpAny_pyIter_listiter st h
theorem OI(a it:Addr):Turn P w Z tg (Itt Z a) [it] it (λi h=>h.IsTupleIter it a i) where
 mem:=by simp
 obj:=λi h st b hb=>by
  have e:b=it:=by simpa using hb
  subst e;obtain⟨o,e,c,d⟩:=st;exact⟨o,e,λv z=>by rw[d]at z;cases z⟩
 keep:=λi h h' st k=>st.at λo e=>k it (by simp) o e
 item:=by
  intro X hP hw hK hc i f s σ H E I hf st hg;subst hP hw hK;obtain⟨xs,x,hq,hx⟩:=hg;obtain⟨g,rv,p,hz⟩:=I.tuple hq;obtain⟨u,hu,ru⟩:=rv.get hx;obtain⟨f0,f1,f2,f3,f4,f5⟩:=hf it (by simp);refine wpAny_pyNext_tuple_item st (show s.heap.IsTuple a g.toArray from p) (x:=u) (by simpa using hu) λh' j sb=> ?_;have I1:Inv X f σ H {s with heap:=h'}:=I.turned (t':=s.toks) (λb o hb e=>(sb.2 b hb).trans e) f0 f1 f3 f4 f5;obtain⟨o,e,c,d⟩:=id j;exact⟨u,rfl,RH (s:={s with heap:=h'}) e c d (by decide) ⟨x,H,I1,ru,⟨rfl,λys hy=>by rw[I.tuple_inj hy hq];exact hx⟩,j,λb hb=>(hf b hb).1⟩⟩
 done:=by
  intro X hP hw hK hc i f s σ H E I hf st hg;subst hP hw hK;obtain⟨xs,hq,hx⟩:=hg;obtain⟨g,rv,p,hz⟩:=I.tuple hq;obtain⟨f0,f1,f2,f3,f4,f5⟩:=hf it (by simp);have hl:=rv.length;exact wpAny_pyNext_tuple_end (I.ok.hd hc) st (show s.heap.IsTuple a g.toArray from p) (by simp;omega) λh' eb=>⟨rfl,I.turned (t':=s.toks) (λb o hb e=>eb b o hb e) f0 f1 f3 f4 f5⟩
 self:=λ_ _ _ _ _ st h=>wpAny_pyIter_tupleiter st h
theorem OS(it:Addr)(lo:Int)(n:Nat):Turn P w Z tg (Itr lo n) [it] it (λi h=>IsRangeIter h it (lo+(i:Nat)*1) ((n:Int) - (i:Nat)) 1) where
 mem:=by simp
 obj:=λi h st b hb=>by
  have e:b=it:=by simpa using hb
  subst e;exact⟨_,st,λv z=>by
   have z':Data.fields _=Data.cell v:=z;cases z'⟩
 keep:=λi h h' st k=>k it (by simp) _ st
 item:=by
  intro X hP hw hK hc i a s σ H E I hf st hg;subst hP hw hK;obtain⟨f0,f1,f2,f3,f4,f5⟩:=hf it (by simp);have W:=Walks.range (prog:=X.prog) (w:=X.w) (I.ok.hd hc) it lo 1 n;refine W.item i s _ _ hg st λv h' tk hv c kk=> ?_;obtain⟨t,rfl⟩:=hv;have I1:Inv X a σ H {s with heap:=h',toks:=tk}:=I.turned (λb o hb e=>kk b o (by simpa using hb) e) f0 f1 f3 f4 f5;refine⟨_,rfl,RH (s:={s with heap:=h',toks:=tk}) (n:="range_iterator") c rfl rfl (by decide) ⟨.int (lo+i),H,I1,⟨t, ?_⟩,⟨rfl,rfl⟩,c,λb hb=>(hf b hb).1⟩⟩;rw[Int.mul_one]
 done:=by
  intro X hP hw hK hc i a s σ H E I hf st hg;subst hP hw hK;obtain⟨f0,f1,f2,f3,f4,f5⟩:=hf it (by simp);exact wpAny_pyNext_range_end (I.ok.hd hc) st (by have:n<=i:=hg;omega) λh' eb=>⟨rfl,I.turned (t':=s.toks) (λb o hb e=>eb b o hb e) f0 f1 f3 f4 f5⟩
 self:=λ_ _ _ _ _ st h=>wpAny_pyIter_rangeiter st h
section
def bIZ(Z:FZ)(tl:TE):TI:=fun σ H R=>tl σ H λx H1=>∃a,x=.ref a/\(∃xs,SqL Z H1 a xs)/\R (Itl Z a) H1
def eRZ(Z:FZ)(tl:TE):TI:=fun σ H R=>tl σ H λx H1=>∃a,x=.ref a/\(∃xs,SqT Z H1 a xs)/\R (Itt Z a) H1
theorem aFZ(hl:PE X l tl):PI X tg l (bIZ X.K tl):=by
 intro c s σ H R I h;refine thn (hl c s σ H _ I h) λv s1 ⟨x,H1,I1,r1,q1⟩=> ?_;obtain⟨a,e,⟨xs,hq⟩,q⟩:=q1;subst e;cases r1;obtain⟨d,rv,p,hz⟩:=I1.list hq;refine wpAny_pyIter_list p.isList ?_;refine⟨s1.heap.objs.size,[s1.heap.objs.size],_,_,H1,rfl,I1.kept (t':=s1.toks) λb o e=>gZ _ e,UI a _,⟨_,get?_push_size _ rfl,rfl,rfl⟩,λb hb=> ?_,q⟩;have e:b=s1.heap.objs.size:=by simpa using hb
 subst e;exact I1.fpOk (le_refl _) (I1.hok.fresh (le_refl _))
theorem dvZ(hl:PE X l tl):PI X tg l (eRZ X.K tl):=by
 intro c s σ H R I h;refine thn (hl c s σ H _ I h) λv s1 ⟨x,H1,I1,r1,q1⟩=> ?_;obtain⟨a,e,⟨xs,hq⟩,q⟩:=q1;subst e;cases r1;obtain⟨d,rv,p,hz⟩:=I1.tuple hq;refine wpAny_pyIter_tuple (show s1.heap.IsTuple a d.toArray from p) ?_;refine⟨s1.heap.objs.size,[s1.heap.objs.size],_,_,H1,rfl,I1.kept (t':=s1.toks) λb o e=>gZ _ e,OI a _,⟨_,get?_push_size _ rfl,rfl,rfl⟩,λb hb=> ?_,q⟩;have e:b=s1.heap.objs.size:=by simpa using hb
 subst e;exact I1.fpOk (le_refl _) (I1.hok.fresh (le_refl _))
theorem ZO{tg:Expr}{H:Hp}{R:It->Hp->Prop}{lo hi:Int}{tk:Nat}(I:Inv X N σ H s)(h1: -(2^62)<=lo)(h2:lo<2^62)(h3: -(2^62)<=hi)(h4:hi<2^62)
  (q:R (Itr lo (hi - lo).toNat) H):wpAny (model X.prog X.w) X.A (pyIter (.ref s.heap.objs.size)) (PIE X N σ tg R) E {s with heap:=s.heap.push {cls:=.type "range",data:=.fields #[.int lo t,.int hi u,.int 1 v]},toks:=tk}:=by
 refine wpAny_pyIter_range (IsRange.new ..) (small_one h1 h2 h3 h4) ?_;have I1:Inv X N σ H {s with heap:=s.heap.push {cls:=.type "range",data:=.fields #[.int lo t,.int hi u,.int 1 v]},toks:=tk}:=I.kept λb o e=>gZ _ e;refine⟨(s.heap.push {cls:=.type "range",data:=.fields #[.int lo t,.int hi u,.int 1 v]}).objs.size,[(s.heap.push {cls:=.type "range",data:=.fields #[.int lo t,.int hi u,.int 1 v]}).objs.size],_,_,H,rfl,
  I1.kept (t':=tk) λb o e=>gZ _ e,OS _ lo (hi - lo).toNat, ?_,λb hb=> ?_,q⟩
 ·have e1:lo+((0:Nat):Int)*1=lo:=by simp
  have e2:(((hi - lo).toNat:Nat):Int) - ((0:Nat):Int)=Builtin.Range.rangeSize lo hi 1:=by rw[rangeSize_one];split<;>omega
  show IsRangeIter _ _ (lo+((0:Nat):Int)*1) ((((hi - lo).toNat:Nat):Int) - ((0:Nat):Int)) 1;rw[e1,e2];exact get?_push_size _ rfl
 ·have e:b=(s.heap.push {cls:=.type "range",data:=.fields #[.int lo t,.int hi u,.int 1 v]}).objs.size:=by simpa using hb
  subst e;exact I1.fpOk (le_refl _) (I1.hok.fresh (le_refl _))
def eXZ(ta:TA):TI:=fun σ H R=>ta σ H λvs H1=>∃j:Int,vs=[.int j]/\ -(2^62)<=j/\j<2^62/\R (Itr 0 j.toNat) H1
theorem F4{a:Expr}(hg:Gl X "range")(hm:X.mg "range"=none)(ha:PA X [a] ta)(hs:starEach [a] X.env=[(false,eval a X.env)]:=by rfl):PI X tg (.Call (.Name "range" p) [a] [] pos) (eXZ ta):=by
 intro b s σ H R I h;refine Call_ (U9 I hg hm boot_range (callWith_type1 (thn (ha pos b s σ H _ I h) λus s1 ⟨vs,H1,I1,r1,q1⟩=> ?_) hs rfl));obtain⟨j,e,q1,q2,q⟩:=q1;subst e;cases r1 with
 |cons r rr=>
  cases rr;obtain⟨t,rfl⟩:=r;exact call_range_1 (ZO I1 (by omega) (by omega) q1 q2 (by simpa using q))
def fkZ(wi:TI)(g:TG)(tb:TS):TS:=λD σ H=>wi σ H λJ H1=>∃W:Nat->Nat->St->Hp->Prop,(∃m,W 0 m σ H1)/\∀i m σ H,W i m σ H->
 (J.stop i H/\D.nx σ H)\/(J.go i H/\∃N:St->Hp->Prop,(∀σ' H',N σ' H'->∃m',m'<m/\W (i+1) m' σ' H')/\∀x H',J.yld i H x H'->g x σ H' fun σ2 H2=>tb {D with nx:=N,ct:=N,bk:=D.nx} σ2 H2)
def W7(fp:List Addr)(h:Heap):List (Addr×Obj):=fp.filterMap λb=>(h.get? b).map λo=>(b,o)
theorem M0{fp:List Addr}{h:Heap}{b:Addr}{o:Obj}(hb:b∈fp)(e:h.get? b=some o):(b,o)∈W7 fp h:=mem_filterMap.mpr ⟨b,hb,by rw[e];rfl⟩
theorem TY{p:Addr×Obj}(hp:p∈W7 fp h):p.1∈fp/\h.get? p.1=some p.2:=by
 obtain⟨b,hb,e⟩:=mem_filterMap.mp hp;cases q:h.get? b with
 |none=>rw[q]at e;cases e
 |some o=>
  rw[q]at e;have e':(b,o)=p:=sJ e;subst e';exact⟨hb,q⟩
theorem Inv.pinned{H:Hp}{fp:List Addr}(I:Inv X N σ H s)(hf:∀b∈fp,FG X N H b)(ho:∀b∈fp,∃o,s.heap.get? b=some o/\∀v,o.data≠ .cell v):Inv X (N++W7 fp s.heap) σ H s:=
 I.pins_of λp hp=>(mem_append.mp hp).elim (λz=>I.pin p (mem_append_right _ z)) λz=>by
  obtain⟨hb,e⟩:=TY z;obtain⟨f0,f1,f2,_⟩:=hf p.1 hb;obtain⟨o,e',d⟩:=ho p.1 hb;rw[e]at e';cases e';exact⟨e,f0,f1,f2,d⟩
theorem Inv.unpinned{N pl:List (Addr×Obj)}{H:Hp}(I:Inv X (N++pl) σ H s):Inv X N σ H s:=I.pins_of λp hp=>I.pin p (mem_append_right _ (mem_append_left _ hp))
theorem L4{X:Cx}(hp:PassesOwn (model X.prog X.w) X.A X.env X.xe)(hc:X.calm=true)(hi:PI X tg iter wi)(hg:PG X tg g)(hb:PSs X body tb)
  (hs:∀x,foldedSetIterable iter X.env x=pure x:=by intro _;rfl):PS X (.For tg iter body [] pos) (fkZ wi g tb):=by
 intro a s σ H D I h;refine wpAny_For (thn (hi a s σ H _ I h) λv s1 h1=>thn h1 λE s2 h2=> ?_) hs;obtain⟨it,fp,tn,J,H2,e,I2,T,z,f2,W,⟨m0,w0⟩,k⟩:=h2;subst e;have j:∀ {H':Hp},(∀b∈fp,H' b=none)->∀b∈fp,FG X a H' b:=λhn b hb=>⟨hn b hb,(f2 b hb).2⟩;refine codeAny_forLoop_any (λn s'=>∃i σ' H',Inv X a σ' H' s'/\tn i s'.heap/\(∀b∈fp,H' b=none)/\W i n σ' H') ?_ m0 ⟨0,σ,H2,I2,z,λb hb=>(f2 b hb).1,w0⟩;rintro n s3 ⟨i,σ3,H3,I3,t,y,w3⟩;rcases k i n σ3 H3 w3 with⟨l,qn⟩|⟨go,N,hN,p⟩
 ·refine wpAny_passesOwn hp (thn (T.done X rfl rfl rfl hc i a s3 σ3 H3 X.xe I3 (j y) t l) λr s4 ⟨hr,I4⟩=> ?_);subst hr;exact wpAny_execs_nil ⟨σ3,H3,I4,qn⟩
 ·refine wpAny_passesOwn hp (thn (T.item X rfl rfl rfl hc i a s3 σ3 H3 X.xe I3 (j y) t go) λr s4 ⟨u,hr,h4⟩=> ?_);subst hr;refine wpAny_passesOwn hp (thn h4 λ_ s5 ⟨x,H5,I5,r5,y5,q,B⟩=> ?_);have C:=I5.pinned (j B) (T.obj _ _ q);refine wpAny_passesOwn hp (thn (hg _ s5 σ3 H5 x u _ C r5 (p x H5 y5)) λ_ s6 ⟨σ6,H6,I6,q6⟩=> ?_);refine wpAny_passesOwn hp (thn (hb _ s6 σ6 H6 _ I6 q6) λf s7 q7=> ?_);have c:∀ {σ7:St} {H7:Hp},Inv X (a++W7 fp s5.heap) σ7 H7 s7->N σ7 H7->∃m,m<n/\∃i σ' H',Inv X a σ' H' s7/\tn i s7.heap/\(∀b∈fp,H' b=none)/\W i m σ' H':=λ{σ7 H7} I7 n7=>by
   obtain⟨m',hm,w7⟩:=hN σ7 H7 n7;refine⟨m',hm,i+1,σ7,H7,I7.unpinned,T.keep _ _ _ q λb hb o e=>(I7.pin (b,o) (mem_append_right _ (mem_append_right _ (M0 hb e)))).1,λb hb=> ?_,w7⟩;obtain⟨o,e,d⟩:=T.obj _ _ q b hb;exact(I7.pin (b,o) (mem_append_right _ (mem_append_right _ (M0 hb e)))).2.1
  cases f with
  |next=>obtain⟨σ7,H7,I7,n7⟩:=q7;exact c I7 n7
  |cont=>obtain⟨σ7,H7,I7,n7⟩:=q7;exact c I7 n7
  |brk=>obtain⟨σ7,H7,I7,q7⟩:=q7;exact⟨σ7,H7,I7.unpinned,q7⟩
  |ret v=>obtain⟨x7,σ7,H7,I7,r7,q7⟩:=q7;exact⟨x7,σ7,H7,I7.unpinned,r7,q7⟩
end
theorem U7{xs:List V}{g:TG}{tb:TS}{D:Ends}{σ:St}{H:Hp}(Pv:Nat->St->Hp->Prop)(h0:Pv 0 σ H)(hl:∀i σ H,i<=xs.length->Pv i σ H->SqL Z H a xs)
  (hs:∀i x σ H,xs[i]? =some x->Pv i σ H->g x σ H fun σ2 H2=>tb {D with nx:=Pv (i+1),ct:=Pv (i+1),bk:=D.nx} σ2 H2)(hd:∀σ H,Pv xs.length σ H->D.nx σ H):
  ∃W:Nat->Nat->St->Hp->Prop,(∃m,W 0 m σ H)/\∀i m σ H,W i m σ H->
   ((Itl Z a).stop i H/\D.nx σ H)\/((Itl Z a).go i H/\∃N:St->Hp->Prop,(∀σ' H',N σ' H'->∃m',m'<m/\W (i+1) m' σ' H')/\∀x H',(Itl Z a).yld i H x H'->g x σ H' fun σ2 H2=>tb {D with nx:=N,ct:=N,bk:=D.nx} σ2 H2):=by
 refine⟨λi m σ H=>m=xs.length - i/\i<=xs.length/\Pv i σ H,⟨xs.length,by simp,zero_le _,h0⟩, ?_⟩;rintro i m σ H ⟨rfl,hi,p⟩;have q:=hl i σ H hi p;by_cases b:i<xs.length
 ·refine .inr ⟨⟨xs,xs[i],q,by simp[b]⟩,Pv (i+1),fun σ' H' p'=>⟨xs.length - (i+1),by omega,rfl,b,p'⟩,λx H' y=> ?_⟩;obtain⟨e,y⟩:=y;subst e;exact hs i x σ _ (y xs q) p
 ·have e:i=xs.length:=by omega
  subst e;exact .inl ⟨⟨xs,q,le_refl _⟩,hd σ H p⟩
theorem aZZ{xs:List V}{g:TG}{tb:TS}{D:Ends}{σ:St}{H:Hp}(Pv:Nat->St->Hp->Prop)(h0:Pv 0 σ H)(hl:∀i σ H,i<=xs.length->Pv i σ H->SqT Z H a xs)
  (hs:∀i x σ H,xs[i]? =some x->Pv i σ H->g x σ H fun σ2 H2=>tb {D with nx:=Pv (i+1),ct:=Pv (i+1),bk:=D.nx} σ2 H2)(hd:∀σ H,Pv xs.length σ H->D.nx σ H):
  ∃W:Nat->Nat->St->Hp->Prop,(∃m,W 0 m σ H)/\∀i m σ H,W i m σ H->
   ((Itt Z a).stop i H/\D.nx σ H)\/((Itt Z a).go i H/\∃N:St->Hp->Prop,(∀σ' H',N σ' H'->∃m',m'<m/\W (i+1) m' σ' H')/\∀x H',(Itt Z a).yld i H x H'->g x σ H' fun σ2 H2=>tb {D with nx:=N,ct:=N,bk:=D.nx} σ2 H2):=by
 refine⟨λi m σ H=>m=xs.length - i/\i<=xs.length/\Pv i σ H,⟨xs.length,by simp,zero_le _,h0⟩, ?_⟩;rintro i m σ H ⟨rfl,hi,p⟩;have q:=hl i σ H hi p;by_cases b:i<xs.length
 ·refine .inr ⟨⟨xs,xs[i],q,by simp[b]⟩,Pv (i+1),fun σ' H' p'=>⟨xs.length - (i+1),by omega,rfl,b,p'⟩,λx H' y=> ?_⟩;obtain⟨e,y⟩:=y;subst e;exact hs i x σ _ (y xs q) p
 ·have e:i=xs.length:=by omega
  subst e;exact .inl ⟨⟨xs,q,le_refl _⟩,hd σ H p⟩
theorem N8{lo:Int}{n:Nat}{g:TG}{tb:TS}{D:Ends}{σ:St}{H:Hp}(Pv:Nat->St->Hp->Prop)(h0:Pv 0 σ H)
  (hs:∀i σ H,i<n->Pv i σ H->g (.int (lo+i)) σ H fun σ2 H2=>tb {D with nx:=Pv (i+1),ct:=Pv (i+1),bk:=D.nx} σ2 H2)(hd:∀σ H,Pv n σ H->D.nx σ H):
  ∃W:Nat->Nat->St->Hp->Prop,(∃m,W 0 m σ H)/\∀i m σ H,W i m σ H->
   ((Itr lo n).stop i H/\D.nx σ H)\/((Itr lo n).go i H/\∃N:St->Hp->Prop,(∀σ' H',N σ' H'->∃m',m'<m/\W (i+1) m' σ' H')/\∀x H',(Itr lo n).yld i H x H'->g x σ H' fun σ2 H2=>tb {D with nx:=N,ct:=N,bk:=D.nx} σ2 H2):=by
 refine⟨λi m σ H=>m=n - i/\i<=n/\Pv i σ H,⟨n,by simp,zero_le _,h0⟩, ?_⟩;rintro i m σ H ⟨rfl,hi,p⟩;by_cases a:i<n
 ·refine .inr ⟨a,Pv (i+1),fun σ' H' p'=>⟨n - (i+1),by omega,rfl,a,p'⟩,λx H' y=> ?_⟩;obtain⟨e,y⟩:=y;subst e y;exact hs i σ _ a p
 ·have e:i=n:=by omega
  subst e;exact .inl ⟨le_refl _,hd σ H p⟩
abbrev R2:=V->V->Hp->VK->Prop
def OpR(X:Cx)(f:Value->Value->Sem Value)(r:R2):Prop:=
 ∀(N:List (Addr×Obj)) (s:Shared) (σ:St) (H:Hp) (x y:V) (v u:Value) (Q:VK),Inv X N σ H s->RelV x v->RelV y u->r x y H Q->
  wpAny (model X.prog X.w) X.A (f v u) (EP X N σ Q) X.xe s
def UnR(X:Cx)(f:Value->Sem Value)(r:V->Hp->VK->Prop):Prop:=
 ∀(N:List (Addr×Obj)) (s:Shared) (σ:St) (H:Hp) (x:V) (v:Value) (Q:VK),Inv X N σ H s->RelV x v->r x H Q->
  wpAny (model X.prog X.w) X.A (f v) (EP X N σ Q) X.xe s
def CallR(X:Cx)(f:Value)(r:List V->Hp->VK->Prop):Prop:=
 ∀(N:List (Addr×Obj)) (s:Shared) (σ:St) (H:Hp) (xs:List V) (us:List Value) (Q:VK),Inv X N σ H s->Vals xs us->r xs H Q->
  wpAny (model X.prog X.w) X.A (call f us) (EP X N σ Q) X.xe s
def fIZ(X:Cx)(r:V->Hp->(Bool->Hp->Prop)->Prop):Prop:=
 ∀(N:List (Addr×Obj)) (s:Shared) (σ:St) (H:Hp) (x:V) (v:Value) (Q:Bool->Hp->Prop),Inv X N σ H s->RelV x v->r x H Q->
  wpAny (model X.prog X.w) X.A (truthy v) (TP X N σ Q) X.xe s
def tOp(r:R2)(ta tb:TE):TE:=fun σ H Q=>ta σ H λx H1=>tb σ H1 λy H2=>r x y H2 Q
def tUn(r:V->Hp->VK->Prop)(ta:TE):TE:=fun σ H Q=>ta σ H λx H1=>r x H1 Q
inductive rI (C:Int->Int->Prop) (g:Int->Int->V) (x:V) (y:V) (H:Hp) (Q:VK):Prop
 |mk:∀i j,(x=.int i)->(y=.int j)->(C i j)->(Q (g i j) H)->rI C g x y H Q
inductive rI0 (g:Int->Int->V) (x:V) (y:V) (H:Hp) (Q:VK):Prop
 |mk:∀i j,(x=.int i)->(y=.int j)->(Q (g i j) H)->rI0 g x y H Q
inductive rU (g:Int->V) (x:V) (H:Hp) (Q:VK):Prop
 |mk:∀i,(x=.int i)->(Q (g i) H)->rU g x H Q
section
theorem cSZ(ha:PE X a ta)(hb:PE X b tb){H:Hp}{R:V->V->Hp->Prop}(I:Inv X N σ H s)
  (h:ta σ H λx H1=>tb σ H1 λy H2=>R x y H2){Q:Value->Shared->Prop}{f:Value->Value->Sem Value}
  (hf:∀v u s2 x y H2,Inv X N σ H2 s2->RelV x v->RelV y u->R x y H2->wpAny (model X.prog X.w) X.A (f v u) Q X.xe s2):
  wpAny (model X.prog X.w) X.A (eval a X.env) (λv s₁=>wpAny (model X.prog X.w) X.A (eval b X.env) (λu s₂=>wpAny (model X.prog X.w) X.A (f v u) Q X.xe s₂) X.xe s₁) X.xe s:=by
 refine thn (ha N s σ H _ I h) λv s1 ⟨x,H1,I1,r1,q1⟩=> ?_;refine thn (hb N s1 σ H1 _ I1 q1) λu s2 ⟨y,H2,I2,r2,q2⟩=> ?_;exact hf v u s2 x y H2 I2 r1 r2 q2
theorem B8(ho:OpR X (binaryOp op) r)(ha:PE X a ta)(hb:PE X b tb):PE X (.BinOp a op b pos) (tOp r ta tb):=by
 intro c s σ H Q I h;exact wpAny_BinOp (cSZ ha hb I h λv u s2 x y H2 I2 rx ry q=>ho c s2 σ H2 x y v u Q I2 rx ry q)
theorem K8(ho:UnR X (unaryOp op) r)(ha:PE X a ta):PE X (.UnaryOp op a pos) (tUn r ta):=by
 intro b s σ H Q I h;exact UnaryOp_ (thn (ha b s σ H _ I h) λv s1 ⟨x,H1,I1,r1,q1⟩=>ho b s1 σ H1 x v Q I1 r1 q1)
theorem opI{X:Cx}{f:Value->Value->Sem Value}{C:Int->Int->Prop}{g:Int->Int->Int}
  (rule:∀(i j:Int) (t u:Tok) (s:Shared) (Q:Value->Shared->Prop) (E:Value->Shared->Prop),C i j->Q (.int (g i j) s.toks) {s with toks:=s.toks+1}->wpAny (model X.prog X.w) X.A (f (.int i t) (.int j u)) Q E s):
  OpR X f (rI C λi j=> .int (g i j)):=by
 intro a s σ H x y v u Q I rx ry h;obtain⟨i,j,rfl,rfl,hc,q⟩:=h;obtain⟨t,rfl⟩:=rx;obtain⟨t',rfl⟩:=ry;exact rule i j t t' s _ _ hc ⟨.int (g i j),H,I.tok _,⟨_,rfl⟩,q⟩
theorem eaZ{X:Cx}{f:Value->Value->Sem Value}{g:Int->Int->Int}
  (rule:∀(i j:Int) (t u:Tok) (s:Shared) (Q:Value->Shared->Prop) (E:Value->Shared->Prop),Q (.int (g i j) s.toks) {s with toks:=s.toks+1}->wpAny (model X.prog X.w) X.A (f (.int i t) (.int j u)) Q E s):
  OpR X f (rI0 λi j=> .int (g i j)):=by
 intro a s σ H x y v u Q I rx ry h;obtain⟨i,j,rfl,rfl,q⟩:=h;obtain⟨t,rfl⟩:=rx;obtain⟨t',rfl⟩:=ry;exact rule i j t t' s _ _ ⟨.int (g i j),H,I.tok _,⟨_,rfl⟩,q⟩
theorem aSZ{X:Cx}{f:Value->Value->Sem Value}{g:Int->Int->Bool}
  (rule:∀(i j:Int) (t u:Tok) (s:Shared) (Q:Value->Shared->Prop) (E:Value->Shared->Prop),Q (.bool (g i j)) s->wpAny (model X.prog X.w) X.A (f (.int i t) (.int j u)) Q E s):
  OpR X f (rI0 λi j=> .bl (g i j)):=by
 intro a s σ H x y v u Q I rx ry h;obtain⟨i,j,rfl,rfl,q⟩:=h;obtain⟨t,rfl⟩:=rx;obtain⟨t',rfl⟩:=ry;exact rule i j t t' s _ _ ⟨.bl (g i j),H,I,rfl,q⟩
def fHZ(i j:Int):Prop:=0<j/\j<1073741824
def fcZ(i j:Int):Prop:=0<=j/\j<=1000000/\i.natAbs<2^64
def CMul(i j:Int):Prop:=(-(2^64)<i/\i<2^64)\/(-(2^64)<j/\j<2^64)
theorem CMul.ok(h:CMul i j):IntMulOk i j:=by
 rcases h with⟨h1,h2⟩|⟨h1,h2⟩
 ·exact .of_left (intBits_le_64 h1 h2)
 ·exact .of_right (intBits_le_64 h1 h2)
theorem op_add:OpR X (binaryOp .Add) (rI0 λi j=> .int (i+j)):=eaZ λ_ _ _ _ _ _ _ q=>add_int q
theorem G1:OpR X (binaryOp .Sub) (rI0 λi j=> .int (i - j)):=eaZ λ_ _ _ _ _ _ _ q=>sub_int q
theorem op_mul:OpR X (binaryOp .Mult) (rI CMul λi j=> .int (i*j)):=opI λ_ _ _ _ _ _ _ hc q=>mul_int q hc.ok
theorem F3:OpR X (binaryOp .FloorDiv) (rI fHZ λi j=> .int (i/j)):=opI λi j _ _ _ _ _ hc q=>by
 have h1:(0:Int)<j:=hc.1;have h2:j<1073741824:=hc.2;exact floordiv_int (by omega) (by rw[Int.fdiv_eq_ediv_of_nonneg i (by omega)];exact q) (.inl (PyProof.noPylong_small (by omega)))
theorem D4:OpR X (binaryOp .Mod) (rI (λ_ j=>0<j) λi j=> .int (i%j)):=opI λi j _ _ _ _ _ hc q=>by
 have h1:(0:Int)<j:=hc;exact mod_int' (by omega) (by rw[Int.fmod_eq_emod_of_nonneg i (by omega)];exact q)
theorem U5:OpR X (binaryOp .Pow) (rI fcZ λi j=> .int (i^j.toNat)):=opI λ_ _ _ _ _ _ _ hc q=>pow_int_small hc.1 hc.2.1 hc.2.2 q
theorem unI{X:Cx}{f:Value->Sem Value}{g:Int->Int}
  (rule:∀(i:Int) (t:Tok) (s:Shared) (Q:Value->Shared->Prop) (E:Value->Shared->Prop),Q (.int (g i) s.toks) {s with toks:=s.toks+1}->wpAny (model X.prog X.w) X.A (f (.int i t)) Q E s):
  UnR X f (rU λi=> .int (g i)):=by
 intro a s σ H x v Q I rx h;obtain⟨i,rfl,q⟩:=h;obtain⟨t,rfl⟩:=rx;exact rule i t s _ _ ⟨.int (g i),H,I.tok _,⟨_,rfl⟩,q⟩
theorem G2:UnR X (unaryOp .USub) (rU λi=> .int (-i)):=unI λ_ _ _ _ _ q=>neg_int q
end
noncomputable def eOZ:V->V->Bool
 | .non,.non=>true| .non,.int _=>true| .int _,.non=>true| .non,.bl _=>true| .bl _,.non=>true| .non,.str _=>true| .str _,.non=>true
 | .int _,.int _=>true| .bl _,.bl _=>true| .str _,.str _=>true| .byt _,.byt _=>true
 | .int _,.str _=>true| .str _,.int _=>true| .bl _,.str _=>true| .str _,.bl _=>true
 |_,_=>false
inductive rEq (x:V) (y:V) (H:Hp) (Q:VK):Prop
 |mk:(eOZ x y=true)->(Q (.bl (decide (x=y))) H)->rEq x y H Q
inductive rNe (x:V) (y:V) (H:Hp) (Q:VK):Prop
 |mk:(eOZ x y=true)->(Q (.bl (!decide (x=y))) H)->rNe x y H Q
theorem QG:decide (V.int i=V.int j)=(i==j):=by
 rw[Bool.eq_iff_iff];simp
theorem VI:decide (V.bl i=V.bl j)=(i==j):=by
 rw[Bool.eq_iff_iff];simp
theorem QX:decide (V.str i=V.str j)=(i==j):=by
 rw[Bool.eq_iff_iff];simp
theorem QV:decide (V.byt i=V.byt j)=(i.toList==j.toList):=by
 rw[Bool.eq_iff_iff];cases i;cases j;simp
section
theorem D2{H:Hp}{Q:VK}{k':Bool}(I:Inv X N σ H s)(q:Q (.bl k) H)(e:k=k'):EP X N σ Q (.bool k') s:=by
 subst e;exact⟨.bl k,H,I,rfl,q⟩
theorem op_eq:OpR X (compareOp .Eq) rEq:=by
 intro a s σ H x y v u Q I rx ry h;obtain⟨hs,q⟩:=h;cases x with
 |non=>
  cases rx;cases y with
  |non=>cases ry;exact PySem.EqNone.eq_none_none (D2 I q (by simp))
  |bl j=>cases ry;exact PySem.EqNone.eq_none_bool (D2 I q (by simp))
  |int j=>obtain⟨t',rfl⟩:=ry;exact PySem.EqNone.eq_none_int (D2 I q (by simp))
  |str j=>obtain⟨t',rfl⟩:=ry;exact PySem.EqNone.eq_none_str (D2 I q (by simp))
  |_=>exact absurd (show false=true from hs) nZ
 |bl i=>
  cases rx;cases y with
  |non=>cases ry;exact PySem.EqNone.eq_bool_none (D2 I q (by simp))
  |bl j=>cases ry;exact eq_bool (D2 I q VI)
  |str j=>obtain⟨t',rfl⟩:=ry;exact PySem.EqMixed.eq_bool_str (D2 I q (by simp))
  |_=>exact absurd (show false=true from hs) nZ
 |int i=>
  obtain⟨t,rfl⟩:=rx;cases y with
  |non=>cases ry;exact PySem.EqNone.eq_int_none (D2 I q (by simp))
  |int j=>obtain⟨t',rfl⟩:=ry;exact eq_int (D2 I q QG)
  |str j=>obtain⟨t',rfl⟩:=ry;exact PySem.EqMixed.eq_int_str (D2 I q (by simp))
  |_=>exact absurd (show false=true from hs) nZ
 |str i=>
  obtain⟨t,rfl⟩:=rx;cases y with
  |non=>cases ry;exact PySem.EqNone.eq_str_none (D2 I q (by simp))
  |bl j=>cases ry;exact PySem.EqMixed.eq_str_bool (D2 I q (by simp))
  |int j=>obtain⟨t',rfl⟩:=ry;exact PySem.EqMixed.eq_str_int (D2 I q (by simp))
  |str j=>obtain⟨t',rfl⟩:=ry;exact eq_str (D2 I q QX)
  |_=>exact absurd (show false=true from hs) nZ
 |byt i=>
  obtain⟨t,rfl⟩:=rx;cases y with
  |byt j=>obtain⟨t',rfl⟩:=ry;exact W.eq_bytes (D2 I q QV)
  |_=>exact absurd (show false=true from hs) nZ
 |_=>cases y<;>exact absurd (show false=true from hs) nZ
theorem op_ne:OpR X (compareOp .NotEq) rNe:=by
 intro a s σ H x y v u Q I rx ry h;obtain⟨hs,q⟩:=h;cases x with
 |non=>
  cases rx;cases y with
  |non=>cases ry;exact PySem.EqNone.ne_none_none (D2 I q (by simp))
  |bl j=>cases ry;exact PySem.EqNone.ne_none_bool (D2 I q (by simp))
  |int j=>obtain⟨t',rfl⟩:=ry;exact PySem.EqNone.ne_none_int (D2 I q (by simp))
  |str j=>obtain⟨t',rfl⟩:=ry;exact PySem.EqNone.ne_none_str (D2 I q (by simp))
  |_=>exact absurd (show false=true from hs) nZ
 |bl i=>
  cases rx;cases y with
  |non=>cases ry;exact PySem.EqNone.ne_bool_none (D2 I q (by simp))
  |bl j=>cases ry;exact ne_bool (D2 I q (congrArg not VI))
  |str j=>obtain⟨t',rfl⟩:=ry;exact PySem.EqMixed.ne_bool_str (D2 I q (by simp))
  |_=>exact absurd (show false=true from hs) nZ
 |int i=>
  obtain⟨t,rfl⟩:=rx;cases y with
  |non=>cases ry;exact PySem.EqNone.ne_int_none (D2 I q (by simp))
  |int j=>obtain⟨t',rfl⟩:=ry;exact ne_int (D2 I q (congrArg not QG))
  |str j=>obtain⟨t',rfl⟩:=ry;exact PySem.EqMixed.ne_int_str (D2 I q (by simp))
  |_=>exact absurd (show false=true from hs) nZ
 |str i=>
  obtain⟨t,rfl⟩:=rx;cases y with
  |non=>cases ry;exact PySem.EqNone.ne_str_none (D2 I q (by simp))
  |bl j=>cases ry;exact PySem.EqMixed.ne_str_bool (D2 I q (by simp))
  |int j=>obtain⟨t',rfl⟩:=ry;exact PySem.EqMixed.ne_str_int (D2 I q (by simp))
  |str j=>obtain⟨t',rfl⟩:=ry;exact ne_str (D2 I q (congrArg not QX))
  |_=>exact absurd (show false=true from hs) nZ
 |byt i=>
  obtain⟨t,rfl⟩:=rx;cases y with
  |byt j=>obtain⟨t',rfl⟩:=ry;exact W.ne_bytes (D2 I q (congrArg not QV))
  |_=>exact absurd (show false=true from hs) nZ
 |_=>cases y<;>exact absurd (show false=true from hs) nZ
theorem GK:OpR X (compareOp .Lt) (rI0 λi j=> .bl (decide (i<j))):=aSZ λ_ _ _ _ _ _ _ q=>lt_int q
theorem XH:OpR X (compareOp .LtE) (rI0 λi j=> .bl (decide (i<=j))):=aSZ λ_ _ _ _ _ _ _ q=>le_int q
theorem LR:OpR X (compareOp .Gt) (rI0 λi j=> .bl (decide (j<i))):=aSZ λ_ _ _ _ _ _ _ q=>gt_int q
theorem e4Z:OpR X (compareOp .GtE) (rI0 λi j=> .bl (decide (j<=i))):=aSZ λ_ _ _ _ _ _ _ q=>ge_int q
theorem op_in_str:OpR X (compareOp .In) (λx y H Q=>∃i j,x=.str i/\y=.str j/\Q (.bl (!(Builtin.Str.occurrences j i 0 j.length 1).isEmpty)) H):=by
 intro a s σ H x y v u Q I rx ry h;obtain⟨i,j,rfl,rfl,q⟩:=h;obtain⟨t,rfl⟩:=rx;obtain⟨t',rfl⟩:=ry;exact in_str (D2 I q rfl)
theorem EJ:OpR X (compareOp .Is) (λx y H Q=>y=.non/\Q (.bl (decide (x=.non))) H):=by
 intro a s σ H x y v u Q I rx ry h;obtain⟨rfl,q⟩:=h;cases ry;refine is_none_gen (D2 I q ?_);cases x<;>first
  |(cases rx;rfl)
  |(obtain⟨t,rfl⟩:=rx;rfl)
theorem DD:OpR X (compareOp .IsNot) (λx y H Q=>y=.non/\Q (.bl (!decide (x=.non))) H):=by
 intro a s σ H x y v u Q I rx ry h;obtain⟨rfl,q⟩:=h;cases ry;refine isnot_none_gen (D2 I q ?_);cases x<;>first
  |(cases rx;rfl)
  |(obtain⟨t,rfl⟩:=rx;rfl)
theorem OpR.or(h:OpR X f r)(h':OpR X f r'):OpR X f (λx y H Q=>r x y H Q\/r' x y H Q):=by
 intro a s σ H x y v u Q I rx ry q;rcases q with q|q
 ·exact h a s σ H x y v u Q I rx ry q
 ·exact h' a s σ H x y v u Q I rx ry q
theorem F7(ho:OpR X (compareOp op) r)(ha:PE X a ta)(hb:PE X b tb)(hm:behindInMarks op b=false):PE X (.Compare a [op] [b] pos) (tOp r ta tb):=by
 intro c s σ H Q I h;exact wpAny_Compare1 (cSZ ha hb I h λv u s2 x y H2 I2 rx ry q=>ho c s2 σ H2 x y v u Q I2 rx ry q) hm
inductive tTestW (Q:Bool->Hp->Prop) (x:V) (H':Hp):Prop
 |mk:∀k,(x=.bl k)->(Q k H')->tTestW Q x H'
def dYZ(t:TE):TT:=fun σ H Q=>t σ H λx H'=>tTestW Q x H'
theorem B7(ho:OpR X (compareOp op) r)(ha:PE X a ta)(hb:PE X b tb)(hm:behindInMarks op b=false):PT X (.Compare a [op] [b] pos) (dYZ (tOp r ta tb)):=by
 intro d s σ H Q I h;refine wpAny_isTrue_Compare1 (thn (ha d s σ H _ I h) λv s1 ⟨x,H1,I1,r1,q1⟩=>thn (hb d s1 σ H1 _ I1 q1) λu s2 ⟨y,H2,I2,r2,q2⟩=>
  thn (ho d s2 σ H2 x y v u _ I2 r1 r2 q2) λc s3 ⟨z,H3,I3,r3,k,e,q3⟩=> ?_) hm
 subst e;cases r3;exact wpAny_truthy_bool ⟨H3,I3,q3⟩
def c1Z(Z:FZ)(x:V)(H:Hp)(k:Bool):Prop:=
 match x with
 | .non=>k=false
 | .bl b=>k=b
 | .int i=>k=(i !=0)
 | .str y=>y.length<=sizeLine/\k=((y.length:Int) !=0)
 | .byt y=>y.size<=sizeLine/\k=((y.size:Int) !=0)
 | .ref p=>(∃xs,SqL Z H p xs/\k= !xs.isEmpty)\/(∃xs,SqT Z H p xs/\k= !xs.isEmpty)\/∃kvs,H p=some (.dK kvs)/\k= !kvs.isEmpty
 |_=>False
theorem NN{κ:Type}{kvs:List (κ×V)}{vs:List (κ×Value)}(r:KV kvs vs):(!vs.isEmpty)= !kvs.isEmpty:=by
 cases r<;>rfl
theorem EG(r:Vals xs its):(!its.toArray.isEmpty)= !xs.isEmpty:=by
 cases r<;>simp
theorem BH:(sizeLine:Nat)<2^63:=by rw[sizeLine_eq];decide
theorem dfZ:fIZ X (λx H Q=>∃k,c1Z X.K x H k/\Q k H):=by
 intro d s σ H x v Q I rx h;obtain⟨k,e,q⟩:=h;have hl:=BH;have hs:sizeLine=16777216:=sizeLine_eq;cases x with
 |non=>
  cases rx;have e':k=false:=e;subst e';exact truthy_none ⟨H,I,q⟩
 |bl b=>
  cases rx;have e':k=b:=e;subst e';exact wpAny_truthy_bool ⟨H,I,q⟩
 |int i=>
  obtain⟨t,rfl⟩:=rx;have e':k=(i !=0):=e;subst e';exact PySem.P.truthy_int ⟨H,I,q⟩
 |str y=>
  obtain⟨t,rfl⟩:=rx;obtain⟨hy,e'⟩:y.length<=sizeLine/\k=((y.length:Int) !=0):=e;subst e';exact PySem.P.truthy_str (by omega) ⟨H,I.tok _,q⟩
 |byt y=>
  obtain⟨t,rfl⟩:=rx;obtain⟨hy,e'⟩:y.size<=sizeLine/\k=((y.size:Int) !=0):=e;subst e';exact W.truthy_bytes (by omega) ⟨H,I.tok _,q⟩
 |ref p=>
  cases rx;have e':(∃xs,SqL X.K H p xs/\k= !xs.isEmpty)\/(∃xs,SqT X.K H p xs/\k= !xs.isEmpty)\/∃a,H p=some (.dK a)/\k= !a.isEmpty:=e;rcases e' with⟨xs,hx,e'⟩|⟨xs,hx,e'⟩|⟨a,hx,e'⟩
  ·subst e';obtain⟨f,r,pl,hz⟩:=I.list hx;have c:=r.length;exact wpAny_truthy_list pl.isList (by simp only[size_toArray];omega) ⟨H,I.tok _,by rw[EG r];exact q⟩
  ·subst e';obtain⟨f,r,pl,hz⟩:=I.tuple hx;have c:=r.length;exact truthy_tuple pl (by simp only[size_toArray];omega) ⟨H,I.tok _,by rw[EG r];exact q⟩
  ·subst e';obtain⟨hz,hS,vs,r,m⟩:a.length<=sizeLine/\(p==sysModules)=false/\∃vs,KV a vs/\s.heap.DictOf (E3 X.prog X.w) p vs:=I.hok p _ hx;have c:a.length=vs.length:=Paired.length r;exact wpAny_truthy_dict hS m (by omega) ⟨H,I.tok _,by rw[NN r];exact q⟩
 |_=>exact(show False from e).elim
theorem XM(ha:PE X a ta)(he:∀whole,isTrue a X.env whole=(do let v<-whole;standAt a.pos;holding [v] (truthy v))):
  PT X a (fun σ H Q=>ta σ H λx H'=>∃k,c1Z X.K x H' k/\Q k H'):=by
 intro b s σ H Q I h;exact isTrue_plain (thn (ha b s σ H _ I h) λv s1 ⟨x,H1,I1,r1,q1⟩=>dfZ b s1 σ H1 x v Q I1 r1 q1) (he _)
theorem op_add_str:OpR X (binaryOp .Add) (λx y H Q=>∃i j,x=.str i/\y=.str j/\i.length+j.length<=sizeLine/\Q (.str (i++j)) H):=by
 intro a s σ H x y v u Q I rx ry h;obtain⟨i,j,rfl,rfl,hz,q⟩:=h;obtain⟨t,rfl⟩:=rx;obtain⟨t',rfl⟩:=ry;exact add_str (λt' tk=>⟨.str (i++j),H,I.tok _,⟨_,rfl⟩,q⟩) hz
theorem V5{x:V}(r:Vals [x] us):∃u,us=[u]/\RelV x u:=by
 cases r with
 |cons r1 r2=>cases r2;exact⟨_,rfl,r1⟩
theorem bBZ{x y:V}(r:Vals [x,y] us):∃u w',us=[u,w']/\RelV x u/\RelV y w':=by
 cases r with
 |cons r1 r2=>
  cases r2 with
  |cons r3 r4=>cases r4;exact⟨_,_,rfl,r1,r3⟩
theorem EL:CallR X (.builtin "abs") (λxs H Q=>∃i,xs=[.int i]/\Q (.int (if i<0 then -i else i)) H):=by
 intro a s σ H xs us Q I r h;obtain⟨i,rfl,q⟩:=h;obtain⟨u,rfl,t,rfl⟩:=V5 r;exact call_abs_int λu tk=>⟨.int (if i<0 then -i else i),H,I.tok _,⟨_,rfl⟩,q⟩
theorem TV{X:Cx}(hc:X.calm=true):CallR X (.builtin "max") (λxs H Q=>∃i j,xs=[.int i,.int j]/\Q (.int (if j>i then j else i)) H):=by
 intro a s σ H xs us Q I r h;obtain⟨i,j,rfl,q⟩:=h;obtain⟨u,w',rfl,⟨t,rfl⟩,⟨t',rfl⟩⟩:=bBZ r;refine max_two_ints (I.ok.hd hc) λh' tk k=>⟨_,H,I.kept k, ?_,q⟩;by_cases hj:j>i
 ·rw[if_pos hj,if_pos hj];exact⟨_,rfl⟩
 ·rw[if_neg hj,if_neg hj];exact⟨_,rfl⟩
def fNZ(Z:FZ)(x:V)(H:Hp)(n:Nat):Prop:=
 match x with
 | .str y=>y.length<=sizeLine/\n=y.length
 | .byt y=>y.size<=sizeLine/\n=y.size
 | .ref p=>(∃xs,SqL Z H p xs/\n=xs.length)\/∃xs,SqT Z H p xs/\n=xs.length
 |_=>False
inductive rLen (Z:FZ) (xs:List V) (H:Hp) (Q:VK):Prop
 |mk:∀x n,(xs=[x])->(fNZ Z x H n)->(Q (.int n) H)->rLen Z xs H Q
theorem WZ:CallR X (.builtin "len") (rLen X.K):=by
 intro b s σ H xs us Q I r h;obtain⟨x,n,rfl,e,q⟩:=h;obtain⟨u,rfl,rx⟩:=V5 r;have hl:=BH;have hs:sizeLine=16777216:=sizeLine_eq;cases x with
 |str y=>
  obtain⟨t,rfl⟩:=rx;obtain⟨hy,e'⟩:y.length<=sizeLine/\n=y.length:=e;subst e';exact len_str (by omega) ⟨.int _,H,I.tok _,⟨_,rfl⟩,q⟩
 |byt y=>
  obtain⟨t,rfl⟩:=rx;obtain⟨hy,e'⟩:y.size<=sizeLine/\n=y.size:=e;subst e';exact W.len_bytes (by omega) ⟨.int _,H,I.tok _,⟨_,rfl⟩,q⟩
 |ref p=>
  cases rx;have e':(∃xs,SqL X.K H p xs/\n=xs.length)\/∃xs,SqT X.K H p xs/\n=xs.length:=e;rcases e' with⟨xs,hx,e'⟩|⟨xs,hx,e'⟩
  ·subst e';obtain⟨c,r',pl,hz⟩:=I.list hx;have a:=r'.length;exact Calls.call_len_list pl.isList (by simp only[size_toArray];omega) ⟨.int xs.length,H,I.tok _,⟨_,by simp only[size_toArray];rw[a]⟩,q⟩
  ·subst e';obtain⟨c,r',pl,hz⟩:=I.tuple hx;have a:=r'.length;exact len_tuple pl (by simp only[size_toArray];omega) ⟨.int xs.length,H,I.tok _,⟨_,by simp only[size_toArray];rw[a]⟩,q⟩
 |_=>exact(show False from e).elim
end
structure ObjM (h:Heap) (x dx C:Addr) (mA:Str->Option Value):Prop where
 obj:h.get? x=some (instObj C dx)
 ns:h.Ns1 dx mA
 ne:dx≠x
theorem TW{h:Heap}(n:h.Ns1 dx mA):∃od,h.get? dx=some od/\∀name,lookIn name od=some (mA name):=by
 obtain⟨o,es,ep,ho,hd,hk,_,hm⟩:=n;refine⟨o,ho,λname=> ?_⟩;have e:=hm name;unfold nsFind findBy at e;rw[<-Array.find?_toList]at e;unfold lookIn;rw[hd]
 dsimp only
 split
 ·rename_i y q;rw[q]at e;exact congrArg some e
 ·rename_i q;rw[q]at e;have a:es.toList.any (·.refKey)=false:=by
   rw[List.any_eq_false];intro y hy;obtain⟨z,t,b⟩:=hk y (Array.mem_toList_iff.mp hy);simp[DictEntry.refKey,b]
  have a':¬es.toList.any (·.refKey)=true:=by rw[a];exact nZ
  rw[if_neg a'];exact congrArg some e
theorem ObjM.look(I:ObjM h x dx C mA):∃od,W.InstAt h x (instObj C dx) C (some od)/\∀name,lookIn name od=some (mA name):=
 let⟨od,ho,hl⟩:=TW I.ns
 ⟨od,⟨I.obj,rfl,rfl,ho⟩,hl⟩
section
theorem bgZ{A:Around}{E:Value->Shared->Prop}{s:Shared}{Z:FZ}{v:Value}{Q:Value->Shared->Prop}(X:Z.In s.heap)(I:ObjM s.heap x dx C mA)(hg:plainGet Z C name=true)(hh:W.hasDictIn Z C=true)
  (ha:findIn Z (.ref C) name=some none)(hv:mA name=some v)(hv':W.handedIn v=true)(h:Q v {s with toks:=s.toks+1}):
  wpAny (model prog w) A (getAttr (.ref x) name expr) Q E s:=by
 obtain⟨od,J,hl⟩:=I.look;exact W.get_value X J (W.plainGet_of hg).1 (W.findObj_own hh ha rfl (by rw[hl,hv])) hv' h
theorem VW{A:Around}{E:Value->Shared->Prop}{s:Shared}{Z:FZ}{Q:Value×List Value->Shared->Prop}(X:Z.In s.heap)(I:ObjM s.heap x dx C mA)(hg:plainGet Z C name=true)
  (hf:findIn Z (.ref C) name=some (some (.ref f)))(ht:W.isFn Z (.ref f)=true)(hv:mA name=none)(h:Q (.ref f,[.ref x]) s):
  wpAny (model prog w) A (getMethod (.ref x) name pl) Q E s:=by
 obtain⟨od,J,hl⟩:=I.look;exact W.method_fn X J (W.plainGet_of hg).1 (W.plainGet_of hg).2 hf (beq_iff_eq.mp ht) (by show(lookIn name od).map (·.isSome)=some false;rw[hl,hv];rfl) h
theorem akZ{A:Around}{E:Value->Shared->Prop}{s:Shared}{Z:FZ}{v:Value}{Q:Unit->Shared->Prop}(X:Z.In s.heap)(I:ObjM s.heap x dx C mA)
  (hs:findIn Z (.ref C) "__setattr__"=some (some (.builtin "object.__setattr__")))(hp:W.plainOver Z C=true)(ht:W.takerIn Z C name=some none)(hh:W.hasDictIn Z C=true)
  (hw:PySem.Within mA ns)(hsz:ns.length<=sizeLine)
  (h:∀h',ObjM h' x dx C (λy=>if y=name then some v else mA y)->Heap.SameBut dx s.heap h'->Q () {s with heap:=h',toks:=s.toks+2}):
  wpAny (model prog w) A (setAttr (.ref x) name v) Q E s:=by
 obtain⟨od,J,hl⟩:=I.look;refine W.set_plain X J hs (W.osa_open (s:={s with toks:=s.toks+1}) (r:=none) X J hp ht λb=> ?_);obtain⟨cd,hc,g⟩:=W.any_some hh;have hx:s.heap.get? x=some ⟨.ref C,some dx,.plain, #[]⟩:=I.obj;refine bZ (pZ (bZ (bZ (wpAny_loadPart hx (bZ (W.Looks.here (s:={s with toks:=s.toks+1}) (W.looks_clsIn X hc) ?_))))));rw[g];refine pZ (a:=some dx) (bZ (pZ (bZ ?_)));refine wpAny_nsSet1 (s:={s with toks:=s.toks+1}) I.ns λh' d c=> ?_;obtain⟨oD,j,k,e,f,i⟩:=d.count (PySem.Within.cons name v hw);refine bZ (wpAny_lookBehind e (by rw[f];exact pastItsLine_dict (le_trans i (by rw[length_cons];omega))) ?_);exact pZ (h _ ⟨(c.2 _ (Ne.symm I.ne)).trans I.obj,d,I.ne⟩ c)
theorem ZC{A:Around}{s:Shared}{Z:FZ}{R:Result->Shared->Prop}{vs:List Value}{kw:List (Str×Value)}(X:Z.In s.heap)(hm:W.makesIn Z C=true)
  (hi:findIn Z (.ref C) "__init__"=some (some (.ref f)))(hf:W.typeIn Z (.ref f)=some (.type "function"))
  (h:codeAny (model prog w) (A.under (.builtin "type.__call__" ⟨.ref C::vs,kw⟩)) (.call (.ref f) ⟨.ref (s.heap.objs.size+1)::vs,kw⟩) (W.InitBack (s.heap.objs.size+1) R)
   {s with heap:=(s.heap.push emptyDict).push (instObj C s.heap.objs.size)}):
  codeAny (model prog w) A (.call (.ref C) ⟨vs,kw⟩) R s:=by
 obtain⟨hh,g,d,t,os⟩:=s;exact W.make_core (W.makes_of X hm) (W.looks_findIn X hi) (λa=>W.bind_fn X a hf) (.inl rfl) h
end
noncomputable def P7(f:Str)(v:V):List (Str×V)->List (Str×V)
 | []=> [(f,v)]
 |(g,x)::r=>if g=f then(g,v)::r else(g,x)::P7 f v r
theorem BS(f g:Str)(v:V):∀fs:List (Str×V),(P7 f v fs).lookup g=if g=f then some v else fs.lookup g
 | []=>by
  show List.lookup g [(f,v)]=_;by_cases h:g=f
  ·have hb:(g==f)=true:=beq_iff_eq.mpr h;simp only[List.lookup,hb,if_pos h]
  ·have hb:(g==f)=false:=beq_eq_false_iff_ne.mpr h;simp only[List.lookup,hb,if_neg h]
 |(k,x)::r=>by
  have ih:=BS f g v r;rw[show P7 f v ((k,x)::r)=(if k=f then(k,v)::r else(k,x)::P7 f v r)from rfl];by_cases hk:k=f
  ·rw[if_pos hk];by_cases h:g=k
   ·have hb:(g==k)=true:=beq_iff_eq.mpr h;simp only[List.lookup,hb,if_pos (h.trans hk)]
   ·have hb:(g==k)=false:=beq_eq_false_iff_ne.mpr h;simp only[List.lookup,hb,if_neg (λe:g=f=>h (e.trans hk.symm))]
  ·rw[if_neg hk];by_cases h:g=k
   ·have hb:(g==k)=true:=beq_iff_eq.mpr h;simp only[List.lookup,hb,if_neg (λe:g=f=>hk (h.symm.trans e))]
   ·have hb:(g==k)=false:=beq_eq_false_iff_ne.mpr h;simp only[List.lookup,hb];exact ih
theorem BD(f:Str)(v:V):∀fs:List (Str×V),f∈(P7 f v fs).map (·.1)/\∀g,g∈fs.map (·.1)->g∈(P7 f v fs).map (·.1)
 | []=>⟨by simp[P7],λg h=>by simp at h⟩
 |(k,x)::r=>by
  obtain⟨i1,i2⟩:=BD f v r;rw[show P7 f v ((k,x)::r)=(if k=f then(k,v)::r else(k,x)::P7 f v r)from rfl];by_cases hk:k=f
  ·rw[if_pos hk];subst hk;exact⟨by simp,λg h=>by simpa using h⟩
  ·rw[if_neg hk];refine⟨?_,λg h=> ?_⟩
   ·rw[map_cons];exact mem_cons_of_mem _ i1
   ·rw[map_cons]at h⊢;rcases cZ h with e|e
    ·exact mem_cons.mpr (.inl e)
    ·exact mem_cons_of_mem _ (i2 g e)
theorem BO(f:Str)(v:V):∀fs:List (Str×V),(P7 f v fs).length<=fs.length+1
 | []=>by simp[P7]
 |(k,x)::r=>by
  have ih:=BO f v r;rw[show P7 f v ((k,x)::r)=(if k=f then(k,v)::r else(k,x)::P7 f v r)from rfl];by_cases hk:k=f
  ·rw[if_pos hk,length_cons,length_cons];omega
  ·rw[if_neg hk,length_cons,length_cons];omega
theorem RelO.some_of{v:V}(r:RelO (some v) o):∃u,o=some u/\RelV v u:=by
 cases o with
 |none=>exact(show False from r).elim
 |some u=>exact⟨u,rfl,r⟩
theorem RelO.none_of(r:RelO none o):o=none:=by
 cases o with
 |none=>rfl
 |some u=>exact(show False from r).elim
theorem SV(r:RelV v u):W.handedIn u=true:=by
 cases v with
 |non=>cases(show u=Value.none from r);rfl
 |bl b=>cases(show u=Value.bool b from r);rfl
 |int i=>obtain⟨t,e⟩:=(show∃t,u=Value.int i t from r);cases e;rfl
 |str x=>obtain⟨t,e⟩:=(show∃t,u=Value.str x t from r);cases e;rfl
 |byt b=>obtain⟨t,e⟩:=(show∃t,u=Value.bytes b t from r);cases e;rfl
 |flt b=>obtain⟨t,e⟩:=(show∃t,u=Value.float b t from r);cases e;rfl
 |ref a=>cases(show u=Value.ref a from r);rfl
 |ty n=>cases(show u=Value.type n from r);rfl
section
theorem DA{a:Addr}(hok:HOk P w H h)(e:H a=some (.ins C dx fs)):∃mA,ObjM h a dx C mA/\(∀f,RelO (fs.lookup f) (mA f))/\PySem.Within mA (fs.map (·.1))/\fs.length<=1000/\H dx=some (.own a):=by
 obtain⟨d,z,ne,ob,mA,n,r,q⟩:=(show ObjOk P w H h a (.ins C dx fs)from hok a _ e);exact⟨mA,⟨ob,n,ne⟩,r,q,z,d⟩
end
structure Cls (Z:FZ) (C:Addr):Prop where
 pg:plainGet Z C Str.empty=true
 hd:W.hasDictIn Z C=true
 po:W.plainOver Z C=true
 sa:findIn Z (.ref C) "__setattr__"=some (some (.builtin "object.__setattr__"))
theorem Cls.get(c:Cls Z C)(f:Str):plainGet Z C f=true:=c.pg
def NoAttr(Z:FZ)(C:Addr)(f:Str):Prop:=findIn Z (.ref C) f=some none
theorem NoAttr.taker(n:NoAttr Z C f):W.takerIn Z C f=some none:=by
 unfold W.takerIn;rw[show findIn Z (.ref C) f=some none from n];rfl
structure Meth (Z:FZ) (C:Addr) (m:Str) (f:Addr):Prop where
 at_:findIn Z (.ref C) m=some (some (.ref f))
 fn:W.isFn Z (.ref f)=true
 kp:kZ Z (.ref f)=true
section
theorem EY{H:Hp}{a:Addr}{v:V}{Q:Value->Shared->Prop}(I:Inv X N σ H s)(e:H a=some (.ins C dx fs))(c:Cls X.K C)(n:NoAttr X.K C f)(l:fs.lookup f=some v)
  (h:∀u s',Inv X N σ H s'->RelV v u->Q u s'):wpAny (model X.prog X.w) A (getAttr (.ref a) f b) Q E s:=by
 obtain⟨mA,O,r,_,_,_⟩:=DA I.hok e;obtain⟨u,hu,ru⟩:=RelO.some_of (v:=v) (o:=mA f) (by rw[<-l];exact r f);exact bgZ I.kIn O (c.get f) c.hd n hu (SV ru) (h u _ (I.tok _) ru)
theorem DW{H:Hp}{a:Addr}{Q:Value×List Value->Shared->Prop}(I:Inv X N σ H s)(e:H a=some (.ins C dx fs))(c:Cls X.K C)(k:Meth X.K C m g)(l:fs.lookup m=none)
  (h:Q (.ref g,[.ref a]) s):wpAny (model X.prog X.w) A (getMethod (.ref a) m pl) Q E s:=by
 obtain⟨mA,O,r,_,_,_⟩:=DA I.hok e;have hn:mA m=none:=RelO.none_of (by rw[<-l];exact r m);exact VW I.kIn O (c.get m) k.at_ k.fn hn h
theorem EZ{H:Hp}{a:Addr}{Q:Unit->Shared->Prop}(I:Inv X N σ H s)(e:H a=some (.ins C dx fs))(c:Cls X.K C)(n:NoAttr X.K C f)(hl:fs.length<1000)(ry:RelV y u)
  (h:∀s',Inv X N σ (upd H a (.ins C dx (P7 f y fs))) s'->Q () s'):wpAny (model X.prog X.w) A (setAttr (.ref a) f u) Q E s:=by
 obtain⟨mA,O,r,wi,_,ho⟩:=DA I.hok e;have hz:(fs.map (·.1)).length<=sizeLine:=by rw[length_map,sizeLine_eq];omega
 refine akZ I.kIn O c.sa c.po n.taker c.hd wi hz λh' O' sb=>h _ ?_;have hd:∃o,h'.get? dx=some o:=let⟨o,_,_,e',_⟩:=O'.ns;⟨o,e'⟩;refine I.write (x:=a) (e:=dx) (by rw[e];exact True.intro) (.inr ho) (λb q hb z=>(sb.2 b hb).trans z) hd ?_;refine⟨by rw[B5 O.ne];exact ho, ?_,O.ne,O'.obj,_,O'.ns,λg=> ?_,λg hg=> ?_⟩
 ·have:=BO f y fs;omega
 ·show RelO ((P7 f y fs).lookup g) (if g=f then some u else mA g);rw[BS];by_cases q:g=f
  ·rw[if_pos q,if_pos q];exact ry
  ·rw[if_neg q,if_neg q];exact r g
 ·by_cases q:g=f
  ·rw[q];exact(BD f y fs).1
  ·refine(BD f y fs).2 g (wi g λz=>hg ?_);show(if g=f then some u else mA g)=none;rw[if_neg q];exact z
theorem Inv.made{H:Hp}(I:Inv X N σ H s):Inv X N σ (upd (upd H s.heap.objs.size (.own (s.heap.objs.size+1))) (s.heap.objs.size+1) (.ins C s.heap.objs.size []))
  {s with heap:=(s.heap.push emptyDict).push (instObj C s.heap.objs.size)}:=by
 have e1:(s.heap.push emptyDict).get? s.heap.objs.size=some emptyDict:=get?_push_size s.heap rfl;have e2:((s.heap.push emptyDict).push (instObj C s.heap.objs.size)).get? (s.heap.objs.size+1)=some (instObj C s.heap.objs.size):=by
  have:=get?_push_size (s.heap.push emptyDict) (o:=instObj C s.heap.objs.size) rfl
  rwa [size_push]at this
 have e3:(s.heap.push emptyDict).Ns s.heap.objs.size (λ_=>none):=⟨emptyDict, #[],_,e1,rfl,(λe he=>absurd he (by simp)),λ_=>rfl⟩;have I1:=I.laid (a:=s.heap.objs.size) (o:=.own (s.heap.objs.size+1)) (h':=s.heap.push emptyDict) (t':=s.toks) (λb u q=>gZ _ q) (le_refl _) ⟨_,e1⟩;refine I1.laid (a:=s.heap.objs.size+1) (o:=.ins C s.heap.objs.size []) (t':=s.toks) (λb u q=>gZ _ q) (Nat.le_of_eq (size_push _ _)) ?_;have ne:s.heap.objs.size≠s.heap.objs.size+1:=ne_of_lt (lt_succ_self _);refine⟨by rw[B5 ne,A4],zero_le _,ne,e2,λ_=>none,(Heap.Ns1.of_empty e3).at λo q=>gZ _ q,λ_=>True.intro,λy hy=>absurd rfl hy⟩
theorem axZ{Q:Value->Shared->Prop}(hb:attributeBase e f env (eval e env)=eval e env)
  (h:wpAny (model prog w) A (eval e env) (λo s₁=>wpAny (model prog w) A (getAttr o f true) Q E s₁) E s):wpAny (model prog w) A (eval (.Attribute e f pos) env) Q E s:=
 Attribute_any_ h (by rw[arm_eval_Attribute,hb])
end
inductive tFldW (Z:FZ) (f:Str) (Q:VK) (x:V) (H1:Hp):Prop
 |mk:∀a C dx fs v,(x=.ref a)->(H1 a=some (.ins C dx fs))->(Cls Z C)->(NoAttr Z C f)->(fs.lookup f=some v)->(Q v H1)->tFldW Z f Q x H1
def fyZ(Z:FZ)(ta:TE)(f:Str):TE:=fun σ H Q=>ta σ H λx H1=>tFldW Z f Q x H1
inductive sFldW (Z:FZ) (f:Str) (D:Ends) (σ:St) (y x:V) (H2:Hp):Prop
 |mk:∀a C dx fs,(x=.ref a)->(H2 a=some (.ins C dx fs))->(Cls Z C)->(NoAttr Z C f)->(fs.length<1000)->(D.nx σ (upd H2 a (.ins C dx (P7 f y fs))))->sFldW Z f D σ y x H2
def fJZ(Z:FZ)(ta tv:TE)(f:Str):TS:=λD σ H=>tv σ H λy H1=>ta σ H1 λx H2=>sFldW Z f D σ y x H2
def eWZ(X:Cx)(op:Operator)(rd:V->V->Hp->VK->Prop):Prop:=
 ∀(N:List (Addr×Obj)) (s:Shared) (σ:St) (H:Hp) (x y:V) (u v:Value) (Q:VK),Inv X N σ H s->RelV x u->RelV y v->rd x y H Q->wpAny (model X.prog X.w) X.A (inplaceOp op u v) (EP X N σ Q) X.xe s
def aAZ(Z:FZ)(ta tv:TE)(rd:V->V->Hp->VK->Prop)(f:Str):TS:=λD σ H=>ta σ H λx H1=>∃a C dx fs v,x=.ref a/\H1 a=some (.ins C dx fs)/\Cls Z C/\NoAttr Z C f/\fs.lookup f=some v/\
 tv σ H1 λy H2=>rd v y H2 λz H3=>∃dx' fs',H3 a=some (.ins C dx' fs')/\fs'.length<1000/\D.nx σ (upd H3 a (.ins C dx' (P7 f z fs')))
section
theorem K0(he:PE X e ta)(hb:attributeBase e f X.env (eval e X.env)=eval e X.env):PE X (.Attribute e f pos) (fyZ X.K ta f):=by
 intro b s σ H Q I h;refine axZ hb (thn (he b s σ H _ I h) λu s1 ⟨x,H1,I1,rx,a,C,dx,fs,v,ex,ea,c,n,l,q⟩=> ?_);subst ex;obtain rfl:u=Value.ref a:=rx;exact EY I1 ea c n l λu' s2 I2 ru=>⟨v,H1,I2,ru,q⟩
theorem P3{pos:Pos}(ha:PE X o ta)(hv:PE X value tv)(hs:swapsWith value (some (.Attribute o f pos')) pos.line X.env=pure false):PS X (.Assign [.Attribute o f pos'] value pos) (fJZ X.K ta tv f):=by
 intro b s σ H D I h;refine plainObj_wpAny_Assign_Attribute (thn (hv b s σ H _ I h) λu s1 ⟨y,H1,I1,ry,q⟩=>thn (ha b s1 σ H1 _ I1 q) λov s2 ⟨x,H2,I2,rx,a,C,dx,fs,ex,ea,c,n,l,q2⟩=> ?_) hs;subst ex;obtain rfl:ov=Value.ref a:=rx;exact EZ I2 ea c n l ry λs3 I3=>⟨σ,_,I3,q2⟩
theorem TF(ha:PE X o ta)(hv:PE X value tv)(hop:eWZ X op rd):PS X (.AugAssign (.Attribute o f tpos) op value pos) (aAZ X.K ta tv rd f):=by
 intro b s σ H D I h;refine wpAny_AugAssign_AttributeAny (thn (ha b s σ H _ I h) λov s1 ⟨x,H1,I1,rx,a,C,dx,fs,v,ex,ea,c,n,l,q⟩=> ?_);subst ex;obtain rfl:ov=Value.ref a:=rx;refine EY I1 ea c n l λu s2 I2 ru=>thn (hv b s2 σ H1 _ I2 q) λw3 s3 ⟨y,H2,I3,ry,q3⟩=>thn (hop b s3 σ H2 v y u w3 _ I3 ru ry q3) λw4 s4 ⟨z,H3,I4,rz,g,e,d,l',q4⟩=> ?_;exact EZ I4 d c n l' rz λs5 I5=>⟨σ,_,I5,q4⟩
inductive rAdd (x:V) (y:V) (H:Hp) (Q:VK):Prop
 |mk:∀i j,(x=.int i)->(y=.int j)->(Q (.int (i+j)) H)->rAdd x y H Q
theorem c8Z:eWZ X .Add rAdd:=by
 rintro a s σ H x y u v Q I rx ry ⟨i,j,rfl,rfl,q⟩;obtain⟨t,rfl⟩:=(show∃t,u=Value.int i t from rx);obtain⟨t',rfl⟩:=(show∃t',v=Value.int j t' from ry);exact PyProof.Rows.iadd_int ⟨.int (i+j),H,I.tok _,⟨_,rfl⟩,q⟩
inductive TyOf(Z:FZ)(H:Hp):V->Value->Prop where
 |non:TyOf Z H .non (.type "NoneType")
 |bl (x:Bool):TyOf Z H (.bl x) (.type "bool")
 |int (i:Int):TyOf Z H (.int i) (.type "int")
 |str (x:Str):TyOf Z H (.str x) (.type "str")
 |flt (x:UInt64):TyOf Z H (.flt x) (.type "float")
 |lst {a:Addr} {xs:List V} (e:H a=some (.lst xs)):TyOf Z H (.ref a) (.type "list")
 |frz {a:Addr} {o:Obj} {xs:List V} (e:H a=some (.frz o (.lst xs))):TyOf Z H (.ref a) (.type "list")
 |tup {a:Addr} {xs:List V} (e:H a=some (.tup xs)):TyOf Z H (.ref a) (.type "tuple")
 |dK {a:Addr} {kvs:List (Key×V)} (e:H a=some (.dK kvs)):TyOf Z H (.ref a) (.type "dict")
 |dT {a:Addr} {kvs:List (List Key×V)} (e:H a=some (.dT kvs)):TyOf Z H (.ref a) (.type "dict")
 |ins {a C dx:Addr} {fs:List (Str×V)} (e:H a=some (.ins C dx fs)) (cl:Cls Z C) (ha:findIn Z (.ref C) "__class__"=some (some (.builtin "object.__class__")))
   (hn:W.specialIn Z (.builtin "object.__class__") "__get__"=some (some (.builtin "getset_descriptor.__get__"))) (htk:W.takesIn Z (.builtin "object.__class__")=some true)
   (hm:W.mroIn Z C (.type "object")=some true):TyOf Z H (.ref a) (.ref C)
theorem UR{H:Hp}{A:Around}{E:Value->Shared->Prop}{Q:Value->Shared->Prop}{b:Bool}(I:Inv X N σ H s)(rx:RelV x u)(ty:TyOf X.K H x t)(e:kitOne X.K t c=some b)(h:∀tk,Q (.bool b) {s with toks:=tk}):
  wpAny (model X.prog X.w) A (call (.builtin "isinstance") [u,c]) Q E s:=by
 cases ty with
 |non=>cases(show u=Value.none from rx);exact kia_one W.kitx_none I.kIn True.intro e (λz=>nomatch z) h
 |bl y=>cases(show u=Value.bool y from rx);exact kia_one W.kitx_bool I.kIn True.intro e (λz=>nomatch z) h
 |int i=>obtain⟨t,q⟩:=(show∃t,u=Value.int i t from rx);cases q;exact kia_one W.kitx_int I.kIn True.intro e (λz=>nomatch z) h
 |str y=>obtain⟨t,q⟩:=(show∃t,u=Value.str y t from rx);cases q;exact kia_one W.kitx_str I.kIn True.intro e (λz=>nomatch z) h
 |flt y=>obtain⟨t,q⟩:=(show∃t,u=Value.float y t from rx);cases q;exact kia_one W.kitx_float I.kIn True.intro e (λz=>nomatch z) h
 | @lst a xs ea=>
  cases(show u=Value.ref a from rx);obtain⟨_,_,n,_,h1⟩:=(show ObjOk X.prog X.w H s.heap a (.lst xs)from I.hok a _ ea);exact kia_one W.kitx_list I.kIn ⟨_,h1,rfl⟩ e (λz=>nomatch z) h
 | @frz a ob xs ea=>
  cases(show u=Value.ref a from rx);obtain⟨_,_,_,n,_,h1⟩:=(show ObjOk X.prog X.w H s.heap a (.frz ob (.lst xs))from I.hok a _ ea);exact kia_one W.kitx_list I.kIn ⟨_,h1,rfl⟩ e (λz=>nomatch z) h
 | @tup a xs ea=>
  cases(show u=Value.ref a from rx);obtain⟨_,_,_,p⟩:=(show ObjOk X.prog X.w H s.heap a (.tup xs)from I.hok a _ ea);obtain⟨o,h1,h2,_⟩:=p;exact kia_one W.kitx_tuple I.kIn ⟨o,h1,h2⟩ e (λz=>nomatch z) h
 | @dK a kvs ea=>
  cases(show u=Value.ref a from rx);obtain⟨_,_,vs,_,p⟩:=(show ObjOk X.prog X.w H s.heap a (.dK kvs)from I.hok a _ ea);obtain⟨o,es,ep,h1,h2,_⟩:=p;exact kia_one W.kitx_dict I.kIn ⟨o,h1,h2.1⟩ e (λz=>nomatch z) h
 | @dT a kvs ea=>
  cases(show u=Value.ref a from rx);obtain⟨_,_,xs,_,o,es,ep,h1,h2,_⟩:=(show ObjOk X.prog X.w H s.heap a (.dT kvs)from I.hok a _ ea);exact kia_one W.kitx_dict I.kIn ⟨o,h1,h2.1⟩ e (λz=>nomatch z) h
 | @ins a C dx fs ea cl ha hn htk hm=>
  cases(show u=Value.ref a from rx);obtain⟨mA,O,_⟩:=DA I.hok ea;obtain⟨od,J,_⟩:=O.look;exact kia_one (W.kitx_own (cl.get _) cl.hd ha hn htk hm) I.kIn J e (λz=>nomatch z) h
end
structure Room (k:Nat) (A:Around):Prop where
 hd:A.handled=none
 dp:A.depth+3*k+5<recursionLimit
 un:A.units+16*k+200<cLine
theorem Room.mono{j:Nat}(r:Room k A)(h:j<=k):Room j A:=⟨r.hd,by have:=r.dp;omega,by have:=r.un;omega⟩
theorem Room.deeper{k:Nat}(r:Room (k+1) A)(env:Env):Room k (A.deeper env):=
 ⟨r.hd,by have:=r.dp;show A.depth+1+3*k+5<_;omega,by have:=r.un;show A.units+3+16*k+200<_;omega⟩
theorem OE{A:Around}{us:List Value}{kw:List (Str×Value)}:(A.under (.builtin "type.__call__" ⟨.ref C::us,kw⟩)).depth=A.depth+1:=by
 first|rfl|simp[Around.under,Code.weight,Code.isCreation,Code.isGuard,Code.isCaller,Code.frames,Code.isFrame,guardIds]
theorem OQ{A:Around}{us:List Value}{kw:List (Str×Value)}:(A.under (.builtin "type.__call__" ⟨.ref C::us,kw⟩)).units=A.units+1:=by
 first|rfl|simp[Around.under,Code.cUnits,Code.frames,Code.isFrame]
theorem Room.make{k:Nat}(r:Room (k+1) A)(C:Addr)(us:List Value)(kw:List (Str×Value)):Room k (A.under (.builtin "type.__call__" ⟨.ref C::us,kw⟩)):=
 ⟨r.hd,by have:=r.dp;rw[OE];omega,by have:=r.un;rw[OQ];omega⟩
theorem Room.depth(r:Room k A):A.depth<recursionLimit:=by have:=r.dp;omega
theorem Room.units(r:Room k A):A.units+64<cLine:=by have:=r.un;omega
theorem Room.units0(r:Room k A):A.units<cLine:=by have:=r.un;omega
def TU:TA:=λ_ H Q=>Q [] H
def ZR(ta:TE)(tr:TA):TA:=fun σ H Q=>ta σ H λx H1=>tr σ H1 λxs H2=>Q (x::xs) H2
section
theorem A5:PA X [] TU:=λ_ _ _ _ H Q I h=>Calls.spliced_nil ⟨[],H,I,.nil,h⟩
theorem A0(ha:PE X e te)(hr:PA X es t)(hs:starEach (e::es) X.env=(false,eval e X.env)::starEach es X.env:=by rfl):PA X (e::es) (ZR te t):=by
 intro b a s σ H Q I h;rw[hs];show wpAny _ _ (spliced ((false,eval e X.env)::backTo b (starEach es X.env))) _ _ s;refine Calls.spliced_cons (thn (ha a s σ H _ I h) λu s1 ⟨x,H1,I1,r1,q1⟩=> ?_);exact thn (hr b a s1 σ H1 _ I1 q1) λus s2 ⟨xs,H2,I2,r2,q2⟩=>⟨x::xs,H2,I2,.cons r1 r2,q2⟩
inductive tTupW (Q:VK) (xs:List V) (H1:Hp):Prop
 |mk:(xs.length<=sizeLine)->(∀p,H1 p=none->Q (.ref p) (upd H1 p (.tup xs)))->tTupW Q xs H1
def fLZ(t:TA):TE:=fun σ H Q=>t σ H λxs H1=>tTupW Q xs H1
inductive tLstW (Q:VK) (xs:List V) (H1:Hp):Prop
 |mk:(xs.length<=sizeLine)->(∀p,H1 p=none->Q (.ref p) (upd H1 p (.lst xs)))->tLstW Q xs H1
def fBZ(t:TA):TE:=fun σ H Q=>t σ H λxs H1=>tLstW Q xs H1
theorem B4{x1}(h:PA X es t):PE X (.Tuple es x1 pos) (fLZ t):=by
 intro a s σ H Q I hq;refine wpAny_Tuple_spliced (thn (h pos a s σ H _ I hq) λus s1 ⟨xs,H1,I1,r,z,q⟩=>⟨by rw[<-r.length];exact z, ?_⟩);have hf:H1 s1.heap.objs.size=none:=I1.hok.fresh (le_refl _);refine⟨.ref s1.heap.objs.size,upd H1 s1.heap.objs.size (.tup xs),I1.laid (t':=s1.toks) (λb u e=>gZ _ e) (le_refl _) ?_,rfl,q _ hf⟩;exact⟨z,us,r,⟨_,get?_push_size _ rfl,rfl,_,rfl⟩⟩
theorem C8(h:PA X es t):PE X (.List es pos) (fBZ t):=by
 intro a s σ H Q I hq;refine wpAny_List_spliced (thn (h pos a s σ H _ I hq) λus s1 ⟨xs,H1,I1,r,z,q⟩=>⟨by rw[<-r.length];exact z, ?_⟩);have hf:H1 s1.heap.objs.size=none:=I1.hok.fresh (le_refl _);refine⟨.ref s1.heap.objs.size,upd H1 s1.heap.objs.size (.lst xs),I1.laid (t':=s1.toks) (λb u e=>gZ _ e) (le_refl _) ?_,rfl,q _ hf⟩;exact⟨z,us,0,r,get?_push_size _ rfl⟩
end
abbrev Sp:=List V->Hp->VK->XK->Prop
abbrev CXT:=List Env->Hp->Shared->XK->Value->Shared->Prop
structure Env0 (P:Program) (w:World) (Z:FZ) (mg:Str->Option Value) (qB:Heap) (A:Around) (outer:List Env) (s:Shared) (H:Hp):Prop where
 frames:A.frames=some outer
 mod:Mod Z mg qB
 bs:∀b o,qB.get? b=some o->s.heap.get? b=some o/\H b=none
 bsz:qB.objs.size<=s.heap.objs.size
 funs:s.heap.FunFrames qB outer
 frf:∀b∈frs outer,H b=none
 hok:HOk P w H s.heap
 bare:AllBare s.gens
def CE(outer:List Env)(P:Program)(w:World)(H:Hp)(s:Shared)(Q:VK)(u:Value)(s':Shared):Prop:=
 ∃v H',s'.os=s.os/\AllBare s'.gens/\Un (frs outer) [] H H' s.heap s'.heap/\HOk P w H' s'.heap/\RelV v u/\Q v H'
def CR(CX:CXT)(outer:List Env)(P:Program)(w:World)(H:Hp)(s:Shared)(Q:VK)(E:XK)(r:Result)(s':Shared):Prop:=
 match r with
 | .ok (.ret u)=>CE outer P w H s Q u s'
 | .ok _=>False
 | .error e=>CX outer H s E e s'
structure FnOk (P:Program) (w:World) (Z:FZ) (mg:Str->Option Value) (qB:Heap) (CX:CXT) (k:Nat) (f:Addr) (fd:FuncData) (ps:List Str) (sp:Sp):Prop where
 len:∀vs H Q E,sp vs H Q E->vs.length=ps.length
 run:∀(A:Around) (outer:List Env) (s:Shared) (H:Hp) (args:Args) (us:List Value) (vs:List V) (Q:VK) (E:XK),Room k A->Env0 P w Z mg qB A outer s H->BindsTo s fd args (ps.zip us)->Vals vs us->sp vs H Q E->
  codeAny (model P w) A (.call (.ref f) args) (CR CX outer P w H s Q E) s
theorem FnOk.mono{k:Nat}{sp:Sp}(F:FnOk P w Z mg qB CX j f fd ps sp)(h:j<=k):
  FnOk P w Z mg qB CX k f fd ps sp:=⟨F.len,λA a s H b us vs Q E hr=>F.run A a s H b us vs Q E (hr.mono h)⟩
theorem FnOk.imp{sp sp':Sp}(F:FnOk P w Z mg qB CX k f fd ps sp)
  (h:∀vs H Q E,sp' vs H Q E->sp vs H Q E):FnOk P w Z mg qB CX k f fd ps sp':=
 ⟨λvs H Q E q=>F.len vs H Q E (h _ _ _ _ q),λA a s H b us vs Q E hr he hb hv hs=>F.run A a s H b us vs Q E hr he hb hv (h _ _ _ _ hs)⟩
theorem Env0.make(e:Env0 P w Z mg qB A outer s H)(C:Addr)(us:List Value)(kw:List (Str×Value)):
  Env0 P w Z mg qB (A.under (.builtin "type.__call__" ⟨.ref C::us,kw⟩)) outer s H:=⟨by first|exact e.frames|(simpa [Around.under,Code.envs,Code.isFrame,pushEnvs]using e.frames),e.mod,e.bs,e.bsz,e.funs,e.frf,e.hok,e.bare⟩
section
theorem Inv.env0{H:Hp}(I:Inv X N σ H s):Env0 X.prog X.w X.K X.mg X.qB X.A X.stack s H:=
 ⟨I.ok.frames,I.ok.mod,I.bs,le_trans I.ok.bsz I.sz,I.stack,I.stkFree,I.hok,I.bare⟩
theorem Inv.after{H:Hp}{Q:VK}(I:Inv X N σ H s)(h:CE X.stack X.prog X.w H s Q u s'):EP X N σ Q u s':=by
 obtain⟨v,H',os,a,un,e,r,q⟩:=h;obtain⟨hh,g,d,t,c⟩:=s';obtain rfl:c=s.os:=os;exact⟨v,H',I.call (h':=hh) (g':=g) (d':=d) (t':=t) (ch:=[]) un e a (λb z=>absurd z (by simp)),r,q⟩
end
def bOZ(sp:Sp)(dvs:List V)(E:XK)(t:TA):TE:=fun σ H Q=>t σ H λvs H1=>sp (vs++dvs) H1 Q E
inductive tMethW (C:Addr) (m:Str) (sp:Sp) (dvs:List V) (E:XK) (t:TA) (σ:St) (Q:VK) (x:V) (H1:Hp):Prop
 |mk:∀a dx fs,(x=.ref a)->(H1 a=some (.ins C dx fs))->(fs.lookup m=none)->(t σ H1 λvs H2=>sp (x::(vs++dvs)) H2 Q E)->tMethW C m sp dvs E t σ Q x H1
def PX(C:Addr)(m:Str)(sp:Sp)(dvs:List V)(E:XK)(ta:TE)(t:TA):TE:=fun σ H Q=>ta σ H λx H1=>tMethW C m sp dvs E t σ Q x H1
def bMZ(C:Addr)(sp:Sp)(dvs:List V)(E:XK)(t:TA):TE:=fun σ H Q=>t σ H λvs H1=>∀x dx,H1 x=none->H1 dx=none->dx≠x->
 sp (.ref x::(vs++dvs)) (upd (upd H1 dx (.own x)) x (.ins C dx [])) (λv H2=>v=.non/\Q (.ref x) H2) E
def Binds(Z:FZ)(fd:FuncData)(ps:List Str)(ds:List Value):Prop:=
 ∀(s:Shared) (us:List Value),Z.In s.heap->(us++ds).length=ps.length->BindsTo s fd ⟨us,[]⟩ (ps.zip (us++ds))
theorem Binds.all{ps:List Str}(h:∀us:List Value,us.length=ps.length->bindArgs fd ⟨us,[]⟩=pure (ps.zip us)):Binds Z fd ps []:=λs us _ hl=>by
 rw[append_nil]at hl⊢;exact .of_eq (h us hl)
def R6(CX:CXT)(X:Cx)(E:XK):Prop:=∀(N:List (Addr×Obj)) (σ:St) (H:Hp) (s:Shared) (e:Value) (s':Shared),Inv X N σ H s->CX X.stack H s E e s'->X.xe e s'
section
theorem EO{X:Cx}{sp:Sp}{H:Hp}{Q:VK}(F:FnOk X.prog X.w X.K X.mg X.qB CX k f fd ps sp)(hr:Room k X.A)(hb:Binds X.K fd ps ds)(hd:Vals dvs ds)(hx:R6 CX X E)
  (I:Inv X N σ H s)(r:Vals vs us)(h:sp (vs++dvs) H Q E):wpAny (model X.prog X.w) X.A (call (.ref f) us) (EP X N σ Q) X.xe s:=by
 have r2:Vals (vs++dvs) (us++ds):=r.append hd;have hl:(us++ds).length=ps.length:=by rw[<-r2.length];exact F.len _ _ _ _ h
 refine wpAny_call (codeAny_mono (F.run X.A X.stack s H ⟨us,[]⟩ (us++ds) (vs++dvs) Q E hr I.env0 (hb s us I.kIn hl) r2 h) λr s' hq=> ?_);cases r with
 |error e=>exact hx N σ H s e s' I hq
 |ok fl=>
  cases fl with
  |ret u=>exact I.after hq
  |next=>exact False.elim hq
  |brk=>exact False.elim hq
  |cont=>exact False.elim hq
theorem D6{X:Cx}{sp:Sp}{e:Expr}{es:List Expr}(F:FnOk X.prog X.w X.K X.mg X.qB CX k f fd ps sp)(hr:Room k X.A)(hg:Gl X x)(hm:X.mg x=some (.ref f))(hk:kZ X.K (.ref f)=true)(hb:Binds X.K fd ps ds)(hd:Vals dvs ds)(hx:R6 CX X E)
  (ha:PA X (e::es) t)(hdb:(x==("__debug__":Str))=false:=by decide)(he:starEach (e::es) X.env=(false,eval e X.env)::starEach es X.env:=by rfl)(hpl:(backTo pos (starEach es X.env)).any (·.1)=false:=by rfl):
  PE X (.Call (.Name x p) (e::es) [] pos) (bOZ sp dvs E t):=by
 intro a s σ H Q I h;refine wpAny_Call_Name_kw (AA I hg hm ?_ hdb);refine callWith_K (h₀:=X.qB) I.ok.mod.kin hk (thn (ha pos a s σ H _ I h) λus s1 ⟨vs,H1,I1,r,q⟩=>⟨I1.kIn, ?_⟩) he hpl;exact EO F hr hb hd hx I1 r q
theorem a3Z{sp:Sp}{e:Expr}{es:List Expr}(he:PE X o ta)(c:Cls X.K C)(hm:Meth X.K C m f)(F:FnOk X.prog X.w X.K X.mg X.qB CX k f fd ps sp)(hr:Room k X.A)(hb:Binds X.K fd ps ds)(hd:Vals dvs ds)(hx:R6 CX X E)(ha:PA X (e::es) t)
  (hst:starEach (e::es) X.env=(false,eval e X.env)::starEach es X.env:=by rfl)(hpl:(backTo pos (starEach es X.env)).any (·.1)=false:=by rfl)
  (ht:eval (.Call (.Attribute o m apos) (e::es) [] pos) X.env=(do
   let ov<-eval o X.env
   standAt apos.atName
   let(f,first)<-holding [ov] (getMethod ov m pl)
   callWith pos f first (backTo pos (starEach (e::es) X.env)) (backToKw pos (keywordEach [] X.env))):=by rfl):
  PE X (.Call (.Attribute o m apos) (e::es) [] pos) (PX C m sp dvs E ta t):=by
 intro b s σ H Q I h;refine W.methodCall_KW (pl:=pl) (thn (he b s σ H _ I h) λu s1 ⟨x,H1,I1,rx,a,dx,fs,ex,ea,l,q⟩=> ?_) ht;subst ex;obtain rfl:u=Value.ref a:=rx;refine DW I1 ea c hm l ?_;refine callWith_K (first:=[.ref a]) (h₀:=X.qB) I.ok.mod.kin hm.kp (thn (ha pos b s1 σ H1 _ I1 q) λus s2 ⟨vs,H2,I2,r,q2⟩=>⟨I2.kIn, ?_⟩) hst hpl;exact EO (us:=.ref a::us) (vs:=.ref a::vs) F hr hb hd hx I2 (.cons rfl r) q2
theorem XZ{sp:Sp}(he:PE X o ta)(c:Cls X.K C)(hm:Meth X.K C m f)(F:FnOk X.prog X.w X.K X.mg X.qB CX k f fd ps sp)(hr:Room k X.A)(hb:Binds X.K fd ps ds)(hd:Vals dvs ds)(hx:R6 CX X E)
  (ht:eval (.Call (.Attribute o m apos) [] [] pos) X.env=(do
   let ov<-eval o X.env
   standAt apos.atName
   let(f,first)<-holding [ov] (getMethod ov m pl)
   callWith pos f first (backTo pos (starEach [] X.env)) (backToKw pos (keywordEach [] X.env))):=by rfl):
  PE X (.Call (.Attribute o m apos) [] [] pos) (PX C m sp dvs E ta TU):=by
 intro b s σ H Q I h;refine W.methodCall_KW (pl:=pl) (thn (he b s σ H _ I h) λu s1 ⟨x,H1,I1,rx,a,dx,fs,ex,ea,l,q⟩=> ?_) ht;subst ex;obtain rfl:u=Value.ref a:=rx;refine DW I1 ea c hm l ?_;exact W.callWith_K0 (first:=[.ref a]) I1.kIn hm.kp (EO (us:=[.ref a]) (vs:=[.ref a]) F hr hb hd hx I1 (.cons rfl .nil) q)
structure Mk (Z:FZ) (C f:Addr):Prop where
 makes:W.makesIn Z C=true
 init:findIn Z (.ref C) "__init__"=some (some (.ref f))
 fn:W.isFn Z (.ref f)=true
 kp:kZ Z (.ref C)=true
theorem LZ{X:Cx}{sp:Sp}{H:Hp}{Q:VK}(M:Mk X.K C f)(F:FnOk X.prog X.w X.K X.mg X.qB CX k f fd ps sp)(hr:Room (k+1) X.A)(hb:Binds X.K fd ps ds)(hd:Vals dvs ds)
  (hx:R6 CX X E)(I:Inv X N σ H s)(r:Vals vs us)
  (h:∀x dx,H x=none->H dx=none->dx≠x->sp (.ref x::(vs++dvs)) (upd (upd H dx (.own x)) x (.ins C dx [])) (λv H2=>v=.non/\Q (.ref x) H2) E):
  wpAny (model X.prog X.w) X.A (call (.ref C) us) (EP X N σ Q) X.xe s:=by
 have hq:=h (s.heap.objs.size+1) s.heap.objs.size (I.hok.fresh (le_succ _)) (I.hok.fresh (le_refl _)) (ne_of_lt (lt_succ_self _));have I2:=Inv.made (C:=C) I;have r2:Vals (V.ref (s.heap.objs.size+1)::(vs++dvs)) (Value.ref (s.heap.objs.size+1)::(us++ds)):=.cons rfl (r.append hd);have hl:(Value.ref (s.heap.objs.size+1)::us++ds).length=ps.length:=by
  have e:=r2.length;rw[F.len _ _ _ _ hq]at e;exact e.symm
 refine wpAny_call (ZC (f:=f) I.kIn M.makes M.init (beq_iff_eq.mp M.fn) (codeAny_mono (F.run _ X.stack _ _ ⟨Value.ref (s.heap.objs.size+1)::us,[]⟩ (Value.ref (s.heap.objs.size+1)::(us++ds)) _ _ E (hr.make C us [])
  (I2.env0.make C us []) (hb _ (Value.ref (s.heap.objs.size+1)::us) I2.kIn hl) r2 hq) λr s' a=> ?_))
 cases r with
 |error e=>exact hx N σ _ _ e s' I2 a
 |ok fl=>
  cases fl with
  |ret u=>
   obtain⟨v,H',I3,rv,ev,q3⟩:=I2.after a;subst ev;exact⟨rv,⟨V.ref (s.heap.objs.size+1),H',I3,rfl,q3⟩⟩
  |next=>exact False.elim a
  |brk=>exact False.elim a
  |cont=>exact False.elim a
theorem aDZ{X:Cx}{sp:Sp}{e:Expr}{es:List Expr}(M:Mk X.K C f)(F:FnOk X.prog X.w X.K X.mg X.qB CX k f fd ps sp)(hr:Room (k+1) X.A)(hg:Gl X x)(hm:X.mg x=some (.ref C))(hb:Binds X.K fd ps ds)(hd:Vals dvs ds)(hx:R6 CX X E)
  (ha:PA X (e::es) t)(hdb:(x==("__debug__":Str))=false:=by decide)(he:starEach (e::es) X.env=(false,eval e X.env)::starEach es X.env:=by rfl)(hpl:(backTo pos (starEach es X.env)).any (·.1)=false:=by rfl):
  PE X (.Call (.Name x p) (e::es) [] pos) (bMZ C sp dvs E t):=by
 intro a s σ H Q I h;refine wpAny_Call_Name_kw (AA I hg hm ?_ hdb);refine callWith_K (h₀:=X.qB) I.ok.mod.kin M.kp (thn (ha pos a s σ H _ I h) λus s1 ⟨vs,H1,I1,r,q⟩=>⟨I1.kIn, ?_⟩) he hpl;exact LZ M F hr hb hd hx I1 r q
theorem XG{X:Cx}{sp:Sp}(M:Mk X.K C f)(F:FnOk X.prog X.w X.K X.mg X.qB CX k f fd ps sp)(hr:Room (k+1) X.A)(hg:Gl X x)(hm:X.mg x=some (.ref C))(hb:Binds X.K fd ps ds)(hd:Vals dvs ds)(hx:R6 CX X E)
  (hdb:(x==("__debug__":Str))=false:=by decide):PE X (.Call (.Name x p) [] [] pos) (bMZ C sp dvs E TU):=by
 intro a s σ H Q I h;refine wpAny_Call_Name_kw (AA I hg hm ?_ hdb);exact W.callWith_K0 I.kIn M.kp (LZ (us:=[]) M F hr hb hd hx I .nil h)
end
structure FnScope(N P:List Str)(sc:Scope):Prop where
 kind:sc.kind=.function
 co:sc.isCoroutine=false
 gen:sc.isGenerator=false
 nd:N.Nodup
 pre:N.take P.length=P
 par:∀x∈P,sc.names.lookup x=some .local\/sc.names.lookup x=some .cell
 nofree:∀y∈sc.names,y.2≠ .free
theorem GD{kindOf:Str->Option NameKind}{x:Str}:∀ {binds:List (Str×Value)} {m:Str->Option Value},(∀v,(x,v)∉binds)->bindL kindOf binds m x=m x
 | [],_,_=>rfl
 |(n,v)::r,m,h=>by
  unfold bindL;rw[GD λw hw=>h w (mem_cons_of_mem _ hw)];split
  ·have:x≠n:=by rintro rfl;exact h v mem_cons_self
   simp[this]
  ·rfl
theorem GC{kindOf:Str->Option NameKind}{x:Str}:∀ {binds:List (Str×Value)} {m:Str->Option Value},(∀v,(x,v)∉binds)->bindC kindOf binds m x=m x
 | [],_,_=>rfl
 |(n,v)::r,m,h=>by
  unfold bindC;rw[GC λw hw=>h w (mem_cons_of_mem _ hw)];split
  ·rfl
  ·have:x≠n:=by rintro rfl;exact h v mem_cons_self
   simp[this]
theorem GB{kindOf:Str->Option NameKind}{x:Str}{v:Value}:∀ {P:List Str} {vs:List Value} {i:Nat} {m:Str->Option Value},P.Nodup->P[i]? =some x->vs[i]? =some v->kindOf x=some .local->
  bindL kindOf (P.zip vs) m x=some v
 | [],_,_,_,_,h,_,_=>by simp at h
 |_::_,[],_,_,_,_,h,_=>by simp at h
 |p::P,w::vs,0,m,nd,h1,h2,hk=>by
  simp at h1 h2;subst h1;subst h2;show bindL kindOf ((p,w)::P.zip vs) m p=_;unfold bindL;rw[GD λv hv=>(nodup_cons.mp nd).1 (of_mem_zip hv).1,if_pos hk];simp
 |p::P,w::vs,i+1,m,nd,h1,h2,hk=>by
  show bindL kindOf ((p,w)::P.zip vs) m x=_;unfold bindL;exact GB (i:=i) (nodup_cons.mp nd).2 (by simpa using h1) (by simpa using h2) hk
theorem GJ{kindOf:Str->Option NameKind}{x:Str}{v:Value}:∀ {P:List Str} {vs:List Value} {i:Nat} {m:Str->Option Value},P.Nodup->P[i]? =some x->vs[i]? =some v->kindOf x≠some .local->
  bindC kindOf (P.zip vs) m x=some v
 | [],_,_,_,_,h,_,_=>by simp at h
 |_::_,[],_,_,_,_,h,_=>by simp at h
 |p::P,w::vs,0,m,nd,h1,h2,hk=>by
  simp at h1 h2;subst h1;subst h2;show bindC kindOf ((p,w)::P.zip vs) m p=_;unfold bindC;rw[GC λv hv=>(nodup_cons.mp nd).1 (of_mem_zip hv).1,if_neg hk];simp
 |p::P,w::vs,i+1,m,nd,h1,h2,hk=>by
  show bindC kindOf ((p,w)::P.zip vs) m x=_;unfold bindC;exact GJ (i:=i) (nodup_cons.mp nd).2 (by simpa using h1) (by simpa using h2) hk
def start(N:List Str)(vs:List V):St:=vs.map some++List.replicate (N.length - vs.length) none
noncomputable def HL(CX:CXT)(P:Program)(w:World)(Z:FZ)(mg:Str->Option Value)(qB:Heap)(N:List Str)(qual:Str)(scope:Scope)(f:Addr)(cd:Value)(A:Around)(outer:List Env)(s:Shared)(H:Hp)(E:XK):Cx where
 prog:=P
 w:=w
 K:=Z
 mg:=mg
 qB:=qB
 A:=A.deeper (envOfC qual scope s.heap.objs.size f cd)
 N:=N
 s₀:=s
 H₀:=H
 env:=envOfC qual scope s.heap.objs.size f cd
 outer:=outer
 stack:=envOfC qual scope s.heap.objs.size f cd::outer
 ex:=[]
 calm:=true
 fn:=λ_=>true
 pn:=[]
 xe:=λe s'=>wpAny (model P w) (A.deeper (envOfC qual scope s.heap.objs.size f cd)) (leaving (envOfC qual scope s.heap.objs.size f cd) e) (λ_ s''=>CX outer H s E e s'') (λe' s''=>CX outer H s E e' s'') s'
theorem KA{sc:Scope}(h:sc.names.lookup x=some .cell):∃c,(cellsFrom n sc.names []).lookup x=some c:=by
 have q:=W.cellsFrom_some sc.names n [] (.inl h);exact Option.isSome_iff_exists.mp q
theorem SM{A:Around}{vs:List V}
  (S:FnScope N ps scope)(hd:A.handled=none)(e0:Env0 P w Z mg qB A outer s H)(hl:vs.length=ps.length)(r:Vals vs us)
  (x:InCallC s s.heap.objs.size (bindL (envOfC qual scope s.heap.objs.size f cd).kindOf (ps.zip us) λ_=>none) (cellsFrom (s.heap.objs.size+1) scope.names []) (bindC (envOfC qual scope s.heap.objs.size f cd).kindOf (ps.zip us) λ_=>none) s1):
  Inv (HL CX P w Z mg qB N qual scope f cd A outer s H E) [] (start N vs) H s1:=by
 have j:ps.length<=N.length:=by have:=congrArg List.length S.pre;rw[length_take]at this;omega
 obtain⟨h1,tk,rfl,hk⟩:=x.done;have d:∀b:Addr,b∉(HL CX P w Z mg qB N qual scope f cd A outer s H E).ex:=λb z=>absurd (show b∈([]:List Addr)from z) (by simp);refine⟨⟨e0.mod,S.kind,rfl,rfl,le_refl _,λy z c h1 h2=> ?_,λy hy=> ?_,λy c _ h=> ?_,λ_=>hd,Around.frames_deeper e0.frames,.inr ⟨rfl,rfl⟩,λb z=>absurd z (d b),e0.bs,e0.bsz,λb _ _=>d b,λb z=>absurd z (d b),e0.funs,e0.frf⟩,
  rfl,e0.bare,Un.kept hk,⟨_,x.toInCall.ns,λi y v h1 h2 h3=> ?_⟩,λy c h=>⟨_,x.cell y c h⟩,e0.hok.fresh (le_refl _),λy c h=> ?_,λp hp=>absurd (show p∈([]:List (Addr×Obj))from hp) (by simp),e0.hok.kept hk, ?_⟩
 ·exact name_of_addr x.apart (PySem.mem_of_lookup h1) (PySem.mem_of_lookup h2)
 ·have hy:scope.names.lookup y=some .cell\/scope.names.lookup y=some .free:=hy;rcases hy with hy|hy
  ·exact KA hy
  ·exact absurd rfl (S.nofree _ (PySem.mem_of_lookup hy))
 ·exact le_of_lt (x.above y c (PySem.mem_of_lookup h))
 ·have hi:i<vs.length:=by
   unfold start at h2;by_cases hi:i<vs.length
   ·exact hi
   ·rw[getElem?_append_right (by simpa using hi)]at h2;rw[getElem?_replicate]at h2;split at h2<;>cases h2
  have ha:vs[i]? =some v:=by
   unfold start at h2;rw[getElem?_append_left (by simpa using hi),getElem?_map]at h2;cases e:vs[i]? with
   |none=>rw[e]at h2;cases h2
   |some a=>rw[e]at h2;cases h2;rfl
  obtain⟨u,hu,rv⟩:=r.get ha;have hp:ps[i]? =some y:=by
   rw[<-S.pre,List.getElem?_take_of_lt (by omega)];exact h1
  have g:ps.Nodup:=by rw[<-S.pre];exact S.nd.sublist (List.take_sublist _ _)
  refine⟨u,rv, ?_⟩;rcases S.par y (mem_of_getElem? hp)with k|k
  ·exact .inl ⟨k,GB g hp hu k⟩
  ·obtain⟨c,e⟩:=KA (n:=s.heap.objs.size+1) k;refine .inr ⟨.inl k,c,e, ?_⟩;have q:=x.cell y c e;rw[GJ g hp hu (by show scope.names.lookup y≠_;rw[k];decide)]at q;exact q
 ·exact e0.hok.fresh (le_of_lt (x.above y c (PySem.mem_of_lookup h)))
 ·unfold start;show _=N.length;rw[length_append,length_map,length_replicate];omega
theorem bGZ{Z:FZ}{kV oc:Value}{od:Option Addr}
  {osl:Array (Option Value)}{sp:Sp}(lk:Z.lookup f=some ⟨oc,od,.func (fnOf name qual params body scope dV kV doc pm an cdv ct),osl⟩)(hcd:codeIn Z cdv qual=true)(S:FnScope N ps scope)
  (len:∀vs H Q E,sp vs H Q E->vs.length=ps.length)
  (hbody:∀(A:Around) (outer:List Env) (s:Shared) (H:Hp) (vs:List V) (Q:VK) (E:XK),Room k (A.deeper (envOfC qual scope s.heap.objs.size f cdv))->sp vs H Q E->
   ∃t,PSs (HL CX P w Z mg qB N qual scope f cdv A outer s H E) body t/\t {nx:=λ_ H'=>Q .non H',rt:=Q} (start N vs) H):
  FnOk P w Z mg qB CX (k+1) f (fnOf name qual params body scope dV kV doc pm an cdv ct) ps sp:=by
 refine⟨len,λA outer s H h us vs Q E hr e0 hb r c=> ?_⟩;have hl:=len _ _ _ _ c;have KX:Z.In s.heap:=e0.mod.kin.keeps λb o e=>(e0.bs b o e).1;have g:s.heap.NoLimit:=e0.mod.nolimit.keeps λb o e=>(e0.bs b o e).1;have a:∀y∈ps.zip us,scope.names.lookup y.1=some .local\/(scope.names.lookup y.1=some .cell/\((cellsFrom (s.heap.objs.size+1) scope.names []).lookup y.1).isSome=true):=λ⟨n,v⟩ hy=>by
  rcases S.par n (of_mem_zip hy).1 with q|q
  ·exact .inl q
  ·exact .inr ⟨q,W.cellsFrom_some _ _ _ (.inl q)⟩
 refine codeAny_call_function hr.depth (KX _ _ lk) rfl S.co S.gen rfl (W.codeRec_of KX hcd) (hb _ _ _ _ ?_);refine wpAny_newFunctionEnv_cells S.kind a λi he s1 x=> ?_;subst he;refine⟨g.keeps x.toInCall.keep,codeAny_func ?_⟩;obtain⟨t,ht,hq⟩:=hbody A outer s H vs Q E (hr.deeper _) c;have I:Inv (HL CX P w Z mg qB N qual scope f cdv A outer s H E) [] (start N vs) H s1:=SM S hr.hd e0 hl r x;refine wpAny_mono (ht [] s1 (start N vs) H _ I hq) (λfl s' hs=> ?_) λe s' hs=>hs;have d:∀ {σ':St} {H':Hp} {v:V} {u:Value},Inv (HL CX P w Z mg qB N qual scope f cdv A outer s H E) [] σ' H' s'->RelV v u->Q v H'->CE outer P w H s Q u s':=
  λ{σ' H' v u} J rv q=>⟨v,H',J.os,J.bare,J.qB,J.hok,rv,q⟩
 cases fl with
 |ret u=>
  obtain⟨v,σ',H',J,rv,q⟩:=hs;exact d J rv q
 |next=>
  obtain⟨σ',H',J,q⟩:=hs;exact d (v:=V.non) (u:=Value.none) J rfl q
 |brk=>
  obtain⟨_,_,_,q⟩:=hs;exact False.elim q
 |cont=>
  obtain⟨_,_,_,q⟩:=hs;exact False.elim q
section
def tCB(r:List V->Hp->VK->Prop)(t:TA):TE:=fun σ H Q=>t σ H λvs H1=>r vs H1 Q
theorem F2{e:Expr}{es:List Expr}{id:String}(hc:CallR X (.builtin id) r)(hg:Gl X x)(hm:X.mg x=none)(hv:bootBuiltins x=some (.builtin id))(ha:PA X (e::es) t)(hn:x≠ "__name__":=by decide)(hdb:(x==("__debug__":Str))=false:=by decide)
  (he:starEach (e::es) X.env=(false,eval e X.env)::starEach es X.env:=by rfl)(hpl:(backTo pos (starEach es X.env)).any (·.1)=false:=by rfl):PE X (.Call (.Name x p) (e::es) [] pos) (tCB r t):=by
 intro a s σ H Q I h;refine wpAny_Call_Name_kw (U9 I hg hm hv ?_ hn hdb);exact PyProof.Rows.callWith_builtin1 (thn (ha pos a s σ H _ I h) λus s1 ⟨vs,H1,I1,r1,q1⟩=>hc a s1 σ H1 vs us Q I1 r1 q1) he hpl
theorem E6{e:Expr}{es:List Expr}(hc:CallR X (.type T) r)(hg:Gl X x)(hm:X.mg x=none)(hv:bootBuiltins x=some (.type T))(ha:PA X (e::es) t)(hn:x≠ "__name__":=by decide)(hdb:(x==("__debug__":Str))=false:=by decide)
  (he:starEach (e::es) X.env=(false,eval e X.env)::starEach es X.env:=by rfl)(hpl:(backTo pos (starEach es X.env)).any (·.1)=false:=by rfl):PE X (.Call (.Name x p) (e::es) [] pos) (tCB r t):=by
 intro a s σ H Q I h;refine wpAny_Call_Name_kw (U9 I hg hm hv ?_ hn hdb);exact callWith_type1 (thn (ha pos a s σ H _ I h) λus s1 ⟨vs,H1,I1,r1,q1⟩=>hc a s1 σ H1 vs us Q I1 r1 q1) he hpl
end
end _L
namespace HT
open PySem PyProof.Rows
section
open PySem.SeqAt
open PySem.AutoSeq1 (wpAny_loadPart')
open PySem.MeetsSeq PySem.MeetsSeq2 PySem.MeetsSeq3
end
section
theorem cat_tup{s:Shared}{vs ws:List Value}{Q:Value->Shared->Prop}(ht:IsTup s.heap t vs.toArray)(hb:IsTup s.heap b ws.toArray)(hv:vs≠ [])
  (h1:ws=[]->Q (.ref t) s)(h2:ws≠ []->Q (.ref s.heap.objs.size) {s with heap:=s.heap.push {cls:=.type "tuple",data:=.seq (vs++ws).toArray}})
  (hsz:vs.length+ws.length<=sizeLine):wpAny (model prog w) A (binaryOp .Add (.ref t) (.ref b)) Q E s:=by
 obtain⟨⟨cls,dd,data,sl⟩,ho,hc,n,hd⟩:=id ht;obtain⟨⟨i,g,h,c⟩,a,f,n2,d⟩:=id hb;simp only at hc hd f d;subst hc hd f d;have e:vs.toArray++ws.toArray=(vs++ws).toArray:=by simp
 by_cases hw:ws=[]
 ·exact concat_meets ⟨_,ho,rfl⟩ ⟨_,a,rfl⟩ noFill_tuple_add seq_tuple_add PySem.F.slot_tuple_add PySem.F.entry_tuple_add (PySem.F.args_tuple_add_2 _ _)
   (tuple_addW1 t b vs.toArray ws.toArray n n2 dd g sl c (by simpa using hv) (by simp[hw])) ⟨ho,a,h1 hw⟩
 ·refine concat_meets ⟨_,ho,rfl⟩ ⟨_,a,rfl⟩ noFill_tuple_add seq_tuple_add PySem.F.slot_tuple_add PySem.F.entry_tuple_add (PySem.F.args_tuple_add_2 _ _)
   (tuple_addW2 t b vs.toArray ws.toArray n n2 dd g sl c (by simpa using hv) (by simpa using hw) (by rw[size_toArray,size_toArray];exact hsz)) ⟨ho,a, ?_⟩
  rw[e];exact h2 hw
noncomputable def sIx(n d:Nat):Option Int->Nat
 |none=>d
 |some v=>if v<0 then(v+(n:Int)).toNat else min v.toNat n
theorem sIx_none(n d:Nat):sIx n d none=d:=rfl
theorem sIx_nat(n d k:Nat):sIx n d (some (k:Int))=min k n:=by
 show(if(k:Int)<0 then((k:Int)+(n:Int)).toNat else min (k:Int).toNat n)=min k n;rw[if_neg (by omega),Int.toNat_natCast]
theorem cMZ(n d:Nat)(hd:d<=n)(o:Option Int):sIx n d o<=n:=by
 cases o with
 |none=>exact hd
 |some v=>
  show(if v<0 then(v+(n:Int)).toNat else min v.toNat n)<=n;by_cases hv:v<0
  ·rw[if_pos hv];omega
  ·rw[if_neg hv];exact Nat.min_le_right _ _
theorem RJ(v:Int)(n d:Nat):(if v<0 then max (v+(n:Int)) 0 else min v (n:Int))=((sIx n d (some v):Nat):Int):=by
 show(if v<0 then max (v+(n:Int)) 0 else min v (n:Int))=(((if v<0 then(v+(n:Int)).toNat else min v.toNat n):Nat):Int);by_cases hv:v<0
 ·simp only[if_pos hv];omega
 ·simp only[if_neg hv];omega
theorem OK(lo hi:Option Int)(n:Nat):Builtin.Slice.sliceAdjust lo hi 1 (n:Int)=(((sIx n 0 lo:Nat):Int),((sIx n n hi:Nat):Int)):=by
 have h1:¬((1:Int)<0):=by omega
 unfold Builtin.Slice.sliceAdjust;simp only[h1,if_false];refine Prod.ext ?_ ?_
 ·cases lo with
  |none=>rfl
  |some v=>exact RJ v n 0
 ·cases hi with
  |none=>rfl
  |some v=>exact RJ v n n
theorem OP(i j:Nat):Builtin.Slice.slicePlaces (i:Int) (j:Int) 1=j - i:=by
 unfold Builtin.Slice.slicePlaces;have h1:(1:Int)>0:=by omega
 simp only[h1,if_true,Int.ediv_one];split<;>omega
theorem EW{s:Shared}{Q:Option Int->Shared->Prop}(p:IsPart v o)(h:Q o s):wpAny (model prog w) A (Builtin.Slice.slicePartIndex v) Q E s:=by
 cases p with
 |none=>exact slicePart_none h
 |int i t=>exact slicePart_int h
theorem P8{s:Shared}{vl:Value}{lo:Option Int}{Q:Int×Int×Nat->Shared->Prop}(hs:s.heap.IsSliceOf sl vl vu .none)(pl:IsPart vl lo)(pu:IsPart vu hi)
  (h:Q (((sIx n 0 lo:Nat):Int),1,sIx n n hi - sIx n 0 lo) s):wpAny (model prog w) A (Builtin.Slice.sliceApplied (.ref sl) (pure (n:Int))) Q E s:=by
 obtain⟨os,a,c,b⟩:=id hs;unfold Builtin.Slice.sliceApplied Builtin.Slice.sliceFields;refine bZ (bZ (wpAny_field a b (x:=vl) rfl (bZ (wpAny_field a b (x:=vu) rfl (bZ (wpAny_field a b (x:=.none) rfl (pZ ?_)))))));refine bZ (slicePart_none ?_);show wpAny _ _ (if((1:Int)==0)=true then _ else _) _ _ s;rw[if_neg (by decide)];refine bZ (EW pl (bZ (EW pu (bZ (pZ ?_)))));show wpAny _ _ (match Builtin.Slice.sliceAdjust lo hi 1 (n:Int)with|(lo,hi)=>pure (lo,(1:Int),Builtin.Slice.slicePlaces lo hi 1)) _ _ s;rw[OK lo hi n];show wpAny _ _ (pure (((sIx n 0 lo:Nat):Int),(1:Int),Builtin.Slice.slicePlaces ((sIx n 0 lo:Nat):Int) ((sIx n n hi:Nat):Int) 1)) _ _ s;rw[OP];exact pZ h
theorem VQ(xs:Array Value)(i k:Nat):((List.range k).filterMap λ(m:Nat)=>xs[((i:Int)+(m:Int)*1).toNat]?).toArray=((xs.toList.drop i).take k).toArray:=by
 have e:(λ(m:Nat)=>xs[((i:Int)+(m:Int)*1).toNat]?)=λm=>xs[i+m]? :=by
  funext m
  have:((i:Int)+(m:Int)*1).toNat=i+m:=by omega
  rw[this]
 rw[e];have:=pick_run xs i k;rw[List.filterMap_map]at this;have e2:((λx=>xs[x]?)∘λx=>i+x)=λm=>xs[i+m]? :=rfl;rw[e2]at this;rw[this]
theorem getItem_tuple_cut{s:Shared}{vl:Value}{lo:Option Int}{Q:Value->Shared->Prop}(ht:IsTup s.heap t items)(hs:s.heap.IsSliceOf sl vl vu .none)(pl:IsPart vl lo)(pu:IsPart vu hi)
  (hw:¬(sIx items.size 0 lo=0/\sIx items.size items.size hi=items.size))
  (h:Q (.ref s.heap.objs.size) {s with heap:=s.heap.push {cls:=.type "tuple",data:=.seq ((items.toList.drop (sIx items.size 0 lo)).take (sIx items.size items.size hi - sIx items.size 0 lo)).toArray}})
  (hsz:items.size<=sizeLine):wpAny (model prog w) A (getItem (.ref t) (.ref sl)) Q E s:=by
 have a:sizeOk (.seq ((items.toList.drop (sIx items.size 0 lo)).take (sIx items.size items.size hi - sIx items.size 0 lo)).toArray):=by
  show((items.toList.drop (sIx items.size 0 lo)).take (sIx items.size items.size hi - sIx items.size 0 lo)).toArray.size<=sizeLine;rw[size_toArray,length_take,length_drop,Array.length_toList];omega
 have hj:sIx items.size items.size hi<=items.size:=cMZ _ _ (le_refl _) hi;obtain⟨os,b,d,f⟩:=id hs;have e:s.TypeIs (.ref sl) "slice":=⟨os,b,d⟩;unfold getItem
 try with_reducible refine wpAny_holding ?_
 first|refine bZ (pZ ?_)|skip
 refine bZ (wpAny_sequenceKey ht.typeIs (by decide) ?_);refine bZ (wpAny_callSpecial?_slot (name:=Str.ofString "__getitem__") ht.typeIs PyProof.Rows.slot_tuple_getitem
  (wpAny_call_entry PyProof.Rows.slot_tuple_getitem ht.typeIs entry_tuple_getitem ?_ (args_tuple_getitem _ _)))
 show wpAny _ _ (Builtin.Tuple.tupleItemsOf (.ref t)>>=_) _ _ s;refine bZ (tupleItemsOf_ ht ?_);refine bZ (wpAny_typeOf e ?_);rw[if_pos (by decide)];refine bZ (P8 hs pl pu ?_);have c:¬((((sIx items.size 0 lo:Nat):Int)==0&&(1:Int)==1&&(sIx items.size items.size hi - sIx items.size 0 lo)==items.size)=true):=by
  intro q;rw[Bool.and_eq_true,Bool.and_eq_true]at q;have q1:((sIx items.size 0 lo:Nat):Int)=0:=eq_of_beq q.1.1;have q2:sIx items.size items.size hi - sIx items.size 0 lo=items.size:=eq_of_beq q.2;exact hw ⟨by omega,by omega⟩
 show wpAny _ _ (if(((sIx items.size 0 lo:Nat):Int)==0&&(1:Int)==1&&(sIx items.size items.size hi - sIx items.size 0 lo)==items.size)=true then _ else _) _ _ s;rw[if_neg c,VQ]
 first
  |exact bZ (m:=Builtin.Tuple.tupleExact _) (wpAny_newObj_type (pZ ⟨_,rfl,pZ h⟩) a)
  |exact bZ (m:=Builtin.Tuple.tupleExact _) (wpAny_newObj_type (bZ (pZ (pZ ⟨_,rfl,pZ h⟩))) a)
  |exact bZ (bZ (m:=Builtin.Tuple.tupleExact _) (wpAny_newObj_type (pZ (pZ ⟨_,rfl,pZ h⟩)) a))
  |exact bZ (bZ (m:=Builtin.Tuple.tupleExact _) (wpAny_newObj_type (pZ ⟨_,rfl,pZ h⟩) a))
end
end HT
namespace _L
open PySem PySem.Spec PyProof.Rows
abbrev TO:=St->Hp->(Option Int->Hp->Prop)->Prop
def PO(X:Cx)(e:Option Expr)(t:TO):Prop:=
 ∀(N:List (Addr×Obj)) (s:Shared) (σ:St) (H:Hp) (Q:Option Int->Hp->Prop),Inv X N σ H s->t σ H Q->
  wpAny (model X.prog X.w) X.A (evalPart e X.env) (λu s'=>∃o H',Inv X N σ H' s'/\IsPart u o/\Q o H') X.xe s
def aJZ:TO:=λ_ H Q=>Q none H
def esZ(t:TE):TO:=fun σ H Q=>t σ H λx H1=>∃i,x=.int i/\Q (some i) H1
theorem OW{ns:List Int}:∀ {us:List Value},Vals (ns.map V.int) us->IntsAre us ns:=by
 induction ns with
 |nil=>intro us r;rw[map_nil]at r;cases r;exact .nil
 |cons n ns ih=>
  intro us r;rw[map_cons]at r;cases r with
  |cons r1 r2=>
   obtain⟨t,e⟩:=r1;subst e;exact .cons n t (ih r2)
section
theorem O7:PO X none aJZ:=by
 intro a s σ H Q I h;rw[evalPart_none];exact pZ ⟨none,H,I,.none,h⟩
theorem M4(h:PE X e te):PO X (some e) (esZ te):=by
 intro a s σ H Q I hw;rw[evalPart_some];refine thn (h a s σ H _ I hw) λu s1 ⟨x,H1,I1,r1,q1⟩=> ?_;obtain⟨i,rfl,q⟩:=q1;obtain⟨t,rfl⟩:=r1;exact⟨some i,H1,I1,.int i t,q⟩
def SlR(X:Cx)(r:V->Option Int->Option Int->Hp->VK->Prop):Prop:=
 ∀(N:List (Addr×Obj)) (s:Shared) (σ:St) (H:Hp) (x:V) (v vl vu:Value) (lo hi:Option Int) (sl:Addr) (Q:VK),Inv X N σ H s->RelV x v->s.heap.IsSliceOf sl vl vu .none->IsPart vl lo->IsPart vu hi->r x lo hi H Q->
  ∃T id,typeLookup (.type T) "__getitem__"=pure (some (.builtin id))/\s.TypeIs v T/\wpAny (model X.prog X.w) X.A (getItem v (.ref sl)) (EP X N σ Q) X.xe s
theorem SlR.or(h:SlR X r)(h':SlR X r'):SlR X (λx lo hi H Q=>r x lo hi H Q\/r' x lo hi H Q):=by
 intro a s σ H x v vl vu lo hi sl Q I rx hs pl pu q;rcases q with q|q
 ·exact h a s σ H x v vl vu lo hi sl Q I rx hs pl pu q
 ·exact h' a s σ H x v vl vu lo hi sl Q I rx hs pl pu q
def tSl(r:V->Option Int->Option Int->Hp->VK->Prop)(te:TE)(tl th:TO):TE:=fun σ H Q=>te σ H λx H1=>tl σ H1 λl H2=>th σ H2 λu H3=>r x l u H3 Q
theorem L3{lo:Option Expr}(hr:SlR X r)(he:PE X e te)(hl:PO X lo tl)(hu:PO X hi th):PE X (.Subscript e (.Slice lo hi none p2) pos) (tSl r te tl th):=by
 intro a s σ H Q I h;refine Subscript_ (thn (he a s σ H _ I h) λv s1 ⟨x,H1,I1,r1,q1⟩=> ?_);refine wpAny_Slice (thn (hl a s1 σ H1 _ I1 q1) λvl s2 ⟨l,H2,I2,pl,q2⟩=>thn (hu a s2 σ H2 _ I2 q2) λvu s3 ⟨u,H3,I3,pu,q3⟩=> ?_);rw[evalPart_none];refine pZ ?_;have I4:Inv X a σ H3 {s3 with heap:=s3.heap.push {cls:=.type "slice",data:=.fields #[vl,vu,.none]}}:=I3.kept (t':=s3.toks) λb ob q=>gZ _ q;obtain⟨T,id,hT,ht,hg⟩:=hr a {s3 with heap:=s3.heap.push {cls:=.type "slice",data:=.fields #[vl,vu,.none]}} σ H3 x v vl vu l u s3.heap.objs.size Q I4 r1 (Heap.IsSliceOf.new ..) pl pu q3;show wpAny (model X.prog X.w) X.A (subscriptTail e (.Slice lo hi none p2) v (.ref s3.heap.objs.size)) (EP X a σ Q) X.xe {s3 with heap:=s3.heap.push {cls:=.type "slice",data:=.fields #[vl,vu,.none]}};exact tail_any (ops:=[.ref s3.heap.objs.size,v]) ht hT hg (by with_unfolding_all rfl)
def N1(xs:List V)(lo hi:Option Int):List V:=(xs.drop (HT.sIx xs.length 0 lo)).take (HT.sIx xs.length xs.length hi - HT.sIx xs.length 0 lo)
theorem U3(xs:List V)(lo hi:Option Int):(N1 xs lo hi).length<=xs.length:=by
 unfold N1;rw[length_take,length_drop];omega
inductive rSlT (Z:FZ) (x:V) (lo:Option Int) (hi:Option Int) (H:Hp) (Q:VK):Prop
 |mk:∀a xs,(x=.ref a)->(SqT Z H a xs)->(¬(HT.sIx xs.length 0 lo=0/\HT.sIx xs.length xs.length hi=xs.length))->(∀p,H p=none->Q (.ref p) (upd H p (.tup (N1 xs lo hi))))->rSlT Z x lo hi H Q
theorem coZ:SlR X (rSlT X.K):=by
 intro d s σ H x v vl vu lo hi sl Q I rx hs pl pu h;obtain⟨a,xs,rfl,hx,hw,q⟩:=h;cases rx;obtain⟨e,r,ht,hz⟩:=I.tuple hx;have c:e.toArray.size=xs.length:=by rw[size_toArray];exact r.length.symm
 refine⟨"tuple",_,PyProof.Rows.slot_tuple_getitem.lookup,ht.typeIs, ?_⟩;refine HT.getItem_tuple_cut ht hs pl pu (by rw[c];exact hw) ?_ (by rw[c];exact hz);rw[c];refine⟨.ref s.heap.objs.size,_,I.laid (t':=s.toks) (o:=.tup (N1 xs lo hi)) (λb ob q=>gZ _ q) (le_refl _) ?_,rfl,q _ (I.hok.fresh (le_refl _))⟩;exact⟨le_trans (U3 xs lo hi) hz,_,(r.drop (HT.sIx xs.length 0 lo)).take (HT.sIx xs.length xs.length hi - HT.sIx xs.length 0 lo),IsTup.new _ _⟩
def LU(Z:FZ):R2:=λx y H Q=>∃a b xs ys,x=.ref a/\y=.ref b/\SqT Z H a xs/\SqT Z H b ys/\xs≠ []/\xs.length+ys.length<=sizeLine/\
 (ys=[]->Q (.ref a) H)/\(ys≠ []->∀p,H p=none->Q (.ref p) (upd H p (.tup (xs++ys))))
theorem Vals.nil_iff(r:Vals xs us):us=[]↔xs=[]:=by
 cases r with
 |nil=>simp
 |cons _ _=>simp
theorem op_catT:OpR X (binaryOp .Add) (LU X.K):=by
 intro c s σ H x y v u Q I rx ry h;obtain⟨a,b,xs,ys,rfl,rfl,ha,hb,hx,hz,q1,q2⟩:=h;cases rx;cases ry;obtain⟨e,r1,p1,_⟩:=I.tuple ha;obtain⟨d,r2,p2,_⟩:=I.tuple hb;refine HT.cat_tup p1 p2 (λz=>hx (r1.nil_iff.mp z)) (λz=>⟨.ref a,H,I,rfl,q1 (r2.nil_iff.mp z)⟩) (λz=> ?_) (by rw[<-r1.length,<-r2.length];exact hz);refine⟨.ref s.heap.objs.size,_,I.laid (t':=s.toks) (o:=.tup (xs++ys)) (λb ob q=>gZ _ q) (le_refl _) ?_,rfl,q2 (λw=>z (r2.nil_iff.mpr w)) _ (I.hok.fresh (le_refl _))⟩;exact⟨by rw[length_append];exact hz,_,r1.append r2,IsTup.new _ _⟩
end
def ixN(n:Nat)(i:Int):Option Nat:=if 0<=i then(if i<n then some i.toNat else none)else if -(n:Int)<=i then some (i+n).toNat else none
def atI{α:Type}(xs:List α)(i:Int):Option α:=(ixN xs.length i).bind λj=>xs[j]?
theorem HZ{j:Nat}(h:ixN n i=some j):seqIndex? i n=some j/\j<n/\ -(n:Int)<=i/\i<n:=by
 unfold ixN at h;by_cases h0:0<=i
 ·rw[if_pos h0]at h;by_cases h1:i<n
  ·rw[if_pos h1]at h;have e:i.toNat=j:=sJ h;exact⟨by rw[seqIndex_of h0 h1,e],by omega,by omega,h1⟩
  ·rw[if_neg h1]at h;cases h
 ·rw[if_neg h0]at h;by_cases h1: -(n:Int)<=i
  ·rw[if_pos h1]at h;have e:(i+n).toNat=j:=sJ h;exact⟨by rw[seqIndex_neg (by omega) h1,e],by omega,h1,by omega⟩
  ·rw[if_neg h1]at h;cases h
theorem IK{α:Type}{xs:List α}{i:Int}{v:α}(h:atI xs i=some v):∃j,seqIndex? i xs.length=some j/\xs[j]? =some v/\j<xs.length/\ -(xs.length:Int)<=i/\i<xs.length:=by
 unfold atI at h;cases e:ixN xs.length i with
 |none=>rw[e]at h;cases h
 |some j=>
  rw[e]at h;obtain⟨h1,h2,h3,h4⟩:=HZ e;exact⟨j,h1,h,h2,h3,h4⟩
theorem C4{α:Type}{xs:List α}{j:Nat}{v:α}(h:xs[j]? =some v):atI xs (j:Int)=some v:=by
 have hj:j<xs.length:=(List.getElem?_eq_some_iff.mp h).1;have e:ixN xs.length (j:Int)=some j:=by
  unfold ixN;rw[if_pos (by omega),if_pos (by omega)];simp
 unfold atI;rw[e];exact h
theorem K7{α:Type}(xs:List α)(v:α):atI (xs++ [v]) (-1)=some v:=by
 have hl:(xs++ [v]).length=xs.length+1:=by simp
 have e:ixN (xs++ [v]).length (-1)=some xs.length:=by
  unfold ixN;rw[hl,if_neg (by decide),if_pos (by omega)];congr 1;omega
 unfold atI;rw[e];show(xs++ [v])[xs.length]? =some v;simp
def RK(b:Expr):Prop:=∀o i,subscripted b false o i=operate [o,i] (getItem o i)
def IxR(X:Cx)(r:R2):Prop:=
 ∀(value slice:Expr) (N:List (Addr×Obj)) (s:Shared) (σ:St) (H:Hp) (x y:V) (v u:Value) (Q:VK),Inv X N σ H s->RelV x v->RelV y u->r x y H Q->
  subscripted slice false v u=operate [v,u] (getItem v u)->wpAny (model X.prog X.w) X.A (subscriptTail value slice v u) (EP X N σ Q) X.xe s
def MtR(X:Cx)(id:String)(r:V->List V->Hp->VK->Prop):Prop:=
 ∀(N:List (Addr×Obj)) (s:Shared) (σ:St) (H:Hp) (x:V) (xs:List V) (v:Value) (us:List Value) (Q:VK),Inv X N σ H s->RelV x v->Vals xs us->r x xs H Q->
  wpAny (model X.prog X.w) X.A (call (.builtin id) (v::us)) (EP X N σ Q) X.xe s
section
theorem IxR.or(h:IxR X r)(h':IxR X r'):IxR X (λx y H Q=>r x y H Q\/r' x y H Q):=by
 intro a b c s σ H x y v u Q I rx ry q hs;rcases q with q|q
 ·exact h a b c s σ H x y v u Q I rx ry q hs
 ·exact h' a b c s σ H x y v u Q I rx ry q hs
theorem KE(hr:IxR X r)(ha:PE X a ta)(hb:PE X b tb)(hs:RK b):PE X (.Subscript a b pos) (tOp r ta tb):=by
 intro c s σ H Q I h;exact Subscript_ (cSZ ha hb I h λv u s2 x y H2 I2 rx ry q=>hr a b c s2 σ H2 x y v u Q I2 rx ry q (hs _ _))
inductive rIxL (Z:FZ) (x:V) (y:V) (H:Hp) (Q:VK):Prop
 |mk:∀p xs i v,(x=.ref p)->(y=.int i)->(SqL Z H p xs)->(atI xs i=some v)->(Q v H)->rIxL Z x y H Q
inductive rIxT (Z:FZ) (x:V) (y:V) (H:Hp) (Q:VK):Prop
 |mk:∀p xs i v,(x=.ref p)->(y=.int i)->(SqT Z H p xs)->(atI xs i=some v)->(Q v H)->rIxT Z x y H Q
inductive rIxS (x:V) (y:V) (H:Hp) (Q:VK):Prop
 |mk:∀z i c,(x=.str z)->(y=.int i)->(z.length<=sizeLine)->(atI z.cps.toList i=some c)->(Q (.str ⟨#[c]⟩) H)->rIxS x y H Q
theorem ix_list:IxR X (rIxL X.K):=by
 intro b c a s σ H x y v u Q I rx ry h hs;obtain⟨p,xs,i,z,rfl,rfl,hq,he,q⟩:=h;cases rx;obtain⟨t,rfl⟩:=ry;obtain⟨f,r,pl,hz⟩:=I.list hq;obtain⟨j,h1,h2,h3,h4,h5⟩:=IK he;obtain⟨w,ew,e⟩:=r.get h2;have hl:=r.length;have hn:=BH;have d:EP X a σ Q w s:=⟨z,H,I,e,q⟩;by_cases h0:0<=i
 ·have hj:i.toNat=j:=by
   rw[seqIndex_of h0 h5]at h1;exact sJ h1
  exact item_listR pl.isList h0 (by omega) (by rw[hj];simpa using ew) d hs
 ·have hj:(i+(f.toArray.size:Int)).toNat=j:=by
   rw[seqIndex_neg (by omega) h4]at h1;rw[size_toArray,<-hl];exact sJ h1
  exact subscriptTail_builtinR (x:=w) pl.isList.typeIs slot_list_getitem.lookup
   (wpAny_getItem_list_neg (Q:=λr s'=>r=w/\EP X a σ Q r s') pl.isList (by omega) (by rw[size_toArray]<;>omega) (by omega) (by rw[hj];simpa using ew) ⟨rfl,d⟩) hs
theorem ix_tup:IxR X (rIxT X.K):=by
 intro b c a s σ H x y v u Q I rx ry h hs;obtain⟨p,xs,i,z,rfl,rfl,hq,he,q⟩:=h;cases rx;obtain⟨t,rfl⟩:=ry;obtain⟨f,r,pl,hz⟩:=I.tuple hq;obtain⟨j,h1,h2,h3,h4,h5⟩:=IK he;obtain⟨w,ew,d⟩:=r.get h2;have hl:=r.length;have hn:=BH;have e:EP X a σ Q w s:=⟨z,H,I,d,q⟩;exact subscriptTail_builtinR (x:=w) pl.typeIs slot_tuple_getitem.lookup
  (getItem_tuple (j:=j) (Q:=λr s'=>r=w/\EP X a σ Q r s') pl (by omega) (by omega) (by rw[size_toArray,<-hl];exact h1) (by simpa using ew) ⟨rfl,e⟩) hs
theorem ix_str:IxR X rIxS:=by
 intro a b d s σ H x y v u Q I rx ry h hs;obtain⟨z,i,c,rfl,rfl,hz,he,q⟩:=h;obtain⟨t,rfl⟩:=rx;obtain⟨t',rfl⟩:=ry;obtain⟨j,h1,h2,h3,h4,h5⟩:=IK he;have hl:z.cps.toList.length=z.length:=by simp[Str.length]
 rw[hl]at h1 h4 h5;have hn:=BH;exact tail_any (typeIs_str s z t) slot_str_getitem.lookup (getItem_str (c:=c) (by
  have e1:decide (i< -(2^63:Int))=false:=decide_eq_false (by omega);have e2:decide (i≥2^63)=false:=decide_eq_false (by omega);rw[e1,e2,Bool.or_false]) (by rw[h1];simpa using h2) ⟨.str ⟨#[c]⟩,H,I.tok _,⟨_,rfl⟩,q⟩) hs
theorem NU(its:List Value)(n j:Nat)(u:Value):Obj.mapSeq (·.setIfInBounds j u) {cls:=.type "list",data:=.seq its.toArray n}={cls:=.type "list",data:=.seq (its.set j u).toArray n}:=by
 simp[Obj.mapSeq]
theorem Inv.lst{H:Hp}{p:Addr}(I:Inv X N σ H s)(h:H p=some (.lst xs)):
  ∃(its:List Value) (n:Nat),Vals xs its/\s.heap.get? p=some {cls:=.type "list",data:=.seq its.toArray n}/\xs.length<=sizeLine:=by
 obtain⟨z,its,n,r,e⟩:=I.hok p _ h;exact⟨its,n,r,e,z⟩
theorem Inv.lstUpd{H:Hp}{p:Addr}{its its':List Value}{f:Obj->Obj}(I:Inv X N σ H s)(h:H p=some (.lst xs))
  (ho:s.heap.get? p=some {cls:=.type "list",data:=.seq its.toArray n})(hf:f {cls:=.type "list",data:=.seq its.toArray n}={cls:=.type "list",data:=.seq its'.toArray n'})(r:Vals ys its')(hz:ys.length<=sizeLine)(t:Nat):
  Inv X N σ (upd H p (.lst ys)) {s with heap:=s.heap.update p f,toks:=t}:=by
 have e:(s.heap.update p f).get? p=some {cls:=.type "list",data:=.seq its'.toArray n'}:=by
  rw[Heap.get?_update_self f ho (by rw[hf]<;>rfl),hf]
 refine I.write (x:=p) (e:=p) (by rw[h];trivial) (.inl rfl) (λb u hb q=>(Heap.get?_update_other _ _ (Ne.symm hb)).trans q) ⟨_,e⟩ ?_;exact⟨hz,its',n',r,e⟩
inductive rSetL (o:V) (i:V) (v:V) (H:Hp) (Q:Hp->Prop):Prop
 |mk:∀p xs k j,(o=.ref p)->(i=.int k)->(H p=some (.lst xs))->(ixN xs.length k=some j)->(Q (upd H p (.lst (xs.set j v))))->rSetL o i v H Q
theorem P6:ccZ X rSetL:=by
 intro a s σ H o i v ov iv u Q I ro ri rv h;obtain⟨p,xs,k,j,rfl,rfl,hp,hj,q⟩:=h;cases ro;obtain⟨t,rfl⟩:=ri;obtain⟨b,n,r,ho,hz⟩:=I.lst hp;obtain⟨h1,h2,h3,h4⟩:=HZ hj;have hl:=r.length;have hn:=BH;have I':Inv X a σ (upd H p (.lst (xs.set j v))) {s with heap:=s.heap.update p (Obj.mapSeq (·.setIfInBounds j u))}:=
  I.lstUpd hp ho (NU b n j u) (r.set rv j) (by rw[length_set];exact hz) s.toks
 by_cases h0:0<=k
 ·have hk:k.toNat=j:=by
   rw[seqIndex_of h0 h4]at h1;exact sJ h1
  exact W.ki_setAt ho h0 (by omega) (by rw[size_toArray,<-hl];exact h4) (by rw[hk];exact⟨_,I',q⟩)
 ·have hk:(k+(b.toArray.size:Int)).toNat=j:=by
   rw[seqIndex_neg (by omega) h3]at h1;rw[size_toArray,<-hl];exact sJ h1
  exact W.ki_setBack ho (by omega) (by rw[size_toArray,<-hl];exact h3) (by omega) (by rw[hk];exact⟨_,I',q⟩)
theorem HJ(lo hi:Option Int)(n:Nat):(sliceBounds lo hi none n).1=((HT.sIx n 0 lo:Nat):Int)/\(sliceBounds lo hi none n).2.1=((HT.sIx n n hi:Nat):Int)/\(sliceBounds lo hi none n).2.2=1:=by
 refine⟨?_, ?_,rfl⟩
 ·cases lo with
  |none=>simp[sliceBounds,HT.sIx]
  |some i=>
   simp only[sliceBounds,HT.sIx,Option.getD_none,show(1:Int)>0 by decide,if_true];by_cases h:i<0
   ·simp only[h,if_true]<;>omega
   ·simp only[h,if_false]<;>omega
 ·cases hi with
  |none=>simp[sliceBounds,HT.sIx]
  |some i=>
   simp only[sliceBounds,HT.sIx,Option.getD_none,show(1:Int)>0 by decide,if_true];by_cases h:i<0
   ·simp only[h,if_true]<;>omega
   ·simp only[h,if_false]<;>omega
theorem FF(its:List Value)(lo hi:Option Int):slicePick its.toArray lo hi none=((its.drop (HT.sIx its.length 0 lo)).take (HT.sIx its.length its.length hi - HT.sIx its.length 0 lo)).toArray:=by
 obtain⟨h1,h2,h3⟩:=HJ lo hi its.toArray.size;unfold slicePick;rw[h1,h2,h3];simp only[sliceRange_one,pick_run,size_toArray]<;>rfl
inductive rSlL (Z:FZ) (x:V) (lo:Option Int) (hi:Option Int) (H:Hp) (Q:VK):Prop
 |mk:∀a xs,(x=.ref a)->(SqL Z H a xs)->(∀p,H p=none->Q (.ref p) (upd H p (.lst (N1 xs lo hi))))->rSlL Z x lo hi H Q
theorem sl_list:SlR X (rSlL X.K):=by
 intro d s σ H x v vl vu lo hi sl Q I rx hs pl pu h;obtain⟨a,xs,rfl,hx,q⟩:=h;cases rx;obtain⟨e,r,ht,hz⟩:=I.list hx;have c:=r.length;refine⟨"list",_,slot_list_getitem.lookup,ht.isList.typeIs, ?_⟩;refine wpAny_getItem_list_slice ht.isList hs pl pu .none (by simp) ?_ (by rw[size_toArray]<;>omega);rw[FF,<-c];refine⟨.ref s.heap.objs.size,_,I.laid (t':=s.toks) (o:=.lst (N1 xs lo hi)) (λb ob q=>gZ _ q) (le_refl _) ?_,rfl,q _ (I.hok.fresh (le_refl _))⟩;exact⟨le_trans (U3 xs lo hi) hz,_,0,(r.drop (HT.sIx xs.length 0 lo)).take (HT.sIx xs.length xs.length hi - HT.sIx xs.length 0 lo),get?_push_size _ rfl⟩
def O8:V->Bool
 | .non=>true
 | .bl _=>true
 | .int _=>true
 | .str _=>true
 |_=>false
noncomputable def eqV:V->V->Bool
 | .non,.non=>true
 | .bl a,.bl b=>a==b
 | .bl a,.int b=>(if a then 1 else 0)==b
 | .int a,.bl b=>a==(if b then 1 else 0)
 | .int a,.int b=>a==b
 | .str a,.str b=>a==b
 |_,_=>false
theorem WX(ry:RelV y u)(rx:RelV x v)(fy:O8 y=true)(fx:O8 x=true):SeqAt.EqAt A s u v (eqV y x):=by
 cases y with
 |non=>
  cases ry;cases x with
  |non=>cases rx;exact SeqAt.EqAt.same _
  |bl b=>cases rx;exact SeqAt.EqAt.none_bool b
  |int b=>obtain⟨t,rfl⟩:=rx;exact SeqAt.EqAt.none_int b t
  |str b=>obtain⟨t,rfl⟩:=rx;exact SeqAt.EqAt.none_str b t
  |_=>exact absurd (show false=true from fx) nZ
 |bl a=>
  cases ry;cases x with
  |non=>cases rx;exact SeqAt.EqAt.bool_none a
  |bl b=>cases rx;exact SeqAt.EqAt.bool_bool a b
  |int b=>obtain⟨t,rfl⟩:=rx;exact SeqAt.EqAt.bool_int a b t
  |str b=>obtain⟨t,rfl⟩:=rx;exact SeqAt.EqAt.bool_str a b t
  |_=>exact absurd (show false=true from fx) nZ
 |int a=>
  obtain⟨t',rfl⟩:=ry;cases x with
  |non=>cases rx;exact SeqAt.EqAt.int_none a t'
  |bl b=>cases rx;exact SeqAt.EqAt.int_bool a t' b
  |int b=>obtain⟨t,rfl⟩:=rx;exact SeqAt.EqAt.int_int a t' b t
  |str b=>obtain⟨t,rfl⟩:=rx;exact SeqAt.EqAt.int_str a t' b t
  |_=>exact absurd (show false=true from fx) nZ
 |str a=>
  obtain⟨t',rfl⟩:=ry;cases x with
  |non=>cases rx;exact SeqAt.EqAt.str_none a t'
  |bl b=>cases rx;exact SeqAt.EqAt.str_bool a t' b
  |int b=>obtain⟨t,rfl⟩:=rx;exact SeqAt.EqAt.str_int a t' b t
  |str b=>obtain⟨t,rfl⟩:=rx;exact SeqAt.EqAt.str_str a t' b t
  |_=>exact absurd (show false=true from fx) nZ
 |_=>exact absurd (show false=true from fy) nZ
noncomputable def eqU(x:V)(u:Value):Bool:=match u with
 | .none=>eqV .non x
 | .bool b=>eqV (.bl b) x
 | .int i _=>eqV (.int i) x
 | .str z _=>eqV (.str z) x
 |_=>false
theorem VD(r:RelV y u)(f:O8 y=true):eqU x u=eqV y x:=by
 cases y with
 |non=>cases r;rfl
 |bl b=>cases r;rfl
 |int i=>obtain⟨t,rfl⟩:=r;rfl
 |str z=>obtain⟨t,rfl⟩:=r;rfl
 |_=>exact absurd (show false=true from f) nZ
theorem Y8:∀ {xs:List V} {us:List Value},Vals xs us->xs.all O8=true->us.any (eqU x)=xs.any λy=>eqV y x
 |_,_,.nil,_=>rfl
 |y::xs,u::us,.cons r t,f=>by
  rw[List.all_cons,Bool.and_eq_true]at f;rw[any_cons,any_cons,VD r f.1,Y8 t f.2]
theorem U2(rx:RelV x v)(fx:O8 x=true):∀ {xs:List V} {us:List Value},Vals xs us->xs.all O8=true->∀u∈us,SeqAt.EqAt A s u v (eqU x u)
 |_,_,.nil,_=>λu hu=>by cases hu
 |y::xs,u::us,.cons r t,f=>λu' hu=>by
  rw[List.all_cons,Bool.and_eq_true]at f;rcases cZ hu with rfl|hu
  ·rw[VD r f.1];exact WX r rx f.1 fx
  ·exact U2 rx fx t f.2 u' hu
def inV(x:V)(xs:List V):Bool:=xs.any λy=>eqV y x
inductive rIn (Z:FZ) (neg:Bool) (x:V) (y:V) (H:Hp) (Q:VK):Prop
 |mk:∀p xs,(y=.ref p)->((SqL Z H p xs\/SqT Z H p xs))->(O8 x=true)->(xs.all O8=true)->(Q (.bl (if neg then !inV x xs else inV x xs)) H)->rIn Z neg x y H Q
theorem op_in_seq:OpR X (compareOp .In) (rIn X.K false):=by
 intro b s σ H x y v u Q I rx ry h;obtain⟨p,xs,rfl,hq,fx,fs,q⟩:=h;cases ry;rcases hq with hq|hq
 ·obtain⟨a,r,pl,hz⟩:=I.list hq;refine SeqAt.in_listAt (eqU x) pl.isList (λw hw=>U2 rx fx r fs w (by simpa using hw)) ⟨.bl _,H,I,rfl, ?_⟩;rw[show a.toArray.any (eqU x)=a.any (eqU x) by simp,Y8 r fs];exact q
 ·obtain⟨a,r,pl,hz⟩:=I.tuple hq;refine SeqAt.in_tupleAt (eqU x) pl (λw hw=>U2 rx fx r fs w (by simpa using hw)) ⟨.bl _,H,I,rfl, ?_⟩;rw[show a.toArray.any (eqU x)=a.any (eqU x) by simp,Y8 r fs];exact q
theorem IC:OpR X (compareOp .NotIn) (rIn X.K true):=by
 intro b s σ H x y v u Q I rx ry h;obtain⟨p,xs,rfl,hq,fx,fs,q⟩:=h;cases ry;rcases hq with hq|hq
 ·obtain⟨a,r,pl,hz⟩:=I.list hq;refine SeqAt.notIn_listAt (eqU x) pl.isList (λw hw=>U2 rx fx r fs w (by simpa using hw)) ⟨.bl _,H,I,rfl, ?_⟩;rw[show a.toArray.any (eqU x)=a.any (eqU x) by simp,Y8 r fs];exact q
 ·obtain⟨a,r,pl,hz⟩:=I.tuple hq;refine SeqAt.notIn_tupleAt (eqU x) pl (λw hw=>U2 rx fx r fs w (by simpa using hw)) ⟨.bl _,H,I,rfl, ?_⟩;rw[show a.toArray.any (eqU x)=a.any (eqU x) by simp,Y8 r fs];exact q
theorem op_notIn_str:OpR X (compareOp .NotIn) (λx y H Q=>∃i j,x=.str i/\y=.str j/\Q (.bl (!(!(Builtin.Str.occurrences j i 0 j.length 1).isEmpty))) H):=by
 intro a s σ H x y v u Q I rx ry h;obtain⟨i,j,rfl,rfl,q⟩:=h;obtain⟨t,rfl⟩:=rx;obtain⟨t',rfl⟩:=ry;exact notIn_str ⟨.bl _,H,I,rfl,q⟩
theorem CallR.or(h:CallR X f r)(h':CallR X f r'):CallR X f (λxs H Q=>r xs H Q\/r' xs H Q):=by
 intro a s σ H xs us Q I rs q;rcases q with q|q
 ·exact h a s σ H xs us Q I rs q
 ·exact h' a s σ H xs us Q I rs q
theorem IG:CallR X (.type "list") (λxs H Q=>∃p ys,xs=[.ref p]/\(SqL X.K H p ys\/SqT X.K H p ys)/\∀l,H l=none->Q (.ref l) (upd H l (.lst ys))):=by
 intro c s σ H xs us Q I r h;obtain⟨p,ys,rfl,hq,q⟩:=h;obtain⟨u,rfl,rx⟩:=V5 r;cases rx;have f:∀(a:List Value),Vals ys a->ys.length<=sizeLine->∀(h':Heap) (c':Nat),(∀b o',s.heap.get? b=some o'->h'.get? b=some o')->
   h'.get? s.heap.objs.size=some {cls:=.type "list",dict:=none,data:=.seq a.toArray c',slots:= #[]}->EP X c σ Q (.ref s.heap.objs.size) {s with heap:=h'}:=λa r' hz h' c' kp e=>
  ⟨.ref s.heap.objs.size,_,I.laid (t':=s.toks) kp (le_refl _) (show ObjOk X.prog X.w _ h' _ (.lst ys)from⟨hz,a,c',r',e⟩),rfl,q _ (I.hok.fresh (le_refl _))⟩
 rcases hq with hq|hq
 ·obtain⟨a,r',pl,hz⟩:=I.list hq;have d:=r'.length;obtain⟨o,ho,hc,n,hd⟩:=pl.isList;exact call_list_seq p (.inl rfl) ho hc hd (λh' c' kp e=>f a r' hz h' c' kp e) (by simp only[size_toArray]<;>omega)
 ·obtain⟨a,r',pl,hz⟩:=I.tuple hq;have d:=r'.length;obtain⟨o,ho,hc,n,hd⟩:=pl;exact call_list_seq p (.inr rfl) ho hc hd (λh' c' kp e=>f a r' hz h' c' kp e) (by simp only[size_toArray]<;>omega)
theorem FH:CallR X (.type "tuple") (λxs H Q=>∃p ys,xs=[.ref p]/\((SqL X.K H p ys/\∀l,H l=none->Q (.ref l) (upd H l (.tup ys)))\/(SqT X.K H p ys/\Q (.ref p) H))):=by
 intro a s σ H xs us Q I r h;obtain⟨p,ys,rfl,h⟩:=h;obtain⟨u,rfl,rx⟩:=V5 r;cases rx;rcases h with⟨hq,q⟩|⟨hq,q⟩
 ·obtain⟨c,r',pl,hz⟩:=I.list hq;have d:=r'.length;refine call_tuple_list pl.isList (λh' kp=> ?_) (by simp only[size_toArray]<;>omega);have I1:Inv X a σ H {s with heap:=h'}:=I.kept (t':=s.toks) kp;have I2:Inv X a σ (upd H h'.objs.size (.tup ys)) {s with heap:=h'.push {cls:=.type "tuple",data:=.seq c.toArray}}:=
   I1.laid (t':=s.toks) (λb o e=>gZ _ e) (le_refl _) (show ObjOk X.prog X.w _ _ _ (.tup ys)from⟨hz,c,r',IsTup.new _ _⟩)
  exact⟨.ref h'.objs.size,_,I2,rfl,q _ (I1.hok.fresh (le_refl _))⟩
 ·obtain⟨c,r',pl,hz⟩:=I.tuple hq;exact call_tuple_same pl ⟨.ref p,H,I,rfl,q⟩
def tyV(Z:FZ)(T:String)(x:V)(H:Hp):Prop:=match x with
 | .str _=>T="str"
 | .int _=>T="int"
 | .ref p=>(T="list"/\∃xs,SqL Z H p xs)\/(T="tuple"/\∃o,Z.lookup p=some o/\o.cls=.type "tuple"/\o.dict=none)\/
   (T="dict"/\((∃kvs,H p=some (.dK kvs))\/∃kvs,H p=some (.dT kvs)))\/(T="set"/\∃S n,H p=some (.set S n))
 |_=>False
theorem WW{H:Hp}(I:Inv X N σ H s)(r:RelV x v)(ty:tyV X.K T x H):
  s.TypeIs v T/\∀a,v=.ref a->∃ob,s.heap.get? a=some ob/\ob.dict=none:=by
 cases x with
 |str z=>
  obtain⟨t,rfl⟩:=r;cases(show T="str"from ty);exact⟨typeIs_str s z t,λ_ e=>nomatch e⟩
 |int i=>
  obtain⟨t,rfl⟩:=r;cases(show T="int"from ty);exact⟨typeIs_int s i t,λ_ e=>nomatch e⟩
 |ref p=>
  cases r;rcases ty with⟨rfl,xs,hq⟩|⟨rfl,o,hk,hc,hd⟩|⟨rfl,hk⟩|⟨rfl,S,n,hk⟩
  ·obtain⟨d,_,pl,_⟩:=I.list hq;refine⟨pl.isList.typeIs,λa e=> ?_⟩;cases e;obtain⟨o,n,e,c,hd,_⟩:=pl;exact⟨o,e,hd⟩
  ·refine⟨⟨o,I.kIn p o hk,hc⟩,λa e=> ?_⟩;cases e;exact⟨o,I.kIn _ o hk,hd⟩
  ·have z:∃o,s.heap.get? p=some o/\o.ExactDict:=by
    rcases hk with⟨b,hk⟩|⟨b,hk⟩
    ·obtain⟨_,_,_,_,o,_,_,e,ex,_⟩:=I.hok p _ hk;exact⟨o,e,ex⟩
    ·obtain⟨_,_,_,_,o,_,_,e,ex,_⟩:=I.hok p _ hk;exact⟨o,e,ex⟩
   obtain⟨o,e,ex⟩:=z;refine⟨⟨o,e,ex.1⟩,λa e2=> ?_⟩;cases e2;exact⟨o,e,ex.2.1⟩
  ·obtain⟨o,_,_,_,e,ex,_⟩:=I.hok p _ hk;refine⟨⟨o,e,ex.1⟩,λa e2=> ?_⟩;cases e2;exact⟨o,e,ex.2.1⟩
 |_=>exact False.elim ty
def e8Z(Z:FZ)(T:String)(r:V->List V->Hp->VK->Prop)(to:TE):TE:=fun σ H Q=>to σ H λx H1=>tyV Z T x H1/\r x [] H1 Q
def tBM(Z:FZ)(T:String)(r:V->List V->Hp->VK->Prop)(to:TE)(t:TA):TE:=fun σ H Q=>to σ H λx H1=>tyV Z T x H1/\t σ H1 λxs H2=>r x xs H2 Q
theorem cJZ{apos cpos:Pos}{id:String}(pa:PlainAttrs T)(slot:Slot T name id)(hty:typeOf (.builtin id)=pure (.type "method_descriptor"))(hm:MtR X id r)(ho:PE X o to)
  (hbase:attributeBase o name X.env (eval o X.env)=eval o X.env:=by rfl)(hline:(apos.endLine==cpos.line)=true:=by rfl):PE X (.Call (.Attribute o name apos) [] [] cpos) (e8Z X.K T r to):=by
 intro a s σ H Q I h;refine wpAny_Call_method0_late hbase hline (thn (ho a s σ H _ I h) λv s1 ⟨x,H1,I1,r1,ty,q1⟩=> ?_);obtain⟨h1,h2⟩:=WW I1 r1 ty;exact⟨T,id,pa,slot,hty,h1,h2,Calls.callWith_builtin rfl (PySem.evalArgs_none (hm a s1 σ H1 x [] v [] Q I1 r1 .nil q1))⟩
theorem eCZ{e:Expr}{apos:Pos}{id:String}(pa:PlainAttrs T)(slot:Slot T name id)(hty:typeOf (.builtin id)=pure (.type "method_descriptor"))(hm:MtR X id r)(ho:PE X o to)(ha:PA X (e::es) t)
  (hbase:attributeBase o name X.env (eval o X.env)=eval o X.env:=by rfl)
  (hfew:((backTo cpos (starEach (e::es) X.env)).all (λx=> !x.1)&&(backToKw cpos (keywordEach [] X.env)).all (λx=>x.1.isSome)
   &&decide ((e::es).length+([]:List Keyword).length+(if([]:List Keyword).isEmpty then 0 else 1)<30))=true:=by rfl)
  (hline:(apos.endLine==cpos.line)=true:=by rfl)(hs:starEach (e::es) X.env=(false,eval e X.env)::starEach es X.env:=by rfl)(hplain:(backTo cpos (starEach es X.env)).any (·.1)=false:=by rfl):
  PE X (.Call (.Attribute o name apos) (e::es) [] cpos) (tBM X.K T r to t):=by
 intro a s σ H Q I h;refine wpAny_Call_method_late hbase hfew hline rfl (thn (ho a s σ H _ I h) λv s1 ⟨x,H1,I1,r1,ty,q1⟩=> ?_);obtain⟨h1,h2⟩:=WW I1 r1 ty;refine⟨T,id,pa,slot,hty,h1,h2, ?_⟩;have hA:=ha cpos a s1 σ H1 _ I1 q1;rw[hs]at hA⊢;refine Calls.callWith_builtin (by show(false||(backTo cpos (starEach es X.env)).any (·.1))=false;rw[hplain]<;>rfl) (Calls.evalArgs_plain ?_);exact thn hA λus s2 ⟨vs,H2,I2,r2,q2⟩=>hm a s2 σ H2 x vs v us Q I2 r1 r2 q2
end
def MtM(X:Cx)(id:String)(r:V->List V->Hp->VK->Prop):Prop:=
 ∀(N:List (Addr×Obj)) (s:Shared) (σ:St) (H:Hp) (x:V) (xs:List V) (v:Value) (us:List Value) (Q:VK),Inv X N σ H s->RelV x v->Vals xs us->r x xs H Q->
  wpAny (model X.prog X.w) X.A (call (.builtin id) (v::us)) (EP X N σ Q) X.xe s
theorem Vals.one:∀ {x:V} {us:List Value},Vals [x] us->∃u,us=[u]/\RelV x u
 |_,_,.cons r .nil=>⟨_,rfl,r⟩
theorem Vals.zero:∀ {us:List Value},Vals [] us->us=[]
 |_,.nil=>rfl
theorem Vals.dropLast(h:Vals xs us):Vals xs.dropLast us.dropLast:=by
 induction h with
 |nil=>exact .nil
 |cons r t ih=>
  cases t with
  |nil=>exact .nil
  |cons q t'=>exact .cons r ih
theorem Vals.eraseIdx:∀ {xs:List V} {us:List Value} (i:Nat),Vals xs us->Vals (xs.eraseIdx i) (us.eraseIdx i)
 |_,_,_,.nil=> .nil
 |_,_,0,.cons _ t=>t
 |_,_,i+1,.cons r t=> .cons r (Vals.eraseIdx i t)
theorem Vals.rep(h:Vals xs us):∀k:Nat,Vals (List.replicate k xs).flatten (List.replicate k us).flatten
 |0=> .nil
 |k+1=>by
  rw[replicate_succ,replicate_succ,flatten_cons,flatten_cons];exact Vals.append h (Vals.rep h k)
theorem PB{α:Type}(l:List α):l.eraseIdx (l.length - 1)=l.dropLast:=by
 induction l with
 |nil=>rfl
 |cons a r ih=>
  cases r with
  |nil=>rfl
  |cons b r=>
   have e:(a::b::r).length - 1=((b::r).length - 1)+1:=by
    have h1:(a::b::r).length=r.length+2:=rfl;have h2:(b::r).length=r.length+1:=rfl;omega
   rw[e,List.eraseIdx_cons_succ,ih]
   all_goals rfl
theorem GO{α:Type}:∀(l:List α) (i:Nat),(l.eraseIdx i).length<=l.length
 | [],_=>le_refl _
 |_::_,0=>le_succ _
 |_::r,i+1=>Nat.succ_le_succ (GO r i)
theorem foldl_rep(its:List Value):∀(k:Nat) (acc:List Value),
  List.foldl (λx1 x2=>x1++x2) acc.toArray (List.replicate k its.toArray)=(acc++(List.replicate k its).flatten).toArray
 |0,acc=>by simp
 |k+1,acc=>by
  have e:acc.toArray++its.toArray=(acc++its).toArray:=by simp
  have e2:(acc++its)++(List.replicate k its).flatten=acc++(List.replicate (k+1) its).flatten:=by
   rw[replicate_succ,flatten_cons,List.append_assoc]
  rw[<-e2,<-foldl_rep its k (acc++its),<-e,replicate_succ,foldl_cons]
section
theorem Inv.lset{H:Hp}{l:Addr}{its its':List Value}{f:Array Value->Array Value}{t':Nat}(I:Inv X N σ H s)(hH:H l=some (.lst xs))
  (e:s.heap.get? l=some {cls:=.type "list",data:=.seq its.toArray n})(hf:f its.toArray=its'.toArray)(hv:Vals ys its')(hz:ys.length<=sizeLine):
  Inv X N σ (upd H l (.lst ys)) {s with heap:=s.heap.update l (Obj.mapSeq f),toks:=t'}:=by
 have q:=PySem.IsL.update e f;rw[hf]at q;refine I.write (x:=l) (e:=l) (by rw[hH];exact trivial) (.inl rfl) (λb' u hb hu=>(Heap.get?_update_other s.heap (Obj.mapSeq f) (Ne.symm hb)).trans hu) ⟨_,q⟩ ?_;exact⟨hz,its',_,hv,q⟩
theorem Inv.lnew{H:Hp}{t':Nat}(I:Inv X N σ H s)(hv:Vals ys its)(hz:ys.length<=sizeLine):
  Inv X N σ (upd H s.heap.objs.size (.lst ys)) {s with heap:=s.heap.push {cls:=.type "list",data:=.seq its.toArray},toks:=t'}:=
 I.laid (λ_ _ q=>gZ _ q) (le_refl _) ⟨hz,its,0,hv,get?_push_size _ rfl⟩
theorem Inv.fresh{H:Hp}(I:Inv X N σ H s):H s.heap.objs.size=none:=I.hok.fresh (le_refl _)
theorem Inv.lstM{H:Hp}{l:Addr}(I:Inv X N σ H s)(hH:H l=some (.lst xs)):xs.length<=sizeLine/\∃(its:List Value) (n:Nat),Vals xs its/\xs.length=its.length/\s.heap.get? l=some {cls:=.type "list",data:=.seq its.toArray n}:=by
 obtain⟨z,its,n,r,e⟩:=I.hok l _ hH;exact⟨z,its,n,r,r.length,e⟩
theorem JR{n:Nat}(h:n<=sizeLine):Builtin.List.listTooLong n=false:=by
 unfold Builtin.List.listTooLong;exact decide_eq_false (by omega)
inductive rAppend(x:V)(vs:List V)(H:Hp)(Q:VK):Prop
 |mk:∀l xs y,(x=.ref l)->(vs=[y])->(H l=some (.lst xs))->(xs.length<sizeLine)->(Q .non (upd H l (.lst (xs++ [y]))))->rAppend x vs H Q
theorem TZ:MtM X "list.append" rAppend:=by
 intro b s σ H x vs v us Q I rx rv h;obtain⟨l,xs,y,rfl,rfl,hH,hz,q⟩:=h;cases rx;obtain⟨u,rfl,ru⟩:=rv.one;obtain⟨z,a,n,r,hl,e⟩:=I.lstM hH;refine call_meets F.slot_list_append ⟨_,e,rfl⟩ F.entry_list_append (F.args_list_append_2 _ _) (PySem.list_append l a.toArray n u (by rw[size_toArray];omega)) ⟨e, ?_⟩;refine⟨.non,_,I.lset (its':=a++ [u]) hH e (by simp) (r.append (.cons ru .nil)) ?_,rfl,q⟩;rw[length_append,length_singleton];omega
def apZ:V->List V->Hp->VK->Prop:=λx vs H Q=>∃l b xs zs,x=.ref l/\vs=[.ref b]/\H l=some (.lst xs)/\H b=some (.lst zs)/\xs.length+zs.length<=sizeLine/\Q .non (upd H l (.lst (xs++zs)))
theorem FU:MtM X "list.extend" apZ:=by
 intro f s σ H x vs v us Q I rx rv h;obtain⟨l,b,xs,zs,rfl,rfl,hH,hB,hz,q⟩:=h;cases rx;obtain⟨u,rfl,ru⟩:=rv.one;cases ru;obtain⟨z,c,n,r,hl,e⟩:=I.lstM hH;obtain⟨z2,a,n2,r2,i,e2⟩:=I.lstM hB;have g:c.toArray.size+a.toArray.size<=sizeLine:=by rw[size_toArray,size_toArray];omega
 have d:¬(!c.toArray.isEmpty&&Builtin.List.listTooLong (c.toArray.size+a.toArray.size))=true:=by
  rw[JR g,Bool.and_false];exact nZ
 refine call_meets F.slot_list_extend ⟨_,e,rfl⟩ F.entry_list_extend (F.args_list_extend_2 _ _)
  (AutoSeq1.list_extend_list_list_0 l c.toArray n b a.toArray n2 d (by rw[size_toArray];omega) (by omega)) ⟨e,e2, ?_⟩
 refine⟨.non,_,I.lset (its':=c++a) hH e (by simp) (r.append r2) ?_,rfl,q⟩;rw[length_append];omega
inductive rPop (x:V) (vs:List V) (H:Hp) (Q:VK):Prop
 |mk:∀l xs y,(x=.ref l)->(vs=[])->(H l=some (.lst xs))->(xs[xs.length - 1]? =some y)->(Q y (upd H l (.lst xs.dropLast)))->rPop x vs H Q
theorem EB:MtM X "list.pop" rPop:=by
 intro b s σ H x vs v us Q I rx rv h;obtain⟨l,xs,y,rfl,rfl,hH,hy,q⟩:=h;cases rx;have d:=rv.zero;subst d;obtain⟨z,a,n,r,hl,e⟩:=I.lstM hH;obtain⟨u,hu,ru⟩:=r.get hy;have c:a.toArray[a.toArray.size - 1]? =some u:=by
  show a.toArray[a.length - 1]? =some u;rw[<-Array.getElem?_toList,<-hl];exact hu
 refine call_meets F.slot_list_pop ⟨_,e,rfl⟩ F.entry_list_pop (F.args_list_pop_1 _) (MeetsSeq.list_pop_last l a.toArray n u c (by rw[size_toArray];omega)) ⟨e, ?_⟩;refine⟨y,_,I.lset (its':=a.dropLast) hH e ?_ r.dropLast ?_,ru,q⟩
 ·show a.toArray.eraseIdxIfInBounds (a.toArray.size - 1)=a.dropLast.toArray;rw[size_toArray,List.eraseIdxIfInBounds_toArray,PB]
 ·rw[List.length_dropLast];omega
def djZ:V->List V->Hp->VK->Prop:=λx vs H Q=>∃l xs i k y,x=.ref l/\vs=[.int i]/\H l=some (.lst xs)/\ -(2^63)<=i/\i<2^63/\seqIndex? i xs.length=some k/\xs[k]? =some y/\Q y (upd H l (.lst (xs.eraseIdx k)))
theorem WL:MtM X "list.pop" djZ:=by
 intro c s σ H x vs v us Q I rx rv h;obtain⟨l,xs,i,k,y,rfl,rfl,hH,h1,h2,hk,hy,q⟩:=h;cases rx;obtain⟨u,rfl,ru⟩:=rv.one;obtain⟨t,rfl⟩:=ru;obtain⟨z,a,n,r,hl,e⟩:=I.lstM hH;obtain⟨w,hw,b⟩:=r.get hy;refine call_meets F.slot_list_pop ⟨_,e,rfl⟩ F.entry_list_pop (F.args_list_pop_2 _ _)
  (MeetsSeq.list_pop_at l a.toArray n i t k w (fitsIndex_both h1 h2) (by rw[size_toArray,<-hl];exact hk) (by rw[<-Array.getElem?_toList];exact hw) (by rw[size_toArray];omega)) ⟨e, ?_⟩
 refine⟨y,_,I.lset (its':=a.eraseIdx k) hH e ?_ (r.eraseIdx k) ?_,b,q⟩
 ·show a.toArray.eraseIdxIfInBounds k=(a.eraseIdx k).toArray;rw[List.eraseIdxIfInBounds_toArray]
 ·have:=GO xs k;omega
inductive rCat (x:V) (y:V) (H:Hp) (Q:VK):Prop
 |mk:∀l b xs zs,(x=.ref l)->(y=.ref b)->(H l=some (.lst xs))->(H b=some (.lst zs))->(xs.length+zs.length<=sizeLine)->(∀p,H p=none->Q (.ref p) (upd H p (.lst (xs++zs))))->rCat x y H Q
theorem op_cat:OpR X (binaryOp .Add) rCat:=by
 intro d s σ H x y v u Q I rx ry h;obtain⟨l,b,xs,zs,rfl,rfl,hH,hB,hz,q⟩:=h;cases rx;cases ry;obtain⟨z,c,n,r,hl,e⟩:=I.lstM hH;obtain⟨z2,a,n2,r2,f,e2⟩:=I.lstM hB;refine PySem.P.add_list e e2 ?_ (by rw[size_toArray,size_toArray];omega);have ea:c.toArray++a.toArray=(c++a).toArray:=by simp
 rw[ea];exact⟨.ref _,_,I.lnew (t':=s.toks) (r.append r2) (by rw[length_append];omega),rfl,q _ I.fresh⟩
def emZ:R2:=λx y H Q=>∃l k xs,x=.ref l/\y=.int k/\H l=some (.lst xs)/\ -(2^63)<=k/\k<2^63/\xs.length*k.toNat<=sizeLine/\
 ∀p,H p=none->Q (.ref p) (upd H p (.lst (List.replicate k.toNat xs).flatten))
theorem a8Z{α:Type}(xs:List α)(k:Nat):(List.replicate k xs).flatten.length=k*xs.length:=by
 induction k with
 |zero=>simp
 |succ k ih=>rw[replicate_succ,flatten_cons,length_append,ih,Nat.succ_mul,Nat.add_comm]
theorem drZ:OpR X (binaryOp .Mult) emZ:=by
 intro j s σ H x y v u Q I rx ry h;obtain⟨l,k,xs,rfl,rfl,hH,h1,h2,hz,q⟩:=h;cases rx;obtain⟨t,rfl⟩:=ry;obtain⟨z,b,n,r,hl,e⟩:=I.lstM hH;have f:b.toArray.size*k.toNat<=sizeLine:=by rw[size_toArray,<-hl];exact hz
 have i:¬b.toArray.size*k.toNat>(2^63 - 1)/8:=by
  have:(sizeLine:Nat)<=(2^63 - 1)/8:=by decide
  omega
 have g:¬(!Builtin.List.listFitsIndex k)=true:=by
  rw[fitsIndex_both h1 h2];exact nZ
 have c:¬Builtin.List.listTooLong (b.toArray.size*k.toNat)=true:=by
  rw[JR f];exact nZ
 have d:List.foldl (λx1 x2=>x1++x2) #[] (List.replicate (if b.toArray.isEmpty=true then 0 else k.toNat) b.toArray)=(List.replicate k.toNat b).flatten.toArray:=by
  have f0:∀m:Nat,List.foldl (λx1 x2=>x1++x2) #[] (List.replicate m b.toArray)=(List.replicate m b).flatten.toArray:=λm=>by
   have:=foldl_rep b m [];rw[nil_append]at this;exact this
  rw[f0];cases b with
  |nil=>simp
  |cons a r'=>rw[if_neg (by simp)]
 refine wpAny_binaryOp_repeat_ref (T:="list") (U:="int") (by decide) ⟨_,e,rfl⟩ (λs'=>typeIs_int s' k t) noFill_list_mul F.fills_int_mul F.slot_int_rmul repeat_list F.slot_int_index.lookup
  (call_meets F.slot_int_rmul (typeIs_int s k t) F.entry_int_rmul (F.args_int_rmul_2 _ _) (int___rmul___int_list k t l b.toArray n)
   ⟨e,rfl,⟨_,e,rfl⟩,call_meets F.slot_list_mul ⟨_,e,rfl⟩ F.entry_list_mul (F.args_list_mul_2 _ _) (AutoListH.list___mul___list_int_3 l b.toArray n k t g i c) ⟨e, ?_⟩⟩)
 rw[d];exact⟨.ref _,_,I.lnew (t':=s.toks) (r.rep k.toNat) (by rw[a8Z,Nat.mul_comm];exact hz),rfl,q _ I.fresh⟩
end
end _L
namespace Att
open PySem PySem.W PySem.Calls PyProof.Rows
theorem CU:∀(ns:List Int) (vs:List Value),WellAll P h vs (ns.map WData.int)->IntsAre vs ns:=by
 intro ns;induction ns with
 |nil=>
  intro vs w;rw[map_nil]at w;cases w;exact .nil
 |cons n ns ih=>
  intro vs w;rw[map_cons]at w;cases w with
  |cons a b=>
   cases a;exact .cons _ _ (ih _ b)
theorem UP{l:OpenLaw}{n:Nat}(hn:l.most=some n)
  (hpre:l.row.toRowW.claim.pre args=true)(hwl:WellAll P h vals args):
  ∃a vs ns,vals=[Value.ref a]/\args=[WData.list (ns.map WData.int)]/\h.get? a=some {cls:=.type "list",data:=.seq vs.toArray}/\IntsAre vs ns/\ns.length<=n:=by
 have e:WShape.hasAll [] args [.list .int]=true:=(pre_splitW hpre).1;have hc:l.pre.holds [] {args:=args}=true:=(pre_splitW hpre).2;obtain⟨d,r,rfl,h1,h2⟩:=hasAllW_cons e;obtain rfl:=hasAllW_nil h2;obtain⟨xs,rfl,h3⟩:=hasW_list h1;obtain⟨ns,rfl⟩:=items_int h3;have b:ns.length<=n:=by
  unfold OpenLaw.pre at hc;have h4:(WTm.not (.lt (.lit (.int (n:Int))) (.len (.arg 0)))).holds [] {args:=[.list (ns.map .int)]}=true:=by
   have h4:=(holds_andW hc).1;rw[hn]at h4;exact h4
  have h5:=condW_of h4 (w_not (w_lt w_lit (w_len_list (w_arg rfl))));rw[length_map]at h5;refine Nat.le_of_not_lt λq=> ?_;have q':(n:Int)<((ns.length:Nat):Int):=by omega
  first
   |(rw[decide_eq_true q']at h5;exact absurd h5 (by decide))
   |(simp at h5;omega)
 cases hwl with
 |cons w1 w2=>
  cases w2;cases w1 with
  |list ho c=>exact⟨_,_,ns,rfl,rfl,ho,CU ns _ c,b⟩
theorem UJ(l:OpenLaw)(args:List WData):l.row.toRowW.claim.post args (.bool true) args=true:=
 postW_of (r:=l.row.toRowW) (X:=(true==true))
  (show WShape.has [] (.bool true) .bool=true by first|rfl|decide|simp[WShape.has,WShape.arms,WShape.armsAll])
  (show(WTm.eq .res (.lit (.bool true))).value [] {args:=args,res:=some (.bool true),after:=args}=some (.bool (true==true))from w_eq_bool (w_res rfl) w_lit) rfl
theorem attach_call{l:OpenLaw}{n:Nat}{q:Program}{loose:List Str}{XP:(Str->Option Value)->Heap->Prop}{YP:World->Heap->Prop}{d:DefRec}
  (hn:l.most=some n)(hdf:d.params.defaults=[])
  (call:∀(w:World) (s₀ s₁:Shared) (mg mb:Str->Option Value) (fa:Addr) (o:Obj) (pm cd doc:Value) (a:Addr) (vs:List Value) (ns:List Int),
   Ground q loose [] XP w s₀ mg mb s₁.heap->YP w s₁.heap->
   s₁.heap.get? fa=some o->o.data=.func (docDef d.name d.params d.body d.scope pm cd doc)->s₁.heap.CodeRec cd d.name->mg d.name=some (.ref fa)->
   s₁.heap.get? a=some {cls:=.type "list",data:=.seq vs.toArray}->IntsAre vs ns->ns.length<=n->s₁.gens= #[]->
   codeAny (model l.prog w) callerA (.call (.ref fa) ⟨[.ref a],[]⟩) (λr s'=>r=.ok (.ret (.bool true))/\OldK s₁.heap s'.heap/\s'.os=s₁.os/\AllBare s'.gens) s₁):
  WalkO q loose XP YP l.row.toRowW d [] (λf vs=>PySem.call f vs):=by
 intro w s₀ s₁ mg mb G Y fa o pm cd doc dV kV ho hd m hD j hg p h as c k s i t;obtain rfl:dV=.none:=Dflts.none hD hdf;obtain rfl:kV=.none:=Dflts.noKw hD;obtain⟨a,vs,ns,rfl,rfl,e,b,g⟩:=UP hn c i;refine enter_call (codeAny_mono (call w s₀ s₁ mg mb fa o pm cd doc a vs ns G Y ho (fd_plain hd) m j e b g hg) λr s' hq=> ?_);obtain⟨rfl,h2,h3,h4⟩:=hq;exact⟨.inl ⟨.bool true,.bool true,[],rfl,λ_=>rfl,.bool true,UJ l _,λ_=>⟨List.Pairwise.nil,λ_ hm=>(nomatch hm)⟩⟩,h2,h3,h4⟩
section
end
end Att
namespace _L
open PySem PySem.Spec PyProof.Rows
theorem FS:∀ {vs:List Value} {ns:List Int},IntsAre vs ns->Vals (ns.map V.int) vs
 |_,_,.nil=> .nil
 |_,_,.cons n t h=> .cons ⟨t,rfl⟩ (FS h)
def inClass(s:Stmt)(j:Nat):Stmt:=match s with
 | .ClassDef _ _ _ body _ _ _ _ _ _ _=>body.getD j (.Pass ⟨0,0,0,0⟩)
 |_=> .Pass ⟨0,0,0,0⟩
def D1(s:Stmt):Arguments:=match s with
 | .FunctionDef _ a _ _ _ _ _ _ _ _=>a
 |_=> {posonlyargs:=[],args:=[],vararg:=none,kwonlyargs:=[],kw_defaults:=[],kwarg:=none,defaults:=[]}
def C7(s:Stmt):List Stmt:=match s with
 | .FunctionDef _ _ b _ _ _ _ _ _ _=>b
 |_=> []
def A9(s:Stmt):Scope:=match s with
 | .FunctionDef _ _ _ _ _ _ sc _ _ _=>sc
 |_=> {kind:=.function,names:=[],isGenerator:=false,isCoroutine:=false}
abbrev CX0:CXT:=λ_ _ _ _ _ _=>False
abbrev E0:XK:=λ_ _ _=>False
theorem F8:R6 CX0 X E0:=λ_ _ _ _ _ _ _ h=>h.elim
structure Fun (Z:FZ) (x qual:Str) (st:Stmt) (f:Addr) (fd:FuncData):Prop where
 ex:∃(oc:Value) (od:Option Addr) (kV doc pm:Value) (an:Option Addr) (cdv ct:Value) (osl:Array (Option Value)),
  fd=fnOf x qual (D1 st) (C7 st) (A9 st) .none kV doc pm an cdv ct/\Z.lookup f=some ⟨oc,od,.func fd,osl⟩/\codeIn Z cdv qual=true
 kp:kZ Z (.ref f)=true
section
theorem Fun.ok{st:Stmt}{sp:Sp}(F:Fun Z x qual st f fd)(S:FnScope N ps (A9 st))(len:∀vs H Q E,sp vs H Q E->vs.length=ps.length)
  (hbody:∀(cdv:Value) (A:Around) (outer:List Env) (s:Shared) (H:Hp) (vs:List V) (Q:VK) (E:XK),Room k (A.deeper (envOfC qual (A9 st) s.heap.objs.size f cdv))->sp vs H Q E->
   ∃t,PSs (HL CX0 P w Z mg qB N qual (A9 st) f cdv A outer s H E).nox (C7 st) t/\t {nx:=λ_ H'=>Q .non H',rt:=Q} (start N vs) H):FnOk P w Z mg qB CX0 (k+1) f fd ps sp:=by
 obtain⟨oc,od,kV,d,pm,an,cdv,ct,c,rfl,lk,b⟩:=F.ex;refine bGZ lk b S len λA outer s H vs Q E hr a=> ?_;obtain⟨t,h,q⟩:=hbody cdv A outer s H vs Q E hr a;exact⟨t,h.nox,q⟩
theorem Fun.binds{st:Stmt}{ps:List Str}(F:Fun Z x qual st f fd)
  (h:∀(kV doc pm:Value) (an:Option Addr) (cdv ct:Value) (us:List Value),us.length=ps.length->bindArgs (fnOf x qual (D1 st) (C7 st) (A9 st) .none kV doc pm an cdv ct) ⟨us,[]⟩=pure (ps.zip us)):Binds Z fd ps []:=by
 obtain⟨oc,od,kV,doc,pm,an,cdv,ct,a,rfl,lk,b⟩:=F.ex;exact .all (h kV doc pm an cdv ct)
theorem Q9{Z:FZ}{st:Stmt}{oc:Value}{od:Option Addr}{osl:Array (Option Value)}{kV:Value}(l:Z.lookup f=some ⟨oc,od,.func (fnOf x qual (D1 st) (C7 st) (A9 st) .none kV doc pm an cdv ct),osl⟩)
  (c:codeIn Z cdv qual=true)(k:kZ Z (.ref f)=true):Fun Z x qual st f (fnOf x qual (D1 st) (C7 st) (A9 st) .none kV doc pm an cdv ct):=⟨⟨oc,od,kV,doc,pm,an,cdv,ct,osl,rfl,l,c⟩,k⟩
theorem pv{X:Cx}(i:Nat){x:Str}(hN:X.N[i]? =some x:=by rfl)(hv:Vis X.env.scope x:=by first|exact Or.inl rfl|exact Or.inr (Or.inl rfl)|exact Or.inr (Or.inr rfl))(hd:(x==("__debug__":Str))=false:=by decide)
  (hcd:(x==("__classdict__":Str))=false:=by decide):PE X (.Name x pos) (tVar i):=cqZ hN hv hd hcd
end
theorem K5{A B:Prop}[Decidable c](h1:c->A)(h2:¬c->B):if c then A else B:=by
 by_cases h:c
 ·rw[if_pos h];exact h1 h
 ·rw[if_neg h];exact h2 h
def Same(H H':Hp):Prop:=∀b o,H b=some o->H' b=some o
theorem Same.refl(H:Hp):Same H H:=λ_ _ h=>h
theorem Same.trans(a:Same H H1)(b:Same H1 H2):Same H H2:=λc o h=>b c o (a c o h)
theorem Same.free(e:Same H H'){l:Addr}(h:H' l=Option.none):H l=Option.none:=by
 cases q:H l with
 |none=>rfl
 |some o=>
  rw[e l o q]at h;cases h
theorem Same.seq(e:Same H H')(h:SqL Z H a xs):SqL Z H' a xs:=by
 rcases h with(h|⟨o,h⟩)|h
 ·exact .inl (.inl (e _ _ h))
 ·exact .inl (.inr ⟨o,e _ _ h⟩)
 ·exact .inr h
theorem IH{α β:Type}{M:Model}{A:Around}{a:α}{Q:α->Shared->Prop}{E:Value->Shared->Prop}{s:Shared}{t2:Sem β}{Q2:β->Shared->Prop}{E2:Value->Shared->Prop}
  (h:wpAny M A (pure a:Sem α) Q E s)(k:Q a s->wpAny M A t2 Q2 E2 s):wpAny M A t2 Q2 E2 s:=fun Γ p hΓ=>k (h Γ p hΓ) Γ p hΓ
def PTs(X:Cx)(ifs:List Expr)(t:TT):Prop:=
 ∀(N:List (Addr×Obj)) (s:Shared) (σ:St) (H:Hp) (Q:Bool->Hp->Prop),Inv X N σ H s->t σ H Q->
  wpAny (model X.prog X.w) X.A (forIn ifs true λc r=>if r=true then do let ok<-isTrue c X.env (eval c X.env);pure (ForInStep.yield ok)else pure (ForInStep.yield r)) (TP X N σ Q) X.xe s
def QQ:TT:=λ_ H Q=>Q true H
theorem J8:PTs X [] QQ:=λ_ _ _ H _ I h=>wpAny_tests_nil ⟨H,I,h⟩
theorem R7(h:PT X c t):PTs X [c] t:=λa s σ H Q I hq=>wpAny_tests_one (h a s σ H Q I hq)
noncomputable def T9(cells:List (Str×Addr))(names:List (Str×NameKind))(acc:List (Str×Addr)):List (Str×Addr):=
 match names with
 | []=>acc
 |(n,k)::r=>T9 cells r (if k==.free then(n,(cells.lookup n).getD 0)::acc else acc)
theorem Z1{env:Env}:∀(names:List (Str×NameKind)) (acc:List (Str×Addr)),(∀y∈names,y.2=.free->∃c,env.cells.lookup y.1=some c)->
  (forIn names acc λ(x:Str×NameKind) (r:List (Str×Addr))=>if(x.2==.free)=true then(do let a<-cellOf env x.1;pure (ForInStep.yield ((x.1,a)::r)):Sem (ForInStep (List (Str×Addr))))else pure (ForInStep.yield r))=(pure (T9 env.cells names acc):Sem (List (Str×Addr)))
 | [],acc,_=>rfl
 |(n,k)::r,acc,h=>by
  have ih:=Z1 (env:=env) r;rw[List.forIn_cons];by_cases hk:(k==NameKind.free)=true
  ·obtain⟨c,hc⟩:=h (n,k) mem_cons_self (by simpa using hk);have b:cellOf env n=pure c:=by unfold cellOf;rw[hc]
   dsimp only
   rw[if_pos hk,b];have e:T9 env.cells ((n,k)::r) acc=T9 env.cells r ((n,c)::acc):=by
    show T9 env.cells r (if(k==NameKind.free)=true then(n,(env.cells.lookup n).getD 0)::acc else acc)=_;rw[if_pos hk,hc];rfl
   rw[e,<-ih ((n,c)::acc) λy hy=>h y (mem_cons_of_mem _ hy)];rfl
  ·dsimp only
   rw[if_neg hk];have e:T9 env.cells ((n,k)::r) acc=T9 env.cells r acc:=by
    show T9 env.cells r (if(k==NameKind.free)=true then(n,(env.cells.lookup n).getD 0)::acc else acc)=_;rw[if_neg hk]
   rw[e,<-ih acc λy hy=>h y (mem_cons_of_mem _ hy)];rfl
theorem S4{scope:Scope}{env:Env}(h:∀y∈scope.names,y.2=.free->∃c,env.cells.lookup y.1=some c):closureFor scope env=pure (T9 env.cells scope.names []):=by
 unfold closureFor;have e:=Z1 (env:=env) scope.names [] h
 first
  |exact e
  |(simp only[bind_pure_comp,map_pure]at*;exact e)
  |(rw[<-e];simp)
theorem EF{cells:List (Str×Addr)}:∀(names:List (Str×NameKind)) (acc:List (Str×Addr)) (p:Str×Addr),(∀y∈names,y.2=.free->∃c,cells.lookup y.1=some c)->p∈T9 cells names acc->p∈acc\/(cells.lookup p.1=some p.2/\(p.1,NameKind.free)∈names)
 | [],acc,p,_,h=> .inl h
 |(n,k)::r,acc,p,hn,h=>by
  have h':p∈T9 cells r (if(k==NameKind.free)=true then(n,(cells.lookup n).getD 0)::acc else acc):=h;rcases EF r _ p (λy hy=>hn y (mem_cons_of_mem _ hy)) h' with q|⟨q1,q2⟩
  ·by_cases hk:(k==NameKind.free)=true
   ·rw[if_pos hk]at q;rcases cZ q with e|q
    ·have a:k=.free:=by simpa using hk
     obtain⟨c,hc⟩:=hn (n,k) mem_cons_self a;subst e;refine .inr ⟨?_, ?_⟩
     ·show cells.lookup n=some ((cells.lookup n).getD 0);have b:cells.lookup n=some c:=hc;rw[b];rfl
     ·rw[<-a];exact mem_cons_self
    ·exact .inl q
   ·rw[if_neg hk]at q;exact .inl q
  ·exact .inr ⟨q1,mem_cons_of_mem _ q2⟩
theorem EQ:∀(names:List (Str×NameKind)) (acc:List (Str×Addr)) (n:Str),((n,NameKind.free)∈names\/∃c,(n,c)∈acc)->∃c,(n,c)∈T9 cells names acc
 | [],acc,n,h=>by
  rcases h with h|h
  ·cases h
  ·exact h
 |(m,k)::r,acc,n,h=>by
  show∃c,(n,c)∈T9 cells r (if(k==NameKind.free)=true then(m,(cells.lookup m).getD 0)::acc else acc);refine EQ r _ n ?_;rcases h with h|⟨c,h⟩
  ·rcases cZ h with e|h
   ·injection e with e1 e2
    subst e1;subst e2;exact .inr ⟨_,by rw[if_pos (show(NameKind.free==NameKind.free)=true from rfl)];exact mem_cons_self⟩
   ·exact .inl h
  ·refine .inr ⟨c, ?_⟩;split
   ·exact mem_cons_of_mem _ h
   ·exact h
theorem O9{α:Type}{n:Str}{c:α}:∀ {l:List (Str×α)},(n,c)∈l->∃d,l.lookup n=some d/\(n,d)∈l
 |(m,d)::r,h=>by
  by_cases e:n=m
  ·subst e;exact⟨d,by simp[lookup_cons],mem_cons_self⟩
  ·rcases cZ h with q|q
   ·injection q with q1 _
    exact absurd q1 e
   ·obtain⟨d',h1,h2⟩:=O9 q;refine⟨d', ?_,mem_cons_of_mem _ h2⟩;rw[lookup_cons];have:(n==m)=false:=beq_eq_false_iff_ne.mpr e;rw[this];exact h1
structure CompScope (N:List Str) (sc scope:Scope) (x:Str) (caps:List Nat) (ns:List Str):Prop where
 cell:∀y∈scope.names,y.2≠ .cell
 kind:scope.kind=.function
 names:∀y∈scope.names,y.2=.local->scope.names.lookup y.1=some .local
 var:scope.names.lookup x=some .local
 free:∀y∈scope.names,y.2=.free->sc.names.lookup y.1=some .cell\/sc.names.lookup y.1=some .free
 at_:caps.map (λj=>N[j]?)=ns.map some
 nsf:∀y∈ns,scope.names.lookup y=some .free
 nd:(x::ns).Nodup
noncomputable def Cx.comp(X:Cx)(N':List Str)(scope:Scope)(cl:List (Str×Addr))(C:Addr)(s:Shared)(H:Hp)(fp:List Addr):Cx:=
 {X with N:=N',s₀:=s,H₀:=H,env:=compEnvC scope cl C X.env,outer:=X.stack,ex:=fp,fn:=λ_=>false,xe:=λ_ _=>False}
def capσ(caps:List Nat)(σ:St)(v:Option V):St:=v::caps.map λj=>(σ[j]?).getD none
def WP(wi:TI)(caps:List Nat)(tt:TT)(te:TE)(σ:St)(H:Hp)(R:List V->Hp->Prop):Prop:=wi σ H λJ H1=>∃W:Nat->Nat->List V->Hp->Prop,(∃m,W 0 m [] H1)/\∀i m ys H,W i m ys H->
 ys.length<=sizeLine/\((J.stop i H/\R ys H)\/(J.go i H/\∃N:List V->Hp->Prop,(∀ys' H',N ys' H'->∃m',m'<m/\W (i+1) m' ys' H')/\∀v H',J.yld i H v H'->tt (capσ caps σ (some v)) H' λb H2=>
  if b=true then te (capσ caps σ (some v)) H2 λy H3=>N (ys++ [y]) H3 else N ys H2))
def bvZ(wi:TI)(caps:List Nat)(tt:TT)(te:TE):TE:=fun σ H Q=>WP wi caps tt te σ H λys H1=>∀D,H1 D=none->Q (.ref D) (upd H1 D (.lst ys))
theorem U4{y:Str}(h:((relabel scope env).names.lookup y=some .cell\/(relabel scope env).names.lookup y=some .free))(hc:∀y∈scope.names,y.2≠ .cell):(y,NameKind.free)∈scope.names:=by
 have h':∃k,(k=.cell\/k=.free)/\(y,k)∈(relabel scope env).names:=by
  rcases h with h|h
  ·exact⟨_,.inl rfl,PySem.mem_of_lookup h⟩
  ·exact⟨_,.inr rfl,PySem.mem_of_lookup h⟩
 obtain⟨k,hk,hm⟩:=h';unfold relabel at hm;obtain⟨⟨n,k0⟩,a,e⟩:=mem_map.mp hm
 dsimp only at e
 split at e
 ·rename_i hcond;injection e with e1 e2
  subst e1;have:k0=.free:=by
   simp only[Bool.and_eq_true]at hcond
   simpa using hcond.1.1
  subst this;exact a
 ·injection e with e1 e2
  subst e1;subst e2;rcases hk with rfl|rfl
  ·exact absurd rfl (hc _ a)
  ·exact a
theorem J3{env:Env}:∀ {names:List (Str×NameKind)} {x:Str},names.lookup x=some .free->
  (names.map λ(n,k)=>if(k==NameKind.free&&env.scope.kind==.function&&env.kindOf n==some .cell)then(n,NameKind.cell)else(n,k)).lookup x=some .cell\/
  (names.map λ(n,k)=>if(k==NameKind.free&&env.scope.kind==.function&&env.kindOf n==some .cell)then(n,NameKind.cell)else(n,k)).lookup x=some .free
 | [],_,h=>by simp at h
 |(n,k)::r,x,h=>by
  have ih:= @J3 env r x;show(List.lookup x ((if(k==NameKind.free&&env.scope.kind==.function&&env.kindOf n==some .cell)=true then(n,NameKind.cell)else(n,k))::_)=_)\/(List.lookup x ((if(k==NameKind.free&&env.scope.kind==.function&&env.kindOf n==some .cell)=true then(n,NameKind.cell)else(n,k))::_)=_);cases hx:x==n with
  |true=>
   simp only[lookup_cons,hx]at h;cases h;split
   ·left;simp[lookup_cons,hx]
   ·right;simp[lookup_cons,hx]
  |false=>
   simp only[lookup_cons,hx]at h;by_cases hc:(k==NameKind.free&&env.scope.kind==.function&&env.kindOf n==some .cell)=true
   ·rw[if_pos hc];simp only[lookup_cons,hx];exact ih h
   ·rw[if_neg hc];simp only[lookup_cons,hx];exact ih h
section
theorem FT{X:Cx}{use:Option (Value->Sem Unit)}{Q:Value->Shared->Prop}
  {s:Shared}{H:Hp}{R:List V->Hp->Prop}
  (CS:CompScope X.N X.env.scope scope x caps ns)(hc:X.calm=true)(hi:PI X (.Name x px) iter wi)
  (ht:∀cl C s H fp,PTs (X.comp (x::ns) scope cl C s H fp) ifs tt)(he:∀cl C s H fp,PE (X.comp (x::ns) scope cl C s H fp) elt te)
  (hs:∀v,foldedSetIterable iter X.env v=pure v)
  (I:Inv X N σ H s)(h:WP wi caps tt te σ H R)
  (hend:∀D C s' H' ys,Inv X N σ (upd H' D (.lst ys)) s'->H' D=none->R ys H'->(∃m,s'.heap.Ns C m)->(upd H' D (.lst ys)) C=none->C≠X.env.locals->X.s₀.heap.objs.size<=C->(∀y c,X.env.cells.lookup y=some c->c≠C)->(∀p∈X.pn++N,p.1≠C)->
   compPost (model X.prog X.w) X.A X.xe use Q (.ref D) C (.ok .next) s'):
  wpAny (model X.prog X.w) X.A (comprehension (.ListComp elt [⟨.Name x px,iter,ifs,0⟩] scope pos) scope X.env pos' (newList []) false (eval iter X.env) use) Q X.xe s:=by
 have E:∀y∈scope.names,y.2=.free->∃c,X.env.cells.lookup y.1=some c:=λy hy hf=>I.ok.has y.1 (CS.free y hy hf);refine wpAny_comprehension_free (use:=use) rfl hs (S4 E) CS.kind CS.names ?_;refine thn (hi N s σ H _ I h) λv s1 h1=>thn h1 λbf s2 h2=> ?_;obtain⟨it,fp,tn,J,H2,e,I2,T,ak,f2,W,⟨m0,w0⟩,ag⟩:=h2;subst e;refine wpAny_newObj_type (wpAny_newFunctionEnv CS.cell (by intro y hy;simp at hy) (λh₁ L B=> ?_) CS.kind)
 dsimp only at L B⊢
 generalize an:s2.heap.push {cls:=.type "list",dict:=none,data:=.seq ([]:List Value).toArray}=HH at L B⊢;have hC:HH.objs.size=s2.heap.objs.size+1:=by rw[<-an,size_push]
 generalize bh:HH.objs.size=C at L B hC⊢;have ae:s2.heap.objs.size≠C:=by rw[hC];exact ne_of_lt (lt_succ_self _)
 have f:∀b,b<s2.heap.objs.size->b≠C/\b≠s2.heap.objs.size:=λb hb=>⟨by rw[hC];exact ne_of_lt (Nat.lt_succ_of_lt hb),ne_of_lt hb⟩;have O:∀b o,s2.heap.get? b=some o->h₁.get? b=some o:=λb o e=>B.extBut b o (f b (lt_size e)).1 (gZ _ (an▸gZ _ e));have am:h₁.get? s2.heap.objs.size=some (LCg.lst []):=B.extBut _ _ ae (gZ _ (an▸get?_push_size _ rfl));have af:∀b∈fp,b<s2.heap.objs.size:=λb hb=>let⟨o,e,_⟩:=T.obj _ _ ak b hb;lt_size e;have g:∀y c,(T9 X.env.cells scope.names []).lookup y=some c->X.env.cells.lookup y=some c:=λy c e=>by
  rcases EF scope.names [] (y,c) E (PySem.mem_of_lookup e)with q|q
  ·cases q
  ·exact q.1
 have F:∀a,s2.heap.objs.size<=a->H2 a=none:=λa ha=>I2.hok.fresh ha;generalize a7:T9 X.env.cells scope.names []=cl at g⊢;have P:∀y,(y,NameKind.free)∈scope.names->∃c,cl.lookup y=some c:=λy hy=>by
  obtain⟨c,q⟩:=EQ (cells:=X.env.cells) scope.names [] y (.inl hy);rw[a7]at q;obtain⟨d,q1,_⟩:=O9 q;exact⟨d,q1⟩
 have ar:∀y c,X.env.cells.lookup y=some c->c<s2.heap.objs.size:=λy c e=>let⟨v,z⟩:=I2.cell y c e;z.lt;have aq:(X.comp (x::ns) scope cl C s2 H2 fp).Ok:=by
  refine⟨I2.ok.mod,CS.kind,I2.ok.glob,I2.ok.blt,(by show s2.heap.objs.size<=C;rw[hC];exact le_succ _),λy z c a b=>I2.ok.inj y z c (g y c a) (g z c b),λy hy=>P y (U4 hy CS.cell),λy c z=>(by cases z),I2.ok.hd,I2.ok.frames,.inl rfl,
   λb hb=>⟨(f b (af b hb)).1,λy c e z=>(f2 b hb).2.2.2.2.1 y c (g y c e) z⟩,λb o e=>I2.bs b o e,le_trans I2.ok.bsz I2.sz,λb o e hb=> ?_,λb hb hf=> ?_,I2.stack,I2.stkFree⟩
  ·rcases(f2 b hb).2.2.2.1 with z|z
   ·exact I2.ok.noex b o e z
   ·exact absurd (lt_of_lt_of_le (lt_size e) (le_trans I2.ok.bsz z)) (lt_irrefl _)
  ·rcases cZ (I2.stkSub b hf)with z|z
   ·exact(f2 b hb).2.1 z
   ·exact(f2 b hb).2.2.1 z
 have U:∀(k:Nat) (y:Str) (v:V),(x::ns)[k]? =some y->(capσ caps σ none)[k]? =some (some v)->∃j,X.N[j]? =some y/\σ[j]? =some (some v)/\scope.names.lookup y=some .free:=λk y v e1 e2=>by
  cases k with
  |zero=>cases e2
  |succ k=>
   have ay:ns[k]? =some y:=by simpa using e1
   have ao:(caps.map λj=>(σ[j]?).getD none)[k]? =some (some v):=by simpa [capσ]using e2
   have e3:(ns.map some)[k]? =some (some y):=by rw[getElem?_map,ay];rfl
   rw[<-CS.at_,getElem?_map]at e3;rw[getElem?_map]at ao;cases hj:caps[k]? with
   |none=>rw[hj]at e3;cases e3
   |some j=>
    rw[hj]at e3 ao;have e4:X.N[j]? =some y:=sJ e3;have e5:(σ[j]?).getD none=some v:=sJ ao;refine⟨j,e4, ?_,CS.nsf y (mem_of_getElem? ay)⟩;cases hσ:σ[j]? with
    |none=>rw[hσ]at e5;cases e5
    |some z=>rw[hσ]at e5;have e6:z=some v:=e5;rw[e6]
 have G:∀y,scope.names.lookup y=some .free->X.env.kindOf y=some .cell\/X.env.kindOf y=some .free:=λy hy=>CS.free (y,.free) (PySem.mem_of_lookup hy) rfl;have I0:Inv (X.comp (x::ns) scope cl C s2 H2 fp) (N++ [(s2.heap.objs.size,LCg.lst [])]) (capσ caps σ none) H2 {s2 with heap:=h₁,toks:=s2.toks+([]:List (Str×Value)).length}:=by
  obtain⟨m2,bg,a6⟩:=I2.loc;refine⟨aq,rfl,I2.bare,Un.kept O,⟨_,L,λk y v e1 e2 e3=> ?_⟩,λy c e=> ?_,F C (by rw[hC];exact le_succ _),λy c e=>I2.freeC y c (g y c e),λp hp=> ?_,I2.hok.kept O, ?_⟩
  ·obtain⟨j,q1,q2,q3⟩:=U k y v e1 e2;have vf:=G y q3;obtain⟨u,ru,lk⟩:=a6 j y v q1 q2 (vf.elim (λz=> .inr (.inl z)) λz=> .inr (.inr z));refine⟨u,ru,.inr ⟨J3 q3, ?_⟩⟩;obtain⟨c,ad⟩:=P y (PySem.mem_of_lookup q3);refine⟨c,ad, ?_⟩;rcases lk with⟨k1,_⟩|⟨_,c',e',z⟩
   ·rcases vf with vf|vf<;>(rw[k1]at vf;cases vf)
   ·have q:=g y c ad;rw[e']at q;cases q;exact z.keeps O
  ·obtain⟨v,z⟩:=I2.cell y c (g y c e);exact⟨v,z.keeps O⟩
  ·rcases mem_append.mp hp with hp|hp
   ·obtain⟨a1,a2,a3,a4,a5⟩:=I2.pin p (mem_append_left _ hp);refine⟨O _ _ a1,a2,(f _ (lt_size a1)).1,λz=> ?_,a5⟩;rcases cZ (I2.stkSub _ z)with z|z
    ·exact a3 z
    ·exact a4 z
   ·rcases mem_append.mp hp with hp|hp
    ·obtain⟨a1,a2,a3,a4,a5⟩:=I2.pin p (mem_append_right _ hp);refine⟨O _ _ a1,a2,(f _ (lt_size a1)).1,λz=> ?_,a5⟩;rcases cZ (I2.stkSub _ z)with z|z
     ·exact a3 z
     ·exact a4 z
    ·have e:p=(s2.heap.objs.size,LCg.lst []):=by simpa using hp
     subst e;refine⟨am,F _ (le_refl _),ae,λz=> ?_,λv z=>by cases z⟩;rcases cZ (I2.stkSub _ z)with z|z
     ·exact absurd I2.lt (by rw[<-z];exact lt_irrefl _)
     ·exact I2.nofs (le_refl _) z
  ·show(capσ caps σ none).length=(x::ns).length;have:=congrArg List.length CS.at_;simp only[length_map]at this;simp[capσ,this]
 have ab:∀s₃:Shared,s₃={s2 with heap:=h₁,toks:=s2.toks+([]:List (Str×Value)).length}->
   codeAny (model X.prog X.w) X.A (.compLoop (.ListComp elt [⟨.Name x px,iter,ifs,0⟩] scope pos) 0 (.ref it) (.ref s2.heap.objs.size) (compEnvC scope cl C X.env))
    (compPost (model X.prog X.w) X.A X.xe use Q (.ref s2.heap.objs.size) C) s₃:=by
  rintro s₃ rfl;refine codeAny_compLoop_tests (λn s'=>∃i ys us H',Inv (X.comp (x::ns) scope cl C s2 H2 fp) (N++ [(s2.heap.objs.size,LCg.lst us)]) (capσ caps σ none) H' s'/\Vals ys us/\tn i s'.heap/\(∀b∈fp,H' b=none)/\W i n ys H') ?_ m0
   ⟨0,[],[],H2,I0,.nil,T.keep _ _ _ ak (λb _ o e=>O b o e),λb hb=>(f2 b hb).1,w0⟩
  rintro n s3 ⟨i,ys,us,H3,I3,rv,ap,ax,w3⟩;obtain⟨av,ac⟩:=ag i n ys H3 w3;have M:∀p∈X.pn++N,p.1<s2.heap.objs.size:=λp hp=>lt_size (I2.pin p hp).1;have S:∀ {H':Hp},(∀b∈fp,H' b=none)->∀b∈fp,FG (X.comp (x::ns) scope cl C s2 H2 fp) (N++ [(s2.heap.objs.size,LCg.lst us)]) H' b:=λhn b hb=>
   ⟨hn b hb,(f b (af b hb)).1,aq.exfs b hb,.inl hb,λy c e z=>(f2 b hb).2.2.2.2.1 y c (g y c e) z,λp hp=>by
    rcases mem_append.mp hp with hp|hp
    ·exact(f2 b hb).2.2.2.2.2 p (mem_append_left _ hp)
    ·rcases mem_append.mp hp with hp|hp
     ·exact(f2 b hb).2.2.2.2.2 p (mem_append_right _ hp)
     ·have e:p=(s2.heap.objs.size,LCg.lst us):=by simpa using hp
      subst e;exact Ne.symm (f b (af b hb)).2⟩
  have al:∀(l:List (Addr×Obj)),(s2.heap.objs.size,LCg.lst us)∈(X.comp (x::ns) scope cl C s2 H2 fp).pn++((N++ [(s2.heap.objs.size,LCg.lst us)])++l):=λl=>
   mem_append_right _ (mem_append_left _ (mem_append_right _ mem_cons_self))
  rcases ac with⟨ah,r⟩|⟨go,Nx,aw,ai⟩
  ·refine thn (T.done (X.comp (x::ns) scope cl C s2 H2 fp) rfl rfl rfl hc i _ s3 _ H3 _ I3 (S ax) ap ah) λr' s4 ⟨hr,I4⟩=> ?_;subst hr;have pD:=I4.pin (s2.heap.objs.size,LCg.lst us) (mem_append_right _ (mem_append_right _ mem_cons_self));have Y:H3 s2.heap.objs.size=none:=pD.2.1;have a9:H3 C=none:=I4.free;have b4:Un (frs X.stack) fp H2 H3 s2.heap s4.heap:=I4.qB;have u4:Un (frs X.stack) fp H2 (upd H3 s2.heap.objs.size (.lst ys)) s2.heap s4.heap:=
    ⟨b4.keep,b4.slot,λb o e n hx=>by rw[B5 (f b (lt_size e)).2];exact b4.free b o e n hx,b4.there,
     λb xs q=>by rw[B5 (B9 (b4.tups b xs q) Y)];exact b4.tups b xs q,λb o u q=>by rw[B5 (B9 (b4.frzs b o u q) Y)];exact b4.frzs b o u q,
     λb ps q=>by
      obtain⟨m1,e1⟩:=b4.tbls b ps q;exact⟨m1,by rw[B5 (B9 e1 Y)];exact e1⟩⟩
   have k4:HOk X.prog X.w (upd H3 s2.heap.objs.size (.lst ys)) s4.heap:=λb u e=>by
    by_cases hb:b=s2.heap.objs.size
    ·subst hb;rw[A4]at e;cases e;exact⟨av,us,_,rv,pD.1⟩
    ·rw[B5 hb]at e;exact(I4.hok b u e).stay (λc v _ q=>q) (λc q=>by rw[B5 (B9 q Y)];exact q) λc xs q=>by rw[B5 (B9 q Y)];exact q
   have J4:Inv X N σ (upd H3 s2.heap.objs.size (.lst ys)) s4:=I2.call' (ch:=fp) I4.os u4 k4 I4.bare λb hb=>⟨(f2 b hb).2.2.2.1,(f2 b hb).2.1,(f2 b hb).2.2.2.2.1,(f2 b hb).2.2.2.2.2⟩;obtain⟨mC,a0,_⟩:=I4.loc;exact hend _ C s4 H3 ys J4 Y r ⟨mC,a0⟩ (by rw[B5 (Ne.symm ae)];exact a9) (Ne.symm (f _ I2.lt).1) (by rw[hC];exact Nat.le_succ_of_le I2.sz) (λy c e=>(f c (ar y c e)).1) λp hp=>(f _ (M p hp)).1
  ·refine thn (T.item (X.comp (x::ns) scope cl C s2 H2 fp) rfl rfl rfl hc i _ s3 _ H3 _ I3 (S ax) ap go) λr' s4 ⟨u,hr,h4⟩=> ?_;subst hr;refine IH h4 λ⟨v,H5,I5,r5,y5,aj,ba⟩=> ?_;have be:=I5.pinned (S ba) (T.obj _ _ aj);refine wpAny_assign_Name (Z9 (X:=X.comp (x::ns) scope cl C s2 H2 fp) (i:=0) be CS.nd rfl (.inl (lookup_relabel_local CS.var)) r5 (λs6 I6=> ?_) (.inr (lookup_relabel_local CS.var)));have bd:Inv (X.comp (x::ns) scope cl C s2 H2 fp) ((N++ [(s2.heap.objs.size,LCg.lst us)])++W7 fp s4.heap) (capσ caps σ (some v)) H5 s6:=I6;refine wpAny_mono (ht cl C s2 H2 fp _ s6 _ H5 _ bd (ai v H5 y5)) (λb s7 ⟨H7,I7,q7⟩=> ?_) (λ_ _ e=>e.elim);have aa:∀ {H':Hp} {s':Shared} {pl:List (Addr×Obj)},Inv (X.comp (x::ns) scope cl C s2 H2 fp) pl (capσ caps σ (some v)) H' s'->Inv (X.comp (x::ns) scope cl C s2 H2 fp) pl (capσ caps σ none) H' s':=λ{H' s' pl} J'=>
    J'.weak rfl λk z e=>by
     cases k with
     |zero=>cases e
     |succ k=>exact e
   have t:∀ {H':Hp} {s':Shared},Inv (X.comp (x::ns) scope cl C s2 H2 fp) ((N++ [(s2.heap.objs.size,LCg.lst us)])++W7 fp s4.heap) (capσ caps σ (some v)) H' s'->tn (i+1) s'.heap/\∀b∈fp,H' b=none:=λ{H' s'} J'=>by
    refine⟨T.keep _ _ _ aj λb hb o e=>(J'.pin (b,o) (mem_append_right _ (mem_append_right _ (M0 hb e)))).1,λb hb=> ?_⟩;obtain⟨o,e,d⟩:=T.obj _ _ aj b hb;exact(J'.pin (b,o) (mem_append_right _ (mem_append_right _ (M0 hb e)))).2.1
   cases b with
   |false=>
    rw[if_neg nZ]at q7⊢;obtain⟨m',hm,w7⟩:=aw _ _ q7;exact⟨m',hm,i+1,ys,us,H7,aa I7.unpinned,rv,(t I7).1,(t I7).2,w7⟩
   |true=>
    rw[if_pos rfl]at q7⊢;refine wpAny_mono (he cl C s2 H2 fp _ s7 _ H7 _ I7 q7) (λyv s8 ⟨y,H8,I8,ry,n8⟩=> ?_) (λ_ _ e=>e.elim);obtain⟨m',hm,w8⟩:=aw _ _ n8;have pD:=I8.pin (s2.heap.objs.size,LCg.lst us) (al _);have az:us.length=ys.length:=rv.length.symm;refine append_at (hsz:=by show us.toArray.size<=sizeLine;rw[size_toArray,az];exact av) pD.1 λh9 au a8=> ?_;have bc:Inv (X.comp (x::ns) scope cl C s2 H2 fp) N (capσ caps σ none) H8 s8:=aa I8.unpinned.unpinned;have I9:Inv (X.comp (x::ns) scope cl C s2 H2 fp) N (capσ caps σ none) H8 {s8 with heap:=h9}:=bc.turned (t':=s8.toks) (it:=s2.heap.objs.size) (λb o hb e=>(au.2 b hb).trans e) pD.2.1 ae (.inr (le_refl _)) (λy c e z=>ne_of_lt (ar y c (g y c e)) z) λp hp=>ne_of_lt (M p hp);have bb:Inv (X.comp (x::ns) scope cl C s2 H2 fp) (N++ [(s2.heap.objs.size,LCg.lst (us++ [yv]))]) (capσ caps σ none) H8 {s8 with heap:=h9}:=I9.pins_of λp hp=>by
     rcases mem_append.mp hp with hp|hp
     ·exact I9.pin p (mem_append_right _ hp)
     ·have e:p=(s2.heap.objs.size,LCg.lst (us++ [yv])):=by simpa using hp
      subst e;exact⟨a8.trans (congrArg some (LCg.lst_snoc us yv)),pD.2.1,ae,pD.2.2.2.1,λv z=>by cases z⟩
    refine⟨m',hm,i+1,ys++ [y],us++ [yv],H8,bb,rv.append (.cons ry .nil), ?_,(t I8).2,w8⟩;exact T.keep _ _ _ (t I8).1 λb hb o e=>(au.2 b (f b (af b hb)).2).trans e
 exact codeAny_compStart_list (ab _ rfl) (T.self X.A 0 _ _ _ (T.keep _ _ _ ak (λb _ o e=>O b o e)) (ab _ rfl))
theorem ET{Z:FZ}{a:Addr}{xs:List V}{caps:List Nat}{tt:TT}{te:TE}{σ:St}{H:Hp}{R:List V->Hp->Prop}(Pv:Nat->List V->Hp->Prop)(h0:Pv 0 [] H)(hl:∀i ys H,i<=xs.length->Pv i ys H->SqT Z H a xs/\ys.length<=sizeLine)
  (hs:∀i x ys H,xs[i]? =some x->Pv i ys H->tt (capσ caps σ (some x)) H λb H2=>if b=true then te (capσ caps σ (some x)) H2 λy H3=>Pv (i+1) (ys++ [y]) H3 else Pv (i+1) ys H2)(hd:∀ys H,Pv xs.length ys H->R ys H):
  ∃W:Nat->Nat->List V->Hp->Prop,(∃m,W 0 m [] H)/\∀i m ys H,W i m ys H->ys.length<=sizeLine/\(((Itt Z a).stop i H/\R ys H)\/((Itt Z a).go i H/\∃N:List V->Hp->Prop,(∀ys' H',N ys' H'->∃m',m'<m/\W (i+1) m' ys' H')/\∀v H',(Itt Z a).yld i H v H'->
   tt (capσ caps σ (some v)) H' λb H2=>if b=true then te (capσ caps σ (some v)) H2 λy H3=>N (ys++ [y]) H3 else N ys H2)):=by
 refine⟨λi m ys H=>m=xs.length - i/\i<=xs.length/\Pv i ys H,⟨xs.length,by simp,zero_le _,h0⟩, ?_⟩;rintro i m ys H ⟨rfl,hi,p⟩;obtain⟨q,hz⟩:=hl i ys H hi p;refine⟨hz, ?_⟩;by_cases c:i<xs.length
 ·refine .inr ⟨⟨xs,xs[i],q,by simp[c]⟩,Pv (i+1),λys' H' p'=>⟨xs.length - (i+1),by omega,rfl,c,p'⟩,λx H' y=> ?_⟩;obtain⟨e,y⟩:=y;subst e;exact hs i x ys _ (y xs q) p
 ·have e:i=xs.length:=by omega
  subst e;exact .inl ⟨⟨xs,q,le_refl _⟩,hd ys H p⟩
theorem K4{Z:FZ}{a:Addr}{xs:List V}{caps:List Nat}{tt:TT}{te:TE}{σ:St}{H:Hp}{R:List V->Hp->Prop}(Pv:Nat->List V->Hp->Prop)(h0:Pv 0 [] H)(hl:∀i ys H,i<=xs.length->Pv i ys H->SqL Z H a xs/\ys.length<=sizeLine)
  (hs:∀i x ys H,xs[i]? =some x->Pv i ys H->tt (capσ caps σ (some x)) H λb H2=>if b=true then te (capσ caps σ (some x)) H2 λy H3=>Pv (i+1) (ys++ [y]) H3 else Pv (i+1) ys H2)(hd:∀ys H,Pv xs.length ys H->R ys H):
  ∃W:Nat->Nat->List V->Hp->Prop,(∃m,W 0 m [] H)/\∀i m ys H,W i m ys H->ys.length<=sizeLine/\(((Itl Z a).stop i H/\R ys H)\/((Itl Z a).go i H/\∃N:List V->Hp->Prop,(∀ys' H',N ys' H'->∃m',m'<m/\W (i+1) m' ys' H')/\∀v H',(Itl Z a).yld i H v H'->
   tt (capσ caps σ (some v)) H' λb H2=>if b=true then te (capσ caps σ (some v)) H2 λy H3=>N (ys++ [y]) H3 else N ys H2)):=by
 refine⟨λi m ys H=>m=xs.length - i/\i<=xs.length/\Pv i ys H,⟨xs.length,by simp,zero_le _,h0⟩, ?_⟩;rintro i m ys H ⟨rfl,hi,p⟩;obtain⟨q,hz⟩:=hl i ys H hi p;refine⟨hz, ?_⟩;by_cases c:i<xs.length
 ·refine .inr ⟨⟨xs,xs[i],q,by simp[c]⟩,Pv (i+1),λys' H' p'=>⟨xs.length - (i+1),by omega,rfl,c,p'⟩,λx H' y=> ?_⟩;obtain⟨e,y⟩:=y;subst e;exact hs i x ys _ (y xs q) p
 ·have e:i=xs.length:=by omega
  subst e;exact .inl ⟨⟨xs,q,le_refl _⟩,hd ys H p⟩
theorem M1{lo:Int}{n:Nat}{caps:List Nat}{tt:TT}{te:TE}{σ:St}{H:Hp}{R:List V->Hp->Prop}(Pv:Nat->List V->Hp->Prop)(h0:Pv 0 [] H)(hl:∀i ys H,i<=n->Pv i ys H->ys.length<=sizeLine)
  (hs:∀i ys H,i<n->Pv i ys H->tt (capσ caps σ (some (.int (lo+i)))) H λb H2=>if b=true then te (capσ caps σ (some (.int (lo+i)))) H2 λy H3=>Pv (i+1) (ys++ [y]) H3 else Pv (i+1) ys H2)(hd:∀ys H,Pv n ys H->R ys H):
  ∃W:Nat->Nat->List V->Hp->Prop,(∃m,W 0 m [] H)/\∀i m ys H,W i m ys H->ys.length<=sizeLine/\(((Itr lo n).stop i H/\R ys H)\/((Itr lo n).go i H/\∃N:List V->Hp->Prop,(∀ys' H',N ys' H'->∃m',m'<m/\W (i+1) m' ys' H')/\∀v H',(Itr lo n).yld i H v H'->
   tt (capσ caps σ (some v)) H' λb H2=>if b=true then te (capσ caps σ (some v)) H2 λy H3=>N (ys++ [y]) H3 else N ys H2)):=by
 refine⟨λi m ys H=>m=n - i/\i<=n/\Pv i ys H,⟨n,by simp,zero_le _,h0⟩, ?_⟩;rintro i m ys H ⟨rfl,hi,p⟩;refine⟨hl i ys H hi p, ?_⟩;by_cases a:i<n
 ·refine .inr ⟨a,Pv (i+1),λys' H' p'=>⟨n - (i+1),by omega,rfl,a,p'⟩,λx H' y=> ?_⟩;obtain⟨e,y⟩:=y;subst e y;exact hs i ys _ a p
 ·have e:i=n:=by omega
  subst e;exact .inl ⟨le_refl _,hd ys H p⟩
theorem L6{X:Cx}
  (CS:CompScope N sc scope x caps ns)(hN':X.N=N)(hsc:X.env.scope=sc)(hc:X.calm=true)(hi:PI X (.Name x px) iter wi)
  (ht:∀cl C s H fp,PTs (X.comp (x::ns) scope cl C s H fp) ifs tt)(he:∀cl C s H fp,PE (X.comp (x::ns) scope cl C s H fp) elt te)
  (hs:∀v,foldedSetIterable iter X.env v=pure v:=by intro _;rfl):
  PE X (.ListComp elt [⟨.Name x px,iter,ifs,0⟩] scope pos) (bvZ wi caps tt te):=by
 intro a s σ H Q I h;subst hN';subst hsc;rw[eval_ListComp];refine FT CS hc hi ht he hs I h ?_;rintro D C s' H' ys I' hD r ⟨m,hn⟩ c1 c2 c3 c4 c5;exact⟨m,hn,λh' c=>⟨.ref D,_,I'.turned (t':=s'.toks) (λb o hb e=>(c.2 b hb).trans e) c1 c2 (.inr c3) c4 c5,rfl,r D hD⟩⟩
theorem K1{X:Cx}{i:Nat}{y:Str}{spos:Pos}(hN:X.N.Nodup)(hi:X.N[i]? =some y)
  (hy:X.env.scope.names.lookup y=some .local)(CS:CompScope N sc scope x caps ns)(hN':X.N=N)(hsc:X.env.scope=sc)(hc:X.calm=true)(hit:PI X (.Name x px) iter wi)
  (ht:∀cl C s H fp,PTs (X.comp (x::ns) scope cl C s H fp) ifs tt)(he:∀cl C s H fp,PE (X.comp (x::ns) scope cl C s H fp) elt te)
  (hsw:swapsWith (.ListComp elt [⟨.Name x px,iter,ifs,0⟩] scope pos) (some (.Name y py)) spos.line X.env=pure true:=by rfl)
  (hs:∀v,foldedSetIterable iter X.env v=pure v:=by intro _;rfl):
  PS X (.Assign [.Name y py] (.ListComp elt [⟨.Name x px,iter,ifs,0⟩] scope pos) spos) (aWZ (bvZ wi caps tt te) (S0 i)):=by
 intro c s σ H D I h;subst hN';subst hsc;rw[exec_Assign_Name_used _ _ _ _ hsw];refine bZ (wpAny_standAt (bZ ?_));show wpAny _ X.A (do let _<-comprehension (.ListComp elt [⟨.Name x px,iter,ifs,0⟩] scope pos) scope X.env _ (newList []) false (eval iter X.env) (some (assign (.Name y py) X.env))) _ _ s;refine bZ (wpAny_mono (FT (use:=some (assign (.Name y py) X.env)) (Q:=λ_ s'=>SP X c D .next s') CS hc hit ht he hs I h ?_) (λ_ s' hq=>pZ (pZ hq)) λ_ _ e=>e);rintro D' C s' H' ys I' hD r ⟨m,hn⟩ c1 c2 c3 c4 c5;show wpAny _ _ (assign (.Name y py) X.env (.ref D')) _ _ s';refine wpAny_assign_Name (FW (v:=.ref D') I' hN hi (.inl hy) rfl (λd j ⟨a,sb,ha⟩=> ?_) (.inr hy));have g:C≠a:=by
  rcases ha with e|e
  ·rw[e];exact c2
  ·exact Ne.symm (c4 y a e)
 exact⟨m,hn.sameBut sb g,λh' f=>⟨_,_,j.turned (t':=d.toks) (λb o hb e=>(f.2 b hb).trans e) c1 c2 (.inr c3) c4 c5,r D' hD⟩⟩
end
theorem cEZ:bootBuiltins "len"=some (.builtin "len"):=by decide +kernel
theorem cPZ:bootBuiltins "max"=some (.builtin "max"):=by decide +kernel
theorem D9:bootBuiltins "isinstance"=some (.builtin "isinstance"):=by decide +kernel
theorem NK:bootBuiltins "abs"=some (.builtin "abs"):=by decide +kernel
theorem dhZ:bootBuiltins "sum"=some (.builtin "sum"):=by decide +kernel
theorem Q8:bootBuiltins "list"=some (.type "list"):=by decide +kernel
theorem Q1:bootBuiltins "tuple"=some (.type "tuple"):=by decide +kernel
theorem YQ:bootBuiltins "int"=some (.type "int"):=by decide +kernel
theorem AC:bootBuiltins "bool"=some (.type "bool"):=by decide +kernel
theorem HY:bootBuiltins "dict"=some (.type "dict"):=by decide +kernel
section
theorem TC{X:Cx}(hc:X.calm=true):CallR X (.builtin "max") (λxs H Q=>∃(p:Addr) (ns:List Int),xs=[.ref p]/\SqL X.K H p (ns.map V.int)/\0<ns.length/\∀M:Int,M∈ns->(∀a∈ns,a<=M)->Q (.int M) H):=by
 intro c s σ H vs us Q I r h;obtain⟨p,ns,rfl,hS,g,q⟩:=h;obtain⟨u,rfl,ru⟩:=V5 r;cases ru;obtain⟨d,rv,pl,hz⟩:=I.list hS;have hi:IntsAre d ns:=OW rv;obtain⟨xs,e⟩:=hi.allInts.items;have b:ns=xs.toList.map (·.1):=by
  rw[<-hi.numsOf,<-nums_intItems,<-e]
 have f:0<xs.size:=by
  have h3:=g;rw[b,length_map,Array.length_toList]at h3;exact h3
 have hl:=pl.isList;rw[e]at hl;refine max_intList (I.ok.hd hc) hl f λv h' tk hv hk=> ?_;obtain⟨t,rfl⟩:=intItems_at hv;obtain⟨h1,h2⟩:=argBest_gt (numAt xs) (xs.size - 1);refine⟨.int _,H,I.kept hk,⟨_,rfl⟩,q _ ?_ λa ha=> ?_⟩
 ·rw[b,numAt_eq];exact getD_mem (by rw[length_map,Array.length_toList];omega)
 ·rw[b]at ha;obtain⟨j,hj,rfl⟩:=mem_getD ha;rw[length_map,Array.length_toList]at hj;rw[<-numAt_eq];exact h2 j (by omega)
theorem VF{X:Cx}(hc:X.calm=true):CallR X (.builtin "max") (λxs H Q=>(∃i j,xs=[.int i,.int j]/\Q (.int (if j>i then j else i)) H)\/
  (∃(p:Addr) (ns:List Int),xs=[.ref p]/\SqL X.K H p (ns.map V.int)/\0<ns.length/\∀M:Int,M∈ns->(∀a∈ns,a<=M)->Q (.int M) H)):=(TV hc).or (TC hc)
theorem op_mul_str:OpR X (binaryOp .Mult) (λx y H Q=>∃i n,x=.str i/\y=.int n/\0<=n/\n<=16777216/\i.length*n.toNat<=16777216/\Q (.str (Txt.mul i n)) H):=by
 intro a s σ H x y v u Q I rx ry h;obtain⟨i,n,rfl,rfl,h0,h1,h2,q⟩:=h;obtain⟨t,rfl⟩:=rx;obtain⟨t',rfl⟩:=ry;exact SB.mul (mulOk_of i.length n.toNat (le_refl _) (by omega) (by omega) (by omega) h2) λb k=>⟨.str _,H,I.tok _,⟨_,rfl⟩,q⟩
def NR:V->Bool
 | .byt _=>false
 | .flt _=>false
 |_=>true
theorem TX(r:RelV x u)(r':RelV x v)(hx:NR x=true):SeqAt.EqAt A s u v true:=by
 cases x with
 |non=>cases r;cases r';exact SeqAt.EqAt.same _
 |bl b=>cases r;cases r';exact SeqAt.EqAt.same _
 |int i=>
  obtain⟨t,rfl⟩:=r;obtain⟨t',rfl⟩:=r';have:=SeqAt.EqAt.int_int (A:=A) (s:=s) i t i t'
  simpa using this
 |str i=>
  obtain⟨t,rfl⟩:=r;obtain⟨t',rfl⟩:=r';have:=SeqAt.EqAt.str_str (A:=A) (s:=s) i t i t'
  simpa using this
 |ref a=>cases r;cases r';exact SeqAt.EqAt.same _
 |ty n=>cases r;cases r';exact SeqAt.EqAt.same _
 |byt b=>cases hx
 |flt b=>cases hx
theorem GI(r:Vals xs us)(r':Vals xs vs)(hx:xs.all NR=true)(j:Nat)(h1:j<us.toArray.size)(h2:j<vs.toArray.size):SeqAt.EqAt A s us.toArray[j] vs.toArray[j] true:=by
 have hj:j<xs.length:=by rw[r.length];simpa using h1
 obtain⟨u,hu,ru⟩:=r.get (i:=j) (x:=xs[j]) (by simp[hj]);obtain⟨v,hv,rv⟩:=r'.get (i:=j) (x:=xs[j]) (by simp[hj]);have e1:us.toArray[j]=u:=by
  have:us[j]? =some us.toArray[j]:=by simp
  rw[hu]at this;exact(sJ this).symm
 have e2:vs.toArray[j]=v:=by
  have:vs[j]? =some vs.toArray[j]:=by simp
  rw[hv]at this;exact(sJ this).symm
 rw[e1,e2];have hp:=all_eq_true.mp hx xs[j] (getElem_mem hj);exact TX ru rv hp
inductive rEqL (Z:FZ) (k:Bool) (x:V) (y:V) (H:Hp) (Q:VK):Prop
 |mk:∀a b xs,(x=.ref a)->(y=.ref b)->(SqL Z H a xs)->(SqL Z H b xs)->(xs.all NR=true)->(Q (.bl k) H)->rEqL Z k x y H Q
theorem YC{X:Cx}(hu:X.A.units<cLine):OpR X (compareOp .Eq) (rEqL X.K true):=by
 intro g s σ H x y v u Q I rx ry h;obtain⟨a,b,xs,rfl,rfl,ha,hb,hp,q⟩:=h;cases rx;cases ry;obtain⟨d,r,pl,_⟩:=I.list ha;obtain⟨c,r2,f,_⟩:=I.list hb;have hl:d.length=c.length:=by rw[<-r.length,<-r2.length]
 refine SeqAt.eq_listAt (e:=λ_=>true) pl.isList f.isList (by simpa using hl) hu (λj h1 h2=>GI r r2 hp j h1 h2) ⟨.bl true,H,I, ?_,q⟩;have:((List.range d.toArray.size).all λ_=>true)=true:=by simp
 rw[this];rfl
theorem ZX{X:Cx}(hu:X.A.units<cLine):OpR X (compareOp .NotEq) (rEqL X.K false):=by
 intro g s σ H x y v u Q I rx ry h;obtain⟨a,b,xs,rfl,rfl,ha,hb,hp,q⟩:=h;cases rx;cases ry;obtain⟨d,r,pl,_⟩:=I.list ha;obtain⟨c,r2,f,_⟩:=I.list hb;have hl:d.length=c.length:=by rw[<-r.length,<-r2.length]
 refine SeqAt.RcNeAt.lists (e:=λ_=>true) pl.isList f.isList (by simpa using hl) hu (λj h1 h2=>GI r r2 hp j h1 h2) X.prog X.w X.xe _ ⟨.bl false,H,I, ?_,q⟩;have:((List.range d.toArray.size).all λ_=>true)=true:=by simp
 rw[this];rfl
inductive rIsi (Z:FZ) (xs:List V) (H:Hp) (Q:VK):Prop
 |mk:∀x c t b,(xs=[x,.ty c])->(TyOf Z H x t)->(kitOne Z t (.type c)=some b)->(Q (.bl b) H)->rIsi Z xs H Q
theorem XT:CallR X (.builtin "isinstance") (rIsi X.K):=by
 intro a s σ H xs us Q I r h;obtain⟨x,c,t,b,rfl,ty,hk,q⟩:=h;obtain⟨u,v,rfl,ru,rv⟩:=bBZ r;cases rv;exact UR I ru ty hk λtk=>⟨.bl b,H,I.tok _,rfl,q⟩
structure TopD (w:World) (Z:FZ) (a:Addr) (kvs:List (Str×V)):Prop where
 ex:∃(es:Array DictEntry) (n:Nat),Z.lookup a=some ⟨.type "dict",none,.dict es n, #[]⟩/\W.KeysLit w.params es.toList/\Paired (λ(p:Str×V) (e:DictEntry)=>(∃t,e.key=.str p.1 t)/\RelV p.2 e.val) kvs es.toList
 lo:(a==sysModules)=false
theorem BW:∀ {kvs:List (Str×V)} {es:List DictEntry},Paired (λ(p:Str×V) (e:DictEntry)=>(∃t,e.key=.str p.1 t)/\RelV p.2 e.val) kvs es->
  RelO (kvs.lookup x) ((es.find? λe=>Value.isStrOf x e.key).map (·.val))
 |_,_,.nil=>trivial
 |(k,v)::kvs,e::es,.cons ⟨⟨t,hk⟩,rv⟩ r=>by
  have a:e.key=.str k t:=hk;rw[lookup_cons,find?_cons,a];by_cases hx:x=k
  ·subst hx;have h1:Value.isStrOf x (.str x t)=true:=by simp[Value.isStrOf]
   rw[h1,beq_self_eq_true];exact rv
  ·have h1:Value.isStrOf x (.str k t)=false:=by
    cases h:Value.isStrOf x (.str k t)with
    |false=>rfl
    |true=>
     obtain⟨t',e'⟩:=Value.isStrOf_shape (x:=x) (v:=.str k t) h;injection e' with e1 _
     exact absurd e1.symm hx
   have h2:(x==k)=false:=beq_eq_false_iff_ne.mpr hx;rw[h1,h2];exact BW r
theorem TopD.map(T:TopD w Z a kvs)(KX:Z.In h):
  ∃f:Str->Option Value,h.MapOf (strKind prog w) a f/\∀x,RelO (kvs.lookup x) (f x):=by
 obtain⟨es,n,hl,hk,hp⟩:=T.ex;refine⟨λk=>findBy Value.isStrOf es k,W.mapOf_K KX hl hk,λx=> ?_⟩;have q:=BW (x:=x) hp;show RelO (List.lookup x kvs) ((es.find? λe=>Value.isStrOf x e.key).map (·.val));rw[<-Array.find?_toList];exact q
inductive rIxTop (w:World) (Z:FZ) (x:V) (y:V) (H:Hp) (Q:VK):Prop
 |mk:∀a k kvs v,(x=.ref a)->(y=.str k)->(TopD w Z a kvs)->(kvs.lookup k=some v)->(Q v H)->rIxTop w Z x y H Q
theorem cnZ:IxR X (rIxTop X.w X.K):=by
 intro b c d s σ H x y v u Q I rx ry h hs;obtain⟨a,k,g,z,rfl,rfl,T,hz,q⟩:=h;cases rx;obtain⟨t,rfl⟩:=ry;obtain⟨f,hm,hf⟩:=T.map (prog:=X.prog) I.kIn;have hr:=hf k;rw[hz]at hr;obtain⟨w',e,r⟩:=hr.some_of;exact tail_any hm.typeIs slot_dict_getitem.lookup (wpAny_getItem_of (strKind_is X.prog X.w k t) hm e ⟨z,H,I.tok _,r,q⟩) hs
theorem SU:OpR X (compareOp .In) (λx y H Q=>∃k a kvs,x=.str k/\y=.ref a/\TopD X.w X.K a kvs/\Q (.bl (kvs.lookup k).isSome) H):=by
 intro b s σ H x y v u Q I rx ry h;obtain⟨k,a,kvs,rfl,rfl,T,q⟩:=h;cases ry;obtain⟨t,rfl⟩:=rx;obtain⟨f,hm,hf⟩:=T.map (prog:=X.prog) I.kIn;have hr:=hf k;have e:(f k).isSome=(kvs.lookup k).isSome:=by
  cases h1:kvs.lookup k with
  |none=>rw[h1]at hr;rw[hr.none_of];rfl
  |some z=>rw[h1]at hr;obtain⟨w',e,_⟩:=hr.some_of;rw[e];rfl
 exact wpAny_in_of (strKind_is X.prog X.w k t) T.lo hm ⟨.bl _,H,I.tok _,by rw[e];rfl,q⟩
theorem L5:OpR X (binaryOp .Add) (λx y H Q=>rI0 (λi j=> .int (i+j)) x y H Q\/(∃i j,x=.str i/\y=.str j/\i.length+j.length<=sizeLine/\Q (.str (i++j)) H)\/rCat x y H Q):=op_add.or (op_add_str.or op_cat)
theorem ffZ:OpR X (binaryOp .Mult) (λx y H Q=>rI CMul (λi j=> .int (i*j)) x y H Q\/(∃i n,x=.str i/\y=.int n/\0<=n/\n<=16777216/\i.length*n.toNat<=16777216/\Q (.str (Txt.mul i n)) H)\/emZ x y H Q):=op_mul.or (op_mul_str.or drZ)
theorem uEq{X:Cx}(hu:X.A.units<cLine):OpR X (compareOp .Eq) (λx y H Q=>rEq x y H Q\/rEqL X.K true x y H Q):=op_eq.or (YC hu)
theorem uNe{X:Cx}(hu:X.A.units<cLine):OpR X (compareOp .NotEq) (λx y H Q=>rNe x y H Q\/rEqL X.K false x y H Q):=op_ne.or (ZX hu)
theorem uIn:OpR X (compareOp .In) (λx y H Q=>(∃i j,x=.str i/\y=.str j/\Q (.bl (!(Builtin.Str.occurrences j i 0 j.length 1).isEmpty)) H)\/rIn X.K false x y H Q\/(∃k a kvs,x=.str k/\y=.ref a/\TopD X.w X.K a kvs/\Q (.bl (kvs.lookup k).isSome) H)):=op_in_str.or (op_in_seq.or SU)
theorem cCZ:OpR X (compareOp .NotIn) (λx y H Q=>(∃i j,x=.str i/\y=.str j/\Q (.bl (!(!(Builtin.Str.occurrences j i 0 j.length 1).isEmpty))) H)\/rIn X.K true x y H Q):=op_notIn_str.or IC
theorem crZ:IxR X (λx y H Q=>rIxL X.K x y H Q\/rIxT X.K x y H Q\/rIxS x y H Q\/rIxTop X.w X.K x y H Q):=ix_list.or (ix_tup.or (ix_str.or cnZ))
theorem sl_any:SlR X (λx lo hi H Q=>rSlL X.K x lo hi H Q\/rSlT X.K x lo hi H Q):=sl_list.or coZ
inductive tCut (t:TS) (D:Ends) (σ:St) (H:Hp):Prop
 |mk:∀R:St->Hp->Prop,(t {D with nx:=R} σ H)->(∀σ' H',R σ' H'->D.nx σ' H')->tCut t D σ H
theorem C6{st:Stmt}(h:PS X st t):PS X st (tCut t):=λa s σ H D I ⟨R,q,hR⟩=>thn (h a s σ H _ I q) λf s' hs=>by
 cases f with
 |next=>obtain⟨σ',H',I',r⟩:=hs;exact⟨σ',H',I',hR σ' H' r⟩
 |brk=>exact hs
 |cont=>exact hs
 |ret v=>exact hs
theorem kEq{X:Cx}{Z:FZ}(hu:X.A.units<cLine)(hK:X.K=Z:=by rfl):OpR X (compareOp .Eq) (λx y H Q=>rEq x y H Q\/rEqL Z true x y H Q):=by subst hK;exact uEq hu
theorem kNe{X:Cx}{Z:FZ}(hu:X.A.units<cLine)(hK:X.K=Z:=by rfl):OpR X (compareOp .NotEq) (λx y H Q=>rNe x y H Q\/rEqL Z false x y H Q):=by subst hK;exact uNe hu
theorem kIn{X:Cx}{Z:FZ}{w:World}(hK:X.K=Z:=by rfl)(hw:X.w=w:=by rfl):OpR X (compareOp .In) (λx y H Q=>(∃i j,x=.str i/\y=.str j/\Q (.bl (!(Builtin.Str.occurrences j i 0 j.length 1).isEmpty)) H)\/rIn Z false x y H Q\/(∃k a kvs,x=.str k/\y=.ref a/\TopD w Z a kvs/\Q (.bl (kvs.lookup k).isSome) H)):=by
 subst hK;subst hw;exact uIn
theorem VY{X:Cx}{Z:FZ}(hK:X.K=Z:=by rfl):OpR X (compareOp .NotIn) (λx y H Q=>(∃i j,x=.str i/\y=.str j/\Q (.bl (!(!(Builtin.Str.occurrences j i 0 j.length 1).isEmpty))) H)\/rIn Z true x y H Q):=by subst hK;exact cCZ
theorem kIx{X:Cx}{Z:FZ}{w:World}(hK:X.K=Z:=by rfl)(hw:X.w=w:=by rfl):IxR X (λx y H Q=>rIxL Z x y H Q\/rIxT Z x y H Q\/rIxS x y H Q\/rIxTop w Z x y H Q):=by subst hK;subst hw;exact crZ
theorem kSl{X:Cx}{Z:FZ}(hK:X.K=Z:=by rfl):SlR X (λx lo hi H Q=>rSlL Z x lo hi H Q\/rSlT Z x lo hi H Q):=by subst hK;exact sl_any
theorem etZ{X:Cx}{Z:FZ}(hK:X.K=Z:=by rfl):CallR X (.builtin "len") (rLen Z):=by subst hK;exact WZ
theorem BE{X:Cx}{Z:FZ}(hK:X.K=Z:=by rfl):CallR X (.type "list") (λxs H Q=>∃p ys,xs=[.ref p]/\(SqL Z H p ys\/SqT Z H p ys)/\∀l,H l=none->Q (.ref l) (upd H l (.lst ys))):=by subst hK;exact IG
theorem DC{X:Cx}{Z:FZ}(hK:X.K=Z:=by rfl):CallR X (.type "tuple") (λxs H Q=>∃p ys,xs=[.ref p]/\((SqL Z H p ys/\∀l,H l=none->Q (.ref l) (upd H l (.tup ys)))\/SqT Z H p ys/\Q (.ref p) H)):=by subst hK;exact FH
theorem eYZ{X:Cx}{Z:FZ}(hc:X.calm=true)(hK:X.K=Z:=by rfl):CallR X (.builtin "max") (λxs H Q=>(∃i j,xs=[.int i,.int j]/\Q (.int (if j>i then j else i)) H)\/
  (∃(p:Addr) (ns:List Int),xs=[.ref p]/\SqL Z H p (ns.map V.int)/\0<ns.length/\∀M:Int,M∈ns->(∀a∈ns,a<=M)->Q (.int M) H)):=by subst hK;exact VF hc
theorem Y6{X:Cx}{Z:FZ}(hK:X.K=Z:=by rfl):CallR X (.builtin "isinstance") (rIsi Z):=by subst hK;exact XT
theorem LL{Z:FZ}{apos cpos:Pos}{id:String}(pa:PlainAttrs T)(slot:Slot T name id)(hty:typeOf (.builtin id)=pure (.type "method_descriptor"))(hm:MtR X id r)(ho:PE X o to)(hK:X.K=Z:=by rfl)
  (hbase:attributeBase o name X.env (eval o X.env)=eval o X.env:=by rfl)(hline:(apos.endLine==cpos.line)=true:=by rfl):PE X (.Call (.Attribute o name apos) [] [] cpos) (e8Z Z T r to):=by
 subst hK;exact cJZ pa slot hty hm ho hbase hline
theorem XE{Z:FZ}{e:Expr}{es:List Expr}{apos:Pos}{id:String}(pa:PlainAttrs T)(slot:Slot T name id)(hty:typeOf (.builtin id)=pure (.type "method_descriptor"))(hm:MtR X id r)(ho:PE X o to)(ha:PA X (e::es) t)(hK:X.K=Z:=by rfl)
  (hbase:attributeBase o name X.env (eval o X.env)=eval o X.env:=by rfl)
  (hfew:((backTo cpos (starEach (e::es) X.env)).all (λx=> !x.1)&&(backToKw cpos (keywordEach [] X.env)).all (λx=>x.1.isSome)
   &&decide ((e::es).length+([]:List Keyword).length+(if([]:List Keyword).isEmpty then 0 else 1)<30))=true:=by rfl)
  (hline:(apos.endLine==cpos.line)=true:=by rfl)(hs:starEach (e::es) X.env=(false,eval e X.env)::starEach es X.env:=by rfl)(hplain:(backTo cpos (starEach es X.env)).any (·.1)=false:=by rfl):
  PE X (.Call (.Attribute o name apos) (e::es) [] cpos) (tBM Z T r to t):=by
 subst hK;exact eCZ pa slot hty hm ho ha hbase hfew hline hs hplain
theorem G8{Z:FZ}(hl:PE X l tl)(hK:X.K=Z:=by rfl):PI X tg l (bIZ Z tl):=by subst hK;exact aFZ hl
theorem EN{Z:FZ}(hl:PE X l tl)(hK:X.K=Z:=by rfl):PI X tg l (eRZ Z tl):=by subst hK;exact dvZ hl
def fwZ(Z:FZ)(ta:TE):TT:=fun σ H Q=>ta σ H λx H'=>∃k,c1Z Z x H' k/\Q k H'
theorem E5{Z:FZ}(ha:PE X e te)(he:∀whole,isTrue e X.env whole=(do let v<-whole;standAt e.pos;holding [v] (truthy v)))(hK:X.K=Z:=by rfl):PT X e (fwZ Z te):=by subst hK;exact XM ha he
end
theorem O4{σ:St}{H:Hp}{A B:Hp->Prop}(h:A H):QQ σ H (λb H2=>if b=true then A H2 else B H2):=by
 show if true=true then A H else B H
 rw[if_pos rfl];exact h
theorem JP(xs:List V)(k:Nat):N1 xs (some (k:Int)) none=xs.drop k:=by
 unfold N1;rw[HT.sIx_nat,HT.sIx_none];by_cases h:k<=xs.length
 ·rw[min_eq_left h,take_of_length_le (by simp)]
 ·rw[min_eq_right (by omega),drop_eq_nil_of_le (le_refl _),drop_eq_nil_of_le (by omega)];simp
theorem ZL(xs:List V)(k:Nat):N1 xs none (some (k:Int))=xs.take k:=by
 unfold N1;rw[HT.sIx_nat,HT.sIx_none];simp only[List.drop_zero,sub_zero];by_cases h:k<=xs.length
 ·rw[min_eq_left h]
 ·rw[min_eq_right (by omega),take_of_length_le (le_refl _),take_of_length_le (by omega)]
theorem YF(xs:List V)(a b:Nat):N1 xs (some (a:Int)) (some (b:Int))=(xs.drop a).take (b - a):=by
 unfold N1;rw[HT.sIx_nat,HT.sIx_nat];by_cases ha:a<=xs.length
 ·rw[min_eq_left ha];by_cases hb:b<=xs.length
  ·rw[min_eq_left hb]
  ·rw[min_eq_right (by omega),take_of_length_le (by simp),take_of_length_le (by simp;omega)]
 ·rw[min_eq_right (Nat.le_of_not_le ha),drop_eq_nil_of_le (le_refl _),drop_eq_nil_of_le (Nat.le_of_not_le ha)];simp
section
end
section
end
section
end
section
end
section
end
section
end
end _L
namespace PySem
end PySem
namespace _L
open PySem PySem.Spec PyProof.Rows
section
theorem HS(ns:List Nat):∀j,j<=ns.length->preSum (λi=>((ns.getD i 0:Nat):Int)) j=(((ns.take j).sum:Nat):Int)
 |0,_=>by simp[preSum]
 |j+1,h=>by
  have ih:=HS ns j (by omega);have hj:j<ns.length:=by omega
  show preSum (λi=>((ns.getD i 0:Nat):Int)) j+((ns.getD j 0:Nat):Int)=_;rw[ih,take_succ_eq_append_getElem hj,sum_append];simp[List.getD_eq_getElem?_getD,List.getElem?_eq_getElem hj]
theorem QM(ns:List Nat)(j:Nat):(ns.take j).sum<=ns.sum:=by
 have h:=congrArg List.sum (take_append_drop j ns);rw[sum_append]at h;omega
theorem baZ{ns:List Nat}(r:Vals (ns.map λn=>V.int (n:Nat)) its){i:Nat}{v:Value}(e:its[i]? =some v):∃t,v=.int ((ns.getD i 0:Nat):Int) t:=by
 have hl:=r.length;obtain⟨hi,_⟩:=List.getElem?_eq_some_iff.mp e;have hb:i<ns.length:=by rw[length_map]at hl;omega
 have hx:(ns.map λn=>V.int (n:Nat))[i]? =some (V.int ((ns.getD i 0:Nat):Int)):=by simp[hb]
 obtain⟨u,e2,ru⟩:=r.get hx;rw[e]at e2;cases e2;exact ru
theorem eJZ{X:Cx}{Z:FZ}(hc:X.calm=true)(hK:X.K=Z:=by rfl):CallR X (.builtin "sum") (λxs H Q=>∃(p:Addr) (ns:List Nat),xs=[.ref p]/\SqL Z H p (ns.map λn=>V.int (n:Nat))/\ns.sum<=1000000/\Q (.int (ns.sum:Nat)) H):=by
 subst hK;intro f s σ H vs us Q I r h;obtain⟨p,ns,rfl,hS,g,q⟩:=h;obtain⟨u,rfl,ru⟩:=V5 r;cases ru;obtain⟨c,rv,pl,hz⟩:=I.list hS;have hl:c.length=ns.length:=by have:=rv.length;rw[length_map]at this;omega
 refine call_sum_walk (wpAny_pyIter_list pl.isList ?_);obtain⟨ol,el,cl,dl⟩:=id pl.isList;have a:=lt_size el;have d:p≠s.heap.objs.size:=ne_of_lt a;have W:=Walks.list (prog:=X.prog) (w:=X.w) (A:=X.A.in1) (show X.A.in1.handled=none from I.ok.hd hc) s.heap.objs.size p d c.toArray;refine⟨s.heap.objs.size,[s.heap.objs.size,p],[s.heap.objs.size],c.toArray.size,_,_,λi=>((ns.getD i 0:Nat):Int),rfl,W,⟨⟨_,get?_push_size _ rfl,rfl,rfl⟩,⟨ol,gZ _ el,cl,dl⟩⟩, ?_, ?_, ?_, ?_⟩
 ·intro b hb;simp only[mem_cons,not_mem_nil,or_false]at hb;rw[size_push];rcases hb with rfl|rfl
  ·exact lt_succ_self _
  ·exact Nat.lt_succ_of_lt a
 ·intro i v hP;exact baZ rv (by simpa using hP)
 ·intro j hj;have hj:j<ns.length:=by rw[size_toArray,hl]at hj;exact hj
  have h1:=QM ns (j+1);have h2:=QM ns j;have e:(ns.take (j+1)).sum=(ns.take j).sum+ns[j]:=by rw[take_succ_eq_append_getElem hj,sum_append];simp
  have hg:ns.getD j 0=ns[j]:=by simp[List.getD_eq_getElem?_getD,List.getElem?_eq_getElem hj]
  rw[HS ns (j+1) (by omega)];show InLong ((ns.getD j 0:Nat):Int)/\_;rw[hg];unfold InLong;omega
 ·intro h' tk t' hk;have e:preSum (λi=>((ns.getD i 0:Nat):Int)) c.toArray.size=((ns.sum:Nat):Int):=by
   rw[size_toArray,hl,HS ns ns.length (le_refl _),take_length]
  rw[e];refine⟨.int (ns.sum:Nat),H,I.kept (t':=tk) λb o e=>hk b o (λz=> ?_) (gZ _ e),⟨_,rfl⟩,q⟩;have z':b=s.heap.objs.size:=by simpa using z
  subst z';exact absurd (lt_size e) (lt_irrefl _)
end
theorem Inv.turnedL{H:Hp}{h':Heap}{t':Nat}{ch:List Addr}(I:Inv X N σ H s)(k:∀b o,b∉ch->s.heap.get? b=some o->h'.get? b=some o)(hf:∀b∈ch,FG X N H b):
  Inv X N σ H {s with heap:=h',toks:=t'}:=by
 have a:∀b u,H b=some u->b∉ch:=λb u e z=>by rw[(hf b z).1]at e;cases e
 refine I.step (g':=s.gens) (d':=s.drawn) (ch:=ch) (λb hb=> ?_) (λb o _ _ hc e _=>k b o hc e) (λb o _ _ hc e _=>⟨o.slots,k b o hc e⟩) (λ_ _ _ _ n=>n)
  (λb o hc e=>⟨o,k b o hc e⟩) (λ_ _ e=>e) (λ_ _ _ e=>e) (λb ps e=>⟨#[],by rw[e];simp⟩) (λm hm=> ?_) (λb u e=> ?_) I.bare
 ·obtain⟨_,f1,_,f3,f4,f5⟩:=hf b hb;exact⟨f3,f1,f4,f5⟩
 ·obtain⟨o,es,ep,ho,r⟩:=hm;exact⟨o,es,ep,k _ o (λz=>(hf _ z).2.1 rfl) ho,r⟩
 ·refine(I.hok b u e).stay (λc v hc q=>k c v ?_ q) (λ_ q=>q) λ_ _ q=>q;rcases hc with z|z
  ·rw[z];exact a b u e
  ·exact a c _ z
section
end
theorem BY:bootBuiltins "reversed"=some (.type "reversed"):=by decide +kernel
def Itv(Z:FZ)(a:Addr)(n:Nat):It:=
 ⟨λi H=>∃xs x,SqL Z H a xs/\xs.reverse[i]? =some x/\xs.length=n,λi H x H'=>H'=H/\∀xs,SqL Z H a xs->xs.reverse[i]? =some x,λi _=>i=n⟩
theorem WH(a it:Addr)(n:Nat):Turn P w Z tg (Itv Z a n) [it] it (λi h=>h.IsRevIter it a ((n:Int) - 1 - (i:Int))) where
 mem:=by simp
 obj:=λi h st b hb=>by
  have e:b=it:=by simpa using hb
  subst e;obtain⟨o,e,c,d⟩:=st;exact⟨o,e,λv z=>by rw[d]at z;cases z⟩
 keep:=λi h h' st k=>st.at λo e=>k it (by simp) o e
 item:=by
  intro X hP hw hK hc i f s σ H E I hf st hg;subst hP hw hK;obtain⟨xs,x,hq,hx,hn⟩:=hg;obtain⟨m,rv,p,hz⟩:=I.list hq;have l:i<xs.length:=by
   have:=(List.getElem?_eq_some_iff.mp hx).1
   simpa using this
  rw[getElem?_reverse l]at hx;obtain⟨u,hu,ru⟩:=rv.get hx;obtain⟨f0,f1,f2,f3,f4,f5⟩:=hf it (by simp);have e1:(n:Int) - 1 - (i:Int)=((xs.length - 1 - i:Nat):Int):=by omega
  have j:=st;rw[e1]at j;refine wpAny_pyNext_rev_item j p.isList (x:=u) (by simpa using hu) λh' g sb=> ?_;have I1:Inv X f σ H {s with heap:=h'}:=I.turned (t':=s.toks) (λb o hb e=>(sb.2 b hb).trans e) f0 f1 f3 f4 f5;have e2:((xs.length - 1 - i:Nat):Int) - 1=(n:Int) - 1 - ((i+1:Nat):Int):=by omega
  rw[e2]at g;obtain⟨o,e,c,d⟩:=id g;exact⟨u,rfl,RH (s:={s with heap:=h'}) e c d (by decide) ⟨x,H,I1,ru,⟨rfl,λys hy=>by rw[I.list_inj hy hq,getElem?_reverse l];exact hx⟩,g,λb hb=>(hf b hb).1⟩⟩
 done:=by
  intro X hP hw hK hc i f s σ H E I hf st hg;subst hP hw hK;obtain⟨f0,f1,f2,f3,f4,f5⟩:=hf it (by simp);have hi:i=n:=hg;have e1:(n:Int) - 1 - (i:Int)= -1:=by omega
  rw[e1]at st;exact wpAny_pyNext_rev_end (I.ok.hd hc) st λh' eb=>⟨rfl,I.turned (t':=s.toks) (λb o hb e=>eb b o hb e) f0 f1 f3 f4 f5⟩
 self:=λ_ _ _ _ _ st h=>wpAny_pyIter_revIter st h
section
def fKZ(Z:FZ)(ta:TA):TI:=fun σ H R=>ta σ H λvs H1=>∃a xs,vs=[.ref a]/\SqL Z H1 a xs/\R (Itv Z a xs.length) H1
theorem c4Z{Z:FZ}{a:Expr}(hg:Gl X "reversed")(hm:X.mg "reversed"=none)(ha:PA X [a] ta)(hK:X.K=Z:=by rfl)(hs:starEach [a] X.env=[(false,eval a X.env)]:=by rfl):PI X tg (.Call (.Name "reversed" p) [a] [] pos) (fKZ Z ta):=by
 subst hK;intro c s σ H R I h;refine Call_ (U9 I hg hm BY (callWith_type1 (thn (ha pos c s σ H _ I h) λus s1 ⟨vs,H1,I1,r1,q1⟩=> ?_) hs rfl));obtain⟨l,xs,e,hq,q⟩:=q1;subst e;cases r1 with
 |cons r rr=>
  cases rr;cases r;obtain⟨d,rv,pl,hz⟩:=I1.list hq;have hl:d.toArray.size=xs.length:=by rw[size_toArray];exact rv.length.symm
  refine call_reversed_list pl.isList ?_;have st:(s1.heap.push (revObj l ((d.toArray.size:Int) - 1))).IsRevIter s1.heap.objs.size l ((xs.length:Int) - 1 - ((0:Nat):Int)):=⟨_,get?_push_size _ rfl,rfl,by rw[hl];simp[revObj]⟩;refine wpAny_pyIter_revIter st ?_;refine⟨s1.heap.objs.size,[s1.heap.objs.size],_,_,H1,rfl,I1.kept (t':=s1.toks) λb o e=>gZ _ e,WH l _ xs.length,st,λb hb=> ?_,q⟩;have e:b=s1.heap.objs.size:=by simpa using hb
  subst e;exact I1.fpOk (le_refl _) (I1.hok.fresh (le_refl _))
end
theorem beZ{xs:List V}{g:TG}{tb:TS}{D:Ends}{σ:St}{H:Hp}(Pv:Nat->St->Hp->Prop)(h0:Pv 0 σ H)(hl:∀i σ H,i<=xs.length->Pv i σ H->SqL Z H a xs)
  (hs:∀i x σ H,xs.reverse[i]? =some x->Pv i σ H->g x σ H fun σ2 H2=>tb {D with nx:=Pv (i+1),ct:=Pv (i+1),bk:=D.nx} σ2 H2)(hd:∀σ H,Pv xs.length σ H->D.nx σ H):
  ∃W:Nat->Nat->St->Hp->Prop,(∃m,W 0 m σ H)/\∀i m σ H,W i m σ H->
   ((Itv Z a xs.length).stop i H/\D.nx σ H)\/((Itv Z a xs.length).go i H/\∃N:St->Hp->Prop,(∀σ' H',N σ' H'->∃m',m'<m/\W (i+1) m' σ' H')/\∀x H',(Itv Z a xs.length).yld i H x H'->g x σ H' fun σ2 H2=>tb {D with nx:=N,ct:=N,bk:=D.nx} σ2 H2):=by
 refine⟨λi m σ H=>m=xs.length - i/\i<=xs.length/\Pv i σ H,⟨xs.length,by simp,zero_le _,h0⟩, ?_⟩;rintro i m σ H ⟨rfl,hi,p⟩;have q:=hl i σ H hi p;by_cases c:i<xs.length
 ·have b:i<xs.reverse.length:=by rw[length_reverse];exact c
  refine .inr ⟨⟨xs,xs.reverse[i],q,List.getElem?_eq_getElem b,rfl⟩,Pv (i+1),fun σ' H' p'=>⟨xs.length - (i+1),by omega,rfl,c,p'⟩,λx H' y=> ?_⟩;obtain⟨e,y⟩:=y;subst e;exact hs i x σ _ (y xs q) p
 ·have e:i=xs.length:=by omega
  subst e;exact .inl ⟨rfl,hd σ H p⟩
end _L
namespace PySem
namespace F
theorem nolen_lri:typeLookup (.type "list_reverseiterator") "__len__"=pure none:=by rw[typeLookup_type,builtinLookup_eq_fast];kernel_rfl
theorem hint_lri:typeLookup (.type "list_reverseiterator") "__length_hint__"=pure (some (.builtin "list_reverseiterator.__length_hint__")):=by rw[typeLookup_type,builtinLookup_eq_fast];kernel_rfl
end F
section
abbrev U0(items:Array Value):Nat->Value->Prop:=λi v=>items[items.size - 1 - i]? =some v
theorem BB{A:Around}{s:Shared}{R:Result->Shared->Prop}(hh:A.handled=none){items:Array Value}(hit:s.heap.IsRevIter I l ((items.size:Int) - 1))(hl:s.heap.IsList l items)(hne:l≠I)(S:Addr)(res:Value)(c₀:Nat)
  (hS:s.heap.get? S=some {cls:=.type "list",data:=.seq #[] c₀})(hSI:S≠I)(hSl:S≠l)
  (hR:∀h' tk acc' c',(∀b o,b≠S->b≠I->s.heap.get? b=some o->h'.get? b=some o)->h'.get? S=some {cls:=.type "list",dict:=none,data:=.seq acc' c',slots:= #[]}->
   ItemsOf (U0 items) acc' items.size->R (.ok (.ret res)) {s with heap:=h',toks:=tk})(hn:items.size<=sizeLine):
  wpAny (model prog w) A.in1 (Builtin.List.listExtendWith (.ref S) (.ref I) res)
   (λfin s'=>match fin with| .done f=>R (.ok f) s'| .again c'=>c'.quiet=true/\codeAny (model prog w) A c' R s') (λe s'=>R (.error e) s') s:=by
 have j:S∉ [I,l]:=λhm=>by
  rcases cZ hm with e|hm
  ·exact hSI e
  ·exact hSl (sZ hm)
 have W:=(Walks.listRev (prog:=prog) (w:=w) (A:=A.in1) hh I l hne items).toS;have c:s.heap.IsRevIter I l ((items.size:Int) - 1 - ((0:Nat):Int)):=by
  have e:(items.size:Int) - 1 - ((0:Nat):Int)=(items.size:Int) - 1:=by omega
  rw[e];exact hit
 unfold Builtin.List.listExtendWith;refine bZ (wpAny_typeOf (T:="list_reverseiterator") hit.typeIs ?_);have h1:Builtin.List.listSameRef (.ref S) (.ref I)=false:=by simp[Builtin.List.listSameRef,hSI]
 have h2:(Value.type "list_reverseiterator"==Value.type "list")=false:=by decide
 have h3:(Value.type "list_reverseiterator"==Value.type "tuple")=false:=by decide
 simp only[h1,h2,h3,Bool.or_false,Bool.false_eq_true,if_false];refine bZ (wpAny_pyIter_revIter hit ?_);refine bZ (wpAny_holding ?_);unfold Builtin.List.listLengthHint;refine bZ (wpAny_specialOf hit.typeIs F.nolen_lri ?_);show wpAny _ A.in1 (specialOf (Value.ref I) (Str.ofString "__length_hint__")>>=_) _ _ _;refine bZ (wpAny_specialOf hit.typeIs F.hint_lri ?_);generalize g:("list_reverseiterator.__length_hint__":String)=h
 wp_delta
 rw[show splitId h=some ("list_reverseiterator","__length_hint__")from by subst g;decide +kernel];subst g;refine bZ (wpAny_isInstance (b:=true) hit.typeIs (by rw[isSubtype_type];kernel_rfl) ?_);refine pZ ?_;rw[if_neg (by decide)];refine pZ ⟨plainId_quiet F.plain_extend_loop _,codeAny_extend_loopS W hn _ j _ items.size 0 _ _ _ rfl (zero_le _) ⟨zero_le _,c,hl⟩ hS (ItemsOf.nil _) λs' acc' c' hm k d=> ?_⟩;rw[Moved.eq_with hm];refine hR s'.heap s'.toks acc' c' (λb ob hb i e=>hm.heap b ob (λa=> ?_) e) k d;rcases cZ a with e'|a
 ·exact hb e'
 ·exact i (sZ a)
theorem V3{A:Around}{s:Shared}{R:Result->Shared->Prop}(hh:A.handled=none){items:Array Value}(hit:s.heap.IsRevIter I l ((items.size:Int) - 1))(hl:s.heap.IsList l items)(hne:l≠I)(S:Addr)(hSI:S≠I)(hSl:S≠l)
  (hS:s.heap.get? S=some {cls:=.type "list",data:=.seq #[]})
  (hR:∀h' tk acc' c',(∀b o,b≠S->b≠I->s.heap.get? b=some o->h'.get? b=some o)->h'.get? S=some {cls:=.type "list",dict:=none,data:=.seq acc' c',slots:= #[]}->
   ItemsOf (U0 items) acc' items.size->R (.ok (.ret .none)) {s with heap:=h',toks:=tk})(hn:items.size<=sizeLine):
  wpAny (model prog w) A.in1 (Builtin.«list.__init__» ⟨[.ref S,.ref I],[]⟩)
   (λfin s'=>match fin with| .done f=>R (.ok f) s'| .again c'=>c'.quiet=true/\codeAny (model prog w) A c' R s') (λe s'=>R (.error e) s') s:=by
 show wpAny _ _ (do let old<-Builtin.List.listItems (.ref S);Builtin.List.listUpdate (.ref S) (λ_=> #[]);letGo old.toList.reverse;Builtin.List.listExtendWith (.ref S) (.ref I) .none) _ _ s;refine bZ ?_;unfold Builtin.List.listItems;refine bZ (wpAny_seqItems hS rfl (pZ ?_));show wpAny _ _ (updateSeq S (λ_=> #[])>>=λ_=>letGo (#[]:Array Value).toList.reverse>>=λ_=>Builtin.List.listExtendWith (.ref S) (.ref I) .none) _ _ s;refine bZ (wpAny_updateSeq hS rfl ?_);have g:=Heap.get?_update_self (Obj.mapSeq (λ_=>(#[]:Array Value))) hS rfl;have a:∀b o,b≠S->s.heap.get? b=some o->(s.heap.update S (Obj.mapSeq (λ_=>(#[]:Array Value)))).get? b=some o:=
  λb o hb e=>(Heap.get?_update_other _ _ (Ne.symm hb)).trans e
 refine bZ (wpAny_letGo ?_);refine BB hh (hit.at λo e=>a I o (Ne.symm hSI) e) (hl.at λo e=>a l o (Ne.symm hSl) e) hne S .none _ g hSI hSl (λh' tk acc' c' hk h c=> ?_) hn;exact hR h' tk acc' c' (λb o hb d e=>hk b o hb d (a b o hb e)) h c
theorem FK{A:Around}{E:Value->Shared->Prop}{s:Shared}{Q:Value->Shared->Prop}(hh:A.handled=none){items:Array Value}(hit:s.heap.IsRevIter I l ((items.size:Int) - 1))(hl:s.heap.IsList l items)(hne:l≠I)
  (hQ:∀h' tk acc' c',(∀b o,b≠I->s.heap.get? b=some o->h'.get? b=some o)->
   h'.get? s.heap.objs.size=some {cls:=.type "list",dict:=none,data:=.seq acc' c',slots:= #[]}->ItemsOf (U0 items) acc' items.size->Q (.ref s.heap.objs.size) {s with heap:=h',toks:=tk})(hn:items.size<=sizeLine):
  wpAny (model prog w) A (call (.type "list") [.ref I]) Q E s:=by
 have f:I<s.heap.objs.size:=let⟨o,e,_⟩:=hit;lt_size e;have d:l<s.heap.objs.size:=let⟨o,e,_⟩:=hl;lt_size e;refine callType_codes (Q₁:=λc s₁=>c=.ref s.heap.objs.size/\s₁={s with heap:=s.heap.push {cls:=.type "list",data:=.seq #[]}}) F.called_list (F.typeCall_list_1 _) F.entry_list_init
  (code_list_new _ ⟨rfl,rfl⟩) λc s₁ h₁=> ?_
 obtain⟨rfl,rfl⟩:=h₁;have hS:(s.heap.push {cls:=.type "list",data:=.seq #[]}).get? s.heap.objs.size=some {cls:=.type "list",data:=.seq #[]}:=get?_push_size _ rfl;refine⟨⟨_,hS,rfl⟩,F.args_list_init_2 _ _,V3 (A:=A.in1) hh (hit.at λo e=>gZ _ e) (hl.at λo e=>gZ _ e) hne _ (Nat.ne_of_gt f) (Nat.ne_of_gt d) hS (λh' tk acc' c' hk g a=> ?_) hn⟩;exact⟨rfl,hQ h' tk acc' c' (λb o hb e=>hk b o (ne_of_lt (lt_size e)) hb (gZ _ e)) g a⟩
theorem UB{its:List Value}(h:ItemsOf (U0 its.toArray) acc its.toArray.size):acc=its.reverse.toArray:=by
 obtain⟨h1,h2⟩:=h;refine Array.ext (by simpa using h1) λi hi a=> ?_;have e:=h2 i acc[i] (Array.getElem?_eq_getElem hi);have e':its[its.length - 1 - i]? =some acc[i]:=by simpa [U0]using e
 have b:i<its.length:=by simpa using a
 have e2:its.reverse[i]? =some acc[i]:=by rw[getElem?_reverse b];exact e'
 have e3:its.reverse.toArray[i]? =some acc[i]:=by simpa using e2
 rw[Array.getElem?_eq_getElem a]at e3;exact(sJ e3).symm
end
end PySem
namespace _L
open PySem PySem.Spec PyProof.Rows
theorem Vals.rev(h:Vals vs us):Vals vs.reverse us.reverse:=by
 induction h with
 |nil=>exact .nil
 |cons r _ ih=>rw[reverse_cons,reverse_cons];exact ih.append (.cons r .nil)
section
def WM(Z:FZ)(ta:TA):TE:=fun σ H Q=>ta σ H λvs H1=>∃a xs,vs=[.ref a]/\SqL Z H1 a xs/\∀r,H1 r=none->Q (.ref r) (upd H1 r (.lst xs.reverse))
theorem PC{Z:FZ}{a:Expr}(hg:Gl X "reversed")(hm:X.mg "reversed"=none)(hg':Gl X "list")(hm':X.mg "list"=none)(hc:X.calm=true)(ha:PA X [a] ta)(hK:X.K=Z:=by rfl)(hs:starEach [a] X.env=[(false,eval a X.env)]:=by rfl)
  (hs':starEach [.Call (.Name "reversed" p) [a] [] pos] X.env=[(false,eval (.Call (.Name "reversed" p) [a] [] pos) X.env)]:=by rfl):
  PE X (.Call (.Name "list" p') [.Call (.Name "reversed" p) [a] [] pos] [] pos') (WM Z ta):=by
 subst hK;intro f s σ H Q I h;refine wpAny_Call_Name_kw (U9 I hg' hm' Q8 ?_);refine callWith_type1 ?_ hs' rfl;rw[hs'];refine Calls.spliced_cons (Call_ (U9 I hg hm BY (callWith_type1 (thn (ha pos f s σ H _ I h) λus s1 ⟨vs,H1,I1,r1,q1⟩=> ?_) hs rfl)));obtain⟨l,xs,e,hq,q⟩:=q1;subst e;cases r1 with
 |cons r rr=>
  cases rr;cases r;obtain⟨d,rv,pl,hz⟩:=I1.list hq;refine call_reversed_list pl.isList ?_;refine Calls.spliced_nil ?_;have st:(s1.heap.push (revObj l ((d.toArray.size:Int) - 1))).IsRevIter s1.heap.objs.size l ((d.toArray.size:Int) - 1):=⟨_,get?_push_size _ rfl,rfl,rfl⟩;have j:l<s1.heap.objs.size:=let⟨o,e,_⟩:=pl.isList;lt_size e;have g:=rv.length;refine FK (I1.ok.hd hc) st (pl.isList.at λo e=>gZ _ e) (ne_of_lt j) (λh' tk k c hk hS i=> ?_) (by rw[size_toArray,<-g];exact hz);rw[UB i]at hS;have ns:(s1.heap.push (revObj l ((d.toArray.size:Int) - 1))).objs.size=s1.heap.objs.size+1:=size_push ..;rw[ns]at hS⊢;have kp:∀b o,s1.heap.get? b=some o->h'.get? b=some o:=λb o e=>hk b o (ne_of_lt (lt_size e)) (gZ _ e);exact⟨.ref (s1.heap.objs.size+1),_,I1.laid (t':=tk) kp (le_succ _) (show ObjOk X.prog X.w _ h' _ (.lst xs.reverse)from⟨by rw[length_reverse];exact hz,d.reverse,c,rv.rev,hS⟩),rfl,q _ (I1.hok.fresh (le_succ _))⟩
end
theorem HU{R:Result->Shared->Prop}{s:Shared}{iter:Expr}{acc:Value}(I:Nat->Shared->Prop)
  (turn:∀n s,I n s->wpAny (model prog w) A (pyNext it) (λr s₁=>match r with
   |none=>R (.ok .next) s₁
   |some v=>wpAny (model prog w) A (letOwnedTupleGo target it v) (λ_ s₀=>wpAny (model prog w) A (assign target env v) (λ_ s₂=>
     wpAny (model prog w) A (forIn ifs true λc r=>if r=true then do let ok<-isTrue c env (eval c env);pure (ForInStep.yield ok)else pure (ForInStep.yield r)) (λok s₃=>
      if ok=true then wpAny (model prog w) A (eval elt env) (λx s₄=>
       wpAny (model prog w) A (call (.builtin "list.append") [acc,x]) (λ_ s₅=>∃m,m<n/\I m s₅) (notedBy (model prog w) A env λe s'=>R (.error e) s') s₄) (notedBy (model prog w) A env λe s'=>R (.error e) s') s₃
      else∃m,m<n/\I m s₃) (notedBy (model prog w) A env λe s'=>R (.error e) s') s₂) (notedBy (model prog w) A env λe s'=>R (.error e) s') s₀) (notedBy (model prog w) A env λe s'=>R (.error e) s') s₁)
   (notedBy (model prog w) A env λe s'=>R (.error e) s') s)
  (n:Nat)(h:I n s):codeAny (model prog w) A (.compLoop (.ListComp elt [⟨target,iter,ifs,0⟩] scope pos) 0 it acc env) R s:=by
 refine codeAny_loop rfl I (λn s hI=> ?_) n h;show wpAny _ A ((compTurn (.ListComp elt [⟨target,iter,ifs,0⟩] scope pos) 0 it acc env).onRaise (λx=>do noteFrame x env;theTreesLotGoes x)) _ _ s;refine wpAny_noted ?_;rw[compTurn_list];refine bZ (wpAny_standAt (bZ (thn (turn n s hI) λr s₁ h₁=> ?_)));cases r with
 |none=>exact pZ h₁
 |some v=>
  refine bZ (thn h₁ λ_ s₀ h₀=>bZ (thn h₀ λ_ s₂ h₂=>bZ (thn h₂ λok s₃ h₃=> ?_)));cases ok with
  |false=>exact pZ ⟨rfl,h₃⟩
  |true=>exact bZ (bZ (thn h₃ λx s₄ h₄=>bZ (thn h₄ λ_ s₅ h₅=>pZ (pZ ⟨rfl,h₅⟩))))
structure CompScope2 (N:List Str) (sc scope:Scope) (x1 x2:Str) (caps:List Nat) (ns:List Str):Prop where
 cell:∀y∈scope.names,y.2≠ .cell
 kind:scope.kind=.function
 names:∀y∈scope.names,y.2=.local->scope.names.lookup y.1=some .local
 var1:scope.names.lookup x1=some .local
 var2:scope.names.lookup x2=some .local
 free:∀y∈scope.names,y.2=.free->sc.names.lookup y.1=some .cell\/sc.names.lookup y.1=some .free
 at_:caps.map (λj=>N[j]?)=ns.map some
 nsf:∀y∈ns,scope.names.lookup y=some .free
 nd:(x1::x2::ns).Nodup
def capσ2(caps:List Nat)(σ:St)(u v:Option V):St:=u::v::caps.map λj=>(σ[j]?).getD none
def PU(Z:FZ)(wi:TI)(caps:List Nat)(tt:TT)(te:TE)(σ:St)(H:Hp)(R:List V->Hp->Prop):Prop:=wi σ H λJ H1=>∃W:Nat->Nat->List V->Hp->Prop,(∃m,W 0 m [] H1)/\∀i m ys H,W i m ys H->
 ys.length<=sizeLine/\((J.stop i H/\R ys H)\/(J.go i H/\∃N:List V->Hp->Prop,(∀ys' H',N ys' H'->∃m',m'<m/\W (i+1) m' ys' H')/\∀v H',J.yld i H v H'->∃a v1 v2,v=.ref a/\SqT Z H' a [v1,v2]/\
  tt (capσ2 caps σ (some v1) (some v2)) H' λb H2=>if b=true then te (capσ2 caps σ (some v1) (some v2)) H2 λy H3=>N (ys++ [y]) H3 else N ys H2))
def ciZ(Z:FZ)(wi:TI)(caps:List Nat)(tt:TT)(te:TE):TE:=fun σ H Q=>PU Z wi caps tt te σ H λys H1=>∀D,H1 D=none->Q (.ref D) (upd H1 D (.lst ys))
section
set_option maxHeartbeats 4000000 in
theorem OF{X:Cx}{use:Option (Value->Sem Unit)}{Q:Value->Shared->Prop}
  {s:Shared}{H:Hp}{R:List V->Hp->Prop}
  (CS:CompScope2 X.N X.env.scope scope x1 x2 caps ns)(hc:X.calm=true)(hi:PI X (.Tuple [.Name x1 px1,.Name x2 px2] ktu ptu) iter wi)
  (ht:∀cl C s H fp,PTs (X.comp (x1::x2::ns) scope cl C s H fp) ifs tt)(he:∀cl C s H fp,PE (X.comp (x1::x2::ns) scope cl C s H fp) elt te)
  (hs:∀v,foldedSetIterable iter X.env v=pure v)
  (I:Inv X N σ H s)(h:PU X.K wi caps tt te σ H R)
  (hend:∀D C s' H' ys,Inv X N σ (upd H' D (.lst ys)) s'->H' D=none->R ys H'->(∃m,s'.heap.Ns C m)->(upd H' D (.lst ys)) C=none->C≠X.env.locals->X.s₀.heap.objs.size<=C->(∀y c,X.env.cells.lookup y=some c->c≠C)->(∀p∈X.pn++N,p.1≠C)->
   compPost (model X.prog X.w) X.A X.xe use Q (.ref D) C (.ok .next) s'):
  wpAny (model X.prog X.w) X.A (comprehension (.ListComp elt [⟨.Tuple [.Name x1 px1,.Name x2 px2] ktu ptu,iter,ifs,0⟩] scope pos) scope X.env pos' (newList []) false (eval iter X.env) use) Q X.xe s:=by
 have B:∀y∈scope.names,y.2=.free->∃c,X.env.cells.lookup y.1=some c:=λy hy hf=>I.ok.has y.1 (CS.free y hy hf);refine wpAny_comprehension_free (use:=use) rfl hs (S4 B) CS.kind CS.names ?_;refine thn (hi N s σ H _ I h) λv s1 h1=>thn h1 λbi s2 h2=> ?_;obtain⟨it,fp,tn,J,H2,e,I2,T,ak,f2,W,⟨m0,w0⟩,ag⟩:=h2;subst e;refine wpAny_newObj_type (wpAny_newFunctionEnv CS.cell (by intro y hy;simp at hy) (λh₁ G x=> ?_) CS.kind)
 dsimp only at G x⊢
 generalize an:s2.heap.push {cls:=.type "list",dict:=none,data:=.seq ([]:List Value).toArray}=HH at G x⊢;have hC:HH.objs.size=s2.heap.objs.size+1:=by rw[<-an,size_push]
 generalize bk:HH.objs.size=C at G x hC⊢;have ae:s2.heap.objs.size≠C:=by rw[hC];exact ne_of_lt (lt_succ_self _)
 have f:∀b,b<s2.heap.objs.size->b≠C/\b≠s2.heap.objs.size:=λb hb=>⟨by rw[hC];exact ne_of_lt (Nat.lt_succ_of_lt hb),ne_of_lt hb⟩;have M:∀b o,s2.heap.get? b=some o->h₁.get? b=some o:=λb o e=>x.extBut b o (f b (lt_size e)).1 (gZ _ (an▸gZ _ e));have am:h₁.get? s2.heap.objs.size=some (LCg.lst []):=x.extBut _ _ ae (gZ _ (an▸get?_push_size _ rfl));have af:∀b∈fp,b<s2.heap.objs.size:=λb hb=>let⟨o,e,_⟩:=T.obj _ _ ak b hb;lt_size e;have g:∀y c,(T9 X.env.cells scope.names []).lookup y=some c->X.env.cells.lookup y=some c:=λy c e=>by
  rcases EF scope.names [] (y,c) B (PySem.mem_of_lookup e)with q|q
  ·cases q
  ·exact q.1
 have E:∀a,s2.heap.objs.size<=a->H2 a=none:=λa ha=>I2.hok.fresh ha;generalize a8:T9 X.env.cells scope.names []=cl at g⊢;have O:∀y,(y,NameKind.free)∈scope.names->∃c,cl.lookup y=some c:=λy hy=>by
  obtain⟨c,q⟩:=EQ (cells:=X.env.cells) scope.names [] y (.inl hy);rw[a8]at q;obtain⟨d,q1,_⟩:=O9 q;exact⟨d,q1⟩
 have ar:∀y c,X.env.cells.lookup y=some c->c<s2.heap.objs.size:=λy c e=>let⟨v,z⟩:=I2.cell y c e;z.lt;have aq:(X.comp (x1::x2::ns) scope cl C s2 H2 fp).Ok:=by
  refine⟨I2.ok.mod,CS.kind,I2.ok.glob,I2.ok.blt,(by show s2.heap.objs.size<=C;rw[hC];exact le_succ _),λy z c a b=>I2.ok.inj y z c (g y c a) (g z c b),λy hy=>O y (U4 hy CS.cell),λy c z=>(by cases z),I2.ok.hd,I2.ok.frames,.inl rfl,
   λb hb=>⟨(f b (af b hb)).1,λy c e z=>(f2 b hb).2.2.2.2.1 y c (g y c e) z⟩,λb o e=>I2.bs b o e,le_trans I2.ok.bsz I2.sz,λb o e hb=> ?_,λb hb hf=> ?_,I2.stack,I2.stkFree⟩
  ·rcases(f2 b hb).2.2.2.1 with z|z
   ·exact I2.ok.noex b o e z
   ·exact absurd (lt_of_lt_of_le (lt_size e) (le_trans I2.ok.bsz z)) (lt_irrefl _)
  ·rcases cZ (I2.stkSub b hf)with z|z
   ·exact(f2 b hb).2.1 z
   ·exact(f2 b hb).2.2.1 z
 have S:∀(k:Nat) (y:Str) (v:V),(x1::x2::ns)[k]? =some y->(capσ2 caps σ none none)[k]? =some (some v)->∃j,X.N[j]? =some y/\σ[j]? =some (some v)/\scope.names.lookup y=some .free:=λk y v e1 e2=>by
  match k,e1,e2 with
  |0,_,e2=>cases e2
  |1,_,e2=>cases e2
  |k+2,e1,e2=>
   have ay:ns[k]? =some y:=by simpa using e1
   have ao:(caps.map λj=>(σ[j]?).getD none)[k]? =some (some v):=by simpa [capσ2]using e2
   have e3:(ns.map some)[k]? =some (some y):=by rw[getElem?_map,ay];rfl
   rw[<-CS.at_,getElem?_map]at e3;rw[getElem?_map]at ao;cases hj:caps[k]? with
   |none=>rw[hj]at e3;cases e3
   |some j=>
    rw[hj]at e3 ao;have e4:X.N[j]? =some y:=sJ e3;have e5:(σ[j]?).getD none=some v:=sJ ao;refine⟨j,e4, ?_,CS.nsf y (mem_of_getElem? ay)⟩;cases hσ:σ[j]? with
    |none=>rw[hσ]at e5;cases e5
    |some z=>rw[hσ]at e5;have e6:z=some v:=e5;rw[e6]
 have F:∀y,scope.names.lookup y=some .free->X.env.kindOf y=some .cell\/X.env.kindOf y=some .free:=λy hy=>CS.free (y,.free) (PySem.mem_of_lookup hy) rfl;have I0:Inv (X.comp (x1::x2::ns) scope cl C s2 H2 fp) (N++ [(s2.heap.objs.size,LCg.lst [])]) (capσ2 caps σ none none) H2 {s2 with heap:=h₁,toks:=s2.toks+([]:List (Str×Value)).length}:=by
  obtain⟨m2,bj,a7⟩:=I2.loc;refine⟨aq,rfl,I2.bare,Un.kept M,⟨_,G,λk y v e1 e2 e3=> ?_⟩,λy c e=> ?_,E C (by rw[hC];exact le_succ _),λy c e=>I2.freeC y c (g y c e),λp hp=> ?_,I2.hok.kept M, ?_⟩
  ·obtain⟨j,q1,q2,q3⟩:=S k y v e1 e2;have vf:=F y q3;obtain⟨u,ru,lk⟩:=a7 j y v q1 q2 (vf.elim (λz=> .inr (.inl z)) λz=> .inr (.inr z));refine⟨u,ru,.inr ⟨J3 q3, ?_⟩⟩;obtain⟨c,ad⟩:=O y (PySem.mem_of_lookup q3);refine⟨c,ad, ?_⟩;rcases lk with⟨k1,_⟩|⟨_,c',e',z⟩
   ·rcases vf with vf|vf<;>(rw[k1]at vf;cases vf)
   ·have q:=g y c ad;rw[e']at q;cases q;exact z.keeps M
  ·obtain⟨v,z⟩:=I2.cell y c (g y c e);exact⟨v,z.keeps M⟩
  ·rcases mem_append.mp hp with hp|hp
   ·obtain⟨a1,a2,a3,a4,a5⟩:=I2.pin p (mem_append_left _ hp);refine⟨M _ _ a1,a2,(f _ (lt_size a1)).1,λz=> ?_,a5⟩;rcases cZ (I2.stkSub _ z)with z|z
    ·exact a3 z
    ·exact a4 z
   ·rcases mem_append.mp hp with hp|hp
    ·obtain⟨a1,a2,a3,a4,a5⟩:=I2.pin p (mem_append_right _ hp);refine⟨M _ _ a1,a2,(f _ (lt_size a1)).1,λz=> ?_,a5⟩;rcases cZ (I2.stkSub _ z)with z|z
     ·exact a3 z
     ·exact a4 z
    ·have e:p=(s2.heap.objs.size,LCg.lst []):=by simpa using hp
     subst e;refine⟨am,E _ (le_refl _),ae,λz=> ?_,λv z=>by cases z⟩;rcases cZ (I2.stkSub _ z)with z|z
     ·exact absurd I2.lt (by rw[<-z];exact lt_irrefl _)
     ·exact I2.nofs (le_refl _) z
  ·show(capσ2 caps σ none none).length=(x1::x2::ns).length;have:=congrArg List.length CS.at_;simp only[length_map]at this;simp[capσ2,this]
 have ab:∀s₃:Shared,s₃={s2 with heap:=h₁,toks:=s2.toks+([]:List (Str×Value)).length}->
   codeAny (model X.prog X.w) X.A (.compLoop (.ListComp elt [⟨.Tuple [.Name x1 px1,.Name x2 px2] ktu ptu,iter,ifs,0⟩] scope pos) 0 (.ref it) (.ref s2.heap.objs.size) (compEnvC scope cl C X.env))
    (compPost (model X.prog X.w) X.A X.xe use Q (.ref s2.heap.objs.size) C) s₃:=by
  rintro s₃ rfl;refine HU (λn s'=>∃i ys us H',Inv (X.comp (x1::x2::ns) scope cl C s2 H2 fp) (N++ [(s2.heap.objs.size,LCg.lst us)]) (capσ2 caps σ none none) H' s'/\Vals ys us/\tn i s'.heap/\(∀b∈fp,H' b=none)/\W i n ys H') ?_ m0
   ⟨0,[],[],H2,I0,.nil,T.keep _ _ _ ak (λb _ o e=>M b o e),λb hb=>(f2 b hb).1,w0⟩
  rintro n s3 ⟨i,ys,us,H3,I3,rv,ap,ax,w3⟩;obtain⟨av,ac⟩:=ag i n ys H3 w3;have L:∀p∈X.pn++N,p.1<s2.heap.objs.size:=λp hp=>lt_size (I2.pin p hp).1;have P:∀ {H':Hp},(∀b∈fp,H' b=none)->∀b∈fp,FG (X.comp (x1::x2::ns) scope cl C s2 H2 fp) (N++ [(s2.heap.objs.size,LCg.lst us)]) H' b:=λhn b hb=>
   ⟨hn b hb,(f b (af b hb)).1,aq.exfs b hb,.inl hb,λy c e z=>(f2 b hb).2.2.2.2.1 y c (g y c e) z,λp hp=>by
    rcases mem_append.mp hp with hp|hp
    ·exact(f2 b hb).2.2.2.2.2 p (mem_append_left _ hp)
    ·rcases mem_append.mp hp with hp|hp
     ·exact(f2 b hb).2.2.2.2.2 p (mem_append_right _ hp)
     ·have e:p=(s2.heap.objs.size,LCg.lst us):=by simpa using hp
      subst e;exact Ne.symm (f b (af b hb)).2⟩
  have al:∀(l:List (Addr×Obj)),(s2.heap.objs.size,LCg.lst us)∈(X.comp (x1::x2::ns) scope cl C s2 H2 fp).pn++((N++ [(s2.heap.objs.size,LCg.lst us)])++l):=λl=>
   mem_append_right _ (mem_append_left _ (mem_append_right _ mem_cons_self))
  rcases ac with⟨ah,r⟩|⟨go,Nx,aw,ai⟩
  ·refine thn (T.done (X.comp (x1::x2::ns) scope cl C s2 H2 fp) rfl rfl rfl hc i _ s3 _ H3 _ I3 (P ax) ap ah) λr' s4 ⟨hr,I4⟩=> ?_;subst hr;have pD:=I4.pin (s2.heap.objs.size,LCg.lst us) (mem_append_right _ (mem_append_right _ mem_cons_self));have U:H3 s2.heap.objs.size=none:=pD.2.1;have ba:H3 C=none:=I4.free;have b4:Un (frs X.stack) fp H2 H3 s2.heap s4.heap:=I4.qB;have u4:Un (frs X.stack) fp H2 (upd H3 s2.heap.objs.size (.lst ys)) s2.heap s4.heap:=
    ⟨b4.keep,b4.slot,λb o e n hx=>by rw[B5 (f b (lt_size e)).2];exact b4.free b o e n hx,b4.there,
     λb xs q=>by rw[B5 (B9 (b4.tups b xs q) U)];exact b4.tups b xs q,λb o u q=>by rw[B5 (B9 (b4.frzs b o u q) U)];exact b4.frzs b o u q,
     λb ps q=>by
      obtain⟨m1,e1⟩:=b4.tbls b ps q;exact⟨m1,by rw[B5 (B9 e1 U)];exact e1⟩⟩
   have k4:HOk X.prog X.w (upd H3 s2.heap.objs.size (.lst ys)) s4.heap:=λb u e=>by
    by_cases hb:b=s2.heap.objs.size
    ·subst hb;rw[A4]at e;cases e;exact⟨av,us,_,rv,pD.1⟩
    ·rw[B5 hb]at e;exact(I4.hok b u e).stay (λc v _ q=>q) (λc q=>by rw[B5 (B9 q U)];exact q) λc xs q=>by rw[B5 (B9 q U)];exact q
   have J4:Inv X N σ (upd H3 s2.heap.objs.size (.lst ys)) s4:=I2.call' (ch:=fp) I4.os u4 k4 I4.bare λb hb=>⟨(f2 b hb).2.2.2.1,(f2 b hb).2.1,(f2 b hb).2.2.2.2.1,(f2 b hb).2.2.2.2.2⟩;obtain⟨mC,a6,_⟩:=I4.loc;exact hend _ C s4 H3 ys J4 U r ⟨mC,a6⟩ (by rw[B5 (Ne.symm ae)];exact ba) (Ne.symm (f _ I2.lt).1) (by rw[hC];exact Nat.le_succ_of_le I2.sz) (λy c e=>(f c (ar y c e)).1) λp hp=>(f _ (L p hp)).1
  ·refine thn (T.item (X.comp (x1::x2::ns) scope cl C s2 H2 fp) rfl rfl rfl hc i _ s3 _ H3 _ I3 (P ax) ap go) λr' s4 ⟨u,hr,h4⟩=> ?_;subst hr;refine thn h4 λ_ s5 ⟨v,H5,I5,r5,y5,aj,bb⟩=> ?_;have bh:=I5.pinned (P bb) (T.obj _ _ aj);obtain⟨aT,v1,v2,ev,hT,aa⟩:=ai v H5 y5;have bd:PG (X.comp (x1::x2::ns) scope cl C s2 H2 fp) (.Tuple [.Name x1 px1,.Name x2 px2] ktu ptu) (e0Z X.K 2 (XL (S0 0) (XL (S0 1) eVZ))):=
    PD (X:=X.comp (x1::x2::ns) scope cl C s2 H2 fp) hc (Q0 (IA (i:=0) CS.nd rfl (.inl (lookup_relabel_local CS.var1)) (.inr (lookup_relabel_local CS.var1)))
     (Q0 (IA (i:=1) CS.nd rfl (.inl (lookup_relabel_local CS.var2)) (.inr (lookup_relabel_local CS.var2))) HM))
   refine wpAny_mono (bd _ s5 _ H5 v u (fun σ' H'=>σ'=capσ2 caps σ (some v1) (some v2)/\H'=H5) bh r5 ⟨aT,[v1,v2],ev,hT,rfl,v1,[v2],rfl,v2,[],rfl,rfl,rfl,rfl⟩) (λ_ s6 a0=> ?_) (λ_ _ e=>e.elim);obtain⟨σ6,H6,bg,e6,bc⟩:=a0;subst bc;subst e6;refine wpAny_mono (ht cl C s2 H2 fp _ s6 _ _ _ bg aa) (λb s7 ⟨H7,I7,q7⟩=> ?_) (λ_ _ e=>e.elim);have Y:∀ {H':Hp} {s':Shared} {pl:List (Addr×Obj)},Inv (X.comp (x1::x2::ns) scope cl C s2 H2 fp) pl (capσ2 caps σ (some v1) (some v2)) H' s'->Inv (X.comp (x1::x2::ns) scope cl C s2 H2 fp) pl (capσ2 caps σ none none) H' s':=λ{H' s' pl} J'=>
    J'.weak rfl λk z e=>by
     match k,e with
     |0,e=>cases e
     |1,e=>cases e
     |k+2,e=>exact e
   have t:∀ {H':Hp} {s':Shared},Inv (X.comp (x1::x2::ns) scope cl C s2 H2 fp) ((N++ [(s2.heap.objs.size,LCg.lst us)])++W7 fp s5.heap) (capσ2 caps σ (some v1) (some v2)) H' s'->tn (i+1) s'.heap/\∀b∈fp,H' b=none:=λ{H' s'} J'=>by
    refine⟨T.keep _ _ _ aj λb hb o e=>(J'.pin (b,o) (mem_append_right _ (mem_append_right _ (M0 hb e)))).1,λb hb=> ?_⟩;obtain⟨o,e,d⟩:=T.obj _ _ aj b hb;exact(J'.pin (b,o) (mem_append_right _ (mem_append_right _ (M0 hb e)))).2.1
   cases b with
   |false=>
    rw[if_neg nZ]at q7⊢;obtain⟨m',hm,w7⟩:=aw _ _ q7;exact⟨m',hm,i+1,ys,us,H7,Y I7.unpinned,rv,(t I7).1,(t I7).2,w7⟩
   |true=>
    rw[if_pos rfl]at q7⊢;refine wpAny_mono (he cl C s2 H2 fp _ s7 _ H7 _ I7 q7) (λyv s8 ⟨y,H8,I8,ry,n8⟩=> ?_) (λ_ _ e=>e.elim);obtain⟨m',hm,w8⟩:=aw _ _ n8;have pD:=I8.pin (s2.heap.objs.size,LCg.lst us) (al _);have az:us.length=ys.length:=rv.length.symm;refine append_at (hsz:=by show us.toArray.size<=sizeLine;rw[size_toArray,az];exact av) pD.1 λh9 au a9=> ?_;have bf:Inv (X.comp (x1::x2::ns) scope cl C s2 H2 fp) N (capσ2 caps σ none none) H8 s8:=Y I8.unpinned.unpinned;have I9:Inv (X.comp (x1::x2::ns) scope cl C s2 H2 fp) N (capσ2 caps σ none none) H8 {s8 with heap:=h9}:=bf.turned (t':=s8.toks) (it:=s2.heap.objs.size) (λb o hb e=>(au.2 b hb).trans e) pD.2.1 ae (.inr (le_refl _)) (λy c e z=>ne_of_lt (ar y c (g y c e)) z) λp hp=>ne_of_lt (L p hp);have be:Inv (X.comp (x1::x2::ns) scope cl C s2 H2 fp) (N++ [(s2.heap.objs.size,LCg.lst (us++ [yv]))]) (capσ2 caps σ none none) H8 {s8 with heap:=h9}:=I9.pins_of λp hp=>by
     rcases mem_append.mp hp with hp|hp
     ·exact I9.pin p (mem_append_right _ hp)
     ·have e:p=(s2.heap.objs.size,LCg.lst (us++ [yv])):=by simpa using hp
      subst e;exact⟨a9.trans (congrArg some (LCg.lst_snoc us yv)),pD.2.1,ae,pD.2.2.2.1,λv z=>by cases z⟩
    refine⟨m',hm,i+1,ys++ [y],us++ [yv],H8,be,rv.append (.cons ry .nil), ?_,(t I8).2,w8⟩;exact T.keep _ _ _ (t I8).1 λb hb o e=>(au.2 b (f b (af b hb)).2).trans e
 exact codeAny_compStart_list (ab _ rfl) (T.self X.A 0 _ _ _ (T.keep _ _ _ ak (λb _ o e=>M b o e)) (ab _ rfl))
theorem VZ{X:Cx}{Z:FZ}
  (CS:CompScope2 N sc scope x1 x2 caps ns)(hN':X.N=N)(hsc:X.env.scope=sc)(hc:X.calm=true)(hi:PI X (.Tuple [.Name x1 px1,.Name x2 px2] ktu ptu) iter wi)
  (ht:∀cl C s H fp,PTs (X.comp (x1::x2::ns) scope cl C s H fp) ifs tt)(he:∀cl C s H fp,PE (X.comp (x1::x2::ns) scope cl C s H fp) elt te)
  (hs:∀v,foldedSetIterable iter X.env v=pure v:=by intro _;rfl)(hK:X.K=Z:=by rfl):
  PE X (.ListComp elt [⟨.Tuple [.Name x1 px1,.Name x2 px2] ktu ptu,iter,ifs,0⟩] scope pos) (ciZ Z wi caps tt te):=by
 intro a s σ H Q I h;subst hN';subst hsc;subst hK;rw[eval_ListComp];refine OF CS hc hi ht he hs I h ?_;rintro D C s' H' ys I' hD r ⟨m,hn⟩ c1 c2 c3 c4 c5;exact⟨m,hn,λh' c=>⟨.ref D,_,I'.turned (t':=s'.toks) (λb o hb e=>(c.2 b hb).trans e) c1 c2 (.inr c3) c4 c5,rfl,r D hD⟩⟩
theorem ZE{X:Cx}(hu:X.A.units<cLine):OpR X (compareOp .NotEq) (λx y H Q=>∃a b xs ys,x=.ref a/\y=.ref b/\SqL X.K H a xs/\SqL X.K H b ys/\xs.length≠ys.length/\Q (.bl true) H):=by
 intro e s σ H x y v u Q I rx ry h;obtain⟨a,b,xs,ys,rfl,rfl,ha,hb,hp,q⟩:=h;cases rx;cases ry;obtain⟨f,r,pl,_⟩:=I.list ha;obtain⟨c,r2,d,_⟩:=I.list hb;have hl:f.length≠c.length:=by rw[<-r.length,<-r2.length];exact hp
 exact SeqAt.RcNeAt.lists_lengths pl.isList d.isList (by simpa using hl) hu X.prog X.w X.xe _ ⟨.bl true,H,I,rfl,q⟩
theorem fxZ{X:Cx}{Z:FZ}(hu:X.A.units<cLine)(hK:X.K=Z:=by rfl):OpR X (compareOp .NotEq) (λx y H Q=>rEqL Z false x y H Q\/∃a b xs ys,x=.ref a/\y=.ref b/\SqL Z H a xs/\SqL Z H b ys/\xs.length≠ys.length/\Q (.bl true) H):=by
 subst hK;exact(ZX hu).or (ZE hu)
theorem QR:OpR X (binaryOp .Mult) (rI IntMulOk λi j=> .int (i*j)):=opI λ_ _ _ _ _ _ _ hc q=>mul_int q hc
theorem XF:OpR X (binaryOp .FloorDiv) (rI (λ_ j=>j≠0/\j.natAbs.log2<9000) λi j=> .int (i.fdiv j)):=opI λ_ _ _ _ _ _ _ hc q=>floordiv_int hc.1 q (.inl (PyProof.noPylong_of_log2 hc.2))
end
end _L
namespace Att
open PySem PySem.W PySem.Calls PyProof.Rows
end Att
namespace _L
open PySem PySem.Spec PyProof.Rows
section
def WI(Z:FZ):R2:=λx y H Q=>∃a b xs ys,x=.ref a/\y=.ref b/\SqL Z H a xs/\SqL Z H b ys/\xs.length≠ys.length/\Q (.bl false) H
theorem ZZ{X:Cx}(hu:X.A.units<cLine):OpR X (compareOp .Eq) (WI X.K):=by
 intro e s σ H x y v u Q I rx ry h;obtain⟨a,b,xs,ys,rfl,rfl,ha,hb,hp,q⟩:=h;cases rx;cases ry;obtain⟨f,r,pl,_⟩:=I.list ha;obtain⟨c,r2,d,_⟩:=I.list hb;have hl:f.length≠c.length:=by rw[<-r.length,<-r2.length];exact hp
 exact SeqAt.eq_list_lengthsAt pl.isList d.isList (by simpa using hl) hu ⟨.bl false,H,I,rfl,q⟩
theorem foZ{X:Cx}{Z:FZ}(hu:X.A.units<cLine)(hK:X.K=Z:=by rfl):OpR X (compareOp .Eq) (λx y H Q=>rEqL Z true x y H Q\/WI Z x y H Q):=by
 subst hK;exact(YC hu).or (ZZ hu)
def DV(Z:FZ):R2:=λx y H Q=>∃a b ys,x=.ref a/\y=.ref b/\SqT Z H a []/\SqT Z H b ys/\Q (.ref b) H
theorem LS:OpR X (binaryOp .Add) (DV X.K):=by
 intro i s σ H x y v u Q I rx ry h;obtain⟨a,b,ys,rfl,rfl,ha,hb,q⟩:=h;cases rx;cases ry;obtain⟨k,r1,p1,_⟩:=I.tuple ha;obtain⟨j,r2,p2,hz⟩:=I.tuple hb;have e0:k=[]:=r1.nil_iff.mpr rfl;subst e0;obtain⟨⟨p,dd,m,sl⟩,ho,hc,n,hd⟩:=id p1;obtain⟨⟨o,l,f,g⟩,c,e,n2,d⟩:=id p2;simp only at hc hd e d;subst hc hd e d;exact concat_meets ⟨_,ho,rfl⟩ ⟨_,c,rfl⟩ noFill_tuple_add seq_tuple_add PySem.F.slot_tuple_add PySem.F.entry_tuple_add (PySem.F.args_tuple_add_2 _ _)
  (tuple_addW0 a b _ _ n n2 dd l sl g (by simp)) ⟨ho,c,⟨.ref b,H,I,rfl,q⟩⟩
theorem XB{X:Cx}{Z:FZ}(hK:X.K=Z:=by rfl):OpR X (binaryOp .Add) (λx y H Q=>rI0 (λi j=> .int (i+j)) x y H Q\/LU Z x y H Q\/DV Z x y H Q):=by
 subst hK;exact op_add.or (op_catT.or LS)
end
end _L
namespace PySem
open AutoSeq1 (wpAny_loadPart')
section
end
end PySem
namespace PySem
section
end
end PySem
namespace _L
open PySem PySem.Spec PyProof.Rows
theorem HI:bootBuiltins "enumerate"=some (.type "enumerate"):=by decide +kernel
section
end
end _L
namespace PySem
open Sem(wp)
namespace ZT
def IsIt(t:Bool)(h:Heap)(i l:Addr)(k:Nat):Prop:=if t then h.IsTupleIter i l k else h.IsListIter i l k
def IsSq(t:Bool)(h:Heap)(l:Addr)(xs:Array Value):Prop:=if t then h.IsTuple l xs else h.IsList l xs
theorem IsIt.extBut(x:IsIt t h i l k)(hs:Heap.ExtBut b h h')(hb:i≠b):IsIt t h' i l k:=by
 cases t
 ·exact Heap.IsListIter.extBut (show h.IsListIter i l k from x) hs hb
 ·exact Heap.IsTupleIter.extBut (show h.IsTupleIter i l k from x) hs hb
theorem IsIt.at{h':Heap}(x:IsIt t h i l k)(e:∀o,h.get? i=some o->h'.get? i=some o):IsIt t h' i l k:=by
 cases t
 ·obtain⟨o,ho,r⟩:=(show h.IsListIter i l k from x);exact⟨o,e o ho,r⟩
 ·obtain⟨o,ho,r⟩:=(show h.IsTupleIter i l k from x);exact⟨o,e o ho,r⟩
theorem IsIt.live(x:IsIt t h i l k):∃o,h.get? i=some o:=by
 cases t
 ·obtain⟨o,ho,r⟩:=(show h.IsListIter i l k from x);exact⟨o,ho⟩
 ·obtain⟨o,ho,r⟩:=(show h.IsTupleIter i l k from x);exact⟨o,ho⟩
theorem IsSq.at{h':Heap}(x:IsSq t h l xs)(e:∀o,h.get? l=some o->h'.get? l=some o):IsSq t h' l xs:=by
 cases t
 ·obtain⟨o,ho,r⟩:=(show h.IsList l xs from x);exact⟨o,e o ho,r⟩
 ·obtain⟨o,ho,r⟩:=(show h.IsTuple l xs from x);exact⟨o,e o ho,r⟩
theorem IsSq.extBut(x:IsSq t h l xs)(hs:Heap.ExtBut b h h')(hb:l≠b):IsSq t h' l xs:=x.at λo e=>hs l o hb e
section
theorem Z8{A:Around}{E:Value->Shared->Prop}{s:Shared}{items}{x:Value}{Q:Value->Shared->Prop}(hit:s.heap.IsTupleIter it t i)
  (ht:s.heap.IsTuple t items)(hx:items[i]? =some x)
  (hQ:∀h',h'.IsTupleIter it t (i+1)->Heap.SameBut it s.heap h'->Q x {s with heap:=h'}):
  wpAny (model prog w) A (Builtin.SmallTypes.nextOf (.ref it)) Q E s:=by
 obtain⟨o,ho,hc,hd⟩:=id hit;obtain⟨ol,a,_,nl,b⟩:=ht;unfold Builtin.SmallTypes.nextOf;refine bZ (wpAny_callSpecial?_slot (name:=Str.ofString "__next__") hit.typeIs F.slot_tuple_iterator_next
  (wpAny_call_entry F.slot_tuple_iterator_next hit.typeIs F.entry_tuple_iterator_next ?_ (F.args_tuple_iterator_next_1 _)))
 show wpAny _ _ (field (.ref it) 0>>=_) _ _ s;refine bZ (wpAny_field ho hd (x:=.ref t) rfl ?_);show wpAny _ _ (if(Value.ref t==Value.none)=true then _ else _) _ _ s;rw[if_neg (show¬((Value.ref t==Value.none)=true)from nZ)];show wpAny _ _ (field (.ref it) 1>>=_) _ _ s;refine bZ (wpAny_field ho hd (x:=.int i 0) rfl ?_);show wpAny _ _ (seqItems? (.ref t)>>=_) _ _ s;refine bZ (wpAny_seqItems a b ?_);simp only[Int.toNat_natCast,hx];refine bZ (wpAny_setField ho hd (by simp) (pZ ⟨x,rfl,pZ (hQ _ ?_ (Heap.SameBut.update ..))⟩));exact⟨_,Heap.get?_update_self _ ho (Obj.isFreed_of_fields (Obj.data_mapFields hd _)),(Obj.cls_mapFields ..).trans hc,by
  rw[Obj.data_mapFields hd];simp[rawInt]⟩
theorem AV{A:Around}{E:Value->Shared->Prop}{s:Shared}{items}{Q:Value->Shared->Prop}(hh:A.handled=none)
  (hit:s.heap.IsTupleIter it t i)(ht:s.heap.IsTuple t items)(hx:items[i]? =none)
  (hE:∀h' e,Heap.ExtBut it s.heap h'->(∃o,h'.get? e=some o/\o.cls=.type "StopIteration")->E (.ref e) {s with heap:=h'}):
  wpAny (model prog w) A (Builtin.SmallTypes.nextOf (.ref it)) Q E s:=by
 obtain⟨o,ho,hc,hd⟩:=id hit;obtain⟨ol,b,_,nl,c⟩:=ht;unfold Builtin.SmallTypes.nextOf;refine bZ (wpAny_callSpecial?_slot (name:=Str.ofString "__next__") hit.typeIs F.slot_tuple_iterator_next
  (wpAny_call_entry F.slot_tuple_iterator_next hit.typeIs F.entry_tuple_iterator_next ?_ (F.args_tuple_iterator_next_1 _)))
 show wpAny _ _ (field (.ref it) 0>>=_) _ _ s;refine bZ (wpAny_field ho hd (x:=.ref t) rfl ?_);show wpAny _ _ (if(Value.ref t==Value.none)=true then _ else _) _ _ s;rw[if_neg (show¬((Value.ref t==Value.none)=true)from nZ)];show wpAny _ _ (field (.ref it) 1>>=_) _ _ s;refine bZ (wpAny_field ho hd (x:=.int i 0) rfl ?_);show wpAny _ _ (seqItems? (.ref t)>>=_) _ _ s;refine bZ (wpAny_seqItems b c ?_);simp only[Int.toNat_natCast,hx];refine bZ (wpAny_rule (bZ (wpAny_setField ho hd (by simp) ?_)));show wpAny _ _ (newExc (.type "StopIteration") []>>=_) _ _ _;refine bZ ?_;simp only[newExc,newTuple];refine bZ (wpAny_newObj_type ?_ (by size_fits));refine bZ (m:=firstArgMember _ _) (wpAny_of_eq (a:=Value.none) (by first|rfl|(simp only[firstArgMember];rfl)) ?_);refine wpAny_newObj_type ?_ (by size_fits);simp only[raiseNew];refine bZ (wpAny_handled ?_)
 first|rw[show A.in1.handled=none from hh]|rw[hh]
 refine bZ (pZ (wpAny_throw ?_));exact hE _ _ (((Heap.SameBut.update ..).extBut.push _).push _) ⟨_,get?_push_size _ rfl,rfl⟩
theorem SK{A:Around}{E:Value->Shared->Prop}{s:Shared}{items}{x:Value}{Q:Value->Shared->Prop}(hit:IsIt t s.heap it l i)
  (ht:IsSq t s.heap l items)(hx:items[i]? =some x)
  (hQ:∀h',IsIt t h' it l (i+1)->Heap.SameBut it s.heap h'->Q x {s with heap:=h'}):
  wpAny (model prog w) A (Builtin.SmallTypes.nextOf (.ref it)) Q E s:=by
 cases t
 ·exact wpAny_nextOf_list_item hit ht hx hQ
 ·exact Z8 hit ht hx hQ
theorem YT{A:Around}{E:Value->Shared->Prop}{s:Shared}{items}{Q:Value->Shared->Prop}(hh:A.handled=none)(hit:IsIt t s.heap it l i)
  (ht:IsSq t s.heap l items)(hx:items[i]? =none)
  (hE:∀h' e,Heap.ExtBut it s.heap h'->(∃o,h'.get? e=some o/\o.cls=.type "StopIteration")->E (.ref e) {s with heap:=h'}):
  wpAny (model prog w) A (Builtin.SmallTypes.nextOf (.ref it)) Q E s:=by
 cases t
 ·exact wpAny_nextOf_list_end hh hit ht hx hE
 ·exact AV hh hit ht hx hE
end
end ZT
end PySem
namespace PySem
open Sem (wp)
namespace ZT
section
end
end ZT
end PySem
namespace PySem
open Sem(wp)
open PyProof.Rows
namespace ZT
section
end
end ZT
end PySem
namespace PySem
open Sem(wp)
open PyProof.Rows
namespace F
end F
namespace ZT
noncomputable abbrev itO(t:Bool)(l:Addr):Obj:=if t then {cls:=.type "tuple_iterator",data:=.fields #[.ref l,.int 0 0]}else {cls:=.type "list_iterator",data:=.fields #[.ref l,.int 0 0]}
section
end
end ZT
end PySem
namespace PySem
open Sem(wp)
open PyProof.Rows
namespace ZT
section
end
end ZT
end PySem
namespace _L
open PySem PySem.Spec PyProof.Rows
section
theorem KZ(r:Vals xs us){j:Nat}(h1:j<us.toArray.size):∃x,xs[j]? =some x/\RelV x us.toArray[j]:=by
 have hj:j<xs.length:=by rw[r.length];simpa using h1
 obtain⟨u,hu,ru⟩:=r.get (i:=j) (x:=xs[j]) (by simp[hj]);have e1:us.toArray[j]=u:=by
  have:us[j]? =some us.toArray[j]:=by simp
  rw[hu]at this;exact(sJ this).symm
 exact⟨xs[j],by simp[hj],by rw[e1];exact ru⟩
end
end _L
namespace HT
open PySem PyProof.Rows
section
theorem getItem_tuple_whole{s:Shared}{vl:Value}{lo:Option Int}{Q:Value->Shared->Prop}(ht:IsTup s.heap t items)(hs:s.heap.IsSliceOf sl vl vu .none)(pl:IsPart vl lo)(pu:IsPart vu hi)
  (hw:sIx items.size 0 lo=0/\sIx items.size items.size hi=items.size)
  (h:Q (.ref t) s):wpAny (model prog w) A (getItem (.ref t) (.ref sl)) Q E s:=by
 obtain⟨os,b,c,e⟩:=id hs;have d:s.TypeIs (.ref sl) "slice":=⟨os,b,c⟩;unfold getItem
 try with_reducible refine wpAny_holding ?_
 first|refine bZ (pZ ?_)|skip
 refine bZ (wpAny_sequenceKey ht.typeIs (by decide) ?_);refine bZ (wpAny_callSpecial?_slot (name:=Str.ofString "__getitem__") ht.typeIs PyProof.Rows.slot_tuple_getitem
  (wpAny_call_entry PyProof.Rows.slot_tuple_getitem ht.typeIs entry_tuple_getitem ?_ (args_tuple_getitem _ _)))
 show wpAny _ _ (Builtin.Tuple.tupleItemsOf (.ref t)>>=_) _ _ s;refine bZ (tupleItemsOf_ ht ?_);refine bZ (wpAny_typeOf d ?_);rw[if_pos (by decide)];refine bZ (P8 hs pl pu ?_);have a:(((sIx items.size 0 lo:Nat):Int)==0&&(1:Int)==1&&(sIx items.size items.size hi - sIx items.size 0 lo)==items.size)=true:=by
  rw[hw.1,hw.2];simp
 show wpAny _ _ (if(((sIx items.size 0 lo:Nat):Int)==0&&(1:Int)==1&&(sIx items.size items.size hi - sIx items.size 0 lo)==items.size)=true then _ else _) _ _ s;rw[if_pos a];unfold Builtin.Tuple.tupleIsExact;refine bZ (bZ (wpAny_typeOf ht.typeIs ?_))
 repeat (first|refine pZ ?_|refine bZ ?_|refine wpAny_rule ?_|rw[if_pos (by decide)])
 exact⟨_,rfl,pZ h⟩
end
end HT
namespace _L
open PySem PySem.Spec PyProof.Rows
section
def cOZ(Z:FZ):V->Option Int->Option Int->Hp->VK->Prop:=λx lo hi H Q=>∃a xs,x=.ref a/\SqT Z H a xs/\(HT.sIx xs.length 0 lo=0/\HT.sIx xs.length xs.length hi=xs.length)/\Q (.ref a) H
theorem ZB:SlR X (cOZ X.K):=by
 intro c s σ H x v vl vu lo hi sl Q I rx hs pl pu h;obtain⟨a,xs,rfl,hx,hw,q⟩:=h;cases rx;obtain⟨d,r,ht,hz⟩:=I.tuple hx;have b:d.toArray.size=xs.length:=by rw[size_toArray];exact r.length.symm
 refine⟨"tuple",_,PyProof.Rows.slot_tuple_getitem.lookup,ht.typeIs, ?_⟩;exact HT.getItem_tuple_whole ht hs pl pu (by rw[b];exact hw) ⟨.ref a,H,I,rfl,q⟩
theorem TB{X:Cx}{Z:FZ}(hK:X.K=Z:=by rfl):SlR X (λx lo hi H Q=>(rSlL Z x lo hi H Q\/rSlT Z x lo hi H Q)\/cOZ Z x lo hi H Q):=by subst hK;exact sl_any.or ZB
end
end _L
namespace TM
open PySem PyProof.Rows
theorem noFill_tuple_mul:fillsNumberSlot (.type "tuple") "mul"=pure false:=
 PySem.fillsNumberSlot_seq (id:="tuple.__mul__") (r:=some (.builtin "tuple.__rmul__")) F.slot_tuple_mul.lookup (by decide +kernel) F.slot_tuple_rmul.lookup (by decide +kernel)
theorem repeat_tuple:seqRepeat? (.type "tuple")=pure (some (.builtin "tuple.__mul__")):=by
 unfold seqRepeat?;rw[PySem.seqSlot_of (T:="tuple") (name:="__mul__") (id:="tuple.__mul__") F.slot_tuple_mul.lookup (by decide +kernel),PySem.seqSlot_of (T:="tuple") (name:="__rmul__") (id:="tuple.__rmul__") F.slot_tuple_rmul.lookup (by decide +kernel)];rfl
theorem int___rmul___int_tuple(a:Int)(t:Tok)(l:Addr)(dd:Option Addr)(items:Array Value)(n:Nat)(sl:Array (Option Value)):
  Meets (Builtin.«int.__rmul__» ⟨[.int a t,.ref l],[]⟩) (λ_ R s=>s.heap.get? l=some {cls:=.type "tuple",dict:=dd,data:=.seq items n,slots:=sl}/\R (.ok (.ret Value.notImplemented)) s):=
 .of_wp λb w A R s h=>by obtain⟨hp,g,d,tk,os⟩:=s;obtain⟨hl,h⟩:=h;wp_walk;exact⟨_,rfl,h⟩
section
theorem ZJ(x:Value)(k:Nat):List.foldl (λx1 x2=>x1++x2) #[] (List.replicate k #[x])=(List.replicate k x).toArray:=by
 have:=_L.foldl_rep [x] k [];rw[nil_append,List.flatten_replicate_singleton]at this;exact this
theorem tuple_mul1{s:Shared}{x:Value}{k:Int}{Q:Value->Shared->Prop}(ht:IsTup s.heap l #[x])(h0:0<=k)(h1:k<=1000)(hs:k=1->Q (.ref l) s)
  (hn:k≠1->Q (.ref s.heap.objs.size) {s with heap:=s.heap.push {cls:=.type "tuple",data:=.seq (List.replicate k.toNat x).toArray}}):wpAny (model prog w) A (call (.builtin "tuple.__mul__") [.ref l,.int k t]) Q E s:=by
 refine wpAny_call_entry F.slot_tuple_mul ht.typeIs F.entry_tuple_mul ?_ (F.args_tuple_mul_2 _ _);show wpAny _ _ (asIndex (.int k t)>>=_) _ _ s;refine bZ (m:=asIndex _) (pZ (a:=k) ?_);have e1:¬((decide (k< -2^63)||decide (k≥2^63))=true):=by simp;omega
 rw[if_neg e1];refine bZ (tupleItemsOf_ ht ?_);by_cases e:k=1
 ·subst e;rw[if_pos (by simp)];unfold Builtin.Tuple.tupleIsExact;refine bZ (bZ (wpAny_typeOf ht.typeIs ?_))
  repeat (first|refine pZ ?_|refine bZ ?_|refine wpAny_rule ?_|rw[if_pos (by decide)])
  exact⟨_,rfl,hs rfl⟩
 ·have e2:¬(((#[x]:Array Value).isEmpty||k==1)=true):=by simp[e]
  rw[if_neg e2];have hz:sizeOk (.seq (List.replicate k.toNat x).toArray):=by
   show(List.replicate k.toNat x).toArray.size<=sizeLine;rw[size_toArray,length_replicate];have:(1000:Nat)<=sizeLine:=by decide
   omega
  by_cases e0:k=0
  ·subst e0;rw[if_pos (by simp)];exact bZ (m:=Builtin.Tuple.tupleExact _) (wpAny_newObj_type (pZ ⟨_,rfl,hn e⟩) hz)
  ·rw[if_neg (by simp;omega)];have e5:¬(((#[x]:Array Value).size:Int)*k>(2^63 - 1)/8):=by simp;omega
   show wpAny _ _ (if((#[x]:Array Value).size:Int)*k>(2^63 - 1)/8 then _ else _) _ _ s;rw[if_neg e5];have e6:¬(Builtin.Tuple.tupleTooMany (((#[x]:Array Value).size:Int)*k)=true):=by
    unfold Builtin.Tuple.tupleTooMany;have:(1000:Nat)<=sizeLine:=by decide
    simp;omega
   show wpAny _ _ (if Builtin.Tuple.tupleTooMany (((#[x]:Array Value).size:Int)*k)=true then _ else _) _ _ s;rw[if_neg e6,ZJ];exact bZ (m:=Builtin.Tuple.tupleExact _) (wpAny_newObj_type (pZ ⟨_,rfl,hn e⟩) hz)
end
end TM
namespace _L
open PySem PySem.Spec PyProof.Rows
section
def buZ(Z:FZ):R2:=λx y H Q=>∃l k z,x=.ref l/\y=.int k/\SqT Z H l [z]/\0<=k/\k<=1000/\(k=1->Q (.ref l) H)/\(k≠1->∀p,H p=none->Q (.ref p) (upd H p (.tup (List.replicate k.toNat z))))
theorem KP(r:RelV z u):∀k:Nat,Vals (List.replicate k z) (List.replicate k u)
 |0=> .nil
 |k+1=> .cons r (KP r k)
theorem aoZ:OpR X (binaryOp .Mult) (buZ X.K):=by
 intro a s σ H x y v u Q I rx ry h;obtain⟨l,k,z,rfl,rfl,hl,h0,h1,q1,q2⟩:=h;cases rx;obtain⟨t,rfl⟩:=ry;obtain⟨d,r,pl,_⟩:=I.tuple hl;obtain⟨u,rfl,ru⟩:=V5 r;obtain⟨⟨f,dd,c,sl⟩,ho,hc,n,hd⟩:=id pl;simp only at hc hd;subst hc hd;refine wpAny_binaryOp_repeat_ref (T:="tuple") (U:="int") (by decide) ⟨_,ho,rfl⟩ (λs'=>typeIs_int s' k t) TM.noFill_tuple_mul F.fills_int_mul F.slot_int_rmul TM.repeat_tuple F.slot_int_index.lookup
  (call_meets F.slot_int_rmul (typeIs_int s k t) F.entry_int_rmul (F.args_int_rmul_2 _ _) (TM.int___rmul___int_tuple k t l dd _ n sl)
   ⟨ho,rfl,⟨_,ho,rfl⟩,TM.tuple_mul1 pl h0 h1 (λe=>⟨.ref l,H,I,rfl,q1 e⟩) λe=> ?_⟩)
 refine⟨.ref s.heap.objs.size,_,I.laid (t':=s.toks) (o:=.tup (List.replicate k.toNat z)) (λb ob q=>gZ _ q) (le_refl _) ?_,rfl,q2 e _ (I.hok.fresh (le_refl _))⟩;refine⟨?_,_,KP ru k.toNat,IsTup.new _ _⟩;rw[length_replicate];have:(1000:Nat)<=sizeLine:=by decide
 omega
theorem evZ{X:Cx}{Z:FZ}(hK:X.K=Z:=by rfl):OpR X (binaryOp .Mult) (λx y H Q=>rI CMul (λi j=> .int (i*j)) x y H Q\/buZ Z x y H Q):=by subst hK;exact op_mul.or aoZ
theorem F1{X:Cx}{Z:FZ}(hK:X.K=Z:=by rfl):OpR X (binaryOp .Add) (λx y H Q=>rI0 (λi j=> .int (i+j)) x y H Q\/rCat x y H Q\/LU Z x y H Q\/DV Z x y H Q):=by
 subst hK;exact op_add.or (op_cat.or (op_catT.or LS))
end
end _L
namespace TM
open PySem PyProof.Rows PySem.SeqAt
end TM
namespace _L
open PySem PySem.Spec PyProof.Rows
section
end
structure LamScope(ps fs:List Str)(sc:Scope):Prop where
 kind:sc.kind=.function
 co:sc.isCoroutine=false
 gen:sc.isGenerator=false
 nd:(ps++fs).Nodup
 par:∀x∈ps,sc.names.lookup x=some .local
 nocell:∀y∈sc.names,y.2≠ .cell
 free:∀x,sc.names.lookup x=some .free->x∈fs
 fre:∀x∈fs,sc.names.lookup x=some .free
structure Caught (qB:Heap) (cl:List (Str×Addr)) (fs:List Str) (cvs:List V):Prop where
 len:cvs.length=fs.length
 inj:∀x y c,cl.lookup x=some c->cl.lookup y=some c->x=y
 only:∀x c,cl.lookup x=some c->x∈fs
 at_:∀(i:Nat) (x:Str),fs[i]? =some x->∃c u v,cl.lookup x=some c/\qB.IsCell c (some u)/\cvs[i]? =some v/\RelV v u
noncomputable def RI(CX:CXT)(P:Program)(w:World)(Z:FZ)(mg:Str->Option Value)(qB:Heap)(N:List Str)(qual:Str)(scope:Scope)(f:Addr)(cd:Value)(cl:List (Str×Addr))(A:Around)(outer:List Env)(s:Shared)(H:Hp)(E:XK):Cx where
 prog:=P
 w:=w
 K:=Z
 mg:=mg
 qB:=qB
 A:=A.deeper (envX qual scope s.heap.objs.size f cd cl)
 N:=N
 s₀:=s
 H₀:=H
 env:=envX qual scope s.heap.objs.size f cd cl
 outer:=outer
 stack:=envX qual scope s.heap.objs.size f cd cl::outer
 ex:=[]
 calm:=true
 fn:=λ_=>false
 pn:=[]
 xe:=λe s'=>wpAny (model P w) (A.deeper (envX qual scope s.heap.objs.size f cd cl)) (leaving (envX qual scope s.heap.objs.size f cd cl) e) (λ_ s''=>CX outer H s E e s'') (λe' s''=>CX outer H s E e' s'') s'
theorem ZA{ps:List Str}{us:List Value}{i:Nat}{x:Str}{u:Value}(nd:ps.Nodup)(hl:us.length=ps.length)(h1:ps[i]? =some x)(h2:us[i]? =some u):(ps.zip us).reverse.lookup x=some u:=by
 have a:∀(l:List (Str×Value)),(l.map (·.1)).Nodup->(x,u)∈l->l.lookup x=some u:=by
  intro l;induction l with
  |nil=>intro _ h;exact absurd h (by simp)
  |cons p l ih=>
   obtain⟨y,z⟩:=p;intro n h;rw[map_cons,nodup_cons]at n;rcases cZ h with e|h
   ·cases e;simp
   ·have ne:x≠y:=λe=>n.1 (e▸List.mem_map_of_mem (f:=(·.1)) h);rw[lookup_cons,show(x==y)=false from beq_eq_false_iff_ne.mpr ne];exact ih n.2 h
 refine a _ ?_ ?_
 ·rw[List.map_reverse,List.map_fst_zip (by omega)];exact List.pairwise_reverse.mpr (List.Pairwise.imp (λh=>Ne.symm h) nd)
 ·rw[mem_reverse];refine mem_of_getElem? (i:=i) ?_;rw[List.getElem?_zip_eq_some];exact⟨h1,h2⟩
theorem SL{A:Around}{h1:Heap}{tk:Nat}{vs:List V}
  (S:LamScope ps fs scope)(C:Caught qB cl fs cvs)(hd:A.handled=none)(e0:Env0 P w Z mg qB A outer s H)(hl:vs.length=ps.length)(r:Vals vs us)
  (hns:h1.Ns s.heap.objs.size (λx=>(ps.zip us).reverse.lookup x))(hk:∀b o,s.heap.get? b=some o->h1.get? b=some o):
  Inv (RI CX P w Z mg qB (ps++fs) qual scope f cd cl A outer s H E) [] ((vs++cvs).map some) H {s with heap:=h1,toks:=tk}:=by
 have d:∀b:Addr,b∉(RI CX P w Z mg qB (ps++fs) qual scope f cd cl A outer s H E).ex:=λb z=>absurd (show b∈([]:List Addr)from z) (by simp);have g:ps.Nodup:=(List.nodup_append.mp S.nd).1;have j:us.length=ps.length:=by rw[<-r.length];exact hl
 have cb:∀x c,cl.lookup x=some c->∃u,qB.IsCell c (some u):=λx c e=>by
  obtain⟨i,hi⟩:=List.getElem?_of_mem (C.only x c e);obtain⟨c',u,v,e1,e2,_⟩:=C.at_ i x hi;rw[e]at e1;cases e1;exact⟨u,e2⟩
 have bk:∀b o,qB.get? b=some o->h1.get? b=some o:=λb o e=>hk b o (e0.bs b o e).1;have ck:∀ {c:Addr} {u:Value},qB.IsCell c (some u)->h1.IsCell c (some u):=λ{c u} ⟨o,ho,hd⟩=>⟨o,bk _ _ ho,hd⟩;refine⟨⟨e0.mod,S.kind,rfl,rfl,le_refl _,C.inj,λy hy=> ?_,λy c h=>absurd (show(false:Bool)=true from h) (by simp),λ_=>hd,Around.frames_deeper e0.frames,.inr ⟨rfl,rfl⟩,λb z=>absurd z (d b),e0.bs,e0.bsz,λb _ _=>d b,λb z=>absurd z (d b),e0.funs,e0.frf⟩,
  rfl,e0.bare,Un.kept hk,⟨_,hns,λi y v h1 h2 h3=> ?_⟩,λy c h=> ?_,e0.hok.fresh (le_refl _),λy c h=> ?_,λp hp=>absurd (show p∈([]:List (Addr×Obj))from hp) (by simp),e0.hok.kept hk, ?_⟩
 ·have hy:scope.names.lookup y=some .cell\/scope.names.lookup y=some .free:=hy;rcases hy with hy|hy
  ·exact absurd rfl (S.nocell _ (PySem.mem_of_lookup hy))
  ·obtain⟨i,hi⟩:=List.getElem?_of_mem (S.free y hy);obtain⟨c,u,v,e1,_⟩:=C.at_ i y hi;exact⟨c,e1⟩
 ·have h1:(ps++fs)[i]? =some y:=h1;have h3:Vis scope y:=h3;by_cases hi:i<ps.length
  ·rw[getElem?_append_left hi]at h1;rw[getElem?_map,getElem?_append_left (by omega)]at h2;have ha:vs[i]? =some v:=by
    cases e:vs[i]? with
    |none=>rw[e]at h2;cases h2
    |some a=>rw[e]at h2;cases h2;rfl
   obtain⟨u,hu,rv⟩:=r.get ha;exact⟨u,rv,.inl ⟨S.par y (mem_of_getElem? h1),ZA g j h1 hu⟩⟩
  ·rw[getElem?_append_right (by omega)]at h1;rw[getElem?_map,getElem?_append_right (by omega),hl]at h2;obtain⟨c,u,v',e1,e2,e3,e4⟩:=C.at_ _ y h1;rw[e3]at h2;cases h2;exact⟨u,e4,.inr ⟨.inr (S.fre y (mem_of_getElem? h1)),c,e1,ck e2⟩⟩
 ·obtain⟨u,e⟩:=cb y c h;exact⟨_,ck e⟩
 ·obtain⟨u,o,ho,_⟩:=cb y c h;exact(e0.bs _ _ ho).2
 ·show((vs++cvs).map some).length=(ps++fs).length;rw[length_map,length_append,length_append,hl,C.len]
theorem cjZ{qB:Heap}{f:Addr}{o:Obj}
  {sp:Sp}(lk:qB.get? f=some o)(hod:o.data=.func (W.kla_fn name qual params body scope cl pm cdv ct))(hcd:qB.CodeRec cdv qual)(S:LamScope ps fs scope)(C:Caught qB cl fs cvs)
  (len:∀vs H Q E,sp vs H Q E->vs.length=ps.length)
  (hbody:∀(A:Around) (outer:List Env) (s:Shared) (H:Hp) (vs:List V) (Q:VK) (E:XK),Room k (A.deeper (envX qual scope s.heap.objs.size f cdv cl))->sp vs H Q E->
   ∃t,PE (RI CX P w Z mg qB (ps++fs) qual scope f cdv cl A outer s H E) body t/\t ((vs++cvs).map some) H Q):
  FnOk P w Z mg qB CX (k+1) f (W.kla_fn name qual params body scope cl pm cdv ct) ps sp:=by
 refine⟨len,λA outer s H j us vs Q E hr e0 hb r d=> ?_⟩;have hl:=len _ _ _ _ d;have h:s.heap.NoLimit:=e0.mod.nolimit.keeps λb o e=>(e0.bs b o e).1;have a:s.heap.CodeRec cdv qual:=by
  obtain⟨c,oc,vs,t,e1,e2,e3⟩:=hcd;exact⟨c,oc,vs,t,e1,(e0.bs _ _ e2).1,e3⟩
 refine W.kla_callFunE hr.depth (e0.bs _ _ lk).1 hod S.co S.gen rfl a (hb _ _ _ _ ?_);refine wpAny_newFunctionEnv S.nocell (λx hx=>S.par x.1 (of_mem_zip hx).1) (λh₁ i g=>⟨h.fresh _ g, ?_⟩) S.kind;have hk:∀b o,s.heap.get? b=some o->h₁.get? b=some o:=λb o e=>g.extBut b o (ne_of_lt (lt_size e)) (gZ _ e);show codeAny _ _ (.expr body (envX qual scope s.heap.objs.size f cdv cl)) _ _;obtain⟨t,ht,hq⟩:=hbody A outer s H vs Q E (hr.deeper _) d;have I:Inv (RI CX P w Z mg qB (ps++fs) qual scope f cdv cl A outer s H E) [] ((vs++cvs).map some) H {s with heap:=h₁,toks:=s.toks+(ps.zip us).length}:=SL S C hr.hd e0 hl r i hk;refine W.kla_codeExpr (wpAny_mono (ht [] _ _ H Q I hq) (λu s' hs=> ?_) λe s' hs=>hs);obtain⟨v,H',J,rv,q⟩:=hs;exact⟨v,H',J.os,J.bare,J.qB,J.hok,rv,q⟩
def LamO(name qual:Str)(params:Arguments)(body:Expr)(scope:Scope)(clos:List (Str×Addr))(pm:Value)(c' f:Addr):HO:=
 .ext λh=>∃ctv,h.get? f=some (kla_obj name qual params body scope clos pm c' ctv)
def CodeO(qual:Str)(c':Addr):HO:=.ext λh=>∃oc vs t,h.get? c'=some oc/\oc.data=.fields vs/\vs[1]? =some (.str qual t)
theorem LamO.ok{h:Heap}{clos:List (Str×Addr)}{f:Addr}
  (e:h.get? f=some (kla_obj name qual params body scope clos pm c' ctv)):ObjOk P w H h f (LamO name qual params body scope clos pm c' f):=
 ⟨⟨ctv,e⟩,⟨_,e⟩,λh1 h2 ⟨c,q⟩ k=>⟨c,k _ q⟩⟩
theorem CodeO.ok{P:Program}{w:World}{H:Hp}{h:Heap}{c':Addr}{oc:Obj}(e:h.get? c'=some oc)(d:oc.data=.fields vs)(v:vs[1]? =some (.str qual t)):
  ObjOk P w H h c' (CodeO qual c'):=⟨⟨oc,vs,t,e,d,v⟩,⟨_,e⟩,λh1 h2 ⟨o,a,b,q,x,y⟩ k=>⟨o,a,b,k _ q,x,y⟩⟩
def EH(H:Hp)(P:Addr)(pos:Pos)(qual:Str):Prop:=∃ps,H P=some (.tbl ps)/\TriplesOk ps.toList/\(codeAmong pos ps.toList=none\/∃c',codeAmong pos ps.toList=some (.ref c')/\H c'=some (CodeO qual c'))
def TabHit(H:Hp)(P:Addr)(pos:Pos)(c':Addr):Prop:=∃ps,H P=some (.tbl ps)/\TriplesOk ps.toList/\codeAmong pos ps.toList=some (.ref c')
theorem TabHit.ok(h:TabHit H P pos c')(hc:H c'=some (CodeO qual c')):EH H P pos qual:=let⟨ps,h1,h2,h3⟩:=h;⟨ps,h1,h2,.inr ⟨c',h3,hc⟩⟩
def fEZ(P:Addr)(pos:Pos)(name qual:Str)(params:Arguments)(body:Expr)(scope:Scope)(clos:List (Str×Addr))(pm:Value):TE:=λ_ H Q=>EH H P pos qual/\
 ∀f c' H',H f=none->H' f=some (LamO name qual params body scope clos pm c' f)->H' c'=some (CodeO qual c')->TabHit H' P pos c'->f≠c'->f≠P->c'≠P->(∀b,b≠f->b≠c'->b≠P->H' b=H b)->
  (∀b o,H b=some o->b≠P->H' b=some o)->Q (.ref f) H'
section
theorem cgZ{X:Cx}{clos:List (Str×Addr)}{pm:Value}(hpm:pm=(X.mg "__name__").getD .none)(hdef:defaultsOf params X.env=([],[]))(hcl:closureFor scope X.env=pure clos)(hcode:X.env.code=.ref c)(C:W.CodeHd X.qB c P)(B:X.qB.BuiltinsAt X.mg P):
  PE X (.Lambda params body scope pos) (fEZ P pos "<lambda>" (X.env.qual++ "<lambda>") params body scope clos pm):=by
 subst hpm;intro J s σ H Q I h;obtain⟨⟨ps,hP,ht,hh⟩,h⟩:=h;refine W.kla_eval hdef ?_;have x:s.heap.get? P=some (W.tabObj ps):=I.hok P _ hP;have hg:s.heap.Ns mainGlobals X.mg:=by
  obtain⟨o,es,ep,e,r⟩:=I.mod.glob;exact⟨o,es,ep,I.bk _ _ e,r⟩
 have L:mainGlobals≠P:=λq=>by
  obtain⟨o,es,ep,e,r⟩:=I.mod.glob;have:=(I.bs _ _ e).2;rw[q,hP]at this;cases this
 have B':s.heap.BuiltinsAt X.mg P:=by
  obtain⟨bm,o,b1,b2,b3,b4,b5,r⟩:=B;exact⟨bm,o,b1,b2,b3,b4,I.bk _ _ b5,r⟩
 have R:X.env.locals≠P:=λq=>by have:=I.free;rw[q,hP]at this;cases this
 rcases hh with F|⟨c',hf,p⟩
 ·refine W.kla_makeFunction (mg:=X.mg) hcl I.ok.glob hg hcode (C.keeps I.bk) x ht F L B' λc' D h' tk hx l G y E=> ?_;obtain⟨c₂,oc,vs,t,e2,A,hd,hv⟩:=y;cases e2;have w:P<s.heap.objs.size:=lt_size x;have sl:s.heap.objs.size<h'.objs.size:=lt_of_le_of_lt l G;have g:h'.objs.size≠c':=Nat.ne_of_gt G;have i:h'.objs.size≠P:=Nat.ne_of_gt (lt_trans w sl);have j:c'≠P:=Nat.ne_of_gt (lt_of_lt_of_le w l);have f:H h'.objs.size=none:=I.hok.fresh (le_of_lt sl);have O:H c'=none:=I.hok.fresh l;have kb:∀b o,b≠P->s.heap.get? b=some o->(h'.push (kla_obj "<lambda>" (X.env.qual++ "<lambda>") params body scope clos ((X.mg "__name__").getD .none) c' D)).get? b=some o:=λb o n e=>gZ _ (hx b o n e);generalize a:upd (upd (upd H P (.tbl (ps++ #[rawInt pos.line,rawInt pos.col,.ref c']))) c' (CodeO (X.env.qual++ "<lambda>") c')) h'.objs.size (LamO "<lambda>" (X.env.qual++ "<lambda>") params body scope clos ((X.mg "__name__").getD .none) c' h'.objs.size)=H';have eF:H' h'.objs.size=some (LamO "<lambda>" (X.env.qual++ "<lambda>") params body scope clos ((X.mg "__name__").getD .none) c' h'.objs.size):=by rw[<-a,A4]
  have eC:H' c'=some (CodeO (X.env.qual++ "<lambda>") c'):=by rw[<-a,B5 (Ne.symm g),A4]
  have eP:H' P=some (.tbl (ps++ #[rawInt pos.line,rawInt pos.col,.ref c'])):=by rw[<-a,B5 (Ne.symm i),B5 (Ne.symm j),A4]
  have eO:∀b,b≠h'.objs.size->b≠c'->b≠P->H' b=H b:=λb n1 n2 n3=>by rw[<-a,B5 n1,B5 n2,B5 n3]
  have eK:∀b o,H b=some o->b≠P->H' b=some o:=λb o e n=>by
   rw[eO b (λz=>by rw[z,f]at e;cases e) (λz=>by rw[z,O]at e;cases e) n];exact e
  refine⟨.ref h'.objs.size,H', ?_,rfl,h _ c' H' f eF eC ⟨_,eP, ?_, ?_⟩ g i j eO eK⟩
  ·refine I.step (g':=s.gens) (d':=s.drawn) (ch:=[]) (λ_ z=>nomatch z) (λb o _ _ _ e n=>kb b o (λz=>by rw[z,hP]at n;cases n) e) (λb o _ _ _ e n=>⟨o.slots,kb b o (λz=>by rw[z,hP]at n;cases n) e⟩)
    (λb o _ e n=> ?_) (λb o _ e=> ?_) (λb xs e=>eK b _ e λz=>by rw[z,hP]at e;cases e) (λb o u e=>eK b _ e λz=>by rw[z,hP]at e;cases e) (λb qs e=> ?_) (λm hm=> ?_) ?_ I.bare
   ·have n1:=lt_size e;rw[eO b (ne_of_lt (lt_trans n1 sl)) (ne_of_lt (lt_of_lt_of_le n1 l)) λz=>by rw[z,hP]at n;cases n];exact n
   ·by_cases z:b=P
    ·rw[z];exact⟨_,gZ _ E⟩
    ·exact⟨o,kb b o z e⟩
   ·by_cases z:b=P
    ·rw[z,hP]at e;cases e;exact⟨_,by rw[z];exact eP⟩
    ·exact⟨#[],by rw[eK b _ e z];simp⟩
   ·obtain⟨o,es,ep,e,r⟩:=hm;exact⟨o,es,ep,kb _ _ R e,r⟩
   ·intro b u e;by_cases z1:b=h'.objs.size
    ·rw[z1,eF]at e;cases e;rw[z1];exact LamO.ok (get?_push_size _ rfl)
    by_cases z2:b=c'
    ·rw[z2,eC]at e;cases e;rw[z2];exact CodeO.ok (gZ _ A) hd hv
    by_cases z3:b=P
    ·rw[z3,eP]at e;cases e;rw[z3];exact gZ _ E
    rw[eO b z1 z2 z3]at e;refine(I.hok b u e).stay (λd v M q=>kb d v (λz=> ?_) q) (λd q=>eK d _ q λz=>by rw[z,hP]at q;cases q) λd xs q=>eK d _ q λz=>by rw[z,hP]at q;cases q
    rcases M with q|q
    ·exact z3 (q.symm.trans z)
    ·rw[z,hP]at q;cases q
  ·have:(ps++ #[rawInt pos.line,rawInt pos.col,Value.ref c']).toList=ps.toList++ [rawInt pos.line,rawInt pos.col,.ref c']:=by simp
   rw[this];exact TriplesOk_snoc _ _ _ _ ht
  ·have:(ps++ #[rawInt pos.line,rawInt pos.col,Value.ref c']).toList=ps.toList++ [rawInt pos.line,rawInt pos.col,.ref c']:=by simp
   rw[this];exact codeAmong_snoc _ ht F
 ·refine W.kla_makeFunctionHit (mg:=X.mg) hcl I.ok.glob hg hcode (C.keeps I.bk) x ht hf B' λD h' tk hk k=> ?_;obtain⟨⟨oc,vs,t,A,hd,hv⟩,_⟩:=I.hok c' _ p;have w:P<s.heap.objs.size:=lt_size x;have N:c'<s.heap.objs.size:=lt_size A;have g:h'.objs.size≠c':=Nat.ne_of_gt (lt_of_lt_of_le N k);have i:h'.objs.size≠P:=Nat.ne_of_gt (lt_of_lt_of_le w k);have j:c'≠P:=λe=>by rw[e,hP]at p;cases p
  have f:H h'.objs.size=none:=I.hok.fresh k;have kb:∀b o,s.heap.get? b=some o->(h'.push (kla_obj "<lambda>" (X.env.qual++ "<lambda>") params body scope clos ((X.mg "__name__").getD .none) c' D)).get? b=some o:=λb o e=>gZ _ (hk b o e);generalize a:upd H h'.objs.size (LamO "<lambda>" (X.env.qual++ "<lambda>") params body scope clos ((X.mg "__name__").getD .none) c' h'.objs.size)=H';have eF:H' h'.objs.size=some (LamO "<lambda>" (X.env.qual++ "<lambda>") params body scope clos ((X.mg "__name__").getD .none) c' h'.objs.size):=by rw[<-a,A4]
  have eO:∀b,b≠h'.objs.size->H' b=H b:=λb n1=>by rw[<-a,B5 n1]
  have eK:∀b o,H b=some o->H' b=some o:=λb o e=>by
   rw[eO b (λz=>by rw[z,f]at e;cases e)];exact e
  refine⟨.ref h'.objs.size,H', ?_,rfl,h _ c' H' f eF (eK _ _ p) ⟨_,eK _ _ hP,ht,hf⟩ g i j (λb n1 _ _=>eO b n1) λb o e _=>eK b o e⟩;refine I.step (g':=s.gens) (d':=s.drawn) (ch:=[]) (λ_ z=>nomatch z) (λb o _ _ _ e _=>kb b o e) (λb o _ _ _ e _=>⟨o.slots,kb b o e⟩)
    (λb o _ e n=> ?_) (λb o _ e=>⟨o,kb b o e⟩) (λb xs e=>eK b _ e) (λb o u e=>eK b _ e) (λb qs e=>⟨#[],by rw[eK b _ e];simp⟩) (λm hm=> ?_) ?_ I.bare
  ·have n1:=lt_size e;rw[eO b (ne_of_lt (lt_of_lt_of_le n1 k))];exact n
  ·obtain⟨o,es,ep,e,r⟩:=hm;exact⟨o,es,ep,kb _ _ e,r⟩
  ·intro b u e;by_cases z1:b=h'.objs.size
   ·rw[z1,eF]at e;cases e;rw[z1];exact LamO.ok (get?_push_size _ rfl)
   rw[eO b z1]at e;exact(I.hok b u e).stay (λd v _ q=>kb d v q) (λd q=>eK d _ q) λd xs q=>eK d _ q
end
def del(H:Hp)(a:Addr):Hp:=λb=>if b=a then none else H b
theorem O3:del H a a=none:=by unfold del;rw[if_pos rfl]
theorem T6{a b:Addr}(h:b≠a):del H a b=H b:=by unfold del;rw[if_neg h]
theorem WY{o:HO}(h:del H a b=some o):b≠a/\H b=some o:=by
 by_cases e:b=a
 ·subst e;rw[O3]at h;cases h
 ·rw[T6 e]at h;exact⟨e,h⟩
theorem AB{H:Hp}{b:Addr}(h:H b=none):del H a b=none:=by
 by_cases e:b=a
 ·subst e;exact O3
 ·rw[T6 e];exact h
structure CapOk (X:Cx) (clos:List (Str×Addr)) (fs:List Str) (js:List Nat):Prop where
 only:∀x c,clos.lookup x=some c->x∈fs/\X.env.cells.lookup x=some c
 has:∀x∈fs,∃c,clos.lookup x=some c
 kind:∀x∈fs,X.env.kindOf x=some .cell
 fn:∀x∈fs,X.fn x=true
 nm:∀(i:Nat) (x:Str),fs[i]? =some x->∃j,js[i]? =some j/\X.N[j]? =some x
 len:js.length=fs.length
def fjZ(σ:St)(js:List Nat)(cvs:List V):Prop:=cvs.length=js.length/\∀(i j:Nat),js[i]? =some j->∃v,σ[j]? =some (some v)/\cvs[i]? =some v
structure LamAt (qB:Heap) (name qual:Str) (params:Arguments) (body:Expr) (scope:Scope) (clos:List (Str×Addr)) (pm:Value) (c' f:Addr):Prop where
 fn:∃ctv,qB.get? f=some (kla_obj name qual params body scope clos pm c' ctv)
 cd:qB.CodeRec (.ref c') qual
theorem LamAt.fnAt{clos:List (Str×Addr)}(h:LamAt qB name qual params body scope clos pm c' f):W.FnAt f qB:=
 let⟨_,e⟩:=h.fn;⟨_,_,_,_,e⟩
def dBZ(name qual:Str)(params:Arguments)(body:Expr)(scope:Scope)(clos:List (Str×Addr))(pm:Value)(fs:List Str)(js:List Nat)(sp:Heap->Sp)(E:XK)(t:TA):TE:=fun σ H Q=>t σ H λvs H1=>
 ∃f c' cvs,fjZ σ js cvs/\H1 f=some (LamO name qual params body scope clos pm c' f)/\H1 c'=some (CodeO qual c')/\f≠c'/\
  ∀base',LamAt base' name qual params body scope clos pm c' f->Caught base' clos fs cvs->sp base' vs (del (del H1 f) c') (λv H'=>H' f=none->H' c'=none->Q v (upd H' c' (CodeO qual c'))) E
def S3(h qB:Heap)(l:List Addr):Heap:=W.hideAll h ((List.range h.objs.size).filter λa=>(qB.get? a).isNone&& !l.contains a)
theorem OC(h qB:Heap)(l:List Addr):(S3 h qB l).objs.size=h.objs.size:=W.hideAll_size _ _
theorem V1{h qB:Heap}{l:List Addr}{b:Addr}{o:Obj}(e:h.get? b=some o)(k:(∃u,qB.get? b=some u)\/b∈l):(S3 h qB l).get? b=some o:=
 W.hideAll_get _ e λhm=>by
  have:=(mem_filter.mp hm).2;rw[Bool.and_eq_true]at this;rcases k with⟨u,k⟩|k
  ·rw[k]at this;simp at this
  ·simp[k]at this
theorem KJ{b:Addr}{o:Obj}(e:(S3 h qB l).get? b=some o):h.get? b=some o/\((∃u,qB.get? b=some u)\/b∈l):=by
 have e':h.get? b=some o:=W.of_hideAll _ e;refine⟨e', ?_⟩;by_cases k:(∃u,qB.get? b=some u)\/b∈l
 ·exact k
 ·exfalso;have z:(S3 h qB l).get? b=none:=W.hideAll_none _ (mem_filter.mpr ⟨mem_range.mpr (lt_size e'),by
   rw[Bool.and_eq_true];constructor
   ·cases q:qB.get? b with
    |none=>rfl
    |some u=>exact absurd (.inl ⟨u,q⟩) k
   ·simp;exact λq=>k (.inr q)⟩)
  rw[z]at e;cases e
theorem OH{h:Heap}{l:List Addr}:∀ {es:List Env},(∀b∈frs es,b∉l)->h.FunFrames qB es->h.FunFrames (S3 h qB l) es:=by
 intro es;induction es with
 |nil=>intro _ _;trivial
 |cons a r ih=>
  intro hs hl;obtain⟨hk,⟨L,o,hf,hn,ho,hd⟩,hr⟩:=hl;refine⟨hk,⟨L,o,hf, ?_,ho,hd⟩,ih (λb hb=>hs b (by unfold frs;rw[filterMap_cons,hf];exact mem_cons_of_mem _ hb)) hr⟩;cases q:(S3 h qB l).get? L with
  |none=>rfl
  |some u=>
   rcases(KJ q).2 with⟨v,z⟩|z
   ·rw[hn]at z;cases z
   ·exact absurd z (hs L (by unfold frs;rw[filterMap_cons,hf];exact mem_cons_self))
section
theorem VN{X:Cx}{sp:Heap->Sp}{es:List Expr}{clos:List (Str×Addr)}(F:∀base',FnOk X.prog X.w X.K X.mg base' CX0 k g fd ps (sp base'))(hr:Room k X.A)(hg:Gl X x)(hm:X.mg x=some (.ref g))(hk:kZ X.K (.ref g)=true)(hb:Binds X.K fd ps [])(C:CapOk X clos fs js)
  (ha:PA X (e::es) t)(hdb:(x==("__debug__":Str))=false:=by decide)(he:starEach (e::es) X.env=(false,eval e X.env)::starEach es X.env:=by rfl)(hpl:(backTo pos (starEach es X.env)).any (·.1)=false:=by rfl):
  PE X (.Call (.Name x p) (e::es) [] pos) (dBZ name qual params body scope clos pm fs js sp E0 t):=by
 intro E s σ H Q I h;refine wpAny_Call_Name_kw (AA I hg hm ?_ hdb);refine callWith_K (h₀:=X.qB) I.ok.mod.kin hk (thn (ha pos E s σ H _ I h) λus s1 ⟨vs,H1,I1,r,q⟩=>⟨I1.kIn, ?_⟩) he hpl;obtain⟨f,c',an,W,hf,hc,ar,q⟩:=q;obtain⟨⟨ao,U⟩,_⟩:=I1.hok f _ hf;obtain⟨⟨oc,aa,tc,N,V,D⟩,_⟩:=I1.hok c' _ hc;have a:∀y∈fs,∃c,clos.lookup y=some c/\X.env.cells.lookup y=some c/\X.s₀.heap.objs.size<=c:=λy hy=>by
  obtain⟨c,e⟩:=C.has y hy;exact⟨c,e,(C.only y c e).2,I1.ok.cab y c (C.fn y hy) (C.only y c e).2⟩
 generalize hl:f::c'::fs.filterMap (λy=>clos.lookup y)=l;have T:∀b∈l,b=f\/b=c'\/∃y∈fs,clos.lookup y=some b:=λb hb=>by
  rw[<-hl]at hb;rcases cZ hb with e|hb
  ·exact .inl e
  rcases cZ hb with e|hb
  ·exact .inr (.inl e)
  obtain⟨y,hy,e⟩:=mem_filterMap.mp hb;exact .inr (.inr ⟨y,hy,e⟩)
 have fl:f∈l:=by rw[<-hl];exact mem_cons_self
 have aq:c'∈l:=by rw[<-hl];exact mem_cons_of_mem _ mem_cons_self
 have yl:∀y∈fs,∀c,clos.lookup y=some c->c∈l:=λy hy c e=>by
  rw[<-hl];exact mem_cons_of_mem _ (mem_cons_of_mem _ (mem_filterMap.mpr ⟨y,hy,e⟩))
 have n2:∀ {b:Addr},H1 b=none->del (del H1 f) c' b=none:=λh=>AB (AB h);have ac:∀ {b:Addr} {o:HO},H1 b=some o->(∀φ,o≠ .ext φ)->b≠f/\b≠c':=λ{b o} e n=>
  ⟨λz=>by rw[z,hf]at e;exact n _ (sJ e).symm,λz=>by rw[z,hc]at e;exact n _ (sJ e).symm⟩
 have d2:∀ {b:Addr} {o:HO},H1 b=some o->(∀φ,o≠ .ext φ)->del (del H1 f) c' b=some o:=λ{b o} e n=>by
  obtain⟨a1,a2⟩:=ac e n;rw[T6 a2,T6 a1];exact e
 have L:HOk X.prog X.w (del (del H1 f) c') s1.heap:=λb u e=>by
  obtain⟨_,e1⟩:=WY e;obtain⟨_,e2⟩:=WY e1;exact(I1.hok b u e2).stay (λ_ _ _ q=>q) (λd q=>d2 q fun φ z=>nomatch z) λd xs q=>d2 q fun φ z=>nomatch z
 have P:∀b o,X.qB.get? b=some o->(S3 s1.heap X.qB l).get? b=some o:=λb o e=>V1 (I1.bk b o e) (.inl ⟨o,e⟩);have S:∀ {b:Addr} {m:Str->Option Value},X.qB.Ns b m->(S3 s1.heap X.qB l).Ns b m:=λ{b m} ⟨o,es,ep,e,r⟩=>⟨o,es,ep,P _ _ e,r⟩;have hM:Mod X.K X.mg (S3 s1.heap X.qB l):=⟨I1.mod.kin.keeps P,S I1.mod.glob,(let⟨mb,b1,b2⟩:=I1.mod.blt;⟨mb,S b1,b2⟩),I1.mod.nolimit.keeps P⟩;have G:∀b∈frs X.stack,b∉l:=λb hb ah=>by
  have hn:=I1.stkFree b hb;rcases T b ah with z|z|⟨y,hy,z⟩
  ·rw[z,hf]at hn;cases hn
  ·rw[z,hc]at hn;cases hn
  ·obtain⟨c,e1,e2,e3⟩:=a y hy;rw[z]at e1;cases e1;rcases cZ (I1.stkSub b hb)with q|q
   ·exact I1.cne y b e2 q
   ·obtain⟨_,o,ho,_⟩:=I1.ok.funs.mem q;exact absurd (lt_of_lt_of_le (lt_size ho) e3) (lt_irrefl _)
 have e0:Env0 X.prog X.w X.K X.mg (S3 s1.heap X.qB l) X.A X.stack s1 (del (del H1 f) c'):=⟨I1.ok.frames,hM,λb o e=>by
  obtain⟨e1,kk⟩:=KJ e;refine⟨e1, ?_⟩;rcases kk with⟨u,z⟩|z
  ·exact n2 (I1.bs b u z).2
  ·rcases T b z with z|z|⟨y,hy,z⟩
   ·rw[z];exact AB O3
   ·rw[z];exact O3
   ·exact n2 (I1.freeC y b (C.only y b z).2),Nat.le_of_eq (OC _ _ _),OH G I1.stack,λb hb=>n2 (I1.stkFree b hb),L,I1.bare⟩
 have LA:LamAt (S3 s1.heap X.qB l) name qual params body scope clos pm c' f:=⟨⟨ao,V1 U (.inr fl)⟩,⟨c',oc,aa,tc,rfl,V1 N (.inr aq),V,D⟩⟩;have CA:Caught (S3 s1.heap X.qB l) clos fs an:=by
  refine⟨W.1.trans C.len,λy z c h1 h2=>I1.ok.inj y z c (C.only y c h1).2 (C.only z c h2).2,λy c h=>(C.only y c h).1,λi y hy=> ?_⟩;have B:y∈fs:=mem_of_getElem? hy;obtain⟨c,c1,c2,_⟩:=a y B;obtain⟨j,hj,hN⟩:=C.nm i y hy;obtain⟨v,hv,D⟩:=W.2 i j hj;obtain⟨m,hn,af⟩:=I1.loc;obtain⟨u,ru,lk⟩:=af j y v hN hv (.inr (.inl (C.kind y B)));rcases lk with⟨z,_⟩|⟨_,c3,e3,o,ho,hd⟩
  ·rw[C.kind y B]at z;cases z
  ·rw[c2]at e3;cases e3;exact⟨c,u,v,c1,⟨o,V1 ho (.inr (yl y B c c1)),hd⟩,D,ru⟩
 have hq:=q _ LA CA;have ad:us.length=ps.length:=by rw[<-r.length];exact(F _).len _ _ _ _ hq
 have aj:BindsTo s1 fd ⟨us,[]⟩ (ps.zip us):=by
  have:=hb s1 us I1.kIn (by rw[append_nil];exact ad);rw[append_nil]at this;exact this
 refine wpAny_call (codeAny_mono ((F _).run X.A X.stack s1 _ ⟨us,[]⟩ us vs _ E0 hr e0 aj r hq) λrr s' hR=> ?_);cases rr with
 |error e=>exact False.elim hR
 |ok ak=>
  cases ak with
  |next=>exact False.elim hR
  |brk=>exact False.elim hR
  |cont=>exact False.elim hR
  |ret u=>
   obtain⟨v,H',os,R,un,M,rv,hQ⟩:=hR;obtain⟨hh,g',d',t',ab⟩:=s';obtain rfl:ab=s1.os:=os;have ap:c'∉frs X.stack:=λz=>by have:=I1.stkFree c' z;rw[hc]at this;cases this
   have ag:hh.get? c'=some oc:=un.keep c' oc N O3 ap (by simp);have Y:H' c'=none:=un.free c' oc N O3 (by simp);have O:H' f=none:=un.free f _ U (AB O3) (by simp);have up:∀ {b:Addr} {o:HO},H' b=some o->upd H' c' (CodeO qual c') b=some o:=λ{b o} e=>by rw[B5 (B9 e Y)];exact e
   refine⟨v,upd H' c' (CodeO qual c'), ?_,rv,hQ O Y⟩;refine I1.step (g':=g') (d':=d') (t':=t') (h':=hh) (ch:=[]) (λ_ z=>nomatch z) (λb o hL ai _ e n=>un.keep b o e (n2 n) (λz=>(cZ (I1.stkSub b z)).elim hL ai) (by simp)) (λb o _ _ _ e n=>un.any e (n2 n) (by simp))
    (λb o _ e n=> ?_) (λb o _ e=>un.there b o e (by simp)) (λb xs e=>up (un.tups b xs (d2 e fun φ z=>nomatch z))) (λb o u e=>up (un.frzs b o u (d2 e fun φ z=>nomatch z))) (λb qs e=> ?_) (λm hm=> ?_) (λb w e=> ?_) R
   ·have ne:b≠c':=λz=>by rw[z,hc]at n;cases n
    rw[B5 ne];exact un.free b o e (n2 n) (by simp)
   ·obtain⟨J,e1⟩:=un.tbls b qs (d2 e fun φ z=>nomatch z);exact⟨J,up e1⟩
   ·obtain⟨o',al,am,ae,r'⟩:=hm;obtain⟨sl,hL⟩:=un.any ae (n2 I1.free) (by simp);exact⟨_,al,am,hL,r'⟩
   ·by_cases z:b=c'
    ·subst z;rw[A4]at e;cases e;exact CodeO.ok ag V D
    ·rw[B5 z]at e;exact(M b w e).stay (λ_ _ _ q=>q) (λd q=>up q) λd xs q=>up q
end
def EC(Z:FZ)(qB:Heap)(f:Addr):Prop:=kZ Z (.ref f)=true\/W.FnAt f qB
def a7Z(P:Program)(w:World)(Z:FZ)(mg:Str->Option Value)(qB:Heap)(A:Around)(CX:CXT)(E:XK)(tf:TE)(t:TA):TE:=fun σ H Q=>tf σ H λx H0=>∃(f:Addr) (fd:FuncData) (ps:List Str) (sp:Sp) (k:Nat),
 x=.ref f/\FnOk P w Z mg qB CX k f fd ps sp/\Room k A/\EC Z qB f/\Binds Z fd ps []/\t σ H0 λvs H1=>sp vs H1 Q E
section
theorem FQ{P:Program}{w:World}{Z:FZ}{mg:Str->Option Value}{qB:Heap}{A:Around}{e:Expr}{es:List Expr}(hf:PE X (.Name x p) tf)(hx:R6 CX X E)(ha:PA X (e::es) t)(hP:X.prog=P:=by rfl)(hw:X.w=w:=by rfl)(hK:X.K=Z:=by rfl)(hmg:X.mg=mg:=by rfl)(hbs:X.qB=qB:=by rfl)(hA:X.A=A:=by rfl)
  (he:starEach (e::es) X.env=(false,eval e X.env)::starEach es X.env:=by rfl)(hpl:(backTo pos (starEach es X.env)).any (·.1)=false:=by rfl):
  PE X (.Call (.Name x p) (e::es) [] pos) (a7Z P w Z mg qB A CX E tf t):=by
 subst hP;subst hw;subst hK;subst hmg;subst hbs;subst hA;intro a s σ H Q I h;refine wpAny_Call_Name_kw (thn (hf a s σ H _ I h) λfv s0 ⟨y,H0,I0,r0,q0⟩=> ?_);obtain⟨f,fd,ps,sp,k,rfl,F,hr,hk,hb,q⟩:=q0;cases r0;rcases hk with hk|⟨oc,od,b,sl,ho⟩
 ·refine callWith_K (h₀:=X.qB) I0.ok.mod.kin hk (thn (ha pos a s0 σ H0 _ I0 q) λus s1 ⟨vs,H1,I1,r,q1⟩=>⟨I1.kIn, ?_⟩) he hpl;exact EO (dvs:=[]) F hr hb .nil hx I1 r (by rw[append_nil];exact q1)
 ·refine W.callWith_F ⟨oc,od,b,sl,I0.bk _ _ ho⟩ (thn (ha pos a s0 σ H0 _ I0 q) λus s1 ⟨vs,H1,I1,r,q1⟩=>⟨⟨oc,od,b,sl,I1.bk _ _ ho⟩, ?_⟩) he hpl;exact EO (dvs:=[]) F hr hb .nil hx I1 r (by rw[append_nil];exact q1)
end
theorem Fun.okC{st:Stmt}{sp:Sp}(F:Fun Z x qual st f fd)(S:FnScope N ps (A9 st))(len:∀vs H Q E,sp vs H Q E->vs.length=ps.length)
  (hbody:∀(cdv:Value) (A:Around) (outer:List Env) (s:Shared) (H:Hp) (vs:List V) (Q:VK) (E:XK),fd.code=cdv->Room k (A.deeper (envOfC qual (A9 st) s.heap.objs.size f cdv))->sp vs H Q E->
   ∃t,PSs (HL CX0 P w Z mg qB N qual (A9 st) f cdv A outer s H E).nox (C7 st) t/\t {nx:=λ_ H'=>Q .non H',rt:=Q} (start N vs) H):FnOk P w Z mg qB CX0 (k+1) f fd ps sp:=by
 obtain⟨oc,od,kV,d,pm,an,cdv,ct,c,rfl,lk,b⟩:=F.ex;refine bGZ lk b S len λA outer s H vs Q E hr a=> ?_;obtain⟨t,h,q⟩:=hbody cdv A outer s H vs Q E rfl hr a;exact⟨t,h.nox,q⟩
structure OnlyT (tabs:List (Addr×Addr)) (H:Hp):Prop where
 only:∀b,H b=none\/(∃o xs,H b=some (.frz o (.lst xs)))\/H b=some (.tbl #[])
 tab:∀q∈tabs,H q.2=some (.tbl #[])
structure TabsB (tabs:List (Addr×Addr)) (mg:Str->Option Value) (qB:Heap):Prop where
 code:∀q∈tabs,W.CodeHd qB q.1 q.2
 blt:∀q∈tabs,qB.BuiltinsAt mg q.2
theorem UA{Z:FZ}{a:Addr}{x:Str}{sp:Sp}{s₁:Shared}{vs:List Value}
  (KX:Z.In s₁.heap)(hns:s₁.heap.Ns mainGlobals mg)(hb:s₁.heap.Ns builtinsNs mb)(hbb:∀x:Str,x≠ "__name__"->mb x=bootBuiltins x)(hlim:s₁.heap.NoLimit)(hg:s₁.gens= #[])
  (hT:W.TabsAt tabs s₁.heap)(hK:W.noTabs Z=true)(hbm:∃bm ob,mg "__builtins__"=some (.ref bm)/\bm≠builtinsNs/\s₁.heap.get? bm=some ob/\ob.cls=.type "module"/\ob.dict=some builtinsNs/\ob.data=.plain)
  (ha:s₁.heap.get? a=some {cls:=.type "list",data:=.seq vs.toArray})(hi:IntsAre vs ns)(hl:ns.length<=sizeLine)(hr:Room k callerA)
  (F:∀qB:Heap,Z.In qB->qB.Ns mainGlobals mg->TabsB tabs mg qB->FnOk P w Z mg qB CX k fa fd [x] sp)(hbind:∀(s:Shared) (u:Value),BindsTo s fd ⟨[u],[]⟩ [(x,u)])
  (hsp:∀H:Hp,OnlyT tabs H->SqL Z H a (ns.map V.int)->sp [.ref a] H (λv _=>v=.bl true) λ_ _ _=>False)
  (hCX:∀H e s',CX [] H s₁ (λ_ _ _=>False) e s'->False):
  codeAny (model P w) callerA (.call (.ref fa) ⟨[.ref a],[]⟩) (λr s'=>r=.ok (.ret (.bool true))/\OldK s₁.heap s'.heap/\s'.os=s₁.os/\AllBare s'.gens) s₁:=by
 have rv:=FS hi;have E:=hi.length;have J:∀H:Hp,OnlyT tabs H->SqL Z H a (ns.map V.int)->HOk P w H s₁.heap->(∀b,H b≠none->b=a\/b∈tabs.map (·.2))->(H a≠none->Z.lookup a=none)->
   codeAny (model P w) callerA (.call (.ref fa) ⟨[.ref a],[]⟩) (λr s'=>r=.ok (.ret (.bool true))/\OldK s₁.heap s'.heap/\s'.os=s₁.os/\AllBare s'.gens) s₁:=by
  intro H hO hS I hA T;have c:∀ {b:Addr} {o:Obj},s₁.heap.get? b=some o->H b=none->(FJ s₁.heap H).get? b=some o:=λe n=>WJ e n;have R:∀ {b:Addr},H b≠none->s₁.heap.get? b=some {cls:=.type "list",data:=.seq vs.toArray}\/s₁.heap.get? b=some (W.tabObj #[]):=λ{b} h=>by
   rcases hA b h with e|e
   ·rw[e];exact .inl ha
   ·obtain⟨q,hq,rfl⟩:=mem_map.mp e;exact .inr (hT q hq).2
  have D:∀ {b:Addr} {o:Obj},s₁.heap.get? b=some o->o≠ {cls:=.type "list",data:=.seq vs.toArray}->o≠W.tabObj #[]->H b=none:=λ{b o} e n1 n2=>by
   cases q:H b with
   |none=>rfl
   |some u=>
    rcases R (b:=b) (by rw[q];simp)with z|z<;>rw[e]at z
    ·exact absurd (sJ z) n1
    ·exact absurd (sJ z) n2
  have A:∀ {b:Addr} {m:Str->Option Value},s₁.heap.Ns b m->(FJ s₁.heap H).Ns b m:=λ{b m} ⟨o,es,ep,e,d,r⟩=>⟨o,es,ep,c e (D e (λz=>by rw[z]at d;cases d) λz=>by rw[z]at d;cases d),d,r⟩;have O:Z.In (FJ s₁.heap H):=λb o e=>c (KX b o e) (by
   cases q:H b with
   |none=>rfl
   |some u=>
    rcases hA b (by rw[q];simp)with z|z
    ·subst z;rw[T (by rw[q];simp)]at e;cases e
    ·obtain⟨t,ht,rfl⟩:=mem_map.mp z;have h2:=all_eq_true.mp hK _ (W.mem_of_lookupK e);have h3:=KX _ _ e;rw[(hT t ht).2]at h3;cases h3;exact absurd (show false=true from h2) nZ)
  have hM:Mod Z mg (FJ s₁.heap H):=⟨O,A hns,⟨mb,A hb,hbb⟩,let⟨mc,h1,h2⟩:=hlim;⟨mc,A h1,h2⟩⟩;have S:TabsB tabs mg (FJ s₁.heap H):=by
   refine⟨λq hq=> ?_,λq hq=> ?_⟩
   ·obtain⟨o,B,p,tf,g,tg,M,i,tt,e,c1,c2,r⟩:=(hT q hq).1;exact⟨o,B,p,tf,g,tg,M,i,tt,c e (D e (λz=>by rw[z]at c1;injection c1 with q;exact absurd q (by decide)) λz=>by rw[z]at c1;cases c1),c1,c2,r⟩
   ·obtain⟨bm,ob,b1,b2,b3,b4,b5,b6⟩:=hbm;refine⟨bm,ob,b1,b2,λz=> ?_,λz=> ?_,c b3 (D b3 (λz=>by rw[z]at b4;injection b4 with q;exact absurd q (by decide)) λz=>by rw[z]at b4;cases b4),b4,b5,b6⟩
    ·obtain⟨o,es,ep,e,hd,_⟩:=hns;rw[z,e]at b3;cases b3;rw[hd]at b6;cases b6
    ·rw[z,(hT q hq).2]at b3;cases b3;cases b4
  have e0:Env0 P w Z mg (FJ s₁.heap H) callerA [] s₁ H:=⟨rfl,hM,λb o e=>ajZ e,Nat.le_of_eq (US _ _),trivial,λb hb=>absurd (show b∈([]:List Addr)from hb) (by simp),I,.of_eq hg⟩;refine codeAny_mono ((F _ O (A hns) S).run callerA [] s₁ H ⟨[.ref a],[]⟩ [.ref a] [.ref a] _ _ hr e0 (hbind s₁ (.ref a)) (.cons rfl .nil) (hsp H hO hS)) λr s' h=> ?_;cases r with
  |error e=>exact(hCX H e s' h).elim
  |ok fl=>
   cases fl with
   |next=>exact False.elim h
   |brk=>exact False.elim h
   |cont=>exact False.elim h
   |ret u=>
    obtain⟨v,H',os,L,un,l,r',q⟩:=h;have q':v=.bl true:=q;subst q';obtain rfl:u=Value.bool true:=r';have C:∀b:Addr,b∉frs ([]:List Env):=λb z=>absurd (show b∈([]:List Addr)from z) (by simp);refine⟨rfl,⟨λb o e=> ?_,λb o e=>un.there b o e (by simp)⟩,os,L⟩;cases q:H b with
    |none=>exact .inl (un.keep b o e q (C b) (by simp))
    |some u=>
     rcases hO.only b with z|⟨ob,xs,z⟩|z
     ·rw[q]at z;cases z
     ·have z2:=un.frzs b ob _ z;obtain⟨e1,_⟩:=I b _ z;obtain⟨e2,_⟩:=l b _ z2;rw[e]at e1;cases e1;exact .inl e2
     ·obtain⟨j,z2⟩:=un.tbls b #[] z;have e2:s'.heap.get? b=some {cls:=.none,data:=.fields (#[]++j)}:=l b _ z2;have e1:s₁.heap.get? b=some {cls:=.none,data:=.fields #[]}:=I b _ z;rw[e]at e1;cases e1;rcases hA b (by rw[q];simp)with y|y
      ·rw[y,ha]at e;cases e
      ·obtain⟨t,ht,rfl⟩:=mem_map.mp y;obtain⟨o,B,p,tf,g,tg,M,i,tt,e',c1,c2,c3,r⟩:=(hT t ht).1;exact .inr (.inl ⟨⟨t.1,o,B,e',c1,c2,c3⟩,rfl, #[],j,rfl,e2⟩)
 have Q:∀q∈tabs,q.2≠a:=λq hq z=>by have:=(hT q hq).2;rw[z,ha]at this;cases this
 have mk:∀H0:Hp,(∀b,H0 b≠none->b=a)->(∀b,H0 b=none\/∃o xs,H0 b=some (.frz o (.lst xs)))->SqL Z H0 a (ns.map V.int)->HOk P w H0 s₁.heap->(H0 a≠none->Z.lookup a=none)->
   codeAny (model P w) callerA (.call (.ref fa) ⟨[.ref a],[]⟩) (λr s'=>r=.ok (.ret (.bool true))/\OldK s₁.heap s'.heap/\s'.os=s₁.os/\AllBare s'.gens) s₁:=by
  intro H0 h1 h2 h3 h4 h5;generalize hH:(λb=>if b∈tabs.map (·.2)then some (HO.tbl #[])else H0 b:Hp)=H;have G:∀ {b},b∈tabs.map (·.2)->H b=some (.tbl #[]):=λ{b} h=>by rw[<-hH];exact if_pos h
  have f:∀ {b},b∉tabs.map (·.2)->H b=H0 b:=λ{b} h=>by rw[<-hH];exact if_neg h
  have nT:a∉tabs.map (·.2):=λz=>by obtain⟨q,hq,e⟩:=mem_map.mp z;exact Q q hq e
  have up:∀ {b o},H0 b=some o->H b=some o:=λ{b o} e=>by
   have:b=a:=h1 b (by rw[e];simp);rw[f (by rw[this];exact nT)];exact e
  refine J H ⟨λb=> ?_,λq hq=>G (List.mem_map_of_mem hq)⟩ ?_ (λb u e=> ?_) (λb hb=> ?_) (λh=>h5 (by rw[f nT]at h;exact h))
  ·by_cases hb:b∈tabs.map (·.2)
   ·exact .inr (.inr (G hb))
   ·rw[f hb];exact(h2 b).elim .inl λh=> .inr (.inl h)
  ·rcases h3 with h|h
   ·rcases h with h|⟨o,h⟩
    ·exact .inl (.inl (up h))
    ·exact .inl (.inr ⟨o,up h⟩)
   ·exact .inr h
  ·by_cases hb:b∈tabs.map (·.2)
   ·rw[G hb]at e;cases e;obtain⟨q,hq,rfl⟩:=mem_map.mp hb;exact(hT q hq).2
   ·rw[f hb]at e;exact(h4 b u e).stay (λ_ _ _ q=>q) (λ_ q=>up q) λ_ _ q=>up q
  ·by_cases N:b∈tabs.map (·.2)
   ·exact .inr N
   ·rw[f N]at hb;exact .inl (h1 b hb)
 cases hk:Z.lookup a with
 |some o=>
  have e:=KX a o hk;rw[ha]at e;cases e;exact mk (λ_=>none) (λb z=>absurd rfl z) (λ_=> .inl rfl) (.inr ⟨_,vs.toArray,_,hk,rfl,rfl,rfl,by rw[size_toArray,E];exact hl,by simpa using rv⟩) (λb u z=>by have z':(none:Option HO)=some u:=z;cases z') λz=>absurd rfl z
 |none=>
  refine mk (λb=>if b=a then some (.frz {cls:=.type "list",data:=.seq vs.toArray} (.lst (ns.map V.int)))else none) (λb z=> ?_) (λb=> ?_) (.inl (.inr ⟨{cls:=.type "list",data:=.seq vs.toArray},if_pos rfl⟩)) (λb u z=> ?_) λ_=>hk
  ·by_cases hb:b=a
   ·exact hb
   ·exact absurd (if_neg hb) z
  ·by_cases hb:b=a
   ·exact .inr ⟨_,_,if_pos hb⟩
   ·exact .inl (if_neg hb)
  ·by_cases hb:b=a
   ·have z':=(if_pos hb).symm.trans z;cases z';subst hb;exact⟨ha,by rw[length_map];exact hl,vs,_,rv,ha⟩
   ·have z':=(if_neg hb).symm.trans z;cases z'
theorem walk_ofKT{l:W.OpenLaw}{n:Nat}{loose:List Str}{XP:(Str->Option Value)->Heap->Prop}{YP:World->Heap->Prop}{d:DefRec}{Z:Params->FZ}{sp:FZ->Sp}{x:Str}
  (hn:l.most=some n)(hn2:n<=sizeLine)(hdf:d.params.defaults=[])(hr:Room k callerA)
  (hY:∀(w:World) (h:Heap),YP w h->(Z w.params).In h)
  (hT:∀(w:World) (lo:List Str) (mean:ExcName->Option Value) (mg mb:Str->Option Value) (h:Heap),Top q lo mean mg mb h->(Z w.params).In h->W.TabsAt tabs h)(hK:∀w:World,W.noTabs (Z w.params)=true)
  (F:∀(w:World) (mg:Str->Option Value) (fa:Addr) (h:Heap),(Z w.params).In h->h.Ns mainGlobals mg->mg d.name=some (.ref fa)->
   ∃fd:FuncData,(∀(s:Shared) (u:Value),BindsTo s fd ⟨[u],[]⟩ [(x,u)])/\
    ∀qB:Heap,(Z w.params).In qB->qB.Ns mainGlobals mg->TabsB tabs mg qB->FnOk l.prog w (Z w.params) mg qB CX k fa fd [x] (sp (Z w.params)))
  (hsp:∀(Z:FZ) (H:Hp) (a:Addr) (ns:List Int),ns.length<=n->OnlyT tabs H->SqL Z H a (ns.map V.int)->sp Z [.ref a] H (λv _=>v=.bl true) λ_ _ _=>False)
  (hCX:∀(H:Hp) (s:Shared) (e:Value) (s':Shared),CX [] H s (λ_ _ _=>False) e s'->False):
  W.WalkO q loose XP YP l.row.toRowW d [] (λf vs=>PySem.call f vs):=by
 refine Att.attach_call hn hdf λw s₀ s₁ mg mb fa o pm cd r a vs ns G Y ho hd p m j i c hg=> ?_;have KX:=hY w _ Y;obtain⟨fd,hb,hF⟩:=F w mg fa _ KX G.T.g m;exact UA KX G.T.g G.T.b G.T.builtins G.T.nolimit hg (hT w _ _ mg mb _ G.T KX) (hK w) G.T.bmain j i (le_trans c hn2) hr hF hb (λH hO hS=>hsp (Z w.params) H a ns c hO hS) λH e s'=>hCX H s₁ e s'
section
variable{κ:Type}[DecidableEq κ]
noncomputable def F9(kvs:List (κ×V))(k:κ):Option V:=(kvs.find? λkv=>decide (kv.1=k)).map (·.2)
noncomputable def N6(kvs:List (κ×V))(k:κ)(v:V):List (κ×V):=
 if(kvs.any λkv=>decide (kv.1=k))=true then kvs.map (λkv=>if kv.1=k then(kv.1,v)else kv)else kvs++ [(k,v)]
theorem G6{p:κ×V}{r:List (κ×V)}{k:κ}(e:p.1=k):F9 (p::r) k=some p.2:=by simp[F9,find?_cons,e]
theorem G7{p:κ×V}{r:List (κ×V)}{k:κ}(e:¬p.1=k):F9 (p::r) k=F9 r k:=by simp[F9,find?_cons,e]
theorem Z6(k:κ):∀kvs:List (κ×V),(kvs.any λkv=>decide (kv.1=k))=(F9 kvs k).isSome
 | []=>rfl
 |p::r=>by
  rw[any_cons];by_cases e:p.1=k
  ·simp only[G6 e,decide_eq_true e,Bool.true_or,Option.isSome_some]
  ·rw[G7 e,decide_eq_false e,Bool.false_or];exact Z6 k r
theorem KY(k j:κ)(y:V):∀kvs:List (κ×V),F9 (kvs.map λkv=>if kv.1=k then(kv.1,y)else kv) j=(F9 kvs j).map λx=>if j=k then y else x
 | []=>rfl
 |p::r=>by
  have ih:=KY k j y r;rw[map_cons];by_cases h:p.1=k
  ·rw[if_pos h];by_cases e:p.1=j
   ·rw[G6 (p:=(p.1,y)) e,G6 e,map_some,if_pos (e.symm.trans h)]
   ·rw[G7 (p:=(p.1,y)) e,G7 e,ih]
  ·rw[if_neg h];by_cases e:p.1=j
   ·rw[G6 (p:=p) e,G6 e,map_some,if_neg (λz=>h (e.trans z))]
   ·rw[G7 (p:=p) e,G7 e,ih]
theorem GG(k j:κ)(y:V):∀kvs:List (κ×V),F9 kvs k=none->F9 (kvs++ [(k,y)]) j=if j=k then some y else F9 kvs j
 | [],_=>by
  by_cases e:k=j
  ·rw[if_pos e.symm];exact G6 (p:=(k,y)) e
  ·rw[if_neg (λz=>e z.symm)];exact G7 (p:=(k,y)) e
 |p::r,hn=>by
  rw[List.cons_append];have hk:¬p.1=k:=λz=>by rw[G6 z]at hn;cases hn
  rw[G7 hk]at hn;have ih:=GG k j y r hn;by_cases e:p.1=j
  ·rw[G6 e,G6 e,if_neg (λz=>hk (e.trans z))]
  ·rw[G7 e,G7 e,ih]
theorem ES(kvs:List (κ×V))(k j:κ)(y:V):F9 (N6 kvs k y) j=if j=k then some y else F9 kvs j:=by
 unfold N6;by_cases a:(kvs.any λkv=>decide (kv.1=k))=true
 ·rw[if_pos a,KY];rw[Z6]at a;by_cases e:j=k
  ·obtain⟨x,hx⟩:=Option.isSome_iff_exists.mp a;rw[if_pos e,e,hx,map_some,if_pos rfl]
  ·rw[if_neg e];cases F9 kvs j with
   |none=>rfl
   |some x=>rw[map_some,if_neg e]
 ·rw[if_neg a];refine GG k j y kvs ?_;rw[Z6]at a;cases q:F9 kvs k with
  |none=>rfl
  |some x=>rw[q]at a;exact(a rfl).elim
theorem K3(kvs:List (κ×V))(k:κ)(v:V):(N6 kvs k v).length<=kvs.length+1:=by
 unfold N6;split
 ·rw[length_map];omega
 ·rw[length_append,length_cons,length_nil];omega
theorem RelO.isSome_eq(r:RelO o u):o.isSome=u.isSome:=by
 cases o with
 |none=>cases u with
  |none=>rfl
  |some _=>exact(show False from r).elim
 |some _=>cases u with
  |none=>exact(show False from r).elim
  |some _=>rfl
theorem RelO.getD(r:RelO o u)(rd:RelV d d'):RelV (o.getD d) (u.getD d'):=by
 cases o with
 |none=>cases u with
  |none=>exact rd
  |some _=>exact(show False from r).elim
 |some _=>cases u with
  |none=>exact(show False from r).elim
  |some _=>exact r
theorem KV.val(r:KV kvs vs)(k:κ):RelO (F9 kvs k) (valueAt vs k):=by
 unfold KV at r;induction r with
 |nil=>exact True.intro
 | @cons p q ps qs h t ih=>
  obtain⟨h1,h2⟩:=h;by_cases e:p.1=k
  ·have e':q.1=k:=h1.symm.trans e;have b:valueAt (q::qs) k=some q.2:=by simp[valueAt,find?_cons,e']
   rw[G6 e,b];exact h2
  ·have e':¬q.1=k:=λz=>e (h1.trans z);have b:valueAt (q::qs) k=valueAt qs k:=by simp[valueAt,find?_cons,e']
   rw[G7 e,b];exact ih
theorem KV.any(r:KV kvs vs)(k:κ):(kvs.any λkv=>decide (kv.1=k))=vs.any λkv=>decide (kv.1=k):=by
 unfold KV at r;induction r with
 |nil=>rfl
 |cons h t ih=>rw[any_cons,any_cons,ih,h.1]
theorem KV.repl(r:KV kvs vs)(k:κ)(ry:RelV y u):
  KV (kvs.map λkv=>if kv.1=k then(kv.1,y)else kv) (vs.map λkv=>if kv.1=k then(kv.1,u)else kv):=by
 unfold KV at r⊢;induction r with
 |nil=>exact .nil
 | @cons p q ps qs h t ih=>
  rw[map_cons,map_cons];refine .cons ?_ ih;obtain⟨h1,h2⟩:=h;by_cases e:p.1=k
  ·rw[if_pos e,if_pos (h1.symm.trans e)];exact⟨h1,ry⟩
  ·rw[if_neg e,if_neg (λz=>e (h1.trans z))];exact⟨h1,h2⟩
theorem KV.put(r:KV kvs vs)(k:κ)(ry:RelV y u):KV (N6 kvs k y) (stored vs k u):=by
 unfold N6 stored;rw[r.any k];by_cases e:(vs.any λkv=>decide (kv.1=k))=true
 ·rw[if_pos e,if_pos e];exact r.repl k ry
 ·rw[if_neg e,if_neg e];exact Paired.snoc r ⟨rfl,ry⟩
theorem KV.length(r:KV kvs vs):kvs.length=vs.length:=Paired.length r
end
theorem BR(r:RelV (kV k) u):(E3 P w).is k u=true:=by
 cases k with
 |inl i=>obtain⟨t,e⟩:=(show∃t,u=Value.int i t from r);subst e;exact LB P w i t
 |inr x=>obtain⟨t,e⟩:=(show∃t,u=Value.str x t from r);subst e;exact LG P w x t
theorem FV:∀ {ks:List Key} {us:List Value},Vals (ks.map kV) us->ItemsAre (E3 P w) ks us
 | [],_,r=>by rw[map_nil]at r;cases r;exact .nil
 |k::ks,_,r=>by
  rw[map_cons]at r;cases r with
  |cons h t=>exact .cons (BR h) (FV t)
abbrev KT(H:Hp):List (List Key×V)->List (List Key×Addr×Value)->Prop:=Paired λp q=>p.1=q.1/\H q.2.1=some (.tup (p.1.map kV))/\RelV p.2 q.2.2
theorem KT.val(r:KT H kvs xs)(k:List Key):RelO (F9 kvs k) ((atKey xs k).map (·.2)):=by
 induction r with
 |nil=>exact True.intro
 | @cons p q ps qs h t ih=>
  obtain⟨h1,_,h2⟩:=h;by_cases e:p.1=k
  ·have e':q.1=k:=h1.symm.trans e;have b:atKey (q::qs) k=some q.2:=by simp[atKey,find?_cons,e']
   rw[G6 e,b];exact h2
  ·have e':¬q.1=k:=λz=>e (h1.trans z);have b:atKey (q::qs) k=atKey qs k:=by simp[atKey,find?_cons,e']
   rw[G7 e,b];exact ih
theorem KT.repl(r:KT H kvs xs)(k:List Key)(ry:RelV y u):
  KT H (kvs.map λkv=>if kv.1=k then(kv.1,y)else kv) (xs.map (putAt k u)):=by
 induction r with
 |nil=>exact .nil
 | @cons p q ps qs h t ih=>
  rw[map_cons,map_cons];refine .cons ?_ ih;obtain⟨h1,h2,h3⟩:=h;unfold putAt;by_cases e:p.1=k
  ·rw[if_pos e,if_pos (h1.symm.trans e)];exact⟨h1,h2,ry⟩
  ·rw[if_neg e,if_neg (λz=>e (h1.trans z))];exact⟨h1,h2,h3⟩
theorem KT.put(r:KT H kvs xs)(k:List Key){b:Addr}(hb:H b=some (.tup (k.map kV)))(ry:RelV y u):
  KT H (N6 kvs k y) (storedH xs k b u):=by
 have e:(kvs.any λkv=>decide (kv.1=k))=(atKey xs k).isSome:=by
  rw[Z6,(r.val k).isSome_eq,Option.isSome_map]
 unfold N6 storedH;rw[e];by_cases q:(atKey xs k).isSome=true
 ·rw[if_pos q,if_pos q];exact r.repl k ry
 ·rw[if_neg q,if_neg q];exact Paired.snoc r ⟨rfl,hb,ry⟩
theorem KT.keeps{H':Hp}(r:KT H kvs xs)(ht:∀b ys,H b=some (.tup ys)->H' b=some (.tup ys)):KT H' kvs xs:=
 Paired.mapP r λ_ _ z=>⟨z.1,ht _ _ z.2.1,z.2.2⟩
section
theorem bPZ(ok:HOk P w H h)(e:Rd H a u):ObjOk P w H h a u:=e.ok ok
theorem EI(ok:HOk P w H h)(e:Rd H a (.dK kvs)):kvs.length<=sizeLine/\(a==sysModules)=false/\∃vs,KV kvs vs/\h.DictOf (E3 P w) a vs:=
 show ObjOk P w H h a (.dK kvs)from bPZ ok e
theorem bLZ{a:Addr}(ok:HOk P w H h)(e:H a=some (.dK kvs)):kvs.length<=sizeLine/\(a==sysModules)=false/\∃vs,KV kvs vs/\h.DictOf (E3 P w) a vs:=EI ok (.inl e)
theorem BA{a:Addr}{ks:List Key}(ok:HOk P w H h)(e:H a=some (.tup (ks.map kV))):(tupleKind (E3 P w)).is h ks a:=by
 obtain⟨_,b,r,o,h1,h2,n,h3⟩:=(show ObjOk P w H h a (.tup (ks.map kV))from ok a _ e);exact⟨o,b.toArray,n,h1,h2,h3,by simpa using FV r⟩
theorem DS(ok:HOk P w H h)(e:Rd H a (.dT kvs)):kvs.length<=sizeLine/\(a==sysModules)=false/\
  ∃xs,KT H kvs xs/\h.DictOfH (tupleKind (E3 P w)) a xs:=by
 obtain⟨z,y,xs,r,o,es,ep,h1,h2,h3,h4,h5⟩:=(show ObjOk P w H h a (.dT kvs)from bPZ ok e);refine⟨z,y,xs,r,o,es,ep,h1,h2,h3,h4,λx hx=> ?_,h5⟩;have b:∀ {l:List (List Key×V)} {m:List (List Key×Addr×Value)},KT H l m->∀x∈m,(tupleKind (E3 P w)).is h x.1 x.2.1:=by
  intro l m q;induction q with
  |nil=>intro x hx;exact nomatch hx
  | @cons p q ps qs hq t ih=>
   intro x hx;rcases cZ hx with e|hx
   ·subst e;exact BA ok (by rw[<-hq.1];exact hq.2.1)
   ·exact ih x hx
 exact b r x hx
theorem eFZ{a:Addr}(ok:HOk P w H h)(e:H a=some (.dT kvs)):kvs.length<=sizeLine/\(a==sysModules)=false/\
  ∃xs,KT H kvs xs/\h.DictOfH (tupleKind (E3 P w)) a xs:=DS ok (.inl e)
end
def DGet(H:Hp)(a:Addr)(y:V)(r:Option V):Prop:=
 (∃kvs k,Rd H a (.dK kvs)/\y=kV k/\r=F9 kvs k)\/∃kvs k b,Rd H a (.dT kvs)/\y=.ref b/\H b=some (.tup (k.map kV))/\r=F9 kvs k
def DPut(H:Hp)(a:Addr)(y v:V)(H':Hp):Prop:=
 (∃kvs k,H a=some (.dK kvs)/\y=kV k/\kvs.length<sizeLine/\H'=upd H a (.dK (N6 kvs k v)))\/
 ∃kvs k b,H a=some (.dT kvs)/\y=.ref b/\H b=some (.tup (k.map kV))/\kvs.length<sizeLine/\H'=upd H a (.dT (N6 kvs k v))
theorem DGet.k{H:Hp}{a:Addr}{kvs:List (Key×V)}{k:Key}(e:H a=some (.dK kvs)):DGet H a (kV k) (F9 kvs k):=.inl ⟨kvs,k,.inl e,rfl,rfl⟩
theorem DPut.k{H:Hp}{a:Addr}{kvs:List (Key×V)}{k:Key}{v:V}(e:H a=some (.dK kvs))(hl:kvs.length<sizeLine):DPut H a (kV k) v (upd H a (.dK (N6 kvs k v))):=.inl ⟨kvs,k,e,rfl,hl,rfl⟩
section
theorem Inv.big{H:Hp}(I:Inv X N σ H s):sysModules<s.heap.objs.size:=by
 have h:mainGlobals<s.heap.objs.size:=(I.mod.glob.keeps I.bk).lt;exact lt_trans (by decide) h
theorem SZ{H:Hp}{v:V}{A:Around}{E:Value->Shared->Prop}{Q:Value->Shared->Prop}(hu:A.units+1<cLine)(I:Inv X N σ H s)(g:DGet H a y (some v))(ry:RelV y u)(h:∀w' s',Inv X N σ H s'->RelV v w'->Q w' s'):
  wpAny (model X.prog X.w) A (getItem (.ref a) u) Q E s:=by
 rcases g with⟨f,k,e,ey,l⟩|⟨f,k,b,e,ey,eb,l⟩
 ·subst ey;obtain⟨z,hd,vs,d,dd⟩:=EI I.hok e;obtain⟨w',hw,c⟩:=RelO.some_of (v:=v) (o:=valueAt vs k) (by rw[l];exact d.val k);exact wpAny_getItem_of (BR ry) dd.mapOf hw (h w' _ (I.tok _) c)
 ·subst ey;cases(show u=Value.ref b from ry);obtain⟨z,hd,xs,d,dd⟩:=DS I.hok e;obtain⟨w',hw,c⟩:=RelO.some_of (v:=v) (o:=(atKey xs k).map (·.2)) (by rw[l];exact d.val k);obtain⟨p,hp,i⟩:=Option.map_eq_some_iff.mp hw;refine wpAny_getItem_heap (tupleKind_room_in1 hu) (BA I.hok eb) dd hp ?_;rw[i];exact h w' _ (I.tok _) c
theorem fgZ{H:Hp}{A:Around}{E:Value->Shared->Prop}{Q:Value->Shared->Prop}(hu:A.units+1<cLine)(I:Inv X N σ H s)(g:DGet H a y o)(ry:RelV y u)(h:∀s',Inv X N σ H s'->Q (.bool o.isSome) s'):
  wpAny (model X.prog X.w) A (compareOp .In u (.ref a)) Q E s:=by
 rcases g with⟨d,k,e,ey,l⟩|⟨d,k,b,e,ey,eb,l⟩
 ·subst ey;obtain⟨z,hd,vs,c,dd⟩:=EI I.hok e;refine wpAny_in_of (BR ry) hd dd.mapOf ?_;rw[<-(c.val k).isSome_eq,<-l];exact h _ (I.tok _)
 ·subst ey;cases(show u=Value.ref b from ry);obtain⟨z,hd,xs,c,dd⟩:=DS I.hok e;refine wpAny_in_heap (tupleKind_room_in1 hu) (BA I.hok eb) hd dd ?_;have q:=(c.val k).isSome_eq;rw[Option.isSome_map]at q;rw[<-q,<-l];exact h _ (I.tok _)
theorem auZ{H:Hp}{A:Around}{E:Value->Shared->Prop}{Q:Value->Shared->Prop}(hu:A.units+1<cLine)(I:Inv X N σ H s)(g:DGet H a y o)(ry:RelV y u)(h:∀s',Inv X N σ H s'->Q (.bool (!o.isSome)) s'):
  wpAny (model X.prog X.w) A (compareOp .NotIn u (.ref a)) Q E s:=by
 rcases g with⟨d,k,e,ey,l⟩|⟨d,k,b,e,ey,eb,l⟩
 ·subst ey;obtain⟨z,hd,vs,c,dd⟩:=EI I.hok e;refine wpAny_notIn_of (BR ry) hd dd.mapOf ?_;rw[<-(c.val k).isSome_eq,<-l];exact h _ (I.tok _)
 ·subst ey;cases(show u=Value.ref b from ry);obtain⟨z,hd,xs,c,dd⟩:=DS I.hok e;refine wpAny_notIn_heap (tupleKind_room_in1 hu) (BA I.hok eb) hd dd ?_;have q:=(c.val k).isSome_eq;rw[Option.isSome_map]at q;rw[<-q,<-l];exact h _ (I.tok _)
theorem HP{H:Hp}{a:Addr}{t':Nat}(I:Inv X N σ H s)(mu:Mut (H a))(hs:Heap.SameBut a s.heap h')(he:∃q,h'.get? a=some q)(new:ObjOk X.prog X.w (upd H a ob) h' a ob):
  Inv X N σ (upd H a ob) {s with heap:=h',toks:=t'}:=
 I.write (x:=a) (e:=a) mu (.inl rfl) (λb q hb z=>(hs.2 b hb).trans z) he new
theorem NO{a:Addr}{H':Hp}{h':Heap}{kvs:List (Key×V)}(z:kvs.length<=sizeLine)(hd:(a==sysModules)=false)(rel:KV kvs vs)(dd:h'.DictOf (E3 P w) a vs):
  ObjOk P w H' h' a (.dK kvs):=⟨z,hd,vs,rel,dd⟩
theorem UK{H:Hp}{A:Around}{E:Value->Shared->Prop}{Q:Unit->Shared->Prop}(hu:A.units+1<cLine)(I:Inv X N σ H s)(g:DPut H a y v H')(ry:RelV y u)(rv:RelV v r)(h:∀s',Inv X N σ H' s'->Q () s'):
  wpAny (model X.prog X.w) A (setItem (.ref a) u r) Q E s:=by
 rcases g with⟨f,k,e,ey,l,eH⟩|⟨f,k,b,e,ey,eb,l,eH⟩
 ·subst ey eH;obtain⟨z,hd,vs,d,dd⟩:=bLZ I.hok e;have hz:vs.length<=sizeLine:=by rw[<-d.length];exact z
  have hl:(N6 f k v).length<=sizeLine:=by have:=K3 f k v;omega
  refine wpAny_setItem_pairs (hsz:=hz) (BR ry) dd λh' i hs=>h _ ?_;have he:∃q,h'.get? a=some q:=let⟨q,_,_,hq,_⟩:=i;⟨q,hq⟩;exact HP I (by rw[e];exact True.intro) hs he (NO hl hd (d.put k rv) i)
 ·subst ey eH;cases(show u=Value.ref b from ry);obtain⟨z,hd,xs,d,dd⟩:=eFZ I.hok e;have hz:xs.length<=sizeLine:=by rw[<-Paired.length d];exact z
  have hl:(N6 f k v).length<=sizeLine:=by have:=K3 f k v;omega
  refine wpAny_setItem_heap (hsz:=hz) (tupleKind_room_in1 hu) (BA I.hok eb) dd λh' i hs=>h _ ?_;obtain⟨q,es,ep,hq,h2,h3,h4,_,h5⟩:=i;refine HP I (by rw[e];exact True.intro) hs ⟨q,hq⟩ ⟨hl,hd,_,(d.put k eb rv).keeps λc ys ec=> ?_,q,es,ep,hq,h2,h3,h4,h5⟩;rw[B5 (MA ec e (λz=>nomatch z))];exact ec
end
def eyZ(i:Expr):Prop:=∀ov iv,subscripted i false ov iv=operate [ov,iv] (getItem ov iv)
theorem bbZ{id:String}{Q:Value->Shared->Prop}
  (hl:typeLookup (.type T) "__getitem__"=pure (some (.builtin id)))(hs:eyZ slice)
  (h:wpAny (model prog w) A (eval value env) (λo s₁=>wpAny (model prog w) A (eval slice env) (λi s₂=>s₂.TypeIs o T/\wpAny (model prog w) A (getItem o i) Q E s₂) E s₁) E s):
  wpAny (model prog w) A (eval (.Subscript value slice pos) env) Q E s:=by
 refine Subscript_ (wpAny_mono h (λo s₁ h₁=>wpAny_mono h₁ (λi s₂ h₂=> ?_) λ_ _ x=>x) λ_ _ x=>x);obtain⟨hT,h₂⟩:=h₂;unfold subscriptTail;refine bZ ?_;rw[getitemInPython_of_ne hT.not_modules];refine bZ (wpAny_specialOf hT hl ?_);have a:wpAny (model prog w) A (subscripted slice false o i) (λr s₃=>wpAny (model prog w) A (letTemporaryGo value o r>>=λ_=>pure r) Q E s₃) E s₂:=by
  rw[hs o i];exact wpAny_operating (wpAny_mono h₂ (λr s₃ h₃=>bZ (wpAny_letTemporaryGo (pZ h₃))) λ_ _ x=>x)
 first
  |exact pZ (bZ a)
  |exact bZ (pZ (bZ a))
  |exact bZ a
theorem KQ{H:Hp}(I:Inv X N σ H s)(g:DGet H a y o):s.TypeIs (.ref a) "dict":=by
 rcases g with⟨c,k,e,_,_⟩|⟨c,k,b,e,_,_,_⟩
 ·obtain⟨_,_,vs,_,dd⟩:=EI I.hok e;exact dd.typeIs
 ·obtain⟨_,_,xs,_,dd⟩:=DS I.hok e;exact dd.typeIs
inductive tDGetW (Q:VK) (x y:V) (H2:Hp):Prop
 |mk:∀a v,(x=.ref a)->(DGet H2 a y (some v))->(Q v H2)->tDGetW Q x y H2
def byZ(td ty:TE):TE:=fun σ H Q=>td σ H λx H1=>ty σ H1 λy H2=>tDGetW Q x y H2
section
theorem QA{X:Cx}{ty:TE}(hu:X.A.units+1<cLine)(ho:PE X o td)(hi:PE X i ty)(hs:eyZ i):PE X (.Subscript o i pos) (byZ td ty):=by
 intro b s σ H Q I h;refine bbZ PySem.F.slot_dict_getitem.lookup hs (thn (ho b s σ H _ I h) λu s1 ⟨x,H1,I1,rx,q1⟩=>thn (hi b s1 σ H1 _ I1 q1) λiv s2 ⟨y,H2,I2,ry,a,v,ex,g,q2⟩=> ?_);subst ex;obtain rfl:u=Value.ref a:=rx;exact⟨KQ I2 g,SZ hu I2 g ry λw' s3 I3 c=>⟨v,H2,I3,c,q2⟩⟩
end
theorem LM(h:Heap)(hb:sysModules<h.objs.size):ObjOk P w H (h.push {cls:=.type "dict",data:=.dict #[]}) h.objs.size (.dK []):=
 ⟨zero_le _,beq_eq_false_iff_ne.mpr (Ne.symm (ne_of_lt hb)),[],.nil,Heap.DictOf.new h⟩
def cDZ:TE:=λ_ H Q=>∀p,H p=none->Q (.ref p) (upd H p (.dK []))
section
theorem KS:PE X (.Dict [] [] pos) cDZ:=λb s σ H Q I h=>
 wpAny_Dict_empty ⟨.ref s.heap.objs.size,_,I.laid (a:=s.heap.objs.size) (o:=.dK []) (t':=s.toks) (λ_ _ q=>gZ _ q) (le_refl _) (LM s.heap I.big),rfl,h _ (I.hok.fresh (le_refl _))⟩
end
def OB:List (TE×TE)->St->Hp->(List (V×V)->Hp->Prop)->Prop
 | [],_,H,Q=>Q [] H
 |(tk,tv)::r,σ,H,Q=>tk σ H λx H1=>tv σ H1 λy H2=>OB r σ H2 λps H3=>Q ((x,y)::ps) H3
abbrev VV:List (V×V)->List (Value×Value)->Prop:=Paired λp q=>RelV p.1 q.1/\RelV p.2 q.2
def PPs(X:Cx)(pos:Pos)(keys:List (Option Expr))(values:List Expr)(trs:List (TE×TE)):Prop:=
 ∀(N:List (Addr×Obj)) (s:Shared) (σ:St) (H:Hp) (Q:List (V×V)->Hp->Prop),Inv X N σ H s->OB trs σ H Q->
  wpAny (model X.prog X.w) X.A (evalPairs (pairTrees keys values X.env pos)) (λvs s'=>∃ps H',Inv X N σ H' s'/\VV ps vs/\Q ps H') X.xe s
theorem a1Z:PPs X pos [] [] []:=λa s σ H Q I h=>pairTrees_nil_walk ⟨[],H,I,.nil,h⟩
theorem ZS{tk:TE}(hk:PE X k tk)(hv:PE X v tv)(hr:PPs X pos ks vs trs):
  PPs X pos (some k::ks) (v::vs) ((tk,tv)::trs):=λa s σ H Q I h=>
 pairTrees_cons_walk (thn (hk a s σ H _ I h) λu s1 ⟨x,H1,I1,rx,q1⟩=>thn (hv a s1 σ H1 _ I1 q1) λw2 s2 ⟨y,H2,I2,ry,q2⟩=>
  thn (hr a s2 σ H2 _ I2 q2) λws s3 ⟨ps,H3,I3,b,q3⟩=>⟨(x,y)::ps,H3,I3,.cons ⟨rx,ry⟩ b,q3⟩)
def D3(kvs more:List (Key×V)):List (Key×V):=more.foldl (λacc kv=>N6 acc kv.1 kv.2) kvs
theorem KV.merge:∀ {more:List (Key×V)} {rs:List (Key×Value)} {kvs:List (Key×V)} {vs:List (Key×Value)},KV more rs->KV kvs vs->KV (D3 kvs more) (merged vs rs):=by
 intro more rs kvs vs r;unfold KV at r;induction r generalizing kvs vs with
 |nil=>intro q;exact q
 | @cons p q ps qs h t ih=>
  intro r0;have e:KV (N6 kvs p.1 p.2) (stored vs q.1 q.2):=by
   have:=r0.put p.1 h.2;rw[<-h.1];exact this
  exact ih e
theorem P2:∀(more kvs:List (Key×V)),(D3 kvs more).length<=kvs.length+more.length
 | [],kvs=>by show kvs.length<=kvs.length+0;omega
 |p::r,kvs=>by
  have h1:=P2 r (N6 kvs p.1 p.2);have h2:=K3 kvs p.1 p.2;show(D3 (N6 kvs p.1 p.2) r).length<=_;rw[length_cons];omega
theorem EV:∀ {kvs:List (Key×V)} {ws:List (Value×Value)},VV (kvs.map λkv=>(kV kv.1,kv.2)) ws->∃rs,Carries (E3 P w) ws rs/\KV kvs rs
 | [],_,r=>by rw[map_nil]at r;cases r;exact⟨[],True.intro,.nil⟩
 |p::kvs,_,r=>by
  rw[map_cons]at r;cases r with
  | @cons a b as bs h t=>
   obtain⟨rs,c,q⟩:=EV (P:=P) (w:=w) t;obtain⟨b1,b2⟩:=b;exact⟨(p.1,b2)::rs,⟨BR h.1,rfl,c⟩,.cons ⟨rfl,h.2⟩ q⟩
def ewZ(trs:List (TE×TE)):TE:=fun σ H Q=>∀p,H p=none->OB trs σ (upd H p (.dK [])) λps H2=>H2 p=some (.dK [])/\∃kvs:List (Key×V),ps=kvs.map (λkv=>(kV kv.1,kv.2))/\kvs.length<=15/\Q (.ref p) (upd H2 p (.dK (D3 [] kvs)))
theorem aRZ(h:PPs X pos keys values trs)(hall:keys.all (·.isSome)=true)(hl:keys.length=values.length)(h0:keys≠ [])
  (h15:keys.length<=15):PE X (.Dict keys values pos) (ewZ trs):=by
 intro b s σ H Q I q;have hn:=I.hok.fresh (le_refl s.heap.objs.size);have I1:=I.laid (a:=s.heap.objs.size) (o:=.dK []) (h':=s.heap.push {cls:=.type "dict",data:=.dict #[]}) (t':=s.toks) (λ_ _ q=>gZ _ q) (le_refl _) (LM s.heap I.big);refine wpAny_Dict_walk (knd:=E3 X.prog X.w) hall hl h0 h15 (thn (h b _ σ _ _ I1 (q _ hn)) λws s2 ⟨ps,H2,I2,g,e,d,ep,lk,q2⟩=> ?_);subst ep;obtain⟨rs,c,rk⟩:=EV (P:=X.prog) (w:=X.w) g;obtain⟨z,hd,i,r0,dd⟩:=bLZ I2.hok e;cases r0;refine⟨rs,c,dd,λh' f hs=>⟨.ref s.heap.objs.size,_, ?_,rfl,q2⟩⟩;have hz:(D3 [] d).length<=sizeLine:=by
  have h1:=P2 d [];rw[length_nil]at h1;rw[sizeLine_eq];omega
 have he:∃q,h'.get? s.heap.objs.size=some q:=let⟨q,_,_,hq,_⟩:=f;⟨q,hq⟩;exact HP I2 (by rw[e];exact True.intro) hs he (NO hz hd (rk.merge .nil) f)
structure M2 (X:Cx) (o:Expr) (m:Str) (apos:Pos) (e f:Expr) (cpos:Pos):Prop where
 qB:attributeBase o m X.env (eval o X.env)=eval o X.env
 few:((backTo cpos (starEach [e,f] X.env)).all (λx=> !x.1)&&(backToKw cpos (keywordEach [] X.env)).all (λx=>x.1.isSome)
  &&decide (([e,f]:List Expr).length+([]:List Keyword).length+(if([]:List Keyword).isEmpty then 0 else 1)<30))=true
 line:(apos.endLine==cpos.line)=true
 trees:backTo cpos (starEach [e,f] X.env)=[(false,eval e X.env),(false,eval f X.env)]
def IsD(H:Hp)(a:Addr):Prop:=(∃kvs,Rd H a (.dK kvs))\/∃kvs,Rd H a (.dT kvs)
theorem cWZ{H:Hp}(I:Inv X N σ H s)(d:IsD H a):
  s.TypeIs (.ref a) "dict"/\(∀b,Value.ref a=.ref b->∃ob,s.heap.get? b=some ob/\ob.dict=none)/\(a==sysModules)=false:=by
 rcases d with⟨c,e⟩|⟨c,e⟩
 ·obtain⟨_,hd,vs,_,dd⟩:=EI I.hok e;refine⟨dd.typeIs,λb q=> ?_,hd⟩;cases q;obtain⟨ob,_,_,h1,h2,_⟩:=dd;exact⟨ob,h1,h2.2.1⟩
 ·obtain⟨_,hd,xs,_,dd⟩:=DS I.hok e;refine⟨dd.typeIs,λb q=> ?_,hd⟩;cases q;obtain⟨ob,_,_,h1,h2,_⟩:=dd;exact⟨ob,h1,h2.2.1⟩
section
theorem cKZ{H:Hp}{A:Around}{E:Value->Shared->Prop}{Q:Value->Shared->Prop}(hu:A.units+1<cLine)(I:Inv X N σ H s)(g:DGet H a y o)(ry:RelV y u)(rd:RelV d r)(h:∀w' s',Inv X N σ H s'->RelV (o.getD d) w'->Q w' s'):
  wpAny (model X.prog X.w) A (call (.builtin "dict.get") [.ref a,u,r]) Q E s:=by
 rcases g with⟨f,k,e,ey,l⟩|⟨f,k,b,e,ey,eb,l⟩
 ·subst ey;obtain⟨z,hd,vs,c,dd⟩:=EI I.hok e;refine call_meetsIn PySem.F.slot_dict_get dd.typeIs PySem.F.entry_dict_get (PySem.F.args_dict_get_3 _ _ _) (meets_dict_get_default (E3 X.prog X.w) a (BR ry) hd r) ⟨_,dd.mapOf,h _ _ (I.tok _) ?_⟩;rw[l];exact(c.val k).getD rd
 ·subst ey;cases(show u=Value.ref b from ry);obtain⟨z,hd,xs,c,dd⟩:=DS I.hok e;refine call_meetsIn PySem.F.slot_dict_get dd.typeIs PySem.F.entry_dict_get (PySem.F.args_dict_get_3 _ _ _) (meetsH_dict_get_default (tupleKind (E3 X.prog X.w)) a b hd r) ⟨tupleKind_room_in1 hu,k,xs,BA I.hok eb,dd,h _ _ (I.tok _) ?_⟩;rw[l];exact(c.val k).getD rd
end
def dkZ(td ty tx:TE):TE:=fun σ H Q=>td σ H λx H1=>∃a,x=.ref a/\IsD H1 a/\ty σ H1 λy H2=>tx σ H2 λz H3=>∃o,DGet H3 a y o/\Q (o.getD z) H3
section
theorem WR{X:Cx}{ty:TE}(hu:X.A.units+1<cLine)(ho:PE X o td)(he:PE X e ty)(hf:PE X f tx)(m:M2 X o "get" apos e f cpos):PE X (.Call (.Attribute o "get" apos) [e,f] [] cpos) (dkZ td ty tx):=by
 intro b s σ H Q I h;refine wpAny_Call_method m.qB m.few m.line PySem.F.plainAttrs_dict PySem.F.slot_dict_get PySem.F.type_dict_get (thn (ho b s σ H _ I h) λu s1 ⟨x,H1,I1,rx,a,ex,d,q1⟩=> ?_);subst ex;obtain rfl:u=Value.ref a:=rx;obtain⟨t1,t2,_⟩:=cWZ I1 d;refine⟨t1,t2, ?_⟩;rw[m.trees];refine Calls.callWith_builtin rfl (Calls.evalArgs_plain (Calls.spliced_cons (thn (he b s1 σ H1 _ I1 q1) λiv s2 ⟨y,H2,I2,ry,q2⟩=>
  Calls.spliced_cons (thn (hf b s2 σ H2 _ I2 q2) λfv s3 ⟨z,H3,I3,rz,ov,g,q3⟩=>Calls.spliced_nil ?_))))
 exact cKZ hu I3 g ry rz λw' s4 I4 c=>⟨_,H3,I4,c,q3⟩
def fiZ:R2:=λx y H Q=>∃a o,y=.ref a/\DGet H a x o/\Q (.bl o.isSome) H
def aLZ:R2:=λx y H Q=>∃a o,y=.ref a/\DGet H a x o/\Q (.bl (!o.isSome)) H
theorem d8Z{X:Cx}(hu:X.A.units+64<cLine):OpR X (compareOp .In) fiZ:=by
 intro b s σ H x y v u Q I rx ry h;obtain⟨a,o,rfl,g,q⟩:=h;cases ry;exact fgZ (by omega) I g rx λs' I'=>⟨.bl o.isSome,H,I',rfl,q⟩
theorem IB{X:Cx}(hu:X.A.units+64<cLine):OpR X (compareOp .NotIn) aLZ:=by
 intro b s σ H x y v u Q I rx ry h;obtain⟨a,o,rfl,g,q⟩:=h;cases ry;exact auZ (by omega) I g rx λs' I'=>⟨.bl (!o.isSome),H,I',rfl,q⟩
def eKZ:V->V->V->Hp->(Hp->Prop)->Prop:=λo i v H Q=>∃a H',o=.ref a/\DPut H a i v H'/\Q H'
theorem Y7{X:Cx}(hu:X.A.units+64<cLine):ccZ X eKZ:=by
 intro b s σ H o i v ov iv u Q I ro ri rv h;obtain⟨a,H',rfl,g,q⟩:=h;cases ro;exact UK (by omega) I g ri rv λs' I'=>⟨H',I',q⟩
end
end _L
namespace PySem
namespace ZT
set_option maxHeartbeats 2000000 in
theorem JX(t:Bool)(l:Addr)(xs:Array Value):
  Meets (Builtin.«enumerate.__new__» ⟨[.type "enumerate",.ref l],[]⟩) (λ_ R s=>IsSq t s.heap l xs/\
   R (.ok (.ret (.ref (s.heap.objs.size+1)))) {s with heap:=(s.heap.push (itO t l)).push {cls:=.type "enumerate",data:=.fields #[.none,.bool false,.ref s.heap.objs.size,rawInt 0,.none,.none]}}):=by
 refine .of_wp λa w A R s h=> ?_;obtain⟨hp,g,d,tk,os⟩:=s;obtain⟨hl,h⟩:=h;have b:=sub_enumerate;have hz:(hp.push (itO t l)).objs.size=hp.objs.size+1:=size_push ..;have h2:R (.ok (.ret (.ref (hp.objs.size+1)))) ⟨(hp.push (itO t l)).push {cls:=.type "enumerate",data:=.fields #[.none,.bool false,.ref hp.objs.size,rawInt 0,.none,.none]},g,d,tk,os⟩:=h;rw[<-hz]at h2;cases t
 ·have hL:Heap.IsList (Shared.heap ⟨hp,g,d,tk,os⟩) l xs:=hl
  wp_walk using wpAny_pyIter_list hL
  refine wpAny_stack_any λst=>pZ ?_;split
  ·rename_i c _ _ _ _ _;cases(c==Value.type "enumerate")
   all_goals
    wp_walk using wpAny_pyIter_list hL
    exact⟨_,rfl,h2⟩
  ·wp_walk using wpAny_pyIter_list hL
   exact⟨_,rfl,h2⟩
 ·have hL:Heap.IsTuple (Shared.heap ⟨hp,g,d,tk,os⟩) l xs:=hl
  wp_walk using wpAny_pyIter_tuple hL
  refine wpAny_stack_any λst=>pZ ?_;split
  ·rename_i c _ _ _ _ _;cases(c==Value.type "enumerate")
   all_goals
    wp_walk using wpAny_pyIter_tuple hL
    exact⟨_,rfl,h2⟩
  ·wp_walk using wpAny_pyIter_tuple hL
   exact⟨_,rfl,h2⟩
section
theorem call_enum0{A:Around}{E:Value->Shared->Prop}{s:Shared}{Q:Value->Shared->Prop}(hL:IsSq t s.heap l xs)
  (h:∀h',IsEnum h' (s.heap.objs.size+1) s.heap.objs.size 0 .none->IsIt t h' s.heap.objs.size l 0->(∀b o,s.heap.get? b=some o->h'.get? b=some o)->Q (.ref (s.heap.objs.size+1)) {s with heap:=h'}):
  wpAny (model prog w) A (call (.type "enumerate") [.ref l]) Q E s:=by
 refine callType_new F.called_enumerate (by decide) (F.typeCall_enumerate_1 _) (F.newCall_enumerate_1 _) (λa=>F.args_object_init_2 a _) F.entry_enumerate_new
  (JX t l xs) ⟨hL, ?_⟩
 have hz:(s.heap.push (itO t l)).objs.size=s.heap.objs.size+1:=size_push ..;have he:IsEnum ((s.heap.push (itO t l)).push {cls:=.type "enumerate",data:=.fields #[.none,.bool false,.ref s.heap.objs.size,rawInt 0,.none,.none]})
   (s.heap.objs.size+1) s.heap.objs.size 0 .none:=by rw[<-hz];exact get?_push_size _ rfl
 have g1:((s.heap.push (itO t l)).push {cls:=.type "enumerate",data:=.fields #[.none,.bool false,.ref s.heap.objs.size,rawInt 0,.none,.none]}).get? s.heap.objs.size=some (itO t l):=gZ _ (get?_push_size _ (by cases t<;>rfl));refine⟨⟨_,he,rfl⟩,h _ he ?_ λb o x=>gZ _ (gZ _ x)⟩;cases t
 ·exact⟨_,g1,rfl,rfl⟩
 ·exact⟨_,g1,rfl,rfl⟩
theorem YG{A:Around}{E:Value->Shared->Prop}{s:Shared}{x:Value}{Q:Value->Shared->Prop}(hE:IsEnum s.heap e c j o0)(hC:IsIt t s.heap c l i)(hL:IsSq t s.heap l its)(hX:its[i]? =some x)(ne:e≠c)
  (q:∀h',IsEnumOut h' e c (j+1) x s.heap.objs.size->IsIt t h' c l (i+1)->h'.get? s.heap.objs.size=some {cls:=.type "tuple",data:=.seq #[.int j s.toks,x]}->
   (∀b o,b≠e->b≠c->s.heap.get? b=some o->h'.get? b=some o)->Q (.ref s.heap.objs.size) {s with heap:=h',toks:=s.toks+1}):
  wpAny (model prog w) A (Builtin.«enumerate.__next__» ⟨[.ref e],[]⟩) (λfin s'=>∃v,fin=.done (.ret v)/\Q v s') E s:=by
 obtain⟨h0,g,d,tk,os⟩:=s;refine bZ (m:=field (.ref e) 2) (wpAny_field hE rfl (x:=.ref c) rfl (bZ (SK hC hL hX λh1 c1 (b1:Heap.SameBut c h0 h1)=> ?_)));have e1:IsEnum h1 e c j o0:=(b1.2 e ne).trans hE;refine bZ (m:=field (.ref e) 3) (wpAny_field e1 rfl (x:=rawInt j) rfl ?_);refine bZ (m:=field (.ref e) 4) (wpAny_field e1 rfl (x:=.none) rfl ?_);refine bZ (m:=mkInt j) (wpAny_mkInt ?_);refine bZ (m:=setField (.ref e) 3 (rawInt (j+1))) (wpAny_setField_rec e1 (by simp) λh2 (e2:IsEnum h2 e c (j+1) o0) (b2:Heap.SameBut e h1 h2)=> ?_);refine bZ (m:=setField (.ref e) 4 .none) (wpAny_setField_rec e2 (by simp) λh3 (e3:IsEnum h3 e c (j+1) o0) (b3:Heap.SameBut e h2 h3)=> ?_);refine bZ (m:=newTuple [.int j tk,x]) (wpAny_newTuple ?_);have zz:h3.objs.size=h0.objs.size:=by rw[b3.1,b2.1,b1.1]
 have lt:e<h0.objs.size:=lt_size hE;have e4:IsEnum (h3.push {cls:=.type "tuple",data:=.seq #[.int j tk,x]}) e c (j+1) o0:=gZ _ e3;have t4:(h3.push {cls:=.type "tuple",data:=.seq #[.int j tk,x]}).get? h0.objs.size=some {cls:=.type "tuple",data:=.seq #[.int j tk,x]}:=by rw[<-zz];exact get?_push_size _ rfl
 have k4:∀b o,b≠e->b≠c->h0.get? b=some o->(h3.push {cls:=.type "tuple",data:=.seq #[.int j tk,x]}).get? b=some o:=λb o n1 n2 q=>
  gZ _ (b3.extBut b o n1 (b2.extBut b o n1 (b1.extBut b o n2 q)))
 have c4:IsIt t (h3.push {cls:=.type "tuple",data:=.seq #[.int j tk,x]}) c l (i+1):=
  ((c1.extBut b2.extBut (Ne.symm ne)).extBut b3.extBut (Ne.symm ne)).at λo ho=>gZ _ ho
 rw[show(⟨h3,g,d,tk+1,os⟩:Shared).heap.objs.size=h0.objs.size from zz];generalize h3.push {cls:=.type "tuple",data:=.seq #[.int j tk,x]}=h4 at e4 t4 k4 c4;clear e3 b3 e2 b2 e1 b1 c1 zz;refine bZ (m:=Builtin.SmallTypes.ownedTupleIsFree (.ref e)) ?_;unfold Builtin.SmallTypes.ownedTupleIsFree;refine bZ (wpAny_field e4 rfl (x:=.none) rfl (pZ ?_));simp only[if_true];refine bZ (wpAny_rule (bZ (wpAny_field e4 rfl (x:=o0) rfl (bZ (wpAny_setField_rec e4 (by simp) λh5 (e5:IsEnum h5 e c (j+1) x) (b5:Heap.SameBut e h4 h5)=> ?_)))));refine bZ (m:=Builtin.SmallTypes.ownedTupleHandOut (.ref e) (.ref h0.objs.size)) ?_;unfold Builtin.SmallTypes.ownedTupleHandOut;refine bZ (wpAny_setField_rec e5 (by simp) λh6 (e6:IsEnumOut h6 e c (j+1) x h0.objs.size) (b6:Heap.SameBut e h5 h6)=> ?_);refine wpAny_setField_rec e6 (by simp) λh7 (e7:IsEnumOut h7 e c (j+1) x h0.objs.size) (b7:Heap.SameBut e h6 h7)=> ?_;refine bZ (wpAny_letGo (pZ ⟨_,rfl,q h7 e7 (((c4.extBut b5.extBut (Ne.symm ne)).extBut b6.extBut (Ne.symm ne)).extBut b7.extBut (Ne.symm ne)) ?_ ?_⟩))
 ·exact b7.extBut _ _ (Nat.ne_of_gt lt) (b6.extBut _ _ (Nat.ne_of_gt lt) (b5.extBut _ _ (Nat.ne_of_gt lt) t4))
 ·exact λb o n1 n2 q=>b7.extBut b o n1 (b6.extBut b o n1 (b5.extBut b o n1 (k4 b o n1 n2 q)))
theorem enumGoes{s:Shared}{x:Value}{Q:Option Value->Shared->Prop}(hE:IsEnum s.heap e c j o0)(hC:IsIt t s.heap c l i)(hL:IsSq t s.heap l its)(hX:its[i]? =some x)(ne:e≠c)
  (q:∀h',IsEnumOut h' e c (j+1) x s.heap.objs.size->IsIt t h' c l (i+1)->h'.get? s.heap.objs.size=some {cls:=.type "tuple",data:=.seq #[.int j s.toks,x]}->
   (∀b o,b≠e->b≠c->s.heap.get? b=some o->h'.get? b=some o)->Q (some (.ref s.heap.objs.size)) {s with heap:=h',toks:=s.toks+1}):wpAny (model prog w) A (pyNext (.ref e)) Q E s:=by
 have ty:s.TypeIs (.ref e) "enumerate":=⟨_,hE,rfl⟩;unfold pyNext;exact bZ (wpAny_attempt (wpAny_callSpecial?_slot (name:=Str.ofString "__next__") ty F.slot_enumerate_next (wpAny_call_entry F.slot_enumerate_next ty F.entry_enumerate_next
   (YG hE hC hL hX ne λh' a b c k=>pZ (q h' a b c k)) (F.args_enumerate_next_1 _))))
theorem enumEnds{A:Around}{s:Shared}{Q:Option Value->Shared->Prop}(hh:A.handled=none)(hE:IsEnum s.heap e c j o0)(hC:IsIt t s.heap c l i)(hL:IsSq t s.heap l its)(hX:its[i]? =none)
  (q:∀h',Heap.ExtBut c s.heap h'->Q none {s with heap:=h'}):wpAny (model prog w) A (pyNext (.ref e)) Q E s:=by
 have ty:s.TypeIs (.ref e) "enumerate":=⟨_,hE,rfl⟩;unfold pyNext;refine bZ (wpAny_attempt (wpAny_callSpecial?_slot (name:=Str.ofString "__next__") ty F.slot_enumerate_next (wpAny_call_entry F.slot_enumerate_next ty F.entry_enumerate_next ?_ (F.args_enumerate_next_1 _))));refine bZ (m:=field (.ref e) 2) (wpAny_field hE rfl (x:=.ref c) rfl (bZ (YT hh hC hL hX λh' x d a=> ?_)));obtain⟨o,ho,hc⟩:=a;exact bZ (wpAny_isInstance (T:="StopIteration") (b:=true) ⟨o,ho,hc⟩ isSubtype_stop (pZ (q _ d)))
end
end ZT
end PySem
namespace _L
open PySem PySem.Spec PyProof.Rows
def SqX(t:Bool)(Z:FZ)(H:Hp)(a:Addr)(xs:List V):Prop:=if t then SqT Z H a xs else SqL Z H a xs
section
theorem Inv.sqx{H:Hp}(I:Inv X N σ H s)(h:SqX t X.K H a xs):∃its:List Value,Vals xs its/\ZT.IsSq t s.heap a its.toArray/\xs.length<=sizeLine:=by
 cases t
 ·obtain⟨its,rv,p,hz⟩:=I.list h;exact⟨its,rv,p.isList,hz⟩
 ·obtain⟨its,rv,p,hz⟩:=I.tuple h;exact⟨its,rv,p,hz⟩
theorem Inv.sqx_inj{H:Hp}(I:Inv X N σ H s)(h:SqX t X.K H a xs)(h':SqX t X.K H a ys):xs=ys:=by
 cases t
 ·exact I.list_inj h h'
 ·exact I.tuple_inj h h'
end
def Itx(t:Bool)(Z:FZ)(l:Addr):It:=
 ⟨λi H=>∃xs x,SqX t Z H l xs/\xs[i]? =some x,
  λi H v H'=>∃T x,(∀xs,SqX t Z H l xs->xs[i]? =some x)/\H T=none/\v=.ref T/\H'=upd H T (.tup [.int (i:Nat),x]),
  λi H=>∃xs,SqX t Z H l xs/\xs.length<=i⟩
def EnX(t:Bool)(e c l:Addr)(i:Nat)(h:Heap):Prop:=(∃o0,IsEnum h e c (i:Nat) o0)/\ZT.IsIt t h c l i
theorem VT(x:ZT.IsIt t h c l i):∃o,h.get? c=some o/\∀v,o.data≠ .cell v:=by
 cases t
 ·obtain⟨o,e,c,d⟩:=(show h.IsListIter c l i from x);exact⟨o,e,λv q=>by rw[d]at q;cases q⟩
 ·obtain⟨o,e,c,d⟩:=(show h.IsTupleIter c l i from x);exact⟨o,e,λv q=>by rw[d]at q;cases q⟩
theorem NW{e c:Addr}(ne:e≠c):Turn P w Z (.Tuple elts kt pt) (Itx t Z l) [e,c] e (EnX t e c l) where
 mem:=by simp
 obj:=λi h st b hb=>by
  obtain⟨⟨o0,h1⟩,h2⟩:=st;simp only[mem_cons,not_mem_nil,or_false]at hb;rcases hb with rfl|rfl
  ·exact⟨_,h1,λv q=>by cases q⟩
  ·exact VT h2
 keep:=λi h h' st k=>by
  obtain⟨⟨o0,h1⟩,h2⟩:=st;exact⟨⟨o0,k e (by simp) _ h1⟩,h2.at λo q=>k c (by simp) o q⟩
 item:=by
  intro X hP hw hK hc i a s σ H E I hf st hg;subst hP hw hK;obtain⟨xs,x,q1,hx⟩:=hg;obtain⟨⟨o0,h1⟩,h2⟩:=st;obtain⟨g,rv,p,m⟩:=I.sqx q1;obtain⟨u,hu,ru⟩:=rv.get hx;refine ZT.enumGoes h1 h2 p (x:=u) (by simpa using hu) ne λh' a1 a2 a3 hk=> ?_;have r:H s.heap.objs.size=none:=I.hok.fresh (le_refl _);have J1:Inv X a σ (upd H s.heap.objs.size (.tup [.int (i:Nat),x])) {s with heap:=s.heap.push {cls:=.type "tuple",data:=.seq #[.int (i:Nat) s.toks,u]},toks:=s.toks+1}:=
   I.laid (t':=s.toks+1) (λb o e=>gZ _ e) (le_refl _) (show ObjOk X.prog X.w _ _ _ (.tup [.int (i:Nat),x])from⟨(by show 2<=sizeLine;decide),[.int (i:Nat) s.toks,u],.cons ⟨_,rfl⟩ (.cons ru .nil),IsTup.new _ _⟩)
  have lt:∀b∈ [e,c],b≠s.heap.objs.size:=λb hb=>by
   simp only[mem_cons,not_mem_nil,or_false]at hb;rcases hb with rfl|rfl
   ·exact ne_of_lt (lt_size h1)
   ·obtain⟨o,e⟩:=h2.live;exact ne_of_lt (lt_size e)
  have d:∀b∈ [e,c],FG X a (upd H s.heap.objs.size (.tup [.int (i:Nat),x])) b:=λb hb=>⟨by rw[B5 (lt b hb)];exact(hf b hb).1,(hf b hb).2⟩;have J2:Inv X a σ (upd H s.heap.objs.size (.tup [.int (i:Nat),x])) {s with heap:=h',toks:=s.toks+1}:=Inv.turnedL (s:={s with heap:=s.heap.push {cls:=.type "tuple",data:=.seq #[.int (i:Nat) s.toks,u]},toks:=s.toks+1}) (t':=s.toks+1) (h':=h') (ch:=[e,c]) J1 (λb o hb q=>by
   rcases Heap.get?_push_cases q with⟨rfl,rfl⟩|q'
   ·exact a3
   ·simp only[mem_cons,not_mem_nil,or_false,not_or]at hb;exact hk b o hb.1 hb.2 q') d
  refine⟨.ref s.heap.objs.size,rfl, ?_⟩;refine wpAny_letOwnedTupleGo_enum (s:={s with heap:=h',toks:=s.toks+1}) a1 λA j f=> ?_;obtain⟨g0,g1,g2,g3,g4,g5⟩:=d e (by simp);refine⟨.ref s.heap.objs.size,_,J2.turned (t':=s.toks+1) (λb o hb q=>(f.2 b hb).trans q) g0 g1 g3 g4 g5,rfl,⟨s.heap.objs.size,x,λy e1=> ?_,r,rfl,rfl⟩, ?_,λb hb=>(d b hb).1⟩
  ·rw[I.sqx_inj e1 q1];exact hx
  ·refine⟨⟨u, ?_⟩,a2.extBut f.extBut (Ne.symm ne)⟩;have ek:((i+1:Nat):Int)=(i:Nat)+1:=by omega
   rw[ek];exact j
 done:=by
  intro X hP hw hK hc i a s σ H E I hf st hg;subst hP hw hK;obtain⟨xs,q1,n⟩:=hg;obtain⟨⟨o0,h1⟩,h2⟩:=st;obtain⟨g,rv,p,m⟩:=I.sqx q1;have z:=rv.length;refine ZT.enumEnds (I.ok.hd hc) h1 h2 p (by simp;omega) λh' hk=>⟨rfl,I.turnedL (t':=s.toks) (ch:=[e,c]) (λb o hb q=> ?_) hf⟩;simp only[mem_cons,not_mem_nil,or_false,not_or]at hb;exact hk b o hb.2 q
 self:=λ_ _ _ _ _ st h=>wpAny_pyIter_enum st.1.choose_spec h
section
def diZ(t:Bool)(Z:FZ)(ta:TA):TI:=fun σ H R=>ta σ H λvs H1=>∃(l:Addr) (xs:List V),vs=[.ref l]/\SqX t Z H1 l xs/\R (Itx t Z l) H1
theorem KL{Z:FZ}(t:Bool){a:Expr}(hg:Gl X "enumerate")(hm:X.mg "enumerate"=none)(ha:PA X [a] ta)(hK:X.K=Z:=by rfl)(hs:starEach [a] X.env=[(false,eval a X.env)]:=by rfl):
  PI X (.Tuple elts kt pt) (.Call (.Name "enumerate" p) [a] [] pos) (diZ t Z ta):=by
 subst hK;intro d s σ H R I h;refine Call_ (U9 I hg hm HI (callWith_type1 (thn (ha pos d s σ H _ I h) λus s1 ⟨vs,H1,I1,r1,q1⟩=> ?_) hs rfl));obtain⟨l,xs,rfl,hS,q⟩:=q1;obtain⟨u,rfl,ru⟩:=V5 r1;cases ru;obtain⟨g,rv,pl,i⟩:=I1.sqx hS;refine ZT.call_enum0 pl λh' a1 a2 c=>wpAny_pyIter_enum a1 ?_;have lt:s1.heap.objs.size≠s1.heap.objs.size+1:=by omega
 refine⟨s1.heap.objs.size+1,[s1.heap.objs.size+1,s1.heap.objs.size],_,_,H1,rfl,I1.kept (t':=s1.toks) c,NW (t:=t) (Ne.symm lt),⟨⟨.none,a1⟩,a2⟩,λb f=> ?_,q⟩;have e:s1.heap.objs.size<=b:=by
  simp only[mem_cons,not_mem_nil,or_false]at f;rcases f with rfl|rfl<;>omega
 exact I1.fpOk e (I1.hok.fresh e)
end
theorem UH{xs:List V}{g:TG}{tb:TS}{D:Ends}{σ:St}{H:Hp}(Pv:Nat->St->Hp->Prop)(h0:Pv 0 σ H)(hl:∀i σ H,i<=xs.length->Pv i σ H->SqX t Z H l xs)
  (hs:∀i x σ H T,xs[i]? =some x->Pv i σ H->H T=none->g (.ref T) σ (upd H T (.tup [.int (i:Nat),x])) fun σ2 H2=>tb {D with nx:=Pv (i+1),ct:=Pv (i+1),bk:=D.nx} σ2 H2)(hd:∀σ H,Pv xs.length σ H->D.nx σ H):
  ∃W:Nat->Nat->St->Hp->Prop,(∃m,W 0 m σ H)/\∀i m σ H,W i m σ H->
   ((Itx t Z l).stop i H/\D.nx σ H)\/((Itx t Z l).go i H/\∃N:St->Hp->Prop,(∀σ' H',N σ' H'->∃m',m'<m/\W (i+1) m' σ' H')/\∀x H',(Itx t Z l).yld i H x H'->g x σ H' fun σ2 H2=>tb {D with nx:=N,ct:=N,bk:=D.nx} σ2 H2):=by
 refine⟨λi m σ H=>m=xs.length - i/\i<=xs.length/\Pv i σ H,⟨_,rfl,zero_le _,h0⟩, ?_⟩;rintro i m σ H ⟨rfl,hi,p⟩;have hS:=hl i σ H hi p;by_cases a:i<xs.length
 ·refine .inr ⟨⟨xs,xs[i],hS,List.getElem?_eq_getElem a⟩,Pv (i+1),fun σ' H' p'=>⟨xs.length - (i+1),by omega,rfl,a,p'⟩,λx H' y=> ?_⟩;obtain⟨T,x,hx,hT,rfl,rfl⟩:=y;exact hs i x σ H T (hx xs hS) p hT
 ·have e:i=xs.length:=by omega
  subst e;exact .inl ⟨⟨xs,hS,le_refl _⟩,hd σ H p⟩
theorem OY{t:Bool}{Z:FZ}{l:Addr}{xs:List V}{caps:List Nat}{tt:TT}{te:TE}{σ:St}{H:Hp}{R:List V->Hp->Prop}(Pv:Nat->List V->Hp->Prop)(h0:Pv 0 [] H)
  (hl:∀i zs H,i<=xs.length->Pv i zs H->SqX t Z H l xs/\zs.length<=sizeLine)
  (hs:∀i x zs H T,xs[i]? =some x->Pv i zs H->H T=none->tt (capσ2 caps σ (some (.int (i:Nat))) (some x)) (upd H T (.tup [.int (i:Nat),x])) λb H2=>if b=true then te (capσ2 caps σ (some (.int (i:Nat))) (some x)) H2 λz H3=>Pv (i+1) (zs++ [z]) H3 else Pv (i+1) zs H2)
  (hd:∀zs H,Pv xs.length zs H->R zs H):
  ∃W:Nat->Nat->List V->Hp->Prop,(∃m,W 0 m [] H)/\∀i m zs H,W i m zs H->zs.length<=sizeLine/\(((Itx t Z l).stop i H/\R zs H)\/((Itx t Z l).go i H/\∃N:List V->Hp->Prop,(∀ys' H',N ys' H'->∃m',m'<m/\W (i+1) m' ys' H')/\∀v H',(Itx t Z l).yld i H v H'->
   ∃a v1 v2,v=.ref a/\SqT Z H' a [v1,v2]/\tt (capσ2 caps σ (some v1) (some v2)) H' λb H2=>if b=true then te (capσ2 caps σ (some v1) (some v2)) H2 λy H3=>N (zs++ [y]) H3 else N zs H2)):=by
 refine⟨λi m zs H=>m=xs.length - i/\i<=xs.length/\Pv i zs H,⟨xs.length,by simp,zero_le _,h0⟩, ?_⟩;rintro i m zs H ⟨rfl,hi,p⟩;obtain⟨q1,hz⟩:=hl i zs H hi p;refine⟨hz, ?_⟩;by_cases c:i<xs.length
 ·refine .inr ⟨⟨xs,xs[i],q1,by simp[c]⟩,Pv (i+1),λys' H' p'=>⟨xs.length - (i+1),by omega,rfl,c,p'⟩,λv H' y=> ?_⟩;obtain⟨T,x,y1,hT,rfl,rfl⟩:=y;exact⟨T,.int (i:Nat),x,rfl,SqT.of A4,hs i x zs H T (y1 xs q1) p hT⟩
 ·have e:i=xs.length:=by omega
  subst e;exact .inl ⟨⟨xs,q1,le_refl _⟩,hd zs H p⟩
section
end
end _L
namespace PySem
open PyProof.Rows _L
namespace F
end F
section
end
end PySem
namespace _L
open PySem PySem.Spec PyProof.Rows
section
end
end _L
namespace PySem
open PyProof.Rows
namespace F
theorem list_no_keys:typeLookup (.type "list") (Str.ofString "keys")=pure none:=by rw[typeLookup_type,builtinLookup_eq_fast];kernel_rfl
theorem list_no_getattr:typeLookup (.type "list") (Str.ofString "__getattr__")=pure none:=by rw[typeLookup_type,builtinLookup_eq_fast];kernel_rfl
theorem sub_attrErr:isSubtype (.type "AttributeError") (.type "AttributeError")=pure true:=by rw[isSubtype_type];kernel_rfl
end F
section
theorem UF{A:Around}{E:Value->Shared->Prop}{s:Shared}{l:Addr}{sl:Array (Option Value)}{Q:Option Value->Shared->Prop}(hh:A.handled=none)(hl:s.heap.get? l=some {cls:=.type "list",data:=.seq xs k,slots:=sl})
  (q:∀h' tk,(∀b o,s.heap.get? b=some o->h'.get? b=some o)->Q none {s with heap:=h',toks:=tk}):
  wpAny (model prog w) A (getAttr? (.ref l) (Str.ofString "keys")) Q E s:=by
 have ty:s.TypeIs (.ref l) "list":=⟨_,hl,rfl⟩;have f:=list_getattribute;have g:=F.slot_list_getattribute.bind (.ref l);unfold getAttr?;refine bZ (m:=mkText (Str.ofString "keys")) ?_;unfold mkText
 repeat (any_goals (first|assumption|wp_step))
 refine codeAny_mono (codeAny_call_builtin (R:=wants (λ_ _=>False) (λe s'=>∃h' tk a,s.heap.NewAttrErr h' a (.ref l) (Str.ofString "keys")/\e=.ref a/\s'={s with heap:=h',toks:=tk})) F.slot_list_getattribute.plain am_entry_list_getattribute (F.slot_list_getattribute.check _ _ _ _ _ _ _ _ (show Shared.TypeIs {s with toks:=s.toks+1} (.ref l) "list"from⟨_,hl,rfl⟩) (F.args_list_getattribute_2 _ _)
  (meets_getattribute_miss_list l xs k sl (Str.ofString "keys") s.toks F.list_no_keys (by decide +kernel) (by decide +kernel) prog w A _ {s with toks:=s.toks+1} ⟨hl,hh,λh' tk e hn=>⟨h',tk,e,hn,rfl,rfl⟩⟩))) λr s' hr=> ?_
 rcases r with e|fl
 ·obtain⟨h',tk,a,hn,rfl,rfl⟩:=hr;obtain⟨t,u,ha⟩:=hn.there;have hT:Shared.TypeIs {s with heap:=h',toks:=tk} (.ref a) "AttributeError":=⟨_,ha,rfl⟩;have c:=F.sub_attrErr;have d:=F.list_no_getattr;have h:=q h' tk hn.keeps
  dsimp only
  repeat (any_goals (first|assumption|wp_step))
 cases fl<;>exact hr.elim
theorem OA{s:Shared}{key v:Value}{Q:List Value->Shared->Prop}(hp:s.heap.IsTuple p #[key,v])
  (q:Q [key,v] s):wpAny (model prog w) A (Builtin.Dict.pairItems (.ref p)) Q E s:=by
 obtain⟨o,ho,hc,n,hd⟩:=id hp;have ty:s.TypeIs (.ref p) "tuple":=⟨_,ho,hc⟩;unfold Builtin.Dict.pairItems;refine bZ (wpAny_typeOf ty ?_);rw[if_pos (by decide)];refine bZ (wpAny_seqItems ho hd (pZ q))
end
end PySem
namespace PySem
open PyProof.Rows
namespace F
theorem entry_dict_update_loop:entryFor table "dict.update.loop"=some Builtin.«dict.update.loop»:=by kernel_rfl
theorem plain_dict_update_loop:plainId "dict.update.loop"=true:=by decide +kernel
end F
section
def PairsAt{prog:Program}{w:World}{Z:Type}[DecidableEq Z](knd:KeyKind prog w Z)(h:Heap):List Value->List (Z×Value)->Prop
 | [],ps=>ps=[]
 |x::xs,ps=>∃p k key v r,x=.ref p/\h.IsTuple p #[key,v]/\knd.is k key=true/\ps=(k,v)::r/\PairsAt knd h xs r
theorem PairsAt.at{prog:Program}{w:World}{Z:Type}[DecidableEq Z]{knd:KeyKind prog w Z}{h h':Heap}(e:∀p o,h.get? p=some o->o.cls=.type "tuple"->h'.get? p=some o):∀ {xs:List Value} {ps:List (Z×Value)},PairsAt knd h xs ps->PairsAt knd h' xs ps
 | [],_,q=>q
 |x::xs,_,⟨p,k,key,v,r,h1,⟨o,ho,hc,h2⟩,h3,h4,h5⟩=>⟨p,k,key,v,r,h1,⟨o,e p o ho hc,hc,h2⟩,h3,h4,PairsAt.at e h5⟩
theorem KN{prog:Program}{w:World}{A:Around}{Z:Type}[DecidableEq Z]{knd:KeyKind prog w Z}{R:Result->Shared->Prop}(hh:A.handled=none){d it l:Addr}{its:Array Value}(n1:d≠it)(n2:d≠l)(n3:it≠l):
  ∀(xs:List Value) (ps:List (Z×Value)) (i:Nat) (s:Shared) (kvs:List (Z×Value)),its.toList.drop i=xs->s.heap.IsListIter it l i->s.heap.IsList l its->s.heap.DictOf knd d kvs->PairsAt knd s.heap xs ps->kvs.length+xs.length<=sizeLine->
   (∀h' tk,h'.DictOf knd d (merged kvs ps)->(∀b o,b≠d->b≠it->s.heap.get? b=some o->h'.get? b=some o)->R (.ok (.ret .none)) {s with heap:=h',toks:=tk})->
   codeAny (model prog w) A (.builtin "dict.update.loop" ⟨[.ref d,.ref it,rawInt i,.none],[]⟩) R s
 | [],ps,i,s,kvs,hx,hI,hL,hD,hP,hz,q=>by
  have B:ps=[]:=hP;subst B;have hn:its[i]? =none:=by
   rw[Array.getElem?_eq_none_iff];have:=congrArg List.length hx;rw[length_drop,length_nil]at this
   simpa using Nat.le_of_sub_eq_zero this
  refine codeAny_builtin F.entry_dict_update_loop ?_;rw[Around.under_plainId F.plain_dict_update_loop];unfold Builtin.«dict.update.loop»;refine bZ (wpAny_pyNext_list_end (A:=A.in1) hh hI hL hn λh' he=> ?_);have E:=q h' s.toks (by
   obtain⟨o,es,ep,ho,r⟩:=hD;exact⟨o,es,ep,he d o n1 ho,r⟩) (λb o hb f e=>he b o f e)
  repeat (any_goals (first|assumption|wp_step))
 |x::xs,ps,i,s,kvs,hx,hI,hL,hD,hP,hz,q=>by
  obtain⟨p,k,m,v,r,rfl,hp,hk,rfl,hr⟩:=hP;have hi:its[i]? =some (.ref p):=by
   have:(its.toList.drop i)[0]? =some (.ref p):=by rw[hx];rfl
   rw[List.getElem?_drop]at this
   simpa using this
  have n:its.toList.drop (i+1)=xs:=by
   rw[<-List.drop_drop,hx];rfl
  refine codeAny_builtin F.entry_dict_update_loop ?_;rw[Around.under_plainId F.plain_dict_update_loop];unfold Builtin.«dict.update.loop»;refine bZ (wpAny_pyNext_list_item (A:=A.in1) hI hL hi λh1 C a=> ?_);have h:h1.DictOf knd d kvs:=by
   obtain⟨o,es,ep,ho,r⟩:=hD;exact⟨o,es,ep,(a.2 d n1).trans ho,r⟩
  have g:∀p o,s.heap.get? p=some o->o.cls=.type "tuple"->p≠it:=λp o ho hc e=>by
   subst e;obtain⟨o2,e2,c2,_⟩:=hI;rw[ho]at e2;cases e2;rw[hc]at c2;exact absurd c2 (by decide)
  have t:h1.IsTuple p #[m,v]:=by
   obtain⟨o,ho,hc,r⟩:=hp;exact⟨o,(a.2 p (g p o ho hc)).trans ho,hc,r⟩
  refine bZ (wpAny_holding (bZ (wpAny_tryCatch (OA (s:={s with heap:=h1}) t ?_))));refine wpAny_holding (wpAny_dictSet_pairs hk h (λh2 D c=> ?_) (by omega));refine pZ ⟨plainId_quiet F.plain_dict_update_loop _, ?_⟩;have pd:∀p o,h1.get? p=some o->o.cls=.type "tuple"->p≠d:=λp o ho hc e=>by
   subst e;obtain⟨o2,es,ep,e2,c2,_⟩:=h;rw[ho]at e2;cases e2;have c3:=c2.1;rw[hc]at c3;exact absurd c3 (by decide)
  have u:(stored kvs k v).length<=kvs.length+1:=by
   unfold stored;split
   ·rw[length_map];omega
   ·rw[length_append];exact le_refl _
  refine KN hh n1 n2 n3 xs r (i+1) _ (stored kvs k v) n ?_ ?_ D ?_ ?_ λh' tk z y=> ?_
  ·exact C.extBut c.extBut (Ne.symm n1)
  ·obtain⟨o,ho,r⟩:=hL;exact⟨o,(c.2 l (Ne.symm n2)).trans ((a.2 l (Ne.symm n3)).trans ho),r⟩
  ·exact hr.at λp o ho hc=>by
    have j:=(a.2 p (g p o ho hc)).trans ho;exact(c.2 p (pd p o j hc)).trans j
  ·rw[length_cons]at hz;omega
  ·exact q h' tk z λb o hb f e=>y b o hb f ((c.2 b hb).trans ((a.2 b f).trans e))
end
end PySem
namespace PySem
section
theorem CT{prog:Program}{w:World}{A:Around}{E:Value->Shared->Prop}{s:Shared}{Z:Type}[DecidableEq Z]{knd:KeyKind prog w Z}{Q:Value->Shared->Prop}(hh:A.handled=none){l:Addr}{its:Array Value}{n:Nat}{sl:Array (Option Value)}{ps:List (Z×Value)}
  (hl:s.heap.get? l=some {cls:=.type "list",data:=.seq its n,slots:=sl})(hP:PairsAt knd s.heap its.toList ps)(hz:its.size<=sizeLine)
  (hQ:∀h' tk,h'.DictOf knd s.heap.objs.size (merged [] ps)->(∀b o,s.heap.get? b=some o->h'.get? b=some o)->Q (.ref s.heap.objs.size) {s with heap:=h',toks:=tk}):
  wpAny (model prog w) A (call (.type "dict") [.ref l]) Q E s:=by
 have m:l<s.heap.objs.size:=lt_size hl;refine callType_codes (Q₁:=λg s₁=>g=.ref s.heap.objs.size/\s₁={s with heap:=s.heap.push {cls:=.type "dict",data:=.dict #[]}}) F.kt_called_dict (F.kt_typeCall_dict_1 _) F.entry_dict_init
  (kt_code_dict_new _ ⟨rfl,rfl⟩) λg s₁ h₁=> ?_
 obtain⟨rfl,rfl⟩:=h₁;have hS:(s.heap.push {cls:=.type "dict",data:=.dict #[]}).get? s.heap.objs.size=some {cls:=.type "dict",data:=.dict #[]}:=get?_push_size _ rfl;have f:Shared.TypeIs {s with heap:=s.heap.push {cls:=.type "dict",data:=.dict #[]}} (.ref s.heap.objs.size) "dict":=⟨_,hS,rfl⟩;have c:(s.heap.push {cls:=.type "dict",data:=.dict #[]}).get? l=some {cls:=.type "list",data:=.seq its n,slots:=sl}:=gZ _ hl;have j:Shared.TypeIs {s with heap:=s.heap.push {cls:=.type "dict",data:=.dict #[]}} (.ref l) "list":=⟨_,c,rfl⟩;refine⟨f,F.args_dict_init_2 _ _, ?_⟩;unfold Builtin.«dict.__init__»;unfold Builtin.Dict.selfAndRest Builtin.Dict.notOrdered;refine bZ (bZ ?_);rw[if_pos (by decide)];refine bZ (wpAny_typeOf f ?_);rw[if_neg (by decide)];refine pZ (bZ (pZ (pZ ?_)));show wpAny _ _ (Builtin.Dict.updateFrom "dict.__init__" s.heap.objs.size (.ref l) [] .none) _ _ _;unfold Builtin.Dict.updateFrom;refine bZ (wpAny_typeOf j ?_);rw[if_pos (by decide)];refine bZ (UF (A:=A.in1.in1) hh c λh2 tk a=> ?_);rw[if_pos (show(none:Option Value).isNone=true from rfl)];refine bZ (wpAny_rule ?_);have i:h2.IsList l its:=⟨_,a _ _ c,rfl,n,rfl⟩;refine bZ (wpAny_pyIter_list (s:={s with heap:=h2,toks:=tk}) i ?_);refine pZ ⟨plainId_quiet F.plain_dict_update_loop _, ?_⟩;have t:=a _ _ hS;have h:s.heap.objs.size<h2.objs.size:=lt_size t;have d:l<h2.objs.size:=lt_size (a _ _ c);have kp:∀b o,h2.get? b=some o->(h2.push {cls:=.type "list_iterator",data:=.fields #[.ref l,.int 0 0]}).get? b=some o:=λb o e=>gZ _ e;refine KN (knd:=knd) (its:=its) (A:=A.in1) hh (ne_of_lt h) (Nat.ne_of_gt m) (Nat.ne_of_gt d) its.toList ps 0 _ [] rfl ⟨_,get?_push_size _ rfl,rfl,rfl⟩ (i.at λo e=>kp _ _ e) ?_ ?_ (by simpa using hz) λh' k u q=>⟨rfl,hQ h' k u λb o e=>q b o (ne_of_lt (lt_size e)) (ne_of_lt (lt_trans (lt_size e) h)) (kp _ _ (a _ _ (gZ _ e)))⟩
 ·obtain⟨o,es,ep,ho,r⟩:=Heap.DictOf.new (knd:=knd) s.heap;exact⟨o,es,ep,kp _ _ (a _ _ ho),r⟩
 ·exact hP.at λp o ho _=>kp _ _ (a _ _ (gZ _ ho))
end
end PySem
namespace _L
open PySem PySem.Spec PyProof.Rows
def PrV(H:Hp):List V->List (Key×V)->Prop
 | [],ps=>ps=[]
 |x::xs,ps=>∃p k v r,x=.ref p/\H p=some (.tup [kV k,v])/\ps=(k,v)::r/\PrV H xs r
theorem PrV.len:∀ {xs:List V} {ps:List (Key×V)},PrV H xs ps->ps.length=xs.length
 | [],ps,h=>by rw[show ps=[]from h];rfl
 |x::xs,ps,⟨p,k,v,r,_,_,e,h⟩=>by rw[e,length_cons,length_cons,PrV.len h]
section
theorem PrV.real{H:Hp}(I:Inv X N σ H s):∀ {xs:List V} {us:List Value} {ps:List (Key×V)},Vals xs us->PrV H xs ps->∃rs:List (Key×Value),PairsAt (E3 X.prog X.w) s.heap us rs/\KV ps rs
 | [],_,ps,.nil,h=>by rw[show ps=[]from h];exact⟨[],rfl,.nil⟩
 |x::xs,_,ps,.cons rx rr,⟨p,k,v,r,e,hp,e2,h⟩=>by
  subst e;subst e2;cases rx;obtain⟨rs,h1,h2⟩:=PrV.real I rr h;obtain⟨a,rv,pl,hz⟩:=I.tuple (SqT.of hp);cases rv with
  |cons r1 rv=>
   cases rv with
   |cons r2 rv=>
    cases rv;exact⟨(k,_)::rs,⟨p,k,_,_,rs,rfl,pl,BR r1,rfl,h1⟩,.cons ⟨rfl,r2⟩ h2⟩
theorem HV{X:Cx}{Z:FZ}(hc:X.calm=true)(hK:X.K=Z:=by rfl):CallR X (.type "dict") (λxs H Q=>∃l ys ps,xs=[.ref l]/\SqL Z H l ys/\PrV H ys ps/\∀d,H d=none->Q (.ref d) (upd H d (.dK (D3 [] ps)))):=by
 subst hK;intro b s σ H xs us Q I r h;obtain⟨l,ys,ps,rfl,hS,hP,q⟩:=h;obtain⟨u,rfl,ru⟩:=V5 r;cases ru;obtain⟨e,rv,⟨⟨c,dc,dt,sl⟩,n,hl,c1,c2,c3⟩,hz⟩:=I.list hS;replace c1:c=.type "list":=c1;replace c2:dc=none:=c2;replace c3:dt=.seq e.toArray n:=c3;subst c1 c2 c3;obtain⟨rs,hA,g⟩:=hP.real I rv;have a:=rv.length;refine CT (knd:=E3 X.prog X.w) (I.ok.hd hc) hl (by simpa using hA) (by rw[size_toArray,<-a];exact hz) λh' tk i kp=> ?_;have f:(D3 [] ps).length<=sizeLine:=by
  have h1:=P2 ps [];have h2:=hP.len;rw[length_nil]at h1;omega
 have hb:(s.heap.objs.size==sysModules)=false:=beq_eq_false_iff_ne.mpr (Ne.symm (ne_of_lt I.big));exact⟨.ref s.heap.objs.size,_,I.laid (t':=tk) kp (le_refl _) (NO f hb (g.merge .nil) i),rfl,q _ (I.hok.fresh (le_refl _))⟩
end
def W8(xs ys:List V):Bool:=(List.range (min xs.length ys.length)).all (λj=>eqV ((xs[j]?).getD .non) ((ys[j]?).getD .non))&&xs.length==ys.length
section
theorem PP{s:Shared}{A:Around}(r:Vals xs us)(r2:Vals ys vs)(fx:xs.all O8=true)(fy:ys.all O8=true)(j:Nat)(h1:j<us.toArray.size)(h2:j<vs.toArray.size):
  SeqAt.EqAt A s us.toArray[j] vs.toArray[j] (eqV ((xs[j]?).getD .non) ((ys[j]?).getD .non)):=by
 obtain⟨x,hx,rx⟩:=KZ r h1;obtain⟨y,hy,ry⟩:=KZ r2 h2;rw[hx,hy];exact WX rx ry (all_eq_true.mp fx x (mem_of_getElem? hx)) (all_eq_true.mp fy y (mem_of_getElem? hy))
def aBZ(Z:FZ)(neg:Bool):R2:=λx y H Q=>∃a b xs ys,x=.ref a/\y=.ref b/\SqT Z H a xs/\SqT Z H b ys/\xs.all O8=true/\ys.all O8=true/\Q (.bl (if neg then !W8 xs ys else W8 xs ys)) H
theorem cVZ{X:Cx}(hu:X.A.units<cLine):OpR X (compareOp .Eq) (aBZ X.K false):=by
 intro d s σ H x y v u Q I rx ry h;obtain⟨a,b,xs,ys,rfl,rfl,ha,hb,fx,fy,q⟩:=h;cases rx;cases ry;obtain⟨g,r,pl,_⟩:=I.tuple ha;obtain⟨f,r2,c,_⟩:=I.tuple hb;have l1:=r.length;have l2:=r2.length;refine SeqAt.RcAt.tuples (e:=λj=>eqV ((xs[j]?).getD .non) ((ys[j]?).getD .non)) pl c hu (λj h1 h2=>PP r r2 fx fy j h1 h2) X.prog X.w X.xe _ ⟨.bl (W8 xs ys),H,I, ?_,q⟩;show Value.bool _=Value.bool _;unfold W8;simp only[size_toArray,l1,l2]
theorem dnZ{X:Cx}(hu:X.A.units<cLine):OpR X (compareOp .NotEq) (aBZ X.K true):=by
 intro d s σ H x y v u Q I rx ry h;obtain⟨a,b,xs,ys,rfl,rfl,ha,hb,fx,fy,q⟩:=h;cases rx;cases ry;obtain⟨g,r,pl,_⟩:=I.tuple ha;obtain⟨f,r2,c,_⟩:=I.tuple hb;have l1:=r.length;have l2:=r2.length;refine SeqAt.RcNeAt.tuples (e:=λj=>eqV ((xs[j]?).getD .non) ((ys[j]?).getD .non)) pl c hu (λj h1 h2=>PP r r2 fx fy j h1 h2) X.prog X.w X.xe _ ⟨.bl (!W8 xs ys),H,I, ?_,q⟩;show Value.bool _=Value.bool _;unfold W8;simp only[size_toArray,l1,l2]
theorem cBZ{X:Cx}{Z:FZ}(hu:X.A.units<cLine)(hK:X.K=Z:=by rfl):OpR X (compareOp .Eq) (aBZ Z false):=by subst hK;exact cVZ hu
theorem eSZ{X:Cx}{Z:FZ}(hu:X.A.units<cLine)(hK:X.K=Z:=by rfl):OpR X (compareOp .NotEq) (aBZ Z true):=by subst hK;exact dnZ hu
def ecZ(Z:FZ):R2:=λx y H Q=>∃a b xs,x=.ref a/\y=.ref b/\SqT Z H a xs/\SqT Z H b []/\xs≠ []/\Q (.bl false) H
theorem dFZ{X:Cx}(hu:X.A.units<cLine):OpR X (compareOp .Eq) (ecZ X.K):=by
 intro d s σ H x y v u Q I rx ry h;obtain⟨a,b,xs,rfl,rfl,ha,hb,i,q⟩:=h;cases rx;cases ry;obtain⟨g,r,pl,_⟩:=I.tuple ha;obtain⟨f,r2,c,_⟩:=I.tuple hb;cases r2;have l1:=r.length;have h0:0<xs.length:=by
  cases xs with
  |nil=>exact absurd rfl i
  |cons x xs=>exact succ_pos _
 refine SeqAt.RcAt.tuples (e:=λ_=>true) pl c hu (λj h1 h2=>absurd h2 (not_lt_zero _)) X.prog X.w X.xe _ ⟨.bl false,H,I, ?_,q⟩;show Value.bool _=Value.bool false;congr 1;rw[Bool.and_eq_false_iff];refine .inr (beq_false_of_ne ?_);rw[size_toArray];intro z;have:g.length=0:=z;omega
theorem fhZ{X:Cx}{Z:FZ}(hu:X.A.units<cLine)(hK:X.K=Z:=by rfl):OpR X (compareOp .Eq) (ecZ Z):=by subst hK;exact dFZ hu
end
end _L
namespace PySem
open PyProof.Rows
section
end
end PySem
namespace _L
open PySem PySem.Spec PyProof.Rows
section
end
end _L
namespace PySem
open AutoSeq1(wpAny_loadPart')
end PySem
namespace _L
open PySem PySem.Spec PyProof.Rows
section
end
end _L
namespace PySem
open PyProof.Rows
section
def dd{Z:Type}[DecidableEq Z](D:List Z)(x:Z):List Z:=if x∈D then D else D++ [x]
end
end PySem
namespace _L
open PySem PySem.Spec PyProof.Rows
section
end
end _L
namespace PySem
open PyProof.Rows
section
variable{prog:Program}{w:World}{Z:Type}[DecidableEq Z]{knd:KeyKind prog w Z}{A:Around}{E:Value->Shared->Prop}{s:Shared}
end
section
end
end PySem
namespace _L
open PySem PySem.Spec PyProof.Rows
section
end
end _L
namespace PySem
open PyProof.Rows
section
end
end PySem
namespace _L
open PySem PySem.Spec PyProof.Rows
section
end
end _L
namespace PySem
open Sem(wp)
open PyProof.Rows
namespace ZT
section
end
end ZT
end PySem
namespace _L
open PySem PySem.Spec PyProof.Rows
section
end
end _L
namespace PySem
open Sem(wp)
end PySem
namespace _L
open PySem PySem.Spec PyProof.Rows
section
end
section
end
theorem ixT{H:Hp}{Q:VK}{a:Addr}{v:V}(h:H a=some (.tup xs))(e:atI xs i=some v)(q:Q v H):rIxL Z (.ref a) (.int i) H Q\/rIxT Z (.ref a) (.int i) H Q\/rIxS (.ref a) (.int i) H Q\/rIxTop w Z (.ref a) (.int i) H Q:=.inr (.inl ⟨a,xs,i,v,rfl,rfl,SqT.of h,e,q⟩)
theorem ixL{H:Hp}{Q:VK}{a:Addr}{v:V}(h:H a=some (.lst xs))(e:atI xs i=some v)(q:Q v H):rIxL Z (.ref a) (.int i) H Q\/rIxT Z (.ref a) (.int i) H Q\/rIxS (.ref a) (.int i) H Q\/rIxTop w Z (.ref a) (.int i) H Q:=.inl ⟨a,xs,i,v,rfl,rfl,SqL.of h,e,q⟩
theorem fS{N P:List Str}{sc:Scope}(a:sc.kind=.function:=by rfl)(b:sc.isCoroutine=false:=by rfl)(c:sc.isGenerator=false:=by rfl)(d:N.Nodup:=by decide +kernel)(e:N.take P.length=P:=by rfl)(f:∀x∈P,sc.names.lookup x=some .local\/sc.names.lookup x=some .cell:=by decide +kernel)(g:∀y∈sc.names,y.2≠ .free:=by decide +kernel):FnScope N P sc:=⟨a,b,c,d,e,f,g⟩
theorem cS{N:List Str}{sc scope:Scope}{caps:List Nat}{ns:List Str}(a:∀y∈scope.names,y.2≠ .cell:=by decide +kernel)(b:scope.kind=.function:=by rfl)(c:∀y∈scope.names,y.2=.local->scope.names.lookup y.1=some .local:=by decide +kernel)(d:scope.names.lookup x=some .local:=by rfl)(e:∀y∈scope.names,y.2=.free->sc.names.lookup y.1=some .cell\/sc.names.lookup y.1=some .free:=by decide +kernel)(f:caps.map (λj=>N[j]?)=ns.map some:=by rfl)(g:∀y∈ns,scope.names.lookup y=some .free:=by decide +kernel)(h:(x::ns).Nodup:=by decide +kernel):CompScope N sc scope x caps ns:=⟨a,b,c,d,e,f,g,h⟩
section
theorem ixE(Z:FZ)(w:World)(ha:PE X a ta)(hb:PE X b tb)(hs:RK b:=by exact λ_ _=>rfl)(hK:X.K=Z:=by rfl)(hw:X.w=w:=by rfl):PE X (.Subscript a b pos) (tOp (λx y H Q=>rIxL Z x y H Q\/rIxT Z x y H Q\/rIxS x y H Q\/rIxTop w Z x y H Q) ta tb):=KE (kIx hK hw) ha hb hs
end
def Cn(P:Program)(w:World)(Z:FZ)(mg:Str->Option Value)(qB:Heap)(CX:CXT)(n:Nat)(x:Str)(ps:List Str)(sp:Sp):Prop:=∃f d,FnOk P w Z mg qB CX n f d ps sp/\Binds Z d ps []/\kZ Z (.ref f)=true/\mg x=some (.ref f)
end _L
abbrev q1L:List PySem.Str:=["_law_cell","_law_kind","_law_slots"]
abbrev q3L:List PySem.Str:=["_law_cell","_law_many","_law_slot"]
abbrev q4L:List PySem.Str:=["_law_cell","_law_many"]
abbrev q5L:List PySem.Str:=["_law_cell"]
noncomputable abbrev q8L:List PySem.Str:=["_law_cells","_law_deep","_law_kind","_law_slots","_law_more"]
abbrev q9L:List PySem.Str:=["_law_cells","_law_deep","_law_kind","_law_slots"]
abbrev ddZ:List PySem.Str:=["_law_one","_law_other"]
noncomputable abbrev c2Z:List PySem.Str:=["_law_rows","_law_count","_law_size_here","_law_numbers"]
abbrev c0Z:List PySem.Str:=["_law_rows","_law_count"]
abbrev dzZ:List PySem.Str:=["_law_rows","_law_led_here","_law_at"]
abbrev awZ:List PySem.Str:=["_law_script","_law_k"]
abbrev cpZ:List PySem.Str:=["_law_script","_law_kind","_law_many"]
abbrev cvZ:List PySem.Str:=["_law_word","_law_a","_law_b"]
abbrev dxZ:List PySem.Str:=["ahead","row","loads"]
abbrev cTZ:List PySem.Str:=["ahead","row"]
abbrev dEZ:List PySem.Str:=["asked","chosen","other"]
abbrev czZ:List PySem.Str:=["blocks","number","values"]
abbrev cyZ:List PySem.Str:=["body","first"]
abbrev VE:List PySem.Str:=["cells","frame","row"]
abbrev MB:List PySem.Str:=["cells","value"]
abbrev deZ:List PySem.Str:=["frame","many_rows"]
abbrev UE:List PySem.Str:=["frame","many_taken","values"]
abbrev LK:List PySem.Str:=["frame","row"]
abbrev aKZ:List PySem.Str:=["frame","sign"]
abbrev cIZ:List PySem.Str:=["frame","slot","value"]
abbrev cdZ:List PySem.Str:=["goal","new_numbers"]
abbrev dCZ:List PySem.Str:=["piece","made","loads"]
abbrev OD:List PySem.Str:=["root","parts_in","made"]
abbrev dlZ:List PySem.Str:=["row","number","goal"]
abbrev aEZ:List PySem.Str:=["rows","gone"]
abbrev M8:List PySem.Str:=["rows"]
noncomputable abbrev asZ:List PySem.Str:=["self","blocks","main","numbers","most"]
abbrev exZ:List PySem.Str:=["self","frame","row"]
abbrev XJ:List PySem.Str:=["self","outcome"]
abbrev aPZ:List PySem.Str:=["self","told"]
abbrev LH:List PySem.Str:=["self","value"]
abbrev N5:List PySem.Str:=["self"]
abbrev NZ:List PySem.Str:=["sign","a","b"]
abbrev cYZ:List PySem.Str:=["term","first"]
abbrev CV:List PySem.Str:=["term"]
abbrev VM:List PySem.Str:=["value","heads"]
abbrev Z5:List PySem.Str:=["value"]
namespace TM
open PySem PyProof.Rows
section
end
end TM
namespace _L
open PySem PySem.Spec PyProof.Rows
section
end
end _L
namespace _L
open PySem PyProof.Rows
section
end
end _L
namespace _L
open PySem PySem.Spec PyProof.Rows
section
end
end _L
namespace _L
open PySem PySem.Spec PyProof PyProof.Rows
section
end
end _L
namespace _L
open PySem PySem.Spec PyProof.Rows
section
end
theorem Room.u1(hr:Room k A):A.units+1<cLine:=lt_of_le_of_lt (Nat.add_le_add_left (by decide:1<=64) _) hr.units
section
theorem cC{X:Cx}{sp:Sp}{e:Expr}{es:List Expr}(c:Cn X.prog X.w X.K X.mg X.qB CX0 k x ps sp)(hr:Room j X.A)(ha:PA X (e::es) t)(hk:k<=j:=by omega)(hg:Gl X x:=by exact rfl)
  (hdb:(x==("__debug__":Str))=false:=by decide)(he:starEach (e::es) X.env=(false,eval e X.env)::starEach es X.env:=by rfl)(hpl:(backTo pos (starEach es X.env)).any (·.1)=false:=by rfl):
  PE X (.Call (.Name x p) (e::es) [] pos) (bOZ sp [] E0 t):=by
 obtain⟨f,d,F,hb,a,hm⟩:=c;exact D6 F (hr.mono hk) hg hm a hb .nil F8 ha hdb he hpl
theorem mC{sp:Sp}{e:Expr}{es:List Expr}(he:PE X o ta)(c:Cls X.K C)(hm:Meth X.K C m f)(F:FnOk X.prog X.w X.K X.mg X.qB CX0 k f fd ps sp)(hr:Room j X.A)(hb:Binds X.K fd ps [])(ha:PA X (e::es) t)(hk:k<=j:=by omega)
  (hst:starEach (e::es) X.env=(false,eval e X.env)::starEach es X.env:=by rfl)(hpl:(backTo pos (starEach es X.env)).any (·.1)=false:=by rfl)
  (ht:eval (.Call (.Attribute o m apos) (e::es) [] pos) X.env=(do
   let ov<-eval o X.env
   standAt apos.atName
   let(f,first)<-holding [ov] (getMethod ov m pl)
   callWith pos f first (backTo pos (starEach (e::es) X.env)) (backToKw pos (keywordEach [] X.env))):=by rfl):
  PE X (.Call (.Attribute o m apos) (e::es) [] pos) (PX C m sp [] E0 ta t):=a3Z (pl:=pl) he c hm F (hr.mono hk) hb .nil F8 ha hst hpl ht
theorem mN{sp:Sp}(he:PE X o ta)(c:Cls X.K C)(hm:Meth X.K C m f)(F:FnOk X.prog X.w X.K X.mg X.qB CX0 k f fd ps sp)(hr:Room j X.A)(hb:Binds X.K fd ps [])(hk:k<=j:=by omega)
  (ht:eval (.Call (.Attribute o m apos) [] [] pos) X.env=(do
   let ov<-eval o X.env
   standAt apos.atName
   let(f,first)<-holding [ov] (getMethod ov m pl)
   callWith pos f first (backTo pos (starEach [] X.env)) (backToKw pos (keywordEach [] X.env))):=by rfl):
  PE X (.Call (.Attribute o m apos) [] [] pos) (PX C m sp [] E0 ta TU):=XZ (pl:=pl) he c hm F (hr.mono hk) hb .nil F8 ht
theorem sS{X:Cx}{x:Str}{pos:Pos}(i:Nat)(hN:X.N.Nodup)(he:PE X e te)(hi:X.N[i]? =some x:=by exact rfl)(hx:Loc X.env.scope x:=by exact Or.inl rfl)(hs:swapsWith e (some (.Name x pos')) pos.line X.env=pure false:=by rfl)(hf:X.fn x=true\/X.env.scope.names.lookup x=some .local:=by first|exact .inl rfl|exact .inr rfl|assumption):
  PS X (.Assign [.Name x pos'] e pos) (aWZ te (S0 i)):=W9 hN hi hx he hs hf
theorem gN(i:Nat)(hN:X.N.Nodup)(hi:X.N[i]? =some x:=by exact rfl)(hx:Loc X.env.scope x:=by exact Or.inl rfl)(hf:X.fn x=true\/X.env.scope.names.lookup x=some .local:=by first|exact .inl rfl|exact .inr rfl|assumption):PG X (.Name x pos) (S0 i):=IA hN hi hx hf
theorem kL{X:Cx}(Z:FZ)(hm:X.mg "len"=none)(hx:PE X e te)(hK:X.K=Z:=by rfl)(hg:Gl X "len":=by exact rfl)
  (he:starEach [e] X.env=(false,eval e X.env)::starEach [] X.env:=by rfl)(hpl:(backTo pos (starEach [] X.env)).any (·.1)=false:=by rfl):PE X (.Call (.Name "len" p) [e] [] pos) (tCB (rLen Z) (ZR te TU)):=F2 (etZ hK) hg hm cEZ (A0 hx A5 he) (by decide) (by decide) he hpl
theorem aP{apos:Pos}(Z:FZ)(ho:PE X o td)(he:PE X e te)(hK:X.K=Z:=by rfl)
  (hbase:attributeBase o "append" X.env (eval o X.env)=eval o X.env:=by rfl)
  (hfew:((backTo cpos (starEach [e] X.env)).all (λx=> !x.1)&&(backToKw cpos (keywordEach [] X.env)).all (λx=>x.1.isSome)
   &&decide ([e].length+([]:List Keyword).length+(if([]:List Keyword).isEmpty then 0 else 1)<30))=true:=by rfl)
  (hline:(apos.endLine==cpos.line)=true:=by rfl)(hs:starEach [e] X.env=(false,eval e X.env)::starEach [] X.env:=by rfl)(hplain:(backTo cpos (starEach [] X.env)).any (·.1)=false:=by rfl):
  PE X (.Call (.Attribute o "append" apos) [e] [] cpos) (tBM Z "list" rAppend td (ZR te TU)):=
 XE PySem.F.plainAttrs_list PySem.F.slot_list_append PySem.F.type_list_append TZ ho (A0 he A5 hs) hK hbase hfew hline hs hplain
theorem dS{X:Cx}(hr:Room k X.A)(ho:PE X o td):PE X (.Subscript o (.Constant (.str x) j cp) pos) (byZ td (tC (.str x))):=QA hr.u1 ho B0 (λ_ _=>rfl)
end
theorem Fun.om{st:Stmt}{sp:Sp}(F:Fun Z x qual st f fd)(S:FnScope N ps (A9 st))
  (hbody:∀(cdv:Value) (A:Around) (outer:List Env) (s:Shared) (H:Hp) (vs:List V) (Q:VK) (E:XK),Room k (A.deeper (envOfC qual (A9 st) s.heap.objs.size f cdv))->sp vs H Q E->
   ∃t,PSs (HL CX0 P w Z mg qB N qual (A9 st) f cdv A outer s H E).nox (C7 st) t/\t {nx:=λ_ H'=>Q .non H',rt:=Q} (start N vs) H)
  (len:∀vs H Q E,sp vs H Q E->vs.length=ps.length:=by intro _ _ _ _ h;cases h;subst_vars;rfl):FnOk P w Z mg qB CX0 (k+1) f fd ps sp:=F.ok S len hbody
section
def RB(Z:FZ):V->List V->Hp->VK->Prop:=λx vs H Q=>∃(a:Addr) (z0 z1 z2 z:Str) (j:Nat),x=.ref a/\vs=[.str z]/\SqL Z H a [.str z0,.str z1,.str z2]/\(j=0/\z0=z\/j=1/\z0≠z/\z1=z\/j=2/\z0≠z/\z1≠z/\z2=z)/\Q (.int (j:Nat)) H
def dWZ(z:Str):Value->Bool
 | .str b _=>b==z
 |_=>false
theorem UD:MtR X "list.index" (RB X.K):=by
 intro d s σ H x vs v us Q I rx rv h;obtain⟨a,z0,z1,z2,z,j,rfl,rfl,ha,b,q⟩:=h;cases rx;obtain⟨u,rfl,t,rfl⟩:=V5 rv;obtain⟨i,r,pl,_⟩:=I.list ha;obtain⟨⟨l,dd,g,sl⟩,n,ho,hc,c,hd⟩:=id pl;simp only at hc hd c;subst hc hd c;cases r with
 |cons r0 r=>
  cases r with
  |cons r1 r=>
   cases r with
   |cons r2 r=>
    cases r;obtain⟨t0,rfl⟩:=r0;obtain⟨t1,rfl⟩:=r1;obtain⟨t2,rfl⟩:=r2;have f:∀(A:Around) (s:Shared) (y:Value),y∈(#[.str z0 t0,.str z1 t1,.str z2 t2]:Array Value)->SeqAt.EqAt A s y (.str z t) (dWZ z y):=λA s y hy=>by
     rcases(by simpa using hy:y=.str z0 t0\/y=.str z1 t1\/y=.str z2 t2)with rfl|rfl|rfl
     ·exact SeqAt.EqAt.str_str _ _ _ _
     ·exact SeqAt.EqAt.str_str _ _ _ _
     ·exact SeqAt.EqAt.str_str _ _ _ _
    have hj:j<3:=by omega
    refine call_meets F.slot_list_index ⟨_,ho,rfl⟩ F.entry_list_index (F.args_list_index_2 _ _) (SeqAt.list_indexAt a #[.str z0 t0,.str z1 t1,.str z2 t2] n none sl (.str z t) (dWZ z) j hj (by omega) ?_ ?_) ⟨ho,λy hy=>f _ _ y hy,⟨.int _,H,I.tok _,⟨_,rfl⟩,q⟩⟩
    ·rcases b with⟨rfl,e⟩|⟨rfl,_,e⟩|⟨rfl,_,_,e⟩
     ·show(z0==z)=true;rw[e];exact beq_self_eq_true z
     ·show(z1==z)=true;rw[e];exact beq_self_eq_true z
     ·show(z2==z)=true;rw[e];exact beq_self_eq_true z
    ·intro m hm k;rcases b with⟨rfl,e⟩|⟨rfl,e0,e⟩|⟨rfl,e0,e1,e⟩
     ·omega
     ·have:m=0:=by omega
      subst this;show(z0==z)=false;exact beq_false_of_ne e0
     ·have:m=0\/m=1:=by omega
      rcases this with rfl|rfl
      ·show(z0==z)=false;exact beq_false_of_ne e0
      ·show(z1==z)=false;exact beq_false_of_ne e1
theorem WU{X:Cx}{Z:FZ}(hK:X.K=Z:=by rfl):MtR X "list.index" (RB Z):=by subst hK;exact UD
end
end _L
namespace _B
open PySem _L
abbrev AS:=Addr->Prop
def Kp(S:AS)(H H':Hp):Prop:=(∀b xs,H b=some (.tup xs)->H' b=some (.tup xs))/\∀b o,H b=some o->¬S b->H' b=some o
theorem Kp.trans(a:Kp S H H1)(b:Kp S H1 H2):Kp S H H2:=⟨λc xs h=>b.1 c xs (a.1 c xs h),λc xs h n=>b.2 c xs (a.2 c xs h n) n⟩
theorem Kp.of(h:Same H H'):Kp S H H':=⟨λb o q=>h b _ q,λb o q _=>h b o q⟩
theorem Kp.upd{S:AS}{H:Hp}{p:Addr}(h:S p)(hp:H p=some (.lst xs))(o:HO):Kp S H (upd H p o):=⟨λb u q=>by
 rw[B5 (MA q hp (by intro z;cases z))];exact q,λb u q n=>by
 have e:b≠p:=λe=>n (by rw[e];exact h);rw[B5 e];exact q⟩
theorem Kp.tups(h:Kp S H H'){b:Addr}(q:H b=some (.tup xs)):H' b=some (.tup xs):=h.1 b xs q
def Wd(H:Hp)(S S':AS):Prop:=∀a,S' a->S a\/H a=none
theorem qA{H:Hp}{p:Addr}(h:H p=none)(o:HO):Same H (upd H p o):=λb u q=>by rw[B5 (B9 q h)];exact q
structure Tr where
 T:Type
 kids:T->List T
 size:T->Nat
 val:AS->Hp->T->V->Prop
 res:AS->Hp->T->V->Prop
 hsz:∀t,size t=1+((kids t).map size).sum
 vm:∀ {S H H' t v},Kp S H H'->val S H t v->val S H' t v
 rm:∀ {S H H' t v},Kp S H H'->res S H t v->res S H' t v
 vw:∀ {S S' H t v},Wd H S S'->val S H t v->val S' H t v
 rw':∀ {S S' H t v},Wd H S S'->res S H t v->res S' H t v
inductive All2 {α β:Type} (R:α->β->Prop):List α->List β->Prop where
 |nil:All2 R [] []
 |cons {a b as bs}:R a b->All2 R as bs->All2 R (a::as) (b::bs)
namespace All2
theorem imp{α β:Type}{R S:α->β->Prop}{as:List α}{bs:List β}(h:All2 R as bs)(f:∀a b,R a b->S a b):All2 S as bs:=by
 induction h with
 |nil=>exact .nil
 |cons r _ ih=>exact .cons (f _ _ r) ih
theorem app{α β:Type}{R:α->β->Prop}{as as':List α}{bs bs':List β}(h:All2 R as bs)(h':All2 R as' bs'):All2 R (as++as') (bs++bs'):=by
 induction h with
 |nil=>exact h'
 |cons r _ ih=>exact .cons r ih
theorem len{α β:Type}{R:α->β->Prop}{as:List α}{bs:List β}(h:All2 R as bs):as.length=bs.length:=by
 induction h with
 |nil=>rfl
 |cons _ _ ih=>simp only[length_cons,ih]
theorem get{α:Type}{R:α->β->Prop}{as:List α}{bs:List β}(h:All2 R as bs):∀ {i:Nat} {b:β},bs[i]? =some b->∃a,as[i]? =some a/\R a b:=by
 induction h with
 |nil=>intro i b e;simp at e
 | @cons a b as bs r _ ih=>
  intro i c e;cases i with
  |zero=>simp at e;subst e;exact⟨a,rfl,r⟩
  |succ i=>exact ih (by simpa using e)
theorem split{α:Type}{R:α->β->Prop}{as as':List α}:∀ {bs:List β},All2 R (as++as') bs->∃b1 b2,bs=b1++b2/\All2 R as b1/\All2 R as' b2:=by
 induction as with
 |nil=>intro bs h;exact⟨[],bs,rfl,.nil,h⟩
 |cons a as ih=>
  intro bs h;cases h with
  |cons r h=>
   obtain⟨b1,b2,rfl,h1,h2⟩:=ih h;exact⟨_::b1,b2,rfl,.cons r h1,h2⟩
end All2
inductive Reach (D:Tr) (t0:D.T):List D.T->List D.T->Prop where
 |start:Reach D t0 [] [t0]
 |step {A:List D.T} {t:D.T} {r:List D.T}:Reach D t0 A (t::r)->Reach D t0 (A++ [t]) (D.kids t++r)
theorem Reach.back{t:D.T}{A:List D.T}(h:Reach D t0 (A++ [t]) W):∃r,W=D.kids t++r/\Reach D t0 A (t::r):=by
 generalize e:A++ [t]=B at h;cases h with
 |start=>simp at e
 |step h=>
  have:=List.append_inj' e rfl;obtain⟨rfl,e2⟩:=this;cases e2;exact⟨_,rfl,h⟩
theorem Reach.first(h:Reach D t0 [] W):W=[t0]:=by
 generalize e:([]:List D.T)=B at h;cases h with
 |start=>rfl
 |step h=>simp at e
theorem Reach.size(h:Reach D t0 A W):A.length+(W.map D.size).sum=D.size t0:=by
 induction h with
 |start=>simp
 | @step A t r _ ih=>
  simp only[length_append,length_cons,length_nil,map_append,sum_append,map_cons,sum_cons]at ih⊢;have:=D.hsz t;omega
theorem Tr.pos(D:Tr)(t:D.T):1<=D.size t:=by have:=D.hsz t;omega
theorem Tr.len_le(D:Tr):∀W:List D.T,W.length<=(W.map D.size).sum
 | []=>le_refl _
 |t::r=>by have:=D.pos t;have:=D.len_le r;simp only[length_cons,map_cons,sum_cons];omega
theorem Tr.kids_le(D:Tr)(t:D.T):(D.kids t).length<=D.size t:=by have:=D.len_le (D.kids t);have:=D.hsz t;omega
def MetAt(D:Tr)(S:AS)(H:Hp)(t:D.T)(x:V):Prop:=∃p v,x=.ref p/\H p=some (.tup [v,.int ((D.kids t).length:Nat)])/\D.val S H t v
theorem MetAt.mono(m:Kp S H H')(h:MetAt D S H t x):MetAt D S H' t x:=by
 obtain⟨p,v,e,hp,hv⟩:=h;exact⟨p,v,e,m.tups hp,D.vm m hv⟩
theorem MetAt.wide(m:Wd H S S')(h:MetAt D S H t x):MetAt D S' H t x:=by
 obtain⟨p,v,e,hp,hv⟩:=h;exact⟨p,v,e,hp,D.vw m hv⟩
inductive spPW (D:Tr) (vs:List V) (H:Hp) (Q:VK):Prop
 |mk:∀S t v,(vs=[v])->(D.val S H t v)->(D.size t<=400000)->(∀r H' ps,Same H H'->H r=none->H' r=some (.lst ps)->All2 (D.val S H') (D.kids t) ps->Q (.ref r) H')->spPW D vs H Q
def spP(D:Tr):Sp:=λvs H Q _=>spPW D vs H Q
inductive spMW (D:Tr) (vs:List V) (H:Hp) (Q:VK):Prop
 |mk:∀S t v l us,(vs=[v,.ref l])->(D.val S H t v)->(D.size t<=400000)->(H l=some (.lst us))->(¬S l)->((∀a,S a->H a≠none))->(All2 (D.res S H) (D.kids t) us)->(∀r H',Same H H'->D.res S H' t r->Q r H')->spMW D vs H Q
def spM(D:Tr):Sp:=λvs H Q _=>spMW D vs H Q
inductive spBuiltW (P:Program) (w:World) (Z:FZ) (mg:Str->Option Value) (qB:Heap) (vs:List V) (H:Hp) (Q:VK):Prop
 |mk:∀(D:Tr) (S:AS) (t:D.T) (v:V) (fp fm:Addr) (dp dm:FuncData) (np nm:List Str),(vs=[v,.ref fp,.ref fm])->(FnOk P w Z mg qB CX0 2 fp dp np (spP D))->(kZ Z (.ref fp)=true)->(Binds Z dp np [])->(FnOk P w Z mg qB CX0 2 fm dm nm (spM D))->(kZ Z (.ref fm)=true)->(Binds Z dm nm [])->((∀a,S a->H a≠none))->(D.val S H t v)->(D.size t<=400000)->(∀r H',Same H H'->D.res S H' t r->Q r H')->spBuiltW P w Z mg qB vs H Q
def spBuilt(P:Program)(w:World)(Z:FZ)(mg:Str->Option Value)(qB:Heap):Sp:=λvs H Q _=>spBuiltW P w Z mg qB vs H Q
end _B
namespace _B
open PySem _L
theorem duZ{H:Hp}{a:Addr}{o:HO}(h:H a=some o):upd H a o=H:=by
 funext b
 unfold upd;split
 ·rename_i e;rw[e,h]
 ·rfl
end _B
namespace _C
open PySem _L _B
def isSc:V->Bool
 | .int _| .bl _| .str _| .non=>true
 |_=>false
def Mo(H H':Hp):Prop:=∀b xs,H b=some (.tup xs)->H' b=some (.tup xs)
def Bt(a:Addr)(H H':Hp):Prop:=∀b o,H b=some o->b≠a->H' b=some o
theorem Bt.of(h:Same H H'):Bt a H H':=λb o q _=>h b o q
theorem Bt.trans(h:Bt a H H1)(h':Bt a H1 H2):Bt a H H2:=λb o q n=>h' b o (h b o q n) n
theorem Bt.upd(o:HO):Bt a H (upd H a o):=λb u q n=>by rw[B5 n];exact q
theorem tups_of(s:Same H H'):Mo H H':=λb xs e=>s _ _ e
theorem F5:1<=sizeLine:=by decide
theorem C3:2<=sizeLine:=by decide
theorem E1:3<=sizeLine:=by decide
end _C
namespace _N
open PySem _L
seal PE PT PW PA PS PSs PTs PI PG PGs PO
def top(i:Nat):Stmt:=PySem.Challenge.pw_speakmill_k73_folded.main.body.getD i (.Pass ⟨0,0,0,0⟩)
abbrev s_two_told:Stmt:=top 14
abbrev s_quotient_told:Stmt:=top 15
abbrev s_outcome:Stmt:=top 16
abbrev s_bounded:Stmt:=top 17
abbrev NP:List Str:=["sign","a","b"]
theorem sc_two_told:FnScope NP NZ (A9 s_two_told):=fS
abbrev CW:List Str:=["a","b"]
theorem sc_quotient_told:FnScope CW ["a","b"] (A9 s_quotient_told):=fS
abbrev TH:List Str:=["sign","a","b"]
theorem sc_outcome:FnScope TH NZ (A9 s_outcome):=fS
abbrev SS:List Str:=["number"]
theorem sc_bounded:FnScope SS ["number"] (A9 s_bounded):=fS
structure NoG (mg:Str->Option Value):Prop where
 len_:mg "len"=none
 min_:mg "min"=none
 abs_:mg "abs"=none
 isinstance_:mg "isinstance"=none
 tuple_:mg "tuple"=none
 int_:mg "int"=none
 bool_:mg "bool"=none
theorem qA{H:Hp}{p:Addr}(h:H p=none)(o:HO):Same H (upd H p o):=λb u q=>by rw[B5 (B9 q h)];exact q
theorem ifT{A:Prop}[Decidable c](h:c)(a:A):if c then A else B:=by rw[if_pos h];exact a
theorem ifF{B:Prop}[Decidable c](h:¬c)(b:B):if c then A else B:=by rw[if_neg h];exact b
abbrev GR:Int:=10000000000000000000000000000000000000000
noncomputable def bnd(n:Int):List V:=if n>GR\/n< -GR then [.str "refused",.str "great"]else [.str "value",.int n]
noncomputable def quo(a b:Int):List V:=if b=0 then [.str "refused",.str "nought"]else [.str "value",.int (a.fdiv b)]
theorem C3:(2:Nat)<=sizeLine:=by decide
section
inductive spQuoW(vs:List V)(H:Hp)(Q:VK):Prop
 |mk:∀a b:Int,(vs=[.int a,.int b])->(b.natAbs.log2<9000)->(∀r H',Same H H'->H' r=some (.tup (quo a b))->Q (.ref r) H')->spQuoW vs H Q
def bEZ:Sp:=λvs H Q _=>spQuoW vs H Q
theorem ok_quotient_told(F:Fun Z "quotient_told" "quotient_told" s_quotient_told f fd):FnOk P w Z mg qB CX0 1 f fd ["a","b"] bEZ:=by
 refine F.ok sc_quotient_told (λvs H Q E h=> ?_) (λd A c s H vs Q E hr h=> ?_)
 ·obtain⟨a,b,rfl,_⟩:=h;rfl
 obtain⟨a,b,rfl,hb,q⟩:=h;have nd:=sc_quotient_told.nd;have hu:=hr.units0;refine⟨_,(A7 (C2 (B7 (kEq (Z:=Z) hu) (pv 1) A6 rfl) (A8 (B6 (B4 (A0 B0 (A0 B0 A5))))) C0)
   (A8 (B6 (B4 (A0 B0 (A0 (B8 XF (pv 0) (pv 1)) A5)))))), ?_⟩
 refine⟨_,rfl,.inl ⟨rfl,_,rfl,K5 (λe=> ?_) (λe=> ?_)⟩⟩
 ·have e':b=0:=by have:=of_decide_eq_true e;injection this
  refine⟨C3,λp hp=>q p _ (qA hp _) ?_⟩;rw[A4,quo,if_pos e']
 ·have e':b≠0:=λz=>e (by rw[z];rfl);refine⟨_,rfl,_,rfl,_,_,rfl,rfl,⟨e',hb⟩,C3,λp hp=>q p _ (qA hp _) ?_⟩;rw[A4,quo,if_neg e']
inductive spOutW (vs:List V) (H:Hp) (Q:VK):Prop
 |mk:∀(s:Str) (a b:Int),(vs=[.str s,.int a,.int b])->((s="+"/\Q (.int (a+b)) H\/s="-"/\Q (.int (a - b)) H\/s="*"/\IntMulOk a b/\Q (.int (a*b)) H))->spOutW vs H Q
def bKZ:Sp:=λvs H Q _=>spOutW vs H Q
theorem ok_outcome(F:Fun Z "outcome" "outcome" s_outcome f fd):FnOk P w Z mg qB CX0 1 f fd NZ bKZ:=by
 refine F.ok sc_outcome (λvs H Q E h=> ?_) (λd A c s H vs Q E hr h=> ?_)
 ·obtain⟨s,a,b,rfl,_⟩:=h;rfl
 obtain⟨s,a,b,rfl,q⟩:=h;have nd:=sc_outcome.nd;have hu:=hr.units0;refine⟨_,(A7 (C2 (B7 (kEq (Z:=Z) hu) (pv 0) B0 rfl) (A8 (B6 (B8 L5 (pv 1) (pv 2)))) C0)
   (A7 (C2 (B7 (kEq (Z:=Z) hu) (pv 0) B0 rfl) (A8 (B6 (B8 G1 (pv 1) (pv 2)))) C0)
   (A8 (B6 (B8 QR (pv 1) (pv 2)))))), ?_⟩
 rcases q with⟨rfl,q⟩|⟨rfl,q⟩|⟨rfl,hm,q⟩
 ·exact⟨_,rfl,.inl ⟨rfl,_,rfl,ifT (by decide) ⟨_,rfl,_,rfl,.inl ⟨_,_,rfl,rfl,q⟩⟩⟩⟩
 ·exact⟨_,rfl,.inl ⟨rfl,_,rfl,ifF (by decide) ⟨_,rfl,.inl ⟨rfl,_,rfl,ifT (by decide) ⟨_,rfl,_,rfl,_,_,rfl,rfl,q⟩⟩⟩⟩⟩
 ·exact⟨_,rfl,.inl ⟨rfl,_,rfl,ifF (by decide) ⟨_,rfl,.inl ⟨rfl,_,rfl,ifF (by decide) ⟨_,rfl,_,rfl,_,_,rfl,rfl,hm,q⟩⟩⟩⟩⟩
inductive spBndW (vs:List V) (H:Hp) (Q:VK):Prop
 |mk:∀n:Int,(vs=[.int n])->(∀r H',Same H H'->H' r=some (.tup (bnd n))->Q (.ref r) H')->spBndW vs H Q
def bwZ:Sp:=λvs H Q _=>spBndW vs H Q
theorem ok_bounded(F:Fun Z "bounded" "bounded" s_bounded f fd)(B:NoG mg)(m_GREATEST:mg "GREATEST"=some (.int GR tG)):FnOk P w Z mg qB CX0 1 f fd ["number"] bwZ:=by
 refine F.ok sc_bounded (λvs H Q E h=> ?_) (λb A a s H vs Q E hr h=> ?_)
 ·obtain⟨n,rfl,_⟩:=h;rfl
 obtain⟨n,rfl,q⟩:=h;have nd:=sc_bounded.nd;have hu:=hr.units0;refine⟨_,(A7 (C2 (B7 LR (F2 EL rfl B.abs_ NK (A0 (pv 0) A5)) (D7 (v:=.int 10000000000000000000000000000000000000000) rfl m_GREATEST ⟨_,rfl⟩) rfl) (A8 (B6 (B4 (A0 B0 (A0 B0 A5))))) C0)
   (A8 (B6 (B4 (A0 B0 (A0 (pv 0) A5)))))), ?_⟩
 refine⟨_,rfl,_,rfl,_,_,rfl,rfl,_,rfl,K5 (λe=> ?_) (λe=> ?_)⟩
 ·have e1:GR<(if n<0 then -n else n):=of_decide_eq_true e;have e':n>GR\/n< -GR:=by
   split at e1
   ·exact .inr (by omega)
   ·exact .inl (by omega)
  refine⟨C3,λp hp=>q p _ (qA hp _) ?_⟩;rw[A4,bnd,if_pos e']
 ·have e1:¬GR<(if n<0 then -n else n):=λz=>e (decide_eq_true z);have e':¬(n>GR\/n< -GR):=by
   split at e1<;>omega
  refine⟨_,rfl,C3,λp hp=>q p _ (qA hp _) ?_⟩;rw[A4,bnd,if_neg e']
noncomputable def sg:Nat->Str
 |0=> "+"|1=> "-"|2=> "*"|3=> "<"|4=> "="|_=> "/"
noncomputable def tw:Nat->Int->Int->List V
 |0,a,b=>bnd (a+b)|1,a,b=>bnd (a - b)|2,a,b=>bnd (a*b)|3,a,b=> [.str "value",.bl (decide (a<b))]|4,a,b=> [.str "value",.bl (decide (V.int a=V.int b))]|_,a,b=>quo a b
inductive spTwoW (vs:List V) (H:Hp) (Q:VK):Prop
 |mk:∀(k:Nat) (a b:Int),(vs=[.str (sg k),.int a,.int b])->(k<6)->(IntMulOk a b)->(b.natAbs.log2<9000)->(∀r H',Same H H'->H' r=some (.tup (tw k a b))->Q (.ref r) H')->spTwoW vs H Q
def spTwo:Sp:=λvs H Q _=>spTwoW vs H Q
theorem ok_two_told(F:Fun Z "two_told" "two_told" s_two_told f fd)
  (CC:Cn P w Z mg qB CX0 1 "quotient_told" ["a","b"] bEZ)
  (SJ:Cn P w Z mg qB CX0 1 "outcome" NZ bKZ)
  (SA:Cn P w Z mg qB CX0 1 "bounded" ["number"] bwZ):
  FnOk P w Z mg qB CX0 2 f fd NZ spTwo:=by
 refine F.ok sc_two_told (λvs H Q E h=> ?_) (λe A c s H vs Q E hr h=> ?_)
 ·obtain⟨k,a,b,rfl,_⟩:=h;rfl
 obtain⟨k,a,b,rfl,hk,hm,hb,q⟩:=h;have nd:=sc_two_told.nd;have hu:=hr.units0;refine⟨_,(A7 (C2 (B7 (kEq (Z:=Z) hu) (pv 0) B0 rfl) (A8 (B6 (B4 (A0 B0 (A0 (F7 GK (pv 1) (pv 2) rfl) A5))))) C0)
   (A7 (C2 (B7 (kEq (Z:=Z) hu) (pv 0) B0 rfl) (A8 (B6 (B4 (A0 B0 (A0 (F7 (kEq (Z:=Z) hu) (pv 1) (pv 2) rfl) A5))))) C0)
   (A7 (C2 (B7 (kEq (Z:=Z) hu) (pv 0) B0 rfl) (A8 (B6 (cC CC hr (A0 (pv 1) (A0 (pv 2) A5))))) C0)
   (A8 (B6 (cC SA hr (A0 (cC SJ hr (A0 (pv 0) (A0 (pv 1) (A0 (pv 2) A5)))) A5))))))), ?_⟩
 have d:k=0\/k=1\/k=2\/k=3\/k=4\/k=5:=by omega
 rcases d with rfl|rfl|rfl|rfl|rfl|rfl
 ·exact⟨_,rfl,.inl ⟨rfl,_,rfl,ifF (by decide) ⟨_,rfl,.inl ⟨rfl,_,rfl,ifF (by decide) ⟨_,rfl,.inl ⟨rfl,_,rfl,ifF (by decide)
   ⟨_,rfl,_,rfl,_,rfl,_,_,_,rfl,.inl ⟨rfl,_,rfl,q⟩⟩⟩⟩⟩⟩⟩⟩
 ·exact⟨_,rfl,.inl ⟨rfl,_,rfl,ifF (by decide) ⟨_,rfl,.inl ⟨rfl,_,rfl,ifF (by decide) ⟨_,rfl,.inl ⟨rfl,_,rfl,ifF (by decide)
   ⟨_,rfl,_,rfl,_,rfl,_,_,_,rfl,.inr (.inl ⟨rfl,_,rfl,q⟩)⟩⟩⟩⟩⟩⟩⟩
 ·exact⟨_,rfl,.inl ⟨rfl,_,rfl,ifF (by decide) ⟨_,rfl,.inl ⟨rfl,_,rfl,ifF (by decide) ⟨_,rfl,.inl ⟨rfl,_,rfl,ifF (by decide)
   ⟨_,rfl,_,rfl,_,rfl,_,_,_,rfl,.inr (.inr ⟨rfl,hm,_,rfl,q⟩)⟩⟩⟩⟩⟩⟩⟩
 ·exact⟨_,rfl,.inl ⟨rfl,_,rfl,ifT (by decide) ⟨_,rfl,_,rfl,_,_,rfl,rfl,C3,λp hp=>q p _ (qA hp _) A4⟩⟩⟩
 ·exact⟨_,rfl,.inl ⟨rfl,_,rfl,ifF (by decide) ⟨_,rfl,.inl ⟨rfl,_,rfl,ifT (by decide) ⟨_,rfl,_,rfl,.inl ⟨rfl,C3,λp hp=>q p _ (qA hp _) A4⟩⟩⟩⟩⟩⟩
 ·exact⟨_,rfl,.inl ⟨rfl,_,rfl,ifF (by decide) ⟨_,rfl,.inl ⟨rfl,_,rfl,ifF (by decide) ⟨_,rfl,.inl ⟨rfl,_,rfl,ifT (by decide)
   ⟨_,rfl,_,rfl,_,_,rfl,hb,q⟩⟩⟩⟩⟩⟩⟩
end
end _N
namespace _C
open PySem _L _B
theorem GRe:_N.GR=10000000000000000000000000000000000000000:=rfl
def Bd(n:Int):Prop:= -_N.GR<=n/\n<=_N.GR
theorem QY{n:Int}(h:n.natAbs<2^300):Builtin.Int.intBits n<=2^20:=le_trans (intBits_le_iff.mpr h) (by decide)
theorem Bd.abs(h:Bd n):n.natAbs<2^300:=by
 have e:(10000000000000000000000000000000000000000:Nat)<2^300:=by decide +kernel
 have hG:=GRe;obtain⟨h1,h2⟩:=h;generalize 2^300=k at e⊢;omega
theorem Bd.mul(h:Bd a)(h':Bd b):IntMulOk a b:=IntMulOk.of_bits (QY h.abs) (QY h'.abs)
theorem Bd.log(h:Bd n):n.natAbs.log2<9000:=by
 by_cases e:n.natAbs=0
 ·rw[e];decide +kernel
 ·have:=(Nat.log2_lt e).mpr h.abs;omega
inductive Rk where
 |push (v:V)|load (j:Nat)|keep (j:Nat)|two (k:Nat)|not|skip (n:Nat)|unless (n:Nat)
noncomputable def wd:Nat->Str
 |0=> "add"|1=> "sub"|2=> "mul"|3=> "less"|4=> "same"|_=> "div"
noncomputable def rkV:Rk->List V
 | .push v=> [.str "push",v]
 | .load j=> [.str "load",.int (j:Nat)]
 | .keep j=> [.str "keep",.int (j:Nat)]
 | .two k=> [.str (wd k)]
 | .not=> [.str "not"]
 | .skip n=> [.str "skip",.int (n:Nat)]
 | .unless n=> [.str "unless",.int (n:Nat)]
inductive Eo where
 |fr (d:Int) (sl st:List V)|rf (w:Str)
def NS(H:Hp)(v:V):Prop:=(∃i,v=.int i)\/(∃b,v=.bl b)\/v=.non\/∃p xs,v=.ref p/\H p=some (.tup xs)
inductive Ef (H:Hp) (us sl:List V):Rk->List V->Eo->Prop
 |push {v st}:isSc v=true->Ef H us sl (.push v) st (.fr 1 sl (st++ [v]))
 |load {j v st}:sl[j]? =some v->Ef H us sl (.load j) st (.fr 1 sl (st++ [v]))
 |keep {j v st}:j<sl.length->Ef H us sl (.keep j) (st++ [v]) (.fr 1 (sl.take j++ [v]++sl.drop (j+1)) st)
 |twoV {k a b v st}:k<6->Bd a->Bd b->_N.tw k a b=[.str "value",v]->NS H v->Ef H us sl (.two k) (st++ [.int a,.int b]) (.fr 1 sl (st++ [v]))
 |twoR {k a b w st}:k<6->Bd a->Bd b->_N.tw k a b=[.str "refused",.str w]->Ef H us sl (.two k) (st++ [.int a,.int b]) (.rf w)
 |not {b st}:Ef H us sl .not (st++ [.bl b]) (.fr 1 sl (st++ [.bl (!b)]))
 |skip {n st}:Ef H us sl (.skip n) st (.fr (1+(n:Nat)) sl st)
 |unless {n b st}:Ef H us sl (.unless n) (st++ [.bl b]) (.fr (1+if b=true then 0 else(n:Int)) sl st)
theorem XO{k:Nat}(hk:k<6)(a b:Int):(∃v,((∃i,v=.int i)\/∃b,v=.bl b)/\_N.tw k a b=[.str "value",v])\/∃w,_N.tw k a b=[.str "refused",.str w]:=by
 have hb:∀n:Int,(∃v,((∃i,v=.int i)\/∃b,v=.bl b)/\_N.bnd n=[.str "value",v])\/∃w,_N.bnd n=[.str "refused",.str w]:=λn=>by
  unfold _N.bnd;split
  ·exact .inr ⟨_,rfl⟩
  ·exact .inl ⟨_,.inl ⟨_,rfl⟩,rfl⟩
 have h:k=0\/k=1\/k=2\/k=3\/k=4\/k=5:=by omega
 rcases h with rfl|rfl|rfl|rfl|rfl|rfl
 ·exact hb _
 ·exact hb _
 ·exact hb _
 ·exact .inl ⟨_,.inr ⟨_,rfl⟩,rfl⟩
 ·exact .inl ⟨_,.inr ⟨_,rfl⟩,rfl⟩
 ·show(∃v,((∃i,v=.int i)\/∃b,v=.bl b)/\_N.quo a b=[.str "value",v])\/∃w,_N.quo a b=[.str "refused",.str w];unfold _N.quo;split
  ·exact .inr ⟨_,rfl⟩
  ·exact .inl ⟨_,.inl ⟨_,rfl⟩,rfl⟩
end _C
namespace _C
open PySem _L _B
seal PE PT PW PA PS PSs PTs PI PG PGs PO
def top(i:Nat):Stmt:=PySem.Challenge.pw_speakmill_k73_folded.main.body.getD i (.Pass ⟨0,0,0,0⟩)
abbrev s_init:Stmt:=inClass (top 50) 0
abbrev s_put:Stmt:=inClass (top 50) 1
abbrev s_at:Stmt:=inClass (top 50) 2
abbrev s_many:Stmt:=inClass (top 50) 3
abbrev s_told:Stmt:=inClass (top 50) 4
abbrev chZ:List Str:=["self"]
theorem sc_init:FnScope chZ N5 (A9 s_init):=fS
abbrev fDZ:List Str:=["self","value"]
theorem sc_at:FnScope fDZ LH (A9 s_at):=fS
structure NoG (mg:Str->Option Value):Prop where
 len_:mg "len"=none
 list_:mg "list"=none
 range_:mg "range"=none
 isinstance_:mg "isinstance"=none
 str_:mg "str"=none
 tuple_:mg "tuple"=none
 int_:mg "int"=none
 bool_:mg "bool"=none
 all_:mg "all"=none
theorem ifT{A:Prop}[Decidable c](h:c)(a:A):if c then A else B:=by rw[if_pos h];exact a
theorem ifF{B:Prop}[Decidable c](h:¬c)(b:B):if c then A else B:=by rw[if_neg h];exact b
structure RCls (Z:FZ) (C:Addr) (mf:Str->Addr) (md:Str->FuncData):Prop where
 cl:Cls Z C
 ni:NoAttr Z C "in_order"
 m_put:Meth Z C "put" (mf "put")
 m_at:Meth Z C "at" (mf "at")
 m_many:Meth Z C "many" (mf "many")
 m_told:Meth Z C "told" (mf "told")
 b_put:Binds Z (md "put") ["self","cell"] []
 b_at:Binds Z (md "at") LH []
 b_many:Binds Z (md "many") N5 []
 b_told:Binds Z (md "told") N5 []
def CAt(C:Addr)(H:Hp)(o L:Addr)(us:List V):Prop:=∃dx,H o=some (.ins C dx [("in_order",.ref L)])/\H L=some (.lst us)
theorem CAt.same(h:CAt C H o L us)(s:Same H H'):CAt C H' o L us:=let⟨dx,h1,h2⟩:=h;⟨dx,s _ _ h1,s _ _ h2⟩
theorem lk(u:V):([("in_order",u)]:List (Str×V)).lookup ("in_order":Str)=some u:=by rfl
section
inductive spInitW(C:Addr)(vs:List V)(H:Hp)(Q:VK):Prop
 |mk:∀x dx,(vs=[.ref x])->(H x=some (.ins C dx []))->(∀L,H L=none->Q .non (upd (upd H L (.lst [])) x (.ins C dx [("in_order",.ref L)])))->spInitW C vs H Q
def YR(C:Addr):Sp:=λvs H Q _=>spInitW C vs H Q
theorem ok_init(F:Fun Z "__init__" "Cells.__init__" s_init fi di)(RC:RCls Z C mf md):FnOk P w Z mg qB CX0 1 fi di N5 (YR C):=by
 refine F.ok sc_init (λvs H Q E h=> ?_) (λb A a s H vs Q E hr h=> ?_)
 ·obtain⟨x,dx,rfl,_⟩:=h;rfl
 obtain⟨x,dx,rfl,h1,q⟩:=h;have nd:=sc_init.nd;refine⟨_,(A8 (P3 (pv 0) (C8 A5) rfl)), ?_⟩;refine⟨(by show 0<=sizeLine;decide),λL hL=>⟨_,rfl,x,C,dx,_,rfl,(qA hL _) _ _ h1,RC.cl,RC.ni,(by decide), ?_⟩⟩;exact q L hL
inductive spAtW (C:Addr) (vs:List V) (H:Hp) (Q:VK):Prop
 |mk:∀(o L:Addr) (us:List V) (v:Addr) (j:Nat) (c:V),(vs=[.ref o,.ref v])->(CAt C H o L us)->(H v=some (.tup [.str "cell",.int (j:Nat)]))->(us[j]? =some c)->(Q c H)->spAtW C vs H Q
def ePZ(C:Addr):Sp:=λvs H Q _=>spAtW C vs H Q
theorem ok_at{mf:Str->Addr}{md:Str->FuncData}(F:Fun Z "at" "Cells.at" s_at (mf "at") (md "at"))(RC:RCls Z C mf md):FnOk P w Z mg qB CX0 1 (mf "at") (md "at") LH (ePZ C):=by
 refine F.ok sc_at (λvs H Q E h=> ?_) (λb A a s H vs Q E hr h=> ?_)
 ·obtain⟨o,L,us,v,j,c,rfl,_⟩:=h;rfl
 obtain⟨o,L,us,v,j,c,rfl,⟨dx,h1,h2⟩,hv,hj,q⟩:=h;have nd:=sc_at.nd;refine⟨_,(A8 (B6 (ixE Z w (K0 (pv 0) rfl) (ixE Z w (pv 1) A6)))), ?_⟩;exact⟨_,rfl,o,C,dx,_,_,rfl,h1,RC.cl,RC.ni,lk _,_,rfl,(ixT hv rfl (ixL h2 (C4 hj) q))⟩
def spVoid:Sp:=λ_ _ _ _=>False
theorem ok_void:FnOk P w Z mg qB CX k f fd ps spVoid:=⟨λ_ _ _ _ h=>h.elim,λ_ _ _ _ _ _ _ _ _ _ _ _ _ h=>h.elim⟩
end
abbrev s_entered:Stmt:=top 56
abbrev s_behind:Stmt:=top 59
abbrev SO:List Str:=["blocks","number","values","begun"]
theorem sc_entered:FnScope SO czZ (A9 s_entered):=fS
abbrev YU:List Str:=["frame","many_taken","values","stack"]
theorem sc_behind:FnScope YU UE (A9 s_behind):=fS
theorem LD:4<=sizeLine:=by decide
theorem JQ:0<=sizeLine:=by decide
theorem cat_any{H:Hp}{a b:Addr}{Q:VK}(ha:H a=some (.tup xs))(hb:H b=some (.tup ys))(hz:xs.length+ys.length<=20000)
  (go:∀r H',Same H H'->H' r=some (.tup (xs++ys))->Q (.ref r) H'):LU Z (.ref a) (.ref b) H Q\/DV Z (.ref a) (.ref b) H Q:=by
 have zz:(20000:Nat)<=sizeLine:=by decide
 cases xs with
 |nil=>exact .inr ⟨a,b,ys,rfl,rfl,SqT.of ha,SqT.of hb,go b H (Same.refl _) hb⟩
 |cons x xs=>
  refine .inl ⟨a,b,x::xs,ys,rfl,rfl,SqT.of ha,SqT.of hb,by simp,by omega,λe=> ?_,λe p hp=> ?_⟩
  ·subst e;exact go a H (Same.refl _) (by rw[append_nil];exact ha)
  ·exact go p _ (qA hp _) A4
theorem DF{H:Hp}{a:Addr}{lo:Option Int}{Q:VK}(ha:H a=some (.tup xs))(go:∀r H',Same H H'->H' r=some (.tup (N1 xs lo hi))->Q (.ref r) H'):
  (rSlL Z (.ref a) lo hi H Q\/rSlT Z (.ref a) lo hi H Q)\/cOZ Z (.ref a) lo hi H Q:=by
 by_cases h:HT.sIx xs.length 0 lo=0/\HT.sIx xs.length xs.length hi=xs.length
 ·refine .inr ⟨a,xs,rfl,SqT.of ha,h,go a H (Same.refl _) ?_⟩;have e:N1 xs lo hi=xs:=by unfold N1;rw[h.1,h.2];simp
  rw[e];exact ha
 ·exact .inl (.inr ⟨a,xs,rfl,SqT.of ha,h,λp hp=>go p _ (qA hp _) A4⟩)
def FrAt(H:Hp)(p:Addr)(k at_:Int)(sl st:List V):Prop:=∃q e,H p=some (.tup [.int k,.int at_,.ref q,.ref e])/\H q=some (.tup sl)/\H e=some (.tup st)
theorem FrAt.mono(m:Mo H H'){st:List V}(h:FrAt H p k at_ sl st):FrAt H' p k at_ sl st:=let⟨q,e,h1,h2,h3⟩:=h;⟨q,e,m _ _ h1,m _ _ h2,m _ _ h3⟩
def fOZ(H:Hp)(bs:List V)(k sz:Nat):Prop:=∃t c rows,bs[k]? =some (.ref t)/\H t=some (.tup [c,.int (sz:Nat),rows])
section
inductive spEntW(vs:List V)(H:Hp)(Q:VK):Prop
 |mk:∀(bl:Addr) (bs:List V) (k sz:Nat) (va:Addr) (xs:List V),(vs=[.ref bl,.int (k:Nat),.ref va])->(H bl=some (.lst bs))->(fOZ H bs k sz)->((H va=some (.lst xs)\/H va=some (.tup xs)))->(xs.length<=sz)->(sz<=500)->(∀p H',Same H H'->FrAt H' p k 0 (xs++List.replicate (sz - xs.length) .non) []->Q (.ref p) H')->spEntW vs H Q
def bJZ:Sp:=λvs H Q _=>spEntW vs H Q
theorem ok_entered(F:Fun Z "entered" "entered" s_entered f fd)(B:NoG mg):FnOk P w Z mg qB CX0 1 f fd czZ bJZ:=by
 refine F.ok sc_entered (λvs H Q E h=> ?_) (λx A i s H vs Q E hr h=> ?_)
 ·obtain⟨bl,bs,k,sz,va,xs,rfl,_⟩:=h;rfl
 obtain⟨bl,bs,k,sz,va,xs,rfl,o,⟨t,c,m,hk,ht⟩,a,u,v,q⟩:=h;have nd:=sc_entered.nd;refine⟨_,(A7 (C6 (sS 3 nd (E6 (DC (Z:=Z)) rfl B.tuple_ Q1 (A0 (pv 2) A5))))
   (A8 (B6 (B4 (A0 (pv 1) (A0 A6 (A0 (B8 (XB (Z:=Z)) (pv 3) (B8 (evZ (Z:=Z)) (B4 (A0 G9 A5)) (B8 G1 (ixE Z w (ixE Z w (pv 0) (pv 1)) A6) (kL Z B.len_ (pv 3))))) (A0 (B4 A5) A5)))))))), ?_⟩
 refine⟨fun σ H'=>∃b,σ=[some (.ref bl),some (.int (k:Nat)),some (.ref va),some (.ref b)]/\Same H H'/\H' b=some (.tup xs), ?_, ?_⟩
 ·rcases a with a|a
  ·exact⟨_,rfl,va,xs,rfl,.inl ⟨SqL.of a,λl hl=>⟨l,rfl,qA hl _,A4⟩⟩⟩
  ·exact⟨_,rfl,va,xs,rfl,.inr ⟨SqT.of a,va,rfl,Same.refl _,a⟩⟩
 rintro σ H1 ⟨b,rfl,s1,hb⟩;refine⟨_,rfl,_,rfl,F5,λt1 n=> ?_⟩;have s2:=qA n (.tup [.non]);have d:=s1.trans s2;refine⟨_,rfl,_,rfl,.inl ⟨bl,bs,_,_,rfl,rfl,SqL.of (d _ _ o),C4 hk,(ixT (d _ _ ht) rfl ⟨_,rfl,_,_,rfl,.inr ⟨_,SqT.of (s2 _ _ hb),rfl⟩,_,_,rfl,rfl,.inr ⟨t1,(sz:Int) - (xs.length:Nat),.non,rfl,rfl,SqT.of A4,by omega,by omega,λe=> ?_,λne p hp=> ?_⟩⟩)⟩⟩
 ·have e1:sz - xs.length=1:=by omega
  refine .inr (cat_any (s2 _ _ hb) A4 (by simp;omega) λr H3 s3 g=>⟨JQ,λe he=>⟨LD,λp hp=> ?_⟩⟩);have s4:=qA he (.tup []);have s5:=qA hp (.tup [.int (k:Nat),.int 0,.ref r,.ref e]);refine q p _ (d.trans (s3.trans (s4.trans s5))) ⟨r,e,A4, ?_,s5 _ _ A4⟩;rw[e1];exact s5 _ _ (s4 _ _ g)
 ·have s3:=qA hp (.tup (List.replicate ((sz:Int) - (xs.length:Nat)).toNat .non));have e1:((sz:Int) - (xs.length:Nat)).toNat=sz - xs.length:=by omega
  refine .inr (cat_any (s3 _ _ (s2 _ _ hb)) A4 (by rw[length_replicate];omega) λr H3 j g=>⟨JQ,λe he=>⟨LD,λp hp=> ?_⟩⟩);have s4:=qA he (.tup []);have s5:=qA hp (.tup [.int (k:Nat),.int 0,.ref r,.ref e]);refine q p _ (d.trans (s3.trans (j.trans (s4.trans s5)))) ⟨r,e,A4, ?_,s5 _ _ A4⟩;rw[<-e1];exact s5 _ _ (s4 _ _ g)
inductive spBehW (vs:List V) (H:Hp) (Q:VK):Prop
 |mk:∀(fr:Addr) (k at_:Int) (sl st:List V) (m:Nat) (va:Addr) (ws:List V),(vs=[.ref fr,.int (m:Nat),.ref va])->(FrAt H fr k at_ sl st)->(m<=st.length)->(H va=some (.tup ws))->(st.length+ws.length<=9000)->(∀p H',Same H H'->FrAt H' p k (at_+1) sl (st.take (st.length - m)++ws)->Q (.ref p) H')->spBehW vs H Q
def KH:Sp:=λvs H Q _=>spBehW vs H Q
theorem ok_behind(F:Fun Z "behind" "behind" s_behind f fd)(B:NoG mg):FnOk P w Z mg qB CX0 1 f fd UE KH:=by
 refine F.ok sc_behind (λvs H Q E h=> ?_) (λg A a s H vs Q E hr h=> ?_)
 ·obtain⟨fr,k,b,sl,st,m,va,ws,rfl,_⟩:=h;rfl
 obtain⟨fr,k,b,sl,st,m,va,ws,rfl,⟨q0,e0,h1,h2,h3⟩,hm,c,hz,q⟩:=h;have nd:=sc_behind.nd;refine⟨_,(A7 (sS 3 nd (ixE Z w (pv 0) A6))
   (A8 (B6 (B4 (A0 (ixE Z w (pv 0) A6) (A0 (B8 (XB (Z:=Z)) (ixE Z w (pv 0) A6) A6) (A0 (ixE Z w (pv 0) A6) (A0 (B8 (XB (Z:=Z)) (L3 (TB (Z:=Z)) (pv 3) O7 (M4 (B8 G1 (kL Z B.len_ (pv 3)) (pv 1)))) (pv 2)) A5)))))))), ?_⟩
 refine⟨_,rfl,(ixT h1 rfl ?_)⟩;refine⟨_,rfl,(ixT h1 rfl ⟨_,rfl,(ixT h1 rfl (.inl ⟨_,_,rfl,rfl,_,rfl,(ixT h1 rfl ?_)⟩))⟩)⟩;refine⟨_,rfl,_,rfl,_,_,rfl,.inr ⟨_,SqT.of h3,rfl⟩,_,rfl,_,_,rfl,rfl,_,rfl,DF h3 λr H1 s1 e=> ?_⟩;have e1:N1 st none (some ((st.length:Int) - (m:Nat)))=st.take (st.length - m):=by
  have:(st.length:Int) - (m:Nat)=((st.length - m:Nat):Int):=by omega
  rw[this];exact ZL _ _
 refine⟨_,rfl,.inr (cat_any e (s1 _ _ c) (by have:=U3 st none (some ((st.length:Int) - (m:Nat)));omega) λr2 H2 s2 d=>⟨LD,λp hp=> ?_⟩)⟩;have s3:=qA hp (.tup [.int k,.int (b+1),.ref q0,.ref r2]);refine q p _ (s1.trans (s2.trans s3)) ⟨q0,r2,A4,s3 _ _ (s2 _ _ (s1 _ _ h2)), ?_⟩;rw[<-e1];exact s3 _ _ d
end
abbrev s_two_done:Stmt:=top 61
abbrev s_part_done:Stmt:=top 62
abbrev s_with_new_cell:Stmt:=top 63
abbrev s_with_nothing_put:Stmt:=top 64
abbrev s_with_slot:Stmt:=top 65
abbrev s_further:Stmt:=top 66
abbrev s_value_put:Stmt:=top 67
abbrev PH:List Str:=["frame","sign","stack","told"]
theorem sc_two_done:FnScope PH aKZ (A9 s_two_done):=fS
abbrev X2:List Str:=["frame","row"]
theorem sc_with_nothing_put:FnScope X2 LK (A9 s_with_nothing_put):=fS
abbrev JM:List Str:=["frame","slot","value","slots"]
theorem sc_with_slot:FnScope JM cIZ (A9 s_with_slot):=fS
abbrev TQ:List Str:=["frame","many_rows"]
theorem sc_further:FnScope TQ deZ (A9 s_further):=fS
abbrev KI:List Str:=["frame","row"]
theorem sc_value_put:FnScope KI LK (A9 s_value_put):=fS
theorem eTZ{α:Type}(xs:List α)(u v:α):atI (xs++ [u,v]) (-1)=some v:=by
 have:xs++ [u,v]=(xs++ [u])++ [v]:=by simp
 rw[this];exact K7 _ _
theorem eHZ{α:Type}(xs:List α)(u v:α):atI (xs++ [u,v]) (-2)=some u:=by
 have h1:¬(0:Int)<= -2:=by decide
 have h2: -((xs++ [u,v]).length:Int)<= -2:=by simp;omega
 have h3:((-2:Int)+((xs++ [u,v]).length:Nat)).toNat=xs.length:=by simp;omega
 unfold atI ixN;rw[if_neg h1,if_pos h2];show(xs++ [u,v])[((-2:Int)+((xs++ [u,v]).length:Nat)).toNat]? =some u;rw[h3];simp
section
inductive spTDW(vs:List V)(H:Hp)(Q:VK):Prop
 |mk:∀(fr:Addr) (k at_:Int) (sl st:List V) (g:Nat) (a b:Int),(vs=[.ref fr,.str (_N.sg g)])->(FrAt H fr k at_ sl (st++ [.int a,.int b]))->(st.length<=2000)->(g<6)->(Bd a)->(Bd b)->((∀v p q H',_N.tw g a b=[.str "value",v]->Same H H'->H' p=some (.tup [.str "frame",.ref q])->FrAt H' q k (at_+1) sl (st++ [v])->Q (.ref p) H'))->((∀w p H',_N.tw g a b=[.str "refused",.str w]->Same H H'->H' p=some (.tup [.str "refused",.str w])->Q (.ref p) H'))->spTDW vs H Q
def eqZ:Sp:=λvs H Q _=>spTDW vs H Q
theorem ok_two_done(F:Fun Z "two_done" "two_done" s_two_done f fd)
  (W1:Cn P w Z mg qB CX0 2 "two_told" NZ _N.spTwo)
  (M6:Cn P w Z mg qB CX0 1 "behind" UE KH):
  FnOk P w Z mg qB CX0 3 f fd aKZ eqZ:=by
 refine F.ok sc_two_done (λvs H Q E h=> ?_) (λl A d s H vs Q E hr h=> ?_)
 ·obtain⟨fr,k,i,sl,st,g,a,b,rfl,_⟩:=h;rfl
 obtain⟨fr,k,i,sl,st,g,a,b,rfl,hF,hz,hg,ha,hb,q1,q2⟩:=h;have nd:=sc_two_done.nd;have hu:=hr.units0;obtain⟨q0,e0,h1,h2,h3⟩:=id hF;refine⟨_,(A7 (sS 2 nd (ixE Z w (pv 0) A6))
   (A7 (sS 3 nd (cC W1 hr (A0 (pv 1) (A0 (ixE Z w (pv 2) (K8 G2 A6)) (A0 (ixE Z w (pv 2) (K8 G2 A6)) A5)))))
   (A7 (C2 (B7 (kEq (Z:=Z) hu) (ixE Z w (pv 3) A6) B0 rfl) (A8 (B6 (pv 3))) C0)
   (A8 (B6 (B4 (A0 B0 (A0 (cC M6 hr (A0 (pv 0) (A0 A6 (A0 (L3 (TB (Z:=Z)) (pv 3) (M4 A6) O7) A5)))) A5)))))))), ?_⟩
 refine⟨_,rfl,(ixT h1 rfl ?_)⟩;refine⟨_,rfl,_,rfl,_,rfl,(ixT h3 (eHZ _ _ _) ⟨_,rfl,_,rfl,(ixT h3 (eTZ _ _ _) ⟨g,a,b,rfl,hg,ha.mul hb,hb.log,λr H1 s1 c=> ?_⟩)⟩)⟩;rcases XO hg a b with⟨v,hv,e⟩|⟨j,e⟩
 ·rw[e]at c;refine⟨_,rfl,(ixT c rfl (.inl ⟨rfl,_,rfl,ifF (by decide) ?_⟩))⟩;refine⟨_,rfl,_,rfl,1,rfl,DF c λt H2 s2 ht=> ?_⟩;have e1:N1 [V.str "value",v] (some 1) none=[v]:=JP _ 1;rw[e1]at ht;refine⟨fr,k,i,sl,_,2,t,[v],rfl,hF.mono (tups_of (s1.trans s2)),by simp,ht,by simp;omega,λq H3 s3 hq=>⟨C3,λp hp=> ?_⟩⟩;have e2:(st++ [V.int a,.int b]).take ((st++ [V.int a,.int b]).length - 2)=st:=by simp
  rw[e2]at hq;have s4:=qA hp (.tup [.str "frame",.ref q]);exact q1 v p q _ e (s1.trans (s2.trans (s3.trans s4))) A4 (hq.mono (tups_of s4))
 ·rw[e]at c;refine⟨_,rfl,(ixT c rfl (.inl ⟨rfl,_,rfl,ifT (by decide) ?_⟩))⟩;exact⟨_,rfl,q2 j r H1 e s1 c⟩
inductive spWSW (vs:List V) (H:Hp) (Q:VK):Prop
 |mk:∀(fr:Addr) (k at_:Int) (sl st:List V) (j:Nat) (v:V),(vs=[.ref fr,.int (j:Nat),v])->(FrAt H fr k at_ sl st)->(sl.length<=500)->(∀p H',Same H H'->FrAt H' p k at_ (sl.take j++ [v]++sl.drop (j+1)) st->Q (.ref p) H')->spWSW vs H Q
def d4Z:Sp:=λvs H Q _=>spWSW vs H Q
theorem ok_with_slot(F:Fun Z "with_slot" "with_slot" s_with_slot f fd):FnOk P w Z mg qB CX0 1 f fd cIZ d4Z:=by
 refine F.ok sc_with_slot (λvs H Q E h=> ?_) (λn A c s H vs Q E hr h=> ?_)
 ·obtain⟨fr,k,g,sl,st,j,v,rfl,_⟩:=h;rfl
 obtain⟨fr,k,g,sl,st,j,v,rfl,⟨q0,e0,h1,h2,h3⟩,hz,q⟩:=h;have nd:=sc_with_slot.nd;refine⟨_,(A7 (sS 3 nd (ixE Z w (pv 0) A6))
   (A8 (B6 (B4 (A0 (ixE Z w (pv 0) A6) (A0 (ixE Z w (pv 0) A6) (A0 (B8 (F1 (Z:=Z)) (B8 (F1 (Z:=Z)) (L3 (TB (Z:=Z)) (pv 3) O7 (M4 (pv 1))) (B4 (A0 (pv 2) A5))) (L3 (TB (Z:=Z)) (pv 3) (M4 (B8 (F1 (Z:=Z)) (pv 1) A6)) O7)) (A0 (ixE Z w (pv 0) A6) A5)))))))), ?_⟩
 refine⟨_,rfl,(ixT h1 rfl ?_)⟩;refine⟨_,rfl,(ixT h1 rfl ⟨_,rfl,(ixT h1 rfl ?_)⟩)⟩;refine⟨_,rfl,_,rfl,_,rfl,DF h2 λt1 H1 s1 e=>⟨_,rfl,F5,λt2 m=> ?_⟩⟩;have e1:N1 sl none (some ((j:Nat):Int))=sl.take j:=ZL _ _;rw[e1]at e;have s2:=qA m (.tup [v]);refine .inr (.inr (cat_any (s2 _ _ e) A4 (by simp;omega) λt3 H3 s3 l=> ?_));have b:=s1.trans (s2.trans s3);refine⟨_,rfl,_,rfl,.inl ⟨_,_,rfl,rfl,_,rfl,DF (b _ _ h2) λt4 H4 s4 d=> ?_⟩⟩;have e2:N1 sl (some (((j:Nat):Int)+1)) none=sl.drop (j+1):=JP sl (j+1);rw[e2]at d;refine .inr (.inr (cat_any (s4 _ _ l) d (by simp;omega) λt5 H5 s5 i=> ?_));have a:=b.trans (s4.trans s5);refine⟨_,rfl,(ixT (a _ _ h1) rfl ⟨LD,λp hp=> ?_⟩)⟩;have s6:=qA hp (.tup [.int k,.int g,.ref t5,.ref e0]);exact q p _ (a.trans s6) ⟨t5,e0,A4,s6 _ _ i,s6 _ _ (a _ _ h3)⟩
inductive spFuW (vs:List V) (H:Hp) (Q:VK):Prop
 |mk:∀(fr:Addr) (k at_:Int) (sl st:List V) (m:Int),(vs=[.ref fr,.int m])->(FrAt H fr k at_ sl st)->(∀p H',Same H H'->FrAt H' p k (at_+m) sl st->Q (.ref p) H')->spFuW vs H Q
def eBZ:Sp:=λvs H Q _=>spFuW vs H Q
theorem ok_further(F:Fun Z "further" "further" s_further f fd):FnOk P w Z mg qB CX0 1 f fd deZ eBZ:=by
 refine F.ok sc_further (λvs H Q E h=> ?_) (λc A a s H vs Q E hr h=> ?_)
 ·obtain⟨fr,k,b,sl,st,m,rfl,_⟩:=h;rfl
 obtain⟨fr,k,b,sl,st,m,rfl,⟨q0,e0,h1,h2,h3⟩,q⟩:=h;have nd:=sc_further.nd;refine⟨_,(A8 (B6 (B4 (A0 (ixE Z w (pv 0) A6) (A0 (B8 (F1 (Z:=Z)) (ixE Z w (pv 0) A6) (pv 1)) (A0 (ixE Z w (pv 0) A6) (A0 (ixE Z w (pv 0) A6) A5))))))), ?_⟩;refine⟨_,rfl,(ixT h1 rfl ⟨_,rfl,(ixT h1 rfl ⟨_,rfl,.inl ⟨_,_,rfl,rfl,_,rfl,(ixT h1 rfl ⟨_,rfl,(ixT h1 rfl ⟨LD,λp hp=> ?_⟩)⟩)⟩⟩)⟩)⟩;have s6:=qA hp (.tup [.int k,.int (b+m),.ref q0,.ref e0]);exact q p _ s6 ⟨q0,e0,A4,s6 _ _ h2,s6 _ _ h3⟩
inductive spVPW (vs:List V) (H:Hp) (Q:VK):Prop
 |mk:∀(fr:Addr) (k at_:Int) (sl st:List V) (r:Addr),(vs=[.ref fr,.ref r])->(FrAt H fr k at_ sl st)->(((∃v,H r=some (.tup [.str "push",v])/\Q v H)\/(H r=some (.tup [.str "none"])/\Q .non H)\/(∃(j:Nat) (v:V),H r=some (.tup [.str "load",.int (j:Nat)])/\sl[j]? =some v/\Q v H)))->spVPW vs H Q
def e3Z:Sp:=λvs H Q _=>spVPW vs H Q
theorem ok_value_put(F:Fun Z "value_put" "value_put" s_value_put f fd):FnOk P w Z mg qB CX0 1 f fd LK e3Z:=by
 refine F.ok sc_value_put (λvs H Q E h=> ?_) (λe A b s H vs Q E hr h=> ?_)
 ·obtain⟨fr,k,d,sl,st,r,rfl,_⟩:=h;rfl
 obtain⟨fr,k,d,sl,st,r,rfl,⟨q0,e0,h1,h2,h3⟩,c⟩:=h;have nd:=sc_value_put.nd;have hu:=hr.units0;refine⟨_,(A7 (C2 (B7 (kEq (Z:=Z) hu) (ixE Z w (pv 1) A6) B0 rfl) (A8 (B6 (ixE Z w (pv 1) A6))) C0)
   (A8 (B6 (J6 (B7 (kEq (Z:=Z) hu) (ixE Z w (pv 1) A6) B0 rfl) (ixE Z w (ixE Z w (pv 0) A6) (ixE Z w (pv 1) A6)) G9)))), ?_⟩
 rcases c with⟨v,a,q⟩|⟨a,q⟩|⟨j,v,a,hj,q⟩
 ·exact⟨_,rfl,(ixT a rfl (.inl ⟨rfl,_,rfl,ifT (by decide) ⟨_,rfl,(ixT a rfl q)⟩⟩))⟩
 ·exact⟨_,rfl,(ixT a rfl (.inl ⟨rfl,_,rfl,ifF (by decide) ⟨_,rfl,(ixT a rfl (.inl ⟨rfl,_,rfl,ifF (by decide) q⟩))⟩⟩))⟩
 ·exact⟨_,rfl,(ixT a rfl (.inl ⟨rfl,_,rfl,ifF (by decide) ⟨_,rfl,(ixT a rfl (.inl ⟨rfl,_,rfl,ifT (by decide) ⟨_,rfl,(ixT h1 rfl ⟨_,rfl,(ixT a rfl (.inr (.inl ⟨q0,sl,_,_,rfl,rfl,SqT.of h2,C4 hj,q⟩)))⟩)⟩⟩))⟩⟩))⟩
inductive spNPW (vs:List V) (H:Hp) (Q:VK):Prop
 |mk:∀(fr:Addr) (k at_:Int) (sl st:List V) (r:Addr),(vs=[.ref fr,.ref r])->(FrAt H fr k at_ sl st)->(st.length<=2000)->(sl.length<=500)->(((∃(j:Nat) (st':List V) (v:V),H r=some (.tup [.str "keep",.int (j:Nat)])/\st=st'++ [v]/\∀p H',Same H H'->FrAt H' p k (at_+1) (sl.take j++ [v]++sl.drop (j+1)) st'->Q (.ref p) H')\/(∃n:Nat,H r=some (.tup [.str "skip",.int (n:Nat)])/\∀p H',Same H H'->FrAt H' p k (at_+1+(n:Nat)) sl st->Q (.ref p) H')\/(∃(n:Nat) (st':List V) (b:Bool),H r=some (.tup [.str "unless",.int (n:Nat)])/\st=st'++ [.bl b]/\∀p H',Same H H'->FrAt H' p k (at_+1+if b=true then 0 else(n:Int)) sl st'->Q (.ref p) H')))->spNPW vs H Q
def ebZ:Sp:=λvs H Q _=>spNPW vs H Q
theorem ok_with_nothing_put(F:Fun Z "with_nothing_put" "with_nothing_put" s_with_nothing_put f fd)
  (M6:Cn P w Z mg qB CX0 1 "behind" UE KH)
  (JI:Cn P w Z mg qB CX0 1 "with_slot" cIZ d4Z)
  (FL:Cn P w Z mg qB CX0 1 "further" deZ eBZ):
  FnOk P w Z mg qB CX0 2 f fd LK ebZ:=by
 refine F.ok sc_with_nothing_put (λvs H Q E h=> ?_) (λt A l s H vs Q E hr h=> ?_)
 ·obtain⟨fr,k,i,sl,st,r,rfl,_⟩:=h;rfl
 obtain⟨fr,k,i,sl,st,r,rfl,hF,hz,m,o⟩:=h;have nd:=sc_with_nothing_put.nd;have hu:=hr.units0;obtain⟨q0,e0,h1,h2,h3⟩:=id hF;refine⟨_,(A7 (C2 (B7 (kEq (Z:=Z) hu) (ixE Z w (pv 1) A6) B0 rfl) (A8 (B6 (cC JI hr (A0 (cC M6 hr (A0 (pv 0) (A0 A6 (A0 (B4 A5) A5)))) (A0 (ixE Z w (pv 1) A6) (A0 (ixE Z w (ixE Z w (pv 0) A6) (K8 G2 A6)) A5)))))) C0)
   (A7 (C2 (B7 (kEq (Z:=Z) hu) (ixE Z w (pv 1) A6) B0 rfl) (A8 (B6 (cC FL hr (A0 (cC M6 hr (A0 (pv 0) (A0 A6 (A0 (B4 A5) A5)))) (A0 (ixE Z w (pv 1) A6) A5))))) C0)
   (A8 (B6 (cC FL hr (A0 (cC M6 hr (A0 (pv 0) (A0 A6 (A0 (B4 A5) A5)))) (A0 (J6 (E5 (Z:=Z) (ixE Z w (ixE Z w (pv 0) A6) (K8 G2 A6)) (λ_=>rfl)) A6 (ixE Z w (pv 1) A6)) A5))))))), ?_⟩
 rcases o with⟨j,c,v,d,rfl,q⟩|⟨n,d,q⟩|⟨n,c,b,d,rfl,q⟩
 ·refine⟨_,rfl,(ixT d rfl (.inl ⟨rfl,_,rfl,ifT (by decide) ?_⟩))⟩;refine⟨_,rfl,JQ,λe he=> ?_⟩;have s1:=qA he (.tup []);refine⟨fr,k,i,sl,_,1,e,[],rfl,hF.mono (tups_of s1),by simp,A4,by simp at hz⊢;omega,λp1 H1 s2 g=> ?_⟩;have e2:(c++ [v]).take ((c++ [v]).length - 1)++ []=c:=by simp
  rw[e2]at g;have a:=s1.trans s2;refine⟨_,rfl,(ixT (a _ _ d) rfl ⟨_,rfl,(ixT (a _ _ h1) rfl ⟨_,rfl,(ixT (a _ _ h3) (K7 _ _) ?_)⟩)⟩)⟩;exact⟨p1,k,i+1,sl,c,j,v,rfl,g,m,λp H3 s3 hp=>q p H3 (a.trans s3) hp⟩
 ·refine⟨_,rfl,(ixT d rfl (.inl ⟨rfl,_,rfl,ifF (by decide) ?_⟩))⟩;refine⟨_,rfl,(ixT d rfl (.inl ⟨rfl,_,rfl,ifT (by decide) ?_⟩))⟩;refine⟨_,rfl,JQ,λe he=> ?_⟩;have s1:=qA he (.tup []);refine⟨fr,k,i,sl,_,0,e,[],rfl,hF.mono (tups_of s1),zero_le _,A4,by simp;omega,λp1 H1 s2 g=> ?_⟩;have e2:st.take (st.length - 0)++ []=st:=by simp
  rw[e2]at g;have a:=s1.trans s2;refine⟨_,rfl,(ixT (a _ _ d) rfl ?_)⟩;exact⟨p1,k,i+1,sl,st,_,rfl,g,λp H3 s3 hp=>q p H3 (a.trans s3) hp⟩
 ·refine⟨_,rfl,(ixT d rfl (.inl ⟨rfl,_,rfl,ifF (by decide) ?_⟩))⟩;refine⟨_,rfl,(ixT d rfl (.inl ⟨rfl,_,rfl,ifF (by decide) ?_⟩))⟩;refine⟨_,rfl,JQ,λe he=> ?_⟩;have s1:=qA he (.tup []);refine⟨fr,k,i,sl,_,1,e,[],rfl,hF.mono (tups_of s1),by simp,A4,by simp at hz⊢;omega,λp1 H1 s2 g=> ?_⟩;have e2:(c++ [V.bl b]).take ((c++ [V.bl b]).length - 1)++ []=c:=by simp
  rw[e2]at g;have a:=s1.trans s2;refine⟨_,rfl,(ixT (a _ _ h1) rfl ⟨_,rfl,(ixT (a _ _ h3) (K7 _ _) ⟨b,rfl, ?_⟩)⟩)⟩;cases b with
  |true=>exact ifT rfl ⟨p1,k,i+1,sl,c,_,rfl,g,λp H3 s3 hp=>q p H3 (a.trans s3) hp⟩
  |false=>exact ifF nZ ⟨_,rfl,(ixT (a _ _ d) rfl ⟨p1,k,i+1,sl,c,_,rfl,g,λp H3 s3 hp=>q p H3 (a.trans s3) hp⟩)⟩
end
abbrev s_own_done:Stmt:=top 57
noncomputable abbrev NL:List Str:=["cells","frame","row","word","top"]
theorem sc_own_done:FnScope NL VE (A9 s_own_done):=fS
noncomputable def RS:List (Str×V):=[("add",.str "+"),("sub",.str "-"),("mul",.str "*"),("div",.str "/"),("less",.str "<"),("same",.str "=")]
def S5:Rk->Str
 | .push _=> "push"| .load _=> "load"| .keep _=> "keep"| .two k=>wd k| .not=> "not"| .skip _=> "skip"| .unless _=> "unless"
theorem VS(rk:Rk):atI (rkV rk) 0=some (.str (S5 rk)):=by cases rk<;>rfl
theorem wd_in:∀k:Nat,(RS.lookup (wd k)).isSome=true
 |0=>by decide|1=>by decide|2=>by decide|3=>by decide|4=>by decide|n+5=>by show(List.lookup ("div":Str) RS).isSome=true;decide
theorem rs_at{k:Nat}(h:k<6):RS.lookup (wd k)=some (.str (_N.sg k)):=by
 have hk:k=0\/k=1\/k=2\/k=3\/k=4\/k=5:=by omega
 rcases hk with rfl|rfl|rfl|rfl|rfl|rfl<;>rfl
section
def ezZ(C:Addr)(H:Hp)(Q:VK)(o L:Addr)(us:List V)(k at_:Int)(sl:List V):Eo->Prop
 | .fr d sl' st'=>∀p q H',Same H H'->H' p=some (.tup [.str "frame",.ref q])->FrAt H' q k (at_+d) sl' st'->Q (.ref p) H'
 | .rf w=>∀p H',Same H H'->H' p=some (.tup [.str "refused",.str w])->Q (.ref p) H'
inductive spOwnW (C:Addr) (vs:List V) (H:Hp) (Q:VK):Prop
 |mk:∀(o L:Addr) (us:List V) (fr:Addr) (k at_:Int) (sl st:List V) (r:Addr) (rk:Rk) (eo:Eo),(vs=[.ref o,.ref fr,.ref r])->(CAt C H o L us)->(us.length<=500)->(FrAt H fr k at_ sl st)->(st.length<=2000)->(sl.length<=100)->(H r=some (.tup (rkV rk)))->(Ef H us sl rk st eo)->(ezZ C H Q o L us k at_ sl eo)->spOwnW C vs H Q
def DP(C:Addr):Sp:=λvs H Q _=>spOwnW C vs H Q
theorem ok_own_done{mg:Str->Option Value}(F:Fun Z "own_done" "own_done" s_own_done f fd)(TD:TopD w Z rs RS)(m_ROW_SIGNS:mg "ROW_SIGNS"=some (.ref rs))
  (NF:FnOk P w Z mg qB CX0 3 W5 DM aKZ eqZ)(MV:Binds Z DM aKZ [])(MQ:kZ Z (.ref W5)=true)(MG:mg "two_done"=some (.ref W5))
  (IR:FnOk P w Z mg qB CX0 2 S6 BK ["cells","frame","word"] spVoid)(JA:Binds Z BK ["cells","frame","word"] [])(IW:kZ Z (.ref S6)=true)(IN:mg "part_done"=some (.ref S6))
  (CI:FnOk P w Z mg qB CX0 2 M9 R8 VE spVoid)(CG:Binds Z R8 VE [])(CK:kZ Z (.ref M9)=true)(CN:mg "with_new_cell"=some (.ref M9))
  (W2:FnOk P w Z mg qB CX0 2 J9 O0 LK ebZ)(W4:Binds Z O0 LK [])(W6:kZ Z (.ref J9)=true)(V9:mg "with_nothing_put"=some (.ref J9))
  (JF:FnOk P w Z mg qB CX0 1 T0 BI LK e3Z)(IX:Binds Z BI LK [])(JE:kZ Z (.ref T0)=true)(JK:mg "value_put"=some (.ref T0))
  (M6:FnOk P w Z mg qB CX0 1 T5 X7 UE KH)(IT:Binds Z X7 UE [])(JD:kZ Z (.ref T5)=true)(JC:mg "behind"=some (.ref T5)):
  FnOk P w Z mg qB CX0 4 f fd VE (DP C):=by
 refine F.ok sc_own_done (λvs H Q E h=> ?_) (λM A u s H vs Q E hr h=> ?_)
 ·obtain⟨o,L,us,fr,k,i,sl,st,r,rk,eo,rfl,_⟩:=h;rfl
 obtain⟨o,L,us,fr,k,i,sl,st,r,rk,eo,rfl,hC,I,hF,hz,J,l,hE,q⟩:=h;have nd:=sc_own_done.nd;have hu:=hr.units0;refine⟨_,(A7 (sS 3 nd (ixE Z w (pv 2) A6))
   (A7 (C2 (B7 (kIn (Z:=Z) (w:=w)) (pv 3) (D7 (v:=.ref _) rfl m_ROW_SIGNS rfl) rfl) (A8 (B6 (D6 NF (hr.mono (by omega)) rfl MG MQ MV .nil F8 (A0 (pv 1) (A0 (ixE Z w (D7 (v:=.ref _) rfl m_ROW_SIGNS rfl) (pv 3)) A5))))) C0)
   (A7 (C2 (B7 (kIn (Z:=Z) (w:=w)) (pv 3) (B4 (A0 B0 (A0 B0 A5))) rfl) (A8 (B6 (D6 IR (hr.mono (by omega)) rfl IN IW JA .nil F8 (A0 (pv 0) (A0 (pv 1) (A0 (pv 3) A5)))))) C0)
   (A7 (C2 (B7 (kIn (Z:=Z) (w:=w)) (pv 3) (B4 (A0 B0 (A0 B0 A5))) rfl) (A8 (B6 (B4 (A0 B0 (A0 (D6 CI (hr.mono (by omega)) rfl CN CK CG .nil F8 (A0 (pv 0) (A0 (pv 1) (A0 (pv 2) A5)))) A5))))) C0)
   (A7 (C2 (B7 (kIn (Z:=Z) (w:=w)) (pv 3) (B4 (A0 B0 (A0 B0 (A0 B0 A5)))) rfl) (A8 (B6 (B4 (A0 B0 (A0 (D6 W2 (hr.mono (by omega)) rfl V9 W6 W4 .nil F8 (A0 (pv 1) (A0 (pv 2) A5))) A5))))) C0)
   (A7 (C2 (B7 (kIn (Z:=Z) (w:=w)) (pv 3) (B4 (A0 B0 (A0 B0 A5))) rfl) (A7 (sS 4 nd (ixE Z w (ixE Z w (pv 1) A6) (K8 G2 A6)))
   (A8 (B6 (B4 (A0 B0 (A0 (D6 M6 (hr.mono (by omega)) rfl JC JD IT .nil F8 (A0 (pv 1) (A0 A6 (A0 (B4 (A0 (J6 (B7 (kEq (Z:=Z) hu) (pv 3) B0 rfl) (F7 EJ (pv 4) G9 rfl) (HC (pv 4))) A5)) A5)))) A5)))))) C0)
   (A8 (B6 (B4 (A0 B0 (A0 (D6 M6 (hr.mono (by omega)) rfl JC JD IT .nil F8 (A0 (pv 1) (A0 A6 (A0 (B4 (A0 (D6 JF (hr.mono (by omega)) rfl JK JE IX .nil F8 (A0 (pv 1) (A0 (pv 2) A5))) A5)) A5)))) A5))))))))))), ?_⟩
 refine⟨_,rfl,(ixT l (VS rk) ?_)⟩;refine⟨_,rfl,.inr (.inr ⟨S5 rk,rs,RS,rfl,rfl,TD,_,rfl,K5 (λc1=> ?_) (λc1=> ?_)⟩)⟩
 ·cases hE<;>first|(exfalso;simp only[S5]at c1;revert c1;decide)|skip
  case twoV g a b v st hg ha hb he hv=>
   refine⟨_,rfl,_,rfl,.inr (.inr (.inr ⟨_,_,RS,_,rfl,rfl,TD,rs_at hg,fr,k,i,sl,st,g,a,b,rfl,hF,by simp at hz;omega,hg,ha,hb,λv' p q1 H' e s1 h1 h2=> ?_,λw' p H' e s1 h1=> ?_⟩))⟩
   ·rw[he]at e;have e':=(List.cons.inj (List.cons.inj e).2).1;subst e';exact q p q1 H' s1 h1 h2
   ·rw[he]at e;exact absurd (List.cons.inj e).1 (by decide)
  case twoR g a b w0 st hg ha hb he=>
   refine⟨_,rfl,_,rfl,.inr (.inr (.inr ⟨_,_,RS,_,rfl,rfl,TD,rs_at hg,fr,k,i,sl,st,g,a,b,rfl,hF,by simp at hz;omega,hg,ha,hb,λv' p q1 H' e s1 h1 h2=> ?_,λw' p H' e s1 h1=> ?_⟩))⟩
   ·rw[he]at e;exact absurd (List.cons.inj e).1 (by decide)
   ·rw[he]at e;have e':=(List.cons.inj (List.cons.inj e).2).1;injection e' with e'
    subst e';exact q p H' s1 h1
 refine⟨_,rfl,C3,λt1 B=> .inr (.inl ⟨t1,_,rfl,.inr (SqT.of A4),rfl,rfl,_,rfl,K5 (λc2=> ?_) (λc2=> ?_)⟩)⟩
 ·have s1:=qA B (.tup [.str "head",.str "tail"]);have c:=hF.mono (tups_of s1);have G:=hC.same s1;cases hE<;>first|exact absurd (wd_in _) c1|(exfalso;simp only[S5]at c2;revert c2;decide)|skip
 have s1:=qA B (.tup [.str "head",.str "tail"]);refine⟨_,rfl,C3,λt2 z=> .inr (.inl ⟨t2,_,rfl,.inr (SqT.of A4),rfl,rfl,_,rfl,K5 (λc3=> ?_) (λc3=> ?_)⟩)⟩
 ·have s2:=s1.trans (qA z (.tup [.str "cons",.str "close"]));have c:=hF.mono (tups_of s2);have G:=hC.same s2;cases hE<;>first|exact absurd (wd_in _) c1|(exfalso;simp only[S5]at c3;revert c3;decide)|skip
 have s2:=s1.trans (qA z (.tup [.str "cons",.str "close"]));refine⟨_,rfl,E1,λt3 y=> .inr (.inl ⟨t3,_,rfl,.inr (SqT.of A4),rfl,rfl,_,rfl,K5 (λc4=> ?_) (λc4=> ?_)⟩)⟩
 ·have s3:=s2.trans (qA y (.tup [.str "keep",.str "skip",.str "unless"]));have c:=hF.mono (tups_of s3);cases hE<;>first|exact absurd (wd_in _) c1|(exfalso;simp only[S5]at c4;revert c4;decide)|skip
  case keep j v st hj=>
   refine⟨_,rfl,_,rfl,fr,k,i,sl,_,r,rfl,c,hz,by omega,.inl ⟨j,st,v,s3 _ _ l,rfl,λq1 H' s4 g=>⟨C3,λp hp=> ?_⟩⟩⟩;have s5:=qA hp (.tup [.str "frame",.ref q1]);exact q p q1 _ (s3.trans (s4.trans s5)) A4 (g.mono (tups_of s5))
  case skip n=>
   refine⟨_,rfl,_,rfl,fr,k,i,sl,_,r,rfl,c,hz,by omega,.inr (.inl ⟨n,s3 _ _ l,λq1 H' s4 g=>⟨C3,λp hp=> ?_⟩⟩)⟩;have s5:=qA hp (.tup [.str "frame",.ref q1]);exact q p q1 _ (s3.trans (s4.trans s5)) A4 (by rw[<-Int.add_assoc];exact g.mono (tups_of s5))
  case «unless» n b st=>
   refine⟨_,rfl,_,rfl,fr,k,i,sl,_,r,rfl,c,hz,by omega,.inr (.inr ⟨n,st,b,s3 _ _ l,rfl,λq1 H' s4 g=>⟨C3,λp hp=> ?_⟩⟩)⟩;have s5:=qA hp (.tup [.str "frame",.ref q1]);exact q p q1 _ (s3.trans (s4.trans s5)) A4 (by rw[<-Int.add_assoc];exact g.mono (tups_of s5))
 have s3:=s2.trans (qA y (.tup [.str "keep",.str "skip",.str "unless"]));refine⟨_,rfl,C3,λt4 x=> .inr (.inl ⟨t4,_,rfl,.inr (SqT.of A4),rfl,rfl,_,rfl,K5 (λc5=> ?_) (λc5=> ?_)⟩)⟩
 ·have s4:=s3.trans (qA x (.tup [.str "empty",.str "not"]));have c:=hF.mono (tups_of s4);obtain⟨q0,e0,h1,h2,h3⟩:=id c;cases hE<;>first|exact absurd (wd_in _) c1|(exfalso;simp only[S5]at c5;revert c5;decide)|skip
  case not b st=>
   refine⟨_,rfl,(ixT h1 rfl ⟨_,rfl,(ixT h3 (K7 _ _) ?_)⟩)⟩;refine⟨_,rfl,_,rfl,.inl ⟨rfl,_,rfl,ifF (by decide) ⟨_,rfl,b,rfl,F5,λt5 d=> ?_⟩⟩⟩;have s5:=qA d (.tup [.bl (!b)]);refine⟨fr,k,i,sl,_,1,t5,_,rfl,c.mono (tups_of s5),by simp,A4,by simp at hz⊢;omega,λq1 H6 s6 hq=>⟨C3,λp hp=> ?_⟩⟩;have e2:(st++ [V.bl b]).take ((st++ [V.bl b]).length - 1)=st:=by simp
   rw[e2]at hq;have s7:=qA hp (.tup [.str "frame",.ref q1]);exact q p q1 _ (s4.trans (s5.trans (s6.trans s7))) A4 (hq.mono (tups_of s7))
 have s4:=s3.trans (qA x (.tup [.str "empty",.str "not"]));have c:=hF.mono (tups_of s4);have D:∃v,Ef H us sl rk st eo/\eo=.fr 1 sl (st++ [v])/\((∃v',H r=some (.tup [.str "push",v'])/\v'=v)\/(H r=some (.tup [.str "none"])/\v=.non)\/(∃(j:Nat),H r=some (.tup [.str "load",.int (j:Nat)])/\sl[j]? =some v)):=by
  cases hE<;>first|exact absurd (wd_in _) c1|(exfalso;simp only[S5]at c5;revert c5;decide)|(exfalso;simp only[S5]at c4;revert c4;decide)|(exfalso;simp only[S5]at c3;revert c3;decide)|(exfalso;simp only[S5]at c2;revert c2;decide)|skip
  case push v hv=>exact⟨v,.push hv,rfl,.inl ⟨v,l,rfl⟩⟩
  case load j v hj=>exact⟨v,.load hj,rfl,.inr (.inr ⟨j,l,hj⟩)⟩
 obtain⟨v,_,rfl,hv⟩:=D;have t:∀(t5:Addr) (H5:Hp),Same _ H5->H5 t5=some (.tup [v])->KH [.ref fr,.int 0,.ref t5] H5 (λv1 H1=>tTupW Q [.str "frame",v1] H1) E:=λt5 H5 s5 d=>
  ⟨fr,k,i,sl,st,0,t5,[v],rfl,c.mono (tups_of s5),zero_le _,d,by simp;omega,λq1 H6 s6 hq=>⟨C3,λp hp=>by
   have s7:=qA hp (.tup [.str "frame",.ref q1]);rw[sub_zero,take_length]at hq;exact q p q1 _ (s4.trans (s5.trans (s6.trans s7))) A4 (hq.mono (tups_of s7))⟩⟩
 refine⟨_,rfl,_,rfl,_,rfl,fr,k,i,sl,st,r,rfl,c, ?_⟩;rcases hv with⟨v',m,rfl⟩|⟨m,rfl⟩|⟨j,m,hj⟩
 ·exact .inl ⟨v',s4 _ _ m,F5,λt5 d=>t t5 _ (qA d _) A4⟩
 ·exact .inr (.inl ⟨s4 _ _ m,F5,λt5 d=>t t5 _ (qA d _) A4⟩)
 ·exact .inr (.inr ⟨j,v,s4 _ _ m,hj,F5,λt5 d=>t t5 _ (qA d _) A4⟩)
end
end _C
namespace _S
open PySem _L _B _C
inductive Vl where
 |sc (v:V)|cell (k:Nat)
inductive Cl where
 |pair (a b:Vl)|fn (n:Int) (vs:List Vl)
def scV:V->Bool
 | .int _=>true
 | .bl _=>true
 | .non=>true
 |_=>false
theorem cuZ(h:scV v=true):isSc v=true:=by cases v<;>first|rfl|(cases h;done)
def VAt(H:Hp):Vl->V->Prop
 | .sc x,v=>v=x/\scV x=true
 | .cell k,v=>∃p:Addr,v=.ref p/\H p=some (.tup [.str "cell",.int (k:Nat)])
def ClAt(H:Hp):Cl->V->Prop
 | .pair a b,u=>∃(p:Addr) (x y:V),u=.ref p/\H p=some (.tup [.str "pair",x,y])/\VAt H a x/\VAt H b y
 | .fn n vs,u=>∃(p q:Addr) (xs:List V),u=.ref p/\H p=some (.tup [.str "fn",.int n,.ref q])/\H q=some (.tup xs)/\All2 (VAt H) vs xs/\vs.length<=10
theorem VAt.mo(m:Mo H H'):∀ {x:Vl} {v:V},VAt H x v->VAt H' x v
 | .sc _,_,h=>h
 | .cell _,_,⟨p,e,h⟩=>⟨p,e,m _ _ h⟩
theorem ClAt.mo(m:Mo H H'):∀ {c:Cl} {u:V},ClAt H c u->ClAt H' c u
 | .pair _ _,_,⟨p,x,y,e,h,h1,h2⟩=>⟨p,x,y,e,m _ _ h,h1.mo m,h2.mo m⟩
 | .fn _ _,_,⟨p,q,xs,e,h,h1,h2,h3⟩=>⟨p,q,xs,e,m _ _ h,m _ _ h1,h2.imp λ_ _ z=>VAt.mo m z,h3⟩
end _S
namespace _B
open PySem _L
seal PE PT PW PA PS PSs PTs PI PG PGs PO
def top(i:Nat):Stmt:=PySem.Challenge.pw_speakmill_k73_folded.main.body.getD i (.Pass ⟨0,0,0,0⟩)
abbrev s_built_up:Stmt:=top 35
noncomputable abbrev DZ:List Str:=["root","parts_in","made","met","waiting","node","parts","done","many","made_parts"]
theorem sc_built_up:FnScope DZ OD (A9 s_built_up):=fS
structure NoG (mg:Str->Option Value):Prop where
 len_:mg "len"=none
 list_:mg "list"=none
 reversed_:mg "reversed"=none
 range_:mg "range"=none
 zip_:mg "zip"=none
 isinstance_:mg "isinstance"=none
 str_:mg "str"=none
 tuple_:mg "tuple"=none
 sum_:mg "sum"=none
 max_:mg "max"=none
 min_:mg "min"=none
 int_:mg "int"=none
 bool_:mg "bool"=none
 enumerate_:mg "enumerate"=none
 all_:mg "all"=none
theorem ifT{A:Prop}[Decidable c](h:c)(a:A):if c then A else B:=by rw[if_pos h];exact a
theorem ifF{B:Prop}[Decidable c](h:¬c)(b:B):if c then A else B:=by rw[if_neg h];exact b
theorem D5{H:Hp}{a b:Addr}{o:HO}(h:H b=some o)(n:b≠a):upd H a o' b=some o:=by rw[B5 n];exact h
theorem ZG(h:upd H a o' b=none):H b=none/\b≠a:=by
 by_cases e:b=a
 ·subst e;rw[A4]at h;cases h
 ·rw[B5 e]at h;exact⟨h,e⟩
theorem JW(y:V)(ws:List V):(y::ws).reverse[(y::ws).reverse.length - 1]? =some y:=by
 rw[reverse_cons];simp
theorem KM(y:V)(ws:List V):(y::ws).reverse.dropLast=ws.reverse:=by
 rw[reverse_cons];simp
theorem c7Z{ws us:List V}(h:ws.reverse=us):ws=us.reverse:=by rw[<-h,reverse_reverse]
theorem take_one{α:Type}{A:List α}{k:Nat}{t:α}(h:A[k]? =some t):A.take (k+1)=A.take k++ [t]:=by
 obtain⟨h1,h2⟩:=List.getElem?_eq_some_iff.mp h;rw[take_succ_eq_append_getElem h1,h2]
inductive spM2W (D:Tr) (O:AS) (vs:List V) (H:Hp) (Q:VK):Prop
 |mk:∀S t v l us,(vs=[v,.ref l])->(D.val S H t v)->(D.size t<=400000)->(H l=some (.lst us))->(¬S l)->(¬O l)->((∀a,S a->H a≠none))->(All2 (D.res S H) (D.kids t) us)->(∀r H',Same H H'->D.res S H' t r->Q r H')->spM2W D O vs H Q
def ayZ(D:Tr)(O:AS):Sp:=λvs H Q _=>spM2W D O vs H Q
inductive spBuilt2W (P:Program) (w:World) (Z:FZ) (mg:Str->Option Value) (qB:Heap) (vs:List V) (H:Hp) (Q:VK):Prop
 |mk:∀(D:Tr) (S O:AS) (t:D.T) (v:V) (fp fm:Addr) (dp dm:FuncData) (np nm:List Str),(vs=[v,.ref fp,.ref fm])->(FnOk P w Z mg qB CX0 3 fp dp np (spP D))->(EC Z qB fp)->(Binds Z dp np [])->(FnOk P w Z mg qB CX0 3 fm dm nm (ayZ D O))->(EC Z qB fm)->(Binds Z dm nm [])->((∀a,S a->H a≠none))->((∀a,O a->H a≠none))->(D.val S H t v)->(D.size t<=400000)->(∀r H',Same H H'->D.res S H' t r->Q r H')->spBuilt2W P w Z mg qB vs H Q
def DY(P:Program)(w:World)(Z:FZ)(mg:Str->Option Value)(qB:Heap):Sp:=λvs H Q _=>spBuilt2W P w Z mg qB vs H Q
section
theorem ok_built_up(F:Fun Z "built_up" "built_up" s_built_up f fd)(B:NoG mg):FnOk P w Z mg qB CX0 4 f fd OD (DY P w Z mg qB):=by
 refine F.ok sc_built_up (λvs H Q E h=> ?_) (λbs A an s H vs Q E hr h=> ?_)
 ·obtain⟨D,S,O,t,v,fp,fm,dp,dm,np,nm,rfl,_⟩:=h;rfl
 obtain⟨D,S,O,t,v,fp,fm,dp,dm,np,nm,rfl,FP,kp,bp,FM,km,bm,bf,bh,ag,bl,q⟩:=h;have nd:=sc_built_up.nd;have hu:=hr.units0;have z1:(1:Nat)<=sizeLine:=by decide
 have z2:(2:Nat)<=sizeLine:=by decide
 have z3:(400000:Nat)+400000<sizeLine:=by decide
 refine⟨_,(A7 (sS 3 nd (C8 A5))
   (A7 (sS 4 nd (C8 (A0 (pv 0) A5)))
   (A7 (Z7 PassesOwn.never (E5 (Z:=Z) (pv 4) (λ_=>rfl)) (A7 (sS 5 nd (LL (Z:=Z) PySem.F.plainAttrs_list PySem.F.slot_list_pop PySem.F.type_list_pop EB (pv 4)))
   (A7 (sS 6 nd (FQ (P:=P) (w:=w) (Z:=Z) (mg:=mg) (qB:=qB) (pv 1) F8 (A0 (pv 5) A5)))
   (A7 (E4 (aP Z (pv 3) (B4 (A0 (pv 5) (A0 (kL Z B.len_ (pv 6)) A5)))))
   (A8 (E4 (XE (Z:=Z) PySem.F.plainAttrs_list PySem.F.slot_list_extend PySem.F.type_list_extend FU (pv 4) (A0 (PC (Z:=Z) rfl B.reversed_ rfl B.list_ rfl (A0 (pv 6) A5)) A5))))))))
   (A7 (W9 (i:=7) nd rfl (Or.inr rfl) (C8 A5))
   (A7 (L4 PassesOwn.never rfl (c4Z (Z:=Z) rfl B.reversed_ (A0 (pv 3) A5)) (PD rfl (Q0 (gN 5 nd) (Q0 (gN 8 nd) HM))) (A7 (K1 (i:=9) nd rfl rfl (cS (N:=DZ) (sc:=A9 s_built_up) (caps:=[7]) (ns:=["done"])) rfl rfl rfl (F4 rfl B.range_ (A0 (pv 8) A5)) (λ_ _ _ _ _=>J8) (λ_ _ _ _ _=>(LL (Z:=Z) PySem.F.plainAttrs_list PySem.F.slot_list_pop PySem.F.type_list_pop EB (pv 1))))
   (A8 (E4 (aP Z (pv 7) (FQ (P:=P) (w:=w) (Z:=Z) (mg:=mg) (qB:=qB) (pv 2) F8 (A0 (pv 5) (A0 (pv 9) A5))))))))
   (A8 (B6 (LL (Z:=Z) PySem.F.plainAttrs_list PySem.F.slot_list_pop PySem.F.type_list_pop EB (pv 7))))))))), ?_⟩
 refine⟨(by show 0<=sizeLine;decide),λml ai=> ?_⟩;refine⟨_,rfl,z1,λwl k=> ?_⟩;obtain⟨ae,M⟩:=ZG k;have g0:Same H (upd (upd H ml (.lst [])) wl (.lst [v])):=(qA ai _).trans (qA k _);obtain⟨S1,w1,bg,mS,wS,aa⟩:∃S1:AS,Wd H S S1/\(∀H':Hp,Same H H'->H' ml≠none->H' wl≠none->∀a,S1 a->H' a≠none)/\S1 ml/\S1 wl/\∀a,S a->S1 a:=by
  refine⟨λa=>S a\/a=ml\/a=wl,λa ha=> ?_,λH' sm h1 h2 a ha=> ?_,.inr (.inl rfl),.inr (.inr rfl),λa h=> .inl h⟩
  ·rcases ha with h|rfl|rfl
   ·exact .inl h
   ·exact .inr ai
   ·exact .inr ae
  ·rcases ha with h|rfl|rfl
   ·obtain⟨o,ho⟩:=ne_none_iff_exists'.mp (bf a h);rw[sm _ _ ho];exact λz=>nomatch z
   ·exact h1
   ·exact h2
 have C:=D.vw w1 ag;refine⟨λm σ H'=>∃(N W:List D.T) (ms ws:List V) (y1 y2:Option V),σ=[some v,some (.ref fp),some (.ref fm),some (.ref ml),some (.ref wl),y1,y2,none,none,none]/\Same H H'/\H' ml=some (.lst ms)/\H' wl=some (.lst ws)/\
   All2 (MetAt D S1 H') N ms/\All2 (D.val S1 H') W ws.reverse/\Reach D t N W/\m=(W.map D.size).sum,
  ⟨D.size t,[],[t],[],[v],none,none,rfl,g0,D5 A4 (Ne.symm M),A4,.nil,.cons (D.vm (.of g0) C) .nil,.start,by simp⟩, ?_⟩
 rintro m σ H' ⟨N,W,ms,ws,y1,y2,rfl,sm,hm,hw,hN,hW,hR,rfl⟩;have bb:=hN.len;have a1:=hR.size;refine⟨_,rfl, !ws.isEmpty,.inl ⟨ws,SqL.of hw,rfl⟩, ?_⟩;generalize ew:ws.reverse=wr at hW;have ew:=c7Z ew;subst ew;cases hW with
 | @cons n u W' wr hn hW'=>
  refine ifT (by simp) ?_;refine⟨_,λ_ _ h=>h, ?_⟩;refine⟨_,rfl,.inl ⟨rfl,_,SqL.of hw⟩,wl,_,_,rfl,rfl,hw,JW _ _, ?_⟩;rw[KM];have t1:Kp S1 H' (upd H' wl (.lst wr.reverse)):=.upd wS hw _;have ak:upd H' wl (.lst wr.reverse) ml=some (.lst ms):=D5 hm (Ne.symm M);have af:upd H' wl (.lst wr.reverse) wl=some (.lst wr.reverse):=A4;have o1:Same H (upd H' wl (.lst wr.reverse)):=λb o e=>D5 (sm b o e) (B9 e ae);generalize upd H' wl (.lst wr.reverse)=H1 at t1 ak af o1⊢;have bc:=D.kids_le n;have d:D.size n<=400000:=by simp only[map_cons,sum_cons]at a1;omega
  refine⟨_,rfl,fp,dp,np,spP D,3,rfl,FP,hr.mono (by decide),kp,bp,_,rfl,S1,n,u,rfl,D.vm t1 hn,d,λr H2 ps s2 U ap aq=> ?_⟩;have G:=s2 _ _ ak;have a8:=s2 _ _ af;have o2:=o1.trans s2;have t2:Kp S1 H' H2:=t1.trans (.of s2);have bj:r≠wl:=λe=>by subst e;rw[af]at U;cases U
  have a5:r≠ml:=λe=>by subst e;rw[ak]at U;cases U
  have ba:=aq.len;refine⟨_,rfl,.inl ⟨rfl,_,SqL.of G⟩,_,rfl,_,rfl,_,_,rfl,.inl ⟨_,SqL.of ap,rfl⟩,z2,λp hp=> ?_⟩;have s3:Same H2 (upd H2 p (.tup [u,.int (ps.length:Nat)])):=qA hp _;refine⟨ml,_,_,rfl,rfl,s3 _ _ G,by omega, ?_⟩;have t4:Kp S1 H' (upd (upd H2 p (.tup [u,.int (ps.length:Nat)])) ml (.lst (ms++ [.ref p]))):=(t2.trans (.of s3)).trans (.upd mS (s3 _ _ G) _);have ar:upd (upd H2 p (.tup [u,.int (ps.length:Nat)])) ml (.lst (ms++ [.ref p])) p=some (.tup [u,.int (ps.length:Nat)]):=D5 A4 (λe=>by subst e;rw[G]at hp;cases hp);have au:upd (upd H2 p (.tup [u,.int (ps.length:Nat)])) ml (.lst (ms++ [.ref p])) ml=some (.lst (ms++ [.ref p])):=A4;have R:upd (upd H2 p (.tup [u,.int (ps.length:Nat)])) ml (.lst (ms++ [.ref p])) wl=some (.lst wr.reverse):=D5 (s3 _ _ a8) M;have ao:upd (upd H2 p (.tup [u,.int (ps.length:Nat)])) ml (.lst (ms++ [.ref p])) r=some (.lst ps):=D5 (s3 _ _ ap) a5;have o4:Same H (upd (upd H2 p (.tup [u,.int (ps.length:Nat)])) ml (.lst (ms++ [.ref p]))):=λb o e=>D5 (s3 _ _ (o2 b o e)) (B9 e ai);have am:Kp S1 H2 (upd (upd H2 p (.tup [u,.int (ps.length:Nat)])) ml (.lst (ms++ [.ref p]))):=(Kp.of s3).trans (.upd mS (s3 _ _ G) _);generalize upd (upd H2 p (.tup [u,.int (ps.length:Nat)])) ml (.lst (ms++ [.ref p]))=H4 at t4 ar au R ao o4 am⊢;refine⟨_,rfl,.inl ⟨rfl,_,SqL.of R⟩,_,rfl,r,ps,rfl,SqL.of ao,λr2 ah=> ?_⟩;have s5:Same H4 (upd H4 r2 (.lst ps.reverse)):=qA ah _;have bq:=D.len_le W';have br:=hW'.len;refine⟨wl,r2,_,_,rfl,rfl,s5 _ _ R,A4, ?_, ?_⟩
  ·simp only[length_reverse];simp only[map_cons,sum_cons]at a1;omega
  have t6:Kp S1 H4 (upd (upd H4 r2 (.lst ps.reverse)) wl (.lst (wr.reverse++ps.reverse))):=(Kp.of s5).trans (.upd wS (s5 _ _ R) _);refine⟨_, ?_,N++ [n],D.kids n++W',ms++ [.ref p],wr.reverse++ps.reverse,_,_,rfl,λb o e=>D5 (s5 _ _ (o4 b o e)) (B9 e ae),D5 (s5 _ _ au) (Ne.symm M),A4, ?_, ?_,.step hR,rfl⟩
  ·simp only[map_append,sum_append,map_cons,sum_cons];have:=D.hsz n;omega
  ·refine(hN.imp λa b h=>h.mono (t4.trans t6)).app (.cons ⟨p,u,rfl, ?_,D.vm (t4.trans t6) hn⟩ .nil);rw[ba];exact t6.tups ar
  ·rw[reverse_append,reverse_reverse,reverse_reverse];exact(aq.imp λa b h=>D.vm (am.trans t6) h).app (hW'.imp λa b h=>D.vm (t4.trans t6) h)
 |nil=>
  refine ifF (by simp) ?_;refine⟨(by show 0<=sizeLine;decide),λdl g=> ?_⟩;have s7:Same H' (upd H' dl (.lst [])):=qA g _;have c:H dl=none:=sm.free g;have ac:dl≠ml:=λe=>by subst e;rw[hm]at g;cases g
  have bo:H' ml≠none:=by rw[hm];exact λz=>nomatch z
  have bk:H' wl≠none:=by rw[hw];exact λz=>nomatch z
  have ab:dl≠wl:=λe=>by subst e;rw[hw]at g;cases g
  obtain⟨S2,w2,a0,dS,Y⟩:∃S2:AS,Wd H' S1 S2/\(∀H2:Hp,Same H H2->H2 ml≠none->H2 wl≠none->H2 dl≠none->∀a,S2 a->H2 a≠none)/\S2 dl/\∀a,S a->S2 a:=by
   refine⟨λa=>S1 a\/a=dl,λa ha=> ?_,λH2 a4 h1 h2 h3 a ha=> ?_,.inr rfl,λa h=> .inl (aa a h)⟩
   ·rcases ha with h|rfl
    ·exact .inl h
    ·exact .inr g
   ·rcases ha with h|rfl
    ·exact bg H2 a4 h1 h2 a h
    ·exact h3
  have bi:=hN.imp λa b h=>h.wide w2;refine⟨_,rfl,ml,ms,rfl,SqL.of (s7 _ _ hm),beZ (xs:=ms) (λi σ H'=>∃(W:List D.T) (us:List V) (y1 y2 y3 y4:Option V),σ=[some v,some (.ref fp),some (.ref fm),some (.ref ml),some (.ref wl),y1,y2,some (.ref dl),y3,y4]/\Same H H'/\H' ml=some (.lst ms)/\H' wl≠none/\
   All2 (MetAt D S2 H') N ms/\H' dl=some (.lst us.reverse)/\All2 (D.res S2 H') W us/\Reach D t (N.take (N.length - i)) W) ?_ ?_ ?_ ?_⟩
  ·exact⟨[],[],_,_,_,_,rfl,sm.trans s7,s7 _ _ hm,(by rw[s7 _ _ hw];exact λz=>nomatch z),bi.imp λa b h=>h.mono (.of s7),A4,.nil,by rw[sub_zero,take_length];exact hR⟩
  ·rintro i σ H' _ ⟨W,us,y1,y2,y3,y4,rfl,sm,hm,_⟩;exact SqL.of hm
  ·rintro i x σ H' hx ⟨W,us,y1,y2,y3,y4,rfl,sm,hm,ad,hN,hd,hW,L⟩;have hi:i<ms.length:=by
    have:=(List.getElem?_eq_some_iff.mp hx).1
    simpa using this
   rw[getElem?_reverse hi]at hx;obtain⟨n,hn,p,u,rfl,hp,a9⟩:=hN.get hx;have e1:N.length - i=(ms.length - 1 - i)+1:=by omega
   rw[e1,take_one hn]at L;obtain⟨r,rfl,a2⟩:=L.back;obtain⟨b1,b2,rfl,ay,ax⟩:=hW.split;have bd:=ay.len;have bc:=D.kids_le n;have J:=a2.size;have d:D.size n<=400000:=by simp only[map_cons,sum_cons]at J;omega
   refine⟨p,_,rfl,SqT.of hp,rfl,_,_,rfl,_,_,rfl,rfl, ?_⟩;refine⟨_,rfl,((D.kids n).length:Nat),rfl,by omega,by omega,M1 (n:=(D.kids n).length) (λj ys H2=>ys=b1.take j/\H2=upd H' dl (.lst (b1.drop j++b2).reverse)) ?_ ?_ ?_ ?_⟩
   ·exact⟨rfl,by rw[List.drop_zero];exact(duZ hd).symm⟩
   ·rintro j ys H2 hj ⟨rfl,_⟩;rw[length_take];omega
   ·rintro j ys H2 hj ⟨rfl,rfl⟩;refine O4 ?_;have aw:j<b1.length:=by omega
    have ed:b1.drop j=b1[j]::b1.drop (j+1):=List.drop_eq_getElem_cons aw;rw[ed];refine⟨_,rfl,.inl ⟨rfl,_,SqL.of A4⟩,dl,_,_,rfl,rfl,A4,JW _ _, ?_⟩;refine⟨?_, ?_⟩
    ·rw[take_succ_eq_append_getElem aw]
    ·rw[PV];congr 2;exact KM _ _
   ·rintro ys H2 ⟨rfl,rfl⟩ l hl;rw[bd,List.drop_length,take_length,nil_append]at*;have s8:Same (upd H' dl (.lst b2.reverse)) (upd (upd H' dl (.lst b2.reverse)) l (.lst b1)):=qA hl _;have t8:Kp S2 H' (upd (upd H' dl (.lst b2.reverse)) l (.lst b1)):=(Kp.upd dS hd _).trans (.of s8);have X:upd (upd H' dl (.lst b2.reverse)) l (.lst b1) wl≠none:=by
     obtain⟨o,ho⟩:=ne_none_iff_exists'.mp ad;rw[s8 _ _ (D5 ho (Ne.symm ab))];exact λz=>nomatch z
    have I:upd (upd H' dl (.lst b2.reverse)) l (.lst b1) dl=some (.lst b2.reverse):=s8 _ _ A4;have av:upd (upd H' dl (.lst b2.reverse)) l (.lst b1) l=some (.lst b1):=A4;have aj:upd (upd H' dl (.lst b2.reverse)) l (.lst b1) ml=some (.lst ms):=s8 _ _ (D5 hm (Ne.symm ac));have o8:Same H (upd (upd H' dl (.lst b2.reverse)) l (.lst b1)):=λb o e=>s8 _ _ (D5 (sm b o e) (B9 e c));have az:=a0 _ o8 (by rw[aj];exact λz=>nomatch z) X (by rw[I];exact λz=>nomatch z);have a6:¬S2 l:=λz=>by
     refine a0 _ (λb o e=>D5 (sm b o e) (B9 e c)) ?_ ?_ (by rw[A4];exact λz=>nomatch z) l z hl
     ·rw[D5 hm (Ne.symm ac)];exact λz=>nomatch z
     ·obtain⟨o,ho⟩:=ne_none_iff_exists'.mp ad;rw[D5 ho (Ne.symm ab)];exact λz=>nomatch z
    have a7:¬O l:=λz=>by
     obtain⟨o,ho⟩:=ne_none_iff_exists'.mp (bh l z);rw[D5 (sm l o ho) (B9 ho c)]at hl;cases hl
    generalize upd (upd H' dl (.lst b2.reverse)) l (.lst b1)=H8 at s8 t8 I av aj o8 X az⊢;refine⟨_,rfl,.inl ⟨rfl,_,SqL.of I⟩,_,rfl,fm,dm,nm,ayZ D O,3,rfl,FM,hr.mono (by decide),km,bm,_,rfl,_,rfl,S2,n,u,l,b1,rfl,D.vm t8 a9,d,av,a6,a7,az,ay.imp λa b h=>D.rm t8 h,λy H9 s9 hy=> ?_⟩;have be:=ax.len;have bn:=D.len_le r;refine⟨dl,_,_,rfl,rfl,s9 _ _ I, ?_, ?_⟩
    ·rw[length_reverse];simp only[map_cons,sum_cons]at J;omega
    have t9:Kp S2 H9 (upd H9 dl (.lst (b2.reverse++ [y]))):=.upd dS (s9 _ _ I) _;have al:Kp S2 H' (upd H9 dl (.lst (b2.reverse++ [y]))):=(t8.trans (.of s9)).trans t9;have a3:upd H9 dl (.lst (b2.reverse++ [y])) wl≠none:=by
     obtain⟨o,ho⟩:=ne_none_iff_exists'.mp X;rw[D5 (s9 _ _ ho) (Ne.symm ab)];exact λz=>nomatch z
    refine⟨n::r,y::b2,_,_,_,_,rfl,λb o e=>D5 (s9 _ _ (o8 b o e)) (B9 e c),D5 (s9 _ _ aj) (Ne.symm ac),a3,hN.imp λa b h=>h.mono al, ?_,.cons (D.rm t9 hy) (ax.imp λa b h=>D.rm al h), ?_⟩
    ·rw[reverse_cons];exact A4
    ·have e2:N.length - (i+1)=ms.length - 1 - i:=by omega
     rw[e2];exact a2
  ·rintro σ H' ⟨W,us,y1,y2,y3,y4,rfl,sm,hm,ad,hN,hd,hW,L⟩;rw[<-bb,sub_self,take_zero]at L;cases L.first
   cases hW with
   | @cons _ y _ us hy hrest=>
    cases hrest;refine⟨_,rfl,.inl ⟨rfl,_,SqL.of hd⟩,dl,_,_,rfl,rfl,hd,rfl, ?_⟩;exact q y _ (λb o e=>D5 (sm b o e) (B9 e c)) (D.rw' (λa ha=> .inl (Y a ha)) (D.rm (.upd dS hd _) hy))
end
end _B
namespace _Q
open PySem _L _B _C
inductive Pv where
 |int (i:Int)|bl (b:Bool)
def heads:Pv->List Pv
 |_=> []
def size:Pv->Nat
 |_=>1
theorem size_eq:∀t:Pv,size t=1+((heads t).map size).sum
 | .int _=>rfl
 | .bl _=>rfl
def VR(H:Hp)(us:List V):Pv->V->Prop
 | .int i,v=>v=.int i
 | .bl b,v=>v=.bl b
theorem VR.mono(m:Mo H H'):∀ {t:Pv} {v:V},VR H us t v->VR H' us t v
 | .int _,_,h=>h
 | .bl _,_,h=>h
def R(ok:AS)(H:Hp):Pv->(V->Prop)×(List V->Prop)
 | .int i=>(λv=>v=.int i,λrs=>rs=[])
 | .bl b=>(λv=>v=.bl b,λrs=>rs=[])
theorem R.mono{ok ok':AS}{H H':Hp}(m:∀a xs,ok a->H a=some (.lst xs)->H' a=some (.lst xs)/\ok' a):∀ {t:Pv},(∀ {v:V},(R ok H t).1 v->(R ok' H' t).1 v)/\∀ {rs:List V},(R ok H t).2 rs->(R ok' H' t).2 rs
 | .int _=>⟨λh=>h,λh=>h⟩
 | .bl _=>⟨λh=>h,λh=>h⟩
theorem eUZ(k:Kp S H H'):Mo H H':=k.1
def Dt(C o L:Addr)(us:List V)(O:AS):Tr where
 T:=Pv
 kids:=heads
 size:=size
 val:=λS H t v=>CAt C H o L us/\¬S o/\¬S L/\VR H us t v
 res:=λS H t r=>(R (λa=>¬O a/\¬S a) H t).1 r
 hsz:=size_eq
 vm:=λk ⟨⟨dx,h1,h2⟩,n1,n2,h⟩=>⟨⟨dx,k.2 _ _ h1 n1,k.2 _ _ h2 n2⟩,n1,n2,h.mono (eUZ k)⟩
 rm:=λk h=>(R.mono λa xs ha e=>⟨k.2 _ _ e ha.2,ha⟩).1 h
 vw:=λwd ⟨⟨dx,h1,h2⟩,n1,n2,h⟩=>⟨⟨dx,h1,h2⟩,λz=>(wd _ z).elim n1 (λe=>by rw[h1]at e;cases e),λz=>(wd _ z).elim n2 (λe=>by rw[h2]at e;cases e),h⟩
 rw':=λwd h=>(R.mono λa xs ha e=>⟨e,ha.1,λz=>(wd _ z).elim ha.2 λq=>by rw[e]at q;cases q⟩).1 h
end _Q
namespace _Q
open PySem _L _B _C
seal PE PT PW PA PS PSs PTs PI PG PGs PO
abbrev s_is_cell:Stmt:=_C.top 51
abbrev s_heads_of:Stmt:=_C.top 53
abbrev s_with_heads:Stmt:=_C.top 54
abbrev TK:List Str:=["value"]
theorem sc_is_cell:FnScope TK Z5 (A9 s_is_cell):=fS
noncomputable abbrev OX:List Str:=["cells","value","found","rest","cell"]
theorem sc_heads_of:FnScope OX MB (A9 s_heads_of):=fS
abbrev IL:List Str:=["value","heads"]
theorem sc_with_heads:FnScope IL VM (A9 s_with_heads):=fS
section
def isC(t:Pv):Bool:=match t with
 |_=>false
theorem bCZ(h:VR H us t v):∃ty,TyOf Z H v ty/\kitOne Z ty (.type "tuple")=some (isC t):=by
 cases t with
 |int i=>cases h;exact⟨_,.int i,rfl⟩
 |bl b=>cases h;exact⟨_,.bl b,rfl⟩
inductive spIsW (Z:FZ) (vs:List V) (H:Hp) (Q:VK):Prop
 |mk:∀x ty b,(vs=[x])->(TyOf Z H x ty)->(kitOne Z ty (.type "tuple")=some b)->(Q (.bl b) H)->spIsW Z vs H Q
def dpZ(Z:FZ):Sp:=λvs H Q _=>spIsW Z vs H Q
theorem ok_is_cell(F:Fun Z "is_cell" "is_cell" s_is_cell f fd)(B:_C.NoG mg):FnOk P w Z mg qB CX0 1 f fd Z5 (dpZ Z):=by
 refine F.ok sc_is_cell (λvs H Q E h=> ?_) (λc A a s H vs Q E hr h=> ?_)
 ·obtain⟨x,ty,b,rfl,_⟩:=h;rfl
 obtain⟨x,ty,b,rfl,h1,h2,q⟩:=h;have nd:=sc_is_cell.nd;refine⟨_,(A8 (B6 (F2 (Y6 (Z:=Z)) rfl B.isinstance_ D9 (A0 (pv 0) (A0 (N7 (v:=.ty "tuple") rfl B.tuple_ Q1 rfl) A5))))), ?_⟩;exact⟨_,rfl,_,_,_,_,rfl,h1,h2,q⟩
inductive spHeadsW (C:Addr) (vs:List V) (H:Hp) (Q:VK):Prop
 |mk:∀(o L:Addr) (us:List V) (t:Pv) (v:V),(vs=[.ref o,v])->(CAt C H o L us)->(VR H us t v)->(size t<=400000)->(∀r ps,H r=none->All2 (VR H us) (heads t) ps->Q (.ref r) (upd H r (.lst ps)))->spHeadsW C vs H Q
def QO(C:Addr):Sp:=λvs H Q _=>spHeadsW C vs H Q
theorem ok_heads_of(F:Fun Z "heads_of" "heads_of" s_heads_of f fd)(RC:RCls Z C mf md)(b9Z:∀k,FnOk P w Z mg qB CX0 (k+1) (mf "at") (md "at") LH (ePZ C))
  (AL:FnOk P w Z mg qB CX0 1 fic dic Z5 (dpZ Z))(AN:mg "is_cell"=some (.ref fic))(AI:kZ Z (.ref fic)=true)(AJ:Binds Z dic Z5 []):
  FnOk P w Z mg qB CX0 2 f fd MB (QO C):=by
 refine F.ok sc_heads_of (λvs H Q E h=> ?_) (λg A b s H vs Q E hr h=> ?_)
 ·obtain⟨o,L,us,t,v,rfl,_⟩:=h;rfl
 obtain⟨o,L,us,t,v,rfl,hc,ht,hz,q⟩:=h;have nd:=sc_heads_of.nd;have hu:=hr.units0;have zz:(400000:Nat)<sizeLine:=by decide
 have b9Z:=b9Z 0;refine⟨_,(A7 (sS 2 nd (C8 A5))
   (A7 (sS 3 nd (pv 1))
   (A7 (C6 (Z7 PassesOwn.never (E5 (Z:=Z) (D6 AL (hr.mono (by omega)) rfl AN AI AJ .nil F8 (A0 (pv 3) A5)) (λ_=>rfl)) (A7 (sS 4 nd (mC (pv 0) RC.cl RC.m_at b9Z hr RC.b_at (A0 (pv 3) A5)))
   (A7 (E4 (aP Z (pv 2) (ixE Z w (pv 4) A6)))
   (A8 (sS 3 nd (ixE Z w (pv 4) A6)))))))
   (A8 (B6 (pv 2)))))), ?_⟩
 refine⟨(by show 0<=sizeLine;decide),λfl c=> ?_⟩;have sm:∀ps,Same H (upd H fl (.lst ps)):=λps=>qA c _;refine⟨_,rfl,fun σ H'=>∃ps y1 y2,σ=[some (.ref o),some v,some (.ref fl),y1,y2]/\H'=upd H fl (.lst ps)/\All2 (VR H us) (heads t) ps, ?_, ?_⟩
 ·refine⟨λm σ H'=>∃(t':Pv) (a:V) (hs:List Pv) (ps:List V) (y2:Option V),σ=[some (.ref o),some v,some (.ref fl),some a,y2]/\H'=upd H fl (.lst ps)/\VR H us t' a/\heads t=hs++heads t'/\All2 (VR H us) hs ps/\hs.length+size t'<=400000/\m=size t',
   ⟨size t,t,v,[],[],none,rfl,rfl,ht,rfl,.nil,by simpa using hz,rfl⟩, ?_⟩
  rintro m σ H' ⟨t',a,hs,ps,y2,rfl,rfl,d,hh,hA,hl,rfl⟩;have hm:Mo H (upd H fl (.lst ps)):=tups_of (sm ps);obtain⟨ty,h1,h2⟩:=bCZ (Z:=Z) (d.mono hm);refine⟨_,rfl,_,_,_,rfl,h1,h2, ?_⟩;refine⟨isC t',rfl, ?_⟩;have e:=hA.len;cases t' with
  |int i=>exact _C.ifF nZ ⟨ps,_,_,rfl,rfl,by rw[hh];simpa [heads]using hA⟩
  |bl i=>exact _C.ifF nZ ⟨ps,_,_,rfl,rfl,by rw[hh];simpa [heads]using hA⟩
 ·rintro σ H' ⟨ps,y1,y2,rfl,rfl,hA⟩;exact⟨_,rfl,q fl ps c hA⟩
theorem ok_with_heads{O:AS}(F:Fun Z "with_heads" "with_heads" s_with_heads f fd)
  (AL:FnOk P w Z mg qB CX0 1 fic dic Z5 (dpZ Z))(AN:mg "is_cell"=some (.ref fic))(AI:kZ Z (.ref fic)=true)(AJ:Binds Z dic Z5 []):
  FnOk P w Z mg qB CX0 2 f fd VM (ayZ (Dt C o L us O) O):=by
 refine F.ok sc_with_heads (λvs H Q E h=> ?_) (λg A b s H vs Q E hr h=> ?_)
 ·obtain⟨S,t,v,l,rs,rfl,_⟩:=h;rfl
 obtain⟨S,t,v,l,rs,rfl,⟨hc,n1,n2,hv⟩,hz,hl,nS,nO,hS,hA,q⟩:=h;have nd:=sc_with_heads.nd;have hu:=hr.units0;obtain⟨ty,h1,h2⟩:=bCZ (Z:=Z) hv;have d:All2 (λt r=>(R (λa=>¬O a/\¬S a) H t).1 r) (heads t) rs:=hA;have c:∀r,(R (λa=>¬O a/\¬S a) H t).1 r->Q r H:=λr h=>q r H (λ_ _ e=>e) h;refine⟨_,(A8 (B6 (J6 (PW.pt (V6 (B7 EJ (pv 0) G9 rfl) (AZ (E5 (Z:=Z) (D6 AL (hr.mono (by omega)) rfl AN AI AJ .nil F8 (A0 (pv 0) A5)) (λ_=>rfl))))) (pv 1) (pv 0)))), ?_⟩;cases t with
 |int i=>cases hv;exact⟨_,rfl,rfl,_,rfl,_C.ifF (by simp) ⟨_,rfl,_,_,_,rfl,h1,h2,_,rfl,_C.ifF nZ ⟨_,rfl,c _ rfl⟩⟩⟩
 |bl i=>cases hv;exact⟨_,rfl,rfl,_,rfl,_C.ifF (by simp) ⟨_,rfl,_,_,_,rfl,h1,h2,_,rfl,_C.ifF nZ ⟨_,rfl,c _ rfl⟩⟩⟩
end
abbrev s_plain:Stmt:=_C.top 52
abbrev aHZ:List Str:=["cells","value"]
theorem sc_plain:FnScope aHZ MB (A9 s_plain):=fS
noncomputable def bhZ:Expr:=match C7 s_plain with
 | [.Return (some (.Call _ [_,l,_] _ _)) _]=>l
 |_=> .Constant .none 0 ⟨0,0,0,0⟩
def ceZ:Arguments:=match bhZ with
 | .Lambda p _ _ _=>p
 |_=>⟨[],[],none,[],[],none,[]⟩
def dbZ:Expr:=match bhZ with
 | .Lambda _ b _ _=>b
 |e=>e
def lamS:Scope:=match bhZ with
 | .Lambda _ _ s _=>s
 |_=> {kind:=.function,names:=[],isGenerator:=false,isCoroutine:=false}
def lamAt:Pos:=match bhZ with
 | .Lambda _ _ _ p=>p
 |_=>⟨0,0,0,0⟩
theorem dcZ:∀y∈lamS.names,y.2=.free->y.1∈(["cells"]:List Str):=by decide +kernel
theorem c5Z:LamScope ["one"] ["cells"] lamS:=⟨rfl,rfl,rfl,by decide +kernel,by decide +kernel,by decide +kernel,λx h=>dcZ _ (PySem.mem_of_lookup h) rfl,by decide +kernel⟩
def lamQ:Str:=("plain":Str)++ ".<locals>."++ "<lambda>"
def clos(n:Nat):List (Str×Addr):=[("cells",n+1)]
theorem aqZ(n f:Addr)(cdv:Value):closureFor lamS (PyProof.Rows.envOfC "plain" (A9 s_plain) n f cdv)=pure (clos n):=by rfl
section
theorem cap:CapOk (HL CX P w Z mg qB MB "plain" (A9 s_plain) f cdv A outer s H E).nox (clos s.heap.objs.size) ["cells"] [0]:=by
 refine⟨λx c h=> ?_,λx h=> ?_,λx h=> ?_,λx h=>rfl,λi x h=> ?_,rfl⟩
 ·show x∈(["cells"]:List Str)/\(clos s.heap.objs.size).lookup x=some c;refine⟨?_,h⟩;unfold clos at h;rw[lookup_cons]at h;split at h
  ·rename_i e;rw[beq_iff_eq.mp e];exact mem_cons_self
  ·cases h
 ·have e:x="cells":=by simpa using h
  subst e;exact⟨_,rfl⟩
 ·have e:x="cells":=by simpa using h
  subst e;rfl
 ·cases i with
  |zero=>have e:("cells":Str)=x:=by simpa using h
         subst e;exact⟨0,rfl,rfl⟩
  |succ i=>simp at h
inductive spPlainW(C Pt:Addr)(vs:List V)(H:Hp)(Q:VK):Prop
 |mk:∀(o L:Addr) (us:List V) (t:Pv) (v:V),(vs=[.ref o,v])->(CAt C H o L us)->(VR H us t v)->(size t<=400000)->(EH H Pt lamAt lamQ)->(∀r H',(∀b ob,H b=some ob->b≠Pt->H' b=some ob)->EH H' Pt lamAt lamQ->(R (λa=>H a=none) H' t).1 r->Q r H')->spPlainW C Pt vs H Q
def spPlain(C Pt:Addr):Sp:=λvs H Q _=>spPlainW C Pt vs H Q
theorem ok_plain{Pt:Addr}(F:Fun Z "plain" "plain" s_plain f fd)(hcode:fd.code=.ref c)(CH:W.CodeHd qB c Pt)(BT:qB.BuiltinsAt mg Pt)
  (N9:∀qB,FnOk P w Z mg qB CX0 4 fb db OD (DY P w Z mg qB))(MW:mg "built_up"=some (.ref fb))(ML:kZ Z (.ref fb)=true)(MF:Binds Z db OD [])
  (MH:∀qB,FnOk P w Z mg qB CX0 2 fh dh MB (QO C))(MT:mg "heads_of"=some (.ref fh))(MI:kZ Z (.ref fh)=true)(NC:Binds Z dh MB [])
  (GZ:∀(qB:Heap) (o L:Addr) (us:List V) (O:AS),FnOk P w Z mg qB CX0 2 fw dw VM (ayZ (Dt C o L us O) O))(GP:mg "with_heads"=some (.ref fw))(GS:kZ Z (.ref fw)=true)(GQ:Binds Z dw VM []):
  FnOk P w Z mg qB CX0 5 f fd MB (spPlain C Pt):=by
 refine F.okC sc_plain (λvs H Q E h=> ?_) (λX A l s H vs Q E N hr h=> ?_)
 ·obtain⟨o,L,us,t,v,rfl,_⟩:=h;rfl
 obtain rfl:Value.ref c=X:=hcode.symm.trans N;obtain⟨o,L,us,t,v,rfl,hc,hv,hz,hT,q⟩:=h;have nd:=sc_plain.nd;refine⟨_,A8 (B6 (VN (name:="<lambda>") (qual:=lamQ) (params:=ceZ) (body:=dbZ) (scope:=lamS) (clos:=clos s.heap.objs.size) (pm:=(mg "__name__").getD .none) (fs:=["cells"]) (js:=[0]) (sp:=DY P w Z mg) N9 hr rfl MW ML MF cap
  (A0 (pv 1) (A0 (cgZ (params:=ceZ) (body:=dbZ) (scope:=lamS) (pos:=lamAt) (pm:=(mg "__name__").getD .none) rfl rfl (aqZ _ _ _) rfl CH BT) (A0 (D7 (v:=.ref fw) rfl GP rfl) A5))))), ?_⟩
 refine⟨v,rfl,hT,λfl c' H1 u hF hC B n1 n2 n3 hO hK=> ?_⟩;refine⟨fl,c',[.ref o],⟨rfl,λi j h=> ?_⟩,hF,hC,n1,λg LA CA=> ?_⟩
 ·cases i with
  |zero=>have e:0=j:=by simpa using h
         subst e;exact⟨_,rfl,rfl⟩
  |succ i=>simp at h
 obtain⟨U,J⟩:=LA.fn;generalize D:del (del H1 fl) c'=H2;have k:∀b ob,H1 b=some ob->b≠fl->b≠c'->H2 b=some ob:=λb ob e a1 a2=>by rw[<-D,T6 a2,T6 a1];exact e
 have d:∀b ob,H b=some ob->b≠Pt->(∀φ,ob≠ .ext φ)->H2 b=some ob:=λb ob e a1 a2=>by
  have e1:=hK b ob e a1;refine k b ob e1 (λz=> ?_) (λz=> ?_)
  ·rw[z,u]at e;cases e
  ·rw[z,hC]at e1;exact a2 _ (sJ e1).symm
 obtain⟨qs,G,_⟩:=id hT;have m:∀ {b:Addr} {ob:HO},H b=some ob->(∀ps,ob≠ .tbl ps)->b≠Pt:=λ{b ob} e a z=>by rw[z,G]at e;exact a _ (sJ e).symm
 have I:Mo H H2:=λb xs e=>d b _ e (m e λps z=>nomatch z) fun φ z=>nomatch z
 have T:CAt C H2 o L us:=by
  obtain⟨dx,h1,h2⟩:=hc;exact⟨dx,d _ _ h1 (m h1 (λps z=>nomatch z)) (fun φ z=>nomatch z),d _ _ h2 (m h2 (λps z=>nomatch z)) (fun φ z=>nomatch z)⟩
 have FP:FnOk P w Z mg g CX0 3 fl (W.kla_fn "<lambda>" lamQ ceZ dbZ lamS (clos s.heap.objs.size) ((mg "__name__").getD .none) (.ref c') U) ["one"] (spP (Dt C o L us λa=>H2 a≠none)):=by
  refine cjZ J rfl LA.cd c5Z CA (λvs H Q E h=> ?_) (λA l s H vs Q E hr h=> ?_)
  ·obtain⟨S,t,v,rfl,_⟩:=h;rfl
  obtain⟨S,t,v,rfl,⟨hc,n1,n2,hv⟩,hz,q⟩:=h;refine⟨_,D6 (MH g) hr rfl MT MI NC .nil F8 (A0 (pv 1) (A0 (pv 0) A5)), ?_⟩;refine⟨_,rfl,_,rfl,o,L,us,t,v,rfl,hc,hv,hz,λr ps hr hA=> ?_⟩;have sm:=qA hr (.lst ps);exact q r _ ps sm hr A4 (hA.imp λa b h=>⟨hc.same sm,n1,n2,h.mono (tups_of sm)⟩)
 refine⟨Dt C o L us λa=>H2 a≠none,λ_=>False,λa=>H2 a≠none,t,v,fl,fw,_,dw,["one"],VM,rfl,FP,.inr LA.fnAt,.all (λus hl=>match us,hl with| [_],_=>rfl),(GZ g o L us _).mono (by decide),.inl GS,GQ,
  λa h=>h.elim,λa h=>h,⟨T,id,id,hv.mono I⟩,hz,λr H' sm n M x=> ?_⟩
 have up:∀ {b:Addr} {ob:HO},H' b=some ob->upd H' c' (CodeO lamQ c') b=some ob:=λ{b ob} e=>by rw[B5 (B9 e x)];exact e
 have k1:∀b ob,H1 b=some ob->b≠fl->upd H' c' (CodeO lamQ c') b=some ob:=λb ob e a=>by
  by_cases z:b=c'
  ·rw[z,hC]at e;cases e;rw[z];exact A4
  ·exact up (sm b ob (k b ob e a z))
 refine q r _ (λb ob e a=>k1 b ob (hK b ob e a) λz=>by rw[z,u]at e;cases e) ?_ ?_
 ·obtain⟨ps,e1,e2,e3⟩:=B;exact TabHit.ok ⟨ps,k1 _ _ e1 (Ne.symm n2),e2,e3⟩ A4
 ·refine(R.mono (λa xs ha e=>⟨up e, ?_⟩)).1 n;have a1:a≠c':=B9 e x;have a2:a≠fl:=B9 e M;have a3:H2 a=none:=by
   cases z:H2 a with
   |none=>rfl
   |some y=>exact absurd (show H2 a≠none by rw[z];simp) ha.1
  rw[<-D,T6 a1,T6 a2]at a3;cases z:H a with
  |none=>rfl
  |some y=>
   by_cases p:a=Pt
   ·obtain⟨ps,e1,_⟩:=B;rw[p,e1]at a3;cases a3
   ·rw[hK a y z p]at a3;cases a3
end
end _Q
namespace _M
open PySem _L _B _C _S
inductive Rw where
 |own (rk:Rk)|back
structure Bk where
 par:Nat
 sz:Nat
 rows:List Rw
structure Fr where
 k:Nat
 at_:Nat
 sl:List Vl
 st:List Vl
inductive Ou where
 |value (v:Vl)|refused (w:Str)|dry|deep
structure Ms where
 cs:List Cl
 frs:List Fr
 out:Option Ou
 r:Nat
 c:Nat
inductive Eo2 where
 |fr (d:Nat) (sl st:List Vl)|rf (w:Str)
inductive Er (cs:List Cl) (sl:List Vl):Rk->List Vl->Eo2->Prop
 |push {v st}:scV v=true->Er cs sl (.push v) st (.fr 1 sl (st++ [.sc v]))
 |load {j v st}:sl[j]? =some v->Er cs sl (.load j) st (.fr 1 sl (st++ [v]))
 |keep {j v st}:j<sl.length->Er cs sl (.keep j) (st++ [v]) (.fr 1 (sl.take j++ [v]++sl.drop (j+1)) st)
 |twoV {k a b v st}:k<6->Bd a->Bd b->_N.tw k a b=[.str "value",v]->scV v=true->Er cs sl (.two k) (st++ [.sc (.int a),.sc (.int b)]) (.fr 1 sl (st++ [.sc v]))
 |twoR {k a b w st}:k<6->Bd a->Bd b->_N.tw k a b=[.str "refused",.str w]->Er cs sl (.two k) (st++ [.sc (.int a),.sc (.int b)]) (.rf w)
 |not {b st}:Er cs sl .not (st++ [.sc (.bl b)]) (.fr 1 sl (st++ [.sc (.bl (!b))]))
 |skip {n st}:Er cs sl (.skip n) st (.fr (1+n) sl st)
 |unless {n b st}:Er cs sl (.unless n) (st++ [.sc (.bl b)]) (.fr (1+if b=true then 0 else n) sl st)
def rowAt(bs:List Bk)(f:Fr):Option Rw:=(bs[f.k]?).bind λb=>b.rows[f.at_]?
def begun(n sz:Nat)(vs:List Vl):Fr:=⟨n,0,vs++List.replicate (sz - vs.length) (.sc .non),[]⟩
inductive Act (bs:List Bk) (most:Nat) (cs:List Cl) (fs:List Fr) (f:Fr) (r c:Nat):Rw->Ms->Prop
 |own {rk d sl st}:Er cs f.sl rk f.st (.fr d sl st)->Act bs most cs fs f r c (.own rk) ⟨cs,fs++ [⟨f.k,f.at_+d,sl,st⟩],none,r+1,c⟩
 |rf {rk w}:Er cs f.sl rk f.st (.rf w)->Act bs most cs fs f r c (.own rk) ⟨cs,[],some (.refused w),r+1,c⟩
 |last {v st}:fs=[]->f.st=st++ [v]->Act bs most cs fs f r c .back ⟨cs,[],some (.value v),r+1,c⟩
def XX(bs:List Bk)(most:Nat)(S S':Ms):Prop:=∃cs fs f r c w,S=⟨cs,fs++ [f],none,r,c⟩/\rowAt bs f=some w/\Act bs most cs fs f r c w S'
structure Small (S:Ms):Prop where
 cs:S.cs.length<=500
 frs:S.frs.length<=60
 fr:∀f∈S.frs,f.sl.length<=100/\f.st.length<=2000
def rwV:Rw->List V
 | .own rk=>rkV rk
 | .back=> [.str "back"]
def RwAt(H:Hp)(r:Rw)(u:V):Prop:=∃p,u=.ref p/\H p=some (.tup (rwV r))
def BAt(H:Hp)(b:Bk)(u:V):Prop:=∃t rs us,u=.ref t/\H t=some (.tup [.int (b.par:Nat),.int (b.sz:Nat),.ref rs])/\H rs=some (.tup us)/\All2 (RwAt H) b.rows us/\b.sz<=100
def FAt(H:Hp)(f:Fr)(u:V):Prop:=∃p sl st,u=.ref p/\FrAt H p (f.k:Nat) (f.at_:Nat) sl st/\All2 (VAt H) f.sl sl/\All2 (VAt H) f.st st
def OAt(H:Hp):Option Ou->V->Prop
 |none,u=>u=.non
 |some (.value x),u=>∃p v,u=.ref p/\H p=some (.tup [.str "value",v])/\VAt H x v
 |some (.refused w),u=>∃p,u=.ref p/\H p=some (.tup [.str "refused",.str w])
 |some .dry,u=>∃p,u=.ref p/\H p=some (.tup [.str "dry"])
 |some .deep,u=>∃p,u=.ref p/\H p=some (.tup [.str "deep"])
theorem RwAt.mo(m:Mo H H')(h:RwAt H r u):RwAt H' r u:=let⟨p,e,h1⟩:=h;⟨p,e,m _ _ h1⟩
theorem BAt.mo(m:Mo H H')(h:BAt H b u):BAt H' b u:=
 let⟨t,rs,us,e,h1,h2,h3,h4⟩:=h;⟨t,rs,us,e,m _ _ h1,m _ _ h2,h3.imp λ_ _ z=>RwAt.mo m z,h4⟩
theorem FAt.mo(m:Mo H H')(h:FAt H f u):FAt H' f u:=
 let⟨p,sl,st,e,⟨q,e',h1,h2,h3⟩,h4,h5⟩:=h;⟨p,sl,st,e,⟨q,e',m _ _ h1,m _ _ h2,m _ _ h3⟩,h4.imp λ_ _ z=>VAt.mo m z,h5.imp λ_ _ z=>VAt.mo m z⟩
structure Ad where
 m:Addr
 dx:Addr
 bl:Addr
 o:Addr
 L:Addr
 s:Addr
def Ad.own(A:Ad):List Addr:=[A.m,A.bl,A.o,A.L,A.s]
noncomputable def N2(A:Ad)(most:Int)(out:V)(r c:Int):List (Str×V):=[("blocks",.ref A.bl),("most",.int most),("store",.ref A.o),("standing",.ref A.s),("outcome",out),("rows_so_far",.int r),("calls_so_far",.int c)]
structure MR (CM C:Addr) (H:Hp) (A:Ad) (bs us fs:List V) (most:Int) (out:V) (r c:Int):Prop where
 m:H A.m=some (.ins CM A.dx (N2 A most out r c))
 bl:H A.bl=some (.lst bs)
 o:CAt C H A.o A.L us
 s:H A.s=some (.lst fs)
 nLs:A.L≠A.s
 nbs:A.bl≠A.s
 nbL:A.bl≠A.L
structure MAt (CM C:Addr) (H:Hp) (A:Ad) (bs:List Bk) (most:Nat) (S:Ms):Prop where
 ex:∃vb us fs out,MR CM C H A vb us fs (most:Nat) out (S.r:Nat) (S.c:Nat)/\All2 (BAt H) bs vb/\All2 (ClAt H) S.cs us/\All2 (FAt H) S.frs fs/\OAt H S.out out
def Kq(A:Ad)(H H':Hp):Prop:=∀b ob,H b=some ob->b∉A.own->H' b=some ob
theorem MR.ntup(h:MR CM C H A bs us fs most out r c){b:Addr}(e:H b=some (.tup xs)):b∉A.own:=λhm=>by
 obtain⟨dx,ho,hL⟩:=h.o;simp only[Ad.own,mem_cons,not_mem_nil,or_false]at hm;rcases hm with z|z|z|z|z<;>rw[z]at e
 ·rw[h.m]at e;cases e
 ·rw[h.bl]at e;cases e
 ·rw[ho]at e;cases e
 ·rw[hL]at e;cases e
 ·rw[h.s]at e;cases e
theorem MR.mo(h:MR CM C H A bs us fs most out r c)(k:Kq A H H'):Mo H H':=λ_ _ e=>k _ _ e (h.ntup e)
inductive EoR (H:Hp):Eo2->Eo->Prop
 |fr {d sl st sl' st'}:All2 (VAt H) sl sl'->All2 (VAt H) st st'->EoR H (.fr d sl st) (.fr (d:Nat) sl' st')
 |rf {w}:EoR H (.rf w) (.rf w)
theorem all2_split{α β:Type}{R:α->β->Prop}:∀ {as bs:List α} {cs:List β},All2 R (as++bs) cs->∃ds es,cs=ds++es/\All2 R as ds/\All2 R bs es
 | [],bs,cs,h=>⟨[],cs,rfl,.nil,h⟩
 |a::as,bs,cs,h=>by
  cases h with
  |cons h1 h2=>
   obtain⟨ds,es,e,h3,h4⟩:=all2_split h2;exact⟨_::ds,es,by rw[e];rfl,.cons h1 h3,h4⟩
theorem P9{α β:Type}{R:α->β->Prop}{as:List α}{a:α}{cs:List β}(h:All2 R (as++ [a]) cs):∃ds d,cs=ds++ [d]/\All2 R as ds/\R a d:=by
 obtain⟨ds,es,e,h1,h2⟩:=all2_split h;cases h2 with
 |cons h3 h4=>cases h4;exact⟨ds,_,e,h1,h3⟩
theorem all2_get{α β:Type}{R:α->β->Prop}{as:List α}{bs:List β}(h:All2 R as bs):∀ {j:Nat} {a:α},as[j]? =some a->∃b,bs[j]? =some b/\R a b:=by
 induction h with
 |nil=>intro j a e;simp at e
 |cons h _ ih=>
  intro j a e;cases j with
  |zero=>simp only[List.getElem?_cons_zero,Option.some.injEq]at e;subst e;exact⟨_,rfl,h⟩
  |succ j=>simp only[List.getElem?_cons_succ]at e⊢;exact ih e
theorem UO{α β:Type}{R:α->β->Prop}{as:List α}{bs:List β}(h:All2 R as bs):∀n,All2 R (as.take n) (bs.take n):=by
 induction h with
 |nil=>intro n;simp only[List.take_nil];exact .nil
 |cons h _ ih=>
  intro n;cases n with
  |zero=>exact .nil
  |succ n=>exact .cons h (ih n)
theorem SQ{α β:Type}{R:α->β->Prop}{as:List α}{bs:List β}(h:All2 R as bs):∀n,All2 R (as.drop n) (bs.drop n):=by
 induction h with
 |nil=>intro n;simp only[List.drop_nil];exact .nil
 |cons h t ih=>
  intro n;cases n with
  |zero=>exact .cons h t
  |succ n=>exact ih n
theorem VAt.ns:∀ {x:Vl} {v:V},VAt H x v->NS H v
 | .sc x,v,⟨e,h⟩=>by
  subst e;cases v<;>first|exact .inl ⟨_,rfl⟩|exact .inr (.inl ⟨_,rfl⟩)|exact .inr (.inr (.inl rfl))|(cases h;done)
 | .cell k,v,⟨p,e,h⟩=> .inr (.inr (.inr ⟨p,_,e,h⟩))
theorem eoZ{cs:List Cl}{us sl':List V}{sl:List Vl}(hc:All2 (ClAt H) cs us)(hs:All2 (VAt H) sl sl'){st:List Vl}(h:Er cs sl rk st eo):∀ {st':List V},All2 (VAt H) st st'->∃eo',Ef H us sl' rk st' eo'/\EoR H eo eo':=by
 have n1:∀ {v:V},scV v=true->VAt H (.sc v) v:=λh=>⟨rfl,h⟩;cases h with
 |push h=>exact λ{st'} ht=>⟨_,.push (cuZ h),.fr hs (ht.app (.cons (n1 h) .nil))⟩
 |load h=>
  intro st' ht;obtain⟨v',hv,hR⟩:=all2_get hs h;exact⟨_,.load hv,.fr hs (ht.app (.cons hR .nil))⟩
 |keep h=>
  intro st' ht;obtain⟨ds,d,rfl,h1,h2⟩:=P9 ht;exact⟨_,.keep (by rw[<-hs.len];exact h),.fr (((UO hs _).app (.cons h2 .nil)).app (SQ hs _)) h1⟩
 |twoV h1 h2 h3 h4 h5=>
  intro st' ht;obtain⟨ds,es,rfl,t1,t2⟩:=all2_split ht;cases t2 with
  |cons a1 t3=>
   cases t3 with
   |cons a2 t4=>
    cases t4;obtain⟨rfl,_⟩:=a1;obtain⟨rfl,_⟩:=a2;exact⟨_,.twoV h1 h2 h3 h4 (VAt.ns (n1 h5)),.fr hs (t1.app (.cons (n1 h5) .nil))⟩
 |twoR h1 h2 h3 h4=>
  intro st' ht;obtain⟨ds,es,rfl,t1,t2⟩:=all2_split ht;cases t2 with
  |cons a1 t3=>
   cases t3 with
   |cons a2 t4=>
    cases t4;obtain⟨rfl,_⟩:=a1;obtain⟨rfl,_⟩:=a2;exact⟨_,.twoR h1 h2 h3 h4,.rf⟩
 |not=>
  intro st' ht;obtain⟨ds,d,rfl,h1,rfl,_⟩:=P9 ht;exact⟨_,.not,.fr hs (h1.app (.cons (n1 rfl) .nil))⟩
 |skip=>exact λ{st'} ht=>⟨_,.skip,.fr hs ht⟩
 | @«unless» n b st=>
  intro st' ht;obtain⟨ds,d,rfl,h1,rfl,_⟩:=P9 ht;refine⟨_,.unless, ?_⟩;have e:(1+if b=true then 0 else(n:Int))=((1+if b=true then 0 else n:Nat):Int):=by cases b<;>simp
  rw[e];exact .fr hs h1
end _M
namespace _M
open PySem _L _C _S
open _B hiding ifT ifF NoG top
seal PE PT PW PA PS PSs PTs PI PG PGs PO
abbrev s_end:Stmt:=inClass (top 70) 5
abbrev s_has_value:Stmt:=inClass (top 70) 9
abbrev s_frames:Stmt:=inClass (top 70) 11
abbrev s_cells:Stmt:=inClass (top 70) 12
abbrev s_rows_done:Stmt:=inClass (top 70) 13
abbrev s_calls:Stmt:=inClass (top 70) 14
abbrev s_go_on:Stmt:=inClass (top 70) 2
abbrev e7Z:List Str:=["self","outcome"]
theorem sc_end:FnScope e7Z XJ (A9 s_end):=fS
abbrev JL:List Str:=["self"]
theorem sc_has_value:FnScope JL N5 (A9 s_has_value):=fS
abbrev aiZ:List Str:=["self","told"]
theorem sc_go_on:FnScope aiZ aPZ (A9 s_go_on):=fS
structure MCls (Z:FZ) (CM:Addr) (gf:Str->Addr) (gd:Str->FuncData):Prop where
 cl:Cls Z CM
 n1:NoAttr Z CM "blocks"
 n2:NoAttr Z CM "most"
 n3:NoAttr Z CM "store"
 n4:NoAttr Z CM "standing"
 n5:NoAttr Z CM "outcome"
 n6:NoAttr Z CM "rows_so_far"
 n7:NoAttr Z CM "calls_so_far"
 m_step:Meth Z CM "step" (gf "step")
 m_go_on:Meth Z CM "go_on" (gf "go_on")
 m_enter:Meth Z CM "enter" (gf "enter")
 m_leave:Meth Z CM "leave" (gf "leave")
 m_end:Meth Z CM "end" (gf "end")
 m_collect:Meth Z CM "collect" (gf "collect")
 m_hung_on:Meth Z CM "hung_on" (gf "hung_on")
 m_hang_on:Meth Z CM "hang_on" (gf "hang_on")
 m_has_value:Meth Z CM "has_value" (gf "has_value")
 m_answer:Meth Z CM "answer" (gf "answer")
 m_frames:Meth Z CM "frames" (gf "frames")
 m_cells:Meth Z CM "cells" (gf "cells")
 m_rows_done:Meth Z CM "rows_done" (gf "rows_done")
 m_calls:Meth Z CM "calls" (gf "calls")
 b_step:Binds Z (gd "step") N5 []
 b_go_on:Binds Z (gd "go_on") aPZ []
 b_enter:Binds Z (gd "enter") exZ []
 b_leave:Binds Z (gd "leave") LH []
 b_end:Binds Z (gd "end") XJ []
 b_collect:Binds Z (gd "collect") N5 []
 b_hung_on:Binds Z (gd "hung_on") N5 []
 b_hang_on:Binds Z (gd "hang_on") ["self","values"] []
 b_has_value:Binds Z (gd "has_value") N5 []
 b_answer:Binds Z (gd "answer") N5 []
 b_frames:Binds Z (gd "frames") N5 []
 b_cells:Binds Z (gd "cells") N5 []
 b_rows_done:Binds Z (gd "rows_done") N5 []
 b_calls:Binds Z (gd "calls") N5 []
section
theorem l1:(N2 A most out r c).lookup ("blocks":Str)=some (.ref A.bl):=by rfl
theorem l3:(N2 A most out r c).lookup ("store":Str)=some (.ref A.o):=by rfl
theorem l4:(N2 A most out r c).lookup ("standing":Str)=some (.ref A.s):=by rfl
theorem l5:(N2 A most out r c).lookup ("outcome":Str)=some out:=by rfl
theorem l6:(N2 A most out r c).lookup ("rows_so_far":Str)=some (.int r):=by rfl
theorem lf:(N2 A most out r c).length<1000:=by show 7<1000;decide
theorem p4(s:Addr):P7 ("standing":Str) (.ref s) (N2 A most out r c)=N2 {A with s:=s} most out r c:=by rfl
theorem p5(u:V):P7 ("outcome":Str) u (N2 A most out r c)=N2 A most u r c:=by rfl
theorem p6(n:Int):P7 ("rows_so_far":Str) (.int n) (N2 A most out r c)=N2 A most out n c:=by rfl
theorem MR.same(h:MR CM C H A bs us fs most out r c)(s:Same H H'):MR CM C H' A bs us fs most out r c:=
 ⟨s _ _ h.m,s _ _ h.bl,h.o.same s,s _ _ h.s,h.nLs,h.nbs,h.nbL⟩
theorem MR.om(h:MR CM C H A bs us fs most out r c):A.o≠A.m:=λe=>by
 obtain⟨dx,ho,hL⟩:=h.o;have hm:=h.m;rw[e,hm]at ho;injection ho with ho
 injection ho with _ _ ho
 have:=congrArg List.length ho;simp[N2]at this
theorem MR.putM(h:MR CM C H A bs us fs most out r c)(r' c':Int)(out':V):MR CM C (upd H A.m (.ins CM A.dx (N2 A most out' r' c'))) A bs us fs most out' r' c':=by
 obtain⟨dx,ho,hL⟩:=h.o;have hm:=h.m;have n1:A.bl≠A.m:=λe=>by have:=h.bl;rw[e,hm]at this;cases this
 have n3:A.L≠A.m:=λe=>by rw[e,hm]at hL;cases hL
 have n4:A.s≠A.m:=λe=>by have:=h.s;rw[e,hm]at this;cases this
 exact⟨A4,by rw[B5 n1];exact h.bl,⟨dx,by rw[B5 h.om];exact ho,by rw[B5 n3];exact hL⟩,by rw[B5 n4];exact h.s,h.nLs,h.nbs,h.nbL⟩
theorem MR.putS(h:MR CM C H A bs us fs most out r c){s:Addr}(hs:H s=none):MR CM C (upd (upd H s (.lst gs)) A.m (.ins CM A.dx (N2 {A with s:=s} most out r c))) {A with s:=s} bs us gs most out r c:=by
 have t:=qA hs (.lst gs);have g:=h.same t;obtain⟨dx,ho,hL⟩:=g.o;have hm:=g.m;have n1:A.bl≠A.m:=λe=>by have:=g.bl;rw[e,hm]at this;cases this
 have n3:A.L≠A.m:=λe=>by rw[e,hm]at hL;cases hL
 have n4:s≠A.m:=λe=>by rw[e,h.m]at hs;cases hs
 have n5:A.L≠s:=λe=>by obtain⟨_,_,a⟩:=h.o;rw[e,hs]at a;cases a
 have n6:A.bl≠s:=λe=>by have:=h.bl;rw[e,hs]at this;cases this
 exact⟨A4,by rw[B5 n1];exact g.bl,⟨dx,by rw[B5 g.om];exact ho,by rw[B5 n3];exact hL⟩,by rw[B5 n4];exact A4,n5,n6,h.nbL⟩
theorem MR.setS(h:MR CM C H A bs us fs most out r c):MR CM C (upd H A.s (.lst gs)) A bs us gs most out r c:=by
 obtain⟨dx,ho,hL⟩:=h.o;have n1:A.m≠A.s:=λe=>by have:=h.m;rw[e,h.s]at this;cases this
 have n2:A.o≠A.s:=λe=>by rw[e,h.s]at ho;cases ho
 exact⟨by rw[B5 n1];exact h.m,by rw[B5 h.nbs];exact h.bl,⟨dx,by rw[B5 n2];exact ho,by rw[B5 h.nLs];exact hL⟩,A4,h.nLs,h.nbs,h.nbL⟩
theorem WQ(A:Ad):A.m∈A.own:=mem_cons_self ..
theorem d2Z(A:Ad):A.s∈A.own:=by simp[Ad.own]
theorem Kq.of(s:Same H H'):Kq A H H':=λb o e _=>s b o e
theorem Kq.updO{A:Ad}{b:Addr}(o:HO)(h:b∈A.own):Kq A H (upd H b o):=λx ob e n=>by rw[B5 (λz:x=b=>n (by rw[z];exact h))];exact e
theorem Kq.trans(h:Kq A H H1)(h':Kq A H1 H2):Kq A H H2:=λb o e n=>h' b o (h b o e n) n
def New(A A':Ad)(H:Hp):Prop:=A'.m=A.m/\∀x∈A'.own,x∈A.own\/H x=none
inductive spEndW (CM C:Addr) (vs:List V) (H:Hp) (Q:VK):Prop
 |mk:∀(A:Ad) (bs us fs:List V) (most:Int) (out:V) (r c:Int) (u:V),(vs=[.ref A.m,u])->(MR CM C H A bs us fs most out r c)->(∀s H',H s=none->Kq A H H'->MR CM C H' {A with s:=s} bs us [] most u r c->Q .non H')->spEndW CM C vs H Q
def ZV(CM C:Addr):Sp:=λvs H Q _=>spEndW CM C vs H Q
theorem ok_end{gf:Str->Addr}{gd:Str->FuncData}(F:Fun Z "end" "Machine.end" s_end (gf "end") (gd "end"))(RM:MCls Z CM gf gd):FnOk P w Z mg qB CX0 1 (gf "end") (gd "end") XJ (ZV CM C):=by
 refine F.ok sc_end (λvs H Q E h=> ?_) (λe A b s H vs Q E hr h=> ?_)
 ·obtain⟨A,bs,us,fs,a,d,r,c,u,rfl,_⟩:=h;rfl
 obtain⟨A,bs,us,fs,a,d,r,c,u,rfl,hM,q⟩:=h;have nd:=sc_end.nd;refine⟨_,(A7 (P3 (pv 0) (C8 A5) rfl)
   (A8 (P3 (pv 0) (pv 1) rfl))), ?_⟩
 refine⟨(by show 0<=sizeLine;decide),λs hs=>⟨_,rfl,A.m,CM,A.dx,_,rfl,(qA hs _) _ _ hM.m,RM.cl,RM.n4,lf, ?_⟩⟩;rw[p4];have h1:=hM.putS (gs:=[]) hs;have k1:Kq A H (upd (upd H s (.lst [])) A.m (.ins CM A.dx (N2 {A with s:=s} a d r c))):=(Kq.of (qA hs _)).trans (Kq.updO _ (WQ A));refine⟨_,rfl,_,rfl,A.m,CM,A.dx,_,rfl,h1.m,RM.cl,RM.n5,lf, ?_⟩;rw[p5];exact q s _ hs (k1.trans (Kq.updO _ (WQ A))) (h1.putM r c u)
def OV(H:Hp)(u:V)(b:Bool):Prop:=(u=.non/\b=false)\/∃p w xs,u=.ref p/\H p=some (.tup (.str w::xs))/\b=decide (w="value")
def YL:Option Ou->Bool
 |some (.value _)=>true
 |_=>false
theorem OAt.ov:∀ {o:Option Ou} {u:V},OAt H o u->OV H u (YL o)
 |none,_,h=> .inl ⟨h,rfl⟩
 |some (.value _),_,⟨p,v,e,h1,h2⟩=> .inr ⟨p,_,_,e,h1,rfl⟩
 |some (.refused _),_,⟨p,e,h1⟩=> .inr ⟨p,_,_,e,h1,(show false=decide (("refused":Str)="value") by decide)⟩
 |some .dry,_,⟨p,e,h1⟩=> .inr ⟨p,_,_,e,h1,by decide⟩
 |some .deep,_,⟨p,e,h1⟩=> .inr ⟨p,_,_,e,h1,by decide⟩
inductive spHasVW (CM:Addr) (vs:List V) (H:Hp) (Q:VK):Prop
 |mk:∀(A:Ad) (most:Int) (out:V) (r c:Int) (b:Bool),(vs=[.ref A.m])->(H A.m=some (.ins CM A.dx (N2 A most out r c)))->(OV H out b)->(Q (.bl b) H)->spHasVW CM vs H Q
def WB(CM:Addr):Sp:=λvs H Q _=>spHasVW CM vs H Q
theorem ok_has_value{gf:Str->Addr}{gd:Str->FuncData}(F:Fun Z "has_value" "Machine.has_value" s_has_value (gf "has_value") (gd "has_value"))(RM:MCls Z CM gf gd):FnOk P w Z mg qB CX0 1 (gf "has_value") (gd "has_value") N5 (WB CM):=by
 refine F.ok sc_has_value (λvs H Q E h=> ?_) (λg A d s H vs Q E hr h=> ?_)
 ·obtain⟨A,a,f,r,c,b,rfl,_⟩:=h;rfl
 obtain⟨A,a,f,r,c,b,rfl,hm,ho,q⟩:=h;have nd:=sc_has_value.nd;have hu:=hr.units0;refine⟨_,(A8 (B6 (BC (F7 DD (K0 (pv 0) rfl) G9 rfl) (BG (F7 (kEq (Z:=Z) hu) (ixE Z w (K0 (pv 0) rfl) A6) B0 rfl))))), ?_⟩;refine⟨_,rfl,A.m,CM,A.dx,_,_,rfl,hm,RM.cl,RM.n5,l5, ?_⟩;rcases ho with⟨rfl,rfl⟩|⟨p,w,xs,rfl,hp,rfl⟩
 ·exact⟨rfl,_,rfl,ifF (by simp) q⟩
 ·refine⟨rfl,_,rfl,ifT (by simp) ⟨_,rfl,A.m,CM,A.dx,_,_,rfl,hm,RM.cl,RM.n5,l5,(ixT (v:=.str w) hp (C4 (j:=0) rfl) (.inl ⟨rfl, ?_⟩))⟩⟩;have e:decide (V.str w=V.str "value")=decide (w="value"):=by simp
  rw[<-e]at q;exact q
end
abbrev s_leave:Stmt:=inClass (top 70) 4
abbrev s_enter:Stmt:=inClass (top 70) 3
abbrev alZ:List Str:=["self","value","below"]
theorem sc_leave:FnScope alZ LH (A9 s_leave):=fS
theorem bcZ{α:Type}(xs:List α)(x:α):ixN (xs++ [x]).length (-1)=some xs.length:=by
 unfold ixN;rw[if_neg (by decide),if_pos (by simp;omega)];congr 1;simp;omega
theorem WO{α:Type}(xs:List α)(x y:α):(xs++ [x]).set xs.length y=xs++ [y]:=by simp
section
inductive spGoOnW(CM C:Addr)(vs:List V)(H:Hp)(Q:VK):Prop
 |mk:∀(A:Ad) (bs us fs:List V) (most:Int) (out:V) (r c:Int) (p:Addr),(vs=[.ref A.m,.ref p])->(MR CM C H A bs us fs most out r c)->(((∃q fs0 f0,H p=some (.tup [.str "frame",.ref q])/\fs=fs0++ [f0]/\∀H',Kq A H H'->MR CM C H' A bs us (fs0++ [.ref q]) most out r c->Q .non H')\/(∃w,H p=some (.tup [.str "refused",.str w])/\∀s H',H s=none->Kq A H H'->MR CM C H' {A with s:=s} bs us [] most (.ref p) r c->Q .non H')))->spGoOnW CM C vs H Q
def XA(CM C:Addr):Sp:=λvs H Q _=>spGoOnW CM C vs H Q
theorem ok_go_on{gf:Str->Addr}{gd:Str->FuncData}(F:Fun Z "go_on" "Machine.go_on" s_go_on (gf "go_on") (gd "go_on"))(RM:MCls Z CM gf gd)
  (VA:FnOk P w Z mg qB CX0 1 (gf "end") (gd "end") XJ (ZV CM C)):FnOk P w Z mg qB CX0 2 (gf "go_on") (gd "go_on") aPZ (XA CM C):=by
 refine F.ok sc_go_on (λvs H Q E h=> ?_) (λg A d s H vs Q E hr h=> ?_)
 ·obtain⟨A,bs,us,fs,a,e,r,c,p,rfl,_⟩:=h;rfl
 obtain⟨A,bs,us,fs,a,e,r,c,p,rfl,hM,h⟩:=h;have nd:=sc_go_on.nd;have hu:=hr.units0;refine⟨_,(A8 (C6 (C2 (B7 (kEq (Z:=Z) hu) (ixE Z w (pv 1) A6) B0 rfl) (A8 (P0 (ixE Z w (pv 1) A6) (P1 (K0 (pv 0) rfl) (K8 G2 A6) P6))) (A8 (E4 (mC (pv 0) RM.cl RM.m_end VA hr RM.b_end (A0 (pv 1) A5))))))), ?_⟩;refine⟨λ_ H'=>Q .non H', ?_,λ_ _ h=>h⟩;rcases h with⟨q,f,f0,hp,rfl,b⟩|⟨w,hp,b⟩
 ·refine⟨_,rfl,(ixT hp rfl (.inl ⟨rfl,_,rfl,ifT rfl ?_⟩))⟩;refine⟨_,rfl,(ixT hp rfl ?_)⟩;refine⟨_,rfl,A.m,CM,A.dx,_,_,rfl,hM.m,RM.cl,RM.n4,l4,_,rfl,A.s,_,_,f.length,rfl,rfl,hM.s,bcZ _ _, ?_⟩;rw[WO];exact b _ (Kq.updO _ (d2Z A)) hM.setS
 ·refine⟨_,rfl,(ixT hp rfl (.inl ⟨rfl,_,rfl,ifF (by decide) ?_⟩))⟩;exact⟨_,rfl,A.m,A.dx,_,rfl,hM.m,rfl,_,rfl,A,bs,us,fs,a,e,r,c,_,rfl,hM,λs H' hs k h=>b s H' hs k h⟩
inductive spLeaveW (CM C:Addr) (vs:List V) (H:Hp) (Q:VK):Prop
 |mk:∀(A:Ad) (bs us:List V) (f:V) (most:Int) (out:V) (r c:Int) (v:V),(vs=[.ref A.m,v])->(MR CM C H A bs us [f] most out r c)->(∀s p H',H s=none->Kq A H H'->MR CM C H' {A with s:=s} bs us [] most (.ref p) r c->H' p=some (.tup [.str "value",v])->Q .non H')->spLeaveW CM C vs H Q
def RL(CM C:Addr):Sp:=λvs H Q _=>spLeaveW CM C vs H Q
theorem ok_leave{gf:Str->Addr}{gd:Str->FuncData}(F:Fun Z "leave" "Machine.leave" s_leave (gf "leave") (gd "leave"))(B:NoG mg)(RM:MCls Z CM gf gd)
  (VA:FnOk P w Z mg qB CX0 1 (gf "end") (gd "end") XJ (ZV CM C)):FnOk P w Z mg qB CX0 2 (gf "leave") (gd "leave") LH (RL CM C):=by
 refine F.ok sc_leave (λvs H Q E h=> ?_) (λg A b s H vs Q E hr h=> ?_)
 ·obtain⟨A,bs,us,f,a,d,r,c,v,rfl,_⟩:=h;rfl
 obtain⟨A,bs,us,f,a,d,r,c,v,rfl,hM,e⟩:=h;have nd:=sc_leave.nd;have hu:=hr.units0;have zz:(9000:Nat)<=sizeLine:=by decide
 refine⟨_,(A7 (C2 (B7 (kEq (Z:=Z) hu) (kL Z B.len_ (K0 (pv 0) rfl)) A6 rfl) (A7 (E4 (mC (pv 0) RM.cl RM.m_end VA hr RM.b_end (A0 (B4 (A0 B0 (A0 (pv 1) A5))) A5)))
   (A8 aYZ)) C0)
   (A7 (E4 (LL (Z:=Z) PySem.F.plainAttrs_list PySem.F.slot_list_pop PySem.F.type_list_pop EB (K0 (pv 0) rfl)))
   (A7 (sS 2 nd (ixE Z w (K0 (pv 0) rfl) (K8 G2 A6)))
   (A8 (P0 (B8 (F1 (Z:=Z)) (L3 (TB (Z:=Z)) (pv 2) O7 (M4 A6)) (B4 (A0 (B8 (F1 (Z:=Z)) (ixE Z w (pv 2) A6) (B4 (A0 (pv 1) A5))) A5))) (P1 (K0 (pv 0) rfl) (K8 G2 A6) P6)))))), ?_⟩
 refine⟨_,rfl,A.m,CM,A.dx,_,_,rfl,hM.m,RM.cl,RM.n4,l4,_,_,rfl,.inl ⟨_,SqL.of hM.s,rfl⟩,.inl ⟨rfl,_,rfl, ?_⟩⟩
 ·refine ifT (by simp) ?_;refine⟨_,rfl,A.m,A.dx,_,rfl,hM.m,rfl,_,rfl,(by show 2<=sizeLine;omega),λp hp=> ?_⟩;have t:=qA hp (.tup [.str "value",v]);refine⟨A,bs,us,_,a,d,r,c,_,rfl,hM.same t,λs H' hs k h=>e s p H' (t.free hs) ((Kq.of t).trans k) h (k _ _ A4 ((hM.same t).ntup A4))⟩
end
abbrev s_step:Stmt:=inClass (top 70) 1
abbrev cxZ:List Str:=["self","frame","row"]
theorem sc_step:FnScope cxZ N5 (A9 s_step):=fS
noncomputable def M5:List Str:=["push","none","load","keep","add","sub","mul","div","less","same","cons","head","tail","empty","not","skip","unless","close"]
theorem YB:∀w∈M5,w≠ "back"/\inV (.str w) [.str "call",.str "apply"]=false:=by decide +kernel
theorem cXZ(k:Nat):wd k∈M5:=by
 match k with
 |0=>decide +kernel
 |1=>decide +kernel
 |2=>decide +kernel
 |3=>decide +kernel
 |4=>decide +kernel
 |n+5=>show("div":Str)∈M5;decide +kernel
theorem a6Z(rk:Rk):S5 rk∈M5:=by
 cases rk with
 |push _=>exact(by decide +kernel:("push":Str)∈M5)
 |load _=>exact(by decide +kernel:("load":Str)∈M5)
 |keep _=>exact(by decide +kernel:("keep":Str)∈M5)
 |two k=>exact cXZ k
 |not=>exact(by decide +kernel:("not":Str)∈M5)
 |skip _=>exact(by decide +kernel:("skip":Str)∈M5)
 |«unless» _=>exact(by decide +kernel:("unless":Str)∈M5)
theorem YY(rk:Rk):S5 rk≠ "back"/\inV (.str (S5 rk)) [.str "call",.str "apply"]=false:=YB _ (a6Z rk)
theorem KF:∀n:Nat,All2 (VAt H) (List.replicate n (.sc .non)) (List.replicate n .non)
 |0=> .nil
 |n+1=> .cons ⟨rfl,rfl⟩ (KF n)
theorem FrAt.mo'(m:Mo H H'){st:List V}(h:FrAt H p k a sl st):FrAt H' p k a sl st:=by
 obtain⟨q,e,h1,h2,h3⟩:=h;exact⟨q,e,m _ _ h1,m _ _ h2,m _ _ h3⟩
section
inductive spStepW(CM C:Addr)(vs:List V)(H:Hp)(Q:VK):Prop
 |mk:∀(A:Ad) (bs:List Bk) (most:Nat) (S:Ms),(vs=[.ref A.m])->(MAt CM C H A bs most S)->(Small S)->(((S.frs=[]/\Q (.bl false) H)\/∃S',XX bs most S S'/\∀A' H',New A A' H->Kq A H H'->MAt CM C H' A' bs most S'->Q (.bl true) H'))->spStepW CM C vs H Q
def NQ(CM C:Addr):Sp:=λvs H Q _=>spStepW CM C vs H Q
theorem ok_step{gf:Str->Addr}{gd:Str->FuncData}(F:Fun Z "step" "Machine.step" s_step (gf "step") (gd "step"))(RM:MCls Z CM gf gd)
  (adZ:FnOk P w Z mg qB CX0 2 (gf "leave") (gd "leave") LH (RL CM C))
  (acZ:FnOk P w Z mg qB CX0 3 (gf "enter") (gd "enter") exZ _C.spVoid)
  (agZ:FnOk P w Z mg qB CX0 2 (gf "go_on") (gd "go_on") aPZ (XA CM C))
  (MP:Cn P w Z mg qB CX0 4 "own_done" VE (DP C)):
  FnOk P w Z mg qB CX0 5 (gf "step") (gd "step") N5 (NQ CM C):=by
 refine F.ok sc_step (λvs H Q E h=> ?_) (λbb A af s H vs Q E hr h=> ?_)
 ·obtain⟨A,bs,a,S,rfl,_⟩:=h;rfl
 obtain⟨A,bs,a,S,rfl,hA,hS,h⟩:=h;obtain⟨vb,us,vf,a5,hM,hB,hC,hF,hO⟩:=hA.ex;have nd:=sc_step.nd;have hu:=hr.units0;have zz:(9000:Nat)<=sizeLine:=by decide
 refine⟨_,(A7 (C2 (HD (E5 (Z:=Z) (K0 (pv 0) rfl) (λ_=>rfl))) (A8 (B6 K2)) C0)
   (A7 (TF (pv 0) A6 c8Z)
   (A7 (sS 1 nd (ixE Z w (K0 (pv 0) rfl) (K8 G2 A6)))
   (A7 (sS 2 nd (ixE Z w (ixE Z w (ixE Z w (K0 (pv 0) rfl) (ixE Z w (pv 1) A6)) A6) (ixE Z w (pv 1) A6)))
   (A7 (C6 (C2 (B7 (kEq (Z:=Z) hu) (ixE Z w (pv 2) A6) B0 rfl) (A8 (E4 (mC (pv 0) RM.cl RM.m_leave adZ hr RM.b_leave (A0 (ixE Z w (ixE Z w (pv 1) A6) (K8 G2 A6)) A5)))) (A8 (C6 (C2 (B7 (kIn (Z:=Z) (w:=w)) (ixE Z w (pv 2) A6) (B4 (A0 B0 (A0 B0 A5))) rfl) (A8 (E4 (mC (pv 0) RM.cl RM.m_enter acZ hr RM.b_enter (A0 (pv 1) (A0 (pv 2) A5))))) (A8 (E4 (mC (pv 0) RM.cl RM.m_go_on agZ hr RM.b_go_on (A0 (cC MP hr (A0 (K0 (pv 0) rfl) (A0 (pv 1) (A0 (pv 2) A5)))) A5)))))))))
   (A8 (B6 K2))))))), ?_⟩
 refine⟨_,rfl,A.m,CM,A.dx,_,_,rfl,hM.m,RM.cl,RM.n4,l4,_,.inl ⟨_,SqL.of hM.s,rfl⟩, ?_⟩;rcases h with⟨he,q⟩|⟨S',⟨cs,fs,f,r,c,ae,rfl,M,B⟩,q⟩
 ·rw[he]at hF;cases hF;exact ifT rfl q
 simp only at hC hF hO hM;obtain⟨ah,a4,rfl,N,p0,sl,st,rfl,⟨q0,e0,g1,g2,g3⟩,T,D⟩:=P9 hF;refine ifF (by simp) ?_;obtain rfl:=hO;refine⟨_,rfl,A.m,CM,A.dx,_,_,rfl,hM.m,RM.cl,RM.n6,l6,_,_,rfl,rfl,A.dx,_,hM.m,lf, ?_⟩;rw[p6];have h1:=hM.putM ((r:Nat)+1) (c:Nat) .non;have k1:Kq A H (upd H A.m (.ins CM A.dx (N2 A (a:Nat) .non ((r:Nat)+1) (c:Nat)))):=Kq.updO _ (WQ A);have n:=hM.mo k1;have ag:∀ {x:Addr},upd H A.m (.ins CM A.dx (N2 A (a:Nat) .non ((r:Nat)+1) (c:Nat))) x=none->H x=none:=λ{x} e=>by
  by_cases z:x=A.m
  ·rw[z,A4]at e;cases e
  ·rw[B5 z]at e;exact e
 show AX _ _ _ [some (.ref A.m),none,none] (upd H A.m (.ins CM A.dx (N2 A (a:Nat) .non ((r:Nat)+1) (c:Nat))));generalize upd H A.m (.ins CM A.dx (N2 A (a:Nat) .non ((r:Nat)+1) (c:Nat)))=H1 at h1 k1 n ag⊢;have er:((r:Nat):Int)+1=((r+1:Nat):Int):=by omega
 have ec:((c:Nat):Int)+1=((c+1:Nat):Int):=by omega
 rw[er]at h1;replace g1:=n _ _ g1;replace g2:=n _ _ g2;replace g3:=n _ _ g3;replace hB:=hB.imp λ_ _ z=>BAt.mo n z;replace hC:=hC.imp λ_ _ z=>ClAt.mo n z;replace N:=N.imp λ_ _ z=>FAt.mo n z;replace T:=T.imp λ_ _ z=>VAt.mo n z;replace D:=D.imp λ_ _ z=>VAt.mo n z;have az:FrAt H1 p0 (f.k:Nat) (f.at_:Nat) sl st:=⟨q0,e0,g1,g2,g3⟩;refine⟨_,rfl,A.m,CM,A.dx,_,_,rfl,h1.m,RM.cl,RM.n4,l4,_,rfl,(ixL (v:=.ref p0) h1.s (K7 _ _) ?_)⟩;obtain⟨bk,av,aq⟩:∃bk,bs[f.k]? =some bk/\bk.rows[f.at_]? =some ae:=by
  unfold rowAt at M;obtain⟨bk,h1,h2⟩:=Option.bind_eq_some_iff.mp M;exact⟨bk,h1,h2⟩
 obtain⟨u,ao,tb,rs,ur,rfl,ay,ax,aw,ba⟩:=all2_get hB av;obtain⟨v,hv,ad,rfl,t⟩:=all2_get aw aq;refine⟨_,rfl,A.m,CM,A.dx,_,_,rfl,h1.m,RM.cl,RM.n1,l1,_,rfl,(ixT g1 rfl (ixL (v:=.ref tb) h1.bl (C4 ao) (ixT ay rfl ⟨_,rfl,(ixT g1 rfl (ixT (v:=.ref ad) ax (C4 hv) ?_))⟩)))⟩;refine⟨λ_ H'=>Q (.bl true) H', ?_,λ_ _ h=>h⟩;have ac:=hS.fr f (by simp);have aj:=hS.cs;have a7:=T.len;have a6:=D.len;have a9:=hC.len;have a8:=N.len;have ai:=hS.frs;simp only[length_append,length_singleton]at ai aj;have aa:∀ {A':Ad} {H':Hp} {O U:List V} {i:V} {S1:Ms},A'.m=A.m->(∀x∈A'.own,x∈A.own\/H1 x=none)->Kq A H1 H'->MR CM C H' A' vb O U (a:Nat) i (S1.r:Nat) (S1.c:Nat)->All2 (ClAt H') S1.cs O->All2 (FAt H') S1.frs U->OAt H' S1.out i->(∀A' H',New A A' H->Kq A H H'->MAt CM C H' A' bs a S1->Q (.bl true) H')->Q (.bl true) H':=λ{A' H' O U i S1} e1 e2 k2 h2 h3 h4 h5 q=>
  q A' H' ⟨e1,λx hx=>(e2 x hx).imp id ag⟩ (k1.trans k2) ⟨vb,O,U,i,h2,hB.imp λ_ _ z=>BAt.mo (h1.mo k2) z,h3,h4,h5⟩
 have G:∀(s:Addr),H1 s=none->∀x∈({A with s:=s}:Ad).own,x∈A.own\/H1 x=none:=λs hs x hx=>by
  simp only[Ad.own,mem_cons,not_mem_nil,or_false]at hx⊢;rcases hx with z|z|z|z|z
  ·exact .inl (.inl z)
  ·exact .inl (.inr (.inl z))
  ·exact .inl (.inr (.inr (.inl z)))
  ·exact .inl (.inr (.inr (.inr (.inl z))))
  ·exact .inr (by rw[z];exact hs)
 cases ae with
 |own rk=>
  obtain⟨am,al⟩:=YY rk;have hE:∃eo,Er cs f.sl rk f.st eo/\(match eo with
   | .fr d sl st=>S'=⟨cs,fs++ [⟨f.k,f.at_+d,sl,st⟩],none,r+1,c⟩
   | .rf w=>S'=⟨cs,[],some (.refused w),r+1,c⟩):=by
   cases B with
   |own h=>exact⟨_,h,rfl⟩
   |rf h=>exact⟨_,h,rfl⟩
  obtain⟨eo,a0,g⟩:=hE;refine⟨_,rfl,(ixT (v:=.str (S5 rk)) t (VS rk) (.inl ⟨rfl,_,rfl,ifF (λz=>am (V.str.inj (of_decide_eq_true z))) ?_⟩))⟩;refine⟨λ_ H'=>Q (.bl true) H', ?_,λ_ _ h=>h⟩;refine⟨_,rfl,(ixT (v:=.str (S5 rk)) t (VS rk) ⟨(by show 2<=sizeLine;omega),λt1 ap=> .inr (.inl ⟨t1,_,rfl,.inr (SqT.of A4),rfl,rfl,_,rfl,ifF (λz=>by rw[show(if false=true then !inV (.str (S5 rk)) [.str "call",.str "apply"]else inV (.str (S5 rk)) [.str "call",.str "apply"])=false from al]at z;cases z) ?_⟩)⟩)⟩;have s2:=qA ap (.tup [.str "call",.str "apply"]);generalize upd H1 t1 (.tup [.str "call",.str "apply"])=H2 at s2⊢;have R:Mo H1 H2:=tups_of s2;have h2:=h1.same s2;have a2:=hC.imp λ_ _ z=>ClAt.mo R z;have X:=T.imp λ_ _ z=>VAt.mo R z;have W:=D.imp λ_ _ z=>VAt.mo R z;obtain⟨a3,a1,hR⟩:=eoZ a2 X a0 W;refine⟨_,rfl,A.m,A.dx,_,rfl,h2.m,rfl,_,rfl,A.m,CM,A.dx,_,_,rfl,h2.m,RM.cl,RM.n3,l3,_,rfl,_,rfl, ?_⟩;refine⟨A.o,A.L,us,p0,_,_,sl,st,ad,rk,a3,rfl,h2.o,by omega,FrAt.mo' R az,by omega,by omega,s2 _ _ t,a1, ?_⟩;cases hR with
  | @fr d sl1 st1 sl2 st2 hs' ht'=>
   simp only at g;subst g;intro p q1 H3 s3 hp hq;have y:=s2.trans s3;have h3:=h1.same y;refine⟨A,vb,us,_,_,_,_,_,p,rfl,h3,.inl ⟨q1,ah,.ref p0,hp,rfl,λH4 k4 h4=> ?_⟩⟩;have j:=h3.mo k4;have l:Mo H1 H4:=λb xs e=>j _ _ (y _ _ e);have I:Mo H2 H4:=λb xs e=>j _ _ (s3 _ _ e);have e:((f.at_+d:Nat):Int)=(f.at_:Nat)+(d:Nat):=by omega
   refine aa rfl (λx hx=> .inl hx) ((Kq.of y).trans k4) h4 ?_ ?_ ?_ q
   ·exact hC.imp λ_ _ z=>ClAt.mo l z
   ·exact(N.imp λ_ _ z=>FAt.mo l z).app (.cons ⟨q1,sl2,st2,rfl,by rw[e];exact FrAt.mo' j hq,hs'.imp λ_ _ z=>VAt.mo I z,ht'.imp λ_ _ z=>VAt.mo I z⟩ .nil)
   ·rfl
  | @rf w=>
   simp only at g;subst g;intro p H3 s3 hp;have y:=s2.trans s3;have h3:=h1.same y;refine⟨A,vb,us,_,_,_,_,_,p,rfl,h3,.inr ⟨w,hp,λs4 H4 Y k4 h4=> ?_⟩⟩;have j:=h3.mo k4;have l:Mo H1 H4:=λb xs e=>j _ _ (y _ _ e);refine aa (A':={A with s:=s4}) rfl (G s4 (y.free Y)) ((Kq.of y).trans k4) h4 ?_ ?_ ?_ q
   ·exact hC.imp λ_ _ z=>ClAt.mo l z
   ·exact .nil
   ·exact⟨p,rfl,j _ _ hp⟩
 |back=>
  refine⟨_,rfl,(ixT t rfl (.inl ⟨rfl,_,rfl,ifT rfl ?_⟩))⟩;have hv:∃ds d x ab,st=ds++ [d]/\f.st=ab++ [x]/\VAt H1 x d:=by
   cases B with
   |last _ h=>rw[h]at D;obtain⟨ds,d,e,_,h2⟩:=P9 D;exact⟨ds,d,_,_,e,h,h2⟩
  obtain⟨ds,d,x,ab,rfl,J,ak⟩:=hv;refine⟨_,rfl,A.m,A.dx,_,rfl,h1.m,rfl,_,rfl,(ixT g1 rfl ⟨_,rfl,(ixT (v:=d) g3 (K7 _ _) ?_)⟩)⟩;cases B with
  |last au h=>
   rw[h]at J;obtain⟨_,an⟩:=List.append_inj' J rfl;cases an;subst au;cases N;refine⟨A,vb,us,.ref p0,_,_,_,_,d,rfl,h1,λs4 p H4 Y k4 h4 ar=> ?_⟩;have j:=h1.mo k4;refine aa (A':={A with s:=s4}) rfl (G s4 Y) k4 h4 ?_ ?_ ?_ q
   ·exact hC.imp λ_ _ z=>ClAt.mo j z
   ·exact .nil
   ·exact⟨p,d,rfl,ar,ak.mo j⟩
end
abbrev s_answer:Stmt:=inClass (top 70) 10
abbrev s_minit:Stmt:=inClass (top 70) 0
abbrev XQ:List Str:=["self"]
theorem sc_answer:FnScope XQ N5 (A9 s_answer):=fS
abbrev aIZ:List Str:=["self","blocks","main","numbers","most"]
theorem sc_minit:FnScope aIZ asZ (A9 s_minit):=fS
theorem azZ{H:Hp}{o d:Addr}(ho:H o=none)(hd:H d=none)(hn:d≠o)(hL:upd (upd H d (.own o)) o (.ins C d []) L=none):
  Same H (upd (upd (upd (upd H d (.own o)) o (.ins C d [])) L (.lst [])) o (.ins C d [("in_order",.ref L)]))/\CAt C (upd (upd (upd (upd H d (.own o)) o (.ins C d [])) L (.lst [])) o (.ins C d [("in_order",.ref L)])) o L []/\H L=none:=by
 have c:L≠o:=λe=>by subst e;rw[A4]at hL;cases hL
 have a:=hL;rw[B5 c]at a;have f:L≠d:=λe=>by subst e;rw[A4]at a;cases a
 rw[B5 f]at a;refine⟨λb x hb=> ?_,⟨d,A4, ?_⟩,a⟩
 ·rw[B5 (B9 hb ho),B5 (B9 hb a),B5 (B9 hb ho),B5 (B9 hb hd)];exact hb
 ·rw[B5 c];exact A4
def VRa(cs:List Cl):_Q.Pv->Vl->Prop
 | .int i,x=>x=.sc (.int i)
 | .bl b,x=>x=.sc (.bl b)
theorem VRa.vr{cs:List Cl}{us:List V}(hC:All2 (ClAt H) cs us):∀ {t:_Q.Pv} {x:Vl} {v:V},VRa cs t x->VAt H x v->_Q.VR H us t v
 | .int _,_,_,e,h=>by subst e;exact h.1
 | .bl _,_,_,e,h=>by subst e;exact h.1
section
inductive spAnswerW(CM C Pt:Addr)(vs:List V)(H:Hp)(Q:VK):Prop
 |mk:∀(A:Ad) (bs:List Bk) (most:Nat) (S:Ms),(vs=[.ref A.m])->(MAt CM C H A bs most S)->(((∃x t,S.out=some (.value x)/\VRa S.cs t x/\_Q.size t<=400000/\EH H Pt _Q.lamAt _Q.lamQ/\∀p r H1 H',(∀b ob,H b=some ob->b≠Pt->H1 b=some ob)->EH H1 Pt _Q.lamAt _Q.lamQ->(_Q.R (λa=>H a=none) H1 t).1 r->H1 p=none->H'=upd H1 p (.tup [.str "value",r])->Q (.ref p) H')\/(YL S.out=false/\∀u,OAt H S.out u->Q u H)))->spAnswerW CM C Pt vs H Q
def DU(CM C Pt:Addr):Sp:=λvs H Q _=>spAnswerW CM C Pt vs H Q
theorem ok_answer{Pt:Addr}{gf:Str->Addr}{gd:Str->FuncData}(F:Fun Z "answer" "Machine.answer" s_answer (gf "answer") (gd "answer"))(RM:MCls Z CM gf gd)
  (IU:FnOk P w Z mg qB CX0 1 (gf "has_value") (gd "has_value") N5 (WB CM))
  (GV:Cn P w Z mg qB CX0 5 "plain" MB (_Q.spPlain C Pt)):
  FnOk P w Z mg qB CX0 6 (gf "answer") (gd "answer") N5 (DU CM C Pt):=by
 refine F.ok sc_answer (λvs H Q E h=> ?_) (λj A c s H vs Q E hr h=> ?_)
 ·obtain⟨A,bs,a,S,rfl,_⟩:=h;rfl
 obtain⟨A,bs,a,S,rfl,hA,h⟩:=h;obtain⟨vb,us,vf,d,hM,hB,hC,hF,hO⟩:=hA.ex;have nd:=sc_answer.nd;have hu:=hr.units0;refine⟨_,(A7 (C2 (E5 (Z:=Z) (mN (pv 0) RM.cl RM.m_has_value IU hr RM.b_has_value) (λ_=>rfl)) (A8 (B6 (B4 (A0 B0 (A0 (cC GV hr (A0 (K0 (pv 0) rfl) (A0 (ixE Z w (K0 (pv 0) rfl) A6) A5))) A5))))) C0)
   (A8 (B6 (K0 (pv 0) rfl)))), ?_⟩
 refine⟨_,rfl,A.m,A.dx,_,rfl,hM.m,rfl,A,_,d,_,_,YL S.out,rfl,hM.m,hO.ov,_,rfl, ?_⟩;rcases h with⟨x,t,ho,hx,f,hT,b⟩|⟨hv,b⟩
 ·rw[ho]at hO⊢;obtain⟨p,v,rfl,hp,e⟩:=hO;refine ifT rfl ⟨_,rfl,A.m,CM,A.dx,_,_,rfl,hM.m,RM.cl,RM.n3,l3,_,rfl,A.m,CM,A.dx,_,_,rfl,hM.m,RM.cl,RM.n5,l5,(ixT hp rfl ?_)⟩;refine⟨A.o,A.L,us,t,v,rfl,hM.o,VRa.vr hC hx e,f,hT,λr H1 k1 i hR=>⟨(by show 2<=sizeLine;decide),λp1 g=> ?_⟩⟩;exact b p1 r H1 _ k1 i hR g rfl
 ·rw[hv];exact ifF nZ ⟨_,rfl,A.m,CM,A.dx,_,_,rfl,hM.m,RM.cl,RM.n5,l5,b d hO⟩
inductive spMInitW (CM C:Addr) (vs:List V) (H:Hp) (Q:VK):Prop
 |mk:∀(x dx bl num:Addr) (vb xs:List V) (main most:Nat) (bs:List Bk) (bk:Bk) (ws:List Vl),(vs=[.ref x,.ref bl,.int (main:Nat),.ref num,.int (most:Nat)])->(H x=some (.ins CM dx []))->(H bl=some (.lst vb))->(All2 (BAt H) bs vb)->(bs[main]? =some bk)->(H num=some (.lst xs))->(All2 (VAt H) ws xs)->(ws.length<=bk.sz)->(∀A H',A.m=x->(∀b ob,H b=some ob->b≠x->H' b=some ob)->(∀y∈A.own,y=x\/H y=none)->MAt CM C H' A bs most ⟨[],[begun main bk.sz ws],none,0,0⟩->Q .non H')->spMInitW CM C vs H Q
def ID(CM C:Addr):Sp:=λvs H Q _=>spMInitW CM C vs H Q
theorem ok_minit{gd:Str->FuncData}(F:Fun Z "__init__" "Machine.__init__" s_minit fim dim)(B:NoG mg)(RM:MCls Z CM gf gd)(M_Cells:Mk Z C fi)(m_Cells:mg "Cells"=some (.ref C))
  (G___init__:FnOk P w Z mg qB CX0 1 fi di N5 (YR C))(b___init__:Binds Z di N5 [])
  (SC:Cn P w Z mg qB CX0 1 "entered" czZ bJZ):
  FnOk P w Z mg qB CX0 3 fim dim asZ (ID CM C):=by
 refine F.ok sc_minit (λvs H Q E h=> ?_) (λax A S s H vs Q E hr h=> ?_)
 ·obtain⟨x,dx,bl,T,vb,xs,m,a,bs,bk,ws,rfl,_⟩:=h;rfl
 obtain⟨x,dx,bl,T,vb,xs,m,a,bs,bk,ws,rfl,hx,O,hB,ak,t,hW,aw,q⟩:=h;have nd:=sc_minit.nd;have hu:=hr.units0;have zz:(1000:Nat)<=sizeLine:=by decide
 refine⟨_,(A7 (P3 (pv 0) (E6 (BE (Z:=Z)) rfl B.list_ Q8 (A0 (pv 1) A5)) rfl)
   (A7 (P3 (pv 0) (pv 4) rfl)
   (A7 (P3 (pv 0) (XG M_Cells G___init__ (hr.mono (by omega)) rfl m_Cells b___init__ .nil F8) rfl)
   (A7 (P3 (pv 0) (C8 (A0 (cC SC hr (A0 (pv 1) (A0 (pv 2) (A0 (pv 3) A5)))) A5)) rfl)
   (A7 (P3 (pv 0) G9 rfl)
   (A7 (P3 (pv 0) A6 rfl)
   (A8 (P3 (pv 0) A6 rfl)))))))), ?_⟩
 refine⟨_,rfl,bl,vb,rfl,.inl (SqL.of O),λnb I=> ?_⟩;have t1:=qA I (.lst vb);refine⟨_,rfl,x,CM,dx,_,rfl,t1 _ _ hx,RM.cl,RM.n1,(by decide), ?_⟩;have k:nb≠x:=λe=>by rw[e,hx]at I;cases I
 have k1:∀b ob,H b=some ob->b≠x->upd (upd H nb (.lst vb)) x (.ins CM dx [("blocks",.ref nb)]) b=some ob:=λb ob e n=>by rw[B5 n];exact t1 _ _ e
 have j:upd (upd H nb (.lst vb)) x (.ins CM dx [("blocks",.ref nb)]) nb=some (.lst vb):=by rw[B5 k];exact A4
 have Y:upd (upd H nb (.lst vb)) x (.ins CM dx [("blocks",.ref nb)]) x=some (.ins CM dx [("blocks",.ref nb)]):=A4;show AX _ _ _ _ (upd (upd H nb (.lst vb)) x (.ins CM dx [("blocks",.ref nb)]));generalize upd (upd H nb (.lst vb)) x (.ins CM dx [("blocks",.ref nb)])=H1 at k1 j Y⊢;refine⟨_,rfl,_,rfl,x,CM,dx,_,rfl,Y,RM.cl,RM.n2,(by show 1<1000;decide), ?_⟩;have k2:∀b ob,H1 b=some ob->b≠x->upd H1 x (.ins CM dx [("blocks",.ref nb),("most",.int (a:Nat))]) b=some ob:=λb ob e n=>by rw[B5 n];exact e
 have o:upd H1 x (.ins CM dx [("blocks",.ref nb),("most",.int (a:Nat))]) x=some (.ins CM dx [("blocks",.ref nb),("most",.int (a:Nat))]):=A4;show AX _ _ _ _ (upd H1 x (.ins CM dx [("blocks",.ref nb),("most",.int (a:Nat))]));generalize upd H1 x (.ins CM dx [("blocks",.ref nb),("most",.int (a:Nat))])=H2 at k2 o⊢;have l:∀ {b:Addr} {ob:HO},H b=some ob->(∀c d e,ob≠ .ins c d e)->b≠x:=λ{b ob} e n z=>by rw[z,hx]at e;exact n _ _ _ (sJ e).symm
 refine λo2 d2 G aj ai=>⟨o2,d2,rfl,A4,λ_L ap=>⟨rfl, ?_⟩⟩;obtain⟨s3,ab,i⟩:=azZ (C:=C) G aj ai ap;generalize upd (upd (upd (upd H2 d2 (.own o2)) o2 (.ins C d2 [])) _L (.lst [])) o2 (.ins C d2 [("in_order",.ref _L)])=H3 at s3 ab⊢;refine⟨_,rfl,x,CM,dx,_,rfl,s3 _ _ o,RM.cl,RM.n3,(by show 2<1000;decide), ?_⟩;obtain⟨ar,ah,ao⟩:=id ab;have M:o2≠x:=λe=>by rw[e,o]at G;cases G
 have L:_L≠x:=λe=>by rw[e,o]at i;cases i
 have k4:∀b ob,H3 b=some ob->b≠x->upd H3 x (.ins CM dx [("blocks",.ref nb),("most",.int (a:Nat)),("store",.ref o2)]) b=some ob:=λb ob e n=>by rw[B5 n];exact e
 have D:upd H3 x (.ins CM dx [("blocks",.ref nb),("most",.int (a:Nat)),("store",.ref o2)]) x=some (.ins CM dx [("blocks",.ref nb),("most",.int (a:Nat)),("store",.ref o2)]):=A4;show AX _ _ _ _ (upd H3 x (.ins CM dx [("blocks",.ref nb),("most",.int (a:Nat)),("store",.ref o2)]));generalize upd H3 x (.ins CM dx [("blocks",.ref nb),("most",.int (a:Nat)),("store",.ref o2)])=H4 at k4 D⊢;have kk:∀b ob,H b=some ob->b≠x->H4 b=some ob:=λb ob e n=>k4 _ _ (s3 _ _ (k2 _ _ (k1 _ _ e n) n)) n;have mo:Mo H H4:=λb zs e=>kk _ _ e (l e λc d f z=>nomatch z);obtain⟨u2,ag,ac,av,au,rfl,R,an,am,al⟩:=all2_get hB ak;have ae:=hW.len;refine⟨_,rfl,_,rfl,_,rfl,bl,vb,m,bk.sz,T,xs,rfl,kk _ _ O (l O λc d f z=>nomatch z),⟨ac,_,_,ag,mo _ _ R⟩,.inl (kk _ _ t (l t λc d f z=>nomatch z)),by omega,by omega,λp H5 s5 aq=>⟨(by show 1<=sizeLine;omega),λsl g=> ?_⟩⟩;have t6:=qA g (.lst [.ref p]);have af:=t6 _ _ (s5 _ _ D);refine⟨_,rfl,x,CM,dx,_,rfl,af,RM.cl,RM.n4,(by show 3<1000;decide), ?_⟩;have J:sl≠x:=λe=>by rw[e,s5 _ _ D]at g;cases g
 have k7:∀b ob,upd H5 sl (.lst [.ref p]) b=some ob->b≠x->upd (upd H5 sl (.lst [.ref p])) x (.ins CM dx [("blocks",.ref nb),("most",.int (a:Nat)),("store",.ref o2),("standing",.ref sl)]) b=some ob:=λb ob e n=>by rw[B5 n];exact e
 have X:upd (upd H5 sl (.lst [.ref p])) x (.ins CM dx [("blocks",.ref nb),("most",.int (a:Nat)),("store",.ref o2),("standing",.ref sl)]) x=some (.ins CM dx [("blocks",.ref nb),("most",.int (a:Nat)),("store",.ref o2),("standing",.ref sl)]):=A4;have r:upd (upd H5 sl (.lst [.ref p])) x (.ins CM dx [("blocks",.ref nb),("most",.int (a:Nat)),("store",.ref o2),("standing",.ref sl)]) sl=some (.lst [.ref p]):=by rw[B5 J];exact A4
 show AX _ _ _ _ (upd (upd H5 sl (.lst [.ref p])) x (.ins CM dx [("blocks",.ref nb),("most",.int (a:Nat)),("store",.ref o2),("standing",.ref sl)]));generalize upd (upd H5 sl (.lst [.ref p])) x (.ins CM dx [("blocks",.ref nb),("most",.int (a:Nat)),("store",.ref o2),("standing",.ref sl)])=H7 at k7 X r⊢;refine⟨_,rfl,x,CM,dx,_,rfl,X,RM.cl,RM.n5,(by show 4<1000;decide), ?_⟩;refine⟨_,rfl,x,CM,dx,_,rfl,A4,RM.cl,RM.n6,(by show 5<1000;decide), ?_⟩;refine⟨_,rfl,x,CM,dx,_,rfl,A4,RM.cl,RM.n7,(by show 6<1000;decide), ?_⟩;have k8:∀b ob,H7 b=some ob->b≠x->upd (upd (upd H7 x (.ins CM dx [("blocks",.ref nb),("most",.int (a:Nat)),("store",.ref o2),("standing",.ref sl),("outcome",.non)])) x (.ins CM dx [("blocks",.ref nb),("most",.int (a:Nat)),("store",.ref o2),("standing",.ref sl),("outcome",.non),("rows_so_far",.int 0)])) x (.ins CM dx (N2 ⟨x,dx,nb,o2,_L,sl⟩ (a:Nat) .non 0 0)) b=some ob:=λb ob e n=>by rw[B5 n,B5 n,B5 n];exact e
 have v:∀b ob,H4 b=some ob->b≠x->H7 b=some ob:=λb ob e n=>k7 _ _ (t6 _ _ (s5 _ _ e)) n;have U:Mo H (upd (upd (upd H7 x (.ins CM dx [("blocks",.ref nb),("most",.int (a:Nat)),("store",.ref o2),("standing",.ref sl),("outcome",.non)])) x (.ins CM dx [("blocks",.ref nb),("most",.int (a:Nat)),("store",.ref o2),("standing",.ref sl),("outcome",.non),("rows_so_far",.int 0)])) x (.ins CM dx (N2 ⟨x,dx,nb,o2,_L,sl⟩ (a:Nat) .non 0 0))):=λb zs e=>k8 _ _ (v _ _ (mo _ _ e) (l e λc d f z=>nomatch z)) (l e λc d f z=>nomatch z);have W:∀ {b:Addr} {zs:List V},H5 b=some (.tup zs)->b≠x:=λ{b zs} e z=>by rw[z,s5 _ _ D]at e;cases e
 have ad:Mo H5 (upd (upd (upd H7 x (.ins CM dx [("blocks",.ref nb),("most",.int (a:Nat)),("store",.ref o2),("standing",.ref sl),("outcome",.non)])) x (.ins CM dx [("blocks",.ref nb),("most",.int (a:Nat)),("store",.ref o2),("standing",.ref sl),("outcome",.non),("rows_so_far",.int 0)])) x (.ins CM dx (N2 ⟨x,dx,nb,o2,_L,sl⟩ (a:Nat) .non 0 0))):=λb zs e=>k8 _ _ (k7 _ _ (t6 _ _ e) (W e)) (W e);have fr:∀ {y:Addr},H2 y=none->H y=none:=λ{y} e=>by
  cases e':H y with
  |none=>rfl
  |some ob=>
   by_cases z:y=x
   ·rw[z,o]at e;cases e
   ·rw[k2 _ _ (k1 _ _ e' z) z]at e;cases e
 have N:H sl=none:=by
  cases e':H sl with
  |none=>rfl
  |some ob=>rw[s5 _ _ (kk _ _ e' J)]at g;cases g
 have u:H4 nb=some (.lst vb):=k4 _ _ (s3 _ _ (k2 _ _ j k)) k;have aa:H4 _L=some (.lst []):=k4 _ _ ao L;refine q ⟨x,dx,nb,o2,_L,sl⟩ _ rfl (λb ob e n=>k8 _ _ (v _ _ (kk _ _ e n) n) n) (λy hy=> ?_) ⟨vb,[],[.ref p],.non,⟨A4,k8 _ _ (v _ _ u k) k,⟨ar,k8 _ _ (v _ _ (k4 _ _ ah M) M) M,k8 _ _ (v _ _ aa L) L⟩,k8 _ _ r J, ?_, ?_, ?_⟩,hB.imp λ_ _ z=>BAt.mo U z,.nil,.cons ⟨p,_,[],rfl,FrAt.mo' ad aq, ?_,.nil⟩ .nil,rfl⟩
 ·simp only[Ad.own,mem_cons,not_mem_nil,or_false]at hy;rcases hy with z|z|z|z|z
  ·exact .inl z
  ·exact .inr (by rw[z];exact I)
  ·exact .inr (by rw[z];exact fr G)
  ·exact .inr (by rw[z];exact fr i)
  ·exact .inr (by rw[z];exact N)
 ·exact λ(e:_L=sl)=>by rw[<-e,s5 _ _ aa]at g;cases g
 ·exact λ(e:nb=sl)=>by rw[<-e,s5 _ _ u]at g;cases g
 ·exact λ(e:nb=_L)=>by
   have:H2 nb=some (.lst vb):=k2 _ _ j k;rw[e,i]at this;cases this
 ·show All2 _ (ws++List.replicate (bk.sz - ws.length) (.sc .non)) _;rw[ae];exact(hW.imp λ_ _ z=>VAt.mo U z).app (KF _)
end
end _M
namespace _J
open PySem _L _B
theorem ifT{A:Prop}[Decidable c](h:c)(a:A):if c then A else B:=by rw[if_pos h];exact a
theorem ifF{B:Prop}[Decidable c](h:¬c)(b:B):if c then A else B:=by rw[if_neg h];exact b
theorem D5{H:Hp}{a b:Addr}{o:HO}(h:H b=some o)(n:b≠a):upd H a o' b=some o:=by rw[B5 n];exact h
theorem ixN_nat{n j:Nat}(h:j<n):ixN n (j:Int)=some j:=by
 unfold ixN;rw[if_pos (by omega),if_pos (by omega),Int.toNat_natCast]
inductive Rw where
 |skip (k:Nat)|unl (k:Nat)|oth (xs:List V)
noncomputable def rv:Rw->List V
 | .skip k=> [.str "skip",.int (k:Nat)]
 | .unl k=> [.str "unless",.int (k:Nat)]
 | .oth xs=>xs
def wdO:List V->Str
 | .str w::_=>w
 |_=> "push"
def wd:Rw->Str
 | .skip _=> "skip"
 | .unl _=> "unless"
 | .oth xs=>wdO xs
def OkT(w:Str)(r:List V):Prop:=(w="push"->(∃n:Int,r=[.int n])\/∃b:Bool,r=[.bl b])/\(w="load"\/w="keep"->∃n:Nat,r=[.int (n:Nat)])/\(w="back"->r=[])
def Okr:Rw->Prop
 | .oth xs=>∃w r,xs=.str w::r/\w≠ "skip"/\w≠ "unless"/\r.all _C.isSc=true/\r.length<=3/\OkT w r
 |_=>True
theorem at0(h:Okr r):atI (rv r) 0=some (.str (wd r)):=by
 cases r with
 |oth xs=>obtain⟨w,r,rfl,_⟩:=h;exact C4 (j:=0) rfl
 |skip k=>rfl
 |unl k=>rfl
def isJ:Rw->Bool
 | .oth _=>false
 |_=>true
theorem eEZ(w a b:Str):inV (.str w) [.str a,.str b]=(a==w||b==w):=by
 show([V.str a,V.str b].any λy=>eqV y (.str w))=_;simp[eqV]
theorem inJ(h:Okr r):inV (.str (wd r)) [.str "skip",.str "unless"]=isJ r:=by
 rw[eEZ];cases r with
 |skip k=>rfl
 |unl k=>rfl
 |oth xs=>
  obtain⟨w,r,rfl,h1,h2,_⟩:=h;show(("skip":Str)==w||("unless":Str)==w)=false;rw[beq_false_of_ne (Ne.symm h1),beq_false_of_ne (Ne.symm h2)];rfl
noncomputable def gn:Rw->Nat->Option Nat
 | .skip k,i=>some (i+1+k)
 | .unl k,i=>some (i+1+k)
 | .oth _,_=>none
noncomputable def gl(r:Rw)(i:Nat):V:=match gn r i with
 |some j=> .int (j:Nat)
 |none=> .non
theorem gl_non:gl r i=.non↔gn r i=none:=by
 unfold gl;cases h:gn r i with
 |none=>simp
 |some j=>simp
def stays:Rw->Bool
 | .skip _=>false
 | .unl _=>true
 | .oth xs=> !(("back":Str)==wdO xs)
theorem inL(h:Okr r):inV (.str (wd r)) [.str "skip",.str "back"]= !stays r:=by
 rw[eEZ];cases r with
 |skip k=>rfl
 |unl k=>rfl
 |oth xs=>
  obtain⟨w,r,rfl,h1,h2,_⟩:=h;show(("skip":Str)==w||("back":Str)==w)= !(!(("back":Str)==w));rw[beq_false_of_ne (Ne.symm h1),Bool.not_not,Bool.false_or]
def RowsAt(H:Hp)(p:Addr)(rs:List Rw):Prop:=
 ∃us:List V,H p=some (.tup us)/\us.length=rs.length/\(∀r∈rs,Okr r)/\∀(i:Nat) (r:Rw),rs[i]? =some r->∃a:Addr,us[i]? =some (V.ref a)/\H a=some (.tup (rv r))
theorem RowsAt.mo(m:_C.Mo H H')(h:RowsAt H p rs):RowsAt H' p rs:=by
 obtain⟨us,h1,h2,h3,h4⟩:=h;exact⟨us,m _ _ h1,h2,h3,λi r hi=>let⟨a,h5,h6⟩:=h4 i r hi;⟨a,h5,m _ _ h6⟩⟩
theorem RowsAt.same(m:Same H H')(h:RowsAt H p rs):RowsAt H' p rs:=h.mo (_C.tups_of m)
def gv(rs:List Rw)(i:Nat):V:=match rs[i]? with
 |some r=>gl r i
 |none=> .non
theorem bxZ{rs:List Rw}{i:Nat}{r:Rw}(h:rs[i]? =some r):gv rs i=gl r i:=by unfold gv;rw[h]
def glsV(rs:List Rw):List V:=(List.range rs.length).map (gv rs)
theorem glsV_at{rs:List Rw}{i:Nat}{r:Rw}(h:rs[i]? =some r):(glsV rs)[i]? =some (gl r i):=by
 have hi:i<rs.length:=(List.getElem?_eq_some_iff.mp h).1;unfold glsV;rw[getElem?_map,getElem?_range hi,map_some,bxZ h]
theorem glsV_len(rs:List Rw):(glsV rs).length=rs.length:=by unfold glsV;rw[length_map,length_range]
def Src(rs:List Rw)(i j:Nat):Prop:=∃r,rs[i]? =some r/\((stays r=true/\j=i+1)\/gn r i=some j)
inductive R (rs:List Rw):Nat->Prop where
 |zero:R rs 0
 |src {i j:Nat}:R rs i->Src rs i j->R rs j
theorem VP{j:Nat}(h:gn r i=some j):i<j:=by
 cases r with
 |skip k=>simp only[gn,Option.some.injEq]at h;omega
 |unl k=>simp only[gn,Option.some.injEq]at h;omega
 |oth xs=>cases h
theorem Src.lt(h:Src rs i j):i<j:=by
 obtain⟨r,_,⟨_,rfl⟩|h⟩:=h
 ·omega
 ·exact VP h
theorem R.iff:R rs j↔j=0\/∃i,i<j/\R rs i/\Src rs i j:=by
 constructor
 ·intro h;cases h with
  |zero=>exact .inl rfl
  |src h s=>exact .inr ⟨_,s.lt,h,s⟩
 ·rintro(rfl|⟨i,_,h,s⟩)
  ·exact .zero
  ·exact .src h s
def Wf(rs:List Rw):Prop:=0<rs.length/\∀i j,Src rs i j->j<rs.length
theorem R.lt(w:Wf rs)(h:R rs j):j<rs.length:=by
 cases h with
 |zero=>exact w.1
 |src h s=>exact w.2 _ _ s
open Classical in
noncomputable def rb(rs:List Rw)(j:Nat):Bool:=decide (R rs j)
open Classical in
theorem rb_iff:rb rs j=true↔R rs j:=by unfold rb;exact decide_eq_true_iff
noncomputable def rL(rs:List Rw)(n:Nat):List V:=((List.range n).filter (rb rs)).map λj=>V.int (j:Nat)
theorem PZ(rs:List Rw)(n:Nat):rL rs (n+1)=rL rs n++if rb rs n=true then [.int (n:Nat)]else []:=by
 unfold rL;rw[range_succ,filter_append,map_append];congr 1;by_cases h:rb rs n=true
 ·rw[if_pos h,filter_cons_of_pos h];rfl
 ·rw[if_neg h,filter_cons_of_neg h];rfl
theorem cLZ(rs:List Rw)(n:Nat):(rL rs n).length<=n:=by
 unfold rL;rw[length_map];exact le_trans (length_filter_le _ _) (by rw[length_range];exact le_refl _)
def Led(rs:List Rw)(i:Nat)(kvs:List (Key×V)):Prop:=∀j:Nat,(F9 kvs (.inl (j:Int))).isSome=true↔(j=0\/∃s,s<i/\R rs s/\Src rs s j)
theorem Led.here(h:Led rs i kvs):(F9 kvs (.inl (i:Int))).isSome=rb rs i:=by
 have:=(h i).trans (R.iff (rs:=rs) (j:=i)).symm;rw[Bool.eq_iff_iff,rb_iff];exact this
theorem inl_eq{a b:Nat}:(Sum.inl (a:Int):Key)=Sum.inl (b:Int)↔a=b:=⟨λh=>by have:=Sum.inl.inj h;omega,λh=>by rw[h]⟩
theorem Led.no(h:Led rs i kvs)(n:¬R rs i):Led rs (i+1) kvs:=λj=>(h j).trans ⟨fun
 | .inl e=> .inl e
 | .inr ⟨s,hs,h1,h2⟩=> .inr ⟨s,by omega,h1,h2⟩,fun
 | .inl e=> .inl e
 | .inr ⟨s,hs,h1,h2⟩=> .inr ⟨s,by
   by_cases e:s=i
   ·subst e;exact absurd h1 n
   ·omega,h1,h2⟩⟩
def pj(kvs:List (Key×V)):Option Nat->List (Key×V)
 |some j=>N6 kvs (.inl (j:Int)) (.bl true)
 |none=>kvs
theorem QJ(kvs:List (Key×V))(o:Option Nat)(j:Nat):(F9 (pj kvs o) (.inl (j:Int))).isSome=true↔(o=some j\/(F9 kvs (.inl (j:Int))).isSome=true):=by
 cases o with
 |none=>simp[pj]
 |some k=>
  show(F9 (N6 kvs (.inl (k:Int)) (.bl true)) (.inl (j:Int))).isSome=true↔_;rw[ES];by_cases e:j=k
  ·subst e;simp
  ·rw[if_neg λz=>e (inl_eq.mp z)];constructor
   ·exact λh=> .inr h
   ·rintro(h|h)
    ·exact absurd (sJ h).symm e
    ·exact h
theorem ZN(kvs:List (Key×V))(o:Option Nat):(pj kvs o).length<=kvs.length+1:=by
 cases o with
 |none=>exact le_succ _
 |some k=>exact K3 _ _ _
theorem Led.yes{r:Rw}(h:Led rs i kvs)(hR:R rs i)(hr:rs[i]? =some r):Led rs (i+1) (pj (pj kvs (gn r i)) (if stays r=true then some (i+1)else none)):=λj=>by
 rw[QJ,QJ,h j];constructor
 ·rintro(h|h|h|⟨s,hs,h1,h2⟩)
  ·refine .inr ⟨i,lt_succ_self _,hR,r,hr,.inl ?_⟩;by_cases c:stays r=true
   ·rw[if_pos c]at h;exact⟨c,(sJ h).symm⟩
   ·rw[if_neg c]at h;cases h
  ·exact .inr ⟨i,lt_succ_self _,hR,r,hr,.inr h⟩
  ·exact .inl h
  ·exact .inr ⟨s,by omega,h1,h2⟩
 ·rintro(h|⟨s,hs,h1,h2⟩)
  ·exact .inr (.inr (.inl h))
  ·by_cases e:s=i
   ·subst e;obtain⟨r',a,h3⟩:=h2;rw[hr]at a;cases a;rcases h3 with⟨c,rfl⟩|h3
    ·rw[if_pos c];exact .inl rfl
    ·exact .inr (.inl h3)
   ·exact .inr (.inr (.inr ⟨s,by omega,h1,h2⟩))
theorem Led.start(rs:List Rw):Led rs 0 (D3 [] [((.inl 0:Key),V.bl true)]):=λj=>by
 show(F9 (N6 ([]:List (Key×V)) (Sum.inl 0:Key) (V.bl true)) (Sum.inl (j:Int):Key)).isSome=true↔_;have:=QJ [] (some 0) j;refine this.trans ?_;constructor
 ·rintro(h|h)
  ·exact .inl (sJ h).symm
  ·cases h
 ·rintro(h|⟨s,hs,_⟩)
  ·exact .inl (by rw[h])
  ·exact absurd hs (not_lt_zero _)
end _J
namespace _J
open PySem _L _B
seal PE PT PW PA PS PSs PTs PI PG PGs PO
def top(i:Nat):Stmt:=PySem.Challenge.pw_speakmill_k73_folded.main.body.getD i (.Pass ⟨0,0,0,0⟩)
abbrev s_goals:Stmt:=top 4
abbrev RG:List Str:=["rows"]
theorem sc_goals:FnScope RG M8 (A9 s_goals):=fS
structure NoG (mg:Str->Option Value):Prop where
 len_:mg "len"=none
 list_:mg "list"=none
 range_:mg "range"=none
 reversed_:mg "reversed"=none
 enumerate_:mg "enumerate"=none
 isinstance_:mg "isinstance"=none
 tuple_:mg "tuple"=none
 int_:mg "int"=none
 bool_:mg "bool"=none
 dict_:mg "dict"=none
 min_:mg "min"=none
abbrev FE(Z:FZ)(a:Addr)(xs:List V):Prop:=∀H:Hp,SqT Z H a xs
abbrev JV:List V:=[.str "skip",.str "unless"]
abbrev LV:List V:=[.str "skip",.str "back"]
section
inductive spGoalsW(vs:List V)(H:Hp)(Q:VK):Prop
 |mk:∀(p:Addr) (rs:List Rw),(vs=[.ref p])->(RowsAt H p rs)->(rs.length<=1000)->(∀l H',Same H H'->H l=none->H' l=some (.lst (glsV rs))->Q (.ref l) H')->spGoalsW vs H Q
def spGoals:Sp:=λvs H Q _=>spGoalsW vs H Q
theorem ok_goals(F:Fun Z "goals" "goals" s_goals f fd)(B:NoG mg)(TJ:FE Z aJ JV)(m_JUMPS:mg "JUMPS"=some (.ref aJ)):FnOk P w Z mg qB CX0 1 f fd M8 spGoals:=by
 refine F.ok sc_goals (λvs H Q E h=> ?_) (λj A d s H vs Q E hr h=> ?_)
 ·obtain⟨p,rs,rfl,_⟩:=h;rfl
 obtain⟨p,rs,rfl,hR,hn,q⟩:=h;have nd:=sc_goals.nd;have hu:=hr.units0;have zz:(2000:Nat)<=sizeLine:=by decide
 obtain⟨us,h1,h2,h3,h4⟩:=hR;refine⟨_,(A8 (B6 (VZ (CompScope2.mk (N:=RG) (sc:=A9 s_goals) (caps:=[]) (ns:=[]) (by decide +kernel) rfl (by decide +kernel) rfl rfl (by decide +kernel) rfl (by decide +kernel) (by decide +kernel)) rfl rfl rfl (KL true (Z:=Z) rfl B.enumerate_ (A0 (pv 0) A5)) (λ_ _ _ _ _=>J8) (λ_ _ _ _ _=>(J6 (B7 (kIn (Z:=Z) (w:=w)) (ixE Z w (pv 1) A6) (D7 (v:=.ref _) rfl m_JUMPS rfl) rfl) (B8 L5 (B8 L5 (pv 0) A6) (ixE Z w (pv 1) A6)) G9))))), ?_⟩;refine⟨_,rfl,p,us,rfl,SqT.of h1,OY (xs:=us) (λi zs H'=>zs=(List.range i).map (gv rs)/\Same H H') ⟨rfl,λ_ _ h=>h⟩ ?_ ?_ ?_⟩
 ·rintro i zs H' hi ⟨rfl,s1⟩;exact⟨SqT.of (s1 _ _ h1),by rw[length_map,length_range];omega⟩
 ·rintro i x zs H' T hx ⟨rfl,s1⟩ hT;have hi:i<rs.length:=by rw[<-h2];exact(List.getElem?_eq_some_iff.mp hx).1
  obtain⟨r,c⟩:∃r,rs[i]? =some r:=⟨_,List.getElem?_eq_getElem hi⟩;obtain⟨a,ha,g⟩:=h4 i r c;rw[hx]at ha;cases ha;have e:Okr r:=h3 r (mem_of_getElem? c);have s2:=s1.trans (qA hT (.tup [.int (i:Nat),.ref a]));have b:=s2 _ _ g;generalize upd H' T (.tup [.int (i:Nat),.ref a])=H2 at s2 b⊢;have ez:(List.range (i+1)).map (gv rs)=(List.range i).map (gv rs)++ [gl r i]:=by rw[range_succ,map_append,List.map_singleton,bxZ c]
  refine O4 ?_;refine⟨_,rfl,(ixT b (at0 e) (.inr (.inl ⟨aJ,JV,rfl,.inr (TJ H2),rfl,rfl,_,rfl, ?_⟩)))⟩;show if inV (.str (wd r)) JV=true then _ else _
  rw[inJ e];cases r with
  |skip k=>
   refine ifT rfl ⟨_,rfl,.inl ⟨_,_,rfl,rfl,_,rfl,(ixT b rfl (.inl ⟨_,_,rfl,rfl, ?_⟩))⟩⟩;refine⟨?_,s2⟩;rw[ez];show _=_++ [V.int ((i+1+k:Nat):Int)];rw[show((i+1+k:Nat):Int)=(i:Int)+1+k by omega]
  |unl k=>
   refine ifT rfl ⟨_,rfl,.inl ⟨_,_,rfl,rfl,_,rfl,(ixT b rfl (.inl ⟨_,_,rfl,rfl, ?_⟩))⟩⟩;refine⟨?_,s2⟩;rw[ez];show _=_++ [V.int ((i+1+k:Nat):Int)];rw[show((i+1+k:Nat):Int)=(i:Int)+1+k by omega]
  |oth xs=>
   exact ifF nZ ⟨by rw[ez];rfl,s2⟩
 ·rintro zs H' ⟨rfl,s1⟩ D hD;rw[h2];exact q D _ (s1.trans (qA hD _)) (s1.free hD) A4
end
abbrev s_reached:Stmt:=top 5
abbrev UN:List Str:=["rows","led_to","found","number","goal"]
theorem sc_reached:FnScope UN M8 (A9 s_reached):=fS
section
def ZH(p d fo:Addr)(a3 a4:Option V):St:=[some (.ref p),some (.ref d),some (.ref fo),a3,a4]
inductive spReachedW (vs:List V) (H:Hp) (Q:VK):Prop
 |mk:∀(p:Addr) (rs:List Rw),(vs=[.ref p])->(RowsAt H p rs)->(rs.length<=1000)->(∀l H',Same H H'->H l=none->H' l=some (.lst (rL rs rs.length))->Q (.ref l) H')->spReachedW vs H Q
def GN:Sp:=λvs H Q _=>spReachedW vs H Q
theorem ok_reached(F:Fun Z "reached" "reached" s_reached f fd)(B:NoG mg)(TL:FE Z aL LV)(m_LEAVING:mg "LEAVING"=some (.ref aL))
  (Y0:Cn P w Z mg qB CX0 1 "goals" M8 spGoals):
  FnOk P w Z mg qB CX0 2 f fd M8 GN:=by
 refine F.ok sc_reached (λvs H Q E h=> ?_) (λal A O s H vs Q E hr h=> ?_)
 ·obtain⟨p,rs,rfl,_⟩:=h;rfl
 obtain⟨p,rs,rfl,hR,hn,q⟩:=h;have nd:=sc_reached.nd;have hu:=hr.units0;have zz:(4000:Nat)<=sizeLine:=by decide
 refine⟨_,(A7 (sS 1 nd (aRZ (ZS A6 K2 a1Z) rfl rfl (by simp) (by decide)))
   (A7 (sS 2 nd (C8 A5))
   (A7 (C6 (L4 PassesOwn.never rfl (KL false (Z:=Z) rfl B.enumerate_ (A0 (cC Y0 hr (A0 (pv 0) A5)) A5)) (PD rfl (Q0 (gN 3 nd) (Q0 (gN 4 nd) HM))) (A8 (C6 (C2 (B7 (d8Z hr.units) (pv 3) (pv 1) rfl) (A7 (E4 (aP Z (pv 2) (pv 3)))
   (A7 (C6 (C2 (B7 DD (pv 4) G9 rfl) (A8 (P0 K2 (P1 (pv 1) (pv 4) (Y7 hr.units)))) C0))
   (A8 (C6 (C2 (B7 (VY (Z:=Z)) (ixE Z w (ixE Z w (pv 0) (pv 3)) A6) (D7 (v:=.ref _) rfl m_LEAVING rfl) rfl) (A8 (P0 K2 (P1 (pv 1) (B8 L5 (pv 3) A6) (Y7 hr.units)))) C0))))) C0)))))
   (A8 (B6 (pv 2)))))), ?_⟩
 refine λd hd=>⟨A4,[((.inl 0:Key),V.bl true)],rfl,by decide, ?_⟩;rw[PV];refine⟨(by show 0<=sizeLine;decide),λfo C=> ?_⟩;have sd:=qA hd (.dK (D3 [] [((.inl 0:Key),V.bl true)]));have ab:upd H d (.dK (D3 [] [((.inl 0:Key),V.bl true)])) d=some (.dK (D3 [] [((.inl 0:Key),V.bl true)])):=A4;generalize upd H d (.dK (D3 [] [((.inl 0:Key),V.bl true)]))=H1 at sd ab C⊢;have u:H fo=none:=sd.free C;have s1:=sd.trans (qA C (.lst []));have N:=(qA C (.lst [])) _ _ ab;have L:upd H1 fo (.lst []) fo=some (.lst []):=A4;generalize upd H1 fo (.lst [])=H2 at s1 N L⊢;refine⟨fun σ H'=>∃a3 a4,σ=ZH p d fo a3 a4/\Same H H'/\H' fo=some (.lst (rL rs rs.length)), ?_, ?_⟩
 ·refine⟨_,rfl,p,rs,rfl,hR.same s1,hn,λl H3 s3 hl X=>⟨l,glsV rs,rfl,SqL.of X,UH (xs:=glsV rs) (λi σ H'=>∃a3 a4 g,σ=ZH p d fo a3 a4/\Same H H'/\H' l=some (.lst (glsV rs))/\H' d=some (.dK g)/\H' fo=some (.lst (rL rs i))/\Led rs i g/\g.length<=1+2*i) ?_ ?_ ?_ ?_⟩⟩
  ·exact⟨none,none,_,rfl,s1.trans s3,X,s3 _ _ N,s3 _ _ L,Led.start rs,by decide⟩
  ·rintro i σ H' _ ⟨a3,a4,g,rfl,_,n,_⟩;exact SqL.of n
  ·rintro i x σ H' T hx ⟨a3,a4,g,rfl,sH,n,t,m,hL,G⟩ hT;have ac:l≠fo:=λe=>by subst e;rw[L]at hl;cases hl
   have ad:l≠d:=λe=>by subst e;rw[N]at hl;cases hl
   have S:d≠fo:=MA t m (by intro z;cases z);have hi:i<rs.length:=by rw[<-glsV_len];exact(List.getElem?_eq_some_iff.mp hx).1
   obtain⟨r,y⟩:∃r,rs[i]? =some r:=⟨_,List.getElem?_eq_getElem hi⟩;have ex:x=gl r i:=by rw[glsV_at y]at hx;exact(sJ hx).symm
   subst ex;have st:=qA hT (.tup [.int (i:Nat),gl r i]);refine⟨T,_,rfl,SqT.of A4,rfl,_,_,rfl,_,_,rfl,rfl, ?_⟩;have D:=sH.trans st;replace n:=st _ _ n;replace t:=st _ _ t;replace m:=st _ _ m;generalize upd H' T (.tup [.int (i:Nat),gl r i])=H4 at D n t m⊢;clear st sH;refine⟨fun σ H'=>∃a3 a4 g,σ=ZH p d fo a3 a4/\Same H H'/\H' l=some (.lst (glsV rs))/\H' d=some (.dK g)/\H' fo=some (.lst (rL rs (i+1)))/\Led rs (i+1) g/\g.length<=1+2*(i+1), ?_,λ_ _ h=>h⟩;refine⟨_,rfl,_,rfl,d,_,rfl,DGet.k (k:=.inl (i:Int)) t,_,rfl, ?_⟩;rw[hL.here];cases hb:rb rs i
   ·refine ifF nZ ⟨_,_,g,rfl,D,n,t, ?_,hL.no (λz=>by rw[rb_iff.mpr z]at hb;cases hb),by omega⟩;rw[PZ,hb,if_neg nZ,append_nil];exact m
   ·have ai:R rs i:=rb_iff.mp hb;have ak:=cLZ rs i;refine ifT rfl ⟨_,rfl,.inl ⟨rfl,_,SqL.of m⟩,_,rfl,fo,_,_,rfl,rfl,m,by omega, ?_⟩;have e5:rL rs i++ [V.int (i:Nat)]=rL rs (i+1):=by rw[PZ,hb,if_pos rfl]
    rw[e5];have s5:Same H (upd H4 fo (.lst (rL rs (i+1)))):=λb o h=>by rw[B5 (λe=>by subst e;rw[u]at h;cases h)];exact D _ _ h
    have I:=D5 (o':=.lst (rL rs (i+1))) n ac;have M:=D5 (o':=.lst (rL rs (i+1))) t S;have J:upd H4 fo (.lst (rL rs (i+1))) fo=some (.lst (rL rs (i+1))):=A4;generalize upd H4 fo (.lst (rL rs (i+1)))=H5 at s5 I M J⊢;have wr:∀(H':Hp) (kv:List (Key×V)),Same H H'->H' l=some (.lst (glsV rs))->H' fo=some (.lst (rL rs (i+1)))->Same H (upd H' d (.dK kv))/\upd H' d (.dK kv) l=some (.lst (glsV rs))/\upd H' d (.dK kv) d=some (.dK kv)/\upd H' d (.dK kv) fo=some (.lst (rL rs (i+1))):=λH' kv a b c=>
     ⟨λx o h=>by rw[B5 (λe=>by subst e;rw[hd]at h;cases h)];exact a _ _ h,D5 b ad,A4,D5 c (Ne.symm S)⟩
    refine⟨fun σ H'=>σ=ZH p d fo (some (.int (i:Nat))) (some (gl r i))/\Same H H'/\H' l=some (.lst (glsV rs))/\H' d=some (.dK (pj g (gn r i)))/\H' fo=some (.lst (rL rs (i+1))), ?_, ?_⟩
    ·refine⟨_,rfl,rfl,_,rfl, ?_⟩;cases hg:gn r i with
     |none=>
      have e:gl r i=.non:=gl_non.mpr hg;rw[e];exact ifF (by decide) ⟨rfl,s5,I,M,J⟩
     |some j=>
      have e:gl r i=.int (j:Nat):=by unfold gl;rw[hg]
      rw[e];refine ifT (by simp) ⟨_,rfl,_,rfl,d,_,rfl,DPut.k (k:=.inl (j:Int)) M (by omega), ?_⟩;obtain⟨w1,w2,w3,w4⟩:=wr H5 (N6 g (.inl (j:Int)) (.bl true)) s5 I J;exact⟨rfl,w1,w2,w3,w4⟩
    rintro σ H6 ⟨rfl,s6,W,aa,Y⟩;have aj:(pj g (gn r i)).length<=g.length+1:=ZN _ _;obtain⟨us,h1,h2,h3,h4⟩:=hR.same s6;obtain⟨a,ha,ae⟩:=h4 i r y;have U:Okr r:=h3 r (mem_of_getElem? y);refine⟨fun σ H'=>σ=ZH p d fo (some (.int (i:Nat))) (some (gl r i))/\Same H H'/\H' l=some (.lst (glsV rs))/\H' d=some (.dK (pj (pj g (gn r i)) (if stays r=true then some (i+1)else none)))/\H' fo=some (.lst (rL rs (i+1))), ?_, ?_⟩
    ·refine⟨_,rfl,_,rfl,.inr (.inl ⟨p,us,(i:Nat),_,rfl,rfl,SqT.of h1,C4 ha,(ixT ae (at0 U) (.inr ⟨aL,LV,rfl,.inr (TL H6),rfl,rfl,_,rfl, ?_⟩))⟩)⟩;show if(!inV (.str (wd r)) LV)=true then _ else _
     rw[inL U,Bool.not_not];cases hs:stays r
     ·exact ifF nZ ⟨rfl,s6,W,aa,Y⟩
     ·refine ifT rfl ⟨_,rfl,_,rfl,.inl ⟨_,_,rfl,rfl,d,_,rfl,DPut.k (k:=.inl ((i:Int)+1)) aa (by omega), ?_⟩⟩;obtain⟨w1,w2,w3,w4⟩:=wr H6 (N6 (pj g (gn r i)) (.inl ((i:Int)+1)) (.bl true)) s6 W Y;exact⟨rfl,w1,w2,w3,w4⟩
    rintro σ H7 ⟨rfl,s7,af,ah,ag⟩;exact⟨_,_,_,rfl,s7,af,ah,ag,hL.yes ai y,le_trans (ZN _ _) (by omega)⟩
  ·rintro σ H' ⟨a3,a4,g,rfl,sH,n,t,m,hL,G⟩;rw[glsV_len]at m;exact⟨_,_,rfl,sH,m⟩
 rintro σ H' ⟨a3,a4,rfl,sH,m⟩;exact⟨_,rfl,q fo _ sH u m⟩
end
end _J
namespace _J
open PySem _L _B
def lf(gs:List Nat)(n:Nat):List Nat:=(List.range n).filter λi=> !gs.contains i
def nn(gs:List Nat)(i:Nat):Nat:=(lf gs i).length
theorem DE(gs:List Nat)(n:Nat):lf gs (n+1)=lf gs n++if gs.contains n=true then []else [n]:=by
 unfold lf;rw[range_succ,filter_append];congr 1;by_cases h:gs.contains n=true
 ·rw[if_pos h,filter_cons_of_neg (by rw[h];decide)];rfl
 ·rw[if_neg h,filter_cons_of_pos (by rw[Bool.not_eq_true]at h;rw[h];rfl)];rfl
theorem nn_succ(gs:List Nat)(n:Nat):nn gs (n+1)=nn gs n+if gs.contains n=true then 0 else 1:=by
 unfold nn;rw[DE,length_append];split<;>rfl
theorem JY{i j:Nat}(h:i<=j):nn gs i<=nn gs j:=by
 induction j with
 |zero=>rw[Nat.le_zero.mp h];exact le_refl _
 |succ j ih=>
  by_cases e:i=j+1
  ·rw[e];exact le_refl _
  ·have:=ih (by omega);rw[nn_succ];omega
theorem Z0{gs:List Nat}{i j:Nat}(h:i<j)(hl:gs.contains i=false):nn gs i<nn gs j:=by
 have h1:nn gs (i+1)<=nn gs j:=JY h;rw[nn_succ,hl,if_neg nZ]at h1;omega
theorem nn_bound(gs:List Nat)(i:Nat):nn gs i<=i:=by
 unfold nn lf;exact le_trans (length_filter_le _ _) (by rw[length_range];exact le_refl _)
theorem DR{gs:List Nat}{n i:Nat}(hi:i<n)(hl:gs.contains i=false):(lf gs n)[nn gs i]? =some i:=by
 induction n with
 |zero=>omega
 |succ n ih=>
  rw[DE];by_cases e:i=n
  ·subst e;rw[hl,if_neg nZ];show(lf gs i++ [i])[(lf gs i).length]? =some i;rw[getElem?_append_right (le_refl _),sub_self];rfl
  ·have h:=ih (by omega);rw[getElem?_append_left (List.getElem?_eq_some_iff.mp h).1];exact h
theorem lf_mem{i:Nat}:i∈lf gs n↔i<n/\gs.contains i=false:=by
 unfold lf;rw[mem_filter,mem_range];simp
theorem dgZ{t i:Nat}(h:(lf gs n)[t]? =some i):t=nn gs i:=by
 obtain⟨h1,h2⟩:=lf_mem.mp (mem_of_getElem? h);have h3:=DR h1 h2;have hn:(lf gs n).Nodup:=List.Pairwise.filter _ List.nodup_range;have ht:=(List.getElem?_eq_some_iff.mp h).1;have hi:=(List.getElem?_eq_some_iff.mp h3).1;exact(List.getElem?_inj ht hn).mp (h.trans h3.symm)
def rowAt(rs:List Rw)(i:Nat):Rw:=(rs[i]?).getD (.oth [])
theorem rowAt_of{rs:List Rw}{i:Nat}{r:Rw}(h:rs[i]? =some r):rowAt rs i=r:=by unfold rowAt;rw[h];rfl
noncomputable def wg(gs:List Nat):Rw->Nat->Rw
 | .skip k,i=> .skip (nn gs (i+1+k) - nn gs i - 1)
 | .unl k,i=> .unl (nn gs (i+1+k) - nn gs i - 1)
 | .oth xs,_=> .oth xs
def wo(gs:List Nat)(rs:List Rw):List Rw:=(lf gs rs.length).map λi=>wg gs (rowAt rs i) i
theorem EU(gs:List Nat)(rs:List Rw):(wo gs rs).length=nn gs rs.length:=by unfold wo nn;rw[length_map]
theorem ejZ(h:Okr r):Okr (wg gs r i):=by
 cases r with
 |oth xs=>exact h
 |_=>trivial
theorem eLZ{rs:List Rw}(h:∀r∈rs,Okr r):∀r∈wo gs rs,Okr r:=by
 intro r hr;unfold wo at hr;obtain⟨i,hi,rfl⟩:=mem_map.mp hr;obtain⟨h1,_⟩:=lf_mem.mp hi;have e:rs[i]? =some rs[i]:=List.getElem?_eq_getElem h1;rw[rowAt_of e];exact ejZ (h _ (getElem_mem h1))
theorem VL{rs:List Rw}{t i:Nat}(h:(lf gs rs.length)[t]? =some i):(wo gs rs)[t]? =some (wg gs (rowAt rs i) i):=by
 unfold wo;rw[getElem?_map,h];rfl
def gd(gs:List Nat):List (Key×V):=gs.map λ(i:Nat)=>((Sum.inl (i:Int):Key),V.bl true)
theorem eIZ(gs:List Nat)(j:Nat):∀kvs:List (Key×V),(F9 (D3 kvs (gd gs)) (.inl (j:Int))).isSome=true↔(j∈gs\/(F9 kvs (.inl (j:Int))).isSome=true):=by
 induction gs with
 |nil=>intro kvs;show(F9 kvs (.inl (j:Int))).isSome=true↔_;simp
 |cons g r ih=>
  intro kvs;show(F9 (D3 (N6 kvs (Sum.inl (g:Int):Key) (V.bl true)) (gd r)) (.inl (j:Int))).isSome=true↔_;rw[ih];have:=QJ kvs (some g) j;rw[show(F9 (N6 kvs (Sum.inl (g:Int):Key) (V.bl true)) (.inl (j:Int))).isSome=true↔(some g=some j\/(F9 kvs (.inl (j:Int))).isSome=true)from this];simp only[mem_cons,Option.some.injEq];constructor
  ·rintro(h|h|h)
   ·exact .inl (.inr h)
   ·exact .inl (.inl h.symm)
   ·exact .inr h
  ·rintro((h|h)|h)
   ·exact .inr (.inl h.symm)
   ·exact .inl h
   ·exact .inr (.inr h)
theorem gd_here(gs:List Nat)(j:Nat):(F9 (D3 [] (gd gs)) (.inl (j:Int))).isSome=gs.contains j:=by
 rw[Bool.eq_iff_iff,eIZ];constructor
 ·rintro(h|h)
  ·exact contains_iff_mem.mpr h
  ·cases h
 ·intro h;exact .inl (contains_iff_mem.mp h)
theorem prV_snoc{H:Hp}{p:Addr}{v:V}(hp:H p=some (.tup [kV k,v])):∀ {xs:List V} {ps:List (Key×V)},PrV H xs ps->PrV H (xs++ [.ref p]) (ps++ [(k,v)])
 | [],ps,h=>by rw[show ps=[]from h];exact⟨p,k,v,[],rfl,hp,rfl,rfl⟩
 |x::xs,ps,⟨q,k',v',r,h1,h2,h3,h4⟩=>⟨q,k',v',r++ [(k,v)],h1,h2,by rw[h3];rfl,prV_snoc hp h4⟩
theorem prV_same(s:Same H H'):∀ {xs:List V} {ps:List (Key×V)},PrV H xs ps->PrV H' xs ps
 | [],_,h=>h
 |_::_,_,⟨q,k',v',r,h1,h2,h3,h4⟩=>⟨q,k',v',r,h1,s _ _ h2,h3,prV_same s h4⟩
end _J
namespace _J
open PySem _L _B
open _C (F5 C3 E1)
seal PE PT PW PA PS PSs PTs PI PG PGs PO
abbrev s_without:Stmt:=top 6
abbrev s_new_goal:Stmt:=top 7
abbrev s_with_goal:Stmt:=top 8
noncomputable abbrev AY:List Str:=["rows","gone","dropped","left","new_numbers","number","old_goals"]
theorem sc_without:FnScope AY aEZ (A9 s_without):=fS
abbrev OL:List Str:=["goal","new_numbers"]
theorem LI:FnScope OL cdZ (A9 s_new_goal):=fS
abbrev LQ:List Str:=["row","number","goal"]
theorem HN:FnScope LQ dlZ (A9 s_with_goal):=fS
section
inductive spNewGoalW(Z:FZ)(vs:List V)(H:Hp)(Q:VK):Prop
 |mk:∀(g:V) (l:Addr) (xs:List V),(vs=[g,.ref l])->(SqL Z H l xs)->(((g=.non/\Q .non H)\/∃(j:Nat) (v:V),g=.int (j:Nat)/\xs[j]? =some v/\Q v H))->spNewGoalW Z vs H Q
def FX(Z:FZ):Sp:=λvs H Q _=>spNewGoalW Z vs H Q
theorem ok_new_goal(F:Fun Z "new_goal" "new_goal" s_new_goal f fd):FnOk P w Z mg qB CX0 1 f fd cdZ (FX Z):=by
 refine F.ok LI (λvs H Q E h=> ?_) (λb A a s H vs Q E hr h=> ?_)
 ·obtain⟨g,l,xs,rfl,_⟩:=h;rfl
 obtain⟨g,l,xs,rfl,hS,q⟩:=h;refine⟨_,(A8 (B6 (J6 (B7 EJ (pv 0) G9 rfl) G9 (ixE Z w (pv 1) (pv 0))))), ?_⟩;refine⟨_,rfl,rfl,_,rfl, ?_⟩;rcases q with⟨rfl,q⟩|⟨j,v,rfl,hv,q⟩
 ·exact ifT (by decide) q
 ·exact ifF (by simp) ⟨_,rfl,_,rfl,.inl ⟨l,xs,_,v,rfl,rfl,hS,C4 hv,q⟩⟩
inductive spWithGoalW (vs:List V) (H:Hp) (Q:VK):Prop
 |mk:∀(a:Addr) (m:Int) (g:V) (r:Rw),(vs=[.ref a,.int m,g])->(H a=some (.tup (rv r)))->(Okr r)->(((g=.non/\Q (.ref a) H)\/∃j:Int,g=.int j/\∀b,H b=none->Q (.ref b) (upd H b (.tup [.str (wd r),.int (j - m - 1)]))))->spWithGoalW vs H Q
def DX:Sp:=λvs H Q _=>spWithGoalW vs H Q
theorem ok_with_goal(F:Fun Z "with_goal" "with_goal" s_with_goal f fd):FnOk P w Z mg qB CX0 1 f fd dlZ DX:=by
 refine F.ok HN (λvs H Q E h=> ?_) (λe A c s H vs Q E hr h=> ?_)
 ·obtain⟨a,m,g,r,rfl,_⟩:=h;rfl
 obtain⟨a,m,g,r,rfl,ha,d,q⟩:=h;refine⟨_,(A8 (B6 (J6 (B7 EJ (pv 2) G9 rfl) (pv 0) (B4 (A0 (ixE Z w (pv 0) A6) (A0 (B8 G1 (B8 G1 (pv 2) (pv 1)) A6) A5)))))), ?_⟩;refine⟨_,rfl,rfl,_,rfl, ?_⟩;rcases q with⟨rfl,q⟩|⟨j,rfl,q⟩
 ·exact ifT (by decide) ⟨_,rfl,q⟩
 ·exact ifF (by simp) ⟨_,rfl,(ixT ha (at0 d) ⟨_,rfl,_,rfl,_,_,rfl,rfl,_,_,rfl,rfl,C3,λb hb=>q b hb⟩)⟩
def stW(p g d le ne:Addr)(a5 a6:Option V):St:=[some (.ref p),some (.ref g),some (.ref d),some (.ref le),some (.ref ne),a5,a6]
def iv(xs:List Nat):List V:=xs.map λi=>V.int (i:Nat)
theorem iv_len(xs:List Nat):(iv xs).length=xs.length:=length_map ..
theorem iv_at{xs:List Nat}{t i:Nat}(h:xs[t]? =some i):(iv xs)[t]? =some (.int (i:Nat)):=by unfold iv;rw[getElem?_map,h];rfl
inductive spWithoutW (Z:FZ) (vs:List V) (H:Hp) (Q:VK):Prop
 |mk:∀(p g:Addr) (rs:List Rw) (gs:List Nat),(vs=[.ref p,.ref g])->(RowsAt H p rs)->(rs.length<=1000)->(SqL Z H g (iv gs))->(gs.length<=1000)->((∀(i j:Nat) (r:Rw),rs[i]? =some r->gn r i=some j->j<rs.length))->(∀p' H',Same H H'->H p'=none->RowsAt H' p' (wo gs rs)->Q (.ref p') H')->spWithoutW Z vs H Q
def spWithout(Z:FZ):Sp:=λvs H Q _=>spWithoutW Z vs H Q
theorem ok_without(F:Fun Z "without" "without" s_without f fd)(B:NoG mg)
  (Y0:Cn P w Z mg qB CX0 1 "goals" M8 spGoals)
  (NI:Cn P w Z mg qB CX0 1 "new_goal" cdZ (FX Z))
  (JH:Cn P w Z mg qB CX0 1 "with_goal" dlZ DX):
  FnOk P w Z mg qB CX0 2 f fd aEZ (spWithout Z):=by
 refine F.ok sc_without (λvs H Q E h=> ?_) (λaw A ae s H vs Q E hr h=> ?_)
 ·obtain⟨p,g,rs,gs,rfl,_⟩:=h;rfl
 obtain⟨p,g,rs,gs,rfl,hR,hn,hG,au,hB,q⟩:=h;have nd:=sc_without.nd;have hu:=hr.units0;have zz:(4000:Nat)<=sizeLine:=by decide
 refine⟨_,(A7 (sS 2 nd (E6 (HV (Z:=Z) rfl) rfl B.dict_ HY (A0 (L6 (cS (N:=AY) (sc:=A9 s_without) (caps:=[]) (ns:=[])) rfl rfl rfl (G8 (Z:=Z) (pv 1)) (λ_ _ _ _ _=>J8) (λ_ _ _ _ _=>(B4 (A0 (pv 0) (A0 K2 A5))))) A5)))
   (A7 (sS 3 nd (C8 A5))
   (A7 (W9 (i:=4) nd rfl (Or.inr rfl) (C8 A5))
   (A7 (C6 (L4 PassesOwn.never rfl (F4 rfl B.range_ (A0 (kL Z B.len_ (pv 0)) A5)) (gN 5 nd) (A7 (E4 (aP Z (pv 4) (kL Z B.len_ (pv 3))))
   (A8 (C6 (C2 (B7 (IB hr.units) (pv 5) (pv 2) rfl) (A8 (E4 (aP Z (pv 3) (pv 5)))) C0))))))
   (A7 (W9 (i:=6) nd rfl (Or.inr rfl) (cC Y0 hr (A0 (pv 0) A5)))
   (A8 (B6 (E6 (DC (Z:=Z)) rfl B.tuple_ Q1 (A0 (L6 (cS (N:=AY) (sc:=A9 s_without) (caps:=[0,4,6]) (ns:=["rows","new_numbers","old_goals"])) rfl rfl rfl (G8 (Z:=Z) (pv 3)) (λ_ _ _ _ _=>J8) (λ_ _ _ _ _=>(cC JH hr (A0 (ixE Z w (pv 1) (pv 0)) (A0 (ixE Z w (pv 2) (pv 0)) (A0 (cC NI hr (A0 (ixE Z w (pv 3) (pv 0)) (A0 (pv 2) A5))) A5)))))) A5))))))))), ?_⟩
 refine⟨_,rfl,g,rfl,⟨_,hG⟩,K4 (xs:=iv gs) (λi zs H'=>Same H H'/\PrV H' zs (gd (gs.take i))/\zs.length=i) ⟨Same.refl _,rfl,rfl⟩ ?_ ?_ ?_⟩
 ·rintro i zs H' hi ⟨s1,_,rfl⟩;rw[iv_len]at hi;exact⟨s1.seq hG,by omega⟩
 ·rintro i x zs H' hx ⟨s1,hP,rfl⟩;have hi:zs.length<gs.length:=by rw[<-iv_len];exact(List.getElem?_eq_some_iff.mp hx).1
  have ex:x=.int (gs[zs.length]:Nat):=by
   rw[iv_at (List.getElem?_eq_getElem hi)]at hx;exact(sJ hx).symm
  subst ex;refine O4 ⟨_,rfl,C3,λt ht=> ?_⟩;have st:=qA ht (.tup [.int (gs[zs.length]:Nat),.bl true]);refine⟨s1.trans st, ?_,by rw[length_append];rfl⟩;have e:gd (gs.take (zs.length+1))=gd (gs.take zs.length)++ [((Sum.inl (gs[zs.length]:Int):Key),V.bl true)]:=by
   unfold gd;rw[take_succ,map_append,List.getElem?_eq_getElem hi];rfl
  rw[e];exact prV_snoc (k:=.inl (gs[zs.length]:Int)) A4 (prV_same st hP)
 rintro zs H1 ⟨s1,hP,R⟩ D hD;rw[iv_len,take_length]at hP;have sD:=qA hD (.lst zs);refine⟨D,zs,gd gs,rfl,SqL.of A4,prV_same sD hP,λd hd=> ?_⟩;have s2:=s1.trans (sD.trans (qA hd (.dK (D3 [] (gd gs)))));have T:upd (upd H1 D (.lst zs)) d (.dK (D3 [] (gd gs))) d=some (.dK (D3 [] (gd gs))):=A4;have av:H d=none:=s1.free (sD.free hd);generalize upd (upd H1 D (.lst zs)) d (.dK (D3 [] (gd gs)))=H2 at s2 T⊢;clear hP R sD hd hD s1;refine⟨(by show 0<=sizeLine;decide),λle C=>⟨(by show 0<=sizeLine;decide),λne z=> ?_⟩⟩;have s3:=s2.trans ((qA C (.lst [])).trans (qA z (.lst [])));have ai:=(qA z (.lst [])) _ _ ((qA C (.lst [])) _ _ T);have O:upd (upd H2 le (.lst [])) ne (.lst []) le=some (.lst []):=(qA z (.lst [])) _ _ A4;have J:upd (upd H2 le (.lst [])) ne (.lst []) ne=some (.lst []):=A4;have af:ne≠le:=λe=>by subst e;rw[A4]at z;cases z
 have am:le≠d:=λe=>by subst e;rw[T]at C;cases C
 have al:ne≠d:=λe=>by subst e;rw[(qA C (.lst [])) _ _ T]at z;cases z
 have ab:H le=none:=s2.free C;have aa:H ne=none:=s2.free ((qA C (.lst [])).free z);generalize upd (upd H2 le (.lst [])) ne (.lst [])=H3 at s3 ai O J⊢;have wl:∀(Hx:Hp) (o:HO),Same H Hx->Same H (upd Hx le o):=λHx o a x u h=>by rw[B5 (λe=>by subst e;rw[ab]at h;cases h)];exact a _ _ h
 have wn:∀(Hx:Hp) (o:HO),Same H Hx->Same H (upd Hx ne o):=λHx o a x u h=>by rw[B5 (λe=>by subst e;rw[aa]at h;cases h)];exact a _ _ h
 obtain⟨us,h1,h2,h3,h4⟩:=id hR;refine⟨fun σ H'=>∃a5,σ=stW p g d le ne a5 none/\Same H H'/\H' le=some (.lst (iv (lf gs rs.length)))/\H' ne=some (.lst (iv ((List.range rs.length).map (nn gs)))), ?_, ?_⟩
 ·refine⟨_,rfl,_,_,rfl,.inr ⟨_,SqT.of (s3 _ _ h1),rfl⟩,_,rfl,by omega,by omega,N8 (n:=us.length) (λi σ H'=>∃a5,σ=stW p g d le ne a5 none/\Same H H'/\H' d=some (.dK (D3 [] (gd gs)))/\H' le=some (.lst (iv (lf gs i)))/\H' ne=some (.lst (iv ((List.range i).map (nn gs))))) ?_ ?_ ?_⟩
  ·exact⟨none,rfl,s3,ai,O,J⟩
  ·rintro i σ H' hi ⟨a5,rfl,s',aj,y,v⟩;have ap:=nn_bound gs i;refine⟨_,rfl,.inl ⟨rfl,_,SqL.of v⟩,_,rfl,_,_,rfl,.inl ⟨_,SqL.of y,rfl⟩,ne,_,_,rfl,rfl,v, ?_, ?_⟩
   ·rw[iv_len,length_map,length_range];omega
   have e1:iv ((List.range i).map (nn gs))++ [V.int ((iv (lf gs i)).length:Nat)]=iv ((List.range (i+1)).map (nn gs)):=by
    rw[iv_len,range_succ,map_append];unfold iv;rw[map_append];rfl
   rw[e1];have s4:=wn H' (.lst (iv ((List.range (i+1)).map (nn gs)))) s';have S:=D5 (o':=.lst (iv ((List.range (i+1)).map (nn gs)))) aj (Ne.symm al);have l:=D5 (o':=.lst (iv ((List.range (i+1)).map (nn gs)))) y (Ne.symm af);have m:upd H' ne (.lst (iv ((List.range (i+1)).map (nn gs)))) ne=some (.lst (iv ((List.range (i+1)).map (nn gs)))):=A4;generalize upd H' ne (.lst (iv ((List.range (i+1)).map (nn gs))))=H4 at s4 S l m⊢;refine⟨fun σ H'=>∃a5,σ=stW p g d le ne a5 none/\Same H H'/\H' d=some (.dK (D3 [] (gd gs)))/\H' le=some (.lst (iv (lf gs (i+1))))/\H' ne=some (.lst (iv ((List.range (i+1)).map (nn gs)))), ?_,λ_ _ h=>h⟩;have ei:(0:Int)+(i:Int)=(i:Int):=Int.zero_add _;rw[ei];refine⟨_,rfl,_,rfl,d,_,rfl,DGet.k (k:=.inl (i:Int)) S,_,rfl, ?_⟩;rw[gd_here];cases hc:gs.contains i
   ·refine ifT rfl ⟨_,rfl,.inl ⟨rfl,_,SqL.of l⟩,_,rfl,le,_,_,rfl,rfl,l, ?_,_,rfl,wl _ _ s4,D5 S (Ne.symm am), ?_,D5 m af⟩
    ·rw[iv_len];show nn gs i<sizeLine;omega
    ·rw[A4,DE,hc,if_neg nZ];unfold iv;rw[map_append];rfl
   ·refine ifF (by decide) ⟨_,rfl,s4,S, ?_,m⟩;rw[DE,hc,if_pos rfl,append_nil];exact l
  ·rintro σ H' ⟨a5,rfl,s',aj,y,v⟩;rw[h2]at y v;exact⟨a5,rfl,s',y,v⟩
 rintro σ H4 ⟨a5,rfl,s4,l,m⟩;refine⟨_,rfl,p,rs,rfl,hR.same s4,hn,λog H5 s5 ao Y=> ?_⟩;have M:=s5 _ _ l;have I:=s5 _ _ m;have U:=s4.trans s5;refine⟨_,rfl,le,rfl,⟨_,SqL.of M⟩,K4 (xs:=iv (lf gs rs.length)) (λk zs H'=>Same H5 H'/\zs.length=k/\∀t i,t<k->(lf gs rs.length)[t]? =some i->∃a:Addr,zs[t]? =some (V.ref a)/\H' a=some (.tup (rv (wg gs (rowAt rs i) i)))) ⟨Same.refl _,rfl,λt i ht=>absurd ht (not_lt_zero _)⟩ ?_ ?_ ?_⟩
 ·rintro k zs H' hk ⟨s6,rfl,_⟩;have:=nn_bound gs rs.length;rw[iv_len]at hk;have ar:zs.length<=nn gs rs.length:=hk;exact⟨SqL.of (s6 _ _ M),by omega⟩
 ·rintro k x zs H' hx ⟨s6,rfl,hz⟩;have hk:zs.length<(lf gs rs.length).length:=by rw[<-iv_len];exact(List.getElem?_eq_some_iff.mp hx).1
  obtain⟨i,hi⟩:∃i,(lf gs rs.length)[zs.length]? =some i:=⟨_,List.getElem?_eq_getElem hk⟩;have ex:x=.int (i:Nat):=by rw[iv_at hi]at hx;exact(sJ hx).symm
  subst ex;obtain⟨ah,an⟩:=lf_mem.mp (mem_of_getElem? hi);obtain⟨r,G⟩:∃r,rs[i]? =some r:=⟨_,List.getElem?_eq_getElem ah⟩;obtain⟨a,ha,X⟩:=h4 i r G;have ag:Okr r:=h3 r (mem_of_getElem? G);have s7:=U.trans s6;have ak:∀H8 b,Same H' H8->H8 b=some (.tup (rv (wg gs r i)))->Same H5 H8/\(zs++ [V.ref b]).length=zs.length+1/\∀t i,t<zs.length+1->(lf gs rs.length)[t]? =some i->∃a:Addr,(zs++ [V.ref b])[t]? =some (V.ref a)/\H8 a=some (.tup (rv (wg gs (rowAt rs i) i))):=λH8 b s8 hb=>by
   refine⟨s6.trans s8,by rw[length_append];rfl,λt i' ht ac=> ?_⟩;by_cases c:t<zs.length
   ·obtain⟨a',e1,e2⟩:=hz t i' c ac;exact⟨a',by rw[getElem?_append_left c];exact e1,s8 _ _ e2⟩
   ·have e:t=zs.length:=by omega
    subst e;rw[hi]at ac;cases ac;rw[rowAt_of G];exact⟨b,by rw[getElem?_append_right (le_refl _),sub_self];rfl,hb⟩
  have ad:(glsV rs)[i]? =some (gl r i):=glsV_at G;refine O4 ⟨_,rfl,_,rfl,.inr (.inl ⟨p,us,(i:Nat),_,rfl,rfl,SqT.of (s7 _ _ h1),C4 ha, ?_⟩)⟩;have L:∀j,j<rs.length->(iv ((List.range rs.length).map (nn gs)))[j]? =some (.int (nn gs j:Nat)):=λj hj=>iv_at (by rw[getElem?_map,getElem?_range hj];rfl);refine⟨_,rfl,_,rfl,(ixL (s6 _ _ I) (C4 (L i ah)) ?_)⟩;refine⟨_,rfl,_,rfl,(ixL (s6 _ _ Y) (C4 ad) ?_)⟩;refine⟨_,rfl,gl r i,ne,_,rfl,SqL.of (s6 _ _ I), ?_⟩;cases hg:gn r i with
  |none=>
   refine .inl ⟨gl_non.mpr hg,a,_,_,r,rfl,s7 _ _ X,ag,.inl ⟨rfl,ak H' a (Same.refl _) ?_⟩⟩;have:wg gs r i=r:=by
    cases r with
    |oth xs=>rfl
    |_=>cases hg
   rw[this];exact s7 _ _ X
  |some j=>
   have e:gl r i=.int (j:Nat):=by unfold gl;rw[hg]
   have hj:=hB i j r G hg;refine .inr ⟨j,_,e,L j hj,a,_,_,r,rfl,s7 _ _ X,ag,.inr ⟨_,rfl,λb hb=>ak _ b (qA hb _) ?_⟩⟩;rw[A4];have aq:=Z0 (gs:=gs) (VP hg) an;have en:((nn gs j:Nat):Int) - ((nn gs i:Nat):Int) - 1=((nn gs j - nn gs i - 1:Nat):Int):=by omega
   rw[en];cases r with
   |skip k=>cases hg;rfl
   |unl k=>cases hg;rfl
   |oth xs=>cases hg
 ·rintro zs H' ⟨s6,R,hz⟩ D hD;rw[iv_len]at R;refine⟨D,zs,rfl,.inl ⟨SqL.of A4,λt ht=> ?_⟩⟩;have s7:=s6.trans ((qA hD (.lst zs)).trans (qA ht (.tup zs)));refine q t _ (U.trans s7) (U.free (s6.free ((qA hD (.lst zs)).free ht))) ⟨zs,A4,by rw[R];exact(EU gs rs).symm,eLZ h3,λt' r' W=> ?_⟩;have hl:t'<(lf gs rs.length).length:=by
   have:=(List.getElem?_eq_some_iff.mp W).1;rw[EU]at this;exact this
  obtain⟨i,hi⟩:∃i,(lf gs rs.length)[t']? =some i:=⟨_,List.getElem?_eq_getElem hl⟩;rw[VL hi]at W;cases W;obtain⟨a,e1,e2⟩:=hz t' i (by rw[iv_len];exact hl) hi;exact⟨a,e1,(qA ht _) _ _ ((qA hD _) _ _ e2)⟩
end
end _J
namespace _J
open PySem _L _B
def isB:Rw->Bool
 | .oth xs=>("back":Str)==wdO xs
 |_=>false
theorem AU{rs:List Rw}{i:Nat}(h:i<rs.length):rs[i]? =some (rowAt rs i):=by
 rw[rowAt_of (List.getElem?_eq_getElem h),List.getElem?_eq_getElem h]
theorem cHZ{gs:List Nat}{rs:List Rw}{a:Nat}{r:Rw}(h:rs[a]? =some r)(hc:gs.contains a=false):(wo gs rs)[nn gs a]? =some (wg gs r a):=by
 have ha:a<rs.length:=(List.getElem?_eq_some_iff.mp h).1;rw[VL (DR ha hc),rowAt_of h]
theorem N4{gs:List Nat}(h:gs.contains a=false):nn gs (a+1)=nn gs a+1:=by rw[nn_succ,h,if_neg nZ]
theorem HR{gs:List Nat}(h:gs.contains a=true):nn gs (a+1)=nn gs a:=by rw[nn_succ,h,if_pos rfl];rfl
def dwZ(gs:List Nat)(rs:List Rw):Prop:=∀a,R rs a->gs.contains a=true->rs[a]? =some (.skip 0)
theorem JO(gs:List Nat)(r:Rw)(i:Nat):stays (wg gs r i)=stays r:=by cases r<;>rfl
theorem btZ{gs:List Nat}{j:Nat}(hc:gs.contains i=false)(h:gn r i=some j):gn (wg gs r i) (nn gs i)=some (nn gs j):=by
 have a:=Z0 (gs:=gs) (VP h) hc;cases r with
 |skip k=>
  cases h;show some (nn gs i+1+(nn gs (i+1+k) - nn gs i - 1))=_;congr 1;omega
 |unl k=>
  cases h;show some (nn gs i+1+(nn gs (i+1+k) - nn gs i - 1))=_;congr 1;omega
 |oth xs=>cases h
theorem fqZ(hG:dwZ gs rs)(h:R rs a):R (wo gs rs) (nn gs a):=by
 induction h with
 |zero=>exact .zero
 | @src i j hi s ih=>
  obtain⟨r,hr,hj⟩:=id s;cases hc:gs.contains i with
  |true=>
   have:=hG i hi hc;rw[hr]at this;cases this;rcases hj with⟨h,_⟩|h
   ·cases h
   ·have:j=i+1:=(sJ h).symm;rw[this,HR hc];exact ih
  |false=>
   refine .src ih ⟨_,cHZ hr hc, ?_⟩;rcases hj with⟨h,rfl⟩|h
   ·exact .inl ⟨by rw[JO];exact h,N4 hc⟩
   ·exact .inr (btZ hc h)
def AllR(rs:List Rw):Prop:=∀a,a<rs.length->R rs a
theorem QC{t:Nat}{r':Rw}(h:(wo gs rs)[t]? =some r'):∃a r,rs[a]? =some r/\gs.contains a=false/\t=nn gs a/\r'=wg gs r a:=by
 have ht:t<(lf gs rs.length).length:=by
  have:=(List.getElem?_eq_some_iff.mp h).1;rw[EU]at this;exact this
 obtain⟨a,ha⟩:∃a,(lf gs rs.length)[t]? =some a:=⟨_,List.getElem?_eq_getElem ht⟩;obtain⟨h1,h2⟩:=lf_mem.mp (mem_of_getElem? ha);rw[VL ha]at h;exact⟨a,rowAt rs a,AU h1,h2,dgZ ha,(sJ h).symm⟩
theorem aQZ(h:gn r i=none):gn (wg gs r i) t=none:=by
 cases r with
 |oth xs=>rfl
 |_=>cases h
theorem wo_wf{gs:List Nat}{rs:List Rw}(h0:∃z,z<rs.length/\gs.contains z=false)(hW:∀a j,gs.contains a=false->Src rs a j->∃z,j<=z/\z<rs.length/\gs.contains z=false):Wf (wo gs rs):=by
 refine⟨?_, ?_⟩
 ·obtain⟨z,hz,hc⟩:=h0;rw[EU];have:=Z0 hz hc;omega
 ·rintro t j' ⟨r1,h1,hj⟩;obtain⟨a,r,hr,hc,rfl,rfl⟩:=QC h1;rw[EU];rcases hj with⟨hs,rfl⟩|hg
  ·rw[JO]at hs;obtain⟨z,h2,h3,h4⟩:=hW a (a+1) hc ⟨r,hr,.inl ⟨hs,rfl⟩⟩;have e1:=Z0 h3 h4;have e2:nn gs (a+1)<=nn gs z:=JY h2;rw[N4 hc]at e2;omega
  ·cases hg0:gn r a with
   |none=>rw[aQZ hg0]at hg;cases hg
   |some j=>
    rw[btZ hc hg0]at hg;cases hg;obtain⟨z,h2,h3,h4⟩:=hW a j hc ⟨r,hr,.inr hg0⟩;have e1:=Z0 h3 h4;have e2:nn gs j<=nn gs z:=JY h2;omega
theorem wo_all(hG:dwZ gs rs)(h:∀a,a<rs.length->gs.contains a=false->R rs a):AllR (wo gs rs):=by
 intro t ht;obtain⟨a,r,hr,hc,rfl,_⟩:=QC (List.getElem?_eq_getElem ht);exact fqZ hG (h a (List.getElem?_eq_some_iff.mp hr).1 hc)
noncomputable def u1(rs:List Rw):List Nat:=(List.range rs.length).filter λi=> !rb rs i
theorem bDZ{rs:List Rw}{a:Nat}(h:a<rs.length):(u1 rs).contains a= !rb rs a:=by
 rw[Bool.eq_iff_iff,contains_iff_mem];unfold u1;rw[mem_filter,mem_range];simp[h]
theorem u1_left{rs:List Rw}{a:Nat}(h:a<rs.length)(hc:(u1 rs).contains a=false):R rs a:=by
 rw[bDZ h]at hc;exact rb_iff.mp (by simpa using hc)
theorem u1_of(w:Wf rs)(h:R rs a):(u1 rs).contains a=false:=by
 rw[bDZ (h.lt w),rb_iff.mpr h];rfl
theorem u1_gone(w:Wf rs):dwZ (u1 rs) rs:=λa h hc=>by rw[u1_of w h]at hc;cases hc
theorem last_back(w:Wf rs){r:Rw}(h:rs[rs.length - 1]? =some r):isB r=true:=by
 have h0:=w.1;have no:∀j,¬Src rs (rs.length - 1) j:=λj s=>by
  have h1:=s.lt;have h2:=w.2 _ _ s;omega
 cases r with
 |skip k=>exact absurd ⟨_,h,.inr rfl⟩ (no _)
 |unl k=>exact absurd ⟨_,h,.inr rfl⟩ (no _)
 |oth xs=>
  cases hb:isB (.oth xs)with
  |true=>rfl
  |false=>
   refine absurd ⟨_,h,.inl ⟨?_,rfl⟩⟩ (no (rs.length - 1+1));show(!(("back":Str)==wdO xs))=true;rw[show(("back":Str)==wdO xs)=false from hb];rfl
end _J
namespace _J
open PySem _L _B
open _C (F5 C3 E1)
seal PE PT PW PA PS PSs PTs PI PG PGs PO
abbrev s_reached_alone:Stmt:=top 9
abbrev N3:List Str:=["rows","is_reached"]
theorem sc_reached_alone:FnScope N3 M8 (A9 s_reached_alone):=fS
theorem YI(gs:List Nat)(i:Nat):iv gs++ [V.int (i:Nat)]=iv (gs++ [i]):=by unfold iv;rw[map_append];rfl
theorem d9Z{rs:List Rw}{j:Nat}(h:j<rs.length):((List.range rs.length).filter (rb rs)).contains j=rb rs j:=by
 rw[Bool.eq_iff_iff,contains_iff_mem,mem_filter,mem_range];simp[h]
section
inductive spAloneW(vs:List V)(H:Hp)(Q:VK):Prop
 |mk:∀(p:Addr) (rs:List Rw),(vs=[.ref p])->(RowsAt H p rs)->(rs.length<=1000)->(Wf rs)->(∀p' H',Same H H'->H p'=none->RowsAt H' p' (wo (u1 rs) rs)->Q (.ref p') H')->spAloneW vs H Q
def spAlone:Sp:=λvs H Q _=>spAloneW vs H Q
theorem ok_reached_alone(F:Fun Z "reached_alone" "reached_alone" s_reached_alone f fd)(B:NoG mg)
  (RZ:Cn P w Z mg qB CX0 2 "reached" M8 GN)
  (AH:Cn P w Z mg qB CX0 2 "without" aEZ (spWithout Z)):
  FnOk P w Z mg qB CX0 3 f fd M8 spAlone:=by
 refine F.ok sc_reached_alone (λvs H Q E h=> ?_) (λO A m s H vs Q E hr h=> ?_)
 ·obtain⟨p,rs,rfl,_⟩:=h;rfl
 obtain⟨p,rs,rfl,hR,hn,hW,q⟩:=h;have nd:=sc_reached_alone.nd;have zz:(4000:Nat)<=sizeLine:=by decide
 have G:((List.range rs.length).filter (rb rs)).length<=rs.length:=le_trans (length_filter_le _ _) (by rw[length_range];exact le_refl _);refine⟨_,(A7 (W9 (i:=1) nd rfl (Or.inr rfl) (E6 (HV (Z:=Z) rfl) rfl B.dict_ HY (A0 (L6 (cS (N:=N3) (sc:=A9 s_reached_alone) (caps:=[]) (ns:=[])) rfl rfl rfl (G8 (Z:=Z) (cC RZ hr (A0 (pv 0) A5))) (λ_ _ _ _ _=>J8) (λ_ _ _ _ _=>(B4 (A0 (pv 0) (A0 K2 A5))))) A5)))
   (A8 (B6 (cC AH hr (A0 (pv 0) (A0 (L6 (cS (N:=N3) (sc:=A9 s_reached_alone) (caps:=[1]) (ns:=["is_reached"])) rfl rfl rfl (F4 rfl B.range_ (A0 (kL Z B.len_ (pv 0)) A5)) (λ_ _ _ _ _=>(R7 (B7 (IB hr.units) (pv 0) (pv 1) rfl))) (λ_ _ _ _ _=>(pv 0))) A5)))))), ?_⟩
 refine⟨_,rfl,p,rs,rfl,hR,hn,λl H1 s1 hl z=> ?_⟩;have b:H1 l=some (.lst (iv ((List.range rs.length).filter (rb rs)))):=z;have c:∀j,j<rs.length->((List.range rs.length).filter (rb rs)).contains j=rb rs j:=λj hj=>d9Z hj;generalize(List.range rs.length).filter (rb rs)=gs at G b c;refine⟨l,rfl,⟨_,SqL.of b⟩,K4 (xs:=iv gs) (λi zs H'=>Same H1 H'/\PrV H' zs (gd (gs.take i))/\zs.length=i) ⟨Same.refl _,rfl,rfl⟩ ?_ ?_ ?_⟩
 ·rintro i zs H' hi ⟨s2,_,rfl⟩;rw[iv_len]at hi;exact⟨SqL.of (s2 _ _ b),by omega⟩
 ·rintro i x zs H' hx ⟨s2,hP,rfl⟩;have hi:zs.length<gs.length:=by rw[<-iv_len];exact(List.getElem?_eq_some_iff.mp hx).1
  have ex:x=.int (gs[zs.length]:Nat):=by
   rw[iv_at (List.getElem?_eq_getElem hi)]at hx;exact(sJ hx).symm
  subst ex;refine O4 ⟨_,rfl,C3,λt ht=> ?_⟩;have st:=qA ht (.tup [.int (gs[zs.length]:Nat),.bl true]);refine⟨s2.trans st, ?_,by rw[length_append];rfl⟩;have e:gd (gs.take (zs.length+1))=gd (gs.take zs.length)++ [((Sum.inl (gs[zs.length]:Int):Key),V.bl true)]:=by
   unfold gd;rw[take_succ,map_append,List.getElem?_eq_getElem hi];rfl
  rw[e];exact prV_snoc (k:=.inl (gs[zs.length]:Int)) A4 (prV_same st hP)
 rintro zs H2 ⟨s2,hP,M⟩ D hD;rw[iv_len,take_length]at hP;have sD:=qA hD (.lst zs);refine⟨D,zs,gd gs,rfl,SqL.of A4,prV_same sD hP,λd hd=> ?_⟩;have s3:=s1.trans (s2.trans (sD.trans (qA hd (.dK (D3 [] (gd gs))))));have o:upd (upd H2 D (.lst zs)) d (.dK (D3 [] (gd gs))) d=some (.dK (D3 [] (gd gs))):=A4;generalize upd (upd H2 D (.lst zs)) d (.dK (D3 [] (gd gs)))=H3 at s3 o⊢;obtain⟨us,h1,h2,h3,h4⟩:=id hR;refine⟨_,rfl,_,rfl,_,_,rfl,.inr ⟨_,SqT.of (s3 _ _ h1),rfl⟩,_,rfl,by omega,by omega,M1 (n:=us.length) (λi zs H'=>H3=H'/\zs=iv ((List.range i).filter λj=> !rb rs j)) ⟨rfl,rfl⟩ ?_ ?_ ?_⟩
 ·rintro i zs H' hi ⟨_,rfl⟩;rw[iv_len];refine le_trans (length_filter_le _ _) ?_;rw[length_range];omega
 ·rintro i zs H' hi ⟨rfl,rfl⟩;rw[Int.zero_add];refine⟨_,rfl,_,rfl,d,_,rfl,DGet.k (k:=.inl (i:Int)) o,_,rfl, ?_⟩;rw[gd_here,c i (by omega),range_succ,filter_append];cases hb:rb rs i
  ·refine ifT rfl ⟨_,rfl,rfl, ?_⟩;rw[filter_cons_of_pos (p:=λj=> !rb rs j) (a:=i) (by rw[hb];rfl),filter_nil,YI]
  ·refine ifF (by decide) ⟨rfl, ?_⟩;rw[filter_cons_of_neg (p:=λj=> !rb rs j) (a:=i) (by rw[hb];decide),filter_nil,append_nil]
 rintro L H' ⟨rfl,rfl⟩ g hg;rw[h2];have I:upd H3 g (.lst (iv (u1 rs))) g=some (.lst (iv (u1 rs))):=A4;have s4:=s3.trans (qA hg (.lst (iv (u1 rs))));have u:(u1 rs).length<=1000:=by
  unfold u1;refine le_trans (length_filter_le _ _) ?_;rw[length_range];omega
 refine⟨p,g,rs,u1 rs,rfl,hR.same s4,hn,SqL.of I,u,λi j r v C=>hW.2 _ _ ⟨r,v,.inr C⟩,λp' H' s' y J=>q p' H' (s4.trans s') (s4.free y) J⟩
end
end _J
namespace _F
inductive U where
 |n (i:Int)|b (b:Bool)
 deriving DecidableEq
inductive Q where
 |push (u:U)|load (s:Nat)|keep (s:Nat)|two (k:Nat)|not|skip (n:Nat)|unl (n:Nat)|back
 deriving DecidableEq
inductive O where
 |v (u:U)|r (w:Nat)
noncomputable def gn:Q->Nat->Option Nat
 | .skip n,a=>some (a+1+n)
 | .unl n,a=>some (a+1+n)
 |_,_=>none
abbrev Sl:=Nat->Option U
def put(f:Sl)(s:Nat)(u:U):Sl:=λt=>if t=s then some u else f t
section
variable(tw:Nat->Int->Int->U⊕Nat)
inductive Rn(ms:List (Option Q)):Nat->Sl->List U->O->Nat->Prop where
 |gone {a f st o m}:ms[a]? =some none->Rn ms (a+1) f st o m->Rn ms a f st o m
 |push {a u f st o m}:ms[a]? =some (some (.push u))->Rn ms (a+1) f (u::st) o m->Rn ms a f st o (m+1)
 |load {a s u f st o m}:ms[a]? =some (some (.load s))->f s=some u->Rn ms (a+1) f (u::st) o m->Rn ms a f st o (m+1)
 |keep {a s u f st o m}:ms[a]? =some (some (.keep s))->Rn ms (a+1) (put f s u) st o m->Rn ms a f (u::st) o (m+1)
 |two {a k x y u f st o m}:ms[a]? =some (some (.two k))->tw k x y=.inl u->Rn ms (a+1) f (u::st) o m->Rn ms a f (.n y:: .n x::st) o (m+1)
 |twoR {a k x y w f st}:ms[a]? =some (some (.two k))->tw k x y=.inr w->Rn ms a f (.n y:: .n x::st) (.r w) 1
 |not {a b f st o m}:ms[a]? =some (some .not)->Rn ms (a+1) f (.b (!b)::st) o m->Rn ms a f (.b b::st) o (m+1)
 |skip {a n f st o m}:ms[a]? =some (some (.skip n))->Rn ms (a+1+n) f st o m->Rn ms a f st o (m+1)
 |unl {a n b f st o m}:ms[a]? =some (some (.unl n))->Rn ms (if b=true then a+1 else a+1+n) f st o m->Rn ms a f (.b b::st) o (m+1)
 |back {a u f st}:ms[a]? =some (some .back)->Rn ms a f (u::st) (.v u) 1
variable{tw}
def Ld(ms:List (Option Q))(s:Nat):Prop:=∃a:Nat,ms[a]? =some (some (.load s))
def Ag(ms:List (Option Q))(f g:Sl):Prop:=∀s,Ld ms s->f s=g s
theorem Ag.refl(ms:List (Option Q))(f:Sl):Ag ms f f:=λ_ _=>rfl
theorem Ag.put(h:Ag ms f g)(s:Nat)(u:U):Ag ms (put f s u) (put g s u):=λt ht=>by
 unfold _F.put;split
 ·rfl
 ·exact h t ht
theorem sim{ms ms':List (Option Q)}{i k:Nat}(hik:i<=k)(hout:∀a,a<i\/k<a->ms'[a]? =ms[a]?)(hJ:∀a q g,ms[a]? =some (some q)->gn q a=some g->g<=i\/k<g)
  (hi:∀f g st o m,Ag ms' f g->Rn tw ms i f st o m->∃b f1 g1 st1 m1 c,k<b/\Ag ms' f1 g1/\Rn tw ms b f1 st1 o m1/\m1<m/\m1+c<=m/\∀m',Rn tw ms' b g1 st1 o m'->Rn tw ms' i g st o (m'+c)):
  ∀(n:Nat) (a:Nat) (f g:Sl) (st:List U) (o:O) (m:Nat),m+(ms.length - a)<=n->(a<=i\/k<a)->Ag ms' f g->Rn tw ms a f st o m->∃m',m'<=m/\Rn tw ms' a g st o m':=by
 intro n;induction n with
 |zero=>
  intro a f g st o m hn ha hg h;have hm:m=0:=by omega
  subst hm;have hl:a<ms.length:=by
   cases h with
   |gone h _=>exact(List.getElem?_eq_some_iff.mp h).1
  omega
 |succ n ih=>
  intro a f g st o m hn ha hg h;by_cases e:a=i
  ·subst e;obtain⟨b,f1,g1,st1,m1,c,hb,d,h1,h2,h3,h4⟩:=hi f g st o m hg h;obtain⟨m',h5,h6⟩:=ih b f1 g1 st1 o m1 (by omega) (.inr hb) d h1;exact⟨m'+c,by omega,h4 m' h6⟩
  ·have ho:ms'[a]? =ms[a]? :=hout a (by omega);have nx:a+1<=i\/k<a+1:=by omega
   cases h with
   |gone h1 h2=>
    have hl:=(List.getElem?_eq_some_iff.mp h1).1;obtain⟨m',h5,h6⟩:=ih (a+1) f g st o m (by omega) nx hg h2;exact⟨m',h5,.gone (ho.trans h1) h6⟩
   |push h1 h2=>
    obtain⟨m',h5,h6⟩:=ih (a+1) f g _ o _ (by omega) nx hg h2;exact⟨m'+1,by omega,.push (ho.trans h1) h6⟩
   |load h1 h0 h2=>
    obtain⟨m',h5,h6⟩:=ih (a+1) f g _ o _ (by omega) nx hg h2;exact⟨m'+1,by omega,.load (ho.trans h1) ((hg _ ⟨a,ho.trans h1⟩).symm.trans h0) h6⟩
   |keep h1 h2=>
    obtain⟨m',h5,h6⟩:=ih (a+1) _ _ _ o _ (by omega) nx (hg.put _ _) h2;exact⟨m'+1,by omega,.keep (ho.trans h1) h6⟩
   |two h1 h0 h2=>
    obtain⟨m',h5,h6⟩:=ih (a+1) f g _ o _ (by omega) nx hg h2;exact⟨m'+1,by omega,.two (ho.trans h1) h0 h6⟩
   |twoR h1 h0=>exact⟨1,le_refl _,.twoR (ho.trans h1) h0⟩
   |not h1 h2=>
    obtain⟨m',h5,h6⟩:=ih (a+1) f g _ o _ (by omega) nx hg h2;exact⟨m'+1,by omega,.not (ho.trans h1) h6⟩
   |skip h1 h2=>
    have hj:=hJ a _ _ h1 rfl;obtain⟨m',h5,h6⟩:=ih _ f g _ o _ (by omega) hj hg h2;exact⟨m'+1,by omega,.skip (ho.trans h1) h6⟩
   | @unl _ nn b _ _ _ _ h1 h2=>
    have hj:=hJ a _ _ h1 rfl;have:(if b=true then a+1 else a+1+nn)<=i\/k<(if b=true then a+1 else a+1+nn):=by
     split
     ·exact nx
     ·exact hj
    obtain⟨m',h5,h6⟩:=ih _ f g _ o _ (by split<;>omega) this hg h2;exact⟨m'+1,by omega,.unl (ho.trans h1) h6⟩
   |back h1=>exact⟨1,le_refl _,.back (ho.trans h1)⟩
theorem XI{ms:List (Option Q)}{a:Nat}{st:List U}(e:ms[a]? =some none)(h:Rn tw ms a f st o m):Rn tw ms (a+1) f st o m:=by
 cases h with
 |gone _ z=>exact z
 |push h1 _=>rw[e]at h1;cases h1
 |load h1 _ _=>rw[e]at h1;cases h1
 |keep h1 _=>rw[e]at h1;cases h1
 |two h1 _ _=>rw[e]at h1;cases h1
 |twoR h1 _=>rw[e]at h1;cases h1
 |not h1 _=>rw[e]at h1;cases h1
 |skip h1 _=>rw[e]at h1;cases h1
 |unl h1 _=>rw[e]at h1;cases h1
 |back h1=>rw[e]at h1;cases h1
theorem efZ{ms:List (Option Q)}{st:List U}:∀(d a:Nat),(∀t,a<=t->t<a+d->ms[t]? =some none)->(Rn tw ms (a+d) f st o m↔Rn tw ms a f st o m)
 |0,a,_=>Iff.rfl
 |d+1,a,h=>by
  have h0:=h a (le_refl _) (by omega);have ih:=efZ (f:=f) (st:=st) (o:=o) (m:=m) d (a+1) λt h1 h2=>h t (by omega) (by omega);rw[show a+1+d=a+(d+1) by omega]at ih;rw[ih];constructor
  ·exact λz=> .gone h0 z
  ·intro z;exact XI h0 z
theorem EM{ms:List (Option Q)}{st:List U}{a b:Nat}(hab:a<=b)(h:∀t,a<=t->t<b->ms[t]? =some none):(Rn tw ms b f st o m↔Rn tw ms a f st o m):=by
 have:=efZ (tw:=tw) (ms:=ms) (f:=f) (st:=st) (o:=o) (m:=m) (b - a) a λt h1 h2=>h t h1 (by omega)
 rwa [Nat.add_sub_of_le hab]at this
section
variable{ms:List (Option Q)}{a:Nat}{f:Sl}{st:List U}{o:O}{m:Nat}
theorem T7(e:ms[a]? =some (some (.push u)))(h:Rn tw ms a f st o m):∃m',m=m'+1/\Rn tw ms (a+1) f (u::st) o m':=by
 cases h with
 |push h1 h2=>rw[e]at h1;cases h1;exact⟨_,rfl,h2⟩
 |gone h1 _=>rw[e]at h1;cases h1
 |load h1 _ _=>rw[e]at h1;cases h1
 |keep h1 _=>rw[e]at h1;cases h1
 |two h1 _ _=>rw[e]at h1;cases h1
 |twoR h1 _=>rw[e]at h1;cases h1
 |not h1 _=>rw[e]at h1;cases h1
 |skip h1 _=>rw[e]at h1;cases h1
 |unl h1 _=>rw[e]at h1;cases h1
 |back h1=>rw[e]at h1;cases h1
theorem ZW(e:ms[a]? =some (some (.load s)))(h:Rn tw ms a f st o m):∃m' u,m=m'+1/\f s=some u/\Rn tw ms (a+1) f (u::st) o m':=by
 cases h with
 |load h1 h0 h2=>rw[e]at h1;cases h1;exact⟨_,_,rfl,h0,h2⟩
 |gone h1 _=>rw[e]at h1;cases h1
 |push h1 _=>rw[e]at h1;cases h1
 |keep h1 _=>rw[e]at h1;cases h1
 |two h1 _ _=>rw[e]at h1;cases h1
 |twoR h1 _=>rw[e]at h1;cases h1
 |not h1 _=>rw[e]at h1;cases h1
 |skip h1 _=>rw[e]at h1;cases h1
 |unl h1 _=>rw[e]at h1;cases h1
 |back h1=>rw[e]at h1;cases h1
theorem WT(e:ms[a]? =some (some (.keep s)))(h:Rn tw ms a f st o m):∃m' u st',m=m'+1/\st=u::st'/\Rn tw ms (a+1) (put f s u) st' o m':=by
 cases h with
 |keep h1 h2=>rw[e]at h1;cases h1;exact⟨_,_,_,rfl,rfl,h2⟩
 |gone h1 _=>rw[e]at h1;cases h1
 |push h1 _=>rw[e]at h1;cases h1
 |load h1 _ _=>rw[e]at h1;cases h1
 |two h1 _ _=>rw[e]at h1;cases h1
 |twoR h1 _=>rw[e]at h1;cases h1
 |not h1 _=>rw[e]at h1;cases h1
 |skip h1 _=>rw[e]at h1;cases h1
 |unl h1 _=>rw[e]at h1;cases h1
 |back h1=>rw[e]at h1;cases h1
theorem aCZ(e:ms[a]? =some (some (.two k)))(hu:tw k x y=.inl u)(h:Rn tw ms a f (.n y:: .n x::st) o m):∃m',m=m'+1/\Rn tw ms (a+1) f (u::st) o m':=by
 cases h with
 |two h1 h0 h2=>rw[e]at h1;cases h1;rw[hu]at h0;cases h0;exact⟨_,rfl,h2⟩
 |twoR h1 h0=>rw[e]at h1;cases h1;rw[hu]at h0;cases h0
 |gone h1 _=>rw[e]at h1;cases h1
 |push h1 _=>rw[e]at h1;cases h1
 |load h1 _ _=>rw[e]at h1;cases h1
 |keep h1 _=>rw[e]at h1;cases h1
 |skip h1 _=>rw[e]at h1;cases h1
 |back h1=>rw[e]at h1;cases h1
theorem bfZ(e:ms[a]? =some (some .not))(h:Rn tw ms a f (.b b::st) o m):∃m',m=m'+1/\Rn tw ms (a+1) f (.b (!b)::st) o m':=by
 cases h with
 |not h1 h2=>exact⟨_,rfl,h2⟩
 |gone h1 _=>rw[e]at h1;cases h1
 |push h1 _=>rw[e]at h1;cases h1
 |load h1 _ _=>rw[e]at h1;cases h1
 |keep h1 _=>rw[e]at h1;cases h1
 |skip h1 _=>rw[e]at h1;cases h1
 |unl h1 _=>rw[e]at h1;cases h1
 |back h1=>rw[e]at h1;cases h1
theorem QE(e:ms[a]? =some (some (.unl n)))(h:Rn tw ms a f (.b b::st) o m):∃m',m=m'+1/\Rn tw ms (if b=true then a+1 else a+1+n) f st o m':=by
 cases h with
 |unl h1 h2=>rw[e]at h1;cases h1;exact⟨_,rfl,h2⟩
 |gone h1 _=>rw[e]at h1;cases h1
 |push h1 _=>rw[e]at h1;cases h1
 |load h1 _ _=>rw[e]at h1;cases h1
 |keep h1 _=>rw[e]at h1;cases h1
 |not h1 _=>rw[e]at h1;cases h1
 |skip h1 _=>rw[e]at h1;cases h1
 |back h1=>rw[e]at h1;cases h1
end
inductive Fold (tw:Nat->Int->Int->U⊕Nat) (ms:List (Option Q)):Nat->Nat->Option Q->Prop where
 |nums {i j k t:Nat} {x y:Int} {u:U}:i<j->j<k->ms[i]? =some (some (.push (.n x)))->ms[j]? =some (some (.push (.n y)))->ms[k]? =some (some (.two t))->(∀l,i<l->l<k->l≠j->ms[l]? =some none)->tw t x y=.inl u->Fold tw ms i k (some (.push u))
 |not {i k:Nat} {c:Bool}:i<k->ms[i]? =some (some (.push (.b c)))->ms[k]? =some (some .not)->(∀l,i<l->l<k->ms[l]? =some none)->Fold tw ms i k (some (.push (.b (!c))))
 |yes {i k n:Nat}:i<k->ms[i]? =some (some (.push (.b true)))->ms[k]? =some (some (.unl n))->(∀l,i<l->l<k->ms[l]? =some none)->Fold tw ms i k none
 |no {i k n:Nat}:i<k->ms[i]? =some (some (.push (.b false)))->ms[k]? =some (some (.unl n))->(∀l,i<l->l<k->ms[l]? =some none)->Fold tw ms i k (some (.skip n))
 |kept {i k s:Nat}:i<k->ms[i]? =some (some (.keep s))->ms[k]? =some (some (.load s))->(∀l,i<l->l<k->ms[l]? =some none)->(∀l,ms[l]? =some (some (.load s))->l=k)->Fold tw ms i k none
theorem Fold.lt(h:Fold tw ms i k q):i<k:=by cases h<;>omega
theorem VX{ms':List (Option Q)}(hf:Fold tw ms i k q)(hout:∀a,a<i\/k<a->ms'[a]? =ms[a]?)(hg:∀l,i<=l->l<k->ms'[l]? =some none)(hq:ms'[k]? =some q)
  (hJ:∀a q g,ms[a]? =some (some q)->gn q a=some g->g<=i\/k<g){a:Nat}{st:List U}(ha:a<=i\/k<a)(h:Rn tw ms a f st o m):∃m',m'<=m/\Rn tw ms' a f st o m':=by
 have back:∀ {g:Sl} {st:List U} {o:O} {m:Nat},Rn tw ms' k g st o m->Rn tw ms' i g st o m:=λh=>(EM (le_of_lt hf.lt) hg).mp h;refine sim (le_of_lt hf.lt) hout hJ (λf g st o m hA h=> ?_) _ a f f st o m (le_refl _) ha (Ag.refl _ _) h;cases hf with
 |nums h1 h2 h3 h4 h5 h6 h7=>
  rename_i j t x y u;obtain⟨m1,rfl,r1⟩:=T7 h3 h;have r1:=(EM (tw:=tw) (a:=i+1) (b:=j) (by omega) (λl z1 z2=>h6 l (by omega) (by omega) (by omega))).mpr r1;obtain⟨m2,rfl,r2⟩:=T7 h4 r1;have r2:=(EM (tw:=tw) (a:=j+1) (b:=k) (by omega) (λl z1 z2=>h6 l (by omega) (by omega) (by omega))).mpr r2;obtain⟨m3,rfl,r3⟩:=aCZ h5 h7 r2;exact⟨k+1,f,g,_,m3,1,by omega,hA,r3,by omega,by omega,λm' z=>back (.push hq z)⟩
 |not h1 h3 h5 h6=>
  obtain⟨m1,rfl,r1⟩:=T7 h3 h;have r1:=(EM (tw:=tw) (a:=i+1) (b:=k) (by omega) (λl z1 z2=>h6 l (by omega) (by omega))).mpr r1;obtain⟨m3,rfl,r3⟩:=bfZ h5 r1;exact⟨k+1,f,g,_,m3,1,by omega,hA,r3,by omega,by omega,λm' z=>back (.push hq z)⟩
 |yes h1 h3 h5 h6=>
  obtain⟨m1,rfl,r1⟩:=T7 h3 h;have r1:=(EM (tw:=tw) (a:=i+1) (b:=k) (by omega) (λl z1 z2=>h6 l (by omega) (by omega))).mpr r1;obtain⟨m3,rfl,r3⟩:=QE h5 r1;exact⟨k+1,f,g,_,m3,0,by omega,hA,r3,by omega,by omega,λm' z=>back (.gone hq z)⟩
 |no h1 h3 h5 h6=>
  rename_i n;obtain⟨m1,rfl,r1⟩:=T7 h3 h;have r1:=(EM (tw:=tw) (a:=i+1) (b:=k) (by omega) (λl z1 z2=>h6 l (by omega) (by omega))).mpr r1;obtain⟨m3,rfl,r3⟩:=QE h5 r1;exact⟨k+1+n,f,g,_,m3,1,by omega,hA,r3,by omega,by omega,λm' z=>back (.skip hq z)⟩
 |kept h1 h3 h5 h6 h7=>
  rename_i s;obtain⟨m1,u,d,rfl,rfl,r1⟩:=WT h3 h;have r1:=(EM (tw:=tw) (a:=i+1) (b:=k) (by omega) (λl z1 z2=>h6 l (by omega) (by omega))).mpr r1;obtain⟨m3,u',rfl,hu,r3⟩:=ZW h5 r1;have eu:u'=u:=by
   have:put f s u s=some u:=by unfold put;rw[if_pos rfl]
   rw[this]at hu;cases hu;rfl
  subst eu;refine⟨k+1,_,g,_,m3,0,by omega,λt ht=> ?_,r3,by omega,by omega,λm' z=>back (.gone hq z)⟩;have c:t≠s:=by
   rintro rfl;obtain⟨l,hl⟩:=ht;by_cases z:l<i\/k<l
   ·rw[hout l z]at hl;have:=h7 l hl;omega
   ·by_cases z2:l=k
    ·rw[z2,hq]at hl;cases hl
    ·rw[hg l (by omega) (by omega)]at hl;cases hl
  unfold put;rw[if_neg c];exact hA t ht
end
end _F
namespace _F
open _J (lf nn nn_succ JY Z0 DR)
section
noncomputable def wgq(gs:List Nat):Q->Nat->Q
 | .skip n,i=> .skip (nn gs (i+1+n) - nn gs i - 1)
 | .unl n,i=> .unl (nn gs (i+1+n) - nn gs i - 1)
 |q,_=>q
def atq(rs:List Q)(i:Nat):Q:=(rs[i]?).getD .back
def woq(gs:List Nat)(rs:List Q):List Q:=(lf gs rs.length).map λi=>wgq gs (atq rs i) i
theorem N4{gs:List Nat}(h:gs.contains a=false):nn gs (a+1)=nn gs a+1:=by rw[nn_succ,h];rfl
theorem HR{gs:List Nat}(h:gs.contains a=true):nn gs (a+1)=nn gs a:=by rw[nn_succ,h];rfl
theorem P4{gs:List Nat}{rs:List Q}{a:Nat}{q:Q}(h:rs[a]? =some q)(hc:gs.contains a=false):((woq gs rs).map some)[nn gs a]? =some (some (wgq gs q a)):=by
 have hi:=(List.getElem?_eq_some_iff.mp h).1;unfold woq;rw[getElem?_map,getElem?_map,DR hi hc];simp only[map_some,atq,h,Option.getD_some]
def sp(P:Nat->Bool)(rs:List Q):List (Option Q):=(List.range rs.length).map λa=>if P a=true then none else rs[a]?
theorem ahZ{a:Nat}(h:(sp P rs)[a]? =some none):a<rs.length/\P a=true:=by
 unfold sp at h;rw[getElem?_map]at h;by_cases hi:a<rs.length
 ·rw[getElem?_range hi]at h;simp only[map_some,Option.some.injEq]at h;split at h
  ·rename_i e;exact⟨hi,e⟩
  ·rw[List.getElem?_eq_getElem hi]at h;cases h
 ·rw[getElem?_eq_none (by rw[length_range];omega)]at h;cases h
theorem K9{a:Nat}{q:Q}(h:(sp P rs)[a]? =some (some q)):rs[a]? =some q/\P a=false:=by
 unfold sp at h;rw[getElem?_map]at h;by_cases hi:a<rs.length
 ·rw[getElem?_range hi]at h;simp only[map_some,Option.some.injEq]at h;split at h
  ·cases h
  ·rename_i e;exact⟨h,by simpa using e⟩
 ·rw[getElem?_eq_none (by rw[length_range];omega)]at h;cases h
theorem NY{P:Nat->Bool}{rs:List Q}{a:Nat}(h:a<rs.length)(hc:P a=true):(sp P rs)[a]? =some none:=by
 unfold sp;rw[getElem?_map,getElem?_range h,map_some,if_pos hc]
theorem IF{P:Nat->Bool}{rs:List Q}{a:Nat}{q:Q}(h:rs[a]? =some q)(hc:P a=false):(sp P rs)[a]? =some (some q):=by
 have hi:=(List.getElem?_eq_some_iff.mp h).1;unfold sp;rw[getElem?_map,getElem?_range hi,map_some,if_neg (by rw[hc];decide),h]
theorem XN{tw:Nat->Int->Int->U⊕Nat}{gs:List Nat}{a:Nat}{st:List U}(h:Rn tw (sp (λa=>gs.contains a) rs) a f st o m):Rn tw ((woq gs rs).map some) (nn gs a) f st o m:=by
 induction h with
 |gone h1 _ ih=>rw[HR (ahZ h1).2]at ih;exact ih
 |push h1 _ ih=>obtain⟨e,hc⟩:=K9 h1;rw[N4 hc]at ih;exact .push (P4 e hc) ih
 |load h1 h0 _ ih=>obtain⟨e,hc⟩:=K9 h1;rw[N4 hc]at ih;exact .load (P4 e hc) h0 ih
 |keep h1 _ ih=>obtain⟨e,hc⟩:=K9 h1;rw[N4 hc]at ih;exact .keep (P4 e hc) ih
 |two h1 h0 _ ih=>obtain⟨e,hc⟩:=K9 h1;rw[N4 hc]at ih;exact .two (P4 e hc) h0 ih
 |twoR h1 h0=>obtain⟨e,hc⟩:=K9 h1;exact .twoR (P4 e hc) h0
 |not h1 _ ih=>obtain⟨e,hc⟩:=K9 h1;rw[N4 hc]at ih;exact .not (P4 e hc) ih
 | @skip a n f st o m h1 _ ih=>
  obtain⟨e,hc⟩:=K9 h1;have c:=Z0 (gs:=gs) (show a<a+1+n by omega) hc;refine .skip (P4 e hc) ?_;rw[show nn gs a+1+(nn gs (a+1+n) - nn gs a - 1)=nn gs (a+1+n) by omega];exact ih
 | @unl a n b f st o m h1 _ ih=>
  obtain⟨e,hc⟩:=K9 h1;have c:=Z0 (gs:=gs) (show a<a+1+n by omega) hc;refine .unl (P4 e hc) ?_;cases b
  ·rw[if_neg (by decide)]at ih⊢;rw[show nn gs a+1+(nn gs (a+1+n) - nn gs a - 1)=nn gs (a+1+n) by omega];exact ih
  ·rw[if_pos rfl]at ih⊢;rw[N4 hc]at ih;exact ih
 |back h1=>obtain⟨e,hc⟩:=K9 h1;exact .back (P4 e hc)
inductive Rc (rs:List Q):Nat->Prop where
 |zero:Rc rs 0
 |next {a:Nat} {q:Q}:Rc rs a->rs[a]? =some q->q≠ .back->(∀n,q≠ .skip n)->Rc rs (a+1)
 |jump {a g:Nat} {q:Q}:Rc rs a->rs[a]? =some q->gn q a=some g->Rc rs g
theorem ZK{rs:List Q}{a:Nat}{q:Option Q}(h:(rs.map some)[a]? =some q):∃r,q=some r/\rs[a]? =some r:=by
 rw[getElem?_map]at h;cases e:rs[a]? with
 |none=>rw[e]at h;cases h
 |some r=>rw[e]at h;cases h;exact⟨r,rfl,rfl⟩
theorem dyZ{tw:Nat->Int->Int->U⊕Nat}{P:Nat->Bool}(hg:∀a,Rc rs a->P a=false){a:Nat}{st:List U}(h:Rn tw (rs.map some) a f st o m):Rc rs a->Rn tw (sp P rs) a f st o m:=by
 have nx:∀ {a:Nat} {q:Q},Rc rs a->(rs.map some)[a]? =some (some q)->(sp P rs)[a]? =some (some q)/\rs[a]? =some q:=λhr e=>by
  obtain⟨r,e1,e2⟩:=ZK e;cases e1;exact⟨IF e2 (hg _ hr),e2⟩
 induction h with
 |gone h1 _ _=>obtain⟨r,e1,_⟩:=ZK h1;cases e1
 |push h1 _ ih=>intro hr;obtain⟨e,e2⟩:=nx hr h1;exact .push e (ih (.next hr e2 (by intro z;cases z) (by intro n z;cases z)))
 |load h1 h0 _ ih=>intro hr;obtain⟨e,e2⟩:=nx hr h1;exact .load e h0 (ih (.next hr e2 (by intro z;cases z) (by intro n z;cases z)))
 |keep h1 _ ih=>intro hr;obtain⟨e,e2⟩:=nx hr h1;exact .keep e (ih (.next hr e2 (by intro z;cases z) (by intro n z;cases z)))
 |two h1 h0 _ ih=>intro hr;obtain⟨e,e2⟩:=nx hr h1;exact .two e h0 (ih (.next hr e2 (by intro z;cases z) (by intro n z;cases z)))
 |twoR h1 h0=>intro hr;obtain⟨e,e2⟩:=nx hr h1;exact .twoR e h0
 |not h1 _ ih=>intro hr;obtain⟨e,e2⟩:=nx hr h1;exact .not e (ih (.next hr e2 (by decide) (by intro n z;cases z)))
 |skip h1 _ ih=>intro hr;obtain⟨e,e2⟩:=nx hr h1;exact .skip e (ih (.jump hr e2 rfl))
 | @unl a n b f st o m h1 _ ih=>
  intro hr;obtain⟨e,e2⟩:=nx hr h1;refine .unl e (ih ?_);cases b
  ·exact .jump hr e2 rfl
  ·exact .next hr e2 (by intro z;cases z) (by intro n z;cases z)
 |back h1=>intro hr;obtain⟨e,e2⟩:=nx hr h1;exact .back e
theorem bNZ{a:Nat}:(sp P rs)[a]? =if a<rs.length then some (if P a=true then none else rs[a]?)else none:=by
 unfold sp;rw[getElem?_map];split
 ·rename_i h;rw[getElem?_range h];rfl
 ·rename_i h;rw[getElem?_eq_none (by rw[length_range];omega)];rfl
noncomputable def fo(tw:Nat->Int->Int->U⊕Nat)(ld:Nat->Nat):List Q->Nat×Option Q
 | .two t:: .push (.n y):: .push (.n x):: []=>match tw t x y with
  | .inl u=>(3,some (.push u))
  | .inr _=>(0,none)
 | .not:: .push (.b c)::_=>(2,some (.push (.b (!c))))
 | .unl n:: .push (.b c)::_=>(2,if c=true then none else some (.skip n))
 | .load s:: .keep r::_=>if r=s/\ld s=1 then(2,none)else(0,none)
 |_=>(0,none)
noncomputable def stp(tw:Nat->Int->Int->U⊕Nat)(ld:Nat->Nat)(L:List Nat)(md:List Q)(t:Nat):List Nat×List Q:=
 match(fo tw ld (((t::L).take 3).map (atq md))).2 with
 |some q=>(t::(t::L).drop (fo tw ld (((t::L).take 3).map (atq md))).1,md.set t q)
 |none=>((t::L).drop (fo tw ld (((t::L).take 3).map (atq md))).1,md)
def gone(t:Nat)(dn L:List Nat)(a:Nat):Bool:=decide (a<t)&& !decide (a∈dn)&& !decide (a∈L)
theorem gone_iff:gone t dn L a=true↔a<t/\a∉dn/\a∉L:=by
 unfold gone;simp only[Bool.and_eq_true,decide_eq_true_eq,Bool.not_eq_true',decide_eq_false_iff_not,and_assoc]
theorem X3{t:Nat}{dn L:List Nat}{a:Nat}(h:¬(a<t/\a∉dn/\a∉L)):gone t dn L a=false:=by
 cases e:gone t dn L a
 ·rfl
 ·exact absurd (gone_iff.mp e) h
structure Iv (tw:Nat->Int->Int->U⊕Nat) (rs:List Q) (t p:Nat) (dn L:List Nat) (md:List Q):Prop where
 len:md.length=rs.length
 un:∀a:Nat,t<=a->md[a]? =rs[a]?
 gp:∀(a:Nat) (q:Q) (g:Nat),md[a]? =some q->gn q a=some g->∃q0,rs[a]? =some q0/\gn q0 a=some g
 lp:∀(a s:Nat),md[a]? =some (Q.load s)->rs[a]? =some (Q.load s)
 od:L.Pairwise (·>·)
 rg:∀a∈L,p<=a/\a<t
 dr:∀a∈dn,a<p
 pt:p<=t
 ng:∀(a:Nat) (q0:Q) (g:Nat),rs[a]? =some q0->gn q0 a=some g->g<=p\/t<=g
 run:∀f st o m,Rn tw (rs.map some) 0 f st o m->∃m',m'<=m/\Rn tw (sp (gone t dn L) md) 0 f st o m'
theorem UC{rs:List Q}(h:rs.count x=1){a b:Nat}(ha:rs[a]? =some x)(hb:rs[b]? =some x):a=b:=by
 have c:∀ {a b:Nat},a<b->rs[a]? =some x->rs[b]? =some x->False:=λ{a b} d ha hb=>by
  have e:rs=rs.take (a+1)++rs.drop (a+1):=(take_append_drop _ _).symm;rw[e,count_append]at h;have h1:x∈rs.take (a+1):=mem_of_getElem? (i:=a) (by rw[List.getElem?_take,if_pos (by omega)];exact ha);have h2:x∈rs.drop (a+1):=mem_of_getElem? (i:=b - (a+1)) (by rw[List.getElem?_drop,show a+1+(b - (a+1))=b by omega];exact hb);have:=List.count_pos_iff.mpr h1;have:=List.count_pos_iff.mpr h2;omega
 rcases Nat.lt_trichotomy a b with z|z|z
 ·exact(c z ha hb).elim
 ·exact z
 ·exact(c z hb ha).elim
def oL(t:Nat)(L0:List Nat):Option Q->List Nat
 |some _=>t::L0
 |none=>L0
def oM(t:Nat)(md:List Q):Option Q->List Q
 |some r=>md.set t r
 |none=>md
theorem Iv.fold{tw:Nat->Int->Int->U⊕Nat}{L0:List Nat}(I:Iv tw rs t p dn L md)(hng:∀a q0 g,rs[a]? =some q0->gn q0 a=some g->g≠t)(ht:t<rs.length)
  (hf:Fold tw (sp (gone t dn L) md) i t q)(hi:p<=i)(h0:∀a∈L0,a<i/\p<=a)(hL:∀a,a<i->(a∈L↔a∈L0))(hod:L0.Pairwise (·>·))
  (hqg:∀r g,q=some r->gn r t=some g->∃q0,rs[t]? =some q0/\gn q0 t=some g)(hql:∀s,q≠some (.load s)):
  Iv tw rs (t+1) p dn (oL t L0 q) (oM t md q):=by
 have u:=hf.lt;have n:t∉dn:=λz=>by have:=I.dr t z;omega
 have d:t<md.length:=by rw[I.len];exact ht
 have k:∀a q0 g,rs[a]? =some q0->gn q0 a=some g->g<=p\/t+1<=g:=λa q0 g h1 h2=>by
  have:=I.ng a q0 g h1 h2;have:=hng a q0 g h1 h2;omega
 have c:∀(L':List Nat) (b:List Q),b.length=md.length->(∀a,a≠t->b[a]? =md[a]?)->(∀a,a<i->(a∈L'↔a∈L0))->(∀a,i<=a->a<t->a∉L')->(sp (gone (t+1) dn L') b)[t]? =some q->
   ∀f st o m,Rn tw (rs.map some) 0 f st o m->∃m',m'<=m/\Rn tw (sp (gone (t+1) dn L') b) 0 f st o m':=λL' b e1 e2 e3 e4 e5 f st o m h=>by
  obtain⟨m1,l1,r1⟩:=I.run f st o m h;have h1:∀a,a<i\/t<a->(sp (gone (t+1) dn L') b)[a]? =(sp (gone t dn L) md)[a]? :=λa ha=>by
   rw[bNZ,bNZ,e1];by_cases j:a<md.length
   ·rw[if_pos j,if_pos j,e2 a (by omega)];have eg:gone (t+1) dn L' a=gone t dn L a:=by
     rw[Bool.eq_iff_iff,gone_iff,gone_iff];rcases ha with ha|ha
     ·rw[e3 a ha,hL a ha];constructor
      ·rintro⟨y1,y2,y3⟩;exact⟨by omega,y2,y3⟩
      ·rintro⟨y1,y2,y3⟩;exact⟨by omega,y2,y3⟩
     ·constructor
      ·rintro⟨y1,_⟩;omega
      ·rintro⟨y1,_⟩;omega
    rw[eg]
   ·rw[if_neg j,if_neg j]
  have h2:∀l,i<=l->l<t->(sp (gone (t+1) dn L') b)[l]? =some none:=λl z1 z2=>by
   refine NY (by rw[e1];omega) (gone_iff.mpr ⟨by omega,λz=> ?_,e4 l z1 z2⟩);have:=I.dr l z;omega
  have h3:∀a q g,(sp (gone t dn L) md)[a]? =some (some q)->gn q a=some g->g<=i\/t<g:=λa q g z1 z2=>by
   obtain⟨y1,y2⟩:=K9 z1;obtain⟨q0,y3,y4⟩:=I.gp a q g y1 z2;have:=k a q0 g y3 y4;omega
  obtain⟨m2,l2,r2⟩:=VX hf h1 h2 e5 h3 (.inl (zero_le _)) r1;exact⟨m2,by omega,r2⟩
 cases q with
 |none=>
  show Iv tw rs (t+1) p dn L0 md;refine⟨I.len,λa ha=>I.un a (by omega),I.gp,I.lp,hod,λa ha=>⟨(h0 a ha).2,by have:=(h0 a ha).1;omega⟩,I.dr,by have:=I.pt;omega,k,c L0 md rfl (λ_ _=>rfl) (λ_ _=>Iff.rfl) (λa z1 z2 z3=>by have:=(h0 a z3).1;omega) ?_⟩;refine NY d (gone_iff.mpr ⟨by omega,n,λz=>by have:=(h0 t z).1;omega⟩)
 |some r=>
  show Iv tw rs (t+1) p dn (t::L0) (md.set t r);refine⟨by rw[length_set];exact I.len,λa ha=> ?_,λa q g h1 h2=> ?_,λa s h1=> ?_, ?_,λa ha=> ?_,I.dr,by have:=I.pt;omega,k,c (t::L0) (md.set t r) (length_set) (λa z=> ?_) (λa z=> ?_) (λa z1 z2 z3=> ?_) ?_⟩
  ·show(md.set t r)[a]? =_;rw[getElem?_set_ne (by omega)];exact I.un a (by omega)
  ·by_cases e:a=t
   ·subst e;rw[getElem?_set_self d]at h1;cases h1;exact hqg _ g rfl h2
   ·rw[getElem?_set_ne (Ne.symm e)]at h1;exact I.gp a q g h1 h2
  ·by_cases e:a=t
   ·subst e;rw[getElem?_set_self d]at h1;cases h1;exact absurd rfl (hql s)
   ·rw[getElem?_set_ne (Ne.symm e)]at h1;exact I.lp a s h1
  ·exact pairwise_cons.mpr ⟨λa ha=>by have:=(h0 a ha).1;show a<t;omega,hod⟩
  ·rcases cZ ha with rfl|ha
   ·exact⟨I.pt,by omega⟩
   ·exact⟨(h0 a ha).2,by have:=(h0 a ha).1;omega⟩
  ·exact getElem?_set_ne (Ne.symm z)
  ·rw[mem_cons];constructor
   ·rintro(y|y)
    ·omega
    ·exact y
   ·exact λy=> .inr y
  ·rcases cZ z3 with y|y
   ·omega
   ·have:=(h0 a y).1;omega
  ·exact IF (getElem?_set_self d) (X3 λz=>z.2.2 (mem_cons_self ..))
theorem G5{rs:List Q}{a:Nat}(h:a<rs.length):rs[a]? =some (atq rs a):=by unfold atq;rw[List.getElem?_eq_getElem h];rfl
theorem Iv.left{tw:Nat->Int->Int->U⊕Nat}(I:Iv tw rs t p dn L md)(ht:t<rs.length){a:Nat}(h:a∈L):(sp (gone t dn L) md)[a]? =some (some (atq md a)):=by
 have:=I.rg a h;exact IF (G5 (by rw[I.len];omega)) (X3 λz=>z.2.2 h)
theorem Iv.here{tw:Nat->Int->Int->U⊕Nat}(I:Iv tw rs t p dn L md)(ht:t<rs.length):(sp (gone t dn L) md)[t]? =some (some (atq md t)):=
 IF (G5 (by rw[I.len];omega)) (X3 λz=>by omega)
theorem Iv.hole{tw:Nat->Int->Int->U⊕Nat}(I:Iv tw rs t p dn L md)(ht:t<rs.length){l:Nat}(h1:p<=l)(h2:l<t)(h3:l∉L):(sp (gone t dn L) md)[l]? =some none:=
 NY (by rw[I.len];omega) (gone_iff.mpr ⟨h2,λz=>by have:=I.dr l z;omega,h3⟩)
theorem Iv.stay{tw:Nat->Int->Int->U⊕Nat}(I:Iv tw rs t p dn L md)(hng:∀(a:Nat) (q0:Q) (g:Nat),rs[a]? =some q0->gn q0 a=some g->g≠t):Iv tw rs (t+1) p dn (t::L) md:=by
 refine⟨I.len,λa ha=>I.un a (by omega),I.gp,I.lp,pairwise_cons.mpr ⟨λa ha=>(I.rg a ha).2,I.od⟩,λa ha=> ?_,I.dr,by have:=I.pt;omega,λa q0 g h1 h2=> ?_,λf st o m h=> ?_⟩
 ·rcases cZ ha with rfl|ha
  ·exact⟨I.pt,by omega⟩
  ·have:=I.rg a ha;exact⟨this.1,by omega⟩
 ·have:=I.ng a q0 g h1 h2;have:=hng a q0 g h1 h2;omega
 ·have e:sp (gone (t+1) dn (t::L)) md=sp (gone t dn L) md:=by
   unfold sp;refine map_congr_left λa _=> ?_;have:gone (t+1) dn (t::L) a=gone t dn L a:=by
    rw[Bool.eq_iff_iff,gone_iff,gone_iff,mem_cons,not_or];constructor
    ·rintro⟨h1,h2,h3,h4⟩;exact⟨by omega,h2,h4⟩
    ·rintro⟨h1,h2,h3⟩;exact⟨by omega,h2,by omega,h3⟩
   rw[this]
  rw[e];exact I.run f st o m h
theorem Iv.fold2{tw:Nat->Int->Int->U⊕Nat}{j:Nat}{L0:List Nat}(I:Iv tw rs t p dn (j::L0) md)(hng:∀(a:Nat) (q0:Q) (g:Nat),rs[a]? =some q0->gn q0 a=some g->g≠t)(ht:t<rs.length)(hf:Fold tw (sp (gone t dn (j::L0)) md) j t q)
  (hqg:∀r g,q=some r->gn r t=some g->∃q0,rs[t]? =some q0/\gn q0 t=some g)(hql:∀s,q≠some (.load s)):
  Iv tw rs (t+1) p dn (oL t L0 q) (oM t md q):=by
 have b:=pairwise_cons.mp I.od;refine I.fold hng ht hf (I.rg j (mem_cons_self ..)).1 (λa ha=>⟨b.1 a ha,(I.rg a (mem_cons_of_mem _ ha)).1⟩) (λa ha=> ?_) b.2 hqg hql;rw[mem_cons];constructor
 ·rintro(z|z)
  ·omega
  ·exact z
 ·exact λz=> .inr z
theorem Iv.hole2{tw:Nat->Int->Int->U⊕Nat}{j:Nat}{L0:List Nat}(I:Iv tw rs t p dn (j::L0) md)(ht:t<rs.length):∀l,j<l->l<t->(sp (gone t dn (j::L0)) md)[l]? =some none:=λl h1 h2=>by
 have a:=pairwise_cons.mp I.od;refine I.hole ht (by have:=I.rg j (mem_cons_self ..);omega) h2 λz=> ?_;rcases cZ z with z|z
 ·omega
 ·have:=a.1 l z;omega
theorem fo1{tw:Nat->Int->Int->U⊕Nat}(q:Q):fo tw ld [q]=(0,none):=by cases q<;>rfl
theorem Iv.step{tw:Nat->Int->Int->U⊕Nat}(I:Iv tw rs t p dn L md)(ht:t<rs.length)(hng:∀(a:Nat) (q0:Q) (g:Nat),rs[a]? =some q0->gn q0 a=some g->g≠t):
  Iv tw rs (t+1) p dn (stp tw (λs=>rs.count (.load s)) L md t).1 (stp tw (λs=>rs.count (.load s)) L md t).2:=by
 have d:∀ {x:Nat×Option Q},fo tw (λs=>rs.count (.load s)) (((t::L).take 3).map (atq md))=x->x=(0,none)->Iv tw rs (t+1) p dn (stp tw (λs=>rs.count (.load s)) L md t).1 (stp tw (λs=>rs.count (.load s)) L md t).2:=λe ex=>by
  unfold stp;rw[e,ex];exact I.stay hng
 have m:rs[t]? =some (atq md t):=by rw[<-I.un t (le_refl _)];exact G5 (by rw[I.len];exact ht)
 cases L with
 |nil=>exact d rfl (fo1 _)
 |cons j L0=>
  have hj:=I.left ht (mem_cons_self (a:=j) (l:=L0));have hh:=I.here ht;have h2:=I.hole2 ht;have h:=(I.rg j (mem_cons_self ..)).2;have o:=pairwise_cons.mp I.od;cases et:atq md t with
  |push u=>exact d rfl (by cases L0<;>simp[fo,et])
  |keep s=>exact d rfl (by cases L0<;>simp[fo,et])
  |skip n=>exact d rfl (by cases L0<;>simp[fo,et])
  |back=>exact d rfl (by cases L0<;>simp[fo,et])
  |not=>
   cases ej:atq md j with
   |push u=>
    cases u with
    |b c=>
     have e:fo tw (λs=>rs.count (.load s)) (((t::j::L0).take 3).map (atq md))=(2,some (.push (.b (!c)))):=by cases L0<;>simp[fo,et,ej]
     have:=I.fold2 (q:=some (.push (.b (!c)))) hng ht (.not h (by rw[hj,ej]) (by rw[hh,et]) h2) (λr g z1 z2=>by cases z1;cases z2) (λs z=>by cases z);unfold stp;rw[e];exact this
    |n x=>exact d rfl (by cases L0<;>simp[fo,et,ej])
   |_=>exact d rfl (by cases L0<;>simp[fo,et,ej])
  |unl n=>
   cases ej:atq md j with
   |push u=>
    cases u with
    |b c=>
     cases c with
     |true=>
      have e:fo tw (λs=>rs.count (.load s)) (((t::j::L0).take 3).map (atq md))=(2,none):=by cases L0<;>simp[fo,et,ej]
      have:=I.fold2 (q:=none) hng ht (.yes h (by rw[hj,ej]) (by rw[hh,et]) h2) (λr g z1 z2=>by cases z1) (λs z=>by cases z);unfold stp;rw[e];exact this
     |false=>
      have e:fo tw (λs=>rs.count (.load s)) (((t::j::L0).take 3).map (atq md))=(2,some (.skip n)):=by cases L0<;>simp[fo,et,ej]
      have:=I.fold2 (q:=some (.skip n)) hng ht (.no h (by rw[hj,ej]) (by rw[hh,et]) h2) (λr g z1 z2=>by cases z1;exact⟨_,m,by rw[et];exact z2⟩) (λs z=>by cases z);unfold stp;rw[e];exact this
    |n x=>exact d rfl (by cases L0<;>simp[fo,et,ej])
   |_=>exact d rfl (by cases L0<;>simp[fo,et,ej])
  |load s=>
   cases ej:atq md j with
   |keep r=>
    by_cases hc:r=s/\rs.count (.load s)=1
    ·have e:fo tw (λs=>rs.count (.load s)) (((t::j::L0).take 3).map (atq md))=(2,none):=by cases L0<;>simp[fo,et,ej,hc]
     obtain⟨rfl,C⟩:=hc;have:=I.fold2 (q:=none) hng ht (.kept (s:=r) h (by rw[hj,ej]) (by rw[hh,et]) h2 λl hl=>UC C (I.lp l r (K9 hl).1) (by rw[m,et])) (λr g z1 z2=>by cases z1) (λs z=>by cases z);unfold stp;rw[e];exact this
    ·exact d rfl (by cases L0<;>simp[fo,et,ej,hc])
   |_=>exact d rfl (by cases L0<;>simp[fo,et,ej])
  |two k=>
   cases L0 with
   |nil=>exact d rfl (by cases ej:atq md j<;>simp[fo,et,ej])
   |cons i L1=>
    cases ej:atq md j with
    |push u=>
     cases u with
     |n y=>
      cases ei:atq md i with
      |push v=>
       cases v with
       |n x=>
        cases hk:tw k x y with
        |inl u=>
         have e:fo tw (λs=>rs.count (.load s)) (((t::j::i::L1).take 3).map (atq md))=(3,some (.push u)):=by simp[fo,et,ej,ei,hk]
         have f:=pairwise_cons.mp o.2;have B:=o.1 i (mem_cons_self ..);have hi:=I.left ht (a:=i) (mem_cons_of_mem _ (mem_cons_self ..));have A:=I.rg i (mem_cons_of_mem _ (mem_cons_self ..));have h3:∀l,i<l->l<t->l≠j->(sp (gone t dn (j::i::L1)) md)[l]? =some none:=λl z1 z2 z3=>by
          refine I.hole ht (by omega) z2 λz=> ?_;rcases cZ z with z|z
          ·exact z3 z
          ·rcases cZ z with z|z
           ·omega
           ·have:=f.1 l z;omega
         have:=I.fold (L0:=L1) (q:=some (.push u)) hng ht (.nums B h (by rw[hi,ei]) (by rw[hj,ej]) (by rw[hh,et]) h3 hk) A.1 (λa ha=>⟨f.1 a ha,(I.rg a (mem_cons_of_mem _ (mem_cons_of_mem _ ha))).1⟩) (λa ha=>by
          rw[mem_cons,mem_cons];constructor
          ·rintro(z|z|z)
           ·omega
           ·omega
           ·exact z
          ·exact λz=> .inr (.inr z)) f.2 (λr g z1 z2=>by cases z1;cases z2) (λs z=>by cases z)
         unfold stp;rw[e];exact this
        |inr w=>exact d rfl (by simp[fo,et,ej,ei,hk])
       |b c=>exact d rfl (by simp[fo,et,ej,ei])
      |_=>exact d rfl (by simp[fo,et,ej,ei])
     |b c=>exact d rfl (by simp[fo,et,ej])
    |_=>exact d rfl (by simp[fo,et,ej])
theorem Iv.begin{tw:Nat->Int->Int->U⊕Nat}(I:Iv tw rs t p dn L md):Iv tw rs t t (dn++L) [] md:=by
 refine⟨I.len,I.un,I.gp,I.lp,.nil,(λa ha=>nomatch ha),λa ha=> ?_,le_refl _,λa q0 g h1 h2=>by omega,λf st o m h=> ?_⟩
 ·rcases mem_append.mp ha with ha|ha
  ·have:=I.dr a ha;have:=I.pt;omega
  ·exact(I.rg a ha).2
 ·have e:sp (gone t (dn++L) []) md=sp (gone t dn L) md:=by
   unfold sp;refine map_congr_left λa _=> ?_;have:gone t (dn++L) [] a=gone t dn L a:=by
    rw[Bool.eq_iff_iff,gone_iff,gone_iff,mem_append,not_or];constructor
    ·rintro⟨h1,⟨h2,h3⟩,_⟩;exact⟨h1,h2,h3⟩
    ·rintro⟨h1,h2,h3⟩;exact⟨h1,⟨h2,h3⟩,(λz=>nomatch z)⟩
   rw[this]
  rw[e];exact I.run f st o m h
theorem Iv.zero{tw:Nat->Int->Int->U⊕Nat}:Iv tw rs 0 0 [] [] rs:=by
 refine⟨rfl,λ_ _=>rfl,λa q g h1 h2=>⟨q,h1,h2⟩,λ_ _ h=>h,.nil,(λa ha=>nomatch ha),(λa ha=>nomatch ha),le_refl _,λa q0 g h1 h2=>by omega,λf st o m h=>⟨m,le_refl _, ?_⟩⟩;have e:sp (gone 0 [] []) rs=rs.map some:=by
  unfold sp;refine List.ext_getElem? λa=> ?_;rw[getElem?_map,getElem?_map];by_cases h:a<rs.length
  ·rw[getElem?_range h,List.getElem?_eq_getElem h];simp[gone]
  ·rw[getElem?_eq_none (by rw[length_range];omega),getElem?_eq_none (by omega)];rfl
 rw[e];exact h
end
end _F
namespace _F
open _J (lf nn nn_succ JY Z0 DR lf_mem)
section
abbrev ldc(rs:List Q)(s:Nat):Nat:=rs.count (.load s)
def isG(rs:List Q)(t:Nat):Bool:=(List.range rs.length).any λa=>decide (gn (atq rs a) a=some t)
theorem isG_iff:isG rs t=true↔∃(a:Nat) (q:Q),rs[a]? =some q/\gn q a=some t:=by
 unfold isG;rw[List.any_eq_true];constructor
 ·rintro⟨a,ha,h⟩;exact⟨a,_,G5 (mem_range.mp ha),of_decide_eq_true h⟩
 ·rintro⟨a,q,h1,h2⟩;have hl:=(List.getElem?_eq_some_iff.mp h1).1;refine⟨a,mem_range.mpr hl,decide_eq_true ?_⟩;have:=G5 hl;rw[h1]at this;cases this;exact h2
def pc(tw:Nat->Int->Int->U⊕Nat)(ld:Nat->Nat)(md:List Q)(ns:List Nat):List Nat×List Q:=ns.foldl (λs t=>stp tw ld s.1 s.2 t) ([],md)
theorem QT{tw:Nat->Int->Int->U⊕Nat}:stp tw ld [] md t=([t],md):=by
 unfold stp;rw[show((([t]:List Nat)).take 3).map (atq md)=[atq md t]from rfl,fo1];rfl
theorem M3{tw:Nat->Int->Int->U⊕Nat}{ns:List Nat}{t:Nat}:pc tw ld md (ns++ [t])=stp tw ld (pc tw ld md ns).1 (pc tw ld md ns).2 t:=by unfold pc;rw[List.foldl_append];rfl
theorem Iv.first{tw:Nat->Int->Int->U⊕Nat}(I:Iv tw rs t t dn [] md)(ht:t<rs.length):Iv tw rs (t+1) t dn [t] md:=by
 refine⟨I.len,λa ha=>I.un a (by omega),I.gp,I.lp,pairwise_cons.mpr ⟨(λa ha=>nomatch ha),.nil⟩,λa ha=> ?_,I.dr,by omega,λa q0 g h1 h2=>by omega,λf st o m h=> ?_⟩
 ·rw[sZ ha];exact⟨le_refl _,by omega⟩
 ·have e:sp (gone (t+1) dn [t]) md=sp (gone t dn []) md:=by
   unfold sp;refine map_congr_left λa _=> ?_;have:gone (t+1) dn [t] a=gone t dn [] a:=by
    rw[Bool.eq_iff_iff,gone_iff,gone_iff,mem_singleton];constructor
    ·rintro⟨h1,h2,h3⟩;exact⟨by omega,h2,(λz=>nomatch z)⟩
    ·rintro⟨h1,h2,h3⟩;exact⟨by omega,h2,by omega⟩
   rw[this]
  rw[e];exact I.run f st o m h
theorem Iv.piece{tw:Nat->Int->Int->U⊕Nat}(I:Iv tw rs t t dn [] md):∀n,t+n<=rs.length->(∀s,t<s->s<t+n->isG rs s=false)->Iv tw rs (t+n) t dn (pc tw (ldc rs) md (List.range' t n)).1 (pc tw (ldc rs) md (List.range' t n)).2
 |0,_,_=>I
 |1,h,_=>by
  show Iv tw rs (t+1) t dn (stp tw (ldc rs) [] md t).1 (stp tw (ldc rs) [] md t).2;rw[QT];exact I.first (by omega)
 |n+2,h,hg=>by
  have ih:=Iv.piece I (n+1) (by omega) λs h1 h2=>hg s h1 (by omega);rw[range'_concat,M3];rw[one_mul];exact ih.step (by omega) λa q0 g h1 h2 e=>by
   have:=hg (t+(n+1)) (by omega) (by omega);rw[isG_iff.mpr ⟨a,q0,h1,e▸h2⟩]at this;cases this
theorem QL{tw:Nat->Int->Int->U⊕Nat}{a:Nat}(h:a∈(stp tw ld L md t).1):a=t\/a∈L:=by
 unfold stp at h;split at h
 ·rcases cZ h with h|h
  ·exact .inl h
  ·rcases cZ (List.mem_of_mem_drop h)with h|h
   ·exact .inl h
   ·exact .inr h
 ·rcases cZ (List.mem_of_mem_drop h)with h|h
  ·exact .inl h
  ·exact .inr h
theorem HW{tw:Nat->Int->Int->U⊕Nat}:∀ {t n a:Nat},a∈(pc tw ld md (List.range' t n)).1->t<=a/\a<t+n
 |t,0,a,h=>nomatch h
 |t,n+1,a,h=>by
  rw[range'_concat,M3,one_mul]at h;rcases QL h with h|h
  ·omega
  ·have:=HW h;omega
theorem VH{tw:Nat->Int->Int->U⊕Nat}{L:List Nat}{t:Nat}:(fo tw ld (((t::L).take 3).map (atq md))=(0,none)/\stp tw ld L md t=(t::L,md))\/∃j L0,L=j::L0/\∀a,a∈(stp tw ld L md t).1->a=t\/a∈L0:=by
 cases L with
 |nil=>exact .inl ⟨by rw[show((([t]:List Nat)).take 3).map (atq md)=[atq md t]from rfl,fo1],QT⟩
 |cons j L0=>
  have b:∀x:Nat×Option Q,fo tw ld (((t::j::L0).take 3).map (atq md))=x->x=(0,none)\/2<=x.1:=by
   intro x hx;rw[<-hx];cases L0 with
   |nil=>
    show fo tw ld [atq md t,atq md j]=_\/2<=(fo tw ld [atq md t,atq md j]).1;cases atq md t<;>cases atq md j<;>try exact .inl rfl
    all_goals (rename_i u;cases u<;>first|exact .inl rfl|exact .inr (le_refl _)|(simp only[fo];split<;>first|exact .inl rfl|exact .inr (le_refl _)))
   |cons i L1=>
    show fo tw ld [atq md t,atq md j,atq md i]=_\/2<=(fo tw ld [atq md t,atq md j,atq md i]).1;unfold fo;split
    ·split
     ·exact .inr (by show 2<=3;decide)
     ·exact .inl rfl
    ·exact .inr (le_refl _)
    ·exact .inr (le_refl _)
    ·split
     ·exact .inr (le_refl _)
     ·exact .inl rfl
    ·exact .inl rfl
  rcases b _ rfl with h|h
  ·refine .inl ⟨h, ?_⟩;unfold stp;rw[h];rfl
  ·refine .inr ⟨j,L0,rfl,λa ha=> ?_⟩;have dr:∀ {n:Nat},2<=n->∀ {a},a∈(t::j::L0).drop n->a∈L0:=λ{n} hn {a} ha=>by
    obtain⟨m,rfl⟩:∃m,n=m+2:=⟨n - 2,by omega⟩;exact List.mem_of_mem_drop (show a∈L0.drop m from ha)
   unfold stp at ha;split at ha
   ·rcases cZ ha with ha|ha
    ·exact .inl ha
    ·exact .inr (dr h ha)
   ·exact .inr (dr h ha)
theorem YJ{tw:Nat->Int->Int->U⊕Nat}:∀ {t n:Nat},(∀a,t<=a->a<t+n->a∈(pc tw ld md (List.range' t n)).1)->pc tw ld md (List.range' t n)=((List.range' t n).reverse,md)/\∀k,k<n->fo tw ld ((((List.range' t (k+1)).reverse).take 3).map (atq md))=(0,none)
 |t,0,_=>⟨rfl,λk hk=>by omega⟩
 |t,n+1,h=>by
  have e:=M3 (tw:=tw) (ld:=ld) (md:=md) (ns:=List.range' t n) (t:=t+n);have er:List.range' t (n+1)=List.range' t n++ [t+n]:=by rw[range'_concat,one_mul]
  rw[er]at h⊢;have g:∀a,t<=a->a<t+n->a∈(pc tw ld md (List.range' t n)).1:=λa h1 h2=>by
   have:=h a h1 (by omega);rw[e]at this;rcases QL this with z|z
   ·omega
   ·exact z
  obtain⟨b,c⟩:=YJ g;rw[e,b];rcases VH (tw:=tw) (ld:=ld) (L:=(List.range' t n).reverse) (md:=md) (t:=t+n)with⟨h1,h2⟩|⟨j,L0,h1,h2⟩
  ·refine⟨?_,λk hk=> ?_⟩
   ·show stp tw ld (List.range' t n).reverse md (t+n)=_;rw[h2,reverse_append];rfl
   ·by_cases d:k<n
    ·exact c k d
    ·have:k=n:=by omega
     subst this;rw[er,reverse_append];exact h1
  ·exfalso;have hj:j∈List.range' t n:=by
    have:j∈(List.range' t n).reverse:=by rw[h1];exact mem_cons_self ..
    exact mem_reverse.mp this
   have f:=List.mem_range'_1.mp hj;have h3:=h j f.1 (by omega);rw[e,b]at h3;rcases h2 j h3 with z|z
   ·omega
   ·have hn:((List.range' t n).reverse).Nodup:=List.pairwise_reverse.mpr ((List.nodup_range' (s:=t) (n:=n)).imp λz=>Ne.symm z);rw[h1]at hn;exact(nodup_cons.mp hn).1 z
inductive Pcs (rs:List Q):Nat->List (List Nat)->Nat->Prop
 |nil {t:Nat}:Pcs rs t [] t
 |cons {t n e:Nat} {Ps:List (List Nat)}:1<=n->(t=0\/isG rs t=true)->(∀s,t<s->s<t+n->isG rs s=false)->Pcs rs (t+n) Ps e->Pcs rs t (List.range' t n::Ps) e
def pw(tw:Nat->Int->Int->U⊕Nat)(ld:Nat->Nat)(Ps:List (List Nat))(s:List Nat×List Q):List Nat×List Q:=Ps.foldl (λs ns=>(s.1++(pc tw ld s.2 ns).1,(pc tw ld s.2 ns).2)) s
theorem Pcs.le(h:Pcs rs t Ps e):t<=e:=by
 induction h with
 |nil=>exact le_refl _
 |cons _ _ _ _ ih=>omega
theorem Pcs.iv{tw:Nat->Int->Int->U⊕Nat}(h:Pcs rs t Ps e)(he:e<=rs.length):∀ {dn:List Nat} {md:List Q},Iv tw rs t t dn [] md->Iv tw rs e e (pw tw (ldc rs) Ps (dn,md)).1 [] (pw tw (ldc rs) Ps (dn,md)).2:=by
 induction h with
 |nil=>intro dn md I;exact I
 | @cons t n e Ps h1 hs hg hP ih=>
  intro dn md I;have:=hP.le;exact ih he (I.piece n (by omega) hg).begin
theorem c6Z{tw:Nat->Int->Int->U⊕Nat}(h:Pcs rs t Ps e):∀ {s:List Nat×List Q} {a:Nat},a∈(pw tw ld Ps s).1->a∈s.1\/t<=a:=by
 induction h with
 |nil=>intro s a h;exact .inl h
 |cons h1 hs hg hP ih=>
  intro s a h;rcases ih h with z|z
  ·rcases mem_append.mp z with z|z
   ·exact .inl z
   ·exact .inr (HW z).1
  ·exact .inr (by omega)
theorem YO{tw:Nat->Int->Int->U⊕Nat}(h:Pcs rs t Ps e):∀ {dn:List Nat} {md:List Q},(∀a∈dn,a<t)->(∀a,t<=a->a<e->a∈(pw tw (ldc rs) Ps (dn,md)).1)->
  (pw tw (ldc rs) Ps (dn,md)).2=md/\∀k,t<=k->k<e->∃p n,p+n=k/\(p=0\/isG rs p=true)/\fo tw (ldc rs) ((((List.range' p (n+1)).reverse).take 3).map (atq md))=(0,none):=by
 induction h with
 |nil=>intro dn md hd h;exact⟨rfl,λk h1 h2=>by omega⟩
 | @cons t n e Ps h1 hs hg hP ih=>
  intro dn md hd h;have f:=hP.le;have c:∀a,t<=a->a<t+n->a∈(pc tw (ldc rs) md (List.range' t n)).1:=λa ha h2=>by
   rcases c6Z hP (h a ha (by omega))with z|z
   ·rcases mem_append.mp z with z|z
    ·have:=hd a z;omega
    ·exact z
   ·omega
  obtain⟨e1,e2⟩:=YJ c;have d:∀a∈dn++(pc tw (ldc rs) md (List.range' t n)).1,a<t+n:=λa ha=>by
   rcases mem_append.mp ha with z|z
   ·have:=hd a z;omega
   ·exact(HW z).2
  obtain⟨f1,f2⟩:=ih (dn:=dn++(pc tw (ldc rs) md (List.range' t n)).1) (md:=(pc tw (ldc rs) md (List.range' t n)).2) d λa h1 h2=>h a (by omega) h2;have b:(pc tw (ldc rs) md (List.range' t n)).2=md:=by rw[e1]
  refine⟨f1.trans b,λk h1 h2=> ?_⟩;by_cases hk:k<t+n
  ·exact⟨t,k - t,by omega,hs,e2 (k - t) (by omega)⟩
  ·obtain⟨p,m,z1,z2,z3⟩:=f2 k (by omega) h2;rw[b]at z3;exact⟨p,m,z1,z2,z3⟩
theorem eGZ(p n:Nat):(List.range' p (n+1+1)).reverse=(p+n+1)::(p+n)::(List.range' p n).reverse:=by
 rw[range'_concat,range'_concat,reverse_append,reverse_append,one_mul,one_mul];rfl
theorem ftZ(p n:Nat):(List.range' p (n+1+1+1)).reverse=(p+n+2)::(p+n+1)::(p+n)::(List.range' p n).reverse:=by
 rw[range'_concat,reverse_append,eGZ,one_mul];rfl
structure Fix (tw:Nat->Int->Int->U⊕Nat) (rs:List Q):Prop where
 tru:∀a c,isG rs (a+1)=false->rs[a]? =some (.push (.b c))->rs[a+1]? ≠some .not/\∀n,rs[a+1]? ≠some (.unl n)
 kep:∀a s,isG rs (a+1)=false->rs[a]? =some (.keep s)->rs[a+1]? =some (.load s)->rs.count (.load s)≠1
 num:∀a k x y,isG rs (a+1)=false->isG rs (a+2)=false->rs[a]? =some (.push (.n x))->rs[a+1]? =some (.push (.n y))->rs[a+2]? =some (.two k)->∃w,tw k x y=.inr w
theorem U6{rs:List Q}{a:Nat}{q:Q}(h:rs[a]? =some q):atq rs a=q:=by unfold atq;rw[h];rfl
theorem cwZ{tw:Nat->Int->Int->U⊕Nat}(h:Pcs rs 0 Ps rs.length)(hall:∀a,a<rs.length->a∈(pw tw (ldc rs) Ps ([],rs)).1):Fix tw rs:=by
 obtain⟨_,hk⟩:=YO h (dn:=[]) (md:=rs) (λa ha=>nomatch ha) λa _ h2=>hall a h2;have b:∀a,a+1<rs.length->isG rs (a+1)=false->∃L,fo tw (ldc rs) (((a+1)::a::L).take 3|>.map (atq rs))=(0,none):=λa h1 h2=>by
  obtain⟨p,n,e1,e2,e3⟩:=hk (a+1) (zero_le _) h1;have hp:p<=a:=by
   rcases e2 with z|z
   ·omega
   ·by_cases e:p=a+1
    ·rw[e,h2]at z;cases z
    ·omega
  obtain⟨n',rfl⟩:∃n',n=n'+1:=⟨n - 1,by omega⟩;rw[eGZ,show p+n'+1=a+1 by omega,show p+n'=a by omega]at e3;exact⟨_,e3⟩
 refine⟨λa c h1 h2=> ?_,λa s h1 h2 h3 hc=> ?_,λa k x y h1 h2 h3 h4 h5=> ?_⟩
 ·have d:∀q,rs[a+1]? =some q->(q=.not\/∃n,q=.unl n)->False:=λq hq hx=>by
   obtain⟨L,e⟩:=b a (List.getElem?_eq_some_iff.mp hq).1 h1;have e4:=U6 hq;have e5:=U6 h2;rcases hx with rfl|⟨n,rfl⟩<;>cases L<;>simp[fo,e4,e5]at e
  exact⟨λz=>d _ z (.inl rfl),λn z=>d _ z (.inr ⟨n,rfl⟩)⟩
 ·obtain⟨L,e⟩:=b a (List.getElem?_eq_some_iff.mp h3).1 h1;have e4:=U6 h3;have e5:=U6 h2;cases L<;>simp[fo,e4,e5,hc]at e
 ·obtain⟨p,n,e1,e2,e3⟩:=hk (a+2) (zero_le _) (List.getElem?_eq_some_iff.mp h5).1;have hp:p<=a:=by
   rcases e2 with z|z
   ·omega
   ·by_cases e:p=a+1
    ·rw[e,h1]at z;cases z
    ·by_cases e':p=a+2
     ·rw[e',h2]at z;cases z
     ·omega
  obtain⟨n',rfl⟩:∃n',n=n'+1+1:=⟨n - 2,by omega⟩;rw[ftZ,show p+n'+2=a+2 by omega,show p+n'+1=a+1 by omega,show p+n'=a by omega]at e3;have e4:=U6 h3;have e5:=U6 h4;have e6:=U6 h5;cases hk:tw k x y with
  |inl u=>simp[fo,e4,e5,e6,hk]at e3
  |inr w=>exact⟨w,rfl⟩
theorem XU{tw:Nat->Int->Int->U⊕Nat}(h:Pcs rs 0 Ps rs.length){gs:List Nat}(hgs:∀a,a<rs.length->(gs.contains a=true↔a∉(pw tw (ldc rs) Ps ([],rs)).1)){st:List U}(hr:Rn tw (rs.map some) 0 f st o m):
  ∃m',m'<=m/\Rn tw ((woq gs (pw tw (ldc rs) Ps ([],rs)).2).map some) 0 f st o m':=by
 have I:=h.iv (le_refl _) (Iv.zero (tw:=tw) (rs:=rs));obtain⟨m',h1,h2⟩:=I.run f st o m hr;refine⟨m',h1, ?_⟩;have e:sp (gone rs.length (pw tw (ldc rs) Ps ([],rs)).1 []) (pw tw (ldc rs) Ps ([],rs)).2=sp (λa=>gs.contains a) (pw tw (ldc rs) Ps ([],rs)).2:=by
  unfold sp;refine map_congr_left λa ha=> ?_;have b:a<rs.length:=by rw[<-I.len];exact mem_range.mp ha
  have:gone rs.length (pw tw (ldc rs) Ps ([],rs)).1 [] a=gs.contains a:=by
   rw[Bool.eq_iff_iff,gone_iff,hgs a b];constructor
   ·exact λz=>z.2.1
   ·exact λz=>⟨b,z,(λy=>nomatch y)⟩
  rw[this]
 rw[e]at h2;exact XN h2
end
end _F
namespace _F
open PySem _L _B
noncomputable def uv:U->V
 | .n i=> .int i
 | .b b=> .bl b
noncomputable def tj:Q->_J.Rw
 | .push u=> .oth [.str "push",uv u]
 | .load s=> .oth [.str "load",.int (s:Nat)]
 | .keep s=> .oth [.str "keep",.int (s:Nat)]
 | .two k=> .oth [.str (_C.wd k)]
 | .not=> .oth [.str "not"]
 | .skip n=> .skip n
 | .unl n=> .unl n
 | .back=> .oth [.str "back"]
def QOk(q:Q):Prop:=(∀k,q=.two k->k<6)/\∀i,q=.push (.n i)->_C.Bd i
theorem GL(k:Nat):_C.wd k≠ "skip"/\_C.wd k≠ "unless"/\_C.wd k≠ "push"/\_C.wd k≠ "load"/\_C.wd k≠ "keep"/\_C.wd k≠ "back":=by
 have h:∀k<6,_C.wd k≠ "skip"/\_C.wd k≠ "unless"/\_C.wd k≠ "push"/\_C.wd k≠ "load"/\_C.wd k≠ "keep"/\_C.wd k≠ "back":=by decide +kernel
 by_cases hk:k<6
 ·exact h k hk
 ·have e:_C.wd k=_C.wd 5:=by
   obtain⟨j,rfl⟩:∃j,k=j+6:=⟨k - 6,by omega⟩;rfl
  rw[e];exact h 5 (by decide)
theorem bRZ(q:Q):_J.Okr (tj q):=by
 cases q with
 |skip n=>trivial
 |unl n=>trivial
 |push u=>exact⟨"push",[uv u],rfl,by decide +kernel,by decide +kernel,by cases u<;>rfl,by simp,λ_=>(match u with| .n i=> .inl ⟨i,rfl⟩| .b c=> .inr ⟨c,rfl⟩),λh=>h.elim (λz=>absurd z (by decide +kernel)) (λz=>absurd z (by decide +kernel)),λh=>absurd h (by decide +kernel)⟩
 |load s=>exact⟨"load",_,rfl,by decide +kernel,by decide +kernel,rfl,by simp,λh=>absurd h (by decide +kernel),λ_=>⟨s,rfl⟩,λh=>absurd h (by decide +kernel)⟩
 |keep s=>exact⟨"keep",_,rfl,by decide +kernel,by decide +kernel,rfl,by simp,λh=>absurd h (by decide +kernel),λ_=>⟨s,rfl⟩,λh=>absurd h (by decide +kernel)⟩
 |not=>exact⟨"not",_,rfl,by decide +kernel,by decide +kernel,rfl,by simp,λh=>absurd h (by decide +kernel),λh=>h.elim (λz=>absurd z (by decide +kernel)) (λz=>absurd z (by decide +kernel)),λ_=>rfl⟩
 |back=>exact⟨"back",_,rfl,by decide +kernel,by decide +kernel,rfl,by simp,λh=>absurd h (by decide +kernel),λh=>h.elim (λz=>absurd z (by decide +kernel)) (λz=>absurd z (by decide +kernel)),λ_=>rfl⟩
 |two k=>
  obtain⟨h1,h2,h3,h4,h5,h6⟩:=GL k;exact⟨_C.wd k,_,rfl,h1,h2,rfl,by simp,λh=>absurd h h3,λh=>h.elim (λz=>absurd z h4) (λz=>absurd z h5),λ_=>rfl⟩
theorem EX(q:Q)(i:Nat):_J.gn (tj q) i=gn q i:=by cases q<;>rfl
theorem e6Z(gs:List Nat)(q:Q)(i:Nat):_J.wg gs (tj q) i=tj (wgq gs q i):=by cases q<;>rfl
theorem RD{rs:List Q}{a:Nat}{r:_J.Rw}(h:(rs.map tj)[a]? =some r):∃q,rs[a]? =some q/\r=tj q:=by
 rw[getElem?_map]at h;cases e:rs[a]? with
 |none=>rw[e]at h;cases h
 |some q=>rw[e]at h;cases h;exact⟨q,rfl,rfl⟩
theorem BU{rs:List Q}{a:Nat}{q:Q}(h:rs[a]? =some q):(rs.map tj)[a]? =some (tj q):=by rw[getElem?_map,h];rfl
theorem WA(gs:List Nat)(rs:List Q):_J.wo gs (rs.map tj)=(woq gs rs).map tj:=by
 unfold _J.wo woq;rw[List.map_map,length_map];refine map_congr_left λi hi=> ?_;have h1:=(_J.lf_mem.mp hi).1;have h2:=G5 h1;show _J.wg gs (_J.rowAt (rs.map tj) i) i=tj (wgq gs (atq rs i) i);rw[_J.rowAt_of (BU h2),e6Z]
theorem stays_tj:_J.stays (tj q)=true↔q≠ .back/\∀n,q≠ .skip n:=by
 cases q with
 |back=>exact⟨λh=>absurd h (by decide +kernel),λh=>absurd rfl h.1⟩
 |skip n=>exact⟨(λh=>by cases h),λh=>absurd rfl (h.2 n)⟩
 |unl n=>exact⟨λ_=>⟨(by intro z;cases z),(λn z=>by cases z)⟩,λ_=>rfl⟩
 |push u=>exact⟨λ_=>⟨(by intro z;cases z),(λn z=>by cases z)⟩,λ_=>(by decide +kernel:(!(("back":Str)=="push"))=true)⟩
 |load s=>exact⟨λ_=>⟨(by intro z;cases z),(λn z=>by cases z)⟩,λ_=>(by decide +kernel:(!(("back":Str)=="load"))=true)⟩
 |keep s=>exact⟨λ_=>⟨(by intro z;cases z),(λn z=>by cases z)⟩,λ_=>(by decide +kernel:(!(("back":Str)=="keep"))=true)⟩
 |not=>exact⟨λ_=>⟨(by intro z;cases z),(λn z=>by cases z)⟩,λ_=>by decide +kernel⟩
 |two k=>
  refine⟨λ_=>⟨(by intro z;cases z),(λn z=>by cases z)⟩,λ_=> ?_⟩;show(!(("back":Str)==_C.wd k))=true;rw[beq_false_of_ne (Ne.symm (GL k).2.2.2.2.2)];rfl
theorem fMZ(h:Rc rs a):_J.R (rs.map tj) a:=by
 induction h with
 |zero=>exact .zero
 |next _ h1 h2 h3 ih=>exact .src ih ⟨_,BU h1,.inl ⟨stays_tj.mpr ⟨h2,h3⟩,rfl⟩⟩
 |jump _ h1 h2 ih=>exact .src ih ⟨_,BU h1,.inr (by rw[EX];exact h2)⟩
structure Gd (rs:List Q):Prop where
 ok:∀q∈rs,QOk q
 wf:_J.Wf (rs.map tj)
theorem Gd.last(g:Gd rs):0<rs.length/\rs[rs.length - 1]? =some .back:=by
 have h0:0<rs.length:=by have:=g.wf.1;rwa [length_map]at this
 have h1:=G5 (rs:=rs) (a:=rs.length - 1) (by omega);refine⟨h0, ?_⟩;have:=_J.last_back g.wf (r:=tj (atq rs (rs.length - 1))) (by rw[length_map];exact BU h1);rw[h1];generalize atq rs (rs.length - 1)=q at this;cases q with
 |back=>rfl
 |two k=>exact absurd (eq_of_beq this) (Ne.symm (GL k).2.2.2.2.2)
 |skip n=>cases this
 |unl n=>cases this
 |push u=>exact absurd (eq_of_beq this) (by decide +kernel:("back":Str)≠ "push")
 |load s=>exact absurd (eq_of_beq this) (by decide +kernel:("back":Str)≠ "load")
 |keep s=>exact absurd (eq_of_beq this) (by decide +kernel:("back":Str)≠ "keep")
 |not=>exact absurd (eq_of_beq this) (by decide +kernel)
theorem Gd.goal(g:Gd rs){a t:Nat}{q:Q}(h1:rs[a]? =some q)(h2:gn q a=some t):t<rs.length:=by
 have:=g.wf.2 a t ⟨_,BU h1,.inr (by rw[EX];exact h2)⟩
 rwa [length_map]at this
theorem daZ(h:QOk q):QOk (wgq gs q i):=by
 cases q with
 |skip n=>exact⟨(λk z=>by cases z),(λj z=>by cases z)⟩
 |unl n=>exact⟨(λk z=>by cases z),(λj z=>by cases z)⟩
 |_=>exact h
theorem ZU{rs:List Q}(h:∀q∈rs,QOk q):∀q∈woq gs rs,QOk q:=by
 intro q hq;unfold woq at hq;obtain⟨i,hi,rfl⟩:=mem_map.mp hq;exact daZ (h _ (mem_of_getElem? (G5 (_J.lf_mem.mp hi).1)))
theorem Z2(gs:List Nat)(rs:List Q):(woq gs rs).length=_J.nn gs rs.length:=by unfold woq _J.nn;rw[length_map]
noncomputable def alo(rs:List Q):List Q:=woq (_J.u1 (rs.map tj)) rs
theorem OM(rs:List Q):_J.wo (_J.u1 (rs.map tj)) (rs.map tj)=(alo rs).map tj:=WA _ _
theorem Gd.alo(g:Gd rs):Gd (alo rs)/\_J.AllR ((_F.alo rs).map tj):=by
 have hl:∀a,(_J.u1 (rs.map tj)).contains a=false->∀j,_J.Src (rs.map tj) a j->_J.R (rs.map tj) j:=λa hc j s=> .src (_J.u1_left (by obtain⟨r,hr,_⟩:=s;exact(List.getElem?_eq_some_iff.mp hr).1) hc) s;refine⟨⟨ZU g.ok, ?_⟩, ?_⟩
 ·rw[<-OM];exact _J.wo_wf ⟨0,g.wf.1,_J.u1_of g.wf .zero⟩ λa j hc s=>⟨j,le_refl _,g.wf.2 _ _ s,_J.u1_of g.wf (hl a hc j s)⟩
 ·rw[<-OM];exact _J.wo_all (_J.u1_gone g.wf) λa ha hc=>_J.u1_left ha hc
theorem aMZ{tw:Nat->Int->Int->U⊕Nat}(g:Gd rs){st:List U}(h:Rn tw (rs.map some) 0 f st o m):Rn tw ((alo rs).map some) 0 f st o m:=
 XN (gs:=_J.u1 (rs.map tj)) (dyZ (P:=λa=>(_J.u1 (rs.map tj)).contains a) (λa ha=>_J.u1_of g.wf (fMZ ha)) h .zero)
section
def Bt(tw:Nat->Int->Int->U⊕Nat):Prop:=∀k x y i,k<6->_C.Bd x->_C.Bd y->tw k x y=.inl (.n i)->_C.Bd i
theorem a5Z:QOk .back:=⟨(λk z=>by cases z),(λj z=>by cases z)⟩
theorem WC{md:List Q}(h:∀q∈md,QOk q)(a:Nat):QOk (atq md a):=by
 by_cases hl:a<md.length
 ·exact h _ (mem_of_getElem? (G5 hl))
 ·unfold atq;rw[getElem?_eq_none (by omega)];exact a5Z
theorem d3Z{tw:Nat->Int->Int->U⊕Nat}(hB:Bt tw){l:List Q}{r:Q}(h:∀q∈l,QOk q)(e:(fo tw ld l).2=some r):QOk r:=by
 unfold fo at e;split at e
 ·rename_i t y x;split at e
  ·rename_i u hu;cases e;refine⟨(λk z=>by cases z),λi z=> ?_⟩;cases z;exact hB t x y i ((h _ (by simp)).1 t rfl) ((h (.push (.n x)) (by simp)).2 x rfl) ((h (.push (.n y)) (by simp)).2 y rfl) hu
  ·cases e
 ·cases e;exact⟨(λk z=>by cases z),(λj z=>by cases z)⟩
 ·split at e
  ·cases e
  ·cases e;exact⟨(λk z=>by cases z),(λj z=>by cases z)⟩
 ·split at e<;>cases e
 ·cases e
theorem WD(hB:Bt tw){ld:Nat->Nat}{L:List Nat}{md:List Q}{t:Nat}(h:∀q∈md,QOk q):∀q∈(stp tw ld L md t).2,QOk q:=by
 have hf:∀r,(fo tw ld (((t::L).take 3).map (atq md))).2=some r->QOk r:=λr e=>d3Z hB (λq hq=>by
  obtain⟨a,_,rfl⟩:=mem_map.mp hq;exact WC h a) e
 unfold stp;split
 ·rename_i q e;intro r hr;rcases List.mem_or_eq_of_mem_set hr with z|z
  ·exact h r z
  ·rw[z];exact hf q e
 ·exact h
theorem cmZ{tw:Nat->Int->Int->U⊕Nat}{t a:Nat}(h:a≠t):(stp tw ld L md t).2[a]? =md[a]? :=by
 unfold stp;split
 ·exact getElem?_set_ne (Ne.symm h)
 ·rfl
theorem QH{tw:Nat->Int->Int->U⊕Nat}:(stp tw ld L md t).2.length=md.length:=by
 unfold stp;split
 ·exact length_set
 ·rfl
theorem XY{tw:Nat->Int->Int->U⊕Nat}(h:atq md t=.back):stp tw ld L md t=(t::L,md):=by
 rcases VH (tw:=tw) (ld:=ld) (L:=L) (md:=md) (t:=t)with⟨_,e⟩|⟨j,L0,rfl,_⟩
 ·exact e
 ·unfold stp;have:fo tw ld (((t::j::L0).take 3).map (atq md))=(0,none):=by
   cases L0<;>simp[fo,h]
  rw[this];rfl
theorem WK(hB:Bt tw){ld:Nat->Nat}:∀ {n t:Nat} {md:List Q},(∀q∈md,QOk q)->∀q∈(pc tw ld md (List.range' t n)).2,QOk q
 |0,_,_,h=>h
 |n+1,t,md,h=>by
  rw[range'_concat,M3];exact WD hB (WK hB h)
theorem WS{tw:Nat->Int->Int->U⊕Nat}:∀ {n t:Nat} {md:List Q} {a:Nat},t+n<=a->(pc tw ld md (List.range' t n)).2[a]? =md[a]?
 |0,_,_,_,_=>rfl
 |n+1,t,md,a,h=>by
  rw[range'_concat,M3,cmZ (by omega)];exact WS (by omega)
theorem eZZ(hB:Bt tw){ld:Nat->Nat}(h:Pcs rs t Ps e):∀ {s:List Nat×List Q},(∀q∈s.2,QOk q)->∀q∈(pw tw ld Ps s).2,QOk q:=by
 induction h with
 |nil=>intro s h;exact h
 |cons _ _ _ _ ih=>intro s h;exact ih (WK hB h)
theorem bjZ{tw:Nat->Int->Int->U⊕Nat}(h:Pcs rs t Ps e):t<e->∀ {s:List Nat×List Q},s.2[e - 1]? =some .back->e - 1∈(pw tw ld Ps s).1/\(pw tw ld Ps s).2[e - 1]? =some .back:=by
 induction h with
 |nil=>intro h;omega
 | @cons t n e Ps h1 hs hg hP ih=>
  intro ht s hb;by_cases b:t+n<e
  ·exact ih b (by show(pc tw ld s.2 (List.range' t n)).2[e - 1]? =_;rw[WS (by omega)];exact hb)
  ·have he:=hP.le;have:t+n=e:=by omega
   subst this;cases hP with
   |cons y1 _ _ y2=>have:=y2.le;omega
   |nil=>
    obtain⟨m,rfl⟩:∃m,n=m+1:=⟨n - 1,by omega⟩;have e1:t+(m+1) - 1=t+m:=by omega
    rw[e1]at hb⊢;show t+m∈s.1++(pc tw ld s.2 (List.range' t (m+1))).1/\(pc tw ld s.2 (List.range' t (m+1))).2[t+m]? =_;have a:(pc tw ld s.2 (List.range' t m)).2[t+m]? =some .back:=by rw[WS (le_refl _)];exact hb
    rw[range'_concat,M3,one_mul,XY (U6 a)];exact⟨mem_append_right _ (mem_cons_self ..),a⟩
noncomputable def G3(rs:List Q):Nat->List (List Nat)×List Nat
 |0=>([],[])
 |n+1=>if isG rs n=true then((G3 rs n).1++ [(G3 rs n).2],[n])else((G3 rs n).1,(G3 rs n).2++ [n])
def pcs(rs:List Q):List (List Nat):=(G3 rs rs.length).1++ [(G3 rs rs.length).2]
theorem Pcs.snoc{m:Nat}(h:Pcs rs t Ps p):1<=m->(p=0\/isG rs p=true)->(∀s,p<s->s<p+m->isG rs s=false)->Pcs rs t (Ps++ [List.range' p m]) (p+m):=by
 induction h with
 |nil=>intro h1 h2 h3;exact .cons h1 h2 h3 .nil
 |cons y1 y2 y3 _ ih=>intro h1 h2 h3;exact .cons y1 y2 y3 (ih h1 h2 h3)
theorem LC(rs:List Q):isG rs 0=false:=by
 cases h:isG rs 0
 ·rfl
 ·obtain⟨a,q,_,h2⟩:=isG_iff.mp h;cases q<;>simp[gn]at h2
theorem QK(rs:List Q):∀n,∃p,p<=n/\p<n+1/\Pcs rs 0 (G3 rs (n+1)).1 p/\(G3 rs (n+1)).2=List.range' p (n+1 - p)/\(p=0\/isG rs p=true)/\∀s,p<s->s<n+1->isG rs s=false
 |0=>by
  refine⟨0,le_refl _,by omega, ?_, ?_,.inl rfl,λs h1 h2=>by omega⟩
  ·simp only[G3,LC];exact .nil
  ·simp only[G3,LC];rfl
 |n+1=>by
  obtain⟨p,h1,h2,h3,h4,h5,h6⟩:=QK rs n;rw[G3];by_cases hg:isG rs (n+1)=true
  ·rw[if_pos hg];refine⟨n+1,le_refl _,by omega, ?_, ?_,.inr hg,λs z1 z2=>by omega⟩
   ·have:=h3.snoc (m:=n+1 - p) (by omega) h5 λs z1 z2=>h6 s z1 (by omega);rw[show p+(n+1 - p)=n+1 by omega]at this;show Pcs rs 0 ((G3 rs (n+1)).1++ [(G3 rs (n+1)).2]) (n+1);rw[h4];exact this
   ·rw[show n+1+1 - (n+1)=1 by omega];rfl
  ·rw[if_neg hg];refine⟨p,by omega,by omega,h3, ?_,h5,λs z1 z2=> ?_⟩
   ·show(G3 rs (n+1)).2++ [n+1]=_;rw[h4,show n+1+1 - p=(n+1 - p)+1 by omega,range'_concat,one_mul,show p+(n+1 - p)=n+1 by omega]
   ·by_cases e:s=n+1
    ·rw[e];simpa using hg
    ·exact h6 s z1 (by omega)
theorem NX{rs:List Q}(h:0<rs.length):Pcs rs 0 (pcs rs) rs.length:=by
 obtain⟨n,hn⟩:∃n,rs.length=n+1:=⟨rs.length - 1,by omega⟩;obtain⟨p,h1,h2,h3,h4,h5,h6⟩:=QK rs n;unfold pcs;rw[hn,h4];have:=h3.snoc (m:=n+1 - p) (by omega) h5 λs z1 z2=>h6 s z1 (by omega)
 rwa [show p+(n+1 - p)=n+1 by omega]at this
def lft(tw:Nat->Int->Int->U⊕Nat)(rs:List Q):List Nat:=(pw tw (ldc rs) (pcs rs) ([],rs)).1
def mde(tw:Nat->Int->Int->U⊕Nat)(rs:List Q):List Q:=(pw tw (ldc rs) (pcs rs) ([],rs)).2
def gon(tw:Nat->Int->Int->U⊕Nat)(rs:List Q):List Nat:=(List.range rs.length).filter λa=> !decide (a∈lft tw rs)
theorem HF{tw:Nat->Int->Int->U⊕Nat}{rs:List Q}{a:Nat}(h:a<rs.length):(gon tw rs).contains a=true↔a∉lft tw rs:=by
 rw[contains_iff_mem];unfold gon;rw[mem_filter,mem_range];simp[h]
def mid(tw:Nat->Int->Int->U⊕Nat)(rs:List Q):List Q:=woq (gon tw rs) (mde tw rs)
noncomputable def V2(tw:Nat->Int->Int->U⊕Nat)(rs:List Q):List Q:=alo (mid tw rs)
theorem YH{gs:List Nat}:∀ {n:Nat},(∀a,a<n->gs.contains a=false)->_J.nn gs n=n
 |0,_=>rfl
 |n+1,h=>by rw[_J.nn_succ,h n (by omega),YH λa ha=>h a (by omega)];rfl
theorem IM:∀ {n:Nat},_J.nn gs n=n->∀a,a<n->gs.contains a=false
 |0,_,a,ha=>by omega
 |n+1,h,a,ha=>by
  rw[_J.nn_succ]at h;have hb:=_J.nn_bound gs n;have hc:gs.contains n=false:=by
   cases e:gs.contains n
   ·rfl
   ·rw[e]at h;simp at h;omega
  rw[hc]at h;by_cases e:a=n
  ·rw[e];exact hc
  ·exact IM (n:=n) (by simpa using h) a (by omega)
theorem dqZ{gs:List Nat}{rs:List Q}(g:∀a q t,rs[a]? =some q->gn q a=some t->t<=rs.length)(h:∀a,a<rs.length->gs.contains a=false):woq gs rs=rs:=by
 have b:∀n,n<=rs.length->_J.nn gs n=n:=λn hn=>YH λa ha=>h a (by omega);refine List.ext_getElem? λa=> ?_;by_cases ha:a<rs.length
 ·have h1:=G5 ha;have h2:=P4 h1 (h a ha);rw[b a (by omega),getElem?_map]at h2;cases e:(woq gs rs)[a]? with
  |none=>rw[e]at h2;cases h2
  |some r=>
   rw[e]at h2;simp only[map_some,Option.some.injEq]at h2;rw[h1,h2];cases eq:atq rs a with
   |skip n=>
    have:=g a (.skip n) _ (by rw[h1,eq]) rfl;show some (Q.skip _)=_;rw[b (a+1+n) this,b a (by omega),show a+1+n - a - 1=n by omega]
   |unl n=>
    have:=g a (.unl n) _ (by rw[h1,eq]) rfl;show some (Q.unl _)=_;rw[b (a+1+n) this,b a (by omega),show a+1+n - a - 1=n by omega]
   |_=>rfl
 ·rw[getElem?_eq_none (by rw[Z2,b _ (le_refl _)];omega),getElem?_eq_none (by omega)]
theorem II{tw:Nat->Int->Int->U⊕Nat}(hB:Bt tw)(g:Gd rs):Gd (mid tw rs)/\(mde tw rs).length=rs.length/\(mid tw rs).length<=rs.length/\Gd (V2 tw rs)/\(V2 tw rs).length<=rs.length/\(∀f st o m,Rn tw (rs.map some) 0 f st o m->∃m',m'<=m/\Rn tw ((V2 tw rs).map some) 0 f st o m')/\
  ((V2 tw rs).length=rs.length->Fix tw rs/\_J.AllR (rs.map tj)):=by
 obtain⟨h0,hb⟩:=g.last;have hP:=NX h0;have I:=hP.iv (le_refl _) (Iv.zero (tw:=tw) (rs:=rs));have b:(mde tw rs).length=rs.length:=I.len;obtain⟨u,p⟩:=bjZ (tw:=tw) (ld:=ldc rs) hP h0 (s:=([],rs)) hb;have l:∀q∈mde tw rs,QOk q:=eZZ hB hP g.ok;have k:(gon tw rs).contains (rs.length - 1)=false:=by
  cases e:(gon tw rs).contains (rs.length - 1)
  ·rfl
  ·exact absurd u ((HF (by omega)).mp e)
 have gm:Gd (mid tw rs):=by
  refine⟨ZU l, ?_⟩;unfold mid;rw[<-WA];refine _J.wo_wf ⟨rs.length - 1,by rw[length_map,b];omega,k⟩ λa j hc s=>⟨rs.length - 1, ?_,by rw[length_map,b];omega,k⟩;obtain⟨r,hr,hj⟩:=s;obtain⟨q,hq,rfl⟩:=RD hr;have w:=(List.getElem?_eq_some_iff.mp hq).1;rw[b]at w;rcases hj with⟨z1,rfl⟩|z
  ·by_cases e:a=rs.length - 1
   ·subst e;have:(mde tw rs)[rs.length - 1]? =some .back:=p;rw[hq]at this;cases this;exact absurd rfl (stays_tj.mp z1).1
   ·omega
  ·rw[EX]at z;obtain⟨q0,y1,y2⟩:=I.gp a q j hq z;have:=g.goal y1 y2;omega
 have n:(mid tw rs).length<=rs.length:=by unfold mid;rw[Z2,b];exact _J.nn_bound _ _
 obtain⟨ga,v⟩:=gm.alo;have y:(V2 tw rs).length<=(mid tw rs).length:=by unfold V2 alo;rw[Z2];exact _J.nn_bound _ _
 refine⟨gm,b,n,ga,by omega,λf st o m h=> ?_,λhe=> ?_⟩
 ·obtain⟨m',l1,r1⟩:=XU hP (gs:=gon tw rs) (λa ha=>HF ha) h;exact⟨m',l1,aMZ gm r1⟩
 ·have hm:(mid tw rs).length=rs.length:=by omega
  have d:∀a,a<rs.length->(gon tw rs).contains a=false:=by
   have:_J.nn (gon tw rs) rs.length=rs.length:=by unfold mid at hm;rw[Z2,b]at hm;exact hm
   exact IM this
  have i:∀a,a<rs.length->a∈lft tw rs:=λa ha=>by
   by_cases z:a∈lft tw rs
   ·exact z
   ·have:=(HF ha).mpr z;rw[d a ha]at this;cases this
  refine⟨cwZ hP i,λa ha=> ?_⟩;obtain⟨x,_⟩:=YO hP (dn:=[]) (md:=rs) (λa ha=>nomatch ha) λa _ h2=>i a h2;have c:mid tw rs=rs:=by
   unfold mid;rw[show mde tw rs=rs from x];exact dqZ (λa q t h1 h2=>le_of_lt (g.goal h1 h2)) d
  have hu:_J.nn (_J.u1 (rs.map tj)) rs.length=rs.length:=by
   have:=he;unfold V2 alo at this;rw[c,Z2]at this;exact this
  rw[length_map]at ha;exact _J.u1_left (by rw[length_map];exact ha) (IM hu a ha)
end
end _F
namespace _F
open PySem _L
open _B hiding NoG ifT ifF top
open _C (F5 C3 E1 Bd)
open _J (NoG FE rv ifT ifF)
seal PE PT PW PA PS PSs PTs PI PG PGs PO
def top(i:Nat):Stmt:=PySem.Challenge.pw_speakmill_k73_folded.main.body.getD i (.Pass ⟨0,0,0,0⟩)
abbrev s_is_whole:Stmt:=top 13
abbrev s_pushes_number:Stmt:=top 30
abbrev s_folding_of_load:Stmt:=top 29
abbrev s_folding_of_truth:Stmt:=top 28
abbrev OJ:List Str:=["value"]
theorem LE:FnScope OJ Z5 (A9 s_is_whole):=fS
abbrev CO:List Str:=["row"]
theorem AO:FnScope CO ["row"] (A9 s_pushes_number):=fS
abbrev Y9:List Str:=["ahead","row","loads"]
theorem sc_folding_of_load:FnScope Y9 dxZ (A9 s_folding_of_load):=fS
abbrev X4:List Str:=["ahead","row"]
theorem sc_folding_of_truth:FnScope X4 cTZ (A9 s_folding_of_truth):=fS
def isN:U->Bool
 | .n _=>true
 | .b _=>false
def fAZ:Q->Bool
 | .push u=>isN u
 |_=>false
abbrev qv(q:Q):List V:=rv (tj q)
def qw(q:Q):Str:=_J.wd (tj q)
theorem qv0(q:Q):atI (qv q) 0=some (.str (qw q)):=_J.at0 (bRZ q)
theorem DG(q:Q):decide (V.str (qw q)=V.str "push")=(match q with| .push _=>true|_=>false):=by
 cases q with
 |two k=>
  have:=(GL k).2.2.1;show decide (V.str (_C.wd k)=V.str "push")=false;rw[decide_eq_false_iff_not];intro e;injection e with e;exact this e
 |push u=>exact decide_eq_true rfl
 |load s=>exact(by decide +kernel:decide (V.str "load"=V.str "push")=false)
 |keep s=>exact(by decide +kernel:decide (V.str "keep"=V.str "push")=false)
 |not=>decide +kernel
 |skip n=>exact(by decide +kernel:decide (V.str "skip"=V.str "push")=false)
 |unl n=>exact(by decide +kernel:decide (V.str "unless"=V.str "push")=false)
 |back=>decide +kernel
theorem XS:kitOne Z (.type "int") (.type "int")=some true:=by rfl
theorem ED:kitOne Z (.type "int") (.type "bool")=some false:=by rfl
theorem YW:kitOne Z (.type "bool") (.type "int")=some true:=by rfl
theorem EE:kitOne Z (.type "bool") (.type "bool")=some true:=by rfl
theorem eq2{v:V}{u:V}(h:eqV (.str z) (.str y)=false):W8 [.str z,v] [.str y,u]=false:=by
 show((eqV (.str z) (.str y)&&(eqV v u&&true))&&(2==2))=false;rw[h];rfl
theorem eq1{z y:V}{u:V}:W8 [z] [y,u]=false:=by
 show((eqV z y&&true)&&(1==2))=false;rw[show((1:Nat)==2)=false from rfl,Bool.and_false]
theorem cAZ(x:_F.Q)(s:Nat):W8 (qv x) [.str "keep",.int (s:Nat)]=decide (x=.keep s):=by
 cases x with
 |keep t=>
  show((eqV (.str "keep") (.str "keep")&&(eqV (.int (t:Nat)) (.int (s:Nat))&&true))&&(2==2))=_;rw[show eqV (.str "keep") (.str "keep")=true by decide +kernel,show((2:Nat)==2)=true from rfl,Bool.true_and,Bool.and_true,Bool.and_true];rw[Bool.eq_iff_iff,decide_eq_true_iff];constructor
  ·intro h;have:(t:Int)=(s:Int):=by simpa [eqV]using h
   have:t=s:=by omega
   rw[this]
  ·intro h;cases h;simp[eqV]
 |push u=>exact eq2 (by decide +kernel)
 |load t=>exact eq2 (by decide +kernel)
 |skip t=>exact eq2 (by decide +kernel)
 |unl t=>exact eq2 (by decide +kernel)
 |two k=>exact eq1
 |not=>exact eq1
 |back=>exact eq1
theorem IJ(x:_F.Q):(qv x).all O8=true:=by
 cases x with
 |push u=>cases u<;>rfl
 |_=>rfl
def avZ(Z:FZ)(H:Hp)(a:Addr)(r:Nat×Option Q):Prop:=∃x,SqT Z H a [.int (r.1:Nat),x]/\match r.2 with
 |none=>x=.non
 |some q=>∃b,x=.ref b/\H b=some (.tup (qv q))
section
inductive spWhW(vs:List V)(H:Hp)(Q:VK):Prop
 |mk:∀u:U,(vs=[uv u])->(Q (.bl (isN u)) H)->spWhW vs H Q
def euZ:Sp:=λvs H Q _=>spWhW vs H Q
theorem ok_is_whole(F:Fun Z "is_whole" "is_whole" s_is_whole f fd)(B:NoG mg):FnOk P w Z mg qB CX0 1 f fd Z5 euZ:=by
 refine F.ok LE (λvs H Q E h=> ?_) (λd A a s H vs Q E hr h=> ?_)
 ·obtain⟨n,rfl,_⟩:=h;rfl
 obtain⟨u,rfl,q⟩:=h;refine⟨_,(A8 (B6 (BC (F2 (Y6 (Z:=Z)) rfl B.isinstance_ D9 (A0 (pv 0) (A0 (N7 (v:=.ty "int") rfl B.int_ YQ rfl) A5))) (BG (HC (F2 (Y6 (Z:=Z)) rfl B.isinstance_ D9 (A0 (pv 0) (A0 (N7 (v:=.ty "bool") rfl B.bool_ AC rfl) A5)))))))), ?_⟩;cases u with
 |n i=>exact⟨_,rfl,_,_,_,_,rfl,.int _,XS,_,rfl,ifT rfl ⟨_,rfl,_,_,_,_,rfl,.int _,ED,_,rfl,q⟩⟩
 |b c=>exact⟨_,rfl,_,_,_,_,rfl,.bl _,YW,_,rfl,ifT rfl ⟨_,rfl,_,_,_,_,rfl,.bl _,EE,_,rfl,q⟩⟩
inductive spPNW (vs:List V) (H:Hp) (Q:VK):Prop
 |mk:∀(a:Addr) (x:_F.Q),(vs=[.ref a])->(H a=some (.tup (qv x)))->(Q (.bl (fAZ x)) H)->spPNW vs H Q
def cRZ:Sp:=λvs H Q _=>spPNW vs H Q
theorem ok_pushes_number(F:Fun Z "pushes_number" "pushes_number" s_pushes_number f fd)
  (NB:Cn P w Z mg qB CX0 1 "is_whole" Z5 euZ):
  FnOk P w Z mg qB CX0 2 f fd ["row"] cRZ:=by
 refine F.ok AO (λvs H Q E h=> ?_) (λc A b s H vs Q E hr h=> ?_)
 ·obtain⟨a,x,rfl,_⟩:=h;rfl
 obtain⟨a,x,rfl,ha,q⟩:=h;have hu:=hr.units0;refine⟨_,(A8 (B6 (BC (F7 (kEq (Z:=Z) hu) (ixE Z w (pv 0) A6) B0 rfl) (BG (cC NB hr (A0 (ixE Z w (pv 0) A6) A5)))))), ?_⟩;refine⟨_,rfl,(ixT ha (qv0 x) (.inl ⟨rfl,_,rfl, ?_⟩))⟩;rw[DG];cases x with
 |push u=>exact ifT rfl ⟨_,rfl,(ixT ha (C4 (j:=1) rfl) ⟨u,rfl,q⟩)⟩
 |_=>exact ifF nZ q
inductive spFLoadW (Z:FZ) (vs:List V) (H:Hp) (Q:VK):Prop
 |mk:∀(a b d:Addr) (x:_F.Q) (s:Nat) (kvs:List (Key×V)) (n:Nat),(vs=[.ref a,.ref b,.ref d])->(H a=some (.tup (qv x)))->(H b=some (.tup (qv (.load s))))->(H d=some (.dK kvs))->(F9 kvs (.inl (s:Int))=some (.int (n:Nat)))->(∀t H',Same H H'->avZ Z H' t (if x=.keep s/\n=1 then(2,none)else(0,none))->Q (.ref t) H')->spFLoadW Z vs H Q
def QZ(Z:FZ):Sp:=λvs H Q _=>spFLoadW Z vs H Q
theorem ok_folding_of_load{P:Program}{w:World}{mg:Str->Option Value}{qB:Heap}(F:Fun Z "folding_of_load" "folding_of_load" s_folding_of_load f fd)(TN:FE Z aN [.int 0,.non])(m_NOTHING_FOLDED:mg "NOTHING_FOLDED"=some (.ref aN)):
  FnOk P w Z mg qB CX0 1 f fd dxZ (QZ Z):=by
 refine F.ok sc_folding_of_load (λvs H Q E h=> ?_) (λg A c s H vs Q E hr h=> ?_)
 ·obtain⟨a,b,d,x,s,e,n,rfl,_⟩:=h;rfl
 obtain⟨a,b,d,x,s0,e,n,rfl,ha,hb,hd,hv,q⟩:=h;have nd:=sc_folding_of_load.nd;have hu:=hr.units0;refine⟨_,(A7 (C6 (C2 (PW.pt (R5 (B7 (cBZ (Z:=Z) hu) (pv 0) (B4 (A0 B0 (A0 (ixE Z w (pv 1) A6) A5))) rfl) (O6 (B7 (kEq (Z:=Z) hu) (QA hr.u1 (pv 2) (ixE Z w (pv 1) A6) (λ_ _=>rfl)) A6 rfl)))) (A8 (B6 (B4 (A0 A6 (A0 G9 A5))))) C0))
   (A8 (B6 (D7 (v:=.ref _) rfl m_NOTHING_FOLDED rfl)))), ?_⟩
 refine⟨fun σ' H'=>Same H H'/\¬(x=.keep s0/\n=1), ?_, ?_⟩
 ·refine⟨_,rfl,_,rfl,(ixT hb (C4 (j:=1) rfl) ⟨C3,λt ht=> ?_⟩)⟩;have st:=_B.qA ht (.tup [.str "keep",.int (s0:Nat)]);refine⟨a,t,qv x,_,rfl,rfl,SqT.of (st _ _ ha),SqT.of A4,IJ x,rfl,_,rfl, ?_⟩;show if W8 (qv x) [.str "keep",.int (s0:Nat)]=true then _ else _
  rw[cAZ];by_cases hx:x=.keep s0
  ·rw[decide_eq_true hx];refine ifT rfl ⟨_,rfl,_,rfl,(ixT (st _ _ hb) (C4 (j:=1) rfl) ⟨d,_,rfl,hv▸DGet.k (k:=.inl (s0:Int)) (st _ _ hd),.inl ⟨rfl,_,rfl, ?_⟩⟩)⟩;by_cases h1:n=1
   ·exact ifT (by rw[h1];rfl) ⟨C3,λp hp=>q p _ (st.trans (_B.qA hp _)) (by rw[if_pos ⟨hx,h1⟩];exact⟨_,SqT.of A4,rfl⟩)⟩
   ·exact ifF (by simp;omega) ⟨st,λz=>h1 z.2⟩
  ·rw[decide_eq_false hx];exact ifF (by decide) (ifF (by decide) ⟨st,λz=>hx z.1⟩)
 ·rintro σ' H' ⟨sm,hn⟩;exact q aN H' sm (by rw[if_neg hn];exact⟨_,TN H',rfl⟩)
inductive spFTruthW (Z:FZ) (vs:List V) (H:Hp) (Q:VK):Prop
 |mk:∀(a b:Addr) (x y:_F.Q),(vs=[.ref a,.ref b])->(H a=some (.tup (qv x)))->(H b=some (.tup (qv y)))->((y=.not\/∃n,y=.unl n))->(∀t H',Same H H'->avZ Z H' t (fo (λ_ _ _=> .inr 0) (λ_=>0) [y,x])->Q (.ref t) H')->spFTruthW Z vs H Q
def LJ(Z:FZ):Sp:=λvs H Q _=>spFTruthW Z vs H Q
theorem ok_folding_of_truth{mg:Str->Option Value}(F:Fun Z "folding_of_truth" "folding_of_truth" s_folding_of_truth f fd)(TN:FE Z aN [.int 0,.non])(m_NOTHING_FOLDED:mg "NOTHING_FOLDED"=some (.ref aN))
  (N0:Cn P w Z mg qB CX0 2 "pushes_number" ["row"] cRZ):
  FnOk P w Z mg qB CX0 3 f fd cTZ (LJ Z):=by
 refine F.ok sc_folding_of_truth (λvs H Q E h=> ?_) (λg A e s H vs Q E hr h=> ?_)
 ·obtain⟨a,b,x,y,rfl,_⟩:=h;rfl
 obtain⟨a,b,x,y,rfl,ha,hb,hy,q⟩:=h;have nd:=sc_folding_of_truth.nd;have hu:=hr.units0;refine⟨_,(A7 (C6 (C2 (PW.pt (V6 (B7 (kNe (Z:=Z) hu) (ixE Z w (pv 0) A6) B0 rfl) (AZ (E5 (Z:=Z) (cC N0 hr (A0 (pv 0) A5)) (λ_=>rfl))))) (A8 (B6 (D7 (v:=.ref _) rfl m_NOTHING_FOLDED rfl))) C0))
   (A7 (C2 (B7 (kEq (Z:=Z) hu) (ixE Z w (pv 1) A6) B0 rfl) (A8 (B6 (B4 (A0 A6 (A0 (B4 (A0 B0 (A0 (HC (ixE Z w (pv 0) A6)) A5))) A5))))) C0)
   (A8 (B6 (B4 (A0 A6 (A0 (J6 (E5 (Z:=Z) (ixE Z w (pv 0) A6) (λ_=>rfl)) G9 (B4 (A0 B0 (A0 (ixE Z w (pv 1) A6) A5)))) A5))))))), ?_⟩
 refine⟨fun σ' H'=>σ'=[some (.ref a),some (.ref b)]/\H=H'/\∃c,x=.push (.b c), ?_, ?_⟩
 ·refine⟨_,rfl,(ixT ha (qv0 x) (.inl ⟨rfl,_,rfl, ?_⟩))⟩;rw[DG];have d:(∀c,x≠ .push (.b c))->fo (λ_ _ _=> .inr 0) (λ_=>0) [y,x]=(0,none):=λhx=>by
   rcases hy with rfl|⟨m,rfl⟩
   all_goals
    cases x with
    |push u=>cases u with
     |n i=>rfl
     |b c=>exact absurd rfl (hx c)
    |_=>rfl
  cases x with
  |push u=>
   refine ifF nZ ⟨_,rfl,a,.push u,rfl,ha,_,rfl, ?_⟩;cases u with
   |n i=>exact ifT rfl ((q aN H (Same.refl _) (by rw[d λc z=>by cases z];exact⟨_,TN H,rfl⟩)))
   |b c=>exact ifF nZ ⟨rfl,rfl,c,rfl⟩
  |_=>exact ifT rfl (ifT rfl (q aN H (Same.refl _) (by rw[d λc z=>by cases z];exact⟨_,TN H,rfl⟩)))
 ·rintro σ' H' ⟨rfl,rfl,c,rfl⟩;rcases hy with rfl|⟨m,rfl⟩
  ·refine⟨_,rfl,(ixT hb (qv0 .not) (.inl ⟨rfl,_,rfl,ifT (by decide +kernel) ?_⟩))⟩;refine⟨_,rfl,(ixT ha (C4 (j:=1) rfl) ⟨c,rfl,C3,λt ht=>⟨C3,λp hp=> ?_⟩⟩)⟩;have st:=_B.qA ht (.tup [.str "push",.bl (!c)]);have sp:=_B.qA hp (.tup [.int 2,.ref t]);exact q p _ (st.trans sp) ⟨_,SqT.of A4,t,rfl,sp _ _ A4⟩
  ·refine⟨_,rfl,(ixT hb (qv0 (.unl m)) (.inl ⟨rfl,_,rfl,ifF (by show¬decide (V.str "unless"=V.str "not")=true;decide +kernel) ?_⟩))⟩;refine⟨_,rfl,(ixT ha (C4 (j:=1) rfl) ⟨c,rfl, ?_⟩)⟩;cases c with
   |true=>exact ifT rfl ⟨C3,λp hp=>q p _ (_B.qA hp _) ⟨_,SqT.of A4,rfl⟩⟩
   |false=>
    refine ifF (by decide) ⟨_,rfl,(ixT hb (C4 (j:=1) rfl) ⟨C3,λt ht=>⟨C3,λp hp=> ?_⟩⟩)⟩;have st:=_B.qA ht (.tup [.str "skip",.int (m:Nat)]);have sp:=_B.qA hp (.tup [.int 2,.ref t]);exact q p _ (st.trans sp) ⟨_,SqT.of A4,t,rfl,sp _ _ A4⟩
end
end _F
namespace _F
open PySem _L
open _C (Bd)
noncomputable def twc:Nat->Int->Int->U⊕Nat
 |0,x,y=>if x+y>_N.GR\/x+y< -_N.GR then .inr 1 else .inl (.n (x+y))
 |1,x,y=>if x - y>_N.GR\/x - y< -_N.GR then .inr 1 else .inl (.n (x - y))
 |2,x,y=>if x*y>_N.GR\/x*y< -_N.GR then .inr 1 else .inl (.n (x*y))
 |3,x,y=> .inl (.b (decide (x<y)))
 |4,x,y=> .inl (.b (decide (V.int x=V.int y)))
 |_,x,y=>if y=0 then .inr 0 else .inl (.n (x.fdiv y))
def rwn:Nat->Str
 |0=> "nought"
 |_=> "great"
theorem YN(k:Nat)(x y:Int):_N.tw k x y=match twc k x y with
  | .inl u=> [.str "value",uv u]
  | .inr w=> [.str "refused",.str (rwn w)]:=by
 have hb:∀z:Int,_N.bnd z=match(if z>_N.GR\/z< -_N.GR then(.inr 1:U⊕Nat)else .inl (.n z))with
   | .inl u=> [.str "value",uv u]
   | .inr w=> [.str "refused",.str (rwn w)]:=λz=>by
  unfold _N.bnd;by_cases h:z>_N.GR\/z< -_N.GR
  ·rw[if_pos h,if_pos h];rfl
  ·rw[if_neg h,if_neg h];rfl
 match k with
 |0=>exact hb _
 |1=>exact hb _
 |2=>exact hb _
 |3=>rfl
 |4=>rfl
 |k+5=>
  show _N.quo x y=match(if y=0 then(.inr 0:U⊕Nat)else .inl (.n (x.fdiv y)))with
   | .inl u=> [.str "value",uv u]
   | .inr w=> [.str "refused",.str (rwn w)]
  unfold _N.quo;by_cases h:y=0
  ·rw[if_pos h,if_pos h];rfl
  ·rw[if_neg h,if_neg h];rfl
theorem aNZ{a b:Int}(h1: -_N.GR<=a)(h2:a<=_N.GR)(hb:b≠0):Bd (a.fdiv b):=by
 have c:(a.fdiv b).natAbs<=a.natAbs:=by
  rcases Int.lt_or_gt_of_ne hb with h|h
  ·rw[<-Int.neg_fdiv_neg,Int.fdiv_eq_ediv_of_nonneg _ (by omega)];have:=Int.natAbs_ediv_le_natAbs (-a) (-b)
   rwa [Int.natAbs_neg]at this
  ·rw[Int.fdiv_eq_ediv_of_nonneg _ (by omega)];exact Int.natAbs_ediv_le_natAbs a b
 have e:_N.GR=10000000000000000000000000000000000000000:=rfl;rw[e]at h1 h2;generalize a.fdiv b=q at c⊢;constructor
 ·rw[e];omega
 ·rw[e];omega
theorem AR:Bt twc:=by
 intro k x y i hk hx hy h;have hb:∀z:Int,(if z>_N.GR\/z< -_N.GR then(.inr 1:U⊕Nat)else .inl (.n z))=.inl (.n i)->Bd i:=λz e=>by
  by_cases c:z>_N.GR\/z< -_N.GR
  ·rw[if_pos c]at e;cases e
  ·rw[if_neg c]at e;cases e;exact⟨by omega,by omega⟩
 match k with
 |0=>exact hb _ h
 |1=>exact hb _ h
 |2=>exact hb _ h
 |3=>cases h
 |4=>cases h
 |k+5=>
  have h:(if y=0 then(.inr 0:U⊕Nat)else .inl (.n (x.fdiv y)))=.inl (.n i):=h;by_cases c:y=0
  ·rw[if_pos c]at h;cases h
  ·rw[if_neg c]at h;cases h;exact aNZ hx.1 hx.2 c
end _F
namespace _F
open PySem _L
open _B hiding NoG ifT ifF top
open _C (F5 C3 E1 Bd)
open _J (NoG FE rv ifT ifF)
seal PE PT PW PA PS PSs PTs PI PG PGs PO
abbrev s_folding_of_numbers:Stmt:=top 27
abbrev s_folding:Stmt:=top 26
abbrev M7:List Str:=["last","sign","pushed","told"]
theorem sc_folding_of_numbers:FnScope M7 ["last","sign"] (A9 s_folding_of_numbers):=fS
abbrev UM:List Str:=["last","loads","word"]
theorem sc_folding:FnScope UM ["last","loads"] (A9 s_folding):=fS
def QAt(H:Hp)(q:_F.Q)(v:V):Prop:=∃a,v=.ref a/\H a=some (.tup (qv q))
theorem QAt.same(s:Same H H')(h:QAt H q v):QAt H' q v:=let⟨a,e,h1⟩:=h;⟨a,e,s _ _ h1⟩
def P5:_F.Q->Option Int
 | .push (.n i)=>some i
 |_=>none
theorem XR(xs:List V)(v:V):N1 (xs++ [v]) none (some (-1))=xs:=by
 unfold N1;have e1:HT.sIx (xs++ [v]).length (xs++ [v]).length (some (-1))=xs.length:=by
  unfold HT.sIx;rw[length_append,length_singleton];show(if(-1:Int)<0 then _ else _)=_;rw[if_pos (by decide)];omega
 rw[e1,HT.sIx_none,List.drop_zero,sub_zero,List.take_left]
theorem a4Z{tw:Nat->Int->Int->U⊕Nat}(k:Nat)(qs:List _F.Q)(h:qs.length<=2):(∃x y,qs=[.push (.n x),.push (.n y)])\/((qs.filterMap P5).length<2/\fo tw ld (.two k::qs.reverse)=(0,none)):=by
 match qs with
 | []=>exact .inr ⟨by decide,rfl⟩
 | [a]=>
  refine .inr ⟨?_, ?_⟩
  ·exact lt_of_le_of_lt (List.length_filterMap_le _ _) (lt_succ_self 1)
  ·show fo tw ld [.two k,a]=_;cases a with
   |push u=>cases u<;>rfl
   |_=>rfl
 | [a,b]=>
  have nf:∀q:_F.Q,P5 q=none\/∃i,q=.push (.n i):=λq=>by
   cases q with
   |push u=>cases u with
    |n i=>exact .inr ⟨i,rfl⟩
    |b c=>exact .inl rfl
   |_=>exact .inl rfl
  have d:∀ {o:Option Int} {l:List Int},True:=λ{_ _}=>trivial;rcases nf a with ha|⟨x,rfl⟩
  ·refine .inr ⟨?_, ?_⟩
   ·rw[List.filterMap_cons_none ha];exact lt_of_le_of_lt (List.length_filterMap_le _ _) (lt_succ_self 1)
   ·show fo tw ld [.two k,b,a]=_;cases b with
    |push u=>cases u with
     |n j=>cases a with
      |push v=>cases v with
       |n i=>cases ha
       |b c=>rfl
      |_=>rfl
     |b c=>rfl
    |_=>rfl
  ·rcases nf b with hb|⟨y,rfl⟩
   ·refine .inr ⟨?_, ?_⟩
    ·rw[List.filterMap_cons_some (show P5 (.push (.n x))=some x from rfl),List.filterMap_cons_none hb];exact lt_succ_self 1
    ·show fo tw ld [.two k,b,.push (.n x)]=_;cases b with
     |push u=>cases u with
      |n j=>cases hb
      |b c=>rfl
     |_=>rfl
   ·exact .inl ⟨x,y,rfl⟩
 |_::_::_::_=>simp at h
theorem cUZ{tw:Nat->Int->Int->U⊕Nat}(k:Nat)(r:List _F.Q):fo tw ld (.two k::r)=fo tw ld' (.two k::r):=by
 match r with
 | []=>rfl
 | [a]=>cases a with
  |push u=>cases u<;>rfl
  |_=>rfl
 |a::b::c=>cases a with
  |push u=>cases u with
   |n y=>cases b with
    |push v=>cases v with
     |n x=>cases c<;>rfl
     |b z=>rfl
    |_=>rfl
   |b z=>rfl
  |_=>rfl
theorem bHZ{tw:Nat->Int->Int->U⊕Nat}{y x:_F.Q}(r:List _F.Q)(h:y=.not\/∃n,y=.unl n):fo tw ld (y::x::r)=fo tw' ld' [y,x]:=by
 rcases h with rfl|⟨n,rfl⟩
 all_goals
  cases x with
  |push u=>cases u<;>rfl
  |_=>rfl
theorem e2Z{tw:Nat->Int->Int->U⊕Nat}{x:_F.Q}(s:Nat)(r:List _F.Q):fo tw ld (.load s::x::r)=if x=.keep s/\ld s=1 then(2,none)else(0,none):=by
 cases x with
 |keep t=>
  show(if t=s/\ld s=1 then((2:Nat),(none:Option _F.Q))else(0,none))=_;by_cases h:t=s/\ld s=1
  ·rw[if_pos h,if_pos ⟨by rw[h.1],h.2⟩]
  ·rw[if_neg h,if_neg λz=>h ⟨by injection z.1,z.2⟩]
 |_=>rw[if_neg (λz=>by cases z.1)];rfl
def noF:_F.Q->Bool
 | .push _=>true
 | .keep _=>true
 | .skip _=>true
 | .back=>true
 |_=>false
theorem dXZ{tw:Nat->Int->Int->U⊕Nat}(r:List _F.Q)(h:noF y=true):fo tw ld (y::r)=(0,none):=by
 cases y with
 |push u=>rfl
 |keep s=>rfl
 |skip n=>rfl
 |back=>rfl
 |_=>cases h
theorem WG(y:_F.Q)(h:noF y=true):(_C.RS.lookup (qw y)).isSome=false/\inV (.str (qw y)) [.str "not",.str "unless"]=false/\decide (V.str (qw y)=V.str "load")=false:=by
 have a:∀z∈(["push","keep","skip","back"]:List Str),(_C.RS.lookup z).isSome=false/\inV (.str z) [.str "not",.str "unless"]=false/\decide (V.str z=V.str "load")=false:=by decide +kernel
 cases y with
 |push u=>exact a "push" (by decide +kernel)
 |keep s=>exact a "keep" (by decide +kernel)
 |skip n=>exact a "skip" (by decide +kernel)
 |back=>exact a "back" (by decide +kernel)
 |_=>cases h
section
inductive spFNumW(Z:FZ)(vs:List V)(H:Hp)(Q:VK):Prop
 |mk:∀(l:Addr) (us:List V) (qs:List _F.Q) (k:Nat),(vs=[.ref l,.str (_N.sg k)])->(k<6)->(H l=some (.lst us))->(All2 (QAt H) (qs++ [.two k]) us)->(qs.length<=2)->((∀q∈qs,QOk q))->(∀t H',Same H H'->avZ Z H' t (fo twc (λ_=>0) (.two k::qs.reverse))->Q (.ref t) H')->spFNumW Z vs H Q
def YK(Z:FZ):Sp:=λvs H Q _=>spFNumW Z vs H Q
theorem ok_folding_of_numbers(F:Fun Z "folding_of_numbers" "folding_of_numbers" s_folding_of_numbers f fd)(B:_J.NoG mg)(TN:FE Z aN [.int 0,.non])(m_NOTHING_FOLDED:mg "NOTHING_FOLDED"=some (.ref aN))
  (N0:Cn P w Z mg qB CX0 2 "pushes_number" ["row"] cRZ)
  (W1:Cn P w Z mg qB CX0 2 "two_told" NZ _N.spTwo):
  FnOk P w Z mg qB CX0 3 f fd ["last","sign"] (YK Z):=by
 refine F.ok sc_folding_of_numbers (λvs H Q E h=> ?_) (λO A z s H vs Q E hr h=> ?_)
 ·obtain⟨l,us,qs,k,rfl,_⟩:=h;rfl
 obtain⟨l,us,qs,k,rfl,hk,hl,I,L,C,q⟩:=h;have nd:=sc_folding_of_numbers.nd;have hu:=hr.units0;have zz:(4000:Nat)<=sizeLine:=by decide
 refine⟨_,(A7 (K1 (i:=2) nd rfl rfl (cS (N:=M7) (sc:=A9 s_folding_of_numbers) (caps:=[]) (ns:=[])) rfl rfl rfl (G8 (Z:=Z) (L3 (kSl (Z:=Z)) (pv 0) O7 (M4 (K8 G2 A6)))) (λ_ _ _ _ _=>(R7 (E5 (Z:=Z) (cC N0 hr (A0 (pv 0) A5)) (λ_=>rfl)))) (λ_ _ _ _ _=>(ixE Z w (pv 0) A6)))
   (A7 (C2 (B7 GK (kL Z B.len_ (pv 2)) A6 rfl) (A8 (B6 (D7 (v:=.ref _) rfl m_NOTHING_FOLDED rfl))) C0)
   (A7 (sS 3 nd (cC W1 hr (A0 (pv 1) (A0 (ixE Z w (pv 2) A6) (A0 (ixE Z w (pv 2) A6) A5)))))
   (A8 (B6 (J6 (B7 (kEq (Z:=Z) hu) (ixE Z w (pv 3) A6) B0 rfl) (D7 (v:=.ref _) rfl m_NOTHING_FOLDED rfl) (B4 (A0 A6 (A0 (B4 (A0 B0 (A0 (ixE Z w (pv 3) A6) A5))) A5))))))))), ?_⟩
 obtain⟨vs,es,rfl,hvs,M⟩:=_M.all2_split I;cases M with
 |cons hv g=>
 cases g;rename_i v;refine⟨_,rfl,⟨1,rfl,_,rfl,.inl ⟨l,_,rfl,SqL.of hl,λp hp=> ?_⟩⟩⟩;rw[show N1 (vs++ [v]) none (some (-1))=vs from XR vs v];have s1:=_B.qA hp (.lst vs);have hp1:upd H p (.lst vs) p=some (.lst vs):=A4;replace hvs:=hvs.imp λ_ _ h=>QAt.same s1 h;generalize upd H p (.lst vs)=H1 at s1 hp1 hvs⊢;have hlen:qs.length=vs.length:=hvs.len;refine⟨p,rfl,⟨_,SqL.of hp1⟩,K4 (xs:=vs) (λi zs H'=>H1=H'/\zs=((qs.take i).filterMap P5).map V.int) ⟨rfl,rfl⟩ ?_ ?_ ?_⟩
 ·rintro i zs H' hi ⟨rfl,rfl⟩;refine⟨SqL.of hp1, ?_⟩;rw[length_map];exact le_trans (List.length_filterMap_le _ _) (le_trans (List.length_take_le ..) (by omega))
 ·rintro i y zs H' hy ⟨rfl,rfl⟩;obtain⟨x,hx,a,rfl,ha⟩:=hvs.get hy;have et:(qs.take (i+1)).filterMap P5=(qs.take i).filterMap P5++(P5 x).toList:=by
   rw[take_succ,hx,List.filterMap_append];cases hn:P5 x<;>simp[hn]
  refine⟨_,rfl,a,x,rfl,ha,_,rfl, ?_⟩;cases x with
  |push u=>cases u with
   |n j=>exact ifT rfl ⟨_,rfl,(ixT ha (C4 (j:=1) rfl) ⟨rfl,by rw[et,map_append];rfl⟩)⟩
   |b c=>exact ifF nZ ⟨rfl,by rw[et];exact(congrArg _ (append_nil _)).symm⟩
  |_=>exact ifF nZ ⟨rfl,by rw[et];exact(congrArg _ (append_nil _)).symm⟩
 rintro zs H' ⟨rfl,rfl⟩ D hD;rw[<-hlen,take_length];have s2:=_B.qA hD (.lst ((qs.filterMap P5).map V.int));have e:upd H1 D (.lst ((qs.filterMap P5).map V.int)) D=some (.lst ((qs.filterMap P5).map V.int)):=A4;show AX _ _ _ _ (upd H1 D (.lst ((qs.filterMap P5).map V.int)));generalize upd H1 D (.lst ((qs.filterMap P5).map V.int))=H2 at s2 e⊢;have o:=s1.trans s2;refine⟨_,rfl,_,_,rfl,.inl ⟨_,SqL.of e,rfl⟩,_,_,rfl,rfl,_,rfl, ?_⟩;rcases a4Z (tw:=twc) (ld:=λ_=>0) k qs L with⟨x,y,rfl⟩|⟨h2,hf⟩
 ·refine ifF (by show¬decide (((2:Nat):Int)<2)=true;decide) ?_;have bx:=(C (.push (.n x)) (by simp)).2 x rfl;have G:=(C (.push (.n y)) (by simp)).2 y rfl;refine⟨_,rfl,_,rfl,(ixL e rfl ?_)⟩;refine⟨_,rfl,(ixL e rfl ?_)⟩;refine⟨k,x,y,rfl,hk,bx.mul G, ?_,λr H3 s3 d=> ?_⟩
  ·exact G.log
  rw[YN]at d;have m:=o.trans s3;cases ht:twc k x y with
  |inl u=>
   rw[ht]at d;refine⟨_,rfl,(ixT d rfl (.inl ⟨rfl,_,rfl,ifF (by decide +kernel) ?_⟩))⟩;refine⟨_,rfl,(ixT d (C4 (j:=1) rfl) ⟨C3,λt J=>⟨C3,λp hp=> ?_⟩⟩)⟩;have st:=_B.qA J (.tup [.str "push",uv u]);have sp:=_B.qA hp (.tup [.int 3,.ref t]);refine q p _ ((m.trans st).trans sp) ?_;have:fo twc (λ_=>0) (.two k:: [_F.Q.push (.n x),.push (.n y)].reverse)=(3,some (.push u)):=by
    show(match twc k x y with| .inl u=>(3,some (_F.Q.push u))| .inr _=>(0,none))=_;rw[ht]
   rw[this];exact⟨_,SqT.of A4,t,rfl,sp _ _ A4⟩
  |inr w0=>
   rw[ht]at d;refine⟨_,rfl,(ixT d rfl (.inl ⟨rfl,_,rfl,ifT (by decide +kernel) ?_⟩))⟩;refine q aN _ m ?_;have:fo twc (λ_=>0) (.two k:: [_F.Q.push (.n x),.push (.n y)].reverse)=(0,none):=by
    show(match twc k x y with| .inl u=>(3,some (_F.Q.push u))| .inr _=>(0,none))=_;rw[ht]
   rw[this];exact⟨_,TN _,rfl⟩
 ·refine ifT (by rw[length_map];exact decide_eq_true (by omega)) (q aN _ o (by rw[hf];exact⟨_,TN _,rfl⟩))
inductive spFoldingW (Z:FZ) (vs:List V) (H:Hp) (Q:VK):Prop
 |mk:∀(l d:Addr) (us:List V) (qs:List _F.Q) (kvs:List (Key×V)) (ld:Nat->Nat),(vs=[.ref l,.ref d])->(H l=some (.lst us))->(All2 (QAt H) qs us)->(qs.length<=3)->(1<=qs.length)->((∀q∈qs,QOk q))->(H d=some (.dK kvs))->((∀s:Nat,_F.Q.load s∈qs->F9 kvs (.inl (s:Int))=some (.int (ld s:Nat))))->(∀t H',Same H H'->avZ Z H' t (fo twc ld qs.reverse)->Q (.ref t) H')->spFoldingW Z vs H Q
def FR(Z:FZ):Sp:=λvs H Q _=>spFoldingW Z vs H Q
theorem ok_folding(F:Fun Z "folding" "folding" s_folding f fd)(B:_J.NoG mg)(TN:FE Z aN [.int 0,.non])(m_NOTHING_FOLDED:mg "NOTHING_FOLDED"=some (.ref aN))(TD:TopD w Z aR _C.RS)(m_ROW_SIGNS:mg "ROW_SIGNS"=some (.ref aR))
  (T4:Cn P w Z mg qB CX0 3 "folding_of_numbers" ["last","sign"] (YK Z))
  (W0:Cn P w Z mg qB CX0 3 "folding_of_truth" cTZ (LJ Z))
  (X6:Cn P w Z mg qB CX0 1 "folding_of_load" dxZ (QZ Z)):
  FnOk P w Z mg qB CX0 4 f fd ["last","loads"] (FR Z):=by
 refine F.ok sc_folding (λvs H Q E h=> ?_) (λN A D s H vs Q E hr h=> ?_)
 ·obtain⟨l,d,us,qs,G,ld,rfl,_⟩:=h;rfl
 obtain⟨l,d,us,qs,G,ld,rfl,hl,o,h3,h1,I,hd,L,q⟩:=h;have nd:=sc_folding.nd;have hu:=hr.units0;have zz:(4000:Nat)<=sizeLine:=by decide
 have j:qs.length=us.length:=o.len;refine⟨_,(A7 (C2 (B7 GK (kL Z B.len_ (pv 0)) A6 rfl) (A8 (B6 (D7 (v:=.ref _) rfl m_NOTHING_FOLDED rfl))) C0)
   (A7 (sS 2 nd (ixE Z w (ixE Z w (pv 0) (K8 G2 A6)) A6))
   (A7 (C2 (B7 (kIn (Z:=Z) (w:=w)) (pv 2) (D7 (v:=.ref _) rfl m_ROW_SIGNS rfl) rfl) (A8 (B6 (cC T4 hr (A0 (pv 0) (A0 (ixE Z w (D7 (v:=.ref _) rfl m_ROW_SIGNS rfl) (pv 2)) A5))))) C0)
   (A7 (C2 (B7 (kIn (Z:=Z) (w:=w)) (pv 2) (B4 (A0 B0 (A0 B0 A5))) rfl) (A8 (B6 (cC W0 hr (A0 (ixE Z w (pv 0) (K8 G2 A6)) (A0 (ixE Z w (pv 0) (K8 G2 A6)) A5))))) C0)
   (A7 (C2 (B7 (kEq (Z:=Z) hu) (pv 2) B0 rfl) (A8 (B6 (cC X6 hr (A0 (ixE Z w (pv 0) (K8 G2 A6)) (A0 (ixE Z w (pv 0) (K8 G2 A6)) (A0 (pv 1) A5)))))) C0)
   (A8 (B6 (D7 (v:=.ref _) rfl m_NOTHING_FOLDED rfl)))))))), ?_⟩
 refine⟨_,rfl,_,us.length,rfl,.inl ⟨_,SqL.of hl,rfl⟩,_,_,rfl,rfl,_,rfl, ?_⟩;by_cases h2:us.length<2
 ·refine ifT (decide_eq_true (by omega)) (q aN H (Same.refl _) ?_);have:fo twc ld qs.reverse=(0,none):=by
   match qs,h1,j with
   | [x],_,_=>exact fo1 x
   |_::_::r,_,e=>simp at e;omega
  rw[this];exact⟨_,TN H,rfl⟩
 refine ifF (by rw[decide_eq_true_iff];omega) ?_;obtain⟨g,x,y,rfl,J⟩:∃g x y,qs=g++ [x,y]/\g.length<=1:=by
  match qs,h1,h3,j with
  | [a],_,_,e=>simp at e;omega
  | [a,b],_,_,_=>exact⟨[],a,b,rfl,by decide⟩
  | [a,b,c],_,_,_=>exact⟨[a],b,c,rfl,le_refl _⟩
  |_::_::_::_::r,_,e,_=>simp at e
 obtain⟨vp,ve,rfl,M,i⟩:=_M.all2_split o;cases i with
 |cons hx i=>
 cases i with
 |cons hy i=>
 cases i;rename_i vx vy;obtain⟨ax,rfl,hax⟩:=id hx;obtain⟨ay,rfl,hay⟩:=id hy;have at1:atI (vp++ [.ref ax,.ref ay]) (-1)=some (V.ref ay):=by
  have:=K7 (vp++ [V.ref ax]) (V.ref ay)
  rwa [List.append_assoc]at this
 have C:atI (vp++ [.ref ax,.ref ay]) (-2)=some (V.ref ax):=by
  have e:ixN (vp++ [V.ref ax,V.ref ay]).length (-2)=some vp.length:=by
   unfold ixN;rw[length_append,show([V.ref ax,V.ref ay]:List V).length=2 from rfl,if_neg (by decide),if_pos (by omega)];congr 1;omega
  unfold atI;rw[e];show(vp++ [V.ref ax,V.ref ay])[vp.length]? =_;rw[getElem?_append_right (le_refl _),sub_self];rfl
 refine⟨_,rfl,_,rfl,(ixL hl at1 (ixT hay (qv0 y) ?_))⟩;have p:(g++ [x,y]).reverse=y::x::g.reverse:=by rw[reverse_append];rfl
 rw[p]at q;have m:All2 (QAt H) (g++ [x,y]) (vp++ [.ref ax,.ref ay]):=o;by_cases hn:noF y=true
 ·obtain⟨n1,n2,n3⟩:=WG y hn;refine⟨_,rfl,.inr (.inr ⟨_,aR,_C.RS,rfl,rfl,TD,_,rfl,ifF (by rw[n1];decide) ?_⟩)⟩;refine⟨_,rfl,C3,λt ht=> .inr (.inl ⟨t,_,rfl,.inr (SqT.of A4),rfl,rfl,_,rfl, ?_⟩)⟩;show if inV (.str (qw y)) [.str "not",.str "unless"]=true then _ else _
  rw[n2];refine ifF (by decide) ⟨_,rfl,.inl ⟨rfl,_,rfl,ifF (by rw[n3];decide) ?_⟩⟩;exact q aN _ (_B.qA ht _) (by rw[dXZ _ hn];exact⟨_,TN _,rfl⟩)
 cases y with
 |push u=>exact absurd rfl hn
 |keep s=>exact absurd rfl hn
 |skip n=>exact absurd rfl hn
 |back=>exact absurd rfl hn
 |two k=>
  have hk:k<6:=(I (.two k) (by simp)).1 k rfl;refine⟨_,rfl,.inr (.inr ⟨_,aR,_C.RS,rfl,rfl,TD,_,rfl,ifT (_C.wd_in k) ?_⟩)⟩;refine⟨_,rfl,_,rfl,.inr (.inr (.inr ⟨_,_,_C.RS,_,rfl,rfl,TD,_C.rs_at hk,l,_,g++ [x],k,rfl,hk,hl, ?_,by rw[length_append];show g.length+1<=2;omega,λz hz=>I z ?_,λt H' sm ft=>q t H' sm ?_⟩))⟩
  ·rw[List.append_assoc];exact m
  ·rcases mem_append.mp hz with z1|z1
   ·exact mem_append_left _ z1
   ·rw[sZ z1];simp
  ·rw[reverse_append]at ft;rw[cUZ (ld':=λ_=>0)];exact ft
 |load s=>
  refine⟨_,rfl,.inr (.inr ⟨_,aR,_C.RS,rfl,rfl,TD,_,rfl,ifF (by show¬(_C.RS.lookup ("load":Str)).isSome=true;decide +kernel) ?_⟩)⟩;refine⟨_,rfl,C3,λt ht=> .inr (.inl ⟨t,_,rfl,.inr (SqT.of A4),rfl,rfl,_,rfl,ifF (by show¬inV (.str "load") [.str "not",.str "unless"]=true;decide +kernel) ?_⟩)⟩;have st:=_B.qA ht (.tup [.str "not",.str "unless"]);refine⟨_,rfl,.inl ⟨rfl,_,rfl,ifT (by show decide (V.str "load"=V.str "load")=true;decide +kernel) ?_⟩⟩;refine⟨_,rfl,_,rfl,(ixL (st _ _ hl) C ?_)⟩;refine⟨_,rfl,_,rfl,(ixL (st _ _ hl) at1 ?_)⟩;refine⟨_,rfl,ax,ay,d,x,s,G,ld s,rfl,st _ _ hax,st _ _ hay,st _ _ hd,L s (by simp),λt H' sm ft=>q t H' (st.trans sm) ?_⟩;rw[e2Z];exact ft
 |not=>
  refine⟨_,rfl,.inr (.inr ⟨_,aR,_C.RS,rfl,rfl,TD,_,rfl,ifF (by decide +kernel) ?_⟩)⟩;refine⟨_,rfl,C3,λt ht=> .inr (.inl ⟨t,_,rfl,.inr (SqT.of A4),rfl,rfl,_,rfl,ifT (by show inV (.str "not") [.str "not",.str "unless"]=true;decide +kernel) ?_⟩)⟩;have st:=_B.qA ht (.tup [.str "not",.str "unless"]);refine⟨_,rfl,_,rfl,(ixL (st _ _ hl) C ?_)⟩;refine⟨_,rfl,_,rfl,(ixL (st _ _ hl) at1 ?_)⟩;refine⟨ax,ay,x,.not,rfl,st _ _ hax,st _ _ hay,.inl rfl,λt H' sm ft=>q t H' (st.trans sm) ?_⟩;rw[bHZ _ (.inl rfl)];exact ft
 |unl n=>
  refine⟨_,rfl,.inr (.inr ⟨_,aR,_C.RS,rfl,rfl,TD,_,rfl,ifF (by show¬(_C.RS.lookup ("unless":Str)).isSome=true;decide +kernel) ?_⟩)⟩;refine⟨_,rfl,C3,λt ht=> .inr (.inl ⟨t,_,rfl,.inr (SqT.of A4),rfl,rfl,_,rfl,ifT (by show inV (.str "unless") [.str "not",.str "unless"]=true;decide +kernel) ?_⟩)⟩;have st:=_B.qA ht (.tup [.str "not",.str "unless"]);refine⟨_,rfl,_,rfl,(ixL (st _ _ hl) C ?_)⟩;refine⟨_,rfl,_,rfl,(ixL (st _ _ hl) at1 ?_)⟩;refine⟨ax,ay,x,.unl n,rfl,st _ _ hax,st _ _ hay,.inr ⟨n,rfl⟩,λt H' sm ft=>q t H' (st.trans sm) ?_⟩;rw[bHZ _ (.inr ⟨n,rfl⟩)];exact ft
end
end _F
namespace _F
open PySem _L
open _B hiding NoG ifT ifF top
open _C (F5 C3 E1 Bd)
open _J (NoG FE rv ifT ifF RowsAt iv)
seal PE PT PW PA PS PSs PTs PI PG PGs PO
abbrev s_loads_of_slots:Stmt:=top 23
abbrev s_pieces:Stmt:=top 24
abbrev AQ:List Str:=["rows","loads","row"]
theorem sc_loads_of_slots:FnScope AQ M8 (A9 s_loads_of_slots):=fS
abbrev KO:List Str:=["rows","led_to","found","number"]
theorem sc_pieces:FnScope KO M8 (A9 s_pieces):=fS
theorem aGZ(q:_F.Q):decide (V.str (qw q)=V.str "load")=(match q with| .load _=>true|_=>false):=by
 cases q with
 |two k=>
  have:=(GL k).2.2.2.1;show decide (V.str (_C.wd k)=V.str "load")=false;rw[decide_eq_false_iff_not];intro e;injection e with e;exact this e
 |load u=>exact(by decide +kernel:decide (V.str "load"=V.str "load")=true)
 |push s=>exact(by decide +kernel:decide (V.str "push"=V.str "load")=false)
 |keep s=>exact(by decide +kernel:decide (V.str "keep"=V.str "load")=false)
 |skip s=>exact(by decide +kernel:decide (V.str "skip"=V.str "load")=false)
 |unl s=>exact(by decide +kernel:decide (V.str "unless"=V.str "load")=false)
 |not=>decide +kernel
 |back=>decide +kernel
theorem U8{rs:List _F.Q}(h:RowsAt H p (rs.map tj)):∃us:List V,H p=some (.tup us)/\All2 (QAt H) rs us:=by
 obtain⟨us,h1,h2,_,h4⟩:=h;refine⟨us,h1, ?_⟩;rw[length_map]at h2;have c:∀(rs:List _F.Q) (us:List V),us.length=rs.length->(∀(i:Nat) (q:_F.Q),rs[i]? =some q->∃a:Addr,us[i]? =some (V.ref a)/\H a=some (.tup (qv q)))->All2 (QAt H) rs us:=by
  intro rs;induction rs with
  |nil=>intro us hl _;cases us with
   |nil=>exact .nil
   |cons _ _=>cases hl
  |cons q r ih=>
   intro us hl hh;cases us with
   |nil=>cases hl
   |cons u us=>
    obtain⟨a,ea,ha⟩:=hh 0 q rfl;cases ea;exact .cons ⟨a,rfl,ha⟩ (ih us (by simpa using hl) λi q hq=>by
     obtain⟨b,eb,hb⟩:=hh (i+1) q (by simpa using hq);exact⟨b,by simpa using eb,hb⟩)
 exact c rs us h2 λi q hq=>h4 i (tj q) (BU hq)
def gls(rs:List _F.Q)(n:Nat):List Nat:=(List.range n).filterMap λa=>gn (atq rs a) a
theorem KR(rs:List _F.Q)(n:Nat):gls rs (n+1)=gls rs n++(gn (atq rs n) n).toList:=by
 unfold gls;rw[range_succ,List.filterMap_append];cases h:gn (atq rs n) n<;>simp[h]
theorem dAZ(rs:List _F.Q)(t:Nat):(gls rs rs.length).contains t=isG rs t:=by
 rw[Bool.eq_iff_iff,contains_iff_mem];unfold gls isG;rw[mem_filterMap,List.any_eq_true];constructor
 ·rintro⟨a,h1,h2⟩;exact⟨a,h1,decide_eq_true h2⟩
 ·rintro⟨a,h1,h2⟩;exact⟨a,h1,of_decide_eq_true h2⟩
theorem KD(rs:List _F.Q):∀n,(G3 rs n).1.length<=n/\(G3 rs n).2.length<=n
 |0=>⟨le_refl _,le_refl _⟩
 |n+1=>by
  have ih:=KD rs n;rw[G3];split
  ·exact⟨by rw[length_append];show(G3 rs n).1.length+1<=n+1;omega,by show 1<=n+1;omega⟩
  ·exact⟨by show(G3 rs n).1.length<=n+1;omega,by show((G3 rs n).2++ [n]).length<=n+1;rw[length_append];show(G3 rs n).2.length+1<=n+1;omega⟩
theorem HX(gs:List Nat)(i:Nat):iv gs++ [V.int (i:Nat)]=iv (gs++ [i]):=by unfold iv;rw[map_append];rfl
theorem DT{α β:Type}{R S:α->β->Prop}{as:List α}{bs:List β}(h:All2 R as bs):(∀a b,b∈bs->R a b->S a b)->All2 S as bs:=by
 induction h with
 |nil=>intro _;exact .nil
 |cons r _ ih=>intro f;exact .cons (f _ _ (mem_cons_self ..) r) (ih λa b hb=>f a b (mem_cons_of_mem _ hb))
theorem ER{α β:Type}{R:α->β->Prop}{as as':List α}{bs bs':List β}(h:All2 R as bs)(h':All2 R as' bs'):All2 R (as++as') (bs++bs'):=by
 induction h with
 |nil=>exact h'
 |cons r _ ih=>exact .cons r ih
def c3Z(H:Hp)(ns:List Nat)(v:V):Prop:=∃a,v=.ref a/\H a=some (.lst (iv ns))
theorem XC{H:Hp}{p:Addr}{rs:List _F.Q}(h1:H p=some (.tup us))(h:All2 (QAt H) rs us):RowsAt H p (rs.map tj):=by
 have hl:rs.length=us.length:=h.len;refine⟨us,h1,by rw[length_map];exact hl.symm,λr hr=> ?_,λi r hr=> ?_⟩
 ·obtain⟨q,_,rfl⟩:=mem_map.mp hr;exact bRZ q
 ·obtain⟨q,hq,rfl⟩:=RD hr;obtain⟨u,hu,a,rfl,ha⟩:=_M.all2_get h hq;exact⟨a,hu,ha⟩
section
def TR(rs:List _F.Q)(kvs:List (Key×V)):Prop:=∀s:Nat,F9 kvs (.inl (s:Int))=if rs.count (.load s)=0 then none else some (.int (rs.count (.load s):Nat))
inductive spLoadsW (vs:List V) (H:Hp) (Q:VK):Prop
 |mk:∀(p:Addr) (rs:List _F.Q),(vs=[.ref p])->(RowsAt H p (rs.map tj))->(rs.length<=1000)->(∀d kvs H',Same H H'->H d=none->H' d=some (.dK kvs)->TR rs kvs->Q (.ref d) H')->spLoadsW vs H Q
def PQ:Sp:=λvs H Q _=>spLoadsW vs H Q
theorem ok_loads_of_slots(F:Fun Z "loads_of_slots" "loads_of_slots" s_loads_of_slots f fd):FnOk P w Z mg qB CX0 1 f fd M8 PQ:=by
 refine F.ok sc_loads_of_slots (λvs H Q E h=> ?_) (λC A r s H vs Q E hr h=> ?_)
 ·obtain⟨p,rs,rfl,_⟩:=h;rfl
 obtain⟨p,rs,rfl,hR,hn,q⟩:=h;have nd:=sc_loads_of_slots.nd;have hu:=hr.units0;have zz:(4000:Nat)<=sizeLine:=by decide
 obtain⟨us,hp,hA⟩:=U8 hR;have m:rs.length=us.length:=hA.len;refine⟨_,(A7 (sS 1 nd KS)
   (A7 (C6 (L4 PassesOwn.never rfl (EN (Z:=Z) (pv 0)) (gN 2 nd) (A8 (C6 (C2 (B7 (kEq (Z:=Z) hu) (ixE Z w (pv 2) A6) B0 rfl) (A8 (P0 (B8 L5 (WR hr.u1 (pv 1) (ixE Z w (pv 2) A6) A6 ⟨rfl,rfl,rfl,rfl⟩) A6) (P1 (pv 1) (ixE Z w (pv 2) A6) (Y7 hr.units)))) C0)))))
   (A8 (B6 (pv 1))))), ?_⟩
 refine λd hd=> ?_;have u:p≠d:=B9 hp hd;refine⟨fun σ H'=>∃z g,σ=[some (.ref p),some (.ref d),z]/\Same H H'/\H' d=some (.dK g)/\TR rs g, ?_, ?_⟩
 ·refine⟨_,rfl,p,rfl,⟨_,SqT.of (by rw[B5 u];exact hp)⟩,aZZ (xs:=us) (λi σ H'=>∃z g,σ=[some (.ref p),some (.ref d),z]/\Same H H'/\H' d=some (.dK g)/\g.length<=i/\TR (rs.take i) g) ?_ ?_ ?_ ?_⟩
  ·exact⟨none,[],rfl,_B.qA hd _,A4,le_refl _,λs=>rfl⟩
  ·rintro i σ H' _ ⟨z,g,rfl,sm,_⟩;exact SqT.of (sm _ _ hp)
  ·rintro i x σ H' hx ⟨z,g,rfl,sm,l,t,hL⟩;have hi:i<us.length:=(List.getElem?_eq_some_iff.mp hx).1;obtain⟨y,hy,a,rfl,ha⟩:=hA.get hx;have n:=sm _ _ ha;have et:∀s,(rs.take (i+1)).count (.load s)=(rs.take i).count (.load s)+if y=.load s then 1 else 0:=λs=>by
    rw[take_succ,hy,count_append];show _+List.count (_F.Q.load s) [y]=_;rw[List.count_singleton];by_cases e:y=.load s
    ·rw[if_pos e,e];simp
    ·rw[if_neg e];simp[e]
   refine⟨fun σ H'=>∃z g,σ=[some (.ref p),some (.ref d),z]/\Same H H'/\H' d=some (.dK g)/\g.length<=i+1/\TR (rs.take (i+1)) g, ?_,λ_ _ h=>h⟩;refine⟨_,rfl,(ixT n (qv0 y) (.inl ⟨rfl,_,rfl, ?_⟩))⟩;rw[aGZ];have no:(∀s,y≠ .load s)->TR (rs.take (i+1)) g:=λhn s=>by rw[et s,if_neg (hn s)];exact hL s
   cases y with
   |load s0=>
    refine ifT rfl ⟨_,rfl,d,rfl,.inl ⟨_,.inl l⟩,_,rfl,(ixT n (C4 (j:=1) rfl) ⟨_,DGet.k (k:=.inl (s0:Int)) l, ?_⟩)⟩;have hv:=hL s0;obtain⟨c,B,v⟩:∃c:Nat,(F9 g (.inl (s0:Int))).getD (.int 0)=.int (c:Nat)/\c=(rs.take i).count (.load s0):=by
     rw[hv];by_cases e:(rs.take i).count (.load s0)=0
     ·rw[if_pos e];exact⟨0,rfl,e.symm⟩
     ·rw[if_neg e];exact⟨_,rfl,rfl⟩
    rw[B];refine .inl ⟨_,_,rfl,rfl,_,rfl,_,rfl,(ixT n (C4 (j:=1) rfl) ⟨d,_,rfl,.inl ⟨g,.inl (s0:Int),l,rfl,by omega,rfl⟩, ?_⟩)⟩;refine⟨_,_,rfl,λb o h=> ?_,A4,le_trans (K3 ..) (by omega),λs=> ?_⟩
    ·rw[B5 (λe=>by rw[e,hd]at h;cases h)];exact sm _ _ h
    ·rw[ES,et s];by_cases e:s=s0
     ·subst e;rw[if_pos rfl,if_pos rfl,if_neg (by omega),v];congr 2
     ·have e1:(Sum.inl (s:Int):Key)≠Sum.inl (s0:Int):=λz=>e (by have:=Sum.inl.inj z;omega);have e2:_F.Q.load s0≠ .load s:=λz=>e (by injection z with z;exact z.symm);rw[if_neg e1,if_neg e2];exact hL s
   |_=>exact ifF nZ ⟨_,_,rfl,sm,l,by omega,no λs z=>by cases z⟩
  ·rintro σ H' ⟨z,g,rfl,sm,l,t,hL⟩;rw[<-m,take_length]at hL;exact⟨z,g,rfl,sm,l,hL⟩
 ·rintro σ H' ⟨z,g,rfl,sm,l,hL⟩;exact⟨_,rfl,q d g H' sm hd l hL⟩
inductive spPiecesW (vs:List V) (H:Hp) (Q:VK):Prop
 |mk:∀(p:Addr) (rs:List _F.Q),(vs=[.ref p])->(RowsAt H p (rs.map tj))->(rs.length<=1000)->(∀l us H',Same H H'->H l=none->H' l=some (.lst us)->All2 (c3Z H') (pcs rs) us->(∀v∈us,∃a,v=.ref a/\H a=none/\a≠l)->Q (.ref l) H')->spPiecesW vs H Q
def LY:Sp:=λvs H Q _=>spPiecesW vs H Q
structure PcI (H:Hp) (rs:List _F.Q) (D:List (List Nat)) (c:List Nat) (d fl:Addr) (kvs:List (Key×V)) (H':Hp):Prop where
 sm:Same H H'
 d:H' d=some (.dK kvs)
 ex:∃(us:List V) (ca:Addr),H' fl=some (.lst (us++ [.ref ca]))/\All2 (c3Z H') D us/\H' ca=some (.lst (iv c))/\H ca=none/\ca≠fl/\∀v∈us,∃a,v=.ref a/\H a=none/\a≠fl/\a≠ca/\∃xs,H' a=some (.lst xs)
theorem ok_pieces(F:Fun Z "pieces" "pieces" s_pieces f fd)(B:_J.NoG mg)
  (Y0:Cn P w Z mg qB CX0 1 "goals" M8 _J.spGoals):
  FnOk P w Z mg qB CX0 2 f fd M8 LY:=by
 refine F.ok sc_pieces (λvs H Q E h=> ?_) (λah A J s H vs Q E hr h=> ?_)
 ·obtain⟨p,rs,rfl,_⟩:=h;rfl
 obtain⟨p,rs,rfl,hR,hn,q⟩:=h;have nd:=sc_pieces.nd;have hu:=hr.units0;have zz:(4000:Nat)<=sizeLine:=by decide
 obtain⟨G,U,ac⟩:=U8 hR;have W:rs.length=G.length:=ac.len;refine⟨_,(A7 (sS 1 nd (E6 (HV (Z:=Z) rfl) rfl B.dict_ HY (A0 (L6 (cS (N:=KO) (sc:=A9 s_pieces) (caps:=[]) (ns:=[])) rfl rfl rfl (G8 (Z:=Z) (cC Y0 hr (A0 (pv 0) A5))) (λ_ _ _ _ _=>(R7 (B7 DD (pv 0) G9 rfl))) (λ_ _ _ _ _=>(B4 (A0 (pv 0) (A0 K2 A5))))) A5)))
   (A7 (sS 2 nd (C8 (A0 (C8 A5) A5)))
   (A7 (C6 (L4 PassesOwn.never rfl (F4 rfl B.range_ (A0 (kL Z B.len_ (pv 0)) A5)) (gN 3 nd) (A7 (C6 (C2 (B7 (d8Z hr.units) (pv 3) (pv 1) rfl) (A8 (E4 (aP Z (pv 2) (C8 A5)))) C0))
   (A8 (E4 (aP Z (ixE Z w (pv 2) (K8 G2 A6)) (pv 3)))))))
   (A8 (B6 (pv 2)))))), ?_⟩
 refine⟨_,rfl,p,rs.map tj,rfl,hR,by rw[length_map];exact hn,λlg H1 s1 af L=> ?_⟩;have aa:∀i,i<rs.length->(_J.glsV (rs.map tj))[i]? =some (_J.gl (tj (atq rs i)) i):=λi hi=>_J.glsV_at (BU (G5 hi));have l:(_J.glsV (rs.map tj)).length=rs.length:=by rw[_J.glsV_len,length_map]
 refine⟨lg,rfl,⟨_,SqL.of L⟩,K4 (xs:=_J.glsV (rs.map tj)) (λi zs H'=>Same H1 H'/\PrV H' zs (_J.gd (gls rs i))/\zs.length<=i) ⟨Same.refl _,rfl,le_refl _⟩ ?_ ?_ ?_⟩
 ·rintro i zs H' hi ⟨s2,_,h2⟩;exact⟨SqL.of (s2 _ _ L),by omega⟩
 ·rintro i x zs H' hx ⟨s2,hP,h2⟩;have hi:i<rs.length:=by rw[<-l];exact(List.getElem?_eq_some_iff.mp hx).1
  rw[aa i hi]at hx;cases hx;have eg:_J.gn (tj (atq rs i)) i=gn (atq rs i) i:=EX _ _;unfold _J.gl;rw[eg];cases hg:gn (atq rs i) i with
  |none=>
   refine⟨_,rfl,rfl,_,rfl,ifF (by decide) ⟨s2, ?_,by omega⟩⟩;rw[KR,hg];show PrV H' zs (_J.gd (gls rs i++ []));rw[append_nil];exact hP
  |some j=>
   refine⟨_,rfl,rfl,_,rfl,ifT rfl ⟨_,rfl,C3,λt ht=> ?_⟩⟩;have st:=_B.qA ht (.tup [.int (j:Nat),.bl true]);refine⟨s2.trans st, ?_,by rw[length_append];show zs.length+1<=i+1;omega⟩;rw[KR,hg];have e:_J.gd (gls rs i++ [j])=_J.gd (gls rs i)++ [((Sum.inl (j:Int):Key),V.bl true)]:=by unfold _J.gd;rw[map_append];rfl
   show PrV _ _ (_J.gd (gls rs i++ [j]));rw[e];exact _J.prV_snoc (k:=.inl (j:Int)) A4 (_J.prV_same st hP)
 rintro zs H2 ⟨s2,hP,ad⟩ D0 ab;rw[l]at hP;have sD:=_B.qA ab (.lst zs);refine⟨D0,zs,_J.gd (gls rs rs.length),rfl,SqL.of A4,_J.prV_same sD hP,λd hd=> ?_⟩;have s3:=s1.trans (s2.trans (sD.trans (_B.qA hd (.dK (D3 [] (_J.gd (gls rs rs.length)))))));have r:upd (upd H2 D0 (.lst zs)) d (.dK (D3 [] (_J.gd (gls rs rs.length)))) d=some (.dK (D3 [] (_J.gd (gls rs rs.length)))):=A4;show AX _ _ _ _ (upd (upd H2 D0 (.lst zs)) d (.dK (D3 [] (_J.gd (gls rs rs.length)))));generalize upd (upd H2 D0 (.lst zs)) d (.dK (D3 [] (_J.gd (gls rs rs.length))))=H3 at s3 r⊢;refine⟨(by show 0<=sizeLine;decide),λc0 M=>⟨F5,λfl C=> ?_⟩⟩;have s4:=_B.qA M (.lst []);have s5:=_B.qA C (.lst [.ref c0]);have m:H3 fl=none:=s4.free C;have O:c0≠fl:=λe=>by rw[<-e,A4]at C;cases C
 have I0:PcI H rs (G3 rs 0).1 (G3 rs 0).2 d fl (D3 [] (_J.gd (gls rs rs.length))) (upd (upd H3 c0 (.lst [])) fl (.lst [.ref c0])):=by
  refine⟨s3.trans (s4.trans s5),s5 _ _ (s4 _ _ r),[],c0,A4,.nil,s5 _ _ A4,s3.free M,O,λv hv=>nomatch hv⟩
 generalize upd (upd H3 c0 (.lst [])) fl (.lst [.ref c0])=H5 at I0⊢;have u:H fl=none:=s3.free m;have R:d≠fl:=λe=>by rw[e,m]at r;cases r
 generalize X:D3 [] (_J.gd (gls rs rs.length))=y at I0 r;have Y:∀i:Nat,(F9 y (.inl (i:Int))).isSome=isG rs i:=λi=>by rw[<-X,_J.gd_here,dAZ]
 refine⟨fun σ H'=>∃z,σ=[some (.ref p),some (.ref d),some (.ref fl),z]/\PcI H rs (G3 rs rs.length).1 (G3 rs rs.length).2 d fl y H', ?_, ?_⟩
 ·refine⟨_,rfl,_,_,rfl,.inr ⟨_,SqT.of (I0.sm _ _ U),rfl⟩,_,rfl,by omega,by omega,N8 (n:=G.length) (λi σ H'=>∃z,σ=[some (.ref p),some (.ref d),some (.ref fl),z]/\PcI H rs (G3 rs i).1 (G3 rs i).2 d fl y H') ⟨none,rfl,I0⟩ ?_ ?_⟩
  ·rintro i σ H' hi ⟨z,rfl,I⟩;rw[Int.zero_add];have T:=KD rs i;refine⟨fun σ' H'=>∃D c,σ'=[some (.ref p),some (.ref d),some (.ref fl),some (.int (i:Nat))]/\PcI H rs D c d fl y H'/\G3 rs (i+1)=(D,c++ [i])/\D.length<=i+1/\c.length<=i, ?_, ?_⟩
   ·refine⟨_,rfl,_,rfl,d,_,rfl,DGet.k (k:=.inl (i:Int)) I.d,_,rfl, ?_⟩;rw[Y];cases hb:isG rs i
    ·refine ifF nZ ⟨_,_,rfl,I, ?_,by omega,T.2⟩;rw[G3,if_neg (by rw[hb];decide)]
    ·obtain⟨us,ca,h1,h2,h3,h4,h5,h6⟩:=I.ex;have ae:(G3 rs i).1.length=us.length:=h2.len;refine ifT rfl ⟨_,rfl,.inl ⟨rfl,_,SqL.of h1⟩,(by show 0<=sizeLine;decide),λc1 g=> ?_⟩;have sc:=_B.qA g (.lst []);have nc:c1≠fl:=λe=>by rw[e,h1]at g;cases g
     refine⟨fl,_,_,rfl,rfl,sc _ _ h1,by rw[length_append];show us.length+1+1<=_;omega,(G3 rs i).1++ [(G3 rs i).2],[],rfl,⟨?_, ?_,us++ [.ref ca],c1,A4, ?_, ?_,I.sm.free g,nc, ?_⟩, ?_, ?_,zero_le _⟩
     ·exact λb o h=>by rw[B5 (λe=>by rw[e,u]at h;cases h)];exact sc _ _ (I.sm _ _ h)
     ·rw[B5 R];exact sc _ _ I.d
     ·refine ER (DT h2 λns v hv h=> ?_) (.cons ⟨ca,rfl, ?_⟩ .nil)
      ·obtain⟨a,e1,e2,e3,e4,e5⟩:=h6 v hv;obtain⟨b,e6,e7⟩:=h;rw[e1]at e6;cases e6;exact⟨a,e1,by rw[B5 e3];exact sc _ _ e7⟩
      ·rw[B5 h5];exact sc _ _ h3
     ·rw[B5 nc];exact A4
     ·intro v hv;rcases mem_append.mp hv with hv|hv
      ·obtain⟨a,e1,e2,e3,e4,xs,e5⟩:=h6 v hv;exact⟨a,e1,e2,e3,B9 e5 g,xs,by rw[B5 e3];exact sc _ _ e5⟩
      ·exact⟨ca,sZ hv,h4,h5,B9 h3 g,_,by rw[B5 h5];exact sc _ _ h3⟩
     ·rw[G3,if_pos hb];rfl
     ·rw[length_append];show(G3 rs i).1.length+1<=i+1;omega
   ·rintro σ' H' ⟨D,c,rfl,I,e1,e2,e3⟩;obtain⟨us,ca,h1,h2,h3,h4,h5,h6⟩:=I.ex;have S:d≠ca:=λe=>by have:=I.d;rw[e,h3]at this;cases this
    have ag:(iv c).length=c.length:=_J.iv_len c;refine⟨_,rfl,_,rfl,(ixL h1 (K7 us _) ⟨.inl ⟨rfl,_,SqL.of h3⟩,_,rfl,ca,_,_,rfl,rfl,h3,by omega,_,rfl, ?_⟩)⟩;rw[e1];refine⟨λb o h=> ?_,by rw[B5 S];exact I.d,us,ca,by rw[B5 (Ne.symm h5)];exact h1,DT h2 λns v hv h=> ?_,by rw[A4,HX],h4,h5,λv hv=> ?_⟩
    ·rw[B5 (λe=>by rw[e,h4]at h;cases h)];exact I.sm _ _ h
    ·obtain⟨a,g1,g2,g3,g4,g5⟩:=h6 v hv;obtain⟨b,g6,g7⟩:=h;rw[g1]at g6;cases g6;exact⟨a,g1,by rw[B5 g4];exact g7⟩
    ·obtain⟨a,g1,g2,g3,g4,xs,g5⟩:=h6 v hv;exact⟨a,g1,g2,g3,g4,xs,by rw[B5 g4];exact g5⟩
  ·rintro σ H' ⟨z,rfl,I⟩;rw[<-W]at I;exact⟨z,rfl,I⟩
 ·rintro σ' H' ⟨z,rfl,I⟩;obtain⟨us,ca,h1,h2,h3,h4,h5,h6⟩:=I.ex;refine⟨_,rfl,q fl _ H' I.sm u h1 ?_ λv hv=> ?_⟩
  ·exact ER h2 (.cons ⟨ca,rfl,h3⟩ .nil)
  ·rcases mem_append.mp hv with hv|hv
   ·obtain⟨a,e1,e2,e3,_⟩:=h6 v hv;exact⟨a,e1,e2,e3⟩
   ·exact⟨ca,sZ hv,h4,h5⟩
end
abbrev s_folded_piece:Stmt:=top 25
noncomputable abbrev T8:List Str:=["piece","made","loads","left","number","told","one"]
theorem sc_folded_piece:FnScope T8 dCZ (A9 s_folded_piece):=fS
theorem d7Z{tw:Nat->Int->Int->U⊕Nat}(l:List _F.Q):(fo tw ld l).1<=l.length:=by
 unfold fo;split
 ·split
  ·exact le_refl _
  ·exact zero_le _
 ·show 2<=_;simp only[length_cons];omega
 ·show 2<=_;simp only[length_cons];omega
 ·split
  ·show 2<=_;simp only[length_cons];omega
  ·exact zero_le _
 ·exact zero_le _
theorem egZ{tw:Nat->Int->Int->U⊕Nat}(s:Nat):(fo tw ld l).2≠some (.load s):=by
 unfold fo;split
 ·split<;>(intro z;cases z)
 ·intro z;cases z
 ·split<;>(intro z;cases z)
 ·split<;>(intro z;cases z)
 ·intro z;cases z
theorem aUZ{tw:Nat->Int->Int->U⊕Nat}{q:_F.Q}(h:(fo tw ld l).2=some q):2<=(fo tw ld l).1:=by
 unfold fo at h⊢;split at h
 ·split at h
  ·rename_i u hu;simp[hu]
  ·cases h
 ·exact le_refl _
 ·exact le_refl _
 ·split at h<;>cases h
 ·cases h
theorem doZ{tw:Nat->Int->Int->U⊕Nat}:(stp tw ld L md t).1.length<=L.length+1:=by
 unfold stp;split
 ·rename_i q e;have:=aUZ e;rw[length_cons,length_drop,length_cons];omega
 ·rw[length_drop,length_cons];omega
theorem ZI{tw:Nat->Int->Int->U⊕Nat}:∀n,(pc tw ld md (List.range' t n)).1.length<=n
 |0=>le_refl _
 |n+1=>by
  rw[range'_concat,M3];have:=ZI (tw:=tw) (ld:=ld) (md:=md) (t:=t) n;exact le_trans doZ (by omega)
theorem YS{tw:Nat->Int->Int->U⊕Nat}:∀n,(pc tw ld md (List.range' t n)).2.length=md.length
 |0=>rfl
 |n+1=>by rw[range'_concat,M3,QH,YS n]
theorem LO{tw:Nat->Int->Int->U⊕Nat}(h:_F.Q.load s∈(stp tw ld L md t).2):_F.Q.load s∈md:=by
 unfold stp at h;split at h
 ·rename_i q e;rcases List.mem_or_eq_of_mem_set h with z|z
  ·exact z
  ·exact absurd e (by rw[<-z];exact egZ s)
 ·exact h
theorem QS{tw:Nat->Int->Int->U⊕Nat}:∀n,_F.Q.load s∈(pc tw ld md (List.range' t n)).2->_F.Q.load s∈md
 |0,h=>h
 |n+1,h=>by
  rw[range'_concat,M3]at h;exact QS n (LO h)
theorem aXZ{l:Addr}(h:SqT Z H a xs)(hl:H l=some (.lst ys)):SqT Z (upd H l o) a xs:=by
 rcases h with h|h
 ·have b:a≠l:=by
   rintro rfl;rcases h with h|⟨ob,h⟩<;>rw[hl]at h<;>cases h
  rcases h with h|⟨ob,h⟩
  ·exact .inl (.inl (by rw[B5 b];exact h))
  ·exact .inl (.inr ⟨ob,by rw[B5 b];exact h⟩)
 ·exact .inr h
theorem OU(y:Nat)(r:List Nat):iv (y::r).reverse=iv r.reverse++ [V.int (y:Nat)]:=by rw[reverse_cons,HX]
theorem fsZ(L:List Nat):N1 (iv L.reverse) (some (-3)) none=iv ((L.take 3).reverse):=by
 unfold N1 iv;rw[length_map,HT.sIx_none];have e:HT.sIx L.reverse.length 0 (some (-3))=L.length - 3:=by
  unfold HT.sIx;rw[length_reverse];show(if(-3:Int)<0 then _ else _)=_;rw[if_pos (by decide)];omega
 rw[e,length_reverse,<-List.map_drop,List.drop_reverse,take_of_length_le (by rw[length_map,length_reverse,length_take];omega)];by_cases h:3<=L.length
 ·rw[show L.length - (L.length - 3)=3 by omega]
 ·rw[show L.length - (L.length - 3)=L.length by omega,take_length,take_of_length_le (by omega)]
structure FpI (H:Hp) (ma lf:Addr) (L:List Nat) (md:List _F.Q) (H':Hp):Prop where
 bt:_C.Bt ma H H'
 l:H' lf=some (.lst (iv L.reverse))
 m:∃vs,H' ma=some (.lst vs)/\All2 (QAt H') md vs
theorem FpI.same{lf:Addr}(h:FpI H ma lf L md H')(s:Same H' H''):FpI H ma lf L md H'':=
 ⟨h.bt.trans (.of s),s _ _ h.l,let⟨vs,h1,h2⟩:=h.m;⟨vs,s _ _ h1,h2.imp λ_ _ z=>QAt.same s z⟩⟩
theorem FpI.lf{lf:Addr}(h:FpI H ma lf L md H')(h0:H lf=none)(hn:lf≠ma)(L':List Nat):FpI H ma lf L' md (upd H' lf (.lst (iv L'.reverse))):=by
 refine⟨λb o e n=> ?_,A4, ?_⟩
 ·rw[B5 (λz=>by rw[z,h0]at e;cases e)];exact h.bt b o e n
 ·obtain⟨vs,h1,h2⟩:=h.m;refine⟨vs,by rw[B5 (Ne.symm hn)];exact h1,h2.imp λq v z=> ?_⟩;obtain⟨a,e1,e2⟩:=z;exact⟨a,e1,by rw[B5 (λy=>by rw[y,h.l]at e2;cases e2)];exact e2⟩
theorem VO{α β:Type}{R:α->β->Prop}{as:List α}{bs:List β}{a:α}{b:β}(h:All2 R as bs)(r:R a b):∀i,All2 R (as.set i a) (bs.set i b):=by
 induction h with
 |nil=>intro i;exact .nil
 |cons r0 h ih=>
  intro i;cases i with
  |zero=>exact .cons r h
  |succ i=>exact .cons r0 (ih i)
theorem FpI.set{lf:Addr}{b:Addr}(h:FpI H ma lf L md H')(hn:lf≠ma)(h1:H' ma=some (.lst vs))(h2:All2 (QAt H') md vs)(hb:H' b=some (.tup (qv q))):FpI H ma lf L (md.set t q) (upd H' ma (.lst (vs.set t (.ref b)))):=by
 have nt:∀ {a:Addr} {xs:List V},H' a=some (.tup xs)->a≠ma:=λe z=>by rw[z,h1]at e;cases e
 refine⟨h.bt.trans (.upd _),by rw[B5 hn];exact h.l,_,A4,VO (h2.imp λq v z=> ?_) ⟨b,rfl,by rw[B5 (nt hb)];exact hb⟩ t⟩;obtain⟨a,e1,e2⟩:=z;exact⟨a,e1,by rw[B5 (nt e2)];exact e2⟩
section
inductive spFPieceW(vs:List V)(H:Hp)(Q:VK):Prop
 |mk:∀(pa ma d:Addr) (t n:Nat) (us:List V) (rs md:List _F.Q) (kvs:List (Key×V)),(vs=[.ref pa,.ref ma,.ref d])->(H pa=some (.lst (iv (List.range' t n))))->(pa≠ma)->(t+n<=md.length)->(md.length<=1000)->(H ma=some (.lst us))->(All2 (QAt H) md us)->((∀q∈md,QOk q))->(H d=some (.dK kvs))->(TR rs kvs)->((∀s,_F.Q.load s∈md->_F.Q.load s∈rs))->(∀l H',H l=none->FpI H ma l (pc twc (ldc rs) md (List.range' t n)).1 (pc twc (ldc rs) md (List.range' t n)).2 H'->Q (.ref l) H')->spFPieceW vs H Q
def JN:Sp:=λvs H Q _=>spFPieceW vs H Q
theorem ok_folded_piece(F:Fun Z "folded_piece" "folded_piece" s_folded_piece f fd)(B:_J.NoG mg)(m_MOST_FOLDED:mg "MOST_FOLDED"=some (.int 3 tF))
  (RR:Cn P w Z mg qB CX0 4 "folding" ["last","loads"] (FR Z)):
  FnOk P w Z mg qB CX0 5 f fd dCZ JN:=by
 refine F.ok sc_folded_piece (λvs H Q E h=> ?_) (λbb A ad s H vs Q E hr h=> ?_)
 ·obtain⟨pa,ma,d,t,n,us,rs,md,ae,rfl,_⟩:=h;rfl
 obtain⟨pa,ma,d,t0,n,us,rs,md,ae,rfl,ai,ah,a6,a8,Y,hA,aw,hd,hL,az,q⟩:=h;have nd:=sc_folded_piece.nd;have hu:=hr.units0;have zz:(4000:Nat)<=sizeLine:=by decide
 have aq:d≠ma:=λe=>by rw[e,Y]at hd;cases hd
 refine⟨_,(A7 (sS 3 nd (C8 A5))
   (A7 (C6 (L4 PassesOwn.never rfl (G8 (Z:=Z) (pv 0)) (gN 4 nd) (A7 (E4 (aP Z (pv 3) (pv 4)))
   (A7 (sS 5 nd (cC RR hr (A0 (L6 (cS (N:=T8) (sc:=A9 s_folded_piece) (caps:=[1]) (ns:=["made"])) rfl rfl rfl (G8 (Z:=Z) (L3 (kSl (Z:=Z)) (pv 3) (M4 (K8 G2 (D7 (v:=.int 3) rfl m_MOST_FOLDED ⟨_,rfl⟩))) O7)) (λ_ _ _ _ _=>J8) (λ_ _ _ _ _=>(ixE Z w (pv 1) (pv 0)))) (A0 (pv 2) A5))))
   (A7 (C6 (L4 PassesOwn.never rfl (F4 rfl B.range_ (A0 (ixE Z w (pv 5) A6) A5)) (gN 6 nd) (A8 (E4 (LL (Z:=Z) PySem.F.plainAttrs_list PySem.F.slot_list_pop PySem.F.type_list_pop EB (pv 3))))))
   (A8 (C6 (C2 (B7 DD (ixE Z w (pv 5) A6) G9 rfl) (A7 (P0 (ixE Z w (pv 5) A6) (P1 (pv 1) (pv 4) P6))
   (A8 (E4 (aP Z (pv 3) (pv 4))))) C0))))))))
   (A8 (B6 (pv 3))))), ?_⟩
 refine⟨(by show 0<=sizeLine;decide),λlf g=> ?_⟩;have U:lf≠ma:=Ne.symm (B9 Y g);have I0:FpI H ma lf [] md (upd H lf (.lst [])):=by
  have sl:=_B.qA g (.lst []);exact⟨.of sl,A4,us,sl _ _ Y,hA.imp λ_ _ z=>QAt.same sl z⟩
 show AX _ _ _ _ (upd H lf (.lst []));generalize upd H lf (.lst [])=H0 at I0⊢;refine⟨fun σ H'=>∃z4 z5 z6,σ=[some (.ref pa),some (.ref ma),some (.ref d),some (.ref lf),z4,z5,z6]/\FpI H ma lf (pc twc (ldc rs) md (List.range' t0 n)).1 (pc twc (ldc rs) md (List.range' t0 n)).2 H', ?_, ?_⟩
 ·have ak:(iv (List.range' t0 n)).length=n:=by rw[_J.iv_len,List.length_range']
  refine⟨_,rfl,pa,rfl,⟨_,SqL.of (I0.bt _ _ ai ah)⟩,U7 (xs:=iv (List.range' t0 n)) (λi σ H'=>∃z4 z5 z6,σ=[some (.ref pa),some (.ref ma),some (.ref d),some (.ref lf),z4,z5,z6]/\FpI H ma lf (pc twc (ldc rs) md (List.range' t0 i)).1 (pc twc (ldc rs) md (List.range' t0 i)).2 H') ⟨none,none,none,rfl,I0⟩ ?_ ?_ ?_⟩
  ·rintro i σ H' _ ⟨z4,z5,z6,rfl,I⟩;exact SqL.of (I.bt _ _ ai ah)
  ·rintro i x σ H' hx ⟨z4,z5,z6,rfl,I⟩;have hi:i<n:=by rw[<-ak];exact(List.getElem?_eq_some_iff.mp hx).1
   have ex:x=.int ((t0+i:Nat):Int):=by
    rw[_J.iv_at (i:=t0+i) (by rw[List.getElem?_range' hi,one_mul])]at hx;exact(sJ hx).symm
   subst ex;have er:List.range' t0 (i+1)=List.range' t0 i++ [t0+i]:=by rw[range'_concat,one_mul]
   rw[er,M3];have o:∀a∈(pc twc (ldc rs) md (List.range' t0 i)).1,t0<=a/\a<t0+i:=λa ha=>HW ha;have X:(pc twc (ldc rs) md (List.range' t0 i)).2.length=md.length:=YS i;have u:∀q∈(pc twc (ldc rs) md (List.range' t0 i)).2,QOk q:=WK AR aw;have G:∀s,_F.Q.load s∈(pc twc (ldc rs) md (List.range' t0 i)).2->_F.Q.load s∈rs:=λs h=>az s (QS i h);have a3:(pc twc (ldc rs) md (List.range' t0 i)).1.length<=i:=ZI i;generalize(pc twc (ldc rs) md (List.range' t0 i)).1=L at I o a3⊢;generalize(pc twc (ldc rs) md (List.range' t0 i)).2=m1 at I X u G⊢;generalize ht:t0+i=t;have a7:t<m1.length:=by omega
   have j:∀a∈t::L,a<m1.length:=λa ha=>by
    rcases cZ ha with e|e
    ·omega
    ·have:=o a e;omega
   have ba:(iv L.reverse).length=L.length:=by rw[_J.iv_len,length_reverse]
   refine⟨_,rfl,.inl ⟨rfl,_,SqL.of I.l⟩,_,rfl,lf,_,_,rfl,rfl,I.l,by omega, ?_⟩;rw[<-OU];have I1:=I.lf g U (t::L);generalize upd H' lf (.lst (iv (t::L).reverse))=H1 at I1⊢;refine⟨_,rfl,⟨3,rfl,_,rfl,.inl ⟨lf,_,rfl,SqL.of I1.l,λps av=> ?_⟩⟩⟩;rw[fsZ];have I2:=I1.same (_B.qA av (.lst (iv ((t::L).take 3).reverse)));have c:upd H1 ps (.lst (iv ((t::L).take 3).reverse)) ps=some (.lst (iv ((t::L).take 3).reverse)):=A4;generalize upd H1 ps (.lst (iv ((t::L).take 3).reverse))=H2 at I2 c⊢;obtain⟨vs,ay,ao⟩:=I2.m;have a5:m1.length=vs.length:=ao.len;generalize V:((t::L).take 3).reverse=T3 at c;have O:∀a∈T3,a<m1.length:=λa ha=>j a (List.mem_of_mem_take (mem_reverse.mp (by rw[V];exact ha)));have ab:T3.length<=3:=by rw[<-V,length_reverse];exact List.length_take_le ..
   have ac:1<=T3.length:=by rw[<-V,length_reverse,length_take,length_cons];omega
   have M:(iv T3).length=T3.length:=_J.iv_len T3;refine⟨ps,rfl,⟨_,SqL.of c⟩,K4 (xs:=iv T3) (λk zs H'=>H2=H'/\All2 (QAt H2) ((T3.take k).map (atq m1)) zs) ⟨rfl,.nil⟩ ?_ ?_ ?_⟩
   ·rintro k zs H' hk ⟨rfl,hz⟩;have:=hz.len;rw[length_map]at this;have:=List.length_take_le k T3;exact⟨SqL.of c,by omega⟩
   ·rintro k x zs H' hx ⟨rfl,hz⟩;have hk:k<T3.length:=by rw[<-M];exact(List.getElem?_eq_some_iff.mp hx).1
    rw[_J.iv_at (List.getElem?_eq_getElem hk)]at hx;cases hx;have ha:=O T3[k] (getElem_mem _);obtain⟨v,hv,hQ⟩:=_M.all2_get ao (G5 ha);refine O4 ⟨_,rfl,_,rfl,(ixL ay (C4 hv) ⟨rfl, ?_⟩)⟩;rw[take_succ,List.getElem?_eq_getElem hk,map_append];exact ER hz (.cons hQ .nil)
   rintro zs H' ⟨rfl,hz⟩ D hD;rw[M,take_length]at hz;have sD:=_B.qA hD (.lst zs);have I3:=I2.same sD;have al:=sD _ _ (I2.bt _ _ hd aq);have af:All2 (QAt (upd H2 D (.lst zs))) (T3.map (atq m1)) zs:=hz.imp λ_ _ z=>QAt.same sD z;have am:upd H2 D (.lst zs) D=some (.lst zs):=A4;generalize upd H2 D (.lst zs)=H3 at I3 al af am⊢;refine⟨_,rfl,D,d,zs,T3.map (atq m1),ae,ldc rs,rfl,am,af,by rw[length_map];exact ab,by rw[length_map];exact ac,λz ar=> ?_,al,λs hs=> ?_,λtt H4 s4 ft=> ?_⟩
   ·obtain⟨a,_,rfl⟩:=mem_map.mp ar;exact WC u a
   ·obtain⟨a,ha,e⟩:=mem_map.mp hs;have a0:_F.Q.load s∈rs:=G s (by rw[<-e];exact mem_of_getElem? (G5 (O a ha)));have:=List.count_pos_iff.mpr a0;rw[hL s,if_neg (by omega)]
   have S:(T3.map (atq m1)).reverse=((t::L).take 3).map (atq m1):=by rw[<-V,<-List.map_reverse,reverse_reverse]
   rw[S]at ft;have p:stp twc (ldc rs) L m1 t=match(fo twc (ldc rs) (((t::L).take 3).map (atq m1))).2 with
    |some q=>(t::(t::L).drop (fo twc (ldc rs) (((t::L).take 3).map (atq m1))).1,m1.set t q)
    |none=>((t::L).drop (fo twc (ldc rs) (((t::L).take 3).map (atq m1))).1,m1):=rfl
   have aj:=d7Z (tw:=twc) (ld:=ldc rs) (((t::L).take 3).map (atq m1));rw[p];have aa:(fo twc (ldc rs) (((t::L).take 3).map (atq m1))).1<=(t::L).length:=le_trans aj (by rw[length_map];exact List.length_take_le' ..);generalize fo twc (ldc rs) (((t::L).take 3).map (atq m1))=r at ft aa⊢;clear p aj S;have I4:=I3.same s4;obtain⟨x5,ag,T⟩:=ft;have a9:(t::L).length<=1001:=by rw[length_cons];omega
   have a2:∀q,r.2=some q->∃b,x5=.ref b/\H4 b=some (.tup (qv q)):=λq e=>by rw[e]at T;exact T
   have ax:r.2=none->x5=.non:=λe=>by rw[e]at T;exact T
   refine⟨fun σ H'=>∃z6,σ=[some (.ref pa),some (.ref ma),some (.ref d),some (.ref lf),some (.int (t:Nat)),some (.ref tt),z6]/\FpI H ma lf ((t::L).drop r.1) m1 H'/\SqT Z H' tt [.int (r.1:Nat),x5]/\∀q,r.2=some q->∃b,x5=.ref b/\H' b=some (.tup (qv q)), ?_, ?_⟩
   ·refine⟨_,rfl,.inr (.inl ⟨tt,_,0,_,rfl,rfl,ag,rfl,_,rfl,by omega,by omega,N8 (n:=r.1) (λk σ H'=>∃z6,σ=[some (.ref pa),some (.ref ma),some (.ref d),some (.ref lf),some (.int (t:Nat)),some (.ref tt),z6]/\FpI H ma lf ((t::L).drop k) m1 H'/\SqT Z H' tt [.int (r.1:Nat),x5]/\∀q,r.2=some q->∃b,x5=.ref b/\H' b=some (.tup (qv q))) ⟨_,rfl,I4,ag,a2⟩ ?_ ?_⟩)⟩
    ·rintro k σ H' hk ⟨ap,rfl,J,j1,j2⟩;obtain⟨y,r',hy⟩:∃y r',(t::L).drop k=y::r':=by
      cases e:(t::L).drop k with
      |nil=>have:=List.drop_eq_nil_iff.mp e;omega
      |cons y r'=>exact⟨y,r',rfl⟩
     have a1:(t::L).drop (k+1)=r':=by rw[<-List.drop_drop,hy];rfl
     have R:=J.l;rw[hy,OU]at R;refine⟨_,rfl,.inl ⟨rfl,_,SqL.of R⟩,lf,_,.int (y:Nat),rfl,rfl,R,by rw[length_append,length_singleton,Nat.add_sub_cancel,getElem?_append_right (le_refl _),sub_self];rfl, ?_⟩;rw[List.dropLast_concat,a1];refine⟨_,rfl,J.lf g U r',aXZ j1 R,λq e=> ?_⟩;obtain⟨b,e1,e2⟩:=j2 q e;exact⟨b,e1,by rw[B5 (λz=>by rw[z,R]at e2;cases e2)];exact e2⟩
    ·rintro σ H' h;exact h
   ·rintro σ' H5 ⟨ap,rfl,J,j1,j2⟩;refine⟨fun σ H'=>∃z4 z5 z6,σ=[some (.ref pa),some (.ref ma),some (.ref d),some (.ref lf),z4,z5,z6]/\FpI H ma lf (match r.2 with|some q=>(t::(t::L).drop r.1,m1.set t q)|none=>((t::L).drop r.1,m1)).1 (match r.2 with|some q=>(t::(t::L).drop r.1,m1.set t q)|none=>((t::L).drop r.1,m1)).2 H', ?_,λ_ _ h=>h⟩;refine⟨_,rfl,.inr (.inl ⟨tt,_,1,_,rfl,rfl,j1,rfl,rfl,_,rfl, ?_⟩)⟩;cases hr2:r.2 with
    |none=>
     rw[ax hr2];exact ifF (by decide) ⟨_,_,_,rfl,J⟩
    |some q0=>
     obtain⟨b,rfl,hb⟩:=j2 q0 hr2;obtain⟨W,C,an⟩:=J.m;have au:m1.length=W.length:=an.len;refine ifT rfl ⟨_,rfl,.inr (.inl ⟨tt,_,1,_,rfl,rfl,j1,rfl,_,rfl,_,rfl,ma,W,_,t,rfl,rfl,C,_J.ixN_nat (by omega), ?_⟩)⟩;have J2:=J.set (t:=t) U C an hb;generalize upd H5 ma (.lst (W.set t (.ref b)))=H6 at J2⊢;have a4:(iv ((t::L).drop r.1).reverse).length<=1001:=by rw[_J.iv_len,length_reverse,length_drop];omega
     refine⟨_,rfl,.inl ⟨rfl,_,SqL.of J2.l⟩,_,rfl,lf,_,_,rfl,rfl,J2.l,by omega,_,_,_,rfl, ?_⟩;rw[<-OU];exact J2.lf g U (t::(t::L).drop r.1)
  ·rintro σ H' ⟨z4,z5,z6,rfl,I⟩;rw[ak]at I;exact⟨z4,z5,z6,rfl,I⟩
 ·rintro σ H' ⟨z4,z5,z6,rfl,I⟩;exact⟨_,rfl,q lf H' g I⟩
end
end _F
namespace _F
section
theorem QF{tw:Nat->Int->Int->U⊕Nat}:∀(ns:List Nat) (s:List Nat×List Q),(ns.foldl (λs t=>stp tw ld s.1 s.2 t) s).2.length=s.2.length
 | [],_=>rfl
 |n::r,s=>by rw[foldl_cons,QF r,QH]
theorem WE{tw:Nat->Int->Int->U⊕Nat}(hB:Bt tw):∀(ns:List Nat) (s:List Nat×List Q),(∀q∈s.2,QOk q)->∀q∈(ns.foldl (λs t=>stp tw ld s.1 s.2 t) s).2,QOk q
 | [],_,h=>h
 |n::r,s,h=>by rw[foldl_cons];exact WE hB r _ (WD hB h)
theorem LX{tw:Nat->Int->Int->U⊕Nat}:∀(ns:List Nat) (s:List Nat×List Q),Q.load k∈(ns.foldl (λs t=>stp tw ld s.1 s.2 t) s).2->Q.load k∈s.2
 | [],_,h=>h
 |n::r,s,h=>by rw[foldl_cons]at h;exact LO (LX r _ h)
theorem pwg{ld:Nat->Nat}(hB:Bt tw){rs:List Q}:∀(Ps:List (List Nat)) (s:List Nat×List Q),s.2.length=rs.length->(∀q∈s.2,QOk q)->(∀k,Q.load k∈s.2->Q.load k∈rs)->(pw tw ld Ps s).2.length=rs.length/\(∀q∈(pw tw ld Ps s).2,QOk q)/\∀k,Q.load k∈(pw tw ld Ps s).2->Q.load k∈rs
 | [],_,h1,h2,h3=>⟨h1,h2,h3⟩
 |p::Ps,s,h1,h2,h3=>pwg hB Ps _ ((QF p _).trans h1) (WE hB p _ h2) λk hk=>h3 k (LX (tw:=tw) (ld:=ld) p ([],s.2) hk)
theorem atZ{tw:Nat->Int->Int->U⊕Nat}{Ps:List (List Nat)}{ns:List Nat}:pw tw ld (Ps++ [ns]) s=((pw tw ld Ps s).1++(pc tw ld (pw tw ld Ps s).2 ns).1,(pc tw ld (pw tw ld Ps s).2 ns).2):=by unfold pw;rw[List.foldl_append];rfl
theorem Pcs.mem(h:Pcs rs t Ps e):∀ns∈Ps,∃a m,ns=List.range' a m/\a+m<=e:=by
 induction h with
 |nil=>intro ns hn;cases hn
 | @cons t n e Ps h1 hs hg hP ih=>
  intro ns hn;rcases cZ hn with rfl|hn
  ·exact⟨t,n,rfl,hP.le⟩
  ·exact ih ns hn
theorem YE{tw:Nat->Int->Int->U⊕Nat}(g:Gd rs){a t:Nat}{q:Q}(h1:(mde tw rs)[a]? =some q)(h2:gn q a=some t):t<rs.length:=by
 have I:=(NX g.last.1).iv (le_refl _) (Iv.zero (tw:=tw) (rs:=rs));obtain⟨q0,y1,y2⟩:=I.gp a q t h1 h2;exact g.goal y1 y2
theorem arZ(rs:List Q):(pcs rs).length<=rs.length+1:=by
 have:∀n,(G3 rs n).1.length<=n:=λn=>by
  induction n with
  |zero=>exact le_refl _
  |succ n ih=>
   rw[G3];split
   ·show((G3 rs n).1++ [(G3 rs n).2]).length<=n+1;rw[length_append];show _+1<=_;omega
   ·show(G3 rs n).1.length<=n+1;omega
 unfold pcs;rw[length_append];have:=this rs.length;show _+1<=_;omega
theorem eiZ{tw:Nat->Int->Int->U⊕Nat}(s:Nat):(fo tw ld l).2≠some (.keep s):=by
 intro e;unfold fo at e;split at e
 ·split at e<;>cases e
 ·cases e
 ·split at e<;>cases e
 ·split at e<;>cases e
 ·cases e
theorem VG{tw:Nat->Int->Int->U⊕Nat}(h:Q.keep s∈(stp tw ld L md t).2):Q.keep s∈md:=by
 unfold stp at h;split at h
 ·rename_i q e;rcases List.mem_or_eq_of_mem_set h with z|z
  ·exact z
  ·exact absurd e (by rw[<-z];exact eiZ s)
 ·exact h
theorem LW{tw:Nat->Int->Int->U⊕Nat}:∀(ns:List Nat) (s:List Nat×List Q),Q.keep k∈(ns.foldl (λs t=>stp tw ld s.1 s.2 t) s).2->Q.keep k∈s.2
 | [],_,h=>h
 |n::r,s,h=>by rw[foldl_cons]at h;exact VG (LW r _ h)
theorem JS{tw:Nat->Int->Int->U⊕Nat}:∀(Ps:List (List Nat)) (s:List Nat×List Q),Q.keep k∈(pw tw ld Ps s).2->Q.keep k∈s.2
 | [],_,h=>h
 |p::Ps,s,h=>LW (tw:=tw) (ld:=ld) p ([],s.2) (JS (ld:=ld) Ps (s.1++(pc tw ld s.2 p).1,(pc tw ld s.2 p).2) h)
theorem KU(h:Q.keep k∈woq gs rs):Q.keep k∈rs:=by
 unfold woq at h;obtain⟨i,hi,e⟩:=mem_map.mp h;have:=G5 (rs:=rs) (_J.lf_mem.mp hi).1;have hm:=mem_of_getElem? this;generalize atq rs i=q at e hm;cases q with
 |keep s=>cases e;exact hm
 |_=>cases e
theorem UG{tw:Nat->Int->Int->U⊕Nat}(h:Q.keep k∈V2 tw rs):Q.keep k∈rs:=JS (tw:=tw) (ld:=ldc rs) (pcs rs) ([],rs) (KU (KU h))
end
end _F
namespace _F
open PySem _L
open _B hiding NoG ifT ifF top
open _C (F5 C3 E1 Bd)
open _J (NoG FE rv ifT ifF RowsAt iv)
seal PE PT PW PA PS PSs PTs PI PG PGs PO
abbrev s_folded_once:Stmt:=top 22
abbrev s_folded:Stmt:=top 21
abbrev V7:List Str:=["rows","made","loads","left","piece","number","gone"]
theorem sc_folded_once:FnScope V7 M8 (A9 s_folded_once):=fS
abbrev XD:List Str:=["rows","done","shorter"]
theorem sc_folded:FnScope XD M8 (A9 s_folded):=fS
structure OnI (H:Hp) (p ma d le pl:Addr) (kvs:List (Key×V)) (Ps:List (List Nat)) (pus:List V) (k:Nat) (dn:List Nat) (md:List _F.Q) (H':Hp):Prop where
 sm:Same H H'
 xma:∃vs,H' ma=some (.lst vs)/\All2 (QAt H') md vs
 xd:H' d=some (.dK kvs)
 xle:∃kl,H' le=some (.dK kl)/\kl.length<=k/\∀a:Nat,(F9 kl (.inl (a:Int))).isSome=decide (a∈dn)
 xpl:H' pl=some (.lst pus)
 pc:All2 (c3Z H') Ps pus
structure OnF (H:Hp) (ma d le pl:Addr) (pus:List V):Prop where
 fma:H ma=none
 fle:H le=none
 fdl:d≠le
 fdm:d≠ma
 flm:le≠ma
 fpm:pl≠ma
 fus:∀v∈pus,∃a,v=.ref a/\a≠ma
section
inductive spOnceW(vs:List V)(H:Hp)(Q:VK):Prop
 |mk:∀(p:Addr) (rs:List _F.Q),(vs=[.ref p])->(RowsAt H p (rs.map tj))->(rs.length<=1000)->(Gd rs)->(∀p' H',Same H H'->RowsAt H' p' ((V2 twc rs).map tj)->Q (.ref p') H')->spOnceW vs H Q
def XW:Sp:=λvs H Q _=>spOnceW vs H Q
theorem ok_folded_once(F:Fun Z "folded_once" "folded_once" s_folded_once f fd)(B:_J.NoG mg)
  (AK:Cn P w Z mg qB CX0 1 "loads_of_slots" M8 PQ)
  (VB:Cn P w Z mg qB CX0 2 "pieces" M8 LY)
  (DI:Cn P w Z mg qB CX0 5 "folded_piece" dCZ JN)
  (AH:Cn P w Z mg qB CX0 2 "without" aEZ (_J.spWithout Z))
  (BZ:Cn P w Z mg qB CX0 3 "reached_alone" M8 _J.spAlone):
  FnOk P w Z mg qB CX0 6 f fd M8 XW:=by
 refine F.ok sc_folded_once (λvs H Q E h=> ?_) (λbp A ah s H vs Q E hr h=> ?_)
 ·obtain⟨p,rs,rfl,_⟩:=h;rfl
 obtain⟨p,rs,rfl,hR,hn,g,q⟩:=h;have nd:=sc_folded_once.nd;have hu:=hr.units0;have zz:(2000000:Nat)<=sizeLine:=by decide
 obtain⟨us,hp,hA⟩:=U8 hR;have a2:rs.length=us.length:=hA.len;obtain⟨h0,hb⟩:=g.last;have hP:=NX h0;refine⟨_,(A7 (sS 1 nd (E6 (BE (Z:=Z)) rfl B.list_ Q8 (A0 (pv 0) A5)))
   (A7 (sS 2 nd (cC AK hr (A0 (pv 0) A5)))
   (A7 (W9 (i:=3) nd rfl (Or.inr rfl) KS)
   (A7 (C6 (L4 PassesOwn.never rfl (G8 (Z:=Z) (cC VB hr (A0 (pv 0) A5))) (gN 4 nd) (A8 (C6 (L4 PassesOwn.never rfl (G8 (Z:=Z) (cC DI hr (A0 (pv 4) (A0 (pv 1) (A0 (pv 2) A5))))) (gN 5 nd) (A8 (P0 K2 (P1 (pv 3) (pv 5) (Y7 hr.units)))))))))
   (A7 (K1 (i:=6) nd rfl rfl (cS (N:=V7) (sc:=A9 s_folded_once) (caps:=[3]) (ns:=["left"])) rfl rfl rfl (F4 rfl B.range_ (A0 (kL Z B.len_ (pv 0)) A5)) (λ_ _ _ _ _=>(R7 (B7 (IB hr.units) (pv 0) (pv 1) rfl))) (λ_ _ _ _ _=>(pv 0)))
   (A8 (B6 (cC BZ hr (A0 (cC AH hr (A0 (E6 (DC (Z:=Z)) rfl B.tuple_ Q1 (A0 (pv 1) A5)) (A0 (pv 6) A5))) A5))))))))), ?_⟩
 refine⟨_,rfl,p,us,rfl,.inr (SqT.of hp),λma am=> ?_⟩;have s1:=_B.qA am (.lst us);have C:upd H ma (.lst us) ma=some (.lst us):=A4;generalize upd H ma (.lst us)=H1 at s1 C⊢;refine⟨_,rfl,p,rs,rfl,hR.same s1,hn,λd G H2 s2 bb hd hL=> ?_⟩;have ag:=s1.trans s2;have a9:d≠ma:=Ne.symm (B9 C bb);refine λle Y=> ?_;have s3:=_B.qA Y (.dK []);have O:upd H2 le (.dK []) le=some (.dK []):=A4;have ba:d≠le:=B9 hd Y;have a4:le≠ma:=Ne.symm (B9 (s2 _ _ C) Y);show AX _ _ _ _ (upd H2 le (.dK []));have W:=ag.trans s3;have y:=s3 _ _ (s2 _ _ C);have ap:=s3 _ _ hd;generalize upd H2 le (.dK [])=H3 at s3 O W y ap⊢;refine⟨fun σ H'=>∃z4 z5,σ=[some (.ref p),some (.ref ma),some (.ref d),some (.ref le),z4,z5,none]/\Same H H'/\(∃vs,H' ma=some (.lst vs)/\All2 (QAt H') (mde twc rs) vs)/\∃kl,H' le=some (.dK kl)/\∀a:Nat,(F9 kl (.inl (a:Int))).isSome=decide (a∈lft twc rs), ?_, ?_⟩
 ·refine⟨_,rfl,p,rs,rfl,hR.same W,hn,λpl u H4 s4 ac aj ar a8=> ?_⟩;have F0:OnF H ma d le pl u:=⟨am,ag.free Y,ba,a9,a4,Ne.symm (B9 y ac),λv hv=>by
   obtain⟨a,e1,e2,_⟩:=a8 v hv;exact⟨a,e1,Ne.symm (B9 y e2)⟩⟩
  have I0:OnI H p ma d le pl G (pcs rs) u 0 [] rs H4:=⟨W.trans s4,⟨us,s4 _ _ y,hA.imp λ_ _ z=>QAt.same (W.trans s4) z⟩,s4 _ _ ap,⟨[],s4 _ _ O,le_refl _,λa=>rfl⟩,aj,ar⟩;have ad:(pcs rs).length=u.length:=ar.len;have az:=arZ rs;refine⟨pl,rfl,⟨_,SqL.of aj⟩,U7 (xs:=u) (λk σ H'=>∃z4 z5,σ=[some (.ref p),some (.ref ma),some (.ref d),some (.ref le),z4,z5,none]/\OnI H p ma d le pl G (pcs rs) u (1000*k) (pw twc (ldc rs) ((pcs rs).take k) ([],rs)).1 (pw twc (ldc rs) ((pcs rs).take k) ([],rs)).2 H') ⟨none,none,rfl,I0⟩ ?_ ?_ ?_⟩
  ·rintro k σ H' _ ⟨z4,z5,rfl,I⟩;exact SqL.of I.xpl
  ·rintro k x σ H' hx ⟨z4,z5,rfl,I⟩;have hk:k<u.length:=(List.getElem?_eq_some_iff.mp hx).1;obtain⟨ns,ak,a,rfl,ha⟩:=I.pc.get hx;obtain⟨t,m,rfl,bj⟩:=hP.mem ns (mem_of_getElem? ak);obtain⟨w1,w2,w3⟩:=pwg (ld:=ldc rs) AR (rs:=rs) ((pcs rs).take k) ([],rs) rfl g.ok (λ_ h=>h);have bc:a≠ma:=by
    obtain⟨b,e1,e2⟩:=F0.fus _ (mem_of_getElem? hx);cases e1;exact e2
   obtain⟨vs,X,hQ⟩:=I.xma;have et:(pcs rs).take (k+1)=(pcs rs).take k++ [List.range' t m]:=by rw[take_succ,ak];rfl
   rw[et,atZ];have au:=ZI (tw:=twc) (ld:=ldc rs) (md:=(pw twc (ldc rs) ((pcs rs).take k) ([],rs)).2) (t:=t) m;generalize(pw twc (ldc rs) ((pcs rs).take k) ([],rs)).1=dn at I⊢;generalize(pw twc (ldc rs) ((pcs rs).take k) ([],rs)).2=md at I hQ w1 w2 w3 au⊢;refine⟨fun σ H'=>∃z4 z5,σ=[some (.ref p),some (.ref ma),some (.ref d),some (.ref le),z4,z5,none]/\OnI H p ma d le pl G (pcs rs) u (1000*(k+1)) (dn++(pc twc (ldc rs) md (List.range' t m)).1) (pc twc (ldc rs) md (List.range' t m)).2 H', ?_,λ_ _ h=>h⟩;refine⟨_,rfl,_,rfl,_,rfl,a,ma,d,t,m,vs,rs,md,G,rfl,ha,bc,by omega,by omega,X,hQ,w2,I.xd,hL,w3,λl H5 af I5=> ?_⟩;generalize(pc twc (ldc rs) md (List.range' t m)).1=L at I5 au⊢;generalize(pc twc (ldc rs) md (List.range' t m)).2=md2 at I5⊢;obtain⟨kl,S,a5,T⟩:=I.xle;have a3:l≠ma:=λe=>by rw[e,X]at af;cases af
   have bh:∀ {b:Addr} {o:HO},H' b=some o->b≠l:=λe=>B9 e af;have J0:OnI H p ma d le pl G (pcs rs) u (1000*k+0) (dn++(L.reverse.take 0)) md2 H5:=by
    refine⟨λb o h=>I5.bt _ _ (I.sm _ _ h) (λe=>by rw[e,F0.fma]at h;cases h),I5.m,I5.bt _ _ I.xd F0.fdm,⟨kl,I5.bt _ _ S F0.flm,a5,λb=>by rw[T b,take_zero,append_nil]⟩,I5.bt _ _ I.xpl F0.fpm,DT I.pc λns v hv z=> ?_⟩;obtain⟨b,e1,e2⟩:=z;obtain⟨c,e3,e4⟩:=F0.fus v hv;rw[e1]at e3;cases e3;exact⟨b,e1,I5.bt _ _ e2 e4⟩
   have an:(iv L.reverse).length=L.length:=by rw[_J.iv_len,length_reverse]
   refine⟨l,rfl,⟨_,SqL.of I5.l⟩,U7 (xs:=iv L.reverse) (λj σ H'=>∃z5,σ=[some (.ref p),some (.ref ma),some (.ref d),some (.ref le),some (.ref a),z5,none]/\H' l=some (.lst (iv L.reverse))/\OnI H p ma d le pl G (pcs rs) u (1000*k+j) (dn++(L.reverse.take j)) md2 H') ⟨_,rfl,I5.l,J0⟩ ?_ ?_ ?_⟩
   ·rintro j σ H6 _ ⟨z5,rfl,R,_⟩;exact SqL.of R
   ·rintro j x σ H6 hx ⟨z5,rfl,R,J⟩;have hj:j<L.reverse.length:=by rw[<-_J.iv_len];exact(List.getElem?_eq_some_iff.mp hx).1
    have bn:j<L.length:=by rwa [length_reverse]at hj
    rw[_J.iv_at (List.getElem?_eq_getElem hj)]at hx;cases hx;obtain⟨ab,M,al,D⟩:=J.xle;refine⟨_,rfl,_,rfl,le,_,rfl,.inl ⟨ab,.inl ((L.reverse[j]:Nat):Int),M,rfl,by omega,rfl⟩,_,rfl, ?_, ?_⟩
    ·rw[B5 (λe=>by rw[e,M]at R;cases R)];exact R
    ·have aa:∀ {b:Addr} {xs:List V},H6 b=some (.lst xs)->b≠le:=λe z=>by rw[z,M]at e;cases e
     have ax:∀ {b:Addr} {xs:List V},H6 b=some (.tup xs)->b≠le:=λe z=>by rw[z,M]at e;cases e
     obtain⟨av,ai,be⟩:=J.xma;refine⟨λb o h=> ?_,⟨av,by rw[B5 (aa ai)];exact ai,be.imp λq v z=> ?_⟩,by rw[B5 F0.fdl];exact J.xd,⟨_,A4,le_trans (K3 ..) (by omega),λb=> ?_⟩,by rw[B5 (aa J.xpl)];exact J.xpl,J.pc.imp λns v z=> ?_⟩
     ·rw[B5 (λe=>by rw[e,F0.fle]at h;cases h)];exact J.sm _ _ h
     ·obtain⟨b,e1,e2⟩:=z;exact⟨b,e1,by rw[B5 (ax e2)];exact e2⟩
     ·rw[ES];have ex:L.reverse.take (j+1)=L.reverse.take j++ [L.reverse[j]]:=by rw[take_succ,List.getElem?_eq_getElem hj];rfl
      rw[ex,<-List.append_assoc];by_cases e:b=L.reverse[j]
      ·rw[if_pos (by rw[e])];exact(decide_eq_true (by rw[e];exact mem_append_right _ (mem_singleton.mpr rfl))).symm
      ·rw[if_neg (λz=>e (by have:=Sum.inl.inj z;omega)),D b,Bool.eq_iff_iff,decide_eq_true_iff,decide_eq_true_iff];constructor
       ·exact λz=>mem_append_left _ z
       ·intro z;rcases mem_append.mp z with z|z
        ·exact z
        ·exact absurd (sZ z) e
     ·obtain⟨b,e1,e2⟩:=z;exact⟨b,e1,by rw[B5 (aa e2)];exact e2⟩
   ·rintro σ H6 ⟨z5,rfl,_,J⟩;refine⟨_,_,rfl,J.sm,J.xma,J.xd, ?_,J.xpl,J.pc⟩;obtain⟨ab,M,al,D⟩:=J.xle;rw[an,<-length_reverse,take_length]at D;refine⟨ab,M,by rw[an]at al;omega,λb=> ?_⟩;rw[D b,Bool.eq_iff_iff,decide_eq_true_iff,decide_eq_true_iff,mem_append,mem_append,mem_reverse]
  ·rintro σ H' ⟨z4,z5,rfl,I⟩;rw[<-ad,take_length]at I;obtain⟨kl,S,_,T⟩:=I.xle;exact⟨z4,z5,rfl,I.sm,I.xma,kl,S,T⟩
 rintro σ' H6 ⟨z4,z5,rfl,s6,⟨vs,X,hQ⟩,kl,S,T⟩;obtain⟨gm,ae,a1,go,bm,_,_⟩:=II AR g;have bi:(mde twc rs).length=vs.length:=hQ.len;refine⟨_,rfl,_,_,rfl,.inr ⟨_,SqT.of (s6 _ _ hp),rfl⟩,_,rfl,by omega,by omega,M1 (n:=us.length) (λi zs H'=>H6=H'/\zs=iv ((List.range i).filter λa=> !decide (a∈lft twc rs))) ⟨rfl,rfl⟩ ?_ ?_ ?_⟩
 ·rintro i zs H' hi ⟨_,rfl⟩;rw[_J.iv_len];refine le_trans (length_filter_le _ _) ?_;rw[length_range];omega
 ·rintro i zs H' hi ⟨rfl,rfl⟩;rw[Int.zero_add];refine⟨_,rfl,_,rfl,le,_,rfl,DGet.k (k:=.inl (i:Int)) S,_,rfl, ?_⟩;rw[T,range_succ,filter_append];by_cases hm:i∈lft twc rs
  ·rw[decide_eq_true hm];refine ifF (by decide) ⟨rfl, ?_⟩;rw[filter_cons_of_neg (p:=λa=> !decide (a∈lft twc rs)) (a:=i) (by simp[hm]),filter_nil,append_nil]
  ·rw[decide_eq_false hm];refine ifT rfl ⟨_,rfl,rfl, ?_⟩;rw[filter_cons_of_pos (p:=λa=> !decide (a∈lft twc rs)) (a:=i) (by simp[hm]),filter_nil,HX]
 rintro bg H' ⟨rfl,rfl⟩ gA a7;rw[<-a2];have s7:=_B.qA a7 (.lst (iv (gon twc rs)));have ao:upd H6 gA (.lst (iv (gon twc rs))) gA=some (.lst (iv (gon twc rs))):=A4;show S0 _ _ _ (upd H6 gA (.lst (iv (gon twc rs)))) _;generalize upd H6 gA (.lst (iv (gon twc rs)))=H7 at s7 ao⊢;refine⟨_,rfl,ma,vs,rfl,.inl ⟨SqL.of (s7 _ _ X),λp1 a0=> ?_⟩⟩;have s8:=_B.qA a0 (.tup vs);have bd:RowsAt (upd H7 p1 (.tup vs)) p1 ((mde twc rs).map tj):=XC A4 (hQ.imp λ_ _ z=>QAt.same (s7.trans s8) z);have bo:(gon twc rs).length<=rs.length:=by
  unfold gon;refine le_trans (length_filter_le _ _) ?_;rw[length_range];exact le_refl _
 refine⟨_,rfl,p1,gA,(mde twc rs).map tj,gon twc rs,rfl,bd,by rw[length_map];omega,SqL.of (s8 _ _ ao),by omega,λi j r ay a6=> ?_,λp2 H9 s9 bl aq=> ?_⟩
 ·obtain⟨x,hx,rfl⟩:=RD ay;rw[length_map,ae];exact YE g hx (by rw[<-EX];exact a6)
 rw[WA]at aq;refine⟨p2,(mid twc rs).map tj,rfl,aq,by rw[length_map];omega,gm.wf,λp3 bf aw bk U=> ?_⟩;rw[OM]at U;exact q p3 bf (s6.trans (s7.trans (s8.trans (s9.trans aw)))) U
inductive spFoldedW (vs:List V) (H:Hp) (Q:VK):Prop
 |mk:∀(p:Addr) (rs:List _F.Q),(vs=[.ref p])->(RowsAt H p (rs.map tj))->(rs.length<=1000)->(Gd rs)->(∀p' rs' H',Same H H'->RowsAt H' p' (rs'.map tj)->Gd rs'->rs'.length<=rs.length->(∀f st o m,Rn twc (rs.map some) 0 f st o m->∃m',m'<=m/\Rn twc (rs'.map some) 0 f st o m')->Fix twc rs'->_J.AllR (rs'.map tj)->(∀s,_F.Q.keep s∈rs'->_F.Q.keep s∈rs)->Q (.ref p') H')->spFoldedW vs H Q
def JT:Sp:=λvs H Q _=>spFoldedW vs H Q
theorem ok_folded(F:Fun Z "folded" "folded" s_folded f fd)(B:_J.NoG mg)
  (V4:Cn P w Z mg qB CX0 6 "folded_once" M8 XW):
  FnOk P w Z mg qB CX0 7 f fd M8 JT:=by
 refine F.ok sc_folded (λvs H Q E h=> ?_) (λI A i s H vs Q E hr h=> ?_)
 ·obtain⟨p,rs,rfl,_⟩:=h;rfl
 obtain⟨p,rs,rfl,hR,hn,g,q⟩:=h;have nd:=sc_folded.nd;have hu:=hr.units0;have zz:(4000:Nat)<=sizeLine:=by decide
 obtain⟨us,hp,hA⟩:=U8 hR;refine⟨_,(A7 (sS 1 nd (pv 0))
   (A7 (sS 2 nd (cC V4 hr (A0 (pv 1) A5)))
   (A7 (C6 (Z7 PassesOwn.never (B7 GK (kL Z B.len_ (pv 2)) (kL Z B.len_ (pv 1)) rfl) (A7 (sS 1 nd (pv 2))
   (A8 (sS 2 nd (cC V4 hr (A0 (pv 1) A5)))))))
   (A8 (B6 (pv 1)))))), ?_⟩
 have b:∀ {H':Hp} {x:Addr} {qs:List _F.Q},RowsAt H' x (qs.map tj)->∃vs,H' x=some (.tup vs)/\vs.length=qs.length:=λh=>by
  obtain⟨vs,h1,h2⟩:=U8 h;exact⟨vs,h1,h2.len.symm⟩
 refine⟨_,rfl, ?_⟩;refine⟨_,rfl,p,rs,rfl,hR,hn,g,λp1 H1 s1 v=> ?_⟩;refine⟨fun σ H'=>∃(x:Addr) (z:Option V) (qs:List _F.Q),σ=[some (.ref p),some (.ref x),z]/\Same H H'/\RowsAt H' x (qs.map tj)/\Gd qs/\qs.length<=rs.length/\(∀f st o m,Rn twc (rs.map some) 0 f st o m->∃m',m'<=m/\Rn twc (qs.map some) 0 f st o m')/\(V2 twc qs).length=qs.length/\(∀s,_F.Q.keep s∈qs->_F.Q.keep s∈rs), ?_, ?_⟩
 ·refine⟨λn σ H'=>∃(x y:Addr) (qs:List _F.Q),σ=[some (.ref p),some (.ref x),some (.ref y)]/\n=qs.length/\Same H H'/\RowsAt H' x (qs.map tj)/\RowsAt H' y ((V2 twc qs).map tj)/\Gd qs/\qs.length<=rs.length/\(∀f st o m,Rn twc (rs.map some) 0 f st o m->∃m',m'<=m/\Rn twc (qs.map some) 0 f st o m')/\(∀s,_F.Q.keep s∈qs->_F.Q.keep s∈rs),⟨rs.length,p,p1,rs,rfl,rfl,s1,hR.same s1,v,g,le_refl _,λf st o m h=>⟨m,le_refl _,h⟩,λ_ h=>h⟩, ?_⟩;rintro n σ H' ⟨x,y,qs,rfl,rfl,sm,hx,hy,gq,hl,a,d⟩;obtain⟨vx,k,G⟩:=b hx;obtain⟨vy,j,D⟩:=b hy;obtain⟨_,r,l,go,C,c,_⟩:=II AR gq;refine⟨_,rfl,_,_,rfl,.inr ⟨_,SqT.of j,rfl⟩,_,rfl,_,_,rfl,.inr ⟨_,SqT.of k,rfl⟩,_,_,rfl,rfl,_,rfl, ?_⟩;by_cases t:(V2 twc qs).length<qs.length
  ·refine ifT (decide_eq_true (by omega)) ?_;refine⟨fun σ' H'=>∃m',m'<qs.length/\∃(x y:Addr) (qs:List _F.Q),σ'=[some (.ref p),some (.ref x),some (.ref y)]/\m'=qs.length/\Same H H'/\RowsAt H' x (qs.map tj)/\RowsAt H' y ((V2 twc qs).map tj)/\Gd qs/\qs.length<=rs.length/\(∀f st o m,Rn twc (rs.map some) 0 f st o m->∃m',m'<=m/\Rn twc (qs.map some) 0 f st o m')/\(∀s,_F.Q.keep s∈qs->_F.Q.keep s∈rs),λ_ _ h=>h, ?_⟩;refine⟨_,rfl,_,rfl,y,V2 twc qs,rfl,hy,by omega,go,λp2 H2 s2 u=>⟨(V2 twc qs).length,t,y,p2,V2 twc qs,rfl,rfl,sm.trans s2,hy.same s2,u,go,by omega,λf st o m h=> ?_,λs h=>d s (UG h)⟩⟩;obtain⟨m1,l1,r1⟩:=a f st o m h;obtain⟨m2,l2,r2⟩:=c f st o m1 r1;exact⟨m2,by omega,r2⟩
  ·exact ifF (by rw[decide_eq_true_iff];omega) ⟨x,_,qs,rfl,sm,hx,gq,hl,a,by omega,d⟩
 ·rintro σ H' ⟨x,z,qs,rfl,sm,hx,gq,hl,a,he,d⟩;obtain⟨_,_,_,_,_,_,e⟩:=II AR gq;obtain⟨f1,f2⟩:=e he;exact⟨_,rfl,q x qs H' sm hx gq hl a f1 f2 d⟩
end
end _F
namespace _B
open PySem _L
section
theorem ok_built_up1(F:Fun Z "built_up" "built_up" s_built_up f fd)(B:NoG mg):FnOk P w Z mg qB CX0 4 f fd OD (spBuilt P w Z mg qB):=
 (ok_built_up F B).imp λvs H Q E h=>by
  obtain⟨D,S,t,v,fp,fm,dp,dm,np,nm,rfl,FP,kp,bp,FM,km,bm,c,a,b,q⟩:=h;exact⟨D,S,λ_=>False,t,v,fp,fm,dp,dm,np,nm,rfl,FP.mono (by omega),.inl kp,bp,(FM.mono (by omega)).imp (λvs H Q E h=>by
   obtain⟨S,t,v,l,us,e,h1,h2,h3,h4,_,h5,h6,h7⟩:=h;exact⟨S,t,v,l,us,e,h1,h2,h3,h4,h5,h6,h7⟩),.inl km,bm,c,(λ_ h=>h.elim),a,b,q⟩
end
end _B
namespace _P
open PySem _L _B
inductive Lab where
 |num (i:Int)|tru (b:Bool)|non|slot (k:Int)|two (j:Nat)|one (j:Nat)|ite|let_ (k:Int)|fn (taken:List Int) (size:Int)|do_|call (n:Int)
inductive Pt where
 |node (lab:Lab) (ks:List Pt)
namespace Pt
def lab:Pt->Lab| .node l _=>l
def kids:Pt->List Pt| .node _ ks=>ks
mutual
def size:Pt->Nat
 | .node _ ks=>1+sizes ks
def sizes:List Pt->Nat
 | []=>0
 |t::r=>t.size+sizes r
end
theorem JZ:∀ks:List Pt,sizes ks=(ks.map size).sum
 | []=>rfl
 |t::r=>by simp only[sizes,map_cons,sum_cons,JZ r]
theorem size_eq:∀t:Pt,t.size=1+(t.kids.map size).sum
 | .node _ ks=>by show 1+sizes ks=_;rw[JZ];rfl
def isFn:Lab->Bool
 | .fn _ _=>true
 |_=>false
mutual
def fns:Pt->Nat
 | .node l ks=>(if isFn l then 1 else 0)+fnss ks
def fnss:List Pt->Nat
 | []=>0
 |t::r=>t.fns+fnss r
end
theorem RA:∀ks:List Pt,fnss ks=(ks.map fns).sum
 | []=>rfl
 |t::r=>by simp only[fnss,map_cons,sum_cons,RA r]
theorem fns_eq:∀t:Pt,t.fns=(if isFn t.lab then 1 else 0)+(t.kids.map fns).sum
 | .node l ks=>by show(if isFn l then 1 else 0)+fnss ks=_;rw[RA];rfl
mutual
theorem fns_le:∀t:Pt,t.fns<=t.size
 | .node l ks=>by
  have:=fnss_le ks;show(if isFn l then 1 else 0)+fnss ks<=1+sizes ks;split<;>omega
theorem fnss_le:∀ks:List Pt,fnss ks<=sizes ks
 | []=>le_refl _
 |t::r=>by have:=fns_le t;have:=fnss_le r;simp only[fnss,sizes];omega
end
end Pt
noncomputable def sgS:Nat->Str
 |0=> "<"|1=> "="|2=> ":"|3=> "+"|4=> "-"|5=> "*"|_=> "/"
noncomputable def sgR:Nat->Str
 |0=> "less"|1=> "same"|2=> "cons"|3=> "add"|4=> "sub"|5=> "mul"|_=> "div"
def wdS:Nat->Str
 |0=> "head"|1=> "tail"|2=> "empty"|_=> "not"
inductive Shp (H:Hp):Lab->List V->List V->Prop where
 |num (i:Int):Shp H (.num i) [] [.str "number",.int i]
 |tru (b:Bool):Shp H (.tru b) [] [.str "truth",.bl b]
 |slot (k:Int):Shp H (.slot k) [] [.str "slot",.int k]
 |two (j:Nat) (a b:V):j<7->Shp H (.two j) [a,b] [.str "two",.str (sgS j),a,b]
 |one (j:Nat) (a:V):j<4->Shp H (.one j) [a] [.str "one",.str (wdS j),a]
 |ite (a b c:V):Shp H .ite [a,b,c] [.str "if",a,b,c]
 |let_ (k:Int) (a b:V):Shp H (.let_ k) [a,b] [.str "let",.int k,a,b]
theorem Shp.mono{H':Hp}(h:Shp H l ps xs)(m:∀b xs,H b=some (.tup xs)->H' b=some (.tup xs)):Shp H' l ps xs:=by
 cases h with
 |num i=>exact .num i
 |tru b=>exact .tru b
 |slot k=>exact .slot k
 |two j a b h=>exact .two j a b h
 |one j a h=>exact .one j a h
 |ite a b c=>exact .ite a b c
 |let_ k a b=>exact .let_ k a b
noncomputable def form:Lab->Str
 | .num _=> "number"| .tru _=> "truth"| .non=> "none"| .slot _=> "slot"| .two _=> "two"| .one _=> "one"| .ite=> "if"| .let_ _=> "let"| .fn _ _=> "fn"| .do_=> "do"| .call _=> "call"
theorem Shp.head(h:Shp H l ps xs):∃r,xs=.str (form l)::r:=by
 cases h<;>exact⟨_,rfl⟩
mutual
def PAt(H:Hp):Pt->V->Prop
 | .node l ks,v=>∃p xs vs,v=.ref p/\H p=some (.tup xs)/\Shp H l vs xs/\PsAt H ks vs
def PsAt(H:Hp):List Pt->List V->Prop
 | [],vs=>vs=[]
 |t::r,vs=>∃u us,vs=u::us/\PAt H t u/\PsAt H r us
end
mutual
theorem PAt.mono{H H':Hp}(m:∀b xs,H b=some (.tup xs)->H' b=some (.tup xs)):∀(t:Pt) (v:V),PAt H t v->PAt H' t v
 | .node l ks,v,h=>by
  obtain⟨p,xs,vs,rfl,hp,hs,hk⟩:=h;exact⟨p,xs,vs,rfl,m _ _ hp,hs.mono m,PsAt.mono m ks vs hk⟩
theorem PsAt.mono{H H':Hp}(m:∀b xs,H b=some (.tup xs)->H' b=some (.tup xs)):∀(ks:List Pt) (vs:List V),PsAt H ks vs->PsAt H' ks vs
 | [],vs,h=>h
 |t::r,vs,h=>by
  obtain⟨u,us,rfl,h1,h2⟩:=h;exact⟨u,us,rfl,PAt.mono m t u h1,PsAt.mono m r us h2⟩
end
theorem PsAt.all2:∀ {ks:List Pt} {vs:List V},PsAt H ks vs->All2 (PAt H) ks vs
 | [],vs,h=>by cases(h:vs=[]);exact .nil
 |t::r,vs,h=>by obtain⟨u,us,rfl,h1,h2⟩:=h;exact .cons h1 (PsAt.all2 h2)
theorem PsAt.of{ks:List Pt}{vs:List V}(h:All2 (PAt H) ks vs):PsAt H ks vs:=by
 induction h with
 |nil=>rfl
 |cons h1 _ ih=>exact⟨_,_,rfl,h1,ih⟩
theorem PAt.open(h:PAt H t v):∃p xs vs,v=.ref p/\H p=some (.tup xs)/\Shp H t.lab vs xs/\All2 (PAt H) t.kids vs:=by
 cases t with
 |node l ks=>
  obtain⟨p,xs,vs,e,hp,hs,hk⟩:=h;exact⟨p,xs,vs,e,hp,hs,hk.all2⟩
theorem PAt.mk{H:Hp}{ks:List Pt}{p:Addr}(hp:H p=some (.tup xs))(hs:Shp H l vs xs)(hk:All2 (PAt H) ks vs):PAt H (.node l ks) (.ref p):=
 ⟨p,xs,vs,rfl,hp,hs,.of hk⟩
mutual
def CAt(S:AS)(H:Hp):Pt->V->Prop
 | .node l ks,v=>∃p tv c us,v=.ref p/\H p=some (.tup [tv,.int ((Pt.node l ks).fns:Nat),.ref c])/\PAt H (.node l ks) tv/\H c=some (.lst us)/\¬S c/\CsAt S H ks us
def CsAt(S:AS)(H:Hp):List Pt->List V->Prop
 | [],vs=>vs=[]
 |t::r,vs=>∃u us,vs=u::us/\CAt S H t u/\CsAt S H r us
end
mutual
theorem CAt.mono(m:Kp S H H'):∀(t:Pt) (v:V),CAt S H t v->CAt S H' t v
 | .node l ks,v,h=>by
  obtain⟨p,tv,c,us,rfl,hp,ht,hc,hn,hk⟩:=h;exact⟨p,tv,c,us,rfl,m.1 _ _ hp,PAt.mono m.1 _ _ ht,m.2 _ _ hc hn,hn,CsAt.mono m ks us hk⟩
theorem CsAt.mono(m:Kp S H H'):∀(ks:List Pt) (vs:List V),CsAt S H ks vs->CsAt S H' ks vs
 | [],vs,h=>h
 |t::r,vs,h=>by
  obtain⟨u,us,rfl,h1,h2⟩:=h;exact⟨u,us,rfl,CAt.mono m t u h1,CsAt.mono m r us h2⟩
end
mutual
theorem CAt.wide(m:Wd H S S'):∀(t:Pt) (v:V),CAt S H t v->CAt S' H t v
 | .node l ks,v,h=>by
  obtain⟨p,tv,c,us,rfl,hp,ht,hc,hn,hk⟩:=h;exact⟨p,tv,c,us,rfl,hp,ht,hc,λz=>(m c z).elim hn λy=>(by rw[hc]at y;cases y),CsAt.wide m ks us hk⟩
theorem CsAt.wide(m:Wd H S S'):∀(ks:List Pt) (vs:List V),CsAt S H ks vs->CsAt S' H ks vs
 | [],vs,h=>h
 |t::r,vs,h=>by
  obtain⟨u,us,rfl,h1,h2⟩:=h;exact⟨u,us,rfl,CAt.wide m t u h1,CsAt.wide m r us h2⟩
end
theorem CsAt.all2:∀ {ks:List Pt} {vs:List V},CsAt S H ks vs->All2 (CAt S H) ks vs
 | [],vs,h=>by cases(h:vs=[]);exact .nil
 |t::r,vs,h=>by obtain⟨u,us,rfl,h1,h2⟩:=h;exact .cons h1 (CsAt.all2 h2)
theorem CsAt.of{ks:List Pt}{vs:List V}(h:All2 (CAt S H) ks vs):CsAt S H ks vs:=by
 induction h with
 |nil=>rfl
 |cons h1 _ ih=>exact⟨_,_,rfl,h1,ih⟩
theorem CAt.open(h:CAt S H t v):∃p tv c us,v=.ref p/\H p=some (.tup [tv,.int (t.fns:Nat),.ref c])/\PAt H t tv/\H c=some (.lst us)/\¬S c/\All2 (CAt S H) t.kids us:=by
 cases t with
 |node l ks=>
  obtain⟨p,tv,c,us,e,hp,ht,hc,hn,hk⟩:=h;exact⟨p,tv,c,us,e,hp,ht,hc,hn,hk.all2⟩
theorem CAt.mk{S:AS}{H:Hp}{t:Pt}{p:Addr}{tv:V}(hp:H p=some (.tup [tv,.int (t.fns:Nat),.ref c]))(ht:PAt H t tv)(hc:H c=some (.lst us))(hn:¬S c)(hk:All2 (CAt S H) t.kids us):CAt S H t (.ref p):=by
 cases t with
 |node l ks=>exact⟨p,tv,c,us,rfl,hp,ht,hc,hn,.of hk⟩
def cTr:Tr where
 T:=Pt
 kids:=Pt.kids
 size:=Pt.size
 val:=λ_ H t v=>PAt H t v
 res:=CAt
 hsz:=Pt.size_eq
 vm:=λk h=>PAt.mono k.1 _ _ h
 rm:=λk h=>CAt.mono k _ _ h
 vw:=λ_ h=>h
 rw':=λk h=>CAt.wide k _ _ h
abbrev Row:=List V
noncomputable def rowsOf(first:Int):Lab->List (List Row)->List Row
 | .num i,_=> [[.str "push",.int i]]
 | .tru b,_=> [[.str "push",.bl b]]
 | .non,_=> [[.str "none"]]
 | .slot k,_=> [[.str "load",.int k]]
 | .ite,[c,a,b]=>c++ [[.str "unless",.int ((a.length:Nat)+1)]]++a++ [[.str "skip",.int (b.length:Nat)]]++b
 | .let_ k,[a,b]=>a++ [[.str "keep",.int k]]++b
 | .fn ts _,_=>ts.map (λs=> [.str "load",.int s])++ [[.str "close",.int first,.int (ts.length:Nat)]]
 | .two j,ps=>ps.flatten++ [[.str (sgR j)]]
 | .one j,ps=>ps.flatten++ [[.str (wdS j)]]
 | .do_,ps=>ps.flatten++ [[.str "apply"]]
 | .call n,ps=>ps.flatten++ [[.str "call",.int n,.int (ps.length:Nat)]]
 |_,_=> []
mutual
def rows:Pt->Int->List Row
 | .node l ks,f=>rowsOf f l (rowss ks f)
def rowss:List Pt->Int->List (List Row)
 | [],_=> []
 |t::r,f=>rows t f::rowss r (f+(t.fns:Nat))
end
def nums:List Pt->Int->List (Pt×Int)
 | [],_=> []
 |t::r,f=>(t,f)::nums r (f+(t.fns:Nat))
theorem KK:∀(ks:List Pt) (f:Int),rowss ks f=(nums ks f).map λx=>rows x.1 x.2
 | [],f=>rfl
 |t::r,f=>by simp only[rowss,nums,map_cons,KK r]
theorem SX(ks:List Pt)(f:Int):(rowss ks f).length=ks.length:=by
 induction ks generalizing f with
 |nil=>rfl
 |cons t r ih=>simp only[rowss,length_cons,ih]
theorem XV(ks:List Pt)(f:Int):(nums ks f).length=ks.length:=by
 induction ks generalizing f with
 |nil=>rfl
 |cons t r ih=>simp only[nums,length_cons,ih]
mutual
def V8:Pt->Nat
 | .node l ks=>1+(if Pt.isFn l then 0 else rsizes ks)
def rsizes:List Pt->Nat
 | []=>0
 |t::r=>V8 t+rsizes r
end
mutual
theorem LT:∀t:Pt,V8 t<=t.size
 | .node l ks=>by
  have:=rsizes_le ks;show 1+(if Pt.isFn l then 0 else rsizes ks)<=1+Pt.sizes ks;split<;>omega
theorem rsizes_le:∀ks:List Pt,rsizes ks<=Pt.sizes ks
 | []=>le_refl _
 |t::r=>by have:=LT t;have:=rsizes_le r;simp only[rsizes,Pt.sizes];omega
end
def PR(x:Pt×Int):List (Pt×Int):=if Pt.isFn x.1.lab then []else nums x.1.kids x.2
theorem GM:∀(ks:List Pt) (f:Int),rsizes ks=((nums ks f).map λx=>V8 x.1).sum
 | [],f=>rfl
 |t::r,f=>by simp only[rsizes,nums,map_cons,sum_cons,GM r (f+(t.fns:Nat))]
theorem ZM(x:Pt×Int):V8 x.1=1+((PR x).map λy=>V8 y.1).sum:=by
 obtain⟨t,f⟩:=x;cases t with
 |node l ks=>
  show 1+(if Pt.isFn l then 0 else rsizes ks)=1+((PR (.node l ks,f)).map λy=>V8 y.1).sum;unfold PR;show _=1+((if Pt.isFn l then []else nums ks f).map λy=>V8 y.1).sum;cases Pt.isFn l
  ·simp only[Bool.false_eq_true,if_false];rw[GM ks f]
  ·simp
mutual
theorem KC:∀(t:Pt) (v:V) (f:Int),PAt H t v->(rows t f).length<=32*V8 t
 | .node l ks,v,f,h=>by
  obtain⟨p,xs,vs,rfl,hp,hs,hk⟩:=h;have hf:=rowss_flat ks vs f hk;have d:=hk.all2;show(rowsOf f l (rowss ks f)).length<=32*(1+(if Pt.isFn l then 0 else rsizes ks));cases hs with
  |num i|tru b|slot k=>simp only[rowsOf,length_cons,length_nil];omega
  |two j|one j=>simp only[rowsOf,Pt.isFn,length_append,length_cons,length_nil,Bool.false_eq_true,if_false];omega
  |ite a b c=>
   cases d with
   |cons _ d=>cases d with
    |cons _ d=>cases d with
     |cons _ d=>
      cases d;simp only[rowss,flatten_cons,flatten_nil,length_append,length_nil]at hf;simp only[rowss,rowsOf,Pt.isFn,length_append,length_cons,length_nil,Bool.false_eq_true,if_false];omega
  |let_ k a b=>
   cases d with
   |cons _ d=>cases d with
    |cons _ d=>
     cases d;simp only[rowss,flatten_cons,flatten_nil,length_append,length_nil]at hf;simp only[rowss,rowsOf,Pt.isFn,length_append,length_cons,length_nil,Bool.false_eq_true,if_false];omega
theorem rowss_flat:∀(ks:List Pt) (vs:List V) (f:Int),PsAt H ks vs->(rowss ks f).flatten.length<=32*rsizes ks
 | [],vs,f,h=>le_refl _
 |t::r,vs,f,h=>by
  obtain⟨u,us,rfl,h1,h2⟩:=h;have e1:=KC t u f h1;have e2:=rowss_flat r us (f+(t.fns:Nat)) h2;simp only[rowss,rsizes,flatten_cons,length_append];omega
end
def RowAt(H:Hp)(r:Row)(v:V):Prop:=∃p,v=.ref p/\H p=some (.tup r)
theorem RowAt.mono{H H':Hp}(m:∀b xs,H b=some (.tup xs)->H' b=some (.tup xs))(h:RowAt H r v):RowAt H' r v:=by
 obtain⟨p,e,hp⟩:=h;exact⟨p,e,m _ _ hp⟩
def RowsL(S:AS)(H:Hp)(rs:List Row)(v:V):Prop:=∃l us,v=.ref l/\H l=some (.lst us)/\¬S l/\All2 (RowAt H) rs us
def bzZ(H:Hp)(rs:List Row)(v:V):Prop:=∃p us,v=.ref p/\H p=some (.tup us)/\All2 (RowAt H) rs us
theorem RowsL.mono(m:Kp S H H')(h:RowsL S H rs v):RowsL S H' rs v:=by
 obtain⟨l,us,e,hl,hn,h⟩:=h;exact⟨l,us,e,m.2 _ _ hl hn,hn,h.imp λ_ _ x=>x.mono m.1⟩
theorem RowsL.wide(m:Wd H S S')(h:RowsL S H rs v):RowsL S' H rs v:=by
 obtain⟨l,us,e,hl,hn,h⟩:=h;exact⟨l,us,e,hl,λz=>(m l z).elim hn λy=>(by rw[hl]at y;cases y),h⟩
def NAt(S:AS)(H:Hp)(x:Pt×Int)(v:V):Prop:=∃p cv,v=.ref p/\H p=some (.tup [cv,.int x.2])/\CAt S H x.1 cv
def rTr:Tr where
 T:=Pt×Int
 kids:=PR
 size:=λx=>V8 x.1
 val:=NAt
 res:=λS H x v=>RowsL S H (rows x.1 x.2) v
 hsz:=ZM
 vm:=λk h=>by obtain⟨p,cv,e,hp,hc⟩:=h;exact⟨p,cv,e,k.1 _ _ hp,CAt.mono k _ _ hc⟩
 rm:=λk h=>h.mono k
 vw:=λk h=>by obtain⟨p,cv,e,hp,hc⟩:=h;exact⟨p,cv,e,hp,CAt.wide k _ _ hc⟩
 rw':=λk h=>h.wide k
end _P
namespace _P
open PySem _L _B
seal PE PT PW PA PS PSs PTs PI PG PGs PO
abbrev s_parts_of:Stmt:=_B.top 33
abbrev s_placed_parts:Stmt:=_B.top 37
abbrev s_counted:Stmt:=_B.top 40
abbrev s_with_count:Stmt:=_B.top 41
abbrev OT:List Str:=["term","form"]
theorem sc_parts_of:FnScope OT CV (A9 s_parts_of):=fS
abbrev DQ:List Str:=["term"]
theorem sc_placed_parts:FnScope DQ CV (A9 s_placed_parts):=fS
abbrev SY:List Str:=["term"]
theorem sc_counted:FnScope SY CV (A9 s_counted):=fS
abbrev Y5:List Str:=["term","parts","own"]
theorem sc_with_count:FnScope Y5 ["term","parts"] (A9 s_with_count):=fS
noncomputable def PF:List (Str×V):=[("two",.int 2),("one",.int 2),("if",.int 1),("let",.int 2),("fn",.int 2),("do",.int 1)]
theorem WN{n k:Nat}(hk:0<k)(hn:0<n)(o:Option Int):¬(HT.sIx n 0 (some (k:Int))=0/\HT.sIx n n o=n):=by
 rw[HT.sIx_nat];omega
theorem OO(l:Lab):decide (V.str (form l)=V.str "fn")=Pt.isFn l:=by cases l<;>rfl
theorem tups_of(h:Same H H'):∀b xs,H b=some (.tup xs)->H' b=some (.tup xs):=λb xs q=>h b _ q
theorem F5:(1:Nat)<=sizeLine:=by decide
theorem C3:(2:Nat)<=sizeLine:=by decide
theorem E1:(3:Nat)<=sizeLine:=by decide
section
inductive spPartsW(vs:List V)(H:Hp)(Q:VK):Prop
 |mk:∀a l xs ps,(vs=[.ref a])->(H a=some (.tup xs))->(Shp H l ps xs)->(Pt.isFn l=false)->(∀r H',Same H H'->H r=none->H' r=some (.lst ps)->Q (.ref r) H')->spPartsW vs H Q
def RE:Sp:=λvs H Q _=>spPartsW vs H Q
theorem ok_parts_of(F:Fun Z "parts_of" "parts_of" s_parts_of f fd)(B:_B.NoG mg)(TD:TopD w Z pf PF)(m_PARTS_FROM:mg "PARTS_FROM"=some (.ref pf)):FnOk P w Z mg qB CX0 1 f fd CV RE:=by
 refine F.ok sc_parts_of (λvs H Q E h=> ?_) (λc A b s H vs Q E hr h=> ?_)
 ·obtain⟨a,l,xs,ps,rfl,_⟩:=h;rfl
 obtain⟨a,l,xs,ps,rfl,ha,hs,hl,q⟩:=h;have nd:=sc_parts_of.nd;have hu:=hr.units0;refine⟨_,(A7 (sS 1 nd (ixE Z w (pv 0) A6))
   (A7 (C2 (B7 (kEq (Z:=Z) hu) (pv 1) B0 rfl) (A8 (B6 (E6 (BE (Z:=Z)) rfl B.list_ Q8 (A0 (ixE Z w (pv 0) A6) A5)))) C0)
   (A7 (C2 (B7 (kIn (Z:=Z) (w:=w)) (pv 1) (D7 (v:=.ref _) rfl m_PARTS_FROM rfl) rfl) (A8 (B6 (E6 (BE (Z:=Z)) rfl B.list_ Q8 (A0 (L3 (kSl (Z:=Z)) (pv 0) (M4 (ixE Z w (D7 (v:=.ref _) rfl m_PARTS_FROM rfl) (pv 1))) O7) A5)))) C0)
   (A8 (B6 (C8 A5)))))), ?_⟩
 cases hs
 case num|tru|slot=>
  refine⟨_,rfl,(ixT ha rfl ?_)⟩;refine⟨_,rfl,.inl ⟨rfl,_,rfl, ?_⟩⟩;refine ifF (by decide) ?_;refine⟨_,rfl,.inr (.inr ⟨_,_,PF,rfl,rfl,TD,_,rfl, ?_⟩)⟩;refine ifF (by decide) ?_;refine⟨(by show 0<=sizeLine;decide),λl hl=> ?_⟩;exact q l _ (qA hl _) hl A4
 all_goals
  refine⟨_,rfl,(ixT ha rfl ?_)⟩;refine⟨_,rfl,.inl ⟨rfl,_,rfl, ?_⟩⟩;refine ifF (by decide) ?_;refine⟨_,rfl,.inr (.inr ⟨_,_,PF,rfl,rfl,TD,_,rfl, ?_⟩)⟩;refine ifT (by decide) ?_;refine⟨_,rfl,_,rfl,.inr (.inr (.inr ⟨_,_,PF,_,rfl,rfl,TD,rfl,_,rfl,.inr ⟨a,_,rfl,SqT.of ha,WN (by decide) (succ_pos _) _,λp hp=> ?_⟩⟩))⟩;refine⟨_,_,rfl,.inr (SqT.of A4),λl hl=> ?_⟩;exact q l _ ((qA hp _).trans (qA hl _)) ((qA hp _).free hl) A4
theorem ok_placed_parts(F:Fun Z "placed_parts" "placed_parts" s_placed_parts f fd)(MS:Cn P w Z mg qB CX0 1 "parts_of" CV RE):
  FnOk P w Z mg qB CX0 2 f fd CV (spP cTr):=by
 refine F.ok sc_placed_parts (λvs H Q E h=> ?_) (λi A c s H vs Q E hr h=> ?_)
 ·obtain⟨S,t,v,rfl,_⟩:=h;rfl
 obtain⟨S,t,v,rfl,hv,g,q⟩:=h;have nd:=sc_placed_parts.nd;have hu:=hr.units0;cases t with
 |node l ks=>
 obtain⟨p,xs,vs,rfl,hp,hs,hk⟩:=PAt.open hv;obtain⟨d,hx⟩:=hs.head;have e:atI xs ((0:Nat):Int)=some (.str (form l)):=C4 (by rw[hx];rfl);refine⟨_,(A7 (C2 (B7 (kEq (Z:=Z) hu) (ixE Z w (pv 0) A6) B0 rfl) (A8 (B6 (C8 (A0 (ixE Z w (pv 0) A6) A5)))) C0)
   (A8 (B6 (cC MS hr (A0 (pv 0) A5))))), ?_⟩
 refine⟨_,rfl,(ixT hp e (.inl ⟨rfl,_,rfl, ?_⟩))⟩;rw[OO];cases hb:Pt.isFn l
 ·refine ifF nZ ?_;exact⟨_,rfl,p,l,xs,vs,rfl,hp,hs,hb,λr H' sm h1 h2=>q r H' vs sm h1 h2 (hk.imp λa b h=>PAt.mono (tups_of sm) a b h)⟩
 ·cases hs<;>cases hb
theorem ok_with_count(F:Fun Z "with_count" "with_count" s_with_count f fd)(B:_B.NoG mg):FnOk P w Z mg qB CX0 2 f fd ["term","parts"] (spM cTr):=by
 refine F.ok sc_with_count (λvs H Q E h=> ?_) (λX A e s H vs Q E hr h=> ?_)
 ·obtain⟨S,t,v,l,us,rfl,_⟩:=h;rfl
 obtain⟨S,t,v,c,us,rfl,hv,y,hc,G,W,o,q⟩:=h;have nd:=sc_with_count.nd;have hu:=hr.units0;have u:t.size<=400000:=y;have zz:(1000000:Nat)<=sizeLine:=by decide
 obtain⟨p,xs,vs,rfl,hp,hs,hk⟩:=PAt.open hv;obtain⟨g,hx⟩:=hs.head;have M:atI xs ((0:Nat):Int)=some (.str (form t.lab)):=C4 (by rw[hx];rfl);refine⟨_,(A7 (C6 (sS 2 nd (J6 (B7 (kEq (Z:=Z) hu) (ixE Z w (pv 0) A6) B0 rfl) A6 A6)))
   (A8 (B6 (B4 (A0 (pv 0) (A0 (B8 L5 (pv 2) (F2 (eJZ (Z:=Z) rfl) rfl B.sum_ dhZ (A0 (L6 (cS (N:=Y5) (sc:=A9 s_with_count) (caps:=[]) (ns:=[])) rfl rfl rfl (G8 (Z:=Z) (pv 1)) (λ_ _ _ _ _=>J8) (λ_ _ _ _ _=>(ixE Z w (pv 0) A6))) A5))) (A0 (pv 1) A5))))))), ?_⟩
 refine⟨fun σ H'=>σ=[some (.ref p),some (.ref c),some (.int (if Pt.isFn t.lab then 1 else 0))]/\H=H', ?_, ?_⟩
 ·refine⟨_,rfl,(ixT hp M (.inl ⟨rfl,_,rfl, ?_⟩))⟩;rw[OO];cases Pt.isFn t.lab
  ·exact ifF nZ ⟨rfl,rfl⟩
  ·exact ifT rfl ⟨rfl,rfl⟩
 rintro σ H' ⟨rfl,rfl⟩;have d:All2 (CAt S H) t.kids us:=o;have R:=d.len;have T:t.kids.length<=t.size:=cTr.kids_le t;have J:=Pt.fns_eq t;have U:=Pt.fns_le t;refine⟨_,rfl,_,rfl,_,rfl,c,rfl,⟨us,SqL.of hc⟩,K4 (xs:=us) (λj ys H2=>ys=((t.kids.map Pt.fns).map λn=>V.int (n:Nat)).take j/\H2=H) ⟨rfl,rfl⟩ ?_ ?_ ?_⟩
 ·rintro i ys H2 hi ⟨rfl,rfl⟩;refine⟨SqL.of hc, ?_⟩;rw[length_take,length_map,length_map];omega
 ·rintro i x ys H2 m ⟨rfl,rfl⟩;refine O4 ?_;obtain⟨k,I,L⟩:=d.get m;obtain⟨p2,tv,c2,O,rfl,D,_⟩:=CAt.open L;refine⟨_,rfl,(ixT D rfl ⟨?_,rfl⟩)⟩;have h3:((t.kids.map Pt.fns).map λn=>V.int (n:Nat))[i]? =some (V.int (k.fns:Nat)):=by
   rw[getElem?_map,getElem?_map,I];rfl
  exact(_B.take_one h3).symm
 ·rintro ys H2 ⟨rfl,rfl⟩ r C;have e3:((t.kids.map Pt.fns).map λn=>V.int (n:Nat)).take us.length=(t.kids.map Pt.fns).map λn=>V.int (n:Nat):=take_of_length_le (by rw[length_map,length_map];omega);rw[e3];have s1:=qA C (.lst ((t.kids.map Pt.fns).map λn=>V.int (n:Nat)));refine⟨r,t.kids.map Pt.fns,rfl,SqL.of A4,by omega,.inl ⟨_,_,rfl,rfl,_,rfl,E1,λr2 z=> ?_⟩⟩;have s2:=s1.trans (qA z (.tup [.ref p,.int ((if Pt.isFn t.lab then 1 else 0)+((t.kids.map Pt.fns).sum:Nat)),.ref c]));have e4:(if Pt.isFn t.lab then 1 else 0:Int)+((t.kids.map Pt.fns).sum:Nat)=(t.fns:Nat):=by
   rw[J];split<;>omega
  refine q _ _ s2 (CAt.mk (us:=us) ?_ (PAt.mono (tups_of s2) _ _ hv) (s2 _ _ hc) G (d.imp λa b h=>CAt.mono (.of s2) a b h));rw[A4];show some (HO.tup [.ref p,.int ((if Pt.isFn t.lab then 1 else 0)+((t.kids.map Pt.fns).sum:Nat)),.ref c])=_;rw[e4]
inductive spCountedW (vs:List V) (H:Hp) (Q:VK):Prop
 |mk:∀(S:AS) (t:Pt) (v:V),(vs=[v])->(PAt H t v)->(t.size<=400000)->((∀a,S a->H a≠none))->(∀r H',Same H H'->CAt S H' t r->Q r H')->spCountedW vs H Q
def GE:Sp:=λvs H Q _=>spCountedW vs H Q
theorem ok_counted(F:Fun Z "counted" "counted" s_counted f fd)(N9:Cn P w Z mg qB CX0 4 "built_up" OD (_B.spBuilt P w Z mg qB))
  (O1:Cn P w Z mg qB CX0 2 "placed_parts" CV (spP cTr))
  (Q3:Cn P w Z mg qB CX0 2 "with_count" ["term","parts"] (spM cTr)):
  FnOk P w Z mg qB CX0 5 f fd CV GE:=by
 obtain⟨T1,S8,O1,DJ,DN,DL⟩:=O1;obtain⟨X8,X9,Q3,GY,GT,GW⟩:=Q3;refine F.ok sc_counted (λvs H Q E h=> ?_) (λc A a s H vs Q E hr h=> ?_)
 ·obtain⟨S,t,v,rfl,_⟩:=h;rfl
 obtain⟨S,t,v,rfl,hv,b,hS,q⟩:=h;have nd:=sc_counted.nd;refine⟨_,(A8 (B6 (cC N9 hr (A0 (pv 0) (A0 (D7 (v:=.ref _) rfl DL rfl) (A0 (D7 (v:=.ref _) rfl GW rfl) A5)))))), ?_⟩;exact⟨_,rfl,cTr,S,t,v,T1,X8,S8,X9,_,_,rfl,O1,DN,DJ,Q3,GT,GY,hS,hv,b,λr H' sm e=>q r H' sm e⟩
end
abbrev s_rows_of:Stmt:=_B.top 42
abbrev s_rows_of_counted:Stmt:=_B.top 43
abbrev s_numbered_parts:Stmt:=_B.top 44
abbrev s_rows_with:Stmt:=_B.top 45
abbrev s_rows_of_if:Stmt:=_B.top 46
abbrev s_one_behind_the_other:Stmt:=_B.top 47
abbrev s_last_row:Stmt:=_B.top 48
abbrev SN:List Str:=["term","first"]
theorem sc_rows_of:FnScope SN cYZ (A9 s_rows_of):=fS
abbrev Z4:List Str:=["body","first"]
theorem sc_rows_of_counted:FnScope Z4 cyZ (A9 s_rows_of_counted):=fS
abbrev AT:List Str:=["node","term","number","found","part"]
theorem sc_numbered_parts:FnScope AT ["node"] (A9 s_numbered_parts):=fS
abbrev BX:List Str:=["node","rows","term","form"]
theorem sc_rows_with:FnScope BX ["node","rows"] (A9 s_rows_with):=fS
abbrev HK:List Str:=["asked","chosen","other"]
theorem sc_rows_of_if:FnScope HK dEZ (A9 s_rows_of_if):=fS
abbrev R4:List Str:=["rows","found","some"]
theorem sc_one_behind_the_other:FnScope R4 M8 (A9 s_one_behind_the_other):=fS
abbrev OG:List Str:=["term","form"]
theorem sc_last_row:FnScope OG CV (A9 s_last_row):=fS
noncomputable def SR:List (Str×V):=[("+",.str "add"),("-",.str "sub"),("*",.str "mul"),("/",.str "div"),("<",.str "less"),("=",.str "same"),(":",.str "cons")]
theorem ehZ{j:Nat}(h:j<7):SR.lookup (sgS j)=some (.str (sgR j)):=by
 have hj:j=0\/j=1\/j=2\/j=3\/j=4\/j=5\/j=6:=by omega
 rcases hj with rfl|rfl|rfl|rfl|rfl|rfl|rfl<;>decide
noncomputable def QI:Lab->Nat->Row
 | .two j,_=> [.str (sgR j)]
 | .one j,_=> [.str (wdS j)]
 | .do_,_=> [.str "apply"]
 | .call n,k=> [.str "call",.int n,.int (k:Nat)]
 |_,_=> []
def ZF:Lab->Bool
 | .two _| .one _| .do_| .call _=>true
 |_=>false
theorem BQ(h:ZF l=true)(f:Int)(ps:List (List Row)):rowsOf f l ps=ps.flatten++ [QI l ps.length]:=by
 cases l<;>first|(cases h;done)|rfl
theorem All2.mapL{α β γ:Type}{R:β->γ->Prop}{g:α->β}{as:List α}{bs:List γ}(h:All2 (λa b=>R (g a) b) as bs):All2 R (as.map g) bs:=by
 induction h with
 |nil=>exact .nil
 |cons h _ ih=>exact .cons h ih
theorem RF:∀(ks:List Pt) (f:Int) (i:Nat),(nums ks f)[i]? =(ks[i]?).map λk=>(k,f+(((ks.take i).map Pt.fns).sum:Nat))
 | [],f,i=>by simp[nums]
 |t::r,f,0=>by simp[nums]
 |t::r,f,i+1=>by
  simp only[nums,List.getElem?_cons_succ,RF r,List.take_succ_cons,map_cons,sum_cons];congr 1;funext k;congr 1;omega
theorem GH{α:Type}{xs:List (List α)}{i:Nat}{x:List α}(h:xs[i]? =some x):(xs.take (i+1)).flatten=(xs.take i).flatten++x:=by
 rw[_B.take_one h];simp
theorem VJ{α:Type}(xs:List (List α))(i:Nat):(xs.take i).flatten.length<=xs.flatten.length:=by
 have e:xs=xs.take i++xs.drop i:=(take_append_drop i xs).symm
 conv=>rhs;rw[e]
 rw[List.flatten_append,length_append];omega
section
inductive spLastW(vs:List V)(H:Hp)(Q:VK):Prop
 |mk:∀a l xs ps,(vs=[.ref a])->(H a=some (.tup xs))->(Shp H l ps xs)->(ZF l=true)->(∀r H',Same H H'->H' r=some (.tup (QI l ps.length))->Q (.ref r) H')->spLastW vs H Q
def WV:Sp:=λvs H Q _=>spLastW vs H Q
theorem ok_last_row(F:Fun Z "last_row" "last_row" s_last_row f fd)(B:_B.NoG mg)(TD:TopD w Z sr SR)(m_SIGN_ROWS:mg "SIGN_ROWS"=some (.ref sr)):FnOk P w Z mg qB CX0 1 f fd CV WV:=by
 refine F.ok sc_last_row (λvs H Q E h=> ?_) (λd A c s H vs Q E hr h=> ?_)
 ·obtain⟨a,l,xs,ps,rfl,_⟩:=h;rfl
 obtain⟨a,l,xs,ps,rfl,ha,hs,hl,q⟩:=h;have nd:=sc_last_row.nd;have hu:=hr.units0;refine⟨_,(A7 (sS 1 nd (ixE Z w (pv 0) A6))
   (A7 (C2 (B7 (kEq (Z:=Z) hu) (pv 1) B0 rfl) (A8 (B6 (B4 (A0 (ixE Z w (D7 (v:=.ref _) rfl m_SIGN_ROWS rfl) (ixE Z w (pv 0) A6)) A5)))) C0)
   (A7 (C2 (B7 (kEq (Z:=Z) hu) (pv 1) B0 rfl) (A8 (B6 (B4 (A0 (ixE Z w (pv 0) A6) A5)))) C0)
   (A7 (C2 (B7 (kEq (Z:=Z) hu) (pv 1) B0 rfl) (A8 (B6 (B4 (A0 B0 A5)))) C0)
   (A8 (B6 (B4 (A0 B0 (A0 (ixE Z w (pv 0) A6) (A0 (kL Z B.len_ (ixE Z w (pv 0) A6)) A5)))))))))), ?_⟩
 cases hs
 case two j x y hj=>
  refine⟨_,rfl,(ixT ha rfl ?_)⟩;refine⟨_,rfl,.inl ⟨rfl,_,rfl,ifT (by decide) ?_⟩⟩;exact⟨_,rfl,(ixT ha rfl (.inr (.inr (.inr ⟨_,_,SR,_,rfl,rfl,TD,ehZ hj,F5,λr b=>q r _ (qA b _) A4⟩))))⟩
 case one j x hj=>
  refine⟨_,rfl,(ixT ha rfl ?_)⟩;refine⟨_,rfl,.inl ⟨rfl,_,rfl,ifF (by decide) ⟨_,rfl,.inl ⟨rfl,_,rfl,ifT (by decide) ?_⟩⟩⟩⟩;exact⟨_,rfl,(ixT ha rfl ⟨F5,λr b=>q r _ (qA b _) A4⟩)⟩
 all_goals cases hl
inductive spBehindW (vs:List V) (H:Hp) (Q:VK):Prop
 |mk:∀(l:Addr) (us:List V) (rss:List (List Row)),(vs=[.ref l])->(H l=some (.lst us))->(All2 (RowsL (λ_=>False) H) rss us)->(rss.flatten.length<=16000000)->(∀r H' ws,Same H H'->H r=none->H' r=some (.lst ws)->All2 (RowAt H') rss.flatten ws->Q (.ref r) H')->spBehindW vs H Q
def LP:Sp:=λvs H Q _=>spBehindW vs H Q
theorem ok_one_behind_the_other(F:Fun Z "one_behind_the_other" "one_behind_the_other" s_one_behind_the_other f fd):FnOk P w Z mg qB CX0 1 f fd M8 LP:=by
 refine F.ok sc_one_behind_the_other (λvs H Q E h=> ?_) (λy A g s H vs Q E hr h=> ?_)
 ·obtain⟨l,us,c,rfl,_⟩:=h;rfl
 obtain⟨l,us,c,rfl,hl,j,v,q⟩:=h;have nd:=sc_one_behind_the_other.nd;have zz:(16000000:Nat)<=sizeLine:=by decide
 refine⟨_,(A7 (sS 1 nd (C8 A5))
   (A7 (C6 (L4 PassesOwn.never rfl (G8 (Z:=Z) (pv 0)) (gN 2 nd) (A8 (E4 (XE (Z:=Z) PySem.F.plainAttrs_list PySem.F.slot_list_extend PySem.F.type_list_extend FU (pv 1) (A0 (pv 2) A5))))))
   (A8 (B6 (pv 1))))), ?_⟩
 refine⟨(by show 0<=sizeLine;decide),λfl d=> ?_⟩;refine⟨fun σ H'=>∃x ws,σ=[some (.ref l),some (.ref fl),x]/\Same H H'/\H' fl=some (.lst ws)/\All2 (RowAt H') c.flatten ws, ?_, ?_⟩
 ·refine⟨_,rfl,l,rfl,⟨us,SqL.of ((qA d _) _ _ hl)⟩,U7 (xs:=us) (λi σ H'=>∃x ws,σ=[some (.ref l),some (.ref fl),x]/\Same H H'/\H' fl=some (.lst ws)/\All2 (RowAt H') (c.take i).flatten ws) ?_ ?_ ?_ ?_⟩
  ·exact⟨none,[],rfl,qA d _,A4,.nil⟩
  ·rintro i σ H' _ ⟨x,ws,rfl,sm,_⟩;exact SqL.of (sm _ _ hl)
  ·rintro i u σ H' r ⟨x,ws,rfl,sm,hf,hw⟩;obtain⟨rs,k,l2,p,rfl,t,_,n⟩:=j.get r;have h1:=hw.len;have h2:=n.len;have h3:=VJ c (i+1);rw[GH k,length_append]at h3;refine⟨_,rfl,.inl ⟨rfl,_,SqL.of hf⟩,_,rfl,fl,l2,_,_,rfl,rfl,hf,sm _ _ t,by omega, ?_⟩;refine⟨_,_,rfl,λb o e=>by rw[B5 (B9 e d)];exact sm _ _ e,A4, ?_⟩;rw[GH k];have m:∀b xs,H' b=some (.tup xs)->(upd H' fl (.lst (ws++p))) b=some (.tup xs):=λb xs e=>by
    rw[B5 (MA e hf (by intro z;cases z))];exact e
   exact(hw.imp λa b h=>h.mono m).app (n.imp λa b h=>(h.mono (tups_of sm)).mono m)
  ·rintro σ H' ⟨x,ws,rfl,sm,hf,hw⟩;refine⟨_,_,rfl,sm,hf, ?_⟩;rw[take_of_length_le (by rw[j.len];exact le_refl _)]at hw;exact hw
 rintro σ H' ⟨x,ws,rfl,sm,hf,hw⟩;exact⟨_,rfl,q fl H' ws sm d hf hw⟩
inductive spIfW (vs:List V) (H:Hp) (Q:VK):Prop
 |mk:∀(c a b:Addr) (cs as bs:List V) (rc ra rb:List Row),(vs=[.ref c,.ref a,.ref b])->(H c=some (.lst cs))->(H a=some (.lst as))->(H b=some (.lst bs))->(All2 (RowAt H) rc cs)->(All2 (RowAt H) ra as)->(All2 (RowAt H) rb bs)->(rc.length+ra.length+rb.length<=16000000)->(∀r H' ws,Same H H'->H r=none->H' r=some (.lst ws)->All2 (RowAt H') (rowsOf 0 .ite [rc,ra,rb]) ws->Q (.ref r) H')->spIfW vs H Q
def d0Z:Sp:=λvs H Q _=>spIfW vs H Q
theorem ok_rows_of_if(F:Fun Z "rows_of_if" "rows_of_if" s_rows_of_if f fd)(B:_B.NoG mg):FnOk P w Z mg qB CX0 1 f fd dEZ d0Z:=by
 refine F.ok sc_rows_of_if (λvs H Q E h=> ?_) (λy A j s H vs Q E hr h=> ?_)
 ·obtain⟨c,a,b,cs,as,bs,rc,ra,rb,rfl,_⟩:=h;rfl
 obtain⟨c,a,b,cs,as,bs,rc,ra,rb,rfl,hc,ha,hb,h1,h2,h3,x,q⟩:=h;have nd:=sc_rows_of_if.nd;have zz:(16000000:Nat)+10<=sizeLine:=by decide
 have l1:=h1.len;have l2:=h2.len;have l3:=h3.len;refine⟨_,(A8 (B6 (B8 L5 (B8 L5 (B8 L5 (B8 L5 (pv 0) (C8 (A0 (B4 (A0 B0 (A0 (B8 L5 (kL Z B.len_ (pv 1)) A6) A5))) A5))) (pv 1)) (C8 (A0 (B4 (A0 B0 (A0 (kL Z B.len_ (pv 2)) A5))) A5))) (pv 2)))), ?_⟩;refine⟨_,rfl,_,rfl,_,_,rfl,.inl ⟨_,SqL.of ha,rfl⟩,.inl ⟨_,_,rfl,rfl,C3,λp1 r=>⟨F5,λk1 n=> ?_⟩⟩⟩;have s1:=(qA r (.tup [.str "unless",.int ((as.length:Nat)+1)])).trans (qA n (.lst [.ref p1]));have e1:(upd (upd H p1 (.tup [.str "unless",.int ((as.length:Nat)+1)])) k1 (.lst [.ref p1])) p1=some (.tup [.str "unless",.int ((as.length:Nat)+1)]):=(qA n _) _ _ A4;have e2:(upd (upd H p1 (.tup [.str "unless",.int ((as.length:Nat)+1)])) k1 (.lst [.ref p1])) k1=some (.lst [.ref p1]):=A4;generalize upd (upd H p1 (.tup [.str "unless",.int ((as.length:Nat)+1)])) k1 (.lst [.ref p1])=H1 at s1 e1 e2⊢;refine .inr (.inr ⟨c,k1,_,_,rfl,rfl,s1 _ _ hc,e2,by simp only[length_cons,length_nil];omega,λk2 v=> ?_⟩);have s2:=qA v (.lst (cs++ [.ref p1]));have e3:(upd H1 k2 (.lst (cs++ [.ref p1]))) k2=some (.lst (cs++ [.ref p1])):=A4;generalize upd H1 k2 (.lst (cs++ [.ref p1]))=H2 at s2 e3⊢;have i:=s1.trans s2;refine⟨_,rfl,.inr (.inr ⟨k2,a,_,_,rfl,rfl,e3,i _ _ ha,by simp only[length_append,length_cons,length_nil];omega,λk3 u=> ?_⟩)⟩;have s3:=qA u (.lst (cs++ [.ref p1]++as));have e4:(upd H2 k3 (.lst (cs++ [.ref p1]++as))) k3=some (.lst (cs++ [.ref p1]++as)):=A4;generalize upd H2 k3 (.lst (cs++ [.ref p1]++as))=H3 at s3 e4⊢;have g:=i.trans s3;refine⟨_,rfl,_,_,rfl,.inl ⟨_,SqL.of (g _ _ hb),rfl⟩,C3,λp2 p=>⟨F5,λk4 l=> ?_⟩⟩;have s4:=(qA p (.tup [.str "skip",.int (bs.length:Nat)])).trans (qA l (.lst [.ref p2]));have e5:(upd (upd H3 p2 (.tup [.str "skip",.int (bs.length:Nat)])) k4 (.lst [.ref p2])) p2=some (.tup [.str "skip",.int (bs.length:Nat)]):=(qA l _) _ _ A4;have e6:(upd (upd H3 p2 (.tup [.str "skip",.int (bs.length:Nat)])) k4 (.lst [.ref p2])) k4=some (.lst [.ref p2]):=A4;generalize upd (upd H3 p2 (.tup [.str "skip",.int (bs.length:Nat)])) k4 (.lst [.ref p2])=H4 at s4 e5 e6⊢;have o:=g.trans s4;refine .inr (.inr ⟨k3,k4,_,_,rfl,rfl,s4 _ _ e4,e6,by simp only[length_append,length_cons,length_nil];omega,λk5 t=> ?_⟩);have s5:=qA t (.lst (cs++ [.ref p1]++as++ [.ref p2]));have e7:(upd H4 k5 (.lst (cs++ [.ref p1]++as++ [.ref p2]))) k5=some (.lst (cs++ [.ref p1]++as++ [.ref p2])):=A4;generalize upd H4 k5 (.lst (cs++ [.ref p1]++as++ [.ref p2]))=H5 at s5 e7⊢;have d:=o.trans s5;refine⟨_,rfl,.inr (.inr ⟨k5,b,_,_,rfl,rfl,e7,d _ _ hb,by simp only[length_append,length_cons,length_nil];omega,λk6 k=> ?_⟩)⟩;have s6:=qA k (.lst (cs++ [.ref p1]++as++ [.ref p2]++bs));have e:=d.trans s6;refine q k6 _ _ e (d.free k) A4 ?_;have m:=tups_of e;have f1:RowAt (upd H5 k6 (.lst (cs++ [.ref p1]++as++ [.ref p2]++bs))) [.str "unless",.int ((ra.length:Nat)+1)] (.ref p1):=⟨p1,rfl,by rw[l2];exact s6 _ _ (s5 _ _ (s4 _ _ (s3 _ _ (s2 _ _ e1))))⟩;have f2:RowAt (upd H5 k6 (.lst (cs++ [.ref p1]++as++ [.ref p2]++bs))) [.str "skip",.int (rb.length:Nat)] (.ref p2):=⟨p2,rfl,by rw[l3];exact s6 _ _ (s5 _ _ e5)⟩;exact((((h1.imp λ_ _ h=>h.mono m).app (.cons f1 .nil)).app (h2.imp λ_ _ h=>h.mono m)).app (.cons f2 .nil)).app (h3.imp λ_ _ h=>h.mono m)
end
def NH(S:AS)(H H':Hp)(x:Pt×Int)(v:V):Prop:=∃r cv,v=.ref r/\H' r=some (.tup [cv,.int x.2])/\CAt S H x.1 cv
section
theorem ok_numbered_parts(F:Fun Z "numbered_parts" "numbered_parts" s_numbered_parts f fd):FnOk P w Z mg qB CX0 2 f fd ["node"] (spP rTr):=by
 refine F.ok sc_numbered_parts (λvs H Q E h=> ?_) (λak A C s H vs Q E hr h=> ?_)
 ·obtain⟨S,t,v,rfl,_⟩:=h;rfl
 obtain⟨S,⟨t,fi⟩,v,rfl,⟨p,cv,rfl,hp,hc⟩,X,q⟩:=h;have nd:=sc_numbered_parts.nd;have hu:=hr.units0;have zz:(400001:Nat)<=sizeLine:=by decide
 obtain⟨pc,tv,c,us,rfl,J,ht,N,ah,G⟩:=CAt.open hc;obtain⟨pt,xs,vs,rfl,aa,hs,hk⟩:=PAt.open ht;obtain⟨R,hx⟩:=hs.head;have ae:atI xs ((0:Nat):Int)=some (.str (form t.lab)):=C4 (by rw[hx];rfl);refine⟨_,(A7 (sS 1 nd (ixE Z w (ixE Z w (pv 0) A6) A6))
   (A7 (sS 2 nd (ixE Z w (pv 0) A6))
   (A7 (C2 (B7 (kEq (Z:=Z) hu) (ixE Z w (pv 1) A6) B0 rfl) (A8 (B6 (C8 A5))) C0)
   (A7 (sS 3 nd (C8 A5))
   (A7 (C6 (L4 PassesOwn.never rfl (G8 (Z:=Z) (ixE Z w (ixE Z w (pv 0) A6) A6)) (gN 4 nd) (A7 (E4 (aP Z (pv 3) (B4 (A0 (pv 4) (A0 (pv 2) A5)))))
   (A8 (cZZ (i:=2) nd rfl (Or.inl rfl) (ixE Z w (pv 4) A6) dtZ)))))
   (A8 (B6 (pv 3)))))))), ?_⟩
 refine⟨_,rfl,(ixT hp rfl (ixT J rfl ?_))⟩;refine⟨_,rfl,(ixT hp rfl ?_)⟩;refine⟨_,rfl,(ixT aa ae (.inl ⟨rfl,_,rfl, ?_⟩))⟩;rw[OO];have n:rTr.kids (t,fi)=if Pt.isFn t.lab then []else nums t.kids fi:=rfl
 cases hb:Pt.isFn t.lab
 ·refine ifF nZ ?_;rw[hb]at n;have d:rTr.kids (t,fi)=nums t.kids fi:=n;have ai:(nums t.kids fi).length<=400000:=by
   have h1:=rTr.kids_le (t,fi);rw[d]at h1;exact le_trans h1 X
  have ac:=XV t.kids fi;have W:=G.len;refine⟨(by show 0<=sizeLine;decide),λfl g=> ?_⟩;refine⟨fun σ H'=>∃x y ws,σ=[some (.ref p),some (.ref pt),x,some (.ref fl),y]/\Same H H'/\H' fl=some (.lst ws)/\All2 (NH S H H') (nums t.kids fi) ws, ?_, ?_⟩
  ·refine⟨_,rfl,(ixT ((qA g _) _ _ hp) rfl (ixT ((qA g _) _ _ J) rfl ⟨c,rfl,⟨us,SqL.of ((qA g _) _ _ N)⟩,U7 (xs:=us) (λi σ H'=>∃y ws,σ=[some (.ref p),some (.ref pt),some (.int (fi+(((t.kids.take i).map Pt.fns).sum:Nat))),some (.ref fl),y]/\Same H H'/\H' fl=some (.lst ws)/\All2 (NH S H H') ((nums t.kids fi).take i) ws) ?_ ?_ ?_ ?_⟩))⟩
   ·refine⟨none,[], ?_,qA g _,A4,.nil⟩;show [some (V.ref p),some (.ref pt),some (.int fi),some (.ref fl),none]=_;simp
   ·rintro i σ H' _ ⟨y,ws,rfl,sm,_⟩;exact SqL.of (sm _ _ N)
   ·rintro i u σ H' I ⟨y,ws,rfl,sm,hf,hw⟩;obtain⟨k,L,O⟩:=G.get I;have l:=RF t.kids fi i;rw[L]at l;have l:(nums t.kids fi)[i]? =some (k,fi+(((t.kids.take i).map Pt.fns).sum:Nat)):=l;obtain⟨pk,ag,ck,af,rfl,ab,_⟩:=CAt.open O;have U:=hw.len;rw[length_take]at U;have aj:i<us.length:=(List.getElem?_eq_some_iff.mp I).1;refine⟨_,rfl,.inl ⟨rfl,_,SqL.of hf⟩,_,rfl,_,rfl,C3,λr j=> ?_⟩;have s1:=sm.trans (qA j (.tup [.ref pk,.int (fi+(((t.kids.take i).map Pt.fns).sum:Nat))]));have ad:(upd H' r (.tup [.ref pk,.int (fi+(((t.kids.take i).map Pt.fns).sum:Nat))])) fl=some (.lst ws):=(qA j _) _ _ hf;refine⟨fl,_,_,rfl,rfl,ad,by omega, ?_⟩;have T:r≠fl:=λe=>by subst e;rw[hf]at j;cases j
    have s2:Same H (upd (upd H' r (.tup [.ref pk,.int (fi+(((t.kids.take i).map Pt.fns).sum:Nat))])) fl (.lst (ws++ [.ref r]))):=λb o e=>by rw[B5 (B9 e g)];exact s1 _ _ e
    have Y:(upd (upd H' r (.tup [.ref pk,.int (fi+(((t.kids.take i).map Pt.fns).sum:Nat))])) fl (.lst (ws++ [.ref r]))) r=some (.tup [.ref pk,.int (fi+(((t.kids.take i).map Pt.fns).sum:Nat))]):=by rw[B5 T];exact A4
    have m:∀b xs,H' b=some (.tup xs)->(upd (upd H' r (.tup [.ref pk,.int (fi+(((t.kids.take i).map Pt.fns).sum:Nat))])) fl (.lst (ws++ [.ref r]))) b=some (.tup xs):=λb xs e=>by
     rw[B5 (MA e hf (by intro z;cases z))];exact(qA j _) _ _ e
    have D:All2 (NH S H (upd (upd H' r (.tup [.ref pk,.int (fi+(((t.kids.take i).map Pt.fns).sum:Nat))])) fl (.lst (ws++ [.ref r])))) ((nums t.kids fi).take (i+1)) (ws++ [.ref r]):=by
     rw[_B.take_one l];refine All2.app (hw.imp λa b h=> ?_) (.cons ⟨r,.ref pk,rfl,Y,O⟩ .nil);obtain⟨r3,B,e3,h3,h4⟩:=h;exact⟨r3,B,e3,m _ _ h3,h4⟩
    have M:(upd (upd H' r (.tup [.ref pk,.int (fi+(((t.kids.take i).map Pt.fns).sum:Nat))])) fl (.lst (ws++ [.ref r]))) fl=some (.lst (ws++ [.ref r])):=A4;generalize upd (upd H' r (.tup [.ref pk,.int (fi+(((t.kids.take i).map Pt.fns).sum:Nat))])) fl (.lst (ws++ [.ref r]))=H2 at s2 D M⊢;refine⟨_,rfl,_,rfl,(ixT (s2 _ _ ab) rfl ⟨_,_,rfl,rfl,some (.ref pk),ws++ [.ref r], ?_,s2,M,D⟩)⟩;have e5:fi+(((t.kids.take (i+1)).map Pt.fns).sum:Nat)=fi+(((t.kids.take i).map Pt.fns).sum:Nat)+(k.fns:Nat):=by
     rw[_B.take_one L,map_append,sum_append];simp only[map_cons,map_nil,sum_cons,List.sum_nil];omega
    rw[e5];rfl
   ·rintro σ H' ⟨y,ws,rfl,sm,hf,hw⟩;refine⟨_,_,_,rfl,sm,hf, ?_⟩;rw[take_of_length_le (by rw[ac,W];exact le_refl _)]at hw;exact hw
  rintro σ H' ⟨x,y,ws,rfl,sm,hf,hw⟩;refine⟨_,rfl,q fl H' ws sm g hf ?_⟩;rw[d];refine hw.imp λa b h=> ?_;obtain⟨r3,B,e3,h3,h4⟩:=h;exact⟨r3,B,e3,h3,CAt.mono (.of sm) _ _ h4⟩
 ·refine ifT rfl ?_;rw[hb]at n;have d:rTr.kids (t,fi)=[]:=n;refine⟨(by show 0<=sizeLine;decide),λfl g=>q fl _ [] (qA g _) g A4 ?_⟩;rw[d];exact .nil
theorem ok_rows_with(F:Fun Z "rows_with" "rows_with" s_rows_with f fd)(B:_B.NoG mg)
  (GU:Cn P w Z mg qB CX0 1 "rows_of_if" dEZ d0Z)
  (Q6:Cn P w Z mg qB CX0 1 "one_behind_the_other" M8 LP)
  (MN:Cn P w Z mg qB CX0 1 "last_row" CV WV):
  FnOk P w Z mg qB CX0 2 f fd ["node","rows"] (spM rTr):=by
 refine F.ok sc_rows_with (λvs H Q E h=> ?_) (λaj A L s H vs Q E hr h=> ?_)
 ·obtain⟨S,t,v,l,us,rfl,_⟩:=h;rfl
 obtain⟨S,⟨t,fi⟩,v,l,us,rfl,⟨p,cv,rfl,hp,hc⟩,X,hl,ag,J,M,q⟩:=h;have nd:=sc_rows_with.nd;have hu:=hr.units0;have zz:(16000000:Nat)+10<=sizeLine:=by decide
 obtain⟨pc,tv,c,af,rfl,ab,ht,_⟩:=CAt.open hc;have W:V8 t<=400000:=X;have hrl:=KC t tv fi ht;have U:∀(H':Hp) (r:Addr),Same H H'->H' r=none->¬S r:=λH' r sm h z=>J r z (sm.free h);have ah:∀a,S a->H a≠none:=J;cases t with
 |node o ks=>
 obtain⟨pt,xs,vs,rfl,R,hs,hk⟩:=PAt.open ht;have j:All2 (PAt H) ks vs:=hk;have ad:=j.len;have m:Pt.isFn o=false->All2 (RowsL S H) (rowss ks fi) us:=λhb=>by
  have e:rTr.kids (.node o ks,fi)=nums ks fi:=by show(if Pt.isFn o then []else nums ks fi)=_;rw[hb];rfl
  rw[e]at M;rw[KK];exact All2.mapL M
 have e0:rows (.node o ks) fi=rowsOf fi o (rowss ks fi):=rfl;rw[e0]at hrl;have q':∀r H' ws,Same H H'->H r=none->H' r=some (.lst ws)->All2 (RowAt H') (rowsOf fi o (rowss ks fi)) ws->Q (.ref r) H':=λr H' ws sm hn h1 h2=>q (.ref r) H' sm ⟨r,ws,rfl,h1,λz=>J r z hn,h2⟩;clear q;refine⟨_,(A7 (sS 2 nd (ixE Z w (ixE Z w (pv 0) A6) A6))
   (A7 (sS 3 nd (ixE Z w (pv 2) A6))
   (A7 (C2 (B7 (kIn (Z:=Z) (w:=w)) (pv 3) (B4 (A0 B0 (A0 B0 A5))) rfl) (A8 (B6 (C8 (A0 (B4 (A0 B0 (A0 (ixE Z w (pv 2) A6) A5))) A5)))) C0)
   (A7 (C2 (B7 (kEq (Z:=Z) hu) (pv 3) B0 rfl) (A8 (B6 (C8 (A0 (B4 (A0 B0 A5)) A5)))) C0)
   (A7 (C2 (B7 (kEq (Z:=Z) hu) (pv 3) B0 rfl) (A8 (B6 (C8 (A0 (B4 (A0 B0 (A0 (ixE Z w (pv 2) A6) A5))) A5)))) C0)
   (A7 (C2 (B7 (kEq (Z:=Z) hu) (pv 3) B0 rfl) (A8 (B6 (cC GU hr (A0 (ixE Z w (pv 1) A6) (A0 (ixE Z w (pv 1) A6) (A0 (ixE Z w (pv 1) A6) A5)))))) C0)
   (A7 (C2 (B7 (kEq (Z:=Z) hu) (pv 3) B0 rfl) (A8 (B6 (B8 L5 (B8 L5 (ixE Z w (pv 1) A6) (C8 (A0 (B4 (A0 B0 (A0 (ixE Z w (pv 2) A6) A5))) A5))) (ixE Z w (pv 1) A6)))) C0)
   (A7 (C2 (B7 (kEq (Z:=Z) hu) (pv 3) B0 rfl) (A8 (B6 (B8 L5 (L6 (cS (N:=BX) (sc:=A9 s_rows_with) (caps:=[]) (ns:=[])) rfl rfl rfl (EN (Z:=Z) (ixE Z w (pv 2) A6)) (λ_ _ _ _ _=>J8) (λ_ _ _ _ _=>(B4 (A0 B0 (A0 (pv 0) A5))))) (C8 (A0 (B4 (A0 B0 (A0 (ixE Z w (pv 0) A6) (A0 (kL Z B.len_ (ixE Z w (pv 2) A6)) A5)))) A5))))) C0)
   (A8 (B6 (B8 L5 (cC Q6 hr (A0 (pv 1) A5)) (C8 (A0 (cC MN hr (A0 (pv 2) A5)) A5))))))))))))), ?_⟩
 refine⟨_,rfl,(ixT hp rfl (ixT ab rfl ?_))⟩;obtain⟨V,hx⟩:=hs.head;have ae:atI xs ((0:Nat):Int)=some (.str (form o)):=C4 (by rw[hx];rfl);refine⟨_,rfl,(ixT R ae ?_)⟩;refine⟨_,rfl,C3,λpq aa=> .inr (.inl ⟨pq,_,rfl,.inr (SqT.of A4),rfl,rfl,_,rfl, ?_⟩)⟩;have s0:=qA aa (.tup [.str "number",.str "truth"]);show if inV (.str (form o)) [.str "number",.str "truth"]=true then _ else _
 have g:=s0 _ _ R;have O:=hs.mono (tups_of s0);have hl0:=s0 _ _ hl;have ac:=s0 _ _ hp;generalize upd H pq (.tup [.str "number",.str "truth"])=H0 at s0 g O hl0 ac⊢;have d:∀(H':Hp) (pr lr:Addr) (I:Row),Same H0 H'->H' pr=some (.tup I)->H' lr=some (.lst [.ref pr])->H lr=none->rowsOf fi o (rowss ks fi)=[I]->Q (.ref lr) H':=λH' pr lr I sm h1 h2 h3 h4=>
  q' lr H' [.ref pr] (s0.trans sm) h3 h2 (by rw[h4];exact .cons ⟨pr,rfl,h1⟩ .nil)
 cases O
 case num i=>
  refine ifT rfl ?_;exact⟨_,rfl,(ixT g rfl ⟨C3,λr u=>⟨F5,λr2 n=>d _ r r2 _ ((qA u _).trans (qA n _)) ((qA n _) _ _ A4) A4 (s0.free ((qA u _).free n)) rfl⟩⟩)⟩
 case tru b=>
  refine ifT rfl ?_;exact⟨_,rfl,(ixT g rfl ⟨C3,λr u=>⟨F5,λr2 n=>d _ r r2 _ ((qA u _).trans (qA n _)) ((qA n _) _ _ A4) A4 (s0.free ((qA u _).free n)) rfl⟩⟩)⟩
 case slot k=>
  refine ifF nZ ⟨_,rfl,.inl ⟨rfl,_,rfl,ifF nZ ⟨_,rfl,.inl ⟨rfl,_,rfl,ifT rfl ?_⟩⟩⟩⟩;exact⟨_,rfl,(ixT g rfl ⟨C3,λr u=>⟨F5,λr2 n=>d _ r r2 _ ((qA u _).trans (qA n _)) ((qA n _) _ _ A4) A4 (s0.free ((qA u _).free n)) rfl⟩⟩)⟩
 case ite a b c=>
  refine ifF nZ ⟨_,rfl,.inl ⟨rfl,_,rfl,ifF nZ ⟨_,rfl,.inl ⟨rfl,_,rfl,ifF nZ ⟨_,rfl,.inl ⟨rfl,_,rfl,ifT rfl ?_⟩⟩⟩⟩⟩⟩;have hr3:=m rfl;rcases j with _|⟨_,j⟩
  rename_i ka ksa _;rcases j with _|⟨_,j⟩
  rcases j with _|⟨_,j⟩;cases j;rename_i ka _ kb _ kc _;rcases hr3 with _|⟨h1,hr3⟩;rcases hr3 with _|⟨h2,hr3⟩;rcases hr3 with _|⟨h3,hr3⟩;cases hr3;obtain⟨l1,w1,rfl,hl1,_,r1⟩:=h1;obtain⟨l2,w2,rfl,hl2,_,r2⟩:=h2;obtain⟨l3,w3,rfl,hl3,_,r3⟩:=h3;refine⟨_,rfl,(ixL hl0 rfl ⟨_,rfl,(ixL hl0 rfl ⟨_,rfl,(ixL hl0 rfl ?_)⟩)⟩)⟩;refine⟨l1,l2,l3,w1,w2,w3,_,_,_,rfl,s0 _ _ hl1,s0 _ _ hl2,s0 _ _ hl3,r1.imp λ_ _ h=>h.mono (tups_of s0),r2.imp λ_ _ h=>h.mono (tups_of s0),r3.imp λ_ _ h=>h.mono (tups_of s0), ?_,λr H' ws sm hn h4 h5=>q' r H' ws (s0.trans sm) (s0.free hn) h4 h5⟩;simp only[rowss,rowsOf,length_append]at hrl;omega
 case let_ k a b _=>
  refine ifF nZ ⟨_,rfl,.inl ⟨rfl,_,rfl,ifF nZ ⟨_,rfl,.inl ⟨rfl,_,rfl,ifF nZ ⟨_,rfl,.inl ⟨rfl,_,rfl,ifF nZ ⟨_,rfl,.inl ⟨rfl,_,rfl,ifT rfl ?_⟩⟩⟩⟩⟩⟩⟩⟩;have hr3:=m rfl;rcases j with _|⟨_,j⟩
  rcases j with _|⟨_,j⟩;cases j;rcases hr3 with _|⟨h1,hr3⟩;rcases hr3 with _|⟨h2,hr3⟩;cases hr3;obtain⟨l1,w1,rfl,hl1,_,r1⟩:=h1;obtain⟨l2,w2,rfl,hl2,_,r2⟩:=h2;have e1:=r1.len;have e2:=r2.len;simp only[rowss,rowsOf,length_append,length_cons,length_nil]at hrl;refine⟨_,rfl,(ixL hl0 rfl ⟨_,rfl,(ixT g rfl ⟨C3,λpr Y=>⟨F5,λk1 y=> ?_⟩⟩)⟩)⟩;have s1:=(qA Y (.tup [.str "keep",.int k])).trans (qA y (.lst [.ref pr]));have g1:(upd (upd H0 pr (.tup [.str "keep",.int k])) k1 (.lst [.ref pr])) pr=some (.tup [.str "keep",.int k]):=(qA y _) _ _ A4;have g2:(upd (upd H0 pr (.tup [.str "keep",.int k])) k1 (.lst [.ref pr])) k1=some (.lst [.ref pr]):=A4;generalize upd (upd H0 pr (.tup [.str "keep",.int k])) k1 (.lst [.ref pr])=H1 at s1 g1 g2⊢;refine .inr (.inr ⟨l1,k1,_,_,rfl,rfl,s1 _ _ (s0 _ _ hl1),g2,by simp only[length_cons,length_nil];omega,λk2 x=> ?_⟩);have s2:=qA x (.lst (w1++ [.ref pr]));have G:=s0.trans (s1.trans s2);refine⟨_,rfl,(ixL (s2 _ _ (s1 _ _ hl0)) rfl (.inr (.inr ⟨k2,l2,_,_,rfl,rfl,A4,G _ _ hl2,by simp only[length_append,length_cons,length_nil];omega,λk3 T=> ?_⟩)))⟩;have s3:=qA T (.lst (w1++ [.ref pr]++w2));have D:=G.trans s3;refine q' k3 _ _ D (G.free T) A4 ?_;exact((r1.imp λ_ _ h=>h.mono (tups_of D)).app (.cons ⟨pr,rfl,s3 _ _ (s2 _ _ g1)⟩ .nil)).app (r2.imp λ_ _ h=>h.mono (tups_of D))
 all_goals
  refine ifF nZ ⟨_,rfl,.inl ⟨rfl,_,rfl,ifF nZ ⟨_,rfl,.inl ⟨rfl,_,rfl,ifF nZ ⟨_,rfl,.inl ⟨rfl,_,rfl,ifF nZ ⟨_,rfl,.inl ⟨rfl,_,rfl,ifF nZ ⟨_,rfl,.inl ⟨rfl,_,rfl,ifF nZ ?_⟩⟩⟩⟩⟩⟩⟩⟩⟩⟩;have hr3:=(m rfl).imp λ_ _ h=>(h.wide (S':=λ_=>False) λ_ z=>z.elim).mono (Kp.of s0);rw[BQ rfl,length_append]at hrl;refine⟨_,rfl,l,us,rowss ks fi,rfl,hl0,hr3,by omega,λr H' ws sm hn h1 h2=> ?_⟩;refine⟨_,rfl,pt,_,_,_,rfl,sm _ _ g,hs.mono (tups_of (s0.trans sm)),rfl,λr2 H2 C h3=>⟨F5,λk1 y=> ?_⟩⟩;have s3:=qA y (.lst [.ref r2]);have ai:=h2.len;refine .inr (.inr ⟨r,k1,_,_,rfl,rfl,s3 _ _ (C _ _ h1),A4,by simp only[length_cons,length_nil];omega,λk2 x=> ?_⟩);have s4:=C.trans (s3.trans (qA x (.lst (ws++ [.ref r2]))));refine q' k2 _ _ (s0.trans (sm.trans s4)) (s0.free (sm.free (C.free (s3.free x)))) A4 ?_;rw[BQ rfl,SX,ad];exact(h2.imp λ_ _ h=>h.mono (tups_of s4)).app (.cons ⟨r2,rfl,(qA x _) _ _ (s3 _ _ h3)⟩ .nil)
inductive spRCW (vs:List V) (H:Hp) (Q:VK):Prop
 |mk:∀t v fi,(vs=[v,.int fi])->(CAt (λ_=>False) H t v)->(t.size<=400000)->(∀r H',Same H H'->bzZ H' (rows t fi) r->Q r H')->spRCW vs H Q
def erZ:Sp:=λvs H Q _=>spRCW vs H Q
theorem ok_rows_of_counted(F:Fun Z "rows_of_counted" "rows_of_counted" s_rows_of_counted f fd)(B:_B.NoG mg)(N9:Cn P w Z mg qB CX0 4 "built_up" OD (_B.spBuilt P w Z mg qB))
  (L7:Cn P w Z mg qB CX0 2 "numbered_parts" ["node"] (spP rTr))
  (S9:Cn P w Z mg qB CX0 2 "rows_with" ["node","rows"] (spM rTr)):
  FnOk P w Z mg qB CX0 5 f fd cyZ erZ:=by
 obtain⟨L9,L8,L7,AM,AG,AE⟩:=L7;obtain⟨T2,S7,S9,IY,IP,JB⟩:=S9;refine F.ok sc_rows_of_counted (λvs H Q E h=> ?_) (λg A a s H vs Q E hr h=> ?_)
 ·obtain⟨t,v,fi,rfl,_⟩:=h;rfl
 obtain⟨t,v,fi,rfl,hv,d,q⟩:=h;have nd:=sc_rows_of_counted.nd;refine⟨_,(A8 (B6 (E6 (DC (Z:=Z)) rfl B.tuple_ Q1 (A0 (cC N9 hr (A0 (B4 (A0 (pv 0) (A0 (pv 1) A5))) (A0 (D7 (v:=.ref _) rfl AE rfl) (A0 (D7 (v:=.ref _) rfl JB rfl) A5)))) A5)))), ?_⟩;refine⟨_,rfl,_,rfl,C3,λp hp=> ?_⟩;have s1:=qA hp (.tup [v,.int fi]);refine⟨rTr,λ_=>False,(t,fi),.ref p,L9,T2,L8,S7,_,_,rfl,L7,AG,AM,S9,IP,IY,λ_ h=>h.elim,
  ⟨p,v,rfl,A4,CAt.mono (.of s1) _ _ hv⟩,le_trans (LT t) d,λr H' sm e=> ?_⟩
 obtain⟨l,us,rfl,hl,_,c⟩:=e;exact⟨l,us,rfl,.inl ⟨SqL.of hl,λr2 b=>q (.ref r2) _ (s1.trans (sm.trans (qA b _))) ⟨r2,us,rfl,A4,c.imp λ_ _ h=>h.mono (tups_of (qA b _))⟩⟩⟩
inductive spRowsW (vs:List V) (H:Hp) (Q:VK):Prop
 |mk:∀t v fi,(vs=[v,.int fi])->(PAt H t v)->(t.size<=400000)->(∀r H',Same H H'->bzZ H' (rows t fi) r->Q r H')->spRowsW vs H Q
def spRows:Sp:=λvs H Q _=>spRowsW vs H Q
theorem ok_rows_of(F:Fun Z "rows_of" "rows_of" s_rows_of f fd)
  (RU:Cn P w Z mg qB CX0 5 "counted" CV GE)
  (Y2:Cn P w Z mg qB CX0 5 "rows_of_counted" cyZ erZ):
  FnOk P w Z mg qB CX0 6 f fd cYZ spRows:=by
 refine F.ok sc_rows_of (λvs H Q E h=> ?_) (λd A a s H vs Q E hr h=> ?_)
 ·obtain⟨t,v,fi,rfl,_⟩:=h;rfl
 obtain⟨t,v,fi,rfl,hv,b,q⟩:=h;have nd:=sc_rows_of.nd;refine⟨_,(A8 (B6 (cC Y2 hr (A0 (cC RU hr (A0 (pv 0) A5)) (A0 (pv 1) A5))))), ?_⟩;exact⟨_,rfl,λ_=>False,t,v,rfl,hv,b,λ_ h=>h.elim,λr H' sm hc=>⟨_,rfl,t,r,fi,rfl,hc,b,λr2 H2 c h=>q r2 H2 (sm.trans c) h⟩⟩
end
end _P
namespace _F
open PySem _L
open _C (Bd)
def ty:U->Bool
 | .n _=>true
 | .b _=>false
def tk:Nat->Bool
 |0=>true|1=>true|2=>true|3=>false|4=>false|_=>true
theorem HQ[Decidable c](h:(if c then(.inr w:U⊕Nat)else .inl v)=.inl u):u=v:=by
 by_cases e:c
 ·rw[if_pos e]at h;cases h
 ·rw[if_neg e]at h;exact(Sum.inl.inj h).symm
theorem ckZ(h:twc k x y=.inl u):ty u=tk k:=by
 match k,h with
 |0,h=>rw[HQ (h:(if x+y>_N.GR\/x+y< -_N.GR then(.inr 1:U⊕Nat)else .inl (.n (x+y)))=.inl u)];rfl
 |1,h=>rw[HQ (h:(if x - y>_N.GR\/x - y< -_N.GR then(.inr 1:U⊕Nat)else .inl (.n (x - y)))=.inl u)];rfl
 |2,h=>rw[HQ (h:(if x*y>_N.GR\/x*y< -_N.GR then(.inr 1:U⊕Nat)else .inl (.n (x*y)))=.inl u)];rfl
 |3,h=>rw[<-Sum.inl.inj (h:(.inl (.b (decide (x<y))):U⊕Nat)=.inl u)];rfl
 |4,h=>rw[<-Sum.inl.inj (h:(.inl (.b (decide (V.int x=V.int y))):U⊕Nat)=.inl u)];rfl
 |k+5,h=>rw[HQ (h:(if y=0 then(.inr 0:U⊕Nat)else .inl (.n (x.fdiv y)))=.inl u)];rfl
def GR(ms:List (Option Q))(a:Nat)(f:Sl)(st:List U):Prop:=∃o m,Rn twc ms a f st o m
abbrev Gm:=Nat->Option Bool
def SlOk(Γ:Gm)(f:Sl):Prop:=∀(s:Nat) (κ:Bool),Γ s=some κ->∃u,f s=some u/\ty u=κ
def O5(Γ:Gm)(s:Nat)(κ:Bool):Gm:=λt=>if t=s then some κ else Γ t
def ix(l:List Bool):Gm:=λs=>l[s]?
def Le(Γ Γ':Gm):Prop:=∀s κ,Γ s=some κ->Γ' s=some κ
theorem SlOk.le(h:SlOk Γ' f)(hl:Le Γ Γ'):SlOk Γ f:=λs κ e=>h s κ (hl s κ e)
theorem SlOk.put{f:Sl}(h:SlOk Γ f)(s:Nat)(u:U):SlOk (O5 Γ s (ty u)) (put f s u):=λt κ ht=>by
 unfold O5 at ht;unfold _F.put;by_cases e:t=s
 ·rw[if_pos e]at ht⊢;exact⟨u,rfl,sJ ht⟩
 ·rw[if_neg e]at ht⊢;exact h t κ ht
theorem BF{Γ:Gm}{s:Nat}(h:Γ s=none):Le Γ (O5 Γ s κ):=λt μ e=>by
 unfold O5;rw[if_neg (λz=>by rw[z,h]at e;cases e)];exact e
theorem KG{s:Nat}:Le (O5 Γ s κ) (O5 (O5 Γ s κ) s κ):=λt μ e=>by
 by_cases z:t=s
 ·unfold O5 at e⊢;rw[if_pos z]at e⊢;exact e
 ·unfold O5;rw[if_neg z];exact e
theorem eAZ{l:List Bool}{κ:Bool}:Le (ix (l++ [κ])) (O5 (ix l) l.length κ):=λt μ e=>by
 unfold O5 ix at*;by_cases z:t=l.length
 ·rw[if_pos z];rw[z,getElem?_append_right (le_refl _),sub_self]at e;exact e
 ·rw[if_neg z];have hl:=(List.getElem?_eq_some_iff.mp e).1;rw[length_append]at hl;have h1: [κ].length=1:=rfl
  rwa [getElem?_append_left (by omega)]at e
theorem eeZ{κ:Bool}:Le (ix l) (ix (l++ [κ])):=λt μ e=>by
 unfold ix at*;rw[getElem?_append_left (List.getElem?_eq_some_iff.mp e).1];exact e
def At(ms:List (Option Q))(a:Nat)(rs:List Q):Prop:=∀(i:Nat) (q:Q),rs[i]? =some q->ms[a+i]? =some (some q)
theorem At.left{A B:List Q}(h:At ms a (A++B)):At ms a A:=λi q hq=>h i q (by rw[getElem?_append_left (List.getElem?_eq_some_iff.mp hq).1];exact hq)
theorem At.right{A B:List Q}(h:At ms a (A++B)):At ms (a+A.length) B:=λi q hq=>by
 have:=h (A.length+i) q (by rw[getElem?_append_right (Nat.le_add_right _ _),Nat.add_sub_cancel_left];exact hq)
 rwa [<-Nat.add_assoc]at this
theorem At.hd{q:Q}{r:List Q}(h:At ms a (q::r)):ms[a]? =some (some q):=h 0 q rfl
theorem At.tl{q:Q}{r:List Q}(h:At ms a (q::r)):At ms (a+1) r:=λi p hp=>by
 have:=h (i+1) p hp
 rwa [show a+(i+1)=a+1+i by omega]at this
def Doe(Γ Γ':Gm)(ki ko:List Bool)(rs:List Q):Prop:=∀(ms:List (Option Q)) (a:Nat) (f:Sl) (st xs:List U),At ms a rs->SlOk Γ f->xs.map ty=ki->(∀(f':Sl) (ys:List U),SlOk Γ' f'->ys.map ty=ko->GR ms (a+rs.length) f' (ys++st))->GR ms a f (xs++st)
section
theorem Doe.app{Γ':Gm}(h1:Doe Γ Γ' k1 k2 A)(h2:Doe Γ' Γ'' k2 k3 B):Doe Γ Γ'' k1 k3 (A++B):=λms a f st xs hA hf hx hk=>h1 ms a f st xs hA.left hf hx λf' ys c hy=>h2 ms _ f' st ys hA.right c hy λd zs b hz=>by
 have:=hk d zs b hz
 rwa [length_append,<-Nat.add_assoc]at this
theorem Doe.frame{Γ':Gm}(h:Doe Γ Γ' k1 k2 rs)(z:List Bool):Doe Γ Γ' (k1++z) (k2++z) rs:=by
 intro ms a f st xs hA hf hx hk;rw[<-take_append_drop k1.length xs,List.append_assoc];refine h ms a f _ _ hA hf ?_ λf' ys b hy=> ?_
 ·rw[List.map_take,hx,List.take_left'];rfl
 ·rw[<-List.append_assoc];exact hk f' _ b (by rw[map_append,hy,List.map_drop,hx,List.drop_left'];rfl)
theorem Doe.post{Γ':Gm}(h:Doe Γ Γ' k1 k2 rs)(l:Le Γ'' Γ'):Doe Γ Γ'' k1 k2 rs:=λms a f st xs hA hf hx hk=>h ms a f st xs hA hf hx λf' ys b hy=>hk f' ys (b.le l) hy
theorem Doe.nil{k1:List Bool}:Doe Γ Γ k1 k1 []:=λms a f st xs hA hf hx hk=>hk f xs hf hx
theorem Doe.push(u:U):Doe Γ Γ [] [ty u] [.push u]:=λms a f st xs hA hf hx hk=>by
 cases xs with
 |cons x r=>cases hx
 |nil=>
  obtain⟨o,m,h⟩:=hk f [u] hf rfl;exact⟨o,m+1,.push hA.hd h⟩
theorem Doe.load{Γ:Gm}{s:Nat}{κ:Bool}(h:Γ s=some κ):Doe Γ Γ [] [κ] [.load s]:=λms a f st xs hA hf hx hk=>by
 cases xs with
 |cons x r=>cases hx
 |nil=>
  obtain⟨u,h1,h2⟩:=hf s κ h;obtain⟨o,m,h⟩:=hk f [u] hf (by rw[<-h2];rfl);exact⟨o,m+1,.load hA.hd h1 h⟩
theorem Doe.keep(s:Nat)(κ:Bool):Doe Γ (O5 Γ s κ) [κ] [] [.keep s]:=λms a f st xs hA hf hx hk=>by
 match xs,hx with
 | [u],hx=>
  have e:ty u=κ:=(List.cons.inj hx).1;obtain⟨o,m,h⟩:=hk (_F.put f s u) [] (by rw[<-e];exact hf.put s u) rfl;exact⟨o,m+1,.keep hA.hd h⟩
theorem Doe.two(k:Nat):Doe Γ Γ [true,true] [tk k] [.two k]:=λms a f st xs hA hf hx hk=>by
 match xs,hx with
 | [.n y,.n x],hx=>
  cases e:twc k x y with
  |inr w=>exact⟨_,_,.twoR hA.hd e⟩
  |inl u=>
   obtain⟨o,m,h⟩:=hk f [u] hf (by rw[<-ckZ e];rfl);exact⟨o,m+1,.two hA.hd e h⟩
theorem Doe.not:Doe Γ Γ [false] [false] [.not]:=λms a f st xs hA hf hx hk=>by
 match xs,hx with
 | [.b c],hx=>
  obtain⟨o,m,h⟩:=hk f [.b (!c)] hf rfl;exact⟨o,m+1,.not hA.hd h⟩
theorem Doe.unl{k1:List Bool}(h:Doe Γ Γ k1 k1 A):Doe Γ Γ (false::k1) k1 (.unl A.length::A):=λms a f st xs hA hf hx hk=>by
 match xs,hx with
 | .b c::ys,hx=>
  have hy:ys.map ty=k1:=(List.cons.inj hx).2;have:GR ms (if c=true then a+1 else a+1+A.length) f (ys++st):=by
   cases c with
   |true=>exact h ms (a+1) f st ys hA.tl hf hy λf' zs d hz=>by have:=hk f' zs d hz;rwa [length_cons,show a+(A.length+1)=a+1+A.length by omega]at this
   |false=>have:=hk f ys hf hy;rwa [length_cons,show a+(A.length+1)=a+1+A.length by omega]at this
  obtain⟨o,m,h⟩:=this;exact⟨o,m+1,.unl hA.hd h⟩
theorem Doe.ite{Γ':Gm}(h1:Doe Γ Γ' k1 k2 A)(h2:Doe Γ Γ' k1 k2 B):Doe Γ Γ' (false::k1) k2 (.unl (A.length+1)::(A++(.skip B.length::B))):=λms a f st xs hA hf hx hk=>by
 match xs,hx with
 | .b c::ys,hx=>
  have hy:ys.map ty=k1:=(List.cons.inj hx).2;have e1:a+(Q.unl (A.length+1)::(A++(Q.skip B.length::B))).length=a+1+A.length+1+B.length:=by simp only[length_cons,length_append];omega
  rw[e1]at hk;have hB:=hA.tl.right;have:GR ms (if c=true then a+1 else a+1+(A.length+1)) f (ys++st):=by
   cases c with
   |true=>
    refine h1 ms (a+1) f st ys hA.tl.left hf hy λf' zs d hz=> ?_;obtain⟨o,m,h⟩:=hk f' zs d hz;exact⟨o,m+1,.skip hB.hd h⟩
   |false=>
    refine h2 ms (a+1+(A.length+1)) f st ys ?_ hf hy λf' zs d hz=> ?_
    ·have:=hB.tl
     rwa [show a+1+A.length+1=a+1+(A.length+1) by omega]at this
    ·have:=hk f' zs d hz
     rwa [show a+1+A.length+1+B.length=a+1+(A.length+1)+B.length by omega]at this
  obtain⟨o,m,h⟩:=this;exact⟨o,m+1,.unl hA.hd h⟩
theorem Doe.skip{k1:List Bool}(A:List Q):Doe Γ Γ k1 k1 (.skip A.length::A):=λms a f st xs hA hf hx hk=>by
 have:=hk f xs hf hx;rw[length_cons,show a+(A.length+1)=a+1+A.length by omega]at this;obtain⟨o,m,h⟩:=this;exact⟨o,m+1,.skip hA.hd h⟩
end
theorem Doe.run{Γ':Gm}{κ:Bool}(h:Doe Γ Γ' [] [κ] rs){f:Sl}(hf:SlOk Γ f):∃o m,Rn twc ((rs++ [Q.back]).map some) 0 f [] o m:=by
 refine h ((rs++ [Q.back]).map some) 0 f [] [] (λi q hq=> ?_) hf rfl λf' ys a hy=> ?_
 ·rw[Nat.zero_add,getElem?_map,getElem?_append_left (List.getElem?_eq_some_iff.mp hq).1,hq];rfl
 ·match ys,hy with
  | [u],hy=>
   refine⟨_,_,.back (u:=u) ?_⟩;rw[Nat.zero_add,getElem?_map,getElem?_append_right (le_refl _),sub_self];rfl
theorem Rn.le{tw:Nat->Int->Int->U⊕Nat}{st:List U}(h:Rn tw ms a f st o m):a+m<=ms.length:=by
 induction h with
 |gone _ _ ih=>omega
 |push _ _ ih=>omega
 |load _ _ _ ih=>omega
 |keep _ _ ih=>omega
 |two _ _ _ ih=>omega
 |twoR h _=>have:=(List.getElem?_eq_some_iff.mp h).1;omega
 |not _ _ ih=>omega
 |skip _ _ ih=>omega
 |unl _ _ ih=>split at ih<;>omega
 |back h=>have:=(List.getElem?_eq_some_iff.mp h).1;omega
def Jq:Q->Nat->Prop
 | .skip k,n=>k<=n
 | .unl k,n=>k<=n
 |_,_=>True
def Kq:Q->Prop
 | .keep s=>s<40
 |_=>True
def Cd:List Q->Prop
 | []=>True
 |q::r=>(Jq q r.length/\QOk q/\Kq q)/\Cd r
theorem Jq.le{m:Nat}(h:Jq q n)(l:n<=m):Jq q m:=by
 cases q<;>first|trivial|exact le_trans h l
theorem Cd.app(ha:Cd A)(hb:Cd B):Cd (A++B):=by
 induction A with
 |nil=>exact hb
 |cons q r ih=>exact⟨⟨ha.1.1.le (by show r.length<=(r++B).length;rw[length_append];omega),ha.1.2⟩,ih ha.2⟩
theorem Cd.mem(h:Cd rs):∀q∈rs,QOk q/\Kq q:=by
 induction rs with
 |nil=>intro q hq;cases hq
 |cons p r ih=>
  intro q hq;rcases cZ hq with rfl|hq
  ·exact h.1.2
  ·exact ih h.2 q hq
theorem Cd.goal(h:Cd rs):∀ {i t:Nat} {q:Q},rs[i]? =some q->gn q i=some t->t<=rs.length:=by
 induction rs with
 |nil=>intro i t q e;simp at e
 |cons p r ih=>
  intro i t q e hg;cases i with
  |zero=>
   simp only[List.getElem?_cons_zero,Option.some.injEq]at e;subst e;have:=h.1.1;cases p with
   |skip n=>cases hg;have:n<=r.length:=this;rw[length_cons];omega
   |unl n=>cases hg;have:n<=r.length:=this;rw[length_cons];omega
   |_=>cases hg
  |succ i=>
   simp only[List.getElem?_cons_succ]at e;rw[length_cons];cases q with
   |skip n=>cases hg;have:=ih h.2 e rfl;omega
   |unl n=>cases hg;have:=ih h.2 e rfl;omega
   |_=>cases hg
theorem cNZ{k:Nat}(h:k<6):QOk (.two k):=⟨(λj z=>by cases z;exact h),(λi z=>by cases z)⟩
theorem amZ(h:Bd i):QOk (.push (.n i)):=⟨(λj z=>by cases z),(λj z=>by cases z;exact h)⟩
theorem X1{q:Q}(h1:∀k,q≠ .two k)(h2:∀i,q≠ .push (.n i)):QOk q:=⟨λk z=>absurd z (h1 k),λi z=>absurd z (h2 i)⟩
theorem bdZ(s:Nat):QOk (.load s):=X1 (λ_ z=>by cases z) (λ_ z=>by cases z)
theorem anZ(s:Nat):QOk (.keep s):=X1 (λ_ z=>by cases z) (λ_ z=>by cases z)
theorem elZ(b:Bool):QOk (.push (.b b)):=X1 (λ_ z=>by cases z) (λ_ z=>by cases z)
theorem csZ:QOk .not:=X1 (λ_ z=>by cases z) (λ_ z=>by cases z)
theorem a0Z(s:Nat):QOk (.skip s):=X1 (λ_ z=>by cases z) (λ_ z=>by cases z)
theorem clZ(s:Nat):QOk (.unl s):=X1 (λ_ z=>by cases z) (λ_ z=>by cases z)
theorem a9Z:QOk .back:=X1 (λ_ z=>by cases z) (λ_ z=>by cases z)
theorem Cd.gd(h:Cd rs):Gd (rs++ [.back]):=by
 refine⟨λq hq=> ?_, ?_,λi j s=> ?_⟩
 ·rcases mem_append.mp hq with z|z
  ·exact(h.mem q z).1
  ·rw[sZ z];exact a9Z
 ·rw[length_map,length_append];exact succ_pos _
 ·obtain⟨r,hr,e⟩:=s;obtain⟨q,hq,rfl⟩:=RD hr;rw[length_map,length_append];show j<rs.length+1;by_cases hi:i<rs.length
  ·rcases e with⟨_,e⟩|e
   ·omega
   ·rw[EX]at e;rw[getElem?_append_left hi]at hq;have:=h.goal hq e;omega
  ·have hl:=(List.getElem?_eq_some_iff.mp hq).1;rw[length_append]at hl;have a:i=rs.length:=by have: [Q.back].length=1:=rfl;omega
   rw[a,getElem?_append_right (le_refl _),sub_self]at hq;cases hq;rcases e with⟨e,_⟩|e
   ·exact absurd rfl (stays_tj.mp e).1
   ·cases e
end _F
namespace _F
open PySem _L
open _C (Bd)
open _P (Pt Lab)
theorem cdp(h:Bd i)(hr:Cd r):Cd (.push (.n i)::r):=⟨⟨trivial,amZ h,trivial⟩,hr⟩
theorem cdb(hr:Cd r):Cd (.push (.b b)::r):=⟨⟨trivial,elZ b,trivial⟩,hr⟩
theorem cdl(hr:Cd r):Cd (.load s::r):=⟨⟨trivial,bdZ s,trivial⟩,hr⟩
theorem cdk{s:Nat}(h:s<40)(hr:Cd r):Cd (.keep s::r):=⟨⟨trivial,anZ s,h⟩,hr⟩
theorem cdt{k:Nat}(h:k<6)(hr:Cd r):Cd (.two k::r):=⟨⟨trivial,cNZ h,trivial⟩,hr⟩
theorem cdn(hr:Cd r):Cd (.not::r):=⟨⟨trivial,csZ,trivial⟩,hr⟩
theorem cds{k:Nat}{r:List Q}(h:k<=r.length)(hr:Cd r):Cd (.skip k::r):=⟨⟨h,a0Z k,trivial⟩,hr⟩
theorem cdu{k:Nat}{r:List Q}(h:k<=r.length)(hr:Cd r):Cd (.unl k::r):=⟨⟨h,clZ k,trivial⟩,hr⟩
theorem J7{i:Int}(h1: -1000000000000<=i)(h2:i<=1000000000000):Bd i:=by
 have e:_N.GR=10000000000000000000000000000000000000000:=rfl;unfold _C.Bd;rw[e];omega
noncomputable def qk:Nat->Nat
 |0=>3|1=>4|3=>0|4=>1|5=>2|_=>5
inductive Wt:List Bool->Bool->Pt->List Q->Prop
 |num {l:List Bool} {i:Int}:Bd i->Wt l true (.node (.num i) []) [.push (.n i)]
 |tru {l:List Bool} {b:Bool}:Wt l false (.node (.tru b) []) [.push (.b b)]
 |slot {l:List Bool} {κ:Bool} {s:Nat}:l[s]? =some κ->Wt l κ (.node (.slot (s:Nat)) []) [.load s]
 |two {l:List Bool} {j:Nat} {t1 t2:Pt} {A B:List Q}:j<7->j≠2->Wt l true t1 A->Wt l true t2 B->Wt l (tk (qk j)) (.node (.two j) [t1,t2]) (A++(B++ [.two (qk j)]))
 |not {l:List Bool} {t:Pt} {A:List Q}:Wt l false t A->Wt l false (.node (.one 3) [t]) (A++ [.not])
 |ite {l:List Bool} {κ:Bool} {t0 t1 t2:Pt} {C A B:List Q}:Wt l false t0 C->Wt l κ t1 A->Wt l κ t2 B->Wt l κ (.node .ite [t0,t1,t2]) (C++(.unl (A.length+1)::(A++(.skip B.length::B))))
 |let_ {l:List Bool} {κ1 κ:Bool} {t1 t2:Pt} {A B:List Q}:l.length<20->Wt l κ1 t1 A->Wt (l++ [κ1]) κ t2 B->Wt l κ (.node (.let_ (l.length:Nat)) [t1,t2]) (A++(.keep l.length::B))
theorem Wt.doe{t:Pt}(h:Wt l κ t qs):Doe (ix l) (ix l) [] [κ] qs:=by
 induction h with
 |num _=>exact Doe.push (.n _)
 |tru=>exact Doe.push (.b _)
 |slot h=>exact Doe.load h
 |two _ _ _ _ h1 h2=>exact h1.app ((h2.frame [true]).app (Doe.two _))
 |not _ h1=>exact h1.app Doe.not
 |ite _ _ _ h0 h1 h2=>exact h0.app (Doe.ite h1 h2)
 |let_ _ _ _ h1 h2=>exact h1.app (((Doe.keep _ _).post eAZ).app (A:=[_]) (h2.post eeZ))
theorem Wt.cd{t:Pt}(h:Wt l κ t qs):Cd qs:=by
 induction h with
 |num h=>exact cdp h trivial
 |tru=>exact cdb trivial
 |slot _=>exact cdl trivial
 | @two l j t1 t2 A B hj _ _ _ h1 h2=>exact h1.app (h2.app (cdt (by unfold qk;split<;>decide) trivial))
 |not _ h1=>exact h1.app (cdn trivial)
 |ite _ _ _ h0 h1 h2=>exact h0.app (cdu (by rw[length_append,length_cons];omega) (h1.app (cds (le_refl _) h2)))
 |let_ h _ _ h1 h2=>exact h1.app (cdk (by omega) h2)
theorem Wt.len{t:Pt}(h:Wt l κ t qs):qs.length<=2*t.size:=by
 induction h with
 |num _=>exact le_succ _
 |tru=>exact le_succ _
 |slot h=>exact le_succ _
 |two _ _ _ _ h1 h2=>simp only[length_append,length_cons,length_nil,Pt.size,Pt.sizes];omega
 |not _ h1=>simp only[length_append,length_cons,length_nil,Pt.size,Pt.sizes];omega
 |ite _ _ _ h0 h1 h2=>simp only[length_append,length_cons,length_nil,Pt.size,Pt.sizes];omega
 |let_ _ _ _ h1 h2=>simp only[length_append,length_cons,length_nil,Pt.size,Pt.sizes];omega
theorem d6Z{j:Nat}(h:j<7)(h2:j≠2):_P.sgR j=_C.wd (qk j):=by
 have:j=0\/j=1\/j=3\/j=4\/j=5\/j=6:=by omega
 rcases this with rfl|rfl|rfl|rfl|rfl|rfl<;>rfl
theorem Wt.rows{t:Pt}(h:Wt l κ t qs):∀fi:Int,_P.rows t fi=qs.map qv:=by
 induction h with
 |num _=>exact λ_=>rfl
 |tru=>exact λ_=>rfl
 |slot h=>exact λ_=>rfl
 |two hj h2 _ _ h1 a=>
  intro fi;simp only[_P.rows,_P.rowss,_P.rowsOf,flatten_cons,flatten_nil,h1,a,d6Z hj h2,map_append,map_cons,map_nil,append_nil,List.append_assoc];rfl
 |not _ h1=>
  intro fi;simp only[_P.rows,_P.rowss,_P.rowsOf,flatten_cons,flatten_nil,h1,map_append,map_cons,map_nil,append_nil];rfl
 |ite _ _ _ h0 h1 h2=>
  intro fi;simp only[_P.rows,_P.rowss,_P.rowsOf,h0,h1,h2,map_append,map_cons,List.append_assoc,length_map,List.cons_append,nil_append];rfl
 |let_ _ _ _ h1 h2=>
  intro fi;simp only[_P.rows,_P.rowss,_P.rowsOf,h1,h2,map_append,map_cons,List.append_assoc,List.cons_append,nil_append];rfl
def Nn(m:Nat)(Γ:Gm):Prop:=∀s,s<m->Γ s=some true
theorem Nn.set{s:Nat}(h:Nn m Γ)(hs:m<=s):Nn m (O5 Γ s κ):=λt ht=>by
 unfold O5;rw[if_neg (by omega)];exact h t ht
structure Tst (m:Nat) (q1 q2 q3:Q):Prop where
 d:∀Γ,Nn m Γ->Doe Γ Γ [] [false] [q1,q2,q3]
 c:∀r,Cd r->Cd (q1::q2::q3::r)
theorem YA{m s:Nat}(hs:s<m)(hi:Bd i):Tst m (.load s) (.push (.n i)) (.two 3):=by
 refine⟨fun Γ h=> ?_,λr hr=>cdl (cdp hi (cdt (by decide) hr))⟩;exact Doe.app (A:=[.load s]) (Doe.load (h s hs)) (Doe.app (A:=[.push (.n i)]) ((Doe.push (.n i)).frame [true]) (Doe.two 3))
theorem YD{k:Nat}(hi:Bd i)(hj:Bd j)(hk:k=3\/k=4):Tst m (.push (.n i)) (.push (.n j)) (.two k):=by
 have a:k<6:=by omega
 have e:tk k=false:=by rcases hk with rfl|rfl<;>rfl
 refine⟨fun Γ h=> ?_,λr hr=>cdp hi (cdp hj (cdt a hr))⟩;have h2:=Doe.two (Γ:=Γ) k;rw[e]at h2;exact Doe.app (A:=[.push (.n i)]) (Doe.push (.n i)) (Doe.app (A:=[.push (.n j)]) ((Doe.push (.n j)).frame [true]) h2)
structure Pc (m slot:Nat) (rs:List Q):Prop where
 d:∀Γ,Nn m Γ->Γ slot=none->Doe Γ Γ [] [true] rs
 c:Cd rs
 len:rs.length<=14
section
def Ar(k:Nat):Prop:=k=0\/k=1\/k=2\/k=5
theorem Ar.tk(h:Ar k):tk k=true:=by rcases h with rfl|rfl|rfl|rfl<;>rfl
theorem Ar.lt(h:Ar k):k<6:=by rcases h with rfl|rfl|rfl|rfl<;>decide
theorem Ar.two(h:Ar k):Doe Γ Γ [true,true] [true] [.two k]:=by have:=Doe.two (Γ:=Γ) k;rwa [h.tk]at this
theorem bd9:Bd 9:=J7 (by decide) (by decide)
theorem bd4:Bd 4:=J7 (by decide) (by decide)
theorem bd7:Bd 7:=J7 (by decide) (by decide)
theorem bd5:Bd 5:=J7 (by decide) (by decide)
theorem bd2:Bd 2:=J7 (by decide) (by decide)
theorem pc4{m slot:Nat}(hs:slot<40)(hm:m<=slot)(ha:Bd a)(hk:Ar k):Pc m slot [.push (.n a),.keep slot,.load slot,.load slot,.two k]:=by
 refine⟨fun Γ hN h0=> ?_,cdp ha (cdk hs (cdl (cdl (cdt hk.lt trivial)))),by simp⟩;refine Doe.post (Γ':=O5 Γ slot true) ?_ (BF h0);have hl:O5 Γ slot true slot=some true:=by unfold O5;rw[if_pos rfl]
 exact Doe.app (A:=[.push (.n a)]) (Doe.push (.n a)) (Doe.app (A:=[.keep slot]) (Doe.keep slot true) (Doe.app (A:=[.load slot]) (Doe.load hl) (Doe.app (A:=[.load slot]) ((Doe.load hl).frame [true]) hk.two)))
theorem pc0{slot:Nat}(T:Tst m q1 q2 q3)(hs:slot<40)(hm:m<=slot)(ha:Bd a)(hk:Ar k):Pc m slot [.push (.n 9),q1,q2,q3,.unl 2,.keep slot,.push (.n a),.push (.n 2),.two k]:=by
 refine⟨fun Γ hN h0=> ?_,cdp bd9 (T.c _ (cdu (by simp) (cdk hs (cdp ha (cdp bd2 (cdt hk.lt trivial)))))),by simp⟩;have h1:Doe Γ Γ [true] [true] [.keep slot,.push (.n a)]:=(Doe.app (A:=[.keep slot]) (Doe.keep slot true) (Doe.push (.n a))).post (BF h0);exact Doe.app (A:=[.push (.n 9)]) (Doe.push (.n 9)) (Doe.app (A:=[q1,q2,q3]) ((T.d Γ hN).frame [true]) (Doe.app (A:=[.unl 2,.keep slot,.push (.n a)]) (Doe.unl (A:=[.keep slot,.push (.n a)]) h1) (Doe.app (A:=[.push (.n 2)]) ((Doe.push (.n 2)).frame [true]) hk.two)))
theorem pc1{slot:Nat}(T:Tst m q1 q2 q3)(hs:slot<40)(hm:m<=slot)(ha:Bd a)(hk:Ar k):Pc m slot [.push (.n 9),.push (.n 4),q1,q2,q3,.unl 4,.keep slot,.keep slot,.push (.n a),.push (.n 2),.two k]:=by
 refine⟨fun Γ hN h0=> ?_,cdp bd9 (cdp bd4 (T.c _ (cdu (by simp) (cdk hs (cdk hs (cdp ha (cdp bd2 (cdt hk.lt trivial)))))))),by simp⟩;have h1:Doe Γ Γ [true,true] [true,true] [.keep slot,.keep slot,.push (.n a),.push (.n 2)]:=
  (Doe.app (A:=[.keep slot]) ((Doe.keep slot true).frame [true]) (Doe.app (A:=[.keep slot]) ((Doe.keep slot true).post KG) (Doe.app (A:=[.push (.n a)]) (Doe.push (.n a)) ((Doe.push (.n 2)).frame [true])))).post (BF h0)
 exact Doe.app (A:=[.push (.n 9)]) (Doe.push (.n 9)) (Doe.app (A:=[.push (.n 4)]) ((Doe.push (.n 4)).frame [true]) (Doe.app (A:=[q1,q2,q3]) ((T.d Γ hN).frame [true,true]) (Doe.app (A:=[.unl 4,.keep slot,.keep slot,.push (.n a),.push (.n 2)]) (Doe.unl (A:=[.keep slot,.keep slot,.push (.n a),.push (.n 2)]) h1) hk.two)))
theorem pc2{slot:Nat}(T:Tst m q1 q2 q3)(hs:slot<40)(hm:m<=slot)(ha:Bd a):Pc m slot [.push (.n 7),.keep slot,q1,q2,q3,.unl 2,.push (.n a),.keep slot,.load slot]:=by
 refine⟨fun Γ hN h0=> ?_,cdp bd7 (cdk hs (T.c _ (cdu (by simp) (cdp ha (cdk hs (cdl trivial)))))),by simp⟩;refine Doe.post (Γ':=O5 Γ slot true) ?_ (BF h0);have hl:O5 Γ slot true slot=some true:=by unfold O5;rw[if_pos rfl]
 have h1:Doe (O5 Γ slot true) (O5 Γ slot true) [] [] [.push (.n a),.keep slot]:=Doe.app (A:=[.push (.n a)]) (Doe.push (.n a)) ((Doe.keep slot true).post KG);exact Doe.app (A:=[.push (.n 7)]) (Doe.push (.n 7)) (Doe.app (A:=[.keep slot]) (Doe.keep slot true) (Doe.app (A:=[q1,q2,q3]) (T.d _ (hN.set hm)) (Doe.app (A:=[.unl 2,.push (.n a),.keep slot]) (Doe.unl (A:=[.push (.n a),.keep slot]) h1) (Doe.load hl))))
theorem pc3{slot:Nat}(T:Tst m q1 q2 q3)(hs:slot<40)(hm:m<=slot)(ha:Bd a)(c:Bool):Pc m slot [q1,q2,q3,q1,q2,q3,.unl 2,.keep slot,.push (.b c),.not,.unl 2,.push (.n a),.skip 1,.push (.n 5)]:=by
 refine⟨fun Γ hN h0=> ?_,T.c _ (T.c _ (cdu (by simp) (cdk hs (cdb (cdn (cdu (by simp) (cdp ha (cds (by simp) (cdp bd5 trivial))))))))),by simp⟩;have h1:Doe Γ Γ [false] [false] [.keep slot,.push (.b c)]:=(Doe.app (A:=[.keep slot]) (Doe.keep slot false) (Doe.push (.b c))).post (BF h0);exact Doe.app (A:=[q1,q2,q3]) (T.d Γ hN) (Doe.app (A:=[q1,q2,q3]) ((T.d Γ hN).frame [false]) (Doe.app (A:=[.unl 2,.keep slot,.push (.b c)]) (Doe.unl (A:=[.keep slot,.push (.b c)]) h1) (Doe.app (A:=[.not]) Doe.not (Doe.ite (A:=[.push (.n a)]) (B:=[.push (.n 5)]) (Doe.push (.n a)) (Doe.push (.n 5))))))
end
structure Pss (m:Nat) (κ:Bool) (k:Nat) (rs:List Q):Prop where
 d:∀Γ,Nn m Γ->(∀s,20<=s->Γ s=none)->Doe Γ Γ [κ] [κ] rs
 c:Cd rs
 len:rs.length<=15*k
theorem Pss.nil(m:Nat)(κ:Bool):Pss m κ 0 []:=⟨λ_ _ _=>Doe.nil,trivial,le_refl _⟩
theorem Pss.num(h:Pss m true k rs)(hp:Pc m slot p)(hs:20<=slot):Pss m true (k+1) (rs++p++ [.two 0]):=by
 refine⟨fun Γ hN h0=> ?_,(h.c.app hp.c).app (cdt (by decide) trivial), ?_⟩
 ·exact((h.d Γ hN h0).app ((hp.d Γ hN (h0 _ hs)).frame [true])).app (Ar.two (.inl rfl))
 ·have:=h.len;have:=hp.len;simp only[length_append,length_cons,length_nil];omega
theorem Pss.tru(h:Pss m false k rs)(hp:Pc m slot p)(hs:20<=slot):Pss m false (k+1) (rs++p++ [.keep 30]):=by
 refine⟨fun Γ hN h0=> ?_,(h.c.app hp.c).app (cdk (by decide) trivial), ?_⟩
 ·exact((h.d Γ hN h0).app ((hp.d Γ hN (h0 _ hs)).frame [false])).app (((Doe.keep 30 true).post (BF (h0 30 (by decide)))).frame [false])
 ·have:=h.len;have:=hp.len;simp only[length_append,length_cons,length_nil];omega
structure Bo (m:Nat) (κ:Bool) (rs:List Q):Prop where
 d:Doe (ix (List.replicate m true)) (ix (List.replicate m true)) [] [κ] rs
 c:Cd rs
 len:rs.length<=990
theorem eDZ(m:Nat):Nn m (ix (List.replicate m true)):=λs h=>by
 unfold ix;rw[getElem?_replicate,if_pos h]
theorem epZ{m s:Nat}(h:m<=s):ix (List.replicate m true) s=none:=by
 unfold ix;rw[getElem?_replicate,if_neg (by omega)]
theorem Bo.of{k:Nat}{t:Pt}(h:Wt (List.replicate m true) κ t A)(hz:t.size<=300)(hm:m<=4)(hB:Pss m κ k B)(hk:k<=3):Bo m κ (A++B):=by
 refine⟨h.doe.app (hB.d _ (eDZ m) λs hs=>epZ (by omega)),h.cd.app hB.c, ?_⟩;have:=h.len;have:=hB.len;rw[length_append];omega
theorem Bo.ahead{rs:List Q}(h:Bo m κ rs)(hl:rs.length<=900)(hi:Bd i):Bo m κ (.skip 3:: .push (.b true):: .unl 1:: .push (.n i)::rs):=by
 refine⟨Doe.app (A:=[.skip 3,.push (.b true),.unl 1,.push (.n i)]) (Doe.skip [.push (.b true),.unl 1,.push (.n i)]) h.d,cds (by simp) (cdb (cdu (by simp) (cdp hi h.c))), ?_⟩;simp only[length_cons];omega
def f0(ns:List Int):Sl:=λs=>(ns[s]?).map U.n
theorem e1Z(ns:List Int):SlOk (ix (List.replicate ns.length true)) (f0 ns):=λs κ h=>by
 unfold ix at h;rw[getElem?_replicate]at h;split at h
 ·rename_i hl;cases h;exact⟨.n ns[s],by unfold f0;rw[List.getElem?_eq_getElem hl];rfl,rfl⟩
 ·cases h
theorem Bo.run{ns:List Int}{rs:List Q}(h:Bo ns.length κ rs):∃o m,Rn twc ((rs++ [Q.back]).map some) 0 (f0 ns) [] o m:=h.d.run (e1Z ns)
end _F
namespace _F
open PySem _L
open _C (Bd)
open _S (Vl)
open _M (Ms Fr Bk Ou XX Act Er)
noncomputable def tq:Q->_M.Rw
 | .push u=> .own (.push (uv u))
 | .load s=> .own (.load s)
 | .keep s=> .own (.keep s)
 | .two k=> .own (.two k)
 | .not=> .own .not
 | .skip n=> .own (.skip n)
 | .unl n=> .own (.unless n)
 | .back=> .back
theorem cQZ(q:Q):_M.rwV (tq q)=qv q:=by cases q<;>rfl
def vl(u:U):Vl:=.sc (uv u)
def BdU:U->Prop
 | .n i=>Bd i
 | .b _=>True
def ou:O->Ou
 | .v u=> .value (vl u)
 | .r w=> .refused (rwn w)
theorem bsZ(u:U):_S.scV (uv u)=true:=by cases u<;>rfl
structure Rel (z:Nat) (f:Sl) (st:List U) (sl:List Vl):Prop where
 len:sl.length=z
 sl:∀s u,f s=some u->sl[s]? =some (vl u)/\BdU u
 st:∀u∈st,BdU u
def ms1(a:Nat)(st:List U)(sl:List Vl)(r:Nat):Ms:=⟨[],[⟨0,a,sl,(st.map vl).reverse⟩],none,r,0⟩
def ms2(o:O)(r:Nat):Ms:=⟨[],[],some (ou o),r,0⟩
theorem G4(u:U)(st:List U):((u::st).map vl).reverse=(st.map vl).reverse++ [vl u]:=by rw[map_cons,reverse_cons]
theorem O2{rs:List Q}{p z a:Nat}{q:Q}{st:List Vl}{r:Nat}(hq:rs[a]? =some q)(e:tq q=.own rk)(h:Er [] sl rk st (.fr d sl' st')):XX [⟨p,z,rs.map tq⟩] 0 ⟨[],[⟨0,a,sl,st⟩],none,r,0⟩ ⟨[],[⟨0,a+d,sl',st'⟩],none,r+1,0⟩:=by
 refine⟨[],[],⟨0,a,sl,st⟩,r,0,.own rk,rfl, ?_,.own h⟩;show((rs.map tq)[a]?)=some (.own rk);rw[getElem?_map,hq,<-e];rfl
theorem aVZ{rs:List Q}{p z:Nat}(hk:∀s,Q.keep s∈rs->s<z)(hok:∀q∈rs,QOk q){st:List U}(r:Nat)(h:Rn twc (rs.map some) a f st o m)(R:Rel z f st sl):
  ∃m',m=m'+1/\∃S',XX [⟨p,z,rs.map tq⟩] 0 (ms1 a st sl r) S'/\((m'=0/\S'=ms2 o (r+1))\/∃a' f' st' sl',S'=ms1 a' st' sl' (r+1)/\Rn twc (rs.map some) a' f' st' o m'/\Rel z f' st' sl'/\st'.length<=st.length+1):=by
 have d:∀ {a:Nat} {x:Option Q},(rs.map some)[a]? =some x->∃q,x=some q/\rs[a]? =some q:=λ{a x} e=>by
  rw[getElem?_map]at e;cases e2:rs[a]? with
  |none=>rw[e2]at e;cases e
  |some q=>rw[e2]at e;cases e;exact⟨q,rfl,rfl⟩
 cases h with
 |gone h1 _=>obtain⟨q,e,_⟩:=d h1;cases e
 | @push _ u _ _ _ m h1 h2=>
  obtain⟨q,e,hq⟩:=d h1;cases e;refine⟨m,rfl,_,O2 hq rfl (.push (bsZ u)),.inr ⟨a+1,f,u::st,sl,by unfold ms1;rw[G4];rfl,h2,⟨R.len,R.sl,λv hv=> ?_⟩,le_refl _⟩⟩;rcases cZ hv with rfl|hv
  ·have:=(hok _ (mem_of_getElem? hq)).2;cases v with
   |n i=>exact this i rfl
   |b c=>trivial
  ·exact R.st v hv
 | @load _ s u _ _ _ m h1 h0 h2=>
  obtain⟨q,e,hq⟩:=d h1;cases e;obtain⟨g1,g2⟩:=R.sl s u h0;refine⟨m,rfl,_,O2 hq rfl (.load g1),.inr ⟨a+1,f,u::st,sl,by unfold ms1;rw[G4],h2,⟨R.len,R.sl,λv hv=> ?_⟩,le_refl _⟩⟩;rcases cZ hv with rfl|hv
  ·exact g2
  ·exact R.st v hv
 | @keep _ s u _ st _ m h1 h2=>
  obtain⟨q,e,hq⟩:=d h1;cases e;have hs:s<sl.length:=by rw[R.len];exact hk s (mem_of_getElem? hq)
  refine⟨m,rfl,ms1 (a+1) st (sl.take s++ [vl u]++sl.drop (s+1)) (r+1), ?_,.inr ⟨a+1,put f s u,st,_,rfl,h2,⟨?_,λt v e=> ?_,λv hv=>R.st v (mem_cons_of_mem _ hv)⟩,by rw[length_cons];omega⟩⟩
  ·unfold ms1;rw[G4];exact O2 hq rfl (.keep hs)
  ·rw[length_append,length_append,length_take,length_drop];show min s sl.length+1+(sl.length - (s+1))=z;rw[R.len]at hs⊢;omega
  ·unfold _F.put at e;by_cases z:t=s
   ·rw[if_pos z]at e;cases e;refine⟨?_,R.st u (mem_cons_self ..)⟩;rw[z,List.append_assoc,getElem?_append_right (by rw[length_take];omega),length_take,min_eq_left (by omega),sub_self];rfl
   ·rw[if_neg z]at e;obtain⟨g1,g2⟩:=R.sl t v e;refine⟨?_,g2⟩;by_cases l:t<s
    ·rw[List.append_assoc,getElem?_append_left (by rw[length_take];omega),List.getElem?_take,if_pos l];exact g1
    ·rw[getElem?_append_right (by rw[length_append,length_take];show _+1<=_;omega),length_append,length_take,List.getElem?_drop];rw[show s+1+(t - (min s sl.length+ [vl u].length))=t by show s+1+(t - (min s sl.length+1))=t;omega];exact g1
 | @two _ k x y u _ st _ m h1 h0 h2=>
  obtain⟨q,e,hq⟩:=d h1;cases e;have g:=(hok _ (mem_of_getElem? hq)).1 k rfl;have bx:Bd x:=R.st (.n x) (by simp);have j:Bd y:=R.st (.n y) (by simp);have ht:_N.tw k x y=[.str "value",uv u]:=by rw[YN,h0]
  have hu:BdU u:=by
   cases u with
   |b c=>trivial
   |n i=>exact AR k x y i g bx j h0
  refine⟨m,rfl,ms1 (a+1) (u::st) sl (r+1), ?_,.inr ⟨a+1,f,u::st,sl,rfl,h2,⟨R.len,R.sl,λv hv=> ?_⟩,by simp only[length_cons];omega⟩⟩
  ·unfold ms1;rw[G4,G4,G4,List.append_assoc];exact O2 hq rfl (.twoV g bx j ht (bsZ u))
  ·rcases cZ hv with rfl|hv
   ·exact hu
   ·exact R.st v (by simp[hv])
 | @twoR _ k x y w _ st h1 h0=>
  obtain⟨q,e,hq⟩:=d h1;cases e;have g:=(hok _ (mem_of_getElem? hq)).1 k rfl;have bx:Bd x:=R.st (.n x) (by simp);have j:Bd y:=R.st (.n y) (by simp);have ht:_N.tw k x y=[.str "refused",.str (rwn w)]:=by rw[YN,h0]
  refine⟨0,rfl,ms2 (.r w) (r+1), ?_,.inl ⟨rfl,rfl⟩⟩;unfold ms1;rw[G4,G4,List.append_assoc];refine⟨[],[],_,r,0,.own (.two k),rfl, ?_,.rf (.twoR g bx j ht)⟩;show((rs.map tq)[a]?)=some (.own (.two k));rw[getElem?_map,hq];rfl
 | @not _ b _ st _ m h1 h2=>
  obtain⟨q,e,hq⟩:=d h1;cases e;refine⟨m,rfl,ms1 (a+1) (.b (!b)::st) sl (r+1), ?_,.inr ⟨a+1,f,.b (!b)::st,sl,rfl,h2,⟨R.len,R.sl,λv hv=> ?_⟩,by simp only[length_cons];omega⟩⟩
  ·unfold ms1;rw[G4,G4];exact O2 hq rfl .not
  ·rcases cZ hv with rfl|hv
   ·trivial
   ·exact R.st v (by simp[hv])
 | @skip _ n _ _ _ m h1 h2=>
  obtain⟨q,e,hq⟩:=d h1;cases e;refine⟨m,rfl,_,O2 hq rfl .skip,.inr ⟨a+1+n,f,st,sl,by rw[Nat.add_assoc];rfl,h2,R,by omega⟩⟩
 | @unl _ n b _ st _ m h1 h2=>
  obtain⟨q,e,hq⟩:=d h1;cases e;refine⟨m,rfl,ms1 (if b=true then a+1 else a+1+n) st sl (r+1), ?_,.inr ⟨_,f,st,sl,rfl,h2,⟨R.len,R.sl,λv hv=>R.st v (by simp[hv])⟩,by simp only[length_cons];omega⟩⟩;have e:(if b=true then a+1 else a+1+n)=a+(1+if b=true then 0 else n):=by split<;>omega
  unfold ms1;rw[G4,e];exact O2 hq rfl .unless
 | @back _ u _ st h1=>
  obtain⟨q,e,hq⟩:=d h1;cases e;refine⟨0,rfl,ms2 (.v u) (r+1), ?_,.inl ⟨rfl,rfl⟩⟩;unfold ms1;rw[G4];refine⟨[],[],_,r,0,.back,rfl, ?_,.last rfl rfl⟩;show((rs.map tq)[a]?)=some .back;rw[getElem?_map,hq];rfl
theorem fCZ{ns:List Int}{z:Nat}(hz:ns.length<=z)(hb:∀i∈ns,Bd i):Rel z (f0 ns) [] (ns.map (λi=>Vl.sc (.int i))++List.replicate (z - ns.length) (.sc .non)):=by
 refine⟨by rw[length_append,length_map,length_replicate];omega,λs u e=> ?_,λu hu=>nomatch hu⟩;unfold f0 at e;cases h:ns[s]? with
 |none=>rw[h]at e;cases e
 |some i=>
  rw[h]at e;cases e;refine⟨?_,hb i (mem_of_getElem? h)⟩;rw[getElem?_append_left (by rw[length_map];exact(List.getElem?_eq_some_iff.mp h).1),getElem?_map,h];rfl
end _F
namespace _F
open PySem _L
open _B hiding NoG ifT ifF top
open _C (Bd F5 C3 E1)
open _J (ifT ifF)
open _P (Pt Lab Shp PAt)
seal PE PT PW PA PS PSs PTs PI PG PGs PO
abbrev s_law_cell_at:Stmt:=_B.top 72
abbrev s_law_number:Stmt:=_B.top 73
abbrev s_law_next:Stmt:=_B.top 74
abbrev s_law_leaf:Stmt:=_B.top 75
abbrev FC:List Str:=["_law_script","_law_k"]
theorem sc_law_cell_at:FnScope FC awZ (A9 s_law_cell_at):=fS
abbrev HG:List Str:=["_law_cell"]
theorem sc_law_number:FnScope HG q5L (A9 s_law_number):=fS
abbrev OR:List Str:=["_law_cells"]
theorem sc_law_next:FnScope OR ["_law_cells"] (A9 s_law_next):=fS
abbrev EK:List Str:=["_law_cell","_law_kind","_law_slots","_law_some"]
theorem sc_law_leaf:FnScope EK q1L (A9 s_law_leaf):=fS
structure NoL (mg:Str->Option Value):Prop extends _B.NoG mg where
 abs_:mg "abs"=none
def Kl(l:Addr)(H H':Hp):Prop:=∀b o,H b=some o->b≠l->H' b=some o
theorem Kl.trans(a:Kl l H H1)(b:Kl l H1 H2):Kl l H H2:=λc o h n=>b c o (a c o h n) n
theorem Kl.of(h:Same H H'):Kl l H H':=λb o q _=>h b o q
theorem Kl.upd(o:HO):Kl l H (upd H l o):=λb u q n=>by rw[B5 n];exact q
theorem Kl.tups(k:Kl l H H')(h:H l=some (.lst xs)):∀b xs,H b=some (.tup xs)->H' b=some (.tup xs):=λb ys e=>k b _ e (λz=>by rw[z,h]at e;cases e)
def kd:Bool->Str
 |true=> "n"
 |false=> "t"
section
inductive spCellW(Z:FZ)(vs:List V)(H:Hp)(Q:VK):Prop
 |mk:∀(a:Addr) (ns:List Int) (k:Int),(vs=[.ref a,.int k])->(SqL Z H a (ns.map V.int))->(0<=k)->(∀n:Int,Q (.int n) H)->spCellW Z vs H Q
def ON(Z:FZ):Sp:=λvs H Q _=>spCellW Z vs H Q
theorem ok_law_cell_at(F:Fun Z "_law_cell_at" "_law_cell_at" s_law_cell_at f fd)(B:NoL mg):FnOk P w Z mg qB CX0 1 f fd awZ (ON Z):=by
 refine F.ok sc_law_cell_at (λvs H Q E h=> ?_) (λg A b s H vs Q E hr h=> ?_)
 ·obtain⟨a,ns,k,rfl,_⟩:=h;rfl
 obtain⟨a,ns,k,rfl,hS,hk,q⟩:=h;have nd:=sc_law_cell_at.nd;refine⟨_,(A7 (C2 (B7 GK (pv 1) (kL Z B.len_ (pv 0)) rfl) (A8 (B6 (ixE Z w (pv 0) (pv 1)))) C0)
   (A8 (B6 A6))), ?_⟩
 refine⟨_,rfl,_,rfl,_,_,rfl,.inl ⟨_,hS,rfl⟩,_,_,rfl,rfl,_,rfl,K5 (λc=> ?_) (λc=> ?_)⟩
 ·have c':k<((ns.map V.int).length:Nat):=of_decide_eq_true c;rw[length_map]at c';have d:k.toNat<ns.length:=by omega
  have e:atI (ns.map V.int) ((k.toNat:Nat):Int)=some (.int ns[k.toNat]):=C4 (by rw[getElem?_map,List.getElem?_eq_getElem d];rfl);have ek:((k.toNat:Nat):Int)=k:=by omega
  rw[ek]at e;exact⟨_,rfl,_,rfl,.inl ⟨_,_,_,_,rfl,rfl,hS,e,q _⟩⟩
 ·exact q 0
inductive spNumberW (vs:List V) (H:Hp) (Q:VK):Prop
 |mk:∀n:Int,(vs=[.int n])->(∀(i:Int) (H':Hp),Same H H'->Bd i->Q (.int i) H')->spNumberW vs H Q
def Z3:Sp:=λvs H Q _=>spNumberW vs H Q
theorem c9Z{n:Int}:Bd (n%(2*10^40+1) - 10^40):=by
 have h0:=Int.emod_nonneg n (by decide:(2*10^40+1:Int)≠0);have h1:=Int.emod_lt_of_pos n (by decide:(0:Int)<2*10^40+1);have e:_N.GR=10^40:=by decide
 unfold _C.Bd;rw[e];omega
theorem ok_law_number(F:Fun Z "_law_number" "_law_number" s_law_number f fd):FnOk P w Z mg qB CX0 1 f fd q5L Z3:=by
 refine F.ok sc_law_number (λvs H Q E h=> ?_) (λd A a s H vs Q E hr h=> ?_)
 ·obtain⟨n,rfl,_⟩:=h;rfl
 obtain⟨n,rfl,q⟩:=h;have nd:=sc_law_number.nd;have hu:=hr.units0;refine⟨_,(A7 (C2 (B7 (kEq (Z:=Z) hu) (B8 D4 (pv 0) A6) A6 rfl) (A8 (B6 (B8 G1 (B8 D4 (B8 F3 (pv 0) A6) (B8 (F1 (Z:=Z)) (B8 ffZ A6 (B8 U5 A6 A6)) A6)) (B8 U5 A6 A6)))) C0)
   (A7 (C2 (B7 (kEq (Z:=Z) hu) (B8 D4 (pv 0) A6) A6 rfl) (A8 (B6 (ixE Z w (C8 (A0 A6 (A0 A6 (A0 (B8 U5 A6 A6) (A0 (B8 G1 A6 (B8 U5 A6 A6)) (A0 (B8 U5 A6 A6) (A0 A6 A5))))))) (B8 D4 (B8 F3 (pv 0) A6) A6)))) C0)
   (A8 (B6 (B8 D4 (B8 F3 (pv 0) A6) (B8 U5 A6 A6)))))), ?_⟩
 refine⟨_,rfl,_,_,rfl,rfl,(by decide:(0:Int)<5),.inl ⟨rfl,_,rfl,K5 (λe=> ?_) (λe=> ?_)⟩⟩
 ·exact⟨_,rfl,_,_,rfl,rfl,⟨by decide,by decide⟩,_,_,rfl,rfl,⟨by decide,by decide,by decide⟩,.inl ⟨_,_,rfl,rfl,.inl ⟨by decide,by decide⟩,.inl ⟨_,_,rfl,rfl,_,_,rfl,rfl,(by decide:(0:Int)<2*10^(40:Int).toNat+1),_,_,rfl,rfl,⟨by decide,by decide,by decide⟩,_,_,rfl,rfl,q _ H (Same.refl _) c9Z⟩⟩⟩
 refine⟨_,rfl,_,_,rfl,rfl,(by decide:(0:Int)<5),.inl ⟨rfl,_,rfl,K5 (λe=> ?_) (λe=> ?_)⟩⟩
 ·refine⟨_,_,rfl,rfl,⟨by decide,by decide,by decide⟩,_,_,rfl,rfl,⟨by decide,by decide,by decide⟩,_,_,rfl,rfl,_,_,rfl,rfl,⟨by decide,by decide,by decide⟩,(by show 6<=sizeLine;decide),λe2 b=> ?_⟩;have s1:=_B.qA b (.lst [.int 0,.int 1,.int (10^(40:Int).toNat),.int (0 - 10^(40:Int).toNat),.int (10^(20:Int).toNat),.int 2]);have h0:=Int.emod_nonneg (n/5) (by decide:(6:Int)≠0);have h1:=Int.emod_lt_of_pos (n/5) (by decide:(0:Int)<6);have hj:∃(k:Int),atI [V.int 0,.int 1,.int (10^(40:Int).toNat),.int (0 - 10^(40:Int).toNat),.int (10^(20:Int).toNat),.int 2] (n/5%6)=some (.int k)/\Bd k:=by
   have e0:_N.GR=10^40:=by decide
   have hc:n/5%6=0\/n/5%6=1\/n/5%6=2\/n/5%6=3\/n/5%6=4\/n/5%6=5:=by omega
   rcases hc with e|e|e|e|e|e<;>rw[e]
   ·exact⟨0,rfl,J7 (by decide) (by decide)⟩
   ·exact⟨1,rfl,J7 (by decide) (by decide)⟩
   ·exact⟨_,rfl,by unfold _C.Bd;rw[e0];decide⟩
   ·exact⟨_,rfl,by unfold _C.Bd;rw[e0];decide⟩
   ·exact⟨_,rfl,by unfold _C.Bd;rw[e0];decide⟩
   ·exact⟨2,rfl,J7 (by decide) (by decide)⟩
  obtain⟨k,hk,c⟩:=hj;exact⟨_,rfl,_,_,rfl,rfl,⟨by decide,by decide⟩,_,_,rfl,rfl,(by decide:(0:Int)<6),(ixL A4 hk (q k _ s1 c))⟩
 ·refine⟨_,rfl,_,_,rfl,rfl,⟨by decide,by decide⟩,_,_,rfl,rfl,⟨by decide,by decide,by decide⟩,_,_,rfl,rfl,(by decide:(0:Int)<10^(12:Int).toNat),q _ H (Same.refl _) ?_⟩;have h0:=Int.emod_nonneg (n/5) (by decide:(10^12:Int)≠0);have h1:=Int.emod_lt_of_pos (n/5) (by decide:(0:Int)<10^12);exact J7 (by show(-1000000000000:Int)<=n/5%10^12;omega) (by show n/5%10^12<=(1000000000000:Int);omega)
inductive spNextW (vs:List V) (H:Hp) (Q:VK):Prop
 |mk:∀(l:Addr) (ns:List Int),(vs=[.ref l])->(H l=some (.lst (ns.map V.int)))->(∀(c:Int) (ns':List Int) H',Kl l H H'->H' l=some (.lst (ns'.map V.int))->(ns'.length+1=ns.length\/(ns'=[]/\ns=[]/\c=0))->Q (.int c) H')->spNextW vs H Q
def ZY:Sp:=λvs H Q _=>spNextW vs H Q
theorem ok_law_next(F:Fun Z "_law_next" "_law_next" s_law_next f fd):FnOk P w Z mg qB CX0 1 f fd ["_law_cells"] ZY:=by
 refine F.ok sc_law_next (λvs H Q E h=> ?_) (λb A a s H vs Q E hr h=> ?_)
 ·obtain⟨l,ns,rfl,_⟩:=h;rfl
 obtain⟨l,ns,rfl,hl,q⟩:=h;have nd:=sc_law_next.nd;have hu:=hr.units0;refine⟨_,(A7 (C2 (B7 (foZ (Z:=Z) hu) (pv 0) (C8 A5) rfl) (A8 (B6 A6)) C0)
   (A8 (B6 (XE (Z:=Z) PySem.F.plainAttrs_list PySem.F.slot_list_pop PySem.F.type_list_pop WL (pv 0) (A0 A6 A5))))), ?_⟩
 refine⟨_,rfl,(by show 0<=sizeLine;decide),λe he=> ?_⟩;have s1:=_B.qA he (.lst []);cases ns with
 |nil=>exact .inl ⟨l,e,[],rfl,rfl,SqL.of (s1 _ _ hl),SqL.of A4,rfl,_,rfl,ifT rfl (q 0 [] _ (.of s1) (s1 _ _ hl) (.inr ⟨rfl,rfl,rfl⟩))⟩
 |cons n r=>
  refine .inr ⟨l,e,_,_,rfl,rfl,SqL.of (s1 _ _ hl),SqL.of A4,by simp,_,rfl,ifF nZ ?_⟩;exact⟨_,rfl,.inl ⟨rfl,_,SqL.of (s1 _ _ hl)⟩,l,_,0,0,_,rfl,rfl,s1 _ _ hl,by decide,by decide,(HZ (n:=((n::r).map V.int).length) (i:=0) (j:=0) (by unfold ixN;rw[if_pos (by decide),if_pos (by simp only[map_cons,length_cons];omega)];rfl)).1,rfl,q n r _ ((Kl.of s1).trans (.upd _)) A4 (.inl rfl)⟩
inductive spLeafW (vs:List V) (H:Hp) (Q:VK):Prop
 |mk:∀(c:Int) (κ:Bool) (a:Addr) (l:List Bool),(vs=[.int c,.str (kd κ),.ref a])->(H a=some (.lst (l.map λk=>V.str (kd k))))->(l.length<=20)->(∀t qs r H',Same H H'->PAt H' t r->Wt l κ t qs->t.size=1->Q r H')->spLeafW vs H Q
def YZ:Sp:=λvs H Q _=>spLeafW vs H Q
theorem ok_law_leaf(F:Fun Z "_law_leaf" "_law_leaf" s_law_leaf f fd)(B:NoL mg)
  (K6:Cn P w Z mg qB CX0 1 "_law_number" q5L Z3):
  FnOk P w Z mg qB CX0 2 f fd q1L YZ:=by
 refine F.ok sc_law_leaf (λvs H Q E h=> ?_) (λy A o s H vs Q E hr h=> ?_)
 ·obtain⟨c,κ,a,l,rfl,_⟩:=h;rfl
 obtain⟨c,κ,a,l,rfl,ha,hl,q⟩:=h;have nd:=sc_law_leaf.nd;have hu:=hr.units0;have zz:(1000:Nat)<=sizeLine:=by decide
 refine⟨_,(A7 (K1 (i:=3) nd rfl rfl (cS (N:=EK) (sc:=A9 s_law_leaf) (caps:=[1,2]) (ns:=["_law_kind","_law_slots"])) rfl rfl rfl (F4 rfl B.range_ (A0 (kL Z B.len_ (pv 2)) A5)) (λ_ _ _ _ _=>(R7 (B7 (kEq (Z:=Z) hu) (ixE Z w (pv 2) (pv 0)) (pv 1) rfl))) (λ_ _ _ _ _=>(pv 0)))
   (A7 (C6 (C2 (PW.pt (R5 (B7 (fxZ (Z:=Z) hu) (pv 3) (C8 A5) rfl) (O6 (B7 (kEq (Z:=Z) hu) (B8 D4 (pv 0) A6) A6 rfl)))) (A8 (B6 (B4 (A0 B0 (A0 (ixE Z w (pv 3) (B8 D4 (B8 F3 (pv 0) A6) (kL Z B.len_ (pv 3)))) A5))))) C0))
   (A7 (C2 (B7 (kEq (Z:=Z) hu) (pv 1) B0 rfl) (A8 (B6 (B4 (A0 B0 (A0 (F2 EL rfl B.abs_ NK (A0 (cC K6 hr (A0 (B8 F3 (pv 0) A6) A5)) A5)) A5))))) C0)
   (A8 (B6 (B4 (A0 B0 (A0 (F7 (kEq (Z:=Z) hu) (B8 D4 (B8 F3 (pv 0) A6) A6) A6 rfl) A5)))))))), ?_⟩
 have la:(l.map λk=>V.str (kd k)).length=l.length:=length_map _;refine⟨_,rfl,_,_,rfl,.inl ⟨_,SqL.of ha,rfl⟩,_,rfl,by omega,by omega,M1 (n:=(l.map λk=>V.str (kd k)).length) (λi zs H'=>H=H'/\∃ss:List Nat,zs=ss.map (λs=>V.int (s:Nat))/\ss.length<=i/\∀s∈ss,l[s]? =some κ) ⟨rfl,[],rfl,le_refl _,λs h=>nomatch h⟩ ?_ ?_ ?_⟩
 ·rintro i zs H' hi ⟨_,ss,rfl,hn,_⟩;rw[length_map];have:i<=l.length:=by rw[<-la];exact hi
  omega
 ·rintro i zs H' hi ⟨rfl,ss,rfl,hn,g⟩;have u:i<l.length:=by rw[<-la];exact hi
  have m:atI (l.map λk=>V.str (kd k)) ((i:Nat):Int)=some (.str (kd l[i])):=C4 (by rw[getElem?_map,List.getElem?_eq_getElem u];rfl);rw[Int.zero_add];refine⟨_,rfl,_,rfl,(ixL ha m ⟨_,rfl,.inl ⟨rfl,_,rfl,K5 (λe=> ?_) (λe=> ?_)⟩⟩)⟩
  ·have e1:kd l[i]=kd κ:=by have:=of_decide_eq_true e;injection this
   have e2:l[i]=κ:=by revert e1;cases l[i]<;>cases κ<;>first|(intro _;rfl)|(intro z;exact absurd z (by decide +kernel))
   refine⟨_,rfl,rfl,ss++ [i],by rw[map_append];rfl,by rw[length_append];show _+1<=_;omega,λs hs=> ?_⟩;rcases mem_append.mp hs with z|z
   ·exact g s z
   ·rw[sZ z,List.getElem?_eq_getElem u,e2]
  ·exact⟨rfl,ss,rfl,by omega,g⟩
 rintro v H' ⟨rfl,ss,rfl,hn,g⟩ D hD;have s1:=_B.qA hD (.lst (ss.map λs=>V.int (s:Nat)));have d:upd H D (.lst (ss.map λs=>V.int (s:Nat))) D=some (.lst (ss.map λs=>V.int (s:Nat))):=A4;show S0 _ _ _ (upd H D (.lst (ss.map λs=>V.int (s:Nat)))) _;generalize upd H D (.lst (ss.map λs=>V.int (s:Nat)))=H1 at s1 d⊢;refine⟨fun σ H'=>σ=[some (.int c),some (.str (kd κ)),some (.ref a),some (.ref D)]/\Same H H', ?_, ?_⟩
 ·refine⟨_,rfl,(by show 0<=sizeLine;decide),λe he=> ?_⟩;have s2:=_B.qA he (.lst []);cases ss with
  |nil=>exact .inl ⟨D,e,[],rfl,rfl,SqL.of (s2 _ _ d),SqL.of A4,rfl,_,rfl,ifF nZ (ifF nZ ⟨rfl,s1.trans s2⟩)⟩
  |cons x r=>
   refine .inr ⟨D,e,_,_,rfl,rfl,SqL.of (s2 _ _ d),SqL.of A4,by simp,_,rfl,ifT rfl ⟨_,rfl,_,_,rfl,rfl,(by decide:(0:Int)<3),.inl ⟨rfl,_,rfl,K5 (λe1=> ?_) (λe1=>⟨rfl,s1.trans s2⟩)⟩⟩⟩;have b:(0:Int)<(((x::r).map λs=>V.int (s:Nat)).length:Nat):=by rw[length_map,length_cons];omega
   have h0:=Int.emod_nonneg (c/3) (Int.ne_of_gt b);have h1:=Int.emod_lt_of_pos (c/3) b;obtain⟨j,hj⟩:∃j:Nat,c/3%((((x::r).map λs=>V.int (s:Nat)).length:Nat):Int)=(j:Nat):=⟨_,(Int.toNat_of_nonneg h0).symm⟩;rw[hj]at h1;rw[length_map]at h1;have t:j<(x::r).length:=by omega
   have m:atI ((x::r).map λs=>V.int (s:Nat)) ((j:Nat):Int)=some (.int (((x::r)[j]:Nat):Int)):=C4 (by rw[getElem?_map,List.getElem?_eq_getElem t];rfl);refine⟨_,rfl,_,rfl,_,_,rfl,rfl,⟨by decide,by decide⟩,_,rfl,_,_,rfl,.inl ⟨_,SqL.of (s2 _ _ d),rfl⟩,_,_,rfl,rfl,b, ?_⟩;rw[hj];refine(ixL (s2 _ _ d) m ⟨C3,λp hp=> ?_⟩);have s3:=_B.qA hp (.tup [.str "slot",.int (((x::r)[j]:Nat):Int)]);exact q (.node (.slot ((x::r)[j]:Nat)) []) _ _ _ (s1.trans (s2.trans s3)) (.mk A4 (.slot _) .nil) (.slot (g _ (getElem_mem t))) rfl
 rintro σ H2 ⟨rfl,sm⟩;refine⟨_,rfl,.inl ⟨rfl,_,rfl,K5 (λe=> ?_) (λe=> ?_)⟩⟩
 ·have e1:κ=true:=by
   cases κ with
   |true=>rfl
   |false=>exact absurd (of_decide_eq_true e) (by decide +kernel)
  subst e1;refine⟨_,rfl,_,_,rfl,rfl,⟨by decide,by decide⟩,_,rfl,λi H3 s3 hi=>⟨_,rfl,C3,λp hp=> ?_⟩⟩;have s4:=_B.qA hp (.tup [.str "number",.int (if i<0 then -i else i)]);have hb:Bd (if i<0 then -i else i):=by
   obtain⟨h1,h2⟩:=hi;unfold _C.Bd;split<;>constructor<;>omega
  exact q (.node (.num _) []) _ _ _ (sm.trans (s3.trans s4)) (.mk A4 (.num _) .nil) (.num hb) rfl
 ·have e1:κ=false:=by
   cases κ with
   |false=>rfl
   |true=>exact absurd (decide_eq_true rfl) e
  subst e1;refine⟨_,rfl,_,_,rfl,rfl,⟨by decide,by decide⟩,_,_,rfl,rfl,(by decide:(0:Int)<2),.inl ⟨rfl,C3,λp hp=> ?_⟩⟩;have s4:=_B.qA hp (.tup [.str "truth",.bl (decide (V.int (c/3%2)=V.int 1))]);exact q (.node (.tru _) []) _ _ _ (sm.trans s4) (.mk A4 (.tru _) .nil) .tru rfl
end
end _F
namespace _F
open PySem _L
open _B hiding NoG ifT ifF top
open _C (Bd F5 C3 E1)
open _J (ifT ifF)
open _P (Pt Lab Shp PAt sgS)
seal PE PT PW PA PS PSs PTs PI PG PGs PO
abbrev s_law_own:Stmt:=_B.top 76
abbrev s_law_term:Stmt:=_B.top 77
noncomputable abbrev UQ:List Str:=["_law_cells","_law_deep","_law_kind","_law_slots","_law_more","_law_first"]
theorem sc_law_own:FnScope UQ q8L (A9 s_law_own):=fS
noncomputable abbrev NJ:List Str:=["_law_cells","_law_deep","_law_kind","_law_slots","_law_cell","_law_more","_law_test_here","_law_one","_law_that","_law_first"]
theorem sc_law_term:FnScope NJ q9L (A9 s_law_term):=fS
theorem e5Z(m:Int):∃(j d:Nat),j<7/\j≠2/\tk (qk j)=true/\sgS j=⟨#[d]⟩/\atI ("+-*/":Str).cps.toList (m%4)=some d:=by
 have h0:=Int.emod_nonneg m (by decide:(4:Int)≠0);have h1:=Int.emod_lt_of_pos m (by decide:(0:Int)<4);have hj:m%4=0\/m%4=1\/m%4=2\/m%4=3:=by omega
 rcases hj with e|e|e|e<;>rw[e]
 ·exact⟨3,43,by decide,by decide,rfl,by decide +kernel,by decide +kernel⟩
 ·exact⟨4,45,by decide,by decide,rfl,by decide +kernel,by decide +kernel⟩
 ·exact⟨5,42,by decide,by decide,rfl,by decide +kernel,by decide +kernel⟩
 ·exact⟨6,47,by decide,by decide,rfl,by decide +kernel,by decide +kernel⟩
theorem d1Z(m:Int)(h:m%3≠2):∃(j d:Nat),j<7/\j≠2/\tk (qk j)=false/\sgS j=⟨#[d]⟩/\atI ("<=":Str).cps.toList (m%3)=some d:=by
 have h0:=Int.emod_nonneg m (by decide:(3:Int)≠0);have h1:=Int.emod_lt_of_pos m (by decide:(0:Int)<3);have hj:m%3=0\/m%3=1:=by omega
 rcases hj with e|e<;>rw[e]
 ·exact⟨0,60,by decide,by decide,rfl,by decide +kernel,by decide +kernel⟩
 ·exact⟨1,61,by decide,by decide,rfl,by decide +kernel,by decide +kernel⟩
theorem kd2(m:Int):∃(κ:Bool) (d:Nat),kd κ=⟨#[d]⟩/\atI ("nt":Str).cps.toList (m%2)=some d:=by
 have h0:=Int.emod_nonneg m (by decide:(2:Int)≠0);have h1:=Int.emod_lt_of_pos m (by decide:(0:Int)<2);have hj:m%2=0\/m%2=1:=by omega
 rcases hj with e|e<;>rw[e]
 ·exact⟨true,110,by decide +kernel,by decide +kernel⟩
 ·exact⟨false,116,by decide +kernel,by decide +kernel⟩
def Mt(κ:Bool)(Γ:List Bool)(l:Addr)(z:Nat)(H:Hp)(Q:V->Hp->Prop):Prop:=∀t qs r H' (ns':List Int),Kl l H H'->H' l=some (.lst (ns'.map V.int))->PAt H' t r->Wt Γ κ t qs->t.size+3*ns'.length<=z->Q r H'
abbrev kl(Γ:List Bool):List V:=Γ.map λk=>V.str (kd k)
section
inductive spTermW(n:Nat)(vs:List V)(H:Hp)(Q:VK):Prop
 |mk:∀(l a:Addr) (d:Int) (κ:Bool) (Γ:List Bool) (ns:List Int),(vs=[.ref l,.int d,.str (kd κ),.ref a])->(d=(n:Nat))->(Γ.length+n<=12)->(H l=some (.lst (ns.map V.int)))->(H a=some (.lst (kl Γ)))->(a≠l)->(Mt κ Γ l (1+3*ns.length) H Q)->spTermW n vs H Q
def X0(n:Nat):Sp:=λvs H Q _=>spTermW n vs H Q
inductive spOwnW (n:Nat) (vs:List V) (H:Hp) (Q:VK):Prop
 |mk:∀(l a:Addr) (d mo:Int) (κ:Bool) (Γ:List Bool) (ns:List Int),(vs=[.ref l,.int d,.str (kd κ),.ref a,.int mo])->(d=(n+1:Nat))->(Γ.length+(n+1)<=12)->(H l=some (.lst (ns.map V.int)))->(H a=some (.lst (kl Γ)))->(a≠l)->(Mt κ Γ l (4+3*ns.length) H Q)->spOwnW n vs H Q
def DP(n:Nat):Sp:=λvs H Q _=>spOwnW n vs H Q
theorem ok_law_own{n:Nat}(F:Fun Z "_law_own" "_law_own" s_law_own f fd)
  (D8:FnOk P w Z mg qB CX0 (2*n+3) Q7 W3 q9L (X0 n))(E8:Binds Z W3 q9L [])(E9:kZ Z (.ref Q7)=true)(E7:mg "_law_term"=some (.ref Q7)):
  FnOk P w Z mg qB CX0 (2*n+4) f fd q8L (DP n):=by
 refine F.ok sc_law_own (λvs H Q E h=> ?_) (λB A x s H vs Q E hr h=> ?_)
 ·obtain⟨l,a,d,mo,κ,Γ,ns,rfl,_⟩:=h;rfl
 obtain⟨l,a,d,mo,κ,Γ,ns,rfl,hd,hG,hl,ha,c,q⟩:=h;have nd:=sc_law_own.nd;have hu:=hr.units0;have z4:(4:Nat)<=sizeLine:=by decide
 have zt:("+-*/":Str).length<=sizeLine:=by decide +kernel
 have y:("<=":Str).length<=sizeLine:=by decide +kernel
 refine⟨_,(A7 (C2 (B7 (kEq (Z:=Z) hu) (pv 2) B0 rfl) (A7 (sS 5 nd (D6 D8 (hr.mono (by omega)) rfl E7 E9 E8 .nil F8 (A0 (pv 0) (A0 (B8 G1 (pv 1) A6) (A0 B0 (A0 (pv 3) A5))))))
   (A8 (B6 (B4 (A0 B0 (A0 (KE ix_str B0 (B8 D4 (pv 4) A6) (λ_ _=>rfl)) (A0 (pv 5) (A0 (D6 D8 (hr.mono (by omega)) rfl E7 E9 E8 .nil F8 (A0 (pv 0) (A0 (B8 G1 (pv 1) A6) (A0 B0 (A0 (pv 3) A5))))) A5)))))))) C0)
   (A7 (C2 (B7 (kEq (Z:=Z) hu) (B8 D4 (pv 4) A6) A6 rfl) (A8 (B6 (B4 (A0 B0 (A0 B0 (A0 (D6 D8 (hr.mono (by omega)) rfl E7 E9 E8 .nil F8 (A0 (pv 0) (A0 (B8 G1 (pv 1) A6) (A0 B0 (A0 (pv 3) A5))))) A5)))))) C0)
   (A7 (sS 5 nd (D6 D8 (hr.mono (by omega)) rfl E7 E9 E8 .nil F8 (A0 (pv 0) (A0 (B8 G1 (pv 1) A6) (A0 B0 (A0 (pv 3) A5))))))
   (A8 (B6 (B4 (A0 B0 (A0 (KE ix_str B0 (B8 D4 (pv 4) A6) (λ_ _=>rfl)) (A0 (pv 5) (A0 (D6 D8 (hr.mono (by omega)) rfl E7 E9 E8 .nil F8 (A0 (pv 0) (A0 (B8 G1 (pv 1) A6) (A0 B0 (A0 (pv 3) A5))))) A5)))))))))), ?_⟩
 refine⟨_,rfl,.inl ⟨rfl,_,rfl,K5 (λe=> ?_) (λe=> ?_)⟩⟩
 ·have e1:κ=true:=by
   cases κ with
   |true=>rfl
   |false=>exact absurd (of_decide_eq_true e) (by decide +kernel)
  subst e1;refine⟨_,rfl,_,rfl,_,_,rfl,rfl,_,rfl,l,a,_,true,Γ,ns,rfl,by omega,by omega,hl,ha,c,λt1 q1 r1 H2 g k2 b i w1 z1=> ?_⟩;have v:=k2 _ _ ha c;obtain⟨j,dd,hj,r,hk,t,u⟩:=e5Z mo;refine⟨_,rfl,_,_,rfl,rfl,(by decide:(0:Int)<4), ?_⟩;refine⟨_,_,dd,rfl,rfl,zt,u,_,rfl,_,rfl,_,rfl,_,_,rfl,rfl,_,rfl,l,a,_,true,Γ,g,rfl,by omega,by omega,b,v,c,λt2 q2 r2 H3 k k3 o m w2 z2=>⟨z4,λp hp=> ?_⟩⟩;rw[<-t];have s4:=_B.qA hp (.tup [.str "two",.str (sgS j),r1,r2]);have hw:=Wt.two hj r w1 w2;rw[hk]at hw;exact q (.node (.two j) [t1,t2]) _ _ _ k (k2.trans (k3.trans (.of s4))) (s4 _ _ o) (.mk A4 (.two j r1 r2 hj) (.cons (PAt.mono (_C.tups_of s4) _ _ (PAt.mono (k3.tups b) _ _ i)) (.cons (PAt.mono (_C.tups_of s4) _ _ m) .nil))) hw (by simp only[Pt.size,Pt.sizes];omega)
 have e1:κ=false:=by
  cases κ with
  |false=>rfl
  |true=>exact absurd (decide_eq_true rfl) e
 subst e1;refine⟨_,rfl,_,_,rfl,rfl,(by decide:(0:Int)<3),.inl ⟨rfl,_,rfl,K5 (λe=> ?_) (λe=> ?_)⟩⟩
 ·refine⟨_,rfl,_,rfl,_,_,rfl,rfl,_,rfl,l,a,_,false,Γ,ns,rfl,by omega,by omega,hl,ha,c,λt1 q1 r1 H2 g k2 b i w1 z1=>⟨E1,λp hp=> ?_⟩⟩;have s4:=_B.qA hp (.tup [.str "one",.str "not",r1]);exact q (.node (.one 3) [t1]) _ _ _ g (k2.trans (.of s4)) (s4 _ _ b) (.mk A4 (.one 3 r1 (by decide)) (.cons (PAt.mono (_C.tups_of s4) _ _ i) .nil)) (.not w1) (by simp only[Pt.size,Pt.sizes];omega)
 have hm:mo%3≠2:=λz=>e (by rw[z];rfl);refine⟨_,rfl,_,rfl,_,_,rfl,rfl,_,rfl,l,a,_,true,Γ,ns,rfl,by omega,by omega,hl,ha,c,λt1 q1 r1 H2 g k2 b i w1 z1=> ?_⟩;have v:=k2 _ _ ha c;obtain⟨j,dd,hj,r,hk,t,u⟩:=d1Z mo hm;refine⟨_,rfl,_,_,rfl,rfl,(by decide:(0:Int)<3), ?_⟩;refine⟨_,_,dd,rfl,rfl,y,u,_,rfl,_,rfl,_,rfl,_,_,rfl,rfl,_,rfl,l,a,_,true,Γ,g,rfl,by omega,by omega,b,v,c,λt2 q2 r2 H3 k k3 o m w2 z2=>⟨z4,λp hp=> ?_⟩⟩;rw[<-t];have s4:=_B.qA hp (.tup [.str "two",.str (sgS j),r1,r2]);have hw:=Wt.two hj r w1 w2;rw[hk]at hw;exact q (.node (.two j) [t1,t2]) _ _ _ k (k2.trans (k3.trans (.of s4))) (s4 _ _ o) (.mk A4 (.two j r1 r2 hj) (.cons (PAt.mono (_C.tups_of s4) _ _ (PAt.mono (k3.tups b) _ _ i)) (.cons (PAt.mono (_C.tups_of s4) _ _ m) .nil))) hw (by simp only[Pt.size,Pt.sizes];omega)
theorem ok_law_term(F:Fun Z "_law_term" "_law_term" s_law_term f fd)(B:NoL mg)(E8:Binds Z fd q9L [])(E9:kZ Z (.ref f)=true)(E7:mg "_law_term"=some (.ref f))
  (NG:Cn P w Z mg qB CX0 1 "_law_next" ["_law_cells"] ZY)
  (ME:Cn P w Z mg qB CX0 2 "_law_leaf" q1L YZ)
  (GF:∀n:Nat,FnOk P w Z mg qB CX0 (2*n+3) f fd q9L (X0 n)->FnOk P w Z mg qB CX0 (2*n+4) V0 AF q8L (DP n))(RO:Binds Z AF q8L [])(SG:kZ Z (.ref V0)=true)(RY:mg "_law_own"=some (.ref V0)):
  ∀n:Nat,FnOk P w Z mg qB CX0 (2*n+3) f fd q9L (X0 n):=by
 suffices u:∀(n:Nat) (C D:Sp),(n=0\/∃k,n=k+1/\C=X0 k/\D=DP k)->FnOk P w Z mg qB CX0 (2*n+1) f fd q9L C->FnOk P w Z mg qB CX0 (2*n+2) V0 AF q8L D->FnOk P w Z mg qB CX0 (2*n+3) f fd q9L (X0 n) by
  intro n;induction n with
  |zero=>exact u 0 _ _ (.inl rfl) _C.ok_void _C.ok_void
  |succ n ih=>exact u (n+1) _ _ (.inr ⟨n,rfl,rfl,rfl⟩) ih (GF n ih)
 intro n C D Y D8 RV;refine F.ok sc_law_term (λvs H Q E h=> ?_) (λaf A R s H vs Q E hr h=> ?_)
 ·obtain⟨l,a,d,κ,Γ,ns,rfl,_⟩:=h;rfl
 obtain⟨l,a,d,κ,Γ,ns,rfl,hd,hG,hl,ha,g,q⟩:=h;have nd:=sc_law_term.nd;have hu:=hr.units0;have z4:(4:Nat)<=sizeLine:=by decide
 have zz:(1000:Nat)<=sizeLine:=by decide
 have zt:("nt":Str).length<=sizeLine:=by decide +kernel
 refine⟨_,(A7 (sS 4 nd (cC NG hr (A0 (pv 0) A5)))
   (A7 (sS 5 nd (B8 F3 (pv 4) A6))
   (A7 (C6 (C2 (PW.pt (V6 (B7 (kEq (Z:=Z) hu) (pv 1) A6 rfl) (AZ (B7 GK (B8 D4 (pv 4) A6) A6 rfl)))) (A8 (B6 (cC ME hr (A0 (pv 5) (A0 (pv 2) (A0 (pv 3) A5)))))) C0))
   (A7 (C2 (B7 (kEq (Z:=Z) hu) (B8 D4 (pv 4) A6) A6 rfl) (A7 (sS 6 nd (D6 D8 (hr.mono (by omega)) rfl E7 E9 E8 .nil F8 (A0 (pv 0) (A0 (B8 G1 (pv 1) A6) (A0 B0 (A0 (pv 3) A5))))))
   (A7 (sS 7 nd (D6 D8 (hr.mono (by omega)) rfl E7 E9 E8 .nil F8 (A0 (pv 0) (A0 (B8 G1 (pv 1) A6) (A0 (pv 2) (A0 (pv 3) A5))))))
   (A8 (B6 (B4 (A0 B0 (A0 (pv 6) (A0 (pv 7) (A0 (D6 D8 (hr.mono (by omega)) rfl E7 E9 E8 .nil F8 (A0 (pv 0) (A0 (B8 G1 (pv 1) A6) (A0 (pv 2) (A0 (pv 3) A5))))) A5))))))))) C0)
   (A7 (C2 (B7 (kEq (Z:=Z) hu) (B8 D4 (pv 4) A6) A6 rfl) (A7 (sS 8 nd (KE ix_str B0 (B8 D4 (pv 5) A6) (λ_ _=>rfl)))
   (A7 (sS 9 nd (D6 D8 (hr.mono (by omega)) rfl E7 E9 E8 .nil F8 (A0 (pv 0) (A0 (B8 G1 (pv 1) A6) (A0 (pv 8) (A0 (pv 3) A5))))))
   (A8 (B6 (B4 (A0 B0 (A0 (kL Z B.len_ (pv 3)) (A0 (pv 9) (A0 (D6 D8 (hr.mono (by omega)) rfl E7 E9 E8 .nil F8 (A0 (pv 0) (A0 (B8 G1 (pv 1) A6) (A0 (pv 2) (A0 (B8 (F1 (Z:=Z)) (pv 3) (C8 (A0 (pv 8) A5))) A5))))) A5))))))))) C0)
   (A8 (B6 (D6 RV (hr.mono (by omega)) rfl RY SG RO .nil F8 (A0 (pv 0) (A0 (pv 1) (A0 (pv 2) (A0 (pv 3) (A0 (pv 5) A5))))))))))))), ?_⟩
 refine⟨_,rfl,l,ns,rfl,hl,λc j H1 k1 G M=> ?_⟩;have i:=k1 _ _ ha g;refine⟨_,rfl,_,_,rfl,rfl,⟨by decide,by decide⟩, ?_⟩;have ae:j.length<=ns.length:=by
  rcases M with h|⟨h1,h2,_⟩
  ·omega
  ·rw[h1,h2];exact le_refl _
 refine⟨fun σ H'=>σ=[some (.ref l),some (.int d),some (.str (kd κ)),some (.ref a),some (.int c),some (.int (c/8)),none,none,none,none]/\H1=H'/\j.length+1=ns.length/\d≠0, ?_, ?_⟩
 ·have lf:=λ(t:Pt) (qs:List _F.Q) (r:V) (H2:Hp) (s2:Same H1 H2) (hp:PAt H2 t r) (hw:Wt Γ κ t qs) (hsz:t.size=1)=>q t qs r H2 j (k1.trans (.of s2)) (s2 _ _ G) hp hw (by rw[hsz];omega);refine⟨_,rfl,.inl ⟨rfl,_,rfl,K5 (λe=>ifT rfl ⟨_,rfl,_,rfl,_,rfl,c/8,κ,a,Γ,rfl,i,by omega,lf⟩) (λO=>⟨_,rfl,_,_,rfl,rfl,(by decide:(0:Int)<8),_,_,rfl,rfl,_,rfl,K5 (λe=>⟨_,rfl,_,rfl,_,rfl,c/8,κ,a,Γ,rfl,i,by omega,lf⟩) (λe=>⟨rfl,rfl, ?_,λz=>O (by rw[z];rfl)⟩)⟩)⟩⟩;rcases M with h|⟨_,_,h⟩
  ·exact h
  ·subst h;exact absurd (by decide) e
 rintro σ H' ⟨rfl,rfl,hn,O⟩;obtain⟨n,rfl,rfl,rfl⟩:∃k,n=k+1/\C=X0 k/\D=DP k:=Y.resolve_left λz=>O (by rw[hd,z];rfl);clear M;generalize c/8=mo;refine⟨_,rfl,_,_,rfl,rfl,(by decide:(0:Int)<8),.inl ⟨rfl,_,rfl,K5 (λe2=> ?_) (λe2=> ?_)⟩⟩
 ·refine⟨_,rfl,_,rfl,_,_,rfl,rfl,_,rfl,l,a,_,false,Γ,j,rfl,by omega,by omega,G,i,g,λt1 q1 r1 H2 x k2 m L w1 z1=> ?_⟩;have o:=k2 _ _ i g;refine⟨_,rfl,_,rfl,_,_,rfl,rfl,_,rfl,_,rfl,l,a,_,κ,Γ,x,rfl,by omega,by omega,m,o,g,λt2 q2 r2 H3 I k3 y J w2 z2=> ?_⟩;have ac:=k3 _ _ o g;refine⟨_,rfl,_,rfl,_,rfl,_,rfl,_,_,rfl,rfl,_,rfl,_,rfl,l,a,_,κ,Γ,I,rfl,by omega,by omega,y,ac,g,λt3 q3 r3 H4 S k4 U T w3 z3=>⟨z4,λp hp=> ?_⟩⟩;have s4:=_B.qA hp (.tup [.str "if",r1,r2,r3]);have m4:=_C.tups_of s4;exact q (.node .ite [t1,t2,t3]) _ _ _ S (k1.trans (k2.trans (k3.trans (k4.trans (.of s4))))) (s4 _ _ U) (.mk A4 (.ite r1 r2 r3) (.cons (PAt.mono m4 _ _ (PAt.mono (k4.tups y) _ _ (PAt.mono (k3.tups m) _ _ L))) (.cons (PAt.mono m4 _ _ (PAt.mono (k4.tups y) _ _ J)) (.cons (PAt.mono m4 _ _ T) .nil)))) (.ite w1 w2 w3) (by simp only[Pt.size,Pt.sizes];omega)
 refine⟨_,rfl,_,_,rfl,rfl,(by decide:(0:Int)<8),.inl ⟨rfl,_,rfl,K5 (λe3=> ?_) (λe3=> ?_)⟩⟩
 ·obtain⟨κ1,dd,X,ab⟩:=kd2 mo;refine⟨_,rfl,_,_,rfl,rfl,(by decide:(0:Int)<2), ?_⟩;refine⟨_,_,dd,rfl,rfl,zt,ab, ?_⟩;rw[<-X];refine⟨_,rfl,_,rfl,_,_,rfl,rfl,_,rfl,_,rfl,l,a,_,κ1,Γ,j,rfl,by omega,by omega,G,i,g,λt1 q1 r1 H2 x k2 m L w1 z1=> ?_⟩;have o:=k2 _ _ i g;refine⟨_,rfl,_,_,rfl,.inl ⟨_,SqL.of o,rfl⟩,_,rfl,_,rfl,_,rfl,_,_,rfl,rfl,_,rfl,_,rfl,_,rfl,F5,λe1 W=> ?_⟩;have s2:=_B.qA W (.lst [.str (kd κ1)]);have N:=s2 _ _ m;have ad:=s2 _ _ o;refine .inr (.inl ⟨a,e1,kl Γ,[.str (kd κ1)],rfl,rfl,(s2 _ _ o),A4, ?_,λb hb=> ?_⟩)
  ·rw[length_map];show Γ.length+1<=sizeLine;omega
  have s3:=_B.qA hb (.lst (kl Γ++ [.str (kd κ1)]));have v:=s2.trans s3;have ek:kl Γ++ [V.str (kd κ1)]=kl (Γ++ [κ1]):=by unfold kl;rw[map_append];rfl
  rw[ek]at s3 v⊢;have aa:b≠l:=λe=>by rw[e,N]at hb;cases hb
  refine⟨l,b,_,κ,Γ++ [κ1],x,rfl,by omega,by rw[length_append];show Γ.length+1+n<=12;omega,v _ _ m,A4,aa,λt2 q2 r2 H3 I k3 y J w2 z2=>⟨z4,λp hp=> ?_⟩⟩;have s4:=_B.qA hp (.tup [.str "let",.int ((kl Γ).length:Nat),r1,r2]);have m4:=_C.tups_of s4;have eL:(kl Γ).length=Γ.length:=length_map _;have hS:Shp (upd H3 p (.tup [.str "let",.int ((kl Γ).length:Nat),r1,r2])) (.let_ (Γ.length:Nat)) [r1,r2] [.str "let",.int ((kl Γ).length:Nat),r1,r2]:=by rw[eL];exact .let_ _ r1 r2
  exact q (.node (.let_ (Γ.length:Nat)) [t1,t2]) _ _ _ I (k1.trans (k2.trans ((Kl.of v).trans (k3.trans (.of s4))))) (s4 _ _ y) (.mk A4 hS (.cons (PAt.mono m4 _ _ (PAt.mono (k3.tups (v _ _ m)) _ _ (PAt.mono (_C.tups_of v) _ _ L))) (.cons (PAt.mono m4 _ _ J) .nil))) (.let_ (by omega) w1 w2) (by simp only[Pt.size,Pt.sizes];omega)
 ·exact⟨_,rfl,_,rfl,_,rfl,_,rfl,_,rfl,l,a,d,mo,κ,Γ,j,rfl,hd,by omega,G,i,g,λt qs r H2 x k2 h2 h3 h4 h5=>q t qs r H2 x (k1.trans k2) h2 h3 h4 (by omega)⟩
end
end _F
namespace _F
open PySem _L
open _B hiding NoG ifT ifF top
open _C (Bd F5 C3 E1)
open _J (ifT ifF)
seal PE PT PW PA PS PSs PTs PI PG PGs PO
abbrev s_law_test:Stmt:=_B.top 78
abbrev s_law_piece:Stmt:=_B.top 79
abbrev PJ:List Str:=["_law_cell","_law_many"]
theorem sc_law_test:FnScope PJ q4L (A9 s_law_test):=fS
noncomputable abbrev KW:List Str:=["_law_cell","_law_many","_law_slot","_law_test_here","_law_a","_law_sign","_law_one","_law_chosen"]
theorem sc_law_piece:FnScope KW q3L (A9 s_law_piece):=fS
theorem DH{n k:Int}(h0:0<k)(h1:k<=1000000000000):Bd (n%k):=by
 have:=Int.emod_nonneg n (Int.ne_of_gt h0);have:=Int.emod_lt_of_pos n h0;exact J7 (by omega) (by omega)
theorem C9(s:Same H H'){rs:List _F.Q}{us:List V}(h:All2 (QAt H) rs us):All2 (QAt H') rs us:=h.imp λ_ _ z=>QAt.same s z
theorem ls2(m:Int):∃k:Nat,(k=3\/k=4)/\atI [V.str "less",.str "same"] (m%2)=some (.str (_C.wd k)):=by
 have h0:=Int.emod_nonneg m (by decide:(2:Int)≠0);have h1:=Int.emod_lt_of_pos m (by decide:(0:Int)<2);have hj:m%2=0\/m%2=1:=by omega
 rcases hj with e|e<;>rw[e]
 ·exact⟨3,.inl rfl,rfl⟩
 ·exact⟨4,.inr rfl,rfl⟩
theorem ar4(m:Int):∃k:Nat,Ar k/\atI [V.str "add",.str "sub",.str "mul",.str "div"] (m%4)=some (.str (_C.wd k)):=by
 have h0:=Int.emod_nonneg m (by decide:(4:Int)≠0);have h1:=Int.emod_lt_of_pos m (by decide:(0:Int)<4);have hj:m%4=0\/m%4=1\/m%4=2\/m%4=3:=by omega
 rcases hj with e|e|e|e<;>rw[e]
 ·exact⟨0,.inl rfl,rfl⟩
 ·exact⟨1,.inr (.inl rfl),rfl⟩
 ·exact⟨2,.inr (.inr (.inl rfl)),rfl⟩
 ·exact⟨5,.inr (.inr (.inr rfl)),rfl⟩
theorem U1{H:Hp}{a b:Addr}{r1 r2:List _F.Q}{Q:VK}{A:Prop}{B:Prop}(ha:H a=some (.tup xs))(hb:H b=some (.tup ys))(h1:All2 (QAt H) r1 xs)(h2:All2 (QAt H) r2 ys)(l1:r1.length<=5000)(l2:r2.length<=5000)
  (go:∀r H' us,Same H H'->H' r=some (.tup us)->All2 (QAt H') (r1++r2) us->Q (.ref r) H'):A\/B\/LU Z (.ref a) (.ref b) H Q\/DV Z (.ref a) (.ref b) H Q:=
 .inr (.inr (_C.cat_any ha hb (by have:=h1.len;have:=h2.len;omega) λr H' s hr=>go r H' _ s hr ((C9 s h1).app (C9 s h2))))
theorem eMZ:5<=sizeLine:=by decide
theorem IE:4<=sizeLine:=by decide
section
inductive spTestW(vs:List V)(H:Hp)(Q:VK):Prop
 |mk:∀(c:Int) (m:Nat),(vs=[.int c,.int (m:Nat)])->(∀q1 q2 q3 r us H',Same H H'->H' r=some (.tup us)->All2 (QAt H') [q1,q2,q3] us->Tst m q1 q2 q3->Q (.ref r) H')->spTestW vs H Q
def VU:Sp:=λvs H Q _=>spTestW vs H Q
theorem ok_law_test(F:Fun Z "_law_test" "_law_test" s_law_test f fd)
  (K6:Cn P w Z mg qB CX0 1 "_law_number" q5L Z3):
  FnOk P w Z mg qB CX0 2 f fd q4L VU:=by
 refine F.ok sc_law_test (λvs H Q E h=> ?_) (λv A r s H vs Q E hr h=> ?_)
 ·obtain⟨c,m,rfl,_⟩:=h;rfl
 obtain⟨c,m,rfl,q⟩:=h;have nd:=sc_law_test.nd;have hu:=hr.units0;refine⟨_,(A7 (C6 (C2 (PW.pt (R5 (B7 LR (B8 D4 (pv 0) A6) A6 rfl) (O6 (B7 LR (pv 1) A6 rfl)))) (A8 (B6 (B4 (A0 (B4 (A0 B0 (A0 (B8 D4 (B8 F3 (pv 0) A6) (pv 1)) A5))) (A0 (B4 (A0 B0 (A0 (cC K6 hr (A0 (B8 F3 (pv 0) A6) A5)) A5))) (A0 (B4 (A0 B0 A5)) A5)))))) C0))
   (A8 (B6 (B4 (A0 (B4 (A0 B0 (A0 (B8 D4 (B8 F3 (pv 0) A6) A6) A5))) (A0 (B4 (A0 B0 (A0 (B8 D4 (B8 F3 (pv 0) A6) A6) A5))) (A0 (B4 (A0 (ixE Z w (C8 (A0 B0 (A0 B0 A5))) (B8 D4 (B8 F3 (pv 0) A6) A6)) A5)) A5))))))), ?_⟩
 refine⟨fun σ H'=>σ=[some (.int c),some (.int (m:Nat))]/\H=H', ?_, ?_⟩
 ·refine⟨_,rfl,_,_,rfl,rfl,(by decide:(0:Int)<3),_,_,rfl,rfl,_,rfl,K5 (λe=> ?_) (λe=>ifF nZ ⟨rfl,rfl⟩)⟩;refine⟨_,rfl,_,_,rfl,rfl,_,rfl,K5 (λe2=> ?_) (λe2=>⟨rfl,rfl⟩)⟩;have hm:(0:Int)<(m:Nat):=of_decide_eq_true e2;have h0:=Int.emod_nonneg (c/3) (Int.ne_of_gt hm);have h1:=Int.emod_lt_of_pos (c/3) hm;obtain⟨j,hj⟩:∃j:Nat,c/3%((m:Nat):Int)=(j:Nat):=⟨_,(Int.toNat_of_nonneg h0).symm⟩;refine⟨_,rfl,_,_,rfl,rfl,⟨by decide,by decide⟩,_,rfl,_,_,rfl,rfl,hm,C3,λp1 l=> ?_⟩;rw[hj]at h1⊢;have s1:=_B.qA l (.tup [.str "load",.int (j:Nat)]);refine⟨_,rfl,_,_,rfl,rfl,⟨by decide,by decide⟩,_,rfl,λi H2 s2 hi=>⟨C3,λp2 g=>⟨F5,λp3 d=>⟨E1,λp4 b=> ?_⟩⟩⟩⟩;have s3:=_B.qA g (.tup [.str "push",.int i]);have s4:=_B.qA d (.tup [.str "less"]);have s5:=_B.qA b (.tup [.ref p1,.ref p2,.ref p3]);have o:=s4.trans s5;have a:=s2.trans (s3.trans o);exact q (.load j) (.push (.n i)) (.two 3) p4 _ _ (s1.trans a) A4 (.cons ⟨p1,rfl,a _ _ A4⟩ (.cons ⟨p2,rfl,o _ _ A4⟩ (.cons ⟨p3,rfl,s5 _ _ A4⟩ .nil))) (YA (by omega) hi)
 rintro σ H' ⟨rfl,rfl⟩;obtain⟨k,hk,u⟩:=ls2 (c/48);refine⟨_,rfl,_,_,rfl,rfl,⟨by decide,by decide⟩,_,_,rfl,rfl,(by decide:(0:Int)<4),C3,λp1 l=> ?_⟩;have s1:=_B.qA l (.tup [.str "push",.int (c/3%4)]);refine⟨_,rfl,_,_,rfl,rfl,⟨by decide,by decide⟩,_,_,rfl,rfl,(by decide:(0:Int)<4),C3,λp2 g=> ?_⟩;have s2:=_B.qA g (.tup [.str "push",.int (c/12%4)]);refine⟨C3,λe1 t=> ?_⟩;have s3:=_B.qA t (.lst [.str "less",.str "same"]);refine⟨_,rfl,_,_,rfl,rfl,⟨by decide,by decide⟩,_,_,rfl,rfl,(by decide:(0:Int)<2),(ixL A4 u ⟨F5,λp3 d=>⟨E1,λp4 b=> ?_⟩⟩)⟩;have s4:=_B.qA d (.tup [.str (_C.wd k)]);have s5:=_B.qA b (.tup [.ref p1,.ref p2,.ref p3]);have p:=s3.trans (s4.trans s5);have a:=s2.trans p;exact q (.push (.n _)) (.push (.n _)) (.two k) p4 _ _ (s1.trans a) A4 (.cons ⟨p1,rfl,a _ _ A4⟩ (.cons ⟨p2,rfl,p _ _ A4⟩ (.cons ⟨p3,rfl,s5 _ _ A4⟩ .nil))) (YD (DH (by decide) (by decide)) (DH (by decide) (by decide)) hk)
inductive spPieceW (vs:List V) (H:Hp) (Q:VK):Prop
 |mk:∀(c:Int) (m slot:Nat),(vs=[.int c,.int (m:Nat),.int (slot:Nat)])->(slot<40)->(m<=slot)->(∀rs r us H',Same H H'->H' r=some (.tup us)->All2 (QAt H') rs us->Pc m slot rs->Q (.ref r) H')->spPieceW vs H Q
def QU:Sp:=λvs H Q _=>spPieceW vs H Q
theorem ok_law_piece(F:Fun Z "_law_piece" "_law_piece" s_law_piece f fd)
  (ND:Cn P w Z mg qB CX0 2 "_law_test" q4L VU):
  FnOk P w Z mg qB CX0 3 f fd q3L QU:=by
 refine F.ok sc_law_piece (λvs H Q E h=> ?_) (λaf A V s H vs Q E hr h=> ?_)
 ·obtain⟨c,m,d,rfl,_⟩:=h;rfl
 obtain⟨c,m,d,rfl,hs,hm,q⟩:=h;have nd:=sc_law_piece.nd;have hu:=hr.units0;refine⟨_,(A7 (sS 3 nd (cC ND hr (A0 (B8 F3 (pv 0) A6) (A0 (pv 1) A5))))
   (A7 (sS 4 nd (B8 D4 (B8 F3 (pv 0) A6) A6))
   (A7 (sS 5 nd (B4 (A0 (ixE Z w (C8 (A0 B0 (A0 B0 (A0 B0 (A0 B0 A5))))) (B8 D4 (B8 F3 (pv 0) A6) A6)) A5)))
   (A7 (sS 6 nd (B4 (A0 (B4 (A0 B0 (A0 (pv 4) A5))) (A0 (B4 (A0 B0 (A0 A6 A5))) (A0 (pv 5) A5)))))
   (A7 (C2 (B7 (kEq (Z:=Z) hu) (B8 D4 (pv 0) A6) A6 rfl) (A8 (B6 (B4 (A0 (B4 (A0 B0 (A0 (pv 4) A5))) (A0 (B4 (A0 B0 (A0 (pv 2) A5))) (A0 (B4 (A0 B0 (A0 (pv 2) A5))) (A0 (B4 (A0 B0 (A0 (pv 2) A5))) (A0 (pv 5) A5)))))))) C0)
   (A7 (C2 (B7 (kEq (Z:=Z) hu) (B8 D4 (pv 0) A6) A6 rfl) (A8 (B6 (B8 (F1 (Z:=Z)) (B8 (F1 (Z:=Z)) (B8 (F1 (Z:=Z)) (B4 (A0 (B4 (A0 B0 (A0 A6 A5))) A5)) (pv 3)) (B4 (A0 (B4 (A0 B0 (A0 A6 A5))) (A0 (B4 (A0 B0 (A0 (pv 2) A5))) A5)))) (pv 6)))) C0)
   (A7 (C2 (B7 (kEq (Z:=Z) hu) (B8 D4 (pv 0) A6) A6 rfl) (A8 (B6 (B8 (F1 (Z:=Z)) (B8 (F1 (Z:=Z)) (B8 (F1 (Z:=Z)) (B4 (A0 (B4 (A0 B0 (A0 A6 A5))) (A0 (B4 (A0 B0 (A0 A6 A5))) A5))) (pv 3)) (B4 (A0 (B4 (A0 B0 (A0 A6 A5))) (A0 (B4 (A0 B0 (A0 (pv 2) A5))) (A0 (B4 (A0 B0 (A0 (pv 2) A5))) A5))))) (pv 6)))) C0)
   (A7 (C2 (B7 (kEq (Z:=Z) hu) (B8 D4 (pv 0) A6) A6 rfl) (A8 (B6 (B8 (F1 (Z:=Z)) (B8 (F1 (Z:=Z)) (B4 (A0 (B4 (A0 B0 (A0 A6 A5))) (A0 (B4 (A0 B0 (A0 (pv 2) A5))) A5))) (pv 3)) (B4 (A0 (B4 (A0 B0 (A0 A6 A5))) (A0 (B4 (A0 B0 (A0 (pv 4) A5))) (A0 (B4 (A0 B0 (A0 (pv 2) A5))) (A0 (B4 (A0 B0 (A0 (pv 2) A5))) A5)))))))) C0)
   (A7 (sS 7 nd (B4 (A0 (B4 (A0 B0 (A0 A6 A5))) (A0 (B4 (A0 B0 (A0 (pv 4) A5))) (A0 (B4 (A0 B0 (A0 A6 A5))) (A0 (B4 (A0 B0 (A0 A6 A5))) A5))))))
   (A8 (B6 (B8 (F1 (Z:=Z)) (B8 (F1 (Z:=Z)) (B8 (F1 (Z:=Z)) (pv 3) (pv 3)) (B4 (A0 (B4 (A0 B0 (A0 A6 A5))) (A0 (B4 (A0 B0 (A0 (pv 2) A5))) (A0 (B4 (A0 B0 (A0 (F7 LR (pv 4) A6 rfl) A5))) (A0 (B4 (A0 B0 A5)) A5)))))) (pv 7))))))))))))), ?_⟩
 refine⟨_,rfl,_,_,rfl,rfl,⟨by decide,by decide⟩,_,rfl,c/20,m,rfl,λq1 q2 q3 tr ae H1 s1 W hT T=> ?_⟩;refine⟨_,rfl,_,_,rfl,rfl,⟨by decide,by decide⟩,_,_,rfl,rfl,(by decide:(0:Int)<7), ?_⟩;have ha:Bd (c/20%7):=DH (by decide) (by decide);generalize c/20%7=a at ha⊢;obtain⟨k,hk,ad⟩:=ar4 (c/5);refine⟨(by show 4<=sizeLine;decide),λe1 ac=> ?_⟩;have s2:=_B.qA ac (.lst [.str "add",.str "sub",.str "mul",.str "div"]);refine⟨_,rfl,_,_,rfl,rfl,⟨by decide,by decide⟩,_,_,rfl,rfl,(by decide:(0:Int)<4),(ixL A4 ad ⟨F5,λsg X=> ?_⟩)⟩;have s3:=_B.qA X (.tup [.str (_C.wd k)]);have t3:=s1.trans (s2.trans s3);have N:=C9 (s2.trans s3) hT;have p:=(s2.trans s3) _ _ W;have l:upd (upd H1 e1 (.lst [.str "add",.str "sub",.str "mul",.str "div"])) sg (.tup [.str (_C.wd k)]) sg=some (.tup [.str (_C.wd k)]):=A4;show AX _ _ _ _ (upd (upd H1 e1 (.lst [.str "add",.str "sub",.str "mul",.str "div"])) sg (.tup [.str (_C.wd k)]));generalize upd (upd H1 e1 (.lst [.str "add",.str "sub",.str "mul",.str "div"])) sg (.tup [.str (_C.wd k)])=H3 at t3 N p l⊢;clear hT W s1 s2 s3;refine⟨_,rfl,C3,λo1 ab=>⟨C3,λo2 aa=>⟨_,rfl,E1,λon Y=> ?_⟩⟩⟩;have s4:=_B.qA ab (.tup [.str "push",.int a]);have s5:=_B.qA aa (.tup [.str "push",.int 2]);have s6:=_B.qA Y (.tup [.ref o1,.ref o2,.ref sg]);have M:=s5.trans s6;have v:=s4.trans M;have u:upd (upd (upd H3 o1 (.tup [.str "push",.int a])) o2 (.tup [.str "push",.int 2])) on (.tup [.ref o1,.ref o2,.ref sg]) on=some (.tup [.ref o1,.ref o2,.ref sg]):=A4;have hO:All2 (QAt (upd (upd (upd H3 o1 (.tup [.str "push",.int a])) o2 (.tup [.str "push",.int 2])) on (.tup [.ref o1,.ref o2,.ref sg]))) [.push (.n a),.push (.n 2),.two k] [.ref o1,.ref o2,.ref sg]:=.cons ⟨o1,rfl,M _ _ A4⟩ (.cons ⟨o2,rfl,s6 _ _ A4⟩ (.cons ⟨sg,rfl,v _ _ l⟩ .nil));have t4:=t3.trans v;have x:=C9 v N;have i:=v _ _ p;have D:=v _ _ l;show AX _ _ _ _ (upd (upd (upd H3 o1 (.tup [.str "push",.int a])) o2 (.tup [.str "push",.int 2])) on (.tup [.ref o1,.ref o2,.ref sg]));generalize upd (upd (upd H3 o1 (.tup [.str "push",.int a])) o2 (.tup [.str "push",.int 2])) on (.tup [.ref o1,.ref o2,.ref sg])=H4 at t4 x i D u hO⊢;clear N p l s4 s5 s6 v M t3;refine⟨_,rfl,_,_,rfl,rfl,(by decide:(0:Int)<5),.inl ⟨rfl,_,rfl,K5 (λe4=> ?_) (λe4=> ?_)⟩⟩
 ·refine⟨_,rfl,C3,λp1 h1=>⟨_,rfl,C3,λp2 h2=>⟨_,rfl,C3,λp3 h3=>⟨_,rfl,C3,λp4 h4=>⟨_,rfl,eMZ,λp5 h5=> ?_⟩⟩⟩⟩⟩;have x1:=_B.qA h1 (.tup [.str "push",.int a]);have x2:=_B.qA h2 (.tup [.str "keep",.int (d:Nat)]);have x3:=_B.qA h3 (.tup [.str "load",.int (d:Nat)]);have x4:=_B.qA h4 (.tup [.str "load",.int (d:Nat)]);have x5:=_B.qA h5 (.tup [.ref p1,.ref p2,.ref p3,.ref p4,.ref sg]);have g:=x4.trans x5;have e:=x3.trans g;have z:=x2.trans e;have o:=x1.trans z;exact q [.push (.n a),.keep d,.load d,.load d,.two k] p5 _ _ (t4.trans o) A4 (.cons ⟨p1,rfl,z _ _ A4⟩ (.cons ⟨p2,rfl,e _ _ A4⟩ (.cons ⟨p3,rfl,g _ _ A4⟩ (.cons ⟨p4,rfl,x5 _ _ A4⟩ (.cons ⟨sg,rfl,o _ _ D⟩ .nil))))) (pc4 hs hm ha hk)
 refine⟨_,rfl,_,_,rfl,rfl,(by decide:(0:Int)<5),.inl ⟨rfl,_,rfl,K5 (λe0=> ?_) (λe0=> ?_)⟩⟩
 ·refine⟨C3,λp1 h1=>⟨F5,λp2 h2=>⟨_,rfl, ?_⟩⟩⟩;have x1:=_B.qA h1 (.tup [.str "push",.int 9]);have x2:=_B.qA h2 (.tup [.ref p1]);have j:=x1.trans x2;refine U1 (r1:=[.push (.n 9)]) A4 (j _ _ i) (.cons ⟨p1,rfl,x2 _ _ A4⟩ .nil) (C9 j x) (by simp) (by simp) λr1 H5 L y1 t B1=> ?_;have u5:=j.trans y1;refine⟨C3,λp3 h3=>⟨_,rfl,C3,λp4 h4=>⟨C3,λp5 h5=> ?_⟩⟩⟩;have x3:=_B.qA h3 (.tup [.str "unless",.int 2]);have x4:=_B.qA h4 (.tup [.str "keep",.int (d:Nat)]);have x5:=_B.qA h5 (.tup [.ref p3,.ref p4]);have g:=x4.trans x5;have e:=x3.trans g;refine U1 (r2:=[.unl 2,.keep d]) (e _ _ t) A4 (C9 e B1) (.cons ⟨p3,rfl,g _ _ A4⟩ (.cons ⟨p4,rfl,x5 _ _ A4⟩ .nil)) (by simp) (by simp) λr2 H6 I y2 r B2=> ?_;have u6:=u5.trans (e.trans y2);refine⟨_,rfl,U1 r (u6 _ _ u) B2 (C9 u6 hO) (by simp) (by simp) λr3 H7 C y3 G B3=>q _ r3 C H7 (t4.trans (u6.trans y3)) G B3 (pc0 T hs hm ha hk)⟩
 refine⟨_,rfl,_,_,rfl,rfl,(by decide:(0:Int)<5),.inl ⟨rfl,_,rfl,K5 (λe1=> ?_) (λe1=> ?_)⟩⟩
 ·refine⟨C3,λp1 h1=>⟨C3,λp0 h0=>⟨C3,λp2 h2=>⟨_,rfl, ?_⟩⟩⟩⟩;have x1:=_B.qA h1 (.tup [.str "push",.int 9]);have x0:=_B.qA h0 (.tup [.str "push",.int 4]);have x2:=_B.qA h2 (.tup [.ref p1,.ref p0]);have B:=x0.trans x2;have j:=x1.trans B;refine U1 (r1:=[.push (.n 9),.push (.n 4)]) A4 (j _ _ i) (.cons ⟨p1,rfl,B _ _ A4⟩ (.cons ⟨p0,rfl,x2 _ _ A4⟩ .nil)) (C9 j x) (by simp) (by simp) λr1 H5 L y1 t B1=> ?_;have u5:=j.trans y1;refine⟨C3,λp3 h3=>⟨_,rfl,C3,λp4 h4=>⟨_,rfl,C3,λp6 h6=>⟨E1,λp5 h5=> ?_⟩⟩⟩⟩;have x3:=_B.qA h3 (.tup [.str "unless",.int 4]);have x4:=_B.qA h4 (.tup [.str "keep",.int (d:Nat)]);have x6:=_B.qA h6 (.tup [.str "keep",.int (d:Nat)]);have x5:=_B.qA h5 (.tup [.ref p3,.ref p4,.ref p6]);have y:=x6.trans x5;have g:=x4.trans y;have e:=x3.trans g;refine U1 (r2:=[.unl 4,.keep d,.keep d]) (e _ _ t) A4 (C9 e B1) (.cons ⟨p3,rfl,g _ _ A4⟩ (.cons ⟨p4,rfl,y _ _ A4⟩ (.cons ⟨p6,rfl,x5 _ _ A4⟩ .nil))) (by simp) (by simp) λr2 H6 I y2 r B2=> ?_;have u6:=u5.trans (e.trans y2);refine⟨_,rfl,U1 r (u6 _ _ u) B2 (C9 u6 hO) (by simp) (by simp) λr3 H7 C y3 G B3=>q _ r3 C H7 (t4.trans (u6.trans y3)) G B3 (pc1 T hs hm ha hk)⟩
 refine⟨_,rfl,_,_,rfl,rfl,(by decide:(0:Int)<5),.inl ⟨rfl,_,rfl,K5 (λe2=> ?_) (λe2=> ?_)⟩⟩
 ·refine⟨C3,λp1 h1=>⟨_,rfl,C3,λp0 h0=>⟨C3,λp2 h2=>⟨_,rfl, ?_⟩⟩⟩⟩;have x1:=_B.qA h1 (.tup [.str "push",.int 7]);have x0:=_B.qA h0 (.tup [.str "keep",.int (d:Nat)]);have x2:=_B.qA h2 (.tup [.ref p1,.ref p0]);have B:=x0.trans x2;have j:=x1.trans B;refine U1 (r1:=[.push (.n 7),.keep d]) A4 (j _ _ i) (.cons ⟨p1,rfl,B _ _ A4⟩ (.cons ⟨p0,rfl,x2 _ _ A4⟩ .nil)) (C9 j x) (by simp) (by simp) λr1 H5 L y1 t B1=> ?_;have u5:=j.trans y1;refine⟨C3,λp3 h3=>⟨_,rfl,C3,λp4 h4=>⟨_,rfl,C3,λp6 h6=>⟨_,rfl,C3,λp7 h7=>⟨IE,λp5 h5=> ?_⟩⟩⟩⟩⟩;have x3:=_B.qA h3 (.tup [.str "unless",.int 2]);have x4:=_B.qA h4 (.tup [.str "push",.int a]);have x6:=_B.qA h6 (.tup [.str "keep",.int (d:Nat)]);have x7:=_B.qA h7 (.tup [.str "load",.int (d:Nat)]);have x5:=_B.qA h5 (.tup [.ref p3,.ref p4,.ref p6,.ref p7]);have U:=x7.trans x5;have y:=x6.trans U;have g:=x4.trans y;have e:=x3.trans g;exact U1 (r2:=[.unl 2,.push (.n a),.keep d,.load d]) (e _ _ t) A4 (C9 e B1) (.cons ⟨p3,rfl,g _ _ A4⟩ (.cons ⟨p4,rfl,y _ _ A4⟩ (.cons ⟨p6,rfl,U _ _ A4⟩ (.cons ⟨p7,rfl,x5 _ _ A4⟩ .nil)))) (by simp) (by simp) λr2 H6 I y2 r B2=>q _ r2 I H6 (t4.trans (u5.trans (e.trans y2))) r B2 (pc2 T hs hm ha)
 refine⟨C3,λc1 h1=>⟨_,rfl,C3,λc2 h2=>⟨C3,λc3 h3=>⟨C3,λc4 h4=>⟨IE,λch h5=> ?_⟩⟩⟩⟩⟩;have x1:=_B.qA h1 (.tup [.str "unless",.int 2]);have x2:=_B.qA h2 (.tup [.str "push",.int a]);have x3:=_B.qA h3 (.tup [.str "skip",.int 1]);have x4:=_B.qA h4 (.tup [.str "push",.int 5]);have x5:=_B.qA h5 (.tup [.ref c1,.ref c2,.ref c3,.ref c4]);have g:=x4.trans x5;have e:=x3.trans g;have z:=x2.trans e;have o:=x1.trans z;have hC:All2 (QAt _) [.unl 2,.push (.n a),.skip 1,.push (.n 5)] [.ref c1,.ref c2,.ref c3,.ref c4]:=.cons ⟨c1,rfl,z _ _ A4⟩ (.cons ⟨c2,rfl,e _ _ A4⟩ (.cons ⟨c3,rfl,g _ _ A4⟩ (.cons ⟨c4,rfl,x5 _ _ A4⟩ .nil)));refine⟨_,rfl,_,rfl,U1 (o _ _ i) (o _ _ i) (C9 o x) (C9 o x) (by simp) (by simp) λr1 H5 L y1 t B1=> ?_⟩;refine⟨C3,λd1 g1=>⟨_,rfl,C3,λd2 g2=>⟨_,rfl,_,_,rfl,rfl,C3,λd3 g3=>⟨F5,λd4 g4=>⟨IE,λd5 g5=> ?_⟩⟩⟩⟩⟩;have z1:=_B.qA g1 (.tup [.str "unless",.int 2]);have z2:=_B.qA g2 (.tup [.str "keep",.int (d:Nat)]);have z3:=_B.qA g3 (.tup [.str "push",.bl (decide (a>2))]);have z4:=_B.qA g4 (.tup [.str "not"]);have z5:=_B.qA g5 (.tup [.ref d1,.ref d2,.ref d3,.ref d4]);have O:=z4.trans z5;have R:=z3.trans O;have S:=z2.trans R;have J:=z1.trans S;refine U1 (r2:=[.unl 2,.keep d,.push (.b (decide (a>2))),.not]) (J _ _ t) A4 (C9 J B1) (.cons ⟨d1,rfl,S _ _ A4⟩ (.cons ⟨d2,rfl,R _ _ A4⟩ (.cons ⟨d3,rfl,O _ _ A4⟩ (.cons ⟨d4,rfl,z5 _ _ A4⟩ .nil)))) (by simp) (by simp) λr2 H6 I y2 r B2=> ?_;have u6:=y1.trans (J.trans y2);refine⟨_,rfl,U1 r (u6 _ _ A4) B2 (C9 u6 hC) (by simp) (by simp) λr3 H7 C y3 G B3=>q _ r3 C H7 (t4.trans (o.trans (u6.trans y3))) G B3 (pc3 T hs hm ha _)⟩
end
abbrev s_law_pieces:Stmt:=_B.top 80
abbrev s_law_size:Stmt:=_B.top 81
abbrev HE:List Str:=["_law_script","_law_kind","_law_many","_law_rows","_law_k"]
theorem sc_law_pieces:FnScope HE cpZ (A9 s_law_pieces):=fS
abbrev EA:List Str:=["_law_rows","_law_count"]
theorem sc_law_size:FnScope EA c0Z (A9 s_law_size):=fS
theorem QP(h:qw q="keep"):∃s,q=.keep s:=by
 cases q with
 |keep s=>exact⟨s,rfl⟩
 |two k=>exact absurd h (GL k).2.2.2.2.1
 |push u=>exact absurd (show("push":Str)="keep"from h) (by decide +kernel)
 |load u=>exact absurd (show("load":Str)="keep"from h) (by decide +kernel)
 |not=>exact absurd h (by decide +kernel)
 |skip u=>exact absurd (show("skip":Str)="keep"from h) (by decide +kernel)
 |unl u=>exact absurd (show("unless":Str)="keep"from h) (by decide +kernel)
 |back=>exact absurd h (by decide +kernel)
section
inductive spPcsLW(Z:FZ)(vs:List V)(H:Hp)(Q:VK):Prop
 |mk:∀(a:Addr) (ns:List Int) (κ:Bool) (m:Nat),(vs=[.ref a,.str (kd κ),.int (m:Nat)])->(SqL Z H a (ns.map V.int))->(m<=4)->(∀rs k r us H',Same H H'->H' r=some (.tup us)->All2 (QAt H') rs us->k<=3->Pss m κ k rs->Q (.ref r) H')->spPcsLW Z vs H Q
def YV(Z:FZ):Sp:=λvs H Q _=>spPcsLW Z vs H Q
theorem ok_law_pieces(F:Fun Z "_law_pieces" "_law_pieces" s_law_pieces f fd)(B:NoL mg)
  (J5:Cn P w Z mg qB CX0 1 "_law_cell_at" awZ (ON Z))
  (IQ:Cn P w Z mg qB CX0 3 "_law_piece" q3L QU):
  FnOk P w Z mg qB CX0 4 f fd cpZ (YV Z):=by
 refine F.ok sc_law_pieces (λvs H Q E h=> ?_) (λM A t s H vs Q E hr h=> ?_)
 ·obtain⟨a,ns,κ,m,rfl,_⟩:=h;rfl
 obtain⟨a,ns,κ,m,rfl,hS,hm,q⟩:=h;have nd:=sc_law_pieces.nd;have hu:=hr.units0;have zz:(1000:Nat)<=sizeLine:=by decide
 refine⟨_,(A7 (sS 3 nd (B4 A5))
   (A7 (C6 (L4 PassesOwn.never rfl (F4 rfl B.range_ (A0 (B8 D4 (B8 F3 (cC J5 hr (A0 (pv 0) (A0 A6 A5))) A6) A6) A5)) (gN 4 nd) (A7 (sS 3 nd (B8 (F1 (Z:=Z)) (pv 3) (cC IQ hr (A0 (cC J5 hr (A0 (pv 0) (A0 (B8 (F1 (Z:=Z)) A6 (pv 4)) A5))) (A0 (pv 2) (A0 (B8 (F1 (Z:=Z)) A6 (pv 4)) A5))))))
   (A8 (C6 (C2 (B7 (kEq (Z:=Z) hu) (pv 1) B0 rfl) (A8 (sS 3 nd (B8 (F1 (Z:=Z)) (pv 3) (B4 (A0 (B4 (A0 B0 A5)) A5))))) (A8 (sS 3 nd (B8 (F1 (Z:=Z)) (pv 3) (B4 (A0 (B4 (A0 B0 (A0 A6 A5))) A5)))))))))))
   (A8 (B6 (pv 3))))), ?_⟩
 refine⟨(by show 0<=sizeLine;decide),λr0 D=> ?_⟩;have s0:=_B.qA D (.tup []);have v:upd H r0 (.tup []) r0=some (.tup []):=A4;show AX _ _ _ _ (upd H r0 (.tup []));generalize upd H r0 (.tup [])=H1 at s0 v⊢;refine⟨fun σ H'=>∃(z:Option V) (r:Addr) (us:List V) (rs:List _F.Q) (k:Nat),σ=[some (.ref a),some (.str (kd κ)),some (.int (m:Nat)),some (.ref r),z]/\Same H H'/\H' r=some (.tup us)/\All2 (QAt H') rs us/\k<=3/\Pss m κ k rs, ?_, ?_⟩
 ·refine⟨_,rfl,a,ns,0,rfl,s0.seq hS,by decide,λc=> ?_⟩;refine⟨_,_,rfl,rfl,⟨by decide,by decide⟩,_,_,rfl,rfl,(by decide:(0:Int)<4), ?_⟩;have h0:=Int.emod_nonneg (c/20) (by decide:(4:Int)≠0);have h1:=Int.emod_lt_of_pos (c/20) (by decide:(0:Int)<4);refine⟨_,rfl,by omega,by omega,N8 (n:=(c/20%4).toNat) (λi σ H'=>∃(z:Option V) (r:Addr) (us:List V) (rs:List _F.Q),σ=[some (.ref a),some (.str (kd κ)),some (.int (m:Nat)),some (.ref r),z]/\Same H H'/\H' r=some (.tup us)/\All2 (QAt H') rs us/\Pss m κ i rs) ?_ ?_ ?_⟩
  ·exact⟨none,r0,[],[],rfl,s0,v,.nil,Pss.nil m κ⟩
  ·rintro i σ H' hi ⟨z,r,us,rs,rfl,sm,d,hA,hP⟩;have hl:=hP.len;have I:(20:Int)+(0+(i:Nat))=((20+i:Nat):Int):=by omega
   refine⟨_,rfl,_,rfl,_,rfl,.inl ⟨_,_,rfl,rfl,a,ns,_,rfl,sm.seq hS,by omega,λc2=>⟨_,rfl,_,rfl,.inl ⟨_,_,rfl,rfl,c2,m,20+i,by rw[<-I];rfl,by omega,by omega,λps r2 L H2 s2 C G g=> ?_⟩⟩⟩⟩;refine U1 (s2 _ _ d) C (C9 s2 hA) G (by omega) (by have:=g.len;omega) λr3 H3 J s3 u y=> ?_;have p:=sm.trans (s2.trans s3);have x:(rs++ps).length<=5000:=by rw[length_append];have:=g.len;omega
   refine⟨fun σ H'=>∃(r:Addr) (us:List V) (rs:List _F.Q),σ=[some (.ref a),some (.str (kd κ)),some (.int (m:Nat)),some (.ref r),some (.int (0+(i:Nat)))]/\Same H H'/\H' r=some (.tup us)/\All2 (QAt H') rs us/\Pss m κ (i+1) rs, ?_,fun σ H' ⟨r,us,rs,e,h⟩=>⟨_,r,us,rs,e,h⟩⟩;refine⟨_,rfl,.inl ⟨rfl,_,rfl,K5 (λe=> ?_) (λe=> ?_)⟩⟩
   ·have e1:κ=true:=by
     cases κ with
     |true=>rfl
     |false=>exact absurd (of_decide_eq_true e) (by decide +kernel)
    subst e1;refine⟨_,rfl,F5,λp1 h1=>⟨F5,λp2 h2=> ?_⟩⟩;have x1:=_B.qA h1 (.tup [.str "add"]);have x2:=_B.qA h2 (.tup [.ref p1]);have b:=x1.trans x2;exact U1 (r2:=[.two 0]) (b _ _ u) A4 (C9 b y) (.cons ⟨p1,rfl,x2 _ _ A4⟩ .nil) x (by simp) λr4 H4 j s4 l o=>⟨r4,j,_,rfl,p.trans (b.trans s4),l,o,hP.num g (by omega)⟩
   ·have e1:κ=false:=by
     cases κ with
     |false=>rfl
     |true=>exact absurd (decide_eq_true rfl) e
    subst e1;refine⟨_,rfl,C3,λp1 h1=>⟨F5,λp2 h2=> ?_⟩⟩;have x1:=_B.qA h1 (.tup [.str "keep",.int 30]);have x2:=_B.qA h2 (.tup [.ref p1]);have b:=x1.trans x2;exact U1 (r2:=[.keep 30]) (b _ _ u) A4 (C9 b y) (.cons ⟨p1,rfl,x2 _ _ A4⟩ .nil) x (by simp) λr4 H4 j s4 l o=>⟨r4,j,_,rfl,p.trans (b.trans s4),l,o,hP.tru g (by omega)⟩
  ·rintro σ H' ⟨z,r,us,rs,rfl,sm,d,hA,hP⟩;exact⟨z,r,us,rs,_,rfl,sm,d,hA,by omega,hP⟩
 rintro σ H' ⟨z,r,us,rs,k,rfl,sm,d,hA,hk,hP⟩;exact⟨_,rfl,q rs k r us H' sm d hA hk hP⟩
inductive spSizeW (vs:List V) (H:Hp) (Q:VK):Prop
 |mk:∀(p:Addr) (us:List V) (rs:List _F.Q) (c:Nat),(vs=[.ref p,.int (c:Nat)])->(H p=some (.tup us))->(All2 (QAt H) rs us)->(rs.length<=1000)->(c<=40)->((∀s,_F.Q.keep s∈rs->s<40))->(∀(z:Nat) H',Same H H'->c<=z->z<=40->(∀s,_F.Q.keep s∈rs->s<z)->Q (.int (z:Nat)) H')->spSizeW vs H Q
def ZP:Sp:=λvs H Q _=>spSizeW vs H Q
theorem ok_law_size(F:Fun Z "_law_size" "_law_size" s_law_size f fd)(B:NoL mg):FnOk P w Z mg qB CX0 1 f fd c0Z ZP:=by
 refine F.ok sc_law_size (λvs H Q E h=> ?_) (λC A l s H vs Q E hr h=> ?_)
 ·obtain⟨p,us,rs,c,rfl,_⟩:=h;rfl
 obtain⟨p,us,rs,c,rfl,hp,hA,hl,hc,hk,q⟩:=h;have nd:=sc_law_size.nd;have hu:=hr.units0;have zz:(9000:Nat)<=sizeLine:=by decide
 refine⟨_,(A8 (B6 (F2 (eYZ (Z:=Z) rfl) rfl B.max_ cPZ (A0 (B8 (F1 (Z:=Z)) (C8 (A0 (pv 1) A5)) (L6 (cS (N:=EA) (sc:=A9 s_law_size) (caps:=[]) (ns:=[])) rfl rfl rfl (EN (Z:=Z) (pv 0)) (λ_ _ _ _ _=>(R7 (B7 (kEq (Z:=Z) hu) (ixE Z w (pv 0) A6) B0 rfl))) (λ_ _ _ _ _=>(B8 (F1 (Z:=Z)) (ixE Z w (pv 0) A6) A6)))) A5)))), ?_⟩;refine⟨_,rfl,F5,λe1 v=> ?_⟩;have s1:=_B.qA v (.lst [.int (c:Nat)]);have g:upd H e1 (.lst [.int (c:Nat)]) e1=some (.lst [.int (c:Nat)]):=A4;have k:=s1 _ _ hp;have n:=C9 s1 hA;generalize upd H e1 (.lst [.int (c:Nat)])=H1 at s1 g k n⊢;have u:=hA.len;refine⟨_,rfl,p,rfl,⟨_,SqT.of k⟩,ET (xs:=us) (λi zs H'=>H1=H'/\∃ks:List Nat,zs=(ks.map (λs=>((s:Nat):Int)+1)).map V.int/\ks.length<=i/\(∀s∈ks,_F.Q.keep s∈rs)/\∀s,_F.Q.keep s∈rs.take i->s∈ks) ⟨rfl,[],rfl,le_refl _,(λs h=>nomatch h),(λs h=>by rw[take_zero]at h;cases h)⟩ ?_ ?_ ?_⟩
 ·rintro i zs H' hi ⟨rfl,ks,rfl,hn,_⟩;exact⟨SqT.of k,by rw[length_map,length_map];omega⟩
 ·rintro i x zs H' hx ⟨rfl,ks,rfl,hn,j,d⟩;obtain⟨q0,m,b,rfl,hb⟩:=n.get hx;have et:rs.take (i+1)=rs.take i++ [q0]:=by rw[take_succ,m];rfl
  refine⟨_,rfl,(ixT hb (qv0 q0) (.inl ⟨rfl,_,rfl,K5 (λe=> ?_) (λe=> ?_)⟩))⟩
  ·obtain⟨s,rfl⟩:=QP (by have:=of_decide_eq_true e;injection this);refine⟨_,rfl,(ixT hb (rfl:atI (qv (.keep s)) 1=some (.int (s:Nat))) (.inl ⟨_,_,rfl,rfl,rfl,ks++ [s], ?_,by rw[length_append];show _+1<=_;omega,λt ht=> ?_,λt ht=> ?_⟩))⟩
   ·rw[map_append,map_append];rfl
   ·rcases mem_append.mp ht with z|z
    ·exact j t z
    ·rw[sZ z];exact mem_of_getElem? m
   ·rw[et]at ht;rcases mem_append.mp ht with z|z
    ·exact mem_append_left _ (d t z)
    ·cases sZ z;exact mem_append_right _ (mem_singleton.mpr rfl)
  ·refine⟨rfl,ks,rfl,by omega,j,λt ht=> ?_⟩;rw[et]at ht;rcases mem_append.mp ht with z|z
   ·exact d t z
   ·rw[<-sZ z]at e;exact absurd (decide_eq_true rfl) e
 rintro zs H' ⟨rfl,ks,rfl,hn,j,d⟩ D hD;have s2:=_B.qA hD (.lst ((ks.map (λs=>((s:Nat):Int)+1)).map V.int));rw[<-u,take_length]at d;have ec: [V.int (c:Nat)]++(ks.map (λs=>((s:Nat):Int)+1)).map V.int=(((c:Nat):Int)::ks.map (λs=>((s:Nat):Int)+1)).map V.int:=rfl;refine .inr (.inl ⟨e1,D,[.int (c:Nat)],_,rfl,rfl,s2 _ _ g,A4,by rw[length_map,length_map];show 1+ks.length<=sizeLine;omega,λr o=> ?_⟩);have s3:=_B.qA o (.lst ([V.int (c:Nat)]++(ks.map (λs=>((s:Nat):Int)+1)).map V.int));refine .inr ⟨r,((c:Nat):Int)::ks.map (λs=>((s:Nat):Int)+1),rfl,SqL.of A4,succ_pos _,λM hM a=> ?_⟩;have y:=a _ (mem_cons_self ..);obtain⟨z,hz⟩:∃z:Nat,M=(z:Nat):=⟨M.toNat,by omega⟩;subst hz;refine q z _ (s1.trans (s2.trans s3)) (by omega) ?_ λs hs=> ?_
 ·rcases cZ hM with e|e
  ·omega
  ·obtain⟨s,hs,e⟩:=mem_map.mp e;have:=hk s (j s hs);omega
 ·have:=a _ (mem_cons_of_mem _ (mem_map.mpr ⟨s,d s hs,rfl⟩));omega
end
end _F
namespace _F
open PySem _L
open _B hiding NoG ifT ifF top
open _C (Bd F5 C3 E1)
open _J (ixN_nat ifT ifF RowsAt Rw Wf AllR R Src Okr stays rowAt AU at0 inJ inL wd LV)
seal PE PT PW PA PS PSs PTs PI PG PGs PO
abbrev s_law_led:Stmt:=_B.top 82
abbrev AW:List Str:=["_law_rows","_law_marks","_law_led_here","_law_at"]
theorem sc_law_led:FnScope AW ["_law_rows"] (A9 s_law_led):=fS
abbrev JV:List V:=[.str "skip",.str "unless"]
theorem QN{ms:List Bool}{j:Nat}{b:Bool}(h:ms[j]? =some b):atI (ms.map V.bl) (j:Int)=some (.bl b):=C4 (by rw[getElem?_map,h];rfl)
theorem noJ{j:Nat}(h:_J.isJ r=false):_J.gn r i≠some j:=by
 cases r with
 |oth xs=>exact λz=>nomatch z
 |_=>cases h
theorem eNZ(h:_J.isJ r=true)(i:Nat):∃k:Nat,_J.gn r i=some (i+1+k)/\atI (_J.rv r) 1=some (.int (k:Nat)):=by
 cases r with
 |oth xs=>cases h
 |skip k=>exact⟨k,rfl,rfl⟩
 |unl k=>exact⟨k,rfl,rfl⟩
def Mkd(rs:List Rw)(i:Nat)(ms:List Bool):Prop:=ms.length=rs.length/\∀j,j<rs.length->(j=0\/∃s,s<i/\R rs s/\Src rs s j)->ms[j]? =some true
theorem Mkd.here(h:Mkd rs i ms)(hR:R rs i)(hi:i<rs.length):ms[i]? =some true:=h.2 i hi (R.iff.mp hR)
theorem Mkd.set(h:Mkd rs i ms)(p:Nat):Mkd rs i (ms.set p true):=by
 refine⟨by rw[length_set];exact h.1,λj hj hx=> ?_⟩;have:=h.2 j hj hx;by_cases e:p=j
 ·subst e;rw[getElem?_set_self (by rw[h.1];exact hj)]
 ·rw[getElem?_set_ne e];exact this
def Ldd(rs:List Rw)(i:Nat)(ls:List Bool):Prop:=ls.length=rs.length/\∀s r j,s<i->rs[s]? =some r->_J.gn r s=some j->ls[j]? =some true
theorem Ldd.set(h:Ldd rs i ls){p:Nat}(hp:p<rs.length):Ldd rs i (ls.set p true)/\(ls.set p true)[p]? =some true:=by
 have hq:(ls.set p true)[p]? =some true:=by rw[getElem?_set_self (by rw[h.1];exact hp)]
 refine⟨⟨by rw[length_set];exact h.1,λs r j h1 h2 h3=> ?_⟩,hq⟩;have:=h.2 s r j h1 h2 h3;by_cases e:p=j
 ·subst e;exact hq
 ·rw[getElem?_set_ne e];exact this
theorem Ldd.next{r:Rw}(h:Ldd rs i ls)(hr:rs[i]? =some r)(hg:∀j,_J.gn r i=some j->ls[j]? =some true):Ldd rs (i+1) ls:=⟨h.1,λs r' j h1 h2 h3=>by
 by_cases e:s=i
 ·subst e;rw[hr]at h2;cases h2;exact hg j h3
 ·exact h.2 s r' j (by omega) h2 h3⟩
section
def stK(p lm ll:Addr)(o:Option V):St:=[some (.ref p),some (.ref lm),some (.ref ll),o]
inductive spLedW (vs:List V) (H:Hp) (Q:VK):Prop
 |mk:∀(p:Addr) (rs:List Rw),(vs=[.ref p])->(RowsAt H p rs)->(rs.length<=1000)->(Wf rs)->(AllR rs)->(∀(l:Addr) (ls:List Bool) (H':Hp),Same H H'->H' l=some (.lst (ls.map V.bl))->Ldd rs rs.length ls->Q (.ref l) H')->spLedW vs H Q
def bFZ:Sp:=λvs H Q _=>spLedW vs H Q
theorem ok_law_led(F:Fun Z "_law_led" "_law_led" s_law_led f fd)(B:NoL mg):FnOk P w Z mg qB CX0 1 f fd ["_law_rows"] bFZ:=by
 refine F.ok sc_law_led (λvs H Q E h=> ?_) (λau A af s H vs Q E hr h=> ?_)
 ·obtain⟨p,rs,rfl,_⟩:=h;rfl
 obtain⟨p,rs,rfl,hR,hn,hW,hA,q⟩:=h;have nd:=sc_law_led.nd;have hu:=hr.units0;have zz:(4000:Nat)<=sizeLine:=by decide
 obtain⟨us,h1,h2,h3,h4⟩:=id hR;refine⟨_,(A7 (K1 (i:=1) nd rfl rfl (cS (N:=AW) (sc:=A9 s_law_led) (caps:=[]) (ns:=[])) rfl rfl rfl (F4 rfl B.range_ (A0 (kL Z B.len_ (pv 0)) A5)) (λ_ _ _ _ _=>J8) (λ_ _ _ _ _=>(F7 (kEq (Z:=Z) hu) (pv 0) A6 rfl)))
   (A7 (K1 (i:=2) nd rfl rfl (cS (N:=AW) (sc:=A9 s_law_led) (caps:=[]) (ns:=[])) rfl rfl rfl (EN (Z:=Z) (pv 0)) (λ_ _ _ _ _=>J8) (λ_ _ _ _ _=>K2))
   (A7 (C6 (L4 PassesOwn.never rfl (F4 rfl B.range_ (A0 (kL Z B.len_ (pv 0)) A5)) (gN 3 nd) (A7 (C6 (C2 (PW.pt (R5 (E5 (Z:=Z) (ixE Z w (pv 1) (pv 3)) (λ_=>rfl)) (O6 (B7 (kIn (Z:=Z) (w:=w)) (ixE Z w (ixE Z w (pv 0) (pv 3)) A6) (B4 (A0 B0 (A0 B0 A5))) rfl)))) (A7 (P0 K2 (P1 (pv 1) (B8 L5 (B8 L5 (pv 3) A6) (ixE Z w (ixE Z w (pv 0) (pv 3)) A6)) P6))
   (A8 (P0 K2 (P1 (pv 2) (B8 L5 (B8 L5 (pv 3) A6) (ixE Z w (ixE Z w (pv 0) (pv 3)) A6)) P6)))) C0))
   (A8 (C6 (C2 (PW.pt (R5 (E5 (Z:=Z) (ixE Z w (pv 1) (pv 3)) (λ_=>rfl)) (O6 (B7 (VY (Z:=Z)) (ixE Z w (ixE Z w (pv 0) (pv 3)) A6) (B4 (A0 B0 (A0 B0 A5))) rfl)))) (A8 (P0 K2 (P1 (pv 1) (B8 L5 (pv 3) A6) P6))) C0))))))
   (A8 (B6 (pv 2)))))), ?_⟩
 refine⟨_,rfl,_,_,rfl,.inr ⟨_,SqT.of h1,rfl⟩,_,rfl,by omega,by omega,M1 (n:=us.length) (λi zs H'=>H=H'/\∃ms:List Bool,zs=ms.map V.bl/\ms.length=i/\(0<i->ms[0]? =some true)) ⟨rfl,[],rfl,rfl,λz=>absurd z (lt_irrefl _)⟩ ?_ ?_ ?_⟩
 ·rintro i zs H' hi ⟨_,ms,rfl,hl,_⟩;rw[length_map];omega
 ·rintro i zs H' hi ⟨rfl,ms,rfl,hl,hm⟩;refine O4 ⟨_,rfl,.inl ⟨rfl,rfl,ms++ [decide (V.int (0+(i:Int))=V.int 0)],by rw[map_append];rfl,by rw[length_append,hl];rfl,λ_=> ?_⟩⟩;cases i with
  |zero=>
   rw[List.length_eq_zero_iff.mp hl];rfl
  |succ i=>
   rw[getElem?_append_left (by omega)];exact hm (succ_pos _)
 rintro zs H' ⟨rfl,ms,rfl,hl,hm⟩ lm ai;have s1:=_B.qA ai (.lst (ms.map V.bl));have O:upd H lm (.lst (ms.map V.bl)) lm=some (.lst (ms.map V.bl)):=A4;show S0 _ _ _ (upd H lm (.lst (ms.map V.bl))) _;generalize upd H lm (.lst (ms.map V.bl))=H1 at s1 O⊢;have wl:∀(Hx:Hp) (o:HO),Same H Hx->Same H (upd Hx lm o):=λHx o a x u h=>by rw[B5 (λe=>by subst e;rw[ai]at h;cases h)];exact a _ _ h
 refine⟨_,rfl,p,rfl,⟨_,SqT.of (s1 _ _ h1)⟩,ET (xs:=us) (λi zs H'=>H1=H'/\zs=(List.replicate i false).map V.bl) ⟨rfl,rfl⟩ ?_ ?_ ?_⟩
 ·rintro i zs H' hi ⟨rfl,rfl⟩;exact⟨SqT.of (s1 _ _ h1),by rw[length_map,length_replicate];omega⟩
 ·rintro i x zs H' hx ⟨rfl,rfl⟩;exact O4 ⟨rfl,by rw[List.replicate_succ',map_append];rfl⟩
 rintro zs H' ⟨rfl,rfl⟩ ll M;have X:H ll=none:=s1.free M;have W:lm≠ll:=B9 O M;have I:=_B.qA M (.lst ((List.replicate us.length false).map V.bl));have v:upd H1 ll (.lst ((List.replicate us.length false).map V.bl)) ll=some (.lst ((List.replicate us.length false).map V.bl)):=A4;have D:=I _ _ O;have T:=s1.trans I;show S0 _ _ _ (upd H1 ll (.lst ((List.replicate us.length false).map V.bl))) _;generalize upd H1 ll (.lst ((List.replicate us.length false).map V.bl))=av at I v D T⊢;clear I O s1 M;have ao:∀(Hx:Hp) (o:HO),Same H Hx->Same H (upd Hx ll o):=λHx o a x u h=>by rw[B5 (λe=>by subst e;rw[X]at h;cases h)];exact a _ _ h
 refine⟨fun σ H'=>∃(o:Option V) (ms ls:List Bool),σ=stK p lm ll o/\Same H H'/\H' lm=some (.lst (ms.map V.bl))/\H' ll=some (.lst (ls.map V.bl))/\Ldd rs rs.length ls, ?_, ?_⟩
 ·refine⟨_,rfl,_,_,rfl,.inr ⟨_,SqT.of (T _ _ h1),rfl⟩,_,rfl,by omega,by omega,N8 (n:=us.length) (λi σ H'=>∃(o:Option V) (ms ls:List Bool),σ=stK p lm ll o/\Same H H'/\H' lm=some (.lst (ms.map V.bl))/\H' ll=some (.lst (ls.map V.bl))/\Mkd rs i ms/\Ldd rs i ls) ?_ ?_ ?_⟩
  ·refine⟨none,ms,List.replicate us.length false,rfl,T,D,v,⟨by omega,λj hj hx=> ?_⟩,by rw[length_replicate];exact h2,λs r j hs=>absurd hs (not_lt_zero _)⟩;rcases hx with rfl|⟨s,hs,_⟩
   ·exact hm (by omega)
   ·exact absurd hs (not_lt_zero _)
  ·rintro i σ H2 hi ⟨o,b,g,rfl,s2,C,G,hM,hL⟩;have S:i<rs.length:=by omega
   have al:=hA i S;have d:=AU S;generalize rowAt rs i=r at d;obtain⟨a,ha,J⟩:=h4 i r d;have L:Okr r:=h3 r (mem_of_getElem? d);rw[Int.zero_add];refine⟨fun σ H'=>∃(ms ls:List Bool),σ=stK p lm ll (some (.int (i:Nat)))/\Same H H'/\H' lm=some (.lst (ms.map V.bl))/\H' ll=some (.lst (ls.map V.bl))/\Mkd rs i ms/\Ldd rs (i+1) ls/\∀j,_J.gn r i=some j->ms[j]? =some true, ?_, ?_⟩
   ·refine⟨_,rfl,_,rfl,(ixL C (QN (hM.here al S)) ⟨true,rfl,ifT rfl ?_⟩)⟩;refine⟨_,rfl,_,rfl,.inr (.inl ⟨p,us,(i:Nat),_,rfl,rfl,SqT.of (s2 _ _ h1),C4 ha,(ixT (s2 _ _ J) (at0 L) ⟨C3,λtt l=> .inr (.inl ⟨tt,JV,rfl,.inr (SqT.of A4),rfl,rfl,_,rfl, ?_⟩)⟩)⟩)⟩;have s3:=s2.trans (_B.qA l (.tup JV));have aa:=(_B.qA l (.tup JV)) _ _ C;have ac:=(_B.qA l (.tup JV)) _ _ G;generalize upd H2 tt (.tup JV)=H3 at s3 aa ac⊢;show if inV (.str (wd r)) JV=true then _ else _
    rw[inJ L];cases hJ:_J.isJ r with
    |false=>exact ifF nZ ⟨b,g,rfl,s3,aa,ac,hM,hL.next d (λj h=>absurd h (noJ hJ)),λj h=>absurd h (noJ hJ)⟩
    |true=>
     obtain⟨k,hg,ak⟩:=eNZ hJ i;have hj:=hW.2 i _ ⟨_,d,.inr hg⟩;have e1:(i:Int)+1+((k:Nat):Int)=((i+1+k:Nat):Int):=by omega
     have an:=hL.set hj;refine ifT rfl ⟨_,rfl,_,rfl,.inl ⟨_,_,rfl,rfl,_,rfl,_,rfl,.inr (.inl ⟨p,us,(i:Nat),_,rfl,rfl,SqT.of (s3 _ _ h1),C4 ha,(ixT (s3 _ _ J) ak (.inl ⟨_,_,rfl,rfl,lm,_,_,i+1+k,rfl,rfl,aa, ?_, ?_⟩))⟩)⟩⟩
     ·rw[e1];exact ixN_nat (by rw[length_map,hM.1];exact hj)
     have s4:=wl _ (.lst ((b.map V.bl).set (i+1+k) (.bl true))) s3;have R:upd H3 lm (.lst ((b.map V.bl).set (i+1+k) (.bl true))) ll=some (.lst (g.map V.bl)):=by rw[B5 (Ne.symm W)];exact ac
     have y:upd H3 lm (.lst ((b.map V.bl).set (i+1+k) (.bl true))) lm=some (.lst ((b.set (i+1+k) true).map V.bl)):=by rw[A4,List.map_set]
     generalize upd H3 lm (.lst ((b.map V.bl).set (i+1+k) (.bl true)))=H4 at s4 R y⊢;refine⟨_,rfl,_,rfl,.inl ⟨_,_,rfl,rfl,_,rfl,_,rfl,.inr (.inl ⟨p,us,(i:Nat),_,rfl,rfl,SqT.of (s4 _ _ h1),C4 ha,(ixT (s4 _ _ J) ak (.inl ⟨_,_,rfl,rfl,ll,_,_,i+1+k,rfl,rfl,R, ?_,b.set (i+1+k) true,g.set (i+1+k) true,rfl,ao _ _ s4,by rw[B5 W];exact y,by rw[A4,List.map_set],hM.set _,an.1.next d (λj h=> ?_),λj h=> ?_⟩))⟩)⟩⟩
     ·rw[e1];exact ixN_nat (by rw[length_map,hL.1];exact hj)
     ·cases hg.symm.trans h;exact an.2
     ·cases hg.symm.trans h;rw[getElem?_set_self (by rw[hM.1];exact hj)]
   rintro σ H4 ⟨U,ag,rfl,s4,y,R,m,am,aj⟩;have up:∀t,Mkd rs i t->(∀j,_J.gn r i=some j->t[j]? =some true)->(stays r=true->t[i+1]? =some true)->Mkd rs (i+1) t:=λt ae aq ap=>⟨ae.1,λj hj hx=>by
    rcases hx with h|⟨s,hs,ar,hS⟩
    ·exact ae.2 j hj (.inl h)
    ·by_cases e:s=i
     ·subst e;obtain⟨r',ah,hx⟩:=hS;rw[d]at ah;cases ah;rcases hx with⟨c,rfl⟩|h
      ·exact ap c
      ·exact aq j h
     ·exact ae.2 j hj (.inr ⟨s,by omega,ar,hS⟩)⟩
   refine⟨fun σ H'=>∃(o:Option V) (ms ls:List Bool),σ=stK p lm ll o/\Same H H'/\H' lm=some (.lst (ms.map V.bl))/\H' ll=some (.lst (ls.map V.bl))/\Mkd rs (i+1) ms/\Ldd rs (i+1) ls, ?_,λ_ _ h=>h⟩;refine⟨_,rfl,_,rfl,(ixL y (QN (m.here al S)) ⟨true,rfl,ifT rfl ?_⟩)⟩;refine⟨_,rfl,_,rfl,.inr (.inl ⟨p,us,(i:Nat),_,rfl,rfl,SqT.of (s4 _ _ h1),C4 ha,(ixT (s4 _ _ J) (at0 L) ⟨C3,λtt l=> .inr ⟨tt,LV,rfl,.inr (SqT.of A4),rfl,rfl,_,rfl, ?_⟩⟩)⟩)⟩;have s5:=s4.trans (_B.qA l (.tup LV));have Y:=(_B.qA l (.tup LV)) _ _ y;have ab:=(_B.qA l (.tup LV)) _ _ R;generalize upd H4 tt (.tup LV)=H5 at s5 Y ab⊢;show if(!inV (.str (wd r)) LV)=true then _ else _
   rw[inL L,Bool.not_not];cases hs:stays r
   ·exact ifF nZ ⟨_,U,ag,rfl,s5,Y,ab,up U m aj (λz=>by rw[hs]at z;cases z),am⟩
   ·have ad:=hW.2 i (i+1) ⟨r,d,.inl ⟨hs,rfl⟩⟩;refine ifT rfl ⟨_,rfl,_,rfl,.inl ⟨_,_,rfl,rfl,lm,_,_,i+1,rfl,rfl,Y,ixN_nat (by rw[length_map,m.1];exact ad),_,U.set (i+1) true,ag,rfl,wl _ _ s5,by rw[A4,List.map_set],by rw[B5 (Ne.symm W)];exact ab,up _ (m.set _) (λj h=> ?_) (λ_=>by rw[getElem?_set_self (by rw[m.1];exact ad)]),am⟩⟩;by_cases e:i+1=j
    ·subst e;rw[getElem?_set_self (by rw[m.1];exact ad)]
    ·rw[getElem?_set_ne e];exact aj j h
  ·rintro σ H2 ⟨o,b,g,rfl,s2,C,G,hM,hL⟩;rw[h2]at hL;exact⟨o,b,g,rfl,s2,C,G,hL⟩
 rintro σ H2 ⟨o,b,g,rfl,s2,C,G,hL⟩;exact⟨_,rfl,q ll g H2 s2 G hL⟩
end
end _F
namespace _F
open PySem _L
open _B hiding NoG ifT ifF top
open _C (Bd F5 C3 E1)
open _J (ifT ifF RowsAt Wf AllR)
seal PE PT PW PA PS PSs PTs PI PG PGs PO
abbrev s_law_is_number:Stmt:=_B.top 83
abbrev s_law_goes:Stmt:=_B.top 84
abbrev s_law_known:Stmt:=_B.top 85
abbrev CQ:List Str:=["_law_row"]
theorem sc_law_is_number:FnScope CQ ["_law_row"] (A9 s_law_is_number):=fS
abbrev OZ:List Str:=["_law_word","_law_a","_law_b"]
theorem sc_law_goes:FnScope OZ cvZ (A9 s_law_goes):=fS
abbrev BP:List Str:=["_law_rows","_law_led_here","_law_at","_law_row"]
theorem sc_law_known:FnScope BP dzZ (A9 s_law_known):=fS
def AD:_F.Q->Bool
 | .push (.n _)=>true
 |_=>false
theorem aOZ(p:_F.Q)(h:∀k,p≠ .two k):decide (V.str (qw p)=V.str "div")=false/\inV (.str (qw p)) [.str "add",.str "sub",.str "mul"]=false/\inV (.str (qw p)) [.str "less",.str "same"]=false:=by
 cases p with
 |two k=>exact absurd rfl (h k)
 |push u=>exact(by decide +kernel:decide (V.str "push"=V.str "div")=false/\inV (.str "push") [.str "add",.str "sub",.str "mul"]=false/\inV (.str "push") [.str "less",.str "same"]=false)
 |load u=>exact(by decide +kernel:decide (V.str "load"=V.str "div")=false/\inV (.str "load") [.str "add",.str "sub",.str "mul"]=false/\inV (.str "load") [.str "less",.str "same"]=false)
 |keep u=>exact(by decide +kernel:decide (V.str "keep"=V.str "div")=false/\inV (.str "keep") [.str "add",.str "sub",.str "mul"]=false/\inV (.str "keep") [.str "less",.str "same"]=false)
 |skip u=>exact(by decide +kernel:decide (V.str "skip"=V.str "div")=false/\inV (.str "skip") [.str "add",.str "sub",.str "mul"]=false/\inV (.str "skip") [.str "less",.str "same"]=false)
 |unl u=>exact(by decide +kernel:decide (V.str "unless"=V.str "div")=false/\inV (.str "unless") [.str "add",.str "sub",.str "mul"]=false/\inV (.str "unless") [.str "less",.str "same"]=false)
 |not=>exact(by decide +kernel:decide (V.str "not"=V.str "div")=false/\inV (.str "not") [.str "add",.str "sub",.str "mul"]=false/\inV (.str "not") [.str "less",.str "same"]=false)
 |back=>exact(by decide +kernel:decide (V.str "back"=V.str "div")=false/\inV (.str "back") [.str "add",.str "sub",.str "mul"]=false/\inV (.str "back") [.str "less",.str "same"]=false)
theorem DB[Decidable c](h:(if c then(.inr n:U⊕Nat)else .inl v)=.inr w):c:=by
 by_cases e:c
 ·exact e
 ·rw[if_neg e]at h;cases h
theorem a2Z{z:Int}(h:z>_N.GR\/z< -_N.GR):decide ((if z<0 then -z else z)<=10^(40:Int).toNat)=false:=by
 have e:_N.GR=10^(40:Int).toNat:=by decide
 rw[e]at h;have h0:(0:Int)<10^(40:Int).toNat:=by decide
 generalize(10:Int)^(40:Int).toNat=g at*;refine decide_eq_false ?_;split<;>omega
theorem dDZ{y:_F.Q}(h1:y≠ .not)(h2:∀n,y≠ .unl n):inV (.str (qw y)) [.str "not",.str "unless"]=false:=by
 cases y with
 |not=>exact absurd rfl h1
 |unl n=>exact absurd rfl (h2 n)
 |push u=>exact(by decide +kernel:inV (.str "push") [.str "not",.str "unless"]=false)
 |load u=>exact(by decide +kernel:inV (.str "load") [.str "not",.str "unless"]=false)
 |keep u=>exact(by decide +kernel:inV (.str "keep") [.str "not",.str "unless"]=false)
 |skip u=>exact(by decide +kernel:inV (.str "skip") [.str "not",.str "unless"]=false)
 |back=>exact(by decide +kernel:inV (.str "back") [.str "not",.str "unless"]=false)
 |two k=>
  have h:∀k<6,inV (.str (_C.wd k)) [.str "not",.str "unless"]=false:=by decide +kernel
  by_cases hk:k<6
  ·exact h k hk
  ·obtain⟨j,rfl⟩:∃j,k=j+6:=⟨k - 6,by omega⟩;exact h 5 (by decide)
theorem YM(x:_F.Q)(s:Nat):W8 (qv x) [.str "load",.int (s:Nat)]=decide (x=.load s):=by
 cases x with
 |load t=>
  show((eqV (.str "load") (.str "load")&&(eqV (.int (t:Nat)) (.int (s:Nat))&&true))&&(2==2))=_;rw[show eqV (.str "load") (.str "load")=true by decide +kernel,show((2:Nat)==2)=true from rfl,Bool.true_and,Bool.and_true,Bool.and_true];rw[Bool.eq_iff_iff,decide_eq_true_iff];constructor
  ·intro h;have:(t:Int)=(s:Int):=by simpa [eqV]using h
   have:t=s:=by omega
   rw[this]
  ·intro h;cases h;simp[eqV]
 |push u=>exact eq2 (by decide +kernel)
 |keep t=>exact eq2 (by decide +kernel)
 |skip t=>exact eq2 (by decide +kernel)
 |unl t=>exact eq2 (by decide +kernel)
 |two k=>exact eq1
 |not=>exact eq1
 |back=>exact eq1
theorem ZD(h:AD x=true):∃i,x=.push (.n i):=by
 cases x with
 |push u=>cases u with
  |n i=>exact⟨i,rfl⟩
  |b c=>cases h
 |_=>cases h
theorem ZQ{rs:List _F.Q}(h:Ldd (rs.map tj) rs.length ls){j:Nat}(hb:ls[j]? =some false):isG rs j=false:=by
 cases e:isG rs j with
 |false=>rfl
 |true=>
  obtain⟨a,q,h1,h2⟩:=isG_iff.mp e;have:=h.2 a (tj q) j (List.getElem?_eq_some_iff.mp h1).1 (BU h1) (by rw[EX];exact h2);rw[hb]at this;cases this
section
inductive spIsNumW(vs:List V)(H:Hp)(Q:VK):Prop
 |mk:∀(a:Addr) (q:_F.Q),(vs=[.ref a])->(H a=some (.tup (qv q)))->(Q (.bl (AD q)) H)->spIsNumW vs H Q
def PY:Sp:=λvs H Q _=>spIsNumW vs H Q
theorem ok_law_is_number(F:Fun Z "_law_is_number" "_law_is_number" s_law_is_number f fd)(B:NoL mg):FnOk P w Z mg qB CX0 1 f fd ["_law_row"] PY:=by
 refine F.ok sc_law_is_number (λvs H Q E h=> ?_) (λg A d s H vs Q E hr h=> ?_)
 ·obtain⟨a,q,rfl,_⟩:=h;rfl
 obtain⟨a,x,rfl,ha,q⟩:=h;have nd:=sc_law_is_number.nd;have hu:=hr.units0;refine⟨_,(A8 (B6 (BC (F7 (kEq (Z:=Z) hu) (ixE Z w (pv 0) A6) B0 rfl) (BC (F2 (Y6 (Z:=Z)) rfl B.isinstance_ D9 (A0 (ixE Z w (pv 0) A6) (A0 (N7 (v:=.ty "int") rfl B.int_ YQ rfl) A5))) (BG (HC (F2 (Y6 (Z:=Z)) rfl B.isinstance_ D9 (A0 (ixE Z w (pv 0) A6) (A0 (N7 (v:=.ty "bool") rfl B.bool_ AC rfl) A5))))))))), ?_⟩;refine⟨_,rfl,(ixT ha (qv0 x) (.inl ⟨rfl,_,rfl, ?_⟩))⟩;rw[DG];have no:AD x=false->{nx:=λx H'=>Q V.non H',rt:=Q:Ends}.rt (V.bl false) H:=λe=>by rw[e]at q;exact q
 cases x with
 |push u=>
  cases u with
  |n i=>exact ifT rfl ⟨_,rfl,(ixT ha rfl ⟨_,_,_,_,rfl,.int _,XS,_,rfl,ifT rfl ⟨_,rfl,(ixT ha rfl ⟨_,_,_,_,rfl,.int _,ED,_,rfl,q⟩)⟩⟩)⟩
  |b c=>exact ifT rfl ⟨_,rfl,(ixT ha rfl ⟨_,_,_,_,rfl,.bl _,YW,_,rfl,ifT rfl ⟨_,rfl,(ixT ha rfl ⟨_,_,_,_,rfl,.bl _,EE,_,rfl,q⟩)⟩⟩)⟩
 |_=>exact ifF nZ (no rfl)
inductive spGoesW (vs:List V) (H:Hp) (Q:VK):Prop
 |mk:∀(q:_F.Q) (x y:Int),(vs=[.str (qw q),.int x,.int y])->(Bd x)->(Bd y)->((∀k,q=.two k->∃w,twc k x y=.inr w))->(∀H',Same H H'->Q (.bl false) H')->spGoesW vs H Q
def YX:Sp:=λvs H Q _=>spGoesW vs H Q
theorem ok_law_goes(F:Fun Z "_law_goes" "_law_goes" s_law_goes f fd)(B:NoL mg):FnOk P w Z mg qB CX0 1 f fd cvZ YX:=by
 refine F.ok sc_law_goes (λvs H Q E h=> ?_) (λm A c s H vs Q E hr h=> ?_)
 ·obtain⟨q,x,y,rfl,_⟩:=h;rfl
 obtain⟨p,x,y,rfl,hx,hy,hp,q⟩:=h;have nd:=sc_law_goes.nd;have hu:=hr.units0;refine⟨_,(A7 (C2 (B7 (kEq (Z:=Z) hu) (pv 0) B0 rfl) (A8 (B6 (F7 (kNe (Z:=Z) hu) (pv 2) A6 rfl))) C0)
   (A7 (C2 (B7 (kIn (Z:=Z) (w:=w)) (pv 0) (B4 (A0 B0 (A0 B0 (A0 B0 A5)))) rfl) (A8 (B6 (F7 XH (F2 EL rfl B.abs_ NK (A0 (ixE Z w (C8 (A0 (B8 L5 (pv 1) (pv 2)) (A0 (B8 G1 (pv 1) (pv 2)) (A0 (B8 QR (pv 1) (pv 2)) A5)))) (XE (Z:=Z) PySem.F.plainAttrs_list PySem.F.slot_list_index PySem.F.type_list_index (WU (Z:=Z)) (C8 (A0 B0 (A0 B0 (A0 B0 A5)))) (A0 (pv 0) A5))) A5)) (B8 U5 A6 A6) rfl))) C0)
   (A8 (B6 (F7 (kIn (Z:=Z) (w:=w)) (pv 0) (B4 (A0 B0 (A0 B0 A5))) rfl))))), ?_⟩
 by_cases hT:∃k,p=.two k
 ·obtain⟨k,rfl⟩:=hT;obtain⟨w0,hw⟩:=hp k rfl;by_cases d:k<3
  ·obtain⟨j,z,f1,f2,f3,f4,hz⟩:∃(j:Nat) (z:Int),¬decide (V.str (_C.wd k)=V.str "div")=true/\inV (.str (_C.wd k)) [.str "add",.str "sub",.str "mul"]=true/\(j=0/\("add":Str)=_C.wd k\/j=1/\("add":Str)≠_C.wd k/\("sub":Str)=_C.wd k\/j=2/\("add":Str)≠_C.wd k/\("sub":Str)≠_C.wd k/\("mul":Str)=_C.wd k)/\atI [V.int (x+y),.int (x - y),.int (x*y)] (j:Nat)=some (.int z)/\(z>_N.GR\/z< -_N.GR):=by
    match k,hw,d with
    |0,hw,_=>exact⟨0,x+y,by decide +kernel,by decide +kernel,.inl ⟨rfl,rfl⟩,rfl,DB (hw:(if x+y>_N.GR\/x+y< -_N.GR then(.inr 1:U⊕Nat)else .inl (.n (x+y)))=.inr w0)⟩
    |1,hw,_=>exact⟨1,x - y,by decide +kernel,by decide +kernel,.inr (.inl ⟨rfl,by decide +kernel,rfl⟩),rfl,DB (hw:(if x - y>_N.GR\/x - y< -_N.GR then(.inr 1:U⊕Nat)else .inl (.n (x - y)))=.inr w0)⟩
    |2,hw,_=>exact⟨2,x*y,by decide +kernel,by decide +kernel,.inr (.inr ⟨rfl,by decide +kernel,by decide +kernel,rfl⟩),rfl,DB (hw:(if x*y>_N.GR\/x*y< -_N.GR then(.inr 1:U⊕Nat)else .inl (.n (x*y)))=.inr w0)⟩
    |k+3,_,h=>omega
   refine⟨_,rfl,.inl ⟨rfl,_,rfl,ifF f1 ⟨_,rfl,E1,λtt a=> .inr (.inl ⟨tt,_,rfl,.inr (SqT.of A4),rfl,rfl,_,rfl, ?_⟩)⟩⟩⟩;show if inV (.str (_C.wd k)) [.str "add",.str "sub",.str "mul"]=true then _ else _
   rw[f2];have s1:=_B.qA a (.tup [.str "add",.str "sub",.str "mul"]);refine ifT rfl ⟨_,rfl,_,rfl,.inl ⟨_,_,rfl,rfl,_,rfl,_,rfl,_,_,rfl,rfl,_,rfl,_,rfl,_,_,rfl,rfl,hx.mul hy,E1,λe1 l=>⟨E1,λe2 i=> ?_⟩⟩⟩;have s2:=_B.qA l (.lst [.int (x+y),.int (x - y),.int (x*y)]);have s3:=_B.qA i (.lst [.str "add",.str "sub",.str "mul"]);refine⟨.inl ⟨rfl,_,SqL.of A4⟩,_,rfl,e2,_,_,_,_,j,rfl,rfl,SqL.of A4,f3,(ixL (s3 _ _ A4) f4 ⟨_,rfl,_,_,rfl,rfl,⟨by decide,by decide,by decide⟩,_,_,rfl,rfl, ?_⟩)⟩;rw[a2Z hz];exact q _ (s1.trans (s2.trans s3))
  match k,hw,d with
  |0,_,h=>exact absurd (by decide) h
  |1,_,h=>exact absurd (by decide) h
  |2,_,h=>exact absurd (by decide) h
  |3,hw,_=>cases(hw:(.inl (.b (decide (x<y))):U⊕Nat)=.inr w0)
  |4,hw,_=>cases(hw:(.inl (.b (decide (V.int x=V.int y))):U⊕Nat)=.inr w0)
  |k+5,hw,_=>
   have hz:y=0:=DB (hw:(if y=0 then(.inr 0:U⊕Nat)else .inl (.n (x.fdiv y)))=.inr w0);subst hz;refine⟨_,rfl,.inl ⟨rfl,_,rfl,ifT (by decide +kernel:decide (V.str "div"=V.str "div")=true) ⟨_,rfl,.inl ⟨rfl, ?_⟩⟩⟩⟩;exact q H (Same.refl _)
 ·have hN:∀k,p≠ .two k:=λk e=>hT ⟨k,e⟩;obtain⟨n1,n2,n3⟩:=aOZ p hN;refine⟨_,rfl,.inl ⟨rfl,_,rfl, ?_⟩⟩;rw[n1];refine ifF nZ ⟨_,rfl,E1,λtt a=> .inr (.inl ⟨tt,_,rfl,.inr (SqT.of A4),rfl,rfl,_,rfl, ?_⟩)⟩;show if inV (.str (qw p)) [.str "add",.str "sub",.str "mul"]=true then _ else _
  rw[n2];refine ifF nZ ⟨_,rfl,C3,λt2 g=> .inr (.inl ⟨t2,_,rfl,.inr (SqT.of A4),rfl,rfl, ?_⟩)⟩;show Q (.bl (inV (.str (qw p)) [.str "less",.str "same"])) _;rw[n3];exact q _ ((_B.qA a _).trans (_B.qA g _))
inductive spKnownW (vs:List V) (H:Hp) (Q:VK):Prop
 |mk:∀(p l:Addr) (rs:List _F.Q) (ls:List Bool) (i:Nat),(vs=[.ref p,.ref l,.int (i:Nat)])->(RowsAt H p (rs.map tj))->(rs.length<=1000)->(Gd rs)->(H l=some (.lst (ls.map V.bl)))->(Ldd (rs.map tj) rs.length ls)->(Fix twc rs)->(i+1<rs.length)->(∀H',Same H H'->Q (.bl false) H')->spKnownW vs H Q
def RN:Sp:=λvs H Q _=>spKnownW vs H Q
theorem ok_law_known(F:Fun Z "_law_known" "_law_known" s_law_known f fd)(B:NoL mg)
  (R9:Cn P w Z mg qB CX0 1 "_law_is_number" ["_law_row"] PY)
  (MD:Cn P w Z mg qB CX0 1 "_law_goes" cvZ YX):
  FnOk P w Z mg qB CX0 2 f fd dzZ RN:=by
 refine F.ok sc_law_known (λvs H Q E h=> ?_) (λap A W s H vs Q E hr h=> ?_)
 ·obtain⟨p,l,rs,ls,i,rfl,_⟩:=h;rfl
 obtain⟨p,l,rs,ls,i,rfl,hR,hn,g,hl,hL,hF,hi,q⟩:=h;have nd:=sc_law_known.nd;have hu:=hr.units0;have zz:(4000:Nat)<=sizeLine:=by decide
 refine⟨_,(A7 (W9 (i:=3) nd rfl (Or.inr rfl) (ixE Z w (pv 0) (pv 2)))
   (A7 (C2 (E5 (Z:=Z) (ixE Z w (pv 1) (B8 L5 (pv 2) A6)) (λ_=>rfl)) (A8 (B6 K2)) C0)
   (A7 (C6 (C2 (PW.pt (R5 (B7 (kEq (Z:=Z) hu) (ixE Z w (pv 3) A6) B0 rfl) (R5 (E5 (Z:=Z) (F2 (Y6 (Z:=Z)) rfl B.isinstance_ D9 (A0 (ixE Z w (pv 3) A6) (A0 (N7 (v:=.ty "bool") rfl B.bool_ AC rfl) A5))) (λ_=>rfl)) (O6 (B7 (kIn (Z:=Z) (w:=w)) (ixE Z w (ixE Z w (pv 0) (B8 L5 (pv 2) A6)) A6) (B4 (A0 B0 (A0 B0 A5))) rfl))))) (A8 (B6 K2)) C0))
   (A7 (C6 (C2 (PW.pt (R5 (B7 (kEq (Z:=Z) hu) (ixE Z w (pv 3) A6) B0 rfl) (O6 (B7 (cBZ (Z:=Z) hu) (ixE Z w (pv 0) (B8 L5 (pv 2) A6)) (B4 (A0 B0 (A0 (ixE Z w (pv 3) A6) A5))) rfl)))) (A8 (B6 (F7 (kEq (Z:=Z) hu) (kL Z B.len_ (L6 (cS (N:=BP) (sc:=A9 s_law_known) (caps:=[3]) (ns:=["_law_row"])) rfl rfl rfl (EN (Z:=Z) (pv 0)) (λ_ _ _ _ _=>(R7 (B7 (cBZ (Z:=Z) hu) (pv 0) (B4 (A0 B0 (A0 (ixE Z w (pv 1) A6) A5))) rfl))) (λ_ _ _ _ _=>(pv 0)))) A6 rfl))) C0))
   (A7 (C6 (C2 (PW.pt (V6 (B7 e4Z (B8 L5 (pv 2) A6) (kL Z B.len_ (pv 0)) rfl) (V6 (E5 (Z:=Z) (ixE Z w (pv 1) (B8 L5 (pv 2) A6)) (λ_=>rfl)) (V6 (HD (E5 (Z:=Z) (cC R9 hr (A0 (pv 3) A5)) (λ_=>rfl))) (AZ (HD (E5 (Z:=Z) (cC R9 hr (A0 (ixE Z w (pv 0) (B8 L5 (pv 2) A6)) A5)) (λ_=>rfl)))))))) (A8 (B6 K2)) C0))
   (A8 (B6 (cC MD hr (A0 (ixE Z w (ixE Z w (pv 0) (B8 L5 (pv 2) A6)) A6) (A0 (ixE Z w (pv 3) A6) (A0 (ixE Z w (ixE Z w (pv 0) (B8 L5 (pv 2) A6)) A6) A5))))))))))), ?_⟩
 obtain⟨us,hp,hA⟩:=U8 hR;have aj:=hA.len;obtain⟨x,hx⟩:∃x,rs[i]? =some x:=⟨_,List.getElem?_eq_getElem (by omega)⟩;obtain⟨y,hy⟩:∃y,rs[i+1]? =some y:=⟨_,List.getElem?_eq_getElem (by omega)⟩;obtain⟨ux,ae,ax,rfl,G⟩:=_M.all2_get hA hx;obtain⟨uy,ad,ay,rfl,T⟩:=_M.all2_get hA hy;obtain⟨b,hb⟩:∃b,ls[i+1]? =some b:=⟨_,List.getElem?_eq_getElem (by rw[hL.1,length_map];omega)⟩;have e1:((i:Nat):Int)+1=((i+1:Nat):Int):=by omega
 have a:atI us (((i:Nat):Int)+1)=some (.ref ay):=by rw[e1];exact C4 ad
 have R:atI (ls.map V.bl) (((i:Nat):Int)+1)=some (.bl b):=by rw[e1];exact QN hb
 refine⟨_,rfl,_,rfl,.inr (.inl ⟨p,us,(i:Nat),_,rfl,rfl,SqT.of hp,C4 ae, ?_⟩)⟩;refine⟨_,rfl,_,rfl,.inl ⟨_,_,rfl,rfl,(ixL hl R ⟨b,rfl, ?_⟩)⟩⟩;cases b with
 |true=>exact ifT rfl (q H (Same.refl _))
 |false=>
 have hG:=ZQ hL hb;refine ifF nZ ?_;refine⟨fun σ H'=>σ=[some (.ref p),some (.ref l),some (.int (i:Nat)),some (.ref ax)]/\Same H H', ?_, ?_⟩
 ·refine⟨_,rfl,(ixT G (qv0 x) (.inl ⟨rfl,_,rfl, ?_⟩))⟩;rw[DG];cases x with
  |push u=>
   cases u with
   |n v=>exact ifT rfl ⟨_,rfl,(ixT G rfl ⟨_,_,_,_,rfl,.int _,ED,_,rfl,ifF nZ (ifF nZ ⟨rfl,Same.refl _⟩)⟩)⟩
   |b c=>
    have hf:=hF.tru i c hG hx;have ni:inV (.str (qw y)) [.str "not",.str "unless"]=false:=dDZ (λe=>hf.1 (by rw[hy,e])) (λn e=>hf.2 n (by rw[hy,e]));refine ifT rfl ⟨_,rfl,(ixT G rfl ⟨_,_,_,_,rfl,.bl _,EE,_,rfl,ifT rfl ?_⟩)⟩;refine⟨_,rfl,_,rfl,.inl ⟨_,_,rfl,rfl,.inr (.inl ⟨p,us,_,_,rfl,rfl,SqT.of hp,a,(ixT T (qv0 y) ⟨C3,λtt af=> .inr (.inl ⟨tt,_,rfl,.inr (SqT.of A4),rfl,rfl,_,rfl, ?_⟩)⟩)⟩)⟩⟩;show if inV (.str (qw y)) [.str "not",.str "unless"]=true then _ else _
    rw[ni];exact ifF nZ ⟨rfl,_B.qA af _⟩
  |_=>exact ifF nZ (ifF nZ ⟨rfl,Same.refl _⟩)
 rintro σ H1 ⟨rfl,s1⟩;have X:=s1 _ _ hp;have d:=s1 _ _ G;have S:=s1 _ _ T;have ao:=C9 s1 hA;refine⟨fun σ H'=>σ=[some (.ref p),some (.ref l),some (.int (i:Nat)),some (.ref ax)]/\Same H H', ?_, ?_⟩
 ·refine⟨_,rfl,(ixT d (qv0 x) (.inl ⟨rfl,_,rfl,K5 (λe=> ?_) (λe=>ifF nZ ⟨rfl,s1⟩)⟩))⟩;obtain⟨s0,rfl⟩:=QP (by have:=of_decide_eq_true e;injection this);refine⟨_,rfl,_,rfl,.inl ⟨_,_,rfl,rfl,.inr (.inl ⟨p,us,_,_,rfl,rfl,SqT.of X,a,_,rfl,(ixT d rfl ⟨C3,λt ht=> ?_⟩)⟩)⟩⟩;have st:=_B.qA ht (.tup [.str "load",.int (s0:Nat)]);refine⟨ay,t,qv y,_,rfl,rfl,SqT.of (st _ _ S),SqT.of A4,IJ y,rfl,_,rfl, ?_⟩;show if W8 (qv y) [.str "load",.int (s0:Nat)]=true then _ else _
  rw[YM];by_cases L:y=.load s0
  ·rw[decide_eq_true L];have al:=hF.kep i s0 hG hx (by rw[hy,L]);refine ifT rfl ?_;have M:=st _ _ X;have r:=st _ _ d;have ab:=C9 st ao;have s3:=s1.trans st;generalize upd H1 t (.tup [.str "load",.int (s0:Nat)])=H3 at M r ab s3⊢;refine⟨_,rfl,p,rfl,⟨_,SqT.of M⟩,ET (xs:=us) (λj zs H'=>Same H3 H'/\zs.length=(rs.take j).count (_F.Q.load s0)) ⟨Same.refl _,by rw[take_zero];rfl⟩ ?_ ?_ ?_⟩
   ·rintro j zs H' hj ⟨sm,hz⟩;exact⟨SqT.of (sm _ _ M),by rw[hz];exact le_trans List.count_le_length (by rw[length_take];omega)⟩
   ·rintro j v zs H' hv ⟨sm,hz⟩;obtain⟨q2,ah,b2,rfl,m⟩:=ab.get hv;have et:rs.take (j+1)=rs.take j++ [q2]:=by rw[take_succ,ah];rfl
    refine⟨_,rfl,_,rfl,(ixT (sm _ _ r) rfl ⟨C3,λt2 ag=> ?_⟩)⟩;have J:=_B.qA ag (.tup [.str "load",.int (s0:Nat)]);refine⟨b2,t2,qv q2,_,rfl,rfl,SqT.of (J _ _ (sm _ _ m)),SqT.of A4,IJ q2,rfl,_,rfl, ?_⟩;show if W8 (qv q2) [.str "load",.int (s0:Nat)]=true then _ else _
    rw[YM,et];by_cases hq:q2=.load s0
    ·rw[decide_eq_true hq];exact ifT rfl ⟨_,rfl,sm.trans J,by rw[length_append,hz,count_append,hq,List.count_singleton_self];rfl⟩
    ·rw[decide_eq_false hq];refine ifF nZ ⟨sm.trans J, ?_⟩;rw[hz,count_append,List.count_singleton];rw[if_neg (by simpa using hq)];rfl
   ·rintro zs H' ⟨sm,hz⟩ D hD;rw[<-aj,take_length]at hz;refine⟨_,_,rfl,.inl ⟨_,SqL.of A4,rfl⟩,.inl ⟨rfl, ?_⟩⟩;have ai:decide (V.int (zs.length:Nat)=V.int 1)=false:=decide_eq_false λz=>by
     injection z with z
     exact al (by omega)
    rw[ai];exact q _ (s3.trans (sm.trans (_B.qA hD _)))
  ·rw[decide_eq_false L];exact ifF nZ ⟨rfl,s1.trans st⟩
 rintro σ H2 ⟨rfl,s2⟩;have I:=s2 _ _ hp;have C:=s2 _ _ G;have o:=s2 _ _ T;have ak:=s2 _ _ hl;refine⟨fun σ H'=>σ=[some (.ref p),some (.ref l),some (.int (i:Nat)),some (.ref ax)]/\H2=H'/\i+2<rs.length/\ls[i+2]? =some false/\AD x=true/\AD y=true, ?_, ?_⟩
 ·refine⟨_,rfl,.inl ⟨_,_,rfl,rfl,_,rfl,_,_,rfl,.inr ⟨_,SqT.of I,rfl⟩,_,_,rfl,rfl,_,rfl,K5 (λe=>ifT rfl (q _ s2)) (λe=> ?_)⟩⟩;have h3:i+2<rs.length:=by
   have:¬((us.length:Nat):Int)<=(i:Nat)+2:=λz=>e (decide_eq_true z);omega
  obtain⟨b,m⟩:∃b,ls[i+2]? =some b:=⟨_,List.getElem?_eq_getElem (by rw[hL.1,length_map];omega)⟩;have O:atI (ls.map V.bl) (((i:Nat):Int)+2)=some (.bl b):=by rw[show((i:Nat):Int)+2=((i+2:Nat):Int) by omega];exact QN m
  refine⟨_,rfl,_,rfl,.inl ⟨_,_,rfl,rfl,(ixL ak O ⟨b,rfl, ?_⟩)⟩⟩;cases b with
  |true=>exact ifT rfl (ifT rfl (q _ s2))
  |false=>
  refine ifF nZ ⟨_,rfl,ax,x,rfl,C,AD x,rfl, ?_⟩;cases aa:AD x with
  |false=>exact ifT rfl (ifT rfl (q _ s2))
  |true=>
  refine ifF nZ ⟨_,rfl,_,rfl,.inl ⟨_,_,rfl,rfl,.inr (.inl ⟨p,us,_,_,rfl,rfl,SqT.of I,a,ay,y,rfl,o,AD y,rfl, ?_⟩)⟩⟩;cases Y:AD y with
  |false=>exact ifT rfl (q _ s2)
  |true=>exact ifF nZ ⟨rfl,rfl,h3,m,rfl,rfl⟩
 rintro σ H3 ⟨rfl,rfl,h3,m,aa,Y⟩;have an:=ZQ hL m;obtain⟨vx,rfl⟩:=ZD aa;obtain⟨vy,rfl⟩:=ZD Y;obtain⟨z,hz⟩:∃z,rs[i+2]? =some z:=⟨_,List.getElem?_eq_getElem h3⟩;obtain⟨uz,ac,az,rfl,am⟩:=_M.all2_get hA hz;have U:atI us (((i:Nat):Int)+2)=some (.ref az):=by rw[show((i:Nat):Int)+2=((i+2:Nat):Int) by omega];exact C4 ac
 refine⟨_,rfl,_,rfl,.inl ⟨_,_,rfl,rfl,.inr (.inl ⟨p,us,_,_,rfl,rfl,SqT.of I,U,(ixT (s2 _ _ am) (qv0 z) ⟨_,rfl,(ixT C rfl ⟨_,rfl,_,rfl,.inl ⟨_,_,rfl,rfl,.inr (.inl ⟨p,us,_,_,rfl,rfl,SqT.of I,a,(ixT o rfl ⟨z,vx,vy,rfl, ?_, ?_, ?_,λH4 s4=>q H4 (s2.trans s4)⟩)⟩)⟩⟩)⟩)⟩)⟩⟩
 ·exact(g.ok _ (mem_of_getElem? hx)).2 vx rfl
 ·exact(g.ok _ (mem_of_getElem? hy)).2 vy rfl
 ·rintro k rfl;exact hF.num i k vx vy hG an hx hy hz
end
end _F
namespace _M
open PySem _L _C _S
open _B hiding ifT ifF NoG top
abbrev Tb(H:Hp)(Pt:Addr):Prop:=EH H Pt _Q.lamAt _Q.lamQ
section
theorem MR.ntbl(h:MR CM C H A bs us fs most out r c){b:Addr}{ob:HO}(e:H b=some ob)(n1:∀x y z,ob≠ .ins x y z)(n2:∀x,ob≠ .lst x):b∉A.own:=λhm=>by
 obtain⟨dx,ho,hL⟩:=h.o;simp only[Ad.own,mem_cons,not_mem_nil,or_false]at hm;rcases hm with z|z|z|z|z<;>rw[z]at e
 ·rw[h.m]at e;exact n1 _ _ _ (sJ e).symm
 ·rw[h.bl]at e;exact n2 _ (sJ e).symm
 ·rw[ho]at e;exact n1 _ _ _ (sJ e).symm
 ·rw[hL]at e;exact n2 _ (sJ e).symm
 ·rw[h.s]at e;exact n2 _ (sJ e).symm
theorem MAt.tab{Pt:Addr}(h:MAt CM C H A bs most S)(k:Kq A H H')(hT:Tb H Pt):Tb H' Pt:=by
 obtain⟨vb,us,fs,a,hM,_⟩:=h.ex;obtain⟨qs,e1,e2,e3⟩:=hT;refine⟨qs,k _ _ e1 (hM.ntbl e1 (λ_ _ _ z=>nomatch z) λ_ z=>nomatch z),e2, ?_⟩;rcases e3 with e3|⟨c2,e3,e4⟩
 ·exact .inl e3
 ·exact .inr ⟨c2,e3,k _ _ e4 (hM.ntbl e4 (λ_ _ _ z=>nomatch z) λ_ z=>nomatch z)⟩
theorem tb_same{Pt:Addr}(h:Tb H Pt)(s:Same H H'):Tb H' Pt:=by
 obtain⟨qs,e1,e2,e3⟩:=h;refine⟨qs,s _ _ e1,e2, ?_⟩;rcases e3 with e3|⟨c2,e3,e4⟩
 ·exact .inl e3
 ·exact .inr ⟨c2,e3,s _ _ e4⟩
end
end _M
namespace _F
open PySem _L
open _B hiding NoG ifT ifF top
open _C (Bd F5 C3 E1 Mo tups_of)
open _S (Vl VAt)
open _M (Ms Fr Bk Ou XX Ad MAt BAt RwAt Tb New Small MCls ID DU NQ begun)
open _J (ifT ifF RowsAt)
seal PE PT PW PA PS PSs PTs PI PG PGs PO
abbrev s_law_ended:Stmt:=_C.top 86
noncomputable abbrev LN:List Str:=["_law_rows","_law_count","_law_size_here","_law_numbers","_law_machine","_law_many"]
theorem sc_law_ended:FnScope LN c2Z (A9 s_law_ended):=fS
def ov:O->List V
 | .v u=> [.str "value",uv u]
 | .r w=> [.str "refused",.str (rwn w)]
theorem fpZ{rs:List _F.Q}{us:List V}(h:All2 (QAt H) rs us):All2 (RwAt H) (rs.map tq) us:=by
 induction h with
 |nil=>exact .nil
 |cons h _ ih=>
  obtain⟨a,e,h1⟩:=h;exact .cons ⟨a,e,by rw[cQZ];exact h1⟩ ih
theorem QW(H:Hp):∀ns:List Int,All2 (VAt H) (ns.map λi=>Vl.sc (.int i)) (ns.map V.int)
 | []=> .nil
 |i::r=> .cons ⟨rfl,rfl⟩ (QW H r)
section
inductive spEndedLW(CM C Pt:Addr)(vs:List V)(H:Hp)(Q:VK):Prop
 |mk:∀(p num:Addr) (rs:List _F.Q) (ns:List Int) (z:Nat) (o:O) (m:Nat),(vs=[.ref p,.int (ns.length:Nat),.int (z:Nat),.ref num])->(RowsAt H p (rs.map tj))->(rs.length<=1000)->((∀q∈rs,QOk q))->((∀s,_F.Q.keep s∈rs->s<z))->(z<=40)->(ns.length<=z)->(H num=some (.lst (ns.map V.int)))->((∀i∈ns,Bd i))->(Tb H Pt)->(Rn twc (rs.map some) 0 (f0 ns) [] o m)->(∀r pa H',(∀b ob,H b=some ob->b≠Pt->H' b=some ob)->Tb H' Pt->H' r=some (.tup [.ref pa,.int (m:Nat)])->H' pa=some (.tup (ov o))->Q (.ref r) H')->spEndedLW CM C Pt vs H Q
def LF(CM C Pt:Addr):Sp:=λvs H Q _=>spEndedLW CM C Pt vs H Q
theorem ok_law_ended{Pt:Addr}{gd:Str->FuncData}(F:Fun Z "_law_ended" "_law_ended" s_law_ended f fd)(B:NoL mg)(RM:MCls Z CM gf gd)(M_Machine:Mk Z CM fim)(m_Machine:mg "Machine"=some (.ref CM))
  (GMachine___init__:FnOk P w Z mg qB CX0 3 fim dim asZ (ID CM C))(bMachine___init__:Binds Z dim asZ [])
  (UY:FnOk P w Z mg qB CX0 6 (gf "answer") (gd "answer") N5 (DU CM C Pt))
  (caZ:FnOk P w Z mg qB CX0 5 (gf "step") (gd "step") N5 (NQ CM C)):
  FnOk P w Z mg qB CX0 7 f fd c2Z (LF CM C Pt):=by
 refine F.ok sc_law_ended (λvs H Q E h=> ?_) (λbg A ag s H vs Q E hr h=> ?_)
 ·obtain⟨p,I,rs,ns,z,o,m,rfl,_⟩:=h;rfl
 obtain⟨p,I,rs,ns,z,o,m,rfl,hR,hn,a2,hk,hz,ak,ad,a5,hT,M,q⟩:=h;have nd:=sc_law_ended.nd;have hu:=hr.units0;have zz:(4000:Nat)<=sizeLine:=by decide
 obtain⟨us,hp,hA⟩:=U8 hR;have be:=hA.len;refine⟨_,(A7 (sS 4 nd (aDZ M_Machine GMachine___init__ (hr.mono (by omega)) rfl m_Machine bMachine___init__ .nil F8 (A0 (C8 (A0 (B4 (A0 (pv 1) (A0 (pv 2) (A0 (pv 0) A5)))) A5)) (A0 A6 (A0 (E6 (BE (Z:=Z)) rfl B.list_ Q8 (A0 (pv 3) A5)) (A0 A6 A5))))))
   (A7 (sS 5 nd A6)
   (A7 (C6 (Z7 PassesOwn.never (PW.pt (R5 (B7 XH (pv 5) (kL Z B.len_ (pv 0)) rfl) (O6 (E5 (Z:=Z) (mN (pv 4) RM.cl RM.m_step caZ hr RM.b_step) (λ_=>rfl))))) (A8 (sS 5 nd (B8 (F1 (Z:=Z)) (pv 5) A6)))))
   (A8 (B6 (B4 (A0 (mN (pv 4) RM.cl RM.m_answer UY hr RM.b_answer) (A0 (pv 5) A5)))))))), ?_⟩
 refine⟨_,rfl,_,rfl,_,rfl,E1,λtb aj=>⟨F5,λbl am=> ?_⟩⟩;have x1:=_B.qA aj (.tup [.int (ns.length:Nat),.int (z:Nat),.ref p]);have x2:=_B.qA am (.lst [.ref tb]);have Y:=x1.trans x2;have L:=x2 _ _ (A4 (H:=H) (a:=tb) (o:=.tup [.int (ns.length:Nat),.int (z:Nat),.ref p]));have T:upd (upd H tb (.tup [.int (ns.length:Nat),.int (z:Nat),.ref p])) bl (.lst [.ref tb]) bl=some (.lst [.ref tb]):=A4;generalize upd (upd H tb (.tup [.int (ns.length:Nat),.int (z:Nat),.ref p])) bl (.lst [.ref tb])=H1 at Y L T⊢;clear x1 x2 aj am;refine⟨_,rfl,I,_,rfl,.inl (SqL.of (Y _ _ ad)),λnl a4=> ?_⟩;have x3:=_B.qA a4 (.lst (ns.map V.int));have N:upd H1 nl (.lst (ns.map V.int)) nl=some (.lst (ns.map V.int)):=A4;have J:=x3 _ _ L;have O:=x3 _ _ T;have y3:=Y.trans x3;generalize upd H1 nl (.lst (ns.map V.int))=H2 at x3 N J O y3⊢;refine λx dx hx al a3=> ?_;have t0:Same H2 (upd (upd H2 dx (.own x)) x (.ins CM dx [])):=λb ob e=>by rw[B5 (B9 e hx),B5 (B9 e al)];exact e
 have y0:=y3.trans t0;have ao:=C9 y0 hA;refine⟨x,dx,bl,nl,[.ref tb],_,0,0,[⟨ns.length,z,rs.map tq⟩],⟨ns.length,z,rs.map tq⟩,ns.map (λi=>Vl.sc (.int i)),rfl,A4,t0 _ _ O,.cons ⟨tb,p,us,rfl,t0 _ _ J,y0 _ _ hp,fpZ ao,by show z<=100;omega⟩ .nil,rfl,t0 _ _ N,QW _ ns,by rw[length_map];exact ak,λA1 H3 eA k1 nw bb=>⟨rfl, ?_⟩⟩;have ai:Same H H3:=λb ob e=>k1 _ _ (y0 _ _ e) (B9 (y3 _ _ e) hx);have aa:∀y∈A1.own,H y=none:=λy hy=>by
  rcases nw y hy with e|e
  ·rw[e];exact y3.free hx
  ·exact y0.free e
 subst eA;clear k1 nw al a3 t0 ao y0;have hm:=M.le;rw[length_map,Nat.zero_add]at hm;have a7:=_M.tb_same hT ai;have a0:p≠Pt:=λe=>by obtain⟨qs,e1,_⟩:=hT;rw[e,e1]at hp;cases hp
 have kq:∀ {A':Ad} {H' ae:Hp},(∀y∈A'.own,H y=none)->(∀b ob,H b=some ob->b≠Pt->H' b=some ob)->_M.Kq A' H' ae->(∀b ob,H b=some ob->b≠Pt->ae b=some ob):=λ{A' H' ae} o1 k kk b ob e n=>kk _ _ (k _ _ e n) λz=>by rw[o1 b z]at e;cases e
 have ah:∀ {A' af:Ad} {H':Hp},(∀y∈A'.own,H y=none)->(∀b ob,H b=some ob->b≠Pt->H' b=some ob)->Tb H' Pt->New A' af H'->∀y∈af.own,H y=none:=λ{A' af H'} o1 k a8 nw y hy=>by
  rcases nw.2 y hy with z|z
  ·exact o1 y z
  ·cases e:H y with
   |none=>rfl
   |some ob=>
    by_cases n:y=Pt
    ·obtain⟨qs,e1,_⟩:=a8;rw[n,e1]at z;cases z
    ·rw[k _ _ e n]at z;cases z
 refine⟨fun σ H'=>∃A2:Ad,σ=[some (.ref p),some (.int (ns.length:Nat)),some (.int (z:Nat)),some (.ref I),some (.ref A2.m),some (.int (m:Nat))]/\(∀b ob,H b=some ob->b≠Pt->H' b=some ob)/\Tb H' Pt/\∃r,MAt CM C H' A2 [⟨ns.length,z,rs.map tq⟩] 0 (ms2 o r), ?_, ?_⟩
 ·refine⟨λn σ H'=>∃(A2:Ad) (d:Nat) (S:Ms),σ=[some (.ref p),some (.int (ns.length:Nat)),some (.int (z:Nat)),some (.ref I),some (.ref A2.m),some (.int (d:Nat))]/\(∀b ob,H b=some ob->b≠Pt->H' b=some ob)/\Tb H' Pt/\(∀y∈A2.own,H y=none)/\MAt CM C H' A2 [⟨ns.length,z,rs.map tq⟩] 0 S/\((∃a f st sl r m',S=ms1 a st sl r/\Rn twc (rs.map some) a f st o m'/\Rel z f st sl/\d+m'=m/\st.length<=d/\n=m'+1)\/(∃r,S=ms2 o r/\d=m/\n=0)),⟨m+1,A1,0,_,rfl,λb ob e _=>ai _ _ e,a7,aa,bb,.inl ⟨0,f0 ns,[],_,0,m,rfl,M, ?_,Nat.zero_add _,le_refl _,rfl⟩⟩, ?_⟩
  ·have:=fCZ ak a5;rw[<-length_map (f:=λi=>Vl.sc (.int i)) (as:=ns)]at this;exact this
  rintro n σ H4 ⟨A2,d,S,rfl,k4,G,l,D,h4⟩;have bf:d<=m:=by rcases h4 with⟨_,_,_,_,_,m',_,_,_,e,_⟩|⟨_,_,e,_⟩<;>omega
  refine⟨_,rfl,_,rfl,_,_,rfl,.inr ⟨_,SqT.of (k4 _ _ hp a0),rfl⟩,_,_,rfl,rfl,_,rfl,ifT (decide_eq_true (by omega)) ?_⟩;obtain⟨ap,aq,bc,ab,X,_⟩:=id D.ex;rcases h4 with⟨a,f,st,sl,r,m',rfl,ax,W,hd,bd,rfl⟩|⟨r,rfl,hd,rfl⟩
  ·obtain⟨m2,rfl,S',a9,av⟩:=aVZ (p:=ns.length) hk a2 r ax W;have j:Small (ms1 a st sl r):=by
    refine⟨zero_le _,by show 1<=60;decide,λg hg=> ?_⟩;rw[sZ hg];refine⟨by rw[W.len];omega, ?_⟩;rw[length_reverse,length_map];omega
   refine⟨_,rfl,A2.m,A2.dx,_,rfl,X.m,rfl,A2,_,0,_,rfl,D,j,.inr ⟨S',a9,λA3 H5 nw k5 an=>⟨true,rfl,ifT rfl ?_⟩⟩⟩;refine⟨fun σ H'=>∃m3,m3<m2+1+1/\∃(A2:Ad) (d:Nat) (S:Ms),σ=[some (.ref p),some (.int (ns.length:Nat)),some (.int (z:Nat)),some (.ref I),some (.ref A2.m),some (.int (d:Nat))]/\(∀b ob,H b=some ob->b≠Pt->H' b=some ob)/\Tb H' Pt/\(∀y∈A2.own,H y=none)/\MAt CM C H' A2 [⟨ns.length,z,rs.map tq⟩] 0 S/\((∃a f st sl r m',S=ms1 a st sl r/\Rn twc (rs.map some) a f st o m'/\Rel z f st sl/\d+m'=m/\st.length<=d/\m3=m'+1)\/(∃r,S=ms2 o r/\d=m/\m3=0)),λ_ _ h=>h, ?_⟩;refine⟨_,rfl,.inl ⟨_,_,rfl,rfl, ?_⟩⟩;rcases av with⟨rfl,rfl⟩|⟨a',f',ar,au,rfl,ay,U,aw⟩
   ·exact⟨0,by omega,A3,d+1,_,by rw[nw.1];rfl,kq l k4 k5,D.tab k5 G,ah l k4 G nw,an,.inr ⟨_,rfl,by omega,rfl⟩⟩
   ·exact⟨m2+1,by omega,A3,d+1,_,by rw[nw.1];rfl,kq l k4 k5,D.tab k5 G,ah l k4 G nw,an,.inl ⟨a',f',ar,au,_,m2,rfl,ay,U,by omega,by omega,rfl⟩⟩
  ·have j:Small (ms2 o r):=⟨zero_le _,zero_le _,λg hg=>nomatch hg⟩;subst hd;exact⟨_,rfl,A2.m,A2.dx,_,rfl,X.m,rfl,A2,_,0,_,rfl,D,j,.inl ⟨rfl,false,rfl,ifF nZ ⟨A2,rfl,k4,G,r,D⟩⟩⟩
 rintro σ H4 ⟨A2,rfl,k4,G,r,D⟩;obtain⟨ap,aq,bc,ab,X,_⟩:=id D.ex;refine⟨_,rfl,A2.m,A2.dx,_,rfl,X.m,rfl,A2,_,0,_,rfl,D, ?_⟩;cases o with
 |v u=>
  have hv:∃t,_M.VRa [] t (vl u)/\_Q.size t<=400000/\∀ok H1 rv,(_Q.R ok H1 t).1 rv->rv=uv u:=by
   cases u with
   |n i=>exact⟨.int i,rfl,(by show 1<=400000;decide),λok H1 rv h=>h⟩
   |b c=>exact⟨.bl c,rfl,(by show 1<=400000;decide),λok H1 rv h=>h⟩
  obtain⟨t,h1,h2,h3⟩:=hv;refine .inl ⟨vl u,t,rfl,h1,h2,G,λpp rv H5 H6 k5 a6 ba a1 e6=> ?_⟩;obtain rfl:=h3 _ _ _ ba;subst e6;have t6:=_B.qA a1 (.tup [.str "value",uv u]);refine⟨_,rfl,C3,λpr ac=> ?_⟩;have t7:=_B.qA ac (.tup [.ref pp,.int (m:Nat)]);exact q pr pp _ (λb ob e n=>t7 _ _ (t6 _ _ (k5 _ _ (k4 _ _ e n) n))) (_M.tb_same a6 (t6.trans t7)) A4 (t7 _ _ A4)
 |r w0=>
  refine .inr ⟨rfl,λu hu=> ?_⟩;obtain⟨pp,rfl,az⟩:=hu;refine⟨_,rfl,C3,λpr ac=> ?_⟩;have t7:=_B.qA ac (.tup [.ref pp,.int (m:Nat)]);exact q pr pp _ (λb ob e n=>t7 _ _ (k4 _ _ e n)) (_M.tb_same G t7) A4 (t7 _ _ az)
end
end _F
namespace _F
open PySem _L
open _B hiding NoG ifT ifF top
open _C (Bd F5 C3 E1 Mo tups_of)
open _S (Vl VAt)
open _M (Tb)
open _J (ifT ifF RowsAt)
open _P (Pt Lab Shp PAt)
seal PE PT PW PA PS PSs PTs PI PG PGs PO
abbrev s_law_same:Stmt:=_B.top 87
abbrev s_law:Stmt:=_B.top 88
abbrev NV:List Str:=["_law_one","_law_other"]
theorem sc_law_same:FnScope NV ddZ (A9 s_law_same):=fS
noncomputable abbrev WF:List Str:=["_law_script","_law_first","_law_numbers","_law_kind","_law_rows","_law_found","_law_led_here","_law_at","_law_size_here","_law_one","_law_other"]
theorem sc_law:FnScope WF ["_law_script"] (A9 s_law):=fS
theorem aTZ(o:O):W8 (ov o) (ov o)=true:=by
 cases o with
 |v u=>
  show((eqV (.str "value") (.str "value")&&(eqV (uv u) (uv u)&&true))&&((2:Nat)==2))=true;rw[show eqV (.str "value") (.str "value")=true by decide +kernel];cases u<;>simp[uv,eqV]
 |r w=>
  show((eqV (.str "refused") (.str "refused")&&(eqV (.str (rwn w)) (.str (rwn w))&&true))&&((2:Nat)==2))=true;rw[show eqV (.str "refused") (.str "refused")=true by decide +kernel];simp[eqV]
theorem QD(o:O):(ov o).all O8=true:=by
 cases o with
 |v u=>cases u<;>rfl
 |r w=>rfl
theorem biZ:kitOne Z (.type "tuple") (.type "tuple")=some true:=rfl
theorem bAZ{Pt:Addr}{H':Hp}(hT:Tb H Pt)(k:∀b ob,H b=some ob->b≠Pt->H' b=some ob):Mo H H':=λb xs e=>k _ _ e λz=>by
 obtain⟨qs,e1,_⟩:=hT;rw[z,e1]at e;cases e
theorem bQZ:∀ {qs:List _F.Q} {us:List V},All2 (_P.RowAt H) (qs.map qv) us->All2 (QAt H) qs us
 | [],_,h=>by cases h;exact .nil
 |q::r,_,h=>by cases h with|cons h1 h2=>exact .cons h1 (bQZ h2)
section
inductive spSameLW(vs:List V)(H:Hp)(Q:VK):Prop
 |mk:∀(a b:Addr) (o:O),(vs=[.ref a,.ref b])->(H a=some (.tup (ov o)))->(H b=some (.tup (ov o)))->(Q (.bl true) H)->spSameLW vs H Q
def PN:Sp:=λvs H Q _=>spSameLW vs H Q
theorem ok_law_same(F:Fun Z "_law_same" "_law_same" s_law_same f fd)(B:NoL mg):FnOk P w Z mg qB CX0 1 f fd ddZ PN:=by
 refine F.ok sc_law_same (λvs H Q E h=> ?_) (λe A d s H vs Q E hr h=> ?_)
 ·obtain⟨a,b,o,rfl,_⟩:=h;rfl
 obtain⟨a,b,o,rfl,ha,hb,q⟩:=h;have nd:=sc_law_same.nd;have hu:=hr.units0;refine⟨_,(A7 (C6 (C2 (PW.pt (V6 (B7 EJ (pv 0) G9 rfl) (AZ (B7 (eSZ (Z:=Z) hu) (pv 0) (pv 1) rfl)))) (A8 (B6 K2)) C0))
   (A8 (B6 (e9Z (F7 (kNe (Z:=Z) hu) (ixE Z w (pv 0) A6) B0 rfl) (BG (F7 (kEq (Z:=Z) hu) (F2 (Y6 (Z:=Z)) rfl B.isinstance_ D9 (A0 (ixE Z w (pv 0) A6) (A0 (N7 (v:=.ty "bool") rfl B.bool_ AC rfl) A5))) (F2 (Y6 (Z:=Z)) rfl B.isinstance_ D9 (A0 (ixE Z w (pv 1) A6) (A0 (N7 (v:=.ty "bool") rfl B.bool_ AC rfl) A5))) rfl)))))), ?_⟩
 refine⟨fun σ H'=>σ=[some (.ref a),some (.ref b)]/\H=H', ?_, ?_⟩
 ·refine⟨_,rfl,rfl,_,rfl,ifF (λz=>by cases of_decide_eq_true z) ⟨_,rfl,_,rfl,a,b,ov o,ov o,rfl,rfl,SqT.of ha,SqT.of hb,QD o,QD o,_,rfl, ?_⟩⟩;show if(!W8 (ov o) (ov o))=true then _ else _
  rw[aTZ];exact ifF nZ ⟨rfl,rfl⟩
 rintro σ H' ⟨rfl,rfl⟩;cases o with
 |r w0=>exact⟨_,rfl,(ixT ha rfl (.inl ⟨rfl,_,rfl,ifT (by decide +kernel) q⟩))⟩
 |v u=>
  refine⟨_,rfl,(ixT ha rfl (.inl ⟨rfl,_,rfl,ifF (by decide +kernel) ?_⟩))⟩;cases u with
  |n i=>exact⟨_,rfl,(ixT ha rfl ⟨_,_,_,_,rfl,.int _,ED,_,rfl,(ixT hb rfl ⟨_,_,_,_,rfl,.int _,ED,.inl ⟨rfl,q⟩⟩)⟩)⟩
  |b c=>exact⟨_,rfl,(ixT ha rfl ⟨_,_,_,_,rfl,.bl _,EE,_,rfl,(ixT hb rfl ⟨_,_,_,_,rfl,.bl _,EE,.inl ⟨rfl,q⟩⟩)⟩)⟩
inductive spLawW (Z:FZ) (Pt:Addr) (vs:List V) (H:Hp) (Q:VK):Prop
 |mk:∀(a:Addr) (ns:List Int),(vs=[.ref a])->(SqL Z H a (ns.map V.int))->(H Pt=some (.tbl #[]))->(∀H',Q (.bl true) H')->spLawW Z Pt vs H Q
def QB(Z:FZ)(Pt:Addr):Sp:=λvs H Q _=>spLawW Z Pt vs H Q
theorem ok_law{Pt:Addr}(F:Fun Z "law" "law" s_law f fd)(B:NoL mg)
  (J5:Cn P w Z mg qB CX0 1 "_law_cell_at" awZ (ON Z))
  (K6:Cn P w Z mg qB CX0 1 "_law_number" q5L Z3)
  (D8:Cn P w Z mg qB CX0 17 "_law_term" q9L (X0 7))
  (GX:Cn P w Z mg qB CX0 4 "_law_pieces" cpZ (YV Z))
  (SH:Cn P w Z mg qB CX0 6 "rows_of" cYZ _P.spRows)
  (VC:Cn P w Z mg qB CX0 7 "folded" M8 JT)
  (SE:Cn P w Z mg qB CX0 1 "_law_led" ["_law_rows"] bFZ)
  (IZ:Cn P w Z mg qB CX0 2 "_law_known" dzZ RN)
  (NA:Cn P w Z mg qB CX0 1 "_law_size" c0Z ZP)
  (BN:Cn P w Z mg qB CX0 7 "_law_ended" c2Z (LF CM C Pt))
  (MK:Cn P w Z mg qB CX0 1 "_law_same" ddZ PN):
  FnOk P w Z mg qB CX0 18 f fd ["_law_script"] (QB Z Pt):=by
 refine F.ok sc_law (λvs H Q E h=> ?_) (λda A a9 s H vs Q E hr h=> ?_)
 ·obtain⟨a,ns,rfl,_⟩:=h;rfl
 obtain⟨a,ns,rfl,hS,cc,q⟩:=h;have nd:=sc_law.nd;have hu:=hr.units0;have zz:(4000:Nat)<=sizeLine:=by decide
 have hT:Tb H Pt:=⟨_,cc,(by first|exact trivial|simp[TriplesOk]),.inl rfl⟩;refine⟨_,(A7 (sS 1 nd (cC J5 hr (A0 (pv 0) (A0 A6 A5))))
   (A7 (K1 (i:=2) nd rfl rfl (cS (N:=WF) (sc:=A9 s_law) (caps:=[0]) (ns:=["_law_script"])) rfl rfl rfl (F4 rfl B.range_ (A0 (B8 D4 (pv 1) A6) A5)) (λ_ _ _ _ _=>J8) (λ_ _ _ _ _=>(cC K6 hr (A0 (cC J5 hr (A0 (pv 1) (A0 (B8 (F1 (Z:=Z)) A6 (pv 0)) A5))) A5))))
   (A7 (sS 3 nd (KE ix_str B0 (B8 D4 (B8 F3 (pv 1) A6) A6) (λ_ _=>rfl)))
   (A7 (sS 4 nd (cC SH hr (A0 (cC D8 hr (A0 (E6 (BE (Z:=Z)) rfl B.list_ Q8 (A0 (L3 (TB (Z:=Z)) (pv 0) (M4 A6) (M4 A6)) A5)) (A0 A6 (A0 (pv 3) (A0 (L6 (cS (N:=WF) (sc:=A9 s_law) (caps:=[]) (ns:=[])) rfl rfl rfl (G8 (Z:=Z) (pv 2)) (λ_ _ _ _ _=>J8) (λ_ _ _ _ _=>B0)) A5))))) (A0 A6 A5))))
   (A7 (sS 4 nd (B8 (F1 (Z:=Z)) (pv 4) (cC GX hr (A0 (pv 0) (A0 (pv 3) (A0 (kL Z B.len_ (pv 2)) A5))))))
   (A7 (C6 (C2 (B7 (kEq (Z:=Z) hu) (B8 D4 (B8 F3 (pv 1) A6) A6) A6 rfl) (A8 (sS 4 nd (B8 (F1 (Z:=Z)) (B4 (A0 (B4 (A0 B0 (A0 A6 A5))) (A0 (B4 (A0 B0 (A0 K2 A5))) (A0 (B4 (A0 B0 (A0 A6 A5))) (A0 (B4 (A0 B0 (A0 (B8 D4 (pv 1) (B8 U5 A6 A6)) A5))) A5))))) (pv 4)))) C0))
   (A7 (sS 4 nd (B8 (F1 (Z:=Z)) (pv 4) (B4 (A0 (B4 (A0 B0 A5)) A5))))
   (A7 (sS 5 nd (cC VC hr (A0 (pv 4) A5)))
   (A7 (C6 (C2 (PW.pt (V6 (HD (E5 (Z:=Z) (F2 (Y6 (Z:=Z)) rfl B.isinstance_ D9 (A0 (pv 5) (A0 (N7 (v:=.ty "tuple") rfl B.tuple_ Q1 rfl) A5))) (λ_=>rfl))) (V6 (B7 (fhZ (Z:=Z) hu) (pv 5) (B4 A5) rfl) (V6 (B7 LR (kL Z B.len_ (pv 5)) (kL Z B.len_ (pv 4)) rfl) (AZ (B7 (eSZ (Z:=Z) hu) (ixE Z w (pv 5) (K8 G2 A6)) (B4 (A0 B0 A5)) rfl)))))) (A8 (B6 K2)) C0))
   (A7 (sS 6 nd (cC SE hr (A0 (pv 5) A5)))
   (A7 (C6 (L4 PassesOwn.never rfl (F4 rfl B.range_ (A0 (B8 G1 (kL Z B.len_ (pv 5)) A6) A5)) (gN 7 nd) (A8 (C2 (E5 (Z:=Z) (cC IZ hr (A0 (pv 5) (A0 (pv 6) (A0 (pv 7) A5)))) (λ_=>rfl)) (A8 (B6 K2)) C0))))
   (A7 (sS 8 nd (cC NA hr (A0 (pv 4) (A0 (kL Z B.len_ (pv 2)) A5))))
   (A7 (sS 9 nd (cC BN hr (A0 (pv 4) (A0 (kL Z B.len_ (pv 2)) (A0 (pv 8) (A0 (pv 2) A5))))))
   (A7 (sS 10 nd (cC BN hr (A0 (pv 5) (A0 (kL Z B.len_ (pv 2)) (A0 (pv 8) (A0 (pv 2) A5))))))
   (A8 (B6 (BC (cC MK hr (A0 (ixE Z w (pv 9) A6) (A0 (ixE Z w (pv 10) A6) A5))) (BG (F7 XH (ixE Z w (pv 10) A6) (ixE Z w (pv 9) A6) rfl))))))))))))))))))), ?_⟩
 refine⟨_,rfl,a,ns,0,rfl,hS,by decide,λc=> ?_⟩;have c0:=Int.emod_nonneg c (by decide:(5:Int)≠0);have c1:=Int.emod_lt_of_pos c (by decide:(0:Int)<5);refine⟨_,rfl,_,_,rfl,rfl,(by decide:(0:Int)<5),_,rfl,by omega,by omega,M1 (n:=(c%5).toNat) (λi zs H'=>Same H H'/\∃xs:List Int,zs=xs.map V.int/\xs.length=i/\∀x∈xs,Bd x) ⟨Same.refl _,[],rfl,rfl,λx h=>nomatch h⟩ ?_ ?_ ?_⟩
 ·rintro i zs H' hi ⟨_,xs,rfl,hl,_⟩;rw[length_map];omega
 ·rintro i zs H' hi ⟨sm,xs,rfl,hl,hb⟩;refine O4 ⟨_,rfl,_,rfl,.inl ⟨_,_,rfl,rfl,a,ns,_,rfl,sm.seq hS,by omega,λc2=>⟨c2,rfl,λi2 H2 s2 cn=>⟨sm.trans s2,xs++ [i2],by rw[map_append];rfl,by rw[length_append,hl];rfl,λx hx=> ?_⟩⟩⟩⟩;rcases mem_append.mp hx with z|z
  ·exact hb x z
  ·rw[sZ z];exact cn
 rintro zs H1 ⟨s1,xs,rfl,c6,bf⟩ nu bi;have hm:xs.length<=4:=by omega
 have s2:=s1.trans (_B.qA bi (.lst (xs.map V.int)));have d:upd H1 nu (.lst (xs.map V.int)) nu=some (.lst (xs.map V.int)):=A4;show S0 _ _ _ (upd H1 nu (.lst (xs.map V.int))) _;generalize upd H1 nu (.lst (xs.map V.int))=H2 at s2 d⊢;have bs:=s2.seq hS;have cr:=_M.tb_same hT s2;clear bi s1 hT;obtain⟨κ,dd,cm,co⟩:=kd2 (c/5);have zt:("nt":Str).length<=sizeLine:=by decide +kernel
 refine⟨_,rfl,_,_,rfl,rfl,⟨by decide,by decide⟩,_,_,rfl,rfl,(by decide:(0:Int)<2),_,_,dd,rfl,rfl,zt,co, ?_⟩;rw[<-cm];refine⟨_,rfl,_,rfl,_,rfl,.inl (.inl ⟨a,_,rfl,bs,λl1 bk=> ?_⟩)⟩;rw[show N1 (ns.map V.int) (some 5) (some 95)=((ns.drop 5).take 90).map V.int by
  have:=YF (ns.map V.int) 5 95;rw[List.map_take,List.map_drop];exact this]
 have ce:((ns.drop 5).take 90).length<=90:=by rw[length_take];omega
 generalize(ns.drop 5).take 90=ms at ce⊢;have x1:=_B.qA bk (.lst (ms.map V.int));refine⟨_,_,rfl,.inl (SqL.of A4),λl hl=> ?_⟩;have x2:=_B.qA hl (.lst (ms.map V.int));have ac:upd (upd H2 l1 (.lst (ms.map V.int))) l (.lst (ms.map V.int)) l=some (.lst (ms.map V.int)):=A4;have bj:H2 l=none:=x1.free hl;have s3:=x1.trans x2;generalize upd (upd H2 l1 (.lst (ms.map V.int))) l (.lst (ms.map V.int))=H3 at ac s3⊢;clear x1 x2 bk hl;have j:(xs.map V.int).length=xs.length:=length_map _;refine⟨_,rfl,_,rfl,nu,rfl,⟨_,SqL.of (s3 _ _ d)⟩,K4 (xs:=xs.map V.int) (λi zs H'=>H3=H'/\zs=kl (List.replicate i true)) ⟨rfl,rfl⟩ ?_ ?_ ?_⟩
 ·rintro i zs H' hi ⟨rfl,rfl⟩;exact⟨SqL.of (s3 _ _ d),by rw[length_map,length_replicate];omega⟩
 ·rintro i v zs H' hv ⟨rfl,rfl⟩;exact O4 ⟨rfl,by unfold kl;rw[List.replicate_succ',map_append];rfl⟩
 rintro zs H' ⟨rfl,rfl⟩ kA bn;rw[j];have x3:=_B.qA bn (.lst (kl (List.replicate xs.length true)));have aq:upd H3 kA (.lst (kl (List.replicate xs.length true))) kA=some (.lst (kl (List.replicate xs.length true))):=A4;have ap:=x3 _ _ ac;have br:kA≠l:=Ne.symm (B9 ac bn);have s4:=s3.trans x3;generalize upd H3 kA (.lst (kl (List.replicate xs.length true)))=H4 at x3 aq ap s4⊢;refine⟨l,kA,_,κ,List.replicate xs.length true,ms,rfl,rfl,by rw[length_replicate];omega,ap,aq,br,λt qs r H5 c5 k5 ck cd w5 z5=> ?_⟩;have s5:Same H2 H5:=λb ob e=>k5 _ _ (s4 _ _ e) (B9 e bj);clear k5 ck s4 s3 x3 aq ap br bj ac;have b2:t.size<=300:=by omega
 refine⟨t,r,0,rfl,cd,by omega,λr1 H6 s6 bt=> ?_⟩;rw[w5.rows]at bt;obtain⟨rp,c4,rfl,bg,ag⟩:=bt;have ag:=bQZ ag;have ab:=s5.trans s6;refine⟨_,rfl,_,rfl,_,rfl,_,rfl,_,_,rfl,.inl ⟨_,SqL.of (ab _ _ d),rfl⟩,a,ns,κ,xs.length,(by show [V.ref a,V.str (kd κ),V.int ((xs.map V.int).length:Nat)]=_;rw[j]),ab.seq bs,hm,λps k r2 c3 H7 s7 S bw hk a0=> ?_⟩;have hQ:=Bo.of w5 b2 hm a0 hk;have ql:=w5.len;have pl:=a0.len;have az:(qs++ps).length<=900:=by rw[length_append];omega
 refine U1 (s7 _ _ bg) S (C9 s7 ag) bw (by omega) (by omega) λr3 H8 b1 s8 an af=> ?_;have ak:=ab.trans (s7.trans s8);generalize qs++ps=B at hQ az af;clear ag bw bg S s7 s8 ab s6 s5 a0 w5;refine⟨fun σ H'=>∃(r:Addr) (us:List V) (rs:List _F.Q),σ=[some (.ref a),some (.int c),some (.ref nu),some (.str (kd κ)),some (.ref r),none,none,none,none,none,none]/\Same H2 H'/\H' r=some (.tup us)/\All2 (QAt H') rs us/\Bo xs.length κ rs, ?_, ?_⟩
 ·refine⟨_,rfl,_,_,rfl,rfl,⟨by decide,by decide⟩,_,_,rfl,rfl,(by decide:(0:Int)<2),.inl ⟨rfl,_,rfl,K5 (λe=> ?_) (λe=>⟨r3,b1,B,rfl,ak,an,af,hQ⟩)⟩⟩;refine⟨C3,λp1 h1=>⟨C3,λp2 h2=>⟨C3,λp3 h3=>⟨_,rfl,_,_,rfl,rfl,⟨by decide,by decide,by decide⟩,_,_,rfl,rfl,(by decide:(0:Int)<10^(12:Int).toNat),C3,λp4 h4=>⟨IE,λp5 h5=> ?_⟩⟩⟩⟩⟩;have bq:Bd (c%10^(12:Int).toNat):=DH (by decide) (by decide);generalize c%10^(12:Int).toNat=e0 at bq h5⊢;have x1:=_B.qA h1 (.tup [.str "skip",.int 3]);have x2:=_B.qA h2 (.tup [.str "push",.bl true]);have x3:=_B.qA h3 (.tup [.str "unless",.int 1]);have x4:=_B.qA h4 (.tup [.str "push",.int e0]);have x5:=_B.qA h5 (.tup [.ref p1,.ref p2,.ref p3,.ref p4]);have a4:=x4.trans x5;have a5:=x3.trans a4;have a6:=x2.trans a5;have ah:=x1.trans a6;exact⟨_,rfl,U1 (r1:=[.skip 3,.push (.b true),.unl 1,.push (.n e0)]) A4 (ah _ _ an) (.cons ⟨p1,rfl,a6 _ _ A4⟩ (.cons ⟨p2,rfl,a5 _ _ A4⟩ (.cons ⟨p3,rfl,a4 _ _ A4⟩ (.cons ⟨p4,rfl,x5 _ _ A4⟩ .nil)))) (C9 ah af) (by simp) (by omega) λr4 H9 b0 s9 ca cw=>⟨r4,b0,_,rfl,ak.trans (ah.trans s9),ca,cw,hQ.ahead az bq⟩⟩
 clear af an hQ az ak;rintro σ H8 ⟨r,us,B,rfl,s8,bh,bv,hB⟩;have cv:=hB.len;refine⟨_,rfl,F5,λp1 h1=>⟨F5,λp2 h2=> ?_⟩⟩;have x1:=_B.qA h1 (.tup [.str "back"]);have x2:=_B.qA h2 (.tup [.ref p1]);have Y:=x1.trans x2;refine U1 (r2:=[.back]) (Y _ _ bh) A4 (C9 Y bv) (.cons ⟨p1,rfl,x2 _ _ A4⟩ .nil) (by omega) (by simp) λp H9 cz s9 am ae=> ?_;have a7:=s8.trans (Y.trans s9);obtain⟨o,m,G⟩:=hB.run;have ar:=hB.c.gd;have bm:∀s,_F.Q.keep s∈B++ [.back]->s<40:=λs hs=>by
  rcases mem_append.mp hs with z|z
  ·exact(hB.c.mem _ z).2
  ·cases sZ z
 have ad:(B++ [_F.Q.back]).length<=1000:=by rw[length_append];show _+1<=_;omega
 generalize B++ [_F.Q.back]=R at G ar bm ae ad;clear bv hB bh x1 x2 Y s9 s8 h1 h2 cv;have ax:=XC am ae;refine⟨_,rfl,p,R,rfl,ax,ad,ar,λfp F cy M hF gF c8 y au av cl=> ?_⟩;obtain⟨m2,c7,O⟩:=y _ _ _ _ G;obtain⟨g,U,bp⟩:=U8 hF;have bo:=bp.len;have L:=a7.trans M;have ay:=ax.same M;have u:=M _ _ am;have X:=C9 M ae;have ct:=X.len;obtain⟨c9,cu⟩:=gF.last;clear ax ae am M a7 y;have al:g≠ []:=by
  intro z;have e:F.length=0:=by rw[bo,z];rfl
  omega
 obtain⟨lu,cg,la,rfl,cj⟩:=_M.all2_get bp cu;have cf:atI g (-1)=some (.ref la):=by
  have e:g=g.take (g.length - 1)++ [.ref la]:=by
   have ch:g.length - 1<g.length:=by omega
   have ao:g[g.length - 1]? =some (.ref la):=by rw[<-bo];exact cg
   have e2:g[g.length - 1]=.ref la:=(List.getElem?_eq_some_iff.mp ao).2;rw[<-e2,List.take_append_getElem ch];exact(take_of_length_le (by omega)).symm
  rw[e];exact K7 _ _
 refine⟨fun σ H'=>σ=[some (.ref a),some (.int c),some (.ref nu),some (.str (kd κ)),some (.ref p),some (.ref fp),none,none,none,none,none]/\Same cy H', ?_, ?_⟩
 ·refine⟨_,rfl,_,_,_,_,rfl,.tup U,biZ,true,rfl,ifF (by decide) ?_⟩;refine⟨_,rfl,zero_le _,λe he=> ?_⟩;have x1:=_B.qA he (.tup []);refine⟨fp,e,g,rfl,rfl,SqT.of (x1 _ _ U),SqT.of A4,al,_,rfl,ifF nZ ?_⟩;refine⟨_,rfl,_,_,rfl,.inr ⟨_,SqT.of (x1 _ _ U),rfl⟩,_,rfl,_,_,rfl,.inr ⟨_,SqT.of (x1 _ _ u),rfl⟩,_,_,rfl,rfl,_,rfl,ifF (λz=>by have:=of_decide_eq_true z;omega) ?_⟩;refine⟨_,rfl,_,rfl,.inr (.inl ⟨fp,g, -1,_,rfl,rfl,SqT.of (x1 _ _ U),cf,F5,λtb b9=> ?_⟩)⟩;have x2:=x1.trans (_B.qA b9 (.tup [.str "back"]));exact⟨la,tb,[.str "back"],[.str "back"],rfl,rfl,SqT.of (x2 _ _ cj),SqT.of A4,rfl,rfl,_,rfl,ifF (by decide +kernel) ⟨rfl,x2⟩⟩
 rintro σ df ⟨rfl,a8⟩;refine⟨_,rfl,fp,F.map tj,rfl,hF.same a8,by rw[length_map];omega,gF.wf,av,λll ls bx b6 ci bu=> ?_⟩;rw[length_map]at bu;have aj:=a8.trans b6;have a3:=hF.same aj;refine⟨fun σ H'=>∃z,σ=[some (.ref a),some (.int c),some (.ref nu),some (.str (kd κ)),some (.ref p),some (.ref fp),some (.ref ll),z,none,none,none]/\Same bx H', ?_, ?_⟩
 ·refine⟨_,rfl,_,_,rfl,.inr ⟨_,SqT.of (aj _ _ U),rfl⟩,_,_,rfl,rfl,_,rfl,by omega,by omega,N8 (n:=(((g.length:Nat):Int) - 1).toNat) (λi σ H'=>∃z,σ=[some (.ref a),some (.int c),some (.ref nu),some (.str (kd κ)),some (.ref p),some (.ref fp),some (.ref ll),z,none,none,none]/\Same bx H') ⟨none,rfl,Same.refl _⟩ ?_ (λ_ _ h=>h)⟩;rintro i σ H' hi ⟨z,rfl,sm⟩;rw[Int.zero_add];exact⟨_,rfl,_,rfl,_,rfl,fp,ll,F,ls,i,rfl,a3.same sm,by omega,gF,sm _ _ ci,bu,au,by omega,λdg b3=>⟨false,rfl,ifF nZ ⟨_,rfl,sm.trans b3⟩⟩⟩
 rintro σ de ⟨z0,rfl,b5⟩;have aa:=aj.trans b5;have bz:=L.trans aa;refine⟨_,rfl,_,rfl,_,_,rfl,.inl ⟨_,SqL.of (bz _ _ d),rfl⟩,p,_,R,xs.length,(by show [V.ref p,V.int ((xs.map V.int).length:Nat)]=_;rw[j]),aa _ _ u,C9 aa X,ad,by omega,bm,λz dc b4 be bd bc=> ?_⟩;have ai:=aa.trans b4;have J:=L.trans ai;have I:=_M.tb_same cr J;refine⟨_,rfl,_,rfl,_,_,rfl,.inl ⟨_,SqL.of (J _ _ d),rfl⟩,_,rfl,_,rfl,p,nu,R,xs,z,o,m,(by show [V.ref p,V.int ((xs.map V.int).length:Nat),V.int (z:Nat),V.ref nu]=_;rw[j]),ay.same ai,ad,ar.ok,bc,bd,be,J _ _ d,bf,I,G,λr1 a1 db bb W cb cq=> ?_⟩;have b7:=bAZ I bb;have D:=bb _ _ (J _ _ d) (λe=>by obtain⟨qs,e1,_⟩:=I;have:=J _ _ d;rw[e,e1]at this;cases this);refine⟨_,rfl,_,rfl,_,_,rfl,.inl ⟨_,SqL.of D,rfl⟩,_,rfl,_,rfl,fp,nu,F,xs,z,o,m2,(by show [V.ref fp,V.int ((xs.map V.int).length:Nat),V.int (z:Nat),V.ref nu]=_;rw[j]),(hF.same ai).mo b7,by omega,gF.ok,λs hs=>bc s (cl s hs),bd,be,D,bf,W,O,λr2 a2 cx b8 cs S cp=> ?_⟩;have ba:=bAZ W b8;have T:=ba _ _ cb;have aw:=ba _ _ cq;refine⟨_,rfl,(ixT T rfl ⟨_,rfl,(ixT S rfl ⟨a1,a2,o,rfl,aw,cp,_,rfl,ifT rfl ?_⟩)⟩)⟩;refine⟨_,rfl,(ixT S rfl ⟨_,rfl,(ixT T rfl ⟨_,_,rfl,rfl, ?_⟩)⟩)⟩;rw[decide_eq_true (by omega:((m2:Nat):Int)<=(m:Nat))];exact q cx
end
end _F
structure PySem.W.Fast:Prop where(tw16259097968741330091 tw8791036968145297615 tw1183991175889005656 tw15713270589815420076 tw16201603656549104012 tw4004819988825709962 tw331746484138043322 tw10209146036878526815 tw1147793638153600142 tw7773933946375173558 tw5673309495544818806 tw17963649696671346285 tw7577229287735353287 tw4477770385509262817 tw1668308254075531680 tw9426049612679192907 tw14040958150496604321 tw3837702670735222035 tw8854945316508962864 tw15179827664273809082 tw16235815764152459913 tw8745744565224528248 tw14063720834314964110 tw14787691488782814825 tw2599198555029727728 tw13398932422083700010 tw5182075212251683580 tw15352891785164711028 tw4392649412493936643 tw2119172976076422744 tw18307987407949129571 tw8691476161333689115 tw11826834677558107779 tw11337605303690933247 tw16140727031351067237 tw4468375519172110616 tw17194823351720374289 tw18330394635301109023 tw15674550003779727867 tw6782619551751338072 tw11864324285709582314 tw2572963587844812104 tw11175879693311015109 tw7831430779950108527 tw10415175638288701274 tw7554385140164701872 tw1671915913389793598 tw6840085327309336699 tw18033590298165282633 tw12187754021826910962 tw9824572897268040727 tw7070527001700407932 tw8361904683099051399 tw4405329492169111586 tw1918926696664178358 tw1574216022020238580 tw4696873686371815669 tw13863961785212616319 tw10003197596061306426 tw11712761591872948813 tw15618683006356589139 tw8571002453828420585 tw3416750539426371181 tw2405076335982508534 tw1386985506833942182 tw9870682532467372771 tw572918146524185374 tw16882425067170240266 tw1358913513537559758 tw11544817924203375290 tw3836250510862437296 tw5011153774262298090 tw11037541796387531417 tw11218658450405483755 tw128062821939449188 tw6481134805462994849 tw5613257797878846788 tw13710387767082246511 tw7883479922189802911 tw10455068661674682488 tw3234391234898126743 tw751538151343118053 tw13901812695701446632 tw753929273286552989 tw2594452494658312241 tw4148504273185607977 tw13873244004943645299 tw3129122904624313521 tw12227869091976315156 tw470649159283335592 tw6986390839128432716 tw17649245285531550339 tw5136448751573127050 tw2183570271104633105 tw8055666501359994770 tw4806242871355872587 tw4167523328123755360 tw14765739327741202023 tw16467485787525323348 tw212058453345617811 tw9570597865120549210 tw10584051838456228125 tw14627250709759277719 tw15181747656115198268 tw5866261350332892086 tw1038465853405673873 tw4261345624742721086 tw6650650899569761725 tw10876582050669777372 tw3537685330016740666 tw2050903272842154254 tw14443772988450955079 tw11776118233698119328 tw14805300653401193795 tw14844380424345989838 tw1702056748353464879 tw8300672734127658192 tw10802416063066341338 tw5943515146726184020 tw5484597148213283189 tw12701117114029389723 tw4116295494129536500 tw16584669940604354517 tw9426461049380013092 tw8578547126726106233 tw2712626406111258541 tw9762095039047546523 tw4918419218062221109 tw6509762756412702485 tw12784628738052449108 tw8724118168457199771 tw5243857959688169119 tw8767541790232170916 tw3593148200327490879 tw352971498509010451 tw9736167495291099884 tw9556532512724600768 tw13910717101236651424 tw10375148961534854965 tw14148728235697679849 tw14933228134889529005 tw5286329084442793247 tw948809580828092089 tw1580582647017144833 tw9884406203949243873 tw16993131922842440652 tw8094622725776842795 tw13044798816335133972 tw11707288518291658545 tw3023446123889038398 tw1112616301133079290 tw13770413404845930415 tw10914218283823087544 tw3877256670108993993 tw14319843931532828628 tw13820794533820437921 tw16534616624935610658 tw15742063716179518033 tw3720126346133204409 tw16396986030430563058 tw5713218745022103186 tw8840076481507452739 tw10090454823321543270 tw3753163720292246460 tw3220403951809248173 tw1831707922456293972 tw2999897136207955330 tw6362568688551854810 tw14472470596644002899 tw15236980340878837439 tw6891388227840715803 tw10966061273371229924 tw11997141070030809931 tw18106820320898695521 tw6209981646469059120 tw18289226801845893393 tw14276784544925623460 tw2986447679988084530 tw1323607036929040783 tw1981137067595707034 tw12721238472255893948 tw16933884205996696488:True)
namespace _F
open PySem _L
open PySem.W (mg_none_of mg_of)
abbrev s_collect:Stmt:=_L.inClass (_C.top 70) 6
abbrev s_hung_on:Stmt:=_L.inClass (_C.top 70) 7
abbrev s_hang_on:Stmt:=_L.inClass (_C.top 70) 8
def NT{α:Type}(l:List (Str×α))(d:α)(x:Str):α:=(l.lookup x).getD d
theorem C5{α:Type}(d:α):∀(l:List (Str×α)) (i:Nat) (x:Str) (v:α),l[i]? =some (x,v)->(l.map (·.1)).Nodup->NT l d x=v
 | [],i,x,v,h,_=>by cases h
 |(y,u)::r,0,x,v,h,_=>by
  cases h;unfold NT;rw[List.lookup_cons_self];rfl
 |(y,u)::r,i+1,x,v,h,hn=>by
  have h':r[i]? =some (x,v):=h;rw[map_cons,nodup_cons]at hn;have hm:x∈r.map (·.1):=mem_map.mpr ⟨(x,v),mem_of_getElem? h',rfl⟩;have a:x≠y:=λe=>hn.1 (e▸hm);have ih:=C5 d r i x v h' hn.2;unfold NT at ih⊢;rw[lookup_cons,show(x==y)=false from beq_false_of_ne a];exact ih
theorem G0:(["put","at","many","told"]:List Str).Nodup:=by decide +kernel
theorem fGZ(f0 f1 f2 f3:Addr)(d0 d1 d2 d3:FuncData):∃(mf:Str->Addr) (md:Str->FuncData),mf "put"=f0/\mf "at"=f1/\mf "many"=f2/\mf "told"=f3/\md "put"=d0/\md "at"=d1/\md "many"=d2/\md "told"=d3:=
 ⟨NT [("put",f0),("at",f1),("many",f2),("told",f3)] f0,NT [("put",d0),("at",d1),("many",d2),("told",d3)] d0,C5 _ _ 0 _ _ rfl G0,C5 _ _ 1 _ _ rfl G0,C5 _ _ 2 _ _ rfl G0,C5 _ _ 3 _ _ rfl G0,C5 _ _ 0 _ _ rfl G0,C5 _ _ 1 _ _ rfl G0,C5 _ _ 2 _ _ rfl G0,C5 _ _ 3 _ _ rfl G0⟩
/-- a def of the top,as it lies -/
def DefAt(Z:FZ)(x:Str)(st:Stmt)(f:Addr)(fd:FuncData):Prop:=∃(oc kV dc pm cd ct:Value) (od an:Option Addr) (sl:Array (Option Value)),fd=fnOf x x (D1 st) (C7 st) (A9 st) .none kV dc pm an cd ct/\W.nsIn Z mainGlobals x=some (some (.ref f))/\Z.lookup f=some ⟨oc,od,.func (fnOf x x (D1 st) (C7 st) (A9 st) .none kV dc pm an cd ct),sl⟩/\codeIn Z cd x=true/\W.keepIn Z (.ref f)=true
section
theorem DefAt.ns{st:Stmt}(h:DefAt Z x st f fd):W.nsIn Z mainGlobals x=some (some (.ref f)):=by
 obtain⟨_,_,_,_,_,_,_,_,_,_,a,_⟩:=h;exact a
theorem DefAt.kp{st:Stmt}(h:DefAt Z x st f fd):kZ Z (.ref f)=true:=by
 obtain⟨_,_,_,_,_,_,_,_,_,_,_,_,_,a⟩:=h;exact a
theorem DefAt.fn{st:Stmt}(h:DefAt Z x st f fd):Fun Z x x st f fd:=by
 obtain⟨_,_,_,_,_,_,_,_,_,rfl,_,l,c,k⟩:=h;exact Q9 l c k
end
/-- a method of a class,as it lies -/
def MethAt(Z:FZ)(C:Addr)(x qn:Str)(st:Stmt)(f:Addr)(fd:FuncData):Prop:=∃(oc kV dc pm cd ct:Value) (od an:Option Addr) (sl:Array (Option Value)),fd=fnOf x qn (D1 st) (C7 st) (A9 st) .none kV dc pm an cd ct/\findIn Z (.ref C) x=some (some (.ref f))/\Z.lookup f=some ⟨oc,od,.func (fnOf x qn (D1 st) (C7 st) (A9 st) .none kV dc pm an cd ct),sl⟩/\codeIn Z cd qn=true/\W.keepIn Z (.ref f)=true/\W.isFn Z (.ref f)=true
section
theorem MethAt.me{st:Stmt}(h:MethAt Z C x qn st f fd):Meth Z C x f:=by
 obtain⟨_,_,_,_,_,_,_,_,_,_,a,_,_,k,j⟩:=h;exact⟨a,j,k⟩
theorem MethAt.fn{st:Stmt}(h:MethAt Z C x qn st f fd):Fun Z x qn st f fd:=by
 obtain⟨_,_,_,_,_,_,_,_,_,rfl,_,l,c,k,_⟩:=h;exact Q9 l c k
end
theorem C1:(["step","go_on","enter","leave","end","collect","hung_on","hang_on","has_value","answer","frames","cells","rows_done","calls"]:List Str).Nodup:=by decide +kernel
theorem enZ(f0 f1 f2 f3 f4 f5 f6 f7 f8 f9 f10 f11 f12 f13:Addr)(d0 d1 d2 d3 d4 d5 d6 d7 d8 d9 d10 d11 d12 d13:FuncData):∃(mf:Str->Addr) (md:Str->FuncData),mf "step"=f0/\mf "go_on"=f1/\mf "enter"=f2/\mf "leave"=f3/\mf "end"=f4/\mf "collect"=f5/\mf "hung_on"=f6/\mf "hang_on"=f7/\mf "has_value"=f8/\mf "answer"=f9/\mf "frames"=f10/\mf "cells"=f11/\mf "rows_done"=f12/\mf "calls"=f13/\md "step"=d0/\md "go_on"=d1/\md "enter"=d2/\md "leave"=d3/\md "end"=d4/\md "collect"=d5/\md "hung_on"=d6/\md "hang_on"=d7/\md "has_value"=d8/\md "answer"=d9/\md "frames"=d10/\md "cells"=d11/\md "rows_done"=d12/\md "calls"=d13:=
 ⟨NT [("step",f0),("go_on",f1),("enter",f2),("leave",f3),("end",f4),("collect",f5),("hung_on",f6),("hang_on",f7),("has_value",f8),("answer",f9),("frames",f10),("cells",f11),("rows_done",f12),("calls",f13)] f0,NT [("step",d0),("go_on",d1),("enter",d2),("leave",d3),("end",d4),("collect",d5),("hung_on",d6),("hang_on",d7),("has_value",d8),("answer",d9),("frames",d10),("cells",d11),("rows_done",d12),("calls",d13)] d0,C5 _ _ 0 _ _ rfl C1,C5 _ _ 1 _ _ rfl C1,C5 _ _ 2 _ _ rfl C1,C5 _ _ 3 _ _ rfl C1,C5 _ _ 4 _ _ rfl C1,C5 _ _ 5 _ _ rfl C1,C5 _ _ 6 _ _ rfl C1,C5 _ _ 7 _ _ rfl C1,C5 _ _ 8 _ _ rfl C1,C5 _ _ 9 _ _ rfl C1,C5 _ _ 10 _ _ rfl C1,C5 _ _ 11 _ _ rfl C1,C5 _ _ 12 _ _ rfl C1,C5 _ _ 13 _ _ rfl C1,C5 _ _ 0 _ _ rfl C1,C5 _ _ 1 _ _ rfl C1,C5 _ _ 2 _ _ rfl C1,C5 _ _ 3 _ _ rfl C1,C5 _ _ 4 _ _ rfl C1,C5 _ _ 5 _ _ rfl C1,C5 _ _ 6 _ _ rfl C1,C5 _ _ 7 _ _ rfl C1,C5 _ _ 8 _ _ rfl C1,C5 _ _ 9 _ _ rfl C1,C5 _ _ 10 _ _ rfl C1,C5 _ _ 11 _ _ rfl C1,C5 _ _ 12 _ _ rfl C1,C5 _ _ 13 _ _ rfl C1⟩
theorem bn1{st:Stmt}{ps:List Str}(F:Fun Z x qual st f fd)(l:ps.length=1)(h:∀(kV doc pm:Value) (an:Option Addr) (cdv ct a0:Value),bindArgs (fnOf x qual (D1 st) (C7 st) (A9 st) .none kV doc pm an cdv ct) ⟨[a0],[]⟩=pure (ps.zip [a0])):Binds Z fd ps []:=
 F.binds λkV doc pm an cdv ct us hl=>match us,hl.trans l with| [a0],_=>h kV doc pm an cdv ct a0
theorem bn2{st:Stmt}{ps:List Str}(F:Fun Z x qual st f fd)(l:ps.length=2)(h:∀(kV doc pm:Value) (an:Option Addr) (cdv ct a0 a1:Value),bindArgs (fnOf x qual (D1 st) (C7 st) (A9 st) .none kV doc pm an cdv ct) ⟨[a0,a1],[]⟩=pure (ps.zip [a0,a1])):Binds Z fd ps []:=
 F.binds λkV doc pm an cdv ct us hl=>match us,hl.trans l with| [a0,a1],_=>h kV doc pm an cdv ct a0 a1
theorem bn3{st:Stmt}{ps:List Str}(F:Fun Z x qual st f fd)(l:ps.length=3)(h:∀(kV doc pm:Value) (an:Option Addr) (cdv ct a0 a1 a2:Value),bindArgs (fnOf x qual (D1 st) (C7 st) (A9 st) .none kV doc pm an cdv ct) ⟨[a0,a1,a2],[]⟩=pure (ps.zip [a0,a1,a2])):Binds Z fd ps []:=
 F.binds λkV doc pm an cdv ct us hl=>match us,hl.trans l with| [a0,a1,a2],_=>h kV doc pm an cdv ct a0 a1 a2
theorem bn4{st:Stmt}{ps:List Str}(F:Fun Z x qual st f fd)(l:ps.length=4)(h:∀(kV doc pm:Value) (an:Option Addr) (cdv ct a0 a1 a2 a3:Value),bindArgs (fnOf x qual (D1 st) (C7 st) (A9 st) .none kV doc pm an cdv ct) ⟨[a0,a1,a2,a3],[]⟩=pure (ps.zip [a0,a1,a2,a3])):Binds Z fd ps []:=
 F.binds λkV doc pm an cdv ct us hl=>match us,hl.trans l with| [a0,a1,a2,a3],_=>h kV doc pm an cdv ct a0 a1 a2 a3
theorem bn5{st:Stmt}{ps:List Str}(F:Fun Z x qual st f fd)(l:ps.length=5)(h:∀(kV doc pm:Value) (an:Option Addr) (cdv ct a0 a1 a2 a3 a4:Value),bindArgs (fnOf x qual (D1 st) (C7 st) (A9 st) .none kV doc pm an cdv ct) ⟨[a0,a1,a2,a3,a4],[]⟩=pure (ps.zip [a0,a1,a2,a3,a4])):Binds Z fd ps []:=
 F.binds λkV doc pm an cdv ct us hl=>match us,hl.trans l with| [a0,a1,a2,a3,a4],_=>h kV doc pm an cdv ct a0 a1 a2 a3 a4
theorem DefAt.c1{st:Stmt}{sp:Sp}(d:DefAt Z x st f fd)(X:Z.In h)(G:h.Ns mainGlobals mg)(o:FnOk P w Z mg qB CX k f fd ps sp)(l:ps.length=1:=by rfl)(hb:∀(kV doc pm:Value) (an:Option Addr) (cdv ct a0:Value),bindArgs (fnOf x x (D1 st) (C7 st) (A9 st) .none kV doc pm an cdv ct) ⟨[a0],[]⟩=pure (ps.zip [a0]):=by intros;rfl):_L.Cn P w Z mg qB CX k x ps sp:=⟨_,_,o,bn1 d.fn l hb,d.kp,mg_of X G d.ns⟩
theorem DefAt.c2{st:Stmt}{sp:Sp}(d:DefAt Z x st f fd)(X:Z.In h)(G:h.Ns mainGlobals mg)(o:FnOk P w Z mg qB CX k f fd ps sp)(l:ps.length=2:=by rfl)(hb:∀(kV doc pm:Value) (an:Option Addr) (cdv ct a0 a1:Value),bindArgs (fnOf x x (D1 st) (C7 st) (A9 st) .none kV doc pm an cdv ct) ⟨[a0,a1],[]⟩=pure (ps.zip [a0,a1]):=by intros;rfl):_L.Cn P w Z mg qB CX k x ps sp:=⟨_,_,o,bn2 d.fn l hb,d.kp,mg_of X G d.ns⟩
theorem DefAt.c3{st:Stmt}{sp:Sp}(d:DefAt Z x st f fd)(X:Z.In h)(G:h.Ns mainGlobals mg)(o:FnOk P w Z mg qB CX k f fd ps sp)(l:ps.length=3:=by rfl)(hb:∀(kV doc pm:Value) (an:Option Addr) (cdv ct a0 a1 a2:Value),bindArgs (fnOf x x (D1 st) (C7 st) (A9 st) .none kV doc pm an cdv ct) ⟨[a0,a1,a2],[]⟩=pure (ps.zip [a0,a1,a2]):=by intros;rfl):_L.Cn P w Z mg qB CX k x ps sp:=⟨_,_,o,bn3 d.fn l hb,d.kp,mg_of X G d.ns⟩
theorem all_mk{l:W.OpenLaw}{w:World}{Z:W.Frag}{h:Heap}{mg:Str->Option Value}{fa:Addr}(X:Z.In h)(G:h.Ns mainGlobals mg)(hfa:mg "law"=some (.ref fa)){c Pt:Addr}
  {f0 f1 f2 f3 f4 f5 f6 f7 f8 f9 f10 f11 f12 f13 f14 f15 f16 f17 f18 f19 f20 f21 f22 f23 f24 f25 f26 f27 f28 f29 f30 f31 f32 f33 f34 f35 f36 f37 f38 f39 f40 f41 f42 f43 f44 f45 f46 f47 f48 f49 f50 f51 f52 f53 f54 f55 f56 f57 f58 f59 f60 f61 f62 f63:Addr}{od34 an34 od63 an63:Option Addr}{sl34 sl63:Array (Option Value)}{oc34 kV34 dc34 pm34 cd34 ct34 oc63 kV63 dc63 pm63 cd63 ct63:Value}
  {e0 e1 e2 e3 e4 e5 e6 e7 e8 e9 e10 e11 e12 e13 e14 e15 e16 e17 e18 e19 e20 e21 e22 e23 e24 e25 e26 e27 e28 e29 e30 e31 e32 e33 e35 e36 e37 e38 e39 e40 e41 e42 e43 e44 e45 e46 e47 e48 e49 e50 e51 e52 e53 e54 e55 e56 e57 e58 e59 e60 e61 e62:FuncData}
  {t_GREATEST t_MOST_FOLDED:Tok}
  {C:Addr}{fM0 fM1 fM2 fM3 fI:Addr}{odM0 anM0 odM1 anM1 odM2 anM2 odM3 anM3 odI anI:Option Addr}{slM0 slM1 slM2 slM3 slI:Array (Option Value)}{ocM0 kVM0 dcM0 pmM0 cdM0 ctM0 ocM1 kVM1 dcM1 pmM1 cdM1 ctM1 ocM2 kVM2 dcM2 pmM2 cdM2 ctM2 ocM3 kVM3 dcM3 pmM3 cdM3 ctM3 ocI kVI dcI pmI cdI ctI:Value}
  {pf_ROW_SIGNS:Addr}{es_ROW_SIGNS:Array DictEntry}{nes_ROW_SIGNS:Nat}
  {pf_PARTS_FROM:Addr}{es_PARTS_FROM:Array DictEntry}{nes_PARTS_FROM:Nat}
  {pf_SIGN_ROWS:Addr}{es_SIGN_ROWS:Array DictEntry}{nes_SIGN_ROWS:Nat}
  (d0:DefAt Z "goals" _J.s_goals f0 e0)
  (d1:DefAt Z "reached" _J.s_reached f1 e1)
  (d2:DefAt Z "without" _J.s_without f2 e2)
  (d3:DefAt Z "new_goal" _J.s_new_goal f3 e3)
  (d4:DefAt Z "with_goal" _J.s_with_goal f4 e4)
  (d5:DefAt Z "reached_alone" _J.s_reached_alone f5 e5)
  (d6:DefAt Z "is_whole" _F.s_is_whole f6 e6)
  (d7:DefAt Z "two_told" _N.s_two_told f7 e7)
  (d8:DefAt Z "quotient_told" _N.s_quotient_told f8 e8)
  (d9:DefAt Z "outcome" _N.s_outcome f9 e9)
  (d10:DefAt Z "bounded" _N.s_bounded f10 e10)
  (d11:DefAt Z "folded" _F.s_folded f11 e11)
  (d12:DefAt Z "folded_once" _F.s_folded_once f12 e12)
  (d13:DefAt Z "loads_of_slots" _F.s_loads_of_slots f13 e13)
  (d14:DefAt Z "pieces" _F.s_pieces f14 e14)
  (d15:DefAt Z "folded_piece" _F.s_folded_piece f15 e15)
  (d16:DefAt Z "folding" _F.s_folding f16 e16)
  (d17:DefAt Z "folding_of_numbers" _F.s_folding_of_numbers f17 e17)
  (d18:DefAt Z "folding_of_truth" _F.s_folding_of_truth f18 e18)
  (d19:DefAt Z "folding_of_load" _F.s_folding_of_load f19 e19)
  (d20:DefAt Z "pushes_number" _F.s_pushes_number f20 e20)
  (d21:DefAt Z "parts_of" _P.s_parts_of f21 e21)
  (d22:DefAt Z "built_up" _B.s_built_up f22 e22)
  (d23:DefAt Z "placed_parts" _P.s_placed_parts f23 e23)
  (d24:DefAt Z "counted" _P.s_counted f24 e24)
  (d25:DefAt Z "with_count" _P.s_with_count f25 e25)
  (d26:DefAt Z "rows_of" _P.s_rows_of f26 e26)
  (d27:DefAt Z "rows_of_counted" _P.s_rows_of_counted f27 e27)
  (d28:DefAt Z "numbered_parts" _P.s_numbered_parts f28 e28)
  (d29:DefAt Z "rows_with" _P.s_rows_with f29 e29)
  (d30:DefAt Z "rows_of_if" _P.s_rows_of_if f30 e30)
  (d31:DefAt Z "one_behind_the_other" _P.s_one_behind_the_other f31 e31)
  (d32:DefAt Z "last_row" _P.s_last_row f32 e32)
  (d33:DefAt Z "is_cell" _Q.s_is_cell f33 e33)
  (d35:DefAt Z "heads_of" _Q.s_heads_of f35 e35)
  (d36:DefAt Z "with_heads" _Q.s_with_heads f36 e36)
  (d37:DefAt Z "entered" _C.s_entered f37 e37)
  (d38:DefAt Z "own_done" _C.s_own_done f38 e38)
  (d39:DefAt Z "behind" _C.s_behind f39 e39)
  (d40:DefAt Z "two_done" _C.s_two_done f40 e40)
  (d41:DefAt Z "part_done" _C.s_part_done f41 e41)
  (d42:DefAt Z "with_new_cell" _C.s_with_new_cell f42 e42)
  (d43:DefAt Z "with_nothing_put" _C.s_with_nothing_put f43 e43)
  (d44:DefAt Z "with_slot" _C.s_with_slot f44 e44)
  (d45:DefAt Z "further" _C.s_further f45 e45)
  (d46:DefAt Z "value_put" _C.s_value_put f46 e46)
  (d47:DefAt Z "_law_cell_at" _F.s_law_cell_at f47 e47)
  (d48:DefAt Z "_law_number" _F.s_law_number f48 e48)
  (d49:DefAt Z "_law_next" _F.s_law_next f49 e49)
  (d50:DefAt Z "_law_leaf" _F.s_law_leaf f50 e50)
  (d51:DefAt Z "_law_own" _F.s_law_own f51 e51)
  (d52:DefAt Z "_law_term" _F.s_law_term f52 e52)
  (d53:DefAt Z "_law_test" _F.s_law_test f53 e53)
  (d54:DefAt Z "_law_piece" _F.s_law_piece f54 e54)
  (d55:DefAt Z "_law_pieces" _F.s_law_pieces f55 e55)
  (d56:DefAt Z "_law_size" _F.s_law_size f56 e56)
  (d57:DefAt Z "_law_led" _F.s_law_led f57 e57)
  (d58:DefAt Z "_law_is_number" _F.s_law_is_number f58 e58)
  (d59:DefAt Z "_law_goes" _F.s_law_goes f59 e59)
  (d60:DefAt Z "_law_known" _F.s_law_known f60 e60)
  (d61:DefAt Z "_law_ended" _F.s_law_ended f61 e61)
  (d62:DefAt Z "_law_same" _F.s_law_same f62 e62)
  (a34:W.nsIn Z mainGlobals "plain"=some (some (.ref f34)))(l34:Z.lookup f34=some ⟨oc34,od34,.func (W.fnOf "plain" "plain" (D1 _Q.s_plain) (C7 _Q.s_plain) (A9 _Q.s_plain) .none kV34 dc34 pm34 an34 cd34 ct34),sl34⟩)(c34:W.codeIn Z cd34 "plain"=true)(k34:W.keepIn Z (.ref f34)=true)
  (a63:W.nsIn Z mainGlobals "law"=some (some (.ref f63)))(l63:Z.lookup f63=some ⟨oc63,od63,.func (W.fnOf "law" "law" (D1 _F.s_law) (C7 _F.s_law) (A9 _F.s_law) .none kV63 dc63 pm63 an63 cd63 ct63),sl63⟩)(c63:W.codeIn Z cd63 "law"=true)(k63:W.keepIn Z (.ref f63)=true)
  (e_GREATEST:W.nsIn Z mainGlobals "GREATEST"=some (some (.int 10000000000000000000000000000000000000000 t_GREATEST)))
  (e_MOST_FOLDED:W.nsIn Z mainGlobals "MOST_FOLDED"=some (some (.int 3 t_MOST_FOLDED)))
  (aD_ROW_SIGNS:W.nsIn Z mainGlobals "ROW_SIGNS"=some (some (.ref pf_ROW_SIGNS)))(lD_ROW_SIGNS:Z.lookup pf_ROW_SIGNS=some ⟨.type "dict",none,.dict es_ROW_SIGNS nes_ROW_SIGNS, #[]⟩)(kD_ROW_SIGNS:W.KeysLit w.params es_ROW_SIGNS.toList)(pD_ROW_SIGNS:Paired (λ(p:Str×V) (e:DictEntry)=>(∃t,e.key=.str p.1 t)/\RelV p.2 e.val) _C.RS es_ROW_SIGNS.toList)(oD_ROW_SIGNS:(pf_ROW_SIGNS==sysModules)=false)
  (aD_PARTS_FROM:W.nsIn Z mainGlobals "PARTS_FROM"=some (some (.ref pf_PARTS_FROM)))(lD_PARTS_FROM:Z.lookup pf_PARTS_FROM=some ⟨.type "dict",none,.dict es_PARTS_FROM nes_PARTS_FROM, #[]⟩)(kD_PARTS_FROM:W.KeysLit w.params es_PARTS_FROM.toList)(pD_PARTS_FROM:Paired (λ(p:Str×V) (e:DictEntry)=>(∃t,e.key=.str p.1 t)/\RelV p.2 e.val) _P.PF es_PARTS_FROM.toList)(oD_PARTS_FROM:(pf_PARTS_FROM==sysModules)=false)
  (aD_SIGN_ROWS:W.nsIn Z mainGlobals "SIGN_ROWS"=some (some (.ref pf_SIGN_ROWS)))(lD_SIGN_ROWS:Z.lookup pf_SIGN_ROWS=some ⟨.type "dict",none,.dict es_SIGN_ROWS nes_SIGN_ROWS, #[]⟩)(kD_SIGN_ROWS:W.KeysLit w.params es_SIGN_ROWS.toList)(pD_SIGN_ROWS:Paired (λ(p:Str×V) (e:DictEntry)=>(∃t,e.key=.str p.1 t)/\RelV p.2 e.val) _P.SR es_SIGN_ROWS.toList)(oD_SIGN_ROWS:(pf_SIGN_ROWS==sysModules)=false)
  {p_JUMPS:Addr}{o_JUMPS:Option Addr}{i_JUMPS:Array Value}{n_JUMPS:Nat}{s_JUMPS:Array (Option Value)}
  (aW_JUMPS:W.nsIn Z mainGlobals "JUMPS"=some (some (.ref p_JUMPS)))(lW_JUMPS:Z.lookup p_JUMPS=some ⟨.type "tuple",o_JUMPS,.seq i_JUMPS n_JUMPS,s_JUMPS⟩)(zW_JUMPS:i_JUMPS.size<=sizeLine)(vW_JUMPS:Vals [V.str "skip",V.str "unless"] i_JUMPS.toList)
  {p_LEAVING:Addr}{o_LEAVING:Option Addr}{i_LEAVING:Array Value}{n_LEAVING:Nat}{s_LEAVING:Array (Option Value)}
  (aW_LEAVING:W.nsIn Z mainGlobals "LEAVING"=some (some (.ref p_LEAVING)))(lW_LEAVING:Z.lookup p_LEAVING=some ⟨.type "tuple",o_LEAVING,.seq i_LEAVING n_LEAVING,s_LEAVING⟩)(zW_LEAVING:i_LEAVING.size<=sizeLine)(vW_LEAVING:Vals [V.str "skip",V.str "back"] i_LEAVING.toList)
  {p_NOTHING_FOLDED:Addr}{o_NOTHING_FOLDED:Option Addr}{i_NOTHING_FOLDED:Array Value}{n_NOTHING_FOLDED:Nat}{s_NOTHING_FOLDED:Array (Option Value)}
  (aW_NOTHING_FOLDED:W.nsIn Z mainGlobals "NOTHING_FOLDED"=some (some (.ref p_NOTHING_FOLDED)))(lW_NOTHING_FOLDED:Z.lookup p_NOTHING_FOLDED=some ⟨.type "tuple",o_NOTHING_FOLDED,.seq i_NOTHING_FOLDED n_NOTHING_FOLDED,s_NOTHING_FOLDED⟩)(zW_NOTHING_FOLDED:i_NOTHING_FOLDED.size<=sizeLine)(vW_NOTHING_FOLDED:Vals [V.int 0,V.non] i_NOTHING_FOLDED.toList)
  (aC:W.nsIn Z mainGlobals "Cells"=some (some (.ref C)))
  (aM0:W.findIn Z (.ref C) "put"=some (some (.ref fM0)))(lM0:Z.lookup fM0=some ⟨ocM0,odM0,.func (W.fnOf "put" "Cells.put" (D1 _C.s_put) (C7 _C.s_put) (A9 _C.s_put) .none kVM0 dcM0 pmM0 anM0 cdM0 ctM0),slM0⟩)(cM0:W.codeIn Z cdM0 "Cells.put"=true)(kM0:W.keepIn Z (.ref fM0)=true)(jM0:W.isFn Z (.ref fM0)=true)
  (aM1:W.findIn Z (.ref C) "at"=some (some (.ref fM1)))(lM1:Z.lookup fM1=some ⟨ocM1,odM1,.func (W.fnOf "at" "Cells.at" (D1 _C.s_at) (C7 _C.s_at) (A9 _C.s_at) .none kVM1 dcM1 pmM1 anM1 cdM1 ctM1),slM1⟩)(cM1:W.codeIn Z cdM1 "Cells.at"=true)(kM1:W.keepIn Z (.ref fM1)=true)(jM1:W.isFn Z (.ref fM1)=true)
  (aM2:W.findIn Z (.ref C) "many"=some (some (.ref fM2)))(lM2:Z.lookup fM2=some ⟨ocM2,odM2,.func (W.fnOf "many" "Cells.many" (D1 _C.s_many) (C7 _C.s_many) (A9 _C.s_many) .none kVM2 dcM2 pmM2 anM2 cdM2 ctM2),slM2⟩)(cM2:W.codeIn Z cdM2 "Cells.many"=true)(kM2:W.keepIn Z (.ref fM2)=true)(jM2:W.isFn Z (.ref fM2)=true)
  (aM3:W.findIn Z (.ref C) "told"=some (some (.ref fM3)))(lM3:Z.lookup fM3=some ⟨ocM3,odM3,.func (W.fnOf "told" "Cells.told" (D1 _C.s_told) (C7 _C.s_told) (A9 _C.s_told) .none kVM3 dcM3 pmM3 anM3 cdM3 ctM3),slM3⟩)(cM3:W.codeIn Z cdM3 "Cells.told"=true)(kM3:W.keepIn Z (.ref fM3)=true)(jM3:W.isFn Z (.ref fM3)=true)
  (aI:W.findIn Z (.ref C) "__init__"=some (some (.ref fI)))(lI:Z.lookup fI=some ⟨ocI,odI,.func (W.fnOf "__init__" "Cells.__init__" (D1 _C.s_init) (C7 _C.s_init) (A9 _C.s_init) .none kVI dcI pmI anI cdI ctI),slI⟩)(cI:W.codeIn Z cdI "Cells.__init__"=true)(kI:W.keepIn Z (.ref fI)=true)(jI:W.isFn Z (.ref fI)=true)
  (pg:W.plainGet Z C Str.empty=true)(hd:W.hasDictIn Z C=true)(po:W.plainOver Z C=true)(sa:W.findIn Z (.ref C) "__setattr__"=some (some (.builtin "object.__setattr__")))(mk:W.makesIn Z C=true)(kc:W.keepIn Z (.ref C)=true)(ni:W.findIn Z (.ref C) "in_order"=some none)
  {CM:Addr}{g0 g1 g2 g3 g4 g5 g6 g7 g8 g9 g10 g11 g12 g13:Addr}{h0 h1 h2 h3 h4 h5 h6 h7 h8 h9 h10 h11 h12 h13:FuncData}{gI:Addr}{hI:FuncData}
  (aQ2:W.nsIn Z mainGlobals "Machine"=some (some (.ref CM)))
  (mm0:MethAt Z CM "step" "Machine.step" _M.s_step g0 h0)
  (mm1:MethAt Z CM "go_on" "Machine.go_on" _M.s_go_on g1 h1)
  (mm2:MethAt Z CM "enter" "Machine.enter" _M.s_enter g2 h2)
  (mm3:MethAt Z CM "leave" "Machine.leave" _M.s_leave g3 h3)
  (mm4:MethAt Z CM "end" "Machine.end" _M.s_end g4 h4)
  (mm5:MethAt Z CM "collect" "Machine.collect" _F.s_collect g5 h5)
  (mm6:MethAt Z CM "hung_on" "Machine.hung_on" _F.s_hung_on g6 h6)
  (mm7:MethAt Z CM "hang_on" "Machine.hang_on" _F.s_hang_on g7 h7)
  (mm8:MethAt Z CM "has_value" "Machine.has_value" _M.s_has_value g8 h8)
  (mm9:MethAt Z CM "answer" "Machine.answer" _M.s_answer g9 h9)
  (mm10:MethAt Z CM "frames" "Machine.frames" _M.s_frames g10 h10)
  (mm11:MethAt Z CM "cells" "Machine.cells" _M.s_cells g11 h11)
  (mm12:MethAt Z CM "rows_done" "Machine.rows_done" _M.s_rows_done g12 h12)
  (mm13:MethAt Z CM "calls" "Machine.calls" _M.s_calls g13 h13)
  (mmI:MethAt Z CM "__init__" "Machine.__init__" _M.s_minit gI hI)
  (pg2:W.plainGet Z CM Str.empty=true)(hd2:W.hasDictIn Z CM=true)(po2:W.plainOver Z CM=true)(sa2:W.findIn Z (.ref CM) "__setattr__"=some (some (.builtin "object.__setattr__")))(mk2:W.makesIn Z CM=true)(kc2:W.keepIn Z (.ref CM)=true)(n1_2:W.findIn Z (.ref CM) "blocks"=some none)(n2_2:W.findIn Z (.ref CM) "most"=some none)(n3_2:W.findIn Z (.ref CM) "store"=some none)(n4_2:W.findIn Z (.ref CM) "standing"=some none)(n5_2:W.findIn Z (.ref CM) "outcome"=some none)(n6_2:W.findIn Z (.ref CM) "rows_so_far"=some none)(n7_2:W.findIn Z (.ref CM) "calls_so_far"=some none)
  (z_len:W.nsIn Z mainGlobals "len"=some none)
  (z_list:W.nsIn Z mainGlobals "list"=some none)
  (z_range:W.nsIn Z mainGlobals "range"=some none)
  (z_isinstance:W.nsIn Z mainGlobals "isinstance"=some none)
  (z_str:W.nsIn Z mainGlobals "str"=some none)
  (z_tuple:W.nsIn Z mainGlobals "tuple"=some none)
  (z_int:W.nsIn Z mainGlobals "int"=some none)
  (z_bool:W.nsIn Z mainGlobals "bool"=some none)
  (z_all:W.nsIn Z mainGlobals "all"=some none)
  (z_reversed:W.nsIn Z mainGlobals "reversed"=some none)
  (z_zip:W.nsIn Z mainGlobals "zip"=some none)
  (z_sum:W.nsIn Z mainGlobals "sum"=some none)
  (z_max:W.nsIn Z mainGlobals "max"=some none)
  (z_min:W.nsIn Z mainGlobals "min"=some none)
  (z_enumerate:W.nsIn Z mainGlobals "enumerate"=some none)
  (z_abs:W.nsIn Z mainGlobals "abs"=some none)
  (z_dict:W.nsIn Z mainGlobals "dict"=some none)(hcode0:cd34=.ref c):
  ∃fd:FuncData,(∀(s:Shared) (v:Value),BindsTo s fd ⟨[v],[]⟩ [("_law_script",v)])/\∀qB:Heap,Z.In qB->qB.Ns mainGlobals mg->TabsB [(c,Pt)] mg qB->FnOk l.prog w Z mg qB CX0 18 fa fd ["_law_script"] (QB Z Pt):=by
 have e:=hfa.symm.trans (mg_of X G a63);cases e;have B:_C.NoG mg:=⟨mg_none_of X G z_len,mg_none_of X G z_list,mg_none_of X G z_range,mg_none_of X G z_isinstance,mg_none_of X G z_str,mg_none_of X G z_tuple,mg_none_of X G z_int,mg_none_of X G z_bool,mg_none_of X G z_all⟩;have B3:_B.NoG mg:=⟨mg_none_of X G z_len,mg_none_of X G z_list,mg_none_of X G z_reversed,mg_none_of X G z_range,mg_none_of X G z_zip,mg_none_of X G z_isinstance,mg_none_of X G z_str,mg_none_of X G z_tuple,mg_none_of X G z_sum,mg_none_of X G z_max,mg_none_of X G z_min,mg_none_of X G z_int,mg_none_of X G z_bool,mg_none_of X G z_enumerate,mg_none_of X G z_all⟩;have BM:_N.NoG mg:=⟨mg_none_of X G z_len,mg_none_of X G z_min,mg_none_of X G z_abs,mg_none_of X G z_isinstance,mg_none_of X G z_tuple,mg_none_of X G z_int,mg_none_of X G z_bool⟩;have BJ:_J.NoG mg:=⟨mg_none_of X G z_len,mg_none_of X G z_list,mg_none_of X G z_range,mg_none_of X G z_reversed,mg_none_of X G z_enumerate,mg_none_of X G z_isinstance,mg_none_of X G z_tuple,mg_none_of X G z_int,mg_none_of X G z_bool,mg_none_of X G z_dict,mg_none_of X G z_min⟩;have m_GREATEST:=mg_of X G e_GREATEST;have m_MOST_FOLDED:=mg_of X G e_MOST_FOLDED;have TD_ROW_SIGNS:TopD w Z pf_ROW_SIGNS _C.RS:=⟨⟨es_ROW_SIGNS,nes_ROW_SIGNS,lD_ROW_SIGNS,kD_ROW_SIGNS,pD_ROW_SIGNS⟩,oD_ROW_SIGNS⟩;have m_ROW_SIGNS:=mg_of X G aD_ROW_SIGNS;have TD_PARTS_FROM:TopD w Z pf_PARTS_FROM _P.PF:=⟨⟨es_PARTS_FROM,nes_PARTS_FROM,lD_PARTS_FROM,kD_PARTS_FROM,pD_PARTS_FROM⟩,oD_PARTS_FROM⟩;have m_PARTS_FROM:=mg_of X G aD_PARTS_FROM;have TD_SIGN_ROWS:TopD w Z pf_SIGN_ROWS _P.SR:=⟨⟨es_SIGN_ROWS,nes_SIGN_ROWS,lD_SIGN_ROWS,kD_SIGN_ROWS,pD_SIGN_ROWS⟩,oD_SIGN_ROWS⟩;have m_SIGN_ROWS:=mg_of X G aD_SIGN_ROWS;have T_JUMPS:∀H:Hp,SqT Z H p_JUMPS [V.str "skip",V.str "unless"]:=λH=> .inr ⟨_,i_JUMPS,n_JUMPS,lW_JUMPS,rfl,rfl,zW_JUMPS,vW_JUMPS⟩;have m_JUMPS:=mg_of X G aW_JUMPS;have T_LEAVING:∀H:Hp,SqT Z H p_LEAVING [V.str "skip",V.str "back"]:=λH=> .inr ⟨_,i_LEAVING,n_LEAVING,lW_LEAVING,rfl,rfl,zW_LEAVING,vW_LEAVING⟩;have m_LEAVING:=mg_of X G aW_LEAVING;have T_NOTHING_FOLDED:∀H:Hp,SqT Z H p_NOTHING_FOLDED [V.int 0,V.non]:=λH=> .inr ⟨_,i_NOTHING_FOLDED,n_NOTHING_FOLDED,lW_NOTHING_FOLDED,rfl,rfl,zW_NOTHING_FOLDED,vW_NOTHING_FOLDED⟩;have m_NOTHING_FOLDED:=mg_of X G aW_NOTHING_FOLDED;have F22:=d22.fn;have b22:=bn3 (ps:=["root","parts_in","made"]) F22 rfl λ_ _ _ _ _ _ _ _ _=>rfl;have m22:=mg_of X G d22.ns;have k22:=d22.kp;have F33:=d33.fn;have b33:=bn1 (ps:=["value"]) F33 rfl λ_ _ _ _ _ _ _=>rfl;have m33:=mg_of X G d33.ns;have k33:=d33.kp;have F35:=d35.fn;have b35:=bn2 (ps:=["cells","value"]) F35 rfl λ_ _ _ _ _ _ _ _=>rfl;have m35:=mg_of X G d35.ns;have k35:=d35.kp;have F36:=d36.fn;have b36:=bn2 (ps:=["value","heads"]) F36 rfl λ_ _ _ _ _ _ _ _=>rfl;have m36:=mg_of X G d36.ns;have k36:=d36.kp;have F39:=d39.fn;have b39:=bn3 (ps:=["frame","many_taken","values"]) F39 rfl λ_ _ _ _ _ _ _ _ _=>rfl;have m39:=mg_of X G d39.ns;have k39:=d39.kp;have F40:=d40.fn;have b40:=bn2 (ps:=["frame","sign"]) F40 rfl λ_ _ _ _ _ _ _ _=>rfl;have m40:=mg_of X G d40.ns;have k40:=d40.kp;have F41:=d41.fn;have b41:=bn3 (ps:=["cells","frame","word"]) F41 rfl λ_ _ _ _ _ _ _ _ _=>rfl;have m41:=mg_of X G d41.ns;have k41:=d41.kp;have F42:=d42.fn;have b42:=bn3 (ps:=["cells","frame","row"]) F42 rfl λ_ _ _ _ _ _ _ _ _=>rfl;have m42:=mg_of X G d42.ns;have k42:=d42.kp;have F43:=d43.fn;have b43:=bn2 (ps:=["frame","row"]) F43 rfl λ_ _ _ _ _ _ _ _=>rfl;have m43:=mg_of X G d43.ns;have k43:=d43.kp;have F46:=d46.fn;have b46:=bn2 (ps:=["frame","row"]) F46 rfl λ_ _ _ _ _ _ _ _=>rfl;have m46:=mg_of X G d46.ns;have k46:=d46.kp;have F47:=d47.fn;have b47:=bn2 (ps:=["_law_script","_law_k"]) F47 rfl λ_ _ _ _ _ _ _ _=>rfl;have m47:=mg_of X G d47.ns;have k47:=d47.kp;have F48:=d48.fn;have b48:=bn1 (ps:=["_law_cell"]) F48 rfl λ_ _ _ _ _ _ _=>rfl;have m48:=mg_of X G d48.ns;have k48:=d48.kp;have F49:=d49.fn;have b49:=bn1 (ps:=["_law_cells"]) F49 rfl λ_ _ _ _ _ _ _=>rfl;have m49:=mg_of X G d49.ns;have k49:=d49.kp;have F50:=d50.fn;have b50:=bn3 (ps:=["_law_cell","_law_kind","_law_slots"]) F50 rfl λ_ _ _ _ _ _ _ _ _=>rfl;have m50:=mg_of X G d50.ns;have k50:=d50.kp;have F51:=d51.fn;have b51:=bn5 (ps:=["_law_cells","_law_deep","_law_kind","_law_slots","_law_more"]) F51 rfl λ_ _ _ _ _ _ _ _ _ _ _=>rfl;have m51:=mg_of X G d51.ns;have k51:=d51.kp;have F52:=d52.fn;have b52:=bn4 (ps:=["_law_cells","_law_deep","_law_kind","_law_slots"]) F52 rfl λ_ _ _ _ _ _ _ _ _ _=>rfl;have m52:=mg_of X G d52.ns;have k52:=d52.kp;have F53:=d53.fn;have b53:=bn2 (ps:=["_law_cell","_law_many"]) F53 rfl λ_ _ _ _ _ _ _ _=>rfl;have m53:=mg_of X G d53.ns;have k53:=d53.kp;have F54:=d54.fn;have b54:=bn3 (ps:=["_law_cell","_law_many","_law_slot"]) F54 rfl λ_ _ _ _ _ _ _ _ _=>rfl;have m54:=mg_of X G d54.ns;have k54:=d54.kp;have F55:=d55.fn;have b55:=bn3 (ps:=["_law_script","_law_kind","_law_many"]) F55 rfl λ_ _ _ _ _ _ _ _ _=>rfl;have m55:=mg_of X G d55.ns;have k55:=d55.kp;have F56:=d56.fn;have b56:=bn2 (ps:=["_law_rows","_law_count"]) F56 rfl λ_ _ _ _ _ _ _ _=>rfl;have m56:=mg_of X G d56.ns;have k56:=d56.kp;have F57:=d57.fn;have b57:=bn1 (ps:=["_law_rows"]) F57 rfl λ_ _ _ _ _ _ _=>rfl;have m57:=mg_of X G d57.ns;have k57:=d57.kp;have F58:=d58.fn;have b58:=bn1 (ps:=["_law_row"]) F58 rfl λ_ _ _ _ _ _ _=>rfl;have m58:=mg_of X G d58.ns;have k58:=d58.kp;have F59:=d59.fn;have b59:=bn3 (ps:=["_law_word","_law_a","_law_b"]) F59 rfl λ_ _ _ _ _ _ _ _ _=>rfl;have m59:=mg_of X G d59.ns;have k59:=d59.kp;have F60:=d60.fn;have b60:=bn3 (ps:=["_law_rows","_law_led_here","_law_at"]) F60 rfl λ_ _ _ _ _ _ _ _ _=>rfl;have m60:=mg_of X G d60.ns;have k60:=d60.kp;have F61:=d61.fn;have b61:=bn4 (ps:=["_law_rows","_law_count","_law_size_here","_law_numbers"]) F61 rfl λ_ _ _ _ _ _ _ _ _ _=>rfl;have m61:=mg_of X G d61.ns;have k61:=d61.kp;have F62:=d62.fn;have b62:=bn2 (ps:=["_law_one","_law_other"]) F62 rfl λ_ _ _ _ _ _ _ _=>rfl;have m62:=mg_of X G d62.ns;have k62:=d62.kp;have F34:=Q9 (st:=_Q.s_plain) l34 c34 k34;have b34:=bn2 (ps:=["cells","value"]) F34 rfl λ_ _ _ _ _ _ _ _=>rfl;have m34:=mg_of X G a34;have F63:=Q9 (st:=_F.s_law) l63 c63 k63;have b63:=bn1 (ps:=["_law_script"]) F63 rfl λ_ _ _ _ _ _ _=>rfl;have m63:=mg_of X G a63;have FM0:=Q9 (st:=_C.s_put) lM0 cM0 kM0;have bM0:=bn2 (ps:=["self","cell"]) FM0 rfl λ_ _ _ _ _ _ _ _=>rfl;have FM1:=Q9 (st:=_C.s_at) lM1 cM1 kM1;have bM1:=bn2 (ps:=["self","value"]) FM1 rfl λ_ _ _ _ _ _ _ _=>rfl;have FM2:=Q9 (st:=_C.s_many) lM2 cM2 kM2;have bM2:=bn1 (ps:=["self"]) FM2 rfl λ_ _ _ _ _ _ _=>rfl;have FM3:=Q9 (st:=_C.s_told) lM3 cM3 kM3;have bM3:=bn1 (ps:=["self"]) FM3 rfl λ_ _ _ _ _ _ _=>rfl;have FI:=Q9 (st:=_C.s_init) lI cI kI;have bI:=bn1 (ps:=["self"]) FI rfl λ_ _ _ _ _ _ _=>rfl;obtain⟨mf,md,u0,u1,u2,u3,v0,v1,v2,v3⟩:=fGZ fM0 fM1 fM2 fM3 (W.fnOf "put" "Cells.put" (D1 _C.s_put) (C7 _C.s_put) (A9 _C.s_put) .none kVM0 dcM0 pmM0 anM0 cdM0 ctM0) (W.fnOf "at" "Cells.at" (D1 _C.s_at) (C7 _C.s_at) (A9 _C.s_at) .none kVM1 dcM1 pmM1 anM1 cdM1 ctM1) (W.fnOf "many" "Cells.many" (D1 _C.s_many) (C7 _C.s_many) (A9 _C.s_many) .none kVM2 dcM2 pmM2 anM2 cdM2 ctM2) (W.fnOf "told" "Cells.told" (D1 _C.s_told) (C7 _C.s_told) (A9 _C.s_told) .none kVM3 dcM3 pmM3 anM3 cdM3 ctM3);have R0:Fun Z "put" "Cells.put" _C.s_put (mf "put") (md "put"):=by rw[u0,v0];exact FM0
 have w0:Meth Z C "put" (mf "put"):=by rw[u0];exact⟨aM0,jM0,kM0⟩
 have y100:Binds Z (md "put") ["self","cell"] []:=by rw[v0];exact bM0
 have R1:Fun Z "at" "Cells.at" _C.s_at (mf "at") (md "at"):=by rw[u1,v1];exact FM1
 have w1:Meth Z C "at" (mf "at"):=by rw[u1];exact⟨aM1,jM1,kM1⟩
 have y101:Binds Z (md "at") ["self","value"] []:=by rw[v1];exact bM1
 have R2:Fun Z "many" "Cells.many" _C.s_many (mf "many") (md "many"):=by rw[u2,v2];exact FM2
 have w2:Meth Z C "many" (mf "many"):=by rw[u2];exact⟨aM2,jM2,kM2⟩
 have y102:Binds Z (md "many") ["self"] []:=by rw[v2];exact bM2
 have R3:Fun Z "told" "Cells.told" _C.s_told (mf "told") (md "told"):=by rw[u3,v3];exact FM3
 have w3:Meth Z C "told" (mf "told"):=by rw[u3];exact⟨aM3,jM3,kM3⟩
 have y103:Binds Z (md "told") ["self"] []:=by rw[v3];exact bM3
 have RC:_C.RCls Z C mf md:={cl:=⟨pg,hd,po,sa⟩,ni:=ni,m_put:=w0,m_at:=w1,m_many:=w2,m_told:=w3,b_put:=y100,b_at:=y101,b_many:=y102,b_told:=y103};have Fm0:=mm0.fn;have bm0:=bn1 (ps:=["self"]) Fm0 rfl λ_ _ _ _ _ _ _=>rfl;have Fm1:=mm1.fn;have bm1:=bn2 (ps:=["self","told"]) Fm1 rfl λ_ _ _ _ _ _ _ _=>rfl;have Fm2:=mm2.fn;have bm2:=bn3 (ps:=["self","frame","row"]) Fm2 rfl λ_ _ _ _ _ _ _ _ _=>rfl;have Fm3:=mm3.fn;have bm3:=bn2 (ps:=["self","value"]) Fm3 rfl λ_ _ _ _ _ _ _ _=>rfl;have Fm4:=mm4.fn;have bm4:=bn2 (ps:=["self","outcome"]) Fm4 rfl λ_ _ _ _ _ _ _ _=>rfl;have Fm5:=mm5.fn;have bm5:=bn1 (ps:=["self"]) Fm5 rfl λ_ _ _ _ _ _ _=>rfl;have Fm6:=mm6.fn;have bm6:=bn1 (ps:=["self"]) Fm6 rfl λ_ _ _ _ _ _ _=>rfl;have Fm7:=mm7.fn;have bm7:=bn2 (ps:=["self","values"]) Fm7 rfl λ_ _ _ _ _ _ _ _=>rfl;have Fm8:=mm8.fn;have bm8:=bn1 (ps:=["self"]) Fm8 rfl λ_ _ _ _ _ _ _=>rfl;have Fm9:=mm9.fn;have bm9:=bn1 (ps:=["self"]) Fm9 rfl λ_ _ _ _ _ _ _=>rfl;have Fm10:=mm10.fn;have bm10:=bn1 (ps:=["self"]) Fm10 rfl λ_ _ _ _ _ _ _=>rfl;have Fm11:=mm11.fn;have bm11:=bn1 (ps:=["self"]) Fm11 rfl λ_ _ _ _ _ _ _=>rfl;have Fm12:=mm12.fn;have bm12:=bn1 (ps:=["self"]) Fm12 rfl λ_ _ _ _ _ _ _=>rfl;have Fm13:=mm13.fn;have bm13:=bn1 (ps:=["self"]) Fm13 rfl λ_ _ _ _ _ _ _=>rfl;have FmI:=mmI.fn;have bmI:=bn5 (ps:=["self","blocks","main","numbers","most"]) FmI rfl λ_ _ _ _ _ _ _ _ _ _ _=>rfl;obtain⟨gf,gd,uu0,uu1,uu2,uu3,uu4,uu5,uu6,uu7,uu8,uu9,uu10,uu11,uu12,uu13,vv0,vv1,vv2,vv3,vv4,vv5,vv6,vv7,vv8,vv9,vv10,vv11,vv12,vv13⟩:=enZ g0 g1 g2 g3 g4 g5 g6 g7 g8 g9 g10 g11 g12 g13 h0 h1 h2 h3 h4 h5 h6 h7 h8 h9 h10 h11 h12 h13;have RM_step:Fun Z "step" "Machine.step" _M.s_step (gf "step") (gd "step"):=by rw[uu0,vv0];exact Fm0
 have ww0:Meth Z CM "step" (gf "step"):=by rw[uu0];exact mm0.me
 have yy0:Binds Z (gd "step") ["self"] []:=by rw[vv0];exact bm0
 have RM_go_on:Fun Z "go_on" "Machine.go_on" _M.s_go_on (gf "go_on") (gd "go_on"):=by rw[uu1,vv1];exact Fm1
 have ww1:Meth Z CM "go_on" (gf "go_on"):=by rw[uu1];exact mm1.me
 have yy1:Binds Z (gd "go_on") ["self","told"] []:=by rw[vv1];exact bm1
 have RM_enter:Fun Z "enter" "Machine.enter" _M.s_enter (gf "enter") (gd "enter"):=by rw[uu2,vv2];exact Fm2
 have ww2:Meth Z CM "enter" (gf "enter"):=by rw[uu2];exact mm2.me
 have yy2:Binds Z (gd "enter") ["self","frame","row"] []:=by rw[vv2];exact bm2
 have RM_leave:Fun Z "leave" "Machine.leave" _M.s_leave (gf "leave") (gd "leave"):=by rw[uu3,vv3];exact Fm3
 have ww3:Meth Z CM "leave" (gf "leave"):=by rw[uu3];exact mm3.me
 have yy3:Binds Z (gd "leave") ["self","value"] []:=by rw[vv3];exact bm3
 have RM_end:Fun Z "end" "Machine.end" _M.s_end (gf "end") (gd "end"):=by rw[uu4,vv4];exact Fm4
 have ww4:Meth Z CM "end" (gf "end"):=by rw[uu4];exact mm4.me
 have yy4:Binds Z (gd "end") ["self","outcome"] []:=by rw[vv4];exact bm4
 have RM_collect:Fun Z "collect" "Machine.collect" _F.s_collect (gf "collect") (gd "collect"):=by rw[uu5,vv5];exact Fm5
 have ww5:Meth Z CM "collect" (gf "collect"):=by rw[uu5];exact mm5.me
 have yy5:Binds Z (gd "collect") ["self"] []:=by rw[vv5];exact bm5
 have RM_hung_on:Fun Z "hung_on" "Machine.hung_on" _F.s_hung_on (gf "hung_on") (gd "hung_on"):=by rw[uu6,vv6];exact Fm6
 have ww6:Meth Z CM "hung_on" (gf "hung_on"):=by rw[uu6];exact mm6.me
 have yy6:Binds Z (gd "hung_on") ["self"] []:=by rw[vv6];exact bm6
 have RM_hang_on:Fun Z "hang_on" "Machine.hang_on" _F.s_hang_on (gf "hang_on") (gd "hang_on"):=by rw[uu7,vv7];exact Fm7
 have ww7:Meth Z CM "hang_on" (gf "hang_on"):=by rw[uu7];exact mm7.me
 have yy7:Binds Z (gd "hang_on") ["self","values"] []:=by rw[vv7];exact bm7
 have RM_has_value:Fun Z "has_value" "Machine.has_value" _M.s_has_value (gf "has_value") (gd "has_value"):=by rw[uu8,vv8];exact Fm8
 have ww8:Meth Z CM "has_value" (gf "has_value"):=by rw[uu8];exact mm8.me
 have yy8:Binds Z (gd "has_value") ["self"] []:=by rw[vv8];exact bm8
 have RM_answer:Fun Z "answer" "Machine.answer" _M.s_answer (gf "answer") (gd "answer"):=by rw[uu9,vv9];exact Fm9
 have ww9:Meth Z CM "answer" (gf "answer"):=by rw[uu9];exact mm9.me
 have yy9:Binds Z (gd "answer") ["self"] []:=by rw[vv9];exact bm9
 have RM_frames:Fun Z "frames" "Machine.frames" _M.s_frames (gf "frames") (gd "frames"):=by rw[uu10,vv10];exact Fm10
 have ww10:Meth Z CM "frames" (gf "frames"):=by rw[uu10];exact mm10.me
 have yy10:Binds Z (gd "frames") ["self"] []:=by rw[vv10];exact bm10
 have RM_cells:Fun Z "cells" "Machine.cells" _M.s_cells (gf "cells") (gd "cells"):=by rw[uu11,vv11];exact Fm11
 have ww11:Meth Z CM "cells" (gf "cells"):=by rw[uu11];exact mm11.me
 have yy11:Binds Z (gd "cells") ["self"] []:=by rw[vv11];exact bm11
 have RM_rows_done:Fun Z "rows_done" "Machine.rows_done" _M.s_rows_done (gf "rows_done") (gd "rows_done"):=by rw[uu12,vv12];exact Fm12
 have ww12:Meth Z CM "rows_done" (gf "rows_done"):=by rw[uu12];exact mm12.me
 have yy12:Binds Z (gd "rows_done") ["self"] []:=by rw[vv12];exact bm12
 have RM_calls:Fun Z "calls" "Machine.calls" _M.s_calls (gf "calls") (gd "calls"):=by rw[uu13,vv13];exact Fm13
 have ww13:Meth Z CM "calls" (gf "calls"):=by rw[uu13];exact mm13.me
 have yy13:Binds Z (gd "calls") ["self"] []:=by rw[vv13];exact bm13
 have RM:_M.MCls Z CM gf gd:={cl:=⟨pg2,hd2,po2,sa2⟩,n1:=n1_2,n2:=n2_2,n3:=n3_2,n4:=n4_2,n5:=n5_2,n6:=n6_2,n7:=n7_2,m_step:=ww0,m_go_on:=ww1,m_enter:=ww2,m_leave:=ww3,m_end:=ww4,m_collect:=ww5,m_hung_on:=ww6,m_hang_on:=ww7,m_has_value:=ww8,m_answer:=ww9,m_frames:=ww10,m_cells:=ww11,m_rows_done:=ww12,m_calls:=ww13,b_step:=yy0,b_go_on:=yy1,b_enter:=yy2,b_leave:=yy3,b_end:=yy4,b_collect:=yy5,b_hung_on:=yy6,b_hang_on:=yy7,b_has_value:=yy8,b_answer:=yy9,b_frames:=yy10,b_cells:=yy11,b_rows_done:=yy12,b_calls:=yy13};have MKM:Mk Z CM gI:=⟨mk2,mmI.me.1,mmI.me.2,kc2⟩;have m_Machine:=mg_of X G aQ2;refine⟨W.fnOf "law" "law" (D1 s_law) (C7 s_law) (A9 s_law) .none kV63 dc63 pm63 an63 cd63 ct63,λs v=> .of_eq rfl,λqB _ _ tbx=> ?_⟩;have hcode:=hcode0;have GM_init:=_C.ok_init (P:=l.prog) (w:=w) (mg:=mg) (qB:=qB) FI RC;have BL:_F.NoL mg:={B3 with abs_:=BM.abs_};have GA:=λ(b:Heap)=>_C.ok_at (P:=l.prog) (w:=w) (mg:=mg) (qB:=b) R1 RC;have MKC:Mk Z C fI:=⟨mk,aI,jI,kc⟩;have m_Cells:=mg_of X G aC;have G_isP:=λ(b:Heap)=>_Q.ok_is_cell (P:=l.prog) (w:=w) (mg:=mg) (qB:=b) F33 B;have GV:=_Q.ok_plain (P:=l.prog) (w:=w) (mg:=mg) (qB:=qB) F34 hcode (tbx.code _ (List.mem_singleton.mpr rfl)) (tbx.blt _ (List.mem_singleton.mpr rfl)) (λb=>_B.ok_built_up (P:=l.prog) (w:=w) (mg:=mg) (qB:=b) F22 B3) m22 k22 b22 (λb=>_Q.ok_heads_of (P:=l.prog) (w:=w) (mg:=mg) (qB:=b) F35 RC (λk=>(GA b).mono (by omega)) (G_isP b) m33 k33 b33) m35 k35 b35 (λb o L us O=>_Q.ok_with_heads (P:=l.prog) (w:=w) (mg:=mg) (qB:=b) F36 (G_isP b) m33 k33 b33) m36 k36 b36;have G_quo:=d8.c2 X G (_N.ok_quotient_told (P:=l.prog) (w:=w) (mg:=mg) (qB:=qB) d8.fn);have G_out:=d9.c3 X G (_N.ok_outcome (P:=l.prog) (w:=w) (mg:=mg) (qB:=qB) d9.fn);have G_bnd:=d10.c1 X G (_N.ok_bounded (P:=l.prog) (w:=w) (mg:=mg) (qB:=qB) d10.fn BM m_GREATEST);have G_two:=d7.c3 X G (_N.ok_two_told d7.fn G_quo G_out G_bnd);have G_ent:=d37.c3 X G (_C.ok_entered (P:=l.prog) (w:=w) (mg:=mg) (qB:=qB) d37.fn B);have G_beh:=_C.ok_behind (P:=l.prog) (w:=w) (mg:=mg) (qB:=qB) F39 B;have G_td:=_C.ok_two_done F40 G_two ⟨_,_,G_beh,b39,k39,m39⟩;have G_ws:=d44.c3 X G (_C.ok_with_slot (P:=l.prog) (w:=w) (mg:=mg) (qB:=qB) d44.fn);have G_fu:=d45.c2 X G (_C.ok_further (P:=l.prog) (w:=w) (mg:=mg) (qB:=qB) d45.fn);have G_np:=_C.ok_with_nothing_put F43 ⟨_,_,G_beh,b39,k39,m39⟩ G_ws G_fu;have G_vp:=_C.ok_value_put (P:=l.prog) (w:=w) (mg:=mg) (qB:=qB) F46;have G_pd:FnOk l.prog w Z mg qB CX0 2 f41 e41 ["cells","frame","word"] _C.spVoid:=_C.ok_void;have G_nc:FnOk l.prog w Z mg qB CX0 2 f42 e42 ["cells","frame","row"] _C.spVoid:=_C.ok_void;have G_own:=d38.c3 X G (_C.ok_own_done (C:=C) d38.fn TD_ROW_SIGNS m_ROW_SIGNS G_td b40 k40 m40 G_pd b41 k41 m41 G_nc b42 k42 m42 G_np b43 k43 m43 G_vp b46 k46 m46 G_beh b39 k39 m39);have N_end:=_M.ok_end (P:=l.prog) (w:=w) (mg:=mg) (qB:=qB) (C:=C) RM_end RM;have N_hv:=_M.ok_has_value (P:=l.prog) (w:=w) (mg:=mg) (qB:=qB) RM_has_value RM;have N_go:=_M.ok_go_on RM_go_on RM N_end;have N_lv:=_M.ok_leave RM_leave B RM N_end;have N_st:=_M.ok_step RM_step RM N_lv _C.ok_void N_go G_own;have N_an:=_M.ok_answer RM_answer RM N_hv ⟨_,_,GV,b34,k34,m34⟩;have N_in:=_M.ok_minit FmI B RM MKC m_Cells GM_init bI G_ent;have G_go:=d0.c1 X G (_J.ok_goals (P:=l.prog) (w:=w) (mg:=mg) (qB:=qB) d0.fn BJ T_JUMPS m_JUMPS);have G_re:=d1.c1 X G (_J.ok_reached d1.fn BJ T_LEAVING m_LEAVING G_go);have G_ng:=d3.c2 X G (_J.ok_new_goal (P:=l.prog) (w:=w) (mg:=mg) (qB:=qB) d3.fn);have G_wg:=d4.c3 X G (_J.ok_with_goal (P:=l.prog) (w:=w) (mg:=mg) (qB:=qB) d4.fn);have G_wo:=d2.c2 X G (_J.ok_without d2.fn BJ G_go G_ng G_wg);have G_ra:=d5.c1 X G (_J.ok_reached_alone d5.fn BJ G_re G_wo);have G_iw:=d6.c1 X G (_F.ok_is_whole (P:=l.prog) (w:=w) (mg:=mg) (qB:=qB) d6.fn BJ);have G_pn:=d20.c1 X G (_F.ok_pushes_number d20.fn G_iw);have G_fl:=d19.c3 X G (_F.ok_folding_of_load (P:=l.prog) (w:=w) (mg:=mg) (qB:=qB) d19.fn T_NOTHING_FOLDED m_NOTHING_FOLDED);have G_ft:=d18.c2 X G (_F.ok_folding_of_truth d18.fn T_NOTHING_FOLDED m_NOTHING_FOLDED G_pn);have G_fn:=d17.c2 X G (_F.ok_folding_of_numbers d17.fn BJ T_NOTHING_FOLDED m_NOTHING_FOLDED G_pn G_two);have G_fg:=d16.c2 X G (_F.ok_folding d16.fn BJ T_NOTHING_FOLDED m_NOTHING_FOLDED TD_ROW_SIGNS m_ROW_SIGNS G_fn G_ft G_fl);have G_ls:=d13.c1 X G (_F.ok_loads_of_slots (P:=l.prog) (w:=w) (mg:=mg) (qB:=qB) d13.fn);have G_ps:=d14.c1 X G (_F.ok_pieces d14.fn BJ G_go);have G_fp:=d15.c3 X G (_F.ok_folded_piece d15.fn BJ m_MOST_FOLDED G_fg);have G_fo:=d12.c1 X G (_F.ok_folded_once d12.fn BJ G_ls G_ps G_fp G_wo G_ra);have G_fd:=d11.c1 X G (_F.ok_folded d11.fn BJ G_fo);have G_bu:=_B.ok_built_up1 (P:=l.prog) (w:=w) (mg:=mg) (qB:=qB) F22 B3;have G_po:=d21.c1 X G (_P.ok_parts_of (P:=l.prog) (w:=w) (mg:=mg) (qB:=qB) d21.fn B3 TD_PARTS_FROM m_PARTS_FROM);have G_pp:=d23.c1 X G (_P.ok_placed_parts d23.fn G_po);have G_wc:=d25.c2 X G (_P.ok_with_count (P:=l.prog) (w:=w) (mg:=mg) (qB:=qB) d25.fn B3);have G_co:=d24.c1 X G (_P.ok_counted d24.fn ⟨_,_,G_bu,b22,k22,m22⟩ G_pp G_wc);have G_lr:=d32.c1 X G (_P.ok_last_row (P:=l.prog) (w:=w) (mg:=mg) (qB:=qB) d32.fn B3 TD_SIGN_ROWS m_SIGN_ROWS);have G_ob:=d31.c1 X G (_P.ok_one_behind_the_other (P:=l.prog) (w:=w) (mg:=mg) (qB:=qB) d31.fn);have G_ri:=d30.c3 X G (_P.ok_rows_of_if (P:=l.prog) (w:=w) (mg:=mg) (qB:=qB) d30.fn B3);have G_np2:=d28.c1 X G (_P.ok_numbered_parts (P:=l.prog) (w:=w) (mg:=mg) (qB:=qB) d28.fn);have G_rw:=d29.c2 X G (_P.ok_rows_with d29.fn B3 G_ri G_ob G_lr);have G_rc:=d27.c2 X G (_P.ok_rows_of_counted d27.fn B3 ⟨_,_,G_bu,b22,k22,m22⟩ G_np2 G_rw);have G_ro:=d26.c2 X G (_P.ok_rows_of d26.fn G_co G_rc);have L_ce:=_F.ok_law_cell_at (P:=l.prog) (w:=w) (mg:=mg) (qB:=qB) F47 BL;have L_nu:=_F.ok_law_number (P:=l.prog) (w:=w) (mg:=mg) (qB:=qB) F48;have L_ne:=_F.ok_law_next (P:=l.prog) (w:=w) (mg:=mg) (qB:=qB) F49;have L_le:=_F.ok_law_leaf F50 BL ⟨_,_,L_nu,b48,k48,m48⟩;have L_te:=_F.ok_law_term (P:=l.prog) (w:=w) (mg:=mg) (qB:=qB) F52 BL b52 k52 m52 ⟨_,_,L_ne,b49,k49,m49⟩ ⟨_,_,L_le,b50,k50,m50⟩ (λn G=>_F.ok_law_own (P:=l.prog) (w:=w) (mg:=mg) (qB:=qB) F51 G b52 k52 m52) b51 k51 m51 7;have L_ts:=_F.ok_law_test F53 ⟨_,_,L_nu,b48,k48,m48⟩;have L_pi:=_F.ok_law_piece F54 ⟨_,_,L_ts,b53,k53,m53⟩;have L_pc:=_F.ok_law_pieces F55 BL ⟨_,_,L_ce,b47,k47,m47⟩ ⟨_,_,L_pi,b54,k54,m54⟩;have L_sz:=_F.ok_law_size (P:=l.prog) (w:=w) (mg:=mg) (qB:=qB) F56 BL;have L_ld:=_F.ok_law_led (P:=l.prog) (w:=w) (mg:=mg) (qB:=qB) F57 BL;have L_in:=_F.ok_law_is_number (P:=l.prog) (w:=w) (mg:=mg) (qB:=qB) F58 BL;have L_gs:=_F.ok_law_goes (P:=l.prog) (w:=w) (mg:=mg) (qB:=qB) F59 BL;have L_kn:=_F.ok_law_known F60 BL ⟨_,_,L_in,b58,k58,m58⟩ ⟨_,_,L_gs,b59,k59,m59⟩;have L_en:=_F.ok_law_ended F61 BL RM MKM m_Machine N_in bmI N_an N_st;have L_sa:=_F.ok_law_same (P:=l.prog) (w:=w) (mg:=mg) (qB:=qB) F62 BL;exact _F.ok_law F63 BL ⟨_,_,L_ce,b47,k47,m47⟩ ⟨_,_,L_nu,b48,k48,m48⟩ ⟨_,_,L_te,b52,k52,m52⟩ ⟨_,_,L_pc,b55,k55,m55⟩ G_ro G_fd ⟨_,_,L_ld,b57,k57,m57⟩ ⟨_,_,L_kn,b60,k60,m60⟩ ⟨_,_,L_sz,b56,k56,m56⟩ ⟨_,_,L_en,b61,k61,m61⟩ ⟨_,_,L_sa,b62,k62,m62⟩
theorem walk{l:W.OpenLaw}{loose:List Str}{XP:(Str->Option Value)->Heap->Prop}{YP:World->Heap->Prop}{d:DefRec}{Z:Params->W.Frag}{Pt:Addr}(hn:l.most=some 63)(hdf:d.params.defaults=[])
  (hY:∀(w:World) (h:Heap),YP w h->(Z w.params).In h)
  (hT:∀(w:World) (lo:List Str) (mean:ExcName->Option Value) (mg mb:Str->Option Value) (h:Heap),PyProof.Rows.Top q lo mean mg mb h->(Z w.params).In h->W.CodeHd h c Pt/\h.get? Pt=some (W.tabObj #[]))(hK:∀w:World,W.noTabs (Z w.params)=true)
  (F:∀(w:World) (mg:Str->Option Value) (fa:Addr) (h:Heap),(Z w.params).In h->h.Ns mainGlobals mg->mg d.name=some (.ref fa)->
   ∃fd:FuncData,(∀(s:Shared) (u:Value),BindsTo s fd ⟨[u],[]⟩ [("_law_script",u)])/\∀qB:Heap,(Z w.params).In qB->qB.Ns mainGlobals mg->TabsB [(c,Pt)] mg qB->FnOk l.prog w (Z w.params) mg qB CX0 18 fa fd ["_law_script"] (QB (Z w.params) Pt)):
  W.WalkO q loose XP YP l.row.toRowW d [] (λf vs=>PySem.call f vs):=
 _L.walk_ofKT (n:=63) (k:=18) (x:="_law_script") (CX:=CX0) (sp:=λZ=>QB Z Pt) (tabs:=[(c,Pt)]) hn (by decide) hdf ⟨rfl,by decide,by decide⟩ hY (λw lo mean mg mb h T X q hq=>by
   have e:=List.mem_singleton.mp hq;subst e;exact hT w lo mean mg mb h T X) hK F (λ_ H a ns hl hO hS=>⟨a,ns,rfl,hS,hO.tab (c,Pt) (List.mem_singleton.mpr rfl),λ_=>rfl⟩) λ_ _ _ _ z=>z
end _F
open PySem PySem.W PyProof.Rows
set_option maxRecDepth 100000 in
set_option maxHeartbeats 0 in
theorem PySem.Challenge.cw_speakmill_k73_folded_holds : PySem.Challenge.rw_speakmill_k73_folded.Holds := by
 w_on;o_law;k_head;(case hw=>w_witness2)
 k_fill
 refine _F.walk (l:=PySem.Challenge.rw_speakmill_k73_folded) rfl rfl (c:=300) (Pt:=296) (λw h Y=>PySem.W.km_in_of Y) ?tabsT ?tabsN ?F
 case tabsT=>exact λw lo mean mg mb h T X=>PySem.W.tab_of (x:="plain") T X rfl (by kernel_rfl)
 case tabsN=>intro w;kernel_rfl
 case F=>
  intro w mg fa h Xk G hmg
  refine' _F.all_mk Xk G hmg ?d0 ?d1 ?d2 ?d3 ?d4 ?d5 ?d6 ?d7 ?d8 ?d9 ?d10 ?d11 ?d12 ?d13 ?d14 ?d15 ?d16 ?d17 ?d18 ?d19 ?d20 ?d21 ?d22 ?d23 ?d24 ?d25 ?d26 ?d27 ?d28 ?d29 ?d30 ?d31 ?d32 ?d33 ?d35 ?d36 ?d37 ?d38 ?d39 ?d40 ?d41 ?d42 ?d43 ?d44 ?d45 ?d46 ?d47 ?d48 ?d49 ?d50 ?d51 ?d52 ?d53 ?d54 ?d55 ?d56 ?d57 ?d58 ?d59 ?d60 ?d61 ?d62 ?a34 ?l34 ?c34 ?k34 ?a63 ?l63 ?c63 ?k63 ?e_GREATEST ?e_MOST_FOLDED ?aD_ROW_SIGNS ?lD_ROW_SIGNS ?kD_ROW_SIGNS ?pD_ROW_SIGNS ?oD_ROW_SIGNS ?aD_PARTS_FROM ?lD_PARTS_FROM ?kD_PARTS_FROM ?pD_PARTS_FROM ?oD_PARTS_FROM ?aD_SIGN_ROWS ?lD_SIGN_ROWS ?kD_SIGN_ROWS ?pD_SIGN_ROWS ?oD_SIGN_ROWS ?aW_JUMPS ?lW_JUMPS ?zW_JUMPS ?vW_JUMPS ?aW_LEAVING ?lW_LEAVING ?zW_LEAVING ?vW_LEAVING ?aW_NOTHING_FOLDED ?lW_NOTHING_FOLDED ?zW_NOTHING_FOLDED ?vW_NOTHING_FOLDED ?aC ?aM0 ?lM0 ?cM0 ?kM0 ?jM0 ?aM1 ?lM1 ?cM1 ?kM1 ?jM1 ?aM2 ?lM2 ?cM2 ?kM2 ?jM2 ?aM3 ?lM3 ?cM3 ?kM3 ?jM3 ?aI ?lI ?cI ?kI ?jI ?pg ?hd ?po ?sa ?mk ?kc ?ni ?aQ2 ?mm0 ?mm1 ?mm2 ?mm3 ?mm4 ?mm5 ?mm6 ?mm7 ?mm8 ?mm9 ?mm10 ?mm11 ?mm12 ?mm13 ?mmI ?pg2 ?hd2 ?po2 ?sa2 ?mk2 ?kc2 ?n1_2 ?n2_2 ?n3_2 ?n4_2 ?n5_2 ?n6_2 ?n7_2 ?z_len ?z_list ?z_range ?z_isinstance ?z_str ?z_tuple ?z_int ?z_bool ?z_all ?z_reversed ?z_zip ?z_sum ?z_max ?z_min ?z_enumerate ?z_abs ?z_dict ?hcode0
  (case d0|d1|d2|d3|d4|d5|d6|d7|d8|d9|d10|d11|d12|d13|d14|d15|d16|d17|d18|d19|d20|d21|d22|d23|d24|d25|d26|d27|d28|d29|d30|d31|d32|d33|d35|d36|d37|d38|d39|d40|d41|d42|d43|d44|d45|d46|d47|d48|d49|d50|d51|d52|d53|d54|d55|d56|d57|d58|d59|d60|d61|d62=>exact⟨_,_,_,_,_,_,_,_,_,rfl,by k_is,by k_is,by k_is,by k_is⟩)
  (case a34|l34|c34|k34|a63|l63|c63|k63|e_GREATEST|e_MOST_FOLDED|aD_ROW_SIGNS|lD_ROW_SIGNS|aD_PARTS_FROM|lD_PARTS_FROM|aD_SIGN_ROWS|lD_SIGN_ROWS|aW_JUMPS|lW_JUMPS|aW_LEAVING|lW_LEAVING|aW_NOTHING_FOLDED|lW_NOTHING_FOLDED|aC|aM0|lM0|cM0|kM0|jM0|aM1|lM1|cM1|kM1|jM1|aM2|lM2|cM2|kM2|jM2|aM3|lM3|cM3|kM3|jM3|aI|lI|cI|kI|jI|pg|hd|po|sa|mk|kc|ni|aQ2|pg2|hd2|po2|sa2|mk2|kc2|n1_2|n2_2|n3_2|n4_2|n5_2|n6_2|n7_2|z_len|z_list|z_range|z_isinstance|z_str|z_tuple|z_int|z_bool|z_all|z_reversed|z_zip|z_sum|z_max|z_min|z_enumerate|z_abs|z_dict=>k_is)
  (case kD_ROW_SIGNS|kD_PARTS_FROM|kD_SIGN_ROWS=>k_keys)
  (case pD_ROW_SIGNS|pD_PARTS_FROM|pD_SIGN_ROWS=>repeat (first|exact .nil|refine .cons ⟨⟨_,rfl⟩,⟨_,rfl⟩⟩ ?_))
  (case oD_ROW_SIGNS|oD_PARTS_FROM|oD_SIGN_ROWS|zW_JUMPS|zW_LEAVING|zW_NOTHING_FOLDED=>decide)
  (case vW_JUMPS|vW_LEAVING|vW_NOTHING_FOLDED=>repeat (first|exact .nil|refine .cons ⟨_,rfl⟩ ?_|refine .cons rfl ?_))
  (case mm0|mm1|mm2|mm3|mm4|mm5|mm6|mm7|mm8|mm9|mm10|mm11|mm12|mm13|mmI=>exact⟨_,_,_,_,_,_,_,_,_,rfl,by k_is,by k_is,by k_is,by k_is,by k_is⟩)
  (case hcode0=>rfl)
end
