import PyProof.Rows.All
import Wide.All
import OpenK.AllK
import Wide.FinOn
import Lean
import PyProof.EqAt
import PyProof.EqKinds
import PyProof.TupleCall
import PyProof.MaxThree
import PyProof.IsRules
import PySem.Challenge.RW_speakmill_k66_whole_collect_anywhere
set_option Elab.async false
set_option linter.all false
set_option maxRecDepth 100000
set_option maxHeartbeats 8000000
set_option compiler.extract_closed false
set_option genSizeOf false
set_option genSizeOfSpec false
noncomputable section
open List (all_eq_true any_cons append_nil dropLast_concat drop_eq_nil_of_le filterMap_cons find?_cons flatMap_append flatMap_cons flatten_cons getD_eq_getElem?_getD getElem?_append_left getElem?_append_right getElem?_map getElem?_of_mem getElem?_reverse getElem_mem idxOf_lt_length_of_mem length_append length_cons length_drop length_map length_nil length_replicate length_reverse length_singleton length_take lookup_cons map_append map_congr_left map_cons map_drop map_map map_nil map_singleton map_take mem_append mem_append_left mem_append_right mem_cons mem_cons_of_mem mem_cons_self mem_filter mem_filterMap mem_map mem_of_getElem? mem_of_mem_take mem_range mem_singleton nodup_cons nodup_nil not_mem_nil of_mem_zip replicate_succ reverse_cons size_toArray sum_append sum_cons take_append_drop take_length take_of_length_le take_succ take_succ_eq_append_getElem)
open Nat (add_le_add_left add_mul add_sub_cancel_left le_add_right le_of_lt le_refl le_succ le_succ_of_le le_trans lt_irrefl lt_of_le_of_lt lt_of_lt_of_le lt_or_ge lt_succ_self min_eq_left min_eq_right ne_of_lt sub_zero succ_le_succ zero_le)
open PySem.Heap (get?_push_size get?_update_other get?_update_self lt_size size_push)
open Option (map_some ne_none_iff_exists')
open PySem.W (callWith_K codeIn emptyDict envX findIn fnOf instObj isFn kia_one kia_tup kitAny kitOne kitx_dict kitx_list kla_obj lookIn mg_of plainGet)
open PyProof.Rows (callWith_type1)
noncomputable abbrev bZ:=@PySem.wpAny_bind
noncomputable abbrev pZ:=@PySem.wpAny_pure
noncomputable abbrev gZ:=@PySem.Heap.get?_push_of_some
noncomputable abbrev nZ:=Bool.false_ne_true
noncomputable abbrev FZ:=PySem.W.Frag
noncomputable abbrev kZ:=@PySem.W.keepIn
noncomputable abbrev cZ{α:Type}{a b:α}{l:List α}:=(mem_cons (a:=a) (b:=b) (l:=l)).mp
noncomputable abbrev sZ{α:Type}{a b:α}:=(mem_singleton (a:=a) (b:=b)).mp
namespace _L
open PySem PySem.Spec PyProof.Rows
noncomputable abbrev Key:=Sum Int Str
noncomputable def GM:Key->Value->Bool
 | .inl k,v=>Value.isInt k v
 | .inr x,v=>Value.isStrOf x v
noncomputable def ecZ(w:World):Key->Int
 | .inl k=>hashInt k
 | .inr x=>hashStr w x
theorem J5:∀ {k:Key} {v:Value},GM k v=true->(∃i t,k=Sum.inl i/\v=Value.int i t)\/(∃x t,k=Sum.inr x/\v=Value.str x t)
 | .inl i,v,h=>by
  obtain⟨t,e⟩:=Value.isInt_shape (k:=i) (v:=v) h;exact .inl ⟨i,t,rfl,e⟩
 | .inr x,v,h=>by
  obtain⟨t,e⟩:=Value.isStrOf_shape (x:=x) (v:=v) h;exact .inr ⟨x,t,rfl,e⟩
theorem QT(i:Int)(t:Tok):GM (.inl i) (.int i t)=true:=by simp[GM,Value.isInt]
theorem RL(x:Str)(t:Tok):GM (.inr x) (.str x t)=true:=by simp[GM,Value.isStrOf]
theorem clZ(a b:Int):decide ((Sum.inl a:Key)=Sum.inl b)=(a==b):=by
 by_cases e:a=b
 ·subst e;simp
 ·have h:¬(Sum.inl a:Key)=Sum.inl b:=λq=>e (Sum.inl.inj q);rw[decide_eq_false h];exact(beq_eq_false_iff_ne.mpr e).symm
theorem cfZ(a b:Str):decide ((Sum.inr a:Key)=Sum.inr b)=decide (a=b):=by
 by_cases e:a=b
 ·subst e;simp
 ·have h:¬(Sum.inr a:Key)=Sum.inr b:=λq=>e (Sum.inr.inj q);rw[decide_eq_false h,decide_eq_false e]
theorem bvZ(a:Int)(b:Str):decide ((Sum.inl a:Key)=Sum.inr b)=false:=decide_eq_false (λq=>nomatch q)
theorem cuZ(a:Str)(b:Int):decide ((Sum.inr a:Key)=Sum.inl b)=false:=decide_eq_false (λq=>nomatch q)
noncomputable def G6(prog:Program)(w:World):PySem.KeyKind prog w Key where
 is:=GM
 hash:=ecZ w
 inj:=λv a b ha hb=>by
  rcases J5 ha with⟨i,t,rfl,rfl⟩|⟨x,t,rfl,rfl⟩
  ·rcases J5 hb with⟨j,u,rfl,e⟩|⟨y,u,rfl,e⟩
   ·injection e with e1 _;rw[e1]
   ·exact nomatch e
  ·rcases J5 hb with⟨j,u,rfl,e⟩|⟨y,u,rfl,e⟩
   ·exact nomatch e
   ·injection e with e1 _;rw[e1]
 byValue:=λk v h=>by
  rcases J5 h with⟨i,t,rfl,rfl⟩|⟨x,t,rfl,rfl⟩<;>rfl
 pyHash:=λhv h=>by
  rcases J5 hv with⟨i,t,rfl,rfl⟩|⟨x,t,rfl,rfl⟩
  ·exact wpAny_pyHash_int h
  ·exact wpAny_pyHash_str h
 eqBool:=λhu hv h=>by
  rcases J5 hu with⟨i,t,rfl,rfl⟩|⟨x,t,rfl,rfl⟩
  ·rcases J5 hv with⟨j,u,rfl,rfl⟩|⟨y,u,rfl,rfl⟩
   ·rw[clZ]at h;exact wpAny_eqBool_int h
   ·rw[bvZ]at h;exact SeqAt.EqAt.int_str i t y u _ _ _ _ h
  ·rcases J5 hv with⟨j,u,rfl,rfl⟩|⟨y,u,rfl,rfl⟩
   ·rw[cuZ]at h;exact SeqAt.EqAt.str_int x t j u _ _ _ _ h
   ·rw[cfZ]at h;exact wpAny_eqBool_str h
 «strs»:=λk x t v h=>by
  rcases J5 h with⟨i,u,rfl,e⟩|⟨y,u,rfl,e⟩
  ·exact nomatch e
  ·injection e with e1 _
   subst e1;cases v<;>rfl
theorem LM(prog:Program)(w:World)(i:Int)(t:Tok):(G6 prog w).is (.inl i) (.int i t)=true:=QT i t
theorem JN(prog:Program)(w:World)(x:Str)(t:Tok):(G6 prog w).is (.inr x) (.str x t)=true:=RL x t
inductive V where
 |non|bl (b:Bool)|int (i:Int)|str (x:Str)|byt (b:Array UInt8)|flt (b:UInt64)|ref (a:Addr)|ty (n:String)
 deriving DecidableEq
noncomputable def RelV:V->Value->Prop
 | .non,u=>u=Value.none
 | .bl b,u=>u=Value.bool b
 | .int i,u=>∃t,u=Value.int i t
 | .str x,u=>∃t,u=Value.str x t
 | .byt b,u=>∃t,u=Value.bytes b t
 | .flt b,u=>∃t,u=Value.float b t
 | .ref a,u=>u=Value.ref a
 | .ty n,u=>u=Value.type n
noncomputable abbrev Vals:List V->List Value->Prop:=Paired RelV
theorem Vals.length(r:Vals xs us):xs.length=us.length:=Paired.length r
theorem Vals.get:∀ {xs:List V} {us:List Value} {i:Nat} {x:V},Vals xs us->xs[i]? =some x->∃u,us[i]? =some u/\RelV x u
 |_,_,_,_,.nil,e=>by simp at e
 |_,_,0,_,.cons r _,e=>by simp at e;subst e;exact⟨_,rfl,r⟩
 |_,_,i+1,x,.cons _ t,e=>by
  obtain⟨u,h1,h2⟩:=Vals.get (i:=i) (x:=x) t (by simpa using e);exact⟨u,by simpa using h1,h2⟩
theorem Vals.set(r:RelV x u):∀ {xs:List V} {us:List Value} (i:Nat),Vals xs us->Vals (xs.set i x) (us.set i u)
 |_,_,_,.nil=> .nil
 |_,_,0,.cons _ t=> .cons r t
 |_,_,i+1,.cons q t=> .cons q (Vals.set r i t)
theorem Vals.append:∀ {xs ys:List V} {us ws:List Value},Vals xs us->Vals ys ws->Vals (xs++ys) (us++ws)
 |_,_,_,_,.nil,s=>s
 |_,_,_,_,.cons r t,s=> .cons r (Vals.append t s)
theorem Vals.take:∀ {xs:List V} {us:List Value} (n:Nat),Vals xs us->Vals (xs.take n) (us.take n)
 |_,_,0,_=> .nil
 |_,_,_+1,.nil=> .nil
 |_,_,n+1,.cons r t=> .cons r (Vals.take n t)
theorem Vals.drop:∀ {xs:List V} {us:List Value} (n:Nat),Vals xs us->Vals (xs.drop n) (us.drop n)
 |_,_,0,r=>r
 |_,_,_+1,.nil=> .nil
 |_,_,n+1,.cons _ t=>Vals.drop n t
noncomputable def RelO:Option V->Option Value->Prop
 |some v,some u=>RelV v u
 |none,none=>True
 |_,_=>False
noncomputable def KV{κ:Type}:List (κ×V)->List (κ×Value)->Prop:=Paired λ(p:κ×V) (q:κ×Value)=>p.1=q.1/\RelV p.2 q.2
noncomputable def kV:Key->V
 | .inl i=> .int i
 | .inr x=> .str x
inductive HO where
 |lst (xs:List V)
 |tup (xs:List V)
 |dK (kvs:List (Key×V))|dT (kvs:List (List Key×V))
 |set(S:Int->Bool) (n:Nat)
 |ins (C dx:Addr) (fs:List (Str×V))
 |own (x:Addr)
 |xd (fs:List (Str×V))
 |met (f x:Addr)
 |rng (lo hi:Int)
 |frz (o:Obj) (u:HO)
 |tbl (ps:Array Value)
 |ext (φ:Heap->Prop)
noncomputable abbrev Hp:=Addr->Option HO
noncomputable def upd(H:Hp)(a:Addr)(o:HO):Hp:=λb=>if b=a then some o else H b
theorem A7:upd H a o a=some o:=by unfold upd;rw[if_pos rfl]
theorem B7{a b:Addr}(h:b≠a):upd H a o b=H b:=by unfold upd;rw[if_neg h]
theorem IX:upd (upd H a o) a u=upd H a u:=by
 funext b;unfold upd;split<;>rfl
theorem W4{H:Hp}{a b:Addr}{o u:HO}(h:H a=some o)(h':H b=some u)(d:o≠u):a≠b:=by
 intro e;subst e;rw[h]at h';exact d (Option.some.inj h')
theorem C6{H:Hp}{a b:Addr}{o:HO}(h:H a=some o)(h':H b=none):a≠b:=by
 intro e;subst e;rw[h]at h';cases h'
section
variable(P:Program)(w:World)
noncomputable def ObjOk(H:Hp)(h:Heap)(a:Addr):HO->Prop
 | .lst xs=>xs.length<=sizeLine/\∃(its:List Value) (n:Nat),Vals xs its/\h.get? a=some {cls:=.type "list",data:=.seq its.toArray n}
 | .tup xs=>xs.length<=sizeLine/\∃its:List Value,Vals xs its/\IsTup h a its.toArray
 | .dK kvs=>kvs.length<=sizeLine/\(a==sysModules)=false/\∃vs,KV kvs vs/\h.DictOf (G6 P w) a vs
 | .dT kvs=>kvs.length<=sizeLine/\(a==sysModules)=false/\∃xs:List (List Key×Addr×Value),
   Paired (λ(p:List Key×V) (q:List Key×Addr×Value)=>p.1=q.1/\H q.2.1=some (.tup (p.1.map kV))/\RelV p.2 q.2.2) kvs xs/\
   ∃o es ep,h.get? a=some o/\o.ExactDict/\o.data=.dict es ep/\es.toList=xs.map (entryOfKey (tupleKind (G6 P w)))/\(xs.map (·.1)).Nodup
 | .set S n=>h.SetOf (intKind P w) a S n
 | .ins C dx fs=>H dx=some (.own a)/\fs.length<=1000/\dx≠a/\h.get? a=some (instObj C dx)/\
   ∃mA,h.Ns1 dx mA/\(∀f,RelO (fs.lookup f) (mA f))/\PySem.Within mA (fs.map (·.1))
 | .own _=>∃o,h.get? a=some o
 | .xd fs=>∃mA,h.Ns1 a mA/\∀f,RelO (fs.lookup f) (mA f)
 | .rng lo hi=>∃t u v,h.get? a=some {cls:=.type "range",data:=.fields #[.int lo t,.int hi u,.int 1 v]}
 | .frz o u=>h.get? a=some o/\ObjOk H h a u
 | .tbl ps=>h.get? a=some {cls:=.none,data:=.fields ps}
 | .met f x=>h.get? a=some (PySem.W.methodObj (.ref f) (.ref x))
 | .ext φ=>φ h/\(∃o,h.get? a=some o)/\∀h1 h2:Heap,φ h1->(∀o,h1.get? a=some o->h2.get? a=some o)->φ h2
noncomputable def HOk(H:Hp)(h:Heap):Prop:=∀a o,H a=some o->ObjOk P w H h a o
end
section
theorem ObjOk.lt(x:ObjOk P w H h a o):a<h.objs.size:=by
 cases o with
 |lst xs=>obtain⟨_,_,_,_,e⟩:=x;exact lt_size e
 |tup xs=>obtain⟨_,_,_,p⟩:=x;exact p.lt
 |dK b=>obtain⟨_,_,_,_,o,_,_,e,_⟩:=x;exact lt_size e
 |dT b=>obtain⟨_,_,_,_,o,_,_,e,_⟩:=x;exact lt_size e
 |set S n=>obtain⟨o,_,_,_,e,_⟩:=x;exact lt_size e
 |ins C dx fs=>obtain⟨_,_,_,e,_⟩:=x;exact lt_size e
 |own y=>obtain⟨_,e⟩:=x;exact lt_size e
 |xd fs=>obtain⟨_,⟨_,_,_,e,_⟩,_⟩:=x;exact lt_size e
 |rng lo hi=>obtain⟨_,_,_,e⟩:=x;exact lt_size e
 |frz ob u=>obtain⟨e,_⟩:=x;exact lt_size e
 |tbl ps=>exact lt_size (show h.get? a=some _ from x)
 |met f y=>exact lt_size (show h.get? a=some _ from x)
 |ext φ=>obtain⟨_,⟨_,e⟩,_⟩:=x;exact lt_size e
theorem Paired.mapP{α β:Type}{F G:α->β->Prop}:∀ {l₁:List α} {l₂:List β},Paired F l₁ l₂->(∀a b,F a b->G a b)->Paired G l₁ l₂
 |_,_,.nil,_=> .nil
 |_,_,.cons r t,f=> .cons (f _ _ r) (Paired.mapP t f)
theorem ObjOk.stay{H':Hp}{h':Heap}(x:ObjOk P w H h a o)(k:∀b u,(b=a\/H b=some (.own a))->h.get? b=some u->h'.get? b=some u)
  (ho:∀b,H b=some (.own a)->H' b=some (.own a))(ht:∀b xs,H b=some (.tup xs)->H' b=some (.tup xs)):ObjOk P w H' h' a o:=by
 induction o with
 |lst xs=>obtain⟨z,g,n,r,e⟩:=x;exact⟨z,g,n,r,k _ _ (.inl rfl) e⟩
 |tup xs=>obtain⟨z,g,r,ob,e,c⟩:=x;exact⟨z,g,r,ob,k _ _ (.inl rfl) e,c⟩
 |dK i=>obtain⟨z,y,vs,r,ob,es,ep,e,c⟩:=x;exact⟨z,y,vs,r,ob,es,ep,k _ _ (.inl rfl) e,c⟩
 |dT i=>
  obtain⟨z,y,xs,r,ob,es,ep,e,c⟩:=x;exact⟨z,y,xs,Paired.mapP r λp q z=>⟨z.1,ht _ _ z.2.1,z.2.2⟩,ob,es,ep,k _ _ (.inl rfl) e,c⟩
 |set S n=>obtain⟨ob,es,ep,t,e,c⟩:=x;exact⟨ob,es,ep,t,k _ _ (.inl rfl) e,c⟩
 |ins C dx fs=>
  obtain⟨d,z,ne,e,mA,⟨od,es,ep,e2,c⟩,r⟩:=x;exact⟨ho _ d,z,ne,k _ _ (.inl rfl) e,mA,⟨od,es,ep,k _ _ (.inr d) e2,c⟩,r⟩
 |own y=>obtain⟨ob,e⟩:=x;exact⟨ob,k _ _ (.inl rfl) e⟩
 |xd fs=>obtain⟨mA,⟨od,es,ep,e,c⟩,r⟩:=x;exact⟨mA,⟨od,es,ep,k _ _ (.inl rfl) e,c⟩,r⟩
 |rng lo hi=>obtain⟨t,u,v,e⟩:=x;exact⟨t,u,v,k _ _ (.inl rfl) e⟩
 |frz ob u ih=>obtain⟨e,q⟩:=x;exact⟨k _ _ (.inl rfl) e,ih q⟩
 |tbl ps=>
  have e:h.get? a=some {cls:=.none,data:=.fields ps}:=x;show h'.get? a=some {cls:=.none,data:=.fields ps};exact k a _ (.inl rfl) e
 |met f y=>
  have e:h.get? a=some (PySem.W.methodObj (.ref f) (.ref y)):=x;show h'.get? a=some (PySem.W.methodObj (.ref f) (.ref y));exact k a _ (.inl rfl) e
 |ext φ=>obtain⟨p,⟨o,e⟩,st⟩:=x;exact⟨st _ _ p λo q=>k _ _ (.inl rfl) q,⟨o,k _ _ (.inl rfl) e⟩,st⟩
theorem HOk.lt{a:Addr}{o:HO}(x:HOk P w H h)(e:H a=some o):a<h.objs.size:=(x a o e).lt
theorem HOk.fresh{a:Addr}(x:HOk P w H h)(e:h.objs.size<=a):H a=none:=by
 cases q:H a with
 |none=>rfl
 |some u=>exact absurd (lt_of_lt_of_le (x.lt q) e) (lt_irrefl _)
theorem HOk.kept{h':Heap}(x:HOk P w H h)(k:∀b u,h.get? b=some u->h'.get? b=some u):HOk P w H h':=λa o e=>
 (x a o e).stay (λb u _ q=>k b u q) (λ_ q=>q) λ_ _ q=>q
theorem HOk.laid{h':Heap}{a:Addr}(x:HOk P w H h)(k:∀b u,h.get? b=some u->h'.get? b=some u)(hp:h.objs.size<=a)(new:ObjOk P w (upd H a o) h' a o):HOk P w (upd H a o) h':=λb u e=>by
 have hn:=x.fresh hp;by_cases hb:b=a
 ·subst hb;rw[A7]at e;cases e;exact new
 ·rw[B7 hb]at e;exact(x b u e).stay (λc v _ q=>k c v q) (λc q=>by rw[B7 (C6 q hn)];exact q) λc xs q=>by rw[B7 (C6 q hn)];exact q
end
noncomputable def Rd(H:Hp)(a:Addr)(u:HO):Prop:=H a=some u\/∃o,H a=some (.frz o u)
theorem Rd.ok(r:Rd H a u)(x:HOk P w H h):ObjOk P w H h a u:=by
 rcases r with r|⟨o,r⟩
 ·exact x a u r
 ·obtain⟨_,q⟩:=x a _ r;exact q
noncomputable def Mut:Option HO->Prop
 |some (.lst _)=>True
 |some (.dK _)=>True
 |some (.dT _)=>True
 |some (.set _ _)=>True
 |some (.ins _ _ _)=>True
 |some (.ext _)=>True
 |_=>False
section
theorem HOk.write{h':Heap}{x e:Addr}(ok:HOk P w H h)(mu:Mut (H x))(he:e=x\/H e=some (.own x))(k:∀b u,b≠e->h.get? b=some u->h'.get? b=some u)(heo:∃u,h'.get? e=some u)
  (new:ObjOk P w (upd H x o') h' x o'):HOk P w (upd H x o') h':=λb u q=>by
 have a:∀c y,H c=some (.own y)->c≠x:=λc y r z=>by subst z;rw[r]at mu;exact mu
 have f:∀c xs,H c=some (.tup xs)->c≠x:=λc xs r z=>by subst z;rw[r]at mu;exact mu
 by_cases hb:b=x
 ·subst hb;rw[A7]at q;cases q;exact new
 ·rw[B7 hb]at q;by_cases d:b=e
  ·have q':H b=some (.own x):=by
    rcases he with z|z
    ·exact absurd (d.trans z) hb
    ·rw[d];exact z
   rw[q]at q';cases q';obtain⟨v,hv⟩:=heo;exact⟨v,by rw[d];exact hv⟩
  ·refine(ok b u q).stay (λc v hc r=>k c v ?_ r) (λc r=>by rw[B7 (a c b r)];exact r) λc xs r=>by rw[B7 (f c xs r)];exact r
   rcases hc with rfl|hc
   ·exact d
   ·rintro rfl;rcases he with z|z
    ·exact a c b hc z
    ·rw[hc]at z;cases z;exact hb rfl
end
structure Un (fs ex:List Addr) (H H':Hp) (h h':Heap):Prop where
 keep:∀b o,h.get? b=some o->H b=none->b∉fs->b∉ex->h'.get? b=some o
 slot:∀b o,h.get? b=some o->H b=none->b∈fs->b∉ex->∃sl,h'.get? b=some {o with slots:=sl}
 free:∀b o,h.get? b=some o->H b=none->b∉ex->H' b=none
 there:∀b o,h.get? b=some o->b∉ex->∃o',h'.get? b=some o'
 tups:∀b xs,H b=some (.tup xs)->H' b=some (.tup xs)
 frzs:∀b o u,H b=some (.frz o u)->H' b=some (.frz o u)
 tbls:∀b ps,H b=some (.tbl ps)->∃more,H' b=some (.tbl (ps++more))
section
theorem Un.any(u:Un fs ex H H1 h h1){b:Addr}{ob:Obj}(q:h.get? b=some ob)(n:H b=none)(hx:b∉ex):∃sl,h1.get? b=some {ob with slots:=sl}:=by
 by_cases hb:b∈fs
 ·exact u.slot b ob q n hb hx
 ·exact⟨ob.slots,u.keep b ob q n hb hx⟩
theorem Un.kept{h h':Heap}(k:∀b u,h.get? b=some u->h'.get? b=some u):Un fs ex H H h h':=
 ⟨λb ob q _ _ _=>k b ob q,λb ob q _ _ _=>⟨ob.slots,k b ob q⟩,λ_ _ _ n _=>n,λb ob q _=>⟨ob,k b ob q⟩,λ_ _ q=>q,λ_ _ _ q=>q,λ_ ps q=>⟨#[],by rw[q];simp⟩⟩
theorem Un.refl:Un fs ex H H h h:=Un.kept λ_ _ q=>q
theorem Un.laid{H:Hp}{h h':Heap}{a:Addr}(k:∀b u,h.get? b=some u->h'.get? b=some u)(hp:h.objs.size<=a)(hn:H a=none):Un fs ex H (upd H a o) h h' where
 keep:=λb u q _ _ _=>k b u q
 slot:=λb u q _ _ _=>⟨u.slots,k b u q⟩
 free:=λb u q n _=>by rw[B7 (ne_of_lt (lt_of_lt_of_le (lt_size q) hp))];exact n
 there:=λb u q _=>⟨u,k b u q⟩
 tups:=λb xs q=>by rw[B7 (C6 q hn)];exact q
 frzs:=λb u xs q=>by rw[B7 (C6 q hn)];exact q
 tbls:=λb ps q=>⟨#[],by rw[B7 (C6 q hn),q];simp⟩
theorem Un.write{H:Hp}{h h':Heap}{x e:Addr}(mu:Mut (H x))(he:e=x\/H e=some (.own x))(k:∀b u,b≠e->h.get? b=some u->h'.get? b=some u)(heo:∃u,h'.get? e=some u):Un fs ex H (upd H x o) h h':=by
 have hx:∀b,H b=none->b≠x:=λb n z=>by subst z;rw[n]at mu;exact mu
 have hb:∀b,H b=none->b≠e:=λb n z=>by
  subst z;rcases he with r|r
  ·exact hx b n r
  ·rw[n]at r;cases r
 have hm:∀b u,H b=some u->¬Mut (some u)->b≠x:=λb u q nm z=>by subst z;rw[q]at mu;exact nm mu
 refine⟨λb u q n _ _=>k b u (hb b n) q,λb u q n _ _=>⟨u.slots,k b u (hb b n) q⟩,λb u q n _=>by rw[B7 (hx b n)];exact n,λb u q _=> ?_,
  λb xs q=>by rw[B7 (hm b _ q λz=>z)];exact q,λb u xs q=>by rw[B7 (hm b _ q λz=>z)];exact q,λb ps q=>⟨#[],by rw[B7 (hm b _ q λz=>z),q];simp⟩⟩
 by_cases a:b=e
 ·subst a;exact heo
 ·exact⟨u,k b u a q⟩
end
noncomputable def trk(h:Heap)(H:Hp):List Addr:=(List.range h.objs.size).filter λa=>(H a).isSome
noncomputable def FD(h:Heap)(H:Hp):Heap:=PySem.W.hideAll h (trk h H)
theorem SG(h:Heap)(H:Hp):(FD h H).objs.size=h.objs.size:=PySem.W.hideAll_size _ _
theorem VF{h:Heap}{H:Hp}{b:Addr}{o:Obj}(e:h.get? b=some o)(n:H b=none):(FD h H).get? b=some o:=
 PySem.W.hideAll_get _ e λhm=>by
  have q:(H b).isSome=true:=(mem_filter.mp hm).2;rw[n]at q;simp at q
theorem aaZ{b:Addr}{o:Obj}(e:(FD h H).get? b=some o):h.get? b=some o/\H b=none:=by
 have e':h.get? b=some o:=PySem.W.of_hideAll (trk h H) e;refine⟨e', ?_⟩;cases q:H b with
 |none=>rfl
 |some x=>
  have hm:b∈trk h H:=mem_filter.mpr ⟨mem_range.mpr (lt_size e'),by simp[q]⟩;have z:(FD h H).get? b=none:=PySem.W.hideAll_none (trk h H) hm;rw[z]at e;cases e
structure Mod (Z:FZ) (mg:Str->Option Value) (base:Heap):Prop where
 kin:Z.In base
 glob:base.Ns mainGlobals mg
 blt:∃mb,base.Ns builtinsNs mb/\∀x:Str,x≠ "__name__"->mb x=bootBuiltins x
 nolimit:base.NoLimit
structure Cx where
 prog:Program
 w:World
 K:FZ
 mg:Str->Option Value
 base:Heap
 A:Around
 N:List Str
 s₀:Shared
 H₀:Hp
 env:Env
 outer:List Env
 stack:List Env
 ex:List Addr
 fn:Str->Bool
 calm:Bool
 pn:List (Addr×Obj)
 xe:Value->Shared->Prop
noncomputable def frs(l:List Env):List Addr:=l.filterMap (·.frame)
noncomputable abbrev Cx.fs(X:Cx):List Addr:=frs X.outer
noncomputable def Vis(sc:Scope)(x:Str):Prop:=sc.names.lookup x=some .local\/sc.names.lookup x=some .cell\/sc.names.lookup x=some .free
noncomputable def Loc(sc:Scope)(x:Str):Prop:=sc.names.lookup x=some .local\/sc.names.lookup x=some .cell
noncomputable def d3Z(env:Env)(h:Heap)(m:Str->Option Value)(x:Str)(u:Value):Prop:=
 (env.kindOf x=some .local/\m x=some u)\/((env.kindOf x=some .cell\/env.kindOf x=some .free)/\∃c,env.cells.lookup x=some c/\h.IsCell c (some u))
structure Cx.Ok (X:Cx):Prop where
 mod:Mod X.K X.mg X.base
 kind:X.env.scope.kind=.function
 glob:X.env.globals=mainGlobals
 blt:X.env.builtins=builtinsNs
 above:X.s₀.heap.objs.size<=X.env.locals
 inj:∀x y c,X.env.cells.lookup x=some c->X.env.cells.lookup y=some c->x=y
 has:∀x,(X.env.kindOf x=some .cell\/X.env.kindOf x=some .free)->∃c,X.env.cells.lookup x=some c
 cab:∀x c,X.fn x=true->X.env.cells.lookup x=some c->X.s₀.heap.objs.size<=c
 hd:X.calm=true->X.A.handled=none
 frames:X.A.frames=some X.stack
 stk:X.stack=X.outer\/(X.stack=X.env::X.outer/\X.env.frame=some X.env.locals)
 exf:∀b∈X.ex,b≠X.env.locals/\∀x c,X.env.cells.lookup x=some c->c≠b
 bs:∀b o,X.base.get? b=some o->X.s₀.heap.get? b=some o/\X.H₀ b=none
 bsz:X.base.objs.size<=X.s₀.heap.objs.size
 noex:∀b o,X.base.get? b=some o->b∉X.ex
 exfs:∀b∈X.ex,b∉X.fs
 funs:X.s₀.heap.FunFrames X.base X.outer
 frf:∀b∈X.fs,X.H₀ b=none
structure Inv (X:Cx) (pins:List (Addr×Obj)) (σ:List (Option V)) (H:Hp) (s:Shared):Prop where
 ok:X.Ok
 os:s.os=X.s₀.os
 bare:AllBare s.gens
 base:Un X.fs X.ex X.H₀ H X.s₀.heap s.heap
 loc:∃m,s.heap.Ns X.env.locals m/\∀(i:Nat) (x:Str) (v:V),X.N[i]? =some x->σ[i]? =some (some v)->Vis X.env.scope x->∃u,RelV v u/\d3Z X.env s.heap m x u
 cell:∀x c,X.env.cells.lookup x=some c->∃v,s.heap.IsCell c v
 free:H X.env.locals=none
 freeC:∀x c,X.env.cells.lookup x=some c->H c=none
 pin:∀p∈X.pn++pins,s.heap.get? p.1=some p.2/\H p.1=none/\p.1≠X.env.locals/\p.1∉X.fs/\∀v,p.2.data≠ .cell v
 hok:HOk X.prog X.w H s.heap
 len:σ.length=X.N.length
section
theorem Cx.Ok.nofr{X:Cx}(ok:X.Ok){b:Addr}{o:Obj}(e:X.base.get? b=some o):b∉X.fs:=λhb=>by
 have:=(ok.funs.mem hb).1;rw[e]at this;cases this
theorem Inv.bs{H:Hp}(I:Inv X pins σ H s):∀b o,X.base.get? b=some o->s.heap.get? b=some o/\H b=none:=λb o e=>
 ⟨I.base.keep b o (I.ok.bs b o e).1 (I.ok.bs b o e).2 (I.ok.nofr e) (I.ok.noex b o e),I.base.free b o (I.ok.bs b o e).1 (I.ok.bs b o e).2 (I.ok.noex b o e)⟩
theorem Inv.bk{H:Hp}(I:Inv X pins σ H s):∀b o,X.base.get? b=some o->s.heap.get? b=some o:=λb o e=>(I.bs b o e).1
theorem Inv.mod{H:Hp}(I:Inv X pins σ H s):Mod X.K X.mg X.base:=I.ok.mod
theorem Inv.kIn{H:Hp}(I:Inv X pins σ H s):X.K.In s.heap:=I.ok.mod.kin.keeps I.bk
theorem Inv.lt{H:Hp}(I:Inv X pins σ H s):X.env.locals<s.heap.objs.size:=let⟨_,hn,_⟩:=I.loc;hn.lt
theorem Inv.sz{H:Hp}(I:Inv X pins σ H s):X.s₀.heap.objs.size<=s.heap.objs.size:=le_trans I.ok.above (le_of_lt I.lt)
theorem Inv.nofs{H:Hp}(I:Inv X pins σ H s){a:Addr}(h:s.heap.objs.size<=a):a∉X.fs:=λhb=>by
 obtain⟨_,o,ho,_⟩:=I.ok.funs.mem hb;exact absurd (lt_of_lt_of_le (lt_size ho) (le_trans I.sz h)) (lt_irrefl _)
theorem Inv.cne{H:Hp}(I:Inv X pins σ H s):∀x c,X.env.cells.lookup x=some c->c≠X.env.locals:=λx c e z=>by
 obtain⟨v,o,ho,hd⟩:=I.cell x c e;obtain⟨m,⟨o',es,ep,a,b,_⟩,_⟩:=I.loc;rw[z,a]at ho;cases ho;rw[b]at hd;cases hd
theorem Inv.funs{H:Hp}(I:Inv X pins σ H s):s.heap.FunFrames X.base X.outer:=by
 have a:∀(l:List Env),(∀b∈frs l,b∈X.fs)->X.s₀.heap.FunFrames X.base l->s.heap.FunFrames X.base l:=by
  intro l;induction l with
  |nil=>intro _ _;trivial
  |cons c r ih=>
   intro hs hl;obtain⟨hk,⟨L,o,hf,hn,ho,hd⟩,hr⟩:=hl;have hL:L∈X.fs:=hs L (by unfold frs;rw[filterMap_cons,hf];exact mem_cons_self);obtain⟨sl,e⟩:=I.base.slot L o ho (I.ok.frf L hL) hL λz=>I.ok.exfs L z hL;exact⟨hk,⟨L,_,hf,hn,e,hd⟩,ih (λb hb=>hs b (by unfold frs;rw[filterMap_cons,hf];exact mem_cons_of_mem _ hb)) hr⟩
 exact a X.outer (λ_ hb=>hb) I.ok.funs
theorem Inv.stack{H:Hp}(I:Inv X pins σ H s):s.heap.FunFrames X.base X.stack:=by
 rcases I.ok.stk with e|⟨e,hf⟩
 ·rw[e];exact I.funs
 ·rw[e];obtain⟨m,hn,_⟩:=I.loc;refine .cons (by rw[I.ok.kind];decide) hf hn ?_ I.funs;exact Heap.get?_none_of_le (le_trans I.ok.bsz I.ok.above)
theorem Inv.stkSub{H:Hp}(I:Inv X pins σ H s):∀b∈frs X.stack,b∈X.env.locals::X.fs:=λb hb=>by
 rcases I.ok.stk with e|⟨e,hf⟩
 ·rw[e]at hb;exact mem_cons_of_mem _ hb
 ·rw[e]at hb;unfold frs at hb;rw[filterMap_cons,hf]at hb;exact hb
theorem Inv.stkFree{H:Hp}(I:Inv X pins σ H s):∀b∈frs X.stack,H b=none:=λb hb=>by
 rcases cZ (I.stkSub b hb)with e|hb
 ·rw[e];exact I.free
 ·obtain⟨_,o,ho,_⟩:=I.ok.funs.mem hb;exact I.base.free b o ho (I.ok.frf b hb) λz=>I.ok.exfs b z hb
theorem Inv.step{H H':Hp}{h':Heap}{t':Nat}{d':Drawn}{ch:List Addr}(I:Inv X pins σ H s)
  (hch:∀b∈ch,(b∈X.ex\/X.s₀.heap.objs.size<=b)/\b≠X.env.locals/\(∀x c,X.env.cells.lookup x=some c->c≠b)/\∀p∈X.pn++pins,p.1≠b)
  (keep:∀b o,b≠X.env.locals->b∉X.fs->b∉ch->s.heap.get? b=some o->H b=none->h'.get? b=some o)
  (slot:∀b o,b≠X.env.locals->b∈X.fs->b∉ch->s.heap.get? b=some o->H b=none->∃sl,h'.get? b=some {o with slots:=sl})(free:∀b o,b∉ch->s.heap.get? b=some o->H b=none->H' b=none)
  (there:∀b o,b∉ch->s.heap.get? b=some o->∃o',h'.get? b=some o')
  (tups:∀b xs,H b=some (.tup xs)->H' b=some (.tup xs))(frzs:∀b o u,H b=some (.frz o u)->H' b=some (.frz o u))(tbls:∀b ps,H b=some (.tbl ps)->∃more,H' b=some (.tbl (ps++more)))
  (ns:∀m,s.heap.Ns X.env.locals m->h'.Ns X.env.locals m)(hok:HOk X.prog X.w H' h')(hg:AllBare g'):
  Inv X pins σ H' {s with heap:=h',gens:=g',drawn:=d',toks:=t'}:=by
 have h:∀b o,X.s₀.heap.get? b=some o->b≠X.env.locals:=λb o e=>ne_of_lt (lt_of_lt_of_le (lt_size e) I.ok.above);have g:∀b o,X.s₀.heap.get? b=some o->b∉X.ex->b∉ch:=λb o e hx hb=>by
  rcases(hch b hb).1 with z|z
  ·exact hx z
  ·exact absurd (lt_of_lt_of_le (lt_size e) z) (lt_irrefl _)
 have a:∀x c,X.env.cells.lookup x=some c->∀v,s.heap.IsCell c v->h'.IsCell c v:=λx c e v ⟨o,ho,hd⟩=>by
  have f:c∉ch:=λz=>(hch c z).2.2.1 x c e rfl;by_cases hc:c∈X.fs
  ·obtain⟨sl,q⟩:=slot c o (I.cne x c e) hc f ho (I.freeC x c e);exact⟨_,q,hd⟩
  ·exact⟨o,keep c o (I.cne x c e) hc f ho (I.freeC x c e),hd⟩
 refine⟨I.ok,I.os,hg,⟨λb o e n hb hx=> ?_,λb o e n hb hx=> ?_,λb o e n hx=> ?_,λb o e hx=> ?_,λb xs e=>tups b xs (I.base.tups b xs e),λb o xs e=>frzs b o xs (I.base.frzs b o xs e),λb ps e=> ?_⟩, ?_,λx c e=> ?_, ?_,λx c e=> ?_,λp hp=> ?_,hok,I.len⟩
 ·exact keep b o (h b o e) hb (g b o e hx) (I.base.keep b o e n hb hx) (I.base.free b o e n hx)
 ·obtain⟨sl,e1⟩:=I.base.slot b o e n hb hx;obtain⟨j,e2⟩:=slot b _ (h b o e) hb (g b o e hx) e1 (I.base.free b o e n hx);exact⟨j,e2⟩
 ·obtain⟨o',e1⟩:=I.base.there b o e hx;exact free b o' (g b o e hx) e1 (I.base.free b o e n hx)
 ·obtain⟨o',e1⟩:=I.base.there b o e hx;exact there b o' (g b o e hx) e1
 ·obtain⟨m1,e1⟩:=I.base.tbls b ps e;obtain⟨m2,e2⟩:=tbls b _ e1;exact⟨m1++m2,by rw[e2,Array.append_assoc]⟩
 ·obtain⟨m,hn,hl⟩:=I.loc;refine⟨m,ns m hn,λi x v e1 e2 e3=> ?_⟩;obtain⟨u,r,l⟩:=hl i x v e1 e2 e3;refine⟨u,r, ?_⟩;rcases l with l|⟨k,c,e,z⟩
  ·exact .inl l
  ·exact .inr ⟨k,c,e,a x c e _ z⟩
 ·obtain⟨v,z⟩:=I.cell x c e;exact⟨v,a x c e v z⟩
 ·obtain⟨m,⟨o,_,_,ho,_⟩,_⟩:=I.loc;exact free _ o (λz=>(hch _ z).2.1 rfl) ho I.free
 ·obtain⟨v,o,ho,hd⟩:=I.cell x c e;exact free c o (λz=>(hch c z).2.2.1 x c e rfl) ho (I.freeC x c e)
 ·obtain⟨e,n,ne,nf,d⟩:=I.pin p hp;have f:p.1∉ch:=λz=>(hch p.1 z).2.2.2 p hp rfl;exact⟨keep p.1 p.2 ne nf f e n,free p.1 p.2 f e n,ne,nf,d⟩
theorem Inv.un{H:Hp}{t':Nat}(I:Inv X pins σ H s)(u:Un X.fs [] H H' s.heap h')(hok:HOk X.prog X.w H' h'):Inv X pins σ H' {s with heap:=h',toks:=t'}:=by
 obtain⟨m,⟨o,es,ep,ho,r⟩,_⟩:=id I.loc;obtain⟨sl,hL⟩:=u.any ho I.free (by simp);exact I.step (g':=s.gens) (d':=s.drawn) (ch:=[]) (λ_ z=>nomatch z) (λb o _ hb _ e n=>u.keep b o e n hb (by simp)) (λb o _ hb _ e n=>u.slot b o e n hb (by simp)) (λb o _ e n=>u.free b o e n (by simp)) (λb o _ e=>u.there b o e (by simp)) u.tups u.frzs u.tbls (λm' hm=>by
  obtain⟨o',c,d,a,r'⟩:=hm;rw[ho]at a;cases a;exact⟨_,c,d,hL,r'⟩) hok I.bare
theorem Inv.call{H:Hp}{t':Nat}{d':Drawn}(I:Inv X pins σ H s)(u:Un (frs X.stack) ch H H' s.heap h')(hok:HOk X.prog X.w H' h')(hg:AllBare g')
  (hch:∀b∈ch,(b∈X.ex\/X.s₀.heap.objs.size<=b)/\b≠X.env.locals/\(∀x c,X.env.cells.lookup x=some c->c≠b)/\∀p∈X.pn++pins,p.1≠b):
  Inv X pins σ H' {s with heap:=h',gens:=g',drawn:=d',toks:=t'}:=by
 obtain⟨m,⟨o,es,ep,ho,r⟩,_⟩:=id I.loc;obtain⟨sl,hL⟩:=u.any ho I.free λz=>(hch _ z).2.1 rfl;exact I.step (ch:=ch) hch (λb o hL hb hc e n=>u.keep b o e n (λz=>(cZ (I.stkSub b z)).elim hL hb) hc) (λb o _ _ hc e n=>u.any e n hc) (λb o hc e n=>u.free b o e n hc) (λb o hc e=>u.there b o e hc) u.tups u.frzs u.tbls (λm' hm=>by
  obtain⟨o',d,f,a,r'⟩:=hm;rw[ho]at a;cases a;exact⟨_,d,f,hL,r'⟩) hok hg
theorem Inv.turned{H:Hp}{h':Heap}{t':Nat}{it:Addr}(I:Inv X pins σ H s)(k:∀b o,b≠it->s.heap.get? b=some o->h'.get? b=some o)(hn:H it=none)(hL:it≠X.env.locals)
  (h1:it∈X.ex\/X.s₀.heap.objs.size<=it)(h2:∀x c,X.env.cells.lookup x=some c->c≠it)(h3:∀p∈X.pn++pins,p.1≠it):Inv X pins σ H {s with heap:=h',toks:=t'}:=by
 have a:∀b u,H b=some u->b≠it:=λb u e z=>by rw[z,hn]at e;cases e
 refine I.step (g':=s.gens) (d':=s.drawn) (ch:=[it]) (λb hb=> ?_) (λb o _ _ hc e _=>k b o (λz=>hc (by simp[z])) e) (λb o _ _ hc e _=>⟨o.slots,k b o (λz=>hc (by simp[z])) e⟩) (λ_ _ _ _ n=>n)
  (λb o hc e=>⟨o,k b o (λz=>hc (by simp[z])) e⟩) (λ_ _ e=>e) (λ_ _ _ e=>e) (λb ps e=>⟨#[],by rw[e];simp⟩) (λm hm=> ?_) (λb u e=> ?_) I.bare
 ·have e:b=it:=by simpa using hb
  subst e;exact⟨h1,hL,h2,h3⟩
 ·obtain⟨o,es,ep,ho,r⟩:=hm;exact⟨o,es,ep,k _ o (Ne.symm hL) ho,r⟩
 ·refine(I.hok b u e).stay (λc v hc q=>k c v ?_ q) (λ_ q=>q) λ_ _ q=>q;rcases hc with z|z
  ·rw[z];exact a b u e
  ·exact a c _ z
theorem Inv.tok{H:Hp}(I:Inv X pins σ H s)(t:Nat):Inv X pins σ H {s with toks:=t}:=I.un (h':=s.heap) (t':=t) Un.refl I.hok
theorem Inv.kept{H:Hp}{h':Heap}{t':Nat}(I:Inv X pins σ H s)(k:∀b u,s.heap.get? b=some u->h'.get? b=some u):Inv X pins σ H {s with heap:=h',toks:=t'}:=I.un (Un.kept k) (I.hok.kept k)
theorem Inv.laid{H:Hp}{h':Heap}{a:Addr}{t':Nat}(I:Inv X pins σ H s)(k:∀b u,s.heap.get? b=some u->h'.get? b=some u)(hp:s.heap.objs.size<=a)(new:ObjOk X.prog X.w (upd H a o) h' a o):
  Inv X pins σ (upd H a o) {s with heap:=h',toks:=t'}:=I.un (Un.laid k hp (I.hok.fresh hp)) (I.hok.laid k hp new)
theorem Inv.write{H:Hp}{h':Heap}{x e:Addr}{t':Nat}(I:Inv X pins σ H s)(mu:Mut (H x))(he:e=x\/H e=some (.own x))(k:∀b u,b≠e->s.heap.get? b=some u->h'.get? b=some u)(heo:∃u,h'.get? e=some u)
  (new:ObjOk X.prog X.w (upd H x o) h' x o):Inv X pins σ (upd H x o) {s with heap:=h',toks:=t'}:=I.un (Un.write mu he k heo) (I.hok.write mu he k heo new)
theorem Inv.weak{H:Hp}{σ':List (Option V)}(I:Inv X pins σ H s)(hl:σ'.length=σ.length)(w:∀(i:Nat) v,σ'[i]? =some (some v)->σ[i]? =some (some v)):Inv X pins σ' H s:=
 ⟨I.ok,I.os,I.bare,I.base,let⟨m,hn,hl'⟩:=I.loc;⟨m,hn,λi x v e1 e2 e3=>hl' i x v e1 (w i v e2) e3⟩,I.cell,I.free,I.freeC,I.pin,I.hok,hl.trans I.len⟩
theorem Inv.pins_of{H:Hp}{pins':List (Addr×Obj)}(I:Inv X pins σ H s)(h:∀p∈pins',s.heap.get? p.1=some p.2/\H p.1=none/\p.1≠X.env.locals/\p.1∉X.fs/\∀v,p.2.data≠ .cell v):Inv X pins' σ H s:=
 ⟨I.ok,I.os,I.bare,I.base,I.loc,I.cell,I.free,I.freeC,λp hp=>(mem_append.mp hp).elim (λz=>I.pin p (mem_append_left _ z)) (h p),I.hok,I.len⟩
theorem JX{N:List Str}(hN:N.Nodup){i j:Nat}{x:Str}(a:N[i]? =some x)(b:N[j]? =some x):i=j:=by
 obtain⟨h1,e1⟩:=List.getElem?_eq_some_iff.mp a;obtain⟨h2,e2⟩:=List.getElem?_eq_some_iff.mp b;exact(List.getElem_inj hN).mp (e1.trans e2.symm)
theorem GQ{H:Hp}{M:Model}{A:Around}{E:Value->Shared->Prop}{i:Nat}{x:Str}{Q:Unit->Shared->Prop}(I:Inv X pins σ H s)(hN:X.N.Nodup)(hi:X.N[i]? =some x)(hx:Loc X.env.scope x)(r:RelV v u)
  (h:∀s',Inv X pins (σ.set i (some v)) H s'->(∃a,Heap.SameBut a s.heap s'.heap/\(a=X.env.locals\/X.env.cells.lookup x=some a))->Q () s')(hf:X.fn x=true\/X.env.scope.names.lookup x=some .local):wpAny M A (storeName X.env x u) Q E s:=by
 obtain⟨m,hn,hl⟩:=id I.loc;have B:(X.env.scope.kind==.class||(X.env.scope.kind==.module&&X.env.locals !=X.env.globals))=false:=by rw[I.ok.kind];rfl
 have hiσ:i<σ.length:=by rw[I.len];exact(List.getElem?_eq_some_iff.mp hi).1
 have C:=I.cne;have f:∀ {a:Addr} {h':Heap},(∃o,s.heap.get? a=some o/\H a=none)->Heap.SameBut a s.heap h'->HOk X.prog X.w H h':=λ{a h'} ha hs b ob e=>by
  obtain⟨_,_,g⟩:=ha;refine(I.hok b ob e).stay (λc w' hc q=>(hs.2 c ?_).trans q) (λ_ q=>q) λ_ _ q=>q;rintro rfl;rcases hc with rfl|hc
  ·rw[g]at e;cases e
  ·rw[g]at hc;cases hc
 rcases hx with hk|hk
 ·refine wpAny_storeName_local hk hn (λh' L hs=> ?_) B;obtain⟨oL,_,_,J,_⟩:=id hn;refine h _ ⟨I.ok,I.os,I.bare,⟨λb o e n hb hx=> ?_,λb o e n hb hx=> ?_,I.base.free,λb o e hx=> ?_,I.base.tups,I.base.frzs,I.base.tbls⟩,⟨_,L,λj y v' e1 e2 e3=> ?_⟩,λy c e=> ?_,I.free,I.freeC,λp hp=> ?_,f ⟨oL,J,I.free⟩ hs,by simpa using I.len⟩ ⟨_,hs,.inl rfl⟩
  ·exact(hs.2 b (ne_of_lt (lt_of_lt_of_le (lt_size e) I.ok.above))).trans (I.base.keep b o e n hb hx)
  ·obtain⟨sl,e1⟩:=I.base.slot b o e n hb hx;exact⟨sl,(hs.2 b (ne_of_lt (lt_of_lt_of_le (lt_size e) I.ok.above))).trans e1⟩
  ·obtain⟨o',e1⟩:=I.base.there b o e hx;exact⟨o',(hs.2 b (ne_of_lt (lt_of_lt_of_le (lt_size e) I.ok.above))).trans e1⟩
  ·by_cases hj:j=i
   ·subst hj;rw[hi]at e1;cases e1;rw[List.getElem?_set_self hiσ]at e2;cases e2;exact⟨u,r,.inl ⟨hk,by simp⟩⟩
   ·rw[List.getElem?_set_ne (Ne.symm hj)]at e2;obtain⟨u',r',q⟩:=hl j y v' e1 e2 e3;refine⟨u',r', ?_⟩;rcases q with⟨k,e⟩|⟨k,c,e,z⟩
    ·refine .inl ⟨k, ?_⟩;have:y≠x:=λe=>hj (JX hN e1 (e▸hi));simp[this,e]
    ·exact .inr ⟨k,c,e,z.sameBut hs (C y c e)⟩
  ·obtain⟨w',z⟩:=I.cell y c e;exact⟨w',z.sameBut hs (C y c e)⟩
  ·obtain⟨e,n,ne,nf,d⟩:=I.pin p hp;exact⟨(hs.2 p.1 ne).trans e,n,ne,nf,d⟩
 ·have t:X.fn x=true:=by
   rcases hf with z|z
   ·exact z
   ·rw[z]at hk;cases hk
  obtain⟨c,hc⟩:=I.ok.has x (.inl hk);obtain⟨w',z⟩:=I.cell x c hc;refine wpAny_storeName_cell I.ok.kind hk hc z (λh' G hs=> ?_);obtain⟨oc,D,l⟩:=id z;refine h {s with heap:=h'} ⟨I.ok,I.os,I.bare,⟨λb o e n hb hx=> ?_,λb o e n hb hx=> ?_,I.base.free,λb o e hx=> ?_,I.base.tups,I.base.frzs,I.base.tbls⟩,⟨m,hn.sameBut hs (Ne.symm (C x c hc)),λj y v' e1 e2 e3=> ?_⟩,λy c' e=> ?_,I.free,I.freeC,λp hp=> ?_,f ⟨oc,D,I.freeC x c hc⟩ hs,by simpa using I.len⟩ ⟨c,hs,.inr hc⟩
  ·exact(hs.2 b (ne_of_lt (lt_of_lt_of_le (lt_size e) (I.ok.cab x c t hc)))).trans (I.base.keep b o e n hb hx)
  ·obtain⟨sl,e1⟩:=I.base.slot b o e n hb hx;exact⟨sl,(hs.2 b (ne_of_lt (lt_of_lt_of_le (lt_size e) (I.ok.cab x c t hc)))).trans e1⟩
  ·obtain⟨o',e1⟩:=I.base.there b o e hx;exact⟨o',(hs.2 b (ne_of_lt (lt_of_lt_of_le (lt_size e) (I.ok.cab x c t hc)))).trans e1⟩
  ·by_cases hj:j=i
   ·subst hj;rw[hi]at e1;cases e1;rw[List.getElem?_set_self hiσ]at e2;cases e2;exact⟨u,r,.inr ⟨.inl hk,c,hc,G⟩⟩
   ·rw[List.getElem?_set_ne (Ne.symm hj)]at e2;obtain⟨u',r',q⟩:=hl j y v' e1 e2 e3;refine⟨u',r', ?_⟩;rcases q with q|⟨k,c',e,z'⟩
    ·exact .inl q
    ·refine .inr ⟨k,c',e,z'.sameBut hs ?_⟩;rintro rfl;exact hj (JX hN e1 (I.ok.inj _ _ _ e hc▸hi))
  ·by_cases F:c'=c
   ·subst F;exact⟨_,G⟩
   ·obtain⟨w2,z2⟩:=I.cell y c' e;exact⟨w2,z2.sameBut hs F⟩
  ·obtain⟨e,n,ne,nf,d⟩:=I.pin p hp;refine⟨(hs.2 p.1 ?_).trans e,n,ne,nf,d⟩;intro q;rw[q,D]at e;have q':oc=p.2:=Option.some.inj e;exact d w' (by rw[<-q'];exact l)
theorem EL{H:Hp}{M:Model}{A:Around}{E:Value->Shared->Prop}{i:Nat}{x:Str}{Q:Unit->Shared->Prop}(I:Inv X pins σ H s)(hN:X.N.Nodup)(hi:X.N[i]? =some x)(hx:Loc X.env.scope x)(r:RelV v u)
  (h:∀s',Inv X pins (σ.set i (some v)) H s'->Q () s')(hf:X.fn x=true\/X.env.scope.names.lookup x=some .local):wpAny M A (storeName X.env x u) Q E s:=
 GQ I hN hi hx r (λs' I' _=>h s' I') hf
theorem Inv.call'{H:Hp}{s':Shared}(I:Inv X pins σ H s)(ho:s'.os=s.os)(u:Un (frs X.stack) ch H H' s.heap s'.heap)(hok:HOk X.prog X.w H' s'.heap)(hg:AllBare s'.gens)
  (hch:∀b∈ch,(b∈X.ex\/X.s₀.heap.objs.size<=b)/\b≠X.env.locals/\(∀x c,X.env.cells.lookup x=some c->c≠b)/\∀p∈X.pn++pins,p.1≠b):Inv X pins σ H' s':=by
 obtain⟨h',g',d',t',o'⟩:=s';have e:o'=s.os:=ho;subst e;exact I.call (g':=g') (t':=t') (d':=d') u hok hg hch
end
noncomputable abbrev XK:=Value->Option Addr->Hp->Prop
noncomputable abbrev St:=List (Option V)
noncomputable abbrev VK:=V->Hp->Prop
noncomputable abbrev TE:=St->Hp->VK->Prop
noncomputable abbrev TT:=St->Hp->(Bool->Hp->Prop)->Prop
noncomputable abbrev TA:=St->Hp->(List V->Hp->Prop)->Prop
structure Ends where
 nx:St->Hp->Prop
 rt:VK
 bk:St->Hp->Prop:=λ_ _=>False
 ct:St->Hp->Prop:=λ_ _=>False
noncomputable abbrev TS:=Ends->St->Hp->Prop
noncomputable def EP(X:Cx)(pins:List (Addr×Obj))(σ:St)(Q:VK)(u:Value)(s':Shared):Prop:=∃v H',Inv X pins σ H' s'/\RelV v u/\Q v H'
noncomputable def TP(X:Cx)(pins:List (Addr×Obj))(σ:St)(Q:Bool->Hp->Prop)(b:Bool)(s':Shared):Prop:=∃H',Inv X pins σ H' s'/\Q b H'
noncomputable def AP(X:Cx)(pins:List (Addr×Obj))(σ:St)(Q:List V->Hp->Prop)(us:List Value)(s':Shared):Prop:=∃vs H',Inv X pins σ H' s'/\Vals vs us/\Q vs H'
noncomputable def SP(X:Cx)(pins:List (Addr×Obj))(D:Ends)(f:Flow)(s':Shared):Prop:=
 match f with
 | .next=>∃σ' H',Inv X pins σ' H' s'/\D.nx σ' H'
 | .brk=>∃σ' H',Inv X pins σ' H' s'/\D.bk σ' H'
 | .cont=>∃σ' H',Inv X pins σ' H' s'/\D.ct σ' H'
 | .ret u=>∃v σ' H',Inv X pins σ' H' s'/\RelV v u/\D.rt v H'
noncomputable def PE(X:Cx)(e:Expr)(t:TE):Prop:=
 ∀(pins:List (Addr×Obj)) (s:Shared) (σ:St) (H:Hp) (Q:VK),Inv X pins σ H s->t σ H Q->wpAny (model X.prog X.w) X.A (eval e X.env) (EP X pins σ Q) X.xe s
noncomputable def PT(X:Cx)(e:Expr)(t:TT):Prop:=
 ∀(pins:List (Addr×Obj)) (s:Shared) (σ:St) (H:Hp) (Q:Bool->Hp->Prop),Inv X pins σ H s->t σ H Q->wpAny (model X.prog X.w) X.A (isTrue e X.env (eval e X.env)) (TP X pins σ Q) X.xe s
noncomputable def PW(X:Cx)(e:Expr)(t:TT):Prop:=
 ∀(whole:Sem Value) (pins:List (Addr×Obj)) (s:Shared) (σ:St) (H:Hp) (Q:Bool->Hp->Prop),Inv X pins σ H s->t σ H Q->wpAny (model X.prog X.w) X.A (isTrue e X.env whole) (TP X pins σ Q) X.xe s
theorem PW.pt(h:PW X e t):PT X e t:=h _
noncomputable def PA(X:Cx)(es:List Expr)(t:TA):Prop:=
 ∀(pos:Pos) (pins:List (Addr×Obj)) (s:Shared) (σ:St) (H:Hp) (Q:List V->Hp->Prop),Inv X pins σ H s->t σ H Q->wpAny (model X.prog X.w) X.A (spliced (backTo pos (starEach es X.env))) (AP X pins σ Q) X.xe s
noncomputable def PS(X:Cx)(st:Stmt)(t:TS):Prop:=
 ∀(pins:List (Addr×Obj)) (s:Shared) (σ:St) (H:Hp) (D:Ends),Inv X pins σ H s->t D σ H->wpAny (model X.prog X.w) X.A (exec st X.env) (SP X pins D) X.xe s
noncomputable def PSs(X:Cx)(st:List Stmt)(t:TS):Prop:=
 ∀(pins:List (Addr×Obj)) (s:Shared) (σ:St) (H:Hp) (D:Ends),Inv X pins σ H s->t D σ H->wpAny (model X.prog X.w) X.A (execs st X.env) (SP X pins D) X.xe s
theorem thn{α:Type}{t:Sem α}{Q Q':α->Shared->Prop}{M:Model}{A:Around}{E:Value->Shared->Prop}{s:Shared}(h:wpAny M A t Q E s)(hQ:∀a s,Q a s->Q' a s):wpAny M A t Q' E s:=wpAny_mono h hQ λ_ _ x=>x
section
inductive tVar(i:Nat)(σ:St)(H:Hp)(Q:VK):Prop
 |mk:∀v,(σ[i]? =some (some v))->(Q v H)->tVar i σ H Q
noncomputable def tC(v:V):TE:=λ_ H Q=>Q v H
theorem ccZ{X:Cx}{i:Nat}{x:Str}(hN:X.N[i]? =some x)(hv:Vis X.env.scope x)(hd:(x==("__debug__":Str))=false)(hcd:(x==("__classdict__":Str))=false):PE X (.Name x pos) (tVar i):=by
 intro b s σ H Q I h;obtain⟨v,e,h⟩:=h;obtain⟨m,hn,hl⟩:=I.loc;obtain⟨u,r,l⟩:=hl i x v hN e hv;have d:EP X b σ Q u s:=⟨v,H,I,r,h⟩;rcases l with⟨hk,hm⟩|⟨hk,c,hc,a⟩
 ·exact wpAny_Name (wpAny_loadName_local I.ok.kind hk hn hm d) hd
 ·rcases hk with hk|hk
  ·exact wpAny_Name (wpAny_loadName_cell I.ok.kind hk hc a d) hd
  ·exact wpAny_Name (wpAny_loadName_free I.ok.kind hk hc a d hcd) hd
theorem B0{i j pos}:PE X (.Constant (.int i) j pos) (tC (.int i)):=λ_ _ _ H _ I h=>wpAny_Constant_int ⟨.int i,H,I.tok _,⟨_,rfl⟩,h⟩
theorem O3{b j pos}:PE X (.Constant (.bool b) j pos) (tC (.bl b)):=λ_ _ _ H _ I h=>Constant_bool ⟨.bl b,H,I,rfl,h⟩
theorem K4{j pos}:PE X (.Constant .none j pos) (tC .non):=λ_ _ _ H _ I h=>Constant_none ⟨.non,H,I,rfl,h⟩
theorem B8{x j pos}:PE X (.Constant (.str x) j pos) (tC (.str x)):=λ_ _ _ H _ I h=>Calls.Constant_str ⟨.str x,H,I.tok _,⟨_,rfl⟩,h⟩
noncomputable def Gl(X:Cx)(x:Str):Prop:=X.env.kindOf x=some .globalImplicit
theorem AD{H:Hp}{u:Value}{Q:Value->Shared->Prop}(I:Inv X pins σ H s)(hg:Gl X x)(hm:X.mg x=some u)(h:Q u s)
  (hd:(x==("__debug__":Str))=false):wpAny (model X.prog X.w) X.A (eval (.Name x pos) X.env) Q E s:=
 Calls.Name_function_global I.ok.kind hg (Calls.loadGlobal_global (by rw[I.ok.glob];exact I.mod.glob.keeps I.bk) hm h) hd
theorem X4{H:Hp}{u:Value}{Q:Value->Shared->Prop}(I:Inv X pins σ H s)(hg:Gl X x)(hm:X.mg x=none)(hv:bootBuiltins x=some u)(h:Q u s)
  (hn:x≠ "__name__":=by decide)(hd:(x==("__debug__":Str))=false:=by decide):wpAny (model X.prog X.w) X.A (eval (.Name x pos) X.env) Q E s:=by
 obtain⟨mb,h1,h2⟩:=I.mod.blt;exact Calls.Name_function_global I.ok.kind hg (Calls.loadGlobal_builtin (by rw[I.ok.glob];exact I.mod.glob.keeps I.bk) hm (by rw[I.ok.blt];exact h1.keeps I.bk) ((h2 x hn).trans hv) h) hd
theorem Z2{u:Value}(hg:Gl X x)(hm:X.mg x=some u)(r:RelV v u)(hd:(x==("__debug__":Str))=false:=by decide):PE X (.Name x pos) (tC v):=
 λ_ _ _ H _ I h=>AD I hg hm ⟨v,H,I,r,h⟩ hd
theorem F8{u:Value}(hg:Gl X x)(hm:X.mg x=none)(hv:bootBuiltins x=some u)(r:RelV v u)(hn:x≠ "__name__":=by decide)(hd:(x==("__debug__":Str))=false:=by decide):PE X (.Name x pos) (tC v):=
 λ_ _ _ H _ I h=>X4 I hg hm hv ⟨v,H,I,r,h⟩ hn hd
inductive tBW(Q:Bool->Hp->Prop)(x:V)(H1:Hp):Prop
 |mk:∀c,(x=.bl c)->(Q c H1)->tBW Q x H1
noncomputable def tB(t:TE):TT:=fun σ H Q=>t σ H λx H1=>tBW Q x H1
noncomputable def dRZ(t u:TT):TT:=fun σ H Q=>t σ H λc H1=>if c=true then u σ H1 Q else Q false H1
noncomputable def tOr(t u:TT):TT:=fun σ H Q=>t σ H λc H1=>if c=true then Q true H1 else u σ H1 Q
noncomputable def c6Z(t:TT):TT:=fun σ H Q=>t σ H λc H1=>Q (!c) H1
theorem O6(ha:PT X a tA):PW X (.BoolOp .And [a] pos) tA:=by
 intro wh b s σ H Q I h;refine isTrue_and (thn (ha b s σ H Q I h) λc s1 e=> ?_);cases c with
 |true=>exact isTrue_and_nil e
 |false=>exact e
theorem O0(ha:PT X a tA):PW X (.BoolOp .Or [a] pos) tA:=by
 intro wh b s σ H Q I h;refine isTrue_or (thn (ha b s σ H Q I h) λc s1 e=> ?_);cases c with
 |false=>exact isTrue_or_nil e
 |true=>exact e
theorem R8{b:Expr}{rest:List Expr}(ha:PT X a tA)(hb:PW X (.BoolOp .And (b::rest) pos) tB'):PW X (.BoolOp .And (a::b::rest) pos) (dRZ tA tB'):=by
 intro wh d s σ H Q I h;refine isTrue_and (thn (ha d s σ H _ I h) λc s1 ⟨H1,I1,q1⟩=> ?_);cases c with
 |true=>exact hb wh d s1 σ H1 Q I1 q1
 |false=>exact⟨H1,I1,q1⟩
theorem P0{b:Expr}{rest:List Expr}(ha:PT X a tA)(hb:PW X (.BoolOp .Or (b::rest) pos) tB'):PW X (.BoolOp .Or (a::b::rest) pos) (tOr tA tB'):=by
 intro wh d s σ H Q I h;refine isTrue_or (thn (ha d s σ H _ I h) λc s1 ⟨H1,I1,q1⟩=> ?_);cases c with
 |true=>exact⟨H1,I1,q1⟩
 |false=>exact hb wh d s1 σ H1 Q I1 q1
theorem L9(ha:PT X a tA):PT X (.UnaryOp .Not a pos) (c6Z tA):=by
 intro b s σ H Q I h;exact isTrue_not (ha b s σ H (λc H1=>Q (!c) H1) I h)
noncomputable def dmZ(ta tb:TE):TE:=fun σ H Q=>ta σ H λx H1=>∃c,x=.bl c/\if c=true then tb σ H1 Q else Q (.bl false) H1
noncomputable def dfZ(ta:TE):TE:=fun σ H Q=>ta σ H λx H1=>∃c,x=.bl c/\Q (.bl (!c)) H1
theorem Y3{op}(h:PE X a t):PE X (.BoolOp op [a] pos) t:=λb s σ H Q I hw=>BoolOp_one (h b s σ H Q I hw)
theorem T4{b:Expr}{rest:List Expr}(ha:PE X a ta)(hb:PE X (.BoolOp .And (b::rest) pos) tb):PE X (.BoolOp .And (a::b::rest) pos) (dmZ ta tb):=by
 intro d s σ H Q I h;refine BoolOp_and (thn (ha d s σ H _ I h) λv s1 ⟨x,H1,I1,r1,q1⟩=> ?_);obtain⟨c,rfl,q1⟩:=q1;cases r1;refine wpAny_truthy_bool ?_;cases c with
 |true=>exact hb d s1 σ H1 Q I1 q1
 |false=>exact⟨.bl false,H1,I1,rfl,q1⟩
theorem TF(ha:PE X a ta):PE X (.UnaryOp .Not a pos) (dfZ ta):=by
 intro b s σ H Q I h;refine UnaryOp_ (thn (ha b s σ H _ I h) λv s1 ⟨x,H1,I1,r1,q1⟩=> ?_);obtain⟨c,rfl,q1⟩:=q1;cases r1;exact not_of (wpAny_truthy_bool ⟨.bl (!c),H1,I1,rfl,q1⟩)
noncomputable def tIf(t:TT)(ta tb:TE):TE:=fun σ H Q=>t σ H λc H1=>if c=true then ta σ H1 Q else tb σ H1 Q
theorem M8(hc:PT X c tA)(ha:PE X a ta)(hb:PE X b tb):PE X (.IfExp c a b pos) (tIf tA ta tb):=by
 intro e s σ H Q I h;refine wpAny_IfExp (thn (hc e s σ H _ I h) λd s1 ⟨H1,I1,q1⟩=> ?_);cases d with
 |true=>exact ha e s1 σ H1 Q I1 q1
 |false=>exact hb e s1 σ H1 Q I1 q1
end
noncomputable def SqL(Z:FZ)(H:Hp)(a:Addr)(xs:List V):Prop:=
 Rd H a (.lst xs)\/
  ∃(o:Obj) (its:Array Value) (n:Nat),Z.lookup a=some o/\o.cls=.type "list"/\o.dict=none/\o.data=.seq its n/\its.size<=sizeLine/\Vals xs its.toList
noncomputable def SqT(Z:FZ)(H:Hp)(a:Addr)(xs:List V):Prop:=
 Rd H a (.tup xs)\/
  ∃(o:Obj) (its:Array Value) (n:Nat),Z.lookup a=some o/\o.cls=.type "tuple"/\o.data=.seq its n/\its.size<=sizeLine/\Vals xs its.toList
noncomputable def ebZ:Value->Option V
 | .none=>some .non
 | .bool b=>some (.bl b)
 | .int i _=>some (.int i)
 | .str x _=>some (.str x)
 | .bytes b _=>some (.byt b)
 | .float b _=>some (.flt b)
 | .ref a=>some (.ref a)
 | .type n=>some (.ty n)
 |_=>none
theorem RelV.abs(r:RelV x u):ebZ u=some x:=by
 cases x with
 |non=>cases r;rfl
 |bl _=>cases r;rfl
 |int _=>obtain⟨t,rfl⟩:=r;rfl
 |str _=>obtain⟨t,rfl⟩:=r;rfl
 |byt _=>obtain⟨t,rfl⟩:=r;rfl
 |flt _=>obtain⟨t,rfl⟩:=r;rfl
 |ref _=>cases r;rfl
 |ty _=>cases r;rfl
theorem RelV.inj(r:RelV x u)(q:RelV y u):x=y:=Option.some.inj (r.abs.symm.trans q.abs)
theorem Vals.inj:∀ {xs ys:List V} {us:List Value},Vals xs us->Vals ys us->xs=ys
 |_,_,_,.nil,.nil=>rfl
 |_,_,_,.cons r t,.cons r' t'=>by rw[r.inj r',Vals.inj t t']
section
theorem SqL.of{H:Hp}{a:Addr}(h:H a=some (.lst xs)):SqL Z H a xs:=.inl (.inl h)
theorem SqT.of{H:Hp}{a:Addr}(h:H a=some (.tup xs)):SqT Z H a xs:=.inl (.inl h)
theorem Inv.list{H:Hp}(I:Inv X pins σ H s)(h:SqL X.K H a xs):∃its:List Value,Vals xs its/\PlainL s.heap a its.toArray/\xs.length<=sizeLine:=by
 rcases h with h|⟨o,its,n,hk,hc,hd,hs,hz,r⟩
 ·obtain⟨z,its,n,r,e⟩:=h.ok I.hok;exact⟨its,r,⟨_,n,e,rfl,rfl,rfl⟩,z⟩
 ·refine⟨its.toList,r,⟨o,n,I.kIn a o hk,hc,hd,by simpa using hs⟩, ?_⟩;have e:=r.length;simp only[Array.length_toList]at e;omega
theorem Inv.tuple{H:Hp}(I:Inv X pins σ H s)(h:SqT X.K H a xs):∃its:List Value,Vals xs its/\IsTup s.heap a its.toArray/\xs.length<=sizeLine:=by
 rcases h with h|⟨o,its,n,hk,hc,hs,hz,r⟩
 ·obtain⟨z,its,r,p⟩:=h.ok I.hok;exact⟨its,r,p,z⟩
 ·refine⟨its.toList,r,⟨o,I.kIn a o hk,hc,n,by simpa using hs⟩, ?_⟩;have e:=r.length;simp only[Array.length_toList]at e;omega
theorem Inv.list_inj{H:Hp}(I:Inv X pins σ H s)(h:SqL X.K H a xs)(h':SqL X.K H a ys):xs=ys:=by
 obtain⟨c,r,⟨o,n,e,_,_,d⟩,_⟩:=I.list h;obtain⟨b,r',⟨o',n',e',_,_,d'⟩,_⟩:=I.list h';rw[e]at e';cases e';rw[d]at d';injection d' with d1 _
 have:c=b:=by simpa using congrArg Array.toList d1
 subst this;exact r.inj r'
theorem Inv.tuple_inj{H:Hp}(I:Inv X pins σ H s)(h:SqT X.K H a xs)(h':SqT X.K H a ys):xs=ys:=by
 obtain⟨c,r,⟨o,e,_,n,d⟩,_⟩:=I.tuple h;obtain⟨b,r',⟨o',e',_,n',d'⟩,_⟩:=I.tuple h';rw[e]at e';cases e';rw[d]at d';injection d' with d1 _
 have:c=b:=by simpa using congrArg Array.toList d1
 subst this;exact r.inj r'
end
noncomputable abbrev Cx.wish(X:Cx)(E:Value->Shared->Prop):Cx:={X with xe:=E}
noncomputable abbrev Cx.nox(X:Cx):Cx:=X.wish λ_ _=>False
theorem Cx.Ok.wish{X:Cx}(ok:X.Ok)(E:Value->Shared->Prop):(X.wish E).Ok:=
 ⟨ok.mod,ok.kind,ok.glob,ok.blt,ok.above,ok.inj,ok.has,ok.cab,ok.hd,ok.frames,ok.stk,ok.exf,ok.bs,ok.bsz,ok.noex,ok.exfs,ok.funs,ok.frf⟩
theorem Cx.Ok.unwish{X:Cx}(ok:(X.wish E).Ok):X.Ok:=
 ⟨ok.mod,ok.kind,ok.glob,ok.blt,ok.above,ok.inj,ok.has,ok.cab,ok.hd,ok.frames,ok.stk,ok.exf,ok.bs,ok.bsz,ok.noex,ok.exfs,ok.funs,ok.frf⟩
section
theorem Inv.wish{H:Hp}(I:Inv X pins σ H s)(E:Value->Shared->Prop):Inv (X.wish E) pins σ H s:=⟨I.ok.wish E,I.os,I.bare,I.base,I.loc,I.cell,I.free,I.freeC,I.pin,I.hok,I.len⟩
theorem Inv.unwish{X:Cx}{H:Hp}(I:Inv (X.wish E) pins σ H s):Inv X pins σ H s:=⟨I.ok.unwish,I.os,I.bare,I.base,I.loc,I.cell,I.free,I.freeC,I.pin,I.hok,I.len⟩
theorem SP.unwish{X:Cx}(h:SP (X.wish E) pins D f s'):SP X pins D f s':=by
 cases f with
 |next=>obtain⟨σ',H',I,q⟩:=h;exact⟨σ',H',I.unwish,q⟩
 |brk=>obtain⟨σ',H',I,q⟩:=h;exact⟨σ',H',I.unwish,q⟩
 |cont=>obtain⟨σ',H',I,q⟩:=h;exact⟨σ',H',I.unwish,q⟩
 |ret u=>obtain⟨v,σ',H',I,r,q⟩:=h;exact⟨v,σ',H',I.unwish,r,q⟩
theorem PSs.nox{X:Cx}{st:List Stmt}(h:PSs X.nox st t):PSs X st t:=λa s σ H D I hw=>
 wpAny_mono (h a s σ H D (I.wish _) hw) (λ_ _ q=>q.unwish) λ_ _ z=>False.elim z
noncomputable def aOZ:TS:=λD σ H=>D.nx σ H
noncomputable def K0(t u:TS):TS:=λD σ H=>t {D with nx:=u D} σ H
theorem C4:PSs X [] aOZ:=λ_ _ σ H _ I h=>wpAny_execs_nil ⟨σ,H,I,h⟩
theorem A9{st:Stmt}(h1:PS X st t)(h2:PSs X rest u):PSs X (st::rest) (K0 t u):=by
 intro a s σ H D I h;refine wpAny_execs_cons (thn (h1 a s σ H {D with nx:=u D} I h) λf s1 q=> ?_);cases f with
 |next=>
  obtain⟨σ',H',I',q⟩:=q;exact h2 a s1 σ' H' D I' q
 |ret v=>exact q
 |brk=>exact q
 |cont=>exact q
theorem B5{st:Stmt}(h1:PS X st t):PSs X [st] t:=by
 intro a s σ H D I h;refine wpAny_execs_cons (thn (h1 a s σ H D I h) λf s1 q=> ?_);cases f with
 |next=>exact wpAny_execs_nil q
 |ret v=>exact q
 |brk=>exact q
 |cont=>exact q
theorem Inv.quiet{H:Hp}(I:Inv X pins σ H s):interactive X.env=false:=by simp[interactive,I.ok.kind]
noncomputable def dsZ(te:TE):TS:=λD σ H=>te σ H λ_ H1=>D.nx σ H1
theorem C5{pos:Pos}(he:PE X e te)(hs:swapsWith e none pos.line X.env=pure false:=by rfl):PS X (.Expr e pos) (dsZ te):=by
 intro a s σ H D I h;exact wpAny_Expr_any (thn (he a s σ H _ I h) λv s1 ⟨x,H1,I1,r1,q1⟩=>⟨σ,H1,I1,q1⟩) I.quiet hs
noncomputable def dwZ(te:TE):TS:=λD σ H=>te σ H D.rt
theorem C2(he:PE X e te):PS X (.Return (some e) pos) (dwZ te):=by
 intro a s σ H D I h;exact wpAny_Return_some (thn (he a s σ H _ I h) λv s1 ⟨x,H1,I1,r1,q1⟩=>⟨x,σ,H1,I1,r1,q1⟩)
noncomputable def c8Z:TS:=λD _ H=>D.rt .non H
theorem T3:PS X (.Return none pos) c8Z:=λ_ _ σ H _ I h=>wpAny_Return_none ⟨.non,σ,H,I,rfl,h⟩
noncomputable def c9Z(c:TT)(t u:TS):TS:=λD σ H=>c σ H λb H1=>if b=true then t D σ H1 else u D σ H1
theorem D2(hc:PT X c tc)(ha:PSs X a t)(hb:PSs X b u):PS X (.If c a b pos) (c9Z tc t u):=by
 intro e s σ H D I h;refine wpAny_If (thn (hc e s σ H _ I h) λd s1 ⟨H1,I1,q1⟩=> ?_);cases d with
 |true=>exact ha e s1 σ H1 D I1 q1
 |false=>exact hb e s1 σ H1 D I1 q1
end
noncomputable abbrev TG:=V->St->Hp->(St->Hp->Prop)->Prop
noncomputable abbrev TGs:=List V->St->Hp->(St->Hp->Prop)->Prop
noncomputable def _P(X:Cx)(target:Expr)(t:TG):Prop:=
 ∀(pins:List (Addr×Obj)) (s:Shared) (σ:St) (H:Hp) (v:V) (u:Value) (Q:St->Hp->Prop),Inv X pins σ H s->RelV v u->t v σ H Q->
  wpAny (model X.prog X.w) X.A (assign target X.env u) (λ_ s'=>∃σ' H',Inv X pins σ' H' s'/\Q σ' H') X.xe s
noncomputable def PGs(X:Cx)(ts:List Expr)(t:TGs):Prop:=
 ∀(pins:List (Addr×Obj)) (s:Shared) (σ:St) (H:Hp) (vs:List V) (us:List Value) (Q:St->Hp->Prop),Inv X pins σ H s->Vals vs us->t vs σ H Q->
  wpAny (model X.prog X.w) X.A (assignInOrder ((assignEach ts X.env).map (·.2)) us) (λ_ s'=>∃σ' H',Inv X pins σ' H' s'/\Q σ' H') X.xe s
noncomputable abbrev b4Z:=V->V->V->Hp->(Hp->Prop)->Prop
noncomputable def bZZ(X:Cx)(t:b4Z):Prop:=
 ∀(pins:List (Addr×Obj)) (s:Shared) (σ:St) (H:Hp) (o i v:V) (ov iv u:Value) (Q:Hp->Prop),Inv X pins σ H s->RelV o ov->RelV i iv->RelV v u->t o i v H Q->
  wpAny (model X.prog X.w) X.A (setItem ov iv u) (λ_ s'=>∃H',Inv X pins σ H' s'/\Q H') X.xe s
section
noncomputable def KS(i:Nat):TG:=λv σ H Q=>Q (σ.set i (some v)) H
theorem YX{i:Nat}{x:Str}(hN:X.N.Nodup)(hi:X.N[i]? =some x)(hx:Loc X.env.scope x)(hf:X.fn x=true\/X.env.scope.names.lookup x=some .local):_P X (.Name x pos) (KS i):=by
 intro a s σ H v u Q I r h;exact wpAny_assign_Name (EL I hN hi hx r (λs' I'=>⟨_,H,I',h⟩) hf)
noncomputable def dQZ:TGs:=λvs σ H Q=>vs=[]/\Q σ H
noncomputable def cRZ(t:TG)(u:TGs):TGs:=λvs σ H Q=>∃v r,vs=v::r/\t v σ H fun σ' H'=>u r σ' H' Q
theorem Z7:PGs X [] dQZ:=by
 intro a s σ H vs us Q I r h;obtain⟨e,h⟩:=h;subst e;cases r;exact assignInOrder_nil ⟨σ,H,I,h⟩
theorem L0(h1:_P X e t)(h2:PGs X es u)
  (hs:(assignEach (e::es) X.env).map (·.2)=assign e X.env::(assignEach es X.env).map (·.2):=by rfl):PGs X (e::es) (cRZ t u):=by
 intro a s σ H vs us Q I r h;obtain⟨v,vr,e1,h⟩:=h;subst e1;cases r with
 |cons r rr=>
  rw[hs];refine assignInOrder_cons (thn (h1 a s σ H _ _ _ I r h) λ_ s1 ⟨σ1,H1,I1,q1⟩=> ?_);exact h2 a s1 σ1 H1 _ _ Q I1 rr q1
noncomputable def d6Z(Z:FZ)(n:Nat)(t:TGs):TG:=λv σ H Q=>∃a xs,v=.ref a/\SqT Z H a xs/\xs.length=n/\t xs σ H Q
theorem DD{X:Cx}{n:Nat}(hc:X.calm=true)(h:PGs X es t)
  (hn:(assignEach es X.env).length=n:=by rfl)(hst:(assignEach es X.env).findIdx? (·.1)=none:=by rfl):_P X (.Tuple es k pos) (d6Z X.K n t):=by
 intro c s σ H v u Q I r hw;obtain⟨a,xs,e1,hq,hl,hw⟩:=hw;subst e1;cases r;obtain⟨d,rv,ht,hz⟩:=I.tuple hq;refine assign_Tuple_tuple (I.ok.hd hc) ht (by simp[hn,<-hl,rv.length]) hst λh' hx=> ?_;have I1:Inv X c σ H {s with heap:=h'}:=I.kept (t':=s.toks) λb o e=>hx b o (ne_of_lt (lt_size e)) e;exact h c _ σ H xs _ Q I1 (by simpa using rv) hw
noncomputable def dSZ(to ti:TE)(t:b4Z):TG:=λv σ H Q=>to σ H λo H1=>ti σ H1 λi H2=>t o i v H2 λH3=>Q σ H3
theorem N9(ho:PE X o to)(hi:PE X i ti)(hs:bZZ X t)
  (ha:∀v,assign (.Subscript o i pos) X.env v=(do
   let ov<-holding [v] (eval o X.env);let iv<-holding [v,ov] (eval i X.env)
   standAt pos
   holding [v,ov,iv] (setItem ov iv v)
   release [v,ov,iv] []):=by intro _;rfl):_P X (.Subscript o i pos) (dSZ to ti t):=by
 intro a s σ H v u Q I r h;rw[ha];refine bZ (wpAny_holding (thn (ho a s σ H _ I h) λov s1 ⟨x,H1,I1,r1,q1⟩=> ?_));refine bZ (wpAny_holding (thn (hi a s1 σ H1 _ I1 q1) λiv s2 ⟨y,H2,I2,r2,q2⟩=> ?_));refine bZ (wpAny_standAt (bZ (wpAny_holding (thn (hs a s2 σ H2 x y v ov iv u _ I2 r1 r2 r q2) λ_ s3 ⟨H3,I3,q3⟩=> ?_))));exact wpAny_release ⟨σ,H3,I3,q3⟩
noncomputable def adZ(te:TE)(g:TG):TS:=λD σ H=>te σ H λx H1=>g x σ H1 D.nx
theorem L8{pos:Pos}(he:PE X e te)(hg:_P X tg g)(hs:swapsWithSole [tg] e pos.line X.env=pure false:=by rfl)(hw:swappedStores [tg] e X.env=pure none:=by rfl)
  (h1:(assignEach [tg] X.env).map (·.2)=[assign tg X.env]:=by rfl):PS X (.Assign [tg] e pos) (adZ te g):=by
 intro a s σ H D I h;refine wpAny_Assign_stores (thn (he a s σ H _ I h) λv s1 ⟨x,H1,I1,r1,q1⟩=> ?_) hs hw;rw[h1];exact thn (hg a s1 σ H1 x v _ I1 r1 q1) λ_ s2 q=>q
theorem NA{X:Cx}{pos:Pos}{i:Nat}{x:Str}(hN:X.N.Nodup)(hi:X.N[i]? =some x)(hx:Loc X.env.scope x)(he:PE X e te)(hs:swapsWith e (some (.Name x pos')) pos.line X.env=pure false)(hf:X.fn x=true\/X.env.scope.names.lookup x=some .local):
  PS X (.Assign [.Name x pos'] e pos) (adZ te (KS i)):=by
 intro a s σ H D I h;refine wpAny_Assign_Name (thn (he a s σ H _ I h) λv s1 ⟨y,H1,I1,r1,q1⟩=> ?_) hs;exact EL I1 hN hi hx r1 (λs2 I2=>⟨_,H1,I2,q1⟩) hf
noncomputable def cgZ(c:TT)(tb:TS):TS:=λD σ H=>∃W:Nat->St->Hp->Prop,(∃m,W m σ H)/\∀m σ H,W m σ H->
 c σ H λb H1=>if b=true then∃N:St->Hp->Prop,(∀σ' H',N σ' H'->∃m',m'<m/\W m' σ' H')/\tb {D with nx:=N,ct:=N,bk:=D.nx} σ H1 else D.nx σ H1
theorem Z9{X:Cx}(hp:PassesOwn (model X.prog X.w) X.A X.env X.xe)(hc:PT X c tc)(hb:PSs X body tb):PS X (.While c body [] pos) (cgZ tc tb):=by
 intro a s σ H D I h;obtain⟨W,⟨m0,w0⟩,d⟩:=h;refine wpAny_While (codeAny_whileLoop (λn s'=>∃σ' H',Inv X a σ' H' s'/\W n σ' H') ?_ m0 ⟨σ,H,I,w0⟩);rintro n s1 ⟨σ1,H1,I1,w1⟩;refine wpAny_passesOwn hp (thn (hc a s1 σ1 H1 _ I1 (d n σ1 H1 w1)) λb s2 ⟨H2,I2,q2⟩=> ?_);cases b with
 |true=>
  obtain⟨N,hN,q2⟩:=q2;rw[if_pos rfl];refine wpAny_passesOwn hp (thn (hb a s2 σ1 H2 _ I2 q2) λf s3 q3=> ?_);cases f with
  |next=>
   obtain⟨σ3,H3,I3,n3⟩:=q3;obtain⟨m',hm,w3⟩:=hN σ3 H3 n3;exact⟨m',hm,σ3,H3,I3,w3⟩
  |cont=>
   obtain⟨σ3,H3,I3,n3⟩:=q3;obtain⟨m',hm,w3⟩:=hN σ3 H3 n3;exact⟨m',hm,σ3,H3,I3,w3⟩
  |brk=>exact q3
  |ret v=>exact q3
 |false=>
  rw[if_neg nZ];exact wpAny_execs_nil ⟨σ1,H2,I2,q2⟩
end
structure It where
 go:Nat->Hp->Prop
 yld:Nat->Hp->V->Hp->Prop
 stop:Nat->Hp->Prop
noncomputable def NQ(X:Cx)(pins:List (Addr×Obj))(H:Hp)(b:Addr):Prop:=
 H b=none/\b≠X.env.locals/\b∉X.fs/\(b∈X.ex\/X.s₀.heap.objs.size<=b)/\(∀x c,X.env.cells.lookup x=some c->c≠b)/\∀p∈X.pn++pins,p.1≠b
theorem Inv.fpOk{H H':Hp}{b:Addr}(I:Inv X pins σ H s)(hb:s.heap.objs.size<=b)(hn:H' b=none):NQ X pins H' b:=by
 refine⟨hn,Nat.ne_of_gt (lt_of_lt_of_le I.lt hb),I.nofs hb,.inr (le_trans I.sz hb),λx c e z=> ?_,λp hp z=> ?_⟩
 ·obtain⟨v,q⟩:=I.cell x c e;exact absurd (lt_of_lt_of_le q.lt (by rw[z];exact hb)) (lt_irrefl _)
 ·exact absurd (lt_of_lt_of_le (lt_size (I.pin p hp).1) (by rw[z];exact hb)) (lt_irrefl _)
structure Turn (P:Program) (w:World) (Z:FZ) (tg:Expr) (J:It) (fp:List Addr) (it:Addr) (tn:Nat->Heap->Prop):Prop where
 mem:it∈fp
 obj:∀i h,tn i h->∀b∈fp,∃o,h.get? b=some o/\∀v,o.data≠ .cell v
 keep:∀i h h',tn i h->(∀b∈fp,∀o,h.get? b=some o->h'.get? b=some o)->tn i h'
 item:∀(X:Cx),X.prog=P->X.w=w->X.K=Z->X.calm=true->∀(i:Nat) (pins:List (Addr×Obj)) (s:Shared) (σ:St) (H:Hp) (E:Value->Shared->Prop),Inv X pins σ H s->(∀b∈fp,NQ X pins H b)->tn i s.heap->J.go i H->
  wpAny (model P w) X.A (pyNext (.ref it)) (λr s1=>∃u,r=some u/\
   wpAny (model P w) X.A (letOwnedTupleGo tg (.ref it) u) (λ_ s2=>∃x H',Inv X pins σ H' s2/\RelV x u/\J.yld i H x H'/\tn (i+1) s2.heap/\∀b∈fp,H' b=none) E s1) E s
 done:∀(X:Cx),X.prog=P->X.w=w->X.K=Z->X.calm=true->∀(i:Nat) (pins:List (Addr×Obj)) (s:Shared) (σ:St) (H:Hp) (E:Value->Shared->Prop),Inv X pins σ H s->(∀b∈fp,NQ X pins H b)->tn i s.heap->J.stop i H->
  wpAny (model P w) X.A (pyNext (.ref it)) (λr s1=>r=none/\Inv X pins σ H s1) E s
 self:∀(A:Around) (i:Nat) (s:Shared) (Q:Value->Shared->Prop) (E:Value->Shared->Prop),tn i s.heap->Q (.ref it) s->wpAny (model P w) A (pyIter (.ref it)) Q E s
noncomputable abbrev TI:=St->Hp->(It->Hp->Prop)->Prop
noncomputable def PIE(X:Cx)(pins:List (Addr×Obj))(σ:St)(tg:Expr)(R:It->Hp->Prop)(itv:Value)(s2:Shared):Prop:=
 ∃(it:Addr) (fp:List Addr) (tn:Nat->Heap->Prop) (J:It) (H':Hp),itv=.ref it/\Inv X pins σ H' s2/\Turn X.prog X.w X.K tg J fp it tn/\tn 0 s2.heap/\(∀b∈fp,NQ X pins H' b)/\R J H'
noncomputable def PI(X:Cx)(tg iter:Expr)(wi:TI):Prop:=
 ∀(pins:List (Addr×Obj)) (s:Shared) (σ:St) (H:Hp) (R:It->Hp->Prop),Inv X pins σ H s->wi σ H R->
  wpAny (model X.prog X.w) X.A (eval iter X.env) (λv s1=>wpAny (model X.prog X.w) X.A (pyIter v) (PIE X pins σ tg R) X.xe s1) X.xe s
theorem PM{s:Shared}{it:Addr}{o:Obj}{Q:Unit->Shared->Prop}(ho:s.heap.get? it=some o)(hc:o.cls=.type n)(hd:o.data=.fields vs)
  (hn: ["enumerate","zip","dict_itemiterator","dict_reverseitemiterator","odict_iterator","itertools.zip_longest","itertools.pairwise"].contains n=false)(hQ:Q () s):wpAny M A (letOwnedTupleGo tg (.ref it) u) Q E s:=by
 unfold letOwnedTupleGo;cases tg<;>first
  |exact pZ hQ
  |(cases u<;>first
    |exact pZ hQ
    |(refine bZ (wpAny_load ho ?_)
      rw[hc,hd];show wpAny M A (if(["enumerate","zip","dict_itemiterator","dict_reverseitemiterator","odict_iterator","itertools.zip_longest","itertools.pairwise"].contains n&&vs[0]? ==some (rawInt _))=true then _ else _) Q E s;rw[if_neg (by intro h;rw[hn,Bool.false_and]at h;cases h)];exact pZ hQ))
noncomputable def Itl(Z:FZ)(a:Addr):It:=
 ⟨λi H=>∃xs x,SqL Z H a xs/\xs[i]? =some x,λi H x H'=>H'=H/\∀xs,SqL Z H a xs->xs[i]? =some x,λi H=>∃xs,SqL Z H a xs/\xs.length<=i⟩
noncomputable def Itt(Z:FZ)(a:Addr):It:=
 ⟨λi H=>∃xs x,SqT Z H a xs/\xs[i]? =some x,λi H x H'=>H'=H/\∀xs,SqT Z H a xs->xs[i]? =some x,λi H=>∃xs,SqT Z H a xs/\xs.length<=i⟩
noncomputable def Itr(lo:Int)(n:Nat):It:=⟨λi _=>i<n,λi H x H'=>H'=H/\x=.int (lo+i),λi _=>n<=i⟩
theorem GB(a it:Addr):Turn P w Z tg (Itl Z a) [it] it (λi h=>h.IsListIter it a i) where
 mem:=by simp
 obj:=λi h st b hb=>by
  have e:b=it:=by simpa using hb
  subst e;obtain⟨o,e,c,d⟩:=st;exact⟨o,e,λv z=>by rw[d]at z;cases z⟩
 keep:=λi h h' st k=>st.at λo e=>k it (by simp) o e
 item:=by
  intro X hP hw hK hc i f s σ H E I hf st hg;subst hP hw hK;obtain⟨xs,x,hq,hx⟩:=hg;obtain⟨j,rv,p,hz⟩:=I.list hq;obtain⟨u,hu,ru⟩:=rv.get hx;obtain⟨f0,f1,f2,f3,f4,f5⟩:=hf it (by simp);refine wpAny_pyNext_list_item st p.isList (x:=u) (by simpa using hu) λh' g sb=> ?_;have I1:Inv X f σ H {s with heap:=h'}:=I.turned (t':=s.toks) (λb o hb e=>(sb.2 b hb).trans e) f0 f1 f3 f4 f5;obtain⟨o,e,c,d⟩:=id g;exact⟨u,rfl,PM (s:={s with heap:=h'}) e c d (by decide) ⟨x,H,I1,ru,⟨rfl,λys hy=>by rw[I.list_inj hy hq];exact hx⟩,g,λb hb=>(hf b hb).1⟩⟩
 done:=by
  intro X hP hw hK hc i f s σ H E I hf st hg;subst hP hw hK;obtain⟨xs,hq,hx⟩:=hg;obtain⟨j,rv,p,hz⟩:=I.list hq;obtain⟨f0,f1,f2,f3,f4,f5⟩:=hf it (by simp);have hl:=rv.length;exact wpAny_pyNext_list_end (I.ok.hd hc) st p.isList (by simp;omega) λh' eb=>⟨rfl,I.turned (t':=s.toks) (λb o hb e=>eb b o hb e) f0 f1 f3 f4 f5⟩
 self:=λ_ _ _ _ _ st h=>wpAny_pyIter_listiter st h
theorem NC(a it:Addr):Turn P w Z tg (Itt Z a) [it] it (λi h=>h.IsTupleIter it a i) where
 mem:=by simp
 obj:=λi h st b hb=>by
  have e:b=it:=by simpa using hb
  subst e;obtain⟨o,e,c,d⟩:=st;exact⟨o,e,λv z=>by rw[d]at z;cases z⟩
 keep:=λi h h' st k=>st.at λo e=>k it (by simp) o e
 item:=by
  intro X hP hw hK hc i f s σ H E I hf st hg;subst hP hw hK;obtain⟨xs,x,hq,hx⟩:=hg;obtain⟨g,rv,p,hz⟩:=I.tuple hq;obtain⟨u,hu,ru⟩:=rv.get hx;obtain⟨f0,f1,f2,f3,f4,f5⟩:=hf it (by simp);refine wpAny_pyNext_tuple_item st (show s.heap.IsTuple a g.toArray from p) (x:=u) (by simpa using hu) λh' j sb=> ?_;have I1:Inv X f σ H {s with heap:=h'}:=I.turned (t':=s.toks) (λb o hb e=>(sb.2 b hb).trans e) f0 f1 f3 f4 f5;obtain⟨o,e,c,d⟩:=id j;exact⟨u,rfl,PM (s:={s with heap:=h'}) e c d (by decide) ⟨x,H,I1,ru,⟨rfl,λys hy=>by rw[I.tuple_inj hy hq];exact hx⟩,j,λb hb=>(hf b hb).1⟩⟩
 done:=by
  intro X hP hw hK hc i f s σ H E I hf st hg;subst hP hw hK;obtain⟨xs,hq,hx⟩:=hg;obtain⟨g,rv,p,hz⟩:=I.tuple hq;obtain⟨f0,f1,f2,f3,f4,f5⟩:=hf it (by simp);have hl:=rv.length;exact wpAny_pyNext_tuple_end (I.ok.hd hc) st (show s.heap.IsTuple a g.toArray from p) (by simp;omega) λh' eb=>⟨rfl,I.turned (t':=s.toks) (λb o hb e=>eb b o hb e) f0 f1 f3 f4 f5⟩
 self:=λ_ _ _ _ _ st h=>wpAny_pyIter_tupleiter st h
theorem MW(it:Addr)(lo:Int)(n:Nat):Turn P w Z tg (Itr lo n) [it] it (λi h=>IsRangeIter h it (lo+(i:Nat)*1) ((n:Int) - (i:Nat)) 1) where
 mem:=by simp
 obj:=λi h st b hb=>by
  have e:b=it:=by simpa using hb
  subst e;exact⟨_,st,λv z=>by
   have z':Data.fields _=Data.cell v:=z;cases z'⟩
 keep:=λi h h' st k=>k it (by simp) _ st
 item:=by
  intro X hP hw hK hc i a s σ H E I hf st hg;subst hP hw hK;obtain⟨f0,f1,f2,f3,f4,f5⟩:=hf it (by simp);have W:=Walks.range (prog:=X.prog) (w:=X.w) (I.ok.hd hc) it lo 1 n;refine W.item i s _ _ hg st λv h' tk hv c kk=> ?_;obtain⟨t,rfl⟩:=hv;have I1:Inv X a σ H {s with heap:=h',toks:=tk}:=I.turned (λb o hb e=>kk b o (by simpa using hb) e) f0 f1 f3 f4 f5;refine⟨_,rfl,PM (s:={s with heap:=h',toks:=tk}) (n:="range_iterator") c rfl rfl (by decide) ⟨.int (lo+i),H,I1,⟨t, ?_⟩,⟨rfl,rfl⟩,c,λb hb=>(hf b hb).1⟩⟩;rw[Int.mul_one]
 done:=by
  intro X hP hw hK hc i a s σ H E I hf st hg;subst hP hw hK;obtain⟨f0,f1,f2,f3,f4,f5⟩:=hf it (by simp);exact wpAny_pyNext_range_end (I.ok.hd hc) st (by have:n<=i:=hg;omega) λh' eb=>⟨rfl,I.turned (t':=s.toks) (λb o hb e=>eb b o hb e) f0 f1 f3 f4 f5⟩
 self:=λ_ _ _ _ _ st h=>wpAny_pyIter_rangeiter st h
section
noncomputable def beZ(Z:FZ)(tl:TE):TI:=fun σ H R=>tl σ H λx H1=>∃a,x=.ref a/\(∃xs,SqL Z H1 a xs)/\R (Itl Z a) H1
theorem YI{tl:TE}(hl:PE X l tl):PI X tg l (beZ X.K tl):=by
 intro c s σ H R I h;refine thn (hl c s σ H _ I h) λv s1 ⟨x,H1,I1,r1,q1⟩=> ?_;obtain⟨a,e,⟨xs,hq⟩,q⟩:=q1;subst e;cases r1;obtain⟨d,rv,p,hz⟩:=I1.list hq;refine wpAny_pyIter_list p.isList ?_;refine⟨s1.heap.objs.size,[s1.heap.objs.size],_,_,H1,rfl,I1.kept (t':=s1.toks) λb o e=>gZ _ e,GB a _,⟨_,get?_push_size _ rfl,rfl,rfl⟩,λb hb=> ?_,q⟩;have e:b=s1.heap.objs.size:=by simpa using hb
 subst e;exact I1.fpOk (le_refl _) (I1.hok.fresh (le_refl _))
theorem WK{tg:Expr}{H:Hp}{R:It->Hp->Prop}{lo hi:Int}{tk:Nat}(I:Inv X pins σ H s)(h1: -(2^62)<=lo)(h2:lo<2^62)(h3: -(2^62)<=hi)(h4:hi<2^62)
  (q:R (Itr lo (hi - lo).toNat) H):wpAny (model X.prog X.w) X.A (pyIter (.ref s.heap.objs.size)) (PIE X pins σ tg R) E {s with heap:=s.heap.push {cls:=.type "range",data:=.fields #[.int lo t,.int hi u,.int 1 v]},toks:=tk}:=by
 refine wpAny_pyIter_range (IsRange.new ..) (small_one h1 h2 h3 h4) ?_;have I1:Inv X pins σ H {s with heap:=s.heap.push {cls:=.type "range",data:=.fields #[.int lo t,.int hi u,.int 1 v]},toks:=tk}:=I.kept λb o e=>gZ _ e;refine⟨(s.heap.push {cls:=.type "range",data:=.fields #[.int lo t,.int hi u,.int 1 v]}).objs.size,[(s.heap.push {cls:=.type "range",data:=.fields #[.int lo t,.int hi u,.int 1 v]}).objs.size],_,_,H,rfl,
  I1.kept (t':=tk) λb o e=>gZ _ e,MW _ lo (hi - lo).toNat, ?_,λb hb=> ?_,q⟩
 ·have e1:lo+((0:Nat):Int)*1=lo:=by simp
  have e2:(((hi - lo).toNat:Nat):Int) - ((0:Nat):Int)=Builtin.Range.rangeSize lo hi 1:=by rw[rangeSize_one];split<;>omega
  show IsRangeIter _ _ (lo+((0:Nat):Int)*1) ((((hi - lo).toNat:Nat):Int) - ((0:Nat):Int)) 1;rw[e1,e2];exact get?_push_size _ rfl
 ·have e:b=(s.heap.push {cls:=.type "range",data:=.fields #[.int lo t,.int hi u,.int 1 v]}).objs.size:=by simpa using hb
  subst e;exact I1.fpOk (le_refl _) (I1.hok.fresh (le_refl _))
noncomputable def dcZ(ta:TA):TI:=fun σ H R=>ta σ H λvs H1=>∃j:Int,vs=[.int j]/\ -(2^62)<=j/\j<2^62/\R (Itr 0 j.toNat) H1
theorem J2{a:Expr}(hg:Gl X "range")(hm:X.mg "range"=none)(ha:PA X [a] ta)(hs:starEach [a] X.env=[(false,eval a X.env)]:=by rfl):PI X tg (.Call (.Name "range" p) [a] [] pos) (dcZ ta):=by
 intro b s σ H R I h;refine Call_ (X4 I hg hm boot_range (callWith_type1 (thn (ha pos b s σ H _ I h) λus s1 ⟨vs,H1,I1,r1,q1⟩=> ?_) hs rfl));obtain⟨j,e,q1,q2,q⟩:=q1;subst e;cases r1 with
 |cons r rr=>
  cases rr;obtain⟨t,rfl⟩:=r;exact call_range_1 (WK I1 (by omega) (by omega) q1 q2 (by simpa using q))
noncomputable def dTZ(wi:TI)(g:TG)(tb:TS):TS:=λD σ H=>wi σ H λJ H1=>∃W:Nat->Nat->St->Hp->Prop,(∃m,W 0 m σ H1)/\∀i m σ H,W i m σ H->
 (J.stop i H/\D.nx σ H)\/(J.go i H/\∃N:St->Hp->Prop,(∀σ' H',N σ' H'->∃m',m'<m/\W (i+1) m' σ' H')/\∀x H',J.yld i H x H'->g x σ H' fun σ2 H2=>tb {D with nx:=N,ct:=N,bk:=D.nx} σ2 H2)
noncomputable def AW(fp:List Addr)(h:Heap):List (Addr×Obj):=fp.filterMap λb=>(h.get? b).map λo=>(b,o)
theorem R9{fp:List Addr}{h:Heap}{b:Addr}{o:Obj}(hb:b∈fp)(e:h.get? b=some o):(b,o)∈AW fp h:=mem_filterMap.mpr ⟨b,hb,by rw[e];rfl⟩
theorem QX{p:Addr×Obj}(hp:p∈AW fp h):p.1∈fp/\h.get? p.1=some p.2:=by
 obtain⟨b,hb,e⟩:=mem_filterMap.mp hp;cases q:h.get? b with
 |none=>rw[q]at e;cases e
 |some o=>
  rw[q]at e;have e':(b,o)=p:=Option.some.inj e;subst e';exact⟨hb,q⟩
theorem Inv.pinned{H:Hp}{fp:List Addr}(I:Inv X pins σ H s)(hf:∀b∈fp,NQ X pins H b)(ho:∀b∈fp,∃o,s.heap.get? b=some o/\∀v,o.data≠ .cell v):Inv X (pins++AW fp s.heap) σ H s:=
 I.pins_of λp hp=>(mem_append.mp hp).elim (λz=>I.pin p (mem_append_right _ z)) λz=>by
  obtain⟨hb,e⟩:=QX z;obtain⟨f0,f1,f2,_⟩:=hf p.1 hb;obtain⟨o,e',d⟩:=ho p.1 hb;rw[e]at e';cases e';exact⟨e,f0,f1,f2,d⟩
theorem Inv.unpinned{pins pl:List (Addr×Obj)}{H:Hp}(I:Inv X (pins++pl) σ H s):Inv X pins σ H s:=I.pins_of λp hp=>I.pin p (mem_append_right _ (mem_append_left _ hp))
theorem O1{X:Cx}(hp:PassesOwn (model X.prog X.w) X.A X.env X.xe)(hc:X.calm=true)(hi:PI X tg iter wi)(hg:_P X tg g)(hb:PSs X body tb)
  (hs:∀x,foldedSetIterable iter X.env x=pure x:=by intro _;rfl):PS X (.For tg iter body [] pos) (dTZ wi g tb):=by
 intro a s σ H D I h;refine wpAny_For (thn (hi a s σ H _ I h) λv s1 h1=>thn h1 λE s2 h2=> ?_) hs;obtain⟨it,fp,tn,J,H2,e,I2,T,z,f2,W,⟨m0,w0⟩,k⟩:=h2;subst e;have j:∀ {H':Hp},(∀b∈fp,H' b=none)->∀b∈fp,NQ X a H' b:=λhn b hb=>⟨hn b hb,(f2 b hb).2⟩;refine codeAny_forLoop_any (λn s'=>∃i σ' H',Inv X a σ' H' s'/\tn i s'.heap/\(∀b∈fp,H' b=none)/\W i n σ' H') ?_ m0 ⟨0,σ,H2,I2,z,λb hb=>(f2 b hb).1,w0⟩;rintro n s3 ⟨i,σ3,H3,I3,t,y,w3⟩;rcases k i n σ3 H3 w3 with⟨l,qn⟩|⟨go,N,hN,p⟩
 ·refine wpAny_passesOwn hp (thn (T.done X rfl rfl rfl hc i a s3 σ3 H3 X.xe I3 (j y) t l) λr s4 ⟨hr,I4⟩=> ?_);subst hr;exact wpAny_execs_nil ⟨σ3,H3,I4,qn⟩
 ·refine wpAny_passesOwn hp (thn (T.item X rfl rfl rfl hc i a s3 σ3 H3 X.xe I3 (j y) t go) λr s4 ⟨u,hr,h4⟩=> ?_);subst hr;refine wpAny_passesOwn hp (thn h4 λ_ s5 ⟨x,H5,I5,r5,y5,q,B⟩=> ?_);have C:=I5.pinned (j B) (T.obj _ _ q);refine wpAny_passesOwn hp (thn (hg _ s5 σ3 H5 x u _ C r5 (p x H5 y5)) λ_ s6 ⟨σ6,H6,I6,q6⟩=> ?_);refine wpAny_passesOwn hp (thn (hb _ s6 σ6 H6 _ I6 q6) λf s7 q7=> ?_);have c:∀ {σ7:St} {H7:Hp},Inv X (a++AW fp s5.heap) σ7 H7 s7->N σ7 H7->∃m,m<n/\∃i σ' H',Inv X a σ' H' s7/\tn i s7.heap/\(∀b∈fp,H' b=none)/\W i m σ' H':=λ{σ7 H7} I7 n7=>by
   obtain⟨m',hm,w7⟩:=hN σ7 H7 n7;refine⟨m',hm,i+1,σ7,H7,I7.unpinned,T.keep _ _ _ q λb hb o e=>(I7.pin (b,o) (mem_append_right _ (mem_append_right _ (R9 hb e)))).1,λb hb=> ?_,w7⟩;obtain⟨o,e,d⟩:=T.obj _ _ q b hb;exact(I7.pin (b,o) (mem_append_right _ (mem_append_right _ (R9 hb e)))).2.1
  cases f with
  |next=>obtain⟨σ7,H7,I7,n7⟩:=q7;exact c I7 n7
  |cont=>obtain⟨σ7,H7,I7,n7⟩:=q7;exact c I7 n7
  |brk=>obtain⟨σ7,H7,I7,q7⟩:=q7;exact⟨σ7,H7,I7.unpinned,q7⟩
  |ret v=>obtain⟨x7,σ7,H7,I7,r7,q7⟩:=q7;exact⟨x7,σ7,H7,I7.unpinned,r7,q7⟩
end
theorem Q5{xs:List V}{g:TG}{tb:TS}{D:Ends}{σ:St}{H:Hp}(Pv:Nat->St->Hp->Prop)(h0:Pv 0 σ H)(hl:∀i σ H,i<=xs.length->Pv i σ H->SqL Z H a xs)
  (hs:∀i x σ H,xs[i]? =some x->Pv i σ H->g x σ H fun σ2 H2=>tb {D with nx:=Pv (i+1),ct:=Pv (i+1),bk:=D.nx} σ2 H2)(hd:∀σ H,Pv xs.length σ H->D.nx σ H):
  ∃W:Nat->Nat->St->Hp->Prop,(∃m,W 0 m σ H)/\∀i m σ H,W i m σ H->
   ((Itl Z a).stop i H/\D.nx σ H)\/((Itl Z a).go i H/\∃N:St->Hp->Prop,(∀σ' H',N σ' H'->∃m',m'<m/\W (i+1) m' σ' H')/\∀x H',(Itl Z a).yld i H x H'->g x σ H' fun σ2 H2=>tb {D with nx:=N,ct:=N,bk:=D.nx} σ2 H2):=by
 refine⟨λi m σ H=>m=xs.length - i/\i<=xs.length/\Pv i σ H,⟨xs.length,by simp,zero_le _,h0⟩, ?_⟩;rintro i m σ H ⟨rfl,hi,p⟩;have q:=hl i σ H hi p;by_cases b:i<xs.length
 ·refine .inr ⟨⟨xs,xs[i],q,by simp[b]⟩,Pv (i+1),fun σ' H' p'=>⟨xs.length - (i+1),by omega,rfl,b,p'⟩,λx H' y=> ?_⟩;obtain⟨e,y⟩:=y;subst e;exact hs i x σ _ (y xs q) p
 ·have e:i=xs.length:=by omega
  subst e;exact .inl ⟨⟨xs,q,le_refl _⟩,hd σ H p⟩
theorem Q9{lo:Int}{n:Nat}{g:TG}{tb:TS}{D:Ends}{σ:St}{H:Hp}(Pv:Nat->St->Hp->Prop)(h0:Pv 0 σ H)
  (hs:∀i σ H,i<n->Pv i σ H->g (.int (lo+i)) σ H fun σ2 H2=>tb {D with nx:=Pv (i+1),ct:=Pv (i+1),bk:=D.nx} σ2 H2)(hd:∀σ H,Pv n σ H->D.nx σ H):
  ∃W:Nat->Nat->St->Hp->Prop,(∃m,W 0 m σ H)/\∀i m σ H,W i m σ H->
   ((Itr lo n).stop i H/\D.nx σ H)\/((Itr lo n).go i H/\∃N:St->Hp->Prop,(∀σ' H',N σ' H'->∃m',m'<m/\W (i+1) m' σ' H')/\∀x H',(Itr lo n).yld i H x H'->g x σ H' fun σ2 H2=>tb {D with nx:=N,ct:=N,bk:=D.nx} σ2 H2):=by
 refine⟨λi m σ H=>m=n - i/\i<=n/\Pv i σ H,⟨n,by simp,zero_le _,h0⟩, ?_⟩;rintro i m σ H ⟨rfl,hi,p⟩;by_cases a:i<n
 ·refine .inr ⟨a,Pv (i+1),fun σ' H' p'=>⟨n - (i+1),by omega,rfl,a,p'⟩,λx H' y=> ?_⟩;obtain⟨e,y⟩:=y;subst e y;exact hs i σ _ a p
 ·have e:i=n:=by omega
  subst e;exact .inl ⟨le_refl _,hd σ H p⟩
noncomputable abbrev R2:=V->V->Hp->VK->Prop
noncomputable def OpR(X:Cx)(f:Value->Value->Sem Value)(r:R2):Prop:=
 ∀(pins:List (Addr×Obj)) (s:Shared) (σ:St) (H:Hp) (x y:V) (v u:Value) (Q:VK),Inv X pins σ H s->RelV x v->RelV y u->r x y H Q->
  wpAny (model X.prog X.w) X.A (f v u) (EP X pins σ Q) X.xe s
noncomputable def UnR(X:Cx)(f:Value->Sem Value)(r:V->Hp->VK->Prop):Prop:=
 ∀(pins:List (Addr×Obj)) (s:Shared) (σ:St) (H:Hp) (x:V) (v:Value) (Q:VK),Inv X pins σ H s->RelV x v->r x H Q->
  wpAny (model X.prog X.w) X.A (f v) (EP X pins σ Q) X.xe s
noncomputable def CallR(X:Cx)(f:Value)(r:List V->Hp->VK->Prop):Prop:=
 ∀(pins:List (Addr×Obj)) (s:Shared) (σ:St) (H:Hp) (xs:List V) (us:List Value) (Q:VK),Inv X pins σ H s->Vals xs us->r xs H Q->
  wpAny (model X.prog X.w) X.A (call f us) (EP X pins σ Q) X.xe s
noncomputable def d1Z(X:Cx)(r:V->Hp->(Bool->Hp->Prop)->Prop):Prop:=
 ∀(pins:List (Addr×Obj)) (s:Shared) (σ:St) (H:Hp) (x:V) (v:Value) (Q:Bool->Hp->Prop),Inv X pins σ H s->RelV x v->r x H Q->
  wpAny (model X.prog X.w) X.A (truthy v) (TP X pins σ Q) X.xe s
noncomputable def tOp(r:R2)(ta tb:TE):TE:=fun σ H Q=>ta σ H λx H1=>tb σ H1 λy H2=>r x y H2 Q
noncomputable def tUn(r:V->Hp->VK->Prop)(ta:TE):TE:=fun σ H Q=>ta σ H λx H1=>r x H1 Q
inductive rI (C:Int->Int->Prop) (g:Int->Int->V) (x:V) (y:V) (H:Hp) (Q:VK):Prop
 |mk:∀i j,(x=.int i)->(y=.int j)->(C i j)->(Q (g i j) H)->rI C g x y H Q
inductive rI0 (g:Int->Int->V) (x:V) (y:V) (H:Hp) (Q:VK):Prop
 |mk:∀i j,(x=.int i)->(y=.int j)->(Q (g i j) H)->rI0 g x y H Q
inductive rU (g:Int->V) (x:V) (H:Hp) (Q:VK):Prop
 |mk:∀i,(x=.int i)->(Q (g i) H)->rU g x H Q
section
theorem bHZ(ha:PE X a ta)(hb:PE X b tb){H:Hp}{R:V->V->Hp->Prop}(I:Inv X pins σ H s)
  (h:ta σ H λx H1=>tb σ H1 λy H2=>R x y H2){f:Value->Value->Sem Value}
  (hf:∀v u s2 x y H2,Inv X pins σ H2 s2->RelV x v->RelV y u->R x y H2->wpAny (model X.prog X.w) X.A (f v u) Q X.xe s2):
  wpAny (model X.prog X.w) X.A (eval a X.env) (λv s₁=>wpAny (model X.prog X.w) X.A (eval b X.env) (λu s₂=>wpAny (model X.prog X.w) X.A (f v u) Q X.xe s₂) X.xe s₁) X.xe s:=by
 refine thn (ha pins s σ H _ I h) λv s1 ⟨x,H1,I1,r1,q1⟩=> ?_;refine thn (hb pins s1 σ H1 _ I1 q1) λu s2 ⟨y,H2,I2,r2,q2⟩=> ?_;exact hf v u s2 x y H2 I2 r1 r2 q2
theorem C1(ho:OpR X (binaryOp op) r)(ha:PE X a ta)(hb:PE X b tb):PE X (.BinOp a op b pos) (tOp r ta tb):=by
 intro c s σ H Q I h;exact wpAny_BinOp (bHZ ha hb I h λv u s2 x y H2 I2 rx ry q=>ho c s2 σ H2 x y v u Q I2 rx ry q)
theorem L7(ho:UnR X (unaryOp op) r)(ha:PE X a ta):PE X (.UnaryOp op a pos) (tUn r ta):=by
 intro b s σ H Q I h;exact UnaryOp_ (thn (ha b s σ H _ I h) λv s1 ⟨x,H1,I1,r1,q1⟩=>ho b s1 σ H1 x v Q I1 r1 q1)
theorem opI{X:Cx}{f:Value->Value->Sem Value}{C:Int->Int->Prop}{g:Int->Int->Int}
  (rule:∀(i j:Int) (t u:Tok) (s:Shared) (Q:Value->Shared->Prop) (E:Value->Shared->Prop),C i j->Q (.int (g i j) s.toks) {s with toks:=s.toks+1}->wpAny (model X.prog X.w) X.A (f (.int i t) (.int j u)) Q E s):
  OpR X f (rI C λi j=> .int (g i j)):=by
 intro a s σ H x y v u Q I rx ry h;obtain⟨i,j,rfl,rfl,hc,q⟩:=h;obtain⟨t,rfl⟩:=rx;obtain⟨t',rfl⟩:=ry;exact rule i j t t' s _ _ hc ⟨.int (g i j),H,I.tok _,⟨_,rfl⟩,q⟩
theorem cUZ{X:Cx}{f:Value->Value->Sem Value}{g:Int->Int->Int}
  (rule:∀(i j:Int) (t u:Tok) (s:Shared) (Q:Value->Shared->Prop) (E:Value->Shared->Prop),Q (.int (g i j) s.toks) {s with toks:=s.toks+1}->wpAny (model X.prog X.w) X.A (f (.int i t) (.int j u)) Q E s):
  OpR X f (rI0 λi j=> .int (g i j)):=by
 intro a s σ H x y v u Q I rx ry h;obtain⟨i,j,rfl,rfl,q⟩:=h;obtain⟨t,rfl⟩:=rx;obtain⟨t',rfl⟩:=ry;exact rule i j t t' s _ _ ⟨.int (g i j),H,I.tok _,⟨_,rfl⟩,q⟩
theorem YR{X:Cx}{f:Value->Value->Sem Value}{g:Int->Int->Bool}
  (rule:∀(i j:Int) (t u:Tok) (s:Shared) (Q:Value->Shared->Prop) (E:Value->Shared->Prop),Q (.bool (g i j)) s->wpAny (model X.prog X.w) X.A (f (.int i t) (.int j u)) Q E s):
  OpR X f (rI0 λi j=> .bl (g i j)):=by
 intro a s σ H x y v u Q I rx ry h;obtain⟨i,j,rfl,rfl,q⟩:=h;obtain⟨t,rfl⟩:=rx;obtain⟨t',rfl⟩:=ry;exact rule i j t t' s _ _ ⟨.bl (g i j),H,I,rfl,q⟩
noncomputable def eaZ(i j:Int):Prop:=0<=j/\j<=1000000/\i.natAbs<2^64
noncomputable def CMul(i j:Int):Prop:=(-(2^64)<i/\i<2^64)\/(-(2^64)<j/\j<2^64)
theorem CMul.ok(h:CMul i j):IntMulOk i j:=by
 rcases h with⟨h1,h2⟩|⟨h1,h2⟩
 ·exact .of_left (intBits_le_64 h1 h2)
 ·exact .of_right (intBits_le_64 h1 h2)
theorem op_add:OpR X (binaryOp .Add) (rI0 λi j=> .int (i+j)):=cUZ λ_ _ _ _ _ _ _ q=>add_int q
theorem M3:OpR X (binaryOp .Sub) (rI0 λi j=> .int (i - j)):=cUZ λ_ _ _ _ _ _ _ q=>sub_int q
theorem op_mul:OpR X (binaryOp .Mult) (rI CMul λi j=> .int (i*j)):=opI λ_ _ _ _ _ _ _ hc q=>mul_int q hc.ok
theorem E4:OpR X (binaryOp .Mod) (rI (λ_ j=>0<j) λi j=> .int (i%j)):=opI λi j _ _ _ _ _ hc q=>by
 have h1:(0:Int)<j:=hc;exact mod_int' (by omega) (by rw[Int.fmod_eq_emod_of_nonneg i (by omega)];exact q)
theorem UV:OpR X (binaryOp .Pow) (rI eaZ λi j=> .int (i^j.toNat)):=opI λ_ _ _ _ _ _ _ hc q=>pow_int_small hc.1 hc.2.1 hc.2.2 q
theorem unI{X:Cx}{f:Value->Sem Value}{g:Int->Int}
  (rule:∀(i:Int) (t:Tok) (s:Shared) (Q:Value->Shared->Prop) (E:Value->Shared->Prop),Q (.int (g i) s.toks) {s with toks:=s.toks+1}->wpAny (model X.prog X.w) X.A (f (.int i t)) Q E s):
  UnR X f (rU λi=> .int (g i)):=by
 intro a s σ H x v Q I rx h;obtain⟨i,rfl,q⟩:=h;obtain⟨t,rfl⟩:=rx;exact rule i t s _ _ ⟨.int (g i),H,I.tok _,⟨_,rfl⟩,q⟩
theorem J1:UnR X (unaryOp .USub) (rU λi=> .int (-i)):=unI λ_ _ _ _ _ q=>neg_int q
end
noncomputable def cbZ:V->V->Bool
 | .non,.non=>true| .non,.int _=>true| .int _,.non=>true| .non,.bl _=>true| .bl _,.non=>true| .non,.str _=>true| .str _,.non=>true
 | .int _,.int _=>true| .bl _,.bl _=>true| .str _,.str _=>true| .byt _,.byt _=>true
 | .int _,.str _=>true| .str _,.int _=>true| .bl _,.str _=>true| .str _,.bl _=>true
 |_,_=>false
inductive rEq (x:V) (y:V) (H:Hp) (Q:VK):Prop
 |mk:(cbZ x y=true)->(Q (.bl (decide (x=y))) H)->rEq x y H Q
inductive rNe (x:V) (y:V) (H:Hp) (Q:VK):Prop
 |mk:(cbZ x y=true)->(Q (.bl (!decide (x=y))) H)->rNe x y H Q
theorem PB:decide (V.int i=V.int j)=(i==j):=by
 rw[Bool.eq_iff_iff];simp
theorem UL:decide (V.bl i=V.bl j)=(i==j):=by
 rw[Bool.eq_iff_iff];simp
theorem OU:decide (V.str i=V.str j)=(i==j):=by
 rw[Bool.eq_iff_iff];simp
theorem PH:decide (V.byt i=V.byt j)=(i.toList==j.toList):=by
 rw[Bool.eq_iff_iff];cases i;cases j;simp
section
theorem F7{H:Hp}{Q:VK}{k':Bool}(I:Inv X pins σ H s)(q:Q (.bl k) H)(e:k=k'):EP X pins σ Q (.bool k') s:=by
 subst e;exact⟨.bl k,H,I,rfl,q⟩
theorem op_eq:OpR X (compareOp .Eq) rEq:=by
 intro a s σ H x y v u Q I rx ry h;obtain⟨hs,q⟩:=h;cases x with
 |non=>
  cases rx;cases y with
  |non=>cases ry;exact PySem.EqNone.eq_none_none (F7 I q (by simp))
  |bl j=>cases ry;exact PySem.EqNone.eq_none_bool (F7 I q (by simp))
  |int j=>obtain⟨t',rfl⟩:=ry;exact PySem.EqNone.eq_none_int (F7 I q (by simp))
  |str j=>obtain⟨t',rfl⟩:=ry;exact PySem.EqNone.eq_none_str (F7 I q (by simp))
  |_=>exact absurd (show false=true from hs) nZ
 |bl i=>
  cases rx;cases y with
  |non=>cases ry;exact PySem.EqNone.eq_bool_none (F7 I q (by simp))
  |bl j=>cases ry;exact eq_bool (F7 I q UL)
  |str j=>obtain⟨t',rfl⟩:=ry;exact PySem.EqMixed.eq_bool_str (F7 I q (by simp))
  |_=>exact absurd (show false=true from hs) nZ
 |int i=>
  obtain⟨t,rfl⟩:=rx;cases y with
  |non=>cases ry;exact PySem.EqNone.eq_int_none (F7 I q (by simp))
  |int j=>obtain⟨t',rfl⟩:=ry;exact eq_int (F7 I q PB)
  |str j=>obtain⟨t',rfl⟩:=ry;exact PySem.EqMixed.eq_int_str (F7 I q (by simp))
  |_=>exact absurd (show false=true from hs) nZ
 |str i=>
  obtain⟨t,rfl⟩:=rx;cases y with
  |non=>cases ry;exact PySem.EqNone.eq_str_none (F7 I q (by simp))
  |bl j=>cases ry;exact PySem.EqMixed.eq_str_bool (F7 I q (by simp))
  |int j=>obtain⟨t',rfl⟩:=ry;exact PySem.EqMixed.eq_str_int (F7 I q (by simp))
  |str j=>obtain⟨t',rfl⟩:=ry;exact eq_str (F7 I q OU)
  |_=>exact absurd (show false=true from hs) nZ
 |byt i=>
  obtain⟨t,rfl⟩:=rx;cases y with
  |byt j=>obtain⟨t',rfl⟩:=ry;exact PySem.W.eq_bytes (F7 I q PH)
  |_=>exact absurd (show false=true from hs) nZ
 |_=>cases y<;>exact absurd (show false=true from hs) nZ
theorem op_ne:OpR X (compareOp .NotEq) rNe:=by
 intro a s σ H x y v u Q I rx ry h;obtain⟨hs,q⟩:=h;cases x with
 |non=>
  cases rx;cases y with
  |non=>cases ry;exact PySem.EqNone.ne_none_none (F7 I q (by simp))
  |bl j=>cases ry;exact PySem.EqNone.ne_none_bool (F7 I q (by simp))
  |int j=>obtain⟨t',rfl⟩:=ry;exact PySem.EqNone.ne_none_int (F7 I q (by simp))
  |str j=>obtain⟨t',rfl⟩:=ry;exact PySem.EqNone.ne_none_str (F7 I q (by simp))
  |_=>exact absurd (show false=true from hs) nZ
 |bl i=>
  cases rx;cases y with
  |non=>cases ry;exact PySem.EqNone.ne_bool_none (F7 I q (by simp))
  |bl j=>cases ry;exact ne_bool (F7 I q (congrArg not UL))
  |str j=>obtain⟨t',rfl⟩:=ry;exact PySem.EqMixed.ne_bool_str (F7 I q (by simp))
  |_=>exact absurd (show false=true from hs) nZ
 |int i=>
  obtain⟨t,rfl⟩:=rx;cases y with
  |non=>cases ry;exact PySem.EqNone.ne_int_none (F7 I q (by simp))
  |int j=>obtain⟨t',rfl⟩:=ry;exact ne_int (F7 I q (congrArg not PB))
  |str j=>obtain⟨t',rfl⟩:=ry;exact PySem.EqMixed.ne_int_str (F7 I q (by simp))
  |_=>exact absurd (show false=true from hs) nZ
 |str i=>
  obtain⟨t,rfl⟩:=rx;cases y with
  |non=>cases ry;exact PySem.EqNone.ne_str_none (F7 I q (by simp))
  |bl j=>cases ry;exact PySem.EqMixed.ne_str_bool (F7 I q (by simp))
  |int j=>obtain⟨t',rfl⟩:=ry;exact PySem.EqMixed.ne_str_int (F7 I q (by simp))
  |str j=>obtain⟨t',rfl⟩:=ry;exact ne_str (F7 I q (congrArg not OU))
  |_=>exact absurd (show false=true from hs) nZ
 |byt i=>
  obtain⟨t,rfl⟩:=rx;cases y with
  |byt j=>obtain⟨t',rfl⟩:=ry;exact PySem.W.ne_bytes (F7 I q (congrArg not PH))
  |_=>exact absurd (show false=true from hs) nZ
 |_=>cases y<;>exact absurd (show false=true from hs) nZ
theorem OQ:OpR X (compareOp .Lt) (rI0 λi j=> .bl (decide (i<j))):=YR λ_ _ _ _ _ _ _ q=>lt_int q
theorem VB:OpR X (compareOp .LtE) (rI0 λi j=> .bl (decide (i<=j))):=YR λ_ _ _ _ _ _ _ q=>le_int q
theorem aLZ:OpR X (compareOp .Gt) (rI0 λi j=> .bl (decide (j<i))):=YR λ_ _ _ _ _ _ _ q=>gt_int q
theorem a1Z:OpR X (compareOp .GtE) (rI0 λi j=> .bl (decide (j<=i))):=YR λ_ _ _ _ _ _ _ q=>ge_int q
theorem op_in_str:OpR X (compareOp .In) (λx y H Q=>∃i j,x=.str i/\y=.str j/\Q (.bl (!(Builtin.Str.occurrences j i 0 j.length 1).isEmpty)) H):=by
 intro a s σ H x y v u Q I rx ry h;obtain⟨i,j,rfl,rfl,q⟩:=h;obtain⟨t,rfl⟩:=rx;obtain⟨t',rfl⟩:=ry;exact in_str (F7 I q rfl)
theorem DE:OpR X (compareOp .Is) (λx y H Q=>y=.non/\Q (.bl (decide (x=.non))) H):=by
 intro a s σ H x y v u Q I rx ry h;obtain⟨rfl,q⟩:=h;cases ry;refine is_none_gen (F7 I q ?_);cases x<;>first
  |(cases rx;rfl)
  |(obtain⟨t,rfl⟩:=rx;rfl)
theorem OW:OpR X (compareOp .IsNot) (λx y H Q=>y=.non/\Q (.bl (!decide (x=.non))) H):=by
 intro a s σ H x y v u Q I rx ry h;obtain⟨rfl,q⟩:=h;cases ry;refine isnot_none_gen (F7 I q ?_);cases x<;>first
  |(cases rx;rfl)
  |(obtain⟨t,rfl⟩:=rx;rfl)
theorem OpR.or(h:OpR X f r)(h':OpR X f r'):OpR X f (λx y H Q=>r x y H Q\/r' x y H Q):=by
 intro a s σ H x y v u Q I rx ry q;rcases q with q|q
 ·exact h a s σ H x y v u Q I rx ry q
 ·exact h' a s σ H x y v u Q I rx ry q
theorem L6(ho:OpR X (compareOp op) r)(ha:PE X a ta)(hb:PE X b tb)(hm:behindInMarks op b=false):PE X (.Compare a [op] [b] pos) (tOp r ta tb):=by
 intro c s σ H Q I h;exact wpAny_Compare1 (bHZ ha hb I h λv u s2 x y H2 I2 rx ry q=>ho c s2 σ H2 x y v u Q I2 rx ry q) hm
inductive tTestW (Q:Bool->Hp->Prop) (x:V) (H':Hp):Prop
 |mk:∀k,(x=.bl k)->(Q k H')->tTestW Q x H'
noncomputable def deZ(t:TE):TT:=fun σ H Q=>t σ H λx H'=>tTestW Q x H'
theorem C0(ho:OpR X (compareOp op) r)(ha:PE X a ta)(hb:PE X b tb)(hm:behindInMarks op b=false):PT X (.Compare a [op] [b] pos) (deZ (tOp r ta tb)):=by
 intro d s σ H Q I h;refine wpAny_isTrue_Compare1 (thn (ha d s σ H _ I h) λv s1 ⟨x,H1,I1,r1,q1⟩=>thn (hb d s1 σ H1 _ I1 q1) λu s2 ⟨y,H2,I2,r2,q2⟩=>
  thn (ho d s2 σ H2 x y v u _ I2 r1 r2 q2) λc s3 ⟨z,H3,I3,r3,k,e,q3⟩=> ?_) hm
 subst e;cases r3;exact wpAny_truthy_bool ⟨H3,I3,q3⟩
noncomputable def cDZ(r r':R2)(ta tb tc:TE):TE:=fun σ H Q=>ta σ H λx H1=>tb σ H1 λy H2=>r x y H2 λz H3=>∃k,z=.bl k/\
 (if k=true then tc σ H3 λw' H4=>r' y w' H4 Q else Q (.bl false) H3)
theorem LJ(ho:OpR X (compareOp op) r)(ho':OpR X (compareOp op') r')(ha:PE X a ta)(hb:PE X b tb)(hc:PE X c tc)
  (hm:lastMarks [op,op'] [b,c]=false:=by with_unfolding_all rfl):PE X (.Compare a [op,op'] [b,c] pos) (cDZ r r' ta tb tc):=by
 intro f s σ H Q I h;refine Compare_chain (thn (ha f s σ H _ I h) λv s1 ⟨x,H1,I1,r1,q1⟩=>chain_link (thn (hb f s1 σ H1 _ I1 q1) λu s2 ⟨y,H2,I2,r2,q2⟩=>
  thn (ho f s2 σ H2 x y v u _ I2 r1 r2 q2) λd s3 ⟨z,H3,I3,r3,k,e,q3⟩=> ?_)) hm
 subst e;cases r3;refine wpAny_truthy_bool ?_;cases k with
 |false=>exact ite_ff ⟨.bl false,H3,I3,rfl,q3⟩
 |true=>exact ite_tt (chain_last (thn (hc f s3 σ H3 _ I3 q3) λw' s4 ⟨z',H4,I4,r4,q4⟩=>ho' f s4 σ H4 y z' u w' Q I4 r2 r4 q4))
noncomputable def cnZ(Z:FZ)(x:V)(H:Hp)(k:Bool):Prop:=
 match x with
 | .non=>k=false
 | .bl b=>k=b
 | .int i=>k=(i !=0)
 | .str y=>y.length<=sizeLine/\k=((y.length:Int) !=0)
 | .byt y=>y.size<=sizeLine/\k=((y.size:Int) !=0)
 | .ref p=>(∃xs,SqL Z H p xs/\k= !xs.isEmpty)\/(∃xs,SqT Z H p xs/\k= !xs.isEmpty)\/∃kvs,H p=some (.dK kvs)/\k= !kvs.isEmpty
 |_=>False
theorem NU{κ:Type}{kvs:List (κ×V)}{vs:List (κ×Value)}(r:KV kvs vs):(!vs.isEmpty)= !kvs.isEmpty:=by
 cases r<;>rfl
theorem DK(r:Vals xs its):(!its.toArray.isEmpty)= !xs.isEmpty:=by
 cases r<;>simp
theorem BA:(sizeLine:Nat)<2^63:=by rw[sizeLine_eq];decide
theorem cxZ:d1Z X (λx H Q=>∃k,cnZ X.K x H k/\Q k H):=by
 intro d s σ H x v Q I rx h;obtain⟨k,e,q⟩:=h;have hl:=BA;have hs:sizeLine=16777216:=sizeLine_eq;cases x with
 |non=>
  cases rx;have e':k=false:=e;subst e';exact truthy_none ⟨H,I,q⟩
 |bl b=>
  cases rx;have e':k=b:=e;subst e';exact wpAny_truthy_bool ⟨H,I,q⟩
 |int i=>
  obtain⟨t,rfl⟩:=rx;have e':k=(i !=0):=e;subst e';exact PySem.P.truthy_int ⟨H,I,q⟩
 |str y=>
  obtain⟨t,rfl⟩:=rx;obtain⟨hy,e'⟩:y.length<=sizeLine/\k=((y.length:Int) !=0):=e;subst e';exact PySem.P.truthy_str (by omega) ⟨H,I.tok _,q⟩
 |byt y=>
  obtain⟨t,rfl⟩:=rx;obtain⟨hy,e'⟩:y.size<=sizeLine/\k=((y.size:Int) !=0):=e;subst e';exact PySem.W.truthy_bytes (by omega) ⟨H,I.tok _,q⟩
 |ref p=>
  cases rx;have e':(∃xs,SqL X.K H p xs/\k= !xs.isEmpty)\/(∃xs,SqT X.K H p xs/\k= !xs.isEmpty)\/∃a,H p=some (.dK a)/\k= !a.isEmpty:=e;rcases e' with⟨xs,hx,e'⟩|⟨xs,hx,e'⟩|⟨a,hx,e'⟩
  ·subst e';obtain⟨f,r,pl,hz⟩:=I.list hx;have c:=r.length;exact wpAny_truthy_list pl.isList (by simp only[size_toArray];omega) ⟨H,I.tok _,by rw[DK r];exact q⟩
  ·subst e';obtain⟨f,r,pl,hz⟩:=I.tuple hx;have c:=r.length;exact truthy_tuple pl (by simp only[size_toArray];omega) ⟨H,I.tok _,by rw[DK r];exact q⟩
  ·subst e';obtain⟨hz,hS,vs,r,m⟩:a.length<=sizeLine/\(p==sysModules)=false/\∃vs,KV a vs/\s.heap.DictOf (G6 X.prog X.w) p vs:=I.hok p _ hx;have c:a.length=vs.length:=Paired.length r;exact wpAny_truthy_dict hS m (by omega) ⟨H,I.tok _,by rw[NU r];exact q⟩
 |_=>exact(show False from e).elim
theorem TR(ha:PE X a ta)(he:∀whole,isTrue a X.env whole=(do let v<-whole;standAt a.pos;holding [v] (truthy v))):
  PT X a (fun σ H Q=>ta σ H λx H'=>∃k,cnZ X.K x H' k/\Q k H'):=by
 intro b s σ H Q I h;exact isTrue_plain (thn (ha b s σ H _ I h) λv s1 ⟨x,H1,I1,r1,q1⟩=>cxZ b s1 σ H1 x v Q I1 r1 q1) (he _)
theorem op_add_str:OpR X (binaryOp .Add) (λx y H Q=>∃i j,x=.str i/\y=.str j/\i.length+j.length<=sizeLine/\Q (.str (i++j)) H):=by
 intro a s σ H x y v u Q I rx ry h;obtain⟨i,j,rfl,rfl,hz,q⟩:=h;obtain⟨t,rfl⟩:=rx;obtain⟨t',rfl⟩:=ry;exact add_str (λt' tk=>⟨.str (i++j),H,I.tok _,⟨_,rfl⟩,q⟩) hz
theorem W8{x:V}(r:Vals [x] us):∃u,us=[u]/\RelV x u:=by
 cases r with
 |cons r1 r2=>cases r2;exact⟨_,rfl,r1⟩
theorem OG{x y:V}(r:Vals [x,y] us):∃u w',us=[u,w']/\RelV x u/\RelV y w':=by
 cases r with
 |cons r1 r2=>
  cases r2 with
  |cons r3 r4=>cases r4;exact⟨_,_,rfl,r1,r3⟩
theorem VE:CallR X (.builtin "abs") (λxs H Q=>∃i,xs=[.int i]/\Q (.int (if i<0 then -i else i)) H):=by
 intro a s σ H xs us Q I r h;obtain⟨i,rfl,q⟩:=h;obtain⟨u,rfl,t,rfl⟩:=W8 r;exact call_abs_int λu tk=>⟨.int (if i<0 then -i else i),H,I.tok _,⟨_,rfl⟩,q⟩
theorem QU{X:Cx}(hc:X.calm=true):CallR X (.builtin "max") (λxs H Q=>∃i j,xs=[.int i,.int j]/\Q (.int (if j>i then j else i)) H):=by
 intro a s σ H xs us Q I r h;obtain⟨i,j,rfl,q⟩:=h;obtain⟨u,w',rfl,⟨t,rfl⟩,⟨t',rfl⟩⟩:=OG r;refine max_two_ints (I.ok.hd hc) λh' tk k=>⟨_,H,I.kept k, ?_,q⟩;by_cases hj:j>i
 ·rw[if_pos hj,if_pos hj];exact⟨_,rfl⟩
 ·rw[if_neg hj,if_neg hj];exact⟨_,rfl⟩
noncomputable def bKZ(Z:FZ)(x:V)(H:Hp)(n:Nat):Prop:=
 match x with
 | .str y=>y.length<=sizeLine/\n=y.length
 | .byt y=>y.size<=sizeLine/\n=y.size
 | .ref p=>(∃xs,SqL Z H p xs/\n=xs.length)\/∃xs,SqT Z H p xs/\n=xs.length
 |_=>False
inductive rLen (Z:FZ) (xs:List V) (H:Hp) (Q:VK):Prop
 |mk:∀x n,(xs=[x])->(bKZ Z x H n)->(Q (.int n) H)->rLen Z xs H Q
theorem WX:CallR X (.builtin "len") (rLen X.K):=by
 intro b s σ H xs us Q I r h;obtain⟨x,n,rfl,e,q⟩:=h;obtain⟨u,rfl,rx⟩:=W8 r;have hl:=BA;have hs:sizeLine=16777216:=sizeLine_eq;cases x with
 |str y=>
  obtain⟨t,rfl⟩:=rx;obtain⟨hy,e'⟩:y.length<=sizeLine/\n=y.length:=e;subst e';exact len_str (by omega) ⟨.int _,H,I.tok _,⟨_,rfl⟩,q⟩
 |byt y=>
  obtain⟨t,rfl⟩:=rx;obtain⟨hy,e'⟩:y.size<=sizeLine/\n=y.size:=e;subst e';exact PySem.W.len_bytes (by omega) ⟨.int _,H,I.tok _,⟨_,rfl⟩,q⟩
 |ref p=>
  cases rx;have e':(∃xs,SqL X.K H p xs/\n=xs.length)\/∃xs,SqT X.K H p xs/\n=xs.length:=e;rcases e' with⟨xs,hx,e'⟩|⟨xs,hx,e'⟩
  ·subst e';obtain⟨c,r',pl,hz⟩:=I.list hx;have a:=r'.length;exact Calls.call_len_list pl.isList (by simp only[size_toArray];omega) ⟨.int xs.length,H,I.tok _,⟨_,by simp only[size_toArray];rw[a]⟩,q⟩
  ·subst e';obtain⟨c,r',pl,hz⟩:=I.tuple hx;have a:=r'.length;exact len_tuple pl (by simp only[size_toArray];omega) ⟨.int xs.length,H,I.tok _,⟨_,by simp only[size_toArray];rw[a]⟩,q⟩
 |_=>exact(show False from e).elim
end
structure ObjM (h:Heap) (x dx C:Addr) (mA:Str->Option Value):Prop where
 obj:h.get? x=some (instObj C dx)
 ns:h.Ns1 dx mA
 ne:dx≠x
theorem RZ{h:Heap}(n:h.Ns1 dx mA):∃od,h.get? dx=some od/\∀name,lookIn name od=some (mA name):=by
 obtain⟨o,es,ep,ho,hd,hk,_,hm⟩:=n;refine⟨o,ho,λname=> ?_⟩;have e:=hm name;unfold nsFind findBy at e;rw[<-Array.find?_toList]at e;unfold lookIn;rw[hd]
 dsimp only
 split
 ·rename_i y q;rw[q]at e;exact congrArg some e
 ·rename_i q;rw[q]at e;have a:es.toList.any (·.refKey)=false:=by
   rw[List.any_eq_false];intro y hy;obtain⟨z,t,b⟩:=hk y (Array.mem_toList_iff.mp hy);simp[DictEntry.refKey,b]
  have a':¬es.toList.any (·.refKey)=true:=by rw[a];exact nZ
  rw[if_neg a'];exact congrArg some e
theorem ObjM.look(I:ObjM h x dx C mA):∃od,PySem.W.InstAt h x (instObj C dx) C (some od)/\∀name,lookIn name od=some (mA name):=
 let⟨od,ho,hl⟩:=RZ I.ns
 ⟨od,⟨I.obj,rfl,rfl,ho⟩,hl⟩
section
theorem YE{A:Around}{E:Value->Shared->Prop}{s:Shared}{Z:FZ}{v:Value}{Q:Value->Shared->Prop}(X:Z.In s.heap)(I:ObjM s.heap x dx C mA)(hg:plainGet Z C name=true)(hh:PySem.W.hasDictIn Z C=true)
  (ha:findIn Z (.ref C) name=some none)(hv:mA name=some v)(hv':PySem.W.handedIn v=true)(h:Q v {s with toks:=s.toks+1}):
  wpAny (model prog w) A (getAttr (.ref x) name expr) Q E s:=by
 obtain⟨od,J,hl⟩:=I.look;exact PySem.W.get_value X J (PySem.W.plainGet_of hg).1 (PySem.W.findObj_own hh ha rfl (by rw[hl,hv])) hv' h
theorem VL{A:Around}{E:Value->Shared->Prop}{s:Shared}{Z:FZ}{Q:Value×List Value->Shared->Prop}(X:Z.In s.heap)(I:ObjM s.heap x dx C mA)(hg:plainGet Z C name=true)
  (hf:findIn Z (.ref C) name=some (some (.ref f)))(ht:isFn Z (.ref f)=true)(hv:mA name=none)(h:Q (.ref f,[.ref x]) s):
  wpAny (model prog w) A (getMethod (.ref x) name pl) Q E s:=by
 obtain⟨od,J,hl⟩:=I.look;exact PySem.W.method_fn X J (PySem.W.plainGet_of hg).1 (PySem.W.plainGet_of hg).2 hf (beq_iff_eq.mp ht) (by show(lookIn name od).map (·.isSome)=some false;rw[hl,hv];rfl) h
theorem YZ{A:Around}{E:Value->Shared->Prop}{s:Shared}{Z:FZ}{v:Value}{Q:Unit->Shared->Prop}(X:Z.In s.heap)(I:ObjM s.heap x dx C mA)
  (hs:findIn Z (.ref C) "__setattr__"=some (some (.builtin "object.__setattr__")))(hp:PySem.W.plainOver Z C=true)(ht:PySem.W.takerIn Z C name=some none)(hh:PySem.W.hasDictIn Z C=true)
  (hw:PySem.Within mA ns)(hsz:ns.length<=sizeLine)
  (h:∀h',ObjM h' x dx C (λy=>if y=name then some v else mA y)->Heap.SameBut dx s.heap h'->Q () {s with heap:=h',toks:=s.toks+2}):
  wpAny (model prog w) A (setAttr (.ref x) name v) Q E s:=by
 obtain⟨od,J,hl⟩:=I.look;refine PySem.W.set_plain X J hs (PySem.W.osa_open (s:={s with toks:=s.toks+1}) (r:=none) X J hp ht λb=> ?_);obtain⟨cd,hc,g⟩:=PySem.W.any_some hh;have hx:s.heap.get? x=some ⟨.ref C,some dx,.plain, #[]⟩:=I.obj;refine bZ (pZ (bZ (bZ (wpAny_loadPart hx (bZ (PySem.W.Looks.here (s:={s with toks:=s.toks+1}) (PySem.W.looks_clsIn X hc) ?_))))));rw[g];refine pZ (a:=some dx) (bZ (pZ (bZ ?_)));refine wpAny_nsSet1 (s:={s with toks:=s.toks+1}) I.ns λh' d c=> ?_;obtain⟨oD,j,k,e,f,i⟩:=d.count (PySem.Within.cons name v hw);refine bZ (wpAny_lookBehind e (by rw[f];exact pastItsLine_dict (le_trans i (by rw[length_cons];omega))) ?_);exact pZ (h _ ⟨(c.2 _ (Ne.symm I.ne)).trans I.obj,d,I.ne⟩ c)
theorem WT{A:Around}{s:Shared}{Z:FZ}{R:Result->Shared->Prop}{vs:List Value}{kw:List (Str×Value)}(X:Z.In s.heap)(hm:PySem.W.makesIn Z C=true)
  (hi:findIn Z (.ref C) "__init__"=some (some (.ref f)))(hf:PySem.W.typeIn Z (.ref f)=some (.type "function"))
  (h:codeAny (model prog w) (A.under (.builtin "type.__call__" ⟨.ref C::vs,kw⟩)) (.call (.ref f) ⟨.ref (s.heap.objs.size+1)::vs,kw⟩) (PySem.W.InitBack (s.heap.objs.size+1) R)
   {s with heap:=(s.heap.push emptyDict).push (instObj C s.heap.objs.size)}):
  codeAny (model prog w) A (.call (.ref C) ⟨vs,kw⟩) R s:=by
 obtain⟨hh,g,d,t,os⟩:=s;exact PySem.W.make_core (PySem.W.makes_of X hm) (PySem.W.looks_findIn X hi) (λa=>PySem.W.bind_fn X a hf) (.inl rfl) h
end
noncomputable def P4(f:Str)(v:V):List (Str×V)->List (Str×V)
 | []=> [(f,v)]
 |(g,x)::r=>if g=f then(g,v)::r else(g,x)::P4 f v r
theorem BN(f g:Str)(v:V):∀fs:List (Str×V),(P4 f v fs).lookup g=if g=f then some v else fs.lookup g
 | []=>by
  show List.lookup g [(f,v)]=_;by_cases h:g=f
  ·have hb:(g==f)=true:=beq_iff_eq.mpr h;simp only[List.lookup,hb,if_pos h]
  ·have hb:(g==f)=false:=beq_eq_false_iff_ne.mpr h;simp only[List.lookup,hb,if_neg h]
 |(k,x)::r=>by
  have ih:=BN f g v r;rw[show P4 f v ((k,x)::r)=(if k=f then(k,v)::r else(k,x)::P4 f v r)from rfl];by_cases hk:k=f
  ·rw[if_pos hk];by_cases h:g=k
   ·have hb:(g==k)=true:=beq_iff_eq.mpr h;simp only[List.lookup,hb,if_pos (h.trans hk)]
   ·have hb:(g==k)=false:=beq_eq_false_iff_ne.mpr h;simp only[List.lookup,hb,if_neg (λe:g=f=>h (e.trans hk.symm))]
  ·rw[if_neg hk];by_cases h:g=k
   ·have hb:(g==k)=true:=beq_iff_eq.mpr h;simp only[List.lookup,hb,if_neg (λe:g=f=>hk (h.symm.trans e))]
   ·have hb:(g==k)=false:=beq_eq_false_iff_ne.mpr h;simp only[List.lookup,hb];exact ih
theorem AV(f:Str)(v:V):∀fs:List (Str×V),f∈(P4 f v fs).map (·.1)/\∀g,g∈fs.map (·.1)->g∈(P4 f v fs).map (·.1)
 | []=>⟨by simp[P4],λg h=>by simp at h⟩
 |(k,x)::r=>by
  obtain⟨i1,i2⟩:=AV f v r;rw[show P4 f v ((k,x)::r)=(if k=f then(k,v)::r else(k,x)::P4 f v r)from rfl];by_cases hk:k=f
  ·rw[if_pos hk];subst hk;exact⟨by simp,λg h=>by simpa using h⟩
  ·rw[if_neg hk];refine⟨?_,λg h=> ?_⟩
   ·rw[map_cons];exact mem_cons_of_mem _ i1
   ·rw[map_cons]at h⊢;rcases cZ h with e|e
    ·exact mem_cons.mpr (.inl e)
    ·exact mem_cons_of_mem _ (i2 g e)
theorem BX(f:Str)(v:V):∀fs:List (Str×V),(P4 f v fs).length<=fs.length+1
 | []=>by simp[P4]
 |(k,x)::r=>by
  have ih:=BX f v r;rw[show P4 f v ((k,x)::r)=(if k=f then(k,v)::r else(k,x)::P4 f v r)from rfl];by_cases hk:k=f
  ·rw[if_pos hk,length_cons,length_cons];omega
  ·rw[if_neg hk,length_cons,length_cons];omega
theorem RelO.some_of{v:V}(r:RelO (some v) o):∃u,o=some u/\RelV v u:=by
 cases o with
 |none=>exact(show False from r).elim
 |some u=>exact⟨u,rfl,r⟩
theorem RelO.none_of(r:RelO none o):o=none:=by
 cases o with
 |none=>rfl
 |some u=>exact(show False from r).elim
theorem RK(r:RelV v u):PySem.W.handedIn u=true:=by
 cases v with
 |non=>cases(show u=Value.none from r);rfl
 |bl b=>cases(show u=Value.bool b from r);rfl
 |int i=>obtain⟨t,e⟩:=(show∃t,u=Value.int i t from r);cases e;rfl
 |str x=>obtain⟨t,e⟩:=(show∃t,u=Value.str x t from r);cases e;rfl
 |byt b=>obtain⟨t,e⟩:=(show∃t,u=Value.bytes b t from r);cases e;rfl
 |flt b=>obtain⟨t,e⟩:=(show∃t,u=Value.float b t from r);cases e;rfl
 |ref a=>cases(show u=Value.ref a from r);rfl
 |ty n=>cases(show u=Value.type n from r);rfl
section
theorem Y9{a:Addr}(hok:HOk P w H h)(e:H a=some (.ins C dx fs)):∃mA,ObjM h a dx C mA/\(∀f,RelO (fs.lookup f) (mA f))/\PySem.Within mA (fs.map (·.1))/\fs.length<=1000/\H dx=some (.own a):=by
 obtain⟨d,z,ne,ob,mA,n,r,q⟩:=(show ObjOk P w H h a (.ins C dx fs)from hok a _ e);exact⟨mA,⟨ob,n,ne⟩,r,q,z,d⟩
end
structure Cls (Z:FZ) (C:Addr):Prop where
 pg:plainGet Z C Str.empty=true
 hd:PySem.W.hasDictIn Z C=true
 po:PySem.W.plainOver Z C=true
 sa:findIn Z (.ref C) "__setattr__"=some (some (.builtin "object.__setattr__"))
theorem Cls.get(c:Cls Z C)(f:Str):plainGet Z C f=true:=c.pg
noncomputable def NoAttr(Z:FZ)(C:Addr)(f:Str):Prop:=findIn Z (.ref C) f=some none
theorem NoAttr.taker(n:NoAttr Z C f):PySem.W.takerIn Z C f=some none:=by
 unfold PySem.W.takerIn;rw[show findIn Z (.ref C) f=some none from n];rfl
structure Meth (Z:FZ) (C:Addr) (m:Str) (f:Addr):Prop where
 at_:findIn Z (.ref C) m=some (some (.ref f))
 fn:isFn Z (.ref f)=true
 kp:kZ Z (.ref f)=true
section
theorem DZ{H:Hp}{a:Addr}{v:V}{Q:Value->Shared->Prop}(I:Inv X pins σ H s)(e:H a=some (.ins C dx fs))(c:Cls X.K C)(n:NoAttr X.K C f)(l:fs.lookup f=some v)
  (h:∀u s',Inv X pins σ H s'->RelV v u->Q u s'):wpAny (model X.prog X.w) A (getAttr (.ref a) f b) Q E s:=by
 obtain⟨mA,O,r,_,_,_⟩:=Y9 I.hok e;obtain⟨u,hu,ru⟩:=RelO.some_of (v:=v) (o:=mA f) (by rw[<-l];exact r f);exact YE I.kIn O (c.get f) c.hd n hu (RK ru) (h u _ (I.tok _) ru)
theorem EN{H:Hp}{a:Addr}{Q:Value×List Value->Shared->Prop}(I:Inv X pins σ H s)(e:H a=some (.ins C dx fs))(c:Cls X.K C)(k:Meth X.K C m g)(l:fs.lookup m=none)
  (h:Q (.ref g,[.ref a]) s):wpAny (model X.prog X.w) A (getMethod (.ref a) m pl) Q E s:=by
 obtain⟨mA,O,r,_,_,_⟩:=Y9 I.hok e;have hn:mA m=none:=RelO.none_of (by rw[<-l];exact r m);exact VL I.kIn O (c.get m) k.at_ k.fn hn h
theorem DU{H:Hp}{a:Addr}{Q:Unit->Shared->Prop}(I:Inv X pins σ H s)(e:H a=some (.ins C dx fs))(c:Cls X.K C)(n:NoAttr X.K C f)(hl:fs.length<1000)(ry:RelV y u)
  (h:∀s',Inv X pins σ (upd H a (.ins C dx (P4 f y fs))) s'->Q () s'):wpAny (model X.prog X.w) A (setAttr (.ref a) f u) Q E s:=by
 obtain⟨mA,O,r,wi,_,ho⟩:=Y9 I.hok e;have hz:(fs.map (·.1)).length<=sizeLine:=by rw[length_map,sizeLine_eq];omega
 refine YZ I.kIn O c.sa c.po n.taker c.hd wi hz λh' O' sb=>h _ ?_;have hd:∃o,h'.get? dx=some o:=let⟨o,_,_,e',_⟩:=O'.ns;⟨o,e'⟩;refine I.write (x:=a) (e:=dx) (by rw[e];exact True.intro) (.inr ho) (λb q hb z=>(sb.2 b hb).trans z) hd ?_;refine⟨by rw[B7 O.ne];exact ho, ?_,O.ne,O'.obj,_,O'.ns,λg=> ?_,λg hg=> ?_⟩
 ·have:=BX f y fs;omega
 ·show RelO ((P4 f y fs).lookup g) (if g=f then some u else mA g);rw[BN];by_cases q:g=f
  ·rw[if_pos q,if_pos q];exact ry
  ·rw[if_neg q,if_neg q];exact r g
 ·by_cases q:g=f
  ·rw[q];exact(AV f y fs).1
  ·refine(AV f y fs).2 g (wi g λz=>hg ?_);show(if g=f then some u else mA g)=none;rw[if_neg q];exact z
theorem Inv.made{H:Hp}(I:Inv X pins σ H s):Inv X pins σ (upd (upd H s.heap.objs.size (.own (s.heap.objs.size+1))) (s.heap.objs.size+1) (.ins C s.heap.objs.size []))
  {s with heap:=(s.heap.push emptyDict).push (instObj C s.heap.objs.size)}:=by
 have e1:(s.heap.push emptyDict).get? s.heap.objs.size=some emptyDict:=get?_push_size s.heap rfl;have e2:((s.heap.push emptyDict).push (instObj C s.heap.objs.size)).get? (s.heap.objs.size+1)=some (instObj C s.heap.objs.size):=by
  have:=get?_push_size (s.heap.push emptyDict) (o:=instObj C s.heap.objs.size) rfl
  rwa [size_push]at this
 have e3:(s.heap.push emptyDict).Ns s.heap.objs.size (λ_=>none):=⟨emptyDict, #[],_,e1,rfl,(λe he=>absurd he (by simp)),λ_=>rfl⟩;have I1:=I.laid (a:=s.heap.objs.size) (o:=.own (s.heap.objs.size+1)) (h':=s.heap.push emptyDict) (t':=s.toks) (λb u q=>gZ _ q) (le_refl _) ⟨_,e1⟩;refine I1.laid (a:=s.heap.objs.size+1) (o:=.ins C s.heap.objs.size []) (t':=s.toks) (λb u q=>gZ _ q) (Nat.le_of_eq (size_push _ _)) ?_;have ne:s.heap.objs.size≠s.heap.objs.size+1:=ne_of_lt (lt_succ_self _);refine⟨by rw[B7 ne,A7],zero_le _,ne,e2,λ_=>none,(Heap.Ns1.of_empty e3).at λo q=>gZ _ q,λ_=>True.intro,λy hy=>absurd rfl hy⟩
theorem YL(hb:attributeBase e f env (eval e env)=eval e env)
  (h:wpAny (model prog w) A (eval e env) (λo s₁=>wpAny (model prog w) A (getAttr o f true) Q E s₁) E s):wpAny (model prog w) A (eval (.Attribute e f pos) env) Q E s:=
 Attribute_any_ h (by rw[arm_eval_Attribute,hb])
end
inductive tFldW (Z:FZ) (f:Str) (Q:VK) (x:V) (H1:Hp):Prop
 |mk:∀a C dx fs v,(x=.ref a)->(H1 a=some (.ins C dx fs))->(Cls Z C)->(NoAttr Z C f)->(fs.lookup f=some v)->(Q v H1)->tFldW Z f Q x H1
noncomputable def dUZ(Z:FZ)(ta:TE)(f:Str):TE:=fun σ H Q=>ta σ H λx H1=>tFldW Z f Q x H1
inductive sFldW (Z:FZ) (f:Str) (D:Ends) (σ:St) (y x:V) (H2:Hp):Prop
 |mk:∀a C dx fs,(x=.ref a)->(H2 a=some (.ins C dx fs))->(Cls Z C)->(NoAttr Z C f)->(fs.length<1000)->(D.nx σ (upd H2 a (.ins C dx (P4 f y fs))))->sFldW Z f D σ y x H2
noncomputable def d5Z(Z:FZ)(ta tv:TE)(f:Str):TS:=λD σ H=>tv σ H λy H1=>ta σ H1 λx H2=>sFldW Z f D σ y x H2
noncomputable def c0Z(X:Cx)(op:Operator)(rd:V->V->Hp->VK->Prop):Prop:=
 ∀(pins:List (Addr×Obj)) (s:Shared) (σ:St) (H:Hp) (x y:V) (u v:Value) (Q:VK),Inv X pins σ H s->RelV x u->RelV y v->rd x y H Q->wpAny (model X.prog X.w) X.A (inplaceOp op u v) (EP X pins σ Q) X.xe s
noncomputable def ZQ(Z:FZ)(ta tv:TE)(rd:V->V->Hp->VK->Prop)(f:Str):TS:=λD σ H=>ta σ H λx H1=>∃a C dx fs v,x=.ref a/\H1 a=some (.ins C dx fs)/\Cls Z C/\NoAttr Z C f/\fs.lookup f=some v/\
 tv σ H1 λy H2=>rd v y H2 λz H3=>∃dx' fs',H3 a=some (.ins C dx' fs')/\fs'.length<1000/\D.nx σ (upd H3 a (.ins C dx' (P4 f z fs')))
section
theorem F5(he:PE X e ta)(hb:attributeBase e f X.env (eval e X.env)=eval e X.env):PE X (.Attribute e f pos) (dUZ X.K ta f):=by
 intro b s σ H Q I h;refine YL hb (thn (he b s σ H _ I h) λu s1 ⟨x,H1,I1,rx,a,C,dx,fs,v,ex,ea,c,n,l,q⟩=> ?_);subst ex;obtain rfl:u=Value.ref a:=rx;exact DZ I1 ea c n l λu' s2 I2 ru=>⟨v,H1,I2,ru,q⟩
theorem N2{pos:Pos}(ha:PE X o ta)(hv:PE X value tv)(hs:swapsWith value (some (.Attribute o f pos')) pos.line X.env=pure false):PS X (.Assign [.Attribute o f pos'] value pos) (d5Z X.K ta tv f):=by
 intro b s σ H D I h;refine plainObj_wpAny_Assign_Attribute (thn (hv b s σ H _ I h) λu s1 ⟨y,H1,I1,ry,q⟩=>thn (ha b s1 σ H1 _ I1 q) λov s2 ⟨x,H2,I2,rx,a,C,dx,fs,ex,ea,c,n,l,q2⟩=> ?_) hs;subst ex;obtain rfl:ov=Value.ref a:=rx;exact DU I2 ea c n l ry λs3 I3=>⟨σ,_,I3,q2⟩
theorem GF(ha:PE X o ta)(hv:PE X value tv)(hop:c0Z X op rd):PS X (.AugAssign (.Attribute o f tpos) op value pos) (ZQ X.K ta tv rd f):=by
 intro b s σ H D I h;refine wpAny_AugAssign_AttributeAny (thn (ha b s σ H _ I h) λov s1 ⟨x,H1,I1,rx,a,C,dx,fs,v,ex,ea,c,n,l,q⟩=> ?_);subst ex;obtain rfl:ov=Value.ref a:=rx;refine DZ I1 ea c n l λu s2 I2 ru=>thn (hv b s2 σ H1 _ I2 q) λw3 s3 ⟨y,H2,I3,ry,q3⟩=>thn (hop b s3 σ H2 v y u w3 _ I3 ru ry q3) λw4 s4 ⟨z,H3,I4,rz,g,e,d,l',q4⟩=> ?_;exact DU I4 d c n l' rz λs5 I5=>⟨σ,_,I5,q4⟩
inductive rAdd (x:V) (y:V) (H:Hp) (Q:VK):Prop
 |mk:∀i j,(x=.int i)->(y=.int j)->(Q (.int (i+j)) H)->rAdd x y H Q
theorem UA:c0Z X .Add rAdd:=by
 rintro a s σ H x y u v Q I rx ry ⟨i,j,rfl,rfl,q⟩;obtain⟨t,rfl⟩:=(show∃t,u=Value.int i t from rx);obtain⟨t',rfl⟩:=(show∃t',v=Value.int j t' from ry);exact PyProof.Rows.iadd_int ⟨.int (i+j),H,I.tok _,⟨_,rfl⟩,q⟩
inductive TyOf(Z:FZ)(H:Hp):V->Value->Prop where
 |non:TyOf Z H .non (.type "NoneType")
 |bl (x:Bool):TyOf Z H (.bl x) (.type "bool")
 |int (i:Int):TyOf Z H (.int i) (.type "int")
 |str (x:Str):TyOf Z H (.str x) (.type "str")
 |flt (x:UInt64):TyOf Z H (.flt x) (.type "float")
 |lst {a:Addr} {xs:List V} (e:H a=some (.lst xs)):TyOf Z H (.ref a) (.type "list")
 |frz {a:Addr} {o:Obj} {xs:List V} (e:H a=some (.frz o (.lst xs))):TyOf Z H (.ref a) (.type "list")
 |tup {a:Addr} {xs:List V} (e:H a=some (.tup xs)):TyOf Z H (.ref a) (.type "tuple")
 |dK {a:Addr} {kvs:List (Key×V)} (e:H a=some (.dK kvs)):TyOf Z H (.ref a) (.type "dict")
 |dT {a:Addr} {kvs:List (List Key×V)} (e:H a=some (.dT kvs)):TyOf Z H (.ref a) (.type "dict")
 |ins {a C dx:Addr} {fs:List (Str×V)} (e:H a=some (.ins C dx fs)) (cl:Cls Z C) (ha:findIn Z (.ref C) "__class__"=some (some (.builtin "object.__class__")))
   (hn:PySem.W.specialIn Z (.builtin "object.__class__") "__get__"=some (some (.builtin "getset_descriptor.__get__"))) (htk:PySem.W.takesIn Z (.builtin "object.__class__")=some true)
   (hm:PySem.W.mroIn Z C (.type "object")=some true):TyOf Z H (.ref a) (.ref C)
theorem RF{H:Hp}{A:Around}{E:Value->Shared->Prop}{Q:Value->Shared->Prop}{b:Bool}(I:Inv X pins σ H s)(rx:RelV x u)(ty:TyOf X.K H x t)(e:kitOne X.K t c=some b)(h:∀tk,Q (.bool b) {s with toks:=tk}):
  wpAny (model X.prog X.w) A (call (.builtin "isinstance") [u,c]) Q E s:=by
 cases ty with
 |non=>cases(show u=Value.none from rx);exact kia_one PySem.W.kitx_none I.kIn True.intro e (λz=>nomatch z) h
 |bl y=>cases(show u=Value.bool y from rx);exact kia_one PySem.W.kitx_bool I.kIn True.intro e (λz=>nomatch z) h
 |int i=>obtain⟨t,q⟩:=(show∃t,u=Value.int i t from rx);cases q;exact kia_one PySem.W.kitx_int I.kIn True.intro e (λz=>nomatch z) h
 |str y=>obtain⟨t,q⟩:=(show∃t,u=Value.str y t from rx);cases q;exact kia_one PySem.W.kitx_str I.kIn True.intro e (λz=>nomatch z) h
 |flt y=>obtain⟨t,q⟩:=(show∃t,u=Value.float y t from rx);cases q;exact kia_one PySem.W.kitx_float I.kIn True.intro e (λz=>nomatch z) h
 | @lst a xs ea=>
  cases(show u=Value.ref a from rx);obtain⟨_,_,n,_,h1⟩:=(show ObjOk X.prog X.w H s.heap a (.lst xs)from I.hok a _ ea);exact kia_one kitx_list I.kIn ⟨_,h1,rfl⟩ e (λz=>nomatch z) h
 | @frz a ob xs ea=>
  cases(show u=Value.ref a from rx);obtain⟨_,_,_,n,_,h1⟩:=(show ObjOk X.prog X.w H s.heap a (.frz ob (.lst xs))from I.hok a _ ea);exact kia_one kitx_list I.kIn ⟨_,h1,rfl⟩ e (λz=>nomatch z) h
 | @tup a xs ea=>
  cases(show u=Value.ref a from rx);obtain⟨_,_,_,p⟩:=(show ObjOk X.prog X.w H s.heap a (.tup xs)from I.hok a _ ea);obtain⟨o,h1,h2,_⟩:=p;exact kia_one PySem.W.kitx_tuple I.kIn ⟨o,h1,h2⟩ e (λz=>nomatch z) h
 | @dK a kvs ea=>
  cases(show u=Value.ref a from rx);obtain⟨_,_,vs,_,p⟩:=(show ObjOk X.prog X.w H s.heap a (.dK kvs)from I.hok a _ ea);obtain⟨o,es,ep,h1,h2,_⟩:=p;exact kia_one kitx_dict I.kIn ⟨o,h1,h2.1⟩ e (λz=>nomatch z) h
 | @dT a kvs ea=>
  cases(show u=Value.ref a from rx);obtain⟨_,_,xs,_,o,es,ep,h1,h2,_⟩:=(show ObjOk X.prog X.w H s.heap a (.dT kvs)from I.hok a _ ea);exact kia_one kitx_dict I.kIn ⟨o,h1,h2.1⟩ e (λz=>nomatch z) h
 | @ins a C dx fs ea cl ha hn htk hm=>
  cases(show u=Value.ref a from rx);obtain⟨mA,O,_⟩:=Y9 I.hok ea;obtain⟨od,J,_⟩:=O.look;exact kia_one (PySem.W.kitx_own (cl.get _) cl.hd ha hn htk hm) I.kIn J e (λz=>nomatch z) h
end
structure Room (k:Nat) (A:Around):Prop where
 hd:A.handled=none
 dp:A.depth+3*k+5<recursionLimit
 un:A.units+16*k+200<cLine
theorem Room.mono{j:Nat}(r:Room k A)(h:j<=k):Room j A:=⟨r.hd,by have:=r.dp;omega,by have:=r.un;omega⟩
theorem Room.deeper{k:Nat}(r:Room (k+1) A)(env:Env):Room k (A.deeper env):=
 ⟨r.hd,by have:=r.dp;show A.depth+1+3*k+5<_;omega,by have:=r.un;show A.units+3+16*k+200<_;omega⟩
theorem NX{A:Around}{us:List Value}{kw:List (Str×Value)}:(A.under (.builtin "type.__call__" ⟨.ref C::us,kw⟩)).depth=A.depth+1:=by
 first|rfl|simp[Around.under,Code.weight,Code.isCreation,Code.isGuard,Code.isCaller,Code.frames,Code.isFrame,guardIds]
theorem MF{A:Around}{us:List Value}{kw:List (Str×Value)}:(A.under (.builtin "type.__call__" ⟨.ref C::us,kw⟩)).units=A.units+1:=by
 first|rfl|simp[Around.under,Code.cUnits,Code.frames,Code.isFrame]
theorem Room.make{k:Nat}(r:Room (k+1) A)(C:Addr)(us:List Value)(kw:List (Str×Value)):Room k (A.under (.builtin "type.__call__" ⟨.ref C::us,kw⟩)):=
 ⟨r.hd,by have:=r.dp;rw[NX];omega,by have:=r.un;rw[MF];omega⟩
theorem Room.depth(r:Room k A):A.depth<recursionLimit:=by have:=r.dp;omega
theorem Room.units(r:Room k A):A.units+64<cLine:=by have:=r.un;omega
theorem Room.units0(r:Room k A):A.units<cLine:=by have:=r.un;omega
noncomputable def W2:TA:=λ_ H Q=>Q [] H
noncomputable def JZ(ta:TE)(tr:TA):TA:=fun σ H Q=>ta σ H λx H1=>tr σ H1 λxs H2=>Q (x::xs) H2
section
theorem B4:PA X [] W2:=λ_ _ _ _ H Q I h=>Calls.spliced_nil ⟨[],H,I,.nil,h⟩
theorem A0(ha:PE X e te)(hr:PA X es t)(hs:starEach (e::es) X.env=(false,eval e X.env)::starEach es X.env:=by rfl):PA X (e::es) (JZ te t):=by
 intro b a s σ H Q I h;rw[hs];show wpAny _ _ (spliced ((false,eval e X.env)::backTo b (starEach es X.env))) _ _ s;refine Calls.spliced_cons (thn (ha a s σ H _ I h) λu s1 ⟨x,H1,I1,r1,q1⟩=> ?_);exact thn (hr b a s1 σ H1 _ I1 q1) λus s2 ⟨xs,H2,I2,r2,q2⟩=>⟨x::xs,H2,I2,.cons r1 r2,q2⟩
inductive tTupW (Q:VK) (xs:List V) (H1:Hp):Prop
 |mk:(xs.length<=sizeLine)->(∀p,H1 p=none->Q (.ref p) (upd H1 p (.tup xs)))->tTupW Q xs H1
noncomputable def d9Z(t:TA):TE:=fun σ H Q=>t σ H λxs H1=>tTupW Q xs H1
inductive tLstW (Q:VK) (xs:List V) (H1:Hp):Prop
 |mk:(xs.length<=sizeLine)->(∀p,H1 p=none->Q (.ref p) (upd H1 p (.lst xs)))->tLstW Q xs H1
noncomputable def edZ(t:TA):TE:=fun σ H Q=>t σ H λxs H1=>tLstW Q xs H1
theorem C3{x1}(h:PA X es t):PE X (.Tuple es x1 pos) (d9Z t):=by
 intro a s σ H Q I hq;refine wpAny_Tuple_spliced (thn (h pos a s σ H _ I hq) λus s1 ⟨xs,H1,I1,r,z,q⟩=>⟨by rw[<-r.length];exact z, ?_⟩);have hf:H1 s1.heap.objs.size=none:=I1.hok.fresh (le_refl _);refine⟨.ref s1.heap.objs.size,upd H1 s1.heap.objs.size (.tup xs),I1.laid (t':=s1.toks) (λb u e=>gZ _ e) (le_refl _) ?_,rfl,q _ hf⟩;exact⟨z,us,r,⟨_,get?_push_size _ rfl,rfl,_,rfl⟩⟩
theorem E7(h:PA X es t):PE X (.List es pos) (edZ t):=by
 intro a s σ H Q I hq;refine wpAny_List_spliced (thn (h pos a s σ H _ I hq) λus s1 ⟨xs,H1,I1,r,z,q⟩=>⟨by rw[<-r.length];exact z, ?_⟩);have hf:H1 s1.heap.objs.size=none:=I1.hok.fresh (le_refl _);refine⟨.ref s1.heap.objs.size,upd H1 s1.heap.objs.size (.lst xs),I1.laid (t':=s1.toks) (λb u e=>gZ _ e) (le_refl _) ?_,rfl,q _ hf⟩;exact⟨z,us,0,r,get?_push_size _ rfl⟩
end
noncomputable abbrev Sp:=List V->Hp->VK->XK->Prop
noncomputable abbrev CXT:=List Env->Hp->Shared->XK->Value->Shared->Prop
structure Env0 (P:Program) (w:World) (Z:FZ) (mg:Str->Option Value) (base:Heap) (A:Around) (outer:List Env) (s:Shared) (H:Hp):Prop where
 frames:A.frames=some outer
 mod:Mod Z mg base
 bs:∀b o,base.get? b=some o->s.heap.get? b=some o/\H b=none
 bsz:base.objs.size<=s.heap.objs.size
 funs:s.heap.FunFrames base outer
 frf:∀b∈frs outer,H b=none
 hok:HOk P w H s.heap
 bare:AllBare s.gens
noncomputable def CE(outer:List Env)(P:Program)(w:World)(H:Hp)(s:Shared)(Q:VK)(u:Value)(s':Shared):Prop:=
 ∃v H',s'.os=s.os/\AllBare s'.gens/\Un (frs outer) [] H H' s.heap s'.heap/\HOk P w H' s'.heap/\RelV v u/\Q v H'
noncomputable def CR(CX:CXT)(outer:List Env)(P:Program)(w:World)(H:Hp)(s:Shared)(Q:VK)(E:XK)(r:Result)(s':Shared):Prop:=
 match r with
 | .ok (.ret u)=>CE outer P w H s Q u s'
 | .ok _=>False
 | .error e=>CX outer H s E e s'
structure FnOk (P:Program) (w:World) (Z:FZ) (mg:Str->Option Value) (base:Heap) (CX:CXT) (k:Nat) (f:Addr) (fd:FuncData) (ps:List Str) (sp:Sp):Prop where
 len:∀vs H Q E,sp vs H Q E->vs.length=ps.length
 run:∀(A:Around) (outer:List Env) (s:Shared) (H:Hp) (args:Args) (us:List Value) (vs:List V) (Q:VK) (E:XK),Room k A->Env0 P w Z mg base A outer s H->BindsTo s fd args (ps.zip us)->Vals vs us->sp vs H Q E->
  codeAny (model P w) A (.call (.ref f) args) (CR CX outer P w H s Q E) s
theorem FnOk.mono{k:Nat}(F:FnOk P w Z mg base CX j f fd ps sp)(h:j<=k):
  FnOk P w Z mg base CX k f fd ps sp:=⟨F.len,λA a s H b us vs Q E hr=>F.run A a s H b us vs Q E (hr.mono h)⟩
theorem FnOk.imp{sp':Sp}(F:FnOk P w Z mg base CX k f fd ps sp)
  (h:∀vs H Q E,sp' vs H Q E->sp vs H Q E):FnOk P w Z mg base CX k f fd ps sp':=
 ⟨λvs H Q E q=>F.len vs H Q E (h _ _ _ _ q),λA a s H b us vs Q E hr he hb hv hs=>F.run A a s H b us vs Q E hr he hb hv (h _ _ _ _ hs)⟩
theorem Env0.make(e:Env0 P w Z mg base A outer s H)(C:Addr)(us:List Value)(kw:List (Str×Value)):
  Env0 P w Z mg base (A.under (.builtin "type.__call__" ⟨.ref C::us,kw⟩)) outer s H:=⟨by first|exact e.frames|(simpa [Around.under,Code.envs,Code.isFrame,pushEnvs]using e.frames),e.mod,e.bs,e.bsz,e.funs,e.frf,e.hok,e.bare⟩
section
theorem Inv.env0{H:Hp}(I:Inv X pins σ H s):Env0 X.prog X.w X.K X.mg X.base X.A X.stack s H:=
 ⟨I.ok.frames,I.ok.mod,I.bs,le_trans I.ok.bsz I.sz,I.stack,I.stkFree,I.hok,I.bare⟩
theorem Inv.after{H:Hp}(I:Inv X pins σ H s)(h:CE X.stack X.prog X.w H s Q u s'):EP X pins σ Q u s':=by
 obtain⟨v,H',os,a,un,e,r,q⟩:=h;obtain⟨hh,g,d,t,c⟩:=s';obtain rfl:c=s.os:=os;exact⟨v,H',I.call (h':=hh) (g':=g) (d':=d) (t':=t) (ch:=[]) un e a (λb z=>absurd z (by simp)),r,q⟩
end
noncomputable def WA(sp:Sp)(dvs:List V)(E:XK)(t:TA):TE:=fun σ H Q=>t σ H λvs H1=>sp (vs++dvs) H1 Q E
inductive tMethW (C:Addr) (m:Str) (sp:Sp) (dvs:List V) (E:XK) (t:TA) (σ:St) (Q:VK) (x:V) (H1:Hp):Prop
 |mk:∀a dx fs,(x=.ref a)->(H1 a=some (.ins C dx fs))->(fs.lookup m=none)->(t σ H1 λvs H2=>sp (x::(vs++dvs)) H2 Q E)->tMethW C m sp dvs E t σ Q x H1
noncomputable def QF(C:Addr)(m:Str)(sp:Sp)(dvs:List V)(E:XK)(ta:TE)(t:TA):TE:=fun σ H Q=>ta σ H λx H1=>tMethW C m sp dvs E t σ Q x H1
noncomputable def bbZ(C:Addr)(sp:Sp)(dvs:List V)(E:XK)(t:TA):TE:=fun σ H Q=>t σ H λvs H1=>∀x dx,H1 x=none->H1 dx=none->dx≠x->
 sp (.ref x::(vs++dvs)) (upd (upd H1 dx (.own x)) x (.ins C dx [])) (λv H2=>v=.non/\Q (.ref x) H2) E
noncomputable def Binds(Z:FZ)(fd:FuncData)(ps:List Str)(ds:List Value):Prop:=
 ∀(s:Shared) (us:List Value),Z.In s.heap->(us++ds).length=ps.length->BindsTo s fd ⟨us,[]⟩ (ps.zip (us++ds))
theorem Binds.all{ps:List Str}(h:∀us:List Value,us.length=ps.length->bindArgs fd ⟨us,[]⟩=pure (ps.zip us)):Binds Z fd ps []:=λs us _ hl=>by
 rw[append_nil]at hl⊢;exact .of_eq (h us hl)
noncomputable def S8(CX:CXT)(X:Cx)(E:XK):Prop:=∀(pins:List (Addr×Obj)) (σ:St) (H:Hp) (s:Shared) (e:Value) (s':Shared),Inv X pins σ H s->CX X.stack H s E e s'->X.xe e s'
section
theorem DG{X:Cx}{H:Hp}{Q:VK}(F:FnOk X.prog X.w X.K X.mg X.base CX k f fd ps sp)(hr:Room k X.A)(hb:Binds X.K fd ps ds)(hd:Vals dvs ds)(hx:S8 CX X E)
  (I:Inv X pins σ H s)(r:Vals vs us)(h:sp (vs++dvs) H Q E):wpAny (model X.prog X.w) X.A (call (.ref f) us) (EP X pins σ Q) X.xe s:=by
 have r2:Vals (vs++dvs) (us++ds):=r.append hd;have hl:(us++ds).length=ps.length:=by rw[<-r2.length];exact F.len _ _ _ _ h
 refine wpAny_call (codeAny_mono (F.run X.A X.stack s H ⟨us,[]⟩ (us++ds) (vs++dvs) Q E hr I.env0 (hb s us I.kIn hl) r2 h) λr s' hq=> ?_);cases r with
 |error e=>exact hx pins σ H s e s' I hq
 |ok fl=>
  cases fl with
  |ret u=>exact I.after hq
  |next=>exact False.elim hq
  |brk=>exact False.elim hq
  |cont=>exact False.elim hq
theorem AB{X:Cx}{e:Expr}{es:List Expr}(F:FnOk X.prog X.w X.K X.mg X.base CX k f fd ps sp)(hr:Room k X.A)(hg:Gl X x)(hm:X.mg x=some (.ref f))(hk:kZ X.K (.ref f)=true)(hb:Binds X.K fd ps ds)(hd:Vals dvs ds)(hx:S8 CX X E)
  (ha:PA X (e::es) t)(hdb:(x==("__debug__":Str))=false:=by decide)(he:starEach (e::es) X.env=(false,eval e X.env)::starEach es X.env:=by rfl)(hpl:(backTo pos (starEach es X.env)).any (·.1)=false:=by rfl):
  PE X (.Call (.Name x p) (e::es) [] pos) (WA sp dvs E t):=by
 intro a s σ H Q I h;refine wpAny_Call_Name_kw (AD I hg hm ?_ hdb);refine callWith_K (h₀:=X.base) I.ok.mod.kin hk (thn (ha pos a s σ H _ I h) λus s1 ⟨vs,H1,I1,r,q⟩=>⟨I1.kIn, ?_⟩) he hpl;exact DG F hr hb hd hx I1 r q
theorem ZH{e:Expr}{es:List Expr}(he:PE X o ta)(c:Cls X.K C)(hm:Meth X.K C m f)(F:FnOk X.prog X.w X.K X.mg X.base CX k f fd ps sp)(hr:Room k X.A)(hb:Binds X.K fd ps ds)(hd:Vals dvs ds)(hx:S8 CX X E)(ha:PA X (e::es) t)
  (hst:starEach (e::es) X.env=(false,eval e X.env)::starEach es X.env)(hpl:(backTo pos (starEach es X.env)).any (·.1)=false)
  (ht:eval (.Call (.Attribute o m apos) (e::es) [] pos) X.env=(do
   let ov<-eval o X.env
   standAt apos.atName
   let(f,first)<-holding [ov] (getMethod ov m pl)
   callWith pos f first (backTo pos (starEach (e::es) X.env)) (backToKw pos (keywordEach [] X.env)))):
  PE X (.Call (.Attribute o m apos) (e::es) [] pos) (QF C m sp dvs E ta t):=by
 intro b s σ H Q I h;refine PySem.W.methodCall_KW (pl:=pl) (thn (he b s σ H _ I h) λu s1 ⟨x,H1,I1,rx,a,dx,fs,ex,ea,l,q⟩=> ?_) ht;subst ex;obtain rfl:u=Value.ref a:=rx;refine EN I1 ea c hm l ?_;refine callWith_K (first:=[.ref a]) (h₀:=X.base) I.ok.mod.kin hm.kp (thn (ha pos b s1 σ H1 _ I1 q) λus s2 ⟨vs,H2,I2,r,q2⟩=>⟨I2.kIn, ?_⟩) hst hpl;exact DG (us:=.ref a::us) (vs:=.ref a::vs) F hr hb hd hx I2 (.cons rfl r) q2
theorem WY(he:PE X o ta)(c:Cls X.K C)(hm:Meth X.K C m f)(F:FnOk X.prog X.w X.K X.mg X.base CX k f fd ps sp)(hr:Room k X.A)(hb:Binds X.K fd ps ds)(hd:Vals dvs ds)(hx:S8 CX X E)
  (ht:eval (.Call (.Attribute o m apos) [] [] pos) X.env=(do
   let ov<-eval o X.env
   standAt apos.atName
   let(f,first)<-holding [ov] (getMethod ov m pl)
   callWith pos f first (backTo pos (starEach [] X.env)) (backToKw pos (keywordEach [] X.env))):=by rfl):
  PE X (.Call (.Attribute o m apos) [] [] pos) (QF C m sp dvs E ta W2):=by
 intro b s σ H Q I h;refine PySem.W.methodCall_KW (pl:=pl) (thn (he b s σ H _ I h) λu s1 ⟨x,H1,I1,rx,a,dx,fs,ex,ea,l,q⟩=> ?_) ht;subst ex;obtain rfl:u=Value.ref a:=rx;refine EN I1 ea c hm l ?_;exact PySem.W.callWith_K0 (first:=[.ref a]) I1.kIn hm.kp (DG (us:=[.ref a]) (vs:=[.ref a]) F hr hb hd hx I1 (.cons rfl .nil) q)
structure Mk (Z:FZ) (C f:Addr):Prop where
 makes:PySem.W.makesIn Z C=true
 init:findIn Z (.ref C) "__init__"=some (some (.ref f))
 fn:isFn Z (.ref f)=true
 kp:kZ Z (.ref C)=true
theorem KO{X:Cx}{H:Hp}{Q:VK}(M:Mk X.K C f)(F:FnOk X.prog X.w X.K X.mg X.base CX k f fd ps sp)(hr:Room (k+1) X.A)(hb:Binds X.K fd ps ds)(hd:Vals dvs ds)
  (hx:S8 CX X E)(I:Inv X pins σ H s)(r:Vals vs us)
  (h:∀x dx,H x=none->H dx=none->dx≠x->sp (.ref x::(vs++dvs)) (upd (upd H dx (.own x)) x (.ins C dx [])) (λv H2=>v=.non/\Q (.ref x) H2) E):
  wpAny (model X.prog X.w) X.A (call (.ref C) us) (EP X pins σ Q) X.xe s:=by
 have hq:=h (s.heap.objs.size+1) s.heap.objs.size (I.hok.fresh (le_succ _)) (I.hok.fresh (le_refl _)) (ne_of_lt (lt_succ_self _));have I2:=Inv.made (C:=C) I;have r2:Vals (V.ref (s.heap.objs.size+1)::(vs++dvs)) (Value.ref (s.heap.objs.size+1)::(us++ds)):=.cons rfl (r.append hd);have hl:(Value.ref (s.heap.objs.size+1)::us++ds).length=ps.length:=by
  have e:=r2.length;rw[F.len _ _ _ _ hq]at e;exact e.symm
 refine wpAny_call (WT (f:=f) I.kIn M.makes M.init (beq_iff_eq.mp M.fn) (codeAny_mono (F.run _ X.stack _ _ ⟨Value.ref (s.heap.objs.size+1)::us,[]⟩ (Value.ref (s.heap.objs.size+1)::(us++ds)) _ _ E (hr.make C us [])
  (I2.env0.make C us []) (hb _ (Value.ref (s.heap.objs.size+1)::us) I2.kIn hl) r2 hq) λr s' a=> ?_))
 cases r with
 |error e=>exact hx pins σ _ _ e s' I2 a
 |ok fl=>
  cases fl with
  |ret u=>
   obtain⟨v,H',I3,rv,ev,q3⟩:=I2.after a;subst ev;exact⟨rv,⟨V.ref (s.heap.objs.size+1),H',I3,rfl,q3⟩⟩
  |next=>exact False.elim a
  |brk=>exact False.elim a
  |cont=>exact False.elim a
theorem QE{X:Cx}{e:Expr}{es:List Expr}(M:Mk X.K C f)(F:FnOk X.prog X.w X.K X.mg X.base CX k f fd ps sp)(hr:Room (k+1) X.A)(hg:Gl X x)(hm:X.mg x=some (.ref C))(hb:Binds X.K fd ps ds)(hd:Vals dvs ds)(hx:S8 CX X E)
  (ha:PA X (e::es) t)(hdb:(x==("__debug__":Str))=false:=by decide)(he:starEach (e::es) X.env=(false,eval e X.env)::starEach es X.env:=by rfl)(hpl:(backTo pos (starEach es X.env)).any (·.1)=false:=by rfl):
  PE X (.Call (.Name x p) (e::es) [] pos) (bbZ C sp dvs E t):=by
 intro a s σ H Q I h;refine wpAny_Call_Name_kw (AD I hg hm ?_ hdb);refine callWith_K (h₀:=X.base) I.ok.mod.kin M.kp (thn (ha pos a s σ H _ I h) λus s1 ⟨vs,H1,I1,r,q⟩=>⟨I1.kIn, ?_⟩) he hpl;exact KO M F hr hb hd hx I1 r q
theorem LI{X:Cx}(M:Mk X.K C f)(F:FnOk X.prog X.w X.K X.mg X.base CX k f fd ps sp)(hr:Room (k+1) X.A)(hg:Gl X x)(hm:X.mg x=some (.ref C))(hb:Binds X.K fd ps ds)(hd:Vals dvs ds)(hx:S8 CX X E)
  (hdb:(x==("__debug__":Str))=false:=by decide):PE X (.Call (.Name x p) [] [] pos) (bbZ C sp dvs E W2):=by
 intro a s σ H Q I h;refine wpAny_Call_Name_kw (AD I hg hm ?_ hdb);exact PySem.W.callWith_K0 I.kIn M.kp (KO (us:=[]) M F hr hb hd hx I .nil h)
end
structure FnScope(N P:List Str)(sc:Scope):Prop where
 kind:sc.kind=.function
 co:sc.isCoroutine=false
 gen:sc.isGenerator=false
 nd:N.Nodup
 pre:N.take P.length=P
 par:∀x∈P,sc.names.lookup x=some .local\/sc.names.lookup x=some .cell
 nofree:∀y∈sc.names,y.2≠ .free
theorem GD{kindOf:Str->Option NameKind}{x:Str}:∀ {binds:List (Str×Value)} {m:Str->Option Value},(∀v,(x,v)∉binds)->bindL kindOf binds m x=m x
 | [],_,_=>rfl
 |(n,v)::r,m,h=>by
  unfold bindL;rw[GD λw hw=>h w (mem_cons_of_mem _ hw)];split
  ·have:x≠n:=by rintro rfl;exact h v mem_cons_self
   simp[this]
  ·rfl
theorem FT{kindOf:Str->Option NameKind}{x:Str}:∀ {binds:List (Str×Value)} {m:Str->Option Value},(∀v,(x,v)∉binds)->bindC kindOf binds m x=m x
 | [],_,_=>rfl
 |(n,v)::r,m,h=>by
  unfold bindC;rw[FT λw hw=>h w (mem_cons_of_mem _ hw)];split
  ·rfl
  ·have:x≠n:=by rintro rfl;exact h v mem_cons_self
   simp[this]
theorem GO{kindOf:Str->Option NameKind}{x:Str}{v:Value}:∀ {P:List Str} {vs:List Value} {i:Nat} {m:Str->Option Value},P.Nodup->P[i]? =some x->vs[i]? =some v->kindOf x=some .local->
  bindL kindOf (P.zip vs) m x=some v
 | [],_,_,_,_,h,_,_=>by simp at h
 |_::_,[],_,_,_,_,h,_=>by simp at h
 |p::P,w::vs,0,m,nd,h1,h2,hk=>by
  simp at h1 h2;subst h1;subst h2;show bindL kindOf ((p,w)::P.zip vs) m p=_;unfold bindL;rw[GD λv hv=>(nodup_cons.mp nd).1 (of_mem_zip hv).1,if_pos hk];simp
 |p::P,w::vs,i+1,m,nd,h1,h2,hk=>by
  show bindL kindOf ((p,w)::P.zip vs) m x=_;unfold bindL;exact GO (i:=i) (nodup_cons.mp nd).2 (by simpa using h1) (by simpa using h2) hk
theorem FX{kindOf:Str->Option NameKind}{x:Str}{v:Value}:∀ {P:List Str} {vs:List Value} {i:Nat} {m:Str->Option Value},P.Nodup->P[i]? =some x->vs[i]? =some v->kindOf x≠some .local->
  bindC kindOf (P.zip vs) m x=some v
 | [],_,_,_,_,h,_,_=>by simp at h
 |_::_,[],_,_,_,_,h,_=>by simp at h
 |p::P,w::vs,0,m,nd,h1,h2,hk=>by
  simp at h1 h2;subst h1;subst h2;show bindC kindOf ((p,w)::P.zip vs) m p=_;unfold bindC;rw[FT λv hv=>(nodup_cons.mp nd).1 (of_mem_zip hv).1,if_neg hk];simp
 |p::P,w::vs,i+1,m,nd,h1,h2,hk=>by
  show bindC kindOf ((p,w)::P.zip vs) m x=_;unfold bindC;exact FX (i:=i) (nodup_cons.mp nd).2 (by simpa using h1) (by simpa using h2) hk
noncomputable def start(N:List Str)(vs:List V):St:=vs.map some++List.replicate (N.length - vs.length) none
noncomputable def HU(CX:CXT)(P:Program)(w:World)(Z:FZ)(mg:Str->Option Value)(base:Heap)(N:List Str)(qual:Str)(scope:Scope)(f:Addr)(cd:Value)(A:Around)(outer:List Env)(s:Shared)(H:Hp)(E:XK):Cx where
 prog:=P
 w:=w
 K:=Z
 mg:=mg
 base:=base
 A:=A.deeper (envOfC qual scope s.heap.objs.size f cd)
 N:=N
 s₀:=s
 H₀:=H
 env:=envOfC qual scope s.heap.objs.size f cd
 outer:=outer
 stack:=envOfC qual scope s.heap.objs.size f cd::outer
 ex:=[]
 calm:=true
 fn:=λ_=>true
 pn:=[]
 xe:=λe s'=>wpAny (model P w) (A.deeper (envOfC qual scope s.heap.objs.size f cd)) (leaving (envOfC qual scope s.heap.objs.size f cd) e) (λ_ s''=>CX outer H s E e s'') (λe' s''=>CX outer H s E e' s'') s'
theorem JQ{sc:Scope}(h:sc.names.lookup x=some .cell):∃c,(cellsFrom n sc.names []).lookup x=some c:=by
 have q:=PySem.W.cellsFrom_some sc.names n [] (.inl h);exact Option.isSome_iff_exists.mp q
theorem SH{A:Around}{vs:List V}
  (S:FnScope N ps scope)(hd:A.handled=none)(e0:Env0 P w Z mg base A outer s H)(hl:vs.length=ps.length)(r:Vals vs us)
  (x:InCallC s s.heap.objs.size (bindL (envOfC qual scope s.heap.objs.size f cd).kindOf (ps.zip us) λ_=>none) (cellsFrom (s.heap.objs.size+1) scope.names []) (bindC (envOfC qual scope s.heap.objs.size f cd).kindOf (ps.zip us) λ_=>none) s1):
  Inv (HU CX P w Z mg base N qual scope f cd A outer s H E) [] (start N vs) H s1:=by
 have j:ps.length<=N.length:=by have:=congrArg List.length S.pre;rw[length_take]at this;omega
 obtain⟨h1,tk,rfl,hk⟩:=x.done;have d:∀b:Addr,b∉(HU CX P w Z mg base N qual scope f cd A outer s H E).ex:=λb z=>absurd (show b∈([]:List Addr)from z) (by simp);refine⟨⟨e0.mod,S.kind,rfl,rfl,le_refl _,λy z c h1 h2=> ?_,λy hy=> ?_,λy c _ h=> ?_,λ_=>hd,Around.frames_deeper e0.frames,.inr ⟨rfl,rfl⟩,λb z=>absurd z (d b),e0.bs,e0.bsz,λb _ _=>d b,λb z=>absurd z (d b),e0.funs,e0.frf⟩,
  rfl,e0.bare,Un.kept hk,⟨_,x.toInCall.ns,λi y v h1 h2 h3=> ?_⟩,λy c h=>⟨_,x.cell y c h⟩,e0.hok.fresh (le_refl _),λy c h=> ?_,λp hp=>absurd (show p∈([]:List (Addr×Obj))from hp) (by simp),e0.hok.kept hk, ?_⟩
 ·exact name_of_addr x.apart (PySem.mem_of_lookup h1) (PySem.mem_of_lookup h2)
 ·have hy:scope.names.lookup y=some .cell\/scope.names.lookup y=some .free:=hy;rcases hy with hy|hy
  ·exact JQ hy
  ·exact absurd rfl (S.nofree _ (PySem.mem_of_lookup hy))
 ·exact le_of_lt (x.above y c (PySem.mem_of_lookup h))
 ·have hi:i<vs.length:=by
   unfold start at h2;by_cases hi:i<vs.length
   ·exact hi
   ·rw[getElem?_append_right (by simpa using hi)]at h2;rw[List.getElem?_replicate]at h2;split at h2<;>cases h2
  have ha:vs[i]? =some v:=by
   unfold start at h2;rw[getElem?_append_left (by simpa using hi),getElem?_map]at h2;cases e:vs[i]? with
   |none=>rw[e]at h2;cases h2
   |some a=>rw[e]at h2;cases h2;rfl
  obtain⟨u,hu,rv⟩:=r.get ha;have hp:ps[i]? =some y:=by
   rw[<-S.pre,List.getElem?_take_of_lt (by omega)];exact h1
  have g:ps.Nodup:=by rw[<-S.pre];exact S.nd.sublist (List.take_sublist _ _)
  refine⟨u,rv, ?_⟩;rcases S.par y (mem_of_getElem? hp)with k|k
  ·exact .inl ⟨k,GO g hp hu k⟩
  ·obtain⟨c,e⟩:=JQ (n:=s.heap.objs.size+1) k;refine .inr ⟨.inl k,c,e, ?_⟩;have q:=x.cell y c e;rw[FX g hp hu (by show scope.names.lookup y≠_;rw[k];decide)]at q;exact q
 ·exact e0.hok.fresh (le_of_lt (x.above y c (PySem.mem_of_lookup h)))
 ·unfold start;show _=N.length;rw[length_append,length_map,length_replicate];omega
theorem aWZ{Z:FZ}{kV oc:Value}{od:Option Addr}
  {osl:Array (Option Value)}{sp:Sp}(lk:Z.lookup f=some ⟨oc,od,.func (fnOf name qual params body scope dV kV doc pm an cdv ct),osl⟩)(hcd:codeIn Z cdv qual=true)(S:FnScope N ps scope)
  (len:∀vs H Q E,sp vs H Q E->vs.length=ps.length)
  (hbody:∀(A:Around) (outer:List Env) (s:Shared) (H:Hp) (vs:List V) (Q:VK) (E:XK),Room k (A.deeper (envOfC qual scope s.heap.objs.size f cdv))->sp vs H Q E->
   ∃t,PSs (HU CX P w Z mg base N qual scope f cdv A outer s H E) body t/\t {nx:=λ_ H'=>Q .non H',rt:=Q} (start N vs) H):
  FnOk P w Z mg base CX (k+1) f (fnOf name qual params body scope dV kV doc pm an cdv ct) ps sp:=by
 refine⟨len,λA outer s H h us vs Q E hr e0 hb r c=> ?_⟩;have hl:=len _ _ _ _ c;have _K:Z.In s.heap:=e0.mod.kin.keeps λb o e=>(e0.bs b o e).1;have g:s.heap.NoLimit:=e0.mod.nolimit.keeps λb o e=>(e0.bs b o e).1;have a:∀y∈ps.zip us,scope.names.lookup y.1=some .local\/(scope.names.lookup y.1=some .cell/\((cellsFrom (s.heap.objs.size+1) scope.names []).lookup y.1).isSome=true):=λ⟨n,v⟩ hy=>by
  rcases S.par n (of_mem_zip hy).1 with q|q
  ·exact .inl q
  ·exact .inr ⟨q,PySem.W.cellsFrom_some _ _ _ (.inl q)⟩
 refine codeAny_call_function hr.depth (_K _ _ lk) rfl S.co S.gen rfl (PySem.W.codeRec_of _K hcd) (hb _ _ _ _ ?_);refine wpAny_newFunctionEnv_cells S.kind a λi he s1 x=> ?_;subst he;refine⟨g.keeps x.toInCall.keep,codeAny_func ?_⟩;obtain⟨t,ht,hq⟩:=hbody A outer s H vs Q E (hr.deeper _) c;have I:Inv (HU CX P w Z mg base N qual scope f cdv A outer s H E) [] (start N vs) H s1:=SH S hr.hd e0 hl r x;refine wpAny_mono (ht [] s1 (start N vs) H _ I hq) (λfl s' hs=> ?_) λe s' hs=>hs;have d:∀ {σ':St} {H':Hp} {v:V} {u:Value},Inv (HU CX P w Z mg base N qual scope f cdv A outer s H E) [] σ' H' s'->RelV v u->Q v H'->CE outer P w H s Q u s':=
  λ{σ' H' v u} J rv q=>⟨v,H',J.os,J.bare,J.base,J.hok,rv,q⟩
 cases fl with
 |ret u=>
  obtain⟨v,σ',H',J,rv,q⟩:=hs;exact d J rv q
 |next=>
  obtain⟨σ',H',J,q⟩:=hs;exact d (v:=V.non) (u:=Value.none) J rfl q
 |brk=>
  obtain⟨_,_,_,q⟩:=hs;exact False.elim q
 |cont=>
  obtain⟨_,_,_,q⟩:=hs;exact False.elim q
section
noncomputable def tCB(r:List V->Hp->VK->Prop)(t:TA):TE:=fun σ H Q=>t σ H λvs H1=>r vs H1 Q
theorem E3{e:Expr}{es:List Expr}{id:String}(hc:CallR X (.builtin id) r)(hg:Gl X x)(hm:X.mg x=none)(hv:bootBuiltins x=some (.builtin id))(ha:PA X (e::es) t)(hn:x≠ "__name__":=by decide)(hdb:(x==("__debug__":Str))=false:=by decide)
  (he:starEach (e::es) X.env=(false,eval e X.env)::starEach es X.env:=by rfl)(hpl:(backTo pos (starEach es X.env)).any (·.1)=false:=by rfl):PE X (.Call (.Name x p) (e::es) [] pos) (tCB r t):=by
 intro a s σ H Q I h;refine wpAny_Call_Name_kw (X4 I hg hm hv ?_ hn hdb);exact PyProof.Rows.callWith_builtin1 (thn (ha pos a s σ H _ I h) λus s1 ⟨vs,H1,I1,r1,q1⟩=>hc a s1 σ H1 vs us Q I1 r1 q1) he hpl
theorem F9{e:Expr}{es:List Expr}(hc:CallR X (.type T) r)(hg:Gl X x)(hm:X.mg x=none)(hv:bootBuiltins x=some (.type T))(ha:PA X (e::es) t)(hn:x≠ "__name__":=by decide)(hdb:(x==("__debug__":Str))=false:=by decide)
  (he:starEach (e::es) X.env=(false,eval e X.env)::starEach es X.env:=by rfl)(hpl:(backTo pos (starEach es X.env)).any (·.1)=false:=by rfl):PE X (.Call (.Name x p) (e::es) [] pos) (tCB r t):=by
 intro a s σ H Q I h;refine wpAny_Call_Name_kw (X4 I hg hm hv ?_ hn hdb);exact callWith_type1 (thn (ha pos a s σ H _ I h) λus s1 ⟨vs,H1,I1,r1,q1⟩=>hc a s1 σ H1 vs us Q I1 r1 q1) he hpl
end
end _L
namespace HT
open PySem PyProof.Rows
section
open PySem.SeqAt
open PySem.AutoSeq1 (wpAny_loadPart')
open PySem.MeetsSeq PySem.MeetsSeq2 PySem.MeetsSeq3
end
section
theorem cat_tup{s:Shared}{vs ws:List Value}{Q:Value->Shared->Prop}(ht:IsTup s.heap t vs.toArray)(hb:IsTup s.heap b ws.toArray)(hv:vs≠ [])
  (h1:ws=[]->Q (.ref t) s)(h2:ws≠ []->Q (.ref s.heap.objs.size) {s with heap:=s.heap.push {cls:=.type "tuple",data:=.seq (vs++ws).toArray}})
  (hsz:vs.length+ws.length<=sizeLine):wpAny (model prog w) A (binaryOp .Add (.ref t) (.ref b)) Q E s:=by
 obtain⟨⟨cls,dd,data,sl⟩,ho,hc,n,hd⟩:=id ht;obtain⟨⟨i,g,h,c⟩,a,f,n2,d⟩:=id hb;simp only at hc hd f d;subst hc hd f d;have e:vs.toArray++ws.toArray=(vs++ws).toArray:=by simp
 by_cases hw:ws=[]
 ·exact concat_meets ⟨_,ho,rfl⟩ ⟨_,a,rfl⟩ noFill_tuple_add seq_tuple_add PySem.F.slot_tuple_add PySem.F.entry_tuple_add (PySem.F.args_tuple_add_2 _ _)
   (tuple_addW1 t b vs.toArray ws.toArray n n2 dd g sl c (by simpa using hv) (by simp[hw])) ⟨ho,a,h1 hw⟩
 ·refine concat_meets ⟨_,ho,rfl⟩ ⟨_,a,rfl⟩ noFill_tuple_add seq_tuple_add PySem.F.slot_tuple_add PySem.F.entry_tuple_add (PySem.F.args_tuple_add_2 _ _)
   (tuple_addW2 t b vs.toArray ws.toArray n n2 dd g sl c (by simpa using hv) (by simpa using hw) (by rw[size_toArray,size_toArray];exact hsz)) ⟨ho,a, ?_⟩
  rw[e];exact h2 hw
noncomputable def sIx(n d:Nat):Option Int->Nat
 |none=>d
 |some v=>if v<0 then(v+(n:Int)).toNat else min v.toNat n
theorem sIx_none(n d:Nat):sIx n d none=d:=rfl
theorem sIx_nat(n d k:Nat):sIx n d (some (k:Int))=min k n:=by
 show(if(k:Int)<0 then((k:Int)+(n:Int)).toNat else min (k:Int).toNat n)=min k n;rw[if_neg (by omega),Int.toNat_natCast]
theorem bTZ(n d:Nat)(hd:d<=n)(o:Option Int):sIx n d o<=n:=by
 cases o with
 |none=>exact hd
 |some v=>
  show(if v<0 then(v+(n:Int)).toNat else min v.toNat n)<=n;by_cases hv:v<0
  ·rw[if_pos hv];omega
  ·rw[if_neg hv];exact Nat.min_le_right _ _
theorem QG(v:Int)(n d:Nat):(if v<0 then max (v+(n:Int)) 0 else min v (n:Int))=((sIx n d (some v):Nat):Int):=by
 show(if v<0 then max (v+(n:Int)) 0 else min v (n:Int))=(((if v<0 then(v+(n:Int)).toNat else min v.toNat n):Nat):Int);by_cases hv:v<0
 ·simp only[if_pos hv];omega
 ·simp only[if_neg hv];omega
theorem MV(lo hi:Option Int)(n:Nat):Builtin.Slice.sliceAdjust lo hi 1 (n:Int)=(((sIx n 0 lo:Nat):Int),((sIx n n hi:Nat):Int)):=by
 have h1:¬((1:Int)<0):=by omega
 unfold Builtin.Slice.sliceAdjust;simp only[h1,if_false];refine Prod.ext ?_ ?_
 ·cases lo with
  |none=>rfl
  |some v=>exact QG v n 0
 ·cases hi with
  |none=>rfl
  |some v=>exact QG v n n
theorem MJ(i j:Nat):Builtin.Slice.slicePlaces (i:Int) (j:Int) 1=j - i:=by
 unfold Builtin.Slice.slicePlaces;have h1:(1:Int)>0:=by omega
 simp only[h1,if_true,Int.ediv_one];split<;>omega
theorem EB{s:Shared}{Q:Option Int->Shared->Prop}(p:IsPart v o)(h:Q o s):wpAny (model prog w) A (Builtin.Slice.slicePartIndex v) Q E s:=by
 cases p with
 |none=>exact slicePart_none h
 |int i t=>exact slicePart_int h
theorem Q3{s:Shared}{lo:Option Int}{Q:Int×Int×Nat->Shared->Prop}(hs:s.heap.IsSliceOf sl vl vu .none)(pl:IsPart vl lo)(pu:IsPart vu hi)
  (h:Q (((sIx n 0 lo:Nat):Int),1,sIx n n hi - sIx n 0 lo) s):wpAny (model prog w) A (Builtin.Slice.sliceApplied (.ref sl) (pure (n:Int))) Q E s:=by
 obtain⟨os,a,c,b⟩:=id hs;unfold Builtin.Slice.sliceApplied Builtin.Slice.sliceFields;refine bZ (bZ (wpAny_field a b (x:=vl) rfl (bZ (wpAny_field a b (x:=vu) rfl (bZ (wpAny_field a b (x:=.none) rfl (pZ ?_)))))));refine bZ (slicePart_none ?_);show wpAny _ _ (if((1:Int)==0)=true then _ else _) _ _ s;rw[if_neg (by decide)];refine bZ (EB pl (bZ (EB pu (bZ (pZ ?_)))));show wpAny _ _ (match Builtin.Slice.sliceAdjust lo hi 1 (n:Int)with|(lo,hi)=>pure (lo,(1:Int),Builtin.Slice.slicePlaces lo hi 1)) _ _ s;rw[MV lo hi n];show wpAny _ _ (pure (((sIx n 0 lo:Nat):Int),(1:Int),Builtin.Slice.slicePlaces ((sIx n 0 lo:Nat):Int) ((sIx n n hi:Nat):Int) 1)) _ _ s;rw[MJ];exact pZ h
theorem WI(xs:Array Value)(i k:Nat):((List.range k).filterMap λ(m:Nat)=>xs[((i:Int)+(m:Int)*1).toNat]?).toArray=((xs.toList.drop i).take k).toArray:=by
 have e:(λ(m:Nat)=>xs[((i:Int)+(m:Int)*1).toNat]?)=λm=>xs[i+m]? :=by
  funext m
  have:((i:Int)+(m:Int)*1).toNat=i+m:=by omega
  rw[this]
 rw[e];have:=pick_run xs i k;rw[List.filterMap_map]at this;have e2:((λx=>xs[x]?)∘λx=>i+x)=λm=>xs[i+m]? :=rfl;rw[e2]at this;rw[this]
theorem getItem_tuple_cut{s:Shared}{lo:Option Int}{Q:Value->Shared->Prop}(ht:IsTup s.heap t items)(hs:s.heap.IsSliceOf sl vl vu .none)(pl:IsPart vl lo)(pu:IsPart vu hi)
  (hw:¬(sIx items.size 0 lo=0/\sIx items.size items.size hi=items.size))
  (h:Q (.ref s.heap.objs.size) {s with heap:=s.heap.push {cls:=.type "tuple",data:=.seq ((items.toList.drop (sIx items.size 0 lo)).take (sIx items.size items.size hi - sIx items.size 0 lo)).toArray}})
  (hsz:items.size<=sizeLine):wpAny (model prog w) A (getItem (.ref t) (.ref sl)) Q E s:=by
 have a:sizeOk (.seq ((items.toList.drop (sIx items.size 0 lo)).take (sIx items.size items.size hi - sIx items.size 0 lo)).toArray):=by
  show((items.toList.drop (sIx items.size 0 lo)).take (sIx items.size items.size hi - sIx items.size 0 lo)).toArray.size<=sizeLine;rw[size_toArray,length_take,length_drop,Array.length_toList];omega
 have hj:sIx items.size items.size hi<=items.size:=bTZ _ _ (le_refl _) hi;obtain⟨os,b,d,f⟩:=id hs;have e:s.TypeIs (.ref sl) "slice":=⟨os,b,d⟩;unfold getItem
 try with_reducible refine wpAny_holding ?_
 first|refine bZ (pZ ?_)|skip
 refine bZ (wpAny_sequenceKey ht.typeIs (by decide) ?_);refine bZ (wpAny_callSpecial?_slot (name:=Str.ofString "__getitem__") ht.typeIs PyProof.Rows.slot_tuple_getitem
  (wpAny_call_entry PyProof.Rows.slot_tuple_getitem ht.typeIs entry_tuple_getitem ?_ (args_tuple_getitem _ _)))
 show wpAny _ _ (Builtin.Tuple.tupleItemsOf (.ref t)>>=_) _ _ s;refine bZ (tupleItemsOf_ ht ?_);refine bZ (wpAny_typeOf e ?_);rw[if_pos (by decide)];refine bZ (Q3 hs pl pu ?_);have c:¬((((sIx items.size 0 lo:Nat):Int)==0&&(1:Int)==1&&(sIx items.size items.size hi - sIx items.size 0 lo)==items.size)=true):=by
  intro q;rw[Bool.and_eq_true,Bool.and_eq_true]at q;have q1:((sIx items.size 0 lo:Nat):Int)=0:=eq_of_beq q.1.1;have q2:sIx items.size items.size hi - sIx items.size 0 lo=items.size:=eq_of_beq q.2;exact hw ⟨by omega,by omega⟩
 show wpAny _ _ (if(((sIx items.size 0 lo:Nat):Int)==0&&(1:Int)==1&&(sIx items.size items.size hi - sIx items.size 0 lo)==items.size)=true then _ else _) _ _ s;rw[if_neg c,WI]
 first
  |exact bZ (m:=Builtin.Tuple.tupleExact _) (wpAny_newObj_type (pZ ⟨_,rfl,pZ h⟩) a)
  |exact bZ (m:=Builtin.Tuple.tupleExact _) (wpAny_newObj_type (bZ (pZ (pZ ⟨_,rfl,pZ h⟩))) a)
  |exact bZ (bZ (m:=Builtin.Tuple.tupleExact _) (wpAny_newObj_type (pZ (pZ ⟨_,rfl,pZ h⟩)) a))
  |exact bZ (bZ (m:=Builtin.Tuple.tupleExact _) (wpAny_newObj_type (pZ ⟨_,rfl,pZ h⟩) a))
end
end HT
namespace _L
open PySem PySem.Spec PyProof.Rows
noncomputable abbrev TO:=St->Hp->(Option Int->Hp->Prop)->Prop
noncomputable def PO(X:Cx)(e:Option Expr)(t:TO):Prop:=
 ∀(pins:List (Addr×Obj)) (s:Shared) (σ:St) (H:Hp) (Q:Option Int->Hp->Prop),Inv X pins σ H s->t σ H Q->
  wpAny (model X.prog X.w) X.A (evalPart e X.env) (λu s'=>∃o H',Inv X pins σ H' s'/\IsPart u o/\Q o H') X.xe s
noncomputable def ZG:TO:=λ_ H Q=>Q none H
noncomputable def dhZ(t:TE):TO:=fun σ H Q=>t σ H λx H1=>∃i,x=.int i/\Q (some i) H1
theorem MK{ns:List Int}:∀ {us:List Value},Vals (ns.map V.int) us->IntsAre us ns:=by
 induction ns with
 |nil=>intro us r;rw[map_nil]at r;cases r;exact .nil
 |cons n ns ih=>
  intro us r;rw[map_cons]at r;cases r with
  |cons r1 r2=>
   obtain⟨t,e⟩:=r1;subst e;exact .cons n t (ih r2)
section
theorem K5:PO X none ZG:=by
 intro a s σ H Q I h;rw[evalPart_none];exact pZ ⟨none,H,I,.none,h⟩
theorem G2(h:PE X e te):PO X (some e) (dhZ te):=by
 intro a s σ H Q I hw;rw[evalPart_some];refine thn (h a s σ H _ I hw) λu s1 ⟨x,H1,I1,r1,q1⟩=> ?_;obtain⟨i,rfl,q⟩:=q1;obtain⟨t,rfl⟩:=r1;exact⟨some i,H1,I1,.int i t,q⟩
noncomputable def SlR(X:Cx)(r:V->Option Int->Option Int->Hp->VK->Prop):Prop:=
 ∀(pins:List (Addr×Obj)) (s:Shared) (σ:St) (H:Hp) (x:V) (v vl vu:Value) (lo hi:Option Int) (sl:Addr) (Q:VK),Inv X pins σ H s->RelV x v->s.heap.IsSliceOf sl vl vu .none->IsPart vl lo->IsPart vu hi->r x lo hi H Q->
  ∃T id,typeLookup (.type T) "__getitem__"=pure (some (.builtin id))/\s.TypeIs v T/\wpAny (model X.prog X.w) X.A (getItem v (.ref sl)) (EP X pins σ Q) X.xe s
theorem SlR.or(h:SlR X r)(h':SlR X r'):SlR X (λx lo hi H Q=>r x lo hi H Q\/r' x lo hi H Q):=by
 intro a s σ H x v vl vu lo hi sl Q I rx hs pl pu q;rcases q with q|q
 ·exact h a s σ H x v vl vu lo hi sl Q I rx hs pl pu q
 ·exact h' a s σ H x v vl vu lo hi sl Q I rx hs pl pu q
noncomputable def tSl(r:V->Option Int->Option Int->Hp->VK->Prop)(te:TE)(tl th:TO):TE:=fun σ H Q=>te σ H λx H1=>tl σ H1 λl H2=>th σ H2 λu H3=>r x l u H3 Q
theorem G1{lo:Option Expr}{tl:TO}(hr:SlR X r)(he:PE X e te)(hl:PO X lo tl)(hu:PO X hi th):PE X (.Subscript e (.Slice lo hi none p2) pos) (tSl r te tl th):=by
 intro a s σ H Q I h;refine Subscript_ (thn (he a s σ H _ I h) λv s1 ⟨x,H1,I1,r1,q1⟩=> ?_);refine wpAny_Slice (thn (hl a s1 σ H1 _ I1 q1) λvl s2 ⟨l,H2,I2,pl,q2⟩=>thn (hu a s2 σ H2 _ I2 q2) λvu s3 ⟨u,H3,I3,pu,q3⟩=> ?_);rw[evalPart_none];refine pZ ?_;have I4:Inv X a σ H3 {s3 with heap:=s3.heap.push {cls:=.type "slice",data:=.fields #[vl,vu,.none]}}:=I3.kept (t':=s3.toks) λb ob q=>gZ _ q;obtain⟨T,id,hT,ht,hg⟩:=hr a {s3 with heap:=s3.heap.push {cls:=.type "slice",data:=.fields #[vl,vu,.none]}} σ H3 x v vl vu l u s3.heap.objs.size Q I4 r1 (Heap.IsSliceOf.new ..) pl pu q3;show wpAny (model X.prog X.w) X.A (subscriptTail e (.Slice lo hi none p2) v (.ref s3.heap.objs.size)) (EP X a σ Q) X.xe {s3 with heap:=s3.heap.push {cls:=.type "slice",data:=.fields #[vl,vu,.none]}};exact tail_any (ops:=[.ref s3.heap.objs.size,v]) ht hT hg (by with_unfolding_all rfl)
noncomputable def G8(xs:List V)(lo hi:Option Int):List V:=(xs.drop (HT.sIx xs.length 0 lo)).take (HT.sIx xs.length xs.length hi - HT.sIx xs.length 0 lo)
theorem U8(xs:List V)(lo hi:Option Int):(G8 xs lo hi).length<=xs.length:=by
 unfold G8;rw[length_take,length_drop];omega
inductive rSlT (Z:FZ) (x:V) (lo:Option Int) (hi:Option Int) (H:Hp) (Q:VK):Prop
 |mk:∀a xs,(x=.ref a)->(SqT Z H a xs)->(¬(HT.sIx xs.length 0 lo=0/\HT.sIx xs.length xs.length hi=xs.length))->(∀p,H p=none->Q (.ref p) (upd H p (.tup (G8 xs lo hi))))->rSlT Z x lo hi H Q
theorem b0Z:SlR X (rSlT X.K):=by
 intro d s σ H x v vl vu lo hi sl Q I rx hs pl pu h;obtain⟨a,xs,rfl,hx,hw,q⟩:=h;cases rx;obtain⟨e,r,ht,hz⟩:=I.tuple hx;have c:e.toArray.size=xs.length:=by rw[size_toArray];exact r.length.symm
 refine⟨"tuple",_,PyProof.Rows.slot_tuple_getitem.lookup,ht.typeIs, ?_⟩;refine HT.getItem_tuple_cut ht hs pl pu (by rw[c];exact hw) ?_ (by rw[c];exact hz);rw[c];refine⟨.ref s.heap.objs.size,_,I.laid (t':=s.toks) (o:=.tup (G8 xs lo hi)) (λb ob q=>gZ _ q) (le_refl _) ?_,rfl,q _ (I.hok.fresh (le_refl _))⟩;exact⟨le_trans (U8 xs lo hi) hz,_,(r.drop (HT.sIx xs.length 0 lo)).take (HT.sIx xs.length xs.length hi - HT.sIx xs.length 0 lo),IsTup.new _ _⟩
noncomputable def PQ(Z:FZ):R2:=λx y H Q=>∃a b xs ys,x=.ref a/\y=.ref b/\SqT Z H a xs/\SqT Z H b ys/\xs≠ []/\xs.length+ys.length<=sizeLine/\
 (ys=[]->Q (.ref a) H)/\(ys≠ []->∀p,H p=none->Q (.ref p) (upd H p (.tup (xs++ys))))
theorem Vals.nil_iff(r:Vals xs us):us=[]↔xs=[]:=by
 cases r with
 |nil=>simp
 |cons _ _=>simp
theorem op_catT:OpR X (binaryOp .Add) (PQ X.K):=by
 intro c s σ H x y v u Q I rx ry h;obtain⟨a,b,xs,ys,rfl,rfl,ha,hb,hx,hz,q1,q2⟩:=h;cases rx;cases ry;obtain⟨e,r1,p1,_⟩:=I.tuple ha;obtain⟨d,r2,p2,_⟩:=I.tuple hb;refine HT.cat_tup p1 p2 (λz=>hx (r1.nil_iff.mp z)) (λz=>⟨.ref a,H,I,rfl,q1 (r2.nil_iff.mp z)⟩) (λz=> ?_) (by rw[<-r1.length,<-r2.length];exact hz);refine⟨.ref s.heap.objs.size,_,I.laid (t':=s.toks) (o:=.tup (xs++ys)) (λb ob q=>gZ _ q) (le_refl _) ?_,rfl,q2 (λw=>z (r2.nil_iff.mpr w)) _ (I.hok.fresh (le_refl _))⟩;exact⟨by rw[length_append];exact hz,_,r1.append r2,IsTup.new _ _⟩
end
noncomputable def ixN(n:Nat)(i:Int):Option Nat:=if 0<=i then(if i<n then some i.toNat else none)else if -(n:Int)<=i then some (i+n).toNat else none
noncomputable def atI{α:Type}(xs:List α)(i:Int):Option α:=(ixN xs.length i).bind λj=>xs[j]?
theorem QH{j:Nat}(h:ixN n i=some j):seqIndex? i n=some j/\j<n/\ -(n:Int)<=i/\i<n:=by
 unfold ixN at h;by_cases h0:0<=i
 ·rw[if_pos h0]at h;by_cases h1:i<n
  ·rw[if_pos h1]at h;have e:i.toNat=j:=Option.some.inj h;exact⟨by rw[seqIndex_of h0 h1,e],by omega,by omega,h1⟩
  ·rw[if_neg h1]at h;cases h
 ·rw[if_neg h0]at h;by_cases h1: -(n:Int)<=i
  ·rw[if_pos h1]at h;have e:(i+n).toNat=j:=Option.some.inj h;exact⟨by rw[seqIndex_neg (by omega) h1,e],by omega,h1,by omega⟩
  ·rw[if_neg h1]at h;cases h
theorem HQ{α:Type}{xs:List α}{i:Int}{v:α}(h:atI xs i=some v):∃j,seqIndex? i xs.length=some j/\xs[j]? =some v/\j<xs.length/\ -(xs.length:Int)<=i/\i<xs.length:=by
 unfold atI at h;cases e:ixN xs.length i with
 |none=>rw[e]at h;cases h
 |some j=>
  rw[e]at h;obtain⟨h1,h2,h3,h4⟩:=QH e;exact⟨j,h1,h,h2,h3,h4⟩
theorem D4{α:Type}{xs:List α}{j:Nat}{v:α}(h:xs[j]? =some v):atI xs (j:Int)=some v:=by
 have hj:j<xs.length:=(List.getElem?_eq_some_iff.mp h).1;have e:ixN xs.length (j:Int)=some j:=by
  unfold ixN;rw[if_pos (by omega),if_pos (by omega)];simp
 unfold atI;rw[e];exact h
theorem L4{α:Type}(xs:List α)(v:α):atI (xs++ [v]) (-1)=some v:=by
 have hl:(xs++ [v]).length=xs.length+1:=by simp
 have e:ixN (xs++ [v]).length (-1)=some xs.length:=by
  unfold ixN;rw[hl,if_neg (by decide),if_pos (by omega)];congr 1;omega
 unfold atI;rw[e];show(xs++ [v])[xs.length]? =some v;simp
noncomputable def QC(b:Expr):Prop:=∀o i,subscripted b false o i=operate [o,i] (getItem o i)
noncomputable def IxR(X:Cx)(r:R2):Prop:=
 ∀(value slice:Expr) (pins:List (Addr×Obj)) (s:Shared) (σ:St) (H:Hp) (x y:V) (v u:Value) (Q:VK),Inv X pins σ H s->RelV x v->RelV y u->r x y H Q->
  subscripted slice false v u=operate [v,u] (getItem v u)->wpAny (model X.prog X.w) X.A (subscriptTail value slice v u) (EP X pins σ Q) X.xe s
noncomputable def MtR(X:Cx)(id:String)(r:V->List V->Hp->VK->Prop):Prop:=
 ∀(pins:List (Addr×Obj)) (s:Shared) (σ:St) (H:Hp) (x:V) (xs:List V) (v:Value) (us:List Value) (Q:VK),Inv X pins σ H s->RelV x v->Vals xs us->r x xs H Q->
  wpAny (model X.prog X.w) X.A (call (.builtin id) (v::us)) (EP X pins σ Q) X.xe s
section
theorem IxR.or(h:IxR X r)(h':IxR X r'):IxR X (λx y H Q=>r x y H Q\/r' x y H Q):=by
 intro a b c s σ H x y v u Q I rx ry q hs;rcases q with q|q
 ·exact h a b c s σ H x y v u Q I rx ry q hs
 ·exact h' a b c s σ H x y v u Q I rx ry q hs
theorem DV(hr:IxR X r)(ha:PE X a ta)(hb:PE X b tb)(hs:QC b):PE X (.Subscript a b pos) (tOp r ta tb):=by
 intro c s σ H Q I h;exact Subscript_ (bHZ ha hb I h λv u s2 x y H2 I2 rx ry q=>hr a b c s2 σ H2 x y v u Q I2 rx ry q (hs _ _))
inductive rIxL (Z:FZ) (x:V) (y:V) (H:Hp) (Q:VK):Prop
 |mk:∀p xs i v,(x=.ref p)->(y=.int i)->(SqL Z H p xs)->(atI xs i=some v)->(Q v H)->rIxL Z x y H Q
inductive rIxT (Z:FZ) (x:V) (y:V) (H:Hp) (Q:VK):Prop
 |mk:∀p xs i v,(x=.ref p)->(y=.int i)->(SqT Z H p xs)->(atI xs i=some v)->(Q v H)->rIxT Z x y H Q
inductive rIxS (x:V) (y:V) (H:Hp) (Q:VK):Prop
 |mk:∀z i c,(x=.str z)->(y=.int i)->(z.length<=sizeLine)->(atI z.cps.toList i=some c)->(Q (.str ⟨#[c]⟩) H)->rIxS x y H Q
theorem ix_list:IxR X (rIxL X.K):=by
 intro b c a s σ H x y v u Q I rx ry h hs;obtain⟨p,xs,i,z,rfl,rfl,hq,he,q⟩:=h;cases rx;obtain⟨t,rfl⟩:=ry;obtain⟨f,r,pl,hz⟩:=I.list hq;obtain⟨j,h1,h2,h3,h4,h5⟩:=HQ he;obtain⟨w,ew,e⟩:=r.get h2;have hl:=r.length;have hn:=BA;have d:EP X a σ Q w s:=⟨z,H,I,e,q⟩;by_cases h0:0<=i
 ·have hj:i.toNat=j:=by
   rw[seqIndex_of h0 h5]at h1;exact Option.some.inj h1
  exact item_listR pl.isList h0 (by omega) (by rw[hj];simpa using ew) d hs
 ·have hj:(i+(f.toArray.size:Int)).toNat=j:=by
   rw[seqIndex_neg (by omega) h4]at h1;rw[size_toArray,<-hl];exact Option.some.inj h1
  exact subscriptTail_builtinR (x:=w) pl.isList.typeIs slot_list_getitem.lookup
   (wpAny_getItem_list_neg (Q:=λr s'=>r=w/\EP X a σ Q r s') pl.isList (by omega) (by rw[size_toArray]<;>omega) (by omega) (by rw[hj];simpa using ew) ⟨rfl,d⟩) hs
theorem ix_tup:IxR X (rIxT X.K):=by
 intro b c a s σ H x y v u Q I rx ry h hs;obtain⟨p,xs,i,z,rfl,rfl,hq,he,q⟩:=h;cases rx;obtain⟨t,rfl⟩:=ry;obtain⟨f,r,pl,hz⟩:=I.tuple hq;obtain⟨j,h1,h2,h3,h4,h5⟩:=HQ he;obtain⟨w,ew,d⟩:=r.get h2;have hl:=r.length;have hn:=BA;have e:EP X a σ Q w s:=⟨z,H,I,d,q⟩;exact subscriptTail_builtinR (x:=w) pl.typeIs slot_tuple_getitem.lookup
  (getItem_tuple (j:=j) (Q:=λr s'=>r=w/\EP X a σ Q r s') pl (by omega) (by omega) (by rw[size_toArray,<-hl];exact h1) (by simpa using ew) ⟨rfl,e⟩) hs
theorem ix_str:IxR X rIxS:=by
 intro a b d s σ H x y v u Q I rx ry h hs;obtain⟨z,i,c,rfl,rfl,hz,he,q⟩:=h;obtain⟨t,rfl⟩:=rx;obtain⟨t',rfl⟩:=ry;obtain⟨j,h1,h2,h3,h4,h5⟩:=HQ he;have hl:z.cps.toList.length=z.length:=by simp[Str.length]
 rw[hl]at h1 h4 h5;have hn:=BA;exact tail_any (typeIs_str s z t) slot_str_getitem.lookup (getItem_str (c:=c) (by
  have e1:decide (i< -(2^63:Int))=false:=decide_eq_false (by omega);have e2:decide (i≥2^63)=false:=decide_eq_false (by omega);rw[e1,e2,Bool.or_false]) (by rw[h1];simpa using h2) ⟨.str ⟨#[c]⟩,H,I.tok _,⟨_,rfl⟩,q⟩) hs
theorem NY(its:List Value)(n j:Nat)(u:Value):Obj.mapSeq (·.setIfInBounds j u) {cls:=.type "list",data:=.seq its.toArray n}={cls:=.type "list",data:=.seq (its.set j u).toArray n}:=by
 simp[Obj.mapSeq]
theorem Inv.lst{H:Hp}{p:Addr}(I:Inv X pins σ H s)(h:H p=some (.lst xs)):
  ∃(its:List Value) (n:Nat),Vals xs its/\s.heap.get? p=some {cls:=.type "list",data:=.seq its.toArray n}/\xs.length<=sizeLine:=by
 obtain⟨z,its,n,r,e⟩:=I.hok p _ h;exact⟨its,n,r,e,z⟩
theorem Inv.lstUpd{H:Hp}{p:Addr}{its its':List Value}{f:Obj->Obj}(I:Inv X pins σ H s)(h:H p=some (.lst xs))
  (ho:s.heap.get? p=some {cls:=.type "list",data:=.seq its.toArray n})(hf:f {cls:=.type "list",data:=.seq its.toArray n}={cls:=.type "list",data:=.seq its'.toArray n'})(r:Vals ys its')(hz:ys.length<=sizeLine)(t:Nat):
  Inv X pins σ (upd H p (.lst ys)) {s with heap:=s.heap.update p f,toks:=t}:=by
 have e:(s.heap.update p f).get? p=some {cls:=.type "list",data:=.seq its'.toArray n'}:=by
  rw[get?_update_self f ho (by rw[hf]<;>rfl),hf]
 refine I.write (x:=p) (e:=p) (by rw[h];trivial) (.inl rfl) (λb u hb q=>(get?_update_other _ _ (Ne.symm hb)).trans q) ⟨_,e⟩ ?_;exact⟨hz,its',n',r,e⟩
inductive rSetL (o:V) (i:V) (v:V) (H:Hp) (Q:Hp->Prop):Prop
 |mk:∀p xs k j,(o=.ref p)->(i=.int k)->(H p=some (.lst xs))->(ixN xs.length k=some j)->(Q (upd H p (.lst (xs.set j v))))->rSetL o i v H Q
theorem P1:bZZ X rSetL:=by
 intro a s σ H o i v ov iv u Q I ro ri rv h;obtain⟨p,xs,k,j,rfl,rfl,hp,hj,q⟩:=h;cases ro;obtain⟨t,rfl⟩:=ri;obtain⟨b,n,r,ho,hz⟩:=I.lst hp;obtain⟨h1,h2,h3,h4⟩:=QH hj;have hl:=r.length;have hn:=BA;have I':Inv X a σ (upd H p (.lst (xs.set j v))) {s with heap:=s.heap.update p (Obj.mapSeq (·.setIfInBounds j u))}:=
  I.lstUpd hp ho (NY b n j u) (r.set rv j) (by rw[List.length_set];exact hz) s.toks
 by_cases h0:0<=k
 ·have hk:k.toNat=j:=by
   rw[seqIndex_of h0 h4]at h1;exact Option.some.inj h1
  exact PySem.W.ki_setAt ho h0 (by omega) (by rw[size_toArray,<-hl];exact h4) (by rw[hk];exact⟨_,I',q⟩)
 ·have hk:(k+(b.toArray.size:Int)).toNat=j:=by
   rw[seqIndex_neg (by omega) h3]at h1;rw[size_toArray,<-hl];exact Option.some.inj h1
  exact PySem.W.ki_setBack ho (by omega) (by rw[size_toArray,<-hl];exact h3) (by omega) (by rw[hk];exact⟨_,I',q⟩)
theorem HX(lo hi:Option Int)(n:Nat):(sliceBounds lo hi none n).1=((HT.sIx n 0 lo:Nat):Int)/\(sliceBounds lo hi none n).2.1=((HT.sIx n n hi:Nat):Int)/\(sliceBounds lo hi none n).2.2=1:=by
 refine⟨?_, ?_,rfl⟩
 ·cases lo with
  |none=>simp[sliceBounds,HT.sIx]
  |some i=>
   simp only[sliceBounds,HT.sIx,Option.getD_none,show(1:Int)>0 by decide,if_true];by_cases h:i<0
   ·simp only[h,if_true]<;>omega
   ·simp only[h,if_false]<;>omega
 ·cases hi with
  |none=>simp[sliceBounds,HT.sIx]
  |some i=>
   simp only[sliceBounds,HT.sIx,Option.getD_none,show(1:Int)>0 by decide,if_true];by_cases h:i<0
   ·simp only[h,if_true]<;>omega
   ·simp only[h,if_false]<;>omega
theorem FC(its:List Value)(lo hi:Option Int):slicePick its.toArray lo hi none=((its.drop (HT.sIx its.length 0 lo)).take (HT.sIx its.length its.length hi - HT.sIx its.length 0 lo)).toArray:=by
 obtain⟨h1,h2,h3⟩:=HX lo hi its.toArray.size;unfold slicePick;rw[h1,h2,h3];simp only[sliceRange_one,pick_run,size_toArray]<;>rfl
inductive rSlL (Z:FZ) (x:V) (lo:Option Int) (hi:Option Int) (H:Hp) (Q:VK):Prop
 |mk:∀a xs,(x=.ref a)->(SqL Z H a xs)->(∀p,H p=none->Q (.ref p) (upd H p (.lst (G8 xs lo hi))))->rSlL Z x lo hi H Q
theorem sl_list:SlR X (rSlL X.K):=by
 intro d s σ H x v vl vu lo hi sl Q I rx hs pl pu h;obtain⟨a,xs,rfl,hx,q⟩:=h;cases rx;obtain⟨e,r,ht,hz⟩:=I.list hx;have c:=r.length;refine⟨"list",_,slot_list_getitem.lookup,ht.isList.typeIs, ?_⟩;refine wpAny_getItem_list_slice ht.isList hs pl pu .none (by simp) ?_ (by rw[size_toArray]<;>omega);rw[FC,<-c];refine⟨.ref s.heap.objs.size,_,I.laid (t':=s.toks) (o:=.lst (G8 xs lo hi)) (λb ob q=>gZ _ q) (le_refl _) ?_,rfl,q _ (I.hok.fresh (le_refl _))⟩;exact⟨le_trans (U8 xs lo hi) hz,_,0,(r.drop (HT.sIx xs.length 0 lo)).take (HT.sIx xs.length xs.length hi - HT.sIx xs.length 0 lo),get?_push_size _ rfl⟩
noncomputable def P6:V->Bool
 | .non=>true
 | .bl _=>true
 | .int _=>true
 | .str _=>true
 |_=>false
noncomputable def eqV:V->V->Bool
 | .non,.non=>true
 | .bl a,.bl b=>a==b
 | .bl a,.int b=>(if a then 1 else 0)==b
 | .int a,.bl b=>a==(if b then 1 else 0)
 | .int a,.int b=>a==b
 | .str a,.str b=>a==b
 |_,_=>false
theorem VW(ry:RelV y u)(rx:RelV x v)(fy:P6 y=true)(fx:P6 x=true):SeqAt.EqAt A s u v (eqV y x):=by
 cases y with
 |non=>
  cases ry;cases x with
  |non=>cases rx;exact SeqAt.EqAt.same _
  |bl b=>cases rx;exact SeqAt.EqAt.none_bool b
  |int b=>obtain⟨t,rfl⟩:=rx;exact SeqAt.EqAt.none_int b t
  |str b=>obtain⟨t,rfl⟩:=rx;exact SeqAt.EqAt.none_str b t
  |_=>exact absurd (show false=true from fx) nZ
 |bl a=>
  cases ry;cases x with
  |non=>cases rx;exact SeqAt.EqAt.bool_none a
  |bl b=>cases rx;exact SeqAt.EqAt.bool_bool a b
  |int b=>obtain⟨t,rfl⟩:=rx;exact SeqAt.EqAt.bool_int a b t
  |str b=>obtain⟨t,rfl⟩:=rx;exact SeqAt.EqAt.bool_str a b t
  |_=>exact absurd (show false=true from fx) nZ
 |int a=>
  obtain⟨t',rfl⟩:=ry;cases x with
  |non=>cases rx;exact SeqAt.EqAt.int_none a t'
  |bl b=>cases rx;exact SeqAt.EqAt.int_bool a t' b
  |int b=>obtain⟨t,rfl⟩:=rx;exact SeqAt.EqAt.int_int a t' b t
  |str b=>obtain⟨t,rfl⟩:=rx;exact SeqAt.EqAt.int_str a t' b t
  |_=>exact absurd (show false=true from fx) nZ
 |str a=>
  obtain⟨t',rfl⟩:=ry;cases x with
  |non=>cases rx;exact SeqAt.EqAt.str_none a t'
  |bl b=>cases rx;exact SeqAt.EqAt.str_bool a t' b
  |int b=>obtain⟨t,rfl⟩:=rx;exact SeqAt.EqAt.str_int a t' b t
  |str b=>obtain⟨t,rfl⟩:=rx;exact SeqAt.EqAt.str_str a t' b t
  |_=>exact absurd (show false=true from fx) nZ
 |_=>exact absurd (show false=true from fy) nZ
noncomputable def eqU(x:V)(u:Value):Bool:=match u with
 | .none=>eqV .non x
 | .bool b=>eqV (.bl b) x
 | .int i _=>eqV (.int i) x
 | .str z _=>eqV (.str z) x
 |_=>false
theorem TH(r:RelV y u)(f:P6 y=true):eqU x u=eqV y x:=by
 cases y with
 |non=>cases r;rfl
 |bl b=>cases r;rfl
 |int i=>obtain⟨t,rfl⟩:=r;rfl
 |str z=>obtain⟨t,rfl⟩:=r;rfl
 |_=>exact absurd (show false=true from f) nZ
theorem IL:∀ {xs:List V} {us:List Value},Vals xs us->xs.all P6=true->us.any (eqU x)=xs.any λy=>eqV y x
 |_,_,.nil,_=>rfl
 |y::xs,u::us,.cons r t,f=>by
  rw[List.all_cons,Bool.and_eq_true]at f;rw[any_cons,any_cons,TH r f.1,IL t f.2]
theorem DT(rx:RelV x v)(fx:P6 x=true):∀ {xs:List V} {us:List Value},Vals xs us->xs.all P6=true->∀u∈us,SeqAt.EqAt A s u v (eqU x u)
 |_,_,.nil,_=>λu hu=>by cases hu
 |y::xs,u::us,.cons r t,f=>λu' hu=>by
  rw[List.all_cons,Bool.and_eq_true]at f;rcases cZ hu with rfl|hu
  ·rw[TH r f.1];exact VW r rx f.1 fx
  ·exact DT rx fx t f.2 u' hu
noncomputable def inV(x:V)(xs:List V):Bool:=xs.any λy=>eqV y x
inductive rIn (Z:FZ) (neg:Bool) (x:V) (y:V) (H:Hp) (Q:VK):Prop
 |mk:∀p xs,(y=.ref p)->((SqL Z H p xs\/SqT Z H p xs))->(P6 x=true)->(xs.all P6=true)->(Q (.bl (if neg then !inV x xs else inV x xs)) H)->rIn Z neg x y H Q
theorem op_in_seq:OpR X (compareOp .In) (rIn X.K false):=by
 intro b s σ H x y v u Q I rx ry h;obtain⟨p,xs,rfl,hq,fx,fs,q⟩:=h;cases ry;rcases hq with hq|hq
 ·obtain⟨a,r,pl,hz⟩:=I.list hq;refine SeqAt.in_listAt (eqU x) pl.isList (λw hw=>DT rx fx r fs w (by simpa using hw)) ⟨.bl _,H,I,rfl, ?_⟩;rw[show a.toArray.any (eqU x)=a.any (eqU x) by simp,IL r fs];exact q
 ·obtain⟨a,r,pl,hz⟩:=I.tuple hq;refine SeqAt.in_tupleAt (eqU x) pl (λw hw=>DT rx fx r fs w (by simpa using hw)) ⟨.bl _,H,I,rfl, ?_⟩;rw[show a.toArray.any (eqU x)=a.any (eqU x) by simp,IL r fs];exact q
theorem CallR.or(h:CallR X f r)(h':CallR X f r'):CallR X f (λxs H Q=>r xs H Q\/r' xs H Q):=by
 intro a s σ H xs us Q I rs q;rcases q with q|q
 ·exact h a s σ H xs us Q I rs q
 ·exact h' a s σ H xs us Q I rs q
theorem IE:CallR X (.type "list") (λxs H Q=>∃p ys,xs=[.ref p]/\(SqL X.K H p ys\/SqT X.K H p ys)/\∀l,H l=none->Q (.ref l) (upd H l (.lst ys))):=by
 intro c s σ H xs us Q I r h;obtain⟨p,ys,rfl,hq,q⟩:=h;obtain⟨u,rfl,rx⟩:=W8 r;cases rx;have f:∀(a:List Value),Vals ys a->ys.length<=sizeLine->∀(h':Heap) (c':Nat),(∀b o',s.heap.get? b=some o'->h'.get? b=some o')->
   h'.get? s.heap.objs.size=some {cls:=.type "list",dict:=none,data:=.seq a.toArray c',slots:= #[]}->EP X c σ Q (.ref s.heap.objs.size) {s with heap:=h'}:=λa r' hz h' c' kp e=>
  ⟨.ref s.heap.objs.size,_,I.laid (t':=s.toks) kp (le_refl _) (show ObjOk X.prog X.w _ h' _ (.lst ys)from⟨hz,a,c',r',e⟩),rfl,q _ (I.hok.fresh (le_refl _))⟩
 rcases hq with hq|hq
 ·obtain⟨a,r',pl,hz⟩:=I.list hq;have d:=r'.length;obtain⟨o,ho,hc,n,hd⟩:=pl.isList;exact call_list_seq p (.inl rfl) ho hc hd (λh' c' kp e=>f a r' hz h' c' kp e) (by simp only[size_toArray]<;>omega)
 ·obtain⟨a,r',pl,hz⟩:=I.tuple hq;have d:=r'.length;obtain⟨o,ho,hc,n,hd⟩:=pl;exact call_list_seq p (.inr rfl) ho hc hd (λh' c' kp e=>f a r' hz h' c' kp e) (by simp only[size_toArray]<;>omega)
theorem FA:CallR X (.type "tuple") (λxs H Q=>∃p ys,xs=[.ref p]/\((SqL X.K H p ys/\∀l,H l=none->Q (.ref l) (upd H l (.tup ys)))\/(SqT X.K H p ys/\Q (.ref p) H))):=by
 intro a s σ H xs us Q I r h;obtain⟨p,ys,rfl,h⟩:=h;obtain⟨u,rfl,rx⟩:=W8 r;cases rx;rcases h with⟨hq,q⟩|⟨hq,q⟩
 ·obtain⟨c,r',pl,hz⟩:=I.list hq;have d:=r'.length;refine call_tuple_list pl.isList (λh' kp=> ?_) (by simp only[size_toArray]<;>omega);have I1:Inv X a σ H {s with heap:=h'}:=I.kept (t':=s.toks) kp;have I2:Inv X a σ (upd H h'.objs.size (.tup ys)) {s with heap:=h'.push {cls:=.type "tuple",data:=.seq c.toArray}}:=
   I1.laid (t':=s.toks) (λb o e=>gZ _ e) (le_refl _) (show ObjOk X.prog X.w _ _ _ (.tup ys)from⟨hz,c,r',IsTup.new _ _⟩)
  exact⟨.ref h'.objs.size,_,I2,rfl,q _ (I1.hok.fresh (le_refl _))⟩
 ·obtain⟨c,r',pl,hz⟩:=I.tuple hq;exact call_tuple_same pl ⟨.ref p,H,I,rfl,q⟩
noncomputable def tyV(Z:FZ)(T:String)(x:V)(H:Hp):Prop:=match x with
 | .str _=>T="str"
 | .int _=>T="int"
 | .ref p=>(T="list"/\∃xs,SqL Z H p xs)\/(T="tuple"/\∃o,Z.lookup p=some o/\o.cls=.type "tuple"/\o.dict=none)\/
   (T="dict"/\((∃kvs,H p=some (.dK kvs))\/∃kvs,H p=some (.dT kvs)))\/(T="set"/\∃S n,H p=some (.set S n))
 |_=>False
theorem WR{H:Hp}(I:Inv X pins σ H s)(r:RelV x v)(ty:tyV X.K T x H):
  s.TypeIs v T/\∀a,v=.ref a->∃ob,s.heap.get? a=some ob/\ob.dict=none:=by
 cases x with
 |str z=>
  obtain⟨t,rfl⟩:=r;cases(show T="str"from ty);exact⟨typeIs_str s z t,λ_ e=>nomatch e⟩
 |int i=>
  obtain⟨t,rfl⟩:=r;cases(show T="int"from ty);exact⟨typeIs_int s i t,λ_ e=>nomatch e⟩
 |ref p=>
  cases r;rcases ty with⟨rfl,xs,hq⟩|⟨rfl,o,hk,hc,hd⟩|⟨rfl,hk⟩|⟨rfl,S,n,hk⟩
  ·obtain⟨d,_,pl,_⟩:=I.list hq;refine⟨pl.isList.typeIs,λa e=> ?_⟩;cases e;obtain⟨o,n,e,c,hd,_⟩:=pl;exact⟨o,e,hd⟩
  ·refine⟨⟨o,I.kIn p o hk,hc⟩,λa e=> ?_⟩;cases e;exact⟨o,I.kIn _ o hk,hd⟩
  ·have z:∃o,s.heap.get? p=some o/\o.ExactDict:=by
    rcases hk with⟨b,hk⟩|⟨b,hk⟩
    ·obtain⟨_,_,_,_,o,_,_,e,ex,_⟩:=I.hok p _ hk;exact⟨o,e,ex⟩
    ·obtain⟨_,_,_,_,o,_,_,e,ex,_⟩:=I.hok p _ hk;exact⟨o,e,ex⟩
   obtain⟨o,e,ex⟩:=z;refine⟨⟨o,e,ex.1⟩,λa e2=> ?_⟩;cases e2;exact⟨o,e,ex.2.1⟩
  ·obtain⟨o,_,_,_,e,ex,_⟩:=I.hok p _ hk;refine⟨⟨o,e,ex.1⟩,λa e2=> ?_⟩;cases e2;exact⟨o,e,ex.2.1⟩
 |_=>exact False.elim ty
noncomputable def dLZ(Z:FZ)(T:String)(r:V->List V->Hp->VK->Prop)(to:TE):TE:=fun σ H Q=>to σ H λx H1=>tyV Z T x H1/\r x [] H1 Q
noncomputable def tBM(Z:FZ)(T:String)(r:V->List V->Hp->VK->Prop)(to:TE)(t:TA):TE:=fun σ H Q=>to σ H λx H1=>tyV Z T x H1/\t σ H1 λxs H2=>r x xs H2 Q
theorem b9Z{apos cpos:Pos}{id:String}(pa:PlainAttrs T)(slot:Slot T name id)(hty:typeOf (.builtin id)=pure (.type "method_descriptor"))(hm:MtR X id r)(ho:PE X o to)
  (hbase:attributeBase o name X.env (eval o X.env)=eval o X.env)(hline:(apos.endLine==cpos.line)=true):PE X (.Call (.Attribute o name apos) [] [] cpos) (dLZ X.K T r to):=by
 intro a s σ H Q I h;refine wpAny_Call_method0_late hbase hline (thn (ho a s σ H _ I h) λv s1 ⟨x,H1,I1,r1,ty,q1⟩=> ?_);obtain⟨h1,h2⟩:=WR I1 r1 ty;exact⟨T,id,pa,slot,hty,h1,h2,Calls.callWith_builtin rfl (PySem.evalArgs_none (hm a s1 σ H1 x [] v [] Q I1 r1 .nil q1))⟩
theorem c1Z{e:Expr}{apos:Pos}{id:String}(pa:PlainAttrs T)(slot:Slot T name id)(hty:typeOf (.builtin id)=pure (.type "method_descriptor"))(hm:MtR X id r)(ho:PE X o to)(ha:PA X (e::es) t)
  (hbase:attributeBase o name X.env (eval o X.env)=eval o X.env)
  (hfew:((backTo cpos (starEach (e::es) X.env)).all (λx=> !x.1)&&(backToKw cpos (keywordEach [] X.env)).all (λx=>x.1.isSome)
   &&decide ((e::es).length+([]:List Keyword).length+(if([]:List Keyword).isEmpty then 0 else 1)<30))=true)
  (hline:(apos.endLine==cpos.line)=true)(hs:starEach (e::es) X.env=(false,eval e X.env)::starEach es X.env)(hplain:(backTo cpos (starEach es X.env)).any (·.1)=false):
  PE X (.Call (.Attribute o name apos) (e::es) [] cpos) (tBM X.K T r to t):=by
 intro a s σ H Q I h;refine wpAny_Call_method_late hbase hfew hline rfl (thn (ho a s σ H _ I h) λv s1 ⟨x,H1,I1,r1,ty,q1⟩=> ?_);obtain⟨h1,h2⟩:=WR I1 r1 ty;refine⟨T,id,pa,slot,hty,h1,h2, ?_⟩;have hA:=ha cpos a s1 σ H1 _ I1 q1;rw[hs]at hA⊢;refine Calls.callWith_builtin (by show(false||(backTo cpos (starEach es X.env)).any (·.1))=false;rw[hplain]<;>rfl) (Calls.evalArgs_plain ?_);exact thn hA λus s2 ⟨vs,H2,I2,r2,q2⟩=>hm a s2 σ H2 x vs v us Q I2 r1 r2 q2
end
noncomputable def MtM(X:Cx)(id:String)(r:V->List V->Hp->VK->Prop):Prop:=
 ∀(pins:List (Addr×Obj)) (s:Shared) (σ:St) (H:Hp) (x:V) (xs:List V) (v:Value) (us:List Value) (Q:VK),Inv X pins σ H s->RelV x v->Vals xs us->r x xs H Q->
  wpAny (model X.prog X.w) X.A (call (.builtin id) (v::us)) (EP X pins σ Q) X.xe s
theorem Vals.one:∀ {x:V} {us:List Value},Vals [x] us->∃u,us=[u]/\RelV x u
 |_,_,.cons r .nil=>⟨_,rfl,r⟩
theorem Vals.zero:∀ {us:List Value},Vals [] us->us=[]
 |_,.nil=>rfl
theorem Vals.dropLast(h:Vals xs us):Vals xs.dropLast us.dropLast:=by
 induction h with
 |nil=>exact .nil
 |cons r t ih=>
  cases t with
  |nil=>exact .nil
  |cons q t'=>exact .cons r ih
theorem Vals.rep(h:Vals xs us):∀k:Nat,Vals (List.replicate k xs).flatten (List.replicate k us).flatten
 |0=> .nil
 |k+1=>by
  rw[replicate_succ,replicate_succ,flatten_cons,flatten_cons];exact Vals.append h (Vals.rep h k)
theorem MH{α:Type}(l:List α):l.eraseIdx (l.length - 1)=l.dropLast:=by
 induction l with
 |nil=>rfl
 |cons a r ih=>
  cases r with
  |nil=>rfl
  |cons b r=>
   have e:(a::b::r).length - 1=((b::r).length - 1)+1:=by
    have h1:(a::b::r).length=r.length+2:=rfl;have h2:(b::r).length=r.length+1:=rfl;omega
   rw[e,List.eraseIdx_cons_succ,ih]
   all_goals rfl
theorem foldl_rep(its:List Value):∀(k:Nat) (acc:List Value),
  List.foldl (λx1 x2=>x1++x2) acc.toArray (List.replicate k its.toArray)=(acc++(List.replicate k its).flatten).toArray
 |0,acc=>by simp
 |k+1,acc=>by
  have e:acc.toArray++its.toArray=(acc++its).toArray:=by simp
  have e2:(acc++its)++(List.replicate k its).flatten=acc++(List.replicate (k+1) its).flatten:=by
   rw[replicate_succ,flatten_cons,List.append_assoc]
  rw[<-e2,<-foldl_rep its k (acc++its),<-e,replicate_succ,List.foldl_cons]
section
theorem Inv.lset{H:Hp}{l:Addr}{its its':List Value}{f:Array Value->Array Value}{t':Nat}(I:Inv X pins σ H s)(hH:H l=some (.lst xs))
  (e:s.heap.get? l=some {cls:=.type "list",data:=.seq its.toArray n})(hf:f its.toArray=its'.toArray)(hv:Vals ys its')(hz:ys.length<=sizeLine):
  Inv X pins σ (upd H l (.lst ys)) {s with heap:=s.heap.update l (Obj.mapSeq f),toks:=t'}:=by
 have q:=PySem.IsL.update e f;rw[hf]at q;refine I.write (x:=l) (e:=l) (by rw[hH];exact trivial) (.inl rfl) (λb' u hb hu=>(get?_update_other s.heap (Obj.mapSeq f) (Ne.symm hb)).trans hu) ⟨_,q⟩ ?_;exact⟨hz,its',_,hv,q⟩
theorem Inv.lnew{H:Hp}{t':Nat}(I:Inv X pins σ H s)(hv:Vals ys its)(hz:ys.length<=sizeLine):
  Inv X pins σ (upd H s.heap.objs.size (.lst ys)) {s with heap:=s.heap.push {cls:=.type "list",data:=.seq its.toArray},toks:=t'}:=
 I.laid (λ_ _ q=>gZ _ q) (le_refl _) ⟨hz,its,0,hv,get?_push_size _ rfl⟩
theorem Inv.fresh{H:Hp}(I:Inv X pins σ H s):H s.heap.objs.size=none:=I.hok.fresh (le_refl _)
theorem Inv.lstM{H:Hp}{l:Addr}(I:Inv X pins σ H s)(hH:H l=some (.lst xs)):xs.length<=sizeLine/\∃(its:List Value) (n:Nat),Vals xs its/\xs.length=its.length/\s.heap.get? l=some {cls:=.type "list",data:=.seq its.toArray n}:=by
 obtain⟨z,its,n,r,e⟩:=I.hok l _ hH;exact⟨z,its,n,r,r.length,e⟩
theorem EE{n:Nat}(h:n<=sizeLine):Builtin.List.listTooLong n=false:=by
 unfold Builtin.List.listTooLong;exact decide_eq_false (by omega)
inductive rAppend(x:V)(vs:List V)(H:Hp)(Q:VK):Prop
 |mk:∀l xs y,(x=.ref l)->(vs=[y])->(H l=some (.lst xs))->(xs.length<sizeLine)->(Q .non (upd H l (.lst (xs++ [y]))))->rAppend x vs H Q
theorem RG{X:Cx}:MtM X "list.append" rAppend:=by
 intro b s σ H x vs v us Q I rx rv h;obtain⟨l,xs,y,rfl,rfl,hH,hz,q⟩:=h;cases rx;obtain⟨u,rfl,ru⟩:=rv.one;obtain⟨z,a,n,r,hl,e⟩:=I.lstM hH;refine call_meets F.slot_list_append ⟨_,e,rfl⟩ F.entry_list_append (F.args_list_append_2 _ _) (PySem.list_append l a.toArray n u (by rw[size_toArray];omega)) ⟨e, ?_⟩;refine⟨.non,_,I.lset (its':=a++ [u]) hH e (by simp) (r.append (.cons ru .nil)) ?_,rfl,q⟩;rw[length_append,length_singleton];omega
noncomputable def XY:V->List V->Hp->VK->Prop:=λx vs H Q=>∃l b xs zs,x=.ref l/\vs=[.ref b]/\H l=some (.lst xs)/\H b=some (.lst zs)/\xs.length+zs.length<=sizeLine/\Q .non (upd H l (.lst (xs++zs)))
theorem RD:MtM X "list.extend" XY:=by
 intro f s σ H x vs v us Q I rx rv h;obtain⟨l,b,xs,zs,rfl,rfl,hH,hB,hz,q⟩:=h;cases rx;obtain⟨u,rfl,ru⟩:=rv.one;cases ru;obtain⟨z,c,n,r,hl,e⟩:=I.lstM hH;obtain⟨z2,a,n2,r2,i,e2⟩:=I.lstM hB;have g:c.toArray.size+a.toArray.size<=sizeLine:=by rw[size_toArray,size_toArray];omega
 have d:¬(!c.toArray.isEmpty&&Builtin.List.listTooLong (c.toArray.size+a.toArray.size))=true:=by
  rw[EE g,Bool.and_false];exact nZ
 refine call_meets F.slot_list_extend ⟨_,e,rfl⟩ F.entry_list_extend (F.args_list_extend_2 _ _)
  (AutoSeq1.list_extend_list_list_0 l c.toArray n b a.toArray n2 d (by rw[size_toArray];omega) (by omega)) ⟨e,e2, ?_⟩
 refine⟨.non,_,I.lset (its':=c++a) hH e (by simp) (r.append r2) ?_,rfl,q⟩;rw[length_append];omega
inductive rPop (x:V) (vs:List V) (H:Hp) (Q:VK):Prop
 |mk:∀l xs y,(x=.ref l)->(vs=[])->(H l=some (.lst xs))->(xs[xs.length - 1]? =some y)->(Q y (upd H l (.lst xs.dropLast)))->rPop x vs H Q
theorem Y0{X:Cx}:MtM X "list.pop" rPop:=by
 intro b s σ H x vs v us Q I rx rv h;obtain⟨l,xs,y,rfl,rfl,hH,hy,q⟩:=h;cases rx;have d:=rv.zero;subst d;obtain⟨z,a,n,r,hl,e⟩:=I.lstM hH;obtain⟨u,hu,ru⟩:=r.get hy;have c:a.toArray[a.toArray.size - 1]? =some u:=by
  show a.toArray[a.length - 1]? =some u;rw[<-Array.getElem?_toList,<-hl];exact hu
 refine call_meets F.slot_list_pop ⟨_,e,rfl⟩ F.entry_list_pop (F.args_list_pop_1 _) (MeetsSeq.list_pop_last l a.toArray n u c (by rw[size_toArray];omega)) ⟨e, ?_⟩;refine⟨y,_,I.lset (its':=a.dropLast) hH e ?_ r.dropLast ?_,ru,q⟩
 ·show a.toArray.eraseIdxIfInBounds (a.toArray.size - 1)=a.dropLast.toArray;rw[size_toArray,List.eraseIdxIfInBounds_toArray,MH]
 ·rw[List.length_dropLast];omega
inductive rCat (x:V) (y:V) (H:Hp) (Q:VK):Prop
 |mk:∀l b xs zs,(x=.ref l)->(y=.ref b)->(H l=some (.lst xs))->(H b=some (.lst zs))->(xs.length+zs.length<=sizeLine)->(∀p,H p=none->Q (.ref p) (upd H p (.lst (xs++zs))))->rCat x y H Q
theorem op_cat:OpR X (binaryOp .Add) rCat:=by
 intro d s σ H x y v u Q I rx ry h;obtain⟨l,b,xs,zs,rfl,rfl,hH,hB,hz,q⟩:=h;cases rx;cases ry;obtain⟨z,c,n,r,hl,e⟩:=I.lstM hH;obtain⟨z2,a,n2,r2,f,e2⟩:=I.lstM hB;refine PySem.P.add_list e e2 ?_ (by rw[size_toArray,size_toArray];omega);have ea:c.toArray++a.toArray=(c++a).toArray:=by simp
 rw[ea];exact⟨.ref _,_,I.lnew (t':=s.toks) (r.append r2) (by rw[length_append];omega),rfl,q _ I.fresh⟩
noncomputable def dKZ:R2:=λx y H Q=>∃l k xs,x=.ref l/\y=.int k/\H l=some (.lst xs)/\ -(2^63)<=k/\k<2^63/\xs.length*k.toNat<=sizeLine/\
 ∀p,H p=none->Q (.ref p) (upd H p (.lst (List.replicate k.toNat xs).flatten))
theorem ZS{α:Type}(xs:List α)(k:Nat):(List.replicate k xs).flatten.length=k*xs.length:=by
 induction k with
 |zero=>simp
 |succ k ih=>rw[replicate_succ,flatten_cons,length_append,ih,Nat.succ_mul,Nat.add_comm]
theorem bAZ:OpR X (binaryOp .Mult) dKZ:=by
 intro j s σ H x y v u Q I rx ry h;obtain⟨l,k,xs,rfl,rfl,hH,h1,h2,hz,q⟩:=h;cases rx;obtain⟨t,rfl⟩:=ry;obtain⟨z,b,n,r,hl,e⟩:=I.lstM hH;have f:b.toArray.size*k.toNat<=sizeLine:=by rw[size_toArray,<-hl];exact hz
 have i:¬b.toArray.size*k.toNat>(2^63 - 1)/8:=by
  have:(sizeLine:Nat)<=(2^63 - 1)/8:=by decide
  omega
 have g:¬(!Builtin.List.listFitsIndex k)=true:=by
  rw[fitsIndex_both h1 h2];exact nZ
 have c:¬Builtin.List.listTooLong (b.toArray.size*k.toNat)=true:=by
  rw[EE f];exact nZ
 have d:List.foldl (λx1 x2=>x1++x2) #[] (List.replicate (if b.toArray.isEmpty=true then 0 else k.toNat) b.toArray)=(List.replicate k.toNat b).flatten.toArray:=by
  have f0:∀m:Nat,List.foldl (λx1 x2=>x1++x2) #[] (List.replicate m b.toArray)=(List.replicate m b).flatten.toArray:=λm=>by
   have:=foldl_rep b m [];rw[List.nil_append]at this;exact this
  rw[f0];cases b with
  |nil=>simp
  |cons a r'=>rw[if_neg (by simp)]
 refine wpAny_binaryOp_repeat_ref (T:="list") (U:="int") (by decide) ⟨_,e,rfl⟩ (λs'=>typeIs_int s' k t) noFill_list_mul F.fills_int_mul F.slot_int_rmul repeat_list F.slot_int_index.lookup
  (call_meets F.slot_int_rmul (typeIs_int s k t) F.entry_int_rmul (F.args_int_rmul_2 _ _) (int___rmul___int_list k t l b.toArray n)
   ⟨e,rfl,⟨_,e,rfl⟩,call_meets F.slot_list_mul ⟨_,e,rfl⟩ F.entry_list_mul (F.args_list_mul_2 _ _) (AutoListH.list___mul___list_int_3 l b.toArray n k t g i c) ⟨e, ?_⟩⟩)
 rw[d];exact⟨.ref _,_,I.lnew (t':=s.toks) (r.rep k.toNat) (by rw[ZS,Nat.mul_comm];exact hz),rfl,q _ I.fresh⟩
end
end _L
namespace Att
open PySem PySem.W PySem.Calls PyProof.Rows
theorem CC:∀(ns:List Int) (vs:List Value),WellAll P h vs (ns.map WData.int)->IntsAre vs ns:=by
 intro ns;induction ns with
 |nil=>
  intro vs w;rw[map_nil]at w;cases w;exact .nil
 |cons n ns ih=>
  intro vs w;rw[map_cons]at w;cases w with
  |cons a b=>
   cases a;exact .cons _ _ (ih _ b)
theorem SM{l:OpenLaw}{n:Nat}(hn:l.most=some n)
  (hpre:l.row.toRowW.claim.pre args=true)(hwl:WellAll P h vals args):
  ∃a vs ns,vals=[Value.ref a]/\args=[WData.list (ns.map WData.int)]/\h.get? a=some {cls:=.type "list",data:=.seq vs.toArray}/\IntsAre vs ns/\ns.length<=n:=by
 have e:WShape.hasAll [] args [.list .int]=true:=(pre_splitW hpre).1;have hc:l.pre.holds [] {args:=args}=true:=(pre_splitW hpre).2;obtain⟨d,r,rfl,h1,h2⟩:=hasAllW_cons e;obtain rfl:=hasAllW_nil h2;obtain⟨xs,rfl,h3⟩:=hasW_list h1;obtain⟨ns,rfl⟩:=items_int h3;have b:ns.length<=n:=by
  unfold OpenLaw.pre at hc;have h4:(WTm.not (.lt (.lit (.int (n:Int))) (.len (.arg 0)))).holds [] {args:=[.list (ns.map .int)]}=true:=by
   have h4:=(holds_andW hc).1;rw[hn]at h4;exact h4
  have h5:=condW_of h4 (w_not (w_lt w_lit (w_len_list (w_arg rfl))));rw[length_map]at h5;refine Nat.le_of_not_lt λq=> ?_;have q':(n:Int)<((ns.length:Nat):Int):=by omega
  first
   |(rw[decide_eq_true q']at h5;exact absurd h5 (by decide))
   |(simp at h5;omega)
 cases hwl with
 |cons w1 w2=>
  cases w2;cases w1 with
  |list ho c=>exact⟨_,_,ns,rfl,rfl,ho,CC ns _ c,b⟩
theorem SK(l:OpenLaw)(args:List WData):l.row.toRowW.claim.post args (.bool true) args=true:=
 postW_of (r:=l.row.toRowW) (X:=(true==true))
  (show WShape.has [] (.bool true) .bool=true by first|rfl|decide|simp[WShape.has,WShape.arms,WShape.armsAll])
  (show(WTm.eq .res (.lit (.bool true))).value [] {args:=args,res:=some (.bool true),after:=args}=some (.bool (true==true))from w_eq_bool (w_res rfl) w_lit) rfl
theorem attach_call{l:OpenLaw}{n:Nat}{q:Program}{loose:List Str}{XP:(Str->Option Value)->Heap->Prop}{YP:World->Heap->Prop}{d:DefRec}
  (hn:l.most=some n)(hdf:d.params.defaults=[])
  (call:∀(w:World) (s₀ s₁:Shared) (mg mb:Str->Option Value) (fa:Addr) (o:Obj) (pm cd doc:Value) (a:Addr) (vs:List Value) (ns:List Int),
   Ground q loose [] XP w s₀ mg mb s₁.heap->YP w s₁.heap->
   s₁.heap.get? fa=some o->o.data=.func (docDef d.name d.params d.body d.scope pm cd doc)->s₁.heap.CodeRec cd d.name->mg d.name=some (.ref fa)->
   s₁.heap.get? a=some {cls:=.type "list",data:=.seq vs.toArray}->IntsAre vs ns->ns.length<=n->s₁.gens= #[]->
   codeAny (model l.prog w) callerA (.call (.ref fa) ⟨[.ref a],[]⟩) (λr s'=>r=.ok (.ret (.bool true))/\OldK s₁.heap s'.heap/\s'.os=s₁.os/\AllBare s'.gens) s₁):
  WalkO q loose XP YP l.row.toRowW d [] (λf vs=>PySem.call f vs):=by
 intro w s₀ s₁ mg mb G Y fa o pm cd doc dV kV ho hd m hD j hg p h as c k s i t;obtain rfl:dV=.none:=Dflts.none hD hdf;obtain rfl:kV=.none:=Dflts.noKw hD;obtain⟨a,vs,ns,rfl,rfl,e,b,g⟩:=SM hn c i;refine enter_call (codeAny_mono (call w s₀ s₁ mg mb fa o pm cd doc a vs ns G Y ho (fd_plain hd) m j e b g hg) λr s' hq=> ?_);obtain⟨rfl,h2,h3,h4⟩:=hq;exact⟨.inl ⟨.bool true,.bool true,[],rfl,λ_=>rfl,.bool true,SK l _,λ_=>⟨List.Pairwise.nil,λ_ hm=>(nomatch hm)⟩⟩,h2,h3,h4⟩
section
end
end Att
namespace _L
open PySem PySem.Spec PyProof.Rows
theorem FQ:∀ {vs:List Value} {ns:List Int},IntsAre vs ns->Vals (ns.map V.int) vs
 |_,_,.nil=> .nil
 |_,_,.cons n t h=> .cons ⟨t,rfl⟩ (FQ h)
noncomputable def G3(s:Stmt)(j:Nat):Stmt:=match s with
 | .ClassDef _ _ _ body _ _ _ _ _ _ _=>body.getD j (.Pass ⟨0,0,0,0⟩)
 |_=> .Pass ⟨0,0,0,0⟩
noncomputable def E8(s:Stmt):Arguments:=match s with
 | .FunctionDef _ a _ _ _ _ _ _ _ _=>a
 |_=> {posonlyargs:=[],args:=[],vararg:=none,kwonlyargs:=[],kw_defaults:=[],kwarg:=none,defaults:=[]}
noncomputable def E5(s:Stmt):List Stmt:=match s with
 | .FunctionDef _ _ b _ _ _ _ _ _ _=>b
 |_=> []
noncomputable def B6(s:Stmt):Scope:=match s with
 | .FunctionDef _ _ _ _ _ _ sc _ _ _=>sc
 |_=> {kind:=.function,names:=[],isGenerator:=false,isCoroutine:=false}
noncomputable abbrev CX0:CXT:=λ_ _ _ _ _ _=>False
noncomputable abbrev E0:XK:=λ_ _ _=>False
theorem Q4:S8 CX0 X E0:=λ_ _ _ _ _ _ _ h=>h.elim
structure Fun (Z:FZ) (x qual:Str) (st:Stmt) (f:Addr) (fd:FuncData):Prop where
 ex:∃(oc:Value) (od:Option Addr) (kV doc pm:Value) (an:Option Addr) (cdv ct:Value) (osl:Array (Option Value)),
  fd=fnOf x qual (E8 st) (E5 st) (B6 st) .none kV doc pm an cdv ct/\Z.lookup f=some ⟨oc,od,.func fd,osl⟩/\codeIn Z cdv qual=true
 kp:kZ Z (.ref f)=true
section
theorem Fun.ok{st:Stmt}{sp:Sp}(F:Fun Z x qual st f fd)(S:FnScope N ps (B6 st))(len:∀vs H Q E,sp vs H Q E->vs.length=ps.length)
  (hbody:∀(cdv:Value) (A:Around) (outer:List Env) (s:Shared) (H:Hp) (vs:List V) (Q:VK) (E:XK),Room k (A.deeper (envOfC qual (B6 st) s.heap.objs.size f cdv))->sp vs H Q E->
   ∃t,PSs (HU CX0 P w Z mg base N qual (B6 st) f cdv A outer s H E).nox (E5 st) t/\t {nx:=λ_ H'=>Q .non H',rt:=Q} (start N vs) H):FnOk P w Z mg base CX0 (k+1) f fd ps sp:=by
 obtain⟨oc,od,kV,d,pm,an,cdv,ct,c,rfl,lk,b⟩:=F.ex;refine aWZ lk b S len λA outer s H vs Q E hr a=> ?_;obtain⟨t,h,q⟩:=hbody cdv A outer s H vs Q E hr a;exact⟨t,h.nox,q⟩
theorem Fun.binds{st:Stmt}{ps:List Str}(F:Fun Z x qual st f fd)
  (h:∀(kV doc pm:Value) (an:Option Addr) (cdv ct:Value) (us:List Value),us.length=ps.length->bindArgs (fnOf x qual (E8 st) (E5 st) (B6 st) .none kV doc pm an cdv ct) ⟨us,[]⟩=pure (ps.zip us)):Binds Z fd ps []:=by
 obtain⟨oc,od,kV,doc,pm,an,cdv,ct,a,rfl,lk,b⟩:=F.ex;exact .all (h kV doc pm an cdv ct)
theorem S7{Z:FZ}{st:Stmt}{oc:Value}{od:Option Addr}{osl:Array (Option Value)}{kV:Value}(l:Z.lookup f=some ⟨oc,od,.func (fnOf x qual (E8 st) (E5 st) (B6 st) .none kV doc pm an cdv ct),osl⟩)
  (c:codeIn Z cdv qual=true)(k:kZ Z (.ref f)=true):Fun Z x qual st f (fnOf x qual (E8 st) (E5 st) (B6 st) .none kV doc pm an cdv ct):=⟨⟨oc,od,kV,doc,pm,an,cdv,ct,osl,rfl,l,c⟩,k⟩
theorem pv{X:Cx}(i:Nat){x:Str}(hN:X.N[i]? =some x:=by rfl)(hv:Vis X.env.scope x:=by first|exact Or.inl rfl|exact Or.inr (Or.inl rfl)|exact Or.inr (Or.inr rfl))(hd:(x==("__debug__":Str))=false:=by decide)
  (hcd:(x==("__classdict__":Str))=false:=by decide):PE X (.Name x pos) (tVar i):=ccZ hN hv hd hcd
end
theorem EX{A B:Prop}[Decidable c](h1:c->A)(h2:¬c->B):if c then A else B:=by
 by_cases h:c
 ·rw[if_pos h];exact h1 h
 ·rw[if_neg h];exact h2 h
noncomputable def Same(H H':Hp):Prop:=∀b o,H b=some o->H' b=some o
theorem Same.refl(H:Hp):Same H H:=λ_ _ h=>h
theorem Same.trans(a:Same H H1)(b:Same H1 H2):Same H H2:=λc o h=>b c o (a c o h)
theorem Same.free(e:Same H H'){l:Addr}(h:H' l=Option.none):H l=Option.none:=by
 cases q:H l with
 |none=>rfl
 |some o=>
  rw[e l o q]at h;cases h
theorem Same.seq(e:Same H H')(h:SqL Z H a xs):SqL Z H' a xs:=by
 rcases h with(h|⟨o,h⟩)|h
 ·exact .inl (.inl (e _ _ h))
 ·exact .inl (.inr ⟨o,e _ _ h⟩)
 ·exact .inr h
theorem IQ{α β:Type}{M:Model}{A:Around}{a:α}{Q:α->Shared->Prop}{E:Value->Shared->Prop}{s:Shared}{t2:Sem β}{Q2:β->Shared->Prop}{E2:Value->Shared->Prop}
  (h:wpAny M A (pure a:Sem α) Q E s)(k:Q a s->wpAny M A t2 Q2 E2 s):wpAny M A t2 Q2 E2 s:=fun Γ p hΓ=>k (h Γ p hΓ) Γ p hΓ
noncomputable def PTs(X:Cx)(ifs:List Expr)(t:TT):Prop:=
 ∀(pins:List (Addr×Obj)) (s:Shared) (σ:St) (H:Hp) (Q:Bool->Hp->Prop),Inv X pins σ H s->t σ H Q->
  wpAny (model X.prog X.w) X.A (forIn ifs true λc r=>if r=true then do let ok<-isTrue c X.env (eval c X.env);pure (ForInStep.yield ok)else pure (ForInStep.yield r)) (TP X pins σ Q) X.xe s
noncomputable def PC:TT:=λ_ H Q=>Q true H
theorem T0:PTs X [] PC:=λ_ _ _ H _ I h=>wpAny_tests_nil ⟨H,I,h⟩
theorem IZ(h:PT X c t):PTs X [c] t:=λa s σ H Q I hq=>wpAny_tests_one (h a s σ H Q I hq)
noncomputable def X9(cells:List (Str×Addr))(names:List (Str×NameKind))(acc:List (Str×Addr)):List (Str×Addr):=
 match names with
 | []=>acc
 |(n,k)::r=>X9 cells r (if k==.free then(n,(cells.lookup n).getD 0)::acc else acc)
theorem AC{env:Env}:∀(names:List (Str×NameKind)) (acc:List (Str×Addr)),(∀y∈names,y.2=.free->∃c,env.cells.lookup y.1=some c)->
  (forIn names acc λ(x:Str×NameKind) (r:List (Str×Addr))=>if(x.2==.free)=true then(do let a<-cellOf env x.1;pure (ForInStep.yield ((x.1,a)::r)):Sem (ForInStep (List (Str×Addr))))else pure (ForInStep.yield r))=(pure (X9 env.cells names acc):Sem (List (Str×Addr)))
 | [],acc,_=>rfl
 |(n,k)::r,acc,h=>by
  have ih:=AC (env:=env) r;rw[List.forIn_cons];by_cases hk:(k==NameKind.free)=true
  ·obtain⟨c,hc⟩:=h (n,k) mem_cons_self (by simpa using hk);have b:cellOf env n=pure c:=by unfold cellOf;rw[hc]
   dsimp only
   rw[if_pos hk,b];have e:X9 env.cells ((n,k)::r) acc=X9 env.cells r ((n,c)::acc):=by
    show X9 env.cells r (if(k==NameKind.free)=true then(n,(env.cells.lookup n).getD 0)::acc else acc)=_;rw[if_pos hk,hc];rfl
   rw[e,<-ih ((n,c)::acc) λy hy=>h y (mem_cons_of_mem _ hy)];rfl
  ·dsimp only
   rw[if_neg hk];have e:X9 env.cells ((n,k)::r) acc=X9 env.cells r acc:=by
    show X9 env.cells r (if(k==NameKind.free)=true then(n,(env.cells.lookup n).getD 0)::acc else acc)=_;rw[if_neg hk]
   rw[e,<-ih acc λy hy=>h y (mem_cons_of_mem _ hy)];rfl
theorem CJ{scope:Scope}{env:Env}(h:∀y∈scope.names,y.2=.free->∃c,env.cells.lookup y.1=some c):closureFor scope env=pure (X9 env.cells scope.names []):=by
 unfold closureFor;have e:=AC (env:=env) scope.names [] h
 first
  |exact e
  |(simp only[bind_pure_comp,map_pure]at*;exact e)
  |(rw[<-e];simp)
theorem KN{cells:List (Str×Addr)}:∀(names:List (Str×NameKind)) (acc:List (Str×Addr)) (p:Str×Addr),(∀y∈names,y.2=.free->∃c,cells.lookup y.1=some c)->p∈X9 cells names acc->p∈acc\/(cells.lookup p.1=some p.2/\(p.1,NameKind.free)∈names)
 | [],acc,p,_,h=> .inl h
 |(n,k)::r,acc,p,hn,h=>by
  have h':p∈X9 cells r (if(k==NameKind.free)=true then(n,(cells.lookup n).getD 0)::acc else acc):=h;rcases KN r _ p (λy hy=>hn y (mem_cons_of_mem _ hy)) h' with q|⟨q1,q2⟩
  ·by_cases hk:(k==NameKind.free)=true
   ·rw[if_pos hk]at q;rcases cZ q with e|q
    ·have a:k=.free:=by simpa using hk
     obtain⟨c,hc⟩:=hn (n,k) mem_cons_self a;subst e;refine .inr ⟨?_, ?_⟩
     ·show cells.lookup n=some ((cells.lookup n).getD 0);have b:cells.lookup n=some c:=hc;rw[b];rfl
     ·rw[<-a];exact mem_cons_self
    ·exact .inl q
   ·rw[if_neg hk]at q;exact .inl q
  ·exact .inr ⟨q1,mem_cons_of_mem _ q2⟩
theorem KB:∀(names:List (Str×NameKind)) (acc:List (Str×Addr)) (n:Str),((n,NameKind.free)∈names\/∃c,(n,c)∈acc)->∃c,(n,c)∈X9 cells names acc
 | [],acc,n,h=>by
  rcases h with h|h
  ·cases h
  ·exact h
 |(m,k)::r,acc,n,h=>by
  show∃c,(n,c)∈X9 cells r (if(k==NameKind.free)=true then(m,(cells.lookup m).getD 0)::acc else acc);refine KB r _ n ?_;rcases h with h|⟨c,h⟩
  ·rcases cZ h with e|h
   ·injection e with e1 e2
    subst e1;subst e2;exact .inr ⟨_,by rw[if_pos (show(NameKind.free==NameKind.free)=true from rfl)];exact mem_cons_self⟩
   ·exact .inl h
  ·refine .inr ⟨c, ?_⟩;split
   ·exact mem_cons_of_mem _ h
   ·exact h
theorem W5{α:Type}{n:Str}{c:α}:∀ {l:List (Str×α)},(n,c)∈l->∃d,l.lookup n=some d/\(n,d)∈l
 |(m,d)::r,h=>by
  by_cases e:n=m
  ·subst e;exact⟨d,by simp[lookup_cons],mem_cons_self⟩
  ·rcases cZ h with q|q
   ·injection q with q1 _
    exact absurd q1 e
   ·obtain⟨d',h1,h2⟩:=W5 q;refine⟨d', ?_,mem_cons_of_mem _ h2⟩;rw[lookup_cons];have:(n==m)=false:=beq_eq_false_iff_ne.mpr e;rw[this];exact h1
structure CompScope (N:List Str) (sc scope:Scope) (x:Str) (caps:List Nat) (ns:List Str):Prop where
 cell:∀y∈scope.names,y.2≠ .cell
 kind:scope.kind=.function
 names:∀y∈scope.names,y.2=.local->scope.names.lookup y.1=some .local
 var:scope.names.lookup x=some .local
 free:∀y∈scope.names,y.2=.free->sc.names.lookup y.1=some .cell\/sc.names.lookup y.1=some .free
 at_:caps.map (λj=>N[j]?)=ns.map some
 nsf:∀y∈ns,scope.names.lookup y=some .free
 nd:(x::ns).Nodup
noncomputable def Cx.comp(X:Cx)(N':List Str)(scope:Scope)(cl:List (Str×Addr))(C:Addr)(s:Shared)(H:Hp)(fp:List Addr):Cx:=
 {X with N:=N',s₀:=s,H₀:=H,env:=compEnvC scope cl C X.env,outer:=X.stack,ex:=fp,fn:=λ_=>false,xe:=λ_ _=>False}
noncomputable def capσ(caps:List Nat)(σ:St)(v:Option V):St:=v::caps.map λj=>(σ[j]?).getD none
noncomputable def WH(wi:TI)(caps:List Nat)(tt:TT)(te:TE)(σ:St)(H:Hp)(R:List V->Hp->Prop):Prop:=wi σ H λJ H1=>∃W:Nat->Nat->List V->Hp->Prop,(∃m,W 0 m [] H1)/\∀i m ys H,W i m ys H->
 ys.length<=sizeLine/\((J.stop i H/\R ys H)\/(J.go i H/\∃N:List V->Hp->Prop,(∀ys' H',N ys' H'->∃m',m'<m/\W (i+1) m' ys' H')/\∀v H',J.yld i H v H'->tt (capσ caps σ (some v)) H' λb H2=>
  if b=true then te (capσ caps σ (some v)) H2 λy H3=>N (ys++ [y]) H3 else N ys H2))
noncomputable def bdZ(wi:TI)(caps:List Nat)(tt:TT)(te:TE):TE:=fun σ H Q=>WH wi caps tt te σ H λys H1=>∀D,H1 D=none->Q (.ref D) (upd H1 D (.lst ys))
theorem EH{y:Str}(h:((relabel scope env).names.lookup y=some .cell\/(relabel scope env).names.lookup y=some .free))(hc:∀y∈scope.names,y.2≠ .cell):(y,NameKind.free)∈scope.names:=by
 have h':∃k,(k=.cell\/k=.free)/\(y,k)∈(relabel scope env).names:=by
  rcases h with h|h
  ·exact⟨_,.inl rfl,PySem.mem_of_lookup h⟩
  ·exact⟨_,.inr rfl,PySem.mem_of_lookup h⟩
 obtain⟨k,hk,hm⟩:=h';unfold relabel at hm;obtain⟨⟨n,k0⟩,a,e⟩:=mem_map.mp hm
 dsimp only at e
 split at e
 ·rename_i hcond;injection e with e1 e2
  subst e1;have:k0=.free:=by
   simp only[Bool.and_eq_true]at hcond
   simpa using hcond.1.1
  subst this;exact a
 ·injection e with e1 e2
  subst e1;subst e2;rcases hk with rfl|rfl
  ·exact absurd rfl (hc _ a)
  ·exact a
theorem O2{env:Env}:∀ {names:List (Str×NameKind)} {x:Str},names.lookup x=some .free->
  (names.map λ(n,k)=>if(k==NameKind.free&&env.scope.kind==.function&&env.kindOf n==some .cell)then(n,NameKind.cell)else(n,k)).lookup x=some .cell\/
  (names.map λ(n,k)=>if(k==NameKind.free&&env.scope.kind==.function&&env.kindOf n==some .cell)then(n,NameKind.cell)else(n,k)).lookup x=some .free
 | [],_,h=>by simp at h
 |(n,k)::r,x,h=>by
  have ih:= @O2 env r x;show(List.lookup x ((if(k==NameKind.free&&env.scope.kind==.function&&env.kindOf n==some .cell)=true then(n,NameKind.cell)else(n,k))::_)=_)\/(List.lookup x ((if(k==NameKind.free&&env.scope.kind==.function&&env.kindOf n==some .cell)=true then(n,NameKind.cell)else(n,k))::_)=_);cases hx:x==n with
  |true=>
   simp only[lookup_cons,hx]at h;cases h;split
   ·left;simp[lookup_cons,hx]
   ·right;simp[lookup_cons,hx]
  |false=>
   simp only[lookup_cons,hx]at h;by_cases hc:(k==NameKind.free&&env.scope.kind==.function&&env.kindOf n==some .cell)=true
   ·rw[if_pos hc];simp only[lookup_cons,hx];exact ih h
   ·rw[if_neg hc];simp only[lookup_cons,hx];exact ih h
section
theorem GL{X:Cx}{use:Option (Value->Sem Unit)}{Q:Value->Shared->Prop}
  {s:Shared}{H:Hp}{R:List V->Hp->Prop}
  (CS:CompScope X.N X.env.scope scope x caps ns)(hc:X.calm=true)(hi:PI X (.Name x px) iter wi)
  (ht:∀cl C s H fp,PTs (X.comp (x::ns) scope cl C s H fp) ifs tt)(he:∀cl C s H fp,PE (X.comp (x::ns) scope cl C s H fp) elt te)
  (hs:∀v,foldedSetIterable iter X.env v=pure v)
  (I:Inv X pins σ H s)(h:WH wi caps tt te σ H R)
  (hend:∀D C s' H' ys,Inv X pins σ (upd H' D (.lst ys)) s'->H' D=none->R ys H'->(∃m,s'.heap.Ns C m)->(upd H' D (.lst ys)) C=none->C≠X.env.locals->X.s₀.heap.objs.size<=C->(∀y c,X.env.cells.lookup y=some c->c≠C)->(∀p∈X.pn++pins,p.1≠C)->
   compPost (model X.prog X.w) X.A X.xe use Q (.ref D) C (.ok .next) s'):
  wpAny (model X.prog X.w) X.A (comprehension (.ListComp elt [⟨.Name x px,iter,ifs,0⟩] scope pos) scope X.env pos' (newList []) false (eval iter X.env) use) Q X.xe s:=by
 have E:∀y∈scope.names,y.2=.free->∃c,X.env.cells.lookup y.1=some c:=λy hy hf=>I.ok.has y.1 (CS.free y hy hf);refine wpAny_comprehension_free (use:=use) rfl hs (CJ E) CS.kind CS.names ?_;refine thn (hi pins s σ H _ I h) λv s1 h1=>thn h1 λbf s2 h2=> ?_;obtain⟨it,fp,tn,J,H2,e,I2,T,ak,f2,W,⟨m0,w0⟩,ag⟩:=h2;subst e;refine wpAny_newObj_type (wpAny_newFunctionEnv CS.cell (by intro y hy;simp at hy) (λh₁ L B=> ?_) CS.kind)
 dsimp only at L B⊢
 generalize an:s2.heap.push {cls:=.type "list",dict:=none,data:=.seq ([]:List Value).toArray}=HH at L B⊢;have hC:HH.objs.size=s2.heap.objs.size+1:=by rw[<-an,size_push]
 generalize bh:HH.objs.size=C at L B hC⊢;have ae:s2.heap.objs.size≠C:=by rw[hC];exact ne_of_lt (lt_succ_self _)
 have f:∀b,b<s2.heap.objs.size->b≠C/\b≠s2.heap.objs.size:=λb hb=>⟨by rw[hC];exact ne_of_lt (Nat.lt_succ_of_lt hb),ne_of_lt hb⟩;have O:∀b o,s2.heap.get? b=some o->h₁.get? b=some o:=λb o e=>B.extBut b o (f b (lt_size e)).1 (gZ _ (an▸gZ _ e));have am:h₁.get? s2.heap.objs.size=some (LCg.lst []):=B.extBut _ _ ae (gZ _ (an▸get?_push_size _ rfl));have af:∀b∈fp,b<s2.heap.objs.size:=λb hb=>let⟨o,e,_⟩:=T.obj _ _ ak b hb;lt_size e;have g:∀y c,(X9 X.env.cells scope.names []).lookup y=some c->X.env.cells.lookup y=some c:=λy c e=>by
  rcases KN scope.names [] (y,c) E (PySem.mem_of_lookup e)with q|q
  ·cases q
  ·exact q.1
 have F:∀a,s2.heap.objs.size<=a->H2 a=none:=λa ha=>I2.hok.fresh ha;generalize a7:X9 X.env.cells scope.names []=cl at g⊢;have P:∀y,(y,NameKind.free)∈scope.names->∃c,cl.lookup y=some c:=λy hy=>by
  obtain⟨c,q⟩:=KB (cells:=X.env.cells) scope.names [] y (.inl hy);rw[a7]at q;obtain⟨d,q1,_⟩:=W5 q;exact⟨d,q1⟩
 have ar:∀y c,X.env.cells.lookup y=some c->c<s2.heap.objs.size:=λy c e=>let⟨v,z⟩:=I2.cell y c e;z.lt;have aq:(X.comp (x::ns) scope cl C s2 H2 fp).Ok:=by
  refine⟨I2.ok.mod,CS.kind,I2.ok.glob,I2.ok.blt,(by show s2.heap.objs.size<=C;rw[hC];exact le_succ _),λy z c a b=>I2.ok.inj y z c (g y c a) (g z c b),λy hy=>P y (EH hy CS.cell),λy c z=>(by cases z),I2.ok.hd,I2.ok.frames,.inl rfl,
   λb hb=>⟨(f b (af b hb)).1,λy c e z=>(f2 b hb).2.2.2.2.1 y c (g y c e) z⟩,λb o e=>I2.bs b o e,le_trans I2.ok.bsz I2.sz,λb o e hb=> ?_,λb hb hf=> ?_,I2.stack,I2.stkFree⟩
  ·rcases(f2 b hb).2.2.2.1 with z|z
   ·exact I2.ok.noex b o e z
   ·exact absurd (lt_of_lt_of_le (lt_size e) (le_trans I2.ok.bsz z)) (lt_irrefl _)
  ·rcases cZ (I2.stkSub b hf)with z|z
   ·exact(f2 b hb).2.1 z
   ·exact(f2 b hb).2.2.1 z
 have U:∀(k:Nat) (y:Str) (v:V),(x::ns)[k]? =some y->(capσ caps σ none)[k]? =some (some v)->∃j,X.N[j]? =some y/\σ[j]? =some (some v)/\scope.names.lookup y=some .free:=λk y v e1 e2=>by
  cases k with
  |zero=>cases e2
  |succ k=>
   have ay:ns[k]? =some y:=by simpa using e1
   have ao:(caps.map λj=>(σ[j]?).getD none)[k]? =some (some v):=by simpa [capσ]using e2
   have e3:(ns.map some)[k]? =some (some y):=by rw[getElem?_map,ay];rfl
   rw[<-CS.at_,getElem?_map]at e3;rw[getElem?_map]at ao;cases hj:caps[k]? with
   |none=>rw[hj]at e3;cases e3
   |some j=>
    rw[hj]at e3 ao;have e4:X.N[j]? =some y:=Option.some.inj e3;have e5:(σ[j]?).getD none=some v:=Option.some.inj ao;refine⟨j,e4, ?_,CS.nsf y (mem_of_getElem? ay)⟩;cases hσ:σ[j]? with
    |none=>rw[hσ]at e5;cases e5
    |some z=>rw[hσ]at e5;have e6:z=some v:=e5;rw[e6]
 have G:∀y,scope.names.lookup y=some .free->X.env.kindOf y=some .cell\/X.env.kindOf y=some .free:=λy hy=>CS.free (y,.free) (PySem.mem_of_lookup hy) rfl;have I0:Inv (X.comp (x::ns) scope cl C s2 H2 fp) (pins++ [(s2.heap.objs.size,LCg.lst [])]) (capσ caps σ none) H2 {s2 with heap:=h₁,toks:=s2.toks+([]:List (Str×Value)).length}:=by
  obtain⟨m2,bg,a6⟩:=I2.loc;refine⟨aq,rfl,I2.bare,Un.kept O,⟨_,L,λk y v e1 e2 e3=> ?_⟩,λy c e=> ?_,F C (by rw[hC];exact le_succ _),λy c e=>I2.freeC y c (g y c e),λp hp=> ?_,I2.hok.kept O, ?_⟩
  ·obtain⟨j,q1,q2,q3⟩:=U k y v e1 e2;have vf:=G y q3;obtain⟨u,ru,lk⟩:=a6 j y v q1 q2 (vf.elim (λz=> .inr (.inl z)) λz=> .inr (.inr z));refine⟨u,ru,.inr ⟨O2 q3, ?_⟩⟩;obtain⟨c,ad⟩:=P y (PySem.mem_of_lookup q3);refine⟨c,ad, ?_⟩;rcases lk with⟨k1,_⟩|⟨_,c',e',z⟩
   ·rcases vf with vf|vf<;>(rw[k1]at vf;cases vf)
   ·have q:=g y c ad;rw[e']at q;cases q;exact z.keeps O
  ·obtain⟨v,z⟩:=I2.cell y c (g y c e);exact⟨v,z.keeps O⟩
  ·rcases mem_append.mp hp with hp|hp
   ·obtain⟨a1,a2,a3,a4,a5⟩:=I2.pin p (mem_append_left _ hp);refine⟨O _ _ a1,a2,(f _ (lt_size a1)).1,λz=> ?_,a5⟩;rcases cZ (I2.stkSub _ z)with z|z
    ·exact a3 z
    ·exact a4 z
   ·rcases mem_append.mp hp with hp|hp
    ·obtain⟨a1,a2,a3,a4,a5⟩:=I2.pin p (mem_append_right _ hp);refine⟨O _ _ a1,a2,(f _ (lt_size a1)).1,λz=> ?_,a5⟩;rcases cZ (I2.stkSub _ z)with z|z
     ·exact a3 z
     ·exact a4 z
    ·have e:p=(s2.heap.objs.size,LCg.lst []):=by simpa using hp
     subst e;refine⟨am,F _ (le_refl _),ae,λz=> ?_,λv z=>by cases z⟩;rcases cZ (I2.stkSub _ z)with z|z
     ·exact absurd I2.lt (by rw[<-z];exact lt_irrefl _)
     ·exact I2.nofs (le_refl _) z
  ·show(capσ caps σ none).length=(x::ns).length;have:=congrArg List.length CS.at_;simp only[length_map]at this;simp[capσ,this]
 have ab:∀s₃:Shared,s₃={s2 with heap:=h₁,toks:=s2.toks+([]:List (Str×Value)).length}->
   codeAny (model X.prog X.w) X.A (.compLoop (.ListComp elt [⟨.Name x px,iter,ifs,0⟩] scope pos) 0 (.ref it) (.ref s2.heap.objs.size) (compEnvC scope cl C X.env))
    (compPost (model X.prog X.w) X.A X.xe use Q (.ref s2.heap.objs.size) C) s₃:=by
  rintro s₃ rfl;refine codeAny_compLoop_tests (λn s'=>∃i ys us H',Inv (X.comp (x::ns) scope cl C s2 H2 fp) (pins++ [(s2.heap.objs.size,LCg.lst us)]) (capσ caps σ none) H' s'/\Vals ys us/\tn i s'.heap/\(∀b∈fp,H' b=none)/\W i n ys H') ?_ m0
   ⟨0,[],[],H2,I0,.nil,T.keep _ _ _ ak (λb _ o e=>O b o e),λb hb=>(f2 b hb).1,w0⟩
  rintro n s3 ⟨i,ys,us,H3,I3,rv,ap,ax,w3⟩;obtain⟨av,ac⟩:=ag i n ys H3 w3;have M:∀p∈X.pn++pins,p.1<s2.heap.objs.size:=λp hp=>lt_size (I2.pin p hp).1;have S:∀ {H':Hp},(∀b∈fp,H' b=none)->∀b∈fp,NQ (X.comp (x::ns) scope cl C s2 H2 fp) (pins++ [(s2.heap.objs.size,LCg.lst us)]) H' b:=λhn b hb=>
   ⟨hn b hb,(f b (af b hb)).1,aq.exfs b hb,.inl hb,λy c e z=>(f2 b hb).2.2.2.2.1 y c (g y c e) z,λp hp=>by
    rcases mem_append.mp hp with hp|hp
    ·exact(f2 b hb).2.2.2.2.2 p (mem_append_left _ hp)
    ·rcases mem_append.mp hp with hp|hp
     ·exact(f2 b hb).2.2.2.2.2 p (mem_append_right _ hp)
     ·have e:p=(s2.heap.objs.size,LCg.lst us):=by simpa using hp
      subst e;exact Ne.symm (f b (af b hb)).2⟩
  have al:∀(l:List (Addr×Obj)),(s2.heap.objs.size,LCg.lst us)∈(X.comp (x::ns) scope cl C s2 H2 fp).pn++((pins++ [(s2.heap.objs.size,LCg.lst us)])++l):=λl=>
   mem_append_right _ (mem_append_left _ (mem_append_right _ mem_cons_self))
  rcases ac with⟨ah,r⟩|⟨go,Nx,aw,ai⟩
  ·refine thn (T.done (X.comp (x::ns) scope cl C s2 H2 fp) rfl rfl rfl hc i _ s3 _ H3 _ I3 (S ax) ap ah) λr' s4 ⟨hr,I4⟩=> ?_;subst hr;have pD:=I4.pin (s2.heap.objs.size,LCg.lst us) (mem_append_right _ (mem_append_right _ mem_cons_self));have Y:H3 s2.heap.objs.size=none:=pD.2.1;have a9:H3 C=none:=I4.free;have b4:Un (frs X.stack) fp H2 H3 s2.heap s4.heap:=I4.base;have u4:Un (frs X.stack) fp H2 (upd H3 s2.heap.objs.size (.lst ys)) s2.heap s4.heap:=
    ⟨b4.keep,b4.slot,λb o e n hx=>by rw[B7 (f b (lt_size e)).2];exact b4.free b o e n hx,b4.there,
     λb xs q=>by rw[B7 (C6 (b4.tups b xs q) Y)];exact b4.tups b xs q,λb o u q=>by rw[B7 (C6 (b4.frzs b o u q) Y)];exact b4.frzs b o u q,
     λb ps q=>by
      obtain⟨m1,e1⟩:=b4.tbls b ps q;exact⟨m1,by rw[B7 (C6 e1 Y)];exact e1⟩⟩
   have k4:HOk X.prog X.w (upd H3 s2.heap.objs.size (.lst ys)) s4.heap:=λb u e=>by
    by_cases hb:b=s2.heap.objs.size
    ·subst hb;rw[A7]at e;cases e;exact⟨av,us,_,rv,pD.1⟩
    ·rw[B7 hb]at e;exact(I4.hok b u e).stay (λc v _ q=>q) (λc q=>by rw[B7 (C6 q Y)];exact q) λc xs q=>by rw[B7 (C6 q Y)];exact q
   have J4:Inv X pins σ (upd H3 s2.heap.objs.size (.lst ys)) s4:=I2.call' (ch:=fp) I4.os u4 k4 I4.bare λb hb=>⟨(f2 b hb).2.2.2.1,(f2 b hb).2.1,(f2 b hb).2.2.2.2.1,(f2 b hb).2.2.2.2.2⟩;obtain⟨mC,a0,_⟩:=I4.loc;exact hend _ C s4 H3 ys J4 Y r ⟨mC,a0⟩ (by rw[B7 (Ne.symm ae)];exact a9) (Ne.symm (f _ I2.lt).1) (by rw[hC];exact le_succ_of_le I2.sz) (λy c e=>(f c (ar y c e)).1) λp hp=>(f _ (M p hp)).1
  ·refine thn (T.item (X.comp (x::ns) scope cl C s2 H2 fp) rfl rfl rfl hc i _ s3 _ H3 _ I3 (S ax) ap go) λr' s4 ⟨u,hr,h4⟩=> ?_;subst hr;refine IQ h4 λ⟨v,H5,I5,r5,y5,aj,ba⟩=> ?_;have be:=I5.pinned (S ba) (T.obj _ _ aj);refine wpAny_assign_Name (EL (X:=X.comp (x::ns) scope cl C s2 H2 fp) (i:=0) be CS.nd rfl (.inl (lookup_relabel_local CS.var)) r5 (λs6 I6=> ?_) (.inr (lookup_relabel_local CS.var)));have bd:Inv (X.comp (x::ns) scope cl C s2 H2 fp) ((pins++ [(s2.heap.objs.size,LCg.lst us)])++AW fp s4.heap) (capσ caps σ (some v)) H5 s6:=I6;refine wpAny_mono (ht cl C s2 H2 fp _ s6 _ H5 _ bd (ai v H5 y5)) (λb s7 ⟨H7,I7,q7⟩=> ?_) (λ_ _ e=>e.elim);have aa:∀ {H':Hp} {s':Shared} {pl:List (Addr×Obj)},Inv (X.comp (x::ns) scope cl C s2 H2 fp) pl (capσ caps σ (some v)) H' s'->Inv (X.comp (x::ns) scope cl C s2 H2 fp) pl (capσ caps σ none) H' s':=λ{H' s' pl} J'=>
    J'.weak rfl λk z e=>by
     cases k with
     |zero=>cases e
     |succ k=>exact e
   have t:∀ {H':Hp} {s':Shared},Inv (X.comp (x::ns) scope cl C s2 H2 fp) ((pins++ [(s2.heap.objs.size,LCg.lst us)])++AW fp s4.heap) (capσ caps σ (some v)) H' s'->tn (i+1) s'.heap/\∀b∈fp,H' b=none:=λ{H' s'} J'=>by
    refine⟨T.keep _ _ _ aj λb hb o e=>(J'.pin (b,o) (mem_append_right _ (mem_append_right _ (R9 hb e)))).1,λb hb=> ?_⟩;obtain⟨o,e,d⟩:=T.obj _ _ aj b hb;exact(J'.pin (b,o) (mem_append_right _ (mem_append_right _ (R9 hb e)))).2.1
   cases b with
   |false=>
    rw[if_neg nZ]at q7⊢;obtain⟨m',hm,w7⟩:=aw _ _ q7;exact⟨m',hm,i+1,ys,us,H7,aa I7.unpinned,rv,(t I7).1,(t I7).2,w7⟩
   |true=>
    rw[if_pos rfl]at q7⊢;refine wpAny_mono (he cl C s2 H2 fp _ s7 _ H7 _ I7 q7) (λyv s8 ⟨y,H8,I8,ry,n8⟩=> ?_) (λ_ _ e=>e.elim);obtain⟨m',hm,w8⟩:=aw _ _ n8;have pD:=I8.pin (s2.heap.objs.size,LCg.lst us) (al _);have az:us.length=ys.length:=rv.length.symm;refine append_at (hsz:=by show us.toArray.size<=sizeLine;rw[size_toArray,az];exact av) pD.1 λh9 au a8=> ?_;have bc:Inv (X.comp (x::ns) scope cl C s2 H2 fp) pins (capσ caps σ none) H8 s8:=aa I8.unpinned.unpinned;have I9:Inv (X.comp (x::ns) scope cl C s2 H2 fp) pins (capσ caps σ none) H8 {s8 with heap:=h9}:=bc.turned (t':=s8.toks) (it:=s2.heap.objs.size) (λb o hb e=>(au.2 b hb).trans e) pD.2.1 ae (.inr (le_refl _)) (λy c e z=>ne_of_lt (ar y c (g y c e)) z) λp hp=>ne_of_lt (M p hp);have bb:Inv (X.comp (x::ns) scope cl C s2 H2 fp) (pins++ [(s2.heap.objs.size,LCg.lst (us++ [yv]))]) (capσ caps σ none) H8 {s8 with heap:=h9}:=I9.pins_of λp hp=>by
     rcases mem_append.mp hp with hp|hp
     ·exact I9.pin p (mem_append_right _ hp)
     ·have e:p=(s2.heap.objs.size,LCg.lst (us++ [yv])):=by simpa using hp
      subst e;exact⟨a8.trans (congrArg some (LCg.lst_snoc us yv)),pD.2.1,ae,pD.2.2.2.1,λv z=>by cases z⟩
    refine⟨m',hm,i+1,ys++ [y],us++ [yv],H8,bb,rv.append (.cons ry .nil), ?_,(t I8).2,w8⟩;exact T.keep _ _ _ (t I8).1 λb hb o e=>(au.2 b (f b (af b hb)).2).trans e
 exact codeAny_compStart_list (ab _ rfl) (T.self X.A 0 _ _ _ (T.keep _ _ _ ak (λb _ o e=>O b o e)) (ab _ rfl))
theorem UE{Z:FZ}{a:Addr}{xs:List V}{caps:List Nat}{tt:TT}{te:TE}{σ:St}{H:Hp}{R:List V->Hp->Prop}(Pv:Nat->List V->Hp->Prop)(h0:Pv 0 [] H)(hl:∀i ys H,i<=xs.length->Pv i ys H->SqT Z H a xs/\ys.length<=sizeLine)
  (hs:∀i x ys H,xs[i]? =some x->Pv i ys H->tt (capσ caps σ (some x)) H λb H2=>if b=true then te (capσ caps σ (some x)) H2 λy H3=>Pv (i+1) (ys++ [y]) H3 else Pv (i+1) ys H2)(hd:∀ys H,Pv xs.length ys H->R ys H):
  ∃W:Nat->Nat->List V->Hp->Prop,(∃m,W 0 m [] H)/\∀i m ys H,W i m ys H->ys.length<=sizeLine/\(((Itt Z a).stop i H/\R ys H)\/((Itt Z a).go i H/\∃N:List V->Hp->Prop,(∀ys' H',N ys' H'->∃m',m'<m/\W (i+1) m' ys' H')/\∀v H',(Itt Z a).yld i H v H'->
   tt (capσ caps σ (some v)) H' λb H2=>if b=true then te (capσ caps σ (some v)) H2 λy H3=>N (ys++ [y]) H3 else N ys H2)):=by
 refine⟨λi m ys H=>m=xs.length - i/\i<=xs.length/\Pv i ys H,⟨xs.length,by simp,zero_le _,h0⟩, ?_⟩;rintro i m ys H ⟨rfl,hi,p⟩;obtain⟨q,hz⟩:=hl i ys H hi p;refine⟨hz, ?_⟩;by_cases c:i<xs.length
 ·refine .inr ⟨⟨xs,xs[i],q,by simp[c]⟩,Pv (i+1),λys' H' p'=>⟨xs.length - (i+1),by omega,rfl,c,p'⟩,λx H' y=> ?_⟩;obtain⟨e,y⟩:=y;subst e;exact hs i x ys _ (y xs q) p
 ·have e:i=xs.length:=by omega
  subst e;exact .inl ⟨⟨xs,q,le_refl _⟩,hd ys H p⟩
theorem AK{Z:FZ}{a:Addr}{xs:List V}{caps:List Nat}{tt:TT}{te:TE}{σ:St}{H:Hp}{R:List V->Hp->Prop}(Pv:Nat->List V->Hp->Prop)(h0:Pv 0 [] H)(hl:∀i ys H,i<=xs.length->Pv i ys H->SqL Z H a xs/\ys.length<=sizeLine)
  (hs:∀i x ys H,xs[i]? =some x->Pv i ys H->tt (capσ caps σ (some x)) H λb H2=>if b=true then te (capσ caps σ (some x)) H2 λy H3=>Pv (i+1) (ys++ [y]) H3 else Pv (i+1) ys H2)(hd:∀ys H,Pv xs.length ys H->R ys H):
  ∃W:Nat->Nat->List V->Hp->Prop,(∃m,W 0 m [] H)/\∀i m ys H,W i m ys H->ys.length<=sizeLine/\(((Itl Z a).stop i H/\R ys H)\/((Itl Z a).go i H/\∃N:List V->Hp->Prop,(∀ys' H',N ys' H'->∃m',m'<m/\W (i+1) m' ys' H')/\∀v H',(Itl Z a).yld i H v H'->
   tt (capσ caps σ (some v)) H' λb H2=>if b=true then te (capσ caps σ (some v)) H2 λy H3=>N (ys++ [y]) H3 else N ys H2)):=by
 refine⟨λi m ys H=>m=xs.length - i/\i<=xs.length/\Pv i ys H,⟨xs.length,by simp,zero_le _,h0⟩, ?_⟩;rintro i m ys H ⟨rfl,hi,p⟩;obtain⟨q,hz⟩:=hl i ys H hi p;refine⟨hz, ?_⟩;by_cases c:i<xs.length
 ·refine .inr ⟨⟨xs,xs[i],q,by simp[c]⟩,Pv (i+1),λys' H' p'=>⟨xs.length - (i+1),by omega,rfl,c,p'⟩,λx H' y=> ?_⟩;obtain⟨e,y⟩:=y;subst e;exact hs i x ys _ (y xs q) p
 ·have e:i=xs.length:=by omega
  subst e;exact .inl ⟨⟨xs,q,le_refl _⟩,hd ys H p⟩
theorem M2{lo:Int}{n:Nat}{caps:List Nat}{tt:TT}{te:TE}{σ:St}{H:Hp}{R:List V->Hp->Prop}(Pv:Nat->List V->Hp->Prop)(h0:Pv 0 [] H)(hl:∀i ys H,i<=n->Pv i ys H->ys.length<=sizeLine)
  (hs:∀i ys H,i<n->Pv i ys H->tt (capσ caps σ (some (.int (lo+i)))) H λb H2=>if b=true then te (capσ caps σ (some (.int (lo+i)))) H2 λy H3=>Pv (i+1) (ys++ [y]) H3 else Pv (i+1) ys H2)(hd:∀ys H,Pv n ys H->R ys H):
  ∃W:Nat->Nat->List V->Hp->Prop,(∃m,W 0 m [] H)/\∀i m ys H,W i m ys H->ys.length<=sizeLine/\(((Itr lo n).stop i H/\R ys H)\/((Itr lo n).go i H/\∃N:List V->Hp->Prop,(∀ys' H',N ys' H'->∃m',m'<m/\W (i+1) m' ys' H')/\∀v H',(Itr lo n).yld i H v H'->
   tt (capσ caps σ (some v)) H' λb H2=>if b=true then te (capσ caps σ (some v)) H2 λy H3=>N (ys++ [y]) H3 else N ys H2)):=by
 refine⟨λi m ys H=>m=n - i/\i<=n/\Pv i ys H,⟨n,by simp,zero_le _,h0⟩, ?_⟩;rintro i m ys H ⟨rfl,hi,p⟩;refine⟨hl i ys H hi p, ?_⟩;by_cases a:i<n
 ·refine .inr ⟨a,Pv (i+1),λys' H' p'=>⟨n - (i+1),by omega,rfl,a,p'⟩,λx H' y=> ?_⟩;obtain⟨e,y⟩:=y;subst e y;exact hs i ys _ a p
 ·have e:i=n:=by omega
  subst e;exact .inl ⟨le_refl _,hd ys H p⟩
theorem CT{X:Cx}
  (CS:CompScope N sc scope x caps ns)(hN':X.N=N)(hsc:X.env.scope=sc)(hc:X.calm=true)(hi:PI X (.Name x px) iter wi)
  (ht:∀cl C s H fp,PTs (X.comp (x::ns) scope cl C s H fp) ifs tt)(he:∀cl C s H fp,PE (X.comp (x::ns) scope cl C s H fp) elt te)
  (hs:∀v,foldedSetIterable iter X.env v=pure v:=by intro _;rfl):
  PE X (.ListComp elt [⟨.Name x px,iter,ifs,0⟩] scope pos) (bdZ wi caps tt te):=by
 intro a s σ H Q I h;subst hN';subst hsc;rw[eval_ListComp];refine GL CS hc hi ht he hs I h ?_;rintro D C s' H' ys I' hD r ⟨m,hn⟩ c1 c2 c3 c4 c5;exact⟨m,hn,λh' c=>⟨.ref D,_,I'.turned (t':=s'.toks) (λb o hb e=>(c.2 b hb).trans e) c1 c2 (.inr c3) c4 c5,rfl,r D hD⟩⟩
theorem N3{X:Cx}{i:Nat}{y:Str}{spos:Pos}(hN:X.N.Nodup)(hi:X.N[i]? =some y)
  (hy:X.env.scope.names.lookup y=some .local)(CS:CompScope N sc scope x caps ns)(hN':X.N=N)(hsc:X.env.scope=sc)(hc:X.calm=true)(hit:PI X (.Name x px) iter wi)
  (ht:∀cl C s H fp,PTs (X.comp (x::ns) scope cl C s H fp) ifs tt)(he:∀cl C s H fp,PE (X.comp (x::ns) scope cl C s H fp) elt te)
  (hsw:swapsWith (.ListComp elt [⟨.Name x px,iter,ifs,0⟩] scope pos) (some (.Name y py)) spos.line X.env=pure true:=by rfl)
  (hs:∀v,foldedSetIterable iter X.env v=pure v:=by intro _;rfl):
  PS X (.Assign [.Name y py] (.ListComp elt [⟨.Name x px,iter,ifs,0⟩] scope pos) spos) (adZ (bdZ wi caps tt te) (KS i)):=by
 intro c s σ H D I h;subst hN';subst hsc;rw[exec_Assign_Name_used _ _ _ _ hsw];refine bZ (wpAny_standAt (bZ ?_));show wpAny _ X.A (do let _<-comprehension (.ListComp elt [⟨.Name x px,iter,ifs,0⟩] scope pos) scope X.env _ (newList []) false (eval iter X.env) (some (assign (.Name y py) X.env))) _ _ s;refine bZ (wpAny_mono (GL (use:=some (assign (.Name y py) X.env)) (Q:=λ_ s'=>SP X c D .next s') CS hc hit ht he hs I h ?_) (λ_ s' hq=>pZ (pZ hq)) λ_ _ e=>e);rintro D' C s' H' ys I' hD r ⟨m,hn⟩ c1 c2 c3 c4 c5;show wpAny _ _ (assign (.Name y py) X.env (.ref D')) _ _ s';refine wpAny_assign_Name (GQ (v:=.ref D') I' hN hi (.inl hy) rfl (λd j ⟨a,sb,ha⟩=> ?_) (.inr hy));have g:C≠a:=by
  rcases ha with e|e
  ·rw[e];exact c2
  ·exact Ne.symm (c4 y a e)
 exact⟨m,hn.sameBut sb g,λh' f=>⟨_,_,j.turned (t':=d.toks) (λb o hb e=>(f.2 b hb).trans e) c1 c2 (.inr c3) c4 c5,r D' hD⟩⟩
end
theorem NP:bootBuiltins "len"=some (.builtin "len"):=by decide +kernel
theorem UI:bootBuiltins "max"=some (.builtin "max"):=by decide +kernel
theorem C8:bootBuiltins "isinstance"=some (.builtin "isinstance"):=by decide +kernel
theorem byZ:bootBuiltins "abs"=some (.builtin "abs"):=by decide +kernel
theorem bPZ:bootBuiltins "all"=some (.builtin "all"):=by decide +kernel
theorem bIZ:bootBuiltins "sum"=some (.builtin "sum"):=by decide +kernel
theorem SL:bootBuiltins "sorted"=some (.builtin "sorted"):=by decide +kernel
theorem J8:bootBuiltins "list"=some (.type "list"):=by decide +kernel
theorem J6:bootBuiltins "tuple"=some (.type "tuple"):=by decide +kernel
theorem MQ:bootBuiltins "int"=some (.type "int"):=by decide +kernel
theorem IN:bootBuiltins "bool"=some (.type "bool"):=by decide +kernel
theorem UP:bootBuiltins "str"=some (.type "str"):=by decide +kernel
section
theorem RH{X:Cx}(hc:X.calm=true):CallR X (.builtin "max") (λxs H Q=>∃(p:Addr) (ns:List Int),xs=[.ref p]/\SqL X.K H p (ns.map V.int)/\0<ns.length/\∀M:Int,M∈ns->(∀a∈ns,a<=M)->Q (.int M) H):=by
 intro c s σ H vs us Q I r h;obtain⟨p,ns,rfl,hS,g,q⟩:=h;obtain⟨u,rfl,ru⟩:=W8 r;cases ru;obtain⟨d,rv,pl,hz⟩:=I.list hS;have hi:IntsAre d ns:=MK rv;obtain⟨xs,e⟩:=hi.allInts.items;have b:ns=xs.toList.map (·.1):=by
  rw[<-hi.numsOf,<-nums_intItems,<-e]
 have f:0<xs.size:=by
  have h3:=g;rw[b,length_map,Array.length_toList]at h3;exact h3
 have hl:=pl.isList;rw[e]at hl;refine max_intList (I.ok.hd hc) hl f λv h' tk hv hk=> ?_;obtain⟨t,rfl⟩:=intItems_at hv;obtain⟨h1,h2⟩:=argBest_gt (numAt xs) (xs.size - 1);refine⟨.int _,H,I.kept hk,⟨_,rfl⟩,q _ ?_ λa ha=> ?_⟩
 ·rw[b,numAt_eq];exact getD_mem (by rw[length_map,Array.length_toList];omega)
 ·rw[b]at ha;obtain⟨j,hj,rfl⟩:=mem_getD ha;rw[length_map,Array.length_toList]at hj;rw[<-numAt_eq];exact h2 j (by omega)
theorem VA{X:Cx}(hc:X.calm=true):CallR X (.builtin "max") (λxs H Q=>(∃i j,xs=[.int i,.int j]/\Q (.int (if j>i then j else i)) H)\/
  (∃(p:Addr) (ns:List Int),xs=[.ref p]/\SqL X.K H p (ns.map V.int)/\0<ns.length/\∀M:Int,M∈ns->(∀a∈ns,a<=M)->Q (.int M) H)):=(QU hc).or (RH hc)
theorem op_mul_str:OpR X (binaryOp .Mult) (λx y H Q=>∃i n,x=.str i/\y=.int n/\0<=n/\n<=16777216/\i.length*n.toNat<=16777216/\Q (.str (Txt.mul i n)) H):=by
 intro a s σ H x y v u Q I rx ry h;obtain⟨i,n,rfl,rfl,h0,h1,h2,q⟩:=h;obtain⟨t,rfl⟩:=rx;obtain⟨t',rfl⟩:=ry;exact SB.mul (mulOk_of i.length n.toNat (le_refl _) (by omega) (by omega) (by omega) h2) λb k=>⟨.str _,H,I.tok _,⟨_,rfl⟩,q⟩
noncomputable def X6:V->Bool
 | .byt _=>false
 | .flt _=>false
 |_=>true
theorem AY(r:RelV x u)(r':RelV x v)(hx:X6 x=true):SeqAt.EqAt A s u v true:=by
 cases x with
 |non=>cases r;cases r';exact SeqAt.EqAt.same _
 |bl b=>cases r;cases r';exact SeqAt.EqAt.same _
 |int i=>
  obtain⟨t,rfl⟩:=r;obtain⟨t',rfl⟩:=r';have:=SeqAt.EqAt.int_int (A:=A) (s:=s) i t i t'
  simpa using this
 |str i=>
  obtain⟨t,rfl⟩:=r;obtain⟨t',rfl⟩:=r';have:=SeqAt.EqAt.str_str (A:=A) (s:=s) i t i t'
  simpa using this
 |ref a=>cases r;cases r';exact SeqAt.EqAt.same _
 |ty n=>cases r;cases r';exact SeqAt.EqAt.same _
 |byt b=>cases hx
 |flt b=>cases hx
theorem FY(r:Vals xs us)(r':Vals xs vs)(hx:xs.all X6=true)(j:Nat)(h1:j<us.toArray.size)(h2:j<vs.toArray.size):SeqAt.EqAt A s us.toArray[j] vs.toArray[j] true:=by
 have hj:j<xs.length:=by rw[r.length];simpa using h1
 obtain⟨u,hu,ru⟩:=r.get (i:=j) (x:=xs[j]) (by simp[hj]);obtain⟨v,hv,rv⟩:=r'.get (i:=j) (x:=xs[j]) (by simp[hj]);have e1:us.toArray[j]=u:=by
  have:us[j]? =some us.toArray[j]:=by simp
  rw[hu]at this;exact(Option.some.inj this).symm
 have e2:vs.toArray[j]=v:=by
  have:vs[j]? =some vs.toArray[j]:=by simp
  rw[hv]at this;exact(Option.some.inj this).symm
 rw[e1,e2];have hp:=all_eq_true.mp hx xs[j] (getElem_mem hj);exact AY ru rv hp
inductive rEqL (Z:FZ) (k:Bool) (x:V) (y:V) (H:Hp) (Q:VK):Prop
 |mk:∀a b xs,(x=.ref a)->(y=.ref b)->(SqL Z H a xs)->(SqL Z H b xs)->(xs.all X6=true)->(Q (.bl k) H)->rEqL Z k x y H Q
theorem bFZ{X:Cx}(hu:X.A.units<cLine):OpR X (compareOp .Eq) (rEqL X.K true):=by
 intro g s σ H x y v u Q I rx ry h;obtain⟨a,b,xs,rfl,rfl,ha,hb,hp,q⟩:=h;cases rx;cases ry;obtain⟨d,r,pl,_⟩:=I.list ha;obtain⟨c,r2,f,_⟩:=I.list hb;have hl:d.length=c.length:=by rw[<-r.length,<-r2.length]
 refine SeqAt.eq_listAt (e:=λ_=>true) pl.isList f.isList (by simpa using hl) hu (λj h1 h2=>FY r r2 hp j h1 h2) ⟨.bl true,H,I, ?_,q⟩;have:((List.range d.toArray.size).all λ_=>true)=true:=by simp
 rw[this];rfl
theorem UH{X:Cx}(hu:X.A.units<cLine):OpR X (compareOp .NotEq) (rEqL X.K false):=by
 intro g s σ H x y v u Q I rx ry h;obtain⟨a,b,xs,rfl,rfl,ha,hb,hp,q⟩:=h;cases rx;cases ry;obtain⟨d,r,pl,_⟩:=I.list ha;obtain⟨c,r2,f,_⟩:=I.list hb;have hl:d.length=c.length:=by rw[<-r.length,<-r2.length]
 refine SeqAt.RcNeAt.lists (e:=λ_=>true) pl.isList f.isList (by simpa using hl) hu (λj h1 h2=>FY r r2 hp j h1 h2) X.prog X.w X.xe _ ⟨.bl false,H,I, ?_,q⟩;have:((List.range d.toArray.size).all λ_=>true)=true:=by simp
 rw[this];rfl
inductive rIsi (Z:FZ) (xs:List V) (H:Hp) (Q:VK):Prop
 |mk:∀x c t b,(xs=[x,.ty c])->(TyOf Z H x t)->(kitOne Z t (.type c)=some b)->(Q (.bl b) H)->rIsi Z xs H Q
theorem VG:CallR X (.builtin "isinstance") (rIsi X.K):=by
 intro a s σ H xs us Q I r h;obtain⟨x,c,t,b,rfl,ty,hk,q⟩:=h;obtain⟨u,v,rfl,ru,rv⟩:=OG r;cases rv;exact RF I ru ty hk λtk=>⟨.bl b,H,I.tok _,rfl,q⟩
structure TopD (w:World) (Z:FZ) (a:Addr) (kvs:List (Str×V)):Prop where
 ex:∃(es:Array DictEntry) (n:Nat),Z.lookup a=some ⟨.type "dict",none,.dict es n, #[]⟩/\PySem.W.KeysLit w.params es.toList/\Paired (λ(p:Str×V) (e:DictEntry)=>(∃t,e.key=.str p.1 t)/\RelV p.2 e.val) kvs es.toList
 lo:(a==sysModules)=false
theorem BK:∀ {kvs:List (Str×V)} {es:List DictEntry},Paired (λ(p:Str×V) (e:DictEntry)=>(∃t,e.key=.str p.1 t)/\RelV p.2 e.val) kvs es->
  RelO (kvs.lookup x) ((es.find? λe=>Value.isStrOf x e.key).map (·.val))
 |_,_,.nil=>trivial
 |(k,v)::kvs,e::es,.cons ⟨⟨t,hk⟩,rv⟩ r=>by
  have a:e.key=.str k t:=hk;rw[lookup_cons,find?_cons,a];by_cases hx:x=k
  ·subst hx;have h1:Value.isStrOf x (.str x t)=true:=by simp[Value.isStrOf]
   rw[h1,beq_self_eq_true];exact rv
  ·have h1:Value.isStrOf x (.str k t)=false:=by
    cases h:Value.isStrOf x (.str k t)with
    |false=>rfl
    |true=>
     obtain⟨t',e'⟩:=Value.isStrOf_shape (x:=x) (v:=.str k t) h;injection e' with e1 _
     exact absurd e1.symm hx
   have h2:(x==k)=false:=beq_eq_false_iff_ne.mpr hx;rw[h1,h2];exact BK r
theorem TopD.map(T:TopD w Z a kvs)(_K:Z.In h):
  ∃f:Str->Option Value,h.MapOf (strKind prog w) a f/\∀x,RelO (kvs.lookup x) (f x):=by
 obtain⟨es,n,hl,hk,hp⟩:=T.ex;refine⟨λk=>findBy Value.isStrOf es k,PySem.W.mapOf_K _K hl hk,λx=> ?_⟩;have q:=BK (x:=x) hp;show RelO (List.lookup x kvs) ((es.find? λe=>Value.isStrOf x e.key).map (·.val));rw[<-Array.find?_toList];exact q
inductive rIxTop (w:World) (Z:FZ) (x:V) (y:V) (H:Hp) (Q:VK):Prop
 |mk:∀a k kvs v,(x=.ref a)->(y=.str k)->(TopD w Z a kvs)->(kvs.lookup k=some v)->(Q v H)->rIxTop w Z x y H Q
theorem bEZ:IxR X (rIxTop X.w X.K):=by
 intro b c d s σ H x y v u Q I rx ry h hs;obtain⟨a,k,g,z,rfl,rfl,T,hz,q⟩:=h;cases rx;obtain⟨t,rfl⟩:=ry;obtain⟨f,hm,hf⟩:=T.map (prog:=X.prog) I.kIn;have hr:=hf k;rw[hz]at hr;obtain⟨w',e,r⟩:=hr.some_of;exact tail_any hm.typeIs slot_dict_getitem.lookup (wpAny_getItem_of (strKind_is X.prog X.w k t) hm e ⟨z,H,I.tok _,r,q⟩) hs
theorem SE:OpR X (compareOp .In) (λx y H Q=>∃k a kvs,x=.str k/\y=.ref a/\TopD X.w X.K a kvs/\Q (.bl (kvs.lookup k).isSome) H):=by
 intro b s σ H x y v u Q I rx ry h;obtain⟨k,a,kvs,rfl,rfl,T,q⟩:=h;cases ry;obtain⟨t,rfl⟩:=rx;obtain⟨f,hm,hf⟩:=T.map (prog:=X.prog) I.kIn;have hr:=hf k;have e:(f k).isSome=(kvs.lookup k).isSome:=by
  cases h1:kvs.lookup k with
  |none=>rw[h1]at hr;rw[hr.none_of];rfl
  |some z=>rw[h1]at hr;obtain⟨w',e,_⟩:=hr.some_of;rw[e];rfl
 exact wpAny_in_of (strKind_is X.prog X.w k t) T.lo hm ⟨.bl _,H,I.tok _,by rw[e];rfl,q⟩
theorem YO{X:Cx}:OpR X (binaryOp .Add) (λx y H Q=>rI0 (λi j=> .int (i+j)) x y H Q\/(∃i j,x=.str i/\y=.str j/\i.length+j.length<=sizeLine/\Q (.str (i++j)) H)\/rCat x y H Q):=op_add.or (op_add_str.or op_cat)
theorem EU:OpR X (binaryOp .Mult) (λx y H Q=>rI CMul (λi j=> .int (i*j)) x y H Q\/(∃i n,x=.str i/\y=.int n/\0<=n/\n<=16777216/\i.length*n.toNat<=16777216/\Q (.str (Txt.mul i n)) H)\/dKZ x y H Q):=op_mul.or (op_mul_str.or bAZ)
theorem uEq{X:Cx}(hu:X.A.units<cLine):OpR X (compareOp .Eq) (λx y H Q=>rEq x y H Q\/rEqL X.K true x y H Q):=op_eq.or (bFZ hu)
theorem uNe{X:Cx}(hu:X.A.units<cLine):OpR X (compareOp .NotEq) (λx y H Q=>rNe x y H Q\/rEqL X.K false x y H Q):=op_ne.or (UH hu)
theorem uIn:OpR X (compareOp .In) (λx y H Q=>(∃i j,x=.str i/\y=.str j/\Q (.bl (!(Builtin.Str.occurrences j i 0 j.length 1).isEmpty)) H)\/rIn X.K false x y H Q\/(∃k a kvs,x=.str k/\y=.ref a/\TopD X.w X.K a kvs/\Q (.bl (kvs.lookup k).isSome) H)):=op_in_str.or (op_in_seq.or SE)
theorem bVZ:IxR X (λx y H Q=>rIxL X.K x y H Q\/rIxT X.K x y H Q\/rIxS x y H Q\/rIxTop X.w X.K x y H Q):=ix_list.or (ix_tup.or (ix_str.or bEZ))
theorem sl_any:SlR X (λx lo hi H Q=>rSlL X.K x lo hi H Q\/rSlT X.K x lo hi H Q):=sl_list.or b0Z
inductive tCut (t:TS) (D:Ends) (σ:St) (H:Hp):Prop
 |mk:∀R:St->Hp->Prop,(t {D with nx:=R} σ H)->(∀σ' H',R σ' H'->D.nx σ' H')->tCut t D σ H
theorem D3{st:Stmt}(h:PS X st t):PS X st (tCut t):=λa s σ H D I ⟨R,q,hR⟩=>thn (h a s σ H _ I q) λf s' hs=>by
 cases f with
 |next=>obtain⟨σ',H',I',r⟩:=hs;exact⟨σ',H',I',hR σ' H' r⟩
 |brk=>exact hs
 |cont=>exact hs
 |ret v=>exact hs
theorem kEq{X:Cx}{Z:FZ}(hu:X.A.units<cLine)(hK:X.K=Z:=by rfl):OpR X (compareOp .Eq) (λx y H Q=>rEq x y H Q\/rEqL Z true x y H Q):=by subst hK;exact uEq hu
theorem kNe{X:Cx}{Z:FZ}(hu:X.A.units<cLine)(hK:X.K=Z:=by rfl):OpR X (compareOp .NotEq) (λx y H Q=>rNe x y H Q\/rEqL Z false x y H Q):=by subst hK;exact uNe hu
theorem kIn{X:Cx}{Z:FZ}{w:World}(hK:X.K=Z:=by rfl)(hw:X.w=w:=by rfl):OpR X (compareOp .In) (λx y H Q=>(∃i j,x=.str i/\y=.str j/\Q (.bl (!(Builtin.Str.occurrences j i 0 j.length 1).isEmpty)) H)\/rIn Z false x y H Q\/(∃k a kvs,x=.str k/\y=.ref a/\TopD w Z a kvs/\Q (.bl (kvs.lookup k).isSome) H)):=by
 subst hK;subst hw;exact uIn
theorem kIx{X:Cx}{Z:FZ}{w:World}(hK:X.K=Z)(hw:X.w=w):IxR X (λx y H Q=>rIxL Z x y H Q\/rIxT Z x y H Q\/rIxS x y H Q\/rIxTop w Z x y H Q):=by subst hK;subst hw;exact bVZ
theorem dnZ{X:Cx}{Z:FZ}(hK:X.K=Z):CallR X (.builtin "len") (rLen Z):=by subst hK;exact WX
theorem P8{X:Cx}{Z:FZ}(hK:X.K=Z:=by rfl):CallR X (.type "list") (λxs H Q=>∃p ys,xs=[.ref p]/\(SqL Z H p ys\/SqT Z H p ys)/\∀l,H l=none->Q (.ref l) (upd H l (.lst ys))):=by subst hK;exact IE
theorem Z1{X:Cx}{Z:FZ}(hK:X.K=Z:=by rfl):CallR X (.type "tuple") (λxs H Q=>∃p ys,xs=[.ref p]/\((SqL Z H p ys/\∀l,H l=none->Q (.ref l) (upd H l (.tup ys)))\/SqT Z H p ys/\Q (.ref p) H)):=by subst hK;exact FA
theorem aTZ{X:Cx}{Z:FZ}(hc:X.calm=true)(hK:X.K=Z:=by rfl):CallR X (.builtin "max") (λxs H Q=>(∃i j,xs=[.int i,.int j]/\Q (.int (if j>i then j else i)) H)\/
  (∃(p:Addr) (ns:List Int),xs=[.ref p]/\SqL Z H p (ns.map V.int)/\0<ns.length/\∀M:Int,M∈ns->(∀a∈ns,a<=M)->Q (.int M) H)):=by subst hK;exact VA hc
theorem M4{X:Cx}{Z:FZ}(hK:X.K=Z:=by rfl):CallR X (.builtin "isinstance") (rIsi Z):=by subst hK;exact VG
theorem DL{Z:FZ}{apos cpos:Pos}{id:String}(pa:PlainAttrs T)(slot:Slot T name id)(hty:typeOf (.builtin id)=pure (.type "method_descriptor"))(hm:MtR X id r)(ho:PE X o to)(hK:X.K=Z:=by rfl)
  (hbase:attributeBase o name X.env (eval o X.env)=eval o X.env:=by rfl)(hline:(apos.endLine==cpos.line)=true:=by rfl):PE X (.Call (.Attribute o name apos) [] [] cpos) (dLZ Z T r to):=by
 subst hK;exact b9Z pa slot hty hm ho hbase hline
theorem RO{Z:FZ}{e:Expr}{es:List Expr}{apos:Pos}{id:String}(pa:PlainAttrs T)(slot:Slot T name id)(hty:typeOf (.builtin id)=pure (.type "method_descriptor"))(hm:MtR X id r)(ho:PE X o to)(ha:PA X (e::es) t)(hK:X.K=Z:=by rfl)
  (hbase:attributeBase o name X.env (eval o X.env)=eval o X.env:=by rfl)
  (hfew:((backTo cpos (starEach (e::es) X.env)).all (λx=> !x.1)&&(backToKw cpos (keywordEach [] X.env)).all (λx=>x.1.isSome)
   &&decide ((e::es).length+([]:List Keyword).length+(if([]:List Keyword).isEmpty then 0 else 1)<30))=true:=by rfl)
  (hline:(apos.endLine==cpos.line)=true:=by rfl)(hs:starEach (e::es) X.env=(false,eval e X.env)::starEach es X.env:=by rfl)(hplain:(backTo cpos (starEach es X.env)).any (·.1)=false:=by rfl):
  PE X (.Call (.Attribute o name apos) (e::es) [] cpos) (tBM Z T r to t):=by
 subst hK;exact c1Z pa slot hty hm ho ha hbase hfew hline hs hplain
theorem P7{Z:FZ}{tl:TE}(hl:PE X l tl)(hK:X.K=Z:=by rfl):PI X tg l (beZ Z tl):=by subst hK;exact YI hl
noncomputable def dzZ(Z:FZ)(ta:TE):TT:=fun σ H Q=>ta σ H λx H'=>∃k,cnZ Z x H' k/\Q k H'
theorem E9{Z:FZ}(ha:PE X e te)(he:∀whole,isTrue e X.env whole=(do let v<-whole;standAt e.pos;holding [v] (truthy v)))(hK:X.K=Z:=by rfl):PT X e (dzZ Z te):=by subst hK;exact TR ha he
end
theorem AT{σ:St}{H:Hp}{A B:Hp->Prop}(h:A H):PC σ H (λb H2=>if b=true then A H2 else B H2):=by
 show if true=true then A H else B H
 rw[if_pos rfl];exact h
theorem EF(xs:List V)(k:Nat):G8 xs (some (k:Int)) none=xs.drop k:=by
 unfold G8;rw[HT.sIx_nat,HT.sIx_none];by_cases h:k<=xs.length
 ·rw[min_eq_left h,take_of_length_le (by simp)]
 ·rw[min_eq_right (by omega),drop_eq_nil_of_le (le_refl _),drop_eq_nil_of_le (by omega)];simp
theorem NB(xs:List V)(k:Nat):G8 xs none (some (k:Int))=xs.take k:=by
 unfold G8;rw[HT.sIx_nat,HT.sIx_none];simp only[List.drop_zero,sub_zero];by_cases h:k<=xs.length
 ·rw[min_eq_left h]
 ·rw[min_eq_right (by omega),take_of_length_le (le_refl _),take_of_length_le (by omega)]
theorem JS(xs:List V)(a b:Nat):G8 xs (some (a:Int)) (some (b:Int))=(xs.drop a).take (b - a):=by
 unfold G8;rw[HT.sIx_nat,HT.sIx_nat];by_cases ha:a<=xs.length
 ·rw[min_eq_left ha];by_cases hb:b<=xs.length
  ·rw[min_eq_left hb]
  ·rw[min_eq_right (by omega),take_of_length_le (by simp),take_of_length_le (by simp;omega)]
 ·rw[min_eq_right (Nat.le_of_not_le ha),drop_eq_nil_of_le (le_refl _),drop_eq_nil_of_le (Nat.le_of_not_le ha)];simp
section
end
section
end
section
end
noncomputable abbrev TEX:=St->Hp->VK->XK->Prop
noncomputable abbrev TSX:=Ends->(St->XK)->St->Hp->Prop
section
end
section
end
section
noncomputable def d4Z:V->Option Int->Option Int->Hp->VK->Prop:=λx lo hi H Q=>∃z,x=.str z/\z.length<=sizeLine/\Q (.str (Txt.slice z lo hi)) H
theorem OD(p:IsPart v k):∃o:Option (Int×Tok),partValue o=v/\o.map (·.1)=k:=by
 cases p with
 |none=>exact⟨none,rfl,rfl⟩
 |int i t=>exact⟨some (i,t),rfl,rfl⟩
theorem bYZ:SlR X d4Z:=by
 intro a s σ H x v vl vu lo hi sl Q I rx hs pl pu h;obtain⟨z,rfl,hz,q⟩:=h;obtain⟨t,rfl⟩:=rx;obtain⟨l,el,ml⟩:=OD pl;obtain⟨u,eu,mu⟩:=OD pu;refine⟨"str",_,F.slot_str_getitem.lookup,typeIs_str _ _ _, ?_⟩;obtain⟨o,h1,h2,h3⟩:=hs;refine wpAny_getItem_str_slice (l:=l) (u:=u) (st:=none) ⟨o,h1,h2,by rw[el,eu];exact h3⟩ rfl ?_;have e:sliceMade z t l u none=if((1:Int)==1&&(Builtin.Str.strSliceIndices lo hi 1 z.length).length==z.length)=true then .val (.str z t)else .str ⟨((Builtin.Str.strSliceIndices lo hi 1 z.length).filterMap (z.cps[·]?)).toArray⟩:=by
  subst ml mu;rfl
 rw[e];refine post_val_or_str ⟨le_trans (Txt.slice_le z lo hi) hz,λt' k=> ?_⟩;exact⟨.str (Txt.slice z lo hi),H,I.tok _,⟨_,rfl⟩,q⟩
theorem QZ{bs:List Bool}(r:Vals (bs.map V.bl) its){i:Nat}{v:Value}(e:its[i]? =some v):v=.bool (bs.getD i false):=by
 have hl:=r.length;obtain⟨hi,_⟩:=List.getElem?_eq_some_iff.mp e;have hb:i<bs.length:=by rw[length_map]at hl;omega
 have hx:(bs.map V.bl)[i]? =some (V.bl (bs.getD i false)):=by simp[hb]
 obtain⟨u,e2,ru⟩:=r.get hx;rw[e]at e2;cases e2;exact ru
theorem RN(bs:List Bool):((List.range bs.length).all λi=>bs.getD i false)=bs.all id:=by
 rw[Bool.eq_iff_iff,all_eq_true,all_eq_true];constructor
 ·intro h x hx;obtain⟨i,hi,e⟩:=List.getElem_of_mem hx;have:=h i (mem_range.mpr hi)
  simpa [getD_eq_getElem?_getD,List.getElem?_eq_getElem hi,e]using this
 ·intro h i hi;have hi:=mem_range.mp hi;have:=h bs[i] (getElem_mem hi)
  simpa [getD_eq_getElem?_getD,List.getElem?_eq_getElem hi]using this
theorem RV{X:Cx}(hc:X.calm=true):CallR X (.builtin "all") (λxs H Q=>∃(p:Addr) (bs:List Bool),xs=[.ref p]/\SqL X.K H p (bs.map V.bl)/\Q (.bl (bs.all id)) H):=by
 intro d s σ H vs us Q I r h;obtain⟨p,bs,rfl,hS,q⟩:=h;obtain⟨u,rfl,ru⟩:=W8 r;cases ru;obtain⟨a,rv,pl,hz⟩:=I.list hS;have hl:a.length=bs.length:=by have:=rv.length;rw[length_map]at this;omega
 refine call_all_walk (wpAny_pyIter_list pl.isList ?_);obtain⟨ol,el,cl,dl⟩:=id pl.isList;have c:p≠s.heap.objs.size:=ne_of_lt (lt_size el);have W:=Walks.list (prog:=X.prog) (w:=X.w) (A:=X.A.in1) (show X.A.in1.handled=none from I.ok.hd hc) s.heap.objs.size p c a.toArray;refine⟨s.heap.objs.size,[s.heap.objs.size,p],[s.heap.objs.size],a.toArray.size,_,_,λi=>bs.getD i false,rfl,W,⟨⟨_,get?_push_size _ rfl,rfl,rfl⟩,⟨ol,gZ _ el,cl,dl⟩⟩, ?_, ?_⟩
 ·intro i v s' Q' E' hP hQ;have e:v=.bool (bs.getD i false):=QZ rv (by simpa using hP);subst e;exact pZ hQ
 ·intro h' tk hk;have e:((List.range a.toArray.size).all λi=>bs.getD i false)=bs.all id:=by
   rw[size_toArray,hl];exact RN bs
  rw[e];refine⟨.bl (bs.all id),H,I.kept (t':=tk) λb o e=>hk b o (λz=> ?_) (gZ _ e),rfl,q⟩;have z':b=s.heap.objs.size:=by simpa using z
  subst z';exact absurd (lt_size e) (lt_irrefl _)
theorem dlZ{X:Cx}{Z:FZ}(hc:X.calm=true)(hK:X.K=Z:=by rfl):CallR X (.builtin "all") (λxs H Q=>∃(p:Addr) (bs:List Bool),xs=[.ref p]/\SqL Z H p (bs.map V.bl)/\Q (.bl (bs.all id)) H):=by subst hK;exact RV hc
end
noncomputable abbrev tx(l:List Nat):Str:=⟨l.toArray⟩
theorem MG(l:List Nat):(tx l).length=l.length:=by simp[Str.length]
theorem AQ(h:tx a=tx b):a=b:=by
 have:=congrArg (λs:Str=>s.cps.toList) h
 simpa using this
end _L
namespace PySem
end PySem
namespace _L
open PySem PySem.Spec PyProof.Rows
section
theorem HN(ns:List Nat):∀j,j<=ns.length->preSum (λi=>((ns.getD i 0:Nat):Int)) j=(((ns.take j).sum:Nat):Int)
 |0,_=>by simp[preSum]
 |j+1,h=>by
  have ih:=HN ns j (by omega);have hj:j<ns.length:=by omega
  show preSum (λi=>((ns.getD i 0:Nat):Int)) j+((ns.getD j 0:Nat):Int)=_;rw[ih,take_succ_eq_append_getElem hj,sum_append];simp[getD_eq_getElem?_getD,List.getElem?_eq_getElem hj]
theorem ON(ns:List Nat)(j:Nat):(ns.take j).sum<=ns.sum:=by
 have h:=congrArg List.sum (take_append_drop j ns);rw[sum_append]at h;omega
theorem YD{ns:List Nat}(r:Vals (ns.map λn=>V.int (n:Nat)) its){i:Nat}{v:Value}(e:its[i]? =some v):∃t,v=.int ((ns.getD i 0:Nat):Int) t:=by
 have hl:=r.length;obtain⟨hi,_⟩:=List.getElem?_eq_some_iff.mp e;have hb:i<ns.length:=by rw[length_map]at hl;omega
 have hx:(ns.map λn=>V.int (n:Nat))[i]? =some (V.int ((ns.getD i 0:Nat):Int)):=by simp[hb]
 obtain⟨u,e2,ru⟩:=r.get hx;rw[e]at e2;cases e2;exact ru
theorem dbZ{X:Cx}{Z:FZ}(hc:X.calm=true)(hK:X.K=Z:=by rfl):CallR X (.builtin "sum") (λxs H Q=>∃(p:Addr) (ns:List Nat),xs=[.ref p]/\SqL Z H p (ns.map λn=>V.int (n:Nat))/\ns.sum<=1000000/\Q (.int (ns.sum:Nat)) H):=by
 subst hK;intro f s σ H vs us Q I r h;obtain⟨p,ns,rfl,hS,g,q⟩:=h;obtain⟨u,rfl,ru⟩:=W8 r;cases ru;obtain⟨c,rv,pl,hz⟩:=I.list hS;have hl:c.length=ns.length:=by have:=rv.length;rw[length_map]at this;omega
 refine call_sum_walk (wpAny_pyIter_list pl.isList ?_);obtain⟨ol,el,cl,dl⟩:=id pl.isList;have a:=lt_size el;have d:p≠s.heap.objs.size:=ne_of_lt a;have W:=Walks.list (prog:=X.prog) (w:=X.w) (A:=X.A.in1) (show X.A.in1.handled=none from I.ok.hd hc) s.heap.objs.size p d c.toArray;refine⟨s.heap.objs.size,[s.heap.objs.size,p],[s.heap.objs.size],c.toArray.size,_,_,λi=>((ns.getD i 0:Nat):Int),rfl,W,⟨⟨_,get?_push_size _ rfl,rfl,rfl⟩,⟨ol,gZ _ el,cl,dl⟩⟩, ?_, ?_, ?_, ?_⟩
 ·intro b hb;simp only[mem_cons,not_mem_nil,or_false]at hb;rw[size_push];rcases hb with rfl|rfl
  ·exact lt_succ_self _
  ·exact Nat.lt_succ_of_lt a
 ·intro i v hP;exact YD rv (by simpa using hP)
 ·intro j hj;have hj:j<ns.length:=by rw[size_toArray,hl]at hj;exact hj
  have h1:=ON ns (j+1);have h2:=ON ns j;have e:(ns.take (j+1)).sum=(ns.take j).sum+ns[j]:=by rw[take_succ_eq_append_getElem hj,sum_append];simp
  have hg:ns.getD j 0=ns[j]:=by simp[getD_eq_getElem?_getD,List.getElem?_eq_getElem hj]
  rw[HN ns (j+1) (by omega)];show InLong ((ns.getD j 0:Nat):Int)/\_;rw[hg];unfold InLong;omega
 ·intro h' tk t' hk;have e:preSum (λi=>((ns.getD i 0:Nat):Int)) c.toArray.size=((ns.sum:Nat):Int):=by
   rw[size_toArray,hl,HN ns ns.length (le_refl _),take_length]
  rw[e];refine⟨.int (ns.sum:Nat),H,I.kept (t':=tk) λb o e=>hk b o (λz=> ?_) (gZ _ e),⟨_,rfl⟩,q⟩;have z':b=s.heap.objs.size:=by simpa using z
  subst z';exact absurd (lt_size e) (lt_irrefl _)
end
theorem BQ:bootBuiltins "reversed"=some (.type "reversed"):=by decide +kernel
noncomputable def Itv(Z:FZ)(a:Addr)(n:Nat):It:=
 ⟨λi H=>∃xs x,SqL Z H a xs/\xs.reverse[i]? =some x/\xs.length=n,λi H x H'=>H'=H/\∀xs,SqL Z H a xs->xs.reverse[i]? =some x,λi _=>i=n⟩
theorem UJ(a it:Addr)(n:Nat):Turn P w Z tg (Itv Z a n) [it] it (λi h=>h.IsRevIter it a ((n:Int) - 1 - (i:Int))) where
 mem:=by simp
 obj:=λi h st b hb=>by
  have e:b=it:=by simpa using hb
  subst e;obtain⟨o,e,c,d⟩:=st;exact⟨o,e,λv z=>by rw[d]at z;cases z⟩
 keep:=λi h h' st k=>st.at λo e=>k it (by simp) o e
 item:=by
  intro X hP hw hK hc i f s σ H E I hf st hg;subst hP hw hK;obtain⟨xs,x,hq,hx,hn⟩:=hg;obtain⟨m,rv,p,hz⟩:=I.list hq;have l:i<xs.length:=by
   have:=(List.getElem?_eq_some_iff.mp hx).1
   simpa using this
  rw[getElem?_reverse l]at hx;obtain⟨u,hu,ru⟩:=rv.get hx;obtain⟨f0,f1,f2,f3,f4,f5⟩:=hf it (by simp);have e1:(n:Int) - 1 - (i:Int)=((xs.length - 1 - i:Nat):Int):=by omega
  have j:=st;rw[e1]at j;refine wpAny_pyNext_rev_item j p.isList (x:=u) (by simpa using hu) λh' g sb=> ?_;have I1:Inv X f σ H {s with heap:=h'}:=I.turned (t':=s.toks) (λb o hb e=>(sb.2 b hb).trans e) f0 f1 f3 f4 f5;have e2:((xs.length - 1 - i:Nat):Int) - 1=(n:Int) - 1 - ((i+1:Nat):Int):=by omega
  rw[e2]at g;obtain⟨o,e,c,d⟩:=id g;exact⟨u,rfl,PM (s:={s with heap:=h'}) e c d (by decide) ⟨x,H,I1,ru,⟨rfl,λys hy=>by rw[I.list_inj hy hq,getElem?_reverse l];exact hx⟩,g,λb hb=>(hf b hb).1⟩⟩
 done:=by
  intro X hP hw hK hc i f s σ H E I hf st hg;subst hP hw hK;obtain⟨f0,f1,f2,f3,f4,f5⟩:=hf it (by simp);have hi:i=n:=hg;have e1:(n:Int) - 1 - (i:Int)= -1:=by omega
  rw[e1]at st;exact wpAny_pyNext_rev_end (I.ok.hd hc) st λh' eb=>⟨rfl,I.turned (t':=s.toks) (λb o hb e=>eb b o hb e) f0 f1 f3 f4 f5⟩
 self:=λ_ _ _ _ _ st h=>wpAny_pyIter_revIter st h
section
noncomputable def d8Z(Z:FZ)(ta:TA):TI:=fun σ H R=>ta σ H λvs H1=>∃a xs,vs=[.ref a]/\SqL Z H1 a xs/\R (Itv Z a xs.length) H1
theorem cmZ{Z:FZ}{a:Expr}(hg:Gl X "reversed")(hm:X.mg "reversed"=none)(ha:PA X [a] ta)(hK:X.K=Z)(hs:starEach [a] X.env=[(false,eval a X.env)]):PI X tg (.Call (.Name "reversed" p) [a] [] pos) (d8Z Z ta):=by
 subst hK;intro c s σ H R I h;refine Call_ (X4 I hg hm BQ (callWith_type1 (thn (ha pos c s σ H _ I h) λus s1 ⟨vs,H1,I1,r1,q1⟩=> ?_) hs rfl));obtain⟨l,xs,e,hq,q⟩:=q1;subst e;cases r1 with
 |cons r rr=>
  cases rr;cases r;obtain⟨d,rv,pl,hz⟩:=I1.list hq;have hl:d.toArray.size=xs.length:=by rw[size_toArray];exact rv.length.symm
  refine call_reversed_list pl.isList ?_;have st:(s1.heap.push (revObj l ((d.toArray.size:Int) - 1))).IsRevIter s1.heap.objs.size l ((xs.length:Int) - 1 - ((0:Nat):Int)):=⟨_,get?_push_size _ rfl,rfl,by rw[hl];simp[revObj]⟩;refine wpAny_pyIter_revIter st ?_;refine⟨s1.heap.objs.size,[s1.heap.objs.size],_,_,H1,rfl,I1.kept (t':=s1.toks) λb o e=>gZ _ e,UJ l _ xs.length,st,λb hb=> ?_,q⟩;have e:b=s1.heap.objs.size:=by simpa using hb
  subst e;exact I1.fpOk (le_refl _) (I1.hok.fresh (le_refl _))
end
theorem ZO{xs:List V}{g:TG}{tb:TS}{D:Ends}{σ:St}{H:Hp}(Pv:Nat->St->Hp->Prop)(h0:Pv 0 σ H)(hl:∀i σ H,i<=xs.length->Pv i σ H->SqL Z H a xs)
  (hs:∀i x σ H,xs.reverse[i]? =some x->Pv i σ H->g x σ H fun σ2 H2=>tb {D with nx:=Pv (i+1),ct:=Pv (i+1),bk:=D.nx} σ2 H2)(hd:∀σ H,Pv xs.length σ H->D.nx σ H):
  ∃W:Nat->Nat->St->Hp->Prop,(∃m,W 0 m σ H)/\∀i m σ H,W i m σ H->
   ((Itv Z a xs.length).stop i H/\D.nx σ H)\/((Itv Z a xs.length).go i H/\∃N:St->Hp->Prop,(∀σ' H',N σ' H'->∃m',m'<m/\W (i+1) m' σ' H')/\∀x H',(Itv Z a xs.length).yld i H x H'->g x σ H' fun σ2 H2=>tb {D with nx:=N,ct:=N,bk:=D.nx} σ2 H2):=by
 refine⟨λi m σ H=>m=xs.length - i/\i<=xs.length/\Pv i σ H,⟨xs.length,by simp,zero_le _,h0⟩, ?_⟩;rintro i m σ H ⟨rfl,hi,p⟩;have q:=hl i σ H hi p;by_cases c:i<xs.length
 ·have b:i<xs.reverse.length:=by rw[length_reverse];exact c
  refine .inr ⟨⟨xs,xs.reverse[i],q,List.getElem?_eq_getElem b,rfl⟩,Pv (i+1),fun σ' H' p'=>⟨xs.length - (i+1),by omega,rfl,c,p'⟩,λx H' y=> ?_⟩;obtain⟨e,y⟩:=y;subst e;exact hs i x σ _ (y xs q) p
 ·have e:i=xs.length:=by omega
  subst e;exact .inl ⟨rfl,hd σ H p⟩
end _L
namespace PySem
namespace F
theorem nolen_lri:typeLookup (.type "list_reverseiterator") "__len__"=pure none:=by rw[typeLookup_type,builtinLookup_eq_fast];kernel_rfl
theorem hint_lri:typeLookup (.type "list_reverseiterator") "__length_hint__"=pure (some (.builtin "list_reverseiterator.__length_hint__")):=by rw[typeLookup_type,builtinLookup_eq_fast];kernel_rfl
end F
section
noncomputable abbrev U5(items:Array Value):Nat->Value->Prop:=λi v=>items[items.size - 1 - i]? =some v
theorem AU{A:Around}{s:Shared}{R:Result->Shared->Prop}(hh:A.handled=none){items:Array Value}(hit:s.heap.IsRevIter I l ((items.size:Int) - 1))(hl:s.heap.IsList l items)(hne:l≠I)(S:Addr)(res:Value)(c₀:Nat)
  (hS:s.heap.get? S=some {cls:=.type "list",data:=.seq #[] c₀})(hSI:S≠I)(hSl:S≠l)
  (hR:∀h' tk acc' c',(∀b o,b≠S->b≠I->s.heap.get? b=some o->h'.get? b=some o)->h'.get? S=some {cls:=.type "list",dict:=none,data:=.seq acc' c',slots:= #[]}->
   ItemsOf (U5 items) acc' items.size->R (.ok (.ret res)) {s with heap:=h',toks:=tk})(hn:items.size<=sizeLine):
  wpAny (model prog w) A.in1 (Builtin.List.listExtendWith (.ref S) (.ref I) res)
   (λfin s'=>match fin with| .done f=>R (.ok f) s'| .again c'=>c'.quiet=true/\codeAny (model prog w) A c' R s') (λe s'=>R (.error e) s') s:=by
 have j:S∉ [I,l]:=λhm=>by
  rcases cZ hm with e|hm
  ·exact hSI e
  ·exact hSl (sZ hm)
 have W:=(Walks.listRev (prog:=prog) (w:=w) (A:=A.in1) hh I l hne items).toS;have c:s.heap.IsRevIter I l ((items.size:Int) - 1 - ((0:Nat):Int)):=by
  have e:(items.size:Int) - 1 - ((0:Nat):Int)=(items.size:Int) - 1:=by omega
  rw[e];exact hit
 unfold Builtin.List.listExtendWith;refine bZ (wpAny_typeOf (T:="list_reverseiterator") hit.typeIs ?_);have h1:Builtin.List.listSameRef (.ref S) (.ref I)=false:=by simp[Builtin.List.listSameRef,hSI]
 have h2:(Value.type "list_reverseiterator"==Value.type "list")=false:=by decide
 have h3:(Value.type "list_reverseiterator"==Value.type "tuple")=false:=by decide
 simp only[h1,h2,h3,Bool.or_false,Bool.false_eq_true,if_false];refine bZ (wpAny_pyIter_revIter hit ?_);refine bZ (wpAny_holding ?_);unfold Builtin.List.listLengthHint;refine bZ (wpAny_specialOf hit.typeIs F.nolen_lri ?_);show wpAny _ A.in1 (specialOf (Value.ref I) (Str.ofString "__length_hint__")>>=_) _ _ _;refine bZ (wpAny_specialOf hit.typeIs F.hint_lri ?_);generalize g:("list_reverseiterator.__length_hint__":String)=h
 wp_delta
 rw[show splitId h=some ("list_reverseiterator","__length_hint__")from by subst g;decide +kernel];subst g;refine bZ (wpAny_isInstance (b:=true) hit.typeIs (by rw[isSubtype_type];kernel_rfl) ?_);refine pZ ?_;rw[if_neg (by decide)];refine pZ ⟨plainId_quiet F.plain_extend_loop _,codeAny_extend_loopS W hn _ j _ items.size 0 _ _ _ rfl (zero_le _) ⟨zero_le _,c,hl⟩ hS (ItemsOf.nil _) λs' acc' c' hm k d=> ?_⟩;rw[Moved.eq_with hm];refine hR s'.heap s'.toks acc' c' (λb ob hb i e=>hm.heap b ob (λa=> ?_) e) k d;rcases cZ a with e'|a
 ·exact hb e'
 ·exact i (sZ a)
theorem V9{A:Around}{s:Shared}{R:Result->Shared->Prop}(hh:A.handled=none){items:Array Value}(hit:s.heap.IsRevIter I l ((items.size:Int) - 1))(hl:s.heap.IsList l items)(hne:l≠I)(S:Addr)(hSI:S≠I)(hSl:S≠l)
  (hS:s.heap.get? S=some {cls:=.type "list",data:=.seq #[]})
  (hR:∀h' tk acc' c',(∀b o,b≠S->b≠I->s.heap.get? b=some o->h'.get? b=some o)->h'.get? S=some {cls:=.type "list",dict:=none,data:=.seq acc' c',slots:= #[]}->
   ItemsOf (U5 items) acc' items.size->R (.ok (.ret .none)) {s with heap:=h',toks:=tk})(hn:items.size<=sizeLine):
  wpAny (model prog w) A.in1 (Builtin.«list.__init__» ⟨[.ref S,.ref I],[]⟩)
   (λfin s'=>match fin with| .done f=>R (.ok f) s'| .again c'=>c'.quiet=true/\codeAny (model prog w) A c' R s') (λe s'=>R (.error e) s') s:=by
 show wpAny _ _ (do let old<-Builtin.List.listItems (.ref S);Builtin.List.listUpdate (.ref S) (λ_=> #[]);letGo old.toList.reverse;Builtin.List.listExtendWith (.ref S) (.ref I) .none) _ _ s;refine bZ ?_;unfold Builtin.List.listItems;refine bZ (wpAny_seqItems hS rfl (pZ ?_));show wpAny _ _ (updateSeq S (λ_=> #[])>>=λ_=>letGo (#[]:Array Value).toList.reverse>>=λ_=>Builtin.List.listExtendWith (.ref S) (.ref I) .none) _ _ s;refine bZ (wpAny_updateSeq hS rfl ?_);have g:=get?_update_self (Obj.mapSeq (λ_=>(#[]:Array Value))) hS rfl;have a:∀b o,b≠S->s.heap.get? b=some o->(s.heap.update S (Obj.mapSeq (λ_=>(#[]:Array Value)))).get? b=some o:=
  λb o hb e=>(get?_update_other _ _ (Ne.symm hb)).trans e
 refine bZ (wpAny_letGo ?_);refine AU hh (hit.at λo e=>a I o (Ne.symm hSI) e) (hl.at λo e=>a l o (Ne.symm hSl) e) hne S .none _ g hSI hSl (λh' tk acc' c' hk h c=> ?_) hn;exact hR h' tk acc' c' (λb o hb d e=>hk b o hb d (a b o hb e)) h c
theorem EV{A:Around}{E:Value->Shared->Prop}{s:Shared}{Q:Value->Shared->Prop}(hh:A.handled=none){items:Array Value}(hit:s.heap.IsRevIter I l ((items.size:Int) - 1))(hl:s.heap.IsList l items)(hne:l≠I)
  (hQ:∀h' tk acc' c',(∀b o,b≠I->s.heap.get? b=some o->h'.get? b=some o)->
   h'.get? s.heap.objs.size=some {cls:=.type "list",dict:=none,data:=.seq acc' c',slots:= #[]}->ItemsOf (U5 items) acc' items.size->Q (.ref s.heap.objs.size) {s with heap:=h',toks:=tk})(hn:items.size<=sizeLine):
  wpAny (model prog w) A (call (.type "list") [.ref I]) Q E s:=by
 have f:I<s.heap.objs.size:=let⟨o,e,_⟩:=hit;lt_size e;have d:l<s.heap.objs.size:=let⟨o,e,_⟩:=hl;lt_size e;refine callType_codes (Q₁:=λc s₁=>c=.ref s.heap.objs.size/\s₁={s with heap:=s.heap.push {cls:=.type "list",data:=.seq #[]}}) F.called_list (F.typeCall_list_1 _) F.entry_list_init
  (code_list_new _ ⟨rfl,rfl⟩) λc s₁ h₁=> ?_
 obtain⟨rfl,rfl⟩:=h₁;have hS:(s.heap.push {cls:=.type "list",data:=.seq #[]}).get? s.heap.objs.size=some {cls:=.type "list",data:=.seq #[]}:=get?_push_size _ rfl;refine⟨⟨_,hS,rfl⟩,F.args_list_init_2 _ _,V9 (A:=A.in1) hh (hit.at λo e=>gZ _ e) (hl.at λo e=>gZ _ e) hne _ (Nat.ne_of_gt f) (Nat.ne_of_gt d) hS (λh' tk acc' c' hk g a=> ?_) hn⟩;exact⟨rfl,hQ h' tk acc' c' (λb o hb e=>hk b o (ne_of_lt (lt_size e)) hb (gZ _ e)) g a⟩
theorem RT{its:List Value}(h:ItemsOf (U5 its.toArray) acc its.toArray.size):acc=its.reverse.toArray:=by
 obtain⟨h1,h2⟩:=h;refine Array.ext (by simpa using h1) λi hi a=> ?_;have e:=h2 i acc[i] (Array.getElem?_eq_getElem hi);have e':its[its.length - 1 - i]? =some acc[i]:=by simpa [U5]using e
 have b:i<its.length:=by simpa using a
 have e2:its.reverse[i]? =some acc[i]:=by rw[getElem?_reverse b];exact e'
 have e3:its.reverse.toArray[i]? =some acc[i]:=by simpa using e2
 rw[Array.getElem?_eq_getElem a]at e3;exact(Option.some.inj e3).symm
end
end PySem
namespace _L
open PySem PySem.Spec PyProof.Rows
theorem Vals.rev(h:Vals vs us):Vals vs.reverse us.reverse:=by
 induction h with
 |nil=>exact .nil
 |cons r _ ih=>rw[reverse_cons,reverse_cons];exact ih.append (.cons r .nil)
section
noncomputable def WJ(Z:FZ)(ta:TA):TE:=fun σ H Q=>ta σ H λvs H1=>∃a xs,vs=[.ref a]/\SqL Z H1 a xs/\∀r,H1 r=none->Q (.ref r) (upd H1 r (.lst xs.reverse))
theorem MX{Z:FZ}{a:Expr}(hg:Gl X "reversed")(hm:X.mg "reversed"=none)(hg':Gl X "list")(hm':X.mg "list"=none)(hc:X.calm=true)(ha:PA X [a] ta)(hK:X.K=Z)(hs:starEach [a] X.env=[(false,eval a X.env)])
  (hs':starEach [.Call (.Name "reversed" p) [a] [] pos] X.env=[(false,eval (.Call (.Name "reversed" p) [a] [] pos) X.env)]):
  PE X (.Call (.Name "list" p') [.Call (.Name "reversed" p) [a] [] pos] [] pos') (WJ Z ta):=by
 subst hK;intro f s σ H Q I h;refine wpAny_Call_Name_kw (X4 I hg' hm' J8 ?_);refine callWith_type1 ?_ hs' rfl;rw[hs'];refine Calls.spliced_cons (Call_ (X4 I hg hm BQ (callWith_type1 (thn (ha pos f s σ H _ I h) λus s1 ⟨vs,H1,I1,r1,q1⟩=> ?_) hs rfl)));obtain⟨l,xs,e,hq,q⟩:=q1;subst e;cases r1 with
 |cons r rr=>
  cases rr;cases r;obtain⟨d,rv,pl,hz⟩:=I1.list hq;refine call_reversed_list pl.isList ?_;refine Calls.spliced_nil ?_;have st:(s1.heap.push (revObj l ((d.toArray.size:Int) - 1))).IsRevIter s1.heap.objs.size l ((d.toArray.size:Int) - 1):=⟨_,get?_push_size _ rfl,rfl,rfl⟩;have j:l<s1.heap.objs.size:=let⟨o,e,_⟩:=pl.isList;lt_size e;have g:=rv.length;refine EV (I1.ok.hd hc) st (pl.isList.at λo e=>gZ _ e) (ne_of_lt j) (λh' tk k c hk hS i=> ?_) (by rw[size_toArray,<-g];exact hz);rw[RT i]at hS;have ns:(s1.heap.push (revObj l ((d.toArray.size:Int) - 1))).objs.size=s1.heap.objs.size+1:=size_push ..;rw[ns]at hS⊢;have kp:∀b o,s1.heap.get? b=some o->h'.get? b=some o:=λb o e=>hk b o (ne_of_lt (lt_size e)) (gZ _ e);exact⟨.ref (s1.heap.objs.size+1),_,I1.laid (t':=tk) kp (le_succ _) (show ObjOk X.prog X.w _ h' _ (.lst xs.reverse)from⟨by rw[length_reverse];exact hz,d.reverse,c,rv.rev,hS⟩),rfl,q _ (I1.hok.fresh (le_succ _))⟩
theorem TN{X:Cx}(hu:X.A.units<cLine):OpR X (compareOp .NotEq) (λx y H Q=>∃a b xs ys,x=.ref a/\y=.ref b/\SqL X.K H a xs/\SqL X.K H b ys/\xs.length≠ys.length/\Q (.bl true) H):=by
 intro e s σ H x y v u Q I rx ry h;obtain⟨a,b,xs,ys,rfl,rfl,ha,hb,hp,q⟩:=h;cases rx;cases ry;obtain⟨f,r,pl,_⟩:=I.list ha;obtain⟨c,r2,d,_⟩:=I.list hb;have hl:f.length≠c.length:=by rw[<-r.length,<-r2.length];exact hp
 exact SeqAt.RcNeAt.lists_lengths pl.isList d.isList (by simpa using hl) hu X.prog X.w X.xe _ ⟨.bl true,H,I,rfl,q⟩
theorem NV{X:Cx}{Z:FZ}(hu:X.A.units<cLine)(hK:X.K=Z:=by rfl):OpR X (compareOp .NotEq) (λx y H Q=>rEqL Z false x y H Q\/∃a b xs ys,x=.ref a/\y=.ref b/\SqL Z H a xs/\SqL Z H b ys/\xs.length≠ys.length/\Q (.bl true) H):=by
 subst hK;exact(UH hu).or (TN hu)
theorem CP:OpR X (binaryOp .Mult) (rI IntMulOk λi j=> .int (i*j)):=opI λ_ _ _ _ _ _ _ hc q=>mul_int q hc
theorem D6:OpR X (binaryOp .FloorDiv) (rI (λ_ j=>j≠0/\j.natAbs.log2<9000) λi j=> .int (i.fdiv j)):=opI λ_ _ _ _ _ _ _ hc q=>floordiv_int hc.1 q (.inl (PyProof.noPylong_of_log2 hc.2))
end
end _L
namespace Att
open PySem PySem.W PySem.Calls PyProof.Rows
end Att
namespace _L
open PySem PySem.Spec PyProof.Rows
section
noncomputable def HR(Z:FZ):R2:=λx y H Q=>∃a b ys,x=.ref a/\y=.ref b/\SqT Z H a []/\SqT Z H b ys/\Q (.ref b) H
theorem JR:OpR X (binaryOp .Add) (HR X.K):=by
 intro i s σ H x y v u Q I rx ry h;obtain⟨a,b,ys,rfl,rfl,ha,hb,q⟩:=h;cases rx;cases ry;obtain⟨k,r1,p1,_⟩:=I.tuple ha;obtain⟨j,r2,p2,hz⟩:=I.tuple hb;have e0:k=[]:=r1.nil_iff.mpr rfl;subst e0;obtain⟨⟨p,dd,m,sl⟩,ho,hc,n,hd⟩:=id p1;obtain⟨⟨o,l,f,g⟩,c,e,n2,d⟩:=id p2;simp only at hc hd e d;subst hc hd e d;exact concat_meets ⟨_,ho,rfl⟩ ⟨_,c,rfl⟩ noFill_tuple_add seq_tuple_add PySem.F.slot_tuple_add PySem.F.entry_tuple_add (PySem.F.args_tuple_add_2 _ _)
  (tuple_addW0 a b _ _ n n2 dd l sl g (by simp)) ⟨ho,c,⟨.ref b,H,I,rfl,q⟩⟩
theorem OH{X:Cx}{Z:FZ}(hK:X.K=Z:=by rfl):OpR X (binaryOp .Add) (λx y H Q=>rI0 (λi j=> .int (i+j)) x y H Q\/PQ Z x y H Q\/HR Z x y H Q):=by
 subst hK;exact op_add.or (op_catT.or JR)
end
end _L
namespace PySem
open AutoSeq1 (wpAny_loadPart')
section
end
end PySem
namespace PySem
section
end
end PySem
namespace _L
open PySem PySem.Spec PyProof.Rows
section
end
end _L
namespace PySem
open Sem(wp)
namespace ZT
noncomputable def IsIt(t:Bool)(h:Heap)(i l:Addr)(k:Nat):Prop:=if t then h.IsTupleIter i l k else h.IsListIter i l k
noncomputable def IsSq(t:Bool)(h:Heap)(l:Addr)(xs:Array Value):Prop:=if t then h.IsTuple l xs else h.IsList l xs
theorem IsIt.extBut(x:IsIt t h i l k)(hs:Heap.ExtBut b h h')(hb:i≠b):IsIt t h' i l k:=by
 cases t
 ·exact Heap.IsListIter.extBut (show h.IsListIter i l k from x) hs hb
 ·exact Heap.IsTupleIter.extBut (show h.IsTupleIter i l k from x) hs hb
theorem IsIt.at{h':Heap}(x:IsIt t h i l k)(e:∀o,h.get? i=some o->h'.get? i=some o):IsIt t h' i l k:=by
 cases t
 ·obtain⟨o,ho,r⟩:=(show h.IsListIter i l k from x);exact⟨o,e o ho,r⟩
 ·obtain⟨o,ho,r⟩:=(show h.IsTupleIter i l k from x);exact⟨o,e o ho,r⟩
theorem IsIt.live(x:IsIt t h i l k):∃o,h.get? i=some o:=by
 cases t
 ·obtain⟨o,ho,r⟩:=(show h.IsListIter i l k from x);exact⟨o,ho⟩
 ·obtain⟨o,ho,r⟩:=(show h.IsTupleIter i l k from x);exact⟨o,ho⟩
theorem IsSq.at{h':Heap}(x:IsSq t h l xs)(e:∀o,h.get? l=some o->h'.get? l=some o):IsSq t h' l xs:=by
 cases t
 ·obtain⟨o,ho,r⟩:=(show h.IsList l xs from x);exact⟨o,e o ho,r⟩
 ·obtain⟨o,ho,r⟩:=(show h.IsTuple l xs from x);exact⟨o,e o ho,r⟩
theorem IsSq.extBut(x:IsSq t h l xs)(hs:Heap.ExtBut b h h')(hb:l≠b):IsSq t h' l xs:=x.at λo e=>hs l o hb e
section
end
end ZT
end PySem
namespace PySem
open Sem(wp)
namespace ZT
section
end
end ZT
end PySem
namespace PySem
open Sem(wp)
open PyProof.Rows
namespace ZT
section
end
end ZT
end PySem
namespace PySem
open Sem(wp)
open PyProof.Rows
namespace F
end F
namespace ZT
section
end
end ZT
end PySem
namespace PySem
open Sem(wp)
open PyProof.Rows
namespace ZT
section
end
end ZT
end PySem
namespace _L
open PySem PySem.Spec PyProof.Rows
section
theorem NI{H:Hp}{A:Around}{E:Value->Shared->Prop}{Q:Value->Shared->Prop}{b:Bool}{c d:V}{u1 u2:Value}(I:Inv X pins σ H s)(rx:RelV x u)(hp:SqT X.K H p [c,d])(r1:∀v,RelV c v->v=u1)(r2:∀v,RelV d v->v=u2)(ty:TyOf X.K H x t)(e:kitAny X.K t [u1,u2]=some b)(hx:u≠ .builtin "__main__.__loader__#opaque")(h:∀tk,Q (.bool b) {s with toks:=tk}):
  wpAny (model X.prog X.w) A (call (.builtin "isinstance") [u,.ref p]) Q E s:=by
 obtain⟨f,r,⟨⟨cl,dd,da,sl⟩,hg,hc,n,hd⟩,_⟩:=I.tuple hp;simp only at hc hd;subst hc hd;obtain⟨w1,w2,rfl,q1,q2⟩:=OG r;cases r1 _ q1;cases r2 _ q2;cases ty with
 |non=>cases(show u=Value.none from rx);exact kia_tup PySem.W.kitx_none I.kIn True.intro hg e hx h
 |bl y=>cases(show u=Value.bool y from rx);exact kia_tup PySem.W.kitx_bool I.kIn True.intro hg e hx h
 |int i=>obtain⟨t,q⟩:=(show∃t,u=Value.int i t from rx);cases q;exact kia_tup PySem.W.kitx_int I.kIn True.intro hg e hx h
 |str y=>obtain⟨t,q⟩:=(show∃t,u=Value.str y t from rx);cases q;exact kia_tup PySem.W.kitx_str I.kIn True.intro hg e hx h
 |flt y=>obtain⟨t,q⟩:=(show∃t,u=Value.float y t from rx);cases q;exact kia_tup PySem.W.kitx_float I.kIn True.intro hg e hx h
 | @lst a xs ea=>
  cases(show u=Value.ref a from rx);obtain⟨_,_,n,_,h1⟩:=(show ObjOk X.prog X.w H s.heap a (.lst xs)from I.hok a _ ea);exact kia_tup kitx_list I.kIn ⟨_,h1,rfl⟩ hg e hx h
 | @frz a ob xs ea=>
  cases(show u=Value.ref a from rx);obtain⟨_,_,_,n,_,h1⟩:=(show ObjOk X.prog X.w H s.heap a (.frz ob (.lst xs))from I.hok a _ ea);exact kia_tup kitx_list I.kIn ⟨_,h1,rfl⟩ hg e hx h
 | @tup a xs ea=>
  cases(show u=Value.ref a from rx);obtain⟨_,_,_,p⟩:=(show ObjOk X.prog X.w H s.heap a (.tup xs)from I.hok a _ ea);obtain⟨o,h1,h2,_⟩:=p;exact kia_tup PySem.W.kitx_tuple I.kIn ⟨o,h1,h2⟩ hg e hx h
 | @dK a kvs ea=>
  cases(show u=Value.ref a from rx);obtain⟨_,_,vs,_,p⟩:=(show ObjOk X.prog X.w H s.heap a (.dK kvs)from I.hok a _ ea);obtain⟨o,es,ep,h1,h2,_⟩:=p;exact kia_tup kitx_dict I.kIn ⟨o,h1,h2.1⟩ hg e hx h
 | @dT a kvs ea=>
  cases(show u=Value.ref a from rx);obtain⟨_,_,xs,_,o,es,ep,h1,h2,_⟩:=(show ObjOk X.prog X.w H s.heap a (.dT kvs)from I.hok a _ ea);exact kia_tup kitx_dict I.kIn ⟨o,h1,h2.1⟩ hg e hx h
 | @ins a C dx fs ea cl ha hn htk hm=>
  cases(show u=Value.ref a from rx);obtain⟨mA,O,_⟩:=Y9 I.hok ea;obtain⟨od,J,_⟩:=O.look;exact kia_tup (PySem.W.kitx_own (cl.get _) cl.hd ha hn htk hm) I.kIn J hg e hx h
theorem ME(rx:RelV x u)(ty:TyOf Z H x t):u≠ .builtin "__main__.__loader__#opaque":=by
 cases ty with
 |non=>cases(show u=Value.none from rx);exact λz=>nomatch z
 |bl y=>cases(show u=Value.bool y from rx);exact λz=>nomatch z
 |int i=>obtain⟨t,q⟩:=(show∃t,u=Value.int i t from rx);cases q;exact λz=>nomatch z
 |str y=>obtain⟨t,q⟩:=(show∃t,u=Value.str y t from rx);cases q;exact λz=>nomatch z
 |flt y=>obtain⟨t,q⟩:=(show∃t,u=Value.float y t from rx);cases q;exact λz=>nomatch z
 |lst|frz|tup|dK|dT|ins=>cases rx;exact λz=>nomatch z
theorem RJ:CallR X (.builtin "isinstance") (λxs H Q=>∃x c d t b p,xs=[x,.ref p]/\SqT X.K H p [.ty c,.ty d]/\TyOf X.K H x t/\kitAny X.K t [.type c,.type d]=some b/\Q (.bl b) H):=by
 intro a s σ H xs us Q I r h;obtain⟨x,c,d,t,b,p,rfl,hp,ty,hk,q⟩:=h;obtain⟨u,v,rfl,ru,rv⟩:=OG r;cases rv;exact NI I ru hp (λv h=>by cases h;rfl) (λv h=>by cases h;rfl) ty hk (ME ru ty) λtk=>⟨.bl b,H,I.tok _,rfl,q⟩
theorem coZ{X:Cx}{Z:FZ}(hK:X.K=Z:=by rfl):CallR X (.builtin "isinstance") (λxs H Q=>∃x c d t b p,xs=[x,.ref p]/\SqT Z H p [.ty c,.ty d]/\TyOf Z H x t/\kitAny Z t [.type c,.type d]=some b/\Q (.bl b) H):=by subst hK;exact RJ
theorem N7(r:Vals xs us){j:Nat}(h1:j<us.toArray.size):∃x,xs[j]? =some x/\RelV x us.toArray[j]:=by
 have hj:j<xs.length:=by rw[r.length];simpa using h1
 obtain⟨u,hu,ru⟩:=r.get (i:=j) (x:=xs[j]) (by simp[hj]);have e1:us.toArray[j]=u:=by
  have:us[j]? =some us.toArray[j]:=by simp
  rw[hu]at this;exact(Option.some.inj this).symm
 exact⟨xs[j],by simp[hj],by rw[e1];exact ru⟩
theorem ZW{H:Hp}(I:Inv X pins σ H s){A:Around}(hu:A.units<cLine)(ha:SqT X.K H a xs)(hb:SqT X.K H b ys)(hl:xs.length=ys.length)
  (he:∀(j:Nat) x y u v,xs[j]? =some x->ys[j]? =some y->RelV x u->RelV y v->SeqAt.EqAt A.in1 s u v true):SeqAt.RcAt A s (.ref a) (.ref b) true:=by
 obtain⟨d,r,pl,_⟩:=I.tuple ha;obtain⟨c,r2,f,_⟩:=I.tuple hb;have g:d.length=c.length:=by rw[<-r.length,<-r2.length];exact hl
 have h:=SeqAt.RcAt.tuples (A:=A) (s:=s) (e:=λ_=>true) pl f hu (λj h1 h2=>by
  obtain⟨x,hx,rx⟩:=N7 r h1;obtain⟨y,hy,ry⟩:=N7 r2 h2;exact he j x y _ _ hx hy rx ry)
 have e:((List.range (min d.toArray.size c.toArray.size)).all (λ_=>true)&&d.toArray.size==c.toArray.size)=true:=by simp[g]
 rw[e]at h;exact h
end
end _L
namespace HT
open PySem PyProof.Rows
section
theorem getItem_tuple_whole{s:Shared}{lo:Option Int}{Q:Value->Shared->Prop}(ht:IsTup s.heap t items)(hs:s.heap.IsSliceOf sl vl vu .none)(pl:IsPart vl lo)(pu:IsPart vu hi)
  (hw:sIx items.size 0 lo=0/\sIx items.size items.size hi=items.size)
  (h:Q (.ref t) s):wpAny (model prog w) A (getItem (.ref t) (.ref sl)) Q E s:=by
 obtain⟨os,b,c,e⟩:=id hs;have d:s.TypeIs (.ref sl) "slice":=⟨os,b,c⟩;unfold getItem
 try with_reducible refine wpAny_holding ?_
 first|refine bZ (pZ ?_)|skip
 refine bZ (wpAny_sequenceKey ht.typeIs (by decide) ?_);refine bZ (wpAny_callSpecial?_slot (name:=Str.ofString "__getitem__") ht.typeIs PyProof.Rows.slot_tuple_getitem
  (wpAny_call_entry PyProof.Rows.slot_tuple_getitem ht.typeIs entry_tuple_getitem ?_ (args_tuple_getitem _ _)))
 show wpAny _ _ (Builtin.Tuple.tupleItemsOf (.ref t)>>=_) _ _ s;refine bZ (tupleItemsOf_ ht ?_);refine bZ (wpAny_typeOf d ?_);rw[if_pos (by decide)];refine bZ (Q3 hs pl pu ?_);have a:(((sIx items.size 0 lo:Nat):Int)==0&&(1:Int)==1&&(sIx items.size items.size hi - sIx items.size 0 lo)==items.size)=true:=by
  rw[hw.1,hw.2];simp
 show wpAny _ _ (if(((sIx items.size 0 lo:Nat):Int)==0&&(1:Int)==1&&(sIx items.size items.size hi - sIx items.size 0 lo)==items.size)=true then _ else _) _ _ s;rw[if_pos a];unfold Builtin.Tuple.tupleIsExact;refine bZ (bZ (wpAny_typeOf ht.typeIs ?_))
 repeat (first|refine pZ ?_|refine bZ ?_|refine wpAny_rule ?_|rw[if_pos (by decide)])
 exact⟨_,rfl,pZ h⟩
end
end HT
namespace _L
open PySem PySem.Spec PyProof.Rows
section
noncomputable def csZ(Z:FZ):V->Option Int->Option Int->Hp->VK->Prop:=λx lo hi H Q=>∃a xs,x=.ref a/\SqT Z H a xs/\(HT.sIx xs.length 0 lo=0/\HT.sIx xs.length xs.length hi=xs.length)/\Q (.ref a) H
theorem TK:SlR X (csZ X.K):=by
 intro c s σ H x v vl vu lo hi sl Q I rx hs pl pu h;obtain⟨a,xs,rfl,hx,hw,q⟩:=h;cases rx;obtain⟨d,r,ht,hz⟩:=I.tuple hx;have b:d.toArray.size=xs.length:=by rw[size_toArray];exact r.length.symm
 refine⟨"tuple",_,PyProof.Rows.slot_tuple_getitem.lookup,ht.typeIs, ?_⟩;exact HT.getItem_tuple_whole ht hs pl pu (by rw[b];exact hw) ⟨.ref a,H,I,rfl,q⟩
theorem W0{X:Cx}{Z:FZ}(hK:X.K=Z:=by rfl):SlR X (λx lo hi H Q=>(rSlL Z x lo hi H Q\/rSlT Z x lo hi H Q)\/csZ Z x lo hi H Q):=by subst hK;exact sl_any.or TK
end
end _L
namespace TM
open PySem PyProof.Rows
theorem noFill_tuple_mul:fillsNumberSlot (.type "tuple") "mul"=pure false:=
 PySem.fillsNumberSlot_seq (id:="tuple.__mul__") (r:=some (.builtin "tuple.__rmul__")) F.slot_tuple_mul.lookup (by decide +kernel) F.slot_tuple_rmul.lookup (by decide +kernel)
theorem repeat_tuple:seqRepeat? (.type "tuple")=pure (some (.builtin "tuple.__mul__")):=by
 unfold seqRepeat?;rw[PySem.seqSlot_of (T:="tuple") (name:="__mul__") (id:="tuple.__mul__") F.slot_tuple_mul.lookup (by decide +kernel),PySem.seqSlot_of (T:="tuple") (name:="__rmul__") (id:="tuple.__rmul__") F.slot_tuple_rmul.lookup (by decide +kernel)];rfl
theorem int___rmul___int_tuple(a:Int)(t:Tok)(l:Addr)(dd:Option Addr)(items:Array Value)(n:Nat)(sl:Array (Option Value)):
  Meets (Builtin.«int.__rmul__» ⟨[.int a t,.ref l],[]⟩) (λ_ R s=>s.heap.get? l=some {cls:=.type "tuple",dict:=dd,data:=.seq items n,slots:=sl}/\R (.ok (.ret Value.notImplemented)) s):=
 .of_wp λb w A R s h=>by obtain⟨hp,g,d,tk,os⟩:=s;obtain⟨hl,h⟩:=h;wp_walk;exact⟨_,rfl,h⟩
section
theorem VH(x:Value)(k:Nat):List.foldl (λx1 x2=>x1++x2) #[] (List.replicate k #[x])=(List.replicate k x).toArray:=by
 have:=_L.foldl_rep [x] k [];rw[List.nil_append,List.flatten_replicate_singleton]at this;exact this
theorem tuple_mul1{s:Shared}{x:Value}{k:Int}{Q:Value->Shared->Prop}(ht:IsTup s.heap l #[x])(h0:0<=k)(h1:k<=1000)(hs:k=1->Q (.ref l) s)
  (hn:k≠1->Q (.ref s.heap.objs.size) {s with heap:=s.heap.push {cls:=.type "tuple",data:=.seq (List.replicate k.toNat x).toArray}}):wpAny (model prog w) A (call (.builtin "tuple.__mul__") [.ref l,.int k t]) Q E s:=by
 refine wpAny_call_entry F.slot_tuple_mul ht.typeIs F.entry_tuple_mul ?_ (F.args_tuple_mul_2 _ _);show wpAny _ _ (asIndex (.int k t)>>=_) _ _ s;refine bZ (m:=asIndex _) (pZ (a:=k) ?_);have e1:¬((decide (k< -2^63)||decide (k≥2^63))=true):=by simp;omega
 rw[if_neg e1];refine bZ (tupleItemsOf_ ht ?_);by_cases e:k=1
 ·subst e;rw[if_pos (by simp)];unfold Builtin.Tuple.tupleIsExact;refine bZ (bZ (wpAny_typeOf ht.typeIs ?_))
  repeat (first|refine pZ ?_|refine bZ ?_|refine wpAny_rule ?_|rw[if_pos (by decide)])
  exact⟨_,rfl,hs rfl⟩
 ·have e2:¬(((#[x]:Array Value).isEmpty||k==1)=true):=by simp[e]
  rw[if_neg e2];have hz:sizeOk (.seq (List.replicate k.toNat x).toArray):=by
   show(List.replicate k.toNat x).toArray.size<=sizeLine;rw[size_toArray,length_replicate];have:(1000:Nat)<=sizeLine:=by decide
   omega
  by_cases e0:k=0
  ·subst e0;rw[if_pos (by simp)];exact bZ (m:=Builtin.Tuple.tupleExact _) (wpAny_newObj_type (pZ ⟨_,rfl,hn e⟩) hz)
  ·rw[if_neg (by simp;omega)];have e5:¬(((#[x]:Array Value).size:Int)*k>(2^63 - 1)/8):=by simp;omega
   show wpAny _ _ (if((#[x]:Array Value).size:Int)*k>(2^63 - 1)/8 then _ else _) _ _ s;rw[if_neg e5];have e6:¬(Builtin.Tuple.tupleTooMany (((#[x]:Array Value).size:Int)*k)=true):=by
    unfold Builtin.Tuple.tupleTooMany;have:(1000:Nat)<=sizeLine:=by decide
    simp;omega
   show wpAny _ _ (if Builtin.Tuple.tupleTooMany (((#[x]:Array Value).size:Int)*k)=true then _ else _) _ _ s;rw[if_neg e6,VH];exact bZ (m:=Builtin.Tuple.tupleExact _) (wpAny_newObj_type (pZ ⟨_,rfl,hn e⟩) hz)
end
end TM
namespace _L
open PySem PySem.Spec PyProof.Rows
section
noncomputable def biZ(Z:FZ):R2:=λx y H Q=>∃l k z,x=.ref l/\y=.int k/\SqT Z H l [z]/\0<=k/\k<=1000/\(k=1->Q (.ref l) H)/\(k≠1->∀p,H p=none->Q (.ref p) (upd H p (.tup (List.replicate k.toNat z))))
theorem KC(r:RelV z u):∀k:Nat,Vals (List.replicate k z) (List.replicate k u)
 |0=> .nil
 |k+1=> .cons r (KC r k)
theorem XZ:OpR X (binaryOp .Mult) (biZ X.K):=by
 intro a s σ H x y v u Q I rx ry h;obtain⟨l,k,z,rfl,rfl,hl,h0,h1,q1,q2⟩:=h;cases rx;obtain⟨t,rfl⟩:=ry;obtain⟨d,r,pl,_⟩:=I.tuple hl;obtain⟨u,rfl,ru⟩:=W8 r;obtain⟨⟨f,dd,c,sl⟩,ho,hc,n,hd⟩:=id pl;simp only at hc hd;subst hc hd;refine wpAny_binaryOp_repeat_ref (T:="tuple") (U:="int") (by decide) ⟨_,ho,rfl⟩ (λs'=>typeIs_int s' k t) TM.noFill_tuple_mul F.fills_int_mul F.slot_int_rmul TM.repeat_tuple F.slot_int_index.lookup
  (call_meets F.slot_int_rmul (typeIs_int s k t) F.entry_int_rmul (F.args_int_rmul_2 _ _) (TM.int___rmul___int_tuple k t l dd _ n sl)
   ⟨ho,rfl,⟨_,ho,rfl⟩,TM.tuple_mul1 pl h0 h1 (λe=>⟨.ref l,H,I,rfl,q1 e⟩) λe=> ?_⟩)
 refine⟨.ref s.heap.objs.size,_,I.laid (t':=s.toks) (o:=.tup (List.replicate k.toNat z)) (λb ob q=>gZ _ q) (le_refl _) ?_,rfl,q2 e _ (I.hok.fresh (le_refl _))⟩;refine⟨?_,_,KC ru k.toNat,IsTup.new _ _⟩;rw[length_replicate];have:(1000:Nat)<=sizeLine:=by decide
 omega
theorem dgZ{X:Cx}{Z:FZ}(hK:X.K=Z:=by rfl):OpR X (binaryOp .Mult) (λx y H Q=>rI CMul (λi j=> .int (i*j)) x y H Q\/biZ Z x y H Q):=by subst hK;exact op_mul.or XZ
theorem K6{X:Cx}{Z:FZ}(hK:X.K=Z:=by rfl):OpR X (binaryOp .Add) (λx y H Q=>rI0 (λi j=> .int (i+j)) x y H Q\/rCat x y H Q\/PQ Z x y H Q\/HR Z x y H Q):=by
 subst hK;exact op_add.or (op_cat.or (op_catT.or JR))
end
end _L
namespace TM
open PySem PyProof.Rows PySem.SeqAt
end TM
namespace _L
open PySem PySem.Spec PyProof.Rows
section
end
structure LamScope(ps fs:List Str)(sc:Scope):Prop where
 kind:sc.kind=.function
 co:sc.isCoroutine=false
 gen:sc.isGenerator=false
 nd:(ps++fs).Nodup
 par:∀x∈ps,sc.names.lookup x=some .local
 nocell:∀y∈sc.names,y.2≠ .cell
 free:∀x,sc.names.lookup x=some .free->x∈fs
 fre:∀x∈fs,sc.names.lookup x=some .free
structure Caught (base:Heap) (cl:List (Str×Addr)) (fs:List Str) (cvs:List V):Prop where
 len:cvs.length=fs.length
 inj:∀x y c,cl.lookup x=some c->cl.lookup y=some c->x=y
 only:∀x c,cl.lookup x=some c->x∈fs
 at_:∀(i:Nat) (x:Str),fs[i]? =some x->∃c u v,cl.lookup x=some c/\base.IsCell c (some u)/\cvs[i]? =some v/\RelV v u
noncomputable def OL(CX:CXT)(P:Program)(w:World)(Z:FZ)(mg:Str->Option Value)(base:Heap)(N:List Str)(qual:Str)(scope:Scope)(f:Addr)(cd:Value)(cl:List (Str×Addr))(A:Around)(outer:List Env)(s:Shared)(H:Hp)(E:XK):Cx where
 prog:=P
 w:=w
 K:=Z
 mg:=mg
 base:=base
 A:=A.deeper (envX qual scope s.heap.objs.size f cd cl)
 N:=N
 s₀:=s
 H₀:=H
 env:=envX qual scope s.heap.objs.size f cd cl
 outer:=outer
 stack:=envX qual scope s.heap.objs.size f cd cl::outer
 ex:=[]
 calm:=true
 fn:=λ_=>false
 pn:=[]
 xe:=λe s'=>wpAny (model P w) (A.deeper (envX qual scope s.heap.objs.size f cd cl)) (leaving (envX qual scope s.heap.objs.size f cd cl) e) (λ_ s''=>CX outer H s E e s'') (λe' s''=>CX outer H s E e' s'') s'
theorem TQ{ps:List Str}{us:List Value}{i:Nat}{x:Str}{u:Value}(nd:ps.Nodup)(hl:us.length=ps.length)(h1:ps[i]? =some x)(h2:us[i]? =some u):(ps.zip us).reverse.lookup x=some u:=by
 have a:∀(l:List (Str×Value)),(l.map (·.1)).Nodup->(x,u)∈l->l.lookup x=some u:=by
  intro l;induction l with
  |nil=>intro _ h;exact absurd h (by simp)
  |cons p l ih=>
   obtain⟨y,z⟩:=p;intro n h;rw[map_cons,nodup_cons]at n;rcases cZ h with e|h
   ·cases e;simp
   ·have ne:x≠y:=λe=>n.1 (e▸List.mem_map_of_mem (f:=(·.1)) h);rw[lookup_cons,show(x==y)=false from beq_eq_false_iff_ne.mpr ne];exact ih n.2 h
 refine a _ ?_ ?_
 ·rw[List.map_reverse,List.map_fst_zip (by omega)];exact List.pairwise_reverse.mpr (List.Pairwise.imp (λh=>Ne.symm h) nd)
 ·rw[List.mem_reverse];refine mem_of_getElem? (i:=i) ?_;rw[List.getElem?_zip_eq_some];exact⟨h1,h2⟩
theorem SD{A:Around}{h1:Heap}{tk:Nat}{vs:List V}
  (S:LamScope ps fs scope)(C:Caught base cl fs cvs)(hd:A.handled=none)(e0:Env0 P w Z mg base A outer s H)(hl:vs.length=ps.length)(r:Vals vs us)
  (hns:h1.Ns s.heap.objs.size (λx=>(ps.zip us).reverse.lookup x))(hk:∀b o,s.heap.get? b=some o->h1.get? b=some o):
  Inv (OL CX P w Z mg base (ps++fs) qual scope f cd cl A outer s H E) [] ((vs++cvs).map some) H {s with heap:=h1,toks:=tk}:=by
 have d:∀b:Addr,b∉(OL CX P w Z mg base (ps++fs) qual scope f cd cl A outer s H E).ex:=λb z=>absurd (show b∈([]:List Addr)from z) (by simp);have g:ps.Nodup:=(List.nodup_append.mp S.nd).1;have j:us.length=ps.length:=by rw[<-r.length];exact hl
 have cb:∀x c,cl.lookup x=some c->∃u,base.IsCell c (some u):=λx c e=>by
  obtain⟨i,hi⟩:=getElem?_of_mem (C.only x c e);obtain⟨c',u,v,e1,e2,_⟩:=C.at_ i x hi;rw[e]at e1;cases e1;exact⟨u,e2⟩
 have bk:∀b o,base.get? b=some o->h1.get? b=some o:=λb o e=>hk b o (e0.bs b o e).1;have ck:∀ {c:Addr} {u:Value},base.IsCell c (some u)->h1.IsCell c (some u):=λ{c u} ⟨o,ho,hd⟩=>⟨o,bk _ _ ho,hd⟩;refine⟨⟨e0.mod,S.kind,rfl,rfl,le_refl _,C.inj,λy hy=> ?_,λy c h=>absurd (show(false:Bool)=true from h) (by simp),λ_=>hd,Around.frames_deeper e0.frames,.inr ⟨rfl,rfl⟩,λb z=>absurd z (d b),e0.bs,e0.bsz,λb _ _=>d b,λb z=>absurd z (d b),e0.funs,e0.frf⟩,
  rfl,e0.bare,Un.kept hk,⟨_,hns,λi y v h1 h2 h3=> ?_⟩,λy c h=> ?_,e0.hok.fresh (le_refl _),λy c h=> ?_,λp hp=>absurd (show p∈([]:List (Addr×Obj))from hp) (by simp),e0.hok.kept hk, ?_⟩
 ·have hy:scope.names.lookup y=some .cell\/scope.names.lookup y=some .free:=hy;rcases hy with hy|hy
  ·exact absurd rfl (S.nocell _ (PySem.mem_of_lookup hy))
  ·obtain⟨i,hi⟩:=getElem?_of_mem (S.free y hy);obtain⟨c,u,v,e1,_⟩:=C.at_ i y hi;exact⟨c,e1⟩
 ·have h1:(ps++fs)[i]? =some y:=h1;have h3:Vis scope y:=h3;by_cases hi:i<ps.length
  ·rw[getElem?_append_left hi]at h1;rw[getElem?_map,getElem?_append_left (by omega)]at h2;have ha:vs[i]? =some v:=by
    cases e:vs[i]? with
    |none=>rw[e]at h2;cases h2
    |some a=>rw[e]at h2;cases h2;rfl
   obtain⟨u,hu,rv⟩:=r.get ha;exact⟨u,rv,.inl ⟨S.par y (mem_of_getElem? h1),TQ g j h1 hu⟩⟩
  ·rw[getElem?_append_right (by omega)]at h1;rw[getElem?_map,getElem?_append_right (by omega),hl]at h2;obtain⟨c,u,v',e1,e2,e3,e4⟩:=C.at_ _ y h1;rw[e3]at h2;cases h2;exact⟨u,e4,.inr ⟨.inr (S.fre y (mem_of_getElem? h1)),c,e1,ck e2⟩⟩
 ·obtain⟨u,e⟩:=cb y c h;exact⟨_,ck e⟩
 ·obtain⟨u,o,ho,_⟩:=cb y c h;exact(e0.bs _ _ ho).2
 ·show((vs++cvs).map some).length=(ps++fs).length;rw[length_map,length_append,length_append,hl,C.len]
theorem ceZ{base:Heap}{f:Addr}{o:Obj}
  {sp:Sp}(lk:base.get? f=some o)(hod:o.data=.func (PySem.W.kla_fn name qual params body scope cl pm cdv ct))(hcd:base.CodeRec cdv qual)(S:LamScope ps fs scope)(C:Caught base cl fs cvs)
  (len:∀vs H Q E,sp vs H Q E->vs.length=ps.length)
  (hbody:∀(A:Around) (outer:List Env) (s:Shared) (H:Hp) (vs:List V) (Q:VK) (E:XK),Room k (A.deeper (envX qual scope s.heap.objs.size f cdv cl))->sp vs H Q E->
   ∃t,PE (OL CX P w Z mg base (ps++fs) qual scope f cdv cl A outer s H E) body t/\t ((vs++cvs).map some) H Q):
  FnOk P w Z mg base CX (k+1) f (PySem.W.kla_fn name qual params body scope cl pm cdv ct) ps sp:=by
 refine⟨len,λA outer s H j us vs Q E hr e0 hb r d=> ?_⟩;have hl:=len _ _ _ _ d;have h:s.heap.NoLimit:=e0.mod.nolimit.keeps λb o e=>(e0.bs b o e).1;have a:s.heap.CodeRec cdv qual:=by
  obtain⟨c,oc,vs,t,e1,e2,e3⟩:=hcd;exact⟨c,oc,vs,t,e1,(e0.bs _ _ e2).1,e3⟩
 refine PySem.W.kla_callFunE hr.depth (e0.bs _ _ lk).1 hod S.co S.gen rfl a (hb _ _ _ _ ?_);refine wpAny_newFunctionEnv S.nocell (λx hx=>S.par x.1 (of_mem_zip hx).1) (λh₁ i g=>⟨h.fresh _ g, ?_⟩) S.kind;have hk:∀b o,s.heap.get? b=some o->h₁.get? b=some o:=λb o e=>g.extBut b o (ne_of_lt (lt_size e)) (gZ _ e);show codeAny _ _ (.expr body (envX qual scope s.heap.objs.size f cdv cl)) _ _;obtain⟨t,ht,hq⟩:=hbody A outer s H vs Q E (hr.deeper _) d;have I:Inv (OL CX P w Z mg base (ps++fs) qual scope f cdv cl A outer s H E) [] ((vs++cvs).map some) H {s with heap:=h₁,toks:=s.toks+(ps.zip us).length}:=SD S C hr.hd e0 hl r i hk;refine PySem.W.kla_codeExpr (wpAny_mono (ht [] _ _ H Q I hq) (λu s' hs=> ?_) λe s' hs=>hs);obtain⟨v,H',J,rv,q⟩:=hs;exact⟨v,H',J.os,J.bare,J.base,J.hok,rv,q⟩
noncomputable def LamO(name qual:Str)(params:Arguments)(body:Expr)(scope:Scope)(clos:List (Str×Addr))(pm:Value)(c' f:Addr):HO:=
 .ext λh=>∃ctv,h.get? f=some (kla_obj name qual params body scope clos pm c' ctv)
noncomputable def CodeO(qual:Str)(c':Addr):HO:=.ext λh=>∃oc vs t,h.get? c'=some oc/\oc.data=.fields vs/\vs[1]? =some (.str qual t)
theorem LamO.ok{h:Heap}{clos:List (Str×Addr)}{f:Addr}
  (e:h.get? f=some (kla_obj name qual params body scope clos pm c' ctv)):ObjOk P w H h f (LamO name qual params body scope clos pm c' f):=
 ⟨⟨ctv,e⟩,⟨_,e⟩,λh1 h2 ⟨c,q⟩ k=>⟨c,k _ q⟩⟩
theorem CodeO.ok{P:Program}{w:World}{H:Hp}{h:Heap}{c':Addr}{oc:Obj}(e:h.get? c'=some oc)(d:oc.data=.fields vs)(v:vs[1]? =some (.str qual t)):
  ObjOk P w H h c' (CodeO qual c'):=⟨⟨oc,vs,t,e,d,v⟩,⟨_,e⟩,λh1 h2 ⟨o,a,b,q,x,y⟩ k=>⟨o,a,b,k _ q,x,y⟩⟩
noncomputable def ED(H:Hp)(P:Addr)(pos:Pos)(qual:Str):Prop:=∃ps,H P=some (.tbl ps)/\TriplesOk ps.toList/\(codeAmong pos ps.toList=none\/∃c',codeAmong pos ps.toList=some (.ref c')/\H c'=some (CodeO qual c'))
noncomputable def TabHit(H:Hp)(P:Addr)(pos:Pos)(c':Addr):Prop:=∃ps,H P=some (.tbl ps)/\TriplesOk ps.toList/\codeAmong pos ps.toList=some (.ref c')
theorem TabHit.ok(h:TabHit H P pos c')(hc:H c'=some (CodeO qual c')):ED H P pos qual:=let⟨ps,h1,h2,h3⟩:=h;⟨ps,h1,h2,.inr ⟨c',h3,hc⟩⟩
noncomputable def dZZ(P:Addr)(pos:Pos)(name qual:Str)(params:Arguments)(body:Expr)(scope:Scope)(clos:List (Str×Addr))(pm:Value):TE:=λ_ H Q=>ED H P pos qual/\
 ∀f c' H',H f=none->H' f=some (LamO name qual params body scope clos pm c' f)->H' c'=some (CodeO qual c')->TabHit H' P pos c'->f≠c'->f≠P->c'≠P->(∀b,b≠f->b≠c'->b≠P->H' b=H b)->
  (∀b o,H b=some o->b≠P->H' b=some o)->Q (.ref f) H'
section
theorem bGZ{X:Cx}{clos:List (Str×Addr)}{pm:Value}(hpm:pm=(X.mg "__name__").getD .none)(hdef:defaultsOf params X.env=([],[]))(hcl:closureFor scope X.env=pure clos)(hcode:X.env.code=.ref c)(C:PySem.W.CodeHd X.base c P)(B:X.base.BuiltinsAt X.mg P):
  PE X (.Lambda params body scope pos) (dZZ P pos "<lambda>" (X.env.qual++ "<lambda>") params body scope clos pm):=by
 subst hpm;intro J s σ H Q I h;obtain⟨⟨ps,hP,ht,hh⟩,h⟩:=h;refine PySem.W.kla_eval hdef ?_;have x:s.heap.get? P=some (PySem.W.tabObj ps):=I.hok P _ hP;have hg:s.heap.Ns mainGlobals X.mg:=by
  obtain⟨o,es,ep,e,r⟩:=I.mod.glob;exact⟨o,es,ep,I.bk _ _ e,r⟩
 have L:mainGlobals≠P:=λq=>by
  obtain⟨o,es,ep,e,r⟩:=I.mod.glob;have:=(I.bs _ _ e).2;rw[q,hP]at this;cases this
 have B':s.heap.BuiltinsAt X.mg P:=by
  obtain⟨bm,o,b1,b2,b3,b4,b5,r⟩:=B;exact⟨bm,o,b1,b2,b3,b4,I.bk _ _ b5,r⟩
 have R:X.env.locals≠P:=λq=>by have:=I.free;rw[q,hP]at this;cases this
 rcases hh with F|⟨c',hf,p⟩
 ·refine PySem.W.kla_makeFunction (mg:=X.mg) hcl I.ok.glob hg hcode (C.keeps I.bk) x ht F L B' λc' D h' tk hx l G y E=> ?_;obtain⟨c₂,oc,vs,t,e2,A,hd,hv⟩:=y;cases e2;have w:P<s.heap.objs.size:=lt_size x;have sl:s.heap.objs.size<h'.objs.size:=lt_of_le_of_lt l G;have g:h'.objs.size≠c':=Nat.ne_of_gt G;have i:h'.objs.size≠P:=Nat.ne_of_gt (Nat.lt_trans w sl);have j:c'≠P:=Nat.ne_of_gt (lt_of_lt_of_le w l);have f:H h'.objs.size=none:=I.hok.fresh (le_of_lt sl);have O:H c'=none:=I.hok.fresh l;have kb:∀b o,b≠P->s.heap.get? b=some o->(h'.push (kla_obj "<lambda>" (X.env.qual++ "<lambda>") params body scope clos ((X.mg "__name__").getD .none) c' D)).get? b=some o:=λb o n e=>gZ _ (hx b o n e);generalize a:upd (upd (upd H P (.tbl (ps++ #[rawInt pos.line,rawInt pos.col,.ref c']))) c' (CodeO (X.env.qual++ "<lambda>") c')) h'.objs.size (LamO "<lambda>" (X.env.qual++ "<lambda>") params body scope clos ((X.mg "__name__").getD .none) c' h'.objs.size)=H';have eF:H' h'.objs.size=some (LamO "<lambda>" (X.env.qual++ "<lambda>") params body scope clos ((X.mg "__name__").getD .none) c' h'.objs.size):=by rw[<-a,A7]
  have eC:H' c'=some (CodeO (X.env.qual++ "<lambda>") c'):=by rw[<-a,B7 (Ne.symm g),A7]
  have eP:H' P=some (.tbl (ps++ #[rawInt pos.line,rawInt pos.col,.ref c'])):=by rw[<-a,B7 (Ne.symm i),B7 (Ne.symm j),A7]
  have eO:∀b,b≠h'.objs.size->b≠c'->b≠P->H' b=H b:=λb n1 n2 n3=>by rw[<-a,B7 n1,B7 n2,B7 n3]
  have eK:∀b o,H b=some o->b≠P->H' b=some o:=λb o e n=>by
   rw[eO b (λz=>by rw[z,f]at e;cases e) (λz=>by rw[z,O]at e;cases e) n];exact e
  refine⟨.ref h'.objs.size,H', ?_,rfl,h _ c' H' f eF eC ⟨_,eP, ?_, ?_⟩ g i j eO eK⟩
  ·refine I.step (g':=s.gens) (d':=s.drawn) (ch:=[]) (λ_ z=>nomatch z) (λb o _ _ _ e n=>kb b o (λz=>by rw[z,hP]at n;cases n) e) (λb o _ _ _ e n=>⟨o.slots,kb b o (λz=>by rw[z,hP]at n;cases n) e⟩)
    (λb o _ e n=> ?_) (λb o _ e=> ?_) (λb xs e=>eK b _ e λz=>by rw[z,hP]at e;cases e) (λb o u e=>eK b _ e λz=>by rw[z,hP]at e;cases e) (λb qs e=> ?_) (λm hm=> ?_) ?_ I.bare
   ·have n1:=lt_size e;rw[eO b (ne_of_lt (Nat.lt_trans n1 sl)) (ne_of_lt (lt_of_lt_of_le n1 l)) λz=>by rw[z,hP]at n;cases n];exact n
   ·by_cases z:b=P
    ·rw[z];exact⟨_,gZ _ E⟩
    ·exact⟨o,kb b o z e⟩
   ·by_cases z:b=P
    ·rw[z,hP]at e;cases e;exact⟨_,by rw[z];exact eP⟩
    ·exact⟨#[],by rw[eK b _ e z];simp⟩
   ·obtain⟨o,es,ep,e,r⟩:=hm;exact⟨o,es,ep,kb _ _ R e,r⟩
   ·intro b u e;by_cases z1:b=h'.objs.size
    ·rw[z1,eF]at e;cases e;rw[z1];exact LamO.ok (get?_push_size _ rfl)
    by_cases z2:b=c'
    ·rw[z2,eC]at e;cases e;rw[z2];exact CodeO.ok (gZ _ A) hd hv
    by_cases z3:b=P
    ·rw[z3,eP]at e;cases e;rw[z3];exact gZ _ E
    rw[eO b z1 z2 z3]at e;refine(I.hok b u e).stay (λd v M q=>kb d v (λz=> ?_) q) (λd q=>eK d _ q λz=>by rw[z,hP]at q;cases q) λd xs q=>eK d _ q λz=>by rw[z,hP]at q;cases q
    rcases M with q|q
    ·exact z3 (q.symm.trans z)
    ·rw[z,hP]at q;cases q
  ·have:(ps++ #[rawInt pos.line,rawInt pos.col,Value.ref c']).toList=ps.toList++ [rawInt pos.line,rawInt pos.col,.ref c']:=by simp
   rw[this];exact TriplesOk_snoc _ _ _ _ ht
  ·have:(ps++ #[rawInt pos.line,rawInt pos.col,Value.ref c']).toList=ps.toList++ [rawInt pos.line,rawInt pos.col,.ref c']:=by simp
   rw[this];exact codeAmong_snoc _ ht F
 ·refine PySem.W.kla_makeFunctionHit (mg:=X.mg) hcl I.ok.glob hg hcode (C.keeps I.bk) x ht hf B' λD h' tk hk k=> ?_;obtain⟨⟨oc,vs,t,A,hd,hv⟩,_⟩:=I.hok c' _ p;have w:P<s.heap.objs.size:=lt_size x;have N:c'<s.heap.objs.size:=lt_size A;have g:h'.objs.size≠c':=Nat.ne_of_gt (lt_of_lt_of_le N k);have i:h'.objs.size≠P:=Nat.ne_of_gt (lt_of_lt_of_le w k);have j:c'≠P:=λe=>by rw[e,hP]at p;cases p
  have f:H h'.objs.size=none:=I.hok.fresh k;have kb:∀b o,s.heap.get? b=some o->(h'.push (kla_obj "<lambda>" (X.env.qual++ "<lambda>") params body scope clos ((X.mg "__name__").getD .none) c' D)).get? b=some o:=λb o e=>gZ _ (hk b o e);generalize a:upd H h'.objs.size (LamO "<lambda>" (X.env.qual++ "<lambda>") params body scope clos ((X.mg "__name__").getD .none) c' h'.objs.size)=H';have eF:H' h'.objs.size=some (LamO "<lambda>" (X.env.qual++ "<lambda>") params body scope clos ((X.mg "__name__").getD .none) c' h'.objs.size):=by rw[<-a,A7]
  have eO:∀b,b≠h'.objs.size->H' b=H b:=λb n1=>by rw[<-a,B7 n1]
  have eK:∀b o,H b=some o->H' b=some o:=λb o e=>by
   rw[eO b (λz=>by rw[z,f]at e;cases e)];exact e
  refine⟨.ref h'.objs.size,H', ?_,rfl,h _ c' H' f eF (eK _ _ p) ⟨_,eK _ _ hP,ht,hf⟩ g i j (λb n1 _ _=>eO b n1) λb o e _=>eK b o e⟩;refine I.step (g':=s.gens) (d':=s.drawn) (ch:=[]) (λ_ z=>nomatch z) (λb o _ _ _ e _=>kb b o e) (λb o _ _ _ e _=>⟨o.slots,kb b o e⟩)
    (λb o _ e n=> ?_) (λb o _ e=>⟨o,kb b o e⟩) (λb xs e=>eK b _ e) (λb o u e=>eK b _ e) (λb qs e=>⟨#[],by rw[eK b _ e];simp⟩) (λm hm=> ?_) ?_ I.bare
  ·have n1:=lt_size e;rw[eO b (ne_of_lt (lt_of_lt_of_le n1 k))];exact n
  ·obtain⟨o,es,ep,e,r⟩:=hm;exact⟨o,es,ep,kb _ _ e,r⟩
  ·intro b u e;by_cases z1:b=h'.objs.size
   ·rw[z1,eF]at e;cases e;rw[z1];exact LamO.ok (get?_push_size _ rfl)
   rw[eO b z1]at e;exact(I.hok b u e).stay (λd v _ q=>kb d v q) (λd q=>eK d _ q) λd xs q=>eK d _ q
end
noncomputable def del(H:Hp)(a:Addr):Hp:=λb=>if b=a then none else H b
theorem P2:del H a a=none:=by unfold del;rw[if_pos rfl]
theorem V2{a b:Addr}(h:b≠a):del H a b=H b:=by unfold del;rw[if_neg h]
theorem UX{o:HO}(h:del H a b=some o):b≠a/\H b=some o:=by
 by_cases e:b=a
 ·subst e;rw[P2]at h;cases h
 ·rw[V2 e]at h;exact⟨e,h⟩
theorem Z3{H:Hp}{b:Addr}(h:H b=none):del H a b=none:=by
 by_cases e:b=a
 ·subst e;exact P2
 ·rw[V2 e];exact h
structure CapOk (X:Cx) (clos:List (Str×Addr)) (fs:List Str) (js:List Nat):Prop where
 only:∀x c,clos.lookup x=some c->x∈fs/\X.env.cells.lookup x=some c
 has:∀x∈fs,∃c,clos.lookup x=some c
 kind:∀x∈fs,X.env.kindOf x=some .cell
 fn:∀x∈fs,X.fn x=true
 nm:∀(i:Nat) (x:Str),fs[i]? =some x->∃j,js[i]? =some j/\X.N[j]? =some x
 len:js.length=fs.length
noncomputable def dXZ(σ:St)(js:List Nat)(cvs:List V):Prop:=cvs.length=js.length/\∀(i j:Nat),js[i]? =some j->∃v,σ[j]? =some (some v)/\cvs[i]? =some v
structure LamAt (base:Heap) (name qual:Str) (params:Arguments) (body:Expr) (scope:Scope) (clos:List (Str×Addr)) (pm:Value) (c' f:Addr):Prop where
 fn:∃ctv,base.get? f=some (kla_obj name qual params body scope clos pm c' ctv)
 cd:base.CodeRec (.ref c') qual
theorem LamAt.fnAt{clos:List (Str×Addr)}(h:LamAt base name qual params body scope clos pm c' f):PySem.W.FnAt f base:=
 let⟨_,e⟩:=h.fn;⟨_,_,_,_,e⟩
noncomputable def bCZ(name qual:Str)(params:Arguments)(body:Expr)(scope:Scope)(clos:List (Str×Addr))(pm:Value)(fs:List Str)(js:List Nat)(sp:Heap->Sp)(E:XK)(t:TA):TE:=fun σ H Q=>t σ H λvs H1=>
 ∃f c' cvs,dXZ σ js cvs/\H1 f=some (LamO name qual params body scope clos pm c' f)/\H1 c'=some (CodeO qual c')/\f≠c'/\
  ∀base',LamAt base' name qual params body scope clos pm c' f->Caught base' clos fs cvs->sp base' vs (del (del H1 f) c') (λv H'=>H' f=none->H' c'=none->Q v (upd H' c' (CodeO qual c'))) E
noncomputable def T7(h base:Heap)(l:List Addr):Heap:=PySem.W.hideAll h ((List.range h.objs.size).filter λa=>(base.get? a).isNone&& !l.contains a)
theorem MU(h base:Heap)(l:List Addr):(T7 h base l).objs.size=h.objs.size:=PySem.W.hideAll_size _ _
theorem V5{h base:Heap}{l:List Addr}{b:Addr}{o:Obj}(e:h.get? b=some o)(k:(∃u,base.get? b=some u)\/b∈l):(T7 h base l).get? b=some o:=
 PySem.W.hideAll_get _ e λhm=>by
  have:=(mem_filter.mp hm).2;rw[Bool.and_eq_true]at this;rcases k with⟨u,k⟩|k
  ·rw[k]at this;simp at this
  ·simp[k]at this
theorem LL{b:Addr}{o:Obj}(e:(T7 h base l).get? b=some o):h.get? b=some o/\((∃u,base.get? b=some u)\/b∈l):=by
 have e':h.get? b=some o:=PySem.W.of_hideAll _ e;refine⟨e', ?_⟩;by_cases k:(∃u,base.get? b=some u)\/b∈l
 ·exact k
 ·exfalso;have z:(T7 h base l).get? b=none:=PySem.W.hideAll_none _ (mem_filter.mpr ⟨mem_range.mpr (lt_size e'),by
   rw[Bool.and_eq_true];constructor
   ·cases q:base.get? b with
    |none=>rfl
    |some u=>exact absurd (.inl ⟨u,q⟩) k
   ·simp;exact λq=>k (.inr q)⟩)
  rw[z]at e;cases e
theorem NE{h:Heap}{l:List Addr}:∀ {es:List Env},(∀b∈frs es,b∉l)->h.FunFrames base es->h.FunFrames (T7 h base l) es:=by
 intro es;induction es with
 |nil=>intro _ _;trivial
 |cons a r ih=>
  intro hs hl;obtain⟨hk,⟨L,o,hf,hn,ho,hd⟩,hr⟩:=hl;refine⟨hk,⟨L,o,hf, ?_,ho,hd⟩,ih (λb hb=>hs b (by unfold frs;rw[filterMap_cons,hf];exact mem_cons_of_mem _ hb)) hr⟩;cases q:(T7 h base l).get? L with
  |none=>rfl
  |some u=>
   rcases(LL q).2 with⟨v,z⟩|z
   ·rw[hn]at z;cases z
   ·exact absurd z (hs L (by unfold frs;rw[filterMap_cons,hf];exact mem_cons_self))
section
theorem WD{X:Cx}{sp:Heap->Sp}{es:List Expr}{clos:List (Str×Addr)}(F:∀base',FnOk X.prog X.w X.K X.mg base' CX0 k g fd ps (sp base'))(hr:Room k X.A)(hg:Gl X x)(hm:X.mg x=some (.ref g))(hk:kZ X.K (.ref g)=true)(hb:Binds X.K fd ps [])(C:CapOk X clos fs js)
  (ha:PA X (e::es) t)(hdb:(x==("__debug__":Str))=false)(he:starEach (e::es) X.env=(false,eval e X.env)::starEach es X.env)(hpl:(backTo pos (starEach es X.env)).any (·.1)=false):
  PE X (.Call (.Name x p) (e::es) [] pos) (bCZ name qual params body scope clos pm fs js sp E0 t):=by
 intro E s σ H Q I h;refine wpAny_Call_Name_kw (AD I hg hm ?_ hdb);refine callWith_K (h₀:=X.base) I.ok.mod.kin hk (thn (ha pos E s σ H _ I h) λus s1 ⟨vs,H1,I1,r,q⟩=>⟨I1.kIn, ?_⟩) he hpl;obtain⟨f,c',an,W,hf,hc,ar,q⟩:=q;obtain⟨⟨ao,U⟩,_⟩:=I1.hok f _ hf;obtain⟨⟨oc,aa,tc,N,V,D⟩,_⟩:=I1.hok c' _ hc;have a:∀y∈fs,∃c,clos.lookup y=some c/\X.env.cells.lookup y=some c/\X.s₀.heap.objs.size<=c:=λy hy=>by
  obtain⟨c,e⟩:=C.has y hy;exact⟨c,e,(C.only y c e).2,I1.ok.cab y c (C.fn y hy) (C.only y c e).2⟩
 generalize hl:f::c'::fs.filterMap (λy=>clos.lookup y)=l;have T:∀b∈l,b=f\/b=c'\/∃y∈fs,clos.lookup y=some b:=λb hb=>by
  rw[<-hl]at hb;rcases cZ hb with e|hb
  ·exact .inl e
  rcases cZ hb with e|hb
  ·exact .inr (.inl e)
  obtain⟨y,hy,e⟩:=mem_filterMap.mp hb;exact .inr (.inr ⟨y,hy,e⟩)
 have fl:f∈l:=by rw[<-hl];exact mem_cons_self
 have aq:c'∈l:=by rw[<-hl];exact mem_cons_of_mem _ mem_cons_self
 have yl:∀y∈fs,∀c,clos.lookup y=some c->c∈l:=λy hy c e=>by
  rw[<-hl];exact mem_cons_of_mem _ (mem_cons_of_mem _ (mem_filterMap.mpr ⟨y,hy,e⟩))
 have n2:∀ {b:Addr},H1 b=none->del (del H1 f) c' b=none:=λh=>Z3 (Z3 h);have ac:∀ {b:Addr} {o:HO},H1 b=some o->(∀φ,o≠ .ext φ)->b≠f/\b≠c':=λ{b o} e n=>
  ⟨λz=>by rw[z,hf]at e;exact n _ (Option.some.inj e).symm,λz=>by rw[z,hc]at e;exact n _ (Option.some.inj e).symm⟩
 have d2:∀ {b:Addr} {o:HO},H1 b=some o->(∀φ,o≠ .ext φ)->del (del H1 f) c' b=some o:=λ{b o} e n=>by
  obtain⟨a1,a2⟩:=ac e n;rw[V2 a2,V2 a1];exact e
 have L:HOk X.prog X.w (del (del H1 f) c') s1.heap:=λb u e=>by
  obtain⟨_,e1⟩:=UX e;obtain⟨_,e2⟩:=UX e1;exact(I1.hok b u e2).stay (λ_ _ _ q=>q) (λd q=>d2 q fun φ z=>nomatch z) λd xs q=>d2 q fun φ z=>nomatch z
 have P:∀b o,X.base.get? b=some o->(T7 s1.heap X.base l).get? b=some o:=λb o e=>V5 (I1.bk b o e) (.inl ⟨o,e⟩);have S:∀ {b:Addr} {m:Str->Option Value},X.base.Ns b m->(T7 s1.heap X.base l).Ns b m:=λ{b m} ⟨o,es,ep,e,r⟩=>⟨o,es,ep,P _ _ e,r⟩;have hM:Mod X.K X.mg (T7 s1.heap X.base l):=⟨I1.mod.kin.keeps P,S I1.mod.glob,(let⟨mb,b1,b2⟩:=I1.mod.blt;⟨mb,S b1,b2⟩),I1.mod.nolimit.keeps P⟩;have G:∀b∈frs X.stack,b∉l:=λb hb ah=>by
  have hn:=I1.stkFree b hb;rcases T b ah with z|z|⟨y,hy,z⟩
  ·rw[z,hf]at hn;cases hn
  ·rw[z,hc]at hn;cases hn
  ·obtain⟨c,e1,e2,e3⟩:=a y hy;rw[z]at e1;cases e1;rcases cZ (I1.stkSub b hb)with q|q
   ·exact I1.cne y b e2 q
   ·obtain⟨_,o,ho,_⟩:=I1.ok.funs.mem q;exact absurd (lt_of_lt_of_le (lt_size ho) e3) (lt_irrefl _)
 have e0:Env0 X.prog X.w X.K X.mg (T7 s1.heap X.base l) X.A X.stack s1 (del (del H1 f) c'):=⟨I1.ok.frames,hM,λb o e=>by
  obtain⟨e1,kk⟩:=LL e;refine⟨e1, ?_⟩;rcases kk with⟨u,z⟩|z
  ·exact n2 (I1.bs b u z).2
  ·rcases T b z with z|z|⟨y,hy,z⟩
   ·rw[z];exact Z3 P2
   ·rw[z];exact P2
   ·exact n2 (I1.freeC y b (C.only y b z).2),Nat.le_of_eq (MU _ _ _),NE G I1.stack,λb hb=>n2 (I1.stkFree b hb),L,I1.bare⟩
 have LA:LamAt (T7 s1.heap X.base l) name qual params body scope clos pm c' f:=⟨⟨ao,V5 U (.inr fl)⟩,⟨c',oc,aa,tc,rfl,V5 N (.inr aq),V,D⟩⟩;have CA:Caught (T7 s1.heap X.base l) clos fs an:=by
  refine⟨W.1.trans C.len,λy z c h1 h2=>I1.ok.inj y z c (C.only y c h1).2 (C.only z c h2).2,λy c h=>(C.only y c h).1,λi y hy=> ?_⟩;have B:y∈fs:=mem_of_getElem? hy;obtain⟨c,c1,c2,_⟩:=a y B;obtain⟨j,hj,hN⟩:=C.nm i y hy;obtain⟨v,hv,D⟩:=W.2 i j hj;obtain⟨m,hn,af⟩:=I1.loc;obtain⟨u,ru,lk⟩:=af j y v hN hv (.inr (.inl (C.kind y B)));rcases lk with⟨z,_⟩|⟨_,c3,e3,o,ho,hd⟩
  ·rw[C.kind y B]at z;cases z
  ·rw[c2]at e3;cases e3;exact⟨c,u,v,c1,⟨o,V5 ho (.inr (yl y B c c1)),hd⟩,D,ru⟩
 have hq:=q _ LA CA;have ad:us.length=ps.length:=by rw[<-r.length];exact(F _).len _ _ _ _ hq
 have aj:BindsTo s1 fd ⟨us,[]⟩ (ps.zip us):=by
  have:=hb s1 us I1.kIn (by rw[append_nil];exact ad);rw[append_nil]at this;exact this
 refine wpAny_call (codeAny_mono ((F _).run X.A X.stack s1 _ ⟨us,[]⟩ us vs _ E0 hr e0 aj r hq) λrr s' hR=> ?_);cases rr with
 |error e=>exact False.elim hR
 |ok ak=>
  cases ak with
  |next=>exact False.elim hR
  |brk=>exact False.elim hR
  |cont=>exact False.elim hR
  |ret u=>
   obtain⟨v,H',os,R,un,M,rv,hQ⟩:=hR;obtain⟨hh,g',d',t',ab⟩:=s';obtain rfl:ab=s1.os:=os;have ap:c'∉frs X.stack:=λz=>by have:=I1.stkFree c' z;rw[hc]at this;cases this
   have ag:hh.get? c'=some oc:=un.keep c' oc N P2 ap (by simp);have Y:H' c'=none:=un.free c' oc N P2 (by simp);have O:H' f=none:=un.free f _ U (Z3 P2) (by simp);have up:∀ {b:Addr} {o:HO},H' b=some o->upd H' c' (CodeO qual c') b=some o:=λ{b o} e=>by rw[B7 (C6 e Y)];exact e
   refine⟨v,upd H' c' (CodeO qual c'), ?_,rv,hQ O Y⟩;refine I1.step (g':=g') (d':=d') (t':=t') (h':=hh) (ch:=[]) (λ_ z=>nomatch z) (λb o hL ai _ e n=>un.keep b o e (n2 n) (λz=>(cZ (I1.stkSub b z)).elim hL ai) (by simp)) (λb o _ _ _ e n=>un.any e (n2 n) (by simp))
    (λb o _ e n=> ?_) (λb o _ e=>un.there b o e (by simp)) (λb xs e=>up (un.tups b xs (d2 e fun φ z=>nomatch z))) (λb o u e=>up (un.frzs b o u (d2 e fun φ z=>nomatch z))) (λb qs e=> ?_) (λm hm=> ?_) (λb w e=> ?_) R
   ·have ne:b≠c':=λz=>by rw[z,hc]at n;cases n
    rw[B7 ne];exact un.free b o e (n2 n) (by simp)
   ·obtain⟨J,e1⟩:=un.tbls b qs (d2 e fun φ z=>nomatch z);exact⟨J,up e1⟩
   ·obtain⟨o',al,am,ae,r'⟩:=hm;obtain⟨sl,hL⟩:=un.any ae (n2 I1.free) (by simp);exact⟨_,al,am,hL,r'⟩
   ·by_cases z:b=c'
    ·subst z;rw[A7]at e;cases e;exact CodeO.ok ag V D
    ·rw[B7 z]at e;exact(M b w e).stay (λ_ _ _ q=>q) (λd q=>up q) λd xs q=>up q
end
noncomputable def EC(Z:FZ)(base:Heap)(f:Addr):Prop:=kZ Z (.ref f)=true\/PySem.W.FnAt f base
noncomputable def ZF(P:Program)(w:World)(Z:FZ)(mg:Str->Option Value)(base:Heap)(A:Around)(CX:CXT)(E:XK)(tf:TE)(t:TA):TE:=fun σ H Q=>tf σ H λx H0=>∃(f:Addr) (fd:FuncData) (ps:List Str) (sp:Sp) (k:Nat),
 x=.ref f/\FnOk P w Z mg base CX k f fd ps sp/\Room k A/\EC Z base f/\Binds Z fd ps []/\t σ H0 λvs H1=>sp vs H1 Q E
section
theorem GG{P:Program}{w:World}{Z:FZ}{mg:Str->Option Value}{base:Heap}{A:Around}{e:Expr}{es:List Expr}(hf:PE X (.Name x p) tf)(hx:S8 CX X E)(ha:PA X (e::es) t)(hP:X.prog=P)(hw:X.w=w)(hK:X.K=Z)(hmg:X.mg=mg)(hbs:X.base=base)(hA:X.A=A)
  (he:starEach (e::es) X.env=(false,eval e X.env)::starEach es X.env)(hpl:(backTo pos (starEach es X.env)).any (·.1)=false):
  PE X (.Call (.Name x p) (e::es) [] pos) (ZF P w Z mg base A CX E tf t):=by
 subst hP;subst hw;subst hK;subst hmg;subst hbs;subst hA;intro a s σ H Q I h;refine wpAny_Call_Name_kw (thn (hf a s σ H _ I h) λfv s0 ⟨y,H0,I0,r0,q0⟩=> ?_);obtain⟨f,fd,ps,sp,k,rfl,F,hr,hk,hb,q⟩:=q0;cases r0;rcases hk with hk|⟨oc,od,b,sl,ho⟩
 ·refine callWith_K (h₀:=X.base) I0.ok.mod.kin hk (thn (ha pos a s0 σ H0 _ I0 q) λus s1 ⟨vs,H1,I1,r,q1⟩=>⟨I1.kIn, ?_⟩) he hpl;exact DG (dvs:=[]) F hr hb .nil hx I1 r (by rw[append_nil];exact q1)
 ·refine PySem.W.callWith_F ⟨oc,od,b,sl,I0.bk _ _ ho⟩ (thn (ha pos a s0 σ H0 _ I0 q) λus s1 ⟨vs,H1,I1,r,q1⟩=>⟨⟨oc,od,b,sl,I1.bk _ _ ho⟩, ?_⟩) he hpl;exact DG (dvs:=[]) F hr hb .nil hx I1 r (by rw[append_nil];exact q1)
end
theorem Fun.okC{st:Stmt}{sp:Sp}(F:Fun Z x qual st f fd)(S:FnScope N ps (B6 st))(len:∀vs H Q E,sp vs H Q E->vs.length=ps.length)
  (hbody:∀(cdv:Value) (A:Around) (outer:List Env) (s:Shared) (H:Hp) (vs:List V) (Q:VK) (E:XK),fd.code=cdv->Room k (A.deeper (envOfC qual (B6 st) s.heap.objs.size f cdv))->sp vs H Q E->
   ∃t,PSs (HU CX0 P w Z mg base N qual (B6 st) f cdv A outer s H E).nox (E5 st) t/\t {nx:=λ_ H'=>Q .non H',rt:=Q} (start N vs) H):FnOk P w Z mg base CX0 (k+1) f fd ps sp:=by
 obtain⟨oc,od,kV,d,pm,an,cdv,ct,c,rfl,lk,b⟩:=F.ex;refine aWZ lk b S len λA outer s H vs Q E hr a=> ?_;obtain⟨t,h,q⟩:=hbody cdv A outer s H vs Q E rfl hr a;exact⟨t,h.nox,q⟩
structure OnlyT (tabs:List (Addr×Addr)) (H:Hp):Prop where
 only:∀b,H b=none\/(∃o xs,H b=some (.frz o (.lst xs)))\/H b=some (.tbl #[])
 tab:∀q∈tabs,H q.2=some (.tbl #[])
structure TabsB (tabs:List (Addr×Addr)) (mg:Str->Option Value) (base:Heap):Prop where
 code:∀q∈tabs,PySem.W.CodeHd base q.1 q.2
 blt:∀q∈tabs,base.BuiltinsAt mg q.2
theorem RI{Z:FZ}{a:Addr}{x:Str}{s₁:Shared}{vs:List Value}
  (_K:Z.In s₁.heap)(hns:s₁.heap.Ns mainGlobals mg)(hb:s₁.heap.Ns builtinsNs mb)(hbb:∀x:Str,x≠ "__name__"->mb x=bootBuiltins x)(hlim:s₁.heap.NoLimit)(hg:s₁.gens= #[])
  (hT:PySem.W.TabsAt tabs s₁.heap)(hK:PySem.W.noTabs Z=true)(hbm:∃bm ob,mg "__builtins__"=some (.ref bm)/\bm≠builtinsNs/\s₁.heap.get? bm=some ob/\ob.cls=.type "module"/\ob.dict=some builtinsNs/\ob.data=.plain)
  (ha:s₁.heap.get? a=some {cls:=.type "list",data:=.seq vs.toArray})(hi:IntsAre vs ns)(hl:ns.length<=sizeLine)(hr:Room k callerA)
  (F:∀base:Heap,Z.In base->base.Ns mainGlobals mg->TabsB tabs mg base->FnOk P w Z mg base CX k fa fd [x] sp)(hbind:∀(s:Shared) (u:Value),BindsTo s fd ⟨[u],[]⟩ [(x,u)])
  (hsp:∀H:Hp,OnlyT tabs H->SqL Z H a (ns.map V.int)->sp [.ref a] H (λv _=>v=.bl true) λ_ _ _=>False)
  (hCX:∀H e s',CX [] H s₁ (λ_ _ _=>False) e s'->False):
  codeAny (model P w) callerA (.call (.ref fa) ⟨[.ref a],[]⟩) (λr s'=>r=.ok (.ret (.bool true))/\OldK s₁.heap s'.heap/\s'.os=s₁.os/\AllBare s'.gens) s₁:=by
 have rv:=FQ hi;have E:=hi.length;have J:∀H:Hp,OnlyT tabs H->SqL Z H a (ns.map V.int)->HOk P w H s₁.heap->(∀b,H b≠none->b=a\/b∈tabs.map (·.2))->(H a≠none->Z.lookup a=none)->
   codeAny (model P w) callerA (.call (.ref fa) ⟨[.ref a],[]⟩) (λr s'=>r=.ok (.ret (.bool true))/\OldK s₁.heap s'.heap/\s'.os=s₁.os/\AllBare s'.gens) s₁:=by
  intro H hO hS I hA T;have c:∀ {b:Addr} {o:Obj},s₁.heap.get? b=some o->H b=none->(FD s₁.heap H).get? b=some o:=λe n=>VF e n;have R:∀ {b:Addr},H b≠none->s₁.heap.get? b=some {cls:=.type "list",data:=.seq vs.toArray}\/s₁.heap.get? b=some (PySem.W.tabObj #[]):=λ{b} h=>by
   rcases hA b h with e|e
   ·rw[e];exact .inl ha
   ·obtain⟨q,hq,rfl⟩:=mem_map.mp e;exact .inr (hT q hq).2
  have D:∀ {b:Addr} {o:Obj},s₁.heap.get? b=some o->o≠ {cls:=.type "list",data:=.seq vs.toArray}->o≠PySem.W.tabObj #[]->H b=none:=λ{b o} e n1 n2=>by
   cases q:H b with
   |none=>rfl
   |some u=>
    rcases R (b:=b) (by rw[q];simp)with z|z<;>rw[e]at z
    ·exact absurd (Option.some.inj z) n1
    ·exact absurd (Option.some.inj z) n2
  have A:∀ {b:Addr} {m:Str->Option Value},s₁.heap.Ns b m->(FD s₁.heap H).Ns b m:=λ{b m} ⟨o,es,ep,e,d,r⟩=>⟨o,es,ep,c e (D e (λz=>by rw[z]at d;cases d) λz=>by rw[z]at d;cases d),d,r⟩;have O:Z.In (FD s₁.heap H):=λb o e=>c (_K b o e) (by
   cases q:H b with
   |none=>rfl
   |some u=>
    rcases hA b (by rw[q];simp)with z|z
    ·subst z;rw[T (by rw[q];simp)]at e;cases e
    ·obtain⟨t,ht,rfl⟩:=mem_map.mp z;have h2:=all_eq_true.mp hK _ (PySem.W.mem_of_lookupK e);have h3:=_K _ _ e;rw[(hT t ht).2]at h3;cases h3;exact absurd (show false=true from h2) nZ)
  have hM:Mod Z mg (FD s₁.heap H):=⟨O,A hns,⟨mb,A hb,hbb⟩,let⟨mc,h1,h2⟩:=hlim;⟨mc,A h1,h2⟩⟩;have S:TabsB tabs mg (FD s₁.heap H):=by
   refine⟨λq hq=> ?_,λq hq=> ?_⟩
   ·obtain⟨o,B,p,tf,g,tg,M,i,tt,e,c1,c2,r⟩:=(hT q hq).1;exact⟨o,B,p,tf,g,tg,M,i,tt,c e (D e (λz=>by rw[z]at c1;injection c1 with q;exact absurd q (by decide)) λz=>by rw[z]at c1;cases c1),c1,c2,r⟩
   ·obtain⟨bm,ob,b1,b2,b3,b4,b5,b6⟩:=hbm;refine⟨bm,ob,b1,b2,λz=> ?_,λz=> ?_,c b3 (D b3 (λz=>by rw[z]at b4;injection b4 with q;exact absurd q (by decide)) λz=>by rw[z]at b4;cases b4),b4,b5,b6⟩
    ·obtain⟨o,es,ep,e,hd,_⟩:=hns;rw[z,e]at b3;cases b3;rw[hd]at b6;cases b6
    ·rw[z,(hT q hq).2]at b3;cases b3;cases b4
  have e0:Env0 P w Z mg (FD s₁.heap H) callerA [] s₁ H:=⟨rfl,hM,λb o e=>aaZ e,Nat.le_of_eq (SG _ _),trivial,λb hb=>absurd (show b∈([]:List Addr)from hb) (by simp),I,.of_eq hg⟩;refine codeAny_mono ((F _ O (A hns) S).run callerA [] s₁ H ⟨[.ref a],[]⟩ [.ref a] [.ref a] _ _ hr e0 (hbind s₁ (.ref a)) (.cons rfl .nil) (hsp H hO hS)) λr s' h=> ?_;cases r with
  |error e=>exact(hCX H e s' h).elim
  |ok fl=>
   cases fl with
   |next=>exact False.elim h
   |brk=>exact False.elim h
   |cont=>exact False.elim h
   |ret u=>
    obtain⟨v,H',os,L,un,l,r',q⟩:=h;have q':v=.bl true:=q;subst q';obtain rfl:u=Value.bool true:=r';have C:∀b:Addr,b∉frs ([]:List Env):=λb z=>absurd (show b∈([]:List Addr)from z) (by simp);refine⟨rfl,⟨λb o e=> ?_,λb o e=>un.there b o e (by simp)⟩,os,L⟩;cases q:H b with
    |none=>exact .inl (un.keep b o e q (C b) (by simp))
    |some u=>
     rcases hO.only b with z|⟨ob,xs,z⟩|z
     ·rw[q]at z;cases z
     ·have z2:=un.frzs b ob _ z;obtain⟨e1,_⟩:=I b _ z;obtain⟨e2,_⟩:=l b _ z2;rw[e]at e1;cases e1;exact .inl e2
     ·obtain⟨j,z2⟩:=un.tbls b #[] z;have e2:s'.heap.get? b=some {cls:=.none,data:=.fields (#[]++j)}:=l b _ z2;have e1:s₁.heap.get? b=some {cls:=.none,data:=.fields #[]}:=I b _ z;rw[e]at e1;cases e1;rcases hA b (by rw[q];simp)with y|y
      ·rw[y,ha]at e;cases e
      ·obtain⟨t,ht,rfl⟩:=mem_map.mp y;obtain⟨o,B,p,tf,g,tg,M,i,tt,e',c1,c2,c3,r⟩:=(hT t ht).1;exact .inr (.inl ⟨⟨t.1,o,B,e',c1,c2,c3⟩,rfl, #[],j,rfl,e2⟩)
 have Q:∀q∈tabs,q.2≠a:=λq hq z=>by have:=(hT q hq).2;rw[z,ha]at this;cases this
 have mk:∀H0:Hp,(∀b,H0 b≠none->b=a)->(∀b,H0 b=none\/∃o xs,H0 b=some (.frz o (.lst xs)))->SqL Z H0 a (ns.map V.int)->HOk P w H0 s₁.heap->(H0 a≠none->Z.lookup a=none)->
   codeAny (model P w) callerA (.call (.ref fa) ⟨[.ref a],[]⟩) (λr s'=>r=.ok (.ret (.bool true))/\OldK s₁.heap s'.heap/\s'.os=s₁.os/\AllBare s'.gens) s₁:=by
  intro H0 h1 h2 h3 h4 h5;generalize hH:(λb=>if b∈tabs.map (·.2)then some (HO.tbl #[])else H0 b:Hp)=H;have G:∀ {b},b∈tabs.map (·.2)->H b=some (.tbl #[]):=λ{b} h=>by rw[<-hH];exact if_pos h
  have f:∀ {b},b∉tabs.map (·.2)->H b=H0 b:=λ{b} h=>by rw[<-hH];exact if_neg h
  have nT:a∉tabs.map (·.2):=λz=>by obtain⟨q,hq,e⟩:=mem_map.mp z;exact Q q hq e
  have up:∀ {b o},H0 b=some o->H b=some o:=λ{b o} e=>by
   have:b=a:=h1 b (by rw[e];simp);rw[f (by rw[this];exact nT)];exact e
  refine J H ⟨λb=> ?_,λq hq=>G (List.mem_map_of_mem hq)⟩ ?_ (λb u e=> ?_) (λb hb=> ?_) (λh=>h5 (by rw[f nT]at h;exact h))
  ·by_cases hb:b∈tabs.map (·.2)
   ·exact .inr (.inr (G hb))
   ·rw[f hb];exact(h2 b).elim .inl λh=> .inr (.inl h)
  ·rcases h3 with h|h
   ·rcases h with h|⟨o,h⟩
    ·exact .inl (.inl (up h))
    ·exact .inl (.inr ⟨o,up h⟩)
   ·exact .inr h
  ·by_cases hb:b∈tabs.map (·.2)
   ·rw[G hb]at e;cases e;obtain⟨q,hq,rfl⟩:=mem_map.mp hb;exact(hT q hq).2
   ·rw[f hb]at e;exact(h4 b u e).stay (λ_ _ _ q=>q) (λ_ q=>up q) λ_ _ q=>up q
  ·by_cases N:b∈tabs.map (·.2)
   ·exact .inr N
   ·rw[f N]at hb;exact .inl (h1 b hb)
 cases hk:Z.lookup a with
 |some o=>
  have e:=_K a o hk;rw[ha]at e;cases e;exact mk (λ_=>none) (λb z=>absurd rfl z) (λ_=> .inl rfl) (.inr ⟨_,vs.toArray,_,hk,rfl,rfl,rfl,by rw[size_toArray,E];exact hl,by simpa using rv⟩) (λb u z=>by have z':(none:Option HO)=some u:=z;cases z') λz=>absurd rfl z
 |none=>
  refine mk (λb=>if b=a then some (.frz {cls:=.type "list",data:=.seq vs.toArray} (.lst (ns.map V.int)))else none) (λb z=> ?_) (λb=> ?_) (.inl (.inr ⟨{cls:=.type "list",data:=.seq vs.toArray},if_pos rfl⟩)) (λb u z=> ?_) λ_=>hk
  ·by_cases hb:b=a
   ·exact hb
   ·exact absurd (if_neg hb) z
  ·by_cases hb:b=a
   ·exact .inr ⟨_,_,if_pos hb⟩
   ·exact .inl (if_neg hb)
  ·by_cases hb:b=a
   ·have z':=(if_pos hb).symm.trans z;cases z';subst hb;exact⟨ha,by rw[length_map];exact hl,vs,_,rv,ha⟩
   ·have z':=(if_neg hb).symm.trans z;cases z'
theorem walk_ofKT{l:PySem.W.OpenLaw}{n:Nat}{loose:List Str}{XP:(Str->Option Value)->Heap->Prop}{YP:World->Heap->Prop}{d:DefRec}{Z:Params->FZ}{sp:FZ->Sp}{x:Str}
  (hn:l.most=some n)(hn2:n<=sizeLine)(hdf:d.params.defaults=[])(hr:Room k callerA)
  (hY:∀(w:World) (h:Heap),YP w h->(Z w.params).In h)
  (hT:∀(w:World) (lo:List Str) (mean:ExcName->Option Value) (mg mb:Str->Option Value) (h:Heap),Top q lo mean mg mb h->(Z w.params).In h->PySem.W.TabsAt tabs h)(hK:∀w:World,PySem.W.noTabs (Z w.params)=true)
  (F:∀(w:World) (mg:Str->Option Value) (fa:Addr) (h:Heap),(Z w.params).In h->h.Ns mainGlobals mg->mg d.name=some (.ref fa)->
   ∃fd:FuncData,(∀(s:Shared) (u:Value),BindsTo s fd ⟨[u],[]⟩ [(x,u)])/\
    ∀base:Heap,(Z w.params).In base->base.Ns mainGlobals mg->TabsB tabs mg base->FnOk l.prog w (Z w.params) mg base CX k fa fd [x] (sp (Z w.params)))
  (hsp:∀(Z:FZ) (H:Hp) (a:Addr) (ns:List Int),ns.length<=n->OnlyT tabs H->SqL Z H a (ns.map V.int)->sp Z [.ref a] H (λv _=>v=.bl true) λ_ _ _=>False)
  (hCX:∀(H:Hp) (s:Shared) (e:Value) (s':Shared),CX [] H s (λ_ _ _=>False) e s'->False):
  PySem.W.WalkO q loose XP YP l.row.toRowW d [] (λf vs=>PySem.call f vs):=by
 refine Att.attach_call hn hdf λw s₀ s₁ mg mb fa o pm cd r a vs ns G Y ho hd p m j i c hg=> ?_;have _K:=hY w _ Y;obtain⟨fd,hb,hF⟩:=F w mg fa _ _K G.T.g m;exact RI _K G.T.g G.T.b G.T.builtins G.T.nolimit hg (hT w _ _ mg mb _ G.T _K) (hK w) G.T.bmain j i (le_trans c hn2) hr hF hb (λH hO hS=>hsp (Z w.params) H a ns c hO hS) λH e s'=>hCX H s₁ e s'
section
variable{κ:Type}[DecidableEq κ]
noncomputable def K9(kvs:List (κ×V))(k:κ):Option V:=(kvs.find? λkv=>decide (kv.1=k)).map (·.2)
noncomputable def S0(kvs:List (κ×V))(k:κ)(v:V):List (κ×V):=
 if(kvs.any λkv=>decide (kv.1=k))=true then kvs.map (λkv=>if kv.1=k then(kv.1,v)else kv)else kvs++ [(k,v)]
theorem K8{p:κ×V}{r:List (κ×V)}{k:κ}(e:p.1=k):K9 (p::r) k=some p.2:=by simp[K9,find?_cons,e]
theorem K7{p:κ×V}{r:List (κ×V)}{k:κ}(e:¬p.1=k):K9 (p::r) k=K9 r k:=by simp[K9,find?_cons,e]
theorem R5(k:κ):∀kvs:List (κ×V),(kvs.any λkv=>decide (kv.1=k))=(K9 kvs k).isSome
 | []=>rfl
 |p::r=>by
  rw[any_cons];by_cases e:p.1=k
  ·simp only[K8 e,decide_eq_true e,Bool.true_or,Option.isSome_some]
  ·rw[K7 e,decide_eq_false e,Bool.false_or];exact R5 k r
theorem KQ(k j:κ)(y:V):∀kvs:List (κ×V),K9 (kvs.map λkv=>if kv.1=k then(kv.1,y)else kv) j=(K9 kvs j).map λx=>if j=k then y else x
 | []=>rfl
 |p::r=>by
  have ih:=KQ k j y r;rw[map_cons];by_cases h:p.1=k
  ·rw[if_pos h];by_cases e:p.1=j
   ·rw[K8 (p:=(p.1,y)) e,K8 e,map_some,if_pos (e.symm.trans h)]
   ·rw[K7 (p:=(p.1,y)) e,K7 e,ih]
  ·rw[if_neg h];by_cases e:p.1=j
   ·rw[K8 (p:=p) e,K8 e,map_some,if_neg (λz=>h (e.trans z))]
   ·rw[K7 (p:=p) e,K7 e,ih]
theorem FR(k j:κ)(y:V):∀kvs:List (κ×V),K9 kvs k=none->K9 (kvs++ [(k,y)]) j=if j=k then some y else K9 kvs j
 | [],_=>by
  by_cases e:k=j
  ·rw[if_pos e.symm];exact K8 (p:=(k,y)) e
  ·rw[if_neg (λz=>e z.symm)];exact K7 (p:=(k,y)) e
 |p::r,hn=>by
  rw[List.cons_append];have hk:¬p.1=k:=λz=>by rw[K8 z]at hn;cases hn
  rw[K7 hk]at hn;have ih:=FR k j y r hn;by_cases e:p.1=j
  ·rw[K8 e,K8 e,if_neg (λz=>hk (e.trans z))]
  ·rw[K7 e,K7 e,ih]
theorem KJ(kvs:List (κ×V))(k j:κ)(y:V):K9 (S0 kvs k y) j=if j=k then some y else K9 kvs j:=by
 unfold S0;by_cases a:(kvs.any λkv=>decide (kv.1=k))=true
 ·rw[if_pos a,KQ];rw[R5]at a;by_cases e:j=k
  ·obtain⟨x,hx⟩:=Option.isSome_iff_exists.mp a;rw[if_pos e,e,hx,map_some,if_pos rfl]
  ·rw[if_neg e];cases K9 kvs j with
   |none=>rfl
   |some x=>rw[map_some,if_neg e]
 ·rw[if_neg a];refine FR k j y kvs ?_;rw[R5]at a;cases q:K9 kvs k with
  |none=>rfl
  |some x=>rw[q]at a;exact(a rfl).elim
theorem U2(kvs:List (κ×V))(k:κ)(v:V):(S0 kvs k v).length<=kvs.length+1:=by
 unfold S0;split
 ·rw[length_map];omega
 ·rw[length_append,length_cons,length_nil];omega
theorem Q7{kvs:List (κ×V)}{k:κ}(v:V)(h:K9 kvs k=none):S0 kvs k v=kvs++ [(k,v)]:=by
 unfold S0;rw[R5,h];exact if_neg (by decide)
theorem RelO.isSome_eq(r:RelO o u):o.isSome=u.isSome:=by
 cases o with
 |none=>cases u with
  |none=>rfl
  |some _=>exact(show False from r).elim
 |some _=>cases u with
  |none=>exact(show False from r).elim
  |some _=>rfl
theorem RelO.getD(r:RelO o u)(rd:RelV d d'):RelV (o.getD d) (u.getD d'):=by
 cases o with
 |none=>cases u with
  |none=>exact rd
  |some _=>exact(show False from r).elim
 |some _=>cases u with
  |none=>exact(show False from r).elim
  |some _=>exact r
theorem KV.val(r:KV kvs vs)(k:κ):RelO (K9 kvs k) (valueAt vs k):=by
 unfold KV at r;induction r with
 |nil=>exact True.intro
 | @cons p q ps qs h t ih=>
  obtain⟨h1,h2⟩:=h;by_cases e:p.1=k
  ·have e':q.1=k:=h1.symm.trans e;have b:valueAt (q::qs) k=some q.2:=by simp[valueAt,find?_cons,e']
   rw[K8 e,b];exact h2
  ·have e':¬q.1=k:=λz=>e (h1.trans z);have b:valueAt (q::qs) k=valueAt qs k:=by simp[valueAt,find?_cons,e']
   rw[K7 e,b];exact ih
theorem KV.any(r:KV kvs vs)(k:κ):(kvs.any λkv=>decide (kv.1=k))=vs.any λkv=>decide (kv.1=k):=by
 unfold KV at r;induction r with
 |nil=>rfl
 |cons h t ih=>rw[any_cons,any_cons,ih,h.1]
theorem KV.repl(r:KV kvs vs)(k:κ)(ry:RelV y u):
  KV (kvs.map λkv=>if kv.1=k then(kv.1,y)else kv) (vs.map λkv=>if kv.1=k then(kv.1,u)else kv):=by
 unfold KV at r⊢;induction r with
 |nil=>exact .nil
 | @cons p q ps qs h t ih=>
  rw[map_cons,map_cons];refine .cons ?_ ih;obtain⟨h1,h2⟩:=h;by_cases e:p.1=k
  ·rw[if_pos e,if_pos (h1.symm.trans e)];exact⟨h1,ry⟩
  ·rw[if_neg e,if_neg (λz=>e (h1.trans z))];exact⟨h1,h2⟩
theorem KV.put(r:KV kvs vs)(k:κ)(ry:RelV y u):KV (S0 kvs k y) (stored vs k u):=by
 unfold S0 stored;rw[r.any k];by_cases e:(vs.any λkv=>decide (kv.1=k))=true
 ·rw[if_pos e,if_pos e];exact r.repl k ry
 ·rw[if_neg e,if_neg e];exact Paired.snoc r ⟨rfl,ry⟩
theorem KV.keys{kvs:List (κ×V)}{vs:List (κ×Value)}(r:KV kvs vs):kvs.map (·.1)=vs.map (·.1):=by
 unfold KV at r;induction r with
 |nil=>rfl
 |cons h t ih=>rw[map_cons,map_cons,ih,h.1]
theorem KV.length(r:KV kvs vs):kvs.length=vs.length:=Paired.length r
end
theorem GC(r:RelV (kV k) u):(G6 P w).is k u=true:=by
 cases k with
 |inl i=>obtain⟨t,e⟩:=(show∃t,u=Value.int i t from r);subst e;exact LM P w i t
 |inr x=>obtain⟨t,e⟩:=(show∃t,u=Value.str x t from r);subst e;exact JN P w x t
theorem GJ:∀ {ks:List Key} {us:List Value},Vals (ks.map kV) us->ItemsAre (G6 P w) ks us
 | [],_,r=>by rw[map_nil]at r;cases r;exact .nil
 |k::ks,_,r=>by
  rw[map_cons]at r;cases r with
  |cons h t=>exact .cons (GC h) (GJ t)
noncomputable abbrev KT(H:Hp):List (List Key×V)->List (List Key×Addr×Value)->Prop:=Paired λp q=>p.1=q.1/\H q.2.1=some (.tup (p.1.map kV))/\RelV p.2 q.2.2
theorem KT.val(r:KT H kvs xs)(k:List Key):RelO (K9 kvs k) ((atKey xs k).map (·.2)):=by
 induction r with
 |nil=>exact True.intro
 | @cons p q ps qs h t ih=>
  obtain⟨h1,_,h2⟩:=h;by_cases e:p.1=k
  ·have e':q.1=k:=h1.symm.trans e;have b:atKey (q::qs) k=some q.2:=by simp[atKey,find?_cons,e']
   rw[K8 e,b];exact h2
  ·have e':¬q.1=k:=λz=>e (h1.trans z);have b:atKey (q::qs) k=atKey qs k:=by simp[atKey,find?_cons,e']
   rw[K7 e,b];exact ih
theorem KT.repl(r:KT H kvs xs)(k:List Key)(ry:RelV y u):
  KT H (kvs.map λkv=>if kv.1=k then(kv.1,y)else kv) (xs.map (putAt k u)):=by
 induction r with
 |nil=>exact .nil
 | @cons p q ps qs h t ih=>
  rw[map_cons,map_cons];refine .cons ?_ ih;obtain⟨h1,h2,h3⟩:=h;unfold putAt;by_cases e:p.1=k
  ·rw[if_pos e,if_pos (h1.symm.trans e)];exact⟨h1,h2,ry⟩
  ·rw[if_neg e,if_neg (λz=>e (h1.trans z))];exact⟨h1,h2,h3⟩
theorem KT.put(r:KT H kvs xs)(k:List Key){b:Addr}(hb:H b=some (.tup (k.map kV)))(ry:RelV y u):
  KT H (S0 kvs k y) (storedH xs k b u):=by
 have e:(kvs.any λkv=>decide (kv.1=k))=(atKey xs k).isSome:=by
  rw[R5,(r.val k).isSome_eq,Option.isSome_map]
 unfold S0 storedH;rw[e];by_cases q:(atKey xs k).isSome=true
 ·rw[if_pos q,if_pos q];exact r.repl k ry
 ·rw[if_neg q,if_neg q];exact Paired.snoc r ⟨rfl,hb,ry⟩
theorem KT.keeps{H':Hp}(r:KT H kvs xs)(ht:∀b ys,H b=some (.tup ys)->H' b=some (.tup ys)):KT H' kvs xs:=
 Paired.mapP r λ_ _ z=>⟨z.1,ht _ _ z.2.1,z.2.2⟩
section
theorem a9Z(ok:HOk P w H h)(e:Rd H a u):ObjOk P w H h a u:=e.ok ok
theorem DJ(ok:HOk P w H h)(e:Rd H a (.dK kvs)):kvs.length<=sizeLine/\(a==sysModules)=false/\∃vs,KV kvs vs/\h.DictOf (G6 P w) a vs:=
 show ObjOk P w H h a (.dK kvs)from a9Z ok e
theorem UQ{a:Addr}(ok:HOk P w H h)(e:H a=some (.dK kvs)):kvs.length<=sizeLine/\(a==sysModules)=false/\∃vs,KV kvs vs/\h.DictOf (G6 P w) a vs:=DJ ok (.inl e)
theorem DN{a:Addr}{ks:List Key}(ok:HOk P w H h)(e:H a=some (.tup (ks.map kV))):(tupleKind (G6 P w)).is h ks a:=by
 obtain⟨_,b,r,o,h1,h2,n,h3⟩:=(show ObjOk P w H h a (.tup (ks.map kV))from ok a _ e);exact⟨o,b.toArray,n,h1,h2,h3,by simpa using GJ r⟩
theorem FS(ok:HOk P w H h)(e:Rd H a (.dT kvs)):kvs.length<=sizeLine/\(a==sysModules)=false/\
  ∃xs,KT H kvs xs/\h.DictOfH (tupleKind (G6 P w)) a xs:=by
 obtain⟨z,y,xs,r,o,es,ep,h1,h2,h3,h4,h5⟩:=(show ObjOk P w H h a (.dT kvs)from a9Z ok e);refine⟨z,y,xs,r,o,es,ep,h1,h2,h3,h4,λx hx=> ?_,h5⟩;have b:∀ {l:List (List Key×V)} {m:List (List Key×Addr×Value)},KT H l m->∀x∈m,(tupleKind (G6 P w)).is h x.1 x.2.1:=by
  intro l m q;induction q with
  |nil=>intro x hx;exact nomatch hx
  | @cons p q ps qs hq t ih=>
   intro x hx;rcases cZ hx with e|hx
   ·subst e;exact DN ok (by rw[<-hq.1];exact hq.2.1)
   ·exact ih x hx
 exact b r x hx
theorem dkZ{a:Addr}(ok:HOk P w H h)(e:H a=some (.dT kvs)):kvs.length<=sizeLine/\(a==sysModules)=false/\
  ∃xs,KT H kvs xs/\h.DictOfH (tupleKind (G6 P w)) a xs:=FS ok (.inl e)
end
noncomputable def DGet(H:Hp)(a:Addr)(y:V)(r:Option V):Prop:=
 (∃kvs k,Rd H a (.dK kvs)/\y=kV k/\r=K9 kvs k)\/∃kvs k b,Rd H a (.dT kvs)/\y=.ref b/\H b=some (.tup (k.map kV))/\r=K9 kvs k
noncomputable def DPut(H:Hp)(a:Addr)(y v:V)(H':Hp):Prop:=
 (∃kvs k,H a=some (.dK kvs)/\y=kV k/\kvs.length<sizeLine/\H'=upd H a (.dK (S0 kvs k v)))\/
 ∃kvs k b,H a=some (.dT kvs)/\y=.ref b/\H b=some (.tup (k.map kV))/\kvs.length<sizeLine/\H'=upd H a (.dT (S0 kvs k v))
theorem DGet.k{H:Hp}{a:Addr}{kvs:List (Key×V)}{k:Key}(e:H a=some (.dK kvs)):DGet H a (kV k) (K9 kvs k):=.inl ⟨kvs,k,.inl e,rfl,rfl⟩
theorem DPut.k{H:Hp}{a:Addr}{kvs:List (Key×V)}{k:Key}{v:V}(e:H a=some (.dK kvs))(hl:kvs.length<sizeLine):DPut H a (kV k) v (upd H a (.dK (S0 kvs k v))):=.inl ⟨kvs,k,e,rfl,hl,rfl⟩
section
theorem Inv.big{H:Hp}(I:Inv X pins σ H s):sysModules<s.heap.objs.size:=by
 have h:mainGlobals<s.heap.objs.size:=(I.mod.glob.keeps I.bk).lt;exact Nat.lt_trans (by decide) h
theorem SJ{H:Hp}{v:V}{A:Around}{E:Value->Shared->Prop}{Q:Value->Shared->Prop}(hu:A.units+1<cLine)(I:Inv X pins σ H s)(g:DGet H a y (some v))(ry:RelV y u)(h:∀w' s',Inv X pins σ H s'->RelV v w'->Q w' s'):
  wpAny (model X.prog X.w) A (getItem (.ref a) u) Q E s:=by
 rcases g with⟨f,k,e,ey,l⟩|⟨f,k,b,e,ey,eb,l⟩
 ·subst ey;obtain⟨z,hd,vs,d,dd⟩:=DJ I.hok e;obtain⟨w',hw,c⟩:=RelO.some_of (v:=v) (o:=valueAt vs k) (by rw[l];exact d.val k);exact wpAny_getItem_of (GC ry) dd.mapOf hw (h w' _ (I.tok _) c)
 ·subst ey;cases(show u=Value.ref b from ry);obtain⟨z,hd,xs,d,dd⟩:=FS I.hok e;obtain⟨w',hw,c⟩:=RelO.some_of (v:=v) (o:=(atKey xs k).map (·.2)) (by rw[l];exact d.val k);obtain⟨p,hp,i⟩:=Option.map_eq_some_iff.mp hw;refine wpAny_getItem_heap (tupleKind_room_in1 hu) (DN I.hok eb) dd hp ?_;rw[i];exact h w' _ (I.tok _) c
theorem amZ{H:Hp}{A:Around}{E:Value->Shared->Prop}{Q:Value->Shared->Prop}(hu:A.units+1<cLine)(I:Inv X pins σ H s)(g:DGet H a y o)(ry:RelV y u)(h:∀s',Inv X pins σ H s'->Q (.bool (!o.isSome)) s'):
  wpAny (model X.prog X.w) A (compareOp .NotIn u (.ref a)) Q E s:=by
 rcases g with⟨d,k,e,ey,l⟩|⟨d,k,b,e,ey,eb,l⟩
 ·subst ey;obtain⟨z,hd,vs,c,dd⟩:=DJ I.hok e;refine wpAny_notIn_of (GC ry) hd dd.mapOf ?_;rw[<-(c.val k).isSome_eq,<-l];exact h _ (I.tok _)
 ·subst ey;cases(show u=Value.ref b from ry);obtain⟨z,hd,xs,c,dd⟩:=FS I.hok e;refine wpAny_notIn_heap (tupleKind_room_in1 hu) (DN I.hok eb) hd dd ?_;have q:=(c.val k).isSome_eq;rw[Option.isSome_map]at q;rw[<-q,<-l];exact h _ (I.tok _)
theorem IY{H:Hp}{a:Addr}{t':Nat}(I:Inv X pins σ H s)(mu:Mut (H a))(hs:Heap.SameBut a s.heap h')(he:∃q,h'.get? a=some q)(new:ObjOk X.prog X.w (upd H a ob) h' a ob):
  Inv X pins σ (upd H a ob) {s with heap:=h',toks:=t'}:=
 I.write (x:=a) (e:=a) mu (.inl rfl) (λb q hb z=>(hs.2 b hb).trans z) he new
theorem WZ{a:Addr}{H':Hp}{h':Heap}{kvs:List (Key×V)}(z:kvs.length<=sizeLine)(hd:(a==sysModules)=false)(rel:KV kvs vs)(dd:h'.DictOf (G6 P w) a vs):
  ObjOk P w H' h' a (.dK kvs):=⟨z,hd,vs,rel,dd⟩
theorem RE{H:Hp}{A:Around}{E:Value->Shared->Prop}{Q:Unit->Shared->Prop}(hu:A.units+1<cLine)(I:Inv X pins σ H s)(g:DPut H a y v H')(ry:RelV y u)(rv:RelV v r)(h:∀s',Inv X pins σ H' s'->Q () s'):
  wpAny (model X.prog X.w) A (setItem (.ref a) u r) Q E s:=by
 rcases g with⟨f,k,e,ey,l,eH⟩|⟨f,k,b,e,ey,eb,l,eH⟩
 ·subst ey eH;obtain⟨z,hd,vs,d,dd⟩:=UQ I.hok e;have hz:vs.length<=sizeLine:=by rw[<-d.length];exact z
  have hl:(S0 f k v).length<=sizeLine:=by have:=U2 f k v;omega
  refine wpAny_setItem_pairs (hsz:=hz) (GC ry) dd λh' i hs=>h _ ?_;have he:∃q,h'.get? a=some q:=let⟨q,_,_,hq,_⟩:=i;⟨q,hq⟩;exact IY I (by rw[e];exact True.intro) hs he (WZ hl hd (d.put k rv) i)
 ·subst ey eH;cases(show u=Value.ref b from ry);obtain⟨z,hd,xs,d,dd⟩:=dkZ I.hok e;have hz:xs.length<=sizeLine:=by rw[<-Paired.length d];exact z
  have hl:(S0 f k v).length<=sizeLine:=by have:=U2 f k v;omega
  refine wpAny_setItem_heap (hsz:=hz) (tupleKind_room_in1 hu) (DN I.hok eb) dd λh' i hs=>h _ ?_;obtain⟨q,es,ep,hq,h2,h3,h4,_,h5⟩:=i;refine IY I (by rw[e];exact True.intro) hs ⟨q,hq⟩ ⟨hl,hd,_,(d.put k eb rv).keeps λc ys ec=> ?_,q,es,ep,hq,h2,h3,h4,h5⟩;rw[B7 (W4 ec e (λz=>nomatch z))];exact ec
theorem cXZ{H:Hp}{Q:Value->Shared->Prop}(I:Inv X pins σ H s)(e:Rd H a (.dK kvs))(h:∀t s',Inv X pins σ H s'->Q (.int kvs.length t) s'):wpAny (model X.prog X.w) A (call (.builtin "len") [.ref a]) Q E s:=by
 obtain⟨z,hd,vs,b,dd⟩:=DJ I.hok e;refine call_len_dict hd dd (by rw[<-b.length];rw[sizeLine_eq]at z;omega) ?_;rw[<-b.length];exact h _ _ (I.tok _)
end
noncomputable def dtZ(i:Expr):Prop:=∀ov iv,subscripted i false ov iv=operate [ov,iv] (getItem ov iv)
theorem YQ{id:String}
  (hl:typeLookup (.type T) "__getitem__"=pure (some (.builtin id)))(hs:dtZ slice)
  (h:wpAny (model prog w) A (eval value env) (λo s₁=>wpAny (model prog w) A (eval slice env) (λi s₂=>s₂.TypeIs o T/\wpAny (model prog w) A (getItem o i) Q E s₂) E s₁) E s):
  wpAny (model prog w) A (eval (.Subscript value slice pos) env) Q E s:=by
 refine Subscript_ (wpAny_mono h (λo s₁ h₁=>wpAny_mono h₁ (λi s₂ h₂=> ?_) λ_ _ x=>x) λ_ _ x=>x);obtain⟨hT,h₂⟩:=h₂;unfold subscriptTail;refine bZ ?_;rw[getitemInPython_of_ne hT.not_modules];refine bZ (wpAny_specialOf hT hl ?_);have a:wpAny (model prog w) A (subscripted slice false o i) (λr s₃=>wpAny (model prog w) A (letTemporaryGo value o r>>=λ_=>pure r) Q E s₃) E s₂:=by
  rw[hs o i];exact wpAny_operating (wpAny_mono h₂ (λr s₃ h₃=>bZ (wpAny_letTemporaryGo (pZ h₃))) λ_ _ x=>x)
 first
  |exact pZ (bZ a)
  |exact bZ (pZ (bZ a))
  |exact bZ a
theorem LF{H:Hp}(I:Inv X pins σ H s)(g:DGet H a y o):s.TypeIs (.ref a) "dict":=by
 rcases g with⟨c,k,e,_,_⟩|⟨c,k,b,e,_,_,_⟩
 ·obtain⟨_,_,vs,_,dd⟩:=DJ I.hok e;exact dd.typeIs
 ·obtain⟨_,_,xs,_,dd⟩:=FS I.hok e;exact dd.typeIs
inductive tDGetW (Q:VK) (x y:V) (H2:Hp):Prop
 |mk:∀a v,(x=.ref a)->(DGet H2 a y (some v))->(Q v H2)->tDGetW Q x y H2
noncomputable def PN(td ty:TE):TE:=fun σ H Q=>td σ H λx H1=>ty σ H1 λy H2=>tDGetW Q x y H2
section
theorem IT{X:Cx}(hu:X.A.units+1<cLine)(ho:PE X o td)(hi:PE X i ty)(hs:dtZ i):PE X (.Subscript o i pos) (PN td ty):=by
 intro b s σ H Q I h;refine YQ PySem.F.slot_dict_getitem.lookup hs (thn (ho b s σ H _ I h) λu s1 ⟨x,H1,I1,rx,q1⟩=>thn (hi b s1 σ H1 _ I1 q1) λiv s2 ⟨y,H2,I2,ry,a,v,ex,g,q2⟩=> ?_);subst ex;obtain rfl:u=Value.ref a:=rx;exact⟨LF I2 g,SJ hu I2 g ry λw' s3 I3 c=>⟨v,H2,I3,c,q2⟩⟩
end
theorem KK(h:Heap)(hb:sysModules<h.objs.size):ObjOk P w H (h.push {cls:=.type "dict",data:=.dict #[]}) h.objs.size (.dK []):=
 ⟨zero_le _,beq_eq_false_iff_ne.mpr (Ne.symm (ne_of_lt hb)),[],.nil,Heap.DictOf.new h⟩
noncomputable def czZ:TE:=λ_ H Q=>∀p,H p=none->Q (.ref p) (upd H p (.dK []))
section
theorem Z5:PE X (.Dict [] [] pos) czZ:=λb s σ H Q I h=>
 wpAny_Dict_empty ⟨.ref s.heap.objs.size,_,I.laid (a:=s.heap.objs.size) (o:=.dK []) (t':=s.toks) (λ_ _ q=>gZ _ q) (le_refl _) (KK s.heap I.big),rfl,h _ (I.hok.fresh (le_refl _))⟩
end
noncomputable def NR:List (TE×TE)->St->Hp->(List (V×V)->Hp->Prop)->Prop
 | [],_,H,Q=>Q [] H
 |(tk,tv)::r,σ,H,Q=>tk σ H λx H1=>tv σ H1 λy H2=>NR r σ H2 λps H3=>Q ((x,y)::ps) H3
noncomputable abbrev VV:List (V×V)->List (Value×Value)->Prop:=Paired λp q=>RelV p.1 q.1/\RelV p.2 q.2
noncomputable def PPs(X:Cx)(pos:Pos)(keys:List (Option Expr))(values:List Expr)(trs:List (TE×TE)):Prop:=
 ∀(pins:List (Addr×Obj)) (s:Shared) (σ:St) (H:Hp) (Q:List (V×V)->Hp->Prop),Inv X pins σ H s->NR trs σ H Q->
  wpAny (model X.prog X.w) X.A (evalPairs (pairTrees keys values X.env pos)) (λvs s'=>∃ps H',Inv X pins σ H' s'/\VV ps vs/\Q ps H') X.xe s
theorem QB:PPs X pos [] [] []:=λa s σ H Q I h=>pairTrees_nil_walk ⟨[],H,I,.nil,h⟩
theorem Q6(hk:PE X k tk)(hv:PE X v tv)(hr:PPs X pos ks vs trs):
  PPs X pos (some k::ks) (v::vs) ((tk,tv)::trs):=λa s σ H Q I h=>
 pairTrees_cons_walk (thn (hk a s σ H _ I h) λu s1 ⟨x,H1,I1,rx,q1⟩=>thn (hv a s1 σ H1 _ I1 q1) λw2 s2 ⟨y,H2,I2,ry,q2⟩=>
  thn (hr a s2 σ H2 _ I2 q2) λws s3 ⟨ps,H3,I3,b,q3⟩=>⟨(x,y)::ps,H3,I3,.cons ⟨rx,ry⟩ b,q3⟩)
noncomputable def EI(kvs more:List (Key×V)):List (Key×V):=more.foldl (λacc kv=>S0 acc kv.1 kv.2) kvs
theorem KV.merge:∀ {more:List (Key×V)} {rs:List (Key×Value)} {kvs:List (Key×V)} {vs:List (Key×Value)},KV more rs->KV kvs vs->KV (EI kvs more) (merged vs rs):=by
 intro more rs kvs vs r;unfold KV at r;induction r generalizing kvs vs with
 |nil=>intro q;exact q
 | @cons p q ps qs h t ih=>
  intro r0;have e:KV (S0 kvs p.1 p.2) (stored vs q.1 q.2):=by
   have:=r0.put p.1 h.2;rw[<-h.1];exact this
  exact ih e
theorem W7:∀(more kvs:List (Key×V)),(EI kvs more).length<=kvs.length+more.length
 | [],kvs=>by show kvs.length<=kvs.length+0;omega
 |p::r,kvs=>by
  have h1:=W7 r (S0 kvs p.1 p.2);have h2:=U2 kvs p.1 p.2;show(EI (S0 kvs p.1 p.2) r).length<=_;rw[length_cons];omega
theorem DA:∀ {kvs:List (Key×V)} {ws:List (Value×Value)},VV (kvs.map λkv=>(kV kv.1,kv.2)) ws->∃rs,Carries (G6 P w) ws rs/\KV kvs rs
 | [],_,r=>by rw[map_nil]at r;cases r;exact⟨[],True.intro,.nil⟩
 |p::kvs,_,r=>by
  rw[map_cons]at r;cases r with
  | @cons a b as bs h t=>
   obtain⟨rs,c,q⟩:=DA (P:=P) (w:=w) t;obtain⟨b1,b2⟩:=b;exact⟨(p.1,b2)::rs,⟨GC h.1,rfl,c⟩,.cons ⟨rfl,h.2⟩ q⟩
noncomputable def cWZ(trs:List (TE×TE)):TE:=fun σ H Q=>∀p,H p=none->NR trs σ (upd H p (.dK [])) λps H2=>H2 p=some (.dK [])/\∃kvs:List (Key×V),ps=kvs.map (λkv=>(kV kv.1,kv.2))/\kvs.length<=15/\Q (.ref p) (upd H2 p (.dK (EI [] kvs)))
theorem OR(h:PPs X pos keys values trs)(hall:keys.all (·.isSome)=true)(hl:keys.length=values.length)(h0:keys≠ [])
  (h15:keys.length<=15):PE X (.Dict keys values pos) (cWZ trs):=by
 intro b s σ H Q I q;have hn:=I.hok.fresh (le_refl s.heap.objs.size);have I1:=I.laid (a:=s.heap.objs.size) (o:=.dK []) (h':=s.heap.push {cls:=.type "dict",data:=.dict #[]}) (t':=s.toks) (λ_ _ q=>gZ _ q) (le_refl _) (KK s.heap I.big);refine wpAny_Dict_walk (knd:=G6 X.prog X.w) hall hl h0 h15 (thn (h b _ σ _ _ I1 (q _ hn)) λws s2 ⟨ps,H2,I2,g,e,d,ep,lk,q2⟩=> ?_);subst ep;obtain⟨rs,c,rk⟩:=DA (P:=X.prog) (w:=X.w) g;obtain⟨z,hd,i,r0,dd⟩:=UQ I2.hok e;cases r0;refine⟨rs,c,dd,λh' f hs=>⟨.ref s.heap.objs.size,_, ?_,rfl,q2⟩⟩;have hz:(EI [] d).length<=sizeLine:=by
  have h1:=W7 d [];rw[length_nil]at h1;rw[sizeLine_eq];omega
 have he:∃q,h'.get? s.heap.objs.size=some q:=let⟨q,_,_,hq,_⟩:=f;⟨q,hq⟩;exact IY I2 (by rw[e];exact True.intro) hs he (WZ hz hd (rk.merge .nil) f)
structure M1 (X:Cx) (o:Expr) (m:Str) (apos:Pos) (e:Expr) (cpos:Pos):Prop where
 base:attributeBase o m X.env (eval o X.env)=eval o X.env
 few:((backTo cpos (starEach [e] X.env)).all (λx=> !x.1)&&(backToKw cpos (keywordEach [] X.env)).all (λx=>x.1.isSome)
  &&decide (([e]:List Expr).length+([]:List Keyword).length+(if([]:List Keyword).isEmpty then 0 else 1)<30))=true
 line:(apos.endLine==cpos.line)=true
 trees:backTo cpos (starEach [e] X.env)=[(false,eval e X.env)]
noncomputable def IsD(H:Hp)(a:Addr):Prop:=(∃kvs,Rd H a (.dK kvs))\/∃kvs,Rd H a (.dT kvs)
theorem bNZ{H:Hp}(I:Inv X pins σ H s)(d:IsD H a):
  s.TypeIs (.ref a) "dict"/\(∀b,Value.ref a=.ref b->∃ob,s.heap.get? b=some ob/\ob.dict=none)/\(a==sysModules)=false:=by
 rcases d with⟨c,e⟩|⟨c,e⟩
 ·obtain⟨_,hd,vs,_,dd⟩:=DJ I.hok e;refine⟨dd.typeIs,λb q=> ?_,hd⟩;cases q;obtain⟨ob,_,_,h1,h2,_⟩:=dd;exact⟨ob,h1,h2.2.1⟩
 ·obtain⟨_,hd,xs,_,dd⟩:=FS I.hok e;refine⟨dd.typeIs,λb q=> ?_,hd⟩;cases q;obtain⟨ob,_,_,h1,h2,_⟩:=dd;exact⟨ob,h1,h2.2.1⟩
section
theorem buZ{H:Hp}{A:Around}{E:Value->Shared->Prop}{Q:Value->Shared->Prop}(hu:A.units+1<cLine)(I:Inv X pins σ H s)(g:DGet H a y o)(ry:RelV y u)(h:∀w' s',Inv X pins σ H s'->RelV (o.getD .non) w'->Q w' s'):
  wpAny (model X.prog X.w) A (call (.builtin "dict.get") [.ref a,u]) Q E s:=by
 rcases g with⟨d,k,e,ey,l⟩|⟨d,k,b,e,ey,eb,l⟩
 ·subst ey;obtain⟨z,hd,vs,c,dd⟩:=DJ I.hok e;refine call_meetsIn PySem.F.slot_dict_get dd.typeIs PySem.F.entry_dict_get (PySem.F.args_dict_get_2 _ _) (meets_dict_get (G6 X.prog X.w) a (GC ry) hd) ⟨_,dd.mapOf,h _ _ (I.tok _) ?_⟩;rw[l];exact(c.val k).getD rfl
 ·subst ey;cases(show u=Value.ref b from ry);obtain⟨z,hd,xs,c,dd⟩:=FS I.hok e;refine call_meetsIn PySem.F.slot_dict_get dd.typeIs PySem.F.entry_dict_get (PySem.F.args_dict_get_2 _ _) (meetsH_dict_get (tupleKind (G6 X.prog X.w)) a b hd) ⟨tupleKind_room_in1 hu,k,xs,DN I.hok eb,dd,h _ _ (I.tok _) ?_⟩;rw[l];exact(c.val k).getD rfl
end
noncomputable def cCZ(td ty:TE):TE:=fun σ H Q=>td σ H λx H1=>∃a,x=.ref a/\IsD H1 a/\ty σ H1 λy H2=>∃o,DGet H2 a y o/\Q (o.getD .non) H2
section
theorem KU{X:Cx}(hu:X.A.units+1<cLine)(ho:PE X o td)(he:PE X e ty)(m:M1 X o "get" apos e cpos):PE X (.Call (.Attribute o "get" apos) [e] [] cpos) (cCZ td ty):=by
 intro b s σ H Q I h;refine wpAny_Call_method m.base m.few m.line PySem.F.plainAttrs_dict PySem.F.slot_dict_get PySem.F.type_dict_get (thn (ho b s σ H _ I h) λu s1 ⟨x,H1,I1,rx,a,ex,d,q1⟩=> ?_);subst ex;obtain rfl:u=Value.ref a:=rx;obtain⟨t1,t2,_⟩:=bNZ I1 d;refine⟨t1,t2, ?_⟩;rw[m.trees];refine Calls.callWith_builtin rfl (Calls.evalArgs_plain (Calls.spliced_cons (thn (he b s1 σ H1 _ I1 q1) λiv s2 ⟨y,H2,I2,ry,ov,g,q2⟩=>Calls.spliced_nil ?_)));exact buZ hu I2 g ry λw' s3 I3 c=>⟨_,H2,I3,c,q2⟩
noncomputable def ZC:R2:=λx y H Q=>∃a o,y=.ref a/\DGet H a x o/\Q (.bl (!o.isSome)) H
theorem IR{X:Cx}(hu:X.A.units+64<cLine):OpR X (compareOp .NotIn) ZC:=by
 intro b s σ H x y v u Q I rx ry h;obtain⟨a,o,rfl,g,q⟩:=h;cases ry;exact amZ (by omega) I g rx λs' I'=>⟨.bl (!o.isSome),H,I',rfl,q⟩
noncomputable def dBZ:V->V->V->Hp->(Hp->Prop)->Prop:=λo i v H Q=>∃a H',o=.ref a/\DPut H a i v H'/\Q H'
theorem V0{X:Cx}(hu:X.A.units+64<cLine):bZZ X dBZ:=by
 intro b s σ H o i v ov iv u Q I ro ri rv h;obtain⟨a,H',rfl,g,q⟩:=h;cases ro;exact RE (by omega) I g ri rv λs' I'=>⟨H',I',q⟩
end
end _L
namespace PySem
namespace ZT
section
end
end ZT
end PySem
namespace _L
open PySem PySem.Spec PyProof.Rows
section
end
end _L
namespace PySem
open PyProof.Rows _L
namespace F
end F
section
end
end PySem
namespace _L
open PySem PySem.Spec PyProof.Rows
section
end
end _L
namespace PySem
open PyProof.Rows
namespace F
end F
section
end
end PySem
namespace PySem
open PyProof.Rows
namespace F
end F
section
end
end PySem
namespace PySem
section
end
end PySem
namespace _L
open PySem PySem.Spec PyProof.Rows
section
end
noncomputable def EW(xs ys:List V):Bool:=(List.range (min xs.length ys.length)).all (λj=>eqV ((xs[j]?).getD .non) ((ys[j]?).getD .non))&&xs.length==ys.length
section
theorem YC{s:Shared}{A:Around}(r:Vals xs us)(r2:Vals ys vs)(fx:xs.all P6=true)(fy:ys.all P6=true)(j:Nat)(h1:j<us.toArray.size)(h2:j<vs.toArray.size):
  SeqAt.EqAt A s us.toArray[j] vs.toArray[j] (eqV ((xs[j]?).getD .non) ((ys[j]?).getD .non)):=by
 obtain⟨x,hx,rx⟩:=N7 r h1;obtain⟨y,hy,ry⟩:=N7 r2 h2;rw[hx,hy];exact VW rx ry (all_eq_true.mp fx x (mem_of_getElem? hx)) (all_eq_true.mp fy y (mem_of_getElem? hy))
end
end _L
namespace PySem
open PyProof.Rows
section
theorem OY:∀(vs:List Value) (ns:List Int),vs.length=ns.length->(∀(j:Nat) (v:Value),vs[j]? =some v->∃t,v=.int (ns.getD j 0) t)->IntsAre vs ns
 | [],[],_,_=> .nil
 | [],_::_,h,_=>by cases h
 |_::_,[],h,_=>by cases h
 |v::vs,n::ns,h,q=>by
  obtain⟨t,e⟩:=q 0 v rfl;have e':v=.int n t:=e;subst e';exact .cons n t (OY vs ns (by simpa using h) λj u hu=>q (j+1) u hu)
theorem CB{h:Heap}{a b:Addr}{o:Obj}(e:h.get? b=some o)(n:b≠a):(sortedHeap h a vs out).get? b=some o:=by
 unfold sortedHeap;have h1:(h.update a (Obj.mapSeq λ_=> #[])).get? b=some o:=(get?_update_other _ _ (Ne.symm n)).trans e;exact(get?_update_other _ _ (Ne.symm n)).trans (gZ _ (gZ _ h1))
theorem CI{h:Heap}{a:Addr}{vs:List Value}(e:h.get? a=some {cls:=.type "list",data:=.seq vs.toArray n}):∃n',(sortedHeap h a vs out).get? a=some {cls:=.type "list",data:=.seq out n'}:=by
 unfold sortedHeap;have h1:=get?_update_self (Obj.mapSeq (λ_=>(#[]:Array Value))) e rfl;have h2:=gZ (seqObj "list" #[] 0) (gZ (seqObj "tuple" vs.toArray 0) h1);exact⟨_,get?_update_self (Obj.mapSeq (λ_=>out)) h2 rfl⟩
theorem BD{prog:Program}{w:World}{E:Value->Shared->Prop}{s:Shared}{Z:Type}[DecidableEq Z]{knd:KeyKind prog w Z}{Q:Value->Shared->Prop}(hh:A.handled=none){d:Addr}{kvs:List (Z×Value)}{ep:Nat}{ns:List Int}(hd:(d==sysModules)=false)(hD:s.heap.DictAt knd d kvs ep)(hl:kvs.length=ns.length)
  (hI:∀(j:Nat) (k:Z) (x v:Value),kvs[j]? =some (k,x)->knd.is k v=true->∃t,v=.int (ns.getD j 0) t)(h64:ns.length<64)
  (hQ:∀(h1 h':Heap) (tk:Nat) (out:Array Value) (ns':List Int) (n:Nat),(∀b o,s.heap.get? b=some o->h1.get? b=some o)->(∀b o,h1.get? b=some o->h'.get? b=some o)->h'.get? h1.objs.size=some {cls:=.type "list",data:=.seq out n}->IntsAre out.toList ns'->ns'.Perm ns->List.Pairwise (·<=·) ns'->Q (.ref h1.objs.size) {s with heap:=h',toks:=tk}):
  wpAny (model prog w) A (call (.builtin "sorted") [.ref d]) Q E s:=by
 have i:checkBuiltinCall "sorted" ⟨[.ref d],[]⟩=pure ():=by kernel_rfl
 have zl:(64:Nat)<=sizeLine:=by decide
 refine wpAny_call (codeAny_call_builtin plain_sorted entry_sorted (wpAny_of_eq i ?_));unfold Builtin.sorted;refine bZ (m:=checkCount "sorted" 1 1 1) (wpAny_of_eq (show checkCount "sorted" 1 1 1=pure () by first|rfl|kernel_rfl) ?_);refine bZ (m:=collect (.ref d)) (W.kdu_collect (A:=A.in1) (W.kdl_dict (knd:=knd) (kvs:=kvs) (ep:=ep) hd) hh hD (by omega) λh1 tk a h f=> ?_);obtain⟨a1,a2⟩:=f;have e:a.toList.length=ns.length:=by rw[Array.length_toList,a1,hl]
 have c:IntsAre a.toList ns:=OY a.toList ns e λj v hv=>by
  obtain⟨k,x,e1,e2⟩:=a2 j v (by simpa using hv);exact hI j k x v e1 e2
 refine bZ (wpAny_newList ?_ (by omega));have hS:(h1.push {cls:=.type "list",data:=.seq a.toList.toArray}).get? h1.objs.size=some {cls:=.type "list",data:=.seq a.toList.toArray}:=get?_push_size _ rfl;have ty:Shared.TypeIs {s with heap:=h1.push {cls:=.type "list",data:=.seq a.toList.toArray},toks:=tk} (.ref h1.objs.size) "list":=⟨_,hS,rfl⟩;refine bZ (wpAny_holding (wpAny_call_entry slot_list_sort ty entry_list_sort (list_sort_tree (n:=0) hS c (by omega) λout ns' i1 i2 i3=>⟨.none,rfl, ?_⟩) (args_list_sort _)));obtain⟨n',g⟩:=CI (out:=out) hS;exact pZ (hQ h1 _ _ _ ns' n' h (λb o e1=>CB (gZ _ e1) (ne_of_lt (lt_size e1))) g i1 i2 i3)
end
end PySem
namespace _L
open PySem PySem.Spec PyProof.Rows
theorem Z4:∀ {us:List Value} {ns:List Int},IntsAre us ns->Vals (ns.map V.int) us
 |_,_,.nil=> .nil
 |_,_,.cons n t h=> .cons ⟨t,rfl⟩ (Z4 h)
section
theorem RX{X:Cx}(hc:X.calm=true):CallR X (.builtin "sorted") (λxs H Q=>∃(a:Addr) (kvs:List (Key×V)) (ns:List Int),xs=[.ref a]/\H a=some (.dK kvs)/\kvs.map (·.1)=ns.map Sum.inl/\ns.length<64/\∀l ns',H l=none->ns'.Perm ns->List.Pairwise (·<=·) ns'->Q (.ref l) (upd H l (.lst (ns'.map V.int)))):=by
 intro c s σ H xs us Q I r h;obtain⟨a,kvs,ns,rfl,ha,hk,hn,q⟩:=h;obtain⟨u,rfl,ru⟩:=W8 r;cases ru;obtain⟨z,hd,vs,d,dd⟩:=UQ I.hok ha;have b:=d.keys;have g:=d.length;have p:kvs.length=ns.length:=by
  have:=congrArg List.length hk
  simpa using this
 have zl:(64:Nat)<=sizeLine:=by decide
 obtain⟨o,es,ep,ho,hx,m,i,hp,f⟩:=dd;refine BD (knd:=G6 X.prog X.w) (kvs:=vs) (ep:=ep) (ns:=ns) (I.ok.hd hc) hd ⟨o,es,ho,hx,m,i,hp,f⟩ (by omega) ?_ hn ?_
 ·intro j k x v e1 e2;have hj:j<ns.length:=by
   have:=(List.getElem?_eq_some_iff.mp e1).1;omega
  have e3:(vs.map (·.1))[j]? =some k:=by rw[getElem?_map,e1];rfl
  rw[<-b,hk,getElem?_map,List.getElem?_eq_getElem hj]at e3;have e4:(Sum.inl ns[j]:Key)=k:=Option.some.inj e3;subst e4;have e5:Value.isInt ns[j] v=true:=e2;obtain⟨t,e6⟩:=Value.isInt_shape e5;exact⟨t,by rw[e6];simp[getD_eq_getElem?_getD,List.getElem?_eq_getElem hj]⟩
 ·intro h1 h' tk e ns' n k1 k2 hl i1 i2 i3;have I1:Inv X c σ H {s with heap:=h1}:=I.kept (t':=s.toks) k1;have hz:(ns'.map V.int).length<=sizeLine:=by rw[length_map,i2.length_eq];omega
  exact⟨.ref h1.objs.size,_,I1.laid (t':=tk) k2 (le_refl _) (show ObjOk X.prog X.w _ h' _ (.lst _)from⟨hz,e.toList,n,Z4 i1,by simpa using hl⟩),rfl,q _ ns' (I1.hok.fresh (le_refl _)) i2 i3⟩
end
end _L
namespace PySem
open AutoSeq1 (wpAny_loadPart')
theorem FB(l b:Addr)(items items2:Array Value)(n n2:Nat)(dd2:Option Addr)(sl2:Array (Option Value))(hlong:¬(!items.isEmpty&&Builtin.List.listTooLong (items.size+items2.size))=true):
  Meets (Builtin.«list.extend» ⟨[.ref l,.ref b],[]⟩) (λ_ R s=>s.heap.get? l=some {cls:=.type "list",data:=.seq items n}/\s.heap.get? b=some {cls:=.type "tuple",dict:=dd2,data:=.seq items2 n2,slots:=sl2}/\items.size+items2.size<=sizeLine/\
   R (.ok (.ret .none)) {s with heap:=s.heap.update l (Obj.mapSeq λx=>x++items2)}):=by
 refine .of_wp λa w A R s h=> ?_;obtain⟨hp,g,d,tk,os⟩:=s;obtain⟨hl,hb,hz,h⟩:=h;have e0:(!items.isEmpty&&Builtin.List.listTooLong (items.size+items2.size))=false:=by simpa using hlong
 have c:(Obj.mapSeq (λx=>x++items2) {cls:=.type "list",data:=.seq items n}).data.pastItsLine=none:=by
  show(if(items++items2).size>sizeLine+1 then some "sequence:memory"else none)=none;have h0:¬(items++items2).size>sizeLine+1:=by rw[Array.size_append];omega
  rw[if_neg h0]
 wp_walk using wpAny_loadPart' hl,wpAny_loadPart' hb
 rw[c];exact pZ (pZ ⟨_,rfl,h⟩)
end PySem
namespace _L
open PySem PySem.Spec PyProof.Rows
section
noncomputable def KZ(Z:FZ):V->List V->Hp->VK->Prop:=λx vs H Q=>∃l b xs zs,x=.ref l/\vs=[.ref b]/\H l=some (.lst xs)/\SqT Z H b zs/\xs.length+zs.length<=sizeLine/\Q .non (upd H l (.lst (xs++zs)))
theorem MP:MtM X "list.extend" (KZ X.K):=by
 intro k s σ H x vs v us Q I rx rv h;obtain⟨l,b,xs,zs,rfl,rfl,hH,hB,hz,q⟩:=h;cases rx;obtain⟨u,rfl,ru⟩:=rv.one;cases ru;obtain⟨z,c,n,r,hl,e⟩:=I.lstM hH;obtain⟨a,r2,⟨⟨c2,d2,m,j⟩,e2,g,n2,f⟩,o⟩:=I.tuple hB;replace g:c2=.type "tuple":=g;replace f:m=.seq a.toArray n2:=f;subst g f;have l1:=r.length;have l2:=r2.length;have i:c.toArray.size+a.toArray.size<=sizeLine:=by rw[size_toArray,size_toArray];omega
 have d:¬(!c.toArray.isEmpty&&Builtin.List.listTooLong (c.toArray.size+a.toArray.size))=true:=by
  rw[EE i,Bool.and_false];exact nZ
 refine call_meets F.slot_list_extend ⟨_,e,rfl⟩ F.entry_list_extend (F.args_list_extend_2 _ _)
  (FB l b c.toArray a.toArray n n2 d2 j d) ⟨e,e2,i, ?_⟩
 refine⟨.non,_,I.lset (its':=c++a) hH e (by simp) (r.append r2) ?_,rfl,q⟩;rw[length_append];omega
theorem V7{X:Cx}{Z:FZ}(hK:X.K=Z:=by rfl):MtM X "list.extend" (KZ Z):=by subst hK;exact MP
noncomputable def duZ(Z:FZ)(tl:TE):TI:=fun σ H R=>tl σ H λx H1=>(∃a,x=.ref a/\(∃xs,SqL Z H1 a xs)/\R (Itl Z a) H1)\/∃a,x=.ref a/\(∃xs,SqT Z H1 a xs)/\R (Itt Z a) H1
theorem bSZ{tl:TE}(hl:PE X l tl):PI X tg l (duZ X.K tl):=by
 intro c s σ H R I h;refine thn (hl c s σ H _ I h) λv s1 ⟨x,H1,I1,r1,q1⟩=> ?_;rcases q1 with⟨a,e,⟨xs,hq⟩,q⟩|⟨a,e,⟨xs,hq⟩,q⟩
 ·subst e;cases r1;obtain⟨d,rv,p,hz⟩:=I1.list hq;refine wpAny_pyIter_list p.isList ?_;refine⟨s1.heap.objs.size,[s1.heap.objs.size],_,_,H1,rfl,I1.kept (t':=s1.toks) λb o e=>gZ _ e,GB a _,⟨_,get?_push_size _ rfl,rfl,rfl⟩,λb hb=> ?_,q⟩;have e:b=s1.heap.objs.size:=by simpa using hb
  subst e;exact I1.fpOk (le_refl _) (I1.hok.fresh (le_refl _))
 ·subst e;cases r1;obtain⟨d,rv,p,hz⟩:=I1.tuple hq;refine wpAny_pyIter_tuple (show s1.heap.IsTuple a d.toArray from p) ?_;refine⟨s1.heap.objs.size,[s1.heap.objs.size],_,_,H1,rfl,I1.kept (t':=s1.toks) λb o e=>gZ _ e,NC a _,⟨_,get?_push_size _ rfl,rfl,rfl⟩,λb hb=> ?_,q⟩;have e:b=s1.heap.objs.size:=by simpa using hb
  subst e;exact I1.fpOk (le_refl _) (I1.hok.fresh (le_refl _))
theorem cEZ{Z:FZ}{tl:TE}(hl:PE X l tl)(hK:X.K=Z:=by rfl):PI X tg l (duZ Z tl):=by subst hK;exact bSZ hl
end
theorem VY:CallR X (.builtin "len") (λxs H Q=>∃d kvs,xs=[V.ref d]/\Rd H d (.dK kvs)/\Q (.int (kvs.length:Nat)) H):=λa s σ H xs us Q I r h=>by
 obtain⟨d,kvs,rfl,hd,q⟩:=h;obtain⟨u,rfl,ru⟩:=W8 r;cases ru;exact cXZ I hd λt s' I2=>⟨.int (kvs.length:Nat),H,I2,⟨t,rfl⟩,q⟩
section
end
end _L
namespace PySem
open PyProof.Rows
section
noncomputable def dd{Z:Type}[DecidableEq Z](D:List Z)(x:Z):List Z:=if x∈D then D else D++ [x]
end
end PySem
namespace _L
open PySem PySem.Spec PyProof.Rows
section
end
end _L
namespace PySem
open PyProof.Rows
section
variable{prog:Program}{w:World}{Z:Type}[DecidableEq Z]{knd:KeyKind prog w Z}{A:Around}{E:Value->Shared->Prop}{s:Shared}
end
section
end
end PySem
namespace _L
open PySem PySem.Spec PyProof.Rows
section
end
end _L
namespace PySem
open PyProof.Rows
section
end
end PySem
namespace _L
open PySem PySem.Spec PyProof.Rows
section
end
end _L
namespace PySem
open Sem(wp)
open PyProof.Rows
namespace ZT
section
end
end ZT
end PySem
namespace _L
open PySem PySem.Spec PyProof.Rows
section
end
end _L
namespace PySem
open Sem(wp)
end PySem
namespace _L
open PySem PySem.Spec PyProof.Rows
section
end
section
end
noncomputable def Dl(Z:FZ)(H:Hp):Nat->V->V->Prop
 |0,x,y=>X6 x=true/\x=y
 |n+1,x,y=>(X6 x=true/\x=y)\/∃a b xs ys,x=.ref a/\y=.ref b/\((SqT Z H a xs/\SqT Z H b ys)\/(SqL Z H a xs/\SqL Z H b ys))/\xs.length=ys.length/\∀(j:Nat) u v,xs[j]? =some u->ys[j]? =some v->Dl Z H n u v
section
theorem WB{H:Hp}(I:Inv X pins σ H s){A:Around}(hu:A.units<cLine)(ha:SqL X.K H a xs)(hb:SqL X.K H b ys)(hl:xs.length=ys.length)
  (he:∀(j:Nat) x y u v,xs[j]? =some x->ys[j]? =some y->RelV x u->RelV y v->SeqAt.EqAt A.in1 s u v true):SeqAt.RcAt A s (.ref a) (.ref b) true:=by
 obtain⟨d,r,pl,_⟩:=I.list ha;obtain⟨c,r2,f,_⟩:=I.list hb;have g:d.length=c.length:=by rw[<-r.length,<-r2.length];exact hl
 have h:=SeqAt.RcAt.lists (A:=A) (s:=s) (e:=λ_=>true) pl.isList f.isList (by simpa using g) hu (λj h1 h2=>by
  obtain⟨x,hx,rx⟩:=N7 r h1;obtain⟨y,hy,ry⟩:=N7 r2 h2;exact he j x y _ _ hx hy rx ry)
 have e:((List.range d.toArray.size).all λ_=>true)=true:=by simp
 rw[e]at h;exact h
theorem ZR{H:Hp}(I:Inv X pins σ H s)(n:Nat):∀(A:Around) (x y:V) (u v:Value),A.units+n<cLine->Dl X.K H n x y->RelV x u->RelV y v->SeqAt.EqAt A s u v true:=by
 induction n with
 |zero=>
  intro A x y u v _ h rx ry;obtain⟨hp,rfl⟩:=h;exact AY rx ry hp
 |succ n ih=>
  intro A x y u v hu h rx ry;rcases h with⟨hp,rfl⟩|⟨a,b,xs,ys,rfl,rfl,c,hl,hd⟩
  ·exact AY rx ry hp
  ·cases rx;cases ry;by_cases e:a=b
   ·subst e;exact SeqAt.EqAt.same _
   ·have h1:A.units<cLine:=lt_of_le_of_lt (le_add_right _ _) hu;have h2:A.in1.units+n<cLine:=by
     show A.units+1+n<cLine;rw[Nat.add_assoc,Nat.add_comm 1 n];exact hu
    rcases c with⟨ha,hb⟩|⟨ha,hb⟩
    ·exact SeqAt.EqAt.of_refs e (ZW I h1 ha hb hl λj x y u v hx hy rx ry=>ih A.in1 x y u v h2 (hd j x y hx hy) rx ry)
    ·exact SeqAt.EqAt.of_refs e (WB I h1 ha hb hl λj x y u v hx hy rx ry=>ih A.in1 x y u v h2 (hd j x y hx hy) rx ry)
end
theorem ixT{H:Hp}{Q:VK}{a:Addr}{v:V}(h:H a=some (.tup xs))(e:atI xs i=some v)(q:Q v H):rIxL Z (.ref a) (.int i) H Q\/rIxT Z (.ref a) (.int i) H Q\/rIxS (.ref a) (.int i) H Q\/rIxTop w Z (.ref a) (.int i) H Q:=.inr (.inl ⟨a,xs,i,v,rfl,rfl,SqT.of h,e,q⟩)
theorem ixL{H:Hp}{Q:VK}{a:Addr}{v:V}(h:H a=some (.lst xs))(e:atI xs i=some v)(q:Q v H):rIxL Z (.ref a) (.int i) H Q\/rIxT Z (.ref a) (.int i) H Q\/rIxS (.ref a) (.int i) H Q\/rIxTop w Z (.ref a) (.int i) H Q:=.inl ⟨a,xs,i,v,rfl,rfl,SqL.of h,e,q⟩
theorem fS{N P:List Str}{sc:Scope}(a:sc.kind=.function:=by rfl)(b:sc.isCoroutine=false:=by rfl)(c:sc.isGenerator=false:=by rfl)(d:N.Nodup:=by decide +kernel)(e:N.take P.length=P:=by rfl)(f:∀x∈P,sc.names.lookup x=some .local\/sc.names.lookup x=some .cell:=by decide +kernel)(g:∀y∈sc.names,y.2≠ .free:=by decide +kernel):FnScope N P sc:=⟨a,b,c,d,e,f,g⟩
theorem cS{N:List Str}{sc scope:Scope}{caps:List Nat}{ns:List Str}(a:∀y∈scope.names,y.2≠ .cell:=by decide +kernel)(b:scope.kind=.function:=by rfl)(c:∀y∈scope.names,y.2=.local->scope.names.lookup y.1=some .local:=by decide +kernel)(d:scope.names.lookup x=some .local:=by rfl)(e:∀y∈scope.names,y.2=.free->sc.names.lookup y.1=some .cell\/sc.names.lookup y.1=some .free:=by decide +kernel)(f:caps.map (λj=>N[j]?)=ns.map some:=by rfl)(g:∀y∈ns,scope.names.lookup y=some .free:=by decide +kernel)(h:(x::ns).Nodup:=by decide +kernel):CompScope N sc scope x caps ns:=⟨a,b,c,d,e,f,g,h⟩
section
theorem ixE(Z:FZ)(w:World)(ha:PE X a ta)(hb:PE X b tb)(hs:QC b:=by exact λ_ _=>rfl)(hK:X.K=Z:=by rfl)(hw:X.w=w:=by rfl):PE X (.Subscript a b pos) (tOp (λx y H Q=>rIxL Z x y H Q\/rIxT Z x y H Q\/rIxS x y H Q\/rIxTop w Z x y H Q) ta tb):=DV (kIx hK hw) ha hb hs
end
noncomputable def Cn(P:Program)(w:World)(Z:FZ)(mg:Str->Option Value)(base:Heap)(CX:CXT)(n:Nat)(x:Str)(ps:List Str)(sp:Sp):Prop:=∃f d,FnOk P w Z mg base CX n f d ps sp/\Binds Z d ps []/\kZ Z (.ref f)=true/\mg x=some (.ref f)
end _L
noncomputable abbrev q1L:List PySem.Str:=["_law_cell","_law_many","_law_main"]
noncomputable abbrev q2L:List PySem.Str:=["_law_cell"]
noncomputable abbrev q4L:List PySem.Str:=["_law_cells","_law_heads_here","_law_b"]
noncomputable abbrev q5L:List PySem.Str:=["_law_found","_law_due"]
noncomputable abbrev q7L:List PySem.Str:=["_law_frames"]
noncomputable abbrev bOZ:List PySem.Str:=["_law_olds","_law_news","_law_old_cells","_law_new_cells"]
noncomputable abbrev cvZ:List PySem.Str:=["_law_one","_law_other"]
noncomputable abbrev cqZ:List PySem.Str:=["_law_plain_one","_law_other","_law_bits"]
noncomputable abbrev aoZ:List PySem.Str:=["_law_script","_law_k"]
noncomputable abbrev QV:List PySem.Str:=["_law_script"]
noncomputable abbrev VX:List PySem.Str:=["_law_state","_law_kind","_law_cell"]
noncomputable abbrev MZ:List PySem.Str:=["_law_state","_law_kinds","_law_cell"]
noncomputable abbrev ctZ:List PySem.Str:=["_law_state","_law_more","_law_heads_here"]
noncomputable abbrev CF:List PySem.Str:=["_law_state","_law_more"]
noncomputable abbrev cyZ:List PySem.Str:=["_law_value","_law_many"]
noncomputable abbrev cdZ:List PySem.Str:=["blocks","cells","frame","row"]
noncomputable abbrev apZ:List PySem.Str:=["blocks","number","values"]
noncomputable abbrev bUZ:List PySem.Str:=["cell","new_numbers"]
noncomputable abbrev QW:List PySem.Str:=["cells","frame","row"]
noncomputable abbrev b5Z:List PySem.Str:=["cells","frame","word"]
noncomputable abbrev LK:List PySem.Str:=["cells","value"]
noncomputable abbrev RP:List PySem.Str:=["cells","values"]
noncomputable abbrev chZ:List PySem.Str:=["frame","many_rows"]
noncomputable abbrev qE:List PySem.Str:=["frame","many_taken","values"]
noncomputable abbrev RU:List PySem.Str:=["frame","row"]
noncomputable abbrev crZ:List PySem.Str:=["frame","slot","value"]
noncomputable abbrev ZD:List PySem.Str:=["root","parts_in","made"]
noncomputable abbrev alZ:List PySem.Str:=["self","blocks","main","numbers","most"]
noncomputable abbrev VO:List PySem.Str:=["self","cell"]
noncomputable abbrev ZE:List PySem.Str:=["self","frame","row"]
noncomputable abbrev SI:List PySem.Str:=["self","outcome"]
noncomputable abbrev ajZ:List PySem.Str:=["self","told"]
noncomputable abbrev CG:List PySem.Str:=["self","value"]
noncomputable abbrev aiZ:List PySem.Str:=["self","values"]
noncomputable abbrev G0:List PySem.Str:=["self"]
noncomputable abbrev RA:List PySem.Str:=["sign","a","b"]
noncomputable abbrev afZ:List PySem.Str:=["stack","many"]
noncomputable abbrev WU:List PySem.Str:=["value","heads"]
noncomputable abbrev EY:List PySem.Str:=["value"]
noncomputable abbrev ZB:List PySem.Str:=["values","new_numbers"]
namespace TM
open PySem PyProof.Rows
section
end
end TM
namespace _L
open PySem PySem.Spec PyProof.Rows
section
end
end _L
namespace _L
open PySem PyProof.Rows
section
end
end _L
namespace _L
open PySem PySem.Spec PyProof.Rows
section
noncomputable def aYZ(Z:FZ):R2:=λx y H Q=>∃a b xs ys,x=.ref a/\y=.ref b/\SqL Z H a xs/\SqL Z H b ys/\xs.all P6=true/\ys.all P6=true/\Q (.bl (!EW xs ys)) H
theorem ZV{X:Cx}(hu:X.A.units<cLine):OpR X (compareOp .NotEq) (aYZ X.K):=by
 intro i s σ H x y v u Q I rx ry h;obtain⟨a,b,xs,ys,rfl,rfl,ha,hb,fx,fy,q⟩:=h;cases rx;cases ry;obtain⟨g,r,pl,_⟩:=I.list ha;obtain⟨c,r2,f,_⟩:=I.list hb;have l1:=r.length;have l2:=r2.length;by_cases hl:xs.length=ys.length
 ·have d:g.length=c.length:=by rw[<-l1,<-l2];exact hl
  refine SeqAt.RcNeAt.lists (e:=λj=>eqV ((xs[j]?).getD .non) ((ys[j]?).getD .non)) pl.isList f.isList (by simpa using d) hu (λj h1 h2=>YC r r2 fx fy j h1 h2) X.prog X.w X.xe _ ⟨.bl (!EW xs ys),H,I, ?_,q⟩;show Value.bool _=Value.bool _;unfold EW;rw[<-hl,Nat.min_self,beq_self_eq_true,Bool.and_true];simp only[size_toArray,l1]
 ·have d:g.length≠c.length:=by rw[<-l1,<-l2];exact hl
  refine SeqAt.RcNeAt.lists_lengths pl.isList f.isList (by simpa using d) hu X.prog X.w X.xe _ ⟨.bl (!EW xs ys),H,I, ?_,q⟩;show Value.bool _=Value.bool _;unfold EW;rw[beq_false_of_ne hl,Bool.and_false];rfl
theorem aXZ{X:Cx}{Z:FZ}(hu:X.A.units<cLine)(hK:X.K=Z:=by rfl):OpR X (compareOp .NotEq) (aYZ Z):=by subst hK;exact ZV hu
theorem DX{as bs:List Str}:EW (as.map V.str) (bs.map V.str)=decide (as=bs):=by
 unfold EW;rw[length_map,length_map];by_cases h:as=bs
 ·subst h;rw[decide_eq_true rfl,beq_self_eq_true,Bool.and_true,all_eq_true];intro j hj;rw[mem_range,Nat.min_self]at hj;rw[getElem?_map,List.getElem?_eq_getElem hj];show eqV (.str _) (.str _)=true;simp[eqV]
 ·rw[decide_eq_false h,Bool.and_eq_false_iff];by_cases hl:as.length=bs.length
  ·refine .inl ?_;rw[<-Bool.not_eq_true];intro ha;rw[all_eq_true]at ha;refine h (List.ext_getElem hl λj h1 h2=> ?_);have:=ha j (mem_range.mpr (by omega));rw[getElem?_map,getElem?_map,List.getElem?_eq_getElem h1,List.getElem?_eq_getElem h2]at this;have e:eqV (.str as[j]) (.str bs[j])=true:=this
   simpa [eqV]using e
  ·exact .inr (beq_false_of_ne hl)
theorem FV{as:List Str}:(as.map V.str).all P6=true:=by
 rw[all_eq_true];intro x hx;obtain⟨s,_,rfl⟩:=mem_map.mp hx;rfl
end
end _L
namespace _L
open PySem PySem.Spec PyProof PyProof.Rows
section
end
end _L
namespace _L
open PySem PySem.Spec PyProof.Rows
section
noncomputable def bfZ(Z:FZ):R2:=λx y H Q=>∃a b xs ys n,x=.ref a/\y=.ref b/\SqL Z H a xs/\SqL Z H b ys/\xs.length=ys.length/\n<=50/\(∀(j:Nat) u v,xs[j]? =some u->ys[j]? =some v->Dl Z H n u v)/\Q (.bl false) H
theorem YK{X:Cx}(hu:X.A.units+64<cLine):OpR X (compareOp .NotEq) (bfZ X.K):=by
 intro g s σ H x y v u Q I rx ry h;obtain⟨a,b,xs,ys,n,rfl,rfl,ha,hb,hl,hn,hd,q⟩:=h;cases rx;cases ry;obtain⟨d,r,pl,_⟩:=I.list ha;obtain⟨c,r2,f,_⟩:=I.list hb;have i:d.length=c.length:=by rw[<-r.length,<-r2.length];exact hl
 have h2:X.A.in1.units+n<cLine:=by
  show X.A.units+1+n<cLine;exact lt_of_le_of_lt (by omega) hu
 refine SeqAt.RcNeAt.lists (e:=λ_=>true) pl.isList f.isList (by simpa using i) (lt_of_le_of_lt (le_add_right _ _) hu) (λj h1 k=> ?_) X.prog X.w X.xe _ ⟨.bl false,H,I, ?_,q⟩
 ·obtain⟨x,hx,rx⟩:=N7 r h1;obtain⟨y,hy,ry⟩:=N7 r2 k;exact ZR I n X.A.in1 x y _ _ h2 (hd j x y hx hy) rx ry
 ·have:((List.range d.toArray.size).all λ_=>true)=true:=by simp
  rw[this];rfl
theorem cSZ{X:Cx}{Z:FZ}(hu:X.A.units+64<cLine)(hK:X.K=Z:=by rfl):OpR X (compareOp .NotEq) (bfZ Z):=by subst hK;exact YK hu
end
theorem Room.u1(hr:Room k A):A.units+1<cLine:=lt_of_le_of_lt (add_le_add_left (by decide:1<=64) _) hr.units
section
theorem cC{X:Cx}{e:Expr}{es:List Expr}(c:Cn X.prog X.w X.K X.mg X.base CX0 k x ps sp)(hr:Room j X.A)(ha:PA X (e::es) t)(hk:k<=j:=by omega)(hg:Gl X x:=by exact rfl)
  (hdb:(x==("__debug__":Str))=false:=by decide)(he:starEach (e::es) X.env=(false,eval e X.env)::starEach es X.env:=by rfl)(hpl:(backTo pos (starEach es X.env)).any (·.1)=false:=by rfl):
  PE X (.Call (.Name x p) (e::es) [] pos) (WA sp [] E0 t):=by
 obtain⟨f,d,F,hb,a,hm⟩:=c;exact AB F (hr.mono hk) hg hm a hb .nil Q4 ha hdb he hpl
theorem mC{e:Expr}{es:List Expr}(he:PE X o ta)(c:Cls X.K C)(hm:Meth X.K C m f)(F:FnOk X.prog X.w X.K X.mg X.base CX0 k f fd ps sp)(hr:Room j X.A)(hb:Binds X.K fd ps [])(ha:PA X (e::es) t)(hk:k<=j:=by omega)
  (hst:starEach (e::es) X.env=(false,eval e X.env)::starEach es X.env:=by rfl)(hpl:(backTo pos (starEach es X.env)).any (·.1)=false:=by rfl)
  (ht:eval (.Call (.Attribute o m apos) (e::es) [] pos) X.env=(do
   let ov<-eval o X.env
   standAt apos.atName
   let(f,first)<-holding [ov] (getMethod ov m pl)
   callWith pos f first (backTo pos (starEach (e::es) X.env)) (backToKw pos (keywordEach [] X.env))):=by rfl):
  PE X (.Call (.Attribute o m apos) (e::es) [] pos) (QF C m sp [] E0 ta t):=ZH (pl:=pl) he c hm F (hr.mono hk) hb .nil Q4 ha hst hpl ht
theorem mN(he:PE X o ta)(c:Cls X.K C)(hm:Meth X.K C m f)(F:FnOk X.prog X.w X.K X.mg X.base CX0 k f fd ps sp)(hr:Room j X.A)(hb:Binds X.K fd ps [])(hk:k<=j:=by omega)
  (ht:eval (.Call (.Attribute o m apos) [] [] pos) X.env=(do
   let ov<-eval o X.env
   standAt apos.atName
   let(f,first)<-holding [ov] (getMethod ov m pl)
   callWith pos f first (backTo pos (starEach [] X.env)) (backToKw pos (keywordEach [] X.env))):=by rfl):
  PE X (.Call (.Attribute o m apos) [] [] pos) (QF C m sp [] E0 ta W2):=WY (pl:=pl) he c hm F (hr.mono hk) hb .nil Q4 ht
theorem sS{X:Cx}{x:Str}{pos:Pos}(i:Nat)(hN:X.N.Nodup)(he:PE X e te)(hi:X.N[i]? =some x:=by exact rfl)(hx:Loc X.env.scope x:=by exact Or.inl rfl)(hs:swapsWith e (some (.Name x pos')) pos.line X.env=pure false:=by rfl)(hf:X.fn x=true\/X.env.scope.names.lookup x=some .local:=by first|exact .inl rfl|exact .inr rfl|assumption):
  PS X (.Assign [.Name x pos'] e pos) (adZ te (KS i)):=NA hN hi hx he hs hf
theorem gN(i:Nat)(hN:X.N.Nodup)(hi:X.N[i]? =some x:=by exact rfl)(hx:Loc X.env.scope x:=by exact Or.inl rfl)(hf:X.fn x=true\/X.env.scope.names.lookup x=some .local:=by first|exact .inl rfl|exact .inr rfl|assumption):_P X (.Name x pos) (KS i):=YX hN hi hx hf
theorem kL{X:Cx}(Z:FZ)(hm:X.mg "len"=none)(hx:PE X e te)(hK:X.K=Z:=by rfl)(hg:Gl X "len":=by exact rfl)
  (he:starEach [e] X.env=(false,eval e X.env)::starEach [] X.env:=by rfl)(hpl:(backTo pos (starEach [] X.env)).any (·.1)=false:=by rfl):PE X (.Call (.Name "len" p) [e] [] pos) (tCB (rLen Z) (JZ te W2)):=E3 (dnZ hK) hg hm NP (A0 hx B4 he) (by decide) (by decide) he hpl
theorem aP{apos:Pos}(Z:FZ)(ho:PE X o td)(he:PE X e te)(hK:X.K=Z:=by rfl)
  (hbase:attributeBase o "append" X.env (eval o X.env)=eval o X.env:=by rfl)
  (hfew:((backTo cpos (starEach [e] X.env)).all (λx=> !x.1)&&(backToKw cpos (keywordEach [] X.env)).all (λx=>x.1.isSome)
   &&decide ([e].length+([]:List Keyword).length+(if([]:List Keyword).isEmpty then 0 else 1)<30))=true:=by rfl)
  (hline:(apos.endLine==cpos.line)=true:=by rfl)(hs:starEach [e] X.env=(false,eval e X.env)::starEach [] X.env:=by rfl)(hplain:(backTo cpos (starEach [] X.env)).any (·.1)=false:=by rfl):
  PE X (.Call (.Attribute o "append" apos) [e] [] cpos) (tBM Z "list" rAppend td (JZ te W2)):=
 RO PySem.F.plainAttrs_list PySem.F.slot_list_append PySem.F.type_list_append RG ho (A0 he B4 hs) hK hbase hfew hline hs hplain
theorem dS{X:Cx}(hr:Room k X.A)(ho:PE X o td):PE X (.Subscript o (.Constant (.str x) j cp) pos) (PN td (tC (.str x))):=IT hr.u1 ho B8 (λ_ _=>rfl)
end
theorem Fun.om{st:Stmt}{sp:Sp}(F:Fun Z x qual st f fd)(S:FnScope N ps (B6 st))
  (hbody:∀(cdv:Value) (A:Around) (outer:List Env) (s:Shared) (H:Hp) (vs:List V) (Q:VK) (E:XK),Room k (A.deeper (envOfC qual (B6 st) s.heap.objs.size f cdv))->sp vs H Q E->
   ∃t,PSs (HU CX0 P w Z mg base N qual (B6 st) f cdv A outer s H E).nox (E5 st) t/\t {nx:=λ_ H'=>Q .non H',rt:=Q} (start N vs) H)
  (len:∀vs H Q E,sp vs H Q E->vs.length=ps.length:=by intro _ _ _ _ h;cases h;subst_vars;rfl):FnOk P w Z mg base CX0 (k+1) f fd ps sp:=F.ok S len hbody
end _L
namespace _B
open PySem _L
noncomputable abbrev AS:=Addr->Prop
noncomputable def Kp(S:AS)(H H':Hp):Prop:=(∀b xs,H b=some (.tup xs)->H' b=some (.tup xs))/\∀b o,H b=some o->¬S b->H' b=some o
theorem Kp.trans(a:Kp S H H1)(b:Kp S H1 H2):Kp S H H2:=⟨λc xs h=>b.1 c xs (a.1 c xs h),λc xs h n=>b.2 c xs (a.2 c xs h n) n⟩
theorem Kp.of(h:Same H H'):Kp S H H':=⟨λb o q=>h b _ q,λb o q _=>h b o q⟩
theorem Kp.upd{S:AS}{H:Hp}{p:Addr}(h:S p)(hp:H p=some (.lst xs))(o:HO):Kp S H (upd H p o):=⟨λb u q=>by
 rw[B7 (W4 q hp (by intro z;cases z))];exact q,λb u q n=>by
 have e:b≠p:=λe=>n (by rw[e];exact h);rw[B7 e];exact q⟩
theorem Kp.tups(h:Kp S H H'){b:Addr}(q:H b=some (.tup xs)):H' b=some (.tup xs):=h.1 b xs q
noncomputable def Wd(H:Hp)(S S':AS):Prop:=∀a,S' a->S a\/H a=none
theorem A8{H:Hp}{p:Addr}(h:H p=none)(o:HO):Same H (upd H p o):=λb u q=>by rw[B7 (C6 q h)];exact q
structure Tr where
 T:Type
 kids:T->List T
 size:T->Nat
 val:AS->Hp->T->V->Prop
 res:AS->Hp->T->V->Prop
 hsz:∀t,size t=1+((kids t).map size).sum
 vm:∀ {S H H' t v},Kp S H H'->val S H t v->val S H' t v
 rm:∀ {S H H' t v},Kp S H H'->res S H t v->res S H' t v
 vw:∀ {S S' H t v},Wd H S S'->val S H t v->val S' H t v
 rw':∀ {S S' H t v},Wd H S S'->res S H t v->res S' H t v
inductive All2 {α β:Type} (R:α->β->Prop):List α->List β->Prop where
 |nil:All2 R [] []
 |cons {a b as bs}:R a b->All2 R as bs->All2 R (a::as) (b::bs)
namespace All2
theorem imp{α β:Type}{R S:α->β->Prop}{as:List α}{bs:List β}(h:All2 R as bs)(f:∀a b,R a b->S a b):All2 S as bs:=by
 induction h with
 |nil=>exact .nil
 |cons r _ ih=>exact .cons (f _ _ r) ih
theorem app{α β:Type}{R:α->β->Prop}{as as':List α}{bs bs':List β}(h:All2 R as bs)(h':All2 R as' bs'):All2 R (as++as') (bs++bs'):=by
 induction h with
 |nil=>exact h'
 |cons r _ ih=>exact .cons r ih
theorem rev{α β:Type}{R:α->β->Prop}{as:List α}{bs:List β}(h:All2 R as bs):All2 R as.reverse bs.reverse:=by
 induction h with
 |nil=>exact .nil
 |cons r _ ih=>rw[reverse_cons,reverse_cons];exact ih.app (.cons r .nil)
theorem len{α β:Type}{R:α->β->Prop}{as:List α}{bs:List β}(h:All2 R as bs):as.length=bs.length:=by
 induction h with
 |nil=>rfl
 |cons _ _ ih=>simp only[length_cons,ih]
theorem get{α:Type}{R:α->β->Prop}{as:List α}{bs:List β}(h:All2 R as bs):∀ {i:Nat} {b:β},bs[i]? =some b->∃a,as[i]? =some a/\R a b:=by
 induction h with
 |nil=>intro i b e;simp at e
 | @cons a b as bs r _ ih=>
  intro i c e;cases i with
  |zero=>simp at e;subst e;exact⟨a,rfl,r⟩
  |succ i=>exact ih (by simpa using e)
theorem get'{β:Type}{R:α->β->Prop}{as:List α}{bs:List β}(h:All2 R as bs):∀ {i:Nat} {a:α},as[i]? =some a->∃b,bs[i]? =some b/\R a b:=by
 induction h with
 |nil=>intro i b e;simp at e
 | @cons a b as bs r _ ih=>
  intro i c e;cases i with
  |zero=>simp at e;subst e;exact⟨b,rfl,r⟩
  |succ i=>exact ih (by simpa using e)
theorem split{α:Type}{R:α->β->Prop}{as as':List α}:∀ {bs:List β},All2 R (as++as') bs->∃b1 b2,bs=b1++b2/\All2 R as b1/\All2 R as' b2:=by
 induction as with
 |nil=>intro bs h;exact⟨[],bs,rfl,.nil,h⟩
 |cons a as ih=>
  intro bs h;cases h with
  |cons r h=>
   obtain⟨b1,b2,rfl,h1,h2⟩:=ih h;exact⟨_::b1,b2,rfl,.cons r h1,h2⟩
end All2
inductive Reach (D:Tr) (t0:D.T):List D.T->List D.T->Prop where
 |start:Reach D t0 [] [t0]
 |step {A:List D.T} {t:D.T} {r:List D.T}:Reach D t0 A (t::r)->Reach D t0 (A++ [t]) (D.kids t++r)
theorem Reach.back{t:D.T}{A:List D.T}(h:Reach D t0 (A++ [t]) W):∃r,W=D.kids t++r/\Reach D t0 A (t::r):=by
 generalize e:A++ [t]=B at h;cases h with
 |start=>simp at e
 |step h=>
  have:=List.append_inj' e rfl;obtain⟨rfl,e2⟩:=this;cases e2;exact⟨_,rfl,h⟩
theorem Reach.first(h:Reach D t0 [] W):W=[t0]:=by
 generalize e:([]:List D.T)=B at h;cases h with
 |start=>rfl
 |step h=>simp at e
theorem Reach.size(h:Reach D t0 A W):A.length+(W.map D.size).sum=D.size t0:=by
 induction h with
 |start=>simp
 | @step A t r _ ih=>
  simp only[length_append,length_cons,length_nil,map_append,sum_append,map_cons,sum_cons]at ih⊢;have:=D.hsz t;omega
theorem Tr.pos(D:Tr)(t:D.T):1<=D.size t:=by have:=D.hsz t;omega
theorem Tr.len_le(D:Tr):∀W:List D.T,W.length<=(W.map D.size).sum
 | []=>le_refl _
 |t::r=>by have:=D.pos t;have:=D.len_le r;simp only[length_cons,map_cons,sum_cons];omega
theorem Tr.kids_le(D:Tr)(t:D.T):(D.kids t).length<=D.size t:=by have:=D.len_le (D.kids t);have:=D.hsz t;omega
noncomputable def MetAt(D:Tr)(S:AS)(H:Hp)(t:D.T)(x:V):Prop:=∃p v,x=.ref p/\H p=some (.tup [v,.int ((D.kids t).length:Nat)])/\D.val S H t v
theorem MetAt.mono(m:Kp S H H')(h:MetAt D S H t x):MetAt D S H' t x:=by
 obtain⟨p,v,e,hp,hv⟩:=h;exact⟨p,v,e,m.tups hp,D.vm m hv⟩
theorem MetAt.wide(m:Wd H S S')(h:MetAt D S H t x):MetAt D S' H t x:=by
 obtain⟨p,v,e,hp,hv⟩:=h;exact⟨p,v,e,hp,D.vw m hv⟩
inductive spPW (D:Tr) (vs:List V) (H:Hp) (Q:VK):Prop
 |mk:∀S t v,(vs=[v])->(D.val S H t v)->(D.size t<=400000)->(∀r H' ps,Same H H'->H r=none->H' r=some (.lst ps)->All2 (D.val S H') (D.kids t) ps->Q (.ref r) H')->spPW D vs H Q
noncomputable def spP(D:Tr):Sp:=λvs H Q _=>spPW D vs H Q
end _B
namespace _B
open PySem _L
theorem b2Z{H:Hp}{a:Addr}{o:HO}(h:H a=some o):upd H a o=H:=by
 funext b
 unfold upd;split
 ·rename_i e;rw[e,h]
 ·rfl
end _B
namespace _C
open PySem _L _B
noncomputable def V8:V->Bool
 | .int _| .bl _| .str _| .non=>true
 |_=>false
theorem sc_plain(h:V8 x=true):X6 x=true:=by cases x<;>first|rfl|(cases h;done)
theorem YF(h:V8 x=true):cbZ x x=true:=by cases x<;>first|rfl|(cases h;done)
noncomputable def Mo(H H':Hp):Prop:=∀b xs,H b=some (.tup xs)->H' b=some (.tup xs)
noncomputable def Dp(H:Hp):Nat->V->V->Prop
 |0,x,y=>V8 x=true/\x=y
 |n+1,x,y=>(V8 x=true/\x=y)\/∃a b xs ys,x=.ref a/\y=.ref b/\H a=some (.tup xs)/\H b=some (.tup ys)/\xs.length<=1000/\All2 (Dp H n) xs ys
theorem Dp.sc(h:V8 x=true):∀n,Dp H n x x
 |0=>⟨h,rfl⟩
 |_+1=> .inl ⟨h,rfl⟩
noncomputable def Bt(a:Addr)(H H':Hp):Prop:=∀b o,H b=some o->b≠a->H' b=some o
theorem Bt.of(h:Same H H'):Bt a H H':=λb o q _=>h b o q
theorem Bt.trans(h:Bt a H H1)(h':Bt a H1 H2):Bt a H H2:=λb o q n=>h' b o (h b o q n) n
theorem Bt.upd(o:HO):Bt a H (upd H a o):=λb u q n=>by rw[B7 n];exact q
theorem Bt.tups(h:Bt a H H')(ha:H a=some (.lst us)):Mo H H':=λb xs q=>h b _ q λe=>by subst e;rw[ha]at q;cases q
theorem B9(s:Same H H'):Mo H H':=λb xs e=>s _ _ e
theorem Z8:1<=sizeLine:=by decide
theorem L5:2<=sizeLine:=by decide
theorem NG:3<=sizeLine:=by decide
theorem U9:kitOne Z (.type "tuple") (.type "tuple")=some true:=rfl
theorem bXZ:kitOne Z (.type "tuple") (.type "list")=some false:=by rfl
theorem NJ:kitOne Z (.type "list") (.type "list")=some true:=by rfl
theorem cpZ:kitOne Z (.type "list") (.type "tuple")=some false:=by rfl
theorem dJZ:kitAny Z (.type "tuple") [.type "list",.type "tuple"]=some true:=by rfl
theorem daZ:kitAny Z (.type "list") [.type "list",.type "tuple"]=some true:=by rfl
structure ScT (Z:FZ) (t:Value):Prop where
 li:kitOne Z t (.type "list")=some false
 tu:kitOne Z t (.type "tuple")=some false
 bo:kitAny Z t [.type "list",.type "tuple"]=some false
 bl:∃b,kitOne Z t (.type "bool")=some b
 st:∃b,kitOne Z t (.type "str")=some b
 nt:∃b,kitOne Z t (.type "int")=some b
theorem KG(h:V8 x=true):∃t,TyOf Z H x t/\ScT Z t:=by
 cases x with
 |int i=>exact⟨_,.int i,by rfl,by rfl,by rfl,⟨_,by rfl⟩,⟨_,by rfl⟩,⟨_,by rfl⟩⟩
 |bl i=>exact⟨_,.bl i,by rfl,by rfl,by rfl,⟨_,by rfl⟩,⟨_,by rfl⟩,⟨_,by rfl⟩⟩
 |str i=>exact⟨_,.str i,by rfl,by rfl,by rfl,⟨_,by rfl⟩,⟨_,by rfl⟩,⟨_,by rfl⟩⟩
 |non=>exact⟨_,.non,by rfl,by rfl,by rfl,⟨_,by rfl⟩,⟨_,by rfl⟩,⟨_,by rfl⟩⟩
 |_=>cases h
end _C
namespace _N
open PySem _L
seal PE PT PW PA PS PSs PTs PI _P PGs PO
noncomputable def top(i:Nat):Stmt:=PySem.Challenge.pw_speakmill_k66_whole_collect_anywhere.main.body.getD i (.Pass ⟨0,0,0,0⟩)
noncomputable abbrev s_two_told:Stmt:=top 17
noncomputable abbrev s_quotient_told:Stmt:=top 18
noncomputable abbrev s_outcome:Stmt:=top 19
noncomputable abbrev s_bounded:Stmt:=top 20
noncomputable abbrev NT:List Str:=["sign","a","b"]
theorem sc_two_told:FnScope NT RA (B6 s_two_told):=fS
noncomputable abbrev CK:List Str:=["a","b"]
theorem sc_quotient_told:FnScope CK ["a","b"] (B6 s_quotient_told):=fS
noncomputable abbrev RY:List Str:=["sign","a","b"]
theorem sc_outcome:FnScope RY RA (B6 s_outcome):=fS
noncomputable abbrev QY:List Str:=["number"]
theorem sc_bounded:FnScope QY ["number"] (B6 s_bounded):=fS
structure NoG (mg:Str->Option Value):Prop where
 len_:mg "len"=none
 min_:mg "min"=none
 abs_:mg "abs"=none
 isinstance_:mg "isinstance"=none
 tuple_:mg "tuple"=none
 int_:mg "int"=none
 bool_:mg "bool"=none
theorem A8{H:Hp}{p:Addr}(h:H p=none)(o:HO):Same H (upd H p o):=λb u q=>by rw[B7 (C6 q h)];exact q
theorem ifT{A:Prop}[Decidable c](h:c)(a:A):if c then A else B:=by rw[if_pos h];exact a
theorem ifF{B:Prop}[Decidable c](h:¬c)(b:B):if c then A else B:=by rw[if_neg h];exact b
noncomputable abbrev GR:Int:=10000000000000000000000000000000000000000
noncomputable def bnd(n:Int):List V:=if n>GR\/n< -GR then [.str "refused",.str "great"]else [.str "value",.int n]
noncomputable def quo(a b:Int):List V:=if b=0 then [.str "refused",.str "nought"]else [.str "value",.int (a.fdiv b)]
theorem L5:(2:Nat)<=sizeLine:=by decide
section
inductive spQuoW(vs:List V)(H:Hp)(Q:VK):Prop
 |mk:∀a b:Int,(vs=[.int a,.int b])->(b.natAbs.log2<9000)->(∀r H',Same H H'->H' r=some (.tup (quo a b))->Q (.ref r) H')->spQuoW vs H Q
noncomputable def a2Z:Sp:=λvs H Q _=>spQuoW vs H Q
theorem ok_quotient_told(F:Fun Z "quotient_told" "quotient_told" s_quotient_told f fd):FnOk P w Z mg base CX0 1 f fd ["a","b"] a2Z:=by
 refine F.om sc_quotient_told λd A c s H vs Q E hr h=> ?_;obtain⟨a,b,rfl,hb,q⟩:=h;have nd:=sc_quotient_told.nd;have hu:=hr.units0;refine⟨_,(A9 (D2 (C0 (kEq (Z:=Z) hu) (pv 1) B0 rfl) (B5 (C2 (C3 (A0 B8 (A0 B8 B4))))) C4)
   (B5 (C2 (C3 (A0 B8 (A0 (C1 D6 (pv 0) (pv 1)) B4)))))), ?_⟩
 refine⟨_,rfl,.inl ⟨rfl,_,rfl,EX (λe=> ?_) (λe=> ?_)⟩⟩
 ·have e':b=0:=by have:=of_decide_eq_true e;injection this
  refine⟨L5,λp hp=>q p _ (A8 hp _) ?_⟩;rw[A7,quo,if_pos e']
 ·have e':b≠0:=λz=>e (by rw[z];rfl);refine⟨_,rfl,_,rfl,_,_,rfl,rfl,⟨e',hb⟩,L5,λp hp=>q p _ (A8 hp _) ?_⟩;rw[A7,quo,if_neg e']
inductive spOutW (vs:List V) (H:Hp) (Q:VK):Prop
 |mk:∀(s:Str) (a b:Int),(vs=[.str s,.int a,.int b])->((s="+"/\Q (.int (a+b)) H\/s="-"/\Q (.int (a - b)) H\/s="*"/\IntMulOk a b/\Q (.int (a*b)) H))->spOutW vs H Q
noncomputable def a3Z:Sp:=λvs H Q _=>spOutW vs H Q
theorem ok_outcome(F:Fun Z "outcome" "outcome" s_outcome f fd):FnOk P w Z mg base CX0 1 f fd RA a3Z:=by
 refine F.om sc_outcome λd A c s H vs Q E hr h=> ?_;obtain⟨s,a,b,rfl,q⟩:=h;have nd:=sc_outcome.nd;have hu:=hr.units0;refine⟨_,(A9 (D2 (C0 (kEq (Z:=Z) hu) (pv 0) B8 rfl) (B5 (C2 (C1 YO (pv 1) (pv 2)))) C4)
   (A9 (D2 (C0 (kEq (Z:=Z) hu) (pv 0) B8 rfl) (B5 (C2 (C1 M3 (pv 1) (pv 2)))) C4)
   (B5 (C2 (C1 CP (pv 1) (pv 2)))))), ?_⟩
 rcases q with⟨rfl,q⟩|⟨rfl,q⟩|⟨rfl,hm,q⟩
 ·exact⟨_,rfl,.inl ⟨rfl,_,rfl,ifT (by decide) ⟨_,rfl,_,rfl,.inl ⟨_,_,rfl,rfl,q⟩⟩⟩⟩
 ·exact⟨_,rfl,.inl ⟨rfl,_,rfl,ifF (by decide) ⟨_,rfl,.inl ⟨rfl,_,rfl,ifT (by decide) ⟨_,rfl,_,rfl,_,_,rfl,rfl,q⟩⟩⟩⟩⟩
 ·exact⟨_,rfl,.inl ⟨rfl,_,rfl,ifF (by decide) ⟨_,rfl,.inl ⟨rfl,_,rfl,ifF (by decide) ⟨_,rfl,_,rfl,_,_,rfl,rfl,hm,q⟩⟩⟩⟩⟩
inductive spBndW (vs:List V) (H:Hp) (Q:VK):Prop
 |mk:∀n:Int,(vs=[.int n])->(∀r H',Same H H'->H' r=some (.tup (bnd n))->Q (.ref r) H')->spBndW vs H Q
noncomputable def a4Z:Sp:=λvs H Q _=>spBndW vs H Q
theorem ok_bounded(F:Fun Z "bounded" "bounded" s_bounded f fd)(B:NoG mg)(m_GREATEST:mg "GREATEST"=some (.int GR tG)):FnOk P w Z mg base CX0 1 f fd ["number"] a4Z:=by
 refine F.om sc_bounded λb A a s H vs Q E hr h=> ?_;obtain⟨n,rfl,q⟩:=h;have nd:=sc_bounded.nd;have hu:=hr.units0;refine⟨_,(A9 (D2 (C0 aLZ (E3 VE rfl B.abs_ byZ (A0 (pv 0) B4)) (Z2 (v:=.int 10000000000000000000000000000000000000000) rfl m_GREATEST ⟨_,rfl⟩) rfl) (B5 (C2 (C3 (A0 B8 (A0 B8 B4))))) C4)
   (B5 (C2 (C3 (A0 B8 (A0 (pv 0) B4)))))), ?_⟩
 refine⟨_,rfl,_,rfl,_,_,rfl,rfl,_,rfl,EX (λe=> ?_) (λe=> ?_)⟩
 ·have e1:GR<(if n<0 then -n else n):=of_decide_eq_true e;have e':n>GR\/n< -GR:=by
   split at e1
   ·exact .inr (by omega)
   ·exact .inl (by omega)
  refine⟨L5,λp hp=>q p _ (A8 hp _) ?_⟩;rw[A7,bnd,if_pos e']
 ·have e1:¬GR<(if n<0 then -n else n):=λz=>e (decide_eq_true z);have e':¬(n>GR\/n< -GR):=by
   split at e1<;>omega
  refine⟨_,rfl,L5,λp hp=>q p _ (A8 hp _) ?_⟩;rw[A7,bnd,if_neg e']
noncomputable def sg:Nat->Str
 |0=> "+"|1=> "-"|2=> "*"|3=> "<"|4=> "="|_=> "/"
noncomputable def tw:Nat->Int->Int->List V
 |0,a,b=>bnd (a+b)|1,a,b=>bnd (a - b)|2,a,b=>bnd (a*b)|3,a,b=> [.str "value",.bl (decide (a<b))]|4,a,b=> [.str "value",.bl (decide (V.int a=V.int b))]|_,a,b=>quo a b
inductive spTwoW (vs:List V) (H:Hp) (Q:VK):Prop
 |mk:∀(k:Nat) (a b:Int),(vs=[.str (sg k),.int a,.int b])->(k<6)->(IntMulOk a b)->(b.natAbs.log2<9000)->(∀r H',Same H H'->H' r=some (.tup (tw k a b))->Q (.ref r) H')->spTwoW vs H Q
noncomputable def spTwo:Sp:=λvs H Q _=>spTwoW vs H Q
theorem ok_two_told(F:Fun Z "two_told" "two_told" s_two_told f fd)
  (BZ:Cn P w Z mg base CX0 1 "quotient_told" ["a","b"] a2Z)
  (QO:Cn P w Z mg base CX0 1 "outcome" RA a3Z)
  (QM:Cn P w Z mg base CX0 1 "bounded" ["number"] a4Z):
  FnOk P w Z mg base CX0 2 f fd RA spTwo:=by
 refine F.om sc_two_told λe A c s H vs Q E hr h=> ?_;obtain⟨k,a,b,rfl,hk,hm,hb,q⟩:=h;have nd:=sc_two_told.nd;have hu:=hr.units0;refine⟨_,(A9 (D2 (C0 (kEq (Z:=Z) hu) (pv 0) B8 rfl) (B5 (C2 (C3 (A0 B8 (A0 (L6 OQ (pv 1) (pv 2) rfl) B4))))) C4)
   (A9 (D2 (C0 (kEq (Z:=Z) hu) (pv 0) B8 rfl) (B5 (C2 (C3 (A0 B8 (A0 (L6 (kEq (Z:=Z) hu) (pv 1) (pv 2) rfl) B4))))) C4)
   (A9 (D2 (C0 (kEq (Z:=Z) hu) (pv 0) B8 rfl) (B5 (C2 (cC BZ hr (A0 (pv 1) (A0 (pv 2) B4))))) C4)
   (B5 (C2 (cC QM hr (A0 (cC QO hr (A0 (pv 0) (A0 (pv 1) (A0 (pv 2) B4)))) B4))))))), ?_⟩
 have d:k=0\/k=1\/k=2\/k=3\/k=4\/k=5:=by omega
 rcases d with rfl|rfl|rfl|rfl|rfl|rfl
 ·exact⟨_,rfl,.inl ⟨rfl,_,rfl,ifF (by decide) ⟨_,rfl,.inl ⟨rfl,_,rfl,ifF (by decide) ⟨_,rfl,.inl ⟨rfl,_,rfl,ifF (by decide)
   ⟨_,rfl,_,rfl,_,rfl,_,_,_,rfl,.inl ⟨rfl,_,rfl,q⟩⟩⟩⟩⟩⟩⟩⟩
 ·exact⟨_,rfl,.inl ⟨rfl,_,rfl,ifF (by decide) ⟨_,rfl,.inl ⟨rfl,_,rfl,ifF (by decide) ⟨_,rfl,.inl ⟨rfl,_,rfl,ifF (by decide)
   ⟨_,rfl,_,rfl,_,rfl,_,_,_,rfl,.inr (.inl ⟨rfl,_,rfl,q⟩)⟩⟩⟩⟩⟩⟩⟩
 ·exact⟨_,rfl,.inl ⟨rfl,_,rfl,ifF (by decide) ⟨_,rfl,.inl ⟨rfl,_,rfl,ifF (by decide) ⟨_,rfl,.inl ⟨rfl,_,rfl,ifF (by decide)
   ⟨_,rfl,_,rfl,_,rfl,_,_,_,rfl,.inr (.inr ⟨rfl,hm,_,rfl,q⟩)⟩⟩⟩⟩⟩⟩⟩
 ·exact⟨_,rfl,.inl ⟨rfl,_,rfl,ifT (by decide) ⟨_,rfl,_,rfl,_,_,rfl,rfl,L5,λp hp=>q p _ (A8 hp _) A7⟩⟩⟩
 ·exact⟨_,rfl,.inl ⟨rfl,_,rfl,ifF (by decide) ⟨_,rfl,.inl ⟨rfl,_,rfl,ifT (by decide) ⟨_,rfl,_,rfl,.inl ⟨rfl,L5,λp hp=>q p _ (A8 hp _) A7⟩⟩⟩⟩⟩⟩
 ·exact⟨_,rfl,.inl ⟨rfl,_,rfl,ifF (by decide) ⟨_,rfl,.inl ⟨rfl,_,rfl,ifF (by decide) ⟨_,rfl,.inl ⟨rfl,_,rfl,ifT (by decide)
   ⟨_,rfl,_,rfl,_,_,rfl,hb,q⟩⟩⟩⟩⟩⟩⟩
end
end _N
namespace _C
open PySem _L _B
theorem GRe:_N.GR=10000000000000000000000000000000000000000:=rfl
noncomputable def Bd(n:Int):Prop:= -_N.GR<=n/\n<=_N.GR
theorem OC{n:Int}(h:n.natAbs<2^300):Builtin.Int.intBits n<=2^20:=le_trans (intBits_le_iff.mpr h) (by decide)
theorem Bd.abs(h:Bd n):n.natAbs<2^300:=by
 have e:(10000000000000000000000000000000000000000:Nat)<2^300:=by decide +kernel
 have hG:=GRe;obtain⟨h1,h2⟩:=h;generalize 2^300=k at e⊢;omega
theorem Bd.mul(h:Bd a)(h':Bd b):IntMulOk a b:=IntMulOk.of_bits (OC h.abs) (OC h'.abs)
theorem Bd.log(h:Bd n):n.natAbs.log2<9000:=by
 by_cases e:n.natAbs=0
 ·rw[e];decide +kernel
 ·have:=(Nat.log2_lt e).mpr h.abs;omega
inductive Rk where
 |push (v:V)|non|load (j:Nat)|keep (j:Nat)|two (k:Nat)|cons|head|tail|empty|not|skip (n:Nat)|unless (n:Nat)|close (b n:Nat)
noncomputable def wd:Nat->Str
 |0=> "add"|1=> "sub"|2=> "mul"|3=> "less"|4=> "same"|_=> "div"
noncomputable def rkV:Rk->List V
 | .push v=> [.str "push",v]
 | .non=> [.str "none"]
 | .load j=> [.str "load",.int (j:Nat)]
 | .keep j=> [.str "keep",.int (j:Nat)]
 | .two k=> [.str (wd k)]
 | .cons=> [.str "cons"]
 | .head=> [.str "head"]
 | .tail=> [.str "tail"]
 | .empty=> [.str "empty"]
 | .not=> [.str "not"]
 | .skip n=> [.str "skip",.int (n:Nat)]
 | .unless n=> [.str "unless",.int (n:Nat)]
 | .close b n=> [.str "close",.int (b:Nat),.int (n:Nat)]
inductive Eo where
 |fr (d:Int) (sl st:List V)|rf (w:Str)|pair (st:List V) (x y:V)|fn (st:List V) (b:Nat) (xs:List V)
noncomputable def NS(H:Hp)(v:V):Prop:=(∃i,v=.int i)\/(∃b,v=.bl b)\/v=.non\/∃p xs,v=.ref p/\H p=some (.tup xs)
inductive Ef (H:Hp) (us sl:List V):Rk->List V->Eo->Prop
 |push {v st}:V8 v=true->Ef H us sl (.push v) st (.fr 1 sl (st++ [v]))
 |non {st}:Ef H us sl .non st (.fr 1 sl (st++ [.non]))
 |load {j v st}:sl[j]? =some v->Ef H us sl (.load j) st (.fr 1 sl (st++ [v]))
 |keep {j v st}:j<sl.length->Ef H us sl (.keep j) (st++ [v]) (.fr 1 (sl.take j++ [v]++sl.drop (j+1)) st)
 |twoV {k a b v st}:k<6->Bd a->Bd b->_N.tw k a b=[.str "value",v]->NS H v->Ef H us sl (.two k) (st++ [.int a,.int b]) (.fr 1 sl (st++ [v]))
 |twoR {k a b w st}:k<6->Bd a->Bd b->_N.tw k a b=[.str "refused",.str w]->Ef H us sl (.two k) (st++ [.int a,.int b]) (.rf w)
 |cons {x y st}:Ef H us sl .cons (st++ [x,y]) (.pair st x y)
 |headN {st}:Ef H us sl .head (st++ [.non]) (.rf "head")
 |tailN {st}:Ef H us sl .tail (st++ [.non]) (.rf "tail")
 |head {p c h t st} {j:Nat}:H p=some (.tup [.str "cell",.int (j:Nat)])->us[j]? =some (.ref c)->H c=some (.tup [.str "pair",h,t])->NS H h->Ef H us sl .head (st++ [.ref p]) (.fr 1 sl (st++ [h]))
 |tail {p c h t st} {j:Nat}:H p=some (.tup [.str "cell",.int (j:Nat)])->us[j]? =some (.ref c)->H c=some (.tup [.str "pair",h,t])->NS H t->Ef H us sl .tail (st++ [.ref p]) (.fr 1 sl (st++ [t]))
 |emptyN {st}:Ef H us sl .empty (st++ [.non]) (.fr 1 sl (st++ [.bl true]))
 |empty {p xs st}:H p=some (.tup xs)->Ef H us sl .empty (st++ [.ref p]) (.fr 1 sl (st++ [.bl false]))
 |not {b st}:Ef H us sl .not (st++ [.bl b]) (.fr 1 sl (st++ [.bl (!b)]))
 |skip {n st}:Ef H us sl (.skip n) st (.fr (1+(n:Nat)) sl st)
 |unless {n b st}:Ef H us sl (.unless n) (st++ [.bl b]) (.fr (1+if b=true then 0 else(n:Int)) sl st)
 |close {b n st xs}:xs.length=n->Ef H us sl (.close b n) (st++xs) (.fn st b xs)
theorem VZ{k:Nat}(hk:k<6)(a b:Int):(∃v,((∃i,v=.int i)\/∃b,v=.bl b)/\_N.tw k a b=[.str "value",v])\/∃w,_N.tw k a b=[.str "refused",.str w]:=by
 have hb:∀n:Int,(∃v,((∃i,v=.int i)\/∃b,v=.bl b)/\_N.bnd n=[.str "value",v])\/∃w,_N.bnd n=[.str "refused",.str w]:=λn=>by
  unfold _N.bnd;split
  ·exact .inr ⟨_,rfl⟩
  ·exact .inl ⟨_,.inl ⟨_,rfl⟩,rfl⟩
 have h:k=0\/k=1\/k=2\/k=3\/k=4\/k=5:=by omega
 rcases h with rfl|rfl|rfl|rfl|rfl|rfl
 ·exact hb _
 ·exact hb _
 ·exact hb _
 ·exact .inl ⟨_,.inr ⟨_,rfl⟩,rfl⟩
 ·exact .inl ⟨_,.inr ⟨_,rfl⟩,rfl⟩
 ·show(∃v,((∃i,v=.int i)\/∃b,v=.bl b)/\_N.quo a b=[.str "value",v])\/∃w,_N.quo a b=[.str "refused",.str w];unfold _N.quo;split
  ·exact .inr ⟨_,rfl⟩
  ·exact .inl ⟨_,.inl ⟨_,rfl⟩,rfl⟩
end _C
namespace _C
open PySem _L _B
seal PE PT PW PA PS PSs PTs PI _P PGs PO
noncomputable def top(i:Nat):Stmt:=PySem.Challenge.pw_speakmill_k66_whole_collect_anywhere.main.body.getD i (.Pass ⟨0,0,0,0⟩)
noncomputable abbrev s_init:Stmt:=G3 (top 3) 0
noncomputable abbrev s_put:Stmt:=G3 (top 3) 1
noncomputable abbrev s_at:Stmt:=G3 (top 3) 2
noncomputable abbrev s_many:Stmt:=G3 (top 3) 3
noncomputable abbrev s_told:Stmt:=G3 (top 3) 4
noncomputable abbrev s_law_same:Stmt:=top 39
noncomputable abbrev caZ:List Str:=["self"]
theorem sc_init:FnScope caZ G0 (B6 s_init):=fS
noncomputable abbrev dyZ:List Str:=["self","cell"]
theorem sc_put:FnScope dyZ VO (B6 s_put):=fS
noncomputable abbrev efZ:List Str:=["self","value"]
theorem sc_at:FnScope efZ CG (B6 s_at):=fS
noncomputable abbrev b1Z:List Str:=["self"]
theorem sc_many:FnScope b1Z G0 (B6 s_many):=fS
noncomputable abbrev bDZ:List Str:=["self"]
theorem sc_told:FnScope bDZ G0 (B6 s_told):=fS
noncomputable abbrev DF:List Str:=["_law_found","_law_due"]
theorem sc_law_same:FnScope DF q5L (B6 s_law_same):=fS
structure NoG (mg:Str->Option Value):Prop where
 len_:mg "len"=none
 list_:mg "list"=none
 range_:mg "range"=none
 isinstance_:mg "isinstance"=none
 str_:mg "str"=none
 tuple_:mg "tuple"=none
 int_:mg "int"=none
 bool_:mg "bool"=none
 all_:mg "all"=none
theorem ifT{A:Prop}[Decidable c](h:c)(a:A):if c then A else B:=by rw[if_pos h];exact a
theorem ifF{B:Prop}[Decidable c](h:¬c)(b:B):if c then A else B:=by rw[if_neg h];exact b
structure RCls (Z:FZ) (C:Addr) (mf:Str->Addr) (md:Str->FuncData):Prop where
 cl:Cls Z C
 ni:NoAttr Z C "in_order"
 m_put:Meth Z C "put" (mf "put")
 m_at:Meth Z C "at" (mf "at")
 m_many:Meth Z C "many" (mf "many")
 m_told:Meth Z C "told" (mf "told")
 b_put:Binds Z (md "put") VO []
 b_at:Binds Z (md "at") CG []
 b_many:Binds Z (md "many") G0 []
 b_told:Binds Z (md "told") G0 []
noncomputable def CAt(C:Addr)(H:Hp)(o L:Addr)(us:List V):Prop:=∃dx,H o=some (.ins C dx [("in_order",.ref L)])/\H L=some (.lst us)
theorem CAt.same(h:CAt C H o L us)(s:Same H H'):CAt C H' o L us:=let⟨dx,h1,h2⟩:=h;⟨dx,s _ _ h1,s _ _ h2⟩
theorem ZY(s:Same H H')(h:TyOf Z H x t):TyOf Z H' x t:=by
 cases h with
 |non=>exact .non
 |bl y=>exact .bl y
 |int y=>exact .int y
 |str y=>exact .str y
 |flt y=>exact .flt y
 |lst e=>exact .lst (s _ _ e)
 |frz e=>exact .frz (s _ _ e)
 |tup e=>exact .tup (s _ _ e)
 |dK e=>exact .dK (s _ _ e)
 |dT e=>exact .dT (s _ _ e)
 |ins e c a b d m=>exact .ins (s _ _ e) c a b d m
theorem lk(u:V):([("in_order",u)]:List (Str×V)).lookup ("in_order":Str)=some u:=by rfl
section
inductive spInitW(C:Addr)(vs:List V)(H:Hp)(Q:VK):Prop
 |mk:∀x dx,(vs=[.ref x])->(H x=some (.ins C dx []))->(∀L,H L=none->Q .non (upd (upd H L (.lst [])) x (.ins C dx [("in_order",.ref L)])))->spInitW C vs H Q
noncomputable def NO(C:Addr):Sp:=λvs H Q _=>spInitW C vs H Q
theorem ok_init(F:Fun Z "__init__" "Cells.__init__" s_init fi di)(RC:RCls Z C mf md):FnOk P w Z mg base CX0 1 fi di G0 (NO C):=by
 refine F.om sc_init λb A a s H vs Q E hr h=> ?_;obtain⟨x,dx,rfl,h1,q⟩:=h;have nd:=sc_init.nd;refine⟨_,(B5 (N2 (pv 0) (E7 B4) rfl)), ?_⟩;refine⟨(by show 0<=sizeLine;decide),λL hL=>⟨_,rfl,x,C,dx,_,rfl,(A8 hL _) _ _ h1,RC.cl,RC.ni,(by decide), ?_⟩⟩;exact q L hL
inductive spPutW (C:Addr) (vs:List V) (H:Hp) (Q:VK):Prop
 |mk:∀o L us c,(vs=[.ref o,c])->(CAt C H o L us)->(us.length<=1000)->(∀p H',H p=none->Bt L H H'->CAt C H' o L (us++ [c])->H' p=some (.tup [.str "cell",.int (us.length:Nat)])->Q (.ref p) H')->spPutW C vs H Q
noncomputable def WC(C:Addr):Sp:=λvs H Q _=>spPutW C vs H Q
theorem ok_put{mf:Str->Addr}{md:Str->FuncData}(F:Fun Z "put" "Cells.put" s_put (mf "put") (md "put"))(B:NoG mg)(RC:RCls Z C mf md):FnOk P w Z mg base CX0 1 (mf "put") (md "put") VO (WC C):=by
 refine F.om sc_put λi A a s H vs Q E hr h=> ?_;obtain⟨o,L,us,c,rfl,⟨dx,h1,h2⟩,hz,q⟩:=h;have nd:=sc_put.nd;have zz:(2000:Nat)<=sizeLine:=by decide
 refine⟨_,(A9 (C5 (aP Z (F5 (pv 0) rfl) (pv 1)))
   (B5 (C2 (C3 (A0 B8 (A0 (C1 M3 (kL Z B.len_ (F5 (pv 0) rfl)) B0) B4)))))), ?_⟩
 refine⟨_,rfl,o,C,dx,_,_,rfl,h1,RC.cl,RC.ni,lk _,.inl ⟨rfl,_,SqL.of h2⟩,_,rfl,L,us,_,rfl,rfl,h2,by omega, ?_⟩;have g:o≠L:=λe=>by subst e;rw[h2]at h1;cases h1
 have b:upd H L (.lst (us++ [c])) o=some (.ins C dx [("in_order",.ref L)]):=by rw[B7 g];exact h1
 refine⟨_,rfl,o,C,dx,_,_,rfl,b,RC.cl,RC.ni,lk _,_,_,rfl,.inl ⟨_,SqL.of A7,rfl⟩,_,_,rfl,rfl,L5,λp hp=> ?_⟩;have d:p≠L:=λe=>by subst e;rw[A7]at hp;cases hp
 have f:H p=none:=by rw[<-hp,B7 d]
 have el:(((us++ [c]).length:Nat):Int) - 1=(us.length:Nat):=by rw[length_append];simp
 show Q (.ref p) (upd (upd H L (.lst (us++ [c]))) p (.tup [.str "cell",.int ((((us++ [c]).length:Nat):Int) - 1)]));rw[el];have s2:=A8 hp (.tup [.str "cell",.int (us.length:Nat)]);exact q p _ f ((Bt.upd _).trans (.of s2)) ⟨dx,s2 _ _ b,s2 _ _ A7⟩ A7
inductive spAtW (C:Addr) (vs:List V) (H:Hp) (Q:VK):Prop
 |mk:∀(o L:Addr) (us:List V) (v:Addr) (j:Nat) (c:V),(vs=[.ref o,.ref v])->(CAt C H o L us)->(H v=some (.tup [.str "cell",.int (j:Nat)]))->(us[j]? =some c)->(Q c H)->spAtW C vs H Q
noncomputable def RW(C:Addr):Sp:=λvs H Q _=>spAtW C vs H Q
theorem ok_at{mf:Str->Addr}{md:Str->FuncData}(F:Fun Z "at" "Cells.at" s_at (mf "at") (md "at"))(RC:RCls Z C mf md):FnOk P w Z mg base CX0 1 (mf "at") (md "at") CG (RW C):=by
 refine F.om sc_at λb A a s H vs Q E hr h=> ?_;obtain⟨o,L,us,v,j,c,rfl,⟨dx,h1,h2⟩,hv,hj,q⟩:=h;have nd:=sc_at.nd;refine⟨_,(B5 (C2 (ixE Z w (F5 (pv 0) rfl) (ixE Z w (pv 1) B0)))), ?_⟩;exact⟨_,rfl,o,C,dx,_,_,rfl,h1,RC.cl,RC.ni,lk _,_,rfl,(ixT hv rfl (ixL h2 (D4 hj) q))⟩
inductive spManyW (C:Addr) (vs:List V) (H:Hp) (Q:VK):Prop
 |mk:∀o L us,(vs=[.ref o])->(CAt C H o L us)->(Q (.int (us.length:Nat)) H)->spManyW C vs H Q
noncomputable def VD(C:Addr):Sp:=λvs H Q _=>spManyW C vs H Q
theorem ok_many{mf:Str->Addr}{md:Str->FuncData}(F:Fun Z "many" "Cells.many" s_many (mf "many") (md "many"))(B:NoG mg)(RC:RCls Z C mf md):FnOk P w Z mg base CX0 1 (mf "many") (md "many") G0 (VD C):=by
 refine F.om sc_many λb A a s H vs Q E hr h=> ?_;obtain⟨o,L,us,rfl,⟨dx,h1,h2⟩,q⟩:=h;have nd:=sc_many.nd;refine⟨_,(B5 (C2 (kL Z B.len_ (F5 (pv 0) rfl)))), ?_⟩;exact⟨_,rfl,o,C,dx,_,_,rfl,h1,RC.cl,RC.ni,lk _,_,_,rfl,.inl ⟨_,SqL.of h2,rfl⟩,q⟩
inductive spToldCW (C:Addr) (vs:List V) (H:Hp) (Q:VK):Prop
 |mk:∀o L us,(vs=[.ref o])->(CAt C H o L us)->(∀l,H l=none->Q (.ref l) (upd H l (.lst us)))->spToldCW C vs H Q
noncomputable def PF(C:Addr):Sp:=λvs H Q _=>spToldCW C vs H Q
theorem ok_told{mf:Str->Addr}{md:Str->FuncData}(F:Fun Z "told" "Cells.told" s_told (mf "told") (md "told"))(B:NoG mg)(RC:RCls Z C mf md):FnOk P w Z mg base CX0 1 (mf "told") (md "told") G0 (PF C):=by
 refine F.om sc_told λb A a s H vs Q E hr h=> ?_;obtain⟨o,L,us,rfl,⟨dx,h1,h2⟩,q⟩:=h;have nd:=sc_told.nd;refine⟨_,(B5 (C2 (F9 (P8 (Z:=Z)) rfl B.list_ J8 (A0 (F5 (pv 0) rfl) B4)))), ?_⟩;exact⟨_,rfl,o,C,dx,_,_,rfl,h1,RC.cl,RC.ni,lk _,L,us,rfl,.inl (SqL.of h2),q⟩
inductive spSameW (n:Nat) (vs:List V) (H:Hp) (Q:VK):Prop
 |mk:∀x y,(vs=[x,y])->((Dp H n x y\/∃a b xs ys m,x=.ref a/\y=.ref b/\H a=some (.lst xs)/\H b=some (.lst ys)/\xs.length<=1000/\n=m+1/\All2 (Dp H m) xs ys))->(∀H',Same H H'->Q (.bl true) H')->spSameW n vs H Q
noncomputable def spSame(n:Nat):Sp:=λvs H Q _=>spSameW n vs H Q
noncomputable def UU:Sp:=λ_ _ _ _=>False
theorem aqZ:FnOk P w Z mg base CX k f fd ps UU:=⟨λ_ _ _ _ h=>h.elim,λ_ _ _ _ _ _ _ _ _ _ _ _ _ h=>h.elim⟩
end
noncomputable abbrev s_entered:Stmt:=top 22
noncomputable abbrev s_called:Stmt:=top 24
noncomputable abbrev s_behind:Stmt:=top 25
noncomputable abbrev s_top_values:Stmt:=top 26
noncomputable abbrev SO:List Str:=["blocks","number","values","begun"]
theorem sc_entered:FnScope SO apZ (B6 s_entered):=fS
noncomputable abbrev UB:List Str:=["blocks","cells","frame","row","stack","many","fn"]
theorem sc_called:FnScope UB cdZ (B6 s_called):=fS
noncomputable abbrev WF:List Str:=["frame","many_taken","values","stack"]
theorem sc_behind:FnScope WF qE (B6 s_behind):=fS
noncomputable abbrev IJ:List Str:=["stack","many"]
theorem sc_top_values:FnScope IJ afZ (B6 s_top_values):=fS
theorem GS:4<=sizeLine:=by decide
theorem DC:0<=sizeLine:=by decide
theorem N5{H:Hp}{a b:Addr}{Q:VK}(ha:H a=some (.tup xs))(hb:H b=some (.tup ys))(hz:xs.length+ys.length<=2000)
  (go:∀r H',Same H H'->H' r=some (.tup (xs++ys))->Q (.ref r) H'):PQ Z (.ref a) (.ref b) H Q\/HR Z (.ref a) (.ref b) H Q:=by
 have zz:(2000:Nat)<=sizeLine:=by decide
 cases xs with
 |nil=>exact .inr ⟨a,b,ys,rfl,rfl,SqT.of ha,SqT.of hb,go b H (Same.refl _) hb⟩
 |cons x xs=>
  refine .inl ⟨a,b,x::xs,ys,rfl,rfl,SqT.of ha,SqT.of hb,by simp,by omega,λe=> ?_,λe p hp=> ?_⟩
  ·subst e;exact go a H (Same.refl _) (by rw[append_nil];exact ha)
  ·exact go p _ (A8 hp _) A7
theorem P5{Z:FZ}{H:Hp}{a:Addr}{xs:List V}{lo hi:Option Int}{Q:VK}(ha:H a=some (.tup xs))(go:∀r H',Same H H'->H' r=some (.tup (G8 xs lo hi))->Q (.ref r) H'):
  (rSlL Z (.ref a) lo hi H Q\/rSlT Z (.ref a) lo hi H Q)\/csZ Z (.ref a) lo hi H Q:=by
 by_cases h:HT.sIx xs.length 0 lo=0/\HT.sIx xs.length xs.length hi=xs.length
 ·refine .inr ⟨a,xs,rfl,SqT.of ha,h,go a H (Same.refl _) ?_⟩;have e:G8 xs lo hi=xs:=by unfold G8;rw[h.1,h.2];simp
  rw[e];exact ha
 ·exact .inl (.inr ⟨a,xs,rfl,SqT.of ha,h,λp hp=>go p _ (A8 hp _) A7⟩)
noncomputable def FrAt(H:Hp)(p:Addr)(k at_:Int)(sl st:List V):Prop:=∃q e,H p=some (.tup [.int k,.int at_,.ref q,.ref e])/\H q=some (.tup sl)/\H e=some (.tup st)
theorem FrAt.mono(m:Mo H H'){st:List V}(h:FrAt H p k at_ sl st):FrAt H' p k at_ sl st:=let⟨q,e,h1,h2,h3⟩:=h;⟨q,e,m _ _ h1,m _ _ h2,m _ _ h3⟩
noncomputable def BkAt(H:Hp)(bs:List V)(k sz:Nat):Prop:=∃t c rows,bs[k]? =some (.ref t)/\H t=some (.tup [c,.int (sz:Nat),rows])
theorem BkAt.mono(m:Mo H H')(h:BkAt H bs k sz):BkAt H' bs k sz:=let⟨t,c,r,h1,h2⟩:=h;⟨t,c,r,h1,m _ _ h2⟩
section
inductive spEntW(vs:List V)(H:Hp)(Q:VK):Prop
 |mk:∀(bl:Addr) (bs:List V) (k sz:Nat) (va:Addr) (xs:List V),(vs=[.ref bl,.int (k:Nat),.ref va])->(H bl=some (.lst bs))->(BkAt H bs k sz)->((H va=some (.lst xs)\/H va=some (.tup xs)))->(xs.length<=sz)->(sz<=500)->(∀p H',Same H H'->FrAt H' p k 0 (xs++List.replicate (sz - xs.length) .non) []->Q (.ref p) H')->spEntW vs H Q
noncomputable def WO:Sp:=λvs H Q _=>spEntW vs H Q
theorem ok_entered(F:Fun Z "entered" "entered" s_entered f fd)(B:NoG mg):FnOk P w Z mg base CX0 1 f fd apZ WO:=by
 refine F.om sc_entered λx A i s H vs Q E hr h=> ?_;obtain⟨bl,bs,k,sz,va,xs,rfl,o,⟨t,c,m,hk,ht⟩,a,u,v,q⟩:=h;have nd:=sc_entered.nd;refine⟨_,(A9 (D3 (sS 3 nd (F9 (Z1 (Z:=Z)) rfl B.tuple_ J6 (A0 (pv 2) B4))))
   (B5 (C2 (C3 (A0 (pv 1) (A0 B0 (A0 (C1 (OH (Z:=Z)) (pv 3) (C1 (dgZ (Z:=Z)) (C3 (A0 K4 B4)) (C1 M3 (ixE Z w (ixE Z w (pv 0) (pv 1)) B0) (kL Z B.len_ (pv 3))))) (A0 (C3 B4) B4)))))))), ?_⟩
 refine⟨fun σ H'=>∃b,σ=[some (.ref bl),some (.int (k:Nat)),some (.ref va),some (.ref b)]/\Same H H'/\H' b=some (.tup xs), ?_, ?_⟩
 ·rcases a with a|a
  ·exact⟨_,rfl,va,xs,rfl,.inl ⟨SqL.of a,λl hl=>⟨l,rfl,A8 hl _,A7⟩⟩⟩
  ·exact⟨_,rfl,va,xs,rfl,.inr ⟨SqT.of a,va,rfl,Same.refl _,a⟩⟩
 rintro σ H1 ⟨b,rfl,s1,hb⟩;refine⟨_,rfl,_,rfl,Z8,λt1 n=> ?_⟩;have s2:=A8 n (.tup [.non]);have d:=s1.trans s2;refine⟨_,rfl,_,rfl,.inl ⟨bl,bs,_,_,rfl,rfl,SqL.of (d _ _ o),D4 hk,(ixT (d _ _ ht) rfl ⟨_,rfl,_,_,rfl,.inr ⟨_,SqT.of (s2 _ _ hb),rfl⟩,_,_,rfl,rfl,.inr ⟨t1,(sz:Int) - (xs.length:Nat),.non,rfl,rfl,SqT.of A7,by omega,by omega,λe=> ?_,λne p hp=> ?_⟩⟩)⟩⟩
 ·have e1:sz - xs.length=1:=by omega
  refine .inr (N5 (s2 _ _ hb) A7 (by simp;omega) λr H3 s3 g=>⟨DC,λe he=>⟨GS,λp hp=> ?_⟩⟩);have s4:=A8 he (.tup []);have s5:=A8 hp (.tup [.int (k:Nat),.int 0,.ref r,.ref e]);refine q p _ (d.trans (s3.trans (s4.trans s5))) ⟨r,e,A7, ?_,s5 _ _ A7⟩;rw[e1];exact s5 _ _ (s4 _ _ g)
 ·have s3:=A8 hp (.tup (List.replicate ((sz:Int) - (xs.length:Nat)).toNat .non));have e1:((sz:Int) - (xs.length:Nat)).toNat=sz - xs.length:=by omega
  refine .inr (N5 (s3 _ _ (s2 _ _ hb)) A7 (by rw[length_replicate];omega) λr H3 j g=>⟨DC,λe he=>⟨GS,λp hp=> ?_⟩⟩);have s4:=A8 he (.tup []);have s5:=A8 hp (.tup [.int (k:Nat),.int 0,.ref r,.ref e]);refine q p _ (d.trans (s3.trans (j.trans (s4.trans s5)))) ⟨r,e,A7, ?_,s5 _ _ A7⟩;rw[<-e1];exact s5 _ _ (s4 _ _ g)
inductive spBehW (vs:List V) (H:Hp) (Q:VK):Prop
 |mk:∀(fr:Addr) (k at_:Int) (sl st:List V) (m:Nat) (va:Addr) (ws:List V),(vs=[.ref fr,.int (m:Nat),.ref va])->(FrAt H fr k at_ sl st)->(m<=st.length)->(H va=some (.tup ws))->(st.length+ws.length<=1000)->(∀p H',Same H H'->FrAt H' p k (at_+1) sl (st.take (st.length - m)++ws)->Q (.ref p) H')->spBehW vs H Q
noncomputable def BP:Sp:=λvs H Q _=>spBehW vs H Q
theorem ok_behind(F:Fun Z "behind" "behind" s_behind f fd)(B:NoG mg):FnOk P w Z mg base CX0 1 f fd qE BP:=by
 refine F.om sc_behind λg A a s H vs Q E hr h=> ?_;obtain⟨fr,k,e,sl,st,m,va,ws,rfl,⟨q0,e0,h1,h2,h3⟩,hm,b,hz,q⟩:=h;have nd:=sc_behind.nd;refine⟨_,(A9 (sS 3 nd (ixE Z w (pv 0) B0))
   (B5 (C2 (C3 (A0 (ixE Z w (pv 0) B0) (A0 (C1 (OH (Z:=Z)) (ixE Z w (pv 0) B0) B0) (A0 (ixE Z w (pv 0) B0) (A0 (C1 (OH (Z:=Z)) (G1 (W0 (Z:=Z)) (pv 3) K5 (G2 (C1 M3 (kL Z B.len_ (pv 3)) (pv 1)))) (pv 2)) B4)))))))), ?_⟩
 refine⟨_,rfl,(ixT h1 rfl ?_)⟩;refine⟨_,rfl,(ixT h1 rfl ⟨_,rfl,(ixT h1 rfl (.inl ⟨_,_,rfl,rfl,_,rfl,(ixT h1 rfl ?_)⟩))⟩)⟩;refine⟨_,rfl,_,rfl,_,_,rfl,.inr ⟨_,SqT.of h3,rfl⟩,_,rfl,_,_,rfl,rfl,_,rfl,P5 h3 λr H1 s1 d=> ?_⟩;have e1:G8 st none (some ((st.length:Int) - (m:Nat)))=st.take (st.length - m):=by
  have:(st.length:Int) - (m:Nat)=((st.length - m:Nat):Int):=by omega
  rw[this];exact NB _ _
 refine⟨_,rfl,.inr (N5 d (s1 _ _ b) (by have:=U8 st none (some ((st.length:Int) - (m:Nat)));omega) λr2 H2 s2 c=>⟨GS,λp hp=> ?_⟩)⟩;have s3:=A8 hp (.tup [.int k,.int (e+1),.ref q0,.ref r2]);refine q p _ (s1.trans (s2.trans s3)) ⟨q0,r2,A7,s3 _ _ (s2 _ _ (s1 _ _ h2)), ?_⟩;rw[<-e1];exact s3 _ _ c
inductive spTopW (vs:List V) (H:Hp) (Q:VK):Prop
 |mk:∀(sa:Addr) (st:List V) (m:Nat),(vs=[.ref sa,.int (m:Nat)])->(H sa=some (.tup st))->(m<=st.length)->(∀r H',Same H H'->H' r=some (.tup (st.drop (st.length - m)))->Q (.ref r) H')->spTopW vs H Q
noncomputable def WN:Sp:=λvs H Q _=>spTopW vs H Q
theorem ok_top_values(F:Fun Z "top_values" "top_values" s_top_values f fd)(B:NoG mg):FnOk P w Z mg base CX0 1 f fd afZ WN:=by
 refine F.om sc_top_values λc A a s H vs Q E hr h=> ?_;obtain⟨sa,st,m,rfl,hs,hm,q⟩:=h;have nd:=sc_top_values.nd;refine⟨_,(B5 (C2 (G1 (W0 (Z:=Z)) (pv 0) (G2 (C1 M3 (kL Z B.len_ (pv 0)) (pv 1))) K5))), ?_⟩;refine⟨_,rfl,_,rfl,_,_,rfl,.inr ⟨_,SqT.of hs,rfl⟩,_,rfl,_,_,rfl,rfl,_,rfl,P5 hs λr H1 s1 b=>q r H1 s1 ?_⟩;have e1:G8 st (some ((st.length:Int) - (m:Nat))) none=st.drop (st.length - m):=by
  have:(st.length:Int) - (m:Nat)=((st.length - m:Nat):Int):=by omega
  rw[this];exact EF _ _
 rw[<-e1];exact b
end
theorem bjZ{α:Type}(xs:List α)(u v:α):atI (xs++ [u,v]) (-2)=some u:=by
 have h1:¬(0:Int)<= -2:=by decide
 have h2: -((xs++ [u,v]).length:Int)<= -2:=by simp;omega
 have h3:((-2:Int)+((xs++ [u,v]).length:Nat)).toNat=xs.length:=by simp;omega
 unfold atI ixN;rw[if_neg h1,if_pos h2];show(xs++ [u,v])[((-2:Int)+((xs++ [u,v]).length:Nat)).toNat]? =some u;rw[h3];simp
theorem NF(xs:List V)(v:V):G8 (xs++ [v]) (some (-1)) none=[v]:=by
 have h:HT.sIx (xs++ [v]).length 0 (some (-1))=xs.length:=by
  show(if(-1:Int)<0 then((-1:Int)+((xs++ [v]).length:Nat)).toNat else min (-1:Int).toNat (xs++ [v]).length)=xs.length;rw[if_pos (by decide)];simp;omega
 unfold G8;rw[h,HT.sIx_none];simp
section
noncomputable def Two(H:Hp)(Q:VK)(k at_:Int)(sl bel:List V)(wh:Nat)(ys:List V)(sz:Nat):Prop:=
 ∀p p1 p2 H',Same H H'->H' p=some (.tup [.ref p1,.ref p2])->FrAt H' p1 k (at_+1) sl bel->FrAt H' p2 wh 0 (ys++List.replicate (sz - ys.length) .non) []->Q (.ref p) H'
inductive spCalW (C:Addr) (vs:List V) (H:Hp) (Q:VK):Prop
 |mk:∀(bl:Addr) (bs:List V) (o L:Addr) (us:List V) (fr:Addr) (k at_:Int) (sl st:List V) (r:Addr),(vs=[.ref bl,.ref o,.ref fr,.ref r])->(H bl=some (.lst bs))->(CAt C H o L us)->(FrAt H fr k at_ sl st)->(st.length<=500)->(((∃wh m sz:Nat,H r=some (.tup [.str "call",.int (wh:Nat),.int (m:Nat)])/\m<=st.length/\BkAt H bs wh sz/\m<=sz/\sz<=500/\Two H Q k at_ sl (st.take (st.length - m)) wh (st.drop (st.length - m)) sz)\/(∃(wh sz:Nat) (bel:List V) (cv:Addr) (x:V) (j:Nat) (fc vt:Addr) (xs:List V),H r=some (.tup [.str "apply"])/\st=bel++ [.ref cv,x]/\H cv=some (.tup [.str "cell",.int (j:Nat)])/\us[j]? =some (.ref fc)/\H fc=some (.tup [.str "fn",.int (wh:Nat),.ref vt])/\H vt=some (.tup xs)/\BkAt H bs wh sz/\xs.length+1<=sz/\sz<=500/\Two H Q k at_ sl bel wh (xs++ [x]) sz)))->spCalW C vs H Q
noncomputable def JP(C:Addr):Sp:=λvs H Q _=>spCalW C vs H Q
theorem ok_called(F:Fun Z "called" "called" s_called f fd)(B:NoG mg)(RC:RCls Z C mf md)(CV:FnOk P w Z mg base CX0 1 (mf "at") (md "at") CG (RW C))
  (V3:Cn P w Z mg base CX0 1 "entered" apZ WO)
  (G4:Cn P w Z mg base CX0 1 "behind" qE BP)
  (R7:Cn P w Z mg base CX0 1 "top_values" afZ WN):
  FnOk P w Z mg base CX0 2 f fd cdZ (JP C):=by
 refine F.om sc_called λN A t s H vs Q E hr h=> ?_;obtain⟨bl,bs,o,L,us,fr,k,y,sl,st,r,rfl,v,hC,hF,hz,G⟩:=h;have nd:=sc_called.nd;have hu:=hr.units0;obtain⟨q0,e0,h1,h2,h3⟩:=id hF;refine⟨_,(A9 (sS 4 nd (ixE Z w (pv 2) B0))
   (A9 (D2 (C0 (kEq (Z:=Z) hu) (ixE Z w (pv 3) B0) B8 rfl) (A9 (sS 5 nd (ixE Z w (pv 3) B0))
   (B5 (C2 (C3 (A0 (cC G4 hr (A0 (pv 2) (A0 (pv 5) (A0 (C3 B4) B4)))) (A0 (cC V3 hr (A0 (pv 0) (A0 (ixE Z w (pv 3) B0) (A0 (cC R7 hr (A0 (pv 4) (A0 (pv 5) B4))) B4)))) B4)))))) C4)
   (A9 (sS 6 nd (mC (pv 1) RC.cl RC.m_at CV hr RC.b_at (A0 (ixE Z w (pv 4) (L7 J1 B0)) B4)))
   (B5 (C2 (C3 (A0 (cC G4 hr (A0 (pv 2) (A0 B0 (A0 (C3 B4) B4)))) (A0 (cC V3 hr (A0 (pv 0) (A0 (ixE Z w (pv 6) B0) (A0 (C1 (OH (Z:=Z)) (ixE Z w (pv 6) B0) (G1 (W0 (Z:=Z)) (pv 4) (G2 (L7 J1 B0)) K5)) B4)))) B4)))))))), ?_⟩
 refine⟨_,rfl,(ixT h1 rfl ?_)⟩;rcases G with⟨wh,m,sz,c,hm,hB,M,l,q⟩|⟨wh,sz,b,cv,x,j,fc,vt,xs,c,rfl,I,hj,u,z,hB,J,l,q⟩
 ·refine⟨_,rfl,(ixT c rfl (.inl ⟨rfl,_,rfl,ifT (by decide) ?_⟩))⟩;refine⟨_,rfl,(ixT c rfl ?_)⟩;refine⟨_,rfl,_,rfl,DC,λe he=> ?_⟩;have s1:=A8 he (.tup []);refine⟨fr,k,y,sl,st,m,e,[],rfl,hF.mono (B9 s1),hm,A7,by simp;omega,λp1 H1 s2 d=> ?_⟩;rw[append_nil]at d;have a:=s1.trans s2;refine⟨_,rfl,_,rfl,(ixT (a _ _ c) rfl ⟨_,rfl,_,rfl,e0,st,m,rfl,a _ _ h3,hm,λt2 H2 s3 g=> ?_⟩)⟩;refine⟨bl,bs,wh,sz,t2,_,rfl,s3 _ _ (a _ _ v),hB.mono (B9 (a.trans s3)),.inr g,by rw[length_drop];omega,l,λp2 H3 s4 n=>⟨L5,λp hp=> ?_⟩⟩;have s5:=A8 hp (.tup [.ref p1,.ref p2]);exact q p p1 p2 _ (a.trans (s3.trans (s4.trans s5))) A7 (d.mono (B9 (s3.trans (s4.trans s5)))) (n.mono (B9 s5))
 ·refine⟨_,rfl,(ixT c rfl (.inl ⟨rfl,_,rfl,ifF (by decide) ?_⟩))⟩;obtain⟨dx,i1,i2⟩:=id hC;refine⟨_,rfl,o,dx,_,rfl,i1,rfl,_,rfl,_,rfl,(ixT h3 (bjZ _ _ _) ⟨o,L,us,cv,j,_,rfl,hC,I,hj, ?_⟩)⟩;refine⟨_,rfl,DC,λe he=> ?_⟩;have s1:=A8 he (.tup []);refine⟨fr,k,y,sl,_,2,e,[],rfl,hF.mono (B9 s1),by simp,A7,by simp at hz⊢;omega,λp1 H1 s2 d=> ?_⟩;have e1:(b++ [.ref cv,x]).take ((b++ [.ref cv,x]).length - 2)++ []=b:=by simp
  rw[e1]at d;have a:=s1.trans s2;refine⟨_,rfl,_,rfl,(ixT (a _ _ u) rfl ⟨_,rfl,(ixT (a _ _ u) rfl ⟨_,rfl,_,rfl,_,rfl,P5 (a _ _ h3) λt2 H2 s3 g=> ?_⟩)⟩)⟩;have e2:G8 (b++ [.ref cv,x]) (some (-1)) none=[x]:=by
   have:b++ [.ref cv,x]=(b++ [.ref cv])++ [x]:=by simp
   rw[this];exact NF _ _
  rw[e2]at g;refine .inr (N5 (s3 _ _ (a _ _ z)) g (by simp;omega) λt3 H3 s4 D=> ?_);have i:=a.trans (s3.trans s4);refine⟨bl,bs,wh,sz,t3,_,rfl,i _ _ v,hB.mono (B9 i),.inr D,by simp;omega,l,λp2 H4 s5 n=>⟨L5,λp hp=> ?_⟩⟩;have s6:=A8 hp (.tup [.ref p1,.ref p2]);exact q p p1 p2 _ (i.trans (s5.trans s6)) A7 (d.mono (B9 (s3.trans (s4.trans (s5.trans s6))))) (n.mono (B9 s6))
end
noncomputable abbrev s_two_done:Stmt:=top 27
noncomputable abbrev s_part_done:Stmt:=top 28
noncomputable abbrev s_with_new_cell:Stmt:=top 29
noncomputable abbrev s_with_nothing_put:Stmt:=top 30
noncomputable abbrev s_with_slot:Stmt:=top 31
noncomputable abbrev s_further:Stmt:=top 32
noncomputable abbrev s_value_put:Stmt:=top 33
noncomputable abbrev MS:List Str:=["frame","sign","stack","told"]
theorem sc_two_done:FnScope MS ["frame","sign"] (B6 s_two_done):=fS
noncomputable abbrev KY:List Str:=["cells","frame","word","top","pair"]
theorem sc_part_done:FnScope KY b5Z (B6 s_part_done):=fS
noncomputable abbrev CD:List Str:=["cells","frame","row","stack","many"]
theorem sc_with_new_cell:FnScope CD QW (B6 s_with_new_cell):=fS
noncomputable abbrev X7:List Str:=["frame","row"]
theorem sc_with_nothing_put:FnScope X7 RU (B6 s_with_nothing_put):=fS
noncomputable abbrev LC:List Str:=["frame","slot","value","slots"]
theorem sc_with_slot:FnScope LC crZ (B6 s_with_slot):=fS
noncomputable abbrev RQ:List Str:=["frame","many_rows"]
theorem sc_further:FnScope RQ chZ (B6 s_further):=fS
noncomputable abbrev KE:List Str:=["frame","row"]
theorem sc_value_put:FnScope KE RU (B6 s_value_put):=fS
theorem cZZ{α:Type}(xs:List α)(u v:α):atI (xs++ [u,v]) (-1)=some v:=by
 have:xs++ [u,v]=(xs++ [u])++ [v]:=by simp
 rw[this];exact L4 _ _
theorem aVZ(xs:List V)(v:V):G8 (xs++ [v]) none (some (-1))=xs:=by
 have h:HT.sIx (xs++ [v]).length (xs++ [v]).length (some (-1))=xs.length:=by
  show(if(-1:Int)<0 then((-1:Int)+((xs++ [v]).length:Nat)).toNat else min (-1:Int).toNat (xs++ [v]).length)=xs.length;rw[if_pos (by decide)];simp;omega
 unfold G8;rw[h,HT.sIx_none];simp
theorem cBZ(xs:List V)(u v:V):G8 (xs++ [u,v]) (some (-2)) none=[u,v]:=by
 have h:HT.sIx (xs++ [u,v]).length 0 (some (-2))=xs.length:=by
  show(if(-2:Int)<0 then((-2:Int)+((xs++ [u,v]).length:Nat)).toNat else min (-2:Int).toNat (xs++ [u,v]).length)=xs.length;rw[if_pos (by decide)];simp;omega
 unfold G8;rw[h,HT.sIx_none];simp
section
inductive spTDW(vs:List V)(H:Hp)(Q:VK):Prop
 |mk:∀(fr:Addr) (k at_:Int) (sl st:List V) (g:Nat) (a b:Int),(vs=[.ref fr,.str (_N.sg g)])->(FrAt H fr k at_ sl (st++ [.int a,.int b]))->(st.length<=100)->(g<6)->(Bd a)->(Bd b)->((∀v p q H',_N.tw g a b=[.str "value",v]->Same H H'->H' p=some (.tup [.str "frame",.ref q])->FrAt H' q k (at_+1) sl (st++ [v])->Q (.ref p) H'))->((∀w p H',_N.tw g a b=[.str "refused",.str w]->Same H H'->H' p=some (.tup [.str "refused",.str w])->Q (.ref p) H'))->spTDW vs H Q
noncomputable def dCZ:Sp:=λvs H Q _=>spTDW vs H Q
theorem ok_two_done(F:Fun Z "two_done" "two_done" s_two_done f fd)
  (MA:Cn P w Z mg base CX0 2 "two_told" RA _N.spTwo)
  (G4:Cn P w Z mg base CX0 1 "behind" qE BP):
  FnOk P w Z mg base CX0 3 f fd ["frame","sign"] dCZ:=by
 refine F.om sc_two_done λl A d s H vs Q E hr h=> ?_;obtain⟨fr,k,j,sl,st,g,a,b,rfl,hF,hz,hg,ha,hb,q1,q2⟩:=h;have nd:=sc_two_done.nd;have hu:=hr.units0;obtain⟨q0,e0,h1,h2,h3⟩:=id hF;refine⟨_,(A9 (sS 2 nd (ixE Z w (pv 0) B0))
   (A9 (sS 3 nd (cC MA hr (A0 (pv 1) (A0 (ixE Z w (pv 2) (L7 J1 B0)) (A0 (ixE Z w (pv 2) (L7 J1 B0)) B4)))))
   (A9 (D2 (C0 (kEq (Z:=Z) hu) (ixE Z w (pv 3) B0) B8 rfl) (B5 (C2 (pv 3))) C4)
   (B5 (C2 (C3 (A0 B8 (A0 (cC G4 hr (A0 (pv 0) (A0 B0 (A0 (G1 (W0 (Z:=Z)) (pv 3) (G2 B0) K5) B4)))) B4)))))))), ?_⟩
 refine⟨_,rfl,(ixT h1 rfl ?_)⟩;refine⟨_,rfl,_,rfl,_,rfl,(ixT h3 (bjZ _ _ _) ⟨_,rfl,_,rfl,(ixT h3 (cZZ _ _ _) ⟨g,a,b,rfl,hg,ha.mul hb,hb.log,λr H1 s1 c=> ?_⟩)⟩)⟩;rcases VZ hg a b with⟨v,hv,e⟩|⟨i,e⟩
 ·rw[e]at c;refine⟨_,rfl,(ixT c rfl (.inl ⟨rfl,_,rfl,ifF (by decide) ?_⟩))⟩;refine⟨_,rfl,_,rfl,1,rfl,P5 c λt H2 s2 ht=> ?_⟩;have e1:G8 [V.str "value",v] (some 1) none=[v]:=EF _ 1;rw[e1]at ht;refine⟨fr,k,j,sl,_,2,t,[v],rfl,hF.mono (B9 (s1.trans s2)),by simp,ht,by simp;omega,λq H3 s3 hq=>⟨L5,λp hp=> ?_⟩⟩;have e2:(st++ [V.int a,.int b]).take ((st++ [V.int a,.int b]).length - 2)=st:=by simp
  rw[e2]at hq;have s4:=A8 hp (.tup [.str "frame",.ref q]);exact q1 v p q _ e (s1.trans (s2.trans (s3.trans s4))) A7 (hq.mono (B9 s4))
 ·rw[e]at c;refine⟨_,rfl,(ixT c rfl (.inl ⟨rfl,_,rfl,ifT (by decide) ?_⟩))⟩;exact⟨_,rfl,q2 i r H1 e s1 c⟩
inductive spPDW (C:Addr) (vs:List V) (H:Hp) (Q:VK):Prop
 |mk:∀(o L:Addr) (us:List V) (fr:Addr) (k at_:Int) (sl st:List V) (x:V) (tl:Bool),(vs=[.ref o,.ref fr,.str (if tl=true then "tail"else "head")])->(CAt C H o L us)->(FrAt H fr k at_ sl (st++ [x]))->(st.length<=100)->(((x=.non/\∀p H',Same H H'->H' p=some (.tup [.str "refused",.str (if tl=true then "tail"else "head")])->Q (.ref p) H')\/(∃(cv c:Addr) (j:Nat) (h t:V),x=.ref cv/\H cv=some (.tup [.str "cell",.int (j:Nat)])/\us[j]? =some (.ref c)/\H c=some (.tup [.str "pair",h,t])/\∀p q H',Same H H'->H' p=some (.tup [.str "frame",.ref q])->FrAt H' q k (at_+1) sl (st++ [if tl=true then t else h])->Q (.ref p) H')))->spPDW C vs H Q
noncomputable def cYZ(C:Addr):Sp:=λvs H Q _=>spPDW C vs H Q
theorem ok_part_done(F:Fun Z "part_done" "part_done" s_part_done f fd)(RC:RCls Z C mf md)(CV:FnOk P w Z mg base CX0 1 (mf "at") (md "at") CG (RW C))
  (G4:Cn P w Z mg base CX0 1 "behind" qE BP):
  FnOk P w Z mg base CX0 2 f fd b5Z (cYZ C):=by
 refine F.om sc_part_done λi A b s H vs Q E hr h=> ?_;obtain⟨o,L,us,fr,k,d,sl,st,x,tl,rfl,hC,hF,hz,e⟩:=h;have nd:=sc_part_done.nd;have hu:=hr.units0;obtain⟨q0,e0,h1,h2,h3⟩:=id hF;obtain⟨dx,i1,i2⟩:=id hC;refine⟨_,(A9 (sS 3 nd (ixE Z w (ixE Z w (pv 1) B0) (L7 J1 B0)))
   (A9 (D2 (C0 DE (pv 3) K4 rfl) (B5 (C2 (C3 (A0 B8 (A0 (pv 2) B4))))) C4)
   (A9 (sS 4 nd (mC (pv 0) RC.cl RC.m_at CV hr RC.b_at (A0 (pv 3) B4)))
   (B5 (C2 (C3 (A0 B8 (A0 (cC G4 hr (A0 (pv 1) (A0 B0 (A0 (C3 (A0 (M8 (C0 (kEq (Z:=Z) hu) (pv 2) B8 rfl) (ixE Z w (pv 4) B0) (ixE Z w (pv 4) B0)) B4)) B4)))) B4)))))))), ?_⟩
 refine⟨_,rfl,(ixT h1 rfl ⟨_,rfl,(ixT h3 (L4 _ _) ?_)⟩)⟩;rcases e with⟨rfl,q⟩|⟨cv,c,j,hh,tt,rfl,g,hj,hc,q⟩
 ·exact⟨_,rfl,rfl,_,rfl,ifT (by decide) ⟨_,rfl,L5,λp hp=>q p _ (A8 hp _) A7⟩⟩
 ·refine⟨_,rfl,rfl,_,rfl,ifF (by simp) ?_⟩;refine⟨_,rfl,o,dx,_,rfl,i1,rfl,_,rfl,o,L,us,cv,j,_,rfl,hC,g,hj, ?_⟩;have e2:(st++ [V.ref cv]).take ((st++ [V.ref cv]).length - 1)=st:=by simp
  cases tl with
  |false=>
   refine⟨_,rfl,_,rfl,.inl ⟨rfl,_,rfl,ifT (by decide) ⟨_,rfl,(ixT hc rfl ⟨Z8,λt1 a=> ?_⟩)⟩⟩⟩;have s1:=A8 a (.tup [hh]);refine⟨fr,k,d,sl,_,1,t1,[hh],rfl,hF.mono (B9 s1),by simp,A7,by simp;omega,λq1 H3 s3 hq=>⟨L5,λp hp=> ?_⟩⟩;rw[e2]at hq;have s4:=A8 hp (.tup [.str "frame",.ref q1]);exact q p q1 _ (s1.trans (s3.trans s4)) A7 (hq.mono (B9 s4))
  |true=>
   refine⟨_,rfl,_,rfl,.inl ⟨rfl,_,rfl,ifF (by decide) ⟨_,rfl,(ixT hc rfl ⟨Z8,λt1 a=> ?_⟩)⟩⟩⟩;have s1:=A8 a (.tup [tt]);refine⟨fr,k,d,sl,_,1,t1,[tt],rfl,hF.mono (B9 s1),by simp,A7,by simp;omega,λq1 H3 s3 hq=>⟨L5,λp hp=> ?_⟩⟩;rw[e2]at hq;have s4:=A8 hp (.tup [.str "frame",.ref q1]);exact q p q1 _ (s1.trans (s3.trans s4)) A7 (hq.mono (B9 s4))
inductive spNCW (C:Addr) (vs:List V) (H:Hp) (Q:VK):Prop
 |mk:∀(o L:Addr) (us:List V) (fr:Addr) (k at_:Int) (sl st:List V) (r:Addr),(vs=[.ref o,.ref fr,.ref r])->(CAt C H o L us)->(us.length<=500)->(st.length<=100)->(((∃x y,H r=some (.tup [.str "cons"])/\FrAt H fr k at_ sl (st++ [x,y])/\∀q c cv H',Bt L H H'->CAt C H' o L (us++ [.ref c])->H' c=some (.tup [.str "pair",x,y])->H' cv=some (.tup [.str "cell",.int (us.length:Nat)])->FrAt H' q k (at_+1) sl (st++ [.ref cv])->Q (.ref q) H')\/(∃(b n:Nat) (xs:List V),H r=some (.tup [.str "close",.int (b:Nat),.int (n:Nat)])/\FrAt H fr k at_ sl (st++xs)/\xs.length=n/\n<=100/\∀q c cv vt H',Bt L H H'->CAt C H' o L (us++ [.ref c])->H' c=some (.tup [.str "fn",.int (b:Nat),.ref vt])->H' vt=some (.tup xs)->H' cv=some (.tup [.str "cell",.int (us.length:Nat)])->FrAt H' q k (at_+1) sl (st++ [.ref cv])->Q (.ref q) H')))->spNCW C vs H Q
noncomputable def doZ(C:Addr):Sp:=λvs H Q _=>spNCW C vs H Q
theorem ok_with_new_cell(F:Fun Z "with_new_cell" "with_new_cell" s_with_new_cell f fd)(RC:RCls Z C mf md)(OA:FnOk P w Z mg base CX0 1 (mf "put") (md "put") VO (WC C))
  (G4:Cn P w Z mg base CX0 1 "behind" qE BP)
  (R7:Cn P w Z mg base CX0 1 "top_values" afZ WN):
  FnOk P w Z mg base CX0 2 f fd QW (doZ C):=by
 refine F.om sc_with_new_cell λI A p s H vs Q E hr h=> ?_;obtain⟨o,L,us,fr,k,v,sl,st,r,rfl,hC,D,hz,B⟩:=h;have nd:=sc_with_new_cell.nd;have hu:=hr.units0;obtain⟨dx,i1,i2⟩:=id hC;refine⟨_,(A9 (sS 3 nd (ixE Z w (pv 1) B0))
   (A9 (D2 (C0 (kEq (Z:=Z) hu) (ixE Z w (pv 2) B0) B8 rfl) (B5 (C2 (cC G4 hr (A0 (pv 1) (A0 B0 (A0 (C3 (A0 (mC (pv 0) RC.cl RC.m_put OA hr RC.b_put (A0 (C1 (K6 (Z:=Z)) (C3 (A0 B8 B4)) (G1 (W0 (Z:=Z)) (pv 3) (G2 (L7 J1 B0)) K5)) B4)) B4)) B4)))))) C4)
   (A9 (sS 4 nd (ixE Z w (pv 2) B0))
   (B5 (C2 (cC G4 hr (A0 (pv 1) (A0 (pv 4) (A0 (C3 (A0 (mC (pv 0) RC.cl RC.m_put OA hr RC.b_put (A0 (C3 (A0 B8 (A0 (ixE Z w (pv 2) B0) (A0 (cC R7 hr (A0 (pv 3) (A0 (pv 4) B4))) B4)))) B4)) B4)) B4))))))))), ?_⟩
 rcases B with⟨x,y,d,hF,q⟩|⟨b,n,xs,d,hF,hn,G,q⟩
 ·obtain⟨q0,e0,h1,h2,h3⟩:=id hF;refine⟨_,rfl,(ixT h1 rfl ?_)⟩;refine⟨_,rfl,(ixT d rfl (.inl ⟨rfl,_,rfl,ifT (by decide) ?_⟩))⟩;refine⟨_,rfl,_,rfl,o,dx,_,rfl,i1,rfl,Z8,λt1 z=> ?_⟩;have s1:=A8 z (.tup [.str "pair"]);refine⟨_,rfl,_,rfl,_,rfl,P5 (s1 _ _ h3) λt2 H2 s2 u=> ?_⟩;rw[cBZ]at u;refine .inr (.inr (N5 (s2 _ _ A7) u (by simp) λt3 H3 s3 g=> ?_));have c:=s1.trans (s2.trans s3);refine⟨o,L,us,_,rfl,hC.same c,by omega,λcv H4 j k4 m l=>⟨Z8,λt5 e=> ?_⟩⟩;have m4:Mo H3 H4:=k4.tups (c _ _ i2);have s5:=A8 e (.tup [.ref cv]);refine⟨fr,k,v,sl,_,2,t5,[.ref cv],rfl,((hF.mono (B9 c)).mono m4).mono (B9 s5),by simp,A7,by simp;omega,λq1 H6 s6 hq=> ?_⟩;have e2:(st++ [x,y]).take ((st++ [x,y]).length - 2)=st:=by simp
  rw[e2]at hq;have a:=s5.trans s6;exact q q1 t3 cv H6 (λb o' hb i=>a _ _ (k4 _ _ (c _ _ hb) i)) (m.same a) (a _ _ (m4 _ _ g)) (a _ _ l) hq
 ·obtain⟨q0,e0,h1,h2,h3⟩:=id hF;refine⟨_,rfl,(ixT h1 rfl ?_)⟩;refine⟨_,rfl,(ixT d rfl (.inl ⟨rfl,_,rfl,ifF (by decide) ?_⟩))⟩;refine⟨_,rfl,(ixT d rfl ?_)⟩;refine⟨_,rfl,_,rfl,_,rfl,o,dx,_,rfl,i1,rfl,_,rfl,(ixT d rfl ⟨_,rfl,_,rfl,e0,st++xs,n,rfl,h3,by simp;omega,λvt H2 s2 t=>⟨NG,λt3 g=> ?_⟩⟩)⟩;have e1:(st++xs).drop ((st++xs).length - n)=xs:=by
   have:(st++xs).length - n=st.length:=by simp;omega
   rw[this,List.drop_left]
  rw[e1]at t;have s3:=A8 g (.tup [.str "fn",.int (b:Nat),.ref vt]);have c:=s2.trans s3;refine⟨o,L,us,_,rfl,hC.same c,by omega,λcv H4 j k4 m l=>⟨Z8,λt5 e=> ?_⟩⟩;have m4:Mo _ H4:=k4.tups (c _ _ i2);have s5:=A8 e (.tup [.ref cv]);refine⟨fr,k,v,sl,_,n,t5,[.ref cv],rfl,((hF.mono (B9 c)).mono m4).mono (B9 s5),by simp;omega,A7,by simp;omega,λq1 H6 s6 hq=> ?_⟩;have e2:(st++xs).take ((st++xs).length - n)=st:=by
   have:(st++xs).length - n=st.length:=by simp;omega
   rw[this,List.take_left]
  rw[e2]at hq;have a:=s5.trans s6;exact q q1 t3 cv vt H6 (λb o' hb i=>a _ _ (k4 _ _ (c _ _ hb) i)) (m.same a) (a _ _ (m4 _ _ A7)) (a _ _ (m4 _ _ (s3 _ _ t))) (a _ _ l) hq
inductive spWSW (vs:List V) (H:Hp) (Q:VK):Prop
 |mk:∀(fr:Addr) (k at_:Int) (sl st:List V) (j:Nat) (v:V),(vs=[.ref fr,.int (j:Nat),v])->(FrAt H fr k at_ sl st)->(sl.length<=500)->(∀p H',Same H H'->FrAt H' p k at_ (sl.take j++ [v]++sl.drop (j+1)) st->Q (.ref p) H')->spWSW vs H Q
noncomputable def c4Z:Sp:=λvs H Q _=>spWSW vs H Q
theorem ok_with_slot(F:Fun Z "with_slot" "with_slot" s_with_slot f fd):FnOk P w Z mg base CX0 1 f fd crZ c4Z:=by
 refine F.om sc_with_slot λn A c s H vs Q E hr h=> ?_;obtain⟨fr,k,m,sl,st,j,v,rfl,⟨q0,e0,h1,h2,h3⟩,hz,q⟩:=h;have nd:=sc_with_slot.nd;refine⟨_,(A9 (sS 3 nd (ixE Z w (pv 0) B0))
   (B5 (C2 (C3 (A0 (ixE Z w (pv 0) B0) (A0 (ixE Z w (pv 0) B0) (A0 (C1 (K6 (Z:=Z)) (C1 (K6 (Z:=Z)) (G1 (W0 (Z:=Z)) (pv 3) K5 (G2 (pv 1))) (C3 (A0 (pv 2) B4))) (G1 (W0 (Z:=Z)) (pv 3) (G2 (C1 (K6 (Z:=Z)) (pv 1) B0)) K5)) (A0 (ixE Z w (pv 0) B0) B4)))))))), ?_⟩
 refine⟨_,rfl,(ixT h1 rfl ?_)⟩;refine⟨_,rfl,(ixT h1 rfl ⟨_,rfl,(ixT h1 rfl ?_)⟩)⟩;refine⟨_,rfl,_,rfl,_,rfl,P5 h2 λt1 H1 s1 e=>⟨_,rfl,Z8,λt2 l=> ?_⟩⟩;have e1:G8 sl none (some ((j:Nat):Int))=sl.take j:=NB _ _;rw[e1]at e;have s2:=A8 l (.tup [v]);refine .inr (.inr (N5 (s2 _ _ e) A7 (by simp;omega) λt3 H3 s3 i=> ?_));have b:=s1.trans (s2.trans s3);refine⟨_,rfl,_,rfl,.inl ⟨_,_,rfl,rfl,_,rfl,P5 (b _ _ h2) λt4 H4 s4 d=> ?_⟩⟩;have e2:G8 sl (some (((j:Nat):Int)+1)) none=sl.drop (j+1):=EF sl (j+1);rw[e2]at d;refine .inr (.inr (N5 (s4 _ _ i) d (by simp;omega) λt5 H5 s5 g=> ?_));have a:=b.trans (s4.trans s5);refine⟨_,rfl,(ixT (a _ _ h1) rfl ⟨GS,λp hp=> ?_⟩)⟩;have s6:=A8 hp (.tup [.int k,.int m,.ref t5,.ref e0]);exact q p _ (a.trans s6) ⟨t5,e0,A7,s6 _ _ g,s6 _ _ (a _ _ h3)⟩
inductive spFuW (vs:List V) (H:Hp) (Q:VK):Prop
 |mk:∀(fr:Addr) (k at_:Int) (sl st:List V) (m:Int),(vs=[.ref fr,.int m])->(FrAt H fr k at_ sl st)->(∀p H',Same H H'->FrAt H' p k (at_+m) sl st->Q (.ref p) H')->spFuW vs H Q
noncomputable def c7Z:Sp:=λvs H Q _=>spFuW vs H Q
theorem ok_further(F:Fun Z "further" "further" s_further f fd):FnOk P w Z mg base CX0 1 f fd chZ c7Z:=by
 refine F.om sc_further λc A a s H vs Q E hr h=> ?_;obtain⟨fr,k,b,sl,st,m,rfl,⟨q0,e0,h1,h2,h3⟩,q⟩:=h;have nd:=sc_further.nd;refine⟨_,(B5 (C2 (C3 (A0 (ixE Z w (pv 0) B0) (A0 (C1 (K6 (Z:=Z)) (ixE Z w (pv 0) B0) (pv 1)) (A0 (ixE Z w (pv 0) B0) (A0 (ixE Z w (pv 0) B0) B4))))))), ?_⟩;refine⟨_,rfl,(ixT h1 rfl ⟨_,rfl,(ixT h1 rfl ⟨_,rfl,.inl ⟨_,_,rfl,rfl,_,rfl,(ixT h1 rfl ⟨_,rfl,(ixT h1 rfl ⟨GS,λp hp=> ?_⟩)⟩)⟩⟩)⟩)⟩;have s6:=A8 hp (.tup [.int k,.int (b+m),.ref q0,.ref e0]);exact q p _ s6 ⟨q0,e0,A7,s6 _ _ h2,s6 _ _ h3⟩
inductive spVPW (vs:List V) (H:Hp) (Q:VK):Prop
 |mk:∀(fr:Addr) (k at_:Int) (sl st:List V) (r:Addr),(vs=[.ref fr,.ref r])->(FrAt H fr k at_ sl st)->(((∃v,H r=some (.tup [.str "push",v])/\Q v H)\/(H r=some (.tup [.str "none"])/\Q .non H)\/(∃(j:Nat) (v:V),H r=some (.tup [.str "load",.int (j:Nat)])/\sl[j]? =some v/\Q v H)))->spVPW vs H Q
noncomputable def dEZ:Sp:=λvs H Q _=>spVPW vs H Q
theorem ok_value_put(F:Fun Z "value_put" "value_put" s_value_put f fd):FnOk P w Z mg base CX0 1 f fd RU dEZ:=by
 refine F.om sc_value_put λd A b s H vs Q E hr h=> ?_;obtain⟨fr,k,e,sl,st,r,rfl,⟨q0,e0,h1,h2,h3⟩,c⟩:=h;have nd:=sc_value_put.nd;have hu:=hr.units0;refine⟨_,(A9 (D2 (C0 (kEq (Z:=Z) hu) (ixE Z w (pv 1) B0) B8 rfl) (B5 (C2 (ixE Z w (pv 1) B0))) C4)
   (B5 (C2 (M8 (C0 (kEq (Z:=Z) hu) (ixE Z w (pv 1) B0) B8 rfl) (ixE Z w (ixE Z w (pv 0) B0) (ixE Z w (pv 1) B0)) K4)))), ?_⟩
 rcases c with⟨v,a,q⟩|⟨a,q⟩|⟨j,v,a,hj,q⟩
 ·exact⟨_,rfl,(ixT a rfl (.inl ⟨rfl,_,rfl,ifT (by decide) ⟨_,rfl,(ixT a rfl q)⟩⟩))⟩
 ·exact⟨_,rfl,(ixT a rfl (.inl ⟨rfl,_,rfl,ifF (by decide) ⟨_,rfl,(ixT a rfl (.inl ⟨rfl,_,rfl,ifF (by decide) q⟩))⟩⟩))⟩
 ·exact⟨_,rfl,(ixT a rfl (.inl ⟨rfl,_,rfl,ifF (by decide) ⟨_,rfl,(ixT a rfl (.inl ⟨rfl,_,rfl,ifT (by decide) ⟨_,rfl,(ixT h1 rfl ⟨_,rfl,(ixT a rfl (.inr (.inl ⟨q0,sl,_,_,rfl,rfl,SqT.of h2,D4 hj,q⟩)))⟩)⟩⟩))⟩⟩))⟩
inductive spNPW (vs:List V) (H:Hp) (Q:VK):Prop
 |mk:∀(fr:Addr) (k at_:Int) (sl st:List V) (r:Addr),(vs=[.ref fr,.ref r])->(FrAt H fr k at_ sl st)->(st.length<=100)->(sl.length<=500)->(((∃(j:Nat) (st':List V) (v:V),H r=some (.tup [.str "keep",.int (j:Nat)])/\st=st'++ [v]/\∀p H',Same H H'->FrAt H' p k (at_+1) (sl.take j++ [v]++sl.drop (j+1)) st'->Q (.ref p) H')\/(∃n:Nat,H r=some (.tup [.str "skip",.int (n:Nat)])/\∀p H',Same H H'->FrAt H' p k (at_+1+(n:Nat)) sl st->Q (.ref p) H')\/(∃(n:Nat) (st':List V) (b:Bool),H r=some (.tup [.str "unless",.int (n:Nat)])/\st=st'++ [.bl b]/\∀p H',Same H H'->FrAt H' p k (at_+1+if b=true then 0 else(n:Int)) sl st'->Q (.ref p) H')))->spNPW vs H Q
noncomputable def dAZ:Sp:=λvs H Q _=>spNPW vs H Q
theorem ok_with_nothing_put(F:Fun Z "with_nothing_put" "with_nothing_put" s_with_nothing_put f fd)
  (G4:Cn P w Z mg base CX0 1 "behind" qE BP)
  (JJ:Cn P w Z mg base CX0 1 "with_slot" crZ c4Z)
  (FJ:Cn P w Z mg base CX0 1 "further" chZ c7Z):
  FnOk P w Z mg base CX0 2 f fd RU dAZ:=by
 refine F.om sc_with_nothing_put λt A l s H vs Q E hr h=> ?_;obtain⟨fr,k,i,sl,st,r,rfl,hF,hz,m,o⟩:=h;have nd:=sc_with_nothing_put.nd;have hu:=hr.units0;obtain⟨q0,e0,h1,h2,h3⟩:=id hF;refine⟨_,(A9 (D2 (C0 (kEq (Z:=Z) hu) (ixE Z w (pv 1) B0) B8 rfl) (B5 (C2 (cC JJ hr (A0 (cC G4 hr (A0 (pv 0) (A0 B0 (A0 (C3 B4) B4)))) (A0 (ixE Z w (pv 1) B0) (A0 (ixE Z w (ixE Z w (pv 0) B0) (L7 J1 B0)) B4)))))) C4)
   (A9 (D2 (C0 (kEq (Z:=Z) hu) (ixE Z w (pv 1) B0) B8 rfl) (B5 (C2 (cC FJ hr (A0 (cC G4 hr (A0 (pv 0) (A0 B0 (A0 (C3 B4) B4)))) (A0 (ixE Z w (pv 1) B0) B4))))) C4)
   (B5 (C2 (cC FJ hr (A0 (cC G4 hr (A0 (pv 0) (A0 B0 (A0 (C3 B4) B4)))) (A0 (M8 (E9 (Z:=Z) (ixE Z w (ixE Z w (pv 0) B0) (L7 J1 B0)) (λ_=>rfl)) B0 (ixE Z w (pv 1) B0)) B4))))))), ?_⟩
 rcases o with⟨j,c,v,d,rfl,q⟩|⟨n,d,q⟩|⟨n,c,b,d,rfl,q⟩
 ·refine⟨_,rfl,(ixT d rfl (.inl ⟨rfl,_,rfl,ifT (by decide) ?_⟩))⟩;refine⟨_,rfl,DC,λe he=> ?_⟩;have s1:=A8 he (.tup []);refine⟨fr,k,i,sl,_,1,e,[],rfl,hF.mono (B9 s1),by simp,A7,by simp at hz⊢;omega,λp1 H1 s2 g=> ?_⟩;have e2:(c++ [v]).take ((c++ [v]).length - 1)++ []=c:=by simp
  rw[e2]at g;have a:=s1.trans s2;refine⟨_,rfl,(ixT (a _ _ d) rfl ⟨_,rfl,(ixT (a _ _ h1) rfl ⟨_,rfl,(ixT (a _ _ h3) (L4 _ _) ?_)⟩)⟩)⟩;exact⟨p1,k,i+1,sl,c,j,v,rfl,g,m,λp H3 s3 hp=>q p H3 (a.trans s3) hp⟩
 ·refine⟨_,rfl,(ixT d rfl (.inl ⟨rfl,_,rfl,ifF (by decide) ?_⟩))⟩;refine⟨_,rfl,(ixT d rfl (.inl ⟨rfl,_,rfl,ifT (by decide) ?_⟩))⟩;refine⟨_,rfl,DC,λe he=> ?_⟩;have s1:=A8 he (.tup []);refine⟨fr,k,i,sl,_,0,e,[],rfl,hF.mono (B9 s1),zero_le _,A7,by simp;omega,λp1 H1 s2 g=> ?_⟩;have e2:st.take (st.length - 0)++ []=st:=by simp
  rw[e2]at g;have a:=s1.trans s2;refine⟨_,rfl,(ixT (a _ _ d) rfl ?_)⟩;exact⟨p1,k,i+1,sl,st,_,rfl,g,λp H3 s3 hp=>q p H3 (a.trans s3) hp⟩
 ·refine⟨_,rfl,(ixT d rfl (.inl ⟨rfl,_,rfl,ifF (by decide) ?_⟩))⟩;refine⟨_,rfl,(ixT d rfl (.inl ⟨rfl,_,rfl,ifF (by decide) ?_⟩))⟩;refine⟨_,rfl,DC,λe he=> ?_⟩;have s1:=A8 he (.tup []);refine⟨fr,k,i,sl,_,1,e,[],rfl,hF.mono (B9 s1),by simp,A7,by simp at hz⊢;omega,λp1 H1 s2 g=> ?_⟩;have e2:(c++ [V.bl b]).take ((c++ [V.bl b]).length - 1)++ []=c:=by simp
  rw[e2]at g;have a:=s1.trans s2;refine⟨_,rfl,(ixT (a _ _ h1) rfl ⟨_,rfl,(ixT (a _ _ h3) (L4 _ _) ⟨b,rfl, ?_⟩)⟩)⟩;cases b with
  |true=>exact ifT rfl ⟨p1,k,i+1,sl,c,_,rfl,g,λp H3 s3 hp=>q p H3 (a.trans s3) hp⟩
  |false=>exact ifF nZ ⟨_,rfl,(ixT (a _ _ d) rfl ⟨p1,k,i+1,sl,c,_,rfl,g,λp H3 s3 hp=>q p H3 (a.trans s3) hp⟩)⟩
end
noncomputable abbrev s_own_done:Stmt:=top 23
noncomputable abbrev NL:List Str:=["cells","frame","row","word","top"]
theorem sc_own_done:FnScope NL QW (B6 s_own_done):=fS
noncomputable def RS:List (Str×V):=[("add",.str "+"),("sub",.str "-"),("mul",.str "*"),("div",.str "/"),("less",.str "<"),("same",.str "=")]
noncomputable def T8:Rk->Str
 | .push _=> "push"| .non=> "none"| .load _=> "load"| .keep _=> "keep"| .two k=>wd k| .cons=> "cons"| .head=> "head"| .tail=> "tail"| .empty=> "empty"| .not=> "not"| .skip _=> "skip"| .unless _=> "unless"| .close _ _=> "close"
theorem UG(rk:Rk):atI (rkV rk) 0=some (.str (T8 rk)):=by cases rk<;>rfl
theorem KW:∀k:Nat,(RS.lookup (wd k)).isSome=true
 |0=>by decide|1=>by decide|2=>by decide|3=>by decide|4=>by decide|n+5=>by show(List.lookup ("div":Str) RS).isSome=true;decide
theorem a0Z{k:Nat}(h:k<6):RS.lookup (wd k)=some (.str (_N.sg k)):=by
 have hk:k=0\/k=1\/k=2\/k=3\/k=4\/k=5:=by omega
 rcases hk with rfl|rfl|rfl|rfl|rfl|rfl<;>rfl
section
noncomputable def dxZ(C:Addr)(H:Hp)(Q:VK)(o L:Addr)(us:List V)(k at_:Int)(sl:List V):Eo->Prop
 | .fr d sl' st'=>∀p q H',Same H H'->H' p=some (.tup [.str "frame",.ref q])->FrAt H' q k (at_+d) sl' st'->Q (.ref p) H'
 | .rf w=>∀p H',Same H H'->H' p=some (.tup [.str "refused",.str w])->Q (.ref p) H'
 | .pair st' x y=>∀p q c cv H',Bt L H H'->CAt C H' o L (us++ [.ref c])->H' c=some (.tup [.str "pair",x,y])->H' cv=some (.tup [.str "cell",.int (us.length:Nat)])->H' p=some (.tup [.str "frame",.ref q])->FrAt H' q k (at_+1) sl (st'++ [.ref cv])->Q (.ref p) H'
 | .fn st' b xs=>∀p q c cv vt H',Bt L H H'->CAt C H' o L (us++ [.ref c])->H' c=some (.tup [.str "fn",.int (b:Nat),.ref vt])->H' vt=some (.tup xs)->H' cv=some (.tup [.str "cell",.int (us.length:Nat)])->H' p=some (.tup [.str "frame",.ref q])->FrAt H' q k (at_+1) sl (st'++ [.ref cv])->Q (.ref p) H'
inductive spOwnW (C:Addr) (vs:List V) (H:Hp) (Q:VK):Prop
 |mk:∀(o L:Addr) (us:List V) (fr:Addr) (k at_:Int) (sl st:List V) (r:Addr) (rk:Rk) (eo:Eo),(vs=[.ref o,.ref fr,.ref r])->(CAt C H o L us)->(us.length<=500)->(FrAt H fr k at_ sl st)->(st.length<=100)->(sl.length<=100)->(H r=some (.tup (rkV rk)))->(Ef H us sl rk st eo)->(dxZ C H Q o L us k at_ sl eo)->spOwnW C vs H Q
noncomputable def aNZ(C:Addr):Sp:=λvs H Q _=>spOwnW C vs H Q
theorem ok_own_done{mg:Str->Option Value}(F:Fun Z "own_done" "own_done" s_own_done f fd)(TD:TopD w Z rs RS)(m_ROW_SIGNS:mg "ROW_SIGNS"=some (.ref rs))
  (LP:Cn P w Z mg base CX0 3 "two_done" ["frame","sign"] dCZ)
  (JK:Cn P w Z mg base CX0 2 "part_done" b5Z (cYZ C))
  (BY:Cn P w Z mg base CX0 2 "with_new_cell" QW (doZ C))
  (X3:Cn P w Z mg base CX0 2 "with_nothing_put" RU dAZ)
  (JL:Cn P w Z mg base CX0 1 "value_put" RU dEZ)
  (G4:Cn P w Z mg base CX0 1 "behind" qE BP):
  FnOk P w Z mg base CX0 4 f fd QW (aNZ C):=by
 refine F.om sc_own_done λT A D s H vs Q E hr h=> ?_;obtain⟨o,L,us,fr,k,i,sl,st,r,rk,eo,rfl,hC,G,hF,hz,S,m,hE,q⟩:=h;have nd:=sc_own_done.nd;have hu:=hr.units0;refine⟨_,(A9 (sS 3 nd (ixE Z w (pv 2) B0))
   (A9 (D2 (C0 (kIn (Z:=Z) (w:=w)) (pv 3) (Z2 (v:=.ref _) rfl m_ROW_SIGNS rfl) rfl) (B5 (C2 (cC LP hr (A0 (pv 1) (A0 (ixE Z w (Z2 (v:=.ref _) rfl m_ROW_SIGNS rfl) (pv 3)) B4))))) C4)
   (A9 (D2 (C0 (kIn (Z:=Z) (w:=w)) (pv 3) (C3 (A0 B8 (A0 B8 B4))) rfl) (B5 (C2 (cC JK hr (A0 (pv 0) (A0 (pv 1) (A0 (pv 3) B4)))))) C4)
   (A9 (D2 (C0 (kIn (Z:=Z) (w:=w)) (pv 3) (C3 (A0 B8 (A0 B8 B4))) rfl) (B5 (C2 (C3 (A0 B8 (A0 (cC BY hr (A0 (pv 0) (A0 (pv 1) (A0 (pv 2) B4)))) B4))))) C4)
   (A9 (D2 (C0 (kIn (Z:=Z) (w:=w)) (pv 3) (C3 (A0 B8 (A0 B8 (A0 B8 B4)))) rfl) (B5 (C2 (C3 (A0 B8 (A0 (cC X3 hr (A0 (pv 1) (A0 (pv 2) B4))) B4))))) C4)
   (A9 (D2 (C0 (kIn (Z:=Z) (w:=w)) (pv 3) (C3 (A0 B8 (A0 B8 B4))) rfl) (A9 (sS 4 nd (ixE Z w (ixE Z w (pv 1) B0) (L7 J1 B0)))
   (B5 (C2 (C3 (A0 B8 (A0 (cC G4 hr (A0 (pv 1) (A0 B0 (A0 (C3 (A0 (M8 (C0 (kEq (Z:=Z) hu) (pv 3) B8 rfl) (L6 DE (pv 4) K4 rfl) (TF (pv 4))) B4)) B4)))) B4)))))) C4)
   (B5 (C2 (C3 (A0 B8 (A0 (cC G4 hr (A0 (pv 1) (A0 B0 (A0 (C3 (A0 (cC JL hr (A0 (pv 1) (A0 (pv 2) B4))) B4)) B4)))) B4))))))))))), ?_⟩
 refine⟨_,rfl,(ixT m (UG rk) ?_)⟩;refine⟨_,rfl,.inr (.inr ⟨T8 rk,rs,RS,rfl,rfl,TD,_,rfl,EX (λc1=> ?_) (λc1=> ?_)⟩)⟩
 ·cases hE<;>first|(exfalso;simp only[T8]at c1;revert c1;decide)|skip
  case twoV g a b v st hg ha hb he hv=>
   refine⟨_,rfl,_,rfl,.inr (.inr (.inr ⟨_,_,RS,_,rfl,rfl,TD,a0Z hg,fr,k,i,sl,st,g,a,b,rfl,hF,by simp at hz;omega,hg,ha,hb,λv' p q1 H' e s1 h1 h2=> ?_,λw' p H' e s1 h1=> ?_⟩))⟩
   ·rw[he]at e;have e':=(List.cons.inj (List.cons.inj e).2).1;subst e';exact q p q1 H' s1 h1 h2
   ·rw[he]at e;exact absurd (List.cons.inj e).1 (by decide)
  case twoR g a b w0 st hg ha hb he=>
   refine⟨_,rfl,_,rfl,.inr (.inr (.inr ⟨_,_,RS,_,rfl,rfl,TD,a0Z hg,fr,k,i,sl,st,g,a,b,rfl,hF,by simp at hz;omega,hg,ha,hb,λv' p q1 H' e s1 h1 h2=> ?_,λw' p H' e s1 h1=> ?_⟩))⟩
   ·rw[he]at e;exact absurd (List.cons.inj e).1 (by decide)
   ·rw[he]at e;have e':=(List.cons.inj (List.cons.inj e).2).1;injection e' with e'
    subst e';exact q p H' s1 h1
 refine⟨_,rfl,L5,λt1 N=> .inr (.inl ⟨t1,_,rfl,.inr (SqT.of A7),rfl,rfl,_,rfl,EX (λc2=> ?_) (λc2=> ?_)⟩)⟩
 ·have s1:=A8 N (.tup [.str "head",.str "tail"]);have d:=hF.mono (B9 s1);have t:=hC.same s1;cases hE<;>first|exact absurd (KW _) c1|(exfalso;simp only[T8]at c2;revert c2;decide)|skip
  case headN st=>
   exact⟨_,rfl,_,rfl,_,rfl,o,L,us,fr,k,i,sl,st,.non,false,rfl,t,d,by simp at hz;omega,.inl ⟨rfl,λp H' s2 hp=>q p H' (s1.trans s2) hp⟩⟩
  case tailN st=>
   exact⟨_,rfl,_,rfl,_,rfl,o,L,us,fr,k,i,sl,st,.non,true,rfl,t,d,by simp at hz;omega,.inl ⟨rfl,λp H' s2 hp=>q p H' (s1.trans s2) hp⟩⟩
  case head p0 c h0 t0 st j g1 g2 g3 g4=>
   exact⟨_,rfl,_,rfl,_,rfl,o,L,us,fr,k,i,sl,st,_,false,rfl,t,d,by simp at hz;omega,.inr ⟨p0,c,j,h0,t0,rfl,s1 _ _ g1,g2,s1 _ _ g3,λp q1 H' s2 hp hq=>q p q1 H' (s1.trans s2) hp hq⟩⟩
  case tail p0 c h0 t0 st j g1 g2 g3 g4=>
   exact⟨_,rfl,_,rfl,_,rfl,o,L,us,fr,k,i,sl,st,_,true,rfl,t,d,by simp at hz;omega,.inr ⟨p0,c,j,h0,t0,rfl,s1 _ _ g1,g2,s1 _ _ g3,λp q1 H' s2 hp hq=>q p q1 H' (s1.trans s2) hp hq⟩⟩
 have s1:=A8 N (.tup [.str "head",.str "tail"]);refine⟨_,rfl,L5,λt2 M=> .inr (.inl ⟨t2,_,rfl,.inr (SqT.of A7),rfl,rfl,_,rfl,EX (λc3=> ?_) (λc3=> ?_)⟩)⟩
 ·have s2:=s1.trans (A8 M (.tup [.str "cons",.str "close"]));have d:=hF.mono (B9 s2);have t:=hC.same s2;cases hE<;>first|exact absurd (KW _) c1|(exfalso;simp only[T8]at c3;revert c3;decide)|skip
  case cons x y st=>
   refine⟨_,rfl,_,rfl,_,rfl,o,L,us,fr,k,i,sl,st,r,rfl,t,G,by simp at hz;omega,.inl ⟨x,y,s2 _ _ m,d,λq1 c cv H' k1 g1 g2 g3 g4=>⟨L5,λp hp=> ?_⟩⟩⟩;have s3:=A8 hp (.tup [.str "frame",.ref q1]);exact q p q1 c cv _ (λb o' hb z=>s3 _ _ (k1 _ _ (s2 _ _ hb) z)) (g1.same s3) (s3 _ _ g2) (s3 _ _ g3) A7 (g4.mono (B9 s3))
  case close b n st xs hn=>
   refine⟨_,rfl,_,rfl,_,rfl,o,L,us,fr,k,i,sl,st,r,rfl,t,G,by simp at hz;omega,.inr ⟨b,n,xs,s2 _ _ m,d,hn,by simp at hz;omega,λq1 c cv vt H' k1 g1 g2 R g3 g4=>⟨L5,λp hp=> ?_⟩⟩⟩;have s3:=A8 hp (.tup [.str "frame",.ref q1]);exact q p q1 c cv vt _ (λb o' hb z=>s3 _ _ (k1 _ _ (s2 _ _ hb) z)) (g1.same s3) (s3 _ _ g2) (s3 _ _ R) (s3 _ _ g3) A7 (g4.mono (B9 s3))
 have s2:=s1.trans (A8 M (.tup [.str "cons",.str "close"]));refine⟨_,rfl,NG,λt3 J=> .inr (.inl ⟨t3,_,rfl,.inr (SqT.of A7),rfl,rfl,_,rfl,EX (λc4=> ?_) (λc4=> ?_)⟩)⟩
 ·have s3:=s2.trans (A8 J (.tup [.str "keep",.str "skip",.str "unless"]));have d:=hF.mono (B9 s3);cases hE<;>first|exact absurd (KW _) c1|(exfalso;simp only[T8]at c4;revert c4;decide)|skip
  case keep j v st hj=>
   refine⟨_,rfl,_,rfl,fr,k,i,sl,_,r,rfl,d,hz,by omega,.inl ⟨j,st,v,s3 _ _ m,rfl,λq1 H' s4 g=>⟨L5,λp hp=> ?_⟩⟩⟩;have s5:=A8 hp (.tup [.str "frame",.ref q1]);exact q p q1 _ (s3.trans (s4.trans s5)) A7 (g.mono (B9 s5))
  case skip n=>
   refine⟨_,rfl,_,rfl,fr,k,i,sl,_,r,rfl,d,hz,by omega,.inr (.inl ⟨n,s3 _ _ m,λq1 H' s4 g=>⟨L5,λp hp=> ?_⟩⟩)⟩;have s5:=A8 hp (.tup [.str "frame",.ref q1]);exact q p q1 _ (s3.trans (s4.trans s5)) A7 (by rw[<-Int.add_assoc];exact g.mono (B9 s5))
  case «unless» n b st=>
   refine⟨_,rfl,_,rfl,fr,k,i,sl,_,r,rfl,d,hz,by omega,.inr (.inr ⟨n,st,b,s3 _ _ m,rfl,λq1 H' s4 g=>⟨L5,λp hp=> ?_⟩⟩)⟩;have s5:=A8 hp (.tup [.str "frame",.ref q1]);exact q p q1 _ (s3.trans (s4.trans s5)) A7 (by rw[<-Int.add_assoc];exact g.mono (B9 s5))
 have s3:=s2.trans (A8 J (.tup [.str "keep",.str "skip",.str "unless"]));refine⟨_,rfl,L5,λt4 I=> .inr (.inl ⟨t4,_,rfl,.inr (SqT.of A7),rfl,rfl,_,rfl,EX (λc5=> ?_) (λc5=> ?_)⟩)⟩
 ·have s4:=s3.trans (A8 I (.tup [.str "empty",.str "not"]));have d:=hF.mono (B9 s4);obtain⟨q0,e0,h1,h2,h3⟩:=id d;cases hE<;>first|exact absurd (KW _) c1|(exfalso;simp only[T8]at c5;revert c5;decide)|skip
  case emptyN st=>
   refine⟨_,rfl,(ixT h1 rfl ⟨_,rfl,(ixT h3 (L4 _ _) ?_)⟩)⟩;refine⟨_,rfl,_,rfl,.inl ⟨rfl,_,rfl,ifT (by decide) ⟨_,rfl,rfl,Z8,λt5 l=> ?_⟩⟩⟩;have s5:=A8 l (.tup [.bl true]);refine⟨fr,k,i,sl,_,1,t5,_,rfl,d.mono (B9 s5),by simp,A7,by simp at hz⊢;omega,λq1 H6 s6 hq=>⟨L5,λp hp=> ?_⟩⟩;have e2:(st++ [V.non]).take ((st++ [V.non]).length - 1)=st:=by simp
   rw[e2]at hq;have s7:=A8 hp (.tup [.str "frame",.ref q1]);exact q p q1 _ (s4.trans (s5.trans (s6.trans s7))) A7 (hq.mono (B9 s7))
  case empty p0 xs st hp0=>
   refine⟨_,rfl,(ixT h1 rfl ⟨_,rfl,(ixT h3 (L4 _ _) ?_)⟩)⟩;refine⟨_,rfl,_,rfl,.inl ⟨rfl,_,rfl,ifT (by decide) ⟨_,rfl,rfl,Z8,λt5 l=> ?_⟩⟩⟩;have ed:decide (V.ref p0=V.non)=false:=by simp
   rw[ed]at*;have s5:=A8 l (.tup [.bl false]);refine⟨fr,k,i,sl,_,1,t5,_,rfl,d.mono (B9 s5),by simp,A7,by simp at hz⊢;omega,λq1 H6 s6 hq=>⟨L5,λp hp=> ?_⟩⟩;have e2:(st++ [V.ref p0]).take ((st++ [V.ref p0]).length - 1)=st:=by simp
   rw[e2]at hq;have s7:=A8 hp (.tup [.str "frame",.ref q1]);exact q p q1 _ (s4.trans (s5.trans (s6.trans s7))) A7 (hq.mono (B9 s7))
  case not b st=>
   refine⟨_,rfl,(ixT h1 rfl ⟨_,rfl,(ixT h3 (L4 _ _) ?_)⟩)⟩;refine⟨_,rfl,_,rfl,.inl ⟨rfl,_,rfl,ifF (by decide) ⟨_,rfl,b,rfl,Z8,λt5 l=> ?_⟩⟩⟩;have s5:=A8 l (.tup [.bl (!b)]);refine⟨fr,k,i,sl,_,1,t5,_,rfl,d.mono (B9 s5),by simp,A7,by simp at hz⊢;omega,λq1 H6 s6 hq=>⟨L5,λp hp=> ?_⟩⟩;have e2:(st++ [V.bl b]).take ((st++ [V.bl b]).length - 1)=st:=by simp
   rw[e2]at hq;have s7:=A8 hp (.tup [.str "frame",.ref q1]);exact q p q1 _ (s4.trans (s5.trans (s6.trans s7))) A7 (hq.mono (B9 s7))
 have s4:=s3.trans (A8 I (.tup [.str "empty",.str "not"]));have d:=hF.mono (B9 s4);have O:∃v,Ef H us sl rk st eo/\eo=.fr 1 sl (st++ [v])/\((∃v',H r=some (.tup [.str "push",v'])/\v'=v)\/(H r=some (.tup [.str "none"])/\v=.non)\/(∃(j:Nat),H r=some (.tup [.str "load",.int (j:Nat)])/\sl[j]? =some v)):=by
  cases hE<;>first|exact absurd (KW _) c1|(exfalso;simp only[T8]at c5;revert c5;decide)|(exfalso;simp only[T8]at c4;revert c4;decide)|(exfalso;simp only[T8]at c3;revert c3;decide)|(exfalso;simp only[T8]at c2;revert c2;decide)|skip
  case push v hv=>exact⟨v,.push hv,rfl,.inl ⟨v,m,rfl⟩⟩
  case non=>exact⟨.non,.non,rfl,.inr (.inl ⟨m,rfl⟩)⟩
  case load j v hj=>exact⟨v,.load hj,rfl,.inr (.inr ⟨j,m,hj⟩)⟩
 obtain⟨v,_,rfl,hv⟩:=O;have B:∀(t5:Addr) (H5:Hp),Same _ H5->H5 t5=some (.tup [v])->BP [.ref fr,.int 0,.ref t5] H5 (λv1 H1=>tTupW Q [.str "frame",v1] H1) E:=λt5 H5 s5 l=>
  ⟨fr,k,i,sl,st,0,t5,[v],rfl,d.mono (B9 s5),zero_le _,l,by simp;omega,λq1 H6 s6 hq=>⟨L5,λp hp=>by
   have s7:=A8 hp (.tup [.str "frame",.ref q1]);rw[sub_zero,take_length]at hq;exact q p q1 _ (s4.trans (s5.trans (s6.trans s7))) A7 (hq.mono (B9 s7))⟩⟩
 refine⟨_,rfl,_,rfl,_,rfl,fr,k,i,sl,st,r,rfl,d, ?_⟩;rcases hv with⟨v',u,rfl⟩|⟨u,rfl⟩|⟨j,u,hj⟩
 ·exact .inl ⟨v',s4 _ _ u,Z8,λt5 l=>B t5 _ (A8 l _) A7⟩
 ·exact .inr (.inl ⟨s4 _ _ u,Z8,λt5 l=>B t5 _ (A8 l _) A7⟩)
 ·exact .inr (.inr ⟨j,v,s4 _ _ u,hj,Z8,λt5 l=>B t5 _ (A8 l _) A7⟩)
end
end _C
namespace _S
open PySem _L _B _C
inductive Vl where
 |sc (v:V)|cell (k:Nat)
inductive Cl where
 |pair (a b:Vl)|fn (n:Int) (vs:List Vl)
noncomputable def scV:V->Bool
 | .int _=>true
 | .bl _=>true
 | .non=>true
 |_=>false
theorem ND(h:scV v=true):V8 v=true:=by cases v<;>first|rfl|(cases h;done)
noncomputable def VAt(H:Hp):Vl->V->Prop
 | .sc x,v=>v=x/\scV x=true
 | .cell k,v=>∃p:Addr,v=.ref p/\H p=some (.tup [.str "cell",.int (k:Nat)])
noncomputable def vin:Cl->List Vl
 | .pair a b=> [a,b]
 | .fn _ vs=>vs
noncomputable def ClAt(H:Hp):Cl->V->Prop
 | .pair a b,u=>∃(p:Addr) (x y:V),u=.ref p/\H p=some (.tup [.str "pair",x,y])/\VAt H a x/\VAt H b y
 | .fn n vs,u=>∃(p q:Addr) (xs:List V),u=.ref p/\H p=some (.tup [.str "fn",.int n,.ref q])/\H q=some (.tup xs)/\All2 (VAt H) vs xs/\vs.length<=10
theorem VAt.mo(m:Mo H H'):∀ {x:Vl} {v:V},VAt H x v->VAt H' x v
 | .sc _,_,h=>h
 | .cell _,_,⟨p,e,h⟩=>⟨p,e,m _ _ h⟩
theorem ClAt.mo(m:Mo H H'):∀ {c:Cl} {u:V},ClAt H c u->ClAt H' c u
 | .pair _ _,_,⟨p,x,y,e,h,h1,h2⟩=>⟨p,x,y,e,m _ _ h,h1.mo m,h2.mo m⟩
 | .fn _ _,_,⟨p,q,xs,e,h,h1,h2,h3⟩=>⟨p,q,xs,e,m _ _ h,m _ _ h1,h2.imp λ_ _ z=>VAt.mo m z,h3⟩
noncomputable def Okc(cs:List Cl):Prop:=∀(k j:Nat) (c:Cl),cs[k]? =some c->Vl.cell j∈vin c->j<cs.length
noncomputable def Okv(n:Nat)(vs:List Vl):Prop:=∀j,Vl.cell j∈vs->j<n
inductive Rc (cs:List Cl) (vs:List Vl):Nat->Prop where
 |root {k:Nat}:Vl.cell k∈vs->Rc cs vs k
 |step {k j:Nat} {c:Cl}:Rc cs vs k->cs[k]? =some c->Vl.cell j∈vin c->Rc cs vs j
theorem Rc.lt(h:Okc cs)(hv:Okv cs.length vs)(r:Rc cs vs k):k<cs.length:=by
 cases r with
 |root h=>exact hv _ h
 |step _ hc hj=>exact h _ _ _ hc hj
structure Wlk (cs:List Cl) (vs:List Vl) (F:List Nat) (W:List Vl):Prop where
 f:∀k∈F,Rc cs vs k
 w:∀k,Vl.cell k∈W->Rc cs vs k
 r:∀k,Vl.cell k∈vs->k∈F\/Vl.cell k∈W
 c:∀k c j,k∈F->cs[k]? =some c->Vl.cell j∈vin c->j∈F\/Vl.cell j∈W
 nd:F.Nodup
theorem Wlk.start(cs:List Cl)(vs:List Vl):Wlk cs vs [] vs:=
 ⟨λ_ h=>(by cases h),λ_ h=> .root h,λ_ h=> .inr h,λ_ _ _ h=>(by cases h),nodup_nil⟩
theorem HY:∀ {l:List Nat} {k:Nat},l.Nodup->k∉l->(l++ [k]).Nodup
 | [],k,_,_=>nodup_cons.mpr ⟨by simp,nodup_nil⟩
 |x::r,k,h,hk=>by
  rw[nodup_cons]at h;rw[List.cons_append,nodup_cons];refine⟨λz=> ?_,HY h.2 λz=>hk (mem_cons_of_mem _ z)⟩;rcases mem_append.mp z with z|z
  ·exact h.1 z
  ·rw[mem_singleton]at z;exact hk (by rw[z];exact mem_cons_self ..)
theorem M6{α:Type}{x y:α}{xs:List α}(h:y∈xs++ [x]):y=x\/y∈xs:=by
 rcases mem_append.mp h with h|h
 ·exact .inr h
 ·exact .inl (sZ h)
theorem Wlk.drop{W:List Vl}{x:Vl}(h:Wlk cs vs F (W++ [x]))(hx:∀k,x=.cell k->k∈F):Wlk cs vs F W where
 f:=h.f
 w:=λk hk=>h.w k (mem_append_left _ hk)
 r:=λk hk=>by
  rcases h.r k hk with h1|h1
  ·exact .inl h1
  ·rcases M6 h1 with h2|h2
   ·exact .inl (hx k h2.symm)
   ·exact .inr h2
 c:=λk c j hk hc hj=>by
  rcases h.c k c j hk hc hj with h1|h1
  ·exact .inl h1
  ·rcases M6 h1 with h2|h2
   ·exact .inl (hx j h2.symm)
   ·exact .inr h2
 nd:=h.nd
theorem Wlk.add{W:List Vl}{c:Cl}(h:Wlk cs vs F (W++ [.cell k]))(hk:k∉F)(hc:cs[k]? =some c):Wlk cs vs (F++ [k]) (W++vin c):=by
 have hR:=h.w k (mem_append_right _ (mem_singleton.mpr rfl));refine⟨λj hj=> ?_,λj hj=> ?_,λj hj=> ?_,λi c' j hi a hj=> ?_, ?_⟩
 ·rcases M6 hj with rfl|hj
  ·exact hR
  ·exact h.f j hj
 ·rcases mem_append.mp hj with hj|hj
  ·exact h.w j (mem_append_left _ hj)
  ·exact .step hR hc hj
 ·rcases h.r j hj with h1|h1
  ·exact .inl (mem_append_left _ h1)
  ·rcases M6 h1 with h2|h2
   ·have:j=k:=by injection h2
    exact .inl (by rw[this];exact mem_append_right _ (mem_singleton.mpr rfl))
   ·exact .inr (mem_append_left _ h2)
 ·rcases M6 hi with rfl|hi
  ·rw[hc]at a;cases a;exact .inr (mem_append_right _ hj)
  ·rcases h.c i c' j hi a hj with h1|h1
   ·exact .inl (mem_append_left _ h1)
   ·rcases M6 h1 with h2|h2
    ·have:j=k:=by injection h2
     exact .inl (by rw[this];exact mem_append_right _ (mem_singleton.mpr rfl))
    ·exact .inr (mem_append_left _ h2)
 ·exact HY h.nd hk
theorem Wlk.done(h:Wlk cs vs F [])(k:Nat):k∈F↔Rc cs vs k:=by
 refine⟨h.f k,λr=> ?_⟩;induction r with
 |root hk=>
  rcases h.r _ hk with h1|h1
  ·exact h1
  ·cases h1
 |step _ hc hj ih=>
  rcases h.c _ _ _ ih hc hj with h1|h1
  ·exact h1
  ·cases h1
structure Kept (cs:List Cl) (vs:List Vl) (ks:List Nat):Prop where
 up:List.Pairwise (·<·) ks
 is:∀k,k∈ks↔Rc cs vs k
noncomputable def mv(ks:List Nat):Vl->Vl
 | .sc v=> .sc v
 | .cell k=> .cell (ks.idxOf k)
noncomputable def mvc(ks:List Nat):Cl->Cl
 | .pair a b=> .pair (mv ks a) (mv ks b)
 | .fn n vs=> .fn n (vs.map (mv ks))
theorem YB(ks:List Nat)(c:Cl):vin (mvc ks c)=(vin c).map (mv ks):=by cases c<;>rfl
end _S
namespace _S
open PySem _L _B _C
seal PE PT PW PA PS PSs PTs PI _P PGs PO
noncomputable abbrev s_is_cell:Stmt:=_C.top 4
noncomputable abbrev s_values_in:Stmt:=_C.top 11
noncomputable abbrev s_moved:Stmt:=_C.top 13
noncomputable abbrev s_moved_cell:Stmt:=_C.top 12
noncomputable abbrev BC:List Str:=["value"]
theorem sc_is_cell:FnScope BC EY (B6 s_is_cell):=fS
noncomputable abbrev KH:List Str:=["cell"]
theorem IH:FnScope KH ["cell"] (B6 s_values_in):=fS
noncomputable abbrev OE:List Str:=["values","new_numbers"]
theorem VC:FnScope OE ZB (B6 s_moved):=fS
noncomputable abbrev IG:List Str:=["cell","new_numbers","values"]
theorem sc_moved_cell:FnScope IG bUZ (B6 s_moved_cell):=fS
structure NoG2 (mg:Str->Option Value):Prop where
 sorted_:mg "sorted"=none
noncomputable def isC:Vl->Bool
 | .cell _=>true
 |_=>false
section
inductive spIsCellW(vs:List V)(H:Hp)(Q:VK):Prop
 |mk:∀(x:Vl) (v:V),(vs=[v])->(VAt H x v)->(Q (.bl (isC x)) H)->spIsCellW vs H Q
noncomputable def EK:Sp:=λvs H Q _=>spIsCellW vs H Q
theorem ok_is_cell(F:Fun Z "is_cell" "is_cell" s_is_cell f fd)(B:NoG mg):FnOk P w Z mg base CX0 1 f fd EY EK:=by
 refine F.om sc_is_cell λc A a s H vs Q E hr h=> ?_;obtain⟨x,v,rfl,hx,q⟩:=h;refine⟨_,(B5 (C2 (E3 (M4 (Z:=Z)) rfl B.isinstance_ C8 (A0 (pv 0) (A0 (F8 (v:=.ty "tuple") rfl B.tuple_ J6 rfl) B4))))), ?_⟩;cases x with
 |cell k=>
  obtain⟨p,rfl,hp⟩:=hx;exact⟨_,rfl,_,_,_,_,rfl,.tup hp,U9,q⟩
 |sc x=>
  obtain⟨rfl,hs⟩:=hx;cases v with
  |int n=>exact⟨_,rfl,_,_,_,_,rfl,.int _,by rfl,q⟩
  |bl b=>exact⟨_,rfl,_,_,_,_,rfl,.bl _,by rfl,q⟩
  |non=>exact⟨_,rfl,_,_,_,_,rfl,.non,by rfl,q⟩
  |_=>cases hs
inductive spValuesInW (vs:List V) (H:Hp) (Q:VK):Prop
 |mk:∀(c:Cl) (u:V),(vs=[u])->(ClAt H c u)->(∀q xs H',Same H H'->H' q=some (.tup xs)->All2 (VAt H') (vin c) xs->Q (.ref q) H')->spValuesInW vs H Q
noncomputable def Y1:Sp:=λvs H Q _=>spValuesInW vs H Q
theorem ok_values_in(F:Fun Z "values_in" "values_in" s_values_in f fd):FnOk P w Z mg base CX0 1 f fd ["cell"] Y1:=by
 refine F.om IH λg A d s H vs Q E hr h=> ?_;obtain⟨c,u,rfl,hc,q⟩:=h;have hu:=hr.units0;refine⟨_,(B5 (C2 (M8 (C0 (kEq (Z:=Z) hu) (ixE Z w (pv 0) B0) B8 rfl) (ixE Z w (pv 0) B0) (G1 (W0 (Z:=Z)) (pv 0) (G2 B0) K5)))), ?_⟩;cases c with
 |pair a b=>
  obtain⟨p,x,y,rfl,hp,h1,h2⟩:=hc;refine⟨_,rfl,(ixT hp rfl (.inl ⟨rfl,_,rfl,ifF (by decide +kernel) ?_⟩))⟩;refine⟨_,rfl,_,rfl,.inl (.inr ⟨p,_,rfl,SqT.of hp,by rintro⟨z,_⟩;revert z;show HT.sIx 3 0 (some ((1:Nat):Int))=0->False;rw[HT.sIx_nat];decide,λt ht=> ?_⟩)⟩;have s1:=A8 ht (.tup [x,y]);exact q t [x,y] _ s1 A7 (.cons (h1.mo (B9 s1)) (.cons (h2.mo (B9 s1)) .nil))
 |fn n vs=>
  obtain⟨p,r,xs,rfl,hp,e,h1,_⟩:=hc;refine⟨_,rfl,(ixT hp rfl (.inl ⟨rfl,_,rfl,ifT (by decide +kernel) ?_⟩))⟩;exact⟨_,rfl,(ixT hp rfl (q r xs H (Same.refl _) e h1))⟩
noncomputable def NN(ks:List Nat)(kvs:List (Key×V)):Prop:=∀k,k∈ks->K9 kvs (.inl (k:Int))=some (.int (ks.idxOf k:Nat))
inductive spMovedW (vs:List V) (H:Hp) (Q:VK):Prop
 |mk:∀(a d:Addr) (xs:List V) (ws:List Vl) (ks:List Nat) (kvs:List (Key×V)),(vs=[.ref a,.ref d])->((H a=some (.lst xs)\/H a=some (.tup xs)))->(All2 (VAt H) ws xs)->(xs.length<=1000)->(H d=some (.dK kvs))->(NN ks kvs)->((∀k,Vl.cell k∈ws->k∈ks))->(∀l ys H',Same H H'->H l=none->H' l=some (.lst ys)->All2 (VAt H') (ws.map (mv ks)) ys->Q (.ref l) H')->spMovedW vs H Q
noncomputable def IK:Sp:=λvs H Q _=>spMovedW vs H Q
theorem ok_moved(F:Fun Z "moved" "moved" s_moved f fd)
  (M9:Cn P w Z mg base CX0 1 "is_cell" EY EK):
  FnOk P w Z mg base CX0 2 f fd ZB IK:=by
 refine F.om VC λo A j s H vs Q E hr h=> ?_;obtain⟨a,d,xs,ws,ks,l,rfl,ha,hA,hn,hd,hN,m,q⟩:=h;have zz:(4000:Nat)<=sizeLine:=by decide
 have e:=hA.len;refine⟨_,(B5 (C2 (CT (cS (N:=OE) (sc:=B6 s_moved) (caps:=[1]) (ns:=["new_numbers"])) rfl rfl rfl (cEZ (Z:=Z) (pv 0)) (λ_ _ _ _ _=>T0) (λ_ _ _ _ _=>(M8 (E9 (Z:=Z) (cC M9 hr (A0 (pv 0) B4)) (λ_=>rfl)) (C3 (A0 B8 (A0 (IT hr.u1 (pv 1) (ixE Z w (pv 0) B0) (λ_ _=>rfl)) B4))) (pv 0)))))), ?_⟩;have c:∀(i:Nat) (x:V) (zs:List V) (H1:Hp),xs[i]? =some x->(zs.length=i/\Same H H1/\All2 (VAt H1) ((ws.take i).map (mv ks)) zs)->∃x',ws[i]? =some x'/\VAt H1 x' x/\∀H2 y,Same H1 H2->VAt H2 (mv ks x') y->((zs++ [y]).length=i+1/\Same H H2/\All2 (VAt H2) ((ws.take (i+1)).map (mv ks)) (zs++ [y])):=by
  rintro i x zs H1 hx ⟨rfl,s1,hz⟩;obtain⟨x',b,hv⟩:=hA.get hx;refine⟨x',b,hv.mo (B9 s1),λH2 y s2 hy=>⟨by rw[length_append];rfl,s1.trans s2, ?_⟩⟩;rw[take_succ,b,map_append];exact(hz.imp λ_ _ z=>VAt.mo (B9 s2) z).app (.cons hy .nil)
 have n:∀zs H1,(zs.length=xs.length/\Same H H1/\All2 (VAt H1) ((ws.take xs.length).map (mv ks)) zs)->∀D,H1 D=none->Q (.ref D) (upd H1 D (.lst zs)):=by
  rintro zs H1 ⟨_,s1,hz⟩ D hD;have sD:=A8 hD (.lst zs);rw[<-e,take_length]at hz;exact q D zs _ (s1.trans sD) (s1.free hD) A7 (hz.imp λ_ _ z=>VAt.mo (B9 sD) z)
 rcases ha with ha|ha
 ·refine⟨_,rfl,.inl ⟨a,rfl,⟨_,SqL.of ha⟩,AK (xs:=xs) (λi zs H1=>zs.length=i/\Same H H1/\All2 (VAt H1) ((ws.take i).map (mv ks)) zs) ⟨rfl,Same.refl _,.nil⟩ ?_ ?_ n⟩⟩
  ·rintro i zs H1 hi ⟨rfl,s1,_⟩;exact⟨SqL.of (s1 _ _ ha),by omega⟩
  ·rintro i x zs H1 hx hP;obtain⟨x',b,hv,go⟩:=c i x zs H1 hx hP;have g:=hP.2.1 _ _ hd;refine AT ⟨_,rfl,x',x,rfl,hv,isC x',rfl, ?_⟩;cases x' with
   |sc v=>exact ifF nZ ⟨_,rfl,go H1 x (Same.refl _) hv⟩
   |cell k=>
    obtain⟨p,rfl,hp⟩:=hv;have hk:=hN k (m k (mem_of_getElem? b));refine ifT rfl ⟨_,rfl,_,rfl,(ixT hp rfl ⟨d,_,rfl,.inl ⟨l,.inl (k:Int),.inl g,rfl,hk.symm⟩,L5,λt ht=> ?_⟩)⟩;exact go _ (.ref t) (A8 ht _) ⟨t,rfl,A7⟩
 ·refine⟨_,rfl,.inr ⟨a,rfl,⟨_,SqT.of ha⟩,UE (xs:=xs) (λi zs H1=>zs.length=i/\Same H H1/\All2 (VAt H1) ((ws.take i).map (mv ks)) zs) ⟨rfl,Same.refl _,.nil⟩ ?_ ?_ n⟩⟩
  ·rintro i zs H1 hi ⟨rfl,s1,_⟩;exact⟨SqT.of (s1 _ _ ha),by omega⟩
  ·rintro i x zs H1 hx hP;obtain⟨x',b,hv,go⟩:=c i x zs H1 hx hP;have g:=hP.2.1 _ _ hd;refine AT ⟨_,rfl,x',x,rfl,hv,isC x',rfl, ?_⟩;cases x' with
   |sc v=>exact ifF nZ ⟨_,rfl,go H1 x (Same.refl _) hv⟩
   |cell k=>
    obtain⟨p,rfl,hp⟩:=hv;have hk:=hN k (m k (mem_of_getElem? b));refine ifT rfl ⟨_,rfl,_,rfl,(ixT hp rfl ⟨d,_,rfl,.inl ⟨l,.inl (k:Int),.inl g,rfl,hk.symm⟩,L5,λt ht=> ?_⟩)⟩;exact go _ (.ref t) (A8 ht _) ⟨t,rfl,A7⟩
inductive spMovedCellW (vs:List V) (H:Hp) (Q:VK):Prop
 |mk:∀(u:V) (d:Addr) (c:Cl) (ks:List Nat) (kvs:List (Key×V)),(vs=[u,.ref d])->(ClAt H c u)->(H d=some (.dK kvs))->(NN ks kvs)->((∀k,Vl.cell k∈vin c->k∈ks))->(∀u' H',Same H H'->ClAt H' (mvc ks c) u'->Q u' H')->spMovedCellW vs H Q
noncomputable def BU:Sp:=λvs H Q _=>spMovedCellW vs H Q
theorem ok_moved_cell(F:Fun Z "moved_cell" "moved_cell" s_moved_cell f fd)(B:NoG mg)
  (U0:Cn P w Z mg base CX0 1 "values_in" ["cell"] Y1)
  (HG:Cn P w Z mg base CX0 2 "moved" ZB IK):
  FnOk P w Z mg base CX0 3 f fd bUZ BU:=by
 refine F.om sc_moved_cell λO A k s H vs Q E hr h=> ?_;obtain⟨u,d,c,ks,v,rfl,hc,hd,hN,I,q⟩:=h;have nd:=sc_moved_cell.nd;have hu:=hr.units0;have zz:(4000:Nat)<=sizeLine:=by decide
 have G:(vin c).length<=10:=by
  cases c with
  |pair a b=>show 2<=10;decide
  |fn n vs=>obtain⟨_,_,_,_,_,_,_,h⟩:=hc;exact h
 refine⟨_,(A9 (sS 2 nd (F9 (Z1 (Z:=Z)) rfl B.tuple_ J6 (A0 (cC HG hr (A0 (cC U0 hr (A0 (pv 0) B4)) (A0 (pv 1) B4))) B4)))
   (A9 (D2 (C0 (kEq (Z:=Z) hu) (ixE Z w (pv 0) B0) B8 rfl) (B5 (C2 (C3 (A0 B8 (A0 (ixE Z w (pv 0) B0) (A0 (pv 2) B4)))))) C4)
   (B5 (C2 (C1 (K6 (Z:=Z)) (C3 (A0 B8 B4)) (pv 2)))))), ?_⟩
 refine⟨_,rfl,c,u,rfl,hc,λr xs H1 s1 C hA=>⟨_,rfl,r,d,xs,vin c,ks,v,rfl,.inr C,hA,by have:=hA.len;omega,s1 _ _ hd,hN,I,λl ys H2 s2 hl D J=>⟨l,ys,rfl,.inl ⟨SqL.of D,λt ht=> ?_⟩⟩⟩⟩;have s3:=s1.trans (s2.trans (A8 ht (.tup ys)));have i:upd H2 t (.tup ys) t=some (.tup ys):=A7;have j:=J.imp λ_ _ z=>VAt.mo (B9 (A8 ht (.tup ys))) z;generalize upd H2 t (.tup ys)=H3 at s3 i j⊢;have m:ClAt H3 c u:=hc.mo (B9 s3);cases c with
 |pair a b=>
  obtain⟨p,x,y,rfl,hp,h1,h2⟩:=m;refine⟨_,rfl,(ixT hp rfl (.inl ⟨rfl,_,rfl,ifF (by decide +kernel) ?_⟩))⟩;refine⟨Z8,λo ho=>⟨_,rfl, ?_⟩⟩;have so:=A8 ho (.tup [.str "pair"]);have g:=j.imp λ_ _ z=>VAt.mo (B9 so) z;cases g with
  |cons ha g=>
   cases g with
   |cons hb g=>
    cases g;refine .inr (.inr (.inl ⟨o,t,[.str "pair"],_,rfl,rfl,SqT.of A7,SqT.of (so _ _ i),(by intro z;cases z),(by show 3<=sizeLine;decide),(λz=>by cases z),λ_ p' e=> ?_⟩));exact q (.ref p') _ (s3.trans (so.trans (A8 e _))) ⟨p',_,_,rfl,A7,ha.mo (B9 (A8 e _)),hb.mo (B9 (A8 e _))⟩
 |fn n vs=>
  obtain⟨p,r',M,rfl,hp,N,h1,L⟩:=m;refine⟨_,rfl,(ixT hp rfl (.inl ⟨rfl,_,rfl,ifT (by decide +kernel) ?_⟩))⟩;refine⟨_,rfl,(ixT hp rfl ⟨_,rfl,NG,λp' e=> ?_⟩)⟩;have sp:=A8 e (.tup [.str "fn",.int n,.ref t]);exact q (.ref p') _ (s3.trans sp) ⟨p',t,ys,rfl,A7,sp _ _ i,j.imp λ_ _ z=>VAt.mo (B9 sp) z,by rw[length_map];exact L⟩
end
noncomputable abbrev s_numbers_led_to:Stmt:=_C.top 10
noncomputable abbrev AX:List Str:=["cells","values","found","waiting","value"]
theorem sc_numbers_led_to:FnScope AX RP (B6 s_numbers_led_to):=fS
theorem P9:∀(n:Nat) (F:List Nat),F.Nodup->(∀k∈F,k<n)->F.length<=n
 |0,F,_,h=>by
  cases F with
  |nil=>exact le_refl _
  |cons x r=>exact absurd (h x (mem_cons_self ..)) (Nat.not_lt_zero _)
 |n+1,F,nd,h=>by
  by_cases c:n∈F
  ·have:=P9 n (F.erase n) (nd.erase n) λk hk=>by
    have h1:=(nd.mem_erase_iff).mp hk;have:=h k h1.2;have:=h1.1;omega
   rw[List.length_erase_of_mem c]at this;omega
  ·have:=P9 n F nd λk hk=>by
    have h1:=h k hk;have:k≠n:=λe=>c (e▸hk);omega
   omega
theorem FO{R:Vl->V->Prop}{W:List Vl}{x:Vl}{ys:List V}(h:All2 R (W++ [x]) ys):∃ys' y,ys=ys'++ [y]/\All2 R W ys'/\R x y:=by
 induction W generalizing ys with
 |nil=>
  cases h with
  |cons h t=>
   cases t;exact⟨[],_,rfl,.nil,h⟩
 |cons w W ih=>
  cases h with
  |cons h t=>
   obtain⟨ys',y,rfl,h1,h2⟩:=ih t;exact⟨_::ys',y,rfl,.cons h h1,h2⟩
theorem upd_at{H:Hp}{a b:Addr}{o:HO}(h:H b=some o)(n:b≠a):upd H a o' b=some o:=by rw[B7 n];exact h
noncomputable def K3(F:List Nat):List Key:=F.map λ(k:Nat)=>(Sum.inl (k:Int):Key)
theorem WV{k:Nat}:(Sum.inl (k:Int):Key)∈K3 F↔k∈F:=by
 unfold K3;constructor
 ·intro h;obtain⟨j,hj,e⟩:=mem_map.mp h;have:(j:Int)=(k:Int):=Sum.inl.inj e;have:j=k:=by omega
  subst this;exact hj
 ·exact λh=>mem_map.mpr ⟨k,h,rfl⟩
theorem CO{kvs:List (Key×V)}(h:kvs.map (·.1)=K3 F)(k:Nat):(K9 kvs (.inl (k:Int))).isSome=decide (k∈F):=by
 rw[<-R5,Bool.eq_iff_iff,List.any_eq_true,decide_eq_true_iff,<-WV,<-h];constructor
 ·rintro⟨kv,h1,h2⟩;have e:kv.1=.inl (k:Int):=of_decide_eq_true h2;exact mem_map.mpr ⟨kv,h1,e⟩
 ·intro h1;obtain⟨kv,h2,e⟩:=mem_map.mp h1;exact⟨kv,h2,decide_eq_true e⟩
section
noncomputable def iv(xs:List Nat):List V:=xs.map λi=>V.int (i:Nat)
noncomputable def stN(o v d wl:Addr)(a:Option V):St:=[some (.ref o),some (.ref v),some (.ref d),some (.ref wl),a]
noncomputable def Few(cs:List Cl)(ws:List Vl):Prop:=∀ks:List Nat,ks.Nodup->(∀k∈ks,Rc cs ws k)->ks.length<=63
inductive spLedW (C:Addr) (vs:List V) (H:Hp) (Q:VK):Prop
 |mk:∀(o L v:Addr) (us xs:List V) (cs:List Cl) (ws:List Vl),(vs=[.ref o,.ref v])->(CAt C H o L us)->(All2 (ClAt H) cs us)->(H v=some (.lst xs))->(All2 (VAt H) ws xs)->(Okc cs)->(Okv cs.length ws)->(Few cs ws)->(xs.length<=1000)->(∀l ks H',Same H H'->H l=none->H' l=some (.lst (iv ks))->Kept cs ws ks->Q (.ref l) H')->spLedW C vs H Q
noncomputable def bkZ(C:Addr):Sp:=λvs H Q _=>spLedW C vs H Q
theorem ok_numbers_led_to(F:Fun Z "numbers_led_to" "numbers_led_to" s_numbers_led_to f fd)(B:NoG mg)(B2:NoG2 mg)(RC:RCls Z C mf md)
  (CV:FnOk P w Z mg base CX0 1 (mf "at") (md "at") CG (RW C))
  (M9:Cn P w Z mg base CX0 1 "is_cell" EY EK)
  (U0:Cn P w Z mg base CX0 1 "values_in" ["cell"] Y1):
  FnOk P w Z mg base CX0 2 f fd RP (bkZ C):=by
 refine F.om sc_numbers_led_to λa8 A ae s H vs Q E hr h=> ?_;obtain⟨o,L,v,us,xs,cs,ws,rfl,hC,hU,hv,hX,hO,hV,hn,hx,q⟩:=h;have nd:=sc_numbers_led_to.nd;have hu:=hr.units0;have zz:(4000:Nat)<=sizeLine:=by decide
 obtain⟨dx,ho,hL⟩:=id hC;refine⟨_,(A9 (sS 2 nd Z5)
   (A9 (sS 3 nd (F9 (P8 (Z:=Z)) rfl B.list_ J8 (A0 (pv 1) B4)))
   (A9 (D3 (Z9 PassesOwn.never (E9 (Z:=Z) (pv 3) (λ_=>rfl)) (A9 (sS 4 nd (DL (Z:=Z) PySem.F.plainAttrs_list PySem.F.slot_list_pop PySem.F.type_list_pop Y0 (pv 3)))
   (B5 (D3 (D2 (PW.pt (R8 (E9 (Z:=Z) (cC M9 hr (A0 (pv 4) B4)) (λ_=>rfl)) (O6 (C0 (IR hr.units) (ixE Z w (pv 4) B0) (pv 2) rfl)))) (A9 (L8 O3 (N9 (pv 2) (ixE Z w (pv 4) B0) (V0 hr.units)))
   (B5 (C5 (RO (Z:=Z) PySem.F.plainAttrs_list PySem.F.slot_list_extend PySem.F.type_list_extend (V7 (Z:=Z)) (pv 3) (A0 (cC U0 hr (A0 (mC (pv 0) RC.cl RC.m_at CV hr RC.b_at (A0 (pv 4) B4)) B4)) B4))))) C4))))))
   (B5 (C2 (E3 (RX rfl) rfl B2.sorted_ SL (A0 (pv 2) B4))))))), ?_⟩
 refine λd hd=>⟨_,rfl,v,xs,rfl,.inl (SqL.of ((A8 hd _) _ _ hv)),λwl T=> ?_⟩;have sd:=A8 hd (.dK []);have s1:=sd.trans (A8 T (.lst xs));have aa:upd (upd H d (.dK [])) wl (.lst xs) d=some (.dK []):=(A8 T (.lst xs)) _ _ A7;have X:upd (upd H d (.dK [])) wl (.lst xs) wl=some (.lst xs):=A7;have ao:H wl=none:=sd.free T;have R:d≠wl:=W4 aa X (by intro z;cases z);generalize upd (upd H d (.dK [])) wl (.lst xs)=H1 at s1 aa X⊢;have am:∀(Hx:Hp) (o:HO),Same H Hx->Same H (upd Hx d o):=λHx o a x u h=>by rw[B7 (λe=>by subst e;rw[hd]at h;cases h)];exact a _ _ h
 have ww:∀(Hx:Hp) (o:HO),Same H Hx->Same H (upd Hx wl o):=λHx o a x u h=>by rw[B7 (λe=>by subst e;rw[ao]at h;cases h)];exact a _ _ h
 refine⟨fun σ H'=>∃a F g,σ=stN o v d wl a/\Same H H'/\H' d=some (.dK g)/\g.map (·.1)=K3 F/\Wlk cs ws F [], ?_, ?_⟩
 ·refine⟨λm σ H'=>∃a F g W ys,σ=stN o v d wl a/\Same H H'/\H' d=some (.dK g)/\g.map (·.1)=K3 F/\H' wl=some (.lst ys)/\All2 (VAt H') W ys/\Wlk cs ws F W/\m=(cs.length - F.length)*11+W.length/\W.length<=1000+10*F.length, ?_, ?_⟩
  ·refine⟨_,none,[],[],ws,xs,rfl,s1,aa,rfl,X,hX.imp λ_ _ z=>VAt.mo (B9 s1) z,Wlk.start cs ws,rfl, ?_⟩;have:=hX.len;show ws.length<=1000+0;omega
  rintro m σ H' ⟨a,F,g,W,ys,rfl,s',O,G,J,hA,i,rfl,a0⟩;have a7:=P9 cs.length F i.nd λk hk=>(i.f k hk).lt hO hV;have ab:=hn F i.nd i.f;have a6:g.length=F.length:=by
   have:=congrArg List.length G;unfold K3 at this
   simpa using this
  rcases List.eq_nil_or_concat W with hW|⟨W',x,hW⟩
  ·subst hW;cases hA;exact⟨_,rfl,false,.inl ⟨[],SqL.of J,rfl⟩,ifF nZ ⟨_,F,g,rfl,s',O,G,i⟩⟩
  ·rw[List.concat_eq_append]at hW;subst hW;obtain⟨t,y,rfl,a2,an⟩:=FO hA;have aw:(W'++ [x]).length=W'.length+1:=by rw[length_append];rfl
   rw[aw]at a0⊢;refine⟨_,rfl,true,.inl ⟨t++ [y],SqL.of J,by simp⟩,ifT rfl ?_⟩;refine⟨fun σ H2=>∃m',m'<(cs.length - F.length)*11+(W'.length+1)/\∃a F g W ys,σ=stN o v d wl a/\Same H H2/\H2 d=some (.dK g)/\g.map (·.1)=K3 F/\H2 wl=some (.lst ys)/\All2 (VAt H2) W ys/\Wlk cs ws F W/\m'=(cs.length - F.length)*11+W.length/\W.length<=1000+10*F.length,λ_ _ h=>h, ?_⟩;refine⟨_,rfl,.inl ⟨rfl,_,SqL.of J⟩,wl,_,y,rfl,rfl,J,by simp, ?_⟩;rw[dropLast_concat];have s2:=ww H' (.lst t) s';have M:=upd_at (o':=.lst t) O R;have U:upd H' wl (.lst t) wl=some (.lst t):=A7;have m2:Mo H' (upd H' wl (.lst t)):=λb zs e=>upd_at e (W4 e J (by intro z;cases z));have ad:=a2.imp λ_ _ z=>VAt.mo m2 z;have S:=VAt.mo m2 an;generalize upd H' wl (.lst t)=H2 at s2 M U ad S⊢;refine⟨_, ?_,λ_ _ h=>h⟩;refine⟨_,rfl,x,y,rfl,S,isC x,rfl, ?_⟩;have I:(∀k,x=.cell k->k∈F)->∃m',m'<(cs.length - F.length)*11+(W'.length+1)/\∃a F g W ys,stN o v d wl (some y)=stN o v d wl a/\Same H H2/\H2 d=some (.dK g)/\g.map (·.1)=K3 F/\H2 wl=some (.lst ys)/\All2 (VAt H2) W ys/\Wlk cs ws F W/\m'=(cs.length - F.length)*11+W.length/\W.length<=1000+10*F.length:=λaz=>
    ⟨_,lt_succ_self _,some y,F,g,W',t,rfl,s2,M,G,U,ad,i.drop az,rfl,by omega⟩
   cases x with
   |sc z=>exact ifF nZ (ifF nZ (I λk e=>by cases e))
   |cell k=>
    obtain⟨p,rfl,hp⟩:=S;refine ifT rfl ⟨_,rfl,(ixT hp rfl ⟨_,rfl,d,_,rfl,DGet.k (k:=.inl (k:Int)) M,_,rfl, ?_⟩)⟩;rw[CO G];by_cases hk:k∈F
    ·rw[decide_eq_true hk];exact ifF (by decide) (I λj e=>by cases e;exact hk)
    ·rw[decide_eq_false hk];have ah:k<cs.length:=(i.w k (mem_append_right _ (mem_singleton.mpr rfl))).lt hO hV;have a1:F.length<cs.length:=by
      have:=P9 cs.length (F++ [k]) (HY i.nd hk) λj hj=>by
       rcases M6 hj with rfl|hj
       ·exact ah
       ·exact(i.f j hj).lt hO hV
      rw[length_append]at this;exact this
     have ap:K9 g (.inl (k:Int))=none:=by
      have:=CO G k;rw[decide_eq_false hk]at this;cases h:K9 g (.inl (k:Int))with
      |none=>rfl
      |some z=>rw[h]at this;cases this
     refine ifT rfl ⟨_,rfl,_,rfl,(ixT hp rfl ⟨d,_,rfl,DPut.k (k:=.inl (k:Int)) M (by omega), ?_⟩)⟩;rw[Q7 _ ap];have s3:=am H2 (.dK (g++ [(.inl (k:Int),.bl true)])) s2;have ai:upd H2 d (.dK (g++ [(.inl (k:Int),.bl true)])) d=some (.dK (g++ [(.inl (k:Int),.bl true)])):=A7;have N:=upd_at (o':=.dK (g++ [(.inl (k:Int),.bl true)])) U (Ne.symm R);have m3:Mo H2 (upd H2 d (.dK (g++ [(.inl (k:Int),.bl true)]))):=λb zs e=>upd_at e (W4 e M (by intro z;cases z));have ac:=ad.imp λ_ _ z=>VAt.mo m3 z;have af:=m3 _ _ hp;generalize upd H2 d (.dK (g++ [(.inl (k:Int),.bl true)]))=H3 at s3 ai N ac af⊢;obtain⟨c,ak⟩:∃c,cs[k]? =some c:=⟨_,List.getElem?_eq_getElem ah⟩;obtain⟨u,aq,aj⟩:=hU.get' ak;refine⟨_,rfl,.inl ⟨rfl,_,SqL.of N⟩,_,rfl,o,dx,_,rfl,s3 _ _ ho,rfl,_,rfl,o,L,us,p,k,u,rfl,hC.same s3,af,aq,c,u,rfl,aj.mo (B9 s3),λr zs H4 s4 ar al=> ?_⟩;have ax:(vin c).length<=10:=by
      cases c with
      |pair a b=>show 2<=10;decide
      |fn n vs=>obtain⟨_,_,_,_,_,_,_,h⟩:=aj;exact h
     have a4:=al.len;have a5:=ac.len;refine⟨wl,r,t,zs,rfl,rfl,s4 _ _ N,SqT.of ar,by omega, ?_⟩;have m5:Mo H4 (upd H4 wl (.lst (t++zs))):=λb a3 e=>upd_at e (W4 e (s4 _ _ N) (by intro z;cases z));refine⟨(cs.length - (F++ [k]).length)*11+(W'++vin c).length, ?_,_,F++ [k],_,W'++vin c,t++zs,rfl,ww _ _ (s3.trans s4),upd_at (s4 _ _ ai) R, ?_,A7, ?_,i.add hk ak,rfl, ?_⟩
     ·rw[length_append,length_append];show(cs.length - (F.length+1))*11+(W'.length+(vin c).length)<_;omega
     ·rw[map_append,G];unfold K3;rw[map_append];rfl
     ·exact((ac.imp λ_ _ z=>VAt.mo (B9 s4) z).app al).imp λ_ _ z=>VAt.mo m5 z
     ·rw[length_append,length_append];show W'.length+(vin c).length<=1000+10*(F.length+1);omega
 rintro σ H' ⟨a,F,g,rfl,s',O,G,i⟩;have ab:=hn F i.nd i.f;refine⟨_,rfl,d,g,F.map λ(k:Nat)=>(k:Int),rfl,O, ?_,by rw[length_map];omega,λl D hl hp hs=> ?_⟩
 ·rw[G,map_map];rfl
 have ag:D=(D.map Int.toNat).map λ(k:Nat)=>(k:Int):=by
  rw[map_map]
  conv=>lhs;rw[<-List.map_id D]
  refine map_congr_left λz hz=> ?_;obtain⟨k,_,e⟩:=mem_map.mp (hp.mem_iff.mp hz);show z=((z.toNat:Nat):Int);rw[<-e];simp
 have Y:∀k:Nat,k∈D.map Int.toNat↔k∈F:=λk=>by
  constructor
  ·intro hk;obtain⟨z,hz,e⟩:=mem_map.mp hk;obtain⟨j,hj,e2⟩:=mem_map.mp (hp.mem_iff.mp hz);have:j=k:=by rw[<-e,<-e2];simp
   subst this;exact hj
  ·intro hk;exact mem_map.mpr ⟨(k:Int),hp.mem_iff.mpr (mem_map.mpr ⟨k,hk,rfl⟩),by simp⟩
 have ay:upd H' l (.lst (D.map V.int)) l=some (.lst (iv (D.map Int.toNat))):=by
  rw[A7];congr 2
  conv=>lhs;rw[ag]
  rw[map_map];rfl
 refine q l (D.map Int.toNat) _ (s'.trans (A8 hl _)) (s'.free hl) ay ⟨?_,λk=>(Y k).trans (i.done k)⟩;have au:(D.map Int.toNat).Nodup:=by
  have h1:(F.map λ(k:Nat)=>(k:Int)).Nodup:=by
   refine List.Pairwise.map _ (λa b h=> ?_) i.nd;intro e;apply h;omega
  have h2:D.Nodup:=hp.symm.nodup h1;rw[ag]at h2;exact List.Pairwise.of_map _ (λa b h e=>h (by rw[e])) h2
 have av:(D.map Int.toNat).Pairwise (·<=·):=List.Pairwise.map _ (λa b h=>Int.toNat_le_toNat h) hs;exact(av.and au).imp λh=>Nat.lt_of_le_of_ne h.1 h.2
end
noncomputable abbrev s_swept:Stmt:=_C.top 9
noncomputable abbrev ZP:List Str:=["cells","values","kept","new_numbers","number","kept_cells"]
theorem sc_swept:FnScope ZP RP (B6 s_swept):=fS
theorem QA{H:Hp}{o d:Addr}(ho:H o=none)(hd:H d=none)(hn:d≠o)(hL:upd (upd H d (.own o)) o (.ins C d []) L=none):
  Same H (upd (upd (upd (upd H d (.own o)) o (.ins C d [])) L (.lst [])) o (.ins C d [("in_order",.ref L)]))/\CAt C (upd (upd (upd (upd H d (.own o)) o (.ins C d [])) L (.lst [])) o (.ins C d [("in_order",.ref L)])) o L []/\H L=none:=by
 have c:L≠o:=λe=>by subst e;rw[A7]at hL;cases hL
 have a:=hL;rw[B7 c]at a;have f:L≠d:=λe=>by subst e;rw[A7]at a;cases a
 rw[B7 f]at a;refine⟨λb x hb=> ?_,⟨d,A7, ?_⟩,a⟩
 ·rw[B7 (C6 hb ho),B7 (C6 hb a),B7 (C6 hb ho),B7 (C6 hb hd)];exact hb
 ·rw[B7 c];exact A7
theorem Kept.nd(h:Kept cs ws ks):ks.Nodup:=h.up.imp λh=>ne_of_lt h
theorem Y2{ks:List Nat}(nd:ks.Nodup){j k:Nat}(h:ks[j]? =some k):ks.idxOf k=j:=by
 have hm:=mem_of_getElem? h;have a:ks.idxOf k<ks.length:=idxOf_lt_length_of_mem hm;have e:ks[ks.idxOf k]? =some k:=by
  rw[List.getElem?_eq_getElem a,List.getElem_idxOf a]
 exact(List.getElem?_inj a nd).mp (e.trans h.symm)
noncomputable def L3(cs:List Cl)(k:Nat):Cl:=(cs[k]?).getD (.fn 0 [])
theorem V6{cs:List Cl}{k:Nat}{c:Cl}(h:cs[k]? =some c):L3 cs k=c:=by unfold L3;rw[h];rfl
theorem IC(xs:List Nat):(iv xs).length=xs.length:=length_map ..
theorem baZ{xs:List Nat}{t i:Nat}(h:xs[t]? =some i):(iv xs)[t]? =some (.int (i:Nat)):=by unfold iv;rw[getElem?_map,h];rfl
section
noncomputable def ZX(o v kl d:Addr)(a4 a5:Option V):St:=[some (.ref o),some (.ref v),some (.ref kl),some (.ref d),a4,a5]
inductive spSweptW (C:Addr) (vs:List V) (H:Hp) (Q:VK):Prop
 |mk:∀(o L v:Addr) (us xs:List V) (cs:List Cl) (ws:List Vl),(vs=[.ref o,.ref v])->(CAt C H o L us)->(All2 (ClAt H) cs us)->(H v=some (.lst xs))->(All2 (VAt H) ws xs)->(Okc cs)->(Okv cs.length ws)->(Few cs ws)->(xs.length<=1000)->(∀t o' L' l us' ys ks H',Same H H'->Kept cs ws ks->H' t=some (.tup [.ref o',.ref l])->CAt C H' o' L' us'->All2 (ClAt H') (ks.map λk=>mvc ks (L3 cs k)) us'->H' l=some (.lst ys)->All2 (VAt H') (ws.map (mv ks)) ys->H o'=none->H L'=none->H l=none->l≠L'->Q (.ref t) H')->spSweptW C vs H Q
noncomputable def PY(C:Addr):Sp:=λvs H Q _=>spSweptW C vs H Q
theorem ok_swept(F:Fun Z "swept" "swept" s_swept f fd)(B:NoG mg)(RC:RCls Z C mf md)(M_Cells:Mk Z C fi)(m_Cells:mg "Cells"=some (.ref C))
  (G___init__:FnOk P w Z mg base CX0 1 fi di G0 (NO C))(b___init__:Binds Z di G0 [])
  (OA:FnOk P w Z mg base CX0 1 (mf "put") (md "put") VO (WC C))(CV:FnOk P w Z mg base CX0 1 (mf "at") (md "at") CG (RW C))
  (AH:Cn P w Z mg base CX0 2 "numbers_led_to" RP (bkZ C))
  (HG:Cn P w Z mg base CX0 2 "moved" ZB IK)
  (GY:Cn P w Z mg base CX0 3 "moved_cell" bUZ BU):
  FnOk P w Z mg base CX0 4 f fd RP (PY C):=by
 refine F.om sc_swept λbb A ab s H vs Q E hr h=> ?_;obtain⟨o,L,v,us,xs,cs,ws,rfl,hC,hU,hv,hX,hO,hV,hn,hx,q⟩:=h;have nd:=sc_swept.nd;have hu:=hr.units0;have zz:(4000:Nat)<=sizeLine:=by decide
 obtain⟨dx,ho,hL⟩:=id hC;refine⟨_,(A9 (sS 2 nd (cC AH hr (A0 (pv 0) (A0 (pv 1) B4))))
   (A9 (sS 3 nd Z5)
   (A9 (D3 (O1 PassesOwn.never rfl (P7 (Z:=Z) (pv 2)) (gN 4 nd) (B5 (L8 (E3 VY rfl B.len_ NP (A0 (pv 3) B4)) (N9 (pv 3) (pv 4) (V0 hr.units))))))
   (A9 (sS 5 nd (LI M_Cells G___init__ (hr.mono (by omega)) rfl m_Cells b___init__ .nil Q4))
   (A9 (D3 (O1 PassesOwn.never rfl (P7 (Z:=Z) (pv 2)) (gN 4 nd) (B5 (C5 (mC (pv 5) RC.cl RC.m_put OA hr RC.b_put (A0 (cC GY hr (A0 (mC (pv 0) RC.cl RC.m_at CV hr RC.b_at (A0 (C3 (A0 B8 (A0 (pv 4) B4))) B4)) (A0 (pv 3) B4))) B4))))))
   (B5 (C2 (C3 (A0 (pv 5) (A0 (cC HG hr (A0 (pv 1) (A0 (pv 3) B4))) B4)))))))))), ?_⟩
 refine⟨_,rfl,_,rfl,o,L,v,us,xs,cs,ws,rfl,hC,hU,hv,hX,hO,hV,hn,hx,λkl ks H1 s1 a8 ae hK=> ?_⟩;have a7:ks.length<=63:=hn ks hK.nd λk hk=>(hK.is k).mp hk;refine λd hd=> ?_;have s2:=s1.trans (A8 hd (.dK []));have X:=(A8 hd (.dK [])) _ _ ae;have ag:upd H1 d (.dK []) d=some (.dK []):=A7;have aw:H d=none:=s1.free hd;have al:kl≠d:=λe=>by subst e;rw[ae]at hd;cases hd
 generalize upd H1 d (.dK [])=H2 at s2 X ag⊢;have ak:∀(Hx:Hp) (o:HO),Same H Hx->Same H (upd Hx d o):=λHx o a x u h=>by rw[B7 (λe=>by subst e;rw[aw]at h;cases h)];exact a _ _ h
 refine⟨fun σ H'=>∃a4 g,σ=ZX o v kl d a4 none/\Same H H'/\H' kl=some (.lst (iv ks))/\H' d=some (.dK g)/\NN ks g, ?_, ?_⟩
 ·refine⟨_,rfl,kl,rfl,⟨_,SqL.of X⟩,Q5 (xs:=iv ks) (λi σ H'=>∃a4 g,σ=ZX o v kl d a4 none/\Same H H'/\H' kl=some (.lst (iv ks))/\H' d=some (.dK g)/\g.length=i/\g.map (·.1)=K3 (ks.take i)/\∀j k,j<i->ks[j]? =some k->K9 g (.inl (k:Int))=some (.int (j:Nat))) ?_ ?_ ?_ ?_⟩
  ·exact⟨none,[],rfl,s2,X,ag,rfl,rfl,λj k hj=>absurd hj (Nat.not_lt_zero _)⟩
  ·rintro i σ H' _ ⟨a4,g,rfl,_,y,_⟩;exact SqL.of y
  ·rintro i x σ H' I ⟨a4,g,rfl,s',y,D,rfl,n,J⟩;have hi:g.length<ks.length:=by rw[<-IC];exact(List.getElem?_eq_some_iff.mp I).1
   obtain⟨k,hk⟩:∃k,ks[g.length]? =some k:=⟨_,List.getElem?_eq_getElem hi⟩;have ex:x=.int (k:Nat):=by rw[baZ hk]at I;exact(Option.some.inj I).symm
   subst ex;have T:k∉ks.take g.length:=λhm=>by
    obtain⟨j,hj,e⟩:=List.getElem_of_mem hm;rw[length_take]at hj;have e2:ks[j]? =some k:=by
     rw[List.getElem_take]at e;rw[List.getElem?_eq_getElem (by omega),e]
    have:=Y2 hK.nd e2;have:=Y2 hK.nd hk;omega
   have ac:K9 g (.inl (k:Int))=none:=by
    have:=CO n k;rw[decide_eq_false T]at this;cases h:K9 g (.inl (k:Int))with
    |none=>rfl
    |some z=>rw[h]at this;cases this
   refine⟨_,rfl,d,g,rfl,.inl D,_,rfl,_,rfl,d,_,rfl,DPut.k (k:=.inl (k:Int)) D (by omega), ?_⟩;rw[Q7 _ ac];refine⟨_,g++ [(.inl (k:Int),.int (g.length:Nat))],rfl,ak _ _ s',upd_at y al,A7,by rw[length_append];rfl, ?_,λj k' hj M=> ?_⟩
   ·rw[map_append,n,take_succ,hk];unfold K3;rw[map_append];rfl
   ·rw[<-Q7 _ ac,KJ];by_cases c:j<g.length
    ·have ap:(Sum.inl (k':Int):Key)≠Sum.inl (k:Int):=λe=>by
      have e1:(k':Int)=(k:Int):=Sum.inl.inj e;have e2:k'=k:=by omega
      subst e2;have:=Y2 hK.nd M;have:=Y2 hK.nd hk;omega
     rw[if_neg ap];exact J j k' c M
    ·have e:j=g.length:=by omega
     subst e;rw[hk]at M;cases M;rw[if_pos rfl]
  ·rintro σ H' ⟨a4,g,rfl,s',y,D,hl,n,J⟩;refine⟨a4,g,rfl,s',y,D,λk hk=> ?_⟩;obtain⟨j,hj,e⟩:=List.getElem_of_mem hk;have e2:ks[j]? =some k:=by rw[List.getElem?_eq_getElem hj,e]
   rw[Y2 hK.nd e2];exact J j k (by rw[IC];exact hj) e2
 rintro σ H3 ⟨a4,g,rfl,s3,W,af,hN⟩;refine λo2 d2 ad Y aq=>⟨o2,d2,rfl,A7,λLq a0=>⟨rfl, ?_⟩⟩;obtain⟨s4,aj,r⟩:=QA (C:=C) ad Y aq a0;generalize upd (upd (upd (upd H3 d2 (.own o2)) o2 (.ins C d2 [])) Lq (.lst [])) o2 (.ins C d2 [("in_order",.ref Lq)])=H4 at s4 aj⊢;have S:H o2=none:=s3.free ad;have G:H Lq=none:=s3.free r;have an:d≠Lq:=λe=>by subst e;rw[af]at r;cases r
 have am:kl≠Lq:=λe=>by subst e;rw[W]at r;cases r
 have wl:∀Hx Hy:Hp,Same H Hx->Bt Lq Hx Hy->Same H Hy:=λHx Hy a b x u h=>b x u (a _ _ h) λe=>by subst e;rw[G]at h;cases h
 refine⟨fun σ H'=>∃a4 m,σ=ZX o v kl d a4 (some (.ref o2))/\Same H H'/\CAt C H' o2 Lq m/\All2 (ClAt H') (ks.map λk=>mvc ks (L3 cs k)) m/\H' d=some (.dK g), ?_, ?_⟩
 ·refine⟨_,rfl,kl,rfl,⟨_,SqL.of (s4 _ _ W)⟩,Q5 (xs:=iv ks) (λi σ H'=>∃a4 m,σ=ZX o v kl d a4 (some (.ref o2))/\Same H H'/\CAt C H' o2 Lq m/\m.length=i/\All2 (ClAt H') ((ks.take i).map λk=>mvc ks (L3 cs k)) m/\H' d=some (.dK g)/\H' kl=some (.lst (iv ks))) ?_ ?_ ?_ ?_⟩
  ·exact⟨a4,[],rfl,s3.trans s4,aj,rfl,.nil,s4 _ _ af,s4 _ _ W⟩
  ·rintro i σ H' _ ⟨a4,m,rfl,_,_,_,_,_,y⟩;exact SqL.of y
  ·rintro i x σ H' I ⟨a4,m,rfl,s',N,rfl,O,D,y⟩;have hi:m.length<ks.length:=by rw[<-IC];exact(List.getElem?_eq_some_iff.mp I).1
   obtain⟨k,hk⟩:∃k,ks[m.length]? =some k:=⟨_,List.getElem?_eq_getElem hi⟩;have ex:x=.int (k:Nat):=by rw[baZ hk]at I;exact(Option.some.inj I).symm
   subst ex;have ah:=(hK.is k).mp (mem_of_getElem? hk);have V:=ah.lt hO hV;obtain⟨c,aa⟩:∃c,cs[k]? =some c:=⟨_,List.getElem?_eq_getElem V⟩;obtain⟨u,ao,ay⟩:=hU.get' aa;obtain⟨a5,av,au⟩:=id N;refine⟨_,rfl,o2,a5,_,rfl,av,rfl,_,rfl,o,dx,_,rfl,s' _ _ ho,rfl,_,rfl,L5,λt ht=> ?_⟩;have st:=A8 ht (.tup [.str "cell",.int (k:Nat)]);have s5:=s'.trans st;refine⟨o,L,us,t,k,u,rfl,hC.same s5,A7,ao,_,rfl,u,d,c,ks,g,rfl,ay.mo (B9 s5),st _ _ D,hN,λj hj=>(hK.is j).mpr (.step ah aa hj),λu' H5 s6 az=> ?_⟩;refine⟨o2,Lq,m,u',rfl,(N.same st).same s6,by omega,λp H6 a6 R a1 _=> ?_⟩;have U:H5 Lq=some (.lst m):=s6 _ _ (st _ _ au);have m6:Mo H5 H6:=R.tups U;refine⟨_,m++ [u'],rfl,wl H5 H6 (s5.trans s6) R,a1,by rw[length_append];rfl, ?_,R _ _ (s6 _ _ (st _ _ D)) an,R _ _ (s6 _ _ (st _ _ y)) am⟩;rw[take_succ,hk,map_append];refine((O.imp λ_ _ z=>ClAt.mo (λb zs e=>m6 _ _ (s6 _ _ (st _ _ e))) z)).app (.cons ?_ .nil);show ClAt H6 (mvc ks (L3 cs k)) u';rw[V6 aa];exact az.mo m6
  ·rintro σ H' ⟨a4,m,rfl,s',N,hl,O,D,y⟩;rw[IC,take_length]at O;exact⟨a4,m,rfl,s',N,O,D⟩
 rintro σ H5 ⟨a4,m,rfl,s5,ai,a3,ax⟩;obtain⟨ba,a9,U⟩:=id ai;refine⟨_,rfl,_,rfl,_,rfl,v,d,xs,ws,ks,g,rfl,.inl (s5 _ _ hv),hX.imp λ_ _ z=>VAt.mo (B9 s5) z,by omega,ax,hN,λk hk=>(hK.is k).mpr (.root hk),λl ys H6 s6 hl ar a2=>⟨L5,λt ht=> ?_⟩⟩;have s7:=s6.trans (A8 ht (.tup [.ref o2,.ref l]));refine q t o2 Lq l m ys ks _ (s5.trans s7) hK A7 (ai.same s7) (a3.imp λ_ _ z=>ClAt.mo (B9 s7) z) ((A8 ht _) _ _ ar) (a2.imp λ_ _ z=>VAt.mo (B9 (A8 ht _)) z) S G (s5.free hl) λe=> ?_;subst e;rw[U]at hl;cases hl
end
end _S
namespace _B
open PySem _L
seal PE PT PW PA PS PSs PTs PI _P PGs PO
noncomputable def top(i:Nat):Stmt:=PySem.Challenge.pw_speakmill_k66_whole_collect_anywhere.main.body.getD i (.Pass ⟨0,0,0,0⟩)
noncomputable abbrev s_built_up:Stmt:=top 1
noncomputable abbrev DM:List Str:=["root","parts_in","made","met","waiting","node","parts","done","many","made_parts"]
theorem sc_built_up:FnScope DM ZD (B6 s_built_up):=fS
structure NoG (mg:Str->Option Value):Prop where
 len_:mg "len"=none
 list_:mg "list"=none
 reversed_:mg "reversed"=none
 range_:mg "range"=none
 zip_:mg "zip"=none
 isinstance_:mg "isinstance"=none
 str_:mg "str"=none
 tuple_:mg "tuple"=none
 sum_:mg "sum"=none
 max_:mg "max"=none
 min_:mg "min"=none
 int_:mg "int"=none
 bool_:mg "bool"=none
 enumerate_:mg "enumerate"=none
 all_:mg "all"=none
theorem ifT{A:Prop}[Decidable c](h:c)(a:A):if c then A else B:=by rw[if_pos h];exact a
theorem ifF{B:Prop}[Decidable c](h:¬c)(b:B):if c then A else B:=by rw[if_neg h];exact b
theorem upd_at{H:Hp}{a b:Addr}{o:HO}(h:H b=some o)(n:b≠a):upd H a o' b=some o:=by rw[B7 n];exact h
theorem UR(h:upd H a o' b=none):H b=none/\b≠a:=by
 by_cases e:b=a
 ·subst e;rw[A7]at h;cases h
 ·rw[B7 e]at h;exact⟨h,e⟩
theorem JY(y:V)(ws:List V):(y::ws).reverse[(y::ws).reverse.length - 1]? =some y:=by
 rw[reverse_cons];simp
theorem JW(y:V)(ws:List V):(y::ws).reverse.dropLast=ws.reverse:=by
 rw[reverse_cons];simp
theorem bJZ{ws us:List V}(h:ws.reverse=us):ws=us.reverse:=by rw[<-h,List.reverse_reverse]
theorem VI{α:Type}{A:List α}{k:Nat}{t:α}(h:A[k]? =some t):A.take (k+1)=A.take k++ [t]:=by
 obtain⟨h1,h2⟩:=List.getElem?_eq_some_iff.mp h;rw[take_succ_eq_append_getElem h1,h2]
inductive spM2W (D:Tr) (O:AS) (vs:List V) (H:Hp) (Q:VK):Prop
 |mk:∀S t v l us,(vs=[v,.ref l])->(D.val S H t v)->(D.size t<=400000)->(H l=some (.lst us))->(¬S l)->(¬O l)->((∀a,S a->H a≠none))->(All2 (D.res S H) (D.kids t) us)->(∀r H',Same H H'->D.res S H' t r->Q r H')->spM2W D O vs H Q
noncomputable def ZM(D:Tr)(O:AS):Sp:=λvs H Q _=>spM2W D O vs H Q
inductive spBuilt2W (P:Program) (w:World) (Z:FZ) (mg:Str->Option Value) (base:Heap) (vs:List V) (H:Hp) (Q:VK):Prop
 |mk:∀(D:Tr) (S O:AS) (t:D.T) (v:V) (fp fm:Addr) (dp dm:FuncData) (np nm:List Str),(vs=[v,.ref fp,.ref fm])->(FnOk P w Z mg base CX0 3 fp dp np (spP D))->(EC Z base fp)->(Binds Z dp np [])->(FnOk P w Z mg base CX0 3 fm dm nm (ZM D O))->(EC Z base fm)->(Binds Z dm nm [])->((∀a,S a->H a≠none))->((∀a,O a->H a≠none))->(D.val S H t v)->(D.size t<=400000)->(∀r H',Same H H'->D.res S H' t r->Q r H')->spBuilt2W P w Z mg base vs H Q
noncomputable def DI(P:Program)(w:World)(Z:FZ)(mg:Str->Option Value)(base:Heap):Sp:=λvs H Q _=>spBuilt2W P w Z mg base vs H Q
section
theorem ok_built_up(F:Fun Z "built_up" "built_up" s_built_up f fd)(B:NoG mg):FnOk P w Z mg base CX0 4 f fd ZD (DI P w Z mg base):=by
 refine F.om sc_built_up λbs A an s H vs Q E hr h=> ?_;obtain⟨D,S,O,t,v,fp,fm,dp,dm,np,nm,rfl,FP,kp,bp,FM,km,bm,bf,bh,ag,bl,q⟩:=h;have nd:=sc_built_up.nd;have hu:=hr.units0;have z1:(1:Nat)<=sizeLine:=by decide
 have z2:(2:Nat)<=sizeLine:=by decide
 have z3:(400000:Nat)+400000<sizeLine:=by decide
 refine⟨_,(A9 (sS 3 nd (E7 B4))
   (A9 (sS 4 nd (E7 (A0 (pv 0) B4)))
   (A9 (Z9 PassesOwn.never (E9 (Z:=Z) (pv 4) (λ_=>rfl)) (A9 (sS 5 nd (DL (Z:=Z) PySem.F.plainAttrs_list PySem.F.slot_list_pop PySem.F.type_list_pop Y0 (pv 4)))
   (A9 (sS 6 nd (GG (P:=P) (w:=w) (Z:=Z) (mg:=mg) (base:=base) (pv 1) Q4 (A0 (pv 5) B4) rfl rfl rfl rfl rfl rfl rfl rfl))
   (A9 (C5 (aP Z (pv 3) (C3 (A0 (pv 5) (A0 (kL Z B.len_ (pv 6)) B4)))))
   (B5 (C5 (RO (Z:=Z) PySem.F.plainAttrs_list PySem.F.slot_list_extend PySem.F.type_list_extend RD (pv 4) (A0 (MX (Z:=Z) rfl B.reversed_ rfl B.list_ rfl (A0 (pv 6) B4) rfl rfl rfl) B4))))))))
   (A9 (NA (i:=7) nd rfl (Or.inr rfl) (E7 B4) rfl (.inl rfl))
   (A9 (O1 PassesOwn.never rfl (cmZ (Z:=Z) rfl B.reversed_ (A0 (pv 3) B4) rfl rfl) (DD rfl (L0 (gN 5 nd) (L0 (gN 8 nd) Z7))) (A9 (N3 (i:=9) nd rfl rfl (cS (N:=DM) (sc:=B6 s_built_up) (caps:=[7]) (ns:=["done"])) rfl rfl rfl (J2 rfl B.range_ (A0 (pv 8) B4)) (λ_ _ _ _ _=>T0) (λ_ _ _ _ _=>(DL (Z:=Z) PySem.F.plainAttrs_list PySem.F.slot_list_pop PySem.F.type_list_pop Y0 (pv 1))))
   (B5 (C5 (aP Z (pv 7) (GG (P:=P) (w:=w) (Z:=Z) (mg:=mg) (base:=base) (pv 2) Q4 (A0 (pv 5) (A0 (pv 9) B4)) rfl rfl rfl rfl rfl rfl rfl rfl))))))
   (B5 (C2 (DL (Z:=Z) PySem.F.plainAttrs_list PySem.F.slot_list_pop PySem.F.type_list_pop Y0 (pv 7))))))))), ?_⟩
 refine⟨(by show 0<=sizeLine;decide),λml ai=> ?_⟩;refine⟨_,rfl,z1,λwl k=> ?_⟩;obtain⟨ae,M⟩:=UR k;have g0:Same H (upd (upd H ml (.lst [])) wl (.lst [v])):=(A8 ai _).trans (A8 k _);obtain⟨S1,w1,bg,mS,wS,aa⟩:∃S1:AS,Wd H S S1/\(∀H':Hp,Same H H'->H' ml≠none->H' wl≠none->∀a,S1 a->H' a≠none)/\S1 ml/\S1 wl/\∀a,S a->S1 a:=by
  refine⟨λa=>S a\/a=ml\/a=wl,λa ha=> ?_,λH' sm h1 h2 a ha=> ?_,.inr (.inl rfl),.inr (.inr rfl),λa h=> .inl h⟩
  ·rcases ha with h|rfl|rfl
   ·exact .inl h
   ·exact .inr ai
   ·exact .inr ae
  ·rcases ha with h|rfl|rfl
   ·obtain⟨o,ho⟩:=ne_none_iff_exists'.mp (bf a h);rw[sm _ _ ho];exact λz=>nomatch z
   ·exact h1
   ·exact h2
 have C:=D.vw w1 ag;refine⟨λm σ H'=>∃(N W:List D.T) (ms ws:List V) (y1 y2:Option V),σ=[some v,some (.ref fp),some (.ref fm),some (.ref ml),some (.ref wl),y1,y2,none,none,none]/\Same H H'/\H' ml=some (.lst ms)/\H' wl=some (.lst ws)/\
   All2 (MetAt D S1 H') N ms/\All2 (D.val S1 H') W ws.reverse/\Reach D t N W/\m=(W.map D.size).sum,
  ⟨D.size t,[],[t],[],[v],none,none,rfl,g0,upd_at A7 (Ne.symm M),A7,.nil,.cons (D.vm (.of g0) C) .nil,.start,by simp⟩, ?_⟩
 rintro m σ H' ⟨N,W,ms,ws,y1,y2,rfl,sm,hm,hw,hN,hW,hR,rfl⟩;have bb:=hN.len;have a1:=hR.size;refine⟨_,rfl, !ws.isEmpty,.inl ⟨ws,SqL.of hw,rfl⟩, ?_⟩;generalize ew:ws.reverse=wr at hW;have ew:=bJZ ew;subst ew;cases hW with
 | @cons n u W' wr hn hW'=>
  refine ifT (by simp) ?_;refine⟨_,λ_ _ h=>h, ?_⟩;refine⟨_,rfl,.inl ⟨rfl,_,SqL.of hw⟩,wl,_,_,rfl,rfl,hw,JY _ _, ?_⟩;rw[JW];have t1:Kp S1 H' (upd H' wl (.lst wr.reverse)):=.upd wS hw _;have ak:upd H' wl (.lst wr.reverse) ml=some (.lst ms):=upd_at hm (Ne.symm M);have af:upd H' wl (.lst wr.reverse) wl=some (.lst wr.reverse):=A7;have o1:Same H (upd H' wl (.lst wr.reverse)):=λb o e=>upd_at (sm b o e) (C6 e ae);generalize upd H' wl (.lst wr.reverse)=H1 at t1 ak af o1⊢;have bc:=D.kids_le n;have d:D.size n<=400000:=by simp only[map_cons,sum_cons]at a1;omega
  refine⟨_,rfl,fp,dp,np,spP D,3,rfl,FP,hr.mono (by decide),kp,bp,_,rfl,S1,n,u,rfl,D.vm t1 hn,d,λr H2 ps s2 U ap aq=> ?_⟩;have G:=s2 _ _ ak;have a8:=s2 _ _ af;have o2:=o1.trans s2;have t2:Kp S1 H' H2:=t1.trans (.of s2);have bj:r≠wl:=λe=>by subst e;rw[af]at U;cases U
  have a5:r≠ml:=λe=>by subst e;rw[ak]at U;cases U
  have ba:=aq.len;refine⟨_,rfl,.inl ⟨rfl,_,SqL.of G⟩,_,rfl,_,rfl,_,_,rfl,.inl ⟨_,SqL.of ap,rfl⟩,z2,λp hp=> ?_⟩;have s3:Same H2 (upd H2 p (.tup [u,.int (ps.length:Nat)])):=A8 hp _;refine⟨ml,_,_,rfl,rfl,s3 _ _ G,by omega, ?_⟩;have t4:Kp S1 H' (upd (upd H2 p (.tup [u,.int (ps.length:Nat)])) ml (.lst (ms++ [.ref p]))):=(t2.trans (.of s3)).trans (.upd mS (s3 _ _ G) _);have ar:upd (upd H2 p (.tup [u,.int (ps.length:Nat)])) ml (.lst (ms++ [.ref p])) p=some (.tup [u,.int (ps.length:Nat)]):=upd_at A7 (λe=>by subst e;rw[G]at hp;cases hp);have au:upd (upd H2 p (.tup [u,.int (ps.length:Nat)])) ml (.lst (ms++ [.ref p])) ml=some (.lst (ms++ [.ref p])):=A7;have R:upd (upd H2 p (.tup [u,.int (ps.length:Nat)])) ml (.lst (ms++ [.ref p])) wl=some (.lst wr.reverse):=upd_at (s3 _ _ a8) M;have ao:upd (upd H2 p (.tup [u,.int (ps.length:Nat)])) ml (.lst (ms++ [.ref p])) r=some (.lst ps):=upd_at (s3 _ _ ap) a5;have o4:Same H (upd (upd H2 p (.tup [u,.int (ps.length:Nat)])) ml (.lst (ms++ [.ref p]))):=λb o e=>upd_at (s3 _ _ (o2 b o e)) (C6 e ai);have am:Kp S1 H2 (upd (upd H2 p (.tup [u,.int (ps.length:Nat)])) ml (.lst (ms++ [.ref p]))):=(Kp.of s3).trans (.upd mS (s3 _ _ G) _);generalize upd (upd H2 p (.tup [u,.int (ps.length:Nat)])) ml (.lst (ms++ [.ref p]))=H4 at t4 ar au R ao o4 am⊢;refine⟨_,rfl,.inl ⟨rfl,_,SqL.of R⟩,_,rfl,r,ps,rfl,SqL.of ao,λr2 ah=> ?_⟩;have s5:Same H4 (upd H4 r2 (.lst ps.reverse)):=A8 ah _;have bq:=D.len_le W';have br:=hW'.len;refine⟨wl,r2,_,_,rfl,rfl,s5 _ _ R,A7, ?_, ?_⟩
  ·simp only[length_reverse];simp only[map_cons,sum_cons]at a1;omega
  have t6:Kp S1 H4 (upd (upd H4 r2 (.lst ps.reverse)) wl (.lst (wr.reverse++ps.reverse))):=(Kp.of s5).trans (.upd wS (s5 _ _ R) _);refine⟨_, ?_,N++ [n],D.kids n++W',ms++ [.ref p],wr.reverse++ps.reverse,_,_,rfl,λb o e=>upd_at (s5 _ _ (o4 b o e)) (C6 e ae),upd_at (s5 _ _ au) (Ne.symm M),A7, ?_, ?_,.step hR,rfl⟩
  ·simp only[map_append,sum_append,map_cons,sum_cons];have:=D.hsz n;omega
  ·refine(hN.imp λa b h=>h.mono (t4.trans t6)).app (.cons ⟨p,u,rfl, ?_,D.vm (t4.trans t6) hn⟩ .nil);rw[ba];exact t6.tups ar
  ·rw[List.reverse_append,List.reverse_reverse,List.reverse_reverse];exact(aq.imp λa b h=>D.vm (am.trans t6) h).app (hW'.imp λa b h=>D.vm (t4.trans t6) h)
 |nil=>
  refine ifF (by simp) ?_;refine⟨(by show 0<=sizeLine;decide),λdl g=> ?_⟩;have s7:Same H' (upd H' dl (.lst [])):=A8 g _;have c:H dl=none:=sm.free g;have ac:dl≠ml:=λe=>by subst e;rw[hm]at g;cases g
  have bo:H' ml≠none:=by rw[hm];exact λz=>nomatch z
  have bk:H' wl≠none:=by rw[hw];exact λz=>nomatch z
  have ab:dl≠wl:=λe=>by subst e;rw[hw]at g;cases g
  obtain⟨S2,w2,a0,dS,Y⟩:∃S2:AS,Wd H' S1 S2/\(∀H2:Hp,Same H H2->H2 ml≠none->H2 wl≠none->H2 dl≠none->∀a,S2 a->H2 a≠none)/\S2 dl/\∀a,S a->S2 a:=by
   refine⟨λa=>S1 a\/a=dl,λa ha=> ?_,λH2 a4 h1 h2 h3 a ha=> ?_,.inr rfl,λa h=> .inl (aa a h)⟩
   ·rcases ha with h|rfl
    ·exact .inl h
    ·exact .inr g
   ·rcases ha with h|rfl
    ·exact bg H2 a4 h1 h2 a h
    ·exact h3
  have bi:=hN.imp λa b h=>h.wide w2;refine⟨_,rfl,ml,ms,rfl,SqL.of (s7 _ _ hm),ZO (xs:=ms) (λi σ H'=>∃(W:List D.T) (us:List V) (y1 y2 y3 y4:Option V),σ=[some v,some (.ref fp),some (.ref fm),some (.ref ml),some (.ref wl),y1,y2,some (.ref dl),y3,y4]/\Same H H'/\H' ml=some (.lst ms)/\H' wl≠none/\
   All2 (MetAt D S2 H') N ms/\H' dl=some (.lst us.reverse)/\All2 (D.res S2 H') W us/\Reach D t (N.take (N.length - i)) W) ?_ ?_ ?_ ?_⟩
  ·exact⟨[],[],_,_,_,_,rfl,sm.trans s7,s7 _ _ hm,(by rw[s7 _ _ hw];exact λz=>nomatch z),bi.imp λa b h=>h.mono (.of s7),A7,.nil,by rw[sub_zero,take_length];exact hR⟩
  ·rintro i σ H' _ ⟨W,us,y1,y2,y3,y4,rfl,sm,hm,_⟩;exact SqL.of hm
  ·rintro i x σ H' hx ⟨W,us,y1,y2,y3,y4,rfl,sm,hm,ad,hN,hd,hW,L⟩;have hi:i<ms.length:=by
    have:=(List.getElem?_eq_some_iff.mp hx).1
    simpa using this
   rw[getElem?_reverse hi]at hx;obtain⟨n,hn,p,u,rfl,hp,a9⟩:=hN.get hx;have e1:N.length - i=(ms.length - 1 - i)+1:=by omega
   rw[e1,VI hn]at L;obtain⟨r,rfl,a2⟩:=L.back;obtain⟨b1,b2,rfl,ay,ax⟩:=hW.split;have bd:=ay.len;have bc:=D.kids_le n;have J:=a2.size;have d:D.size n<=400000:=by simp only[map_cons,sum_cons]at J;omega
   refine⟨p,_,rfl,SqT.of hp,rfl,_,_,rfl,_,_,rfl,rfl, ?_⟩;refine⟨_,rfl,((D.kids n).length:Nat),rfl,by omega,by omega,M2 (n:=(D.kids n).length) (λj ys H2=>ys=b1.take j/\H2=upd H' dl (.lst (b1.drop j++b2).reverse)) ?_ ?_ ?_ ?_⟩
   ·exact⟨rfl,by rw[List.drop_zero];exact(b2Z hd).symm⟩
   ·rintro j ys H2 hj ⟨rfl,_⟩;rw[length_take];omega
   ·rintro j ys H2 hj ⟨rfl,rfl⟩;refine AT ?_;have aw:j<b1.length:=by omega
    have ed:b1.drop j=b1[j]::b1.drop (j+1):=List.drop_eq_getElem_cons aw;rw[ed];refine⟨_,rfl,.inl ⟨rfl,_,SqL.of A7⟩,dl,_,_,rfl,rfl,A7,JY _ _, ?_⟩;refine⟨?_, ?_⟩
    ·rw[take_succ_eq_append_getElem aw]
    ·rw[IX];congr 2;exact JW _ _
   ·rintro ys H2 ⟨rfl,rfl⟩ l hl;rw[bd,List.drop_length,take_length,List.nil_append]at*;have s8:Same (upd H' dl (.lst b2.reverse)) (upd (upd H' dl (.lst b2.reverse)) l (.lst b1)):=A8 hl _;have t8:Kp S2 H' (upd (upd H' dl (.lst b2.reverse)) l (.lst b1)):=(Kp.upd dS hd _).trans (.of s8);have X:upd (upd H' dl (.lst b2.reverse)) l (.lst b1) wl≠none:=by
     obtain⟨o,ho⟩:=ne_none_iff_exists'.mp ad;rw[s8 _ _ (upd_at ho (Ne.symm ab))];exact λz=>nomatch z
    have I:upd (upd H' dl (.lst b2.reverse)) l (.lst b1) dl=some (.lst b2.reverse):=s8 _ _ A7;have av:upd (upd H' dl (.lst b2.reverse)) l (.lst b1) l=some (.lst b1):=A7;have aj:upd (upd H' dl (.lst b2.reverse)) l (.lst b1) ml=some (.lst ms):=s8 _ _ (upd_at hm (Ne.symm ac));have o8:Same H (upd (upd H' dl (.lst b2.reverse)) l (.lst b1)):=λb o e=>s8 _ _ (upd_at (sm b o e) (C6 e c));have az:=a0 _ o8 (by rw[aj];exact λz=>nomatch z) X (by rw[I];exact λz=>nomatch z);have a6:¬S2 l:=λz=>by
     refine a0 _ (λb o e=>upd_at (sm b o e) (C6 e c)) ?_ ?_ (by rw[A7];exact λz=>nomatch z) l z hl
     ·rw[upd_at hm (Ne.symm ac)];exact λz=>nomatch z
     ·obtain⟨o,ho⟩:=ne_none_iff_exists'.mp ad;rw[upd_at ho (Ne.symm ab)];exact λz=>nomatch z
    have a7:¬O l:=λz=>by
     obtain⟨o,ho⟩:=ne_none_iff_exists'.mp (bh l z);rw[upd_at (sm l o ho) (C6 ho c)]at hl;cases hl
    generalize upd (upd H' dl (.lst b2.reverse)) l (.lst b1)=H8 at s8 t8 I av aj o8 X az⊢;refine⟨_,rfl,.inl ⟨rfl,_,SqL.of I⟩,_,rfl,fm,dm,nm,ZM D O,3,rfl,FM,hr.mono (by decide),km,bm,_,rfl,_,rfl,S2,n,u,l,b1,rfl,D.vm t8 a9,d,av,a6,a7,az,ay.imp λa b h=>D.rm t8 h,λy H9 s9 hy=> ?_⟩;have be:=ax.len;have bn:=D.len_le r;refine⟨dl,_,_,rfl,rfl,s9 _ _ I, ?_, ?_⟩
    ·rw[length_reverse];simp only[map_cons,sum_cons]at J;omega
    have t9:Kp S2 H9 (upd H9 dl (.lst (b2.reverse++ [y]))):=.upd dS (s9 _ _ I) _;have al:Kp S2 H' (upd H9 dl (.lst (b2.reverse++ [y]))):=(t8.trans (.of s9)).trans t9;have a3:upd H9 dl (.lst (b2.reverse++ [y])) wl≠none:=by
     obtain⟨o,ho⟩:=ne_none_iff_exists'.mp X;rw[upd_at (s9 _ _ ho) (Ne.symm ab)];exact λz=>nomatch z
    refine⟨n::r,y::b2,_,_,_,_,rfl,λb o e=>upd_at (s9 _ _ (o8 b o e)) (C6 e c),upd_at (s9 _ _ aj) (Ne.symm ac),a3,hN.imp λa b h=>h.mono al, ?_,.cons (D.rm t9 hy) (ax.imp λa b h=>D.rm al h), ?_⟩
    ·rw[reverse_cons];exact A7
    ·have e2:N.length - (i+1)=ms.length - 1 - i:=by omega
     rw[e2];exact a2
  ·rintro σ H' ⟨W,us,y1,y2,y3,y4,rfl,sm,hm,ad,hN,hd,hW,L⟩;rw[<-bb,Nat.sub_self,List.take_zero]at L;cases L.first
   cases hW with
   | @cons _ y _ us hy hrest=>
    cases hrest;refine⟨_,rfl,.inl ⟨rfl,_,SqL.of hd⟩,dl,_,_,rfl,rfl,hd,rfl, ?_⟩;exact q y _ (λb o e=>upd_at (sm b o e) (C6 e c)) (D.rw' (λa ha=> .inl (Y a ha)) (D.rm (.upd dS hd _) hy))
end
end _B
namespace _Q
open PySem _L _B _C
inductive Pv where
 |int (i:Int)|bl (b:Bool)|nil|cons (h t:Pv)
noncomputable def heads:Pv->List Pv
 | .cons h t=>h::heads t
 |_=> []
noncomputable def size:Pv->Nat
 | .cons h t=>size h+size t
 |_=>1
theorem DW:∀t:Pv,1<=size t
 | .int _=>le_refl _
 | .bl _=>le_refl _
 | .nil=>le_refl _
 | .cons h t=>le_trans (DW h) (le_add_right _ _)
theorem OK:∀t:Pv,size t=1+((heads t).map size).sum
 | .int _=>rfl
 | .bl _=>rfl
 | .nil=>rfl
 | .cons h t=>by
  show size h+size t=1+((h::heads t).map size).sum;rw[map_cons,sum_cons,OK t];omega
noncomputable def VR(H:Hp)(us:List V):Pv->V->Prop
 | .int i,v=>v=.int i
 | .bl b,v=>v=.bl b
 | .nil,v=>v=.non
 | .cons h t,v=>∃(p:Addr) (k:Nat) (c:Addr) (hv tv:V),v=.ref p/\H p=some (.tup [.str "cell",.int (k:Nat)])/\us[k]? =some (.ref c)/\H c=some (.tup [.str "pair",hv,tv])/\VR H us h hv/\VR H us t tv
theorem VR.mono(m:Mo H H'):∀ {t:Pv} {v:V},VR H us t v->VR H' us t v
 | .int _,_,h=>h
 | .bl _,_,h=>h
 | .nil,_,h=>h
 | .cons _ _,_,⟨p,k,c,hv,tv,e,h1,h2,h3,h4,h5⟩=>⟨p,k,c,hv,tv,e,m _ _ h1,h2,m _ _ h3,VR.mono m h4,VR.mono m h5⟩
noncomputable def R(ok:AS)(H:Hp):Pv->(V->Prop)×(List V->Prop)
 | .int i=>(λv=>v=.int i,λrs=>rs=[])
 | .bl b=>(λv=>v=.bl b,λrs=>rs=[])
 | .nil=>(λv=>∃a,v=.ref a/\H a=some (.lst [])/\ok a,λrs=>rs=[])
 | .cons h t=>(λv=>∃a r rs,v=.ref a/\H a=some (.lst (r::rs))/\ok a/\(R ok H h).1 r/\(R ok H t).2 rs,λrs=>∃r rs',rs=r::rs'/\(R ok H h).1 r/\(R ok H t).2 rs')
theorem R.items:∀ {t:Pv} {rs:List V},(R ok H t).2 rs->All2 (λt r=>(R ok H t).1 r) (heads t) rs
 | .int _,_,h=>by cases h;exact .nil
 | .bl _,_,h=>by cases h;exact .nil
 | .nil,_,h=>by cases h;exact .nil
 | .cons _ _,_,⟨r,rs,e,h1,h2⟩=>by subst e;exact .cons h1 (R.items h2)
theorem R.of_items:∀ {t:Pv} {rs:List V},All2 (λt r=>(R ok H t).1 r) (heads t) rs->(R ok H t).2 rs
 | .int _,_,h=>by cases h;rfl
 | .bl _,_,h=>by cases h;rfl
 | .nil,_,h=>by cases h;rfl
 | .cons _ _,_,h=>by cases h with|cons h1 h2=>exact⟨_,_,rfl,h1,R.of_items h2⟩
theorem R.mono{ok ok':AS}{H H':Hp}(m:∀a xs,ok a->H a=some (.lst xs)->H' a=some (.lst xs)/\ok' a):∀ {t:Pv},(∀ {v:V},(R ok H t).1 v->(R ok' H' t).1 v)/\∀ {rs:List V},(R ok H t).2 rs->(R ok' H' t).2 rs
 | .int _=>⟨λh=>h,λh=>h⟩
 | .bl _=>⟨λh=>h,λh=>h⟩
 | .nil=>⟨λ⟨a,e,h1,h2⟩=>⟨a,e,(m a _ h2 h1).1,(m a _ h2 h1).2⟩,λh=>h⟩
 | .cons h t=>⟨λ⟨a,r,rs,e,h1,h2,h3,h4⟩=>⟨a,r,rs,e,(m a _ h2 h1).1,(m a _ h2 h1).2,(R.mono m (t:=h)).1 h3,(R.mono m (t:=t)).2 h4⟩,
  λ⟨r,rs,e,h3,h4⟩=>⟨r,rs,e,(R.mono m (t:=h)).1 h3,(R.mono m (t:=t)).2 h4⟩⟩
theorem dGZ(k:Kp S H H'):Mo H H':=k.1
noncomputable def Dt(C o L:Addr)(us:List V)(O:AS):Tr where
 T:=Pv
 kids:=heads
 size:=size
 val:=λS H t v=>CAt C H o L us/\¬S o/\¬S L/\VR H us t v
 res:=λS H t r=>(R (λa=>¬O a/\¬S a) H t).1 r
 hsz:=OK
 vm:=λk ⟨⟨dx,h1,h2⟩,n1,n2,h⟩=>⟨⟨dx,k.2 _ _ h1 n1,k.2 _ _ h2 n2⟩,n1,n2,h.mono (dGZ k)⟩
 rm:=λk h=>(R.mono λa xs ha e=>⟨k.2 _ _ e ha.2,ha⟩).1 h
 vw:=λwd ⟨⟨dx,h1,h2⟩,n1,n2,h⟩=>⟨⟨dx,h1,h2⟩,λz=>(wd _ z).elim n1 (λe=>by rw[h1]at e;cases e),λz=>(wd _ z).elim n2 (λe=>by rw[h2]at e;cases e),h⟩
 rw':=λwd h=>(R.mono λa xs ha e=>⟨e,ha.1,λz=>(wd _ z).elim ha.2 λq=>by rw[e]at q;cases q⟩).1 h
end _Q
namespace _Q
open PySem _L _B _C
seal PE PT PW PA PS PSs PTs PI _P PGs PO
noncomputable abbrev s_is_cell:Stmt:=_C.top 4
noncomputable abbrev s_heads_of:Stmt:=_C.top 6
noncomputable abbrev s_with_heads:Stmt:=_C.top 7
noncomputable abbrev BC:List Str:=["value"]
theorem sc_is_cell:FnScope BC EY (B6 s_is_cell):=fS
noncomputable abbrev NH:List Str:=["cells","value","found","rest","cell"]
theorem sc_heads_of:FnScope NH LK (B6 s_heads_of):=fS
noncomputable abbrev JB:List Str:=["value","heads"]
theorem sc_with_heads:FnScope JB WU (B6 s_with_heads):=fS
section
noncomputable def isC(t:Pv):Bool:=match t with
 | .cons _ _=>true
 |_=>false
theorem a6Z(h:VR H us t v):∃ty,TyOf Z H v ty/\kitOne Z ty (.type "tuple")=some (isC t):=by
 cases t with
 |int i=>cases h;exact⟨_,.int i,rfl⟩
 |bl b=>cases h;exact⟨_,.bl b,rfl⟩
 |nil=>cases h;exact⟨_,.non,rfl⟩
 |cons a b=>obtain⟨p,k,c,hv,tv,rfl,h1,_⟩:=h;exact⟨_,.tup h1,U9⟩
inductive spIsW (Z:FZ) (vs:List V) (H:Hp) (Q:VK):Prop
 |mk:∀x ty b,(vs=[x])->(TyOf Z H x ty)->(kitOne Z ty (.type "tuple")=some b)->(Q (.bl b) H)->spIsW Z vs H Q
noncomputable def cFZ(Z:FZ):Sp:=λvs H Q _=>spIsW Z vs H Q
theorem ok_is_cell(F:Fun Z "is_cell" "is_cell" s_is_cell f fd)(B:_C.NoG mg):FnOk P w Z mg base CX0 1 f fd EY (cFZ Z):=by
 refine F.om sc_is_cell λc A a s H vs Q E hr h=> ?_;obtain⟨x,ty,b,rfl,h1,h2,q⟩:=h;have nd:=sc_is_cell.nd;refine⟨_,(B5 (C2 (E3 (M4 (Z:=Z)) rfl B.isinstance_ C8 (A0 (pv 0) (A0 (F8 (v:=.ty "tuple") rfl B.tuple_ J6 rfl) B4))))), ?_⟩;exact⟨_,rfl,_,_,_,_,rfl,h1,h2,q⟩
inductive spHeadsW (C:Addr) (vs:List V) (H:Hp) (Q:VK):Prop
 |mk:∀(o L:Addr) (us:List V) (t:Pv) (v:V),(vs=[.ref o,v])->(CAt C H o L us)->(VR H us t v)->(size t<=400000)->(∀r ps,H r=none->All2 (VR H us) (heads t) ps->Q (.ref r) (upd H r (.lst ps)))->spHeadsW C vs H Q
noncomputable def PU(C:Addr):Sp:=λvs H Q _=>spHeadsW C vs H Q
theorem ok_heads_of(F:Fun Z "heads_of" "heads_of" s_heads_of f fd)(RC:RCls Z C mf md)(CV:∀k,FnOk P w Z mg base CX0 (k+1) (mf "at") (md "at") CG (RW C))
  (M9:FnOk P w Z mg base CX0 1 fic dic EY (cFZ Z))(AI:mg "is_cell"=some (.ref fic))(AG:kZ Z (.ref fic)=true)(AJ:Binds Z dic EY []):
  FnOk P w Z mg base CX0 2 f fd LK (PU C):=by
 refine F.om sc_heads_of λx A e s H vs Q E hr h=> ?_;obtain⟨o,L,us,t,v,rfl,hc,ht,hz,q⟩:=h;have nd:=sc_heads_of.nd;have hu:=hr.units0;have zz:(400000:Nat)<sizeLine:=by decide
 have CV:=CV 0;refine⟨_,(A9 (sS 2 nd (E7 B4))
   (A9 (sS 3 nd (pv 1))
   (A9 (D3 (Z9 PassesOwn.never (E9 (Z:=Z) (AB M9 (hr.mono (by omega)) rfl AI AG AJ .nil Q4 (A0 (pv 3) B4)) (λ_=>rfl)) (A9 (sS 4 nd (mC (pv 0) RC.cl RC.m_at CV hr RC.b_at (A0 (pv 3) B4)))
   (A9 (C5 (aP Z (pv 2) (ixE Z w (pv 4) B0)))
   (B5 (sS 3 nd (ixE Z w (pv 4) B0)))))))
   (B5 (C2 (pv 2)))))), ?_⟩
 refine⟨(by show 0<=sizeLine;decide),λfl l=> ?_⟩;have sm:∀ps,Same H (upd H fl (.lst ps)):=λps=>A8 l _;refine⟨_,rfl,fun σ H'=>∃ps y1 y2,σ=[some (.ref o),some v,some (.ref fl),y1,y2]/\H'=upd H fl (.lst ps)/\All2 (VR H us) (heads t) ps, ?_, ?_⟩
 ·refine⟨λm σ H'=>∃(t':Pv) (d:V) (hs:List Pv) (ps:List V) (y2:Option V),σ=[some (.ref o),some v,some (.ref fl),some d,y2]/\H'=upd H fl (.lst ps)/\VR H us t' d/\heads t=hs++heads t'/\All2 (VR H us) hs ps/\hs.length+size t'<=400000/\m=size t',
   ⟨size t,t,v,[],[],none,rfl,rfl,ht,rfl,.nil,by simpa using hz,rfl⟩, ?_⟩
  rintro m σ H' ⟨t',d,hs,ps,y2,rfl,rfl,g,hh,hA,hl,rfl⟩;have hm:Mo H (upd H fl (.lst ps)):=B9 (sm ps);obtain⟨ty,h1,h2⟩:=a6Z (Z:=Z) (g.mono hm);refine⟨_,rfl,_,_,_,rfl,h1,h2, ?_⟩;refine⟨isC t',rfl, ?_⟩;have r:=hA.len;cases t' with
  |cons a b=>
   refine _C.ifT rfl ⟨_,λ_ _ h=>h, ?_⟩;obtain⟨p,k,c,hv,tv,rfl,p1,p2,p3,p4,p5⟩:=g;obtain⟨dx,c1,c2⟩:=hc;have j:upd H fl (.lst ps) fl=some (.lst ps):=A7;refine⟨_,rfl,o,dx,_,rfl,sm ps _ _ c1,rfl,_,rfl,o,L,us,p,k,.ref c,rfl,⟨dx,sm ps _ _ c1,sm ps _ _ c2⟩,hm _ _ p1,p2, ?_⟩;have u:=DW a;have n:=DW b;have e5:size (Pv.cons a b)=size a+size b:=rfl;refine⟨_,rfl,.inl ⟨rfl,_,SqL.of j⟩,_,rfl,(ixT (hm _ _ p3) rfl ⟨fl,ps,_,rfl,rfl,j,by omega, ?_⟩)⟩;rw[IX];refine⟨_,rfl,(ixT (B9 (sm _) _ _ p3) rfl ?_)⟩;exact⟨size b,by omega,b,tv,hs++ [a],ps++ [hv],_,rfl,rfl,p5,by rw[hh];simp[heads],hA.app (.cons p4 .nil),by rw[length_append,length_singleton];omega,rfl⟩
  |int i=>exact _C.ifF nZ ⟨ps,_,_,rfl,rfl,by rw[hh];simpa [heads]using hA⟩
  |bl i=>exact _C.ifF nZ ⟨ps,_,_,rfl,rfl,by rw[hh];simpa [heads]using hA⟩
  |nil=>exact _C.ifF nZ ⟨ps,_,_,rfl,rfl,by rw[hh];simpa [heads]using hA⟩
 ·rintro σ H' ⟨ps,y1,y2,rfl,rfl,hA⟩;exact⟨_,rfl,q fl ps l hA⟩
theorem ok_with_heads(F:Fun Z "with_heads" "with_heads" s_with_heads f fd)
  (M9:FnOk P w Z mg base CX0 1 fic dic EY (cFZ Z))(AI:mg "is_cell"=some (.ref fic))(AG:kZ Z (.ref fic)=true)(AJ:Binds Z dic EY []):
  FnOk P w Z mg base CX0 2 f fd WU (ZM (Dt C o L us O) O):=by
 refine F.om sc_with_heads λm A g s H vs Q E hr h=> ?_;obtain⟨S,t,v,l,rs,rfl,⟨hc,n1,n2,hv⟩,hz,hl,nS,nO,hS,hA,q⟩:=h;have nd:=sc_with_heads.nd;have hu:=hr.units0;obtain⟨ty,h1,h2⟩:=a6Z (Z:=Z) hv;have j:All2 (λt r=>(R (λa=>¬O a/\¬S a) H t).1 r) (heads t) rs:=hA;have d:∀r,(R (λa=>¬O a/\¬S a) H t).1 r->Q r H:=λr h=>q r H (λ_ _ e=>e) h;refine⟨_,(B5 (C2 (M8 (PW.pt (P0 (C0 DE (pv 0) K4 rfl) (O0 (E9 (Z:=Z) (AB M9 (hr.mono (by omega)) rfl AI AG AJ .nil Q4 (A0 (pv 0) B4)) (λ_=>rfl))))) (pv 1) (pv 0)))), ?_⟩;cases t with
 |int i=>cases hv;exact⟨_,rfl,rfl,_,rfl,_C.ifF (by simp) ⟨_,rfl,_,_,_,rfl,h1,h2,_,rfl,_C.ifF nZ ⟨_,rfl,d _ rfl⟩⟩⟩
 |bl i=>cases hv;exact⟨_,rfl,rfl,_,rfl,_C.ifF (by simp) ⟨_,rfl,_,_,_,rfl,h1,h2,_,rfl,_C.ifF nZ ⟨_,rfl,d _ rfl⟩⟩⟩
 |nil=>cases hv;cases j;exact⟨_,rfl,rfl,_,rfl,_C.ifT (by simp) (_C.ifT rfl ⟨_,rfl,d _ ⟨l,rfl,hl,nO,nS⟩⟩)⟩
 |cons a b=>
  obtain⟨p,k,c,hv,tv,rfl,_⟩:=hv;cases j with
  |cons r1 r2=>exact⟨_,rfl,rfl,_,rfl,_C.ifF (by simp) ⟨_,rfl,_,_,_,rfl,h1,h2,_,rfl,_C.ifT rfl ⟨_,rfl,d _ ⟨l,_,_,rfl,hl,⟨nO,nS⟩,r1,R.of_items r2⟩⟩⟩⟩
end
noncomputable abbrev s_plain:Stmt:=_C.top 5
noncomputable abbrev YU:List Str:=["cells","value"]
theorem sc_plain:FnScope YU LK (B6 s_plain):=fS
noncomputable def YS:Expr:=match E5 s_plain with
 | [.Return (some (.Call _ [_,l,_] _ _)) _]=>l
 |_=> .Constant .none 0 ⟨0,0,0,0⟩
noncomputable def cHZ:Arguments:=match YS with
 | .Lambda p _ _ _=>p
 |_=>⟨[],[],none,[],[],none,[]⟩
noncomputable def b3Z:Expr:=match YS with
 | .Lambda _ b _ _=>b
 |e=>e
noncomputable def lamS:Scope:=match YS with
 | .Lambda _ _ s _=>s
 |_=> {kind:=.function,names:=[],isGenerator:=false,isCoroutine:=false}
noncomputable def lamAt:Pos:=match YS with
 | .Lambda _ _ _ p=>p
 |_=>⟨0,0,0,0⟩
theorem cAZ:∀y∈lamS.names,y.2=.free->y.1∈(["cells"]:List Str):=by decide +kernel
theorem cwZ:LamScope ["one"] ["cells"] lamS:=⟨rfl,rfl,rfl,by decide +kernel,by decide +kernel,by decide +kernel,λx h=>cAZ _ (PySem.mem_of_lookup h) rfl,by decide +kernel⟩
noncomputable def lamQ:Str:=("plain":Str)++ ".<locals>."++ "<lambda>"
noncomputable def clos(n:Nat):List (Str×Addr):=[("cells",n+1)]
theorem ZI(n f:Addr)(cdv:Value):closureFor lamS (PyProof.Rows.envOfC "plain" (B6 s_plain) n f cdv)=pure (clos n):=by rfl
section
theorem cap:CapOk (HU CX P w Z mg base LK "plain" (B6 s_plain) f cdv A outer s H E).nox (clos s.heap.objs.size) ["cells"] [0]:=by
 refine⟨λx c h=> ?_,λx h=> ?_,λx h=> ?_,λx h=>rfl,λi x h=> ?_,rfl⟩
 ·show x∈(["cells"]:List Str)/\(clos s.heap.objs.size).lookup x=some c;refine⟨?_,h⟩;unfold clos at h;rw[lookup_cons]at h;split at h
  ·rename_i e;rw[beq_iff_eq.mp e];exact mem_cons_self
  ·cases h
 ·have e:x="cells":=by simpa using h
  subst e;exact⟨_,rfl⟩
 ·have e:x="cells":=by simpa using h
  subst e;rfl
 ·cases i with
  |zero=>have e:("cells":Str)=x:=by simpa using h
         subst e;exact⟨0,rfl,rfl⟩
  |succ i=>simp at h
inductive spPlainW(C Pt:Addr)(vs:List V)(H:Hp)(Q:VK):Prop
 |mk:∀(o L:Addr) (us:List V) (t:Pv) (v:V),(vs=[.ref o,v])->(CAt C H o L us)->(VR H us t v)->(size t<=400000)->(ED H Pt lamAt lamQ)->(∀r H',(∀b ob,H b=some ob->b≠Pt->H' b=some ob)->ED H' Pt lamAt lamQ->(R (λa=>H a=none) H' t).1 r->Q r H')->spPlainW C Pt vs H Q
noncomputable def spPlain(C Pt:Addr):Sp:=λvs H Q _=>spPlainW C Pt vs H Q
theorem ok_plain(F:Fun Z "plain" "plain" s_plain f fd)(hcode:fd.code=.ref c)(CH:PySem.W.CodeHd base c Pt)(BT:base.BuiltinsAt mg Pt)
  (LO:∀base,FnOk P w Z mg base CX0 4 fb db ZD (DI P w Z mg base))(LT:mg "built_up"=some (.ref fb))(LY:kZ Z (.ref fb)=true)(LS:Binds Z db ZD [])
  (LW:∀base,FnOk P w Z mg base CX0 2 fh dh LK (PU C))(LX:mg "heads_of"=some (.ref fh))(MB:kZ Z (.ref fh)=true)(LV:Binds Z dh LK [])
  (HD:∀(base:Heap) (o L:Addr) (us:List V) (O:AS),FnOk P w Z mg base CX0 2 fw dw WU (ZM (Dt C o L us O) O))(HI:mg "with_heads"=some (.ref fw))(HJ:kZ Z (.ref fw)=true)(GV:Binds Z dw WU []):
  FnOk P w Z mg base CX0 5 f fd LK (spPlain C Pt):=by
 refine F.okC sc_plain (λvs H Q E h=> ?_) (λX A l s H vs Q E N hr h=> ?_)
 ·obtain⟨o,L,us,t,v,rfl,_⟩:=h;rfl
 obtain rfl:Value.ref c=X:=hcode.symm.trans N;obtain⟨o,L,us,t,v,rfl,hc,hv,hz,hT,q⟩:=h;have nd:=sc_plain.nd;refine⟨_,B5 (C2 (WD (name:="<lambda>") (qual:=lamQ) (params:=cHZ) (body:=b3Z) (scope:=lamS) (clos:=clos s.heap.objs.size) (pm:=(mg "__name__").getD .none) (fs:=["cells"]) (js:=[0]) (sp:=DI P w Z mg) LO hr rfl LT LY LS cap
  (A0 (pv 1) (A0 (bGZ (params:=cHZ) (body:=b3Z) (scope:=lamS) (pos:=lamAt) (pm:=(mg "__name__").getD .none) rfl rfl (ZI _ _ _) rfl CH BT) (A0 (Z2 (v:=.ref fw) rfl HI rfl) B4))) (by decide) rfl rfl)), ?_⟩
 refine⟨v,rfl,hT,λfl c' H1 u hF hC B n1 n2 n3 hO hK=> ?_⟩;refine⟨fl,c',[.ref o],⟨rfl,λi j h=> ?_⟩,hF,hC,n1,λg LA CA=> ?_⟩
 ·cases i with
  |zero=>have e:0=j:=by simpa using h
         subst e;exact⟨_,rfl,rfl⟩
  |succ i=>simp at h
 obtain⟨U,J⟩:=LA.fn;generalize D:del (del H1 fl) c'=H2;have k:∀b ob,H1 b=some ob->b≠fl->b≠c'->H2 b=some ob:=λb ob e a1 a2=>by rw[<-D,V2 a2,V2 a1];exact e
 have d:∀b ob,H b=some ob->b≠Pt->(∀φ,ob≠ .ext φ)->H2 b=some ob:=λb ob e a1 a2=>by
  have e1:=hK b ob e a1;refine k b ob e1 (λz=> ?_) (λz=> ?_)
  ·rw[z,u]at e;cases e
  ·rw[z,hC]at e1;exact a2 _ (Option.some.inj e1).symm
 obtain⟨qs,G,_⟩:=id hT;have m:∀ {b:Addr} {ob:HO},H b=some ob->(∀ps,ob≠ .tbl ps)->b≠Pt:=λ{b ob} e a z=>by rw[z,G]at e;exact a _ (Option.some.inj e).symm
 have I:Mo H H2:=λb xs e=>d b _ e (m e λps z=>nomatch z) fun φ z=>nomatch z
 have T:CAt C H2 o L us:=by
  obtain⟨dx,h1,h2⟩:=hc;exact⟨dx,d _ _ h1 (m h1 (λps z=>nomatch z)) (fun φ z=>nomatch z),d _ _ h2 (m h2 (λps z=>nomatch z)) (fun φ z=>nomatch z)⟩
 have FP:FnOk P w Z mg g CX0 3 fl (PySem.W.kla_fn "<lambda>" lamQ cHZ b3Z lamS (clos s.heap.objs.size) ((mg "__name__").getD .none) (.ref c') U) ["one"] (spP (Dt C o L us λa=>H2 a≠none)):=by
  refine ceZ J rfl LA.cd cwZ CA (λvs H Q E h=> ?_) (λA l s H vs Q E hr h=> ?_)
  ·obtain⟨S,t,v,rfl,_⟩:=h;rfl
  obtain⟨S,t,v,rfl,⟨hc,n1,n2,hv⟩,hz,q⟩:=h;refine⟨_,AB (LW g) hr rfl LX MB LV .nil Q4 (A0 (pv 1) (A0 (pv 0) B4)), ?_⟩;refine⟨_,rfl,_,rfl,o,L,us,t,v,rfl,hc,hv,hz,λr ps hr hA=> ?_⟩;have sm:=A8 hr (.lst ps);exact q r _ ps sm hr A7 (hA.imp λa b h=>⟨hc.same sm,n1,n2,h.mono (B9 sm)⟩)
 refine⟨Dt C o L us λa=>H2 a≠none,λ_=>False,λa=>H2 a≠none,t,v,fl,fw,_,dw,["one"],WU,rfl,FP,.inr LA.fnAt,.all (λus hl=>match us,hl with| [_],_=>rfl),(HD g o L us _).mono (by decide),.inl HJ,GV,
  λa h=>h.elim,λa h=>h,⟨T,id,id,hv.mono I⟩,hz,λr H' sm n M x=> ?_⟩
 have up:∀ {b:Addr} {ob:HO},H' b=some ob->upd H' c' (CodeO lamQ c') b=some ob:=λ{b ob} e=>by rw[B7 (C6 e x)];exact e
 have k1:∀b ob,H1 b=some ob->b≠fl->upd H' c' (CodeO lamQ c') b=some ob:=λb ob e a=>by
  by_cases z:b=c'
  ·rw[z,hC]at e;cases e;rw[z];exact A7
  ·exact up (sm b ob (k b ob e a z))
 refine q r _ (λb ob e a=>k1 b ob (hK b ob e a) λz=>by rw[z,u]at e;cases e) ?_ ?_
 ·obtain⟨ps,e1,e2,e3⟩:=B;exact TabHit.ok ⟨ps,k1 _ _ e1 (Ne.symm n2),e2,e3⟩ A7
 ·refine(R.mono (λa xs ha e=>⟨up e, ?_⟩)).1 n;have a1:a≠c':=C6 e x;have a2:a≠fl:=C6 e M;have a3:H2 a=none:=by
   cases z:H2 a with
   |none=>rfl
   |some y=>exact absurd (show H2 a≠none by rw[z];simp) ha.1
  rw[<-D,V2 a1,V2 a2]at a3;cases z:H a with
  |none=>rfl
  |some y=>
   by_cases p:a=Pt
   ·obtain⟨ps,e1,_⟩:=B;rw[p,e1]at a3;cases a3
   ·rw[hK a y z p]at a3;cases a3
end
end _Q
namespace _M
open PySem _L _B _C _S
inductive Rw where
 |own (rk:Rk)|back|call (b m:Nat)|apply
structure Bk where
 par:Nat
 sz:Nat
 rows:List Rw
structure Fr where
 k:Nat
 at_:Nat
 sl:List Vl
 st:List Vl
inductive Ou where
 |value (v:Vl)|refused (w:Str)|dry|deep
structure Ms where
 cs:List Cl
 frs:List Fr
 out:Option Ou
 r:Nat
 c:Nat
inductive Eo2 where
 |fr (d:Nat) (sl st:List Vl)|rf (w:Str)|new (c:Cl) (st:List Vl)
inductive Er (cs:List Cl) (sl:List Vl):Rk->List Vl->Eo2->Prop
 |push {v st}:scV v=true->Er cs sl (.push v) st (.fr 1 sl (st++ [.sc v]))
 |non {st}:Er cs sl .non st (.fr 1 sl (st++ [.sc .non]))
 |load {j v st}:sl[j]? =some v->Er cs sl (.load j) st (.fr 1 sl (st++ [v]))
 |keep {j v st}:j<sl.length->Er cs sl (.keep j) (st++ [v]) (.fr 1 (sl.take j++ [v]++sl.drop (j+1)) st)
 |twoV {k a b v st}:k<6->Bd a->Bd b->_N.tw k a b=[.str "value",v]->scV v=true->Er cs sl (.two k) (st++ [.sc (.int a),.sc (.int b)]) (.fr 1 sl (st++ [.sc v]))
 |twoR {k a b w st}:k<6->Bd a->Bd b->_N.tw k a b=[.str "refused",.str w]->Er cs sl (.two k) (st++ [.sc (.int a),.sc (.int b)]) (.rf w)
 |cons {x y st}:Er cs sl .cons (st++ [x,y]) (.new (.pair x y) st)
 |headN {st}:Er cs sl .head (st++ [.sc .non]) (.rf "head")
 |tailN {st}:Er cs sl .tail (st++ [.sc .non]) (.rf "tail")
 |head {j h t st}:cs[j]? =some (.pair h t)->Er cs sl .head (st++ [.cell j]) (.fr 1 sl (st++ [h]))
 |tail {j h t st}:cs[j]? =some (.pair h t)->Er cs sl .tail (st++ [.cell j]) (.fr 1 sl (st++ [t]))
 |emptyN {st}:Er cs sl .empty (st++ [.sc .non]) (.fr 1 sl (st++ [.sc (.bl true)]))
 |empty {j st}:Er cs sl .empty (st++ [.cell j]) (.fr 1 sl (st++ [.sc (.bl false)]))
 |not {b st}:Er cs sl .not (st++ [.sc (.bl b)]) (.fr 1 sl (st++ [.sc (.bl (!b))]))
 |skip {n st}:Er cs sl (.skip n) st (.fr (1+n) sl st)
 |unless {n b st}:Er cs sl (.unless n) (st++ [.sc (.bl b)]) (.fr (1+if b=true then 0 else n) sl st)
 |close {b n st xs}:xs.length=n->n<=10->Er cs sl (.close b n) (st++xs) (.new (.fn b xs) st)
noncomputable def FN(bs:List Bk)(f:Fr):Option Rw:=(bs[f.k]?).bind λb=>b.rows[f.at_]?
noncomputable def begun(n sz:Nat)(vs:List Vl):Fr:=⟨n,0,vs++List.replicate (sz - vs.length) (.sc .non),[]⟩
noncomputable def IP(w:Rw):Prop:=(∃b m,w=.call b m)\/w=.apply
inductive Act (bs:List Bk) (most:Nat) (cs:List Cl) (fs:List Fr) (f:Fr) (r c:Nat):Rw->Ms->Prop
 |own {rk d sl st}:Er cs f.sl rk f.st (.fr d sl st)->Act bs most cs fs f r c (.own rk) ⟨cs,fs++ [⟨f.k,f.at_+d,sl,st⟩],none,r+1,c⟩
 |new {rk cl st}:Er cs f.sl rk f.st (.new cl st)->Act bs most cs fs f r c (.own rk) ⟨cs++ [cl],fs++ [⟨f.k,f.at_+1,f.sl,st++ [.cell cs.length]⟩],none,r+1,c⟩
 |rf {rk w}:Er cs f.sl rk f.st (.rf w)->Act bs most cs fs f r c (.own rk) ⟨cs,[],some (.refused w),r+1,c⟩
 |last {v st}:fs=[]->f.st=st++ [v]->Act bs most cs fs f r c .back ⟨cs,[],some (.value v),r+1,c⟩
 |back {gs g v st}:fs=gs++ [g]->f.st=st++ [v]->Act bs most cs fs f r c .back ⟨cs,gs++ [⟨g.k,g.at_,g.sl,g.st++ [v]⟩],none,r+1,c⟩
 |dry {w}:IP w->most<=c->Act bs most cs fs f r c w ⟨cs,[],some .dry,r+1,c⟩
 |deep {w}:IP w->c<most->60<=fs.length+1->Act bs most cs fs f r c w ⟨cs,[],some .deep,r+1,c+1⟩
 |call {b bk st xs}:c<most->fs.length+1<60->f.st=st++xs->bs[b]? =some bk->xs.length<=bk.sz->Act bs most cs fs f r c (.call b xs.length) ⟨cs,fs++ [⟨f.k,f.at_+1,f.sl,st⟩]++ [begun b bk.sz xs],none,r+1,c+1⟩
 |apply {b bk st j xs x}:c<most->fs.length+1<60->f.st=st++ [.cell j,x]->cs[j]? =some (.fn (b:Nat) xs)->bs[b]? =some bk->xs.length+1<=bk.sz->
  Act bs most cs fs f r c .apply ⟨cs,fs++ [⟨f.k,f.at_+1,f.sl,st⟩]++ [begun b bk.sz (xs++ [x])],none,r+1,c+1⟩
noncomputable def UW(bs:List Bk)(most:Nat)(S S':Ms):Prop:=∃cs fs f r c w,S=⟨cs,fs++ [f],none,r,c⟩/\FN bs f=some w/\Act bs most cs fs f r c w S'
structure Small (S:Ms):Prop where
 cs:S.cs.length<=500
 frs:S.frs.length<=60
 fr:∀f∈S.frs,f.sl.length<=100/\f.st.length<=100
noncomputable def rwV:Rw->List V
 | .own rk=>rkV rk
 | .back=> [.str "back"]
 | .call b m=> [.str "call",.int (b:Nat),.int (m:Nat)]
 | .apply=> [.str "apply"]
noncomputable def RwAt(H:Hp)(r:Rw)(u:V):Prop:=∃p,u=.ref p/\H p=some (.tup (rwV r))
noncomputable def BAt(H:Hp)(b:Bk)(u:V):Prop:=∃t rs us,u=.ref t/\H t=some (.tup [.int (b.par:Nat),.int (b.sz:Nat),.ref rs])/\H rs=some (.tup us)/\All2 (RwAt H) b.rows us/\b.sz<=100
noncomputable def FAt(H:Hp)(f:Fr)(u:V):Prop:=∃p sl st,u=.ref p/\FrAt H p (f.k:Nat) (f.at_:Nat) sl st/\All2 (VAt H) f.sl sl/\All2 (VAt H) f.st st
noncomputable def OAt(H:Hp):Option Ou->V->Prop
 |none,u=>u=.non
 |some (.value x),u=>∃p v,u=.ref p/\H p=some (.tup [.str "value",v])/\VAt H x v
 |some (.refused w),u=>∃p,u=.ref p/\H p=some (.tup [.str "refused",.str w])
 |some .dry,u=>∃p,u=.ref p/\H p=some (.tup [.str "dry"])
 |some .deep,u=>∃p,u=.ref p/\H p=some (.tup [.str "deep"])
theorem RwAt.mo(m:Mo H H')(h:RwAt H r u):RwAt H' r u:=let⟨p,e,h1⟩:=h;⟨p,e,m _ _ h1⟩
theorem BAt.mo(m:Mo H H')(h:BAt H b u):BAt H' b u:=
 let⟨t,rs,us,e,h1,h2,h3,h4⟩:=h;⟨t,rs,us,e,m _ _ h1,m _ _ h2,h3.imp λ_ _ z=>RwAt.mo m z,h4⟩
theorem FAt.mo(m:Mo H H')(h:FAt H f u):FAt H' f u:=
 let⟨p,sl,st,e,⟨q,e',h1,h2,h3⟩,h4,h5⟩:=h;⟨p,sl,st,e,⟨q,e',m _ _ h1,m _ _ h2,m _ _ h3⟩,h4.imp λ_ _ z=>VAt.mo m z,h5.imp λ_ _ z=>VAt.mo m z⟩
theorem OAt.mo(m:Mo H H'):∀ {o:Option Ou} {u:V},OAt H o u->OAt H' o u
 |none,_,h=>h
 |some (.value _),_,⟨p,v,e,h1,h2⟩=>⟨p,v,e,m _ _ h1,VAt.mo m h2⟩
 |some (.refused _),_,⟨p,e,h1⟩=>⟨p,e,m _ _ h1⟩
 |some .dry,_,⟨p,e,h1⟩=>⟨p,e,m _ _ h1⟩
 |some .deep,_,⟨p,e,h1⟩=>⟨p,e,m _ _ h1⟩
structure Ad where
 m:Addr
 dx:Addr
 bl:Addr
 o:Addr
 L:Addr
 s:Addr
noncomputable def Ad.own(A:Ad):List Addr:=[A.m,A.bl,A.o,A.L,A.s]
noncomputable def J0(A:Ad)(most:Int)(out:V)(r c:Int):List (Str×V):=[("blocks",.ref A.bl),("most",.int most),("store",.ref A.o),("standing",.ref A.s),("outcome",out),("rows_so_far",.int r),("calls_so_far",.int c)]
structure MR (CM C:Addr) (H:Hp) (A:Ad) (bs us fs:List V) (most:Int) (out:V) (r c:Int):Prop where
 m:H A.m=some (.ins CM A.dx (J0 A most out r c))
 bl:H A.bl=some (.lst bs)
 o:CAt C H A.o A.L us
 s:H A.s=some (.lst fs)
 nLs:A.L≠A.s
 nbs:A.bl≠A.s
 nbL:A.bl≠A.L
structure MAt (CM C:Addr) (H:Hp) (A:Ad) (bs:List Bk) (most:Nat) (S:Ms):Prop where
 ex:∃vb us fs out,MR CM C H A vb us fs (most:Nat) out (S.r:Nat) (S.c:Nat)/\All2 (BAt H) bs vb/\All2 (ClAt H) S.cs us/\All2 (FAt H) S.frs fs/\OAt H S.out out
noncomputable def Kq(A:Ad)(H H':Hp):Prop:=∀b ob,H b=some ob->b∉A.own->H' b=some ob
theorem MR.ntup(h:MR CM C H A bs us fs most out r c){b:Addr}(e:H b=some (.tup xs)):b∉A.own:=λhm=>by
 obtain⟨dx,ho,hL⟩:=h.o;simp only[Ad.own,mem_cons,not_mem_nil,or_false]at hm;rcases hm with z|z|z|z|z<;>rw[z]at e
 ·rw[h.m]at e;cases e
 ·rw[h.bl]at e;cases e
 ·rw[ho]at e;cases e
 ·rw[hL]at e;cases e
 ·rw[h.s]at e;cases e
theorem MR.mo(h:MR CM C H A bs us fs most out r c)(k:Kq A H H'):Mo H H':=λ_ _ e=>k _ _ e (h.ntup e)
theorem MAt.same(h:MAt CM C H A bs most S)(s:Same H H'):MAt CM C H' A bs most S:=by
 obtain⟨vb,us,fs,a,h1,h2,h3,h4,h5⟩:=h.ex;have m:Mo H H':=B9 s;exact⟨vb,us,fs,a,⟨s _ _ h1.m,s _ _ h1.bl,h1.o.same s,s _ _ h1.s,h1.nLs,h1.nbs,h1.nbL⟩,h2.imp λ_ _ z=>BAt.mo m z,h3.imp λ_ _ z=>ClAt.mo m z,h4.imp λ_ _ z=>FAt.mo m z,h5.mo m⟩
inductive EoR (H:Hp):Eo2->Eo->Prop
 |fr {d sl st sl' st'}:All2 (VAt H) sl sl'->All2 (VAt H) st st'->EoR H (.fr d sl st) (.fr (d:Nat) sl' st')
 |rf {w}:EoR H (.rf w) (.rf w)
 |pair {x y st x' y' st'}:VAt H x x'->VAt H y y'->All2 (VAt H) st st'->EoR H (.new (.pair x y) st) (.pair st' x' y')
 |fn {b:Nat} {xs st xs' st'}:All2 (VAt H) xs xs'->xs.length<=10->All2 (VAt H) st st'->EoR H (.new (.fn (b:Nat) xs) st) (.fn st' b xs')
theorem E6{α β:Type}{R:α->β->Prop}:∀ {as bs:List α} {cs:List β},All2 R (as++bs) cs->∃ds es,cs=ds++es/\All2 R as ds/\All2 R bs es
 | [],bs,cs,h=>⟨[],cs,rfl,.nil,h⟩
 |a::as,bs,cs,h=>by
  cases h with
  |cons h1 h2=>
   obtain⟨ds,es,e,h3,h4⟩:=E6 h2;exact⟨_::ds,es,by rw[e];rfl,.cons h1 h3,h4⟩
theorem C9{α β:Type}{R:α->β->Prop}{as:List α}{a:α}{cs:List β}(h:All2 R (as++ [a]) cs):∃ds d,cs=ds++ [d]/\All2 R as ds/\R a d:=by
 obtain⟨ds,es,e,h1,h2⟩:=E6 h;cases h2 with
 |cons h3 h4=>cases h4;exact⟨ds,_,e,h1,h3⟩
theorem G5{α β:Type}{R:α->β->Prop}{as:List α}{bs:List β}(h:All2 R as bs):∀ {j:Nat} {a:α},as[j]? =some a->∃b,bs[j]? =some b/\R a b:=by
 induction h with
 |nil=>intro j a e;simp at e
 |cons h _ ih=>
  intro j a e;cases j with
  |zero=>simp only[List.getElem?_cons_zero,Option.some.injEq]at e;subst e;exact⟨_,rfl,h⟩
  |succ j=>simp only[List.getElem?_cons_succ]at e⊢;exact ih e
theorem AL{α β:Type}{R:α->β->Prop}{as:List α}{bs:List β}(h:All2 R as bs):∀n,All2 R (as.take n) (bs.take n):=by
 induction h with
 |nil=>intro n;simp only[List.take_nil];exact .nil
 |cons h _ ih=>
  intro n;cases n with
  |zero=>exact .nil
  |succ n=>exact .cons h (ih n)
theorem all2_drop{α β:Type}{R:α->β->Prop}{as:List α}{bs:List β}(h:All2 R as bs):∀n,All2 R (as.drop n) (bs.drop n):=by
 induction h with
 |nil=>intro n;simp only[List.drop_nil];exact .nil
 |cons h t ih=>
  intro n;cases n with
  |zero=>exact .cons h t
  |succ n=>exact ih n
theorem VAt.ns:∀ {x:Vl} {v:V},VAt H x v->NS H v
 | .sc x,v,⟨e,h⟩=>by
  subst e;cases v<;>first|exact .inl ⟨_,rfl⟩|exact .inr (.inl ⟨_,rfl⟩)|exact .inr (.inr (.inl rfl))|(cases h;done)
 | .cell k,v,⟨p,e,h⟩=> .inr (.inr (.inr ⟨p,_,e,h⟩))
theorem c2Z{cs:List Cl}{us sl':List V}{sl:List Vl}(hc:All2 (ClAt H) cs us)(hs:All2 (VAt H) sl sl'){st:List Vl}(h:Er cs sl rk st eo):∀ {st':List V},All2 (VAt H) st st'->∃eo',Ef H us sl' rk st' eo'/\EoR H eo eo':=by
 have n1:∀ {v:V},scV v=true->VAt H (.sc v) v:=λh=>⟨rfl,h⟩;cases h with
 |push h=>exact λ{st'} ht=>⟨_,.push (ND h),.fr hs (ht.app (.cons (n1 h) .nil))⟩
 |non=>exact λ{st'} ht=>⟨_,.non,.fr hs (ht.app (.cons (n1 rfl) .nil))⟩
 |load h=>
  intro st' ht;obtain⟨v',hv,hR⟩:=G5 hs h;exact⟨_,.load hv,.fr hs (ht.app (.cons hR .nil))⟩
 |keep h=>
  intro st' ht;obtain⟨ds,d,rfl,h1,h2⟩:=C9 ht;exact⟨_,.keep (by rw[<-hs.len];exact h),.fr (((AL hs _).app (.cons h2 .nil)).app (all2_drop hs _)) h1⟩
 |twoV h1 h2 h3 h4 h5=>
  intro st' ht;obtain⟨ds,es,rfl,t1,t2⟩:=E6 ht;cases t2 with
  |cons a1 t3=>
   cases t3 with
   |cons a2 t4=>
    cases t4;obtain⟨rfl,_⟩:=a1;obtain⟨rfl,_⟩:=a2;exact⟨_,.twoV h1 h2 h3 h4 (VAt.ns (n1 h5)),.fr hs (t1.app (.cons (n1 h5) .nil))⟩
 |twoR h1 h2 h3 h4=>
  intro st' ht;obtain⟨ds,es,rfl,t1,t2⟩:=E6 ht;cases t2 with
  |cons a1 t3=>
   cases t3 with
   |cons a2 t4=>
    cases t4;obtain⟨rfl,_⟩:=a1;obtain⟨rfl,_⟩:=a2;exact⟨_,.twoR h1 h2 h3 h4,.rf⟩
 |cons=>
  intro st' ht;obtain⟨ds,es,rfl,t1,t2⟩:=E6 ht;cases t2 with
  |cons a1 t3=>
   cases t3 with
   |cons a2 t4=>
    cases t4;exact⟨_,.cons,.pair a1 a2 t1⟩
 |headN=>
  intro st' ht;obtain⟨ds,d,rfl,h1,rfl,_⟩:=C9 ht;exact⟨_,.headN,.rf⟩
 |tailN=>
  intro st' ht;obtain⟨ds,d,rfl,h1,rfl,_⟩:=C9 ht;exact⟨_,.tailN,.rf⟩
 |head h=>
  intro st' ht;obtain⟨ds,d,rfl,h1,p,rfl,hp⟩:=C9 ht;obtain⟨u,hu,c,x,y,rfl,a,hx,hy⟩:=G5 hc h;exact⟨_,.head hp hu a (VAt.ns hx),.fr hs (h1.app (.cons hx .nil))⟩
 |tail h=>
  intro st' ht;obtain⟨ds,d,rfl,h1,p,rfl,hp⟩:=C9 ht;obtain⟨u,hu,c,x,y,rfl,a,hx,hy⟩:=G5 hc h;exact⟨_,.tail hp hu a (VAt.ns hy),.fr hs (h1.app (.cons hy .nil))⟩
 |emptyN=>
  intro st' ht;obtain⟨ds,d,rfl,h1,rfl,_⟩:=C9 ht;exact⟨_,.emptyN,.fr hs (h1.app (.cons (n1 rfl) .nil))⟩
 |empty=>
  intro st' ht;obtain⟨ds,d,rfl,h1,p,rfl,hp⟩:=C9 ht;exact⟨_,.empty hp,.fr hs (h1.app (.cons (n1 rfl) .nil))⟩
 |not=>
  intro st' ht;obtain⟨ds,d,rfl,h1,rfl,_⟩:=C9 ht;exact⟨_,.not,.fr hs (h1.app (.cons (n1 rfl) .nil))⟩
 |skip=>exact λ{st'} ht=>⟨_,.skip,.fr hs ht⟩
 | @«unless» n b st=>
  intro st' ht;obtain⟨ds,d,rfl,h1,rfl,_⟩:=C9 ht;refine⟨_,.unless, ?_⟩;have e:(1+if b=true then 0 else(n:Int))=((1+if b=true then 0 else n:Nat):Int):=by cases b<;>simp
  rw[e];exact .fr hs h1
 |close h h'=>
  intro st' ht;obtain⟨ds,es,rfl,t1,t2⟩:=E6 ht;exact⟨_,.close (by rw[<-t2.len];exact h),.fn t2 (by omega) t1⟩
end _M
namespace _M
open PySem _L _C _S
open _B hiding ifT ifF NoG top
seal PE PT PW PA PS PSs PTs PI _P PGs PO
noncomputable abbrev s_end:Stmt:=G3 (top 36) 5
noncomputable abbrev s_has_value:Stmt:=G3 (top 36) 9
noncomputable abbrev s_frames:Stmt:=G3 (top 36) 11
noncomputable abbrev s_cells:Stmt:=G3 (top 36) 12
noncomputable abbrev s_rows_done:Stmt:=G3 (top 36) 13
noncomputable abbrev s_calls:Stmt:=G3 (top 36) 14
noncomputable abbrev s_go_on:Stmt:=G3 (top 36) 2
noncomputable abbrev dFZ:List Str:=["self","outcome"]
theorem sc_end:FnScope dFZ SI (B6 s_end):=fS
noncomputable abbrev JO:List Str:=["self"]
theorem sc_has_value:FnScope JO G0 (B6 s_has_value):=fS
noncomputable abbrev WM:List Str:=["self"]
theorem sc_frames:FnScope WM G0 (B6 s_frames):=fS
noncomputable abbrev YY:List Str:=["self"]
theorem sc_cells:FnScope YY G0 (B6 s_cells):=fS
noncomputable abbrev JT:List Str:=["self"]
theorem sc_rows_done:FnScope JT G0 (B6 s_rows_done):=fS
noncomputable abbrev ZA:List Str:=["self"]
theorem sc_calls:FnScope ZA G0 (B6 s_calls):=fS
noncomputable abbrev ZK:List Str:=["self","told"]
theorem sc_go_on:FnScope ZK ajZ (B6 s_go_on):=fS
structure MCls (Z:FZ) (CM:Addr) (gf:Str->Addr) (gd:Str->FuncData):Prop where
 cl:Cls Z CM
 n1:NoAttr Z CM "blocks"
 n2:NoAttr Z CM "most"
 n3:NoAttr Z CM "store"
 n4:NoAttr Z CM "standing"
 n5:NoAttr Z CM "outcome"
 n6:NoAttr Z CM "rows_so_far"
 n7:NoAttr Z CM "calls_so_far"
 m_step:Meth Z CM "step" (gf "step")
 m_go_on:Meth Z CM "go_on" (gf "go_on")
 m_enter:Meth Z CM "enter" (gf "enter")
 m_leave:Meth Z CM "leave" (gf "leave")
 m_end:Meth Z CM "end" (gf "end")
 m_collect:Meth Z CM "collect" (gf "collect")
 m_hung_on:Meth Z CM "hung_on" (gf "hung_on")
 m_hang_on:Meth Z CM "hang_on" (gf "hang_on")
 m_has_value:Meth Z CM "has_value" (gf "has_value")
 m_answer:Meth Z CM "answer" (gf "answer")
 m_frames:Meth Z CM "frames" (gf "frames")
 m_cells:Meth Z CM "cells" (gf "cells")
 m_rows_done:Meth Z CM "rows_done" (gf "rows_done")
 m_calls:Meth Z CM "calls" (gf "calls")
 b_step:Binds Z (gd "step") G0 []
 b_go_on:Binds Z (gd "go_on") ajZ []
 b_enter:Binds Z (gd "enter") ZE []
 b_leave:Binds Z (gd "leave") CG []
 b_end:Binds Z (gd "end") SI []
 b_collect:Binds Z (gd "collect") G0 []
 b_hung_on:Binds Z (gd "hung_on") G0 []
 b_hang_on:Binds Z (gd "hang_on") aiZ []
 b_has_value:Binds Z (gd "has_value") G0 []
 b_answer:Binds Z (gd "answer") G0 []
 b_frames:Binds Z (gd "frames") G0 []
 b_cells:Binds Z (gd "cells") G0 []
 b_rows_done:Binds Z (gd "rows_done") G0 []
 b_calls:Binds Z (gd "calls") G0 []
section
theorem l1:(J0 A most out r c).lookup ("blocks":Str)=some (.ref A.bl):=by rfl
theorem l2:(J0 A most out r c).lookup ("most":Str)=some (.int most):=by rfl
theorem l3:(J0 A most out r c).lookup ("store":Str)=some (.ref A.o):=by rfl
theorem l4:(J0 A most out r c).lookup ("standing":Str)=some (.ref A.s):=by rfl
theorem l5:(J0 A most out r c).lookup ("outcome":Str)=some out:=by rfl
theorem l6:(J0 A most out r c).lookup ("rows_so_far":Str)=some (.int r):=by rfl
theorem l7:(J0 A most out r c).lookup ("calls_so_far":Str)=some (.int c):=by rfl
theorem lf:(J0 A most out r c).length<1000:=by show 7<1000;decide
theorem p3(o L:Addr):P4 ("store":Str) (.ref o) (J0 A most out r c)=J0 {A with o:=o,L:=L} most out r c:=by rfl
theorem p4(s:Addr):P4 ("standing":Str) (.ref s) (J0 A most out r c)=J0 {A with s:=s} most out r c:=by rfl
theorem p5(u:V):P4 ("outcome":Str) u (J0 A most out r c)=J0 A most u r c:=by rfl
theorem p6(n:Int):P4 ("rows_so_far":Str) (.int n) (J0 A most out r c)=J0 A most out n c:=by rfl
theorem p7(n:Int):P4 ("calls_so_far":Str) (.int n) (J0 A most out r c)=J0 A most out r n:=by rfl
theorem MR.same(h:MR CM C H A bs us fs most out r c)(s:Same H H'):MR CM C H' A bs us fs most out r c:=
 ⟨s _ _ h.m,s _ _ h.bl,h.o.same s,s _ _ h.s,h.nLs,h.nbs,h.nbL⟩
theorem MR.om(h:MR CM C H A bs us fs most out r c):A.o≠A.m:=λe=>by
 obtain⟨dx,ho,hL⟩:=h.o;have hm:=h.m;rw[e,hm]at ho;injection ho with ho
 injection ho with _ _ ho
 have:=congrArg List.length ho;simp[J0]at this
theorem MR.putM(h:MR CM C H A bs us fs most out r c)(r' c':Int)(out':V):MR CM C (upd H A.m (.ins CM A.dx (J0 A most out' r' c'))) A bs us fs most out' r' c':=by
 obtain⟨dx,ho,hL⟩:=h.o;have hm:=h.m;have n1:A.bl≠A.m:=λe=>by have:=h.bl;rw[e,hm]at this;cases this
 have n3:A.L≠A.m:=λe=>by rw[e,hm]at hL;cases hL
 have n4:A.s≠A.m:=λe=>by have:=h.s;rw[e,hm]at this;cases this
 exact⟨A7,by rw[B7 n1];exact h.bl,⟨dx,by rw[B7 h.om];exact ho,by rw[B7 n3];exact hL⟩,by rw[B7 n4];exact h.s,h.nLs,h.nbs,h.nbL⟩
theorem MR.putS(h:MR CM C H A bs us fs most out r c){s:Addr}(hs:H s=none):MR CM C (upd (upd H s (.lst gs)) A.m (.ins CM A.dx (J0 {A with s:=s} most out r c))) {A with s:=s} bs us gs most out r c:=by
 have t:=A8 hs (.lst gs);have g:=h.same t;obtain⟨dx,ho,hL⟩:=g.o;have hm:=g.m;have n1:A.bl≠A.m:=λe=>by have:=g.bl;rw[e,hm]at this;cases this
 have n3:A.L≠A.m:=λe=>by rw[e,hm]at hL;cases hL
 have n4:s≠A.m:=λe=>by rw[e,h.m]at hs;cases hs
 have n5:A.L≠s:=λe=>by obtain⟨_,_,a⟩:=h.o;rw[e,hs]at a;cases a
 have n6:A.bl≠s:=λe=>by have:=h.bl;rw[e,hs]at this;cases this
 exact⟨A7,by rw[B7 n1];exact g.bl,⟨dx,by rw[B7 g.om];exact ho,by rw[B7 n3];exact hL⟩,by rw[B7 n4];exact A7,n5,n6,h.nbL⟩
theorem MR.setS(h:MR CM C H A bs us fs most out r c):MR CM C (upd H A.s (.lst gs)) A bs us gs most out r c:=by
 obtain⟨dx,ho,hL⟩:=h.o;have n1:A.m≠A.s:=λe=>by have:=h.m;rw[e,h.s]at this;cases this
 have n2:A.o≠A.s:=λe=>by rw[e,h.s]at ho;cases ho
 exact⟨by rw[B7 n1];exact h.m,by rw[B7 h.nbs];exact h.bl,⟨dx,by rw[B7 n2];exact ho,by rw[B7 h.nLs];exact hL⟩,A7,h.nLs,h.nbs,h.nbL⟩
theorem AE(A:Ad):A.m∈A.own:=mem_cons_self ..
theorem aMZ(A:Ad):A.L∈A.own:=by simp[Ad.own]
theorem BO(A:Ad):A.s∈A.own:=by simp[Ad.own]
theorem Kq.refl(A:Ad)(H:Hp):Kq A H H:=λ_ _ e _=>e
theorem Kq.of(s:Same H H'):Kq A H H':=λb o e _=>s b o e
theorem Kq.updO{A:Ad}{b:Addr}(o:HO)(h:b∈A.own):Kq A H (upd H b o):=λx ob e n=>by rw[B7 (λz:x=b=>n (by rw[z];exact h))];exact e
theorem Kq.trans(h:Kq A H H1)(h':Kq A H1 H2):Kq A H H2:=λb o e n=>h' b o (h b o e n) n
noncomputable def New(A A':Ad)(H:Hp):Prop:=A'.m=A.m/\∀x∈A'.own,x∈A.own\/H x=none
inductive spEndW (CM C:Addr) (vs:List V) (H:Hp) (Q:VK):Prop
 |mk:∀(A:Ad) (bs us fs:List V) (most:Int) (out:V) (r c:Int) (u:V),(vs=[.ref A.m,u])->(MR CM C H A bs us fs most out r c)->(∀s H',H s=none->Kq A H H'->MR CM C H' {A with s:=s} bs us [] most u r c->Q .non H')->spEndW CM C vs H Q
noncomputable def OO(CM C:Addr):Sp:=λvs H Q _=>spEndW CM C vs H Q
theorem ok_end{gf:Str->Addr}{gd:Str->FuncData}(F:Fun Z "end" "Machine.end" s_end (gf "end") (gd "end"))(RM:MCls Z CM gf gd):FnOk P w Z mg base CX0 1 (gf "end") (gd "end") SI (OO CM C):=by
 refine F.om sc_end λe A b s H vs Q E hr h=> ?_;obtain⟨A,bs,us,fs,a,d,r,c,u,rfl,hM,q⟩:=h;have nd:=sc_end.nd;refine⟨_,(A9 (N2 (pv 0) (E7 B4) rfl)
   (B5 (N2 (pv 0) (pv 1) rfl))), ?_⟩
 refine⟨(by show 0<=sizeLine;decide),λs hs=>⟨_,rfl,A.m,CM,A.dx,_,rfl,(A8 hs _) _ _ hM.m,RM.cl,RM.n4,lf, ?_⟩⟩;rw[p4];have h1:=hM.putS (gs:=[]) hs;have k1:Kq A H (upd (upd H s (.lst [])) A.m (.ins CM A.dx (J0 {A with s:=s} a d r c))):=(Kq.of (A8 hs _)).trans (Kq.updO _ (AE A));refine⟨_,rfl,_,rfl,A.m,CM,A.dx,_,rfl,h1.m,RM.cl,RM.n5,lf, ?_⟩;rw[p5];exact q s _ hs (k1.trans (Kq.updO _ (AE A))) (h1.putM r c u)
noncomputable def OV(H:Hp)(u:V)(b:Bool):Prop:=(u=.non/\b=false)\/∃p w xs,u=.ref p/\H p=some (.tup (.str w::xs))/\b=decide (w="value")
noncomputable def U1:Option Ou->Bool
 |some (.value _)=>true
 |_=>false
theorem OAt.ov:∀ {o:Option Ou} {u:V},OAt H o u->OV H u (U1 o)
 |none,_,h=> .inl ⟨h,rfl⟩
 |some (.value _),_,⟨p,v,e,h1,h2⟩=> .inr ⟨p,_,_,e,h1,rfl⟩
 |some (.refused _),_,⟨p,e,h1⟩=> .inr ⟨p,_,_,e,h1,(show false=decide (("refused":Str)="value") by decide)⟩
 |some .dry,_,⟨p,e,h1⟩=> .inr ⟨p,_,_,e,h1,by decide⟩
 |some .deep,_,⟨p,e,h1⟩=> .inr ⟨p,_,_,e,h1,by decide⟩
inductive spHasVW (CM:Addr) (vs:List V) (H:Hp) (Q:VK):Prop
 |mk:∀(A:Ad) (most:Int) (out:V) (r c:Int) (b:Bool),(vs=[.ref A.m])->(H A.m=some (.ins CM A.dx (J0 A most out r c)))->(OV H out b)->(Q (.bl b) H)->spHasVW CM vs H Q
noncomputable def HL(CM:Addr):Sp:=λvs H Q _=>spHasVW CM vs H Q
theorem ok_has_value{gf:Str->Addr}{gd:Str->FuncData}(F:Fun Z "has_value" "Machine.has_value" s_has_value (gf "has_value") (gd "has_value"))(RM:MCls Z CM gf gd):FnOk P w Z mg base CX0 1 (gf "has_value") (gd "has_value") G0 (HL CM):=by
 refine F.om sc_has_value λg A a s H vs Q E hr h=> ?_;obtain⟨A,d,f,r,c,b,rfl,hm,ho,q⟩:=h;have nd:=sc_has_value.nd;have hu:=hr.units0;refine⟨_,(B5 (C2 (T4 (L6 OW (F5 (pv 0) rfl) K4 rfl) (Y3 (L6 (kEq (Z:=Z) hu) (ixE Z w (F5 (pv 0) rfl) B0) B8 rfl))))), ?_⟩;refine⟨_,rfl,A.m,CM,A.dx,_,_,rfl,hm,RM.cl,RM.n5,l5, ?_⟩;rcases ho with⟨rfl,rfl⟩|⟨p,w,xs,rfl,hp,rfl⟩
 ·exact⟨rfl,_,rfl,ifF (by simp) q⟩
 ·refine⟨rfl,_,rfl,ifT (by simp) ⟨_,rfl,A.m,CM,A.dx,_,_,rfl,hm,RM.cl,RM.n5,l5,(ixT (v:=.str w) hp (D4 (j:=0) rfl) (.inl ⟨rfl, ?_⟩))⟩⟩;have e:decide (V.str w=V.str "value")=decide (w="value"):=by simp
  rw[<-e]at q;exact q
inductive spFramesW (CM C:Addr) (vs:List V) (H:Hp) (Q:VK):Prop
 |mk:∀(A:Ad) (bs us fs:List V) (most:Int) (out:V) (r c:Int),(vs=[.ref A.m])->(MR CM C H A bs us fs most out r c)->(∀l,H l=none->Q (.ref l) (upd H l (.lst fs)))->spFramesW CM C vs H Q
noncomputable def KF(CM C:Addr):Sp:=λvs H Q _=>spFramesW CM C vs H Q
theorem ok_frames{gf:Str->Addr}{gd:Str->FuncData}(F:Fun Z "frames" "Machine.frames" s_frames (gf "frames") (gd "frames"))(B:NoG mg)(RM:MCls Z CM gf gd):FnOk P w Z mg base CX0 1 (gf "frames") (gd "frames") G0 (KF CM C):=by
 refine F.om sc_frames λe A a s H vs Q E hr h=> ?_;obtain⟨A,bs,us,fs,b,d,r,c,rfl,hM,q⟩:=h;have nd:=sc_frames.nd;refine⟨_,(B5 (C2 (F9 (P8 (Z:=Z)) rfl B.list_ J8 (A0 (F5 (pv 0) rfl) B4)))), ?_⟩;exact⟨_,rfl,A.m,CM,A.dx,_,_,rfl,hM.m,RM.cl,RM.n4,l4,A.s,fs,rfl,.inl (SqL.of hM.s),q⟩
inductive spCellsMW (CM C:Addr) (vs:List V) (H:Hp) (Q:VK):Prop
 |mk:∀(A:Ad) (bs us fs:List V) (most:Int) (out:V) (r c:Int),(vs=[.ref A.m])->(MR CM C H A bs us fs most out r c)->(∀l,H l=none->Q (.ref l) (upd H l (.lst us)))->spCellsMW CM C vs H Q
noncomputable def DS(CM C:Addr):Sp:=λvs H Q _=>spCellsMW CM C vs H Q
theorem ok_cells{gf:Str->Addr}{gd:Str->FuncData}(F:Fun Z "cells" "Machine.cells" s_cells (gf "cells") (gd "cells"))(RM:MCls Z CM gf gd)(RC:RCls Z C mf md)(bqZ:FnOk P w Z mg base CX0 1 (mf "told") (md "told") G0 (PF C)):FnOk P w Z mg base CX0 2 (gf "cells") (gd "cells") G0 (DS CM C):=by
 refine F.om sc_cells λe A a s H vs Q E hr h=> ?_;obtain⟨A,bs,us,fs,b,d,r,c,rfl,hM,q⟩:=h;have nd:=sc_cells.nd;obtain⟨dx,ho,hL⟩:=hM.o;refine⟨_,(B5 (C2 (mN (F5 (pv 0) rfl) RC.cl RC.m_told bqZ hr RC.b_told))), ?_⟩;exact⟨_,rfl,A.m,CM,A.dx,_,_,rfl,hM.m,RM.cl,RM.n3,l3,A.o,dx,_,rfl,ho,rfl,A.o,A.L,us,rfl,⟨dx,ho,hL⟩,q⟩
inductive spNumMW (CM C:Addr) (rows:Bool) (vs:List V) (H:Hp) (Q:VK):Prop
 |mk:∀(A:Ad) (most:Int) (out:V) (r c:Int),(vs=[.ref A.m])->(H A.m=some (.ins CM A.dx (J0 A most out r c)))->(Q (.int (if rows=true then r else c)) H)->spNumMW CM C rows vs H Q
noncomputable def JA(CM C:Addr)(rows:Bool):Sp:=λvs H Q _=>spNumMW CM C rows vs H Q
theorem ok_rows_done{gf:Str->Addr}{gd:Str->FuncData}(F:Fun Z "rows_done" "Machine.rows_done" s_rows_done (gf "rows_done") (gd "rows_done"))(RM:MCls Z CM gf gd):FnOk P w Z mg base CX0 1 (gf "rows_done") (gd "rows_done") G0 (JA CM C true):=by
 refine F.om sc_rows_done λe A a s H vs Q E hr h=> ?_;obtain⟨A,b,d,r,c,rfl,hM,q⟩:=h;have nd:=sc_rows_done.nd;refine⟨_,(B5 (C2 (F5 (pv 0) rfl))), ?_⟩;exact⟨_,rfl,A.m,CM,A.dx,_,_,rfl,hM,RM.cl,RM.n6,l6,q⟩
theorem ok_calls{gf:Str->Addr}{gd:Str->FuncData}(F:Fun Z "calls" "Machine.calls" s_calls (gf "calls") (gd "calls"))(RM:MCls Z CM gf gd):FnOk P w Z mg base CX0 1 (gf "calls") (gd "calls") G0 (JA CM C false):=by
 refine F.om sc_calls λe A a s H vs Q E hr h=> ?_;obtain⟨A,b,d,r,c,rfl,hM,q⟩:=h;have nd:=sc_calls.nd;refine⟨_,(B5 (C2 (F5 (pv 0) rfl))), ?_⟩;exact⟨_,rfl,A.m,CM,A.dx,_,_,rfl,hM,RM.cl,RM.n7,l7,q⟩
end
noncomputable abbrev s_leave:Stmt:=G3 (top 36) 4
noncomputable abbrev s_enter:Stmt:=G3 (top 36) 3
noncomputable abbrev arZ:List Str:=["self","value","below"]
theorem sc_leave:FnScope arZ CG (B6 s_leave):=fS
noncomputable abbrev anZ:List Str:=["self","frame","row","frames"]
theorem sc_enter:FnScope anZ ZE (B6 s_enter):=fS
theorem II{α:Type}(xs:List α)(x:α):ixN (xs++ [x]).length (-1)=some xs.length:=by
 unfold ixN;rw[if_neg (by decide),if_pos (by simp;omega)];congr 1;simp;omega
theorem DH{α:Type}(xs:List α)(x y:α):(xs++ [x]).set xs.length y=xs++ [y]:=by simp
section
inductive spGoOnW(CM C:Addr)(vs:List V)(H:Hp)(Q:VK):Prop
 |mk:∀(A:Ad) (bs us fs:List V) (most:Int) (out:V) (r c:Int) (p:Addr),(vs=[.ref A.m,.ref p])->(MR CM C H A bs us fs most out r c)->(((∃q fs0 f0,H p=some (.tup [.str "frame",.ref q])/\fs=fs0++ [f0]/\∀H',Kq A H H'->MR CM C H' A bs us (fs0++ [.ref q]) most out r c->Q .non H')\/(∃w,H p=some (.tup [.str "refused",.str w])/\∀s H',H s=none->Kq A H H'->MR CM C H' {A with s:=s} bs us [] most (.ref p) r c->Q .non H')))->spGoOnW CM C vs H Q
noncomputable def WP(CM C:Addr):Sp:=λvs H Q _=>spGoOnW CM C vs H Q
theorem ok_go_on{gf:Str->Addr}{gd:Str->FuncData}(F:Fun Z "go_on" "Machine.go_on" s_go_on (gf "go_on") (gd "go_on"))(RM:MCls Z CM gf gd)
  (FH:FnOk P w Z mg base CX0 1 (gf "end") (gd "end") SI (OO CM C)):FnOk P w Z mg base CX0 2 (gf "go_on") (gd "go_on") ajZ (WP CM C):=by
 refine F.om sc_go_on λg A d s H vs Q E hr h=> ?_;obtain⟨A,bs,us,fs,a,e,r,c,p,rfl,hM,h⟩:=h;have nd:=sc_go_on.nd;have hu:=hr.units0;refine⟨_,(B5 (D3 (D2 (C0 (kEq (Z:=Z) hu) (ixE Z w (pv 1) B0) B8 rfl) (B5 (L8 (ixE Z w (pv 1) B0) (N9 (F5 (pv 0) rfl) (L7 J1 B0) P1))) (B5 (C5 (mC (pv 0) RM.cl RM.m_end FH hr RM.b_end (A0 (pv 1) B4))))))), ?_⟩;refine⟨λ_ H'=>Q .non H', ?_,λ_ _ h=>h⟩;rcases h with⟨q,f,f0,hp,rfl,b⟩|⟨w,hp,b⟩
 ·refine⟨_,rfl,(ixT hp rfl (.inl ⟨rfl,_,rfl,ifT rfl ?_⟩))⟩;refine⟨_,rfl,(ixT hp rfl ?_)⟩;refine⟨_,rfl,A.m,CM,A.dx,_,_,rfl,hM.m,RM.cl,RM.n4,l4,_,rfl,A.s,_,_,f.length,rfl,rfl,hM.s,II _ _, ?_⟩;rw[DH];exact b _ (Kq.updO _ (BO A)) hM.setS
 ·refine⟨_,rfl,(ixT hp rfl (.inl ⟨rfl,_,rfl,ifF (by decide) ?_⟩))⟩;exact⟨_,rfl,A.m,A.dx,_,rfl,hM.m,rfl,_,rfl,A,bs,us,fs,a,e,r,c,_,rfl,hM,λs H' hs k h=>b s H' hs k h⟩
inductive spLeaveW (CM C:Addr) (vs:List V) (H:Hp) (Q:VK):Prop
 |mk:∀(A:Ad) (bs us fs:List V) (most:Int) (out:V) (r c:Int) (v:V),(vs=[.ref A.m,v])->(MR CM C H A bs us fs most out r c)->(((∃f,fs=[f]/\∀s p H',H s=none->Kq A H H'->MR CM C H' {A with s:=s} bs us [] most (.ref p) r c->H' p=some (.tup [.str "value",v])->Q .non H')\/(∃fs0 g f gk gat gsl gst,fs=fs0++ [.ref g]++ [f]/\FrAt H g gk gat gsl gst/\gst.length<=500/\∀g' H',Kq A H H'->MR CM C H' A bs us (fs0++ [.ref g']) most out r c->FrAt H' g' gk gat gsl (gst++ [v])->Q .non H')))->spLeaveW CM C vs H Q
noncomputable def OP(CM C:Addr):Sp:=λvs H Q _=>spLeaveW CM C vs H Q
theorem ok_leave{gf:Str->Addr}{gd:Str->FuncData}(F:Fun Z "leave" "Machine.leave" s_leave (gf "leave") (gd "leave"))(B:NoG mg)(RM:MCls Z CM gf gd)
  (FH:FnOk P w Z mg base CX0 1 (gf "end") (gd "end") SI (OO CM C)):FnOk P w Z mg base CX0 2 (gf "leave") (gd "leave") CG (OP CM C):=by
 refine F.om sc_leave λN A l s H vs Q E hr h=> ?_;obtain⟨A,bs,us,fs,d,u,r,c,v,rfl,hM,h⟩:=h;have nd:=sc_leave.nd;have hu:=hr.units0;have zz:(1000:Nat)<=sizeLine:=by decide
 refine⟨_,(A9 (D2 (C0 (kEq (Z:=Z) hu) (kL Z B.len_ (F5 (pv 0) rfl)) B0 rfl) (A9 (C5 (mC (pv 0) RM.cl RM.m_end FH hr RM.b_end (A0 (C3 (A0 B8 (A0 (pv 1) B4))) B4)))
   (B5 T3)) C4)
   (A9 (C5 (DL (Z:=Z) PySem.F.plainAttrs_list PySem.F.slot_list_pop PySem.F.type_list_pop Y0 (F5 (pv 0) rfl)))
   (A9 (sS 2 nd (ixE Z w (F5 (pv 0) rfl) (L7 J1 B0)))
   (B5 (L8 (C1 (K6 (Z:=Z)) (G1 (W0 (Z:=Z)) (pv 2) K5 (G2 B0)) (C3 (A0 (C1 (K6 (Z:=Z)) (ixE Z w (pv 2) B0) (C3 (A0 (pv 1) B4))) B4))) (N9 (F5 (pv 0) rfl) (L7 J1 B0) P1)))))), ?_⟩
 refine⟨_,rfl,A.m,CM,A.dx,_,_,rfl,hM.m,RM.cl,RM.n4,l4,_,_,rfl,.inl ⟨_,SqL.of hM.s,rfl⟩,.inl ⟨rfl,_,rfl, ?_⟩⟩;rcases h with⟨f,rfl,j⟩|⟨a,g,f,gk,o,M,L,rfl,hg,J,j⟩
 ·refine ifT (by simp) ?_;refine⟨_,rfl,A.m,A.dx,_,rfl,hM.m,rfl,_,rfl,(by show 2<=sizeLine;omega),λp hp=> ?_⟩;have t:=A8 hp (.tup [.str "value",v]);refine⟨A,bs,us,_,d,u,r,c,_,rfl,hM.same t,λs H' hs k h=>j s p H' (t.free hs) ((Kq.of t).trans k) h (k _ _ A7 ((hM.same t).ntup A7))⟩
 ·refine ifF (λz=>by have:=V.int.inj (of_decide_eq_true z);rw[length_append,length_append]at this;simp at this;omega) ?_;have I:(a++ [V.ref g]++ [f]).dropLast=a++ [V.ref g]:=dropLast_concat ..;refine⟨_,rfl,A.m,CM,A.dx,_,_,rfl,hM.m,RM.cl,RM.n4,l4,.inl ⟨rfl,_,SqL.of hM.s⟩,A.s,_,f,rfl,rfl,hM.s,by simp, ?_⟩;rw[I];have h1:=hM.setS (gs:=a++ [.ref g]);have k1:Kq A H (upd H A.s (.lst (a++ [.ref g]))):=Kq.updO _ (BO A);obtain⟨q0,e0,g1,g2,g3⟩:=hg;have mo:=hM.mo k1;replace g1:=mo _ _ g1;replace g2:=mo _ _ g2;replace g3:=mo _ _ g3;show K0 _ _ _ [some (.ref A.m),some v,none] (upd H A.s (.lst (a++ [.ref g])));generalize upd H A.s (.lst (a++ [.ref g]))=H1 at h1 k1 g1 g2 g3⊢;refine⟨_,rfl,A.m,CM,A.dx,_,_,rfl,h1.m,RM.cl,RM.n4,l4,_,rfl,(ixL (v:=.ref g) h1.s (L4 _ _) ?_)⟩;have ec:G8 [.int gk,.int o,.ref q0,.ref e0] none (some 3)=[.int gk,.int o,.ref q0]:=NB _ 3;refine⟨_,rfl,_,rfl,P5 g1 λra H2 s2 n=> ?_⟩;rw[ec]at n;refine⟨_,rfl,(ixT (s2 _ _ g1) rfl ⟨_,rfl,(by show 1<=sizeLine;omega),λpv G=> ?_⟩)⟩;have s3:=A8 G (.tup [v]);refine .inr (.inr (N5 (s3 _ _ (s2 _ _ g3)) A7 (by simp;omega) λrb H3 s4 y=>⟨(by show 1<=sizeLine;omega),λpw D=> ?_⟩));have s5:=A8 D (.tup [.ref rb]);have q:=s2.trans (s3.trans (s4.trans s5));have i:=(s3.trans (s4.trans s5)) _ _ n;refine .inr (.inr (N5 i A7 (by simp) λrc H4 s6 x=> ?_));have b:=q.trans s6;have h4:=h1.same b;refine⟨_,rfl,A.m,CM,A.dx,_,_,rfl,h4.m,RM.cl,RM.n4,l4,_,rfl,A.s,_,_,a.length,rfl,rfl,h4.s,II _ _, ?_⟩;rw[DH];have k5:Kq A H (upd H4 A.s (.lst (a++ [.ref rc]))):=k1.trans ((Kq.of b).trans (Kq.updO _ (BO A)));have e:=h4.mo (Kq.updO (.lst (a++ [.ref rc])) (BO A));exact j rc _ k5 h4.setS ⟨q0,rb,e _ _ x,e _ _ (b _ _ g2),e _ _ ((s5.trans s6) _ _ y)⟩
noncomputable def Cl2(H:Hp)(bs us:List V)(rw:Addr)(st bel:List V)(wh:Nat)(ys:List V)(sz:Nat):Prop:=
 (∃m:Nat,H rw=some (.tup [.str "call",.int (wh:Nat),.int (m:Nat)])/\m<=st.length/\BkAt H bs wh sz/\m<=sz/\sz<=500/\bel=st.take (st.length - m)/\ys=st.drop (st.length - m))\/
 (∃(cv:Addr) (x:V) (j:Nat) (fc vt:Addr) (xs:List V),H rw=some (.tup [.str "apply"])/\st=bel++ [.ref cv,x]/\H cv=some (.tup [.str "cell",.int (j:Nat)])/\us[j]? =some (.ref fc)/\H fc=some (.tup [.str "fn",.int (wh:Nat),.ref vt])/\H vt=some (.tup xs)/\BkAt H bs wh sz/\xs.length+1<=sz/\sz<=500/\ys=xs++ [x])
theorem Cl2.mo(m:Mo H H'){st:List V}(h:Cl2 H bs us rw st bel wh ys sz):Cl2 H' bs us rw st bel wh ys sz:=by
 rcases h with⟨k,h1,h2,h3,h4⟩|⟨cv,x,j,fc,vt,xs,h1,h2,h3,h4,h5,h6,h7,h8⟩
 ·exact .inl ⟨k,m _ _ h1,h2,h3.mono m,h4⟩
 ·exact .inr ⟨cv,x,j,fc,vt,xs,m _ _ h1,h2,m _ _ h3,h4,m _ _ h5,m _ _ h6,h7.mono m,h8⟩
inductive spEnterW (CM C:Addr) (vs:List V) (H:Hp) (Q:VK):Prop
 |mk:∀(A:Ad) (bs us fs0:List V) (most:Int) (out:V) (r c:Int) (fr rw:Addr),(vs=[.ref A.m,.ref fr,.ref rw])->(MR CM C H A bs us (fs0++ [.ref fr]) most out r c)->(fs0.length<=60)->(((most<=c/\∀s p H',H s=none->Kq A H H'->MR CM C H' {A with s:=s} bs us [] most (.ref p) r c->H' p=some (.tup [.str "dry"])->Q .non H')\/(c<most/\60<=fs0.length+1/\∀s p H',H s=none->Kq A H H'->MR CM C H' {A with s:=s} bs us [] most (.ref p) r (c+1)->H' p=some (.tup [.str "deep"])->Q .non H')\/(c<most/\fs0.length+1<60/\∃k at_ sl st bel wh ys sz,FrAt H fr k at_ sl st/\st.length<=500/\Cl2 H bs us rw st bel wh ys sz/\∀p1 p2 H',Kq A H H'->MR CM C H' A bs us (fs0++ [.ref p1]++ [.ref p2]) most out r (c+1)->FrAt H' p1 k (at_+1) sl bel->FrAt H' p2 wh 0 (ys++List.replicate (sz - ys.length) .non) []->Q .non H')))->spEnterW CM C vs H Q
noncomputable def PX(CM C:Addr):Sp:=λvs H Q _=>spEnterW CM C vs H Q
theorem ok_enter{gf:Str->Addr}{gd:Str->FuncData}(F:Fun Z "enter" "Machine.enter" s_enter (gf "enter") (gd "enter"))(B:NoG mg)(RM:MCls Z CM gf gd)(m_DEEPEST:∃t,mg "DEEPEST"=some (.int 60 t))
  (FH:FnOk P w Z mg base CX0 1 (gf "end") (gd "end") SI (OO CM C))
  (SZ:Cn P w Z mg base CX0 2 "called" cdZ (JP C)):
  FnOk P w Z mg base CX0 3 (gf "enter") (gd "enter") ZE (PX CM C):=by
 obtain⟨tk,m_DEEPEST⟩:=m_DEEPEST;refine F.om sc_enter λV A u s H vs Q E hr h=> ?_;obtain⟨A,bs,us,g,a,d,r,c,fr,rw,rfl,hM,T,h⟩:=h;have nd:=sc_enter.nd;have hu:=hr.units0;have zz:(1000:Nat)<=sizeLine:=by decide
 refine⟨_,(A9 (D2 (C0 a1Z (F5 (pv 0) rfl) (F5 (pv 0) rfl) rfl) (A9 (C5 (mC (pv 0) RM.cl RM.m_end FH hr RM.b_end (A0 (C3 (A0 B8 B4)) B4)))
   (B5 T3)) C4)
   (A9 (GF (pv 0) B0 UA)
   (A9 (D2 (C0 a1Z (kL Z B.len_ (F5 (pv 0) rfl)) (Z2 (v:=.int 60) rfl m_DEEPEST ⟨_,rfl⟩) rfl) (A9 (C5 (mC (pv 0) RM.cl RM.m_end FH hr RM.b_end (A0 (C3 (A0 B8 B4)) B4)))
   (B5 T3)) C4)
   (A9 (sS 3 nd (cC SZ hr (A0 (F5 (pv 0) rfl) (A0 (F5 (pv 0) rfl) (A0 (pv 1) (A0 (pv 2) B4))))))
   (A9 (L8 (ixE Z w (pv 3) B0) (N9 (F5 (pv 0) rfl) (L7 J1 B0) P1))
   (B5 (C5 (aP Z (F5 (pv 0) rfl) (ixE Z w (pv 3) B0))))))))), ?_⟩
 refine⟨_,rfl,A.m,CM,A.dx,_,_,rfl,hM.m,RM.cl,RM.n7,l7,_,rfl,A.m,CM,A.dx,_,_,rfl,hM.m,RM.cl,RM.n2,l2,_,_,rfl,rfl,_,rfl, ?_⟩;rcases h with⟨I,l⟩|h
 ·refine ifT (decide_eq_true I) ?_;refine⟨_,rfl,A.m,A.dx,_,rfl,hM.m,rfl,(by show 1<=sizeLine;omega),λp hp=> ?_⟩;have t:=A8 hp (.tup [.str "dry"]);exact⟨A,bs,us,_,a,d,r,c,_,rfl,hM.same t,λs H' hs k h=>l s p H' (t.free hs) ((Kq.of t).trans k) h (k _ _ A7 ((hM.same t).ntup A7))⟩
 have S:c<a:=by rcases h with⟨h,_⟩|⟨h,_⟩<;>exact h
 refine ifF (by rw[decide_eq_true_eq];show¬(a<=c);omega) ?_;refine⟨_,rfl,A.m,CM,A.dx,_,_,rfl,hM.m,RM.cl,RM.n7,l7,_,_,rfl,rfl,A.dx,_,hM.m,lf, ?_⟩;rw[p7];have h1:=hM.putM r (c+1) d;have k1:Kq A H (upd H A.m (.ins CM A.dx (J0 A a d r (c+1)))):=Kq.updO _ (AE A);have i:=hM.mo k1;have y:∀ {x:Addr},upd H A.m (.ins CM A.dx (J0 A a d r (c+1))) x=none->H x=none:=λ{x} e=>by
  by_cases z:x=A.m
  ·rw[z,A7]at e;cases e
  ·rw[B7 z]at e;exact e
 show K0 _ _ _ [some (.ref A.m),some (.ref fr),some (.ref rw),none] (upd H A.m (.ins CM A.dx (J0 A a d r (c+1))));generalize upd H A.m (.ins CM A.dx (J0 A a d r (c+1)))=H1 at h1 k1 i y⊢;refine⟨_,rfl,A.m,CM,A.dx,_,_,rfl,h1.m,RM.cl,RM.n4,l4,_,_,rfl,.inl ⟨_,SqL.of h1.s,rfl⟩,_,_,rfl,rfl,_,rfl, ?_⟩;rcases h with⟨_,R,l⟩|⟨_,R,k,n,sl,st,D,wh,ys,sz,hF,G,hC,l⟩
 ·refine ifT (decide_eq_true (by simp only[length_append,length_singleton];omega)) ?_;refine⟨_,rfl,A.m,A.dx,_,rfl,h1.m,rfl,(by show 1<=sizeLine;omega),λp hp=> ?_⟩;have t:=A8 hp (.tup [.str "deep"]);exact⟨A,bs,us,_,a,d,r,c+1,_,rfl,h1.same t,λs H' hs k h=>l s p H' (y (t.free hs)) (k1.trans ((Kq.of t).trans k)) h (k _ _ A7 ((h1.same t).ntup A7))⟩
 refine ifF (by rw[decide_eq_true_eq];simp only[length_append,length_singleton];omega) ?_;have U:=hF;obtain⟨q0,e0,g1,g2,g3⟩:=hF;have N:FrAt H1 fr k n sl st:=⟨q0,e0,i _ _ g1,i _ _ g2,i _ _ g3⟩;have O:=hC.mo i;refine⟨_,rfl,A.m,CM,A.dx,_,_,rfl,h1.m,RM.cl,RM.n1,l1,_,rfl,A.m,CM,A.dx,_,_,rfl,h1.m,RM.cl,RM.n3,l3,_,rfl,_,rfl, ?_⟩;refine⟨A.bl,bs,A.o,A.L,us,fr,k,n,sl,st,rw,rfl,h1.bl,h1.o,N,G, ?_⟩;suffices q:Two H1 _ k n sl D wh ys sz from by
  rcases O with⟨m,a1,a2,a3,a4,a5,e1,e2⟩|⟨cv,x,j,fc,vt,xs,b1,b2,b3,b4,b5,b6,b7,b8,b9,e2⟩
  ·subst e1 e2;exact .inl ⟨wh,m,sz,a1,a2,a3,a4,a5,q⟩
  ·subst e2;exact .inr ⟨wh,sz,D,cv,x,j,fc,vt,xs,b1,b2,b3,b4,b5,b6,b7,b8,b9,q⟩
 intro p p1 p2 H2 s2 hp M J;have h2:=h1.same s2;refine⟨_,rfl,(ixT hp rfl ?_)⟩;refine⟨_,rfl,A.m,CM,A.dx,_,_,rfl,h2.m,RM.cl,RM.n4,l4,_,rfl,A.s,_,_,g.length,rfl,rfl,h2.s,II _ _, ?_⟩;rw[DH];have h3:=h2.setS (gs:=g++ [.ref p1]);have k3:Kq A H2 (upd H2 A.s (.lst (g++ [.ref p1]))):=Kq.updO _ (BO A);have b:=h2.mo k3;show K0 _ _ _ [some (.ref A.m),some (.ref fr),some (.ref rw),some (.ref p)] (upd H2 A.s (.lst (g++ [.ref p1])));generalize upd H2 A.s (.lst (g++ [.ref p1]))=H3 at h3 k3 b⊢;refine⟨_,rfl,A.m,CM,A.dx,_,_,rfl,h3.m,RM.cl,RM.n4,l4,.inl ⟨rfl,_,SqL.of h3.s⟩,_,rfl,(ixT (b _ _ hp) rfl ⟨A.s,_,_,rfl,rfl,h3.s,by simp;omega, ?_⟩)⟩;have k4:Kq A H3 (upd H3 A.s (.lst (g++ [.ref p1]++ [.ref p2]))):=Kq.updO _ (BO A);have f:=h3.mo k4;obtain⟨a1,a2,a3,a4,a5⟩:=M;obtain⟨b1,b2,b3,b4,b5⟩:=J;exact l p1 p2 _ (k1.trans ((Kq.of s2).trans (k3.trans k4))) h3.setS ⟨a1,a2,f _ _ (b _ _ a3),f _ _ (b _ _ a4),f _ _ (b _ _ a5)⟩ ⟨b1,b2,f _ _ (b _ _ b3),f _ _ (b _ _ b4),f _ _ (b _ _ b5)⟩
end
noncomputable abbrev s_step:Stmt:=G3 (top 36) 1
noncomputable abbrev b7Z:List Str:=["self","frame","row"]
theorem sc_step:FnScope b7Z G0 (B6 s_step):=fS
noncomputable def J9:List Str:=["push","none","load","keep","add","sub","mul","div","less","same","cons","head","tail","empty","not","skip","unless","close"]
theorem VQ:∀w∈J9,w≠ "back"/\inV (.str w) [.str "call",.str "apply"]=false:=by decide +kernel
theorem bMZ(k:Nat):wd k∈J9:=by
 match k with
 |0=>decide +kernel
 |1=>decide +kernel
 |2=>decide +kernel
 |3=>decide +kernel
 |4=>decide +kernel
 |n+5=>show("div":Str)∈J9;decide +kernel
theorem aeZ(rk:Rk):T8 rk∈J9:=by
 cases rk with
 |push _=>exact(by decide +kernel:("push":Str)∈J9)
 |non=>exact(by decide +kernel:("none":Str)∈J9)
 |load _=>exact(by decide +kernel:("load":Str)∈J9)
 |keep _=>exact(by decide +kernel:("keep":Str)∈J9)
 |two k=>exact bMZ k
 |cons=>exact(by decide +kernel:("cons":Str)∈J9)
 |head=>exact(by decide +kernel:("head":Str)∈J9)
 |tail=>exact(by decide +kernel:("tail":Str)∈J9)
 |empty=>exact(by decide +kernel:("empty":Str)∈J9)
 |not=>exact(by decide +kernel:("not":Str)∈J9)
 |skip _=>exact(by decide +kernel:("skip":Str)∈J9)
 |«unless» _=>exact(by decide +kernel:("unless":Str)∈J9)
 |close _ _=>exact(by decide +kernel:("close":Str)∈J9)
theorem TV(rk:Rk):T8 rk≠ "back"/\inV (.str (T8 rk)) [.str "call",.str "apply"]=false:=VQ _ (aeZ rk)
theorem Z6:∀n:Nat,All2 (VAt H) (List.replicate n (.sc .non)) (List.replicate n .non)
 |0=> .nil
 |n+1=> .cons ⟨rfl,rfl⟩ (Z6 n)
theorem MR.bt(h:MR CM C H A bs us fs most out r c)(b:Bt A.L H H')(hc:CAt C H' A.o A.L us'):MR CM C H' A bs us' fs most out r c:=by
 obtain⟨dx,ho,hL⟩:=h.o;exact⟨b _ _ h.m (λe=>by have:=h.m;rw[e,hL]at this;cases this),b _ _ h.bl h.nbL,hc,b _ _ h.s (Ne.symm h.nLs),h.nLs,h.nbs,h.nbL⟩
theorem Kq.bt{A:Ad}(b:Bt A.L H H'):Kq A H H':=λx o e n=>b x o e λz=>n (by rw[z];exact aMZ A)
theorem FrAt.mo'(m:Mo H H'){st:List V}(h:FrAt H p k a sl st):FrAt H' p k a sl st:=by
 obtain⟨q,e,h1,h2,h3⟩:=h;exact⟨q,e,m _ _ h1,m _ _ h2,m _ _ h3⟩
section
inductive spStepW(CM C:Addr)(vs:List V)(H:Hp)(Q:VK):Prop
 |mk:∀(A:Ad) (bs:List Bk) (most:Nat) (S:Ms),(vs=[.ref A.m])->(MAt CM C H A bs most S)->(Small S)->(((S.frs=[]/\Q (.bl false) H)\/∃S',UW bs most S S'/\∀A' H',New A A' H->Kq A H H'->MAt CM C H' A' bs most S'->Q (.bl true) H'))->spStepW CM C vs H Q
noncomputable def IS(CM C:Addr):Sp:=λvs H Q _=>spStepW CM C vs H Q
theorem ok_step{gf:Str->Addr}{gd:Str->FuncData}(F:Fun Z "step" "Machine.step" s_step (gf "step") (gd "step"))(RM:MCls Z CM gf gd)
  (XV:FnOk P w Z mg base CX0 2 (gf "leave") (gd "leave") CG (OP CM C))
  (XL:FnOk P w Z mg base CX0 3 (gf "enter") (gd "enter") ZE (PX CM C))
  (XO:FnOk P w Z mg base CX0 2 (gf "go_on") (gd "go_on") ajZ (WP CM C))
  (LN:Cn P w Z mg base CX0 4 "own_done" QW (aNZ C)):
  FnOk P w Z mg base CX0 5 (gf "step") (gd "step") G0 (IS CM C):=by
 refine F.om sc_step λcm A bf s H vs Q E hr h=> ?_;obtain⟨A,bs,D,S,rfl,hA,hS,h⟩:=h;obtain⟨vb,us,vf,cg,hM,hB,hC,hF,hO⟩:=hA.ex;have nd:=sc_step.nd;have hu:=hr.units0;have zz:(1000:Nat)<=sizeLine:=by decide
 refine⟨_,(A9 (D2 (L9 (E9 (Z:=Z) (F5 (pv 0) rfl) (λ_=>rfl))) (B5 (C2 O3)) C4)
   (A9 (GF (pv 0) B0 UA)
   (A9 (sS 1 nd (ixE Z w (F5 (pv 0) rfl) (L7 J1 B0)))
   (A9 (sS 2 nd (ixE Z w (ixE Z w (ixE Z w (F5 (pv 0) rfl) (ixE Z w (pv 1) B0)) B0) (ixE Z w (pv 1) B0)))
   (A9 (D3 (D2 (C0 (kEq (Z:=Z) hu) (ixE Z w (pv 2) B0) B8 rfl) (B5 (C5 (mC (pv 0) RM.cl RM.m_leave XV hr RM.b_leave (A0 (ixE Z w (ixE Z w (pv 1) B0) (L7 J1 B0)) B4)))) (B5 (D3 (D2 (C0 (kIn (Z:=Z) (w:=w)) (ixE Z w (pv 2) B0) (C3 (A0 B8 (A0 B8 B4))) rfl) (B5 (C5 (mC (pv 0) RM.cl RM.m_enter XL hr RM.b_enter (A0 (pv 1) (A0 (pv 2) B4))))) (B5 (C5 (mC (pv 0) RM.cl RM.m_go_on XO hr RM.b_go_on (A0 (cC LN hr (A0 (F5 (pv 0) rfl) (A0 (pv 1) (A0 (pv 2) B4)))) B4)))))))))
   (B5 (C2 O3))))))), ?_⟩
 refine⟨_,rfl,A.m,CM,A.dx,_,_,rfl,hM.m,RM.cl,RM.n4,l4,_,.inl ⟨_,SqL.of hM.s,rfl⟩, ?_⟩;rcases h with⟨he,q⟩|⟨S',⟨cs,fs,f,r,c,be,rfl,af,M⟩,q⟩
 ·rw[he]at hF;cases hF;exact ifT rfl q
 simp only at hC hF hO hM;obtain⟨ab,cf,rfl,N,p0,sl,st,rfl,⟨q0,e0,g1,g2,g3⟩,Y,G⟩:=C9 hF;refine ifF (by simp) ?_;obtain rfl:=hO;refine⟨_,rfl,A.m,CM,A.dx,_,_,rfl,hM.m,RM.cl,RM.n6,l6,_,_,rfl,rfl,A.dx,_,hM.m,lf, ?_⟩;rw[p6];have h1:=hM.putM ((r:Nat)+1) (c:Nat) .non;have k1:Kq A H (upd H A.m (.ins CM A.dx (J0 A (D:Nat) .non ((r:Nat)+1) (c:Nat)))):=Kq.updO _ (AE A);have R:=hM.mo k1;have bm:∀ {x:Addr},upd H A.m (.ins CM A.dx (J0 A (D:Nat) .non ((r:Nat)+1) (c:Nat))) x=none->H x=none:=λ{x} e=>by
  by_cases z:x=A.m
  ·rw[z,A7]at e;cases e
  ·rw[B7 z]at e;exact e
 show K0 _ _ _ [some (.ref A.m),none,none] (upd H A.m (.ins CM A.dx (J0 A (D:Nat) .non ((r:Nat)+1) (c:Nat))));generalize upd H A.m (.ins CM A.dx (J0 A (D:Nat) .non ((r:Nat)+1) (c:Nat)))=H1 at h1 k1 R bm⊢;have er:((r:Nat):Int)+1=((r+1:Nat):Int):=by omega
 have ec:((c:Nat):Int)+1=((c+1:Nat):Int):=by omega
 rw[er]at h1;replace g1:=R _ _ g1;replace g2:=R _ _ g2;replace g3:=R _ _ g3;replace hB:=hB.imp λ_ _ z=>BAt.mo R z;replace hC:=hC.imp λ_ _ z=>ClAt.mo R z;replace N:=N.imp λ_ _ z=>FAt.mo R z;replace Y:=Y.imp λ_ _ z=>VAt.mo R z;replace G:=G.imp λ_ _ z=>VAt.mo R z;have ba:FrAt H1 p0 (f.k:Nat) (f.at_:Nat) sl st:=⟨q0,e0,g1,g2,g3⟩;refine⟨_,rfl,A.m,CM,A.dx,_,_,rfl,h1.m,RM.cl,RM.n4,l4,_,rfl,(ixL (v:=.ref p0) h1.s (L4 _ _) ?_)⟩;obtain⟨bk,b4,b0⟩:∃bk,bs[f.k]? =some bk/\bk.rows[f.at_]? =some be:=by
  unfold FN at af;obtain⟨bk,h1,h2⟩:=Option.bind_eq_some_iff.mp af;exact⟨bk,h1,h2⟩
 obtain⟨u,bz,tb,rs,ur,rfl,b7,b6,b5,ck⟩:=G5 hB b4;obtain⟨v,hv,al,rfl,n⟩:=G5 b5 b0;refine⟨_,rfl,A.m,CM,A.dx,_,_,rfl,h1.m,RM.cl,RM.n1,l1,_,rfl,(ixT g1 rfl (ixL (v:=.ref tb) h1.bl (D4 bz) (ixT b7 rfl ⟨_,rfl,(ixT g1 rfl (ixT (v:=.ref al) b6 (D4 hv) ?_))⟩)))⟩;refine⟨λ_ H'=>Q (.bl true) H', ?_,λ_ _ h=>h⟩;have bd:=hS.fr f (by simp);have bp:=hS.cs;have ci:=Y.len;have ch:=G.len;have bg:=hC.len;have cj:=N.len;have bo:=hS.frs;simp only[length_append,length_singleton]at bo bp;have I:∀ {A':Ad} {H':Hp} {ak ao:List V} {O:V} {S1:Ms},A'.m=A.m->(∀x∈A'.own,x∈A.own\/H1 x=none)->Kq A H1 H'->MR CM C H' A' vb ak ao (D:Nat) O (S1.r:Nat) (S1.c:Nat)->All2 (ClAt H') S1.cs ak->All2 (FAt H') S1.frs ao->OAt H' S1.out O->(∀A' H',New A A' H->Kq A H H'->MAt CM C H' A' bs D S1->Q (.bl true) H')->Q (.bl true) H':=λ{A' H' ak ao O S1} e1 e2 k2 h2 h3 h4 h5 q=>
  q A' H' ⟨e1,λx hx=>(e2 x hx).imp id bm⟩ (k1.trans k2) ⟨vb,ak,ao,O,h2,hB.imp λ_ _ z=>BAt.mo (h1.mo k2) z,h3,h4,h5⟩
 have B:∀(s:Addr),H1 s=none->∀x∈({A with s:=s}:Ad).own,x∈A.own\/H1 x=none:=λs hs x hx=>by
  simp only[Ad.own,mem_cons,not_mem_nil,or_false]at hx⊢;rcases hx with z|z|z|z|z
  ·exact .inl (.inl z)
  ·exact .inl (.inr (.inl z))
  ·exact .inl (.inr (.inr (.inl z)))
  ·exact .inl (.inr (.inr (.inr (.inl z))))
  ·exact .inr (by rw[z];exact hs)
 cases be with
 |own rk=>
  obtain⟨bw,bv⟩:=TV rk;have hE:∃eo,Er cs f.sl rk f.st eo/\(match eo with
   | .fr d sl st=>S'=⟨cs,fs++ [⟨f.k,f.at_+d,sl,st⟩],none,r+1,c⟩
   | .new cl st=>S'=⟨cs++ [cl],fs++ [⟨f.k,f.at_+1,f.sl,st++ [.cell cs.length]⟩],none,r+1,c⟩
   | .rf w=>S'=⟨cs,[],some (.refused w),r+1,c⟩):=by
   cases M with
   |own h=>exact⟨_,h,rfl⟩
   |new h=>exact⟨_,h,rfl⟩
   |rf h=>exact⟨_,h,rfl⟩
   |dry h _=>rcases h with⟨_,_,h⟩|h<;>cases h
   |deep h _ _=>rcases h with⟨_,_,h⟩|h<;>cases h
  obtain⟨eo,ca,i⟩:=hE;refine⟨_,rfl,(ixT (v:=.str (T8 rk)) n (UG rk) (.inl ⟨rfl,_,rfl,ifF (λz=>bw (V.str.inj (of_decide_eq_true z))) ?_⟩))⟩;refine⟨λ_ H'=>Q (.bl true) H', ?_,λ_ _ h=>h⟩;refine⟨_,rfl,(ixT (v:=.str (T8 rk)) n (UG rk) ⟨(by show 2<=sizeLine;omega),λt1 ae=> .inr (.inl ⟨t1,_,rfl,.inr (SqT.of A7),rfl,rfl,_,rfl,ifF (λz=>by rw[show(if false=true then !inV (.str (T8 rk)) [.str "call",.str "apply"]else inV (.str (T8 rk)) [.str "call",.str "apply"])=false from bv]at z;cases z) ?_⟩)⟩)⟩;have s2:=A8 ae (.tup [.str "call",.str "apply"]);generalize upd H1 t1 (.tup [.str "call",.str "apply"])=H2 at s2⊢;have X:Mo H1 H2:=B9 s2;have h2:=h1.same s2;have cd:=hC.imp λ_ _ z=>ClAt.mo X z;have ax:=Y.imp λ_ _ z=>VAt.mo X z;have aw:=G.imp λ_ _ z=>VAt.mo X z;obtain⟨ce,cb,hR⟩:=c2Z cd ax ca aw;refine⟨_,rfl,A.m,A.dx,_,rfl,h2.m,rfl,_,rfl,A.m,CM,A.dx,_,_,rfl,h2.m,RM.cl,RM.n3,l3,_,rfl,_,rfl, ?_⟩;refine⟨A.o,A.L,us,p0,_,_,sl,st,al,rk,ce,rfl,h2.o,by omega,FrAt.mo' X ba,by omega,by omega,s2 _ _ n,cb, ?_⟩;cases hR with
  | @fr d sl1 st1 sl2 st2 hs' ht'=>
   simp only at i;subst i;intro p q1 H3 s3 hp hq;have W:=s2.trans s3;have h3:=h1.same W;refine⟨A,vb,us,_,_,_,_,_,p,rfl,h3,.inl ⟨q1,ab,.ref p0,hp,rfl,λH4 k4 h4=> ?_⟩⟩;have a:=h3.mo k4;have l:Mo H1 H4:=λb xs e=>a _ _ (W _ _ e);have t:Mo H2 H4:=λb xs e=>a _ _ (s3 _ _ e);have e:((f.at_+d:Nat):Int)=(f.at_:Nat)+(d:Nat):=by omega
   refine I rfl (λx hx=> .inl hx) ((Kq.of W).trans k4) h4 ?_ ?_ ?_ q
   ·exact hC.imp λ_ _ z=>ClAt.mo l z
   ·exact(N.imp λ_ _ z=>FAt.mo l z).app (.cons ⟨q1,sl2,st2,rfl,by rw[e];exact FrAt.mo' a hq,hs'.imp λ_ _ z=>VAt.mo t z,ht'.imp λ_ _ z=>VAt.mo t z⟩ .nil)
   ·rfl
  | @rf w=>
   simp only at i;subst i;intro p H3 s3 hp;have W:=s2.trans s3;have h3:=h1.same W;refine⟨A,vb,us,_,_,_,_,_,p,rfl,h3,.inr ⟨w,hp,λs4 H4 J k4 h4=> ?_⟩⟩;have a:=h3.mo k4;have l:Mo H1 H4:=λb xs e=>a _ _ (W _ _ e);refine I (A':={A with s:=s4}) rfl (B s4 (W.free J)) ((Kq.of W).trans k4) h4 ?_ ?_ ?_ q
   ·exact hC.imp λ_ _ z=>ClAt.mo l z
   ·exact .nil
   ·exact⟨p,rfl,a _ _ hp⟩
  | @pair x y st1 x' y' st2 hx hy ht'=>
   simp only at i;subst i;intro p q1 cc cv H3 b3 a6 a5 ai hp hq;have h3:=h2.bt b3 a6;have ac:Kq A H1 H3:=(Kq.of s2).trans (Kq.bt b3);refine⟨A,vb,_,_,_,_,_,_,p,rfl,h3,.inl ⟨q1,ab,.ref p0,hp,rfl,λH4 k4 h4=> ?_⟩⟩;have a:=h3.mo k4;have l:Mo H1 H4:=h1.mo (ac.trans k4);have t:Mo H2 H4:=h2.mo ((Kq.bt b3).trans k4);have e:((f.at_+1:Nat):Int)=(f.at_:Nat)+1:=by omega
   refine I rfl (λx hx=> .inl hx) (ac.trans k4) h4 ?_ ?_ ?_ q
   ·exact(hC.imp λ_ _ z=>ClAt.mo l z).app (.cons ⟨cc,x',y',rfl,a _ _ a5,hx.mo t,hy.mo t⟩ .nil)
   ·exact(N.imp λ_ _ z=>FAt.mo l z).app (.cons ⟨q1,sl,st2++ [.ref cv],rfl,by rw[e];exact FrAt.mo' a hq,Y.imp λ_ _ z=>VAt.mo l z,(ht'.imp λ_ _ z=>VAt.mo t z).app (.cons ⟨cv,rfl,by rw[bg];exact a _ _ ai⟩ .nil)⟩ .nil)
   ·rfl
  | @fn b xs st1 aj st2 am ad ht'=>
   simp only at i;subst i;intro p q1 cc cv vt H3 b3 a6 a5 au ai hp hq;have h3:=h2.bt b3 a6;have ac:Kq A H1 H3:=(Kq.of s2).trans (Kq.bt b3);refine⟨A,vb,_,_,_,_,_,_,p,rfl,h3,.inl ⟨q1,ab,.ref p0,hp,rfl,λH4 k4 h4=> ?_⟩⟩;have a:=h3.mo k4;have l:Mo H1 H4:=h1.mo (ac.trans k4);have t:Mo H2 H4:=h2.mo ((Kq.bt b3).trans k4);have e:((f.at_+1:Nat):Int)=(f.at_:Nat)+1:=by omega
   refine I rfl (λx hx=> .inl hx) (ac.trans k4) h4 ?_ ?_ ?_ q
   ·exact(hC.imp λ_ _ z=>ClAt.mo l z).app (.cons ⟨cc,vt,aj,rfl,a _ _ a5,a _ _ au,am.imp λ_ _ z=>VAt.mo t z,ad⟩ .nil)
   ·exact(N.imp λ_ _ z=>FAt.mo l z).app (.cons ⟨q1,sl,st2++ [.ref cv],rfl,by rw[e];exact FrAt.mo' a hq,Y.imp λ_ _ z=>VAt.mo l z,(ht'.imp λ_ _ z=>VAt.mo t z).app (.cons ⟨cv,rfl,by rw[bg];exact a _ _ ai⟩ .nil)⟩ .nil)
   ·rfl
 |back=>
  refine⟨_,rfl,(ixT n rfl (.inl ⟨rfl,_,rfl,ifT rfl ?_⟩))⟩;have hv:∃ds d x bc,st=ds++ [d]/\f.st=bc++ [x]/\VAt H1 x d:=by
   cases M with
   |last _ h=>rw[h]at G;obtain⟨ds,d,e,_,h2⟩:=C9 G;exact⟨ds,d,_,_,e,h,h2⟩
   |back _ h=>rw[h]at G;obtain⟨ds,d,e,_,h2⟩:=C9 G;exact⟨ds,d,_,_,e,h,h2⟩
   |dry h _=>rcases h with⟨_,_,h⟩|h<;>cases h
   |deep h _ _=>rcases h with⟨_,_,h⟩|h<;>cases h
  obtain⟨ds,d,x,bc,rfl,T,bh⟩:=hv;refine⟨_,rfl,A.m,A.dx,_,rfl,h1.m,rfl,_,rfl,(ixT g1 rfl ⟨_,rfl,(ixT (v:=d) g3 (L4 _ _) ?_)⟩)⟩;refine⟨A,vb,us,_,_,_,_,_,d,rfl,h1, ?_⟩;cases M with
  |last az h=>
   rw[h]at T;obtain⟨_,ar⟩:=List.append_inj' T rfl;cases ar;subst az;cases N;refine .inl ⟨.ref p0,rfl,λs4 p H4 J k4 h4 U=> ?_⟩;have a:=h1.mo k4;refine I (A':={A with s:=s4}) rfl (B s4 J) k4 h4 ?_ ?_ ?_ q
   ·exact hC.imp λ_ _ z=>ClAt.mo a z
   ·exact .nil
   ·exact⟨p,d,rfl,U,bh.mo a⟩
  | @back gs g v st1 az h=>
   rw[h]at T;obtain⟨_,ar⟩:=List.append_inj' T rfl;cases ar;subst az;obtain⟨vg,u,rfl,b8,pg,bj,bi,rfl,b9,ay,ah⟩:=C9 N;have sg:=hS.fr g (by simp);have bu:=ah.len;refine .inr ⟨vg,pg,.ref p0,_,_,bj,bi,rfl,b9,by omega,λg' H4 k4 h4 b2=> ?_⟩;have a:=h1.mo k4;refine I rfl (λx hx=> .inl hx) k4 h4 ?_ ?_ ?_ q
   ·exact hC.imp λ_ _ z=>ClAt.mo a z
   ·exact(b8.imp λ_ _ z=>FAt.mo a z).app (.cons ⟨g',bj,bi++ [d],rfl,b2,ay.imp λ_ _ z=>VAt.mo a z,(ah.imp λ_ _ z=>VAt.mo a z).app (.cons (bh.mo a) .nil)⟩ .nil)
   ·rfl
  |dry h _=>rcases h with⟨_,_,h⟩|h<;>cases h
  |deep h _ _=>rcases h with⟨_,_,h⟩|h<;>cases h
 |call b m=>
  refine⟨_,rfl,(ixT n rfl (.inl ⟨rfl,_,rfl,ifF (by decide) ?_⟩))⟩;refine⟨λ_ H'=>Q (.bl true) H', ?_,λ_ _ h=>h⟩;refine⟨_,rfl,(ixT n rfl ⟨(by show 2<=sizeLine;omega),λt1 ae=> .inr (.inl ⟨t1,_,rfl,.inr (SqT.of A7),rfl,rfl,_,rfl,ifT (by decide) ?_⟩)⟩)⟩;have s2:=A8 ae (.tup [.str "call",.str "apply"]);generalize upd H1 t1 (.tup [.str "call",.str "apply"])=H2 at s2⊢;have X:Mo H1 H2:=B9 s2;have h2:=h1.same s2;refine⟨_,rfl,A.m,A.dx,_,rfl,h2.m,rfl,_,rfl,_,rfl,A,vb,us,ab,_,_,_,_,p0,al,rfl,h2,by omega, ?_⟩;cases M with
  |dry _ ag=>
   refine .inl ⟨by omega,λs4 p H4 J k4 h4 U=> ?_⟩;have a:Mo H1 H4:=h1.mo ((Kq.of s2).trans k4);refine I (A':={A with s:=s4}) rfl (B s4 (s2.free J)) ((Kq.of s2).trans k4) h4 ?_ ?_ ?_ q
   ·exact hC.imp λ_ _ z=>ClAt.mo a z
   ·exact .nil
   ·exact⟨p,rfl,U⟩
  |deep _ ag bb=>
   refine .inr (.inl ⟨by omega,by omega,λs4 p H4 J k4 h4 U=> ?_⟩);rw[ec]at h4;have a:Mo H1 H4:=h1.mo ((Kq.of s2).trans k4);refine I (A':={A with s:=s4}) rfl (B s4 (s2.free J)) ((Kq.of s2).trans k4) h4 ?_ ?_ ?_ q
   ·exact hC.imp λ_ _ z=>ClAt.mo a z
   ·exact .nil
   ·exact⟨p,rfl,U⟩
  | @call _ bk st1 xs ag bb hfst hbk2 hxz=>
   rw[hfst]at G;obtain⟨ds,es,rfl,a4,an⟩:=E6 G;have aq:=an.len;obtain⟨u2,av,ap,bq,bn,rfl,aa,a9,a8,a7⟩:=G5 hB hbk2;refine .inr (.inr ⟨by omega,by omega,_,_,sl,ds++es,ds,b,es,bk.sz,FrAt.mo' X ba,by omega,.inl ⟨xs.length,s2 _ _ n,by rw[length_append];omega,⟨ap,_,_,av,s2 _ _ aa⟩,hxz,by omega, ?_, ?_⟩,λp1 p2 H4 k4 h4 a3 a0=> ?_⟩)
   ·rw[length_append,aq,Nat.add_sub_cancel,List.take_left]
   ·rw[length_append,aq,Nat.add_sub_cancel,List.drop_left]
   rw[ec]at h4;have a:Mo H1 H4:=h1.mo ((Kq.of s2).trans k4);have e:((f.at_+1:Nat):Int)=(f.at_:Nat)+1:=by omega
   refine I rfl (λx hx=> .inl hx) ((Kq.of s2).trans k4) h4 ?_ ?_ ?_ q
   ·exact hC.imp λ_ _ z=>ClAt.mo a z
   ·have n1:FAt H4 ⟨f.k,f.at_+1,f.sl,st1⟩ (.ref p1):=⟨p1,sl,ds,rfl,by rw[e];exact a3,Y.imp λ_ _ z=>VAt.mo a z,a4.imp λ_ _ z=>VAt.mo a z⟩;have n2:FAt H4 (begun b bk.sz xs) (.ref p2):=⟨p2,_,[],rfl,a0,by
     show All2 (VAt H4) (xs++List.replicate (bk.sz - xs.length) (.sc .non)) _;rw[aq];exact(an.imp λ_ _ z=>VAt.mo a z).app (Z6 _),.nil⟩
    exact((N.imp λ_ _ z=>FAt.mo a z).app (.cons n1 .nil)).app (.cons n2 .nil)
   ·rfl
 |apply=>
  refine⟨_,rfl,(ixT n rfl (.inl ⟨rfl,_,rfl,ifF (by decide) ?_⟩))⟩;refine⟨λ_ H'=>Q (.bl true) H', ?_,λ_ _ h=>h⟩;refine⟨_,rfl,(ixT n rfl ⟨(by show 2<=sizeLine;omega),λt1 ae=> .inr (.inl ⟨t1,_,rfl,.inr (SqT.of A7),rfl,rfl,_,rfl,ifT (by decide) ?_⟩)⟩)⟩;have s2:=A8 ae (.tup [.str "call",.str "apply"]);generalize upd H1 t1 (.tup [.str "call",.str "apply"])=H2 at s2⊢;have X:Mo H1 H2:=B9 s2;have h2:=h1.same s2;refine⟨_,rfl,A.m,A.dx,_,rfl,h2.m,rfl,_,rfl,_,rfl,A,vb,us,ab,_,_,_,_,p0,al,rfl,h2,by omega, ?_⟩;cases M with
  |dry _ ag=>
   refine .inl ⟨by omega,λs4 p H4 J k4 h4 U=> ?_⟩;have a:Mo H1 H4:=h1.mo ((Kq.of s2).trans k4);refine I (A':={A with s:=s4}) rfl (B s4 (s2.free J)) ((Kq.of s2).trans k4) h4 ?_ ?_ ?_ q
   ·exact hC.imp λ_ _ z=>ClAt.mo a z
   ·exact .nil
   ·exact⟨p,rfl,U⟩
  |deep _ ag bb=>
   refine .inr (.inl ⟨by omega,by omega,λs4 p H4 J k4 h4 U=> ?_⟩);rw[ec]at h4;have a:Mo H1 H4:=h1.mo ((Kq.of s2).trans k4);refine I (A':={A with s:=s4}) rfl (B s4 (s2.free J)) ((Kq.of s2).trans k4) h4 ?_ ?_ ?_ q
   ·exact hC.imp λ_ _ z=>ClAt.mo a z
   ·exact .nil
   ·exact⟨p,rfl,U⟩
  | @apply b bk st1 j xs x ag bb hfst hcj hbk2 hxz=>
   rw[hfst]at G;obtain⟨ds,es,rfl,a4,an⟩:=E6 G;cases an with
   |cons a1 t3=>
    cases t3 with
    | @cons _ x' _ _ a2 t4=>
     cases t4;obtain⟨cv,rfl,ai⟩:=a1;obtain⟨u2,av,ap,bq,bn,rfl,aa,a9,a8,a7⟩:=G5 hB hbk2;obtain⟨u3,bx,fc,vt,aj,rfl,b1,au,am,ad⟩:=G5 hC hcj;have br:=am.len;refine .inr (.inr ⟨by omega,by omega,_,_,sl,ds++ [.ref cv,x'],ds,b,aj++ [x'],bk.sz,FrAt.mo' X ba,by omega,.inr ⟨cv,x',j,fc,vt,aj,s2 _ _ n,rfl,s2 _ _ ai,bx,s2 _ _ b1,s2 _ _ au,⟨ap,_,_,av,s2 _ _ aa⟩,by omega,by omega,rfl⟩,λp1 p2 H4 k4 h4 a3 a0=> ?_⟩);rw[ec]at h4;have a:Mo H1 H4:=h1.mo ((Kq.of s2).trans k4);have e:((f.at_+1:Nat):Int)=(f.at_:Nat)+1:=by omega
     refine I rfl (λx hx=> .inl hx) ((Kq.of s2).trans k4) h4 ?_ ?_ ?_ q
     ·exact hC.imp λ_ _ z=>ClAt.mo a z
     ·have n1:FAt H4 ⟨f.k,f.at_+1,f.sl,st1⟩ (.ref p1):=⟨p1,sl,ds,rfl,by rw[e];exact a3,Y.imp λ_ _ z=>VAt.mo a z,a4.imp λ_ _ z=>VAt.mo a z⟩;have n2:FAt H4 (begun b bk.sz (xs++ [x])) (.ref p2):=⟨p2,_,[],rfl,a0,by
       show All2 (VAt H4) ((xs++ [x])++List.replicate (bk.sz - (xs++ [x]).length) (.sc .non)) _;rw[length_append,length_append,br];exact((am.imp λ_ _ z=>VAt.mo a z).app (.cons (a2.mo a) .nil)).app (Z6 _),.nil⟩
      exact((N.imp λ_ _ z=>FAt.mo a z).app (.cons n1 .nil)).app (.cons n2 .nil)
     ·rfl
end
noncomputable abbrev s_hung_on:Stmt:=G3 (top 36) 7
noncomputable abbrev s_hang_on:Stmt:=G3 (top 36) 8
noncomputable abbrev SC:List Str:=["self","found","frame"]
theorem sc_hung_on:FnScope SC G0 (B6 s_hung_on):=fS
noncomputable abbrev SN:List Str:=["self","values","at","frames","frame","stack_at","end"]
theorem sc_hang_on:FnScope SN aiZ (B6 s_hang_on):=fS
noncomputable def hangs:Option Ou->List Fr->List Vl
 |some (.value v),_=> [v]
 |_,fs=>fs.flatMap λf=>f.sl++f.st
noncomputable def mvF(g:Vl->Vl)(f:Fr):Fr:=⟨f.k,f.at_,f.sl.map g,f.st.map g⟩
noncomputable def mvO(g:Vl->Vl):Ou->Ou
 | .value v=> .value (g v)
 |o=>o
theorem AA(h:U1 o=false)(fs:List Fr):hangs o fs=fs.flatMap λf=>f.sl++f.st:=by
 cases o with
 |none=>rfl
 |some o=>cases o<;>first|rfl|cases h
section
inductive spHungW(CM C:Addr)(vs:List V)(H:Hp)(Q:VK):Prop
 |mk:∀(A:Ad) (bs us fs:List V) (most:Int) (out:V) (r c:Int) (o:Option Ou) (frs:List Fr),(vs=[.ref A.m])->(MR CM C H A bs us fs most out r c)->(OAt H o out)->(All2 (FAt H) frs fs)->((hangs o frs).length<=1000)->(∀l xs H',Same H H'->H l=none->H' l=some (.lst xs)->All2 (VAt H') (hangs o frs) xs->Q (.ref l) H')->spHungW CM C vs H Q
noncomputable def TL(CM C:Addr):Sp:=λvs H Q _=>spHungW CM C vs H Q
theorem ok_hung_on{gf:Str->Addr}{gd:Str->FuncData}(F:Fun Z "hung_on" "Machine.hung_on" s_hung_on (gf "hung_on") (gd "hung_on"))(RM:MCls Z CM gf gd)
  (N6:FnOk P w Z mg base CX0 1 (gf "has_value") (gd "has_value") G0 (HL CM)):FnOk P w Z mg base CX0 2 (gf "hung_on") (gd "hung_on") G0 (TL CM C):=by
 refine F.om sc_hung_on λX A D s H vs Q E hr h=> ?_;obtain⟨A,bs,us,fs,k,M,r,c,o,d,rfl,hM,hO,hF,n,q⟩:=h;have nd:=sc_hung_on.nd;have hu:=hr.units0;have zz:(4000:Nat)<=sizeLine:=by decide
 refine⟨_,(A9 (D2 (E9 (Z:=Z) (mN (pv 0) RM.cl RM.m_has_value N6 hr RM.b_has_value) (λ_=>rfl)) (B5 (C2 (E7 (A0 (ixE Z w (F5 (pv 0) rfl) B0) B4)))) C4)
   (A9 (sS 1 nd (E7 B4))
   (A9 (D3 (O1 PassesOwn.never rfl (P7 (Z:=Z) (F5 (pv 0) rfl)) (gN 2 nd) (B5 (C5 (RO (Z:=Z) PySem.F.plainAttrs_list PySem.F.slot_list_extend PySem.F.type_list_extend (V7 (Z:=Z)) (pv 1) (A0 (C1 (K6 (Z:=Z)) (ixE Z w (pv 2) B0) (ixE Z w (pv 2) B0)) B4))))))
   (B5 (C2 (pv 1)))))), ?_⟩
 refine⟨_,rfl,A.m,A.dx,_,rfl,hM.m,rfl,A,k,M,r,c,U1 o,rfl,hM.m,hO.ov,_,rfl, ?_⟩;cases hv:U1 o with
 |true=>
  obtain⟨x,rfl⟩:∃x,o=some (.value x):=by
   cases o with
   |none=>cases hv
   |some o=>cases o<;>first|exact⟨_,rfl⟩|cases hv
  obtain⟨p,v,rfl,hp,N⟩:=hO;refine ifT rfl ⟨_,rfl,A.m,CM,A.dx,_,_,rfl,hM.m,RM.cl,RM.n5,l5,(ixT hp rfl ⟨(by show 1<=sizeLine;omega),λl hl=> ?_⟩)⟩;have t:=A8 hl (.lst [v]);exact q l [v] _ t hl A7 (.cons (N.mo (B9 t)) .nil)
 |false=>
 rw[AA hv]at n q;refine ifF nZ ?_;refine⟨(by show 0<=sizeLine;omega),λfl j=> ?_⟩;have t1:=A8 j (.lst []);have g:upd H fl (.lst []) fl=some (.lst []):=A7;have T:fl≠A.s:=λe=>by have:=hM.s;rw[<-e,j]at this;cases this
 show K0 _ _ _ [some (.ref A.m),some (.ref fl),none] (upd H fl (.lst []));generalize upd H fl (.lst [])=H1 at t1 g⊢;have h1:=hM.same t1;have wf:∀(Hx:Hp) (ob:HO),Same H Hx->Same H (upd Hx fl ob):=λHx ob a x u h=>by rw[B7 (λe=>by rw[e,j]at h;cases h)];exact a _ _ h
 have B:=hF.len;refine⟨fun σ H'=>∃y xs,σ=[some (.ref A.m),some (.ref fl),y]/\Same H H'/\H' fl=some (.lst xs)/\All2 (VAt H') (d.flatMap λf=>f.sl++f.st) xs, ?_, ?_⟩
 ·refine⟨_,rfl,A.m,CM,A.dx,_,_,rfl,h1.m,RM.cl,RM.n4,l4,A.s,rfl,⟨_,SqL.of h1.s⟩,Q5 (xs:=fs) (λi σ H'=>∃y xs,σ=[some (.ref A.m),some (.ref fl),y]/\Same H H'/\H' fl=some (.lst xs)/\All2 (VAt H') ((d.take i).flatMap λf=>f.sl++f.st) xs) ⟨none,[],rfl,t1,g,.nil⟩ ?_ ?_ ?_⟩
  ·rintro i σ H' _ ⟨y,xs,rfl,s2,_⟩;exact SqL.of (s2 _ _ hM.s)
  ·rintro i v σ H' hv ⟨y,xs,rfl,s2,hx,hA⟩;obtain⟨f,S,p0,sl,st,rfl,⟨q0,e0,g1,g2,g3⟩,L,J⟩:=hF.get hv;have R:((d.take (i+1)).flatMap λf=>f.sl++f.st).length<=1000:=by
    have e:(d.flatMap λf=>f.sl++f.st).length=((d.take (i+1)).flatMap λf=>f.sl++f.st).length+((d.drop (i+1)).flatMap λf=>f.sl++f.st).length:=by
     rw[<-length_append,<-flatMap_append,take_append_drop]
    omega
   have et:(d.take (i+1)).flatMap (λf=>f.sl++f.st)=(d.take i).flatMap (λf=>f.sl++f.st)++(f.sl++f.st):=by
    rw[take_succ,S,flatMap_append];simp
   rw[et,length_append,length_append]at R;have W:=hA.len;have V:=L.len;have U:=J.len;refine⟨_,rfl,.inl ⟨rfl,_,SqL.of hx⟩,_,rfl,(ixT (s2 _ _ g1) rfl ⟨_,rfl,(ixT (s2 _ _ g1) rfl (.inr (.inr (N5 (s2 _ _ g2) (s2 _ _ g3) (by omega) λrr H2 s3 O=> ?_))))⟩)⟩;refine⟨fl,rr,xs,sl++st,rfl,rfl,s3 _ _ hx,SqT.of O,by rw[length_append];omega, ?_⟩;have m4:Mo H2 (upd H2 fl (.lst (xs++(sl++st)))):=λb zs e=>by
    have:b≠fl:=λz=>by rw[z,s3 _ _ hx]at e;cases e
    rw[B7 this];exact e
   have I:Mo H' (upd H2 fl (.lst (xs++(sl++st)))):=λb zs e=>m4 _ _ (s3 _ _ e);have G:Mo H (upd H2 fl (.lst (xs++(sl++st)))):=λb zs e=>I _ _ (s2 _ _ e);refine⟨_,xs++(sl++st),rfl,wf _ _ (s2.trans s3),A7, ?_⟩;rw[et];exact(hA.imp λ_ _ z=>VAt.mo I z).app ((L.imp λ_ _ z=>VAt.mo G z).app (J.imp λ_ _ z=>VAt.mo G z))
  ·rintro σ H' ⟨y,xs,rfl,s2,hx,hA⟩;rw[<-B,take_length]at hA;exact⟨y,xs,rfl,s2,hx,hA⟩
 ·rintro σ H' ⟨y,xs,rfl,s2,hx,hA⟩;exact⟨_,rfl,q fl xs _ s2 j hx hA⟩
inductive spHangW (CM C:Addr) (vs:List V) (H:Hp) (Q:VK):Prop
 |mk:∀(A:Ad) (bs us fs:List V) (most:Int) (out:V) (r c:Int) (o:Option Ou) (frs:List Fr) (g:Vl->Vl) (l:Addr) (ys:List V),(vs=[.ref A.m,.ref l])->(MR CM C H A bs us fs most out r c)->(OAt H o out)->(All2 (FAt H) frs fs)->((o≠none->frs=[]))->(frs.length<=60)->(H l=some (.lst ys))->(l∉A.own)->(All2 (VAt H) ((hangs o frs).map g) ys)->(ys.length<=1000)->(∀s fs' out' H',H s=none->Kq A H H'->MR CM C H' {A with s:=s} bs us fs' most out' r c->All2 (FAt H') (frs.map (mvF g)) fs'->OAt H' (o.map (mvO g)) out'->Q .non H')->spHangW CM C vs H Q
noncomputable def UY(CM C:Addr):Sp:=λvs H Q _=>spHangW CM C vs H Q
theorem KA{α:Type}{a b c:List α}{n m:Nat}(h:a.length=n)(h':b.length=m):((a++b++c).drop n).take m=b:=by
 subst h h';rw[List.append_assoc,List.drop_left,List.take_left]
theorem ok_hang_on{gf:Str->Addr}{gd:Str->FuncData}(F:Fun Z "hang_on" "Machine.hang_on" s_hang_on (gf "hang_on") (gd "hang_on"))(B:NoG mg)(RM:MCls Z CM gf gd)
  (N6:FnOk P w Z mg base CX0 1 (gf "has_value") (gd "has_value") G0 (HL CM)):FnOk P w Z mg base CX0 2 (gf "hang_on") (gd "hang_on") aiZ (UY CM C):=by
 refine F.om sc_hang_on λbi A ac s H vs Q E hr h=> ?_;obtain⟨A,bs,us,fs,u,ad,r,c,o,j,g,l,ys,rfl,hM,hO,hF,hE,bg,hl,nl,hY,bf,q⟩:=h;have nd:=sc_hang_on.nd;have hu:=hr.units0;have zz:(4000:Nat)<=sizeLine:=by decide
 have a2:=hF.len;refine⟨_,(A9 (D3 (D2 (E9 (Z:=Z) (mN (pv 0) RM.cl RM.m_has_value N6 hr RM.b_has_value) (λ_=>rfl)) (B5 (N2 (pv 0) (C3 (A0 B8 (A0 (ixE Z w (pv 1) B0) B4))) rfl)) C4))
   (A9 (sS 2 nd B0)
   (A9 (sS 3 nd (E7 B4))
   (A9 (D3 (O1 PassesOwn.never rfl (P7 (Z:=Z) (F5 (pv 0) rfl)) (gN 4 nd) (A9 (sS 5 nd (C1 (K6 (Z:=Z)) (pv 2) (kL Z B.len_ (ixE Z w (pv 4) B0))))
   (A9 (sS 6 nd (C1 (K6 (Z:=Z)) (pv 5) (kL Z B.len_ (ixE Z w (pv 4) B0))))
   (A9 (C5 (aP Z (pv 3) (C3 (A0 (ixE Z w (pv 4) B0) (A0 (ixE Z w (pv 4) B0) (A0 (F9 (Z1 (Z:=Z)) rfl B.tuple_ J6 (A0 (G1 (W0 (Z:=Z)) (pv 1) (G2 (pv 2)) (G2 (pv 5))) B4)) (A0 (F9 (Z1 (Z:=Z)) rfl B.tuple_ J6 (A0 (G1 (W0 (Z:=Z)) (pv 1) (G2 (pv 5)) (G2 (pv 6))) B4)) B4)))))))
   (B5 (sS 2 nd (pv 6))))))))
   (B5 (N2 (pv 0) (pv 3) rfl)))))), ?_⟩
 refine⟨fun σ H'=>∃d,σ=[some (.ref A.m),some (.ref l),none,none,none,none,none]/\Kq A H H'/\MR CM C H' A bs us fs u d r c/\OAt H' (o.map (mvO g)) d, ?_, ?_⟩
 ·refine⟨_,rfl,A.m,A.dx,_,rfl,hM.m,rfl,A,u,ad,r,c,U1 o,rfl,hM.m,hO.ov,_,rfl, ?_⟩;cases hv:U1 o with
  |true=>
   obtain⟨x,rfl⟩:∃x,o=some (.value x):=by
    cases o with
    |none=>cases hv
    |some o=>cases o<;>first|exact⟨_,rfl⟩|cases hv
   obtain⟨y,W,rfl,hy,av⟩:∃y W,ys=y::W/\VAt H (g x) y/\W=[]:=by
    cases hY with
    |cons h1 h2=>cases h2;exact⟨_,_,rfl,h1,rfl⟩
   subst av;refine ifT rfl ⟨_,rfl,(ixL (v:=y) hl rfl ⟨(by show 2<=sizeLine;omega),λp hp=> ?_⟩)⟩;have t:=A8 hp (.tup [.str "value",y]);have h1:=hM.same t;refine⟨_,rfl,A.m,CM,A.dx,_,rfl,h1.m,RM.cl,RM.n5,lf, ?_⟩;rw[p5];have k1:Kq A (upd H p (.tup [.str "value",y])) (upd (upd H p (.tup [.str "value",y])) A.m (.ins CM A.dx (J0 A u (.ref p) r c))):=Kq.updO _ (AE A);have mo:=h1.mo k1;exact⟨.ref p,rfl,(Kq.of t).trans k1,h1.putM r c (.ref p),p,y,rfl,mo _ _ A7,(hy.mo (B9 t)).mo mo⟩
  |false=>
   have e:o.map (mvO g)=o:=by
    cases o with
    |none=>rfl
    |some o=>cases o<;>first|rfl|cases hv
   refine ifF nZ ⟨ad,rfl,Kq.refl A H,hM, ?_⟩;rw[e];exact hO
 rintro σ H1 ⟨d,rfl,k1,h1,a7⟩;have ae:=hM.mo k1;refine⟨(by show 0<=sizeLine;omega),λgl a=> ?_⟩;have t2:=A8 a (.lst []);have D:upd H1 gl (.lst []) gl=some (.lst []):=A7;have h2:=h1.same t2;have aj:=t2 _ _ (k1 _ _ hl nl);have ao:l≠gl:=λe=>by rw[<-e,k1 _ _ hl nl]at a;cases a
 show K0 _ _ _ [some (.ref A.m),some (.ref l),some (.int 0),some (.ref gl),none,none,none] (upd H1 gl (.lst []));generalize upd H1 gl (.lst [])=H2 at t2 D h2 aj⊢;have N:H gl=none:=by
  cases e:H gl with
  |none=>rfl
  |some ob=>
   by_cases z:gl∈A.own
   ·obtain⟨dx,ho,hL⟩:=h1.o;simp only[Ad.own,mem_cons,not_mem_nil,or_false]at z;rcases z with z|z|z|z|z<;>rw[z]at a
    ·rw[h1.m]at a;cases a
    ·rw[h1.bl]at a;cases a
    ·rw[ho]at a;cases a
    ·rw[hL]at a;cases a
    ·rw[h1.s]at a;cases a
   ·rw[k1 _ _ e z]at a;cases a
 have a8:=hF.imp λ_ _ z=>FAt.mo (λb xs e=>t2 _ _ (ae _ _ e)) z;have am:=hY.imp λ_ _ z=>VAt.mo (λb xs e=>t2 _ _ (ae _ _ e)) z;have be:∀i,((j.take i).flatMap λf=>f.sl++f.st).length=((j.take i).flatMap λf=>(f.sl++f.st).map g).length:=λi=>by
  rw[List.length_flatMap,List.length_flatMap];simp
 refine⟨fun σ H'=>∃y2 y4 y5 y6 zs,σ=[some (.ref A.m),some (.ref l),y2,some (.ref gl),y4,y5,y6]/\(∀b ob,H2 b=some ob->b≠gl->H' b=some ob)/\H' gl=some (.lst zs)/\All2 (FAt H') (j.map (mvF g)) zs, ?_, ?_⟩
 ·refine⟨_,rfl,A.m,CM,A.dx,_,_,rfl,h2.m,RM.cl,RM.n4,l4,A.s,rfl,⟨_,SqL.of h2.s⟩,Q5 (xs:=fs) (λi σ H'=>∃y4 y5 y6 zs,σ=[some (.ref A.m),some (.ref l),some (.int (((j.take i).flatMap λf=>f.sl++f.st).length:Nat)),some (.ref gl),y4,y5,y6]/\(∀b ob,H2 b=some ob->b≠gl->H' b=some ob)/\H' gl=some (.lst zs)/\All2 (FAt H') ((j.take i).map (mvF g)) zs) ⟨_,_,_,[],rfl,λ_ _ e _=>e,D,.nil⟩ ?_ ?_ ?_⟩
  ·rintro i σ H' _ ⟨y4,y5,y6,zs,rfl,k3,_⟩;exact SqL.of (k3 _ _ h2.s λe=>by have:=h1.s;rw[e,a]at this;cases this)
  ·rintro i v σ H' hv ⟨y4,y5,y6,zs,rfl,k3,G,hZ⟩;obtain⟨f,O,p0,sl,st,rfl,⟨q0,e0,g1,g2,g3⟩,ay,ax⟩:=a8.get hv;have a0:o=none:=by
    cases o with
    |none=>rfl
    |some o=>rw[hE (by intro z;cases z)]at O;cases O
   subst a0;have S:∀ {b:Addr} {xs:List V},H2 b=some (.tup xs)->b≠gl:=λ{b xs} e z=>by rw[z,D]at e;cases e
   have T:=k3 _ _ g1 (S g1);have ba:=k3 _ _ g2 (S g2);have a9:=k3 _ _ g3 (S g3);have ai:=k3 _ _ aj ao;have hi:i<fs.length:=(List.getElem?_eq_some_iff.mp hv).1;have ew:(hangs none j).map g=((j.take i).flatMap λf=>f.sl++f.st).map g++f.sl.map g++f.st.map g++((j.drop (i+1)).flatMap λf=>f.sl++f.st).map g:=by
    show(j.flatMap λf=>f.sl++f.st).map g=_
    conv=>lhs;rw[<-take_append_drop (i+1) j,take_succ,O]
    simp[flatMap_append]
   rw[ew]at am;obtain⟨y3,yd,e3,a6,bh⟩:=E6 am;obtain⟨bd,yc,e2,ab,ak⟩:=E6 a6;obtain⟨ya,yb,e1,a5,al⟩:=E6 ab;subst e1 e2;have la:=a5.len;have lb:=al.len;have lc:=ak.len;have ar:=ay.len;have aq:=ax.len;rw[length_map]at la lb lc;have et:((j.take (i+1)).flatMap λf=>f.sl++f.st).length=((j.take i).flatMap λf=>f.sl++f.st).length+(sl.length+st.length):=by
    rw[take_succ,O,flatMap_append,length_append];simp[ar,aq]
   generalize((j.take i).flatMap λf=>f.sl++f.st).length=n at la et⊢;refine⟨_,rfl,_,rfl,(ixT T rfl ⟨_,_,rfl,.inr ⟨_,SqT.of ba,rfl⟩,.inl ⟨_,_,rfl,rfl, ?_⟩⟩)⟩;refine⟨_,rfl,_,rfl,(ixT T rfl ⟨_,_,rfl,.inr ⟨_,SqT.of a9,rfl⟩,.inl ⟨_,_,rfl,rfl, ?_⟩⟩)⟩;refine⟨_,rfl,.inl ⟨rfl,_,SqL.of G⟩,_,rfl,(ixT T rfl ⟨_,rfl,(ixT T rfl ?_)⟩)⟩;have U:G8 ys (some ((n:Nat):Int)) (some (((n:Nat):Int)+((sl.length:Nat):Int)))=yb:=by
    rw[show((n:Nat):Int)+((sl.length:Nat):Int)=((n+sl.length:Nat):Int) by omega,JS,e3,List.append_assoc,add_sub_cancel_left];exact KA la.symm (by omega)
   have bb:G8 ys (some (((n:Nat):Int)+((sl.length:Nat):Int))) (some (((n:Nat):Int)+((sl.length:Nat):Int)+((st.length:Nat):Int)))=yc:=by
    rw[show((n:Nat):Int)+((sl.length:Nat):Int)+((st.length:Nat):Int)=((n+sl.length+st.length:Nat):Int) by omega,show((n:Nat):Int)+((sl.length:Nat):Int)=((n+sl.length:Nat):Int) by omega,JS,e3,add_sub_cancel_left];exact KA (by rw[length_append];omega) (by omega)
   refine⟨_,rfl,_,rfl,_,rfl,_,rfl,_,rfl,.inl (.inl ⟨l,_,rfl,SqL.of ai,λc1 a4=> ?_⟩)⟩;have s4:=A8 a4 (.lst (G8 ys (some ((n:Nat):Int)) (some (((n:Nat):Int)+((sl.length:Nat):Int)))));refine⟨c1,_,rfl,.inl ⟨SqL.of A7,λt1 ag=> ?_⟩⟩;rw[U];have s5:=A8 ag (.tup yb);rw[U]at s4;rw[U]at ag;rw[U]at s5;refine⟨_,rfl,_,rfl,_,rfl,_,rfl,_,rfl,.inl (.inl ⟨l,_,rfl,SqL.of (s5 _ _ (s4 _ _ ai)),λc2 a3=> ?_⟩)⟩;rw[bb];have s6:=A8 a3 (.lst yc);refine⟨c2,_,rfl,.inl ⟨SqL.of A7,λt2 aw=> ?_⟩⟩;have s7:=A8 aw (.tup yc);refine⟨(by show 4<=sizeLine;omega),λpp az=> ?_⟩;have s8:=A8 az (.tup [.int ((f.k:Nat):Int),.int ((f.at_:Nat):Int),.ref t1,.ref t2]);have J:=s4.trans (s5.trans (s6.trans (s7.trans s8)));have au:=hZ.len;rw[length_map,length_take]at au;refine⟨gl,zs,_,rfl,rfl,J _ _ G,by omega, ?_⟩;have aa:=(s6.trans (s7.trans s8)) _ _ (show upd _ t1 (.tup yb) t1=some (.tup yb)from A7);have Y:=s8 _ _ (show upd _ t2 (.tup yc) t2=some (.tup yc)from A7);have a1:=J _ _ G;have ee:((n:Nat):Int)+((sl.length:Nat):Int)+((st.length:Nat):Int)=((((j.take (i+1)).flatMap λf=>f.sl++f.st).length:Nat):Int):=by rw[et];omega
   refine⟨_,rfl, ?_⟩;refine⟨_,_,_,zs++ [.ref pp],by rw[<-ee];rfl,λb ob e nb=>_S.upd_at (J _ _ (k3 _ _ e nb)) nb,A7, ?_⟩;have m9:Mo (upd (upd (upd (upd (upd H' c1 (.lst yb)) t1 (.tup yb)) c2 (.lst yc)) t2 (.tup yc)) pp (.tup [.int ((f.k:Nat):Int),.int ((f.at_:Nat):Int),.ref t1,.ref t2])) (upd (upd (upd (upd (upd (upd H' c1 (.lst yb)) t1 (.tup yb)) c2 (.lst yc)) t2 (.tup yc)) pp (.tup [.int ((f.k:Nat):Int),.int ((f.at_:Nat):Int),.ref t1,.ref t2])) gl (.lst (zs++ [.ref pp]))):=λb xs e=>by
    have:b≠gl:=λz=>by rw[z,a1]at e;cases e
    rw[B7 this];exact e
   have af:Mo H2 (upd (upd (upd (upd (upd (upd H' c1 (.lst yb)) t1 (.tup yb)) c2 (.lst yc)) t2 (.tup yc)) pp (.tup [.int ((f.k:Nat):Int),.int ((f.at_:Nat):Int),.ref t1,.ref t2])) gl (.lst (zs++ [.ref pp]))):=λb xs e=>m9 _ _ (J _ _ (k3 _ _ e (S e)));have ap:Mo H' (upd (upd (upd (upd (upd (upd H' c1 (.lst yb)) t1 (.tup yb)) c2 (.lst yc)) t2 (.tup yc)) pp (.tup [.int ((f.k:Nat):Int),.int ((f.at_:Nat):Int),.ref t1,.ref t2])) gl (.lst (zs++ [.ref pp]))):=λb xs e=>m9 _ _ (J _ _ e);rw[take_succ,O,map_append];refine(hZ.imp λ_ _ z=>FAt.mo ap z).app (.cons ?_ .nil);exact⟨pp,yb,yc,rfl,⟨t1,t2,m9 _ _ A7,m9 _ _ aa,m9 _ _ Y⟩,al.imp λ_ _ z=>VAt.mo af z,ak.imp λ_ _ z=>VAt.mo af z⟩
  ·rintro σ H' ⟨y4,y5,y6,zs,rfl,k3,G,hZ⟩;rw[<-a2,take_length]at hZ;exact⟨_,y4,y5,y6,zs,rfl,k3,G,hZ⟩
 rintro σ H3 ⟨y2,y4,y5,y6,zs,rfl,k3,G,hZ⟩;have nm:A.m≠gl:=λe=>by have:=h1.m;rw[e,a]at this;cases this
 have an:=k3 _ _ h2.m nm;refine⟨_,rfl,_,rfl,A.m,CM,A.dx,_,rfl,an,RM.cl,RM.n4,lf, ?_⟩;rw[p4];obtain⟨dx,ho,hL⟩:=h2.o;have I:∀ {x:Addr} {ob:HO},H1 x=some ob->x≠gl:=λ{x ob} e z=>by rw[z,a]at e;cases e
 obtain⟨bc,ah,R⟩:=h1.o;have n1:A.bl≠A.m:=λe=>by have:=h1.bl;rw[e,h1.m]at this;cases this
 have n3:A.L≠A.m:=λe=>by rw[e,h1.m]at R;cases R
 have k4:Kq A H (upd H3 A.m (.ins CM A.dx (J0 {A with s:=gl} u d r c))):=λb ob e n=>by
  have:b≠A.m:=λz=>n (by rw[z];exact AE A);rw[B7 this];exact k3 _ _ (t2 _ _ (k1 _ _ e n)) (C6 e N)
 have M:Mo H3 (upd H3 A.m (.ins CM A.dx (J0 {A with s:=gl} u d r c))):=λb xs e=>by
  have:b≠A.m:=λz=>by rw[z,an]at e;cases e
  rw[B7 this];exact e
 have X:Mo H1 (upd H3 A.m (.ins CM A.dx (J0 {A with s:=gl} u d r c))):=λb xs e=>M _ _ (k3 _ _ (t2 _ _ e) (I e));refine q gl zs d _ N k4 ⟨A7, ?_,⟨bc, ?_, ?_⟩, ?_, ?_, ?_,h1.nbL⟩ (hZ.imp λ_ _ z=>FAt.mo M z) (a7.mo X)
 ·rw[B7 n1];exact k3 _ _ h2.bl (I h1.bl)
 ·rw[B7 h1.om];exact k3 _ _ (t2 _ _ ah) (I ah)
 ·rw[B7 n3];exact k3 _ _ (t2 _ _ R) (I R)
 ·rw[B7 (Ne.symm nm)];exact G
 ·exact I R
 ·exact I h1.bl
end
noncomputable abbrev s_collect:Stmt:=G3 (top 36) 6
noncomputable abbrev s_answer:Stmt:=G3 (top 36) 10
noncomputable abbrev s_minit:Stmt:=G3 (top 36) 0
noncomputable abbrev RR:List Str:=["self","ahead","told"]
theorem sc_collect:FnScope RR G0 (B6 s_collect):=fS
noncomputable abbrev TX:List Str:=["self"]
theorem sc_answer:FnScope TX G0 (B6 s_answer):=fS
noncomputable abbrev ZU:List Str:=["self","blocks","main","numbers","most"]
theorem sc_minit:FnScope ZU alZ (B6 s_minit):=fS
noncomputable def swS(ks:List Nat)(S:Ms):Ms:=⟨ks.map λk=>mvc ks (L3 S.cs k),S.frs.map (mvF (mv ks)),S.out.map (mvO (mv ks)),S.r,S.c⟩
structure Tidy (S:Ms):Prop where
 end_:S.out≠none->S.frs=[]
 okc:Okc S.cs
 okv:Okv S.cs.length (hangs S.out S.frs)
 few:Few S.cs (hangs S.out S.frs)
 len:(hangs S.out S.frs).length<=1000
noncomputable def VRa(cs:List Cl):_Q.Pv->Vl->Prop
 | .int i,x=>x=.sc (.int i)
 | .bl b,x=>x=.sc (.bl b)
 | .nil,x=>x=.sc .non
 | .cons h t,x=>∃(k:Nat) (a b:Vl),x=.cell k/\cs[k]? =some (.pair a b)/\VRa cs h a/\VRa cs t b
theorem VRa.vr{cs:List Cl}{us:List V}(hC:All2 (ClAt H) cs us):∀ {t:_Q.Pv} {x:Vl} {v:V},VRa cs t x->VAt H x v->_Q.VR H us t v
 | .int _,_,_,e,h=>by subst e;exact h.1
 | .bl _,_,_,e,h=>by subst e;exact h.1
 | .nil,_,_,e,h=>by subst e;exact h.1
 | .cons _ _,_,_,⟨k,a,b,e,hk,h1,h2⟩,h=>by
  subst e;obtain⟨p,rfl,hp⟩:=h;obtain⟨u,hu,c,y,z,rfl,hc,hy,hz⟩:=G5 hC hk;exact⟨p,k,c,y,z,rfl,hp,hu,hc,VRa.vr hC h1 hy,VRa.vr hC h2 hz⟩
section
theorem MR.putO{CM C:Addr}{H:Hp}{A:Ad}{bs us us' fs:List V}{most r c:Int}{out:V}(h:MR CM C H A bs us fs most out r c){o L:Addr}(hc:CAt C H o L us')(nL:L≠A.s)(nb:A.bl≠L)(no:o≠A.m):MR CM C (upd H A.m (.ins CM A.dx (J0 {A with o:=o,L:=L} most out r c))) {A with o:=o,L:=L} bs us' fs most out r c:=by
 obtain⟨dx,ho,hL⟩:=hc;have hm:=h.m;have n1:A.bl≠A.m:=λe=>by have:=h.bl;rw[e,hm]at this;cases this
 have n3:L≠A.m:=λe=>by rw[e,hm]at hL;cases hL
 have n4:A.s≠A.m:=λe=>by have:=h.s;rw[e,hm]at this;cases this
 exact⟨A7,by rw[B7 n1];exact h.bl,⟨dx,by rw[B7 no];exact ho,by rw[B7 n3];exact hL⟩,by rw[B7 n4];exact h.s,nL,h.nbs,nb⟩
inductive spCollectW (CM C:Addr) (vs:List V) (H:Hp) (Q:VK):Prop
 |mk:∀(A:Ad) (bs:List Bk) (most:Nat) (S:Ms),(vs=[.ref A.m])->(MAt CM C H A bs most S)->(S.frs.length<=60)->(Tidy S)->(∀n A' ks H',n=((S.cs.length:Nat):Int) - (ks.length:Nat)->New A A' H->Kq A H H'->Kept S.cs (hangs S.out S.frs) ks->MAt CM C H' A' bs most (swS ks S)->Q (.int n) H')->spCollectW CM C vs H Q
noncomputable def GK(CM C:Addr):Sp:=λvs H Q _=>spCollectW CM C vs H Q
theorem ok_collect{gf:Str->Addr}{gd:Str->FuncData}(F:Fun Z "collect" "Machine.collect" s_collect (gf "collect") (gd "collect"))(RM:MCls Z CM gf gd)(RC:RCls Z C mf md)
  (SX:FnOk P w Z mg base CX0 1 (mf "many") (md "many") G0 (VD C))
  (QR:FnOk P w Z mg base CX0 2 (gf "hung_on") (gd "hung_on") G0 (TL CM C))
  (QQ:FnOk P w Z mg base CX0 2 (gf "hang_on") (gd "hang_on") aiZ (UY CM C))
  (XN:Cn P w Z mg base CX0 4 "swept" RP (PY C)):
  FnOk P w Z mg base CX0 5 (gf "collect") (gd "collect") G0 (GK CM C):=by
 refine F.om sc_collect λar A D s H vs Q E hr h=> ?_;obtain⟨A,bs,d,S,rfl,hA,af,hT,q⟩:=h;obtain⟨vb,us,vf,f,hM,hB,hC,hF,hO⟩:=hA.ex;obtain⟨dx,ho,hL⟩:=id hM.o;have nd:=sc_collect.nd;have hu:=hr.units0;refine⟨_,(A9 (sS 1 nd (mN (F5 (pv 0) rfl) RC.cl RC.m_many SX hr RC.b_many))
   (A9 (sS 2 nd (cC XN hr (A0 (F5 (pv 0) rfl) (A0 (mN (pv 0) RM.cl RM.m_hung_on QR hr RM.b_hung_on) B4))))
   (A9 (N2 (pv 0) (ixE Z w (pv 2) B0) rfl)
   (A9 (C5 (mC (pv 0) RM.cl RM.m_hang_on QQ hr RM.b_hang_on (A0 (ixE Z w (pv 2) B0) B4)))
   (B5 (C2 (C1 M3 (pv 1) (mN (F5 (pv 0) rfl) RC.cl RC.m_many SX hr RC.b_many)))))))), ?_⟩
 refine⟨_,rfl,A.m,CM,A.dx,_,_,rfl,hM.m,RM.cl,RM.n3,l3,A.o,dx,_,rfl,ho,rfl,A.o,A.L,us,rfl,hM.o, ?_⟩;refine⟨_,rfl,A.m,CM,A.dx,_,_,rfl,hM.m,RM.cl,RM.n3,l3,_,rfl,A.m,A.dx,_,rfl,hM.m,rfl,A,vb,us,vf,_,f,_,_,S.out,S.frs,rfl,hM,hO,hF,hT.len,λhl xs H1 s1 ao ae hX=> ?_⟩;have an:=hX.len;have ad:=hT.len;have h1:=hM.same s1;refine⟨A.o,A.L,hl,us,xs,S.cs,hangs S.out S.frs,rfl,h1.o,hC.imp λ_ _ z=>ClAt.mo (B9 s1) z,ae,hX,hT.okc,hT.okv,hT.few,by omega,λt o' L' l us' ys ks H2 s2 hK ht M R B hY p u W U=> ?_⟩;have h2:=h1.same s2;have T:∀ {x:Addr},H1 x=none->H x=none:=λe=>s1.free e;have a:∀ {x:Addr},H1 x=none->x∉A.own:=λ{x} e hm=>by
  obtain⟨aq,ac,ah⟩:=h1.o;simp only[Ad.own,mem_cons,not_mem_nil,or_false]at hm;rcases hm with z|z|z|z|z<;>rw[z]at e
  ·rw[h1.m]at e;cases e
  ·rw[h1.bl]at e;cases e
  ·rw[ac]at e;cases e
  ·rw[ah]at e;cases e
  ·rw[h1.s]at e;cases e
 have no:=a p;have G:=a u;have g:=a W;have o1:o'≠A.m:=λe=>no (by rw[e];exact AE A);have o2:L'≠A.s:=λe=>G (by rw[e];exact BO A);have o3:A.bl≠L':=λe=>G (by rw[<-e];simp[Ad.own]);refine⟨_,rfl,(ixT ht rfl ?_)⟩;refine⟨_,rfl,A.m,CM,A.dx,_,rfl,h2.m,RM.cl,RM.n3,lf, ?_⟩;rw[p3 o' L'];have h3:=h2.putO (us':=us') M o2 o3 o1;have k3:Kq A H2 (upd H2 A.m (.ins CM A.dx (J0 {A with o:=o',L:=L'} (d:Nat) f (S.r:Nat) (S.c:Nat)))):=Kq.updO _ (AE A);have j:=h2.mo k3;show K0 _ _ _ [some (.ref A.m),some (.int (us.length:Nat)),some (.ref t)] (upd H2 A.m (.ins CM A.dx (J0 {A with o:=o',L:=L'} (d:Nat) f (S.r:Nat) (S.c:Nat))));have J:=k3 _ _ B g;obtain⟨al,y,N⟩:=id h2.o;have I:upd H2 A.m (.ins CM A.dx (J0 {A with o:=o',L:=L'} (d:Nat) f (S.r:Nat) (S.c:Nat))) A.o=some (.ins C al [("in_order",.ref A.L)]):=by rw[B7 h2.om];exact y
 have O:upd H2 A.m (.ins CM A.dx (J0 {A with o:=o',L:=L'} (d:Nat) f (S.r:Nat) (S.c:Nat))) A.L=some (.lst us):=by rw[B7 (λe=>by have:=h2.m;rw[<-e,N]at this;cases this)];exact N
 generalize upd H2 A.m (.ins CM A.dx (J0 {A with o:=o',L:=L'} (d:Nat) f (S.r:Nat) (S.c:Nat)))=H3 at h3 k3 j J I O⊢;have i:Mo H H3:=λb zs e=>j _ _ (s2 _ _ (s1 _ _ e));have V:l∉({A with o:=o',L:=L'}:Ad).own:=λhm=>by
  simp only[Ad.own,mem_cons,not_mem_nil,or_false]at hm g;rcases hm with z|z|z|z|z
  ·exact g (.inl z)
  ·exact g (.inr (.inl z))
  ·obtain⟨_,y,_⟩:=M;rw[z,y]at B;cases B
  ·exact U z
  ·exact g (.inr (.inr (.inr (.inr z))))
 have Y:=hY.len;rw[length_map]at Y;refine⟨_,rfl,A.m,A.dx,_,rfl,h3.m,rfl,_,rfl,(ixT (j _ _ ht) rfl ?_)⟩;refine⟨{A with o:=o',L:=L'},vb,us',vf,_,f,_,_,S.out,S.frs,mv ks,l,ys,rfl,h3,hO.mo i,hF.imp λ_ _ z=>FAt.mo i z,hT.end_,af,J,V,hY.imp λ_ _ z=>VAt.mo j z,by omega,λs4 aj k H4 aa k4 h4 ai ag=> ?_⟩;obtain⟨am,ab,ap⟩:=id h4.o;have X:=h3.mo k4;refine⟨_,rfl,_,rfl,A.m,CM,A.dx,_,_,rfl,h4.m,RM.cl,RM.n3,l3,o',am,_,rfl,ab,rfl,o',L',us',rfl,h4.o,_,_,rfl,rfl, ?_⟩;have ak:∀ {x:Addr},H3 x=none->H x=none:=λ{x} e=>by
  cases e':H x with
  |none=>rfl
  |some ob=>
   by_cases z:x∈A.own
   ·exfalso;simp only[Ad.own,mem_cons,not_mem_nil,or_false]at z;rcases z with z|z|z|z|z<;>rw[z]at e
    ·rw[h3.m]at e;cases e
    ·rw[h3.bl]at e;cases e
    ·rw[I]at e;cases e
    ·rw[O]at e;cases e
    ·rw[h3.s]at e;cases e
   ·rw[k3 _ _ (s2 _ _ (s1 _ _ e')) z]at e;cases e
 have kq:Kq A H H4:=λb ob e n=>by
  have e1:=s1 _ _ e;refine k4 _ _ (k3 _ _ (s2 _ _ e1) n) λhm=> ?_;simp only[Ad.own,mem_cons,not_mem_nil,or_false]at hm n;rcases hm with z|z|z|z|z
  ·exact n (.inl z)
  ·exact n (.inr (.inl z))
  ·rw[z,p]at e1;cases e1
  ·rw[z,u]at e1;cases e1
  ·exact n (.inr (.inr (.inr (.inr z))))
 have v:=hM.mo kq;refine q _ {A with o:=o',L:=L',s:=s4} ks H4 (by have e1:=hC.len;have e2:=R.len;rw[length_map]at e2;rw[e1,e2]) ⟨rfl,λx hx=> ?_⟩ kq hK ⟨vb,us',aj,k,h4,hB.imp λ_ _ z=>BAt.mo v z,R.imp λ_ _ z=>ClAt.mo (λb zs e=>X _ _ (j _ _ e)) z,ai,ag⟩;simp only[Ad.own,mem_cons,not_mem_nil,or_false]at hx⊢;rcases hx with z|z|z|z|z
 ·exact .inl (.inl z)
 ·exact .inl (.inr (.inl z))
 ·exact .inr (by rw[z];exact T p)
 ·exact .inr (by rw[z];exact T u)
 ·exact .inr (by rw[z];exact ak aa)
inductive spAnswerW (CM C Pt:Addr) (vs:List V) (H:Hp) (Q:VK):Prop
 |mk:∀(A:Ad) (bs:List Bk) (most:Nat) (S:Ms),(vs=[.ref A.m])->(MAt CM C H A bs most S)->(((∃x t,S.out=some (.value x)/\VRa S.cs t x/\_Q.size t<=400000/\ED H Pt _Q.lamAt _Q.lamQ/\∀p r H1 H',(∀b ob,H b=some ob->b≠Pt->H1 b=some ob)->ED H1 Pt _Q.lamAt _Q.lamQ->(_Q.R (λa=>H a=none) H1 t).1 r->H1 p=none->H'=upd H1 p (.tup [.str "value",r])->Q (.ref p) H')\/(U1 S.out=false/\∀u,OAt H S.out u->Q u H)))->spAnswerW CM C Pt vs H Q
noncomputable def U7(CM C Pt:Addr):Sp:=λvs H Q _=>spAnswerW CM C Pt vs H Q
theorem ok_answer{gf:Str->Addr}{gd:Str->FuncData}(F:Fun Z "answer" "Machine.answer" s_answer (gf "answer") (gd "answer"))(RM:MCls Z CM gf gd)
  (N6:FnOk P w Z mg base CX0 1 (gf "has_value") (gd "has_value") G0 (HL CM))
  (GW:Cn P w Z mg base CX0 5 "plain" LK (_Q.spPlain C Pt)):
  FnOk P w Z mg base CX0 6 (gf "answer") (gd "answer") G0 (U7 CM C Pt):=by
 refine F.om sc_answer λj A b s H vs Q E hr h=> ?_;obtain⟨A,bs,d,S,rfl,hA,h⟩:=h;obtain⟨vb,us,vf,c,hM,hB,hC,hF,hO⟩:=hA.ex;have nd:=sc_answer.nd;have hu:=hr.units0;refine⟨_,(A9 (D2 (E9 (Z:=Z) (mN (pv 0) RM.cl RM.m_has_value N6 hr RM.b_has_value) (λ_=>rfl)) (B5 (C2 (C3 (A0 B8 (A0 (cC GW hr (A0 (F5 (pv 0) rfl) (A0 (ixE Z w (F5 (pv 0) rfl) B0) B4))) B4))))) C4)
   (B5 (C2 (F5 (pv 0) rfl)))), ?_⟩
 refine⟨_,rfl,A.m,A.dx,_,rfl,hM.m,rfl,A,_,c,_,_,U1 S.out,rfl,hM.m,hO.ov,_,rfl, ?_⟩;rcases h with⟨x,t,ho,hx,f,hT,a⟩|⟨hv,a⟩
 ·rw[ho]at hO⊢;obtain⟨p,v,rfl,hp,e⟩:=hO;refine ifT rfl ⟨_,rfl,A.m,CM,A.dx,_,_,rfl,hM.m,RM.cl,RM.n3,l3,_,rfl,A.m,CM,A.dx,_,_,rfl,hM.m,RM.cl,RM.n5,l5,(ixT hp rfl ?_)⟩;refine⟨A.o,A.L,us,t,v,rfl,hM.o,VRa.vr hC hx e,f,hT,λr H1 k1 i hR=>⟨(by show 2<=sizeLine;decide),λp1 g=> ?_⟩⟩;exact a p1 r H1 _ k1 i hR g rfl
 ·rw[hv];exact ifF nZ ⟨_,rfl,A.m,CM,A.dx,_,_,rfl,hM.m,RM.cl,RM.n5,l5,a c hO⟩
inductive spMInitW (CM C:Addr) (vs:List V) (H:Hp) (Q:VK):Prop
 |mk:∀(x dx bl num:Addr) (vb xs:List V) (main most:Nat) (bs:List Bk) (bk:Bk) (ws:List Vl),(vs=[.ref x,.ref bl,.int (main:Nat),.ref num,.int (most:Nat)])->(H x=some (.ins CM dx []))->(H bl=some (.lst vb))->(All2 (BAt H) bs vb)->(bs[main]? =some bk)->(H num=some (.lst xs))->(All2 (VAt H) ws xs)->(ws.length<=bk.sz)->(∀A H',A.m=x->(∀b ob,H b=some ob->b≠x->H' b=some ob)->(∀y∈A.own,y=x\/H y=none)->MAt CM C H' A bs most ⟨[],[begun main bk.sz ws],none,0,0⟩->Q .non H')->spMInitW CM C vs H Q
noncomputable def OX(CM C:Addr):Sp:=λvs H Q _=>spMInitW CM C vs H Q
theorem ok_minit(F:Fun Z "__init__" "Machine.__init__" s_minit fim dim)(B:NoG mg)(RM:MCls Z CM gf gd)(M_Cells:Mk Z C fi)(m_Cells:mg "Cells"=some (.ref C))
  (G___init__:FnOk P w Z mg base CX0 1 fi di G0 (NO C))(b___init__:Binds Z di G0 [])
  (V3:Cn P w Z mg base CX0 1 "entered" apZ WO):
  FnOk P w Z mg base CX0 3 fim dim alZ (OX CM C):=by
 refine F.om sc_minit λax A S s H vs Q E hr h=> ?_;obtain⟨x,dx,bl,ac,vb,xs,M,a,bs,bk,ws,rfl,hx,O,hB,ak,r,hW,aw,q⟩:=h;have nd:=sc_minit.nd;have hu:=hr.units0;have zz:(1000:Nat)<=sizeLine:=by decide
 refine⟨_,(A9 (N2 (pv 0) (F9 (P8 (Z:=Z)) rfl B.list_ J8 (A0 (pv 1) B4)) rfl)
   (A9 (N2 (pv 0) (pv 4) rfl)
   (A9 (N2 (pv 0) (LI M_Cells G___init__ (hr.mono (by omega)) rfl m_Cells b___init__ .nil Q4) rfl)
   (A9 (N2 (pv 0) (E7 (A0 (cC V3 hr (A0 (pv 1) (A0 (pv 2) (A0 (pv 3) B4)))) B4)) rfl)
   (A9 (N2 (pv 0) K4 rfl)
   (A9 (N2 (pv 0) B0 rfl)
   (B5 (N2 (pv 0) B0 rfl)))))))), ?_⟩
 refine⟨_,rfl,bl,vb,rfl,.inl (SqL.of O),λnb G=> ?_⟩;have t1:=A8 G (.lst vb);refine⟨_,rfl,x,CM,dx,_,rfl,t1 _ _ hx,RM.cl,RM.n1,(by decide), ?_⟩;have k:nb≠x:=λe=>by rw[e,hx]at G;cases G
 have k1:∀b ob,H b=some ob->b≠x->upd (upd H nb (.lst vb)) x (.ins CM dx [("blocks",.ref nb)]) b=some ob:=λb ob e n=>by rw[B7 n];exact t1 _ _ e
 have j:upd (upd H nb (.lst vb)) x (.ins CM dx [("blocks",.ref nb)]) nb=some (.lst vb):=by rw[B7 k];exact A7
 have X:upd (upd H nb (.lst vb)) x (.ins CM dx [("blocks",.ref nb)]) x=some (.ins CM dx [("blocks",.ref nb)]):=A7;show K0 _ _ _ _ (upd (upd H nb (.lst vb)) x (.ins CM dx [("blocks",.ref nb)]));generalize upd (upd H nb (.lst vb)) x (.ins CM dx [("blocks",.ref nb)])=H1 at k1 j X⊢;refine⟨_,rfl,_,rfl,x,CM,dx,_,rfl,X,RM.cl,RM.n2,(by show 1<1000;decide), ?_⟩;have k2:∀b ob,H1 b=some ob->b≠x->upd H1 x (.ins CM dx [("blocks",.ref nb),("most",.int (a:Nat))]) b=some ob:=λb ob e n=>by rw[B7 n];exact e
 have m:upd H1 x (.ins CM dx [("blocks",.ref nb),("most",.int (a:Nat))]) x=some (.ins CM dx [("blocks",.ref nb),("most",.int (a:Nat))]):=A7;show K0 _ _ _ _ (upd H1 x (.ins CM dx [("blocks",.ref nb),("most",.int (a:Nat))]));generalize upd H1 x (.ins CM dx [("blocks",.ref nb),("most",.int (a:Nat))])=H2 at k2 m⊢;have l:∀ {b:Addr} {ob:HO},H b=some ob->(∀c d e,ob≠ .ins c d e)->b≠x:=λ{b ob} e n z=>by rw[z,hx]at e;exact n _ _ _ (Option.some.inj e).symm
 refine λo2 d2 D aj ai=>⟨o2,d2,rfl,A7,λLq ap=>⟨rfl, ?_⟩⟩;obtain⟨s3,aa,i⟩:=QA (C:=C) D aj ai ap;generalize upd (upd (upd (upd H2 d2 (.own o2)) o2 (.ins C d2 [])) Lq (.lst [])) o2 (.ins C d2 [("in_order",.ref Lq)])=H3 at s3 aa⊢;refine⟨_,rfl,x,CM,dx,_,rfl,s3 _ _ m,RM.cl,RM.n3,(by show 2<1000;decide), ?_⟩;obtain⟨ar,ah,ao⟩:=id aa;have L:o2≠x:=λe=>by rw[e,m]at D;cases D
 have J:Lq≠x:=λe=>by rw[e,m]at i;cases i
 have k4:∀b ob,H3 b=some ob->b≠x->upd H3 x (.ins CM dx [("blocks",.ref nb),("most",.int (a:Nat)),("store",.ref o2)]) b=some ob:=λb ob e n=>by rw[B7 n];exact e
 have v:upd H3 x (.ins CM dx [("blocks",.ref nb),("most",.int (a:Nat)),("store",.ref o2)]) x=some (.ins CM dx [("blocks",.ref nb),("most",.int (a:Nat)),("store",.ref o2)]):=A7;show K0 _ _ _ _ (upd H3 x (.ins CM dx [("blocks",.ref nb),("most",.int (a:Nat)),("store",.ref o2)]));generalize upd H3 x (.ins CM dx [("blocks",.ref nb),("most",.int (a:Nat)),("store",.ref o2)])=H4 at k4 v⊢;have kk:∀b ob,H b=some ob->b≠x->H4 b=some ob:=λb ob e n=>k4 _ _ (s3 _ _ (k2 _ _ (k1 _ _ e n) n)) n;have mo:Mo H H4:=λb zs e=>kk _ _ e (l e λc d f z=>nomatch z);obtain⟨u2,ag,ab,av,au,rfl,R,an,am,al⟩:=G5 hB ak;have ae:=hW.len;refine⟨_,rfl,_,rfl,_,rfl,bl,vb,M,bk.sz,ac,xs,rfl,kk _ _ O (l O λc d f z=>nomatch z),⟨ab,_,_,ag,mo _ _ R⟩,.inl (kk _ _ r (l r λc d f z=>nomatch z)),by omega,by omega,λp H5 s5 aq=>⟨(by show 1<=sizeLine;omega),λsl g=> ?_⟩⟩;have t6:=A8 g (.lst [.ref p]);have af:=t6 _ _ (s5 _ _ v);refine⟨_,rfl,x,CM,dx,_,rfl,af,RM.cl,RM.n4,(by show 3<1000;decide), ?_⟩;have I:sl≠x:=λe=>by rw[e,s5 _ _ v]at g;cases g
 have k7:∀b ob,upd H5 sl (.lst [.ref p]) b=some ob->b≠x->upd (upd H5 sl (.lst [.ref p])) x (.ins CM dx [("blocks",.ref nb),("most",.int (a:Nat)),("store",.ref o2),("standing",.ref sl)]) b=some ob:=λb ob e n=>by rw[B7 n];exact e
 have W:upd (upd H5 sl (.lst [.ref p])) x (.ins CM dx [("blocks",.ref nb),("most",.int (a:Nat)),("store",.ref o2),("standing",.ref sl)]) x=some (.ins CM dx [("blocks",.ref nb),("most",.int (a:Nat)),("store",.ref o2),("standing",.ref sl)]):=A7;have o:upd (upd H5 sl (.lst [.ref p])) x (.ins CM dx [("blocks",.ref nb),("most",.int (a:Nat)),("store",.ref o2),("standing",.ref sl)]) sl=some (.lst [.ref p]):=by rw[B7 I];exact A7
 show K0 _ _ _ _ (upd (upd H5 sl (.lst [.ref p])) x (.ins CM dx [("blocks",.ref nb),("most",.int (a:Nat)),("store",.ref o2),("standing",.ref sl)]));generalize upd (upd H5 sl (.lst [.ref p])) x (.ins CM dx [("blocks",.ref nb),("most",.int (a:Nat)),("store",.ref o2),("standing",.ref sl)])=H7 at k7 W o⊢;refine⟨_,rfl,x,CM,dx,_,rfl,W,RM.cl,RM.n5,(by show 4<1000;decide), ?_⟩;refine⟨_,rfl,x,CM,dx,_,rfl,A7,RM.cl,RM.n6,(by show 5<1000;decide), ?_⟩;refine⟨_,rfl,x,CM,dx,_,rfl,A7,RM.cl,RM.n7,(by show 6<1000;decide), ?_⟩;have k8:∀b ob,H7 b=some ob->b≠x->upd (upd (upd H7 x (.ins CM dx [("blocks",.ref nb),("most",.int (a:Nat)),("store",.ref o2),("standing",.ref sl),("outcome",.non)])) x (.ins CM dx [("blocks",.ref nb),("most",.int (a:Nat)),("store",.ref o2),("standing",.ref sl),("outcome",.non),("rows_so_far",.int 0)])) x (.ins CM dx (J0 ⟨x,dx,nb,o2,Lq,sl⟩ (a:Nat) .non 0 0)) b=some ob:=λb ob e n=>by rw[B7 n,B7 n,B7 n];exact e
 have u:∀b ob,H4 b=some ob->b≠x->H7 b=some ob:=λb ob e n=>k7 _ _ (t6 _ _ (s5 _ _ e)) n;have T:Mo H (upd (upd (upd H7 x (.ins CM dx [("blocks",.ref nb),("most",.int (a:Nat)),("store",.ref o2),("standing",.ref sl),("outcome",.non)])) x (.ins CM dx [("blocks",.ref nb),("most",.int (a:Nat)),("store",.ref o2),("standing",.ref sl),("outcome",.non),("rows_so_far",.int 0)])) x (.ins CM dx (J0 ⟨x,dx,nb,o2,Lq,sl⟩ (a:Nat) .non 0 0))):=λb zs e=>k8 _ _ (u _ _ (mo _ _ e) (l e λc d f z=>nomatch z)) (l e λc d f z=>nomatch z);have U:∀ {b:Addr} {zs:List V},H5 b=some (.tup zs)->b≠x:=λ{b zs} e z=>by rw[z,s5 _ _ v]at e;cases e
 have ad:Mo H5 (upd (upd (upd H7 x (.ins CM dx [("blocks",.ref nb),("most",.int (a:Nat)),("store",.ref o2),("standing",.ref sl),("outcome",.non)])) x (.ins CM dx [("blocks",.ref nb),("most",.int (a:Nat)),("store",.ref o2),("standing",.ref sl),("outcome",.non),("rows_so_far",.int 0)])) x (.ins CM dx (J0 ⟨x,dx,nb,o2,Lq,sl⟩ (a:Nat) .non 0 0))):=λb zs e=>k8 _ _ (k7 _ _ (t6 _ _ e) (U e)) (U e);have fr:∀ {y:Addr},H2 y=none->H y=none:=λ{y} e=>by
  cases e':H y with
  |none=>rfl
  |some ob=>
   by_cases z:y=x
   ·rw[z,m]at e;cases e
   ·rw[k2 _ _ (k1 _ _ e' z) z]at e;cases e
 have N:H sl=none:=by
  cases e':H sl with
  |none=>rfl
  |some ob=>rw[s5 _ _ (kk _ _ e' I)]at g;cases g
 have t:H4 nb=some (.lst vb):=k4 _ _ (s3 _ _ (k2 _ _ j k)) k;have Y:H4 Lq=some (.lst []):=k4 _ _ ao J;refine q ⟨x,dx,nb,o2,Lq,sl⟩ _ rfl (λb ob e n=>k8 _ _ (u _ _ (kk _ _ e n) n) n) (λy hy=> ?_) ⟨vb,[],[.ref p],.non,⟨A7,k8 _ _ (u _ _ t k) k,⟨ar,k8 _ _ (u _ _ (k4 _ _ ah L) L) L,k8 _ _ (u _ _ Y J) J⟩,k8 _ _ o I, ?_, ?_, ?_⟩,hB.imp λ_ _ z=>BAt.mo T z,.nil,.cons ⟨p,_,[],rfl,FrAt.mo' ad aq, ?_,.nil⟩ .nil,rfl⟩
 ·simp only[Ad.own,mem_cons,not_mem_nil,or_false]at hy;rcases hy with z|z|z|z|z
  ·exact .inl z
  ·exact .inr (by rw[z];exact G)
  ·exact .inr (by rw[z];exact fr D)
  ·exact .inr (by rw[z];exact fr i)
  ·exact .inr (by rw[z];exact N)
 ·exact λ(e:Lq=sl)=>by rw[<-e,s5 _ _ Y]at g;cases g
 ·exact λ(e:nb=sl)=>by rw[<-e,s5 _ _ t]at g;cases g
 ·exact λ(e:nb=Lq)=>by
   have:H2 nb=some (.lst vb):=k2 _ _ j k;rw[e,i]at this;cases this
 ·show All2 _ (ws++List.replicate (bk.sz - ws.length) (.sc .non)) _;rw[ae];exact(hW.imp λ_ _ z=>VAt.mo T z).app (Z6 _)
end
noncomputable abbrev Tb(H:Hp)(Pt:Addr):Prop:=ED H Pt _Q.lamAt _Q.lamQ
section
theorem MR.ntbl(h:MR CM C H A bs us fs most out r c){b:Addr}{ob:HO}(e:H b=some ob)(n1:∀x y z,ob≠ .ins x y z)(n2:∀x,ob≠ .lst x):b∉A.own:=λhm=>by
 obtain⟨dx,ho,hL⟩:=h.o;simp only[Ad.own,mem_cons,not_mem_nil,or_false]at hm;rcases hm with z|z|z|z|z<;>rw[z]at e
 ·rw[h.m]at e;exact n1 _ _ _ (Option.some.inj e).symm
 ·rw[h.bl]at e;exact n2 _ (Option.some.inj e).symm
 ·rw[ho]at e;exact n1 _ _ _ (Option.some.inj e).symm
 ·rw[hL]at e;exact n2 _ (Option.some.inj e).symm
 ·rw[h.s]at e;exact n2 _ (Option.some.inj e).symm
theorem MAt.tab(h:MAt CM C H A bs most S)(k:Kq A H H')(hT:Tb H Pt):Tb H' Pt:=by
 obtain⟨vb,us,fs,a,hM,_⟩:=h.ex;obtain⟨qs,e1,e2,e3⟩:=hT;refine⟨qs,k _ _ e1 (hM.ntbl e1 (λ_ _ _ z=>nomatch z) λ_ z=>nomatch z),e2, ?_⟩;rcases e3 with e3|⟨c2,e3,e4⟩
 ·exact .inl e3
 ·exact .inr ⟨c2,e3,k _ _ e4 (hM.ntbl e4 (λ_ _ _ z=>nomatch z) λ_ z=>nomatch z)⟩
theorem MAt.ptn(h:MAt CM C H A bs most S)(hT:Tb H Pt):Pt∉A.own:=by
 obtain⟨vb,us,fs,a,hM,_⟩:=h.ex;obtain⟨qs,e1,_⟩:=hT;exact hM.ntbl e1 (λ_ _ _ z=>nomatch z) λ_ z=>nomatch z
theorem MAt.pt{H':Hp}(h:MAt CM C H A bs most S)(hT:Tb H Pt)(k:∀b ob,H b=some ob->b≠Pt->H' b=some ob):MAt CM C H' A bs most S:=by
 have hp:=h.ptn hT;obtain⟨vb,us,fs,a,hM,hB,hC,hF,hO⟩:=h.ex;obtain⟨qs,e1,_⟩:=hT;have m:Mo H H':=λb xs e=>k _ _ e λz=>by rw[z,e1]at e;cases e
 have kk:∀ {b:Addr} {ob:HO},b∈A.own->H b=some ob->H' b=some ob:=λ{b ob} hb e=>k _ _ e λz=>hp (z▸hb);obtain⟨dx,ho,hL⟩:=hM.o;exact⟨vb,us,fs,a,⟨kk (AE A) hM.m,kk (by simp[Ad.own]) hM.bl,⟨dx,kk (by simp[Ad.own]) ho,kk (aMZ A) hL⟩,kk (BO A) hM.s,hM.nLs,hM.nbs,hM.nbL⟩,hB.imp λ_ _ z=>BAt.mo m z,hC.imp λ_ _ z=>ClAt.mo m z,hF.imp λ_ _ z=>FAt.mo m z,hO.mo m⟩
end
end _M
namespace _T
open PySem _L _C _S _M
open _B hiding ifT ifF NoG top
inductive Tv where
 |sc (v:V)|pair (h t:Tv)|fn (b:Nat) (xs:Tv)|nil|cons (x xs:Tv)
noncomputable def Tv.nodes:Tv->Nat
 | .sc _=>0
 | .pair h t=>h.nodes+t.nodes+1
 | .fn _ xs=>xs.nodes+1
 | .nil=>0
 | .cons x xs=>x.nodes+xs.nodes
noncomputable def tl:List Tv->Tv
 | []=> .nil
 |x::xs=> .cons x (tl xs)
noncomputable def VT(cs:List Cl):Tv->(Vl->Prop)×(List Vl->Prop)
 | .sc v=>(λx=>x=.sc v,λ_=>False)
 | .pair h t=>(λx=>∃k a b,x=.cell k/\cs[k]? =some (.pair a b)/\(VT cs h).1 a/\(VT cs t).1 b,λ_=>False)
 | .fn b xs=>(λx=>∃k vs,x=.cell k/\cs[k]? =some (.fn (b:Nat) vs)/\(VT cs xs).2 vs,λ_=>False)
 | .nil=>(λ_=>False,λvs=>vs=[])
 | .cons x r=>(λ_=>False,λvs=>∃v w,vs=v::w/\(VT cs x).1 v/\(VT cs r).2 w)
noncomputable abbrev V1(cs:List Cl)(t:Tv)(x:Vl):Prop:=(VT cs t).1 x
theorem a8Z:∀ {ts:List Tv} {vs:List Vl},All2 (V1 cs) ts vs->(VT cs (tl ts)).2 vs
 | [],_,h=>by cases h;rfl
 |_::_,_,h=>by cases h with|cons h1 h2=>exact⟨_,_,rfl,h1,a8Z h2⟩
theorem bgZ:∀ {ts:List Tv} {vs:List Vl},(VT cs (tl ts)).2 vs->All2 (V1 cs) ts vs
 | [],_,h=>by cases h;exact .nil
 |_::_,_,⟨_,_,e,h1,h2⟩=>by subst e;exact .cons h1 (bgZ h2)
theorem VT.more{cs cs':List Cl}(m:∀(k:Nat) c,cs[k]? =some c->cs'[k]? =some c):∀t:Tv,(∀ {x:Vl},(VT cs t).1 x->(VT cs' t).1 x)/\∀ {vs:List Vl},(VT cs t).2 vs->(VT cs' t).2 vs
 | .sc _=>⟨λh=>h,λh=>h⟩
 | .pair h t=>⟨λ⟨k,a,b,e,hk,h1,h2⟩=>⟨k,a,b,e,m _ _ hk,(VT.more m h).1 h1,(VT.more m t).1 h2⟩,λh=>h⟩
 | .fn b xs=>⟨λ⟨k,vs,e,hk,h1⟩=>⟨k,vs,e,m _ _ hk,(VT.more m xs).2 h1⟩,λh=>h⟩
 | .nil=>⟨λh=>h,λh=>h⟩
 | .cons x xs=>⟨λh=>h,λ⟨v,w,e,h1,h2⟩=>⟨v,w,e,(VT.more m x).1 h1,(VT.more m xs).2 h2⟩⟩
theorem V1.app(c:Cl)(h:V1 cs t x):V1 (cs++ [c]) t x:=
 (VT.more (λk d e=>by rw[getElem?_append_left (List.getElem?_eq_some_iff.mp e).1];exact e) t).1 h
theorem V1.lt(h:V1 cs t (.cell k)):k<cs.length:=by
 cases t with
 |sc v=>cases h
 |pair a b=>obtain⟨j,_,_,e,hj,_⟩:=h;cases e;exact(List.getElem?_eq_some_iff.mp hj).1
 |fn b xs=>obtain⟨j,_,e,hj,_⟩:=h;cases e;exact(List.getElem?_eq_some_iff.mp hj).1
 |nil=>cases h
 |cons a b=>cases h
theorem TY{us:List Vl}(h:∀k,Vl.cell k∈us->Rc cs ws k){k:Nat}(r:Rc cs us k):Rc cs ws k:=by
 induction r with
 |root h1=>exact h _ h1
 |step _ h1 h2 ih=>exact .step ih h1 h2
theorem aQZ(hK:Kept cs ws ks){c:Cl}(hr:Rc cs ws k)(hc:cs[k]? =some c):(ks.map λk=>mvc ks (L3 cs k))[ks.idxOf k]? =some (mvc ks c):=by
 have hm:=(hK.is k).mpr hr;have a:ks.idxOf k<ks.length:=idxOf_lt_length_of_mem hm;rw[getElem?_map,List.getElem?_eq_getElem a,List.getElem_idxOf a,map_some,V6 hc]
theorem VT.sw(hK:Kept cs ws ks):∀t:Tv,(∀ {x:Vl},(VT cs t).1 x->(∀k,x=.cell k->Rc cs ws k)->(VT (ks.map λk=>mvc ks (L3 cs k)) t).1 (mv ks x))/\∀ {vs:List Vl},(VT cs t).2 vs->(∀k,Vl.cell k∈vs->Rc cs ws k)->(VT (ks.map λk=>mvc ks (L3 cs k)) t).2 (vs.map (mv ks))
 | .sc _=>⟨λh _=>by cases h;rfl,λh=>h.elim⟩
 | .pair h t=>⟨λ⟨k,a,b,e,hk,h1,h2⟩ hr=>by
   subst e;have c:=hr k rfl;refine⟨ks.idxOf k,mv ks a,mv ks b,rfl,aQZ hK c hk,(VT.sw hK h).1 h1 λj e=> ?_,(VT.sw hK t).1 h2 λj e=> ?_⟩
   ·exact .step c hk (by rw[<-e];simp[vin])
   ·exact .step c hk (by rw[<-e];simp[vin]),λh=>h.elim⟩
 | .fn b xs=>⟨λ⟨k,vs,e,hk,h1⟩ hr=>by
   subst e;have c:=hr k rfl;exact⟨ks.idxOf k,vs.map (mv ks),rfl,aQZ hK c hk,(VT.sw hK xs).2 h1 λj e=> .step c hk e⟩,λh=>h.elim⟩
 | .nil=>⟨λh=>h.elim,λh _=>by cases h;rfl⟩
 | .cons x xs=>⟨λh=>h.elim,λ⟨v,w,e,h1,h2⟩ hr=>by
   subst e;exact⟨mv ks v,w.map (mv ks),rfl,(VT.sw hK x).1 h1 λj e=>hr j (by rw[<-e];exact mem_cons_self ..),(VT.sw hK xs).2 h2 λj e=>hr j (mem_cons_of_mem _ e)⟩⟩
theorem QI{cs:List Cl}{k:Nat}{c:Cl}(hc:cs[k]? =some c)(r:Rc cs [.cell k] j):j=k\/Rc cs (vin c) j:=by
 induction r with
 |root h=>rw[mem_singleton]at h;cases h;exact .inl rfl
 |step _ h1 h2 ih=>
  rcases ih with e|ih
  ·subst e;rw[hc]at h1;cases h1;exact .inr (.root h2)
  ·exact .inr (.step ih h1 h2)
theorem WW{us vs:List Vl}(r:Rc cs (us++vs) j):Rc cs us j\/Rc cs vs j:=by
 induction r with
 |root h=>
  rcases mem_append.mp h with h|h
  ·exact .inl (.root h)
  ·exact .inr (.root h)
 |step _ h1 h2 ih=>
  rcases ih with ih|ih
  ·exact .inl (.step ih h1 h2)
  ·exact .inr (.step ih h1 h2)
theorem bwZ(r:Rc cs [] j):False:=by
 induction r with
 |root h=>cases h
 |step _ _ _ ih=>exact ih
theorem cVZ(r:Rc cs [.sc v] j):False:=by
 induction r with
 |root h=>rw[mem_singleton]at h;cases h
 |step _ _ _ ih=>exact ih
theorem VT.cover:∀t:Tv,(∀ {x:Vl},(VT cs t).1 x->∃L:List Nat,L.length=t.nodes/\∀j,Rc cs [x] j->j∈L)/\∀ {vs:List Vl},(VT cs t).2 vs->∃L:List Nat,L.length=t.nodes/\∀j,Rc cs vs j->j∈L
 | .sc _=>⟨λh=>by cases h;exact⟨[],rfl,λj r=>(cVZ r).elim⟩,λh=>h.elim⟩
 | .pair h t=>⟨λ⟨k,a,b,e,hk,h1,h2⟩=>by
   subst e;obtain⟨L1,l1,c1⟩:=(VT.cover h).1 h1;obtain⟨Lq,l2,c2⟩:=(VT.cover t).1 h2;refine⟨k::(L1++Lq),by simp[Tv.nodes,l1,l2],λj r=> ?_⟩;rcases QI hk r with e|r
   ·rw[e];exact mem_cons_self ..
   ·refine mem_cons_of_mem _ (mem_append.mpr ?_);rcases WW (us:=[a]) (vs:=[b]) r with r|r
    ·exact .inl (c1 j r)
    ·exact .inr (c2 j r),λh=>h.elim⟩
 | .fn b xs=>⟨λ⟨k,vs,e,hk,h1⟩=>by
   subst e;obtain⟨L1,l1,c1⟩:=(VT.cover xs).2 h1;refine⟨k::L1,by simp[Tv.nodes,l1],λj r=> ?_⟩;rcases QI hk r with e|r
   ·rw[e];exact mem_cons_self ..
   ·exact mem_cons_of_mem _ (c1 j r),λh=>h.elim⟩
 | .nil=>⟨λh=>h.elim,λh=>by cases h;exact⟨[],rfl,λj r=>(bwZ r).elim⟩⟩
 | .cons x xs=>⟨λh=>h.elim,λ⟨v,w,e,h1,h2⟩=>by
   subst e;obtain⟨L1,l1,c1⟩:=(VT.cover x).1 h1;obtain⟨Lq,l2,c2⟩:=(VT.cover xs).2 h2;refine⟨L1++Lq,by simp[Tv.nodes,l1,l2],λj r=>mem_append.mpr ?_⟩;rcases WW (us:=[v]) (vs:=w) r with r|r
   ·exact .inl (c1 j r)
   ·exact .inr (c2 j r)⟩
theorem UD:∀(ks L:List Nat),ks.Nodup->(∀k∈ks,k∈L)->ks.length<=L.length
 | [],L,_,_=>zero_le _
 |k::ks,L,hn,h=>by
  rw[nodup_cons]at hn;have h1:=UD ks (L.erase k) hn.2 λj hj=>by
   refine(List.mem_erase_of_ne λ(e:j=k)=>hn.1 (by rw[<-e];exact hj)).mpr (h j (mem_cons_of_mem _ hj))
  have h2:(L.erase k).length=L.length - 1:=List.length_erase_of_mem (h k (mem_cons_self ..));have h3:0<L.length:=List.length_pos_of_mem (h k (mem_cons_self ..));simp only[length_cons];omega
structure Tf where
 k:Nat
 at_:Nat
 sl:List Tv
 st:List Tv
inductive To where
 |value (t:Tv)|refused (w:Str)|dry|deep
structure Tm where
 frs:List Tf
 out:Option To
 r:Nat
 c:Nat
 n:Nat
inductive Eo3 where
 |fr (d:Nat) (sl st:List Tv)|rf (w:Str)|new (t:Tv) (st:List Tv)
inductive Et (sl:List Tv):Rk->List Tv->Eo3->Prop
 |push {v st}:scV v=true->Et sl (.push v) st (.fr 1 sl (st++ [.sc v]))
 |non {st}:Et sl .non st (.fr 1 sl (st++ [.sc .non]))
 |load {j v st}:sl[j]? =some v->Et sl (.load j) st (.fr 1 sl (st++ [v]))
 |keep {j v st}:j<sl.length->Et sl (.keep j) (st++ [v]) (.fr 1 (sl.take j++ [v]++sl.drop (j+1)) st)
 |twoV {k a b v st}:k<6->Bd a->Bd b->_N.tw k a b=[.str "value",v]->scV v=true->Et sl (.two k) (st++ [.sc (.int a),.sc (.int b)]) (.fr 1 sl (st++ [.sc v]))
 |twoR {k a b w st}:k<6->Bd a->Bd b->_N.tw k a b=[.str "refused",.str w]->Et sl (.two k) (st++ [.sc (.int a),.sc (.int b)]) (.rf w)
 |cons {x y st}:Et sl .cons (st++ [x,y]) (.new (.pair x y) st)
 |headN {st}:Et sl .head (st++ [.sc .non]) (.rf "head")
 |tailN {st}:Et sl .tail (st++ [.sc .non]) (.rf "tail")
 |head {h t st}:Et sl .head (st++ [.pair h t]) (.fr 1 sl (st++ [h]))
 |tail {h t st}:Et sl .tail (st++ [.pair h t]) (.fr 1 sl (st++ [t]))
 |emptyN {st}:Et sl .empty (st++ [.sc .non]) (.fr 1 sl (st++ [.sc (.bl true)]))
 |empty {h t st}:Et sl .empty (st++ [.pair h t]) (.fr 1 sl (st++ [.sc (.bl false)]))
 |not {b st}:Et sl .not (st++ [.sc (.bl b)]) (.fr 1 sl (st++ [.sc (.bl (!b))]))
 |skip {n st}:Et sl (.skip n) st (.fr (1+n) sl st)
 |unless {n b st}:Et sl (.unless n) (st++ [.sc (.bl b)]) (.fr (1+if b=true then 0 else n) sl st)
 |close {b n st xs}:xs.length=n->n<=10->Et sl (.close b n) (st++xs) (.new (.fn b (tl xs)) st)
noncomputable def WE(bs:List Bk)(f:Tf):Option Rw:=(bs[f.k]?).bind λb=>b.rows[f.at_]?
noncomputable def N4(n sz:Nat)(vs:List Tv):Tf:=⟨n,0,vs++List.replicate (sz - vs.length) (.sc .non),[]⟩
inductive ActT (bs:List Bk) (most:Nat) (fs:List Tf) (f:Tf) (r c n:Nat):Rw->Tm->Prop
 |own {rk d sl st}:Et f.sl rk f.st (.fr d sl st)->ActT bs most fs f r c n (.own rk) ⟨fs++ [⟨f.k,f.at_+d,sl,st⟩],none,r+1,c,n⟩
 |new {rk t st}:Et f.sl rk f.st (.new t st)->ActT bs most fs f r c n (.own rk) ⟨fs++ [⟨f.k,f.at_+1,f.sl,st++ [t]⟩],none,r+1,c,n+1⟩
 |rf {rk w}:Et f.sl rk f.st (.rf w)->ActT bs most fs f r c n (.own rk) ⟨[],some (.refused w),r+1,c,n⟩
 |last {v st}:fs=[]->f.st=st++ [v]->ActT bs most fs f r c n .back ⟨[],some (.value v),r+1,c,n⟩
 |back {gs g v st}:fs=gs++ [g]->f.st=st++ [v]->ActT bs most fs f r c n .back ⟨gs++ [⟨g.k,g.at_,g.sl,g.st++ [v]⟩],none,r+1,c,n⟩
 |dry {w}:IP w->most<=c->ActT bs most fs f r c n w ⟨[],some .dry,r+1,c,n⟩
 |deep {w}:IP w->c<most->60<=fs.length+1->ActT bs most fs f r c n w ⟨[],some .deep,r+1,c+1,n⟩
 |call {b bk st xs}:c<most->fs.length+1<60->f.st=st++xs->bs[b]? =some bk->xs.length<=bk.sz->ActT bs most fs f r c n (.call b xs.length) ⟨fs++ [⟨f.k,f.at_+1,f.sl,st⟩]++ [N4 b bk.sz xs],none,r+1,c+1,n⟩
 |apply {b bk st xs x}:c<most->fs.length+1<60->f.st=st++ [.fn b (tl xs),x]->bs[b]? =some bk->xs.length+1<=bk.sz->
  ActT bs most fs f r c n .apply ⟨fs++ [⟨f.k,f.at_+1,f.sl,st⟩]++ [N4 b bk.sz (xs++ [x])],none,r+1,c+1,n⟩
noncomputable def GH(bs:List Bk)(most:Nat)(T T':Tm):Prop:=∃fs f r c n w,T=⟨fs++ [f],none,r,c,n⟩/\WE bs f=some w/\ActT bs most fs f r c n w T'
structure SimF (cs:List Cl) (t:Tf) (f:Fr):Prop where
 k:f.k=t.k
 at_:f.at_=t.at_
 sl:All2 (V1 cs) t.sl f.sl
 st:All2 (V1 cs) t.st f.st
noncomputable def dDZ(cs:List Cl):Option To->Option Ou->Prop
 |none,o=>o=none
 |some (.value t),o=>∃x,o=some (.value x)/\V1 cs t x
 |some (.refused w),o=>o=some (.refused w)
 |some .dry,o=>o=some .dry
 |some .deep,o=>o=some .deep
structure Sim (S:Ms) (T:Tm):Prop where
 frs:All2 (SimF S.cs) T.frs S.frs
 out:dDZ S.cs T.out S.out
 r:S.r=T.r
 c:S.c=T.c
 n:S.cs.length<=T.n
 okc:Okc S.cs
theorem Y7(c:Cl){ts:List Tv}{vs:List Vl}(h:All2 (V1 cs) ts vs):All2 (V1 (cs++ [c])) ts vs:=h.imp λ_ _ z=>V1.app c z
theorem SimF.app(c:Cl)(h:SimF cs t f):SimF (cs++ [c]) t f:=⟨h.k,h.at_,Y7 c h.sl,Y7 c h.st⟩
theorem IU(h:Okc cs)(hc:∀j,Vl.cell j∈vin c->j<cs.length):Okc (cs++ [c]):=λk j d hk hj=>by
 rw[length_append];rcases lt_or_ge k cs.length with hl|hl
 ·rw[getElem?_append_left hl]at hk;exact lt_of_lt_of_le (h k j d hk hj) (le_add_right _ _)
 ·rw[getElem?_append_right hl]at hk;have:k - cs.length=0:=by
   cases e:k - cs.length with
   |zero=>rfl
   |succ n=>rw[e]at hk;simp at hk
  rw[this]at hk;cases hk;exact lt_of_lt_of_le (hc j hj) (le_add_right _ _)
theorem MM{ts:List Tv}{vs:List Vl}(h:All2 (V1 cs) ts vs):∀j,Vl.cell j∈vs->j<cs.length:=λj hj=>by
 obtain⟨i,hi⟩:=getElem?_of_mem hj;obtain⟨t,_,ht⟩:=h.get hi;exact V1.lt ht
theorem XA{sl:List Tv}{sl':List Vl}(hs:All2 (V1 cs) sl sl'){st:List Tv}(h:Et sl rk st eo):∀ {st':List Vl},All2 (V1 cs) st st'->
  (match eo with
   | .fr d sl1 st1=>∃sl2 st2,Er cs sl' rk st' (.fr d sl2 st2)/\All2 (V1 cs) sl1 sl2/\All2 (V1 cs) st1 st2
   | .rf w=>Er cs sl' rk st' (.rf w)
   | .new t st1=>∃c st2,Er cs sl' rk st' (.new c st2)/\All2 (V1 cs) st1 st2/\V1 (cs++ [c]) t (.cell cs.length)/\∀j,Vl.cell j∈vin c->j<cs.length):=by
 have n1:∀ {v:V},V1 cs (.sc v) (.sc v):=rfl;cases h with
 |push h=>exact λ{st'} ht=>⟨_,_,.push h,hs,ht.app (.cons n1 .nil)⟩
 |non=>exact λ{st'} ht=>⟨_,_,.non,hs,ht.app (.cons n1 .nil)⟩
 |load h=>
  intro st' ht;obtain⟨v',hv,hR⟩:=G5 hs h;exact⟨_,_,.load hv,hs,ht.app (.cons hR .nil)⟩
 |keep h=>
  intro st' ht;obtain⟨ds,d,rfl,h1,h2⟩:=C9 ht;exact⟨_,_,.keep (by rw[<-hs.len];exact h),((AL hs _).app (.cons h2 .nil)).app (_M.all2_drop hs _),h1⟩
 |twoV h1 h2 h3 h4 h5=>
  intro st' ht;obtain⟨ds,es,rfl,t1,t2⟩:=E6 ht;cases t2 with
  |cons a1 t3=>
   cases t3 with
   |cons a2 t4=>
    cases t4;cases a1;cases a2;exact⟨_,_,.twoV h1 h2 h3 h4 h5,hs,t1.app (.cons n1 .nil)⟩
 |twoR h1 h2 h3 h4=>
  intro st' ht;obtain⟨ds,es,rfl,t1,t2⟩:=E6 ht;cases t2 with
  |cons a1 t3=>
   cases t3 with
   |cons a2 t4=>
    cases t4;cases a1;cases a2;exact .twoR h1 h2 h3 h4
 |cons=>
  intro st' ht;obtain⟨ds,es,rfl,t1,t2⟩:=E6 ht;cases t2 with
  | @cons _ x' _ _ a1 t3=>
   cases t3 with
   | @cons _ y' _ _ a2 t4=>
    cases t4;refine⟨.pair x' y',ds,.cons,t1,⟨cs.length,x',y',rfl,by simp,V1.app _ a1,V1.app _ a2⟩,λj hj=> ?_⟩;exact MM (vs:=[x',y']) (.cons a1 (.cons a2 .nil)) j hj
 |headN=>
  intro st' ht;obtain⟨ds,d,rfl,h1,h2⟩:=C9 ht;cases h2;exact .headN
 |tailN=>
  intro st' ht;obtain⟨ds,d,rfl,h1,h2⟩:=C9 ht;cases h2;exact .tailN
 |head=>
  intro st' ht;obtain⟨ds,d,rfl,h1,k,a,b,rfl,hk,ha,hb⟩:=C9 ht;exact⟨_,_,.head hk,hs,h1.app (.cons ha .nil)⟩
 |tail=>
  intro st' ht;obtain⟨ds,d,rfl,h1,k,a,b,rfl,hk,ha,hb⟩:=C9 ht;exact⟨_,_,.tail hk,hs,h1.app (.cons hb .nil)⟩
 |emptyN=>
  intro st' ht;obtain⟨ds,d,rfl,h1,h2⟩:=C9 ht;cases h2;exact⟨_,_,.emptyN,hs,h1.app (.cons n1 .nil)⟩
 |empty=>
  intro st' ht;obtain⟨ds,d,rfl,h1,k,a,b,rfl,hk,ha,hb⟩:=C9 ht;exact⟨_,_,.empty,hs,h1.app (.cons n1 .nil)⟩
 |not=>
  intro st' ht;obtain⟨ds,d,rfl,h1,h2⟩:=C9 ht;cases h2;exact⟨_,_,.not,hs,h1.app (.cons n1 .nil)⟩
 |skip=>exact λ{st'} ht=>⟨_,_,.skip,hs,ht⟩
 |«unless»=>
  intro st' ht;obtain⟨ds,d,rfl,h1,h2⟩:=C9 ht;cases h2;exact⟨_,_,.unless,hs,h1⟩
 | @close b n st1 xs h h'=>
  intro st' ht;obtain⟨ds,es,rfl,t1,t2⟩:=E6 ht;refine⟨.fn b es,ds,.close (by rw[<-t2.len];exact h) h',t1,⟨cs.length,es,rfl,by simp, ?_⟩,MM t2⟩;exact a8Z (Y7 _ t2)
theorem abZ(h:SimF cs t f):FN bs f=WE bs t:=by
 unfold FN WE;rw[h.k,h.at_]
theorem TU:∀n:Nat,All2 (V1 cs) (List.replicate n (.sc .non)) (List.replicate n (.sc .non))
 |0=> .nil
 |n+1=> .cons rfl (TU n)
theorem AM{ts:List Tv}{vs:List Vl}(h:All2 (V1 cs) ts vs):SimF cs (N4 n sz ts) (begun n sz vs):=by
 refine⟨rfl,rfl, ?_,.nil⟩;show All2 _ (ts++List.replicate (sz - ts.length) (.sc .non)) (vs++List.replicate (sz - vs.length) (.sc .non));rw[h.len];exact h.app (TU _)
theorem UF(h:Sim S T)(st:GH bs most T T'):∃S',UW bs most S S'/\Sim S' T':=by
 obtain⟨fs,f,r,c,n,w,rfl,hw,ha⟩:=st;obtain⟨cs,v,t,r',c'⟩:=S;obtain⟨hF,hO,hr,hc,hn,hk⟩:=h;simp only at hF hO hr hc hn hk;subst hr hc;obtain⟨gs,g,rfl,hG,hg⟩:=C9 hF;obtain rfl:=hO;have a:FN bs g=some w:=by rw[abZ hg];exact hw
 have lG:=hG.len;cases ha with
 |own hE=>
  obtain⟨s,m,e1,e2,e3⟩:=XA hg.sl hE hg.st;exact⟨_,⟨cs,gs,g,_,_,_,rfl,a,.own e1⟩,hG.app (.cons ⟨hg.k,by rw[hg.at_],e2,e3⟩ .nil),rfl,rfl,rfl,hn,hk⟩
 |new hE=>
  obtain⟨cl,m,e1,e2,e3,e4⟩:=XA hg.sl hE hg.st;refine⟨_,⟨cs,gs,g,_,_,_,rfl,a,.new e1⟩, ?_,rfl,rfl,rfl, ?_,IU hk e4⟩
  ·exact(hG.imp λ_ _ z=>SimF.app cl z).app (.cons ⟨hg.k,by rw[hg.at_],Y7 cl hg.sl,(Y7 cl e2).app (.cons e3 .nil)⟩ .nil)
  ·show(cs++ [cl]).length<=n+1;rw[length_append];exact Nat.add_le_add_right hn 1
 |rf hE=>exact⟨_,⟨cs,gs,g,_,_,_,rfl,a,.rf (XA hg.sl hE hg.st)⟩,.nil,rfl,rfl,rfl,hn,hk⟩
 |last l j=>
  subst l;cases hG;have h1:=hg.st;rw[j]at h1;obtain⟨ds,d,e,h2,h3⟩:=C9 h1;exact⟨_,⟨cs,[],g,_,_,_,rfl,a,.last rfl e⟩,.nil,⟨_,rfl,h3⟩,rfl,rfl,hn,hk⟩
 |back l j=>
  subst l;obtain⟨u,g',rfl,q,i⟩:=C9 hG;have h1:=hg.st;rw[j]at h1;obtain⟨ds,d,e,h2,h3⟩:=C9 h1;exact⟨_,⟨cs,_,g,_,_,_,rfl,a,.back rfl e⟩,q.app (.cons ⟨i.k,i.at_,i.sl,i.st.app (.cons h3 .nil)⟩ .nil),rfl,rfl,rfl,hn,hk⟩
 |dry h1 h2=>exact⟨_,⟨cs,gs,g,_,_,_,rfl,a,.dry h1 h2⟩,.nil,rfl,rfl,rfl,hn,hk⟩
 |deep h1 h2 h3=>exact⟨_,⟨cs,gs,g,_,_,_,rfl,a,.deep h1 h2 (by omega)⟩,.nil,rfl,rfl,rfl,hn,hk⟩
 | @call b bk st1 xs h1 h2 h3 h4 h5=>
  have h6:=hg.st;rw[h3]at h6;obtain⟨ds,es,e,h7,h8⟩:=E6 h6;have l8:=h8.len;rw[l8]at a;have n1:SimF cs ⟨f.k,f.at_+1,f.sl,st1⟩ ⟨g.k,g.at_+1,g.sl,ds⟩:=⟨hg.k,congrArg (·+1) hg.at_,hg.sl,h7⟩;exact⟨_,⟨cs,gs,g,_,_,_,rfl,a,.call (xs:=es) h1 (by omega) e h4 (by omega)⟩,(hG.app (.cons n1 .nil)).app (.cons (AM h8) .nil),rfl,rfl,rfl,hn,hk⟩
 | @apply b bk st1 xs x h1 h2 h3 h4 h5=>
  have h6:=hg.st;rw[h3]at h6;obtain⟨ds,es,e,h7,h8⟩:=E6 h6;cases h8 with
  |cons a1 t3=>
   cases t3 with
   |cons a2 t4=>
    cases t4;obtain⟨k,vs,rfl,p,o⟩:=a1;have hx:=bgZ o;have lx:=hx.len;have n1:SimF cs ⟨f.k,f.at_+1,f.sl,st1⟩ ⟨g.k,g.at_+1,g.sl,ds⟩:=⟨hg.k,congrArg (·+1) hg.at_,hg.sl,h7⟩;exact⟨_,⟨cs,gs,g,_,_,_,rfl,a,.apply h1 (by omega) e p h4 (by omega)⟩,(hG.app (.cons n1 .nil)).app (.cons (AM (hx.app (.cons a2 .nil))) .nil),rfl,rfl,rfl,hn,hk⟩
theorem cjZ(h:Okc cs)(hK:Kept cs ws ks):Okc (ks.map λk=>mvc ks (L3 cs k)):=λi j c hi hj=>by
 rw[getElem?_map]at hi;obtain⟨k,hk,rfl⟩:=Option.map_eq_some_iff.mp hi;rw[length_map];rw[YB]at hj;obtain⟨x,hx,e⟩:=mem_map.mp hj;cases x with
 |sc v=>cases e
 |cell m=>
  cases e;have hr:=(hK.is k).mp (mem_of_getElem? hk);cases hc:cs[k]? with
  |none=>unfold L3 at hx;rw[hc]at hx;simp[vin]at hx
  |some d=>
   rw[V6 hc]at hx;exact idxOf_lt_length_of_mem ((hK.is m).mpr (.step hr hc hx))
theorem UO(hK:Kept cs ws ks){ts:List Tv}{vs:List Vl}(h:All2 (V1 cs) ts vs)(hr:∀k,Vl.cell k∈vs->Rc cs ws k):All2 (V1 (ks.map λk=>mvc ks (L3 cs k))) ts (vs.map (mv ks)):=by
 induction h with
 |nil=>exact .nil
 | @cons t v ts vs h1 _ ih=>exact .cons ((VT.sw hK t).1 h1 λk e=>hr k (by rw[<-e];exact mem_cons_self ..)) (ih λk e=>hr k (mem_cons_of_mem _ e))
theorem UN(hK:Kept cs ws ks)(hO:Okc cs)(hV:Okv cs.length ws):ks.length<=cs.length:=P9 _ _ hK.nd λk hk=>((hK.is k).mp hk).lt hO hV
theorem WL(h:Sim S T)(he:T.out≠none->T.frs=[])(hV:Okv S.cs.length (hangs S.out S.frs))(hK:Kept S.cs (hangs S.out S.frs) ks):Sim (swS ks S) T:=by
 obtain⟨cs,g,i,r,c⟩:=S;obtain⟨d,a,r',c',n⟩:=T;obtain⟨hF,hO,hr,hc,hn,hk⟩:=h;simp only at hF hO hr hc hn hk hV hK he;have b:=UN hK hk hV;refine⟨?_, ?_,hr,hc, ?_,cjZ hk hK⟩
 ·show All2 _ d (g.map (mvF (mv ks)));cases ho:a with
  |some o=>rw[he (by rw[ho];intro z;cases z)]at hF⊢;cases hF;exact .nil
  |none=>
   rw[ho]at hO;obtain rfl:=hO;have go:∀ {ts:List Tf} {fs:List Fr},All2 (SimF cs) ts fs->(∀k,Vl.cell k∈fs.flatMap (λf=>f.sl++f.st)->Rc cs (hangs none g) k)->All2 (SimF (ks.map λk=>mvc ks (L3 cs k))) ts (fs.map (mvF (mv ks))):=λ{ts fs} h=>by
    induction h with
    |nil=>exact λ_=> .nil
    | @cons t f ts fs h1 _ ih=>
     intro hr;refine .cons ⟨h1.k,h1.at_,UO hK h1.sl λk e=>hr k ?_,UO hK h1.st λk e=>hr k ?_⟩ (ih λk e=>hr k ?_)
     ·simp[e]
     ·simp[e]
     ·rw[flatMap_cons];exact mem_append_right _ e
   exact go hF λk e=> .root e
 ·show dDZ _ a (i.map (mvO (mv ks)));cases a with
  |none=>obtain rfl:=hO;rfl
  |some o=>
   cases o with
   |value t=>
    obtain⟨x,rfl,hx⟩:=hO;exact⟨mv ks x,rfl,(VT.sw hK t).1 hx λk e=> .root (by rw[<-e];exact mem_singleton.mpr rfl)⟩
   |refused w=>obtain rfl:=hO;rfl
   |dry=>obtain rfl:=hO;rfl
   |deep=>obtain rfl:=hO;rfl
 ·show(ks.map λk=>mvc ks (L3 cs k)).length<=n;rw[length_map];exact le_trans b hn
noncomputable def Q0:_Q.Pv->Tv
 | .int i=> .sc (.int i)
 | .bl b=> .sc (.bl b)
 | .nil=> .sc .non
 | .cons h t=> .pair (Q0 h) (Q0 t)
theorem X5:∀ {p:_Q.Pv} {x:Vl},V1 cs (Q0 p) x->VRa cs p x
 | .int _,_,h=>h
 | .bl _,_,h=>h
 | .nil,_,h=>h
 | .cons _ _,_,⟨k,a,b,e,hk,h1,h2⟩=>⟨k,a,b,e,hk,X5 h1,X5 h2⟩
noncomputable def cTZ(T:Tm):List Tv:=T.frs.flatMap λf=>f.sl++f.st
theorem EM:∀ {ts:List Tf} {fs:List Fr},All2 (SimF cs) ts fs->All2 (V1 cs) (ts.flatMap λf=>f.sl++f.st) (fs.flatMap λf=>f.sl++f.st)
 | [],_,h=>by cases h;exact .nil
 |_::_,_,h=>by
  cases h with
  |cons h1 h2=>
   rw[flatMap_cons,flatMap_cons];exact(h1.sl.app h1.st).app (EM h2)
theorem Q8(h:Sim S T):S.out=none↔T.out=none:=by
 have ho:=h.out;cases e:T.out with
 |none=>rw[e]at ho;exact⟨λ_=>rfl,λ_=>ho⟩
 |some o=>
  rw[e]at ho;refine⟨λz=> ?_,λz=>(nomatch z)⟩;cases o with
  |value t=>obtain⟨x,hx,_⟩:=ho;rw[hx]at z;cases z
  |refused w=>rw[show S.out=_ from ho]at z;cases z
  |dry=>rw[show S.out=_ from ho]at z;cases z
  |deep=>rw[show S.out=_ from ho]at z;cases z
theorem SF{bk:Bk}{ts:List Tv}{vs:List Vl}(h:All2 (V1 []) ts vs):Sim ⟨[],[begun main bk.sz vs],none,0,0⟩ ⟨[N4 main bk.sz ts],none,0,0,0⟩:=
 ⟨.cons (AM h) .nil,rfl,rfl,rfl,le_refl _,λk j c hk=>by simp at hk⟩
end _T
namespace _P
open PySem _L _C _S _M _T
open _B hiding ifT ifF NoG top
inductive Kd where
 |n|t|l|L|F|fn (k:Kd)
noncomputable abbrev Hs:=List (List Kd×Kd)
inductive Prt:Kd->Kd->Prop
 |l:Prt .n .l
 |L:Prt .l .L
 |F:Prt (.fn .n) .F
noncomputable def len:Tv->Nat
 | .pair _ t=>len t+1
 |_=>0
inductive Ty (hs:Hs) (N:Nat):Sum Kd (List Kd)->Tv->Prop
 |n {i:Int}:Bd i->Ty hs N (.inl .n) (.sc (.int i))
 |t {b:Bool}:Ty hs N (.inl .t) (.sc (.bl b))
 |nil {p k}:Prt p k->Ty hs N (.inl k) (.sc .non)
 |pair {p k h r}:Prt p k->Ty hs N (.inl p) h->Ty hs N (.inl k) r->len r+1<=N->Ty hs N (.inl k) (.pair h r)
 |fn {b xs ps k}:hs[b]? =some (ps++ [.n],k)->Ty hs N (.inr ps) xs->Ty hs N (.inl (.fn k)) (.fn b xs)
 |none:Ty hs N (.inr []) .nil
 |some {k ks x xs}:Ty hs N (.inl k) x->Ty hs N (.inr ks) xs->Ty hs N (.inr (k::ks)) (.cons x xs)
noncomputable abbrev T1(hs:Hs)(N:Nat)(k:Kd)(v:Tv):Prop:=Ty hs N (.inl k) v
theorem Ty.mono{N M:Nat}(h:N<=M)(z:Ty hs N s v):Ty hs M s v:=by
 induction z with
 |n hb=>exact .n hb
 |t=>exact .t
 |nil hp=>exact .nil hp
 |pair hp _ _ hl b a=>exact .pair hp b a (le_trans hl h)
 |fn hb _ ih=>exact .fn hb ih
 |none=>exact .none
 |some _ _ b a=>exact .some b a
theorem aPZ:∀ {ks:List Kd} {xs:Tv},Ty hs N (.inr ks) xs->∃ts,xs=tl ts/\All2 (T1 hs N) ks ts
 | [],_,h=>by cases h;exact⟨[],rfl,.nil⟩
 |k::ks,_,h=>by
  cases h with
  |some h1 h2=>
   obtain⟨ts,e,h3⟩:=aPZ h2;exact⟨_::ts,by rw[e];rfl,.cons h1 h3⟩
theorem bcZ:∀ {ks:List Kd} {ts:List Tv},All2 (T1 hs N) ks ts->Ty hs N (.inr ks) (tl ts)
 | [],_,h=>by cases h;exact .none
 |k::ks,_,h=>by cases h with|cons h1 h2=>exact .some h1 (bcZ h2)
theorem PD(h:Ty hs N s v):(s=.inl .n\/s=.inl .t->∃p,v=Q0 p/\_Q.size p<=1)/\(s=.inl .l->∃p,v=Q0 p/\_Q.size p<=len v+1)/\(s=.inl .L->∃p,v=Q0 p/\_Q.size p<=len v*(N+1)+1):=by
 induction h with
 | @n i hb=>exact⟨λ_=>⟨.int i,rfl,le_refl _⟩,(λz=>nomatch z),(λz=>nomatch z)⟩
 | @t b=>exact⟨λ_=>⟨.bl b,rfl,le_refl _⟩,(λz=>nomatch z),(λz=>nomatch z)⟩
 |nil hp=>cases hp<;>exact⟨(λz=>by rcases z with z|z<;>cases z),λ_=>⟨.nil,rfl,by show 1<=_;omega⟩,λ_=>⟨.nil,rfl,by show 1<=_;omega⟩⟩
 | @pair p k h r hp h1 h2 hl ih1 ih2=>
  cases hp with
  |l=>
   obtain⟨a,ea,sa⟩:=ih1.1 (.inl rfl);obtain⟨b,eb,sb⟩:=ih2.2.1 rfl;refine⟨(λz=>by rcases z with z|z<;>cases z),λ_=>⟨.cons a b,by rw[ea,eb];rfl, ?_⟩,(λz=>nomatch z)⟩;show _Q.size a+_Q.size b<=len r+1+1;omega
  |L=>
   obtain⟨a,ea,sa⟩:=ih1.2.1 rfl;obtain⟨b,eb,sb⟩:=ih2.2.2 rfl;refine⟨(λz=>by rcases z with z|z<;>cases z),(λz=>nomatch z),λ_=>⟨.cons a b,by rw[ea,eb];rfl, ?_⟩⟩;have d:len h<=N:=by
    cases h1 with
    |nil=>exact zero_le _
    |pair _ _ _ c=>exact c
   show _Q.size a+_Q.size b<=(len r+1)*(N+1)+1;rw[add_mul,Nat.one_mul];omega
  |F=>exact⟨(λz=>by rcases z with z|z<;>cases z),(λz=>nomatch z),(λz=>nomatch z)⟩
 |fn hb _ _=>exact⟨(λz=>by rcases z with z|z<;>cases z),(λz=>nomatch z),(λz=>nomatch z)⟩
 |none=>exact⟨(λz=>by rcases z with z|z<;>cases z),(λz=>nomatch z),(λz=>nomatch z)⟩
 |some _ _ _ _=>exact⟨(λz=>by rcases z with z|z<;>cases z),(λz=>nomatch z),(λz=>nomatch z)⟩
theorem len_le(h:T1 hs N k v):len v<=N:=by
 cases h with
 |n _=>exact zero_le _
 |t=>exact zero_le _
 |nil _=>exact zero_le _
 |pair _ _ _ hl=>exact hl
 |fn _ _=>exact zero_le _
structure At where
 st:List Kd
 sl:List (Option Kd)
noncomputable def SlK(hs:Hs)(N:Nat):Option Kd->Tv->Prop
 |none,_=>True
 |some k,v=>T1 hs N k v
inductive RowK (hs:Hs) (told:Kd) (tys:List At) (i:Nat):Rw->At->Prop
 |pushN {m st sl}:Bd m->tys[i+1]? =some ⟨st++ [.n],sl⟩->RowK hs told tys i (.own (.push (.int m))) ⟨st,sl⟩
 |pushT {b st sl}:tys[i+1]? =some ⟨st++ [.t],sl⟩->RowK hs told tys i (.own (.push (.bl b))) ⟨st,sl⟩
 |non {p k st sl}:Prt p k->tys[i+1]? =some ⟨st++ [k],sl⟩->RowK hs told tys i (.own .non) ⟨st,sl⟩
 |load {j k st sl}:sl[j]? =some (some k)->tys[i+1]? =some ⟨st++ [k],sl⟩->RowK hs told tys i (.own (.load j)) ⟨st,sl⟩
 |keep {j k st sl}:j<sl.length->tys[i+1]? =some ⟨st,sl.take j++ [some k]++sl.drop (j+1)⟩->RowK hs told tys i (.own (.keep j)) ⟨st++ [k],sl⟩
 |two {m st sl}:m<6->tys[i+1]? =some ⟨st++ [if m=3\/m=4 then .t else .n],sl⟩->RowK hs told tys i (.own (.two m)) ⟨st++ [.n,.n],sl⟩
 |cons {p k st sl}:Prt p k->tys[i+1]? =some ⟨st++ [k],sl⟩->RowK hs told tys i (.own .cons) ⟨st++ [p,k],sl⟩
 |head {p k st sl}:Prt p k->tys[i+1]? =some ⟨st++ [p],sl⟩->RowK hs told tys i (.own .head) ⟨st++ [k],sl⟩
 |tail {p k st sl}:Prt p k->tys[i+1]? =some ⟨st++ [k],sl⟩->RowK hs told tys i (.own .tail) ⟨st++ [k],sl⟩
 |empty {p k st sl}:Prt p k->tys[i+1]? =some ⟨st++ [.t],sl⟩->RowK hs told tys i (.own .empty) ⟨st++ [k],sl⟩
 |not {st sl}:tys[i+1]? =some ⟨st++ [.t],sl⟩->RowK hs told tys i (.own .not) ⟨st++ [.t],sl⟩
 |skip {m st sl}:tys[i+(1+m)]? =some ⟨st,sl⟩->RowK hs told tys i (.own (.skip m)) ⟨st,sl⟩
 |unless {m st sl}:tys[i+(1+0)]? =some ⟨st,sl⟩->tys[i+(1+m)]? =some ⟨st,sl⟩->RowK hs told tys i (.own (.unless m)) ⟨st++ [.t],sl⟩
 |close {b ps k st sl}:hs[b]? =some (ps++ [.n],k)->ps.length<=10->tys[i+1]? =some ⟨st++ [.fn k],sl⟩->RowK hs told tys i (.own (.close b ps.length)) ⟨st++ps,sl⟩
 |call {b ps k st sl}:hs[b]? =some (ps,k)->tys[i+1]? =some ⟨st++ [k],sl⟩->RowK hs told tys i (.call b ps.length) ⟨st++ps,sl⟩
 |apply {k st sl}:tys[i+1]? =some ⟨st++ [k],sl⟩->RowK hs told tys i .apply ⟨st++ [.fn k,.n],sl⟩
 |back {st sl}:RowK hs told tys i .back ⟨st++ [told],sl⟩
noncomputable def wt:Rw->Nat
 | .own .cons=>1
 | .own (.close _ _)=>1
 |_=>0
structure BkOk (hs:Hs) (b:Nat) (bk:Bk) (ps:List Kd) (told:Kd) (tys:List At):Prop where
 hd:hs[b]? =some (ps,told)
 sz:bk.sz=ps.length+3
 t0:tys[0]? =some ⟨[],ps.map some++ [none,none,none]⟩
 len:tys.length=bk.rows.length
 row:∀i r,bk.rows[i]? =some r->∃a,tys[i]? =some a/\RowK hs told tys i r a
 few:bk.rows.length<=80
 wt:(bk.rows.map wt).sum<=8
 st:∀a∈tys,a.st.length<=60
 sl:∀a∈tys,a.sl.length<=13
noncomputable def BsOk(hs:Hs)(bs:List Bk):Prop:=∀b ps k,hs[b]? =some (ps,k)->∃bk tys,bs[b]? =some bk/\BkOk hs b bk ps k tys
noncomputable def left(bk:Bk)(f:Tf):Nat:=bk.rows.length - f.at_
noncomputable def T6(bk:Bk)(f:Tf):Nat:=((bk.rows.drop f.at_).map wt).sum
structure FK (hs:Hs) (N:Nat) (bk:Bk) (f:Tf) (ps:List Kd) (told:Kd) (tys:List At) (all st:List Kd) (sl:List (Option Kd)):Prop where
 ok:BkOk hs f.k bk ps told tys
 at_:tys[f.at_]? =some ⟨all,sl⟩
 st:All2 (T1 hs N) st f.st
 sl:All2 (SlK hs N) sl f.sl
inductive Wt (hs:Hs) (bs:List Bk) (N:Nat) (mt:Kd):List Tf->Kd->Nat->Nat->Prop
 |nil:Wt hs bs N mt [] mt 0 0
 |snoc {fs f k0 k ps bk tys st sl R W}:Wt hs bs N mt fs k0 R W->bs[f.k]? =some bk->FK hs N bk f ps k0 tys (st++ [k]) st sl->Wt hs bs N mt (fs++ [f]) k (R+left bk f) (W+T6 bk f)
theorem GI{N M:Nat}(h:N<=M){ks:List Kd}{vs:List Tv}(z:All2 (T1 hs N) ks vs):All2 (T1 hs M) ks vs:=z.imp λ_ _ y=>y.mono h
theorem JU{N M:Nat}(h:N<=M):∀ {k:Option Kd} {v:Tv},SlK hs N k v->SlK hs M k v
 |none,_,_=>trivial
 |some _,_,z=>Ty.mono h z
theorem FK.mono{hs:Hs}{N M:Nat}(h:N<=M){bk:Bk}{f:Tf}{ps:List Kd}{told:Kd}{tys:List At}{all st:List Kd}{sl:List (Option Kd)}(z:FK hs N bk f ps told tys all st sl):FK hs M bk f ps told tys all st sl:=
 ⟨z.ok,z.at_,GI h z.st,z.sl.imp λ_ _ y=>JU h y⟩
theorem Wt.mono{N M:Nat}(h:N<=M){mt:Kd}{R:Nat}(z:Wt hs bs N mt fs k R W):Wt hs bs M mt fs k R W:=by
 induction z with
 |nil=>exact .nil
 |snoc _ hb hf ih=>exact .snoc ih hb (hf.mono h)
structure Run (hs:Hs) (bs:List Bk) (most:Nat) (mt:Kd) (T:Tm) (M:Nat):Prop where
 ex:∃fs f r c n ps bk tys k0 st sl R W,T=⟨fs++ [f],none,r,c,n⟩/\Wt hs bs n mt fs k0 R W/\bs[f.k]? =some bk/\FK hs n bk f ps k0 tys st st sl/\fs.length<=c/\c<=most/\n+W+T6 bk f<=8*(c+1)/\R+left bk f+(most - c)*81<=M
theorem ZJ(h:Prt p k)(h':Prt q k):p=q:=by cases h<;>cases h'<;>rfl
theorem ZN{a b:Int}(h1: -_N.GR<=a)(h2:a<=_N.GR)(hb:b≠0):Bd (a.fdiv b):=by
 have c:(a.fdiv b).natAbs<=a.natAbs:=by
  rcases Int.lt_or_gt_of_ne hb with h|h
  ·rw[<-Int.neg_fdiv_neg,Int.fdiv_eq_ediv_of_nonneg _ (by omega)];have:=Int.natAbs_ediv_le_natAbs (-a) (-b)
   rwa [Int.natAbs_neg]at this
  ·rw[Int.fdiv_eq_ediv_of_nonneg _ (by omega)];exact Int.natAbs_ediv_le_natAbs a b
 have e:_N.GR=10000000000000000000000000000000000000000:=rfl;rw[e]at h1 h2;generalize a.fdiv b=q at c⊢;constructor
 ·rw[e];omega
 ·rw[e];omega
theorem VM{k:Nat}(hk:k<6)(a b:Int):(∃v,_N.tw k a b=[.str "value",v]/\scV v=true/\∀(hs:Hs) (N:Nat),Bd a->Bd b->T1 hs N (if k=3\/k=4 then .t else .n) (.sc v))\/∃w,_N.tw k a b=[.str "refused",.str w]:=by
 have hb:∀m:Int,(∃v,_N.bnd m=[.str "value",v]/\scV v=true/\∀(hs:Hs) (N:Nat),T1 hs N .n (.sc v))\/∃w,_N.bnd m=[.str "refused",.str w]:=λm=>by
  unfold _N.bnd;by_cases c:m>_N.GR\/m< -_N.GR
  ·rw[if_pos c];exact .inr ⟨_,rfl⟩
  ·rw[if_neg c];exact .inl ⟨_,rfl,rfl,λ_ _=> .n ⟨by omega,by omega⟩⟩
 have h6:k=0\/k=1\/k=2\/k=3\/k=4\/k=5:=by omega
 rcases h6 with rfl|rfl|rfl|rfl|rfl|rfl
 ·rcases hb (a+b)with⟨v,h1,h2,h3⟩|h
  ·exact .inl ⟨v,h1,h2,λhs N _ _=>h3 hs N⟩
  ·exact .inr h
 ·rcases hb (a - b)with⟨v,h1,h2,h3⟩|h
  ·exact .inl ⟨v,h1,h2,λhs N _ _=>h3 hs N⟩
  ·exact .inr h
 ·rcases hb (a*b)with⟨v,h1,h2,h3⟩|h
  ·exact .inl ⟨v,h1,h2,λhs N _ _=>h3 hs N⟩
  ·exact .inr h
 ·exact .inl ⟨_,rfl,rfl,λ_ _ _ _=> .t⟩
 ·exact .inl ⟨_,rfl,rfl,λ_ _ _ _=> .t⟩
 ·show(∃v,_N.quo a b=[.str "value",v]/\_)\/∃w,_N.quo a b=[.str "refused",.str w];unfold _N.quo;by_cases c:b=0
  ·rw[if_pos c];exact .inr ⟨_,rfl⟩
  ·rw[if_neg c];refine .inl ⟨_,rfl,rfl,λhs N ha hb=> .n ?_⟩;obtain⟨h1,h2⟩:=ha;exact ZN h1 h2 c
noncomputable def ddZ(hs:Hs)(N:Nat)(tys:List At)(i:Nat)(slK:List (Option Kd))(rk:Rk):Eo3->Prop
 | .fr d sl st=>1<=d/\∃stK slK',tys[i+d]? =some ⟨stK,slK'⟩/\All2 (T1 hs N) stK st/\All2 (SlK hs N) slK' sl
 | .new t st=>wt (.own rk)=1/\∃stK k,tys[i+1]? =some ⟨stK++ [k],slK⟩/\All2 (T1 hs N) stK st/\T1 hs (N+1) k t
 | .rf _=>True
theorem EG{α β:Type}{R:α->β->Prop}{as:List α}{a b:α}{cs:List β}(h:All2 R (as++ [a,b]) cs):∃ds x y,cs=ds++ [x,y]/\All2 R as ds/\R a x/\R b y:=by
 obtain⟨ds,es,e,h1,h2⟩:=E6 h;cases h2 with
 |cons h3 h4=>
  cases h4 with
  |cons h5 h6=>cases h6;exact⟨ds,_,_,e,h1,h3,h5⟩
theorem bzZ{stK:List Kd}{slK:List (Option Kd)}{sl st:List Tv}(h:RowK hs told tys i (.own rk) ⟨stK,slK⟩)(hst:All2 (T1 hs N) stK st)(hsl:All2 (SlK hs N) slK sl):
  ∃eo,Et sl rk st eo/\ddZ hs N tys i slK rk eo:=by
 cases h with
 |pushN hb hn=>exact⟨_,.push rfl,le_refl _,_,_,hn,hst.app (.cons (.n hb) .nil),hsl⟩
 |pushT hn=>exact⟨_,.push rfl,le_refl _,_,_,hn,hst.app (.cons .t .nil),hsl⟩
 |non hp hn=>exact⟨_,.non,le_refl _,_,_,hn,hst.app (.cons (.nil hp) .nil),hsl⟩
 |load hj hn=>
  obtain⟨v,hv,hR⟩:=G5 hsl hj;exact⟨_,.load hv,le_refl _,_,_,hn,hst.app (.cons hR .nil),hsl⟩
 |keep hj hn=>
  obtain⟨ds,d,rfl,h1,h2⟩:=C9 hst;exact⟨_,.keep (by rw[<-hsl.len];exact hj),le_refl _,_,_,hn,h1,((AL hsl _).app (.cons (show SlK hs N (some _) d from h2) .nil)).app (_M.all2_drop hsl _)⟩
 |two hm hn=>
  obtain⟨ds,x,y,rfl,h1,h2,h3⟩:=EG hst;cases h2 with
  |n ha=>
   cases h3 with
   |n hb=>
    rcases VM hm _ _ with⟨v,e,hv,hK⟩|⟨w,e⟩
    ·exact⟨_,.twoV hm ha hb e hv,le_refl _,_,_,hn,h1.app (.cons (hK _ _ ha hb) .nil),hsl⟩
    ·exact⟨_,.twoR hm ha hb e,trivial⟩
   |nil hp=>cases hp
   |pair hp=>cases hp
  |nil hp=>cases hp
  |pair hp=>cases hp
 |cons hp hn=>
  obtain⟨ds,x,y,rfl,h1,h2,h3⟩:=EG hst;have hl:=len_le h3;exact⟨_,.cons,rfl,_,_,hn,h1,.pair hp (h2.mono (by omega)) (h3.mono (by omega)) (by omega)⟩
 |head hp hn=>
  obtain⟨ds,x,rfl,h1,h2⟩:=C9 hst;cases h2 with
  |n _=>cases hp
  |t=>cases hp
  |nil _=>exact⟨_,.headN,trivial⟩
  |pair a ha hb _=>
   have e:_=_:=ZJ hp a;subst e;exact⟨_,.head,le_refl _,_,_,hn,h1.app (.cons ha .nil),hsl⟩
  |fn _ _=>cases hp
 |tail hp hn=>
  obtain⟨ds,x,rfl,h1,h2⟩:=C9 hst;cases h2 with
  |n _=>cases hp
  |t=>cases hp
  |nil _=>exact⟨_,.tailN,trivial⟩
  |pair a ha hb _=>exact⟨_,.tail,le_refl _,_,_,hn,h1.app (.cons hb .nil),hsl⟩
  |fn _ _=>cases hp
 |empty hp hn=>
  obtain⟨ds,x,rfl,h1,h2⟩:=C9 hst;cases h2 with
  |n _=>cases hp
  |t=>cases hp
  |nil _=>exact⟨_,.emptyN,le_refl _,_,_,hn,h1.app (.cons .t .nil),hsl⟩
  |pair a ha hb _=>exact⟨_,.empty,le_refl _,_,_,hn,h1.app (.cons .t .nil),hsl⟩
  |fn _ _=>cases hp
 |not hn=>
  obtain⟨ds,x,rfl,h1,h2⟩:=C9 hst;cases h2 with
  |t=>exact⟨_,.not,le_refl _,_,_,hn,h1.app (.cons .t .nil),hsl⟩
  |nil hp=>cases hp
  |pair hp=>cases hp
 |skip hn=>exact⟨_,.skip,le_add_right _ _,_,_,hn,hst,hsl⟩
 |«unless» h0 hm=>
  obtain⟨ds,x,rfl,h1,h2⟩:=C9 hst;cases h2 with
  | @t b=>
   refine⟨_,.unless,le_add_right _ _,_,_, ?_,h1,hsl⟩;cases b
   ·exact hm
   ·exact h0
  |nil hp=>cases hp
  |pair hp=>cases hp
 |close hb hl hn=>
  obtain⟨ds,es,rfl,h1,h2⟩:=E6 hst;exact⟨_,.close h2.len.symm hl,rfl,_,_,hn,h1,(Ty.fn hb (bcZ h2)).mono (le_succ _)⟩
theorem TC{rows:List Rw}{i d:Nat}{r:Rw}(h:rows[i]? =some r)(hd:1<=d):((rows.drop (i+d)).map wt).sum+wt r<=((rows.drop i).map wt).sum:=by
 obtain⟨hi,rfl⟩:=List.getElem?_eq_some_iff.mp h;have e:rows.drop i=rows[i]::rows.drop (i+1):=List.drop_eq_getElem_cons hi;have e2:rows.drop (i+d)=(rows.drop (i+1)).drop (d - 1):=by rw[List.drop_drop];congr 1;omega
 rw[e,e2,map_cons,sum_cons,map_drop];have:∀(l:List Nat) (k:Nat),(l.drop k).sum<=l.sum:=λl k=>by
  have:=take_append_drop k l;have h3:(l.take k).sum+(l.drop k).sum=l.sum:=by rw[<-sum_append,this]
  omega
 have:=this ((rows.drop (i+1)).map wt) (d - 1);omega
theorem b6Z{ps:List Kd}{xs:List Tv}(h:All2 (T1 hs N) ps xs):All2 (SlK hs N) (ps.map some) xs:=by
 induction h with
 |nil=>exact .nil
 |cons h1 _ ih=>exact .cons h1 ih
section
noncomputable def EndOk(hs:Hs)(mt:Kd)(n:Nat)(T:Tm):Prop:=T.out≠none/\T.n<=n/\∀t,T.out=some (.value t)->T1 hs n mt t
theorem cGZ{bs:List Bk}{bk:Bk}{f:Tf}{st:List Kd}(hb:bs[f.k]? =some bk)(h:FK hs N bk f ps told tys all st sl):∃r,WE bs f=some r/\bk.rows[f.at_]? =some r/\RowK hs told tys f.at_ r ⟨all,sl⟩:=by
 have hl:f.at_<bk.rows.length:=by rw[<-h.ok.len];exact(List.getElem?_eq_some_iff.mp h.at_).1
 have hr:=List.getElem?_eq_getElem hl;obtain⟨a,ha,hk⟩:=h.ok.row _ _ hr;rw[h.at_]at ha;cases ha;refine⟨_, ?_,hr,hk⟩;unfold WE;rw[hb];exact hr
theorem DQ(hB:BsOk hs bs){b:Nat}{ps:List Kd}{k:Kd}(hh:hs[b]? =some (ps,k)){xs:List Tv}(hx:All2 (T1 hs N) ps xs):∃bk tys,bs[b]? =some bk/\xs.length<=bk.sz/\bk.sz=ps.length+3/\FK hs N bk (N4 b bk.sz xs) ps k tys [] [] (ps.map some++ [none,none,none])/\T6 bk (N4 b bk.sz xs)<=8/\left bk (N4 b bk.sz xs)<=80:=by
 obtain⟨bk,tys,hb,ok⟩:=hB b ps k hh;have hl:=hx.len;refine⟨bk,tys,hb,by rw[ok.sz];omega,ok.sz,⟨ok,ok.t0,.nil, ?_⟩, ?_, ?_⟩
 ·show All2 (SlK hs N) (ps.map some++ [none,none,none]) (xs++List.replicate (bk.sz - xs.length) (.sc .non));have e:bk.sz - xs.length=3:=by rw[ok.sz];omega
  rw[e];exact All2.app (b6Z hx) (.cons trivial (.cons trivial (.cons trivial .nil)))
 ·exact ok.wt
 ·exact le_trans (Nat.sub_le _ _) ok.few
theorem run_step{most:Nat}{mt:Kd}(hB:BsOk hs bs)(hm:most<=40)(h:Run hs bs most mt T M):∃T',GH bs most T T'/\T'.n<=8*(T.c+1)/\((∃M',M'<M/\Run hs bs most mt T' M')\/EndOk hs mt (8*(T.c+1)) T'):=by
 obtain⟨fs,f,r,c,n,ps,bk,D,k0,st,sl,R,W,rfl,hW,hb,hF,hc,B,hn,hM⟩:=h.ex;obtain⟨s,J,p,hK⟩:=cGZ hb hF;have O:f.at_<bk.rows.length:=(List.getElem?_eq_some_iff.mp p).1;have a:n<=8*(c+1):=le_trans (le_trans (le_add_right _ _) (le_add_right _ _)) hn;have j:∀ {T':Tm},ActT bs most fs f r c n s T'->GH bs most ⟨fs++ [f],none,r,c,n⟩ T':=λha=>⟨fs,f,r,c,n,s,rfl,J,ha⟩;have nx:∀d,1<=d->T6 bk ⟨f.k,f.at_+d,[],[]⟩+wt s<=T6 bk f:=λd hd=>TC p hd;have lx:∀d,1<=d->left bk ⟨f.k,f.at_+d,[],[]⟩+1<=left bk f:=λd hd=>by
  show bk.rows.length - (f.at_+d)+1<=bk.rows.length - f.at_;omega
 cases s with
 |own rk=>
  obtain⟨eo,he,ho⟩:=bzZ hK hF.st hF.sl;cases eo with
  |fr d N E=>
   obtain⟨hd,A,F,ht,h1,h2⟩:=ho;refine⟨_,j (.own he), ?_,.inl ⟨R+left bk ⟨f.k,f.at_+d,[],[]⟩+(most - c)*81, ?_,⟨fs,_,_,c,n,ps,bk,D,k0,A,F,R,W,rfl,hW,hb,⟨hF.ok,ht,h1,h2⟩,hc,B, ?_,le_refl _⟩⟩⟩
   ·exact a
   ·have:=lx d hd;omega
   ·have:=nx d hd;show n+W+T6 bk ⟨f.k,f.at_+d,[],[]⟩<=_;omega
  |new t E=>
   obtain⟨hw,A,k,ht,h1,h2⟩:=ho;have hx:=nx 1 (le_refl _);rw[hw]at hx;refine⟨_,j (.new he), ?_,.inl ⟨R+left bk ⟨f.k,f.at_+1,[],[]⟩+(most - c)*81, ?_,⟨fs,_,_,c,n+1,ps,bk,D,k0,A++ [k],sl,R,W,rfl,hW.mono (le_succ _),hb,⟨hF.ok,ht,(GI (le_succ _) h1).app (.cons h2 .nil),hF.sl.imp λ_ _ y=>JU (le_succ _) y⟩,hc,B, ?_,le_refl _⟩⟩⟩
   ·show n+1<=8*(c+1);omega
   ·have:=lx 1 (le_refl _);omega
   ·show n+1+W+T6 bk ⟨f.k,f.at_+1,[],[]⟩<=_;omega
  |rf w=>exact⟨_,j (.rf he),a,.inr ⟨(λz=>nomatch z),a,λt z=>(nomatch z)⟩⟩
 |back=>
  cases hK with
  | @back st0=>
   obtain⟨ds,v,e,h1,h2⟩:=C9 hF.st;cases hW with
   |nil=>exact⟨_,j (.last rfl e),a,.inr ⟨(λz=>nomatch z),a,λt z=>by cases z;exact h2.mono a⟩⟩
   | @snoc gs g k1 _ ps1 bk1 tys1 st1 sl1 R1 W1 hW1 hb1 hF1=>
    refine⟨_,j (.back rfl e), ?_,.inl ⟨R1+left bk1 g+(most - c)*81, ?_,⟨gs,_,_,c,n,ps1,bk1,tys1,k1,st1++ [k0],sl1,R1,W1,rfl,hW1,hb1,⟨hF1.ok,hF1.at_,hF1.st.app (.cons h2 .nil),hF1.sl⟩, ?_,B, ?_,le_refl _⟩⟩⟩
    ·exact a
    ·have:1<=left bk f:=by show 1<=bk.rows.length - f.at_;omega
     omega
    ·rw[length_append]at hc;simp at hc;omega
    ·show n+W1+T6 bk1 g<=_;omega
 |call b m=>
  by_cases hd:most<=c
  ·exact⟨_,j (.dry (.inl ⟨b,m,rfl⟩) hd),a,.inr ⟨(λz=>nomatch z),a,λt z=>(nomatch z)⟩⟩
  cases hK with
  | @call _ ps' k st0 _ hh ht=>
   obtain⟨ds,xs,e,h1,h2⟩:=E6 hF.st;obtain⟨i,l,q,u,G,C,H,L⟩:=DQ hB hh h2;have el:=h2.len;have o:ActT bs most fs f r c n (.call b ps'.length) ⟨fs++ [⟨f.k,f.at_+1,f.sl,ds⟩]++ [N4 b i.sz xs],none,r+1,c+1,n⟩:=by
    rw[el];exact .call (by omega) (by omega) e q u
   refine⟨_,j o, ?_,.inl ⟨(R+left bk ⟨f.k,f.at_+1,f.sl,ds⟩)+left i (N4 b i.sz xs)+(most - (c+1))*81, ?_,⟨fs++ [⟨f.k,f.at_+1,f.sl,ds⟩],_,_,c+1,n,ps',i,l,k,[],_,_,_,rfl,.snoc hW hb ⟨hF.ok,ht,h1,hF.sl⟩,q,C, ?_,by omega, ?_,le_refl _⟩⟩⟩
   ·exact a
   ·have h3:=lx 1 (le_refl _);have h4:(most - c)*81=(most - (c+1))*81+81:=by
     have:most - c=most - (c+1)+1:=by omega
     rw[this,add_mul]
    show(R+left bk ⟨f.k,f.at_+1,[],[]⟩)+left i _+_<M;omega
   ·rw[length_append];simp;omega
   ·have h3:=nx 1 (le_refl _);show n+(W+T6 bk ⟨f.k,f.at_+1,[],[]⟩)+T6 i _<=8*(c+1+1);omega
 |apply=>
  by_cases hd:most<=c
  ·exact⟨_,j (.dry (.inr rfl) hd),a,.inr ⟨(λz=>nomatch z),a,λt z=>(nomatch z)⟩⟩
  cases hK with
  | @apply k st0 _ ht=>
   obtain⟨ds,v,x,e,h1,hv,hx⟩:=EG hF.st;cases hv with
   | @fn b xs ps' _ hh hxs=>
    obtain⟨ts,rfl,I⟩:=aPZ hxs;have h2:All2 (T1 hs n) (ps'++ [.n]) (ts++ [x]):=I.app (.cons hx .nil);obtain⟨i,l,q,u,G,C,H,L⟩:=DQ hB hh h2;have o:ActT bs most fs f r c n .apply ⟨fs++ [⟨f.k,f.at_+1,f.sl,ds⟩]++ [N4 b i.sz (ts++ [x])],none,r+1,c+1,n⟩:=
     .apply (by omega) (by omega) e q (by rw[length_append]at u;exact u)
    refine⟨_,j o, ?_,.inl ⟨(R+left bk ⟨f.k,f.at_+1,f.sl,ds⟩)+left i (N4 b i.sz (ts++ [x]))+(most - (c+1))*81, ?_,⟨fs++ [⟨f.k,f.at_+1,f.sl,ds⟩],_,_,c+1,n,_,i,l,k,[],_,_,_,rfl,.snoc hW hb ⟨hF.ok,ht,h1,hF.sl⟩,q,C, ?_,by omega, ?_,le_refl _⟩⟩⟩
    ·exact a
    ·have h3:=lx 1 (le_refl _);have h4:(most - c)*81=(most - (c+1))*81+81:=by
      have:most - c=most - (c+1)+1:=by omega
      rw[this,add_mul]
     show(R+left bk ⟨f.k,f.at_+1,[],[]⟩)+left i _+_<M;omega
    ·rw[length_append];simp;omega
    ·have h3:=nx 1 (le_refl _);show n+(W+T6 bk ⟨f.k,f.at_+1,[],[]⟩)+T6 i _<=8*(c+1+1);omega
   |nil hp=>cases hp
   |pair hp=>cases hp
theorem wt_len{mt:Kd}{R:Nat}(h:Wt hs bs N mt fs k R W):(∀f∈fs,f.sl.length<=13/\f.st.length<=60)/\((fs.flatMap λf=>f.sl++f.st).length<=73*fs.length):=by
 induction h with
 |nil=>exact⟨λf hf=>(nomatch hf),le_refl _⟩
 | @snoc fs f k0 k ps bk tys st sl R W hW hb hF ih=>
  have hm:=mem_of_getElem? hF.at_;have h1:=hF.ok.st _ hm;have h2:=hF.ok.sl _ hm;have e1:=hF.st.len;have e2:=hF.sl.len;rw[length_append]at h1;have h3:f.st.length<=60:=by rw[<-e1];omega
  have h4:f.sl.length<=13:=by rw[<-e2];exact h2
  refine⟨λg hg=> ?_, ?_⟩
  ·rcases mem_append.mp hg with hg|hg
   ·exact ih.1 g hg
   ·rw[sZ hg];exact⟨h4,h3⟩
  ·rw[flatMap_append,length_append,length_append,List.flatMap_singleton,length_append];have:=ih.2;simp only[length_singleton];omega
theorem run_start{mt:Kd}(hB:BsOk hs bs){main:Nat}(hh:hs[main]? =some (List.replicate m .n,mt)){ns:List Int}(hl:ns.length=m)(hn:∀i∈ns,Bd i):∃bk,bs[main]? =some bk/\bk.sz=m+3/\Run hs bs most mt ⟨[N4 main bk.sz (ns.map λi=> .sc (.int i))],none,0,0,0⟩ (80+most*81):=by
 have hx:All2 (T1 hs 0) (List.replicate m .n) (ns.map λi=>Tv.sc (.int i)):=by
  clear hh;subst hl;induction ns with
  |nil=>exact .nil
  |cons i ns ih=>exact .cons (.n (hn i (mem_cons_self ..))) (ih λj hj=>hn j (mem_cons_of_mem _ hj))
 obtain⟨bk,a,hb,h1,h2,hF,hw,b⟩:=DQ hB hh hx;rw[length_replicate]at h2;exact⟨bk,hb,h2,⟨[],_,0,0,0,_,bk,a,mt,[],_,0,0,rfl,.nil,hb,hF,le_refl _,zero_le _,by omega,by omega⟩⟩
end
theorem RowK.more{tys':List At}(h:RowK hs told tys i r a)(m:∀(j:Nat) x,tys[j]? =some x->tys'[j]? =some x):RowK hs told tys' i r a:=by
 cases h with
 |pushN h1 h2=>exact .pushN h1 (m _ _ h2)
 |pushT h2=>exact .pushT (m _ _ h2)
 |non h1 h2=>exact .non h1 (m _ _ h2)
 |load h1 h2=>exact .load h1 (m _ _ h2)
 |keep h1 h2=>exact .keep h1 (m _ _ h2)
 |two h1 h2=>exact .two h1 (m _ _ h2)
 |cons h1 h2=>exact .cons h1 (m _ _ h2)
 |head h1 h2=>exact .head h1 (m _ _ h2)
 |tail h1 h2=>exact .tail h1 (m _ _ h2)
 |empty h1 h2=>exact .empty h1 (m _ _ h2)
 |not h2=>exact .not (m _ _ h2)
 |skip h2=>exact .skip (m _ _ h2)
 |«unless» h1 h2=>exact .unless (m _ _ h1) (m _ _ h2)
 |close h1 h2 h3=>exact .close h1 h2 (m _ _ h3)
 |call h1 h2=>exact .call h1 (m _ _ h2)
 |apply h2=>exact .apply (m _ _ h2)
 |back=>exact .back
structure GOk (hs:Hs) (ps:List Kd) (rows:List Rw) (st:List Kd) (sl:List (Option Kd)) (tys:List At):Prop where
 t0:(tys++ [⟨st,sl⟩])[0]? =some ⟨[],ps.map some++ [none,none,none]⟩
 len:tys.length=rows.length
 row:∀told i r,rows[i]? =some r->∃a,tys[i]? =some a/\RowK hs told (tys++ [⟨st,sl⟩]) i r a
 hst:∀a∈tys++ [⟨st,sl⟩],a.st.length<=rows.length
 hsl:∀a∈tys++ [⟨st,sl⟩],a.sl.length=ps.length+3
theorem Z0{α:Type}{xs ys:List α}{j:Nat}{x:α}(h:xs[j]? =some x):(xs++ys)[j]? =some x:=by
 rw[getElem?_append_left (List.getElem?_eq_some_iff.mp h).1];exact h
theorem M7{α:Type}{xs:List α}{x:α}{n:Nat}(h:xs.length=n):(xs++ [x])[n]? =some x:=by subst h;simp
theorem RB(hs:Hs)(ps:List Kd):GOk hs ps [] [] (ps.map some++ [none,none,none]) []:=
 ⟨rfl,rfl,λb i r h=>by simp at h,λa ha=>by rw[sZ ha];exact le_refl _,λa ha=>by rw[sZ ha];simp⟩
theorem GOk.one{st st':List Kd}{sl':List (Option Kd)}(h:GOk hs ps rows st sl tys)(hr:∀(told:Kd) (ty:List At) (i:Nat),ty[i+1]? =some ⟨st',sl'⟩->RowK hs told ty i r ⟨st,sl⟩)(hst:st'.length<=st.length+1)(hsl:sl'.length=sl.length):
  GOk hs ps (rows++ [r]) st' sl' (tys++ [⟨st,sl⟩]):=by
 have hl:=h.len;have b:(⟨st,sl⟩:At)∈tys++ [⟨st,sl⟩]:=mem_append_right _ (mem_singleton.mpr rfl);refine⟨Z0 h.t0,by simp[hl],λtold i r' hi=> ?_,λa ha=> ?_,λa ha=> ?_⟩
 ·rcases lt_or_ge i rows.length with c|e
  ·rw[getElem?_append_left c]at hi;obtain⟨a,h1,h2⟩:=h.row told i r' hi;exact⟨a,Z0 h1,h2.more λj x hx=>Z0 hx⟩
  ·have d:i=rows.length:=by
    have:=(List.getElem?_eq_some_iff.mp hi).1;simp at this;omega
   subst d;rw[M7 rfl]at hi;cases hi;exact⟨_,M7 hl,hr told _ _ (M7 (by simp[hl]))⟩
 ·rw[length_append,length_singleton];rcases mem_append.mp ha with ha|ha
  ·exact le_succ_of_le (h.hst a ha)
  ·rw[sZ ha];have:=h.hst _ b;simp only at this⊢;omega
 ·rcases mem_append.mp ha with ha|ha
  ·exact h.hsl a ha
  ·rw[sZ ha];have:=h.hsl _ b;simp only at this⊢;omega
noncomputable def BH(hs:Hs)(k:Kd)(sl:List (Option Kd))(r:Rw):Prop:=wt r=0/\∀(told:Kd) (ty:List At) (i:Nat) (st:List Kd),ty[i+1]? =some ⟨st++ [k],sl⟩->RowK hs told ty i r ⟨st,sl⟩
theorem GOk.push{st:List Kd}(h:GOk hs ps rows st sl tys)(hr:BH hs k sl r):GOk hs ps (rows++ [r]) (st++ [k]) sl (tys++ [⟨st,sl⟩]):=
 h.one (λa ty i hi=>hr.2 a ty i st hi) (by simp) rfl
theorem GOk.branch{st:List Kd}(h:GOk hs ps rows (st++ [.t]) sl tys)(h1:BH hs k sl r1)(h2:BH hs k sl r2):
  ∃tys',GOk hs ps (rows++ [.own (.unless 2),r1,.own (.skip 1),r2]) (st++ [k]) sl tys':=by
 have hl:=h.len;have b:(⟨st++ [.t],sl⟩:At)∈tys++ [⟨st++ [.t],sl⟩]:=mem_append_right _ (mem_singleton.mpr rfl);have m:=h.hst _ b;have f:=h.hsl _ b;simp only[length_append,length_singleton]at m f;have ge:∀(x:List At) (j:Nat),(tys++x)[rows.length+j]? =x[j]? :=λx j=>by
  rw[<-hl,getElem?_append_right (le_add_right _ _),add_sub_cancel_left]
 have gr:∀(x:List Rw) (j:Nat),(rows++x)[rows.length+j]? =x[j]? :=λx j=>by
  rw[getElem?_append_right (le_add_right _ _),add_sub_cancel_left]
 refine⟨tys++ [⟨st++ [.t],sl⟩,⟨st,sl⟩,⟨st++ [k],sl⟩,⟨st,sl⟩], ?_,by simp[hl],λc i r hi=> ?_,λa ha=> ?_,λa ha=> ?_⟩
 ·have:=h.t0;rw[List.append_assoc];cases tys with
  |nil=>exact this
  |cons x tys=>exact this
 ·rcases lt_or_ge i rows.length with g|l
  ·rw[getElem?_append_left g]at hi;obtain⟨a,h3,h4⟩:=h.row c i r hi;refine⟨a,Z0 h3,h4.more λj x hx=> ?_⟩;rw[List.append_assoc];rcases lt_or_ge j tys.length with hj|hj
   ·rw[getElem?_append_left hj]at hx⊢;exact hx
   ·have:j=tys.length:=by
     have:=(List.getElem?_eq_some_iff.mp hx).1;simp at this;omega
    subst this;rw[M7 rfl]at hx;cases hx;rw[getElem?_append_right (le_refl _),Nat.sub_self];rfl
  ·obtain⟨d,rfl⟩:=Nat.exists_eq_add_of_le l;rw[gr]at hi;have e:∀j,(tys++ [⟨st++ [.t],sl⟩,⟨st,sl⟩,⟨st++ [k],sl⟩,⟨st,sl⟩]++ [(⟨st++ [k],sl⟩:At)])[rows.length+j]? =([⟨st++ [.t],sl⟩,⟨st,sl⟩,⟨st++ [k],sl⟩,⟨st,sl⟩,⟨st++ [k],sl⟩]:List At)[j]? :=λj=>by
    rw[List.append_assoc];exact ge _ j
   match d,hi with
   |0,hi=>
    cases hi;exact⟨_,by rw[ge];rfl,.unless (by rw[Nat.add_assoc];exact e 1) (by rw[Nat.add_assoc];exact e 3)⟩
   |1,hi=>
    cases hi;exact⟨_,by rw[ge];rfl,h1.2 _ _ _ _ (e 2)⟩
   |2,hi=>
    cases hi;exact⟨_,by rw[ge];rfl,.skip (by rw[Nat.add_assoc];exact e 4)⟩
   |3,hi=>
    cases hi;exact⟨_,by rw[ge];rfl,h2.2 _ _ _ _ (e 4)⟩
   |d+4,hi=>simp at hi
 ·simp only[length_append,length_cons,length_nil];rw[List.append_assoc]at ha;rcases mem_append.mp ha with ha|ha
  ·have:=h.hst a (mem_append_left _ ha);omega
  ·simp only[mem_append,mem_cons,not_mem_nil,or_false]at ha;rcases ha with(rfl|rfl|rfl|rfl)|rfl<;>simp only[length_append,length_singleton]<;>omega
 ·rw[List.append_assoc]at ha;rcases mem_append.mp ha with ha|ha
  ·exact h.hsl a (mem_append_left _ ha)
  ·simp only[mem_append,mem_cons,not_mem_nil,or_false]at ha;rcases ha with(rfl|rfl|rfl|rfl)|rfl<;>exact f
theorem GOk.block{st:List Kd}{told:Kd}{b:Nat}(h:GOk hs ps rows (st++ [told]) sl tys)(hh:hs[b]? =some (ps,told))(hp:ps.length<=10)(hr:rows.length<60)(hw:(rows.map wt).sum<=8):
  BkOk hs b ⟨ps.length,ps.length+3,rows++ [.back]⟩ ps told (tys++ [⟨st++ [told],sl⟩]):=by
 have hl:=h.len;refine⟨hh,rfl,h.t0,by simp[hl],λi r hi=> ?_,by simp;omega, ?_,λa ha=> ?_,λa ha=> ?_⟩
 ·have hi:(rows++ [Rw.back])[i]? =some r:=hi;rcases lt_or_ge i rows.length with c|e
  ·rw[getElem?_append_left c]at hi;obtain⟨a,h1,h2⟩:=h.row told i r hi;exact⟨a,Z0 h1,h2⟩
  ·have d:i=rows.length:=by
    have:=(List.getElem?_eq_some_iff.mp hi).1;simp at this;omega
   subst d;rw[M7 rfl]at hi;cases hi;exact⟨_,M7 hl,.back⟩
 ·show((rows++ [Rw.back]).map wt).sum<=8;rw[map_append,sum_append];exact hw
 ·exact le_of_lt (lt_of_le_of_lt (h.hst a ha) hr)
 ·rw[h.hsl a ha];omega
noncomputable def Kd.cs:Kd->List Nat
 | .n=> [110]| .t=> [116]| .l=> [108]| .L=> [76]| .F=> [70]| .fn k=>102::k.cs
noncomputable abbrev Kd.tx(k:Kd):Str:=⟨k.cs.toArray⟩
theorem bBZ:∀ {a b:Kd},a.cs=b.cs->a=b:=by
 intro a;induction a with
 |fn k ih=>
  intro b h;cases b with
  |fn k'=>have:k.cs=k'.cs:=by simpa [Kd.cs]using h
          rw[ih this]
  |_=>simp[Kd.cs]at h
 |_=>intro b h;cases b<;>simp[Kd.cs]at h<;>rfl
theorem AQ{a b:Kd}(h:a.tx=b.tx):a=b:=bBZ (by have h1:a.cs.toArray=b.cs.toArray:=congrArg Str.cps h;simpa using h1)
noncomputable abbrev kv(k:Kd):V:=.str k.tx
noncomputable def ov:Option Kd->V
 |none=> .non
 |some k=>kv k
theorem HK(h:kv a=kv b):a=b:=AQ (by injection h)
theorem ov_kv:ov o=kv k↔o=some k:=by
 cases o with
 |none=>exact⟨λz=>(nomatch z),λz=>(nomatch z)⟩
 |some a=>exact⟨λz=>by rw[HK z],λz=>by cases z;rfl⟩
theorem ZZ{as bs:List Kd}(h:as.map kv=bs.map kv):as=bs:=by
 induction as generalizing bs with
 |nil=>cases bs with
  |nil=>rfl
  |cons _ _=>cases h
 |cons a as ih=>cases bs with
  |nil=>cases h
  |cons b bs=>
   rw[map_cons,map_cons]at h;injection h with h1 h2
   rw[HK h1,ih h2]
theorem d0Z:("n":Str)=Kd.n.tx:=by decide +kernel
theorem d2Z:("t":Str)=Kd.t.tx:=by decide +kernel
theorem dWZ:("l":Str)=Kd.l.tx:=by decide +kernel
theorem dVZ:("L":Str)=Kd.L.tx:=by decide +kernel
theorem dYZ:("F":Str)=Kd.F.tx:=by decide +kernel
theorem dHZ:("fn":Str)=(Kd.fn .n).tx:=by decide +kernel
structure SA (H0 H:Hp) (d a b c:Addr) (rs:List V) (rows:List Rw) (st:List Kd) (sl:List (Option Kd)):Prop where
 sm:Same H0 H
 hd:H d=some (.dK [(.inr "rows",.ref a),(.inr "stack",.ref b),(.inr "slots",.ref c)])
 ha:H a=some (.lst rs)
 hr:All2 (RwAt H) rows rs
 hb:H b=some (.lst (st.map kv))
 hc:H c=some (.lst (sl.map ov))
 nd:H0 d=none
 na:H0 a=none
 nb:H0 b=none
 nc:H0 c=none
 ab:a≠b
 ac:a≠c
 bc:b≠c
section
theorem SA.same{st:List Kd}(h:SA H0 H d a b c rs rows st sl)(s:Same H H'):SA H0 H' d a b c rs rows st sl:=
 ⟨h.sm.trans s,s _ _ h.hd,s _ _ h.ha,h.hr.imp λ_ _ z=>z.mo (B9 s),s _ _ h.hb,s _ _ h.hc,h.nd,h.na,h.nb,h.nc,h.ab,h.ac,h.bc⟩
theorem U4(s:Same H0 H){x:Addr}(n:H0 x=none)(o:HO):Same H0 (upd H x o):=λy ob e=>by
 rw[B7 (C6 e n)];exact s _ _ e
theorem IV{H:Hp}{x:Addr}(e:H x=some (.lst xs)):Mo H (upd H x (.lst ys)):=λy zs h=>by
 rw[B7 λz=>by rw[z,e]at h;cases h];exact h
theorem SA.da{st:List Kd}(h:SA H0 H d a b c rs rows st sl):d≠a/\d≠b/\d≠c:=by
 refine⟨λz=> ?_,λz=> ?_,λz=> ?_⟩<;>have e:=h.hd<;>rw[z]at e
 ·rw[h.ha]at e;cases e
 ·rw[h.hb]at e;cases e
 ·rw[h.hc]at e;cases e
theorem SA.row{st:List Kd}(h:SA H0 H d a b c rs rows st sl)(hr:RwAt H r u):SA H0 (upd H a (.lst (rs++ [u]))) d a b c (rs++ [u]) (rows++ [r]) st sl:=by
 have m:Mo H (upd H a (.lst (rs++ [u]))):=IV h.ha;obtain⟨d1,d2,d3⟩:=h.da;exact⟨U4 h.sm h.na _,by rw[B7 d1];exact h.hd,A7,(h.hr.imp λ_ _ z=>z.mo m).app (.cons (hr.mo m) .nil),by rw[B7 h.ab.symm];exact h.hb,by rw[B7 h.ac.symm];exact h.hc,h.nd,h.na,h.nb,h.nc,h.ab,h.ac,h.bc⟩
theorem SA.stk{st st':List Kd}(h:SA H0 H d a b c rs rows st sl):SA H0 (upd H b (.lst (st'.map kv))) d a b c rs rows st' sl:=by
 have m:Mo H (upd H b (.lst (st'.map kv))):=IV h.hb;obtain⟨d1,d2,d3⟩:=h.da;exact⟨U4 h.sm h.nb _,by rw[B7 d2];exact h.hd,by rw[B7 h.ab];exact h.ha,h.hr.imp λ_ _ z=>z.mo m,A7,by rw[B7 h.bc.symm];exact h.hc,h.nd,h.na,h.nb,h.nc,h.ab,h.ac,h.bc⟩
theorem SA.slt{st:List Kd}{sl':List (Option Kd)}(h:SA H0 H d a b c rs rows st sl):SA H0 (upd H c (.lst (sl'.map ov))) d a b c rs rows st sl':=by
 have m:Mo H (upd H c (.lst (sl'.map ov))):=IV h.hc;obtain⟨d1,d2,d3⟩:=h.da;exact⟨U4 h.sm h.nc _,by rw[B7 d3];exact h.hd,by rw[B7 h.ac];exact h.ha,h.hr.imp λ_ _ z=>z.mo m,by rw[B7 h.bc];exact h.hb,A7,h.nd,h.na,h.nb,h.nc,h.ab,h.ac,h.bc⟩
theorem SA.put{st st':List Kd}(h:SA H0 H d a b c rs rows st sl){b':Addr}(hb:H b'=none):SA H0 (upd (upd H b' (.lst (st'.map kv))) d (.dK [(.inr "rows",.ref a),(.inr "stack",.ref b'),(.inr "slots",.ref c)])) d a b' c rs rows st' sl:=by
 have s:=A8 hb (.lst (st'.map kv));have h':=h.same s;obtain⟨d1,d2,d3⟩:=h.da;have n1:b'≠d:=λz=>by rw[z,h.hd]at hb;cases hb
 have n2:b'≠a:=λz=>by rw[z,h.ha]at hb;cases hb
 have n3:b'≠c:=λz=>by rw[z,h.hc]at hb;cases hb
 have m:Mo (upd H b' (.lst (st'.map kv))) (upd (upd H b' (.lst (st'.map kv))) d (.dK [(.inr "rows",.ref a),(.inr "stack",.ref b'),(.inr "slots",.ref c)])):=λy zs e=>by
  rw[B7 λz=>by rw[z,h'.hd]at e;cases e];exact e
 have f:H0 b'=none:=by
  cases e:H0 b' with
  |none=>rfl
  |some o=>rw[h.sm _ _ e]at hb;cases hb
 exact⟨U4 h'.sm h.nd _,A7,by rw[B7 d1.symm];exact h'.ha,h'.hr.imp λ_ _ z=>z.mo m,by rw[B7 n1];exact A7,by rw[B7 d3.symm];exact h'.hc,h.nd,h.na,f,h.nc,n2.symm,h.ac,n3⟩
theorem SA.gr{H0 H:Hp}{d a b c:Addr}{rs:List V}{rows:List Rw}{st:List Kd}{sl:List (Option Kd)}(h:SA H0 H d a b c rs rows st sl):DGet H d (.str "rows") (some (.ref a)):=DGet.k (k:=.inr "rows") h.hd
theorem SA.gb{H0 H:Hp}{d a b c:Addr}{rs:List V}{rows:List Rw}{st:List Kd}{sl:List (Option Kd)}(h:SA H0 H d a b c rs rows st sl):DGet H d (.str "stack") (some (.ref b)):=DGet.k (k:=.inr "stack") h.hd
theorem SA.gc{H0 H:Hp}{d a b c:Addr}{rs:List V}{rows:List Rw}{st:List Kd}{sl:List (Option Kd)}(h:SA H0 H d a b c rs rows st sl):DGet H d (.str "slots") (some (.ref c)):=DGet.k (k:=.inr "slots") h.hd
end
noncomputable def StA(H0 H:Hp)(d:Addr)(rows:List Rw)(st:List Kd)(sl:List (Option Kd)):Prop:=∃a b c rs,SA H0 H d a b c rs rows st sl
end _P
namespace _k
open PySem _L _C _S _M _T
open _B hiding ifT ifF NoG top
seal PE PT PW PA PS PSs PTs PI _P PGs PO
noncomputable abbrev s_law_cell_at:Stmt:=_C.top 38
noncomputable abbrev s_law_number:Stmt:=_C.top 40
noncomputable abbrev FE:List Str:=["_law_script","_law_k"]
theorem sc_law_cell_at:FnScope FE aoZ (B6 s_law_cell_at):=fS
noncomputable abbrev IB:List Str:=["_law_cell"]
theorem sc_law_number:FnScope IB q2L (B6 s_law_number):=fS
theorem p40:(10:Int)^((40:Int).toNat)=_N.GR:=by decide +kernel
noncomputable def G7(ns:List Int)(k:Int):Int:=(ns[k.toNat]?).getD 0
theorem lg{b:Int}(h0:0<b)(h1:b<2^60):b≠0/\b.natAbs.log2<9000:=⟨by omega,by
 have:b.natAbs≠0:=by omega
 have:=(Nat.log2_lt this).mpr (show b.natAbs<2^60 by omega);omega⟩
theorem ml{a:Int}(h: -(2^63)<a/\a<2^63):IntMulOk a b:=IntMulOk.of_left (intBits_le_64 (by omega) (by omega))
theorem mr{b:Int}(h: -(2^63)<b/\b<2^63):IntMulOk a b:=IntMulOk.of_right (intBits_le_64 (by omega) (by omega))
section
inductive spCellVW(Z:FZ)(vs:List V)(H:Hp)(Q:VK):Prop
 |mk:∀(a:Addr) (ns:List Int) (k:Int),(vs=[.ref a,.int k])->(SqL Z H a (ns.map V.int))->(0<=k)->(Q (.int (G7 ns k)) H)->spCellVW Z vs H Q
noncomputable def Y8(Z:FZ):Sp:=λvs H Q _=>spCellVW Z vs H Q
theorem ok_law_cell_at(F:Fun Z "_law_cell_at" "_law_cell_at" s_law_cell_at f fd)(B:NoG mg):FnOk P w Z mg base CX0 1 f fd aoZ (Y8 Z):=by
 refine F.om sc_law_cell_at λg A b s H vs Q E hr h=> ?_;obtain⟨a,ns,k,rfl,hS,hk,q⟩:=h;have nd:=sc_law_cell_at.nd;refine⟨_,(A9 (D2 (C0 OQ (pv 1) (kL Z B.len_ (pv 0)) rfl) (B5 (C2 (ixE Z w (pv 0) (pv 1)))) C4)
   (B5 (C2 B0))), ?_⟩
 refine⟨_,rfl,_,rfl,_,_,rfl,.inl ⟨_,hS,rfl⟩,_,_,rfl,rfl,_,rfl,EX (λc=> ?_) (λc=> ?_)⟩
 ·have c':k<((ns.map V.int).length:Nat):=of_decide_eq_true c;rw[length_map]at c';have d:k.toNat<ns.length:=by omega
  have ev:G7 ns k=ns[k.toNat]:=by unfold G7;rw[List.getElem?_eq_getElem d];rfl
  have e:atI (ns.map V.int) ((k.toNat:Nat):Int)=some (.int ns[k.toNat]):=D4 (by rw[getElem?_map,List.getElem?_eq_getElem d];rfl);have ek:((k.toNat:Nat):Int)=k:=by omega
  rw[ek]at e;rw[ev]at q;exact⟨_,rfl,_,rfl,.inl ⟨_,_,_,_,rfl,rfl,hS,e,q⟩⟩
 ·have c':¬k<((ns.map V.int).length:Nat):=λz=>c (decide_eq_true z);rw[length_map]at c';have ev:G7 ns k=0:=by unfold G7;rw[List.getElem?_eq_none (by omega)];rfl
  rw[ev]at q;exact q
inductive spNumBW (vs:List V) (H:Hp) (Q:VK):Prop
 |mk:∀n:Int,(vs=[.int n])->(∀m:Int,Bd m->Q (.int m) H)->spNumBW vs H Q
noncomputable def spNumB:Sp:=λvs H Q _=>spNumBW vs H Q
theorem ok_law_number(F:Fun Z "_law_number" "_law_number" s_law_number f fd):FnOk P w Z mg base CX0 1 f fd q2L spNumB:=by
 refine F.om sc_law_number λb A a s H vs Q E hr h=> ?_;obtain⟨n,rfl,q⟩:=h;have nd:=sc_law_number.nd;have hu:=hr.units0;have hG:=GRe;have pw:(0:Int)<(10:Int)^((40:Int).toNat)+1:=by rw[p40];decide
 refine⟨_,(A9 (D2 (C0 (kEq (Z:=Z) hu) (C1 E4 (pv 0) B0) B0 rfl) (B5 (C2 (C1 CP (C1 M3 B0 (C1 CP B0 (C1 E4 (C1 D6 (pv 0) B0) B0))) (C1 M3 (C1 UV B0 B0) (C1 E4 (C1 D6 (pv 0) B0) B0))))) C4)
   (A9 (D2 (C0 (kEq (Z:=Z) hu) (C1 E4 (pv 0) B0) B0 rfl) (B5 (C2 (C1 E4 (C1 CP (pv 0) B0) (C1 YO (C1 UV B0 B0) B0)))) C4)
   (B5 (C2 (C1 M3 (C1 E4 (C1 D6 (pv 0) B0) B0) B0))))), ?_⟩
 refine⟨_,rfl,_,_,rfl,rfl,(by decide:(0:Int)<7),.inl ⟨rfl,_,rfl,EX (λe=> ?_) (λe=> ?_)⟩⟩
 ·refine⟨_,rfl,_,_,rfl,rfl,lg (by decide) (by decide),_,_,rfl,rfl,(by decide:(0:Int)<2),_,_,rfl,rfl,ml ⟨by decide,by decide⟩,_,_,rfl,rfl, ?_⟩;refine⟨_,_,rfl,rfl,⟨by decide,by decide,by decide⟩,_,rfl,_,_,rfl,rfl,lg (by decide) (by decide),_,_,rfl,rfl,(by decide:(0:Int)<3),_,_,rfl,rfl,_,_,rfl,rfl,ml ?_,q _ ?_⟩
  ·have g4:=Int.emod_nonneg (n.fdiv 7) (by decide:(2:Int)≠0);have g5:=Int.emod_lt_of_pos (n.fdiv 7) (by decide:(0:Int)<2);constructor<;>omega
  ·have g4:=Int.emod_nonneg (n.fdiv 7) (by decide:(2:Int)≠0);have g5:=Int.emod_lt_of_pos (n.fdiv 7) (by decide:(0:Int)<2);have g6:=Int.emod_nonneg (n.fdiv 14) (by decide:(3:Int)≠0);have g7:=Int.emod_lt_of_pos (n.fdiv 14) (by decide:(0:Int)<3);rw[p40];show -_N.GR<=(1 - 2*(n.fdiv 7%2))*(_N.GR - n.fdiv 14%3)/\(1 - 2*(n.fdiv 7%2))*(_N.GR - n.fdiv 14%3)<=_N.GR;have hs:(1:Int) - 2*(n.fdiv 7%2)=1\/(1:Int) - 2*(n.fdiv 7%2)= -1:=by omega
   rcases hs with hs|hs<;>rw[hs]<;>constructor<;>omega
 refine⟨_,rfl,_,_,rfl,rfl,(by decide:(0:Int)<7),.inl ⟨rfl,_,rfl,EX (λe=> ?_) (λe=> ?_)⟩⟩
 ·refine⟨_,rfl,_,_,rfl,rfl,mr ⟨by decide,by decide⟩,_,_,rfl,rfl,⟨by decide,by decide,by decide⟩,.inl ⟨_,_,rfl,rfl,_,_,rfl,rfl,pw,q _ ?_⟩⟩;have g1:=Int.emod_nonneg (n*48271000000007) (Int.ne_of_gt pw);have g2:=Int.emod_lt_of_pos (n*48271000000007) pw;show -_N.GR<=n*48271000000007%((10:Int)^((40:Int).toNat)+1)/\n*48271000000007%((10:Int)^((40:Int).toNat)+1)<=_N.GR;rw[p40]at g1 g2⊢;constructor<;>omega
 ·refine⟨_,rfl,_,_,rfl,rfl,lg (by decide) (by decide),_,_,rfl,rfl,(by decide:(0:Int)<41),_,_,rfl,rfl,q _ ?_⟩;have g1:=Int.emod_nonneg (n.fdiv 7) (by decide:(41:Int)≠0);have g2:=Int.emod_lt_of_pos (n.fdiv 7) (by decide:(0:Int)<41);show -_N.GR<=n.fdiv 7%41 - 20/\n.fdiv 7%41 - 20<=_N.GR;constructor<;>omega
end
end _k
namespace _P
open PySem _L _C _S _M _T
open _k (lg G7 spNumB Y8)
open _B hiding ifT ifF NoG top
seal PE PT PW PA PS PSs PTs PI _L._P PGs PO
noncomputable abbrev s_law_push:Stmt:=_C.top 42
noncomputable abbrev EJ:List Str:=["_law_state","_law_kind","_law_cell","_law_known"]
theorem sc_law_push:FnScope EJ VX (B6 s_law_push):=fS
theorem P3(x:Int){m:Nat}(h:0<m):∃c:Nat,x%(m:Int)=(c:Int)/\c<m:=
 ⟨(x%(m:Int)).toNat,(Int.toNat_of_nonneg (Int.emod_nonneg _ (by omega))).symm,by
  have h1:=Int.emod_lt_of_pos x (show(0:Int)<(m:Int) by omega);have h2:=Int.emod_nonneg x (show(m:Int)≠0 by omega);omega⟩
theorem z1:(1:Nat)<=sizeLine:=by decide
theorem z2:(2:Nat)<=sizeLine:=by decide
theorem z3:(3:Nat)<=sizeLine:=by decide
theorem z6:(6:Nat)<=sizeLine:=by decide
noncomputable def Bas(k:Kd):Prop:=k=.n\/k=.t\/k=.l\/k=.L\/k=.F
theorem BE{k:Kd}{sl:List (Option Kd)}{j:Nat}(h:sl[j]? =some (some k)):BH hs k sl (.own (.load j)):=⟨rfl,λ_ _ _ _ e=> .load h e⟩
theorem VN(h:Prt p k):BH hs k sl (.own .non):=⟨rfl,λ_ _ _ _ e=> .non h e⟩
theorem bWZ:BH hs .t sl (.own (.push (.bl b))):=⟨rfl,λ_ _ _ _ e=> .pushT e⟩
theorem MN(h:Bd m):BH hs .n sl (.own (.push (.int m))):=⟨rfl,λ_ _ _ _ e=> .pushN h e⟩
section
inductive spPushW(vs:List V)(H:Hp)(Q:VK):Prop
 |mk:∀(H0:Hp) (d:Addr) (k:Kd) (cell:Int) (rows:List Rw) (st:List Kd) (sl:List (Option Kd)),(vs=[.ref d,.str k.tx,.int cell])->(Bas k)->(StA H0 H d rows st sl)->(sl.length<=20)->(∀r p H',Same H H'->H' p=some (.tup (rwV r))->(∀hs,BH hs k sl r)->Q (.ref p) H')->spPushW vs H Q
noncomputable def HM:Sp:=λvs H Q _=>spPushW vs H Q
theorem ok_law_push(F:Fun Z "_law_push" "_law_push" s_law_push f fd)(B:_B.NoG mg)
  (K2:Cn P w Z mg base CX0 1 "_law_number" q2L _k.spNumB):
  FnOk P w Z mg base CX0 2 f fd VX HM:=by
 refine F.om sc_law_push λG A u s H vs Q E hr h=> ?_;obtain⟨H0,d,k,g,x,st,sl,rfl,hk,⟨a,b,c,rs,hA⟩,hl,q⟩:=h;have nd:=sc_law_push.nd;have hu:=hr.units0;refine⟨_,(A9 (N3 (i:=3) nd rfl rfl (cS (N:=EJ) (sc:=B6 s_law_push) (caps:=[1,0]) (ns:=["_law_kind","_law_state"])) rfl rfl rfl (J2 rfl B.range_ (A0 (kL Z B.len_ (dS hr (pv 0))) B4)) (λ_ _ _ _ _=>(IZ (C0 (kEq (Z:=Z) hu) (ixE Z w (dS hr (pv 2)) (pv 0)) (pv 1) rfl))) (λ_ _ _ _ _=>(pv 0)))
   (A9 (D3 (D2 (PW.pt (R8 (C0 (kEq (Z:=Z) hu) (C1 E4 (pv 2) B0) B0 rfl) (O6 (C0 (NV (Z:=Z) hu) (pv 3) (E7 B4) rfl)))) (B5 (C2 (C3 (A0 B8 (A0 (ixE Z w (pv 3) (C1 E4 (C1 D6 (pv 2) B0) (kL Z B.len_ (pv 3)))) B4))))) C4))
   (A9 (D2 (C0 (kIn (Z:=Z) (w:=w)) (pv 1) (C3 (A0 B8 (A0 B8 (A0 B8 B4)))) rfl) (B5 (C2 (C3 (A0 B8 B4)))) C4)
   (A9 (D2 (C0 (kEq (Z:=Z) hu) (pv 1) B8 rfl) (B5 (C2 (C3 (A0 B8 (A0 (L6 (kEq (Z:=Z) hu) (C1 E4 (C1 D6 (pv 2) B0) B0) B0 rfl) B4))))) C4)
   (B5 (C2 (C3 (A0 B8 (A0 (cC K2 hr (A0 (C1 D6 (pv 2) B0) B4)) B4))))))))), ?_⟩
 refine⟨_,rfl,d,.ref c,rfl,hA.gc,_,_,rfl,.inl ⟨_,SqL.of hA.hc,rfl⟩,(sl.length:Nat),(by rw[length_map]),by omega,by omega,M2 (n:=sl.length) (λi ys H'=>H'=H/\∃js:List Nat,ys=js.map (λj=>V.int (j:Nat))/\js.length<=i/\∀j∈js,sl[j]? =some (some k)) ⟨rfl,[],rfl,le_refl _,λj hj=>(nomatch hj)⟩ ?_ ?_ ?_⟩
 ·rintro i ys H' hi ⟨rfl,js,rfl,hj,_⟩;rw[length_map];exact le_trans (le_trans hj (le_trans hi hl)) (by decide)
 ·rintro i ys H' hi ⟨rfl,js,rfl,hj,o⟩;have hx:(sl.map ov)[i]? =some (ov sl[i]):=by rw[getElem?_map,List.getElem?_eq_getElem hi];rfl
  refine⟨_,rfl,d,.ref c,rfl,hA.gc,_,rfl,.inl ⟨c,_,(i:Nat),_,rfl,(by rw[Int.zero_add]),SqL.of hA.hc,D4 hx,_,rfl,.inl ⟨?_,_,rfl, ?_⟩⟩⟩
  ·cases sl[i]<;>rfl
  ·by_cases e:sl[i]=some k
   ·refine ifT (decide_eq_true (ov_kv.mpr e)) ⟨_,rfl,rfl,js++ [i], ?_, ?_,λj C=> ?_⟩
    ·rw[map_append,Int.zero_add];rfl
    ·rw[length_append];exact succ_le_succ hj
    ·rcases mem_append.mp C with h|h
     ·exact o j h
     ·rw[sZ h,List.getElem?_eq_getElem hi,e]
   ·exact ifF (λz=>e (ov_kv.mp (of_decide_eq_true z))) ⟨rfl,js,rfl,le_succ_of_le hj,o⟩
 rintro ys H' ⟨rfl,js,rfl,hj,o⟩;intro D hD;have s1:=A8 hD (.lst (js.map λj=>V.int (j:Nat)));have hL:upd H' D (.lst (js.map λj=>V.int (j:Nat))) D=some (.lst (js.map λj=>V.int (j:Nat))):=A7;show K0 _ _ _ [some (.ref d),some (.str k.tx),some (.int g),some (.ref D)] (upd H' D (.lst (js.map λj=>V.int (j:Nat))));generalize upd H' D (.lst (js.map λj=>V.int (j:Nat)))=H1 at s1 hL⊢;refine⟨fun σ' H2=>σ'=[some (.ref d),some (.str k.tx),some (.int g),some (.ref D)]/\Same H' H2,⟨_,rfl,_,_,rfl,rfl,(by decide:(0:Int)<3),.inl ⟨rfl,_,rfl, ?_⟩⟩, ?_⟩
 ·by_cases c1:g%3=1
  ·refine ifT (decide_eq_true (congrArg V.int c1)) ⟨_,rfl,zero_le _,λe he=> ?_⟩;have s2:=A8 he (.lst []);by_cases c2:js=[]
   ·subst c2;exact .inl ⟨D,e,[],rfl,rfl,SqL.of (s2 _ _ hL),SqL.of A7,rfl,_,rfl,ifF (by decide) ⟨rfl,s1.trans s2⟩⟩
   ·have r:0<js.length:=List.length_pos_iff.mpr c2;refine .inr ⟨D,e,_,_,rfl,rfl,SqL.of (s2 _ _ hL),SqL.of A7,(by rw[length_map];show js.length≠0;omega),_,rfl,ifT rfl ?_⟩;obtain⟨i,(ei:g.fdiv 3%(js.length:Nat)=(i:Int)),hi⟩:=P3 (g.fdiv 3) r;have hx:(js.map λj=>V.int (j:Nat))[i]? =some (.int (js[i]:Nat)):=by rw[getElem?_map,List.getElem?_eq_getElem hi];rfl
    refine⟨_,rfl,_,rfl,_,_,rfl,rfl,lg (by decide) (by decide),_,rfl,_,_,rfl,.inl ⟨_,SqL.of (s2 _ _ hL),rfl⟩,_,_,rfl,rfl,(by rw[length_map];omega),.inl ⟨D,_,(i:Int),_,rfl,(by rw[length_map];exact congrArg V.int ei),SqL.of (s2 _ _ hL),D4 hx,z2,λp hp=> ?_⟩⟩;have s3:=A8 hp (.tup [.str "load",.int (js[i]:Nat)]);exact q (.own (.load js[i])) p _ (s1.trans (s2.trans s3)) A7 λhs=>BE (o _ (getElem_mem hi))
  ·exact ifF (λz=>c1 (by have:=of_decide_eq_true z;injection this)) (ifF (by decide) ⟨rfl,s1⟩)
 clear s1 hL H1;rintro _ H2 ⟨rfl,s2⟩;refine⟨_,rfl,z3,λt3 h3=> ?_⟩;have s3:=A8 h3 (.tup [.str "l",.str "L",.str "F"]);refine .inr (.inl ⟨t3,_,rfl,.inr (SqT.of A7),rfl,rfl,_,rfl, ?_⟩);by_cases c1:k=.l\/k=.L\/k=.F
 ·have hp:∃p,Prt p k:=by rcases c1 with rfl|rfl|rfl<;>exact⟨_,by constructor⟩
  obtain⟨p',y⟩:=hp;refine ifT ?_ ⟨z1,λp hp=> ?_⟩
  ·rcases c1 with rfl|rfl|rfl<;>decide +kernel
  ·have s4:=A8 hp (.tup [.str "none"]);exact q (.own .non) p _ (s2.trans (s3.trans s4)) A7 λhs=>VN y
 ·have v:k=.n\/k=.t:=by
   rcases hk with h|h|h|h|h
   ·exact .inl h
   ·exact .inr h
   ·exact absurd (.inl h) c1
   ·exact absurd (.inr (.inl h)) c1
   ·exact absurd (.inr (.inr h)) c1
  refine ifF ?_ ⟨_,rfl,.inl ⟨rfl,_,rfl, ?_⟩⟩
  ·rcases v with rfl|rfl<;>decide +kernel
  rcases v with rfl|rfl
  ·refine ifF (by decide +kernel) ⟨_,rfl,_,_,rfl,rfl,lg (by decide) (by decide),_,rfl,λm hm=>⟨z2,λp hp=> ?_⟩⟩;have s4:=A8 hp (.tup [.str "push",.int m]);exact q (.own (.push (.int m))) p _ (s2.trans (s3.trans s4)) A7 λhs=>MN hm
  ·refine ifT (by decide +kernel) ⟨_,rfl,_,_,rfl,rfl,lg (by decide) (by decide),_,_,rfl,rfl,(by decide:(0:Int)<2),.inl ⟨rfl,z2,λp hp=> ?_⟩⟩;have s4:=A8 hp (.tup [.str "push",.bl (decide (V.int (g.fdiv 3%2)=V.int 1))]);exact q (.own (.push (.bl _))) p _ (s2.trans (s3.trans s4)) A7 λhs=>bWZ
end
noncomputable abbrev s_law_want:Stmt:=_C.top 43
noncomputable abbrev NK:List Str:=["_law_state","_law_kinds","_law_cell","_law_have","_law_k"]
theorem sc_law_want:FnScope NK MZ (B6 s_law_want):=fS
noncomputable def To_(rows:List Rw)(st:List Kd)(sl:List (Option Kd))(rows':List Rw)(st':List Kd):Prop:=∀(hs:Hs) (ps:List Kd) (tys:List At),GOk hs ps rows st sl tys->∃tys',GOk hs ps rows' st' sl tys'
noncomputable def wts(rows:List Rw):Nat:=(rows.map wt).sum
theorem J3(a b:List Rw):wts (a++b)=wts a+wts b:=by unfold wts;rw[map_append,sum_append]
theorem U6(as:List Kd):as.map kv=(as.map Kd.tx).map V.str:=by rw[map_map];rfl
theorem akZ{as bs:List Kd}(h:as.map Kd.tx=bs.map Kd.tx):as=bs:=ZZ (by rw[U6,U6,h])
section
inductive spWantW(vs:List V)(H:Hp)(Q:VK):Prop
 |mk:∀(H0:Hp) (d lk:Addr) (ks:List Kd) (cell:Int) (rows:List Rw) (st:List Kd) (sl:List (Option Kd)),(vs=[.ref d,.ref lk,.int cell])->((∀k∈ks,Bas k))->(H0 lk=some (.lst (ks.map kv)))->(StA H0 H d rows st sl)->(sl.length<=20)->(ks.length<=10)->(st.length<=1000)->(rows.length<=1000)->(∀rows' st' H',StA H0 H' d rows' st' sl->To_ rows st sl rows' (st'++ks)->rows'.length<=rows.length+ks.length->wts rows'=wts rows->st'.length<=st.length->(∀k∈st',k∈st)->Q .non H')->spWantW vs H Q
noncomputable def AR:Sp:=λvs H Q _=>spWantW vs H Q
theorem ok_law_want(F:Fun Z "_law_want" "_law_want" s_law_want f fd)(B:_B.NoG mg)
  (N0:Cn P w Z mg base CX0 2 "_law_push" VX HM):
  FnOk P w Z mg base CX0 3 f fd MZ AR:=by
 refine F.om sc_law_want λaa A G s H vs Q E hr h=> ?_;obtain⟨H0,d,lk,ks,C,j,st,sl,rfl,T,J,⟨a,b,c,rs,hA⟩,hl,U,X,R,q⟩:=h;have nd:=sc_law_want.nd;have hu:=hr.units0;refine⟨_,(A9 (sS 3 nd (G1 (W0 (Z:=Z)) (dS hr (pv 0)) (G2 (E3 (aTZ (Z:=Z) rfl) rfl B.max_ UI (A0 B0 (A0 (C1 M3 (kL Z B.len_ (dS hr (pv 0))) (kL Z B.len_ (pv 1))) B4)))) K5))
   (B5 (D3 (D2 (C0 (aXZ (Z:=Z) hu) (pv 3) (pv 1) rfl) (B5 (D3 (O1 PassesOwn.never rfl (J2 rfl B.range_ (A0 (kL Z B.len_ (pv 1)) B4)) (gN 4 nd) (B5 (C5 (aP Z (dS hr (pv 0)) (cC N0 hr (A0 (pv 0) (A0 (ixE Z w (pv 1) (pv 4)) (A0 (C1 D6 (pv 2) (C1 YO B0 (C1 EU B0 (pv 4)))) B4)))))))))) (B5 (L8 (G1 (W0 (Z:=Z)) (dS hr (pv 0)) K5 (G2 (C1 M3 (kL Z B.len_ (dS hr (pv 0))) (kL Z B.len_ (pv 1))))) (N9 (pv 0) B8 (V0 hr.units)))))))), ?_⟩
 have hk:=hA.sm _ _ J;have lst:(st.map kv).length=st.length:=length_map ..;have v:(ks.map kv).length=ks.length:=length_map ..;refine⟨_,rfl,d,.ref b,rfl,hA.gb,_,rfl,d,.ref b,rfl,hA.gb,_,_,rfl,.inl ⟨_,SqL.of hA.hb,rfl⟩,_,rfl,_,_,rfl,.inl ⟨_,SqL.of hk,rfl⟩,_,_,rfl,rfl,.inl ⟨_,_,rfl,_,rfl,.inl (.inl ⟨b,_,rfl,SqL.of hA.hb,λp hp=> ?_⟩)⟩⟩;have y:G8 (st.map kv) (some (if((st.map kv).length:Int) - ((ks.map kv).length:Nat)>0 then((st.map kv).length:Int) - ((ks.map kv).length:Nat)else 0)) none=(st.drop (st.length - ks.length)).map kv:=by
  have ei:(if((st.map kv).length:Int) - ((ks.map kv).length:Nat)>0 then((st.map kv).length:Int) - ((ks.map kv).length:Nat)else 0)=((st.length - ks.length:Nat):Int):=by
   rw[lst,v];split<;>omega
  rw[ei];unfold G8;rw[HT.sIx_nat,HT.sIx_none,lst,min_eq_left (Nat.sub_le _ _),map_drop,take_of_length_le];rw[length_drop,lst];exact le_refl _
 have s1:=A8 hp (.lst ((st.drop (st.length - ks.length)).map kv));rw[y];have hH:upd H p (.lst ((st.drop (st.length - ks.length)).map kv)) p=some (.lst ((st.drop (st.length - ks.length)).map kv)):=A7;generalize upd H p (.lst ((st.drop (st.length - ks.length)).map kv))=H1 at s1 hH⊢;have m:=hA.same s1;have x:=s1 _ _ hk;refine⟨fun σ' H'=>∃g l,StA H0 H' d g l sl/\To_ j st sl g (l++ks)/\g.length<=j.length+ks.length/\wts g=wts j/\l.length<=st.length/\∀k∈l,k∈st, ?_,fun σ' H' ⟨g,l,h1,h2,h3,h4,h5,h6⟩=>q g l H' h1 h2 h3 h4 h5 h6⟩;refine⟨_,rfl,_,rfl,p,lk,_,_,rfl,rfl,SqL.of hH,SqL.of x,(by rw[U6];exact FV),(by rw[U6];exact FV),_,rfl, ?_⟩;by_cases e:st.drop (st.length - ks.length)=ks
 ·refine ifF ?_ ?_
  ·rw[U6,U6,DX,e,decide_eq_true rfl];decide
  have Y:ks.length<=st.length:=by
   have:=congrArg List.length e;rw[length_drop]at this;omega
  have u:G8 (st.map kv) none (some (((st.map kv).length:Int) - ((ks.map kv).length:Nat)))=(st.take (st.length - ks.length)).map kv:=by
   have ei:((st.map kv).length:Int) - ((ks.map kv).length:Nat)=((st.length - ks.length:Nat):Int):=by
    rw[lst,v];omega
   rw[ei];unfold G8;rw[HT.sIx_nat,HT.sIx_none,lst,min_eq_left (Nat.sub_le _ _),List.drop_zero,sub_zero,map_take]
  refine⟨_,rfl,d,.ref b,rfl,m.gb,_,rfl,d,.ref b,rfl,m.gb,_,_,rfl,.inl ⟨_,SqL.of m.hb,rfl⟩,_,rfl,_,_,rfl,.inl ⟨_,SqL.of x,rfl⟩,_,_,rfl,rfl,_,rfl,.inl (.inl ⟨b,_,rfl,SqL.of m.hb,λb' L=> ?_⟩)⟩;rw[u];have s2:=A8 L (.lst ((st.take (st.length - ks.length)).map kv));refine⟨_,rfl,d,_,rfl,DPut.k (k:=.inr "stack") (s2 _ _ m.hd) (show 3<sizeLine by decide),j,st.take (st.length - ks.length),⟨a,b',c,rs,m.put L⟩,λhs ps t hg=>⟨t, ?_⟩,le_add_right _ _,rfl,by rw[length_take];omega,λk hk=>mem_of_mem_take hk⟩;have es:st.take (st.length - ks.length)++ks=st:=by
   conv=>lhs;rhs;rw[<-e]
   exact take_append_drop _ _
  rw[es];exact hg
 ·refine ifT ?_ ?_
  ·rw[U6,U6,DX,decide_eq_false λz=>e (akZ z)];rfl
  refine⟨fun σ' H'=>∃g l,StA H0 H' d g l sl/\To_ j st sl g (l++ks)/\g.length<=j.length+ks.length/\wts g=wts j/\l.length<=st.length/\∀k∈l,k∈st, ?_,λ_ _ h=>h⟩;refine⟨_,rfl,_,_,rfl,.inl ⟨_,SqL.of x,rfl⟩,(ks.length:Nat),(by rw[v]),by omega,by omega,Q9 (n:=ks.length) (λi σ H'=>∃x4 g,σ=[some (.ref d),some (.ref lk),some (.int C),some (.ref p),x4]/\StA H0 H' d g st sl/\To_ j st sl g (st++ks.take i)/\g.length=j.length+i/\wts g=wts j) ?_ ?_ ?_⟩
  ·exact⟨none,j,rfl,⟨a,b,c,rs,m⟩,λhs ps t hg=>⟨t,by rw[List.take_zero,append_nil];exact hg⟩,rfl,rfl⟩
  ·rintro i σ H' hi ⟨x4,g,rfl,⟨a',b',c',D,o⟩,hT,I,hw⟩;have hx:(ks.map kv)[i]? =some (kv ks[i]):=by rw[getElem?_map,List.getElem?_eq_getElem hi];rfl
   have V:=o.sm _ _ J;have O:=o.hr.len;refine⟨_,rfl,d,.ref a',rfl,o.gr,.inl ⟨rfl,_,SqL.of o.ha⟩,_,rfl,_,rfl,_,rfl,.inl ⟨lk,_,(i:Nat),_,rfl,(by rw[Int.zero_add]),SqL.of V,D4 hx,_,rfl,_,rfl,.inl ⟨_,_,rfl,rfl,.inl ⟨by decide,by decide⟩,.inl ⟨_,_,rfl,rfl,_,_,rfl,rfl,lg (by omega) (by omega),H0,d,ks[i],_,g,st,sl,rfl,T _ (getElem_mem hi),⟨a',b',c',D,o⟩,hl,λr p2 H2 s2 S hK=> ?_⟩⟩⟩⟩;have M:=o.same s2;refine⟨a',D,.ref p2,rfl,rfl,M.ha,(by rw[<-O,I];exact lt_of_le_of_lt (Nat.add_le_add R (le_trans (le_of_lt hi) U)) (by decide)), ?_⟩;refine⟨_,g++ [r],rfl,⟨a',b',c',_,M.row ⟨p2,rfl,S⟩⟩,λhs ps t hg=> ?_,by rw[length_append,I];rfl, ?_⟩
   ·obtain⟨N,W⟩:=hT hs ps t hg;have:=W.push (hK hs);have et:ks.take i++ [ks[i]]=ks.take (i+1):=by rw[take_succ,List.getElem?_eq_getElem hi];rfl
    rw[List.append_assoc,et]at this;exact⟨_,this⟩
   ·have h1:=(hK []).1;have h2:wts [r]=0:=by show wt r+0=0;rw[h1]
    rw[J3,hw,h2,Nat.add_zero]
  ·rintro σ H' ⟨x4,g,rfl,h1,h2,h3,h4⟩;refine⟨g,st,h1, ?_,by omega,h4,le_refl _,λ_ h=>h⟩;rw[take_length]at h2;exact h2
theorem dgr{Z:FZ}{H0 H:Hp}{d a b c:Addr}{rs:List V}{rows:List Rw}{st:List Kd}{sl:List (Option Kd)}{i:Nat}{t:TA}{σ:St}{Q:VK}(h0:σ[i]? =some (some (.ref d)))(h:SA H0 H d a b c rs rows st sl)(k:t σ H λxs H2=>rAppend (.ref a) xs H2 Q):tBM Z "list" rAppend (PN (tVar i) (tC (.str "rows"))) t σ H Q:=
 ⟨_,h0,d,.ref a,rfl,h.gr,.inl ⟨rfl,_,SqL.of h.ha⟩,k⟩
theorem dgb{Z:FZ}{H0 H:Hp}{d a b c:Addr}{rs:List V}{rows:List Rw}{st:List Kd}{sl:List (Option Kd)}{i:Nat}{t:TA}{σ:St}{Q:VK}(h0:σ[i]? =some (some (.ref d)))(h:SA H0 H d a b c rs rows st sl)(k:t σ H λxs H2=>rAppend (.ref b) xs H2 Q):tBM Z "list" rAppend (PN (tVar i) (tC (.str "stack"))) t σ H Q:=
 ⟨_,h0,d,.ref b,rfl,h.gb,.inl ⟨rfl,_,SqL.of h.hb⟩,k⟩
end
noncomputable abbrev s_law_reckon:Stmt:=_C.top 44
noncomputable abbrev HP:List Str:=["_law_state","_law_more"]
theorem sc_law_reckon:FnScope HP CF (B6 s_law_reckon):=fS
noncomputable abbrev s_law_branch:Stmt:=_C.top 46
noncomputable abbrev HW:List Str:=["_law_state","_law_more","_law_kind"]
theorem sc_law_branch:FnScope HW CF (B6 s_law_branch):=fS
section
theorem SA.base{x:Addr}{st:List Kd}(h:SA H0 H d a b c rs rows st sl)(hx:H x=none)(o:HO):SA (upd H0 x o) (upd H x o) d a b c rs rows st sl:=by
 have h':=h.same (A8 hx o);have ne:∀ {y:Addr} {ob:HO},H y=some ob->y≠x:=λ{y ob} e z=>by rw[z,hx]at e;cases e
 refine⟨λy ob e=> ?_,h'.hd,h'.ha,h'.hr,h'.hb,h'.hc,by rw[B7 (ne h.hd)];exact h.nd,by rw[B7 (ne h.ha)];exact h.na,by rw[B7 (ne h.hb)];exact h.nb,by rw[B7 (ne h.hc)];exact h.nc,h.ab,h.ac,h.bc⟩;by_cases z:y=x
 ·subst z;rw[A7]at e⊢;exact e
 ·rw[B7 z]at e⊢;exact h.sm _ _ e
theorem SA.unbase{st:List Kd}(h:SA (upd H0 x o) H' d a b c rs rows st sl)(hx:H0 x=none):SA H0 H' d a b c rs rows st sl:=by
 have nn:∀ {y:Addr},upd H0 x o y=none->H0 y=none:=λ{y} e=>by
  by_cases z:y=x
  ·rw[z];exact hx
  ·rw[B7 z]at e;exact e
 exact⟨λy ob e=>h.sm _ _ (by rw[B7 λz=>by rw[z,hx]at e;cases e];exact e),h.hd,h.ha,h.hr,h.hb,h.hc,nn h.nd,nn h.na,nn h.nb,nn h.nc,h.ab,h.ac,h.bc⟩
theorem SA.n0{x:Addr}{st:List Kd}(h:SA H0 H d a b c rs rows st sl)(hx:H x=none):H0 x=none:=by
 cases e:H0 x with
 |none=>rfl
 |some ob=>rw[h.sm _ _ e]at hx;cases hx
end
theorem v_n:V.str "n"=kv .n:=congrArg V.str d0Z
theorem v_t:V.str "t"=kv .t:=congrArg V.str d2Z
theorem v_l:V.str "l"=kv .l:=congrArg V.str dWZ
theorem v_L:V.str "L"=kv .L:=congrArg V.str dVZ
theorem v_F:V.str "F"=kv .F:=congrArg V.str dYZ
theorem v_fn:V.str "fn"=kv (.fn .n):=congrArg V.str dHZ
noncomputable def Gd(k:Kd):Prop:=Bas k\/∃k',k=.fn k'/\Bas k'
noncomputable def GdS(st:List Kd)(sl:List (Option Kd)):Prop:=(∀k∈st,Gd k)/\∀k,some k∈sl->Gd k
theorem M0{st st':List Kd}{k:Kd}(h:GdS st sl)(hs:∀k∈st',k∈st)(hk:Gd k):GdS (st'++ [k]) sl:=
 ⟨λx hx=>by
  rcases mem_append.mp hx with hx|hx
  ·exact h.1 x (hs x hx)
  ·rw[sZ hx];exact hk,h.2⟩
structure Pc (hs:Hs) (rows:List Rw) (st:List Kd) (sl:List (Option Kd)) (rows':List Rw) (st':List Kd) (sl':List (Option Kd)):Prop where
 go:∀(ps:List Kd) (tys:List At),GOk hs ps rows st sl tys->∃tys',GOk hs ps rows' st' sl' tys'
 len:rows'.length<=rows.length+6
 wts:wts rows'<=wts rows+1
 stl:st'.length<=st.length+1
 sll:sl'.length=sl.length
 gd:GdS st sl->GdS st' sl'
section
inductive spPcW(vs:List V)(H:Hp)(Q:VK):Prop
 |mk:∀(H0:Hp) (d:Addr) (more:Int) (rows:List Rw) (st:List Kd) (sl:List (Option Kd)),(vs=[.ref d,.int more])->(StA H0 H d rows st sl)->(3<=sl.length)->(sl.length<=20)->(st.length<=900)->(rows.length<=900)->(GdS st sl)->(∀rows' st' sl' H',StA H0 H' d rows' st' sl'->(∀hs,Pc hs rows st sl rows' st' sl')->Q .non H')->spPcW vs H Q
noncomputable def KI:Sp:=λvs H Q _=>spPcW vs H Q
noncomputable def twk:Nat->Nat
 |0=>0|1=>1|2=>2|3=>5|4=>3|_=>4
theorem ciZ{j:Nat}(h:j<6): [V.str "add",V.str "sub",V.str "mul",V.str "div",V.str "less",V.str "same"][j]? =some (.str (wd (twk j)))/\∃c,("nnnntt":Str).cps.toList[j]? =some c/\V.str ⟨#[c]⟩=kv (if twk j=3\/twk j=4 then .t else .n)/\twk j<6:=by
 have e:("nnnntt":Str).cps.toList=[110,110,110,110,116,116]:=by decide +kernel
 rw[e]
 match j,h with
 |0,_=>exact⟨rfl,_,rfl,rfl,by decide⟩
 |1,_=>exact⟨rfl,_,rfl,rfl,by decide⟩
 |2,_=>exact⟨rfl,_,rfl,rfl,by decide⟩
 |3,_=>exact⟨rfl,_,rfl,rfl,by decide⟩
 |4,_=>exact⟨rfl,_,rfl,rfl,by decide⟩
 |5,_=>exact⟨rfl,_,rfl,rfl,by decide⟩
theorem ok_law_reckon(F:Fun Z "_law_reckon" "_law_reckon" s_law_reckon f fd)
  (G9:Cn P w Z mg base CX0 3 "_law_want" MZ AR):
  FnOk P w Z mg base CX0 4 f fd CF KI:=by
 refine F.om sc_law_reckon λX A B s H vs Q E hr h=> ?_;obtain⟨H0,d,g,u,st,sl,rfl,⟨a,b,c,rs,hA⟩,U,hl,D,G,W,q⟩:=h;have nd:=sc_law_reckon.nd;have hu:=hr.units0;refine⟨_,(A9 (C5 (cC G9 hr (A0 (pv 0) (A0 (E7 (A0 B8 (A0 B8 B4))) (A0 (C1 D6 (pv 1) B0) B4)))))
   (A9 (C5 (aP Z (dS hr (pv 0)) (C3 (A0 (ixE Z w (E7 (A0 B8 (A0 B8 (A0 B8 (A0 B8 (A0 B8 (A0 B8 B4))))))) (C1 E4 (pv 1) B0)) B4))))
   (B5 (C5 (aP Z (dS hr (pv 0)) (DV ix_str B8 (C1 E4 (pv 1) B0) (λ_ _=>rfl))))))), ?_⟩
 obtain⟨j,(ej:g%6=(j:Int)),hj⟩:=P3 g (m:=6) (by decide);obtain⟨t1,cc,t2,t3,t4⟩:=ciZ hj;refine⟨_,rfl,z2,λl I=>⟨_,rfl,_,_,rfl,rfl,lg (by decide) (by decide),upd H0 l (.lst [.str "n",.str "n"]),d,l,[.n,.n],_,u,st,sl,rfl, ?_, ?_,⟨a,b,c,rs,hA.base I _⟩,hl,by decide,le_trans D (by decide),le_trans G (by decide),λz st' H2 hS hT x hw C v=> ?_⟩⟩
 ·intro k hk;simp only[mem_cons,not_mem_nil,or_false,or_self]at hk;exact .inl hk
 ·rw[A7,v_n];rfl
 obtain⟨a',b',c',R,o⟩:=hS;replace o:=o.unbase (hA.n0 I);have S:=o.hr.len;simp only[length_cons,length_nil]at x;refine(dgr rfl o (⟨z6,λl6 h6=>⟨_,rfl,_,_,rfl,rfl,(by decide:(0:Int)<6),.inl ⟨l6,_,(j:Int),_,rfl,congrArg V.int ej,SqL.of A7,D4 t1,z1,λp hp=> ?_⟩⟩⟩));have s3:=A8 h6 (.lst [.str "add",.str "sub",.str "mul",.str "div",.str "less",.str "same"]);have s4:=A8 hp (.tup [.str (wd (twk j))]);have L:=o.same (s3.trans s4);refine⟨a',R,.ref p,rfl,rfl,L.ha,(by rw[<-S];exact lt_of_le_of_lt (le_trans x (Nat.add_le_add_right G 2)) (by decide)), ?_⟩;have y:=L.row (r:=.own (.two (twk j))) ⟨p,rfl,A7⟩;refine(dgb rfl y (⟨_,rfl,_,_,rfl,rfl,(by decide:(0:Int)<6),_,(j:Int),cc,rfl,congrArg V.int ej,by decide +kernel,D4 t2, ?_⟩));refine⟨b',_,_,rfl,rfl,y.hb,(by rw[length_map];exact lt_of_le_of_lt (le_trans C D) (by decide)), ?_⟩;rw[t3];have J:=y.stk (st':=st'++ [if twk j=3\/twk j=4 then .t else .n]);rw[map_append]at J;refine q _ _ sl _ ⟨a',b',c',_,J⟩ λhs=>⟨λps N hg=> ?_, ?_, ?_, ?_,rfl,λh=>M0 h v (by split;exact .inl (.inr (.inl rfl));exact .inl (.inl rfl))⟩
 ·obtain⟨M,T⟩:=hT hs ps N hg;exact⟨_,T.one (λO ty i e=> .two t4 e) (by simp only[length_append,length_cons,length_nil];omega) rfl⟩
 ·rw[length_append];exact le_trans (succ_le_succ x) (add_le_add_left (by decide:3<=6) _)
 ·rw[J3,hw];exact le_add_right _ _
 ·rw[length_append];exact succ_le_succ C
theorem dIZ{j:Nat}(h:j<4):∃c k,("nlLt":Str).cps.toList[j]? =some c/\V.str ⟨#[c]⟩=kv k/\Bas k:=by
 have e:("nlLt":Str).cps.toList=[110,108,76,116]:=by decide +kernel
 rw[e]
 match j,h with
 |0,_=>exact⟨_,.n,rfl,rfl,.inl rfl⟩
 |1,_=>exact⟨_,.l,rfl,rfl,.inr (.inr (.inl rfl))⟩
 |2,_=>exact⟨_,.L,rfl,rfl,.inr (.inr (.inr (.inl rfl)))⟩
 |3,_=>exact⟨_,.t,rfl,rfl,.inr (.inl rfl)⟩
theorem ok_law_branch(F:Fun Z "_law_branch" "_law_branch" s_law_branch f fd)
  (N0:Cn P w Z mg base CX0 2 "_law_push" VX HM)
  (G9:Cn P w Z mg base CX0 3 "_law_want" MZ AR):
  FnOk P w Z mg base CX0 4 f fd CF KI:=by
 refine F.om sc_law_branch λai A S s H vs Q E hr h=> ?_;obtain⟨H0,d,u,v,st,sl,rfl,⟨a,b,c,rs,hA⟩,ag,hl,U,ad,ah,q⟩:=h;have nd:=sc_law_branch.nd;have hu:=hr.units0;refine⟨_,(A9 (sS 2 nd (DV ix_str B8 (C1 E4 (pv 1) B0) (λ_ _=>rfl)))
   (A9 (C5 (cC G9 hr (A0 (pv 0) (A0 (E7 (A0 B8 B4)) (A0 (C1 D6 (pv 1) B0) B4)))))
   (A9 (D3 (D2 (C0 (kEq (Z:=Z) hu) (C1 E4 (C1 D6 (pv 1) B0) B0) B0 rfl) (B5 (C5 (aP Z (dS hr (pv 0)) (C3 (A0 B8 B4))))) C4))
   (A9 (C5 (aP Z (dS hr (pv 0)) (C3 (A0 B8 (A0 B0 B4)))))
   (A9 (C5 (aP Z (dS hr (pv 0)) (cC N0 hr (A0 (pv 0) (A0 (pv 2) (A0 (C1 D6 (pv 1) B0) B4))))))
   (A9 (C5 (aP Z (dS hr (pv 0)) (C3 (A0 B8 (A0 B0 B4)))))
   (A9 (C5 (aP Z (dS hr (pv 0)) (cC N0 hr (A0 (pv 0) (A0 (pv 2) (A0 (C1 D6 (pv 1) B0) B4))))))
   (B5 (C5 (aP Z (dS hr (pv 0)) (pv 2))))))))))), ?_⟩
 obtain⟨j,(ej:u%4=(j:Int)),hj⟩:=P3 u (m:=4) (by decide);obtain⟨cc,k,t2,t3,hk⟩:=dIZ hj;refine⟨_,rfl,_,_,rfl,rfl,(by decide:(0:Int)<4),_,(j:Int),cc,rfl,congrArg V.int ej,by decide +kernel,D4 t2, ?_⟩;show K0 _ _ _ [some (.ref d),some (.int u),some (.str ⟨#[cc]⟩)] H;rw[t3];refine⟨_,rfl,z1,λl X=>⟨_,rfl,_,_,rfl,rfl,lg (by decide) (by decide),upd H0 l (.lst [.str "t"]),d,l,[.t],_,v,st,sl,rfl, ?_, ?_,⟨a,b,c,rs,hA.base X _⟩,hl,by decide,le_trans U (by decide),le_trans ad (by decide),λB st' H2 hS hT N hw T M=> ?_⟩⟩
 ·intro k hk;exact .inr (.inl (sZ hk))
 ·rw[A7,v_t];rfl
 obtain⟨a1,b1,c1,y,o⟩:=hS;replace o:=o.unbase (hA.n0 X);simp only[length_singleton]at N;have D:∀n,n<=910->n<sizeLine:=λn h=>lt_of_le_of_lt h (by decide);refine⟨fun σ' H'=>σ'=[some (.ref d),some (.int u),some (kv k)]/\∃g,StA H0 H' d g st' sl/\To_ v st sl g (st'++ [.t])/\g.length<=v.length+2/\wts g=wts v, ?_, ?_⟩
 ·refine⟨_,rfl,_,_,rfl,rfl,lg (by decide) (by decide),_,_,rfl,rfl,(by decide:(0:Int)<3),.inl ⟨rfl,_,rfl, ?_⟩⟩;by_cases ab:u.fdiv 8%3=1
  ·refine ifT (decide_eq_true (congrArg V.int ab)) (dgr rfl o (⟨z1,λp hp=> ?_⟩));have s3:=A8 hp (.tup [.str "not"]);have x:=o.same s3;refine⟨a1,y,.ref p,rfl,rfl,x.ha,D _ (by rw[<-o.hr.len];omega),rfl,B++ [.own .not],⟨a1,b1,c1,_,x.row (r:=.own .not) ⟨p,rfl,A7⟩⟩,λhs ps L hg=> ?_,by rw[length_append];simp only[length_singleton];omega,by rw[J3,hw];rfl⟩;obtain⟨J,O⟩:=hT hs ps L hg;exact⟨_,O.one (λac ty i e=> .not e) (le_succ _) rfl⟩
  ·exact ifF (λz=>ab (by have:=of_decide_eq_true z;injection this)) ⟨rfl,B,⟨a1,b1,c1,y,o⟩,hT,by omega,hw⟩
 clear o hT N hw;rintro _ H3 ⟨rfl,g,⟨a1,b1,c1,y,o⟩,hT,N,hw⟩;refine(dgr rfl o (⟨z2,λp hp=> ?_⟩));have x:=(o.same (A8 hp (.tup [.str "unless",.int 2]))).row (r:=.own (.unless 2)) ⟨p,rfl,A7⟩;refine⟨a1,y,.ref p,rfl,rfl,(A8 hp _) _ _ o.ha,D _ (by rw[<-o.hr.len];omega), ?_⟩;generalize upd (upd H3 p (.tup [.str "unless",.int 2])) a1 (.lst (y++ [.ref p]))=H4 at x⊢;refine(dgr rfl x (⟨_,rfl,_,rfl,_,rfl,_,_,rfl,rfl,lg (by decide) (by decide),H0,d,k,_,_,st',sl,rfl,hk,⟨a1,b1,c1,_,x⟩,hl,λr1 p1 H5 s5 af aa=> ?_⟩));have G:=(x.same s5).row (r:=r1) ⟨p1,rfl,af⟩;refine⟨a1,_,.ref p1,rfl,rfl,(x.same s5).ha,D _ (by rw[<-x.hr.len,length_append];simp only[length_singleton];omega), ?_⟩;generalize upd H5 a1 (.lst (y++ [.ref p]++ [.ref p1]))=H6 at G⊢;refine(dgr rfl G (⟨z2,λp2 W=> ?_⟩));have C:=(G.same (A8 W (.tup [.str "skip",.int 1]))).row (r:=.own (.skip 1)) ⟨p2,rfl,A7⟩;refine⟨a1,_,.ref p2,rfl,rfl,(A8 W _) _ _ G.ha,D _ (by rw[<-G.hr.len];simp only[length_append,length_singleton];omega), ?_⟩;generalize upd (upd H6 p2 (.tup [.str "skip",.int 1])) a1 (.lst (y++ [.ref p]++ [.ref p1]++ [.ref p2]))=H7 at C⊢;refine(dgr rfl C (⟨_,rfl,_,rfl,_,rfl,_,_,rfl,rfl,lg (by decide) (by decide),H0,d,k,_,_,st',sl,rfl,hk,⟨a1,b1,c1,_,C⟩,hl,λr2 p3 H8 s8 ae Y=> ?_⟩));have I:=(C.same s8).row (r:=r2) ⟨p3,rfl,ae⟩;refine⟨a1,_,.ref p3,rfl,rfl,(C.same s8).ha,D _ (by rw[<-C.hr.len];simp only[length_append,length_singleton];omega), ?_⟩;generalize upd H8 a1 (.lst (y++ [.ref p]++ [.ref p1]++ [.ref p2]++ [.ref p3]))=H9 at I⊢;refine(dgb rfl I (⟨_,rfl,b1,_,_,rfl,rfl,I.hb,D _ (by rw[length_map];exact le_trans (le_trans T U) (by decide)), ?_⟩));have R:=I.stk (st':=st'++ [k]);rw[map_append]at R;have er:g++ [.own (.unless 2)]++ [r1]++ [.own (.skip 1)]++ [r2]=g++ [.own (.unless 2),r1,.own (.skip 1),r2]:=by simp
 rw[er]at R;refine q _ _ sl _ ⟨a1,b1,c1,_,R⟩ λhs=>⟨λps L hg=> ?_, ?_, ?_, ?_,rfl,λh=>M0 h M (.inl hk)⟩
 ·obtain⟨J,O⟩:=hT hs ps L hg;exact O.branch (aa hs) (Y hs)
 ·rw[length_append];simp only[length_cons,length_nil];omega
 ·have e1:=(aa hs).1;have e2:=(Y hs).1;have:wts [.own (.unless 2),r1,.own (.skip 1),r2]=0:=by
   show 0+(wt r1+(0+(wt r2+0)))=0;omega
  rw[J3,hw,this];exact le_succ _
 ·rw[length_append];exact succ_le_succ T
end
noncomputable abbrev s_law_slotted:Stmt:=_C.top 47
noncomputable abbrev W3:List Str:=["_law_state","_law_more","_law_known","_law_slot"]
theorem sc_law_slotted:FnScope W3 CF (B6 s_law_slotted):=fS
theorem aUZ(hs:Hs)(rows:List Rw)(st:List Kd)(sl:List (Option Kd)):Pc hs rows st sl rows st sl:=⟨λ_ a h=>⟨a,h⟩,le_add_right _ _,le_add_right _ _,le_add_right _ _,rfl,λh=>h⟩
theorem CQ{α:Type}{l:List α}(h:l≠ []):∃r x,l=r++ [x]:=⟨_,_,(List.dropLast_concat_getLast h).symm⟩
theorem big_(n:Nat)(h:n<=950):n<sizeLine:=lt_of_le_of_lt h (by decide)
section
theorem ok_law_slotted{P:Program}{w:World}{base:Heap}(F:Fun Z "_law_slotted" "_law_slotted" s_law_slotted f fd)(B:_B.NoG mg):
  FnOk P w Z mg base CX0 1 f fd CF KI:=by
 refine F.om sc_law_slotted λaj A X s H vs Q E hr h=> ?_;obtain⟨H0,d,l,v,st,sl,rfl,⟨a,b,c,rs,hA⟩,ah,hl,ae,af,ai,q⟩:=h;have nd:=sc_law_slotted.nd;have hu:=hr.units0;refine⟨_,(A9 (N3 (i:=2) nd rfl rfl (cS (N:=W3) (sc:=B6 s_law_slotted) (caps:=[0]) (ns:=["_law_state"])) rfl rfl rfl (J2 rfl B.range_ (A0 (kL Z B.len_ (dS hr (pv 0))) B4)) (λ_ _ _ _ _=>(IZ (C0 OW (ixE Z w (dS hr (pv 1)) (pv 0)) K4 rfl))) (λ_ _ _ _ _=>(pv 0)))
   (B5 (D3 (D2 (PW.pt (R8 (C0 (kEq (Z:=Z) hu) (C1 E4 (pv 1) B0) B0 rfl) (O6 (C0 (NV (Z:=Z) hu) (dS hr (pv 0)) (E7 B4) rfl)))) (A9 (sS 3 nd (C1 M3 (C1 M3 (kL Z B.len_ (dS hr (pv 0))) B0) (C1 E4 (C1 D6 (pv 1) B0) B0)))
   (A9 (L8 (DL (Z:=Z) PySem.F.plainAttrs_list PySem.F.slot_list_pop PySem.F.type_list_pop Y0 (dS hr (pv 0))) (N9 (dS hr (pv 0)) (pv 3) P1))
   (B5 (C5 (aP Z (dS hr (pv 0)) (C3 (A0 B8 (A0 (pv 3) B4)))))))) (B5 (D3 (D2 (C0 (NV (Z:=Z) hu) (pv 2) (E7 B4) rfl) (A9 (sS 3 nd (ixE Z w (pv 2) (C1 E4 (C1 D6 (pv 1) B0) (kL Z B.len_ (pv 2)))))
   (A9 (C5 (aP Z (dS hr (pv 0)) (C3 (A0 B8 (A0 (pv 3) B4)))))
   (B5 (C5 (aP Z (dS hr (pv 0)) (ixE Z w (dS hr (pv 0)) (pv 3))))))) C4))))))), ?_⟩
 refine⟨_,rfl,d,.ref c,rfl,hA.gc,_,_,rfl,.inl ⟨_,SqL.of hA.hc,rfl⟩,(sl.length:Nat),(by rw[length_map]),by omega,by omega,M2 (n:=sl.length) (λi ys H'=>H'=H/\∃js:List Nat,ys=js.map (λj=>V.int (j:Nat))/\js.length<=i/\∀j∈js,∃k,sl[j]? =some (some k)) ⟨rfl,[],rfl,le_refl _,λj hj=>(nomatch hj)⟩ ?_ ?_ ?_⟩
 ·rintro i ys H' hi ⟨rfl,js,rfl,hj,_⟩;rw[length_map];exact le_trans (le_trans hj (le_trans hi hl)) (by decide)
 ·rintro i ys H' hi ⟨rfl,js,rfl,hj,L⟩;have hx:(sl.map ov)[i]? =some (ov sl[i]):=by rw[getElem?_map,List.getElem?_eq_getElem hi];rfl
  refine⟨_,rfl,d,.ref c,rfl,hA.gc,_,rfl,.inl ⟨c,_,(i:Nat),_,rfl,(by rw[Int.zero_add]),SqL.of hA.hc,D4 hx,rfl,_,rfl, ?_⟩⟩;cases e:sl[i]with
  |some k=>
   refine ifT rfl ⟨_,rfl,rfl,js++ [i], ?_, ?_,λj aa=> ?_⟩
   ·rw[map_append,Int.zero_add];rfl
   ·rw[length_append];exact succ_le_succ hj
   ·rcases mem_append.mp aa with h|h
    ·exact L j h
    ·exact⟨k,by rw[sZ h,List.getElem?_eq_getElem hi,e]⟩
  |none=>exact ifF (by decide) ⟨rfl,js,rfl,le_succ_of_le hj,L⟩
 rintro ys H' ⟨rfl,js,rfl,hj,L⟩;intro D hD;have s1:=A8 hD (.lst (js.map λj=>V.int (j:Nat)));have hL:upd H' D (.lst (js.map λj=>V.int (j:Nat))) D=some (.lst (js.map λj=>V.int (j:Nat))):=A7;generalize upd H' D (.lst (js.map λj=>V.int (j:Nat)))=H1 at s1 hL⊢;have O:=hA.same s1;refine⟨fun σ' H'=>∃g st' sl',StA H0 H' d g st' sl'/\∀hs,Pc hs v st sl g st' sl', ?_,fun σ' H' ⟨g,st',sl',h1,h2⟩=>q g st' sl' H' h1 h2⟩;refine⟨_,rfl,_,_,rfl,rfl,(by decide:(0:Int)<2),.inl ⟨rfl,_,rfl, ?_⟩⟩;by_cases c1:l%2=0
 ·refine ifT (decide_eq_true (congrArg V.int c1)) ⟨_,rfl,d,.ref b,rfl,O.gb,zero_le _,λe he=> ?_⟩;have s2:=A8 he (.lst []);have u:=O.same s2;have I:=s2 _ _ hL;by_cases c2:st=[]
  ·subst c2;refine .inl ⟨b,e,[],rfl,rfl,SqL.of u.hb,SqL.of A7,rfl,_,rfl,ifF (by decide) ?_⟩;generalize upd H1 e (.lst [])=H2 at s2 u I⊢;clear s2 O hL;refine⟨fun σ' H'=>∃g st' sl',StA H0 H' d g st' sl'/\∀hs,Pc hs v [] sl g st' sl',⟨_,rfl,zero_le _,λe2 U=> ?_⟩,λ_ _ h=>h⟩;have s3:=A8 U (.lst []);have t:=u.same s3;have y:=s3 _ _ I;by_cases c3:js=[]
   ·subst c3;exact .inl ⟨D,e2,[],rfl,rfl,SqL.of y,SqL.of A7,rfl,_,rfl,ifF (by decide) ⟨v,_,sl,⟨a,b,c,rs,t⟩,λhs=>aUZ ..⟩⟩
   ·have G:0<js.length:=List.length_pos_iff.mpr c3;refine .inr ⟨D,e2,_,_,rfl,rfl,SqL.of y,SqL.of A7,(by rw[length_map];show js.length≠0;omega),_,rfl,ifT rfl ?_⟩;generalize upd H2 e2 (.lst [])=H3 at s3 t y⊢;obtain⟨i,(ei:l.fdiv 2%(js.length:Nat)=(i:Int)),hi⟩:=P3 (l.fdiv 2) G;obtain⟨k,hk⟩:=L _ (getElem_mem hi);have hx:(js.map λj=>V.int (j:Nat))[i]? =some (.int (js[i]:Nat)):=by rw[getElem?_map,List.getElem?_eq_getElem hi];rfl
    refine⟨_,rfl,_,rfl,_,_,rfl,rfl,lg (by decide) (by decide),_,rfl,_,_,rfl,.inl ⟨_,SqL.of y,rfl⟩,_,_,rfl,rfl,(by rw[length_map];omega),.inl ⟨D,_,(i:Int),_,rfl,(by rw[length_map];exact congrArg V.int ei),SqL.of y,D4 hx, ?_⟩⟩;refine(dgr rfl t (⟨_,rfl,z2,λp hp=> ?_⟩));have o:=(t.same (A8 hp (.tup [.str "load",.int (js[i]:Nat)]))).row (r:=.own (.load js[i])) ⟨p,rfl,A7⟩;refine⟨a,rs,.ref p,rfl,rfl,(A8 hp _) _ _ t.ha,big_ _ (by rw[<-hA.hr.len];omega), ?_⟩;generalize upd (upd H3 p (.tup [.str "load",.int (js[i]:Nat)])) a (.lst (rs++ [.ref p]))=H5 at o⊢;have hy:(sl.map ov)[js[i]]? =some (kv k):=by rw[getElem?_map,hk];rfl
    refine(dgb rfl o (⟨_,rfl,d,.ref c,rfl,o.gc,_,rfl,(ixL o.hc (D4 hy) ⟨b,_,_,rfl,rfl,o.hb,big_ _ (by rw[length_map];omega), ?_⟩)⟩));have M:=o.stk (st':=[]++ [k]);rw[map_append]at M;refine⟨_,_,sl,⟨a,b,c,_,M⟩,λhs=>⟨λps W hg=>⟨_,hg.push (BE hk)⟩, ?_, ?_, ?_,rfl,λh=>M0 h (λ_ z=>z) (h.2 k (mem_of_getElem? hk))⟩⟩
    ·rw[length_append];simp only[length_singleton];omega
    ·rw[J3];exact le_succ _
    ·rw[length_append];exact le_refl _
  ·obtain⟨C,k,rfl⟩:=CQ c2;refine .inr ⟨b,e,_,_,rfl,rfl,SqL.of u.hb,SqL.of A7,(by rw[length_map];show(C++ [k]).length≠0;rw[length_append];simp),_,rfl,ifT rfl ?_⟩;generalize upd H1 e (.lst [])=H2 at s2 u I⊢;obtain⟨m3,(ad:l.fdiv 2%3=(m3:Int)),ag⟩:=P3 (l.fdiv 2) (m:=3) (by decide);have S:(sl.map ov).length=sl.length:=length_map ..;refine⟨_,rfl,d,.ref c,rfl,u.gc,_,_,rfl,.inl ⟨_,SqL.of u.hc,rfl⟩,_,_,rfl,rfl,_,rfl,_,_,rfl,rfl,lg (by decide) (by decide),_,_,rfl,rfl,(by decide:(0:Int)<3),_,_,rfl,rfl, ?_⟩;show K0 _ _ _ [some (.ref d),some (.int l),some (.ref D),some (.int (((sl.map ov).length:Nat) - 1 - l.fdiv 2%3))] H2;obtain⟨sn,ac,T⟩:∃sn:Nat,(((sl.map ov).length:Nat):Int) - 1 - l.fdiv 2%3=(sn:Int)/\sn<sl.length:=⟨sl.length - 1 - m3,by rw[S,ad];omega,by omega⟩;rw[ac];have J:((C++ [k]).map kv)[((C++ [k]).map kv).length - 1]? =some (kv k):=by
    rw[map_append,length_append];simp
   refine⟨_,rfl,d,.ref b,rfl,u.gb,.inl ⟨rfl,_,SqL.of u.hb⟩,b,_,kv k,rfl,rfl,u.hb,J, ?_⟩;have t:=u.stk (st':=C);have ed:((C++ [k]).map kv).dropLast=C.map kv:=by rw[map_append];exact dropLast_concat
   rw[ed];have ab:ixN (sl.map ov).length (sn:Int)=some sn:=by
    unfold ixN;rw[S,if_pos (by omega)];simp[T]
   refine⟨_,rfl,d,.ref c,rfl,t.gc,_,rfl,c,_,(sn:Int),sn,rfl,rfl,t.hc,ab, ?_⟩;have R:=t.slt (sl':=sl.take sn++ [some k]++sl.drop (sn+1));have es:(sl.map ov).set sn (kv k)=(sl.take sn++ [some k]++sl.drop (sn+1)).map ov:=by
    rw[List.set_eq_take_append_cons_drop,if_pos (by rw[S];exact T),<-map_take,<-map_drop];simp[ov]
   rw[es];generalize upd (upd H2 b (.lst (C.map kv))) c (.lst ((sl.take sn++ [some k]++sl.drop (sn+1)).map ov))=H4 at R⊢;refine(dgr rfl R (⟨_,rfl,z2,λp hp=> ?_⟩));have o:=(R.same (A8 hp (.tup [.str "keep",.int (sn:Nat)]))).row (r:=.own (.keep sn)) ⟨p,rfl,A7⟩;refine⟨a,rs,.ref p,rfl,rfl,(A8 hp _) _ _ R.ha,big_ _ (by rw[<-hA.hr.len];omega),_,C,_,⟨a,b,c,_,o⟩,λhs=>⟨λps W hg=>⟨_,hg.one (λY ty i e=> .keep T e) ?_ ?_⟩, ?_, ?_, ?_, ?_,λh=>⟨λx hx=>h.1 x (mem_append_left _ hx),λx hx=> ?_⟩⟩⟩
   ·rw[length_append];omega
   ·simp only[length_append,length_take,length_drop,length_singleton];omega
   ·rw[length_append];simp only[length_singleton];omega
   ·rw[J3];exact le_succ _
   ·rw[length_append];omega
   ·simp only[length_append,length_take,length_drop,length_singleton];omega
   ·rcases mem_append.mp hx with hx|hx
    ·rcases mem_append.mp hx with hx|hx
     ·exact h.2 x (mem_of_mem_take hx)
     ·cases sZ hx;exact h.1 k (mem_append_right _ (mem_singleton.mpr rfl))
    ·exact h.2 x (List.mem_of_mem_drop hx)
 ·refine ifF (λz=>c1 (by have:=of_decide_eq_true z;injection this)) (ifF (by decide) ?_);have u:=O;have I:=hL;generalize H1=H2 at u I⊢;clear O hL s1;refine⟨fun σ' H'=>∃g st' sl',StA H0 H' d g st' sl'/\∀hs,Pc hs v st sl g st' sl',⟨_,rfl,zero_le _,λe2 U=> ?_⟩,λ_ _ h=>h⟩;have s3:=A8 U (.lst []);have t:=u.same s3;have y:=s3 _ _ I;by_cases c3:js=[]
  ·subst c3;exact .inl ⟨D,e2,[],rfl,rfl,SqL.of y,SqL.of A7,rfl,_,rfl,ifF (by decide) ⟨v,_,sl,⟨a,b,c,rs,t⟩,λhs=>aUZ ..⟩⟩
  ·have G:0<js.length:=List.length_pos_iff.mpr c3;refine .inr ⟨D,e2,_,_,rfl,rfl,SqL.of y,SqL.of A7,(by rw[length_map];show js.length≠0;omega),_,rfl,ifT rfl ?_⟩;generalize upd H2 e2 (.lst [])=H3 at s3 t y⊢;obtain⟨i,(ei:l.fdiv 2%(js.length:Nat)=(i:Int)),hi⟩:=P3 (l.fdiv 2) G;obtain⟨k,hk⟩:=L _ (getElem_mem hi);have hx:(js.map λj=>V.int (j:Nat))[i]? =some (.int (js[i]:Nat)):=by rw[getElem?_map,List.getElem?_eq_getElem hi];rfl
   refine⟨_,rfl,_,rfl,_,_,rfl,rfl,lg (by decide) (by decide),_,rfl,_,_,rfl,.inl ⟨_,SqL.of y,rfl⟩,_,_,rfl,rfl,(by rw[length_map];omega),.inl ⟨D,_,(i:Int),_,rfl,(by rw[length_map];exact congrArg V.int ei),SqL.of y,D4 hx, ?_⟩⟩;refine(dgr rfl t (⟨_,rfl,z2,λp hp=> ?_⟩));have o:=(t.same (A8 hp (.tup [.str "load",.int (js[i]:Nat)]))).row (r:=.own (.load js[i])) ⟨p,rfl,A7⟩;refine⟨a,rs,.ref p,rfl,rfl,(A8 hp _) _ _ t.ha,big_ _ (by rw[<-hA.hr.len];omega), ?_⟩;generalize upd (upd H3 p (.tup [.str "load",.int (js[i]:Nat)])) a (.lst (rs++ [.ref p]))=H5 at o⊢;have hy:(sl.map ov)[js[i]]? =some (kv k):=by rw[getElem?_map,hk];rfl
   refine(dgb rfl o (⟨_,rfl,d,.ref c,rfl,o.gc,_,rfl,(ixL o.hc (D4 hy) ⟨b,_,_,rfl,rfl,o.hb,big_ _ (by rw[length_map];omega), ?_⟩)⟩));have M:=o.stk (st':=st++ [k]);rw[map_append]at M;refine⟨_,_,sl,⟨a,b,c,_,M⟩,λhs=>⟨λps W hg=>⟨_,hg.push (BE hk)⟩, ?_, ?_, ?_,rfl,λh=>M0 h (λ_ z=>z) (h.2 k (mem_of_getElem? hk))⟩⟩
   ·rw[length_append];simp only[length_singleton];omega
   ·rw[J3];exact le_succ _
   ·rw[length_append];exact le_refl _
end
noncomputable abbrev s_law_listed:Stmt:=_C.top 45
noncomputable abbrev JC:List Str:=["_law_state","_law_more","_law_kind","_law_part","_law_way"]
theorem sc_law_listed:FnScope JC CF (B6 s_law_listed):=fS
theorem bQZ(a b:Kd):eqV (kv a) (kv b)=decide (a.tx=b.tx):=by
 show(a.tx==b.tx)=_;rfl
theorem TZ(k:Kd):inV (kv k) [.str "l",.str "L",.str "F"]=true↔k=.l\/k=.L\/k=.F:=by
 rw[v_l,v_L,v_F];unfold inV;simp only[any_cons,List.any_nil,Bool.or_false,Bool.or_eq_true,bQZ,decide_eq_true_eq];constructor
 ·intro h;rcases h with h|h|h
  ·exact .inl (AQ h).symm
  ·exact .inr (.inl (AQ h).symm)
  ·exact .inr (.inr (AQ h).symm)
 ·intro h;rcases h with rfl|rfl|rfl
  ·exact .inl rfl
  ·exact .inr (.inl rfl)
  ·exact .inr (.inr rfl)
theorem WG(n:Nat):ixN (n+1) (-1)=some n:=by
 unfold ixN;rw[if_neg (by decide),if_pos (by omega)];congr 1;omega
theorem ID(st0:List Kd)(k:Kd):atI ((st0++ [k]).map kv) (-1)=some (kv k):=by rw[map_append];exact L4 _ _
theorem OF(st0:List Kd)(k:Kd):ixN ((st0++ [k]).map kv).length (-1)=some st0.length:=by rw[length_map,length_append];exact WG _
theorem LD(st0:List Kd)(k k':Kd):((st0++ [k]).map kv).set st0.length (kv k')=(st0++ [k']).map kv:=by
 rw[map_append,map_append,List.set_append_right _ _ (by rw[length_map];exact le_refl _),length_map,Nat.sub_self];rfl
theorem YA(h:Prt p k):Gd p:=by
 cases h with
 |l=>exact .inl (.inl rfl)
 |L=>exact .inl (.inr (.inr (.inl rfl)))
 |F=>exact .inr ⟨.n,rfl,.inl rfl⟩
theorem XX(h:Prt p k):Gd k:=by
 cases h with
 |l=>exact .inl (.inr (.inr (.inl rfl)))
 |L=>exact .inl (.inr (.inr (.inr (.inl rfl))))
 |F=>exact .inl (.inr (.inr (.inr (.inr rfl))))
theorem c3Z{j:Nat}(h:j<3)(p k:Kd): [V.str "head",V.str "tail",V.str "empty"][j]? =some (.str ([("head":Str),"tail","empty"].getD j ""))/\∃rk k',rwV (.own rk)=[.str ([("head":Str),"tail","empty"].getD j "")]/\[kv p,kv k,.str "t"][j]? =some (kv k')/\wt (.own rk)=0/\(Prt p k->∀(hs:Hs) (told:Kd) (ty:List At) (i:Nat) (st:List Kd) (sl:List (Option Kd)),ty[i+1]? =some ⟨st++ [k'],sl⟩->RowK hs told ty i (.own rk) ⟨st++ [k],sl⟩)/\(Prt p k->Gd k'):=by
 match j,h with
 |0,_=>exact⟨rfl,.head,p,rfl,rfl,rfl,λhp _ _ _ _ _ _ e=> .head hp e,YA⟩
 |1,_=>exact⟨rfl,.tail,k,rfl,rfl,rfl,λhp _ _ _ _ _ _ e=> .tail hp e,XX⟩
 |2,_=>exact⟨rfl,.empty,.t,rfl,by rw[v_t];rfl,rfl,λhp _ _ _ _ _ _ e=> .empty hp e,λ_=> .inl (.inr (.inl rfl))⟩
section
theorem ok_law_listed(F:Fun Z "_law_listed" "_law_listed" s_law_listed f fd)
  (N0:Cn P w Z mg base CX0 2 "_law_push" VX HM)
  (G9:Cn P w Z mg base CX0 3 "_law_want" MZ AR):
  FnOk P w Z mg base CX0 4 f fd CF KI:=by
 refine F.om sc_law_listed λao A ab s H vs Q E hr h=> ?_;obtain⟨H0,d,g,o,st,sl,rfl,⟨a,b,c,rs,hA⟩,am,hl,U,ac,an,q⟩:=h;have nd:=sc_law_listed.nd;have hu:=hr.units0;refine⟨_,(A9 (D3 (sS 2 nd (M8 (C0 (NV (Z:=Z) hu) (dS hr (pv 0)) (E7 B4) rfl) (ixE Z w (dS hr (pv 0)) (L7 J1 B0)) B8)))
   (A9 (D2 (C0 (kEq (Z:=Z) hu) (pv 2) B8 rfl) (A9 (C5 (aP Z (dS hr (pv 0)) (cC N0 hr (A0 (pv 0) (A0 B8 (A0 (C1 D6 (pv 1) B0) B4))))))
   (A9 (C5 (aP Z (dS hr (pv 0)) (C3 (A0 B8 B4))))
   (A9 (L8 B8 (N9 (dS hr (pv 0)) (L7 J1 B0) P1))
   (B5 T3)))) C4)
   (A9 (D3 (sS 2 nd (M8 (C0 (kIn (Z:=Z) (w:=w)) (pv 2) (C3 (A0 B8 (A0 B8 (A0 B8 B4)))) rfl) (pv 2) (DV ix_str B8 (C1 E4 (pv 1) B0) (λ_ _=>rfl)))))
   (A9 (D3 (sS 3 nd (IT hr.u1 (OR (Q6 B8 B8 (Q6 B8 B8 (Q6 B8 B8 QB))) rfl rfl (by simp) (by decide)) (pv 2) (λ_ _=>rfl))))
   (A9 (sS 4 nd (C1 E4 (C1 D6 (pv 1) B0) B0))
   (A9 (D3 (D2 (PW.pt (R8 (C0 OQ (pv 4) B0 rfl) (O6 (C0 (kNe (Z:=Z) hu) (pv 2) B8 rfl)))) (A9 (C5 (cC G9 hr (A0 (pv 0) (A0 (E7 (A0 (pv 3) (A0 (pv 2) B4))) (A0 (C1 D6 (pv 1) B0) B4)))))
   (A9 (C5 (aP Z (dS hr (pv 0)) (C3 (A0 B8 B4))))
   (A9 (C5 (aP Z (dS hr (pv 0)) (pv 2)))
   (B5 T3)))) C4))
   (A9 (C5 (cC G9 hr (A0 (pv 0) (A0 (E7 (A0 (pv 2) B4)) (A0 (C1 D6 (pv 1) B0) B4)))))
   (A9 (C5 (aP Z (dS hr (pv 0)) (C3 (A0 (ixE Z w (E7 (A0 B8 (A0 B8 (A0 B8 B4)))) (C1 E4 (pv 4) B0)) B4))))
   (B5 (C5 (aP Z (dS hr (pv 0)) (ixE Z w (E7 (A0 (pv 3) (A0 (pv 2) (A0 B8 B4)))) (C1 E4 (pv 4) B0))))))))))))), ?_⟩
 refine⟨fun σ' H'=>∃k,σ'=[some (.ref d),some (.int g),some (kv k),none,none]/\SA H0 H' d a b c rs o st sl/\(k=.l\/∃B,st=B++ [k]), ?_, ?_⟩
 ·refine⟨_,rfl,d,.ref b,rfl,hA.gb,zero_le _,λe he=> ?_⟩;have s2:=A8 he (.lst []);have v:=hA.same s2;by_cases c2:st=[]
  ·subst c2;refine .inl ⟨b,e,[],rfl,rfl,SqL.of v.hb,SqL.of A7,rfl,_,rfl,ifF (by decide) ⟨.l, ?_,v,.inl rfl⟩⟩;rw[<-v_l];rfl
  ·obtain⟨B,k,rfl⟩:=CQ c2;exact .inr ⟨b,e,_,_,rfl,rfl,SqL.of v.hb,SqL.of A7,(by rw[length_map];show(B++ [k]).length≠0;rw[length_append];simp),_,rfl,ifT rfl ⟨_,rfl,d,.ref b,rfl,v.gb,_,rfl,(ixL v.hb (ID B k) ⟨k,rfl,v,.inr ⟨B,rfl⟩⟩)⟩⟩
 clear hA;rintro _ H1 ⟨k,rfl,hA,hk⟩;refine⟨_,rfl,.inl ⟨rfl,_,rfl, ?_⟩⟩;by_cases e:k=.fn .n
 ·subst e;obtain⟨B,rfl⟩:∃B,st=B++ [.fn .n]:=hk.resolve_left (λz=>nomatch z);refine ifT (decide_eq_true v_fn.symm) (dgr rfl hA (⟨_,rfl,_,rfl,_,_,rfl,rfl,lg (by decide) (by decide),H0,d,.F,_,o,_,sl,congrArg (λz=> [V.ref d,z,V.int _]) v_F,.inr (.inr (.inr (.inr rfl))),⟨a,b,c,rs,hA⟩,hl,λr1 p1 H5 s5 ag ae=> ?_⟩));have u:=(hA.same s5).row (r:=r1) ⟨p1,rfl,ag⟩;refine⟨a,_,.ref p1,rfl,rfl,(hA.same s5).ha,big_ _ (by rw[<-hA.hr.len];omega), ?_⟩;generalize upd H5 a (.lst (rs++ [.ref p1]))=H6 at u⊢;refine(dgr rfl u (⟨z1,λp2 I=> ?_⟩));have C:=(u.same (A8 I (.tup [.str "cons"]))).row (r:=.own .cons) ⟨p2,rfl,A7⟩;refine⟨a,_,.ref p2,rfl,rfl,(A8 I _) _ _ u.ha,big_ _ (by rw[<-u.hr.len];simp only[length_append,length_singleton];omega), ?_⟩;generalize upd (upd H6 p2 (.tup [.str "cons"])) a (.lst (rs++ [.ref p1]++ [.ref p2]))=H7 at C⊢;refine⟨_,rfl,d,.ref b,rfl,C.gb,_,rfl,b,_, -1,_,rfl,rfl,C.hb,OF B _, ?_⟩;rw[v_F,LD];refine q _ _ sl _ ⟨a,b,c,_,C.stk (st':=B++ [.F])⟩ λhs=>⟨λps S hg=> ?_, ?_, ?_, ?_,rfl,λh=>M0 h (λx hx=>mem_append_left _ hx) (.inl (.inr (.inr (.inr (.inr rfl)))))⟩
  ·have h1:=hg.push (ae hs);rw[List.append_assoc]at h1;exact⟨_,h1.one (λD ty i e=> .cons .F e) (by simp only[length_append,length_cons,length_nil];omega) rfl⟩
  ·simp only[length_append,length_singleton];omega
  ·have e1:=(ae hs).1;have e2:wts [r1]=0:=by show wt r1+0=0;rw[e1]
   rw[J3,J3,e2];exact le_refl _
  ·simp only[length_append,length_singleton];omega
 refine ifF (λz=>e (HK ((of_decide_eq_true z).trans v_fn))) ?_;refine⟨fun σ' H'=>∃k,σ'=[some (.ref d),some (.int g),some (kv k),none,none]/\SA H0 H' d a b c rs o st sl/\(k=.l\/k=.L\/k=.F), ?_, ?_⟩
 ·refine⟨_,rfl,z3,λt ht=> .inr (.inl ⟨t,_,rfl,.inr (SqT.of A7),rfl,rfl,_,rfl, ?_⟩)⟩;have v:=hA.same (A8 ht (.tup [.str "l",.str "L",.str "F"]));by_cases e2:k=.l\/k=.L\/k=.F
  ·exact ifT ((TZ k).mpr e2) ⟨_,rfl,k,rfl,v,e2⟩
  ·obtain⟨j,(ej:g%2=(j:Int)),hj⟩:=P3 g (m:=2) (by decide);have ai:∃cc k',("lL":Str).cps.toList[j]? =some cc/\V.str ⟨#[cc]⟩=kv k'/\(k'=.l\/k'=.L\/k'=.F):=by
    have e:("lL":Str).cps.toList=[108,76]:=by decide +kernel
    rw[e]
    match j,hj with
    |0,_=>exact⟨_,.l,rfl,rfl,.inl rfl⟩
    |1,_=>exact⟨_,.L,rfl,rfl,.inr (.inl rfl)⟩
   obtain⟨cc,k',t2,t3,ah⟩:=ai;refine ifF (λz=>e2 ((TZ k).mp z)) ⟨_,rfl,_,_,rfl,rfl,(by decide:(0:Int)<2),_,(j:Int),cc,rfl,congrArg V.int ej,by decide +kernel,D4 t2,k', ?_,v,ah⟩;rw[<-t3];rfl
 clear hA hk e k;rintro _ H2 ⟨k,rfl,hA,hk⟩;refine⟨fun σ' H'=>∃p,σ'=[some (.ref d),some (.int g),some (kv k),some (kv p),none]/\SA H0 H' d a b c rs o st sl/\Prt p k, ?_, ?_⟩
 ·intro dd ad;refine⟨A7,[(.inr "l",.str "n"),(.inr "L",.str "l"),(.inr "F",.str "fn")],rfl,(by decide:3<=15), ?_⟩;have v:=hA.same (A8 ad (.dK []));have u:SA H0 (upd (upd H2 dd (.dK [])) dd (.dK [(.inr "l",.str "n"),(.inr "L",.str "l"),(.inr "F",.str "fn")])) d a b c rs o st sl:=by
   rw[IX];exact hA.same (A8 ad _)
  have hD:upd (upd H2 dd (.dK [])) dd (.dK [(.inr "l",.str "n"),(.inr "L",.str "l"),(.inr "F",.str "fn")]) dd=some (.dK [(.inr "l",.str "n"),(.inr "L",.str "l"),(.inr "F",.str "fn")]):=A7;rcases hk with rfl|rfl|rfl
  ·refine⟨_,rfl,dd,.str "n",rfl, ?_,.n,by rw[v_n];rfl,u,.l⟩;rw[<-v_l];exact DGet.k (k:=.inr "l") hD
  ·refine⟨_,rfl,dd,.str "l",rfl, ?_,.l,by rw[v_l];rfl,u,.L⟩;rw[<-v_L];exact DGet.k (k:=.inr "L") hD
  ·refine⟨_,rfl,dd,.str "fn",rfl, ?_,.fn .n,by rw[v_fn];rfl,u,.F⟩;rw[<-v_F];exact DGet.k (k:=.inr "F") hD
 clear hA;rintro _ H3 ⟨p,rfl,hA,hp⟩;have Y:Bas k:=by rcases hk with h|h|h;exact .inr (.inr (.inl h));exact .inr (.inr (.inr (.inl h)));exact .inr (.inr (.inr (.inr h)))
 obtain⟨wy,(ak:g.fdiv 2%6=(wy:Int)),al⟩:=P3 (g.fdiv 2) (m:=6) (by decide);refine⟨_,rfl,_,_,rfl,rfl,lg (by decide) (by decide),_,_,rfl,rfl,(by decide:(0:Int)<6), ?_⟩;show K0 _ _ _ [some (.ref d),some (.int g),some (kv k),some (kv p),some (.int (g.fdiv 2%6))] H3;rw[ak];refine⟨fun σ' H'=>σ'=[some (.ref d),some (.int g),some (kv k),some (kv p),some (.int (wy:Int))]/\H'=H3,⟨_,rfl,_,_,rfl,rfl,_,rfl, ?_⟩, ?_⟩
 ·by_cases c1:wy<3
  ·refine ifT (decide_eq_true (by omega)) ⟨_,rfl,.inl ⟨rfl,_,rfl, ?_⟩⟩;by_cases c2:k=.F
   ·subst c2;refine ifF ?_ ⟨rfl,rfl⟩;rw[v_F,decide_eq_true rfl];decide
   ·refine ifT ?_ ?_
    ·rw[decide_eq_false λz=>c2 (HK (z.trans v_F))];rfl
    have aj:Bas p:=by
     cases hp with
     |l=>exact .inl rfl
     |L=>exact .inr (.inr (.inl rfl))
     |F=>exact absurd rfl c2
    refine⟨_,rfl,_,rfl,_,rfl,z2,λl O=>⟨_,rfl,_,_,rfl,rfl,lg (by decide) (by decide),upd H0 l (.lst [kv p,kv k]),d,l,[p,k],_,o,st,sl,rfl, ?_,A7,⟨a,b,c,rs,hA.base O _⟩,hl,by simp,le_trans U (by decide),le_trans ac (by decide),λJ st' H5 hS hT N hw M G=> ?_⟩⟩
    ·intro x hx;simp only[mem_cons,not_mem_nil,or_false]at hx;rcases hx with rfl|rfl
     ·exact aj
     ·exact Y
    obtain⟨a1,b1,aa,T,y⟩:=hS;replace y:=y.unbase (hA.n0 O);simp only[length_cons,length_nil]at N;refine(dgr rfl y (⟨z1,λp2 I=> ?_⟩));have C:=(y.same (A8 I (.tup [.str "cons"]))).row (r:=.own .cons) ⟨p2,rfl,A7⟩;refine⟨a1,_,.ref p2,rfl,rfl,(A8 I _) _ _ y.ha,big_ _ (by rw[<-y.hr.len];omega), ?_⟩;generalize upd (upd H5 p2 (.tup [.str "cons"])) a1 (.lst (T++ [.ref p2]))=H7 at C⊢;refine(dgb rfl C (⟨_,rfl,b1,_,_,rfl,rfl,C.hb,big_ _ (by rw[length_map];exact le_trans (le_trans M U) (by decide)), ?_⟩));have R:=C.stk (st':=st'++ [k]);rw[map_append]at R;refine q _ _ sl _ ⟨a1,b1,aa,_,R⟩ λhs=>⟨λps S hg=> ?_, ?_, ?_, ?_,rfl,λh=>M0 h G (.inl Y)⟩
    ·obtain⟨W,X⟩:=hT hs ps S hg;exact⟨_,X.one (λD ty i e=> .cons hp e) (by simp only[length_append,length_cons,length_nil];omega) rfl⟩
    ·rw[length_append];exact le_trans (succ_le_succ N) (add_le_add_left (by decide:3<=6) _)
    ·rw[J3,hw];exact le_refl _
    ·rw[length_append];exact succ_le_succ M
  ·exact ifF (λz=>c1 (by have:=of_decide_eq_true z;omega)) (ifF (by decide) ⟨rfl,rfl⟩)
 rintro _ H' ⟨rfl,e⟩;rw[e];clear e H';refine⟨_,rfl,_,rfl,z1,λl O=>⟨_,rfl,_,_,rfl,rfl,lg (by decide) (by decide),upd H0 l (.lst [kv k]),d,l,[k],_,o,st,sl,rfl, ?_,A7,⟨a,b,c,rs,hA.base O _⟩,hl,by simp,le_trans U (by decide),le_trans ac (by decide),λJ st' H5 hS hT N hw M G=> ?_⟩⟩
 ·intro x hx;rw[sZ hx];exact Y
 obtain⟨a1,b1,aa,T,y⟩:=hS;replace y:=y.unbase (hA.n0 O);simp only[length_singleton]at N;obtain⟨j,(ej:(wy:Int)%3=(j:Int)),hj⟩:=P3 (wy:Int) (m:=3) (by decide);obtain⟨t1,rk,k',t2,t3,t4,t5,t6⟩:=c3Z hj p k;refine(dgr rfl y (⟨z3,λl3 h3=>⟨_,rfl,_,_,rfl,rfl,(by decide:(0:Int)<3),.inl ⟨l3,_,(j:Int),_,rfl,congrArg V.int ej,SqL.of A7,D4 t1,z1,λp2 I=> ?_⟩⟩⟩));have s3:=A8 h3 (.lst [.str "head",.str "tail",.str "empty"]);have s4:=A8 I (.tup [.str ([("head":Str),"tail","empty"].getD j "")]);have v:=y.same (s3.trans s4);have u:=v.row (r:=.own rk) ⟨p2,rfl,by rw[A7,t2]⟩;refine⟨a1,T,.ref p2,rfl,rfl,v.ha,big_ _ (by rw[<-y.hr.len];omega), ?_⟩;generalize upd (upd (upd H5 l3 (.lst [.str "head",.str "tail",.str "empty"])) p2 (.tup [.str ([("head":Str),"tail","empty"].getD j "")])) a1 (.lst (T++ [.ref p2]))=H7 at u⊢;refine(dgb rfl u (⟨_,rfl,_,rfl,z3,λl4 h4=>⟨_,rfl,_,_,rfl,rfl,(by decide:(0:Int)<3),.inl ⟨l4,_,(j:Int),_,rfl,congrArg V.int ej,SqL.of A7,D4 t3, ?_⟩⟩⟩));have af:=u.same (A8 h4 (.lst [kv p,kv k,.str "t"]));refine⟨b1,_,_,rfl,rfl,af.hb,big_ _ (by rw[length_map];exact le_trans (le_trans M U) (by decide)), ?_⟩;have R:=af.stk (st':=st'++ [k']);rw[map_append]at R;refine q _ _ sl _ ⟨a1,b1,aa,_,R⟩ λhs=>⟨λps S hg=> ?_, ?_, ?_, ?_,rfl,λh=>M0 h G (t6 hp)⟩
 ·obtain⟨W,X⟩:=hT hs ps S hg;exact⟨_,X.one (λD ty i e=>t5 hp hs D ty i _ _ e) (by simp only[length_append,length_singleton];omega) rfl⟩
 ·rw[length_append];exact le_trans (succ_le_succ N) (add_le_add_left (by decide:2<=6) _)
 ·have:wts [.own rk]=0:=by show wt (.own rk)+0=0;rw[t4]
  rw[J3,hw,this];exact le_succ _
 ·rw[length_append];exact succ_le_succ M
end
noncomputable abbrev s_law_calling:Stmt:=_C.top 48
noncomputable abbrev EZ:List Str:=["_law_state","_law_more","_law_heads_here","_law_b","_law_params","_law_told"]
theorem sc_law_calling:FnScope EZ ctZ (B6 s_law_calling):=fS
noncomputable def eeZ(H:Hp)(h:List Kd×Kd)(u:V):Prop:=∃t lp,u=.ref t/\H t=some (.tup [.ref lp,kv h.2])/\H lp=some (.lst (h.1.map kv))
noncomputable def bRZ(H:Hp)(hp:Addr)(hs:Hs):Prop:=∃us,H hp=some (.lst us)/\All2 (eeZ H) hs us
noncomputable def UT(hs:Hs):Prop:=∀h∈hs,h.1.length<=3/\(∀k∈h.1,Bas k)/\Bas h.2
theorem v_f:V.str "f"=V.str ⟨#[102]⟩:=congrArg V.str (by decide +kernel)
theorem aVZ(xs:List V)(v:V):G8 (xs++ [v]) none (some (-1))=xs:=by
 have h:HT.sIx (xs++ [v]).length (xs++ [v]).length (some (-1))=xs.length:=by
  show(if(-1:Int)<0 then((-1:Int)+((xs++ [v]).length:Nat)).toNat else min (-1:Int).toNat (xs++ [v]).length)=xs.length;rw[if_pos (by decide)];simp;omega
 unfold G8;rw[h,HT.sIx_none];simp
theorem drZ(h:Bas k'):V.str (Txt.slice (Kd.fn k').tx (some 1) none)=kv k':=by
 rcases h with rfl|rfl|rfl|rfl|rfl<;>exact congrArg V.str (by decide +kernel)
theorem dqZ(h:Bas k'):V.str (("f":Str)++k'.tx)=kv (.fn k'):=by
 rcases h with rfl|rfl|rfl|rfl|rfl<;>exact congrArg V.str (by decide +kernel)
theorem diZ(h:Bas k'):("f":Str).length+k'.tx.length<=sizeLine:=by
 have:("f":Str).length+k'.tx.length<=2:=by rcases h with rfl|rfl|rfl|rfl|rfl<;>decide +kernel
 exact le_trans this (by decide)
theorem MG(h:Gd k):k.tx.length<=sizeLine:=by
 have:k.tx.length<=2:=by
  rcases h with h|⟨k',rfl,h⟩
  ·rcases h with rfl|rfl|rfl|rfl|rfl<;>decide
  ·rcases h with rfl|rfl|rfl|rfl|rfl<;>decide
 exact le_trans this (by decide)
section
inductive spCalW(hs:Hs)(vs:List V)(H:Hp)(Q:VK):Prop
 |mk:∀(H0:Hp) (d hp:Addr) (more:Int) (rows:List Rw) (st:List Kd) (sl:List (Option Kd)),(vs=[.ref d,.int more,.ref hp])->(bRZ H0 hp hs)->(UT hs)->(0<hs.length)->(hs.length<=10)->(StA H0 H d rows st sl)->(sl.length<=20)->(st.length<=900)->(rows.length<=900)->(GdS st sl)->(∀rows' st' sl' H',StA H0 H' d rows' st' sl'->Pc hs rows st sl rows' st' sl'->Q .non H')->spCalW hs vs H Q
noncomputable def JP(hs:Hs):Sp:=λvs H Q _=>spCalW hs vs H Q
theorem ok_law_calling(hs:Hs)(F:Fun Z "_law_calling" "_law_calling" s_law_calling f fd)(B:_B.NoG mg)
  (K2:Cn P w Z mg base CX0 1 "_law_number" q2L spNumB)
  (G9:Cn P w Z mg base CX0 3 "_law_want" MZ AR):
  FnOk P w Z mg base CX0 4 f fd ctZ (JP hs):=by
 refine F.om sc_law_calling λa2 A aj s H vs Q E hr h=> ?_;obtain⟨H0,d,hp,D,I,st,sl,rfl,⟨us,ak,an⟩,au,ar,av,⟨a,b,c,rs,hA⟩,hl,W,af,aw,q⟩:=h;have nd:=sc_law_calling.nd;have hu:=hr.units0;refine⟨_,(A9 (sS 3 nd (C1 E4 (C1 D6 (pv 1) B0) (kL Z B.len_ (pv 2))))
   (A9 (L8 (ixE Z w (pv 2) (pv 3)) (DD rfl (L0 (gN 4 nd) (L0 (gN 5 nd) Z7))))
   (A9 (D3 (D2 (PW.pt (R8 (C0 (NV (Z:=Z) hu) (dS hr (pv 0)) (E7 B4) rfl) (O6 (C0 (kEq (Z:=Z) hu) (ixE Z w (ixE Z w (dS hr (pv 0)) (L7 J1 B0)) B0) B8 rfl)))) (A9 (C5 (aP Z (dS hr (pv 0)) (C3 (A0 B8 (A0 (cC K2 hr (A0 (C1 D6 (pv 1) B0) B4)) B4)))))
   (A9 (C5 (aP Z (dS hr (pv 0)) (C3 (A0 B8 B4))))
   (A9 (L8 (G1 bYZ (ixE Z w (dS hr (pv 0)) (L7 J1 B0)) (G2 B0) K5) (N9 (dS hr (pv 0)) (L7 J1 B0) P1))
   (B5 T3)))) C4))
   (A9 (D3 (D2 (PW.pt (P0 (C0 (kEq (Z:=Z) hu) (C1 E4 (pv 1) B0) B0 rfl) (O0 (C0 (aXZ (Z:=Z) hu) (G1 (W0 (Z:=Z)) (pv 4) (G2 (L7 J1 B0)) K5) (E7 (A0 B8 B4)) rfl)))) (A9 (C5 (cC G9 hr (A0 (pv 0) (A0 (pv 4) (A0 (C1 D6 (pv 1) B0) B4)))))
   (A9 (C5 (aP Z (dS hr (pv 0)) (C3 (A0 B8 (A0 (pv 3) (A0 (kL Z B.len_ (pv 4)) B4))))))
   (A9 (C5 (aP Z (dS hr (pv 0)) (pv 5)))
   (B5 T3)))) C4))
   (A9 (C5 (cC G9 hr (A0 (pv 0) (A0 (G1 (W0 (Z:=Z)) (pv 4) K5 (G2 (L7 J1 B0))) (A0 (C1 D6 (pv 1) B0) B4)))))
   (A9 (C5 (aP Z (dS hr (pv 0)) (C3 (A0 B8 (A0 (pv 3) (A0 (C1 M3 (kL Z B.len_ (pv 4)) B0) B4))))))
   (B5 (C5 (aP Z (dS hr (pv 0)) (C1 YO B8 (pv 5))))))))))), ?_⟩
 have az:=an.len;obtain⟨bn,(eb:D.fdiv 3%(us.length:Nat)=(bn:Int)),a0⟩:=P3 (D.fdiv 3) (m:=us.length) (by omega);obtain⟨⟨ps,v⟩,ab⟩:∃h,hs[bn]? =some h:=⟨_,List.getElem?_eq_getElem (by omega)⟩;obtain⟨u,aq,t,lp,rfl,ht,R⟩:=G5 an ab;obtain⟨p3,pb,tb⟩:=au _ (mem_of_getElem? ab);simp only at ht R p3 pb tb;refine⟨_,rfl,_,_,rfl,rfl,lg (by decide) (by decide),_,rfl,_,_,rfl,.inl ⟨_,SqL.of (hA.sm _ _ ak),rfl⟩,_,_,rfl,rfl,(by omega:(0:Int)<(us.length:Nat)), ?_⟩;show K0 _ _ _ [some (.ref d),some (.int D),some (.ref hp),some (.int (D.fdiv 3%(us.length:Nat))),none,none] H;rw[eb];refine⟨_,rfl,_,rfl,(ixL (hA.sm _ _ ak) (D4 aq) ⟨t,_,rfl,SqT.of (hA.sm _ _ ht),rfl,_,_,rfl,_,_,rfl,rfl, ?_⟩)⟩;refine⟨fun σ' H'=>σ'=[some (.ref d),some (.int D),some (.ref hp),some (.int (bn:Int)),some (.ref lp),some (kv v)]/\SA H0 H' d a b c rs I st sl, ?_, ?_⟩
 ·refine⟨_,rfl,d,.ref b,rfl,hA.gb,zero_le _,λe he=> ?_⟩;have s2:=A8 he (.lst []);have M:=hA.same s2;by_cases c2:st=[]
  ·subst c2;exact .inl ⟨b,e,[],rfl,rfl,SqL.of M.hb,SqL.of A7,rfl,_,rfl,ifF (by decide) (ifF (by decide) ⟨rfl,M⟩)⟩
  obtain⟨Y,k,rfl⟩:=CQ c2;have ah:Gd k:=aw.1 k (mem_append_right _ (mem_singleton.mpr rfl));obtain⟨c0,cr,T⟩:∃c0 cr,k.cs=c0::cr:=by cases k<;>exact⟨_,_,rfl⟩
  have ay:k.tx.cps.toList[0]? =some c0:=by show k.cs[0]? =_;rw[T];rfl
  refine .inr ⟨b,e,_,_,rfl,rfl,SqL.of M.hb,SqL.of A7,(by rw[length_map];show(Y++ [k]).length≠0;rw[length_append];simp),_,rfl,ifT rfl ⟨_,rfl,d,.ref b,rfl,M.gb,_,rfl,(ixL M.hb (ID Y k) (.inr (.inr (.inl ⟨k.tx,0,c0,rfl,rfl,MG ah,D4 (j:=0) ay,.inl ⟨rfl,_,rfl, ?_⟩⟩))))⟩⟩;generalize upd H e (.lst [])=H2 at s2 M⊢;by_cases ck:∃k',k=.fn k'
  ·obtain⟨k',rfl⟩:=ck;have am:Bas k':=by
    rcases ah with h|⟨k2,h,hb⟩
    ·rcases h with h|h|h|h|h<;>cases h
    ·cases h;exact hb
   cases T;refine ifT (decide_eq_true v_f.symm) (dgr rfl M (⟨_,rfl,_,_,rfl,rfl,lg (by decide) (by decide),_,rfl,λm hm=>⟨z2,λp hp=> ?_⟩⟩));have G:=(M.same (A8 hp (.tup [.str "push",.int m]))).row (r:=.own (.push (.int m))) ⟨p,rfl,A7⟩;refine⟨a,_,.ref p,rfl,rfl,(A8 hp _) _ _ M.ha,big_ _ (by rw[<-hA.hr.len];omega), ?_⟩;generalize upd (upd H2 p (.tup [.str "push",.int m])) a (.lst (rs++ [.ref p]))=H6 at G⊢;refine(dgr rfl G (⟨z1,λp2 al=> ?_⟩));have y:=(G.same (A8 al (.tup [.str "apply"]))).row (r:=.apply) ⟨p2,rfl,A7⟩;refine⟨a,_,.ref p2,rfl,rfl,(A8 al _) _ _ G.ha,big_ _ (by rw[<-G.hr.len];simp only[length_append,length_singleton];omega), ?_⟩;generalize upd (upd H6 p2 (.tup [.str "apply"])) a (.lst (rs++ [.ref p]++ [.ref p2]))=H7 at y⊢;refine⟨_,rfl,d,.ref b,rfl,y.gb,_,rfl,(ixL y.hb (ID Y _) ⟨_,rfl,_,rfl,MG ah,_,rfl,d,.ref b,rfl,y.gb,_,rfl,b,_, -1,_,rfl,rfl,y.hb,OF Y _, ?_⟩)⟩;rw[drZ am,LD];refine q _ _ sl _ ⟨a,b,c,_,y.stk (st':=Y++ [k'])⟩ ⟨λps U hg=> ?_, ?_, ?_, ?_,rfl,λh=>M0 h (λx hx=>mem_append_left _ hx) (.inl am)⟩
   ·have h1:=hg.push (MN hm);rw[List.append_assoc]at h1;exact⟨_,h1.one (λv ty i e=> .apply e) (by simp only[length_append,length_cons,length_nil];omega) rfl⟩
   ·simp only[length_append,length_singleton];omega
   ·rw[J3,J3];exact le_succ _
   ·simp only[length_append,length_singleton];omega
  ·refine ifF ?_ ⟨rfl,M⟩;rw[v_f];cases k with
   |fn k'=>exact absurd ⟨k',rfl⟩ ck
   |n=>cases T;decide
   |t=>cases T;decide
   |l=>cases T;decide
   |L=>cases T;decide
   |F=>cases T;decide
 clear hA;rintro _ H1 ⟨rfl,hA⟩;refine⟨fun σ' H'=>σ'=[some (.ref d),some (.int D),some (.ref hp),some (.int (bn:Int)),some (.ref lp),some (kv v)]/\SA H0 H' d a b c rs I st sl/\∃g,ps=g++ [.n], ?_, ?_⟩
 ·refine⟨_,rfl,_,_,rfl,rfl,(by decide:(0:Int)<3),.inl ⟨rfl,_,rfl, ?_⟩⟩;by_cases c1:D%3=0
  ·refine ifT (decide_eq_true (congrArg V.int c1)) (ifT rfl ?_);have G:=hA;generalize H1=H3 at G⊢;clear hA;refine⟨_,rfl,_,rfl,_,rfl,_,_,rfl,rfl,lg (by decide) (by decide),H0,d,lp,ps,_,I,st,sl,rfl,pb,R,⟨a,b,c,rs,G⟩,hl,le_trans p3 (by decide),le_trans W (by decide),le_trans af (by decide),λN st' H5 hS hT ac hw O J=> ?_⟩;obtain⟨a1,b1,ai,aa,C⟩:=hS;refine(dgr rfl C (⟨_,rfl,_,rfl,_,_,rfl,.inl ⟨_,SqL.of (C.sm _ _ R),rfl⟩,z3,λp hp=> ?_⟩));rw[show(ps.map kv).length=ps.length from length_map ..];have y:=(C.same (A8 hp (.tup [.str "call",.int (bn:Nat),.int (ps.length:Nat)]))).row (r:=.call bn ps.length) ⟨p,rfl,A7⟩;refine⟨a1,_,.ref p,rfl,rfl,(A8 hp _) _ _ C.ha,big_ _ (by rw[<-C.hr.len];omega), ?_⟩;generalize upd (upd H5 p (.tup [.str "call",.int (bn:Nat),.int (ps.length:Nat)])) a1 (.lst (aa++ [.ref p]))=H7 at y⊢;refine(dgb rfl y (⟨_,rfl,b1,_,_,rfl,rfl,y.hb,big_ _ (by rw[length_map];exact le_trans (le_trans O W) (by decide)), ?_⟩));have S:=y.stk (st':=st'++ [v]);rw[map_append]at S;refine q _ _ sl _ ⟨a1,b1,ai,_,S⟩ ⟨λae U hg=> ?_, ?_, ?_, ?_,rfl,λh=>M0 h J (.inl tb)⟩
   ·obtain⟨X,ad⟩:=hT hs ae U hg;exact⟨_,ad.one (λv ty i e=> .call ab e) (by simp only[length_append,length_singleton];omega) rfl⟩
   ·rw[length_append];exact le_trans (succ_le_succ (le_trans ac (add_le_add_left p3 _))) (add_le_add_left (by decide:4<=6) _)
   ·rw[J3,hw];exact le_succ _
   ·rw[length_append];exact succ_le_succ O
  ·refine ifF (λz=>c1 (by have:=of_decide_eq_true z;injection this)) ⟨_,rfl,_,rfl,_,rfl,.inl (.inl ⟨lp,_,rfl,SqL.of (hA.sm _ _ R),λl1 h1=>⟨z1,λl2 h2=> ?_⟩⟩)⟩;have s1:=A8 h1 (.lst (G8 (ps.map kv) (some (-1)) none));have s2:=A8 h2 (.lst [.str "n"]);have ao:=s2 _ _ (A7 (H:=H1) (a:=l1) (o:=.lst (G8 (ps.map kv) (some (-1)) none)));have G:=hA.same (s1.trans s2);have ax:(G8 (ps.map kv) (some (-1)) none).all P6=true:=by
    rw[all_eq_true];intro x hx;obtain⟨k,_,rfl⟩:=mem_map.mp (List.mem_of_mem_drop (mem_of_mem_take hx));rfl
   refine⟨l1,l2,_,_,rfl,rfl,SqL.of ao,SqL.of A7,ax,rfl,_,rfl, ?_⟩;generalize upd (upd H1 l1 (.lst (G8 (ps.map kv) (some (-1)) none))) l2 (.lst [.str "n"])=H3 at s1 s2 G⊢;clear ao s1 s2 hA;by_cases c2:∃g,ps=g++ [.n]
   ·obtain⟨g,rfl⟩:=c2;refine ifF ?_ ⟨rfl,G,g,rfl⟩;rw[map_append];show¬(!EW (G8 (g.map kv++ [kv .n]) (some (-1)) none) [.str "n"])=true;rw[NF,v_n];decide
   ·refine ifT ?_ ?_
    ·by_cases c3:ps=[]
     ·subst c3;rfl
     ·obtain⟨g,k,rfl⟩:=CQ c3;have hk:k≠ .n:=λz=>c2 ⟨g,by rw[z]⟩;rw[map_append];show(!EW (G8 (g.map kv++ [kv k]) (some (-1)) none) [.str "n"])=true;rw[NF,v_n];have:=DX (as:=[k.tx]) (bs:=[Kd.n.tx]);show(!EW ([k.tx].map V.str) ([Kd.n.tx].map V.str))=true;rw[this,decide_eq_false λz=>hk (AQ (by injection z))];rfl
    refine⟨_,rfl,_,rfl,_,rfl,_,_,rfl,rfl,lg (by decide) (by decide),H0,d,lp,ps,_,I,st,sl,rfl,pb,R,⟨a,b,c,rs,G⟩,hl,le_trans p3 (by decide),le_trans W (by decide),le_trans af (by decide),λN st' H5 hS hT ac hw O J=> ?_⟩;obtain⟨a1,b1,ai,aa,C⟩:=hS;refine(dgr rfl C (⟨_,rfl,_,rfl,_,_,rfl,.inl ⟨_,SqL.of (C.sm _ _ R),rfl⟩,z3,λp hp=> ?_⟩));rw[show(ps.map kv).length=ps.length from length_map ..];have y:=(C.same (A8 hp (.tup [.str "call",.int (bn:Nat),.int (ps.length:Nat)]))).row (r:=.call bn ps.length) ⟨p,rfl,A7⟩;refine⟨a1,_,.ref p,rfl,rfl,(A8 hp _) _ _ C.ha,big_ _ (by rw[<-C.hr.len];omega), ?_⟩;generalize upd (upd H5 p (.tup [.str "call",.int (bn:Nat),.int (ps.length:Nat)])) a1 (.lst (aa++ [.ref p]))=H7 at y⊢;refine(dgb rfl y (⟨_,rfl,b1,_,_,rfl,rfl,y.hb,big_ _ (by rw[length_map];exact le_trans (le_trans O W) (by decide)), ?_⟩));have S:=y.stk (st':=st'++ [v]);rw[map_append]at S;refine q _ _ sl _ ⟨a1,b1,ai,_,S⟩ ⟨λae U hg=> ?_, ?_, ?_, ?_,rfl,λh=>M0 h J (.inl tb)⟩
    ·obtain⟨X,ad⟩:=hT hs ae U hg;exact⟨_,ad.one (λv ty i e=> .call ab e) (by simp only[length_append,length_singleton];omega) rfl⟩
    ·rw[length_append];exact le_trans (succ_le_succ (le_trans ac (add_le_add_left p3 _))) (add_le_add_left (by decide:4<=6) _)
    ·rw[J3,hw];exact le_succ _
    ·rw[length_append];exact succ_le_succ O
 clear hA;rintro _ H3 ⟨rfl,hA,g,rfl⟩;have ag:∀k∈g,Bas k:=λk hk=>pb k (mem_append_left _ hk);have p2:g.length<=2:=by rw[length_append]at p3;simp only[length_singleton]at p3;omega
 have ap:((g++ [Kd.n]).map kv).length=g.length+1:=by rw[length_map,length_append];rfl
 refine⟨_,rfl,_,rfl,_,rfl,_,rfl,.inl (.inl ⟨lp,_,rfl,SqL.of (hA.sm _ _ R),λl1 h1=> ?_⟩)⟩;have ec:G8 ((g++ [Kd.n]).map kv) none (some (-1))=g.map kv:=by rw[map_append];exact aVZ _ _
 rw[ec];refine⟨_,rfl,_,_,rfl,rfl,lg (by decide) (by decide),upd H0 l1 (.lst (g.map kv)),d,l1,g,_,I,st,sl,rfl,ag,A7,⟨a,b,c,rs,hA.base h1 _⟩,hl,le_trans p2 (by decide),le_trans W (by decide),le_trans af (by decide),λN st' H5 hS hT ac hw O J=> ?_⟩;obtain⟨a1,b1,c1,aa,C⟩:=hS;replace C:=C.unbase (hA.n0 h1);refine(dgr rfl C (⟨_,rfl,_,rfl,_,_,rfl,.inl ⟨_,SqL.of (C.sm _ _ R),rfl⟩,_,_,rfl,rfl,z3,λp hp=> ?_⟩));have en:(((g++ [Kd.n]).map kv).length:Int) - 1=(g.length:Nat):=by rw[ap];omega
 have y:=(C.same (A8 hp (.tup [.str "close",.int (bn:Nat),.int ((((g++ [Kd.n]).map kv).length:Int) - 1)]))).row (r:=.own (.close bn g.length)) ⟨p,rfl,by rw[A7,en];rfl⟩;refine⟨a1,_,.ref p,rfl,rfl,(A8 hp _) _ _ C.ha,big_ _ (by rw[<-C.hr.len];omega), ?_⟩;generalize upd (upd H5 p (.tup [.str "close",.int (bn:Nat),.int ((((g++ [Kd.n]).map kv).length:Int) - 1)])) a1 (.lst (aa++ [.ref p]))=H7 at y⊢;refine(dgb rfl y (⟨_,rfl,.inr (.inl ⟨_,_,rfl,rfl,(diZ tb), ?_⟩)⟩));rw[dqZ tb];refine⟨b1,_,_,rfl,rfl,y.hb,big_ _ (by rw[length_map];exact le_trans (le_trans O W) (by decide)), ?_⟩;have S:=y.stk (st':=st'++ [.fn v]);rw[map_append]at S;refine q _ _ sl _ ⟨a1,b1,c1,_,S⟩ ⟨λps U hg=> ?_, ?_, ?_, ?_,rfl,λh=>M0 h J (.inr ⟨v,rfl,tb⟩)⟩
 ·obtain⟨X,ad⟩:=hT hs ps U hg;exact⟨_,ad.one (λv ty i e=> .close ab (by omega) e) (by simp only[length_append,length_singleton];omega) rfl⟩
 ·rw[length_append];exact le_trans (succ_le_succ (le_trans ac (add_le_add_left p2 _))) (add_le_add_left (by decide:3<=6) _)
 ·rw[J3,hw];exact le_refl _
 ·rw[length_append];exact succ_le_succ O
end
noncomputable abbrev s_law_block:Stmt:=_C.top 49
noncomputable abbrev LH:List Str:=["_law_cells","_law_heads_here","_law_b","_law_params","_law_told","_law_state","_law_cell","_law_more"]
theorem sc_law_block:FnScope LH q4L (B6 s_law_block):=fS
structure BI (hs:Hs) (ps:List Kd) (H0 H':Hp) (dd:Addr) (i:Nat) (rows:List Rw) (st:List Kd) (sl:List (Option Kd)):Prop where
 sa:StA H0 H' dd rows st sl
 ok:∃tys,GOk hs ps rows st sl tys
 len:rows.length<=6*i
 wt:wts rows<=i
 stl:st.length<=i
 sll:sl.length=ps.length+3
 gd:GdS st sl
noncomputable def BPv(hs:Hs)(ps:List Kd)(H0:Hp)(ce hp lp dd:Addr)(b:Nat)(told:Kd)(i:Nat)(σ:St)(H':Hp):Prop:=∃rows st sl x6 x7,σ=[some (.ref ce),some (.ref hp),some (.int (b:Nat)),some (.ref lp),some (kv told),some (.ref dd),x6,x7]/\BI hs ps H0 H' dd i rows st sl
theorem BI.step{dd:Addr}{st:List Kd}(h:BI hs ps H0 H' dd i rows st sl)(h1:StA H0 H2 dd rows' st' sl')(h2:Pc hs rows st sl rows' st' sl'):BI hs ps H0 H2 dd (i+1) rows' st' sl':=by
 obtain⟨a,hg⟩:=h.ok;have a1:=h.len;have a2:=h.wt;have a3:=h.stl;have a4:=h.sll;have b1:=h2.len;have b2:=h2.wts;have b3:=h2.stl;have b4:=h2.sll;exact⟨h1,h2.go ps a hg,by omega,by omega,by omega,by omega,h2.gd h.gd⟩
section
inductive spBlockW(hs:Hs)(vs:List V)(H:Hp)(Q:VK):Prop
 |mk:∀(ce hp:Addr) (ns:List Int) (b:Nat) (ps:List Kd) (told:Kd),(vs=[.ref ce,.ref hp,.int (b:Nat)])->(H ce=some (.lst (ns.map V.int)))->(ns.length<=8)->(bRZ H hp hs)->(UT hs)->(hs.length<=10)->(hs[b]? =some (ps,told))->(∀bk u H',Same H H'->BAt H' bk u->(∃tys,BkOk hs b bk ps told tys)->Q u H')->spBlockW hs vs H Q
noncomputable def HS(hs:Hs):Sp:=λvs H Q _=>spBlockW hs vs H Q
theorem ok_law_block(hs:Hs)(F:Fun Z "_law_block" "_law_block" s_law_block f fd)(B:_B.NoG mg)
  (K2:Cn P w Z mg base CX0 1 "_law_number" q2L spNumB)
  (G9:Cn P w Z mg base CX0 3 "_law_want" MZ AR)
  (GU:Cn P w Z mg base CX0 4 "_law_reckon" CF KI)
  (GX:Cn P w Z mg base CX0 4 "_law_listed" CF KI)
  (GZ:Cn P w Z mg base CX0 4 "_law_branch" CF KI)
  (ET:Cn P w Z mg base CX0 1 "_law_slotted" CF KI)
  (EO:Cn P w Z mg base CX0 4 "_law_calling" ctZ (JP hs)):
  FnOk P w Z mg base CX0 5 f fd q4L (HS hs):=by
 refine F.om sc_law_block λa6 A ae s H vs Q E hr h=> ?_;obtain⟨ce,hp,ns,b,ps,j,rfl,ab,a5,ac,U,O,S,q⟩:=h;have nd:=sc_law_block.nd;have hu:=hr.units0;refine⟨_,(A9 (L8 (ixE Z w (pv 1) (pv 2)) (DD rfl (L0 (gN 3 nd) (L0 (gN 4 nd) Z7))))
   (A9 (sS 5 nd (OR (Q6 B8 (E7 B4) (Q6 B8 (E7 B4) (Q6 B8 (C1 (K6 (Z:=Z)) (F9 (P8 (Z:=Z)) rfl B.list_ J8 (A0 (pv 3) B4)) (E7 (A0 K4 (A0 K4 (A0 K4 B4))))) QB))) rfl rfl (by simp) (by decide)))
   (A9 (D3 (O1 PassesOwn.never rfl (P7 (Z:=Z) (pv 0)) (gN 6 nd) (A9 (sS 7 nd (C1 D6 (pv 6) B0))
   (B5 (D3 (D2 (C0 (kEq (Z:=Z) hu) (C1 E4 (pv 6) B0) B0 rfl) (B5 (C5 (cC GU hr (A0 (pv 5) (A0 (pv 7) B4))))) (B5 (D3 (D2 (PW.pt (P0 (C0 (kEq (Z:=Z) hu) (C1 E4 (pv 6) B0) B0 rfl) (O0 (C0 (kEq (Z:=Z) hu) (C1 E4 (pv 6) B0) B0 rfl)))) (B5 (C5 (cC GX hr (A0 (pv 5) (A0 (pv 7) B4))))) (B5 (D3 (D2 (C0 (kEq (Z:=Z) hu) (C1 E4 (pv 6) B0) B0 rfl) (B5 (C5 (cC GZ hr (A0 (pv 5) (A0 (pv 7) B4))))) (B5 (D3 (D2 (C0 (kEq (Z:=Z) hu) (C1 E4 (pv 6) B0) B0 rfl) (B5 (C5 (cC ET hr (A0 (pv 5) (A0 (pv 7) B4))))) (B5 (D3 (D2 (PW.pt (P0 (C0 (kEq (Z:=Z) hu) (C1 E4 (pv 6) B0) B0 rfl) (O0 (C0 (kEq (Z:=Z) hu) (C1 E4 (pv 6) B0) B0 rfl)))) (B5 (C5 (cC EO hr (A0 (pv 5) (A0 (pv 7) (A0 (pv 1) B4)))))) (A9 (C5 (aP Z (dS hr (pv 5)) (C3 (A0 B8 (A0 (cC K2 hr (A0 (pv 7) B4)) B4)))))
   (B5 (C5 (aP Z (dS hr (pv 5)) B8))))))))))))))))))))))
   (A9 (C5 (cC G9 hr (A0 (pv 5) (A0 (E7 (A0 (pv 4) B4)) (A0 (C1 (K6 (Z:=Z)) (C1 EU B0 (kL Z B.len_ (pv 0))) B0) B4)))))
   (B5 (C2 (C3 (A0 (kL Z B.len_ (pv 3)) (A0 (C1 (K6 (Z:=Z)) (kL Z B.len_ (pv 3)) B0) (A0 (F9 (Z1 (Z:=Z)) rfl B.tuple_ J6 (A0 (C1 (K6 (Z:=Z)) (dS hr (pv 5)) (E7 (A0 (C3 (A0 B8 B4)) B4))) B4)) B4)))))))))), ?_⟩
 obtain⟨us,al,av⟩:=id ac;obtain⟨u,am,t,lp,rfl,ht,X⟩:=G5 av S;obtain⟨p3,pb,tb⟩:=U _ (mem_of_getElem? S);simp only at ht X p3 pb tb;have M:0<hs.length:=lt_of_le_of_lt (zero_le _) (List.getElem?_eq_some_iff.mp S).1;have ai:(ps.map kv).length=ps.length:=length_map ..;refine⟨_,rfl,_,rfl,(ixL al (D4 am) ⟨t,_,rfl,SqT.of ht,rfl,_,_,rfl,_,_,rfl,rfl, ?_⟩)⟩;intro dd aa;have s0:=A8 aa (.dK []);refine⟨zero_le _,λa ha=>⟨zero_le _,λb2 J=> ?_⟩⟩;have s1:=A8 ha (.lst []);have s2:=A8 J (.lst []);refine⟨_,rfl,lp,_,rfl,.inl (SqL.of (s2 _ _ (s1 _ _ (s0 _ _ X)))),λl1 h1=>⟨z3,λl2 h2=> ?_⟩⟩;have s3:=A8 h1 (.lst (ps.map kv));have s4:=A8 h2 (.lst [.non,.non,.non]);refine .inr (.inl ⟨l1,l2,_,_,rfl,rfl,s4 _ _ A7,A7,big_ _ (by rw[ai];show ps.length+3<=950;omega)|>le_of_lt,λc hc=> ?_⟩);have s5:=A8 hc (.lst (ps.map kv++ [.non,.non,.non]));refine⟨s5 _ _ (s4 _ _ (s3 _ _ (s2 _ _ (s1 _ _ A7)))),[(.inr "rows",.ref a),(.inr "stack",.ref b2),(.inr "slots",.ref c)],rfl,(by decide:3<=15), ?_⟩;have e1:Same H (upd (upd (upd (upd (upd (upd H dd (.dK [])) a (.lst [])) b2 (.lst [])) l1 (.lst (ps.map kv))) l2 (.lst [.non,.non,.non])) c (.lst (ps.map kv++ [.non,.non,.non]))):=s0.trans (s1.trans (s2.trans (s3.trans (s4.trans s5))));have na:H a=none:=by
  cases e:H a with
  |none=>rfl
  |some o=>rw[s0 _ _ e]at ha;cases ha
 have nb:H b2=none:=by
  cases e:H b2 with
  |none=>rfl
  |some o=>rw[s1 _ _ (s0 _ _ e)]at J;cases J
 have nc:H c=none:=by
  cases e:H c with
  |none=>rfl
  |some o=>rw[s4 _ _ (s3 _ _ (s2 _ _ (s1 _ _ (s0 _ _ e))))]at hc;cases hc
 have xa:=(s2.trans (s3.trans (s4.trans s5))) _ _ (A7 (H:=upd H dd (.dK [])) (a:=a) (o:=.lst []));have xb:=(s3.trans (s4.trans s5)) _ _ (A7 (H:=upd (upd H dd (.dK [])) a (.lst [])) (a:=b2) (o:=.lst []));have xd:=(s1.trans (s2.trans (s3.trans (s4.trans s5)))) _ _ (A7 (H:=H) (a:=dd) (o:=.dK []));have xc:=A7 (H:=upd (upd (upd (upd (upd H dd (.dK [])) a (.lst [])) b2 (.lst [])) l1 (.lst (ps.map kv))) l2 (.lst [.non,.non,.non])) (a:=c) (o:=.lst (ps.map kv++ [.non,.non,.non]));have ah:a≠b2:=λz=>by rw[<-z,A7]at J;cases J
 have ag:a≠c:=λz=>by
  rw[<-z,(s2.trans (s3.trans s4)) _ _ A7]at hc;cases hc
 have af:b2≠c:=λz=>by
  rw[<-z,(s3.trans s4) _ _ A7]at hc;cases hc
 generalize upd (upd (upd (upd (upd (upd H dd (.dK [])) a (.lst [])) b2 (.lst [])) l1 (.lst (ps.map kv))) l2 (.lst [.non,.non,.non])) c (.lst (ps.map kv++ [.non,.non,.non]))=H1 at e1 xa xb xc xd⊢;clear s0 s1 s2 s3 s4 s5 ha J h1 h2 hc;have da:a≠dd:=λz=>by rw[z,xd]at xa;cases xa
 have db:b2≠dd:=λz=>by rw[z,xd]at xb;cases xb
 have dc:c≠dd:=λz=>by rw[z,xd]at xc;cases xc
 have hA:SA H (upd H1 dd (.dK [(.inr "rows",.ref a),(.inr "stack",.ref b2),(.inr "slots",.ref c)])) dd a b2 c [] [] [] (ps.map some++ [none,none,none]):=by
  refine⟨U4 e1 aa _,A7,by rw[B7 da];exact xa,.nil,by rw[B7 db];exact xb, ?_,aa,na,nb,nc,ah,ag,af⟩;rw[B7 dc,xc,map_append,map_map];rfl
 show K0 _ _ _ [some (.ref ce),some (.ref hp),some (.int (b:Nat)),some (.ref lp),some (kv j),some (.ref dd),none,none] (upd H1 dd (.dK [(.inr "rows",.ref a),(.inr "stack",.ref b2),(.inr "slots",.ref c)]));generalize upd H1 dd (.dK [(.inr "rows",.ref a),(.inr "stack",.ref b2),(.inr "slots",.ref c)])=H2 at hA⊢;clear e1 xa xb xc xd da db dc H1 ah ag af na nb nc;have ax:BI hs ps H H2 dd 0 [] [] (ps.map some++ [none,none,none]):=by
  refine⟨⟨a,b2,c,[],hA⟩,⟨[],RB hs ps⟩,le_refl _,le_refl _,le_refl _,by simp,⟨λk hk=>(nomatch hk),λk hk=> ?_⟩⟩;rcases mem_append.mp hk with hk|hk
  ·obtain⟨k',au,e⟩:=mem_map.mp hk;cases e;exact .inl (pb k au)
  ·simp at hk
 refine⟨BPv hs ps H ce hp lp dd b j ns.length, ?_, ?_⟩
 ·refine⟨_,rfl,ce,rfl,⟨_,SqL.of (hA.sm _ _ ab)⟩,Q5 (xs:=ns.map V.int) (BPv hs ps H ce hp lp dd b j) ⟨[],[],_,none,none,rfl,ax⟩ ?_ ?_ ?_⟩
  ·rintro i σ H' hi ⟨g,st,sl,x6,x7,rfl,hB⟩;obtain⟨a',b',c',I,L⟩:=hB.sa;exact SqL.of (L.sm _ _ ab)
  ·rintro i x σ H' hx ⟨g,st,sl,x6,x7,rfl,hB⟩;have hi:i<8:=by
    have:=(List.getElem?_eq_some_iff.mp hx).1;rw[length_map]at this;omega
   obtain⟨n,rfl⟩:∃n:Int,x=.int n:=by
    rw[getElem?_map]at hx;cases e:ns[i]? with
    |none=>rw[e]at hx;cases hx
    |some n=>rw[e]at hx;cases hx;exact⟨n,rfl⟩
   have a1:=hB.len;have a3:=hB.stl;have a4:=hB.sll;have R:3<=sl.length:=by omega
   have G:sl.length<=20:=by omega
   have C:st.length<=900:=by omega
   have D:g.length<=900:=by omega
   refine⟨_,rfl,_,_,rfl,rfl,lg (by decide) (by decide), ?_⟩;refine⟨BPv hs ps H ce hp lp dd b j (i+1),⟨_,rfl,_,_,rfl,rfl,(by decide:(0:Int)<8),.inl ⟨rfl,_,rfl, ?_⟩⟩,λ_ _ h=>h⟩;by_cases c0:n%8=0
   ·exact ifT (decide_eq_true (congrArg V.int c0)) ⟨_,rfl,_,rfl,H,dd,_,g,st,sl,rfl,hB.sa,R,G,C,D,hB.gd,λd st' v H2 h1 h2=>⟨d,st',v,_,_,rfl,hB.step h1 (h2 hs)⟩⟩
   refine ifF (λz=>c0 (by have:=of_decide_eq_true z;injection this)) ⟨BPv hs ps H ce hp lp dd b j (i+1),⟨_,rfl,_,_,rfl,rfl,(by decide:(0:Int)<8),.inl ⟨rfl,_,rfl, ?_⟩⟩,λ_ _ h=>h⟩;by_cases c1:n%8=1
   ·exact ifT (decide_eq_true (congrArg V.int c1)) (ifT rfl ⟨_,rfl,_,rfl,H,dd,_,g,st,sl,rfl,hB.sa,R,G,C,D,hB.gd,λd st' v H2 h1 h2=>⟨d,st',v,_,_,rfl,hB.step h1 (h2 hs)⟩⟩)
   refine ifF (λz=>c1 (by have:=of_decide_eq_true z;injection this)) ⟨_,rfl,_,_,rfl,rfl,(by decide:(0:Int)<8),.inl ⟨rfl,_,rfl, ?_⟩⟩;by_cases c5:n%8=5
   ·exact ifT (decide_eq_true (congrArg V.int c5)) ⟨_,rfl,_,rfl,H,dd,_,g,st,sl,rfl,hB.sa,R,G,C,D,hB.gd,λd st' v H2 h1 h2=>⟨d,st',v,_,_,rfl,hB.step h1 (h2 hs)⟩⟩
   refine ifF (λz=>c5 (by have:=of_decide_eq_true z;injection this)) ⟨BPv hs ps H ce hp lp dd b j (i+1),⟨_,rfl,_,_,rfl,rfl,(by decide:(0:Int)<8),.inl ⟨rfl,_,rfl, ?_⟩⟩,λ_ _ h=>h⟩;by_cases c2:n%8=2
   ·exact ifT (decide_eq_true (congrArg V.int c2)) ⟨_,rfl,_,rfl,H,dd,_,g,st,sl,rfl,hB.sa,R,G,C,D,hB.gd,λd st' v H2 h1 h2=>⟨d,st',v,_,_,rfl,hB.step h1 (h2 hs)⟩⟩
   refine ifF (λz=>c2 (by have:=of_decide_eq_true z;injection this)) ⟨BPv hs ps H ce hp lp dd b j (i+1),⟨_,rfl,_,_,rfl,rfl,(by decide:(0:Int)<8),.inl ⟨rfl,_,rfl, ?_⟩⟩,λ_ _ h=>h⟩;by_cases c3:n%8=3
   ·exact ifT (decide_eq_true (congrArg V.int c3)) ⟨_,rfl,_,rfl,H,dd,_,g,st,sl,rfl,hB.sa,R,G,C,D,hB.gd,λd st' v H2 h1 h2=>⟨d,st',v,_,_,rfl,hB.step h1 (h2 hs)⟩⟩
   refine ifF (λz=>c3 (by have:=of_decide_eq_true z;injection this)) ⟨BPv hs ps H ce hp lp dd b j (i+1),⟨_,rfl,_,_,rfl,rfl,(by decide:(0:Int)<8),.inl ⟨rfl,_,rfl, ?_⟩⟩,λ_ _ h=>h⟩;by_cases c4:n%8=4
   ·exact ifT (decide_eq_true (congrArg V.int c4)) (ifT rfl ⟨_,rfl,_,rfl,_,rfl,H,dd,hp,_,g,st,sl,rfl,ac,U,M,O,hB.sa,G,C,D,hB.gd,λd st' v H2 h1 h2=>⟨d,st',v,_,_,rfl,hB.step h1 h2⟩⟩)
   refine ifF (λz=>c4 (by have:=of_decide_eq_true z;injection this)) ⟨_,rfl,_,_,rfl,rfl,(by decide:(0:Int)<8),.inl ⟨rfl,_,rfl, ?_⟩⟩;by_cases c7:n%8=7
   ·exact ifT (decide_eq_true (congrArg V.int c7)) ⟨_,rfl,_,rfl,_,rfl,H,dd,hp,_,g,st,sl,rfl,ac,U,M,O,hB.sa,G,C,D,hB.gd,λd st' v H2 h1 h2=>⟨d,st',v,_,_,rfl,hB.step h1 h2⟩⟩
   refine ifF (λz=>c7 (by have:=of_decide_eq_true z;injection this)) ?_;obtain⟨a',b',c',I,L⟩:=hB.sa;refine(dgr rfl L (⟨_,rfl,_,rfl,λm hm=>⟨z2,λp hp=> ?_⟩⟩));have T:=(L.same (A8 hp (.tup [.str "push",.int m]))).row (r:=.own (.push (.int m))) ⟨p,rfl,A7⟩;refine⟨a',_,.ref p,rfl,rfl,(A8 hp _) _ _ L.ha,big_ _ (by rw[<-L.hr.len];omega), ?_⟩;generalize upd (upd H' p (.tup [.str "push",.int m])) a' (.lst (I++ [.ref p]))=H6 at T⊢;refine(dgb rfl T (⟨b',_,_,rfl,rfl,T.hb,big_ _ (by rw[length_map];omega), ?_⟩));rw[v_n];have aj:=T.stk (st':=st++ [.n]);rw[map_append]at aj;refine⟨_,_,sl,_,_,rfl,hB.step ⟨a',b',c',_,aj⟩ ⟨λay ad hg=>⟨_,hg.push (MN hm)⟩, ?_, ?_, ?_,rfl,λh=>M0 h (λ_ z=>z) (.inl (.inl rfl))⟩⟩
   ·rw[length_append];simp only[length_singleton];omega
   ·rw[J3];exact le_succ _
   ·rw[length_append];exact le_refl _
  ·rintro σ H' h;rw[length_map]at h;exact h
 rintro _ H3 ⟨g,st,sl,x6,x7,rfl,hB⟩;have a1:=hB.len;have a2:=hB.wt;have a3:=hB.stl;have a4:=hB.sll;obtain⟨ad,hG⟩:=hB.ok;obtain⟨a,b2,c,rs,hA⟩:=hB.sa;have az:(ns.map V.int).length=ns.length:=length_map ..;refine⟨_,rfl,_,rfl,z1,λl Y=>⟨_,rfl,_,_,rfl,.inl ⟨_,SqL.of ((A8 Y _) _ _ (hA.sm _ _ ab)),rfl⟩,.inl ⟨_,_,rfl,rfl,.inl ⟨by decide,by decide⟩,.inl ⟨_,_,rfl,rfl,upd H l (.lst [kv j]),dd,l,[j],_,g,st,sl,rfl, ?_,A7,⟨a,b2,c,rs,hA.base Y _⟩,by omega,by simp,by omega,by omega,λd st' H5 hS hT aq hw a0 ap=> ?_⟩⟩⟩⟩
 ·intro x hx;rw[sZ hx];exact tb
 obtain⟨a',b',c',I,y⟩:=hS;replace y:=y.unbase (hA.n0 Y);simp only[length_singleton]at aq;obtain⟨ak,aw⟩:=hT hs ps ad hG;have N:=y.sm _ _ X;refine⟨_,rfl,_,_,rfl,.inl ⟨_,SqL.of N,rfl⟩,_,rfl,_,_,rfl,.inl ⟨_,SqL.of N,rfl⟩,.inl ⟨_,_,rfl,rfl,_,rfl,dd,.ref a',rfl,y.gr,z1,λp hp=>⟨z1,λlb ar=> ?_⟩⟩⟩;have s1:=A8 hp (.tup [.str "back"]);have s2:=A8 ar (.lst [.ref p]);refine .inr (.inl ⟨a',lb,_,_,rfl,rfl,s2 _ _ (s1 _ _ y.ha),A7,big_ _ (by rw[<-y.hr.len];show d.length+1<=950;omega)|>le_of_lt,λlr W=> ?_⟩);have s3:=A8 W (.lst (I++ [.ref p]));refine⟨lr,_,rfl,.inl ⟨SqL.of A7,λtr an=>⟨z3,λt2 ao=> ?_⟩⟩⟩;have s4:=A8 an (.tup (I++ [.ref p]));have s5:=A8 ao (.tup [.int ((ps.map kv).length:Nat),.int (((ps.map kv).length:Nat)+3),.ref tr]);have sA:=s1.trans (s2.trans (s3.trans (s4.trans s5)));refine q ⟨ps.length,ps.length+3,d++ [.back]⟩ (.ref t2) _ (y.sm.trans sA) ⟨t2,tr,I++ [.ref p],rfl, ?_,s5 _ _ A7, ?_,by show ps.length+3<=100;omega⟩ ⟨_,aw.block S (by omega) (by omega) ?_⟩
 ·rw[A7,ai];rfl
 ·exact(y.hr.imp λ_ _ z=>z.mo (B9 sA)).app (.cons ⟨p,rfl,(s2.trans (s3.trans (s4.trans s5))) _ _ A7⟩ .nil)
 ·show wts d<=8;rw[hw];omega
end
noncomputable abbrev s_law_heads:Stmt:=_C.top 41
noncomputable abbrev BJ:List Str:=["_law_cell","_law_many","_law_main","_law_heads_here","_law_b","_law_one","_law_params"]
theorem sc_law_heads:FnScope BJ q1L (B6 s_law_heads):=fS
noncomputable def Hd2(H:Hp)(hp:Addr)(h:List Kd×Kd)(u:V):Prop:=∃t lp,u=.ref t/\H t=some (.tup [.ref lp,kv h.2])/\H lp=some (.lst (h.1.map kv))/\lp≠hp
theorem Hd2.same(s:Same H H')(z:Hd2 H hp h u):Hd2 H' hp h u:=let⟨t,lp,e,h1,h2,h3⟩:=z;⟨t,lp,e,s _ _ h1,s _ _ h2,h3⟩
theorem Hd2.upd{H:Hp}{hp:Addr}(e:H hp=some (.lst xs))(z:Hd2 H hp h u):Hd2 (upd H hp (.lst ys)) hp h u:=by
 obtain⟨t,lp,e1,h1,h2,h3⟩:=z;exact⟨t,lp,e1,by rw[B7 λz=>by rw[z,e]at h1;cases h1];exact h1,by rw[B7 h3];exact h2,h3⟩
theorem WS{α β:Type}{R:α->β->Prop}{xs:List α}{ys:List β}(h:All2 R xs ys){x:α}{y:β}(hx:R x y):∀k:Nat,All2 R (xs.set k x) (ys.set k y):=by
 induction h with
 |nil=>exact λk=> .nil
 |cons h1 h2 ih=>
  intro k;cases k with
  |zero=>exact .cons hx h2
  |succ k=>exact .cons h1 (ih k)
theorem dvZ(m:Nat):(List.replicate m [V.str "n"]).flatten=(List.replicate m Kd.n).map kv:=by
 rw[v_n];induction m with
 |zero=>rfl
 |succ m ih=>rw[replicate_succ,replicate_succ,flatten_cons,ih];rfl
theorem bhZ{j:Nat}(h:j<6):∃c k,("nnlLtF":Str).cps.toList[j]? =some c/\V.str ⟨#[c]⟩=kv k/\Bas k:=by
 have e:("nnlLtF":Str).cps.toList=[110,110,108,76,116,70]:=by decide +kernel
 rw[e]
 match j,h with
 |0,_=>exact⟨_,.n,rfl,rfl,.inl rfl⟩
 |1,_=>exact⟨_,.n,rfl,rfl,.inl rfl⟩
 |2,_=>exact⟨_,.l,rfl,rfl,.inr (.inr (.inl rfl))⟩
 |3,_=>exact⟨_,.L,rfl,rfl,.inr (.inr (.inr (.inl rfl)))⟩
 |4,_=>exact⟨_,.t,rfl,rfl,.inr (.inl rfl)⟩
 |5,_=>exact⟨_,.F,rfl,rfl,.inr (.inr (.inr (.inr rfl)))⟩
theorem c5Z{j:Nat}(h:j<6):∃c k,("nnlLtl":Str).cps.toList[j]? =some c/\V.str ⟨#[c]⟩=kv k/\(k=.n\/k=.t\/k=.l\/k=.L):=by
 have e:("nnlLtl":Str).cps.toList=[110,110,108,76,116,108]:=by decide +kernel
 rw[e]
 match j,h with
 |0,_=>exact⟨_,.n,rfl,rfl,.inl rfl⟩
 |1,_=>exact⟨_,.n,rfl,rfl,.inl rfl⟩
 |2,_=>exact⟨_,.l,rfl,rfl,.inr (.inr (.inl rfl))⟩
 |3,_=>exact⟨_,.L,rfl,rfl,.inr (.inr (.inr rfl))⟩
 |4,_=>exact⟨_,.t,rfl,rfl,.inr (.inl rfl)⟩
 |5,_=>exact⟨_,.l,rfl,rfl,.inr (.inr (.inl rfl))⟩
section
noncomputable def aKZ(hs:Hs)(main m:Nat)(mt:Kd):Prop:=hs[main]? =some (List.replicate m .n,mt)/\m<=3/\(mt=.n\/mt=.t\/mt=.l\/mt=.L)
inductive spHeadsLW (vs:List V) (H:Hp) (Q:VK):Prop
 |mk:∀(cell:Int) (many main:Nat),(vs=[.int cell,.int (many:Nat),.int (main:Nat)])->(main<many)->(many<=4)->(∀hp hs m mt H',Same H H'->bRZ H' hp hs->UT hs->hs.length=many->aKZ hs main m mt->Q (.ref hp) H')->spHeadsLW vs H Q
noncomputable def KR:Sp:=λvs H Q _=>spHeadsLW vs H Q
theorem ok_law_heads(F:Fun Z "_law_heads" "_law_heads" s_law_heads f fd)(B:_B.NoG mg):FnOk P w Z mg base CX0 1 f fd q1L KR:=by
 refine F.om sc_law_heads λah A R s H vs Q E hr h=> ?_;obtain⟨c,d,b,rfl,af,ag,q⟩:=h;have nd:=sc_law_heads.nd;have hu:=hr.units0;refine⟨_,(A9 (sS 3 nd (E7 B4))
   (A9 (D3 (O1 PassesOwn.never rfl (J2 rfl B.range_ (A0 (pv 1) B4)) (gN 4 nd) (A9 (NA (i:=5) nd rfl (Or.inr rfl) (C1 E4 (C1 EU (C1 (K6 (Z:=Z)) (pv 0) (C1 EU B0 (pv 4))) B0) B0) rfl (.inl rfl))
   (A9 (N3 (i:=6) nd rfl rfl (cS (N:=BJ) (sc:=B6 s_law_heads) (caps:=[5]) (ns:=["_law_one"])) rfl rfl rfl (J2 rfl B.range_ (A0 (C1 E4 (pv 5) B0) B4)) (λ_ _ _ _ _=>T0) (λ_ _ _ _ _=>(DV ix_str B8 (C1 E4 (C1 D6 (C1 D6 (pv 1) B0) (ixE Z w (E7 (A0 B0 (A0 B0 (A0 B0 B4)))) (pv 0))) B0) (λ_ _=>rfl))))
   (B5 (C5 (aP Z (pv 3) (C3 (A0 (pv 6) (A0 (DV ix_str B8 (C1 E4 (C1 D6 (pv 5) B0) B0) (λ_ _=>rfl)) B4))))))))))
   (A9 (L8 (C3 (A0 (C1 EU (E7 (A0 B8 B4)) (kL Z B.len_ (ixE Z w (ixE Z w (pv 3) (pv 2)) B0))) (A0 (DV ix_str B8 (C1 E4 (pv 0) B0) (λ_ _=>rfl)) B4))) (N9 (pv 3) (pv 2) P1))
   (B5 (C2 (pv 3)))))), ?_⟩
 refine⟨zero_le _,λhp M=> ?_⟩;have s0:=A8 M (.lst []);have x0:upd H hp (.lst []) hp=some (.lst []):=A7;show K0 _ _ _ [some (.int c),some (.int (d:Nat)),some (.int (b:Nat)),some (.ref hp),none,none,none] (upd H hp (.lst []));generalize upd H hp (.lst [])=H0 at s0 x0⊢;refine⟨fun σ' H'=>∃x4 x5 x6 us hs,σ'=[some (.int c),some (.int (d:Nat)),some (.int (b:Nat)),some (.ref hp),x4,x5,x6]/\Same H H'/\H' hp=some (.lst us)/\All2 (Hd2 H' hp) hs us/\hs.length=d/\UT hs, ?_, ?_⟩
 ·refine⟨_,rfl,(d:Nat),rfl,by omega,by omega,Q9 (n:=d) (λi σ' H'=>∃x4 x5 x6 us hs,σ'=[some (.int c),some (.int (d:Nat)),some (.int (b:Nat)),some (.ref hp),x4,x5,x6]/\Same H H'/\H' hp=some (.lst us)/\All2 (Hd2 H' hp) hs us/\hs.length=i/\UT hs) ⟨none,none,none,[],[],rfl,s0,x0,.nil,rfl,λh hh=>(nomatch hh)⟩ ?_ (λ_ _ h=>h)⟩;rintro i σ H1 hi ⟨x4,x5,x6,us,hs,rfl,s1,p,hA,J,C⟩;have T:=hA.len;refine⟨_,rfl,_,rfl,.inl ⟨_,_,rfl,rfl,.inl ⟨by decide,by decide⟩,.inl ⟨_,_,rfl,rfl,.inl ⟨_,_,rfl,rfl,.inr ⟨by decide,by decide⟩,_,_,rfl,rfl,(by decide:(0:Int)<2147483647), ?_⟩⟩⟩⟩;show K0 _ _ _ [some (.int c),some (.int (d:Nat)),some (.int (b:Nat)),some (.ref hp),some (.int (0+(i:Nat))),some (.int ((c+7919*(0+(i:Nat)))*48271%2147483647)),x6] H1;generalize(c+7919*(0+(i:Nat)))*48271%2147483647=one;obtain⟨m4,(e4:one%4=(m4:Int)),G⟩:=P3 one (m:=4) (by decide);refine⟨_,rfl,_,_,rfl,rfl,(by decide:(0:Int)<4),(m4:Int),congrArg (λz=> [V.int z]) e4,by omega,by omega,M2 (n:=m4) (λj ys H2=>Same H1 H2/\∃ks:List Kd,ys=ks.map kv/\ks.length=j/\∀k∈ks,Bas k) ⟨Same.refl _,[],rfl,rfl,λk hk=>(nomatch hk)⟩ ?_ ?_ ?_⟩
  ·rintro j ys H2 hj ⟨_,ks,rfl,hk,_⟩;rw[length_map,hk];exact le_trans hj (le_trans (le_of_lt G) (by decide))
  ·rintro j ys H2 hj ⟨s2,ks,rfl,hk,hb⟩;obtain⟨dv,ae,dp⟩:∃dv:Int,[V.int 1,V.int 6,V.int 36][j]? =some (.int dv)/\0<dv/\dv<2^60:=by
    have:j=0\/j=1\/j=2:=by omega
    rcases this with rfl|rfl|rfl
    ·exact⟨1,rfl,by decide,by decide⟩
    ·exact⟨6,rfl,by decide,by decide⟩
    ·exact⟨36,rfl,by decide,by decide⟩
   obtain⟨g,(eg:(one.fdiv 4).fdiv dv%6=(g:Int)),hg⟩:=P3 ((one.fdiv 4).fdiv dv) (m:=6) (by decide);obtain⟨cc,k,t2,t3,L⟩:=bhZ hg;refine⟨_,rfl,_,_,rfl,rfl,lg (by decide) (by decide),z3,λl hl=>⟨_,rfl,.inl ⟨l,_,(j:Nat),_,rfl,(by rw[Int.zero_add]),SqL.of A7,D4 ae,_,_,rfl,rfl,lg dp.1 dp.2,_,_,rfl,rfl,(by decide:(0:Int)<6),_,(g:Int),cc,rfl,congrArg V.int eg,by decide +kernel,D4 t2,s2.trans (A8 hl _),ks++ [k], ?_, ?_, ?_⟩⟩⟩
   ·rw[t3,map_append];rfl
   ·rw[length_append,hk];rfl
   ·intro x hx;rcases mem_append.mp hx with hx|hx
    ·exact hb x hx
    ·rw[sZ hx];exact L
  rintro ys H2 ⟨s2,ks,rfl,hk,hb⟩;intro lp r;have s3:=A8 r (.lst (ks.map kv));have x3:upd H2 lp (.lst (ks.map kv)) lp=some (.lst (ks.map kv)):=A7;have S:lp≠hp:=λz=>by rw[z,s2 _ _ p]at r;cases r
  show K0 _ _ _ [some (.int c),some (.int (d:Nat)),some (.int (b:Nat)),some (.ref hp),some (.int (0+(i:Nat))),some (.int one),some (.ref lp)] (upd H2 lp (.lst (ks.map kv)));generalize upd H2 lp (.lst (ks.map kv))=H3 at s3 x3⊢;obtain⟨g,(eg:one.fdiv 997%6=(g:Int)),hg⟩:=P3 (one.fdiv 997) (m:=6) (by decide);obtain⟨cc,k,t2,t3,L⟩:=bhZ hg;have v:=s3 _ _ (s2 _ _ p);refine⟨_,rfl,.inl ⟨rfl,_,SqL.of v⟩,_,rfl,_,rfl,_,_,rfl,rfl,lg (by decide) (by decide),_,_,rfl,rfl,(by decide:(0:Int)<6),_,(g:Int),cc,rfl,congrArg V.int eg,by decide +kernel,D4 t2,z2,λt ht=> ?_⟩;have s4:=A8 ht (.tup [.ref lp,.str ⟨#[cc]⟩]);have e:=s4 _ _ v;have O:All2 (Hd2 (upd H3 t (.tup [.ref lp,.str ⟨#[cc]⟩])) hp) (hs++ [(ks,k)]) (us++ [.ref t]):=(hA.imp λ_ _ z=>z.same (s2.trans (s3.trans s4))).app (.cons ⟨t,lp,rfl,by rw[A7,t3],s4 _ _ x3,S⟩ .nil);refine⟨hp,us,.ref t,rfl,rfl,e,big_ _ (by rw[<-T];omega),_,_,_,us++ [.ref t],hs++ [(ks,k)],rfl,U4 (s1.trans (s2.trans (s3.trans s4))) M _,A7,O.imp λ_ _ z=>z.upd e,by rw[length_append,J];rfl, ?_⟩;intro h hh;rcases mem_append.mp hh with hh|hh
  ·exact C h hh
  ·rw[sZ hh];exact⟨by show ks.length<=3;omega,hb,L⟩
 rintro _ H1 ⟨x4,x5,x6,us,hs,rfl,s1,p,hA,J,C⟩;have T:=hA.len;obtain⟨⟨ps,k0⟩,W⟩:∃h,hs[b]? =some h:=⟨_,List.getElem?_eq_getElem (by omega)⟩;obtain⟨u,ab,t,lp,rfl,ht,r,S⟩:=G5 hA W;obtain⟨p3,pb,tb⟩:=C _ (mem_of_getElem? W);simp only at ht r p3;obtain⟨g,(eg:c%6=(g:Int)),hg⟩:=P3 c (m:=6) (by decide);obtain⟨cc,mt,t2,t3,X⟩:=c5Z hg;have D:(ps.map kv).length=ps.length:=length_map ..;refine⟨z1,λln ac=> ?_⟩;have s2:=A8 ac (.lst [.str "n"]);refine⟨_,rfl,_,rfl,(ixL (s2 _ _ p) (D4 ab) (ixT (s2 _ _ ht) (D4 (j:=0) rfl) ⟨_,_,rfl,.inl ⟨_,SqL.of (s2 _ _ r),rfl⟩,.inr (.inr ⟨ln,_,_,rfl,rfl,A7,by omega,by rw[D];omega, ?_,λlr I=> ?_⟩)⟩))⟩
 ·rw[D,Int.toNat_natCast];show 1*ps.length<=sizeLine;rw[Nat.one_mul];exact le_trans p3 (by decide)
 have er:(List.replicate (((ps.map kv).length:Nat):Int).toNat [V.str "n"]).flatten=(List.replicate ps.length Kd.n).map kv:=by rw[D,Int.toNat_natCast,dvZ]
 have s3:=A8 I (.lst (List.replicate (((ps.map kv).length:Nat):Int).toNat [V.str "n"]).flatten);have x3:=A7 (H:=upd H1 ln (.lst [.str "n"])) (a:=lr) (o:=.lst (List.replicate (((ps.map kv).length:Nat):Int).toNat [V.str "n"]).flatten);rw[er]at x3 s3;have Y:lr≠hp:=λz=>by rw[z,s2 _ _ p]at I;cases I
 refine⟨_,rfl,_,_,rfl,rfl,(by decide:(0:Int)<6),_,(g:Int),cc,rfl,congrArg V.int eg,by decide +kernel,D4 t2,z2,λt9 U=> ?_⟩;rw[er]at U⊢;have s4:=A8 U (.tup [.ref lr,.str ⟨#[cc]⟩]);have e:=s4 _ _ (s3 _ _ (s2 _ _ p));have O:=WS (hA.imp λ_ _ z=>z.same (s2.trans (s3.trans s4))) (x:=(List.replicate ps.length Kd.n,mt)) (y:=.ref t9) ⟨t9,lr,rfl,by rw[A7,t3],s4 _ _ x3,Y⟩ b;have ad:ixN us.length (b:Int)=some b:=by
  unfold ixN;rw[if_pos (by omega),if_pos (by omega)];simp
 refine⟨_,rfl,_,rfl,hp,us,(b:Nat),b,rfl,rfl,e,ad, ?_⟩;refine⟨_,rfl,q hp (hs.set b (List.replicate ps.length .n,mt)) ps.length mt _ (U4 (s1.trans (s2.trans (s3.trans s4))) M _) ⟨_,A7, ?_⟩ ?_ (by rw[List.length_set];exact J) ⟨?_,p3,X⟩⟩
 ·refine(O.imp λ_ _ z=>z.upd (ys:=us.set b (.ref t9)) e).imp λ_ _ z=> ?_;obtain⟨t',aa,e1,e2,e3,_⟩:=z;exact⟨t',aa,e1,e2,e3⟩
 ·intro h hh;rcases List.mem_or_eq_of_mem_set hh with hh|hh
  ·exact C h hh
  ·rw[hh];refine⟨by show(List.replicate ps.length Kd.n).length<=3;rw[length_replicate];exact p3,λk hk=> .inl (List.eq_of_mem_replicate hk), ?_⟩;show Bas mt;rcases X with h|h|h|h
   ·exact .inl h
   ·exact .inr (.inl h)
   ·exact .inr (.inr (.inl h))
   ·exact .inr (.inr (.inr (.inl h)))
 ·rw[List.getElem?_set_self (by omega)]
end
noncomputable abbrev s_law_program:Stmt:=_C.top 50
noncomputable abbrev W6:List Str:=["_law_script","_law_many","_law_main","_law_heads_here","_law_blocks","_law_b","_law_numbers"]
theorem sc_law_program:FnScope W6 QV (B6 s_law_program):=fS
section
inductive spBlockAW(vs:List V)(H:Hp)(Q:VK)(E:XK):Prop
 |mk:∀hs,(HS hs vs H Q E)->spBlockAW vs H Q E
noncomputable def LB:Sp:=λvs H Q E=>spBlockAW vs H Q E
theorem block_any(h:∀hs,FnOk P w Z mg base CX0 5 f fd q4L (HS hs)):FnOk P w Z mg base CX0 5 f fd q4L LB:=
 ⟨λvs H Q E ⟨hs,z⟩=>(h hs).len vs H Q E z,λA a s H b us vs Q E hr he hb hv ⟨hs,z⟩=>(h hs).run A a s H b us vs Q E hr he hb hv z⟩
structure PgAt (H:Hp) (bl nu:Addr) (hs:Hs) (bs:List Bk) (main m:Nat) (mt:Kd) (xs:List Int):Prop where
 bl:∃vb,H bl=some (.lst vb)/\All2 (BAt H) bs vb
 ok:BsOk hs bs
 len:bs.length=hs.length
 few:hs.length<=4
 mh:aKZ hs main m mt
 nu:H nu=some (.lst (xs.map V.int))
 xl:xs.length=m
 xb:∀i∈xs,Bd i
inductive spProgramW (Z:FZ) (vs:List V) (H:Hp) (Q:VK):Prop
 |mk:∀(a:Addr) (ns:List Int),(vs=[.ref a])->(SqL Z H a (ns.map V.int))->(ns.length<=63)->(∀t bl nu hs bs main m mt xs H',Same H H'->H' t=some (.tup [.ref bl,.int (main:Nat),.ref nu])->PgAt H' bl nu hs bs main m mt xs->Q (.ref t) H')->spProgramW Z vs H Q
noncomputable def AZ(Z:FZ):Sp:=λvs H Q _=>spProgramW Z vs H Q
theorem ok_law_program(F:Fun Z "_law_program" "_law_program" s_law_program f fd)(B:_B.NoG mg)
  (J7:Cn P w Z mg base CX0 1 "_law_cell_at" aoZ (Y8 Z))
  (K2:Cn P w Z mg base CX0 1 "_law_number" q2L spNumB)
  (JI:Cn P w Z mg base CX0 1 "_law_heads" q1L KR)
  (JD:Cn P w Z mg base CX0 5 "_law_block" q4L LB):
  FnOk P w Z mg base CX0 6 f fd QV (AZ Z):=by
 refine F.om sc_law_program λau A M s H vs Q E hr h=> ?_;obtain⟨a,ns,rfl,hS,ap,q⟩:=h;have nd:=sc_law_program.nd;have hu:=hr.units0;refine⟨_,(A9 (sS 1 nd (C1 (K6 (Z:=Z)) B0 (C1 E4 (cC J7 hr (A0 (pv 0) (A0 B0 B4))) B0)))
   (A9 (sS 2 nd (C1 E4 (C1 D6 (cC J7 hr (A0 (pv 0) (A0 B0 B4))) B0) (pv 1)))
   (A9 (sS 3 nd (cC JI hr (A0 (cC J7 hr (A0 (pv 0) (A0 B0 B4))) (A0 (pv 1) (A0 (pv 2) B4)))))
   (A9 (sS 4 nd (E7 B4))
   (A9 (D3 (O1 PassesOwn.never rfl (J2 rfl B.range_ (A0 (pv 1) B4)) (gN 5 nd) (B5 (C5 (aP Z (pv 4) (cC JD hr (A0 (G1 (W0 (Z:=Z)) (pv 0) (G2 (C1 (K6 (Z:=Z)) B0 (C1 EU B0 (pv 5)))) (G2 (C1 (K6 (Z:=Z)) B0 (C1 EU B0 (pv 5))))) (A0 (pv 3) (A0 (pv 5) B4)))))))))
   (A9 (N3 (i:=6) nd rfl rfl (cS (N:=W6) (sc:=B6 s_law_program) (caps:=[0]) (ns:=QV)) rfl rfl rfl (J2 rfl B.range_ (A0 (kL Z B.len_ (ixE Z w (ixE Z w (pv 3) (pv 2)) B0)) B4)) (λ_ _ _ _ _=>T0) (λ_ _ _ _ _=>(cC K2 hr (A0 (cC J7 hr (A0 (pv 1) (A0 (C1 (K6 (Z:=Z)) B0 (pv 0)) B4))) B4))))
   (B5 (C2 (C3 (A0 (pv 4) (A0 (pv 2) (A0 (pv 6) B4)))))))))))), ?_⟩
 have ah:∀lo hi,∃cs:List Int,G8 (ns.map V.int) lo hi=cs.map V.int:=λlo hi=>by
  refine⟨((ns.drop (HT.sIx (ns.map V.int).length 0 lo)).take (HT.sIx (ns.map V.int).length (ns.map V.int).length hi - HT.sIx (ns.map V.int).length 0 lo)), ?_⟩;unfold G8;rw[<-map_drop,<-map_take]
 obtain⟨k4,(e4:G7 ns 0%4=(k4:Int)),h4⟩:=P3 (G7 ns 0) (m:=4) (by decide);refine⟨_,rfl,a,ns,0,rfl,hS,by decide,_,_,rfl,rfl,(by decide:(0:Int)<4),.inl ⟨_,_,rfl,rfl, ?_⟩⟩;show K0 _ _ _ [some (.ref a),some (.int (1+G7 ns 0%4)),none,none,none,none,none] H;obtain⟨c,em⟩:∃k:Nat,(1:Int)+G7 ns 0%4=(k:Int):=⟨1+k4,by rw[e4];omega⟩;have ae:1<=c/\c<=4:=by rw[e4]at em;omega
 rw[em];obtain⟨d,(am:(G7 ns 0).fdiv 4%(c:Nat)=(d:Int)),ac⟩:=P3 ((G7 ns 0).fdiv 4) (m:=c) (by omega);refine⟨_,rfl,a,ns,0,rfl,hS,by decide,_,_,rfl,rfl,lg (by decide) (by decide),_,rfl,_,_,rfl,rfl,(by omega:(0:Int)<(c:Nat)), ?_⟩;show K0 _ _ _ [some (.ref a),some (.int (c:Int)),some (.int ((G7 ns 0).fdiv 4%(c:Nat))),none,none,none,none] H;rw[am];refine⟨_,rfl,a,ns,1,rfl,hS,by decide,_,rfl,_,rfl,G7 ns 1,c,d,rfl,ac,ae.2,λhp hs m mt H1 s1 T aa ag R=> ?_⟩;refine⟨zero_le _,λbl y=> ?_⟩;have s2:=A8 y (.lst []);have x2:upd H1 bl (.lst []) bl=some (.lst []):=A7;show K0 _ _ _ [some (.ref a),some (.int (c:Int)),some (.int (d:Int)),some (.ref hp),some (.ref bl),none,none] (upd H1 bl (.lst []));generalize upd H1 bl (.lst [])=H2 at s2 x2⊢;have ak:H bl=none:=by
  cases e:H bl with
  |none=>rfl
  |some o=>rw[s1 _ _ e]at y;cases y
 refine⟨fun σ' H'=>∃x5 vb bs,σ'=[some (.ref a),some (.int (c:Int)),some (.int (d:Int)),some (.ref hp),some (.ref bl),x5,none]/\Same H1 H'/\H' bl=some (.lst vb)/\All2 (BAt H') bs vb/\bs.length=c/\∀b bk,bs[b]? =some bk->∃ps k g,hs[b]? =some (ps,k)/\BkOk hs b bk ps k g, ?_, ?_⟩
 ·refine⟨_,rfl,(c:Nat),rfl,by omega,by omega,Q9 (n:=c) (λi σ' H'=>∃x5 vb bs,σ'=[some (.ref a),some (.int (c:Int)),some (.int (d:Int)),some (.ref hp),some (.ref bl),x5,none]/\Same H1 H'/\H' bl=some (.lst vb)/\All2 (BAt H') bs vb/\bs.length=i/\∀b bk,bs[b]? =some bk->∃ps k g,hs[b]? =some (ps,k)/\BkOk hs b bk ps k g) ⟨none,[],[],rfl,s2,x2,.nil,rfl,λb bk h=>by simp at h⟩ ?_ (λ_ _ h=>h)⟩;rintro i σ H3 hi ⟨x5,vb,bs,rfl,s3,r,hB,G,L⟩;obtain⟨⟨ps,k⟩,O⟩:∃h,hs[i]? =some h:=⟨_,List.getElem?_eq_getElem (by omega)⟩;obtain⟨us,D,I⟩:=id T;refine⟨_,rfl,.inl ⟨rfl,_,SqL.of r⟩,_,rfl,_,rfl,.inl ⟨_,_,rfl,rfl,.inl ⟨by decide,by decide⟩,.inl ⟨_,_,rfl,rfl,_,rfl,_,rfl,.inl ⟨_,_,rfl,rfl,.inl ⟨by decide,by decide⟩,.inl ⟨_,_,rfl,rfl,_,rfl,.inl (.inl ⟨a,_,rfl,s3.seq (s1.seq hS),λce aj=> ?_⟩)⟩⟩⟩⟩⟩;obtain⟨cs,U⟩:=ah (some (7+8*(0+(i:Int)))) (some (15+8*(0+(i:Int))));have s4:=A8 aj (.lst (G8 (ns.map V.int) (some (7+8*(0+(i:Int)))) (some (15+8*(0+(i:Int))))));have ai:cs.length<=8:=by
   have:=congrArg List.length U;rw[length_map]at this;rw[<-this];unfold G8;rw[length_take];have e1:(7:Int)+8*(0+(i:Int))=((7+8*i:Nat):Int):=by omega
   have e2:(15:Int)+8*(0+(i:Int))=((15+8*i:Nat):Int):=by omega
   rw[e1,e2,HT.sIx_nat,HT.sIx_nat];omega
  refine⟨_,rfl,_,rfl,hs,ce,hp,cs,i,ps,k,(by rw[Int.zero_add];rfl), ?_,ai, ?_,aa,by omega,O,λbk u H5 s5 W J=> ?_⟩
  ·rw[A7,U]
  ·have sS:=s3.trans s4;exact⟨us,sS _ _ D,I.imp λ_ _ z=>let⟨t,lp,e,h1,h2⟩:=z;⟨t,lp,e,sS _ _ h1,sS _ _ h2⟩⟩
  have p:=s5 _ _ (s4 _ _ r);have al:All2 (BAt H5) (bs++ [bk]) (vb++ [u]):=(hB.imp λ_ _ z=>z.mo (B9 (s4.trans s5))).app (.cons W .nil);refine⟨bl,vb,u,rfl,rfl,p,big_ _ (by rw[<-hB.len];omega),_,vb++ [u],bs++ [bk],rfl,U4 (s3.trans (s4.trans s5)) y _,A7,al.imp λ_ _ z=>z.mo (IV p),by rw[length_append,G];rfl,λb an hb=> ?_⟩;rcases lt_or_ge b bs.length with v|ar
  ·rw[getElem?_append_left v]at hb;exact L b an hb
  ·have eb:b=bs.length:=by
    have:=(List.getElem?_eq_some_iff.mp hb).1;simp at this;omega
   subst eb;rw[M7 rfl]at hb;cases hb;obtain⟨g,J⟩:=J;rw[G];exact⟨ps,k,g,O,J⟩
 rintro _ H3 ⟨x5,vb,bs,rfl,s3,r,hB,G,L⟩;obtain⟨us,D,I⟩:=id T;obtain⟨af,ad,aq⟩:=id R;obtain⟨u,X,t,lp,rfl,ht,S⟩:=G5 I af;simp only at ht S;have C:((List.replicate m Kd.n).map kv).length=m:=by rw[length_map,length_replicate]
 refine⟨_,rfl,_,rfl,(ixL (s3 _ _ D) (D4 X) (ixT (s3 _ _ ht) (D4 (j:=0) rfl) ⟨_,_,rfl,.inl ⟨_,SqL.of (s3 _ _ S),rfl⟩,(m:Nat),(by rw[C]),by omega,by omega,M2 (n:=m) (λj ys H4=>H4=H3/\∃xs:List Int,ys=xs.map V.int/\xs.length=j/\∀i∈xs,Bd i) ⟨rfl,[],rfl,rfl,λi hi=>(nomatch hi)⟩ ?_ ?_ ?_⟩))⟩
 ·rintro j ys H4 hj ⟨_,xs,rfl,hx,_⟩;rw[length_map,hx];exact le_trans hj (le_trans ad (by decide))
 ·rintro j ys H4 hj ⟨rfl,xs,rfl,hx,hb⟩;refine⟨_,rfl,_,rfl,.inl ⟨_,_,rfl,rfl,a,ns,_,rfl,s3.seq (s1.seq hS),by omega,_,rfl,λn hn=>⟨rfl,xs++ [n], ?_, ?_, ?_⟩⟩⟩
  ·rw[map_append];rfl
  ·rw[length_append,hx];rfl
  ·intro x l;rcases mem_append.mp l with l|l
   ·exact hb x l
   ·rw[sZ l];exact hn
 rintro ys H4 ⟨rfl,xs,rfl,hx,hb⟩;intro nu ab;have s5:=A8 ab (.lst (xs.map V.int));refine⟨_,rfl,_,rfl,_,rfl,z3,λt9 Y=> ?_⟩;have s6:=A8 Y (.tup [.ref bl,.int (d:Nat),.ref nu]);refine q t9 bl nu hs bs d m mt xs _ (s1.trans (s3.trans (s5.trans s6))) A7 ⟨⟨vb,s6 _ _ (s5 _ _ r),hB.imp λ_ _ z=>z.mo (B9 (s5.trans s6))⟩,λb ps k hb=> ?_,by omega,by omega,R,s6 _ _ A7,hx,hb⟩;have v:b<bs.length:=by
  have:=(List.getElem?_eq_some_iff.mp hb).1;omega
 obtain⟨ao,k',g,h1,h2⟩:=L b _ (List.getElem?_eq_getElem v);rw[hb]at h1;cases h1;exact⟨_,g,List.getElem?_eq_getElem v,h2⟩
end
end _P
namespace _k
open PySem _L _C _S _M _T
open _B hiding ifT ifF NoG top
seal PE PT PW PA PS PSs PTs PI _P PGs PO
noncomputable def DqS(H:Hp):Nat->V->V->Prop
 |0,x,y=>V8 x=true/\x=y
 |n+1,x,y=>(V8 x=true/\x=y)\/∃a b xs ys,x=.ref a/\y=.ref b/\((H a=some (.tup xs)/\H b=some (.tup ys))\/(H a=some (.lst xs)/\H b=some (.lst ys)))/\xs.length<=1000/\All2 (DqS H n) xs ys
theorem DqS.mono(m:Same H H'):∀(n:Nat) {x y:V},DqS H n x y->DqS H' n x y
 |0,_,_,h=>h
 |n+1,_,_,h=>by
  rcases h with h|⟨a,b,xs,ys,e1,e2,h,hl,hA⟩
  ·exact .inl h
  ·refine .inr ⟨a,b,xs,ys,e1,e2, ?_,hl,hA.imp λ_ _ z=>DqS.mono m n z⟩;rcases h with⟨h1,h2⟩|⟨h1,h2⟩
   ·exact .inl ⟨m _ _ h1,m _ _ h2⟩
   ·exact .inr ⟨m _ _ h1,m _ _ h2⟩
section
inductive spSameDW(n:Nat)(vs:List V)(H:Hp)(Q:VK):Prop
 |mk:∀x y,(vs=[x,y])->(DqS H n x y)->(∀H',Same H H'->Q (.bl true) H')->spSameDW n vs H Q
noncomputable def spSameD(n:Nat):Sp:=λvs H Q _=>spSameDW n vs H Q
theorem BW(F:Fun Z "_law_same" "_law_same" s_law_same f fd)(B:NoG mg)(F6:FnOk P w Z mg base CX0 n f fd q5L sp)(hsp:∀m,n=m+1->sp=spSameD m)
  (O9:Binds Z fd q5L [])(O7:kZ Z (.ref f)=true)(O8:mg "_law_same"=some (.ref f)):FnOk P w Z mg base CX0 (n+1) f fd q5L (spSameD n):=by
 refine F.om sc_law_same λJ A l s H vs Q E hr h=> ?_;obtain⟨x,y,rfl,hd,q⟩:=h;have nd:=sc_law_same.nd;have hu:=hr.units0;have zz:(1000:Nat)<=sizeLine:=by decide
 refine⟨_,(A9 (D3 (D2 (PW.pt (P0 (C0 (kNe (Z:=Z) hu) (E3 (M4 (Z:=Z)) rfl B.isinstance_ C8 (A0 (pv 1) (A0 (F8 (v:=.ty "list") rfl B.list_ J8 rfl) B4))) (E3 (M4 (Z:=Z)) rfl B.isinstance_ C8 (A0 (pv 0) (A0 (F8 (v:=.ty "list") rfl B.list_ J8 rfl) B4))) rfl) (O0 (C0 (kNe (Z:=Z) hu) (E3 (M4 (Z:=Z)) rfl B.isinstance_ C8 (A0 (pv 1) (A0 (F8 (v:=.ty "tuple") rfl B.tuple_ J6 rfl) B4))) (E3 (M4 (Z:=Z)) rfl B.isinstance_ C8 (A0 (pv 0) (A0 (F8 (v:=.ty "tuple") rfl B.tuple_ J6 rfl) B4))) rfl)))) (B5 (C2 O3)) C4))
   (A9 (D2 (E9 (Z:=Z) (E3 (coZ (Z:=Z)) rfl B.isinstance_ C8 (A0 (pv 1) (A0 (C3 (A0 (F8 (v:=.ty "list") rfl B.list_ J8 rfl) (A0 (F8 (v:=.ty "tuple") rfl B.tuple_ J6 rfl) B4))) B4))) (λ_=>rfl)) (B5 (C2 (T4 (L6 (kEq (Z:=Z) hu) (kL Z B.len_ (pv 0)) (kL Z B.len_ (pv 1)) rfl) (Y3 (E3 (dlZ (Z:=Z) rfl) rfl B.all_ bPZ (A0 (CT (cS (N:=DF) (sc:=B6 s_law_same) (caps:=[0,1]) (ns:=q5L)) rfl rfl rfl (J2 rfl B.range_ (A0 (kL Z B.len_ (pv 1)) B4)) (λ_ _ _ _ _=>T0) (λ_ _ _ _ _=>(AB F6 (hr.mono (by omega)) rfl O8 O7 O9 .nil Q4 (A0 (ixE Z w (pv 1) (pv 0)) (A0 (ixE Z w (pv 2) (pv 0)) B4))))) B4)))))) C4)
   (A9 (D3 (D2 (PW.pt (P0 (C0 (kNe (Z:=Z) hu) (E3 (M4 (Z:=Z)) rfl B.isinstance_ C8 (A0 (pv 1) (A0 (F8 (v:=.ty "bool") rfl B.bool_ IN rfl) B4))) (E3 (M4 (Z:=Z)) rfl B.isinstance_ C8 (A0 (pv 0) (A0 (F8 (v:=.ty "bool") rfl B.bool_ IN rfl) B4))) rfl) (O0 (C0 (kNe (Z:=Z) hu) (E3 (M4 (Z:=Z)) rfl B.isinstance_ C8 (A0 (pv 1) (A0 (F8 (v:=.ty "str") rfl B.str_ UP rfl) B4))) (E3 (M4 (Z:=Z)) rfl B.isinstance_ C8 (A0 (pv 0) (A0 (F8 (v:=.ty "str") rfl B.str_ UP rfl) B4))) rfl)))) (B5 (C2 O3)) C4))
   (B5 (C2 (T4 (L6 (kEq (Z:=Z) hu) (E3 (M4 (Z:=Z)) rfl B.isinstance_ C8 (A0 (pv 1) (A0 (F8 (v:=.ty "int") rfl B.int_ MQ rfl) B4))) (E3 (M4 (Z:=Z)) rfl B.isinstance_ C8 (A0 (pv 0) (A0 (F8 (v:=.ty "int") rfl B.int_ MQ rfl) B4))) rfl) (Y3 (L6 (kEq (Z:=Z) hu) (pv 0) (pv 1) rfl)))))))), ?_⟩
 have o:(V8 x=true/\x=y)\/∃a b xs ys m t,x=.ref a/\y=.ref b/\n=m+1/\xs.length<=1000/\All2 (DqS H m) xs ys/\TyOf Z H x t/\TyOf Z H y t/\(∃c,kitOne Z t (.type "list")=some c)/\(∃c,kitOne Z t (.type "tuple")=some c)/\
   kitAny Z t [.type "list",.type "tuple"]=some true/\((H a=some (.tup xs)/\H b=some (.tup ys))\/(H a=some (.lst xs)/\H b=some (.lst ys))):=by
  cases n with
  |zero=>exact .inl hd
  |succ m=>
   rcases hd with hd|⟨a,b,xs,ys,rfl,rfl,⟨ha,hb⟩|⟨ha,hb⟩,hl,hA⟩
   ·exact .inl hd
   ·exact .inr ⟨a,b,xs,ys,m,_,rfl,rfl,rfl,hl,hA,.tup ha,.tup hb,⟨_,bXZ⟩,⟨_,U9⟩,dJZ,.inl ⟨ha,hb⟩⟩
   ·exact .inr ⟨a,b,xs,ys,m,_,rfl,rfl,rfl,hl,hA,.lst ha,.lst hb,⟨_,NJ⟩,⟨_,cpZ⟩,daZ,.inr ⟨ha,hb⟩⟩
 refine⟨fun σ H'=>σ=[some x,some y]/\H=H', ?_, ?_⟩
 ·have ht:∃t c d,TyOf Z H x t/\TyOf Z H y t/\kitOne Z t (.type "list")=some c/\kitOne Z t (.type "tuple")=some d:=by
   rcases o with⟨hs,rfl⟩|⟨a,b,xs,ys,m,t,_,_,_,_,_,h1,h2,⟨c,hc⟩,⟨d,hd⟩,_⟩
   ·obtain⟨t,h1,h2⟩:=KG (Z:=Z) (H:=H) hs;exact⟨t,_,_,h1,h1,h2.li,h2.tu⟩
   ·exact⟨t,c,d,h1,h2,hc,hd⟩
  obtain⟨t,c,d,h1,h2,hc,hd⟩:=ht;refine⟨_,rfl,_,_,_,_,rfl,h2,hc,_,rfl,_,_,_,_,rfl,h1,hc,.inl ⟨rfl,_,rfl,ifF (by simp) ?_⟩⟩;exact⟨_,rfl,_,_,_,_,rfl,h2,hd,_,rfl,_,_,_,_,rfl,h1,hd,.inl ⟨rfl,_,rfl,ifF (by simp) ⟨rfl,rfl⟩⟩⟩
 rintro σ H' ⟨rfl,rfl⟩;refine⟨_,rfl,L5,λp hp=> ?_⟩;have s1:=A8 hp (.tup [.ty "list",.ty "tuple"]);rcases o with⟨hs,rfl⟩|⟨a,b,xs,ys,m,t,rfl,rfl,rfl,hl,hA,h1,h2,_,_,hk,k⟩
 ·obtain⟨t,h1,hS⟩:=KG (Z:=Z) (H:=upd H p (.tup [.ty "list",.ty "tuple"])) hs;obtain⟨cb,z⟩:=hS.bl;obtain⟨cs,r⟩:=hS.st;obtain⟨ci,u⟩:=hS.nt;refine⟨x,_,_,t,false,p,rfl,SqT.of A7,h1,hS.bo,_,rfl,ifF nZ ?_⟩;refine⟨fun σ H'=>σ=[some x,some x]/\upd H p (.tup [.ty "list",.ty "tuple"])=H', ?_, ?_⟩
  ·refine⟨_,rfl,_,_,_,_,rfl,h1,z,_,rfl,_,_,_,_,rfl,h1,z,.inl ⟨rfl,_,rfl,ifF (by simp) ?_⟩⟩;exact⟨_,rfl,_,_,_,_,rfl,h1,r,_,rfl,_,_,_,_,rfl,h1,r,.inl ⟨rfl,_,rfl,ifF (by simp) ⟨rfl,rfl⟩⟩⟩
  rintro σ H' ⟨rfl,rfl⟩;refine⟨_,rfl,_,_,_,_,rfl,h1,u,_,rfl,_,_,_,_,rfl,h1,u,.inl ⟨rfl,_,rfl,ifT (by simp) ⟨_,rfl,_,rfl,.inl ⟨YF hs, ?_⟩⟩⟩⟩;have e:decide (x=x)=true:=by simp
  rw[e];exact q _ s1
 ·have I:FnOk P w Z mg base CX0 (m+1) f fd q5L (spSameD m):=hsp m rfl▸F6;have g:=hA.len;refine⟨.ref b,_,_,t,true,p,rfl,SqT.of A7,ZY s1 h2,hk,_,rfl,ifT rfl ?_⟩;have la:bKZ Z (.ref a) (upd H p (.tup [.ty "list",.ty "tuple"])) xs.length:=by
   rcases k with⟨ha,hb⟩|⟨ha,hb⟩
   ·exact .inr ⟨_,SqT.of (s1 _ _ ha),rfl⟩
   ·exact .inl ⟨_,SqL.of (s1 _ _ ha),rfl⟩
  have lb:bKZ Z (.ref b) (upd H p (.tup [.ty "list",.ty "tuple"])) ys.length:=by
   rcases k with⟨ha,hb⟩|⟨ha,hb⟩
   ·exact .inr ⟨_,SqT.of (s1 _ _ hb),rfl⟩
   ·exact .inl ⟨_,SqL.of (s1 _ _ hb),rfl⟩
  refine⟨_,rfl,_,_,rfl,la,_,rfl,_,_,rfl,lb,.inl ⟨rfl,_,rfl,ifT (by rw[g];simp) ?_⟩⟩;refine⟨_,rfl,_,_,rfl,lb,_,rfl,by omega,by omega,M2 (n:=ys.length) (λj zs H'=>zs=List.replicate j (.bl true)/\Same (upd H p (.tup [.ty "list",.ty "tuple"])) H') ⟨rfl,Same.refl _⟩ ?_ ?_ ?_⟩
  ·rintro i zs H' hi ⟨rfl,_⟩;rw[length_replicate];omega
  ·rintro i zs H' hi ⟨rfl,sm⟩;refine AT ?_;have hx:i<xs.length:=by omega
   obtain⟨y,hy,G⟩:=hA.get' (List.getElem?_eq_getElem hx);have e0:(0:Int)+(i:Nat)=((i:Nat):Int):=by omega
   have a1:atI xs (0+(i:Nat))=some xs[i]:=by rw[e0];exact D4 (List.getElem?_eq_getElem hx)
   have a2:atI ys (0+(i:Nat))=some y:=by rw[e0];exact D4 hy
   have C:spSameD m [xs[i],y] H' (λy H3=>List.replicate i (V.bl true)++ [y]=List.replicate (i+1) (.bl true)/\Same (upd H p (.tup [.ty "list",.ty "tuple"])) H3) E:=
    ⟨_,_,rfl,DqS.mono (s1.trans sm) _ G,λH3 s3=>⟨by rw[List.replicate_succ'],sm.trans s3⟩⟩
   rcases k with⟨ha,hb⟩|⟨ha,hb⟩
   ·exact⟨_,rfl,_,rfl,.inr (.inl ⟨a,xs,_,_,rfl,rfl,SqT.of (sm _ _ (s1 _ _ ha)),a1,_,rfl,_,rfl,.inr (.inl ⟨b,ys,_,_,rfl,rfl,SqT.of (sm _ _ (s1 _ _ hb)),a2,hsp m rfl▸C⟩)⟩)⟩
   ·exact⟨_,rfl,_,rfl,.inl ⟨a,xs,_,_,rfl,rfl,SqL.of (sm _ _ (s1 _ _ ha)),a1,_,rfl,_,rfl,.inl ⟨b,ys,_,_,rfl,rfl,SqL.of (sm _ _ (s1 _ _ hb)),a2,hsp m rfl▸C⟩⟩⟩
  ·rintro zs H' ⟨rfl,sm⟩ D hD;refine⟨D,List.replicate ys.length true,rfl,SqL.of ?_, ?_⟩
   ·rw[A7,List.map_replicate]
   ·have e:(List.replicate ys.length true).all id=true:=by simp
    rw[e];exact q _ (s1.trans (sm.trans (A8 hD _)))
theorem ok_law_sameD(F:Fun Z "_law_same" "_law_same" s_law_same f fd)(B:NoG mg)
  (O9:Binds Z fd q5L [])(O7:kZ Z (.ref f)=true)(O8:mg "_law_same"=some (.ref f)):∀n,FnOk P w Z mg base CX0 (n+1) f fd q5L (spSameD n)
 |0=>BW (sp:=UU) F B aqZ (λm h=>nomatch h) O9 O7 O8
 |n+1=>BW F B (ok_law_sameD F B O9 O7 O8 n) (λm h=>by injection h with h;rw[h]) O9 O7 O8
end
end _k
namespace _P
open PySem _L _C _S _M _T
open _k (DqS)
open _B hiding ifT ifF NoG top
section
theorem tb_same(hT:Tb H Pt)(s:Same H H'):Tb H' Pt:=by
 obtain⟨qs,e1,e2,e3⟩:=hT;refine⟨qs,s _ _ e1,e2, ?_⟩;rcases e3 with e3|⟨c2,e3,e4⟩
 ·exact .inl e3
 ·exact .inr ⟨c2,e3,s _ _ e4⟩
theorem tb_tup(hT:Tb H Pt){b:Addr}(h:H b=some (.tup xs)):b≠Pt:=λz=>by
 obtain⟨qs,e1,_⟩:=hT;rw[z,e1]at h;cases h
theorem tb_lst(hT:Tb H Pt){b:Addr}(h:H b=some (.lst xs)):b≠Pt:=λz=>by
 obtain⟨qs,e1,_⟩:=hT;rw[z,e1]at h;cases h
theorem dq_tup{H:Hp}{a b:Addr}(ha:H a=some (.tup xs))(hb:H b=some (.tup ys))(hl:xs.length<=1000)(h:All2 (DqS H n) xs ys):DqS H (n+1) (.ref a) (.ref b):=.inr ⟨a,b,xs,ys,rfl,rfl,.inl ⟨ha,hb⟩,hl,h⟩
theorem bLZ{H:Hp}{a b:Addr}(ha:H a=some (.lst xs))(hb:H b=some (.lst ys))(hl:xs.length<=1000)(h:All2 (DqS H n) xs ys):DqS H (n+1) (.ref a) (.ref b):=.inr ⟨a,b,xs,ys,rfl,rfl,.inr ⟨ha,hb⟩,hl,h⟩
theorem dq_sc(h:V8 x=true):∀n,DqS H n x x
 |0=>⟨h,rfl⟩
 |_+1=> .inl ⟨h,rfl⟩
theorem vra_uniq:∀ {p t:_Q.Pv} {x:Vl},VRa cs p x->VRa cs t x->p=t
 | .int i,t,x,h,h'=>by
  have e:x=.sc (.int i):=h;subst e;cases t with
  |int j=>have e:Vl.sc (.int i)=.sc (.int j):=h';injection e with e;injection e with e;rw[e]
  |bl b=>have e:Vl.sc (.int i)=.sc (.bl b):=h';injection e with e;cases e
  |nil=>have e:Vl.sc (.int i)=.sc .non:=h';injection e with e;cases e
  |cons a b=>obtain⟨k,_,_,e,_⟩:=h';cases e
 | .bl i,t,x,h,h'=>by
  have e:x=.sc (.bl i):=h;subst e;cases t with
  |int j=>have e:Vl.sc (.bl i)=.sc (.int j):=h';injection e with e;cases e
  |bl b=>have e:Vl.sc (.bl i)=.sc (.bl b):=h';injection e with e;injection e with e;rw[e]
  |nil=>have e:Vl.sc (.bl i)=.sc .non:=h';injection e with e;cases e
  |cons a b=>obtain⟨k,_,_,e,_⟩:=h';cases e
 | .nil,t,x,h,h'=>by
  have e:x=.sc .non:=h;subst e;cases t with
  |int j=>have e:Vl.sc .non=.sc (.int j):=h';injection e with e;cases e
  |bl b=>have e:Vl.sc .non=.sc (.bl b):=h';injection e with e;cases e
  |nil=>rfl
  |cons a b=>obtain⟨k,_,_,e,_⟩:=h';cases e
 | .cons a b,t,x,h,h'=>by
  obtain⟨k,x1,y1,e,hk,h1,h2⟩:=h;subst e;cases t with
  |int j=>have e:Vl.cell k=.sc (.int j):=h';cases e
  |bl b=>have e:Vl.cell k=.sc (.bl b):=h';cases e
  |nil=>have e:Vl.cell k=.sc .non:=h';cases e
  |cons c d=>
   obtain⟨k',x2,y2,e,f,l,g⟩:=h';injection e with e
   subst e;rw[hk]at f;injection f with z
   injection z with z1 z2
   subst z1 z2;rw[vra_uniq h1 l,vra_uniq h2 g]
end
theorem step_end(h:GH bs most T T')(ho:T'.out≠none):T'.frs=[]:=by
 obtain⟨fs,f,r,c,n,w,rfl,_,ha⟩:=h;cases ha<;>first|rfl|exact absurd rfl ho
noncomputable def Lp(N:Nat)(G:_Q.Pv->Prop)(p:_Q.Pv):Prop:=(p=.nil\/∃h t,p=.cons h t)/\(_Q.heads p).length<=N/\∀h∈_Q.heads p,G h
noncomputable def Ip(p:_Q.Pv):Prop:=(∃i,p=.int i)\/∃b,p=.bl b
noncomputable def KP(N:Nat):Kd->_Q.Pv->Prop
 | .n,p=>Ip p
 | .t,p=>Ip p
 | .l,p=>Lp N Ip p
 | .L,p=>Lp N (Lp N Ip) p
 |_,_=>False
theorem ZL(h:Ty hs N s v):(s=.inl .n\/s=.inl .t->∃p,v=Q0 p/\Ip p/\_Q.size p<=1)/\(s=.inl .l->∃p,v=Q0 p/\Lp N Ip p/\(_Q.heads p).length=len v/\_Q.size p<=len v+1)/\(s=.inl .L->∃p,v=Q0 p/\Lp N (Lp N Ip) p/\(_Q.heads p).length=len v/\_Q.size p<=len v*(N+1)+1):=by
 induction h with
 | @n i hb=>exact⟨λ_=>⟨.int i,rfl,.inl ⟨i,rfl⟩,le_refl _⟩,(λz=>nomatch z),(λz=>nomatch z)⟩
 | @t b=>exact⟨λ_=>⟨.bl b,rfl,.inr ⟨b,rfl⟩,le_refl _⟩,(λz=>nomatch z),(λz=>nomatch z)⟩
 |nil hp=>cases hp<;>exact⟨(λz=>by rcases z with z|z<;>cases z),λ_=>⟨.nil,rfl,⟨.inl rfl,zero_le _,λh hh=>(nomatch hh)⟩,rfl,by show 1<=_;omega⟩,λ_=>⟨.nil,rfl,⟨.inl rfl,zero_le _,λh hh=>(nomatch hh)⟩,rfl,by show 1<=_;omega⟩⟩
 | @pair p k h r hp h1 h2 hl ih1 ih2=>
  cases hp with
  |l=>
   obtain⟨a,ea,ia,sa⟩:=ih1.1 (.inl rfl);obtain⟨b,eb,ib,lb,sb⟩:=ih2.2.1 rfl;refine⟨(λz=>by rcases z with z|z<;>cases z),λ_=>⟨.cons a b,by rw[ea,eb];rfl,⟨.inr ⟨a,b,rfl⟩, ?_,λx hx=> ?_⟩, ?_, ?_⟩,(λz=>nomatch z)⟩
   ·show(_Q.heads b).length+1<=N;omega
   ·rcases cZ hx with hx|hx
    ·rw[hx];exact ia
    ·exact ib.2.2 x hx
   ·show(_Q.heads b).length+1=len r+1;rw[lb]
   ·show _Q.size a+_Q.size b<=len r+1+1;omega
  |L=>
   obtain⟨a,ea,ia,la,sa⟩:=ih1.2.1 rfl;obtain⟨b,eb,ib,lb,sb⟩:=ih2.2.2 rfl;refine⟨(λz=>by rcases z with z|z<;>cases z),(λz=>nomatch z),λ_=>⟨.cons a b,by rw[ea,eb];rfl,⟨.inr ⟨a,b,rfl⟩, ?_,λx hx=> ?_⟩, ?_, ?_⟩⟩
   ·show(_Q.heads b).length+1<=N;omega
   ·rcases cZ hx with hx|hx
    ·rw[hx];exact ia
    ·exact ib.2.2 x hx
   ·show(_Q.heads b).length+1=len r+1;rw[lb]
   ·have c:=len_le h1;show _Q.size a+_Q.size b<=(len r+1)*(N+1)+1;rw[add_mul,Nat.one_mul];omega
  |F=>exact⟨(λz=>by rcases z with z|z<;>cases z),(λz=>nomatch z),(λz=>nomatch z)⟩
 |fn hb _ _=>exact⟨(λz=>by rcases z with z|z<;>cases z),(λz=>nomatch z),(λz=>nomatch z)⟩
 |none=>exact⟨(λz=>by rcases z with z|z<;>cases z),(λz=>nomatch z),(λz=>nomatch z)⟩
 |some _ _ _ _=>exact⟨(λz=>by rcases z with z|z<;>cases z),(λz=>nomatch z),(λz=>nomatch z)⟩
theorem kp_of(h:T1 hs N k v)(hk:k=.n\/k=.t\/k=.l\/k=.L)(hN:N<=200):∃p,v=Q0 p/\KP N k p/\_Q.size p<=400000:=by
 have hl:=len_le h;obtain⟨h1,h2,h3⟩:=ZL h;rcases hk with rfl|rfl|rfl|rfl
 ·obtain⟨p,e,i,s⟩:=h1 (.inl rfl);exact⟨p,e,i,by omega⟩
 ·obtain⟨p,e,i,s⟩:=h1 (.inr rfl);exact⟨p,e,i,by omega⟩
 ·obtain⟨p,e,i,_,s⟩:=h2 rfl;exact⟨p,e,i,by omega⟩
 ·obtain⟨p,e,i,_,s⟩:=h3 rfl;have:len v*(N+1)<=200*201:=Nat.mul_le_mul (by omega) (by omega);exact⟨p,e,i,by omega⟩
theorem PV{r r':V}(h:Ip p)(h1:(_Q.R ok H p).1 r)(h2:(_Q.R ok' H p).1 r'):∀n,DqS H n r r':=by
 rcases h with⟨i,rfl⟩|⟨b,rfl⟩
 ·have e1:r=.int i:=h1;have e2:r'=.int i:=h2;subst e1 e2;exact dq_sc rfl
 ·have e1:r=.bl b:=h1;have e2:r'=.bl b:=h2;subst e1 e2;exact dq_sc rfl
theorem QD{r:V}(h:Lp N G p)(h1:(_Q.R ok H p).1 r):∃a rs,r=.ref a/\H a=some (.lst rs)/\All2 (λt r=>(_Q.R ok H t).1 r) (_Q.heads p) rs:=by
 rcases h.1 with rfl|⟨x,t,rfl⟩
 ·obtain⟨a,e,ha,_⟩:=h1;exact⟨a,[],e,ha,.nil⟩
 ·obtain⟨a,r1,rs,e,ha,_,h2,h3⟩:=h1;exact⟨a,r1::rs,e,ha,.cons h2 (_Q.R.items h3)⟩
theorem PP{G:_Q.Pv->Prop}(hG:∀p,G p->∀r r',(_Q.R ok H p).1 r->(_Q.R ok' H p).1 r'->DqS H n r r'):∀ {ps:List _Q.Pv} {rs rs':List V},(∀p∈ps,G p)->All2 (λt r=>(_Q.R ok H t).1 r) ps rs->All2 (λt r=>(_Q.R ok' H t).1 r) ps rs'->All2 (DqS H n) rs rs'
 | [],_,_,_,h1,h2=>by cases h1;cases h2;exact .nil
 |p::ps,_,_,hp,h1,h2=>by
  cases h1 with
  |cons a1 a2=>
   cases h2 with
   |cons b1 b2=>exact .cons (hG p (hp p (mem_cons_self ..)) _ _ a1 b1) (PP hG (λq hq=>hp q (mem_cons_of_mem _ hq)) a2 b2)
theorem VP{N:Nat}{G:_Q.Pv->Prop}(hN:N<=1000)(hG:∀p,G p->∀r r',(_Q.R ok H p).1 r->(_Q.R ok' H p).1 r'->DqS H n r r'){p:_Q.Pv}{r r':V}(h:Lp N G p)(h1:(_Q.R ok H p).1 r)(h2:(_Q.R ok' H p).1 r'):DqS H (n+1) r r':=by
 obtain⟨a,rs,rfl,ha,hA⟩:=QD h h1;obtain⟨b,c,rfl,hb,hB⟩:=QD h h2;exact bLZ ha hb (by rw[<-hA.len];have:=h.2.1;omega) (PP hG h.2.2 hA hB)
theorem dq_kp{N:Nat}(hN:N<=1000){r r':V}(h:KP N k p)(h1:(_Q.R ok H p).1 r)(h2:(_Q.R ok' H p).1 r'):DqS H 2 r r':=by
 cases k with
 |n=>exact PV h h1 h2 2
 |t=>exact PV h h1 h2 2
 |l=>exact VP hN (λp hp r r' a b=>PV hp a b 1) h h1 h2
 |L=>exact VP hN (λp hp r r' a b=>VP hN (λq hq s s' c d=>PV hq c d 0) hp a b) h h1 h2
 |F=>exact h.elim
 |fn k=>exact h.elim
end _P
namespace _R
open PySem _L _C _S _M _T
open _k (DqS)
open _B hiding ifT ifF NoG top
theorem EA:∀xs:List Int,All2 (VAt H) (xs.map λi=>Vl.sc (.int i)) (xs.map V.int)
 | []=> .nil
 |_::xs=> .cons ⟨rfl,rfl⟩ (EA xs)
theorem OJ:∀xs:List Int,All2 (V1 cs) (xs.map λi=>Tv.sc (.int i)) (xs.map λi=>Vl.sc (.int i))
 | []=> .nil
 |_::xs=> .cons rfl (OJ xs)
theorem dqs_up:∀ {n:Nat} {x y:V},DqS H n x y->DqS H (n+1) x y
 |0,_,_,h=> .inl h
 |n+1,_,_,h=>by
  rcases h with h|⟨a,b,xs,ys,e1,e2,h,hl,hA⟩
  ·exact .inl h
  ·exact .inr ⟨a,b,xs,ys,e1,e2,h,hl,hA.imp λ_ _ z=>dqs_up z⟩
noncomputable def AnsV(H0 H:Hp)(S:Ms)(u:V):Prop:=match S.out with
 |none=>u=.non
 |some (.value x)=>∃t p r,VRa S.cs t x/\u=.ref p/\H p=some (.tup [.str "value",r])/\(_Q.R (λa=>H0 a=none) H t).1 r
 |some o=>OAt H (some o) u
noncomputable def a7Z(S:Ms):Prop:=∀x,S.out=some (.value x)->∃t,VRa S.cs t x/\_Q.size t<=400000/\∃k,_P.KP 200 k t
end _R
namespace _S
open PySem _L _B _C
noncomputable def mp(g:Nat->Nat):Vl->Vl
 | .sc v=> .sc v
 | .cell k=> .cell (g k)
noncomputable def mpc(g:Nat->Nat):Cl->Cl
 | .pair a b=> .pair (mp g a) (mp g b)
 | .fn n vs=> .fn n (vs.map (mp g))
theorem V4(g:Nat->Nat)(c:Cl):vin (mpc g c)=(vin c).map (mp g):=by cases c<;>rfl
theorem KL(ks:List Nat):mv ks=mp (λk=>ks.idxOf k):=by funext x;cases x<;>rfl
theorem YJ(ks:List Nat)(c:Cl):mvc ks c=mpc (λk=>ks.idxOf k) c:=by
 cases c with
 |pair a b=>show Cl.pair _ _=Cl.pair _ _;rw[KL]
 |fn n vs=>show Cl.fn n _=Cl.fn n _;rw[KL]
theorem GE(g h:Nat->Nat)(x:Vl):mp h (mp g x)=mp (λk=>h (g k)) x:=by cases x<;>rfl
theorem YN(g h:Nat->Nat)(c:Cl):mpc h (mpc g c)=mpc (λk=>h (g k)) c:=by
 cases c with
 |pair a b=>show Cl.pair _ _=Cl.pair _ _;rw[GE,GE]
 |fn n vs=>show Cl.fn n _=Cl.fn n _;rw[map_map];congr 1;exact map_congr_left λx _=>GE g h x
theorem DR{vs:List Vl}(h:Vl.cell j∈vs.map (mp g)):∃k,Vl.cell k∈vs/\g k=j:=by
 obtain⟨x,hx,e⟩:=mem_map.mp h;cases x with
 |sc v=>cases e
 |cell k=>exact⟨k,hx,by injection e⟩
structure Alk (cs cs':List Cl) (ws:List Vl) (g:Nat->Nat):Prop where
 inj:∀j k,Rc cs ws j->Rc cs ws k->g j=g k->j=k
 at_:∀k c,Rc cs ws k->cs[k]? =some c->cs'[g k]? =some (mpc g c)
theorem Alk.lt(h:Alk cs cs' ws g)(r:Rc cs ws k)(hk:k<cs.length):g k<cs'.length:=
 (List.getElem?_eq_some_iff.mp (h.at_ k _ r (List.getElem?_eq_getElem hk))).1
theorem OB{F G:List Nat}(h1:F.Nodup)(h2:G.Nodup)(h:∀k,k∈F↔k∈G):F.length=G.length:=
 ((List.perm_ext_iff_of_nodup h1 h2).mpr h).length_eq
theorem HV{ks:List Nat}{k:Nat}(h:k∈ks):ks[ks.idxOf k]? =some k:=by
 have a:ks.idxOf k<ks.length:=idxOf_lt_length_of_mem h;rw[List.getElem?_eq_getElem a,List.getElem_idxOf a]
theorem YT{ks:List Nat}{j k:Nat}(hj:j∈ks)(hk:k∈ks)(e:ks.idxOf j=ks.idxOf k):j=k:=by
 have h1:=HV hj;rw[e,HV hk]at h1;exact(Option.some.inj h1).symm
noncomputable def fr(cs:List Cl)(ks:List Nat):List Cl:=ks.map λk=>mvc ks (L3 cs k)
theorem MI(cs:List Cl)(ks:List Nat):(fr cs ks).length=ks.length:=length_map ..
theorem aSZ{cs:List Cl}{ks:List Nat}{k:Nat}{c:Cl}(hk:k∈ks)(hc:cs[k]? =some c):(fr cs ks)[ks.idxOf k]? =some (mpc (λk=>ks.idxOf k) c):=by
 unfold fr;rw[getElem?_map,HV hk];show some (mvc ks (L3 cs k))=_;rw[V6 hc,YJ]
section
theorem TJ{cs e:List Cl}{ks:List Nat}{k:Nat}{c:Cl}(hk:k∈ks)(hc:cs[k]? =some c):(fr cs ks++e)[ks.idxOf k]? =some (mpc (λk=>ks.idxOf k) c):=by
 rw[getElem?_append_left (by rw[MI];exact idxOf_lt_length_of_mem hk)];exact aSZ hk hc
theorem aRZ{e:List Cl}(hO:Okc cs)(hV:Okv cs.length ws)(h:Kept cs ws ks)(r:Rc cs ws k):Rc (fr cs ks++e) (ws.map (mv ks)) (ks.idxOf k):=by
 induction r with
 |root hk=>exact .root (mem_map.mpr ⟨_,hk,rfl⟩)
 | @step k j c hr hc hj ih=>
  refine .step ih (TJ ((h.is k).mpr hr) hc) ?_;rw[V4];exact mem_map.mpr ⟨_,hj,rfl⟩
theorem YH{e:List Cl}(hO:Okc cs)(hV:Okv cs.length ws)(h:Kept cs ws ks)(r:Rc (fr cs ks++e) (ws.map (mv ks)) j):∃k,Rc cs ws k/\ks.idxOf k=j:=by
 induction r with
 |root hk=>
  rw[KL]at hk;obtain⟨k,h1,h2⟩:=DR hk;exact⟨k,.root h1,h2⟩
 | @step i j c hr hc hj ih=>
  obtain⟨k,hk,rfl⟩:=ih;obtain⟨c0,a⟩:∃c0,cs[k]? =some c0:=⟨_,List.getElem?_eq_getElem (hk.lt hO hV)⟩;rw[TJ ((h.is k).mpr hk) a]at hc;cases hc;rw[V4]at hj;obtain⟨k',h1,h2⟩:=DR hj;exact⟨k',.step hk a h1,h2⟩
end
end _S
namespace _K
open PySem _L _C _S _M _T
open _B hiding ifT ifF NoG top
theorem N10(g:Vl->Vl)(fs:List Fr):hangs (none:Option Ou) (fs.map (mvF g))=(hangs none fs).map g:=by
 show(fs.map (mvF g)).flatMap _=(fs.flatMap _).map g;induction fs with
 |nil=>rfl
 |cons f fs ih=>
  rw[map_cons,flatMap_cons,flatMap_cons,map_append,ih,map_append];rfl
theorem N1(g:Vl->Vl):∀(o:Option Ou) (fs:List Fr),hangs (o.map (mvO g)) (fs.map (mvF g))=(hangs o fs).map g
 |some (.value v),_=>rfl
 |none,fs=>N10 g fs
 |some (.refused w),fs=>N10 g fs
 |some .dry,fs=>N10 g fs
 |some .deep,fs=>N10 g fs
theorem UZ(h:Alk cs cs' ws g)(r:Rc cs ws k):Rc cs' (ws.map (mp g)) (g k):=by
 induction r with
 |root hk=>exact .root (mem_map.mpr ⟨_,hk,rfl⟩)
 | @step k j c hr hc hj ih=>
  refine .step ih (h.at_ k c hr hc) ?_;rw[V4];exact mem_map.mpr ⟨_,hj,rfl⟩
theorem cIZ(hO:Okc cs)(hV:Okv cs.length ws)(h:Alk cs cs' ws g)(r:Rc cs' (ws.map (mp g)) j):∃k,Rc cs ws k/\g k=j:=by
 induction r with
 |root hk=>
  obtain⟨k,h1,h2⟩:=DR hk;exact⟨k,.root h1,h2⟩
 | @step i j c hr hc hj ih=>
  obtain⟨k,hk,rfl⟩:=ih;obtain⟨c0,a⟩:∃c0,cs[k]? =some c0:=⟨_,List.getElem?_eq_getElem (hk.lt hO hV)⟩;rw[h.at_ k c0 hk a]at hc;cases hc;rw[V4]at hj;obtain⟨k',h1,h2⟩:=DR hj;exact⟨k',.step hk a h1,h2⟩
structure Rel (S1 S2:Ms) (g:Nat->Nat):Prop where
 frs:S2.frs=S1.frs.map (mvF (mp g))
 out:S2.out=S1.out.map (mvO (mp g))
 r:S2.r=S1.r
 c:S2.c=S1.c
 alk:Alk S1.cs S2.cs (hangs S1.out S1.frs) g
 okc:Okc S1.cs
 okv:Okv S1.cs.length (hangs S1.out S1.frs)
theorem Rel.hangs(h:Rel S1 S2 g):_M.hangs S2.out S2.frs=(_M.hangs S1.out S1.frs).map (mp g):=by rw[h.frs,h.out,N1]
theorem YG(g h:Nat->Nat)(f:Fr):mvF (mp h) (mvF (mp g) f)=mvF (mp λk=>h (g k)) f:=by
 show Fr.mk _ _ _ _=Fr.mk _ _ _ _;congr 1
 ·show(f.sl.map _).map _=f.sl.map _;rw[map_map];exact map_congr_left λx _=>GE g h x
 ·show(f.st.map _).map _=f.st.map _;rw[map_map];exact map_congr_left λx _=>GE g h x
theorem ahZ(g h:Nat->Nat)(o:Ou):mvO (mp h) (mvO (mp g) o)=mvO (mp λk=>h (g k)) o:=by
 cases o with
 |value x=>show Ou.value _=Ou.value _;rw[GE]
 |_=>rfl
theorem Rel.sw(h:Rel S1 S2 g)(hK:Kept S2.cs (_M.hangs S2.out S2.frs) ks):Rel S1 (swS ks S2) λk=>ks.idxOf (g k):=by
 have a:∀k,Rc S1.cs (_M.hangs S1.out S1.frs) k->g k∈ks:=λk hk=>(hK.is _).mpr (by rw[h.hangs];exact UZ h.alk hk);refine⟨?_, ?_,h.r,h.c,⟨λj k hj hk e=>h.alk.inj j k hj hk (YT (a j hj) (a k hk) e),λk c hk hc=> ?_⟩,h.okc,h.okv⟩
 ·show S2.frs.map (mvF (mv ks))=_;rw[h.frs,map_map,KL];exact map_congr_left λf _=>YG g _ f
 ·show S2.out.map (mvO (mv ks))=_;rw[h.out,KL];cases S1.out with
  |none=>rfl
  |some o=>exact congrArg some (ahZ g _ o)
 ·have:=aSZ (a k hk) (h.alk.at_ k c hk hc);rw[YN]at this;exact this
theorem TW{F:List Nat}(h:Rel S1 S2 g)(hK:Kept S2.cs (_M.hangs S2.out S2.frs) ks)(hF:F.Nodup)(hFi:∀k,k∈F↔Rc S1.cs (_M.hangs S1.out S1.frs) k):ks.length=F.length:=by
 have nd:(F.map g).Nodup:=by
  unfold List.Nodup;rw[List.pairwise_map];exact List.Pairwise.imp_of_mem (λhj hk ne e=>ne (h.alk.inj _ _ ((hFi _).mp hj) ((hFi _).mp hk) e)) hF
 have:=OB hK.nd nd λk=>by
  rw[hK.is,h.hangs];constructor
  ·intro hr;obtain⟨j,hj,e⟩:=cIZ h.okc h.okv h.alk hr;exact mem_map.mpr ⟨j,(hFi j).mpr hj,e⟩
  ·intro hm;obtain⟨j,hj,e⟩:=mem_map.mp hm;rw[<-e];exact UZ h.alk ((hFi j).mp hj)
 rw[this,length_map]
theorem VS{S:Ms}(hO:Okc S.cs)(hV:Okv S.cs.length (_M.hangs S.out S.frs))(hK:Kept S.cs (_M.hangs S.out S.frs) ks)(hK':Kept (swS ks S).cs (_M.hangs (swS ks S).out (swS ks S).frs) ks'):ks'.length=(swS ks S).cs.length:=by
 have eh:_M.hangs (swS ks S).out (swS ks S).frs=(_M.hangs S.out S.frs).map (mv ks):=N1 (mv ks) S.out S.frs;have ec:(swS ks S).cs=fr S.cs ks:=rfl;rw[eh,ec]at hK';have:ks'.length=(List.range (fr S.cs ks).length).length:=OB hK'.nd List.nodup_range λk=>by
  rw[hK'.is,mem_range,MI];have ap:fr S.cs ks++ []=fr S.cs ks:=append_nil _;constructor
  ·intro hr;rw[<-ap]at hr;obtain⟨j,hj,e⟩:=YH hO hV hK hr;rw[<-e];exact idxOf_lt_length_of_mem ((hK.is j).mpr hj)
  ·intro hl;obtain⟨j,hj⟩:∃j,ks[k]? =some j:=⟨_,List.getElem?_eq_getElem hl⟩;have hm:=mem_of_getElem? hj;have:=aRZ (e:=[]) hO hV hK ((hK.is j).mp hm);rw[ap,Y2 hK.nd hj]at this;exact this
 rw[this,List.length_range,ec]
end _K
namespace _K
open PySem _L _C _S _M _T
open _B hiding ifT ifF NoG top
open _P (M7)
noncomputable def mE(g:Nat->Nat):Eo2->Eo2
 | .fr d sl st=> .fr d (sl.map (mp g)) (st.map (mp g))
 | .rf w=> .rf w
 | .new c st=> .new (mpc g c) (st.map (mp g))
theorem NW{cs cs2:List Cl}{st:List Vl}{g:Nat->Nat}(hr:∀j c,Vl.cell j∈st->cs[j]? =some c->cs2[g j]? =some (mpc g c))(h:Er cs sl rk st eo):Er cs2 (sl.map (mp g)) rk (st.map (mp g)) (mE g eo):=by
 have ml:∀ {a:List Vl} {x:Vl},x∈a++ [x]:=λ{a x}=>mem_append_right _ (mem_singleton.mpr rfl);cases h with
 |push h=>simp only[mE,map_append];exact .push h
 |non=>simp only[mE,map_append];exact .non
 |load h=>simp only[mE,map_append];exact .load (by rw[getElem?_map,h];rfl)
 |keep h=>
  simp only[mE,map_append,map_take,map_drop];exact .keep (by rw[length_map];exact h)
 |twoV h1 h2 h3 h4 h5=>simp only[mE,map_append];exact .twoV h1 h2 h3 h4 h5
 |twoR h1 h2 h3 h4=>rw[map_append];exact .twoR h1 h2 h3 h4
 |cons=>rw[map_append];exact .cons
 |headN=>rw[map_append];exact .headN
 |tailN=>rw[map_append];exact .tailN
 |head h=>simp only[mE,map_append];exact .head (hr _ _ ml h)
 |tail h=>simp only[mE,map_append];exact .tail (hr _ _ ml h)
 |emptyN=>simp only[mE,map_append];exact .emptyN
 |empty=>simp only[mE,map_append];exact .empty
 |not=>simp only[mE,map_append];exact .not
 |skip=>exact .skip
 |«unless»=>rw[map_append];exact .unless
 |close h h'=>rw[map_append];exact .close (by rw[length_map];exact h) h'
noncomputable def Fro(cs:List Cl)(sl st:List Vl)(k:Nat):Prop:=Vl.cell k∈sl\/Vl.cell k∈st\/∃j c,Vl.cell j∈st/\cs[j]? =some c/\Vl.cell k∈vin c
theorem OM{st:List Vl}(h:Er cs sl rk st eo):match eo with
  | .fr _ sl' st'=>(∀k,Vl.cell k∈sl'->Fro cs sl st k)/\∀k,Vl.cell k∈st'->Fro cs sl st k
  | .rf _=>True
  | .new c st'=>(∀k,Vl.cell k∈vin c->Vl.cell k∈st)/\∀k,Vl.cell k∈st'->Vl.cell k∈st:=by
 have d:∀ {a:List Vl} {x:Vl} {k:Nat},Vl.cell k∈a++ [x]->Vl.cell k∈a\/Vl.cell k=x:=λh=>(mem_append.mp h).imp id sZ;have sc:∀ {a b:List Vl} {v:V} {k:Nat},Vl.cell k∈a++ [.sc v]->Vl.cell k∈a++b:=λh=>by
  rcases d h with h|h
  ·exact mem_append_left _ h
  ·cases h
 have e:∀ {a:List Vl} {v:V} {k:Nat},Vl.cell k∈a++ [.sc v]->Vl.cell k∈a:=λh=>by
  rcases d h with h|h
  ·exact h
  ·cases h
 cases h with
 |push h=>exact⟨λk h=> .inl h,λk h=> .inr (.inl (e h))⟩
 |non=>exact⟨λk h=> .inl h,λk h=> .inr (.inl (e h))⟩
 |load hj=>
  refine⟨λk h=> .inl h,λk h=> ?_⟩;rcases d h with h|h
  ·exact .inr (.inl h)
  ·exact .inl (by rw[h];exact mem_of_getElem? hj)
 |keep hj=>
  refine⟨λk h=> ?_,λk h=> .inr (.inl (mem_append_left _ h))⟩;rcases mem_append.mp h with h|h
  ·rcases d h with h|h
   ·exact .inl (mem_of_mem_take h)
   ·exact .inr (.inl (by rw[h];exact mem_append_right _ (mem_singleton.mpr rfl)))
  ·exact .inl (List.mem_of_mem_drop h)
 |twoV _ _ _ _ _=>exact⟨λk h=> .inl h,λk h=> .inr (.inl (sc h))⟩
 |twoR _ _ _ _=>trivial
 |cons=>exact⟨λk h=>mem_append_right _ h,λk h=>mem_append_left _ h⟩
 |headN=>trivial
 |tailN=>trivial
 |head hc=>
  refine⟨λk h=> .inl h,λk h=> ?_⟩;rcases d h with h|h
  ·exact .inr (.inl (mem_append_left _ h))
  ·exact .inr (.inr ⟨_,_,mem_append_right _ (mem_singleton.mpr rfl),hc,by rw[h];exact mem_cons_self ..⟩)
 |tail hc=>
  refine⟨λk h=> .inl h,λk h=> ?_⟩;rcases d h with h|h
  ·exact .inr (.inl (mem_append_left _ h))
  ·exact .inr (.inr ⟨_,_,mem_append_right _ (mem_singleton.mpr rfl),hc,by rw[h];exact mem_cons_of_mem _ (mem_cons_self ..)⟩)
 |emptyN=>exact⟨λk h=> .inl h,λk h=> .inr (.inl (sc h))⟩
 |empty=>exact⟨λk h=> .inl h,λk h=> .inr (.inl (sc h))⟩
 |not=>exact⟨λk h=> .inl h,λk h=> .inr (.inl (sc h))⟩
 |skip=>exact⟨λk h=> .inl h,λk h=> .inr (.inl h)⟩
 |«unless»=>exact⟨λk h=> .inl h,λk h=> .inr (.inl (mem_append_left _ h))⟩
 |close _ _=>exact⟨λk h=>mem_append_right _ h,λk h=>mem_append_left _ h⟩
theorem mem_hang{x:Vl}:x∈hangs none fs↔∃f∈fs,x∈f.sl\/x∈f.st:=by
 show x∈fs.flatMap _↔_;rw[List.mem_flatMap];exact⟨λ⟨f,h1,h2⟩=>⟨f,h1,mem_append.mp h2⟩,λ⟨f,h1,h2⟩=>⟨f,h1,mem_append.mpr h2⟩⟩
theorem Alk.sub{us:List Vl}(h:Alk cs cs' ws g)(f:∀k,Vl.cell k∈us->Rc cs ws k):Alk cs cs' us g:=
 ⟨λj k hj hk e=>h.inj j k (TY f hj) (TY f hk) e,λk c hk hc=>h.at_ k c (TY f hk) hc⟩
theorem AN(g:Nat->Nat)(b sz:Nat)(vs:List Vl):mvF (mp g) (begun b sz vs)=begun b sz (vs.map (mp g)):=by
 show Fr.mk _ _ _ _=Fr.mk _ _ _ _;congr 1;show(vs++List.replicate _ _).map _=_;rw[map_append,List.map_replicate,length_map];rfl
theorem BB(h:Vl.cell k∈(begun b sz vs).sl\/Vl.cell k∈(begun b sz vs).st):Vl.cell k∈vs:=by
 rcases h with h|h
 ·rcases mem_append.mp h with h|h
  ·exact h
  ·cases List.eq_of_mem_replicate h
 ·cases h
theorem VU(h:Rel S1 S2 g)(st:UW bs most S1 S1'):∃S2' g',UW bs most S2 S2'/\Rel S1' S2' g'/\S2'.cs.length+S1.cs.length=S2.cs.length+S1'.cs.length/\(Okc S2.cs->Okc S2'.cs):=by
 obtain⟨cs,fs,f,r,c,w,rfl,G,ha⟩:=st;obtain⟨m,Q,P,r2,c2⟩:=S2;obtain⟨hF,hO,hr,hc,hA,B,H⟩:=h;simp only at hF hO hr hc hA B H;replace hr:=hr.symm;replace hc:=hc.symm;subst hF hO hr hc;have A:FN bs (mvF (mp g) f)=some w:=G;have e2:(fs++ [f]).map (mvF (mp g))=fs.map (mvF (mp g))++ [mvF (mp g) f]:=by rw[map_append];rfl
 have s:∀ {S':Ms},Act bs most m (fs.map (mvF (mp g))) (mvF (mp g) f) r c w S'->UW bs most ⟨m,(fs++ [f]).map (mvF (mp g)),none,r,c⟩ S':=λ{S'} a=>⟨m,_,_,r,c,w,by rw[e2],A,a⟩;have q:∀ {x:Vl} {f0:Fr},f0∈fs++ [f]->x∈f0.sl\/x∈f0.st->x∈hangs none (fs++ [f]):=λh1 h2=>mem_hang.mpr ⟨_,h1,h2⟩;have fl:f∈fs++ [f]:=mem_append_right _ (mem_singleton.mpr rfl);have D:∀j c,Vl.cell j∈f.st->cs[j]? =some c->m[g j]? =some (mpc g c):=λj c hj hc=>hA.at_ j c (.root (q fl (.inr hj))) hc;have p:∀k,Fro cs f.sl f.st k->Rc cs (hangs none (fs++ [f])) k:=λk z=>by
  rcases z with z|z|⟨j,c,z1,z2,z3⟩
  ·exact .root (q fl (.inl z))
  ·exact .root (q fl (.inr z))
  ·exact .step (.root (q fl (.inr z1))) z2 z3
 have i:∀ {k f0},f0∈fs->(Vl.cell k∈f0.sl\/Vl.cell k∈f0.st)->Rc cs (hangs none (fs++ [f])) k:=λh1 h2=> .root (q (mem_append_left _ h1) h2);have t:∀ {o:Option Ou} {frs:List Fr} {r' c':Nat},(∀k,Vl.cell k∈hangs o frs->Rc cs (hangs none (fs++ [f])) k)->Rel ⟨cs,frs,o,r',c'⟩ ⟨m,frs.map (mvF (mp g)),o.map (mvO (mp g)),r',c'⟩ g:=λ{o frs r' c'} z=>
  ⟨rfl,rfl,rfl,rfl,Alk.sub hA z,B,λk hk=>(z k hk).lt B H⟩
 have no:∀ {o:Ou},U1 (some o)=false->∀k,Vl.cell k∈hangs (some o) []->Rc cs (hangs none (fs++ [f])) k:=λ{o} ho k hk=>by
  rw[AA ho]at hk;cases hk
 cases ha with
 | @own rk d sl st hE=>
  have I:=NW D hE;obtain⟨f1,f2⟩:=OM hE;refine⟨_,g,s (.own I), ?_,rfl,id⟩;have:=t (o:=none) (frs:=fs++ [⟨f.k,f.at_+d,sl,st⟩]) (r':=r+1) (c':=c) λk hk=>by
   obtain⟨f0,h1,h2⟩:=mem_hang.mp hk;rcases mem_append.mp h1 with h1|h1
   ·exact i h1 h2
   ·rw[sZ h1]at h2;rcases h2 with h2|h2
    ·exact p k (f1 k h2)
    ·exact p k (f2 k h2)
  rw[map_append]at this;exact this
 | @rf rk w hE=>exact⟨_,g,s (.rf (NW D hE)),t (o:=some (.refused w)) (frs:=[]) (no rfl),rfl,id⟩
 | @last v st hfs hst=>
  subst hfs;refine⟨_,g,s (.last (st:=st.map (mp g)) (v:=mp g v) rfl ?_),t (o:=some (.value v)) (frs:=[]) (λk hk=> ?_),rfl,id⟩
  ·show f.st.map _=_;rw[hst,map_append];rfl
  ·have e:=sZ hk;exact .root (q fl (.inr (by rw[hst,e];exact mem_append_right _ (mem_singleton.mpr rfl))))
 | @back gs g0 v st hfs hst=>
  subst hfs;refine⟨_,g,s (.back (gs:=gs.map (mvF (mp g))) (g:=mvF (mp g) g0) (st:=st.map (mp g)) (v:=mp g v) (by rw[map_append];rfl) ?_), ?_,rfl,id⟩
  ·show f.st.map _=_;rw[hst,map_append];rfl
  have:=t (o:=none) (frs:=gs++ [⟨g0.k,g0.at_,g0.sl,g0.st++ [v]⟩]) (r':=r+1) (c':=c) λk hk=>by
   obtain⟨f0,h1,h2⟩:=mem_hang.mp hk;rcases mem_append.mp h1 with h1|h1
   ·exact i (mem_append_left _ h1) h2
   ·rw[sZ h1]at h2;have M:g0∈gs++ [g0]:=mem_append_right _ (mem_singleton.mpr rfl);rcases h2 with h2|h2
    ·exact i M (.inl h2)
    ·rcases mem_append.mp h2 with h2|h2
     ·exact i M (.inr h2)
     ·exact .root (q fl (.inr (by rw[hst,sZ h2];exact mem_append_right _ (mem_singleton.mpr rfl))))
  rw[map_append]at this;have e3:mvF (mp g) ⟨g0.k,g0.at_,g0.sl,g0.st++ [v]⟩=⟨g0.k,g0.at_,g0.sl.map (mp g),g0.st.map (mp g)++ [mp g v]⟩:=by
   show Fr.mk _ _ _ _=Fr.mk _ _ _ _;congr 1;show(g0.st++ [v]).map _=_;rw[map_append];rfl
  rw[map_singleton,e3]at this;exact this
 |dry h1 h2=>exact⟨_,g,s (.dry h1 h2),t (o:=some .dry) (frs:=[]) (no rfl),rfl,id⟩
 |deep h1 h2 h3=>exact⟨_,g,s (.deep h1 h2 (by rw[length_map];exact h3)),t (o:=some .deep) (frs:=[]) (no rfl),rfl,id⟩
 | @call b bk st xs h1 h2 h3 h4 h5=>
  have a2:=Act.call (bs:=bs) (most:=most) (cs:=m) (fs:=fs.map (mvF (mp g))) (f:=mvF (mp g) f) (r:=r) (c:=c) (b:=b) (bk:=bk) (st:=st.map (mp g)) (xs:=xs.map (mp g)) h1 (by rw[length_map];exact h2) (by show f.st.map _=_;rw[h3,map_append]) h4 (by rw[length_map];exact h5);rw[length_map]at a2;refine⟨_,g,s a2, ?_,rfl,id⟩;have:=t (o:=none) (frs:=fs++ [⟨f.k,f.at_+1,f.sl,st⟩]++ [begun b bk.sz xs]) (r':=r+1) (c':=c+1) λk hk=>by
   obtain⟨f0,z1,z2⟩:=mem_hang.mp hk;rcases mem_append.mp z1 with z1|z1
   ·rcases mem_append.mp z1 with z1|z1
    ·exact i z1 z2
    ·rw[sZ z1]at z2;rcases z2 with z2|z2
     ·exact p k (.inl z2)
     ·exact p k (.inr (.inl (by rw[h3];exact mem_append_left _ z2)))
   ·rw[sZ z1]at z2;exact p k (.inr (.inl (by rw[h3];exact mem_append_right _ (BB z2))))
  rw[map_append,map_append,map_singleton,map_singleton,AN]at this;exact this
 | @apply b bk st j xs x h1 h2 h3 h4 h5 h6=>
  have hj:Vl.cell j∈f.st:=by rw[h3];exact mem_append_right _ (mem_cons_self ..)
  refine⟨_,g,s (.apply (b:=b) (bk:=bk) (st:=st.map (mp g)) (j:=g j) (xs:=xs.map (mp g)) (x:=mp g x) h1 (by rw[length_map];exact h2) (by show f.st.map _=_;rw[h3,map_append];rfl) (D j _ hj h4) h5 (by rw[length_map];exact h6)), ?_,rfl,id⟩;have:=t (o:=none) (frs:=fs++ [⟨f.k,f.at_+1,f.sl,st⟩]++ [begun b bk.sz (xs++ [x])]) (r':=r+1) (c':=c+1) λk hk=>by
   obtain⟨f0,z1,z2⟩:=mem_hang.mp hk;rcases mem_append.mp z1 with z1|z1
   ·rcases mem_append.mp z1 with z1|z1
    ·exact i z1 z2
    ·rw[sZ z1]at z2;rcases z2 with z2|z2
     ·exact p k (.inl z2)
     ·exact p k (.inr (.inl (by rw[h3];exact mem_append_left _ z2)))
   ·rw[sZ z1]at z2;rcases mem_append.mp (BB z2)with z3|z3
    ·exact p k (.inr (.inr ⟨j,_,hj,h4,z3⟩))
    ·exact p k (.inr (.inl (by rw[h3,sZ z3];exact mem_append_right _ (mem_cons_of_mem _ (mem_cons_self ..)))))
  rw[map_append,map_append,map_singleton,map_singleton,AN,map_append]at this;exact this
 | @new rk cl st hE=>
  have I:=NW D hE;obtain⟨f1,f2⟩:=OM hE;have lt:∀k,Rc cs (hangs none (fs++ [f])) k->k<cs.length:=λk z=>z.lt B H;have eg:∀k,k<cs.length->(if k=cs.length then m.length else g k)=g k:=λk hk=>if_neg (ne_of_lt hk);have en:(if cs.length=cs.length then m.length else g cs.length)=m.length:=if_pos rfl;generalize N:(λk=>if k=cs.length then m.length else g k)=g';have y:∀k,k<cs.length->g' k=g k:=λk hk=>by rw[<-N];exact eg k hk
  have E:g' cs.length=m.length:=by rw[<-N];exact en
  have J:∀x:Vl,(∀k,x=.cell k->k<cs.length)->mp g' x=mp g x:=λx hx=>by
   cases x with
   |sc v=>rfl
   |cell k=>show Vl.cell _=Vl.cell _;rw[y k (hx k rfl)]
  have C:∀l:List Vl,(∀k,Vl.cell k∈l->k<cs.length)->l.map (mp g')=l.map (mp g):=λl hl=>map_congr_left λx hx=>J x λk e=>hl k (by rw[<-e];exact hx);have O:∀c:Cl,(∀k,Vl.cell k∈vin c->k<cs.length)->mpc g' c=mpc g c:=λc hc=>by
   cases c with
   |pair a b=>
    show Cl.pair _ _=Cl.pair _ _;rw[J a λk e=>hc k (by rw[e];exact mem_cons_self ..),J b λk e=>hc k (by rw[e];exact mem_cons_of_mem _ (mem_cons_self ..))]
   |fn n vs=>show Cl.fn _ _=Cl.fn _ _;rw[C vs hc]
  have F:∀k,Vl.cell k∈f.st->k<cs.length:=λk hk=>lt k (.root (q fl (.inr hk)));have rn:∀k,Rc (cs++ [cl]) (hangs none (fs++ [⟨f.k,f.at_+1,f.sl,st++ [.cell cs.length]⟩])) k->Rc cs (hangs none (fs++ [f])) k\/k=cs.length:=λk z=>by
   induction z with
   |root hk=>
    obtain⟨f0,z1,z2⟩:=mem_hang.mp hk;rcases mem_append.mp z1 with z1|z1
    ·exact .inl (i z1 z2)
    ·rw[sZ z1]at z2;rcases z2 with z2|z2
     ·exact .inl (p _ (.inl z2))
     ·rcases mem_append.mp z2 with z2|z2
      ·exact .inl (p _ (.inr (.inl (f2 _ z2))))
      ·have e:=sZ z2;injection e with e
       exact .inr e
   | @step k j c0 _ hc hj ih=>
    rcases ih with ih|ih
    ·rw[getElem?_append_left (lt k ih)]at hc;exact .inl (.step ih hc hj)
    ·rw[ih,M7 rfl]at hc;cases hc;exact .inl (p _ (.inr (.inl (f1 _ hj))))
  refine⟨_,g',s (.new I),⟨?_,rfl,rfl,rfl,⟨λj k hj hk e=> ?_,λk c0 hk hc=> ?_⟩,IU B λj hj=>F j (f1 j hj),λk hk=> ?_⟩, ?_,λho=>IU ho λj hj=> ?_⟩
  ·show fs.map (mvF (mp g))++ [Fr.mk _ _ _ _]=(fs++ [_]).map (mvF (mp g'));rw[map_append];congr 1
   ·refine map_congr_left λf0 h0=> ?_;show Fr.mk _ _ _ _=Fr.mk _ _ _ _;rw[C f0.sl λk hk=>lt k (i h0 (.inl hk)),C f0.st λk hk=>lt k (i h0 (.inr hk))]
   ·show [Fr.mk _ _ _ _]=[Fr.mk f.k (f.at_+1) (f.sl.map (mp g')) ((st++ [Vl.cell cs.length]).map (mp g'))];rw[map_append,C f.sl λk hk=>lt k (.root (q fl (.inl hk))),C st λk hk=>F k (f2 k hk)];show _=[Fr.mk _ _ _ (_++ [Vl.cell (g' cs.length)])];rw[E];rfl
  ·have L:∀k,Rc cs (hangs none (fs++ [f])) k->g k<m.length:=λk z=>hA.lt z (lt k z);rcases rn j hj with hj|hj<;>rcases rn k hk with hk|hk
   ·rw[y j (lt j hj),y k (lt k hk)]at e;exact hA.inj j k hj hk e
   ·rw[y j (lt j hj),hk,E]at e;exact absurd e (ne_of_lt (L j hj))
   ·rw[y k (lt k hk),hj,E]at e;exact absurd e.symm (ne_of_lt (L k hk))
   ·rw[hj,hk]
  ·show(m++ [mpc g cl])[g' k]? =_;rcases rn k hk with hk|hk
   ·have u:(cs++ [cl])[k]? =some c0:=hc;rw[getElem?_append_left (lt k hk)]at u;have h2:=hA.at_ k c0 hk u;rw[y k (lt k hk),getElem?_append_left (hA.lt hk (lt k hk)),h2,O c0 λj hj=>lt j (.step hk u hj)]
   ·have u:(cs++ [cl])[k]? =some c0:=hc;rw[hk,M7 rfl]at u;cases u;rw[hk,E,M7 rfl,O cl λj hj=>F j (f1 j hj)]
  ·show k<(cs++ [cl]).length;rw[length_append,length_singleton];rcases rn k (.root hk)with z|z
   ·exact Nat.lt_succ_of_lt (lt k z)
   ·rw[z];exact lt_succ_self _
  ·show(m++ [mpc g cl]).length+cs.length=m.length+(cs++ [cl]).length;rw[length_append,length_append,length_singleton,length_singleton];omega
  ·rw[V4]at hj;obtain⟨k,z1,z2⟩:=DR hj;have hr:Rc cs (hangs none (fs++ [f])) k:=.root (q fl (.inr (f1 k z1)));rw[<-z2];exact hA.lt hr (lt k hr)
end _K
namespace _K
open PySem _L _C _S _M _T
open _B hiding ifT ifF NoG top
theorem X8(hA:Alk cs cs2 ws g):∀t:Tv,(∀ {x:Vl},(VT cs t).1 x->(∀k,x=.cell k->Rc cs ws k)->(VT cs2 t).1 (mp g x))/\∀ {vs:List Vl},(VT cs t).2 vs->(∀k,Vl.cell k∈vs->Rc cs ws k)->(VT cs2 t).2 (vs.map (mp g))
 | .sc _=>⟨λh _=>by cases h;rfl,λh=>h.elim⟩
 | .pair h t=>⟨λ⟨k,a,b,e,hk,h1,h2⟩ hr=>by
   subst e;have c:=hr k rfl;refine⟨g k,mp g a,mp g b,rfl,hA.at_ k _ c hk,(X8 hA h).1 h1 λj e=> ?_,(X8 hA t).1 h2 λj e=> ?_⟩
   ·exact .step c hk (by rw[<-e];simp[vin])
   ·exact .step c hk (by rw[<-e];simp[vin]),λh=>h.elim⟩
 | .fn b xs=>⟨λ⟨k,vs,e,hk,h1⟩ hr=>by
   subst e;have c:=hr k rfl;exact⟨g k,vs.map (mp g),rfl,hA.at_ k _ c hk,(X8 hA xs).2 h1 λj e=> .step c hk e⟩,λh=>h.elim⟩
 | .nil=>⟨λh=>h.elim,λh _=>by cases h;rfl⟩
 | .cons x xs=>⟨λh=>h.elim,λ⟨v,w,e,h1,h2⟩ hr=>by
   subst e;exact⟨mp g v,w.map (mp g),rfl,(X8 hA x).1 h1 λj e=>hr j (by rw[<-e];exact mem_cons_self ..),(X8 hA xs).2 h2 λj e=>hr j (mem_cons_of_mem _ e)⟩⟩
theorem PR(hA:Alk cs cs2 ws g){ts:List Tv}{vs:List Vl}(h:All2 (V1 cs) ts vs)(hr:∀k,Vl.cell k∈vs->Rc cs ws k):All2 (V1 cs2) ts (vs.map (mp g)):=by
 induction h with
 |nil=>exact .nil
 |cons h1 _ ih=>exact .cons ((X8 hA _).1 h1 λk e=>hr k (by rw[<-e];exact mem_cons_self ..)) (ih λk hk=>hr k (mem_cons_of_mem _ hk))
theorem agZ(h:Rel S1 S2 g)(hs:Sim S1 T)(he:S1.out≠none->S1.frs=[])(hl:S2.cs.length<=S1.cs.length)(ho:Okc S2.cs):Sim S2 T:=by
 have root:∀k,Vl.cell k∈hangs S1.out S1.frs->Rc S1.cs (hangs S1.out S1.frs) k:=λk hk=> .root hk;have a:∀ {x:Vl} {f:Fr},f∈S1.frs->x∈f.sl\/x∈f.st->x∈hangs S1.out S1.frs:=λ{x f} h1 h2=>by
  by_cases o:S1.out=none
  ·rw[o];exact mem_hang.mpr ⟨f,h1,h2⟩
  ·rw[he o]at h1;cases h1
 refine⟨?_, ?_,h.r.trans hs.r,h.c.trans hs.c,le_trans hl hs.n,ho⟩
 ·rw[h.frs];have b:∀ {ts:List Tf} {fs:List Fr},(∀f∈fs,f∈S1.frs)->All2 (SimF S1.cs) ts fs->All2 (SimF S2.cs) ts (fs.map (mvF (mp g))):=λ{ts fs} hm hA=>by
   induction hA with
   |nil=>exact .nil
   |cons h1 _ ih=>
    have hf:=hm _ (mem_cons_self ..);exact .cons ⟨h1.k,h1.at_,PR h.alk h1.sl λk hk=>root k (a hf (.inl hk)),PR h.alk h1.st λk hk=>root k (a hf (.inr hk))⟩ (ih λf hf=>hm f (mem_cons_of_mem _ hf))
  exact b (λf hf=>hf) hs.frs
 ·have o:=hs.out;rw[h.out];cases e:T.out with
  |none=>rw[e]at o;rw[show S1.out=none from o];rfl
  |some t=>
   rw[e]at o;cases t with
   |value t=>
    obtain⟨x,ex,hx⟩:=o;refine⟨mp g x,by rw[ex];rfl,(X8 h.alk t).1 hx λk ek=>root k ?_⟩;rw[ex,ek];exact mem_singleton.mpr rfl
   |refused w=>rw[show S1.out=_ from o];rfl
   |dry=>rw[show S1.out=_ from o];rfl
   |deep=>rw[show S1.out=_ from o];rfl
end _K
namespace _S
open PySem _L _C
open _B hiding ifT ifF NoG top
seal PE PT PW PA PS PSs PTs PI _L._P PGs PO
noncomputable abbrev s_law_parts:Stmt:=_C.top 51
noncomputable abbrev s_law_sort_alike:Stmt:=_C.top 52
noncomputable abbrev s_law_place:Stmt:=_C.top 53
noncomputable abbrev KM:List Str:=["_law_cell"]
theorem sc_law_parts:FnScope KM q2L (B6 s_law_parts):=fS
noncomputable abbrev AO:List Str:=["_law_one","_law_other"]
theorem sc_law_sort_alike:FnScope AO cvZ (B6 s_law_sort_alike):=fS
noncomputable abbrev JV:List Str:=["_law_value","_law_many"]
theorem sc_law_place:FnScope JV cyZ (B6 s_law_place):=fS
section
inductive spPartsW(vs:List V)(H:Hp)(Q:VK):Prop
 |mk:∀(c:Cl) (u:V),(vs=[u])->(ClAt H c u)->(∀l xs H',Same H H'->H l=none->H' l=some (.lst xs)->All2 (VAt H') (vin c) xs->Q (.ref l) H')->spPartsW vs H Q
noncomputable def OT:Sp:=λvs H Q _=>spPartsW vs H Q
theorem ok_law_parts(F:Fun Z "_law_parts" "_law_parts" s_law_parts f fd)(B:NoG mg):FnOk P w Z mg base CX0 1 f fd q2L OT:=by
 refine F.om sc_law_parts λg A d s H vs Q E hr h=> ?_;obtain⟨c,u,rfl,hc,q⟩:=h;have nd:=sc_law_parts.nd;have hu:=hr.units0;refine⟨_,(A9 (D2 (C0 (kEq (Z:=Z) hu) (ixE Z w (pv 0) B0) B8 rfl) (B5 (C2 (E7 (A0 (ixE Z w (pv 0) B0) (A0 (ixE Z w (pv 0) B0) B4))))) C4)
   (B5 (C2 (F9 (P8 (Z:=Z)) rfl B.list_ J8 (A0 (ixE Z w (pv 0) B0) B4))))), ?_⟩
 cases c with
 |pair a b=>
  obtain⟨p,x,y,rfl,hp,h1,h2⟩:=hc;refine⟨_,rfl,(ixT hp rfl (.inl ⟨rfl,_,rfl,ifT (by decide +kernel) ?_⟩))⟩;refine⟨_,rfl,(ixT hp rfl ⟨_,rfl,(ixT hp rfl ⟨L5,λl hl=> ?_⟩)⟩)⟩;have s1:=A8 hl (.lst [x,y]);exact q l [x,y] _ s1 hl A7 (.cons (h1.mo (B9 s1)) (.cons (h2.mo (B9 s1)) .nil))
 |fn n vs=>
  obtain⟨p,r,xs,rfl,hp,e,h1,_⟩:=hc;refine⟨_,rfl,(ixT hp rfl (.inl ⟨rfl,_,rfl,ifF (by decide +kernel) ?_⟩))⟩;refine⟨_,rfl,(ixT hp rfl ⟨r,xs,rfl,.inr (SqT.of e),λl hl=> ?_⟩)⟩;have s1:=A8 hl (.lst xs);exact q l xs _ s1 hl A7 (h1.imp λ_ _ z=>VAt.mo (B9 s1) z)
inductive spSortAW (vs:List V) (H:Hp) (Q:VK):Prop
 |mk:∀(c:Cl) (g:Nat->Nat) (u u':V),(vs=[u,u'])->(ClAt H c u)->(ClAt H (mpc g c) u')->(∀H',Same H H'->Q (.bl true) H')->spSortAW vs H Q
noncomputable def OS:Sp:=λvs H Q _=>spSortAW vs H Q
theorem ok_law_sort_alike(F:Fun Z "_law_sort_alike" "_law_sort_alike" s_law_sort_alike f fd)(B:NoG mg)
  (F6:Cn P w Z mg base CX0 1 "_law_same" q5L (spSame 0)):
  FnOk P w Z mg base CX0 2 f fd cvZ OS:=by
 refine F.om sc_law_sort_alike λo A i s H vs Q E hr h=> ?_;obtain⟨c,g,u,u',rfl,hc,k,q⟩:=h;have nd:=sc_law_sort_alike.nd;have hu:=hr.units0;refine⟨_,(A9 (D3 (D2 (PW.pt (P0 (L9 (E9 (Z:=Z) (E3 (M4 (Z:=Z)) rfl B.isinstance_ C8 (A0 (pv 1) (A0 (F8 (v:=.ty "tuple") rfl B.tuple_ J6 rfl) B4))) (λ_=>rfl))) (P0 (C0 (kNe (Z:=Z) hu) (kL Z B.len_ (pv 1)) B0 rfl) (O0 (L9 (E9 (Z:=Z) (cC F6 hr (A0 (ixE Z w (pv 1) B0) (A0 (ixE Z w (pv 0) B0) B4))) (λ_=>rfl))))))) (B5 (C2 O3)) C4))
   (A9 (D2 (C0 (kEq (Z:=Z) hu) (ixE Z w (pv 0) B0) B8 rfl) (B5 (C2 O3)) C4)
   (B5 (C2 (T4 (cC F6 hr (A0 (ixE Z w (pv 1) B0) (A0 (ixE Z w (pv 0) B0) B4))) (T4 (E3 (M4 (Z:=Z)) rfl B.isinstance_ C8 (A0 (ixE Z w (pv 1) B0) (A0 (F8 (v:=.ty "tuple") rfl B.tuple_ J6 rfl) B4))) (Y3 (L6 (kEq (Z:=Z) hu) (kL Z B.len_ (ixE Z w (pv 1) B0)) (kL Z B.len_ (ixE Z w (pv 0) B0)) rfl)))))))), ?_⟩
 have dp:∀(H':Hp) (z:V),V8 z=true->Dp H' 0 z z:=λH' z h=>Dp.sc h 0;cases c with
 |pair a b=>
  obtain⟨p,x,y,rfl,hp,h1,h2⟩:=hc;obtain⟨p',x',y',rfl,d,l,m⟩:=k;refine⟨fun σ H'=>σ=[some (.ref p),some (.ref p')]/\Same H H', ?_, ?_⟩
  ·refine⟨_,rfl,_,_,_,_,rfl,.tup d,U9,true,rfl,ifF nZ ?_⟩;refine⟨_,rfl,_,_,rfl,.inr ⟨_,SqT.of d,rfl⟩,.inl ⟨rfl,_,rfl,ifF (by show¬(!decide (V.int (3:Nat)=V.int 3))=true;decide) ?_⟩⟩;exact⟨_,rfl,(ixT d rfl ⟨_,rfl,(ixT hp rfl ⟨_,_,rfl,.inl (dp _ _ rfl),λH1 s1=>⟨true,rfl,ifF nZ ⟨rfl,s1⟩⟩⟩)⟩)⟩
  rintro σ H1 ⟨rfl,s1⟩;exact⟨_,rfl,(ixT (s1 _ _ hp) rfl (.inl ⟨rfl,_,rfl,ifT (by decide +kernel) (q _ s1)⟩))⟩
 |fn n vs=>
  obtain⟨p,r,xs,rfl,hp,hr,h1,h2⟩:=hc;obtain⟨p',r',e,rfl,d,j,l,m⟩:=k;have hl:e.length=xs.length:=by rw[<-h1.len,<-l.len,length_map]
  refine⟨fun σ H'=>σ=[some (.ref p),some (.ref p')]/\Same H H', ?_, ?_⟩
  ·refine⟨_,rfl,_,_,_,_,rfl,.tup d,U9,true,rfl,ifF nZ ?_⟩;refine⟨_,rfl,_,_,rfl,.inr ⟨_,SqT.of d,rfl⟩,.inl ⟨rfl,_,rfl,ifF (by show¬(!decide (V.int (3:Nat)=V.int 3))=true;decide) ?_⟩⟩;exact⟨_,rfl,(ixT d rfl ⟨_,rfl,(ixT hp rfl ⟨_,_,rfl,.inl (dp _ _ rfl),λH1 s1=>⟨true,rfl,ifF nZ ⟨rfl,s1⟩⟩⟩)⟩)⟩
  rintro σ H1 ⟨rfl,s1⟩;refine⟨_,rfl,(ixT (s1 _ _ hp) rfl (.inl ⟨rfl,_,rfl,ifF (by decide +kernel) ?_⟩))⟩;refine⟨_,rfl,(ixT (s1 _ _ d) rfl ⟨_,rfl,(ixT (s1 _ _ hp) rfl ⟨_,_,rfl,.inl (dp _ _ rfl),λH2 s2=>⟨true,rfl,ifT rfl ?_⟩⟩)⟩)⟩;have s3:=s1.trans s2;refine⟨_,rfl,(ixT (s3 _ _ d) rfl ⟨_,_,_,_,rfl,.tup (s3 _ _ j),U9,true,rfl,ifT rfl ?_⟩)⟩;refine⟨_,rfl,(ixT (s3 _ _ d) rfl ⟨_,_,rfl,.inr ⟨_,SqT.of (s3 _ _ j),rfl⟩,_,rfl,(ixT (s3 _ _ hp) rfl ⟨_,_,rfl,.inr ⟨_,SqT.of (s3 _ _ hr),rfl⟩,.inl ⟨rfl, ?_⟩⟩)⟩)⟩;show Q (.bl (decide (V.int (e.length:Nat)=V.int (xs.length:Nat)))) H2;rw[hl,decide_eq_true rfl];exact q _ s3
inductive spPlaceW (vs:List V) (H:Hp) (Q:VK):Prop
 |mk:∀(p:Addr) (k n:Nat),(vs=[.ref p,.int (n:Nat)])->(H p=some (.tup [.str "cell",.int (k:Nat)]))->(k<n)->(∀H',Same H H'->Q (.bl true) H')->spPlaceW vs H Q
noncomputable def OZ:Sp:=λvs H Q _=>spPlaceW vs H Q
theorem ok_law_place(F:Fun Z "_law_place" "_law_place" s_law_place f fd)(B:NoG mg)
  (F6:Cn P w Z mg base CX0 1 "_law_same" q5L (spSame 0)):
  FnOk P w Z mg base CX0 2 f fd cyZ OZ:=by
 refine F.om sc_law_place λc A b s H vs Q E hr h=> ?_;obtain⟨p,k,n,rfl,hp,hk,q⟩:=h;have nd:=sc_law_place.nd;have hu:=hr.units0;refine⟨_,(A9 (D3 (D2 (PW.pt (P0 (L9 (E9 (Z:=Z) (E3 (M4 (Z:=Z)) rfl B.isinstance_ C8 (A0 (pv 0) (A0 (F8 (v:=.ty "tuple") rfl B.tuple_ J6 rfl) B4))) (λ_=>rfl))) (P0 (C0 (kNe (Z:=Z) hu) (kL Z B.len_ (pv 0)) B0 rfl) (O0 (L9 (E9 (Z:=Z) (cC F6 hr (A0 (ixE Z w (pv 0) B0) (A0 B8 B4))) (λ_=>rfl))))))) (B5 (C2 O3)) C4))
   (B5 (C2 (T4 (E3 (M4 (Z:=Z)) rfl B.isinstance_ C8 (A0 (ixE Z w (pv 0) B0) (A0 (F8 (v:=.ty "int") rfl B.int_ MQ rfl) B4))) (T4 (TF (E3 (M4 (Z:=Z)) rfl B.isinstance_ C8 (A0 (ixE Z w (pv 0) B0) (A0 (F8 (v:=.ty "bool") rfl B.bool_ IN rfl) B4)))) (Y3 (LJ VB OQ B0 (ixE Z w (pv 0) B0) (pv 1)))))))), ?_⟩
 refine⟨fun σ H'=>σ=[some (.ref p),some (.int (n:Nat))]/\Same H H', ?_, ?_⟩
 ·refine⟨_,rfl,_,_,_,_,rfl,.tup hp,U9,true,rfl,ifF nZ ?_⟩;refine⟨_,rfl,_,_,rfl,.inr ⟨_,SqT.of hp,rfl⟩,.inl ⟨rfl,_,rfl,ifF (by show¬(!decide (V.int (2:Nat)=V.int 2))=true;decide) ?_⟩⟩;exact⟨_,rfl,(ixT hp rfl ⟨_,_,rfl,.inl (Dp.sc rfl 0),λH1 s1=>⟨true,rfl,ifF nZ ⟨rfl,s1⟩⟩⟩)⟩
 rintro σ H1 ⟨rfl,s1⟩;have a:=s1 _ _ hp;refine⟨_,rfl,(ixT a rfl ⟨_,_,_,_,rfl,.int _,by rfl,true,rfl,ifT rfl ?_⟩)⟩;refine⟨_,rfl,(ixT a rfl ⟨_,_,_,_,rfl,.int _,by rfl,false,rfl,true,rfl,ifT rfl ?_⟩)⟩;refine⟨_,rfl,(ixT a rfl ⟨_,_,rfl,rfl,_,rfl, ?_⟩)⟩;refine ifT (decide_eq_true (Int.natCast_nonneg k)) ⟨_,rfl,_,_,rfl,rfl, ?_⟩;show Q (.bl (decide ((k:Int)<(n:Int)))) H1;rw[decide_eq_true (by omega:(k:Int)<(n:Int))];exact q _ s1
end
noncomputable abbrev s_law_alike:Stmt:=_C.top 54
noncomputable abbrev BR:List Str:=["_law_olds","_law_news","_law_old_cells","_law_new_cells","_law_places","_law_back","_law_waiting","_law_old","_law_new","_law_one","_law_other","_law_k"]
theorem sc_law_alike:FnScope BR bOZ (B6 s_law_alike):=fS
section
noncomputable def WAt(g:Nat->Nat)(H:Hp)(x:Vl)(v:V):Prop:=∃(p:Addr) (a b:V),v=.ref p/\H p=some (.tup [a,b])/\VAt H x a/\VAt H (mp g x) b
theorem WAt.mo(m:Mo H H')(h:WAt g H x v):WAt g H' x v:=
 let⟨p,a,b,e,h1,h2,h3⟩:=h;⟨p,a,b,e,m _ _ h1,h2.mo m,h3.mo m⟩
noncomputable def stA(ao an ac bc d1 d2 wl:Addr)(a7 a8 a9 a10 a11:Option V):St:=[some (.ref ao),some (.ref an),some (.ref ac),some (.ref bc),some (.ref d1),some (.ref d2),some (.ref wl),a7,a8,a9,a10,a11]
noncomputable def Dcs(H:Hp)(d1 d2:Addr)(g:Nat->Nat)(F:List Nat):Prop:=∃kvs kvb:List (Key×V),H d1=some (.dK kvs)/\H d2=some (.dK kvb)/\kvs.map (·.1)=K3 F/\kvb.map (·.1)=K3 (F.map g)/\
 (∀k∈F,K9 kvs (.inl (k:Int))=some (.int (g k:Nat)))/\∀k∈F,K9 kvb (.inl (g k:Int))=some (.int (k:Nat))
noncomputable def IA(g:Nat->Nat)(H:Hp)(ao an ac bc d1 d2 wl:Addr)(cs:List Cl)(ws:List Vl)(m:Nat)(σ:St)(H':Hp):Prop:=∃a7 a8 a9 a10 a11 F W zs,σ=stA ao an ac bc d1 d2 wl a7 a8 a9 a10 a11/\Same H H'/\Dcs H' d1 d2 g F/\H' wl=some (.lst zs)/\All2 (WAt g H') W zs/\Wlk cs ws F W/\m=(cs.length - F.length)*11+W.length/\W.length<=1000+10*F.length
theorem Dcs.at{H':Hp}(h:Dcs H d1 d2 g F)(h1:∀o,H d1=some o->H' d1=some o)(h2:∀o,H d2=some o->H' d2=some o):Dcs H' d1 d2 g F:=
 let⟨kvs,kvb,a,b,c⟩:=h;⟨kvs,kvb,h1 _ a,h2 _ b,c⟩
theorem KD{kvs:List (Key×V)}(h:kvs.map (·.1)=K3 F){k:Nat}(hk:k∉F):K9 kvs (.inl (k:Int))=none:=by
 have:=CO h k;rw[decide_eq_false hk]at this;cases h:K9 kvs (.inl (k:Int))with
 |none=>rfl
 |some z=>rw[h]at this;cases this
theorem DO{kvs:List (Key×V)}(h:kvs.map (·.1)=K3 F):kvs.length=F.length:=by
 have:=congrArg List.length h;unfold K3 at this
 simpa using this
theorem FW{kvs:List (Key×V)}(h:kvs.map (·.1)=K3 F)(k:Nat)(v:V):(kvs++ [((Sum.inl (k:Int):Key),v)]).map (·.1)=K3 (F++ [k]):=by
 rw[map_append,h];unfold K3;rw[map_append];rfl
theorem b8Z{j k:Nat}(h:j≠k):(Sum.inl (j:Int):Key)≠Sum.inl (k:Int):=λe=>h (by have:(j:Int)=(k:Int):=Sum.inl.inj e;omega)
theorem FU{kvs:List (Key×V)}{F:List Nat}{a b:Nat->Nat}(h:∀j∈F,K9 kvs (.inl (a j:Int))=some (.int (b j:Nat))){k:Nat}(hn:K9 kvs (.inl (a k:Int))=none)(hi:∀j∈F,a j≠a k):
  ∀j∈F++ [k],K9 (kvs++ [(Sum.inl (a k:Int),.int (b k:Nat))]) (.inl (a j:Int))=some (.int (b j:Nat)):=λj hj=>by
 rw[<-Q7 _ hn,KJ];rcases M6 hj with rfl|hj
 ·rw[if_pos rfl]
 ·rw[if_neg (b8Z (hi j hj))];exact h j hj
inductive spAlikeW (vs:List V) (H:Hp) (Q:VK):Prop
 |mk:∀(ao an ac bc:Addr) (xs ys us us':List V) (cs cs':List Cl) (ws:List Vl) (g:Nat->Nat),(vs=[.ref ao,.ref an,.ref ac,.ref bc])->(H ao=some (.lst xs))->(H an=some (.lst ys))->(H ac=some (.lst us))->(H bc=some (.lst us'))->(All2 (VAt H) ws xs)->(All2 (VAt H) (ws.map (mp g)) ys)->(All2 (ClAt H) cs us)->(All2 (ClAt H) cs' us')->(Okc cs)->(Okv cs.length ws)->(cs.length<=63)->(xs.length<=1000)->(Alk cs cs' ws g)->(∀(d:Addr) (kvs:List (Key×V)) (F:List Nat) (H':Hp),Same H H'->H d=none->H' d=some (.dK kvs)->kvs.length=F.length->F.Nodup->(∀k,k∈F↔Rc cs ws k)->Q (.ref d) H')->spAlikeW vs H Q
noncomputable def PJ:Sp:=λvs H Q _=>spAlikeW vs H Q
theorem ok_law_alike(F:Fun Z "_law_alike" "_law_alike" s_law_alike f fd)(B:NoG mg)
  (F6:Cn P w Z mg base CX0 1 "_law_same" q5L (spSame 0))
  (JG:Cn P w Z mg base CX0 2 "_law_place" cyZ OZ)
  (AF:Cn P w Z mg base CX0 2 "_law_sort_alike" cvZ OS)
  (T9:Cn P w Z mg base CX0 1 "_law_parts" q2L OT):
  FnOk P w Z mg base CX0 3 f fd bOZ PJ:=by
 refine F.om sc_law_alike λc0 A bg s H vs Q E hr h=> ?_;obtain⟨ao,an,ac,bc,xs,ys,us,bf,cs,ct,ws,g,rfl,bw,ch,ci,bu,hX,hY,hU,bx,hO,hV,hn,hx,hG,q⟩:=h;have nd:=sc_law_alike.nd;have hu:=hr.units0;have zz:(4000:Nat)<=sizeLine:=by decide
 refine⟨_,(A9 (sS 4 nd Z5)
   (A9 (sS 5 nd Z5)
   (A9 (N3 (i:=6) nd rfl rfl (cS (N:=BR) (sc:=B6 s_law_alike) (caps:=[0,1]) (ns:=["_law_olds","_law_news"])) rfl rfl rfl (J2 rfl B.range_ (A0 (kL Z B.len_ (pv 0)) B4)) (λ_ _ _ _ _=>T0) (λ_ _ _ _ _=>(C3 (A0 (ixE Z w (pv 1) (pv 0)) (A0 (ixE Z w (pv 2) (pv 0)) B4)))))
   (A9 (D3 (Z9 PassesOwn.never (C0 aLZ (kL Z B.len_ (pv 6)) B0 rfl) (A9 (L8 (DL (Z:=Z) PySem.F.plainAttrs_list PySem.F.slot_list_pop PySem.F.type_list_pop Y0 (pv 6)) (DD rfl (L0 (gN 7 nd) (L0 (gN 8 nd) Z7))))
   (B5 (D3 (D2 (L9 (E9 (Z:=Z) (E3 (M4 (Z:=Z)) rfl B.isinstance_ C8 (A0 (pv 7) (A0 (F8 (v:=.ty "tuple") rfl B.tuple_ J6 rfl) B4))) (λ_=>rfl))) (B5 (D2 (L9 (E9 (Z:=Z) (cC F6 hr (A0 (pv 8) (A0 (pv 7) B4))) (λ_=>rfl))) (B5 (C2 K4)) C4)) (B5 (D2 (L9 (E9 (Z:=Z) (cC JG hr (A0 (pv 8) (A0 (kL Z B.len_ (pv 3)) B4))) (λ_=>rfl))) (B5 (C2 K4)) (B5 (D3 (D2 (PW.pt (R8 (C0 (IR hr.units) (ixE Z w (pv 7) B0) (pv 4) rfl) (O6 (C0 (IR hr.units) (ixE Z w (pv 8) B0) (pv 5) rfl)))) (A9 (L8 (ixE Z w (pv 8) B0) (N9 (pv 4) (ixE Z w (pv 7) B0) (V0 hr.units)))
   (A9 (L8 (ixE Z w (pv 7) B0) (N9 (pv 5) (ixE Z w (pv 8) B0) (V0 hr.units)))
   (A9 (sS 9 nd (ixE Z w (pv 2) (ixE Z w (pv 7) B0)))
   (A9 (sS 10 nd (ixE Z w (pv 3) (ixE Z w (pv 8) B0)))
   (A9 (D2 (L9 (E9 (Z:=Z) (cC AF hr (A0 (pv 9) (A0 (pv 10) B4))) (λ_=>rfl))) (B5 (C2 K4)) C4)
   (B5 (D3 (O1 PassesOwn.never rfl (J2 rfl B.range_ (A0 (kL Z B.len_ (cC T9 hr (A0 (pv 9) B4))) B4)) (gN 11 nd) (B5 (C5 (aP Z (pv 6) (C3 (A0 (ixE Z w (cC T9 hr (A0 (pv 9) B4)) (pv 11)) (A0 (ixE Z w (cC T9 hr (A0 (pv 10) B4)) (pv 11)) B4)))))))))))))) (B5 (D3 (D2 (PW.pt (P0 (C0 (kNe (Z:=Z) hu) (KU hr.u1 (pv 4) (ixE Z w (pv 7) B0) ⟨rfl,rfl,rfl,rfl⟩) (ixE Z w (pv 8) B0) rfl) (O0 (C0 (kNe (Z:=Z) hu) (KU hr.u1 (pv 5) (ixE Z w (pv 8) B0) ⟨rfl,rfl,rfl,rfl⟩) (ixE Z w (pv 7) B0) rfl)))) (B5 (C2 K4)) C4))))))))))))))
   (B5 (C2 (pv 5))))))), ?_⟩
 refine λd1 az=>λd2 ab=> ?_;have sA:=(A8 az (.dK [])).trans (A8 ab (.dK []));have h1:upd (upd H d1 (.dK [])) d2 (.dK []) d1=some (.dK []):=(A8 ab (.dK [])) _ _ A7;have h2:upd (upd H d1 (.dK [])) d2 (.dK []) d2=some (.dK []):=A7;have aa:H d2=none:=(A8 az (.dK [])).free ab;have bh:d1≠d2:=λe=>by subst e;rw[A7]at ab;cases ab
 generalize upd (upd H d1 (.dK [])) d2 (.dK [])=H1 at sA h1 h2⊢;have cb:=hX.len;have ca:=hY.len;rw[length_map]at ca;refine⟨_,rfl,_,_,rfl,.inl ⟨_,SqL.of (sA _ _ bw),rfl⟩,_,rfl,by omega,by omega,M2 (n:=xs.length) (λi zs H'=>Same H1 H'/\zs.length=i/\All2 (WAt g H') (ws.take i) zs) ⟨Same.refl _,rfl,.nil⟩ ?_ ?_ ?_⟩
 ·rintro i zs H' hi ⟨_,hl,_⟩;omega
 ·rintro i zs H' hi ⟨s1,hl,hA⟩;have e0:(0:Int)+(i:Nat)=((i:Nat):Int):=by omega
  have ax:i<ws.length:=by omega
  obtain⟨x,ar,aq⟩:=hX.get' (List.getElem?_eq_getElem ax);obtain⟨y,ap,am⟩:=hY.get' (show(ws.map (mp g))[i]? =some (mp g ws[i]) by rw[getElem?_map,List.getElem?_eq_getElem ax];rfl);have a1:atI xs (0+(i:Nat))=some x:=by rw[e0];exact D4 ar
  have a2:atI ys (0+(i:Nat))=some y:=by rw[e0];exact D4 ap
  refine AT ⟨_,rfl,_,rfl,.inl ⟨ao,xs,_,_,rfl,rfl,SqL.of (s1 _ _ (sA _ _ bw)),a1,_,rfl,_,rfl,.inl ⟨an,ys,_,_,rfl,rfl,SqL.of (s1 _ _ (sA _ _ ch)),a2,L5,λt ht=> ?_⟩⟩⟩;have st:=A8 ht (.tup [x,y]);refine⟨s1.trans st,by rw[length_append,hl];rfl, ?_⟩;rw[take_succ,List.getElem?_eq_getElem ax];have mx:=B9 (sA.trans (s1.trans st));exact(hA.imp λ_ _ z=>WAt.mo (B9 st) z).app (.cons ⟨t,x,y,rfl,A7,aq.mo mx,am.mo mx⟩ .nil)
 rintro zs H2 ⟨s2,cx,b1⟩ wl O;rw[<-cb,take_length]at b1;have sw:=A8 O (.lst zs);have bm:H wl=none:=sA.free (s2.free O);have al:d1≠wl:=λe=>by subst e;rw[s2 _ _ h1]at O;cases O
 have ak:d2≠wl:=λe=>by subst e;rw[s2 _ _ h2]at O;cases O
 have free:∀(a:Addr) (Hx:Hp) (o:HO),H a=none->Same H Hx->Same H (upd Hx a o):=λa Hx o ha hx b u h=>by rw[B7 (λe=>by subst e;rw[ha]at h;cases h)];exact hx _ _ h
 refine⟨fun σ H'=>∃a7 a8 a9 R L F,σ=stA ao an ac bc d1 d2 wl a7 a8 a9 R L/\Same H H'/\Dcs H' d1 d2 g F/\Wlk cs ws F [],⟨IA g H ao an ac bc d1 d2 wl cs ws,⟨_,none,none,none,none,none,[],ws,zs,rfl,sA.trans (s2.trans sw),⟨[],[],sw _ _ (s2 _ _ h1),sw _ _ (s2 _ _ h2),rfl,rfl,λk h=>(by cases h),λk h=>(by cases h)⟩,A7,b1.imp λ_ _ z=>WAt.mo (B9 sw) z,Wlk.start cs ws,rfl,by show ws.length<=1000+0;omega⟩, ?_⟩, ?_⟩
 ·rintro m σ H' ⟨a7,a8,a9,R,L,F,W,zs,rfl,s',bz,X,hA,l,rfl,cj⟩;have cz:=P9 cs.length F l.nd λk hk=>(l.f k hk).lt hO hV;rcases List.eq_nil_or_concat W with hW|⟨W',x,hW⟩
  ·subst hW;cases hA;exact⟨_,rfl,_,_,rfl,.inl ⟨_,SqL.of X,rfl⟩,_,_,rfl,rfl,_,rfl,ifF (by decide) ⟨a7,a8,a9,R,L,F,rfl,s',bz,l⟩⟩
  ·rw[List.concat_eq_append]at hW;subst hW;obtain⟨D,z,rfl,cq,b5⟩:=FO hA;have cc:(W'++ [x]).length=W'.length+1:=by rw[length_append];rfl
   rw[cc]at cj⊢;refine⟨_,rfl,_,_,rfl,.inl ⟨_,SqL.of X,rfl⟩,_,_,rfl,rfl,_,rfl,ifT (decide_eq_true (by rw[length_append];show(0:Int)<((D.length+1:Nat):Int);omega)) ?_⟩;refine⟨fun σ H2=>∃m',m'<(cs.length - F.length)*11+(W'.length+1)/\IA g H ao an ac bc d1 d2 wl cs ws m' σ H2,λ_ _ h=>h, ?_⟩;refine⟨_,rfl,.inl ⟨rfl,_,SqL.of X⟩,wl,_,z,rfl,rfl,X,by simp, ?_⟩;rw[dropLast_concat];have s3:=free wl H' (.lst D) bm s';have bb:Dcs (upd H' wl (.lst D)) d1 d2 g F:=bz.at (λo h=>upd_at h al) λo h=>upd_at h ak;have au:upd H' wl (.lst D) wl=some (.lst D):=A7;have m3:Mo H' (upd H' wl (.lst D)):=λb zs e=>upd_at e (W4 e X (by intro z;cases z));have bd:=cq.imp λ_ _ z=>WAt.mo m3 z;have bk:=WAt.mo m3 b5;generalize upd H' wl (.lst D)=H3 at s3 bb au bd bk⊢;obtain⟨p,xo,xn,rfl,hp,bi,bj⟩:=bk;refine⟨p,_,rfl,SqT.of hp,rfl,_,_,rfl,_,_,rfl,rfl, ?_⟩;refine⟨_, ?_,λ_ _ h=>h⟩;have S:∀H4,Same H3 H4->(∀k,x=.cell k->k∈F)->∃m',m'<(cs.length - F.length)*11+(W'.length+1)/\IA g H ao an ac bc d1 d2 wl cs ws m' (stA ao an ac bc d1 d2 wl (some xo) (some xn) a9 R L) H4:=λH4 s4 cf=>
    ⟨_,lt_succ_self _,_,_,_,_,_,F,W',D,rfl,s3.trans s4,bb.at (λo h=>s4 _ _ h) (λo h=>s4 _ _ h),s4 _ _ au,bd.imp λ_ _ z=>WAt.mo (B9 s4) z,l.drop cf,rfl,by omega⟩
   cases x with
   |sc v=>
    obtain⟨rfl,hs⟩:=bi;obtain⟨rfl,_⟩:=bj;have cr:c9Z (c6Z (dzZ Z (WA (spSame 0) [] E0 (JZ (tVar 8) (JZ (tVar 7) W2))))) (dwZ (tC V.non)) aOZ {nx:=fun σ H2=>∃m',m'<(cs.length - F.length)*11+(W'.length+1)/\IA g H ao an ac bc d1 d2 wl cs ws m' σ H2,rt:=Q} (stA ao an ac bc d1 d2 wl (some xn) (some xn) a9 R L) H3:=
     ⟨_,rfl,_,rfl,_,_,rfl,.inl ⟨ND hs,rfl⟩,λH4 s4=>⟨true,rfl,ifF nZ (S H4 s4 λk e=>by cases e)⟩⟩
    obtain⟨t,ht,b3⟩:=KG (Z:=Z) (H:=H3) (ND hs);refine⟨_,rfl,_,_,t,_,rfl,ht,b3.tu,false,rfl,ifT rfl ?_⟩;exact cr
   |cell k=>
    obtain⟨po,rfl,ah⟩:=bi;obtain⟨pn,rfl,ai⟩:=bj;have ae:Rc cs ws k:=l.w k (mem_append_right _ (mem_singleton.mpr rfl));have aw:k<cs.length:=ae.lt hO hV;have cy:g k<ct.length:=hG.lt ae aw;have cw:=bx.len;refine⟨_,rfl,_,_,_,_,rfl,.tup ah,U9,true,rfl,ifF nZ ?_⟩;refine⟨_,rfl,_,rfl,_,_,rfl,.inl ⟨_,SqL.of (s3 _ _ bu),rfl⟩,pn,g k,bf.length,rfl,ai,by omega,λH4 s4=>⟨true,rfl,ifF nZ ?_⟩⟩;have r:=s4 _ _ ah;have I:=s4 _ _ ai;have cm:Dcs H4 d1 d2 g F:=bb.at (λo h=>s4 _ _ h) (λo h=>s4 _ _ h);obtain⟨G,C,d,J,aj,Y,bq,bp⟩:=cm;refine⟨_, ?_,λ_ _ h=>h⟩;by_cases hk:k∈F
    ·have e1:=bq k hk;have e2:=bp k hk;refine⟨_,rfl,(ixT r rfl ⟨_,rfl,d1,_,rfl,DGet.k (k:=.inl (k:Int)) d,_,rfl, ?_⟩)⟩;rw[e1];refine ifF nZ (ifF nZ ?_);refine⟨_, ?_,λ_ _ h=>h⟩;refine⟨_,rfl,d1,rfl,.inl ⟨_,.inl d⟩,_,rfl,(ixT r rfl ⟨_,DGet.k (k:=.inl (k:Int)) d,_,rfl,(ixT I rfl ?_)⟩)⟩;rw[e1];refine .inl ⟨rfl,_,rfl,ifF (by simp) ?_⟩;refine⟨_,rfl,d2,rfl,.inl ⟨_,.inl J⟩,_,rfl,(ixT I rfl ⟨_,DGet.k (k:=.inl (g k:Int)) J,_,rfl,(ixT r rfl ?_)⟩)⟩;rw[e2];refine .inl ⟨rfl,_,rfl,ifF (by simp) ?_⟩;exact S H4 s4 λj e=>by cases e;exact hk
    ·have cg:g k∉F.map g:=λh=>by
      obtain⟨j,hj,e⟩:=mem_map.mp h;have:=hG.inj j k (l.f j hj) ae e;subst this;exact hk hj
     have n1:=KD aj hk;have n2:=KD Y cg;have ck:F.length<cs.length:=by
      have:=P9 cs.length (F++ [k]) (HY l.nd hk) λj hj=>by
       rcases M6 hj with rfl|hj
       ·exact aw
       ·exact(l.f j hj).lt hO hV
      rw[length_append]at this;exact this
     have l1:=DO aj;have l2:=DO Y;rw[length_map]at l2;refine⟨_,rfl,(ixT r rfl ⟨_,rfl,d1,_,rfl,DGet.k (k:=.inl (k:Int)) d,_,rfl, ?_⟩)⟩;rw[n1];refine ifT rfl ⟨_,rfl,(ixT I rfl ⟨_,rfl,d2,_,rfl,DGet.k (k:=.inl (g k:Int)) J,_,rfl, ?_⟩)⟩;rw[n2];refine ifT rfl ⟨_,rfl,(ixT I rfl ⟨_,rfl,_,rfl,(ixT r rfl ⟨d1,_,rfl,DPut.k (k:=.inl (k:Int)) d (by omega), ?_⟩)⟩)⟩;rw[Q7 _ n1];have s5:=free d1 H4 (.dK (G++ [(.inl (k:Int),.int (g k:Nat))])) az (s3.trans s4);have bs:upd H4 d1 (.dK (G++ [(.inl (k:Int),.int (g k:Nat))])) d1=some (.dK (G++ [(.inl (k:Int),.int (g k:Nat))])):=A7;have a6:=upd_at (o':=.dK (G++ [(.inl (k:Int),.int (g k:Nat))])) J (Ne.symm bh);have bo:=upd_at (o':=.dK (G++ [(.inl (k:Int),.int (g k:Nat))])) (s4 _ _ au) (Ne.symm al);have m5:Mo H3 (upd H4 d1 (.dK (G++ [(.inl (k:Int),.int (g k:Nat))]))):=λb zs e=>upd_at (s4 _ _ e) (W4 (s4 _ _ e) d (by intro z;cases z));show K0 _ _ _ _ (upd H4 d1 (.dK (G++ [(.inl (k:Int),.int (g k:Nat))])));generalize upd H4 d1 (.dK (G++ [(.inl (k:Int),.int (g k:Nat))]))=H5 at s5 bs a6 bo m5⊢;refine⟨_,rfl,(ixT (m5 _ _ ah) rfl ⟨_,rfl,_,rfl,(ixT (m5 _ _ ai) rfl ⟨d2,_,rfl,DPut.k (k:=.inl (g k:Int)) a6 (by omega), ?_⟩)⟩)⟩;rw[Q7 _ n2];have s6:=free d2 H5 (.dK (C++ [(.inl (g k:Int),.int (k:Nat))])) aa s5;have bv:upd H5 d2 (.dK (C++ [(.inl (g k:Int),.int (k:Nat))])) d2=some (.dK (C++ [(.inl (g k:Int),.int (k:Nat))])):=A7;have br:=upd_at (o':=.dK (C++ [(.inl (g k:Int),.int (k:Nat))])) bs bh;have bn:=upd_at (o':=.dK (C++ [(.inl (g k:Int),.int (k:Nat))])) bo (Ne.symm ak);have m6:Mo H3 (upd H5 d2 (.dK (C++ [(.inl (g k:Int),.int (k:Nat))]))):=λb zs e=>upd_at (m5 _ _ e) (W4 (m5 _ _ e) a6 (by intro z;cases z));show K0 _ _ _ _ (upd H5 d2 (.dK (C++ [(.inl (g k:Int),.int (k:Nat))])));generalize upd H5 d2 (.dK (C++ [(.inl (g k:Int),.int (k:Nat))]))=H6 at s6 br bv bn m6⊢;have cl:Dcs H6 d1 d2 g (F++ [k]):=⟨_,_,br,bv,FW aj _ _,by have z:=FW Y (g k) (.int (k:Nat));rw[show F.map g++ [g k]=(F++ [k]).map g by rw[map_append];rfl]at z;exact z,FU (a:=λj=>j) (b:=g) bq n1 (λj hj e=>hk (e▸hj)),FU (a:=g) (b:=λj=>j) bp n2 λj hj e=>hk (by have:=hG.inj j k (l.f j hj) ae e;subst this;exact hj)⟩;have b0:=bd.imp λ_ _ z=>WAt.mo m6 z;obtain⟨c,a4⟩:∃c,cs[k]? =some c:=⟨_,List.getElem?_eq_getElem aw⟩;obtain⟨u,b7,a0⟩:=hU.get' a4;have a3:=hG.at_ k c ae a4;obtain⟨u',av,ad⟩:=bx.get' a3;have bt:=a0.mo (B9 s6);have a5:=ad.mo (B9 s6);refine⟨_,rfl,_,rfl,(ixT (m6 _ _ ah) rfl (.inl ⟨ac,us,_,_,rfl,rfl,SqL.of (s6 _ _ ci),D4 b7, ?_⟩))⟩;refine⟨_,rfl,_,rfl,(ixT (m6 _ _ ai) rfl (.inl ⟨bc,bf,_,_,rfl,rfl,SqL.of (s6 _ _ bu),D4 av, ?_⟩))⟩;refine⟨_,rfl,_,rfl,c,g,u,u',rfl,bt,a5,λH7 s7=>⟨true,rfl,ifF nZ ?_⟩⟩;have ce:(vin c).length<=10:=by
      cases c with
      |pair a b=>show 2<=10;decide
      |fn n vs=>obtain⟨_,_,_,_,_,_,_,h⟩:=a0;exact h
     refine⟨_, ?_,λ_ _ h=>h⟩;refine⟨_,rfl,c,u,rfl,bt.mo (B9 s7),λl8 b2 H8 s8 _ cd cp=> ?_⟩;have b6:=cp.len;have cu:=b0.len;have U:=s7.trans s8;refine⟨_,_,rfl,.inl ⟨_,SqL.of cd,rfl⟩,_,rfl,by omega,by omega,Q9 (n:=b2.length) (λi σ H'=>∃L M,σ=stA ao an ac bc d1 d2 wl (some (.ref po)) (some (.ref pn)) (some u) (some u') L/\Same H H'/\Dcs H' d1 d2 g (F++ [k])/\H' wl=some (.lst M)/\All2 (WAt g H') (W'++(vin c).take i) M) ?_ ?_ ?_⟩
     ·exact⟨L,D,rfl,s6.trans U,cl.at (λo h=>U _ _ h) (λo h=>U _ _ h),U _ _ bn,by rw[List.take_zero,append_nil];exact b0.imp λ_ _ z=>WAt.mo (B9 U) z⟩
     ·rintro i σ H9 hi ⟨be,M,rfl,s9,ba,ag,af⟩;have e0:(0:Int)+(i:Nat)=((i:Nat):Int):=by omega
      have ay:i<(vin c).length:=by omega
      have b4:=af.len;have cv:(W'++(vin c).take i).length<=W'.length+10:=by rw[length_append,length_take];omega
      refine⟨_,rfl,.inl ⟨rfl,_,SqL.of ag⟩, ?_⟩;refine⟨_,rfl,c,u,rfl,a0.mo (B9 s9),λla xa Ha sa _ b9 co=> ?_⟩;obtain⟨x,ar,aq⟩:=co.get' (List.getElem?_eq_getElem ay);refine⟨_,rfl,.inl ⟨la,xa,_,_,rfl,rfl,SqL.of b9,by rw[e0];exact D4 ar, ?_⟩⟩;refine⟨_,rfl,mpc g c,u',rfl,ad.mo (B9 (s9.trans sa)),λlb xb Hb sb _ b8 cn=> ?_⟩;obtain⟨y,ap,am⟩:=cn.get' (show(vin (mpc g c))[i]? =some (mp g (vin c)[i]) by rw[V4,getElem?_map,List.getElem?_eq_getElem ay];rfl);refine⟨_,rfl,.inl ⟨lb,xb,_,_,rfl,rfl,SqL.of b8,by rw[e0];exact D4 ap,L5,λt ht=> ?_⟩⟩;have st:=A8 ht (.tup [x,y]);have T:=sa.trans (sb.trans st);have bl:=T _ _ ag;refine⟨wl,M,_,rfl,rfl,bl,by omega, ?_⟩;have mt:Mo (upd Hb t (.tup [x,y])) (upd (upd Hb t (.tup [x,y])) wl (.lst (M++ [.ref t]))):=λb zs e=>upd_at e (W4 e bl (by intro z;cases z));refine⟨_,M++ [.ref t],rfl,free wl _ _ bm (s9.trans T),(ba.at (λo h=>T _ _ h) (λo h=>T _ _ h)).at (λo h=>upd_at h al) (λo h=>upd_at h ak),A7, ?_⟩;rw[take_succ,List.getElem?_eq_getElem ay,<-List.append_assoc];exact(af.imp λ_ _ z=>WAt.mo mt (WAt.mo (B9 T) z)).app (.cons ⟨t,x,y,rfl,mt _ _ A7,(aq.mo (B9 (sb.trans st))).mo mt,(am.mo (B9 st)).mo mt⟩ .nil)
     ·rintro σ H9 ⟨be,M,rfl,s9,ba,ag,af⟩;rw[<-b6,take_length]at af;refine⟨(cs.length - (F++ [k]).length)*11+(W'++vin c).length, ?_,_,_,_,_,_,F++ [k],W'++vin c,M,rfl,s9,ba,ag,af,l.add hk a4,rfl, ?_⟩
      ·rw[length_append,length_append];show(cs.length - (F.length+1))*11+(W'.length+(vin c).length)<_;omega
      ·rw[length_append,length_append];show W'.length+(vin c).length<=1000+10*(F.length+1);omega
 rintro σ H' ⟨a7,a8,a9,R,L,F,rfl,s',⟨G,C,aj,Y,e1,e2,_,_⟩,l⟩;refine⟨_,rfl,q d2 C F H' s' aa Y (by rw[DO e2,length_map]) l.nd λk=>l.done k⟩
end
end _S
namespace _K
open PySem _L _C _S _M _T
open _B hiding ifT ifF NoG top
open _P (z1 z2 z3)
seal PE PT PW PA PS PSs PTs PI _L._P PGs PO
noncomputable abbrev s_law_values:Stmt:=_C.top 55
noncomputable abbrev s_law_shape:Stmt:=_C.top 56
noncomputable abbrev IW:List Str:=["_law_frames","_law_found","_law_frame"]
theorem sc_law_values:FnScope IW q7L (B6 s_law_values):=fS
noncomputable abbrev BL:List Str:=["_law_frames"]
theorem sc_law_shape:FnScope BL q7L (B6 s_law_shape):=fS
noncomputable def ShAt(H:Hp)(f:Fr)(u:V):Prop:=∃p,u=.ref p/\H p=some (.tup [.int (f.k:Nat),.int (f.at_:Nat),.int (f.sl.length:Nat),.int (f.st.length:Nat)])
theorem ShAt.same(s:Same H H')(h:ShAt H f u):ShAt H' f u:=let⟨p,e,h1⟩:=h;⟨p,e,s _ _ h1⟩
section
inductive spValuesW(vs:List V)(H:Hp)(Q:VK):Prop
 |mk:∀(lf:Addr) (fs:List V) (frs:List Fr),(vs=[.ref lf])->(H lf=some (.lst fs))->(All2 (FAt H) frs fs)->((hangs none frs).length<=1000)->(∀l xs H',Same H H'->H l=none->H' l=some (.lst xs)->All2 (VAt H') (hangs none frs) xs->Q (.ref l) H')->spValuesW vs H Q
noncomputable def LG:Sp:=λvs H Q _=>spValuesW vs H Q
theorem ok_law_values(F:Fun Z "_law_values" "_law_values" s_law_values f fd):FnOk P w Z mg base CX0 1 f fd q7L LG:=by
 refine F.om sc_law_values λr A g s H vs Q E hr h=> ?_;obtain⟨lf,fs,a,rfl,m,hF,hl,q⟩:=h;have nd:=sc_law_values.nd;have hu:=hr.units0;have zz:(4000:Nat)<=sizeLine:=by decide
 refine⟨_,(A9 (sS 1 nd (E7 B4))
   (A9 (D3 (O1 PassesOwn.never rfl (P7 (Z:=Z) (pv 0)) (gN 2 nd) (A9 (C5 (RO (Z:=Z) PySem.F.plainAttrs_list PySem.F.slot_list_extend PySem.F.type_list_extend (V7 (Z:=Z)) (pv 1) (A0 (ixE Z w (pv 2) B0) B4)))
   (B5 (C5 (RO (Z:=Z) PySem.F.plainAttrs_list PySem.F.slot_list_extend PySem.F.type_list_extend (V7 (Z:=Z)) (pv 1) (A0 (ixE Z w (pv 2) B0) B4)))))))
   (B5 (C2 (pv 1))))), ?_⟩
 refine⟨zero_le _,λl d=> ?_⟩;have s1:=A8 d (.lst []);have x1:upd H l (.lst []) l=some (.lst []):=A7;show K0 _ _ _ [some (.ref lf),some (.ref l),none] _;generalize upd H l (.lst [])=H1 at s1 x1⊢;have lF:=hF.len;refine⟨fun σ' H'=>∃x2 xs,σ'=[some (.ref lf),some (.ref l),x2]/\Same H H'/\H' l=some (.lst xs)/\All2 (VAt H') (hangs none a) xs, ?_, ?_⟩
 ·refine⟨_,rfl,lf,rfl,⟨_,SqL.of (s1 _ _ m)⟩,Q5 (xs:=fs) (λi σ' H'=>∃x2 xs,σ'=[some (.ref lf),some (.ref l),x2]/\Same H H'/\H' l=some (.lst xs)/\All2 (VAt H') (hangs none (a.take i)) xs) ⟨none,[],rfl,s1,x1,.nil⟩ ?_ ?_ ?_⟩
  ·rintro i σ' H' _ ⟨x2,xs,rfl,s',_⟩;exact SqL.of (s' _ _ m)
  ·rintro i x σ' H' hx ⟨x2,xs,rfl,s',c,hA⟩;obtain⟨fr,n,p,sl,st,rfl,⟨q1,e1,h1,h2,h3⟩,k,j⟩:=hF.get hx;have eh:hangs none (a.take (i+1))=hangs none (a.take i)++(fr.sl++fr.st):=by
    show(a.take (i+1)).flatMap _=(a.take i).flatMap _++_;rw[take_succ,n,flatMap_append];show _++(fr.sl++fr.st++ [])=_;rw[append_nil]
   have le:(hangs none (a.take (i+1))).length<=1000:=by
    refine le_trans ?_ hl;show((a.take (i+1)).flatMap _).length<=(a.flatMap _).length
    conv=>rhs;rw[<-take_append_drop (i+1) a,flatMap_append,length_append]
    exact le_add_right _ _
   rw[eh,length_append,length_append]at le;have lA:=hA.len;have l1:=k.len;have l2:=j.len;have k1:∀ {Hx:Hp} (o:HO),Same H Hx->Same H (upd Hx l o):=λo sx b ob e=>by rw[B7 (C6 e d)];exact sx _ _ e
   have m1:Mo H' (upd H' l (.lst (xs++sl))):=λb zs e=>by rw[B7 λz=>by rw[z,c]at e;cases e];exact e
   have m2:Mo (upd H' l (.lst (xs++sl))) (upd (upd H' l (.lst (xs++sl))) l (.lst (xs++sl++st))):=λb zs e=>by rw[B7 λz=>by rw[z,A7]at e;cases e];exact e
   refine⟨_,rfl,.inl ⟨rfl,_,SqL.of c⟩,_,rfl,(ixT (s' _ _ h1) rfl ⟨l,q1,_,sl,rfl,rfl,c,SqT.of (s' _ _ h2),by omega, ?_⟩)⟩;have sa:=k1 (.lst (xs++sl)) s';refine⟨_,rfl,.inl ⟨rfl,_,SqL.of A7⟩,_,rfl,(ixT (sa _ _ h1) rfl ⟨l,e1,_,st,rfl,rfl,A7,SqT.of (sa _ _ h3),by rw[length_append];omega, ?_⟩)⟩;refine⟨_,_,rfl,k1 _ sa,A7, ?_⟩;rw[eh,List.append_assoc];have mm:Mo H' (upd (upd H' l (.lst (xs++sl))) l (.lst (xs++sl++st))):=λb zs e=>m2 _ _ (m1 _ _ e);have mH:Mo H (upd (upd H' l (.lst (xs++sl))) l (.lst (xs++sl++st))):=λb zs e=>mm _ _ (s' _ _ e);rw[List.append_assoc]at mm mH;exact(hA.imp λ_ _ z=>VAt.mo mm z).app ((k.imp λ_ _ z=>VAt.mo mH z).app (j.imp λ_ _ z=>VAt.mo mH z))
  ·rintro σ' H' ⟨x2,xs,rfl,s',c,hA⟩;rw[<-lF,take_length]at hA;exact⟨x2,xs,rfl,s',c,hA⟩
 rintro _ H2 ⟨x2,xs,rfl,s2,c,hA⟩;exact⟨_,rfl,q l xs H2 s2 d c hA⟩
inductive spShapeW (vs:List V) (H:Hp) (Q:VK):Prop
 |mk:∀(lf:Addr) (fs:List V) (frs:List Fr),(vs=[.ref lf])->(H lf=some (.lst fs))->(All2 (FAt H) frs fs)->(frs.length<=1000)->(∀l ts H',Same H H'->H' l=some (.lst ts)->All2 (ShAt H') frs ts->Q (.ref l) H')->spShapeW vs H Q
noncomputable def OI:Sp:=λvs H Q _=>spShapeW vs H Q
theorem ok_law_shape(F:Fun Z "_law_shape" "_law_shape" s_law_shape f fd)(B:NoG mg):FnOk P w Z mg base CX0 1 f fd q7L OI:=by
 refine F.om sc_law_shape λj A a s H vs Q E hr h=> ?_;obtain⟨lf,fs,g,rfl,b,hF,hl,q⟩:=h;have nd:=sc_law_shape.nd;have hu:=hr.units0;have zz:(4000:Nat)<=sizeLine:=by decide
 have lF:=hF.len;refine⟨_,(B5 (C2 (CT (cS (N:=BL) (sc:=B6 s_law_shape) (caps:=[]) (ns:=[])) rfl rfl rfl (P7 (Z:=Z) (pv 0)) (λ_ _ _ _ _=>T0) (λ_ _ _ _ _=>(C3 (A0 (ixE Z w (pv 0) B0) (A0 (ixE Z w (pv 0) B0) (A0 (kL Z B.len_ (ixE Z w (pv 0) B0)) (A0 (kL Z B.len_ (ixE Z w (pv 0) B0)) B4))))))))), ?_⟩;refine⟨_,rfl,lf,rfl,⟨_,SqL.of b⟩,AK (xs:=fs) (λi ys H'=>Same H H'/\All2 (ShAt H') (g.take i) ys) ⟨Same.refl _,.nil⟩ ?_ ?_ ?_⟩
 ·rintro i ys H' hi ⟨s',hA⟩;have:=hA.len;rw[length_take]at this;exact⟨SqL.of (s' _ _ b),by omega⟩
 ·rintro i x ys H' hx ⟨s',hA⟩;obtain⟨fr,e,p,sl,st,rfl,⟨q1,e1,h1,h2,h3⟩,d,c⟩:=hF.get hx;have g1:=s' _ _ h1;refine AT ⟨_,rfl,(ixT g1 rfl ⟨_,rfl,(ixT g1 rfl ⟨_,rfl,(ixT g1 rfl ⟨_,_,rfl,.inr ⟨_,SqT.of (s' _ _ h2),rfl⟩,_,rfl,(ixT g1 rfl ⟨_,_,rfl,.inr ⟨_,SqT.of (s' _ _ h3),rfl⟩,GS,λt ht=> ?_⟩)⟩)⟩)⟩)⟩;have s2:=A8 ht (.tup [.int (fr.k:Nat),.int (fr.at_:Nat),.int (sl.length:Nat),.int (st.length:Nat)]);refine⟨s'.trans s2, ?_⟩;rw[take_succ,e];exact(hA.imp λ_ _ z=>z.same s2).app (.cons ⟨t,rfl,by rw[A7,d.len,c.len]⟩ .nil)
 ·rintro ys H' ⟨s',hA⟩ D hD;rw[<-lF,take_length]at hA;have sD:=A8 hD (.lst ys);exact q D ys _ (s'.trans sD) A7 (hA.imp λ_ _ z=>z.same sD)
end
end _K
namespace _R
open PySem _L _C _S _M _T
open _B hiding ifT ifF NoG top
seal PE PT PW PA PS PSs PTs PI _L._P PGs PO
theorem UC(hT:Tb H Pt){b:Addr}(h:H b=some (.ins C dx fs)):b≠Pt:=λz=>by
 obtain⟨qs,e1,_⟩:=hT;rw[z,e1]at h;cases h
structure MD (CM C:Addr) (H:Hp) (A:Ad) (bs:List Bk) (most:Nat) (S:Ms) (vb us fs:List V) (out:V):Prop where
 r:MR CM C H A vb us fs (most:Nat) out (S.r:Nat) (S.c:Nat)
 b:All2 (BAt H) bs vb
 c:All2 (ClAt H) S.cs us
 f:All2 (FAt H) S.frs fs
 o:OAt H S.out out
 v:a7Z S
section
theorem MD.at_(h:MD CM C H A bs most S vb us fs out):MAt CM C H A bs most S:=⟨vb,us,fs,out,h.r,h.b,h.c,h.f,h.o⟩
noncomputable def KPt(Pt:Addr)(H H':Hp):Prop:=∀b ob,H b=some ob->b≠Pt->H' b=some ob
theorem KPt.refl(Pt:Addr)(H:Hp):KPt Pt H H:=λ_ _ e _=>e
theorem KPt.of(s:Same H H'):KPt Pt H H':=λ_ _ e _=>s _ _ e
theorem KPt.trans(a:KPt Pt H1 H2)(b:KPt Pt H2 H3):KPt Pt H1 H3:=λx o e n=>b _ _ (a _ _ e n) n
theorem KPt.mo(hT:Tb H Pt)(k:KPt Pt H H'):Mo H H':=λb xs e=>k _ _ e (_P.tb_tup hT e)
theorem KPt.free{x:Addr}(k:KPt Pt H H')(hx:H' x=none)(n:x≠Pt):H x=none:=by
 cases e:H x with
 |none=>rfl
 |some ob=>rw[k _ _ e n]at hx;cases hx
theorem IF{x:Addr}(hT:Tb H Pt)(hx:H x=none):x≠Pt:=λz=>by
 obtain⟨qs,e1,_⟩:=hT;rw[z,e1]at hx;cases hx
theorem MD.pt(h:MD CM C H A bs most S vb us fs out)(hT:Tb H Pt)(k:KPt Pt H H'):MD CM C H' A bs most S vb us fs out:=by
 have m:=k.mo hT;obtain⟨dx,ho,hL⟩:=h.r.o;exact⟨⟨k _ _ h.r.m (UC hT h.r.m),k _ _ h.r.bl (_P.tb_lst hT h.r.bl),⟨dx,k _ _ ho (UC hT ho),k _ _ hL (_P.tb_lst hT hL)⟩,k _ _ h.r.s (_P.tb_lst hT h.r.s),h.r.nLs,h.r.nbs,h.r.nbL⟩,h.b.imp λ_ _ z=>BAt.mo m z,h.c.imp λ_ _ z=>ClAt.mo m z,h.f.imp λ_ _ z=>FAt.mo m z,h.o.mo m,h.v⟩
end
end _R
namespace _R
open PySem _L _C _S _M _T
open _B hiding ifT ifF NoG top
open _P (z1 z2 z3 P3)
seal PE PT PW PA PS PSs PTs PI _L._P PGs PO
noncomputable def ML(H H':Hp):Prop:=Mo H H'/\∀b xs,H b=some (.lst xs)->H' b=some (.lst xs)
theorem KPt.ml(hT:Tb H Pt)(k:KPt Pt H H'):ML H H':=⟨k.mo hT,λb xs e=>k _ _ e (_P.tb_lst hT e)⟩
theorem AnsV.ml(h:AnsV H0 H S u)(m:ML H H'):AnsV H0 H' S u:=by
 unfold AnsV at h⊢;cases e:S.out with
 |none=>rw[e]at h;exact h
 |some o=>
  rw[e]at h;cases o with
  |value x=>
   obtain⟨t,p,r,h1,h2,h3,h4⟩:=h;exact⟨t,p,r,h1,h2,m.1 _ _ h3,(_Q.R.mono λa xs ho e=>⟨m.2 _ _ e,ho⟩).1 h4⟩
  |refused w=>exact OAt.mo m.1 h
  |dry=>exact OAt.mo m.1 h
  |deep=>exact OAt.mo m.1 h
end _R
namespace _R
open PySem _L _C _S _M _T
open _k (lg spSameD DqS)
open _P (z1 z2 z3)
open _B hiding ifT ifF NoG top
seal PE PT PW PA PS PSs PTs PI _L._P PGs PO
theorem UM{r:V}(h:_P.Ip p)(hr:(_Q.R ok H p).1 r):V8 r=true:=by
 rcases h with⟨i,rfl⟩|⟨b,rfl⟩
 ·have e:r=.int i:=hr;rw[e];rfl
 ·have e:r=.bl b:=hr;rw[e];rfl
theorem MO{r:V}(h:_P.Lp N G p)(hr:(_Q.R ok H p).1 r):∃a rs,r=.ref a/\H a=some (.lst rs)/\ok a/\rs.length<=N/\All2 (λt r=>(_Q.R ok H t).1 r) (_Q.heads p) rs:=by
 have hl:=h.2.1;rcases h.1 with rfl|⟨x,t,rfl⟩
 ·obtain⟨a,e,ha,o⟩:=hr;exact⟨a,[],e,ha,o,zero_le _,.nil⟩
 ·obtain⟨a,r1,rs,e,ha,o,h2,h3⟩:=hr;have hA:All2 (λt r=>(_Q.R ok H t).1 r) (_Q.heads (.cons x t)) (r1::rs):=.cons h2 (_Q.R.items h3);exact⟨a,r1::rs,e,ha,o,by rw[<-hA.len];exact hl,hA⟩
theorem T2{Q:VK}(hM:MD CM C H A bs most S vb us fs out)(hT:Tb H Pt)(q:∀u H',KPt Pt H H'->Tb H' Pt->AnsV H H' S u->Q u H'):U7 CM C Pt [.ref A.m] H Q X:=by
 refine⟨A,bs,most,S,rfl,hM.at_, ?_⟩;cases e:S.out with
 |none=>
  refine .inr ⟨rfl,λu hu=>q _ _ (.refl _ _) hT ?_⟩;unfold AnsV;rw[e];exact hu
 |some o=>
  cases o with
  |value x=>
   obtain⟨t,ht,b,_⟩:=hM.v x e;refine .inl ⟨x,t,rfl,ht,b,hT,λp r H1 H' k1 c hR hp eH=> ?_⟩;subst eH;have s1:=A8 hp (.tup [.str "value",r]);refine q _ _ (KPt.trans k1 (.of s1)) (_P.tb_same c s1) ?_;unfold AnsV;rw[e];exact⟨t,p,r,ht,rfl,A7,(_Q.R.mono λa xs ho e=>⟨s1 _ _ e,ho⟩).1 hR⟩
  |refused w0=>
   refine .inr ⟨rfl,λu hu=>q _ _ (.refl _ _) hT ?_⟩;unfold AnsV;rw[e];exact hu
  |dry=>
   refine .inr ⟨rfl,λu hu=>q _ _ (.refl _ _) hT ?_⟩;unfold AnsV;rw[e];exact hu
  |deep=>
   refine .inr ⟨rfl,λu hu=>q _ _ (.refl _ _) hT ?_⟩;unfold AnsV;rw[e];exact hu
end _R
namespace _R
open PySem _L _C _S _M _T _P
open _B hiding ifT ifF NoG top
theorem IM{N M:Nat}(h:N<=M){G G':_Q.Pv->Prop}(g:∀p,G p->G' p){p:_Q.Pv}(z:Lp N G p):Lp M G' p:=⟨z.1,le_trans z.2.1 h,λx hx=>g x (z.2.2 x hx)⟩
theorem acZ{N M:Nat}(h:N<=M):∀ {k:Kd} {p:_Q.Pv},KP N k p->KP M k p
 | .n,_,z=>z
 | .t,_,z=>z
 | .l,_,z=>IM h (λ_ y=>y) z
 | .L,_,z=>IM h (λ_ y=>IM h (λ_ x=>x) y) z
 | .F,_,z=>z.elim
 | .fn _,_,z=>z.elim
section
end
end _R
namespace _K
open PySem _L _C _S _M _T _R
open _k(DqS)
open _B hiding ifT ifF NoG top
structure GdT(T:Tm):Prop where
 he:T.out≠none->T.frs=[]
 n63:T.n<=63
 len:(cTZ T).length<=1000
 frs:T.frs.length<=60
 fr:∀f∈T.frs,f.sl.length<=100/\f.st.length<=100
 val:∀t,T.out=some (.value t)->∃p k,t=Q0 p/\_Q.size p<=400000/\_P.KP 200 k p
theorem YM(h:Sim S T)(g:GdT T):(∃ts,All2 (V1 S.cs) ts (hangs S.out S.frs))/\(hangs S.out S.frs).length<=1000:=by
 have ho:=h.out;have hh:=EM h.frs;have a:U1 S.out=false->(∃ts,All2 (V1 S.cs) ts (hangs S.out S.frs))/\(hangs S.out S.frs).length<=1000:=λhv=>by
  rw[AA hv];exact⟨⟨_,hh⟩,by rw[<-hh.len];exact g.len⟩
 cases e:T.out with
 |none=>rw[e]at ho;exact a (by rw[show S.out=none from ho];rfl)
 |some o=>
  rw[e]at ho;cases o with
  |value t=>
   obtain⟨x,ex,hx⟩:=ho;rw[ex];exact⟨⟨[t],.cons hx .nil⟩,(by decide:1<=1000)⟩
  |refused w=>exact a (by rw[show S.out=_ from ho];rfl)
  |dry=>exact a (by rw[show S.out=_ from ho];rfl)
  |deep=>exact a (by rw[show S.out=_ from ho];rfl)
theorem S9(h:Sim S T)(z:T.frs=[]):S.frs=[]:=List.eq_nil_of_length_eq_zero (by rw[<-h.frs.len,z];rfl)
theorem PZ(h:Sim S T)(g:GdT T):Tidy S:=by
 obtain⟨⟨ts,a⟩,hl⟩:=YM h g;have hV:Okv S.cs.length (hangs S.out S.frs):=MM a;exact⟨λz=>S9 h (g.he λy=>z ((Q8 h).mpr y)),h.okc,hV,λks nd hr=>le_trans (P9 S.cs.length ks nd λk hk=>Rc.lt h.okc hV (hr k hk)) (le_trans h.n g.n63),hl⟩
theorem Q1(h:Sim S T)(g:GdT T):Small S:=by
 refine⟨le_trans h.n (le_trans g.n63 (by decide)),by rw[<-h.frs.len];exact g.frs,λf hf=> ?_⟩;obtain⟨i,hi⟩:=getElem?_of_mem hf;obtain⟨t,ht,hs⟩:=h.frs.get hi;have:=g.fr t (mem_of_getElem? ht);exact⟨by rw[<-hs.sl.len];exact this.1,by rw[<-hs.st.len];exact this.2⟩
theorem DY(h:Sim S T)(g:GdT T):a7Z S:=by
 intro x e;have ho:=h.out;cases eT:T.out with
 |none=>rw[eT]at ho;rw[show S.out=none from ho]at e;cases e
 |some o=>
  rw[eT]at ho;cases o with
  |value t=>
   obtain⟨x',ex,hx⟩:=ho;rw[ex]at e;injection e with e
   injection e with e
   subst e;obtain⟨p,k,rfl,hs,hK⟩:=g.val t eT;exact⟨p,X5 hx,hs,k,hK⟩
  |refused w=>rw[show S.out=_ from ho]at e;cases e
  |dry=>rw[show S.out=_ from ho]at e;cases e
  |deep=>rw[show S.out=_ from ho]at e;cases e
theorem HZ(h1:Sim S1 T)(h2:Sim S2 T)(g:GdT T)(a1:AnsV H0 H S1 u)(a2:AnsV H1 H S2 u'):DqS H 4 u u':=by
 have o1:=h1.out;have o2:=h2.out;unfold AnsV at a1 a2;cases e:T.out with
 |none=>
  rw[e]at o1 o2;rw[show S1.out=none from o1]at a1;rw[show S2.out=none from o2]at a2;simp only at a1 a2;subst a1 a2;exact _P.dq_sc rfl _
 |some o=>
  rw[e]at o1 o2;cases o with
  |value t=>
   obtain⟨x1,e1,v1⟩:=o1;obtain⟨x2,e2,v2⟩:=o2;rw[e1]at a1;rw[e2]at a2;obtain⟨p,k,rfl,_,hK⟩:=g.val t e;obtain⟨t1,q1,r1,w1,rfl,f,c⟩:=a1;obtain⟨t2,q2,r2,w2,rfl,d,b⟩:=a2;have z1:=_P.vra_uniq (X5 v1) w1;have z2:=_P.vra_uniq (X5 v2) w2;subst z1 z2;exact _P.dq_tup f d (by show 2<=1000;omega) (.cons (_P.dq_sc rfl _) (.cons (_R.dqs_up (_P.dq_kp (by decide) hK c b)) .nil))
  |refused w=>
   rw[show S1.out=_ from o1]at a1;rw[show S2.out=_ from o2]at a2;obtain⟨p,rfl,hp⟩:=a1;obtain⟨p',rfl,a⟩:=a2;exact _P.dq_tup hp a (by show 2<=1000;omega) (.cons (_P.dq_sc rfl _) (.cons (_P.dq_sc rfl _) .nil))
  |dry=>
   rw[show S1.out=_ from o1]at a1;rw[show S2.out=_ from o2]at a2;obtain⟨p,rfl,hp⟩:=a1;obtain⟨p',rfl,a⟩:=a2;exact _P.dq_tup hp a (by show 1<=1000;omega) (.cons (_P.dq_sc rfl _) .nil)
  |deep=>
   rw[show S1.out=_ from o1]at a1;rw[show S2.out=_ from o2]at a2;obtain⟨p,rfl,hp⟩:=a1;obtain⟨p',rfl,a⟩:=a2;exact _P.dq_tup hp a (by show 1<=1000;omega) (.cons (_P.dq_sc rfl _) .nil)
end _K
namespace _K
open PySem _L _C _S _M _T _R
open _k (lg DqS spSameD)
open _P (z1 z2 z3 P3)
open _B hiding ifT ifF NoG top
seal PE PT PW PA PS PSs PTs PI _L._P PGs PO
noncomputable abbrev s_law_collected:Stmt:=_C.top 57
noncomputable abbrev CN:List Str:=["_law_plain_one","_law_other","_law_bits","_law_many","_law_gone","_law_fresh","_law_olds","_law_news","_law_back"]
theorem sc_law_collected:FnScope CN cqZ (B6 s_law_collected):=fS
theorem MD.kq(h:MD CM C H A bs most S vb us fs out)(k:Kq A2 H H')(m:Mo H H')(n:∀y∈A.own,y∉A2.own):MD CM C H' A bs most S vb us fs out:=by
 obtain⟨dx,ho,hL⟩:=h.r.o;have n':∀a,a=A.m\/a=A.bl\/a=A.o\/a=A.L\/a=A.s->a∉A2.own:=λa ha=>n a (by simpa [Ad.own]using ha);exact⟨⟨k _ _ h.r.m (n' _ (.inl rfl)),k _ _ h.r.bl (n' _ (.inr (.inl rfl))),⟨dx,k _ _ ho (n' _ (.inr (.inr (.inl rfl)))),k _ _ hL (n' _ (.inr (.inr (.inr (.inl rfl)))))⟩,k _ _ h.r.s (n' _ (.inr (.inr (.inr (.inr rfl))))),h.r.nLs,h.r.nbs,h.r.nbL⟩,h.b.imp λ_ _ z=>BAt.mo m z,h.c.imp λ_ _ z=>ClAt.mo m z,h.f.imp λ_ _ z=>FAt.mo m z,h.o.mo m,h.v⟩
theorem ckZ{S:Ms}(hO:Okc S.cs)(hV:Okv S.cs.length (hangs S.out S.frs))(hK:Kept S.cs (hangs S.out S.frs) ks):∀k,k<(swS ks S).cs.length->Rc (swS ks S).cs (hangs (swS ks S).out (swS ks S).frs) k:=λk hk=>by
 have eh:hangs (swS ks S).out (swS ks S).frs=(hangs S.out S.frs).map (mv ks):=N1 (mv ks) S.out S.frs;have ec:(swS ks S).cs=fr S.cs ks:=rfl;rw[ec,MI]at hk;rw[eh,ec];obtain⟨j,hj⟩:∃j,ks[k]? =some j:=⟨_,List.getElem?_eq_getElem hk⟩;have:=aRZ (e:=[]) hO hV hK ((hK.is j).mp (mem_of_getElem? hj));rw[append_nil,Y2 hK.nd hj]at this;exact this
theorem VJ{cs:List Cl}{us:List V}(h:All2 (ClAt H) cs us):us.all X6=true:=by
 rw[all_eq_true];intro x hx;obtain⟨i,hi⟩:=getElem?_of_mem hx;obtain⟨cl,_,c⟩:=h.get hi;cases cl with
 |pair a b=>obtain⟨t,_,_,rfl,_⟩:=c;rfl
 |fn n vs=>obtain⟨t,_,_,rfl,_⟩:=c;rfl
section
inductive spCollectedW(CM C Pt:Addr)(vs:List V)(H:Hp)(Q:VK):Prop
 |mk:∀(A1 A2:Ad) (bs:List Bk) (most:Nat) (S1 S2:Ms) (T:Tm) (g:Nat->Nat) (vb1 us1 fs1:List V) (out1:V) (bits:Int),(vs=[.ref A1.m,.ref A2.m,.int bits])->(MD CM C H A1 bs most S1 vb1 us1 fs1 out1)->(MAt CM C H A2 bs most S2)->(Rel S1 S2 g)->(Sim S1 T)->(Sim S2 T)->(GdT T)->((∀y∈A1.own,y∉A2.own))->(Tb H Pt)->(∀A2' S2' g' H',New A2 A2' H->(∀b ob,H b=some ob->b∉A2.own->b≠Pt->H' b=some ob)->Tb H' Pt->MAt CM C H' A2' bs most S2'->Rel S1 S2' g'->Sim S2' T->S2'.cs.length<=S2.cs.length->(∀k,k<S2'.cs.length->Rc S2'.cs (hangs S2'.out S2'.frs) k)->Q (.bl true) H')->spCollectedW CM C Pt vs H Q
noncomputable def U3(CM C Pt:Addr):Sp:=λvs H Q _=>spCollectedW CM C Pt vs H Q
theorem ok_law_collected(F:Fun Z "_law_collected" "_law_collected" s_law_collected f fd)(B:_B.NoG mg)(RM:MCls Z CM gf gd)
  (JM:FnOk P w Z mg base CX0 1 (gf "frames") (gd "frames") G0 (KF CM C))
  (R6:FnOk P w Z mg base CX0 2 (gf "cells") (gd "cells") G0 (DS CM C))
  (FG:FnOk P w Z mg base CX0 5 (gf "collect") (gd "collect") G0 (GK CM C))
  (M5:FnOk P w Z mg base CX0 6 (gf "answer") (gd "answer") G0 (U7 CM C Pt))
  (F6:Cn P w Z mg base CX0 5 "_law_same" q5L (spSameD 4))
  (BG:Cn P w Z mg base CX0 1 "_law_shape" q7L OI)
  (Y4:Cn P w Z mg base CX0 1 "_law_values" q7L LG)
  (JF:Cn P w Z mg base CX0 3 "_law_alike" bOZ PJ):
  FnOk P w Z mg base CX0 7 f fd cqZ (U3 CM C Pt):=by
 refine F.om sc_law_collected λe9 A ci s H vs Q E hr h=> ?_;obtain⟨A1,A2,bs,O,S1,S2,T,g,eq,ce,ad,di,p,rfl,cx,cz,au,U,b2,gT,am,hT,q⟩:=h;have nd:=sc_law_collected.nd;have hu:=hr.units0;refine⟨_,(A9 (sS 3 nd K4)
   (A9 (D3 (D2 (C0 (kEq (Z:=Z) hu) (C1 E4 (pv 2) B0) B0 rfl) (B5 (sS 3 nd (kL Z B.len_ (mN (pv 1) RM.cl RM.m_cells R6 hr RM.b_cells)))) C4))
   (A9 (sS 4 nd (mN (pv 1) RM.cl RM.m_collect FG hr RM.b_collect))
   (A9 (sS 5 nd (E7 B4))
   (A9 (D3 (D2 (C0 (kEq (Z:=Z) hu) (C1 E4 (C1 D6 (pv 2) B0) B0) B0 rfl) (B5 (sS 5 nd (mN (pv 1) RM.cl RM.m_cells R6 hr RM.b_cells))) C4))
   (A9 (sS 6 nd (mN (pv 0) RM.cl RM.m_frames JM hr RM.b_frames))
   (A9 (sS 7 nd (mN (pv 1) RM.cl RM.m_frames JM hr RM.b_frames))
   (A9 (D3 (D2 (C0 (kEq (Z:=Z) hu) (C1 E4 (C1 D6 (pv 2) B0) B0) B0 rfl) (B5 (sS 5 nd (mN (pv 1) RM.cl RM.m_cells R6 hr RM.b_cells))) C4))
   (A9 (D3 (D2 (C0 DE (pv 3) K4 rfl) (B5 (sS 3 nd (C1 (K6 (Z:=Z)) (kL Z B.len_ (pv 5)) (E3 (aTZ (Z:=Z) rfl) rfl B.max_ UI (A0 B0 (A0 (pv 4) B4)))))) C4))
   (A9 (D2 (C0 (cSZ hr.units) (cC BG hr (A0 (pv 6) B4)) (cC BG hr (A0 (pv 7) B4)) rfl) (B5 (C2 O3)) C4)
   (A9 (sS 8 nd (cC JF hr (A0 (cC Y4 hr (A0 (pv 6) B4)) (A0 (cC Y4 hr (A0 (pv 7) B4)) (A0 (mN (pv 0) RM.cl RM.m_cells R6 hr RM.b_cells) (A0 (pv 5) B4))))))
   (A9 (D3 (D2 (PW.pt (P0 (C0 DE (pv 8) K4 rfl) (P0 (L9 (E9 (Z:=Z) (cC F6 hr (A0 (pv 4) (A0 (C1 M3 (pv 3) (kL Z B.len_ (pv 5))) B4))) (λ_=>rfl))) (O0 (C0 (NV (Z:=Z) hu) (mN (pv 1) RM.cl RM.m_cells R6 hr RM.b_cells) (pv 5) rfl))))) (B5 (C2 O3)) C4))
   (A9 (D3 (D2 (PW.pt (R8 (C0 (NV (Z:=Z) hu) (pv 6) (E7 B4) rfl) (O6 (C0 (kNe (Z:=Z) hu) (E3 VY rfl B.len_ NP (A0 (pv 8) B4)) (kL Z B.len_ (pv 5)) rfl)))) (B5 (C2 O3)) C4))
   (B5 (C2 (T4 (L6 (kEq (Z:=Z) hu) (mN (pv 1) RM.cl RM.m_collect FG hr RM.b_collect) B0 rfl) (Y3 (cC F6 hr (A0 (mN (pv 1) RM.cl RM.m_answer M5 hr RM.b_answer) (A0 (mN (pv 0) RM.cl RM.m_answer M5 hr RM.b_answer) B4)))))))))))))))))))), ?_⟩
 have I:=PZ b2 gT;obtain⟨ep,es,e7,dh,ct,e0,d9,ez,ew⟩:=id cz.ex;have dl:=d9.len;have de:=Q1 U gT;have dd:=Q1 b2 gT;show K0 _ _ _ [some (.ref A1.m),some (.ref A2.m),some (.int p),some .non,none,none,none,none,none] H;refine⟨fun σ' H'=>∃mv,σ'=[some (.ref A1.m),some (.ref A2.m),some (.int p),some mv,none,none,none,none,none]/\Same H H'/\(mv=.non\/mv=.int (S2.cs.length:Nat)),⟨_,rfl,_,_,rfl,rfl,(by decide:(0:Int)<2),.inl ⟨rfl,_,rfl, ?_⟩⟩, ?_⟩
 ·by_cases c1:p%2=0
  ·exact ifT (decide_eq_true (congrArg V.int c1)) ⟨_,rfl,A2.m,A2.dx,_,rfl,ct.m,rfl,A2,_,_,_,_,_,_,_,rfl,ct,λl hl=>⟨_,_,rfl,.inl ⟨_,SqL.of A7,rfl⟩,_,rfl,A8 hl _,.inr (by rw[dl])⟩⟩
  ·exact ifF (λz=>c1 (by have:=of_decide_eq_true z;injection this)) ⟨.non,rfl,Same.refl _,.inl rfl⟩
 rintro _ H1 ⟨mv,rfl,s1,af⟩;have ee:=_P.tb_same hT s1;have ac:=cz.same s1;obtain⟨c8,da,ei,cj,av,_⟩:=id ac.ex;refine⟨_,rfl,A2.m,A2.dx,_,rfl,av.m,rfl,A2,bs,O,S2,rfl,ac,dd.frs,I,λn A3 ks H2 en ak an hK cy=> ?_⟩;subst en;show K0 _ _ _ [some (.ref A1.m),some (.ref A2.m),some (.int p),some mv,some (.int (((S2.cs.length:Nat):Int) - (ks.length:Nat))),none,none,none,none] H2;have m2:Mo H1 H2:=av.mo an;have bm:=MD.kq (cx.pt hT (.of s1)) an m2 am;have G:Tb H2 Pt:=ac.tab an ee;have bk:=WL b2 gT.he I.okv hK;have t:=au.sw hK;have M:=PZ bk gT;obtain⟨c7,ae,ah,bw,dr,eb,cw,d6,dv⟩:=id cy.ex;have ag:MD CM C H2 A3 bs O (swS ks S2) c7 ae ah bw:=⟨dr,eb,cw,d6,dv,DY bk gT⟩;have bh:=cw.len;have cm:(swS ks S2).cs.length=ks.length:=length_map ..;have ej:A3.m=A2.m:=ak.1;rw[cm]at bh;rw[<-ej];have dp:ks.length<=S2.cs.length:=P9 S2.cs.length ks hK.nd λk hk=>Rc.lt I.okc I.okv ((hK.is k).mp hk);obtain⟨ck,(e2:p.fdiv 2%2=(ck:Int)),ey⟩:=P3 (p.fdiv 2) (m:=2) (by decide);refine⟨zero_le _,λfe d4=> ?_⟩;have s3:=A8 d4 (.lst []);show K0 _ _ _ [some (.ref A1.m),some (.ref A3.m),some (.int p),some mv,some (.int (((S2.cs.length:Nat):Int) - (ks.length:Nat))),some (.ref fe),none,none,none] _;generalize upd H2 fe (.lst [])=H3 at s3⊢;refine⟨fun σ' H'=>∃fr,σ'=[some (.ref A1.m),some (.ref A3.m),some (.int p),some mv,some (.int (((S2.cs.length:Nat):Int) - (ks.length:Nat))),some (.ref fr),none,none,none]/\Same H2 H'/\(ck=1->H' fr=some (.lst ae)),⟨_,rfl,_,_,rfl,rfl,lg (by decide) (by decide),_,_,rfl,rfl,(by decide:(0:Int)<2),.inl ⟨rfl,_,rfl, ?_⟩⟩, ?_⟩
 ·have J:=ag.pt G (.of s3);by_cases c1:p.fdiv 2%2=1
  ·exact ifT (decide_eq_true (congrArg V.int c1)) ⟨_,rfl,A3.m,A3.dx,_,rfl,J.r.m,rfl,A3,_,_,_,_,_,_,_,rfl,J.r,λl hl=>⟨l,rfl,s3.trans (A8 hl _),λ_=>A7⟩⟩
  ·exact ifF (λz=>c1 (by have:=of_decide_eq_true z;injection this)) ⟨fe,rfl,s3,λz=>absurd (by rw[e2,z];rfl) c1⟩
 rintro _ H4 ⟨fr,rfl,bg,d3⟩;have bb:=bm.pt G (.of bg);have e5:=_P.tb_same G bg;refine⟨_,rfl,A1.m,A1.dx,_,rfl,bb.r.m,rfl,A1,_,_,_,_,_,_,_,rfl,bb.r,λlo cu=> ?_⟩;have s5:=A8 cu (.lst ad);have Y:=ag.pt G (.of (bg.trans s5));refine⟨_,rfl,A3.m,A3.dx,_,rfl,Y.r.m,rfl,A3,_,_,_,_,_,_,_,rfl,Y.r,λln cv=> ?_⟩;have s6:=A8 cv (.lst ah);have bt:=bg.trans (s5.trans s6);have az:=s6 _ _ (A7 (H:=H4) (a:=lo) (o:=.lst ad));have a1:=A7 (H:=upd H4 lo (.lst ad)) (a:=ln) (o:=.lst ah);have cg:=s5.trans s6;show K0 _ _ _ [some (.ref A1.m),some (.ref A3.m),some (.int p),some mv,some (.int (((S2.cs.length:Nat):Int) - (ks.length:Nat))),some (.ref fr),some (.ref lo),some (.ref ln),none] _;generalize upd (upd H4 lo (.lst ad)) ln (.lst ah)=H5 at bt cg az a1⊢;clear s5 s6 cu cv Y;refine⟨fun σ' H'=>∃L,σ'=[some (.ref A1.m),some (.ref A3.m),some (.int p),some mv,some (.int (((S2.cs.length:Nat):Int) - (ks.length:Nat))),some (.ref L),some (.ref lo),some (.ref ln),none]/\Same H5 H'/\H' L=some (.lst ae),⟨_,rfl,_,_,rfl,rfl,lg (by decide) (by decide),_,_,rfl,rfl,(by decide:(0:Int)<2),.inl ⟨rfl,_,rfl, ?_⟩⟩, ?_⟩
 ·have J:=ag.pt G (.of bt);by_cases c1:p.fdiv 2%2=0
  ·exact ifT (decide_eq_true (congrArg V.int c1)) ⟨_,rfl,A3.m,A3.dx,_,rfl,J.r.m,rfl,A3,_,_,_,_,_,_,_,rfl,J.r,λl hl=>⟨l,rfl,A8 hl _,A7⟩⟩
  ·refine ifF (λz=>c1 (by have:=of_decide_eq_true z;injection this)) ⟨fr,rfl,Same.refl _,cg _ _ (d3 ?_)⟩;rw[e2]at c1;omega
 rintro _ H6 ⟨L,rfl,bq,a3⟩;refine⟨fun σ' H'=>σ'=[some (.ref A1.m),some (.ref A3.m),some (.int p),some (.int (S2.cs.length:Nat)),some (.int (((S2.cs.length:Nat):Int) - (ks.length:Nat))),some (.ref L),some (.ref lo),some (.ref ln),none]/\H6=H',⟨_,rfl,rfl,_,rfl, ?_⟩, ?_⟩
 ·rcases af with af|af
  ·refine ifT (decide_eq_true af) ⟨_,rfl,_,_,rfl,.inl ⟨_,SqL.of a3,rfl⟩,_,rfl,.inl ⟨_,_,rfl,.inl ⟨_,_,rfl,rfl, ?_,rfl⟩⟩⟩;have eI:((ae.length:Nat):Int)+(if(((S2.cs.length:Nat):Int) - (ks.length:Nat))>0 then(((S2.cs.length:Nat):Int) - (ks.length:Nat))else 0)=(S2.cs.length:Nat):=by
    rw[<-bh];split<;>omega
   exact congrArg (λz:Int=> [some (V.ref A1.m),some (.ref A3.m),some (.int p),some (.int z),some (.int (((S2.cs.length:Nat):Int) - (ks.length:Nat))),some (.ref L),some (.ref lo),some (.ref ln),none]) eI
  ·refine ifF (λz=>by have:=of_decide_eq_true z;rw[af]at this;cases this) ⟨?_,rfl⟩;rw[af]
 rintro _ _ ⟨rfl,rfl⟩;have bf:=bt.trans bq;have e4:=_P.tb_same G bf;have ba:=bm.pt G (.of bf);have a7:=ag.pt G (.of bf);have ay:=bq _ _ az;have a0:=bq _ _ a1;have l1:S1.frs.length<=60:=de.frs;have e3:(swS ks S2).frs=S1.frs.map (mvF (mp λk=>ks.idxOf (g k))):=t.frs;have ev:=a7.f.len;have cn:=ba.f.len;refine⟨_,rfl,lo,ad,S1.frs,rfl,ay,ba.f,le_trans l1 (by decide),λdn dc H7 s7 d2 aq=>⟨_,rfl,ln,ah,(swS ks S2).frs,rfl,s7 _ _ a0,a7.f.imp λ_ _ z=>FAt.mo (B9 s7) z,by rw[e3,length_map];exact le_trans l1 (by decide),λdm db H8 s8 d1 ap=>⟨dn,dm,dc,db,1,rfl,rfl,SqL.of (s8 _ _ d2),SqL.of d1,by rw[<-aq.len,<-ap.len,e3,length_map],by decide,λj u v hu hv=> ?_,_,rfl,ifF (by decide) ?_⟩⟩⟩
 ·obtain⟨f1,d7,p1,rfl,dt⟩:=aq.get hu;obtain⟨f2,a4,p2,rfl,ds⟩:=ap.get hv;rw[e3,getElem?_map,d7]at a4;obtain rfl:mvF (mp λk=>ks.idxOf (g k)) f1=f2:=Option.some.inj a4;have b3:H8 p2=some (.tup [.int (f1.k:Nat),.int (f1.at_:Nat),.int (f1.sl.length:Nat),.int (f1.st.length:Nat)]):=by
   rw[ds];show some (HO.tup [.int (f1.k:Nat),.int (f1.at_:Nat),.int (((f1.sl.map _).length:Nat)),.int (((f1.st.map _).length:Nat))])=_;rw[length_map,length_map]
  refine .inr ⟨p1,p2,_,_,rfl,rfl,.inl ⟨SqT.of (s8 _ _ dt),SqT.of b3⟩,rfl,λi u v hu hv=> ?_⟩;rw[hu]at hv;cases hv;have hm:=mem_of_getElem? hu;simp only[mem_cons,not_mem_nil,or_false]at hm;refine⟨?_,rfl⟩;rcases hm with h|h|h|h<;>rw[h]<;>rfl
 have bd:=s7.trans s8;have be:=bf.trans bd;have aa:=bm.pt G (.of be);have a6:=ag.pt G (.of be);have ed:=_P.tb_same G be;have ax:=bd _ _ ay;have b4:=bd _ _ a0;have a2:=bd _ _ a3;have ao:∀x,x∈hangs none S1.frs->x∈hangs S1.out S1.frs:=λx hx=>by
  by_cases o:S1.out=none
  ·rw[o];exact hx
  ·rw[S9 U (gT.he λy=>o ((Q8 U).mpr y))]at hx;cases hx
 have D:(hangs none S1.frs).length<=1000:=by
  have:=(EM U.frs).len;show(S1.frs.flatMap _).length<=1000;rw[<-this];exact gT.len
 have c2:hangs none (swS ks S2).frs=(hangs none S1.frs).map (mp λk=>ks.idxOf (g k)):=by rw[e3];exact N1 _ none S1.frs
 have bz:S1.cs.length<=63:=le_trans U.n gT.n63;refine⟨_,rfl,lo,ad,S1.frs,rfl,ax,aa.f,D,λlx xs H9 s9 eu dz hX=> ?_⟩;refine⟨_,rfl,ln,ah,(swS ks S2).frs,rfl,s9 _ _ b4,a6.f.imp λ_ _ z=>FAt.mo (B9 s9) z,by rw[c2,length_map];exact D,λly ys fc bu et dy hY=> ?_⟩;have cf:=s9.trans bu;have a9:=aa.pt ed (.of cf);refine⟨_,rfl,A1.m,A1.dx,_,rfl,a9.r.m,rfl,A1,_,_,_,_,_,_,_,rfl,a9.r,λlc d0=> ?_⟩;have aj:=A8 d0 (.lst ce);have bp:=cf.trans aj;have mB:=B9 bp;have dk:=hX.len;refine⟨_,rfl,lx,ly,lc,L,xs,ys,ce,ae,S1.cs,(swS ks S2).cs,hangs none S1.frs,_,rfl,(bu.trans aj) _ _ dz,aj _ _ dy,A7,bp _ _ a2,hX.imp λ_ _ z=>VAt.mo (B9 (bu.trans aj)) z, ?_,aa.c.imp λ_ _ z=>ClAt.mo mB z,a6.c.imp λ_ _ z=>ClAt.mo mB z,t.okc,λk hk=>t.okv k (ao _ hk),bz,by rw[<-dk];exact D,Alk.sub t.alk λk hk=> .root (ao _ hk),λd co Fk c5 df dj b6 b5 dw ef=> ?_⟩
 ·rw[<-c2];exact hY.imp λ_ _ z=>VAt.mo (B9 aj) z
 have bo:=bp.trans df;have br:=be.trans bo;show K0 _ _ _ [some (.ref A1.m),some (.ref A3.m),some (.int p),some (.int (S2.cs.length:Nat)),some (.int (((S2.cs.length:Nat):Int) - (ks.length:Nat))),some (.ref L),some (.ref lo),some (.ref ln),some (.ref d)] c5;have W:=bo _ _ a2;have aw:=bo _ _ ax;have e1:=_P.tb_same G br;refine⟨fun σ' H'=>σ'=[some (.ref A1.m),some (.ref A3.m),some (.int p),some (.int (S2.cs.length:Nat)),some (.int (((S2.cs.length:Nat):Int) - (ks.length:Nat))),some (.ref L),some (.ref lo),some (.ref ln),some (.ref d)]/\Same c5 H', ?_, ?_⟩
 ·refine⟨_,rfl,rfl,_,rfl,ifF (by simp) ⟨_,rfl,_,rfl,_,rfl,_,_,rfl,.inl ⟨_,SqL.of W,rfl⟩,_,_,rfl,rfl,_,_,rfl, ?_,λc4 N=>⟨true,rfl,ifF (by decide) ?_⟩⟩⟩
  ·rw[<-bh];exact _P.dq_sc rfl _
  have X:=ag.pt G (.of (br.trans N));refine⟨_,rfl,A3.m,A3.dx,_,rfl,X.r.m,rfl,A3,_,_,_,_,_,_,_,rfl,X.r,λl hl=>⟨_,rfl,.inl ⟨l,L,ae,rfl,rfl,SqL.of A7,SqL.of ((A8 hl _) _ _ (N _ _ W)),VJ X.c,_,rfl,ifF (by decide) ⟨rfl,N.trans (A8 hl _)⟩⟩⟩⟩
 rintro _ c4 ⟨rfl,N⟩;refine⟨fun σ' H'=>σ'=[some (.ref A1.m),some (.ref A3.m),some (.int p),some (.int (S2.cs.length:Nat)),some (.int (((S2.cs.length:Nat):Int) - (ks.length:Nat))),some (.ref L),some (.ref lo),some (.ref ln),some (.ref d)]/\Same c4 H', ?_, ?_⟩
 ·refine⟨_,rfl,zero_le _,λe he=> ?_⟩;have S:=A8 he (.lst []);by_cases c1:ad=[]
  ·subst c1;exact .inl ⟨lo,e,[],rfl,rfl,SqL.of (S _ _ (N _ _ aw)),SqL.of A7,rfl,_,rfl,ifF (by decide) (ifF (by decide) ⟨rfl,S⟩)⟩
  ·refine .inr ⟨lo,e,_,_,rfl,rfl,SqL.of (S _ _ (N _ _ aw)),SqL.of A7,(λz=>c1 (List.eq_nil_of_length_eq_zero z)),_,rfl,ifT rfl ?_⟩;have on:S1.out=none:=by
    cases o:S1.out with
    |none=>rfl
    |some o'=>
     have:=S9 U (gT.he λy=>by rw[(Q8 U).mpr y]at o;cases o);rw[this]at cn;exact absurd (List.eq_nil_of_length_eq_zero cn.symm) c1
   have el:co.length=ks.length:=by
    rw[b5];refine(TW au hK dw λk=> ?_).symm;rw[on];exact ef k
   refine⟨_,rfl,d,co,rfl,.inl (S _ _ (N _ _ b6)),_,rfl,_,_,rfl,.inl ⟨_,SqL.of (S _ _ (N _ _ W)),rfl⟩,.inl ⟨rfl,_,rfl,ifF ?_ ⟨rfl,S⟩⟩⟩;rw[el,bh];simp
 rintro _ em ⟨rfl,S⟩;have ai:=br.trans (N.trans S);have ec:=_P.tb_same G ai;have cb:=bm.pt G (.of ai);have ab:=cy.same ai;obtain⟨eo,er,e6,dg,cr,_⟩:=id ab.ex;have al:∀y∈A1.own,y∉A3.own:=λy hy z=>by
  rcases ak.2 y z with h|h
  ·exact am y hy h
  ·have:H1 y≠none:=by
    have R:=cx.pt hT (.of s1);obtain⟨e8,ho,hL⟩:=R.r.o;simp only[Ad.own,mem_cons,not_mem_nil,or_false]at hy;rcases hy with h|h|h|h|h<;>rw[h]
    ·rw[R.r.m];exact λy=>(nomatch y)
    ·rw[R.r.bl];exact λy=>(nomatch y)
    ·rw[ho];exact λy=>(nomatch y)
    ·rw[hL];exact λy=>(nomatch y)
    ·rw[R.r.s];exact λy=>(nomatch y)
   exact this h
 refine⟨_,rfl,A3.m,A3.dx,_,rfl,cr.m,rfl,A3,bs,O,_,rfl,ab,(Q1 bk gT).frs,M,λn A4 bi bc en bx bj bn eg=> ?_⟩;have c0:=VS I.okc I.okv hK bn;rw[c0,Int.sub_self]at en;subst en;refine .inl ⟨rfl,true,rfl,ifT rfl ?_⟩;have mE:Mo em bc:=cr.mo bj;have ca:=MD.kq cb bj mE al;have b7:Tb bc Pt:=ab.tab bj ec;have b1:=WL bk gT.he M.okv bn;have ar:=t.sw bn;obtain⟨c6,c9,eh,bv,dq,ea,d8,d5,du⟩:=id eg.ex;have b9:MD CM C bc A4 bs O (swS bi (swS ks S2)) c6 c9 eh bv:=⟨dq,ea,d8,d5,du,DY b1 gT⟩;have ek:A4.m=A3.m:=bx.1;rw[<-ek];refine⟨_,rfl,A4.m,A4.dx,_,rfl,b9.r.m,rfl, ?_⟩
 try unfold W2
 refine T2 b9 b7 λu1 fb cq a5 cd=> ?_;have a8:=ca.pt b7 cq;refine⟨_,rfl,A1.m,A1.dx,_,rfl,a8.r.m,rfl, ?_⟩
 try unfold W2
 refine T2 a8 a5 λu2 fa cp b8 cc=> ?_;refine⟨u1,u2,rfl,HZ b1 U gT (cd.ml (KPt.ml a5 cp)) cc,λc3 ch=> ?_⟩;have kF:KPt Pt bc c3:=(cq.trans cp).trans (.of ch);have b0:∀b ob,H b=some ob->b∉A2.own->b∉A3.own->bc b=some ob:=λb ob e n1 n2=>bj _ _ (ai _ _ (an _ _ (s1 _ _ e) n1)) n2;have n3:∀b ob,H b=some ob->b∉A2.own->b∉A3.own:=λb ob e n1 z=>by
  rcases ak.2 b z with h|h
  ·exact n1 h
  ·rw[s1 _ _ e]at h;cases h
 refine q A4 (swS bi (swS ks S2)) _ c3 ⟨bx.1.trans ak.1,λy hy=> ?_⟩ (λb ob e n1 n2=>kF _ _ (b0 _ _ e n1 (n3 _ _ e n1)) n2) (_P.tb_same b8 ch) (b9.pt b7 kF).at_ ar b1 (by rw[show(swS bi (swS ks S2)).cs.length=bi.length from length_map ..,c0,cm];exact dp) (ckZ M.okc M.okv bn);rcases bx.2 y hy with h|h
 ·rcases ak.2 y h with h|h
  ·exact .inl h
  ·exact .inr (s1.free h)
 ·by_cases z:y∈A2.own
  ·exact .inl z
  ·refine .inr ?_;cases e:H y with
   |none=>rfl
   |some ob=>rw[ai _ _ (an _ _ (s1 _ _ e) z)]at h;cases h
end
end _K
namespace _K
open PySem _L _C _S _M _T _R
open _B hiding ifT ifF NoG top
theorem aZZ:∀ {p:_Q.Pv} {x:Vl},VRa cs p x->∃L:List Nat,L.Nodup/\L.length=(_Q.heads p).length/\∀k∈L,k<cs.length/\∃q,VRa cs q (.cell k)/\(_Q.heads q).length<=(_Q.heads p).length
 | .int _,_,_=>⟨[],nodup_nil,rfl,λk hk=>(nomatch hk)⟩
 | .bl _,_,_=>⟨[],nodup_nil,rfl,λk hk=>(nomatch hk)⟩
 | .nil,_,_=>⟨[],nodup_nil,rfl,λk hk=>(nomatch hk)⟩
 | .cons h t,x,hv=>by
  obtain⟨k,a,b,rfl,hk,h1,h2⟩:=id hv;obtain⟨L,hn,hl,hL⟩:=aZZ h2;refine⟨k::L,nodup_cons.mpr ⟨λhm=> ?_,hn⟩,by show L.length+1=(_Q.heads t).length+1;rw[hl],λj hj=> ?_⟩
  ·obtain⟨_,q,hq,c⟩:=hL k hm;have e:=_P.vra_uniq hv hq;rw[<-e]at c;exact absurd c (Nat.not_succ_le_self _)
  ·rcases cZ hj with hj|hj
   ·rw[hj];exact⟨(List.getElem?_eq_some_iff.mp hk).1,_,hv,le_refl _⟩
   ·obtain⟨l1,q,hq,c⟩:=hL j hj;exact⟨l1,q,hq,le_trans c (le_succ _)⟩
theorem DP:∀(p:_Q.Pv),(∀h∈_Q.heads p,(Q0 h).nodes=(_Q.heads h).length)->(Q0 p).nodes=(_Q.heads p).length+((_Q.heads p).map λh=>(_Q.heads h).length).sum
 | .int _,_=>rfl
 | .bl _,_=>rfl
 | .nil,_=>rfl
 | .cons h t,hh=>by
  have h1:=hh h (mem_cons_self ..);have h2:=DP t λx hx=>hh x (mem_cons_of_mem _ hx);show(Q0 h).nodes+(Q0 t).nodes+1=(_Q.heads t).length+1+((_Q.heads h).length+((_Q.heads t).map λh=>(_Q.heads h).length).sum);omega
theorem R4(h:_P.Ip p):(Q0 p).nodes=0/\_Q.heads p=[]:=by
 rcases h with⟨i,rfl⟩|⟨b,rfl⟩<;>exact⟨rfl,rfl⟩
theorem US(h:_P.Lp N _P.Ip p):(Q0 p).nodes=(_Q.heads p).length:=by
 have h0:∀x∈_Q.heads p,(Q0 x).nodes=(_Q.heads x).length:=λx hx=>by
  obtain⟨e1,e2⟩:=R4 (h.2.2 x hx);rw[e1,e2];rfl
 rw[DP p h0];have:((_Q.heads p).map λh=>(_Q.heads h).length)=List.replicate (_Q.heads p).length 0:=by
  refine List.eq_replicate_iff.mpr ⟨length_map ..,λb hb=> ?_⟩;obtain⟨x,hx,rfl⟩:=mem_map.mp hb;rw[(R4 (h.2.2 x hx)).2];rfl
 rw[this,List.sum_replicate_nat,Nat.mul_zero];rfl
theorem WQ(h:_P.KP N k p):(Q0 p).nodes=(_Q.heads p).length+((_Q.heads p).map λh=>(_Q.heads h).length).sum:=by
 refine DP p λx hx=> ?_;cases k with
 |n=>rw[(R4 h).2]at hx;cases hx
 |t=>rw[(R4 h).2]at hx;cases hx
 |l=>
  obtain⟨e1,e2⟩:=R4 (h.2.2 x hx);rw[e1,e2];rfl
 |L=>exact US (h.2.2 x hx)
 |F=>exact h.elim
 |fn k=>exact h.elim
theorem YV(hv:V1 cs (Q0 p) x)(hK:_P.KP N k p)(hall:∀j,j<cs.length->Rc cs [x] j):(_Q.heads p).length<=cs.length/\cs.length<=(_Q.heads p).length+((_Q.heads p).map λh=>(_Q.heads h).length).sum:=by
 constructor
 ·obtain⟨L,hn,hl,hL⟩:=aZZ (X5 hv);rw[<-hl];exact P9 cs.length L hn λk hk=>(hL k hk).1
 ·obtain⟨L,hl,hc⟩:=(VT.cover (Q0 p)).1 hv;rw[<-WQ hK,<-hl];have:=UD (List.range cs.length) L List.nodup_range λk hk=>hc k (hall k (mem_range.mp hk))
  rwa [List.length_range]at this
theorem none_of{cs:List Cl}{ws:List Vl}(hw:∀k,Vl.cell k∉ws)(hall:∀j,j<cs.length->Rc cs ws j):cs.length=0:=by
 have no:∀j,¬Rc cs ws j:=λj r=>by
  induction r with
  |root h=>exact hw _ h
  |step _ _ _ ih=>exact ih
 cases e:cs.length with
 |zero=>rfl
 |succ n=>exact absurd (hall 0 (by omega)) (no 0)
end _K
namespace _K
open PySem _L _C _S _M _T _R
open _B hiding ifT ifF NoG top
seal PE PT PW PA PS PSs PTs PI _L._P PGs PO
noncomputable abbrev s_law_kept:Stmt:=_C.top 58
noncomputable abbrev DB:List Str:=["_law_other","_law_told","_law_many","_law_inner"]
theorem sc_law_kept:FnScope DB ["_law_other"] (B6 s_law_kept):=fS
theorem YW(h:Sim S T)(e:S.out=some (.value x)):∃t,T.out=some (.value t)/\V1 S.cs t x:=by
 have ho:=h.out;cases eT:T.out with
 |none=>rw[eT]at ho;rw[show S.out=none from ho]at e;cases e
 |some o=>
  rw[eT]at ho;cases o with
  |value t=>
   obtain⟨x',ex,hx⟩:=ho;rw[ex]at e;injection e with e
   injection e with e
   subst e;exact⟨t,rfl,hx⟩
  |refused w=>rw[show S.out=_ from ho]at e;cases e
  |dry=>rw[show S.out=_ from ho]at e;cases e
  |deep=>rw[show S.out=_ from ho]at e;cases e
noncomputable def bxZ(H:Hp)(h:_Q.Pv)(y:V):Prop:=(V8 y=true/\_Q.heads h=[])\/∃b ys,y=.ref b/\H b=some (.lst ys)/\ys.length=(_Q.heads h).length/\ys.length<=200
theorem PD{r:V}(h:_P.KP 200 k p)(hr:(_Q.R ok H p).1 r):(V8 r=true/\_P.Ip p)\/∃a rs,r=.ref a/\H a=some (.lst rs)/\rs.length<=200/\All2 (bxZ H) (_Q.heads p) rs:=by
 cases k with
 |n=>exact .inl ⟨UM h hr,h⟩
 |t=>exact .inl ⟨UM h hr,h⟩
 |l=>
  obtain⟨a,rs,e,ha,_,hl,hA⟩:=MO h hr;have c:∀ {ps:List _Q.Pv} {rs:List V},(∀q∈ps,_P.Ip q)->All2 (λt r=>(_Q.R ok H t).1 r) ps rs->All2 (bxZ H) ps rs:=λ{ps rs} hp hA=>by
   induction hA with
   |nil=>exact .nil
   |cons h1 _ ih=>exact .cons (.inl ⟨UM (hp _ (mem_cons_self ..)) h1,(R4 (hp _ (mem_cons_self ..))).2⟩) (ih λq hq=>hp q (mem_cons_of_mem _ hq))
  exact .inr ⟨a,rs,e,ha,hl,c h.2.2 hA⟩
 |L=>
  obtain⟨a,rs,e,ha,_,hl,hA⟩:=MO h hr;have c:∀ {ps:List _Q.Pv} {rs:List V},(∀q∈ps,_P.Lp 200 _P.Ip q)->All2 (λt r=>(_Q.R ok H t).1 r) ps rs->All2 (bxZ H) ps rs:=λ{ps rs} hp hA=>by
   induction hA with
   |nil=>exact .nil
   |cons h1 _ ih=>
    obtain⟨b,ys,e2,hb,_,d,hB⟩:=MO (hp _ (mem_cons_self ..)) h1;exact .cons (.inr ⟨b,ys,e2,hb,hB.len.symm,d⟩) (ih λq hq=>hp q (mem_cons_of_mem _ hq))
  exact .inr ⟨a,rs,e,ha,hl,c h.2.2 hA⟩
 |F=>exact h.elim
 |fn k=>exact h.elim
section
inductive spKeptW(CM C Pt:Addr)(vs:List V)(H:Hp)(Q:VK):Prop
 |mk:∀(A:Ad) (bs:List Bk) (most:Nat) (S:Ms) (T:Tm) (vb us fs:List V) (out:V),(vs=[.ref A.m])->(MD CM C H A bs most S vb us fs out)->(Sim S T)->(GdT T)->(S.out≠none)->((∀k,k<S.cs.length->Rc S.cs (hangs S.out S.frs) k))->(Tb H Pt)->(∀H',Q (.bl true) H')->spKeptW CM C Pt vs H Q
noncomputable def UK(CM C Pt:Addr):Sp:=λvs H Q _=>spKeptW CM C Pt vs H Q
theorem ok_law_kept(F:Fun Z "_law_kept" "_law_kept" s_law_kept f fd)(B:_B.NoG mg)(RM:MCls Z CM gf gd)
  (R6:FnOk P w Z mg base CX0 2 (gf "cells") (gd "cells") G0 (DS CM C))
  (M5:FnOk P w Z mg base CX0 6 (gf "answer") (gd "answer") G0 (U7 CM C Pt)):
  FnOk P w Z mg base CX0 7 f fd ["_law_other"] (UK CM C Pt):=by
 refine F.om sc_law_kept λar A W s H vs Q E hr h=> ?_;obtain⟨A,bs,ae,S,T,vb,us,fs,al,rfl,hM,hs,gT,ho,G,hT,q⟩:=h;have nd:=sc_law_kept.nd;have hu:=hr.units0;refine⟨_,(A9 (sS 1 nd (mN (pv 0) RM.cl RM.m_answer M5 hr RM.b_answer))
   (A9 (sS 2 nd (kL Z B.len_ (mN (pv 0) RM.cl RM.m_cells R6 hr RM.b_cells)))
   (A9 (D3 (D2 (PW.pt (P0 (C0 (kNe (Z:=Z) hu) (ixE Z w (pv 1) B0) B8 rfl) (O0 (L9 (E9 (Z:=Z) (E3 (M4 (Z:=Z)) rfl B.isinstance_ C8 (A0 (ixE Z w (pv 1) B0) (A0 (F8 (v:=.ty "list") rfl B.list_ J8 rfl) B4))) (λ_=>rfl)))))) (B5 (C2 (L6 (kEq (Z:=Z) hu) (pv 2) B0 rfl))) C4))
   (A9 (sS 3 nd (E3 (dbZ (Z:=Z) rfl) rfl B.sum_ bIZ (A0 (CT (cS (N:=DB) (sc:=B6 s_law_kept) (caps:=[]) (ns:=[])) rfl rfl rfl (P7 (Z:=Z) (ixE Z w (pv 1) B0)) (λ_ _ _ _ _=>(IZ (E9 (Z:=Z) (E3 (M4 (Z:=Z)) rfl B.isinstance_ C8 (A0 (pv 0) (A0 (F8 (v:=.ty "list") rfl B.list_ J8 rfl) B4))) (λ_=>rfl)))) (λ_ _ _ _ _=>(kL Z B.len_ (pv 0)))) B4)))
   (B5 (C2 (LJ VB VB (kL Z B.len_ (ixE Z w (pv 1) B0)) (pv 2) (C1 (K6 (Z:=Z)) (kL Z B.len_ (ixE Z w (pv 1) B0)) (pv 3))))))))), ?_⟩
 refine⟨_,rfl,A.m,A.dx,_,rfl,hM.r.m,rfl, ?_⟩;unfold W2;refine T2 hM hT λu H1 k1 aq J=> ?_;have ad:=hM.pt hT k1;refine⟨_,rfl,A.m,A.dx,_,rfl,ad.r.m,rfl,A,_,_,_,_,_,_,_,rfl,ad.r,λl hl=>⟨_,_,rfl,.inl ⟨_,SqL.of A7,rfl⟩, ?_⟩⟩;have s2:=A8 hl (.lst us);show K0 _ _ _ [some (.ref A.m),some u,some (.int (us.length:Nat)),none] (upd H1 l (.lst us));generalize upd H1 l (.lst us)=H2 at s2⊢;have lu:=hM.c.len;have ak:S.frs=[]:=S9 hs (gT.he λy=>ho ((Q8 hs).mpr y));have M:us.length=0->decide (V.int ((us.length:Nat):Int)=V.int 0)=true:=λz=>decide_eq_true (by rw[z];rfl);have g:U1 S.out=false->us.length=0:=λhv=>by
  rw[<-lu];refine none_of (ws:=hangs S.out S.frs) (λk hk=> ?_) G;rw[AA hv,ak]at hk;cases hk
 unfold AnsV at J;cases e:S.out with
 |none=>exact absurd e ho
 |some o=>
  rw[e]at J;cases o with
  |refused w0=>
   obtain⟨p,rfl,hp⟩:=J;refine⟨λ_ _=>False,⟨_,rfl,(ixT (s2 _ _ hp) rfl (.inl ⟨rfl,_,rfl,ifT (by decide) (ifT rfl ⟨_,rfl,.inl ⟨rfl, ?_⟩⟩)⟩))⟩,λ_ _ h=>h.elim⟩;rw[M (g (by rw[e];rfl))];exact q _
  |dry=>
   obtain⟨p,rfl,hp⟩:=J;refine⟨λ_ _=>False,⟨_,rfl,(ixT (s2 _ _ hp) rfl (.inl ⟨rfl,_,rfl,ifT (by decide) (ifT rfl ⟨_,rfl,.inl ⟨rfl, ?_⟩⟩)⟩))⟩,λ_ _ h=>h.elim⟩;rw[M (g (by rw[e];rfl))];exact q _
  |deep=>
   obtain⟨p,rfl,hp⟩:=J;refine⟨λ_ _=>False,⟨_,rfl,(ixT (s2 _ _ hp) rfl (.inl ⟨rfl,_,rfl,ifT (by decide) (ifT rfl ⟨_,rfl,.inl ⟨rfl, ?_⟩⟩)⟩))⟩,λ_ _ h=>h.elim⟩;rw[M (g (by rw[e];rfl))];exact q _
  |value x=>
   obtain⟨t,p,r,ht,rfl,hp,ah⟩:=J;obtain⟨tt,eT,hx⟩:=YW hs e;obtain⟨p0,k,rfl,ao,hK⟩:=gT.val tt eT;have et:=_P.vra_uniq (X5 hx) ht;subst et;rw[e]at G;have d:∀k,k<S.cs.length->Rc S.cs [x] k:=G;have I:=s2 _ _ hp;rcases PD hK ah with⟨af,aj⟩|⟨a,rs,rfl,ha,ap,hI⟩
   ·obtain⟨ty,h1,h2⟩:=KG (Z:=Z) (H:=H2) af;refine⟨λ_ _=>False,⟨_,rfl,(ixT I rfl (.inl ⟨rfl,_,rfl,ifF (by decide) ⟨_,rfl,(ixT I rfl ⟨_,_,_,_,rfl,h1,h2.li,_,rfl,ifT (by decide) ⟨_,rfl,.inl ⟨rfl, ?_⟩⟩⟩)⟩⟩))⟩,λ_ _ h=>h.elim⟩;have z:us.length=0:=by
     rw[<-lu];refine none_of (ws:=[x]) (λk hk=> ?_) d;have ex:=sZ hk;rcases aj with⟨i,rfl⟩|⟨b,rfl⟩
     ·rw[<-ex]at hx;cases hx
     ·rw[<-ex]at hx;cases hx
    rw[M z];exact q _
   ·have O:=s2 _ _ ha;have lI:=hI.len;obtain⟨an,am⟩:=YV hx hK d;refine⟨fun σ' H'=>σ'=[some (.ref A.m),some (.ref p),some (.int (us.length:Nat)),none]/\H2=H',⟨_,rfl,(ixT I rfl (.inl ⟨rfl,_,rfl,ifF (by decide) ⟨_,rfl,(ixT I rfl ⟨_,_,_,_,rfl,.lst O,NJ,_,rfl,ifF (by decide) ⟨rfl,rfl⟩⟩)⟩⟩))⟩, ?_⟩;rintro _ _ ⟨rfl,rfl⟩;refine⟨_,rfl,(ixT I rfl ⟨a,rfl,⟨_,SqL.of O⟩,AK (xs:=rs) (λi ys H'=>H'=H2/\∃ns:List Nat,ys=ns.map (λ(n:Nat)=>V.int (n:Nat))/\ns.sum=(((_Q.heads p0).take i).map λh=>(_Q.heads h).length).sum/\ns.length<=i/\ns.sum<=200*i) ⟨rfl,[],rfl,rfl,le_refl _,le_refl _⟩ ?_ ?_ ?_⟩)⟩
    ·rintro i ys H' hi ⟨rfl,ns,rfl,_,aa,_⟩;refine⟨SqL.of O, ?_⟩;rw[length_map];exact le_of_lt (_P.big_ _ (by omega))
    ·rintro i y ys H' hy ⟨rfl,ns,rfl,j,aa,L⟩;obtain⟨h,hh,ai⟩:=hI.get hy;have e1:(((_Q.heads p0).take (i+1)).map λh=>(_Q.heads h).length).sum=ns.sum+(_Q.heads h).length:=by
      rw[take_succ,hh,map_append,sum_append,<-j];rfl
     rcases ai with⟨ag,h0⟩|⟨b,U,rfl,hb,R,Y⟩
     ·obtain⟨ty,h1,h2⟩:=KG (Z:=Z) (H:=H') ag;refine⟨_,rfl,_,_,_,_,rfl,h1,h2.li,_,rfl,ifF nZ ⟨rfl,ns,rfl, ?_,by omega,by omega⟩⟩;rw[e1,h0];rfl
     ·have ab:=s2 _ _ hb;refine⟨_,rfl,_,_,_,_,rfl,.lst ab,NJ,_,rfl,ifT rfl ⟨_,rfl,_,_,rfl,.inl ⟨_,SqL.of ab,rfl⟩,rfl,ns++ [U.length], ?_, ?_, ?_, ?_⟩⟩
      ·rw[map_append];rfl
      ·rw[e1,sum_append,<-R];rfl
      ·rw[length_append,length_singleton];omega
      ·rw[sum_append];show ns.sum+(U.length+0)<=200*(i+1);omega
    ·rintro ys H' ⟨rfl,ns,rfl,j,aa,L⟩ D hD;rw[<-lI,take_length]at j;refine⟨D,ns,rfl,SqL.of A7,by omega, ?_⟩;have sD:=A8 hD (.lst (ns.map λ(n:Nat)=>V.int (n:Nat)));have X:=sD _ _ I;have ac:=sD _ _ O;refine⟨_,rfl,(ixT X rfl ⟨_,_,rfl,.inl ⟨_,SqL.of ac,rfl⟩,_,rfl,_,_,rfl,rfl,_,rfl,ifT (decide_eq_true (by omega)) ⟨_,rfl,(ixT X rfl ⟨_,_,rfl,.inl ⟨_,SqL.of ac,rfl⟩,_,rfl,.inl ⟨_,_,rfl,rfl,_,_,rfl,rfl, ?_⟩⟩)⟩⟩)⟩;rw[decide_eq_true (by omega)];exact q _
end
end _K
namespace _K
open PySem _L _C _S _M _T _R
open _B hiding ifT ifF NoG top
theorem TB(h:GH bs most T T'):T'.r=T.r+1/\T'.n+T'.c<=T.n+T.c+1/\T.c<=T'.c:=by
 obtain⟨fs,f,r,c,n,w,rfl,_,ha⟩:=h;cases ha<;>refine⟨rfl, ?_, ?_⟩<;>simp only<;>omega
section
inductive Tt(hs:_P.Hs)(bs:List Bk)(most:Nat)(mt:_P.Kd)(i:Nat)(T:Tm):Prop
 |run {M:Nat}:_P.Run hs bs most mt T M->T.n+T.c<=T.r->T.r<=i->Tt hs bs most mt i T
 |over {n:Nat}:T.frs=[]->_P.EndOk hs mt n T->n<=200->T.n<=63->Tt hs bs most mt i T
theorem Tt.mono{mt:_P.Kd}(h:Tt hs bs most mt i T):Tt hs bs most mt (i+1) T:=by
 cases h with
 |run h1 h2 h3=>exact .run h1 h2 (le_succ_of_le h3)
 |over h1 h2 h3 h4=>exact .over h1 h2 h3 h4
theorem Tt.gd{most:Nat}{mt:_P.Kd}{i:Nat}(hm:most<=12)(hmt:mt=.n\/mt=.t\/mt=.l\/mt=.L)(hi:i<=70)(h:Tt hs bs most mt i T):GdT T:=by
 cases h with
 |run h1 h2 h3=>
  obtain⟨fs,f,r,c,n,ps,bk,d,k0,st,sl,R,W,rfl,hW,hb,hF,hc,j,hn,hM⟩:=h1.ex;simp only at h2 h3;have a:=mem_of_getElem? hF.at_;have a1:=hF.ok.st _ a;have a2:=hF.ok.sl _ a;have e1:=hF.st.len;have e2:=hF.sl.len;have a3:f.st.length<=60:=by rw[<-e1];exact a1
  have a4:f.sl.length<=13:=by rw[<-e2];exact a2
  obtain⟨w1,w2⟩:=_P.wt_len hW;refine⟨λz=>absurd rfl z,by show n<=63;omega, ?_, ?_,λg hg=> ?_,λt z=>(nomatch z)⟩
  ·show((fs++ [f]).flatMap λf=>f.sl++f.st).length<=1000;rw[flatMap_append,length_append,List.flatMap_singleton,length_append];omega
  ·show(fs++ [f]).length<=60;rw[length_append,length_singleton];omega
  ·rcases mem_append.mp hg with hg|hg
   ·have:=w1 g hg;omega
   ·rw[sZ hg];omega
 | @over n h1 h2 h3 h4=>
  refine⟨λ_=>h1,h4, ?_,by rw[h1];exact zero_le _,λf hf=>(by rw[h1]at hf;cases hf),λt z=> ?_⟩
  ·show(T.frs.flatMap _).length<=1000;rw[h1];exact zero_le _
  ·obtain⟨p,e,hK,b⟩:=_P.kp_of (h2.2.2 t z) hmt h3;exact⟨p,mt,e,b,acZ h3 hK⟩
theorem Tt.step{most:Nat}{mt:_P.Kd}{i:Nat}(hB:_P.BsOk hs bs)(hm:most<=12)(hi:i<70)(h:Tt hs bs most mt i T)(ho:T.out=none):∃T',GH bs most T T'/\Tt hs bs most mt (i+1) T':=by
 cases h with
 |run h1 h2 h3=>
  have a:T.c<=most:=by
   obtain⟨fs,f,r,c,n,ps,bk,b,k0,st,sl,R,W,rfl,hW,hb,hF,hc,a,hn,hM⟩:=h1.ex;exact a
  obtain⟨T',st,hn,h'⟩:=_P.run_step hB (le_trans hm (by decide)) h1;obtain⟨c1,c2,c3⟩:=TB st;refine⟨T',st, ?_⟩;rcases h' with⟨M',_,h'⟩|hE
  ·exact .run h' (by omega) (by omega)
  ·exact .over (_P.step_end st hE.1) hE (by omega) (by omega)
 |over h1 h2 h3 h4=>exact absurd ho h2.1
end
theorem same0(F:FnOk P w Z mg base CX0 1 f fd ps (_k.spSameD 0)):FnOk P w Z mg base CX0 1 f fd ps (_C.spSame 0):=F.imp λvs H Q E h=>by
 obtain⟨x,y,rfl,hd,q⟩:=h;rcases hd with hd|⟨_,_,_,_,m,_,_,_,_,_,z,_⟩
 ·exact⟨x,y,rfl,hd,q⟩
 ·cases z
end _K
namespace _K
open PySem _L _C _S _M _T _R
open _k (lg G7 Y8 DqS spSameD)
open _P (z1 z2 z3 P3 AZ)
open _B hiding ifT ifF NoG top
seal PE PT PW PA PS PSs PTs PI _L._P PGs PO
noncomputable abbrev s_law:Stmt:=_C.top 59
noncomputable abbrev djZ:List Str:=["_law_script","_law_blocks","_law_main","_law_numbers","_law_most","_law_plain_one","_law_other","_law_wish","_law_k","_law_bits","_law_due","_law_more"]
theorem sc_law:FnScope djZ QV (B6 s_law):=fS
inductive spLawW (Z:FZ) (Pt:Addr) (vs:List V) (H:Hp) (Q:VK):Prop
 |mk:∀(a:Addr) (ns:List Int),(vs=[.ref a])->(SqL Z H a (ns.map V.int))->(ns.length<=63)->(H Pt=some (.tbl #[]))->(∀H',Q (.bl true) H')->spLawW Z Pt vs H Q
noncomputable def PK(Z:FZ)(Pt:Addr):Sp:=λvs H Q _=>spLawW Z Pt vs H Q
structure Duo (CM C Pt:Addr) (bs:List Bk) (most:Nat) (hs:_P.Hs) (mt:_P.Kd) (H1 H:Hp) (A1 A2:Ad) (i:Nat) (S1 S2:Ms) (T:Tm) (g:Nat->Nat):Prop where
 k:KPt Pt H1 H
 t:Tb H Pt
 o1:∀y∈A1.own,H1 y=none
 o2:∀y∈A2.own,H1 y=none
 ne:∀y∈A1.own,y∉A2.own
 m1:MAt CM C H A1 bs most S1
 m2:MAt CM C H A2 bs most S2
 rel:Rel S1 S2 g
 s1:Sim S1 T
 s2:Sim S2 T
 tt:Tt hs bs most mt i T
 le:S2.cs.length<=S1.cs.length
section
theorem MAt.alloc(h:MAt CM C H A bs most S):∀y∈A.own,H y≠none:=λy hy=>by
 obtain⟨vb,us,fs,a,hM,_⟩:=h.ex;obtain⟨b,ho,hL⟩:=hM.o;simp only[Ad.own,mem_cons,not_mem_nil,or_false]at hy;rcases hy with h|h|h|h|h<;>rw[h]
 ·rw[hM.m];exact λy=>(nomatch y)
 ·rw[hM.bl];exact λy=>(nomatch y)
 ·rw[ho];exact λy=>(nomatch y)
 ·rw[hL];exact λy=>(nomatch y)
 ·rw[hM.s];exact λy=>(nomatch y)
theorem MAt.kq(h:MAt CM C H A bs most S)(h':MAt CM C H A' bs most S')(k:Kq A' H H')(n:∀y∈A.own,y∉A'.own):MAt CM C H' A bs most S:=by
 obtain⟨vb,us,fs,b,hM,hB,hC,hF,hO⟩:=h.ex;obtain⟨_,_,_,_,c,_⟩:=h'.ex;have m:=c.mo k;obtain⟨dx,ho,hL⟩:=hM.o;have n':∀a,a=A.m\/a=A.bl\/a=A.o\/a=A.L\/a=A.s->a∉A'.own:=λa ha=>n a (by simpa [Ad.own]using ha);exact⟨vb,us,fs,b,⟨k _ _ hM.m (n' _ (.inl rfl)),k _ _ hM.bl (n' _ (.inr (.inl rfl))),⟨dx,k _ _ ho (n' _ (.inr (.inr (.inl rfl)))),k _ _ hL (n' _ (.inr (.inr (.inr (.inl rfl)))))⟩,k _ _ hM.s (n' _ (.inr (.inr (.inr (.inr rfl))))),hM.nLs,hM.nbs,hM.nbL⟩,hB.imp λ_ _ z=>BAt.mo m z,hC.imp λ_ _ z=>ClAt.mo m z,hF.imp λ_ _ z=>FAt.mo m z,hO.mo m⟩
theorem a5Z{A:Ad}(k:KPt Pt H1 H)(o:∀y∈A.own,H1 y=none)(kq:Kq A H H'):KPt Pt H1 H':=λb ob e n=>kq _ _ (k _ _ e n) λz=>by rw[o b z]at e;cases e
theorem Duo.pt{mt:_P.Kd}(D:Duo CM C Pt bs most hs mt H1 H A1 A2 i S1 S2 T g)(k:KPt Pt H H')(t:Tb H' Pt):Duo CM C Pt bs most hs mt H1 H' A1 A2 i S1 S2 T g:=
 ⟨D.k.trans k,t,D.o1,D.o2,D.ne,D.m1.pt D.t k,D.m2.pt D.t k,D.rel,D.s1,D.s2,D.tt,D.le⟩
theorem Duo.coll{mt:_P.Kd}{H':Hp}(D:Duo CM C Pt bs most hs mt H1 H A1 A2 i S1 S2 T g)(nw:New A2 A2' H)(kp:∀b ob,H b=some ob->b∉A2.own->b≠Pt->H' b=some ob)(t:Tb H' Pt)(m:MAt CM C H' A2' bs most S2')(r:Rel S1 S2' g')(s:Sim S2' T)(l:S2'.cs.length<=S2.cs.length):Duo CM C Pt bs most hs mt H1 H' A1 A2' i S1 S2' T g':=by
 classical
 have ka:KPt Pt H (λb=>if b∈A2.own then H b else H' b):=λb ob e n=>by
  by_cases z:b∈A2.own
  ·simp only[if_pos z];exact e
  ·simp only[if_neg z];exact kp _ _ e z n
 have kb:Kq A2 (λb=>if b∈A2.own then H b else H' b) H':=λb ob e n=>by
  simp only[if_neg n]at e;exact e
 refine⟨λb ob e n=>kp _ _ (D.k _ _ e n) (λz=>by rw[D.o2 b z]at e;cases e) n,t,D.o1,λy hy=> ?_,λy hy z=> ?_,MAt.kq (D.m1.pt D.t ka) (D.m2.pt D.t ka) kb D.ne,m,r,D.s1,s,D.tt,le_trans l D.le⟩
 ·rcases nw.2 y hy with z|z
  ·exact D.o2 y z
  ·exact D.k.free z (IF D.t z)
 ·rcases nw.2 y z with w|w
  ·exact D.ne y hy w
  ·exact MAt.alloc D.m1 y hy w
theorem MAt.md(h:MAt CM C H A bs most S)(s:Sim S T)(gT:GdT T):∃vb us fs out,MD CM C H A bs most S vb us fs out:=by
 obtain⟨vb,us,fs,out,hr,hb,hc,hf,ho⟩:=h.ex;exact⟨vb,us,fs,out,hr,hb,hc,hf,ho,DY s gT⟩
theorem Duo.collected{mt:_P.Kd}(D:Duo CM C Pt bs most hs mt H1 H A1 A2 i S1 S2 T g)(gT:GdT T)(bits:Int){Q:VK}(q:∀(A2':Ad) (S2':Ms) (g':Nat->Nat) (H2:Hp),A2'.m=A2.m->Duo CM C Pt bs most hs mt H1 H2 A1 A2' i S1 S2' T g'->(∀k,k<S2'.cs.length->Rc S2'.cs (hangs S2'.out S2'.frs) k)->Q (.bl true) H2):U3 CM C Pt [.ref A1.m,.ref A2.m,.int bits] H Q X:=by
 obtain⟨vb,us,fs,a,hM⟩:=MAt.md D.m1 D.s1 gT;exact⟨A1,A2,bs,most,S1,S2,T,g,vb,us,fs,a,bits,rfl,hM,D.m2,D.rel,D.s1,D.s2,gT,D.ne,D.t,λA2' S2' g' H2 nw kp t m r s l al=>q A2' S2' g' H2 nw.1 (D.coll nw kp t m r s l) al⟩
theorem Duo.step{mt:_P.Kd}(D:Duo CM C Pt bs most hs mt H1 H A1 A2 i S1 S2 T g)(hB:_P.BsOk hs bs)(hm:most<=12)(hmt:mt=.n\/mt=.t\/mt=.l\/mt=.L)(hi:i<70){Q:VK}
  (q:∀(b:Bool) (A1':Ad) (S1':Ms) (H2:Hp),A1'.m=A1.m->KPt Pt H1 H2->Tb H2 Pt->MAt CM C H2 A2 bs most S2->
   (∀ {Q':VK} {X':XK},(∀(A2':Ad) (S2':Ms) (T':Tm) (g':Nat->Nat) (H3:Hp),A2'.m=A2.m->Duo CM C Pt bs most hs mt H1 H3 A1' A2' (i+1) S1' S2' T' g'->(b=false->T'.out≠none)->Q' (.bl b) H3)->IS CM C [.ref A2.m] H2 Q' X')->Q (.bl b) H2):IS CM C [.ref A1.m] H Q X:=by
 have gT:=D.tt.gd hm hmt (le_of_lt hi);refine⟨A1,bs,most,S1,rfl,D.m1,Q1 D.s1 gT, ?_⟩;by_cases ho:T.out=none
 ·obtain⟨T',F,A⟩:=D.tt.step hB hm hi ho;obtain⟨S1',v,a⟩:=UF D.s1 F;obtain⟨S2',g',B,d,G,s⟩:=VU D.rel v;have I:=A.gd hm hmt hi;have e:S2'.cs.length<=S1'.cs.length:=by have:=D.le;omega
  have r:=agZ d a (λz=>S9 a (I.he λy=>z ((Q8 a).mpr y))) e (s D.s2.okc);refine .inr ⟨S1',v,λA1' H2 j p f=> ?_⟩;have c:=MAt.kq D.m2 D.m1 p λy hy z=>D.ne y z hy;have E:∀y∈A1'.own,H1 y=none:=λy hy=>by
   rcases j.2 y hy with z|z
   ·exact D.o1 y z
   ·exact D.k.free z (IF D.t z)
  have x:∀y∈A1'.own,y∉A2.own:=λy hy z=>by
   rcases j.2 y hy with w|w
   ·exact D.ne y w z
   ·exact MAt.alloc D.m2 y z w
  have k2:=a5Z D.k D.o1 p;have t2:=D.m1.tab p D.t;refine q true A1' S1' H2 j.1 k2 t2 c λ{Q' X'} q'=>⟨A2,bs,most,S2,rfl,c,Q1 D.s2 gT,.inr ⟨S2',B,λA2' H3 h o u=> ?_⟩⟩;refine q' A2' S2' T' g' H3 h.1 ⟨a5Z k2 D.o2 o,c.tab o t2,E,λy hy=> ?_,λy hy z=> ?_,MAt.kq f c o x,u,d,a,r,A,e⟩ (λz=>nomatch z)
  ·rcases h.2 y hy with z|z
   ·exact D.o2 y z
   ·exact k2.free z (IF t2 z)
  ·rcases h.2 y z with w|w
   ·exact x y hy w
   ·exact MAt.alloc f y hy w
 ·have e1:=S9 D.s1 (gT.he ho);have e2:=S9 D.s2 (gT.he ho);exact .inl ⟨e1,q false A1 S1 H rfl D.k D.t D.m2 λ{Q' X'} q'=>⟨A2,bs,most,S2,rfl,D.m2,Q1 D.s2 gT,.inl ⟨e2,q' A2 S2 T g H rfl ⟨D.k,D.t,D.o1,D.o2,D.ne,D.m1,D.m2,D.rel,D.s1,D.s2,D.tt.mono,D.le⟩ λ_=>ho⟩⟩⟩
theorem ok_law(F:Fun Z "law" "law" s_law f fd)(B:_B.NoG mg)(RM:MCls Z CM gf gd)(M_Machine:Mk Z CM fim)(m_Machine:mg "Machine"=some (.ref CM))
  (GMachine___init__:FnOk P w Z mg base CX0 3 fim dim alZ (OX CM C))(bMachine___init__:Binds Z dim alZ [])
  (BF:FnOk P w Z mg base CX0 1 (gf "rows_done") (gd "rows_done") G0 (JA CM C true))
  (NZ:FnOk P w Z mg base CX0 1 (gf "calls") (gd "calls") G0 (JA CM C false))
  (M5:FnOk P w Z mg base CX0 6 (gf "answer") (gd "answer") G0 (U7 CM C Pt))
  (SY:FnOk P w Z mg base CX0 5 (gf "step") (gd "step") G0 (IS CM C))
  (F6:Cn P w Z mg base CX0 5 "_law_same" q5L (spSameD 4))
  (J7:Cn P w Z mg base CX0 1 "_law_cell_at" aoZ (Y8 Z))
  (EQ:Cn P w Z mg base CX0 6 "_law_program" QV (AZ Z))
  (N8:Cn P w Z mg base CX0 7 "_law_collected" cqZ (U3 CM C Pt))
  (LZ:Cn P w Z mg base CX0 7 "_law_kept" ["_law_other"] (UK CM C Pt)):
  FnOk P w Z mg base CX0 8 f fd QV (PK Z Pt):=by
 refine F.ok sc_law (λvs H Q E h=> ?_) (λbo A an s H vs Q X hr h=> ?_)
 ·obtain⟨a,ns,rfl,_⟩:=h;rfl
 obtain⟨a,ns,rfl,hS,hl,a7,q⟩:=h;have nd:=sc_law.nd;have hu:=hr.units0;refine⟨_,(A9 (L8 (cC EQ hr (A0 (pv 0) B4)) (DD rfl (L0 (gN 1 nd) (L0 (gN 2 nd) (L0 (gN 3 nd) Z7)))))
   (A9 (sS 4 nd (C1 E4 (cC J7 hr (A0 (pv 0) (A0 B0 B4))) B0))
   (A9 (sS 5 nd (QE M_Machine GMachine___init__ (hr.mono (by omega)) rfl m_Machine bMachine___init__ .nil Q4 (A0 (F9 (P8 (Z:=Z)) rfl B.list_ J8 (A0 (pv 1) B4)) (A0 (pv 2) (A0 (F9 (P8 (Z:=Z)) rfl B.list_ J8 (A0 (pv 3) B4)) (A0 (pv 4) B4))))))
   (A9 (sS 6 nd (QE M_Machine GMachine___init__ (hr.mono (by omega)) rfl m_Machine bMachine___init__ .nil Q4 (A0 (F9 (P8 (Z:=Z)) rfl B.list_ J8 (A0 (pv 1) B4)) (A0 (pv 2) (A0 (F9 (P8 (Z:=Z)) rfl B.list_ J8 (A0 (pv 3) B4)) (A0 (pv 4) B4))))))
   (A9 (sS 7 nd (cC J7 hr (A0 (pv 0) (A0 B0 B4))))
   (A9 (D3 (O1 PassesOwn.never rfl (J2 rfl B.range_ (A0 B0 B4)) (gN 8 nd) (A9 (sS 9 nd (C1 E4 (C1 EU (C1 (K6 (Z:=Z)) (pv 7) (C1 EU B0 (pv 8))) B0) B0))
   (A9 (sS 10 nd (L6 (kEq (Z:=Z) hu) (C1 E4 (C1 (K6 (Z:=Z)) (pv 7) (C1 EU (pv 8) (C1 E4 (C1 D6 (pv 7) B0) B0))) (ixE Z w (E7 (A0 B0 (A0 B0 (A0 B0 (A0 B0 B4))))) (C1 E4 (C1 D6 (pv 7) B0) B0))) B0 rfl))
   (A9 (D3 (D2 (PW.pt (R8 (E9 (Z:=Z) (pv 10) (λ_=>rfl)) (O6 (L9 (E9 (Z:=Z) (cC N8 hr (A0 (pv 5) (A0 (pv 6) (A0 (pv 9) B4)))) (λ_=>rfl)))))) (B5 (C2 O3)) C4))
   (A9 (sS 11 nd (mN (pv 5) RM.cl RM.m_step SY hr RM.b_step))
   (A9 (D2 (L9 (E9 (Z:=Z) (cC F6 hr (A0 (mN (pv 6) RM.cl RM.m_step SY hr RM.b_step) (A0 (pv 11) B4))) (λ_=>rfl))) (B5 (C2 O3)) C4)
   (A9 (D3 (D2 (PW.pt (R8 (C0 (kEq (Z:=Z) hu) (C1 E4 (C1 D6 (pv 9) B0) B0) B0 rfl) (O6 (L9 (E9 (Z:=Z) (cC F6 hr (A0 (mN (pv 6) RM.cl RM.m_answer M5 hr RM.b_answer) (A0 (mN (pv 5) RM.cl RM.m_answer M5 hr RM.b_answer) B4))) (λ_=>rfl)))))) (B5 (C2 O3)) C4))
   (A9 (D3 (D2 (PW.pt (P0 (C0 (kNe (Z:=Z) hu) (mN (pv 5) RM.cl RM.m_rows_done BF hr RM.b_rows_done) (mN (pv 6) RM.cl RM.m_rows_done BF hr RM.b_rows_done) rfl) (O0 (C0 (kNe (Z:=Z) hu) (mN (pv 5) RM.cl RM.m_calls NZ hr RM.b_calls) (mN (pv 6) RM.cl RM.m_calls NZ hr RM.b_calls) rfl)))) (B5 (C2 O3)) C4))
   (A9 (D2 (L9 (E9 (Z:=Z) (cC F6 hr (A0 (mN (pv 6) RM.cl RM.m_answer M5 hr RM.b_answer) (A0 (mN (pv 5) RM.cl RM.m_answer M5 hr RM.b_answer) B4))) (λ_=>rfl))) (B5 (C2 O3)) C4)
   (B5 (D2 (L9 (E9 (Z:=Z) (pv 11) (λ_=>rfl))) (B5 (C2 (T4 (cC N8 hr (A0 (pv 5) (A0 (pv 6) (A0 (pv 9) B4)))) (Y3 (cC LZ hr (A0 (pv 6) B4)))))) C4))))))))))))
   (B5 (C2 (cC N8 hr (A0 (pv 5) (A0 (pv 6) (A0 (pv 7) B4)))))))))))), ?_⟩
 have bb:Tb H Pt:=⟨_,a7,(by first|exact trivial|simp[TriplesOk]),.inl rfl⟩;refine⟨_,rfl,a,ns,rfl,hS,hl,λt bl nu hs bs d m mt xs H1 s1 ht hP=> ?_⟩;refine⟨t,_,rfl,SqT.of ht,rfl,_,_,rfl,_,_,rfl,_,_,rfl,rfl, ?_⟩;obtain⟨most,(em:G7 ns 6%13=(most:Int)),hm⟩:=P3 (G7 ns 6) (m:=13) (by decide);have W:most<=12:=Nat.le_of_lt_succ hm;refine⟨_,rfl,a,ns,6,rfl,s1.seq hS,by decide,_,_,rfl,rfl,(by decide:(0:Int)<13), ?_⟩;show K0 _ _ _ [some (.ref a),some (.ref bl),some (.int (d:Nat)),some (.ref nu),some (.int (G7 ns 6%13)),none,none,none,none,none,none,none] H1;rw[em];have bc:=_P.tb_same bb s1;have be:=s1.seq hS;obtain⟨vb,ar,hB⟩:=hP.bl;have aq:=hP.nu;have U:=hP.mh.2.2;have bn:=hP.mh.2.1;have bm:=hP.xl;obtain⟨bk,au,a4,aj⟩:=_P.run_start (most:=most) hP.ok hP.mh.1 hP.xl hP.xb;have ao:(xs.map λi=>Vl.sc (.int i)).length<=bk.sz:=by rw[length_map,a4];omega
 refine⟨_,rfl,bl,vb,rfl,.inl (SqL.of ar),λl1 ah=>⟨_,rfl,_,rfl,nu,_,rfl,.inl (SqL.of ((A8 ah _) _ _ aq)),λl2 ag=>⟨_,rfl,λx dx hx I hn=> ?_⟩⟩⟩;have l:=(A8 ah (.lst vb)).trans (A8 ag (.lst (xs.map V.int)));have w1:upd (upd H1 l1 (.lst vb)) l2 (.lst (xs.map V.int)) l1=some (.lst vb):=(A8 ag _) _ _ A7;have w2:upd (upd H1 l1 (.lst vb)) l2 (.lst (xs.map V.int)) l2=some (.lst (xs.map V.int)):=A7;generalize upd (upd H1 l1 (.lst vb)) l2 (.lst (xs.map V.int))=H0 at l w1 w2 hx I⊢;have t0:Same H0 (upd (upd H0 dx (.own x)) x (.ins CM dx [])):=λb ob e=>by rw[B7 (C6 e hx),B7 (C6 e I)];exact e
 have N:Mo H1 (upd (upd H0 dx (.own x)) x (.ins CM dx [])):=B9 (l.trans t0);refine⟨x,dx,l1,l2,vb,xs.map V.int,d,most,bs,bk,xs.map λi=>Vl.sc (.int i),rfl,A7,t0 _ _ w1,hB.imp λ_ _ z=>BAt.mo N z,au,t0 _ _ w2,EA xs,ao,λB1 H2 eA k1 nw av=>⟨rfl, ?_⟩⟩;have O:Same H1 H2:=λb ob e=>k1 _ _ (t0 _ _ (l _ _ e)) (C6 (l _ _ e) hx);have ab:∀y∈B1.own,H1 y=none:=λy hy=>by
  rcases nw y hy with z|z
  ·rw[z];exact l.free hx
  ·exact l.free (t0.free z)
 subst eA;show K0 _ _ _ [some (.ref a),some (.ref bl),some (.int (d:Nat)),some (.ref nu),some (.int (most:Nat)),some (.ref B1.m),none,none,none,none,none,none] H2;clear k1 nw I hn t0 N w1 w2 hx l ah ag dx;have ai:=O _ _ ar;have ad:=O _ _ aq;refine⟨_,rfl,bl,vb,rfl,.inl (SqL.of ai),λl3 af=>⟨_,rfl,_,rfl,nu,_,rfl,.inl (SqL.of ((A8 af _) _ _ ad)),λl4 ae=>⟨_,rfl,λx dx hx I hn=> ?_⟩⟩⟩;have l:=(A8 af (.lst vb)).trans (A8 ae (.lst (xs.map V.int)));have w1:upd (upd H2 l3 (.lst vb)) l4 (.lst (xs.map V.int)) l3=some (.lst vb):=(A8 ae _) _ _ A7;have w2:upd (upd H2 l3 (.lst vb)) l4 (.lst (xs.map V.int)) l4=some (.lst (xs.map V.int)):=A7;generalize upd (upd H2 l3 (.lst vb)) l4 (.lst (xs.map V.int))=am at l w1 w2 hx I⊢;have t0:Same am (upd (upd am dx (.own x)) x (.ins CM dx [])):=λb ob e=>by rw[B7 (C6 e hx),B7 (C6 e I)];exact e
 have N:Mo H1 (upd (upd am dx (.own x)) x (.ins CM dx [])):=B9 (O.trans (l.trans t0));refine⟨x,dx,l3,l4,vb,xs.map V.int,d,most,bs,bk,xs.map λi=>Vl.sc (.int i),rfl,A7,t0 _ _ w1,hB.imp λ_ _ z=>BAt.mo N z,au,t0 _ _ w2,EA xs,ao,λB2 H3 eA k1 nw bg=>⟨rfl, ?_⟩⟩;have ap:Same H2 H3:=λb ob e=>k1 _ _ (t0 _ _ (l _ _ e)) (C6 (l _ _ e) hx);have G:∀y∈B2.own,H2 y=none:=λy hy=>by
  rcases nw y hy with z|z
  ·rw[z];exact l.free hx
  ·exact l.free (t0.free z)
 subst eA;show K0 _ _ _ [some (.ref a),some (.ref bl),some (.int (d:Nat)),some (.ref nu),some (.int (most:Nat)),some (.ref B1.m),some (.ref B2.m),none,none,none,none,none] H3;clear k1 nw I hn t0 N w1 w2 hx l af ae dx;have ac:=O.trans ap;have bd:SqL Z H3 a (ns.map V.int):=ac.seq be;refine⟨_,rfl,a,ns,5,rfl,bd,by decide, ?_⟩;show K0 _ _ _ [some (.ref a),some (.ref bl),some (.int (d:Nat)),some (.ref nu),some (.int (most:Nat)),some (.ref B1.m),some (.ref B2.m),some (.int (G7 ns 5)),none,none,none,none] H3;have M:Sim ⟨[],[begun d bk.sz (xs.map λi=>Vl.sc (.int i))],none,0,0⟩ ⟨[N4 d bk.sz (xs.map λi=>Tv.sc (.int i))],none,0,0,0⟩:=SF (OJ xs);have o:∀k,Vl.cell k∉hangs none [begun d bk.sz (xs.map λi=>Vl.sc (.int i))]:=λk hk=>by
  obtain⟨f0,h1,h2⟩:=mem_hang.mp hk;rw[sZ h1]at h2;obtain⟨i,_,e⟩:=mem_map.mp (BB h2);cases e
 have aa:Rel ⟨[],[begun d bk.sz (xs.map λi=>Vl.sc (.int i))],none,0,0⟩ ⟨[],[begun d bk.sz (xs.map λi=>Vl.sc (.int i))],none,0,0⟩ id:=by
  have nr:∀j,¬Rc [] (hangs none [begun d bk.sz (xs.map λi=>Vl.sc (.int i))]) j:=λj r=>by
   induction r with
   |root h=>exact o _ h
   |step _ _ _ ih=>exact ih
  refine⟨?_,rfl,rfl,rfl,⟨λj k hj=>absurd hj (nr j),λk c hk=>absurd hk (nr k)⟩,λk j c hk=>(by simp at hk),λk hk=>absurd hk (o k)⟩;show [begun d bk.sz _]=[mvF (mp id) (begun d bk.sz _)];rw[AN,map_map];rfl
 have D0:Duo CM C Pt bs most hs mt H1 H3 B1 B2 0 _ _ _ id:=⟨.of ac,_P.tb_same bc ac,ab,λy hy=>O.free (G y hy),λy hy z=>MAt.alloc av y hy (G y z),av.same ap,bg,aa,M,M,.run aj (le_refl _) (le_refl _),le_refl _⟩;refine⟨fun σ' H'=>∃x8 x9 J v A1 A2 S1 S2 T g,A1.m=B1.m/\A2.m=B2.m/\σ'=[some (.ref a),some (.ref bl),some (.int (d:Nat)),some (.ref nu),some (.int (most:Nat)),some (.ref B1.m),some (.ref B2.m),some (.int (G7 ns 5)),x8,x9,J,v]/\Duo CM C Pt bs most hs mt H1 H' A1 A2 70 S1 S2 T g, ?_, ?_⟩
 ·refine⟨((70:Nat):Int),rfl,by decide,by decide,Q9 (n:=70) (λi σ' H'=>∃x8 x9 J v A1 A2 S1 S2 T g,A1.m=B1.m/\A2.m=B2.m/\σ'=[some (.ref a),some (.ref bl),some (.int (d:Nat)),some (.ref nu),some (.int (most:Nat)),some (.ref B1.m),some (.ref B2.m),some (.int (G7 ns 5)),x8,x9,J,v]/\Duo CM C Pt bs most hs mt H1 H' A1 A2 i S1 S2 T g) ⟨none,none,none,none,B1,B2,_,_,_,_,rfl,rfl,rfl,D0⟩ ?_ λ_ _ h=>h⟩;rintro i σ' H' hi ⟨x8,x9,J,v,A1,A2,S1,S2,T,g,e1,e2,rfl,D⟩;rw[<-e1,<-e2];refine⟨_,rfl,_,rfl,.inl ⟨_,_,rfl,rfl,.inl ⟨by decide,by decide⟩,.inl ⟨_,_,rfl,rfl,.inl ⟨_,_,rfl,rfl,.inr ⟨by decide,by decide⟩,_,_,rfl,rfl,(by decide:(0:Int)<1000003), ?_⟩⟩⟩⟩;generalize(G7 ns 5+7919*(0+((i:Nat):Int)))*48271%1000003=bits;show K0 _ _ _ [some (.ref a),some (.ref bl),some (.int (d:Nat)),some (.ref nu),some (.int (most:Nat)),some (.ref A1.m),some (.ref A2.m),some (.int (G7 ns 5)),some (.int (0+((i:Nat):Int))),some (.int bits),J,v] H';obtain⟨j,(ej:(G7 ns 5).fdiv 35%4=(j:Int)),hj⟩:=P3 ((G7 ns 5).fdiv 35) (m:=4) (by decide);obtain⟨dv,a9,dp⟩:∃dv:Int,[V.int 1,V.int 2,V.int 5,V.int 11][j]? =some (.int dv)/\0<dv:=by
   have:j=0\/j=1\/j=2\/j=3:=by omega
   rcases this with rfl|rfl|rfl|rfl
   ·exact⟨1,rfl,by decide⟩
   ·exact⟨2,rfl,by decide⟩
   ·exact⟨5,rfl,by decide⟩
   ·exact⟨11,rfl,by decide⟩
  refine⟨_,rfl,_,rfl,_,rfl,_,_,rfl,rfl,lg (by decide) (by decide),_,_,rfl,rfl,(by decide:(0:Int)<5),.inl ⟨_,_,rfl,rfl,.inl ⟨by omega,by omega⟩,.inl ⟨_,_,rfl,rfl, ?_⟩⟩⟩;refine⟨(by decide),λl4 h4=>⟨_,rfl,_,_,rfl,rfl,lg (by decide) (by decide),_,_,rfl,rfl,(by decide:(0:Int)<4),.inl ⟨l4,_,(j:Int),_,rfl,congrArg V.int ej,SqL.of A7,D4 a9,_,_,rfl,rfl,dp,.inl ⟨rfl, ?_⟩⟩⟩⟩;have s4:=A8 h4 (.lst [V.int 1,V.int 2,V.int 5,V.int 11]);have D1:=D.pt (.of s4) (_P.tb_same D.t s4);generalize upd H' l4 (.lst [V.int 1,V.int 2,V.int 5,V.int 11])=H4 at D1⊢;generalize decide (V.int ((G7 ns 5+(0+((i:Nat):Int))*((G7 ns 5).fdiv 7%5))%dv)=V.int 0)=L;show K0 _ _ _ [some (.ref a),some (.ref bl),some (.int (d:Nat)),some (.ref nu),some (.int (most:Nat)),some (.ref A1.m),some (.ref A2.m),some (.int (G7 ns 5)),some (.int (0+((i:Nat):Int))),some (.int bits),some (.bl L),v] H4;have gT:=D.tt.gd W U (le_of_lt hi);refine⟨fun σ' H'=>∃Y al g',Y.m=A2.m/\σ'=[some (.ref a),some (.ref bl),some (.int (d:Nat)),some (.ref nu),some (.int (most:Nat)),some (.ref A1.m),some (.ref A2.m),some (.int (G7 ns 5)),some (.int (0+((i:Nat):Int))),some (.int bits),some (.bl L),v]/\Duo CM C Pt bs most hs mt H1 H' A1 Y i S1 al T g', ?_, ?_⟩
  ·cases L with
   |false=>exact⟨_,rfl,false,rfl,ifF (by decide) (ifF (by decide) ⟨A2,S2,g,rfl,rfl,D1⟩)⟩
   |true=>exact⟨_,rfl,true,rfl,ifT rfl ⟨_,rfl,_,rfl,_,rfl,D1.collected (X:=E0) gT bits λY al g' H5 em D5 _=>⟨true,rfl,ifF (by decide) ⟨Y,al,g',em,rfl,D5⟩⟩⟩⟩
  rintro _ H5 ⟨A3,S3,g3,e3,rfl,D5⟩;rw[<-e3];clear D D1;obtain⟨_,_,_,_,a6,_⟩:=D5.m1.ex;refine⟨_,rfl,A1.m,A1.dx,_,rfl,a6.m,rfl, ?_⟩
  try unfold W2
  refine D5.step (X:=E0) hP.ok W U hi λb A4 S4 H6 e4 k6 t6 m6 go=> ?_;show K0 _ _ _ [some (.ref a),some (.ref bl),some (.int (d:Nat)),some (.ref nu),some (.int (most:Nat)),some (.ref A1.m),some (.ref A3.m),some (.int (G7 ns 5)),some (.int (0+((i:Nat):Int))),some (.int bits),some (.bl L),some (.bl b)] H6;rw[<-e4];obtain⟨_,_,_,_,a5,_⟩:=m6.ex;refine⟨_,rfl,A3.m,A3.dx,_,rfl,a5.m,rfl, ?_⟩
  try unfold W2
  refine go (X':=E0) λA5 S5 T5 g5 H7 e5 D7 a8=> ?_;refine⟨_,rfl,_,_,rfl,_P.dq_sc rfl _,λH8 s8=>⟨true,rfl,ifF (by decide) ?_⟩⟩;have D8:=D7.pt (.of s8) (_P.tb_same D7.t s8);rw[<-e5];have u:=D8.tt.gd W U hi;clear D7 D5;refine⟨fun σ' H'=>σ'=[some (.ref a),some (.ref bl),some (.int (d:Nat)),some (.ref nu),some (.int (most:Nat)),some (.ref A4.m),some (.ref A5.m),some (.int (G7 ns 5)),some (.int (0+((i:Nat):Int))),some (.int bits),some (.bl L),some (.bl b)]/\Duo CM C Pt bs most hs mt H1 H' A4 A5 (i+1) S4 S5 T5 g5,⟨_,rfl,_,_,rfl,rfl,lg (by decide) (by decide),_,_,rfl,rfl,(by decide:(0:Int)<2),.inl ⟨rfl,_,rfl, ?_⟩⟩, ?_⟩
  ·by_cases c1:bits.fdiv 4%2=1
   ·refine ifT (decide_eq_true (congrArg V.int c1)) ?_;obtain⟨ax,a0,bi,o5,R⟩:=MAt.md D8.m2 D8.s2 u;obtain⟨ay,a3,bj,o4,ak⟩:=MAt.md D8.m1 D8.s1 u;refine⟨_,rfl,A5.m,A5.dx,_,rfl,R.r.m,rfl, ?_⟩
    try unfold W2
    refine T2 R D8.t λu1 HA kA tA a1=> ?_;have p:=ak.pt D8.t kA;refine⟨_,rfl,A4.m,A4.dx,_,rfl,p.r.m,rfl, ?_⟩
    try unfold W2
    refine T2 p tA λu2 HB kB tB a2=> ?_;refine⟨u1,u2,rfl,HZ D8.s2 D8.s1 u (a1.ml (KPt.ml tA kB)) a2,λHC sC=>⟨true,rfl,ifF (by decide) ?_⟩⟩;have D9:=D8.pt ((kA.trans kB).trans (.of sC)) (_P.tb_same tB sC);exact⟨rfl,D9⟩
   ·exact ifF (λz=>c1 (by have:=of_decide_eq_true z;injection this)) (ifF (by decide) ⟨rfl,D8⟩)
  rintro _ H9 ⟨rfl,D8⟩;refine⟨fun σ' H'=>σ'=[some (.ref a),some (.ref bl),some (.int (d:Nat)),some (.ref nu),some (.int (most:Nat)),some (.ref A4.m),some (.ref A5.m),some (.int (G7 ns 5)),some (.int (0+((i:Nat):Int))),some (.int bits),some (.bl L),some (.bl b)]/\H9=H', ?_, ?_⟩
  ·obtain⟨_,_,_,_,h4,_⟩:=D8.m1.ex;obtain⟨_,_,_,_,h5,_⟩:=D8.m2.ex;have er:S5.r=S4.r:=D8.rel.r;have ec:S5.c=S4.c:=D8.rel.c;exact⟨_,rfl,A4.m,A4.dx,_,rfl,h4.m,rfl,A4,_,_,_,_,rfl,h4.m,_,rfl,A5.m,A5.dx,_,rfl,h5.m,rfl,A5,_,_,_,_,rfl,h5.m,.inl ⟨rfl,_,rfl,ifF (by simp[er]) ⟨_,rfl,A4.m,A4.dx,_,rfl,h4.m,rfl,A4,_,_,_,_,rfl,h4.m,_,rfl,A5.m,A5.dx,_,rfl,h5.m,rfl,A5,_,_,_,_,rfl,h5.m,.inl ⟨rfl,_,rfl,ifF (by simp[ec]) ⟨rfl,rfl⟩⟩⟩⟩⟩
  rintro _ _ ⟨rfl,rfl⟩;obtain⟨ax,a0,bi,o5,R⟩:=MAt.md D8.m2 D8.s2 u;obtain⟨ay,a3,bj,o4,ak⟩:=MAt.md D8.m1 D8.s1 u;refine⟨_,rfl,A5.m,A5.dx,_,rfl,R.r.m,rfl, ?_⟩
  try unfold W2
  refine T2 R D8.t λu1 HA kA tA a1=> ?_;have p:=ak.pt D8.t kA;refine⟨_,rfl,A4.m,A4.dx,_,rfl,p.r.m,rfl, ?_⟩
  try unfold W2
  refine T2 p tA λu2 HB kB tB a2=> ?_;refine⟨u1,u2,rfl,HZ D8.s2 D8.s1 u (a1.ml (KPt.ml tA kB)) a2,λHC sC=>⟨true,rfl,ifF (by decide) ?_⟩⟩;have D9:=D8.pt ((kA.trans kB).trans (.of sC)) (_P.tb_same tB sC);cases b with
  |true=>exact⟨_,rfl,true,rfl,ifF (by decide) ⟨_,_,_,_,A4,A5,S4,S5,T5,g5,rfl,rfl,rfl,D9⟩⟩
  |false=>
   refine⟨_,rfl,false,rfl,ifT (by decide) ?_⟩;refine⟨_,rfl,_,rfl,_,rfl,D9.collected (X:=E0) u bits λA6 S6 g6 bp em S ba=> ?_⟩;obtain⟨aw,az,bh,o6,bf⟩:=MAt.md S.m2 S.s2 u;exact⟨true,rfl,ifT rfl ⟨_,rfl,A6,bs,most,S6,T5,aw,az,bh,o6,congrArg (λz=> [V.ref z]) em.symm,bf,S.s2,u,λz=>a8 rfl ((Q8 S.s2).mp z),ba,S.t,λH'=>q H'⟩⟩
 rintro _ H4 ⟨x8,x9,J,v,A1,A2,S1,S2,T,g,e1,e2,rfl,D⟩;rw[<-e1,<-e2];exact⟨_,rfl,_,rfl,_,rfl,D.collected (X:=E0) (D.tt.gd W U (le_refl _)) _ λ_ _ _ H5 _ _ _=>q H5⟩
end
end _K
namespace PySem.W.Fast
def tw10397255403310622984:=Nat
def tw13932913542614160876:=Nat
def tw12513765434526139213:=Nat
def tw1748922848428730513:=Nat
def tw8482877977499561918:=Nat
def tw4921701704491726348:=Nat
def tw12908527697139345713:=Nat
def tw1609114417199736489:=Nat
def tw735875678028677285:=Nat
def tw15629919521365014932:=Nat
def tw8627655486896745157:=Nat
def tw13351426664671824746:=Nat
def tw13707967595504124490:=Nat
def tw7768789495323708236:=Nat
def tw14542638335718564558:=Nat
def tw9643900335889151932:=Nat
def tw7071298068359654821:=Nat
def tw12068057647970491134:=Nat
def tw10336129480235340246:=Nat
def tw13748900177592623858:=Nat
def tw3975103649772744901:=Nat
def tw4832377260715969036:=Nat
def tw8443884494295183405:=Nat
def tw2318769885473614478:=Nat
def tw598051218034722474:=Nat
def tw12475197624977368238:=Nat
def tw18077944806787889197:=Nat
def tw9993116400067776706:=Nat
def tw1610087192821060797:=Nat
def tw6681503092561040787:=Nat
def tw4176217370012160572:=Nat
def tw5358234674577023242:=Nat
def tw17310110929572876672:=Nat
def tw721639237641791925:=Nat
def tw6366946844357263279:=Nat
def tw6023632389702037881:=Nat
def tw7213241173130301828:=Nat
def tw2387200385897459509:=Nat
def tw6072101211711844587:=Nat
def tw5871988319145849064:=Nat
def tw3906663234250223902:=Nat
def tw10762639288775341848:=Nat
def tw2456418822855716640:=Nat
def tw9896836007501333711:=Nat
def tw8043227830737331180:=Nat
def tw7936529550967644406:=Nat
def tw16142314838817449480:=Nat
def tw3810557479254886809:=Nat
def tw17251637792665973566:=Nat
def tw1158618060125976009:=Nat
def tw55901652834765153:=Nat
def tw3958360338352930745:=Nat
def tw16926091935435054185:=Nat
def tw3739779247874680359:=Nat
def tw15647790071035244746:=Nat
def tw14833233973388164648:=Nat
def tw1578784476564360234:=Nat
def tw11277892064627288491:=Nat
def tw5692367079426505361:=Nat
def tw5315023529286564163:=Nat
def tw2202690303396697217:=Nat
def tw4166462040833011671:=Nat
def tw7092868345366283724:=Nat
def tw6838668299091575320:=Nat
def tw8683180565175201555:=Nat
def tw11335950674986890104:=Nat
def tw6985502506775166555:=Nat
def tw12420581271629168087:=Nat
def tw18281237837446621761:=Nat
def tw7847727413097226112:=Nat
def tw12985533874142944687:=Nat
def tw5543284793911012737:=Nat
def tw15100451948282165895:=Nat
def tw6625052069327720206:=Nat
def tw6333244610358968224:=Nat
def tw14207164897663663991:=Nat
def tw9145958687549368508:=Nat
def tw6674211224838432649:=Nat
def tw8332893794434093607:=Nat
def tw1532011711170440782:=Nat
def tw10898463828738679460:=Nat
def tw7885465088156921604:=Nat
def tw7052313783104834534:=Nat
def tw3325184998221561459:=Nat
def tw712449730490050293:=Nat
def tw3188946984459321990:=Nat
def tw15869104271943713404:=Nat
def tw4018523720504588993:=Nat
def tw9549709393782046080:=Nat
def tw9886127852311245313:=Nat
def tw8380842917667419596:=Nat
def tw17599488960582109479:=Nat
def tw4406390190636684566:=Nat
def tw7596236452169856753:=Nat
def tw4789318462574259420:=Nat
def tw3651479771068906726:=Nat
def tw12785480394800317430:=Nat
def tw10986429742250052578:=Nat
def tw8818902690370164231:=Nat
def tw13390949173694523063:=Nat
def tw13417739095154081656:=Nat
def tw9229662523610152729:=Nat
def tw4178598636934007310:=Nat
def tw366454655135088873:=Nat
def tw3920408315101164660:=Nat
def tw9996201909085956307:=Nat
def tw11086474524135984327:=Nat
def tw12909979503462397820:=Nat
def tw3177843927920016164:=Nat
def tw10008545952370017775:=Nat
def tw8472308555134114402:=Nat
def tw3982813524920939220:=Nat
def tw2837600623277480258:=Nat
def tw18192566840666923123:=Nat
def tw9811003753262943085:=Nat
def tw13093863786006471196:=Nat
def tw6774744914618117640:=Nat
def tw10887632958004690560:=Nat
def tw16701695383946579912:=Nat
def tw15599449031597210466:=Nat
def tw459107254919700822:=Nat
def tw14349935365272538918:=Nat
def tw11771746595295758000:=Nat
def tw18333804620319394891:=Nat
def tw1318767177776358621:=Nat
def tw16559530423519906127:=Nat
def tw16742209278582057345:=Nat
def tw6502377371431766712:=Nat
def tw12187645134687142495:=Nat
def tw12869039282049552130:=Nat
def tw11962490292154700348:=Nat
def tw18180820664578010968:=Nat
def tw16356198314219450943:=Nat
def tw7778638545263847555:=Nat
def tw4914967773183359727:=Nat
def tw12106545593266651565:=Nat
def tw5128922303998045443:=Nat
def tw11552332961157982731:=Nat
def tw15711310452753792900:=Nat
def tw11882021980109837688:=Nat
def tw10094870870150531717:=Nat
def tw4733775226235215905:=Nat
def tw3820884809493919662:=Nat
def tw11565571907225874284:=Nat
def tw9553542807147769641:=Nat
def tw1640984533056408503:=Nat
def tw16984164557804027959:=Nat
def tw2491333528182196771:=Nat
def tw16981442309726491979:=Nat
def tw158371253422740062:=Nat
def tw18046674493234561672:=Nat
def tw4584820695166261947:=Nat
def tw13286400435453062890:=Nat
def tw3259143982796037601:=Nat
def tw2571839188674163326:=Nat
def tw3300745931325921369:=Nat
def tw1919726943882691214:=Nat
def tw9948708041881410453:=Nat
def tw1329945503022706715:=Nat
def tw6133665611029459623:=Nat
def tw9962331485446625170:=Nat
def tw6022556026171342368:=Nat
def tw705017061968349292:=Nat
def tw8358356919050872009:=Nat
def tw12060846015441696624:=Nat
def tw11484070270514987261:=Nat
def tw12355557845424315300:=Nat
def tw10631864426936590402:=Nat
def tw14343960569619011512:=Nat
def tw14229596537814460412:=Nat
def tw10161585758811220076:=Nat
def tw10402933256982110860:=Nat
def tw5589386600680452504:=Nat
def tw13493005844750530925:=Nat
def tw12161297377483856237:=Nat
def tw17795840891044148745:=Nat
def tw17890104506302519669:=Nat
def tw13938405507250374044:=Nat
def tw16784993193754596582:=Nat
def tw9247582737701441802:=Nat
def tw12627708538310639714:=Nat
def tw10711619374408696108:=Nat
def tw4847218683069916641:=Nat
def tw12745694132506909907:=Nat
def tw9841406120207291841:=Nat
def tw14506930682522272519:=Nat
def tw9885675018421313172:=Nat
def tw16830272079922511326:=Nat
def tw9669041028576100249:=Nat
def tw199367939124828322:=Nat
def tw12079673985159183619:=Nat
def tw4185068469563307409:=Nat
def tw9373561471271249566:=Nat
def tw6283867138730751302:=Nat
def tw1009261048201243348:=Nat
def tw3084962801570624901:=Nat
def tw10818254073842837432:=Nat
def tw2819279862610535426:=Nat
def tw2256404486449418379:=Nat
def tw7830986918265182767:=Nat
def tw10544708114204853861:=Nat
def tw3131294814473944403:=Nat
def tw12076133611694213990:=Nat
def tw13274582959288437092:=Nat
def tw17559246614959857750:=Nat
def tw10099986544712556684:=Nat
def tw1381074711654810369:=Nat
def tw3909473151879797448:=Nat
def tw14636989227491548828:=Nat
def tw13494297689378664240:=Nat
def tw13379944321286140428:=Nat
def tw3485292610848050342:=Nat
def tw16043028693855858624:=Nat
def tw11881391991582113589:=Nat
def tw9145822802272306951:=Nat
def tw7223030723491314852:=Nat
def tw11073846894355199995:=Nat
def tw9337474981210990593:=Nat
def tw5936873460736723006:=Nat
def tw4242457686233578487:=Nat
def tw10899174197202266034:=Nat
def tw4933916150130354673:=Nat
def tw11139662668247538842:=Nat
def tw3154794696814276119:=Nat
def tw3162962472497072714:=Nat
def tw5838865845953971601:=Nat
def tw5846279657448440168:=Nat
def tw4415242527582084559:=Nat
def tw10595513980804623908:=Nat
def tw10783897735780892953:=Nat
def tw12524469387389059363:=Nat
def tw1962398924550467916:=Nat
def tw13909949523669492485:=Nat
def tw4620345269344028684:=Nat
def tw4898028407660262983:=Nat
def tw2178424100866351495:=Nat
def tw262055741043009351:=Nat
def tw1628365432571781815:=Nat
def tw11827494061255421396:=Nat
def tw12067286379397989848:=Nat
def tw5255066896076488454:=Nat
def tw5031343472736434456:=Nat
def tw17547843529918951229:=Nat
def tw7661963055006876344:=Nat
def tw14487407832099191524:=Nat
def tw213345063854216263:=Nat
def tw3454207733728531226:=Nat
def tw12613404328701554937:=Nat
def tw7673823959466631334:=Nat
def tw18086358111714434566:=Nat
def tw5354983906566550265:=Nat
def tw9053026965724928899:=Nat
def tw1943740327847664072:=Nat
def tw8562829605428066189:=Nat
def tw6382554139164248496:=Nat
def tw9979717750394901477:=Nat
def tw15371512589130884782:=Nat
def tw15332530093230496912:=Nat
def tw15751721631066328361:=Nat
def tw5490542046972497194:=Nat
def tw15492884164032230772:=Nat
def tw14056566342005531122:=Nat
def tw12091101381564348452:=Nat
def tw11892438715467114316:=Nat
def tw12019717503488095882:=Nat
def tw8902687876970747135:=Nat
def tw5989444295307388364:=Nat
def tw15222169166896221095:=Nat
def tw1203031309479301195:=Nat
def tw1233007379644151177:=Nat
def tw4355798568815361847:=Nat
def tw3379090585539462014:=Nat
def tw10500952224837044335:=Nat
def tw4840027199375072797:=Nat
def tw17849589333473680036:=Nat
def tw12332859104641984569:=Nat
def tw12261133485795323126:=Nat
def tw6815326576663530117:=Nat
def tw1229260631792694281:=Nat
def tw17694593243771055619:=Nat
def tw9967306838880522100:=Nat
def tw16032991128718182993:=Nat
def tw7033771708339772921:=Nat
def tw17554425147223030443:=Nat
def tw7264565078017918335:=Nat
def tw2608918698599369553:=Nat
def tw6881748377483147065:=Nat
def tw10578679186728332472:=Nat
def tw16074344237504262214:=Nat
def tw9751808587221489607:=Nat
def tw4527966276765675667:=Nat
def tw2488950795205669377:=Nat
def tw12811315242507230720:=Nat
def tw1351292592790584969:=Nat
def tw10103670572228342817:=Nat
def tw14694827794892682412:=Nat
def tw15151817891038797317:=Nat
def tw10411770687178274323:=Nat
def tw6239822990748381625:=Nat
def tw7745373711828179789:=Nat
def tw4231698465700050162:=Nat
def tw844626218545781229:=Nat
def tw11157992433551525263:=Nat
def tw4724432883769051496:=Nat
def tw16602853858951521768:=Nat
def tw6297685169629912114:=Nat
def tw2087720654608231217:=Nat
def tw3689842376578822654:=Nat
def tw16425041253195502693:=Nat
def tw15640538448370620212:=Nat
def tw8230843726357665645:=Nat
end PySem.W.Fast
namespace _K
open PySem _L
noncomputable def MY{α:Type}(l:List (Str×α))(d:α)(x:Str):α:=(l.lookup x).getD d
theorem E1{α:Type}(d:α):∀(l:List (Str×α)) (i:Nat) (x:Str) (v:α),l[i]? =some (x,v)->(l.map (·.1)).Nodup->MY l d x=v
 | [],i,x,v,h,_=>by cases h
 |(y,u)::r,0,x,v,h,_=>by
  cases h;unfold MY;rw[List.lookup_cons_self];rfl
 |(y,u)::r,i+1,x,v,h,hn=>by
  have h':r[i]? =some (x,v):=h;rw[map_cons,nodup_cons]at hn;have hm:x∈r.map (·.1):=mem_map.mpr ⟨(x,v),mem_of_getElem? h',rfl⟩;have a:x≠y:=λe=>hn.1 (e▸hm);have ih:=E1 d r i x v h' hn.2;unfold MY at ih⊢;rw[lookup_cons,show(x==y)=false from beq_false_of_ne a];exact ih
theorem K1:(["put","at","many","told"]:List Str).Nodup:=by decide +kernel
theorem d7Z(f0 f1 f2 f3:Addr)(d0 d1 d2 d3:FuncData):∃(mf:Str->Addr) (md:Str->FuncData),mf "put"=f0/\mf "at"=f1/\mf "many"=f2/\mf "told"=f3/\md "put"=d0/\md "at"=d1/\md "many"=d2/\md "told"=d3:=
 ⟨MY [("put",f0),("at",f1),("many",f2),("told",f3)] f0,MY [("put",d0),("at",d1),("many",d2),("told",d3)] d0,E1 _ _ 0 _ _ rfl K1,E1 _ _ 1 _ _ rfl K1,E1 _ _ 2 _ _ rfl K1,E1 _ _ 3 _ _ rfl K1,E1 _ _ 0 _ _ rfl K1,E1 _ _ 1 _ _ rfl K1,E1 _ _ 2 _ _ rfl K1,E1 _ _ 3 _ _ rfl K1⟩
/-- a def of the top,as it lies -/
noncomputable def DefAt(Z:FZ)(x:Str)(st:Stmt)(f:Addr)(fd:FuncData):Prop:=∃(oc kV dc pm cd ct:Value) (od an:Option Addr) (sl:Array (Option Value)),fd=fnOf x x (E8 st) (E5 st) (B6 st) .none kV dc pm an cd ct/\PySem.W.nsIn Z mainGlobals x=some (some (.ref f))/\Z.lookup f=some ⟨oc,od,.func (fnOf x x (E8 st) (E5 st) (B6 st) .none kV dc pm an cd ct),sl⟩/\codeIn Z cd x=true/\PySem.W.keepIn Z (.ref f)=true
section
theorem DefAt.ns{st:Stmt}(h:DefAt Z x st f fd):PySem.W.nsIn Z mainGlobals x=some (some (.ref f)):=by
 obtain⟨_,_,_,_,_,_,_,_,_,_,a,_⟩:=h;exact a
theorem DefAt.kp{st:Stmt}(h:DefAt Z x st f fd):kZ Z (.ref f)=true:=by
 obtain⟨_,_,_,_,_,_,_,_,_,_,_,_,_,a⟩:=h;exact a
theorem DefAt.fn{st:Stmt}(h:DefAt Z x st f fd):Fun Z x x st f fd:=by
 obtain⟨_,_,_,_,_,_,_,_,_,rfl,_,l,c,k⟩:=h;exact S7 l c k
end
/-- a method of a class,as it lies -/
noncomputable def MethAt(Z:FZ)(C:Addr)(x qn:Str)(st:Stmt)(f:Addr)(fd:FuncData):Prop:=∃(oc kV dc pm cd ct:Value) (od an:Option Addr) (sl:Array (Option Value)),fd=fnOf x qn (E8 st) (E5 st) (B6 st) .none kV dc pm an cd ct/\findIn Z (.ref C) x=some (some (.ref f))/\Z.lookup f=some ⟨oc,od,.func (fnOf x qn (E8 st) (E5 st) (B6 st) .none kV dc pm an cd ct),sl⟩/\codeIn Z cd qn=true/\PySem.W.keepIn Z (.ref f)=true/\isFn Z (.ref f)=true
section
theorem MethAt.me{st:Stmt}(h:MethAt Z C x qn st f fd):Meth Z C x f:=by
 obtain⟨_,_,_,_,_,_,_,_,_,_,a,_,_,k,j⟩:=h;exact⟨a,j,k⟩
theorem MethAt.fn{st:Stmt}(h:MethAt Z C x qn st f fd):Fun Z x qn st f fd:=by
 obtain⟨_,_,_,_,_,_,_,_,_,rfl,_,l,c,k,_⟩:=h;exact S7 l c k
end
theorem C7:(["step","go_on","enter","leave","end","collect","hung_on","hang_on","has_value","answer","frames","cells","rows_done","calls"]:List Str).Nodup:=by decide +kernel
theorem dpZ(f0 f1 f2 f3 f4 f5 f6 f7 f8 f9 f10 f11 f12 f13:Addr)(d0 d1 d2 d3 d4 d5 d6 d7 d8 d9 d10 d11 d12 d13:FuncData):∃(mf:Str->Addr) (md:Str->FuncData),mf "step"=f0/\mf "go_on"=f1/\mf "enter"=f2/\mf "leave"=f3/\mf "end"=f4/\mf "collect"=f5/\mf "hung_on"=f6/\mf "hang_on"=f7/\mf "has_value"=f8/\mf "answer"=f9/\mf "frames"=f10/\mf "cells"=f11/\mf "rows_done"=f12/\mf "calls"=f13/\md "step"=d0/\md "go_on"=d1/\md "enter"=d2/\md "leave"=d3/\md "end"=d4/\md "collect"=d5/\md "hung_on"=d6/\md "hang_on"=d7/\md "has_value"=d8/\md "answer"=d9/\md "frames"=d10/\md "cells"=d11/\md "rows_done"=d12/\md "calls"=d13:=
 ⟨MY [("step",f0),("go_on",f1),("enter",f2),("leave",f3),("end",f4),("collect",f5),("hung_on",f6),("hang_on",f7),("has_value",f8),("answer",f9),("frames",f10),("cells",f11),("rows_done",f12),("calls",f13)] f0,MY [("step",d0),("go_on",d1),("enter",d2),("leave",d3),("end",d4),("collect",d5),("hung_on",d6),("hang_on",d7),("has_value",d8),("answer",d9),("frames",d10),("cells",d11),("rows_done",d12),("calls",d13)] d0,E1 _ _ 0 _ _ rfl C7,E1 _ _ 1 _ _ rfl C7,E1 _ _ 2 _ _ rfl C7,E1 _ _ 3 _ _ rfl C7,E1 _ _ 4 _ _ rfl C7,E1 _ _ 5 _ _ rfl C7,E1 _ _ 6 _ _ rfl C7,E1 _ _ 7 _ _ rfl C7,E1 _ _ 8 _ _ rfl C7,E1 _ _ 9 _ _ rfl C7,E1 _ _ 10 _ _ rfl C7,E1 _ _ 11 _ _ rfl C7,E1 _ _ 12 _ _ rfl C7,E1 _ _ 13 _ _ rfl C7,E1 _ _ 0 _ _ rfl C7,E1 _ _ 1 _ _ rfl C7,E1 _ _ 2 _ _ rfl C7,E1 _ _ 3 _ _ rfl C7,E1 _ _ 4 _ _ rfl C7,E1 _ _ 5 _ _ rfl C7,E1 _ _ 6 _ _ rfl C7,E1 _ _ 7 _ _ rfl C7,E1 _ _ 8 _ _ rfl C7,E1 _ _ 9 _ _ rfl C7,E1 _ _ 10 _ _ rfl C7,E1 _ _ 11 _ _ rfl C7,E1 _ _ 12 _ _ rfl C7,E1 _ _ 13 _ _ rfl C7⟩
theorem bn1{st:Stmt}{ps:List Str}(F:Fun Z x qual st f fd)(l:ps.length=1)(h:∀(kV doc pm:Value) (an:Option Addr) (cdv ct a0:Value),bindArgs (fnOf x qual (E8 st) (E5 st) (B6 st) .none kV doc pm an cdv ct) ⟨[a0],[]⟩=pure (ps.zip [a0])):Binds Z fd ps []:=
 F.binds λkV doc pm an cdv ct us hl=>match us,hl.trans l with| [a0],_=>h kV doc pm an cdv ct a0
theorem bn2{st:Stmt}{ps:List Str}(F:Fun Z x qual st f fd)(l:ps.length=2)(h:∀(kV doc pm:Value) (an:Option Addr) (cdv ct a0 a1:Value),bindArgs (fnOf x qual (E8 st) (E5 st) (B6 st) .none kV doc pm an cdv ct) ⟨[a0,a1],[]⟩=pure (ps.zip [a0,a1])):Binds Z fd ps []:=
 F.binds λkV doc pm an cdv ct us hl=>match us,hl.trans l with| [a0,a1],_=>h kV doc pm an cdv ct a0 a1
theorem bn3{st:Stmt}{ps:List Str}(F:Fun Z x qual st f fd)(l:ps.length=3)(h:∀(kV doc pm:Value) (an:Option Addr) (cdv ct a0 a1 a2:Value),bindArgs (fnOf x qual (E8 st) (E5 st) (B6 st) .none kV doc pm an cdv ct) ⟨[a0,a1,a2],[]⟩=pure (ps.zip [a0,a1,a2])):Binds Z fd ps []:=
 F.binds λkV doc pm an cdv ct us hl=>match us,hl.trans l with| [a0,a1,a2],_=>h kV doc pm an cdv ct a0 a1 a2
theorem bn4{st:Stmt}{ps:List Str}(F:Fun Z x qual st f fd)(l:ps.length=4)(h:∀(kV doc pm:Value) (an:Option Addr) (cdv ct a0 a1 a2 a3:Value),bindArgs (fnOf x qual (E8 st) (E5 st) (B6 st) .none kV doc pm an cdv ct) ⟨[a0,a1,a2,a3],[]⟩=pure (ps.zip [a0,a1,a2,a3])):Binds Z fd ps []:=
 F.binds λkV doc pm an cdv ct us hl=>match us,hl.trans l with| [a0,a1,a2,a3],_=>h kV doc pm an cdv ct a0 a1 a2 a3
theorem bn5{st:Stmt}{ps:List Str}(F:Fun Z x qual st f fd)(l:ps.length=5)(h:∀(kV doc pm:Value) (an:Option Addr) (cdv ct a0 a1 a2 a3 a4:Value),bindArgs (fnOf x qual (E8 st) (E5 st) (B6 st) .none kV doc pm an cdv ct) ⟨[a0,a1,a2,a3,a4],[]⟩=pure (ps.zip [a0,a1,a2,a3,a4])):Binds Z fd ps []:=
 F.binds λkV doc pm an cdv ct us hl=>match us,hl.trans l with| [a0,a1,a2,a3,a4],_=>h kV doc pm an cdv ct a0 a1 a2 a3 a4
theorem DefAt.c1{st:Stmt}(d:DefAt Z x st f fd)(X:Z.In h)(G:h.Ns mainGlobals mg)(o:FnOk P w Z mg base CX k f fd ps sp)(l:ps.length=1:=by rfl)(hb:∀(kV doc pm:Value) (an:Option Addr) (cdv ct a0:Value),bindArgs (fnOf x x (E8 st) (E5 st) (B6 st) .none kV doc pm an cdv ct) ⟨[a0],[]⟩=pure (ps.zip [a0]):=by intros;rfl):_L.Cn P w Z mg base CX k x ps sp:=⟨_,_,o,bn1 d.fn l hb,d.kp,mg_of X G d.ns⟩
theorem DefAt.c2{st:Stmt}(d:DefAt Z x st f fd)(X:Z.In h)(G:h.Ns mainGlobals mg)(o:FnOk P w Z mg base CX k f fd ps sp)(l:ps.length=2:=by rfl)(hb:∀(kV doc pm:Value) (an:Option Addr) (cdv ct a0 a1:Value),bindArgs (fnOf x x (E8 st) (E5 st) (B6 st) .none kV doc pm an cdv ct) ⟨[a0,a1],[]⟩=pure (ps.zip [a0,a1]):=by intros;rfl):_L.Cn P w Z mg base CX k x ps sp:=⟨_,_,o,bn2 d.fn l hb,d.kp,mg_of X G d.ns⟩
theorem DefAt.c3{st:Stmt}(d:DefAt Z x st f fd)(X:Z.In h)(G:h.Ns mainGlobals mg)(o:FnOk P w Z mg base CX k f fd ps sp)(l:ps.length=3:=by rfl)(hb:∀(kV doc pm:Value) (an:Option Addr) (cdv ct a0 a1 a2:Value),bindArgs (fnOf x x (E8 st) (E5 st) (B6 st) .none kV doc pm an cdv ct) ⟨[a0,a1,a2],[]⟩=pure (ps.zip [a0,a1,a2]):=by intros;rfl):_L.Cn P w Z mg base CX k x ps sp:=⟨_,_,o,bn3 d.fn l hb,d.kp,mg_of X G d.ns⟩
theorem DefAt.c4{st:Stmt}(d:DefAt Z x st f fd)(X:Z.In h)(G:h.Ns mainGlobals mg)(o:FnOk P w Z mg base CX k f fd ps sp)(l:ps.length=4:=by rfl)(hb:∀(kV doc pm:Value) (an:Option Addr) (cdv ct a0 a1 a2 a3:Value),bindArgs (fnOf x x (E8 st) (E5 st) (B6 st) .none kV doc pm an cdv ct) ⟨[a0,a1,a2,a3],[]⟩=pure (ps.zip [a0,a1,a2,a3]):=by intros;rfl):_L.Cn P w Z mg base CX k x ps sp:=⟨_,_,o,bn4 d.fn l hb,d.kp,mg_of X G d.ns⟩
theorem all_mk{l:PySem.W.OpenLaw}{w:World}{Z:PySem.W.Frag}{h:Heap}{mg:Str->Option Value}{fa:Addr}(X:Z.In h)(G:h.Ns mainGlobals mg)(hfa:mg "law"=some (.ref fa)){c Pt:Addr}
  {f0 f1 f2 f3 f4 f5 f6 f7 f8 f9 f10 f11 f12 f13 f14 f15 f16 f17 f18 f19 f20 f21 f22 f23 f24 f25 f26 f27 f28 f29 f30 f31 f32 f33 f34 f35 f36 f37 f38 f39 f40 f41 f42 f43 f44 f45 f46 f47:Addr}{od2 an2 od47 an47:Option Addr}{sl2 sl47:Array (Option Value)}{oc2 kV2 dc2 pm2 cd2 ct2 oc47 kV47 dc47 pm47 cd47 ct47:Value}
  {e0 e1 e3 e4 e5 e6 e7 e8 e9 e10 e11 e12 e13 e14 e15 e16 e17 e18 e19 e20 e21 e22 e23 e24 e25 e26 e27 e28 e29 e30 e31 e32 e33 e34 e35 e36 e37 e38 e39 e40 e41 e42 e43 e44 e45 e46:FuncData}
  {t_GREATEST t_DEEPEST:Tok}
  {C:Addr}{fM0 fM1 fM2 fM3 fI:Addr}{odM0 anM0 odM1 anM1 odM2 anM2 odM3 anM3 odI anI:Option Addr}{slM0 slM1 slM2 slM3 slI:Array (Option Value)}{ocM0 kVM0 dcM0 pmM0 cdM0 ctM0 ocM1 kVM1 dcM1 pmM1 cdM1 ctM1 ocM2 kVM2 dcM2 pmM2 cdM2 ctM2 ocM3 kVM3 dcM3 pmM3 cdM3 ctM3 ocI kVI dcI pmI cdI ctI:Value}
  {pf_ROW_SIGNS:Addr}{es_ROW_SIGNS:Array DictEntry}{nes_ROW_SIGNS:Nat}
  (d0:DefAt Z "built_up" _B.s_built_up f0 e0)
  (d1:DefAt Z "is_cell" _S.s_is_cell f1 e1)
  (d3:DefAt Z "heads_of" _Q.s_heads_of f3 e3)
  (d4:DefAt Z "with_heads" _Q.s_with_heads f4 e4)
  (d5:DefAt Z "swept" _S.s_swept f5 e5)
  (d6:DefAt Z "numbers_led_to" _S.s_numbers_led_to f6 e6)
  (d7:DefAt Z "values_in" _S.s_values_in f7 e7)
  (d8:DefAt Z "moved_cell" _S.s_moved_cell f8 e8)
  (d9:DefAt Z "moved" _S.s_moved f9 e9)
  (d10:DefAt Z "two_told" _N.s_two_told f10 e10)
  (d11:DefAt Z "quotient_told" _N.s_quotient_told f11 e11)
  (d12:DefAt Z "outcome" _N.s_outcome f12 e12)
  (d13:DefAt Z "bounded" _N.s_bounded f13 e13)
  (d14:DefAt Z "entered" _C.s_entered f14 e14)
  (d15:DefAt Z "own_done" _C.s_own_done f15 e15)
  (d16:DefAt Z "called" _C.s_called f16 e16)
  (d17:DefAt Z "behind" _C.s_behind f17 e17)
  (d18:DefAt Z "top_values" _C.s_top_values f18 e18)
  (d19:DefAt Z "two_done" _C.s_two_done f19 e19)
  (d20:DefAt Z "part_done" _C.s_part_done f20 e20)
  (d21:DefAt Z "with_new_cell" _C.s_with_new_cell f21 e21)
  (d22:DefAt Z "with_nothing_put" _C.s_with_nothing_put f22 e22)
  (d23:DefAt Z "with_slot" _C.s_with_slot f23 e23)
  (d24:DefAt Z "further" _C.s_further f24 e24)
  (d25:DefAt Z "value_put" _C.s_value_put f25 e25)
  (d26:DefAt Z "_law_cell_at" _k.s_law_cell_at f26 e26)
  (d27:DefAt Z "_law_same" _C.s_law_same f27 e27)
  (d28:DefAt Z "_law_number" _k.s_law_number f28 e28)
  (d29:DefAt Z "_law_heads" _P.s_law_heads f29 e29)
  (d30:DefAt Z "_law_push" _P.s_law_push f30 e30)
  (d31:DefAt Z "_law_want" _P.s_law_want f31 e31)
  (d32:DefAt Z "_law_reckon" _P.s_law_reckon f32 e32)
  (d33:DefAt Z "_law_listed" _P.s_law_listed f33 e33)
  (d34:DefAt Z "_law_branch" _P.s_law_branch f34 e34)
  (d35:DefAt Z "_law_slotted" _P.s_law_slotted f35 e35)
  (d36:DefAt Z "_law_calling" _P.s_law_calling f36 e36)
  (d37:DefAt Z "_law_block" _P.s_law_block f37 e37)
  (d38:DefAt Z "_law_program" _P.s_law_program f38 e38)
  (d39:DefAt Z "_law_parts" _S.s_law_parts f39 e39)
  (d40:DefAt Z "_law_sort_alike" _S.s_law_sort_alike f40 e40)
  (d41:DefAt Z "_law_place" _S.s_law_place f41 e41)
  (d42:DefAt Z "_law_alike" _S.s_law_alike f42 e42)
  (d43:DefAt Z "_law_values" _K.s_law_values f43 e43)
  (d44:DefAt Z "_law_shape" _K.s_law_shape f44 e44)
  (d45:DefAt Z "_law_collected" _K.s_law_collected f45 e45)
  (d46:DefAt Z "_law_kept" _K.s_law_kept f46 e46)
  (a2:PySem.W.nsIn Z mainGlobals "plain"=some (some (.ref f2)))(l2:Z.lookup f2=some ⟨oc2,od2,.func (PySem.W.fnOf "plain" "plain" (E8 _Q.s_plain) (E5 _Q.s_plain) (B6 _Q.s_plain) .none kV2 dc2 pm2 an2 cd2 ct2),sl2⟩)(c2:PySem.W.codeIn Z cd2 "plain"=true)(k2:PySem.W.keepIn Z (.ref f2)=true)
  (a47:PySem.W.nsIn Z mainGlobals "law"=some (some (.ref f47)))(l47:Z.lookup f47=some ⟨oc47,od47,.func (PySem.W.fnOf "law" "law" (E8 _K.s_law) (E5 _K.s_law) (B6 _K.s_law) .none kV47 dc47 pm47 an47 cd47 ct47),sl47⟩)(c47:PySem.W.codeIn Z cd47 "law"=true)(k47:PySem.W.keepIn Z (.ref f47)=true)
  (e_GREATEST:PySem.W.nsIn Z mainGlobals "GREATEST"=some (some (.int 10000000000000000000000000000000000000000 t_GREATEST)))
  (e_DEEPEST:PySem.W.nsIn Z mainGlobals "DEEPEST"=some (some (.int 60 t_DEEPEST)))
  (aD_ROW_SIGNS:PySem.W.nsIn Z mainGlobals "ROW_SIGNS"=some (some (.ref pf_ROW_SIGNS)))(lD_ROW_SIGNS:Z.lookup pf_ROW_SIGNS=some ⟨.type "dict",none,.dict es_ROW_SIGNS nes_ROW_SIGNS, #[]⟩)(kD_ROW_SIGNS:PySem.W.KeysLit w.params es_ROW_SIGNS.toList)(pD_ROW_SIGNS:Paired (λ(p:Str×V) (e:DictEntry)=>(∃t,e.key=.str p.1 t)/\RelV p.2 e.val) _C.RS es_ROW_SIGNS.toList)(oD_ROW_SIGNS:(pf_ROW_SIGNS==sysModules)=false)
  (aC:PySem.W.nsIn Z mainGlobals "Cells"=some (some (.ref C)))
  (aM0:PySem.W.findIn Z (.ref C) "put"=some (some (.ref fM0)))(lM0:Z.lookup fM0=some ⟨ocM0,odM0,.func (PySem.W.fnOf "put" "Cells.put" (E8 _C.s_put) (E5 _C.s_put) (B6 _C.s_put) .none kVM0 dcM0 pmM0 anM0 cdM0 ctM0),slM0⟩)(cM0:PySem.W.codeIn Z cdM0 "Cells.put"=true)(kM0:PySem.W.keepIn Z (.ref fM0)=true)(jM0:PySem.W.isFn Z (.ref fM0)=true)
  (aM1:PySem.W.findIn Z (.ref C) "at"=some (some (.ref fM1)))(lM1:Z.lookup fM1=some ⟨ocM1,odM1,.func (PySem.W.fnOf "at" "Cells.at" (E8 _C.s_at) (E5 _C.s_at) (B6 _C.s_at) .none kVM1 dcM1 pmM1 anM1 cdM1 ctM1),slM1⟩)(cM1:PySem.W.codeIn Z cdM1 "Cells.at"=true)(kM1:PySem.W.keepIn Z (.ref fM1)=true)(jM1:PySem.W.isFn Z (.ref fM1)=true)
  (aM2:PySem.W.findIn Z (.ref C) "many"=some (some (.ref fM2)))(lM2:Z.lookup fM2=some ⟨ocM2,odM2,.func (PySem.W.fnOf "many" "Cells.many" (E8 _C.s_many) (E5 _C.s_many) (B6 _C.s_many) .none kVM2 dcM2 pmM2 anM2 cdM2 ctM2),slM2⟩)(cM2:PySem.W.codeIn Z cdM2 "Cells.many"=true)(kM2:PySem.W.keepIn Z (.ref fM2)=true)(jM2:PySem.W.isFn Z (.ref fM2)=true)
  (aM3:PySem.W.findIn Z (.ref C) "told"=some (some (.ref fM3)))(lM3:Z.lookup fM3=some ⟨ocM3,odM3,.func (PySem.W.fnOf "told" "Cells.told" (E8 _C.s_told) (E5 _C.s_told) (B6 _C.s_told) .none kVM3 dcM3 pmM3 anM3 cdM3 ctM3),slM3⟩)(cM3:PySem.W.codeIn Z cdM3 "Cells.told"=true)(kM3:PySem.W.keepIn Z (.ref fM3)=true)(jM3:PySem.W.isFn Z (.ref fM3)=true)
  (aI:PySem.W.findIn Z (.ref C) "__init__"=some (some (.ref fI)))(lI:Z.lookup fI=some ⟨ocI,odI,.func (PySem.W.fnOf "__init__" "Cells.__init__" (E8 _C.s_init) (E5 _C.s_init) (B6 _C.s_init) .none kVI dcI pmI anI cdI ctI),slI⟩)(cI:PySem.W.codeIn Z cdI "Cells.__init__"=true)(kI:PySem.W.keepIn Z (.ref fI)=true)(jI:PySem.W.isFn Z (.ref fI)=true)
  (pg:PySem.W.plainGet Z C Str.empty=true)(hd:PySem.W.hasDictIn Z C=true)(po:PySem.W.plainOver Z C=true)(sa:PySem.W.findIn Z (.ref C) "__setattr__"=some (some (.builtin "object.__setattr__")))(mk:PySem.W.makesIn Z C=true)(kc:PySem.W.keepIn Z (.ref C)=true)(ni:PySem.W.findIn Z (.ref C) "in_order"=some none)
  {CM:Addr}{g0 g1 g2 g3 g4 g5 g6 g7 g8 g9 g10 g11 g12 g13:Addr}{h0 h1 h2 h3 h4 h5 h6 h7 h8 h9 h10 h11 h12 h13:FuncData}{gI:Addr}{hI:FuncData}
  (aQ2:PySem.W.nsIn Z mainGlobals "Machine"=some (some (.ref CM)))
  (mm0:MethAt Z CM "step" "Machine.step" _M.s_step g0 h0)
  (mm1:MethAt Z CM "go_on" "Machine.go_on" _M.s_go_on g1 h1)
  (mm2:MethAt Z CM "enter" "Machine.enter" _M.s_enter g2 h2)
  (mm3:MethAt Z CM "leave" "Machine.leave" _M.s_leave g3 h3)
  (mm4:MethAt Z CM "end" "Machine.end" _M.s_end g4 h4)
  (mm5:MethAt Z CM "collect" "Machine.collect" _M.s_collect g5 h5)
  (mm6:MethAt Z CM "hung_on" "Machine.hung_on" _M.s_hung_on g6 h6)
  (mm7:MethAt Z CM "hang_on" "Machine.hang_on" _M.s_hang_on g7 h7)
  (mm8:MethAt Z CM "has_value" "Machine.has_value" _M.s_has_value g8 h8)
  (mm9:MethAt Z CM "answer" "Machine.answer" _M.s_answer g9 h9)
  (mm10:MethAt Z CM "frames" "Machine.frames" _M.s_frames g10 h10)
  (mm11:MethAt Z CM "cells" "Machine.cells" _M.s_cells g11 h11)
  (mm12:MethAt Z CM "rows_done" "Machine.rows_done" _M.s_rows_done g12 h12)
  (mm13:MethAt Z CM "calls" "Machine.calls" _M.s_calls g13 h13)
  (mmI:MethAt Z CM "__init__" "Machine.__init__" _M.s_minit gI hI)
  (pg2:PySem.W.plainGet Z CM Str.empty=true)(hd2:PySem.W.hasDictIn Z CM=true)(po2:PySem.W.plainOver Z CM=true)(sa2:PySem.W.findIn Z (.ref CM) "__setattr__"=some (some (.builtin "object.__setattr__")))(mk2:PySem.W.makesIn Z CM=true)(kc2:PySem.W.keepIn Z (.ref CM)=true)(n1_2:PySem.W.findIn Z (.ref CM) "blocks"=some none)(n2_2:PySem.W.findIn Z (.ref CM) "most"=some none)(n3_2:PySem.W.findIn Z (.ref CM) "store"=some none)(n4_2:PySem.W.findIn Z (.ref CM) "standing"=some none)(n5_2:PySem.W.findIn Z (.ref CM) "outcome"=some none)(n6_2:PySem.W.findIn Z (.ref CM) "rows_so_far"=some none)(n7_2:PySem.W.findIn Z (.ref CM) "calls_so_far"=some none)
  (z_len:PySem.W.nsIn Z mainGlobals "len"=some none)
  (z_list:PySem.W.nsIn Z mainGlobals "list"=some none)
  (z_range:PySem.W.nsIn Z mainGlobals "range"=some none)
  (z_isinstance:PySem.W.nsIn Z mainGlobals "isinstance"=some none)
  (z_str:PySem.W.nsIn Z mainGlobals "str"=some none)
  (z_tuple:PySem.W.nsIn Z mainGlobals "tuple"=some none)
  (z_int:PySem.W.nsIn Z mainGlobals "int"=some none)
  (z_bool:PySem.W.nsIn Z mainGlobals "bool"=some none)
  (z_all:PySem.W.nsIn Z mainGlobals "all"=some none)
  (z_reversed:PySem.W.nsIn Z mainGlobals "reversed"=some none)
  (z_zip:PySem.W.nsIn Z mainGlobals "zip"=some none)
  (z_sum:PySem.W.nsIn Z mainGlobals "sum"=some none)
  (z_max:PySem.W.nsIn Z mainGlobals "max"=some none)
  (z_min:PySem.W.nsIn Z mainGlobals "min"=some none)
  (z_enumerate:PySem.W.nsIn Z mainGlobals "enumerate"=some none)
  (z_sorted:PySem.W.nsIn Z mainGlobals "sorted"=some none)
  (z_abs:PySem.W.nsIn Z mainGlobals "abs"=some none)(hcode0:cd2=.ref c):
  ∃fd:FuncData,(∀(s:Shared) (v:Value),BindsTo s fd ⟨[v],[]⟩ [("_law_script",v)])/\∀base:Heap,Z.In base->base.Ns mainGlobals mg->TabsB [(c,Pt)] mg base->FnOk l.prog w Z mg base CX0 8 fa fd ["_law_script"] (PK Z Pt):=by
 have e:=hfa.symm.trans (PySem.W.mg_of X G a47);cases e;have B:_C.NoG mg:=⟨PySem.W.mg_none_of X G z_len,PySem.W.mg_none_of X G z_list,PySem.W.mg_none_of X G z_range,PySem.W.mg_none_of X G z_isinstance,PySem.W.mg_none_of X G z_str,PySem.W.mg_none_of X G z_tuple,PySem.W.mg_none_of X G z_int,PySem.W.mg_none_of X G z_bool,PySem.W.mg_none_of X G z_all⟩;have B3:_B.NoG mg:=⟨PySem.W.mg_none_of X G z_len,PySem.W.mg_none_of X G z_list,PySem.W.mg_none_of X G z_reversed,PySem.W.mg_none_of X G z_range,PySem.W.mg_none_of X G z_zip,PySem.W.mg_none_of X G z_isinstance,PySem.W.mg_none_of X G z_str,PySem.W.mg_none_of X G z_tuple,PySem.W.mg_none_of X G z_sum,PySem.W.mg_none_of X G z_max,PySem.W.mg_none_of X G z_min,PySem.W.mg_none_of X G z_int,PySem.W.mg_none_of X G z_bool,PySem.W.mg_none_of X G z_enumerate,PySem.W.mg_none_of X G z_all⟩;have BS:_S.NoG2 mg:=⟨PySem.W.mg_none_of X G z_sorted⟩;have BM:_N.NoG mg:=⟨PySem.W.mg_none_of X G z_len,PySem.W.mg_none_of X G z_min,PySem.W.mg_none_of X G z_abs,PySem.W.mg_none_of X G z_isinstance,PySem.W.mg_none_of X G z_tuple,PySem.W.mg_none_of X G z_int,PySem.W.mg_none_of X G z_bool⟩;have m_GREATEST:=PySem.W.mg_of X G e_GREATEST;have m_DEEPEST:=PySem.W.mg_of X G e_DEEPEST;have TD_ROW_SIGNS:TopD w Z pf_ROW_SIGNS _C.RS:=⟨⟨es_ROW_SIGNS,nes_ROW_SIGNS,lD_ROW_SIGNS,kD_ROW_SIGNS,pD_ROW_SIGNS⟩,oD_ROW_SIGNS⟩;have m_ROW_SIGNS:=PySem.W.mg_of X G aD_ROW_SIGNS;have F0:=d0.fn;have b0:=bn3 (ps:=["root","parts_in","made"]) F0 rfl λ_ _ _ _ _ _ _ _ _=>rfl;have m0:=PySem.W.mg_of X G d0.ns;have k0:=d0.kp;have F1:=d1.fn;have b1:=bn1 (ps:=["value"]) F1 rfl λ_ _ _ _ _ _ _=>rfl;have m1:=PySem.W.mg_of X G d1.ns;have k1:=d1.kp;have F3:=d3.fn;have b3:=bn2 (ps:=["cells","value"]) F3 rfl λ_ _ _ _ _ _ _ _=>rfl;have m3:=PySem.W.mg_of X G d3.ns;have k3:=d3.kp;have F4:=d4.fn;have b4:=bn2 (ps:=["value","heads"]) F4 rfl λ_ _ _ _ _ _ _ _=>rfl;have m4:=PySem.W.mg_of X G d4.ns;have k4:=d4.kp;have F27:=d27.fn;have b27:=bn2 (ps:=["_law_found","_law_due"]) F27 rfl λ_ _ _ _ _ _ _ _=>rfl;have m27:=PySem.W.mg_of X G d27.ns;have k27:=d27.kp;have F36:=d36.fn;have b36:=bn3 (ps:=["_law_state","_law_more","_law_heads_here"]) F36 rfl λ_ _ _ _ _ _ _ _ _=>rfl;have m36:=PySem.W.mg_of X G d36.ns;have k36:=d36.kp;have F2:=S7 (st:=_Q.s_plain) l2 c2 k2;have b2:=bn2 (ps:=["cells","value"]) F2 rfl λ_ _ _ _ _ _ _ _=>rfl;have m2:=PySem.W.mg_of X G a2;have F47:=S7 (st:=_K.s_law) l47 c47 k47;have b47:=bn1 (ps:=["_law_script"]) F47 rfl λ_ _ _ _ _ _ _=>rfl;have m47:=PySem.W.mg_of X G a47;have FM0:=S7 (st:=_C.s_put) lM0 cM0 kM0;have bM0:=bn2 (ps:=["self","cell"]) FM0 rfl λ_ _ _ _ _ _ _ _=>rfl;have FM1:=S7 (st:=_C.s_at) lM1 cM1 kM1;have bM1:=bn2 (ps:=["self","value"]) FM1 rfl λ_ _ _ _ _ _ _ _=>rfl;have FM2:=S7 (st:=_C.s_many) lM2 cM2 kM2;have bM2:=bn1 (ps:=["self"]) FM2 rfl λ_ _ _ _ _ _ _=>rfl;have FM3:=S7 (st:=_C.s_told) lM3 cM3 kM3;have bM3:=bn1 (ps:=["self"]) FM3 rfl λ_ _ _ _ _ _ _=>rfl;have FI:=S7 (st:=_C.s_init) lI cI kI;have bI:=bn1 (ps:=["self"]) FI rfl λ_ _ _ _ _ _ _=>rfl;obtain⟨mf,md,u0,u1,u2,u3,v0,v1,v2,v3⟩:=d7Z fM0 fM1 fM2 fM3 (PySem.W.fnOf "put" "Cells.put" (E8 _C.s_put) (E5 _C.s_put) (B6 _C.s_put) .none kVM0 dcM0 pmM0 anM0 cdM0 ctM0) (PySem.W.fnOf "at" "Cells.at" (E8 _C.s_at) (E5 _C.s_at) (B6 _C.s_at) .none kVM1 dcM1 pmM1 anM1 cdM1 ctM1) (PySem.W.fnOf "many" "Cells.many" (E8 _C.s_many) (E5 _C.s_many) (B6 _C.s_many) .none kVM2 dcM2 pmM2 anM2 cdM2 ctM2) (PySem.W.fnOf "told" "Cells.told" (E8 _C.s_told) (E5 _C.s_told) (B6 _C.s_told) .none kVM3 dcM3 pmM3 anM3 cdM3 ctM3);have R0:Fun Z "put" "Cells.put" _C.s_put (mf "put") (md "put"):=by rw[u0,v0];exact FM0
 have w0:Meth Z C "put" (mf "put"):=by rw[u0];exact⟨aM0,jM0,kM0⟩
 have y100:Binds Z (md "put") ["self","cell"] []:=by rw[v0];exact bM0
 have R1:Fun Z "at" "Cells.at" _C.s_at (mf "at") (md "at"):=by rw[u1,v1];exact FM1
 have w1:Meth Z C "at" (mf "at"):=by rw[u1];exact⟨aM1,jM1,kM1⟩
 have y101:Binds Z (md "at") ["self","value"] []:=by rw[v1];exact bM1
 have R2:Fun Z "many" "Cells.many" _C.s_many (mf "many") (md "many"):=by rw[u2,v2];exact FM2
 have w2:Meth Z C "many" (mf "many"):=by rw[u2];exact⟨aM2,jM2,kM2⟩
 have y102:Binds Z (md "many") ["self"] []:=by rw[v2];exact bM2
 have R3:Fun Z "told" "Cells.told" _C.s_told (mf "told") (md "told"):=by rw[u3,v3];exact FM3
 have w3:Meth Z C "told" (mf "told"):=by rw[u3];exact⟨aM3,jM3,kM3⟩
 have y103:Binds Z (md "told") ["self"] []:=by rw[v3];exact bM3
 have RC:_C.RCls Z C mf md:={cl:=⟨pg,hd,po,sa⟩,ni:=ni,m_put:=w0,m_at:=w1,m_many:=w2,m_told:=w3,b_put:=y100,b_at:=y101,b_many:=y102,b_told:=y103};have Fm0:=mm0.fn;have bm0:=bn1 (ps:=["self"]) Fm0 rfl λ_ _ _ _ _ _ _=>rfl;have Fm1:=mm1.fn;have bm1:=bn2 (ps:=["self","told"]) Fm1 rfl λ_ _ _ _ _ _ _ _=>rfl;have Fm2:=mm2.fn;have bm2:=bn3 (ps:=["self","frame","row"]) Fm2 rfl λ_ _ _ _ _ _ _ _ _=>rfl;have Fm3:=mm3.fn;have bm3:=bn2 (ps:=["self","value"]) Fm3 rfl λ_ _ _ _ _ _ _ _=>rfl;have Fm4:=mm4.fn;have bm4:=bn2 (ps:=["self","outcome"]) Fm4 rfl λ_ _ _ _ _ _ _ _=>rfl;have Fm5:=mm5.fn;have bm5:=bn1 (ps:=["self"]) Fm5 rfl λ_ _ _ _ _ _ _=>rfl;have Fm6:=mm6.fn;have bm6:=bn1 (ps:=["self"]) Fm6 rfl λ_ _ _ _ _ _ _=>rfl;have Fm7:=mm7.fn;have bm7:=bn2 (ps:=["self","values"]) Fm7 rfl λ_ _ _ _ _ _ _ _=>rfl;have Fm8:=mm8.fn;have bm8:=bn1 (ps:=["self"]) Fm8 rfl λ_ _ _ _ _ _ _=>rfl;have Fm9:=mm9.fn;have bm9:=bn1 (ps:=["self"]) Fm9 rfl λ_ _ _ _ _ _ _=>rfl;have Fm10:=mm10.fn;have bm10:=bn1 (ps:=["self"]) Fm10 rfl λ_ _ _ _ _ _ _=>rfl;have Fm11:=mm11.fn;have bm11:=bn1 (ps:=["self"]) Fm11 rfl λ_ _ _ _ _ _ _=>rfl;have Fm12:=mm12.fn;have bm12:=bn1 (ps:=["self"]) Fm12 rfl λ_ _ _ _ _ _ _=>rfl;have Fm13:=mm13.fn;have bm13:=bn1 (ps:=["self"]) Fm13 rfl λ_ _ _ _ _ _ _=>rfl;have FmI:=mmI.fn;have bmI:=bn5 (ps:=["self","blocks","main","numbers","most"]) FmI rfl λ_ _ _ _ _ _ _ _ _ _ _=>rfl;obtain⟨gf,gd,uu0,uu1,uu2,uu3,uu4,uu5,uu6,uu7,uu8,uu9,uu10,uu11,uu12,uu13,vv0,vv1,vv2,vv3,vv4,vv5,vv6,vv7,vv8,vv9,vv10,vv11,vv12,vv13⟩:=dpZ g0 g1 g2 g3 g4 g5 g6 g7 g8 g9 g10 g11 g12 g13 h0 h1 h2 h3 h4 h5 h6 h7 h8 h9 h10 h11 h12 h13;have RM_step:Fun Z "step" "Machine.step" _M.s_step (gf "step") (gd "step"):=by rw[uu0,vv0];exact Fm0
 have ww0:Meth Z CM "step" (gf "step"):=by rw[uu0];exact mm0.me
 have yy0:Binds Z (gd "step") ["self"] []:=by rw[vv0];exact bm0
 have RM_go_on:Fun Z "go_on" "Machine.go_on" _M.s_go_on (gf "go_on") (gd "go_on"):=by rw[uu1,vv1];exact Fm1
 have ww1:Meth Z CM "go_on" (gf "go_on"):=by rw[uu1];exact mm1.me
 have yy1:Binds Z (gd "go_on") ["self","told"] []:=by rw[vv1];exact bm1
 have RM_enter:Fun Z "enter" "Machine.enter" _M.s_enter (gf "enter") (gd "enter"):=by rw[uu2,vv2];exact Fm2
 have ww2:Meth Z CM "enter" (gf "enter"):=by rw[uu2];exact mm2.me
 have yy2:Binds Z (gd "enter") ["self","frame","row"] []:=by rw[vv2];exact bm2
 have RM_leave:Fun Z "leave" "Machine.leave" _M.s_leave (gf "leave") (gd "leave"):=by rw[uu3,vv3];exact Fm3
 have ww3:Meth Z CM "leave" (gf "leave"):=by rw[uu3];exact mm3.me
 have yy3:Binds Z (gd "leave") ["self","value"] []:=by rw[vv3];exact bm3
 have RM_end:Fun Z "end" "Machine.end" _M.s_end (gf "end") (gd "end"):=by rw[uu4,vv4];exact Fm4
 have ww4:Meth Z CM "end" (gf "end"):=by rw[uu4];exact mm4.me
 have yy4:Binds Z (gd "end") ["self","outcome"] []:=by rw[vv4];exact bm4
 have RM_collect:Fun Z "collect" "Machine.collect" _M.s_collect (gf "collect") (gd "collect"):=by rw[uu5,vv5];exact Fm5
 have ww5:Meth Z CM "collect" (gf "collect"):=by rw[uu5];exact mm5.me
 have yy5:Binds Z (gd "collect") ["self"] []:=by rw[vv5];exact bm5
 have RM_hung_on:Fun Z "hung_on" "Machine.hung_on" _M.s_hung_on (gf "hung_on") (gd "hung_on"):=by rw[uu6,vv6];exact Fm6
 have ww6:Meth Z CM "hung_on" (gf "hung_on"):=by rw[uu6];exact mm6.me
 have yy6:Binds Z (gd "hung_on") ["self"] []:=by rw[vv6];exact bm6
 have RM_hang_on:Fun Z "hang_on" "Machine.hang_on" _M.s_hang_on (gf "hang_on") (gd "hang_on"):=by rw[uu7,vv7];exact Fm7
 have ww7:Meth Z CM "hang_on" (gf "hang_on"):=by rw[uu7];exact mm7.me
 have yy7:Binds Z (gd "hang_on") ["self","values"] []:=by rw[vv7];exact bm7
 have RM_has_value:Fun Z "has_value" "Machine.has_value" _M.s_has_value (gf "has_value") (gd "has_value"):=by rw[uu8,vv8];exact Fm8
 have ww8:Meth Z CM "has_value" (gf "has_value"):=by rw[uu8];exact mm8.me
 have yy8:Binds Z (gd "has_value") ["self"] []:=by rw[vv8];exact bm8
 have RM_answer:Fun Z "answer" "Machine.answer" _M.s_answer (gf "answer") (gd "answer"):=by rw[uu9,vv9];exact Fm9
 have ww9:Meth Z CM "answer" (gf "answer"):=by rw[uu9];exact mm9.me
 have yy9:Binds Z (gd "answer") ["self"] []:=by rw[vv9];exact bm9
 have RM_frames:Fun Z "frames" "Machine.frames" _M.s_frames (gf "frames") (gd "frames"):=by rw[uu10,vv10];exact Fm10
 have ww10:Meth Z CM "frames" (gf "frames"):=by rw[uu10];exact mm10.me
 have yy10:Binds Z (gd "frames") ["self"] []:=by rw[vv10];exact bm10
 have RM_cells:Fun Z "cells" "Machine.cells" _M.s_cells (gf "cells") (gd "cells"):=by rw[uu11,vv11];exact Fm11
 have ww11:Meth Z CM "cells" (gf "cells"):=by rw[uu11];exact mm11.me
 have yy11:Binds Z (gd "cells") ["self"] []:=by rw[vv11];exact bm11
 have RM_rows_done:Fun Z "rows_done" "Machine.rows_done" _M.s_rows_done (gf "rows_done") (gd "rows_done"):=by rw[uu12,vv12];exact Fm12
 have ww12:Meth Z CM "rows_done" (gf "rows_done"):=by rw[uu12];exact mm12.me
 have yy12:Binds Z (gd "rows_done") ["self"] []:=by rw[vv12];exact bm12
 have RM_calls:Fun Z "calls" "Machine.calls" _M.s_calls (gf "calls") (gd "calls"):=by rw[uu13,vv13];exact Fm13
 have ww13:Meth Z CM "calls" (gf "calls"):=by rw[uu13];exact mm13.me
 have yy13:Binds Z (gd "calls") ["self"] []:=by rw[vv13];exact bm13
 have RM:_M.MCls Z CM gf gd:={cl:=⟨pg2,hd2,po2,sa2⟩,n1:=n1_2,n2:=n2_2,n3:=n3_2,n4:=n4_2,n5:=n5_2,n6:=n6_2,n7:=n7_2,m_step:=ww0,m_go_on:=ww1,m_enter:=ww2,m_leave:=ww3,m_end:=ww4,m_collect:=ww5,m_hung_on:=ww6,m_hang_on:=ww7,m_has_value:=ww8,m_answer:=ww9,m_frames:=ww10,m_cells:=ww11,m_rows_done:=ww12,m_calls:=ww13,b_step:=yy0,b_go_on:=yy1,b_enter:=yy2,b_leave:=yy3,b_end:=yy4,b_collect:=yy5,b_hung_on:=yy6,b_hang_on:=yy7,b_has_value:=yy8,b_answer:=yy9,b_frames:=yy10,b_cells:=yy11,b_rows_done:=yy12,b_calls:=yy13};have MKM:Mk Z CM gI:=⟨mk2,mmI.me.1,mmI.me.2,kc2⟩;have m_Machine:=PySem.W.mg_of X G aQ2;refine⟨PySem.W.fnOf "law" "law" (E8 s_law) (E5 s_law) (B6 s_law) .none kV47 dc47 pm47 an47 cd47 ct47,λs v=> .of_eq rfl,λbase _ _ tbx=> ?_⟩;have hcode:=hcode0;have GM_init:=_C.ok_init (P:=l.prog) (w:=w) (mg:=mg) (base:=base) FI RC;have GA:=λ(b:Heap)=>_C.ok_at (P:=l.prog) (w:=w) (mg:=mg) (base:=b) R1 RC;have GP:=_C.ok_put (P:=l.prog) (w:=w) (mg:=mg) (base:=base) R0 B RC;have GN:=_C.ok_many (P:=l.prog) (w:=w) (mg:=mg) (base:=base) R2 B RC;have GT:=_C.ok_told (P:=l.prog) (w:=w) (mg:=mg) (base:=base) R3 B RC;have MKC:Mk Z C fI:=⟨mk,aI,jI,kc⟩;have m_Cells:=PySem.W.mg_of X G aC;have G_isP:=λ(b:Heap)=>_Q.ok_is_cell (P:=l.prog) (w:=w) (mg:=mg) (base:=b) F1 B;have GW:=_Q.ok_plain (P:=l.prog) (w:=w) (mg:=mg) (base:=base) F2 hcode (tbx.code _ (List.mem_singleton.mpr rfl)) (tbx.blt _ (List.mem_singleton.mpr rfl)) (λb=>_B.ok_built_up (P:=l.prog) (w:=w) (mg:=mg) (base:=b) F0 B3) m0 k0 b0 (λb=>_Q.ok_heads_of (P:=l.prog) (w:=w) (mg:=mg) (base:=b) F3 RC (λk=>(GA b).mono (by omega)) (G_isP b) m1 k1 b1) m3 k3 b3 (λb o L us O=>_Q.ok_with_heads (P:=l.prog) (w:=w) (mg:=mg) (base:=b) F4 (G_isP b) m1 k1 b1) m4 k4 b4;have G_isS:=_S.ok_is_cell (P:=l.prog) (w:=w) (mg:=mg) (base:=base) F1 B;have G_vi:=d7.c1 X G (_S.ok_values_in (P:=l.prog) (w:=w) (mg:=mg) (base:=base) d7.fn);have G_mv:=d9.c2 X G (_S.ok_moved (P:=l.prog) (w:=w) (mg:=mg) (base:=base) d9.fn ⟨_,_,G_isS,b1,k1,m1⟩);have G_mc:=d8.c2 X G (_S.ok_moved_cell (P:=l.prog) (w:=w) (mg:=mg) (base:=base) d8.fn B G_vi G_mv);have G_led:=d6.c2 X G (_S.ok_numbers_led_to (P:=l.prog) (w:=w) (mg:=mg) (base:=base) d6.fn B BS RC (GA base) ⟨_,_,G_isS,b1,k1,m1⟩ G_vi);have G_sw:=d5.c2 X G (_S.ok_swept (P:=l.prog) (w:=w) (mg:=mg) (base:=base) d5.fn B RC MKC m_Cells GM_init bI GP (GA base) G_led G_mv G_mc);have G_quo:=d11.c2 X G (_N.ok_quotient_told (P:=l.prog) (w:=w) (mg:=mg) (base:=base) d11.fn);have G_out:=d12.c3 X G (_N.ok_outcome (P:=l.prog) (w:=w) (mg:=mg) (base:=base) d12.fn);have G_bnd:=d13.c1 X G (_N.ok_bounded (P:=l.prog) (w:=w) (mg:=mg) (base:=base) d13.fn BM m_GREATEST);have G_two:=d10.c3 X G (_N.ok_two_told (P:=l.prog) (w:=w) (mg:=mg) (base:=base) d10.fn G_quo G_out G_bnd);have G_ent:=d14.c3 X G (_C.ok_entered (P:=l.prog) (w:=w) (mg:=mg) (base:=base) d14.fn B);have G_beh:=d17.c3 X G (_C.ok_behind (P:=l.prog) (w:=w) (mg:=mg) (base:=base) d17.fn B);have G_top:=d18.c2 X G (_C.ok_top_values (P:=l.prog) (w:=w) (mg:=mg) (base:=base) d18.fn B);have G_cal:=d16.c4 X G (_C.ok_called (P:=l.prog) (w:=w) (mg:=mg) (base:=base) d16.fn B RC (GA base) G_ent G_beh G_top);have G_td:=d19.c2 X G (_C.ok_two_done (P:=l.prog) (w:=w) (mg:=mg) (base:=base) d19.fn G_two G_beh);have G_pd:=d20.c3 X G (_C.ok_part_done (P:=l.prog) (w:=w) (mg:=mg) (base:=base) d20.fn RC (GA base) G_beh);have G_nc:=d21.c3 X G (_C.ok_with_new_cell (P:=l.prog) (w:=w) (mg:=mg) (base:=base) d21.fn RC GP G_beh G_top);have G_ws:=d23.c3 X G (_C.ok_with_slot (P:=l.prog) (w:=w) (mg:=mg) (base:=base) d23.fn);have G_fu:=d24.c2 X G (_C.ok_further (P:=l.prog) (w:=w) (mg:=mg) (base:=base) d24.fn);have G_np:=d22.c2 X G (_C.ok_with_nothing_put (P:=l.prog) (w:=w) (mg:=mg) (base:=base) d22.fn G_beh G_ws G_fu);have G_vp:=d25.c2 X G (_C.ok_value_put (P:=l.prog) (w:=w) (mg:=mg) (base:=base) d25.fn);have G_own:=d15.c3 X G (_C.ok_own_done (P:=l.prog) (w:=w) (mg:=mg) (base:=base) d15.fn TD_ROW_SIGNS m_ROW_SIGNS G_td G_pd G_nc G_np G_vp G_beh);have N_end:=_M.ok_end (P:=l.prog) (w:=w) (mg:=mg) (base:=base) (C:=C) RM_end RM;have N_hv:=_M.ok_has_value (P:=l.prog) (w:=w) (mg:=mg) (base:=base) RM_has_value RM;have N_rd:=_M.ok_rows_done (P:=l.prog) (w:=w) (mg:=mg) (base:=base) (C:=C) RM_rows_done RM;have N_cs:=_M.ok_calls (P:=l.prog) (w:=w) (mg:=mg) (base:=base) (C:=C) RM_calls RM;have N_fr:=_M.ok_frames (P:=l.prog) (w:=w) (mg:=mg) (base:=base) (C:=C) RM_frames B RM;have N_ce:=_M.ok_cells (P:=l.prog) (w:=w) (mg:=mg) (base:=base) (C:=C) RM_cells RM RC GT;have N_go:=_M.ok_go_on (P:=l.prog) (w:=w) (mg:=mg) (base:=base) RM_go_on RM N_end;have N_lv:=_M.ok_leave (P:=l.prog) (w:=w) (mg:=mg) (base:=base) RM_leave B RM N_end;have N_en:=_M.ok_enter (P:=l.prog) (w:=w) (mg:=mg) (base:=base) RM_enter B RM ⟨_,m_DEEPEST⟩ N_end G_cal;have N_st:=_M.ok_step (P:=l.prog) (w:=w) (mg:=mg) (base:=base) RM_step RM N_lv N_en N_go G_own;have N_hu:=_M.ok_hung_on (P:=l.prog) (w:=w) (mg:=mg) (base:=base) (C:=C) RM_hung_on RM N_hv;have N_ha:=_M.ok_hang_on (P:=l.prog) (w:=w) (mg:=mg) (base:=base) (C:=C) RM_hang_on B RM N_hv;have N_co:=_M.ok_collect (P:=l.prog) (w:=w) (mg:=mg) (base:=base) RM_collect RM RC GN N_hu N_ha G_sw;have N_an:=_M.ok_answer (P:=l.prog) (w:=w) (mg:=mg) (base:=base) RM_answer RM N_hv ⟨_,_,GW,b2,k2,m2⟩;have N_in:=_M.ok_minit (P:=l.prog) (w:=w) (mg:=mg) (base:=base) FmI B RM MKC m_Cells GM_init bI G_ent;have G_cell:=d26.c2 X G (_k.ok_law_cell_at (P:=l.prog) (w:=w) (mg:=mg) (base:=base) d26.fn B);have G_same:=_k.ok_law_sameD (P:=l.prog) (w:=w) (mg:=mg) (base:=base) F27 B b27 k27 m27;have G_num:=d28.c1 X G (_k.ok_law_number (P:=l.prog) (w:=w) (mg:=mg) (base:=base) d28.fn);have G_push:=d30.c3 X G (_P.ok_law_push (P:=l.prog) (w:=w) (mg:=mg) (base:=base) d30.fn B3 G_num);have G_want:=d31.c3 X G (_P.ok_law_want (P:=l.prog) (w:=w) (mg:=mg) (base:=base) d31.fn B3 G_push);have G_reckon:=d32.c2 X G (_P.ok_law_reckon (P:=l.prog) (w:=w) (mg:=mg) (base:=base) d32.fn G_want);have G_listed:=d33.c2 X G (_P.ok_law_listed (P:=l.prog) (w:=w) (mg:=mg) (base:=base) d33.fn G_push G_want);have G_branch:=d34.c2 X G (_P.ok_law_branch (P:=l.prog) (w:=w) (mg:=mg) (base:=base) d34.fn G_push G_want);have G_slotted:=d35.c2 X G (_P.ok_law_slotted (P:=l.prog) (w:=w) (mg:=mg) (base:=base) d35.fn B3);have G_calling:=λhs=>_P.ok_law_calling (P:=l.prog) (w:=w) (mg:=mg) (base:=base) hs F36 B3 G_num G_want;have G_heads:=d29.c3 X G (_P.ok_law_heads (P:=l.prog) (w:=w) (mg:=mg) (base:=base) d29.fn B3);have G_block:=d37.c3 X G (_P.block_any λhs=>_P.ok_law_block (P:=l.prog) (w:=w) (mg:=mg) (base:=base) hs d37.fn B3 G_num G_want G_reckon G_listed G_branch G_slotted ⟨_,_,(G_calling hs),b36,k36,m36⟩);have G_prog:=d38.c1 X G (_P.ok_law_program (P:=l.prog) (w:=w) (mg:=mg) (base:=base) d38.fn B3 G_cell G_num G_heads G_block);have G_same1:=_K.same0 (G_same 0);have G_parts:=d39.c1 X G (_S.ok_law_parts (P:=l.prog) (w:=w) (mg:=mg) (base:=base) d39.fn B);have G_sa:=d40.c2 X G (_S.ok_law_sort_alike (P:=l.prog) (w:=w) (mg:=mg) (base:=base) d40.fn B ⟨_,_,G_same1,b27,k27,m27⟩);have G_pl:=d41.c2 X G (_S.ok_law_place (P:=l.prog) (w:=w) (mg:=mg) (base:=base) d41.fn B ⟨_,_,G_same1,b27,k27,m27⟩);have G_al:=d42.c4 X G (_S.ok_law_alike (P:=l.prog) (w:=w) (mg:=mg) (base:=base) d42.fn B ⟨_,_,G_same1,b27,k27,m27⟩ G_pl G_sa G_parts);have G_val:=d43.c1 X G (_K.ok_law_values (P:=l.prog) (w:=w) (mg:=mg) (base:=base) d43.fn);have G_sh:=d44.c1 X G (_K.ok_law_shape (P:=l.prog) (w:=w) (mg:=mg) (base:=base) d44.fn B);have G_col:=d45.c3 X G (_K.ok_law_collected (P:=l.prog) (w:=w) (mg:=mg) (base:=base) d45.fn B3 RM N_fr N_ce N_co N_an ⟨_,_,(G_same 4),b27,k27,m27⟩ G_sh G_val G_al);have G_kept:=d46.c1 X G (_K.ok_law_kept (P:=l.prog) (w:=w) (mg:=mg) (base:=base) d46.fn B3 RM N_ce N_an);exact _K.ok_law (P:=l.prog) (w:=w) (mg:=mg) (base:=base) F47 B3 RM MKM m_Machine N_in bmI N_rd N_cs N_an N_st ⟨_,_,(G_same 4),b27,k27,m27⟩ G_cell G_prog G_col G_kept
theorem walk{l:PySem.W.OpenLaw}{loose:List Str}{XP:(Str->Option Value)->Heap->Prop}{YP:World->Heap->Prop}{d:DefRec}{Z:Params->PySem.W.Frag}(hn:l.most=some 63)(hdf:d.params.defaults=[])
  (hY:∀(w:World) (h:Heap),YP w h->(Z w.params).In h)
  (hT:∀(w:World) (lo:List Str) (mean:ExcName->Option Value) (mg mb:Str->Option Value) (h:Heap),PyProof.Rows.Top q lo mean mg mb h->(Z w.params).In h->PySem.W.CodeHd h c Pt/\h.get? Pt=some (PySem.W.tabObj #[]))(hK:∀w:World,PySem.W.noTabs (Z w.params)=true)
  (F:∀(w:World) (mg:Str->Option Value) (fa:Addr) (h:Heap),(Z w.params).In h->h.Ns mainGlobals mg->mg d.name=some (.ref fa)->
   ∃fd:FuncData,(∀(s:Shared) (u:Value),BindsTo s fd ⟨[u],[]⟩ [("_law_script",u)])/\∀base:Heap,(Z w.params).In base->base.Ns mainGlobals mg->TabsB [(c,Pt)] mg base->FnOk l.prog w (Z w.params) mg base CX0 8 fa fd ["_law_script"] (PK (Z w.params) Pt)):
  PySem.W.WalkO q loose XP YP l.row.toRowW d [] (λf vs=>PySem.call f vs):=
 _L.walk_ofKT (n:=63) (k:=8) (x:="_law_script") (CX:=CX0) (sp:=λZ=>PK Z Pt) (tabs:=[(c,Pt)]) hn (by decide) hdf ⟨rfl,by decide,by decide⟩ hY (λw lo mean mg mb h T X q hq=>by
   have e:=List.mem_singleton.mp hq;subst e;exact hT w lo mean mg mb h T X) hK F (λ_ H a ns hl hO hS=>⟨a,ns,rfl,hS,hl,hO.tab (c,Pt) (List.mem_singleton.mpr rfl),λ_=>rfl⟩) λ_ _ _ _ z=>z
end _K
open PySem PySem.W PyProof.Rows
set_option maxRecDepth 100000 in
set_option maxHeartbeats 0 in
theorem PySem.Challenge.cw_speakmill_k66_whole_collect_anywhere_holds : PySem.Challenge.rw_speakmill_k66_whole_collect_anywhere.Holds := by
 w_on;o_law;k_head;(case hw=>w_witness2)
 k_fill
 refine _K.walk (l:=PySem.Challenge.rw_speakmill_k66_whole_collect_anywhere) rfl rfl (c:=81) (Pt:=77) (λw h Y=>PySem.W.km_in_of Y) ?tabsT ?tabsN ?F
 case tabsT=>exact λw lo mean mg mb h T X=>PySem.W.tab_of (x:="plain") T X rfl (by kernel_rfl)
 case tabsN=>intro w;kernel_rfl
 case F=>
  intro w mg fa h Xk G hmg
  refine' _K.all_mk Xk G hmg ?d0 ?d1 ?d3 ?d4 ?d5 ?d6 ?d7 ?d8 ?d9 ?d10 ?d11 ?d12 ?d13 ?d14 ?d15 ?d16 ?d17 ?d18 ?d19 ?d20 ?d21 ?d22 ?d23 ?d24 ?d25 ?d26 ?d27 ?d28 ?d29 ?d30 ?d31 ?d32 ?d33 ?d34 ?d35 ?d36 ?d37 ?d38 ?d39 ?d40 ?d41 ?d42 ?d43 ?d44 ?d45 ?d46 ?a2 ?l2 ?c2 ?k2 ?a47 ?l47 ?c47 ?k47 ?e_GREATEST ?e_DEEPEST ?aD_ROW_SIGNS ?lD_ROW_SIGNS ?kD_ROW_SIGNS ?pD_ROW_SIGNS ?oD_ROW_SIGNS ?aC ?aM0 ?lM0 ?cM0 ?kM0 ?jM0 ?aM1 ?lM1 ?cM1 ?kM1 ?jM1 ?aM2 ?lM2 ?cM2 ?kM2 ?jM2 ?aM3 ?lM3 ?cM3 ?kM3 ?jM3 ?aI ?lI ?cI ?kI ?jI ?pg ?hd ?po ?sa ?mk ?kc ?ni ?aQ2 ?mm0 ?mm1 ?mm2 ?mm3 ?mm4 ?mm5 ?mm6 ?mm7 ?mm8 ?mm9 ?mm10 ?mm11 ?mm12 ?mm13 ?mmI ?pg2 ?hd2 ?po2 ?sa2 ?mk2 ?kc2 ?n1_2 ?n2_2 ?n3_2 ?n4_2 ?n5_2 ?n6_2 ?n7_2 ?z_len ?z_list ?z_range ?z_isinstance ?z_str ?z_tuple ?z_int ?z_bool ?z_all ?z_reversed ?z_zip ?z_sum ?z_max ?z_min ?z_enumerate ?z_sorted ?z_abs ?hcode0
  (case d0|d1|d3|d4|d5|d6|d7|d8|d9|d10|d11|d12|d13|d14|d15|d16|d17|d18|d19|d20|d21|d22|d23|d24|d25|d26|d27|d28|d29|d30|d31|d32|d33|d34|d35|d36|d37|d38|d39|d40|d41|d42|d43|d44|d45|d46=>exact⟨_,_,_,_,_,_,_,_,_,rfl,by k_is,by k_is,by k_is,by k_is⟩)
  (case a2|l2|c2|k2|a47|l47|c47|k47|e_GREATEST|e_DEEPEST|aD_ROW_SIGNS|lD_ROW_SIGNS|aC|aM0|lM0|cM0|kM0|jM0|aM1|lM1|cM1|kM1|jM1|aM2|lM2|cM2|kM2|jM2|aM3|lM3|cM3|kM3|jM3|aI|lI|cI|kI|jI|pg|hd|po|sa|mk|kc|ni|aQ2|pg2|hd2|po2|sa2|mk2|kc2|n1_2|n2_2|n3_2|n4_2|n5_2|n6_2|n7_2|z_len|z_list|z_range|z_isinstance|z_str|z_tuple|z_int|z_bool|z_all|z_reversed|z_zip|z_sum|z_max|z_min|z_enumerate|z_sorted|z_abs=>k_is)
  (case kD_ROW_SIGNS=>k_keys)
  (case pD_ROW_SIGNS=>repeat (first|exact .nil|refine .cons ⟨⟨_,rfl⟩,⟨_,rfl⟩⟩ ?_))
  (case oD_ROW_SIGNS=>decide)
  (case mm0|mm1|mm2|mm3|mm4|mm5|mm6|mm7|mm8|mm9|mm10|mm11|mm12|mm13|mmI=>exact⟨_,_,_,_,_,_,_,_,_,rfl,by k_is,by k_is,by k_is,by k_is,by k_is⟩)
  (case hcode0=>rfl)
end
