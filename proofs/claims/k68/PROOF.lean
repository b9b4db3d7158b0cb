import PyProof.Rows.All
import Wide.All
import OpenK.AllK
import Wide.FinOn
import Lean
import PyProof.EqAt
import PyProof.EqKinds
import PyProof.TupleCall
import PyProof.MaxThree
import PyProof.IsRules
import PySem.Challenge.RW_speakmill_k68_run_and_rounds
set_option Elab.async false
set_option linter.all false
set_option maxRecDepth 100000
set_option maxHeartbeats 8000000
set_option compiler.extract_closed false
set_option genSizeOf false
set_option genSizeOfSpec false
noncomputable section
open List (all_eq_true any_cons append_nil drop_eq_nil_of_le filterMap_cons find?_cons flatMap_append flatten_cons getElem?_append_left getElem?_append_right getElem?_map getElem?_of_mem getElem?_reverse getElem_mem length_append length_cons length_drop length_map length_nil length_replicate length_reverse length_singleton length_take lookup_cons map_append map_cons map_drop map_map map_nil mem_append mem_append_left mem_append_right mem_cons mem_cons_of_mem mem_cons_self mem_filter mem_filterMap mem_map mem_of_getElem? mem_range mem_singleton nodup_cons not_mem_nil of_mem_zip replicate_succ reverse_cons size_toArray sum_append sum_cons take_append_drop take_length take_of_length_le take_succ)
open Nat (add_le_add_left add_sub_cancel_left le_add_right le_of_lt le_refl le_succ le_succ_of_le le_trans lt_irrefl lt_of_le_of_lt lt_of_lt_of_le lt_or_ge lt_succ_self lt_trans min_eq_left min_eq_right ne_of_lt sub_zero succ_le_succ zero_le)
open PySem.Heap (get?_push_size get?_update_other get?_update_self lt_size size_push)
open Option (map_some ne_none_iff_exists')
open PySem.W (callWith_K codeIn emptyDict envX findIn fnOf instObj isFn kia_one kia_tup kitAny kitOne kitx_dict kitx_list kla_obj lookIn plainGet)
open PyProof.Rows (callWith_type1)
noncomputable abbrev bZ:=@PySem.wpAny_bind
noncomputable abbrev pZ:=@PySem.wpAny_pure
noncomputable abbrev gZ:=@PySem.Heap.get?_push_of_some
noncomputable abbrev nZ:=Bool.false_ne_true
noncomputable abbrev FZ:=PySem.W.Frag
noncomputable abbrev kZ:=@PySem.W.keepIn
noncomputable abbrev cZ{α:Type}{a b:α}{l:List α}:=(mem_cons (a:=a) (b:=b) (l:=l)).mp
noncomputable abbrev sZ{α:Type}{a b:α}:=(mem_singleton (a:=a) (b:=b)).mp
namespace L2
open PySem PySem.Spec PyProof.Rows
noncomputable abbrev Key:=Sum Int Str
noncomputable def IN:Key->Value->Bool
 | .inl k,v=>Value.isInt k v
 | .inr x,v=>Value.isStrOf x v
noncomputable def erZ(w:World):Key->Int
 | .inl k=>hashInt k
 | .inr x=>hashStr w x
theorem K7:∀ {k:Key} {v:Value},IN k v=true->(∃i t,k=Sum.inl i/\v=Value.int i t)\/(∃x t,k=Sum.inr x/\v=Value.str x t)
 | .inl i,v,h=>by
  obtain⟨t,e⟩:=Value.isInt_shape (k:=i) (v:=v) h
  exact .inl ⟨i,t,rfl,e⟩
 | .inr x,v,h=>by
  obtain⟨t,e⟩:=Value.isStrOf_shape (x:=x) (v:=v) h
  exact .inr ⟨x,t,rfl,e⟩
theorem VX(i:Int)(t:Tok):IN (.inl i) (.int i t)=true:=by simp[IN,Value.isInt]
theorem US(x:Str)(t:Tok):IN (.inr x) (.str x t)=true:=by simp[IN,Value.isStrOf]
theorem cjZ(a b:Int):decide ((Sum.inl a:Key)=Sum.inl b)=(a==b):=by
 by_cases e:a=b
 ·subst e;simp
 ·have h:¬(Sum.inl a:Key)=Sum.inl b:=λq=>e (Sum.inl.inj q)
  rw[decide_eq_false h]
  exact(beq_eq_false_iff_ne.mpr e).symm
theorem cEZ(a b:Str):decide ((Sum.inr a:Key)=Sum.inr b)=decide (a=b):=by
 by_cases e:a=b
 ·subst e;simp
 ·have h:¬(Sum.inr a:Key)=Sum.inr b:=λq=>e (Sum.inr.inj q)
  rw[decide_eq_false h,decide_eq_false e]
theorem coZ(a:Int)(b:Str):decide ((Sum.inl a:Key)=Sum.inr b)=false:=decide_eq_false (λq=>nomatch q)
theorem cBZ(a:Str)(b:Int):decide ((Sum.inr a:Key)=Sum.inl b)=false:=decide_eq_false (λq=>nomatch q)
noncomputable def J2(prog:Program)(w:World):PySem.KeyKind prog w Key where
 is:=IN
 hash:=erZ w
 inj:=λv a b ha hb=>by
  rcases K7 ha with⟨i,t,rfl,rfl⟩|⟨x,t,rfl,rfl⟩
  ·rcases K7 hb with⟨j,u,rfl,e⟩|⟨y,u,rfl,e⟩
   ·injection e with e1 _;rw[e1]
   ·exact nomatch e
  ·rcases K7 hb with⟨j,u,rfl,e⟩|⟨y,u,rfl,e⟩
   ·exact nomatch e
   ·injection e with e1 _;rw[e1]
 byValue:=λk v h=>by
  rcases K7 h with⟨i,t,rfl,rfl⟩|⟨x,t,rfl,rfl⟩<;>rfl
 pyHash:=λhv h=>by
  rcases K7 hv with⟨i,t,rfl,rfl⟩|⟨x,t,rfl,rfl⟩
  ·exact wpAny_pyHash_int h
  ·exact wpAny_pyHash_str h
 eqBool:=λhu hv h=>by
  rcases K7 hu with⟨i,t,rfl,rfl⟩|⟨x,t,rfl,rfl⟩
  ·rcases K7 hv with⟨j,u,rfl,rfl⟩|⟨y,u,rfl,rfl⟩
   ·rw[cjZ]at h;exact wpAny_eqBool_int h
   ·rw[coZ]at h;exact SeqAt.EqAt.int_str i t y u _ _ _ _ h
  ·rcases K7 hv with⟨j,u,rfl,rfl⟩|⟨y,u,rfl,rfl⟩
   ·rw[cBZ]at h;exact SeqAt.EqAt.str_int x t j u _ _ _ _ h
   ·rw[cEZ]at h;exact wpAny_eqBool_str h
 «strs»:=λk x t v h=>by
  rcases K7 h with⟨i,u,rfl,e⟩|⟨y,u,rfl,e⟩
  ·exact nomatch e
  ·injection e with e1 _
   subst e1
   cases v<;>rfl
theorem NE(prog:Program)(w:World)(i:Int)(t:Tok):(J2 prog w).is (.inl i) (.int i t)=true:=VX i t
theorem OB(prog:Program)(w:World)(x:Str)(t:Tok):(J2 prog w).is (.inr x) (.str x t)=true:=US x t
inductive V where
 |non|bl (b:Bool)|int (i:Int)|str (x:Str)|byt (b:Array UInt8)|flt (b:UInt64)|ref (a:Addr)|ty (n:String)
 deriving DecidableEq
noncomputable def RelV:V->Value->Prop
 | .non,u=>u=Value.none
 | .bl b,u=>u=Value.bool b
 | .int i,u=>∃t,u=Value.int i t
 | .str x,u=>∃t,u=Value.str x t
 | .byt b,u=>∃t,u=Value.bytes b t
 | .flt b,u=>∃t,u=Value.float b t
 | .ref a,u=>u=Value.ref a
 | .ty n,u=>u=Value.type n
noncomputable abbrev Vals:List V->List Value->Prop:=Paired RelV
theorem Vals.length{xs:List V}{us:List Value}(r:Vals xs us):xs.length=us.length:=Paired.length r
theorem Vals.get:∀ {xs:List V} {us:List Value} {i:Nat} {x:V},Vals xs us->xs[i]? =some x->∃u,us[i]? =some u/\RelV x u
 |_,_,_,_,.nil,e=>by simp at e
 |_,_,0,_,.cons r _,e=>by simp at e;subst e;exact⟨_,rfl,r⟩
 |_,_,i+1,x,.cons _ t,e=>by
  obtain⟨u,h1,h2⟩:=Vals.get (i:=i) (x:=x) t (by simpa using e)
  exact⟨u,by simpa using h1,h2⟩
theorem Vals.set{x:V}{u:Value}(r:RelV x u):∀ {xs:List V} {us:List Value} (i:Nat),Vals xs us->Vals (xs.set i x) (us.set i u)
 |_,_,_,.nil=> .nil
 |_,_,0,.cons _ t=> .cons r t
 |_,_,i+1,.cons q t=> .cons q (Vals.set r i t)
theorem Vals.append:∀ {xs ys:List V} {us ws:List Value},Vals xs us->Vals ys ws->Vals (xs++ys) (us++ws)
 |_,_,_,_,.nil,s=>s
 |_,_,_,_,.cons r t,s=> .cons r (Vals.append t s)
theorem Vals.take:∀ {xs:List V} {us:List Value} (n:Nat),Vals xs us->Vals (xs.take n) (us.take n)
 |_,_,0,_=> .nil
 |_,_,_+1,.nil=> .nil
 |_,_,n+1,.cons r t=> .cons r (Vals.take n t)
theorem Vals.drop:∀ {xs:List V} {us:List Value} (n:Nat),Vals xs us->Vals (xs.drop n) (us.drop n)
 |_,_,0,r=>r
 |_,_,_+1,.nil=> .nil
 |_,_,n+1,.cons _ t=>Vals.drop n t
noncomputable def RelO:Option V->Option Value->Prop
 |some v,some u=>RelV v u
 |none,none=>True
 |_,_=>False
noncomputable def KV{κ:Type}:List (κ×V)->List (κ×Value)->Prop:=Paired λ(p:κ×V) (q:κ×Value)=>p.1=q.1/\RelV p.2 q.2
noncomputable def kV:Key->V
 | .inl i=> .int i
 | .inr x=> .str x
inductive HO where
 |lst (xs:List V)
 |tup (xs:List V)
 |dK (kvs:List (Key×V))|dT (kvs:List (List Key×V))
 |set(S:Int->Bool) (n:Nat)
 |ins (C dx:Addr) (fs:List (Str×V))
 |own (x:Addr)
 |xd (fs:List (Str×V))
 |met (f x:Addr)
 |rng (lo hi:Int)
 |frz (o:Obj) (u:HO)
 |tbl (ps:Array Value)
 |ext (φ:Heap->Prop)
noncomputable abbrev Hp:=Addr->Option HO
noncomputable def upd(H:Hp)(a:Addr)(o:HO):Hp:=λb=>if b=a then some o else H b
theorem A5{H:Hp}{a:Addr}{o:HO}:upd H a o a=some o:=by unfold upd;rw[if_pos rfl]
theorem B5{H:Hp}{a b:Addr}{o:HO}(h:b≠a):upd H a o b=H b:=by unfold upd;rw[if_neg h]
theorem KR{H:Hp}{a:Addr}{o u:HO}:upd (upd H a o) a u=upd H a u:=by
 funext b;unfold upd;split<;>rfl
theorem IX{H:Hp}{a b:Addr}{o u:HO}(h:H a=some o)(h':H b=some u)(d:o≠u):a≠b:=by
 intro e;subst e;rw[h]at h';exact d (Option.some.inj h')
theorem C5{H:Hp}{a b:Addr}{o:HO}(h:H a=some o)(h':H b=none):a≠b:=by
 intro e;subst e;rw[h]at h';cases h'
section
variable(P:Program)(w:World)
noncomputable def ObjOk(H:Hp)(h:Heap)(a:Addr):HO->Prop
 | .lst xs=>xs.length<=sizeLine/\∃(its:List Value) (n:Nat),Vals xs its/\h.get? a=some {cls:=.type "list",data:=.seq its.toArray n}
 | .tup xs=>xs.length<=sizeLine/\∃its:List Value,Vals xs its/\IsTup h a its.toArray
 | .dK kvs=>kvs.length<=sizeLine/\(a==sysModules)=false/\∃vs,KV kvs vs/\h.DictOf (J2 P w) a vs
 | .dT kvs=>kvs.length<=sizeLine/\(a==sysModules)=false/\∃xs:List (List Key×Addr×Value),
   Paired (λ(p:List Key×V) (q:List Key×Addr×Value)=>p.1=q.1/\H q.2.1=some (.tup (p.1.map kV))/\RelV p.2 q.2.2) kvs xs/\
   ∃o es ep,h.get? a=some o/\o.ExactDict/\o.data=.dict es ep/\es.toList=xs.map (entryOfKey (tupleKind (J2 P w)))/\(xs.map (·.1)).Nodup
 | .set S n=>h.SetOf (intKind P w) a S n
 | .ins C dx fs=>H dx=some (.own a)/\fs.length<=1000/\dx≠a/\h.get? a=some (instObj C dx)/\
   ∃mA,h.Ns1 dx mA/\(∀f,RelO (fs.lookup f) (mA f))/\PySem.Within mA (fs.map (·.1))
 | .own _=>∃o,h.get? a=some o
 | .xd fs=>∃mA,h.Ns1 a mA/\∀f,RelO (fs.lookup f) (mA f)
 | .rng lo hi=>∃t u v,h.get? a=some {cls:=.type "range",data:=.fields #[.int lo t,.int hi u,.int 1 v]}
 | .frz o u=>h.get? a=some o/\ObjOk H h a u
 | .tbl ps=>h.get? a=some {cls:=.none,data:=.fields ps}
 | .met f x=>h.get? a=some (PySem.W.methodObj (.ref f) (.ref x))
 | .ext φ=>φ h/\(∃o,h.get? a=some o)/\∀h1 h2:Heap,φ h1->(∀o,h1.get? a=some o->h2.get? a=some o)->φ h2
noncomputable def HOk(H:Hp)(h:Heap):Prop:=∀a o,H a=some o->ObjOk P w H h a o
end
section
variable{P:Program}{w:World}{H H':Hp}{h h':Heap}{a:Addr}{o:HO}
theorem ObjOk.lt(x:ObjOk P w H h a o):a<h.objs.size:=by
 cases o with
 |lst xs=>obtain⟨_,_,_,_,e⟩:=x;exact lt_size e
 |tup xs=>obtain⟨_,_,_,p⟩:=x;exact p.lt
 |dK kvs=>obtain⟨_,_,_,_,o,_,_,e,_⟩:=x;exact lt_size e
 |dT kvs=>obtain⟨_,_,_,_,o,_,_,e,_⟩:=x;exact lt_size e
 |set S n=>obtain⟨o,_,_,_,e,_⟩:=x;exact lt_size e
 |ins C dx fs=>obtain⟨_,_,_,e,_⟩:=x;exact lt_size e
 |own y=>obtain⟨_,e⟩:=x;exact lt_size e
 |xd fs=>obtain⟨_,⟨_,_,_,e,_⟩,_⟩:=x;exact lt_size e
 |rng lo hi=>obtain⟨_,_,_,e⟩:=x;exact lt_size e
 |frz ob u=>obtain⟨e,_⟩:=x;exact lt_size e
 |tbl ps=>exact lt_size (show h.get? a=some _ from x)
 |met f y=>exact lt_size (show h.get? a=some _ from x)
 |ext φ=>obtain⟨_,⟨_,e⟩,_⟩:=x;exact lt_size e
theorem Paired.mapP{α β:Type}{F G:α->β->Prop}:∀ {l₁:List α} {l₂:List β},Paired F l₁ l₂->(∀a b,F a b->G a b)->Paired G l₁ l₂
 |_,_,.nil,_=> .nil
 |_,_,.cons r t,f=> .cons (f _ _ r) (Paired.mapP t f)
theorem ObjOk.stay(x:ObjOk P w H h a o)(k:∀b u,(b=a\/H b=some (.own a))->h.get? b=some u->h'.get? b=some u)
  (ho:∀b,H b=some (.own a)->H' b=some (.own a))(ht:∀b xs,H b=some (.tup xs)->H' b=some (.tup xs)):ObjOk P w H' h' a o:=by
 induction o with
 |lst xs=>obtain⟨z,its,n,r,e⟩:=x;exact⟨z,its,n,r,k _ _ (.inl rfl) e⟩
 |tup xs=>obtain⟨z,its,r,ob,e,c⟩:=x;exact⟨z,its,r,ob,k _ _ (.inl rfl) e,c⟩
 |dK kvs=>obtain⟨z,y,vs,r,ob,es,ep,e,c⟩:=x;exact⟨z,y,vs,r,ob,es,ep,k _ _ (.inl rfl) e,c⟩
 |dT kvs=>
  obtain⟨z,y,xs,r,ob,es,ep,e,c⟩:=x
  exact⟨z,y,xs,Paired.mapP r λp q z=>⟨z.1,ht _ _ z.2.1,z.2.2⟩,ob,es,ep,k _ _ (.inl rfl) e,c⟩
 |set S n=>obtain⟨ob,es,ep,t,e,c⟩:=x;exact⟨ob,es,ep,t,k _ _ (.inl rfl) e,c⟩
 |ins C dx fs=>
  obtain⟨d,z,ne,e,mA,⟨od,es,ep,e2,c⟩,r⟩:=x
  exact⟨ho _ d,z,ne,k _ _ (.inl rfl) e,mA,⟨od,es,ep,k _ _ (.inr d) e2,c⟩,r⟩
 |own y=>obtain⟨ob,e⟩:=x;exact⟨ob,k _ _ (.inl rfl) e⟩
 |xd fs=>obtain⟨mA,⟨od,es,ep,e,c⟩,r⟩:=x;exact⟨mA,⟨od,es,ep,k _ _ (.inl rfl) e,c⟩,r⟩
 |rng lo hi=>obtain⟨t,u,v,e⟩:=x;exact⟨t,u,v,k _ _ (.inl rfl) e⟩
 |frz ob u ih=>obtain⟨e,q⟩:=x;exact⟨k _ _ (.inl rfl) e,ih q⟩
 |tbl ps=>
  have e:h.get? a=some {cls:=.none,data:=.fields ps}:=x
  show h'.get? a=some {cls:=.none,data:=.fields ps}
  exact k a _ (.inl rfl) e
 |met f y=>
  have e:h.get? a=some (PySem.W.methodObj (.ref f) (.ref y)):=x
  show h'.get? a=some (PySem.W.methodObj (.ref f) (.ref y))
  exact k a _ (.inl rfl) e
 |ext φ=>obtain⟨p,⟨o,e⟩,st⟩:=x;exact⟨st _ _ p λo q=>k _ _ (.inl rfl) q,⟨o,k _ _ (.inl rfl) e⟩,st⟩
theorem HOk.lt(x:HOk P w H h)(e:H a=some o):a<h.objs.size:=(x a o e).lt
theorem HOk.fresh(x:HOk P w H h)(e:h.objs.size<=a):H a=none:=by
 cases q:H a with
 |none=>rfl
 |some u=>exact absurd (lt_of_lt_of_le (x.lt q) e) (lt_irrefl _)
theorem HOk.kept(x:HOk P w H h)(k:∀b u,h.get? b=some u->h'.get? b=some u):HOk P w H h':=λa o e=>
 (x a o e).stay (λb u _ q=>k b u q) (λ_ q=>q) λ_ _ q=>q
theorem HOk.laid(x:HOk P w H h)(k:∀b u,h.get? b=some u->h'.get? b=some u)(hp:h.objs.size<=a)(new:ObjOk P w (upd H a o) h' a o):HOk P w (upd H a o) h':=λb u e=>by
 have hn:=x.fresh hp
 by_cases hb:b=a
 ·subst hb;rw[A5]at e;cases e;exact new
 ·rw[B5 hb]at e
  exact(x b u e).stay (λc v _ q=>k c v q) (λc q=>by rw[B5 (C5 q hn)];exact q) λc xs q=>by rw[B5 (C5 q hn)];exact q
end
noncomputable def Rd(H:Hp)(a:Addr)(u:HO):Prop:=H a=some u\/∃o,H a=some (.frz o u)
theorem Rd.ok{P:Program}{w:World}{H:Hp}{h:Heap}{a:Addr}{u:HO}(r:Rd H a u)(x:HOk P w H h):ObjOk P w H h a u:=by
 rcases r with r|⟨o,r⟩
 ·exact x a u r
 ·obtain⟨_,q⟩:=x a _ r
  exact q
noncomputable def Mut:Option HO->Prop
 |some (.lst _)=>True
 |some (.dK _)=>True
 |some (.dT _)=>True
 |some (.set _ _)=>True
 |some (.ins _ _ _)=>True
 |some (.ext _)=>True
 |_=>False
section
variable{P:Program}{w:World}{H:Hp}{h h':Heap}{x e:Addr}{o':HO}
theorem HOk.write(ok:HOk P w H h)(mu:Mut (H x))(he:e=x\/H e=some (.own x))(k:∀b u,b≠e->h.get? b=some u->h'.get? b=some u)(heo:∃u,h'.get? e=some u)
  (new:ObjOk P w (upd H x o') h' x o'):HOk P w (upd H x o') h':=λb u q=>by
 have nown:∀c y,H c=some (.own y)->c≠x:=λc y r z=>by subst z;rw[r]at mu;exact mu
 have ntup:∀c xs,H c=some (.tup xs)->c≠x:=λc xs r z=>by subst z;rw[r]at mu;exact mu
 by_cases hb:b=x
 ·subst hb;rw[A5]at q;cases q;exact new
 ·rw[B5 hb]at q
  by_cases hbe:b=e
  ·have q':H b=some (.own x):=by
    rcases he with z|z
    ·exact absurd (hbe.trans z) hb
    ·rw[hbe];exact z
   rw[q]at q';cases q'
   obtain⟨v,hv⟩:=heo
   exact⟨v,by rw[hbe];exact hv⟩
  ·refine(ok b u q).stay (λc v hc r=>k c v ?_ r) (λc r=>by rw[B5 (nown c b r)];exact r) λc xs r=>by rw[B5 (ntup c xs r)];exact r
   rcases hc with rfl|hc
   ·exact hbe
   ·rintro rfl
    rcases he with z|z
    ·exact nown c b hc z
    ·rw[hc]at z;cases z;exact hb rfl
end
structure Un (fs ex:List Addr) (H H':Hp) (h h':Heap):Prop where
 keep:∀b o,h.get? b=some o->H b=none->b∉fs->b∉ex->h'.get? b=some o
 slot:∀b o,h.get? b=some o->H b=none->b∈fs->b∉ex->∃sl,h'.get? b=some {o with slots:=sl}
 free:∀b o,h.get? b=some o->H b=none->b∉ex->H' b=none
 there:∀b o,h.get? b=some o->b∉ex->∃o',h'.get? b=some o'
 tups:∀b xs,H b=some (.tup xs)->H' b=some (.tup xs)
 frzs:∀b o u,H b=some (.frz o u)->H' b=some (.frz o u)
 tbls:∀b ps,H b=some (.tbl ps)->∃more,H' b=some (.tbl (ps++more))
section
variable{fs fs' ex ex':List Addr}{H H1 H2:Hp}{h h1 h2 h':Heap}{a x e:Addr}{o:HO}
theorem Un.any(u:Un fs ex H H1 h h1){b:Addr}{ob:Obj}(q:h.get? b=some ob)(n:H b=none)(hx:b∉ex):∃sl,h1.get? b=some {ob with slots:=sl}:=by
 by_cases hb:b∈fs
 ·exact u.slot b ob q n hb hx
 ·exact⟨ob.slots,u.keep b ob q n hb hx⟩
theorem Un.kept(k:∀b u,h.get? b=some u->h'.get? b=some u):Un fs ex H H h h':=
 ⟨λb ob q _ _ _=>k b ob q,λb ob q _ _ _=>⟨ob.slots,k b ob q⟩,λ_ _ _ n _=>n,λb ob q _=>⟨ob,k b ob q⟩,λ_ _ q=>q,λ_ _ _ q=>q,λ_ ps q=>⟨#[],by rw[q];simp⟩⟩
theorem Un.refl:Un fs ex H H h h:=Un.kept λ_ _ q=>q
theorem Un.laid(k:∀b u,h.get? b=some u->h'.get? b=some u)(hp:h.objs.size<=a)(hn:H a=none):Un fs ex H (upd H a o) h h' where
 keep:=λb u q _ _ _=>k b u q
 slot:=λb u q _ _ _=>⟨u.slots,k b u q⟩
 free:=λb u q n _=>by rw[B5 (ne_of_lt (lt_of_lt_of_le (lt_size q) hp))];exact n
 there:=λb u q _=>⟨u,k b u q⟩
 tups:=λb xs q=>by rw[B5 (C5 q hn)];exact q
 frzs:=λb u xs q=>by rw[B5 (C5 q hn)];exact q
 tbls:=λb ps q=>⟨#[],by rw[B5 (C5 q hn),q];simp⟩
theorem Un.write(mu:Mut (H x))(he:e=x\/H e=some (.own x))(k:∀b u,b≠e->h.get? b=some u->h'.get? b=some u)(heo:∃u,h'.get? e=some u):Un fs ex H (upd H x o) h h':=by
 have hx:∀b,H b=none->b≠x:=λb n z=>by subst z;rw[n]at mu;exact mu
 have hb:∀b,H b=none->b≠e:=λb n z=>by
  subst z
  rcases he with r|r
  ·exact hx b n r
  ·rw[n]at r;cases r
 have hm:∀b u,H b=some u->¬Mut (some u)->b≠x:=λb u q nm z=>by subst z;rw[q]at mu;exact nm mu
 refine⟨λb u q n _ _=>k b u (hb b n) q,λb u q n _ _=>⟨u.slots,k b u (hb b n) q⟩,λb u q n _=>by rw[B5 (hx b n)];exact n,λb u q _=> ?_,
  λb xs q=>by rw[B5 (hm b _ q λz=>z)];exact q,λb u xs q=>by rw[B5 (hm b _ q λz=>z)];exact q,λb ps q=>⟨#[],by rw[B5 (hm b _ q λz=>z),q];simp⟩⟩
 by_cases hbe:b=e
 ·subst hbe;exact heo
 ·exact⟨u,k b u hbe q⟩
end
noncomputable def trk(h:Heap)(H:Hp):List Addr:=(List.range h.objs.size).filter λa=>(H a).isSome
noncomputable def HI(h:Heap)(H:Hp):Heap:=PySem.W.hideAll h (trk h H)
theorem UU(h:Heap)(H:Hp):(HI h H).objs.size=h.objs.size:=PySem.W.hideAll_size _ _
theorem YT{h:Heap}{H:Hp}{b:Addr}{o:Obj}(e:h.get? b=some o)(n:H b=none):(HI h H).get? b=some o:=
 PySem.W.hideAll_get _ e λhm=>by
  have q:(H b).isSome=true:=(mem_filter.mp hm).2
  rw[n]at q;simp at q
theorem aEZ{h:Heap}{H:Hp}{b:Addr}{o:Obj}(e:(HI h H).get? b=some o):h.get? b=some o/\H b=none:=by
 have e':h.get? b=some o:=PySem.W.of_hideAll (trk h H) e
 refine⟨e', ?_⟩
 cases q:H b with
 |none=>rfl
 |some x=>
  have hm:b∈trk h H:=mem_filter.mpr ⟨mem_range.mpr (lt_size e'),by simp[q]⟩
  have z:(HI h H).get? b=none:=PySem.W.hideAll_none (trk h H) hm
  rw[z]at e;cases e
structure Mod (K:FZ) (mg:Str->Option Value) (base:Heap):Prop where
 kin:K.In base
 glob:base.Ns mainGlobals mg
 blt:∃mb,base.Ns builtinsNs mb/\∀x:Str,x≠ "__name__"->mb x=bootBuiltins x
 nolimit:base.NoLimit
structure Cx where
 prog:Program
 w:World
 K:FZ
 mg:Str->Option Value
 base:Heap
 A:Around
 N:List Str
 s₀:Shared
 H₀:Hp
 env:Env
 outer:List Env
 stack:List Env
 ex:List Addr
 fn:Str->Bool
 calm:Bool
 pn:List (Addr×Obj)
 xe:Value->Shared->Prop
noncomputable def frs(l:List Env):List Addr:=l.filterMap (·.frame)
noncomputable abbrev Cx.fs(X:Cx):List Addr:=frs X.outer
noncomputable def Vis(sc:Scope)(x:Str):Prop:=sc.names.lookup x=some .local\/sc.names.lookup x=some .cell\/sc.names.lookup x=some .free
noncomputable def Loc(sc:Scope)(x:Str):Prop:=sc.names.lookup x=some .local\/sc.names.lookup x=some .cell
noncomputable def eqZ(env:Env)(h:Heap)(m:Str->Option Value)(x:Str)(u:Value):Prop:=
 (env.kindOf x=some .local/\m x=some u)\/((env.kindOf x=some .cell\/env.kindOf x=some .free)/\∃c,env.cells.lookup x=some c/\h.IsCell c (some u))
structure Cx.Ok (X:Cx):Prop where
 mod:Mod X.K X.mg X.base
 kind:X.env.scope.kind=.function
 glob:X.env.globals=mainGlobals
 blt:X.env.builtins=builtinsNs
 above:X.s₀.heap.objs.size<=X.env.locals
 inj:∀x y c,X.env.cells.lookup x=some c->X.env.cells.lookup y=some c->x=y
 has:∀x,(X.env.kindOf x=some .cell\/X.env.kindOf x=some .free)->∃c,X.env.cells.lookup x=some c
 cab:∀x c,X.fn x=true->X.env.cells.lookup x=some c->X.s₀.heap.objs.size<=c
 hd:X.calm=true->X.A.handled=none
 frames:X.A.frames=some X.stack
 stk:X.stack=X.outer\/(X.stack=X.env::X.outer/\X.env.frame=some X.env.locals)
 exf:∀b∈X.ex,b≠X.env.locals/\∀x c,X.env.cells.lookup x=some c->c≠b
 bs:∀b o,X.base.get? b=some o->X.s₀.heap.get? b=some o/\X.H₀ b=none
 bsz:X.base.objs.size<=X.s₀.heap.objs.size
 noex:∀b o,X.base.get? b=some o->b∉X.ex
 exfs:∀b∈X.ex,b∉X.fs
 funs:X.s₀.heap.FunFrames X.base X.outer
 frf:∀b∈X.fs,X.H₀ b=none
structure Inv (X:Cx) (pins:List (Addr×Obj)) (σ:List (Option V)) (H:Hp) (s:Shared):Prop where
 ok:X.Ok
 os:s.os=X.s₀.os
 bare:AllBare s.gens
 base:Un X.fs X.ex X.H₀ H X.s₀.heap s.heap
 loc:∃m,s.heap.Ns X.env.locals m/\∀(i:Nat) (x:Str) (v:V),X.N[i]? =some x->σ[i]? =some (some v)->Vis X.env.scope x->∃u,RelV v u/\eqZ X.env s.heap m x u
 cell:∀x c,X.env.cells.lookup x=some c->∃v,s.heap.IsCell c v
 free:H X.env.locals=none
 freeC:∀x c,X.env.cells.lookup x=some c->H c=none
 pin:∀p∈X.pn++pins,s.heap.get? p.1=some p.2/\H p.1=none/\p.1≠X.env.locals/\p.1∉X.fs/\∀v,p.2.data≠ .cell v
 hok:HOk X.prog X.w H s.heap
 len:σ.length=X.N.length
section
variable{X:Cx}{pins:List (Addr×Obj)}{σ:List (Option V)}{H H':Hp}{s:Shared}{h':Heap}
theorem Cx.Ok.nofr(ok:X.Ok){b:Addr}{o:Obj}(e:X.base.get? b=some o):b∉X.fs:=λhb=>by
 have:=(ok.funs.mem hb).1
 rw[e]at this;cases this
theorem Inv.bs(I:Inv X pins σ H s):∀b o,X.base.get? b=some o->s.heap.get? b=some o/\H b=none:=λb o e=>
 ⟨I.base.keep b o (I.ok.bs b o e).1 (I.ok.bs b o e).2 (I.ok.nofr e) (I.ok.noex b o e),I.base.free b o (I.ok.bs b o e).1 (I.ok.bs b o e).2 (I.ok.noex b o e)⟩
theorem Inv.bk(I:Inv X pins σ H s):∀b o,X.base.get? b=some o->s.heap.get? b=some o:=λb o e=>(I.bs b o e).1
theorem Inv.mod(I:Inv X pins σ H s):Mod X.K X.mg X.base:=I.ok.mod
theorem Inv.kIn(I:Inv X pins σ H s):X.K.In s.heap:=I.ok.mod.kin.keeps I.bk
theorem Inv.lt(I:Inv X pins σ H s):X.env.locals<s.heap.objs.size:=let⟨_,hn,_⟩:=I.loc;hn.lt
theorem Inv.sz(I:Inv X pins σ H s):X.s₀.heap.objs.size<=s.heap.objs.size:=le_trans I.ok.above (le_of_lt I.lt)
theorem Inv.nofs(I:Inv X pins σ H s){a:Addr}(h:s.heap.objs.size<=a):a∉X.fs:=λhb=>by
 obtain⟨_,o,ho,_⟩:=I.ok.funs.mem hb
 exact absurd (lt_of_lt_of_le (lt_size ho) (le_trans I.sz h)) (lt_irrefl _)
theorem Inv.cne(I:Inv X pins σ H s):∀x c,X.env.cells.lookup x=some c->c≠X.env.locals:=λx c e z=>by
 obtain⟨v,o,ho,hd⟩:=I.cell x c e
 obtain⟨m,⟨o',es,ep,ho',hd',_⟩,_⟩:=I.loc
 rw[z,ho']at ho;cases ho;rw[hd']at hd;cases hd
theorem Inv.funs(I:Inv X pins σ H s):s.heap.FunFrames X.base X.outer:=by
 have all:∀(l:List Env),(∀b∈frs l,b∈X.fs)->X.s₀.heap.FunFrames X.base l->s.heap.FunFrames X.base l:=by
  intro l
  induction l with
  |nil=>intro _ _;trivial
  |cons env r ih=>
   intro hs hl
   obtain⟨hk,⟨L,o,hf,hn,ho,hd⟩,hr⟩:=hl
   have hL:L∈X.fs:=hs L (by unfold frs;rw[filterMap_cons,hf];exact mem_cons_self)
   obtain⟨sl,e⟩:=I.base.slot L o ho (I.ok.frf L hL) hL λz=>I.ok.exfs L z hL
   exact⟨hk,⟨L,_,hf,hn,e,hd⟩,ih (λb hb=>hs b (by unfold frs;rw[filterMap_cons,hf];exact mem_cons_of_mem _ hb)) hr⟩
 exact all X.outer (λ_ hb=>hb) I.ok.funs
theorem Inv.stack(I:Inv X pins σ H s):s.heap.FunFrames X.base X.stack:=by
 rcases I.ok.stk with e|⟨e,hf⟩
 ·rw[e];exact I.funs
 ·rw[e]
  obtain⟨m,hn,_⟩:=I.loc
  refine .cons (by rw[I.ok.kind];decide) hf hn ?_ I.funs
  exact Heap.get?_none_of_le (le_trans I.ok.bsz I.ok.above)
theorem Inv.stkSub(I:Inv X pins σ H s):∀b∈frs X.stack,b∈X.env.locals::X.fs:=λb hb=>by
 rcases I.ok.stk with e|⟨e,hf⟩
 ·rw[e]at hb;exact mem_cons_of_mem _ hb
 ·rw[e]at hb
  unfold frs at hb
  rw[filterMap_cons,hf]at hb
  exact hb
theorem Inv.stkFree(I:Inv X pins σ H s):∀b∈frs X.stack,H b=none:=λb hb=>by
 rcases cZ (I.stkSub b hb)with e|hb
 ·rw[e];exact I.free
 ·obtain⟨_,o,ho,_⟩:=I.ok.funs.mem hb
  exact I.base.free b o ho (I.ok.frf b hb) λz=>I.ok.exfs b z hb
theorem Inv.step{g':Array GenState}{t':Nat}{d':Drawn}{ch:List Addr}(I:Inv X pins σ H s)
  (hch:∀b∈ch,(b∈X.ex\/X.s₀.heap.objs.size<=b)/\b≠X.env.locals/\(∀x c,X.env.cells.lookup x=some c->c≠b)/\∀p∈X.pn++pins,p.1≠b)
  (keep:∀b o,b≠X.env.locals->b∉X.fs->b∉ch->s.heap.get? b=some o->H b=none->h'.get? b=some o)
  (slot:∀b o,b≠X.env.locals->b∈X.fs->b∉ch->s.heap.get? b=some o->H b=none->∃sl,h'.get? b=some {o with slots:=sl})(free:∀b o,b∉ch->s.heap.get? b=some o->H b=none->H' b=none)
  (there:∀b o,b∉ch->s.heap.get? b=some o->∃o',h'.get? b=some o')
  (tups:∀b xs,H b=some (.tup xs)->H' b=some (.tup xs))(frzs:∀b o u,H b=some (.frz o u)->H' b=some (.frz o u))(tbls:∀b ps,H b=some (.tbl ps)->∃more,H' b=some (.tbl (ps++more)))
  (ns:∀m,s.heap.Ns X.env.locals m->h'.Ns X.env.locals m)(hok:HOk X.prog X.w H' h')(hg:AllBare g'):
  Inv X pins σ H' {s with heap:=h',gens:=g',drawn:=d',toks:=t'}:=by
 have neL:∀b o,X.s₀.heap.get? b=some o->b≠X.env.locals:=λb o e=>ne_of_lt (lt_of_lt_of_le (lt_size e) I.ok.above)
 have neC:∀b o,X.s₀.heap.get? b=some o->b∉X.ex->b∉ch:=λb o e hx hb=>by
  rcases(hch b hb).1 with z|z
  ·exact hx z
  ·exact absurd (lt_of_lt_of_le (lt_size e) z) (lt_irrefl _)
 have cellK:∀x c,X.env.cells.lookup x=some c->∀v,s.heap.IsCell c v->h'.IsCell c v:=λx c e v ⟨o,ho,hd⟩=>by
  have nch:c∉ch:=λz=>(hch c z).2.2.1 x c e rfl
  by_cases hc:c∈X.fs
  ·obtain⟨sl,q⟩:=slot c o (I.cne x c e) hc nch ho (I.freeC x c e)
   exact⟨_,q,hd⟩
  ·exact⟨o,keep c o (I.cne x c e) hc nch ho (I.freeC x c e),hd⟩
 refine⟨I.ok,I.os,hg,⟨λb o e n hb hx=> ?_,λb o e n hb hx=> ?_,λb o e n hx=> ?_,λb o e hx=> ?_,λb xs e=>tups b xs (I.base.tups b xs e),λb o xs e=>frzs b o xs (I.base.frzs b o xs e),λb ps e=> ?_⟩, ?_,λx c e=> ?_, ?_,λx c e=> ?_,λp hp=> ?_,hok,I.len⟩
 ·exact keep b o (neL b o e) hb (neC b o e hx) (I.base.keep b o e n hb hx) (I.base.free b o e n hx)
 ·obtain⟨sl,e1⟩:=I.base.slot b o e n hb hx
  obtain⟨sl',e2⟩:=slot b _ (neL b o e) hb (neC b o e hx) e1 (I.base.free b o e n hx)
  exact⟨sl',e2⟩
 ·obtain⟨o',e1⟩:=I.base.there b o e hx
  exact free b o' (neC b o e hx) e1 (I.base.free b o e n hx)
 ·obtain⟨o',e1⟩:=I.base.there b o e hx
  exact there b o' (neC b o e hx) e1
 ·obtain⟨m1,e1⟩:=I.base.tbls b ps e
  obtain⟨m2,e2⟩:=tbls b _ e1
  exact⟨m1++m2,by rw[e2,Array.append_assoc]⟩
 ·obtain⟨m,hn,hl⟩:=I.loc
  refine⟨m,ns m hn,λi x v e1 e2 e3=> ?_⟩
  obtain⟨u,r,l⟩:=hl i x v e1 e2 e3
  refine⟨u,r, ?_⟩
  rcases l with l|⟨k,c,e,z⟩
  ·exact .inl l
  ·exact .inr ⟨k,c,e,cellK x c e _ z⟩
 ·obtain⟨v,z⟩:=I.cell x c e
  exact⟨v,cellK x c e v z⟩
 ·obtain⟨m,⟨o,_,_,ho,_⟩,_⟩:=I.loc
  exact free _ o (λz=>(hch _ z).2.1 rfl) ho I.free
 ·obtain⟨v,o,ho,hd⟩:=I.cell x c e
  exact free c o (λz=>(hch c z).2.2.1 x c e rfl) ho (I.freeC x c e)
 ·obtain⟨e,n,ne,nf,d⟩:=I.pin p hp
  have nch:p.1∉ch:=λz=>(hch p.1 z).2.2.2 p hp rfl
  exact⟨keep p.1 p.2 ne nf nch e n,free p.1 p.2 nch e n,ne,nf,d⟩
theorem Inv.un{t':Nat}(I:Inv X pins σ H s)(u:Un X.fs [] H H' s.heap h')(hok:HOk X.prog X.w H' h'):Inv X pins σ H' {s with heap:=h',toks:=t'}:=by
 obtain⟨m,⟨o,es,ep,ho,r⟩,_⟩:=id I.loc
 obtain⟨sl,hL⟩:=u.any ho I.free (by simp)
 exact I.step (g':=s.gens) (d':=s.drawn) (ch:=[]) (λ_ z=>nomatch z) (λb o _ hb _ e n=>u.keep b o e n hb (by simp)) (λb o _ hb _ e n=>u.slot b o e n hb (by simp)) (λb o _ e n=>u.free b o e n (by simp)) (λb o _ e=>u.there b o e (by simp)) u.tups u.frzs u.tbls (λm' hm=>by
  obtain⟨o',es',ep',ho',r'⟩:=hm
  rw[ho]at ho';cases ho'
  exact⟨_,es',ep',hL,r'⟩) hok I.bare
theorem Inv.call{g':Array GenState}{t':Nat}{d':Drawn}{ch:List Addr}(I:Inv X pins σ H s)(u:Un (frs X.stack) ch H H' s.heap h')(hok:HOk X.prog X.w H' h')(hg:AllBare g')
  (hch:∀b∈ch,(b∈X.ex\/X.s₀.heap.objs.size<=b)/\b≠X.env.locals/\(∀x c,X.env.cells.lookup x=some c->c≠b)/\∀p∈X.pn++pins,p.1≠b):
  Inv X pins σ H' {s with heap:=h',gens:=g',drawn:=d',toks:=t'}:=by
 obtain⟨m,⟨o,es,ep,ho,r⟩,_⟩:=id I.loc
 obtain⟨sl,hL⟩:=u.any ho I.free λz=>(hch _ z).2.1 rfl
 exact I.step (ch:=ch) hch (λb o hL hb hc e n=>u.keep b o e n (λz=>(cZ (I.stkSub b z)).elim hL hb) hc) (λb o _ _ hc e n=>u.any e n hc) (λb o hc e n=>u.free b o e n hc) (λb o hc e=>u.there b o e hc) u.tups u.frzs u.tbls (λm' hm=>by
  obtain⟨o',es',ep',ho',r'⟩:=hm
  rw[ho]at ho';cases ho'
  exact⟨_,es',ep',hL,r'⟩) hok hg
theorem Inv.turned{t':Nat}{it:Addr}(I:Inv X pins σ H s)(k:∀b o,b≠it->s.heap.get? b=some o->h'.get? b=some o)(hn:H it=none)(hL:it≠X.env.locals)
  (h1:it∈X.ex\/X.s₀.heap.objs.size<=it)(h2:∀x c,X.env.cells.lookup x=some c->c≠it)(h3:∀p∈X.pn++pins,p.1≠it):Inv X pins σ H {s with heap:=h',toks:=t'}:=by
 have nit:∀b u,H b=some u->b≠it:=λb u e z=>by rw[z,hn]at e;cases e
 refine I.step (g':=s.gens) (d':=s.drawn) (ch:=[it]) (λb hb=> ?_) (λb o _ _ hc e _=>k b o (λz=>hc (by simp[z])) e) (λb o _ _ hc e _=>⟨o.slots,k b o (λz=>hc (by simp[z])) e⟩) (λ_ _ _ _ n=>n)
  (λb o hc e=>⟨o,k b o (λz=>hc (by simp[z])) e⟩) (λ_ _ e=>e) (λ_ _ _ e=>e) (λb ps e=>⟨#[],by rw[e];simp⟩) (λm hm=> ?_) (λb u e=> ?_) I.bare
 ·have e:b=it:=by simpa using hb
  subst e
  exact⟨h1,hL,h2,h3⟩
 ·obtain⟨o,es,ep,ho,r⟩:=hm
  exact⟨o,es,ep,k _ o (Ne.symm hL) ho,r⟩
 ·refine(I.hok b u e).stay (λc v hc q=>k c v ?_ q) (λ_ q=>q) λ_ _ q=>q
  rcases hc with z|z
  ·rw[z];exact nit b u e
  ·exact nit c _ z
theorem Inv.tok(I:Inv X pins σ H s)(t:Nat):Inv X pins σ H {s with toks:=t}:=I.un (h':=s.heap) (t':=t) Un.refl I.hok
theorem Inv.kept{t':Nat}(I:Inv X pins σ H s)(k:∀b u,s.heap.get? b=some u->h'.get? b=some u):Inv X pins σ H {s with heap:=h',toks:=t'}:=I.un (Un.kept k) (I.hok.kept k)
theorem Inv.laid{a:Addr}{o:HO}{t':Nat}(I:Inv X pins σ H s)(k:∀b u,s.heap.get? b=some u->h'.get? b=some u)(hp:s.heap.objs.size<=a)(new:ObjOk X.prog X.w (upd H a o) h' a o):
  Inv X pins σ (upd H a o) {s with heap:=h',toks:=t'}:=I.un (Un.laid k hp (I.hok.fresh hp)) (I.hok.laid k hp new)
theorem Inv.write{x e:Addr}{o:HO}{t':Nat}(I:Inv X pins σ H s)(mu:Mut (H x))(he:e=x\/H e=some (.own x))(k:∀b u,b≠e->s.heap.get? b=some u->h'.get? b=some u)(heo:∃u,h'.get? e=some u)
  (new:ObjOk X.prog X.w (upd H x o) h' x o):Inv X pins σ (upd H x o) {s with heap:=h',toks:=t'}:=I.un (Un.write mu he k heo) (I.hok.write mu he k heo new)
theorem Inv.weak{σ':List (Option V)}(I:Inv X pins σ H s)(hl:σ'.length=σ.length)(w:∀(i:Nat) v,σ'[i]? =some (some v)->σ[i]? =some (some v)):Inv X pins σ' H s:=
 ⟨I.ok,I.os,I.bare,I.base,let⟨m,hn,hl'⟩:=I.loc;⟨m,hn,λi x v e1 e2 e3=>hl' i x v e1 (w i v e2) e3⟩,I.cell,I.free,I.freeC,I.pin,I.hok,hl.trans I.len⟩
theorem Inv.pins_of{pins':List (Addr×Obj)}(I:Inv X pins σ H s)(h:∀p∈pins',s.heap.get? p.1=some p.2/\H p.1=none/\p.1≠X.env.locals/\p.1∉X.fs/\∀v,p.2.data≠ .cell v):Inv X pins' σ H s:=
 ⟨I.ok,I.os,I.bare,I.base,I.loc,I.cell,I.free,I.freeC,λp hp=>(mem_append.mp hp).elim (λz=>I.pin p (mem_append_left _ z)) (h p),I.hok,I.len⟩
theorem NJ{N:List Str}(hN:N.Nodup){i j:Nat}{x:Str}(a:N[i]? =some x)(b:N[j]? =some x):i=j:=by
 obtain⟨h1,e1⟩:=List.getElem?_eq_some_iff.mp a
 obtain⟨h2,e2⟩:=List.getElem?_eq_some_iff.mp b
 exact(List.getElem_inj hN).mp (e1.trans e2.symm)
theorem ID{M:Model}{A:Around}{E:Value->Shared->Prop}{i:Nat}{x:Str}{v:V}{u:Value}{Q:Unit->Shared->Prop}(I:Inv X pins σ H s)(hN:X.N.Nodup)(hi:X.N[i]? =some x)(hx:Loc X.env.scope x)(r:RelV v u)
  (h:∀s',Inv X pins (σ.set i (some v)) H s'->(∃a,Heap.SameBut a s.heap s'.heap/\(a=X.env.locals\/X.env.cells.lookup x=some a))->Q () s')(hf:X.fn x=true\/X.env.scope.names.lookup x=some .local:=by first|exact .inl rfl|exact .inr rfl|assumption):wpAny M A (storeName X.env x u) Q E s:=by
 obtain⟨m,hn,hl⟩:=id I.loc
 have hcls:(X.env.scope.kind==.class||(X.env.scope.kind==.module&&X.env.locals !=X.env.globals))=false:=by rw[I.ok.kind];rfl
 have hiσ:i<σ.length:=by rw[I.len];exact(List.getElem?_eq_some_iff.mp hi).1
 have cne:=I.cne
 have tracked:∀ {a:Addr} {h':Heap},(∃o,s.heap.get? a=some o/\H a=none)->Heap.SameBut a s.heap h'->HOk X.prog X.w H h':=λ{a h'} ha hs b ob e=>by
  obtain⟨_,_,hfree⟩:=ha
  refine(I.hok b ob e).stay (λc w' hc q=>(hs.2 c ?_).trans q) (λ_ q=>q) λ_ _ q=>q
  rintro rfl
  rcases hc with rfl|hc
  ·rw[hfree]at e;cases e
  ·rw[hfree]at hc;cases hc
 rcases hx with hk|hk
 ·refine wpAny_storeName_local hk hn (λh' hn' hs=> ?_) hcls
  obtain⟨oL,_,_,hoL,_⟩:=id hn
  refine h _ ⟨I.ok,I.os,I.bare,⟨λb o e n hb hx=> ?_,λb o e n hb hx=> ?_,I.base.free,λb o e hx=> ?_,I.base.tups,I.base.frzs,I.base.tbls⟩,⟨_,hn',λj y v' e1 e2 e3=> ?_⟩,λy c e=> ?_,I.free,I.freeC,λp hp=> ?_,tracked ⟨oL,hoL,I.free⟩ hs,by simpa using I.len⟩ ⟨_,hs,.inl rfl⟩
  ·exact(hs.2 b (ne_of_lt (lt_of_lt_of_le (lt_size e) I.ok.above))).trans (I.base.keep b o e n hb hx)
  ·obtain⟨sl,e1⟩:=I.base.slot b o e n hb hx
   exact⟨sl,(hs.2 b (ne_of_lt (lt_of_lt_of_le (lt_size e) I.ok.above))).trans e1⟩
  ·obtain⟨o',e1⟩:=I.base.there b o e hx
   exact⟨o',(hs.2 b (ne_of_lt (lt_of_lt_of_le (lt_size e) I.ok.above))).trans e1⟩
  ·by_cases hj:j=i
   ·subst hj
    rw[hi]at e1;cases e1
    rw[List.getElem?_set_self hiσ]at e2
    cases e2
    exact⟨u,r,.inl ⟨hk,by simp⟩⟩
   ·rw[List.getElem?_set_ne (Ne.symm hj)]at e2
    obtain⟨u',r',q⟩:=hl j y v' e1 e2 e3
    refine⟨u',r', ?_⟩
    rcases q with⟨k,e⟩|⟨k,c,e,z⟩
    ·refine .inl ⟨k, ?_⟩
     have:y≠x:=λe=>hj (NJ hN e1 (e▸hi))
     simp[this,e]
    ·exact .inr ⟨k,c,e,z.sameBut hs (cne y c e)⟩
  ·obtain⟨w',z⟩:=I.cell y c e
   exact⟨w',z.sameBut hs (cne y c e)⟩
  ·obtain⟨e,n,ne,nf,d⟩:=I.pin p hp
   exact⟨(hs.2 p.1 ne).trans e,n,ne,nf,d⟩
 ·have hfn:X.fn x=true:=by
   rcases hf with z|z
   ·exact z
   ·rw[z]at hk;cases hk
  obtain⟨c,hc⟩:=I.ok.has x (.inl hk)
  obtain⟨w',z⟩:=I.cell x c hc
  refine wpAny_storeName_cell I.ok.kind hk hc z (λh' hc' hs=> ?_)
  obtain⟨oc,hoc,hocd⟩:=id z
  refine h {s with heap:=h'} ⟨I.ok,I.os,I.bare,⟨λb o e n hb hx=> ?_,λb o e n hb hx=> ?_,I.base.free,λb o e hx=> ?_,I.base.tups,I.base.frzs,I.base.tbls⟩,⟨m,hn.sameBut hs (Ne.symm (cne x c hc)),λj y v' e1 e2 e3=> ?_⟩,λy c' e=> ?_,I.free,I.freeC,λp hp=> ?_,tracked ⟨oc,hoc,I.freeC x c hc⟩ hs,by simpa using I.len⟩ ⟨c,hs,.inr hc⟩
  ·exact(hs.2 b (ne_of_lt (lt_of_lt_of_le (lt_size e) (I.ok.cab x c hfn hc)))).trans (I.base.keep b o e n hb hx)
  ·obtain⟨sl,e1⟩:=I.base.slot b o e n hb hx
   exact⟨sl,(hs.2 b (ne_of_lt (lt_of_lt_of_le (lt_size e) (I.ok.cab x c hfn hc)))).trans e1⟩
  ·obtain⟨o',e1⟩:=I.base.there b o e hx
   exact⟨o',(hs.2 b (ne_of_lt (lt_of_lt_of_le (lt_size e) (I.ok.cab x c hfn hc)))).trans e1⟩
  ·by_cases hj:j=i
   ·subst hj
    rw[hi]at e1;cases e1
    rw[List.getElem?_set_self hiσ]at e2
    cases e2
    exact⟨u,r,.inr ⟨.inl hk,c,hc,hc'⟩⟩
   ·rw[List.getElem?_set_ne (Ne.symm hj)]at e2
    obtain⟨u',r',q⟩:=hl j y v' e1 e2 e3
    refine⟨u',r', ?_⟩
    rcases q with q|⟨k,c',e,z'⟩
    ·exact .inl q
    ·refine .inr ⟨k,c',e,z'.sameBut hs ?_⟩
     rintro rfl
     exact hj (NJ hN e1 (I.ok.inj _ _ _ e hc▸hi))
  ·by_cases hcc:c'=c
   ·subst hcc;exact⟨_,hc'⟩
   ·obtain⟨w2,z2⟩:=I.cell y c' e
    exact⟨w2,z2.sameBut hs hcc⟩
  ·obtain⟨e,n,ne,nf,d⟩:=I.pin p hp
   refine⟨(hs.2 p.1 ?_).trans e,n,ne,nf,d⟩
   intro q
   rw[q,hoc]at e
   have q':oc=p.2:=Option.some.inj e
   exact d w' (by rw[<-q'];exact hocd)
theorem EZ{M:Model}{A:Around}{E:Value->Shared->Prop}{i:Nat}{x:Str}{v:V}{u:Value}{Q:Unit->Shared->Prop}(I:Inv X pins σ H s)(hN:X.N.Nodup)(hi:X.N[i]? =some x)(hx:Loc X.env.scope x)(r:RelV v u)
  (h:∀s',Inv X pins (σ.set i (some v)) H s'->Q () s')(hf:X.fn x=true\/X.env.scope.names.lookup x=some .local:=by first|exact .inl rfl|exact .inr rfl|assumption):wpAny M A (storeName X.env x u) Q E s:=
 ID I hN hi hx r (λs' I' _=>h s' I') hf
theorem Inv.call'{s':Shared}{ch:List Addr}(I:Inv X pins σ H s)(ho:s'.os=s.os)(u:Un (frs X.stack) ch H H' s.heap s'.heap)(hok:HOk X.prog X.w H' s'.heap)(hg:AllBare s'.gens)
  (hch:∀b∈ch,(b∈X.ex\/X.s₀.heap.objs.size<=b)/\b≠X.env.locals/\(∀x c,X.env.cells.lookup x=some c->c≠b)/\∀p∈X.pn++pins,p.1≠b):Inv X pins σ H' s':=by
 obtain⟨h',g',d',t',o'⟩:=s'
 have e:o'=s.os:=ho
 subst e
 exact I.call (g':=g') (t':=t') (d':=d') u hok hg hch
end
noncomputable abbrev XK:=Value->Option Addr->Hp->Prop
noncomputable abbrev St:=List (Option V)
noncomputable abbrev VK:=V->Hp->Prop
noncomputable abbrev TE:=St->Hp->VK->Prop
noncomputable abbrev TT:=St->Hp->(Bool->Hp->Prop)->Prop
noncomputable abbrev TA:=St->Hp->(List V->Hp->Prop)->Prop
structure Ends where
 nx:St->Hp->Prop
 rt:VK
 bk:St->Hp->Prop:=λ_ _=>False
 ct:St->Hp->Prop:=λ_ _=>False
noncomputable abbrev TS:=Ends->St->Hp->Prop
noncomputable def EP(X:Cx)(pins:List (Addr×Obj))(σ:St)(Q:VK)(u:Value)(s':Shared):Prop:=∃v H',Inv X pins σ H' s'/\RelV v u/\Q v H'
noncomputable def TP(X:Cx)(pins:List (Addr×Obj))(σ:St)(Q:Bool->Hp->Prop)(b:Bool)(s':Shared):Prop:=∃H',Inv X pins σ H' s'/\Q b H'
noncomputable def AP(X:Cx)(pins:List (Addr×Obj))(σ:St)(Q:List V->Hp->Prop)(us:List Value)(s':Shared):Prop:=∃vs H',Inv X pins σ H' s'/\Vals vs us/\Q vs H'
noncomputable def SP(X:Cx)(pins:List (Addr×Obj))(D:Ends)(f:Flow)(s':Shared):Prop:=
 match f with
 | .next=>∃σ' H',Inv X pins σ' H' s'/\D.nx σ' H'
 | .brk=>∃σ' H',Inv X pins σ' H' s'/\D.bk σ' H'
 | .cont=>∃σ' H',Inv X pins σ' H' s'/\D.ct σ' H'
 | .ret u=>∃v σ' H',Inv X pins σ' H' s'/\RelV v u/\D.rt v H'
noncomputable def PE(X:Cx)(e:Expr)(t:TE):Prop:=
 ∀(pins:List (Addr×Obj)) (s:Shared) (σ:St) (H:Hp) (Q:VK),Inv X pins σ H s->t σ H Q->wpAny (model X.prog X.w) X.A (eval e X.env) (EP X pins σ Q) X.xe s
noncomputable def PT(X:Cx)(e:Expr)(t:TT):Prop:=
 ∀(pins:List (Addr×Obj)) (s:Shared) (σ:St) (H:Hp) (Q:Bool->Hp->Prop),Inv X pins σ H s->t σ H Q->wpAny (model X.prog X.w) X.A (isTrue e X.env (eval e X.env)) (TP X pins σ Q) X.xe s
noncomputable def PW(X:Cx)(e:Expr)(t:TT):Prop:=
 ∀(whole:Sem Value) (pins:List (Addr×Obj)) (s:Shared) (σ:St) (H:Hp) (Q:Bool->Hp->Prop),Inv X pins σ H s->t σ H Q->wpAny (model X.prog X.w) X.A (isTrue e X.env whole) (TP X pins σ Q) X.xe s
theorem PW.pt{X:Cx}{e:Expr}{t:TT}(h:PW X e t):PT X e t:=h _
noncomputable def PA(X:Cx)(es:List Expr)(t:TA):Prop:=
 ∀(pos:Pos) (pins:List (Addr×Obj)) (s:Shared) (σ:St) (H:Hp) (Q:List V->Hp->Prop),Inv X pins σ H s->t σ H Q->wpAny (model X.prog X.w) X.A (spliced (backTo pos (starEach es X.env))) (AP X pins σ Q) X.xe s
noncomputable def PS(X:Cx)(st:Stmt)(t:TS):Prop:=
 ∀(pins:List (Addr×Obj)) (s:Shared) (σ:St) (H:Hp) (D:Ends),Inv X pins σ H s->t D σ H->wpAny (model X.prog X.w) X.A (exec st X.env) (SP X pins D) X.xe s
noncomputable def PSs(X:Cx)(st:List Stmt)(t:TS):Prop:=
 ∀(pins:List (Addr×Obj)) (s:Shared) (σ:St) (H:Hp) (D:Ends),Inv X pins σ H s->t D σ H->wpAny (model X.prog X.w) X.A (execs st X.env) (SP X pins D) X.xe s
theorem thn{α:Type}{t:Sem α}{Q Q':α->Shared->Prop}{M:Model}{A:Around}{E:Value->Shared->Prop}{s:Shared}(h:wpAny M A t Q E s)(hQ:∀a s,Q a s->Q' a s):wpAny M A t Q' E s:=wpAny_mono h hQ λ_ _ x=>x
section
variable{X:Cx}
inductive tVar(i:Nat)(σ:St)(H:Hp)(Q:VK):Prop
 |mk:∀v,(σ[i]? =some (some v))->(Q v H)->tVar i σ H Q
noncomputable def tC(v:V):TE:=λ_ H Q=>Q v H
theorem cDZ{i:Nat}{x:Str}{pos:Pos}(hN:X.N[i]? =some x)(hv:Vis X.env.scope x)(hd:(x==("__debug__":Str))=false:=by decide)(hcd:(x==("__classdict__":Str))=false:=by decide):PE X (.Name x pos) (tVar i):=by
 intro pins s σ H Q I h
 obtain⟨v,e,h⟩:=h
 obtain⟨m,hn,hl⟩:=I.loc
 obtain⟨u,r,l⟩:=hl i x v hN e hv
 have fin:EP X pins σ Q u s:=⟨v,H,I,r,h⟩
 rcases l with⟨hk,hm⟩|⟨hk,c,hc,hcell⟩
 ·exact wpAny_Name (wpAny_loadName_local I.ok.kind hk hn hm fin) hd
 ·rcases hk with hk|hk
  ·exact wpAny_Name (wpAny_loadName_cell I.ok.kind hk hc hcell fin) hd
  ·exact wpAny_Name (wpAny_loadName_free I.ok.kind hk hc hcell fin hcd) hd
theorem A9{i j pos}:PE X (.Constant (.int i) j pos) (tC (.int i)):=λ_ _ _ H _ I h=>wpAny_Constant_int ⟨.int i,H,I.tok _,⟨_,rfl⟩,h⟩
theorem DP{b j pos}:PE X (.Constant (.bool b) j pos) (tC (.bl b)):=λ_ _ _ H _ I h=>Constant_bool ⟨.bl b,H,I,rfl,h⟩
theorem Q4{j pos}:PE X (.Constant .none j pos) (tC .non):=λ_ _ _ H _ I h=>Constant_none ⟨.non,H,I,rfl,h⟩
theorem B1{x j pos}:PE X (.Constant (.str x) j pos) (tC (.str x)):=λ_ _ _ H _ I h=>Calls.Constant_str ⟨.str x,H,I.tok _,⟨_,rfl⟩,h⟩
noncomputable def Gl(X:Cx)(x:Str):Prop:=X.env.kindOf x=some .globalImplicit
theorem BK{E:Value->Shared->Prop}{pins:List (Addr×Obj)}{s:Shared}{σ:St}{H:Hp}{x:Str}{u:Value}{pos:Pos}{Q:Value->Shared->Prop}(I:Inv X pins σ H s)(hg:Gl X x)(hm:X.mg x=some u)(h:Q u s)
  (hd:(x==("__debug__":Str))=false:=by decide):wpAny (model X.prog X.w) X.A (eval (.Name x pos) X.env) Q E s:=
 Calls.Name_function_global I.ok.kind hg (Calls.loadGlobal_global (by rw[I.ok.glob];exact I.mod.glob.keeps I.bk) hm h) hd
theorem AX{E:Value->Shared->Prop}{pins:List (Addr×Obj)}{s:Shared}{σ:St}{H:Hp}{x:Str}{u:Value}{pos:Pos}{Q:Value->Shared->Prop}(I:Inv X pins σ H s)(hg:Gl X x)(hm:X.mg x=none)(hv:bootBuiltins x=some u)(h:Q u s)
  (hn:x≠ "__name__":=by decide)(hd:(x==("__debug__":Str))=false:=by decide):wpAny (model X.prog X.w) X.A (eval (.Name x pos) X.env) Q E s:=by
 obtain⟨mb,h1,h2⟩:=I.mod.blt
 exact Calls.Name_function_global I.ok.kind hg (Calls.loadGlobal_builtin (by rw[I.ok.glob];exact I.mod.glob.keeps I.bk) hm (by rw[I.ok.blt];exact h1.keeps I.bk) ((h2 x hn).trans hv) h) hd
theorem BY{x:Str}{v:V}{u:Value}{pos:Pos}(hg:Gl X x)(hm:X.mg x=some u)(r:RelV v u)(hd:(x==("__debug__":Str))=false:=by decide):PE X (.Name x pos) (tC v):=
 λ_ _ _ H _ I h=>BK I hg hm ⟨v,H,I,r,h⟩ hd
theorem M5{x:Str}{v:V}{u:Value}{pos:Pos}(hg:Gl X x)(hm:X.mg x=none)(hv:bootBuiltins x=some u)(r:RelV v u)(hn:x≠ "__name__":=by decide)(hd:(x==("__debug__":Str))=false:=by decide):PE X (.Name x pos) (tC v):=
 λ_ _ _ H _ I h=>AX I hg hm hv ⟨v,H,I,r,h⟩ hn hd
variable{a b:Expr}{ta tb:TE}{pos:Pos}
variable{tA tB':TT}{rest:List Expr}
noncomputable def eCZ(t u:TT):TT:=fun σ H Q=>t σ H λc H1=>if c=true then u σ H1 Q else Q false H1
noncomputable def tOr(t u:TT):TT:=fun σ H Q=>t σ H λc H1=>if c=true then Q true H1 else u σ H1 Q
noncomputable def eFZ(t:TT):TT:=fun σ H Q=>t σ H λc H1=>Q (!c) H1
theorem BH(ha:PT X a tA):PW X (.BoolOp .And [a] pos) tA:=by
 intro wh pins s σ H Q I h
 refine isTrue_and (thn (ha pins s σ H Q I h) λc s1 e=> ?_)
 cases c with
 |true=>exact isTrue_and_nil e
 |false=>exact e
theorem AZ(ha:PT X a tA):PW X (.BoolOp .Or [a] pos) tA:=by
 intro wh pins s σ H Q I h
 refine isTrue_or (thn (ha pins s σ H Q I h) λc s1 e=> ?_)
 cases c with
 |false=>exact isTrue_or_nil e
 |true=>exact e
theorem ET(ha:PT X a tA)(hb:PW X (.BoolOp .And (b::rest) pos) tB'):PW X (.BoolOp .And (a::b::rest) pos) (eCZ tA tB'):=by
 intro wh pins s σ H Q I h
 refine isTrue_and (thn (ha pins s σ H _ I h) λc s1 ⟨H1,I1,q1⟩=> ?_)
 cases c with
 |true=>exact hb wh pins s1 σ H1 Q I1 q1
 |false=>exact⟨H1,I1,q1⟩
theorem FX(ha:PT X a tA)(hb:PW X (.BoolOp .Or (b::rest) pos) tB'):PW X (.BoolOp .Or (a::b::rest) pos) (tOr tA tB'):=by
 intro wh pins s σ H Q I h
 refine isTrue_or (thn (ha pins s σ H _ I h) λc s1 ⟨H1,I1,q1⟩=> ?_)
 cases c with
 |true=>exact⟨H1,I1,q1⟩
 |false=>exact hb wh pins s1 σ H1 Q I1 q1
theorem XG(ha:PT X a tA):PT X (.UnaryOp .Not a pos) (eFZ tA):=by
 intro pins s σ H Q I h
 exact isTrue_not (ha pins s σ H (λc H1=>Q (!c) H1) I h)
noncomputable def dfZ(ta tb:TE):TE:=fun σ H Q=>ta σ H λx H1=>∃c,x=.bl c/\if c=true then tb σ H1 Q else Q (.bl false) H1
noncomputable def diZ(ta:TE):TE:=fun σ H Q=>ta σ H λx H1=>∃c,x=.bl c/\Q (.bl (!c)) H1
theorem RI{op}{t:TE}(h:PE X a t):PE X (.BoolOp op [a] pos) t:=λpins s σ H Q I hw=>BoolOp_one (h pins s σ H Q I hw)
theorem QK(ha:PE X a ta)(hb:PE X (.BoolOp .And (b::rest) pos) tb):PE X (.BoolOp .And (a::b::rest) pos) (dfZ ta tb):=by
 intro pins s σ H Q I h
 refine BoolOp_and (thn (ha pins s σ H _ I h) λv s1 ⟨x,H1,I1,r1,q1⟩=> ?_)
 obtain⟨c,rfl,q1⟩:=q1
 cases r1
 refine wpAny_truthy_bool ?_
 cases c with
 |true=>exact hb pins s1 σ H1 Q I1 q1
 |false=>exact⟨.bl false,H1,I1,rfl,q1⟩
theorem b5Z(ha:PE X a ta):PE X (.UnaryOp .Not a pos) (diZ ta):=by
 intro pins s σ H Q I h
 refine UnaryOp_ (thn (ha pins s σ H _ I h) λv s1 ⟨x,H1,I1,r1,q1⟩=> ?_)
 obtain⟨c,rfl,q1⟩:=q1
 cases r1
 exact not_of (wpAny_truthy_bool ⟨.bl (!c),H1,I1,rfl,q1⟩)
noncomputable def tIf(t:TT)(ta tb:TE):TE:=fun σ H Q=>t σ H λc H1=>if c=true then ta σ H1 Q else tb σ H1 Q
theorem P0{c:Expr}(hc:PT X c tA)(ha:PE X a ta)(hb:PE X b tb):PE X (.IfExp c a b pos) (tIf tA ta tb):=by
 intro pins s σ H Q I h
 refine wpAny_IfExp (thn (hc pins s σ H _ I h) λd s1 ⟨H1,I1,q1⟩=> ?_)
 cases d with
 |true=>exact ha pins s1 σ H1 Q I1 q1
 |false=>exact hb pins s1 σ H1 Q I1 q1
end
noncomputable def SqL(K:FZ)(H:Hp)(a:Addr)(xs:List V):Prop:=
 Rd H a (.lst xs)\/
  ∃(o:Obj) (its:Array Value) (n:Nat),K.lookup a=some o/\o.cls=.type "list"/\o.dict=none/\o.data=.seq its n/\its.size<=sizeLine/\Vals xs its.toList
noncomputable def SqT(K:FZ)(H:Hp)(a:Addr)(xs:List V):Prop:=
 Rd H a (.tup xs)\/
  ∃(o:Obj) (its:Array Value) (n:Nat),K.lookup a=some o/\o.cls=.type "tuple"/\o.data=.seq its n/\its.size<=sizeLine/\Vals xs its.toList
noncomputable def edZ:Value->Option V
 | .none=>some .non
 | .bool b=>some (.bl b)
 | .int i _=>some (.int i)
 | .str x _=>some (.str x)
 | .bytes b _=>some (.byt b)
 | .float b _=>some (.flt b)
 | .ref a=>some (.ref a)
 | .type n=>some (.ty n)
 |_=>none
theorem RelV.abs{x:V}{u:Value}(r:RelV x u):edZ u=some x:=by
 cases x with
 |non=>cases r;rfl
 |bl _=>cases r;rfl
 |int _=>obtain⟨t,rfl⟩:=r;rfl
 |str _=>obtain⟨t,rfl⟩:=r;rfl
 |byt _=>obtain⟨t,rfl⟩:=r;rfl
 |flt _=>obtain⟨t,rfl⟩:=r;rfl
 |ref _=>cases r;rfl
 |ty _=>cases r;rfl
theorem RelV.inj{x y:V}{u:Value}(r:RelV x u)(q:RelV y u):x=y:=Option.some.inj (r.abs.symm.trans q.abs)
theorem Vals.inj:∀ {xs ys:List V} {us:List Value},Vals xs us->Vals ys us->xs=ys
 |_,_,_,.nil,.nil=>rfl
 |_,_,_,.cons r t,.cons r' t'=>by rw[r.inj r',Vals.inj t t']
section
variable{X:Cx}{pins:List (Addr×Obj)}{σ:St}{H:Hp}{s:Shared}{a:Addr}{xs ys:List V}
theorem SqL.of{K:FZ}(h:H a=some (.lst xs)):SqL K H a xs:=.inl (.inl h)
theorem SqT.of{K:FZ}(h:H a=some (.tup xs)):SqT K H a xs:=.inl (.inl h)
theorem Inv.list(I:Inv X pins σ H s)(h:SqL X.K H a xs):∃its:List Value,Vals xs its/\PlainL s.heap a its.toArray/\xs.length<=sizeLine:=by
 rcases h with h|⟨o,its,n,hk,hc,hd,hs,hz,r⟩
 ·obtain⟨z,its,n,r,e⟩:=h.ok I.hok
  exact⟨its,r,⟨_,n,e,rfl,rfl,rfl⟩,z⟩
 ·refine⟨its.toList,r,⟨o,n,I.kIn a o hk,hc,hd,by simpa using hs⟩, ?_⟩
  have e:=r.length
  simp only[Array.length_toList]at e
  omega
theorem Inv.tuple(I:Inv X pins σ H s)(h:SqT X.K H a xs):∃its:List Value,Vals xs its/\IsTup s.heap a its.toArray/\xs.length<=sizeLine:=by
 rcases h with h|⟨o,its,n,hk,hc,hs,hz,r⟩
 ·obtain⟨z,its,r,p⟩:=h.ok I.hok
  exact⟨its,r,p,z⟩
 ·refine⟨its.toList,r,⟨o,I.kIn a o hk,hc,n,by simpa using hs⟩, ?_⟩
  have e:=r.length
  simp only[Array.length_toList]at e
  omega
theorem Inv.list_inj(I:Inv X pins σ H s)(h:SqL X.K H a xs)(h':SqL X.K H a ys):xs=ys:=by
 obtain⟨its,r,⟨o,n,e,_,_,d⟩,_⟩:=I.list h
 obtain⟨its',r',⟨o',n',e',_,_,d'⟩,_⟩:=I.list h'
 rw[e]at e';cases e'
 rw[d]at d'
 injection d' with d1 _
 have:its=its':=by simpa using congrArg Array.toList d1
 subst this
 exact r.inj r'
theorem Inv.tuple_inj(I:Inv X pins σ H s)(h:SqT X.K H a xs)(h':SqT X.K H a ys):xs=ys:=by
 obtain⟨its,r,⟨o,e,_,n,d⟩,_⟩:=I.tuple h
 obtain⟨its',r',⟨o',e',_,n',d'⟩,_⟩:=I.tuple h'
 rw[e]at e';cases e'
 rw[d]at d'
 injection d' with d1 _
 have:its=its':=by simpa using congrArg Array.toList d1
 subst this
 exact r.inj r'
end
noncomputable abbrev Cx.wish(X:Cx)(E:Value->Shared->Prop):Cx:={X with xe:=E}
noncomputable abbrev Cx.nox(X:Cx):Cx:=X.wish λ_ _=>False
theorem Cx.Ok.wish{X:Cx}(ok:X.Ok)(E:Value->Shared->Prop):(X.wish E).Ok:=
 ⟨ok.mod,ok.kind,ok.glob,ok.blt,ok.above,ok.inj,ok.has,ok.cab,ok.hd,ok.frames,ok.stk,ok.exf,ok.bs,ok.bsz,ok.noex,ok.exfs,ok.funs,ok.frf⟩
theorem Cx.Ok.unwish{X:Cx}{E:Value->Shared->Prop}(ok:(X.wish E).Ok):X.Ok:=
 ⟨ok.mod,ok.kind,ok.glob,ok.blt,ok.above,ok.inj,ok.has,ok.cab,ok.hd,ok.frames,ok.stk,ok.exf,ok.bs,ok.bsz,ok.noex,ok.exfs,ok.funs,ok.frf⟩
section
variable{X:Cx}{pins:List (Addr×Obj)}{σ:St}{H:Hp}{s:Shared}{E:Value->Shared->Prop}
theorem Inv.wish(I:Inv X pins σ H s)(E:Value->Shared->Prop):Inv (X.wish E) pins σ H s:=⟨I.ok.wish E,I.os,I.bare,I.base,I.loc,I.cell,I.free,I.freeC,I.pin,I.hok,I.len⟩
theorem Inv.unwish(I:Inv (X.wish E) pins σ H s):Inv X pins σ H s:=⟨I.ok.unwish,I.os,I.bare,I.base,I.loc,I.cell,I.free,I.freeC,I.pin,I.hok,I.len⟩
theorem SP.unwish{D:Ends}{f:Flow}{s':Shared}(h:SP (X.wish E) pins D f s'):SP X pins D f s':=by
 cases f with
 |next=>obtain⟨σ',H',I,q⟩:=h;exact⟨σ',H',I.unwish,q⟩
 |brk=>obtain⟨σ',H',I,q⟩:=h;exact⟨σ',H',I.unwish,q⟩
 |cont=>obtain⟨σ',H',I,q⟩:=h;exact⟨σ',H',I.unwish,q⟩
 |ret u=>obtain⟨v,σ',H',I,r,q⟩:=h;exact⟨v,σ',H',I.unwish,r,q⟩
theorem PSs.nox{st:List Stmt}{t:TS}(h:PSs X.nox st t):PSs X st t:=λpins s σ H D I hw=>
 wpAny_mono (h pins s σ H D (I.wish _) hw) (λ_ _ q=>q.unwish) λ_ _ z=>False.elim z
variable{st:Stmt}{rest:List Stmt}{t u:TS}{e:Expr}{te:TE}{pos:Pos}
noncomputable def drZ:TS:=λD σ H=>D.nx σ H
noncomputable def O6(t u:TS):TS:=λD σ H=>t {D with nx:=u D} σ H
theorem D2:PSs X [] drZ:=λ_ _ σ H _ I h=>wpAny_execs_nil ⟨σ,H,I,h⟩
theorem A8(h1:PS X st t)(h2:PSs X rest u):PSs X (st::rest) (O6 t u):=by
 intro pins s σ H D I h
 refine wpAny_execs_cons (thn (h1 pins s σ H {D with nx:=u D} I h) λf s1 q=> ?_)
 cases f with
 |next=>
  obtain⟨σ',H',I',q⟩:=q
  exact h2 pins s1 σ' H' D I' q
 |ret v=>exact q
 |brk=>exact q
 |cont=>exact q
theorem B0(h1:PS X st t):PSs X [st] t:=by
 intro pins s σ H D I h
 refine wpAny_execs_cons (thn (h1 pins s σ H D I h) λf s1 q=> ?_)
 cases f with
 |next=>exact wpAny_execs_nil q
 |ret v=>exact q
 |brk=>exact q
 |cont=>exact q
theorem Inv.quiet{pins:List (Addr×Obj)}{σ:St}{H:Hp}{s:Shared}(I:Inv X pins σ H s):interactive X.env=false:=by simp[interactive,I.ok.kind]
noncomputable def djZ(te:TE):TS:=λD σ H=>te σ H λ_ H1=>D.nx σ H1
theorem C3(he:PE X e te)(hs:swapsWith e none pos.line X.env=pure false:=by rfl):PS X (.Expr e pos) (djZ te):=by
 intro pins s σ H D I h
 exact wpAny_Expr_any (thn (he pins s σ H _ I h) λv s1 ⟨x,H1,I1,r1,q1⟩=>⟨σ,H1,I1,q1⟩) I.quiet hs
noncomputable def eEZ(te:TE):TS:=λD σ H=>te σ H D.rt
theorem C2(he:PE X e te):PS X (.Return (some e) pos) (eEZ te):=by
 intro pins s σ H D I h
 exact wpAny_Return_some (thn (he pins s σ H _ I h) λv s1 ⟨x,H1,I1,r1,q1⟩=>⟨x,σ,H1,I1,r1,q1⟩)
noncomputable def dGZ:TS:=λD _ H=>D.rt .non H
theorem V9:PS X (.Return none pos) dGZ:=λ_ _ σ H _ I h=>wpAny_Return_none ⟨.non,σ,H,I,rfl,h⟩
noncomputable def ecZ(c:TT)(t u:TS):TS:=λD σ H=>c σ H λb H1=>if b=true then t D σ H1 else u D σ H1
theorem D8{c:Expr}{a b:List Stmt}{tc:TT}(hc:PT X c tc)(ha:PSs X a t)(hb:PSs X b u):PS X (.If c a b pos) (ecZ tc t u):=by
 intro pins s σ H D I h
 refine wpAny_If (thn (hc pins s σ H _ I h) λd s1 ⟨H1,I1,q1⟩=> ?_)
 cases d with
 |true=>exact ha pins s1 σ H1 D I1 q1
 |false=>exact hb pins s1 σ H1 D I1 q1
end
noncomputable abbrev TG:=V->St->Hp->(St->Hp->Prop)->Prop
noncomputable abbrev TGs:=List V->St->Hp->(St->Hp->Prop)->Prop
noncomputable def PG(X:Cx)(target:Expr)(t:TG):Prop:=
 ∀(pins:List (Addr×Obj)) (s:Shared) (σ:St) (H:Hp) (v:V) (u:Value) (Q:St->Hp->Prop),Inv X pins σ H s->RelV v u->t v σ H Q->
  wpAny (model X.prog X.w) X.A (assign target X.env u) (λ_ s'=>∃σ' H',Inv X pins σ' H' s'/\Q σ' H') X.xe s
noncomputable def PGs(X:Cx)(ts:List Expr)(t:TGs):Prop:=
 ∀(pins:List (Addr×Obj)) (s:Shared) (σ:St) (H:Hp) (vs:List V) (us:List Value) (Q:St->Hp->Prop),Inv X pins σ H s->Vals vs us->t vs σ H Q->
  wpAny (model X.prog X.w) X.A (assignInOrder ((assignEach ts X.env).map (·.2)) us) (λ_ s'=>∃σ' H',Inv X pins σ' H' s'/\Q σ' H') X.xe s
noncomputable abbrev ckZ:=V->V->V->Hp->(Hp->Prop)->Prop
noncomputable def cTZ(X:Cx)(t:ckZ):Prop:=
 ∀(pins:List (Addr×Obj)) (s:Shared) (σ:St) (H:Hp) (o i v:V) (ov iv u:Value) (Q:Hp->Prop),Inv X pins σ H s->RelV o ov->RelV i iv->RelV v u->t o i v H Q->
  wpAny (model X.prog X.w) X.A (setItem ov iv u) (λ_ s'=>∃H',Inv X pins σ H' s'/\Q H') X.xe s
section
variable{X:Cx}{pos:Pos}
noncomputable def XO(i:Nat):TG:=λv σ H Q=>Q (σ.set i (some v)) H
theorem J3{i:Nat}{x:Str}(hN:X.N.Nodup)(hi:X.N[i]? =some x)(hx:Loc X.env.scope x)(hf:X.fn x=true\/X.env.scope.names.lookup x=some .local:=by first|exact .inl rfl|exact .inr rfl|assumption):PG X (.Name x pos) (XO i):=by
 intro pins s σ H v u Q I r h
 exact wpAny_assign_Name (EZ I hN hi hx r (λs' I'=>⟨_,H,I',h⟩) hf)
noncomputable def eyZ:TGs:=λvs σ H Q=>vs=[]/\Q σ H
noncomputable def dzZ(t:TG)(u:TGs):TGs:=λvs σ H Q=>∃v r,vs=v::r/\t v σ H fun σ' H'=>u r σ' H' Q
theorem EN:PGs X [] eyZ:=by
 intro pins s σ H vs us Q I r h
 obtain⟨e,h⟩:=h
 subst e
 cases r
 exact assignInOrder_nil ⟨σ,H,I,h⟩
theorem O9{e:Expr}{es:List Expr}{t:TG}{u:TGs}(h1:PG X e t)(h2:PGs X es u)
  (hs:(assignEach (e::es) X.env).map (·.2)=assign e X.env::(assignEach es X.env).map (·.2):=by rfl):PGs X (e::es) (dzZ t u):=by
 intro pins s σ H vs us Q I r h
 obtain⟨v,vr,e1,h⟩:=h
 subst e1
 cases r with
 |cons r rr=>
  rw[hs]
  refine assignInOrder_cons (thn (h1 pins s σ H _ _ _ I r h) λ_ s1 ⟨σ1,H1,I1,q1⟩=> ?_)
  exact h2 pins s1 σ1 H1 _ _ Q I1 rr q1
noncomputable def enZ(K:FZ)(n:Nat)(t:TGs):TG:=λv σ H Q=>∃a xs,v=.ref a/\SqT K H a xs/\xs.length=n/\t xs σ H Q
theorem LH{es:List Expr}{k:Nat}{t:TGs}{n:Nat}(hc:X.calm=true)(h:PGs X es t)
  (hn:(assignEach es X.env).length=n:=by rfl)(hst:(assignEach es X.env).findIdx? (·.1)=none:=by rfl):PG X (.Tuple es k pos) (enZ X.K n t):=by
 intro pins s σ H v u Q I r hw
 obtain⟨a,xs,e1,hq,hl,hw⟩:=hw
 subst e1
 cases r
 obtain⟨its,rv,ht,hz⟩:=I.tuple hq
 refine assign_Tuple_tuple (I.ok.hd hc) ht (by simp[hn,<-hl,rv.length]) hst λh' hx=> ?_
 have I1:Inv X pins σ H {s with heap:=h'}:=I.kept (t':=s.toks) λb o e=>hx b o (ne_of_lt (lt_size e)) e
 exact h pins _ σ H xs _ Q I1 (by simpa using rv) hw
noncomputable def eAZ(to ti:TE)(t:ckZ):TG:=λv σ H Q=>to σ H λo H1=>ti σ H1 λi H2=>t o i v H2 λH3=>Q σ H3
theorem U3{o i:Expr}{to ti:TE}{t:ckZ}(ho:PE X o to)(hi:PE X i ti)(hs:cTZ X t)
  (ha:∀v,assign (.Subscript o i pos) X.env v=(do
   let ov<-holding [v] (eval o X.env)
   let iv<-holding [v,ov] (eval i X.env)
   standAt pos
   holding [v,ov,iv] (setItem ov iv v)
   release [v,ov,iv] []):=by intro _;rfl):PG X (.Subscript o i pos) (eAZ to ti t):=by
 intro pins s σ H v u Q I r h
 rw[ha]
 refine bZ (wpAny_holding (thn (ho pins s σ H _ I h) λov s1 ⟨x,H1,I1,r1,q1⟩=> ?_))
 refine bZ (wpAny_holding (thn (hi pins s1 σ H1 _ I1 q1) λiv s2 ⟨y,H2,I2,r2,q2⟩=> ?_))
 refine bZ (wpAny_standAt (bZ (wpAny_holding (thn (hs pins s2 σ H2 x y v ov iv u _ I2 r1 r2 r q2) λ_ s3 ⟨H3,I3,q3⟩=> ?_))))
 exact wpAny_release ⟨σ,H3,I3,q3⟩
noncomputable def b0Z(te:TE)(g:TG):TS:=λD σ H=>te σ H λx H1=>g x σ H1 D.nx
theorem Q3{tg e:Expr}{te:TE}{g:TG}(he:PE X e te)(hg:PG X tg g)(hs:swapsWithSole [tg] e pos.line X.env=pure false:=by rfl)(hw:swappedStores [tg] e X.env=pure none:=by rfl)
  (h1:(assignEach [tg] X.env).map (·.2)=[assign tg X.env]:=by rfl):PS X (.Assign [tg] e pos) (b0Z te g):=by
 intro pins s σ H D I h
 refine wpAny_Assign_stores (thn (he pins s σ H _ I h) λv s1 ⟨x,H1,I1,r1,q1⟩=> ?_) hs hw
 rw[h1]
 exact thn (hg pins s1 σ H1 x v _ I1 r1 q1) λ_ s2 q=>q
theorem C7{i:Nat}{x:Str}{e:Expr}{te:TE}{pos':Pos}(hN:X.N.Nodup)(hi:X.N[i]? =some x)(hx:Loc X.env.scope x)(he:PE X e te)(hs:swapsWith e (some (.Name x pos')) pos.line X.env=pure false:=by rfl)(hf:X.fn x=true\/X.env.scope.names.lookup x=some .local:=by first|exact .inl rfl|exact .inr rfl|assumption):
  PS X (.Assign [.Name x pos'] e pos) (b0Z te (XO i)):=by
 intro pins s σ H D I h
 refine wpAny_Assign_Name (thn (he pins s σ H _ I h) λv s1 ⟨y,H1,I1,r1,q1⟩=> ?_) hs
 exact EZ I1 hN hi hx r1 (λs2 I2=>⟨_,H1,I2,q1⟩) hf
noncomputable def b8Z(c:TT)(tb:TS):TS:=λD σ H=>∃W:Nat->St->Hp->Prop,(∃m,W m σ H)/\∀m σ H,W m σ H->
 c σ H λb H1=>if b=true then∃N:St->Hp->Prop,(∀σ' H',N σ' H'->∃m',m'<m/\W m' σ' H')/\tb {D with nx:=N,ct:=N,bk:=D.nx} σ H1 else D.nx σ H1
theorem Z0{c:Expr}{body:List Stmt}{tc:TT}{tb:TS}(hp:PassesOwn (model X.prog X.w) X.A X.env X.xe)(hc:PT X c tc)(hb:PSs X body tb):PS X (.While c body [] pos) (b8Z tc tb):=by
 intro pins s σ H D I h
 obtain⟨W,⟨m0,w0⟩,turn⟩:=h
 refine wpAny_While (codeAny_whileLoop (λn s'=>∃σ' H',Inv X pins σ' H' s'/\W n σ' H') ?_ m0 ⟨σ,H,I,w0⟩)
 rintro n s1 ⟨σ1,H1,I1,w1⟩
 refine wpAny_passesOwn hp (thn (hc pins s1 σ1 H1 _ I1 (turn n σ1 H1 w1)) λb s2 ⟨H2,I2,q2⟩=> ?_)
 cases b with
 |true=>
  obtain⟨N,hN,q2⟩:=q2
  rw[if_pos rfl]
  refine wpAny_passesOwn hp (thn (hb pins s2 σ1 H2 _ I2 q2) λf s3 q3=> ?_)
  cases f with
  |next=>
   obtain⟨σ3,H3,I3,n3⟩:=q3
   obtain⟨m',hm,w3⟩:=hN σ3 H3 n3
   exact⟨m',hm,σ3,H3,I3,w3⟩
  |cont=>
   obtain⟨σ3,H3,I3,n3⟩:=q3
   obtain⟨m',hm,w3⟩:=hN σ3 H3 n3
   exact⟨m',hm,σ3,H3,I3,w3⟩
  |brk=>exact q3
  |ret v=>exact q3
 |false=>
  rw[if_neg nZ]
  exact wpAny_execs_nil ⟨σ1,H2,I2,q2⟩
end
structure It where
 go:Nat->Hp->Prop
 yld:Nat->Hp->V->Hp->Prop
 stop:Nat->Hp->Prop
noncomputable def QU(X:Cx)(pins:List (Addr×Obj))(H:Hp)(b:Addr):Prop:=
 H b=none/\b≠X.env.locals/\b∉X.fs/\(b∈X.ex\/X.s₀.heap.objs.size<=b)/\(∀x c,X.env.cells.lookup x=some c->c≠b)/\∀p∈X.pn++pins,p.1≠b
theorem Inv.fpOk{X:Cx}{pins:List (Addr×Obj)}{σ:St}{H H':Hp}{s:Shared}{b:Addr}(I:Inv X pins σ H s)(hb:s.heap.objs.size<=b)(hn:H' b=none):QU X pins H' b:=by
 refine⟨hn,Nat.ne_of_gt (lt_of_lt_of_le I.lt hb),I.nofs hb,.inr (le_trans I.sz hb),λx c e z=> ?_,λp hp z=> ?_⟩
 ·obtain⟨v,q⟩:=I.cell x c e
  exact absurd (lt_of_lt_of_le q.lt (by rw[z];exact hb)) (lt_irrefl _)
 ·exact absurd (lt_of_lt_of_le (lt_size (I.pin p hp).1) (by rw[z];exact hb)) (lt_irrefl _)
structure Turn (P:Program) (w:World) (K:FZ) (tg:Expr) (J:It) (fp:List Addr) (it:Addr) (tn:Nat->Heap->Prop):Prop where
 mem:it∈fp
 obj:∀i h,tn i h->∀b∈fp,∃o,h.get? b=some o/\∀v,o.data≠ .cell v
 keep:∀i h h',tn i h->(∀b∈fp,∀o,h.get? b=some o->h'.get? b=some o)->tn i h'
 item:∀(X:Cx),X.prog=P->X.w=w->X.K=K->X.calm=true->∀(i:Nat) (pins:List (Addr×Obj)) (s:Shared) (σ:St) (H:Hp) (E:Value->Shared->Prop),Inv X pins σ H s->(∀b∈fp,QU X pins H b)->tn i s.heap->J.go i H->
  wpAny (model P w) X.A (pyNext (.ref it)) (λr s1=>∃u,r=some u/\
   wpAny (model P w) X.A (letOwnedTupleGo tg (.ref it) u) (λ_ s2=>∃x H',Inv X pins σ H' s2/\RelV x u/\J.yld i H x H'/\tn (i+1) s2.heap/\∀b∈fp,H' b=none) E s1) E s
 done:∀(X:Cx),X.prog=P->X.w=w->X.K=K->X.calm=true->∀(i:Nat) (pins:List (Addr×Obj)) (s:Shared) (σ:St) (H:Hp) (E:Value->Shared->Prop),Inv X pins σ H s->(∀b∈fp,QU X pins H b)->tn i s.heap->J.stop i H->
  wpAny (model P w) X.A (pyNext (.ref it)) (λr s1=>r=none/\Inv X pins σ H s1) E s
 self:∀(A:Around) (i:Nat) (s:Shared) (Q:Value->Shared->Prop) (E:Value->Shared->Prop),tn i s.heap->Q (.ref it) s->wpAny (model P w) A (pyIter (.ref it)) Q E s
noncomputable abbrev TI:=St->Hp->(It->Hp->Prop)->Prop
noncomputable def PIE(X:Cx)(pins:List (Addr×Obj))(σ:St)(tg:Expr)(R:It->Hp->Prop)(itv:Value)(s2:Shared):Prop:=
 ∃(it:Addr) (fp:List Addr) (tn:Nat->Heap->Prop) (J:It) (H':Hp),itv=.ref it/\Inv X pins σ H' s2/\Turn X.prog X.w X.K tg J fp it tn/\tn 0 s2.heap/\(∀b∈fp,QU X pins H' b)/\R J H'
noncomputable def PI(X:Cx)(tg iter:Expr)(wi:TI):Prop:=
 ∀(pins:List (Addr×Obj)) (s:Shared) (σ:St) (H:Hp) (R:It->Hp->Prop),Inv X pins σ H s->wi σ H R->
  wpAny (model X.prog X.w) X.A (eval iter X.env) (λv s1=>wpAny (model X.prog X.w) X.A (pyIter v) (PIE X pins σ tg R) X.xe s1) X.xe s
theorem SF{M:Model}{A:Around}{E:Value->Shared->Prop}{s:Shared}{tg:Expr}{it:Addr}{u:Value}{o:Obj}{n:String}{vs:Array Value}{Q:Unit->Shared->Prop}(ho:s.heap.get? it=some o)(hc:o.cls=.type n)(hd:o.data=.fields vs)
  (hn: ["enumerate","zip","dict_itemiterator","dict_reverseitemiterator","odict_iterator","itertools.zip_longest","itertools.pairwise"].contains n=false)(hQ:Q () s):wpAny M A (letOwnedTupleGo tg (.ref it) u) Q E s:=by
 unfold letOwnedTupleGo
 cases tg<;>first
  |exact pZ hQ
  |(cases u<;>first
    |exact pZ hQ
    |(refine bZ (wpAny_load ho ?_)
      rw[hc,hd]
      show wpAny M A (if(["enumerate","zip","dict_itemiterator","dict_reverseitemiterator","odict_iterator","itertools.zip_longest","itertools.pairwise"].contains n&&vs[0]? ==some (rawInt _))=true then _ else _) Q E s
      rw[if_neg (by intro h;rw[hn,Bool.false_and]at h;cases h)]
      exact pZ hQ))
noncomputable def Itl(K:FZ)(a:Addr):It:=
 ⟨λi H=>∃xs x,SqL K H a xs/\xs[i]? =some x,λi H x H'=>H'=H/\∀xs,SqL K H a xs->xs[i]? =some x,λi H=>∃xs,SqL K H a xs/\xs.length<=i⟩
noncomputable def Itt(K:FZ)(a:Addr):It:=
 ⟨λi H=>∃xs x,SqT K H a xs/\xs[i]? =some x,λi H x H'=>H'=H/\∀xs,SqT K H a xs->xs[i]? =some x,λi H=>∃xs,SqT K H a xs/\xs.length<=i⟩
noncomputable def Itr(lo:Int)(n:Nat):It:=⟨λi _=>i<n,λi H x H'=>H'=H/\x=.int (lo+i),λi _=>n<=i⟩
theorem IS{P:Program}{w:World}{K:FZ}{tg:Expr}(a it:Addr):Turn P w K tg (Itl K a) [it] it (λi h=>h.IsListIter it a i) where
 mem:=by simp
 obj:=λi h st b hb=>by
  have e:b=it:=by simpa using hb
  subst e
  obtain⟨o,e,c,d⟩:=st
  exact⟨o,e,λv z=>by rw[d]at z;cases z⟩
 keep:=λi h h' st k=>st.at λo e=>k it (by simp) o e
 item:=by
  intro X hP hw hK hc i pins s σ H E I hf st hg
  subst hP hw hK
  obtain⟨xs,x,hq,hx⟩:=hg
  obtain⟨its,rv,p,hz⟩:=I.list hq
  obtain⟨u,hu,ru⟩:=rv.get hx
  obtain⟨f0,f1,f2,f3,f4,f5⟩:=hf it (by simp)
  refine wpAny_pyNext_list_item st p.isList (x:=u) (by simpa using hu) λh' st' sb=> ?_
  have I1:Inv X pins σ H {s with heap:=h'}:=I.turned (t':=s.toks) (λb o hb e=>(sb.2 b hb).trans e) f0 f1 f3 f4 f5
  obtain⟨o,e,c,d⟩:=id st'
  exact⟨u,rfl,SF (s:={s with heap:=h'}) e c d (by decide) ⟨x,H,I1,ru,⟨rfl,λys hy=>by rw[I.list_inj hy hq];exact hx⟩,st',λb hb=>(hf b hb).1⟩⟩
 done:=by
  intro X hP hw hK hc i pins s σ H E I hf st hg
  subst hP hw hK
  obtain⟨xs,hq,hx⟩:=hg
  obtain⟨its,rv,p,hz⟩:=I.list hq
  obtain⟨f0,f1,f2,f3,f4,f5⟩:=hf it (by simp)
  have hl:=rv.length
  exact wpAny_pyNext_list_end (I.ok.hd hc) st p.isList (by simp;omega) λh' eb=>⟨rfl,I.turned (t':=s.toks) (λb o hb e=>eb b o hb e) f0 f1 f3 f4 f5⟩
 self:=λ_ _ _ _ _ st h=>wpAny_pyIter_listiter st h
theorem ES{P:Program}{w:World}{K:FZ}{tg:Expr}(a it:Addr):Turn P w K tg (Itt K a) [it] it (λi h=>h.IsTupleIter it a i) where
 mem:=by simp
 obj:=λi h st b hb=>by
  have e:b=it:=by simpa using hb
  subst e
  obtain⟨o,e,c,d⟩:=st
  exact⟨o,e,λv z=>by rw[d]at z;cases z⟩
 keep:=λi h h' st k=>st.at λo e=>k it (by simp) o e
 item:=by
  intro X hP hw hK hc i pins s σ H E I hf st hg
  subst hP hw hK
  obtain⟨xs,x,hq,hx⟩:=hg
  obtain⟨its,rv,p,hz⟩:=I.tuple hq
  obtain⟨u,hu,ru⟩:=rv.get hx
  obtain⟨f0,f1,f2,f3,f4,f5⟩:=hf it (by simp)
  refine wpAny_pyNext_tuple_item st (show s.heap.IsTuple a its.toArray from p) (x:=u) (by simpa using hu) λh' st' sb=> ?_
  have I1:Inv X pins σ H {s with heap:=h'}:=I.turned (t':=s.toks) (λb o hb e=>(sb.2 b hb).trans e) f0 f1 f3 f4 f5
  obtain⟨o,e,c,d⟩:=id st'
  exact⟨u,rfl,SF (s:={s with heap:=h'}) e c d (by decide) ⟨x,H,I1,ru,⟨rfl,λys hy=>by rw[I.tuple_inj hy hq];exact hx⟩,st',λb hb=>(hf b hb).1⟩⟩
 done:=by
  intro X hP hw hK hc i pins s σ H E I hf st hg
  subst hP hw hK
  obtain⟨xs,hq,hx⟩:=hg
  obtain⟨its,rv,p,hz⟩:=I.tuple hq
  obtain⟨f0,f1,f2,f3,f4,f5⟩:=hf it (by simp)
  have hl:=rv.length
  exact wpAny_pyNext_tuple_end (I.ok.hd hc) st (show s.heap.IsTuple a its.toArray from p) (by simp;omega) λh' eb=>⟨rfl,I.turned (t':=s.toks) (λb o hb e=>eb b o hb e) f0 f1 f3 f4 f5⟩
 self:=λ_ _ _ _ _ st h=>wpAny_pyIter_tupleiter st h
theorem QR{P:Program}{w:World}{K:FZ}{tg:Expr}(it:Addr)(lo:Int)(n:Nat):Turn P w K tg (Itr lo n) [it] it (λi h=>IsRangeIter h it (lo+(i:Nat)*1) ((n:Int) - (i:Nat)) 1) where
 mem:=by simp
 obj:=λi h st b hb=>by
  have e:b=it:=by simpa using hb
  subst e
  exact⟨_,st,λv z=>by
   have z':Data.fields _=Data.cell v:=z
   cases z'⟩
 keep:=λi h h' st k=>k it (by simp) _ st
 item:=by
  intro X hP hw hK hc i pins s σ H E I hf st hg
  subst hP hw hK
  obtain⟨f0,f1,f2,f3,f4,f5⟩:=hf it (by simp)
  have W:=Walks.range (prog:=X.prog) (w:=X.w) (I.ok.hd hc) it lo 1 n
  refine W.item i s _ _ hg st λv h' tk hv st' kk=> ?_
  obtain⟨t,rfl⟩:=hv
  have I1:Inv X pins σ H {s with heap:=h',toks:=tk}:=I.turned (λb o hb e=>kk b o (by simpa using hb) e) f0 f1 f3 f4 f5
  refine⟨_,rfl,SF (s:={s with heap:=h',toks:=tk}) (n:="range_iterator") st' rfl rfl (by decide) ⟨.int (lo+i),H,I1,⟨t, ?_⟩,⟨rfl,rfl⟩,st',λb hb=>(hf b hb).1⟩⟩
  rw[Int.mul_one]
 done:=by
  intro X hP hw hK hc i pins s σ H E I hf st hg
  subst hP hw hK
  obtain⟨f0,f1,f2,f3,f4,f5⟩:=hf it (by simp)
  exact wpAny_pyNext_range_end (I.ok.hd hc) st (by have:n<=i:=hg;omega) λh' eb=>⟨rfl,I.turned (t':=s.toks) (λb o hb e=>eb b o hb e) f0 f1 f3 f4 f5⟩
 self:=λ_ _ _ _ _ st h=>wpAny_pyIter_rangeiter st h
section
variable{X:Cx}{tg:Expr}
noncomputable def btZ(K:FZ)(tl:TE):TI:=fun σ H R=>tl σ H λx H1=>∃a,x=.ref a/\(∃xs,SqL K H1 a xs)/\R (Itl K a) H1
noncomputable def dZZ(K:FZ)(tl:TE):TI:=fun σ H R=>tl σ H λx H1=>∃a,x=.ref a/\(∃xs,SqT K H1 a xs)/\R (Itt K a) H1
theorem aWZ{l:Expr}{tl:TE}(hl:PE X l tl):PI X tg l (btZ X.K tl):=by
 intro pins s σ H R I h
 refine thn (hl pins s σ H _ I h) λv s1 ⟨x,H1,I1,r1,q1⟩=> ?_
 obtain⟨a,e,⟨xs,hq⟩,q⟩:=q1
 subst e
 cases r1
 obtain⟨its,rv,p,hz⟩:=I1.list hq
 refine wpAny_pyIter_list p.isList ?_
 refine⟨s1.heap.objs.size,[s1.heap.objs.size],_,_,H1,rfl,I1.kept (t':=s1.toks) λb o e=>gZ _ e,IS a _,⟨_,get?_push_size _ rfl,rfl,rfl⟩,λb hb=> ?_,q⟩
 have e:b=s1.heap.objs.size:=by simpa using hb
 subst e
 exact I1.fpOk (le_refl _) (I1.hok.fresh (le_refl _))
theorem cQZ{l:Expr}{tl:TE}(hl:PE X l tl):PI X tg l (dZZ X.K tl):=by
 intro pins s σ H R I h
 refine thn (hl pins s σ H _ I h) λv s1 ⟨x,H1,I1,r1,q1⟩=> ?_
 obtain⟨a,e,⟨xs,hq⟩,q⟩:=q1
 subst e
 cases r1
 obtain⟨its,rv,p,hz⟩:=I1.tuple hq
 refine wpAny_pyIter_tuple (show s1.heap.IsTuple a its.toArray from p) ?_
 refine⟨s1.heap.objs.size,[s1.heap.objs.size],_,_,H1,rfl,I1.kept (t':=s1.toks) λb o e=>gZ _ e,ES a _,⟨_,get?_push_size _ rfl,rfl,rfl⟩,λb hb=> ?_,q⟩
 have e:b=s1.heap.objs.size:=by simpa using hb
 subst e
 exact I1.fpOk (le_refl _) (I1.hok.fresh (le_refl _))
theorem YF{pins:List (Addr×Obj)}{σ:St}{H:Hp}{s:Shared}{R:It->Hp->Prop}{E:Value->Shared->Prop}{lo hi:Int}{t u v:Tok}{tk:Nat}(I:Inv X pins σ H s)(h1: -(2^62)<=lo)(h2:lo<2^62)(h3: -(2^62)<=hi)(h4:hi<2^62)
  (q:R (Itr lo (hi - lo).toNat) H):wpAny (model X.prog X.w) X.A (pyIter (.ref s.heap.objs.size)) (PIE X pins σ tg R) E {s with heap:=s.heap.push {cls:=.type "range",data:=.fields #[.int lo t,.int hi u,.int 1 v]},toks:=tk}:=by
 refine wpAny_pyIter_range (IsRange.new ..) (small_one h1 h2 h3 h4) ?_
 have I1:Inv X pins σ H {s with heap:=s.heap.push {cls:=.type "range",data:=.fields #[.int lo t,.int hi u,.int 1 v]},toks:=tk}:=I.kept λb o e=>gZ _ e
 refine⟨(s.heap.push {cls:=.type "range",data:=.fields #[.int lo t,.int hi u,.int 1 v]}).objs.size,[(s.heap.push {cls:=.type "range",data:=.fields #[.int lo t,.int hi u,.int 1 v]}).objs.size],_,_,H,rfl,
  I1.kept (t':=tk) λb o e=>gZ _ e,QR _ lo (hi - lo).toNat, ?_,λb hb=> ?_,q⟩
 ·have e1:lo+((0:Nat):Int)*1=lo:=by simp
  have e2:(((hi - lo).toNat:Nat):Int) - ((0:Nat):Int)=Builtin.Range.rangeSize lo hi 1:=by rw[rangeSize_one];split<;>omega
  show IsRangeIter _ _ (lo+((0:Nat):Int)*1) ((((hi - lo).toNat:Nat):Int) - ((0:Nat):Int)) 1
  rw[e1,e2]
  exact get?_push_size _ rfl
 ·have e:b=(s.heap.push {cls:=.type "range",data:=.fields #[.int lo t,.int hi u,.int 1 v]}).objs.size:=by simpa using hb
  subst e
  exact I1.fpOk (le_refl _) (I1.hok.fresh (le_refl _))
noncomputable def dQZ(ta:TA):TI:=fun σ H R=>ta σ H λvs H1=>∃j:Int,vs=[.int j]/\ -(2^62)<=j/\j<2^62/\R (Itr 0 j.toNat) H1
theorem M2{a:Expr}{ta:TA}{p pos:Pos}(hg:Gl X "range")(hm:X.mg "range"=none)(ha:PA X [a] ta)(hs:starEach [a] X.env=[(false,eval a X.env)]:=by rfl):PI X tg (.Call (.Name "range" p) [a] [] pos) (dQZ ta):=by
 intro pins s σ H R I h
 refine Call_ (AX I hg hm boot_range (callWith_type1 (thn (ha pos pins s σ H _ I h) λus s1 ⟨vs,H1,I1,r1,q1⟩=> ?_) hs rfl))
 obtain⟨j,e,q1,q2,q⟩:=q1
 subst e
 cases r1 with
 |cons r rr=>
  cases rr
  obtain⟨t,rfl⟩:=r
  exact call_range_1 (YF I1 (by omega) (by omega) q1 q2 (by simpa using q))
noncomputable def eGZ(wi:TI)(g:TG)(tb:TS):TS:=λD σ H=>wi σ H λJ H1=>∃W:Nat->Nat->St->Hp->Prop,(∃m,W 0 m σ H1)/\∀i m σ H,W i m σ H->
 (J.stop i H/\D.nx σ H)\/(J.go i H/\∃N:St->Hp->Prop,(∀σ' H',N σ' H'->∃m',m'<m/\W (i+1) m' σ' H')/\∀x H',J.yld i H x H'->g x σ H' fun σ2 H2=>tb {D with nx:=N,ct:=N,bk:=D.nx} σ2 H2)
noncomputable def CQ(fp:List Addr)(h:Heap):List (Addr×Obj):=fp.filterMap λb=>(h.get? b).map λo=>(b,o)
theorem W7{fp:List Addr}{h:Heap}{b:Addr}{o:Obj}(hb:b∈fp)(e:h.get? b=some o):(b,o)∈CQ fp h:=mem_filterMap.mpr ⟨b,hb,by rw[e];rfl⟩
theorem VQ{fp:List Addr}{h:Heap}{p:Addr×Obj}(hp:p∈CQ fp h):p.1∈fp/\h.get? p.1=some p.2:=by
 obtain⟨b,hb,e⟩:=mem_filterMap.mp hp
 cases q:h.get? b with
 |none=>rw[q]at e;cases e
 |some o=>
  rw[q]at e
  have e':(b,o)=p:=Option.some.inj e
  subst e'
  exact⟨hb,q⟩
theorem Inv.pinned{pins:List (Addr×Obj)}{σ:St}{H:Hp}{s:Shared}{fp:List Addr}(I:Inv X pins σ H s)(hf:∀b∈fp,QU X pins H b)(ho:∀b∈fp,∃o,s.heap.get? b=some o/\∀v,o.data≠ .cell v):Inv X (pins++CQ fp s.heap) σ H s:=
 I.pins_of λp hp=>(mem_append.mp hp).elim (λz=>I.pin p (mem_append_right _ z)) λz=>by
  obtain⟨hb,e⟩:=VQ z
  obtain⟨f0,f1,f2,_⟩:=hf p.1 hb
  obtain⟨o,e',d⟩:=ho p.1 hb
  rw[e]at e';cases e'
  exact⟨e,f0,f1,f2,d⟩
theorem Inv.unpinned{pins pl:List (Addr×Obj)}{σ:St}{H:Hp}{s:Shared}(I:Inv X (pins++pl) σ H s):Inv X pins σ H s:=I.pins_of λp hp=>I.pin p (mem_append_right _ (mem_append_left _ hp))
theorem T3{iter:Expr}{body:List Stmt}{wi:TI}{g:TG}{tb:TS}{pos:Pos}(hp:PassesOwn (model X.prog X.w) X.A X.env X.xe)(hc:X.calm=true)(hi:PI X tg iter wi)(hg:PG X tg g)(hb:PSs X body tb)
  (hs:∀x,foldedSetIterable iter X.env x=pure x:=by intro _;rfl):PS X (.For tg iter body [] pos) (eGZ wi g tb):=by
 intro pins s σ H D I h
 refine wpAny_For (thn (hi pins s σ H _ I h) λv s1 h1=>thn h1 λitv s2 h2=> ?_) hs
 obtain⟨it,fp,tn,J,H2,e,I2,T,st2,f2,W,⟨m0,w0⟩,turn⟩:=h2
 subst e
 have stat:∀ {H':Hp},(∀b∈fp,H' b=none)->∀b∈fp,QU X pins H' b:=λhn b hb=>⟨hn b hb,(f2 b hb).2⟩
 refine codeAny_forLoop_any (λn s'=>∃i σ' H',Inv X pins σ' H' s'/\tn i s'.heap/\(∀b∈fp,H' b=none)/\W i n σ' H') ?_ m0 ⟨0,σ,H2,I2,st2,λb hb=>(f2 b hb).1,w0⟩
 rintro n s3 ⟨i,σ3,H3,I3,st3,fr3,w3⟩
 rcases turn i n σ3 H3 w3 with⟨stop,qn⟩|⟨go,N,hN,step⟩
 ·refine wpAny_passesOwn hp (thn (T.done X rfl rfl rfl hc i pins s3 σ3 H3 X.xe I3 (stat fr3) st3 stop) λr s4 ⟨hr,I4⟩=> ?_)
  subst hr
  exact wpAny_execs_nil ⟨σ3,H3,I4,qn⟩
 ·refine wpAny_passesOwn hp (thn (T.item X rfl rfl rfl hc i pins s3 σ3 H3 X.xe I3 (stat fr3) st3 go) λr s4 ⟨u,hr,h4⟩=> ?_)
  subst hr
  refine wpAny_passesOwn hp (thn h4 λ_ s5 ⟨x,H5,I5,r5,y5,st5,fr5⟩=> ?_)
  have I5':=I5.pinned (stat fr5) (T.obj _ _ st5)
  refine wpAny_passesOwn hp (thn (hg _ s5 σ3 H5 x u _ I5' r5 (step x H5 y5)) λ_ s6 ⟨σ6,H6,I6,q6⟩=> ?_)
  refine wpAny_passesOwn hp (thn (hb _ s6 σ6 H6 _ I6 q6) λf s7 q7=> ?_)
  have again:∀ {σ7:St} {H7:Hp},Inv X (pins++CQ fp s5.heap) σ7 H7 s7->N σ7 H7->∃m,m<n/\∃i σ' H',Inv X pins σ' H' s7/\tn i s7.heap/\(∀b∈fp,H' b=none)/\W i m σ' H':=λ{σ7 H7} I7 n7=>by
   obtain⟨m',hm,w7⟩:=hN σ7 H7 n7
   refine⟨m',hm,i+1,σ7,H7,I7.unpinned,T.keep _ _ _ st5 λb hb o e=>(I7.pin (b,o) (mem_append_right _ (mem_append_right _ (W7 hb e)))).1,λb hb=> ?_,w7⟩
   obtain⟨o,e,d⟩:=T.obj _ _ st5 b hb
   exact(I7.pin (b,o) (mem_append_right _ (mem_append_right _ (W7 hb e)))).2.1
  cases f with
  |next=>obtain⟨σ7,H7,I7,n7⟩:=q7;exact again I7 n7
  |cont=>obtain⟨σ7,H7,I7,n7⟩:=q7;exact again I7 n7
  |brk=>obtain⟨σ7,H7,I7,q7⟩:=q7;exact⟨σ7,H7,I7.unpinned,q7⟩
  |ret v=>obtain⟨x7,σ7,H7,I7,r7,q7⟩:=q7;exact⟨x7,σ7,H7,I7.unpinned,r7,q7⟩
end
theorem Z5{K:FZ}{a:Addr}{xs:List V}{g:TG}{tb:TS}{D:Ends}{σ:St}{H:Hp}(Pv:Nat->St->Hp->Prop)(h0:Pv 0 σ H)(hl:∀i σ H,i<=xs.length->Pv i σ H->SqL K H a xs)
  (hs:∀i x σ H,xs[i]? =some x->Pv i σ H->g x σ H fun σ2 H2=>tb {D with nx:=Pv (i+1),ct:=Pv (i+1),bk:=D.nx} σ2 H2)(hd:∀σ H,Pv xs.length σ H->D.nx σ H):
  ∃W:Nat->Nat->St->Hp->Prop,(∃m,W 0 m σ H)/\∀i m σ H,W i m σ H->
   ((Itl K a).stop i H/\D.nx σ H)\/((Itl K a).go i H/\∃N:St->Hp->Prop,(∀σ' H',N σ' H'->∃m',m'<m/\W (i+1) m' σ' H')/\∀x H',(Itl K a).yld i H x H'->g x σ H' fun σ2 H2=>tb {D with nx:=N,ct:=N,bk:=D.nx} σ2 H2):=by
 refine⟨λi m σ H=>m=xs.length - i/\i<=xs.length/\Pv i σ H,⟨xs.length,by simp,zero_le _,h0⟩, ?_⟩
 rintro i m σ H ⟨rfl,hi,p⟩
 have q:=hl i σ H hi p
 by_cases hlt:i<xs.length
 ·refine .inr ⟨⟨xs,xs[i],q,by simp[hlt]⟩,Pv (i+1),fun σ' H' p'=>⟨xs.length - (i+1),by omega,rfl,hlt,p'⟩,λx H' y=> ?_⟩
  obtain⟨e,y⟩:=y
  subst e
  exact hs i x σ _ (y xs q) p
 ·have e:i=xs.length:=by omega
  subst e
  exact .inl ⟨⟨xs,q,le_refl _⟩,hd σ H p⟩
theorem aSZ{K:FZ}{a:Addr}{xs:List V}{g:TG}{tb:TS}{D:Ends}{σ:St}{H:Hp}(Pv:Nat->St->Hp->Prop)(h0:Pv 0 σ H)(hl:∀i σ H,i<=xs.length->Pv i σ H->SqT K H a xs)
  (hs:∀i x σ H,xs[i]? =some x->Pv i σ H->g x σ H fun σ2 H2=>tb {D with nx:=Pv (i+1),ct:=Pv (i+1),bk:=D.nx} σ2 H2)(hd:∀σ H,Pv xs.length σ H->D.nx σ H):
  ∃W:Nat->Nat->St->Hp->Prop,(∃m,W 0 m σ H)/\∀i m σ H,W i m σ H->
   ((Itt K a).stop i H/\D.nx σ H)\/((Itt K a).go i H/\∃N:St->Hp->Prop,(∀σ' H',N σ' H'->∃m',m'<m/\W (i+1) m' σ' H')/\∀x H',(Itt K a).yld i H x H'->g x σ H' fun σ2 H2=>tb {D with nx:=N,ct:=N,bk:=D.nx} σ2 H2):=by
 refine⟨λi m σ H=>m=xs.length - i/\i<=xs.length/\Pv i σ H,⟨xs.length,by simp,zero_le _,h0⟩, ?_⟩
 rintro i m σ H ⟨rfl,hi,p⟩
 have q:=hl i σ H hi p
 by_cases hlt:i<xs.length
 ·refine .inr ⟨⟨xs,xs[i],q,by simp[hlt]⟩,Pv (i+1),fun σ' H' p'=>⟨xs.length - (i+1),by omega,rfl,hlt,p'⟩,λx H' y=> ?_⟩
  obtain⟨e,y⟩:=y
  subst e
  exact hs i x σ _ (y xs q) p
 ·have e:i=xs.length:=by omega
  subst e
  exact .inl ⟨⟨xs,q,le_refl _⟩,hd σ H p⟩
theorem AD{lo:Int}{n:Nat}{g:TG}{tb:TS}{D:Ends}{σ:St}{H:Hp}(Pv:Nat->St->Hp->Prop)(h0:Pv 0 σ H)
  (hs:∀i σ H,i<n->Pv i σ H->g (.int (lo+i)) σ H fun σ2 H2=>tb {D with nx:=Pv (i+1),ct:=Pv (i+1),bk:=D.nx} σ2 H2)(hd:∀σ H,Pv n σ H->D.nx σ H):
  ∃W:Nat->Nat->St->Hp->Prop,(∃m,W 0 m σ H)/\∀i m σ H,W i m σ H->
   ((Itr lo n).stop i H/\D.nx σ H)\/((Itr lo n).go i H/\∃N:St->Hp->Prop,(∀σ' H',N σ' H'->∃m',m'<m/\W (i+1) m' σ' H')/\∀x H',(Itr lo n).yld i H x H'->g x σ H' fun σ2 H2=>tb {D with nx:=N,ct:=N,bk:=D.nx} σ2 H2):=by
 refine⟨λi m σ H=>m=n - i/\i<=n/\Pv i σ H,⟨n,by simp,zero_le _,h0⟩, ?_⟩
 rintro i m σ H ⟨rfl,hi,p⟩
 by_cases hlt:i<n
 ·refine .inr ⟨hlt,Pv (i+1),fun σ' H' p'=>⟨n - (i+1),by omega,rfl,hlt,p'⟩,λx H' y=> ?_⟩
  obtain⟨e,y⟩:=y
  subst e y
  exact hs i σ _ hlt p
 ·have e:i=n:=by omega
  subst e
  exact .inl ⟨le_refl _,hd σ H p⟩
noncomputable abbrev R2:=V->V->Hp->VK->Prop
noncomputable def OpR(X:Cx)(f:Value->Value->Sem Value)(r:R2):Prop:=
 ∀(pins:List (Addr×Obj)) (s:Shared) (σ:St) (H:Hp) (x y:V) (v u:Value) (Q:VK),Inv X pins σ H s->RelV x v->RelV y u->r x y H Q->
  wpAny (model X.prog X.w) X.A (f v u) (EP X pins σ Q) X.xe s
noncomputable def UnR(X:Cx)(f:Value->Sem Value)(r:V->Hp->VK->Prop):Prop:=
 ∀(pins:List (Addr×Obj)) (s:Shared) (σ:St) (H:Hp) (x:V) (v:Value) (Q:VK),Inv X pins σ H s->RelV x v->r x H Q->
  wpAny (model X.prog X.w) X.A (f v) (EP X pins σ Q) X.xe s
noncomputable def CallR(X:Cx)(f:Value)(r:List V->Hp->VK->Prop):Prop:=
 ∀(pins:List (Addr×Obj)) (s:Shared) (σ:St) (H:Hp) (xs:List V) (us:List Value) (Q:VK),Inv X pins σ H s->Vals xs us->r xs H Q->
  wpAny (model X.prog X.w) X.A (call f us) (EP X pins σ Q) X.xe s
noncomputable def ekZ(X:Cx)(r:V->Hp->(Bool->Hp->Prop)->Prop):Prop:=
 ∀(pins:List (Addr×Obj)) (s:Shared) (σ:St) (H:Hp) (x:V) (v:Value) (Q:Bool->Hp->Prop),Inv X pins σ H s->RelV x v->r x H Q->
  wpAny (model X.prog X.w) X.A (truthy v) (TP X pins σ Q) X.xe s
noncomputable def tOp(r:R2)(ta tb:TE):TE:=fun σ H Q=>ta σ H λx H1=>tb σ H1 λy H2=>r x y H2 Q
noncomputable def tUn(r:V->Hp->VK->Prop)(ta:TE):TE:=fun σ H Q=>ta σ H λx H1=>r x H1 Q
inductive rI (C:Int->Int->Prop) (g:Int->Int->V) (x:V) (y:V) (H:Hp) (Q:VK):Prop
 |mk:∀i j,(x=.int i)->(y=.int j)->(C i j)->(Q (g i j) H)->rI C g x y H Q
inductive rI0 (g:Int->Int->V) (x:V) (y:V) (H:Hp) (Q:VK):Prop
 |mk:∀i j,(x=.int i)->(y=.int j)->(Q (g i j) H)->rI0 g x y H Q
inductive rU (g:Int->V) (x:V) (H:Hp) (Q:VK):Prop
 |mk:∀i,(x=.int i)->(Q (g i) H)->rU g x H Q
section
variable{X:Cx}{a b c:Expr}{ta tb tc:TE}{pos:Pos}
theorem cfZ(ha:PE X a ta)(hb:PE X b tb){pins:List (Addr×Obj)}{s:Shared}{σ:St}{H:Hp}{R:V->V->Hp->Prop}(I:Inv X pins σ H s)
  (h:ta σ H λx H1=>tb σ H1 λy H2=>R x y H2){Q:Value->Shared->Prop}{f:Value->Value->Sem Value}
  (hf:∀v u s2 x y H2,Inv X pins σ H2 s2->RelV x v->RelV y u->R x y H2->wpAny (model X.prog X.w) X.A (f v u) Q X.xe s2):
  wpAny (model X.prog X.w) X.A (eval a X.env) (λv s₁=>wpAny (model X.prog X.w) X.A (eval b X.env) (λu s₂=>wpAny (model X.prog X.w) X.A (f v u) Q X.xe s₂) X.xe s₁) X.xe s:=by
 refine thn (ha pins s σ H _ I h) λv s1 ⟨x,H1,I1,r1,q1⟩=> ?_
 refine thn (hb pins s1 σ H1 _ I1 q1) λu s2 ⟨y,H2,I2,r2,q2⟩=> ?_
 exact hf v u s2 x y H2 I2 r1 r2 q2
theorem B7{op:Operator}{r:R2}(ho:OpR X (binaryOp op) r)(ha:PE X a ta)(hb:PE X b tb):PE X (.BinOp a op b pos) (tOp r ta tb):=by
 intro pins s σ H Q I h
 exact wpAny_BinOp (cfZ ha hb I h λv u s2 x y H2 I2 rx ry q=>ho pins s2 σ H2 x y v u Q I2 rx ry q)
theorem N3{op:UnaryOp}{r:V->Hp->VK->Prop}(ho:UnR X (unaryOp op) r)(ha:PE X a ta):PE X (.UnaryOp op a pos) (tUn r ta):=by
 intro pins s σ H Q I h
 exact UnaryOp_ (thn (ha pins s σ H _ I h) λv s1 ⟨x,H1,I1,r1,q1⟩=>ho pins s1 σ H1 x v Q I1 r1 q1)
theorem opI{f:Value->Value->Sem Value}{C:Int->Int->Prop}{g:Int->Int->Int}
  (rule:∀(i j:Int) (t u:Tok) (s:Shared) (Q:Value->Shared->Prop) (E:Value->Shared->Prop),C i j->Q (.int (g i j) s.toks) {s with toks:=s.toks+1}->wpAny (model X.prog X.w) X.A (f (.int i t) (.int j u)) Q E s):
  OpR X f (rI C λi j=> .int (g i j)):=by
 intro pins s σ H x y v u Q I rx ry h
 obtain⟨i,j,rfl,rfl,hc,q⟩:=h
 obtain⟨t,rfl⟩:=rx
 obtain⟨t',rfl⟩:=ry
 exact rule i j t t' s _ _ hc ⟨.int (g i j),H,I.tok _,⟨_,rfl⟩,q⟩
theorem dhZ{f:Value->Value->Sem Value}{g:Int->Int->Int}
  (rule:∀(i j:Int) (t u:Tok) (s:Shared) (Q:Value->Shared->Prop) (E:Value->Shared->Prop),Q (.int (g i j) s.toks) {s with toks:=s.toks+1}->wpAny (model X.prog X.w) X.A (f (.int i t) (.int j u)) Q E s):
  OpR X f (rI0 λi j=> .int (g i j)):=by
 intro pins s σ H x y v u Q I rx ry h
 obtain⟨i,j,rfl,rfl,q⟩:=h
 obtain⟨t,rfl⟩:=rx
 obtain⟨t',rfl⟩:=ry
 exact rule i j t t' s _ _ ⟨.int (g i j),H,I.tok _,⟨_,rfl⟩,q⟩
theorem b9Z{f:Value->Value->Sem Value}{g:Int->Int->Bool}
  (rule:∀(i j:Int) (t u:Tok) (s:Shared) (Q:Value->Shared->Prop) (E:Value->Shared->Prop),Q (.bool (g i j)) s->wpAny (model X.prog X.w) X.A (f (.int i t) (.int j u)) Q E s):
  OpR X f (rI0 λi j=> .bl (g i j)):=by
 intro pins s σ H x y v u Q I rx ry h
 obtain⟨i,j,rfl,rfl,q⟩:=h
 obtain⟨t,rfl⟩:=rx
 obtain⟨t',rfl⟩:=ry
 exact rule i j t t' s _ _ ⟨.bl (g i j),H,I,rfl,q⟩
noncomputable def eiZ(i j:Int):Prop:=0<=j/\j<=1000000/\i.natAbs<2^64
noncomputable def CMul(i j:Int):Prop:=(-(2^64)<i/\i<2^64)\/(-(2^64)<j/\j<2^64)
theorem CMul.ok{i j:Int}(h:CMul i j):IntMulOk i j:=by
 rcases h with⟨h1,h2⟩|⟨h1,h2⟩
 ·exact .of_left (intBits_le_64 h1 h2)
 ·exact .of_right (intBits_le_64 h1 h2)
theorem op_add:OpR X (binaryOp .Add) (rI0 λi j=> .int (i+j)):=dhZ λ_ _ _ _ _ _ _ q=>add_int q
theorem P1:OpR X (binaryOp .Sub) (rI0 λi j=> .int (i - j)):=dhZ λ_ _ _ _ _ _ _ q=>sub_int q
theorem op_mul:OpR X (binaryOp .Mult) (rI CMul λi j=> .int (i*j)):=opI λ_ _ _ _ _ _ _ hc q=>mul_int q hc.ok
theorem E4:OpR X (binaryOp .Mod) (rI (λ_ j=>0<j) λi j=> .int (i%j)):=opI λi j _ _ _ _ _ hc q=>by
 have h1:(0:Int)<j:=hc
 exact mod_int' (by omega) (by rw[Int.fmod_eq_emod_of_nonneg i (by omega)];exact q)
theorem XZ:OpR X (binaryOp .Pow) (rI eiZ λi j=> .int (i^j.toNat)):=opI λ_ _ _ _ _ _ _ hc q=>pow_int_small hc.1 hc.2.1 hc.2.2 q
theorem unI{f:Value->Sem Value}{g:Int->Int}
  (rule:∀(i:Int) (t:Tok) (s:Shared) (Q:Value->Shared->Prop) (E:Value->Shared->Prop),Q (.int (g i) s.toks) {s with toks:=s.toks+1}->wpAny (model X.prog X.w) X.A (f (.int i t)) Q E s):
  UnR X f (rU λi=> .int (g i)):=by
 intro pins s σ H x v Q I rx h
 obtain⟨i,rfl,q⟩:=h
 obtain⟨t,rfl⟩:=rx
 exact rule i t s _ _ ⟨.int (g i),H,I.tok _,⟨_,rfl⟩,q⟩
theorem K6:UnR X (unaryOp .USub) (rU λi=> .int (-i)):=unI λ_ _ _ _ _ q=>neg_int q
end
noncomputable def ceZ:V->V->Bool
 | .non,.non=>true| .non,.int _=>true| .int _,.non=>true| .non,.bl _=>true| .bl _,.non=>true| .non,.str _=>true| .str _,.non=>true
 | .int _,.int _=>true| .bl _,.bl _=>true| .str _,.str _=>true| .byt _,.byt _=>true
 | .int _,.str _=>true| .str _,.int _=>true| .bl _,.str _=>true| .str _,.bl _=>true
 |_,_=>false
inductive rEq (x:V) (y:V) (H:Hp) (Q:VK):Prop
 |mk:(ceZ x y=true)->(Q (.bl (decide (x=y))) H)->rEq x y H Q
inductive rNe (x:V) (y:V) (H:Hp) (Q:VK):Prop
 |mk:(ceZ x y=true)->(Q (.bl (!decide (x=y))) H)->rNe x y H Q
theorem SC{i j:Int}:decide (V.int i=V.int j)=(i==j):=by
 rw[Bool.eq_iff_iff]
 simp
theorem ZF{i j:Bool}:decide (V.bl i=V.bl j)=(i==j):=by
 rw[Bool.eq_iff_iff]
 simp
theorem SK{i j:Str}:decide (V.str i=V.str j)=(i==j):=by
 rw[Bool.eq_iff_iff]
 simp
theorem SR{i j:Array UInt8}:decide (V.byt i=V.byt j)=(i.toList==j.toList):=by
 rw[Bool.eq_iff_iff]
 cases i
 cases j
 simp
section
variable{X:Cx}{a b c:Expr}{ta tb tc:TE}{pos:Pos}
theorem E9{pins:List (Addr×Obj)}{σ:St}{H:Hp}{s:Shared}{Q:VK}{k k':Bool}(I:Inv X pins σ H s)(q:Q (.bl k) H)(e:k=k'):EP X pins σ Q (.bool k') s:=by
 subst e
 exact⟨.bl k,H,I,rfl,q⟩
theorem op_eq:OpR X (compareOp .Eq) rEq:=by
 intro pins s σ H x y v u Q I rx ry h
 obtain⟨hs,q⟩:=h
 cases x with
 |non=>
  cases rx
  cases y with
  |non=>cases ry;exact PySem.EqNone.eq_none_none (E9 I q (by simp))
  |bl j=>cases ry;exact PySem.EqNone.eq_none_bool (E9 I q (by simp))
  |int j=>obtain⟨t',rfl⟩:=ry;exact PySem.EqNone.eq_none_int (E9 I q (by simp))
  |str j=>obtain⟨t',rfl⟩:=ry;exact PySem.EqNone.eq_none_str (E9 I q (by simp))
  |_=>exact absurd (show false=true from hs) nZ
 |bl i=>
  cases rx
  cases y with
  |non=>cases ry;exact PySem.EqNone.eq_bool_none (E9 I q (by simp))
  |bl j=>cases ry;exact eq_bool (E9 I q ZF)
  |str j=>obtain⟨t',rfl⟩:=ry;exact PySem.EqMixed.eq_bool_str (E9 I q (by simp))
  |_=>exact absurd (show false=true from hs) nZ
 |int i=>
  obtain⟨t,rfl⟩:=rx
  cases y with
  |non=>cases ry;exact PySem.EqNone.eq_int_none (E9 I q (by simp))
  |int j=>obtain⟨t',rfl⟩:=ry;exact eq_int (E9 I q SC)
  |str j=>obtain⟨t',rfl⟩:=ry;exact PySem.EqMixed.eq_int_str (E9 I q (by simp))
  |_=>exact absurd (show false=true from hs) nZ
 |str i=>
  obtain⟨t,rfl⟩:=rx
  cases y with
  |non=>cases ry;exact PySem.EqNone.eq_str_none (E9 I q (by simp))
  |bl j=>cases ry;exact PySem.EqMixed.eq_str_bool (E9 I q (by simp))
  |int j=>obtain⟨t',rfl⟩:=ry;exact PySem.EqMixed.eq_str_int (E9 I q (by simp))
  |str j=>obtain⟨t',rfl⟩:=ry;exact eq_str (E9 I q SK)
  |_=>exact absurd (show false=true from hs) nZ
 |byt i=>
  obtain⟨t,rfl⟩:=rx
  cases y with
  |byt j=>obtain⟨t',rfl⟩:=ry;exact PySem.W.eq_bytes (E9 I q SR)
  |_=>exact absurd (show false=true from hs) nZ
 |_=>cases y<;>exact absurd (show false=true from hs) nZ
theorem op_ne:OpR X (compareOp .NotEq) rNe:=by
 intro pins s σ H x y v u Q I rx ry h
 obtain⟨hs,q⟩:=h
 cases x with
 |non=>
  cases rx
  cases y with
  |non=>cases ry;exact PySem.EqNone.ne_none_none (E9 I q (by simp))
  |bl j=>cases ry;exact PySem.EqNone.ne_none_bool (E9 I q (by simp))
  |int j=>obtain⟨t',rfl⟩:=ry;exact PySem.EqNone.ne_none_int (E9 I q (by simp))
  |str j=>obtain⟨t',rfl⟩:=ry;exact PySem.EqNone.ne_none_str (E9 I q (by simp))
  |_=>exact absurd (show false=true from hs) nZ
 |bl i=>
  cases rx
  cases y with
  |non=>cases ry;exact PySem.EqNone.ne_bool_none (E9 I q (by simp))
  |bl j=>cases ry;exact ne_bool (E9 I q (congrArg not ZF))
  |str j=>obtain⟨t',rfl⟩:=ry;exact PySem.EqMixed.ne_bool_str (E9 I q (by simp))
  |_=>exact absurd (show false=true from hs) nZ
 |int i=>
  obtain⟨t,rfl⟩:=rx
  cases y with
  |non=>cases ry;exact PySem.EqNone.ne_int_none (E9 I q (by simp))
  |int j=>obtain⟨t',rfl⟩:=ry;exact ne_int (E9 I q (congrArg not SC))
  |str j=>obtain⟨t',rfl⟩:=ry;exact PySem.EqMixed.ne_int_str (E9 I q (by simp))
  |_=>exact absurd (show false=true from hs) nZ
 |str i=>
  obtain⟨t,rfl⟩:=rx
  cases y with
  |non=>cases ry;exact PySem.EqNone.ne_str_none (E9 I q (by simp))
  |bl j=>cases ry;exact PySem.EqMixed.ne_str_bool (E9 I q (by simp))
  |int j=>obtain⟨t',rfl⟩:=ry;exact PySem.EqMixed.ne_str_int (E9 I q (by simp))
  |str j=>obtain⟨t',rfl⟩:=ry;exact ne_str (E9 I q (congrArg not SK))
  |_=>exact absurd (show false=true from hs) nZ
 |byt i=>
  obtain⟨t,rfl⟩:=rx
  cases y with
  |byt j=>obtain⟨t',rfl⟩:=ry;exact PySem.W.ne_bytes (E9 I q (congrArg not SR))
  |_=>exact absurd (show false=true from hs) nZ
 |_=>cases y<;>exact absurd (show false=true from hs) nZ
theorem WQ:OpR X (compareOp .Lt) (rI0 λi j=> .bl (decide (i<j))):=b9Z λ_ _ _ _ _ _ _ q=>lt_int q
theorem bnZ:OpR X (compareOp .Gt) (rI0 λi j=> .bl (decide (j<i))):=b9Z λ_ _ _ _ _ _ _ q=>gt_int q
theorem buZ:OpR X (compareOp .GtE) (rI0 λi j=> .bl (decide (j<=i))):=b9Z λ_ _ _ _ _ _ _ q=>ge_int q
theorem op_in_str:OpR X (compareOp .In) (λx y H Q=>∃i j,x=.str i/\y=.str j/\Q (.bl (!(Builtin.Str.occurrences j i 0 j.length 1).isEmpty)) H):=by
 intro pins s σ H x y v u Q I rx ry h
 obtain⟨i,j,rfl,rfl,q⟩:=h
 obtain⟨t,rfl⟩:=rx
 obtain⟨t',rfl⟩:=ry
 exact in_str (E9 I q rfl)
theorem FJ:OpR X (compareOp .Is) (λx y H Q=>y=.non/\Q (.bl (decide (x=.non))) H):=by
 intro pins s σ H x y v u Q I rx ry h
 obtain⟨rfl,q⟩:=h
 cases ry
 refine is_none_gen (E9 I q ?_)
 cases x<;>first
  |(cases rx;rfl)
  |(obtain⟨t,rfl⟩:=rx;rfl)
theorem SU:OpR X (compareOp .IsNot) (λx y H Q=>y=.non/\Q (.bl (!decide (x=.non))) H):=by
 intro pins s σ H x y v u Q I rx ry h
 obtain⟨rfl,q⟩:=h
 cases ry
 refine isnot_none_gen (E9 I q ?_)
 cases x<;>first
  |(cases rx;rfl)
  |(obtain⟨t,rfl⟩:=rx;rfl)
theorem OpR.or{f:Value->Value->Sem Value}{r r':R2}(h:OpR X f r)(h':OpR X f r'):OpR X f (λx y H Q=>r x y H Q\/r' x y H Q):=by
 intro pins s σ H x y v u Q I rx ry q
 rcases q with q|q
 ·exact h pins s σ H x y v u Q I rx ry q
 ·exact h' pins s σ H x y v u Q I rx ry q
theorem Q7{op:CmpOp}{r:R2}(ho:OpR X (compareOp op) r)(ha:PE X a ta)(hb:PE X b tb)(hm:behindInMarks op b=false):PE X (.Compare a [op] [b] pos) (tOp r ta tb):=by
 intro pins s σ H Q I h
 exact wpAny_Compare1 (cfZ ha hb I h λv u s2 x y H2 I2 rx ry q=>ho pins s2 σ H2 x y v u Q I2 rx ry q) hm
inductive tTestW (Q:Bool->Hp->Prop) (x:V) (H':Hp):Prop
 |mk:∀k,(x=.bl k)->(Q k H')->tTestW Q x H'
noncomputable def dSZ(t:TE):TT:=fun σ H Q=>t σ H λx H'=>tTestW Q x H'
theorem B9{op:CmpOp}{r:R2}(ho:OpR X (compareOp op) r)(ha:PE X a ta)(hb:PE X b tb)(hm:behindInMarks op b=false):PT X (.Compare a [op] [b] pos) (dSZ (tOp r ta tb)):=by
 intro pins s σ H Q I h
 refine wpAny_isTrue_Compare1 (thn (ha pins s σ H _ I h) λv s1 ⟨x,H1,I1,r1,q1⟩=>thn (hb pins s1 σ H1 _ I1 q1) λu s2 ⟨y,H2,I2,r2,q2⟩=>
  thn (ho pins s2 σ H2 x y v u _ I2 r1 r2 q2) λc s3 ⟨z,H3,I3,r3,k,e,q3⟩=> ?_) hm
 subst e
 cases r3
 exact wpAny_truthy_bool ⟨H3,I3,q3⟩
noncomputable def cMZ(K:FZ)(x:V)(H:Hp)(k:Bool):Prop:=
 match x with
 | .non=>k=false
 | .bl b=>k=b
 | .int i=>k=(i !=0)
 | .str y=>y.length<=sizeLine/\k=((y.length:Int) !=0)
 | .byt y=>y.size<=sizeLine/\k=((y.size:Int) !=0)
 | .ref p=>(∃xs,SqL K H p xs/\k= !xs.isEmpty)\/(∃xs,SqT K H p xs/\k= !xs.isEmpty)\/∃kvs,H p=some (.dK kvs)/\k= !kvs.isEmpty
 |_=>False
theorem QO{κ:Type}{kvs:List (κ×V)}{vs:List (κ×Value)}(r:KV kvs vs):(!vs.isEmpty)= !kvs.isEmpty:=by
 cases r<;>rfl
theorem FD{xs:List V}{its:List Value}(r:Vals xs its):(!its.toArray.isEmpty)= !xs.isEmpty:=by
 cases r<;>simp
theorem DC:(sizeLine:Nat)<2^63:=by rw[sizeLine_eq];decide
theorem cSZ:ekZ X (λx H Q=>∃k,cMZ X.K x H k/\Q k H):=by
 intro pins s σ H x v Q I rx h
 obtain⟨k,e,q⟩:=h
 have hl:=DC
 have hs:sizeLine=16777216:=sizeLine_eq
 cases x with
 |non=>
  cases rx
  have e':k=false:=e
  subst e'
  exact truthy_none ⟨H,I,q⟩
 |bl b=>
  cases rx
  have e':k=b:=e
  subst e'
  exact wpAny_truthy_bool ⟨H,I,q⟩
 |int i=>
  obtain⟨t,rfl⟩:=rx
  have e':k=(i !=0):=e
  subst e'
  exact PySem.P.truthy_int ⟨H,I,q⟩
 |str y=>
  obtain⟨t,rfl⟩:=rx
  obtain⟨hy,e'⟩:y.length<=sizeLine/\k=((y.length:Int) !=0):=e
  subst e'
  exact PySem.P.truthy_str (by omega) ⟨H,I.tok _,q⟩
 |byt y=>
  obtain⟨t,rfl⟩:=rx
  obtain⟨hy,e'⟩:y.size<=sizeLine/\k=((y.size:Int) !=0):=e
  subst e'
  exact PySem.W.truthy_bytes (by omega) ⟨H,I.tok _,q⟩
 |ref p=>
  cases rx
  have e':(∃xs,SqL X.K H p xs/\k= !xs.isEmpty)\/(∃xs,SqT X.K H p xs/\k= !xs.isEmpty)\/∃kvs,H p=some (.dK kvs)/\k= !kvs.isEmpty:=e
  rcases e' with⟨xs,hx,e'⟩|⟨xs,hx,e'⟩|⟨kvs,hx,e'⟩
  ·subst e'
   obtain⟨its,r,pl,hz⟩:=I.list hx
   have hlen:=r.length
   exact wpAny_truthy_list pl.isList (by simp only[size_toArray];omega) ⟨H,I.tok _,by rw[FD r];exact q⟩
  ·subst e'
   obtain⟨its,r,pl,hz⟩:=I.tuple hx
   have hlen:=r.length
   exact truthy_tuple pl (by simp only[size_toArray];omega) ⟨H,I.tok _,by rw[FD r];exact q⟩
  ·subst e'
   obtain⟨hz,hS,vs,r,m⟩:kvs.length<=sizeLine/\(p==sysModules)=false/\∃vs,KV kvs vs/\s.heap.DictOf (J2 X.prog X.w) p vs:=I.hok p _ hx
   have hlen:kvs.length=vs.length:=Paired.length r
   exact wpAny_truthy_dict hS m (by omega) ⟨H,I.tok _,by rw[QO r];exact q⟩
 |_=>exact(show False from e).elim
theorem YG(ha:PE X a ta)(he:∀whole,isTrue a X.env whole=(do let v<-whole;standAt a.pos;holding [v] (truthy v))):
  PT X a (fun σ H Q=>ta σ H λx H'=>∃k,cMZ X.K x H' k/\Q k H'):=by
 intro pins s σ H Q I h
 exact isTrue_plain (thn (ha pins s σ H _ I h) λv s1 ⟨x,H1,I1,r1,q1⟩=>cSZ pins s1 σ H1 x v Q I1 r1 q1) (he _)
theorem op_add_str:OpR X (binaryOp .Add) (λx y H Q=>∃i j,x=.str i/\y=.str j/\i.length+j.length<=sizeLine/\Q (.str (i++j)) H):=by
 intro pins s σ H x y v u Q I rx ry h
 obtain⟨i,j,rfl,rfl,hz,q⟩:=h
 obtain⟨t,rfl⟩:=rx
 obtain⟨t',rfl⟩:=ry
 exact add_str (λt' tk=>⟨.str (i++j),H,I.tok _,⟨_,rfl⟩,q⟩) hz
theorem AK{x:V}{us:List Value}(r:Vals [x] us):∃u,us=[u]/\RelV x u:=by
 cases r with
 |cons r1 r2=>cases r2;exact⟨_,rfl,r1⟩
theorem SQ{x y:V}{us:List Value}(r:Vals [x,y] us):∃u w',us=[u,w']/\RelV x u/\RelV y w':=by
 cases r with
 |cons r1 r2=>
  cases r2 with
  |cons r3 r4=>cases r4;exact⟨_,_,rfl,r1,r3⟩
theorem ZK:CallR X (.builtin "abs") (λxs H Q=>∃i,xs=[.int i]/\Q (.int (if i<0 then -i else i)) H):=by
 intro pins s σ H xs us Q I r h
 obtain⟨i,rfl,q⟩:=h
 obtain⟨u,rfl,t,rfl⟩:=AK r
 exact call_abs_int λu tk=>⟨.int (if i<0 then -i else i),H,I.tok _,⟨_,rfl⟩,q⟩
theorem VC(hc:X.calm=true):CallR X (.builtin "max") (λxs H Q=>∃i j,xs=[.int i,.int j]/\Q (.int (if j>i then j else i)) H):=by
 intro pins s σ H xs us Q I r h
 obtain⟨i,j,rfl,q⟩:=h
 obtain⟨u,w',rfl,⟨t,rfl⟩,⟨t',rfl⟩⟩:=SQ r
 refine max_two_ints (I.ok.hd hc) λh' tk k=>⟨_,H,I.kept k, ?_,q⟩
 by_cases hj:j>i
 ·rw[if_pos hj,if_pos hj];exact⟨_,rfl⟩
 ·rw[if_neg hj,if_neg hj];exact⟨_,rfl⟩
noncomputable def cYZ(K:FZ)(x:V)(H:Hp)(n:Nat):Prop:=
 match x with
 | .str y=>y.length<=sizeLine/\n=y.length
 | .byt y=>y.size<=sizeLine/\n=y.size
 | .ref p=>(∃xs,SqL K H p xs/\n=xs.length)\/∃xs,SqT K H p xs/\n=xs.length
 |_=>False
inductive rLen (K:FZ) (xs:List V) (H:Hp) (Q:VK):Prop
 |mk:∀x n,(xs=[x])->(cYZ K x H n)->(Q (.int n) H)->rLen K xs H Q
theorem ZR:CallR X (.builtin "len") (rLen X.K):=by
 intro pins s σ H xs us Q I r h
 obtain⟨x,n,rfl,e,q⟩:=h
 obtain⟨u,rfl,rx⟩:=AK r
 have hl:=DC
 have hs:sizeLine=16777216:=sizeLine_eq
 cases x with
 |str y=>
  obtain⟨t,rfl⟩:=rx
  obtain⟨hy,e'⟩:y.length<=sizeLine/\n=y.length:=e
  subst e'
  exact len_str (by omega) ⟨.int _,H,I.tok _,⟨_,rfl⟩,q⟩
 |byt y=>
  obtain⟨t,rfl⟩:=rx
  obtain⟨hy,e'⟩:y.size<=sizeLine/\n=y.size:=e
  subst e'
  exact PySem.W.len_bytes (by omega) ⟨.int _,H,I.tok _,⟨_,rfl⟩,q⟩
 |ref p=>
  cases rx
  have e':(∃xs,SqL X.K H p xs/\n=xs.length)\/∃xs,SqT X.K H p xs/\n=xs.length:=e
  rcases e' with⟨xs,hx,e'⟩|⟨xs,hx,e'⟩
  ·subst e'
   obtain⟨its,r',pl,hz⟩:=I.list hx
   have hlen:=r'.length
   exact Calls.call_len_list pl.isList (by simp only[size_toArray];omega) ⟨.int xs.length,H,I.tok _,⟨_,by simp only[size_toArray];rw[hlen]⟩,q⟩
  ·subst e'
   obtain⟨its,r',pl,hz⟩:=I.tuple hx
   have hlen:=r'.length
   exact len_tuple pl (by simp only[size_toArray];omega) ⟨.int xs.length,H,I.tok _,⟨_,by simp only[size_toArray];rw[hlen]⟩,q⟩
 |_=>exact(show False from e).elim
end
structure ObjM (h:Heap) (x dx C:Addr) (mA:Str->Option Value):Prop where
 obj:h.get? x=some (instObj C dx)
 ns:h.Ns1 dx mA
 ne:dx≠x
theorem WC{h:Heap}{dx:Addr}{mA:Str->Option Value}(n:h.Ns1 dx mA):∃od,h.get? dx=some od/\∀name,lookIn name od=some (mA name):=by
 obtain⟨o,es,ep,ho,hd,hk,_,hm⟩:=n
 refine⟨o,ho,λname=> ?_⟩
 have e:=hm name
 unfold nsFind findBy at e
 rw[<-Array.find?_toList]at e
 unfold lookIn
 rw[hd]
 dsimp only
 split
 ·rename_i y q
  rw[q]at e
  exact congrArg some e
 ·rename_i q
  rw[q]at e
  have a:es.toList.any (·.refKey)=false:=by
   rw[List.any_eq_false]
   intro y hy
   obtain⟨z,t,hkey⟩:=hk y (Array.mem_toList_iff.mp hy)
   simp[DictEntry.refKey,hkey]
  have a':¬es.toList.any (·.refKey)=true:=by rw[a];exact nZ
  rw[if_neg a']
  exact congrArg some e
theorem ObjM.look{h:Heap}{x dx C:Addr}{mA:Str->Option Value}(I:ObjM h x dx C mA):∃od,PySem.W.InstAt h x (instObj C dx) C (some od)/\∀name,lookIn name od=some (mA name):=
 let⟨od,ho,hl⟩:=WC I.ns
 ⟨od,⟨I.obj,rfl,rfl,ho⟩,hl⟩
section
variable{prog:Program}{w:World}{A:Around}{E:Value->Shared->Prop}{s:Shared}{K:FZ}{x dx C f:Addr}{mA:Str->Option Value}{name:Str}{v:Value}
theorem a4Z{expr:Bool}{Q:Value->Shared->Prop}(X:K.In s.heap)(I:ObjM s.heap x dx C mA)(hg:plainGet K C name=true)(hh:PySem.W.hasDictIn K C=true)
  (ha:findIn K (.ref C) name=some none)(hv:mA name=some v)(hv':PySem.W.handedIn v=true)(h:Q v {s with toks:=s.toks+1}):
  wpAny (model prog w) A (getAttr (.ref x) name expr) Q E s:=by
 obtain⟨od,J,hl⟩:=I.look
 exact PySem.W.get_value X J (PySem.W.plainGet_of hg).1 (PySem.W.findObj_own hh ha rfl (by rw[hl,hv])) hv' h
theorem YB{pl:Sem Bool}{Q:Value×List Value->Shared->Prop}(X:K.In s.heap)(I:ObjM s.heap x dx C mA)(hg:plainGet K C name=true)
  (hf:findIn K (.ref C) name=some (some (.ref f)))(ht:isFn K (.ref f)=true)(hv:mA name=none)(h:Q (.ref f,[.ref x]) s):
  wpAny (model prog w) A (getMethod (.ref x) name pl) Q E s:=by
 obtain⟨od,J,hl⟩:=I.look
 exact PySem.W.method_fn X J (PySem.W.plainGet_of hg).1 (PySem.W.plainGet_of hg).2 hf (beq_iff_eq.mp ht) (by show(lookIn name od).map (·.isSome)=some false;rw[hl,hv];rfl) h
theorem aLZ{ns:List Str}{Q:Unit->Shared->Prop}(X:K.In s.heap)(I:ObjM s.heap x dx C mA)
  (hs:findIn K (.ref C) "__setattr__"=some (some (.builtin "object.__setattr__")))(hp:PySem.W.plainOver K C=true)(ht:PySem.W.takerIn K C name=some none)(hh:PySem.W.hasDictIn K C=true)
  (hw:PySem.Within mA ns)(hsz:ns.length<=sizeLine)
  (h:∀h',ObjM h' x dx C (λy=>if y=name then some v else mA y)->Heap.SameBut dx s.heap h'->Q () {s with heap:=h',toks:=s.toks+2}):
  wpAny (model prog w) A (setAttr (.ref x) name v) Q E s:=by
 obtain⟨od,J,hl⟩:=I.look
 refine PySem.W.set_plain X J hs (PySem.W.osa_open (s:={s with toks:=s.toks+1}) (r:=none) X J hp ht λb=> ?_)
 obtain⟨cd,hc,hd'⟩:=PySem.W.any_some hh
 have hx:s.heap.get? x=some ⟨.ref C,some dx,.plain, #[]⟩:=I.obj
 refine bZ (pZ (bZ (bZ (wpAny_loadPart hx (bZ (PySem.W.Looks.here (s:={s with toks:=s.toks+1}) (PySem.W.looks_clsIn X hc) ?_))))))
 rw[hd']
 refine pZ (a:=some dx) (bZ (pZ (bZ ?_)))
 refine wpAny_nsSet1 (s:={s with toks:=s.toks+1}) I.ns λh' hn2 hs2=> ?_
 obtain⟨oD,esD,epD,hoD,hdD,hcD⟩:=hn2.count (PySem.Within.cons name v hw)
 refine bZ (wpAny_lookBehind hoD (by rw[hdD];exact pastItsLine_dict (le_trans hcD (by rw[length_cons];omega))) ?_)
 exact pZ (h _ ⟨(hs2.2 _ (Ne.symm I.ne)).trans I.obj,hn2,I.ne⟩ hs2)
theorem ZA{R:Result->Shared->Prop}{vs:List Value}{kw:List (Str×Value)}(X:K.In s.heap)(hm:PySem.W.makesIn K C=true)
  (hi:findIn K (.ref C) "__init__"=some (some (.ref f)))(hf:PySem.W.typeIn K (.ref f)=some (.type "function"))
  (h:codeAny (model prog w) (A.under (.builtin "type.__call__" ⟨.ref C::vs,kw⟩)) (.call (.ref f) ⟨.ref (s.heap.objs.size+1)::vs,kw⟩) (PySem.W.InitBack (s.heap.objs.size+1) R)
   {s with heap:=(s.heap.push emptyDict).push (instObj C s.heap.objs.size)}):
  codeAny (model prog w) A (.call (.ref C) ⟨vs,kw⟩) R s:=by
 obtain⟨hh,g,d,t,os⟩:=s
 exact PySem.W.make_core (PySem.W.makes_of X hm) (PySem.W.looks_findIn X hi) (λself=>PySem.W.bind_fn X self hf) (.inl rfl) h
end
noncomputable def T4(f:Str)(v:V):List (Str×V)->List (Str×V)
 | []=> [(f,v)]
 |(g,x)::r=>if g=f then(g,v)::r else(g,x)::T4 f v r
theorem DJ(f g:Str)(v:V):∀fs:List (Str×V),(T4 f v fs).lookup g=if g=f then some v else fs.lookup g
 | []=>by
  show List.lookup g [(f,v)]=_
  by_cases h:g=f
  ·have hb:(g==f)=true:=beq_iff_eq.mpr h
   simp only[List.lookup,hb,if_pos h]
  ·have hb:(g==f)=false:=beq_eq_false_iff_ne.mpr h
   simp only[List.lookup,hb,if_neg h]
 |(k,x)::r=>by
  have ih:=DJ f g v r
  rw[show T4 f v ((k,x)::r)=(if k=f then(k,v)::r else(k,x)::T4 f v r)from rfl]
  by_cases hk:k=f
  ·rw[if_pos hk]
   by_cases h:g=k
   ·have hb:(g==k)=true:=beq_iff_eq.mpr h
    simp only[List.lookup,hb,if_pos (h.trans hk)]
   ·have hb:(g==k)=false:=beq_eq_false_iff_ne.mpr h
    simp only[List.lookup,hb,if_neg (λe:g=f=>h (e.trans hk.symm))]
  ·rw[if_neg hk]
   by_cases h:g=k
   ·have hb:(g==k)=true:=beq_iff_eq.mpr h
    simp only[List.lookup,hb,if_neg (λe:g=f=>hk (h.symm.trans e))]
   ·have hb:(g==k)=false:=beq_eq_false_iff_ne.mpr h
    simp only[List.lookup,hb]
    exact ih
theorem CP(f:Str)(v:V):∀fs:List (Str×V),f∈(T4 f v fs).map (·.1)/\∀g,g∈fs.map (·.1)->g∈(T4 f v fs).map (·.1)
 | []=>⟨by simp[T4],λg h=>by simp at h⟩
 |(k,x)::r=>by
  obtain⟨i1,i2⟩:=CP f v r
  rw[show T4 f v ((k,x)::r)=(if k=f then(k,v)::r else(k,x)::T4 f v r)from rfl]
  by_cases hk:k=f
  ·rw[if_pos hk]
   subst hk
   exact⟨by simp,λg h=>by simpa using h⟩
  ·rw[if_neg hk]
   refine⟨?_,λg h=> ?_⟩
   ·rw[map_cons]
    exact mem_cons_of_mem _ i1
   ·rw[map_cons]at h⊢
    rcases cZ h with e|e
    ·exact mem_cons.mpr (.inl e)
    ·exact mem_cons_of_mem _ (i2 g e)
theorem DI(f:Str)(v:V):∀fs:List (Str×V),(T4 f v fs).length<=fs.length+1
 | []=>by simp[T4]
 |(k,x)::r=>by
  have ih:=DI f v r
  rw[show T4 f v ((k,x)::r)=(if k=f then(k,v)::r else(k,x)::T4 f v r)from rfl]
  by_cases hk:k=f
  ·rw[if_pos hk,length_cons,length_cons];omega
  ·rw[if_neg hk,length_cons,length_cons];omega
theorem RelO.some_of{v:V}{o:Option Value}(r:RelO (some v) o):∃u,o=some u/\RelV v u:=by
 cases o with
 |none=>exact(show False from r).elim
 |some u=>exact⟨u,rfl,r⟩
theorem RelO.none_of{o:Option Value}(r:RelO none o):o=none:=by
 cases o with
 |none=>rfl
 |some u=>exact(show False from r).elim
theorem UW{v:V}{u:Value}(r:RelV v u):PySem.W.handedIn u=true:=by
 cases v with
 |non=>cases(show u=Value.none from r);rfl
 |bl b=>cases(show u=Value.bool b from r);rfl
 |int i=>obtain⟨t,e⟩:=(show∃t,u=Value.int i t from r);cases e;rfl
 |str x=>obtain⟨t,e⟩:=(show∃t,u=Value.str x t from r);cases e;rfl
 |byt b=>obtain⟨t,e⟩:=(show∃t,u=Value.bytes b t from r);cases e;rfl
 |flt b=>obtain⟨t,e⟩:=(show∃t,u=Value.float b t from r);cases e;rfl
 |ref a=>cases(show u=Value.ref a from r);rfl
 |ty n=>cases(show u=Value.type n from r);rfl
section
variable{P:Program}{w:World}{H H':Hp}{h h':Heap}{a C dx:Addr}{fs fs':List (Str×V)}
theorem BG(hok:HOk P w H h)(e:H a=some (.ins C dx fs)):∃mA,ObjM h a dx C mA/\(∀f,RelO (fs.lookup f) (mA f))/\PySem.Within mA (fs.map (·.1))/\fs.length<=1000/\H dx=some (.own a):=by
 obtain⟨d,z,ne,ob,mA,n,r,q⟩:=(show ObjOk P w H h a (.ins C dx fs)from hok a _ e)
 exact⟨mA,⟨ob,n,ne⟩,r,q,z,d⟩
end
structure Cls (K:FZ) (C:Addr):Prop where
 pg:plainGet K C Str.empty=true
 hd:PySem.W.hasDictIn K C=true
 po:PySem.W.plainOver K C=true
 sa:findIn K (.ref C) "__setattr__"=some (some (.builtin "object.__setattr__"))
theorem Cls.get{K:FZ}{C:Addr}(c:Cls K C)(f:Str):plainGet K C f=true:=c.pg
noncomputable def NoAttr(K:FZ)(C:Addr)(f:Str):Prop:=findIn K (.ref C) f=some none
theorem NoAttr.taker{K:FZ}{C:Addr}{f:Str}(n:NoAttr K C f):PySem.W.takerIn K C f=some none:=by
 unfold PySem.W.takerIn
 rw[show findIn K (.ref C) f=some none from n]
 rfl
structure Meth (K:FZ) (C:Addr) (m:Str) (f:Addr):Prop where
 at_:findIn K (.ref C) m=some (some (.ref f))
 fn:isFn K (.ref f)=true
 kp:kZ K (.ref f)=true
section
variable{X:Cx}{pins:List (Addr×Obj)}{σ:St}{H:Hp}{s:Shared}{a C dx:Addr}{fs:List (Str×V)}{f:Str}{v:V}{A:Around}{E:Value->Shared->Prop}
theorem GL{b:Bool}{Q:Value->Shared->Prop}(I:Inv X pins σ H s)(e:H a=some (.ins C dx fs))(c:Cls X.K C)(n:NoAttr X.K C f)(l:fs.lookup f=some v)
  (h:∀u s',Inv X pins σ H s'->RelV v u->Q u s'):wpAny (model X.prog X.w) A (getAttr (.ref a) f b) Q E s:=by
 obtain⟨mA,O,r,_,_,_⟩:=BG I.hok e
 obtain⟨u,hu,ru⟩:=RelO.some_of (v:=v) (o:=mA f) (by rw[<-l];exact r f)
 exact a4Z I.kIn O (c.get f) c.hd n hu (UW ru) (h u _ (I.tok _) ru)
theorem FE{m:Str}{g:Addr}{pl:Sem Bool}{Q:Value×List Value->Shared->Prop}(I:Inv X pins σ H s)(e:H a=some (.ins C dx fs))(c:Cls X.K C)(k:Meth X.K C m g)(l:fs.lookup m=none)
  (h:Q (.ref g,[.ref a]) s):wpAny (model X.prog X.w) A (getMethod (.ref a) m pl) Q E s:=by
 obtain⟨mA,O,r,_,_,_⟩:=BG I.hok e
 have hn:mA m=none:=RelO.none_of (by rw[<-l];exact r m)
 exact YB I.kIn O (c.get m) k.at_ k.fn hn h
theorem FL{y:V}{u:Value}{Q:Unit->Shared->Prop}(I:Inv X pins σ H s)(e:H a=some (.ins C dx fs))(c:Cls X.K C)(n:NoAttr X.K C f)(hl:fs.length<1000)(ry:RelV y u)
  (h:∀s',Inv X pins σ (upd H a (.ins C dx (T4 f y fs))) s'->Q () s'):wpAny (model X.prog X.w) A (setAttr (.ref a) f u) Q E s:=by
 obtain⟨mA,O,r,wi,_,ho⟩:=BG I.hok e
 have hz:(fs.map (·.1)).length<=sizeLine:=by rw[length_map,sizeLine_eq];omega
 refine aLZ I.kIn O c.sa c.po n.taker c.hd wi hz λh' O' sb=>h _ ?_
 have hd:∃o,h'.get? dx=some o:=let⟨o,_,_,e',_⟩:=O'.ns;⟨o,e'⟩
 refine I.write (x:=a) (e:=dx) (by rw[e];exact True.intro) (.inr ho) (λb q hb z=>(sb.2 b hb).trans z) hd ?_
 refine⟨by rw[B5 O.ne];exact ho, ?_,O.ne,O'.obj,_,O'.ns,λg=> ?_,λg hg=> ?_⟩
 ·have:=DI f y fs;omega
 ·show RelO ((T4 f y fs).lookup g) (if g=f then some u else mA g)
  rw[DJ]
  by_cases q:g=f
  ·rw[if_pos q,if_pos q];exact ry
  ·rw[if_neg q,if_neg q];exact r g
 ·by_cases q:g=f
  ·rw[q];exact(CP f y fs).1
  ·refine(CP f y fs).2 g (wi g λz=>hg ?_)
   show(if g=f then some u else mA g)=none
   rw[if_neg q];exact z
theorem Inv.made(I:Inv X pins σ H s):Inv X pins σ (upd (upd H s.heap.objs.size (.own (s.heap.objs.size+1))) (s.heap.objs.size+1) (.ins C s.heap.objs.size []))
  {s with heap:=(s.heap.push emptyDict).push (instObj C s.heap.objs.size)}:=by
 have e1:(s.heap.push emptyDict).get? s.heap.objs.size=some emptyDict:=get?_push_size s.heap rfl
 have e2:((s.heap.push emptyDict).push (instObj C s.heap.objs.size)).get? (s.heap.objs.size+1)=some (instObj C s.heap.objs.size):=by
  have:=get?_push_size (s.heap.push emptyDict) (o:=instObj C s.heap.objs.size) rfl
  rwa [size_push]at this
 have e3:(s.heap.push emptyDict).Ns s.heap.objs.size (λ_=>none):=⟨emptyDict, #[],_,e1,rfl,(λe he=>absurd he (by simp)),λ_=>rfl⟩
 have I1:=I.laid (a:=s.heap.objs.size) (o:=.own (s.heap.objs.size+1)) (h':=s.heap.push emptyDict) (t':=s.toks) (λb u q=>gZ _ q) (le_refl _) ⟨_,e1⟩
 refine I1.laid (a:=s.heap.objs.size+1) (o:=.ins C s.heap.objs.size []) (t':=s.toks) (λb u q=>gZ _ q) (Nat.le_of_eq (size_push _ _)) ?_
 have ne:s.heap.objs.size≠s.heap.objs.size+1:=ne_of_lt (lt_succ_self _)
 refine⟨by rw[B5 ne,A5],zero_le _,ne,e2,λ_=>none,(Heap.Ns1.of_empty e3).at λo q=>gZ _ q,λ_=>True.intro,λy hy=>absurd rfl hy⟩
theorem aIZ{prog:Program}{w:World}{env:Env}{e:Expr}{f:Str}{pos:Pos}{s:Shared}{Q:Value->Shared->Prop}(hb:attributeBase e f env (eval e env)=eval e env)
  (h:wpAny (model prog w) A (eval e env) (λo s₁=>wpAny (model prog w) A (getAttr o f true) Q E s₁) E s):wpAny (model prog w) A (eval (.Attribute e f pos) env) Q E s:=
 Attribute_any_ h (by rw[arm_eval_Attribute,hb])
end
inductive tFldW (K:FZ) (f:Str) (Q:VK) (x:V) (H1:Hp):Prop
 |mk:∀a C dx fs v,(x=.ref a)->(H1 a=some (.ins C dx fs))->(Cls K C)->(NoAttr K C f)->(fs.lookup f=some v)->(Q v H1)->tFldW K f Q x H1
noncomputable def ewZ(K:FZ)(ta:TE)(f:Str):TE:=fun σ H Q=>ta σ H λx H1=>tFldW K f Q x H1
inductive sFldW (K:FZ) (f:Str) (D:Ends) (σ:St) (y x:V) (H2:Hp):Prop
 |mk:∀a C dx fs,(x=.ref a)->(H2 a=some (.ins C dx fs))->(Cls K C)->(NoAttr K C f)->(fs.length<1000)->(D.nx σ (upd H2 a (.ins C dx (T4 f y fs))))->sFldW K f D σ y x H2
noncomputable def eeZ(K:FZ)(ta tv:TE)(f:Str):TS:=λD σ H=>tv σ H λy H1=>ta σ H1 λx H2=>sFldW K f D σ y x H2
noncomputable def dWZ(X:Cx)(op:Operator)(rd:V->V->Hp->VK->Prop):Prop:=
 ∀(pins:List (Addr×Obj)) (s:Shared) (σ:St) (H:Hp) (x y:V) (u v:Value) (Q:VK),Inv X pins σ H s->RelV x u->RelV y v->rd x y H Q->wpAny (model X.prog X.w) X.A (inplaceOp op u v) (EP X pins σ Q) X.xe s
noncomputable def axZ(K:FZ)(ta tv:TE)(rd:V->V->Hp->VK->Prop)(f:Str):TS:=λD σ H=>ta σ H λx H1=>∃a C dx fs v,x=.ref a/\H1 a=some (.ins C dx fs)/\Cls K C/\NoAttr K C f/\fs.lookup f=some v/\
 tv σ H1 λy H2=>rd v y H2 λz H3=>∃dx' fs',H3 a=some (.ins C dx' fs')/\fs'.length<1000/\D.nx σ (upd H3 a (.ins C dx' (T4 f z fs')))
section
variable{X:Cx}{o e value:Expr}{f:Str}{pos pos' tpos:Pos}{ta tv:TE}
theorem G0(he:PE X e ta)(hb:attributeBase e f X.env (eval e X.env)=eval e X.env):PE X (.Attribute e f pos) (ewZ X.K ta f):=by
 intro pins s σ H Q I h
 refine aIZ hb (thn (he pins s σ H _ I h) λu s1 ⟨x,H1,I1,rx,a,C,dx,fs,v,ex,ea,c,n,l,q⟩=> ?_)
 subst ex
 obtain rfl:u=Value.ref a:=rx
 exact GL I1 ea c n l λu' s2 I2 ru=>⟨v,H1,I2,ru,q⟩
theorem Q1(ha:PE X o ta)(hv:PE X value tv)(hs:swapsWith value (some (.Attribute o f pos')) pos.line X.env=pure false):PS X (.Assign [.Attribute o f pos'] value pos) (eeZ X.K ta tv f):=by
 intro pins s σ H D I h
 refine plainObj_wpAny_Assign_Attribute (thn (hv pins s σ H _ I h) λu s1 ⟨y,H1,I1,ry,q⟩=>thn (ha pins s1 σ H1 _ I1 q) λov s2 ⟨x,H2,I2,rx,a,C,dx,fs,ex,ea,c,n,l,q2⟩=> ?_) hs
 subst ex
 obtain rfl:ov=Value.ref a:=rx
 exact FL I2 ea c n l ry λs3 I3=>⟨σ,_,I3,q2⟩
theorem IJ{op:Operator}{rd:V->V->Hp->VK->Prop}(ha:PE X o ta)(hv:PE X value tv)(hop:dWZ X op rd):PS X (.AugAssign (.Attribute o f tpos) op value pos) (axZ X.K ta tv rd f):=by
 intro pins s σ H D I h
 refine wpAny_AugAssign_AttributeAny (thn (ha pins s σ H _ I h) λov s1 ⟨x,H1,I1,rx,a,C,dx,fs,v,ex,ea,c,n,l,q⟩=> ?_)
 subst ex
 obtain rfl:ov=Value.ref a:=rx
 refine GL I1 ea c n l λu s2 I2 ru=>thn (hv pins s2 σ H1 _ I2 q) λw3 s3 ⟨y,H2,I3,ry,q3⟩=>thn (hop pins s3 σ H2 v y u w3 _ I3 ru ry q3) λw4 s4 ⟨z,H3,I4,rz,dx',fs',ea',l',q4⟩=> ?_
 exact FL I4 ea' c n l' rz λs5 I5=>⟨σ,_,I5,q4⟩
inductive rAdd (x:V) (y:V) (H:Hp) (Q:VK):Prop
 |mk:∀i j,(x=.int i)->(y=.int j)->(Q (.int (i+j)) H)->rAdd x y H Q
theorem YU:dWZ X .Add rAdd:=by
 rintro pins s σ H x y u v Q I rx ry ⟨i,j,rfl,rfl,q⟩
 obtain⟨t,rfl⟩:=(show∃t,u=Value.int i t from rx)
 obtain⟨t',rfl⟩:=(show∃t',v=Value.int j t' from ry)
 exact PyProof.Rows.iadd_int ⟨.int (i+j),H,I.tok _,⟨_,rfl⟩,q⟩
variable{pins:List (Addr×Obj)}{σ:St}{H:Hp}{s:Shared}{A:Around}{E:Value->Shared->Prop}{Q:Value->Shared->Prop}{c:Value}{b:Bool}
inductive TyOf(K:FZ)(H:Hp):V->Value->Prop where
 |non:TyOf K H .non (.type "NoneType")
 |bl (x:Bool):TyOf K H (.bl x) (.type "bool")
 |int (i:Int):TyOf K H (.int i) (.type "int")
 |str (x:Str):TyOf K H (.str x) (.type "str")
 |flt (x:UInt64):TyOf K H (.flt x) (.type "float")
 |lst {a:Addr} {xs:List V} (e:H a=some (.lst xs)):TyOf K H (.ref a) (.type "list")
 |frz {a:Addr} {o:Obj} {xs:List V} (e:H a=some (.frz o (.lst xs))):TyOf K H (.ref a) (.type "list")
 |tup {a:Addr} {xs:List V} (e:H a=some (.tup xs)):TyOf K H (.ref a) (.type "tuple")
 |dK {a:Addr} {kvs:List (Key×V)} (e:H a=some (.dK kvs)):TyOf K H (.ref a) (.type "dict")
 |dT {a:Addr} {kvs:List (List Key×V)} (e:H a=some (.dT kvs)):TyOf K H (.ref a) (.type "dict")
 |ins {a C dx:Addr} {fs:List (Str×V)} (e:H a=some (.ins C dx fs)) (cl:Cls K C) (ha:findIn K (.ref C) "__class__"=some (some (.builtin "object.__class__")))
   (hn:PySem.W.specialIn K (.builtin "object.__class__") "__get__"=some (some (.builtin "getset_descriptor.__get__"))) (htk:PySem.W.takesIn K (.builtin "object.__class__")=some true)
   (hm:PySem.W.mroIn K C (.type "object")=some true):TyOf K H (.ref a) (.ref C)
theorem VS{x:V}{u t:Value}(I:Inv X pins σ H s)(rx:RelV x u)(ty:TyOf X.K H x t)(e:kitOne X.K t c=some b)(h:∀tk,Q (.bool b) {s with toks:=tk}):
  wpAny (model X.prog X.w) A (call (.builtin "isinstance") [u,c]) Q E s:=by
 cases ty with
 |non=>cases(show u=Value.none from rx);exact kia_one PySem.W.kitx_none I.kIn True.intro e (λz=>nomatch z) h
 |bl y=>cases(show u=Value.bool y from rx);exact kia_one PySem.W.kitx_bool I.kIn True.intro e (λz=>nomatch z) h
 |int i=>obtain⟨t,q⟩:=(show∃t,u=Value.int i t from rx);cases q;exact kia_one PySem.W.kitx_int I.kIn True.intro e (λz=>nomatch z) h
 |str y=>obtain⟨t,q⟩:=(show∃t,u=Value.str y t from rx);cases q;exact kia_one PySem.W.kitx_str I.kIn True.intro e (λz=>nomatch z) h
 |flt y=>obtain⟨t,q⟩:=(show∃t,u=Value.float y t from rx);cases q;exact kia_one PySem.W.kitx_float I.kIn True.intro e (λz=>nomatch z) h
 | @lst a xs ea=>
  cases(show u=Value.ref a from rx)
  obtain⟨_,_,n,_,h1⟩:=(show ObjOk X.prog X.w H s.heap a (.lst xs)from I.hok a _ ea)
  exact kia_one kitx_list I.kIn ⟨_,h1,rfl⟩ e (λz=>nomatch z) h
 | @frz a ob xs ea=>
  cases(show u=Value.ref a from rx)
  obtain⟨_,_,_,n,_,h1⟩:=(show ObjOk X.prog X.w H s.heap a (.frz ob (.lst xs))from I.hok a _ ea)
  exact kia_one kitx_list I.kIn ⟨_,h1,rfl⟩ e (λz=>nomatch z) h
 | @tup a xs ea=>
  cases(show u=Value.ref a from rx)
  obtain⟨_,_,_,p⟩:=(show ObjOk X.prog X.w H s.heap a (.tup xs)from I.hok a _ ea)
  obtain⟨o,h1,h2,_⟩:=p
  exact kia_one PySem.W.kitx_tuple I.kIn ⟨o,h1,h2⟩ e (λz=>nomatch z) h
 | @dK a kvs ea=>
  cases(show u=Value.ref a from rx)
  obtain⟨_,_,vs,_,p⟩:=(show ObjOk X.prog X.w H s.heap a (.dK kvs)from I.hok a _ ea)
  obtain⟨o,es,ep,h1,h2,_⟩:=p
  exact kia_one kitx_dict I.kIn ⟨o,h1,h2.1⟩ e (λz=>nomatch z) h
 | @dT a kvs ea=>
  cases(show u=Value.ref a from rx)
  obtain⟨_,_,xs,_,o,es,ep,h1,h2,_⟩:=(show ObjOk X.prog X.w H s.heap a (.dT kvs)from I.hok a _ ea)
  exact kia_one kitx_dict I.kIn ⟨o,h1,h2.1⟩ e (λz=>nomatch z) h
 | @ins a C dx fs ea cl ha hn htk hm=>
  cases(show u=Value.ref a from rx)
  obtain⟨mA,O,_⟩:=BG I.hok ea
  obtain⟨od,J,_⟩:=O.look
  exact kia_one (PySem.W.kitx_own (cl.get _) cl.hd ha hn htk hm) I.kIn J e (λz=>nomatch z) h
end
structure Room (k:Nat) (A:Around):Prop where
 hd:A.handled=none
 dp:A.depth+3*k+5<recursionLimit
 un:A.units+16*k+200<cLine
theorem Room.mono{j k:Nat}{A:Around}(r:Room k A)(h:j<=k):Room j A:=⟨r.hd,by have:=r.dp;omega,by have:=r.un;omega⟩
theorem Room.deeper{k:Nat}{A:Around}(r:Room (k+1) A)(env:Env):Room k (A.deeper env):=
 ⟨r.hd,by have:=r.dp;show A.depth+1+3*k+5<_;omega,by have:=r.un;show A.units+3+16*k+200<_;omega⟩
theorem PZ{A:Around}{C:Addr}{us:List Value}{kw:List (Str×Value)}:(A.under (.builtin "type.__call__" ⟨.ref C::us,kw⟩)).depth=A.depth+1:=by
 first|rfl|simp[Around.under,Code.weight,Code.isCreation,Code.isGuard,Code.isCaller,Code.frames,Code.isFrame,guardIds]
theorem RA{A:Around}{C:Addr}{us:List Value}{kw:List (Str×Value)}:(A.under (.builtin "type.__call__" ⟨.ref C::us,kw⟩)).units=A.units+1:=by
 first|rfl|simp[Around.under,Code.cUnits,Code.frames,Code.isFrame]
theorem Room.make{k:Nat}{A:Around}(r:Room (k+1) A)(C:Addr)(us:List Value)(kw:List (Str×Value)):Room k (A.under (.builtin "type.__call__" ⟨.ref C::us,kw⟩)):=
 ⟨r.hd,by have:=r.dp;rw[PZ];omega,by have:=r.un;rw[RA];omega⟩
theorem Room.depth{k:Nat}{A:Around}(r:Room k A):A.depth<recursionLimit:=by have:=r.dp;omega
theorem Room.units{k:Nat}{A:Around}(r:Room k A):A.units+64<cLine:=by have:=r.un;omega
theorem Room.units0{k:Nat}{A:Around}(r:Room k A):A.units<cLine:=by have:=r.un;omega
noncomputable def aoZ:TA:=λ_ H Q=>Q [] H
noncomputable def dyZ(ta:TE)(tr:TA):TA:=fun σ H Q=>ta σ H λx H1=>tr σ H1 λxs H2=>Q (x::xs) H2
section
variable{X:Cx}{e:Expr}{es:List Expr}{te:TE}{t:TA}{pos:Pos}
theorem A6:PA X [] aoZ:=λ_ _ _ _ H Q I h=>Calls.spliced_nil ⟨[],H,I,.nil,h⟩
theorem A0(ha:PE X e te)(hr:PA X es t)(hs:starEach (e::es) X.env=(false,eval e X.env)::starEach es X.env:=by rfl):PA X (e::es) (dyZ te t):=by
 intro pos pins s σ H Q I h
 rw[hs]
 show wpAny _ _ (spliced ((false,eval e X.env)::backTo pos (starEach es X.env))) _ _ s
 refine Calls.spliced_cons (thn (ha pins s σ H _ I h) λu s1 ⟨x,H1,I1,r1,q1⟩=> ?_)
 exact thn (hr pos pins s1 σ H1 _ I1 q1) λus s2 ⟨xs,H2,I2,r2,q2⟩=>⟨x::xs,H2,I2,.cons r1 r2,q2⟩
inductive tTupW (Q:VK) (xs:List V) (H1:Hp):Prop
 |mk:(xs.length<=sizeLine)->(∀p,H1 p=none->Q (.ref p) (upd H1 p (.tup xs)))->tTupW Q xs H1
noncomputable def ezZ(t:TA):TE:=fun σ H Q=>t σ H λxs H1=>tTupW Q xs H1
inductive tLstW (Q:VK) (xs:List V) (H1:Hp):Prop
 |mk:(xs.length<=sizeLine)->(∀p,H1 p=none->Q (.ref p) (upd H1 p (.lst xs)))->tLstW Q xs H1
noncomputable def exZ(t:TA):TE:=fun σ H Q=>t σ H λxs H1=>tLstW Q xs H1
theorem C1{x1}(h:PA X es t):PE X (.Tuple es x1 pos) (ezZ t):=by
 intro pins s σ H Q I hq
 refine wpAny_Tuple_spliced (thn (h pos pins s σ H _ I hq) λus s1 ⟨xs,H1,I1,r,z,q⟩=>⟨by rw[<-r.length];exact z, ?_⟩)
 have hf:H1 s1.heap.objs.size=none:=I1.hok.fresh (le_refl _)
 refine⟨.ref s1.heap.objs.size,upd H1 s1.heap.objs.size (.tup xs),I1.laid (t':=s1.toks) (λb u e=>gZ _ e) (le_refl _) ?_,rfl,q _ hf⟩
 exact⟨z,us,r,⟨_,get?_push_size _ rfl,rfl,_,rfl⟩⟩
theorem E6(h:PA X es t):PE X (.List es pos) (exZ t):=by
 intro pins s σ H Q I hq
 refine wpAny_List_spliced (thn (h pos pins s σ H _ I hq) λus s1 ⟨xs,H1,I1,r,z,q⟩=>⟨by rw[<-r.length];exact z, ?_⟩)
 have hf:H1 s1.heap.objs.size=none:=I1.hok.fresh (le_refl _)
 refine⟨.ref s1.heap.objs.size,upd H1 s1.heap.objs.size (.lst xs),I1.laid (t':=s1.toks) (λb u e=>gZ _ e) (le_refl _) ?_,rfl,q _ hf⟩
 exact⟨z,us,0,r,get?_push_size _ rfl⟩
end
noncomputable abbrev Sp:=List V->Hp->VK->XK->Prop
noncomputable abbrev CXT:=List Env->Hp->Shared->XK->Value->Shared->Prop
structure Env0 (P:Program) (w:World) (K:FZ) (mg:Str->Option Value) (base:Heap) (A:Around) (outer:List Env) (s:Shared) (H:Hp):Prop where
 frames:A.frames=some outer
 mod:Mod K mg base
 bs:∀b o,base.get? b=some o->s.heap.get? b=some o/\H b=none
 bsz:base.objs.size<=s.heap.objs.size
 funs:s.heap.FunFrames base outer
 frf:∀b∈frs outer,H b=none
 hok:HOk P w H s.heap
 bare:AllBare s.gens
noncomputable def CE(outer:List Env)(P:Program)(w:World)(H:Hp)(s:Shared)(Q:VK)(u:Value)(s':Shared):Prop:=
 ∃v H',s'.os=s.os/\AllBare s'.gens/\Un (frs outer) [] H H' s.heap s'.heap/\HOk P w H' s'.heap/\RelV v u/\Q v H'
noncomputable def CR(CX:CXT)(outer:List Env)(P:Program)(w:World)(H:Hp)(s:Shared)(Q:VK)(E:XK)(r:Result)(s':Shared):Prop:=
 match r with
 | .ok (.ret u)=>CE outer P w H s Q u s'
 | .ok _=>False
 | .error e=>CX outer H s E e s'
structure FnOk (P:Program) (w:World) (K:FZ) (mg:Str->Option Value) (base:Heap) (CX:CXT) (k:Nat) (f:Addr) (fd:FuncData) (ps:List Str) (sp:Sp):Prop where
 len:∀vs H Q E,sp vs H Q E->vs.length=ps.length
 run:∀(A:Around) (outer:List Env) (s:Shared) (H:Hp) (args:Args) (us:List Value) (vs:List V) (Q:VK) (E:XK),Room k A->Env0 P w K mg base A outer s H->BindsTo s fd args (ps.zip us)->Vals vs us->sp vs H Q E->
  codeAny (model P w) A (.call (.ref f) args) (CR CX outer P w H s Q E) s
theorem FnOk.mono{P:Program}{w:World}{K:FZ}{mg:Str->Option Value}{base:Heap}{CX:CXT}{j k:Nat}{f:Addr}{fd:FuncData}{ps:List Str}{sp:Sp}(F:FnOk P w K mg base CX j f fd ps sp)(h:j<=k):
  FnOk P w K mg base CX k f fd ps sp:=⟨F.len,λA outer s H args us vs Q E hr=>F.run A outer s H args us vs Q E (hr.mono h)⟩
theorem Env0.make{P:Program}{w:World}{K:FZ}{mg:Str->Option Value}{base:Heap}{A:Around}{outer:List Env}{s:Shared}{H:Hp}(e:Env0 P w K mg base A outer s H)(C:Addr)(us:List Value)(kw:List (Str×Value)):
  Env0 P w K mg base (A.under (.builtin "type.__call__" ⟨.ref C::us,kw⟩)) outer s H:=⟨by first|exact e.frames|(simpa [Around.under,Code.envs,Code.isFrame,pushEnvs]using e.frames),e.mod,e.bs,e.bsz,e.funs,e.frf,e.hok,e.bare⟩
section
variable{X:Cx}{pins:List (Addr×Obj)}{σ:St}{H:Hp}{s s':Shared}
theorem Inv.env0(I:Inv X pins σ H s):Env0 X.prog X.w X.K X.mg X.base X.A X.stack s H:=
 ⟨I.ok.frames,I.ok.mod,I.bs,le_trans I.ok.bsz I.sz,I.stack,I.stkFree,I.hok,I.bare⟩
theorem Inv.after{Q:VK}{u:Value}(I:Inv X pins σ H s)(h:CE X.stack X.prog X.w H s Q u s'):EP X pins σ Q u s':=by
 obtain⟨v,H',os,bare,un,hok,r,q⟩:=h
 obtain⟨hh,g,d,t,os'⟩:=s'
 obtain rfl:os'=s.os:=os
 exact⟨v,H',I.call (h':=hh) (g':=g) (d':=d) (t':=t) (ch:=[]) un hok bare (λb z=>absurd z (by simp)),r,q⟩
end
noncomputable def dlZ(sp:Sp)(dvs:List V)(E:XK)(t:TA):TE:=fun σ H Q=>t σ H λvs H1=>sp (vs++dvs) H1 Q E
inductive tMethW (C:Addr) (m:Str) (sp:Sp) (dvs:List V) (E:XK) (t:TA) (σ:St) (Q:VK) (x:V) (H1:Hp):Prop
 |mk:∀a dx fs,(x=.ref a)->(H1 a=some (.ins C dx fs))->(fs.lookup m=none)->(t σ H1 λvs H2=>sp (x::(vs++dvs)) H2 Q E)->tMethW C m sp dvs E t σ Q x H1
noncomputable def bsZ(C:Addr)(m:Str)(sp:Sp)(dvs:List V)(E:XK)(ta:TE)(t:TA):TE:=fun σ H Q=>ta σ H λx H1=>tMethW C m sp dvs E t σ Q x H1
noncomputable def bSZ(C:Addr)(sp:Sp)(dvs:List V)(E:XK)(t:TA):TE:=fun σ H Q=>t σ H λvs H1=>∀x dx,H1 x=none->H1 dx=none->dx≠x->
 sp (.ref x::(vs++dvs)) (upd (upd H1 dx (.own x)) x (.ins C dx [])) (λv H2=>v=.non/\Q (.ref x) H2) E
noncomputable def Binds(K:FZ)(fd:FuncData)(ps:List Str)(ds:List Value):Prop:=
 ∀(s:Shared) (us:List Value),K.In s.heap->(us++ds).length=ps.length->BindsTo s fd ⟨us,[]⟩ (ps.zip (us++ds))
theorem Binds.all{K:FZ}{fd:FuncData}{ps:List Str}(h:∀us:List Value,us.length=ps.length->bindArgs fd ⟨us,[]⟩=pure (ps.zip us)):Binds K fd ps []:=λs us _ hl=>by
 rw[append_nil]at hl⊢
 exact .of_eq (h us hl)
noncomputable def W5(CX:CXT)(X:Cx)(E:XK):Prop:=∀(pins:List (Addr×Obj)) (σ:St) (H:Hp) (s:Shared) (e:Value) (s':Shared),Inv X pins σ H s->CX X.stack H s E e s'->X.xe e s'
section
variable{X:Cx}{CX:CXT}{k:Nat}{f C:Addr}{fd:FuncData}{ps:List Str}{sp:Sp}{dvs:List V}{ds:List Value}{E:XK}{x m:Str}{p pos apos:Pos}{e o:Expr}{es:List Expr}{ta:TE}{t:TA}
theorem GK{pins:List (Addr×Obj)}{σ:St}{H:Hp}{s:Shared}{Q:VK}{us:List Value}{vs:List V}(F:FnOk X.prog X.w X.K X.mg X.base CX k f fd ps sp)(hr:Room k X.A)(hb:Binds X.K fd ps ds)(hd:Vals dvs ds)(hx:W5 CX X E)
  (I:Inv X pins σ H s)(r:Vals vs us)(h:sp (vs++dvs) H Q E):wpAny (model X.prog X.w) X.A (call (.ref f) us) (EP X pins σ Q) X.xe s:=by
 have r2:Vals (vs++dvs) (us++ds):=r.append hd
 have hl:(us++ds).length=ps.length:=by rw[<-r2.length];exact F.len _ _ _ _ h
 refine wpAny_call (codeAny_mono (F.run X.A X.stack s H ⟨us,[]⟩ (us++ds) (vs++dvs) Q E hr I.env0 (hb s us I.kIn hl) r2 h) λr s' hq=> ?_)
 cases r with
 |error e=>exact hx pins σ H s e s' I hq
 |ok fl=>
  cases fl with
  |ret u=>exact I.after hq
  |next=>exact False.elim hq
  |brk=>exact False.elim hq
  |cont=>exact False.elim hq
theorem B6(F:FnOk X.prog X.w X.K X.mg X.base CX k f fd ps sp)(hr:Room k X.A)(hg:Gl X x)(hm:X.mg x=some (.ref f))(hk:kZ X.K (.ref f)=true)(hb:Binds X.K fd ps ds)(hd:Vals dvs ds)(hx:W5 CX X E)
  (ha:PA X (e::es) t)(hdb:(x==("__debug__":Str))=false:=by decide)(he:starEach (e::es) X.env=(false,eval e X.env)::starEach es X.env:=by rfl)(hpl:(backTo pos (starEach es X.env)).any (·.1)=false:=by rfl):
  PE X (.Call (.Name x p) (e::es) [] pos) (dlZ sp dvs E t):=by
 intro pins s σ H Q I h
 refine wpAny_Call_Name_kw (BK I hg hm ?_ hdb)
 refine callWith_K (h₀:=X.base) I.ok.mod.kin hk (thn (ha pos pins s σ H _ I h) λus s1 ⟨vs,H1,I1,r,q⟩=>⟨I1.kIn, ?_⟩) he hpl
 exact GK F hr hb hd hx I1 r q
theorem L0{pl:Sem Bool}(he:PE X o ta)(c:Cls X.K C)(hm:Meth X.K C m f)(F:FnOk X.prog X.w X.K X.mg X.base CX k f fd ps sp)(hr:Room k X.A)(hb:Binds X.K fd ps ds)(hd:Vals dvs ds)(hx:W5 CX X E)(ha:PA X (e::es) t)
  (hst:starEach (e::es) X.env=(false,eval e X.env)::starEach es X.env:=by rfl)(hpl:(backTo pos (starEach es X.env)).any (·.1)=false:=by rfl)
  (ht:eval (.Call (.Attribute o m apos) (e::es) [] pos) X.env=(do
   let ov<-eval o X.env
   standAt apos.atName
   let(f,first)<-holding [ov] (getMethod ov m pl)
   callWith pos f first (backTo pos (starEach (e::es) X.env)) (backToKw pos (keywordEach [] X.env))):=by rfl):
  PE X (.Call (.Attribute o m apos) (e::es) [] pos) (bsZ C m sp dvs E ta t):=by
 intro pins s σ H Q I h
 refine PySem.W.methodCall_KW (pl:=pl) (thn (he pins s σ H _ I h) λu s1 ⟨x,H1,I1,rx,a,dx,fs,ex,ea,l,q⟩=> ?_) ht
 subst ex
 obtain rfl:u=Value.ref a:=rx
 refine FE I1 ea c hm l ?_
 refine callWith_K (first:=[.ref a]) (h₀:=X.base) I.ok.mod.kin hm.kp (thn (ha pos pins s1 σ H1 _ I1 q) λus s2 ⟨vs,H2,I2,r,q2⟩=>⟨I2.kIn, ?_⟩) hst hpl
 exact GK (us:=.ref a::us) (vs:=.ref a::vs) F hr hb hd hx I2 (.cons rfl r) q2
theorem K3{pl:Sem Bool}(he:PE X o ta)(c:Cls X.K C)(hm:Meth X.K C m f)(F:FnOk X.prog X.w X.K X.mg X.base CX k f fd ps sp)(hr:Room k X.A)(hb:Binds X.K fd ps ds)(hd:Vals dvs ds)(hx:W5 CX X E)
  (ht:eval (.Call (.Attribute o m apos) [] [] pos) X.env=(do
   let ov<-eval o X.env
   standAt apos.atName
   let(f,first)<-holding [ov] (getMethod ov m pl)
   callWith pos f first (backTo pos (starEach [] X.env)) (backToKw pos (keywordEach [] X.env))):=by rfl):
  PE X (.Call (.Attribute o m apos) [] [] pos) (bsZ C m sp dvs E ta aoZ):=by
 intro pins s σ H Q I h
 refine PySem.W.methodCall_KW (pl:=pl) (thn (he pins s σ H _ I h) λu s1 ⟨x,H1,I1,rx,a,dx,fs,ex,ea,l,q⟩=> ?_) ht
 subst ex
 obtain rfl:u=Value.ref a:=rx
 refine FE I1 ea c hm l ?_
 exact PySem.W.callWith_K0 (first:=[.ref a]) I1.kIn hm.kp (GK (us:=[.ref a]) (vs:=[.ref a]) F hr hb hd hx I1 (.cons rfl .nil) q)
structure Mk (K:FZ) (C f:Addr):Prop where
 makes:PySem.W.makesIn K C=true
 init:findIn K (.ref C) "__init__"=some (some (.ref f))
 fn:isFn K (.ref f)=true
 kp:kZ K (.ref C)=true
theorem OD{pins:List (Addr×Obj)}{σ:St}{H:Hp}{s:Shared}{Q:VK}{us:List Value}{vs:List V}(M:Mk X.K C f)(F:FnOk X.prog X.w X.K X.mg X.base CX k f fd ps sp)(hr:Room (k+1) X.A)(hb:Binds X.K fd ps ds)(hd:Vals dvs ds)
  (hx:W5 CX X E)(I:Inv X pins σ H s)(r:Vals vs us)
  (h:∀x dx,H x=none->H dx=none->dx≠x->sp (.ref x::(vs++dvs)) (upd (upd H dx (.own x)) x (.ins C dx [])) (λv H2=>v=.non/\Q (.ref x) H2) E):
  wpAny (model X.prog X.w) X.A (call (.ref C) us) (EP X pins σ Q) X.xe s:=by
 have hq:=h (s.heap.objs.size+1) s.heap.objs.size (I.hok.fresh (le_succ _)) (I.hok.fresh (le_refl _)) (ne_of_lt (lt_succ_self _))
 have I2:=Inv.made (C:=C) I
 have r2:Vals (V.ref (s.heap.objs.size+1)::(vs++dvs)) (Value.ref (s.heap.objs.size+1)::(us++ds)):=.cons rfl (r.append hd)
 have hl:(Value.ref (s.heap.objs.size+1)::us++ds).length=ps.length:=by
  have e:=r2.length
  rw[F.len _ _ _ _ hq]at e
  exact e.symm
 refine wpAny_call (ZA (f:=f) I.kIn M.makes M.init (beq_iff_eq.mp M.fn) (codeAny_mono (F.run _ X.stack _ _ ⟨Value.ref (s.heap.objs.size+1)::us,[]⟩ (Value.ref (s.heap.objs.size+1)::(us++ds)) _ _ E (hr.make C us [])
  (I2.env0.make C us []) (hb _ (Value.ref (s.heap.objs.size+1)::us) I2.kIn hl) r2 hq) λr s' hq'=> ?_))
 cases r with
 |error e=>exact hx pins σ _ _ e s' I2 hq'
 |ok fl=>
  cases fl with
  |ret u=>
   obtain⟨v,H',I3,rv,ev,q3⟩:=I2.after hq'
   subst ev
   exact⟨rv,⟨V.ref (s.heap.objs.size+1),H',I3,rfl,q3⟩⟩
  |next=>exact False.elim hq'
  |brk=>exact False.elim hq'
  |cont=>exact False.elim hq'
theorem SY(M:Mk X.K C f)(F:FnOk X.prog X.w X.K X.mg X.base CX k f fd ps sp)(hr:Room (k+1) X.A)(hg:Gl X x)(hm:X.mg x=some (.ref C))(hb:Binds X.K fd ps ds)(hd:Vals dvs ds)(hx:W5 CX X E)
  (ha:PA X (e::es) t)(hdb:(x==("__debug__":Str))=false:=by decide)(he:starEach (e::es) X.env=(false,eval e X.env)::starEach es X.env:=by rfl)(hpl:(backTo pos (starEach es X.env)).any (·.1)=false:=by rfl):
  PE X (.Call (.Name x p) (e::es) [] pos) (bSZ C sp dvs E t):=by
 intro pins s σ H Q I h
 refine wpAny_Call_Name_kw (BK I hg hm ?_ hdb)
 refine callWith_K (h₀:=X.base) I.ok.mod.kin M.kp (thn (ha pos pins s σ H _ I h) λus s1 ⟨vs,H1,I1,r,q⟩=>⟨I1.kIn, ?_⟩) he hpl
 exact OD M F hr hb hd hx I1 r q
theorem NV(M:Mk X.K C f)(F:FnOk X.prog X.w X.K X.mg X.base CX k f fd ps sp)(hr:Room (k+1) X.A)(hg:Gl X x)(hm:X.mg x=some (.ref C))(hb:Binds X.K fd ps ds)(hd:Vals dvs ds)(hx:W5 CX X E)
  (hdb:(x==("__debug__":Str))=false:=by decide):PE X (.Call (.Name x p) [] [] pos) (bSZ C sp dvs E aoZ):=by
 intro pins s σ H Q I h
 refine wpAny_Call_Name_kw (BK I hg hm ?_ hdb)
 exact PySem.W.callWith_K0 I.kIn M.kp (OD (us:=[]) M F hr hb hd hx I .nil h)
variable{ks:List Str}{kpos:Pos}{kws:List Keyword}{te:TE}{tk:TA}{nm:Option Str}
variable{g:List Value->List Value->List Value}{gV:List V->List V->List V}
end
structure FnScope(N P:List Str)(sc:Scope):Prop where
 kind:sc.kind=.function
 co:sc.isCoroutine=false
 gen:sc.isGenerator=false
 nd:N.Nodup
 pre:N.take P.length=P
 par:∀x∈P,sc.names.lookup x=some .local\/sc.names.lookup x=some .cell
 nofree:∀y∈sc.names,y.2≠ .free
theorem IM{kindOf:Str->Option NameKind}{x:Str}:∀ {binds:List (Str×Value)} {m:Str->Option Value},(∀v,(x,v)∉binds)->bindL kindOf binds m x=m x
 | [],_,_=>rfl
 |(n,v)::r,m,h=>by
  unfold bindL
  rw[IM λw hw=>h w (mem_cons_of_mem _ hw)]
  split
  ·have:x≠n:=by rintro rfl;exact h v mem_cons_self
   simp[this]
  ·rfl
theorem IT{kindOf:Str->Option NameKind}{x:Str}:∀ {binds:List (Str×Value)} {m:Str->Option Value},(∀v,(x,v)∉binds)->bindC kindOf binds m x=m x
 | [],_,_=>rfl
 |(n,v)::r,m,h=>by
  unfold bindC
  rw[IT λw hw=>h w (mem_cons_of_mem _ hw)]
  split
  ·rfl
  ·have:x≠n:=by rintro rfl;exact h v mem_cons_self
   simp[this]
theorem HW{kindOf:Str->Option NameKind}{x:Str}{v:Value}:∀ {P:List Str} {vs:List Value} {i:Nat} {m:Str->Option Value},P.Nodup->P[i]? =some x->vs[i]? =some v->kindOf x=some .local->
  bindL kindOf (P.zip vs) m x=some v
 | [],_,_,_,_,h,_,_=>by simp at h
 |_::_,[],_,_,_,_,h,_=>by simp at h
 |p::P,w::vs,0,m,nd,h1,h2,hk=>by
  simp at h1 h2;subst h1;subst h2
  show bindL kindOf ((p,w)::P.zip vs) m p=_
  unfold bindL
  rw[IM λv hv=>(nodup_cons.mp nd).1 (of_mem_zip hv).1,if_pos hk]
  simp
 |p::P,w::vs,i+1,m,nd,h1,h2,hk=>by
  show bindL kindOf ((p,w)::P.zip vs) m x=_
  unfold bindL
  exact HW (i:=i) (nodup_cons.mp nd).2 (by simpa using h1) (by simpa using h2) hk
theorem IP{kindOf:Str->Option NameKind}{x:Str}{v:Value}:∀ {P:List Str} {vs:List Value} {i:Nat} {m:Str->Option Value},P.Nodup->P[i]? =some x->vs[i]? =some v->kindOf x≠some .local->
  bindC kindOf (P.zip vs) m x=some v
 | [],_,_,_,_,h,_,_=>by simp at h
 |_::_,[],_,_,_,_,h,_=>by simp at h
 |p::P,w::vs,0,m,nd,h1,h2,hk=>by
  simp at h1 h2;subst h1;subst h2
  show bindC kindOf ((p,w)::P.zip vs) m p=_
  unfold bindC
  rw[IT λv hv=>(nodup_cons.mp nd).1 (of_mem_zip hv).1,if_neg hk]
  simp
 |p::P,w::vs,i+1,m,nd,h1,h2,hk=>by
  show bindC kindOf ((p,w)::P.zip vs) m x=_
  unfold bindC
  exact IP (i:=i) (nodup_cons.mp nd).2 (by simpa using h1) (by simpa using h2) hk
noncomputable def start(N:List Str)(vs:List V):St:=vs.map some++List.replicate (N.length - vs.length) none
noncomputable def NU(CX:CXT)(P:Program)(w:World)(K:FZ)(mg:Str->Option Value)(base:Heap)(N:List Str)(qual:Str)(scope:Scope)(f:Addr)(cd:Value)(A:Around)(outer:List Env)(s:Shared)(H:Hp)(E:XK):Cx where
 prog:=P
 w:=w
 K:=K
 mg:=mg
 base:=base
 A:=A.deeper (envOfC qual scope s.heap.objs.size f cd)
 N:=N
 s₀:=s
 H₀:=H
 env:=envOfC qual scope s.heap.objs.size f cd
 outer:=outer
 stack:=envOfC qual scope s.heap.objs.size f cd::outer
 ex:=[]
 calm:=true
 fn:=λ_=>true
 pn:=[]
 xe:=λe s'=>wpAny (model P w) (A.deeper (envOfC qual scope s.heap.objs.size f cd)) (leaving (envOfC qual scope s.heap.objs.size f cd) e) (λ_ s''=>CX outer H s E e s'') (λe' s''=>CX outer H s E e' s'') s'
theorem NK{sc:Scope}{n:Nat}{x:Str}(h:sc.names.lookup x=some .cell):∃c,(cellsFrom n sc.names []).lookup x=some c:=by
 have q:=PySem.W.cellsFrom_some sc.names n [] (.inl h)
 exact Option.isSome_iff_exists.mp q
theorem UN{CX:CXT}{P:Program}{w:World}{K:FZ}{mg:Str->Option Value}{base:Heap}{N ps:List Str}{qual:Str}{scope:Scope}{f:Addr}{cd:Value}{A:Around}{outer:List Env}{s s1:Shared}{H:Hp}{E:XK}{us:List Value}{vs:List V}
  (S:FnScope N ps scope)(hd:A.handled=none)(e0:Env0 P w K mg base A outer s H)(hl:vs.length=ps.length)(r:Vals vs us)
  (x:InCallC s s.heap.objs.size (bindL (envOfC qual scope s.heap.objs.size f cd).kindOf (ps.zip us) λ_=>none) (cellsFrom (s.heap.objs.size+1) scope.names []) (bindC (envOfC qual scope s.heap.objs.size f cd).kindOf (ps.zip us) λ_=>none) s1):
  Inv (NU CX P w K mg base N qual scope f cd A outer s H E) [] (start N vs) H s1:=by
 have hpl:ps.length<=N.length:=by have:=congrArg List.length S.pre;rw[length_take]at this;omega
 obtain⟨h1,tk,rfl,hk⟩:=x.done
 have noA:∀b:Addr,b∉(NU CX P w K mg base N qual scope f cd A outer s H E).ex:=λb z=>absurd (show b∈([]:List Addr)from z) (by simp)
 refine⟨⟨e0.mod,S.kind,rfl,rfl,le_refl _,λy z c h1 h2=> ?_,λy hy=> ?_,λy c _ h=> ?_,λ_=>hd,Around.frames_deeper e0.frames,.inr ⟨rfl,rfl⟩,λb z=>absurd z (noA b),e0.bs,e0.bsz,λb _ _=>noA b,λb z=>absurd z (noA b),e0.funs,e0.frf⟩,
  rfl,e0.bare,Un.kept hk,⟨_,x.toInCall.ns,λi y v h1 h2 h3=> ?_⟩,λy c h=>⟨_,x.cell y c h⟩,e0.hok.fresh (le_refl _),λy c h=> ?_,λp hp=>absurd (show p∈([]:List (Addr×Obj))from hp) (by simp),e0.hok.kept hk, ?_⟩
 ·exact name_of_addr x.apart (PySem.mem_of_lookup h1) (PySem.mem_of_lookup h2)
 ·have hy:scope.names.lookup y=some .cell\/scope.names.lookup y=some .free:=hy
  rcases hy with hy|hy
  ·exact NK hy
  ·exact absurd rfl (S.nofree _ (PySem.mem_of_lookup hy))
 ·exact le_of_lt (x.above y c (PySem.mem_of_lookup h))
 ·have hi:i<vs.length:=by
   unfold start at h2
   by_cases hi:i<vs.length
   ·exact hi
   ·rw[getElem?_append_right (by simpa using hi)]at h2
    rw[List.getElem?_replicate]at h2
    split at h2<;>cases h2
  have ha:vs[i]? =some v:=by
   unfold start at h2
   rw[getElem?_append_left (by simpa using hi),getElem?_map]at h2
   cases e:vs[i]? with
   |none=>rw[e]at h2;cases h2
   |some a=>rw[e]at h2;cases h2;rfl
  obtain⟨u,hu,rv⟩:=r.get ha
  have hp:ps[i]? =some y:=by
   rw[<-S.pre,List.getElem?_take_of_lt (by omega)];exact h1
  have ndP:ps.Nodup:=by rw[<-S.pre];exact S.nd.sublist (List.take_sublist _ _)
  refine⟨u,rv, ?_⟩
  rcases S.par y (mem_of_getElem? hp)with k|k
  ·exact .inl ⟨k,HW ndP hp hu k⟩
  ·obtain⟨c,e⟩:=NK (n:=s.heap.objs.size+1) k
   refine .inr ⟨.inl k,c,e, ?_⟩
   have q:=x.cell y c e
   rw[IP ndP hp hu (by show scope.names.lookup y≠_;rw[k];decide)]at q
   exact q
 ·exact e0.hok.fresh (le_of_lt (x.above y c (PySem.mem_of_lookup h)))
 ·unfold start
  show _=N.length
  rw[length_append,length_map,length_replicate]
  omega
theorem bKZ{CX:CXT}{P:Program}{w:World}{K:FZ}{mg:Str->Option Value}{base:Heap}{k:Nat}{f:Addr}{name qual:Str}{params:Arguments}{body:List Stmt}{scope:Scope}{dV kV doc pm cdv ct oc:Value}{an od:Option Addr}
  {osl:Array (Option Value)}{N ps:List Str}{sp:Sp}(lk:K.lookup f=some ⟨oc,od,.func (fnOf name qual params body scope dV kV doc pm an cdv ct),osl⟩)(hcd:codeIn K cdv qual=true)(S:FnScope N ps scope)
  (len:∀vs H Q E,sp vs H Q E->vs.length=ps.length)
  (hbody:∀(A:Around) (outer:List Env) (s:Shared) (H:Hp) (vs:List V) (Q:VK) (E:XK),Room k (A.deeper (envOfC qual scope s.heap.objs.size f cdv))->sp vs H Q E->
   ∃t,PSs (NU CX P w K mg base N qual scope f cdv A outer s H E) body t/\t {nx:=λ_ H'=>Q .non H',rt:=Q} (start N vs) H):
  FnOk P w K mg base CX (k+1) f (fnOf name qual params body scope dV kV doc pm an cdv ct) ps sp:=by
 refine⟨len,λA outer s H args us vs Q E hr e0 hb r hsp=> ?_⟩
 have hl:=len _ _ _ _ hsp
 have KX:K.In s.heap:=e0.mod.kin.keeps λb o e=>(e0.bs b o e).1
 have lim:s.heap.NoLimit:=e0.mod.nolimit.keeps λb o e=>(e0.bs b o e).1
 have hkind:∀y∈ps.zip us,scope.names.lookup y.1=some .local\/(scope.names.lookup y.1=some .cell/\((cellsFrom (s.heap.objs.size+1) scope.names []).lookup y.1).isSome=true):=λ⟨n,v⟩ hy=>by
  rcases S.par n (of_mem_zip hy).1 with q|q
  ·exact .inl q
  ·exact .inr ⟨q,PySem.W.cellsFrom_some _ _ _ (.inl q)⟩
 refine codeAny_call_function hr.depth (KX _ _ lk) rfl S.co S.gen rfl (PySem.W.codeRec_of KX hcd) (hb _ _ _ _ ?_)
 refine wpAny_newFunctionEnv_cells S.kind hkind λenv he s1 x=> ?_
 subst he
 refine⟨lim.keeps x.toInCall.keep,codeAny_func ?_⟩
 obtain⟨t,ht,hq⟩:=hbody A outer s H vs Q E (hr.deeper _) hsp
 have I:Inv (NU CX P w K mg base N qual scope f cdv A outer s H E) [] (start N vs) H s1:=UN S hr.hd e0 hl r x
 refine wpAny_mono (ht [] s1 (start N vs) H _ I hq) (λfl s' hs=> ?_) λe s' hs=>hs
 have fin:∀ {σ':St} {H':Hp} {v:V} {u:Value},Inv (NU CX P w K mg base N qual scope f cdv A outer s H E) [] σ' H' s'->RelV v u->Q v H'->CE outer P w H s Q u s':=
  λ{σ' H' v u} J rv q=>⟨v,H',J.os,J.bare,J.base,J.hok,rv,q⟩
 cases fl with
 |ret u=>
  obtain⟨v,σ',H',J,rv,q⟩:=hs
  exact fin J rv q
 |next=>
  obtain⟨σ',H',J,q⟩:=hs
  exact fin (v:=V.non) (u:=Value.none) J rfl q
 |brk=>
  obtain⟨_,_,_,q⟩:=hs
  exact False.elim q
 |cont=>
  obtain⟨_,_,_,q⟩:=hs
  exact False.elim q
section
variable{X:Cx}{x:Str}{p pos:Pos}{e:Expr}{es:List Expr}{t:TA}{id T:String}{r:List V->Hp->VK->Prop}
noncomputable def tCB(r:List V->Hp->VK->Prop)(t:TA):TE:=fun σ H Q=>t σ H λvs H1=>r vs H1 Q
theorem C4(hc:CallR X (.builtin id) r)(hg:Gl X x)(hm:X.mg x=none)(hv:bootBuiltins x=some (.builtin id))(ha:PA X (e::es) t)(hn:x≠ "__name__":=by decide)(hdb:(x==("__debug__":Str))=false:=by decide)
  (he:starEach (e::es) X.env=(false,eval e X.env)::starEach es X.env:=by rfl)(hpl:(backTo pos (starEach es X.env)).any (·.1)=false:=by rfl):PE X (.Call (.Name x p) (e::es) [] pos) (tCB r t):=by
 intro pins s σ H Q I h
 refine wpAny_Call_Name_kw (AX I hg hm hv ?_ hn hdb)
 exact PyProof.Rows.callWith_builtin1 (thn (ha pos pins s σ H _ I h) λus s1 ⟨vs,H1,I1,r1,q1⟩=>hc pins s1 σ H1 vs us Q I1 r1 q1) he hpl
theorem G3(hc:CallR X (.type T) r)(hg:Gl X x)(hm:X.mg x=none)(hv:bootBuiltins x=some (.type T))(ha:PA X (e::es) t)(hn:x≠ "__name__":=by decide)(hdb:(x==("__debug__":Str))=false:=by decide)
  (he:starEach (e::es) X.env=(false,eval e X.env)::starEach es X.env:=by rfl)(hpl:(backTo pos (starEach es X.env)).any (·.1)=false:=by rfl):PE X (.Call (.Name x p) (e::es) [] pos) (tCB r t):=by
 intro pins s σ H Q I h
 refine wpAny_Call_Name_kw (AX I hg hm hv ?_ hn hdb)
 exact callWith_type1 (thn (ha pos pins s σ H _ I h) λus s1 ⟨vs,H1,I1,r1,q1⟩=>hc pins s1 σ H1 vs us Q I1 r1 q1) he hpl
end
end L2
namespace HT
open PySem PyProof.Rows
section
open PySem.SeqAt
open PySem.AutoSeq1 (wpAny_loadPart')
open PySem.MeetsSeq PySem.MeetsSeq2 PySem.MeetsSeq3
end
section
variable{prog:Program}{w:World}{A:Around}{E:Value->Shared->Prop}{s:Shared}
theorem cat_tup{t b:Addr}{vs ws:List Value}{Q:Value->Shared->Prop}(ht:IsTup s.heap t vs.toArray)(hb:IsTup s.heap b ws.toArray)(hv:vs≠ [])
  (h1:ws=[]->Q (.ref t) s)(h2:ws≠ []->Q (.ref s.heap.objs.size) {s with heap:=s.heap.push {cls:=.type "tuple",data:=.seq (vs++ws).toArray}})
  (hsz:vs.length+ws.length<=sizeLine):wpAny (model prog w) A (binaryOp .Add (.ref t) (.ref b)) Q E s:=by
 obtain⟨⟨cls,dd,data,sl⟩,ho,hc,n,hd⟩:=id ht
 obtain⟨⟨cls2,dd2,data2,sl2⟩,ho2,hc2,n2,hd2⟩:=id hb
 simp only at hc hd hc2 hd2
 subst hc hd hc2 hd2
 have e:vs.toArray++ws.toArray=(vs++ws).toArray:=by simp
 by_cases hw:ws=[]
 ·exact concat_meets ⟨_,ho,rfl⟩ ⟨_,ho2,rfl⟩ noFill_tuple_add seq_tuple_add PySem.F.slot_tuple_add PySem.F.entry_tuple_add (PySem.F.args_tuple_add_2 _ _)
   (tuple_addW1 t b vs.toArray ws.toArray n n2 dd dd2 sl sl2 (by simpa using hv) (by simp[hw])) ⟨ho,ho2,h1 hw⟩
 ·refine concat_meets ⟨_,ho,rfl⟩ ⟨_,ho2,rfl⟩ noFill_tuple_add seq_tuple_add PySem.F.slot_tuple_add PySem.F.entry_tuple_add (PySem.F.args_tuple_add_2 _ _)
   (tuple_addW2 t b vs.toArray ws.toArray n n2 dd dd2 sl sl2 (by simpa using hv) (by simpa using hw) (by rw[size_toArray,size_toArray];exact hsz)) ⟨ho,ho2, ?_⟩
  rw[e]
  exact h2 hw
noncomputable def sIx(n d:Nat):Option Int->Nat
 |none=>d
 |some v=>if v<0 then(v+(n:Int)).toNat else min v.toNat n
theorem sIx_none(n d:Nat):sIx n d none=d:=rfl
theorem sIx_nat(n d k:Nat):sIx n d (some (k:Int))=min k n:=by
 show(if(k:Int)<0 then((k:Int)+(n:Int)).toNat else min (k:Int).toNat n)=min k n
 rw[if_neg (by omega),Int.toNat_natCast]
theorem cpZ(n d:Nat)(hd:d<=n)(o:Option Int):sIx n d o<=n:=by
 cases o with
 |none=>exact hd
 |some v=>
  show(if v<0 then(v+(n:Int)).toNat else min v.toNat n)<=n
  by_cases hv:v<0
  ·rw[if_pos hv];omega
  ·rw[if_neg hv];exact Nat.min_le_right _ _
theorem SX(v:Int)(n d:Nat):(if v<0 then max (v+(n:Int)) 0 else min v (n:Int))=((sIx n d (some v):Nat):Int):=by
 show(if v<0 then max (v+(n:Int)) 0 else min v (n:Int))=(((if v<0 then(v+(n:Int)).toNat else min v.toNat n):Nat):Int)
 by_cases hv:v<0
 ·simp only[if_pos hv];omega
 ·simp only[if_neg hv];omega
theorem QY(lo hi:Option Int)(n:Nat):Builtin.Slice.sliceAdjust lo hi 1 (n:Int)=(((sIx n 0 lo:Nat):Int),((sIx n n hi:Nat):Int)):=by
 have h1:¬((1:Int)<0):=by omega
 unfold Builtin.Slice.sliceAdjust
 simp only[h1,if_false]
 refine Prod.ext ?_ ?_
 ·cases lo with
  |none=>rfl
  |some v=>exact SX v n 0
 ·cases hi with
  |none=>rfl
  |some v=>exact SX v n n
theorem QV(i j:Nat):Builtin.Slice.slicePlaces (i:Int) (j:Int) 1=j - i:=by
 unfold Builtin.Slice.slicePlaces
 have h1:(1:Int)>0:=by omega
 simp only[h1,if_true,Int.ediv_one]
 split<;>omega
theorem GH{v:Value}{o:Option Int}{Q:Option Int->Shared->Prop}(p:IsPart v o)(h:Q o s):wpAny (model prog w) A (Builtin.Slice.slicePartIndex v) Q E s:=by
 cases p with
 |none=>exact slicePart_none h
 |int i t=>exact slicePart_int h
theorem U6{sl:Addr}{vl vu:Value}{lo hi:Option Int}{n:Nat}{Q:Int×Int×Nat->Shared->Prop}(hs:s.heap.IsSliceOf sl vl vu .none)(pl:IsPart vl lo)(pu:IsPart vu hi)
  (h:Q (((sIx n 0 lo:Nat):Int),1,sIx n n hi - sIx n 0 lo) s):wpAny (model prog w) A (Builtin.Slice.sliceApplied (.ref sl) (pure (n:Int))) Q E s:=by
 obtain⟨os,hos,hcs,hds⟩:=id hs
 unfold Builtin.Slice.sliceApplied Builtin.Slice.sliceFields
 refine bZ (bZ (wpAny_field hos hds (x:=vl) rfl (bZ (wpAny_field hos hds (x:=vu) rfl (bZ (wpAny_field hos hds (x:=.none) rfl (pZ ?_)))))))
 refine bZ (slicePart_none ?_)
 show wpAny _ _ (if((1:Int)==0)=true then _ else _) _ _ s
 rw[if_neg (by decide)]
 refine bZ (GH pl (bZ (GH pu (bZ (pZ ?_)))))
 show wpAny _ _ (match Builtin.Slice.sliceAdjust lo hi 1 (n:Int)with|(lo,hi)=>pure (lo,(1:Int),Builtin.Slice.slicePlaces lo hi 1)) _ _ s
 rw[QY lo hi n]
 show wpAny _ _ (pure (((sIx n 0 lo:Nat):Int),(1:Int),Builtin.Slice.slicePlaces ((sIx n 0 lo:Nat):Int) ((sIx n n hi:Nat):Int) 1)) _ _ s
 rw[QV]
 exact pZ h
theorem YH(xs:Array Value)(i k:Nat):((List.range k).filterMap λ(m:Nat)=>xs[((i:Int)+(m:Int)*1).toNat]?).toArray=((xs.toList.drop i).take k).toArray:=by
 have e:(λ(m:Nat)=>xs[((i:Int)+(m:Int)*1).toNat]?)=λm=>xs[i+m]? :=by
  funext m
  have:((i:Int)+(m:Int)*1).toNat=i+m:=by omega
  rw[this]
 rw[e]
 have:=pick_run xs i k
 rw[List.filterMap_map]at this
 have e2:((λx=>xs[x]?)∘λx=>i+x)=λm=>xs[i+m]? :=rfl
 rw[e2]at this
 rw[this]
theorem getItem_tuple_cut{t sl:Addr}{items:Array Value}{vl vu:Value}{lo hi:Option Int}{Q:Value->Shared->Prop}(ht:IsTup s.heap t items)(hs:s.heap.IsSliceOf sl vl vu .none)(pl:IsPart vl lo)(pu:IsPart vu hi)
  (hw:¬(sIx items.size 0 lo=0/\sIx items.size items.size hi=items.size))
  (h:Q (.ref s.heap.objs.size) {s with heap:=s.heap.push {cls:=.type "tuple",data:=.seq ((items.toList.drop (sIx items.size 0 lo)).take (sIx items.size items.size hi - sIx items.size 0 lo)).toArray}})
  (hsz:items.size<=sizeLine):wpAny (model prog w) A (getItem (.ref t) (.ref sl)) Q E s:=by
 have htake:sizeOk (.seq ((items.toList.drop (sIx items.size 0 lo)).take (sIx items.size items.size hi - sIx items.size 0 lo)).toArray):=by
  show((items.toList.drop (sIx items.size 0 lo)).take (sIx items.size items.size hi - sIx items.size 0 lo)).toArray.size<=sizeLine
  rw[size_toArray,length_take,length_drop,Array.length_toList]
  omega
 have hj:sIx items.size items.size hi<=items.size:=cpZ _ _ (le_refl _) hi
 obtain⟨os,hos,hcs,hds⟩:=id hs
 have hTs:s.TypeIs (.ref sl) "slice":=⟨os,hos,hcs⟩
 unfold getItem
 try with_reducible refine wpAny_holding ?_
 first|refine bZ (pZ ?_)|skip
 refine bZ (wpAny_sequenceKey ht.typeIs (by decide) ?_)
 refine bZ (wpAny_callSpecial?_slot (name:=Str.ofString "__getitem__") ht.typeIs PyProof.Rows.slot_tuple_getitem
  (wpAny_call_entry PyProof.Rows.slot_tuple_getitem ht.typeIs entry_tuple_getitem ?_ (args_tuple_getitem _ _)))
 show wpAny _ _ (Builtin.Tuple.tupleItemsOf (.ref t)>>=_) _ _ s
 refine bZ (tupleItemsOf_ ht ?_)
 refine bZ (wpAny_typeOf hTs ?_)
 rw[if_pos (by decide)]
 refine bZ (U6 hs pl pu ?_)
 have hno:¬((((sIx items.size 0 lo:Nat):Int)==0&&(1:Int)==1&&(sIx items.size items.size hi - sIx items.size 0 lo)==items.size)=true):=by
  intro q
  rw[Bool.and_eq_true,Bool.and_eq_true]at q
  have q1:((sIx items.size 0 lo:Nat):Int)=0:=eq_of_beq q.1.1
  have q2:sIx items.size items.size hi - sIx items.size 0 lo=items.size:=eq_of_beq q.2
  exact hw ⟨by omega,by omega⟩
 show wpAny _ _ (if(((sIx items.size 0 lo:Nat):Int)==0&&(1:Int)==1&&(sIx items.size items.size hi - sIx items.size 0 lo)==items.size)=true then _ else _) _ _ s
 rw[if_neg hno,YH]
 first
  |exact bZ (m:=Builtin.Tuple.tupleExact _) (wpAny_newObj_type (pZ ⟨_,rfl,pZ h⟩) htake)
  |exact bZ (m:=Builtin.Tuple.tupleExact _) (wpAny_newObj_type (bZ (pZ (pZ ⟨_,rfl,pZ h⟩))) htake)
  |exact bZ (bZ (m:=Builtin.Tuple.tupleExact _) (wpAny_newObj_type (pZ (pZ ⟨_,rfl,pZ h⟩)) htake))
  |exact bZ (bZ (m:=Builtin.Tuple.tupleExact _) (wpAny_newObj_type (pZ ⟨_,rfl,pZ h⟩) htake))
end
end HT
namespace L2
open PySem PySem.Spec PyProof.Rows
noncomputable abbrev TO:=St->Hp->(Option Int->Hp->Prop)->Prop
noncomputable def PO(X:Cx)(e:Option Expr)(t:TO):Prop:=
 ∀(pins:List (Addr×Obj)) (s:Shared) (σ:St) (H:Hp) (Q:Option Int->Hp->Prop),Inv X pins σ H s->t σ H Q->
  wpAny (model X.prog X.w) X.A (evalPart e X.env) (λu s'=>∃o H',Inv X pins σ H' s'/\IsPart u o/\Q o H') X.xe s
noncomputable def aPZ:TO:=λ_ H Q=>Q none H
noncomputable def d1Z(t:TE):TO:=fun σ H Q=>t σ H λx H1=>∃i,x=.int i/\Q (some i) H1
theorem QS{ns:List Int}:∀ {us:List Value},Vals (ns.map V.int) us->IntsAre us ns:=by
 induction ns with
 |nil=>intro us r;rw[map_nil]at r;cases r;exact .nil
 |cons n ns ih=>
  intro us r
  rw[map_cons]at r
  cases r with
  |cons r1 r2=>
   obtain⟨t,e⟩:=r1
   subst e
   exact .cons n t (ih r2)
section
variable{X:Cx}{e:Expr}{te:TE}{lo hi:Option Expr}{tl th:TO}{pos p2:Pos}
theorem M4:PO X none aPZ:=by
 intro pins s σ H Q I h
 rw[evalPart_none]
 exact pZ ⟨none,H,I,.none,h⟩
theorem G6(h:PE X e te):PO X (some e) (d1Z te):=by
 intro pins s σ H Q I hw
 rw[evalPart_some]
 refine thn (h pins s σ H _ I hw) λu s1 ⟨x,H1,I1,r1,q1⟩=> ?_
 obtain⟨i,rfl,q⟩:=q1
 obtain⟨t,rfl⟩:=r1
 exact⟨some i,H1,I1,.int i t,q⟩
noncomputable def SlR(X:Cx)(r:V->Option Int->Option Int->Hp->VK->Prop):Prop:=
 ∀(pins:List (Addr×Obj)) (s:Shared) (σ:St) (H:Hp) (x:V) (v vl vu:Value) (lo hi:Option Int) (sl:Addr) (Q:VK),Inv X pins σ H s->RelV x v->s.heap.IsSliceOf sl vl vu .none->IsPart vl lo->IsPart vu hi->r x lo hi H Q->
  ∃T id,typeLookup (.type T) "__getitem__"=pure (some (.builtin id))/\s.TypeIs v T/\wpAny (model X.prog X.w) X.A (getItem v (.ref sl)) (EP X pins σ Q) X.xe s
theorem SlR.or{r r':V->Option Int->Option Int->Hp->VK->Prop}(h:SlR X r)(h':SlR X r'):SlR X (λx lo hi H Q=>r x lo hi H Q\/r' x lo hi H Q):=by
 intro pins s σ H x v vl vu lo hi sl Q I rx hs pl pu q
 rcases q with q|q
 ·exact h pins s σ H x v vl vu lo hi sl Q I rx hs pl pu q
 ·exact h' pins s σ H x v vl vu lo hi sl Q I rx hs pl pu q
noncomputable def tSl(r:V->Option Int->Option Int->Hp->VK->Prop)(te:TE)(tl th:TO):TE:=fun σ H Q=>te σ H λx H1=>tl σ H1 λl H2=>th σ H2 λu H3=>r x l u H3 Q
theorem G4{r:V->Option Int->Option Int->Hp->VK->Prop}(hr:SlR X r)(he:PE X e te)(hl:PO X lo tl)(hu:PO X hi th):PE X (.Subscript e (.Slice lo hi none p2) pos) (tSl r te tl th):=by
 intro pins s σ H Q I h
 refine Subscript_ (thn (he pins s σ H _ I h) λv s1 ⟨x,H1,I1,r1,q1⟩=> ?_)
 refine wpAny_Slice (thn (hl pins s1 σ H1 _ I1 q1) λvl s2 ⟨l,H2,I2,pl,q2⟩=>thn (hu pins s2 σ H2 _ I2 q2) λvu s3 ⟨u,H3,I3,pu,q3⟩=> ?_)
 rw[evalPart_none]
 refine pZ ?_
 have I4:Inv X pins σ H3 {s3 with heap:=s3.heap.push {cls:=.type "slice",data:=.fields #[vl,vu,.none]}}:=I3.kept (t':=s3.toks) λb ob q=>gZ _ q
 obtain⟨T,id,hT,ht,hg⟩:=hr pins {s3 with heap:=s3.heap.push {cls:=.type "slice",data:=.fields #[vl,vu,.none]}} σ H3 x v vl vu l u s3.heap.objs.size Q I4 r1 (Heap.IsSliceOf.new ..) pl pu q3
 show wpAny (model X.prog X.w) X.A (subscriptTail e (.Slice lo hi none p2) v (.ref s3.heap.objs.size)) (EP X pins σ Q) X.xe {s3 with heap:=s3.heap.push {cls:=.type "slice",data:=.fields #[vl,vu,.none]}}
 exact tail_any (ops:=[.ref s3.heap.objs.size,v]) ht hT hg (by with_unfolding_all rfl)
noncomputable def J9(xs:List V)(lo hi:Option Int):List V:=(xs.drop (HT.sIx xs.length 0 lo)).take (HT.sIx xs.length xs.length hi - HT.sIx xs.length 0 lo)
theorem Z2(xs:List V)(lo hi:Option Int):(J9 xs lo hi).length<=xs.length:=by
 unfold J9
 rw[length_take,length_drop]
 omega
inductive rSlT (K:FZ) (x:V) (lo:Option Int) (hi:Option Int) (H:Hp) (Q:VK):Prop
 |mk:∀a xs,(x=.ref a)->(SqT K H a xs)->(¬(HT.sIx xs.length 0 lo=0/\HT.sIx xs.length xs.length hi=xs.length))->(∀p,H p=none->Q (.ref p) (upd H p (.tup (J9 xs lo hi))))->rSlT K x lo hi H Q
theorem cLZ:SlR X (rSlT X.K):=by
 intro pins s σ H x v vl vu lo hi sl Q I rx hs pl pu h
 obtain⟨a,xs,rfl,hx,hw,q⟩:=h
 cases rx
 obtain⟨its,r,ht,hz⟩:=I.tuple hx
 have hlen:its.toArray.size=xs.length:=by rw[size_toArray];exact r.length.symm
 refine⟨"tuple",_,PyProof.Rows.slot_tuple_getitem.lookup,ht.typeIs, ?_⟩
 refine HT.getItem_tuple_cut ht hs pl pu (by rw[hlen];exact hw) ?_ (by rw[hlen];exact hz)
 rw[hlen]
 refine⟨.ref s.heap.objs.size,_,I.laid (t':=s.toks) (o:=.tup (J9 xs lo hi)) (λb ob q=>gZ _ q) (le_refl _) ?_,rfl,q _ (I.hok.fresh (le_refl _))⟩
 exact⟨le_trans (Z2 xs lo hi) hz,_,(r.drop (HT.sIx xs.length 0 lo)).take (HT.sIx xs.length xs.length hi - HT.sIx xs.length 0 lo),IsTup.new _ _⟩
noncomputable def RX(K:FZ):R2:=λx y H Q=>∃a b xs ys,x=.ref a/\y=.ref b/\SqT K H a xs/\SqT K H b ys/\xs≠ []/\xs.length+ys.length<=sizeLine/\
 (ys=[]->Q (.ref a) H)/\(ys≠ []->∀p,H p=none->Q (.ref p) (upd H p (.tup (xs++ys))))
theorem Vals.nil_iff{xs:List V}{us:List Value}(r:Vals xs us):us=[]↔xs=[]:=by
 cases r with
 |nil=>simp
 |cons _ _=>simp
theorem op_catT:OpR X (binaryOp .Add) (RX X.K):=by
 intro pins s σ H x y v u Q I rx ry h
 obtain⟨a,b,xs,ys,rfl,rfl,ha,hb,hx,hz,q1,q2⟩:=h
 cases rx
 cases ry
 obtain⟨its,r1,p1,_⟩:=I.tuple ha
 obtain⟨its2,r2,p2,_⟩:=I.tuple hb
 refine HT.cat_tup p1 p2 (λz=>hx (r1.nil_iff.mp z)) (λz=>⟨.ref a,H,I,rfl,q1 (r2.nil_iff.mp z)⟩) (λz=> ?_) (by rw[<-r1.length,<-r2.length];exact hz)
 refine⟨.ref s.heap.objs.size,_,I.laid (t':=s.toks) (o:=.tup (xs++ys)) (λb ob q=>gZ _ q) (le_refl _) ?_,rfl,q2 (λw=>z (r2.nil_iff.mpr w)) _ (I.hok.fresh (le_refl _))⟩
 exact⟨by rw[length_append];exact hz,_,r1.append r2,IsTup.new _ _⟩
end
noncomputable def ixN(n:Nat)(i:Int):Option Nat:=if 0<=i then(if i<n then some i.toNat else none)else if -(n:Int)<=i then some (i+n).toNat else none
noncomputable def atI{α:Type}(xs:List α)(i:Int):Option α:=(ixN xs.length i).bind λj=>xs[j]?
theorem SM{n:Nat}{i:Int}{j:Nat}(h:ixN n i=some j):seqIndex? i n=some j/\j<n/\ -(n:Int)<=i/\i<n:=by
 unfold ixN at h
 by_cases h0:0<=i
 ·rw[if_pos h0]at h
  by_cases h1:i<n
  ·rw[if_pos h1]at h
   have e:i.toNat=j:=Option.some.inj h
   exact⟨by rw[seqIndex_of h0 h1,e],by omega,by omega,h1⟩
  ·rw[if_neg h1]at h;cases h
 ·rw[if_neg h0]at h
  by_cases h1: -(n:Int)<=i
  ·rw[if_pos h1]at h
   have e:(i+n).toNat=j:=Option.some.inj h
   exact⟨by rw[seqIndex_neg (by omega) h1,e],by omega,h1,by omega⟩
  ·rw[if_neg h1]at h;cases h
theorem KG{α:Type}{xs:List α}{i:Int}{v:α}(h:atI xs i=some v):∃j,seqIndex? i xs.length=some j/\xs[j]? =some v/\j<xs.length/\ -(xs.length:Int)<=i/\i<xs.length:=by
 unfold atI at h
 cases e:ixN xs.length i with
 |none=>rw[e]at h;cases h
 |some j=>
  rw[e]at h
  obtain⟨h1,h2,h3,h4⟩:=SM e
  exact⟨j,h1,h,h2,h3,h4⟩
theorem D3{α:Type}{xs:List α}{j:Nat}{v:α}(h:xs[j]? =some v):atI xs (j:Int)=some v:=by
 have hj:j<xs.length:=(List.getElem?_eq_some_iff.mp h).1
 have e:ixN xs.length (j:Int)=some j:=by
  unfold ixN
  rw[if_pos (by omega),if_pos (by omega)];simp
 unfold atI;rw[e];exact h
theorem M9{α:Type}(xs:List α)(v:α):atI (xs++ [v]) (-1)=some v:=by
 have hl:(xs++ [v]).length=xs.length+1:=by simp
 have e:ixN (xs++ [v]).length (-1)=some xs.length:=by
  unfold ixN
  rw[hl,if_neg (by decide),if_pos (by omega)]
  congr 1
  omega
 unfold atI
 rw[e]
 show(xs++ [v])[xs.length]? =some v
 simp
noncomputable def RV(b:Expr):Prop:=∀o i,subscripted b false o i=operate [o,i] (getItem o i)
noncomputable def IxR(X:Cx)(r:R2):Prop:=
 ∀(value slice:Expr) (pins:List (Addr×Obj)) (s:Shared) (σ:St) (H:Hp) (x y:V) (v u:Value) (Q:VK),Inv X pins σ H s->RelV x v->RelV y u->r x y H Q->
  subscripted slice false v u=operate [v,u] (getItem v u)->wpAny (model X.prog X.w) X.A (subscriptTail value slice v u) (EP X pins σ Q) X.xe s
noncomputable def MtR(X:Cx)(id:String)(r:V->List V->Hp->VK->Prop):Prop:=
 ∀(pins:List (Addr×Obj)) (s:Shared) (σ:St) (H:Hp) (x:V) (xs:List V) (v:Value) (us:List Value) (Q:VK),Inv X pins σ H s->RelV x v->Vals xs us->r x xs H Q->
  wpAny (model X.prog X.w) X.A (call (.builtin id) (v::us)) (EP X pins σ Q) X.xe s
section
variable{X:Cx}{a b:Expr}{ta tb:TE}{pos:Pos}
theorem IxR.or{r r':R2}(h:IxR X r)(h':IxR X r'):IxR X (λx y H Q=>r x y H Q\/r' x y H Q):=by
 intro value slice pins s σ H x y v u Q I rx ry q hs
 rcases q with q|q
 ·exact h value slice pins s σ H x y v u Q I rx ry q hs
 ·exact h' value slice pins s σ H x y v u Q I rx ry q hs
theorem FW{r:R2}(hr:IxR X r)(ha:PE X a ta)(hb:PE X b tb)(hs:RV b):PE X (.Subscript a b pos) (tOp r ta tb):=by
 intro pins s σ H Q I h
 exact Subscript_ (cfZ ha hb I h λv u s2 x y H2 I2 rx ry q=>hr a b pins s2 σ H2 x y v u Q I2 rx ry q (hs _ _))
inductive rIxL (K:FZ) (x:V) (y:V) (H:Hp) (Q:VK):Prop
 |mk:∀p xs i v,(x=.ref p)->(y=.int i)->(SqL K H p xs)->(atI xs i=some v)->(Q v H)->rIxL K x y H Q
inductive rIxT (K:FZ) (x:V) (y:V) (H:Hp) (Q:VK):Prop
 |mk:∀p xs i v,(x=.ref p)->(y=.int i)->(SqT K H p xs)->(atI xs i=some v)->(Q v H)->rIxT K x y H Q
inductive rIxS (x:V) (y:V) (H:Hp) (Q:VK):Prop
 |mk:∀z i c,(x=.str z)->(y=.int i)->(z.length<=sizeLine)->(atI z.cps.toList i=some c)->(Q (.str ⟨#[c]⟩) H)->rIxS x y H Q
theorem ix_list:IxR X (rIxL X.K):=by
 intro value slice pins s σ H x y v u Q I rx ry h hs
 obtain⟨p,xs,i,z,rfl,rfl,hq,he,q⟩:=h
 cases rx
 obtain⟨t,rfl⟩:=ry
 obtain⟨its,r,pl,hz⟩:=I.list hq
 obtain⟨j,h1,h2,h3,h4,h5⟩:=KG he
 obtain⟨w,ew,rw'⟩:=r.get h2
 have hl:=r.length
 have hn:=DC
 have fin:EP X pins σ Q w s:=⟨z,H,I,rw',q⟩
 by_cases h0:0<=i
 ·have hj:i.toNat=j:=by
   rw[seqIndex_of h0 h5]at h1
   exact Option.some.inj h1
  exact item_listR pl.isList h0 (by omega) (by rw[hj];simpa using ew) fin hs
 ·have hj:(i+(its.toArray.size:Int)).toNat=j:=by
   rw[seqIndex_neg (by omega) h4]at h1
   rw[size_toArray,<-hl]
   exact Option.some.inj h1
  exact subscriptTail_builtinR (x:=w) pl.isList.typeIs slot_list_getitem.lookup
   (wpAny_getItem_list_neg (Q:=λr s'=>r=w/\EP X pins σ Q r s') pl.isList (by omega) (by rw[size_toArray]<;>omega) (by omega) (by rw[hj];simpa using ew) ⟨rfl,fin⟩) hs
theorem ix_tup:IxR X (rIxT X.K):=by
 intro value slice pins s σ H x y v u Q I rx ry h hs
 obtain⟨p,xs,i,z,rfl,rfl,hq,he,q⟩:=h
 cases rx
 obtain⟨t,rfl⟩:=ry
 obtain⟨its,r,pl,hz⟩:=I.tuple hq
 obtain⟨j,h1,h2,h3,h4,h5⟩:=KG he
 obtain⟨w,ew,rw'⟩:=r.get h2
 have hl:=r.length
 have hn:=DC
 have fin:EP X pins σ Q w s:=⟨z,H,I,rw',q⟩
 exact subscriptTail_builtinR (x:=w) pl.typeIs slot_tuple_getitem.lookup
  (getItem_tuple (j:=j) (Q:=λr s'=>r=w/\EP X pins σ Q r s') pl (by omega) (by omega) (by rw[size_toArray,<-hl];exact h1) (by simpa using ew) ⟨rfl,fin⟩) hs
theorem ix_str:IxR X rIxS:=by
 intro value slice pins s σ H x y v u Q I rx ry h hs
 obtain⟨z,i,c,rfl,rfl,hz,he,q⟩:=h
 obtain⟨t,rfl⟩:=rx
 obtain⟨t',rfl⟩:=ry
 obtain⟨j,h1,h2,h3,h4,h5⟩:=KG he
 have hl:z.cps.toList.length=z.length:=by simp[Str.length]
 rw[hl]at h1 h4 h5
 have hn:=DC
 exact tail_any (typeIs_str s z t) slot_str_getitem.lookup (getItem_str (c:=c) (by
  have e1:decide (i< -(2^63:Int))=false:=decide_eq_false (by omega)
  have e2:decide (i≥2^63)=false:=decide_eq_false (by omega)
  rw[e1,e2,Bool.or_false]) (by rw[h1];simpa using h2) ⟨.str ⟨#[c]⟩,H,I.tok _,⟨_,rfl⟩,q⟩) hs
theorem QP(its:List Value)(n j:Nat)(u:Value):Obj.mapSeq (·.setIfInBounds j u) {cls:=.type "list",data:=.seq its.toArray n}={cls:=.type "list",data:=.seq (its.set j u).toArray n}:=by
 simp[Obj.mapSeq]
theorem Inv.lst{pins:List (Addr×Obj)}{σ:St}{H:Hp}{s:Shared}{p:Addr}{xs:List V}(I:Inv X pins σ H s)(h:H p=some (.lst xs)):
  ∃(its:List Value) (n:Nat),Vals xs its/\s.heap.get? p=some {cls:=.type "list",data:=.seq its.toArray n}/\xs.length<=sizeLine:=by
 obtain⟨z,its,n,r,e⟩:=I.hok p _ h
 exact⟨its,n,r,e,z⟩
theorem Inv.lstUpd{pins:List (Addr×Obj)}{σ:St}{H:Hp}{s:Shared}{p:Addr}{xs ys:List V}{its its':List Value}{n n':Nat}{f:Obj->Obj}(I:Inv X pins σ H s)(h:H p=some (.lst xs))
  (ho:s.heap.get? p=some {cls:=.type "list",data:=.seq its.toArray n})(hf:f {cls:=.type "list",data:=.seq its.toArray n}={cls:=.type "list",data:=.seq its'.toArray n'})(r:Vals ys its')(hz:ys.length<=sizeLine)(t:Nat):
  Inv X pins σ (upd H p (.lst ys)) {s with heap:=s.heap.update p f,toks:=t}:=by
 have e:(s.heap.update p f).get? p=some {cls:=.type "list",data:=.seq its'.toArray n'}:=by
  rw[get?_update_self f ho (by rw[hf]<;>rfl),hf]
 refine I.write (x:=p) (e:=p) (by rw[h];trivial) (.inl rfl) (λb u hb q=>(get?_update_other _ _ (Ne.symm hb)).trans q) ⟨_,e⟩ ?_
 exact⟨hz,its',n',r,e⟩
inductive rSetL (o:V) (i:V) (v:V) (H:Hp) (Q:Hp->Prop):Prop
 |mk:∀p xs k j,(o=.ref p)->(i=.int k)->(H p=some (.lst xs))->(ixN xs.length k=some j)->(Q (upd H p (.lst (xs.set j v))))->rSetL o i v H Q
theorem T2:cTZ X rSetL:=by
 intro pins s σ H o i v ov iv u Q I ro ri rv h
 obtain⟨p,xs,k,j,rfl,rfl,hp,hj,q⟩:=h
 cases ro
 obtain⟨t,rfl⟩:=ri
 obtain⟨its,n,r,ho,hz⟩:=I.lst hp
 obtain⟨h1,h2,h3,h4⟩:=SM hj
 have hl:=r.length
 have hn:=DC
 have I':Inv X pins σ (upd H p (.lst (xs.set j v))) {s with heap:=s.heap.update p (Obj.mapSeq (·.setIfInBounds j u))}:=
  I.lstUpd hp ho (QP its n j u) (r.set rv j) (by rw[List.length_set];exact hz) s.toks
 by_cases h0:0<=k
 ·have hk:k.toNat=j:=by
   rw[seqIndex_of h0 h4]at h1
   exact Option.some.inj h1
  exact PySem.W.ki_setAt ho h0 (by omega) (by rw[size_toArray,<-hl];exact h4) (by rw[hk];exact⟨_,I',q⟩)
 ·have hk:(k+(its.toArray.size:Int)).toNat=j:=by
   rw[seqIndex_neg (by omega) h3]at h1
   rw[size_toArray,<-hl]
   exact Option.some.inj h1
  exact PySem.W.ki_setBack ho (by omega) (by rw[size_toArray,<-hl];exact h3) (by omega) (by rw[hk];exact⟨_,I',q⟩)
theorem LK(lo hi:Option Int)(n:Nat):(sliceBounds lo hi none n).1=((HT.sIx n 0 lo:Nat):Int)/\(sliceBounds lo hi none n).2.1=((HT.sIx n n hi:Nat):Int)/\(sliceBounds lo hi none n).2.2=1:=by
 refine⟨?_, ?_,rfl⟩
 ·cases lo with
  |none=>simp[sliceBounds,HT.sIx]
  |some i=>
   simp only[sliceBounds,HT.sIx,Option.getD_none,show(1:Int)>0 by decide,if_true]
   by_cases h:i<0
   ·simp only[h,if_true]<;>omega
   ·simp only[h,if_false]<;>omega
 ·cases hi with
  |none=>simp[sliceBounds,HT.sIx]
  |some i=>
   simp only[sliceBounds,HT.sIx,Option.getD_none,show(1:Int)>0 by decide,if_true]
   by_cases h:i<0
   ·simp only[h,if_true]<;>omega
   ·simp only[h,if_false]<;>omega
theorem HL(its:List Value)(lo hi:Option Int):slicePick its.toArray lo hi none=((its.drop (HT.sIx its.length 0 lo)).take (HT.sIx its.length its.length hi - HT.sIx its.length 0 lo)).toArray:=by
 obtain⟨h1,h2,h3⟩:=LK lo hi its.toArray.size
 unfold slicePick
 rw[h1,h2,h3]
 simp only[sliceRange_one,pick_run,size_toArray]<;>rfl
inductive rSlL (K:FZ) (x:V) (lo:Option Int) (hi:Option Int) (H:Hp) (Q:VK):Prop
 |mk:∀a xs,(x=.ref a)->(SqL K H a xs)->(∀p,H p=none->Q (.ref p) (upd H p (.lst (J9 xs lo hi))))->rSlL K x lo hi H Q
theorem sl_list:SlR X (rSlL X.K):=by
 intro pins s σ H x v vl vu lo hi sl Q I rx hs pl pu h
 obtain⟨a,xs,rfl,hx,q⟩:=h
 cases rx
 obtain⟨its,r,ht,hz⟩:=I.list hx
 have hlen:=r.length
 refine⟨"list",_,slot_list_getitem.lookup,ht.isList.typeIs, ?_⟩
 refine wpAny_getItem_list_slice ht.isList hs pl pu .none (by simp) ?_ (by rw[size_toArray]<;>omega)
 rw[HL,<-hlen]
 refine⟨.ref s.heap.objs.size,_,I.laid (t':=s.toks) (o:=.lst (J9 xs lo hi)) (λb ob q=>gZ _ q) (le_refl _) ?_,rfl,q _ (I.hok.fresh (le_refl _))⟩
 exact⟨le_trans (Z2 xs lo hi) hz,_,0,(r.drop (HT.sIx xs.length 0 lo)).take (HT.sIx xs.length xs.length hi - HT.sIx xs.length 0 lo),get?_push_size _ rfl⟩
noncomputable def T7:V->Bool
 | .non=>true
 | .bl _=>true
 | .int _=>true
 | .str _=>true
 |_=>false
noncomputable def eqV:V->V->Bool
 | .non,.non=>true
 | .bl a,.bl b=>a==b
 | .bl a,.int b=>(if a then 1 else 0)==b
 | .int a,.bl b=>a==(if b then 1 else 0)
 | .int a,.int b=>a==b
 | .str a,.str b=>a==b
 |_,_=>false
theorem XB{A:Around}{s:Shared}{y x:V}{u v:Value}(ry:RelV y u)(rx:RelV x v)(fy:T7 y=true)(fx:T7 x=true):SeqAt.EqAt A s u v (eqV y x):=by
 cases y with
 |non=>
  cases ry
  cases x with
  |non=>cases rx;exact SeqAt.EqAt.same _
  |bl b=>cases rx;exact SeqAt.EqAt.none_bool b
  |int b=>obtain⟨t,rfl⟩:=rx;exact SeqAt.EqAt.none_int b t
  |str b=>obtain⟨t,rfl⟩:=rx;exact SeqAt.EqAt.none_str b t
  |_=>exact absurd (show false=true from fx) nZ
 |bl a=>
  cases ry
  cases x with
  |non=>cases rx;exact SeqAt.EqAt.bool_none a
  |bl b=>cases rx;exact SeqAt.EqAt.bool_bool a b
  |int b=>obtain⟨t,rfl⟩:=rx;exact SeqAt.EqAt.bool_int a b t
  |str b=>obtain⟨t,rfl⟩:=rx;exact SeqAt.EqAt.bool_str a b t
  |_=>exact absurd (show false=true from fx) nZ
 |int a=>
  obtain⟨t',rfl⟩:=ry
  cases x with
  |non=>cases rx;exact SeqAt.EqAt.int_none a t'
  |bl b=>cases rx;exact SeqAt.EqAt.int_bool a t' b
  |int b=>obtain⟨t,rfl⟩:=rx;exact SeqAt.EqAt.int_int a t' b t
  |str b=>obtain⟨t,rfl⟩:=rx;exact SeqAt.EqAt.int_str a t' b t
  |_=>exact absurd (show false=true from fx) nZ
 |str a=>
  obtain⟨t',rfl⟩:=ry
  cases x with
  |non=>cases rx;exact SeqAt.EqAt.str_none a t'
  |bl b=>cases rx;exact SeqAt.EqAt.str_bool a t' b
  |int b=>obtain⟨t,rfl⟩:=rx;exact SeqAt.EqAt.str_int a t' b t
  |str b=>obtain⟨t,rfl⟩:=rx;exact SeqAt.EqAt.str_str a t' b t
  |_=>exact absurd (show false=true from fx) nZ
 |_=>exact absurd (show false=true from fy) nZ
noncomputable def eqU(x:V)(u:Value):Bool:=match u with
 | .none=>eqV .non x
 | .bool b=>eqV (.bl b) x
 | .int i _=>eqV (.int i) x
 | .str z _=>eqV (.str z) x
 |_=>false
theorem ZH{x y:V}{u:Value}(r:RelV y u)(f:T7 y=true):eqU x u=eqV y x:=by
 cases y with
 |non=>cases r;rfl
 |bl b=>cases r;rfl
 |int i=>obtain⟨t,rfl⟩:=r;rfl
 |str z=>obtain⟨t,rfl⟩:=r;rfl
 |_=>exact absurd (show false=true from f) nZ
theorem LB{x:V}:∀ {xs:List V} {us:List Value},Vals xs us->xs.all T7=true->us.any (eqU x)=xs.any λy=>eqV y x
 |_,_,.nil,_=>rfl
 |y::xs,u::us,.cons r t,f=>by
  rw[List.all_cons,Bool.and_eq_true]at f
  rw[any_cons,any_cons,ZH r f.1,LB t f.2]
theorem FU{A:Around}{s:Shared}{x:V}{v:Value}(rx:RelV x v)(fx:T7 x=true):∀ {xs:List V} {us:List Value},Vals xs us->xs.all T7=true->∀u∈us,SeqAt.EqAt A s u v (eqU x u)
 |_,_,.nil,_=>λu hu=>by cases hu
 |y::xs,u::us,.cons r t,f=>λu' hu=>by
  rw[List.all_cons,Bool.and_eq_true]at f
  rcases cZ hu with rfl|hu
  ·rw[ZH r f.1];exact XB r rx f.1 fx
  ·exact FU rx fx t f.2 u' hu
noncomputable def inV(x:V)(xs:List V):Bool:=xs.any λy=>eqV y x
inductive rIn (K:FZ) (neg:Bool) (x:V) (y:V) (H:Hp) (Q:VK):Prop
 |mk:∀p xs,(y=.ref p)->((SqL K H p xs\/SqT K H p xs))->(T7 x=true)->(xs.all T7=true)->(Q (.bl (if neg then !inV x xs else inV x xs)) H)->rIn K neg x y H Q
theorem op_in_seq:OpR X (compareOp .In) (rIn X.K false):=by
 intro pins s σ H x y v u Q I rx ry h
 obtain⟨p,xs,rfl,hq,fx,fs,q⟩:=h
 cases ry
 rcases hq with hq|hq
 ·obtain⟨its,r,pl,hz⟩:=I.list hq
  refine SeqAt.in_listAt (eqU x) pl.isList (λw hw=>FU rx fx r fs w (by simpa using hw)) ⟨.bl _,H,I,rfl, ?_⟩
  rw[show its.toArray.any (eqU x)=its.any (eqU x) by simp,LB r fs]
  exact q
 ·obtain⟨its,r,pl,hz⟩:=I.tuple hq
  refine SeqAt.in_tupleAt (eqU x) pl (λw hw=>FU rx fx r fs w (by simpa using hw)) ⟨.bl _,H,I,rfl, ?_⟩
  rw[show its.toArray.any (eqU x)=its.any (eqU x) by simp,LB r fs]
  exact q
theorem CallR.or{f:Value}{r r':List V->Hp->VK->Prop}(h:CallR X f r)(h':CallR X f r'):CallR X f (λxs H Q=>r xs H Q\/r' xs H Q):=by
 intro pins s σ H xs us Q I rs q
 rcases q with q|q
 ·exact h pins s σ H xs us Q I rs q
 ·exact h' pins s σ H xs us Q I rs q
theorem LJ:CallR X (.type "list") (λxs H Q=>∃p ys,xs=[.ref p]/\(SqL X.K H p ys\/SqT X.K H p ys)/\∀l,H l=none->Q (.ref l) (upd H l (.lst ys))):=by
 intro pins s σ H xs us Q I r h
 obtain⟨p,ys,rfl,hq,q⟩:=h
 obtain⟨u,rfl,rx⟩:=AK r
 cases rx
 have fin:∀(its:List Value),Vals ys its->ys.length<=sizeLine->∀(h':Heap) (c':Nat),(∀b o',s.heap.get? b=some o'->h'.get? b=some o')->
   h'.get? s.heap.objs.size=some {cls:=.type "list",dict:=none,data:=.seq its.toArray c',slots:= #[]}->EP X pins σ Q (.ref s.heap.objs.size) {s with heap:=h'}:=λits r' hz h' c' kp e=>
  ⟨.ref s.heap.objs.size,_,I.laid (t':=s.toks) kp (le_refl _) (show ObjOk X.prog X.w _ h' _ (.lst ys)from⟨hz,its,c',r',e⟩),rfl,q _ (I.hok.fresh (le_refl _))⟩
 rcases hq with hq|hq
 ·obtain⟨its,r',pl,hz⟩:=I.list hq
  have hlen:=r'.length
  obtain⟨o,ho,hc,n,hd⟩:=pl.isList
  exact call_list_seq p (.inl rfl) ho hc hd (λh' c' kp e=>fin its r' hz h' c' kp e) (by simp only[size_toArray]<;>omega)
 ·obtain⟨its,r',pl,hz⟩:=I.tuple hq
  have hlen:=r'.length
  obtain⟨o,ho,hc,n,hd⟩:=pl
  exact call_list_seq p (.inr rfl) ho hc hd (λh' c' kp e=>fin its r' hz h' c' kp e) (by simp only[size_toArray]<;>omega)
theorem HR:CallR X (.type "tuple") (λxs H Q=>∃p ys,xs=[.ref p]/\((SqL X.K H p ys/\∀l,H l=none->Q (.ref l) (upd H l (.tup ys)))\/(SqT X.K H p ys/\Q (.ref p) H))):=by
 intro pins s σ H xs us Q I r h
 obtain⟨p,ys,rfl,h⟩:=h
 obtain⟨u,rfl,rx⟩:=AK r
 cases rx
 rcases h with⟨hq,q⟩|⟨hq,q⟩
 ·obtain⟨its,r',pl,hz⟩:=I.list hq
  have hlen:=r'.length
  refine call_tuple_list pl.isList (λh' kp=> ?_) (by simp only[size_toArray]<;>omega)
  have I1:Inv X pins σ H {s with heap:=h'}:=I.kept (t':=s.toks) kp
  have I2:Inv X pins σ (upd H h'.objs.size (.tup ys)) {s with heap:=h'.push {cls:=.type "tuple",data:=.seq its.toArray}}:=
   I1.laid (t':=s.toks) (λb o e=>gZ _ e) (le_refl _) (show ObjOk X.prog X.w _ _ _ (.tup ys)from⟨hz,its,r',IsTup.new _ _⟩)
  exact⟨.ref h'.objs.size,_,I2,rfl,q _ (I1.hok.fresh (le_refl _))⟩
 ·obtain⟨its,r',pl,hz⟩:=I.tuple hq
  exact call_tuple_same pl ⟨.ref p,H,I,rfl,q⟩
noncomputable def tyV(K:FZ)(T:String)(x:V)(H:Hp):Prop:=match x with
 | .str _=>T="str"
 | .int _=>T="int"
 | .ref p=>(T="list"/\∃xs,SqL K H p xs)\/(T="tuple"/\∃o,K.lookup p=some o/\o.cls=.type "tuple"/\o.dict=none)\/
   (T="dict"/\((∃kvs,H p=some (.dK kvs))\/∃kvs,H p=some (.dT kvs)))\/(T="set"/\∃S n,H p=some (.set S n))
 |_=>False
theorem XU{pins:List (Addr×Obj)}{σ:St}{H:Hp}{s:Shared}{T:String}{x:V}{v:Value}(I:Inv X pins σ H s)(r:RelV x v)(ty:tyV X.K T x H):
  s.TypeIs v T/\∀a,v=.ref a->∃ob,s.heap.get? a=some ob/\ob.dict=none:=by
 cases x with
 |str z=>
  obtain⟨t,rfl⟩:=r
  cases(show T="str"from ty)
  exact⟨typeIs_str s z t,λ_ e=>nomatch e⟩
 |int i=>
  obtain⟨t,rfl⟩:=r
  cases(show T="int"from ty)
  exact⟨typeIs_int s i t,λ_ e=>nomatch e⟩
 |ref p=>
  cases r
  rcases ty with⟨rfl,xs,hq⟩|⟨rfl,o,hk,hc,hd⟩|⟨rfl,hk⟩|⟨rfl,S,n,hk⟩
  ·obtain⟨its,_,pl,_⟩:=I.list hq
   refine⟨pl.isList.typeIs,λa e=> ?_⟩
   cases e
   obtain⟨o,n,e,c,hd,_⟩:=pl
   exact⟨o,e,hd⟩
  ·refine⟨⟨o,I.kIn p o hk,hc⟩,λa e=> ?_⟩
   cases e
   exact⟨o,I.kIn _ o hk,hd⟩
  ·have z:∃o,s.heap.get? p=some o/\o.ExactDict:=by
    rcases hk with⟨kvs,hk⟩|⟨kvs,hk⟩
    ·obtain⟨_,_,_,_,o,_,_,e,ex,_⟩:=I.hok p _ hk
     exact⟨o,e,ex⟩
    ·obtain⟨_,_,_,_,o,_,_,e,ex,_⟩:=I.hok p _ hk
     exact⟨o,e,ex⟩
   obtain⟨o,e,ex⟩:=z
   refine⟨⟨o,e,ex.1⟩,λa e2=> ?_⟩
   cases e2
   exact⟨o,e,ex.2.1⟩
  ·obtain⟨o,_,_,_,e,ex,_⟩:=I.hok p _ hk
   refine⟨⟨o,e,ex.1⟩,λa e2=> ?_⟩
   cases e2
   exact⟨o,e,ex.2.1⟩
 |_=>exact False.elim ty
noncomputable def dNZ(K:FZ)(T:String)(r:V->List V->Hp->VK->Prop)(to:TE):TE:=fun σ H Q=>to σ H λx H1=>tyV K T x H1/\r x [] H1 Q
noncomputable def tBM(K:FZ)(T:String)(r:V->List V->Hp->VK->Prop)(to:TE)(t:TA):TE:=fun σ H Q=>to σ H λx H1=>tyV K T x H1/\t σ H1 λxs H2=>r x xs H2 Q
variable{o e:Expr}{es:List Expr}{to:TE}{t:TA}{name:Str}{apos cpos:Pos}{T id:String}{r:V->List V->Hp->VK->Prop}
theorem bXZ(pa:PlainAttrs T)(slot:Slot T name id)(hty:typeOf (.builtin id)=pure (.type "method_descriptor"))(hm:MtR X id r)(ho:PE X o to)
  (hbase:attributeBase o name X.env (eval o X.env)=eval o X.env:=by rfl)(hline:(apos.endLine==cpos.line)=true:=by rfl):PE X (.Call (.Attribute o name apos) [] [] cpos) (dNZ X.K T r to):=by
 intro pins s σ H Q I h
 refine wpAny_Call_method0_late hbase hline (thn (ho pins s σ H _ I h) λv s1 ⟨x,H1,I1,r1,ty,q1⟩=> ?_)
 obtain⟨h1,h2⟩:=XU I1 r1 ty
 exact⟨T,id,pa,slot,hty,h1,h2,Calls.callWith_builtin rfl (PySem.evalArgs_none (hm pins s1 σ H1 x [] v [] Q I1 r1 .nil q1))⟩
theorem dpZ(pa:PlainAttrs T)(slot:Slot T name id)(hty:typeOf (.builtin id)=pure (.type "method_descriptor"))(hm:MtR X id r)(ho:PE X o to)(ha:PA X (e::es) t)
  (hbase:attributeBase o name X.env (eval o X.env)=eval o X.env:=by rfl)
  (hfew:((backTo cpos (starEach (e::es) X.env)).all (λx=> !x.1)&&(backToKw cpos (keywordEach [] X.env)).all (λx=>x.1.isSome)
   &&decide ((e::es).length+([]:List Keyword).length+(if([]:List Keyword).isEmpty then 0 else 1)<30))=true:=by rfl)
  (hline:(apos.endLine==cpos.line)=true:=by rfl)(hs:starEach (e::es) X.env=(false,eval e X.env)::starEach es X.env:=by rfl)(hplain:(backTo cpos (starEach es X.env)).any (·.1)=false:=by rfl):
  PE X (.Call (.Attribute o name apos) (e::es) [] cpos) (tBM X.K T r to t):=by
 intro pins s σ H Q I h
 refine wpAny_Call_method_late hbase hfew hline rfl (thn (ho pins s σ H _ I h) λv s1 ⟨x,H1,I1,r1,ty,q1⟩=> ?_)
 obtain⟨h1,h2⟩:=XU I1 r1 ty
 refine⟨T,id,pa,slot,hty,h1,h2, ?_⟩
 have hA:=ha cpos pins s1 σ H1 _ I1 q1
 rw[hs]at hA⊢
 refine Calls.callWith_builtin (by show(false||(backTo cpos (starEach es X.env)).any (·.1))=false;rw[hplain]<;>rfl) (Calls.evalArgs_plain ?_)
 exact thn hA λus s2 ⟨vs,H2,I2,r2,q2⟩=>hm pins s2 σ H2 x vs v us Q I2 r1 r2 q2
end
noncomputable def MtM(X:Cx)(id:String)(r:V->List V->Hp->VK->Prop):Prop:=
 ∀(pins:List (Addr×Obj)) (s:Shared) (σ:St) (H:Hp) (x:V) (xs:List V) (v:Value) (us:List Value) (Q:VK),Inv X pins σ H s->RelV x v->Vals xs us->r x xs H Q->
  wpAny (model X.prog X.w) X.A (call (.builtin id) (v::us)) (EP X pins σ Q) X.xe s
theorem Vals.one:∀ {x:V} {us:List Value},Vals [x] us->∃u,us=[u]/\RelV x u
 |_,_,.cons r .nil=>⟨_,rfl,r⟩
theorem Vals.zero:∀ {us:List Value},Vals [] us->us=[]
 |_,.nil=>rfl
theorem Vals.dropLast{xs:List V}{us:List Value}(h:Vals xs us):Vals xs.dropLast us.dropLast:=by
 induction h with
 |nil=>exact .nil
 |cons r t ih=>
  cases t with
  |nil=>exact .nil
  |cons q t'=>exact .cons r ih
theorem Vals.rep{xs:List V}{us:List Value}(h:Vals xs us):∀k:Nat,Vals (List.replicate k xs).flatten (List.replicate k us).flatten
 |0=> .nil
 |k+1=>by
  rw[replicate_succ,replicate_succ,flatten_cons,flatten_cons]
  exact Vals.append h (Vals.rep h k)
theorem RE{α:Type}(l:List α):l.eraseIdx (l.length - 1)=l.dropLast:=by
 induction l with
 |nil=>rfl
 |cons a r ih=>
  cases r with
  |nil=>rfl
  |cons b r=>
   have e:(a::b::r).length - 1=((b::r).length - 1)+1:=by
    have h1:(a::b::r).length=r.length+2:=rfl
    have h2:(b::r).length=r.length+1:=rfl
    omega
   rw[e,List.eraseIdx_cons_succ,ih]
   all_goals rfl
theorem foldl_rep(its:List Value):∀(k:Nat) (acc:List Value),
  List.foldl (λx1 x2=>x1++x2) acc.toArray (List.replicate k its.toArray)=(acc++(List.replicate k its).flatten).toArray
 |0,acc=>by simp
 |k+1,acc=>by
  have e:acc.toArray++its.toArray=(acc++its).toArray:=by simp
  have e2:(acc++its)++(List.replicate k its).flatten=acc++(List.replicate (k+1) its).flatten:=by
   rw[replicate_succ,flatten_cons,List.append_assoc]
  rw[<-e2,<-foldl_rep its k (acc++its),<-e,replicate_succ,List.foldl_cons]
section
variable{X:Cx}{pins:List (Addr×Obj)}{σ:St}{H:Hp}{s:Shared}{l b:Addr}{xs ys zs:List V}
theorem Inv.lset{its its':List Value}{n:Nat}{f:Array Value->Array Value}{t':Nat}(I:Inv X pins σ H s)(hH:H l=some (.lst xs))
  (e:s.heap.get? l=some {cls:=.type "list",data:=.seq its.toArray n})(hf:f its.toArray=its'.toArray)(hv:Vals ys its')(hz:ys.length<=sizeLine):
  Inv X pins σ (upd H l (.lst ys)) {s with heap:=s.heap.update l (Obj.mapSeq f),toks:=t'}:=by
 have q:=PySem.IsL.update e f
 rw[hf]at q
 refine I.write (x:=l) (e:=l) (by rw[hH];exact trivial) (.inl rfl) (λb' u hb hu=>(get?_update_other s.heap (Obj.mapSeq f) (Ne.symm hb)).trans hu) ⟨_,q⟩ ?_
 exact⟨hz,its',_,hv,q⟩
theorem Inv.lnew{its:List Value}{t':Nat}(I:Inv X pins σ H s)(hv:Vals ys its)(hz:ys.length<=sizeLine):
  Inv X pins σ (upd H s.heap.objs.size (.lst ys)) {s with heap:=s.heap.push {cls:=.type "list",data:=.seq its.toArray},toks:=t'}:=
 I.laid (λ_ _ q=>gZ _ q) (le_refl _) ⟨hz,its,0,hv,get?_push_size _ rfl⟩
theorem Inv.fresh(I:Inv X pins σ H s):H s.heap.objs.size=none:=I.hok.fresh (le_refl _)
theorem Inv.lstM(I:Inv X pins σ H s)(hH:H l=some (.lst xs)):xs.length<=sizeLine/\∃(its:List Value) (n:Nat),Vals xs its/\xs.length=its.length/\s.heap.get? l=some {cls:=.type "list",data:=.seq its.toArray n}:=by
 obtain⟨z,its,n,r,e⟩:=I.hok l _ hH
 exact⟨z,its,n,r,r.length,e⟩
theorem GB{n:Nat}(h:n<=sizeLine):Builtin.List.listTooLong n=false:=by
 unfold Builtin.List.listTooLong
 exact decide_eq_false (by omega)
inductive rAppend(x:V)(vs:List V)(H:Hp)(Q:VK):Prop
 |mk:∀l xs y,(x=.ref l)->(vs=[y])->(H l=some (.lst xs))->(xs.length<sizeLine)->(Q .non (upd H l (.lst (xs++ [y]))))->rAppend x vs H Q
theorem C8:MtM X "list.append" rAppend:=by
 intro pins s σ H x vs v us Q I rx rv h
 obtain⟨l,xs,y,rfl,rfl,hH,hz,q⟩:=h
 cases rx
 obtain⟨u,rfl,ru⟩:=rv.one
 obtain⟨z,its,n,r,hl,e⟩:=I.lstM hH
 refine call_meets F.slot_list_append ⟨_,e,rfl⟩ F.entry_list_append (F.args_list_append_2 _ _) (PySem.list_append l its.toArray n u (by rw[size_toArray];omega)) ⟨e, ?_⟩
 refine⟨.non,_,I.lset (its':=its++ [u]) hH e (by simp) (r.append (.cons ru .nil)) ?_,rfl,q⟩
 rw[length_append,length_singleton]
 omega
noncomputable def aYZ:V->List V->Hp->VK->Prop:=λx vs H Q=>∃l b xs zs,x=.ref l/\vs=[.ref b]/\H l=some (.lst xs)/\H b=some (.lst zs)/\xs.length+zs.length<=sizeLine/\Q .non (upd H l (.lst (xs++zs)))
theorem UT:MtM X "list.extend" aYZ:=by
 intro pins s σ H x vs v us Q I rx rv h
 obtain⟨l,b,xs,zs,rfl,rfl,hH,hB,hz,q⟩:=h
 cases rx
 obtain⟨u,rfl,ru⟩:=rv.one
 cases ru
 obtain⟨z,its,n,r,hl,e⟩:=I.lstM hH
 obtain⟨z2,its2,n2,r2,hl2,e2⟩:=I.lstM hB
 have hsz:its.toArray.size+its2.toArray.size<=sizeLine:=by rw[size_toArray,size_toArray];omega
 have hlong:¬(!its.toArray.isEmpty&&Builtin.List.listTooLong (its.toArray.size+its2.toArray.size))=true:=by
  rw[GB hsz,Bool.and_false]
  exact nZ
 refine call_meets F.slot_list_extend ⟨_,e,rfl⟩ F.entry_list_extend (F.args_list_extend_2 _ _)
  (AutoSeq1.list_extend_list_list_0 l its.toArray n b its2.toArray n2 hlong (by rw[size_toArray];omega) (by omega)) ⟨e,e2, ?_⟩
 refine⟨.non,_,I.lset (its':=its++its2) hH e (by simp) (r.append r2) ?_,rfl,q⟩
 rw[length_append]
 omega
inductive rPop (x:V) (vs:List V) (H:Hp) (Q:VK):Prop
 |mk:∀l xs y,(x=.ref l)->(vs=[])->(H l=some (.lst xs))->(xs[xs.length - 1]? =some y)->(Q y (upd H l (.lst xs.dropLast)))->rPop x vs H Q
theorem DA:MtM X "list.pop" rPop:=by
 intro pins s σ H x vs v us Q I rx rv h
 obtain⟨l,xs,y,rfl,rfl,hH,hy,q⟩:=h
 cases rx
 have hus:=rv.zero
 subst hus
 obtain⟨z,its,n,r,hl,e⟩:=I.lstM hH
 obtain⟨u,hu,ru⟩:=r.get hy
 have hy':its.toArray[its.toArray.size - 1]? =some u:=by
  show its.toArray[its.length - 1]? =some u
  rw[<-Array.getElem?_toList,<-hl]
  exact hu
 refine call_meets F.slot_list_pop ⟨_,e,rfl⟩ F.entry_list_pop (F.args_list_pop_1 _) (MeetsSeq.list_pop_last l its.toArray n u hy' (by rw[size_toArray];omega)) ⟨e, ?_⟩
 refine⟨y,_,I.lset (its':=its.dropLast) hH e ?_ r.dropLast ?_,ru,q⟩
 ·show its.toArray.eraseIdxIfInBounds (its.toArray.size - 1)=its.dropLast.toArray
  rw[size_toArray,List.eraseIdxIfInBounds_toArray,RE]
 ·rw[List.length_dropLast]
  omega
inductive rCat (x:V) (y:V) (H:Hp) (Q:VK):Prop
 |mk:∀l b xs zs,(x=.ref l)->(y=.ref b)->(H l=some (.lst xs))->(H b=some (.lst zs))->(xs.length+zs.length<=sizeLine)->(∀p,H p=none->Q (.ref p) (upd H p (.lst (xs++zs))))->rCat x y H Q
theorem op_cat:OpR X (binaryOp .Add) rCat:=by
 intro pins s σ H x y v u Q I rx ry h
 obtain⟨l,b,xs,zs,rfl,rfl,hH,hB,hz,q⟩:=h
 cases rx
 cases ry
 obtain⟨z,its,n,r,hl,e⟩:=I.lstM hH
 obtain⟨z2,its2,n2,r2,hl2,e2⟩:=I.lstM hB
 refine PySem.P.add_list e e2 ?_ (by rw[size_toArray,size_toArray];omega)
 have ea:its.toArray++its2.toArray=(its++its2).toArray:=by simp
 rw[ea]
 exact⟨.ref _,_,I.lnew (t':=s.toks) (r.append r2) (by rw[length_append];omega),rfl,q _ I.fresh⟩
noncomputable def d6Z:R2:=λx y H Q=>∃l k xs,x=.ref l/\y=.int k/\H l=some (.lst xs)/\ -(2^63)<=k/\k<2^63/\xs.length*k.toNat<=sizeLine/\
 ∀p,H p=none->Q (.ref p) (upd H p (.lst (List.replicate k.toNat xs).flatten))
theorem beZ{α:Type}(xs:List α)(k:Nat):(List.replicate k xs).flatten.length=k*xs.length:=by
 induction k with
 |zero=>simp
 |succ k ih=>rw[replicate_succ,flatten_cons,length_append,ih,Nat.succ_mul,Nat.add_comm]
theorem cXZ:OpR X (binaryOp .Mult) d6Z:=by
 intro pins s σ H x y v u Q I rx ry h
 obtain⟨l,k,xs,rfl,rfl,hH,h1,h2,hz,q⟩:=h
 cases rx
 obtain⟨t,rfl⟩:=ry
 obtain⟨z,its,n,r,hl,e⟩:=I.lstM hH
 have hlen:its.toArray.size*k.toNat<=sizeLine:=by rw[size_toArray,<-hl];exact hz
 have hcap:¬its.toArray.size*k.toNat>(2^63 - 1)/8:=by
  have:(sizeLine:Nat)<=(2^63 - 1)/8:=by decide
  omega
 have hfit:¬(!Builtin.List.listFitsIndex k)=true:=by
  rw[fitsIndex_both h1 h2]
  exact nZ
 have hlong:¬Builtin.List.listTooLong (its.toArray.size*k.toNat)=true:=by
  rw[GB hlen]
  exact nZ
 have hnew:List.foldl (λx1 x2=>x1++x2) #[] (List.replicate (if its.toArray.isEmpty=true then 0 else k.toNat) its.toArray)=(List.replicate k.toNat its).flatten.toArray:=by
  have f0:∀m:Nat,List.foldl (λx1 x2=>x1++x2) #[] (List.replicate m its.toArray)=(List.replicate m its).flatten.toArray:=λm=>by
   have:=foldl_rep its m []
   rw[List.nil_append]at this
   exact this
  rw[f0]
  cases its with
  |nil=>simp
  |cons a r'=>rw[if_neg (by simp)]
 refine wpAny_binaryOp_repeat_ref (T:="list") (U:="int") (by decide) ⟨_,e,rfl⟩ (λs'=>typeIs_int s' k t) noFill_list_mul F.fills_int_mul F.slot_int_rmul repeat_list F.slot_int_index.lookup
  (call_meets F.slot_int_rmul (typeIs_int s k t) F.entry_int_rmul (F.args_int_rmul_2 _ _) (int___rmul___int_list k t l its.toArray n)
   ⟨e,rfl,⟨_,e,rfl⟩,call_meets F.slot_list_mul ⟨_,e,rfl⟩ F.entry_list_mul (F.args_list_mul_2 _ _) (AutoListH.list___mul___list_int_3 l its.toArray n k t hfit hcap hlong) ⟨e, ?_⟩⟩)
 rw[hnew]
 exact⟨.ref _,_,I.lnew (t':=s.toks) (r.rep k.toNat) (by rw[beZ,Nat.mul_comm];exact hz),rfl,q _ I.fresh⟩
variable{prog:Program}{w:World}{A:Around}{E:Value->Shared->Prop}
end
end L2
namespace Att
open PySem PySem.W PySem.Calls PyProof.Rows
theorem EL{P:Params}{h:Heap}:∀(ns:List Int) (vs:List Value),WellAll P h vs (ns.map WData.int)->IntsAre vs ns:=by
 intro ns
 induction ns with
 |nil=>
  intro vs w
  rw[map_nil]at w
  cases w
  exact .nil
 |cons n ns ih=>
  intro vs w
  rw[map_cons]at w
  cases w with
  |cons a b=>
   cases a
   exact .cons _ _ (ih _ b)
theorem UK{l:OpenLaw}{n:Nat}(hn:l.most=some n){P:Params}{h:Heap}{args:List WData}{vals:List Value}
  (hpre:l.row.toRowW.claim.pre args=true)(hwl:WellAll P h vals args):
  ∃a vs ns,vals=[Value.ref a]/\args=[WData.list (ns.map WData.int)]/\h.get? a=some {cls:=.type "list",data:=.seq vs.toArray}/\IntsAre vs ns/\ns.length<=n:=by
 have hsh:WShape.hasAll [] args [.list .int]=true:=(pre_splitW hpre).1
 have hc:l.pre.holds [] {args:=args}=true:=(pre_splitW hpre).2
 obtain⟨d,r,rfl,h1,h2⟩:=hasAllW_cons hsh
 obtain rfl:=hasAllW_nil h2
 obtain⟨xs,rfl,h3⟩:=hasW_list h1
 obtain⟨ns,rfl⟩:=items_int h3
 have hlen:ns.length<=n:=by
  unfold OpenLaw.pre at hc
  have h4:(WTm.not (.lt (.lit (.int (n:Int))) (.len (.arg 0)))).holds [] {args:=[.list (ns.map .int)]}=true:=by
   have h4:=(holds_andW hc).1
   rw[hn]at h4
   exact h4
  have h5:=condW_of h4 (w_not (w_lt w_lit (w_len_list (w_arg rfl))))
  rw[length_map]at h5
  refine Nat.le_of_not_lt λq=> ?_
  have q':(n:Int)<((ns.length:Nat):Int):=by omega
  first
   |(rw[decide_eq_true q']at h5;exact absurd h5 (by decide))
   |(simp at h5;omega)
 cases hwl with
 |cons w1 w2=>
  cases w2
  cases w1 with
  |list ho hall=>exact⟨_,_,ns,rfl,rfl,ho,EL ns _ hall,hlen⟩
theorem VW(l:OpenLaw)(args:List WData):l.row.toRowW.claim.post args (.bool true) args=true:=
 postW_of (r:=l.row.toRowW) (X:=(true==true))
  (show WShape.has [] (.bool true) .bool=true by first|rfl|decide|simp[WShape.has,WShape.arms,WShape.armsAll])
  (show(WTm.eq .res (.lit (.bool true))).value [] {args:=args,res:=some (.bool true),after:=args}=some (.bool (true==true))from w_eq_bool (w_res rfl) w_lit) rfl
theorem attach_call{l:OpenLaw}{n:Nat}{q:Program}{loose:List Str}{XP:(Str->Option Value)->Heap->Prop}{YP:World->Heap->Prop}{d:DefRec}
  (hn:l.most=some n)(hdf:d.params.defaults=[])
  (call:∀(w:World) (s₀ s₁:Shared) (mg mb:Str->Option Value) (fa:Addr) (o:Obj) (pm cd doc:Value) (a:Addr) (vs:List Value) (ns:List Int),
   Ground q loose [] XP w s₀ mg mb s₁.heap->YP w s₁.heap->
   s₁.heap.get? fa=some o->o.data=.func (docDef d.name d.params d.body d.scope pm cd doc)->s₁.heap.CodeRec cd d.name->mg d.name=some (.ref fa)->
   s₁.heap.get? a=some {cls:=.type "list",data:=.seq vs.toArray}->IntsAre vs ns->ns.length<=n->s₁.gens= #[]->
   codeAny (model l.prog w) callerA (.call (.ref fa) ⟨[.ref a],[]⟩) (λr s'=>r=.ok (.ret (.bool true))/\OldK s₁.heap s'.heap/\s'.os=s₁.os/\AllBare s'.gens) s₁):
  WalkO q loose XP YP l.row.toRowW d [] (λf vs=>PySem.call f vs):=by
 intro w s₀ s₁ mg mb G Y fa o pm cd doc dV kV ho hd hcd hD hmg hg args vals as hpre hlay hrd hwl hlo
 obtain rfl:dV=.none:=Dflts.none hD hdf
 obtain rfl:kV=.none:=Dflts.noKw hD
 obtain⟨a,vs,ns,rfl,rfl,hobj,hints,hlen⟩:=UK hn hpre hwl
 refine enter_call (codeAny_mono (call w s₀ s₁ mg mb fa o pm cd doc a vs ns G Y ho (fd_plain hd) hcd hmg hobj hints hlen hg) λr s' hq=> ?_)
 obtain⟨rfl,h2,h3,h4⟩:=hq
 exact⟨.inl ⟨.bool true,.bool true,[],rfl,λ_=>rfl,.bool true,VW l _,λ_=>⟨List.Pairwise.nil,λ_ hm=>(nomatch hm)⟩⟩,h2,h3,h4⟩
section
variable{prog:Program}{w:World}{A:Around}{E:Value->Shared->Prop}{s:Shared}{K:Frag}
end
end Att
namespace L2
open PySem PySem.Spec PyProof.Rows
theorem IU:∀ {vs:List Value} {ns:List Int},IntsAre vs ns->Vals (ns.map V.int) vs
 |_,_,.nil=> .nil
 |_,_,.cons n t h=> .cons ⟨t,rfl⟩ (IU h)
noncomputable def G5(s:Stmt)(j:Nat):Stmt:=match s with
 | .ClassDef _ _ _ body _ _ _ _ _ _ _=>body.getD j (.Pass ⟨0,0,0,0⟩)
 |_=> .Pass ⟨0,0,0,0⟩
noncomputable def G2(s:Stmt):Arguments:=match s with
 | .FunctionDef _ a _ _ _ _ _ _ _ _=>a
 |_=> {posonlyargs:=[],args:=[],vararg:=none,kwonlyargs:=[],kw_defaults:=[],kwarg:=none,defaults:=[]}
noncomputable def E7(s:Stmt):List Stmt:=match s with
 | .FunctionDef _ _ b _ _ _ _ _ _ _=>b
 |_=> []
noncomputable def B4(s:Stmt):Scope:=match s with
 | .FunctionDef _ _ _ _ _ _ sc _ _ _=>sc
 |_=> {kind:=.function,names:=[],isGenerator:=false,isCoroutine:=false}
noncomputable abbrev CX0:CXT:=λ_ _ _ _ _ _=>False
noncomputable abbrev E0:XK:=λ_ _ _=>False
theorem C0{X:Cx}:W5 CX0 X E0:=λ_ _ _ _ _ _ _ h=>h.elim
structure Fun (K:FZ) (x qual:Str) (st:Stmt) (f:Addr) (fd:FuncData):Prop where
 ex:∃(oc:Value) (od:Option Addr) (kV doc pm:Value) (an:Option Addr) (cdv ct:Value) (osl:Array (Option Value)),
  fd=fnOf x qual (G2 st) (E7 st) (B4 st) .none kV doc pm an cdv ct/\K.lookup f=some ⟨oc,od,.func fd,osl⟩/\codeIn K cdv qual=true
 kp:kZ K (.ref f)=true
section
variable{P:Program}{w:World}{K:FZ}{mg:Str->Option Value}{base:Heap}
theorem Fun.ok{x qual:Str}{st:Stmt}{f:Addr}{fd:FuncData}{N ps:List Str}{k:Nat}{sp:Sp}(F:Fun K x qual st f fd)(S:FnScope N ps (B4 st))(len:∀vs H Q E,sp vs H Q E->vs.length=ps.length)
  (hbody:∀(cdv:Value) (A:Around) (outer:List Env) (s:Shared) (H:Hp) (vs:List V) (Q:VK) (E:XK),Room k (A.deeper (envOfC qual (B4 st) s.heap.objs.size f cdv))->sp vs H Q E->
   ∃t,PSs (NU CX0 P w K mg base N qual (B4 st) f cdv A outer s H E).nox (E7 st) t/\t {nx:=λ_ H'=>Q .non H',rt:=Q} (start N vs) H):FnOk P w K mg base CX0 (k+1) f fd ps sp:=by
 obtain⟨oc,od,kV,doc,pm,an,cdv,ct,osl,rfl,lk,hcd⟩:=F.ex
 refine bKZ lk hcd S len λA outer s H vs Q E hr hsp=> ?_
 obtain⟨t,h,q⟩:=hbody cdv A outer s H vs Q E hr hsp
 exact⟨t,h.nox,q⟩
theorem Fun.binds{x qual:Str}{st:Stmt}{f:Addr}{fd:FuncData}{ps:List Str}(F:Fun K x qual st f fd)
  (h:∀(kV doc pm:Value) (an:Option Addr) (cdv ct:Value) (us:List Value),us.length=ps.length->bindArgs (fnOf x qual (G2 st) (E7 st) (B4 st) .none kV doc pm an cdv ct) ⟨us,[]⟩=pure (ps.zip us)):Binds K fd ps []:=by
 obtain⟨oc,od,kV,doc,pm,an,cdv,ct,osl,rfl,lk,hcd⟩:=F.ex
 exact .all (h kV doc pm an cdv ct)
theorem W6{x qual:Str}{st:Stmt}{f:Addr}{oc:Value}{od an:Option Addr}{osl:Array (Option Value)}{kV doc pm cdv ct:Value}(l:K.lookup f=some ⟨oc,od,.func (fnOf x qual (G2 st) (E7 st) (B4 st) .none kV doc pm an cdv ct),osl⟩)
  (c:codeIn K cdv qual=true)(k:kZ K (.ref f)=true):Fun K x qual st f (fnOf x qual (G2 st) (E7 st) (B4 st) .none kV doc pm an cdv ct):=⟨⟨oc,od,kV,doc,pm,an,cdv,ct,osl,rfl,l,c⟩,k⟩
variable{X:Cx}
theorem pv(i:Nat){x:Str}{pos:Pos}(hN:X.N[i]? =some x:=by rfl)(hv:Vis X.env.scope x:=by first|exact Or.inl rfl|exact Or.inr (Or.inl rfl)|exact Or.inr (Or.inr rfl))(hd:(x==("__debug__":Str))=false:=by decide)
  (hcd:(x==("__classdict__":Str))=false:=by decide):PE X (.Name x pos) (tVar i):=cDZ hN hv hd hcd
end
theorem FO{c A B:Prop}[Decidable c](h1:c->A)(h2:¬c->B):if c then A else B:=by
 by_cases h:c
 ·rw[if_pos h]
  exact h1 h
 ·rw[if_neg h]
  exact h2 h
noncomputable def Same(H H':Hp):Prop:=∀b o,H b=some o->H' b=some o
theorem Same.refl(H:Hp):Same H H:=λ_ _ h=>h
theorem Same.trans{H H1 H2:Hp}(a:Same H H1)(b:Same H1 H2):Same H H2:=λc o h=>b c o (a c o h)
theorem Same.free{H H':Hp}(e:Same H H'){l:Addr}(h:H' l=Option.none):H l=Option.none:=by
 cases q:H l with
 |none=>rfl
 |some o=>
  rw[e l o q]at h
  cases h
theorem Same.seq{K:FZ}{H H':Hp}{a:Addr}{xs:List V}(e:Same H H')(h:SqL K H a xs):SqL K H' a xs:=by
 rcases h with(h|⟨o,h⟩)|h
 ·exact .inl (.inl (e _ _ h))
 ·exact .inl (.inr ⟨o,e _ _ h⟩)
 ·exact .inr h
theorem KL{α β:Type}{M:Model}{A:Around}{a:α}{Q:α->Shared->Prop}{E:Value->Shared->Prop}{s:Shared}{t2:Sem β}{Q2:β->Shared->Prop}{E2:Value->Shared->Prop}
  (h:wpAny M A (pure a:Sem α) Q E s)(k:Q a s->wpAny M A t2 Q2 E2 s):wpAny M A t2 Q2 E2 s:=fun Γ p hΓ=>k (h Γ p hΓ) Γ p hΓ
noncomputable def PTs(X:Cx)(ifs:List Expr)(t:TT):Prop:=
 ∀(pins:List (Addr×Obj)) (s:Shared) (σ:St) (H:Hp) (Q:Bool->Hp->Prop),Inv X pins σ H s->t σ H Q->
  wpAny (model X.prog X.w) X.A (forIn ifs true λc r=>if r=true then do let ok<-isTrue c X.env (eval c X.env);pure (ForInStep.yield ok)else pure (ForInStep.yield r)) (TP X pins σ Q) X.xe s
noncomputable def RZ:TT:=λ_ H Q=>Q true H
theorem AF{X:Cx}:PTs X [] RZ:=λ_ _ _ H _ I h=>wpAny_tests_nil ⟨H,I,h⟩
theorem SI{X:Cx}{c:Expr}{t:TT}(h:PT X c t):PTs X [c] t:=λpins s σ H Q I hq=>wpAny_tests_one (h pins s σ H Q I hq)
noncomputable def AW(cells:List (Str×Addr))(names:List (Str×NameKind))(acc:List (Str×Addr)):List (Str×Addr):=
 match names with
 | []=>acc
 |(n,k)::r=>AW cells r (if k==.free then(n,(cells.lookup n).getD 0)::acc else acc)
theorem BW{env:Env}:∀(names:List (Str×NameKind)) (acc:List (Str×Addr)),(∀y∈names,y.2=.free->∃c,env.cells.lookup y.1=some c)->
  (forIn names acc λ(x:Str×NameKind) (r:List (Str×Addr))=>if(x.2==.free)=true then(do let a<-cellOf env x.1;pure (ForInStep.yield ((x.1,a)::r)):Sem (ForInStep (List (Str×Addr))))else pure (ForInStep.yield r))=(pure (AW env.cells names acc):Sem (List (Str×Addr)))
 | [],acc,_=>rfl
 |(n,k)::r,acc,h=>by
  have ih:=BW (env:=env) r
  rw[List.forIn_cons]
  by_cases hk:(k==NameKind.free)=true
  ·obtain⟨c,hc⟩:=h (n,k) mem_cons_self (by simpa using hk)
   have hc':cellOf env n=pure c:=by unfold cellOf;rw[hc]
   dsimp only
   rw[if_pos hk,hc']
   have e:AW env.cells ((n,k)::r) acc=AW env.cells r ((n,c)::acc):=by
    show AW env.cells r (if(k==NameKind.free)=true then(n,(env.cells.lookup n).getD 0)::acc else acc)=_
    rw[if_pos hk,hc];rfl
   rw[e,<-ih ((n,c)::acc) λy hy=>h y (mem_cons_of_mem _ hy)]
   rfl
  ·dsimp only
   rw[if_neg hk]
   have e:AW env.cells ((n,k)::r) acc=AW env.cells r acc:=by
    show AW env.cells r (if(k==NameKind.free)=true then(n,(env.cells.lookup n).getD 0)::acc else acc)=_
    rw[if_neg hk]
   rw[e,<-ih acc λy hy=>h y (mem_cons_of_mem _ hy)]
   rfl
theorem EK{scope:Scope}{env:Env}(h:∀y∈scope.names,y.2=.free->∃c,env.cells.lookup y.1=some c):closureFor scope env=pure (AW env.cells scope.names []):=by
 unfold closureFor
 have e:=BW (env:=env) scope.names [] h
 first
  |exact e
  |(simp only[bind_pure_comp,map_pure]at*;exact e)
  |(rw[<-e];simp)
theorem ND{cells:List (Str×Addr)}:∀(names:List (Str×NameKind)) (acc:List (Str×Addr)) (p:Str×Addr),(∀y∈names,y.2=.free->∃c,cells.lookup y.1=some c)->p∈AW cells names acc->p∈acc\/(cells.lookup p.1=some p.2/\(p.1,NameKind.free)∈names)
 | [],acc,p,_,h=> .inl h
 |(n,k)::r,acc,p,hn,h=>by
  have h':p∈AW cells r (if(k==NameKind.free)=true then(n,(cells.lookup n).getD 0)::acc else acc):=h
  rcases ND r _ p (λy hy=>hn y (mem_cons_of_mem _ hy)) h' with q|⟨q1,q2⟩
  ·by_cases hk:(k==NameKind.free)=true
   ·rw[if_pos hk]at q
    rcases cZ q with e|q
    ·have hk':k=.free:=by simpa using hk
     obtain⟨c,hc⟩:=hn (n,k) mem_cons_self hk'
     subst e
     refine .inr ⟨?_, ?_⟩
     ·show cells.lookup n=some ((cells.lookup n).getD 0)
      have hc':cells.lookup n=some c:=hc
      rw[hc'];rfl
     ·rw[<-hk'];exact mem_cons_self
    ·exact .inl q
   ·rw[if_neg hk]at q
    exact .inl q
  ·exact .inr ⟨q1,mem_cons_of_mem _ q2⟩
theorem NZ{cells:List (Str×Addr)}:∀(names:List (Str×NameKind)) (acc:List (Str×Addr)) (n:Str),((n,NameKind.free)∈names\/∃c,(n,c)∈acc)->∃c,(n,c)∈AW cells names acc
 | [],acc,n,h=>by
  rcases h with h|h
  ·cases h
  ·exact h
 |(m,k)::r,acc,n,h=>by
  show∃c,(n,c)∈AW cells r (if(k==NameKind.free)=true then(m,(cells.lookup m).getD 0)::acc else acc)
  refine NZ r _ n ?_
  rcases h with h|⟨c,h⟩
  ·rcases cZ h with e|h
   ·injection e with e1 e2
    subst e1;subst e2
    exact .inr ⟨_,by rw[if_pos (show(NameKind.free==NameKind.free)=true from rfl)];exact mem_cons_self⟩
   ·exact .inl h
  ·refine .inr ⟨c, ?_⟩
   split
   ·exact mem_cons_of_mem _ h
   ·exact h
theorem AJ{α:Type}{n:Str}{c:α}:∀ {l:List (Str×α)},(n,c)∈l->∃d,l.lookup n=some d/\(n,d)∈l
 |(m,d)::r,h=>by
  by_cases e:n=m
  ·subst e
   exact⟨d,by simp[lookup_cons],mem_cons_self⟩
  ·rcases cZ h with q|q
   ·injection q with q1 _
    exact absurd q1 e
   ·obtain⟨d',h1,h2⟩:=AJ q
    refine⟨d', ?_,mem_cons_of_mem _ h2⟩
    rw[lookup_cons]
    have:(n==m)=false:=beq_eq_false_iff_ne.mpr e
    rw[this];exact h1
structure CompScope (N:List Str) (sc scope:Scope) (x:Str) (caps:List Nat) (ns:List Str):Prop where
 cell:∀y∈scope.names,y.2≠ .cell
 kind:scope.kind=.function
 names:∀y∈scope.names,y.2=.local->scope.names.lookup y.1=some .local
 var:scope.names.lookup x=some .local
 free:∀y∈scope.names,y.2=.free->sc.names.lookup y.1=some .cell\/sc.names.lookup y.1=some .free
 at_:caps.map (λj=>N[j]?)=ns.map some
 nsf:∀y∈ns,scope.names.lookup y=some .free
 nd:(x::ns).Nodup
noncomputable def Cx.comp(X:Cx)(N':List Str)(scope:Scope)(cl:List (Str×Addr))(C:Addr)(s:Shared)(H:Hp)(fp:List Addr):Cx:=
 {X with N:=N',s₀:=s,H₀:=H,env:=compEnvC scope cl C X.env,outer:=X.stack,ex:=fp,fn:=λ_=>false,xe:=λ_ _=>False}
noncomputable def capσ(caps:List Nat)(σ:St)(v:Option V):St:=v::caps.map λj=>(σ[j]?).getD none
noncomputable def WN(wi:TI)(caps:List Nat)(tt:TT)(te:TE)(σ:St)(H:Hp)(R:List V->Hp->Prop):Prop:=wi σ H λJ H1=>∃W:Nat->Nat->List V->Hp->Prop,(∃m,W 0 m [] H1)/\∀i m ys H,W i m ys H->
 ys.length<=sizeLine/\((J.stop i H/\R ys H)\/(J.go i H/\∃N:List V->Hp->Prop,(∀ys' H',N ys' H'->∃m',m'<m/\W (i+1) m' ys' H')/\∀v H',J.yld i H v H'->tt (capσ caps σ (some v)) H' λb H2=>
  if b=true then te (capσ caps σ (some v)) H2 λy H3=>N (ys++ [y]) H3 else N ys H2))
noncomputable def bjZ(wi:TI)(caps:List Nat)(tt:TT)(te:TE):TE:=fun σ H Q=>WN wi caps tt te σ H λys H1=>∀D,H1 D=none->Q (.ref D) (upd H1 D (.lst ys))
theorem EX{scope:Scope}{env:Env}{y:Str}(h:((relabel scope env).names.lookup y=some .cell\/(relabel scope env).names.lookup y=some .free))(hc:∀y∈scope.names,y.2≠ .cell):(y,NameKind.free)∈scope.names:=by
 have h':∃k,(k=.cell\/k=.free)/\(y,k)∈(relabel scope env).names:=by
  rcases h with h|h
  ·exact⟨_,.inl rfl,PySem.mem_of_lookup h⟩
  ·exact⟨_,.inr rfl,PySem.mem_of_lookup h⟩
 obtain⟨k,hk,hm⟩:=h'
 unfold relabel at hm
 obtain⟨⟨n,k0⟩,hm0,e⟩:=mem_map.mp hm
 dsimp only at e
 split at e
 ·rename_i hcond
  injection e with e1 e2
  subst e1
  have:k0=.free:=by
   simp only[Bool.and_eq_true]at hcond
   simpa using hcond.1.1
  subst this
  exact hm0
 ·injection e with e1 e2
  subst e1;subst e2
  rcases hk with rfl|rfl
  ·exact absurd rfl (hc _ hm0)
  ·exact hm0
theorem R7{env:Env}:∀ {names:List (Str×NameKind)} {x:Str},names.lookup x=some .free->
  (names.map λ(n,k)=>if(k==NameKind.free&&env.scope.kind==.function&&env.kindOf n==some .cell)then(n,NameKind.cell)else(n,k)).lookup x=some .cell\/
  (names.map λ(n,k)=>if(k==NameKind.free&&env.scope.kind==.function&&env.kindOf n==some .cell)then(n,NameKind.cell)else(n,k)).lookup x=some .free
 | [],_,h=>by simp at h
 |(n,k)::r,x,h=>by
  have ih:= @R7 env r x
  show(List.lookup x ((if(k==NameKind.free&&env.scope.kind==.function&&env.kindOf n==some .cell)=true then(n,NameKind.cell)else(n,k))::_)=_)\/(List.lookup x ((if(k==NameKind.free&&env.scope.kind==.function&&env.kindOf n==some .cell)=true then(n,NameKind.cell)else(n,k))::_)=_)
  cases hx:x==n with
  |true=>
   simp only[lookup_cons,hx]at h
   cases h
   split
   ·left;simp[lookup_cons,hx]
   ·right;simp[lookup_cons,hx]
  |false=>
   simp only[lookup_cons,hx]at h
   by_cases hc:(k==NameKind.free&&env.scope.kind==.function&&env.kindOf n==some .cell)=true
   ·rw[if_pos hc];simp only[lookup_cons,hx];exact ih h
   ·rw[if_neg hc];simp only[lookup_cons,hx];exact ih h
section
variable{X:Cx}
theorem II{x:Str}{px:Pos}{iter elt:Expr}{ifs:List Expr}{scope:Scope}{pos pos':Pos}{wi:TI}{tt:TT}{te:TE}{caps:List Nat}{ns:List Str}{use:Option (Value->Sem Unit)}{Q:Value->Shared->Prop}
  {pins:List (Addr×Obj)}{s:Shared}{σ:St}{H:Hp}{R:List V->Hp->Prop}
  (CS:CompScope X.N X.env.scope scope x caps ns)(hc:X.calm=true)(hi:PI X (.Name x px) iter wi)
  (ht:∀cl C s H fp,PTs (X.comp (x::ns) scope cl C s H fp) ifs tt)(he:∀cl C s H fp,PE (X.comp (x::ns) scope cl C s H fp) elt te)
  (hs:∀v,foldedSetIterable iter X.env v=pure v)
  (I:Inv X pins σ H s)(h:WN wi caps tt te σ H R)
  (hend:∀D C s' H' ys,Inv X pins σ (upd H' D (.lst ys)) s'->H' D=none->R ys H'->(∃m,s'.heap.Ns C m)->(upd H' D (.lst ys)) C=none->C≠X.env.locals->X.s₀.heap.objs.size<=C->(∀y c,X.env.cells.lookup y=some c->c≠C)->(∀p∈X.pn++pins,p.1≠C)->
   compPost (model X.prog X.w) X.A X.xe use Q (.ref D) C (.ok .next) s'):
  wpAny (model X.prog X.w) X.A (comprehension (.ListComp elt [⟨.Name x px,iter,ifs,0⟩] scope pos) scope X.env pos' (newList []) false (eval iter X.env) use) Q X.xe s:=by
 have hcells:∀y∈scope.names,y.2=.free->∃c,X.env.cells.lookup y.1=some c:=λy hy hf=>I.ok.has y.1 (CS.free y hy hf)
 refine wpAny_comprehension_free (use:=use) rfl hs (EK hcells) CS.kind CS.names ?_
 refine thn (hi pins s σ H _ I h) λv s1 h1=>thn h1 λitv s2 h2=> ?_
 obtain⟨it,fp,tn,J,H2,e,I2,T,st2,f2,W,⟨m0,w0⟩,turn⟩:=h2
 subst e
 refine wpAny_newObj_type (wpAny_newFunctionEnv CS.cell (by intro y hy;simp at hy) (λh₁ hns₁ hsb₁=> ?_) CS.kind)
 dsimp only at hns₁ hsb₁⊢
 generalize hHH:s2.heap.push {cls:=.type "list",dict:=none,data:=.seq ([]:List Value).toArray}=HH at hns₁ hsb₁⊢
 have hC:HH.objs.size=s2.heap.objs.size+1:=by rw[<-hHH,size_push]
 generalize hCe:HH.objs.size=C at hns₁ hsb₁ hC⊢
 have hDC:s2.heap.objs.size≠C:=by rw[hC];exact ne_of_lt (lt_succ_self _)
 have below:∀b,b<s2.heap.objs.size->b≠C/\b≠s2.heap.objs.size:=λb hb=>⟨by rw[hC];exact ne_of_lt (Nat.lt_succ_of_lt hb),ne_of_lt hb⟩
 have old:∀b o,s2.heap.get? b=some o->h₁.get? b=some o:=λb o e=>hsb₁.extBut b o (below b (lt_size e)).1 (gZ _ (hHH▸gZ _ e))
 have hacc:h₁.get? s2.heap.objs.size=some (LCg.lst []):=hsb₁.extBut _ _ hDC (gZ _ (hHH▸get?_push_size _ rfl))
 have nfp:∀b∈fp,b<s2.heap.objs.size:=λb hb=>let⟨o,e,_⟩:=T.obj _ _ st2 b hb;lt_size e
 have clsub:∀y c,(AW X.env.cells scope.names []).lookup y=some c->X.env.cells.lookup y=some c:=λy c e=>by
  rcases ND scope.names [] (y,c) hcells (PySem.mem_of_lookup e)with q|q
  ·cases q
  ·exact q.1
 have fresh2:∀a,s2.heap.objs.size<=a->H2 a=none:=λa ha=>I2.hok.fresh ha
 generalize hcl:AW X.env.cells scope.names []=cl at clsub⊢
 have clhas:∀y,(y,NameKind.free)∈scope.names->∃c,cl.lookup y=some c:=λy hy=>by
  obtain⟨c,q⟩:=NZ (cells:=X.env.cells) scope.names [] y (.inl hy)
  rw[hcl]at q
  obtain⟨d,q1,_⟩:=AJ q
  exact⟨d,q1⟩
 have ltC:∀y c,X.env.cells.lookup y=some c->c<s2.heap.objs.size:=λy c e=>let⟨v,z⟩:=I2.cell y c e;z.lt
 have ok':(X.comp (x::ns) scope cl C s2 H2 fp).Ok:=by
  refine⟨I2.ok.mod,CS.kind,I2.ok.glob,I2.ok.blt,(by show s2.heap.objs.size<=C;rw[hC];exact le_succ _),λy z c a b=>I2.ok.inj y z c (clsub y c a) (clsub z c b),λy hy=>clhas y (EX hy CS.cell),λy c z=>(by cases z),I2.ok.hd,I2.ok.frames,.inl rfl,
   λb hb=>⟨(below b (nfp b hb)).1,λy c e z=>(f2 b hb).2.2.2.2.1 y c (clsub y c e) z⟩,λb o e=>I2.bs b o e,le_trans I2.ok.bsz I2.sz,λb o e hb=> ?_,λb hb hf=> ?_,I2.stack,I2.stkFree⟩
  ·rcases(f2 b hb).2.2.2.1 with z|z
   ·exact I2.ok.noex b o e z
   ·exact absurd (lt_of_lt_of_le (lt_size e) (le_trans I2.ok.bsz z)) (lt_irrefl _)
  ·rcases cZ (I2.stkSub b hf)with z|z
   ·exact(f2 b hb).2.1 z
   ·exact(f2 b hb).2.2.1 z
 have capget:∀(k:Nat) (y:Str) (v:V),(x::ns)[k]? =some y->(capσ caps σ none)[k]? =some (some v)->∃j,X.N[j]? =some y/\σ[j]? =some (some v)/\scope.names.lookup y=some .free:=λk y v e1 e2=>by
  cases k with
  |zero=>cases e2
  |succ k=>
   have e1':ns[k]? =some y:=by simpa using e1
   have e2':(caps.map λj=>(σ[j]?).getD none)[k]? =some (some v):=by simpa [capσ]using e2
   have e3:(ns.map some)[k]? =some (some y):=by rw[getElem?_map,e1'];rfl
   rw[<-CS.at_,getElem?_map]at e3
   rw[getElem?_map]at e2'
   cases hj:caps[k]? with
   |none=>rw[hj]at e3;cases e3
   |some j=>
    rw[hj]at e3 e2'
    have e4:X.N[j]? =some y:=Option.some.inj e3
    have e5:(σ[j]?).getD none=some v:=Option.some.inj e2'
    refine⟨j,e4, ?_,CS.nsf y (mem_of_getElem? e1')⟩
    cases hσ:σ[j]? with
    |none=>rw[hσ]at e5;cases e5
    |some z=>rw[hσ]at e5;have e6:z=some v:=e5;rw[e6]
 have visfree:∀y,scope.names.lookup y=some .free->X.env.kindOf y=some .cell\/X.env.kindOf y=some .free:=λy hy=>CS.free (y,.free) (PySem.mem_of_lookup hy) rfl
 have I0:Inv (X.comp (x::ns) scope cl C s2 H2 fp) (pins++ [(s2.heap.objs.size,LCg.lst [])]) (capσ caps σ none) H2 {s2 with heap:=h₁,toks:=s2.toks+([]:List (Str×Value)).length}:=by
  obtain⟨m2,hn2,hl2⟩:=I2.loc
  refine⟨ok',rfl,I2.bare,Un.kept old,⟨_,hns₁,λk y v e1 e2 e3=> ?_⟩,λy c e=> ?_,fresh2 C (by rw[hC];exact le_succ _),λy c e=>I2.freeC y c (clsub y c e),λp hp=> ?_,I2.hok.kept old, ?_⟩
  ·obtain⟨j,q1,q2,q3⟩:=capget k y v e1 e2
   have vf:=visfree y q3
   obtain⟨u,ru,lk⟩:=hl2 j y v q1 q2 (vf.elim (λz=> .inr (.inl z)) λz=> .inr (.inr z))
   refine⟨u,ru,.inr ⟨R7 q3, ?_⟩⟩
   obtain⟨c,hcl'⟩:=clhas y (PySem.mem_of_lookup q3)
   refine⟨c,hcl', ?_⟩
   rcases lk with⟨k1,_⟩|⟨_,c',e',z⟩
   ·rcases vf with vf|vf<;>(rw[k1]at vf;cases vf)
   ·have q:=clsub y c hcl'
    rw[e']at q
    cases q
    exact z.keeps old
  ·obtain⟨v,z⟩:=I2.cell y c (clsub y c e)
   exact⟨v,z.keeps old⟩
  ·rcases mem_append.mp hp with hp|hp
   ·obtain⟨a1,a2,a3,a4,a5⟩:=I2.pin p (mem_append_left _ hp)
    refine⟨old _ _ a1,a2,(below _ (lt_size a1)).1,λz=> ?_,a5⟩
    rcases cZ (I2.stkSub _ z)with z|z
    ·exact a3 z
    ·exact a4 z
   ·rcases mem_append.mp hp with hp|hp
    ·obtain⟨a1,a2,a3,a4,a5⟩:=I2.pin p (mem_append_right _ hp)
     refine⟨old _ _ a1,a2,(below _ (lt_size a1)).1,λz=> ?_,a5⟩
     rcases cZ (I2.stkSub _ z)with z|z
     ·exact a3 z
     ·exact a4 z
    ·have e:p=(s2.heap.objs.size,LCg.lst []):=by simpa using hp
     subst e
     refine⟨hacc,fresh2 _ (le_refl _),hDC,λz=> ?_,λv z=>by cases z⟩
     rcases cZ (I2.stkSub _ z)with z|z
     ·exact absurd I2.lt (by rw[<-z];exact lt_irrefl _)
     ·exact I2.nofs (le_refl _) z
  ·show(capσ caps σ none).length=(x::ns).length
   have:=congrArg List.length CS.at_
   simp only[length_map]at this
   simp[capσ,this]
 have loop:∀s₃:Shared,s₃={s2 with heap:=h₁,toks:=s2.toks+([]:List (Str×Value)).length}->
   codeAny (model X.prog X.w) X.A (.compLoop (.ListComp elt [⟨.Name x px,iter,ifs,0⟩] scope pos) 0 (.ref it) (.ref s2.heap.objs.size) (compEnvC scope cl C X.env))
    (compPost (model X.prog X.w) X.A X.xe use Q (.ref s2.heap.objs.size) C) s₃:=by
  rintro s₃ rfl
  refine codeAny_compLoop_tests (λn s'=>∃i ys us H',Inv (X.comp (x::ns) scope cl C s2 H2 fp) (pins++ [(s2.heap.objs.size,LCg.lst us)]) (capσ caps σ none) H' s'/\Vals ys us/\tn i s'.heap/\(∀b∈fp,H' b=none)/\W i n ys H') ?_ m0
   ⟨0,[],[],H2,I0,.nil,T.keep _ _ _ st2 (λb _ o e=>old b o e),λb hb=>(f2 b hb).1,w0⟩
  rintro n s3 ⟨i,ys,us,H3,I3,rv,st3,fr3,w3⟩
  obtain⟨hle,hstep⟩:=turn i n ys H3 w3
  have pinlt:∀p∈X.pn++pins,p.1<s2.heap.objs.size:=λp hp=>lt_size (I2.pin p hp).1
  have stat:∀ {H':Hp},(∀b∈fp,H' b=none)->∀b∈fp,QU (X.comp (x::ns) scope cl C s2 H2 fp) (pins++ [(s2.heap.objs.size,LCg.lst us)]) H' b:=λhn b hb=>
   ⟨hn b hb,(below b (nfp b hb)).1,ok'.exfs b hb,.inl hb,λy c e z=>(f2 b hb).2.2.2.2.1 y c (clsub y c e) z,λp hp=>by
    rcases mem_append.mp hp with hp|hp
    ·exact(f2 b hb).2.2.2.2.2 p (mem_append_left _ hp)
    ·rcases mem_append.mp hp with hp|hp
     ·exact(f2 b hb).2.2.2.2.2 p (mem_append_right _ hp)
     ·have e:p=(s2.heap.objs.size,LCg.lst us):=by simpa using hp
      subst e
      exact Ne.symm (below b (nfp b hb)).2⟩
  have memD:∀(l:List (Addr×Obj)),(s2.heap.objs.size,LCg.lst us)∈(X.comp (x::ns) scope cl C s2 H2 fp).pn++((pins++ [(s2.heap.objs.size,LCg.lst us)])++l):=λl=>
   mem_append_right _ (mem_append_left _ (mem_append_right _ mem_cons_self))
  rcases hstep with⟨stop,r⟩|⟨go,Nx,hNx,step⟩
  ·refine thn (T.done (X.comp (x::ns) scope cl C s2 H2 fp) rfl rfl rfl hc i _ s3 _ H3 _ I3 (stat fr3) st3 stop) λr' s4 ⟨hr,I4⟩=> ?_
   subst hr
   have pD:=I4.pin (s2.heap.objs.size,LCg.lst us) (mem_append_right _ (mem_append_right _ mem_cons_self))
   have hDn:H3 s2.heap.objs.size=none:=pD.2.1
   have hCn:H3 C=none:=I4.free
   have b4:Un (frs X.stack) fp H2 H3 s2.heap s4.heap:=I4.base
   have u4:Un (frs X.stack) fp H2 (upd H3 s2.heap.objs.size (.lst ys)) s2.heap s4.heap:=
    ⟨b4.keep,b4.slot,λb o e n hx=>by rw[B5 (below b (lt_size e)).2];exact b4.free b o e n hx,b4.there,
     λb xs q=>by rw[B5 (C5 (b4.tups b xs q) hDn)];exact b4.tups b xs q,λb o u q=>by rw[B5 (C5 (b4.frzs b o u q) hDn)];exact b4.frzs b o u q,
     λb ps q=>by
      obtain⟨m1,e1⟩:=b4.tbls b ps q
      exact⟨m1,by rw[B5 (C5 e1 hDn)];exact e1⟩⟩
   have k4:HOk X.prog X.w (upd H3 s2.heap.objs.size (.lst ys)) s4.heap:=λb u e=>by
    by_cases hb:b=s2.heap.objs.size
    ·subst hb
     rw[A5]at e
     cases e
     exact⟨hle,us,_,rv,pD.1⟩
    ·rw[B5 hb]at e
     exact(I4.hok b u e).stay (λc v _ q=>q) (λc q=>by rw[B5 (C5 q hDn)];exact q) λc xs q=>by rw[B5 (C5 q hDn)];exact q
   have J4:Inv X pins σ (upd H3 s2.heap.objs.size (.lst ys)) s4:=I2.call' (ch:=fp) I4.os u4 k4 I4.bare λb hb=>⟨(f2 b hb).2.2.2.1,(f2 b hb).2.1,(f2 b hb).2.2.2.2.1,(f2 b hb).2.2.2.2.2⟩
   obtain⟨mC,hnC,_⟩:=I4.loc
   exact hend _ C s4 H3 ys J4 hDn r ⟨mC,hnC⟩ (by rw[B5 (Ne.symm hDC)];exact hCn) (Ne.symm (below _ I2.lt).1) (by rw[hC];exact le_succ_of_le I2.sz) (λy c e=>(below c (ltC y c e)).1) λp hp=>(below _ (pinlt p hp)).1
  ·refine thn (T.item (X.comp (x::ns) scope cl C s2 H2 fp) rfl rfl rfl hc i _ s3 _ H3 _ I3 (stat fr3) st3 go) λr' s4 ⟨u,hr,h4⟩=> ?_
   subst hr
   refine KL h4 λ⟨v,H5,I5,r5,y5,st5,fr5⟩=> ?_
   have I5':=I5.pinned (stat fr5) (T.obj _ _ st5)
   refine wpAny_assign_Name (EZ (X:=X.comp (x::ns) scope cl C s2 H2 fp) (i:=0) I5' CS.nd rfl (.inl (lookup_relabel_local CS.var)) r5 (λs6 I6=> ?_) (.inr (lookup_relabel_local CS.var)))
   have I6':Inv (X.comp (x::ns) scope cl C s2 H2 fp) ((pins++ [(s2.heap.objs.size,LCg.lst us)])++CQ fp s4.heap) (capσ caps σ (some v)) H5 s6:=I6
   refine wpAny_mono (ht cl C s2 H2 fp _ s6 _ H5 _ I6' (step v H5 y5)) (λb s7 ⟨H7,I7,q7⟩=> ?_) (λ_ _ e=>e.elim)
   have weak:∀ {H':Hp} {s':Shared} {pl:List (Addr×Obj)},Inv (X.comp (x::ns) scope cl C s2 H2 fp) pl (capσ caps σ (some v)) H' s'->Inv (X.comp (x::ns) scope cl C s2 H2 fp) pl (capσ caps σ none) H' s':=λ{H' s' pl} J'=>
    J'.weak rfl λk z e=>by
     cases k with
     |zero=>cases e
     |succ k=>exact e
   have keepT:∀ {H':Hp} {s':Shared},Inv (X.comp (x::ns) scope cl C s2 H2 fp) ((pins++ [(s2.heap.objs.size,LCg.lst us)])++CQ fp s4.heap) (capσ caps σ (some v)) H' s'->tn (i+1) s'.heap/\∀b∈fp,H' b=none:=λ{H' s'} J'=>by
    refine⟨T.keep _ _ _ st5 λb hb o e=>(J'.pin (b,o) (mem_append_right _ (mem_append_right _ (W7 hb e)))).1,λb hb=> ?_⟩
    obtain⟨o,e,d⟩:=T.obj _ _ st5 b hb
    exact(J'.pin (b,o) (mem_append_right _ (mem_append_right _ (W7 hb e)))).2.1
   cases b with
   |false=>
    rw[if_neg nZ]at q7⊢
    obtain⟨m',hm,w7⟩:=hNx _ _ q7
    exact⟨m',hm,i+1,ys,us,H7,weak I7.unpinned,rv,(keepT I7).1,(keepT I7).2,w7⟩
   |true=>
    rw[if_pos rfl]at q7⊢
    refine wpAny_mono (he cl C s2 H2 fp _ s7 _ H7 _ I7 q7) (λyv s8 ⟨y,H8,I8,ry,n8⟩=> ?_) (λ_ _ e=>e.elim)
    obtain⟨m',hm,w8⟩:=hNx _ _ n8
    have pD:=I8.pin (s2.heap.objs.size,LCg.lst us) (memD _)
    have hul:us.length=ys.length:=rv.length.symm
    refine append_at (hsz:=by show us.toArray.size<=sizeLine;rw[size_toArray,hul];exact hle) pD.1 λh9 hs9 hD9=> ?_
    have I8p:Inv (X.comp (x::ns) scope cl C s2 H2 fp) pins (capσ caps σ none) H8 s8:=weak I8.unpinned.unpinned
    have I9:Inv (X.comp (x::ns) scope cl C s2 H2 fp) pins (capσ caps σ none) H8 {s8 with heap:=h9}:=I8p.turned (t':=s8.toks) (it:=s2.heap.objs.size) (λb o hb e=>(hs9.2 b hb).trans e) pD.2.1 hDC (.inr (le_refl _)) (λy c e z=>ne_of_lt (ltC y c (clsub y c e)) z) λp hp=>ne_of_lt (pinlt p hp)
    have I9':Inv (X.comp (x::ns) scope cl C s2 H2 fp) (pins++ [(s2.heap.objs.size,LCg.lst (us++ [yv]))]) (capσ caps σ none) H8 {s8 with heap:=h9}:=I9.pins_of λp hp=>by
     rcases mem_append.mp hp with hp|hp
     ·exact I9.pin p (mem_append_right _ hp)
     ·have e:p=(s2.heap.objs.size,LCg.lst (us++ [yv])):=by simpa using hp
      subst e
      exact⟨hD9.trans (congrArg some (LCg.lst_snoc us yv)),pD.2.1,hDC,pD.2.2.2.1,λv z=>by cases z⟩
    refine⟨m',hm,i+1,ys++ [y],us++ [yv],H8,I9',rv.append (.cons ry .nil), ?_,(keepT I8).2,w8⟩
    exact T.keep _ _ _ (keepT I8).1 λb hb o e=>(hs9.2 b (below b (nfp b hb)).2).trans e
 exact codeAny_compStart_list (loop _ rfl) (T.self X.A 0 _ _ _ (T.keep _ _ _ st2 (λb _ o e=>old b o e)) (loop _ rfl))
theorem YO{K:FZ}{a:Addr}{xs:List V}{caps:List Nat}{tt:TT}{te:TE}{σ:St}{H:Hp}{R:List V->Hp->Prop}(Pv:Nat->List V->Hp->Prop)(h0:Pv 0 [] H)(hl:∀i ys H,i<=xs.length->Pv i ys H->SqT K H a xs/\ys.length<=sizeLine)
  (hs:∀i x ys H,xs[i]? =some x->Pv i ys H->tt (capσ caps σ (some x)) H λb H2=>if b=true then te (capσ caps σ (some x)) H2 λy H3=>Pv (i+1) (ys++ [y]) H3 else Pv (i+1) ys H2)(hd:∀ys H,Pv xs.length ys H->R ys H):
  ∃W:Nat->Nat->List V->Hp->Prop,(∃m,W 0 m [] H)/\∀i m ys H,W i m ys H->ys.length<=sizeLine/\(((Itt K a).stop i H/\R ys H)\/((Itt K a).go i H/\∃N:List V->Hp->Prop,(∀ys' H',N ys' H'->∃m',m'<m/\W (i+1) m' ys' H')/\∀v H',(Itt K a).yld i H v H'->
   tt (capσ caps σ (some v)) H' λb H2=>if b=true then te (capσ caps σ (some v)) H2 λy H3=>N (ys++ [y]) H3 else N ys H2)):=by
 refine⟨λi m ys H=>m=xs.length - i/\i<=xs.length/\Pv i ys H,⟨xs.length,by simp,zero_le _,h0⟩, ?_⟩
 rintro i m ys H ⟨rfl,hi,p⟩
 obtain⟨q,hz⟩:=hl i ys H hi p
 refine⟨hz, ?_⟩
 by_cases hlt:i<xs.length
 ·refine .inr ⟨⟨xs,xs[i],q,by simp[hlt]⟩,Pv (i+1),λys' H' p'=>⟨xs.length - (i+1),by omega,rfl,hlt,p'⟩,λx H' y=> ?_⟩
  obtain⟨e,y⟩:=y
  subst e
  exact hs i x ys _ (y xs q) p
 ·have e:i=xs.length:=by omega
  subst e
  exact .inl ⟨⟨xs,q,le_refl _⟩,hd ys H p⟩
theorem IB{K:FZ}{a:Addr}{xs:List V}{caps:List Nat}{tt:TT}{te:TE}{σ:St}{H:Hp}{R:List V->Hp->Prop}(Pv:Nat->List V->Hp->Prop)(h0:Pv 0 [] H)(hl:∀i ys H,i<=xs.length->Pv i ys H->SqL K H a xs/\ys.length<=sizeLine)
  (hs:∀i x ys H,xs[i]? =some x->Pv i ys H->tt (capσ caps σ (some x)) H λb H2=>if b=true then te (capσ caps σ (some x)) H2 λy H3=>Pv (i+1) (ys++ [y]) H3 else Pv (i+1) ys H2)(hd:∀ys H,Pv xs.length ys H->R ys H):
  ∃W:Nat->Nat->List V->Hp->Prop,(∃m,W 0 m [] H)/\∀i m ys H,W i m ys H->ys.length<=sizeLine/\(((Itl K a).stop i H/\R ys H)\/((Itl K a).go i H/\∃N:List V->Hp->Prop,(∀ys' H',N ys' H'->∃m',m'<m/\W (i+1) m' ys' H')/\∀v H',(Itl K a).yld i H v H'->
   tt (capσ caps σ (some v)) H' λb H2=>if b=true then te (capσ caps σ (some v)) H2 λy H3=>N (ys++ [y]) H3 else N ys H2)):=by
 refine⟨λi m ys H=>m=xs.length - i/\i<=xs.length/\Pv i ys H,⟨xs.length,by simp,zero_le _,h0⟩, ?_⟩
 rintro i m ys H ⟨rfl,hi,p⟩
 obtain⟨q,hz⟩:=hl i ys H hi p
 refine⟨hz, ?_⟩
 by_cases hlt:i<xs.length
 ·refine .inr ⟨⟨xs,xs[i],q,by simp[hlt]⟩,Pv (i+1),λys' H' p'=>⟨xs.length - (i+1),by omega,rfl,hlt,p'⟩,λx H' y=> ?_⟩
  obtain⟨e,y⟩:=y
  subst e
  exact hs i x ys _ (y xs q) p
 ·have e:i=xs.length:=by omega
  subst e
  exact .inl ⟨⟨xs,q,le_refl _⟩,hd ys H p⟩
theorem Q5{lo:Int}{n:Nat}{caps:List Nat}{tt:TT}{te:TE}{σ:St}{H:Hp}{R:List V->Hp->Prop}(Pv:Nat->List V->Hp->Prop)(h0:Pv 0 [] H)(hl:∀i ys H,i<=n->Pv i ys H->ys.length<=sizeLine)
  (hs:∀i ys H,i<n->Pv i ys H->tt (capσ caps σ (some (.int (lo+i)))) H λb H2=>if b=true then te (capσ caps σ (some (.int (lo+i)))) H2 λy H3=>Pv (i+1) (ys++ [y]) H3 else Pv (i+1) ys H2)(hd:∀ys H,Pv n ys H->R ys H):
  ∃W:Nat->Nat->List V->Hp->Prop,(∃m,W 0 m [] H)/\∀i m ys H,W i m ys H->ys.length<=sizeLine/\(((Itr lo n).stop i H/\R ys H)\/((Itr lo n).go i H/\∃N:List V->Hp->Prop,(∀ys' H',N ys' H'->∃m',m'<m/\W (i+1) m' ys' H')/\∀v H',(Itr lo n).yld i H v H'->
   tt (capσ caps σ (some v)) H' λb H2=>if b=true then te (capσ caps σ (some v)) H2 λy H3=>N (ys++ [y]) H3 else N ys H2)):=by
 refine⟨λi m ys H=>m=n - i/\i<=n/\Pv i ys H,⟨n,by simp,zero_le _,h0⟩, ?_⟩
 rintro i m ys H ⟨rfl,hi,p⟩
 refine⟨hl i ys H hi p, ?_⟩
 by_cases hlt:i<n
 ·refine .inr ⟨hlt,Pv (i+1),λys' H' p'=>⟨n - (i+1),by omega,rfl,hlt,p'⟩,λx H' y=> ?_⟩
  obtain⟨e,y⟩:=y
  subst e y
  exact hs i ys _ hlt p
 ·have e:i=n:=by omega
  subst e
  exact .inl ⟨le_refl _,hd ys H p⟩
theorem KM{x:Str}{px:Pos}{iter elt:Expr}{ifs:List Expr}{scope sc:Scope}{N:List Str}{pos:Pos}{wi:TI}{tt:TT}{te:TE}{caps:List Nat}{ns:List Str}
  (CS:CompScope N sc scope x caps ns)(hN':X.N=N)(hsc:X.env.scope=sc)(hc:X.calm=true)(hi:PI X (.Name x px) iter wi)
  (ht:∀cl C s H fp,PTs (X.comp (x::ns) scope cl C s H fp) ifs tt)(he:∀cl C s H fp,PE (X.comp (x::ns) scope cl C s H fp) elt te)
  (hs:∀v,foldedSetIterable iter X.env v=pure v:=by intro _;rfl):
  PE X (.ListComp elt [⟨.Name x px,iter,ifs,0⟩] scope pos) (bjZ wi caps tt te):=by
 intro pins s σ H Q I h
 subst hN';subst hsc
 rw[eval_ListComp]
 refine II CS hc hi ht he hs I h ?_
 rintro D C s' H' ys I' hD r ⟨m,hn⟩ c1 c2 c3 c4 c5
 exact⟨m,hn,λh' hs'=>⟨.ref D,_,I'.turned (t':=s'.toks) (λb o hb e=>(hs'.2 b hb).trans e) c1 c2 (.inr c3) c4 c5,rfl,r D hD⟩⟩
theorem S6{i:Nat}{x y:Str}{px py:Pos}{iter elt:Expr}{ifs:List Expr}{scope sc:Scope}{N:List Str}{pos spos:Pos}{wi:TI}{tt:TT}{te:TE}{caps:List Nat}{ns:List Str}(hN:X.N.Nodup)(hi:X.N[i]? =some y)
  (hy:X.env.scope.names.lookup y=some .local)(CS:CompScope N sc scope x caps ns)(hN':X.N=N)(hsc:X.env.scope=sc)(hc:X.calm=true)(hit:PI X (.Name x px) iter wi)
  (ht:∀cl C s H fp,PTs (X.comp (x::ns) scope cl C s H fp) ifs tt)(he:∀cl C s H fp,PE (X.comp (x::ns) scope cl C s H fp) elt te)
  (hsw:swapsWith (.ListComp elt [⟨.Name x px,iter,ifs,0⟩] scope pos) (some (.Name y py)) spos.line X.env=pure true:=by rfl)
  (hs:∀v,foldedSetIterable iter X.env v=pure v:=by intro _;rfl):
  PS X (.Assign [.Name y py] (.ListComp elt [⟨.Name x px,iter,ifs,0⟩] scope pos) spos) (b0Z (bjZ wi caps tt te) (XO i)):=by
 intro pins s σ H D I h
 subst hN';subst hsc
 rw[exec_Assign_Name_used _ _ _ _ hsw]
 refine bZ (wpAny_standAt (bZ ?_))
 show wpAny _ X.A (do let _<-comprehension (.ListComp elt [⟨.Name x px,iter,ifs,0⟩] scope pos) scope X.env _ (newList []) false (eval iter X.env) (some (assign (.Name y py) X.env))) _ _ s
 refine bZ (wpAny_mono (II (use:=some (assign (.Name y py) X.env)) (Q:=λ_ s'=>SP X pins D .next s') CS hc hit ht he hs I h ?_) (λ_ s' hq=>pZ (pZ hq)) λ_ _ e=>e)
 rintro D' C s' H' ys I' hD r ⟨m,hn⟩ c1 c2 c3 c4 c5
 show wpAny _ _ (assign (.Name y py) X.env (.ref D')) _ _ s'
 refine wpAny_assign_Name (ID (v:=.ref D') I' hN hi (.inl hy) rfl (λs'' I'' ⟨a,sb,ha⟩=> ?_) (.inr hy))
 have hCa:C≠a:=by
  rcases ha with e|e
  ·rw[e];exact c2
  ·exact Ne.symm (c4 y a e)
 exact⟨m,hn.sameBut sb hCa,λh' hs'=>⟨_,_,I''.turned (t':=s''.toks) (λb o hb e=>(hs'.2 b hb).trans e) c1 c2 (.inr c3) c4 c5,r D' hD⟩⟩
end
theorem G1:bootBuiltins "len"=some (.builtin "len"):=by decide +kernel
theorem b1Z:bootBuiltins "max"=some (.builtin "max"):=by decide +kernel
theorem E5:bootBuiltins "isinstance"=some (.builtin "isinstance"):=by decide +kernel
theorem cJZ:bootBuiltins "abs"=some (.builtin "abs"):=by decide +kernel
theorem b4Z:bootBuiltins "all"=some (.builtin "all"):=by decide +kernel
theorem UO:bootBuiltins "sorted"=some (.builtin "sorted"):=by decide +kernel
theorem N2:bootBuiltins "list"=some (.type "list"):=by decide +kernel
theorem N7:bootBuiltins "tuple"=some (.type "tuple"):=by decide +kernel
theorem XV:bootBuiltins "int"=some (.type "int"):=by decide +kernel
theorem TF:bootBuiltins "bool"=some (.type "bool"):=by decide +kernel
theorem ZB:bootBuiltins "str"=some (.type "str"):=by decide +kernel
theorem a1Z:bootBuiltins "dict"=some (.type "dict"):=by decide +kernel
section
variable{X:Cx}
theorem VZ(hc:X.calm=true):CallR X (.builtin "max") (λxs H Q=>∃(p:Addr) (ns:List Int),xs=[.ref p]/\SqL X.K H p (ns.map V.int)/\0<ns.length/\∀M:Int,M∈ns->(∀a∈ns,a<=M)->Q (.int M) H):=by
 intro pins s σ H vs us Q I r h
 obtain⟨p,ns,rfl,hS,hne,q⟩:=h
 obtain⟨u,rfl,ru⟩:=AK r
 cases ru
 obtain⟨its,rv,pl,hz⟩:=I.list hS
 have hi:IntsAre its ns:=QS rv
 obtain⟨xs,e⟩:=hi.allInts.items
 have hns:ns=xs.toList.map (·.1):=by
  rw[<-hi.numsOf,<-nums_intItems,<-e]
 have hsz:0<xs.size:=by
  have h3:=hne;rw[hns,length_map,Array.length_toList]at h3;exact h3
 have hl:=pl.isList
 rw[e]at hl
 refine max_intList (I.ok.hd hc) hl hsz λv h' tk hv hk=> ?_
 obtain⟨t,rfl⟩:=intItems_at hv
 obtain⟨h1,h2⟩:=argBest_gt (numAt xs) (xs.size - 1)
 refine⟨.int _,H,I.kept hk,⟨_,rfl⟩,q _ ?_ λa ha=> ?_⟩
 ·rw[hns,numAt_eq];exact getD_mem (by rw[length_map,Array.length_toList];omega)
 ·rw[hns]at ha
  obtain⟨j,hj,rfl⟩:=mem_getD ha
  rw[length_map,Array.length_toList]at hj
  rw[<-numAt_eq];exact h2 j (by omega)
theorem XL(hc:X.calm=true):CallR X (.builtin "max") (λxs H Q=>(∃i j,xs=[.int i,.int j]/\Q (.int (if j>i then j else i)) H)\/
  (∃(p:Addr) (ns:List Int),xs=[.ref p]/\SqL X.K H p (ns.map V.int)/\0<ns.length/\∀M:Int,M∈ns->(∀a∈ns,a<=M)->Q (.int M) H)):=(VC hc).or (VZ hc)
theorem op_mul_str:OpR X (binaryOp .Mult) (λx y H Q=>∃i n,x=.str i/\y=.int n/\0<=n/\n<=16777216/\i.length*n.toNat<=16777216/\Q (.str (Txt.mul i n)) H):=by
 intro pins s σ H x y v u Q I rx ry h
 obtain⟨i,n,rfl,rfl,h0,h1,h2,q⟩:=h
 obtain⟨t,rfl⟩:=rx
 obtain⟨t',rfl⟩:=ry
 exact SB.mul (mulOk_of i.length n.toNat (le_refl _) (by omega) (by omega) (by omega) h2) λt'' k=>⟨.str _,H,I.tok _,⟨_,rfl⟩,q⟩
noncomputable def Y8:V->Bool
 | .byt _=>false
 | .flt _=>false
 |_=>true
theorem DG{A:Around}{s:Shared}{x:V}{u v:Value}(r:RelV x u)(r':RelV x v)(hx:Y8 x=true):SeqAt.EqAt A s u v true:=by
 cases x with
 |non=>cases r;cases r';exact SeqAt.EqAt.same _
 |bl b=>cases r;cases r';exact SeqAt.EqAt.same _
 |int i=>
  obtain⟨t,rfl⟩:=r;obtain⟨t',rfl⟩:=r'
  have:=SeqAt.EqAt.int_int (A:=A) (s:=s) i t i t'
  simpa using this
 |str i=>
  obtain⟨t,rfl⟩:=r;obtain⟨t',rfl⟩:=r'
  have:=SeqAt.EqAt.str_str (A:=A) (s:=s) i t i t'
  simpa using this
 |ref a=>cases r;cases r';exact SeqAt.EqAt.same _
 |ty n=>cases r;cases r';exact SeqAt.EqAt.same _
 |byt b=>cases hx
 |flt b=>cases hx
theorem IH{A:Around}{s:Shared}{xs:List V}{us vs:List Value}(r:Vals xs us)(r':Vals xs vs)(hx:xs.all Y8=true)(j:Nat)(h1:j<us.toArray.size)(h2:j<vs.toArray.size):SeqAt.EqAt A s us.toArray[j] vs.toArray[j] true:=by
 have hj:j<xs.length:=by rw[r.length];simpa using h1
 obtain⟨u,hu,ru⟩:=r.get (i:=j) (x:=xs[j]) (by simp[hj])
 obtain⟨v,hv,rv⟩:=r'.get (i:=j) (x:=xs[j]) (by simp[hj])
 have e1:us.toArray[j]=u:=by
  have:us[j]? =some us.toArray[j]:=by simp
  rw[hu]at this;exact(Option.some.inj this).symm
 have e2:vs.toArray[j]=v:=by
  have:vs[j]? =some vs.toArray[j]:=by simp
  rw[hv]at this;exact(Option.some.inj this).symm
 rw[e1,e2]
 have hp:=all_eq_true.mp hx xs[j] (getElem_mem hj)
 exact DG ru rv hp
inductive rEqL (K:FZ) (k:Bool) (x:V) (y:V) (H:Hp) (Q:VK):Prop
 |mk:∀a b xs,(x=.ref a)->(y=.ref b)->(SqL K H a xs)->(SqL K H b xs)->(xs.all Y8=true)->(Q (.bl k) H)->rEqL K k x y H Q
theorem bTZ(hu:X.A.units<cLine):OpR X (compareOp .Eq) (rEqL X.K true):=by
 intro pins s σ H x y v u Q I rx ry h
 obtain⟨a,b,xs,rfl,rfl,ha,hb,hp,q⟩:=h
 cases rx;cases ry
 obtain⟨its,r,pl,_⟩:=I.list ha
 obtain⟨its2,r2,pl2,_⟩:=I.list hb
 have hl:its.length=its2.length:=by rw[<-r.length,<-r2.length]
 refine SeqAt.eq_listAt (e:=λ_=>true) pl.isList pl2.isList (by simpa using hl) hu (λj h1 h2=>IH r r2 hp j h1 h2) ⟨.bl true,H,I, ?_,q⟩
 have:((List.range its.toArray.size).all λ_=>true)=true:=by simp
 rw[this];rfl
theorem XW(hu:X.A.units<cLine):OpR X (compareOp .NotEq) (rEqL X.K false):=by
 intro pins s σ H x y v u Q I rx ry h
 obtain⟨a,b,xs,rfl,rfl,ha,hb,hp,q⟩:=h
 cases rx;cases ry
 obtain⟨its,r,pl,_⟩:=I.list ha
 obtain⟨its2,r2,pl2,_⟩:=I.list hb
 have hl:its.length=its2.length:=by rw[<-r.length,<-r2.length]
 refine SeqAt.RcNeAt.lists (e:=λ_=>true) pl.isList pl2.isList (by simpa using hl) hu (λj h1 h2=>IH r r2 hp j h1 h2) X.prog X.w X.xe _ ⟨.bl false,H,I, ?_,q⟩
 have:((List.range its.toArray.size).all λ_=>true)=true:=by simp
 rw[this];rfl
inductive rIsi (K:FZ) (xs:List V) (H:Hp) (Q:VK):Prop
 |mk:∀x c t b,(xs=[x,.ty c])->(TyOf K H x t)->(kitOne K t (.type c)=some b)->(Q (.bl b) H)->rIsi K xs H Q
theorem YD:CallR X (.builtin "isinstance") (rIsi X.K):=by
 intro pins s σ H xs us Q I r h
 obtain⟨x,c,t,b,rfl,ty,hk,q⟩:=h
 obtain⟨u,v,rfl,ru,rv⟩:=SQ r
 cases rv
 exact VS I ru ty hk λtk=>⟨.bl b,H,I.tok _,rfl,q⟩
structure TopD (w:World) (K:FZ) (a:Addr) (kvs:List (Str×V)):Prop where
 ex:∃(es:Array DictEntry) (n:Nat),K.lookup a=some ⟨.type "dict",none,.dict es n, #[]⟩/\PySem.W.KeysLit w.params es.toList/\Paired (λ(p:Str×V) (e:DictEntry)=>(∃t,e.key=.str p.1 t)/\RelV p.2 e.val) kvs es.toList
 lo:(a==sysModules)=false
theorem DM{x:Str}:∀ {kvs:List (Str×V)} {es:List DictEntry},Paired (λ(p:Str×V) (e:DictEntry)=>(∃t,e.key=.str p.1 t)/\RelV p.2 e.val) kvs es->
  RelO (kvs.lookup x) ((es.find? λe=>Value.isStrOf x e.key).map (·.val))
 |_,_,.nil=>trivial
 |(k,v)::kvs,e::es,.cons ⟨⟨t,hk⟩,rv⟩ r=>by
  have hk':e.key=.str k t:=hk
  rw[lookup_cons,find?_cons,hk']
  by_cases hx:x=k
  ·subst hx
   have h1:Value.isStrOf x (.str x t)=true:=by simp[Value.isStrOf]
   rw[h1,beq_self_eq_true]
   exact rv
  ·have h1:Value.isStrOf x (.str k t)=false:=by
    cases h:Value.isStrOf x (.str k t)with
    |false=>rfl
    |true=>
     obtain⟨t',e'⟩:=Value.isStrOf_shape (x:=x) (v:=.str k t) h
     injection e' with e1 _
     exact absurd e1.symm hx
   have h2:(x==k)=false:=beq_eq_false_iff_ne.mpr hx
   rw[h1,h2]
   exact DM r
theorem TopD.map{w:World}{K:FZ}{a:Addr}{kvs:List (Str×V)}(T:TopD w K a kvs){prog:Program}{h:Heap}(KX:K.In h):
  ∃f:Str->Option Value,h.MapOf (strKind prog w) a f/\∀x,RelO (kvs.lookup x) (f x):=by
 obtain⟨es,n,hl,hk,hp⟩:=T.ex
 refine⟨λk=>findBy Value.isStrOf es k,PySem.W.mapOf_K KX hl hk,λx=> ?_⟩
 have q:=DM (x:=x) hp
 show RelO (List.lookup x kvs) ((es.find? λe=>Value.isStrOf x e.key).map (·.val))
 rw[<-Array.find?_toList]
 exact q
inductive rIxTop (w:World) (K:FZ) (x:V) (y:V) (H:Hp) (Q:VK):Prop
 |mk:∀a k kvs v,(x=.ref a)->(y=.str k)->(TopD w K a kvs)->(kvs.lookup k=some v)->(Q v H)->rIxTop w K x y H Q
theorem c8Z:IxR X (rIxTop X.w X.K):=by
 intro value slice pins s σ H x y v u Q I rx ry h hs
 obtain⟨a,k,kvs,z,rfl,rfl,T,hz,q⟩:=h
 cases rx
 obtain⟨t,rfl⟩:=ry
 obtain⟨f,hm,hf⟩:=T.map (prog:=X.prog) I.kIn
 have hr:=hf k
 rw[hz]at hr
 obtain⟨w',e,r⟩:=hr.some_of
 exact tail_any hm.typeIs slot_dict_getitem.lookup (wpAny_getItem_of (strKind_is X.prog X.w k t) hm e ⟨z,H,I.tok _,r,q⟩) hs
theorem UY:OpR X (compareOp .In) (λx y H Q=>∃k a kvs,x=.str k/\y=.ref a/\TopD X.w X.K a kvs/\Q (.bl (kvs.lookup k).isSome) H):=by
 intro pins s σ H x y v u Q I rx ry h
 obtain⟨k,a,kvs,rfl,rfl,T,q⟩:=h
 cases ry
 obtain⟨t,rfl⟩:=rx
 obtain⟨f,hm,hf⟩:=T.map (prog:=X.prog) I.kIn
 have hr:=hf k
 have e:(f k).isSome=(kvs.lookup k).isSome:=by
  cases h1:kvs.lookup k with
  |none=>rw[h1]at hr;rw[hr.none_of];rfl
  |some z=>rw[h1]at hr;obtain⟨w',e,_⟩:=hr.some_of;rw[e];rfl
 exact wpAny_in_of (strKind_is X.prog X.w k t) T.lo hm ⟨.bl _,H,I.tok _,by rw[e];rfl,q⟩
theorem aJZ:OpR X (binaryOp .Add) (λx y H Q=>rI0 (λi j=> .int (i+j)) x y H Q\/(∃i j,x=.str i/\y=.str j/\i.length+j.length<=sizeLine/\Q (.str (i++j)) H)\/rCat x y H Q):=op_add.or (op_add_str.or op_cat)
theorem KS:OpR X (binaryOp .Mult) (λx y H Q=>rI CMul (λi j=> .int (i*j)) x y H Q\/(∃i n,x=.str i/\y=.int n/\0<=n/\n<=16777216/\i.length*n.toNat<=16777216/\Q (.str (Txt.mul i n)) H)\/d6Z x y H Q):=op_mul.or (op_mul_str.or cXZ)
theorem uEq(hu:X.A.units<cLine):OpR X (compareOp .Eq) (λx y H Q=>rEq x y H Q\/rEqL X.K true x y H Q):=op_eq.or (bTZ hu)
theorem uNe(hu:X.A.units<cLine):OpR X (compareOp .NotEq) (λx y H Q=>rNe x y H Q\/rEqL X.K false x y H Q):=op_ne.or (XW hu)
theorem uIn:OpR X (compareOp .In) (λx y H Q=>(∃i j,x=.str i/\y=.str j/\Q (.bl (!(Builtin.Str.occurrences j i 0 j.length 1).isEmpty)) H)\/rIn X.K false x y H Q\/(∃k a kvs,x=.str k/\y=.ref a/\TopD X.w X.K a kvs/\Q (.bl (kvs.lookup k).isSome) H)):=op_in_str.or (op_in_seq.or UY)
theorem b7Z:IxR X (λx y H Q=>rIxL X.K x y H Q\/rIxT X.K x y H Q\/rIxS x y H Q\/rIxTop X.w X.K x y H Q):=ix_list.or (ix_tup.or (ix_str.or c8Z))
theorem sl_any:SlR X (λx lo hi H Q=>rSlL X.K x lo hi H Q\/rSlT X.K x lo hi H Q):=sl_list.or cLZ
inductive tCut (t:TS) (D:Ends) (σ:St) (H:Hp):Prop
 |mk:∀R:St->Hp->Prop,(t {D with nx:=R} σ H)->(∀σ' H',R σ' H'->D.nx σ' H')->tCut t D σ H
theorem E1{st:Stmt}{t:TS}(h:PS X st t):PS X st (tCut t):=λpins s σ H D I ⟨R,q,hR⟩=>thn (h pins s σ H _ I q) λf s' hs=>by
 cases f with
 |next=>obtain⟨σ',H',I',r⟩:=hs;exact⟨σ',H',I',hR σ' H' r⟩
 |brk=>exact hs
 |cont=>exact hs
 |ret v=>exact hs
variable{K:FZ}{w:World}
theorem kEq(hu:X.A.units<cLine)(hK:X.K=K:=by rfl):OpR X (compareOp .Eq) (λx y H Q=>rEq x y H Q\/rEqL K true x y H Q):=by subst hK;exact uEq hu
theorem kNe(hu:X.A.units<cLine)(hK:X.K=K:=by rfl):OpR X (compareOp .NotEq) (λx y H Q=>rNe x y H Q\/rEqL K false x y H Q):=by subst hK;exact uNe hu
theorem kIn(hK:X.K=K:=by rfl)(hw:X.w=w:=by rfl):OpR X (compareOp .In) (λx y H Q=>(∃i j,x=.str i/\y=.str j/\Q (.bl (!(Builtin.Str.occurrences j i 0 j.length 1).isEmpty)) H)\/rIn K false x y H Q\/(∃k a kvs,x=.str k/\y=.ref a/\TopD w K a kvs/\Q (.bl (kvs.lookup k).isSome) H)):=by
 subst hK;subst hw;exact uIn
theorem kIx(hK:X.K=K:=by rfl)(hw:X.w=w:=by rfl):IxR X (λx y H Q=>rIxL K x y H Q\/rIxT K x y H Q\/rIxS x y H Q\/rIxTop w K x y H Q):=by subst hK;subst hw;exact b7Z
theorem J8(hK:X.K=K:=by rfl):CallR X (.builtin "len") (rLen K):=by subst hK;exact ZR
theorem W0(hK:X.K=K:=by rfl):CallR X (.type "list") (λxs H Q=>∃p ys,xs=[.ref p]/\(SqL K H p ys\/SqT K H p ys)/\∀l,H l=none->Q (.ref l) (upd H l (.lst ys))):=by subst hK;exact LJ
theorem BQ(hK:X.K=K:=by rfl):CallR X (.type "tuple") (λxs H Q=>∃p ys,xs=[.ref p]/\((SqL K H p ys/\∀l,H l=none->Q (.ref l) (upd H l (.tup ys)))\/SqT K H p ys/\Q (.ref p) H)):=by subst hK;exact HR
theorem dAZ(hc:X.calm=true)(hK:X.K=K:=by rfl):CallR X (.builtin "max") (λxs H Q=>(∃i j,xs=[.int i,.int j]/\Q (.int (if j>i then j else i)) H)\/
  (∃(p:Addr) (ns:List Int),xs=[.ref p]/\SqL K H p (ns.map V.int)/\0<ns.length/\∀M:Int,M∈ns->(∀a∈ns,a<=M)->Q (.int M) H)):=by subst hK;exact XL hc
theorem X0(hK:X.K=K:=by rfl):CallR X (.builtin "isinstance") (rIsi K):=by subst hK;exact YD
variable{o e st l c:Expr}{es:List Expr}{to te ts tl:TE}{t:TA}{name:Str}{apos cpos pos p2:Pos}{T id:String}{r:V->List V->Hp->VK->Prop}{tg:Expr}
theorem IL(pa:PlainAttrs T)(slot:Slot T name id)(hty:typeOf (.builtin id)=pure (.type "method_descriptor"))(hm:MtR X id r)(ho:PE X o to)(hK:X.K=K:=by rfl)
  (hbase:attributeBase o name X.env (eval o X.env)=eval o X.env:=by rfl)(hline:(apos.endLine==cpos.line)=true:=by rfl):PE X (.Call (.Attribute o name apos) [] [] cpos) (dNZ K T r to):=by
 subst hK;exact bXZ pa slot hty hm ho hbase hline
theorem M1(pa:PlainAttrs T)(slot:Slot T name id)(hty:typeOf (.builtin id)=pure (.type "method_descriptor"))(hm:MtR X id r)(ho:PE X o to)(ha:PA X (e::es) t)(hK:X.K=K:=by rfl)
  (hbase:attributeBase o name X.env (eval o X.env)=eval o X.env:=by rfl)
  (hfew:((backTo cpos (starEach (e::es) X.env)).all (λx=> !x.1)&&(backToKw cpos (keywordEach [] X.env)).all (λx=>x.1.isSome)
   &&decide ((e::es).length+([]:List Keyword).length+(if([]:List Keyword).isEmpty then 0 else 1)<30))=true:=by rfl)
  (hline:(apos.endLine==cpos.line)=true:=by rfl)(hs:starEach (e::es) X.env=(false,eval e X.env)::starEach es X.env:=by rfl)(hplain:(backTo cpos (starEach es X.env)).any (·.1)=false:=by rfl):
  PE X (.Call (.Attribute o name apos) (e::es) [] cpos) (tBM K T r to t):=by
 subst hK;exact dpZ pa slot hty hm ho ha hbase hfew hline hs hplain
theorem AC(hl:PE X l tl)(hK:X.K=K:=by rfl):PI X tg l (btZ K tl):=by subst hK;exact aWZ hl
theorem b2Z(hl:PE X l tl)(hK:X.K=K:=by rfl):PI X tg l (dZZ K tl):=by subst hK;exact cQZ hl
noncomputable def ebZ(K:FZ)(ta:TE):TT:=fun σ H Q=>ta σ H λx H'=>∃k,cMZ K x H' k/\Q k H'
theorem M3(ha:PE X e te)(he:∀whole,isTrue e X.env whole=(do let v<-whole;standAt e.pos;holding [v] (truthy v)))(hK:X.K=K:=by rfl):PT X e (ebZ K te):=by subst hK;exact YG ha he
end
theorem GC{σ:St}{H:Hp}{A B:Hp->Prop}(h:A H):RZ σ H (λb H2=>if b=true then A H2 else B H2):=by
 show if true=true then A H else B H
 rw[if_pos rfl];exact h
theorem GE(xs:List V)(k:Nat):J9 xs (some (k:Int)) none=xs.drop k:=by
 unfold J9
 rw[HT.sIx_nat,HT.sIx_none]
 by_cases h:k<=xs.length
 ·rw[min_eq_left h,take_of_length_le (by simp)]
 ·rw[min_eq_right (by omega),drop_eq_nil_of_le (le_refl _),drop_eq_nil_of_le (by omega)]
  simp
theorem QH(xs:List V)(k:Nat):J9 xs none (some (k:Int))=xs.take k:=by
 unfold J9
 rw[HT.sIx_nat,HT.sIx_none]
 simp only[List.drop_zero,sub_zero]
 by_cases h:k<=xs.length
 ·rw[min_eq_left h]
 ·rw[min_eq_right (by omega),take_of_length_le (le_refl _),take_of_length_le (by omega)]
theorem NY(xs:List V)(a b:Nat):J9 xs (some (a:Int)) (some (b:Int))=(xs.drop a).take (b - a):=by
 unfold J9
 rw[HT.sIx_nat,HT.sIx_nat]
 by_cases ha:a<=xs.length
 ·rw[min_eq_left ha]
  by_cases hb:b<=xs.length
  ·rw[min_eq_left hb]
  ·rw[min_eq_right (by omega),take_of_length_le (by simp),take_of_length_le (by simp;omega)]
 ·rw[min_eq_right (Nat.le_of_not_le ha),drop_eq_nil_of_le (le_refl _),drop_eq_nil_of_le (Nat.le_of_not_le ha)]
  simp
section
variable{M:Model}{A:Around}{E:Value->Shared->Prop}{s:Shared}
variable{X:Cx}{pins:List (Addr×Obj)}{σ:St}{H1 H2:Hp}{s1:Shared}{h1 h2:Heap}
end
section
variable{P:Program}{w:World}{K:FZ}{mg:Str->Option Value}{base:Heap}{N:List Str}{qual:Str}{scope:Scope}{f:Addr}{cd:Value}{A:Around}{outer:List Env}{s:Shared}{H:Hp}{E:XK}
 {pins:List (Addr×Obj)}{σ:St}{H1:Hp}{s1:Shared}
variable{h g:Heap}{a:Addr}{C:Value}
variable{fs:List Addr}{H1 H2:Hp}{h0 h1 h2:Heap}
variable{X:Cx}{pins:List (Addr×Obj)}{σ:St}{s1 s2:Shared}
end
section
variable{M:Model}{A:Around}{E:Value->Shared->Prop}{h:Heap}{g:Array GenState}{d:Drawn}{t:Nat}{os:OsState}
variable{X:Cx}{pins:List (Addr×Obj)}{σ:St}{H:Hp}{s:Shared}{e:Value}
variable{xe:Value->Shared->Prop}
end
noncomputable abbrev TEX:=St->Hp->VK->XK->Prop
noncomputable abbrev TSX:=Ends->(St->XK)->St->Hp->Prop
section
variable{X:Cx}{k:Nat}{f C:Addr}{fd:FuncData}{ps:List Str}{sp:Sp}{dvs:List V}{ds:List Value}{x m:Str}{p pos apos:Pos}{e o:Expr}{es:List Expr}{ta:TE}{t:TA}
end
section
variable{X:Cx}{e:Expr}{pos:Pos}{t:TEX}{st:Stmt}{rest:List Stmt}{a b:List Stmt}{ta tb:TSX}
variable{x n:Str}{np hpos:Pos}{body suite:List Stmt}{b₀:Stmt}{i:Nat}{ts:TS}{D0:Addr}{Ok:Addr->Prop}
end
section
variable{prog:Program}{w:World}{A:Around}{E:Value->Shared->Prop}{h:Heap}{g:Array GenState}{d:Drawn}{t:Nat}{os:OsState}{a C:Addr}{o:Obj}{bm bmB:List Value}{nid:String}
variable{X:Cx}{pins:List (Addr×Obj)}{σ:St}{H:Hp}{s:Shared}
variable{tg:Expr}
noncomputable def eDZ:V->Option Int->Option Int->Hp->VK->Prop:=λx lo hi H Q=>∃z,x=.str z/\z.length<=sizeLine/\Q (.str (Txt.slice z lo hi)) H
theorem SG{v:Value}{k:Option Int}(p:IsPart v k):∃o:Option (Int×Tok),partValue o=v/\o.map (·.1)=k:=by
 cases p with
 |none=>exact⟨none,rfl,rfl⟩
 |int i t=>exact⟨some (i,t),rfl,rfl⟩
theorem ciZ:SlR X eDZ:=by
 intro pins s σ H x v vl vu lo hi sl Q I rx hs pl pu h
 obtain⟨z,rfl,hz,q⟩:=h
 obtain⟨t,rfl⟩:=rx
 obtain⟨l,el,ml⟩:=SG pl
 obtain⟨u,eu,mu⟩:=SG pu
 refine⟨"str",_,F.slot_str_getitem.lookup,typeIs_str _ _ _, ?_⟩
 obtain⟨o,h1,h2,h3⟩:=hs
 refine wpAny_getItem_str_slice (l:=l) (u:=u) (st:=none) ⟨o,h1,h2,by rw[el,eu];exact h3⟩ rfl ?_
 have e:sliceMade z t l u none=if((1:Int)==1&&(Builtin.Str.strSliceIndices lo hi 1 z.length).length==z.length)=true then .val (.str z t)else .str ⟨((Builtin.Str.strSliceIndices lo hi 1 z.length).filterMap (z.cps[·]?)).toArray⟩:=by
  subst ml mu;rfl
 rw[e]
 refine post_val_or_str ⟨le_trans (Txt.slice_le z lo hi) hz,λt' k=> ?_⟩
 exact⟨.str (Txt.slice z lo hi),H,I.tok _,⟨_,rfl⟩,q⟩
theorem VO{bs:List Bool}{its:List Value}(r:Vals (bs.map V.bl) its){i:Nat}{v:Value}(e:its[i]? =some v):v=.bool (bs.getD i false):=by
 have hl:=r.length
 obtain⟨hi,_⟩:=List.getElem?_eq_some_iff.mp e
 have hb:i<bs.length:=by rw[length_map]at hl;omega
 have hx:(bs.map V.bl)[i]? =some (V.bl (bs.getD i false)):=by simp[hb]
 obtain⟨u,e2,ru⟩:=r.get hx
 rw[e]at e2;cases e2
 exact ru
theorem VM(bs:List Bool):((List.range bs.length).all λi=>bs.getD i false)=bs.all id:=by
 rw[Bool.eq_iff_iff,all_eq_true,all_eq_true]
 constructor
 ·intro h x hx
  obtain⟨i,hi,e⟩:=List.getElem_of_mem hx
  have:=h i (mem_range.mpr hi)
  simpa [List.getD_eq_getElem?_getD,List.getElem?_eq_getElem hi,e]using this
 ·intro h i hi
  have hi:=mem_range.mp hi
  have:=h bs[i] (getElem_mem hi)
  simpa [List.getD_eq_getElem?_getD,List.getElem?_eq_getElem hi]using this
theorem VE(hc:X.calm=true):CallR X (.builtin "all") (λxs H Q=>∃(p:Addr) (bs:List Bool),xs=[.ref p]/\SqL X.K H p (bs.map V.bl)/\Q (.bl (bs.all id)) H):=by
 intro pins s σ H vs us Q I r h
 obtain⟨p,bs,rfl,hS,q⟩:=h
 obtain⟨u,rfl,ru⟩:=AK r
 cases ru
 obtain⟨its,rv,pl,hz⟩:=I.list hS
 have hl:its.length=bs.length:=by have:=rv.length;rw[length_map]at this;omega
 refine call_all_walk (wpAny_pyIter_list pl.isList ?_)
 obtain⟨ol,el,cl,dl⟩:=id pl.isList
 have hpne:p≠s.heap.objs.size:=ne_of_lt (lt_size el)
 have W:=Walks.list (prog:=X.prog) (w:=X.w) (A:=X.A.in1) (show X.A.in1.handled=none from I.ok.hd hc) s.heap.objs.size p hpne its.toArray
 refine⟨s.heap.objs.size,[s.heap.objs.size,p],[s.heap.objs.size],its.toArray.size,_,_,λi=>bs.getD i false,rfl,W,⟨⟨_,get?_push_size _ rfl,rfl,rfl⟩,⟨ol,gZ _ el,cl,dl⟩⟩, ?_, ?_⟩
 ·intro i v s' Q' E' hP hQ
  have e:v=.bool (bs.getD i false):=VO rv (by simpa using hP)
  subst e
  exact pZ hQ
 ·intro h' tk hk
  have e:((List.range its.toArray.size).all λi=>bs.getD i false)=bs.all id:=by
   rw[size_toArray,hl];exact VM bs
  rw[e]
  refine⟨.bl (bs.all id),H,I.kept (t':=tk) λb o e=>hk b o (λz=> ?_) (gZ _ e),rfl,q⟩
  have z':b=s.heap.objs.size:=by simpa using z
  subst z'
  exact absurd (lt_size e) (lt_irrefl _)
variable{e v1 v2:Expr}{es:List Expr}{te:TE}{tp t:St->Hp->(Hp->Prop)->Prop}{pos:Pos}
variable{K:FZ}
theorem d2Z(hc:X.calm=true)(hK:X.K=K:=by rfl):CallR X (.builtin "all") (λxs H Q=>∃(p:Addr) (bs:List Bool),xs=[.ref p]/\SqL K H p (bs.map V.bl)/\Q (.bl (bs.all id)) H):=by subst hK;exact VE hc
end
noncomputable abbrev tx(l:List Nat):Str:=⟨l.toArray⟩
theorem QE(l:List Nat):(tx l).length=l.length:=by simp[Str.length]
theorem CZ{a b:List Nat}(h:tx a=tx b):a=b:=by
 have:=congrArg (λs:Str=>s.cps.toList) h
 simpa using this
end L2
namespace PySem
end PySem
namespace L2
open PySem PySem.Spec PyProof.Rows
section
variable{X:Cx}
variable{o e f:Expr}{td:TE}{t:TA}{apos cpos:Pos}{K:FZ}{w:World}
variable{K:FZ}
variable{P:Program}{w:World}{mg:Str->Option Value}{base:Heap}{A:Around}{CX:CXT}{E:XK}{x:Str}{p pos:Pos}{e:Expr}{es:List Expr}{tf:TE}{t:TA}
end
theorem DK:bootBuiltins "reversed"=some (.type "reversed"):=by decide +kernel
noncomputable def Itv(K:FZ)(a:Addr)(n:Nat):It:=
 ⟨λi H=>∃xs x,SqL K H a xs/\xs.reverse[i]? =some x/\xs.length=n,λi H x H'=>H'=H/\∀xs,SqL K H a xs->xs.reverse[i]? =some x,λi _=>i=n⟩
theorem XF{P:Program}{w:World}{K:FZ}{tg:Expr}(a it:Addr)(n:Nat):Turn P w K tg (Itv K a n) [it] it (λi h=>h.IsRevIter it a ((n:Int) - 1 - (i:Int))) where
 mem:=by simp
 obj:=λi h st b hb=>by
  have e:b=it:=by simpa using hb
  subst e
  obtain⟨o,e,c,d⟩:=st
  exact⟨o,e,λv z=>by rw[d]at z;cases z⟩
 keep:=λi h h' st k=>st.at λo e=>k it (by simp) o e
 item:=by
  intro X hP hw hK hc i pins s σ H E I hf st hg
  subst hP hw hK
  obtain⟨xs,x,hq,hx,hn⟩:=hg
  obtain⟨its,rv,p,hz⟩:=I.list hq
  have hlt:i<xs.length:=by
   have:=(List.getElem?_eq_some_iff.mp hx).1
   simpa using this
  rw[getElem?_reverse hlt]at hx
  obtain⟨u,hu,ru⟩:=rv.get hx
  obtain⟨f0,f1,f2,f3,f4,f5⟩:=hf it (by simp)
  have e1:(n:Int) - 1 - (i:Int)=((xs.length - 1 - i:Nat):Int):=by omega
  have st1:=st
  rw[e1]at st1
  refine wpAny_pyNext_rev_item st1 p.isList (x:=u) (by simpa using hu) λh' st' sb=> ?_
  have I1:Inv X pins σ H {s with heap:=h'}:=I.turned (t':=s.toks) (λb o hb e=>(sb.2 b hb).trans e) f0 f1 f3 f4 f5
  have e2:((xs.length - 1 - i:Nat):Int) - 1=(n:Int) - 1 - ((i+1:Nat):Int):=by omega
  rw[e2]at st'
  obtain⟨o,e,c,d⟩:=id st'
  exact⟨u,rfl,SF (s:={s with heap:=h'}) e c d (by decide) ⟨x,H,I1,ru,⟨rfl,λys hy=>by rw[I.list_inj hy hq,getElem?_reverse hlt];exact hx⟩,st',λb hb=>(hf b hb).1⟩⟩
 done:=by
  intro X hP hw hK hc i pins s σ H E I hf st hg
  subst hP hw hK
  obtain⟨f0,f1,f2,f3,f4,f5⟩:=hf it (by simp)
  have hi:i=n:=hg
  have e1:(n:Int) - 1 - (i:Int)= -1:=by omega
  rw[e1]at st
  exact wpAny_pyNext_rev_end (I.ok.hd hc) st λh' eb=>⟨rfl,I.turned (t':=s.toks) (λb o hb e=>eb b o hb e) f0 f1 f3 f4 f5⟩
 self:=λ_ _ _ _ _ st h=>wpAny_pyIter_revIter st h
section
variable{X:Cx}{tg:Expr}{K:FZ}
noncomputable def eBZ(K:FZ)(ta:TA):TI:=fun σ H R=>ta σ H λvs H1=>∃a xs,vs=[.ref a]/\SqL K H1 a xs/\R (Itv K a xs.length) H1
theorem cUZ{a:Expr}{ta:TA}{p pos:Pos}(hg:Gl X "reversed")(hm:X.mg "reversed"=none)(ha:PA X [a] ta)(hK:X.K=K:=by rfl)(hs:starEach [a] X.env=[(false,eval a X.env)]:=by rfl):PI X tg (.Call (.Name "reversed" p) [a] [] pos) (eBZ K ta):=by
 subst hK
 intro pins s σ H R I h
 refine Call_ (AX I hg hm DK (callWith_type1 (thn (ha pos pins s σ H _ I h) λus s1 ⟨vs,H1,I1,r1,q1⟩=> ?_) hs rfl))
 obtain⟨l,xs,e,hq,q⟩:=q1
 subst e
 cases r1 with
 |cons r rr=>
  cases rr
  cases r
  obtain⟨its,rv,pl,hz⟩:=I1.list hq
  have hl:its.toArray.size=xs.length:=by rw[size_toArray];exact rv.length.symm
  refine call_reversed_list pl.isList ?_
  have st:(s1.heap.push (revObj l ((its.toArray.size:Int) - 1))).IsRevIter s1.heap.objs.size l ((xs.length:Int) - 1 - ((0:Nat):Int)):=⟨_,get?_push_size _ rfl,rfl,by rw[hl];simp[revObj]⟩
  refine wpAny_pyIter_revIter st ?_
  refine⟨s1.heap.objs.size,[s1.heap.objs.size],_,_,H1,rfl,I1.kept (t':=s1.toks) λb o e=>gZ _ e,XF l _ xs.length,st,λb hb=> ?_,q⟩
  have e:b=s1.heap.objs.size:=by simpa using hb
  subst e
  exact I1.fpOk (le_refl _) (I1.hok.fresh (le_refl _))
end
theorem avZ{K:FZ}{a:Addr}{xs:List V}{g:TG}{tb:TS}{D:Ends}{σ:St}{H:Hp}(Pv:Nat->St->Hp->Prop)(h0:Pv 0 σ H)(hl:∀i σ H,i<=xs.length->Pv i σ H->SqL K H a xs)
  (hs:∀i x σ H,xs.reverse[i]? =some x->Pv i σ H->g x σ H fun σ2 H2=>tb {D with nx:=Pv (i+1),ct:=Pv (i+1),bk:=D.nx} σ2 H2)(hd:∀σ H,Pv xs.length σ H->D.nx σ H):
  ∃W:Nat->Nat->St->Hp->Prop,(∃m,W 0 m σ H)/\∀i m σ H,W i m σ H->
   ((Itv K a xs.length).stop i H/\D.nx σ H)\/((Itv K a xs.length).go i H/\∃N:St->Hp->Prop,(∀σ' H',N σ' H'->∃m',m'<m/\W (i+1) m' σ' H')/\∀x H',(Itv K a xs.length).yld i H x H'->g x σ H' fun σ2 H2=>tb {D with nx:=N,ct:=N,bk:=D.nx} σ2 H2):=by
 refine⟨λi m σ H=>m=xs.length - i/\i<=xs.length/\Pv i σ H,⟨xs.length,by simp,zero_le _,h0⟩, ?_⟩
 rintro i m σ H ⟨rfl,hi,p⟩
 have q:=hl i σ H hi p
 by_cases hlt:i<xs.length
 ·have hlt':i<xs.reverse.length:=by rw[length_reverse];exact hlt
  refine .inr ⟨⟨xs,xs.reverse[i],q,List.getElem?_eq_getElem hlt',rfl⟩,Pv (i+1),fun σ' H' p'=>⟨xs.length - (i+1),by omega,rfl,hlt,p'⟩,λx H' y=> ?_⟩
  obtain⟨e,y⟩:=y
  subst e
  exact hs i x σ _ (y xs q) p
 ·have e:i=xs.length:=by omega
  subst e
  exact .inl ⟨rfl,hd σ H p⟩
end L2
namespace PySem
namespace F
theorem nolen_lri:typeLookup (.type "list_reverseiterator") "__len__"=pure none:=by rw[typeLookup_type,builtinLookup_eq_fast];kernel_rfl
theorem hint_lri:typeLookup (.type "list_reverseiterator") "__length_hint__"=pure (some (.builtin "list_reverseiterator.__length_hint__")):=by rw[typeLookup_type,builtinLookup_eq_fast];kernel_rfl
end F
section
variable{prog:Program}{w:World}{A:Around}{E:Value->Shared->Prop}{s:Shared}
noncomputable abbrev Z1(items:Array Value):Nat->Value->Prop:=λi v=>items[items.size - 1 - i]? =some v
theorem DF{R:Result->Shared->Prop}(hh:A.handled=none){I l:Addr}{items:Array Value}(hit:s.heap.IsRevIter I l ((items.size:Int) - 1))(hl:s.heap.IsList l items)(hne:l≠I)(S:Addr)(res:Value)(c₀:Nat)
  (hS:s.heap.get? S=some {cls:=.type "list",data:=.seq #[] c₀})(hSI:S≠I)(hSl:S≠l)
  (hR:∀h' tk acc' c',(∀b o,b≠S->b≠I->s.heap.get? b=some o->h'.get? b=some o)->h'.get? S=some {cls:=.type "list",dict:=none,data:=.seq acc' c',slots:= #[]}->
   ItemsOf (Z1 items) acc' items.size->R (.ok (.ret res)) {s with heap:=h',toks:=tk})(hn:items.size<=sizeLine):
  wpAny (model prog w) A.in1 (Builtin.List.listExtendWith (.ref S) (.ref I) res)
   (λfin s'=>match fin with| .done f=>R (.ok f) s'| .again c'=>c'.quiet=true/\codeAny (model prog w) A c' R s') (λe s'=>R (.error e) s') s:=by
 have hSf:S∉ [I,l]:=λhm=>by
  rcases cZ hm with e|hm
  ·exact hSI e
  ·exact hSl (sZ hm)
 have W:=(Walks.listRev (prog:=prog) (w:=w) (A:=A.in1) hh I l hne items).toS
 have hit0:s.heap.IsRevIter I l ((items.size:Int) - 1 - ((0:Nat):Int)):=by
  have e:(items.size:Int) - 1 - ((0:Nat):Int)=(items.size:Int) - 1:=by omega
  rw[e];exact hit
 unfold Builtin.List.listExtendWith
 refine bZ (wpAny_typeOf (T:="list_reverseiterator") hit.typeIs ?_)
 have h1:Builtin.List.listSameRef (.ref S) (.ref I)=false:=by simp[Builtin.List.listSameRef,hSI]
 have h2:(Value.type "list_reverseiterator"==Value.type "list")=false:=by decide
 have h3:(Value.type "list_reverseiterator"==Value.type "tuple")=false:=by decide
 simp only[h1,h2,h3,Bool.or_false,Bool.false_eq_true,if_false]
 refine bZ (wpAny_pyIter_revIter hit ?_)
 refine bZ (wpAny_holding ?_)
 unfold Builtin.List.listLengthHint
 refine bZ (wpAny_specialOf hit.typeIs F.nolen_lri ?_)
 show wpAny _ A.in1 (specialOf (Value.ref I) (Str.ofString "__length_hint__")>>=_) _ _ _
 refine bZ (wpAny_specialOf hit.typeIs F.hint_lri ?_)
 generalize hid:("list_reverseiterator.__length_hint__":String)=id0
 wp_delta
 rw[show splitId id0=some ("list_reverseiterator","__length_hint__")from by subst hid;decide +kernel]
 subst hid
 refine bZ (wpAny_isInstance (b:=true) hit.typeIs (by rw[isSubtype_type];kernel_rfl) ?_)
 refine pZ ?_
 rw[if_neg (by decide)]
 refine pZ ⟨plainId_quiet F.plain_extend_loop _,codeAny_extend_loopS W hn _ hSf _ items.size 0 _ _ _ rfl (zero_le _) ⟨zero_le _,hit0,hl⟩ hS (ItemsOf.nil _) λs' acc' c' hm hS' hacc=> ?_⟩
 rw[Moved.eq_with hm]
 refine hR s'.heap s'.toks acc' c' (λb ob hb hb2 e=>hm.heap b ob (λhmem=> ?_) e) hS' hacc
 rcases cZ hmem with e'|hmem
 ·exact hb e'
 ·exact hb2 (sZ hmem)
theorem AH{R:Result->Shared->Prop}(hh:A.handled=none){I l:Addr}{items:Array Value}(hit:s.heap.IsRevIter I l ((items.size:Int) - 1))(hl:s.heap.IsList l items)(hne:l≠I)(S:Addr)(hSI:S≠I)(hSl:S≠l)
  (hS:s.heap.get? S=some {cls:=.type "list",data:=.seq #[]})
  (hR:∀h' tk acc' c',(∀b o,b≠S->b≠I->s.heap.get? b=some o->h'.get? b=some o)->h'.get? S=some {cls:=.type "list",dict:=none,data:=.seq acc' c',slots:= #[]}->
   ItemsOf (Z1 items) acc' items.size->R (.ok (.ret .none)) {s with heap:=h',toks:=tk})(hn:items.size<=sizeLine):
  wpAny (model prog w) A.in1 (Builtin.«list.__init__» ⟨[.ref S,.ref I],[]⟩)
   (λfin s'=>match fin with| .done f=>R (.ok f) s'| .again c'=>c'.quiet=true/\codeAny (model prog w) A c' R s') (λe s'=>R (.error e) s') s:=by
 show wpAny _ _ (do let old<-Builtin.List.listItems (.ref S);Builtin.List.listUpdate (.ref S) (λ_=> #[]);letGo old.toList.reverse;Builtin.List.listExtendWith (.ref S) (.ref I) .none) _ _ s
 refine bZ ?_
 unfold Builtin.List.listItems
 refine bZ (wpAny_seqItems hS rfl (pZ ?_))
 show wpAny _ _ (updateSeq S (λ_=> #[])>>=λ_=>letGo (#[]:Array Value).toList.reverse>>=λ_=>Builtin.List.listExtendWith (.ref S) (.ref I) .none) _ _ s
 refine bZ (wpAny_updateSeq hS rfl ?_)
 have hS₂:=get?_update_self (Obj.mapSeq (λ_=>(#[]:Array Value))) hS rfl
 have oth:∀b o,b≠S->s.heap.get? b=some o->(s.heap.update S (Obj.mapSeq (λ_=>(#[]:Array Value)))).get? b=some o:=
  λb o hb e=>(get?_update_other _ _ (Ne.symm hb)).trans e
 refine bZ (wpAny_letGo ?_)
 refine DF hh (hit.at λo e=>oth I o (Ne.symm hSI) e) (hl.at λo e=>oth l o (Ne.symm hSl) e) hne S .none _ hS₂ hSI hSl (λh' tk acc' c' hk hS' hacc=> ?_) hn
 exact hR h' tk acc' c' (λb o hb hb2 e=>hk b o hb hb2 (oth b o hb e)) hS' hacc
theorem HK{Q:Value->Shared->Prop}(hh:A.handled=none){I l:Addr}{items:Array Value}(hit:s.heap.IsRevIter I l ((items.size:Int) - 1))(hl:s.heap.IsList l items)(hne:l≠I)
  (hQ:∀h' tk acc' c',(∀b o,b≠I->s.heap.get? b=some o->h'.get? b=some o)->
   h'.get? s.heap.objs.size=some {cls:=.type "list",dict:=none,data:=.seq acc' c',slots:= #[]}->ItemsOf (Z1 items) acc' items.size->Q (.ref s.heap.objs.size) {s with heap:=h',toks:=tk})(hn:items.size<=sizeLine):
  wpAny (model prog w) A (call (.type "list") [.ref I]) Q E s:=by
 have ltI:I<s.heap.objs.size:=let⟨o,e,_⟩:=hit;lt_size e
 have ltl:l<s.heap.objs.size:=let⟨o,e,_⟩:=hl;lt_size e
 refine callType_codes (Q₁:=λobj s₁=>obj=.ref s.heap.objs.size/\s₁={s with heap:=s.heap.push {cls:=.type "list",data:=.seq #[]}}) F.called_list (F.typeCall_list_1 _) F.entry_list_init
  (code_list_new _ ⟨rfl,rfl⟩) λobj s₁ h₁=> ?_
 obtain⟨rfl,rfl⟩:=h₁
 have hS:(s.heap.push {cls:=.type "list",data:=.seq #[]}).get? s.heap.objs.size=some {cls:=.type "list",data:=.seq #[]}:=get?_push_size _ rfl
 refine⟨⟨_,hS,rfl⟩,F.args_list_init_2 _ _,AH (A:=A.in1) hh (hit.at λo e=>gZ _ e) (hl.at λo e=>gZ _ e) hne _ (Nat.ne_of_gt ltI) (Nat.ne_of_gt ltl) hS (λh' tk acc' c' hk hS' hacc=> ?_) hn⟩
 exact⟨rfl,hQ h' tk acc' c' (λb o hb e=>hk b o (ne_of_lt (lt_size e)) hb (gZ _ e)) hS' hacc⟩
theorem VY{its:List Value}{acc:Array Value}(h:ItemsOf (Z1 its.toArray) acc its.toArray.size):acc=its.reverse.toArray:=by
 obtain⟨h1,h2⟩:=h
 refine Array.ext (by simpa using h1) λi hi hi2=> ?_
 have e:=h2 i acc[i] (Array.getElem?_eq_getElem hi)
 have e':its[its.length - 1 - i]? =some acc[i]:=by simpa [Z1]using e
 have hlt:i<its.length:=by simpa using hi2
 have e2:its.reverse[i]? =some acc[i]:=by rw[getElem?_reverse hlt];exact e'
 have e3:its.reverse.toArray[i]? =some acc[i]:=by simpa using e2
 rw[Array.getElem?_eq_getElem hi2]at e3
 exact(Option.some.inj e3).symm
end
end PySem
namespace L2
open PySem PySem.Spec PyProof.Rows
theorem Vals.rev{vs:List V}{us:List Value}(h:Vals vs us):Vals vs.reverse us.reverse:=by
 induction h with
 |nil=>exact .nil
 |cons r _ ih=>rw[reverse_cons,reverse_cons];exact ih.append (.cons r .nil)
section
variable{X:Cx}{K:FZ}
noncomputable def ZS(K:FZ)(ta:TA):TE:=fun σ H Q=>ta σ H λvs H1=>∃a xs,vs=[.ref a]/\SqL K H1 a xs/\∀r,H1 r=none->Q (.ref r) (upd H1 r (.lst xs.reverse))
theorem QW{a:Expr}{ta:TA}{p p' pos pos':Pos}(hg:Gl X "reversed")(hm:X.mg "reversed"=none)(hg':Gl X "list")(hm':X.mg "list"=none)(hc:X.calm=true)(ha:PA X [a] ta)(hK:X.K=K:=by rfl)(hs:starEach [a] X.env=[(false,eval a X.env)]:=by rfl)
  (hs':starEach [.Call (.Name "reversed" p) [a] [] pos] X.env=[(false,eval (.Call (.Name "reversed" p) [a] [] pos) X.env)]:=by rfl):
  PE X (.Call (.Name "list" p') [.Call (.Name "reversed" p) [a] [] pos] [] pos') (ZS K ta):=by
 subst hK
 intro pins s σ H Q I h
 refine wpAny_Call_Name_kw (AX I hg' hm' N2 ?_)
 refine callWith_type1 ?_ hs' rfl
 rw[hs']
 refine Calls.spliced_cons (Call_ (AX I hg hm DK (callWith_type1 (thn (ha pos pins s σ H _ I h) λus s1 ⟨vs,H1,I1,r1,q1⟩=> ?_) hs rfl)))
 obtain⟨l,xs,e,hq,q⟩:=q1
 subst e
 cases r1 with
 |cons r rr=>
  cases rr
  cases r
  obtain⟨its,rv,pl,hz⟩:=I1.list hq
  refine call_reversed_list pl.isList ?_
  refine Calls.spliced_nil ?_
  have st:(s1.heap.push (revObj l ((its.toArray.size:Int) - 1))).IsRevIter s1.heap.objs.size l ((its.toArray.size:Int) - 1):=⟨_,get?_push_size _ rfl,rfl,rfl⟩
  have ltl:l<s1.heap.objs.size:=let⟨o,e,_⟩:=pl.isList;lt_size e
  have hlen:=rv.length
  refine HK (I1.ok.hd hc) st (pl.isList.at λo e=>gZ _ e) (ne_of_lt ltl) (λh' tk acc c hk hS hacc=> ?_) (by rw[size_toArray,<-hlen];exact hz)
  rw[VY hacc]at hS
  have ns:(s1.heap.push (revObj l ((its.toArray.size:Int) - 1))).objs.size=s1.heap.objs.size+1:=size_push ..
  rw[ns]at hS⊢
  have kp:∀b o,s1.heap.get? b=some o->h'.get? b=some o:=λb o e=>hk b o (ne_of_lt (lt_size e)) (gZ _ e)
  exact⟨.ref (s1.heap.objs.size+1),_,I1.laid (t':=tk) kp (le_succ _) (show ObjOk X.prog X.w _ h' _ (.lst xs.reverse)from⟨by rw[length_reverse];exact hz,its.reverse,c,rv.rev,hS⟩),rfl,q _ (I1.hok.fresh (le_succ _))⟩
variable{elts:List Expr}{kt:Nat}{pt:Pos}
theorem YM(hu:X.A.units<cLine):OpR X (compareOp .NotEq) (λx y H Q=>∃a b xs ys,x=.ref a/\y=.ref b/\SqL X.K H a xs/\SqL X.K H b ys/\xs.length≠ys.length/\Q (.bl true) H):=by
 intro pins s σ H x y v u Q I rx ry h
 obtain⟨a,b,xs,ys,rfl,rfl,ha,hb,hp,q⟩:=h
 cases rx;cases ry
 obtain⟨its,r,pl,_⟩:=I.list ha
 obtain⟨its2,r2,pl2,_⟩:=I.list hb
 have hl:its.length≠its2.length:=by rw[<-r.length,<-r2.length];exact hp
 exact SeqAt.RcNeAt.lists_lengths pl.isList pl2.isList (by simpa using hl) hu X.prog X.w X.xe _ ⟨.bl true,H,I,rfl,q⟩
theorem YN(hu:X.A.units<cLine)(hK:X.K=K:=by rfl):OpR X (compareOp .NotEq) (λx y H Q=>rEqL K false x y H Q\/∃a b xs ys,x=.ref a/\y=.ref b/\SqL K H a xs/\SqL K H b ys/\xs.length≠ys.length/\Q (.bl true) H):=by
 subst hK;exact(XW hu).or (YM hu)
theorem EM:OpR X (binaryOp .Mult) (rI IntMulOk λi j=> .int (i*j)):=opI λ_ _ _ _ _ _ _ hc q=>mul_int q hc
theorem D5:OpR X (binaryOp .FloorDiv) (rI (λ_ j=>j≠0/\j.natAbs.log2<9000) λi j=> .int (i.fdiv j)):=opI λ_ _ _ _ _ _ _ hc q=>floordiv_int hc.1 q (.inl (PyProof.noPylong_of_log2 hc.2))
end
end L2
namespace Att
open PySem PySem.W PySem.Calls PyProof.Rows
end Att
namespace L2
open PySem PySem.Spec PyProof.Rows
section
variable{X:Cx}{K:FZ}
noncomputable def LG(K:FZ):R2:=λx y H Q=>∃a b ys,x=.ref a/\y=.ref b/\SqT K H a []/\SqT K H b ys/\Q (.ref b) H
theorem OC:OpR X (binaryOp .Add) (LG X.K):=by
 intro pins s σ H x y v u Q I rx ry h
 obtain⟨a,b,ys,rfl,rfl,ha,hb,q⟩:=h
 cases rx
 cases ry
 obtain⟨its,r1,p1,_⟩:=I.tuple ha
 obtain⟨its2,r2,p2,hz⟩:=I.tuple hb
 have e0:its=[]:=r1.nil_iff.mpr rfl
 subst e0
 obtain⟨⟨cls,dd,data,sl⟩,ho,hc,n,hd⟩:=id p1
 obtain⟨⟨cls2,dd2,data2,sl2⟩,ho2,hc2,n2,hd2⟩:=id p2
 simp only at hc hd hc2 hd2
 subst hc hd hc2 hd2
 exact concat_meets ⟨_,ho,rfl⟩ ⟨_,ho2,rfl⟩ noFill_tuple_add seq_tuple_add PySem.F.slot_tuple_add PySem.F.entry_tuple_add (PySem.F.args_tuple_add_2 _ _)
  (tuple_addW0 a b _ _ n n2 dd dd2 sl sl2 (by simp)) ⟨ho,ho2,⟨.ref b,H,I,rfl,q⟩⟩
theorem RP(hK:X.K=K:=by rfl):OpR X (binaryOp .Add) (λx y H Q=>rI0 (λi j=> .int (i+j)) x y H Q\/RX K x y H Q\/LG K x y H Q):=by
 subst hK;exact op_add.or (op_catT.or OC)
end
end L2
namespace PySem
open AutoSeq1 (wpAny_loadPart')
section
variable{prog:Program}{w:World}{A:Around}{E:Value->Shared->Prop}{s:Shared}
end
end PySem
namespace PySem
section
variable{prog:Program}{w:World}{A:Around}{E:Value->Shared->Prop}{s:Shared}
end
end PySem
namespace L2
open PySem PySem.Spec PyProof.Rows
section
variable{X:Cx}{K:FZ}{elts:List Expr}{kt:Nat}{pt:Pos}
end
end L2
namespace PySem
open Sem(wp)
namespace ZT
noncomputable def IsIt(t:Bool)(h:Heap)(i l:Addr)(k:Nat):Prop:=if t then h.IsTupleIter i l k else h.IsListIter i l k
noncomputable def IsSq(t:Bool)(h:Heap)(l:Addr)(xs:Array Value):Prop:=if t then h.IsTuple l xs else h.IsList l xs
theorem IsIt.extBut{t:Bool}{h h':Heap}{i b l:Addr}{k:Nat}(x:IsIt t h i l k)(hs:Heap.ExtBut b h h')(hb:i≠b):IsIt t h' i l k:=by
 cases t
 ·exact Heap.IsListIter.extBut (show h.IsListIter i l k from x) hs hb
 ·exact Heap.IsTupleIter.extBut (show h.IsTupleIter i l k from x) hs hb
theorem IsIt.at{t:Bool}{h h':Heap}{i l:Addr}{k:Nat}(x:IsIt t h i l k)(e:∀o,h.get? i=some o->h'.get? i=some o):IsIt t h' i l k:=by
 cases t
 ·obtain⟨o,ho,r⟩:=(show h.IsListIter i l k from x)
  exact⟨o,e o ho,r⟩
 ·obtain⟨o,ho,r⟩:=(show h.IsTupleIter i l k from x)
  exact⟨o,e o ho,r⟩
theorem IsIt.live{t:Bool}{h:Heap}{i l:Addr}{k:Nat}(x:IsIt t h i l k):∃o,h.get? i=some o:=by
 cases t
 ·obtain⟨o,ho,r⟩:=(show h.IsListIter i l k from x)
  exact⟨o,ho⟩
 ·obtain⟨o,ho,r⟩:=(show h.IsTupleIter i l k from x)
  exact⟨o,ho⟩
theorem IsSq.at{t:Bool}{h h':Heap}{l:Addr}{xs:Array Value}(x:IsSq t h l xs)(e:∀o,h.get? l=some o->h'.get? l=some o):IsSq t h' l xs:=by
 cases t
 ·obtain⟨o,ho,r⟩:=(show h.IsList l xs from x)
  exact⟨o,e o ho,r⟩
 ·obtain⟨o,ho,r⟩:=(show h.IsTuple l xs from x)
  exact⟨o,e o ho,r⟩
theorem IsSq.extBut{t:Bool}{h h':Heap}{l b:Addr}{xs:Array Value}(x:IsSq t h l xs)(hs:Heap.ExtBut b h h')(hb:l≠b):IsSq t h' l xs:=x.at λo e=>hs l o hb e
section
variable{prog:Program}{w:World}{A:Around}{E:Value->Shared->Prop}{s:Shared}
end
end ZT
end PySem
namespace PySem
open Sem(wp)
namespace ZT
section
variable{prog:Program}{w:World}{A:Around}{E:Value->Shared->Prop}{s:Shared}
end
end ZT
end PySem
namespace PySem
open Sem(wp)
open PyProof.Rows
namespace ZT
section
variable{prog:Program}{w:World}{A:Around}{E:Value->Shared->Prop}{s:Shared}
variable{R:Result->Shared->Prop}
end
end ZT
end PySem
namespace PySem
open Sem(wp)
open PyProof.Rows
namespace F
end F
namespace ZT
section
variable{prog:Program}{w:World}{A:Around}{E:Value->Shared->Prop}{s:Shared}
end
end ZT
end PySem
namespace PySem
open Sem(wp)
open PyProof.Rows
namespace ZT
section
variable{prog:Program}{w:World}{A:Around}{E:Value->Shared->Prop}{s:Shared}
end
end ZT
end PySem
namespace L2
open PySem PySem.Spec PyProof.Rows
section
variable{X:Cx}{K:FZ}{pins:List (Addr×Obj)}{σ:St}{H H':Hp}{s:Shared}{h':Heap}
variable{A:Around}{E:Value->Shared->Prop}{Q:Value->Shared->Prop}{b:Bool}
theorem RB{x c d:V}{u t u1 u2:Value}{p:Addr}(I:Inv X pins σ H s)(rx:RelV x u)(hp:SqT X.K H p [c,d])(r1:∀v,RelV c v->v=u1)(r2:∀v,RelV d v->v=u2)(ty:TyOf X.K H x t)(e:kitAny X.K t [u1,u2]=some b)(hx:u≠ .builtin "__main__.__loader__#opaque")(h:∀tk,Q (.bool b) {s with toks:=tk}):
  wpAny (model X.prog X.w) A (call (.builtin "isinstance") [u,.ref p]) Q E s:=by
 obtain⟨its,r,⟨⟨cl,dd,da,sl⟩,hg,hc,n,hd⟩,_⟩:=I.tuple hp
 simp only at hc hd
 subst hc hd
 obtain⟨w1,w2,rfl,q1,q2⟩:=SQ r
 cases r1 _ q1
 cases r2 _ q2
 cases ty with
 |non=>cases(show u=Value.none from rx);exact kia_tup PySem.W.kitx_none I.kIn True.intro hg e hx h
 |bl y=>cases(show u=Value.bool y from rx);exact kia_tup PySem.W.kitx_bool I.kIn True.intro hg e hx h
 |int i=>obtain⟨t,q⟩:=(show∃t,u=Value.int i t from rx);cases q;exact kia_tup PySem.W.kitx_int I.kIn True.intro hg e hx h
 |str y=>obtain⟨t,q⟩:=(show∃t,u=Value.str y t from rx);cases q;exact kia_tup PySem.W.kitx_str I.kIn True.intro hg e hx h
 |flt y=>obtain⟨t,q⟩:=(show∃t,u=Value.float y t from rx);cases q;exact kia_tup PySem.W.kitx_float I.kIn True.intro hg e hx h
 | @lst a xs ea=>
  cases(show u=Value.ref a from rx)
  obtain⟨_,_,n,_,h1⟩:=(show ObjOk X.prog X.w H s.heap a (.lst xs)from I.hok a _ ea)
  exact kia_tup kitx_list I.kIn ⟨_,h1,rfl⟩ hg e hx h
 | @frz a ob xs ea=>
  cases(show u=Value.ref a from rx)
  obtain⟨_,_,_,n,_,h1⟩:=(show ObjOk X.prog X.w H s.heap a (.frz ob (.lst xs))from I.hok a _ ea)
  exact kia_tup kitx_list I.kIn ⟨_,h1,rfl⟩ hg e hx h
 | @tup a xs ea=>
  cases(show u=Value.ref a from rx)
  obtain⟨_,_,_,p⟩:=(show ObjOk X.prog X.w H s.heap a (.tup xs)from I.hok a _ ea)
  obtain⟨o,h1,h2,_⟩:=p
  exact kia_tup PySem.W.kitx_tuple I.kIn ⟨o,h1,h2⟩ hg e hx h
 | @dK a kvs ea=>
  cases(show u=Value.ref a from rx)
  obtain⟨_,_,vs,_,p⟩:=(show ObjOk X.prog X.w H s.heap a (.dK kvs)from I.hok a _ ea)
  obtain⟨o,es,ep,h1,h2,_⟩:=p
  exact kia_tup kitx_dict I.kIn ⟨o,h1,h2.1⟩ hg e hx h
 | @dT a kvs ea=>
  cases(show u=Value.ref a from rx)
  obtain⟨_,_,xs,_,o,es,ep,h1,h2,_⟩:=(show ObjOk X.prog X.w H s.heap a (.dT kvs)from I.hok a _ ea)
  exact kia_tup kitx_dict I.kIn ⟨o,h1,h2.1⟩ hg e hx h
 | @ins a C dx fs ea cl ha hn htk hm=>
  cases(show u=Value.ref a from rx)
  obtain⟨mA,O,_⟩:=BG I.hok ea
  obtain⟨od,J,_⟩:=O.look
  exact kia_tup (PySem.W.kitx_own (cl.get _) cl.hd ha hn htk hm) I.kIn J hg e hx h
theorem QB{x:V}{u t:Value}(rx:RelV x u)(ty:TyOf K H x t):u≠ .builtin "__main__.__loader__#opaque":=by
 cases ty with
 |non=>cases(show u=Value.none from rx);exact λz=>nomatch z
 |bl y=>cases(show u=Value.bool y from rx);exact λz=>nomatch z
 |int i=>obtain⟨t,q⟩:=(show∃t,u=Value.int i t from rx);cases q;exact λz=>nomatch z
 |str y=>obtain⟨t,q⟩:=(show∃t,u=Value.str y t from rx);cases q;exact λz=>nomatch z
 |flt y=>obtain⟨t,q⟩:=(show∃t,u=Value.float y t from rx);cases q;exact λz=>nomatch z
 |lst|frz|tup|dK|dT|ins=>cases rx;exact λz=>nomatch z
theorem UL:CallR X (.builtin "isinstance") (λxs H Q=>∃x c d t b p,xs=[x,.ref p]/\SqT X.K H p [.ty c,.ty d]/\TyOf X.K H x t/\kitAny X.K t [.type c,.type d]=some b/\Q (.bl b) H):=by
 intro pins s σ H xs us Q I r h
 obtain⟨x,c,d,t,b,p,rfl,hp,ty,hk,q⟩:=h
 obtain⟨u,v,rfl,ru,rv⟩:=SQ r
 cases rv
 exact RB I ru hp (λv h=>by cases h;rfl) (λv h=>by cases h;rfl) ty hk (QB ru ty) λtk=>⟨.bl b,H,I.tok _,rfl,q⟩
theorem b3Z(hK:X.K=K:=by rfl):CallR X (.builtin "isinstance") (λxs H Q=>∃x c d t b p,xs=[x,.ref p]/\SqT K H p [.ty c,.ty d]/\TyOf K H x t/\kitAny K t [.type c,.type d]=some b/\Q (.bl b) H):=by subst hK;exact UL
theorem U5{xs:List V}{us:List Value}(r:Vals xs us){j:Nat}(h1:j<us.toArray.size):∃x,xs[j]? =some x/\RelV x us.toArray[j]:=by
 have hj:j<xs.length:=by rw[r.length];simpa using h1
 obtain⟨u,hu,ru⟩:=r.get (i:=j) (x:=xs[j]) (by simp[hj])
 have e1:us.toArray[j]=u:=by
  have:us[j]? =some us.toArray[j]:=by simp
  rw[hu]at this;exact(Option.some.inj this).symm
 exact⟨xs[j],by simp[hj],by rw[e1];exact ru⟩
theorem SL(I:Inv X pins σ H s){A:Around}{a b:Addr}{xs ys:List V}(hu:A.units<cLine)(ha:SqT X.K H a xs)(hb:SqT X.K H b ys)(hl:xs.length=ys.length)
  (he:∀(j:Nat) x y u v,xs[j]? =some x->ys[j]? =some y->RelV x u->RelV y v->SeqAt.EqAt A.in1 s u v true):SeqAt.RcAt A s (.ref a) (.ref b) true:=by
 obtain⟨its,r,pl,_⟩:=I.tuple ha
 obtain⟨its2,r2,pl2,_⟩:=I.tuple hb
 have hl2:its.length=its2.length:=by rw[<-r.length,<-r2.length];exact hl
 have h:=SeqAt.RcAt.tuples (A:=A) (s:=s) (e:=λ_=>true) pl pl2 hu (λj h1 h2=>by
  obtain⟨x,hx,rx⟩:=U5 r h1
  obtain⟨y,hy,ry⟩:=U5 r2 h2
  exact he j x y _ _ hx hy rx ry)
 have e:((List.range (min its.toArray.size its2.toArray.size)).all (λ_=>true)&&its.toArray.size==its2.toArray.size)=true:=by simp[hl2]
 rw[e]at h
 exact h
end
end L2
namespace HT
open PySem PyProof.Rows
section
variable{prog:Program}{w:World}{A:Around}{E:Value->Shared->Prop}{s:Shared}
theorem getItem_tuple_whole{t sl:Addr}{items:Array Value}{vl vu:Value}{lo hi:Option Int}{Q:Value->Shared->Prop}(ht:IsTup s.heap t items)(hs:s.heap.IsSliceOf sl vl vu .none)(pl:IsPart vl lo)(pu:IsPart vu hi)
  (hw:sIx items.size 0 lo=0/\sIx items.size items.size hi=items.size)
  (h:Q (.ref t) s):wpAny (model prog w) A (getItem (.ref t) (.ref sl)) Q E s:=by
 obtain⟨os,hos,hcs,hds⟩:=id hs
 have hTs:s.TypeIs (.ref sl) "slice":=⟨os,hos,hcs⟩
 unfold getItem
 try with_reducible refine wpAny_holding ?_
 first|refine bZ (pZ ?_)|skip
 refine bZ (wpAny_sequenceKey ht.typeIs (by decide) ?_)
 refine bZ (wpAny_callSpecial?_slot (name:=Str.ofString "__getitem__") ht.typeIs PyProof.Rows.slot_tuple_getitem
  (wpAny_call_entry PyProof.Rows.slot_tuple_getitem ht.typeIs entry_tuple_getitem ?_ (args_tuple_getitem _ _)))
 show wpAny _ _ (Builtin.Tuple.tupleItemsOf (.ref t)>>=_) _ _ s
 refine bZ (tupleItemsOf_ ht ?_)
 refine bZ (wpAny_typeOf hTs ?_)
 rw[if_pos (by decide)]
 refine bZ (U6 hs pl pu ?_)
 have hyes:(((sIx items.size 0 lo:Nat):Int)==0&&(1:Int)==1&&(sIx items.size items.size hi - sIx items.size 0 lo)==items.size)=true:=by
  rw[hw.1,hw.2];simp
 show wpAny _ _ (if(((sIx items.size 0 lo:Nat):Int)==0&&(1:Int)==1&&(sIx items.size items.size hi - sIx items.size 0 lo)==items.size)=true then _ else _) _ _ s
 rw[if_pos hyes]
 unfold Builtin.Tuple.tupleIsExact
 refine bZ (bZ (wpAny_typeOf ht.typeIs ?_))
 repeat (first|refine pZ ?_|refine bZ ?_|refine wpAny_rule ?_|rw[if_pos (by decide)])
 exact⟨_,rfl,pZ h⟩
end
end HT
namespace L2
open PySem PySem.Spec PyProof.Rows
section
variable{X:Cx}{K:FZ}
noncomputable def cIZ(K:FZ):V->Option Int->Option Int->Hp->VK->Prop:=λx lo hi H Q=>∃a xs,x=.ref a/\SqT K H a xs/\(HT.sIx xs.length 0 lo=0/\HT.sIx xs.length xs.length hi=xs.length)/\Q (.ref a) H
theorem WU:SlR X (cIZ X.K):=by
 intro pins s σ H x v vl vu lo hi sl Q I rx hs pl pu h
 obtain⟨a,xs,rfl,hx,hw,q⟩:=h
 cases rx
 obtain⟨its,r,ht,hz⟩:=I.tuple hx
 have hlen:its.toArray.size=xs.length:=by rw[size_toArray];exact r.length.symm
 refine⟨"tuple",_,PyProof.Rows.slot_tuple_getitem.lookup,ht.typeIs, ?_⟩
 exact HT.getItem_tuple_whole ht hs pl pu (by rw[hlen];exact hw) ⟨.ref a,H,I,rfl,q⟩
theorem AG(hK:X.K=K:=by rfl):SlR X (λx lo hi H Q=>(rSlL K x lo hi H Q\/rSlT K x lo hi H Q)\/cIZ K x lo hi H Q):=by subst hK;exact sl_any.or WU
end
end L2
namespace TM
open PySem PyProof.Rows
theorem noFill_tuple_mul:fillsNumberSlot (.type "tuple") "mul"=pure false:=
 PySem.fillsNumberSlot_seq (id:="tuple.__mul__") (r:=some (.builtin "tuple.__rmul__")) F.slot_tuple_mul.lookup (by decide +kernel) F.slot_tuple_rmul.lookup (by decide +kernel)
theorem repeat_tuple:seqRepeat? (.type "tuple")=pure (some (.builtin "tuple.__mul__")):=by
 unfold seqRepeat?
 rw[PySem.seqSlot_of (T:="tuple") (name:="__mul__") (id:="tuple.__mul__") F.slot_tuple_mul.lookup (by decide +kernel),PySem.seqSlot_of (T:="tuple") (name:="__rmul__") (id:="tuple.__rmul__") F.slot_tuple_rmul.lookup (by decide +kernel)]
 rfl
theorem int___rmul___int_tuple(a:Int)(t:Tok)(l:Addr)(dd:Option Addr)(items:Array Value)(n:Nat)(sl:Array (Option Value)):
  Meets (Builtin.«int.__rmul__» ⟨[.int a t,.ref l],[]⟩) (λ_ R s=>s.heap.get? l=some {cls:=.type "tuple",dict:=dd,data:=.seq items n,slots:=sl}/\R (.ok (.ret Value.notImplemented)) s):=
 .of_wp λprog w A R s h=>by obtain⟨hp,g,d,tk,os⟩:=s;obtain⟨hl,h⟩:=h;wp_walk;exact⟨_,rfl,h⟩
section
variable{prog:Program}{w:World}{A:Around}{E:Value->Shared->Prop}{s:Shared}
theorem XA(x:Value)(k:Nat):List.foldl (λx1 x2=>x1++x2) #[] (List.replicate k #[x])=(List.replicate k x).toArray:=by
 have:=L2.foldl_rep [x] k []
 rw[List.nil_append,List.flatten_replicate_singleton]at this
 exact this
theorem tuple_mul1{l:Addr}{x:Value}{k:Int}{t:Tok}{Q:Value->Shared->Prop}(ht:IsTup s.heap l #[x])(h0:0<=k)(h1:k<=1000)(hs:k=1->Q (.ref l) s)
  (hn:k≠1->Q (.ref s.heap.objs.size) {s with heap:=s.heap.push {cls:=.type "tuple",data:=.seq (List.replicate k.toNat x).toArray}}):wpAny (model prog w) A (call (.builtin "tuple.__mul__") [.ref l,.int k t]) Q E s:=by
 refine wpAny_call_entry F.slot_tuple_mul ht.typeIs F.entry_tuple_mul ?_ (F.args_tuple_mul_2 _ _)
 show wpAny _ _ (asIndex (.int k t)>>=_) _ _ s
 refine bZ (m:=asIndex _) (pZ (a:=k) ?_)
 have e1:¬((decide (k< -2^63)||decide (k≥2^63))=true):=by simp;omega
 rw[if_neg e1]
 refine bZ (tupleItemsOf_ ht ?_)
 by_cases e:k=1
 ·subst e
  rw[if_pos (by simp)]
  unfold Builtin.Tuple.tupleIsExact
  refine bZ (bZ (wpAny_typeOf ht.typeIs ?_))
  repeat (first|refine pZ ?_|refine bZ ?_|refine wpAny_rule ?_|rw[if_pos (by decide)])
  exact⟨_,rfl,hs rfl⟩
 ·have e2:¬(((#[x]:Array Value).isEmpty||k==1)=true):=by simp[e]
  rw[if_neg e2]
  have hz:sizeOk (.seq (List.replicate k.toNat x).toArray):=by
   show(List.replicate k.toNat x).toArray.size<=sizeLine
   rw[size_toArray,length_replicate]
   have:(1000:Nat)<=sizeLine:=by decide
   omega
  by_cases e0:k=0
  ·subst e0
   rw[if_pos (by simp)]
   exact bZ (m:=Builtin.Tuple.tupleExact _) (wpAny_newObj_type (pZ ⟨_,rfl,hn e⟩) hz)
  ·rw[if_neg (by simp;omega)]
   have e5:¬(((#[x]:Array Value).size:Int)*k>(2^63 - 1)/8):=by simp;omega
   show wpAny _ _ (if((#[x]:Array Value).size:Int)*k>(2^63 - 1)/8 then _ else _) _ _ s
   rw[if_neg e5]
   have e6:¬(Builtin.Tuple.tupleTooMany (((#[x]:Array Value).size:Int)*k)=true):=by
    unfold Builtin.Tuple.tupleTooMany
    have:(1000:Nat)<=sizeLine:=by decide
    simp
    omega
   show wpAny _ _ (if Builtin.Tuple.tupleTooMany (((#[x]:Array Value).size:Int)*k)=true then _ else _) _ _ s
   rw[if_neg e6,XA]
   exact bZ (m:=Builtin.Tuple.tupleExact _) (wpAny_newObj_type (pZ ⟨_,rfl,hn e⟩) hz)
end
end TM
namespace L2
open PySem PySem.Spec PyProof.Rows
section
variable{X:Cx}{K:FZ}
noncomputable def bNZ(K:FZ):R2:=λx y H Q=>∃l k z,x=.ref l/\y=.int k/\SqT K H l [z]/\0<=k/\k<=1000/\(k=1->Q (.ref l) H)/\(k≠1->∀p,H p=none->Q (.ref p) (upd H p (.tup (List.replicate k.toNat z))))
theorem NP{z:V}{u:Value}(r:RelV z u):∀k:Nat,Vals (List.replicate k z) (List.replicate k u)
 |0=> .nil
 |k+1=> .cons r (NP r k)
theorem bbZ:OpR X (binaryOp .Mult) (bNZ X.K):=by
 intro pins s σ H x y v u Q I rx ry h
 obtain⟨l,k,z,rfl,rfl,hl,h0,h1,q1,q2⟩:=h
 cases rx
 obtain⟨t,rfl⟩:=ry
 obtain⟨its,r,pl,_⟩:=I.tuple hl
 obtain⟨u,rfl,ru⟩:=AK r
 obtain⟨⟨cls,dd,data,sl⟩,ho,hc,n,hd⟩:=id pl
 simp only at hc hd
 subst hc hd
 refine wpAny_binaryOp_repeat_ref (T:="tuple") (U:="int") (by decide) ⟨_,ho,rfl⟩ (λs'=>typeIs_int s' k t) TM.noFill_tuple_mul F.fills_int_mul F.slot_int_rmul TM.repeat_tuple F.slot_int_index.lookup
  (call_meets F.slot_int_rmul (typeIs_int s k t) F.entry_int_rmul (F.args_int_rmul_2 _ _) (TM.int___rmul___int_tuple k t l dd _ n sl)
   ⟨ho,rfl,⟨_,ho,rfl⟩,TM.tuple_mul1 pl h0 h1 (λe=>⟨.ref l,H,I,rfl,q1 e⟩) λe=> ?_⟩)
 refine⟨.ref s.heap.objs.size,_,I.laid (t':=s.toks) (o:=.tup (List.replicate k.toNat z)) (λb ob q=>gZ _ q) (le_refl _) ?_,rfl,q2 e _ (I.hok.fresh (le_refl _))⟩
 refine⟨?_,_,NP ru k.toNat,IsTup.new _ _⟩
 rw[length_replicate]
 have:(1000:Nat)<=sizeLine:=by decide
 omega
theorem dqZ(hK:X.K=K:=by rfl):OpR X (binaryOp .Mult) (λx y H Q=>rI CMul (λi j=> .int (i*j)) x y H Q\/bNZ K x y H Q):=by subst hK;exact op_mul.or bbZ
theorem N4(hK:X.K=K:=by rfl):OpR X (binaryOp .Add) (λx y H Q=>rI0 (λi j=> .int (i+j)) x y H Q\/rCat x y H Q\/RX K x y H Q\/LG K x y H Q):=by
 subst hK;exact op_add.or (op_cat.or (op_catT.or OC))
end
end L2
namespace TM
open PySem PyProof.Rows PySem.SeqAt
end TM
namespace L2
open PySem PySem.Spec PyProof.Rows
section
variable{X:Cx}{K:FZ}
variable{e:Expr}{es tes:List Expr}{t tt:TA}{name:Str}{apos cpos tpos:Pos}{id:String}{r:V->List V->Hp->VK->Prop}
end
structure LamScope(ps fs:List Str)(sc:Scope):Prop where
 kind:sc.kind=.function
 co:sc.isCoroutine=false
 gen:sc.isGenerator=false
 nd:(ps++fs).Nodup
 par:∀x∈ps,sc.names.lookup x=some .local
 nocell:∀y∈sc.names,y.2≠ .cell
 free:∀x,sc.names.lookup x=some .free->x∈fs
 fre:∀x∈fs,sc.names.lookup x=some .free
structure Caught (base:Heap) (cl:List (Str×Addr)) (fs:List Str) (cvs:List V):Prop where
 len:cvs.length=fs.length
 inj:∀x y c,cl.lookup x=some c->cl.lookup y=some c->x=y
 only:∀x c,cl.lookup x=some c->x∈fs
 at_:∀(i:Nat) (x:Str),fs[i]? =some x->∃c u v,cl.lookup x=some c/\base.IsCell c (some u)/\cvs[i]? =some v/\RelV v u
noncomputable def TL(CX:CXT)(P:Program)(w:World)(K:FZ)(mg:Str->Option Value)(base:Heap)(N:List Str)(qual:Str)(scope:Scope)(f:Addr)(cd:Value)(cl:List (Str×Addr))(A:Around)(outer:List Env)(s:Shared)(H:Hp)(E:XK):Cx where
 prog:=P
 w:=w
 K:=K
 mg:=mg
 base:=base
 A:=A.deeper (envX qual scope s.heap.objs.size f cd cl)
 N:=N
 s₀:=s
 H₀:=H
 env:=envX qual scope s.heap.objs.size f cd cl
 outer:=outer
 stack:=envX qual scope s.heap.objs.size f cd cl::outer
 ex:=[]
 calm:=true
 fn:=λ_=>false
 pn:=[]
 xe:=λe s'=>wpAny (model P w) (A.deeper (envX qual scope s.heap.objs.size f cd cl)) (leaving (envX qual scope s.heap.objs.size f cd cl) e) (λ_ s''=>CX outer H s E e s'') (λe' s''=>CX outer H s E e' s'') s'
theorem YK{ps:List Str}{us:List Value}{i:Nat}{x:Str}{u:Value}(nd:ps.Nodup)(hl:us.length=ps.length)(h1:ps[i]? =some x)(h2:us[i]? =some u):(ps.zip us).reverse.lookup x=some u:=by
 have aux:∀(l:List (Str×Value)),(l.map (·.1)).Nodup->(x,u)∈l->l.lookup x=some u:=by
  intro l
  induction l with
  |nil=>intro _ h;exact absurd h (by simp)
  |cons p l ih=>
   obtain⟨y,z⟩:=p
   intro n h
   rw[map_cons,nodup_cons]at n
   rcases cZ h with e|h
   ·cases e;simp
   ·have ne:x≠y:=λe=>n.1 (e▸List.mem_map_of_mem (f:=(·.1)) h)
    rw[lookup_cons,show(x==y)=false from beq_eq_false_iff_ne.mpr ne]
    exact ih n.2 h
 refine aux _ ?_ ?_
 ·rw[List.map_reverse,List.map_fst_zip (by omega)]
  exact List.pairwise_reverse.mpr (List.Pairwise.imp (λh=>Ne.symm h) nd)
 ·rw[List.mem_reverse]
  refine mem_of_getElem? (i:=i) ?_
  rw[List.getElem?_zip_eq_some]
  exact⟨h1,h2⟩
theorem VA{CX:CXT}{P:Program}{w:World}{K:FZ}{mg:Str->Option Value}{base:Heap}{ps fs:List Str}{cvs:List V}{qual:Str}{scope:Scope}{f:Addr}{cd:Value}{cl:List (Str×Addr)}{A:Around}{outer:List Env}{s:Shared}{h1:Heap}{tk:Nat}{H:Hp}{E:XK}{us:List Value}{vs:List V}
  (S:LamScope ps fs scope)(C:Caught base cl fs cvs)(hd:A.handled=none)(e0:Env0 P w K mg base A outer s H)(hl:vs.length=ps.length)(r:Vals vs us)
  (hns:h1.Ns s.heap.objs.size (λx=>(ps.zip us).reverse.lookup x))(hk:∀b o,s.heap.get? b=some o->h1.get? b=some o):
  Inv (TL CX P w K mg base (ps++fs) qual scope f cd cl A outer s H E) [] ((vs++cvs).map some) H {s with heap:=h1,toks:=tk}:=by
 have noA:∀b:Addr,b∉(TL CX P w K mg base (ps++fs) qual scope f cd cl A outer s H E).ex:=λb z=>absurd (show b∈([]:List Addr)from z) (by simp)
 have ndP:ps.Nodup:=(List.nodup_append.mp S.nd).1
 have hul:us.length=ps.length:=by rw[<-r.length];exact hl
 have cb:∀x c,cl.lookup x=some c->∃u,base.IsCell c (some u):=λx c e=>by
  obtain⟨i,hi⟩:=getElem?_of_mem (C.only x c e)
  obtain⟨c',u,v,e1,e2,_⟩:=C.at_ i x hi
  rw[e]at e1;cases e1
  exact⟨u,e2⟩
 have bk:∀b o,base.get? b=some o->h1.get? b=some o:=λb o e=>hk b o (e0.bs b o e).1
 have ck:∀ {c:Addr} {u:Value},base.IsCell c (some u)->h1.IsCell c (some u):=λ{c u} ⟨o,ho,hd⟩=>⟨o,bk _ _ ho,hd⟩
 refine⟨⟨e0.mod,S.kind,rfl,rfl,le_refl _,C.inj,λy hy=> ?_,λy c h=>absurd (show(false:Bool)=true from h) (by simp),λ_=>hd,Around.frames_deeper e0.frames,.inr ⟨rfl,rfl⟩,λb z=>absurd z (noA b),e0.bs,e0.bsz,λb _ _=>noA b,λb z=>absurd z (noA b),e0.funs,e0.frf⟩,
  rfl,e0.bare,Un.kept hk,⟨_,hns,λi y v h1 h2 h3=> ?_⟩,λy c h=> ?_,e0.hok.fresh (le_refl _),λy c h=> ?_,λp hp=>absurd (show p∈([]:List (Addr×Obj))from hp) (by simp),e0.hok.kept hk, ?_⟩
 ·have hy:scope.names.lookup y=some .cell\/scope.names.lookup y=some .free:=hy
  rcases hy with hy|hy
  ·exact absurd rfl (S.nocell _ (PySem.mem_of_lookup hy))
  ·obtain⟨i,hi⟩:=getElem?_of_mem (S.free y hy)
   obtain⟨c,u,v,e1,_⟩:=C.at_ i y hi
   exact⟨c,e1⟩
 ·have h1:(ps++fs)[i]? =some y:=h1
  have h3:Vis scope y:=h3
  by_cases hi:i<ps.length
  ·rw[getElem?_append_left hi]at h1
   rw[getElem?_map,getElem?_append_left (by omega)]at h2
   have ha:vs[i]? =some v:=by
    cases e:vs[i]? with
    |none=>rw[e]at h2;cases h2
    |some a=>rw[e]at h2;cases h2;rfl
   obtain⟨u,hu,rv⟩:=r.get ha
   exact⟨u,rv,.inl ⟨S.par y (mem_of_getElem? h1),YK ndP hul h1 hu⟩⟩
  ·rw[getElem?_append_right (by omega)]at h1
   rw[getElem?_map,getElem?_append_right (by omega),hl]at h2
   obtain⟨c,u,v',e1,e2,e3,e4⟩:=C.at_ _ y h1
   rw[e3]at h2;cases h2
   exact⟨u,e4,.inr ⟨.inr (S.fre y (mem_of_getElem? h1)),c,e1,ck e2⟩⟩
 ·obtain⟨u,e⟩:=cb y c h
  exact⟨_,ck e⟩
 ·obtain⟨u,o,ho,_⟩:=cb y c h
  exact(e0.bs _ _ ho).2
 ·show((vs++cvs).map some).length=(ps++fs).length
  rw[length_map,length_append,length_append,hl,C.len]
theorem crZ{CX:CXT}{P:Program}{w:World}{K:FZ}{mg:Str->Option Value}{base:Heap}{k:Nat}{f:Addr}{name qual:Str}{params:Arguments}{body:Expr}{scope:Scope}{cl:List (Str×Addr)}{pm cdv ct:Value}{o:Obj}
  {ps fs:List Str}{cvs:List V}{sp:Sp}(lk:base.get? f=some o)(hod:o.data=.func (PySem.W.kla_fn name qual params body scope cl pm cdv ct))(hcd:base.CodeRec cdv qual)(S:LamScope ps fs scope)(C:Caught base cl fs cvs)
  (len:∀vs H Q E,sp vs H Q E->vs.length=ps.length)
  (hbody:∀(A:Around) (outer:List Env) (s:Shared) (H:Hp) (vs:List V) (Q:VK) (E:XK),Room k (A.deeper (envX qual scope s.heap.objs.size f cdv cl))->sp vs H Q E->
   ∃t,PE (TL CX P w K mg base (ps++fs) qual scope f cdv cl A outer s H E) body t/\t ((vs++cvs).map some) H Q):
  FnOk P w K mg base CX (k+1) f (PySem.W.kla_fn name qual params body scope cl pm cdv ct) ps sp:=by
 refine⟨len,λA outer s H args us vs Q E hr e0 hb r hsp=> ?_⟩
 have hl:=len _ _ _ _ hsp
 have lim:s.heap.NoLimit:=e0.mod.nolimit.keeps λb o e=>(e0.bs b o e).1
 have hcd':s.heap.CodeRec cdv qual:=by
  obtain⟨c,oc,vs,t,e1,e2,e3⟩:=hcd
  exact⟨c,oc,vs,t,e1,(e0.bs _ _ e2).1,e3⟩
 refine PySem.W.kla_callFunE hr.depth (e0.bs _ _ lk).1 hod S.co S.gen rfl hcd' (hb _ _ _ _ ?_)
 refine wpAny_newFunctionEnv S.nocell (λx hx=>S.par x.1 (of_mem_zip hx).1) (λh₁ hns hsb=>⟨lim.fresh _ hsb, ?_⟩) S.kind
 have hk:∀b o,s.heap.get? b=some o->h₁.get? b=some o:=λb o e=>hsb.extBut b o (ne_of_lt (lt_size e)) (gZ _ e)
 show codeAny _ _ (.expr body (envX qual scope s.heap.objs.size f cdv cl)) _ _
 obtain⟨t,ht,hq⟩:=hbody A outer s H vs Q E (hr.deeper _) hsp
 have I:Inv (TL CX P w K mg base (ps++fs) qual scope f cdv cl A outer s H E) [] ((vs++cvs).map some) H {s with heap:=h₁,toks:=s.toks+(ps.zip us).length}:=VA S C hr.hd e0 hl r hns hk
 refine PySem.W.kla_codeExpr (wpAny_mono (ht [] _ _ H Q I hq) (λu s' hs=> ?_) λe s' hs=>hs)
 obtain⟨v,H',J,rv,q⟩:=hs
 exact⟨v,H',J.os,J.bare,J.base,J.hok,rv,q⟩
noncomputable def LamO(name qual:Str)(params:Arguments)(body:Expr)(scope:Scope)(clos:List (Str×Addr))(pm:Value)(c' f:Addr):HO:=
 .ext λh=>∃ctv,h.get? f=some (kla_obj name qual params body scope clos pm c' ctv)
noncomputable def CodeO(qual:Str)(c':Addr):HO:=.ext λh=>∃oc vs t,h.get? c'=some oc/\oc.data=.fields vs/\vs[1]? =some (.str qual t)
theorem LamO.ok{P:Program}{w:World}{H:Hp}{h:Heap}{name qual:Str}{params:Arguments}{body:Expr}{scope:Scope}{clos:List (Str×Addr)}{pm:Value}{c' f:Addr}{ctv:Value}
  (e:h.get? f=some (kla_obj name qual params body scope clos pm c' ctv)):ObjOk P w H h f (LamO name qual params body scope clos pm c' f):=
 ⟨⟨ctv,e⟩,⟨_,e⟩,λh1 h2 ⟨c,q⟩ k=>⟨c,k _ q⟩⟩
theorem CodeO.ok{P:Program}{w:World}{H:Hp}{h:Heap}{qual:Str}{c':Addr}{oc:Obj}{vs:Array Value}{t:Tok}(e:h.get? c'=some oc)(d:oc.data=.fields vs)(v:vs[1]? =some (.str qual t)):
  ObjOk P w H h c' (CodeO qual c'):=⟨⟨oc,vs,t,e,d,v⟩,⟨_,e⟩,λh1 h2 ⟨o,a,b,q,x,y⟩ k=>⟨o,a,b,k _ q,x,y⟩⟩
noncomputable def GJ(H:Hp)(P:Addr)(pos:Pos)(qual:Str):Prop:=∃ps,H P=some (.tbl ps)/\TriplesOk ps.toList/\(codeAmong pos ps.toList=none\/∃c',codeAmong pos ps.toList=some (.ref c')/\H c'=some (CodeO qual c'))
noncomputable def TabHit(H:Hp)(P:Addr)(pos:Pos)(c':Addr):Prop:=∃ps,H P=some (.tbl ps)/\TriplesOk ps.toList/\codeAmong pos ps.toList=some (.ref c')
theorem TabHit.ok{H:Hp}{P:Addr}{pos:Pos}{c':Addr}{qual:Str}(h:TabHit H P pos c')(hc:H c'=some (CodeO qual c')):GJ H P pos qual:=let⟨ps,h1,h2,h3⟩:=h;⟨ps,h1,h2,.inr ⟨c',h3,hc⟩⟩
noncomputable def eaZ(P:Addr)(pos:Pos)(name qual:Str)(params:Arguments)(body:Expr)(scope:Scope)(clos:List (Str×Addr))(pm:Value):TE:=λ_ H Q=>GJ H P pos qual/\
 ∀f c' H',H f=none->H' f=some (LamO name qual params body scope clos pm c' f)->H' c'=some (CodeO qual c')->TabHit H' P pos c'->f≠c'->f≠P->c'≠P->(∀b,b≠f->b≠c'->b≠P->H' b=H b)->
  (∀b o,H b=some o->b≠P->H' b=some o)->Q (.ref f) H'
section
variable{X:Cx}{c P:Addr}{params:Arguments}{body:Expr}{scope:Scope}{pos:Pos}{clos:List (Str×Addr)}
theorem cAZ{pm:Value}(hpm:pm=(X.mg "__name__").getD .none)(hdef:defaultsOf params X.env=([],[]))(hcl:closureFor scope X.env=pure clos)(hcode:X.env.code=.ref c)(C:PySem.W.CodeHd X.base c P)(B:X.base.BuiltinsAt X.mg P):
  PE X (.Lambda params body scope pos) (eaZ P pos "<lambda>" (X.env.qual++ "<lambda>") params body scope clos pm):=by
 subst hpm
 intro pins s σ H Q I h
 obtain⟨⟨ps,hP,ht,hh⟩,h⟩:=h
 refine PySem.W.kla_eval hdef ?_
 have hPo:s.heap.get? P=some (PySem.W.tabObj ps):=I.hok P _ hP
 have hg:s.heap.Ns mainGlobals X.mg:=by
  obtain⟨o,es,ep,e,r⟩:=I.mod.glob
  exact⟨o,es,ep,I.bk _ _ e,r⟩
 have hgP:mainGlobals≠P:=λq=>by
  obtain⟨o,es,ep,e,r⟩:=I.mod.glob
  have:=(I.bs _ _ e).2
  rw[q,hP]at this;cases this
 have B':s.heap.BuiltinsAt X.mg P:=by
  obtain⟨bm,o,b1,b2,b3,b4,b5,r⟩:=B
  exact⟨bm,o,b1,b2,b3,b4,I.bk _ _ b5,r⟩
 have hLP:X.env.locals≠P:=λq=>by have:=I.free;rw[q,hP]at this;cases this
 rcases hh with hnf|⟨c',hf,hc'⟩
 ·refine PySem.W.kla_makeFunction (mg:=X.mg) hcl I.ok.glob hg hcode (C.keeps I.bk) hPo ht hnf hgP B' λc' ctv h' tk hx hge hlt hrec htb=> ?_
  obtain⟨c₂,oc,vs,t,e2,hoc,hd,hv⟩:=hrec
  cases e2
  have hPs:P<s.heap.objs.size:=lt_size hPo
  have sl:s.heap.objs.size<h'.objs.size:=lt_of_le_of_lt hge hlt
  have nfc:h'.objs.size≠c':=Nat.ne_of_gt hlt
  have nfP:h'.objs.size≠P:=Nat.ne_of_gt (lt_trans hPs sl)
  have ncP:c'≠P:=Nat.ne_of_gt (lt_of_lt_of_le hPs hge)
  have hfn:H h'.objs.size=none:=I.hok.fresh (le_of_lt sl)
  have hcn:H c'=none:=I.hok.fresh hge
  have kb:∀b o,b≠P->s.heap.get? b=some o->(h'.push (kla_obj "<lambda>" (X.env.qual++ "<lambda>") params body scope clos ((X.mg "__name__").getD .none) c' ctv)).get? b=some o:=λb o n e=>gZ _ (hx b o n e)
  generalize hH':upd (upd (upd H P (.tbl (ps++ #[rawInt pos.line,rawInt pos.col,.ref c']))) c' (CodeO (X.env.qual++ "<lambda>") c')) h'.objs.size (LamO "<lambda>" (X.env.qual++ "<lambda>") params body scope clos ((X.mg "__name__").getD .none) c' h'.objs.size)=H'
  have eF:H' h'.objs.size=some (LamO "<lambda>" (X.env.qual++ "<lambda>") params body scope clos ((X.mg "__name__").getD .none) c' h'.objs.size):=by rw[<-hH',A5]
  have eC:H' c'=some (CodeO (X.env.qual++ "<lambda>") c'):=by rw[<-hH',B5 (Ne.symm nfc),A5]
  have eP:H' P=some (.tbl (ps++ #[rawInt pos.line,rawInt pos.col,.ref c'])):=by rw[<-hH',B5 (Ne.symm nfP),B5 (Ne.symm ncP),A5]
  have eO:∀b,b≠h'.objs.size->b≠c'->b≠P->H' b=H b:=λb n1 n2 n3=>by rw[<-hH',B5 n1,B5 n2,B5 n3]
  have eK:∀b o,H b=some o->b≠P->H' b=some o:=λb o e n=>by
   rw[eO b (λz=>by rw[z,hfn]at e;cases e) (λz=>by rw[z,hcn]at e;cases e) n];exact e
  refine⟨.ref h'.objs.size,H', ?_,rfl,h _ c' H' hfn eF eC ⟨_,eP, ?_, ?_⟩ nfc nfP ncP eO eK⟩
  ·refine I.step (g':=s.gens) (d':=s.drawn) (ch:=[]) (λ_ z=>nomatch z) (λb o _ _ _ e n=>kb b o (λz=>by rw[z,hP]at n;cases n) e) (λb o _ _ _ e n=>⟨o.slots,kb b o (λz=>by rw[z,hP]at n;cases n) e⟩)
    (λb o _ e n=> ?_) (λb o _ e=> ?_) (λb xs e=>eK b _ e λz=>by rw[z,hP]at e;cases e) (λb o u e=>eK b _ e λz=>by rw[z,hP]at e;cases e) (λb qs e=> ?_) (λm hm=> ?_) ?_ I.bare
   ·have n1:=lt_size e
    rw[eO b (ne_of_lt (lt_trans n1 sl)) (ne_of_lt (lt_of_lt_of_le n1 hge)) λz=>by rw[z,hP]at n;cases n];exact n
   ·by_cases z:b=P
    ·rw[z];exact⟨_,gZ _ htb⟩
    ·exact⟨o,kb b o z e⟩
   ·by_cases z:b=P
    ·rw[z,hP]at e;cases e
     exact⟨_,by rw[z];exact eP⟩
    ·exact⟨#[],by rw[eK b _ e z];simp⟩
   ·obtain⟨o,es,ep,e,r⟩:=hm
    exact⟨o,es,ep,kb _ _ hLP e,r⟩
   ·intro b u e
    by_cases z1:b=h'.objs.size
    ·rw[z1,eF]at e;cases e
     rw[z1];exact LamO.ok (get?_push_size _ rfl)
    by_cases z2:b=c'
    ·rw[z2,eC]at e;cases e
     rw[z2];exact CodeO.ok (gZ _ hoc) hd hv
    by_cases z3:b=P
    ·rw[z3,eP]at e;cases e
     rw[z3];exact gZ _ htb
    rw[eO b z1 z2 z3]at e
    refine(I.hok b u e).stay (λd v hd' q=>kb d v (λz=> ?_) q) (λd q=>eK d _ q λz=>by rw[z,hP]at q;cases q) λd xs q=>eK d _ q λz=>by rw[z,hP]at q;cases q
    rcases hd' with q|q
    ·exact z3 (q.symm.trans z)
    ·rw[z,hP]at q;cases q
  ·have:(ps++ #[rawInt pos.line,rawInt pos.col,Value.ref c']).toList=ps.toList++ [rawInt pos.line,rawInt pos.col,.ref c']:=by simp
   rw[this];exact TriplesOk_snoc _ _ _ _ ht
  ·have:(ps++ #[rawInt pos.line,rawInt pos.col,Value.ref c']).toList=ps.toList++ [rawInt pos.line,rawInt pos.col,.ref c']:=by simp
   rw[this];exact codeAmong_snoc _ ht hnf
 ·refine PySem.W.kla_makeFunctionHit (mg:=X.mg) hcl I.ok.glob hg hcode (C.keeps I.bk) hPo ht hf B' λctv h' tk hk hsz=> ?_
  obtain⟨⟨oc,vs,t,hoc,hd,hv⟩,_⟩:=I.hok c' _ hc'
  have hPs:P<s.heap.objs.size:=lt_size hPo
  have hcs:c'<s.heap.objs.size:=lt_size hoc
  have nfc:h'.objs.size≠c':=Nat.ne_of_gt (lt_of_lt_of_le hcs hsz)
  have nfP:h'.objs.size≠P:=Nat.ne_of_gt (lt_of_lt_of_le hPs hsz)
  have ncP:c'≠P:=λe=>by rw[e,hP]at hc';cases hc'
  have hfn:H h'.objs.size=none:=I.hok.fresh hsz
  have kb:∀b o,s.heap.get? b=some o->(h'.push (kla_obj "<lambda>" (X.env.qual++ "<lambda>") params body scope clos ((X.mg "__name__").getD .none) c' ctv)).get? b=some o:=λb o e=>gZ _ (hk b o e)
  generalize hH':upd H h'.objs.size (LamO "<lambda>" (X.env.qual++ "<lambda>") params body scope clos ((X.mg "__name__").getD .none) c' h'.objs.size)=H'
  have eF:H' h'.objs.size=some (LamO "<lambda>" (X.env.qual++ "<lambda>") params body scope clos ((X.mg "__name__").getD .none) c' h'.objs.size):=by rw[<-hH',A5]
  have eO:∀b,b≠h'.objs.size->H' b=H b:=λb n1=>by rw[<-hH',B5 n1]
  have eK:∀b o,H b=some o->H' b=some o:=λb o e=>by
   rw[eO b (λz=>by rw[z,hfn]at e;cases e)];exact e
  refine⟨.ref h'.objs.size,H', ?_,rfl,h _ c' H' hfn eF (eK _ _ hc') ⟨_,eK _ _ hP,ht,hf⟩ nfc nfP ncP (λb n1 _ _=>eO b n1) λb o e _=>eK b o e⟩
  refine I.step (g':=s.gens) (d':=s.drawn) (ch:=[]) (λ_ z=>nomatch z) (λb o _ _ _ e _=>kb b o e) (λb o _ _ _ e _=>⟨o.slots,kb b o e⟩)
    (λb o _ e n=> ?_) (λb o _ e=>⟨o,kb b o e⟩) (λb xs e=>eK b _ e) (λb o u e=>eK b _ e) (λb qs e=>⟨#[],by rw[eK b _ e];simp⟩) (λm hm=> ?_) ?_ I.bare
  ·have n1:=lt_size e
   rw[eO b (ne_of_lt (lt_of_lt_of_le n1 hsz))];exact n
  ·obtain⟨o,es,ep,e,r⟩:=hm
   exact⟨o,es,ep,kb _ _ e,r⟩
  ·intro b u e
   by_cases z1:b=h'.objs.size
   ·rw[z1,eF]at e;cases e
    rw[z1];exact LamO.ok (get?_push_size _ rfl)
   rw[eO b z1]at e
   exact(I.hok b u e).stay (λd v _ q=>kb d v q) (λd q=>eK d _ q) λd xs q=>eK d _ q
end
noncomputable def del(H:Hp)(a:Addr):Hp:=λb=>if b=a then none else H b
theorem T0{H:Hp}{a:Addr}:del H a a=none:=by unfold del;rw[if_pos rfl]
theorem Y5{H:Hp}{a b:Addr}(h:b≠a):del H a b=H b:=by unfold del;rw[if_neg h]
theorem WZ{H:Hp}{a b:Addr}{o:HO}(h:del H a b=some o):b≠a/\H b=some o:=by
 by_cases e:b=a
 ·subst e;rw[T0]at h;cases h
 ·rw[Y5 e]at h;exact⟨e,h⟩
theorem BU{H:Hp}{a b:Addr}(h:H b=none):del H a b=none:=by
 by_cases e:b=a
 ·subst e;exact T0
 ·rw[Y5 e];exact h
structure CapOk (X:Cx) (clos:List (Str×Addr)) (fs:List Str) (js:List Nat):Prop where
 only:∀x c,clos.lookup x=some c->x∈fs/\X.env.cells.lookup x=some c
 has:∀x∈fs,∃c,clos.lookup x=some c
 kind:∀x∈fs,X.env.kindOf x=some .cell
 fn:∀x∈fs,X.fn x=true
 nm:∀(i:Nat) (x:Str),fs[i]? =some x->∃j,js[i]? =some j/\X.N[j]? =some x
 len:js.length=fs.length
noncomputable def epZ(σ:St)(js:List Nat)(cvs:List V):Prop:=cvs.length=js.length/\∀(i j:Nat),js[i]? =some j->∃v,σ[j]? =some (some v)/\cvs[i]? =some v
structure LamAt (base:Heap) (name qual:Str) (params:Arguments) (body:Expr) (scope:Scope) (clos:List (Str×Addr)) (pm:Value) (c' f:Addr):Prop where
 fn:∃ctv,base.get? f=some (kla_obj name qual params body scope clos pm c' ctv)
 cd:base.CodeRec (.ref c') qual
theorem LamAt.fnAt{base:Heap}{name qual:Str}{params:Arguments}{body:Expr}{scope:Scope}{clos:List (Str×Addr)}{pm:Value}{c' f:Addr}(h:LamAt base name qual params body scope clos pm c' f):PySem.W.FnAt f base:=
 let⟨_,e⟩:=h.fn;⟨_,_,_,_,e⟩
noncomputable def c2Z(name qual:Str)(params:Arguments)(body:Expr)(scope:Scope)(clos:List (Str×Addr))(pm:Value)(fs:List Str)(js:List Nat)(sp:Heap->Sp)(E:XK)(t:TA):TE:=fun σ H Q=>t σ H λvs H1=>
 ∃f c' cvs,epZ σ js cvs/\H1 f=some (LamO name qual params body scope clos pm c' f)/\H1 c'=some (CodeO qual c')/\f≠c'/\
  ∀base',LamAt base' name qual params body scope clos pm c' f->Caught base' clos fs cvs->sp base' vs (del (del H1 f) c') (λv H'=>H' f=none->H' c'=none->Q v (upd H' c' (CodeO qual c'))) E
noncomputable def W8(h base:Heap)(l:List Addr):Heap:=PySem.W.hideAll h ((List.range h.objs.size).filter λa=>(base.get? a).isNone&& !l.contains a)
theorem QI(h base:Heap)(l:List Addr):(W8 h base l).objs.size=h.objs.size:=PySem.W.hideAll_size _ _
theorem AE{h base:Heap}{l:List Addr}{b:Addr}{o:Obj}(e:h.get? b=some o)(k:(∃u,base.get? b=some u)\/b∈l):(W8 h base l).get? b=some o:=
 PySem.W.hideAll_get _ e λhm=>by
  have:=(mem_filter.mp hm).2
  rw[Bool.and_eq_true]at this
  rcases k with⟨u,k⟩|k
  ·rw[k]at this;simp at this
  ·simp[k]at this
theorem MQ{h base:Heap}{l:List Addr}{b:Addr}{o:Obj}(e:(W8 h base l).get? b=some o):h.get? b=some o/\((∃u,base.get? b=some u)\/b∈l):=by
 have e':h.get? b=some o:=PySem.W.of_hideAll _ e
 refine⟨e', ?_⟩
 by_cases k:(∃u,base.get? b=some u)\/b∈l
 ·exact k
 ·exfalso
  have z:(W8 h base l).get? b=none:=PySem.W.hideAll_none _ (mem_filter.mpr ⟨mem_range.mpr (lt_size e'),by
   rw[Bool.and_eq_true]
   constructor
   ·cases q:base.get? b with
    |none=>rfl
    |some u=>exact absurd (.inl ⟨u,q⟩) k
   ·simp;exact λq=>k (.inr q)⟩)
  rw[z]at e;cases e
theorem QG{h base:Heap}{l:List Addr}:∀ {es:List Env},(∀b∈frs es,b∉l)->h.FunFrames base es->h.FunFrames (W8 h base l) es:=by
 intro es
 induction es with
 |nil=>intro _ _;trivial
 |cons env r ih=>
  intro hs hl
  obtain⟨hk,⟨L,o,hf,hn,ho,hd⟩,hr⟩:=hl
  refine⟨hk,⟨L,o,hf, ?_,ho,hd⟩,ih (λb hb=>hs b (by unfold frs;rw[filterMap_cons,hf];exact mem_cons_of_mem _ hb)) hr⟩
  cases q:(W8 h base l).get? L with
  |none=>rfl
  |some u=>
   rcases(MQ q).2 with⟨v,z⟩|z
   ·rw[hn]at z;cases z
   ·exact absurd z (hs L (by unfold frs;rw[filterMap_cons,hf];exact mem_cons_self))
section
variable{X:Cx}{k:Nat}{g:Addr}{fd:FuncData}{ps:List Str}{sp:Heap->Sp}{x:Str}{p pos:Pos}{e:Expr}{es:List Expr}{t:TA}{name qual:Str}{params:Arguments}{body:Expr}{scope:Scope}{clos:List (Str×Addr)}{pm:Value}{fs:List Str}{js:List Nat}
theorem ZM(F:∀base',FnOk X.prog X.w X.K X.mg base' CX0 k g fd ps (sp base'))(hr:Room k X.A)(hg:Gl X x)(hm:X.mg x=some (.ref g))(hk:kZ X.K (.ref g)=true)(hb:Binds X.K fd ps [])(C:CapOk X clos fs js)
  (ha:PA X (e::es) t)(hdb:(x==("__debug__":Str))=false:=by decide)(he:starEach (e::es) X.env=(false,eval e X.env)::starEach es X.env:=by rfl)(hpl:(backTo pos (starEach es X.env)).any (·.1)=false:=by rfl):
  PE X (.Call (.Name x p) (e::es) [] pos) (c2Z name qual params body scope clos pm fs js sp E0 t):=by
 intro pins s σ H Q I h
 refine wpAny_Call_Name_kw (BK I hg hm ?_ hdb)
 refine callWith_K (h₀:=X.base) I.ok.mod.kin hk (thn (ha pos pins s σ H _ I h) λus s1 ⟨vs,H1,I1,r,q⟩=>⟨I1.kIn, ?_⟩) he hpl
 obtain⟨f,c',cvs,hcv,hf,hc,nfc,q⟩:=q
 obtain⟨⟨ctv,hfo⟩,_⟩:=I1.hok f _ hf
 obtain⟨⟨oc,vsc,tc,hoc,hdc,hvc⟩,_⟩:=I1.hok c' _ hc
 have cellOf:∀y∈fs,∃c,clos.lookup y=some c/\X.env.cells.lookup y=some c/\X.s₀.heap.objs.size<=c:=λy hy=>by
  obtain⟨c,e⟩:=C.has y hy
  exact⟨c,e,(C.only y c e).2,I1.ok.cab y c (C.fn y hy) (C.only y c e).2⟩
 generalize hl:f::c'::fs.filterMap (λy=>clos.lookup y)=l
 have lin:∀b∈l,b=f\/b=c'\/∃y∈fs,clos.lookup y=some b:=λb hb=>by
  rw[<-hl]at hb
  rcases cZ hb with e|hb
  ·exact .inl e
  rcases cZ hb with e|hb
  ·exact .inr (.inl e)
  obtain⟨y,hy,e⟩:=mem_filterMap.mp hb
  exact .inr (.inr ⟨y,hy,e⟩)
 have fl:f∈l:=by rw[<-hl];exact mem_cons_self
 have cl':c'∈l:=by rw[<-hl];exact mem_cons_of_mem _ mem_cons_self
 have yl:∀y∈fs,∀c,clos.lookup y=some c->c∈l:=λy hy c e=>by
  rw[<-hl];exact mem_cons_of_mem _ (mem_cons_of_mem _ (mem_filterMap.mpr ⟨y,hy,e⟩))
 have n2:∀ {b:Addr},H1 b=none->del (del H1 f) c' b=none:=λh=>BU (BU h)
 have nef:∀ {b:Addr} {o:HO},H1 b=some o->(∀φ,o≠ .ext φ)->b≠f/\b≠c':=λ{b o} e n=>
  ⟨λz=>by rw[z,hf]at e;exact n _ (Option.some.inj e).symm,λz=>by rw[z,hc]at e;exact n _ (Option.some.inj e).symm⟩
 have d2:∀ {b:Addr} {o:HO},H1 b=some o->(∀φ,o≠ .ext φ)->del (del H1 f) c' b=some o:=λ{b o} e n=>by
  obtain⟨a1,a2⟩:=nef e n
  rw[Y5 a2,Y5 a1];exact e
 have hok2:HOk X.prog X.w (del (del H1 f) c') s1.heap:=λb u e=>by
  obtain⟨_,e1⟩:=WZ e
  obtain⟨_,e2⟩:=WZ e1
  exact(I1.hok b u e2).stay (λ_ _ _ q=>q) (λd q=>d2 q fun φ z=>nomatch z) λd xs q=>d2 q fun φ z=>nomatch z
 have bk':∀b o,X.base.get? b=some o->(W8 s1.heap X.base l).get? b=some o:=λb o e=>AE (I1.bk b o e) (.inl ⟨o,e⟩)
 have nsK:∀ {b:Addr} {m:Str->Option Value},X.base.Ns b m->(W8 s1.heap X.base l).Ns b m:=λ{b m} ⟨o,es,ep,e,r⟩=>⟨o,es,ep,bk' _ _ e,r⟩
 have hM:Mod X.K X.mg (W8 s1.heap X.base l):=⟨I1.mod.kin.keeps bk',nsK I1.mod.glob,(let⟨mb,b1,b2⟩:=I1.mod.blt;⟨mb,nsK b1,b2⟩),I1.mod.nolimit.keeps bk'⟩
 have nstk:∀b∈frs X.stack,b∉l:=λb hb hbl=>by
  have hn:=I1.stkFree b hb
  rcases lin b hbl with z|z|⟨y,hy,z⟩
  ·rw[z,hf]at hn;cases hn
  ·rw[z,hc]at hn;cases hn
  ·obtain⟨c,e1,e2,e3⟩:=cellOf y hy
   rw[z]at e1;cases e1
   rcases cZ (I1.stkSub b hb)with q|q
   ·exact I1.cne y b e2 q
   ·obtain⟨_,o,ho,_⟩:=I1.ok.funs.mem q
    exact absurd (lt_of_lt_of_le (lt_size ho) e3) (lt_irrefl _)
 have e0:Env0 X.prog X.w X.K X.mg (W8 s1.heap X.base l) X.A X.stack s1 (del (del H1 f) c'):=⟨I1.ok.frames,hM,λb o e=>by
  obtain⟨e1,kk⟩:=MQ e
  refine⟨e1, ?_⟩
  rcases kk with⟨u,z⟩|z
  ·exact n2 (I1.bs b u z).2
  ·rcases lin b z with z|z|⟨y,hy,z⟩
   ·rw[z];exact BU T0
   ·rw[z];exact T0
   ·exact n2 (I1.freeC y b (C.only y b z).2),Nat.le_of_eq (QI _ _ _),QG nstk I1.stack,λb hb=>n2 (I1.stkFree b hb),hok2,I1.bare⟩
 have LA:LamAt (W8 s1.heap X.base l) name qual params body scope clos pm c' f:=⟨⟨ctv,AE hfo (.inr fl)⟩,⟨c',oc,vsc,tc,rfl,AE hoc (.inr cl'),hdc,hvc⟩⟩
 have CA:Caught (W8 s1.heap X.base l) clos fs cvs:=by
  refine⟨hcv.1.trans C.len,λy z c h1 h2=>I1.ok.inj y z c (C.only y c h1).2 (C.only z c h2).2,λy c h=>(C.only y c h).1,λi y hy=> ?_⟩
  have hym:y∈fs:=mem_of_getElem? hy
  obtain⟨c,c1,c2,_⟩:=cellOf y hym
  obtain⟨j,hj,hN⟩:=C.nm i y hy
  obtain⟨v,hv,hvc⟩:=hcv.2 i j hj
  obtain⟨m,hn,hlk⟩:=I1.loc
  obtain⟨u,ru,lk⟩:=hlk j y v hN hv (.inr (.inl (C.kind y hym)))
  rcases lk with⟨z,_⟩|⟨_,c3,e3,o,ho,hd⟩
  ·rw[C.kind y hym]at z;cases z
  ·rw[c2]at e3;cases e3
   exact⟨c,u,v,c1,⟨o,AE ho (.inr (yl y hym c c1)),hd⟩,hvc,ru⟩
 have hq:=q _ LA CA
 have hul:us.length=ps.length:=by rw[<-r.length];exact(F _).len _ _ _ _ hq
 have hbd:BindsTo s1 fd ⟨us,[]⟩ (ps.zip us):=by
  have:=hb s1 us I1.kIn (by rw[append_nil];exact hul)
  rw[append_nil]at this;exact this
 refine wpAny_call (codeAny_mono ((F _).run X.A X.stack s1 _ ⟨us,[]⟩ us vs _ E0 hr e0 hbd r hq) λrr s' hR=> ?_)
 cases rr with
 |error e=>exact False.elim hR
 |ok fl'=>
  cases fl' with
  |next=>exact False.elim hR
  |brk=>exact False.elim hR
  |cont=>exact False.elim hR
  |ret u=>
   obtain⟨v,H',os,bare,un,hok',rv,hQ⟩:=hR
   obtain⟨hh,g',d',t',os'⟩:=s'
   obtain rfl:os'=s1.os:=os
   have cst:c'∉frs X.stack:=λz=>by have:=I1.stkFree c' z;rw[hc]at this;cases this
   have hc2:hh.get? c'=some oc:=un.keep c' oc hoc T0 cst (by simp)
   have hcn:H' c'=none:=un.free c' oc hoc T0 (by simp)
   have hfn':H' f=none:=un.free f _ hfo (BU T0) (by simp)
   have up:∀ {b:Addr} {o:HO},H' b=some o->upd H' c' (CodeO qual c') b=some o:=λ{b o} e=>by rw[B5 (C5 e hcn)];exact e
   refine⟨v,upd H' c' (CodeO qual c'), ?_,rv,hQ hfn' hcn⟩
   refine I1.step (g':=g') (d':=d') (t':=t') (h':=hh) (ch:=[]) (λ_ z=>nomatch z) (λb o hL hbf _ e n=>un.keep b o e (n2 n) (λz=>(cZ (I1.stkSub b z)).elim hL hbf) (by simp)) (λb o _ _ _ e n=>un.any e (n2 n) (by simp))
    (λb o _ e n=> ?_) (λb o _ e=>un.there b o e (by simp)) (λb xs e=>up (un.tups b xs (d2 e fun φ z=>nomatch z))) (λb o u e=>up (un.frzs b o u (d2 e fun φ z=>nomatch z))) (λb qs e=> ?_) (λm hm=> ?_) (λb w e=> ?_) bare
   ·have ne:b≠c':=λz=>by rw[z,hc]at n;cases n
    rw[B5 ne];exact un.free b o e (n2 n) (by simp)
   ·obtain⟨more,e1⟩:=un.tbls b qs (d2 e fun φ z=>nomatch z)
    exact⟨more,up e1⟩
   ·obtain⟨o',es',ep',ho',r'⟩:=hm
    obtain⟨sl,hL⟩:=un.any ho' (n2 I1.free) (by simp)
    exact⟨_,es',ep',hL,r'⟩
   ·by_cases z:b=c'
    ·subst z;rw[A5]at e;cases e
     exact CodeO.ok hc2 hdc hvc
    ·rw[B5 z]at e
     exact(hok' b w e).stay (λ_ _ _ q=>q) (λd q=>up q) λd xs q=>up q
end
noncomputable def EW(K:FZ)(base:Heap)(f:Addr):Prop:=kZ K (.ref f)=true\/PySem.W.FnAt f base
noncomputable def aNZ(P:Program)(w:World)(K:FZ)(mg:Str->Option Value)(base:Heap)(A:Around)(CX:CXT)(E:XK)(tf:TE)(t:TA):TE:=fun σ H Q=>tf σ H λx H0=>∃(f:Addr) (fd:FuncData) (ps:List Str) (sp:Sp) (k:Nat),
 x=.ref f/\FnOk P w K mg base CX k f fd ps sp/\Room k A/\EW K base f/\Binds K fd ps []/\t σ H0 λvs H1=>sp vs H1 Q E
section
variable{X:Cx}{P:Program}{w:World}{K:FZ}{mg:Str->Option Value}{base:Heap}{A:Around}{CX:CXT}{E:XK}{x:Str}{p pos:Pos}{e:Expr}{es:List Expr}{tf:TE}{t:TA}
theorem IG(hf:PE X (.Name x p) tf)(hx:W5 CX X E)(ha:PA X (e::es) t)(hP:X.prog=P:=by rfl)(hw:X.w=w:=by rfl)(hK:X.K=K:=by rfl)(hmg:X.mg=mg:=by rfl)(hbs:X.base=base:=by rfl)(hA:X.A=A:=by rfl)
  (he:starEach (e::es) X.env=(false,eval e X.env)::starEach es X.env:=by rfl)(hpl:(backTo pos (starEach es X.env)).any (·.1)=false:=by rfl):
  PE X (.Call (.Name x p) (e::es) [] pos) (aNZ P w K mg base A CX E tf t):=by
 subst hP;subst hw;subst hK;subst hmg;subst hbs;subst hA
 intro pins s σ H Q I h
 refine wpAny_Call_Name_kw (thn (hf pins s σ H _ I h) λfv s0 ⟨y,H0,I0,r0,q0⟩=> ?_)
 obtain⟨f,fd,ps,sp,k,rfl,F,hr,hk,hb,q⟩:=q0
 cases r0
 rcases hk with hk|⟨oc,od,fd',sl,ho⟩
 ·refine callWith_K (h₀:=X.base) I0.ok.mod.kin hk (thn (ha pos pins s0 σ H0 _ I0 q) λus s1 ⟨vs,H1,I1,r,q1⟩=>⟨I1.kIn, ?_⟩) he hpl
  exact GK (dvs:=[]) F hr hb .nil hx I1 r (by rw[append_nil];exact q1)
 ·refine PySem.W.callWith_F ⟨oc,od,fd',sl,I0.bk _ _ ho⟩ (thn (ha pos pins s0 σ H0 _ I0 q) λus s1 ⟨vs,H1,I1,r,q1⟩=>⟨⟨oc,od,fd',sl,I1.bk _ _ ho⟩, ?_⟩) he hpl
  exact GK (dvs:=[]) F hr hb .nil hx I1 r (by rw[append_nil];exact q1)
end
theorem Fun.okC{P:Program}{w:World}{K:FZ}{mg:Str->Option Value}{base:Heap}{x qual:Str}{st:Stmt}{f:Addr}{fd:FuncData}{N ps:List Str}{k:Nat}{sp:Sp}(F:Fun K x qual st f fd)(S:FnScope N ps (B4 st))(len:∀vs H Q E,sp vs H Q E->vs.length=ps.length)
  (hbody:∀(cdv:Value) (A:Around) (outer:List Env) (s:Shared) (H:Hp) (vs:List V) (Q:VK) (E:XK),fd.code=cdv->Room k (A.deeper (envOfC qual (B4 st) s.heap.objs.size f cdv))->sp vs H Q E->
   ∃t,PSs (NU CX0 P w K mg base N qual (B4 st) f cdv A outer s H E).nox (E7 st) t/\t {nx:=λ_ H'=>Q .non H',rt:=Q} (start N vs) H):FnOk P w K mg base CX0 (k+1) f fd ps sp:=by
 obtain⟨oc,od,kV,doc,pm,an,cdv,ct,osl,rfl,lk,hcd⟩:=F.ex
 refine bKZ lk hcd S len λA outer s H vs Q E hr hsp=> ?_
 obtain⟨t,h,q⟩:=hbody cdv A outer s H vs Q E rfl hr hsp
 exact⟨t,h.nox,q⟩
structure OnlyT (tabs:List (Addr×Addr)) (H:Hp):Prop where
 only:∀b,H b=none\/(∃o xs,H b=some (.frz o (.lst xs)))\/H b=some (.tbl #[])
 tab:∀q∈tabs,H q.2=some (.tbl #[])
structure TabsB (tabs:List (Addr×Addr)) (mg:Str->Option Value) (base:Heap):Prop where
 code:∀q∈tabs,PySem.W.CodeHd base q.1 q.2
 blt:∀q∈tabs,base.BuiltinsAt mg q.2
theorem VG{P:Program}{w:World}{K:FZ}{mg mb:Str->Option Value}{CX:CXT}{k:Nat}{fa a:Addr}{fd:FuncData}{x:Str}{sp:Sp}{s₁:Shared}{vs:List Value}{ns:List Int}{tabs:List (Addr×Addr)}
  (KX:K.In s₁.heap)(hns:s₁.heap.Ns mainGlobals mg)(hb:s₁.heap.Ns builtinsNs mb)(hbb:∀x:Str,x≠ "__name__"->mb x=bootBuiltins x)(hlim:s₁.heap.NoLimit)(hg:s₁.gens= #[])
  (hT:PySem.W.TabsAt tabs s₁.heap)(hK:PySem.W.noTabs K=true)(hbm:∃bm ob,mg "__builtins__"=some (.ref bm)/\bm≠builtinsNs/\s₁.heap.get? bm=some ob/\ob.cls=.type "module"/\ob.dict=some builtinsNs/\ob.data=.plain)
  (ha:s₁.heap.get? a=some {cls:=.type "list",data:=.seq vs.toArray})(hi:IntsAre vs ns)(hl:ns.length<=sizeLine)(hr:Room k callerA)
  (F:∀base:Heap,K.In base->base.Ns mainGlobals mg->TabsB tabs mg base->FnOk P w K mg base CX k fa fd [x] sp)(hbind:∀(s:Shared) (u:Value),BindsTo s fd ⟨[u],[]⟩ [(x,u)])
  (hsp:∀H:Hp,OnlyT tabs H->SqL K H a (ns.map V.int)->sp [.ref a] H (λv _=>v=.bl true) λ_ _ _=>False)
  (hCX:∀H e s',CX [] H s₁ (λ_ _ _=>False) e s'->False):
  codeAny (model P w) callerA (.call (.ref fa) ⟨[.ref a],[]⟩) (λr s'=>r=.ok (.ret (.bool true))/\OldK s₁.heap s'.heap/\s'.os=s₁.os/\AllBare s'.gens) s₁:=by
 have rv:=IU hi
 have lenV:=hi.length
 have core:∀H:Hp,OnlyT tabs H->SqL K H a (ns.map V.int)->HOk P w H s₁.heap->(∀b,H b≠none->b=a\/b∈tabs.map (·.2))->(H a≠none->K.lookup a=none)->
   codeAny (model P w) callerA (.call (.ref fa) ⟨[.ref a],[]⟩) (λr s'=>r=.ok (.ret (.bool true))/\OldK s₁.heap s'.heap/\s'.os=s₁.os/\AllBare s'.gens) s₁:=by
  intro H hO hS hok hA hKa
  have base_of:∀ {b:Addr} {o:Obj},s₁.heap.get? b=some o->H b=none->(HI s₁.heap H).get? b=some o:=λe n=>YT e n
  have isT:∀ {b:Addr},H b≠none->s₁.heap.get? b=some {cls:=.type "list",data:=.seq vs.toArray}\/s₁.heap.get? b=some (PySem.W.tabObj #[]):=λ{b} h=>by
   rcases hA b h with e|e
   ·rw[e];exact .inl ha
   ·obtain⟨q,hq,rfl⟩:=mem_map.mp e
    exact .inr (hT q hq).2
  have noA:∀ {b:Addr} {o:Obj},s₁.heap.get? b=some o->o≠ {cls:=.type "list",data:=.seq vs.toArray}->o≠PySem.W.tabObj #[]->H b=none:=λ{b o} e n1 n2=>by
   cases q:H b with
   |none=>rfl
   |some u=>
    rcases isT (b:=b) (by rw[q];simp)with z|z<;>rw[e]at z
    ·exact absurd (Option.some.inj z) n1
    ·exact absurd (Option.some.inj z) n2
  have nsK:∀ {b:Addr} {m:Str->Option Value},s₁.heap.Ns b m->(HI s₁.heap H).Ns b m:=λ{b m} ⟨o,es,ep,e,d,r⟩=>⟨o,es,ep,base_of e (noA e (λz=>by rw[z]at d;cases d) λz=>by rw[z]at d;cases d),d,r⟩
  have hKb:K.In (HI s₁.heap H):=λb o e=>base_of (KX b o e) (by
   cases q:H b with
   |none=>rfl
   |some u=>
    rcases hA b (by rw[q];simp)with z|z
    ·subst z
     rw[hKa (by rw[q];simp)]at e;cases e
    ·obtain⟨t,ht,rfl⟩:=mem_map.mp z
     have h2:=all_eq_true.mp hK _ (PySem.W.mem_of_lookupK e)
     have h3:=KX _ _ e
     rw[(hT t ht).2]at h3
     cases h3
     exact absurd (show false=true from h2) nZ)
  have hM:Mod K mg (HI s₁.heap H):=⟨hKb,nsK hns,⟨mb,nsK hb,hbb⟩,let⟨mc,h1,h2⟩:=hlim;⟨mc,nsK h1,h2⟩⟩
  have hTB:TabsB tabs mg (HI s₁.heap H):=by
   refine⟨λq hq=> ?_,λq hq=> ?_⟩
   ·obtain⟨o,vs',file,tf,flags,tg,inF,text,tt,e,c1,c2,r⟩:=(hT q hq).1
    exact⟨o,vs',file,tf,flags,tg,inF,text,tt,base_of e (noA e (λz=>by rw[z]at c1;injection c1 with q;exact absurd q (by decide)) λz=>by rw[z]at c1;cases c1),c1,c2,r⟩
   ·obtain⟨bm,ob,b1,b2,b3,b4,b5,b6⟩:=hbm
    refine⟨bm,ob,b1,b2,λz=> ?_,λz=> ?_,base_of b3 (noA b3 (λz=>by rw[z]at b4;injection b4 with q;exact absurd q (by decide)) λz=>by rw[z]at b4;cases b4),b4,b5,b6⟩
    ·obtain⟨o,es,ep,e,hd,_⟩:=hns
     rw[z,e]at b3;cases b3;rw[hd]at b6;cases b6
    ·rw[z,(hT q hq).2]at b3;cases b3;cases b4
  have e0:Env0 P w K mg (HI s₁.heap H) callerA [] s₁ H:=⟨rfl,hM,λb o e=>aEZ e,Nat.le_of_eq (UU _ _),trivial,λb hb=>absurd (show b∈([]:List Addr)from hb) (by simp),hok,.of_eq hg⟩
  refine codeAny_mono ((F _ hKb (nsK hns) hTB).run callerA [] s₁ H ⟨[.ref a],[]⟩ [.ref a] [.ref a] _ _ hr e0 (hbind s₁ (.ref a)) (.cons rfl .nil) (hsp H hO hS)) λr s' h=> ?_
  cases r with
  |error e=>exact(hCX H e s' h).elim
  |ok fl=>
   cases fl with
   |next=>exact False.elim h
   |brk=>exact False.elim h
   |cont=>exact False.elim h
   |ret u=>
    obtain⟨v,H',os,bare,un,hok',r',q⟩:=h
    have q':v=.bl true:=q
    subst q'
    obtain rfl:u=Value.bool true:=r'
    have nofr:∀b:Addr,b∉frs ([]:List Env):=λb z=>absurd (show b∈([]:List Addr)from z) (by simp)
    refine⟨rfl,⟨λb o e=> ?_,λb o e=>un.there b o e (by simp)⟩,os,bare⟩
    cases q:H b with
    |none=>exact .inl (un.keep b o e q (nofr b) (by simp))
    |some u=>
     rcases hO.only b with z|⟨ob,xs,z⟩|z
     ·rw[q]at z;cases z
     ·have z2:=un.frzs b ob _ z
      obtain⟨e1,_⟩:=hok b _ z
      obtain⟨e2,_⟩:=hok' b _ z2
      rw[e]at e1;cases e1
      exact .inl e2
     ·obtain⟨more,z2⟩:=un.tbls b #[] z
      have e2:s'.heap.get? b=some {cls:=.none,data:=.fields (#[]++more)}:=hok' b _ z2
      have e1:s₁.heap.get? b=some {cls:=.none,data:=.fields #[]}:=hok b _ z
      rw[e]at e1;cases e1
      rcases hA b (by rw[q];simp)with y|y
      ·rw[y,ha]at e;cases e
      ·obtain⟨t,ht,rfl⟩:=mem_map.mp y
       obtain⟨o,vs',file,tf,flags,tg,inF,text,tt,e',c1,c2,c3,r⟩:=(hT t ht).1
       exact .inr (.inl ⟨⟨t.1,o,vs',e',c1,c2,c3⟩,rfl, #[],more,rfl,e2⟩)
 have tne:∀q∈tabs,q.2≠a:=λq hq z=>by have:=(hT q hq).2;rw[z,ha]at this;cases this
 have mk:∀H0:Hp,(∀b,H0 b≠none->b=a)->(∀b,H0 b=none\/∃o xs,H0 b=some (.frz o (.lst xs)))->SqL K H0 a (ns.map V.int)->HOk P w H0 s₁.heap->(H0 a≠none->K.lookup a=none)->
   codeAny (model P w) callerA (.call (.ref fa) ⟨[.ref a],[]⟩) (λr s'=>r=.ok (.ret (.bool true))/\OldK s₁.heap s'.heap/\s'.os=s₁.os/\AllBare s'.gens) s₁:=by
  intro H0 h1 h2 h3 h4 h5
  generalize hH:(λb=>if b∈tabs.map (·.2)then some (HO.tbl #[])else H0 b:Hp)=H
  have inT:∀ {b},b∈tabs.map (·.2)->H b=some (.tbl #[]):=λ{b} h=>by rw[<-hH];exact if_pos h
  have outT:∀ {b},b∉tabs.map (·.2)->H b=H0 b:=λ{b} h=>by rw[<-hH];exact if_neg h
  have nT:a∉tabs.map (·.2):=λz=>by obtain⟨q,hq,e⟩:=mem_map.mp z;exact tne q hq e
  have up:∀ {b o},H0 b=some o->H b=some o:=λ{b o} e=>by
   have:b=a:=h1 b (by rw[e];simp)
   rw[outT (by rw[this];exact nT)];exact e
  refine core H ⟨λb=> ?_,λq hq=>inT (List.mem_map_of_mem hq)⟩ ?_ (λb u e=> ?_) (λb hb=> ?_) (λh=>h5 (by rw[outT nT]at h;exact h))
  ·by_cases hb:b∈tabs.map (·.2)
   ·exact .inr (.inr (inT hb))
   ·rw[outT hb];exact(h2 b).elim .inl λh=> .inr (.inl h)
  ·rcases h3 with h|h
   ·rcases h with h|⟨o,h⟩
    ·exact .inl (.inl (up h))
    ·exact .inl (.inr ⟨o,up h⟩)
   ·exact .inr h
  ·by_cases hb:b∈tabs.map (·.2)
   ·rw[inT hb]at e;cases e
    obtain⟨q,hq,rfl⟩:=mem_map.mp hb
    exact(hT q hq).2
   ·rw[outT hb]at e
    exact(h4 b u e).stay (λ_ _ _ q=>q) (λ_ q=>up q) λ_ _ q=>up q
  ·by_cases hb':b∈tabs.map (·.2)
   ·exact .inr hb'
   ·rw[outT hb']at hb;exact .inl (h1 b hb)
 cases hk:K.lookup a with
 |some o=>
  have e:=KX a o hk
  rw[ha]at e
  cases e
  exact mk (λ_=>none) (λb z=>absurd rfl z) (λ_=> .inl rfl) (.inr ⟨_,vs.toArray,_,hk,rfl,rfl,rfl,by rw[size_toArray,lenV];exact hl,by simpa using rv⟩) (λb u z=>by have z':(none:Option HO)=some u:=z;cases z') λz=>absurd rfl z
 |none=>
  refine mk (λb=>if b=a then some (.frz {cls:=.type "list",data:=.seq vs.toArray} (.lst (ns.map V.int)))else none) (λb z=> ?_) (λb=> ?_) (.inl (.inr ⟨{cls:=.type "list",data:=.seq vs.toArray},if_pos rfl⟩)) (λb u z=> ?_) λ_=>hk
  ·by_cases hb:b=a
   ·exact hb
   ·exact absurd (if_neg hb) z
  ·by_cases hb:b=a
   ·exact .inr ⟨_,_,if_pos hb⟩
   ·exact .inl (if_neg hb)
  ·by_cases hb:b=a
   ·have z':=(if_pos hb).symm.trans z
    cases z'
    subst hb
    exact⟨ha,by rw[length_map];exact hl,vs,_,rv,ha⟩
   ·have z':=(if_neg hb).symm.trans z
    cases z'
theorem walk_ofKT{l:PySem.W.OpenLaw}{n k:Nat}{q:Program}{loose:List Str}{XP:(Str->Option Value)->Heap->Prop}{YP:World->Heap->Prop}{d:DefRec}{K:Params->FZ}{CX:CXT}{sp:FZ->Sp}{x:Str}{tabs:List (Addr×Addr)}
  (hn:l.most=some n)(hn2:n<=sizeLine)(hdf:d.params.defaults=[])(hr:Room k callerA)
  (hY:∀(w:World) (h:Heap),YP w h->(K w.params).In h)
  (hT:∀(w:World) (lo:List Str) (mean:ExcName->Option Value) (mg mb:Str->Option Value) (h:Heap),Top q lo mean mg mb h->(K w.params).In h->PySem.W.TabsAt tabs h)(hK:∀w:World,PySem.W.noTabs (K w.params)=true)
  (F:∀(w:World) (mg:Str->Option Value) (fa:Addr) (h:Heap),(K w.params).In h->h.Ns mainGlobals mg->mg d.name=some (.ref fa)->
   ∃fd:FuncData,(∀(s:Shared) (u:Value),BindsTo s fd ⟨[u],[]⟩ [(x,u)])/\
    ∀base:Heap,(K w.params).In base->base.Ns mainGlobals mg->TabsB tabs mg base->FnOk l.prog w (K w.params) mg base CX k fa fd [x] (sp (K w.params)))
  (hsp:∀(K:FZ) (H:Hp) (a:Addr) (ns:List Int),ns.length<=n->OnlyT tabs H->SqL K H a (ns.map V.int)->sp K [.ref a] H (λv _=>v=.bl true) λ_ _ _=>False)
  (hCX:∀(H:Hp) (s:Shared) (e:Value) (s':Shared),CX [] H s (λ_ _ _=>False) e s'->False):
  PySem.W.WalkO q loose XP YP l.row.toRowW d [] (λf vs=>PySem.call f vs):=by
 refine Att.attach_call hn hdf λw s₀ s₁ mg mb fa o pm cd doc a vs ns G Y ho hd hcd hmg hobj hints hlen hg=> ?_
 have KX:=hY w _ Y
 obtain⟨fd,hb,hF⟩:=F w mg fa _ KX G.T.g hmg
 exact VG KX G.T.g G.T.b G.T.builtins G.T.nolimit hg (hT w _ _ mg mb _ G.T KX) (hK w) G.T.bmain hobj hints (le_trans hlen hn2) hr hF hb (λH hO hS=>hsp (K w.params) H a ns hlen hO hS) λH e s'=>hCX H s₁ e s'
section
variable{κ:Type}[DecidableEq κ]
noncomputable def P2(kvs:List (κ×V))(k:κ):Option V:=(kvs.find? λkv=>decide (kv.1=k)).map (·.2)
noncomputable def W3(kvs:List (κ×V))(k:κ)(v:V):List (κ×V):=
 if(kvs.any λkv=>decide (kv.1=k))=true then kvs.map (λkv=>if kv.1=k then(kv.1,v)else kv)else kvs++ [(k,v)]
theorem N0{p:κ×V}{r:List (κ×V)}{k:κ}(e:p.1=k):P2 (p::r) k=some p.2:=by simp[P2,find?_cons,e]
theorem N1{p:κ×V}{r:List (κ×V)}{k:κ}(e:¬p.1=k):P2 (p::r) k=P2 r k:=by simp[P2,find?_cons,e]
theorem U7(k:κ):∀kvs:List (κ×V),(kvs.any λkv=>decide (kv.1=k))=(P2 kvs k).isSome
 | []=>rfl
 |p::r=>by
  rw[any_cons]
  by_cases e:p.1=k
  ·simp only[N0 e,decide_eq_true e,Bool.true_or,Option.isSome_some]
  ·rw[N1 e,decide_eq_false e,Bool.false_or];exact U7 k r
theorem OH(k j:κ)(y:V):∀kvs:List (κ×V),P2 (kvs.map λkv=>if kv.1=k then(kv.1,y)else kv) j=(P2 kvs j).map λx=>if j=k then y else x
 | []=>rfl
 |p::r=>by
  have ih:=OH k j y r
  rw[map_cons]
  by_cases h:p.1=k
  ·rw[if_pos h]
   by_cases e:p.1=j
   ·rw[N0 (p:=(p.1,y)) e,N0 e,map_some,if_pos (e.symm.trans h)]
   ·rw[N1 (p:=(p.1,y)) e,N1 e,ih]
  ·rw[if_neg h]
   by_cases e:p.1=j
   ·rw[N0 (p:=p) e,N0 e,map_some,if_neg (λz=>h (e.trans z))]
   ·rw[N1 (p:=p) e,N1 e,ih]
theorem IA(k j:κ)(y:V):∀kvs:List (κ×V),P2 kvs k=none->P2 (kvs++ [(k,y)]) j=if j=k then some y else P2 kvs j
 | [],_=>by
  by_cases e:k=j
  ·rw[if_pos e.symm];exact N0 (p:=(k,y)) e
  ·rw[if_neg (λz=>e z.symm)];exact N1 (p:=(k,y)) e
 |p::r,hn=>by
  rw[List.cons_append]
  have hk:¬p.1=k:=λz=>by rw[N0 z]at hn;cases hn
  rw[N1 hk]at hn
  have ih:=IA k j y r hn
  by_cases e:p.1=j
  ·rw[N0 e,N0 e,if_neg (λz=>hk (e.trans z))]
  ·rw[N1 e,N1 e,ih]
theorem ZE(kvs:List (κ×V))(k j:κ)(y:V):P2 (W3 kvs k y) j=if j=k then some y else P2 kvs j:=by
 unfold W3
 by_cases a:(kvs.any λkv=>decide (kv.1=k))=true
 ·rw[if_pos a,OH]
  rw[U7]at a
  by_cases e:j=k
  ·obtain⟨x,hx⟩:=Option.isSome_iff_exists.mp a
   rw[if_pos e,e,hx,map_some,if_pos rfl]
  ·rw[if_neg e]
   cases P2 kvs j with
   |none=>rfl
   |some x=>rw[map_some,if_neg e]
 ·rw[if_neg a]
  refine IA k j y kvs ?_
  rw[U7]at a
  cases q:P2 kvs k with
  |none=>rfl
  |some x=>rw[q]at a;exact(a rfl).elim
theorem Z4(kvs:List (κ×V))(k:κ)(v:V):(W3 kvs k v).length<=kvs.length+1:=by
 unfold W3
 split
 ·rw[length_map];omega
 ·rw[length_append,length_cons,length_nil];omega
theorem FR{kvs:List (κ×V)}{k:κ}(v:V)(h:P2 kvs k=none):W3 kvs k v=kvs++ [(k,v)]:=by
 unfold W3
 rw[U7,h]
 exact if_neg (by decide)
theorem RelO.isSome_eq{o:Option V}{u:Option Value}(r:RelO o u):o.isSome=u.isSome:=by
 cases o with
 |none=>cases u with
  |none=>rfl
  |some _=>exact(show False from r).elim
 |some _=>cases u with
  |none=>exact(show False from r).elim
  |some _=>rfl
theorem KV.val{kvs:List (κ×V)}{vs:List (κ×Value)}(r:KV kvs vs)(k:κ):RelO (P2 kvs k) (valueAt vs k):=by
 unfold KV at r
 induction r with
 |nil=>exact True.intro
 | @cons p q ps qs h t ih=>
  obtain⟨h1,h2⟩:=h
  by_cases e:p.1=k
  ·have e':q.1=k:=h1.symm.trans e
   have b:valueAt (q::qs) k=some q.2:=by simp[valueAt,find?_cons,e']
   rw[N0 e,b];exact h2
  ·have e':¬q.1=k:=λz=>e (h1.trans z)
   have b:valueAt (q::qs) k=valueAt qs k:=by simp[valueAt,find?_cons,e']
   rw[N1 e,b];exact ih
theorem KV.any{kvs:List (κ×V)}{vs:List (κ×Value)}(r:KV kvs vs)(k:κ):(kvs.any λkv=>decide (kv.1=k))=vs.any λkv=>decide (kv.1=k):=by
 unfold KV at r
 induction r with
 |nil=>rfl
 |cons h t ih=>rw[any_cons,any_cons,ih,h.1]
theorem KV.repl{kvs:List (κ×V)}{vs:List (κ×Value)}(r:KV kvs vs)(k:κ){y:V}{u:Value}(ry:RelV y u):
  KV (kvs.map λkv=>if kv.1=k then(kv.1,y)else kv) (vs.map λkv=>if kv.1=k then(kv.1,u)else kv):=by
 unfold KV at r⊢
 induction r with
 |nil=>exact .nil
 | @cons p q ps qs h t ih=>
  rw[map_cons,map_cons]
  refine .cons ?_ ih
  obtain⟨h1,h2⟩:=h
  by_cases e:p.1=k
  ·rw[if_pos e,if_pos (h1.symm.trans e)];exact⟨h1,ry⟩
  ·rw[if_neg e,if_neg (λz=>e (h1.trans z))];exact⟨h1,h2⟩
theorem KV.put{kvs:List (κ×V)}{vs:List (κ×Value)}(r:KV kvs vs)(k:κ){y:V}{u:Value}(ry:RelV y u):KV (W3 kvs k y) (stored vs k u):=by
 unfold W3 stored
 rw[r.any k]
 by_cases e:(vs.any λkv=>decide (kv.1=k))=true
 ·rw[if_pos e,if_pos e];exact r.repl k ry
 ·rw[if_neg e,if_neg e];exact Paired.snoc r ⟨rfl,ry⟩
theorem KV.keys{kvs:List (κ×V)}{vs:List (κ×Value)}(r:KV kvs vs):kvs.map (·.1)=vs.map (·.1):=by
 unfold KV at r
 induction r with
 |nil=>rfl
 |cons h t ih=>rw[map_cons,map_cons,ih,h.1]
theorem KV.length{kvs:List (κ×V)}{vs:List (κ×Value)}(r:KV kvs vs):kvs.length=vs.length:=Paired.length r
end
theorem FQ{P:Program}{w:World}{k:Key}{u:Value}(r:RelV (kV k) u):(J2 P w).is k u=true:=by
 cases k with
 |inl i=>obtain⟨t,e⟩:=(show∃t,u=Value.int i t from r);subst e;exact NE P w i t
 |inr x=>obtain⟨t,e⟩:=(show∃t,u=Value.str x t from r);subst e;exact OB P w x t
theorem IF{P:Program}{w:World}:∀ {ks:List Key} {us:List Value},Vals (ks.map kV) us->ItemsAre (J2 P w) ks us
 | [],_,r=>by rw[map_nil]at r;cases r;exact .nil
 |k::ks,_,r=>by
  rw[map_cons]at r
  cases r with
  |cons h t=>exact .cons (FQ h) (IF t)
noncomputable abbrev KT(H:Hp):List (List Key×V)->List (List Key×Addr×Value)->Prop:=Paired λp q=>p.1=q.1/\H q.2.1=some (.tup (p.1.map kV))/\RelV p.2 q.2.2
theorem KT.val{H:Hp}{kvs:List (List Key×V)}{xs:List (List Key×Addr×Value)}(r:KT H kvs xs)(k:List Key):RelO (P2 kvs k) ((atKey xs k).map (·.2)):=by
 induction r with
 |nil=>exact True.intro
 | @cons p q ps qs h t ih=>
  obtain⟨h1,_,h2⟩:=h
  by_cases e:p.1=k
  ·have e':q.1=k:=h1.symm.trans e
   have b:atKey (q::qs) k=some q.2:=by simp[atKey,find?_cons,e']
   rw[N0 e,b];exact h2
  ·have e':¬q.1=k:=λz=>e (h1.trans z)
   have b:atKey (q::qs) k=atKey qs k:=by simp[atKey,find?_cons,e']
   rw[N1 e,b];exact ih
theorem KT.repl{H:Hp}{kvs:List (List Key×V)}{xs:List (List Key×Addr×Value)}(r:KT H kvs xs)(k:List Key){y:V}{u:Value}(ry:RelV y u):
  KT H (kvs.map λkv=>if kv.1=k then(kv.1,y)else kv) (xs.map (putAt k u)):=by
 induction r with
 |nil=>exact .nil
 | @cons p q ps qs h t ih=>
  rw[map_cons,map_cons]
  refine .cons ?_ ih
  obtain⟨h1,h2,h3⟩:=h
  unfold putAt
  by_cases e:p.1=k
  ·rw[if_pos e,if_pos (h1.symm.trans e)];exact⟨h1,h2,ry⟩
  ·rw[if_neg e,if_neg (λz=>e (h1.trans z))];exact⟨h1,h2,h3⟩
theorem KT.put{H:Hp}{kvs:List (List Key×V)}{xs:List (List Key×Addr×Value)}(r:KT H kvs xs)(k:List Key){b:Addr}{y:V}{u:Value}(hb:H b=some (.tup (k.map kV)))(ry:RelV y u):
  KT H (W3 kvs k y) (storedH xs k b u):=by
 have e:(kvs.any λkv=>decide (kv.1=k))=(atKey xs k).isSome:=by
  rw[U7,(r.val k).isSome_eq,Option.isSome_map]
 unfold W3 storedH
 rw[e]
 by_cases q:(atKey xs k).isSome=true
 ·rw[if_pos q,if_pos q];exact r.repl k ry
 ·rw[if_neg q,if_neg q];exact Paired.snoc r ⟨rfl,hb,ry⟩
theorem KT.keeps{H H':Hp}{kvs:List (List Key×V)}{xs:List (List Key×Addr×Value)}(r:KT H kvs xs)(ht:∀b ys,H b=some (.tup ys)->H' b=some (.tup ys)):KT H' kvs xs:=
 Paired.mapP r λ_ _ z=>⟨z.1,ht _ _ z.2.1,z.2.2⟩
section
variable{P:Program}{w:World}{H:Hp}{h:Heap}{a:Addr}
theorem bBZ{u:HO}(ok:HOk P w H h)(e:Rd H a u):ObjOk P w H h a u:=e.ok ok
theorem IC{kvs:List (Key×V)}(ok:HOk P w H h)(e:Rd H a (.dK kvs)):kvs.length<=sizeLine/\(a==sysModules)=false/\∃vs,KV kvs vs/\h.DictOf (J2 P w) a vs:=
 show ObjOk P w H h a (.dK kvs)from bBZ ok e
theorem ZG{kvs:List (Key×V)}(ok:HOk P w H h)(e:H a=some (.dK kvs)):kvs.length<=sizeLine/\(a==sysModules)=false/\∃vs,KV kvs vs/\h.DictOf (J2 P w) a vs:=IC ok (.inl e)
theorem FH{ks:List Key}(ok:HOk P w H h)(e:H a=some (.tup (ks.map kV))):(tupleKind (J2 P w)).is h ks a:=by
 obtain⟨_,its,r,o,h1,h2,n,h3⟩:=(show ObjOk P w H h a (.tup (ks.map kV))from ok a _ e)
 exact⟨o,its.toArray,n,h1,h2,h3,by simpa using IF r⟩
theorem OJ{kvs:List (List Key×V)}(ok:HOk P w H h)(e:Rd H a (.dT kvs)):kvs.length<=sizeLine/\(a==sysModules)=false/\
  ∃xs,KT H kvs xs/\h.DictOfH (tupleKind (J2 P w)) a xs:=by
 obtain⟨z,y,xs,r,o,es,ep,h1,h2,h3,h4,h5⟩:=(show ObjOk P w H h a (.dT kvs)from bBZ ok e)
 refine⟨z,y,xs,r,o,es,ep,h1,h2,h3,h4,λx hx=> ?_,h5⟩
 have all:∀ {l:List (List Key×V)} {m:List (List Key×Addr×Value)},KT H l m->∀x∈m,(tupleKind (J2 P w)).is h x.1 x.2.1:=by
  intro l m q
  induction q with
  |nil=>intro x hx;exact nomatch hx
  | @cons p q ps qs hq t ih=>
   intro x hx
   rcases cZ hx with e|hx
   ·subst e
    exact FH ok (by rw[<-hq.1];exact hq.2.1)
   ·exact ih x hx
 exact all r x hx
theorem dOZ{kvs:List (List Key×V)}(ok:HOk P w H h)(e:H a=some (.dT kvs)):kvs.length<=sizeLine/\(a==sysModules)=false/\
  ∃xs,KT H kvs xs/\h.DictOfH (tupleKind (J2 P w)) a xs:=OJ ok (.inl e)
end
noncomputable def DGet(H:Hp)(a:Addr)(y:V)(r:Option V):Prop:=
 (∃kvs k,Rd H a (.dK kvs)/\y=kV k/\r=P2 kvs k)\/∃kvs k b,Rd H a (.dT kvs)/\y=.ref b/\H b=some (.tup (k.map kV))/\r=P2 kvs k
noncomputable def DPut(H:Hp)(a:Addr)(y v:V)(H':Hp):Prop:=
 (∃kvs k,H a=some (.dK kvs)/\y=kV k/\kvs.length<sizeLine/\H'=upd H a (.dK (W3 kvs k v)))\/
 ∃kvs k b,H a=some (.dT kvs)/\y=.ref b/\H b=some (.tup (k.map kV))/\kvs.length<sizeLine/\H'=upd H a (.dT (W3 kvs k v))
theorem DGet.k{H:Hp}{a:Addr}{kvs:List (Key×V)}{k:Key}(e:H a=some (.dK kvs)):DGet H a (kV k) (P2 kvs k):=.inl ⟨kvs,k,.inl e,rfl,rfl⟩
theorem DPut.k{H:Hp}{a:Addr}{kvs:List (Key×V)}{k:Key}{v:V}(e:H a=some (.dK kvs))(hl:kvs.length<sizeLine):DPut H a (kV k) v (upd H a (.dK (W3 kvs k v))):=.inl ⟨kvs,k,e,rfl,hl,rfl⟩
section
variable{X:Cx}{pins:List (Addr×Obj)}{σ:St}{H:Hp}{s:Shared}{a:Addr}{y v:V}{u r:Value}{o:Option V}{A:Around}{E:Value->Shared->Prop}
theorem Inv.big(I:Inv X pins σ H s):sysModules<s.heap.objs.size:=by
 have h:mainGlobals<s.heap.objs.size:=(I.mod.glob.keeps I.bk).lt
 exact lt_trans (by decide) h
theorem UM{Q:Value->Shared->Prop}(hu:A.units+1<cLine)(I:Inv X pins σ H s)(g:DGet H a y (some v))(ry:RelV y u)(h:∀w' s',Inv X pins σ H s'->RelV v w'->Q w' s'):
  wpAny (model X.prog X.w) A (getItem (.ref a) u) Q E s:=by
 rcases g with⟨kvs,k,e,ey,l⟩|⟨kvs,k,b,e,ey,eb,l⟩
 ·subst ey
  obtain⟨z,hd,vs,rel,dd⟩:=IC I.hok e
  obtain⟨w',hw,rw'⟩:=RelO.some_of (v:=v) (o:=valueAt vs k) (by rw[l];exact rel.val k)
  exact wpAny_getItem_of (FQ ry) dd.mapOf hw (h w' _ (I.tok _) rw')
 ·subst ey
  cases(show u=Value.ref b from ry)
  obtain⟨z,hd,xs,rel,dd⟩:=OJ I.hok e
  obtain⟨w',hw,rw'⟩:=RelO.some_of (v:=v) (o:=(atKey xs k).map (·.2)) (by rw[l];exact rel.val k)
  obtain⟨p,hp,hp2⟩:=Option.map_eq_some_iff.mp hw
  refine wpAny_getItem_heap (tupleKind_room_in1 hu) (FH I.hok eb) dd hp ?_
  rw[hp2]
  exact h w' _ (I.tok _) rw'
theorem euZ{Q:Value->Shared->Prop}(hu:A.units+1<cLine)(I:Inv X pins σ H s)(g:DGet H a y o)(ry:RelV y u)(h:∀s',Inv X pins σ H s'->Q (.bool o.isSome) s'):
  wpAny (model X.prog X.w) A (compareOp .In u (.ref a)) Q E s:=by
 rcases g with⟨kvs,k,e,ey,l⟩|⟨kvs,k,b,e,ey,eb,l⟩
 ·subst ey
  obtain⟨z,hd,vs,rel,dd⟩:=IC I.hok e
  refine wpAny_in_of (FQ ry) hd dd.mapOf ?_
  rw[<-(rel.val k).isSome_eq,<-l]
  exact h _ (I.tok _)
 ·subst ey
  cases(show u=Value.ref b from ry)
  obtain⟨z,hd,xs,rel,dd⟩:=OJ I.hok e
  refine wpAny_in_heap (tupleKind_room_in1 hu) (FH I.hok eb) hd dd ?_
  have q:=(rel.val k).isSome_eq
  rw[Option.isSome_map]at q
  rw[<-q,<-l]
  exact h _ (I.tok _)
theorem a5Z{Q:Value->Shared->Prop}(hu:A.units+1<cLine)(I:Inv X pins σ H s)(g:DGet H a y o)(ry:RelV y u)(h:∀s',Inv X pins σ H s'->Q (.bool (!o.isSome)) s'):
  wpAny (model X.prog X.w) A (compareOp .NotIn u (.ref a)) Q E s:=by
 rcases g with⟨kvs,k,e,ey,l⟩|⟨kvs,k,b,e,ey,eb,l⟩
 ·subst ey
  obtain⟨z,hd,vs,rel,dd⟩:=IC I.hok e
  refine wpAny_notIn_of (FQ ry) hd dd.mapOf ?_
  rw[<-(rel.val k).isSome_eq,<-l]
  exact h _ (I.tok _)
 ·subst ey
  cases(show u=Value.ref b from ry)
  obtain⟨z,hd,xs,rel,dd⟩:=OJ I.hok e
  refine wpAny_notIn_heap (tupleKind_room_in1 hu) (FH I.hok eb) hd dd ?_
  have q:=(rel.val k).isSome_eq
  rw[Option.isSome_map]at q
  rw[<-q,<-l]
  exact h _ (I.tok _)
theorem KN{h':Heap}{t':Nat}{ob:HO}(I:Inv X pins σ H s)(mu:Mut (H a))(hs:Heap.SameBut a s.heap h')(he:∃q,h'.get? a=some q)(new:ObjOk X.prog X.w (upd H a ob) h' a ob):
  Inv X pins σ (upd H a ob) {s with heap:=h',toks:=t'}:=
 I.write (x:=a) (e:=a) mu (.inl rfl) (λb q hb z=>(hs.2 b hb).trans z) he new
theorem QM{P:Program}{w:World}{H':Hp}{h':Heap}{kvs:List (Key×V)}{vs:List (Key×Value)}(z:kvs.length<=sizeLine)(hd:(a==sysModules)=false)(rel:KV kvs vs)(dd:h'.DictOf (J2 P w) a vs):
  ObjOk P w H' h' a (.dK kvs):=⟨z,hd,vs,rel,dd⟩
theorem VP{H':Hp}{Q:Unit->Shared->Prop}(hu:A.units+1<cLine)(I:Inv X pins σ H s)(g:DPut H a y v H')(ry:RelV y u)(rv:RelV v r)(h:∀s',Inv X pins σ H' s'->Q () s'):
  wpAny (model X.prog X.w) A (setItem (.ref a) u r) Q E s:=by
 rcases g with⟨kvs,k,e,ey,l,eH⟩|⟨kvs,k,b,e,ey,eb,l,eH⟩
 ·subst ey eH
  obtain⟨z,hd,vs,rel,dd⟩:=ZG I.hok e
  have hz:vs.length<=sizeLine:=by rw[<-rel.length];exact z
  have hl:(W3 kvs k v).length<=sizeLine:=by have:=Z4 kvs k v;omega
  refine wpAny_setItem_pairs (hsz:=hz) (FQ ry) dd λh' dd' hs=>h _ ?_
  have he:∃q,h'.get? a=some q:=let⟨q,_,_,hq,_⟩:=dd';⟨q,hq⟩
  exact KN I (by rw[e];exact True.intro) hs he (QM hl hd (rel.put k rv) dd')
 ·subst ey eH
  cases(show u=Value.ref b from ry)
  obtain⟨z,hd,xs,rel,dd⟩:=dOZ I.hok e
  have hz:xs.length<=sizeLine:=by rw[<-Paired.length rel];exact z
  have hl:(W3 kvs k v).length<=sizeLine:=by have:=Z4 kvs k v;omega
  refine wpAny_setItem_heap (hsz:=hz) (tupleKind_room_in1 hu) (FH I.hok eb) dd λh' dd' hs=>h _ ?_
  obtain⟨q,es,ep,hq,h2,h3,h4,_,h5⟩:=dd'
  refine KN I (by rw[e];exact True.intro) hs ⟨q,hq⟩ ⟨hl,hd,_,(rel.put k eb rv).keeps λc ys ec=> ?_,q,es,ep,hq,h2,h3,h4,h5⟩
  rw[B5 (IX ec e (λz=>nomatch z))]
  exact ec
variable{kvs:List (Key×V)}{k:Key}
theorem dCZ{Q:Value->Shared->Prop}(I:Inv X pins σ H s)(e:Rd H a (.dK kvs))(h:∀t s',Inv X pins σ H s'->Q (.int kvs.length t) s'):wpAny (model X.prog X.w) A (call (.builtin "len") [.ref a]) Q E s:=by
 obtain⟨z,hd,vs,rel,dd⟩:=IC I.hok e
 refine call_len_dict hd dd (by rw[<-rel.length];rw[sizeLine_eq]at z;omega) ?_
 rw[<-rel.length]
 exact h _ _ (I.tok _)
end
noncomputable def dUZ(i:Expr):Prop:=∀ov iv,subscripted i false ov iv=operate [ov,iv] (getItem ov iv)
theorem aGZ{prog:Program}{w:World}{A:Around}{E:Value->Shared->Prop}{s:Shared}{env:Env}{value slice:Expr}{pos:Pos}{T id:String}{Q:Value->Shared->Prop}
  (hl:typeLookup (.type T) "__getitem__"=pure (some (.builtin id)))(hs:dUZ slice)
  (h:wpAny (model prog w) A (eval value env) (λo s₁=>wpAny (model prog w) A (eval slice env) (λi s₂=>s₂.TypeIs o T/\wpAny (model prog w) A (getItem o i) Q E s₂) E s₁) E s):
  wpAny (model prog w) A (eval (.Subscript value slice pos) env) Q E s:=by
 refine Subscript_ (wpAny_mono h (λo s₁ h₁=>wpAny_mono h₁ (λi s₂ h₂=> ?_) λ_ _ x=>x) λ_ _ x=>x)
 obtain⟨hT,h₂⟩:=h₂
 unfold subscriptTail
 refine bZ ?_
 rw[getitemInPython_of_ne hT.not_modules]
 refine bZ (wpAny_specialOf hT hl ?_)
 have fin:wpAny (model prog w) A (subscripted slice false o i) (λr s₃=>wpAny (model prog w) A (letTemporaryGo value o r>>=λ_=>pure r) Q E s₃) E s₂:=by
  rw[hs o i]
  exact wpAny_operating (wpAny_mono h₂ (λr s₃ h₃=>bZ (wpAny_letTemporaryGo (pZ h₃))) λ_ _ x=>x)
 first
  |exact pZ (bZ fin)
  |exact bZ (pZ (bZ fin))
  |exact bZ fin
theorem MZ{X:Cx}{pins:List (Addr×Obj)}{σ:St}{H:Hp}{s:Shared}{a:Addr}{y:V}{o:Option V}(I:Inv X pins σ H s)(g:DGet H a y o):s.TypeIs (.ref a) "dict":=by
 rcases g with⟨kvs,k,e,_,_⟩|⟨kvs,k,b,e,_,_,_⟩
 ·obtain⟨_,_,vs,_,dd⟩:=IC I.hok e
  exact dd.typeIs
 ·obtain⟨_,_,xs,_,dd⟩:=OJ I.hok e
  exact dd.typeIs
inductive tDGetW (Q:VK) (x y:V) (H2:Hp):Prop
 |mk:∀a v,(x=.ref a)->(DGet H2 a y (some v))->(Q v H2)->tDGetW Q x y H2
noncomputable def YC(td ty:TE):TE:=fun σ H Q=>td σ H λx H1=>ty σ H1 λy H2=>tDGetW Q x y H2
section
variable{X:Cx}{o i e value:Expr}{pos pos' tpos:Pos}{td ty tv:TE}
theorem C9(hu:X.A.units+1<cLine)(ho:PE X o td)(hi:PE X i ty)(hs:dUZ i):PE X (.Subscript o i pos) (YC td ty):=by
 intro pins s σ H Q I h
 refine aGZ PySem.F.slot_dict_getitem.lookup hs (thn (ho pins s σ H _ I h) λu s1 ⟨x,H1,I1,rx,q1⟩=>thn (hi pins s1 σ H1 _ I1 q1) λiv s2 ⟨y,H2,I2,ry,a,v,ex,g,q2⟩=> ?_)
 subst ex
 obtain rfl:u=Value.ref a:=rx
 exact⟨MZ I2 g,UM hu I2 g ry λw' s3 I3 rw'=>⟨v,H2,I3,rw',q2⟩⟩
end
theorem OA{P:Program}{w:World}{H:Hp}(h:Heap)(hb:sysModules<h.objs.size):ObjOk P w H (h.push {cls:=.type "dict",data:=.dict #[]}) h.objs.size (.dK []):=
 ⟨zero_le _,beq_eq_false_iff_ne.mpr (Ne.symm (ne_of_lt hb)),[],.nil,Heap.DictOf.new h⟩
noncomputable def c5Z:TE:=λ_ H Q=>∀p,H p=none->Q (.ref p) (upd H p (.dK []))
section
variable{X:Cx}{pos:Pos}
theorem NQ:PE X (.Dict [] [] pos) c5Z:=λpins s σ H Q I h=>
 wpAny_Dict_empty ⟨.ref s.heap.objs.size,_,I.laid (a:=s.heap.objs.size) (o:=.dK []) (t':=s.toks) (λ_ _ q=>gZ _ q) (le_refl _) (OA s.heap I.big),rfl,h _ (I.hok.fresh (le_refl _))⟩
end
noncomputable def QQ:List (TE×TE)->St->Hp->(List (V×V)->Hp->Prop)->Prop
 | [],_,H,Q=>Q [] H
 |(tk,tv)::r,σ,H,Q=>tk σ H λx H1=>tv σ H1 λy H2=>QQ r σ H2 λps H3=>Q ((x,y)::ps) H3
noncomputable abbrev VV:List (V×V)->List (Value×Value)->Prop:=Paired λp q=>RelV p.1 q.1/\RelV p.2 q.2
noncomputable def PPs(X:Cx)(pos:Pos)(keys:List (Option Expr))(values:List Expr)(trs:List (TE×TE)):Prop:=
 ∀(pins:List (Addr×Obj)) (s:Shared) (σ:St) (H:Hp) (Q:List (V×V)->Hp->Prop),Inv X pins σ H s->QQ trs σ H Q->
  wpAny (model X.prog X.w) X.A (evalPairs (pairTrees keys values X.env pos)) (λvs s'=>∃ps H',Inv X pins σ H' s'/\VV ps vs/\Q ps H') X.xe s
theorem RT{X:Cx}{pos:Pos}:PPs X pos [] [] []:=λpins s σ H Q I h=>pairTrees_nil_walk ⟨[],H,I,.nil,h⟩
theorem U8{X:Cx}{pos:Pos}{k v:Expr}{ks:List (Option Expr)}{vs:List Expr}{tk tv:TE}{trs:List (TE×TE)}(hk:PE X k tk)(hv:PE X v tv)(hr:PPs X pos ks vs trs):
  PPs X pos (some k::ks) (v::vs) ((tk,tv)::trs):=λpins s σ H Q I h=>
 pairTrees_cons_walk (thn (hk pins s σ H _ I h) λu s1 ⟨x,H1,I1,rx,q1⟩=>thn (hv pins s1 σ H1 _ I1 q1) λw2 s2 ⟨y,H2,I2,ry,q2⟩=>
  thn (hr pins s2 σ H2 _ I2 q2) λws s3 ⟨ps,H3,I3,rel,q3⟩=>⟨(x,y)::ps,H3,I3,.cons ⟨rx,ry⟩ rel,q3⟩)
noncomputable def Y6(kvs more:List (Key×V)):List (Key×V):=more.foldl (λacc kv=>W3 acc kv.1 kv.2) kvs
theorem KV.merge:∀ {more:List (Key×V)} {rs:List (Key×Value)} {kvs:List (Key×V)} {vs:List (Key×Value)},KV more rs->KV kvs vs->KV (Y6 kvs more) (merged vs rs):=by
 intro more rs kvs vs r
 unfold KV at r
 induction r generalizing kvs vs with
 |nil=>intro q;exact q
 | @cons p q ps qs h t ih=>
  intro r0
  have e:KV (W3 kvs p.1 p.2) (stored vs q.1 q.2):=by
   have:=r0.put p.1 h.2
   rw[<-h.1];exact this
  exact ih e
theorem U4:∀(more kvs:List (Key×V)),(Y6 kvs more).length<=kvs.length+more.length
 | [],kvs=>by show kvs.length<=kvs.length+0;omega
 |p::r,kvs=>by
  have h1:=U4 r (W3 kvs p.1 p.2)
  have h2:=Z4 kvs p.1 p.2
  show(Y6 (W3 kvs p.1 p.2) r).length<=_
  rw[length_cons];omega
theorem EV{P:Program}{w:World}:∀ {kvs:List (Key×V)} {ws:List (Value×Value)},VV (kvs.map λkv=>(kV kv.1,kv.2)) ws->∃rs,Carries (J2 P w) ws rs/\KV kvs rs
 | [],_,r=>by rw[map_nil]at r;cases r;exact⟨[],True.intro,.nil⟩
 |p::kvs,_,r=>by
  rw[map_cons]at r
  cases r with
  | @cons a b as bs h t=>
   obtain⟨rs,c,q⟩:=EV (P:=P) (w:=w) t
   obtain⟨b1,b2⟩:=b
   exact⟨(p.1,b2)::rs,⟨FQ h.1,rfl,c⟩,.cons ⟨rfl,h.2⟩ q⟩
noncomputable def dMZ(trs:List (TE×TE)):TE:=fun σ H Q=>∀p,H p=none->QQ trs σ (upd H p (.dK [])) λps H2=>H2 p=some (.dK [])/\∃kvs:List (Key×V),ps=kvs.map (λkv=>(kV kv.1,kv.2))/\kvs.length<=15/\Q (.ref p) (upd H2 p (.dK (Y6 [] kvs)))
theorem RQ{X:Cx}{pos:Pos}{keys:List (Option Expr)}{values:List Expr}{trs:List (TE×TE)}(h:PPs X pos keys values trs)(hall:keys.all (·.isSome)=true)(hl:keys.length=values.length)(h0:keys≠ [])
  (h15:keys.length<=15):PE X (.Dict keys values pos) (dMZ trs):=by
 intro pins s σ H Q I q
 have hn:=I.hok.fresh (le_refl s.heap.objs.size)
 have I1:=I.laid (a:=s.heap.objs.size) (o:=.dK []) (h':=s.heap.push {cls:=.type "dict",data:=.dict #[]}) (t':=s.toks) (λ_ _ q=>gZ _ q) (le_refl _) (OA s.heap I.big)
 refine wpAny_Dict_walk (knd:=J2 X.prog X.w) hall hl h0 h15 (thn (h pins _ σ _ _ I1 (q _ hn)) λws s2 ⟨ps,H2,I2,rel,e,kvs,ep,lk,q2⟩=> ?_)
 subst ep
 obtain⟨rs,c,rk⟩:=EV (P:=X.prog) (w:=X.w) rel
 obtain⟨z,hd,vs0,r0,dd⟩:=ZG I2.hok e
 cases r0
 refine⟨rs,c,dd,λh' dd' hs=>⟨.ref s.heap.objs.size,_, ?_,rfl,q2⟩⟩
 have hz:(Y6 [] kvs).length<=sizeLine:=by
  have h1:=U4 kvs []
  rw[length_nil]at h1
  rw[sizeLine_eq];omega
 have he:∃q,h'.get? s.heap.objs.size=some q:=let⟨q,_,_,hq,_⟩:=dd';⟨q,hq⟩
 exact KN I2 (by rw[e];exact True.intro) hs he (QM hz hd (rk.merge .nil) dd')
section
variable{X:Cx}{pins:List (Addr×Obj)}{σ:St}{H:Hp}{s:Shared}{a:Addr}{y d:V}{u r:Value}{o:Option V}{A:Around}{E:Value->Shared->Prop}
end
section
variable{X:Cx}{o e f:Expr}{apos cpos:Pos}{td ty tx:TE}
variable{pins:List (Addr×Obj)}{σ:St}{H:Hp}{s:Shared}{a:Addr}{kvs:List (Key×V)}{A:Around}{E:Value->Shared->Prop}
variable{y:V}{u:Value}
noncomputable def ejZ:R2:=λx y H Q=>∃a o,y=.ref a/\DGet H a x o/\Q (.bl o.isSome) H
noncomputable def atZ:R2:=λx y H Q=>∃a o,y=.ref a/\DGet H a x o/\Q (.bl (!o.isSome)) H
theorem esZ(hu:X.A.units+64<cLine):OpR X (compareOp .In) ejZ:=by
 intro pins s σ H x y v u Q I rx ry h
 obtain⟨a,o,rfl,g,q⟩:=h
 cases ry
 exact euZ (by omega) I g rx λs' I'=>⟨.bl o.isSome,H,I',rfl,q⟩
theorem aKZ(hu:X.A.units+64<cLine):OpR X (compareOp .NotIn) atZ:=by
 intro pins s σ H x y v u Q I rx ry h
 obtain⟨a,o,rfl,g,q⟩:=h
 cases ry
 exact a5Z (by omega) I g rx λs' I'=>⟨.bl (!o.isSome),H,I',rfl,q⟩
noncomputable def deZ:V->V->V->Hp->(Hp->Prop)->Prop:=λo i v H Q=>∃a H',o=.ref a/\DPut H a i v H'/\Q H'
theorem FG(hu:X.A.units+64<cLine):cTZ X deZ:=by
 intro pins s σ H o i v ov iv u Q I ro ri rv h
 obtain⟨a,H',rfl,g,q⟩:=h
 cases ro
 exact VP (by omega) I g ri rv λs' I'=>⟨H',I',q⟩
end
end L2
namespace PySem
namespace ZT
section
variable{prog:Program}{w:World}{A:Around}{E:Value->Shared->Prop}{s:Shared}
end
end ZT
end PySem
namespace L2
open PySem PySem.Spec PyProof.Rows
section
variable{X:Cx}{pins:List (Addr×Obj)}{σ:St}{H:Hp}{s:Shared}{a:Addr}{xs ys:List V}{t:Bool}
variable{K:FZ}{elts:List Expr}{kt:Nat}{pt:Pos}
variable{tg:Expr}
end
end L2
namespace PySem
open PyProof.Rows L2
namespace F
end F
section
variable{prog:Program}{w:World}{A:Around}{E:Value->Shared->Prop}{s:Shared}
end
end PySem
namespace L2
open PySem PySem.Spec PyProof.Rows
section
variable{X:Cx}{tg:Expr}
end
end L2
namespace PySem
open PyProof.Rows
namespace F
theorem list_no_keys:typeLookup (.type "list") (Str.ofString "keys")=pure none:=by rw[typeLookup_type,builtinLookup_eq_fast];kernel_rfl
theorem list_no_getattr:typeLookup (.type "list") (Str.ofString "__getattr__")=pure none:=by rw[typeLookup_type,builtinLookup_eq_fast];kernel_rfl
theorem sub_attrErr:isSubtype (.type "AttributeError") (.type "AttributeError")=pure true:=by rw[isSubtype_type];kernel_rfl
end F
section
variable{prog:Program}{w:World}{A:Around}{E:Value->Shared->Prop}{s:Shared}
theorem VD{l:Addr}{xs:Array Value}{k:Nat}{sl:Array (Option Value)}{Q:Option Value->Shared->Prop}(hh:A.handled=none)(hl:s.heap.get? l=some {cls:=.type "list",data:=.seq xs k,slots:=sl})
  (q:∀h' tk,(∀b o,s.heap.get? b=some o->h'.get? b=some o)->Q none {s with heap:=h',toks:=tk}):
  wpAny (model prog w) A (getAttr? (.ref l) (Str.ofString "keys")) Q E s:=by
 have ty:s.TypeIs (.ref l) "list":=⟨_,hl,rfl⟩
 have hlk:=list_getattribute
 have hbd:=F.slot_list_getattribute.bind (.ref l)
 unfold getAttr?
 refine bZ (m:=mkText (Str.ofString "keys")) ?_
 unfold mkText
 repeat (any_goals (first|assumption|wp_step))
 refine codeAny_mono (codeAny_call_builtin (R:=wants (λ_ _=>False) (λe s'=>∃h' tk a,s.heap.NewAttrErr h' a (.ref l) (Str.ofString "keys")/\e=.ref a/\s'={s with heap:=h',toks:=tk})) F.slot_list_getattribute.plain am_entry_list_getattribute (F.slot_list_getattribute.check _ _ _ _ _ _ _ _ (show Shared.TypeIs {s with toks:=s.toks+1} (.ref l) "list"from⟨_,hl,rfl⟩) (F.args_list_getattribute_2 _ _)
  (meets_getattribute_miss_list l xs k sl (Str.ofString "keys") s.toks F.list_no_keys (by decide +kernel) (by decide +kernel) prog w A _ {s with toks:=s.toks+1} ⟨hl,hh,λh' tk e hn=>⟨h',tk,e,hn,rfl,rfl⟩⟩))) λr s' hr=> ?_
 rcases r with e|fl
 ·obtain⟨h',tk,a,hn,rfl,rfl⟩:=hr
  obtain⟨t,u,ha⟩:=hn.there
  have hT:Shared.TypeIs {s with heap:=h',toks:=tk} (.ref a) "AttributeError":=⟨_,ha,rfl⟩
  have hsub:=F.sub_attrErr
  have hng:=F.list_no_getattr
  have fin:=q h' tk hn.keeps
  dsimp only
  repeat (any_goals (first|assumption|wp_step))
 cases fl<;>exact hr.elim
theorem RJ{p:Addr}{key v:Value}{Q:List Value->Shared->Prop}(hp:s.heap.IsTuple p #[key,v])
  (q:Q [key,v] s):wpAny (model prog w) A (Builtin.Dict.pairItems (.ref p)) Q E s:=by
 obtain⟨o,ho,hc,n,hd⟩:=id hp
 have ty:s.TypeIs (.ref p) "tuple":=⟨_,ho,hc⟩
 unfold Builtin.Dict.pairItems
 refine bZ (wpAny_typeOf ty ?_)
 rw[if_pos (by decide)]
 refine bZ (wpAny_seqItems ho hd (pZ q))
end
end PySem
namespace PySem
open PyProof.Rows
namespace F
theorem entry_dict_update_loop:entryFor table "dict.update.loop"=some Builtin.«dict.update.loop»:=by kernel_rfl
theorem plain_dict_update_loop:plainId "dict.update.loop"=true:=by decide +kernel
end F
section
variable{prog:Program}{w:World}{A:Around}{E:Value->Shared->Prop}{s:Shared}
noncomputable def PairsAt{K:Type}[DecidableEq K](knd:KeyKind prog w K)(h:Heap):List Value->List (K×Value)->Prop
 | [],ps=>ps=[]
 |x::xs,ps=>∃p k key v r,x=.ref p/\h.IsTuple p #[key,v]/\knd.is k key=true/\ps=(k,v)::r/\PairsAt knd h xs r
theorem PairsAt.at{K:Type}[DecidableEq K]{knd:KeyKind prog w K}{h h':Heap}(e:∀p o,h.get? p=some o->o.cls=.type "tuple"->h'.get? p=some o):∀ {xs:List Value} {ps:List (K×Value)},PairsAt knd h xs ps->PairsAt knd h' xs ps
 | [],_,q=>q
 |x::xs,_,⟨p,k,key,v,r,h1,⟨o,ho,hc,h2⟩,h3,h4,h5⟩=>⟨p,k,key,v,r,h1,⟨o,e p o ho hc,hc,h2⟩,h3,h4,PairsAt.at e h5⟩
theorem OL{K:Type}[DecidableEq K]{knd:KeyKind prog w K}{R:Result->Shared->Prop}(hh:A.handled=none){d it l:Addr}{its:Array Value}(n1:d≠it)(n2:d≠l)(n3:it≠l):
  ∀(xs:List Value) (ps:List (K×Value)) (i:Nat) (s:Shared) (kvs:List (K×Value)),its.toList.drop i=xs->s.heap.IsListIter it l i->s.heap.IsList l its->s.heap.DictOf knd d kvs->PairsAt knd s.heap xs ps->kvs.length+xs.length<=sizeLine->
   (∀h' tk,h'.DictOf knd d (merged kvs ps)->(∀b o,b≠d->b≠it->s.heap.get? b=some o->h'.get? b=some o)->R (.ok (.ret .none)) {s with heap:=h',toks:=tk})->
   codeAny (model prog w) A (.builtin "dict.update.loop" ⟨[.ref d,.ref it,rawInt i,.none],[]⟩) R s
 | [],ps,i,s,kvs,hx,hI,hL,hD,hP,hz,q=>by
  have hP':ps=[]:=hP
  subst hP'
  have hn:its[i]? =none:=by
   rw[Array.getElem?_eq_none_iff]
   have:=congrArg List.length hx
   rw[length_drop,length_nil]at this
   simpa using Nat.le_of_sub_eq_zero this
  refine codeAny_builtin F.entry_dict_update_loop ?_
  rw[Around.under_plainId F.plain_dict_update_loop]
  unfold Builtin.«dict.update.loop»
  refine bZ (wpAny_pyNext_list_end (A:=A.in1) hh hI hL hn λh' he=> ?_)
  have fin:=q h' s.toks (by
   obtain⟨o,es,ep,ho,r⟩:=hD
   exact⟨o,es,ep,he d o n1 ho,r⟩) (λb o hb hb2 e=>he b o hb2 e)
  repeat (any_goals (first|assumption|wp_step))
 |x::xs,ps,i,s,kvs,hx,hI,hL,hD,hP,hz,q=>by
  obtain⟨p,k,key,v,r,rfl,hp,hk,rfl,hr⟩:=hP
  have hi:its[i]? =some (.ref p):=by
   have:(its.toList.drop i)[0]? =some (.ref p):=by rw[hx];rfl
   rw[List.getElem?_drop]at this
   simpa using this
  have hx2:its.toList.drop (i+1)=xs:=by
   rw[<-List.drop_drop,hx];rfl
  refine codeAny_builtin F.entry_dict_update_loop ?_
  rw[Around.under_plainId F.plain_dict_update_loop]
  unfold Builtin.«dict.update.loop»
  refine bZ (wpAny_pyNext_list_item (A:=A.in1) hI hL hi λh1 hI1 hs1=> ?_)
  have hD1:h1.DictOf knd d kvs:=by
   obtain⟨o,es,ep,ho,r⟩:=hD
   exact⟨o,es,ep,(hs1.2 d n1).trans ho,r⟩
  have pit:∀p o,s.heap.get? p=some o->o.cls=.type "tuple"->p≠it:=λp o ho hc e=>by
   subst e
   obtain⟨o2,e2,c2,_⟩:=hI
   rw[ho]at e2;cases e2;rw[hc]at c2;exact absurd c2 (by decide)
  have hp1:h1.IsTuple p #[key,v]:=by
   obtain⟨o,ho,hc,r⟩:=hp
   exact⟨o,(hs1.2 p (pit p o ho hc)).trans ho,hc,r⟩
  refine bZ (wpAny_holding (bZ (wpAny_tryCatch (RJ (s:={s with heap:=h1}) hp1 ?_))))
  refine wpAny_holding (wpAny_dictSet_pairs hk hD1 (λh2 hD2 hs2=> ?_) (by omega))
  refine pZ ⟨plainId_quiet F.plain_dict_update_loop _, ?_⟩
  have pd:∀p o,h1.get? p=some o->o.cls=.type "tuple"->p≠d:=λp o ho hc e=>by
   subst e
   obtain⟨o2,es,ep,e2,c2,_⟩:=hD1
   rw[ho]at e2;cases e2;have c3:=c2.1;rw[hc]at c3;exact absurd c3 (by decide)
  have hlen:(stored kvs k v).length<=kvs.length+1:=by
   unfold stored
   split
   ·rw[length_map];omega
   ·rw[length_append];exact le_refl _
  refine OL hh n1 n2 n3 xs r (i+1) _ (stored kvs k v) hx2 ?_ ?_ hD2 ?_ ?_ λh' tk hd' hk'=> ?_
  ·exact hI1.extBut hs2.extBut (Ne.symm n1)
  ·obtain⟨o,ho,r⟩:=hL
   exact⟨o,(hs2.2 l (Ne.symm n2)).trans ((hs1.2 l (Ne.symm n3)).trans ho),r⟩
  ·exact hr.at λp o ho hc=>by
    have h1':=(hs1.2 p (pit p o ho hc)).trans ho
    exact(hs2.2 p (pd p o h1' hc)).trans h1'
  ·rw[length_cons]at hz;omega
  ·exact q h' tk hd' λb o hb hb2 e=>hk' b o hb hb2 ((hs2.2 b hb).trans ((hs1.2 b hb2).trans e))
end
end PySem
namespace PySem
section
variable{prog:Program}{w:World}{A:Around}{E:Value->Shared->Prop}{s:Shared}
theorem EH{K:Type}[DecidableEq K]{knd:KeyKind prog w K}{Q:Value->Shared->Prop}(hh:A.handled=none){l:Addr}{its:Array Value}{n:Nat}{sl:Array (Option Value)}{ps:List (K×Value)}
  (hl:s.heap.get? l=some {cls:=.type "list",data:=.seq its n,slots:=sl})(hP:PairsAt knd s.heap its.toList ps)(hz:its.size<=sizeLine)
  (hQ:∀h' tk,h'.DictOf knd s.heap.objs.size (merged [] ps)->(∀b o,s.heap.get? b=some o->h'.get? b=some o)->Q (.ref s.heap.objs.size) {s with heap:=h',toks:=tk}):
  wpAny (model prog w) A (call (.type "dict") [.ref l]) Q E s:=by
 have ltl:l<s.heap.objs.size:=lt_size hl
 refine callType_codes (Q₁:=λobj s₁=>obj=.ref s.heap.objs.size/\s₁={s with heap:=s.heap.push {cls:=.type "dict",data:=.dict #[]}}) F.kt_called_dict (F.kt_typeCall_dict_1 _) F.entry_dict_init
  (kt_code_dict_new _ ⟨rfl,rfl⟩) λobj s₁ h₁=> ?_
 obtain⟨rfl,rfl⟩:=h₁
 have hS:(s.heap.push {cls:=.type "dict",data:=.dict #[]}).get? s.heap.objs.size=some {cls:=.type "dict",data:=.dict #[]}:=get?_push_size _ rfl
 have tyd:Shared.TypeIs {s with heap:=s.heap.push {cls:=.type "dict",data:=.dict #[]}} (.ref s.heap.objs.size) "dict":=⟨_,hS,rfl⟩
 have hl1:(s.heap.push {cls:=.type "dict",data:=.dict #[]}).get? l=some {cls:=.type "list",data:=.seq its n,slots:=sl}:=gZ _ hl
 have tyl:Shared.TypeIs {s with heap:=s.heap.push {cls:=.type "dict",data:=.dict #[]}} (.ref l) "list":=⟨_,hl1,rfl⟩
 refine⟨tyd,F.args_dict_init_2 _ _, ?_⟩
 unfold Builtin.«dict.__init__»
 unfold Builtin.Dict.selfAndRest Builtin.Dict.notOrdered
 refine bZ (bZ ?_)
 rw[if_pos (by decide)]
 refine bZ (wpAny_typeOf tyd ?_)
 rw[if_neg (by decide)]
 refine pZ (bZ (pZ (pZ ?_)))
 show wpAny _ _ (Builtin.Dict.updateFrom "dict.__init__" s.heap.objs.size (.ref l) [] .none) _ _ _
 unfold Builtin.Dict.updateFrom
 refine bZ (wpAny_typeOf tyl ?_)
 rw[if_pos (by decide)]
 refine bZ (VD (A:=A.in1.in1) hh hl1 λh2 tk hk2=> ?_)
 rw[if_pos (show(none:Option Value).isNone=true from rfl)]
 refine bZ (wpAny_rule ?_)
 have hL2:h2.IsList l its:=⟨_,hk2 _ _ hl1,rfl,n,rfl⟩
 refine bZ (wpAny_pyIter_list (s:={s with heap:=h2,toks:=tk}) hL2 ?_)
 refine pZ ⟨plainId_quiet F.plain_dict_update_loop _, ?_⟩
 have hd2:=hk2 _ _ hS
 have ltd:s.heap.objs.size<h2.objs.size:=lt_size hd2
 have ltl2:l<h2.objs.size:=lt_size (hk2 _ _ hl1)
 have kp:∀b o,h2.get? b=some o->(h2.push {cls:=.type "list_iterator",data:=.fields #[.ref l,.int 0 0]}).get? b=some o:=λb o e=>gZ _ e
 refine OL (knd:=knd) (its:=its) (A:=A.in1) hh (ne_of_lt ltd) (Nat.ne_of_gt ltl) (Nat.ne_of_gt ltl2) its.toList ps 0 _ [] rfl ⟨_,get?_push_size _ rfl,rfl,rfl⟩ (hL2.at λo e=>kp _ _ e) ?_ ?_ (by simpa using hz) λh' tk' hd' hk'=>⟨rfl,hQ h' tk' hd' λb o e=>hk' b o (ne_of_lt (lt_size e)) (ne_of_lt (lt_trans (lt_size e) ltd)) (kp _ _ (hk2 _ _ (gZ _ e)))⟩
 ·obtain⟨o,es,ep,ho,r⟩:=Heap.DictOf.new (knd:=knd) s.heap
  exact⟨o,es,ep,kp _ _ (hk2 _ _ ho),r⟩
 ·exact hP.at λp o ho _=>kp _ _ (hk2 _ _ (gZ _ ho))
end
end PySem
namespace L2
open PySem PySem.Spec PyProof.Rows
noncomputable def PrV(H:Hp):List V->List (Key×V)->Prop
 | [],ps=>ps=[]
 |x::xs,ps=>∃p k v r,x=.ref p/\H p=some (.tup [kV k,v])/\ps=(k,v)::r/\PrV H xs r
theorem PrV.len{H:Hp}:∀ {xs:List V} {ps:List (Key×V)},PrV H xs ps->ps.length=xs.length
 | [],ps,h=>by rw[show ps=[]from h];rfl
 |x::xs,ps,⟨p,k,v,r,_,_,e,h⟩=>by rw[e,length_cons,length_cons,PrV.len h]
section
variable{X:Cx}{K:FZ}{pins:List (Addr×Obj)}{σ:St}{H:Hp}{s:Shared}
theorem PrV.real(I:Inv X pins σ H s):∀ {xs:List V} {us:List Value} {ps:List (Key×V)},Vals xs us->PrV H xs ps->∃rs:List (Key×Value),PairsAt (J2 X.prog X.w) s.heap us rs/\KV ps rs
 | [],_,ps,.nil,h=>by rw[show ps=[]from h];exact⟨[],rfl,.nil⟩
 |x::xs,_,ps,.cons rx rr,⟨p,k,v,r,e,hp,e2,h⟩=>by
  subst e;subst e2
  cases rx
  obtain⟨rs,h1,h2⟩:=PrV.real I rr h
  obtain⟨its,rv,pl,hz⟩:=I.tuple (SqT.of hp)
  cases rv with
  |cons r1 rv=>
   cases rv with
   |cons r2 rv=>
    cases rv
    exact⟨(k,_)::rs,⟨p,k,_,_,rs,rfl,pl,FQ r1,rfl,h1⟩,.cons ⟨rfl,r2⟩ h2⟩
theorem aBZ(hc:X.calm=true)(hK:X.K=K:=by rfl):CallR X (.type "dict") (λxs H Q=>∃l ys ps,xs=[.ref l]/\SqL K H l ys/\PrV H ys ps/\∀d,H d=none->Q (.ref d) (upd H d (.dK (Y6 [] ps)))):=by
 subst hK
 intro pins s σ H xs us Q I r h
 obtain⟨l,ys,ps,rfl,hS,hP,q⟩:=h
 obtain⟨u,rfl,ru⟩:=AK r
 cases ru
 obtain⟨its,rv,⟨⟨c,dc,dt,sl⟩,n,hl,c1,c2,c3⟩,hz⟩:=I.list hS
 replace c1:c=.type "list":=c1
 replace c2:dc=none:=c2
 replace c3:dt=.seq its.toArray n:=c3
 subst c1 c2 c3
 obtain⟨rs,hA,hkv⟩:=hP.real I rv
 have hlen:=rv.length
 refine EH (knd:=J2 X.prog X.w) (I.ok.hd hc) hl (by simpa using hA) (by rw[size_toArray,<-hlen];exact hz) λh' tk hd' kp=> ?_
 have hzz:(Y6 [] ps).length<=sizeLine:=by
  have h1:=U4 ps []
  have h2:=hP.len
  rw[length_nil]at h1
  omega
 have hb:(s.heap.objs.size==sysModules)=false:=beq_eq_false_iff_ne.mpr (Ne.symm (ne_of_lt I.big))
 exact⟨.ref s.heap.objs.size,_,I.laid (t':=tk) kp (le_refl _) (QM hzz hb (hkv.merge .nil) hd'),rfl,q _ (I.hok.fresh (le_refl _))⟩
end
noncomputable def HJ(xs ys:List V):Bool:=(List.range (min xs.length ys.length)).all (λj=>eqV ((xs[j]?).getD .non) ((ys[j]?).getD .non))&&xs.length==ys.length
section
variable{X:Cx}{K:FZ}{pins:List (Addr×Obj)}{σ:St}{H:Hp}{s:Shared}
theorem apZ{A:Around}{xs ys:List V}{us vs:List Value}(r:Vals xs us)(r2:Vals ys vs)(fx:xs.all T7=true)(fy:ys.all T7=true)(j:Nat)(h1:j<us.toArray.size)(h2:j<vs.toArray.size):
  SeqAt.EqAt A s us.toArray[j] vs.toArray[j] (eqV ((xs[j]?).getD .non) ((ys[j]?).getD .non)):=by
 obtain⟨x,hx,rx⟩:=U5 r h1
 obtain⟨y,hy,ry⟩:=U5 r2 h2
 rw[hx,hy]
 exact XB rx ry (all_eq_true.mp fx x (mem_of_getElem? hx)) (all_eq_true.mp fy y (mem_of_getElem? hy))
end
end L2
namespace PySem
open PyProof.Rows
section
variable{prog:Program}{w:World}{A:Around}{E:Value->Shared->Prop}{s:Shared}
theorem SN:∀(vs:List Value) (ns:List Int),vs.length=ns.length->(∀(j:Nat) (v:Value),vs[j]? =some v->∃t,v=.int (ns.getD j 0) t)->IntsAre vs ns
 | [],[],_,_=> .nil
 | [],_::_,h,_=>by cases h
 |_::_,[],h,_=>by cases h
 |v::vs,n::ns,h,q=>by
  obtain⟨t,e⟩:=q 0 v rfl
  have e':v=.int n t:=e
  subst e'
  exact .cons n t (SN vs ns (by simpa using h) λj u hu=>q (j+1) u hu)
theorem ED{h:Heap}{a b:Addr}{o:Obj}{vs:List Value}{out:Array Value}(e:h.get? b=some o)(n:b≠a):(sortedHeap h a vs out).get? b=some o:=by
 unfold sortedHeap
 have h1:(h.update a (Obj.mapSeq λ_=> #[])).get? b=some o:=(get?_update_other _ _ (Ne.symm n)).trans e
 exact(get?_update_other _ _ (Ne.symm n)).trans (gZ _ (gZ _ h1))
theorem EE{h:Heap}{a:Addr}{vs:List Value}{out:Array Value}{n:Nat}(e:h.get? a=some {cls:=.type "list",data:=.seq vs.toArray n}):∃n',(sortedHeap h a vs out).get? a=some {cls:=.type "list",data:=.seq out n'}:=by
 unfold sortedHeap
 have h1:=get?_update_self (Obj.mapSeq (λ_=>(#[]:Array Value))) e rfl
 have h2:=gZ (seqObj "list" #[] 0) (gZ (seqObj "tuple" vs.toArray 0) h1)
 exact⟨_,get?_update_self (Obj.mapSeq (λ_=>out)) h2 rfl⟩
theorem CV{K:Type}[DecidableEq K]{knd:KeyKind prog w K}{Q:Value->Shared->Prop}(hh:A.handled=none){d:Addr}{kvs:List (K×Value)}{ep:Nat}{ns:List Int}(hd:(d==sysModules)=false)(hD:s.heap.DictAt knd d kvs ep)(hl:kvs.length=ns.length)
  (hI:∀(j:Nat) (k:K) (x v:Value),kvs[j]? =some (k,x)->knd.is k v=true->∃t,v=.int (ns.getD j 0) t)(h64:ns.length<64)
  (hQ:∀(h1 h':Heap) (tk:Nat) (out:Array Value) (ns':List Int) (n:Nat),(∀b o,s.heap.get? b=some o->h1.get? b=some o)->(∀b o,h1.get? b=some o->h'.get? b=some o)->h'.get? h1.objs.size=some {cls:=.type "list",data:=.seq out n}->IntsAre out.toList ns'->ns'.Perm ns->List.Pairwise (·<=·) ns'->Q (.ref h1.objs.size) {s with heap:=h',toks:=tk}):
  wpAny (model prog w) A (call (.builtin "sorted") [.ref d]) Q E s:=by
 have hcn:checkBuiltinCall "sorted" ⟨[.ref d],[]⟩=pure ():=by kernel_rfl
 have zl:(64:Nat)<=sizeLine:=by decide
 refine wpAny_call (codeAny_call_builtin plain_sorted entry_sorted (wpAny_of_eq hcn ?_))
 unfold Builtin.sorted
 refine bZ (m:=checkCount "sorted" 1 1 1) (wpAny_of_eq (show checkCount "sorted" 1 1 1=pure () by first|rfl|kernel_rfl) ?_)
 refine bZ (m:=collect (.ref d)) (W.kdu_collect (A:=A.in1) (W.kdl_dict (knd:=knd) (kvs:=kvs) (ep:=ep) hd) hh hD (by omega) λh1 tk acc hk1 hacc=> ?_)
 obtain⟨a1,a2⟩:=hacc
 have hlen:acc.toList.length=ns.length:=by rw[Array.length_toList,a1,hl]
 have hints:IntsAre acc.toList ns:=SN acc.toList ns hlen λj v hv=>by
  obtain⟨k,x,e1,e2⟩:=a2 j v (by simpa using hv)
  exact hI j k x v e1 e2
 refine bZ (wpAny_newList ?_ (by omega))
 have hS:(h1.push {cls:=.type "list",data:=.seq acc.toList.toArray}).get? h1.objs.size=some {cls:=.type "list",data:=.seq acc.toList.toArray}:=get?_push_size _ rfl
 have ty:Shared.TypeIs {s with heap:=h1.push {cls:=.type "list",data:=.seq acc.toList.toArray},toks:=tk} (.ref h1.objs.size) "list":=⟨_,hS,rfl⟩
 refine bZ (wpAny_holding (wpAny_call_entry slot_list_sort ty entry_list_sort (list_sort_tree (n:=0) hS hints (by omega) λout ns' i1 i2 i3=>⟨.none,rfl, ?_⟩) (args_list_sort _)))
 obtain⟨n',hn'⟩:=EE (out:=out) hS
 exact pZ (hQ h1 _ _ _ ns' n' hk1 (λb o e1=>ED (gZ _ e1) (ne_of_lt (lt_size e1))) hn' i1 i2 i3)
end
end PySem
namespace L2
open PySem PySem.Spec PyProof.Rows
theorem BL:∀ {us:List Value} {ns:List Int},IntsAre us ns->Vals (ns.map V.int) us
 |_,_,.nil=> .nil
 |_,_,.cons n t h=> .cons ⟨t,rfl⟩ (BL h)
section
variable{X:Cx}
theorem UI(hc:X.calm=true):CallR X (.builtin "sorted") (λxs H Q=>∃(a:Addr) (kvs:List (Key×V)) (ns:List Int),xs=[.ref a]/\H a=some (.dK kvs)/\kvs.map (·.1)=ns.map Sum.inl/\ns.length<64/\∀l ns',H l=none->ns'.Perm ns->List.Pairwise (·<=·) ns'->Q (.ref l) (upd H l (.lst (ns'.map V.int)))):=by
 intro pins s σ H xs us Q I r h
 obtain⟨a,kvs,ns,rfl,ha,hk,hn,q⟩:=h
 obtain⟨u,rfl,ru⟩:=AK r
 cases ru
 obtain⟨z,hd,vs,rel,dd⟩:=ZG I.hok ha
 have hkeys:=rel.keys
 have hlen:=rel.length
 have hkl:kvs.length=ns.length:=by
  have:=congrArg List.length hk
  simpa using this
 have zl:(64:Nat)<=sizeLine:=by decide
 obtain⟨o,es,ep,ho,hx,hdt,hko,hp,hnd⟩:=dd
 refine CV (knd:=J2 X.prog X.w) (kvs:=vs) (ep:=ep) (ns:=ns) (I.ok.hd hc) hd ⟨o,es,ho,hx,hdt,hko,hp,hnd⟩ (by omega) ?_ hn ?_
 ·intro j k x v e1 e2
  have hj:j<ns.length:=by
   have:=(List.getElem?_eq_some_iff.mp e1).1
   omega
  have e3:(vs.map (·.1))[j]? =some k:=by rw[getElem?_map,e1];rfl
  rw[<-hkeys,hk,getElem?_map,List.getElem?_eq_getElem hj]at e3
  have e4:(Sum.inl ns[j]:Key)=k:=Option.some.inj e3
  subst e4
  have e5:Value.isInt ns[j] v=true:=e2
  obtain⟨t,e6⟩:=Value.isInt_shape e5
  exact⟨t,by rw[e6];simp[List.getD_eq_getElem?_getD,List.getElem?_eq_getElem hj]⟩
 ·intro h1 h' tk out ns' n k1 k2 hl i1 i2 i3
  have I1:Inv X pins σ H {s with heap:=h1}:=I.kept (t':=s.toks) k1
  have hz:(ns'.map V.int).length<=sizeLine:=by rw[length_map,i2.length_eq];omega
  exact⟨.ref h1.objs.size,_,I1.laid (t':=tk) k2 (le_refl _) (show ObjOk X.prog X.w _ h' _ (.lst _)from⟨hz,out.toList,n,BL i1,by simpa using hl⟩),rfl,q _ ns' (I1.hok.fresh (le_refl _)) i2 i3⟩
end
end L2
namespace PySem
open AutoSeq1 (wpAny_loadPart')
theorem HM(l b:Addr)(items items2:Array Value)(n n2:Nat)(dd2:Option Addr)(sl2:Array (Option Value))(hlong:¬(!items.isEmpty&&Builtin.List.listTooLong (items.size+items2.size))=true):
  Meets (Builtin.«list.extend» ⟨[.ref l,.ref b],[]⟩) (λ_ R s=>s.heap.get? l=some {cls:=.type "list",data:=.seq items n}/\s.heap.get? b=some {cls:=.type "tuple",dict:=dd2,data:=.seq items2 n2,slots:=sl2}/\items.size+items2.size<=sizeLine/\
   R (.ok (.ret .none)) {s with heap:=s.heap.update l (Obj.mapSeq λx=>x++items2)}):=by
 refine .of_wp λprog w A R s h=> ?_
 obtain⟨hp,g,d,tk,os⟩:=s
 obtain⟨hl,hb,hz,h⟩:=h
 have e0:(!items.isEmpty&&Builtin.List.listTooLong (items.size+items2.size))=false:=by simpa using hlong
 have hpl:(Obj.mapSeq (λx=>x++items2) {cls:=.type "list",data:=.seq items n}).data.pastItsLine=none:=by
  show(if(items++items2).size>sizeLine+1 then some "sequence:memory"else none)=none
  have h0:¬(items++items2).size>sizeLine+1:=by rw[Array.size_append];omega
  rw[if_neg h0]
 wp_walk using wpAny_loadPart' hl,wpAny_loadPart' hb
 rw[hpl]
 exact pZ (pZ ⟨_,rfl,h⟩)
end PySem
namespace L2
open PySem PySem.Spec PyProof.Rows
section
variable{X:Cx}{K:FZ}{tg:Expr}
noncomputable def MY(K:FZ):V->List V->Hp->VK->Prop:=λx vs H Q=>∃l b xs zs,x=.ref l/\vs=[.ref b]/\H l=some (.lst xs)/\SqT K H b zs/\xs.length+zs.length<=sizeLine/\Q .non (upd H l (.lst (xs++zs)))
theorem QX:MtM X "list.extend" (MY X.K):=by
 intro pins s σ H x vs v us Q I rx rv h
 obtain⟨l,b,xs,zs,rfl,rfl,hH,hB,hz,q⟩:=h
 cases rx
 obtain⟨u,rfl,ru⟩:=rv.one
 cases ru
 obtain⟨z,its,n,r,hl,e⟩:=I.lstM hH
 obtain⟨its2,r2,⟨⟨c2,d2,dt2,sl2⟩,e2,hc2,n2,hd2⟩,hl2⟩:=I.tuple hB
 replace hc2:c2=.type "tuple":=hc2
 replace hd2:dt2=.seq its2.toArray n2:=hd2
 subst hc2 hd2
 have l1:=r.length
 have l2:=r2.length
 have hsz:its.toArray.size+its2.toArray.size<=sizeLine:=by rw[size_toArray,size_toArray];omega
 have hlong:¬(!its.toArray.isEmpty&&Builtin.List.listTooLong (its.toArray.size+its2.toArray.size))=true:=by
  rw[GB hsz,Bool.and_false]
  exact nZ
 refine call_meets F.slot_list_extend ⟨_,e,rfl⟩ F.entry_list_extend (F.args_list_extend_2 _ _)
  (HM l b its.toArray its2.toArray n n2 d2 sl2 hlong) ⟨e,e2,hsz, ?_⟩
 refine⟨.non,_,I.lset (its':=its++its2) hH e (by simp) (r.append r2) ?_,rfl,q⟩
 rw[length_append]
 omega
theorem IQ(hK:X.K=K:=by rfl):MtM X "list.extend" (MY K):=by subst hK;exact QX
noncomputable def d8Z(K:FZ)(tl:TE):TI:=fun σ H R=>tl σ H λx H1=>(∃a,x=.ref a/\(∃xs,SqL K H1 a xs)/\R (Itl K a) H1)\/∃a,x=.ref a/\(∃xs,SqT K H1 a xs)/\R (Itt K a) H1
theorem b6Z{l:Expr}{tl:TE}(hl:PE X l tl):PI X tg l (d8Z X.K tl):=by
 intro pins s σ H R I h
 refine thn (hl pins s σ H _ I h) λv s1 ⟨x,H1,I1,r1,q1⟩=> ?_
 rcases q1 with⟨a,e,⟨xs,hq⟩,q⟩|⟨a,e,⟨xs,hq⟩,q⟩
 ·subst e
  cases r1
  obtain⟨its,rv,p,hz⟩:=I1.list hq
  refine wpAny_pyIter_list p.isList ?_
  refine⟨s1.heap.objs.size,[s1.heap.objs.size],_,_,H1,rfl,I1.kept (t':=s1.toks) λb o e=>gZ _ e,IS a _,⟨_,get?_push_size _ rfl,rfl,rfl⟩,λb hb=> ?_,q⟩
  have e:b=s1.heap.objs.size:=by simpa using hb
  subst e
  exact I1.fpOk (le_refl _) (I1.hok.fresh (le_refl _))
 ·subst e
  cases r1
  obtain⟨its,rv,p,hz⟩:=I1.tuple hq
  refine wpAny_pyIter_tuple (show s1.heap.IsTuple a its.toArray from p) ?_
  refine⟨s1.heap.objs.size,[s1.heap.objs.size],_,_,H1,rfl,I1.kept (t':=s1.toks) λb o e=>gZ _ e,ES a _,⟨_,get?_push_size _ rfl,rfl,rfl⟩,λb hb=> ?_,q⟩
  have e:b=s1.heap.objs.size:=by simpa using hb
  subst e
  exact I1.fpOk (le_refl _) (I1.hok.fresh (le_refl _))
theorem caZ{l:Expr}{tl:TE}(hl:PE X l tl)(hK:X.K=K:=by rfl):PI X tg l (d8Z K tl):=by subst hK;exact b6Z hl
end
theorem c4Z{X:Cx}:CallR X (.builtin "len") (λxs H Q=>∃d kvs,xs=[V.ref d]/\Rd H d (.dK kvs)/\Q (.int (kvs.length:Nat)) H):=λpins s σ H xs us Q I r h=>by
 obtain⟨d,kvs,rfl,hd,q⟩:=h
 obtain⟨u,rfl,ru⟩:=AK r
 cases ru
 exact dCZ I hd λt s' I2=>⟨.int (kvs.length:Nat),H,I2,⟨t,rfl⟩,q⟩
section
variable{X:Cx}{K:FZ}{pins:List (Addr×Obj)}{σ:St}{H:Hp}{s:Shared}
end
end L2
namespace PySem
open PyProof.Rows
section
variable{prog:Program}{w:World}
noncomputable def dd{K:Type}[DecidableEq K](D:List K)(x:K):List K:=if x∈D then D else D++ [x]
variable{A:Around}{E:Value->Shared->Prop}{s:Shared}
end
end PySem
namespace L2
open PySem PySem.Spec PyProof.Rows
section
variable{X:Cx}{K:FZ}
end
end L2
namespace PySem
open PyProof.Rows
section
variable{prog:Program}{w:World}{K:Type}[DecidableEq K]{knd:KeyKind prog w K}{A:Around}{E:Value->Shared->Prop}{s:Shared}
end
section
variable{prog:Program}{w:World}{A:Around}{E:Value->Shared->Prop}{s:Shared}
end
end PySem
namespace L2
open PySem PySem.Spec PyProof.Rows
section
variable{X:Cx}{K:FZ}
end
end L2
namespace PySem
open PyProof.Rows
section
variable{prog:Program}{w:World}{A:Around}{E:Value->Shared->Prop}{s:Shared}
end
end PySem
namespace L2
open PySem PySem.Spec PyProof.Rows
section
variable{X:Cx}{K:FZ}
end
end L2
namespace PySem
open Sem(wp)
open PyProof.Rows
namespace ZT
section
variable{prog:Program}{w:World}{A:Around}{E:Value->Shared->Prop}{s:Shared}
end
end ZT
end PySem
namespace L2
open PySem PySem.Spec PyProof.Rows
section
variable{X:Cx}{K:FZ}{elts:List Expr}{kt:Nat}{pt:Pos}
end
end L2
namespace PySem
open Sem(wp)
end PySem
namespace L2
open PySem PySem.Spec PyProof.Rows
section
variable{M:Model}{A:Around}{E:Value->Shared->Prop}{s:Shared}{base:Heap}{env:Env}{outer l:List Env}{L a:Addr}{C fl:Value}{g:Heap}{H:Hp}{Q:Unit->Shared->Prop}
end
section
variable{P:Program}{w:World}{K:FZ}{mg:Str->Option Value}{base:Heap}{N:List Str}{qual:Str}{scope:Scope}{f:Addr}{cd:Value}{A:Around}{outer:List Env}{s:Shared}{H:Hp}{E:XK}
variable{X:Cx}
variable{k:Nat}{g:Addr}{fd:FuncData}{ps:List Str}{sp:Heap->Sp}{x:Str}{p pos:Pos}{e:Expr}{es:List Expr}{t:TA}{name:Str}{params:Arguments}{body:Expr}{clos:List (Str×Addr)}{pm:Value}{fs:List Str}{js:List Nat}
variable{cl:List (Str×Addr)}
end
noncomputable def Dl(K:FZ)(H:Hp):Nat->V->V->Prop
 |0,x,y=>Y8 x=true/\x=y
 |n+1,x,y=>(Y8 x=true/\x=y)\/∃a b xs ys,x=.ref a/\y=.ref b/\((SqT K H a xs/\SqT K H b ys)\/(SqL K H a xs/\SqL K H b ys))/\xs.length=ys.length/\∀(j:Nat) u v,xs[j]? =some u->ys[j]? =some v->Dl K H n u v
section
variable{X:Cx}{K:FZ}{pins:List (Addr×Obj)}{σ:St}{H:Hp}{s:Shared}
theorem MW(I:Inv X pins σ H s){A:Around}{a b:Addr}{xs ys:List V}(hu:A.units<cLine)(ha:SqL X.K H a xs)(hb:SqL X.K H b ys)(hl:xs.length=ys.length)
  (he:∀(j:Nat) x y u v,xs[j]? =some x->ys[j]? =some y->RelV x u->RelV y v->SeqAt.EqAt A.in1 s u v true):SeqAt.RcAt A s (.ref a) (.ref b) true:=by
 obtain⟨its,r,pl,_⟩:=I.list ha
 obtain⟨its2,r2,pl2,_⟩:=I.list hb
 have hl2:its.length=its2.length:=by rw[<-r.length,<-r2.length];exact hl
 have h:=SeqAt.RcAt.lists (A:=A) (s:=s) (e:=λ_=>true) pl.isList pl2.isList (by simpa using hl2) hu (λj h1 h2=>by
  obtain⟨x,hx,rx⟩:=U5 r h1
  obtain⟨y,hy,ry⟩:=U5 r2 h2
  exact he j x y _ _ hx hy rx ry)
 have e:((List.range its.toArray.size).all λ_=>true)=true:=by simp
 rw[e]at h
 exact h
theorem TB(I:Inv X pins σ H s)(n:Nat):∀(A:Around) (x y:V) (u v:Value),A.units+n<cLine->Dl X.K H n x y->RelV x u->RelV y v->SeqAt.EqAt A s u v true:=by
 induction n with
 |zero=>
  intro A x y u v _ h rx ry
  obtain⟨hp,rfl⟩:=h
  exact DG rx ry hp
 |succ n ih=>
  intro A x y u v hu h rx ry
  rcases h with⟨hp,rfl⟩|⟨a,b,xs,ys,rfl,rfl,hab,hl,hd⟩
  ·exact DG rx ry hp
  ·cases rx;cases ry
   by_cases e:a=b
   ·subst e;exact SeqAt.EqAt.same _
   ·have h1:A.units<cLine:=lt_of_le_of_lt (le_add_right _ _) hu
    have h2:A.in1.units+n<cLine:=by
     show A.units+1+n<cLine
     rw[Nat.add_assoc,Nat.add_comm 1 n];exact hu
    rcases hab with⟨ha,hb⟩|⟨ha,hb⟩
    ·exact SeqAt.EqAt.of_refs e (SL I h1 ha hb hl λj x y u v hx hy rx ry=>ih A.in1 x y u v h2 (hd j x y hx hy) rx ry)
    ·exact SeqAt.EqAt.of_refs e (MW I h1 ha hb hl λj x y u v hx hy rx ry=>ih A.in1 x y u v h2 (hd j x y hx hy) rx ry)
noncomputable def bqZ(K:FZ):R2:=λx y H Q=>∃a b xs ys n,x=.ref a/\y=.ref b/\((SqT K H a xs/\SqT K H b ys)\/(SqL K H a xs/\SqL K H b ys))/\xs.length=ys.length/\n<=50/\(∀(j:Nat) u v,xs[j]? =some u->ys[j]? =some v->Dl K H n u v)/\Q (.bl true) H
theorem biZ(hu:X.A.units+64<cLine):OpR X (compareOp .Eq) (bqZ X.K):=by
 intro pins s σ H x y v u Q I rx ry h
 obtain⟨a,b,xs,ys,n,rfl,rfl,hab,hl,hn,hd,q⟩:=h
 cases rx;cases ry
 have h1:X.A.units<cLine:=lt_of_le_of_lt (le_add_right _ _) hu
 have h2:X.A.in1.units+n<cLine:=by
  show X.A.units+1+n<cLine
  exact lt_of_le_of_lt (by omega) hu
 rcases hab with⟨ha,hb⟩|⟨ha,hb⟩
 ·exact SL I h1 ha hb hl (λj x y u v hx hy rx ry=>TB I n X.A.in1 x y u v h2 (hd j x y hx hy) rx ry) X.prog X.w X.xe _ ⟨.bl true,H,I,rfl,q⟩
 ·exact MW I h1 ha hb hl (λj x y u v hx hy rx ry=>TB I n X.A.in1 x y u v h2 (hd j x y hx hy) rx ry) X.prog X.w X.xe _ ⟨.bl true,H,I,rfl,q⟩
theorem dDZ(hu:X.A.units+64<cLine)(hK:X.K=K:=by rfl):OpR X (compareOp .Eq) (bqZ K):=by subst hK;exact biZ hu
end
theorem ixT{K:FZ}{w:World}{H:Hp}{Q:VK}{a:Addr}{xs:List V}{i:Int}{v:V}(h:H a=some (.tup xs))(e:atI xs i=some v)(q:Q v H):rIxL K (.ref a) (.int i) H Q\/rIxT K (.ref a) (.int i) H Q\/rIxS (.ref a) (.int i) H Q\/rIxTop w K (.ref a) (.int i) H Q:=.inr (.inl ⟨a,xs,i,v,rfl,rfl,SqT.of h,e,q⟩)
theorem ixL{K:FZ}{w:World}{H:Hp}{Q:VK}{a:Addr}{xs:List V}{i:Int}{v:V}(h:H a=some (.lst xs))(e:atI xs i=some v)(q:Q v H):rIxL K (.ref a) (.int i) H Q\/rIxT K (.ref a) (.int i) H Q\/rIxS (.ref a) (.int i) H Q\/rIxTop w K (.ref a) (.int i) H Q:=.inl ⟨a,xs,i,v,rfl,rfl,SqL.of h,e,q⟩
theorem fS{N P:List Str}{sc:Scope}(a:sc.kind=.function:=by rfl)(b:sc.isCoroutine=false:=by rfl)(c:sc.isGenerator=false:=by rfl)(d:N.Nodup:=by decide +kernel)(e:N.take P.length=P:=by rfl)(f:∀x∈P,sc.names.lookup x=some .local\/sc.names.lookup x=some .cell:=by decide +kernel)(g:∀y∈sc.names,y.2≠ .free:=by decide +kernel):FnScope N P sc:=⟨a,b,c,d,e,f,g⟩
theorem cS{N:List Str}{sc scope:Scope}{x:Str}{caps:List Nat}{ns:List Str}(a:∀y∈scope.names,y.2≠ .cell:=by decide +kernel)(b:scope.kind=.function:=by rfl)(c:∀y∈scope.names,y.2=.local->scope.names.lookup y.1=some .local:=by decide +kernel)(d:scope.names.lookup x=some .local:=by rfl)(e:∀y∈scope.names,y.2=.free->sc.names.lookup y.1=some .cell\/sc.names.lookup y.1=some .free:=by decide +kernel)(f:caps.map (λj=>N[j]?)=ns.map some:=by rfl)(g:∀y∈ns,scope.names.lookup y=some .free:=by decide +kernel)(h:(x::ns).Nodup:=by decide +kernel):CompScope N sc scope x caps ns:=⟨a,b,c,d,e,f,g,h⟩
section
variable{X:Cx}{a b:Expr}{ta tb:TE}{pos:Pos}
theorem ixE(K:FZ)(w:World)(ha:PE X a ta)(hb:PE X b tb)(hs:RV b:=by exact λ_ _=>rfl)(hK:X.K=K:=by rfl)(hw:X.w=w:=by rfl):PE X (.Subscript a b pos) (tOp (λx y H Q=>rIxL K x y H Q\/rIxT K x y H Q\/rIxS x y H Q\/rIxTop w K x y H Q) ta tb):=FW (kIx hK hw) ha hb hs
end
noncomputable def Cn(P:Program)(w:World)(K:FZ)(mg:Str->Option Value)(base:Heap)(CX:CXT)(n:Nat)(x:Str)(ps:List Str)(sp:Sp):Prop:=∃f d,FnOk P w K mg base CX n f d ps sp/\Binds K d ps []/\kZ K (.ref f)=true/\mg x=some (.ref f)
end L2
noncomputable abbrev q1L:List PySem.Str:=["_law_cell","_law_many","_law_main"]
noncomputable abbrev q2L:List PySem.Str:=["_law_cell"]
noncomputable abbrev q4L:List PySem.Str:=["_law_cells","_law_heads_here","_law_b"]
noncomputable abbrev q5L:List PySem.Str:=["_law_found","_law_due"]
noncomputable abbrev q9L:List PySem.Str:=["_law_script","_law_k"]
noncomputable abbrev VN:List PySem.Str:=["_law_script"]
noncomputable abbrev ZD:List PySem.Str:=["_law_state","_law_kind","_law_cell"]
noncomputable abbrev RG:List PySem.Str:=["_law_state","_law_kinds","_law_cell"]
noncomputable abbrev c0Z:List PySem.Str:=["_law_state","_law_more","_law_heads_here"]
noncomputable abbrev EG:List PySem.Str:=["_law_state","_law_more"]
noncomputable abbrev cbZ:List PySem.Str:=["blocks","cells","frame","row"]
noncomputable abbrev UR:List PySem.Str:=["blocks","main","numbers","most","rounds"]
noncomputable abbrev aZZ:List PySem.Str:=["blocks","number","values"]
noncomputable abbrev cCZ:List PySem.Str:=["cell","new_numbers"]
noncomputable abbrev VB:List PySem.Str:=["cells","frame","row"]
noncomputable abbrev csZ:List PySem.Str:=["cells","frame","word"]
noncomputable abbrev NX:List PySem.Str:=["cells","value"]
noncomputable abbrev VI:List PySem.Str:=["cells","values"]
noncomputable abbrev chZ:List PySem.Str:=["frame","many_rows"]
noncomputable abbrev MV:List PySem.Str:=["frame","many_taken","values"]
noncomputable abbrev VF:List PySem.Str:=["frame","row"]
noncomputable abbrev czZ:List PySem.Str:=["frame","slot","value"]
noncomputable abbrev ayZ:List PySem.Str:=["root","parts_in","made"]
noncomputable abbrev UZ:List PySem.Str:=["self","blocks","main","numbers","most"]
noncomputable abbrev XD:List PySem.Str:=["self","cell"]
noncomputable abbrev bcZ:List PySem.Str:=["self","frame","row"]
noncomputable abbrev WA:List PySem.Str:=["self","outcome"]
noncomputable abbrev bdZ:List PySem.Str:=["self","told"]
noncomputable abbrev EI:List PySem.Str:=["self","value"]
noncomputable abbrev amZ:List PySem.Str:=["self","values"]
noncomputable abbrev K5:List PySem.Str:=["self"]
noncomputable abbrev UJ:List PySem.Str:=["sign","a","b"]
noncomputable abbrev arZ:List PySem.Str:=["stack","many"]
noncomputable abbrev YR:List PySem.Str:=["value","heads"]
noncomputable abbrev HN:List PySem.Str:=["value"]
noncomputable abbrev bfZ:List PySem.Str:=["values","new_numbers"]
namespace TM
open PySem PyProof.Rows
section
variable{prog:Program}{w:World}{A:Around}{E:Value->Shared->Prop}{s:Shared}
end
end TM
namespace L2
open PySem PySem.Spec PyProof.Rows
section
variable{X:Cx}{K:FZ}
end
end L2
namespace L2
open PySem PyProof.Rows
section
variable{X:Cx}
end
end L2
namespace L2
open PySem PySem.Spec PyProof.Rows
section
variable{X:Cx}{K:FZ}
noncomputable def bIZ(K:FZ):R2:=λx y H Q=>∃a b xs ys,x=.ref a/\y=.ref b/\SqL K H a xs/\SqL K H b ys/\xs.all T7=true/\ys.all T7=true/\Q (.bl (!HJ xs ys)) H
theorem a8Z(hu:X.A.units<cLine):OpR X (compareOp .NotEq) (bIZ X.K):=by
 intro pins s σ H x y v u Q I rx ry h
 obtain⟨a,b,xs,ys,rfl,rfl,ha,hb,fx,fy,q⟩:=h
 cases rx;cases ry
 obtain⟨its,r,pl,_⟩:=I.list ha
 obtain⟨its2,r2,pl2,_⟩:=I.list hb
 have l1:=r.length
 have l2:=r2.length
 by_cases hl:xs.length=ys.length
 ·have hl2:its.length=its2.length:=by rw[<-l1,<-l2];exact hl
  refine SeqAt.RcNeAt.lists (e:=λj=>eqV ((xs[j]?).getD .non) ((ys[j]?).getD .non)) pl.isList pl2.isList (by simpa using hl2) hu (λj h1 h2=>apZ r r2 fx fy j h1 h2) X.prog X.w X.xe _ ⟨.bl (!HJ xs ys),H,I, ?_,q⟩
  show Value.bool _=Value.bool _
  unfold HJ
  rw[<-hl,Nat.min_self,beq_self_eq_true,Bool.and_true]
  simp only[size_toArray,l1]
 ·have hl2:its.length≠its2.length:=by rw[<-l1,<-l2];exact hl
  refine SeqAt.RcNeAt.lists_lengths pl.isList pl2.isList (by simpa using hl2) hu X.prog X.w X.xe _ ⟨.bl (!HJ xs ys),H,I, ?_,q⟩
  show Value.bool _=Value.bool _
  unfold HJ
  rw[beq_false_of_ne hl,Bool.and_false]
  rfl
theorem bCZ(hu:X.A.units<cLine)(hK:X.K=K:=by rfl):OpR X (compareOp .NotEq) (bIZ K):=by subst hK;exact a8Z hu
theorem FC{as bs:List Str}:HJ (as.map V.str) (bs.map V.str)=decide (as=bs):=by
 unfold HJ
 rw[length_map,length_map]
 by_cases h:as=bs
 ·subst h
  rw[decide_eq_true rfl,beq_self_eq_true,Bool.and_true,all_eq_true]
  intro j hj
  rw[mem_range,Nat.min_self]at hj
  rw[getElem?_map,List.getElem?_eq_getElem hj]
  show eqV (.str _) (.str _)=true
  simp[eqV]
 ·rw[decide_eq_false h,Bool.and_eq_false_iff]
  by_cases hl:as.length=bs.length
  ·refine .inl ?_
   rw[<-Bool.not_eq_true]
   intro ha
   rw[all_eq_true]at ha
   refine h (List.ext_getElem hl λj h1 h2=> ?_)
   have:=ha j (mem_range.mpr (by omega))
   rw[getElem?_map,getElem?_map,List.getElem?_eq_getElem h1,List.getElem?_eq_getElem h2]at this
   have e:eqV (.str as[j]) (.str bs[j])=true:=this
   simpa [eqV]using e
  ·exact .inr (beq_false_of_ne hl)
theorem HZ{as:List Str}:(as.map V.str).all T7=true:=by
 rw[all_eq_true]
 intro x hx
 obtain⟨s,_,rfl⟩:=mem_map.mp hx
 rfl
end
end L2
namespace BV
open PySem L2
noncomputable abbrev AS:=Addr->Prop
noncomputable def Kp(S:AS)(H H':Hp):Prop:=(∀b xs,H b=some (.tup xs)->H' b=some (.tup xs))/\∀b o,H b=some o->¬S b->H' b=some o
theorem Kp.trans{S:AS}{H H1 H2:Hp}(a:Kp S H H1)(b:Kp S H1 H2):Kp S H H2:=⟨λc xs h=>b.1 c xs (a.1 c xs h),λc xs h n=>b.2 c xs (a.2 c xs h n) n⟩
theorem Kp.of{S:AS}{H H':Hp}(h:Same H H'):Kp S H H':=⟨λb o q=>h b _ q,λb o q _=>h b o q⟩
theorem Kp.upd{S:AS}{H:Hp}{p:Addr}{xs:List V}(h:S p)(hp:H p=some (.lst xs))(o:HO):Kp S H (upd H p o):=⟨λb u q=>by
 rw[B5 (IX q hp (by intro z;cases z))];exact q,λb u q n=>by
 have e:b≠p:=λe=>n (by rw[e];exact h)
 rw[B5 e];exact q⟩
theorem Kp.tups{S:AS}{H H':Hp}(h:Kp S H H'){b:Addr}{xs:List V}(q:H b=some (.tup xs)):H' b=some (.tup xs):=h.1 b xs q
noncomputable def Wd(H:Hp)(S S':AS):Prop:=∀a,S' a->S a\/H a=none
theorem A7{H:Hp}{p:Addr}(h:H p=none)(o:HO):Same H (upd H p o):=λb u q=>by rw[B5 (C5 q h)];exact q
structure Tr where
 T:Type
 kids:T->List T
 size:T->Nat
 val:AS->Hp->T->V->Prop
 res:AS->Hp->T->V->Prop
 hsz:∀t,size t=1+((kids t).map size).sum
 vm:∀ {S H H' t v},Kp S H H'->val S H t v->val S H' t v
 rm:∀ {S H H' t v},Kp S H H'->res S H t v->res S H' t v
 vw:∀ {S S' H t v},Wd H S S'->val S H t v->val S' H t v
 rw':∀ {S S' H t v},Wd H S S'->res S H t v->res S' H t v
inductive All2 {α β:Type} (R:α->β->Prop):List α->List β->Prop where
 |nil:All2 R [] []
 |cons {a b as bs}:R a b->All2 R as bs->All2 R (a::as) (b::bs)
namespace All2
variable{α β:Type}{R S:α->β->Prop}
theorem imp{as:List α}{bs:List β}(h:All2 R as bs)(f:∀a b,R a b->S a b):All2 S as bs:=by
 induction h with
 |nil=>exact .nil
 |cons r _ ih=>exact .cons (f _ _ r) ih
theorem app{as as':List α}{bs bs':List β}(h:All2 R as bs)(h':All2 R as' bs'):All2 R (as++as') (bs++bs'):=by
 induction h with
 |nil=>exact h'
 |cons r _ ih=>exact .cons r ih
theorem rev{as:List α}{bs:List β}(h:All2 R as bs):All2 R as.reverse bs.reverse:=by
 induction h with
 |nil=>exact .nil
 |cons r _ ih=>rw[reverse_cons,reverse_cons];exact ih.app (.cons r .nil)
theorem len{as:List α}{bs:List β}(h:All2 R as bs):as.length=bs.length:=by
 induction h with
 |nil=>rfl
 |cons _ _ ih=>simp only[length_cons,ih]
theorem get{as:List α}{bs:List β}(h:All2 R as bs):∀ {i:Nat} {b:β},bs[i]? =some b->∃a,as[i]? =some a/\R a b:=by
 induction h with
 |nil=>intro i b e;simp at e
 | @cons a b as bs r _ ih=>
  intro i c e
  cases i with
  |zero=>simp at e;subst e;exact⟨a,rfl,r⟩
  |succ i=>exact ih (by simpa using e)
theorem get'{as:List α}{bs:List β}(h:All2 R as bs):∀ {i:Nat} {a:α},as[i]? =some a->∃b,bs[i]? =some b/\R a b:=by
 induction h with
 |nil=>intro i b e;simp at e
 | @cons a b as bs r _ ih=>
  intro i c e
  cases i with
  |zero=>simp at e;subst e;exact⟨b,rfl,r⟩
  |succ i=>exact ih (by simpa using e)
theorem split{as as':List α}:∀ {bs:List β},All2 R (as++as') bs->∃b1 b2,bs=b1++b2/\All2 R as b1/\All2 R as' b2:=by
 induction as with
 |nil=>intro bs h;exact⟨[],bs,rfl,.nil,h⟩
 |cons a as ih=>
  intro bs h
  cases h with
  |cons r h=>
   obtain⟨b1,b2,rfl,h1,h2⟩:=ih h
   exact⟨_::b1,b2,rfl,.cons r h1,h2⟩
end All2
inductive Reach (D:Tr) (t0:D.T):List D.T->List D.T->Prop where
 |start:Reach D t0 [] [t0]
 |step {A:List D.T} {t:D.T} {r:List D.T}:Reach D t0 A (t::r)->Reach D t0 (A++ [t]) (D.kids t++r)
theorem Reach.back{D:Tr}{t0 t:D.T}{A W:List D.T}(h:Reach D t0 (A++ [t]) W):∃r,W=D.kids t++r/\Reach D t0 A (t::r):=by
 generalize e:A++ [t]=B at h
 cases h with
 |start=>simp at e
 |step h=>
  have:=List.append_inj' e rfl
  obtain⟨rfl,e2⟩:=this
  cases e2
  exact⟨_,rfl,h⟩
theorem Reach.first{D:Tr}{t0:D.T}{W:List D.T}(h:Reach D t0 [] W):W=[t0]:=by
 generalize e:([]:List D.T)=B at h
 cases h with
 |start=>rfl
 |step h=>simp at e
theorem Reach.size{D:Tr}{t0:D.T}{A W:List D.T}(h:Reach D t0 A W):A.length+(W.map D.size).sum=D.size t0:=by
 induction h with
 |start=>simp
 | @step A t r _ ih=>
  simp only[length_append,length_cons,length_nil,map_append,sum_append,map_cons,sum_cons]at ih⊢
  have:=D.hsz t
  omega
theorem Tr.pos(D:Tr)(t:D.T):1<=D.size t:=by have:=D.hsz t;omega
theorem Tr.len_le(D:Tr):∀W:List D.T,W.length<=(W.map D.size).sum
 | []=>le_refl _
 |t::r=>by have:=D.pos t;have:=D.len_le r;simp only[length_cons,map_cons,sum_cons];omega
theorem Tr.kids_le(D:Tr)(t:D.T):(D.kids t).length<=D.size t:=by have:=D.len_le (D.kids t);have:=D.hsz t;omega
noncomputable def MetAt(D:Tr)(S:AS)(H:Hp)(t:D.T)(x:V):Prop:=∃p v,x=.ref p/\H p=some (.tup [v,.int ((D.kids t).length:Nat)])/\D.val S H t v
theorem MetAt.mono{D:Tr}{S:AS}{H H':Hp}(m:Kp S H H'){t:D.T}{x:V}(h:MetAt D S H t x):MetAt D S H' t x:=by
 obtain⟨p,v,e,hp,hv⟩:=h
 exact⟨p,v,e,m.tups hp,D.vm m hv⟩
theorem MetAt.wide{D:Tr}{S S':AS}{H:Hp}(m:Wd H S S'){t:D.T}{x:V}(h:MetAt D S H t x):MetAt D S' H t x:=by
 obtain⟨p,v,e,hp,hv⟩:=h
 exact⟨p,v,e,hp,D.vw m hv⟩
inductive spPW (D:Tr) (vs:List V) (H:Hp) (Q:VK):Prop
 |mk:∀S t v,(vs=[v])->(D.val S H t v)->(D.size t<=400000)->(∀r H' ps,Same H H'->H r=none->H' r=some (.lst ps)->All2 (D.val S H') (D.kids t) ps->Q (.ref r) H')->spPW D vs H Q
noncomputable def spP(D:Tr):Sp:=λvs H Q _=>spPW D vs H Q
end BV
namespace BV
open PySem L2
theorem cxZ{H:Hp}{a:Addr}{o:HO}(h:H a=some o):upd H a o=H:=by
 funext b
 unfold upd
 split
 ·rename_i e;rw[e,h]
 ·rfl
end BV
namespace CL
open PySem L2 BV
noncomputable def KI:V->Bool
 | .int _| .bl _| .str _| .non=>true
 |_=>false
theorem sc_plain{x:V}(h:KI x=true):Y8 x=true:=by cases x<;>first|rfl|(cases h;done)
theorem aOZ{x:V}(h:KI x=true):ceZ x x=true:=by cases x<;>first|rfl|(cases h;done)
noncomputable def Mo(H H':Hp):Prop:=∀b xs,H b=some (.tup xs)->H' b=some (.tup xs)
noncomputable def Bt(a:Addr)(H H':Hp):Prop:=∀b o,H b=some o->b≠a->H' b=some o
theorem Bt.of{a:Addr}{H H':Hp}(h:Same H H'):Bt a H H':=λb o q _=>h b o q
theorem Bt.trans{a:Addr}{H H1 H2:Hp}(h:Bt a H H1)(h':Bt a H1 H2):Bt a H H2:=λb o q n=>h' b o (h b o q n) n
theorem Bt.upd{a:Addr}{H:Hp}(o:HO):Bt a H (upd H a o):=λb u q n=>by rw[B5 n];exact q
theorem Bt.tups{a:Addr}{H H':Hp}{us:List V}(h:Bt a H H')(ha:H a=some (.lst us)):Mo H H':=λb xs q=>h b _ q λe=>by subst e;rw[ha]at q;cases q
theorem B8{H H':Hp}(s:Same H H'):Mo H H':=λb xs e=>s _ _ e
theorem BZ:1<=sizeLine:=by decide
theorem O3:2<=sizeLine:=by decide
theorem RH:3<=sizeLine:=by decide
theorem PY{K:FZ}:kitOne K (.type "tuple") (.type "tuple")=some true:=rfl
theorem cOZ{K:FZ}:kitOne K (.type "tuple") (.type "list")=some false:=by rfl
theorem ctZ{K:FZ}:kitOne K (.type "list") (.type "list")=some true:=by rfl
theorem cKZ{K:FZ}:kitOne K (.type "list") (.type "tuple")=some false:=by rfl
theorem doZ{K:FZ}:kitAny K (.type "tuple") [.type "list",.type "tuple"]=some true:=by rfl
theorem duZ{K:FZ}:kitAny K (.type "list") [.type "list",.type "tuple"]=some true:=by rfl
structure ScT (K:FZ) (t:Value):Prop where
 li:kitOne K t (.type "list")=some false
 tu:kitOne K t (.type "tuple")=some false
 bo:kitAny K t [.type "list",.type "tuple"]=some false
 bl:∃b,kitOne K t (.type "bool")=some b
 st:∃b,kitOne K t (.type "str")=some b
 nt:∃b,kitOne K t (.type "int")=some b
theorem bGZ{K:FZ}{H:Hp}{x:V}(h:KI x=true):∃t,TyOf K H x t/\ScT K t:=by
 cases x with
 |int i=>exact⟨_,.int i,by rfl,by rfl,by rfl,⟨_,by rfl⟩,⟨_,by rfl⟩,⟨_,by rfl⟩⟩
 |bl i=>exact⟨_,.bl i,by rfl,by rfl,by rfl,⟨_,by rfl⟩,⟨_,by rfl⟩,⟨_,by rfl⟩⟩
 |str i=>exact⟨_,.str i,by rfl,by rfl,by rfl,⟨_,by rfl⟩,⟨_,by rfl⟩,⟨_,by rfl⟩⟩
 |non=>exact⟨_,.non,by rfl,by rfl,by rfl,⟨_,by rfl⟩,⟨_,by rfl⟩,⟨_,by rfl⟩⟩
 |_=>cases h
end CL
namespace NM
open PySem L2
seal PE PT PW PA PS PSs PTs PI PG PGs PO
noncomputable def top(i:Nat):Stmt:=PySem.Challenge.pw_speakmill_k68_run_and_rounds.main.body.getD i (.Pass ⟨0,0,0,0⟩)
noncomputable abbrev s_two_told:Stmt:=top 18
noncomputable abbrev s_quotient_told:Stmt:=top 19
noncomputable abbrev s_outcome:Stmt:=top 20
noncomputable abbrev s_bounded:Stmt:=top 21
noncomputable abbrev QJ:List Str:=["sign","a","b"]
theorem sc_two_told:FnScope QJ UJ (B4 s_two_told):=fS
noncomputable abbrev EF:List Str:=["a","b"]
theorem sc_quotient_told:FnScope EF ["a","b"] (B4 s_quotient_told):=fS
noncomputable abbrev WD:List Str:=["sign","a","b"]
theorem sc_outcome:FnScope WD UJ (B4 s_outcome):=fS
noncomputable abbrev VL:List Str:=["number"]
theorem sc_bounded:FnScope VL ["number"] (B4 s_bounded):=fS
structure NoG (mg:Str->Option Value):Prop where
 len_:mg "len"=none
 min_:mg "min"=none
 abs_:mg "abs"=none
 isinstance_:mg "isinstance"=none
 tuple_:mg "tuple"=none
 int_:mg "int"=none
 bool_:mg "bool"=none
theorem A7{H:Hp}{p:Addr}(h:H p=none)(o:HO):Same H (upd H p o):=λb u q=>by rw[B5 (C5 q h)];exact q
theorem ifT{c A B:Prop}[Decidable c](h:c)(a:A):if c then A else B:=by rw[if_pos h];exact a
theorem ifF{c A B:Prop}[Decidable c](h:¬c)(b:B):if c then A else B:=by rw[if_neg h];exact b
noncomputable abbrev GR:Int:=10000000000000000000000000000000000000000
noncomputable def bnd(n:Int):List V:=if n>GR\/n< -GR then [.str "refused",.str "great"]else [.str "value",.int n]
noncomputable def quo(a b:Int):List V:=if b=0 then [.str "refused",.str "nought"]else [.str "value",.int (a.fdiv b)]
theorem O3:(2:Nat)<=sizeLine:=by decide
section
variable{P:Program}{w:World}{K:FZ}{mg:Str->Option Value}{base:Heap}{f:Addr}{fd:FuncData}{DW TQ TZ:Addr}{DV UD UF:FuncData}{tG:Tok}
inductive spQuoW(vs:List V)(H:Hp)(Q:VK):Prop
 |mk:∀a b:Int,(vs=[.int a,.int b])->(b.natAbs.log2<9000)->(∀r H',Same H H'->H' r=some (.tup (quo a b))->Q (.ref r) H')->spQuoW vs H Q
noncomputable def bQZ:Sp:=λvs H Q _=>spQuoW vs H Q
theorem ok_quotient_told(F:Fun K "quotient_told" "quotient_told" s_quotient_told f fd):FnOk P w K mg base CX0 1 f fd ["a","b"] bQZ:=by
 refine F.ok sc_quotient_told (λvs H Q E h=> ?_) (λcdv A outer s H vs Q E hr h=> ?_)
 ·obtain⟨a,b,rfl,_⟩:=h
  rfl
 obtain⟨a,b,rfl,hb,q⟩:=h
 have nd:=sc_quotient_told.nd
 have hu:=hr.units0
 refine⟨_,(A8 (D8 (B9 (kEq (K:=K) hu) (pv 1) A9 rfl) (B0 (C2 (C1 (A0 B1 (A0 B1 A6))))) D2)
   (B0 (C2 (C1 (A0 B1 (A0 (B7 D5 (pv 0) (pv 1)) A6)))))), ?_⟩
 refine⟨_,rfl,.inl ⟨rfl,_,rfl,FO (λe=> ?_) (λe=> ?_)⟩⟩
 ·have e':b=0:=by have:=of_decide_eq_true e;injection this
  refine⟨O3,λp hp=>q p _ (A7 hp _) ?_⟩
  rw[A5,quo,if_pos e']
 ·have e':b≠0:=λz=>e (by rw[z];rfl)
  refine⟨_,rfl,_,rfl,_,_,rfl,rfl,⟨e',hb⟩,O3,λp hp=>q p _ (A7 hp _) ?_⟩
  rw[A5,quo,if_neg e']
inductive spOutW (vs:List V) (H:Hp) (Q:VK):Prop
 |mk:∀(s:Str) (a b:Int),(vs=[.str s,.int a,.int b])->((s="+"/\Q (.int (a+b)) H\/s="-"/\Q (.int (a - b)) H\/s="*"/\IntMulOk a b/\Q (.int (a*b)) H))->spOutW vs H Q
noncomputable def boZ:Sp:=λvs H Q _=>spOutW vs H Q
theorem ok_outcome(F:Fun K "outcome" "outcome" s_outcome f fd):FnOk P w K mg base CX0 1 f fd UJ boZ:=by
 refine F.ok sc_outcome (λvs H Q E h=> ?_) (λcdv A outer s H vs Q E hr h=> ?_)
 ·obtain⟨s,a,b,rfl,_⟩:=h
  rfl
 obtain⟨s,a,b,rfl,q⟩:=h
 have nd:=sc_outcome.nd
 have hu:=hr.units0
 refine⟨_,(A8 (D8 (B9 (kEq (K:=K) hu) (pv 0) B1 rfl) (B0 (C2 (B7 aJZ (pv 1) (pv 2)))) D2)
   (A8 (D8 (B9 (kEq (K:=K) hu) (pv 0) B1 rfl) (B0 (C2 (B7 P1 (pv 1) (pv 2)))) D2)
   (B0 (C2 (B7 EM (pv 1) (pv 2)))))), ?_⟩
 rcases q with⟨rfl,q⟩|⟨rfl,q⟩|⟨rfl,hm,q⟩
 ·exact⟨_,rfl,.inl ⟨rfl,_,rfl,ifT (by decide) ⟨_,rfl,_,rfl,.inl ⟨_,_,rfl,rfl,q⟩⟩⟩⟩
 ·exact⟨_,rfl,.inl ⟨rfl,_,rfl,ifF (by decide) ⟨_,rfl,.inl ⟨rfl,_,rfl,ifT (by decide) ⟨_,rfl,_,rfl,_,_,rfl,rfl,q⟩⟩⟩⟩⟩
 ·exact⟨_,rfl,.inl ⟨rfl,_,rfl,ifF (by decide) ⟨_,rfl,.inl ⟨rfl,_,rfl,ifF (by decide) ⟨_,rfl,_,rfl,_,_,rfl,rfl,hm,q⟩⟩⟩⟩⟩
inductive spBndW (vs:List V) (H:Hp) (Q:VK):Prop
 |mk:∀n:Int,(vs=[.int n])->(∀r H',Same H H'->H' r=some (.tup (bnd n))->Q (.ref r) H')->spBndW vs H Q
noncomputable def bxZ:Sp:=λvs H Q _=>spBndW vs H Q
theorem ok_bounded(F:Fun K "bounded" "bounded" s_bounded f fd)(B:NoG mg)(m_GREATEST:mg "GREATEST"=some (.int GR tG)):FnOk P w K mg base CX0 1 f fd ["number"] bxZ:=by
 refine F.ok sc_bounded (λvs H Q E h=> ?_) (λcdv A outer s H vs Q E hr h=> ?_)
 ·obtain⟨n,rfl,_⟩:=h
  rfl
 obtain⟨n,rfl,q⟩:=h
 have nd:=sc_bounded.nd
 have hu:=hr.units0
 refine⟨_,(A8 (D8 (B9 bnZ (C4 ZK rfl B.abs_ cJZ (A0 (pv 0) A6)) (BY (v:=.int 10000000000000000000000000000000000000000) rfl m_GREATEST ⟨_,rfl⟩) rfl) (B0 (C2 (C1 (A0 B1 (A0 B1 A6))))) D2)
   (B0 (C2 (C1 (A0 B1 (A0 (pv 0) A6)))))), ?_⟩
 refine⟨_,rfl,_,rfl,_,_,rfl,rfl,_,rfl,FO (λe=> ?_) (λe=> ?_)⟩
 ·have e1:GR<(if n<0 then -n else n):=of_decide_eq_true e
  have e':n>GR\/n< -GR:=by
   split at e1
   ·exact .inr (by omega)
   ·exact .inl (by omega)
  refine⟨O3,λp hp=>q p _ (A7 hp _) ?_⟩
  rw[A5,bnd,if_pos e']
 ·have e1:¬GR<(if n<0 then -n else n):=λz=>e (decide_eq_true z)
  have e':¬(n>GR\/n< -GR):=by
   split at e1<;>omega
  refine⟨_,rfl,O3,λp hp=>q p _ (A7 hp _) ?_⟩
  rw[A5,bnd,if_neg e']
noncomputable def sg:Nat->Str
 |0=> "+"|1=> "-"|2=> "*"|3=> "<"|4=> "="|_=> "/"
noncomputable def tw:Nat->Int->Int->List V
 |0,a,b=>bnd (a+b)|1,a,b=>bnd (a - b)|2,a,b=>bnd (a*b)|3,a,b=> [.str "value",.bl (decide (a<b))]|4,a,b=> [.str "value",.bl (decide (V.int a=V.int b))]|_,a,b=>quo a b
inductive spTwoW (vs:List V) (H:Hp) (Q:VK):Prop
 |mk:∀(k:Nat) (a b:Int),(vs=[.str (sg k),.int a,.int b])->(k<6)->(IntMulOk a b)->(b.natAbs.log2<9000)->(∀r H',Same H H'->H' r=some (.tup (tw k a b))->Q (.ref r) H')->spTwoW vs H Q
noncomputable def spTwo:Sp:=λvs H Q _=>spTwoW vs H Q
theorem ok_two_told(F:Fun K "two_told" "two_told" s_two_told f fd)
  (R5:Cn P w K mg base CX0 1 "quotient_told" ["a","b"] bQZ)
  (CC:Cn P w K mg base CX0 1 "outcome" UJ boZ)
  (CN:Cn P w K mg base CX0 1 "bounded" ["number"] bxZ):
  FnOk P w K mg base CX0 2 f fd UJ spTwo:=by
 obtain⟨DW,DV,R5,DT,EC,DZ⟩:=R5
 obtain⟨TQ,UD,CC,UE,TX,TY⟩:=CC
 obtain⟨TZ,UF,CN,UA,TV,UC⟩:=CN
 refine F.ok sc_two_told (λvs H Q E h=> ?_) (λcdv A outer s H vs Q E hr h=> ?_)
 ·obtain⟨k,a,b,rfl,_⟩:=h
  rfl
 obtain⟨k,a,b,rfl,hk,hm,hb,q⟩:=h
 have nd:=sc_two_told.nd
 have hu:=hr.units0
 refine⟨_,(A8 (D8 (B9 (kEq (K:=K) hu) (pv 0) B1 rfl) (B0 (C2 (C1 (A0 B1 (A0 (Q7 WQ (pv 1) (pv 2) rfl) A6))))) D2)
   (A8 (D8 (B9 (kEq (K:=K) hu) (pv 0) B1 rfl) (B0 (C2 (C1 (A0 B1 (A0 (Q7 (kEq (K:=K) hu) (pv 1) (pv 2) rfl) A6))))) D2)
   (A8 (D8 (B9 (kEq (K:=K) hu) (pv 0) B1 rfl) (B0 (C2 (B6 R5 (hr.mono (by omega)) rfl DZ EC DT .nil C0 (A0 (pv 1) (A0 (pv 2) A6))))) D2)
   (B0 (C2 (B6 CN (hr.mono (by omega)) rfl UC TV UA .nil C0 (A0 (B6 CC (hr.mono (by omega)) rfl TY TX UE .nil C0 (A0 (pv 0) (A0 (pv 1) (A0 (pv 2) A6)))) A6))))))), ?_⟩
 have hk':k=0\/k=1\/k=2\/k=3\/k=4\/k=5:=by omega
 rcases hk' with rfl|rfl|rfl|rfl|rfl|rfl
 ·exact⟨_,rfl,.inl ⟨rfl,_,rfl,ifF (by decide) ⟨_,rfl,.inl ⟨rfl,_,rfl,ifF (by decide) ⟨_,rfl,.inl ⟨rfl,_,rfl,ifF (by decide)
   ⟨_,rfl,_,rfl,_,rfl,_,_,_,rfl,.inl ⟨rfl,_,rfl,q⟩⟩⟩⟩⟩⟩⟩⟩
 ·exact⟨_,rfl,.inl ⟨rfl,_,rfl,ifF (by decide) ⟨_,rfl,.inl ⟨rfl,_,rfl,ifF (by decide) ⟨_,rfl,.inl ⟨rfl,_,rfl,ifF (by decide)
   ⟨_,rfl,_,rfl,_,rfl,_,_,_,rfl,.inr (.inl ⟨rfl,_,rfl,q⟩)⟩⟩⟩⟩⟩⟩⟩
 ·exact⟨_,rfl,.inl ⟨rfl,_,rfl,ifF (by decide) ⟨_,rfl,.inl ⟨rfl,_,rfl,ifF (by decide) ⟨_,rfl,.inl ⟨rfl,_,rfl,ifF (by decide)
   ⟨_,rfl,_,rfl,_,rfl,_,_,_,rfl,.inr (.inr ⟨rfl,hm,_,rfl,q⟩)⟩⟩⟩⟩⟩⟩⟩
 ·exact⟨_,rfl,.inl ⟨rfl,_,rfl,ifT (by decide) ⟨_,rfl,_,rfl,_,_,rfl,rfl,O3,λp hp=>q p _ (A7 hp _) A5⟩⟩⟩
 ·exact⟨_,rfl,.inl ⟨rfl,_,rfl,ifF (by decide) ⟨_,rfl,.inl ⟨rfl,_,rfl,ifT (by decide) ⟨_,rfl,_,rfl,.inl ⟨rfl,O3,λp hp=>q p _ (A7 hp _) A5⟩⟩⟩⟩⟩⟩
 ·exact⟨_,rfl,.inl ⟨rfl,_,rfl,ifF (by decide) ⟨_,rfl,.inl ⟨rfl,_,rfl,ifF (by decide) ⟨_,rfl,.inl ⟨rfl,_,rfl,ifT (by decide)
   ⟨_,rfl,_,rfl,_,_,rfl,hb,q⟩⟩⟩⟩⟩⟩⟩
end
end NM
namespace CL
open PySem L2 BV
theorem GRe:NM.GR=10000000000000000000000000000000000000000:=rfl
noncomputable def Bd(n:Int):Prop:= -NM.GR<=n/\n<=NM.GR
theorem RU{n:Int}(h:n.natAbs<2^300):Builtin.Int.intBits n<=2^20:=le_trans (intBits_le_iff.mpr h) (by decide)
theorem Bd.abs{n:Int}(h:Bd n):n.natAbs<2^300:=by
 have e:(10000000000000000000000000000000000000000:Nat)<2^300:=by decide +kernel
 have hG:=GRe
 obtain⟨h1,h2⟩:=h
 generalize 2^300=k at e⊢
 omega
theorem Bd.mul{a b:Int}(h:Bd a)(h':Bd b):IntMulOk a b:=IntMulOk.of_bits (RU h.abs) (RU h'.abs)
theorem Bd.log{n:Int}(h:Bd n):n.natAbs.log2<9000:=by
 by_cases e:n.natAbs=0
 ·rw[e];decide +kernel
 ·have:=(Nat.log2_lt e).mpr h.abs
  omega
inductive Rk where
 |push (v:V)|non|load (j:Nat)|keep (j:Nat)|two (k:Nat)|cons|head|tail|empty|not|skip (n:Nat)|unless (n:Nat)|close (b n:Nat)
noncomputable def wd:Nat->Str
 |0=> "add"|1=> "sub"|2=> "mul"|3=> "less"|4=> "same"|_=> "div"
noncomputable def rkV:Rk->List V
 | .push v=> [.str "push",v]
 | .non=> [.str "none"]
 | .load j=> [.str "load",.int (j:Nat)]
 | .keep j=> [.str "keep",.int (j:Nat)]
 | .two k=> [.str (wd k)]
 | .cons=> [.str "cons"]
 | .head=> [.str "head"]
 | .tail=> [.str "tail"]
 | .empty=> [.str "empty"]
 | .not=> [.str "not"]
 | .skip n=> [.str "skip",.int (n:Nat)]
 | .unless n=> [.str "unless",.int (n:Nat)]
 | .close b n=> [.str "close",.int (b:Nat),.int (n:Nat)]
inductive Eo where
 |fr (d:Int) (sl st:List V)|rf (w:Str)|pair (st:List V) (x y:V)|fn (st:List V) (b:Nat) (xs:List V)
noncomputable def NS(H:Hp)(v:V):Prop:=(∃i,v=.int i)\/(∃b,v=.bl b)\/v=.non\/∃p xs,v=.ref p/\H p=some (.tup xs)
inductive Ef (H:Hp) (us sl:List V):Rk->List V->Eo->Prop
 |push {v st}:KI v=true->Ef H us sl (.push v) st (.fr 1 sl (st++ [v]))
 |non {st}:Ef H us sl .non st (.fr 1 sl (st++ [.non]))
 |load {j v st}:sl[j]? =some v->Ef H us sl (.load j) st (.fr 1 sl (st++ [v]))
 |keep {j v st}:j<sl.length->Ef H us sl (.keep j) (st++ [v]) (.fr 1 (sl.take j++ [v]++sl.drop (j+1)) st)
 |twoV {k a b v st}:k<6->Bd a->Bd b->NM.tw k a b=[.str "value",v]->NS H v->Ef H us sl (.two k) (st++ [.int a,.int b]) (.fr 1 sl (st++ [v]))
 |twoR {k a b w st}:k<6->Bd a->Bd b->NM.tw k a b=[.str "refused",.str w]->Ef H us sl (.two k) (st++ [.int a,.int b]) (.rf w)
 |cons {x y st}:Ef H us sl .cons (st++ [x,y]) (.pair st x y)
 |headN {st}:Ef H us sl .head (st++ [.non]) (.rf "head")
 |tailN {st}:Ef H us sl .tail (st++ [.non]) (.rf "tail")
 |head {p c h t st} {j:Nat}:H p=some (.tup [.str "cell",.int (j:Nat)])->us[j]? =some (.ref c)->H c=some (.tup [.str "pair",h,t])->NS H h->Ef H us sl .head (st++ [.ref p]) (.fr 1 sl (st++ [h]))
 |tail {p c h t st} {j:Nat}:H p=some (.tup [.str "cell",.int (j:Nat)])->us[j]? =some (.ref c)->H c=some (.tup [.str "pair",h,t])->NS H t->Ef H us sl .tail (st++ [.ref p]) (.fr 1 sl (st++ [t]))
 |emptyN {st}:Ef H us sl .empty (st++ [.non]) (.fr 1 sl (st++ [.bl true]))
 |empty {p xs st}:H p=some (.tup xs)->Ef H us sl .empty (st++ [.ref p]) (.fr 1 sl (st++ [.bl false]))
 |not {b st}:Ef H us sl .not (st++ [.bl b]) (.fr 1 sl (st++ [.bl (!b)]))
 |skip {n st}:Ef H us sl (.skip n) st (.fr (1+(n:Nat)) sl st)
 |unless {n b st}:Ef H us sl (.unless n) (st++ [.bl b]) (.fr (1+if b=true then 0 else(n:Int)) sl st)
 |close {b n st xs}:xs.length=n->Ef H us sl (.close b n) (st++xs) (.fn st b xs)
theorem ZQ{k:Nat}(hk:k<6)(a b:Int):(∃v,((∃i,v=.int i)\/∃b,v=.bl b)/\NM.tw k a b=[.str "value",v])\/∃w,NM.tw k a b=[.str "refused",.str w]:=by
 have hb:∀n:Int,(∃v,((∃i,v=.int i)\/∃b,v=.bl b)/\NM.bnd n=[.str "value",v])\/∃w,NM.bnd n=[.str "refused",.str w]:=λn=>by
  unfold NM.bnd
  split
  ·exact .inr ⟨_,rfl⟩
  ·exact .inl ⟨_,.inl ⟨_,rfl⟩,rfl⟩
 have h:k=0\/k=1\/k=2\/k=3\/k=4\/k=5:=by omega
 rcases h with rfl|rfl|rfl|rfl|rfl|rfl
 ·exact hb _
 ·exact hb _
 ·exact hb _
 ·exact .inl ⟨_,.inr ⟨_,rfl⟩,rfl⟩
 ·exact .inl ⟨_,.inr ⟨_,rfl⟩,rfl⟩
 ·show(∃v,((∃i,v=.int i)\/∃b,v=.bl b)/\NM.quo a b=[.str "value",v])\/∃w,NM.quo a b=[.str "refused",.str w]
  unfold NM.quo
  split
  ·exact .inr ⟨_,rfl⟩
  ·exact .inl ⟨_,.inl ⟨_,rfl⟩,rfl⟩
end CL
namespace CL
open PySem L2 BV
seal PE PT PW PA PS PSs PTs PI PG PGs PO
noncomputable def top(i:Nat):Stmt:=PySem.Challenge.pw_speakmill_k68_run_and_rounds.main.body.getD i (.Pass ⟨0,0,0,0⟩)
noncomputable abbrev s_init:Stmt:=G5 (top 4) 0
noncomputable abbrev s_put:Stmt:=G5 (top 4) 1
noncomputable abbrev s_at:Stmt:=G5 (top 4) 2
noncomputable abbrev s_many:Stmt:=G5 (top 4) 3
noncomputable abbrev s_told:Stmt:=G5 (top 4) 4
noncomputable abbrev s_law_same:Stmt:=top 42
noncomputable abbrev c1Z:List Str:=["self"]
theorem sc_init:FnScope c1Z K5 (B4 s_init):=fS
noncomputable abbrev dwZ:List Str:=["self","cell"]
theorem sc_put:FnScope dwZ XD (B4 s_put):=fS
noncomputable abbrev eoZ:List Str:=["self","value"]
theorem sc_at:FnScope eoZ EI (B4 s_at):=fS
noncomputable abbrev cGZ:List Str:=["self"]
theorem sc_many:FnScope cGZ K5 (B4 s_many):=fS
noncomputable abbrev cvZ:List Str:=["self"]
theorem sc_told:FnScope cvZ K5 (B4 s_told):=fS
noncomputable abbrev FY:List Str:=["_law_found","_law_due"]
theorem sc_law_same:FnScope FY q5L (B4 s_law_same):=fS
structure NoG (mg:Str->Option Value):Prop where
 len_:mg "len"=none
 list_:mg "list"=none
 range_:mg "range"=none
 isinstance_:mg "isinstance"=none
 str_:mg "str"=none
 tuple_:mg "tuple"=none
 int_:mg "int"=none
 bool_:mg "bool"=none
 all_:mg "all"=none
theorem ifT{c A B:Prop}[Decidable c](h:c)(a:A):if c then A else B:=by rw[if_pos h];exact a
theorem ifF{c A B:Prop}[Decidable c](h:¬c)(b:B):if c then A else B:=by rw[if_neg h];exact b
structure RCls (K:FZ) (C:Addr) (mf:Str->Addr) (md:Str->FuncData):Prop where
 cl:Cls K C
 ni:NoAttr K C "in_order"
 m_put:Meth K C "put" (mf "put")
 m_at:Meth K C "at" (mf "at")
 m_many:Meth K C "many" (mf "many")
 m_told:Meth K C "told" (mf "told")
 b_put:Binds K (md "put") XD []
 b_at:Binds K (md "at") EI []
 b_many:Binds K (md "many") K5 []
 b_told:Binds K (md "told") K5 []
noncomputable def CAt(C:Addr)(H:Hp)(o L:Addr)(us:List V):Prop:=∃dx,H o=some (.ins C dx [("in_order",.ref L)])/\H L=some (.lst us)
theorem CAt.same{C:Addr}{H H':Hp}{o L:Addr}{us:List V}(h:CAt C H o L us)(s:Same H H'):CAt C H' o L us:=let⟨dx,h1,h2⟩:=h;⟨dx,s _ _ h1,s _ _ h2⟩
theorem aFZ{K:FZ}{H H':Hp}{x:V}{t:Value}(s:Same H H')(h:TyOf K H x t):TyOf K H' x t:=by
 cases h with
 |non=>exact .non
 |bl y=>exact .bl y
 |int y=>exact .int y
 |str y=>exact .str y
 |flt y=>exact .flt y
 |lst e=>exact .lst (s _ _ e)
 |frz e=>exact .frz (s _ _ e)
 |tup e=>exact .tup (s _ _ e)
 |dK e=>exact .dK (s _ _ e)
 |dT e=>exact .dT (s _ _ e)
 |ins e c a b d m=>exact .ins (s _ _ e) c a b d m
theorem lk(u:V):([("in_order",u)]:List (Str×V)).lookup ("in_order":Str)=some u:=by rfl
section
variable{P:Program}{w:World}{K:FZ}{mg:Str->Option Value}{base:Heap}{C fi f:Addr}{di fd:FuncData}{mf:Str->Addr}{md:Str->FuncData}
inductive spInitW(C:Addr)(vs:List V)(H:Hp)(Q:VK):Prop
 |mk:∀x dx,(vs=[.ref x])->(H x=some (.ins C dx []))->(∀L,H L=none->Q .non (upd (upd H L (.lst [])) x (.ins C dx [("in_order",.ref L)])))->spInitW C vs H Q
noncomputable def RF(C:Addr):Sp:=λvs H Q _=>spInitW C vs H Q
theorem ok_init(F:Fun K "__init__" "Cells.__init__" s_init fi di)(RC:RCls K C mf md):FnOk P w K mg base CX0 1 fi di K5 (RF C):=by
 refine F.ok sc_init (λvs H Q E h=> ?_) (λcdv A outer s H vs Q E hr h=> ?_)
 ·obtain⟨x,dx,rfl,_⟩:=h
  rfl
 obtain⟨x,dx,rfl,h1,q⟩:=h
 have nd:=sc_init.nd
 refine⟨_,(B0 (Q1 (pv 0) (E6 A6) rfl)), ?_⟩
 refine⟨(by show 0<=sizeLine;decide),λL hL=>⟨_,rfl,x,C,dx,_,rfl,(A7 hL _) _ _ h1,RC.cl,RC.ni,(by decide), ?_⟩⟩
 exact q L hL
inductive spPutW (C:Addr) (vs:List V) (H:Hp) (Q:VK):Prop
 |mk:∀o L us c,(vs=[.ref o,c])->(CAt C H o L us)->(us.length<=1000)->(∀p H',H p=none->Bt L H H'->CAt C H' o L (us++ [c])->H' p=some (.tup [.str "cell",.int (us.length:Nat)])->Q (.ref p) H')->spPutW C vs H Q
noncomputable def WY(C:Addr):Sp:=λvs H Q _=>spPutW C vs H Q
theorem ok_put(F:Fun K "put" "Cells.put" s_put (mf "put") (md "put"))(B:NoG mg)(RC:RCls K C mf md):FnOk P w K mg base CX0 1 (mf "put") (md "put") XD (WY C):=by
 refine F.ok sc_put (λvs H Q E h=> ?_) (λcdv A outer s H vs Q E hr h=> ?_)
 ·obtain⟨o,L,us,c,rfl,_⟩:=h
  rfl
 obtain⟨o,L,us,c,rfl,⟨dx,h1,h2⟩,hz,q⟩:=h
 have nd:=sc_put.nd
 have zz:(2000:Nat)<=sizeLine:=by decide
 refine⟨_,(A8 (C3 (M1 (K:=K) PySem.F.plainAttrs_list PySem.F.slot_list_append PySem.F.type_list_append C8 (G0 (pv 0) rfl) (A0 (pv 1) A6)))
   (B0 (C2 (C1 (A0 B1 (A0 (B7 P1 (C4 (J8 (K:=K)) rfl B.len_ G1 (A0 (G0 (pv 0) rfl) A6)) A9) A6)))))), ?_⟩
 refine⟨_,rfl,o,C,dx,_,_,rfl,h1,RC.cl,RC.ni,lk _,.inl ⟨rfl,_,SqL.of h2⟩,_,rfl,L,us,_,rfl,rfl,h2,by omega, ?_⟩
 have hoL:o≠L:=λe=>by subst e;rw[h2]at h1;cases h1
 have h1':upd H L (.lst (us++ [c])) o=some (.ins C dx [("in_order",.ref L)]):=by rw[B5 hoL];exact h1
 refine⟨_,rfl,o,C,dx,_,_,rfl,h1',RC.cl,RC.ni,lk _,_,_,rfl,.inl ⟨_,SqL.of A5,rfl⟩,_,_,rfl,rfl,O3,λp hp=> ?_⟩
 have hpL:p≠L:=λe=>by subst e;rw[A5]at hp;cases hp
 have hp0:H p=none:=by rw[<-hp,B5 hpL]
 have el:(((us++ [c]).length:Nat):Int) - 1=(us.length:Nat):=by rw[length_append];simp
 show Q (.ref p) (upd (upd H L (.lst (us++ [c]))) p (.tup [.str "cell",.int ((((us++ [c]).length:Nat):Int) - 1)]))
 rw[el]
 have s2:=A7 hp (.tup [.str "cell",.int (us.length:Nat)])
 exact q p _ hp0 ((Bt.upd _).trans (.of s2)) ⟨dx,s2 _ _ h1',s2 _ _ A5⟩ A5
inductive spAtW (C:Addr) (vs:List V) (H:Hp) (Q:VK):Prop
 |mk:∀(o L:Addr) (us:List V) (v:Addr) (j:Nat) (c:V),(vs=[.ref o,.ref v])->(CAt C H o L us)->(H v=some (.tup [.str "cell",.int (j:Nat)]))->(us[j]? =some c)->(Q c H)->spAtW C vs H Q
noncomputable def UH(C:Addr):Sp:=λvs H Q _=>spAtW C vs H Q
theorem ok_at(F:Fun K "at" "Cells.at" s_at (mf "at") (md "at"))(RC:RCls K C mf md):FnOk P w K mg base CX0 1 (mf "at") (md "at") EI (UH C):=by
 refine F.ok sc_at (λvs H Q E h=> ?_) (λcdv A outer s H vs Q E hr h=> ?_)
 ·obtain⟨o,L,us,v,j,c,rfl,_⟩:=h
  rfl
 obtain⟨o,L,us,v,j,c,rfl,⟨dx,h1,h2⟩,hv,hj,q⟩:=h
 have nd:=sc_at.nd
 refine⟨_,(B0 (C2 (ixE K w (G0 (pv 0) rfl) (ixE K w (pv 1) A9)))), ?_⟩
 exact⟨_,rfl,o,C,dx,_,_,rfl,h1,RC.cl,RC.ni,lk _,_,rfl,(ixT hv rfl (ixL h2 (D3 hj) q))⟩
inductive spManyW (C:Addr) (vs:List V) (H:Hp) (Q:VK):Prop
 |mk:∀o L us,(vs=[.ref o])->(CAt C H o L us)->(Q (.int (us.length:Nat)) H)->spManyW C vs H Q
noncomputable def XE(C:Addr):Sp:=λvs H Q _=>spManyW C vs H Q
theorem ok_many(F:Fun K "many" "Cells.many" s_many (mf "many") (md "many"))(B:NoG mg)(RC:RCls K C mf md):FnOk P w K mg base CX0 1 (mf "many") (md "many") K5 (XE C):=by
 refine F.ok sc_many (λvs H Q E h=> ?_) (λcdv A outer s H vs Q E hr h=> ?_)
 ·obtain⟨o,L,us,rfl,_⟩:=h
  rfl
 obtain⟨o,L,us,rfl,⟨dx,h1,h2⟩,q⟩:=h
 have nd:=sc_many.nd
 refine⟨_,(B0 (C2 (C4 (J8 (K:=K)) rfl B.len_ G1 (A0 (G0 (pv 0) rfl) A6)))), ?_⟩
 exact⟨_,rfl,o,C,dx,_,_,rfl,h1,RC.cl,RC.ni,lk _,_,_,rfl,.inl ⟨_,SqL.of h2,rfl⟩,q⟩
inductive spToldCW (C:Addr) (vs:List V) (H:Hp) (Q:VK):Prop
 |mk:∀o L us,(vs=[.ref o])->(CAt C H o L us)->(∀l,H l=none->Q (.ref l) (upd H l (.lst us)))->spToldCW C vs H Q
noncomputable def anZ(C:Addr):Sp:=λvs H Q _=>spToldCW C vs H Q
theorem ok_told(F:Fun K "told" "Cells.told" s_told (mf "told") (md "told"))(B:NoG mg)(RC:RCls K C mf md):FnOk P w K mg base CX0 1 (mf "told") (md "told") K5 (anZ C):=by
 refine F.ok sc_told (λvs H Q E h=> ?_) (λcdv A outer s H vs Q E hr h=> ?_)
 ·obtain⟨o,L,us,rfl,_⟩:=h
  rfl
 obtain⟨o,L,us,rfl,⟨dx,h1,h2⟩,q⟩:=h
 have nd:=sc_told.nd
 refine⟨_,(B0 (C2 (G3 (W0 (K:=K)) rfl B.list_ N2 (A0 (G0 (pv 0) rfl) A6)))), ?_⟩
 exact⟨_,rfl,o,C,dx,_,_,rfl,h1,RC.cl,RC.ni,lk _,L,us,rfl,.inl (SqL.of h2),q⟩
noncomputable def WS:Sp:=λ_ _ _ _=>False
theorem a7Z{CX:CXT}{k:Nat}{f:Addr}{fd:FuncData}{ps:List Str}:FnOk P w K mg base CX k f fd ps WS:=⟨λ_ _ _ _ h=>h.elim,λ_ _ _ _ _ _ _ _ _ _ _ _ _ h=>h.elim⟩
end
noncomputable abbrev s_entered:Stmt:=top 23
noncomputable abbrev s_called:Stmt:=top 25
noncomputable abbrev s_behind:Stmt:=top 26
noncomputable abbrev s_top_values:Stmt:=top 27
noncomputable abbrev UQ:List Str:=["blocks","number","values","begun"]
theorem sc_entered:FnScope UQ aZZ (B4 s_entered):=fS
noncomputable abbrev XH:List Str:=["blocks","cells","frame","row","stack","many","fn"]
theorem sc_called:FnScope XH cbZ (B4 s_called):=fS
noncomputable abbrev WO:List Str:=["frame","many_taken","values","stack"]
theorem sc_behind:FnScope WO MV (B4 s_behind):=fS
noncomputable abbrev KK:List Str:=["stack","many"]
theorem sc_top_values:FnScope KK arZ (B4 s_top_values):=fS
theorem NH:4<=sizeLine:=by decide
theorem FN:0<=sizeLine:=by decide
theorem Q8{K:FZ}{H:Hp}{a b:Addr}{xs ys:List V}{Q:VK}(ha:H a=some (.tup xs))(hb:H b=some (.tup ys))(hz:xs.length+ys.length<=2000)
  (go:∀r H',Same H H'->H' r=some (.tup (xs++ys))->Q (.ref r) H'):RX K (.ref a) (.ref b) H Q\/LG K (.ref a) (.ref b) H Q:=by
 have zz:(2000:Nat)<=sizeLine:=by decide
 cases xs with
 |nil=>exact .inr ⟨a,b,ys,rfl,rfl,SqT.of ha,SqT.of hb,go b H (Same.refl _) hb⟩
 |cons x xs=>
  refine .inl ⟨a,b,x::xs,ys,rfl,rfl,SqT.of ha,SqT.of hb,by simp,by omega,λe=> ?_,λe p hp=> ?_⟩
  ·subst e;exact go a H (Same.refl _) (by rw[append_nil];exact ha)
  ·exact go p _ (A7 hp _) A5
theorem T6{K:FZ}{H:Hp}{a:Addr}{xs:List V}{lo hi:Option Int}{Q:VK}(ha:H a=some (.tup xs))(go:∀r H',Same H H'->H' r=some (.tup (J9 xs lo hi))->Q (.ref r) H'):
  (rSlL K (.ref a) lo hi H Q\/rSlT K (.ref a) lo hi H Q)\/cIZ K (.ref a) lo hi H Q:=by
 by_cases h:HT.sIx xs.length 0 lo=0/\HT.sIx xs.length xs.length hi=xs.length
 ·refine .inr ⟨a,xs,rfl,SqT.of ha,h,go a H (Same.refl _) ?_⟩
  have e:J9 xs lo hi=xs:=by unfold J9;rw[h.1,h.2];simp
  rw[e];exact ha
 ·exact .inl (.inr ⟨a,xs,rfl,SqT.of ha,h,λp hp=>go p _ (A7 hp _) A5⟩)
noncomputable def FrAt(H:Hp)(p:Addr)(k at_:Int)(sl st:List V):Prop:=∃q e,H p=some (.tup [.int k,.int at_,.ref q,.ref e])/\H q=some (.tup sl)/\H e=some (.tup st)
theorem FrAt.mono{H H':Hp}(m:Mo H H'){p:Addr}{k at_:Int}{sl st:List V}(h:FrAt H p k at_ sl st):FrAt H' p k at_ sl st:=let⟨q,e,h1,h2,h3⟩:=h;⟨q,e,m _ _ h1,m _ _ h2,m _ _ h3⟩
noncomputable def BkAt(H:Hp)(bs:List V)(k sz:Nat):Prop:=∃t c rows,bs[k]? =some (.ref t)/\H t=some (.tup [c,.int (sz:Nat),rows])
theorem BkAt.mono{H H':Hp}(m:Mo H H'){bs:List V}{k sz:Nat}(h:BkAt H bs k sz):BkAt H' bs k sz:=let⟨t,c,r,h1,h2⟩:=h;⟨t,c,r,h1,m _ _ h2⟩
section
variable{P:Program}{w:World}{K:FZ}{mg:Str->Option Value}{base:Heap}{C f:Addr}{fd:FuncData}{mf:Str->Addr}{md:Str->FuncData}{Z7 O8 R9:Addr}{AA O7 R8:FuncData}
inductive spEntW(vs:List V)(H:Hp)(Q:VK):Prop
 |mk:∀(bl:Addr) (bs:List V) (k sz:Nat) (va:Addr) (xs:List V),(vs=[.ref bl,.int (k:Nat),.ref va])->(H bl=some (.lst bs))->(BkAt H bs k sz)->((H va=some (.lst xs)\/H va=some (.tup xs)))->(xs.length<=sz)->(sz<=500)->(∀p H',Same H H'->FrAt H' p k 0 (xs++List.replicate (sz - xs.length) .non) []->Q (.ref p) H')->spEntW vs H Q
noncomputable def XR:Sp:=λvs H Q _=>spEntW vs H Q
theorem ok_entered(F:Fun K "entered" "entered" s_entered f fd)(B:NoG mg):FnOk P w K mg base CX0 1 f fd aZZ XR:=by
 refine F.ok sc_entered (λvs H Q E h=> ?_) (λcdv A outer s H vs Q E hr h=> ?_)
 ·obtain⟨bl,bs,k,sz,va,xs,rfl,_⟩:=h
  rfl
 obtain⟨bl,bs,k,sz,va,xs,rfl,hbl,⟨t,c,rows,hk,ht⟩,hva,hxs,hsz,q⟩:=h
 have nd:=sc_entered.nd
 refine⟨_,(A8 (E1 (C7 (i:=3) nd rfl (Or.inl rfl) (G3 (BQ (K:=K)) rfl B.tuple_ N7 (A0 (pv 2) A6))))
   (B0 (C2 (C1 (A0 (pv 1) (A0 A9 (A0 (B7 (RP (K:=K)) (pv 3) (B7 (dqZ (K:=K)) (C1 (A0 Q4 A6)) (B7 P1 (ixE K w (ixE K w (pv 0) (pv 1)) A9) (C4 (J8 (K:=K)) rfl B.len_ G1 (A0 (pv 3) A6))))) (A0 (C1 A6) A6)))))))), ?_⟩
 refine⟨fun σ H'=>∃b,σ=[some (.ref bl),some (.int (k:Nat)),some (.ref va),some (.ref b)]/\Same H H'/\H' b=some (.tup xs), ?_, ?_⟩
 ·rcases hva with hva|hva
  ·exact⟨_,rfl,va,xs,rfl,.inl ⟨SqL.of hva,λl hl=>⟨l,rfl,A7 hl _,A5⟩⟩⟩
  ·exact⟨_,rfl,va,xs,rfl,.inr ⟨SqT.of hva,va,rfl,Same.refl _,hva⟩⟩
 rintro σ H1 ⟨b,rfl,s1,hb⟩
 refine⟨_,rfl,_,rfl,BZ,λt1 ht1=> ?_⟩
 have s2:=A7 ht1 (.tup [.non])
 have s12:=s1.trans s2
 refine⟨_,rfl,_,rfl,.inl ⟨bl,bs,_,_,rfl,rfl,SqL.of (s12 _ _ hbl),D3 hk,(ixT (s12 _ _ ht) rfl ⟨_,rfl,_,_,rfl,.inr ⟨_,SqT.of (s2 _ _ hb),rfl⟩,_,_,rfl,rfl,.inr ⟨t1,(sz:Int) - (xs.length:Nat),.non,rfl,rfl,SqT.of A5,by omega,by omega,λe=> ?_,λne p hp=> ?_⟩⟩)⟩⟩
 ·have e1:sz - xs.length=1:=by omega
  refine .inr (Q8 (s2 _ _ hb) A5 (by simp;omega) λr H3 s3 hr3=>⟨FN,λe he=>⟨NH,λp hp=> ?_⟩⟩)
  have s4:=A7 he (.tup [])
  have s5:=A7 hp (.tup [.int (k:Nat),.int 0,.ref r,.ref e])
  refine q p _ (s12.trans (s3.trans (s4.trans s5))) ⟨r,e,A5, ?_,s5 _ _ A5⟩
  rw[e1]
  exact s5 _ _ (s4 _ _ hr3)
 ·have s3:=A7 hp (.tup (List.replicate ((sz:Int) - (xs.length:Nat)).toNat .non))
  have e1:((sz:Int) - (xs.length:Nat)).toNat=sz - xs.length:=by omega
  refine .inr (Q8 (s3 _ _ (s2 _ _ hb)) A5 (by rw[length_replicate];omega) λr H3 s3' hr3=>⟨FN,λe he=>⟨NH,λp hp=> ?_⟩⟩)
  have s4:=A7 he (.tup [])
  have s5:=A7 hp (.tup [.int (k:Nat),.int 0,.ref r,.ref e])
  refine q p _ (s12.trans (s3.trans (s3'.trans (s4.trans s5)))) ⟨r,e,A5, ?_,s5 _ _ A5⟩
  rw[<-e1]
  exact s5 _ _ (s4 _ _ hr3)
inductive spBehW (vs:List V) (H:Hp) (Q:VK):Prop
 |mk:∀(fr:Addr) (k at_:Int) (sl st:List V) (m:Nat) (va:Addr) (ws:List V),(vs=[.ref fr,.int (m:Nat),.ref va])->(FrAt H fr k at_ sl st)->(m<=st.length)->(H va=some (.tup ws))->(st.length+ws.length<=1000)->(∀p H',Same H H'->FrAt H' p k (at_+1) sl (st.take (st.length - m)++ws)->Q (.ref p) H')->spBehW vs H Q
noncomputable def DO:Sp:=λvs H Q _=>spBehW vs H Q
theorem ok_behind(F:Fun K "behind" "behind" s_behind f fd)(B:NoG mg):FnOk P w K mg base CX0 1 f fd MV DO:=by
 refine F.ok sc_behind (λvs H Q E h=> ?_) (λcdv A outer s H vs Q E hr h=> ?_)
 ·obtain⟨fr,k,at_,sl,st,m,va,ws,rfl,_⟩:=h
  rfl
 obtain⟨fr,k,at_,sl,st,m,va,ws,rfl,⟨q0,e0,h1,h2,h3⟩,hm,hva,hz,q⟩:=h
 have nd:=sc_behind.nd
 refine⟨_,(A8 (C7 (i:=3) nd rfl (Or.inl rfl) (ixE K w (pv 0) A9))
   (B0 (C2 (C1 (A0 (ixE K w (pv 0) A9) (A0 (B7 (RP (K:=K)) (ixE K w (pv 0) A9) A9) (A0 (ixE K w (pv 0) A9) (A0 (B7 (RP (K:=K)) (G4 (AG (K:=K)) (pv 3) M4 (G6 (B7 P1 (C4 (J8 (K:=K)) rfl B.len_ G1 (A0 (pv 3) A6)) (pv 1)))) (pv 2)) A6)))))))), ?_⟩
 refine⟨_,rfl,(ixT h1 rfl ?_)⟩
 refine⟨_,rfl,(ixT h1 rfl ⟨_,rfl,(ixT h1 rfl (.inl ⟨_,_,rfl,rfl,_,rfl,(ixT h1 rfl ?_)⟩))⟩)⟩
 refine⟨_,rfl,_,rfl,_,_,rfl,.inr ⟨_,SqT.of h3,rfl⟩,_,rfl,_,_,rfl,rfl,_,rfl,T6 h3 λr H1 s1 hr1=> ?_⟩
 have e1:J9 st none (some ((st.length:Int) - (m:Nat)))=st.take (st.length - m):=by
  have:(st.length:Int) - (m:Nat)=((st.length - m:Nat):Int):=by omega
  rw[this];exact QH _ _
 refine⟨_,rfl,.inr (Q8 hr1 (s1 _ _ hva) (by have:=Z2 st none (some ((st.length:Int) - (m:Nat)));omega) λr2 H2 s2 hr2=>⟨NH,λp hp=> ?_⟩)⟩
 have s3:=A7 hp (.tup [.int k,.int (at_+1),.ref q0,.ref r2])
 refine q p _ (s1.trans (s2.trans s3)) ⟨q0,r2,A5,s3 _ _ (s2 _ _ (s1 _ _ h2)), ?_⟩
 rw[<-e1]
 exact s3 _ _ hr2
inductive spTopW (vs:List V) (H:Hp) (Q:VK):Prop
 |mk:∀(sa:Addr) (st:List V) (m:Nat),(vs=[.ref sa,.int (m:Nat)])->(H sa=some (.tup st))->(m<=st.length)->(∀r H',Same H H'->H' r=some (.tup (st.drop (st.length - m)))->Q (.ref r) H')->spTopW vs H Q
noncomputable def XC:Sp:=λvs H Q _=>spTopW vs H Q
theorem ok_top_values(F:Fun K "top_values" "top_values" s_top_values f fd)(B:NoG mg):FnOk P w K mg base CX0 1 f fd arZ XC:=by
 refine F.ok sc_top_values (λvs H Q E h=> ?_) (λcdv A outer s H vs Q E hr h=> ?_)
 ·obtain⟨sa,st,m,rfl,_⟩:=h
  rfl
 obtain⟨sa,st,m,rfl,hs,hm,q⟩:=h
 have nd:=sc_top_values.nd
 refine⟨_,(B0 (C2 (G4 (AG (K:=K)) (pv 0) (G6 (B7 P1 (C4 (J8 (K:=K)) rfl B.len_ G1 (A0 (pv 0) A6)) (pv 1))) M4))), ?_⟩
 refine⟨_,rfl,_,rfl,_,_,rfl,.inr ⟨_,SqT.of hs,rfl⟩,_,rfl,_,_,rfl,rfl,_,rfl,T6 hs λr H1 s1 hr1=>q r H1 s1 ?_⟩
 have e1:J9 st (some ((st.length:Int) - (m:Nat))) none=st.drop (st.length - m):=by
  have:(st.length:Int) - (m:Nat)=((st.length - m:Nat):Int):=by omega
  rw[this];exact GE _ _
 rw[<-e1]
 exact hr1
end
theorem brZ{α:Type}(xs:List α)(u v:α):atI (xs++ [u,v]) (-2)=some u:=by
 have h1:¬(0:Int)<= -2:=by decide
 have h2: -((xs++ [u,v]).length:Int)<= -2:=by simp;omega
 have h3:((-2:Int)+((xs++ [u,v]).length:Nat)).toNat=xs.length:=by simp;omega
 unfold atI ixN
 rw[if_neg h1,if_pos h2]
 show(xs++ [u,v])[((-2:Int)+((xs++ [u,v]).length:Nat)).toNat]? =some u
 rw[h3]
 simp
theorem QD(xs:List V)(v:V):J9 (xs++ [v]) (some (-1)) none=[v]:=by
 have h:HT.sIx (xs++ [v]).length 0 (some (-1))=xs.length:=by
  show(if(-1:Int)<0 then((-1:Int)+((xs++ [v]).length:Nat)).toNat else min (-1:Int).toNat (xs++ [v]).length)=xs.length
  rw[if_pos (by decide)]
  simp
  omega
 unfold J9
 rw[h,HT.sIx_none]
 simp
section
variable{P:Program}{w:World}{K:FZ}{mg:Str->Option Value}{base:Heap}{C f:Addr}{fd:FuncData}{mf:Str->Addr}{md:Str->FuncData}{Z7 O8 R9:Addr}{AA O7 R8:FuncData}
noncomputable def Two(H:Hp)(Q:VK)(k at_:Int)(sl bel:List V)(wh:Nat)(ys:List V)(sz:Nat):Prop:=
 ∀p p1 p2 H',Same H H'->H' p=some (.tup [.ref p1,.ref p2])->FrAt H' p1 k (at_+1) sl bel->FrAt H' p2 wh 0 (ys++List.replicate (sz - ys.length) .non) []->Q (.ref p) H'
inductive spCalW (C:Addr) (vs:List V) (H:Hp) (Q:VK):Prop
 |mk:∀(bl:Addr) (bs:List V) (o L:Addr) (us:List V) (fr:Addr) (k at_:Int) (sl st:List V) (r:Addr),(vs=[.ref bl,.ref o,.ref fr,.ref r])->(H bl=some (.lst bs))->(CAt C H o L us)->(FrAt H fr k at_ sl st)->(st.length<=500)->(((∃wh m sz:Nat,H r=some (.tup [.str "call",.int (wh:Nat),.int (m:Nat)])/\m<=st.length/\BkAt H bs wh sz/\m<=sz/\sz<=500/\Two H Q k at_ sl (st.take (st.length - m)) wh (st.drop (st.length - m)) sz)\/(∃(wh sz:Nat) (bel:List V) (cv:Addr) (x:V) (j:Nat) (fc vt:Addr) (xs:List V),H r=some (.tup [.str "apply"])/\st=bel++ [.ref cv,x]/\H cv=some (.tup [.str "cell",.int (j:Nat)])/\us[j]? =some (.ref fc)/\H fc=some (.tup [.str "fn",.int (wh:Nat),.ref vt])/\H vt=some (.tup xs)/\BkAt H bs wh sz/\xs.length+1<=sz/\sz<=500/\Two H Q k at_ sl bel wh (xs++ [x]) sz)))->spCalW C vs H Q
noncomputable def OI(C:Addr):Sp:=λvs H Q _=>spCalW C vs H Q
theorem ok_called(F:Fun K "called" "called" s_called f fd)(B:NoG mg)(RC:RCls K C mf md)(EQ:FnOk P w K mg base CX0 1 (mf "at") (md "at") EI (UH C))
  (O5:Cn P w K mg base CX0 1 "entered" aZZ XR)
  (D7:Cn P w K mg base CX0 1 "behind" MV DO)
  (L7:Cn P w K mg base CX0 1 "top_values" arZ XC):
  FnOk P w K mg base CX0 2 f fd cbZ (OI C):=by
 obtain⟨Z7,AA,O5,AB,Z8,Z6⟩:=O5
 obtain⟨O8,O7,D7,G8,J0,G9⟩:=D7
 obtain⟨R9,R8,L7,V2,V7,V6⟩:=L7
 refine F.ok sc_called (λvs H Q E h=> ?_) (λcdv A outer s H vs Q E hr h=> ?_)
 ·obtain⟨bl,bs,o,L,us,fr,k,at_,sl,st,r,rfl,_⟩:=h
  rfl
 obtain⟨bl,bs,o,L,us,fr,k,at_,sl,st,r,rfl,hbl,hC,hF,hz,hor⟩:=h
 have nd:=sc_called.nd
 have hu:=hr.units0
 obtain⟨q0,e0,h1,h2,h3⟩:=id hF
 refine⟨_,(A8 (C7 (i:=4) nd rfl (Or.inl rfl) (ixE K w (pv 2) A9))
   (A8 (D8 (B9 (kEq (K:=K) hu) (ixE K w (pv 3) A9) B1 rfl) (A8 (C7 (i:=5) nd rfl (Or.inl rfl) (ixE K w (pv 3) A9))
   (B0 (C2 (C1 (A0 (B6 D7 (hr.mono (by omega)) rfl G9 J0 G8 .nil C0 (A0 (pv 2) (A0 (pv 5) (A0 (C1 A6) A6)))) (A0 (B6 O5 (hr.mono (by omega)) rfl Z6 Z8 AB .nil C0 (A0 (pv 0) (A0 (ixE K w (pv 3) A9) (A0 (B6 L7 (hr.mono (by omega)) rfl V6 V7 V2 .nil C0 (A0 (pv 4) (A0 (pv 5) A6))) A6)))) A6)))))) D2)
   (A8 (C7 (i:=6) nd rfl (Or.inl rfl) (L0 (pv 1) RC.cl RC.m_at EQ (hr.mono (by omega)) RC.b_at .nil C0 (A0 (ixE K w (pv 4) (N3 K6 A9)) A6)))
   (B0 (C2 (C1 (A0 (B6 D7 (hr.mono (by omega)) rfl G9 J0 G8 .nil C0 (A0 (pv 2) (A0 A9 (A0 (C1 A6) A6)))) (A0 (B6 O5 (hr.mono (by omega)) rfl Z6 Z8 AB .nil C0 (A0 (pv 0) (A0 (ixE K w (pv 6) A9) (A0 (B7 (RP (K:=K)) (ixE K w (pv 6) A9) (G4 (AG (K:=K)) (pv 4) (G6 (N3 K6 A9)) M4)) A6)))) A6)))))))), ?_⟩
 refine⟨_,rfl,(ixT h1 rfl ?_)⟩
 rcases hor with⟨wh,m,sz,hr1,hm,hB,hms,hsz,q⟩|⟨wh,sz,bel,cv,x,j,fc,vt,xs,hr1,rfl,hcv,hj,hfc,hvt,hB,hxs,hsz,q⟩
 ·refine⟨_,rfl,(ixT hr1 rfl (.inl ⟨rfl,_,rfl,ifT (by decide) ?_⟩))⟩
  refine⟨_,rfl,(ixT hr1 rfl ?_)⟩
  refine⟨_,rfl,_,rfl,FN,λe he=> ?_⟩
  have s1:=A7 he (.tup [])
  refine⟨fr,k,at_,sl,st,m,e,[],rfl,hF.mono (B8 s1),hm,A5,by simp;omega,λp1 H1 s2 hp1=> ?_⟩
  rw[append_nil]at hp1
  have s12:=s1.trans s2
  refine⟨_,rfl,_,rfl,(ixT (s12 _ _ hr1) rfl ⟨_,rfl,_,rfl,e0,st,m,rfl,s12 _ _ h3,hm,λt2 H2 s3 ht2=> ?_⟩)⟩
  refine⟨bl,bs,wh,sz,t2,_,rfl,s3 _ _ (s12 _ _ hbl),hB.mono (B8 (s12.trans s3)),.inr ht2,by rw[length_drop];omega,hsz,λp2 H3 s4 hp2=>⟨O3,λp hp=> ?_⟩⟩
  have s5:=A7 hp (.tup [.ref p1,.ref p2])
  exact q p p1 p2 _ (s12.trans (s3.trans (s4.trans s5))) A5 (hp1.mono (B8 (s3.trans (s4.trans s5)))) (hp2.mono (B8 s5))
 ·refine⟨_,rfl,(ixT hr1 rfl (.inl ⟨rfl,_,rfl,ifF (by decide) ?_⟩))⟩
  obtain⟨dx,i1,i2⟩:=id hC
  refine⟨_,rfl,o,dx,_,rfl,i1,rfl,_,rfl,_,rfl,(ixT h3 (brZ _ _ _) ⟨o,L,us,cv,j,_,rfl,hC,hcv,hj, ?_⟩)⟩
  refine⟨_,rfl,FN,λe he=> ?_⟩
  have s1:=A7 he (.tup [])
  refine⟨fr,k,at_,sl,_,2,e,[],rfl,hF.mono (B8 s1),by simp,A5,by simp at hz⊢;omega,λp1 H1 s2 hp1=> ?_⟩
  have e1:(bel++ [.ref cv,x]).take ((bel++ [.ref cv,x]).length - 2)++ []=bel:=by simp
  rw[e1]at hp1
  have s12:=s1.trans s2
  refine⟨_,rfl,_,rfl,(ixT (s12 _ _ hfc) rfl ⟨_,rfl,(ixT (s12 _ _ hfc) rfl ⟨_,rfl,_,rfl,_,rfl,T6 (s12 _ _ h3) λt2 H2 s3 ht2=> ?_⟩)⟩)⟩
  have e2:J9 (bel++ [.ref cv,x]) (some (-1)) none=[x]:=by
   have:bel++ [.ref cv,x]=(bel++ [.ref cv])++ [x]:=by simp
   rw[this];exact QD _ _
  rw[e2]at ht2
  refine .inr (Q8 (s3 _ _ (s12 _ _ hvt)) ht2 (by simp;omega) λt3 H3 s4 ht3=> ?_)
  have s34:=s12.trans (s3.trans s4)
  refine⟨bl,bs,wh,sz,t3,_,rfl,s34 _ _ hbl,hB.mono (B8 s34),.inr ht3,by simp;omega,hsz,λp2 H4 s5 hp2=>⟨O3,λp hp=> ?_⟩⟩
  have s6:=A7 hp (.tup [.ref p1,.ref p2])
  exact q p p1 p2 _ (s34.trans (s5.trans s6)) A5 (hp1.mono (B8 (s3.trans (s4.trans (s5.trans s6))))) (hp2.mono (B8 s6))
end
noncomputable abbrev s_two_done:Stmt:=top 28
noncomputable abbrev s_part_done:Stmt:=top 29
noncomputable abbrev s_with_new_cell:Stmt:=top 30
noncomputable abbrev s_with_nothing_put:Stmt:=top 31
noncomputable abbrev s_with_slot:Stmt:=top 32
noncomputable abbrev s_further:Stmt:=top 33
noncomputable abbrev s_value_put:Stmt:=top 34
noncomputable abbrev QA:List Str:=["frame","sign","stack","told"]
theorem sc_two_done:FnScope QA ["frame","sign"] (B4 s_two_done):=fS
noncomputable abbrev NL:List Str:=["cells","frame","word","top","pair"]
theorem sc_part_done:FnScope NL csZ (B4 s_part_done):=fS
noncomputable abbrev EJ:List Str:=["cells","frame","row","stack","many"]
theorem sc_with_new_cell:FnScope EJ VB (B4 s_with_new_cell):=fS
noncomputable abbrev AY:List Str:=["frame","row"]
theorem sc_with_nothing_put:FnScope AY VF (B4 s_with_nothing_put):=fS
noncomputable abbrev OE:List Str:=["frame","slot","value","slots"]
theorem sc_with_slot:FnScope OE czZ (B4 s_with_slot):=fS
noncomputable abbrev VU:List Str:=["frame","many_rows"]
theorem sc_further:FnScope VU chZ (B4 s_further):=fS
noncomputable abbrev NW:List Str:=["frame","row"]
theorem sc_value_put:FnScope NW VF (B4 s_value_put):=fS
theorem dXZ{α:Type}(xs:List α)(u v:α):atI (xs++ [u,v]) (-1)=some v:=by
 have:xs++ [u,v]=(xs++ [u])++ [v]:=by simp
 rw[this];exact M9 _ _
theorem bzZ(xs:List V)(v:V):J9 (xs++ [v]) none (some (-1))=xs:=by
 have h:HT.sIx (xs++ [v]).length (xs++ [v]).length (some (-1))=xs.length:=by
  show(if(-1:Int)<0 then((-1:Int)+((xs++ [v]).length:Nat)).toNat else min (-1:Int).toNat (xs++ [v]).length)=xs.length
  rw[if_pos (by decide)]
  simp
  omega
 unfold J9
 rw[h,HT.sIx_none]
 simp
theorem cWZ(xs:List V)(u v:V):J9 (xs++ [u,v]) (some (-2)) none=[u,v]:=by
 have h:HT.sIx (xs++ [u,v]).length 0 (some (-2))=xs.length:=by
  show(if(-2:Int)<0 then((-2:Int)+((xs++ [u,v]).length:Nat)).toNat else min (-2:Int).toNat (xs++ [u,v]).length)=xs.length
  rw[if_pos (by decide)]
  simp
  omega
 unfold J9
 rw[h,HT.sIx_none]
 simp
section
variable{P:Program}{w:World}{K:FZ}{mg:Str->Option Value}{base:Heap}{C f:Addr}{fd:FuncData}{mf:Str->Addr}{md:Str->FuncData}{PH O8 R9 MF UG:Addr}{OU O7 R8 LY TW:FuncData}
inductive spTDW(vs:List V)(H:Hp)(Q:VK):Prop
 |mk:∀(fr:Addr) (k at_:Int) (sl st:List V) (g:Nat) (a b:Int),(vs=[.ref fr,.str (NM.sg g)])->(FrAt H fr k at_ sl (st++ [.int a,.int b]))->(st.length<=100)->(g<6)->(Bd a)->(Bd b)->((∀v p q H',NM.tw g a b=[.str "value",v]->Same H H'->H' p=some (.tup [.str "frame",.ref q])->FrAt H' q k (at_+1) sl (st++ [v])->Q (.ref p) H'))->((∀w p H',NM.tw g a b=[.str "refused",.str w]->Same H H'->H' p=some (.tup [.str "refused",.str w])->Q (.ref p) H'))->spTDW vs H Q
noncomputable def dKZ:Sp:=λvs H Q _=>spTDW vs H Q
theorem ok_two_done(F:Fun K "two_done" "two_done" s_two_done f fd)
  (AU:Cn P w K mg base CX0 2 "two_told" UJ NM.spTwo)
  (D7:Cn P w K mg base CX0 1 "behind" MV DO):
  FnOk P w K mg base CX0 3 f fd ["frame","sign"] dKZ:=by
 obtain⟨PH,OU,AU,PD,PK,PB⟩:=AU
 obtain⟨O8,O7,D7,G8,J0,G9⟩:=D7
 refine F.ok sc_two_done (λvs H Q E h=> ?_) (λcdv A outer s H vs Q E hr h=> ?_)
 ·obtain⟨fr,k,at_,sl,st,g,a,b,rfl,_⟩:=h
  rfl
 obtain⟨fr,k,at_,sl,st,g,a,b,rfl,hF,hz,hg,ha,hb,q1,q2⟩:=h
 have nd:=sc_two_done.nd
 have hu:=hr.units0
 obtain⟨q0,e0,h1,h2,h3⟩:=id hF
 refine⟨_,(A8 (C7 (i:=2) nd rfl (Or.inl rfl) (ixE K w (pv 0) A9))
   (A8 (C7 (i:=3) nd rfl (Or.inl rfl) (B6 AU (hr.mono (by omega)) rfl PB PK PD .nil C0 (A0 (pv 1) (A0 (ixE K w (pv 2) (N3 K6 A9)) (A0 (ixE K w (pv 2) (N3 K6 A9)) A6)))))
   (A8 (D8 (B9 (kEq (K:=K) hu) (ixE K w (pv 3) A9) B1 rfl) (B0 (C2 (pv 3))) D2)
   (B0 (C2 (C1 (A0 B1 (A0 (B6 D7 (hr.mono (by omega)) rfl G9 J0 G8 .nil C0 (A0 (pv 0) (A0 A9 (A0 (G4 (AG (K:=K)) (pv 3) (G6 A9) M4) A6)))) A6)))))))), ?_⟩
 refine⟨_,rfl,(ixT h1 rfl ?_)⟩
 refine⟨_,rfl,_,rfl,_,rfl,(ixT h3 (brZ _ _ _) ⟨_,rfl,_,rfl,(ixT h3 (dXZ _ _ _) ⟨g,a,b,rfl,hg,ha.mul hb,hb.log,λr H1 s1 hr1=> ?_⟩)⟩)⟩
 rcases ZQ hg a b with⟨v,hv,e⟩|⟨wd',e⟩
 ·rw[e]at hr1
  refine⟨_,rfl,(ixT hr1 rfl (.inl ⟨rfl,_,rfl,ifF (by decide) ?_⟩))⟩
  refine⟨_,rfl,_,rfl,1,rfl,T6 hr1 λt H2 s2 ht=> ?_⟩
  have e1:J9 [V.str "value",v] (some 1) none=[v]:=GE _ 1
  rw[e1]at ht
  refine⟨fr,k,at_,sl,_,2,t,[v],rfl,hF.mono (B8 (s1.trans s2)),by simp,ht,by simp;omega,λq H3 s3 hq=>⟨O3,λp hp=> ?_⟩⟩
  have e2:(st++ [V.int a,.int b]).take ((st++ [V.int a,.int b]).length - 2)=st:=by simp
  rw[e2]at hq
  have s4:=A7 hp (.tup [.str "frame",.ref q])
  exact q1 v p q _ e (s1.trans (s2.trans (s3.trans s4))) A5 (hq.mono (B8 s4))
 ·rw[e]at hr1
  refine⟨_,rfl,(ixT hr1 rfl (.inl ⟨rfl,_,rfl,ifT (by decide) ?_⟩))⟩
  exact⟨_,rfl,q2 wd' r H1 e s1 hr1⟩
inductive spPDW (C:Addr) (vs:List V) (H:Hp) (Q:VK):Prop
 |mk:∀(o L:Addr) (us:List V) (fr:Addr) (k at_:Int) (sl st:List V) (x:V) (tl:Bool),(vs=[.ref o,.ref fr,.str (if tl=true then "tail"else "head")])->(CAt C H o L us)->(FrAt H fr k at_ sl (st++ [x]))->(st.length<=100)->(((x=.non/\∀p H',Same H H'->H' p=some (.tup [.str "refused",.str (if tl=true then "tail"else "head")])->Q (.ref p) H')\/(∃(cv c:Addr) (j:Nat) (h t:V),x=.ref cv/\H cv=some (.tup [.str "cell",.int (j:Nat)])/\us[j]? =some (.ref c)/\H c=some (.tup [.str "pair",h,t])/\∀p q H',Same H H'->H' p=some (.tup [.str "frame",.ref q])->FrAt H' q k (at_+1) sl (st++ [if tl=true then t else h])->Q (.ref p) H')))->spPDW C vs H Q
noncomputable def dtZ(C:Addr):Sp:=λvs H Q _=>spPDW C vs H Q
theorem ok_part_done(F:Fun K "part_done" "part_done" s_part_done f fd)(RC:RCls K C mf md)(EQ:FnOk P w K mg base CX0 1 (mf "at") (md "at") EI (UH C))
  (D7:Cn P w K mg base CX0 1 "behind" MV DO):
  FnOk P w K mg base CX0 2 f fd csZ (dtZ C):=by
 obtain⟨O8,O7,D7,G8,J0,G9⟩:=D7
 refine F.ok sc_part_done (λvs H Q E h=> ?_) (λcdv A outer s H vs Q E hr h=> ?_)
 ·obtain⟨o,L,us,fr,k,at_,sl,st,x,tl,rfl,_⟩:=h
  rfl
 obtain⟨o,L,us,fr,k,at_,sl,st,x,tl,rfl,hC,hF,hz,hor⟩:=h
 have nd:=sc_part_done.nd
 have hu:=hr.units0
 obtain⟨q0,e0,h1,h2,h3⟩:=id hF
 obtain⟨dx,i1,i2⟩:=id hC
 refine⟨_,(A8 (C7 (i:=3) nd rfl (Or.inl rfl) (ixE K w (ixE K w (pv 1) A9) (N3 K6 A9)))
   (A8 (D8 (B9 FJ (pv 3) Q4 rfl) (B0 (C2 (C1 (A0 B1 (A0 (pv 2) A6))))) D2)
   (A8 (C7 (i:=4) nd rfl (Or.inl rfl) (L0 (pv 0) RC.cl RC.m_at EQ (hr.mono (by omega)) RC.b_at .nil C0 (A0 (pv 3) A6)))
   (B0 (C2 (C1 (A0 B1 (A0 (B6 D7 (hr.mono (by omega)) rfl G9 J0 G8 .nil C0 (A0 (pv 1) (A0 A9 (A0 (C1 (A0 (P0 (B9 (kEq (K:=K) hu) (pv 2) B1 rfl) (ixE K w (pv 4) A9) (ixE K w (pv 4) A9)) A6)) A6)))) A6)))))))), ?_⟩
 refine⟨_,rfl,(ixT h1 rfl ⟨_,rfl,(ixT h3 (M9 _ _) ?_)⟩)⟩
 rcases hor with⟨rfl,q⟩|⟨cv,c,j,hh,tt,rfl,hcv,hj,hc,q⟩
 ·exact⟨_,rfl,rfl,_,rfl,ifT (by decide) ⟨_,rfl,O3,λp hp=>q p _ (A7 hp _) A5⟩⟩
 ·refine⟨_,rfl,rfl,_,rfl,ifF (by simp) ?_⟩
  refine⟨_,rfl,o,dx,_,rfl,i1,rfl,_,rfl,o,L,us,cv,j,_,rfl,hC,hcv,hj, ?_⟩
  have e2:(st++ [V.ref cv]).take ((st++ [V.ref cv]).length - 1)=st:=by simp
  cases tl with
  |false=>
   refine⟨_,rfl,_,rfl,.inl ⟨rfl,_,rfl,ifT (by decide) ⟨_,rfl,(ixT hc rfl ⟨BZ,λt1 ht1=> ?_⟩)⟩⟩⟩
   have s1:=A7 ht1 (.tup [hh])
   refine⟨fr,k,at_,sl,_,1,t1,[hh],rfl,hF.mono (B8 s1),by simp,A5,by simp;omega,λq1 H3 s3 hq=>⟨O3,λp hp=> ?_⟩⟩
   rw[e2]at hq
   have s4:=A7 hp (.tup [.str "frame",.ref q1])
   exact q p q1 _ (s1.trans (s3.trans s4)) A5 (hq.mono (B8 s4))
  |true=>
   refine⟨_,rfl,_,rfl,.inl ⟨rfl,_,rfl,ifF (by decide) ⟨_,rfl,(ixT hc rfl ⟨BZ,λt1 ht1=> ?_⟩)⟩⟩⟩
   have s1:=A7 ht1 (.tup [tt])
   refine⟨fr,k,at_,sl,_,1,t1,[tt],rfl,hF.mono (B8 s1),by simp,A5,by simp;omega,λq1 H3 s3 hq=>⟨O3,λp hp=> ?_⟩⟩
   rw[e2]at hq
   have s4:=A7 hp (.tup [.str "frame",.ref q1])
   exact q p q1 _ (s1.trans (s3.trans s4)) A5 (hq.mono (B8 s4))
inductive spNCW (C:Addr) (vs:List V) (H:Hp) (Q:VK):Prop
 |mk:∀(o L:Addr) (us:List V) (fr:Addr) (k at_:Int) (sl st:List V) (r:Addr),(vs=[.ref o,.ref fr,.ref r])->(CAt C H o L us)->(us.length<=500)->(st.length<=100)->(((∃x y,H r=some (.tup [.str "cons"])/\FrAt H fr k at_ sl (st++ [x,y])/\∀q c cv H',Bt L H H'->CAt C H' o L (us++ [.ref c])->H' c=some (.tup [.str "pair",x,y])->H' cv=some (.tup [.str "cell",.int (us.length:Nat)])->FrAt H' q k (at_+1) sl (st++ [.ref cv])->Q (.ref q) H')\/(∃(b n:Nat) (xs:List V),H r=some (.tup [.str "close",.int (b:Nat),.int (n:Nat)])/\FrAt H fr k at_ sl (st++xs)/\xs.length=n/\n<=100/\∀q c cv vt H',Bt L H H'->CAt C H' o L (us++ [.ref c])->H' c=some (.tup [.str "fn",.int (b:Nat),.ref vt])->H' vt=some (.tup xs)->H' cv=some (.tup [.str "cell",.int (us.length:Nat)])->FrAt H' q k (at_+1) sl (st++ [.ref cv])->Q (.ref q) H')))->spNCW C vs H Q
noncomputable def dIZ(C:Addr):Sp:=λvs H Q _=>spNCW C vs H Q
theorem ok_with_new_cell(F:Fun K "with_new_cell" "with_new_cell" s_with_new_cell f fd)(RC:RCls K C mf md)(RN:FnOk P w K mg base CX0 1 (mf "put") (md "put") XD (WY C))
  (D7:Cn P w K mg base CX0 1 "behind" MV DO)
  (L7:Cn P w K mg base CX0 1 "top_values" arZ XC):
  FnOk P w K mg base CX0 2 f fd VB (dIZ C):=by
 obtain⟨O8,O7,D7,G8,J0,G9⟩:=D7
 obtain⟨R9,R8,L7,V2,V7,V6⟩:=L7
 refine F.ok sc_with_new_cell (λvs H Q E h=> ?_) (λcdv A outer s H vs Q E hr h=> ?_)
 ·obtain⟨o,L,us,fr,k,at_,sl,st,r,rfl,_⟩:=h
  rfl
 obtain⟨o,L,us,fr,k,at_,sl,st,r,rfl,hC,hul,hz,hor⟩:=h
 have nd:=sc_with_new_cell.nd
 have hu:=hr.units0
 obtain⟨dx,i1,i2⟩:=id hC
 refine⟨_,(A8 (C7 (i:=3) nd rfl (Or.inl rfl) (ixE K w (pv 1) A9))
   (A8 (D8 (B9 (kEq (K:=K) hu) (ixE K w (pv 2) A9) B1 rfl) (B0 (C2 (B6 D7 (hr.mono (by omega)) rfl G9 J0 G8 .nil C0 (A0 (pv 1) (A0 A9 (A0 (C1 (A0 (L0 (pv 0) RC.cl RC.m_put RN (hr.mono (by omega)) RC.b_put .nil C0 (A0 (B7 (N4 (K:=K)) (C1 (A0 B1 A6)) (G4 (AG (K:=K)) (pv 3) (G6 (N3 K6 A9)) M4)) A6)) A6)) A6)))))) D2)
   (A8 (C7 (i:=4) nd rfl (Or.inl rfl) (ixE K w (pv 2) A9))
   (B0 (C2 (B6 D7 (hr.mono (by omega)) rfl G9 J0 G8 .nil C0 (A0 (pv 1) (A0 (pv 4) (A0 (C1 (A0 (L0 (pv 0) RC.cl RC.m_put RN (hr.mono (by omega)) RC.b_put .nil C0 (A0 (C1 (A0 B1 (A0 (ixE K w (pv 2) A9) (A0 (B6 L7 (hr.mono (by omega)) rfl V6 V7 V2 .nil C0 (A0 (pv 3) (A0 (pv 4) A6))) A6)))) A6)) A6)) A6))))))))), ?_⟩
 rcases hor with⟨x,y,hr1,hF,q⟩|⟨b,n,xs,hr1,hF,hn,hn1,q⟩
 ·obtain⟨q0,e0,h1,h2,h3⟩:=id hF
  refine⟨_,rfl,(ixT h1 rfl ?_)⟩
  refine⟨_,rfl,(ixT hr1 rfl (.inl ⟨rfl,_,rfl,ifT (by decide) ?_⟩))⟩
  refine⟨_,rfl,_,rfl,o,dx,_,rfl,i1,rfl,BZ,λt1 ht1=> ?_⟩
  have s1:=A7 ht1 (.tup [.str "pair"])
  refine⟨_,rfl,_,rfl,_,rfl,T6 (s1 _ _ h3) λt2 H2 s2 ht2=> ?_⟩
  rw[cWZ]at ht2
  refine .inr (.inr (Q8 (s2 _ _ A5) ht2 (by simp) λt3 H3 s3 ht3=> ?_))
  have s13:=s1.trans (s2.trans s3)
  refine⟨o,L,us,_,rfl,hC.same s13,by omega,λcv H4 hcv0 k4 hC4 hcv=>⟨BZ,λt5 ht5=> ?_⟩⟩
  have m4:Mo H3 H4:=k4.tups (s13 _ _ i2)
  have s5:=A7 ht5 (.tup [.ref cv])
  refine⟨fr,k,at_,sl,_,2,t5,[.ref cv],rfl,((hF.mono (B8 s13)).mono m4).mono (B8 s5),by simp,A5,by simp;omega,λq1 H6 s6 hq=> ?_⟩
  have e2:(st++ [x,y]).take ((st++ [x,y]).length - 2)=st:=by simp
  rw[e2]at hq
  have s56:=s5.trans s6
  exact q q1 t3 cv H6 (λb o' hb hne=>s56 _ _ (k4 _ _ (s13 _ _ hb) hne)) (hC4.same s56) (s56 _ _ (m4 _ _ ht3)) (s56 _ _ hcv) hq
 ·obtain⟨q0,e0,h1,h2,h3⟩:=id hF
  refine⟨_,rfl,(ixT h1 rfl ?_)⟩
  refine⟨_,rfl,(ixT hr1 rfl (.inl ⟨rfl,_,rfl,ifF (by decide) ?_⟩))⟩
  refine⟨_,rfl,(ixT hr1 rfl ?_)⟩
  refine⟨_,rfl,_,rfl,_,rfl,o,dx,_,rfl,i1,rfl,_,rfl,(ixT hr1 rfl ⟨_,rfl,_,rfl,e0,st++xs,n,rfl,h3,by simp;omega,λvt H2 s2 hvt=>⟨RH,λt3 ht3=> ?_⟩⟩)⟩
  have e1:(st++xs).drop ((st++xs).length - n)=xs:=by
   have:(st++xs).length - n=st.length:=by simp;omega
   rw[this,List.drop_left]
  rw[e1]at hvt
  have s3:=A7 ht3 (.tup [.str "fn",.int (b:Nat),.ref vt])
  have s13:=s2.trans s3
  refine⟨o,L,us,_,rfl,hC.same s13,by omega,λcv H4 hcv0 k4 hC4 hcv=>⟨BZ,λt5 ht5=> ?_⟩⟩
  have m4:Mo _ H4:=k4.tups (s13 _ _ i2)
  have s5:=A7 ht5 (.tup [.ref cv])
  refine⟨fr,k,at_,sl,_,n,t5,[.ref cv],rfl,((hF.mono (B8 s13)).mono m4).mono (B8 s5),by simp;omega,A5,by simp;omega,λq1 H6 s6 hq=> ?_⟩
  have e2:(st++xs).take ((st++xs).length - n)=st:=by
   have:(st++xs).length - n=st.length:=by simp;omega
   rw[this,List.take_left]
  rw[e2]at hq
  have s56:=s5.trans s6
  exact q q1 t3 cv vt H6 (λb o' hb hne=>s56 _ _ (k4 _ _ (s13 _ _ hb) hne)) (hC4.same s56) (s56 _ _ (m4 _ _ A5)) (s56 _ _ (m4 _ _ (s3 _ _ hvt))) (s56 _ _ hcv) hq
inductive spWSW (vs:List V) (H:Hp) (Q:VK):Prop
 |mk:∀(fr:Addr) (k at_:Int) (sl st:List V) (j:Nat) (v:V),(vs=[.ref fr,.int (j:Nat),v])->(FrAt H fr k at_ sl st)->(sl.length<=500)->(∀p H',Same H H'->FrAt H' p k at_ (sl.take j++ [v]++sl.drop (j+1)) st->Q (.ref p) H')->spWSW vs H Q
noncomputable def d0Z:Sp:=λvs H Q _=>spWSW vs H Q
theorem ok_with_slot(F:Fun K "with_slot" "with_slot" s_with_slot f fd):FnOk P w K mg base CX0 1 f fd czZ d0Z:=by
 refine F.ok sc_with_slot (λvs H Q E h=> ?_) (λcdv A outer s H vs Q E hr h=> ?_)
 ·obtain⟨fr,k,at_,sl,st,j,v,rfl,_⟩:=h
  rfl
 obtain⟨fr,k,at_,sl,st,j,v,rfl,⟨q0,e0,h1,h2,h3⟩,hz,q⟩:=h
 have nd:=sc_with_slot.nd
 refine⟨_,(A8 (C7 (i:=3) nd rfl (Or.inl rfl) (ixE K w (pv 0) A9))
   (B0 (C2 (C1 (A0 (ixE K w (pv 0) A9) (A0 (ixE K w (pv 0) A9) (A0 (B7 (N4 (K:=K)) (B7 (N4 (K:=K)) (G4 (AG (K:=K)) (pv 3) M4 (G6 (pv 1))) (C1 (A0 (pv 2) A6))) (G4 (AG (K:=K)) (pv 3) (G6 (B7 (N4 (K:=K)) (pv 1) A9)) M4)) (A0 (ixE K w (pv 0) A9) A6)))))))), ?_⟩
 refine⟨_,rfl,(ixT h1 rfl ?_)⟩
 refine⟨_,rfl,(ixT h1 rfl ⟨_,rfl,(ixT h1 rfl ?_)⟩)⟩
 refine⟨_,rfl,_,rfl,_,rfl,T6 h2 λt1 H1 s1 ht1=>⟨_,rfl,BZ,λt2 ht2=> ?_⟩⟩
 have e1:J9 sl none (some ((j:Nat):Int))=sl.take j:=QH _ _
 rw[e1]at ht1
 have s2:=A7 ht2 (.tup [v])
 refine .inr (.inr (Q8 (s2 _ _ ht1) A5 (by simp;omega) λt3 H3 s3 ht3=> ?_))
 have s13:=s1.trans (s2.trans s3)
 refine⟨_,rfl,_,rfl,.inl ⟨_,_,rfl,rfl,_,rfl,T6 (s13 _ _ h2) λt4 H4 s4 ht4=> ?_⟩⟩
 have e2:J9 sl (some (((j:Nat):Int)+1)) none=sl.drop (j+1):=GE sl (j+1)
 rw[e2]at ht4
 refine .inr (.inr (Q8 (s4 _ _ ht3) ht4 (by simp;omega) λt5 H5 s5 ht5=> ?_))
 have s15:=s13.trans (s4.trans s5)
 refine⟨_,rfl,(ixT (s15 _ _ h1) rfl ⟨NH,λp hp=> ?_⟩)⟩
 have s6:=A7 hp (.tup [.int k,.int at_,.ref t5,.ref e0])
 exact q p _ (s15.trans s6) ⟨t5,e0,A5,s6 _ _ ht5,s6 _ _ (s15 _ _ h3)⟩
inductive spFuW (vs:List V) (H:Hp) (Q:VK):Prop
 |mk:∀(fr:Addr) (k at_:Int) (sl st:List V) (m:Int),(vs=[.ref fr,.int m])->(FrAt H fr k at_ sl st)->(∀p H',Same H H'->FrAt H' p k (at_+m) sl st->Q (.ref p) H')->spFuW vs H Q
noncomputable def dFZ:Sp:=λvs H Q _=>spFuW vs H Q
theorem ok_further(F:Fun K "further" "further" s_further f fd):FnOk P w K mg base CX0 1 f fd chZ dFZ:=by
 refine F.ok sc_further (λvs H Q E h=> ?_) (λcdv A outer s H vs Q E hr h=> ?_)
 ·obtain⟨fr,k,at_,sl,st,m,rfl,_⟩:=h
  rfl
 obtain⟨fr,k,at_,sl,st,m,rfl,⟨q0,e0,h1,h2,h3⟩,q⟩:=h
 have nd:=sc_further.nd
 refine⟨_,(B0 (C2 (C1 (A0 (ixE K w (pv 0) A9) (A0 (B7 (N4 (K:=K)) (ixE K w (pv 0) A9) (pv 1)) (A0 (ixE K w (pv 0) A9) (A0 (ixE K w (pv 0) A9) A6))))))), ?_⟩
 refine⟨_,rfl,(ixT h1 rfl ⟨_,rfl,(ixT h1 rfl ⟨_,rfl,.inl ⟨_,_,rfl,rfl,_,rfl,(ixT h1 rfl ⟨_,rfl,(ixT h1 rfl ⟨NH,λp hp=> ?_⟩)⟩)⟩⟩)⟩)⟩
 have s6:=A7 hp (.tup [.int k,.int (at_+m),.ref q0,.ref e0])
 exact q p _ s6 ⟨q0,e0,A5,s6 _ _ h2,s6 _ _ h3⟩
inductive spVPW (vs:List V) (H:Hp) (Q:VK):Prop
 |mk:∀(fr:Addr) (k at_:Int) (sl st:List V) (r:Addr),(vs=[.ref fr,.ref r])->(FrAt H fr k at_ sl st)->(((∃v,H r=some (.tup [.str "push",v])/\Q v H)\/(H r=some (.tup [.str "none"])/\Q .non H)\/(∃(j:Nat) (v:V),H r=some (.tup [.str "load",.int (j:Nat)])/\sl[j]? =some v/\Q v H)))->spVPW vs H Q
noncomputable def dBZ:Sp:=λvs H Q _=>spVPW vs H Q
theorem ok_value_put(F:Fun K "value_put" "value_put" s_value_put f fd):FnOk P w K mg base CX0 1 f fd VF dBZ:=by
 refine F.ok sc_value_put (λvs H Q E h=> ?_) (λcdv A outer s H vs Q E hr h=> ?_)
 ·obtain⟨fr,k,at_,sl,st,r,rfl,_⟩:=h
  rfl
 obtain⟨fr,k,at_,sl,st,r,rfl,⟨q0,e0,h1,h2,h3⟩,hor⟩:=h
 have nd:=sc_value_put.nd
 have hu:=hr.units0
 refine⟨_,(A8 (D8 (B9 (kEq (K:=K) hu) (ixE K w (pv 1) A9) B1 rfl) (B0 (C2 (ixE K w (pv 1) A9))) D2)
   (B0 (C2 (P0 (B9 (kEq (K:=K) hu) (ixE K w (pv 1) A9) B1 rfl) (ixE K w (ixE K w (pv 0) A9) (ixE K w (pv 1) A9)) Q4)))), ?_⟩
 rcases hor with⟨v,hr1,q⟩|⟨hr1,q⟩|⟨j,v,hr1,hj,q⟩
 ·exact⟨_,rfl,(ixT hr1 rfl (.inl ⟨rfl,_,rfl,ifT (by decide) ⟨_,rfl,(ixT hr1 rfl q)⟩⟩))⟩
 ·exact⟨_,rfl,(ixT hr1 rfl (.inl ⟨rfl,_,rfl,ifF (by decide) ⟨_,rfl,(ixT hr1 rfl (.inl ⟨rfl,_,rfl,ifF (by decide) q⟩))⟩⟩))⟩
 ·exact⟨_,rfl,(ixT hr1 rfl (.inl ⟨rfl,_,rfl,ifF (by decide) ⟨_,rfl,(ixT hr1 rfl (.inl ⟨rfl,_,rfl,ifT (by decide) ⟨_,rfl,(ixT h1 rfl ⟨_,rfl,(ixT hr1 rfl (.inr (.inl ⟨q0,sl,_,_,rfl,rfl,SqT.of h2,D3 hj,q⟩)))⟩)⟩⟩))⟩⟩))⟩
inductive spNPW (vs:List V) (H:Hp) (Q:VK):Prop
 |mk:∀(fr:Addr) (k at_:Int) (sl st:List V) (r:Addr),(vs=[.ref fr,.ref r])->(FrAt H fr k at_ sl st)->(st.length<=100)->(sl.length<=500)->(((∃(j:Nat) (st':List V) (v:V),H r=some (.tup [.str "keep",.int (j:Nat)])/\st=st'++ [v]/\∀p H',Same H H'->FrAt H' p k (at_+1) (sl.take j++ [v]++sl.drop (j+1)) st'->Q (.ref p) H')\/(∃n:Nat,H r=some (.tup [.str "skip",.int (n:Nat)])/\∀p H',Same H H'->FrAt H' p k (at_+1+(n:Nat)) sl st->Q (.ref p) H')\/(∃(n:Nat) (st':List V) (b:Bool),H r=some (.tup [.str "unless",.int (n:Nat)])/\st=st'++ [.bl b]/\∀p H',Same H H'->FrAt H' p k (at_+1+if b=true then 0 else(n:Int)) sl st'->Q (.ref p) H')))->spNPW vs H Q
noncomputable def dYZ:Sp:=λvs H Q _=>spNPW vs H Q
theorem ok_with_nothing_put(F:Fun K "with_nothing_put" "with_nothing_put" s_with_nothing_put f fd)
  (D7:Cn P w K mg base CX0 1 "behind" MV DO)
  (X4:Cn P w K mg base CX0 1 "with_slot" czZ d0Z)
  (Z9:Cn P w K mg base CX0 1 "further" chZ dFZ):
  FnOk P w K mg base CX0 2 f fd VF dYZ:=by
 obtain⟨O8,O7,D7,G8,J0,G9⟩:=D7
 obtain⟨MF,LY,X4,LP,MI,LS⟩:=X4
 obtain⟨UG,TW,Z9,HV,HU,HS⟩:=Z9
 refine F.ok sc_with_nothing_put (λvs H Q E h=> ?_) (λcdv A outer s H vs Q E hr h=> ?_)
 ·obtain⟨fr,k,at_,sl,st,r,rfl,_⟩:=h
  rfl
 obtain⟨fr,k,at_,sl,st,r,rfl,hF,hz,hsl,hor⟩:=h
 have nd:=sc_with_nothing_put.nd
 have hu:=hr.units0
 obtain⟨q0,e0,h1,h2,h3⟩:=id hF
 refine⟨_,(A8 (D8 (B9 (kEq (K:=K) hu) (ixE K w (pv 1) A9) B1 rfl) (B0 (C2 (B6 X4 (hr.mono (by omega)) rfl LS MI LP .nil C0 (A0 (B6 D7 (hr.mono (by omega)) rfl G9 J0 G8 .nil C0 (A0 (pv 0) (A0 A9 (A0 (C1 A6) A6)))) (A0 (ixE K w (pv 1) A9) (A0 (ixE K w (ixE K w (pv 0) A9) (N3 K6 A9)) A6)))))) D2)
   (A8 (D8 (B9 (kEq (K:=K) hu) (ixE K w (pv 1) A9) B1 rfl) (B0 (C2 (B6 Z9 (hr.mono (by omega)) rfl HS HU HV .nil C0 (A0 (B6 D7 (hr.mono (by omega)) rfl G9 J0 G8 .nil C0 (A0 (pv 0) (A0 A9 (A0 (C1 A6) A6)))) (A0 (ixE K w (pv 1) A9) A6))))) D2)
   (B0 (C2 (B6 Z9 (hr.mono (by omega)) rfl HS HU HV .nil C0 (A0 (B6 D7 (hr.mono (by omega)) rfl G9 J0 G8 .nil C0 (A0 (pv 0) (A0 A9 (A0 (C1 A6) A6)))) (A0 (P0 (M3 (K:=K) (ixE K w (ixE K w (pv 0) A9) (N3 K6 A9)) (λ_=>rfl)) A9 (ixE K w (pv 1) A9)) A6))))))), ?_⟩
 rcases hor with⟨j,st',v,hr1,rfl,q⟩|⟨n,hr1,q⟩|⟨n,st',b,hr1,rfl,q⟩
 ·refine⟨_,rfl,(ixT hr1 rfl (.inl ⟨rfl,_,rfl,ifT (by decide) ?_⟩))⟩
  refine⟨_,rfl,FN,λe he=> ?_⟩
  have s1:=A7 he (.tup [])
  refine⟨fr,k,at_,sl,_,1,e,[],rfl,hF.mono (B8 s1),by simp,A5,by simp at hz⊢;omega,λp1 H1 s2 hp1=> ?_⟩
  have e2:(st'++ [v]).take ((st'++ [v]).length - 1)++ []=st':=by simp
  rw[e2]at hp1
  have s12:=s1.trans s2
  refine⟨_,rfl,(ixT (s12 _ _ hr1) rfl ⟨_,rfl,(ixT (s12 _ _ h1) rfl ⟨_,rfl,(ixT (s12 _ _ h3) (M9 _ _) ?_)⟩)⟩)⟩
  exact⟨p1,k,at_+1,sl,st',j,v,rfl,hp1,hsl,λp H3 s3 hp=>q p H3 (s12.trans s3) hp⟩
 ·refine⟨_,rfl,(ixT hr1 rfl (.inl ⟨rfl,_,rfl,ifF (by decide) ?_⟩))⟩
  refine⟨_,rfl,(ixT hr1 rfl (.inl ⟨rfl,_,rfl,ifT (by decide) ?_⟩))⟩
  refine⟨_,rfl,FN,λe he=> ?_⟩
  have s1:=A7 he (.tup [])
  refine⟨fr,k,at_,sl,_,0,e,[],rfl,hF.mono (B8 s1),zero_le _,A5,by simp;omega,λp1 H1 s2 hp1=> ?_⟩
  have e2:st.take (st.length - 0)++ []=st:=by simp
  rw[e2]at hp1
  have s12:=s1.trans s2
  refine⟨_,rfl,(ixT (s12 _ _ hr1) rfl ?_)⟩
  exact⟨p1,k,at_+1,sl,st,_,rfl,hp1,λp H3 s3 hp=>q p H3 (s12.trans s3) hp⟩
 ·refine⟨_,rfl,(ixT hr1 rfl (.inl ⟨rfl,_,rfl,ifF (by decide) ?_⟩))⟩
  refine⟨_,rfl,(ixT hr1 rfl (.inl ⟨rfl,_,rfl,ifF (by decide) ?_⟩))⟩
  refine⟨_,rfl,FN,λe he=> ?_⟩
  have s1:=A7 he (.tup [])
  refine⟨fr,k,at_,sl,_,1,e,[],rfl,hF.mono (B8 s1),by simp,A5,by simp at hz⊢;omega,λp1 H1 s2 hp1=> ?_⟩
  have e2:(st'++ [V.bl b]).take ((st'++ [V.bl b]).length - 1)++ []=st':=by simp
  rw[e2]at hp1
  have s12:=s1.trans s2
  refine⟨_,rfl,(ixT (s12 _ _ h1) rfl ⟨_,rfl,(ixT (s12 _ _ h3) (M9 _ _) ⟨b,rfl, ?_⟩)⟩)⟩
  cases b with
  |true=>exact ifT rfl ⟨p1,k,at_+1,sl,st',_,rfl,hp1,λp H3 s3 hp=>q p H3 (s12.trans s3) hp⟩
  |false=>exact ifF nZ ⟨_,rfl,(ixT (s12 _ _ hr1) rfl ⟨p1,k,at_+1,sl,st',_,rfl,hp1,λp H3 s3 hp=>q p H3 (s12.trans s3) hp⟩)⟩
end
noncomputable abbrev s_own_done:Stmt:=top 24
noncomputable abbrev QZ:List Str:=["cells","frame","row","word","top"]
theorem sc_own_done:FnScope QZ VB (B4 s_own_done):=fS
noncomputable def RS:List (Str×V):=[("add",.str "+"),("sub",.str "-"),("mul",.str "*"),("div",.str "/"),("less",.str "<"),("same",.str "=")]
noncomputable def X2:Rk->Str
 | .push _=> "push"| .non=> "none"| .load _=> "load"| .keep _=> "keep"| .two k=>wd k| .cons=> "cons"| .head=> "head"| .tail=> "tail"| .empty=> "empty"| .not=> "not"| .skip _=> "skip"| .unless _=> "unless"| .close _ _=> "close"
theorem ZN(rk:Rk):atI (rkV rk) 0=some (.str (X2 rk)):=by cases rk<;>rfl
theorem NO:∀k:Nat,(RS.lookup (wd k)).isSome=true
 |0=>by decide|1=>by decide|2=>by decide|3=>by decide|4=>by decide|n+5=>by show(List.lookup ("div":Str) RS).isSome=true;decide
theorem bMZ{k:Nat}(h:k<6):RS.lookup (wd k)=some (.str (NM.sg k)):=by
 have hk:k=0\/k=1\/k=2\/k=3\/k=4\/k=5:=by omega
 rcases hk with rfl|rfl|rfl|rfl|rfl|rfl<;>rfl
section
variable{P:Program}{w:World}{K:FZ}{mg:Str->Option Value}{base:Heap}{C f rs:Addr}{fd:FuncData}{mf:Str->Addr}{md:Str->FuncData}{OX MK EA AR MO O8:Addr}{PP MJ DX AQ LT O7:FuncData}
noncomputable def dvZ(C:Addr)(H:Hp)(Q:VK)(o L:Addr)(us:List V)(k at_:Int)(sl:List V):Eo->Prop
 | .fr d sl' st'=>∀p q H',Same H H'->H' p=some (.tup [.str "frame",.ref q])->FrAt H' q k (at_+d) sl' st'->Q (.ref p) H'
 | .rf w=>∀p H',Same H H'->H' p=some (.tup [.str "refused",.str w])->Q (.ref p) H'
 | .pair st' x y=>∀p q c cv H',Bt L H H'->CAt C H' o L (us++ [.ref c])->H' c=some (.tup [.str "pair",x,y])->H' cv=some (.tup [.str "cell",.int (us.length:Nat)])->H' p=some (.tup [.str "frame",.ref q])->FrAt H' q k (at_+1) sl (st'++ [.ref cv])->Q (.ref p) H'
 | .fn st' b xs=>∀p q c cv vt H',Bt L H H'->CAt C H' o L (us++ [.ref c])->H' c=some (.tup [.str "fn",.int (b:Nat),.ref vt])->H' vt=some (.tup xs)->H' cv=some (.tup [.str "cell",.int (us.length:Nat)])->H' p=some (.tup [.str "frame",.ref q])->FrAt H' q k (at_+1) sl (st'++ [.ref cv])->Q (.ref p) H'
inductive spOwnW (C:Addr) (vs:List V) (H:Hp) (Q:VK):Prop
 |mk:∀(o L:Addr) (us:List V) (fr:Addr) (k at_:Int) (sl st:List V) (r:Addr) (rk:Rk) (eo:Eo),(vs=[.ref o,.ref fr,.ref r])->(CAt C H o L us)->(us.length<=500)->(FrAt H fr k at_ sl st)->(st.length<=100)->(sl.length<=100)->(H r=some (.tup (rkV rk)))->(Ef H us sl rk st eo)->(dvZ C H Q o L us k at_ sl eo)->spOwnW C vs H Q
noncomputable def byZ(C:Addr):Sp:=λvs H Q _=>spOwnW C vs H Q
theorem ok_own_done(F:Fun K "own_done" "own_done" s_own_done f fd)(TD:TopD w K rs RS)(m_ROW_SIGNS:mg "ROW_SIGNS"=some (.ref rs))
  (AT:Cn P w K mg base CX0 3 "two_done" ["frame","sign"] dKZ)
  (X5:Cn P w K mg base CX0 2 "part_done" csZ (dtZ C))
  (R6:Cn P w K mg base CX0 2 "with_new_cell" VB (dIZ C))
  (N9:Cn P w K mg base CX0 2 "with_nothing_put" VF dYZ)
  (Y0:Cn P w K mg base CX0 1 "value_put" VF dBZ)
  (D7:Cn P w K mg base CX0 1 "behind" MV DO):
  FnOk P w K mg base CX0 4 f fd VB (byZ C):=by
 obtain⟨OX,PP,AT,PJ,PR,PU⟩:=AT
 obtain⟨MK,MJ,X5,MM,MN,LR⟩:=X5
 obtain⟨EA,DX,R6,EB,DU,DY⟩:=R6
 obtain⟨AR,AQ,N9,AO,AV,AM⟩:=N9
 obtain⟨MO,LT,Y0,MA,MB,ME⟩:=Y0
 obtain⟨O8,O7,D7,G8,J0,G9⟩:=D7
 refine F.ok sc_own_done (λvs H Q E h=> ?_) (λcdv A outer s H vs Q E hr h=> ?_)
 ·obtain⟨o,L,us,fr,k,at_,sl,st,r,rk,eo,rfl,_⟩:=h
  rfl
 obtain⟨o,L,us,fr,k,at_,sl,st,r,rk,eo,rfl,hC,hul,hF,hz,hsl,hr1,hE,q⟩:=h
 have nd:=sc_own_done.nd
 have hu:=hr.units0
 refine⟨_,(A8 (C7 (i:=3) nd rfl (Or.inl rfl) (ixE K w (pv 2) A9))
   (A8 (D8 (B9 (kIn (K:=K) (w:=w)) (pv 3) (BY (v:=.ref _) rfl m_ROW_SIGNS rfl) rfl) (B0 (C2 (B6 AT (hr.mono (by omega)) rfl PU PR PJ .nil C0 (A0 (pv 1) (A0 (ixE K w (BY (v:=.ref _) rfl m_ROW_SIGNS rfl) (pv 3)) A6))))) D2)
   (A8 (D8 (B9 (kIn (K:=K) (w:=w)) (pv 3) (C1 (A0 B1 (A0 B1 A6))) rfl) (B0 (C2 (B6 X5 (hr.mono (by omega)) rfl LR MN MM .nil C0 (A0 (pv 0) (A0 (pv 1) (A0 (pv 3) A6)))))) D2)
   (A8 (D8 (B9 (kIn (K:=K) (w:=w)) (pv 3) (C1 (A0 B1 (A0 B1 A6))) rfl) (B0 (C2 (C1 (A0 B1 (A0 (B6 R6 (hr.mono (by omega)) rfl DY DU EB .nil C0 (A0 (pv 0) (A0 (pv 1) (A0 (pv 2) A6)))) A6))))) D2)
   (A8 (D8 (B9 (kIn (K:=K) (w:=w)) (pv 3) (C1 (A0 B1 (A0 B1 (A0 B1 A6)))) rfl) (B0 (C2 (C1 (A0 B1 (A0 (B6 N9 (hr.mono (by omega)) rfl AM AV AO .nil C0 (A0 (pv 1) (A0 (pv 2) A6))) A6))))) D2)
   (A8 (D8 (B9 (kIn (K:=K) (w:=w)) (pv 3) (C1 (A0 B1 (A0 B1 A6))) rfl) (A8 (C7 (i:=4) nd rfl (Or.inl rfl) (ixE K w (ixE K w (pv 1) A9) (N3 K6 A9)))
   (B0 (C2 (C1 (A0 B1 (A0 (B6 D7 (hr.mono (by omega)) rfl G9 J0 G8 .nil C0 (A0 (pv 1) (A0 A9 (A0 (C1 (A0 (P0 (B9 (kEq (K:=K) hu) (pv 3) B1 rfl) (Q7 FJ (pv 4) Q4 rfl) (b5Z (pv 4))) A6)) A6)))) A6)))))) D2)
   (B0 (C2 (C1 (A0 B1 (A0 (B6 D7 (hr.mono (by omega)) rfl G9 J0 G8 .nil C0 (A0 (pv 1) (A0 A9 (A0 (C1 (A0 (B6 Y0 (hr.mono (by omega)) rfl ME MB MA .nil C0 (A0 (pv 1) (A0 (pv 2) A6))) A6)) A6)))) A6))))))))))), ?_⟩
 refine⟨_,rfl,(ixT hr1 (ZN rk) ?_)⟩
 refine⟨_,rfl,.inr (.inr ⟨X2 rk,rs,RS,rfl,rfl,TD,_,rfl,FO (λc1=> ?_) (λc1=> ?_)⟩)⟩
 ·cases hE<;>first|(exfalso;simp only[X2]at c1;revert c1;decide)|skip
  case twoV g a b v st hg ha hb he hv=>
   refine⟨_,rfl,_,rfl,.inr (.inr (.inr ⟨_,_,RS,_,rfl,rfl,TD,bMZ hg,fr,k,at_,sl,st,g,a,b,rfl,hF,by simp at hz;omega,hg,ha,hb,λv' p q1 H' e s1 h1 h2=> ?_,λw' p H' e s1 h1=> ?_⟩))⟩
   ·rw[he]at e
    have e':=(List.cons.inj (List.cons.inj e).2).1
    subst e'
    exact q p q1 H' s1 h1 h2
   ·rw[he]at e
    exact absurd (List.cons.inj e).1 (by decide)
  case twoR g a b w0 st hg ha hb he=>
   refine⟨_,rfl,_,rfl,.inr (.inr (.inr ⟨_,_,RS,_,rfl,rfl,TD,bMZ hg,fr,k,at_,sl,st,g,a,b,rfl,hF,by simp at hz;omega,hg,ha,hb,λv' p q1 H' e s1 h1 h2=> ?_,λw' p H' e s1 h1=> ?_⟩))⟩
   ·rw[he]at e
    exact absurd (List.cons.inj e).1 (by decide)
   ·rw[he]at e
    have e':=(List.cons.inj (List.cons.inj e).2).1
    injection e' with e'
    subst e'
    exact q p H' s1 h1
 refine⟨_,rfl,O3,λt1 ht1=> .inr (.inl ⟨t1,_,rfl,.inr (SqT.of A5),rfl,rfl,_,rfl,FO (λc2=> ?_) (λc2=> ?_)⟩)⟩
 ·have s1:=A7 ht1 (.tup [.str "head",.str "tail"])
  have hF1:=hF.mono (B8 s1)
  have hC1:=hC.same s1
  cases hE<;>first|exact absurd (NO _) c1|(exfalso;simp only[X2]at c2;revert c2;decide)|skip
  case headN st=>
   exact⟨_,rfl,_,rfl,_,rfl,o,L,us,fr,k,at_,sl,st,.non,false,rfl,hC1,hF1,by simp at hz;omega,.inl ⟨rfl,λp H' s2 hp=>q p H' (s1.trans s2) hp⟩⟩
  case tailN st=>
   exact⟨_,rfl,_,rfl,_,rfl,o,L,us,fr,k,at_,sl,st,.non,true,rfl,hC1,hF1,by simp at hz;omega,.inl ⟨rfl,λp H' s2 hp=>q p H' (s1.trans s2) hp⟩⟩
  case head p0 c h0 t0 st j g1 g2 g3 g4=>
   exact⟨_,rfl,_,rfl,_,rfl,o,L,us,fr,k,at_,sl,st,_,false,rfl,hC1,hF1,by simp at hz;omega,.inr ⟨p0,c,j,h0,t0,rfl,s1 _ _ g1,g2,s1 _ _ g3,λp q1 H' s2 hp hq=>q p q1 H' (s1.trans s2) hp hq⟩⟩
  case tail p0 c h0 t0 st j g1 g2 g3 g4=>
   exact⟨_,rfl,_,rfl,_,rfl,o,L,us,fr,k,at_,sl,st,_,true,rfl,hC1,hF1,by simp at hz;omega,.inr ⟨p0,c,j,h0,t0,rfl,s1 _ _ g1,g2,s1 _ _ g3,λp q1 H' s2 hp hq=>q p q1 H' (s1.trans s2) hp hq⟩⟩
 have s1:=A7 ht1 (.tup [.str "head",.str "tail"])
 refine⟨_,rfl,O3,λt2 ht2=> .inr (.inl ⟨t2,_,rfl,.inr (SqT.of A5),rfl,rfl,_,rfl,FO (λc3=> ?_) (λc3=> ?_)⟩)⟩
 ·have s2:=s1.trans (A7 ht2 (.tup [.str "cons",.str "close"]))
  have hF1:=hF.mono (B8 s2)
  have hC1:=hC.same s2
  cases hE<;>first|exact absurd (NO _) c1|(exfalso;simp only[X2]at c3;revert c3;decide)|skip
  case cons x y st=>
   refine⟨_,rfl,_,rfl,_,rfl,o,L,us,fr,k,at_,sl,st,r,rfl,hC1,hul,by simp at hz;omega,.inl ⟨x,y,s2 _ _ hr1,hF1,λq1 c cv H' k1 g1 g2 g3 g4=>⟨O3,λp hp=> ?_⟩⟩⟩
   have s3:=A7 hp (.tup [.str "frame",.ref q1])
   exact q p q1 c cv _ (λb o' hb hne=>s3 _ _ (k1 _ _ (s2 _ _ hb) hne)) (g1.same s3) (s3 _ _ g2) (s3 _ _ g3) A5 (g4.mono (B8 s3))
  case close b n st xs hn=>
   refine⟨_,rfl,_,rfl,_,rfl,o,L,us,fr,k,at_,sl,st,r,rfl,hC1,hul,by simp at hz;omega,.inr ⟨b,n,xs,s2 _ _ hr1,hF1,hn,by simp at hz;omega,λq1 c cv vt H' k1 g1 g2 g2' g3 g4=>⟨O3,λp hp=> ?_⟩⟩⟩
   have s3:=A7 hp (.tup [.str "frame",.ref q1])
   exact q p q1 c cv vt _ (λb o' hb hne=>s3 _ _ (k1 _ _ (s2 _ _ hb) hne)) (g1.same s3) (s3 _ _ g2) (s3 _ _ g2') (s3 _ _ g3) A5 (g4.mono (B8 s3))
 have s2:=s1.trans (A7 ht2 (.tup [.str "cons",.str "close"]))
 refine⟨_,rfl,RH,λt3 ht3=> .inr (.inl ⟨t3,_,rfl,.inr (SqT.of A5),rfl,rfl,_,rfl,FO (λc4=> ?_) (λc4=> ?_)⟩)⟩
 ·have s3:=s2.trans (A7 ht3 (.tup [.str "keep",.str "skip",.str "unless"]))
  have hF1:=hF.mono (B8 s3)
  cases hE<;>first|exact absurd (NO _) c1|(exfalso;simp only[X2]at c4;revert c4;decide)|skip
  case keep j v st hj=>
   refine⟨_,rfl,_,rfl,fr,k,at_,sl,_,r,rfl,hF1,hz,by omega,.inl ⟨j,st,v,s3 _ _ hr1,rfl,λq1 H' s4 g=>⟨O3,λp hp=> ?_⟩⟩⟩
   have s5:=A7 hp (.tup [.str "frame",.ref q1])
   exact q p q1 _ (s3.trans (s4.trans s5)) A5 (g.mono (B8 s5))
  case skip n=>
   refine⟨_,rfl,_,rfl,fr,k,at_,sl,_,r,rfl,hF1,hz,by omega,.inr (.inl ⟨n,s3 _ _ hr1,λq1 H' s4 g=>⟨O3,λp hp=> ?_⟩⟩)⟩
   have s5:=A7 hp (.tup [.str "frame",.ref q1])
   exact q p q1 _ (s3.trans (s4.trans s5)) A5 (by rw[<-Int.add_assoc];exact g.mono (B8 s5))
  case «unless» n b st=>
   refine⟨_,rfl,_,rfl,fr,k,at_,sl,_,r,rfl,hF1,hz,by omega,.inr (.inr ⟨n,st,b,s3 _ _ hr1,rfl,λq1 H' s4 g=>⟨O3,λp hp=> ?_⟩⟩)⟩
   have s5:=A7 hp (.tup [.str "frame",.ref q1])
   exact q p q1 _ (s3.trans (s4.trans s5)) A5 (by rw[<-Int.add_assoc];exact g.mono (B8 s5))
 have s3:=s2.trans (A7 ht3 (.tup [.str "keep",.str "skip",.str "unless"]))
 refine⟨_,rfl,O3,λt4 ht4=> .inr (.inl ⟨t4,_,rfl,.inr (SqT.of A5),rfl,rfl,_,rfl,FO (λc5=> ?_) (λc5=> ?_)⟩)⟩
 ·have s4:=s3.trans (A7 ht4 (.tup [.str "empty",.str "not"]))
  have hF1:=hF.mono (B8 s4)
  obtain⟨q0,e0,h1,h2,h3⟩:=id hF1
  cases hE<;>first|exact absurd (NO _) c1|(exfalso;simp only[X2]at c5;revert c5;decide)|skip
  case emptyN st=>
   refine⟨_,rfl,(ixT h1 rfl ⟨_,rfl,(ixT h3 (M9 _ _) ?_)⟩)⟩
   refine⟨_,rfl,_,rfl,.inl ⟨rfl,_,rfl,ifT (by decide) ⟨_,rfl,rfl,BZ,λt5 ht5=> ?_⟩⟩⟩
   have s5:=A7 ht5 (.tup [.bl true])
   refine⟨fr,k,at_,sl,_,1,t5,_,rfl,hF1.mono (B8 s5),by simp,A5,by simp at hz⊢;omega,λq1 H6 s6 hq=>⟨O3,λp hp=> ?_⟩⟩
   have e2:(st++ [V.non]).take ((st++ [V.non]).length - 1)=st:=by simp
   rw[e2]at hq
   have s7:=A7 hp (.tup [.str "frame",.ref q1])
   exact q p q1 _ (s4.trans (s5.trans (s6.trans s7))) A5 (hq.mono (B8 s7))
  case empty p0 xs st hp0=>
   refine⟨_,rfl,(ixT h1 rfl ⟨_,rfl,(ixT h3 (M9 _ _) ?_)⟩)⟩
   refine⟨_,rfl,_,rfl,.inl ⟨rfl,_,rfl,ifT (by decide) ⟨_,rfl,rfl,BZ,λt5 ht5=> ?_⟩⟩⟩
   have ed:decide (V.ref p0=V.non)=false:=by simp
   rw[ed]at*
   have s5:=A7 ht5 (.tup [.bl false])
   refine⟨fr,k,at_,sl,_,1,t5,_,rfl,hF1.mono (B8 s5),by simp,A5,by simp at hz⊢;omega,λq1 H6 s6 hq=>⟨O3,λp hp=> ?_⟩⟩
   have e2:(st++ [V.ref p0]).take ((st++ [V.ref p0]).length - 1)=st:=by simp
   rw[e2]at hq
   have s7:=A7 hp (.tup [.str "frame",.ref q1])
   exact q p q1 _ (s4.trans (s5.trans (s6.trans s7))) A5 (hq.mono (B8 s7))
  case not b st=>
   refine⟨_,rfl,(ixT h1 rfl ⟨_,rfl,(ixT h3 (M9 _ _) ?_)⟩)⟩
   refine⟨_,rfl,_,rfl,.inl ⟨rfl,_,rfl,ifF (by decide) ⟨_,rfl,b,rfl,BZ,λt5 ht5=> ?_⟩⟩⟩
   have s5:=A7 ht5 (.tup [.bl (!b)])
   refine⟨fr,k,at_,sl,_,1,t5,_,rfl,hF1.mono (B8 s5),by simp,A5,by simp at hz⊢;omega,λq1 H6 s6 hq=>⟨O3,λp hp=> ?_⟩⟩
   have e2:(st++ [V.bl b]).take ((st++ [V.bl b]).length - 1)=st:=by simp
   rw[e2]at hq
   have s7:=A7 hp (.tup [.str "frame",.ref q1])
   exact q p q1 _ (s4.trans (s5.trans (s6.trans s7))) A5 (hq.mono (B8 s7))
 have s4:=s3.trans (A7 ht4 (.tup [.str "empty",.str "not"]))
 have hF1:=hF.mono (B8 s4)
 have key:∃v,Ef H us sl rk st eo/\eo=.fr 1 sl (st++ [v])/\((∃v',H r=some (.tup [.str "push",v'])/\v'=v)\/(H r=some (.tup [.str "none"])/\v=.non)\/(∃(j:Nat),H r=some (.tup [.str "load",.int (j:Nat)])/\sl[j]? =some v)):=by
  cases hE<;>first|exact absurd (NO _) c1|(exfalso;simp only[X2]at c5;revert c5;decide)|(exfalso;simp only[X2]at c4;revert c4;decide)|(exfalso;simp only[X2]at c3;revert c3;decide)|(exfalso;simp only[X2]at c2;revert c2;decide)|skip
  case push v hv=>exact⟨v,.push hv,rfl,.inl ⟨v,hr1,rfl⟩⟩
  case non=>exact⟨.non,.non,rfl,.inr (.inl ⟨hr1,rfl⟩)⟩
  case load j v hj=>exact⟨v,.load hj,rfl,.inr (.inr ⟨j,hr1,hj⟩)⟩
 obtain⟨v,_,rfl,hv⟩:=key
 have fin:∀(t5:Addr) (H5:Hp),Same _ H5->H5 t5=some (.tup [v])->DO [.ref fr,.int 0,.ref t5] H5 (λv1 H1=>tTupW Q [.str "frame",v1] H1) E:=λt5 H5 s5 ht5=>
  ⟨fr,k,at_,sl,st,0,t5,[v],rfl,hF1.mono (B8 s5),zero_le _,ht5,by simp;omega,λq1 H6 s6 hq=>⟨O3,λp hp=>by
   have s7:=A7 hp (.tup [.str "frame",.ref q1])
   rw[sub_zero,take_length]at hq
   exact q p q1 _ (s4.trans (s5.trans (s6.trans s7))) A5 (hq.mono (B8 s7))⟩⟩
 refine⟨_,rfl,_,rfl,_,rfl,fr,k,at_,sl,st,r,rfl,hF1, ?_⟩
 rcases hv with⟨v',hr2,rfl⟩|⟨hr2,rfl⟩|⟨j,hr2,hj⟩
 ·exact .inl ⟨v',s4 _ _ hr2,BZ,λt5 ht5=>fin t5 _ (A7 ht5 _) A5⟩
 ·exact .inr (.inl ⟨s4 _ _ hr2,BZ,λt5 ht5=>fin t5 _ (A7 ht5 _) A5⟩)
 ·exact .inr (.inr ⟨j,v,s4 _ _ hr2,hj,BZ,λt5 ht5=>fin t5 _ (A7 ht5 _) A5⟩)
end
end CL
namespace SW
open PySem L2 BV CL
inductive Vl where
 |sc (v:V)|cell (k:Nat)
inductive Cl where
 |pair (a b:Vl)|fn (n:Int) (vs:List Vl)
noncomputable def scV:V->Bool
 | .int _=>true
 | .bl _=>true
 | .non=>true
 |_=>false
theorem cgZ{v:V}(h:scV v=true):KI v=true:=by cases v<;>first|rfl|(cases h;done)
noncomputable def VAt(H:Hp):Vl->V->Prop
 | .sc x,v=>v=x/\scV x=true
 | .cell k,v=>∃p:Addr,v=.ref p/\H p=some (.tup [.str "cell",.int (k:Nat)])
noncomputable def vin:Cl->List Vl
 | .pair a b=> [a,b]
 | .fn _ vs=>vs
noncomputable def ClAt(H:Hp):Cl->V->Prop
 | .pair a b,u=>∃(p:Addr) (x y:V),u=.ref p/\H p=some (.tup [.str "pair",x,y])/\VAt H a x/\VAt H b y
 | .fn n vs,u=>∃(p q:Addr) (xs:List V),u=.ref p/\H p=some (.tup [.str "fn",.int n,.ref q])/\H q=some (.tup xs)/\All2 (VAt H) vs xs/\vs.length<=10
theorem VAt.mo{H H':Hp}(m:Mo H H'):∀ {x:Vl} {v:V},VAt H x v->VAt H' x v
 | .sc _,_,h=>h
 | .cell _,_,⟨p,e,h⟩=>⟨p,e,m _ _ h⟩
theorem ClAt.mo{H H':Hp}(m:Mo H H'):∀ {c:Cl} {u:V},ClAt H c u->ClAt H' c u
 | .pair _ _,_,⟨p,x,y,e,h,h1,h2⟩=>⟨p,x,y,e,m _ _ h,h1.mo m,h2.mo m⟩
 | .fn _ _,_,⟨p,q,xs,e,h,h1,h2,h3⟩=>⟨p,q,xs,e,m _ _ h,m _ _ h1,h2.imp λ_ _ z=>VAt.mo m z,h3⟩
noncomputable def Okc(cs:List Cl):Prop:=∀(k j:Nat) (c:Cl),cs[k]? =some c->Vl.cell j∈vin c->j<cs.length
noncomputable def Okv(n:Nat)(vs:List Vl):Prop:=∀j,Vl.cell j∈vs->j<n
inductive Rc (cs:List Cl) (vs:List Vl):Nat->Prop where
 |root {k:Nat}:Vl.cell k∈vs->Rc cs vs k
 |step {k j:Nat} {c:Cl}:Rc cs vs k->cs[k]? =some c->Vl.cell j∈vin c->Rc cs vs j
theorem Rc.lt{cs:List Cl}{vs:List Vl}(h:Okc cs)(hv:Okv cs.length vs){k:Nat}(r:Rc cs vs k):k<cs.length:=by
 cases r with
 |root h=>exact hv _ h
 |step _ hc hj=>exact h _ _ _ hc hj
structure Wlk (cs:List Cl) (vs:List Vl) (F:List Nat) (W:List Vl):Prop where
 f:∀k∈F,Rc cs vs k
 w:∀k,Vl.cell k∈W->Rc cs vs k
 r:∀k,Vl.cell k∈vs->k∈F\/Vl.cell k∈W
 c:∀k c j,k∈F->cs[k]? =some c->Vl.cell j∈vin c->j∈F\/Vl.cell j∈W
 nd:F.Nodup
theorem Wlk.start(cs:List Cl)(vs:List Vl):Wlk cs vs [] vs:=
 ⟨λ_ h=>(by cases h),λ_ h=> .root h,λ_ h=> .inr h,λ_ _ _ h=>(by cases h),List.nodup_nil⟩
theorem QL:∀ {l:List Nat} {k:Nat},l.Nodup->k∉l->(l++ [k]).Nodup
 | [],k,_,_=>nodup_cons.mpr ⟨by simp,List.nodup_nil⟩
 |x::r,k,h,hk=>by
  rw[nodup_cons]at h
  rw[List.cons_append,nodup_cons]
  refine⟨λz=> ?_,QL h.2 λz=>hk (mem_cons_of_mem _ z)⟩
  rcases mem_append.mp z with z|z
  ·exact h.1 z
  ·rw[mem_singleton]at z
   exact hk (by rw[z];exact mem_cons_self ..)
theorem S8{α:Type}{x y:α}{xs:List α}(h:y∈xs++ [x]):y=x\/y∈xs:=by
 rcases mem_append.mp h with h|h
 ·exact .inr h
 ·exact .inl (sZ h)
theorem Wlk.drop{cs:List Cl}{vs W:List Vl}{F:List Nat}{x:Vl}(h:Wlk cs vs F (W++ [x]))(hx:∀k,x=.cell k->k∈F):Wlk cs vs F W where
 f:=h.f
 w:=λk hk=>h.w k (mem_append_left _ hk)
 r:=λk hk=>by
  rcases h.r k hk with h1|h1
  ·exact .inl h1
  ·rcases S8 h1 with h2|h2
   ·exact .inl (hx k h2.symm)
   ·exact .inr h2
 c:=λk c j hk hc hj=>by
  rcases h.c k c j hk hc hj with h1|h1
  ·exact .inl h1
  ·rcases S8 h1 with h2|h2
   ·exact .inl (hx j h2.symm)
   ·exact .inr h2
 nd:=h.nd
theorem Wlk.add{cs:List Cl}{vs W:List Vl}{F:List Nat}{k:Nat}{c:Cl}(h:Wlk cs vs F (W++ [.cell k]))(hk:k∉F)(hc:cs[k]? =some c):Wlk cs vs (F++ [k]) (W++vin c):=by
 have hR:=h.w k (mem_append_right _ (mem_singleton.mpr rfl))
 refine⟨λj hj=> ?_,λj hj=> ?_,λj hj=> ?_,λi c' j hi hc' hj=> ?_, ?_⟩
 ·rcases S8 hj with rfl|hj
  ·exact hR
  ·exact h.f j hj
 ·rcases mem_append.mp hj with hj|hj
  ·exact h.w j (mem_append_left _ hj)
  ·exact .step hR hc hj
 ·rcases h.r j hj with h1|h1
  ·exact .inl (mem_append_left _ h1)
  ·rcases S8 h1 with h2|h2
   ·have:j=k:=by injection h2
    exact .inl (by rw[this];exact mem_append_right _ (mem_singleton.mpr rfl))
   ·exact .inr (mem_append_left _ h2)
 ·rcases S8 hi with rfl|hi
  ·rw[hc]at hc'
   cases hc'
   exact .inr (mem_append_right _ hj)
  ·rcases h.c i c' j hi hc' hj with h1|h1
   ·exact .inl (mem_append_left _ h1)
   ·rcases S8 h1 with h2|h2
    ·have:j=k:=by injection h2
     exact .inl (by rw[this];exact mem_append_right _ (mem_singleton.mpr rfl))
    ·exact .inr (mem_append_left _ h2)
 ·exact QL h.nd hk
theorem Wlk.done{cs:List Cl}{vs:List Vl}{F:List Nat}(h:Wlk cs vs F [])(k:Nat):k∈F↔Rc cs vs k:=by
 refine⟨h.f k,λr=> ?_⟩
 induction r with
 |root hk=>
  rcases h.r _ hk with h1|h1
  ·exact h1
  ·cases h1
 |step _ hc hj ih=>
  rcases h.c _ _ _ ih hc hj with h1|h1
  ·exact h1
  ·cases h1
structure Kept (cs:List Cl) (vs:List Vl) (ks:List Nat):Prop where
 up:List.Pairwise (·<·) ks
 is:∀k,k∈ks↔Rc cs vs k
noncomputable def mv(ks:List Nat):Vl->Vl
 | .sc v=> .sc v
 | .cell k=> .cell (ks.idxOf k)
noncomputable def mvc(ks:List Nat):Cl->Cl
 | .pair a b=> .pair (mv ks a) (mv ks b)
 | .fn n vs=> .fn n (vs.map (mv ks))
theorem aQZ(ks:List Nat)(c:Cl):vin (mvc ks c)=(vin c).map (mv ks):=by cases c<;>rfl
end SW
namespace SW
open PySem L2 BV CL
seal PE PT PW PA PS PSs PTs PI PG PGs PO
noncomputable abbrev s_is_cell:Stmt:=CL.top 5
noncomputable abbrev s_values_in:Stmt:=CL.top 12
noncomputable abbrev s_moved:Stmt:=CL.top 14
noncomputable abbrev s_moved_cell:Stmt:=CL.top 13
noncomputable abbrev CY:List Str:=["value"]
theorem sc_is_cell:FnScope CY HN (B4 s_is_cell):=fS
noncomputable abbrev NI:List Str:=["cell"]
theorem KH:FnScope NI ["cell"] (B4 s_values_in):=fS
noncomputable abbrev TC:List Str:=["values","new_numbers"]
theorem YA:FnScope TC bfZ (B4 s_moved):=fS
noncomputable abbrev LL:List Str:=["cell","new_numbers","values"]
theorem sc_moved_cell:FnScope LL cCZ (B4 s_moved_cell):=fS
structure NoG2 (mg:Str->Option Value):Prop where
 sorted_:mg "sorted"=none
noncomputable def isC:Vl->Bool
 | .cell _=>true
 |_=>false
section
variable{P:Program}{w:World}{K:FZ}{mg:Str->Option Value}{base:Heap}{f:Addr}{fd:FuncData}{C:Addr}{mf:Str->Addr}{md:Str->FuncData}{CB Y3 JB BC:Addr}{CG Y4 JU BE:FuncData}
inductive spIsCellW(vs:List V)(H:Hp)(Q:VK):Prop
 |mk:∀(x:Vl) (v:V),(vs=[v])->(VAt H x v)->(Q (.bl (isC x)) H)->spIsCellW vs H Q
noncomputable def GD:Sp:=λvs H Q _=>spIsCellW vs H Q
theorem ok_is_cell(F:Fun K "is_cell" "is_cell" s_is_cell f fd)(B:NoG mg):FnOk P w K mg base CX0 1 f fd HN GD:=by
 refine F.ok sc_is_cell (λvs H Q E h=> ?_) (λcdv A outer s H vs Q E hr h=> ?_)
 ·obtain⟨x,v,rfl,_⟩:=h
  rfl
 obtain⟨x,v,rfl,hx,q⟩:=h
 refine⟨_,(B0 (C2 (C4 (X0 (K:=K)) rfl B.isinstance_ E5 (A0 (pv 0) (A0 (M5 (v:=.ty "tuple") rfl B.tuple_ N7 rfl) A6))))), ?_⟩
 cases x with
 |cell k=>
  obtain⟨p,rfl,hp⟩:=hx
  exact⟨_,rfl,_,_,_,_,rfl,.tup hp,PY,q⟩
 |sc x=>
  obtain⟨rfl,hs⟩:=hx
  cases v with
  |int n=>exact⟨_,rfl,_,_,_,_,rfl,.int _,by rfl,q⟩
  |bl b=>exact⟨_,rfl,_,_,_,_,rfl,.bl _,by rfl,q⟩
  |non=>exact⟨_,rfl,_,_,_,_,rfl,.non,by rfl,q⟩
  |_=>cases hs
inductive spValuesInW (vs:List V) (H:Hp) (Q:VK):Prop
 |mk:∀(c:Cl) (u:V),(vs=[u])->(ClAt H c u)->(∀q xs H',Same H H'->H' q=some (.tup xs)->All2 (VAt H') (vin c) xs->Q (.ref q) H')->spValuesInW vs H Q
noncomputable def BA:Sp:=λvs H Q _=>spValuesInW vs H Q
theorem ok_values_in(F:Fun K "values_in" "values_in" s_values_in f fd):FnOk P w K mg base CX0 1 f fd ["cell"] BA:=by
 refine F.ok KH (λvs H Q E h=> ?_) (λcdv A outer s H vs Q E hr h=> ?_)
 ·obtain⟨c,u,rfl,_⟩:=h
  rfl
 obtain⟨c,u,rfl,hc,q⟩:=h
 have hu:=hr.units0
 refine⟨_,(B0 (C2 (P0 (B9 (kEq (K:=K) hu) (ixE K w (pv 0) A9) B1 rfl) (ixE K w (pv 0) A9) (G4 (AG (K:=K)) (pv 0) (G6 A9) M4)))), ?_⟩
 cases c with
 |pair a b=>
  obtain⟨p,x,y,rfl,hp,h1,h2⟩:=hc
  refine⟨_,rfl,(ixT hp rfl (.inl ⟨rfl,_,rfl,ifF (by decide +kernel) ?_⟩))⟩
  refine⟨_,rfl,_,rfl,.inl (.inr ⟨p,_,rfl,SqT.of hp,by rintro⟨z,_⟩;revert z;show HT.sIx 3 0 (some ((1:Nat):Int))=0->False;rw[HT.sIx_nat];decide,λt ht=> ?_⟩)⟩
  have s1:=A7 ht (.tup [x,y])
  exact q t [x,y] _ s1 A5 (.cons (h1.mo (B8 s1)) (.cons (h2.mo (B8 s1)) .nil))
 |fn n vs=>
  obtain⟨p,r,xs,rfl,hp,hr2,h1,_⟩:=hc
  refine⟨_,rfl,(ixT hp rfl (.inl ⟨rfl,_,rfl,ifT (by decide +kernel) ?_⟩))⟩
  exact⟨_,rfl,(ixT hp rfl (q r xs H (Same.refl _) hr2 h1))⟩
noncomputable def NN(ks:List Nat)(kvs:List (Key×V)):Prop:=∀k,k∈ks->P2 kvs (.inl (k:Int))=some (.int (ks.idxOf k:Nat))
inductive spMovedW (vs:List V) (H:Hp) (Q:VK):Prop
 |mk:∀(a d:Addr) (xs:List V) (ws:List Vl) (ks:List Nat) (kvs:List (Key×V)),(vs=[.ref a,.ref d])->((H a=some (.lst xs)\/H a=some (.tup xs)))->(All2 (VAt H) ws xs)->(xs.length<=1000)->(H d=some (.dK kvs))->(NN ks kvs)->((∀k,Vl.cell k∈ws->k∈ks))->(∀l ys H',Same H H'->H l=none->H' l=some (.lst ys)->All2 (VAt H') (ws.map (mv ks)) ys->Q (.ref l) H')->spMovedW vs H Q
noncomputable def LN:Sp:=λvs H Q _=>spMovedW vs H Q
theorem ok_moved(F:Fun K "moved" "moved" s_moved f fd)
  (L3:Cn P w K mg base CX0 1 "is_cell" HN GD):
  FnOk P w K mg base CX0 2 f fd bfZ LN:=by
 obtain⟨CB,CG,L3,Q0,P3,P4⟩:=L3
 refine F.ok YA (λvs H Q E h=> ?_) (λcdv A outer s H vs Q E hr h=> ?_)
 ·obtain⟨a,d,xs,ws,ks,kvs,rfl,_⟩:=h
  rfl
 obtain⟨a,d,xs,ws,ks,kvs,rfl,ha,hA,hn,hd,hN,hin,q⟩:=h
 have zz:(4000:Nat)<=sizeLine:=by decide
 have hlen:=hA.len
 refine⟨_,(B0 (C2 (KM (cS (N:=TC) (sc:=B4 s_moved) (caps:=[1]) (ns:=["new_numbers"])) rfl rfl rfl (caZ (K:=K) (pv 0)) (λ_ _ _ _ _=>AF) (λ_ _ _ _ _=>(P0 (M3 (K:=K) (B6 L3 (hr.mono (by omega)) rfl P4 P3 Q0 .nil C0 (A0 (pv 0) A6)) (λ_=>rfl)) (C1 (A0 B1 (A0 (C9 (lt_of_le_of_lt (add_le_add_left (by decide:1<=64) _) hr.units) (pv 1) (ixE K w (pv 0) A9) (λ_ _=>rfl)) A6))) (pv 0)))))), ?_⟩
 have step:∀(i:Nat) (x:V) (zs:List V) (H1:Hp),xs[i]? =some x->(zs.length=i/\Same H H1/\All2 (VAt H1) ((ws.take i).map (mv ks)) zs)->∃x',ws[i]? =some x'/\VAt H1 x' x/\∀H2 y,Same H1 H2->VAt H2 (mv ks x') y->((zs++ [y]).length=i+1/\Same H H2/\All2 (VAt H2) ((ws.take (i+1)).map (mv ks)) (zs++ [y])):=by
  rintro i x zs H1 hx ⟨rfl,s1,hz⟩
  obtain⟨x',hx',hv⟩:=hA.get hx
  refine⟨x',hx',hv.mo (B8 s1),λH2 y s2 hy=>⟨by rw[length_append];rfl,s1.trans s2, ?_⟩⟩
  rw[take_succ,hx',map_append]
  exact(hz.imp λ_ _ z=>VAt.mo (B8 s2) z).app (.cons hy .nil)
 have fin:∀zs H1,(zs.length=xs.length/\Same H H1/\All2 (VAt H1) ((ws.take xs.length).map (mv ks)) zs)->∀D,H1 D=none->Q (.ref D) (upd H1 D (.lst zs)):=by
  rintro zs H1 ⟨_,s1,hz⟩ D hD
  have sD:=A7 hD (.lst zs)
  rw[<-hlen,take_length]at hz
  exact q D zs _ (s1.trans sD) (s1.free hD) A5 (hz.imp λ_ _ z=>VAt.mo (B8 sD) z)
 rcases ha with ha|ha
 ·refine⟨_,rfl,.inl ⟨a,rfl,⟨_,SqL.of ha⟩,IB (xs:=xs) (λi zs H1=>zs.length=i/\Same H H1/\All2 (VAt H1) ((ws.take i).map (mv ks)) zs) ⟨rfl,Same.refl _,.nil⟩ ?_ ?_ fin⟩⟩
  ·rintro i zs H1 hi ⟨rfl,s1,_⟩
   exact⟨SqL.of (s1 _ _ ha),by omega⟩
  ·rintro i x zs H1 hx hP
   obtain⟨x',hx',hv,go⟩:=step i x zs H1 hx hP
   have hd1:=hP.2.1 _ _ hd
   refine GC ⟨_,rfl,x',x,rfl,hv,isC x',rfl, ?_⟩
   cases x' with
   |sc v=>exact ifF nZ ⟨_,rfl,go H1 x (Same.refl _) hv⟩
   |cell k=>
    obtain⟨p,rfl,hp⟩:=hv
    have hk:=hN k (hin k (mem_of_getElem? hx'))
    refine ifT rfl ⟨_,rfl,_,rfl,(ixT hp rfl ⟨d,_,rfl,.inl ⟨kvs,.inl (k:Int),.inl hd1,rfl,hk.symm⟩,O3,λt ht=> ?_⟩)⟩
    exact go _ (.ref t) (A7 ht _) ⟨t,rfl,A5⟩
 ·refine⟨_,rfl,.inr ⟨a,rfl,⟨_,SqT.of ha⟩,YO (xs:=xs) (λi zs H1=>zs.length=i/\Same H H1/\All2 (VAt H1) ((ws.take i).map (mv ks)) zs) ⟨rfl,Same.refl _,.nil⟩ ?_ ?_ fin⟩⟩
  ·rintro i zs H1 hi ⟨rfl,s1,_⟩
   exact⟨SqT.of (s1 _ _ ha),by omega⟩
  ·rintro i x zs H1 hx hP
   obtain⟨x',hx',hv,go⟩:=step i x zs H1 hx hP
   have hd1:=hP.2.1 _ _ hd
   refine GC ⟨_,rfl,x',x,rfl,hv,isC x',rfl, ?_⟩
   cases x' with
   |sc v=>exact ifF nZ ⟨_,rfl,go H1 x (Same.refl _) hv⟩
   |cell k=>
    obtain⟨p,rfl,hp⟩:=hv
    have hk:=hN k (hin k (mem_of_getElem? hx'))
    refine ifT rfl ⟨_,rfl,_,rfl,(ixT hp rfl ⟨d,_,rfl,.inl ⟨kvs,.inl (k:Int),.inl hd1,rfl,hk.symm⟩,O3,λt ht=> ?_⟩)⟩
    exact go _ (.ref t) (A7 ht _) ⟨t,rfl,A5⟩
inductive spMovedCellW (vs:List V) (H:Hp) (Q:VK):Prop
 |mk:∀(u:V) (d:Addr) (c:Cl) (ks:List Nat) (kvs:List (Key×V)),(vs=[u,.ref d])->(ClAt H c u)->(H d=some (.dK kvs))->(NN ks kvs)->((∀k,Vl.cell k∈vin c->k∈ks))->(∀u' H',Same H H'->ClAt H' (mvc ks c) u'->Q u' H')->spMovedCellW vs H Q
noncomputable def DL:Sp:=λvs H Q _=>spMovedCellW vs H Q
theorem ok_moved_cell(F:Fun K "moved_cell" "moved_cell" s_moved_cell f fd)(B:NoG mg)
  (M6:Cn P w K mg base CX0 1 "values_in" ["cell"] BA)
  (V3:Cn P w K mg base CX0 2 "moved" bfZ LN):
  FnOk P w K mg base CX0 3 f fd cCZ DL:=by
 obtain⟨Y3,Y4,M6,X9,X6,Y2⟩:=M6
 obtain⟨JB,JU,V3,JF,IY,JT⟩:=V3
 refine F.ok sc_moved_cell (λvs H Q E h=> ?_) (λcdv A outer s H vs Q E hr h=> ?_)
 ·obtain⟨u,d,c,ks,kvs,rfl,_⟩:=h
  rfl
 obtain⟨u,d,c,ks,kvs,rfl,hc,hd,hN,hin,q⟩:=h
 have nd:=sc_moved_cell.nd
 have hu:=hr.units0
 have zz:(4000:Nat)<=sizeLine:=by decide
 have hl10:(vin c).length<=10:=by
  cases c with
  |pair a b=>show 2<=10;decide
  |fn n vs=>obtain⟨_,_,_,_,_,_,_,h⟩:=hc;exact h
 refine⟨_,(A8 (C7 (i:=2) nd rfl (Or.inl rfl) (G3 (BQ (K:=K)) rfl B.tuple_ N7 (A0 (B6 V3 (hr.mono (by omega)) rfl JT IY JF .nil C0 (A0 (B6 M6 (hr.mono (by omega)) rfl Y2 X6 X9 .nil C0 (A0 (pv 0) A6)) (A0 (pv 1) A6))) A6)))
   (A8 (D8 (B9 (kEq (K:=K) hu) (ixE K w (pv 0) A9) B1 rfl) (B0 (C2 (C1 (A0 B1 (A0 (ixE K w (pv 0) A9) (A0 (pv 2) A6)))))) D2)
   (B0 (C2 (B7 (N4 (K:=K)) (C1 (A0 B1 A6)) (pv 2)))))), ?_⟩
 refine⟨_,rfl,c,u,rfl,hc,λr xs H1 s1 hr1 hA=>⟨_,rfl,r,d,xs,vin c,ks,kvs,rfl,.inr hr1,hA,by have:=hA.len;omega,s1 _ _ hd,hN,hin,λl ys H2 s2 hl hl2 hA2=>⟨l,ys,rfl,.inl ⟨SqL.of hl2,λt ht=> ?_⟩⟩⟩⟩
 have s3:=s1.trans (s2.trans (A7 ht (.tup ys)))
 have ht3:upd H2 t (.tup ys) t=some (.tup ys):=A5
 have hA3:=hA2.imp λ_ _ z=>VAt.mo (B8 (A7 ht (.tup ys))) z
 generalize upd H2 t (.tup ys)=H3 at s3 ht3 hA3⊢
 have hc3:ClAt H3 c u:=hc.mo (B8 s3)
 cases c with
 |pair a b=>
  obtain⟨p,x,y,rfl,hp,h1,h2⟩:=hc3
  refine⟨_,rfl,(ixT hp rfl (.inl ⟨rfl,_,rfl,ifF (by decide +kernel) ?_⟩))⟩
  refine⟨BZ,λo ho=>⟨_,rfl, ?_⟩⟩
  have so:=A7 ho (.tup [.str "pair"])
  have hA4:=hA3.imp λ_ _ z=>VAt.mo (B8 so) z
  cases hA4 with
  |cons ha hA4=>
   cases hA4 with
   |cons hb hA4=>
    cases hA4
    refine .inr (.inr (.inl ⟨o,t,[.str "pair"],_,rfl,rfl,SqT.of A5,SqT.of (so _ _ ht3),(by intro z;cases z),(by show 3<=sizeLine;decide),(λz=>by cases z),λ_ p' hp'=> ?_⟩))
    exact q (.ref p') _ (s3.trans (so.trans (A7 hp' _))) ⟨p',_,_,rfl,A5,ha.mo (B8 (A7 hp' _)),hb.mo (B8 (A7 hp' _))⟩
 |fn n vs=>
  obtain⟨p,r',xs',rfl,hp,hr2,h1,h10⟩:=hc3
  refine⟨_,rfl,(ixT hp rfl (.inl ⟨rfl,_,rfl,ifT (by decide +kernel) ?_⟩))⟩
  refine⟨_,rfl,(ixT hp rfl ⟨_,rfl,RH,λp' hp'=> ?_⟩)⟩
  have sp:=A7 hp' (.tup [.str "fn",.int n,.ref t])
  exact q (.ref p') _ (s3.trans sp) ⟨p',t,ys,rfl,A5,sp _ _ ht3,hA3.imp λ_ _ z=>VAt.mo (B8 sp) z,by rw[length_map];exact h10⟩
end
noncomputable abbrev s_numbers_led_to:Stmt:=CL.top 11
noncomputable abbrev CW:List Str:=["cells","values","found","waiting","value"]
theorem sc_numbers_led_to:FnScope CW VI (B4 s_numbers_led_to):=fS
theorem CO:∀(n:Nat) (F:List Nat),F.Nodup->(∀k∈F,k<n)->F.length<=n
 |0,F,_,h=>by
  cases F with
  |nil=>exact le_refl _
  |cons x r=>exact absurd (h x (mem_cons_self ..)) (Nat.not_lt_zero _)
 |n+1,F,nd,h=>by
  by_cases c:n∈F
  ·have:=CO n (F.erase n) (nd.erase n) λk hk=>by
    have h1:=(nd.mem_erase_iff).mp hk
    have:=h k h1.2
    have:=h1.1
    omega
   rw[List.length_erase_of_mem c]at this
   omega
  ·have:=CO n F nd λk hk=>by
    have h1:=h k hk
    have:k≠n:=λe=>c (e▸hk)
    omega
   omega
theorem VH{R:Vl->V->Prop}{W:List Vl}{x:Vl}{ys:List V}(h:All2 R (W++ [x]) ys):∃ys' y,ys=ys'++ [y]/\All2 R W ys'/\R x y:=by
 induction W generalizing ys with
 |nil=>
  cases h with
  |cons h t=>
   cases t
   exact⟨[],_,rfl,.nil,h⟩
 |cons w W ih=>
  cases h with
  |cons h t=>
   obtain⟨ys',y,rfl,h1,h2⟩:=ih t
   exact⟨_::ys',y,rfl,.cons h h1,h2⟩
theorem upd_at{H:Hp}{a b:Addr}{o o':HO}(h:H b=some o)(n:b≠a):upd H a o' b=some o:=by rw[B5 n];exact h
noncomputable def S7(F:List Nat):List Key:=F.map λ(k:Nat)=>(Sum.inl (k:Int):Key)
theorem YJ{F:List Nat}{k:Nat}:(Sum.inl (k:Int):Key)∈S7 F↔k∈F:=by
 unfold S7
 constructor
 ·intro h
  obtain⟨j,hj,e⟩:=mem_map.mp h
  have:(j:Int)=(k:Int):=Sum.inl.inj e
  have:j=k:=by omega
  subst this;exact hj
 ·exact λh=>mem_map.mpr ⟨k,h,rfl⟩
theorem KW{kvs:List (Key×V)}{F:List Nat}(h:kvs.map (·.1)=S7 F)(k:Nat):(P2 kvs (.inl (k:Int))).isSome=decide (k∈F):=by
 rw[<-U7,Bool.eq_iff_iff,List.any_eq_true,decide_eq_true_iff,<-YJ,<-h]
 constructor
 ·rintro⟨kv,h1,h2⟩
  have e:kv.1=.inl (k:Int):=of_decide_eq_true h2
  exact mem_map.mpr ⟨kv,h1,e⟩
 ·intro h1
  obtain⟨kv,h2,e⟩:=mem_map.mp h1
  exact⟨kv,h2,decide_eq_true e⟩
section
variable{P:Program}{w:World}{K:FZ}{mg:Str->Option Value}{base:Heap}{f:Addr}{fd:FuncData}{C:Addr}{mf:Str->Addr}{md:Str->FuncData}{CB Y3:Addr}{CG Y4:FuncData}
noncomputable def iv(xs:List Nat):List V:=xs.map λi=>V.int (i:Nat)
noncomputable def stN(o v d wl:Addr)(a:Option V):St:=[some (.ref o),some (.ref v),some (.ref d),some (.ref wl),a]
noncomputable def Few(cs:List Cl)(ws:List Vl):Prop:=∀ks:List Nat,ks.Nodup->(∀k∈ks,Rc cs ws k)->ks.length<=63
inductive spLedW (C:Addr) (vs:List V) (H:Hp) (Q:VK):Prop
 |mk:∀(o L v:Addr) (us xs:List V) (cs:List Cl) (ws:List Vl),(vs=[.ref o,.ref v])->(CAt C H o L us)->(All2 (ClAt H) cs us)->(H v=some (.lst xs))->(All2 (VAt H) ws xs)->(Okc cs)->(Okv cs.length ws)->(Few cs ws)->(xs.length<=1000)->(∀l ks H',Same H H'->H l=none->H' l=some (.lst (iv ks))->Kept cs ws ks->Q (.ref l) H')->spLedW C vs H Q
noncomputable def bmZ(C:Addr):Sp:=λvs H Q _=>spLedW C vs H Q
theorem ok_numbers_led_to(F:Fun K "numbers_led_to" "numbers_led_to" s_numbers_led_to f fd)(B:NoG mg)(B2:NoG2 mg)(RC:RCls K C mf md)
  (EQ:FnOk P w K mg base CX0 1 (mf "at") (md "at") EI (UH C))
  (L3:Cn P w K mg base CX0 1 "is_cell" HN GD)
  (M6:Cn P w K mg base CX0 1 "values_in" ["cell"] BA):
  FnOk P w K mg base CX0 2 f fd VI (bmZ C):=by
 obtain⟨CB,CG,L3,Q0,P3,P4⟩:=L3
 obtain⟨Y3,Y4,M6,X9,X6,Y2⟩:=M6
 refine F.ok sc_numbers_led_to (λvs H Q E h=> ?_) (λcdv A outer s H vs Q E hr h=> ?_)
 ·obtain⟨o,L,v,us,xs,cs,ws,rfl,_⟩:=h
  rfl
 obtain⟨o,L,v,us,xs,cs,ws,rfl,hC,hU,hv,hX,hO,hV,hn,hx,q⟩:=h
 have nd:=sc_numbers_led_to.nd
 have hu:=hr.units0
 have zz:(4000:Nat)<=sizeLine:=by decide
 obtain⟨dx,ho,hL⟩:=id hC
 refine⟨_,(A8 (C7 (i:=2) nd rfl (Or.inl rfl) NQ)
   (A8 (C7 (i:=3) nd rfl (Or.inl rfl) (G3 (W0 (K:=K)) rfl B.list_ N2 (A0 (pv 1) A6)))
   (A8 (E1 (Z0 PassesOwn.never (M3 (K:=K) (pv 3) (λ_=>rfl)) (A8 (C7 (i:=4) nd rfl (Or.inl rfl) (IL (K:=K) PySem.F.plainAttrs_list PySem.F.slot_list_pop PySem.F.type_list_pop DA (pv 3)))
   (B0 (E1 (D8 (PW.pt (ET (M3 (K:=K) (B6 L3 (hr.mono (by omega)) rfl P4 P3 Q0 .nil C0 (A0 (pv 4) A6)) (λ_=>rfl)) (BH (B9 (aKZ hr.units) (ixE K w (pv 4) A9) (pv 2) rfl)))) (A8 (Q3 DP (U3 (pv 2) (ixE K w (pv 4) A9) (FG hr.units)))
   (B0 (C3 (M1 (K:=K) PySem.F.plainAttrs_list PySem.F.slot_list_extend PySem.F.type_list_extend (IQ (K:=K)) (pv 3) (A0 (B6 M6 (hr.mono (by omega)) rfl Y2 X6 X9 .nil C0 (A0 (L0 (pv 0) RC.cl RC.m_at EQ (hr.mono (by omega)) RC.b_at .nil C0 (A0 (pv 4) A6)) A6)) A6))))) D2))))))
   (B0 (C2 (C4 (UI rfl) rfl B2.sorted_ UO (A0 (pv 2) A6))))))), ?_⟩
 refine λd hd=>⟨_,rfl,v,xs,rfl,.inl (SqL.of ((A7 hd _) _ _ hv)),λwl hwl=> ?_⟩
 have sd:=A7 hd (.dK [])
 have s1:=sd.trans (A7 hwl (.lst xs))
 have hd1:upd (upd H d (.dK [])) wl (.lst xs) d=some (.dK []):=(A7 hwl (.lst xs)) _ _ A5
 have hw1:upd (upd H d (.dK [])) wl (.lst xs) wl=some (.lst xs):=A5
 have hwH:H wl=none:=sd.free hwl
 have ndw:d≠wl:=IX hd1 hw1 (by intro z;cases z)
 generalize upd (upd H d (.dK [])) wl (.lst xs)=H1 at s1 hd1 hw1⊢
 have wd':∀(Hx:Hp) (o:HO),Same H Hx->Same H (upd Hx d o):=λHx o a x u h=>by rw[B5 (λe=>by subst e;rw[hd]at h;cases h)];exact a _ _ h
 have ww:∀(Hx:Hp) (o:HO),Same H Hx->Same H (upd Hx wl o):=λHx o a x u h=>by rw[B5 (λe=>by subst e;rw[hwH]at h;cases h)];exact a _ _ h
 refine⟨fun σ H'=>∃a F kvs,σ=stN o v d wl a/\Same H H'/\H' d=some (.dK kvs)/\kvs.map (·.1)=S7 F/\Wlk cs ws F [], ?_, ?_⟩
 ·refine⟨λm σ H'=>∃a F kvs W ys,σ=stN o v d wl a/\Same H H'/\H' d=some (.dK kvs)/\kvs.map (·.1)=S7 F/\H' wl=some (.lst ys)/\All2 (VAt H') W ys/\Wlk cs ws F W/\m=(cs.length - F.length)*11+W.length/\W.length<=1000+10*F.length, ?_, ?_⟩
  ·refine⟨_,none,[],[],ws,xs,rfl,s1,hd1,rfl,hw1,hX.imp λ_ _ z=>VAt.mo (B8 s1) z,Wlk.start cs ws,rfl, ?_⟩
   have:=hX.len
   show ws.length<=1000+0
   omega
  rintro m σ H' ⟨a,F,kvs,W,ys,rfl,s',hd',hkv,hw',hA,hWk,rfl,hWl⟩
  have hFn:=CO cs.length F hWk.nd λk hk=>(hWk.f k hk).lt hO hV
  have hF63:=hn F hWk.nd hWk.f
  have hkl:kvs.length=F.length:=by
   have:=congrArg List.length hkv
   unfold S7 at this
   simpa using this
  rcases List.eq_nil_or_concat W with hW|⟨W',x,hW⟩
  ·subst hW
   cases hA
   exact⟨_,rfl,false,.inl ⟨[],SqL.of hw',rfl⟩,ifF nZ ⟨_,F,kvs,rfl,s',hd',hkv,hWk⟩⟩
  ·rw[List.concat_eq_append]at hW
   subst hW
   obtain⟨ys',y,rfl,hA',hxy⟩:=VH hA
   have hlW:(W'++ [x]).length=W'.length+1:=by rw[length_append];rfl
   rw[hlW]at hWl⊢
   refine⟨_,rfl,true,.inl ⟨ys'++ [y],SqL.of hw',by simp⟩,ifT rfl ?_⟩
   refine⟨fun σ H2=>∃m',m'<(cs.length - F.length)*11+(W'.length+1)/\∃a F kvs W ys,σ=stN o v d wl a/\Same H H2/\H2 d=some (.dK kvs)/\kvs.map (·.1)=S7 F/\H2 wl=some (.lst ys)/\All2 (VAt H2) W ys/\Wlk cs ws F W/\m'=(cs.length - F.length)*11+W.length/\W.length<=1000+10*F.length,λ_ _ h=>h, ?_⟩
   refine⟨_,rfl,.inl ⟨rfl,_,SqL.of hw'⟩,wl,_,y,rfl,rfl,hw',by simp, ?_⟩
   rw[List.dropLast_concat]
   have s2:=ww H' (.lst ys') s'
   have hd2:=upd_at (o':=.lst ys') hd' ndw
   have hw2:upd H' wl (.lst ys') wl=some (.lst ys'):=A5
   have m2:Mo H' (upd H' wl (.lst ys')):=λb zs e=>upd_at e (IX e hw' (by intro z;cases z))
   have hA2:=hA'.imp λ_ _ z=>VAt.mo m2 z
   have hx2:=VAt.mo m2 hxy
   generalize upd H' wl (.lst ys')=H2 at s2 hd2 hw2 hA2 hx2⊢
   refine⟨_, ?_,λ_ _ h=>h⟩
   refine⟨_,rfl,x,y,rfl,hx2,isC x,rfl, ?_⟩
   have same:(∀k,x=.cell k->k∈F)->∃m',m'<(cs.length - F.length)*11+(W'.length+1)/\∃a F kvs W ys,stN o v d wl (some y)=stN o v d wl a/\Same H H2/\H2 d=some (.dK kvs)/\kvs.map (·.1)=S7 F/\H2 wl=some (.lst ys)/\All2 (VAt H2) W ys/\Wlk cs ws F W/\m'=(cs.length - F.length)*11+W.length/\W.length<=1000+10*F.length:=λhin=>
    ⟨_,lt_succ_self _,some y,F,kvs,W',ys',rfl,s2,hd2,hkv,hw2,hA2,hWk.drop hin,rfl,by omega⟩
   cases x with
   |sc z=>exact ifF nZ (ifF nZ (same λk e=>by cases e))
   |cell k=>
    obtain⟨p,rfl,hp⟩:=hx2
    refine ifT rfl ⟨_,rfl,(ixT hp rfl ⟨_,rfl,d,_,rfl,DGet.k (k:=.inl (k:Int)) hd2,_,rfl, ?_⟩)⟩
    rw[KW hkv]
    by_cases hk:k∈F
    ·rw[decide_eq_true hk]
     exact ifF (by decide) (same λj e=>by cases e;exact hk)
    ·rw[decide_eq_false hk]
     have hkn:k<cs.length:=(hWk.w k (mem_append_right _ (mem_singleton.mpr rfl))).lt hO hV
     have hFlt:F.length<cs.length:=by
      have:=CO cs.length (F++ [k]) (QL hWk.nd hk) λj hj=>by
       rcases S8 hj with rfl|hj
       ·exact hkn
       ·exact(hWk.f j hj).lt hO hV
      rw[length_append]at this
      exact this
     have hvn:P2 kvs (.inl (k:Int))=none:=by
      have:=KW hkv k
      rw[decide_eq_false hk]at this
      cases h:P2 kvs (.inl (k:Int))with
      |none=>rfl
      |some z=>rw[h]at this;cases this
     refine ifT rfl ⟨_,rfl,_,rfl,(ixT hp rfl ⟨d,_,rfl,DPut.k (k:=.inl (k:Int)) hd2 (by omega), ?_⟩)⟩
     rw[FR _ hvn]
     have s3:=wd' H2 (.dK (kvs++ [(.inl (k:Int),.bl true)])) s2
     have hd3:upd H2 d (.dK (kvs++ [(.inl (k:Int),.bl true)])) d=some (.dK (kvs++ [(.inl (k:Int),.bl true)])):=A5
     have hw3:=upd_at (o':=.dK (kvs++ [(.inl (k:Int),.bl true)])) hw2 (Ne.symm ndw)
     have m3:Mo H2 (upd H2 d (.dK (kvs++ [(.inl (k:Int),.bl true)]))):=λb zs e=>upd_at e (IX e hd2 (by intro z;cases z))
     have hA3:=hA2.imp λ_ _ z=>VAt.mo m3 z
     have hp3:=m3 _ _ hp
     generalize upd H2 d (.dK (kvs++ [(.inl (k:Int),.bl true)]))=H3 at s3 hd3 hw3 hA3 hp3⊢
     obtain⟨c,hck⟩:∃c,cs[k]? =some c:=⟨_,List.getElem?_eq_getElem hkn⟩
     obtain⟨u,huk,hcu⟩:=hU.get' hck
     refine⟨_,rfl,.inl ⟨rfl,_,SqL.of hw3⟩,_,rfl,o,dx,_,rfl,s3 _ _ ho,rfl,_,rfl,o,L,us,p,k,u,rfl,hC.same s3,hp3,huk,c,u,rfl,hcu.mo (B8 s3),λr zs H4 s4 hr4 hA4=> ?_⟩
     have hl10:(vin c).length<=10:=by
      cases c with
      |pair a b=>show 2<=10;decide
      |fn n vs=>obtain⟨_,_,_,_,_,_,_,h⟩:=hcu;exact h
     have hzl:=hA4.len
     have hyl:=hA3.len
     refine⟨wl,r,ys',zs,rfl,rfl,s4 _ _ hw3,SqT.of hr4,by omega, ?_⟩
     have m5:Mo H4 (upd H4 wl (.lst (ys'++zs))):=λb zs' e=>upd_at e (IX e (s4 _ _ hw3) (by intro z;cases z))
     refine⟨(cs.length - (F++ [k]).length)*11+(W'++vin c).length, ?_,_,F++ [k],_,W'++vin c,ys'++zs,rfl,ww _ _ (s3.trans s4),upd_at (s4 _ _ hd3) ndw, ?_,A5, ?_,hWk.add hk hck,rfl, ?_⟩
     ·rw[length_append,length_append]
      show(cs.length - (F.length+1))*11+(W'.length+(vin c).length)<_
      omega
     ·rw[map_append,hkv]
      unfold S7
      rw[map_append];rfl
     ·exact((hA3.imp λ_ _ z=>VAt.mo (B8 s4) z).app hA4).imp λ_ _ z=>VAt.mo m5 z
     ·rw[length_append,length_append]
      show W'.length+(vin c).length<=1000+10*(F.length+1)
      omega
 rintro σ H' ⟨a,F,kvs,rfl,s',hd',hkv,hWk⟩
 have hF63:=hn F hWk.nd hWk.f
 refine⟨_,rfl,d,kvs,F.map λ(k:Nat)=>(k:Int),rfl,hd', ?_,by rw[length_map];omega,λl ns' hl hp hs=> ?_⟩
 ·rw[hkv,map_map];rfl
 have hns:ns'=(ns'.map Int.toNat).map λ(k:Nat)=>(k:Int):=by
  rw[map_map]
  conv=>lhs;rw[<-List.map_id ns']
  refine List.map_congr_left λz hz=> ?_
  obtain⟨k,_,e⟩:=mem_map.mp (hp.mem_iff.mp hz)
  show z=((z.toNat:Nat):Int)
  rw[<-e];simp
 have hmem:∀k:Nat,k∈ns'.map Int.toNat↔k∈F:=λk=>by
  constructor
  ·intro hk
   obtain⟨z,hz,e⟩:=mem_map.mp hk
   obtain⟨j,hj,e2⟩:=mem_map.mp (hp.mem_iff.mp hz)
   have:j=k:=by rw[<-e,<-e2];simp
   subst this;exact hj
  ·intro hk
   exact mem_map.mpr ⟨(k:Int),hp.mem_iff.mpr (mem_map.mpr ⟨k,hk,rfl⟩),by simp⟩
 have hl':upd H' l (.lst (ns'.map V.int)) l=some (.lst (iv (ns'.map Int.toNat))):=by
  rw[A5]
  congr 2
  conv=>lhs;rw[hns]
  rw[map_map];rfl
 refine q l (ns'.map Int.toNat) _ (s'.trans (A7 hl _)) (s'.free hl) hl' ⟨?_,λk=>(hmem k).trans (hWk.done k)⟩
 have hnd:(ns'.map Int.toNat).Nodup:=by
  have h1:(F.map λ(k:Nat)=>(k:Int)).Nodup:=by
   refine List.Pairwise.map _ (λa b h=> ?_) hWk.nd
   intro e;apply h;omega
  have h2:ns'.Nodup:=hp.symm.nodup h1
  rw[hns]at h2
  exact List.Pairwise.of_map _ (λa b h e=>h (by rw[e])) h2
 have hle:(ns'.map Int.toNat).Pairwise (·<=·):=List.Pairwise.map _ (λa b h=>Int.toNat_le_toNat h) hs
 exact(hle.and hnd).imp λh=>Nat.lt_of_le_of_ne h.1 h.2
end
noncomputable abbrev s_swept:Stmt:=CL.top 10
noncomputable abbrev aUZ:List Str:=["cells","values","kept","new_numbers","number","kept_cells"]
theorem sc_swept:FnScope aUZ VI (B4 s_swept):=fS
theorem SH{C:Addr}{H:Hp}{o d L:Addr}(ho:H o=none)(hd:H d=none)(hn:d≠o)(hL:upd (upd H d (.own o)) o (.ins C d []) L=none):
  Same H (upd (upd (upd (upd H d (.own o)) o (.ins C d [])) L (.lst [])) o (.ins C d [("in_order",.ref L)]))/\CAt C (upd (upd (upd (upd H d (.own o)) o (.ins C d [])) L (.lst [])) o (.ins C d [("in_order",.ref L)])) o L []/\H L=none:=by
 have hLo:L≠o:=λe=>by subst e;rw[A5]at hL;cases hL
 have hL1:=hL
 rw[B5 hLo]at hL1
 have hLd:L≠d:=λe=>by subst e;rw[A5]at hL1;cases hL1
 rw[B5 hLd]at hL1
 refine⟨λb x hb=> ?_,⟨d,A5, ?_⟩,hL1⟩
 ·rw[B5 (C5 hb ho),B5 (C5 hb hL1),B5 (C5 hb ho),B5 (C5 hb hd)];exact hb
 ·rw[B5 hLo];exact A5
theorem Kept.nd{cs:List Cl}{ws:List Vl}{ks:List Nat}(h:Kept cs ws ks):ks.Nodup:=h.up.imp λh=>ne_of_lt h
theorem FT{ks:List Nat}(nd:ks.Nodup){j k:Nat}(h:ks[j]? =some k):ks.idxOf k=j:=by
 have hm:=mem_of_getElem? h
 have hlt:ks.idxOf k<ks.length:=List.idxOf_lt_length_of_mem hm
 have e:ks[ks.idxOf k]? =some k:=by
  rw[List.getElem?_eq_getElem hlt,List.getElem_idxOf hlt]
 exact(List.getElem?_inj hlt nd).mp (e.trans h.symm)
noncomputable def O4(cs:List Cl)(k:Nat):Cl:=(cs[k]?).getD (.fn 0 [])
theorem DB{cs:List Cl}{k:Nat}{c:Cl}(h:cs[k]? =some c):O4 cs k=c:=by unfold O4;rw[h];rfl
theorem KU(xs:List Nat):(iv xs).length=xs.length:=length_map ..
theorem bPZ{xs:List Nat}{t i:Nat}(h:xs[t]? =some i):(iv xs)[t]? =some (.int (i:Nat)):=by unfold iv;rw[getElem?_map,h];rfl
section
variable{P:Program}{w:World}{K:FZ}{mg:Str->Option Value}{base:Heap}{f fi:Addr}{fd di:FuncData}{C:Addr}{mf:Str->Addr}{md:Str->FuncData}{CI JB BC:Addr}{CD JU BE:FuncData}
noncomputable def a6Z(o v kl d:Addr)(a4 a5:Option V):St:=[some (.ref o),some (.ref v),some (.ref kl),some (.ref d),a4,a5]
inductive spSweptW (C:Addr) (vs:List V) (H:Hp) (Q:VK):Prop
 |mk:∀(o L v:Addr) (us xs:List V) (cs:List Cl) (ws:List Vl),(vs=[.ref o,.ref v])->(CAt C H o L us)->(All2 (ClAt H) cs us)->(H v=some (.lst xs))->(All2 (VAt H) ws xs)->(Okc cs)->(Okv cs.length ws)->(Few cs ws)->(xs.length<=1000)->(∀t o' L' l us' ys ks H',Same H H'->Kept cs ws ks->H' t=some (.tup [.ref o',.ref l])->CAt C H' o' L' us'->All2 (ClAt H') (ks.map λk=>mvc ks (O4 cs k)) us'->H' l=some (.lst ys)->All2 (VAt H') (ws.map (mv ks)) ys->H o'=none->H L'=none->H l=none->l≠L'->Q (.ref t) H')->spSweptW C vs H Q
noncomputable def TJ(C:Addr):Sp:=λvs H Q _=>spSweptW C vs H Q
theorem ok_swept(F:Fun K "swept" "swept" s_swept f fd)(B:NoG mg)(RC:RCls K C mf md)(M_Cells:Mk K C fi)(m_Cells:mg "Cells"=some (.ref C))
  (G___init__:FnOk P w K mg base CX0 1 fi di K5 (RF C))(b___init__:Binds K di K5 [])
  (RN:FnOk P w K mg base CX0 1 (mf "put") (md "put") XD (WY C))(EQ:FnOk P w K mg base CX0 1 (mf "at") (md "at") EI (UH C))
  (P9:Cn P w K mg base CX0 2 "numbers_led_to" VI (bmZ C))
  (V3:Cn P w K mg base CX0 2 "moved" bfZ LN)
  (U9:Cn P w K mg base CX0 3 "moved_cell" cCZ DL):
  FnOk P w K mg base CX0 4 f fd VI (TJ C):=by
 obtain⟨CI,CD,P9,CK,CJ,CF⟩:=P9
 obtain⟨JB,JU,V3,JF,IY,JT⟩:=V3
 obtain⟨BC,BE,U9,JP,JC,JL⟩:=U9
 refine F.ok sc_swept (λvs H Q E h=> ?_) (λcdv A outer s H vs Q E hr h=> ?_)
 ·obtain⟨o,L,v,us,xs,cs,ws,rfl,_⟩:=h
  rfl
 obtain⟨o,L,v,us,xs,cs,ws,rfl,hC,hU,hv,hX,hO,hV,hn,hx,q⟩:=h
 have nd:=sc_swept.nd
 have hu:=hr.units0
 have zz:(4000:Nat)<=sizeLine:=by decide
 obtain⟨dx,ho,hL⟩:=id hC
 refine⟨_,(A8 (C7 (i:=2) nd rfl (Or.inl rfl) (B6 P9 (hr.mono (by omega)) rfl CF CJ CK .nil C0 (A0 (pv 0) (A0 (pv 1) A6))))
   (A8 (C7 (i:=3) nd rfl (Or.inl rfl) NQ)
   (A8 (E1 (T3 PassesOwn.never rfl (AC (K:=K) (pv 2)) (J3 (i:=4) nd rfl (Or.inl rfl)) (B0 (Q3 (C4 c4Z rfl B.len_ G1 (A0 (pv 3) A6)) (U3 (pv 3) (pv 4) (FG hr.units))))))
   (A8 (C7 (i:=5) nd rfl (Or.inl rfl) (NV M_Cells G___init__ (hr.mono (by omega)) rfl m_Cells b___init__ .nil C0))
   (A8 (E1 (T3 PassesOwn.never rfl (AC (K:=K) (pv 2)) (J3 (i:=4) nd rfl (Or.inl rfl)) (B0 (C3 (L0 (pv 5) RC.cl RC.m_put RN (hr.mono (by omega)) RC.b_put .nil C0 (A0 (B6 U9 (hr.mono (by omega)) rfl JL JC JP .nil C0 (A0 (L0 (pv 0) RC.cl RC.m_at EQ (hr.mono (by omega)) RC.b_at .nil C0 (A0 (C1 (A0 B1 (A0 (pv 4) A6))) A6)) (A0 (pv 3) A6))) A6))))))
   (B0 (C2 (C1 (A0 (pv 5) (A0 (B6 V3 (hr.mono (by omega)) rfl JT IY JF .nil C0 (A0 (pv 1) (A0 (pv 3) A6))) A6)))))))))), ?_⟩
 refine⟨_,rfl,_,rfl,o,L,v,us,xs,cs,ws,rfl,hC,hU,hv,hX,hO,hV,hn,hx,λkl ks H1 s1 hkl hk1 hK=> ?_⟩
 have hkn:ks.length<=63:=hn ks hK.nd λk hk=>(hK.is k).mp hk
 refine λd hd=> ?_
 have s2:=s1.trans (A7 hd (.dK []))
 have hk2:=(A7 hd (.dK [])) _ _ hk1
 have hd2:upd H1 d (.dK []) d=some (.dK []):=A5
 have hdH:H d=none:=s1.free hd
 have nkd:kl≠d:=λe=>by subst e;rw[hk1]at hd;cases hd
 generalize upd H1 d (.dK [])=H2 at s2 hk2 hd2⊢
 have wd':∀(Hx:Hp) (o:HO),Same H Hx->Same H (upd Hx d o):=λHx o a x u h=>by rw[B5 (λe=>by subst e;rw[hdH]at h;cases h)];exact a _ _ h
 refine⟨fun σ H'=>∃a4 kvs,σ=a6Z o v kl d a4 none/\Same H H'/\H' kl=some (.lst (iv ks))/\H' d=some (.dK kvs)/\NN ks kvs, ?_, ?_⟩
 ·refine⟨_,rfl,kl,rfl,⟨_,SqL.of hk2⟩,Z5 (xs:=iv ks) (λi σ H'=>∃a4 kvs,σ=a6Z o v kl d a4 none/\Same H H'/\H' kl=some (.lst (iv ks))/\H' d=some (.dK kvs)/\kvs.length=i/\kvs.map (·.1)=S7 (ks.take i)/\∀j k,j<i->ks[j]? =some k->P2 kvs (.inl (k:Int))=some (.int (j:Nat))) ?_ ?_ ?_ ?_⟩
  ·exact⟨none,[],rfl,s2,hk2,hd2,rfl,rfl,λj k hj=>absurd hj (Nat.not_lt_zero _)⟩
  ·rintro i σ H' _ ⟨a4,kvs,rfl,_,hk',_⟩
   exact SqL.of hk'
  ·rintro i x σ H' hx' ⟨a4,kvs,rfl,s',hk',hd',rfl,hkeys,hval⟩
   have hi:kvs.length<ks.length:=by rw[<-KU];exact(List.getElem?_eq_some_iff.mp hx').1
   obtain⟨k,hk⟩:∃k,ks[kvs.length]? =some k:=⟨_,List.getElem?_eq_getElem hi⟩
   have ex:x=.int (k:Nat):=by rw[bPZ hk]at hx';exact(Option.some.inj hx').symm
   subst ex
   have hnot:k∉ks.take kvs.length:=λhm=>by
    obtain⟨j,hj,e⟩:=List.getElem_of_mem hm
    rw[length_take]at hj
    have e2:ks[j]? =some k:=by
     rw[List.getElem_take]at e
     rw[List.getElem?_eq_getElem (by omega),e]
    have:=FT hK.nd e2
    have:=FT hK.nd hk
    omega
   have hvn:P2 kvs (.inl (k:Int))=none:=by
    have:=KW hkeys k
    rw[decide_eq_false hnot]at this
    cases h:P2 kvs (.inl (k:Int))with
    |none=>rfl
    |some z=>rw[h]at this;cases this
   refine⟨_,rfl,d,kvs,rfl,.inl hd',_,rfl,_,rfl,d,_,rfl,DPut.k (k:=.inl (k:Int)) hd' (by omega), ?_⟩
   rw[FR _ hvn]
   refine⟨_,kvs++ [(.inl (k:Int),.int (kvs.length:Nat))],rfl,wd' _ _ s',upd_at hk' nkd,A5,by rw[length_append];rfl, ?_,λj k' hj hjk=> ?_⟩
   ·rw[map_append,hkeys,take_succ,hk]
    unfold S7
    rw[map_append];rfl
   ·rw[<-FR _ hvn,ZE]
    by_cases c:j<kvs.length
    ·have hne:(Sum.inl (k':Int):Key)≠Sum.inl (k:Int):=λe=>by
      have e1:(k':Int)=(k:Int):=Sum.inl.inj e
      have e2:k'=k:=by omega
      subst e2
      have:=FT hK.nd hjk
      have:=FT hK.nd hk
      omega
     rw[if_neg hne]
     exact hval j k' c hjk
    ·have e:j=kvs.length:=by omega
     subst e
     rw[hk]at hjk
     cases hjk
     rw[if_pos rfl]
  ·rintro σ H' ⟨a4,kvs,rfl,s',hk',hd',hl,hkeys,hval⟩
   refine⟨a4,kvs,rfl,s',hk',hd',λk hk=> ?_⟩
   obtain⟨j,hj,e⟩:=List.getElem_of_mem hk
   have e2:ks[j]? =some k:=by rw[List.getElem?_eq_getElem hj,e]
   rw[FT hK.nd e2]
   exact hval j k (by rw[KU];exact hj) e2
 rintro σ H3 ⟨a4,kvs,rfl,s3,hk3,hd3,hN⟩
 refine λo2 d2 ho2 hd2' hn2=>⟨o2,d2,rfl,A5,λL2 hL2=>⟨rfl, ?_⟩⟩
 obtain⟨s4,hC4,hL2H⟩:=SH (C:=C) ho2 hd2' hn2 hL2
 generalize upd (upd (upd (upd H3 d2 (.own o2)) o2 (.ins C d2 [])) L2 (.lst [])) o2 (.ins C d2 [("in_order",.ref L2)])=H4 at s4 hC4⊢
 have ho2H:H o2=none:=s3.free ho2
 have hL2H0:H L2=none:=s3.free hL2H
 have ndL:d≠L2:=λe=>by subst e;rw[hd3]at hL2H;cases hL2H
 have nkL:kl≠L2:=λe=>by subst e;rw[hk3]at hL2H;cases hL2H
 have wl:∀Hx Hy:Hp,Same H Hx->Bt L2 Hx Hy->Same H Hy:=λHx Hy a b x u h=>b x u (a _ _ h) λe=>by subst e;rw[hL2H0]at h;cases h
 refine⟨fun σ H'=>∃a4 us2,σ=a6Z o v kl d a4 (some (.ref o2))/\Same H H'/\CAt C H' o2 L2 us2/\All2 (ClAt H') (ks.map λk=>mvc ks (O4 cs k)) us2/\H' d=some (.dK kvs), ?_, ?_⟩
 ·refine⟨_,rfl,kl,rfl,⟨_,SqL.of (s4 _ _ hk3)⟩,Z5 (xs:=iv ks) (λi σ H'=>∃a4 us2,σ=a6Z o v kl d a4 (some (.ref o2))/\Same H H'/\CAt C H' o2 L2 us2/\us2.length=i/\All2 (ClAt H') ((ks.take i).map λk=>mvc ks (O4 cs k)) us2/\H' d=some (.dK kvs)/\H' kl=some (.lst (iv ks))) ?_ ?_ ?_ ?_⟩
  ·exact⟨a4,[],rfl,s3.trans s4,hC4,rfl,.nil,s4 _ _ hd3,s4 _ _ hk3⟩
  ·rintro i σ H' _ ⟨a4,us2,rfl,_,_,_,_,_,hk'⟩
   exact SqL.of hk'
  ·rintro i x σ H' hx' ⟨a4,us2,rfl,s',hC2,rfl,hA2,hd',hk'⟩
   have hi:us2.length<ks.length:=by rw[<-KU];exact(List.getElem?_eq_some_iff.mp hx').1
   obtain⟨k,hk⟩:∃k,ks[us2.length]? =some k:=⟨_,List.getElem?_eq_getElem hi⟩
   have ex:x=.int (k:Nat):=by rw[bPZ hk]at hx';exact(Option.some.inj hx').symm
   subst ex
   have hRk:=(hK.is k).mp (mem_of_getElem? hk)
   have hkn':=hRk.lt hO hV
   obtain⟨c,hck⟩:∃c,cs[k]? =some c:=⟨_,List.getElem?_eq_getElem hkn'⟩
   obtain⟨u,huk,hcu⟩:=hU.get' hck
   obtain⟨dx2,hi2,hl2⟩:=id hC2
   refine⟨_,rfl,o2,dx2,_,rfl,hi2,rfl,_,rfl,o,dx,_,rfl,s' _ _ ho,rfl,_,rfl,O3,λt ht=> ?_⟩
   have st:=A7 ht (.tup [.str "cell",.int (k:Nat)])
   have s5:=s'.trans st
   refine⟨o,L,us,t,k,u,rfl,hC.same s5,A5,huk,_,rfl,u,d,c,ks,kvs,rfl,hcu.mo (B8 s5),st _ _ hd',hN,λj hj=>(hK.is j).mpr (.step hRk hck hj),λu' H5 s6 hcl=> ?_⟩
   refine⟨o2,L2,us2,u',rfl,(hC2.same st).same s6,by omega,λp H6 hp6 bt6 hC6 _=> ?_⟩
   have hl5:H5 L2=some (.lst us2):=s6 _ _ (st _ _ hl2)
   have m6:Mo H5 H6:=bt6.tups hl5
   refine⟨_,us2++ [u'],rfl,wl H5 H6 (s5.trans s6) bt6,hC6,by rw[length_append];rfl, ?_,bt6 _ _ (s6 _ _ (st _ _ hd')) ndL,bt6 _ _ (s6 _ _ (st _ _ hk')) nkL⟩
   rw[take_succ,hk,map_append]
   refine((hA2.imp λ_ _ z=>ClAt.mo (λb zs e=>m6 _ _ (s6 _ _ (st _ _ e))) z)).app (.cons ?_ .nil)
   show ClAt H6 (mvc ks (O4 cs k)) u'
   rw[DB hck]
   exact hcl.mo m6
  ·rintro σ H' ⟨a4,us2,rfl,s',hC2,hl,hA2,hd',hk'⟩
   rw[KU,take_length]at hA2
   exact⟨a4,us2,rfl,s',hC2,hA2,hd'⟩
 rintro σ H5 ⟨a4,us2,rfl,s5,hC5,hA5,hd5⟩
 obtain⟨dx5,hi5,hl5⟩:=id hC5
 refine⟨_,rfl,_,rfl,_,rfl,v,d,xs,ws,ks,kvs,rfl,.inl (s5 _ _ hv),hX.imp λ_ _ z=>VAt.mo (B8 s5) z,by omega,hd5,hN,λk hk=>(hK.is k).mpr (.root hk),λl ys H6 s6 hl hl6 hA6=>⟨O3,λt ht=> ?_⟩⟩
 have s7:=s6.trans (A7 ht (.tup [.ref o2,.ref l]))
 refine q t o2 L2 l us2 ys ks _ (s5.trans s7) hK A5 (hC5.same s7) (hA5.imp λ_ _ z=>ClAt.mo (B8 s7) z) ((A7 ht _) _ _ hl6) (hA6.imp λ_ _ z=>VAt.mo (B8 (A7 ht _)) z) ho2H hL2H0 (s5.free hl) λe=> ?_
 subst e
 rw[hl5]at hl
 cases hl
end
end SW
namespace BV
open PySem L2
seal PE PT PW PA PS PSs PTs PI PG PGs PO
noncomputable def top(i:Nat):Stmt:=PySem.Challenge.pw_speakmill_k68_run_and_rounds.main.body.getD i (.Pass ⟨0,0,0,0⟩)
noncomputable abbrev s_built_up:Stmt:=top 2
noncomputable abbrev GO:List Str:=["root","parts_in","made","met","waiting","node","parts","done","many","made_parts"]
theorem sc_built_up:FnScope GO ayZ (B4 s_built_up):=fS
structure NoG (mg:Str->Option Value):Prop where
 len_:mg "len"=none
 list_:mg "list"=none
 reversed_:mg "reversed"=none
 range_:mg "range"=none
 zip_:mg "zip"=none
 isinstance_:mg "isinstance"=none
 str_:mg "str"=none
 tuple_:mg "tuple"=none
 sum_:mg "sum"=none
 max_:mg "max"=none
 min_:mg "min"=none
 int_:mg "int"=none
 bool_:mg "bool"=none
 enumerate_:mg "enumerate"=none
 all_:mg "all"=none
theorem ifT{c A B:Prop}[Decidable c](h:c)(a:A):if c then A else B:=by rw[if_pos h];exact a
theorem ifF{c A B:Prop}[Decidable c](h:¬c)(b:B):if c then A else B:=by rw[if_neg h];exact b
theorem upd_at{H:Hp}{a b:Addr}{o o':HO}(h:H b=some o)(n:b≠a):upd H a o' b=some o:=by rw[B5 n];exact h
theorem XY{H:Hp}{a b:Addr}{o':HO}(h:upd H a o' b=none):H b=none/\b≠a:=by
 by_cases e:b=a
 ·subst e;rw[A5]at h;cases h
 ·rw[B5 e]at h;exact⟨h,e⟩
theorem NB(y:V)(ws:List V):(y::ws).reverse[(y::ws).reverse.length - 1]? =some y:=by
 rw[reverse_cons]
 simp
theorem MS(y:V)(ws:List V):(y::ws).reverse.dropLast=ws.reverse:=by
 rw[reverse_cons]
 simp
theorem cRZ{ws us:List V}(h:ws.reverse=us):ws=us.reverse:=by rw[<-h,List.reverse_reverse]
theorem XM{α:Type}{A:List α}{k:Nat}{t:α}(h:A[k]? =some t):A.take (k+1)=A.take k++ [t]:=by
 obtain⟨h1,h2⟩:=List.getElem?_eq_some_iff.mp h
 rw[List.take_succ_eq_append_getElem h1,h2]
inductive spM2W (D:Tr) (O:AS) (vs:List V) (H:Hp) (Q:VK):Prop
 |mk:∀S t v l us,(vs=[v,.ref l])->(D.val S H t v)->(D.size t<=400000)->(H l=some (.lst us))->(¬S l)->(¬O l)->((∀a,S a->H a≠none))->(All2 (D.res S H) (D.kids t) us)->(∀r H',Same H H'->D.res S H' t r->Q r H')->spM2W D O vs H Q
noncomputable def bhZ(D:Tr)(O:AS):Sp:=λvs H Q _=>spM2W D O vs H Q
inductive spBuilt2W (P:Program) (w:World) (K:FZ) (mg:Str->Option Value) (base:Heap) (vs:List V) (H:Hp) (Q:VK):Prop
 |mk:∀(D:Tr) (S O:AS) (t:D.T) (v:V) (fp fm:Addr) (dp dm:FuncData) (np nm:List Str),(vs=[v,.ref fp,.ref fm])->(FnOk P w K mg base CX0 3 fp dp np (spP D))->(EW K base fp)->(Binds K dp np [])->(FnOk P w K mg base CX0 3 fm dm nm (bhZ D O))->(EW K base fm)->(Binds K dm nm [])->((∀a,S a->H a≠none))->((∀a,O a->H a≠none))->(D.val S H t v)->(D.size t<=400000)->(∀r H',Same H H'->D.res S H' t r->Q r H')->spBuilt2W P w K mg base vs H Q
noncomputable def FV(P:Program)(w:World)(K:FZ)(mg:Str->Option Value)(base:Heap):Sp:=λvs H Q _=>spBuilt2W P w K mg base vs H Q
section
variable{P:Program}{w:World}{K:FZ}{mg:Str->Option Value}{base:Heap}{f:Addr}{fd:FuncData}
theorem ok_built_up(F:Fun K "built_up" "built_up" s_built_up f fd)(B:NoG mg):FnOk P w K mg base CX0 4 f fd ayZ (FV P w K mg base):=by
 refine F.ok sc_built_up (λvs H Q E h=> ?_) (λcdv A outer s H vs Q E hr h=> ?_)
 ·obtain⟨D,S,O,t,v,fp,fm,dp,dm,np,nm,rfl,_⟩:=h
  rfl
 obtain⟨D,S,O,t,v,fp,fm,dp,dm,np,nm,rfl,FP,kp,bp,FM,km,bm,hSo,hOo,hval,hsz,q⟩:=h
 have nd:=sc_built_up.nd
 have hu:=hr.units0
 have z1:(1:Nat)<=sizeLine:=by decide
 have z2:(2:Nat)<=sizeLine:=by decide
 have z3:(400000:Nat)+400000<sizeLine:=by decide
 refine⟨_,(A8 (C7 (i:=3) nd rfl (Or.inl rfl) (E6 A6))
   (A8 (C7 (i:=4) nd rfl (Or.inl rfl) (E6 (A0 (pv 0) A6)))
   (A8 (Z0 PassesOwn.never (M3 (K:=K) (pv 4) (λ_=>rfl)) (A8 (C7 (i:=5) nd rfl (Or.inl rfl) (IL (K:=K) PySem.F.plainAttrs_list PySem.F.slot_list_pop PySem.F.type_list_pop DA (pv 4)))
   (A8 (C7 (i:=6) nd rfl (Or.inl rfl) (IG (P:=P) (w:=w) (K:=K) (mg:=mg) (base:=base) (pv 1) C0 (A0 (pv 5) A6)))
   (A8 (C3 (M1 (K:=K) PySem.F.plainAttrs_list PySem.F.slot_list_append PySem.F.type_list_append C8 (pv 3) (A0 (C1 (A0 (pv 5) (A0 (C4 (J8 (K:=K)) rfl B.len_ G1 (A0 (pv 6) A6)) A6))) A6)))
   (B0 (C3 (M1 (K:=K) PySem.F.plainAttrs_list PySem.F.slot_list_extend PySem.F.type_list_extend UT (pv 4) (A0 (QW (K:=K) rfl B.reversed_ rfl B.list_ rfl (A0 (pv 6) A6)) A6))))))))
   (A8 (C7 (i:=7) nd rfl (Or.inr rfl) (E6 A6))
   (A8 (T3 PassesOwn.never rfl (cUZ (K:=K) rfl B.reversed_ (A0 (pv 3) A6)) (LH rfl (O9 (J3 (i:=5) nd rfl (Or.inl rfl)) (O9 (J3 (i:=8) nd rfl (Or.inl rfl)) EN))) (A8 (S6 (i:=9) nd rfl rfl (cS (N:=GO) (sc:=B4 s_built_up) (caps:=[7]) (ns:=["done"])) rfl rfl rfl (M2 rfl B.range_ (A0 (pv 8) A6)) (λ_ _ _ _ _=>AF) (λ_ _ _ _ _=>(IL (K:=K) PySem.F.plainAttrs_list PySem.F.slot_list_pop PySem.F.type_list_pop DA (pv 1))))
   (B0 (C3 (M1 (K:=K) PySem.F.plainAttrs_list PySem.F.slot_list_append PySem.F.type_list_append C8 (pv 7) (A0 (IG (P:=P) (w:=w) (K:=K) (mg:=mg) (base:=base) (pv 2) C0 (A0 (pv 5) (A0 (pv 9) A6))) A6))))))
   (B0 (C2 (IL (K:=K) PySem.F.plainAttrs_list PySem.F.slot_list_pop PySem.F.type_list_pop DA (pv 7))))))))), ?_⟩
 refine⟨(by show 0<=sizeLine;decide),λml hml=> ?_⟩
 refine⟨_,rfl,z1,λwl hwl0=> ?_⟩
 obtain⟨hwl,nwm⟩:=XY hwl0
 have g0:Same H (upd (upd H ml (.lst [])) wl (.lst [v])):=(A7 hml _).trans (A7 hwl0 _)
 obtain⟨S1,w1,hS1,mS,wS,sub1⟩:∃S1:AS,Wd H S S1/\(∀H':Hp,Same H H'->H' ml≠none->H' wl≠none->∀a,S1 a->H' a≠none)/\S1 ml/\S1 wl/\∀a,S a->S1 a:=by
  refine⟨λa=>S a\/a=ml\/a=wl,λa ha=> ?_,λH' sm h1 h2 a ha=> ?_,.inr (.inl rfl),.inr (.inr rfl),λa h=> .inl h⟩
  ·rcases ha with h|rfl|rfl
   ·exact .inl h
   ·exact .inr hml
   ·exact .inr hwl
  ·rcases ha with h|rfl|rfl
   ·obtain⟨o,ho⟩:=ne_none_iff_exists'.mp (hSo a h)
    rw[sm _ _ ho];exact λz=>nomatch z
   ·exact h1
   ·exact h2
 have hval1:=D.vw w1 hval
 refine⟨λm σ H'=>∃(N W:List D.T) (ms ws:List V) (y1 y2:Option V),σ=[some v,some (.ref fp),some (.ref fm),some (.ref ml),some (.ref wl),y1,y2,none,none,none]/\Same H H'/\H' ml=some (.lst ms)/\H' wl=some (.lst ws)/\
   All2 (MetAt D S1 H') N ms/\All2 (D.val S1 H') W ws.reverse/\Reach D t N W/\m=(W.map D.size).sum,
  ⟨D.size t,[],[t],[],[v],none,none,rfl,g0,upd_at A5 (Ne.symm nwm),A5,.nil,.cons (D.vm (.of g0) hval1) .nil,.start,by simp⟩, ?_⟩
 rintro m σ H' ⟨N,W,ms,ws,y1,y2,rfl,sm,hm,hw,hN,hW,hR,rfl⟩
 have hms:=hN.len
 have hRs:=hR.size
 refine⟨_,rfl, !ws.isEmpty,.inl ⟨ws,SqL.of hw,rfl⟩, ?_⟩
 generalize ew:ws.reverse=wr at hW
 have ew:=cRZ ew
 subst ew
 cases hW with
 | @cons n u W' wr hn hW'=>
  refine ifT (by simp) ?_
  refine⟨_,λ_ _ h=>h, ?_⟩
  refine⟨_,rfl,.inl ⟨rfl,_,SqL.of hw⟩,wl,_,_,rfl,rfl,hw,NB _ _, ?_⟩
  rw[MS]
  have t1:Kp S1 H' (upd H' wl (.lst wr.reverse)):=.upd wS hw _
  have hm1:upd H' wl (.lst wr.reverse) ml=some (.lst ms):=upd_at hm (Ne.symm nwm)
  have hw1:upd H' wl (.lst wr.reverse) wl=some (.lst wr.reverse):=A5
  have o1:Same H (upd H' wl (.lst wr.reverse)):=λb o e=>upd_at (sm b o e) (C5 e hwl)
  generalize upd H' wl (.lst wr.reverse)=H1 at t1 hm1 hw1 o1⊢
  have hkn:=D.kids_le n
  have hszn:D.size n<=400000:=by simp only[map_cons,sum_cons]at hRs;omega
  refine⟨_,rfl,fp,dp,np,spP D,3,rfl,FP,hr.mono (by decide),kp,bp,_,rfl,S1,n,u,rfl,D.vm t1 hn,hszn,λr H2 ps s2 hr1 hr2 hps=> ?_⟩
  have hm2:=s2 _ _ hm1
  have hw2:=s2 _ _ hw1
  have o2:=o1.trans s2
  have t2:Kp S1 H' H2:=t1.trans (.of s2)
  have nrw:r≠wl:=λe=>by subst e;rw[hw1]at hr1;cases hr1
  have nrm:r≠ml:=λe=>by subst e;rw[hm1]at hr1;cases hr1
  have hpl:=hps.len
  refine⟨_,rfl,.inl ⟨rfl,_,SqL.of hm2⟩,_,rfl,_,rfl,_,_,rfl,.inl ⟨_,SqL.of hr2,rfl⟩,z2,λp hp=> ?_⟩
  have s3:Same H2 (upd H2 p (.tup [u,.int (ps.length:Nat)])):=A7 hp _
  refine⟨ml,_,_,rfl,rfl,s3 _ _ hm2,by omega, ?_⟩
  have t4:Kp S1 H' (upd (upd H2 p (.tup [u,.int (ps.length:Nat)])) ml (.lst (ms++ [.ref p]))):=(t2.trans (.of s3)).trans (.upd mS (s3 _ _ hm2) _)
  have hp4:upd (upd H2 p (.tup [u,.int (ps.length:Nat)])) ml (.lst (ms++ [.ref p])) p=some (.tup [u,.int (ps.length:Nat)]):=upd_at A5 (λe=>by subst e;rw[hm2]at hp;cases hp)
  have hm4:upd (upd H2 p (.tup [u,.int (ps.length:Nat)])) ml (.lst (ms++ [.ref p])) ml=some (.lst (ms++ [.ref p])):=A5
  have hw4:upd (upd H2 p (.tup [u,.int (ps.length:Nat)])) ml (.lst (ms++ [.ref p])) wl=some (.lst wr.reverse):=upd_at (s3 _ _ hw2) nwm
  have hr4:upd (upd H2 p (.tup [u,.int (ps.length:Nat)])) ml (.lst (ms++ [.ref p])) r=some (.lst ps):=upd_at (s3 _ _ hr2) nrm
  have o4:Same H (upd (upd H2 p (.tup [u,.int (ps.length:Nat)])) ml (.lst (ms++ [.ref p]))):=λb o e=>upd_at (s3 _ _ (o2 b o e)) (C5 e hml)
  have t24:Kp S1 H2 (upd (upd H2 p (.tup [u,.int (ps.length:Nat)])) ml (.lst (ms++ [.ref p]))):=(Kp.of s3).trans (.upd mS (s3 _ _ hm2) _)
  generalize upd (upd H2 p (.tup [u,.int (ps.length:Nat)])) ml (.lst (ms++ [.ref p]))=H4 at t4 hp4 hm4 hw4 hr4 o4 t24⊢
  refine⟨_,rfl,.inl ⟨rfl,_,SqL.of hw4⟩,_,rfl,r,ps,rfl,SqL.of hr4,λr2 hr2'=> ?_⟩
  have s5:Same H4 (upd H4 r2 (.lst ps.reverse)):=A7 hr2' _
  have hWl:=D.len_le W'
  have hWe:=hW'.len
  refine⟨wl,r2,_,_,rfl,rfl,s5 _ _ hw4,A5, ?_, ?_⟩
  ·simp only[length_reverse]
   simp only[map_cons,sum_cons]at hRs
   omega
  have t6:Kp S1 H4 (upd (upd H4 r2 (.lst ps.reverse)) wl (.lst (wr.reverse++ps.reverse))):=(Kp.of s5).trans (.upd wS (s5 _ _ hw4) _)
  refine⟨_, ?_,N++ [n],D.kids n++W',ms++ [.ref p],wr.reverse++ps.reverse,_,_,rfl,λb o e=>upd_at (s5 _ _ (o4 b o e)) (C5 e hwl),upd_at (s5 _ _ hm4) (Ne.symm nwm),A5, ?_, ?_,.step hR,rfl⟩
  ·simp only[map_append,sum_append,map_cons,sum_cons]
   have:=D.hsz n
   omega
  ·refine(hN.imp λa b h=>h.mono (t4.trans t6)).app (.cons ⟨p,u,rfl, ?_,D.vm (t4.trans t6) hn⟩ .nil)
   rw[hpl]
   exact t6.tups hp4
  ·rw[List.reverse_append,List.reverse_reverse,List.reverse_reverse]
   exact(hps.imp λa b h=>D.vm (t24.trans t6) h).app (hW'.imp λa b h=>D.vm (t4.trans t6) h)
 |nil=>
  refine ifF (by simp) ?_
  refine⟨(by show 0<=sizeLine;decide),λdl hdl=> ?_⟩
  have s7:Same H' (upd H' dl (.lst [])):=A7 hdl _
  have hdl0:H dl=none:=sm.free hdl
  have ndm:dl≠ml:=λe=>by subst e;rw[hm]at hdl;cases hdl
  have hm':H' ml≠none:=by rw[hm];exact λz=>nomatch z
  have hw':H' wl≠none:=by rw[hw];exact λz=>nomatch z
  have ndw:dl≠wl:=λe=>by subst e;rw[hw]at hdl;cases hdl
  obtain⟨S2,w2,hS2,dS,sub2⟩:∃S2:AS,Wd H' S1 S2/\(∀H2:Hp,Same H H2->H2 ml≠none->H2 wl≠none->H2 dl≠none->∀a,S2 a->H2 a≠none)/\S2 dl/\∀a,S a->S2 a:=by
   refine⟨λa=>S1 a\/a=dl,λa ha=> ?_,λH2 sm2 h1 h2 h3 a ha=> ?_,.inr rfl,λa h=> .inl (sub1 a h)⟩
   ·rcases ha with h|rfl
    ·exact .inl h
    ·exact .inr hdl
   ·rcases ha with h|rfl
    ·exact hS1 H2 sm2 h1 h2 a h
    ·exact h3
  have hN2:=hN.imp λa b h=>h.wide w2
  refine⟨_,rfl,ml,ms,rfl,SqL.of (s7 _ _ hm),avZ (xs:=ms) (λi σ H'=>∃(W:List D.T) (us:List V) (y1 y2 y3 y4:Option V),σ=[some v,some (.ref fp),some (.ref fm),some (.ref ml),some (.ref wl),y1,y2,some (.ref dl),y3,y4]/\Same H H'/\H' ml=some (.lst ms)/\H' wl≠none/\
   All2 (MetAt D S2 H') N ms/\H' dl=some (.lst us.reverse)/\All2 (D.res S2 H') W us/\Reach D t (N.take (N.length - i)) W) ?_ ?_ ?_ ?_⟩
  ·exact⟨[],[],_,_,_,_,rfl,sm.trans s7,s7 _ _ hm,(by rw[s7 _ _ hw];exact λz=>nomatch z),hN2.imp λa b h=>h.mono (.of s7),A5,.nil,by rw[sub_zero,take_length];exact hR⟩
  ·rintro i σ H' _ ⟨W,us,y1,y2,y3,y4,rfl,sm,hm,_⟩
   exact SqL.of hm
  ·rintro i x σ H' hx ⟨W,us,y1,y2,y3,y4,rfl,sm,hm,hwn,hN,hd,hW,hRi⟩
   have hi:i<ms.length:=by
    have:=(List.getElem?_eq_some_iff.mp hx).1
    simpa using this
   rw[getElem?_reverse hi]at hx
   obtain⟨n,hn,p,u,rfl,hp,hu'⟩:=hN.get hx
   have e1:N.length - i=(ms.length - 1 - i)+1:=by omega
   rw[e1,XM hn]at hRi
   obtain⟨r,rfl,hRb⟩:=hRi.back
   obtain⟨b1,b2,rfl,hb1,hb2⟩:=hW.split
   have hbl:=hb1.len
   have hkn:=D.kids_le n
   have hRs2:=hRb.size
   have hszn:D.size n<=400000:=by simp only[map_cons,sum_cons]at hRs2;omega
   refine⟨p,_,rfl,SqT.of hp,rfl,_,_,rfl,_,_,rfl,rfl, ?_⟩
   refine⟨_,rfl,((D.kids n).length:Nat),rfl,by omega,by omega,Q5 (n:=(D.kids n).length) (λj ys H2=>ys=b1.take j/\H2=upd H' dl (.lst (b1.drop j++b2).reverse)) ?_ ?_ ?_ ?_⟩
   ·exact⟨rfl,by rw[List.drop_zero];exact(cxZ hd).symm⟩
   ·rintro j ys H2 hj ⟨rfl,_⟩
    rw[length_take]
    omega
   ·rintro j ys H2 hj ⟨rfl,rfl⟩
    refine GC ?_
    have hjb:j<b1.length:=by omega
    have ed:b1.drop j=b1[j]::b1.drop (j+1):=List.drop_eq_getElem_cons hjb
    rw[ed]
    refine⟨_,rfl,.inl ⟨rfl,_,SqL.of A5⟩,dl,_,_,rfl,rfl,A5,NB _ _, ?_⟩
    refine⟨?_, ?_⟩
    ·rw[List.take_succ_eq_append_getElem hjb]
    ·rw[KR]
     congr 2
     exact MS _ _
   ·rintro ys H2 ⟨rfl,rfl⟩ l hl
    rw[hbl,List.drop_length,take_length,List.nil_append]at*
    have s8:Same (upd H' dl (.lst b2.reverse)) (upd (upd H' dl (.lst b2.reverse)) l (.lst b1)):=A7 hl _
    have t8:Kp S2 H' (upd (upd H' dl (.lst b2.reverse)) l (.lst b1)):=(Kp.upd dS hd _).trans (.of s8)
    have wn8:upd (upd H' dl (.lst b2.reverse)) l (.lst b1) wl≠none:=by
     obtain⟨o,ho⟩:=ne_none_iff_exists'.mp hwn
     rw[s8 _ _ (upd_at ho (Ne.symm ndw))];exact λz=>nomatch z
    have hd8:upd (upd H' dl (.lst b2.reverse)) l (.lst b1) dl=some (.lst b2.reverse):=s8 _ _ A5
    have hl8:upd (upd H' dl (.lst b2.reverse)) l (.lst b1) l=some (.lst b1):=A5
    have hm8:upd (upd H' dl (.lst b2.reverse)) l (.lst b1) ml=some (.lst ms):=s8 _ _ (upd_at hm (Ne.symm ndm))
    have o8:Same H (upd (upd H' dl (.lst b2.reverse)) l (.lst b1)):=λb o e=>s8 _ _ (upd_at (sm b o e) (C5 e hdl0))
    have hS8:=hS2 _ o8 (by rw[hm8];exact λz=>nomatch z) wn8 (by rw[hd8];exact λz=>nomatch z)
    have nlS:¬S2 l:=λz=>by
     refine hS2 _ (λb o e=>upd_at (sm b o e) (C5 e hdl0)) ?_ ?_ (by rw[A5];exact λz=>nomatch z) l z hl
     ·rw[upd_at hm (Ne.symm ndm)];exact λz=>nomatch z
     ·obtain⟨o,ho⟩:=ne_none_iff_exists'.mp hwn
      rw[upd_at ho (Ne.symm ndw)];exact λz=>nomatch z
    have nlO:¬O l:=λz=>by
     obtain⟨o,ho⟩:=ne_none_iff_exists'.mp (hOo l z)
     rw[upd_at (sm l o ho) (C5 ho hdl0)]at hl
     cases hl
    generalize upd (upd H' dl (.lst b2.reverse)) l (.lst b1)=H8 at s8 t8 hd8 hl8 hm8 o8 wn8 hS8⊢
    refine⟨_,rfl,.inl ⟨rfl,_,SqL.of hd8⟩,_,rfl,fm,dm,nm,bhZ D O,3,rfl,FM,hr.mono (by decide),km,bm,_,rfl,_,rfl,S2,n,u,l,b1,rfl,D.vm t8 hu',hszn,hl8,nlS,nlO,hS8,hb1.imp λa b h=>D.rm t8 h,λy H9 s9 hy=> ?_⟩
    have hb2l:=hb2.len
    have hrl:=D.len_le r
    refine⟨dl,_,_,rfl,rfl,s9 _ _ hd8, ?_, ?_⟩
    ·rw[length_reverse]
     simp only[map_cons,sum_cons]at hRs2
     omega
    have t9:Kp S2 H9 (upd H9 dl (.lst (b2.reverse++ [y]))):=.upd dS (s9 _ _ hd8) _
    have t89:Kp S2 H' (upd H9 dl (.lst (b2.reverse++ [y]))):=(t8.trans (.of s9)).trans t9
    have wn9:upd H9 dl (.lst (b2.reverse++ [y])) wl≠none:=by
     obtain⟨o,ho⟩:=ne_none_iff_exists'.mp wn8
     rw[upd_at (s9 _ _ ho) (Ne.symm ndw)];exact λz=>nomatch z
    refine⟨n::r,y::b2,_,_,_,_,rfl,λb o e=>upd_at (s9 _ _ (o8 b o e)) (C5 e hdl0),upd_at (s9 _ _ hm8) (Ne.symm ndm),wn9,hN.imp λa b h=>h.mono t89, ?_,.cons (D.rm t9 hy) (hb2.imp λa b h=>D.rm t89 h), ?_⟩
    ·rw[reverse_cons];exact A5
    ·have e2:N.length - (i+1)=ms.length - 1 - i:=by omega
     rw[e2];exact hRb
  ·rintro σ H' ⟨W,us,y1,y2,y3,y4,rfl,sm,hm,hwn,hN,hd,hW,hRi⟩
   rw[<-hms,Nat.sub_self,List.take_zero]at hRi
   cases hRi.first
   cases hW with
   | @cons _ y _ us hy hrest=>
    cases hrest
    refine⟨_,rfl,.inl ⟨rfl,_,SqL.of hd⟩,dl,_,_,rfl,rfl,hd,rfl, ?_⟩
    exact q y _ (λb o e=>upd_at (sm b o e) (C5 e hdl0)) (D.rw' (λa ha=> .inl (sub2 a ha)) (D.rm (.upd dS hd _) hy))
end
end BV
namespace PL
open PySem L2 BV CL
inductive Pv where
 |int (i:Int)|bl (b:Bool)|nil|cons (h t:Pv)
noncomputable def heads:Pv->List Pv
 | .cons h t=>h::heads t
 |_=> []
noncomputable def size:Pv->Nat
 | .cons h t=>size h+size t
 |_=>1
theorem EY:∀t:Pv,1<=size t
 | .int _=>le_refl _
 | .bl _=>le_refl _
 | .nil=>le_refl _
 | .cons h t=>le_trans (EY h) (le_add_right _ _)
theorem RY:∀t:Pv,size t=1+((heads t).map size).sum
 | .int _=>rfl
 | .bl _=>rfl
 | .nil=>rfl
 | .cons h t=>by
  show size h+size t=1+((h::heads t).map size).sum
  rw[map_cons,sum_cons,RY t];omega
noncomputable def VR(H:Hp)(us:List V):Pv->V->Prop
 | .int i,v=>v=.int i
 | .bl b,v=>v=.bl b
 | .nil,v=>v=.non
 | .cons h t,v=>∃(p:Addr) (k:Nat) (c:Addr) (hv tv:V),v=.ref p/\H p=some (.tup [.str "cell",.int (k:Nat)])/\us[k]? =some (.ref c)/\H c=some (.tup [.str "pair",hv,tv])/\VR H us h hv/\VR H us t tv
theorem VR.mono{H H':Hp}{us:List V}(m:Mo H H'):∀ {t:Pv} {v:V},VR H us t v->VR H' us t v
 | .int _,_,h=>h
 | .bl _,_,h=>h
 | .nil,_,h=>h
 | .cons _ _,_,⟨p,k,c,hv,tv,e,h1,h2,h3,h4,h5⟩=>⟨p,k,c,hv,tv,e,m _ _ h1,h2,m _ _ h3,VR.mono m h4,VR.mono m h5⟩
noncomputable def R(ok:AS)(H:Hp):Pv->(V->Prop)×(List V->Prop)
 | .int i=>(λv=>v=.int i,λrs=>rs=[])
 | .bl b=>(λv=>v=.bl b,λrs=>rs=[])
 | .nil=>(λv=>∃a,v=.ref a/\H a=some (.lst [])/\ok a,λrs=>rs=[])
 | .cons h t=>(λv=>∃a r rs,v=.ref a/\H a=some (.lst (r::rs))/\ok a/\(R ok H h).1 r/\(R ok H t).2 rs,λrs=>∃r rs',rs=r::rs'/\(R ok H h).1 r/\(R ok H t).2 rs')
theorem R.items{ok:AS}{H:Hp}:∀ {t:Pv} {rs:List V},(R ok H t).2 rs->All2 (λt r=>(R ok H t).1 r) (heads t) rs
 | .int _,_,h=>by cases h;exact .nil
 | .bl _,_,h=>by cases h;exact .nil
 | .nil,_,h=>by cases h;exact .nil
 | .cons _ _,_,⟨r,rs,e,h1,h2⟩=>by subst e;exact .cons h1 (R.items h2)
theorem R.of_items{ok:AS}{H:Hp}:∀ {t:Pv} {rs:List V},All2 (λt r=>(R ok H t).1 r) (heads t) rs->(R ok H t).2 rs
 | .int _,_,h=>by cases h;rfl
 | .bl _,_,h=>by cases h;rfl
 | .nil,_,h=>by cases h;rfl
 | .cons _ _,_,h=>by cases h with|cons h1 h2=>exact⟨_,_,rfl,h1,R.of_items h2⟩
theorem R.mono{ok ok':AS}{H H':Hp}(m:∀a xs,ok a->H a=some (.lst xs)->H' a=some (.lst xs)/\ok' a):∀ {t:Pv},(∀ {v:V},(R ok H t).1 v->(R ok' H' t).1 v)/\∀ {rs:List V},(R ok H t).2 rs->(R ok' H' t).2 rs
 | .int _=>⟨λh=>h,λh=>h⟩
 | .bl _=>⟨λh=>h,λh=>h⟩
 | .nil=>⟨λ⟨a,e,h1,h2⟩=>⟨a,e,(m a _ h2 h1).1,(m a _ h2 h1).2⟩,λh=>h⟩
 | .cons h t=>⟨λ⟨a,r,rs,e,h1,h2,h3,h4⟩=>⟨a,r,rs,e,(m a _ h2 h1).1,(m a _ h2 h1).2,(R.mono m (t:=h)).1 h3,(R.mono m (t:=t)).2 h4⟩,
  λ⟨r,rs,e,h3,h4⟩=>⟨r,rs,e,(R.mono m (t:=h)).1 h3,(R.mono m (t:=t)).2 h4⟩⟩
theorem dxZ{S:AS}{H H':Hp}(k:Kp S H H'):Mo H H':=k.1
noncomputable def Dt(C o L:Addr)(us:List V)(O:AS):Tr where
 T:=Pv
 kids:=heads
 size:=size
 val:=λS H t v=>CAt C H o L us/\¬S o/\¬S L/\VR H us t v
 res:=λS H t r=>(R (λa=>¬O a/\¬S a) H t).1 r
 hsz:=RY
 vm:=λk ⟨⟨dx,h1,h2⟩,n1,n2,h⟩=>⟨⟨dx,k.2 _ _ h1 n1,k.2 _ _ h2 n2⟩,n1,n2,h.mono (dxZ k)⟩
 rm:=λk h=>(R.mono λa xs ha e=>⟨k.2 _ _ e ha.2,ha⟩).1 h
 vw:=λwd ⟨⟨dx,h1,h2⟩,n1,n2,h⟩=>⟨⟨dx,h1,h2⟩,λz=>(wd _ z).elim n1 (λe=>by rw[h1]at e;cases e),λz=>(wd _ z).elim n2 (λe=>by rw[h2]at e;cases e),h⟩
 rw':=λwd h=>(R.mono λa xs ha e=>⟨e,ha.1,λz=>(wd _ z).elim ha.2 λq=>by rw[e]at q;cases q⟩).1 h
end PL
namespace PL
open PySem L2 BV CL
seal PE PT PW PA PS PSs PTs PI PG PGs PO
noncomputable abbrev s_is_cell:Stmt:=CL.top 5
noncomputable abbrev s_heads_of:Stmt:=CL.top 7
noncomputable abbrev s_with_heads:Stmt:=CL.top 8
noncomputable abbrev CY:List Str:=["value"]
theorem sc_is_cell:FnScope CY HN (B4 s_is_cell):=fS
noncomputable abbrev QF:List Str:=["cells","value","found","rest","cell"]
theorem sc_heads_of:FnScope QF NX (B4 s_heads_of):=fS
noncomputable abbrev LO:List Str:=["value","heads"]
theorem sc_with_heads:FnScope LO YR (B4 s_with_heads):=fS
section
variable{P:Program}{w:World}{K:FZ}{mg:Str->Option Value}{base:Heap}{C fi f fic:Addr}{di fd dic:FuncData}{mf:Str->Addr}{md:Str->FuncData}
noncomputable def isC(t:Pv):Bool:=match t with
 | .cons _ _=>true
 |_=>false
theorem bDZ{H:Hp}{us:List V}{t:Pv}{v:V}(h:VR H us t v):∃ty,TyOf K H v ty/\kitOne K ty (.type "tuple")=some (isC t):=by
 cases t with
 |int i=>cases h;exact⟨_,.int i,rfl⟩
 |bl b=>cases h;exact⟨_,.bl b,rfl⟩
 |nil=>cases h;exact⟨_,.non,rfl⟩
 |cons a b=>obtain⟨p,k,c,hv,tv,rfl,h1,_⟩:=h;exact⟨_,.tup h1,PY⟩
inductive spIsW (K:FZ) (vs:List V) (H:Hp) (Q:VK):Prop
 |mk:∀x ty b,(vs=[x])->(TyOf K H x ty)->(kitOne K ty (.type "tuple")=some b)->(Q (.bl b) H)->spIsW K vs H Q
noncomputable def cqZ(K:FZ):Sp:=λvs H Q _=>spIsW K vs H Q
theorem ok_is_cell(F:Fun K "is_cell" "is_cell" s_is_cell f fd)(B:CL.NoG mg):FnOk P w K mg base CX0 1 f fd HN (cqZ K):=by
 refine F.ok sc_is_cell (λvs H Q E h=> ?_) (λcdv A outer s H vs Q E hr h=> ?_)
 ·obtain⟨x,ty,b,rfl,_⟩:=h
  rfl
 obtain⟨x,ty,b,rfl,h1,h2,q⟩:=h
 have nd:=sc_is_cell.nd
 refine⟨_,(B0 (C2 (C4 (X0 (K:=K)) rfl B.isinstance_ E5 (A0 (pv 0) (A0 (M5 (v:=.ty "tuple") rfl B.tuple_ N7 rfl) A6))))), ?_⟩
 exact⟨_,rfl,_,_,_,_,rfl,h1,h2,q⟩
inductive spHeadsW (C:Addr) (vs:List V) (H:Hp) (Q:VK):Prop
 |mk:∀(o L:Addr) (us:List V) (t:Pv) (v:V),(vs=[.ref o,v])->(CAt C H o L us)->(VR H us t v)->(size t<=400000)->(∀r ps,H r=none->All2 (VR H us) (heads t) ps->Q (.ref r) (upd H r (.lst ps)))->spHeadsW C vs H Q
noncomputable def SZ(C:Addr):Sp:=λvs H Q _=>spHeadsW C vs H Q
theorem ok_heads_of(F:Fun K "heads_of" "heads_of" s_heads_of f fd)(RC:RCls K C mf md)(EQ:∀k,FnOk P w K mg base CX0 (k+1) (mf "at") (md "at") EI (UH C))
  (L3:FnOk P w K mg base CX0 1 fic dic HN (cqZ K))(P4:mg "is_cell"=some (.ref fic))(P3:kZ K (.ref fic)=true)(Q0:Binds K dic HN []):
  FnOk P w K mg base CX0 2 f fd NX (SZ C):=by
 refine F.ok sc_heads_of (λvs H Q E h=> ?_) (λcdv A outer s H vs Q E hr h=> ?_)
 ·obtain⟨o,L,us,t,v,rfl,_⟩:=h
  rfl
 obtain⟨o,L,us,t,v,rfl,hc,ht,hz,q⟩:=h
 have nd:=sc_heads_of.nd
 have hu:=hr.units0
 have zz:(400000:Nat)<sizeLine:=by decide
 have EQ:=EQ 0
 refine⟨_,(A8 (C7 (i:=2) nd rfl (Or.inl rfl) (E6 A6))
   (A8 (C7 (i:=3) nd rfl (Or.inl rfl) (pv 1))
   (A8 (E1 (Z0 PassesOwn.never (M3 (K:=K) (B6 L3 (hr.mono (by omega)) rfl P4 P3 Q0 .nil C0 (A0 (pv 3) A6)) (λ_=>rfl)) (A8 (C7 (i:=4) nd rfl (Or.inl rfl) (L0 (pv 0) RC.cl RC.m_at EQ (hr.mono (by omega)) RC.b_at .nil C0 (A0 (pv 3) A6)))
   (A8 (C3 (M1 (K:=K) PySem.F.plainAttrs_list PySem.F.slot_list_append PySem.F.type_list_append C8 (pv 2) (A0 (ixE K w (pv 4) A9) A6)))
   (B0 (C7 (i:=3) nd rfl (Or.inl rfl) (ixE K w (pv 4) A9)))))))
   (B0 (C2 (pv 2)))))), ?_⟩
 refine⟨(by show 0<=sizeLine;decide),λfl hfl=> ?_⟩
 have sm:∀ps,Same H (upd H fl (.lst ps)):=λps=>A7 hfl _
 refine⟨_,rfl,fun σ H'=>∃ps y1 y2,σ=[some (.ref o),some v,some (.ref fl),y1,y2]/\H'=upd H fl (.lst ps)/\All2 (VR H us) (heads t) ps, ?_, ?_⟩
 ·refine⟨λm σ H'=>∃(t':Pv) (rest:V) (hs:List Pv) (ps:List V) (y2:Option V),σ=[some (.ref o),some v,some (.ref fl),some rest,y2]/\H'=upd H fl (.lst ps)/\VR H us t' rest/\heads t=hs++heads t'/\All2 (VR H us) hs ps/\hs.length+size t'<=400000/\m=size t',
   ⟨size t,t,v,[],[],none,rfl,rfl,ht,rfl,.nil,by simpa using hz,rfl⟩, ?_⟩
  rintro m σ H' ⟨t',rest,hs,ps,y2,rfl,rfl,hr',hh,hA,hl,rfl⟩
  have hm:Mo H (upd H fl (.lst ps)):=B8 (sm ps)
  obtain⟨ty,h1,h2⟩:=bDZ (K:=K) (hr'.mono hm)
  refine⟨_,rfl,_,_,_,rfl,h1,h2, ?_⟩
  refine⟨isC t',rfl, ?_⟩
  have hsz:=hA.len
  cases t' with
  |cons a b=>
   refine CL.ifT rfl ⟨_,λ_ _ h=>h, ?_⟩
   obtain⟨p,k,c,hv,tv,rfl,p1,p2,p3,p4,p5⟩:=hr'
   obtain⟨dx,c1,c2⟩:=hc
   have hfp:upd H fl (.lst ps) fl=some (.lst ps):=A5
   refine⟨_,rfl,o,dx,_,rfl,sm ps _ _ c1,rfl,_,rfl,o,L,us,p,k,.ref c,rfl,⟨dx,sm ps _ _ c1,sm ps _ _ c2⟩,hm _ _ p1,p2, ?_⟩
   have hsp:=EY a
   have hsp2:=EY b
   have e5:size (Pv.cons a b)=size a+size b:=rfl
   refine⟨_,rfl,.inl ⟨rfl,_,SqL.of hfp⟩,_,rfl,(ixT (hm _ _ p3) rfl ⟨fl,ps,_,rfl,rfl,hfp,by omega, ?_⟩)⟩
   rw[KR]
   refine⟨_,rfl,(ixT (B8 (sm _) _ _ p3) rfl ?_)⟩
   exact⟨size b,by omega,b,tv,hs++ [a],ps++ [hv],_,rfl,rfl,p5,by rw[hh];simp[heads],hA.app (.cons p4 .nil),by rw[length_append,length_singleton];omega,rfl⟩
  |int i=>exact CL.ifF nZ ⟨ps,_,_,rfl,rfl,by rw[hh];simpa [heads]using hA⟩
  |bl i=>exact CL.ifF nZ ⟨ps,_,_,rfl,rfl,by rw[hh];simpa [heads]using hA⟩
  |nil=>exact CL.ifF nZ ⟨ps,_,_,rfl,rfl,by rw[hh];simpa [heads]using hA⟩
 ·rintro σ H' ⟨ps,y1,y2,rfl,rfl,hA⟩
  exact⟨_,rfl,q fl ps hfl hA⟩
theorem ok_with_heads{o L:Addr}{us:List V}{O:AS}(F:Fun K "with_heads" "with_heads" s_with_heads f fd)
  (L3:FnOk P w K mg base CX0 1 fic dic HN (cqZ K))(P4:mg "is_cell"=some (.ref fic))(P3:kZ K (.ref fic)=true)(Q0:Binds K dic HN []):
  FnOk P w K mg base CX0 2 f fd YR (bhZ (Dt C o L us O) O):=by
 refine F.ok sc_with_heads (λvs H Q E h=> ?_) (λcdv A outer s H vs Q E hr h=> ?_)
 ·obtain⟨S,t,v,l,rs,rfl,_⟩:=h
  rfl
 obtain⟨S,t,v,l,rs,rfl,⟨hc,n1,n2,hv⟩,hz,hl,nS,nO,hS,hA,q⟩:=h
 have nd:=sc_with_heads.nd
 have hu:=hr.units0
 obtain⟨ty,h1,h2⟩:=bDZ (K:=K) hv
 have hA':All2 (λt r=>(R (λa=>¬O a/\¬S a) H t).1 r) (heads t) rs:=hA
 have fin:∀r,(R (λa=>¬O a/\¬S a) H t).1 r->Q r H:=λr h=>q r H (λ_ _ e=>e) h
 refine⟨_,(B0 (C2 (P0 (PW.pt (FX (B9 FJ (pv 0) Q4 rfl) (AZ (M3 (K:=K) (B6 L3 (hr.mono (by omega)) rfl P4 P3 Q0 .nil C0 (A0 (pv 0) A6)) (λ_=>rfl))))) (pv 1) (pv 0)))), ?_⟩
 cases t with
 |int i=>cases hv;exact⟨_,rfl,rfl,_,rfl,CL.ifF (by simp) ⟨_,rfl,_,_,_,rfl,h1,h2,_,rfl,CL.ifF nZ ⟨_,rfl,fin _ rfl⟩⟩⟩
 |bl i=>cases hv;exact⟨_,rfl,rfl,_,rfl,CL.ifF (by simp) ⟨_,rfl,_,_,_,rfl,h1,h2,_,rfl,CL.ifF nZ ⟨_,rfl,fin _ rfl⟩⟩⟩
 |nil=>cases hv;cases hA';exact⟨_,rfl,rfl,_,rfl,CL.ifT (by simp) (CL.ifT rfl ⟨_,rfl,fin _ ⟨l,rfl,hl,nO,nS⟩⟩)⟩
 |cons a b=>
  obtain⟨p,k,c,hv,tv,rfl,_⟩:=hv
  cases hA' with
  |cons r1 r2=>exact⟨_,rfl,rfl,_,rfl,CL.ifF (by simp) ⟨_,rfl,_,_,_,rfl,h1,h2,_,rfl,CL.ifT rfl ⟨_,rfl,fin _ ⟨l,_,_,rfl,hl,⟨nO,nS⟩,r1,R.of_items r2⟩⟩⟩⟩
end
noncomputable abbrev s_plain:Stmt:=CL.top 6
noncomputable abbrev a9Z:List Str:=["cells","value"]
theorem sc_plain:FnScope a9Z NX (B4 s_plain):=fS
noncomputable def aRZ:Expr:=match E7 s_plain with
 | [.Return (some (.Call _ [_,l,_] _ _)) _]=>l
 |_=> .Constant .none 0 ⟨0,0,0,0⟩
noncomputable def c3Z:Arguments:=match aRZ with
 | .Lambda p _ _ _=>p
 |_=>⟨[],[],none,[],[],none,[]⟩
noncomputable def c6Z:Expr:=match aRZ with
 | .Lambda _ b _ _=>b
 |e=>e
noncomputable def lamS:Scope:=match aRZ with
 | .Lambda _ _ s _=>s
 |_=> {kind:=.function,names:=[],isGenerator:=false,isCoroutine:=false}
noncomputable def lamAt:Pos:=match aRZ with
 | .Lambda _ _ _ p=>p
 |_=>⟨0,0,0,0⟩
theorem bVZ:∀y∈lamS.names,y.2=.free->y.1∈(["cells"]:List Str):=by decide +kernel
theorem cPZ:LamScope ["one"] ["cells"] lamS:=⟨rfl,rfl,rfl,by decide +kernel,by decide +kernel,by decide +kernel,λx h=>bVZ _ (PySem.mem_of_lookup h) rfl,by decide +kernel⟩
noncomputable def lamQ:Str:=("plain":Str)++ ".<locals>."++ "<lambda>"
noncomputable def clos(n:Nat):List (Str×Addr):=[("cells",n+1)]
theorem aXZ(n f:Addr)(cdv:Value):closureFor lamS (PyProof.Rows.envOfC "plain" (B4 s_plain) n f cdv)=pure (clos n):=by rfl
section
variable{P:Program}{w:World}{K:FZ}{mg:Str->Option Value}{base:Heap}{C f fic fh fb fw c Pt:Addr}{fd dic dh db dw:FuncData}{mf:Str->Addr}{md:Str->FuncData}
theorem cap{CX:CXT}{cdv:Value}{A:Around}{outer:List Env}{s:Shared}{H:Hp}{E:XK}:CapOk (NU CX P w K mg base NX "plain" (B4 s_plain) f cdv A outer s H E).nox (clos s.heap.objs.size) ["cells"] [0]:=by
 refine⟨λx c h=> ?_,λx h=> ?_,λx h=> ?_,λx h=>rfl,λi x h=> ?_,rfl⟩
 ·show x∈(["cells"]:List Str)/\(clos s.heap.objs.size).lookup x=some c
  refine⟨?_,h⟩
  unfold clos at h
  rw[lookup_cons]at h
  split at h
  ·rename_i e;rw[beq_iff_eq.mp e];exact mem_cons_self
  ·cases h
 ·have e:x="cells":=by simpa using h
  subst e;exact⟨_,rfl⟩
 ·have e:x="cells":=by simpa using h
  subst e;rfl
 ·cases i with
  |zero=>have e:("cells":Str)=x:=by simpa using h
         subst e;exact⟨0,rfl,rfl⟩
  |succ i=>simp at h
inductive spPlainW(C Pt:Addr)(vs:List V)(H:Hp)(Q:VK):Prop
 |mk:∀(o L:Addr) (us:List V) (t:Pv) (v:V),(vs=[.ref o,v])->(CAt C H o L us)->(VR H us t v)->(size t<=400000)->(GJ H Pt lamAt lamQ)->(∀r H',(∀b ob,H b=some ob->b≠Pt->H' b=some ob)->GJ H' Pt lamAt lamQ->(R (λa=>H a=none) H' t).1 r->Q r H')->spPlainW C Pt vs H Q
noncomputable def spPlain(C Pt:Addr):Sp:=λvs H Q _=>spPlainW C Pt vs H Q
theorem ok_plain(F:Fun K "plain" "plain" s_plain f fd)(hcode:fd.code=.ref c)(CH:PySem.W.CodeHd base c Pt)(BT:base.BuiltinsAt mg Pt)
  (OZ:∀base,FnOk P w K mg base CX0 4 fb db ayZ (FV P w K mg base))(PX:mg "built_up"=some (.ref fb))(OQ:kZ K (.ref fb)=true)(OP:Binds K db ayZ [])
  (OR:∀base,FnOk P w K mg base CX0 2 fh dh NX (SZ C))(OS:mg "heads_of"=some (.ref fh))(PM:kZ K (.ref fh)=true)(OT:Binds K dh NX [])
  (JI:∀(base:Heap) (o L:Addr) (us:List V) (O:AS),FnOk P w K mg base CX0 2 fw dw YR (bhZ (Dt C o L us O) O))(JG:mg "with_heads"=some (.ref fw))(JA:kZ K (.ref fw)=true)(JK:Binds K dw YR []):
  FnOk P w K mg base CX0 5 f fd NX (spPlain C Pt):=by
 refine F.okC sc_plain (λvs H Q E h=> ?_) (λcdv A outer s H vs Q E hcd hr h=> ?_)
 ·obtain⟨o,L,us,t,v,rfl,_⟩:=h
  rfl
 obtain rfl:Value.ref c=cdv:=hcode.symm.trans hcd
 obtain⟨o,L,us,t,v,rfl,hc,hv,hz,hT,q⟩:=h
 have nd:=sc_plain.nd
 refine⟨_,B0 (C2 (ZM (name:="<lambda>") (qual:=lamQ) (params:=c3Z) (body:=c6Z) (scope:=lamS) (clos:=clos s.heap.objs.size) (pm:=(mg "__name__").getD .none) (fs:=["cells"]) (js:=[0]) (sp:=FV P w K mg) OZ hr rfl PX OQ OP cap
  (A0 (pv 1) (A0 (cAZ (params:=c3Z) (body:=c6Z) (scope:=lamS) (pos:=lamAt) (pm:=(mg "__name__").getD .none) rfl rfl (aXZ _ _ _) rfl CH BT) (A0 (BY (v:=.ref fw) rfl JG rfl) A6))))), ?_⟩
 refine⟨v,rfl,hT,λfl c' H1 hfn hF hC hT1 n1 n2 n3 hO hK=> ?_⟩
 refine⟨fl,c',[.ref o],⟨rfl,λi j h=> ?_⟩,hF,hC,n1,λbase' LA CA=> ?_⟩
 ·cases i with
  |zero=>have e:0=j:=by simpa using h
         subst e;exact⟨_,rfl,rfl⟩
  |succ i=>simp at h
 obtain⟨ctv,hfo⟩:=LA.fn
 generalize hH2:del (del H1 fl) c'=H2
 have keep2:∀b ob,H1 b=some ob->b≠fl->b≠c'->H2 b=some ob:=λb ob e a1 a2=>by rw[<-hH2,Y5 a2,Y5 a1];exact e
 have keepL:∀b ob,H b=some ob->b≠Pt->(∀φ,ob≠ .ext φ)->H2 b=some ob:=λb ob e a1 a2=>by
  have e1:=hK b ob e a1
  refine keep2 b ob e1 (λz=> ?_) (λz=> ?_)
  ·rw[z,hfn]at e;cases e
  ·rw[z,hC]at e1;exact a2 _ (Option.some.inj e1).symm
 obtain⟨qs,hqP,_⟩:=id hT
 have neP:∀ {b:Addr} {ob:HO},H b=some ob->(∀ps,ob≠ .tbl ps)->b≠Pt:=λ{b ob} e a z=>by rw[z,hqP]at e;exact a _ (Option.some.inj e).symm
 have hm2:Mo H H2:=λb xs e=>keepL b _ e (neP e λps z=>nomatch z) fun φ z=>nomatch z
 have hc2:CAt C H2 o L us:=by
  obtain⟨dx,h1,h2⟩:=hc
  exact⟨dx,keepL _ _ h1 (neP h1 (λps z=>nomatch z)) (fun φ z=>nomatch z),keepL _ _ h2 (neP h2 (λps z=>nomatch z)) (fun φ z=>nomatch z)⟩
 have FP:FnOk P w K mg base' CX0 3 fl (PySem.W.kla_fn "<lambda>" lamQ c3Z c6Z lamS (clos s.heap.objs.size) ((mg "__name__").getD .none) (.ref c') ctv) ["one"] (spP (Dt C o L us λa=>H2 a≠none)):=by
  refine crZ hfo rfl LA.cd cPZ CA (λvs H Q E h=> ?_) (λA outer s H vs Q E hr h=> ?_)
  ·obtain⟨S,t,v,rfl,_⟩:=h
   rfl
  obtain⟨S,t,v,rfl,⟨hc,n1,n2,hv⟩,hz,q⟩:=h
  refine⟨_,B6 (OR base') hr rfl OS PM OT .nil C0 (A0 (pv 1) (A0 (pv 0) A6)), ?_⟩
  refine⟨_,rfl,_,rfl,o,L,us,t,v,rfl,hc,hv,hz,λr ps hr hA=> ?_⟩
  have sm:=A7 hr (.lst ps)
  exact q r _ ps sm hr A5 (hA.imp λa b h=>⟨hc.same sm,n1,n2,h.mono (B8 sm)⟩)
 refine⟨Dt C o L us λa=>H2 a≠none,λ_=>False,λa=>H2 a≠none,t,v,fl,fw,_,dw,["one"],YR,rfl,FP,.inr LA.fnAt,.all (λus hl=>match us,hl with| [_],_=>rfl),(JI base' o L us _).mono (by decide),.inl JA,JK,
  λa h=>h.elim,λa h=>h,⟨hc2,id,id,hv.mono hm2⟩,hz,λr H' sm hres hf' hc'=> ?_⟩
 have up:∀ {b:Addr} {ob:HO},H' b=some ob->upd H' c' (CodeO lamQ c') b=some ob:=λ{b ob} e=>by rw[B5 (C5 e hc')];exact e
 have k1:∀b ob,H1 b=some ob->b≠fl->upd H' c' (CodeO lamQ c') b=some ob:=λb ob e a=>by
  by_cases z:b=c'
  ·rw[z,hC]at e;cases e;rw[z];exact A5
  ·exact up (sm b ob (keep2 b ob e a z))
 refine q r _ (λb ob e a=>k1 b ob (hK b ob e a) λz=>by rw[z,hfn]at e;cases e) ?_ ?_
 ·obtain⟨ps,e1,e2,e3⟩:=hT1
  exact TabHit.ok ⟨ps,k1 _ _ e1 (Ne.symm n2),e2,e3⟩ A5
 ·refine(R.mono (λa xs ha e=>⟨up e, ?_⟩)).1 hres
  have a1:a≠c':=C5 e hc'
  have a2:a≠fl:=C5 e hf'
  have a3:H2 a=none:=by
   cases z:H2 a with
   |none=>rfl
   |some y=>exact absurd (show H2 a≠none by rw[z];simp) ha.1
  rw[<-hH2,Y5 a1,Y5 a2]at a3
  cases z:H a with
  |none=>rfl
  |some y=>
   by_cases p:a=Pt
   ·obtain⟨ps,e1,_⟩:=hT1
    rw[p,e1]at a3;cases a3
   ·rw[hK a y z p]at a3;cases a3
end
end PL
namespace MC
open PySem L2 BV CL SW
inductive Rw where
 |own (rk:Rk)|back|call (b m:Nat)|apply
structure Bk where
 par:Nat
 sz:Nat
 rows:List Rw
structure Fr where
 k:Nat
 at_:Nat
 sl:List Vl
 st:List Vl
inductive Ou where
 |value (v:Vl)|refused (w:Str)|dry|deep
structure Ms where
 cs:List Cl
 frs:List Fr
 out:Option Ou
 r:Nat
 c:Nat
inductive Eo2 where
 |fr (d:Nat) (sl st:List Vl)|rf (w:Str)|new (c:Cl) (st:List Vl)
inductive Er (cs:List Cl) (sl:List Vl):Rk->List Vl->Eo2->Prop
 |push {v st}:scV v=true->Er cs sl (.push v) st (.fr 1 sl (st++ [.sc v]))
 |non {st}:Er cs sl .non st (.fr 1 sl (st++ [.sc .non]))
 |load {j v st}:sl[j]? =some v->Er cs sl (.load j) st (.fr 1 sl (st++ [v]))
 |keep {j v st}:j<sl.length->Er cs sl (.keep j) (st++ [v]) (.fr 1 (sl.take j++ [v]++sl.drop (j+1)) st)
 |twoV {k a b v st}:k<6->Bd a->Bd b->NM.tw k a b=[.str "value",v]->scV v=true->Er cs sl (.two k) (st++ [.sc (.int a),.sc (.int b)]) (.fr 1 sl (st++ [.sc v]))
 |twoR {k a b w st}:k<6->Bd a->Bd b->NM.tw k a b=[.str "refused",.str w]->Er cs sl (.two k) (st++ [.sc (.int a),.sc (.int b)]) (.rf w)
 |cons {x y st}:Er cs sl .cons (st++ [x,y]) (.new (.pair x y) st)
 |headN {st}:Er cs sl .head (st++ [.sc .non]) (.rf "head")
 |tailN {st}:Er cs sl .tail (st++ [.sc .non]) (.rf "tail")
 |head {j h t st}:cs[j]? =some (.pair h t)->Er cs sl .head (st++ [.cell j]) (.fr 1 sl (st++ [h]))
 |tail {j h t st}:cs[j]? =some (.pair h t)->Er cs sl .tail (st++ [.cell j]) (.fr 1 sl (st++ [t]))
 |emptyN {st}:Er cs sl .empty (st++ [.sc .non]) (.fr 1 sl (st++ [.sc (.bl true)]))
 |empty {j st}:Er cs sl .empty (st++ [.cell j]) (.fr 1 sl (st++ [.sc (.bl false)]))
 |not {b st}:Er cs sl .not (st++ [.sc (.bl b)]) (.fr 1 sl (st++ [.sc (.bl (!b))]))
 |skip {n st}:Er cs sl (.skip n) st (.fr (1+n) sl st)
 |unless {n b st}:Er cs sl (.unless n) (st++ [.sc (.bl b)]) (.fr (1+if b=true then 0 else n) sl st)
 |close {b n st xs}:xs.length=n->n<=10->Er cs sl (.close b n) (st++xs) (.new (.fn b xs) st)
noncomputable def NA(bs:List Bk)(f:Fr):Option Rw:=(bs[f.k]?).bind λb=>b.rows[f.at_]?
noncomputable def begun(n sz:Nat)(vs:List Vl):Fr:=⟨n,0,vs++List.replicate (sz - vs.length) (.sc .non),[]⟩
noncomputable def KB(w:Rw):Prop:=(∃b m,w=.call b m)\/w=.apply
inductive Act (bs:List Bk) (most:Nat) (cs:List Cl) (fs:List Fr) (f:Fr) (r c:Nat):Rw->Ms->Prop
 |own {rk d sl st}:Er cs f.sl rk f.st (.fr d sl st)->Act bs most cs fs f r c (.own rk) ⟨cs,fs++ [⟨f.k,f.at_+d,sl,st⟩],none,r+1,c⟩
 |new {rk cl st}:Er cs f.sl rk f.st (.new cl st)->Act bs most cs fs f r c (.own rk) ⟨cs++ [cl],fs++ [⟨f.k,f.at_+1,f.sl,st++ [.cell cs.length]⟩],none,r+1,c⟩
 |rf {rk w}:Er cs f.sl rk f.st (.rf w)->Act bs most cs fs f r c (.own rk) ⟨cs,[],some (.refused w),r+1,c⟩
 |last {v st}:fs=[]->f.st=st++ [v]->Act bs most cs fs f r c .back ⟨cs,[],some (.value v),r+1,c⟩
 |back {gs g v st}:fs=gs++ [g]->f.st=st++ [v]->Act bs most cs fs f r c .back ⟨cs,gs++ [⟨g.k,g.at_,g.sl,g.st++ [v]⟩],none,r+1,c⟩
 |dry {w}:KB w->most<=c->Act bs most cs fs f r c w ⟨cs,[],some .dry,r+1,c⟩
 |deep {w}:KB w->c<most->60<=fs.length+1->Act bs most cs fs f r c w ⟨cs,[],some .deep,r+1,c+1⟩
 |call {b bk st xs}:c<most->fs.length+1<60->f.st=st++xs->bs[b]? =some bk->xs.length<=bk.sz->Act bs most cs fs f r c (.call b xs.length) ⟨cs,fs++ [⟨f.k,f.at_+1,f.sl,st⟩]++ [begun b bk.sz xs],none,r+1,c+1⟩
 |apply {b bk st j xs x}:c<most->fs.length+1<60->f.st=st++ [.cell j,x]->cs[j]? =some (.fn (b:Nat) xs)->bs[b]? =some bk->xs.length+1<=bk.sz->
  Act bs most cs fs f r c .apply ⟨cs,fs++ [⟨f.k,f.at_+1,f.sl,st⟩]++ [begun b bk.sz (xs++ [x])],none,r+1,c+1⟩
noncomputable def cnZ(bs:List Bk)(most:Nat)(S S':Ms):Prop:=∃cs fs f r c w,S=⟨cs,fs++ [f],none,r,c⟩/\NA bs f=some w/\Act bs most cs fs f r c w S'
structure Small (S:Ms):Prop where
 cs:S.cs.length<=500
 frs:S.frs.length<=60
 fr:∀f∈S.frs,f.sl.length<=100/\f.st.length<=100
noncomputable def rwV:Rw->List V
 | .own rk=>rkV rk
 | .back=> [.str "back"]
 | .call b m=> [.str "call",.int (b:Nat),.int (m:Nat)]
 | .apply=> [.str "apply"]
noncomputable def RwAt(H:Hp)(r:Rw)(u:V):Prop:=∃p,u=.ref p/\H p=some (.tup (rwV r))
noncomputable def BAt(H:Hp)(b:Bk)(u:V):Prop:=∃t rs us,u=.ref t/\H t=some (.tup [.int (b.par:Nat),.int (b.sz:Nat),.ref rs])/\H rs=some (.tup us)/\All2 (RwAt H) b.rows us/\b.sz<=100
noncomputable def FAt(H:Hp)(f:Fr)(u:V):Prop:=∃p sl st,u=.ref p/\FrAt H p (f.k:Nat) (f.at_:Nat) sl st/\All2 (VAt H) f.sl sl/\All2 (VAt H) f.st st
noncomputable def OAt(H:Hp):Option Ou->V->Prop
 |none,u=>u=.non
 |some (.value x),u=>∃p v,u=.ref p/\H p=some (.tup [.str "value",v])/\VAt H x v
 |some (.refused w),u=>∃p,u=.ref p/\H p=some (.tup [.str "refused",.str w])
 |some .dry,u=>∃p,u=.ref p/\H p=some (.tup [.str "dry"])
 |some .deep,u=>∃p,u=.ref p/\H p=some (.tup [.str "deep"])
theorem RwAt.mo{H H':Hp}(m:Mo H H'){r:Rw}{u:V}(h:RwAt H r u):RwAt H' r u:=let⟨p,e,h1⟩:=h;⟨p,e,m _ _ h1⟩
theorem BAt.mo{H H':Hp}(m:Mo H H'){b:Bk}{u:V}(h:BAt H b u):BAt H' b u:=
 let⟨t,rs,us,e,h1,h2,h3,h4⟩:=h;⟨t,rs,us,e,m _ _ h1,m _ _ h2,h3.imp λ_ _ z=>RwAt.mo m z,h4⟩
theorem FAt.mo{H H':Hp}(m:Mo H H'){f:Fr}{u:V}(h:FAt H f u):FAt H' f u:=
 let⟨p,sl,st,e,⟨q,e',h1,h2,h3⟩,h4,h5⟩:=h;⟨p,sl,st,e,⟨q,e',m _ _ h1,m _ _ h2,m _ _ h3⟩,h4.imp λ_ _ z=>VAt.mo m z,h5.imp λ_ _ z=>VAt.mo m z⟩
theorem OAt.mo{H H':Hp}(m:Mo H H'):∀ {o:Option Ou} {u:V},OAt H o u->OAt H' o u
 |none,_,h=>h
 |some (.value _),_,⟨p,v,e,h1,h2⟩=>⟨p,v,e,m _ _ h1,VAt.mo m h2⟩
 |some (.refused _),_,⟨p,e,h1⟩=>⟨p,e,m _ _ h1⟩
 |some .dry,_,⟨p,e,h1⟩=>⟨p,e,m _ _ h1⟩
 |some .deep,_,⟨p,e,h1⟩=>⟨p,e,m _ _ h1⟩
structure Ad where
 m:Addr
 dx:Addr
 bl:Addr
 o:Addr
 L:Addr
 s:Addr
noncomputable def Ad.own(A:Ad):List Addr:=[A.m,A.bl,A.o,A.L,A.s]
noncomputable def K4(A:Ad)(most:Int)(out:V)(r c:Int):List (Str×V):=[("blocks",.ref A.bl),("most",.int most),("store",.ref A.o),("standing",.ref A.s),("outcome",out),("rows_so_far",.int r),("calls_so_far",.int c)]
structure MR (CM C:Addr) (H:Hp) (A:Ad) (bs us fs:List V) (most:Int) (out:V) (r c:Int):Prop where
 m:H A.m=some (.ins CM A.dx (K4 A most out r c))
 bl:H A.bl=some (.lst bs)
 o:CAt C H A.o A.L us
 s:H A.s=some (.lst fs)
 nLs:A.L≠A.s
 nbs:A.bl≠A.s
 nbL:A.bl≠A.L
structure MAt (CM C:Addr) (H:Hp) (A:Ad) (bs:List Bk) (most:Nat) (S:Ms):Prop where
 ex:∃vb us fs out,MR CM C H A vb us fs (most:Nat) out (S.r:Nat) (S.c:Nat)/\All2 (BAt H) bs vb/\All2 (ClAt H) S.cs us/\All2 (FAt H) S.frs fs/\OAt H S.out out
noncomputable def Kq(A:Ad)(H H':Hp):Prop:=∀b ob,H b=some ob->b∉A.own->H' b=some ob
theorem MR.ntup{CM C:Addr}{H:Hp}{A:Ad}{bs us fs:List V}{most r c:Int}{out:V}(h:MR CM C H A bs us fs most out r c){b:Addr}{xs:List V}(e:H b=some (.tup xs)):b∉A.own:=λhm=>by
 obtain⟨dx,ho,hL⟩:=h.o
 simp only[Ad.own,mem_cons,not_mem_nil,or_false]at hm
 rcases hm with z|z|z|z|z<;>rw[z]at e
 ·rw[h.m]at e;cases e
 ·rw[h.bl]at e;cases e
 ·rw[ho]at e;cases e
 ·rw[hL]at e;cases e
 ·rw[h.s]at e;cases e
theorem MR.mo{CM C:Addr}{H H':Hp}{A:Ad}{bs us fs:List V}{most r c:Int}{out:V}(h:MR CM C H A bs us fs most out r c)(k:Kq A H H'):Mo H H':=λ_ _ e=>k _ _ e (h.ntup e)
theorem MAt.same{CM C:Addr}{H H':Hp}{A:Ad}{bs:List Bk}{most:Nat}{S:Ms}(h:MAt CM C H A bs most S)(s:Same H H'):MAt CM C H' A bs most S:=by
 obtain⟨vb,us,fs,out,h1,h2,h3,h4,h5⟩:=h.ex
 have m:Mo H H':=B8 s
 exact⟨vb,us,fs,out,⟨s _ _ h1.m,s _ _ h1.bl,h1.o.same s,s _ _ h1.s,h1.nLs,h1.nbs,h1.nbL⟩,h2.imp λ_ _ z=>BAt.mo m z,h3.imp λ_ _ z=>ClAt.mo m z,h4.imp λ_ _ z=>FAt.mo m z,h5.mo m⟩
inductive EoR (H:Hp):Eo2->Eo->Prop
 |fr {d sl st sl' st'}:All2 (VAt H) sl sl'->All2 (VAt H) st st'->EoR H (.fr d sl st) (.fr (d:Nat) sl' st')
 |rf {w}:EoR H (.rf w) (.rf w)
 |pair {x y st x' y' st'}:VAt H x x'->VAt H y y'->All2 (VAt H) st st'->EoR H (.new (.pair x y) st) (.pair st' x' y')
 |fn {b:Nat} {xs st xs' st'}:All2 (VAt H) xs xs'->xs.length<=10->All2 (VAt H) st st'->EoR H (.new (.fn (b:Nat) xs) st) (.fn st' b xs')
theorem D9{α β:Type}{R:α->β->Prop}:∀ {as bs:List α} {cs:List β},All2 R (as++bs) cs->∃ds es,cs=ds++es/\All2 R as ds/\All2 R bs es
 | [],bs,cs,h=>⟨[],cs,rfl,.nil,h⟩
 |a::as,bs,cs,h=>by
  cases h with
  |cons h1 h2=>
   obtain⟨ds,es,e,h3,h4⟩:=D9 h2
   exact⟨_::ds,es,by rw[e];rfl,.cons h1 h3,h4⟩
theorem D1{α β:Type}{R:α->β->Prop}{as:List α}{a:α}{cs:List β}(h:All2 R (as++ [a]) cs):∃ds d,cs=ds++ [d]/\All2 R as ds/\R a d:=by
 obtain⟨ds,es,e,h1,h2⟩:=D9 h
 cases h2 with
 |cons h3 h4=>cases h4;exact⟨ds,_,e,h1,h3⟩
theorem J1{α β:Type}{R:α->β->Prop}{as:List α}{bs:List β}(h:All2 R as bs):∀ {j:Nat} {a:α},as[j]? =some a->∃b,bs[j]? =some b/\R a b:=by
 induction h with
 |nil=>intro j a e;simp at e
 |cons h _ ih=>
  intro j a e
  cases j with
  |zero=>simp only[List.getElem?_cons_zero,Option.some.injEq]at e;subst e;exact⟨_,rfl,h⟩
  |succ j=>simp only[List.getElem?_cons_succ]at e⊢;exact ih e
theorem CT{α β:Type}{R:α->β->Prop}{as:List α}{bs:List β}(h:All2 R as bs):∀n,All2 R (as.take n) (bs.take n):=by
 induction h with
 |nil=>intro n;simp only[List.take_nil];exact .nil
 |cons h _ ih=>
  intro n
  cases n with
  |zero=>exact .nil
  |succ n=>exact .cons h (ih n)
theorem all2_drop{α β:Type}{R:α->β->Prop}{as:List α}{bs:List β}(h:All2 R as bs):∀n,All2 R (as.drop n) (bs.drop n):=by
 induction h with
 |nil=>intro n;simp only[List.drop_nil];exact .nil
 |cons h t ih=>
  intro n
  cases n with
  |zero=>exact .cons h t
  |succ n=>exact ih n
theorem VAt.ns{H:Hp}:∀ {x:Vl} {v:V},VAt H x v->NS H v
 | .sc x,v,⟨e,h⟩=>by
  subst e
  cases v<;>first|exact .inl ⟨_,rfl⟩|exact .inr (.inl ⟨_,rfl⟩)|exact .inr (.inr (.inl rfl))|(cases h;done)
 | .cell k,v,⟨p,e,h⟩=> .inr (.inr (.inr ⟨p,_,e,h⟩))
theorem dnZ{H:Hp}{cs:List Cl}{us sl':List V}{sl:List Vl}(hc:All2 (ClAt H) cs us)(hs:All2 (VAt H) sl sl'){rk:Rk}{st:List Vl}{eo:Eo2}(h:Er cs sl rk st eo):∀ {st':List V},All2 (VAt H) st st'->∃eo',Ef H us sl' rk st' eo'/\EoR H eo eo':=by
 have n1:∀ {v:V},scV v=true->VAt H (.sc v) v:=λh=>⟨rfl,h⟩
 cases h with
 |push h=>exact λ{st'} ht=>⟨_,.push (cgZ h),.fr hs (ht.app (.cons (n1 h) .nil))⟩
 |non=>exact λ{st'} ht=>⟨_,.non,.fr hs (ht.app (.cons (n1 rfl) .nil))⟩
 |load h=>
  intro st' ht
  obtain⟨v',hv,hR⟩:=J1 hs h
  exact⟨_,.load hv,.fr hs (ht.app (.cons hR .nil))⟩
 |keep h=>
  intro st' ht
  obtain⟨ds,d,rfl,h1,h2⟩:=D1 ht
  exact⟨_,.keep (by rw[<-hs.len];exact h),.fr (((CT hs _).app (.cons h2 .nil)).app (all2_drop hs _)) h1⟩
 |twoV h1 h2 h3 h4 h5=>
  intro st' ht
  obtain⟨ds,es,rfl,t1,t2⟩:=D9 ht
  cases t2 with
  |cons a1 t3=>
   cases t3 with
   |cons a2 t4=>
    cases t4
    obtain⟨rfl,_⟩:=a1
    obtain⟨rfl,_⟩:=a2
    exact⟨_,.twoV h1 h2 h3 h4 (VAt.ns (n1 h5)),.fr hs (t1.app (.cons (n1 h5) .nil))⟩
 |twoR h1 h2 h3 h4=>
  intro st' ht
  obtain⟨ds,es,rfl,t1,t2⟩:=D9 ht
  cases t2 with
  |cons a1 t3=>
   cases t3 with
   |cons a2 t4=>
    cases t4
    obtain⟨rfl,_⟩:=a1
    obtain⟨rfl,_⟩:=a2
    exact⟨_,.twoR h1 h2 h3 h4,.rf⟩
 |cons=>
  intro st' ht
  obtain⟨ds,es,rfl,t1,t2⟩:=D9 ht
  cases t2 with
  |cons a1 t3=>
   cases t3 with
   |cons a2 t4=>
    cases t4
    exact⟨_,.cons,.pair a1 a2 t1⟩
 |headN=>
  intro st' ht
  obtain⟨ds,d,rfl,h1,rfl,_⟩:=D1 ht
  exact⟨_,.headN,.rf⟩
 |tailN=>
  intro st' ht
  obtain⟨ds,d,rfl,h1,rfl,_⟩:=D1 ht
  exact⟨_,.tailN,.rf⟩
 |head h=>
  intro st' ht
  obtain⟨ds,d,rfl,h1,p,rfl,hp⟩:=D1 ht
  obtain⟨u,hu,c,x,y,rfl,hcc,hx,hy⟩:=J1 hc h
  exact⟨_,.head hp hu hcc (VAt.ns hx),.fr hs (h1.app (.cons hx .nil))⟩
 |tail h=>
  intro st' ht
  obtain⟨ds,d,rfl,h1,p,rfl,hp⟩:=D1 ht
  obtain⟨u,hu,c,x,y,rfl,hcc,hx,hy⟩:=J1 hc h
  exact⟨_,.tail hp hu hcc (VAt.ns hy),.fr hs (h1.app (.cons hy .nil))⟩
 |emptyN=>
  intro st' ht
  obtain⟨ds,d,rfl,h1,rfl,_⟩:=D1 ht
  exact⟨_,.emptyN,.fr hs (h1.app (.cons (n1 rfl) .nil))⟩
 |empty=>
  intro st' ht
  obtain⟨ds,d,rfl,h1,p,rfl,hp⟩:=D1 ht
  exact⟨_,.empty hp,.fr hs (h1.app (.cons (n1 rfl) .nil))⟩
 |not=>
  intro st' ht
  obtain⟨ds,d,rfl,h1,rfl,_⟩:=D1 ht
  exact⟨_,.not,.fr hs (h1.app (.cons (n1 rfl) .nil))⟩
 |skip=>exact λ{st'} ht=>⟨_,.skip,.fr hs ht⟩
 | @«unless» n b st=>
  intro st' ht
  obtain⟨ds,d,rfl,h1,rfl,_⟩:=D1 ht
  refine⟨_,.unless, ?_⟩
  have e:(1+if b=true then 0 else(n:Int))=((1+if b=true then 0 else n:Nat):Int):=by cases b<;>simp
  rw[e]
  exact .fr hs h1
 |close h h'=>
  intro st' ht
  obtain⟨ds,es,rfl,t1,t2⟩:=D9 ht
  exact⟨_,.close (by rw[<-t2.len];exact h),.fn t2 (by omega) t1⟩
end MC
namespace MC
open PySem L2 CL SW
open BV hiding ifT ifF NoG top
seal PE PT PW PA PS PSs PTs PI PG PGs PO
noncomputable abbrev s_end:Stmt:=G5 (top 37) 5
noncomputable abbrev s_has_value:Stmt:=G5 (top 37) 9
noncomputable abbrev s_frames:Stmt:=G5 (top 37) 11
noncomputable abbrev s_cells:Stmt:=G5 (top 37) 12
noncomputable abbrev s_rows_done:Stmt:=G5 (top 37) 13
noncomputable abbrev s_calls:Stmt:=G5 (top 37) 14
noncomputable abbrev s_go_on:Stmt:=G5 (top 37) 2
noncomputable abbrev dsZ:List Str:=["self","outcome"]
theorem sc_end:FnScope dsZ WA (B4 s_end):=fS
noncomputable abbrev NC:List Str:=["self"]
theorem sc_has_value:FnScope NC K5 (B4 s_has_value):=fS
noncomputable abbrev NG:List Str:=["self"]
theorem sc_rows_done:FnScope NG K5 (B4 s_rows_done):=fS
noncomputable abbrev aCZ:List Str:=["self","told"]
theorem sc_go_on:FnScope aCZ bdZ (B4 s_go_on):=fS
structure MCls (K:FZ) (CM:Addr) (gf:Str->Addr) (gd:Str->FuncData):Prop where
 cl:Cls K CM
 n1:NoAttr K CM "blocks"
 n2:NoAttr K CM "most"
 n3:NoAttr K CM "store"
 n4:NoAttr K CM "standing"
 n5:NoAttr K CM "outcome"
 n6:NoAttr K CM "rows_so_far"
 n7:NoAttr K CM "calls_so_far"
 m_step:Meth K CM "step" (gf "step")
 m_go_on:Meth K CM "go_on" (gf "go_on")
 m_enter:Meth K CM "enter" (gf "enter")
 m_leave:Meth K CM "leave" (gf "leave")
 m_end:Meth K CM "end" (gf "end")
 m_collect:Meth K CM "collect" (gf "collect")
 m_hung_on:Meth K CM "hung_on" (gf "hung_on")
 m_hang_on:Meth K CM "hang_on" (gf "hang_on")
 m_has_value:Meth K CM "has_value" (gf "has_value")
 m_answer:Meth K CM "answer" (gf "answer")
 m_frames:Meth K CM "frames" (gf "frames")
 m_cells:Meth K CM "cells" (gf "cells")
 m_rows_done:Meth K CM "rows_done" (gf "rows_done")
 m_calls:Meth K CM "calls" (gf "calls")
 b_step:Binds K (gd "step") K5 []
 b_go_on:Binds K (gd "go_on") bdZ []
 b_enter:Binds K (gd "enter") bcZ []
 b_leave:Binds K (gd "leave") EI []
 b_end:Binds K (gd "end") WA []
 b_collect:Binds K (gd "collect") K5 []
 b_hung_on:Binds K (gd "hung_on") K5 []
 b_hang_on:Binds K (gd "hang_on") amZ []
 b_has_value:Binds K (gd "has_value") K5 []
 b_answer:Binds K (gd "answer") K5 []
 b_frames:Binds K (gd "frames") K5 []
 b_cells:Binds K (gd "cells") K5 []
 b_rows_done:Binds K (gd "rows_done") K5 []
 b_calls:Binds K (gd "calls") K5 []
section
variable{A:Ad}{most r c:Int}{out:V}
theorem l1:(K4 A most out r c).lookup ("blocks":Str)=some (.ref A.bl):=by rfl
theorem l2:(K4 A most out r c).lookup ("most":Str)=some (.int most):=by rfl
theorem l3:(K4 A most out r c).lookup ("store":Str)=some (.ref A.o):=by rfl
theorem l4:(K4 A most out r c).lookup ("standing":Str)=some (.ref A.s):=by rfl
theorem l5:(K4 A most out r c).lookup ("outcome":Str)=some out:=by rfl
theorem l6:(K4 A most out r c).lookup ("rows_so_far":Str)=some (.int r):=by rfl
theorem l7:(K4 A most out r c).lookup ("calls_so_far":Str)=some (.int c):=by rfl
theorem lf:(K4 A most out r c).length<1000:=by show 7<1000;decide
theorem p3(o L:Addr):T4 ("store":Str) (.ref o) (K4 A most out r c)=K4 {A with o:=o,L:=L} most out r c:=by rfl
theorem p4(s:Addr):T4 ("standing":Str) (.ref s) (K4 A most out r c)=K4 {A with s:=s} most out r c:=by rfl
theorem p5(u:V):T4 ("outcome":Str) u (K4 A most out r c)=K4 A most u r c:=by rfl
theorem p6(n:Int):T4 ("rows_so_far":Str) (.int n) (K4 A most out r c)=K4 A most out n c:=by rfl
theorem p7(n:Int):T4 ("calls_so_far":Str) (.int n) (K4 A most out r c)=K4 A most out r n:=by rfl
variable{P:Program}{w:World}{K:FZ}{mg:Str->Option Value}{base:Heap}{CM C:Addr}{gf mf:Str->Addr}{gd md:Str->FuncData}
theorem MR.same{H H':Hp}{A:Ad}{bs us fs:List V}{most r c:Int}{out:V}(h:MR CM C H A bs us fs most out r c)(s:Same H H'):MR CM C H' A bs us fs most out r c:=
 ⟨s _ _ h.m,s _ _ h.bl,h.o.same s,s _ _ h.s,h.nLs,h.nbs,h.nbL⟩
theorem MR.om{H:Hp}{A:Ad}{bs us fs:List V}{most r c:Int}{out:V}(h:MR CM C H A bs us fs most out r c):A.o≠A.m:=λe=>by
 obtain⟨dx,ho,hL⟩:=h.o
 have hm:=h.m
 rw[e,hm]at ho
 injection ho with ho
 injection ho with _ _ ho
 have:=congrArg List.length ho
 simp[K4]at this
theorem MR.putM{H:Hp}{A:Ad}{bs us fs:List V}{most r c:Int}{out:V}(h:MR CM C H A bs us fs most out r c)(r' c':Int)(out':V):MR CM C (upd H A.m (.ins CM A.dx (K4 A most out' r' c'))) A bs us fs most out' r' c':=by
 obtain⟨dx,ho,hL⟩:=h.o
 have hm:=h.m
 have n1:A.bl≠A.m:=λe=>by have:=h.bl;rw[e,hm]at this;cases this
 have n3:A.L≠A.m:=λe=>by rw[e,hm]at hL;cases hL
 have n4:A.s≠A.m:=λe=>by have:=h.s;rw[e,hm]at this;cases this
 exact⟨A5,by rw[B5 n1];exact h.bl,⟨dx,by rw[B5 h.om];exact ho,by rw[B5 n3];exact hL⟩,by rw[B5 n4];exact h.s,h.nLs,h.nbs,h.nbL⟩
theorem MR.putS{H:Hp}{A:Ad}{bs us fs gs:List V}{most r c:Int}{out:V}(h:MR CM C H A bs us fs most out r c){s:Addr}(hs:H s=none):MR CM C (upd (upd H s (.lst gs)) A.m (.ins CM A.dx (K4 {A with s:=s} most out r c))) {A with s:=s} bs us gs most out r c:=by
 have t:=A7 hs (.lst gs)
 have g:=h.same t
 obtain⟨dx,ho,hL⟩:=g.o
 have hm:=g.m
 have n1:A.bl≠A.m:=λe=>by have:=g.bl;rw[e,hm]at this;cases this
 have n3:A.L≠A.m:=λe=>by rw[e,hm]at hL;cases hL
 have n4:s≠A.m:=λe=>by rw[e,h.m]at hs;cases hs
 have n5:A.L≠s:=λe=>by obtain⟨_,_,hL'⟩:=h.o;rw[e,hs]at hL';cases hL'
 have n6:A.bl≠s:=λe=>by have:=h.bl;rw[e,hs]at this;cases this
 exact⟨A5,by rw[B5 n1];exact g.bl,⟨dx,by rw[B5 g.om];exact ho,by rw[B5 n3];exact hL⟩,by rw[B5 n4];exact A5,n5,n6,h.nbL⟩
theorem MR.setS{H:Hp}{A:Ad}{bs us fs gs:List V}{most r c:Int}{out:V}(h:MR CM C H A bs us fs most out r c):MR CM C (upd H A.s (.lst gs)) A bs us gs most out r c:=by
 obtain⟨dx,ho,hL⟩:=h.o
 have n1:A.m≠A.s:=λe=>by have:=h.m;rw[e,h.s]at this;cases this
 have n2:A.o≠A.s:=λe=>by rw[e,h.s]at ho;cases ho
 exact⟨by rw[B5 n1];exact h.m,by rw[B5 h.nbs];exact h.bl,⟨dx,by rw[B5 n2];exact ho,by rw[B5 h.nLs];exact hL⟩,A5,h.nLs,h.nbs,h.nbL⟩
theorem BO(A:Ad):A.m∈A.own:=mem_cons_self ..
theorem bFZ(A:Ad):A.L∈A.own:=by simp[Ad.own]
theorem DQ(A:Ad):A.s∈A.own:=by simp[Ad.own]
theorem Kq.refl(A:Ad)(H:Hp):Kq A H H:=λ_ _ e _=>e
theorem Kq.of{A:Ad}{H H':Hp}(s:Same H H'):Kq A H H':=λb o e _=>s b o e
theorem Kq.updO{A:Ad}{H:Hp}{b:Addr}(o:HO)(h:b∈A.own):Kq A H (upd H b o):=λx ob e n=>by rw[B5 (λz:x=b=>n (by rw[z];exact h))];exact e
theorem Kq.trans{A:Ad}{H H1 H2:Hp}(h:Kq A H H1)(h':Kq A H1 H2):Kq A H H2:=λb o e n=>h' b o (h b o e n) n
noncomputable def New(A A':Ad)(H:Hp):Prop:=A'.m=A.m/\∀x∈A'.own,x∈A.own\/H x=none
inductive spEndW (CM C:Addr) (vs:List V) (H:Hp) (Q:VK):Prop
 |mk:∀(A:Ad) (bs us fs:List V) (most:Int) (out:V) (r c:Int) (u:V),(vs=[.ref A.m,u])->(MR CM C H A bs us fs most out r c)->(∀s H',H s=none->Kq A H H'->MR CM C H' {A with s:=s} bs us [] most u r c->Q .non H')->spEndW CM C vs H Q
noncomputable def TH(CM C:Addr):Sp:=λvs H Q _=>spEndW CM C vs H Q
theorem ok_end(F:Fun K "end" "Machine.end" s_end (gf "end") (gd "end"))(RM:MCls K CM gf gd):FnOk P w K mg base CX0 1 (gf "end") (gd "end") WA (TH CM C):=by
 refine F.ok sc_end (λvs H Q E h=> ?_) (λcdv A outer s H vs Q E hr h=> ?_)
 ·obtain⟨A,bs,us,fs,most,out,r,c,u,rfl,_⟩:=h
  rfl
 obtain⟨A,bs,us,fs,most,out,r,c,u,rfl,hM,q⟩:=h
 have nd:=sc_end.nd
 refine⟨_,(A8 (Q1 (pv 0) (E6 A6) rfl)
   (B0 (Q1 (pv 0) (pv 1) rfl))), ?_⟩
 refine⟨(by show 0<=sizeLine;decide),λs hs=>⟨_,rfl,A.m,CM,A.dx,_,rfl,(A7 hs _) _ _ hM.m,RM.cl,RM.n4,lf, ?_⟩⟩
 rw[p4]
 have h1:=hM.putS (gs:=[]) hs
 have k1:Kq A H (upd (upd H s (.lst [])) A.m (.ins CM A.dx (K4 {A with s:=s} most out r c))):=(Kq.of (A7 hs _)).trans (Kq.updO _ (BO A))
 refine⟨_,rfl,_,rfl,A.m,CM,A.dx,_,rfl,h1.m,RM.cl,RM.n5,lf, ?_⟩
 rw[p5]
 exact q s _ hs (k1.trans (Kq.updO _ (BO A))) (h1.putM r c u)
noncomputable def OV(H:Hp)(u:V)(b:Bool):Prop:=(u=.non/\b=false)\/∃p w xs,u=.ref p/\H p=some (.tup (.str w::xs))/\b=decide (w="value")
noncomputable def X1:Option Ou->Bool
 |some (.value _)=>true
 |_=>false
theorem OAt.ov{H:Hp}:∀ {o:Option Ou} {u:V},OAt H o u->OV H u (X1 o)
 |none,_,h=> .inl ⟨h,rfl⟩
 |some (.value _),_,⟨p,v,e,h1,h2⟩=> .inr ⟨p,_,_,e,h1,rfl⟩
 |some (.refused _),_,⟨p,e,h1⟩=> .inr ⟨p,_,_,e,h1,(show false=decide (("refused":Str)="value") by decide)⟩
 |some .dry,_,⟨p,e,h1⟩=> .inr ⟨p,_,_,e,h1,by decide⟩
 |some .deep,_,⟨p,e,h1⟩=> .inr ⟨p,_,_,e,h1,by decide⟩
inductive spHasVW (CM:Addr) (vs:List V) (H:Hp) (Q:VK):Prop
 |mk:∀(A:Ad) (most:Int) (out:V) (r c:Int) (b:Bool),(vs=[.ref A.m])->(H A.m=some (.ins CM A.dx (K4 A most out r c)))->(OV H out b)->(Q (.bl b) H)->spHasVW CM vs H Q
noncomputable def KE(CM:Addr):Sp:=λvs H Q _=>spHasVW CM vs H Q
theorem ok_has_value(F:Fun K "has_value" "Machine.has_value" s_has_value (gf "has_value") (gd "has_value"))(RM:MCls K CM gf gd):FnOk P w K mg base CX0 1 (gf "has_value") (gd "has_value") K5 (KE CM):=by
 refine F.ok sc_has_value (λvs H Q E h=> ?_) (λcdv A outer s H vs Q E hr h=> ?_)
 ·obtain⟨A,most,out,r,c,b,rfl,_⟩:=h
  rfl
 obtain⟨A,most,out,r,c,b,rfl,hm,ho,q⟩:=h
 have nd:=sc_has_value.nd
 have hu:=hr.units0
 refine⟨_,(B0 (C2 (QK (Q7 SU (G0 (pv 0) rfl) Q4 rfl) (RI (Q7 (kEq (K:=K) hu) (ixE K w (G0 (pv 0) rfl) A9) B1 rfl))))), ?_⟩
 refine⟨_,rfl,A.m,CM,A.dx,_,_,rfl,hm,RM.cl,RM.n5,l5, ?_⟩
 rcases ho with⟨rfl,rfl⟩|⟨p,w,xs,rfl,hp,rfl⟩
 ·exact⟨rfl,_,rfl,ifF (by simp) q⟩
 ·refine⟨rfl,_,rfl,ifT (by simp) ⟨_,rfl,A.m,CM,A.dx,_,_,rfl,hm,RM.cl,RM.n5,l5,(ixT (v:=.str w) hp (D3 (j:=0) rfl) (.inl ⟨rfl, ?_⟩))⟩⟩
  have e:decide (V.str w=V.str "value")=decide (w="value"):=by simp
  rw[<-e]at q
  exact q
inductive spNumMW (CM C:Addr) (rows:Bool) (vs:List V) (H:Hp) (Q:VK):Prop
 |mk:∀(A:Ad) (most:Int) (out:V) (r c:Int),(vs=[.ref A.m])->(H A.m=some (.ins CM A.dx (K4 A most out r c)))->(Q (.int (if rows=true then r else c)) H)->spNumMW CM C rows vs H Q
noncomputable def QN(CM C:Addr)(rows:Bool):Sp:=λvs H Q _=>spNumMW CM C rows vs H Q
theorem ok_rows_done(F:Fun K "rows_done" "Machine.rows_done" s_rows_done (gf "rows_done") (gd "rows_done"))(RM:MCls K CM gf gd):FnOk P w K mg base CX0 1 (gf "rows_done") (gd "rows_done") K5 (QN CM C true):=by
 refine F.ok sc_rows_done (λvs H Q E h=> ?_) (λcdv A outer s H vs Q E hr h=> ?_)
 ·obtain⟨A,most,out,r,c,rfl,_⟩:=h
  rfl
 obtain⟨A,most,out,r,c,rfl,hM,q⟩:=h
 have nd:=sc_rows_done.nd
 refine⟨_,(B0 (C2 (G0 (pv 0) rfl))), ?_⟩
 exact⟨_,rfl,A.m,CM,A.dx,_,_,rfl,hM,RM.cl,RM.n6,l6,q⟩
end
noncomputable abbrev s_leave:Stmt:=G5 (top 37) 4
noncomputable abbrev s_enter:Stmt:=G5 (top 37) 3
noncomputable abbrev a0Z:List Str:=["self","value","below"]
theorem sc_leave:FnScope a0Z EI (B4 s_leave):=fS
noncomputable abbrev awZ:List Str:=["self","frame","row","frames"]
theorem sc_enter:FnScope awZ bcZ (B4 s_enter):=fS
theorem KO{α:Type}(xs:List α)(x:α):ixN (xs++ [x]).length (-1)=some xs.length:=by
 unfold ixN
 rw[if_neg (by decide),if_pos (by simp;omega)]
 congr 1
 simp
 omega
theorem GG{α:Type}(xs:List α)(x y:α):(xs++ [x]).set xs.length y=xs++ [y]:=by simp
section
variable{P:Program}{w:World}{K:FZ}{mg:Str->Option Value}{base:Heap}{CM C:Addr}{gf mf:Str->Addr}{gd md:Str->FuncData}{WF:Addr}{WJ:FuncData}
inductive spGoOnW(CM C:Addr)(vs:List V)(H:Hp)(Q:VK):Prop
 |mk:∀(A:Ad) (bs us fs:List V) (most:Int) (out:V) (r c:Int) (p:Addr),(vs=[.ref A.m,.ref p])->(MR CM C H A bs us fs most out r c)->(((∃q fs0 f0,H p=some (.tup [.str "frame",.ref q])/\fs=fs0++ [f0]/\∀H',Kq A H H'->MR CM C H' A bs us (fs0++ [.ref q]) most out r c->Q .non H')\/(∃w,H p=some (.tup [.str "refused",.str w])/\∀s H',H s=none->Kq A H H'->MR CM C H' {A with s:=s} bs us [] most (.ref p) r c->Q .non H')))->spGoOnW CM C vs H Q
noncomputable def YE(CM C:Addr):Sp:=λvs H Q _=>spGoOnW CM C vs H Q
theorem ok_go_on(F:Fun K "go_on" "Machine.go_on" s_go_on (gf "go_on") (gd "go_on"))(RM:MCls K CM gf gd)
  (DH:FnOk P w K mg base CX0 1 (gf "end") (gd "end") WA (TH CM C)):FnOk P w K mg base CX0 2 (gf "go_on") (gd "go_on") bdZ (YE CM C):=by
 refine F.ok sc_go_on (λvs H Q E h=> ?_) (λcdv A outer s H vs Q E hr h=> ?_)
 ·obtain⟨A,bs,us,fs,most,out,r,c,p,rfl,_⟩:=h
  rfl
 obtain⟨A,bs,us,fs,most,out,r,c,p,rfl,hM,h⟩:=h
 have nd:=sc_go_on.nd
 have hu:=hr.units0
 refine⟨_,(B0 (E1 (D8 (B9 (kEq (K:=K) hu) (ixE K w (pv 1) A9) B1 rfl) (B0 (Q3 (ixE K w (pv 1) A9) (U3 (G0 (pv 0) rfl) (N3 K6 A9) T2))) (B0 (C3 (L0 (pv 0) RM.cl RM.m_end DH (hr.mono (by omega)) RM.b_end .nil C0 (A0 (pv 1) A6))))))), ?_⟩
 refine⟨λ_ H'=>Q .non H', ?_,λ_ _ h=>h⟩
 rcases h with⟨q,fs0,f0,hp,rfl,fin⟩|⟨w,hp,fin⟩
 ·refine⟨_,rfl,(ixT hp rfl (.inl ⟨rfl,_,rfl,ifT rfl ?_⟩))⟩
  refine⟨_,rfl,(ixT hp rfl ?_)⟩
  refine⟨_,rfl,A.m,CM,A.dx,_,_,rfl,hM.m,RM.cl,RM.n4,l4,_,rfl,A.s,_,_,fs0.length,rfl,rfl,hM.s,KO _ _, ?_⟩
  rw[GG]
  exact fin _ (Kq.updO _ (DQ A)) hM.setS
 ·refine⟨_,rfl,(ixT hp rfl (.inl ⟨rfl,_,rfl,ifF (by decide) ?_⟩))⟩
  exact⟨_,rfl,A.m,A.dx,_,rfl,hM.m,rfl,_,rfl,A,bs,us,fs,most,out,r,c,_,rfl,hM,λs H' hs k h=>fin s H' hs k h⟩
inductive spLeaveW (CM C:Addr) (vs:List V) (H:Hp) (Q:VK):Prop
 |mk:∀(A:Ad) (bs us fs:List V) (most:Int) (out:V) (r c:Int) (v:V),(vs=[.ref A.m,v])->(MR CM C H A bs us fs most out r c)->(((∃f,fs=[f]/\∀s p H',H s=none->Kq A H H'->MR CM C H' {A with s:=s} bs us [] most (.ref p) r c->H' p=some (.tup [.str "value",v])->Q .non H')\/(∃fs0 g f gk gat gsl gst,fs=fs0++ [.ref g]++ [f]/\FrAt H g gk gat gsl gst/\gst.length<=500/\∀g' H',Kq A H H'->MR CM C H' A bs us (fs0++ [.ref g']) most out r c->FrAt H' g' gk gat gsl (gst++ [v])->Q .non H')))->spLeaveW CM C vs H Q
noncomputable def RO(CM C:Addr):Sp:=λvs H Q _=>spLeaveW CM C vs H Q
theorem ok_leave(F:Fun K "leave" "Machine.leave" s_leave (gf "leave") (gd "leave"))(B:NoG mg)(RM:MCls K CM gf gd)
  (DH:FnOk P w K mg base CX0 1 (gf "end") (gd "end") WA (TH CM C)):FnOk P w K mg base CX0 2 (gf "leave") (gd "leave") EI (RO CM C):=by
 refine F.ok sc_leave (λvs H Q E h=> ?_) (λcdv A outer s H vs Q E hr h=> ?_)
 ·obtain⟨A,bs,us,fs,most,out,r,c,v,rfl,_⟩:=h
  rfl
 obtain⟨A,bs,us,fs,most,out,r,c,v,rfl,hM,h⟩:=h
 have nd:=sc_leave.nd
 have hu:=hr.units0
 have zz:(1000:Nat)<=sizeLine:=by decide
 refine⟨_,(A8 (D8 (B9 (kEq (K:=K) hu) (C4 (J8 (K:=K)) rfl B.len_ G1 (A0 (G0 (pv 0) rfl) A6)) A9 rfl) (A8 (C3 (L0 (pv 0) RM.cl RM.m_end DH (hr.mono (by omega)) RM.b_end .nil C0 (A0 (C1 (A0 B1 (A0 (pv 1) A6))) A6)))
   (B0 V9)) D2)
   (A8 (C3 (IL (K:=K) PySem.F.plainAttrs_list PySem.F.slot_list_pop PySem.F.type_list_pop DA (G0 (pv 0) rfl)))
   (A8 (C7 (i:=2) nd rfl (Or.inl rfl) (ixE K w (G0 (pv 0) rfl) (N3 K6 A9)))
   (B0 (Q3 (B7 (N4 (K:=K)) (G4 (AG (K:=K)) (pv 2) M4 (G6 A9)) (C1 (A0 (B7 (N4 (K:=K)) (ixE K w (pv 2) A9) (C1 (A0 (pv 1) A6))) A6))) (U3 (G0 (pv 0) rfl) (N3 K6 A9) T2)))))), ?_⟩
 refine⟨_,rfl,A.m,CM,A.dx,_,_,rfl,hM.m,RM.cl,RM.n4,l4,_,_,rfl,.inl ⟨_,SqL.of hM.s,rfl⟩,.inl ⟨rfl,_,rfl, ?_⟩⟩
 rcases h with⟨f,rfl,fin⟩|⟨fs0,g,f,gk,gat,gsl,gst,rfl,hg,hgz,fin⟩
 ·refine ifT (by simp) ?_
  refine⟨_,rfl,A.m,A.dx,_,rfl,hM.m,rfl,_,rfl,(by show 2<=sizeLine;omega),λp hp=> ?_⟩
  have t:=A7 hp (.tup [.str "value",v])
  refine⟨A,bs,us,_,most,out,r,c,_,rfl,hM.same t,λs H' hs k h=>fin s p H' (t.free hs) ((Kq.of t).trans k) h (k _ _ A5 ((hM.same t).ntup A5))⟩
 ·refine ifF (λz=>by have:=V.int.inj (of_decide_eq_true z);rw[length_append,length_append]at this;simp at this;omega) ?_
  have hdl:(fs0++ [V.ref g]++ [f]).dropLast=fs0++ [V.ref g]:=List.dropLast_concat ..
  refine⟨_,rfl,A.m,CM,A.dx,_,_,rfl,hM.m,RM.cl,RM.n4,l4,.inl ⟨rfl,_,SqL.of hM.s⟩,A.s,_,f,rfl,rfl,hM.s,by simp, ?_⟩
  rw[hdl]
  have h1:=hM.setS (gs:=fs0++ [.ref g])
  have k1:Kq A H (upd H A.s (.lst (fs0++ [.ref g]))):=Kq.updO _ (DQ A)
  obtain⟨q0,e0,g1,g2,g3⟩:=hg
  have mo:=hM.mo k1
  replace g1:=mo _ _ g1
  replace g2:=mo _ _ g2
  replace g3:=mo _ _ g3
  show O6 _ _ _ [some (.ref A.m),some v,none] (upd H A.s (.lst (fs0++ [.ref g])))
  generalize upd H A.s (.lst (fs0++ [.ref g]))=H1 at h1 k1 g1 g2 g3⊢
  refine⟨_,rfl,A.m,CM,A.dx,_,_,rfl,h1.m,RM.cl,RM.n4,l4,_,rfl,(ixL (v:=.ref g) h1.s (M9 _ _) ?_)⟩
  have ec:J9 [.int gk,.int gat,.ref q0,.ref e0] none (some 3)=[.int gk,.int gat,.ref q0]:=QH _ 3
  refine⟨_,rfl,_,rfl,T6 g1 λra H2 s2 hra=> ?_⟩
  rw[ec]at hra
  refine⟨_,rfl,(ixT (s2 _ _ g1) rfl ⟨_,rfl,(by show 1<=sizeLine;omega),λpv hpv=> ?_⟩)⟩
  have s3:=A7 hpv (.tup [v])
  refine .inr (.inr (Q8 (s3 _ _ (s2 _ _ g3)) A5 (by simp;omega) λrb H3 s4 hrb=>⟨(by show 1<=sizeLine;omega),λpw hpw=> ?_⟩))
  have s5:=A7 hpw (.tup [.ref rb])
  have s25:=s2.trans (s3.trans (s4.trans s5))
  have hra5:=(s3.trans (s4.trans s5)) _ _ hra
  refine .inr (.inr (Q8 hra5 A5 (by simp) λrc H4 s6 hrc=> ?_))
  have s26:=s25.trans s6
  have h4:=h1.same s26
  refine⟨_,rfl,A.m,CM,A.dx,_,_,rfl,h4.m,RM.cl,RM.n4,l4,_,rfl,A.s,_,_,fs0.length,rfl,rfl,h4.s,KO _ _, ?_⟩
  rw[GG]
  have k5:Kq A H (upd H4 A.s (.lst (fs0++ [.ref rc]))):=k1.trans ((Kq.of s26).trans (Kq.updO _ (DQ A)))
  have mo5:=h4.mo (Kq.updO (.lst (fs0++ [.ref rc])) (DQ A))
  exact fin rc _ k5 h4.setS ⟨q0,rb,mo5 _ _ hrc,mo5 _ _ (s26 _ _ g2),mo5 _ _ ((s5.trans s6) _ _ hrb)⟩
noncomputable def Cl2(H:Hp)(bs us:List V)(rw:Addr)(st bel:List V)(wh:Nat)(ys:List V)(sz:Nat):Prop:=
 (∃m:Nat,H rw=some (.tup [.str "call",.int (wh:Nat),.int (m:Nat)])/\m<=st.length/\BkAt H bs wh sz/\m<=sz/\sz<=500/\bel=st.take (st.length - m)/\ys=st.drop (st.length - m))\/
 (∃(cv:Addr) (x:V) (j:Nat) (fc vt:Addr) (xs:List V),H rw=some (.tup [.str "apply"])/\st=bel++ [.ref cv,x]/\H cv=some (.tup [.str "cell",.int (j:Nat)])/\us[j]? =some (.ref fc)/\H fc=some (.tup [.str "fn",.int (wh:Nat),.ref vt])/\H vt=some (.tup xs)/\BkAt H bs wh sz/\xs.length+1<=sz/\sz<=500/\ys=xs++ [x])
theorem Cl2.mo{H H':Hp}(m:Mo H H'){bs us:List V}{rw:Addr}{st bel:List V}{wh:Nat}{ys:List V}{sz:Nat}(h:Cl2 H bs us rw st bel wh ys sz):Cl2 H' bs us rw st bel wh ys sz:=by
 rcases h with⟨k,h1,h2,h3,h4⟩|⟨cv,x,j,fc,vt,xs,h1,h2,h3,h4,h5,h6,h7,h8⟩
 ·exact .inl ⟨k,m _ _ h1,h2,h3.mono m,h4⟩
 ·exact .inr ⟨cv,x,j,fc,vt,xs,m _ _ h1,h2,m _ _ h3,h4,m _ _ h5,m _ _ h6,h7.mono m,h8⟩
inductive spEnterW (CM C:Addr) (vs:List V) (H:Hp) (Q:VK):Prop
 |mk:∀(A:Ad) (bs us fs0:List V) (most:Int) (out:V) (r c:Int) (fr rw:Addr),(vs=[.ref A.m,.ref fr,.ref rw])->(MR CM C H A bs us (fs0++ [.ref fr]) most out r c)->(fs0.length<=60)->(((most<=c/\∀s p H',H s=none->Kq A H H'->MR CM C H' {A with s:=s} bs us [] most (.ref p) r c->H' p=some (.tup [.str "dry"])->Q .non H')\/(c<most/\60<=fs0.length+1/\∀s p H',H s=none->Kq A H H'->MR CM C H' {A with s:=s} bs us [] most (.ref p) r (c+1)->H' p=some (.tup [.str "deep"])->Q .non H')\/(c<most/\fs0.length+1<60/\∃k at_ sl st bel wh ys sz,FrAt H fr k at_ sl st/\st.length<=500/\Cl2 H bs us rw st bel wh ys sz/\∀p1 p2 H',Kq A H H'->MR CM C H' A bs us (fs0++ [.ref p1]++ [.ref p2]) most out r (c+1)->FrAt H' p1 k (at_+1) sl bel->FrAt H' p2 wh 0 (ys++List.replicate (sz - ys.length) .non) []->Q .non H')))->spEnterW CM C vs H Q
noncomputable def SJ(CM C:Addr):Sp:=λvs H Q _=>spEnterW CM C vs H Q
theorem ok_enter(F:Fun K "enter" "Machine.enter" s_enter (gf "enter") (gd "enter"))(B:NoG mg)(RM:MCls K CM gf gd)(m_DEEPEST:∃t,mg "DEEPEST"=some (.int 60 t))
  (DH:FnOk P w K mg base CX0 1 (gf "end") (gd "end") WA (TH CM C))
  (ER:Cn P w K mg base CX0 2 "called" cbZ (OI C)):
  FnOk P w K mg base CX0 3 (gf "enter") (gd "enter") bcZ (SJ CM C):=by
 obtain⟨WF,WJ,ER,WI,WG,WH⟩:=ER
 obtain⟨tk,m_DEEPEST⟩:=m_DEEPEST
 refine F.ok sc_enter (λvs H Q E h=> ?_) (λcdv A outer s H vs Q E hr h=> ?_)
 ·obtain⟨A,bs,us,fs0,most,out,r,c,fr,rw,rfl,_⟩:=h
  rfl
 obtain⟨A,bs,us,fs0,most,out,r,c,fr,rw,rfl,hM,hfz,h⟩:=h
 have nd:=sc_enter.nd
 have hu:=hr.units0
 have zz:(1000:Nat)<=sizeLine:=by decide
 refine⟨_,(A8 (D8 (B9 buZ (G0 (pv 0) rfl) (G0 (pv 0) rfl) rfl) (A8 (C3 (L0 (pv 0) RM.cl RM.m_end DH (hr.mono (by omega)) RM.b_end .nil C0 (A0 (C1 (A0 B1 A6)) A6)))
   (B0 V9)) D2)
   (A8 (IJ (pv 0) A9 YU)
   (A8 (D8 (B9 buZ (C4 (J8 (K:=K)) rfl B.len_ G1 (A0 (G0 (pv 0) rfl) A6)) (BY (v:=.int 60) rfl m_DEEPEST ⟨_,rfl⟩) rfl) (A8 (C3 (L0 (pv 0) RM.cl RM.m_end DH (hr.mono (by omega)) RM.b_end .nil C0 (A0 (C1 (A0 B1 A6)) A6)))
   (B0 V9)) D2)
   (A8 (C7 (i:=3) nd rfl (Or.inl rfl) (B6 ER (hr.mono (by omega)) rfl WH WG WI .nil C0 (A0 (G0 (pv 0) rfl) (A0 (G0 (pv 0) rfl) (A0 (pv 1) (A0 (pv 2) A6))))))
   (A8 (Q3 (ixE K w (pv 3) A9) (U3 (G0 (pv 0) rfl) (N3 K6 A9) T2))
   (B0 (C3 (M1 (K:=K) PySem.F.plainAttrs_list PySem.F.slot_list_append PySem.F.type_list_append C8 (G0 (pv 0) rfl) (A0 (ixE K w (pv 3) A9) A6))))))))), ?_⟩
 refine⟨_,rfl,A.m,CM,A.dx,_,_,rfl,hM.m,RM.cl,RM.n7,l7,_,rfl,A.m,CM,A.dx,_,_,rfl,hM.m,RM.cl,RM.n2,l2,_,_,rfl,rfl,_,rfl, ?_⟩
 rcases h with⟨hmc,fin⟩|h
 ·refine ifT (decide_eq_true hmc) ?_
  refine⟨_,rfl,A.m,A.dx,_,rfl,hM.m,rfl,(by show 1<=sizeLine;omega),λp hp=> ?_⟩
  have t:=A7 hp (.tup [.str "dry"])
  exact⟨A,bs,us,_,most,out,r,c,_,rfl,hM.same t,λs H' hs k h=>fin s p H' (t.free hs) ((Kq.of t).trans k) h (k _ _ A5 ((hM.same t).ntup A5))⟩
 have hlt:c<most:=by rcases h with⟨h,_⟩|⟨h,_⟩<;>exact h
 refine ifF (by rw[decide_eq_true_eq];show¬(most<=c);omega) ?_
 refine⟨_,rfl,A.m,CM,A.dx,_,_,rfl,hM.m,RM.cl,RM.n7,l7,_,_,rfl,rfl,A.dx,_,hM.m,lf, ?_⟩
 rw[p7]
 have h1:=hM.putM r (c+1) out
 have k1:Kq A H (upd H A.m (.ins CM A.dx (K4 A most out r (c+1)))):=Kq.updO _ (BO A)
 have mo1:=hM.mo k1
 have fr1:∀ {x:Addr},upd H A.m (.ins CM A.dx (K4 A most out r (c+1))) x=none->H x=none:=λ{x} e=>by
  by_cases z:x=A.m
  ·rw[z,A5]at e;cases e
  ·rw[B5 z]at e;exact e
 show O6 _ _ _ [some (.ref A.m),some (.ref fr),some (.ref rw),none] (upd H A.m (.ins CM A.dx (K4 A most out r (c+1))))
 generalize upd H A.m (.ins CM A.dx (K4 A most out r (c+1)))=H1 at h1 k1 mo1 fr1⊢
 refine⟨_,rfl,A.m,CM,A.dx,_,_,rfl,h1.m,RM.cl,RM.n4,l4,_,_,rfl,.inl ⟨_,SqL.of h1.s,rfl⟩,_,_,rfl,rfl,_,rfl, ?_⟩
 rcases h with⟨_,h60,fin⟩|⟨_,h60,k,at_,sl,st,bel,wh,ys,sz,hF,hst,hC,fin⟩
 ·refine ifT (decide_eq_true (by simp only[length_append,length_singleton];omega)) ?_
  refine⟨_,rfl,A.m,A.dx,_,rfl,h1.m,rfl,(by show 1<=sizeLine;omega),λp hp=> ?_⟩
  have t:=A7 hp (.tup [.str "deep"])
  exact⟨A,bs,us,_,most,out,r,c+1,_,rfl,h1.same t,λs H' hs k h=>fin s p H' (fr1 (t.free hs)) (k1.trans ((Kq.of t).trans k)) h (k _ _ A5 ((h1.same t).ntup A5))⟩
 refine ifF (by rw[decide_eq_true_eq];simp only[length_append,length_singleton];omega) ?_
 have hF1:=hF
 obtain⟨q0,e0,g1,g2,g3⟩:=hF
 have hFr:FrAt H1 fr k at_ sl st:=⟨q0,e0,mo1 _ _ g1,mo1 _ _ g2,mo1 _ _ g3⟩
 have hC1:=hC.mo mo1
 refine⟨_,rfl,A.m,CM,A.dx,_,_,rfl,h1.m,RM.cl,RM.n1,l1,_,rfl,A.m,CM,A.dx,_,_,rfl,h1.m,RM.cl,RM.n3,l3,_,rfl,_,rfl, ?_⟩
 refine⟨A.bl,bs,A.o,A.L,us,fr,k,at_,sl,st,rw,rfl,h1.bl,h1.o,hFr,hst, ?_⟩
 suffices yes:Two H1 _ k at_ sl bel wh ys sz from by
  rcases hC1 with⟨m,a1,a2,a3,a4,a5,e1,e2⟩|⟨cv,x,j,fc,vt,xs,b1,b2,b3,b4,b5,b6,b7,b8,b9,e2⟩
  ·subst e1 e2
   exact .inl ⟨wh,m,sz,a1,a2,a3,a4,a5,yes⟩
  ·subst e2
   exact .inr ⟨wh,sz,bel,cv,x,j,fc,vt,xs,b1,b2,b3,b4,b5,b6,b7,b8,b9,yes⟩
 intro p p1 p2 H2 s2 hp hf1 hf2
 have h2:=h1.same s2
 refine⟨_,rfl,(ixT hp rfl ?_)⟩
 refine⟨_,rfl,A.m,CM,A.dx,_,_,rfl,h2.m,RM.cl,RM.n4,l4,_,rfl,A.s,_,_,fs0.length,rfl,rfl,h2.s,KO _ _, ?_⟩
 rw[GG]
 have h3:=h2.setS (gs:=fs0++ [.ref p1])
 have k3:Kq A H2 (upd H2 A.s (.lst (fs0++ [.ref p1]))):=Kq.updO _ (DQ A)
 have mo3:=h2.mo k3
 show O6 _ _ _ [some (.ref A.m),some (.ref fr),some (.ref rw),some (.ref p)] (upd H2 A.s (.lst (fs0++ [.ref p1])))
 generalize upd H2 A.s (.lst (fs0++ [.ref p1]))=H3 at h3 k3 mo3⊢
 refine⟨_,rfl,A.m,CM,A.dx,_,_,rfl,h3.m,RM.cl,RM.n4,l4,.inl ⟨rfl,_,SqL.of h3.s⟩,_,rfl,(ixT (mo3 _ _ hp) rfl ⟨A.s,_,_,rfl,rfl,h3.s,by simp;omega, ?_⟩)⟩
 have k4:Kq A H3 (upd H3 A.s (.lst (fs0++ [.ref p1]++ [.ref p2]))):=Kq.updO _ (DQ A)
 have mo4:=h3.mo k4
 obtain⟨a1,a2,a3,a4,a5⟩:=hf1
 obtain⟨b1,b2,b3,b4,b5⟩:=hf2
 exact fin p1 p2 _ (k1.trans ((Kq.of s2).trans (k3.trans k4))) h3.setS ⟨a1,a2,mo4 _ _ (mo3 _ _ a3),mo4 _ _ (mo3 _ _ a4),mo4 _ _ (mo3 _ _ a5)⟩ ⟨b1,b2,mo4 _ _ (mo3 _ _ b3),mo4 _ _ (mo3 _ _ b4),mo4 _ _ (mo3 _ _ b5)⟩
end
noncomputable abbrev s_step:Stmt:=G5 (top 37) 1
noncomputable abbrev clZ:List Str:=["self","frame","row"]
theorem sc_step:FnScope clZ K5 (B4 s_step):=fS
noncomputable def K9:List Str:=["push","none","load","keep","add","sub","mul","div","less","same","cons","head","tail","empty","not","skip","unless","close"]
theorem YX:∀w∈K9,w≠ "back"/\inV (.str w) [.str "call",.str "apply"]=false:=by decide +kernel
theorem cuZ(k:Nat):wd k∈K9:=by
 match k with
 |0=>decide +kernel
 |1=>decide +kernel
 |2=>decide +kernel
 |3=>decide +kernel
 |4=>decide +kernel
 |n+5=>show("div":Str)∈K9;decide +kernel
theorem auZ(rk:Rk):X2 rk∈K9:=by
 cases rk with
 |push _=>exact(by decide +kernel:("push":Str)∈K9)
 |non=>exact(by decide +kernel:("none":Str)∈K9)
 |load _=>exact(by decide +kernel:("load":Str)∈K9)
 |keep _=>exact(by decide +kernel:("keep":Str)∈K9)
 |two k=>exact cuZ k
 |cons=>exact(by decide +kernel:("cons":Str)∈K9)
 |head=>exact(by decide +kernel:("head":Str)∈K9)
 |tail=>exact(by decide +kernel:("tail":Str)∈K9)
 |empty=>exact(by decide +kernel:("empty":Str)∈K9)
 |not=>exact(by decide +kernel:("not":Str)∈K9)
 |skip _=>exact(by decide +kernel:("skip":Str)∈K9)
 |«unless» _=>exact(by decide +kernel:("unless":Str)∈K9)
 |close _ _=>exact(by decide +kernel:("close":Str)∈K9)
theorem YV(rk:Rk):X2 rk≠ "back"/\inV (.str (X2 rk)) [.str "call",.str "apply"]=false:=YX _ (auZ rk)
theorem BN{H:Hp}:∀n:Nat,All2 (VAt H) (List.replicate n (.sc .non)) (List.replicate n .non)
 |0=> .nil
 |n+1=> .cons ⟨rfl,rfl⟩ (BN n)
theorem MR.bt{CM C:Addr}{H H':Hp}{A:Ad}{bs us us' fs:List V}{most r c:Int}{out:V}(h:MR CM C H A bs us fs most out r c)(b:Bt A.L H H')(hc:CAt C H' A.o A.L us'):MR CM C H' A bs us' fs most out r c:=by
 obtain⟨dx,ho,hL⟩:=h.o
 exact⟨b _ _ h.m (λe=>by have:=h.m;rw[e,hL]at this;cases this),b _ _ h.bl h.nbL,hc,b _ _ h.s (Ne.symm h.nLs),h.nLs,h.nbs,h.nbL⟩
theorem Kq.bt{A:Ad}{H H':Hp}(b:Bt A.L H H'):Kq A H H':=λx o e n=>b x o e λz=>n (by rw[z];exact bFZ A)
theorem FrAt.mo'{H H':Hp}(m:Mo H H'){p:Addr}{k a:Int}{sl st:List V}(h:FrAt H p k a sl st):FrAt H' p k a sl st:=by
 obtain⟨q,e,h1,h2,h3⟩:=h
 exact⟨q,e,m _ _ h1,m _ _ h2,m _ _ h3⟩
section
variable{P:Program}{w:World}{K:FZ}{mg:Str->Option Value}{base:Heap}{CM C:Addr}{gf mf:Str->Addr}{gd md:Str->FuncData}{PC:Addr}{PN:FuncData}
inductive spStepW(CM C:Addr)(vs:List V)(H:Hp)(Q:VK):Prop
 |mk:∀(A:Ad) (bs:List Bk) (most:Nat) (S:Ms),(vs=[.ref A.m])->(MAt CM C H A bs most S)->(Small S)->(((S.frs=[]/\Q (.bl false) H)\/∃S',cnZ bs most S S'/\∀A' H',New A A' H->Kq A H H'->MAt CM C H' A' bs most S'->Q (.bl true) H'))->spStepW CM C vs H Q
noncomputable def RL(CM C:Addr):Sp:=λvs H Q _=>spStepW CM C vs H Q
theorem ok_step(F:Fun K "step" "Machine.step" s_step (gf "step") (gd "step"))(RM:MCls K CM gf gd)
  (afZ:FnOk P w K mg base CX0 2 (gf "leave") (gd "leave") EI (RO CM C))
  (aeZ:FnOk P w K mg base CX0 3 (gf "enter") (gd "enter") bcZ (SJ CM C))
  (ZZ:FnOk P w K mg base CX0 2 (gf "go_on") (gd "go_on") bdZ (YE CM C))
  (AN:Cn P w K mg base CX0 4 "own_done" VB (byZ C)):
  FnOk P w K mg base CX0 5 (gf "step") (gd "step") K5 (RL CM C):=by
 obtain⟨PC,PN,AN,OY,OO,PQ⟩:=AN
 refine F.ok sc_step (λvs H Q E h=> ?_) (λcdv A outer s H vs Q E hr h=> ?_)
 ·obtain⟨A,bs,most,S,rfl,_⟩:=h
  rfl
 obtain⟨A,bs,most,S,rfl,hA,hS,h⟩:=h
 obtain⟨vb,us,vf,out,hM,hB,hC,hF,hO⟩:=hA.ex
 have nd:=sc_step.nd
 have hu:=hr.units0
 have zz:(1000:Nat)<=sizeLine:=by decide
 refine⟨_,(A8 (D8 (XG (M3 (K:=K) (G0 (pv 0) rfl) (λ_=>rfl))) (B0 (C2 DP)) D2)
   (A8 (IJ (pv 0) A9 YU)
   (A8 (C7 (i:=1) nd rfl (Or.inl rfl) (ixE K w (G0 (pv 0) rfl) (N3 K6 A9)))
   (A8 (C7 (i:=2) nd rfl (Or.inl rfl) (ixE K w (ixE K w (ixE K w (G0 (pv 0) rfl) (ixE K w (pv 1) A9)) A9) (ixE K w (pv 1) A9)))
   (A8 (E1 (D8 (B9 (kEq (K:=K) hu) (ixE K w (pv 2) A9) B1 rfl) (B0 (C3 (L0 (pv 0) RM.cl RM.m_leave afZ (hr.mono (by omega)) RM.b_leave .nil C0 (A0 (ixE K w (ixE K w (pv 1) A9) (N3 K6 A9)) A6)))) (B0 (E1 (D8 (B9 (kIn (K:=K) (w:=w)) (ixE K w (pv 2) A9) (C1 (A0 B1 (A0 B1 A6))) rfl) (B0 (C3 (L0 (pv 0) RM.cl RM.m_enter aeZ (hr.mono (by omega)) RM.b_enter .nil C0 (A0 (pv 1) (A0 (pv 2) A6))))) (B0 (C3 (L0 (pv 0) RM.cl RM.m_go_on ZZ (hr.mono (by omega)) RM.b_go_on .nil C0 (A0 (B6 AN (hr.mono (by omega)) rfl PQ OO OY .nil C0 (A0 (G0 (pv 0) rfl) (A0 (pv 1) (A0 (pv 2) A6)))) A6)))))))))
   (B0 (C2 DP))))))), ?_⟩
 refine⟨_,rfl,A.m,CM,A.dx,_,_,rfl,hM.m,RM.cl,RM.n4,l4,_,.inl ⟨_,SqL.of hM.s,rfl⟩, ?_⟩
 rcases h with⟨he,q⟩|⟨S',⟨cs,fs,f,r,c,row,rfl,hrow,hact⟩,q⟩
 ·rw[he]at hF
  cases hF
  exact ifT rfl q
 simp only at hC hF hO hM
 obtain⟨vf0,vfl,rfl,hF0,p0,sl,st,rfl,⟨q0,e0,g1,g2,g3⟩,hsl,hst⟩:=D1 hF
 refine ifF (by simp) ?_
 obtain rfl:=hO
 refine⟨_,rfl,A.m,CM,A.dx,_,_,rfl,hM.m,RM.cl,RM.n6,l6,_,_,rfl,rfl,A.dx,_,hM.m,lf, ?_⟩
 rw[p6]
 have h1:=hM.putM ((r:Nat)+1) (c:Nat) .non
 have k1:Kq A H (upd H A.m (.ins CM A.dx (K4 A (most:Nat) .non ((r:Nat)+1) (c:Nat)))):=Kq.updO _ (BO A)
 have mo1:=hM.mo k1
 have fr1:∀ {x:Addr},upd H A.m (.ins CM A.dx (K4 A (most:Nat) .non ((r:Nat)+1) (c:Nat))) x=none->H x=none:=λ{x} e=>by
  by_cases z:x=A.m
  ·rw[z,A5]at e;cases e
  ·rw[B5 z]at e;exact e
 show O6 _ _ _ [some (.ref A.m),none,none] (upd H A.m (.ins CM A.dx (K4 A (most:Nat) .non ((r:Nat)+1) (c:Nat))))
 generalize upd H A.m (.ins CM A.dx (K4 A (most:Nat) .non ((r:Nat)+1) (c:Nat)))=H1 at h1 k1 mo1 fr1⊢
 have er:((r:Nat):Int)+1=((r+1:Nat):Int):=by omega
 have ec:((c:Nat):Int)+1=((c+1:Nat):Int):=by omega
 rw[er]at h1
 replace g1:=mo1 _ _ g1
 replace g2:=mo1 _ _ g2
 replace g3:=mo1 _ _ g3
 replace hB:=hB.imp λ_ _ z=>BAt.mo mo1 z
 replace hC:=hC.imp λ_ _ z=>ClAt.mo mo1 z
 replace hF0:=hF0.imp λ_ _ z=>FAt.mo mo1 z
 replace hsl:=hsl.imp λ_ _ z=>VAt.mo mo1 z
 replace hst:=hst.imp λ_ _ z=>VAt.mo mo1 z
 have hFr:FrAt H1 p0 (f.k:Nat) (f.at_:Nat) sl st:=⟨q0,e0,g1,g2,g3⟩
 refine⟨_,rfl,A.m,CM,A.dx,_,_,rfl,h1.m,RM.cl,RM.n4,l4,_,rfl,(ixL (v:=.ref p0) h1.s (M9 _ _) ?_)⟩
 obtain⟨bk,hbk,hrw⟩:∃bk,bs[f.k]? =some bk/\bk.rows[f.at_]? =some row:=by
  unfold NA at hrow
  obtain⟨bk,h1,h2⟩:=Option.bind_eq_some_iff.mp hrow
  exact⟨bk,h1,h2⟩
 obtain⟨u,hu1,tb,rs,ur,rfl,hb1,hb2,hb3,hb4⟩:=J1 hB hbk
 obtain⟨v,hv,rwa,rfl,hrwa⟩:=J1 hb3 hrw
 refine⟨_,rfl,A.m,CM,A.dx,_,_,rfl,h1.m,RM.cl,RM.n1,l1,_,rfl,(ixT g1 rfl (ixL (v:=.ref tb) h1.bl (D3 hu1) (ixT hb1 rfl ⟨_,rfl,(ixT g1 rfl (ixT (v:=.ref rwa) hb2 (D3 hv) ?_))⟩)))⟩
 refine⟨λ_ H'=>Q (.bl true) H', ?_,λ_ _ h=>h⟩
 have small:=hS.fr f (by simp)
 have scs:=hS.cs
 have lsl:=hsl.len
 have lst:=hst.len
 have lcs:=hC.len
 have lfs:=hF0.len
 have sfr:=hS.frs
 simp only[length_append,length_singleton]at sfr scs
 have fin:∀ {A':Ad} {H':Hp} {us' fs':List V} {out':V} {S1:Ms},A'.m=A.m->(∀x∈A'.own,x∈A.own\/H1 x=none)->Kq A H1 H'->MR CM C H' A' vb us' fs' (most:Nat) out' (S1.r:Nat) (S1.c:Nat)->All2 (ClAt H') S1.cs us'->All2 (FAt H') S1.frs fs'->OAt H' S1.out out'->(∀A' H',New A A' H->Kq A H H'->MAt CM C H' A' bs most S1->Q (.bl true) H')->Q (.bl true) H':=λ{A' H' us' fs' out' S1} e1 e2 k2 h2 h3 h4 h5 q=>
  q A' H' ⟨e1,λx hx=>(e2 x hx).imp id fr1⟩ (k1.trans k2) ⟨vb,us',fs',out',h2,hB.imp λ_ _ z=>BAt.mo (h1.mo k2) z,h3,h4,h5⟩
 have ownS:∀(s:Addr),H1 s=none->∀x∈({A with s:=s}:Ad).own,x∈A.own\/H1 x=none:=λs hs x hx=>by
  simp only[Ad.own,mem_cons,not_mem_nil,or_false]at hx⊢
  rcases hx with z|z|z|z|z
  ·exact .inl (.inl z)
  ·exact .inl (.inr (.inl z))
  ·exact .inl (.inr (.inr (.inl z)))
  ·exact .inl (.inr (.inr (.inr (.inl z))))
  ·exact .inr (by rw[z];exact hs)
 cases row with
 |own rk=>
  obtain⟨hw1,hw2⟩:=YV rk
  have hE:∃eo,Er cs f.sl rk f.st eo/\(match eo with
   | .fr d sl st=>S'=⟨cs,fs++ [⟨f.k,f.at_+d,sl,st⟩],none,r+1,c⟩
   | .new cl st=>S'=⟨cs++ [cl],fs++ [⟨f.k,f.at_+1,f.sl,st++ [.cell cs.length]⟩],none,r+1,c⟩
   | .rf w=>S'=⟨cs,[],some (.refused w),r+1,c⟩):=by
   cases hact with
   |own h=>exact⟨_,h,rfl⟩
   |new h=>exact⟨_,h,rfl⟩
   |rf h=>exact⟨_,h,rfl⟩
   |dry h _=>rcases h with⟨_,_,h⟩|h<;>cases h
   |deep h _ _=>rcases h with⟨_,_,h⟩|h<;>cases h
  obtain⟨eo,hEr,hpost⟩:=hE
  refine⟨_,rfl,(ixT (v:=.str (X2 rk)) hrwa (ZN rk) (.inl ⟨rfl,_,rfl,ifF (λz=>hw1 (V.str.inj (of_decide_eq_true z))) ?_⟩))⟩
  refine⟨λ_ H'=>Q (.bl true) H', ?_,λ_ _ h=>h⟩
  refine⟨_,rfl,(ixT (v:=.str (X2 rk)) hrwa (ZN rk) ⟨(by show 2<=sizeLine;omega),λt1 ht1=> .inr (.inl ⟨t1,_,rfl,.inr (SqT.of A5),rfl,rfl,_,rfl,ifF (λz=>by rw[show(if false=true then !inV (.str (X2 rk)) [.str "call",.str "apply"]else inV (.str (X2 rk)) [.str "call",.str "apply"])=false from hw2]at z;cases z) ?_⟩)⟩)⟩
  have s2:=A7 ht1 (.tup [.str "call",.str "apply"])
  generalize upd H1 t1 (.tup [.str "call",.str "apply"])=H2 at s2⊢
  have mo2:Mo H1 H2:=B8 s2
  have h2:=h1.same s2
  have hC2:=hC.imp λ_ _ z=>ClAt.mo mo2 z
  have hsl2:=hsl.imp λ_ _ z=>VAt.mo mo2 z
  have hst2:=hst.imp λ_ _ z=>VAt.mo mo2 z
  obtain⟨eo',hEf,hR⟩:=dnZ hC2 hsl2 hEr hst2
  refine⟨_,rfl,A.m,A.dx,_,rfl,h2.m,rfl,_,rfl,A.m,CM,A.dx,_,_,rfl,h2.m,RM.cl,RM.n3,l3,_,rfl,_,rfl, ?_⟩
  refine⟨A.o,A.L,us,p0,_,_,sl,st,rwa,rk,eo',rfl,h2.o,by omega,FrAt.mo' mo2 hFr,by omega,by omega,s2 _ _ hrwa,hEf, ?_⟩
  cases hR with
  | @fr d sl1 st1 sl2 st2 hs' ht'=>
   simp only at hpost
   subst hpost
   intro p q1 H3 s3 hp hq
   have s23:=s2.trans s3
   have h3:=h1.same s23
   refine⟨A,vb,us,_,_,_,_,_,p,rfl,h3,.inl ⟨q1,vf0,.ref p0,hp,rfl,λH4 k4 h4=> ?_⟩⟩
   have mo4:=h3.mo k4
   have mo14:Mo H1 H4:=λb xs e=>mo4 _ _ (s23 _ _ e)
   have mo24:Mo H2 H4:=λb xs e=>mo4 _ _ (s3 _ _ e)
   have e:((f.at_+d:Nat):Int)=(f.at_:Nat)+(d:Nat):=by omega
   refine fin rfl (λx hx=> .inl hx) ((Kq.of s23).trans k4) h4 ?_ ?_ ?_ q
   ·exact hC.imp λ_ _ z=>ClAt.mo mo14 z
   ·exact(hF0.imp λ_ _ z=>FAt.mo mo14 z).app (.cons ⟨q1,sl2,st2,rfl,by rw[e];exact FrAt.mo' mo4 hq,hs'.imp λ_ _ z=>VAt.mo mo24 z,ht'.imp λ_ _ z=>VAt.mo mo24 z⟩ .nil)
   ·rfl
  | @rf w=>
   simp only at hpost
   subst hpost
   intro p H3 s3 hp
   have s23:=s2.trans s3
   have h3:=h1.same s23
   refine⟨A,vb,us,_,_,_,_,_,p,rfl,h3,.inr ⟨w,hp,λs4 H4 hs4 k4 h4=> ?_⟩⟩
   have mo4:=h3.mo k4
   have mo14:Mo H1 H4:=λb xs e=>mo4 _ _ (s23 _ _ e)
   refine fin (A':={A with s:=s4}) rfl (ownS s4 (s23.free hs4)) ((Kq.of s23).trans k4) h4 ?_ ?_ ?_ q
   ·exact hC.imp λ_ _ z=>ClAt.mo mo14 z
   ·exact .nil
   ·exact⟨p,rfl,mo4 _ _ hp⟩
  | @pair x y st1 x' y' st2 hx hy ht'=>
   simp only at hpost
   subst hpost
   intro p q1 cc cv H3 b3 hc3 hcc hcv hp hq
   have h3:=h2.bt b3 hc3
   have k23:Kq A H1 H3:=(Kq.of s2).trans (Kq.bt b3)
   refine⟨A,vb,_,_,_,_,_,_,p,rfl,h3,.inl ⟨q1,vf0,.ref p0,hp,rfl,λH4 k4 h4=> ?_⟩⟩
   have mo4:=h3.mo k4
   have mo14:Mo H1 H4:=h1.mo (k23.trans k4)
   have mo24:Mo H2 H4:=h2.mo ((Kq.bt b3).trans k4)
   have e:((f.at_+1:Nat):Int)=(f.at_:Nat)+1:=by omega
   refine fin rfl (λx hx=> .inl hx) (k23.trans k4) h4 ?_ ?_ ?_ q
   ·exact(hC.imp λ_ _ z=>ClAt.mo mo14 z).app (.cons ⟨cc,x',y',rfl,mo4 _ _ hcc,hx.mo mo24,hy.mo mo24⟩ .nil)
   ·exact(hF0.imp λ_ _ z=>FAt.mo mo14 z).app (.cons ⟨q1,sl,st2++ [.ref cv],rfl,by rw[e];exact FrAt.mo' mo4 hq,hsl.imp λ_ _ z=>VAt.mo mo14 z,(ht'.imp λ_ _ z=>VAt.mo mo24 z).app (.cons ⟨cv,rfl,by rw[lcs];exact mo4 _ _ hcv⟩ .nil)⟩ .nil)
   ·rfl
  | @fn b xs st1 xs' st2 hxs hx10 ht'=>
   simp only at hpost
   subst hpost
   intro p q1 cc cv vt H3 b3 hc3 hcc hvt hcv hp hq
   have h3:=h2.bt b3 hc3
   have k23:Kq A H1 H3:=(Kq.of s2).trans (Kq.bt b3)
   refine⟨A,vb,_,_,_,_,_,_,p,rfl,h3,.inl ⟨q1,vf0,.ref p0,hp,rfl,λH4 k4 h4=> ?_⟩⟩
   have mo4:=h3.mo k4
   have mo14:Mo H1 H4:=h1.mo (k23.trans k4)
   have mo24:Mo H2 H4:=h2.mo ((Kq.bt b3).trans k4)
   have e:((f.at_+1:Nat):Int)=(f.at_:Nat)+1:=by omega
   refine fin rfl (λx hx=> .inl hx) (k23.trans k4) h4 ?_ ?_ ?_ q
   ·exact(hC.imp λ_ _ z=>ClAt.mo mo14 z).app (.cons ⟨cc,vt,xs',rfl,mo4 _ _ hcc,mo4 _ _ hvt,hxs.imp λ_ _ z=>VAt.mo mo24 z,hx10⟩ .nil)
   ·exact(hF0.imp λ_ _ z=>FAt.mo mo14 z).app (.cons ⟨q1,sl,st2++ [.ref cv],rfl,by rw[e];exact FrAt.mo' mo4 hq,hsl.imp λ_ _ z=>VAt.mo mo14 z,(ht'.imp λ_ _ z=>VAt.mo mo24 z).app (.cons ⟨cv,rfl,by rw[lcs];exact mo4 _ _ hcv⟩ .nil)⟩ .nil)
   ·rfl
 |back=>
  refine⟨_,rfl,(ixT hrwa rfl (.inl ⟨rfl,_,rfl,ifT rfl ?_⟩))⟩
  have hv:∃ds d x st0,st=ds++ [d]/\f.st=st0++ [x]/\VAt H1 x d:=by
   cases hact with
   |last _ h=>rw[h]at hst;obtain⟨ds,d,e,_,h2⟩:=D1 hst;exact⟨ds,d,_,_,e,h,h2⟩
   |back _ h=>rw[h]at hst;obtain⟨ds,d,e,_,h2⟩:=D1 hst;exact⟨ds,d,_,_,e,h,h2⟩
   |dry h _=>rcases h with⟨_,_,h⟩|h<;>cases h
   |deep h _ _=>rcases h with⟨_,_,h⟩|h<;>cases h
  obtain⟨ds,d,x,st0,rfl,hst0,hxd⟩:=hv
  refine⟨_,rfl,A.m,A.dx,_,rfl,h1.m,rfl,_,rfl,(ixT g1 rfl ⟨_,rfl,(ixT (v:=d) g3 (M9 _ _) ?_)⟩)⟩
  refine⟨A,vb,us,_,_,_,_,_,d,rfl,h1, ?_⟩
  cases hact with
  |last hfs h=>
   rw[h]at hst0
   obtain⟨_,hvx⟩:=List.append_inj' hst0 rfl
   cases hvx
   subst hfs
   cases hF0
   refine .inl ⟨.ref p0,rfl,λs4 p H4 hs4 k4 h4 hp4=> ?_⟩
   have mo4:=h1.mo k4
   refine fin (A':={A with s:=s4}) rfl (ownS s4 hs4) k4 h4 ?_ ?_ ?_ q
   ·exact hC.imp λ_ _ z=>ClAt.mo mo4 z
   ·exact .nil
   ·exact⟨p,d,rfl,hp4,hxd.mo mo4⟩
  | @back gs g v st1 hfs h=>
   rw[h]at hst0
   obtain⟨_,hvx⟩:=List.append_inj' hst0 rfl
   cases hvx
   subst hfs
   obtain⟨vg,u,rfl,hG0,pg,gsl,gst,rfl,hFg,hgsl,hgst⟩:=D1 hF0
   have sg:=hS.fr g (by simp)
   have lgst:=hgst.len
   refine .inr ⟨vg,pg,.ref p0,_,_,gsl,gst,rfl,hFg,by omega,λg' H4 k4 h4 hf4=> ?_⟩
   have mo4:=h1.mo k4
   refine fin rfl (λx hx=> .inl hx) k4 h4 ?_ ?_ ?_ q
   ·exact hC.imp λ_ _ z=>ClAt.mo mo4 z
   ·exact(hG0.imp λ_ _ z=>FAt.mo mo4 z).app (.cons ⟨g',gsl,gst++ [d],rfl,hf4,hgsl.imp λ_ _ z=>VAt.mo mo4 z,(hgst.imp λ_ _ z=>VAt.mo mo4 z).app (.cons (hxd.mo mo4) .nil)⟩ .nil)
   ·rfl
  |dry h _=>rcases h with⟨_,_,h⟩|h<;>cases h
  |deep h _ _=>rcases h with⟨_,_,h⟩|h<;>cases h
 |call b m=>
  refine⟨_,rfl,(ixT hrwa rfl (.inl ⟨rfl,_,rfl,ifF (by decide) ?_⟩))⟩
  refine⟨λ_ H'=>Q (.bl true) H', ?_,λ_ _ h=>h⟩
  refine⟨_,rfl,(ixT hrwa rfl ⟨(by show 2<=sizeLine;omega),λt1 ht1=> .inr (.inl ⟨t1,_,rfl,.inr (SqT.of A5),rfl,rfl,_,rfl,ifT (by decide) ?_⟩)⟩)⟩
  have s2:=A7 ht1 (.tup [.str "call",.str "apply"])
  generalize upd H1 t1 (.tup [.str "call",.str "apply"])=H2 at s2⊢
  have mo2:Mo H1 H2:=B8 s2
  have h2:=h1.same s2
  refine⟨_,rfl,A.m,A.dx,_,rfl,h2.m,rfl,_,rfl,_,rfl,A,vb,us,vf0,_,_,_,_,p0,rwa,rfl,h2,by omega, ?_⟩
  cases hact with
  |dry _ hmc=>
   refine .inl ⟨by omega,λs4 p H4 hs4 k4 h4 hp4=> ?_⟩
   have mo4:Mo H1 H4:=h1.mo ((Kq.of s2).trans k4)
   refine fin (A':={A with s:=s4}) rfl (ownS s4 (s2.free hs4)) ((Kq.of s2).trans k4) h4 ?_ ?_ ?_ q
   ·exact hC.imp λ_ _ z=>ClAt.mo mo4 z
   ·exact .nil
   ·exact⟨p,rfl,hp4⟩
  |deep _ hmc h60=>
   refine .inr (.inl ⟨by omega,by omega,λs4 p H4 hs4 k4 h4 hp4=> ?_⟩)
   rw[ec]at h4
   have mo4:Mo H1 H4:=h1.mo ((Kq.of s2).trans k4)
   refine fin (A':={A with s:=s4}) rfl (ownS s4 (s2.free hs4)) ((Kq.of s2).trans k4) h4 ?_ ?_ ?_ q
   ·exact hC.imp λ_ _ z=>ClAt.mo mo4 z
   ·exact .nil
   ·exact⟨p,rfl,hp4⟩
  | @call _ bk st1 xs hmc h60 hfst hbk2 hxz=>
   rw[hfst]at hst
   obtain⟨ds,es,rfl,hds,hes⟩:=D9 hst
   have les:=hes.len
   obtain⟨u2,hu2,tb2,rs2,ur2,rfl,hb21,hb22,hb23,hb24⟩:=J1 hB hbk2
   refine .inr (.inr ⟨by omega,by omega,_,_,sl,ds++es,ds,b,es,bk.sz,FrAt.mo' mo2 hFr,by omega,.inl ⟨xs.length,s2 _ _ hrwa,by rw[length_append];omega,⟨tb2,_,_,hu2,s2 _ _ hb21⟩,hxz,by omega, ?_, ?_⟩,λp1 p2 H4 k4 h4 hf1 hf2=> ?_⟩)
   ·rw[length_append,les,Nat.add_sub_cancel,List.take_left]
   ·rw[length_append,les,Nat.add_sub_cancel,List.drop_left]
   rw[ec]at h4
   have mo4:Mo H1 H4:=h1.mo ((Kq.of s2).trans k4)
   have e:((f.at_+1:Nat):Int)=(f.at_:Nat)+1:=by omega
   refine fin rfl (λx hx=> .inl hx) ((Kq.of s2).trans k4) h4 ?_ ?_ ?_ q
   ·exact hC.imp λ_ _ z=>ClAt.mo mo4 z
   ·have n1:FAt H4 ⟨f.k,f.at_+1,f.sl,st1⟩ (.ref p1):=⟨p1,sl,ds,rfl,by rw[e];exact hf1,hsl.imp λ_ _ z=>VAt.mo mo4 z,hds.imp λ_ _ z=>VAt.mo mo4 z⟩
    have n2:FAt H4 (begun b bk.sz xs) (.ref p2):=⟨p2,_,[],rfl,hf2,by
     show All2 (VAt H4) (xs++List.replicate (bk.sz - xs.length) (.sc .non)) _
     rw[les]
     exact(hes.imp λ_ _ z=>VAt.mo mo4 z).app (BN _),.nil⟩
    exact((hF0.imp λ_ _ z=>FAt.mo mo4 z).app (.cons n1 .nil)).app (.cons n2 .nil)
   ·rfl
 |apply=>
  refine⟨_,rfl,(ixT hrwa rfl (.inl ⟨rfl,_,rfl,ifF (by decide) ?_⟩))⟩
  refine⟨λ_ H'=>Q (.bl true) H', ?_,λ_ _ h=>h⟩
  refine⟨_,rfl,(ixT hrwa rfl ⟨(by show 2<=sizeLine;omega),λt1 ht1=> .inr (.inl ⟨t1,_,rfl,.inr (SqT.of A5),rfl,rfl,_,rfl,ifT (by decide) ?_⟩)⟩)⟩
  have s2:=A7 ht1 (.tup [.str "call",.str "apply"])
  generalize upd H1 t1 (.tup [.str "call",.str "apply"])=H2 at s2⊢
  have mo2:Mo H1 H2:=B8 s2
  have h2:=h1.same s2
  refine⟨_,rfl,A.m,A.dx,_,rfl,h2.m,rfl,_,rfl,_,rfl,A,vb,us,vf0,_,_,_,_,p0,rwa,rfl,h2,by omega, ?_⟩
  cases hact with
  |dry _ hmc=>
   refine .inl ⟨by omega,λs4 p H4 hs4 k4 h4 hp4=> ?_⟩
   have mo4:Mo H1 H4:=h1.mo ((Kq.of s2).trans k4)
   refine fin (A':={A with s:=s4}) rfl (ownS s4 (s2.free hs4)) ((Kq.of s2).trans k4) h4 ?_ ?_ ?_ q
   ·exact hC.imp λ_ _ z=>ClAt.mo mo4 z
   ·exact .nil
   ·exact⟨p,rfl,hp4⟩
  |deep _ hmc h60=>
   refine .inr (.inl ⟨by omega,by omega,λs4 p H4 hs4 k4 h4 hp4=> ?_⟩)
   rw[ec]at h4
   have mo4:Mo H1 H4:=h1.mo ((Kq.of s2).trans k4)
   refine fin (A':={A with s:=s4}) rfl (ownS s4 (s2.free hs4)) ((Kq.of s2).trans k4) h4 ?_ ?_ ?_ q
   ·exact hC.imp λ_ _ z=>ClAt.mo mo4 z
   ·exact .nil
   ·exact⟨p,rfl,hp4⟩
  | @apply b bk st1 j xs x hmc h60 hfst hcj hbk2 hxz=>
   rw[hfst]at hst
   obtain⟨ds,es,rfl,hds,hes⟩:=D9 hst
   cases hes with
   |cons a1 t3=>
    cases t3 with
    | @cons _ x' _ _ a2 t4=>
     cases t4
     obtain⟨cv,rfl,hcv⟩:=a1
     obtain⟨u2,hu2,tb2,rs2,ur2,rfl,hb21,hb22,hb23,hb24⟩:=J1 hB hbk2
     obtain⟨u3,hu3,fc,vt,xs',rfl,hfc,hvt,hxs,hx10⟩:=J1 hC hcj
     have lxs:=hxs.len
     refine .inr (.inr ⟨by omega,by omega,_,_,sl,ds++ [.ref cv,x'],ds,b,xs'++ [x'],bk.sz,FrAt.mo' mo2 hFr,by omega,.inr ⟨cv,x',j,fc,vt,xs',s2 _ _ hrwa,rfl,s2 _ _ hcv,hu3,s2 _ _ hfc,s2 _ _ hvt,⟨tb2,_,_,hu2,s2 _ _ hb21⟩,by omega,by omega,rfl⟩,λp1 p2 H4 k4 h4 hf1 hf2=> ?_⟩)
     rw[ec]at h4
     have mo4:Mo H1 H4:=h1.mo ((Kq.of s2).trans k4)
     have e:((f.at_+1:Nat):Int)=(f.at_:Nat)+1:=by omega
     refine fin rfl (λx hx=> .inl hx) ((Kq.of s2).trans k4) h4 ?_ ?_ ?_ q
     ·exact hC.imp λ_ _ z=>ClAt.mo mo4 z
     ·have n1:FAt H4 ⟨f.k,f.at_+1,f.sl,st1⟩ (.ref p1):=⟨p1,sl,ds,rfl,by rw[e];exact hf1,hsl.imp λ_ _ z=>VAt.mo mo4 z,hds.imp λ_ _ z=>VAt.mo mo4 z⟩
      have n2:FAt H4 (begun b bk.sz (xs++ [x])) (.ref p2):=⟨p2,_,[],rfl,hf2,by
       show All2 (VAt H4) ((xs++ [x])++List.replicate (bk.sz - (xs++ [x]).length) (.sc .non)) _
       rw[length_append,length_append,lxs]
       exact((hxs.imp λ_ _ z=>VAt.mo mo4 z).app (.cons (a2.mo mo4) .nil)).app (BN _),.nil⟩
      exact((hF0.imp λ_ _ z=>FAt.mo mo4 z).app (.cons n1 .nil)).app (.cons n2 .nil)
     ·rfl
end
noncomputable abbrev s_hung_on:Stmt:=G5 (top 37) 7
noncomputable abbrev s_hang_on:Stmt:=G5 (top 37) 8
noncomputable abbrev WB:List Str:=["self","found","frame"]
theorem sc_hung_on:FnScope WB K5 (B4 s_hung_on):=fS
noncomputable abbrev UP:List Str:=["self","values","at","frames","frame","stack_at","end"]
theorem sc_hang_on:FnScope UP amZ (B4 s_hang_on):=fS
noncomputable def S9:Option Ou->List Fr->List Vl
 |some (.value v),_=> [v]
 |_,fs=>fs.flatMap λf=>f.sl++f.st
noncomputable def mvF(g:Vl->Vl)(f:Fr):Fr:=⟨f.k,f.at_,f.sl.map g,f.st.map g⟩
noncomputable def mvO(g:Vl->Vl):Ou->Ou
 | .value v=> .value (g v)
 |o=>o
theorem XI{o:Option Ou}(h:X1 o=false)(fs:List Fr):S9 o fs=fs.flatMap λf=>f.sl++f.st:=by
 cases o with
 |none=>rfl
 |some o=>cases o<;>first|rfl|cases h
section
variable{P:Program}{w:World}{K:FZ}{mg:Str->Option Value}{base:Heap}{CM C:Addr}{gf mf:Str->Addr}{gd md:Str->FuncData}
inductive spHungW(CM C:Addr)(vs:List V)(H:Hp)(Q:VK):Prop
 |mk:∀(A:Ad) (bs us fs:List V) (most:Int) (out:V) (r c:Int) (o:Option Ou) (frs:List Fr),(vs=[.ref A.m])->(MR CM C H A bs us fs most out r c)->(OAt H o out)->(All2 (FAt H) frs fs)->((S9 o frs).length<=1000)->(∀l xs H',Same H H'->H l=none->H' l=some (.lst xs)->All2 (VAt H') (S9 o frs) xs->Q (.ref l) H')->spHungW CM C vs H Q
noncomputable def ZC(CM C:Addr):Sp:=λvs H Q _=>spHungW CM C vs H Q
theorem ok_hung_on(F:Fun K "hung_on" "Machine.hung_on" s_hung_on (gf "hung_on") (gd "hung_on"))(RM:MCls K CM gf gd)
  (Q9:FnOk P w K mg base CX0 1 (gf "has_value") (gd "has_value") K5 (KE CM)):FnOk P w K mg base CX0 2 (gf "hung_on") (gd "hung_on") K5 (ZC CM C):=by
 refine F.ok sc_hung_on (λvs H Q E h=> ?_) (λcdv A outer s H vs Q E hr h=> ?_)
 ·obtain⟨A,bs,us,fs,most,out,r,c,o,frs,rfl,_⟩:=h
  rfl
 obtain⟨A,bs,us,fs,most,out,r,c,o,frs,rfl,hM,hO,hF,hlen,q⟩:=h
 have nd:=sc_hung_on.nd
 have hu:=hr.units0
 have zz:(4000:Nat)<=sizeLine:=by decide
 refine⟨_,(A8 (D8 (M3 (K:=K) (K3 (pv 0) RM.cl RM.m_has_value Q9 (hr.mono (by omega)) RM.b_has_value .nil C0) (λ_=>rfl)) (B0 (C2 (E6 (A0 (ixE K w (G0 (pv 0) rfl) A9) A6)))) D2)
   (A8 (C7 (i:=1) nd rfl (Or.inl rfl) (E6 A6))
   (A8 (E1 (T3 PassesOwn.never rfl (AC (K:=K) (G0 (pv 0) rfl)) (J3 (i:=2) nd rfl (Or.inl rfl)) (B0 (C3 (M1 (K:=K) PySem.F.plainAttrs_list PySem.F.slot_list_extend PySem.F.type_list_extend (IQ (K:=K)) (pv 1) (A0 (B7 (N4 (K:=K)) (ixE K w (pv 2) A9) (ixE K w (pv 2) A9)) A6))))))
   (B0 (C2 (pv 1)))))), ?_⟩
 refine⟨_,rfl,A.m,A.dx,_,rfl,hM.m,rfl,A,most,out,r,c,X1 o,rfl,hM.m,hO.ov,_,rfl, ?_⟩
 cases hv:X1 o with
 |true=>
  obtain⟨x,rfl⟩:∃x,o=some (.value x):=by
   cases o with
   |none=>cases hv
   |some o=>cases o<;>first|exact⟨_,rfl⟩|cases hv
  obtain⟨p,v,rfl,hp,hxv⟩:=hO
  refine ifT rfl ⟨_,rfl,A.m,CM,A.dx,_,_,rfl,hM.m,RM.cl,RM.n5,l5,(ixT hp rfl ⟨(by show 1<=sizeLine;omega),λl hl=> ?_⟩)⟩
  have t:=A7 hl (.lst [v])
  exact q l [v] _ t hl A5 (.cons (hxv.mo (B8 t)) .nil)
 |false=>
 rw[XI hv]at hlen q
 refine ifF nZ ?_
 refine⟨(by show 0<=sizeLine;omega),λfl hfl=> ?_⟩
 have t1:=A7 hfl (.lst [])
 have hfl1:upd H fl (.lst []) fl=some (.lst []):=A5
 have nfl:fl≠A.s:=λe=>by have:=hM.s;rw[<-e,hfl]at this;cases this
 show O6 _ _ _ [some (.ref A.m),some (.ref fl),none] (upd H fl (.lst []))
 generalize upd H fl (.lst [])=H1 at t1 hfl1⊢
 have h1:=hM.same t1
 have wf:∀(Hx:Hp) (ob:HO),Same H Hx->Same H (upd Hx fl ob):=λHx ob a x u h=>by rw[B5 (λe=>by rw[e,hfl]at h;cases h)];exact a _ _ h
 have hfsl:=hF.len
 refine⟨fun σ H'=>∃y xs,σ=[some (.ref A.m),some (.ref fl),y]/\Same H H'/\H' fl=some (.lst xs)/\All2 (VAt H') (frs.flatMap λf=>f.sl++f.st) xs, ?_, ?_⟩
 ·refine⟨_,rfl,A.m,CM,A.dx,_,_,rfl,h1.m,RM.cl,RM.n4,l4,A.s,rfl,⟨_,SqL.of h1.s⟩,Z5 (xs:=fs) (λi σ H'=>∃y xs,σ=[some (.ref A.m),some (.ref fl),y]/\Same H H'/\H' fl=some (.lst xs)/\All2 (VAt H') ((frs.take i).flatMap λf=>f.sl++f.st) xs) ⟨none,[],rfl,t1,hfl1,.nil⟩ ?_ ?_ ?_⟩
  ·rintro i σ H' _ ⟨y,xs,rfl,s2,_⟩
   exact SqL.of (s2 _ _ hM.s)
  ·rintro i v σ H' hv ⟨y,xs,rfl,s2,hx,hA⟩
   obtain⟨f,hfi,p0,sl,st,rfl,⟨q0,e0,g1,g2,g3⟩,hsl,hst⟩:=hF.get hv
   have hle:((frs.take (i+1)).flatMap λf=>f.sl++f.st).length<=1000:=by
    have e:(frs.flatMap λf=>f.sl++f.st).length=((frs.take (i+1)).flatMap λf=>f.sl++f.st).length+((frs.drop (i+1)).flatMap λf=>f.sl++f.st).length:=by
     rw[<-length_append,<-flatMap_append,take_append_drop]
    omega
   have et:(frs.take (i+1)).flatMap (λf=>f.sl++f.st)=(frs.take i).flatMap (λf=>f.sl++f.st)++(f.sl++f.st):=by
    rw[take_succ,hfi,flatMap_append]
    simp
   rw[et,length_append,length_append]at hle
   have l1':=hA.len
   have l2':=hsl.len
   have l3':=hst.len
   refine⟨_,rfl,.inl ⟨rfl,_,SqL.of hx⟩,_,rfl,(ixT (s2 _ _ g1) rfl ⟨_,rfl,(ixT (s2 _ _ g1) rfl (.inr (.inr (Q8 (s2 _ _ g2) (s2 _ _ g3) (by omega) λrr H2 s3 hr2=> ?_))))⟩)⟩
   refine⟨fl,rr,xs,sl++st,rfl,rfl,s3 _ _ hx,SqT.of hr2,by rw[length_append];omega, ?_⟩
   have m4:Mo H2 (upd H2 fl (.lst (xs++(sl++st)))):=λb zs e=>by
    have:b≠fl:=λz=>by rw[z,s3 _ _ hx]at e;cases e
    rw[B5 this];exact e
   have m24:Mo H' (upd H2 fl (.lst (xs++(sl++st)))):=λb zs e=>m4 _ _ (s3 _ _ e)
   have mH4:Mo H (upd H2 fl (.lst (xs++(sl++st)))):=λb zs e=>m24 _ _ (s2 _ _ e)
   refine⟨_,xs++(sl++st),rfl,wf _ _ (s2.trans s3),A5, ?_⟩
   rw[et]
   exact(hA.imp λ_ _ z=>VAt.mo m24 z).app ((hsl.imp λ_ _ z=>VAt.mo mH4 z).app (hst.imp λ_ _ z=>VAt.mo mH4 z))
  ·rintro σ H' ⟨y,xs,rfl,s2,hx,hA⟩
   rw[<-hfsl,take_length]at hA
   exact⟨y,xs,rfl,s2,hx,hA⟩
 ·rintro σ H' ⟨y,xs,rfl,s2,hx,hA⟩
  exact⟨_,rfl,q fl xs _ s2 hfl hx hA⟩
inductive spHangW (CM C:Addr) (vs:List V) (H:Hp) (Q:VK):Prop
 |mk:∀(A:Ad) (bs us fs:List V) (most:Int) (out:V) (r c:Int) (o:Option Ou) (frs:List Fr) (g:Vl->Vl) (l:Addr) (ys:List V),(vs=[.ref A.m,.ref l])->(MR CM C H A bs us fs most out r c)->(OAt H o out)->(All2 (FAt H) frs fs)->((o≠none->frs=[]))->(frs.length<=60)->(H l=some (.lst ys))->(l∉A.own)->(All2 (VAt H) ((S9 o frs).map g) ys)->(ys.length<=1000)->(∀s fs' out' H',H s=none->Kq A H H'->MR CM C H' {A with s:=s} bs us fs' most out' r c->All2 (FAt H') (frs.map (mvF g)) fs'->OAt H' (o.map (mvO g)) out'->Q .non H')->spHangW CM C vs H Q
noncomputable def WL(CM C:Addr):Sp:=λvs H Q _=>spHangW CM C vs H Q
theorem OF{α:Type}{a b c:List α}{n m:Nat}(h:a.length=n)(h':b.length=m):((a++b++c).drop n).take m=b:=by
 subst h h'
 rw[List.append_assoc,List.drop_left,List.take_left]
theorem ok_hang_on(F:Fun K "hang_on" "Machine.hang_on" s_hang_on (gf "hang_on") (gd "hang_on"))(B:NoG mg)(RM:MCls K CM gf gd)
  (Q9:FnOk P w K mg base CX0 1 (gf "has_value") (gd "has_value") K5 (KE CM)):FnOk P w K mg base CX0 2 (gf "hang_on") (gd "hang_on") amZ (WL CM C):=by
 refine F.ok sc_hang_on (λvs H Q E h=> ?_) (λcdv A outer s H vs Q E hr h=> ?_)
 ·obtain⟨A,bs,us,fs,most,out,r,c,o,frs,g,l,ys,rfl,_⟩:=h
  rfl
 obtain⟨A,bs,us,fs,most,out,r,c,o,frs,g,l,ys,rfl,hM,hO,hF,hE,hfr,hl,nl,hY,hyl,q⟩:=h
 have nd:=sc_hang_on.nd
 have hu:=hr.units0
 have zz:(4000:Nat)<=sizeLine:=by decide
 have hfl:=hF.len
 refine⟨_,(A8 (E1 (D8 (M3 (K:=K) (K3 (pv 0) RM.cl RM.m_has_value Q9 (hr.mono (by omega)) RM.b_has_value .nil C0) (λ_=>rfl)) (B0 (Q1 (pv 0) (C1 (A0 B1 (A0 (ixE K w (pv 1) A9) A6))) rfl)) D2))
   (A8 (C7 (i:=2) nd rfl (Or.inl rfl) A9)
   (A8 (C7 (i:=3) nd rfl (Or.inl rfl) (E6 A6))
   (A8 (E1 (T3 PassesOwn.never rfl (AC (K:=K) (G0 (pv 0) rfl)) (J3 (i:=4) nd rfl (Or.inl rfl)) (A8 (C7 (i:=5) nd rfl (Or.inl rfl) (B7 (N4 (K:=K)) (pv 2) (C4 (J8 (K:=K)) rfl B.len_ G1 (A0 (ixE K w (pv 4) A9) A6))))
   (A8 (C7 (i:=6) nd rfl (Or.inl rfl) (B7 (N4 (K:=K)) (pv 5) (C4 (J8 (K:=K)) rfl B.len_ G1 (A0 (ixE K w (pv 4) A9) A6))))
   (A8 (C3 (M1 (K:=K) PySem.F.plainAttrs_list PySem.F.slot_list_append PySem.F.type_list_append C8 (pv 3) (A0 (C1 (A0 (ixE K w (pv 4) A9) (A0 (ixE K w (pv 4) A9) (A0 (G3 (BQ (K:=K)) rfl B.tuple_ N7 (A0 (G4 (AG (K:=K)) (pv 1) (G6 (pv 2)) (G6 (pv 5))) A6)) (A0 (G3 (BQ (K:=K)) rfl B.tuple_ N7 (A0 (G4 (AG (K:=K)) (pv 1) (G6 (pv 5)) (G6 (pv 6))) A6)) A6))))) A6)))
   (B0 (C7 (i:=2) nd rfl (Or.inl rfl) (pv 6))))))))
   (B0 (Q1 (pv 0) (pv 3) rfl)))))), ?_⟩
 refine⟨fun σ H'=>∃out',σ=[some (.ref A.m),some (.ref l),none,none,none,none,none]/\Kq A H H'/\MR CM C H' A bs us fs most out' r c/\OAt H' (o.map (mvO g)) out', ?_, ?_⟩
 ·refine⟨_,rfl,A.m,A.dx,_,rfl,hM.m,rfl,A,most,out,r,c,X1 o,rfl,hM.m,hO.ov,_,rfl, ?_⟩
  cases hv:X1 o with
  |true=>
   obtain⟨x,rfl⟩:∃x,o=some (.value x):=by
    cases o with
    |none=>cases hv
    |some o=>cases o<;>first|exact⟨_,rfl⟩|cases hv
   obtain⟨y,ys',rfl,hy,hys⟩:∃y ys',ys=y::ys'/\VAt H (g x) y/\ys'=[]:=by
    cases hY with
    |cons h1 h2=>cases h2;exact⟨_,_,rfl,h1,rfl⟩
   subst hys
   refine ifT rfl ⟨_,rfl,(ixL (v:=y) hl rfl ⟨(by show 2<=sizeLine;omega),λp hp=> ?_⟩)⟩
   have t:=A7 hp (.tup [.str "value",y])
   have h1:=hM.same t
   refine⟨_,rfl,A.m,CM,A.dx,_,rfl,h1.m,RM.cl,RM.n5,lf, ?_⟩
   rw[p5]
   have k1:Kq A (upd H p (.tup [.str "value",y])) (upd (upd H p (.tup [.str "value",y])) A.m (.ins CM A.dx (K4 A most (.ref p) r c))):=Kq.updO _ (BO A)
   have mo:=h1.mo k1
   exact⟨.ref p,rfl,(Kq.of t).trans k1,h1.putM r c (.ref p),p,y,rfl,mo _ _ A5,(hy.mo (B8 t)).mo mo⟩
  |false=>
   have e:o.map (mvO g)=o:=by
    cases o with
    |none=>rfl
    |some o=>cases o<;>first|rfl|cases hv
   refine ifF nZ ⟨out,rfl,Kq.refl A H,hM, ?_⟩
   rw[e];exact hO
 rintro σ H1 ⟨out',rfl,k1,h1,hO1⟩
 have mo1:=hM.mo k1
 refine⟨(by show 0<=sizeLine;omega),λgl hgl=> ?_⟩
 have t2:=A7 hgl (.lst [])
 have hgl2:upd H1 gl (.lst []) gl=some (.lst []):=A5
 have h2:=h1.same t2
 have hl2:=t2 _ _ (k1 _ _ hl nl)
 have nlg:l≠gl:=λe=>by rw[<-e,k1 _ _ hl nl]at hgl;cases hgl
 show O6 _ _ _ [some (.ref A.m),some (.ref l),some (.int 0),some (.ref gl),none,none,none] (upd H1 gl (.lst []))
 generalize upd H1 gl (.lst [])=H2 at t2 hgl2 h2 hl2⊢
 have hgl0:H gl=none:=by
  cases e:H gl with
  |none=>rfl
  |some ob=>
   by_cases z:gl∈A.own
   ·obtain⟨dx,ho,hL⟩:=h1.o
    simp only[Ad.own,mem_cons,not_mem_nil,or_false]at z
    rcases z with z|z|z|z|z<;>rw[z]at hgl
    ·rw[h1.m]at hgl;cases hgl
    ·rw[h1.bl]at hgl;cases hgl
    ·rw[ho]at hgl;cases hgl
    ·rw[hL]at hgl;cases hgl
    ·rw[h1.s]at hgl;cases hgl
   ·rw[k1 _ _ e z]at hgl;cases hgl
 have hF2:=hF.imp λ_ _ z=>FAt.mo (λb xs e=>t2 _ _ (mo1 _ _ e)) z
 have hY2:=hY.imp λ_ _ z=>VAt.mo (λb xs e=>t2 _ _ (mo1 _ _ e)) z
 have pre:∀i,((frs.take i).flatMap λf=>f.sl++f.st).length=((frs.take i).flatMap λf=>(f.sl++f.st).map g).length:=λi=>by
  rw[List.length_flatMap,List.length_flatMap]
  simp
 refine⟨fun σ H'=>∃y2 y4 y5 y6 zs,σ=[some (.ref A.m),some (.ref l),y2,some (.ref gl),y4,y5,y6]/\(∀b ob,H2 b=some ob->b≠gl->H' b=some ob)/\H' gl=some (.lst zs)/\All2 (FAt H') (frs.map (mvF g)) zs, ?_, ?_⟩
 ·refine⟨_,rfl,A.m,CM,A.dx,_,_,rfl,h2.m,RM.cl,RM.n4,l4,A.s,rfl,⟨_,SqL.of h2.s⟩,Z5 (xs:=fs) (λi σ H'=>∃y4 y5 y6 zs,σ=[some (.ref A.m),some (.ref l),some (.int (((frs.take i).flatMap λf=>f.sl++f.st).length:Nat)),some (.ref gl),y4,y5,y6]/\(∀b ob,H2 b=some ob->b≠gl->H' b=some ob)/\H' gl=some (.lst zs)/\All2 (FAt H') ((frs.take i).map (mvF g)) zs) ⟨_,_,_,[],rfl,λ_ _ e _=>e,hgl2,.nil⟩ ?_ ?_ ?_⟩
  ·rintro i σ H' _ ⟨y4,y5,y6,zs,rfl,k3,_⟩
   exact SqL.of (k3 _ _ h2.s λe=>by have:=h1.s;rw[e,hgl]at this;cases this)
  ·rintro i v σ H' hv ⟨y4,y5,y6,zs,rfl,k3,hg3,hZ⟩
   obtain⟨f,hfi,p0,sl,st,rfl,⟨q0,e0,g1,g2,g3⟩,hsl,hst⟩:=hF2.get hv
   have hon:o=none:=by
    cases o with
    |none=>rfl
    |some o=>rw[hE (by intro z;cases z)]at hfi;cases hfi
   subst hon
   have ngT:∀ {b:Addr} {xs:List V},H2 b=some (.tup xs)->b≠gl:=λ{b xs} e z=>by rw[z,hgl2]at e;cases e
   have g1':=k3 _ _ g1 (ngT g1)
   have g2':=k3 _ _ g2 (ngT g2)
   have g3':=k3 _ _ g3 (ngT g3)
   have hl3:=k3 _ _ hl2 nlg
   have hi:i<fs.length:=(List.getElem?_eq_some_iff.mp hv).1
   have ew:(S9 none frs).map g=((frs.take i).flatMap λf=>f.sl++f.st).map g++f.sl.map g++f.st.map g++((frs.drop (i+1)).flatMap λf=>f.sl++f.st).map g:=by
    show(frs.flatMap λf=>f.sl++f.st).map g=_
    conv=>lhs;rw[<-take_append_drop (i+1) frs,take_succ,hfi]
    simp[flatMap_append]
   rw[ew]at hY2
   obtain⟨y3,yd,e3,hY3,hYd⟩:=D9 hY2
   obtain⟨y2',yc,e2,hY2',hYc⟩:=D9 hY3
   obtain⟨ya,yb,e1,hYa,hYb⟩:=D9 hY2'
   subst e1 e2
   have la:=hYa.len
   have lb:=hYb.len
   have lc:=hYc.len
   have l2':=hsl.len
   have l3':=hst.len
   rw[length_map]at la lb lc
   have et:((frs.take (i+1)).flatMap λf=>f.sl++f.st).length=((frs.take i).flatMap λf=>f.sl++f.st).length+(sl.length+st.length):=by
    rw[take_succ,hfi,flatMap_append,length_append]
    simp[l2',l3']
   generalize((frs.take i).flatMap λf=>f.sl++f.st).length=n at la et⊢
   refine⟨_,rfl,_,rfl,(ixT g1' rfl ⟨_,_,rfl,.inr ⟨_,SqT.of g2',rfl⟩,.inl ⟨_,_,rfl,rfl, ?_⟩⟩)⟩
   refine⟨_,rfl,_,rfl,(ixT g1' rfl ⟨_,_,rfl,.inr ⟨_,SqT.of g3',rfl⟩,.inl ⟨_,_,rfl,rfl, ?_⟩⟩)⟩
   refine⟨_,rfl,.inl ⟨rfl,_,SqL.of hg3⟩,_,rfl,(ixT g1' rfl ⟨_,rfl,(ixT g1' rfl ?_)⟩)⟩
   have ec1:J9 ys (some ((n:Nat):Int)) (some (((n:Nat):Int)+((sl.length:Nat):Int)))=yb:=by
    rw[show((n:Nat):Int)+((sl.length:Nat):Int)=((n+sl.length:Nat):Int) by omega,NY,e3,List.append_assoc,add_sub_cancel_left]
    exact OF la.symm (by omega)
   have ec2:J9 ys (some (((n:Nat):Int)+((sl.length:Nat):Int))) (some (((n:Nat):Int)+((sl.length:Nat):Int)+((st.length:Nat):Int)))=yc:=by
    rw[show((n:Nat):Int)+((sl.length:Nat):Int)+((st.length:Nat):Int)=((n+sl.length+st.length:Nat):Int) by omega,show((n:Nat):Int)+((sl.length:Nat):Int)=((n+sl.length:Nat):Int) by omega,NY,e3,add_sub_cancel_left]
    exact OF (by rw[length_append];omega) (by omega)
   refine⟨_,rfl,_,rfl,_,rfl,_,rfl,_,rfl,.inl (.inl ⟨l,_,rfl,SqL.of hl3,λc1 hc1=> ?_⟩)⟩
   have s4:=A7 hc1 (.lst (J9 ys (some ((n:Nat):Int)) (some (((n:Nat):Int)+((sl.length:Nat):Int)))))
   refine⟨c1,_,rfl,.inl ⟨SqL.of A5,λt1 ht1=> ?_⟩⟩
   rw[ec1]
   have s5:=A7 ht1 (.tup yb)
   rw[ec1]at s4
   rw[ec1]at ht1
   rw[ec1]at s5
   refine⟨_,rfl,_,rfl,_,rfl,_,rfl,_,rfl,.inl (.inl ⟨l,_,rfl,SqL.of (s5 _ _ (s4 _ _ hl3)),λc2 hc2=> ?_⟩)⟩
   rw[ec2]
   have s6:=A7 hc2 (.lst yc)
   refine⟨c2,_,rfl,.inl ⟨SqL.of A5,λt2 ht2=> ?_⟩⟩
   have s7:=A7 ht2 (.tup yc)
   refine⟨(by show 4<=sizeLine;omega),λpp hpp=> ?_⟩
   have s8:=A7 hpp (.tup [.int ((f.k:Nat):Int),.int ((f.at_:Nat):Int),.ref t1,.ref t2])
   have s48:=s4.trans (s5.trans (s6.trans (s7.trans s8)))
   have hzl:=hZ.len
   rw[length_map,length_take]at hzl
   refine⟨gl,zs,_,rfl,rfl,s48 _ _ hg3,by omega, ?_⟩
   have ht19:=(s6.trans (s7.trans s8)) _ _ (show upd _ t1 (.tup yb) t1=some (.tup yb)from A5)
   have ht29:=s8 _ _ (show upd _ t2 (.tup yc) t2=some (.tup yc)from A5)
   have hg9:=s48 _ _ hg3
   have ee:((n:Nat):Int)+((sl.length:Nat):Int)+((st.length:Nat):Int)=((((frs.take (i+1)).flatMap λf=>f.sl++f.st).length:Nat):Int):=by rw[et];omega
   refine⟨_,rfl, ?_⟩
   refine⟨_,_,_,zs++ [.ref pp],by rw[<-ee];rfl,λb ob e nb=>SW.upd_at (s48 _ _ (k3 _ _ e nb)) nb,A5, ?_⟩
   have m9:Mo (upd (upd (upd (upd (upd H' c1 (.lst yb)) t1 (.tup yb)) c2 (.lst yc)) t2 (.tup yc)) pp (.tup [.int ((f.k:Nat):Int),.int ((f.at_:Nat):Int),.ref t1,.ref t2])) (upd (upd (upd (upd (upd (upd H' c1 (.lst yb)) t1 (.tup yb)) c2 (.lst yc)) t2 (.tup yc)) pp (.tup [.int ((f.k:Nat):Int),.int ((f.at_:Nat):Int),.ref t1,.ref t2])) gl (.lst (zs++ [.ref pp]))):=λb xs e=>by
    have:b≠gl:=λz=>by rw[z,hg9]at e;cases e
    rw[B5 this];exact e
   have m29:Mo H2 (upd (upd (upd (upd (upd (upd H' c1 (.lst yb)) t1 (.tup yb)) c2 (.lst yc)) t2 (.tup yc)) pp (.tup [.int ((f.k:Nat):Int),.int ((f.at_:Nat):Int),.ref t1,.ref t2])) gl (.lst (zs++ [.ref pp]))):=λb xs e=>m9 _ _ (s48 _ _ (k3 _ _ e (ngT e)))
   have m39:Mo H' (upd (upd (upd (upd (upd (upd H' c1 (.lst yb)) t1 (.tup yb)) c2 (.lst yc)) t2 (.tup yc)) pp (.tup [.int ((f.k:Nat):Int),.int ((f.at_:Nat):Int),.ref t1,.ref t2])) gl (.lst (zs++ [.ref pp]))):=λb xs e=>m9 _ _ (s48 _ _ e)
   rw[take_succ,hfi,map_append]
   refine(hZ.imp λ_ _ z=>FAt.mo m39 z).app (.cons ?_ .nil)
   exact⟨pp,yb,yc,rfl,⟨t1,t2,m9 _ _ A5,m9 _ _ ht19,m9 _ _ ht29⟩,hYb.imp λ_ _ z=>VAt.mo m29 z,hYc.imp λ_ _ z=>VAt.mo m29 z⟩
  ·rintro σ H' ⟨y4,y5,y6,zs,rfl,k3,hg3,hZ⟩
   rw[<-hfl,take_length]at hZ
   exact⟨_,y4,y5,y6,zs,rfl,k3,hg3,hZ⟩
 rintro σ H3 ⟨y2,y4,y5,y6,zs,rfl,k3,hg3,hZ⟩
 have nm:A.m≠gl:=λe=>by have:=h1.m;rw[e,hgl]at this;cases this
 have h3m:=k3 _ _ h2.m nm
 refine⟨_,rfl,_,rfl,A.m,CM,A.dx,_,rfl,h3m,RM.cl,RM.n4,lf, ?_⟩
 rw[p4]
 obtain⟨dx,ho,hL⟩:=h2.o
 have ngl:∀ {x:Addr} {ob:HO},H1 x=some ob->x≠gl:=λ{x ob} e z=>by rw[z,hgl]at e;cases e
 obtain⟨dx',ho1,hL1⟩:=h1.o
 have n1:A.bl≠A.m:=λe=>by have:=h1.bl;rw[e,h1.m]at this;cases this
 have n3:A.L≠A.m:=λe=>by rw[e,h1.m]at hL1;cases hL1
 have k4:Kq A H (upd H3 A.m (.ins CM A.dx (K4 {A with s:=gl} most out' r c))):=λb ob e n=>by
  have:b≠A.m:=λz=>n (by rw[z];exact BO A)
  rw[B5 this]
  exact k3 _ _ (t2 _ _ (k1 _ _ e n)) (C5 e hgl0)
 have mo34:Mo H3 (upd H3 A.m (.ins CM A.dx (K4 {A with s:=gl} most out' r c))):=λb xs e=>by
  have:b≠A.m:=λz=>by rw[z,h3m]at e;cases e
  rw[B5 this];exact e
 have mo14:Mo H1 (upd H3 A.m (.ins CM A.dx (K4 {A with s:=gl} most out' r c))):=λb xs e=>mo34 _ _ (k3 _ _ (t2 _ _ e) (ngl e))
 refine q gl zs out' _ hgl0 k4 ⟨A5, ?_,⟨dx', ?_, ?_⟩, ?_, ?_, ?_,h1.nbL⟩ (hZ.imp λ_ _ z=>FAt.mo mo34 z) (hO1.mo mo14)
 ·rw[B5 n1];exact k3 _ _ h2.bl (ngl h1.bl)
 ·rw[B5 h1.om];exact k3 _ _ (t2 _ _ ho1) (ngl ho1)
 ·rw[B5 n3];exact k3 _ _ (t2 _ _ hL1) (ngl hL1)
 ·rw[B5 (Ne.symm nm)];exact hg3
 ·exact ngl hL1
 ·exact ngl h1.bl
end
noncomputable abbrev s_collect:Stmt:=G5 (top 37) 6
noncomputable abbrev s_answer:Stmt:=G5 (top 37) 10
noncomputable abbrev s_minit:Stmt:=G5 (top 37) 0
noncomputable abbrev UX:List Str:=["self","ahead","told"]
theorem sc_collect:FnScope UX K5 (B4 s_collect):=fS
noncomputable abbrev YZ:List Str:=["self"]
theorem sc_answer:FnScope YZ K5 (B4 s_answer):=fS
noncomputable abbrev asZ:List Str:=["self","blocks","main","numbers","most"]
theorem sc_minit:FnScope asZ UZ (B4 s_minit):=fS
noncomputable def swS(ks:List Nat)(S:Ms):Ms:=⟨ks.map λk=>mvc ks (O4 S.cs k),S.frs.map (mvF (mv ks)),S.out.map (mvO (mv ks)),S.r,S.c⟩
structure Tidy (S:Ms):Prop where
 end_:S.out≠none->S.frs=[]
 okc:Okc S.cs
 okv:Okv S.cs.length (S9 S.out S.frs)
 few:Few S.cs (S9 S.out S.frs)
 len:(S9 S.out S.frs).length<=1000
noncomputable def VRa(cs:List Cl):PL.Pv->Vl->Prop
 | .int i,x=>x=.sc (.int i)
 | .bl b,x=>x=.sc (.bl b)
 | .nil,x=>x=.sc .non
 | .cons h t,x=>∃(k:Nat) (a b:Vl),x=.cell k/\cs[k]? =some (.pair a b)/\VRa cs h a/\VRa cs t b
theorem VRa.vr{H:Hp}{cs:List Cl}{us:List V}(hC:All2 (ClAt H) cs us):∀ {t:PL.Pv} {x:Vl} {v:V},VRa cs t x->VAt H x v->PL.VR H us t v
 | .int _,_,_,e,h=>by subst e;exact h.1
 | .bl _,_,_,e,h=>by subst e;exact h.1
 | .nil,_,_,e,h=>by subst e;exact h.1
 | .cons _ _,_,_,⟨k,a,b,e,hk,h1,h2⟩,h=>by
  subst e
  obtain⟨p,rfl,hp⟩:=h
  obtain⟨u,hu,c,y,z,rfl,hc,hy,hz⟩:=J1 hC hk
  exact⟨p,k,c,y,z,rfl,hp,hu,hc,VRa.vr hC h1 hy,VRa.vr hC h2 hz⟩
section
variable{P:Program}{w:World}{K:FZ}{mg:Str->Option Value}{base:Heap}{CM C Pt:Addr}{gf mf:Str->Addr}{gd md:Str->FuncData}{fi ZU aaZ Z7 fim:Addr}{di abZ alZ AA dim:FuncData}
theorem MR.putO{H:Hp}{A:Ad}{bs us us' fs:List V}{most r c:Int}{out:V}(h:MR CM C H A bs us fs most out r c){o L:Addr}(hc:CAt C H o L us')(nL:L≠A.s)(nb:A.bl≠L)(no:o≠A.m):MR CM C (upd H A.m (.ins CM A.dx (K4 {A with o:=o,L:=L} most out r c))) {A with o:=o,L:=L} bs us' fs most out r c:=by
 obtain⟨dx,ho,hL⟩:=hc
 have hm:=h.m
 have n1:A.bl≠A.m:=λe=>by have:=h.bl;rw[e,hm]at this;cases this
 have n3:L≠A.m:=λe=>by rw[e,hm]at hL;cases hL
 have n4:A.s≠A.m:=λe=>by have:=h.s;rw[e,hm]at this;cases this
 exact⟨A5,by rw[B5 n1];exact h.bl,⟨dx,by rw[B5 no];exact ho,by rw[B5 n3];exact hL⟩,by rw[B5 n4];exact h.s,nL,h.nbs,nb⟩
inductive spCollectW (CM C:Addr) (vs:List V) (H:Hp) (Q:VK):Prop
 |mk:∀(A:Ad) (bs:List Bk) (most:Nat) (S:Ms),(vs=[.ref A.m])->(MAt CM C H A bs most S)->(S.frs.length<=60)->(Tidy S)->(∀n A' ks H',New A A' H->Kq A H H'->Kept S.cs (S9 S.out S.frs) ks->MAt CM C H' A' bs most (swS ks S)->Q (.int n) H')->spCollectW CM C vs H Q
noncomputable def HX(CM C:Addr):Sp:=λvs H Q _=>spCollectW CM C vs H Q
theorem ok_collect(F:Fun K "collect" "Machine.collect" s_collect (gf "collect") (gd "collect"))(RM:MCls K CM gf gd)(RC:RCls K C mf md)
  (WK:FnOk P w K mg base CX0 1 (mf "many") (md "many") K5 (XE C))
  (TU:FnOk P w K mg base CX0 2 (gf "hung_on") (gd "hung_on") K5 (ZC CM C))
  (UB:FnOk P w K mg base CX0 2 (gf "hang_on") (gd "hang_on") amZ (WL CM C))
  (JY:Cn P w K mg base CX0 4 "swept" VI (TJ C)):
  FnOk P w K mg base CX0 5 (gf "collect") (gd "collect") K5 (HX CM C):=by
 obtain⟨ZU,abZ,JY,ZV,agZ,ZW⟩:=JY
 refine F.ok sc_collect (λvs H Q E h=> ?_) (λcdv A outer s H vs Q E hr h=> ?_)
 ·obtain⟨A,bs,most,S,rfl,_⟩:=h
  rfl
 obtain⟨A,bs,most,S,rfl,hA,hfr,hT,q⟩:=h
 obtain⟨vb,us,vf,out,hM,hB,hC,hF,hO⟩:=hA.ex
 obtain⟨dx,ho,hL⟩:=id hM.o
 have nd:=sc_collect.nd
 have hu:=hr.units0
 refine⟨_,(A8 (C7 (i:=1) nd rfl (Or.inl rfl) (K3 (G0 (pv 0) rfl) RC.cl RC.m_many WK (hr.mono (by omega)) RC.b_many .nil C0))
   (A8 (C7 (i:=2) nd rfl (Or.inl rfl) (B6 JY (hr.mono (by omega)) rfl ZW agZ ZV .nil C0 (A0 (G0 (pv 0) rfl) (A0 (K3 (pv 0) RM.cl RM.m_hung_on TU (hr.mono (by omega)) RM.b_hung_on .nil C0) A6))))
   (A8 (Q1 (pv 0) (ixE K w (pv 2) A9) rfl)
   (A8 (C3 (L0 (pv 0) RM.cl RM.m_hang_on UB (hr.mono (by omega)) RM.b_hang_on .nil C0 (A0 (ixE K w (pv 2) A9) A6)))
   (B0 (C2 (B7 P1 (pv 1) (K3 (G0 (pv 0) rfl) RC.cl RC.m_many WK (hr.mono (by omega)) RC.b_many .nil C0)))))))), ?_⟩
 refine⟨_,rfl,A.m,CM,A.dx,_,_,rfl,hM.m,RM.cl,RM.n3,l3,A.o,dx,_,rfl,ho,rfl,A.o,A.L,us,rfl,hM.o, ?_⟩
 refine⟨_,rfl,A.m,CM,A.dx,_,_,rfl,hM.m,RM.cl,RM.n3,l3,_,rfl,A.m,A.dx,_,rfl,hM.m,rfl,A,vb,us,vf,_,out,_,_,S.out,S.frs,rfl,hM,hO,hF,hT.len,λhl xs H1 s1 hl0 hl1 hX=> ?_⟩
 have hxl:=hX.len
 have hlen:=hT.len
 have h1:=hM.same s1
 refine⟨A.o,A.L,hl,us,xs,S.cs,S9 S.out S.frs,rfl,h1.o,hC.imp λ_ _ z=>ClAt.mo (B8 s1) z,hl1,hX,hT.okc,hT.okv,hT.few,by omega,λt o' L' l us' ys ks H2 s2 hK ht hc2 hC2 hl2 hY no' nL' nl0 nlL=> ?_⟩
 have h2:=h1.same s2
 have fr2:∀ {x:Addr},H1 x=none->H x=none:=λe=>s1.free e
 have notown:∀ {x:Addr},H1 x=none->x∉A.own:=λ{x} e hm=>by
  obtain⟨dx1,ho1,hL1⟩:=h1.o
  simp only[Ad.own,mem_cons,not_mem_nil,or_false]at hm
  rcases hm with z|z|z|z|z<;>rw[z]at e
  ·rw[h1.m]at e;cases e
  ·rw[h1.bl]at e;cases e
  ·rw[ho1]at e;cases e
  ·rw[hL1]at e;cases e
  ·rw[h1.s]at e;cases e
 have no:=notown no'
 have nLo:=notown nL'
 have nlo:=notown nl0
 have o1:o'≠A.m:=λe=>no (by rw[e];exact BO A)
 have o2:L'≠A.s:=λe=>nLo (by rw[e];exact DQ A)
 have o3:A.bl≠L':=λe=>nLo (by rw[<-e];simp[Ad.own])
 refine⟨_,rfl,(ixT ht rfl ?_)⟩
 refine⟨_,rfl,A.m,CM,A.dx,_,rfl,h2.m,RM.cl,RM.n3,lf, ?_⟩
 rw[p3 o' L']
 have h3:=h2.putO (us':=us') hc2 o2 o3 o1
 have k3:Kq A H2 (upd H2 A.m (.ins CM A.dx (K4 {A with o:=o',L:=L'} (most:Nat) out (S.r:Nat) (S.c:Nat)))):=Kq.updO _ (BO A)
 have mo3:=h2.mo k3
 show O6 _ _ _ [some (.ref A.m),some (.int (us.length:Nat)),some (.ref t)] (upd H2 A.m (.ins CM A.dx (K4 {A with o:=o',L:=L'} (most:Nat) out (S.r:Nat) (S.c:Nat))))
 have hl3:=k3 _ _ hl2 nlo
 obtain⟨dxo,hoo,hLL⟩:=id h2.o
 have ho3:upd H2 A.m (.ins CM A.dx (K4 {A with o:=o',L:=L'} (most:Nat) out (S.r:Nat) (S.c:Nat))) A.o=some (.ins C dxo [("in_order",.ref A.L)]):=by rw[B5 h2.om];exact hoo
 have hL3:upd H2 A.m (.ins CM A.dx (K4 {A with o:=o',L:=L'} (most:Nat) out (S.r:Nat) (S.c:Nat))) A.L=some (.lst us):=by rw[B5 (λe=>by have:=h2.m;rw[<-e,hLL]at this;cases this)];exact hLL
 generalize upd H2 A.m (.ins CM A.dx (K4 {A with o:=o',L:=L'} (most:Nat) out (S.r:Nat) (S.c:Nat)))=H3 at h3 k3 mo3 hl3 ho3 hL3⊢
 have moH3:Mo H H3:=λb zs e=>mo3 _ _ (s2 _ _ (s1 _ _ e))
 have nl3:l∉({A with o:=o',L:=L'}:Ad).own:=λhm=>by
  simp only[Ad.own,mem_cons,not_mem_nil,or_false]at hm nlo
  rcases hm with z|z|z|z|z
  ·exact nlo (.inl z)
  ·exact nlo (.inr (.inl z))
  ·obtain⟨_,hoo,_⟩:=hc2
   rw[z,hoo]at hl2;cases hl2
  ·exact nlL z
  ·exact nlo (.inr (.inr (.inr (.inr z))))
 have hyl:=hY.len
 rw[length_map]at hyl
 refine⟨_,rfl,A.m,A.dx,_,rfl,h3.m,rfl,_,rfl,(ixT (mo3 _ _ ht) rfl ?_)⟩
 refine⟨{A with o:=o',L:=L'},vb,us',vf,_,out,_,_,S.out,S.frs,mv ks,l,ys,rfl,h3,hO.mo moH3,hF.imp λ_ _ z=>FAt.mo moH3 z,hT.end_,hfr,hl3,nl3,hY.imp λ_ _ z=>VAt.mo mo3 z,by omega,λs4 fs' out' H4 hs4 k4 h4 hF4 hO4=> ?_⟩
 obtain⟨dx4,ho4,hL4⟩:=id h4.o
 have mo4:=h3.mo k4
 refine⟨_,rfl,_,rfl,A.m,CM,A.dx,_,_,rfl,h4.m,RM.cl,RM.n3,l3,o',dx4,_,rfl,ho4,rfl,o',L',us',rfl,h4.o,_,_,rfl,rfl, ?_⟩
 have frk:∀ {x:Addr},H3 x=none->H x=none:=λ{x} e=>by
  cases e':H x with
  |none=>rfl
  |some ob=>
   by_cases z:x∈A.own
   ·exfalso
    simp only[Ad.own,mem_cons,not_mem_nil,or_false]at z
    rcases z with z|z|z|z|z<;>rw[z]at e
    ·rw[h3.m]at e;cases e
    ·rw[h3.bl]at e;cases e
    ·rw[ho3]at e;cases e
    ·rw[hL3]at e;cases e
    ·rw[h3.s]at e;cases e
   ·rw[k3 _ _ (s2 _ _ (s1 _ _ e')) z]at e;cases e
 have kq:Kq A H H4:=λb ob e n=>by
  have e1:=s1 _ _ e
  refine k4 _ _ (k3 _ _ (s2 _ _ e1) n) λhm=> ?_
  simp only[Ad.own,mem_cons,not_mem_nil,or_false]at hm n
  rcases hm with z|z|z|z|z
  ·exact n (.inl z)
  ·exact n (.inr (.inl z))
  ·rw[z,no']at e1;cases e1
  ·rw[z,nL']at e1;cases e1
  ·exact n (.inr (.inr (.inr (.inr z))))
 have moH4:=hM.mo kq
 refine q _ {A with o:=o',L:=L',s:=s4} ks H4 ⟨rfl,λx hx=> ?_⟩ kq hK ⟨vb,us',fs',out',h4,hB.imp λ_ _ z=>BAt.mo moH4 z,hC2.imp λ_ _ z=>ClAt.mo (λb zs e=>mo4 _ _ (mo3 _ _ e)) z,hF4,hO4⟩
 simp only[Ad.own,mem_cons,not_mem_nil,or_false]at hx⊢
 rcases hx with z|z|z|z|z
 ·exact .inl (.inl z)
 ·exact .inl (.inr (.inl z))
 ·exact .inr (by rw[z];exact fr2 no')
 ·exact .inr (by rw[z];exact fr2 nL')
 ·exact .inr (by rw[z];exact frk hs4)
inductive spAnswerW (CM C Pt:Addr) (vs:List V) (H:Hp) (Q:VK):Prop
 |mk:∀(A:Ad) (bs:List Bk) (most:Nat) (S:Ms),(vs=[.ref A.m])->(MAt CM C H A bs most S)->(((∃x t,S.out=some (.value x)/\VRa S.cs t x/\PL.size t<=400000/\GJ H Pt PL.lamAt PL.lamQ/\∀p r H1 H',(∀b ob,H b=some ob->b≠Pt->H1 b=some ob)->GJ H1 Pt PL.lamAt PL.lamQ->(PL.R (λa=>H a=none) H1 t).1 r->H1 p=none->H'=upd H1 p (.tup [.str "value",r])->Q (.ref p) H')\/(X1 S.out=false/\∀u,OAt H S.out u->Q u H)))->spAnswerW CM C Pt vs H Q
noncomputable def Y7(CM C Pt:Addr):Sp:=λvs H Q _=>spAnswerW CM C Pt vs H Q
theorem ok_answer(F:Fun K "answer" "Machine.answer" s_answer (gf "answer") (gd "answer"))(RM:MCls K CM gf gd)
  (Q9:FnOk P w K mg base CX0 1 (gf "has_value") (gd "has_value") K5 (KE CM))
  (BF:Cn P w K mg base CX0 5 "plain" NX (PL.spPlain C Pt)):
  FnOk P w K mg base CX0 6 (gf "answer") (gd "answer") K5 (Y7 CM C Pt):=by
 obtain⟨aaZ,alZ,BF,ZX,akZ,ajZ⟩:=BF
 refine F.ok sc_answer (λvs H Q E h=> ?_) (λcdv A outer s H vs Q E hr h=> ?_)
 ·obtain⟨A,bs,most,S,rfl,_⟩:=h
  rfl
 obtain⟨A,bs,most,S,rfl,hA,h⟩:=h
 obtain⟨vb,us,vf,out,hM,hB,hC,hF,hO⟩:=hA.ex
 have nd:=sc_answer.nd
 have hu:=hr.units0
 refine⟨_,(A8 (D8 (M3 (K:=K) (K3 (pv 0) RM.cl RM.m_has_value Q9 (hr.mono (by omega)) RM.b_has_value .nil C0) (λ_=>rfl)) (B0 (C2 (C1 (A0 B1 (A0 (B6 BF (hr.mono (by omega)) rfl ajZ akZ ZX .nil C0 (A0 (G0 (pv 0) rfl) (A0 (ixE K w (G0 (pv 0) rfl) A9) A6))) A6))))) D2)
   (B0 (C2 (G0 (pv 0) rfl)))), ?_⟩
 refine⟨_,rfl,A.m,A.dx,_,rfl,hM.m,rfl,A,_,out,_,_,X1 S.out,rfl,hM.m,hO.ov,_,rfl, ?_⟩
 rcases h with⟨x,t,ho,hx,hsz,hT,fin⟩|⟨hv,fin⟩
 ·rw[ho]at hO⊢
  obtain⟨p,v,rfl,hp,hxv⟩:=hO
  refine ifT rfl ⟨_,rfl,A.m,CM,A.dx,_,_,rfl,hM.m,RM.cl,RM.n3,l3,_,rfl,A.m,CM,A.dx,_,_,rfl,hM.m,RM.cl,RM.n5,l5,(ixT hp rfl ?_)⟩
  refine⟨A.o,A.L,us,t,v,rfl,hM.o,VRa.vr hC hx hxv,hsz,hT,λr H1 k1 hT1 hR=>⟨(by show 2<=sizeLine;decide),λp1 hp1=> ?_⟩⟩
  exact fin p1 r H1 _ k1 hT1 hR hp1 rfl
 ·rw[hv]
  exact ifF nZ ⟨_,rfl,A.m,CM,A.dx,_,_,rfl,hM.m,RM.cl,RM.n5,l5,fin out hO⟩
inductive spMInitW (CM C:Addr) (vs:List V) (H:Hp) (Q:VK):Prop
 |mk:∀(x dx bl num:Addr) (vb xs:List V) (main most:Nat) (bs:List Bk) (bk:Bk) (ws:List Vl),(vs=[.ref x,.ref bl,.int (main:Nat),.ref num,.int (most:Nat)])->(H x=some (.ins CM dx []))->(H bl=some (.lst vb))->(All2 (BAt H) bs vb)->(bs[main]? =some bk)->(H num=some (.lst xs))->(All2 (VAt H) ws xs)->(ws.length<=bk.sz)->(∀A H',A.m=x->(∀b ob,H b=some ob->b≠x->H' b=some ob)->(∀y∈A.own,y=x\/H y=none)->MAt CM C H' A bs most ⟨[],[begun main bk.sz ws],none,0,0⟩->Q .non H')->spMInitW CM C vs H Q
noncomputable def KJ(CM C:Addr):Sp:=λvs H Q _=>spMInitW CM C vs H Q
theorem ok_minit(F:Fun K "__init__" "Machine.__init__" s_minit fim dim)(B:NoG mg)(RM:MCls K CM gf gd)(M_Cells:Mk K C fi)(m_Cells:mg "Cells"=some (.ref C))
  (G___init__:FnOk P w K mg base CX0 1 fi di K5 (RF C))(b___init__:Binds K di K5 [])
  (O5:Cn P w K mg base CX0 1 "entered" aZZ XR):
  FnOk P w K mg base CX0 3 fim dim UZ (KJ CM C):=by
 obtain⟨Z7,AA,O5,AB,Z8,Z6⟩:=O5
 refine F.ok sc_minit (λvs H Q E h=> ?_) (λcdv A outer s H vs Q E hr h=> ?_)
 ·obtain⟨x,dx,bl,num,vb,xs,main,most,bs,bk,ws,rfl,_⟩:=h
  rfl
 obtain⟨x,dx,bl,num,vb,xs,main,most,bs,bk,ws,rfl,hx,hbl,hB,hbk,hnum,hW,hwz,q⟩:=h
 have nd:=sc_minit.nd
 have hu:=hr.units0
 have zz:(1000:Nat)<=sizeLine:=by decide
 refine⟨_,(A8 (Q1 (pv 0) (G3 (W0 (K:=K)) rfl B.list_ N2 (A0 (pv 1) A6)) rfl)
   (A8 (Q1 (pv 0) (pv 4) rfl)
   (A8 (Q1 (pv 0) (NV M_Cells G___init__ (hr.mono (by omega)) rfl m_Cells b___init__ .nil C0) rfl)
   (A8 (Q1 (pv 0) (E6 (A0 (B6 O5 (hr.mono (by omega)) rfl Z6 Z8 AB .nil C0 (A0 (pv 1) (A0 (pv 2) (A0 (pv 3) A6)))) A6)) rfl)
   (A8 (Q1 (pv 0) Q4 rfl)
   (A8 (Q1 (pv 0) A9 rfl)
   (B0 (Q1 (pv 0) A9 rfl)))))))), ?_⟩
 refine⟨_,rfl,bl,vb,rfl,.inl (SqL.of hbl),λnb hnb=> ?_⟩
 have t1:=A7 hnb (.lst vb)
 refine⟨_,rfl,x,CM,dx,_,rfl,t1 _ _ hx,RM.cl,RM.n1,(by decide), ?_⟩
 have nx1:nb≠x:=λe=>by rw[e,hx]at hnb;cases hnb
 have k1:∀b ob,H b=some ob->b≠x->upd (upd H nb (.lst vb)) x (.ins CM dx [("blocks",.ref nb)]) b=some ob:=λb ob e n=>by rw[B5 n];exact t1 _ _ e
 have hnb1:upd (upd H nb (.lst vb)) x (.ins CM dx [("blocks",.ref nb)]) nb=some (.lst vb):=by rw[B5 nx1];exact A5
 have hx1:upd (upd H nb (.lst vb)) x (.ins CM dx [("blocks",.ref nb)]) x=some (.ins CM dx [("blocks",.ref nb)]):=A5
 show O6 _ _ _ _ (upd (upd H nb (.lst vb)) x (.ins CM dx [("blocks",.ref nb)]))
 generalize upd (upd H nb (.lst vb)) x (.ins CM dx [("blocks",.ref nb)])=H1 at k1 hnb1 hx1⊢
 refine⟨_,rfl,_,rfl,x,CM,dx,_,rfl,hx1,RM.cl,RM.n2,(by show 1<1000;decide), ?_⟩
 have k2:∀b ob,H1 b=some ob->b≠x->upd H1 x (.ins CM dx [("blocks",.ref nb),("most",.int (most:Nat))]) b=some ob:=λb ob e n=>by rw[B5 n];exact e
 have hx2:upd H1 x (.ins CM dx [("blocks",.ref nb),("most",.int (most:Nat))]) x=some (.ins CM dx [("blocks",.ref nb),("most",.int (most:Nat))]):=A5
 show O6 _ _ _ _ (upd H1 x (.ins CM dx [("blocks",.ref nb),("most",.int (most:Nat))]))
 generalize upd H1 x (.ins CM dx [("blocks",.ref nb),("most",.int (most:Nat))])=H2 at k2 hx2⊢
 have nbx:∀ {b:Addr} {ob:HO},H b=some ob->(∀c d e,ob≠ .ins c d e)->b≠x:=λ{b ob} e n z=>by rw[z,hx]at e;exact n _ _ _ (Option.some.inj e).symm
 refine λo2 d2 ho2 hd2 hn2=>⟨o2,d2,rfl,A5,λL2 hL2=>⟨rfl, ?_⟩⟩
 obtain⟨s3,hC3,hL20⟩:=SH (C:=C) ho2 hd2 hn2 hL2
 generalize upd (upd (upd (upd H2 d2 (.own o2)) o2 (.ins C d2 [])) L2 (.lst [])) o2 (.ins C d2 [("in_order",.ref L2)])=H3 at s3 hC3⊢
 refine⟨_,rfl,x,CM,dx,_,rfl,s3 _ _ hx2,RM.cl,RM.n3,(by show 2<1000;decide), ?_⟩
 obtain⟨dxo,hoo,hLL⟩:=id hC3
 have n2x:o2≠x:=λe=>by rw[e,hx2]at ho2;cases ho2
 have nLx:L2≠x:=λe=>by rw[e,hx2]at hL20;cases hL20
 have k4:∀b ob,H3 b=some ob->b≠x->upd H3 x (.ins CM dx [("blocks",.ref nb),("most",.int (most:Nat)),("store",.ref o2)]) b=some ob:=λb ob e n=>by rw[B5 n];exact e
 have hx4:upd H3 x (.ins CM dx [("blocks",.ref nb),("most",.int (most:Nat)),("store",.ref o2)]) x=some (.ins CM dx [("blocks",.ref nb),("most",.int (most:Nat)),("store",.ref o2)]):=A5
 show O6 _ _ _ _ (upd H3 x (.ins CM dx [("blocks",.ref nb),("most",.int (most:Nat)),("store",.ref o2)]))
 generalize upd H3 x (.ins CM dx [("blocks",.ref nb),("most",.int (most:Nat)),("store",.ref o2)])=H4 at k4 hx4⊢
 have kk:∀b ob,H b=some ob->b≠x->H4 b=some ob:=λb ob e n=>k4 _ _ (s3 _ _ (k2 _ _ (k1 _ _ e n) n)) n
 have mo:Mo H H4:=λb zs e=>kk _ _ e (nbx e λc d f z=>nomatch z)
 obtain⟨u2,hu2,tb2,rs2,ur2,rfl,hb21,hb22,hb23,hb24⟩:=J1 hB hbk
 have lws:=hW.len
 refine⟨_,rfl,_,rfl,_,rfl,bl,vb,main,bk.sz,num,xs,rfl,kk _ _ hbl (nbx hbl λc d f z=>nomatch z),⟨tb2,_,_,hu2,mo _ _ hb21⟩,.inl (kk _ _ hnum (nbx hnum λc d f z=>nomatch z)),by omega,by omega,λp H5 s5 hF5=>⟨(by show 1<=sizeLine;omega),λsl hsl=> ?_⟩⟩
 have t6:=A7 hsl (.lst [.ref p])
 have hx6:=t6 _ _ (s5 _ _ hx4)
 refine⟨_,rfl,x,CM,dx,_,rfl,hx6,RM.cl,RM.n4,(by show 3<1000;decide), ?_⟩
 have nsx:sl≠x:=λe=>by rw[e,s5 _ _ hx4]at hsl;cases hsl
 have k7:∀b ob,upd H5 sl (.lst [.ref p]) b=some ob->b≠x->upd (upd H5 sl (.lst [.ref p])) x (.ins CM dx [("blocks",.ref nb),("most",.int (most:Nat)),("store",.ref o2),("standing",.ref sl)]) b=some ob:=λb ob e n=>by rw[B5 n];exact e
 have hx7:upd (upd H5 sl (.lst [.ref p])) x (.ins CM dx [("blocks",.ref nb),("most",.int (most:Nat)),("store",.ref o2),("standing",.ref sl)]) x=some (.ins CM dx [("blocks",.ref nb),("most",.int (most:Nat)),("store",.ref o2),("standing",.ref sl)]):=A5
 have hsl7:upd (upd H5 sl (.lst [.ref p])) x (.ins CM dx [("blocks",.ref nb),("most",.int (most:Nat)),("store",.ref o2),("standing",.ref sl)]) sl=some (.lst [.ref p]):=by rw[B5 nsx];exact A5
 show O6 _ _ _ _ (upd (upd H5 sl (.lst [.ref p])) x (.ins CM dx [("blocks",.ref nb),("most",.int (most:Nat)),("store",.ref o2),("standing",.ref sl)]))
 generalize upd (upd H5 sl (.lst [.ref p])) x (.ins CM dx [("blocks",.ref nb),("most",.int (most:Nat)),("store",.ref o2),("standing",.ref sl)])=H7 at k7 hx7 hsl7⊢
 refine⟨_,rfl,x,CM,dx,_,rfl,hx7,RM.cl,RM.n5,(by show 4<1000;decide), ?_⟩
 refine⟨_,rfl,x,CM,dx,_,rfl,A5,RM.cl,RM.n6,(by show 5<1000;decide), ?_⟩
 refine⟨_,rfl,x,CM,dx,_,rfl,A5,RM.cl,RM.n7,(by show 6<1000;decide), ?_⟩
 have k8:∀b ob,H7 b=some ob->b≠x->upd (upd (upd H7 x (.ins CM dx [("blocks",.ref nb),("most",.int (most:Nat)),("store",.ref o2),("standing",.ref sl),("outcome",.non)])) x (.ins CM dx [("blocks",.ref nb),("most",.int (most:Nat)),("store",.ref o2),("standing",.ref sl),("outcome",.non),("rows_so_far",.int 0)])) x (.ins CM dx (K4 ⟨x,dx,nb,o2,L2,sl⟩ (most:Nat) .non 0 0)) b=some ob:=λb ob e n=>by rw[B5 n,B5 n,B5 n];exact e
 have h47:∀b ob,H4 b=some ob->b≠x->H7 b=some ob:=λb ob e n=>k7 _ _ (t6 _ _ (s5 _ _ e)) n
 have moA:Mo H (upd (upd (upd H7 x (.ins CM dx [("blocks",.ref nb),("most",.int (most:Nat)),("store",.ref o2),("standing",.ref sl),("outcome",.non)])) x (.ins CM dx [("blocks",.ref nb),("most",.int (most:Nat)),("store",.ref o2),("standing",.ref sl),("outcome",.non),("rows_so_far",.int 0)])) x (.ins CM dx (K4 ⟨x,dx,nb,o2,L2,sl⟩ (most:Nat) .non 0 0))):=λb zs e=>k8 _ _ (h47 _ _ (mo _ _ e) (nbx e λc d f z=>nomatch z)) (nbx e λc d f z=>nomatch z)
 have hxT:∀ {b:Addr} {zs:List V},H5 b=some (.tup zs)->b≠x:=λ{b zs} e z=>by rw[z,s5 _ _ hx4]at e;cases e
 have mo5:Mo H5 (upd (upd (upd H7 x (.ins CM dx [("blocks",.ref nb),("most",.int (most:Nat)),("store",.ref o2),("standing",.ref sl),("outcome",.non)])) x (.ins CM dx [("blocks",.ref nb),("most",.int (most:Nat)),("store",.ref o2),("standing",.ref sl),("outcome",.non),("rows_so_far",.int 0)])) x (.ins CM dx (K4 ⟨x,dx,nb,o2,L2,sl⟩ (most:Nat) .non 0 0))):=λb zs e=>k8 _ _ (k7 _ _ (t6 _ _ e) (hxT e)) (hxT e)
 have fr:∀ {y:Addr},H2 y=none->H y=none:=λ{y} e=>by
  cases e':H y with
  |none=>rfl
  |some ob=>
   by_cases z:y=x
   ·rw[z,hx2]at e;cases e
   ·rw[k2 _ _ (k1 _ _ e' z) z]at e;cases e
 have hsl0:H sl=none:=by
  cases e':H sl with
  |none=>rfl
  |some ob=>rw[s5 _ _ (kk _ _ e' nsx)]at hsl;cases hsl
 have hnb4:H4 nb=some (.lst vb):=k4 _ _ (s3 _ _ (k2 _ _ hnb1 nx1)) nx1
 have hL4:H4 L2=some (.lst []):=k4 _ _ hLL nLx
 refine q ⟨x,dx,nb,o2,L2,sl⟩ _ rfl (λb ob e n=>k8 _ _ (h47 _ _ (kk _ _ e n) n) n) (λy hy=> ?_) ⟨vb,[],[.ref p],.non,⟨A5,k8 _ _ (h47 _ _ hnb4 nx1) nx1,⟨dxo,k8 _ _ (h47 _ _ (k4 _ _ hoo n2x) n2x) n2x,k8 _ _ (h47 _ _ hL4 nLx) nLx⟩,k8 _ _ hsl7 nsx, ?_, ?_, ?_⟩,hB.imp λ_ _ z=>BAt.mo moA z,.nil,.cons ⟨p,_,[],rfl,FrAt.mo' mo5 hF5, ?_,.nil⟩ .nil,rfl⟩
 ·simp only[Ad.own,mem_cons,not_mem_nil,or_false]at hy
  rcases hy with z|z|z|z|z
  ·exact .inl z
  ·exact .inr (by rw[z];exact hnb)
  ·exact .inr (by rw[z];exact fr ho2)
  ·exact .inr (by rw[z];exact fr hL20)
  ·exact .inr (by rw[z];exact hsl0)
 ·exact λ(e:L2=sl)=>by rw[<-e,s5 _ _ hL4]at hsl;cases hsl
 ·exact λ(e:nb=sl)=>by rw[<-e,s5 _ _ hnb4]at hsl;cases hsl
 ·exact λ(e:nb=L2)=>by
   have:H2 nb=some (.lst vb):=k2 _ _ hnb1 nx1
   rw[e,hL20]at this;cases this
 ·show All2 _ (ws++List.replicate (bk.sz - ws.length) (.sc .non)) _
  rw[lws]
  exact(hW.imp λ_ _ z=>VAt.mo moA z).app (BN _)
end
noncomputable abbrev s_ended:Stmt:=CL.top 39
noncomputable abbrev s_run:Stmt:=CL.top 38
noncomputable abbrev SO:List Str:=["blocks","main","numbers","most","rounds","machine","asked"]
theorem sc_ended:FnScope SO UR (B4 s_ended):=fS
noncomputable abbrev dHZ:List Str:=["blocks","main","numbers","most","rounds"]
theorem sc_run:FnScope dHZ UR (B4 s_run):=fS
structure NoD (mg:Str->Option Value):Prop extends NoG mg where
 dict_:mg "dict"=none
structure Rn (bs:List Bk) (most:Nat) (I:Ms->Prop) (mu:Ms->Nat):Prop where
 go:∀S,I S->S.out=none->Small S/\Tidy S/\(∀ks,Kept S.cs (S9 S.out S.frs) ks->I (swS ks S)/\mu (swS ks S)<=mu S)/\∃S',cnZ bs most S S'/\I S'/\mu S'<mu S
 val:∀S x,I S->S.out=some (.value x)->∃t,VRa S.cs t x/\PL.size t<=400000
noncomputable abbrev Tb(H:Hp)(Pt:Addr):Prop:=GJ H Pt PL.lamAt PL.lamQ
section
variable{CM C Pt:Addr}
theorem MR.ntbl{H:Hp}{A:Ad}{bs us fs:List V}{most r c:Int}{out:V}(h:MR CM C H A bs us fs most out r c){b:Addr}{ob:HO}(e:H b=some ob)(n1:∀x y z,ob≠ .ins x y z)(n2:∀x,ob≠ .lst x):b∉A.own:=λhm=>by
 obtain⟨dx,ho,hL⟩:=h.o
 simp only[Ad.own,mem_cons,not_mem_nil,or_false]at hm
 rcases hm with z|z|z|z|z<;>rw[z]at e
 ·rw[h.m]at e;exact n1 _ _ _ (Option.some.inj e).symm
 ·rw[h.bl]at e;exact n2 _ (Option.some.inj e).symm
 ·rw[ho]at e;exact n1 _ _ _ (Option.some.inj e).symm
 ·rw[hL]at e;exact n2 _ (Option.some.inj e).symm
 ·rw[h.s]at e;exact n2 _ (Option.some.inj e).symm
theorem MAt.tab{H H':Hp}{A:Ad}{bs:List Bk}{most:Nat}{S:Ms}(h:MAt CM C H A bs most S)(k:Kq A H H')(hT:Tb H Pt):Tb H' Pt:=by
 obtain⟨vb,us,fs,out,hM,_⟩:=h.ex
 obtain⟨qs,e1,e2,e3⟩:=hT
 refine⟨qs,k _ _ e1 (hM.ntbl e1 (λ_ _ _ z=>nomatch z) λ_ z=>nomatch z),e2, ?_⟩
 rcases e3 with e3|⟨c2,e3,e4⟩
 ·exact .inl e3
 ·exact .inr ⟨c2,e3,k _ _ e4 (hM.ntbl e4 (λ_ _ _ z=>nomatch z) λ_ z=>nomatch z)⟩
theorem MAt.ptn{H:Hp}{A:Ad}{bs:List Bk}{most:Nat}{S:Ms}(h:MAt CM C H A bs most S)(hT:Tb H Pt):Pt∉A.own:=by
 obtain⟨vb,us,fs,out,hM,_⟩:=h.ex
 obtain⟨qs,e1,_⟩:=hT
 exact hM.ntbl e1 (λ_ _ _ z=>nomatch z) λ_ z=>nomatch z
theorem MAt.pt{H H':Hp}{A:Ad}{bs:List Bk}{most:Nat}{S:Ms}(h:MAt CM C H A bs most S)(hT:Tb H Pt)(k:∀b ob,H b=some ob->b≠Pt->H' b=some ob):MAt CM C H' A bs most S:=by
 have hp:=h.ptn hT
 obtain⟨vb,us,fs,out,hM,hB,hC,hF,hO⟩:=h.ex
 obtain⟨qs,e1,_⟩:=hT
 have m:Mo H H':=λb xs e=>k _ _ e λz=>by rw[z,e1]at e;cases e
 have kk:∀ {b:Addr} {ob:HO},b∈A.own->H b=some ob->H' b=some ob:=λ{b ob} hb e=>k _ _ e λz=>hp (z▸hb)
 obtain⟨dx,ho,hL⟩:=hM.o
 exact⟨vb,us,fs,out,⟨kk (BO A) hM.m,kk (by simp[Ad.own]) hM.bl,⟨dx,kk (by simp[Ad.own]) ho,kk (bFZ A) hL⟩,kk (DQ A) hM.s,hM.nLs,hM.nbs,hM.nbL⟩,hB.imp λ_ _ z=>BAt.mo m z,hC.imp λ_ _ z=>ClAt.mo m z,hF.imp λ_ _ z=>FAt.mo m z,hO.mo m⟩
theorem ON{H:Hp}(v:V):∀(ss:List Int) (ys:List V),All2 (λ(i:Int) y=>∃p:Addr,y=.ref p/\H p=some (.tup [.int i,v])) ss ys->PrV H ys (ss.map λi=>((.inl i:Key),v))
 | [],_,h=>by cases h;rfl
 |i::ss,_,h=>by
  cases h with
  |cons h1 h2=>
   obtain⟨p,e,hp⟩:=h1
   exact⟨p,.inl i,v,_,e,hp,rfl,ON v ss _ h2⟩
variable{P:Program}{w:World}{K:FZ}{mg:Str->Option Value}{base:Heap}{gf mf:Str->Addr}{gd md:Str->FuncData}{f fim ZY:Addr}{fd dim acZ:FuncData}
inductive spEndedW(CM C Pt:Addr)(vs:List V)(H:Hp)(Q:VK):Prop
 |mk:∀(bl num rd:Addr) (vb xs:List V) (main most:Nat) (bs:List Bk) (bk:Bk) (ws:List Vl) (rs:List Int) (I:Ms->Prop) (mu:Ms->Nat),(vs=[.ref bl,.int (main:Nat),.ref num,.int (most:Nat),.ref rd])->(H bl=some (.lst vb))->(All2 (BAt H) bs vb)->(bs[main]? =some bk)->(H num=some (.lst xs))->(All2 (VAt H) ws xs)->(ws.length<=bk.sz)->(H rd=some (.lst (rs.map V.int)))->(rs.length<=1000)->(Tb H Pt)->(Rn bs most I mu)->(I ⟨[],[begun main bk.sz ws],none,0,0⟩)->(∀A S H',(∀b ob,H b=some ob->b≠Pt->H' b=some ob)->Tb H' Pt->(∀y∈A.own,H y=none)->MAt CM C H' A bs most S->I S->S.out≠none->Q (.ref A.m) H')->spEndedW CM C Pt vs H Q
noncomputable def SS(CM C Pt:Addr):Sp:=λvs H Q _=>spEndedW CM C Pt vs H Q
theorem ok_ended(F:Fun K "ended" "ended" s_ended f fd)(B:NoD mg)(RM:MCls K CM gf gd)(M_Machine:Mk K CM fim)(m_Machine:mg "Machine"=some (.ref CM))
  (GMachine___init__:FnOk P w K mg base CX0 3 fim dim UZ (KJ CM C))(bMachine___init__:Binds K dim UZ [])
  (Y1:FnOk P w K mg base CX0 6 (gf "answer") (gd "answer") K5 (Y7 CM C Pt))
  (T5:FnOk P w K mg base CX0 1 (gf "rows_done") (gd "rows_done") K5 (QN CM C true))
  (TN:FnOk P w K mg base CX0 5 (gf "collect") (gd "collect") K5 (HX CM C))
  (OW:FnOk P w K mg base CX0 5 (gf "step") (gd "step") K5 (RL CM C)):
  FnOk P w K mg base CX0 7 f fd UR (SS CM C Pt):=by
 refine F.ok sc_ended (λvs H Q E h=> ?_) (λcdv A outer s H vs Q E hr h=> ?_)
 ·obtain⟨bl,num,rd,vb,xs,main,most,bs,bk,ws,rs,I,mu,rfl,_⟩:=h
  rfl
 obtain⟨bl,num,rd,vb,xs,main,most,bs,bk,ws,rs,I,mu,rfl,hbl,hB,hbk,hnum,hW,hwz,hrd,hrl,hT,hR,hI,q⟩:=h
 have nd:=sc_ended.nd
 have hu:=hr.units0
 have zz:(4000:Nat)<=sizeLine:=by decide
 refine⟨_,(A8 (C7 (i:=5) nd rfl (Or.inl rfl) (SY M_Machine GMachine___init__ (hr.mono (by omega)) rfl m_Machine bMachine___init__ .nil C0 (A0 (pv 0) (A0 (pv 1) (A0 (pv 2) (A0 (pv 3) A6))))))
   (A8 (C7 (i:=6) nd rfl (Or.inl rfl) (G3 (aBZ (K:=K) rfl) rfl B.dict_ a1Z (A0 (KM (cS (N:=SO) (sc:=B4 s_ended) (caps:=[]) (ns:=[])) rfl rfl rfl (AC (K:=K) (pv 4)) (λ_ _ _ _ _=>AF) (λ_ _ _ _ _=>(C1 (A0 (pv 0) (A0 DP A6))))) A6)))
   (A8 (E1 (Z0 PassesOwn.never (B9 FJ (K3 (pv 5) RM.cl RM.m_answer Y1 (hr.mono (by omega)) RM.b_answer .nil C0) Q4 rfl) (A8 (E1 (D8 (B9 (esZ hr.units) (K3 (pv 5) RM.cl RM.m_rows_done T5 (hr.mono (by omega)) RM.b_rows_done .nil C0) (pv 6) rfl) (B0 (C3 (K3 (pv 5) RM.cl RM.m_collect TN (hr.mono (by omega)) RM.b_collect .nil C0))) D2))
   (B0 (C3 (K3 (pv 5) RM.cl RM.m_step OW (hr.mono (by omega)) RM.b_step .nil C0))))))
   (B0 (C2 (pv 5)))))), ?_⟩
 refine⟨_,rfl,_,rfl,_,rfl,_,rfl,λx dx hx hdx hn=> ?_⟩
 have t0:Same H (upd (upd H dx (.own x)) x (.ins CM dx [])):=λb ob e=>by rw[B5 (C5 e hx),B5 (C5 e hdx)];exact e
 have mo0:Mo H (upd (upd H dx (.own x)) x (.ins CM dx [])):=B8 t0
 refine⟨x,dx,bl,num,vb,xs,main,most,bs,bk,ws,rfl,A5,t0 _ _ hbl,hB.imp λ_ _ z=>BAt.mo mo0 z,hbk,t0 _ _ hnum,hW.imp λ_ _ z=>VAt.mo mo0 z,hwz,λA1 H1 eA k1 nw hA1=>⟨rfl, ?_⟩⟩
 have kH1:Same H H1:=λb ob e=>k1 _ _ (t0 _ _ e) (C5 e hx)
 have own1:∀y∈A1.own,H y=none:=λy hy=>by
  rcases nw y hy with z|z
  ·rw[z];exact hx
  ·exact t0.free z
 subst eA
 show O6 _ _ _ [some (.ref bl),some (.int (main:Nat)),some (.ref num),some (.int (most:Nat)),some (.ref rd),some (.ref A1.m),none] H1
 clear k1 nw hdx hn t0 mo0
 refine⟨_,rfl,rd,rfl,⟨_,SqL.of (kH1 _ _ hrd)⟩,IB (xs:=rs.map V.int) (λi zs H'=>Same H1 H'/\zs.length=i/\All2 (λ(i:Int) y=>∃p:Addr,y=.ref p/\H' p=some (.tup [.int i,.bl true])) (rs.take i) zs) ⟨Same.refl _,rfl,.nil⟩ ?_ ?_ ?_⟩
 ·rintro i zs H' hi ⟨sm,hz,_⟩
  rw[length_map]at hi
  exact⟨SqL.of (sm _ _ (kH1 _ _ hrd)),by omega⟩
 ·rintro i v zs H' hv ⟨sm,hz,hZ⟩
  rw[getElem?_map]at hv
  obtain⟨n,hn,rfl⟩:=Option.map_eq_some_iff.mp hv
  refine GC ⟨_,rfl,(by show 2<=sizeLine;omega),λp hp=> ?_⟩
  have t1:=A7 hp (.tup [.int n,.bl true])
  refine⟨sm.trans t1,by rw[length_append,hz];rfl, ?_⟩
  rw[take_succ,hn]
  exact(hZ.imp λ_ _ ⟨p,e,h⟩=>⟨p,e,t1 _ _ h⟩).app (.cons ⟨p,rfl,A5⟩ .nil)
 rintro zs H2 ⟨sm2,hz,hZ⟩ D hD
 rw[length_map,take_length]at hZ
 have t2:=A7 hD (.lst zs)
 refine⟨D,zs,_,rfl,SqL.of A5,ON (.bl true) rs zs (hZ.imp λ_ _ ⟨p,e,h⟩=>⟨p,e,t2 _ _ h⟩),λd hd=> ?_⟩
 generalize Y6 [] (rs.map λi=>((.inl i:Key),V.bl true))=kvs
 have t3:=sm2.trans (t2.trans (A7 hd (.dK kvs)))
 have hd3:upd (upd H2 D (.lst zs)) d (.dK kvs) d=some (.dK kvs):=A5
 show O6 _ _ _ [some (.ref bl),some (.int (main:Nat)),some (.ref num),some (.int (most:Nat)),some (.ref rd),some (.ref A1.m),some (.ref d)] (upd (upd H2 D (.lst zs)) d (.dK kvs))
 generalize upd (upd H2 D (.lst zs)) d (.dK kvs)=H3 at t3 hd3⊢
 have hA3:=hA1.same t3
 have kH3:Same H H3:=kH1.trans t3
 have hT3:Tb H3 Pt:=by
  obtain⟨qs,e1,e2,e3⟩:=hT
  refine⟨qs,kH3 _ _ e1,e2, ?_⟩
  rcases e3 with e3|⟨c2,e3,e4⟩
  ·exact .inl e3
  ·exact .inr ⟨c2,e3,kH3 _ _ e4⟩
 refine⟨fun σ H'=>∃A2 S,σ=[some (.ref bl),some (.int (main:Nat)),some (.ref num),some (.int (most:Nat)),some (.ref rd),some (.ref A2.m),some (.ref d)]/\(∀b ob,H b=some ob->b≠Pt->H' b=some ob)/\Tb H' Pt/\(∀y∈A2.own,H y=none)/\MAt CM C H' A2 bs most S/\I S/\S.out≠none, ?_, ?_⟩
 ·refine⟨λm σ H'=>∃A2 S,σ=[some (.ref bl),some (.int (main:Nat)),some (.ref num),some (.int (most:Nat)),some (.ref rd),some (.ref A2.m),some (.ref d)]/\(∀b ob,H b=some ob->b≠Pt->H' b=some ob)/\Tb H' Pt/\(∀y∈A2.own,H y=none)/\MAt CM C H' A2 bs most S/\I S/\H' d=some (.dK kvs)/\m=mu S,⟨_,A1,_,rfl,λb ob e _=>kH3 _ _ e,hT3,own1,hA3,hI,hd3,rfl⟩, ?_⟩
  rintro m σ H4 ⟨A2,S,rfl,k4,hT4,own4,hA4,hI4,hd4,rfl⟩
  obtain⟨vb2,us2,fs2,out2,hM2,_⟩:=id hA4.ex
  refine⟨_,rfl,A2.m,A2.dx,_,rfl,hM2.m,rfl,A2,bs,most,S,rfl,hA4, ?_⟩
  cases ho:S.out with
  |some o=>
   have hne:S.out≠none:=by rw[ho];intro z;cases z
   by_cases hv:X1 S.out=true
   ·obtain⟨x,hx⟩:∃x,S.out=some (.value x):=by
     rw[ho]at hv⊢
     cases o<;>first|exact⟨_,rfl⟩|cases hv
    obtain⟨t,ht,hsz⟩:=hR.val S x hI4 hx
    rw[ho]at hx
    refine .inl ⟨x,t,hx,ht,hsz,hT4,λp r H5 H6 k5 hT5 _ hp5 e6=> ?_⟩
    subst e6
    have t6:=A7 hp5 (.tup [.str "value",r])
    refine⟨rfl,_,rfl,ifF (by simp) ?_⟩
    refine⟨A2,S,rfl,λb ob e n=>t6 _ _ (k5 _ _ (k4 _ _ e n) n), ?_,own4,(hA4.pt hT4 k5).same t6,hI4,hne⟩
    obtain⟨qs,e1,e2,e3⟩:=hT5
    refine⟨qs,t6 _ _ e1,e2, ?_⟩
    rcases e3 with e3|⟨c2,e3,e4⟩
    ·exact .inl e3
    ·exact .inr ⟨c2,e3,t6 _ _ e4⟩
   ·rw[ho]at hv
    refine .inr ⟨Bool.eq_false_iff.mpr hv,λu hu=> ?_⟩
    obtain⟨p,rfl⟩:∃p,u=.ref p:=by
     cases o with
     |value x=>exact absurd rfl hv
     |refused w=>obtain⟨p,e,_⟩:=hu;exact⟨p,e⟩
     |dry=>obtain⟨p,e,_⟩:=hu;exact⟨p,e⟩
     |deep=>obtain⟨p,e,_⟩:=hu;exact⟨p,e⟩
    exact⟨rfl,_,rfl,ifF (by simp) ⟨A2,S,rfl,k4,hT4,own4,hA4,hI4,hne⟩⟩
  |none=>
  refine .inr ⟨rfl,λu hu=> ?_⟩
  obtain rfl:=hu
  refine⟨rfl,_,rfl,ifT (by simp) ?_⟩
  obtain⟨hSm,hTi,hCo,_⟩:=hR.go S hI4 ho
  refine⟨fun σ H5=>∃m',m'<mu S/\∃A2 S,σ=[some (.ref bl),some (.int (main:Nat)),some (.ref num),some (.int (most:Nat)),some (.ref rd),some (.ref A2.m),some (.ref d)]/\(∀b ob,H b=some ob->b≠Pt->H5 b=some ob)/\Tb H5 Pt/\(∀y∈A2.own,H y=none)/\MAt CM C H5 A2 bs most S/\I S/\H5 d=some (.dK kvs)/\m'=mu S,λ_ _ h=>h, ?_⟩
  have dno:∀ {A':Ad} {H':Hp} {S':Ms},MAt CM C H' A' bs most S'->H' d=some (.dK kvs)->d∉A'.own:=λ{A' H' S'} h e=>by
   obtain⟨_,_,_,_,hM',_⟩:=h.ex
   exact hM'.ntbl e (λ_ _ _ z=>nomatch z) λ_ z=>nomatch z
  have kH:∀ {A':Ad} {H' H'':Hp},(∀y∈A'.own,H y=none)->(∀b ob,H b=some ob->b≠Pt->H' b=some ob)->Kq A' H' H''->∀b ob,H b=some ob->b≠Pt->H'' b=some ob:=λ{A' H' H''} o1 k kk b ob e n=>kk _ _ (k _ _ e n) λz=>by rw[o1 b z]at e;cases e
  have nwH:∀ {A' A'':Ad} {H':Hp},(∀y∈A'.own,H y=none)->(∀b ob,H b=some ob->b≠Pt->H' b=some ob)->Tb H' Pt->New A' A'' H'->∀y∈A''.own,H y=none:=λ{A' A'' H'} o1 k hT' nw y hy=>by
   rcases nw.2 y hy with z|z
   ·exact o1 y z
   ·cases e:H y with
    |none=>rfl
    |some ob=>
     by_cases n:y=Pt
     ·obtain⟨qs,e1,_⟩:=hT'
      rw[n,e1]at z;cases z
     ·rw[k _ _ e n]at z;cases z
  refine⟨fun σ H5=>∃A2 S3,σ=[some (.ref bl),some (.int (main:Nat)),some (.ref num),some (.int (most:Nat)),some (.ref rd),some (.ref A2.m),some (.ref d)]/\(∀b ob,H b=some ob->b≠Pt->H5 b=some ob)/\Tb H5 Pt/\(∀y∈A2.own,H y=none)/\MAt CM C H5 A2 bs most S3/\I S3/\H5 d=some (.dK kvs)/\S3.out=none/\mu S3<=mu S, ?_, ?_⟩
  ·refine⟨_,rfl,A2.m,A2.dx,_,rfl,hM2.m,rfl,A2,_,out2,_,_,rfl,hM2.m,_,rfl,d,_,rfl,DGet.k (k:=.inl (S.r:Nat)) hd4,_,rfl,FO (λ_=> ?_) (λ_=>⟨A2,S,rfl,k4,hT4,own4,hA4,hI4,hd4,ho,le_refl _⟩)⟩
   refine⟨_,rfl,A2.m,A2.dx,_,rfl,hM2.m,rfl,A2,bs,most,S,rfl,hA4,hSm.frs,hTi,λn A3 ks H5 nw k5 hK hA5=> ?_⟩
   obtain⟨hI5,hmu⟩:=hCo ks hK
   refine⟨A3,swS ks S,by rw[nw.1],kH own4 k4 k5,hA4.tab k5 hT4,nwH own4 k4 hT4 nw,hA5,hI5,k5 _ _ hd4 (dno hA4 hd4), ?_,hmu⟩
   show S.out.map _=none
   rw[ho];rfl
  ·rintro σ H5 ⟨A3,S3,rfl,k5,hT5,own5,hA5,hI5,hd5,ho5,hmu⟩
   obtain⟨hSm3,_,_,S4,hSt,hI6,hlt⟩:=hR.go S3 hI5 ho5
   obtain⟨vb3,us3,fs3,out3,hM3,_⟩:=id hA5.ex
   refine⟨_,rfl,A3.m,A3.dx,_,rfl,hM3.m,rfl,A3,bs,most,S3,rfl,hA5,hSm3,.inr ⟨S4,hSt,λA4 H6 nw k6 hA6=> ?_⟩⟩
   exact⟨_,lt_of_lt_of_le hlt hmu,A4,S4,by rw[nw.1],kH own5 k5 k6,hA5.tab k6 hT5,nwH own5 k5 hT5 nw,hA6,hI6,k6 _ _ hd5 (dno hA5 hd5),rfl⟩
 ·rintro σ H4 ⟨A2,S,rfl,k4,hT4,own4,hA4,hI4,ho⟩
  exact⟨_,rfl,q A2 S H4 k4 hT4 own4 hA4 hI4 ho⟩
inductive spRunW (CM C Pt:Addr) (vs:List V) (H:Hp) (Q:VK):Prop
 |mk:∀(bl num rd:Addr) (vb xs:List V) (main most:Nat) (bs:List Bk) (bk:Bk) (ws:List Vl) (rs:List Int) (I:Ms->Prop) (mu:Ms->Nat),(vs=[.ref bl,.int (main:Nat),.ref num,.int (most:Nat),.ref rd])->(H bl=some (.lst vb))->(All2 (BAt H) bs vb)->(bs[main]? =some bk)->(H num=some (.lst xs))->(All2 (VAt H) ws xs)->(ws.length<=bk.sz)->(H rd=some (.lst (rs.map V.int)))->(rs.length<=1000)->(Tb H Pt)->(Rn bs most I mu)->(I ⟨[],[begun main bk.sz ws],none,0,0⟩)->(∀S u H',(∀b ob,H b=some ob->b≠Pt->H' b=some ob)->Tb H' Pt->I S->S.out≠none->((∃x t p r,S.out=some (.value x)/\VRa S.cs t x/\u=.ref p/\H' p=some (.tup [.str "value",r])/\(PL.R (λa=>H a=none) H' t).1 r)\/(X1 S.out=false/\OAt H' S.out u))->Q u H')->spRunW CM C Pt vs H Q
noncomputable def bpZ(CM C Pt:Addr):Sp:=λvs H Q _=>spRunW CM C Pt vs H Q
theorem ok_run(F:Fun K "run" "run" s_run f fd)(RM:MCls K CM gf gd)
  (Y1:FnOk P w K mg base CX0 6 (gf "answer") (gd "answer") K5 (Y7 CM C Pt))
  (JH:Cn P w K mg base CX0 7 "ended" UR (SS CM C Pt)):
  FnOk P w K mg base CX0 8 f fd UR (bpZ CM C Pt):=by
 obtain⟨ZY,acZ,JH,adZ,ahZ,aiZ⟩:=JH
 refine F.ok sc_run (λvs H Q E h=> ?_) (λcdv A outer s H vs Q E hr h=> ?_)
 ·obtain⟨bl,num,rd,vb,xs,main,most,bs,bk,ws,rs,I,mu,rfl,_⟩:=h
  rfl
 obtain⟨bl,num,rd,vb,xs,main,most,bs,bk,ws,rs,I,mu,rfl,hbl,hB,hbk,hnum,hW,hwz,hrd,hrl,hT,hR,hI,q⟩:=h
 have nd:=sc_run.nd
 have hu:=hr.units0
 refine⟨_,(B0 (C2 (K3 (B6 JH (hr.mono (by omega)) rfl aiZ ahZ adZ .nil C0 (A0 (pv 0) (A0 (pv 1) (A0 (pv 2) (A0 (pv 3) (A0 (pv 4) A6)))))) RM.cl RM.m_answer Y1 (hr.mono (by omega)) RM.b_answer .nil C0))), ?_⟩
 refine⟨_,rfl,_,rfl,_,rfl,_,rfl,_,rfl,bl,num,rd,vb,xs,main,most,bs,bk,ws,rs,I,mu,rfl,hbl,hB,hbk,hnum,hW,hwz,hrd,hrl,hT,hR,hI,λA1 S H1 k1 hT1 own1 hA1 hI1 hne=> ?_⟩
 obtain⟨vb2,us2,fs2,out2,hM2,_⟩:=id hA1.ex
 refine⟨A1.m,A1.dx,_,rfl,hM2.m,rfl,A1,bs,most,S,rfl,hA1, ?_⟩
 by_cases hv:X1 S.out=true
 ·obtain⟨x,hx⟩:∃x,S.out=some (.value x):=by
   cases ho:S.out with
   |none=>rw[ho]at hv;cases hv
   |some o=>rw[ho]at hv;cases o<;>first|exact⟨_,rfl⟩|cases hv
  obtain⟨t,ht,hsz⟩:=hR.val S x hI1 hx
  refine .inl ⟨x,t,hx,ht,hsz,hT1,λp r H5 H6 k5 hT5 hRr hp5 e6=> ?_⟩
  subst e6
  have t6:=A7 hp5 (.tup [.str "value",r])
  refine q S _ _ (λb ob e n=>t6 _ _ (k5 _ _ (k1 _ _ e n) n)) ?_ hI1 hne (.inl ⟨x,t,p,r,hx,ht,rfl,A5, ?_⟩)
  ·obtain⟨qs,e1,e2,e3⟩:=hT5
   refine⟨qs,t6 _ _ e1,e2, ?_⟩
   rcases e3 with e3|⟨c2,e3,e4⟩
   ·exact .inl e3
   ·exact .inr ⟨c2,e3,t6 _ _ e4⟩
  ·refine(PL.R.mono λa zs ha e=>⟨t6 _ _ e, ?_⟩).1 hRr
   cases e':H a with
   |none=>rfl
   |some ob=>
    by_cases n:a=Pt
    ·obtain⟨qs,e1,_⟩:=hT1
     rw[n,e1]at ha;cases ha
    ·rw[k1 _ _ e' n]at ha;cases ha
 ·exact .inr ⟨Bool.eq_false_iff.mpr hv,λu hu=>q S u H1 k1 hT1 hI1 hne (.inr ⟨Bool.eq_false_iff.mpr hv,hu⟩)⟩
end
end MC
namespace MT
open PySem L2 CL SW MC
open BV hiding ifT ifF NoG top
inductive Tv where
 |sc (v:V)|pair (h t:Tv)|fn (b:Nat) (xs:Tv)|nil|cons (x xs:Tv)
noncomputable def Tv.nodes:Tv->Nat
 | .sc _=>0
 | .pair h t=>h.nodes+t.nodes+1
 | .fn _ xs=>xs.nodes+1
 | .nil=>0
 | .cons x xs=>x.nodes+xs.nodes
noncomputable def tl:List Tv->Tv
 | []=> .nil
 |x::xs=> .cons x (tl xs)
noncomputable def VT(cs:List Cl):Tv->(Vl->Prop)×(List Vl->Prop)
 | .sc v=>(λx=>x=.sc v,λ_=>False)
 | .pair h t=>(λx=>∃k a b,x=.cell k/\cs[k]? =some (.pair a b)/\(VT cs h).1 a/\(VT cs t).1 b,λ_=>False)
 | .fn b xs=>(λx=>∃k vs,x=.cell k/\cs[k]? =some (.fn (b:Nat) vs)/\(VT cs xs).2 vs,λ_=>False)
 | .nil=>(λ_=>False,λvs=>vs=[])
 | .cons x r=>(λ_=>False,λvs=>∃v w,vs=v::w/\(VT cs x).1 v/\(VT cs r).2 w)
noncomputable abbrev V1(cs:List Cl)(t:Tv)(x:Vl):Prop:=(VT cs t).1 x
theorem bHZ{cs:List Cl}:∀ {ts:List Tv} {vs:List Vl},All2 (V1 cs) ts vs->(VT cs (tl ts)).2 vs
 | [],_,h=>by cases h;rfl
 |_::_,_,h=>by cases h with|cons h1 h2=>exact⟨_,_,rfl,h1,bHZ h2⟩
theorem bkZ{cs:List Cl}:∀ {ts:List Tv} {vs:List Vl},(VT cs (tl ts)).2 vs->All2 (V1 cs) ts vs
 | [],_,h=>by cases h;exact .nil
 |_::_,_,⟨_,_,e,h1,h2⟩=>by subst e;exact .cons h1 (bkZ h2)
theorem VT.more{cs cs':List Cl}(m:∀(k:Nat) c,cs[k]? =some c->cs'[k]? =some c):∀t:Tv,(∀ {x:Vl},(VT cs t).1 x->(VT cs' t).1 x)/\∀ {vs:List Vl},(VT cs t).2 vs->(VT cs' t).2 vs
 | .sc _=>⟨λh=>h,λh=>h⟩
 | .pair h t=>⟨λ⟨k,a,b,e,hk,h1,h2⟩=>⟨k,a,b,e,m _ _ hk,(VT.more m h).1 h1,(VT.more m t).1 h2⟩,λh=>h⟩
 | .fn b xs=>⟨λ⟨k,vs,e,hk,h1⟩=>⟨k,vs,e,m _ _ hk,(VT.more m xs).2 h1⟩,λh=>h⟩
 | .nil=>⟨λh=>h,λh=>h⟩
 | .cons x xs=>⟨λh=>h,λ⟨v,w,e,h1,h2⟩=>⟨v,w,e,(VT.more m x).1 h1,(VT.more m xs).2 h2⟩⟩
theorem V1.app{cs:List Cl}{t:Tv}{x:Vl}(c:Cl)(h:V1 cs t x):V1 (cs++ [c]) t x:=
 (VT.more (λk d e=>by rw[getElem?_append_left (List.getElem?_eq_some_iff.mp e).1];exact e) t).1 h
theorem V1.lt{cs:List Cl}{t:Tv}{k:Nat}(h:V1 cs t (.cell k)):k<cs.length:=by
 cases t with
 |sc v=>cases h
 |pair a b=>obtain⟨j,_,_,e,hj,_⟩:=h;cases e;exact(List.getElem?_eq_some_iff.mp hj).1
 |fn b xs=>obtain⟨j,_,e,hj,_⟩:=h;cases e;exact(List.getElem?_eq_some_iff.mp hj).1
 |nil=>cases h
 |cons a b=>cases h
theorem bEZ{cs:List Cl}{ws:List Vl}{ks:List Nat}(hK:Kept cs ws ks){k:Nat}{c:Cl}(hr:Rc cs ws k)(hc:cs[k]? =some c):(ks.map λk=>mvc ks (O4 cs k))[ks.idxOf k]? =some (mvc ks c):=by
 have hm:=(hK.is k).mpr hr
 have hlt:ks.idxOf k<ks.length:=List.idxOf_lt_length_of_mem hm
 rw[getElem?_map,List.getElem?_eq_getElem hlt,List.getElem_idxOf hlt,map_some,DB hc]
theorem VT.sw{cs:List Cl}{ws:List Vl}{ks:List Nat}(hK:Kept cs ws ks):∀t:Tv,(∀ {x:Vl},(VT cs t).1 x->(∀k,x=.cell k->Rc cs ws k)->(VT (ks.map λk=>mvc ks (O4 cs k)) t).1 (mv ks x))/\∀ {vs:List Vl},(VT cs t).2 vs->(∀k,Vl.cell k∈vs->Rc cs ws k)->(VT (ks.map λk=>mvc ks (O4 cs k)) t).2 (vs.map (mv ks))
 | .sc _=>⟨λh _=>by cases h;rfl,λh=>h.elim⟩
 | .pair h t=>⟨λ⟨k,a,b,e,hk,h1,h2⟩ hr=>by
   subst e
   have hrk:=hr k rfl
   refine⟨ks.idxOf k,mv ks a,mv ks b,rfl,bEZ hK hrk hk,(VT.sw hK h).1 h1 λj e=> ?_,(VT.sw hK t).1 h2 λj e=> ?_⟩
   ·exact .step hrk hk (by rw[<-e];simp[vin])
   ·exact .step hrk hk (by rw[<-e];simp[vin]),λh=>h.elim⟩
 | .fn b xs=>⟨λ⟨k,vs,e,hk,h1⟩ hr=>by
   subst e
   have hrk:=hr k rfl
   exact⟨ks.idxOf k,vs.map (mv ks),rfl,bEZ hK hrk hk,(VT.sw hK xs).2 h1 λj e=> .step hrk hk e⟩,λh=>h.elim⟩
 | .nil=>⟨λh=>h.elim,λh _=>by cases h;rfl⟩
 | .cons x xs=>⟨λh=>h.elim,λ⟨v,w,e,h1,h2⟩ hr=>by
   subst e
   exact⟨mv ks v,w.map (mv ks),rfl,(VT.sw hK x).1 h1 λj e=>hr j (by rw[<-e];exact mem_cons_self ..),(VT.sw hK xs).2 h2 λj e=>hr j (mem_cons_of_mem _ e)⟩⟩
theorem SV{cs:List Cl}{k:Nat}{c:Cl}(hc:cs[k]? =some c){j:Nat}(r:Rc cs [.cell k] j):j=k\/Rc cs (vin c) j:=by
 induction r with
 |root h=>rw[mem_singleton]at h;cases h;exact .inl rfl
 |step _ h1 h2 ih=>
  rcases ih with e|ih
  ·subst e
   rw[hc]at h1;cases h1
   exact .inr (.root h2)
  ·exact .inr (.step ih h1 h2)
theorem QT{cs:List Cl}{us vs:List Vl}{j:Nat}(r:Rc cs (us++vs) j):Rc cs us j\/Rc cs vs j:=by
 induction r with
 |root h=>
  rcases mem_append.mp h with h|h
  ·exact .inl (.root h)
  ·exact .inr (.root h)
 |step _ h1 h2 ih=>
  rcases ih with ih|ih
  ·exact .inl (.step ih h1 h2)
  ·exact .inr (.step ih h1 h2)
theorem ZL{cs:List Cl}{j:Nat}(r:Rc cs [] j):False:=by
 induction r with
 |root h=>cases h
 |step _ _ _ ih=>exact ih
theorem dJZ{cs:List Cl}{v:V}{j:Nat}(r:Rc cs [.sc v] j):False:=by
 induction r with
 |root h=>rw[mem_singleton]at h;cases h
 |step _ _ _ ih=>exact ih
theorem VT.cover{cs:List Cl}:∀t:Tv,(∀ {x:Vl},(VT cs t).1 x->∃L:List Nat,L.length=t.nodes/\∀j,Rc cs [x] j->j∈L)/\∀ {vs:List Vl},(VT cs t).2 vs->∃L:List Nat,L.length=t.nodes/\∀j,Rc cs vs j->j∈L
 | .sc _=>⟨λh=>by cases h;exact⟨[],rfl,λj r=>(dJZ r).elim⟩,λh=>h.elim⟩
 | .pair h t=>⟨λ⟨k,a,b,e,hk,h1,h2⟩=>by
   subst e
   obtain⟨L1,l1,c1⟩:=(VT.cover h).1 h1
   obtain⟨L2,l2,c2⟩:=(VT.cover t).1 h2
   refine⟨k::(L1++L2),by simp[Tv.nodes,l1,l2],λj r=> ?_⟩
   rcases SV hk r with e|r
   ·rw[e];exact mem_cons_self ..
   ·refine mem_cons_of_mem _ (mem_append.mpr ?_)
    rcases QT (us:=[a]) (vs:=[b]) r with r|r
    ·exact .inl (c1 j r)
    ·exact .inr (c2 j r),λh=>h.elim⟩
 | .fn b xs=>⟨λ⟨k,vs,e,hk,h1⟩=>by
   subst e
   obtain⟨L1,l1,c1⟩:=(VT.cover xs).2 h1
   refine⟨k::L1,by simp[Tv.nodes,l1],λj r=> ?_⟩
   rcases SV hk r with e|r
   ·rw[e];exact mem_cons_self ..
   ·exact mem_cons_of_mem _ (c1 j r),λh=>h.elim⟩
 | .nil=>⟨λh=>h.elim,λh=>by cases h;exact⟨[],rfl,λj r=>(ZL r).elim⟩⟩
 | .cons x xs=>⟨λh=>h.elim,λ⟨v,w,e,h1,h2⟩=>by
   subst e
   obtain⟨L1,l1,c1⟩:=(VT.cover x).1 h1
   obtain⟨L2,l2,c2⟩:=(VT.cover xs).2 h2
   refine⟨L1++L2,by simp[Tv.nodes,l1,l2],λj r=>mem_append.mpr ?_⟩
   rcases QT (us:=[v]) (vs:=w) r with r|r
   ·exact .inl (c1 j r)
   ·exact .inr (c2 j r)⟩
theorem HY{cs:List Cl}:∀ {ts:List Tv} {vs:List Vl},All2 (V1 cs) ts vs->∃L:List Nat,L.length=(ts.map Tv.nodes).sum/\∀j,Rc cs vs j->j∈L
 | [],_,h=>by cases h;exact⟨[],rfl,λj r=>(ZL r).elim⟩
 |t::ts,_,h=>by
  cases h with
  | @cons _ v _ vs h1 h2=>
   obtain⟨L1,l1,c1⟩:=(VT.cover t).1 h1
   obtain⟨L2,l2,c2⟩:=HY h2
   refine⟨L1++L2,by simp[l1,l2],λj r=>mem_append.mpr ?_⟩
   rcases QT (us:=[v]) (vs:=vs) r with r|r
   ·exact .inl (c1 j r)
   ·exact .inr (c2 j r)
theorem WP:∀(ks L:List Nat),ks.Nodup->(∀k∈ks,k∈L)->ks.length<=L.length
 | [],L,_,_=>zero_le _
 |k::ks,L,hn,h=>by
  rw[nodup_cons]at hn
  have h1:=WP ks (L.erase k) hn.2 λj hj=>by
   refine(List.mem_erase_of_ne λ(e:j=k)=>hn.1 (by rw[<-e];exact hj)).mpr (h j (mem_cons_of_mem _ hj))
  have h2:(L.erase k).length=L.length - 1:=List.length_erase_of_mem (h k (mem_cons_self ..))
  have h3:0<L.length:=List.length_pos_of_mem (h k (mem_cons_self ..))
  simp only[length_cons]
  omega
theorem cZZ{cs:List Cl}{ts:List Tv}{vs:List Vl}(h:All2 (V1 cs) ts vs)(hn:(ts.map Tv.nodes).sum<=63):Few cs vs:=λks hnd hr=>by
 obtain⟨L,l,c⟩:=HY h
 have:=WP ks L hnd λk hk=>c k (hr k hk)
 omega
structure Tf where
 k:Nat
 at_:Nat
 sl:List Tv
 st:List Tv
inductive To where
 |value (t:Tv)|refused (w:Str)|dry|deep
structure Tm where
 frs:List Tf
 out:Option To
 r:Nat
 c:Nat
 n:Nat
inductive Eo3 where
 |fr (d:Nat) (sl st:List Tv)|rf (w:Str)|new (t:Tv) (st:List Tv)
inductive Et (sl:List Tv):Rk->List Tv->Eo3->Prop
 |push {v st}:scV v=true->Et sl (.push v) st (.fr 1 sl (st++ [.sc v]))
 |non {st}:Et sl .non st (.fr 1 sl (st++ [.sc .non]))
 |load {j v st}:sl[j]? =some v->Et sl (.load j) st (.fr 1 sl (st++ [v]))
 |keep {j v st}:j<sl.length->Et sl (.keep j) (st++ [v]) (.fr 1 (sl.take j++ [v]++sl.drop (j+1)) st)
 |twoV {k a b v st}:k<6->Bd a->Bd b->NM.tw k a b=[.str "value",v]->scV v=true->Et sl (.two k) (st++ [.sc (.int a),.sc (.int b)]) (.fr 1 sl (st++ [.sc v]))
 |twoR {k a b w st}:k<6->Bd a->Bd b->NM.tw k a b=[.str "refused",.str w]->Et sl (.two k) (st++ [.sc (.int a),.sc (.int b)]) (.rf w)
 |cons {x y st}:Et sl .cons (st++ [x,y]) (.new (.pair x y) st)
 |headN {st}:Et sl .head (st++ [.sc .non]) (.rf "head")
 |tailN {st}:Et sl .tail (st++ [.sc .non]) (.rf "tail")
 |head {h t st}:Et sl .head (st++ [.pair h t]) (.fr 1 sl (st++ [h]))
 |tail {h t st}:Et sl .tail (st++ [.pair h t]) (.fr 1 sl (st++ [t]))
 |emptyN {st}:Et sl .empty (st++ [.sc .non]) (.fr 1 sl (st++ [.sc (.bl true)]))
 |empty {h t st}:Et sl .empty (st++ [.pair h t]) (.fr 1 sl (st++ [.sc (.bl false)]))
 |not {b st}:Et sl .not (st++ [.sc (.bl b)]) (.fr 1 sl (st++ [.sc (.bl (!b))]))
 |skip {n st}:Et sl (.skip n) st (.fr (1+n) sl st)
 |unless {n b st}:Et sl (.unless n) (st++ [.sc (.bl b)]) (.fr (1+if b=true then 0 else n) sl st)
 |close {b n st xs}:xs.length=n->n<=10->Et sl (.close b n) (st++xs) (.new (.fn b (tl xs)) st)
noncomputable def XJ(bs:List Bk)(f:Tf):Option Rw:=(bs[f.k]?).bind λb=>b.rows[f.at_]?
noncomputable def Q6(n sz:Nat)(vs:List Tv):Tf:=⟨n,0,vs++List.replicate (sz - vs.length) (.sc .non),[]⟩
inductive ActT (bs:List Bk) (most:Nat) (fs:List Tf) (f:Tf) (r c n:Nat):Rw->Tm->Prop
 |own {rk d sl st}:Et f.sl rk f.st (.fr d sl st)->ActT bs most fs f r c n (.own rk) ⟨fs++ [⟨f.k,f.at_+d,sl,st⟩],none,r+1,c,n⟩
 |new {rk t st}:Et f.sl rk f.st (.new t st)->ActT bs most fs f r c n (.own rk) ⟨fs++ [⟨f.k,f.at_+1,f.sl,st++ [t]⟩],none,r+1,c,n+1⟩
 |rf {rk w}:Et f.sl rk f.st (.rf w)->ActT bs most fs f r c n (.own rk) ⟨[],some (.refused w),r+1,c,n⟩
 |last {v st}:fs=[]->f.st=st++ [v]->ActT bs most fs f r c n .back ⟨[],some (.value v),r+1,c,n⟩
 |back {gs g v st}:fs=gs++ [g]->f.st=st++ [v]->ActT bs most fs f r c n .back ⟨gs++ [⟨g.k,g.at_,g.sl,g.st++ [v]⟩],none,r+1,c,n⟩
 |dry {w}:KB w->most<=c->ActT bs most fs f r c n w ⟨[],some .dry,r+1,c,n⟩
 |deep {w}:KB w->c<most->60<=fs.length+1->ActT bs most fs f r c n w ⟨[],some .deep,r+1,c+1,n⟩
 |call {b bk st xs}:c<most->fs.length+1<60->f.st=st++xs->bs[b]? =some bk->xs.length<=bk.sz->ActT bs most fs f r c n (.call b xs.length) ⟨fs++ [⟨f.k,f.at_+1,f.sl,st⟩]++ [Q6 b bk.sz xs],none,r+1,c+1,n⟩
 |apply {b bk st xs x}:c<most->fs.length+1<60->f.st=st++ [.fn b (tl xs),x]->bs[b]? =some bk->xs.length+1<=bk.sz->
  ActT bs most fs f r c n .apply ⟨fs++ [⟨f.k,f.at_+1,f.sl,st⟩]++ [Q6 b bk.sz (xs++ [x])],none,r+1,c+1,n⟩
noncomputable def IE(bs:List Bk)(most:Nat)(T T':Tm):Prop:=∃fs f r c n w,T=⟨fs++ [f],none,r,c,n⟩/\XJ bs f=some w/\ActT bs most fs f r c n w T'
structure SimF (cs:List Cl) (t:Tf) (f:Fr):Prop where
 k:f.k=t.k
 at_:f.at_=t.at_
 sl:All2 (V1 cs) t.sl f.sl
 st:All2 (V1 cs) t.st f.st
noncomputable def d3Z(cs:List Cl):Option To->Option Ou->Prop
 |none,o=>o=none
 |some (.value t),o=>∃x,o=some (.value x)/\V1 cs t x
 |some (.refused w),o=>o=some (.refused w)
 |some .dry,o=>o=some .dry
 |some .deep,o=>o=some .deep
structure Sim (S:Ms) (T:Tm):Prop where
 frs:All2 (SimF S.cs) T.frs S.frs
 out:d3Z S.cs T.out S.out
 r:S.r=T.r
 c:S.c=T.c
 n:S.cs.length<=T.n
 okc:Okc S.cs
theorem BP{cs:List Cl}(c:Cl){ts:List Tv}{vs:List Vl}(h:All2 (V1 cs) ts vs):All2 (V1 (cs++ [c])) ts vs:=h.imp λ_ _ z=>V1.app c z
theorem SimF.app{cs:List Cl}(c:Cl){t:Tf}{f:Fr}(h:SimF cs t f):SimF (cs++ [c]) t f:=⟨h.k,h.at_,BP c h.sl,BP c h.st⟩
theorem aHZ{cs:List Cl}(h:Okc cs){c:Cl}(hc:∀j,Vl.cell j∈vin c->j<cs.length):Okc (cs++ [c]):=λk j d hk hj=>by
 rw[length_append]
 rcases lt_or_ge k cs.length with hl|hl
 ·rw[getElem?_append_left hl]at hk
  exact lt_of_lt_of_le (h k j d hk hj) (le_add_right _ _)
 ·rw[getElem?_append_right hl]at hk
  have:k - cs.length=0:=by
   cases e:k - cs.length with
   |zero=>rfl
   |succ n=>rw[e]at hk;simp at hk
  rw[this]at hk
  cases hk
  exact lt_of_lt_of_le (hc j hj) (le_add_right _ _)
theorem LM{cs:List Cl}{ts:List Tv}{vs:List Vl}(h:All2 (V1 cs) ts vs):∀j,Vl.cell j∈vs->j<cs.length:=λj hj=>by
 obtain⟨i,hi⟩:=getElem?_of_mem hj
 obtain⟨t,_,ht⟩:=h.get hi
 exact V1.lt ht
theorem XT{cs:List Cl}{sl:List Tv}{sl':List Vl}(hs:All2 (V1 cs) sl sl'){rk:Rk}{st:List Tv}{eo:Eo3}(h:Et sl rk st eo):∀ {st':List Vl},All2 (V1 cs) st st'->
  (match eo with
   | .fr d sl1 st1=>∃sl2 st2,Er cs sl' rk st' (.fr d sl2 st2)/\All2 (V1 cs) sl1 sl2/\All2 (V1 cs) st1 st2
   | .rf w=>Er cs sl' rk st' (.rf w)
   | .new t st1=>∃c st2,Er cs sl' rk st' (.new c st2)/\All2 (V1 cs) st1 st2/\V1 (cs++ [c]) t (.cell cs.length)/\∀j,Vl.cell j∈vin c->j<cs.length):=by
 have n1:∀ {v:V},V1 cs (.sc v) (.sc v):=rfl
 cases h with
 |push h=>exact λ{st'} ht=>⟨_,_,.push h,hs,ht.app (.cons n1 .nil)⟩
 |non=>exact λ{st'} ht=>⟨_,_,.non,hs,ht.app (.cons n1 .nil)⟩
 |load h=>
  intro st' ht
  obtain⟨v',hv,hR⟩:=J1 hs h
  exact⟨_,_,.load hv,hs,ht.app (.cons hR .nil)⟩
 |keep h=>
  intro st' ht
  obtain⟨ds,d,rfl,h1,h2⟩:=D1 ht
  exact⟨_,_,.keep (by rw[<-hs.len];exact h),((CT hs _).app (.cons h2 .nil)).app (MC.all2_drop hs _),h1⟩
 |twoV h1 h2 h3 h4 h5=>
  intro st' ht
  obtain⟨ds,es,rfl,t1,t2⟩:=D9 ht
  cases t2 with
  |cons a1 t3=>
   cases t3 with
   |cons a2 t4=>
    cases t4
    cases a1
    cases a2
    exact⟨_,_,.twoV h1 h2 h3 h4 h5,hs,t1.app (.cons n1 .nil)⟩
 |twoR h1 h2 h3 h4=>
  intro st' ht
  obtain⟨ds,es,rfl,t1,t2⟩:=D9 ht
  cases t2 with
  |cons a1 t3=>
   cases t3 with
   |cons a2 t4=>
    cases t4
    cases a1
    cases a2
    exact .twoR h1 h2 h3 h4
 |cons=>
  intro st' ht
  obtain⟨ds,es,rfl,t1,t2⟩:=D9 ht
  cases t2 with
  | @cons _ x' _ _ a1 t3=>
   cases t3 with
   | @cons _ y' _ _ a2 t4=>
    cases t4
    refine⟨.pair x' y',ds,.cons,t1,⟨cs.length,x',y',rfl,by simp,V1.app _ a1,V1.app _ a2⟩,λj hj=> ?_⟩
    exact LM (vs:=[x',y']) (.cons a1 (.cons a2 .nil)) j hj
 |headN=>
  intro st' ht
  obtain⟨ds,d,rfl,h1,h2⟩:=D1 ht
  cases h2
  exact .headN
 |tailN=>
  intro st' ht
  obtain⟨ds,d,rfl,h1,h2⟩:=D1 ht
  cases h2
  exact .tailN
 |head=>
  intro st' ht
  obtain⟨ds,d,rfl,h1,k,a,b,rfl,hk,ha,hb⟩:=D1 ht
  exact⟨_,_,.head hk,hs,h1.app (.cons ha .nil)⟩
 |tail=>
  intro st' ht
  obtain⟨ds,d,rfl,h1,k,a,b,rfl,hk,ha,hb⟩:=D1 ht
  exact⟨_,_,.tail hk,hs,h1.app (.cons hb .nil)⟩
 |emptyN=>
  intro st' ht
  obtain⟨ds,d,rfl,h1,h2⟩:=D1 ht
  cases h2
  exact⟨_,_,.emptyN,hs,h1.app (.cons n1 .nil)⟩
 |empty=>
  intro st' ht
  obtain⟨ds,d,rfl,h1,k,a,b,rfl,hk,ha,hb⟩:=D1 ht
  exact⟨_,_,.empty,hs,h1.app (.cons n1 .nil)⟩
 |not=>
  intro st' ht
  obtain⟨ds,d,rfl,h1,h2⟩:=D1 ht
  cases h2
  exact⟨_,_,.not,hs,h1.app (.cons n1 .nil)⟩
 |skip=>exact λ{st'} ht=>⟨_,_,.skip,hs,ht⟩
 |«unless»=>
  intro st' ht
  obtain⟨ds,d,rfl,h1,h2⟩:=D1 ht
  cases h2
  exact⟨_,_,.unless,hs,h1⟩
 | @close b n st1 xs h h'=>
  intro st' ht
  obtain⟨ds,es,rfl,t1,t2⟩:=D9 ht
  refine⟨.fn b es,ds,.close (by rw[<-t2.len];exact h) h',t1,⟨cs.length,es,rfl,by simp, ?_⟩,LM t2⟩
  exact bHZ (BP _ t2)
theorem baZ{bs:List Bk}{cs:List Cl}{t:Tf}{f:Fr}(h:SimF cs t f):NA bs f=XJ bs t:=by
 unfold NA XJ
 rw[h.k,h.at_]
theorem YS{cs:List Cl}:∀n:Nat,All2 (V1 cs) (List.replicate n (.sc .non)) (List.replicate n (.sc .non))
 |0=> .nil
 |n+1=> .cons rfl (YS n)
theorem DD{cs:List Cl}{n sz:Nat}{ts:List Tv}{vs:List Vl}(h:All2 (V1 cs) ts vs):SimF cs (Q6 n sz ts) (begun n sz vs):=by
 refine⟨rfl,rfl, ?_,.nil⟩
 show All2 _ (ts++List.replicate (sz - ts.length) (.sc .non)) (vs++List.replicate (sz - vs.length) (.sc .non))
 rw[h.len]
 exact h.app (YS _)
theorem MX{bs:List Bk}{most:Nat}{S:Ms}{T T':Tm}(h:Sim S T)(st:IE bs most T T'):∃S',cnZ bs most S S'/\Sim S' T':=by
 obtain⟨fs,f,r,c,n,w,rfl,hw,ha⟩:=st
 obtain⟨cs,frs,out,r',c'⟩:=S
 obtain⟨hF,hO,hr,hc,hn,hk⟩:=h
 simp only at hF hO hr hc hn hk
 subst hr hc
 obtain⟨gs,g,rfl,hG,hg⟩:=D1 hF
 obtain rfl:=hO
 have hrow:NA bs g=some w:=by rw[baZ hg];exact hw
 have lG:=hG.len
 cases ha with
 |own hE=>
  obtain⟨sl2,st2,e1,e2,e3⟩:=XT hg.sl hE hg.st
  exact⟨_,⟨cs,gs,g,_,_,_,rfl,hrow,.own e1⟩,hG.app (.cons ⟨hg.k,by rw[hg.at_],e2,e3⟩ .nil),rfl,rfl,rfl,hn,hk⟩
 |new hE=>
  obtain⟨cl,st2,e1,e2,e3,e4⟩:=XT hg.sl hE hg.st
  refine⟨_,⟨cs,gs,g,_,_,_,rfl,hrow,.new e1⟩, ?_,rfl,rfl,rfl, ?_,aHZ hk e4⟩
  ·exact(hG.imp λ_ _ z=>SimF.app cl z).app (.cons ⟨hg.k,by rw[hg.at_],BP cl hg.sl,(BP cl e2).app (.cons e3 .nil)⟩ .nil)
  ·show(cs++ [cl]).length<=n+1
   rw[length_append]
   exact Nat.add_le_add_right hn 1
 |rf hE=>exact⟨_,⟨cs,gs,g,_,_,_,rfl,hrow,.rf (XT hg.sl hE hg.st)⟩,.nil,rfl,rfl,rfl,hn,hk⟩
 |last hfs hst=>
  subst hfs
  cases hG
  have h1:=hg.st
  rw[hst]at h1
  obtain⟨ds,d,e,h2,h3⟩:=D1 h1
  exact⟨_,⟨cs,[],g,_,_,_,rfl,hrow,.last rfl e⟩,.nil,⟨_,rfl,h3⟩,rfl,rfl,hn,hk⟩
 |back hfs hst=>
  subst hfs
  obtain⟨gs',g',rfl,hG',hg'⟩:=D1 hG
  have h1:=hg.st
  rw[hst]at h1
  obtain⟨ds,d,e,h2,h3⟩:=D1 h1
  exact⟨_,⟨cs,_,g,_,_,_,rfl,hrow,.back rfl e⟩,hG'.app (.cons ⟨hg'.k,hg'.at_,hg'.sl,hg'.st.app (.cons h3 .nil)⟩ .nil),rfl,rfl,rfl,hn,hk⟩
 |dry h1 h2=>exact⟨_,⟨cs,gs,g,_,_,_,rfl,hrow,.dry h1 h2⟩,.nil,rfl,rfl,rfl,hn,hk⟩
 |deep h1 h2 h3=>exact⟨_,⟨cs,gs,g,_,_,_,rfl,hrow,.deep h1 h2 (by omega)⟩,.nil,rfl,rfl,rfl,hn,hk⟩
 | @call b bk st1 xs h1 h2 h3 h4 h5=>
  have h6:=hg.st
  rw[h3]at h6
  obtain⟨ds,es,e,h7,h8⟩:=D9 h6
  have l8:=h8.len
  rw[l8]at hrow
  have n1:SimF cs ⟨f.k,f.at_+1,f.sl,st1⟩ ⟨g.k,g.at_+1,g.sl,ds⟩:=⟨hg.k,congrArg (·+1) hg.at_,hg.sl,h7⟩
  exact⟨_,⟨cs,gs,g,_,_,_,rfl,hrow,.call (xs:=es) h1 (by omega) e h4 (by omega)⟩,(hG.app (.cons n1 .nil)).app (.cons (DD h8) .nil),rfl,rfl,rfl,hn,hk⟩
 | @apply b bk st1 xs x h1 h2 h3 h4 h5=>
  have h6:=hg.st
  rw[h3]at h6
  obtain⟨ds,es,e,h7,h8⟩:=D9 h6
  cases h8 with
  |cons a1 t3=>
   cases t3 with
   |cons a2 t4=>
    cases t4
    obtain⟨k,vs,rfl,hkc,hvs⟩:=a1
    have hx:=bkZ hvs
    have lx:=hx.len
    have n1:SimF cs ⟨f.k,f.at_+1,f.sl,st1⟩ ⟨g.k,g.at_+1,g.sl,ds⟩:=⟨hg.k,congrArg (·+1) hg.at_,hg.sl,h7⟩
    exact⟨_,⟨cs,gs,g,_,_,_,rfl,hrow,.apply h1 (by omega) e hkc h4 (by omega)⟩,(hG.app (.cons n1 .nil)).app (.cons (DD (hx.app (.cons a2 .nil))) .nil),rfl,rfl,rfl,hn,hk⟩
theorem bWZ{cs:List Cl}{ws:List Vl}{ks:List Nat}(h:Okc cs)(hK:Kept cs ws ks):Okc (ks.map λk=>mvc ks (O4 cs k)):=λi j c hi hj=>by
 rw[getElem?_map]at hi
 obtain⟨k,hk,rfl⟩:=Option.map_eq_some_iff.mp hi
 rw[length_map]
 rw[aQZ]at hj
 obtain⟨x,hx,e⟩:=mem_map.mp hj
 cases x with
 |sc v=>cases e
 |cell m=>
  cases e
  have hr:=(hK.is k).mp (mem_of_getElem? hk)
  cases hc:cs[k]? with
  |none=>unfold O4 at hx;rw[hc]at hx;simp[vin]at hx
  |some d=>
   rw[DB hc]at hx
   exact List.idxOf_lt_length_of_mem ((hK.is m).mpr (.step hr hc hx))
theorem YY{cs:List Cl}{ws:List Vl}{ks:List Nat}(hK:Kept cs ws ks){ts:List Tv}{vs:List Vl}(h:All2 (V1 cs) ts vs)(hr:∀k,Vl.cell k∈vs->Rc cs ws k):All2 (V1 (ks.map λk=>mvc ks (O4 cs k))) ts (vs.map (mv ks)):=by
 induction h with
 |nil=>exact .nil
 | @cons t v ts vs h1 _ ih=>exact .cons ((VT.sw hK t).1 h1 λk e=>hr k (by rw[<-e];exact mem_cons_self ..)) (ih λk e=>hr k (mem_cons_of_mem _ e))
theorem ZI{cs:List Cl}{ws:List Vl}{ks:List Nat}(hK:Kept cs ws ks)(hO:Okc cs)(hV:Okv cs.length ws):ks.length<=cs.length:=CO _ _ hK.nd λk hk=>((hK.is k).mp hk).lt hO hV
theorem cNZ{S:Ms}{T:Tm}(h:Sim S T)(he:T.out≠none->T.frs=[])(hV:Okv S.cs.length (S9 S.out S.frs)){ks:List Nat}(hK:Kept S.cs (S9 S.out S.frs) ks):Sim (swS ks S) T:=by
 obtain⟨cs,frs,out,r,c⟩:=S
 obtain⟨frs',out',r',c',n⟩:=T
 obtain⟨hF,hO,hr,hc,hn,hk⟩:=h
 simp only at hF hO hr hc hn hk hV hK he
 have hlen:=ZI hK hk hV
 refine⟨?_, ?_,hr,hc, ?_,bWZ hk hK⟩
 ·show All2 _ frs' (frs.map (mvF (mv ks)))
  cases ho:out' with
  |some o=>rw[he (by rw[ho];intro z;cases z)]at hF⊢;cases hF;exact .nil
  |none=>
   rw[ho]at hO
   obtain rfl:=hO
   have go:∀ {ts:List Tf} {fs:List Fr},All2 (SimF cs) ts fs->(∀k,Vl.cell k∈fs.flatMap (λf=>f.sl++f.st)->Rc cs (S9 none frs) k)->All2 (SimF (ks.map λk=>mvc ks (O4 cs k))) ts (fs.map (mvF (mv ks))):=λ{ts fs} h=>by
    induction h with
    |nil=>exact λ_=> .nil
    | @cons t f ts fs h1 _ ih=>
     intro hr
     refine .cons ⟨h1.k,h1.at_,YY hK h1.sl λk e=>hr k ?_,YY hK h1.st λk e=>hr k ?_⟩ (ih λk e=>hr k ?_)
     ·simp[e]
     ·simp[e]
     ·rw[List.flatMap_cons];exact mem_append_right _ e
   exact go hF λk e=> .root e
 ·show d3Z _ out' (out.map (mvO (mv ks)))
  cases out' with
  |none=>obtain rfl:=hO;rfl
  |some o=>
   cases o with
   |value t=>
    obtain⟨x,rfl,hx⟩:=hO
    exact⟨mv ks x,rfl,(VT.sw hK t).1 hx λk e=> .root (by rw[<-e];exact mem_singleton.mpr rfl)⟩
   |refused w=>obtain rfl:=hO;rfl
   |dry=>obtain rfl:=hO;rfl
   |deep=>obtain rfl:=hO;rfl
 ·show(ks.map λk=>mvc ks (O4 cs k)).length<=n
  rw[length_map]
  exact le_trans hlen hn
noncomputable def KD:PL.Pv->Tv
 | .int i=> .sc (.int i)
 | .bl b=> .sc (.bl b)
 | .nil=> .sc .non
 | .cons h t=> .pair (KD h) (KD t)
theorem FA{cs:List Cl}:∀ {p:PL.Pv} {x:Vl},V1 cs (KD p) x->VRa cs p x
 | .int _,_,h=>h
 | .bl _,_,h=>h
 | .nil,_,h=>h
 | .cons _ _,_,⟨k,a,b,e,hk,h1,h2⟩=>⟨k,a,b,e,hk,FA h1,FA h2⟩
noncomputable def bOZ(T:Tm):List Tv:=T.frs.flatMap λf=>f.sl++f.st
structure GoodT (T:Tm):Prop where
 frs:T.frs.length<=60
 fr:∀f∈T.frs,f.sl.length<=100/\f.st.length<=100
 n:T.n<=500
 len:(bOZ T).length<=1000
 few:((bOZ T).map Tv.nodes).sum<=63\/T.n<=63
inductive TR (bs:List Bk) (most:Nat) (E:Tm):Nat->Tm->Prop
 |done:TR bs most E 0 E
 |step {T T' j}:GoodT T->T.out=none->IE bs most T T'->TR bs most E j T'->TR bs most E (j+1) T
theorem WV{bs:List Bk}{most:Nat}{T T':Tm}(h:IE bs most T T'):T'.r=T.r+1/\T.out=none:=by
 obtain⟨fs,f,r,c,n,w,rfl,_,ha⟩:=h
 cases ha<;>exact⟨rfl,rfl⟩
theorem OK{cs:List Cl}:∀ {ts:List Tf} {fs:List Fr},All2 (SimF cs) ts fs->All2 (V1 cs) (ts.flatMap λf=>f.sl++f.st) (fs.flatMap λf=>f.sl++f.st)
 | [],_,h=>by cases h;exact .nil
 |_::_,_,h=>by
  cases h with
  |cons h1 h2=>
   rw[List.flatMap_cons,List.flatMap_cons]
   exact(h1.sl.app h1.st).app (OK h2)
theorem FS{S:Ms}{T:Tm}(h:Sim S T):S.out=none↔T.out=none:=by
 have ho:=h.out
 cases e:T.out with
 |none=>rw[e]at ho;exact⟨λ_=>rfl,λ_=>ho⟩
 |some o=>
  rw[e]at ho
  refine⟨λz=> ?_,λz=>(nomatch z)⟩
  cases o with
  |value t=>obtain⟨x,hx,_⟩:=ho;rw[hx]at z;cases z
  |refused w=>rw[show S.out=_ from ho]at z;cases z
  |dry=>rw[show S.out=_ from ho]at z;cases z
  |deep=>rw[show S.out=_ from ho]at z;cases z
theorem IW{S:Ms}{T:Tm}(h:Sim S T)(g:GoodT T):Small S:=by
 refine⟨le_trans h.n g.n,by rw[<-h.frs.len];exact g.frs,λf hf=> ?_⟩
 obtain⟨i,hi⟩:=getElem?_of_mem hf
 obtain⟨t,ht,hs⟩:=h.frs.get hi
 have:=g.fr t (mem_of_getElem? ht)
 exact⟨by rw[<-hs.sl.len];exact this.1,by rw[<-hs.st.len];exact this.2⟩
theorem ZP{S:Ms}{T:Tm}(h:Sim S T)(g:GoodT T)(ho:S.out=none):Tidy S:=by
 have e:S9 S.out S.frs=S.frs.flatMap λf=>f.sl++f.st:=by rw[ho];rfl
 have hh:=OK h.frs
 refine⟨λz=>absurd ho z,h.okc, ?_, ?_, ?_⟩
 ·rw[e];exact LM hh
 ·rw[e]
  rcases g.few with f|f
  ·exact cZZ hh f
  ·exact λks nd hr=>le_trans (CO S.cs.length ks nd λk hk=>Rc.lt h.okc (LM hh) (hr k hk)) (le_trans h.n f)
 ·rw[e,<-hh.len];exact g.len
noncomputable def IR(bs:List Bk)(most:Nat)(E:Tm)(N:Nat)(S:Ms):Prop:=∃T j,Sim S T/\TR bs most E j T/\T.r+j=N
theorem d7Z{bs:List Bk}{most:Nat}{E:Tm}{N:Nat}(hE:E.out≠none)(hv:∀t,E.out=some (.value t)->∃p,t=KD p/\PL.size p<=400000):Rn bs most (IR bs most E N) λS=>N - S.r:=by
 refine⟨λS ⟨T,j,hs,ht,hj⟩ ho=> ?_,λS x ⟨T,j,hs,ht,hj⟩ ho=> ?_⟩
 ·cases ht with
  |done=>exact absurd ((FS hs).mp ho) hE
  | @step _ T' j g hn hst hr=>
   have hT:=ZP hs g ho
   obtain⟨S',h1,h2⟩:=MX hs hst
   have hr1:=(WV hst).1
   refine⟨IW hs g,hT,λks hK=>⟨⟨T,j+1,cNZ hs (λz=>absurd hn z) hT.okv hK,.step g hn hst hr,hj⟩,le_refl _⟩,S',h1,⟨T',j,h2,hr,by omega⟩, ?_⟩
   have e1:=hs.r
   have e2:=h2.r
   show N - S'.r<N - S.r
   omega
 ·cases ht with
  |done=>
   have h1:=hs.out
   cases e:E.out with
   |none=>exact absurd e hE
   |some o=>
    rw[e]at h1
    cases o with
    |value t=>
     obtain⟨y,hy,hV⟩:=h1
     rw[ho]at hy
     cases hy
     obtain⟨p,rfl,hp⟩:=hv t e
     exact⟨p,FA hV,hp⟩
    |refused w=>rw[show S.out=_ from h1]at ho;cases ho
    |dry=>rw[show S.out=_ from h1]at ho;cases ho
    |deep=>rw[show S.out=_ from h1]at ho;cases ho
  |step g hn hst hr=>
   have:=(FS hs).mpr hn
   rw[this]at ho;cases ho
theorem cmZ{bs:List Bk}{most:Nat}{E:Tm}{N:Nat}{S:Ms}(h:IR bs most E N S)(ho:S.out≠none):Sim S E:=by
 obtain⟨T,j,hs,ht,hj⟩:=h
 cases ht with
 |done=>exact hs
 |step g hn hst hr=>exact absurd ((FS hs).mpr hn) ho
theorem UV{bk:Bk}{main:Nat}{ts:List Tv}{vs:List Vl}(h:All2 (V1 []) ts vs):Sim ⟨[],[begun main bk.sz vs],none,0,0⟩ ⟨[Q6 main bk.sz ts],none,0,0,0⟩:=
 ⟨.cons (DD h) .nil,rfl,rfl,rfl,le_refl _,λk j c hk=>by simp at hk⟩
end MT
namespace PG
open PySem L2 CL SW MC MT
open BV hiding ifT ifF NoG top
inductive Kd where
 |n|t|l|L|F|fn (k:Kd)
noncomputable abbrev Hs:=List (List Kd×Kd)
inductive Prt:Kd->Kd->Prop
 |l:Prt .n .l
 |L:Prt .l .L
 |F:Prt (.fn .n) .F
noncomputable def len:Tv->Nat
 | .pair _ t=>len t+1
 |_=>0
inductive Ty (hs:Hs) (N:Nat):Sum Kd (List Kd)->Tv->Prop
 |n {i:Int}:Bd i->Ty hs N (.inl .n) (.sc (.int i))
 |t {b:Bool}:Ty hs N (.inl .t) (.sc (.bl b))
 |nil {p k}:Prt p k->Ty hs N (.inl k) (.sc .non)
 |pair {p k h r}:Prt p k->Ty hs N (.inl p) h->Ty hs N (.inl k) r->len r+1<=N->Ty hs N (.inl k) (.pair h r)
 |fn {b xs ps k}:hs[b]? =some (ps++ [.n],k)->Ty hs N (.inr ps) xs->Ty hs N (.inl (.fn k)) (.fn b xs)
 |none:Ty hs N (.inr []) .nil
 |some {k ks x xs}:Ty hs N (.inl k) x->Ty hs N (.inr ks) xs->Ty hs N (.inr (k::ks)) (.cons x xs)
noncomputable abbrev T1(hs:Hs)(N:Nat)(k:Kd)(v:Tv):Prop:=Ty hs N (.inl k) v
theorem Ty.mono{hs:Hs}{N M:Nat}(h:N<=M){s:Sum Kd (List Kd)}{v:Tv}(z:Ty hs N s v):Ty hs M s v:=by
 induction z with
 |n hb=>exact .n hb
 |t=>exact .t
 |nil hp=>exact .nil hp
 |pair hp _ _ hl ih1 ih2=>exact .pair hp ih1 ih2 (le_trans hl h)
 |fn hb _ ih=>exact .fn hb ih
 |none=>exact .none
 |some _ _ ih1 ih2=>exact .some ih1 ih2
theorem blZ{hs:Hs}{N:Nat}:∀ {ks:List Kd} {xs:Tv},Ty hs N (.inr ks) xs->∃ts,xs=tl ts/\All2 (T1 hs N) ks ts
 | [],_,h=>by cases h;exact⟨[],rfl,.nil⟩
 |k::ks,_,h=>by
  cases h with
  |some h1 h2=>
   obtain⟨ts,e,h3⟩:=blZ h2
   exact⟨_::ts,by rw[e];rfl,.cons h1 h3⟩
theorem bJZ{hs:Hs}{N:Nat}:∀ {ks:List Kd} {ts:List Tv},All2 (T1 hs N) ks ts->Ty hs N (.inr ks) (tl ts)
 | [],_,h=>by cases h;exact .none
 |k::ks,_,h=>by cases h with|cons h1 h2=>exact .some h1 (bJZ h2)
theorem len_le{hs:Hs}{N:Nat}{k:Kd}{v:Tv}(h:T1 hs N k v):len v<=N:=by
 cases h with
 |n _=>exact zero_le _
 |t=>exact zero_le _
 |nil _=>exact zero_le _
 |pair _ _ _ hl=>exact hl
 |fn _ _=>exact zero_le _
structure At where
 st:List Kd
 sl:List (Option Kd)
noncomputable def SlK(hs:Hs)(N:Nat):Option Kd->Tv->Prop
 |none,_=>True
 |some k,v=>T1 hs N k v
inductive RowK (hs:Hs) (told:Kd) (tys:List At) (i:Nat):Rw->At->Prop
 |pushN {m st sl}:Bd m->tys[i+1]? =some ⟨st++ [.n],sl⟩->RowK hs told tys i (.own (.push (.int m))) ⟨st,sl⟩
 |pushT {b st sl}:tys[i+1]? =some ⟨st++ [.t],sl⟩->RowK hs told tys i (.own (.push (.bl b))) ⟨st,sl⟩
 |non {p k st sl}:Prt p k->tys[i+1]? =some ⟨st++ [k],sl⟩->RowK hs told tys i (.own .non) ⟨st,sl⟩
 |load {j k st sl}:sl[j]? =some (some k)->tys[i+1]? =some ⟨st++ [k],sl⟩->RowK hs told tys i (.own (.load j)) ⟨st,sl⟩
 |keep {j k st sl}:j<sl.length->tys[i+1]? =some ⟨st,sl.take j++ [some k]++sl.drop (j+1)⟩->RowK hs told tys i (.own (.keep j)) ⟨st++ [k],sl⟩
 |two {m st sl}:m<6->tys[i+1]? =some ⟨st++ [if m=3\/m=4 then .t else .n],sl⟩->RowK hs told tys i (.own (.two m)) ⟨st++ [.n,.n],sl⟩
 |cons {p k st sl}:Prt p k->tys[i+1]? =some ⟨st++ [k],sl⟩->RowK hs told tys i (.own .cons) ⟨st++ [p,k],sl⟩
 |head {p k st sl}:Prt p k->tys[i+1]? =some ⟨st++ [p],sl⟩->RowK hs told tys i (.own .head) ⟨st++ [k],sl⟩
 |tail {p k st sl}:Prt p k->tys[i+1]? =some ⟨st++ [k],sl⟩->RowK hs told tys i (.own .tail) ⟨st++ [k],sl⟩
 |empty {p k st sl}:Prt p k->tys[i+1]? =some ⟨st++ [.t],sl⟩->RowK hs told tys i (.own .empty) ⟨st++ [k],sl⟩
 |not {st sl}:tys[i+1]? =some ⟨st++ [.t],sl⟩->RowK hs told tys i (.own .not) ⟨st++ [.t],sl⟩
 |skip {m st sl}:tys[i+(1+m)]? =some ⟨st,sl⟩->RowK hs told tys i (.own (.skip m)) ⟨st,sl⟩
 |unless {m st sl}:tys[i+(1+0)]? =some ⟨st,sl⟩->tys[i+(1+m)]? =some ⟨st,sl⟩->RowK hs told tys i (.own (.unless m)) ⟨st++ [.t],sl⟩
 |close {b ps k st sl}:hs[b]? =some (ps++ [.n],k)->ps.length<=10->tys[i+1]? =some ⟨st++ [.fn k],sl⟩->RowK hs told tys i (.own (.close b ps.length)) ⟨st++ps,sl⟩
 |call {b ps k st sl}:hs[b]? =some (ps,k)->tys[i+1]? =some ⟨st++ [k],sl⟩->RowK hs told tys i (.call b ps.length) ⟨st++ps,sl⟩
 |apply {k st sl}:tys[i+1]? =some ⟨st++ [k],sl⟩->RowK hs told tys i .apply ⟨st++ [.fn k,.n],sl⟩
 |back {st sl}:RowK hs told tys i .back ⟨st++ [told],sl⟩
noncomputable def wt:Rw->Nat
 | .own .cons=>1
 | .own (.close _ _)=>1
 |_=>0
structure BkOk (hs:Hs) (b:Nat) (bk:Bk) (ps:List Kd) (told:Kd) (tys:List At):Prop where
 hd:hs[b]? =some (ps,told)
 sz:bk.sz=ps.length+3
 t0:tys[0]? =some ⟨[],ps.map some++ [none,none,none]⟩
 len:tys.length=bk.rows.length
 row:∀i r,bk.rows[i]? =some r->∃a,tys[i]? =some a/\RowK hs told tys i r a
 few:bk.rows.length<=80
 wt:(bk.rows.map wt).sum<=8
 st:∀a∈tys,a.st.length<=80
 sl:∀a∈tys,a.sl.length<=20
noncomputable def YQ(hs:Hs)(bs:List Bk):Prop:=∀b ps k,hs[b]? =some (ps,k)->∃bk tys,bs[b]? =some bk/\BkOk hs b bk ps k tys
noncomputable def left(bk:Bk)(f:Tf):Nat:=bk.rows.length - f.at_
noncomputable def W9(bk:Bk)(f:Tf):Nat:=((bk.rows.drop f.at_).map wt).sum
structure FK (hs:Hs) (N:Nat) (bk:Bk) (f:Tf) (ps:List Kd) (told:Kd) (tys:List At) (all st:List Kd) (sl:List (Option Kd)):Prop where
 ok:BkOk hs f.k bk ps told tys
 at_:tys[f.at_]? =some ⟨all,sl⟩
 st:All2 (T1 hs N) st f.st
 sl:All2 (SlK hs N) sl f.sl
inductive Wt (hs:Hs) (bs:List Bk) (N:Nat) (mt:Kd):List Tf->Kd->Nat->Nat->Prop
 |nil:Wt hs bs N mt [] mt 0 0
 |snoc {fs f k0 k ps bk tys st sl R W}:Wt hs bs N mt fs k0 R W->bs[f.k]? =some bk->FK hs N bk f ps k0 tys (st++ [k]) st sl->Wt hs bs N mt (fs++ [f]) k (R+left bk f) (W+W9 bk f)
theorem IV{hs:Hs}{N M:Nat}(h:N<=M){ks:List Kd}{vs:List Tv}(z:All2 (T1 hs N) ks vs):All2 (T1 hs M) ks vs:=z.imp λ_ _ y=>y.mono h
theorem MU{hs:Hs}{N M:Nat}(h:N<=M):∀ {k:Option Kd} {v:Tv},SlK hs N k v->SlK hs M k v
 |none,_,_=>trivial
 |some _,_,z=>Ty.mono h z
theorem FK.mono{hs:Hs}{N M:Nat}(h:N<=M){bk:Bk}{f:Tf}{ps:List Kd}{told:Kd}{tys:List At}{all st:List Kd}{sl:List (Option Kd)}(z:FK hs N bk f ps told tys all st sl):FK hs M bk f ps told tys all st sl:=
 ⟨z.ok,z.at_,IV h z.st,z.sl.imp λ_ _ y=>MU h y⟩
theorem Wt.mono{hs:Hs}{bs:List Bk}{N M:Nat}(h:N<=M){mt:Kd}{fs:List Tf}{k:Kd}{R W:Nat}(z:Wt hs bs N mt fs k R W):Wt hs bs M mt fs k R W:=by
 induction z with
 |nil=>exact .nil
 |snoc _ hb hf ih=>exact .snoc ih hb (hf.mono h)
structure Run (hs:Hs) (bs:List Bk) (most:Nat) (mt:Kd) (T:Tm) (M:Nat):Prop where
 ex:∃fs f r c n ps bk tys k0 st sl R W,T=⟨fs++ [f],none,r,c,n⟩/\Wt hs bs n mt fs k0 R W/\bs[f.k]? =some bk/\FK hs n bk f ps k0 tys st st sl/\fs.length<=c/\c<=most/\n+W+W9 bk f<=8*(c+1)/\R+left bk f+(most - c)*81<=M
theorem aVZ{p q k:Kd}(h:Prt p k)(h':Prt q k):p=q:=by cases h<;>cases h'<;>rfl
theorem bgZ{a b:Int}(h1: -NM.GR<=a)(h2:a<=NM.GR)(hb:b≠0):Bd (a.fdiv b):=by
 have key:(a.fdiv b).natAbs<=a.natAbs:=by
  rcases Int.lt_or_gt_of_ne hb with h|h
  ·rw[<-Int.neg_fdiv_neg,Int.fdiv_eq_ediv_of_nonneg _ (by omega)]
   have:=Int.natAbs_ediv_le_natAbs (-a) (-b)
   rwa [Int.natAbs_neg]at this
  ·rw[Int.fdiv_eq_ediv_of_nonneg _ (by omega)]
   exact Int.natAbs_ediv_le_natAbs a b
 have e:NM.GR=10000000000000000000000000000000000000000:=rfl
 rw[e]at h1 h2
 generalize a.fdiv b=q at key⊢
 constructor
 ·rw[e];omega
 ·rw[e];omega
theorem XQ{k:Nat}(hk:k<6)(a b:Int):(∃v,NM.tw k a b=[.str "value",v]/\scV v=true/\∀(hs:Hs) (N:Nat),Bd a->Bd b->T1 hs N (if k=3\/k=4 then .t else .n) (.sc v))\/∃w,NM.tw k a b=[.str "refused",.str w]:=by
 have hb:∀m:Int,(∃v,NM.bnd m=[.str "value",v]/\scV v=true/\∀(hs:Hs) (N:Nat),T1 hs N .n (.sc v))\/∃w,NM.bnd m=[.str "refused",.str w]:=λm=>by
  unfold NM.bnd
  by_cases c:m>NM.GR\/m< -NM.GR
  ·rw[if_pos c];exact .inr ⟨_,rfl⟩
  ·rw[if_neg c];exact .inl ⟨_,rfl,rfl,λ_ _=> .n ⟨by omega,by omega⟩⟩
 have h6:k=0\/k=1\/k=2\/k=3\/k=4\/k=5:=by omega
 rcases h6 with rfl|rfl|rfl|rfl|rfl|rfl
 ·rcases hb (a+b)with⟨v,h1,h2,h3⟩|h
  ·exact .inl ⟨v,h1,h2,λhs N _ _=>h3 hs N⟩
  ·exact .inr h
 ·rcases hb (a - b)with⟨v,h1,h2,h3⟩|h
  ·exact .inl ⟨v,h1,h2,λhs N _ _=>h3 hs N⟩
  ·exact .inr h
 ·rcases hb (a*b)with⟨v,h1,h2,h3⟩|h
  ·exact .inl ⟨v,h1,h2,λhs N _ _=>h3 hs N⟩
  ·exact .inr h
 ·exact .inl ⟨_,rfl,rfl,λ_ _ _ _=> .t⟩
 ·exact .inl ⟨_,rfl,rfl,λ_ _ _ _=> .t⟩
 ·show(∃v,NM.quo a b=[.str "value",v]/\_)\/∃w,NM.quo a b=[.str "refused",.str w]
  unfold NM.quo
  by_cases c:b=0
  ·rw[if_pos c];exact .inr ⟨_,rfl⟩
  ·rw[if_neg c]
   refine .inl ⟨_,rfl,rfl,λhs N ha hb=> .n ?_⟩
   obtain⟨h1,h2⟩:=ha
   exact bgZ h1 h2 c
noncomputable def d5Z(hs:Hs)(N:Nat)(tys:List At)(i:Nat)(slK:List (Option Kd))(rk:Rk):Eo3->Prop
 | .fr d sl st=>1<=d/\∃stK slK',tys[i+d]? =some ⟨stK,slK'⟩/\All2 (T1 hs N) stK st/\All2 (SlK hs N) slK' sl
 | .new t st=>wt (.own rk)=1/\∃stK k,tys[i+1]? =some ⟨stK++ [k],slK⟩/\All2 (T1 hs N) stK st/\T1 hs (N+1) k t
 | .rf _=>True
theorem FB{α β:Type}{R:α->β->Prop}{as:List α}{a b:α}{cs:List β}(h:All2 R (as++ [a,b]) cs):∃ds x y,cs=ds++ [x,y]/\All2 R as ds/\R a x/\R b y:=by
 obtain⟨ds,es,e,h1,h2⟩:=D9 h
 cases h2 with
 |cons h3 h4=>
  cases h4 with
  |cons h5 h6=>cases h6;exact⟨ds,_,_,e,h1,h3,h5⟩
theorem bYZ{hs:Hs}{N:Nat}{told:Kd}{tys:List At}{i:Nat}{rk:Rk}{stK:List Kd}{slK:List (Option Kd)}{sl st:List Tv}(h:RowK hs told tys i (.own rk) ⟨stK,slK⟩)(hst:All2 (T1 hs N) stK st)(hsl:All2 (SlK hs N) slK sl):
  ∃eo,Et sl rk st eo/\d5Z hs N tys i slK rk eo:=by
 cases h with
 |pushN hb hn=>exact⟨_,.push rfl,le_refl _,_,_,hn,hst.app (.cons (.n hb) .nil),hsl⟩
 |pushT hn=>exact⟨_,.push rfl,le_refl _,_,_,hn,hst.app (.cons .t .nil),hsl⟩
 |non hp hn=>exact⟨_,.non,le_refl _,_,_,hn,hst.app (.cons (.nil hp) .nil),hsl⟩
 |load hj hn=>
  obtain⟨v,hv,hR⟩:=J1 hsl hj
  exact⟨_,.load hv,le_refl _,_,_,hn,hst.app (.cons hR .nil),hsl⟩
 |keep hj hn=>
  obtain⟨ds,d,rfl,h1,h2⟩:=D1 hst
  exact⟨_,.keep (by rw[<-hsl.len];exact hj),le_refl _,_,_,hn,h1,((CT hsl _).app (.cons (show SlK hs N (some _) d from h2) .nil)).app (MC.all2_drop hsl _)⟩
 |two hm hn=>
  obtain⟨ds,x,y,rfl,h1,h2,h3⟩:=FB hst
  cases h2 with
  |n ha=>
   cases h3 with
   |n hb=>
    rcases XQ hm _ _ with⟨v,e,hv,hK⟩|⟨w,e⟩
    ·exact⟨_,.twoV hm ha hb e hv,le_refl _,_,_,hn,h1.app (.cons (hK _ _ ha hb) .nil),hsl⟩
    ·exact⟨_,.twoR hm ha hb e,trivial⟩
   |nil hp=>cases hp
   |pair hp=>cases hp
  |nil hp=>cases hp
  |pair hp=>cases hp
 |cons hp hn=>
  obtain⟨ds,x,y,rfl,h1,h2,h3⟩:=FB hst
  have hl:=len_le h3
  exact⟨_,.cons,rfl,_,_,hn,h1,.pair hp (h2.mono (by omega)) (h3.mono (by omega)) (by omega)⟩
 |head hp hn=>
  obtain⟨ds,x,rfl,h1,h2⟩:=D1 hst
  cases h2 with
  |n _=>cases hp
  |t=>cases hp
  |nil _=>exact⟨_,.headN,trivial⟩
  |pair hp' ha hb _=>
   have e:_=_:=aVZ hp hp'
   subst e
   exact⟨_,.head,le_refl _,_,_,hn,h1.app (.cons ha .nil),hsl⟩
  |fn _ _=>cases hp
 |tail hp hn=>
  obtain⟨ds,x,rfl,h1,h2⟩:=D1 hst
  cases h2 with
  |n _=>cases hp
  |t=>cases hp
  |nil _=>exact⟨_,.tailN,trivial⟩
  |pair hp' ha hb _=>exact⟨_,.tail,le_refl _,_,_,hn,h1.app (.cons hb .nil),hsl⟩
  |fn _ _=>cases hp
 |empty hp hn=>
  obtain⟨ds,x,rfl,h1,h2⟩:=D1 hst
  cases h2 with
  |n _=>cases hp
  |t=>cases hp
  |nil _=>exact⟨_,.emptyN,le_refl _,_,_,hn,h1.app (.cons .t .nil),hsl⟩
  |pair hp' ha hb _=>exact⟨_,.empty,le_refl _,_,_,hn,h1.app (.cons .t .nil),hsl⟩
  |fn _ _=>cases hp
 |not hn=>
  obtain⟨ds,x,rfl,h1,h2⟩:=D1 hst
  cases h2 with
  |t=>exact⟨_,.not,le_refl _,_,_,hn,h1.app (.cons .t .nil),hsl⟩
  |nil hp=>cases hp
  |pair hp=>cases hp
 |skip hn=>exact⟨_,.skip,le_add_right _ _,_,_,hn,hst,hsl⟩
 |«unless» h0 hm=>
  obtain⟨ds,x,rfl,h1,h2⟩:=D1 hst
  cases h2 with
  | @t b=>
   refine⟨_,.unless,le_add_right _ _,_,_, ?_,h1,hsl⟩
   cases b
   ·exact hm
   ·exact h0
  |nil hp=>cases hp
  |pair hp=>cases hp
 |close hb hl hn=>
  obtain⟨ds,es,rfl,h1,h2⟩:=D9 hst
  exact⟨_,.close h2.len.symm hl,rfl,_,_,hn,h1,(Ty.fn hb (bJZ h2)).mono (le_succ _)⟩
theorem WX{rows:List Rw}{i d:Nat}{r:Rw}(h:rows[i]? =some r)(hd:1<=d):((rows.drop (i+d)).map wt).sum+wt r<=((rows.drop i).map wt).sum:=by
 obtain⟨hi,rfl⟩:=List.getElem?_eq_some_iff.mp h
 have e:rows.drop i=rows[i]::rows.drop (i+1):=List.drop_eq_getElem_cons hi
 have e2:rows.drop (i+d)=(rows.drop (i+1)).drop (d - 1):=by rw[List.drop_drop];congr 1;omega
 rw[e,e2,map_cons,sum_cons,map_drop]
 have:∀(l:List Nat) (k:Nat),(l.drop k).sum<=l.sum:=λl k=>by
  have:=take_append_drop k l
  have h3:(l.take k).sum+(l.drop k).sum=l.sum:=by rw[<-sum_append,this]
  omega
 have:=this ((rows.drop (i+1)).map wt) (d - 1)
 omega
theorem ccZ{hs:Hs}{N:Nat}{ps:List Kd}{xs:List Tv}(h:All2 (T1 hs N) ps xs):All2 (SlK hs N) (ps.map some) xs:=by
 induction h with
 |nil=>exact .nil
 |cons h1 _ ih=>exact .cons h1 ih
section
variable{hs:Hs}{bs:List Bk}{most:Nat}{mt:Kd}
noncomputable def YI(hs:Hs)(mt:Kd)(n:Nat)(T:Tm):Prop:=T.out≠none/\T.n<=n/\∀t,T.out=some (.value t)->T1 hs n mt t
theorem bZZ{bk:Bk}{f:Tf}{ps:List Kd}{told:Kd}{tys:List At}{N:Nat}{all st:List Kd}{sl:List (Option Kd)}(hb:bs[f.k]? =some bk)(h:FK hs N bk f ps told tys all st sl):∃r,XJ bs f=some r/\bk.rows[f.at_]? =some r/\RowK hs told tys f.at_ r ⟨all,sl⟩:=by
 have hl:f.at_<bk.rows.length:=by rw[<-h.ok.len];exact(List.getElem?_eq_some_iff.mp h.at_).1
 have hr:=List.getElem?_eq_getElem hl
 obtain⟨a,ha,hk⟩:=h.ok.row _ _ hr
 rw[h.at_]at ha
 cases ha
 refine⟨_, ?_,hr,hk⟩
 unfold XJ
 rw[hb]
 exact hr
theorem GM(hB:YQ hs bs){b:Nat}{ps:List Kd}{k:Kd}(hh:hs[b]? =some (ps,k)){xs:List Tv}{N:Nat}(hx:All2 (T1 hs N) ps xs):∃bk tys,bs[b]? =some bk/\xs.length<=bk.sz/\bk.sz=ps.length+3/\FK hs N bk (Q6 b bk.sz xs) ps k tys [] [] (ps.map some++ [none,none,none])/\W9 bk (Q6 b bk.sz xs)<=8/\left bk (Q6 b bk.sz xs)<=80:=by
 obtain⟨bk,tys,hb,ok⟩:=hB b ps k hh
 have hl:=hx.len
 refine⟨bk,tys,hb,by rw[ok.sz];omega,ok.sz,⟨ok,ok.t0,.nil, ?_⟩, ?_, ?_⟩
 ·show All2 (SlK hs N) (ps.map some++ [none,none,none]) (xs++List.replicate (bk.sz - xs.length) (.sc .non))
  have e:bk.sz - xs.length=3:=by rw[ok.sz];omega
  rw[e]
  exact All2.app (ccZ hx) (.cons trivial (.cons trivial (.cons trivial .nil)))
 ·exact ok.wt
 ·exact le_trans (Nat.sub_le _ _) ok.few
theorem XS(hB:YQ hs bs)(hm:most<=40){T:Tm}{M:Nat}(h:Run hs bs most mt T M):∃T',IE bs most T T'/\T'.n<=8*(T.c+1)/\((∃M',M'<M/\Run hs bs most mt T' M')\/YI hs mt (8*(T.c+1)) T'):=by
 obtain⟨fs,f,r,c,n,ps,bk,tys,k0,st,sl,R,W,rfl,hW,hb,hF,hc,hcm,hn,hM⟩:=h.ex
 obtain⟨row,hrT,hrow,hK⟩:=bZZ hb hF
 have hlt:f.at_<bk.rows.length:=(List.getElem?_eq_some_iff.mp hrow).1
 have hn0:n<=8*(c+1):=le_trans (le_trans (le_add_right _ _) (le_add_right _ _)) hn
 have stp:∀ {T':Tm},ActT bs most fs f r c n row T'->IE bs most ⟨fs++ [f],none,r,c,n⟩ T':=λha=>⟨fs,f,r,c,n,row,rfl,hrT,ha⟩
 have nx:∀d,1<=d->W9 bk ⟨f.k,f.at_+d,[],[]⟩+wt row<=W9 bk f:=λd hd=>WX hrow hd
 have lx:∀d,1<=d->left bk ⟨f.k,f.at_+d,[],[]⟩+1<=left bk f:=λd hd=>by
  show bk.rows.length - (f.at_+d)+1<=bk.rows.length - f.at_
  omega
 cases row with
 |own rk=>
  obtain⟨eo,he,ho⟩:=bYZ hK hF.st hF.sl
  cases eo with
  |fr d sl' st'=>
   obtain⟨hd,stK,slK,ht,h1,h2⟩:=ho
   refine⟨_,stp (.own he), ?_,.inl ⟨R+left bk ⟨f.k,f.at_+d,[],[]⟩+(most - c)*81, ?_,⟨fs,_,_,c,n,ps,bk,tys,k0,stK,slK,R,W,rfl,hW,hb,⟨hF.ok,ht,h1,h2⟩,hc,hcm, ?_,le_refl _⟩⟩⟩
   ·exact hn0
   ·have:=lx d hd;omega
   ·have:=nx d hd
    show n+W+W9 bk ⟨f.k,f.at_+d,[],[]⟩<=_
    omega
  |new t st'=>
   obtain⟨hw,stK,k,ht,h1,h2⟩:=ho
   have hx:=nx 1 (le_refl _)
   rw[hw]at hx
   refine⟨_,stp (.new he), ?_,.inl ⟨R+left bk ⟨f.k,f.at_+1,[],[]⟩+(most - c)*81, ?_,⟨fs,_,_,c,n+1,ps,bk,tys,k0,stK++ [k],sl,R,W,rfl,hW.mono (le_succ _),hb,⟨hF.ok,ht,(IV (le_succ _) h1).app (.cons h2 .nil),hF.sl.imp λ_ _ y=>MU (le_succ _) y⟩,hc,hcm, ?_,le_refl _⟩⟩⟩
   ·show n+1<=8*(c+1);omega
   ·have:=lx 1 (le_refl _);omega
   ·show n+1+W+W9 bk ⟨f.k,f.at_+1,[],[]⟩<=_
    omega
  |rf w=>exact⟨_,stp (.rf he),hn0,.inr ⟨(λz=>nomatch z),hn0,λt z=>(nomatch z)⟩⟩
 |back=>
  cases hK with
  | @back st0=>
   obtain⟨ds,v,e,h1,h2⟩:=D1 hF.st
   cases hW with
   |nil=>exact⟨_,stp (.last rfl e),hn0,.inr ⟨(λz=>nomatch z),hn0,λt z=>by cases z;exact h2.mono hn0⟩⟩
   | @snoc gs g k1 _ ps1 bk1 tys1 st1 sl1 R1 W1 hW1 hb1 hF1=>
    refine⟨_,stp (.back rfl e), ?_,.inl ⟨R1+left bk1 g+(most - c)*81, ?_,⟨gs,_,_,c,n,ps1,bk1,tys1,k1,st1++ [k0],sl1,R1,W1,rfl,hW1,hb1,⟨hF1.ok,hF1.at_,hF1.st.app (.cons h2 .nil),hF1.sl⟩, ?_,hcm, ?_,le_refl _⟩⟩⟩
    ·exact hn0
    ·have:1<=left bk f:=by show 1<=bk.rows.length - f.at_;omega
     omega
    ·rw[length_append]at hc;simp at hc;omega
    ·show n+W1+W9 bk1 g<=_
     omega
 |call b m=>
  by_cases hd:most<=c
  ·exact⟨_,stp (.dry (.inl ⟨b,m,rfl⟩) hd),hn0,.inr ⟨(λz=>nomatch z),hn0,λt z=>(nomatch z)⟩⟩
  cases hK with
  | @call _ ps' k st0 _ hh ht=>
   obtain⟨ds,xs,e,h1,h2⟩:=D9 hF.st
   obtain⟨bk',tys',hb',hx1,hx2,hF',hw',hl'⟩:=GM hB hh h2
   have el:=h2.len
   have hact:ActT bs most fs f r c n (.call b ps'.length) ⟨fs++ [⟨f.k,f.at_+1,f.sl,ds⟩]++ [Q6 b bk'.sz xs],none,r+1,c+1,n⟩:=by
    rw[el]
    exact .call (by omega) (by omega) e hb' hx1
   refine⟨_,stp hact, ?_,.inl ⟨(R+left bk ⟨f.k,f.at_+1,f.sl,ds⟩)+left bk' (Q6 b bk'.sz xs)+(most - (c+1))*81, ?_,⟨fs++ [⟨f.k,f.at_+1,f.sl,ds⟩],_,_,c+1,n,ps',bk',tys',k,[],_,_,_,rfl,.snoc hW hb ⟨hF.ok,ht,h1,hF.sl⟩,hb',hF', ?_,by omega, ?_,le_refl _⟩⟩⟩
   ·exact hn0
   ·have h3:=lx 1 (le_refl _)
    have h4:(most - c)*81=(most - (c+1))*81+81:=by
     have:most - c=most - (c+1)+1:=by omega
     rw[this,Nat.add_mul]
    show(R+left bk ⟨f.k,f.at_+1,[],[]⟩)+left bk' _+_<M
    omega
   ·rw[length_append];simp;omega
   ·have h3:=nx 1 (le_refl _)
    show n+(W+W9 bk ⟨f.k,f.at_+1,[],[]⟩)+W9 bk' _<=8*(c+1+1)
    omega
 |apply=>
  by_cases hd:most<=c
  ·exact⟨_,stp (.dry (.inr rfl) hd),hn0,.inr ⟨(λz=>nomatch z),hn0,λt z=>(nomatch z)⟩⟩
  cases hK with
  | @apply k st0 _ ht=>
   obtain⟨ds,v,x,e,h1,hv,hx⟩:=FB hF.st
   cases hv with
   | @fn b xs ps' _ hh hxs=>
    obtain⟨ts,rfl,hts⟩:=blZ hxs
    have h2:All2 (T1 hs n) (ps'++ [.n]) (ts++ [x]):=hts.app (.cons hx .nil)
    obtain⟨bk',tys',hb',hx1,hx2,hF',hw',hl'⟩:=GM hB hh h2
    have hact:ActT bs most fs f r c n .apply ⟨fs++ [⟨f.k,f.at_+1,f.sl,ds⟩]++ [Q6 b bk'.sz (ts++ [x])],none,r+1,c+1,n⟩:=
     .apply (by omega) (by omega) e hb' (by rw[length_append]at hx1;exact hx1)
    refine⟨_,stp hact, ?_,.inl ⟨(R+left bk ⟨f.k,f.at_+1,f.sl,ds⟩)+left bk' (Q6 b bk'.sz (ts++ [x]))+(most - (c+1))*81, ?_,⟨fs++ [⟨f.k,f.at_+1,f.sl,ds⟩],_,_,c+1,n,_,bk',tys',k,[],_,_,_,rfl,.snoc hW hb ⟨hF.ok,ht,h1,hF.sl⟩,hb',hF', ?_,by omega, ?_,le_refl _⟩⟩⟩
    ·exact hn0
    ·have h3:=lx 1 (le_refl _)
     have h4:(most - c)*81=(most - (c+1))*81+81:=by
      have:most - c=most - (c+1)+1:=by omega
      rw[this,Nat.add_mul]
     show(R+left bk ⟨f.k,f.at_+1,[],[]⟩)+left bk' _+_<M
     omega
    ·rw[length_append];simp;omega
    ·have h3:=nx 1 (le_refl _)
     show n+(W+W9 bk ⟨f.k,f.at_+1,[],[]⟩)+W9 bk' _<=8*(c+1+1)
     omega
   |nil hp=>cases hp
   |pair hp=>cases hp
theorem cyZ{N:Nat}{fs:List Tf}{k:Kd}{R W:Nat}(h:Wt hs bs N mt fs k R W):(∀f∈fs,f.sl.length<=20/\f.st.length<=80)/\((fs.flatMap λf=>f.sl++f.st).length<=100*fs.length):=by
 induction h with
 |nil=>exact⟨λf hf=>(nomatch hf),le_refl _⟩
 | @snoc fs f k0 k ps bk tys st sl R W hW hb hF ih=>
  have hm:=mem_of_getElem? hF.at_
  have h1:=hF.ok.st _ hm
  have h2:=hF.ok.sl _ hm
  have e1:=hF.st.len
  have e2:=hF.sl.len
  rw[length_append]at h1
  have h3:f.st.length<=80:=by rw[<-e1];omega
  have h4:f.sl.length<=20:=by rw[<-e2];exact h2
  refine⟨λg hg=> ?_, ?_⟩
  ·rcases mem_append.mp hg with hg|hg
   ·exact ih.1 g hg
   ·rw[sZ hg];exact⟨h4,h3⟩
  ·rw[flatMap_append,length_append,length_append,List.flatMap_singleton,length_append]
   have:=ih.2
   simp only[length_singleton]
   omega
theorem ZO{T:Tm}{M:Nat}(hm:most<=6)(h:Run hs bs most mt T M):GoodT T/\T.out=none:=by
 obtain⟨fs,f,r,c,n,ps,bk,tys,k0,st,sl,R,W,rfl,hW,hb,hF,hc,hcm,hn,hM⟩:=h.ex
 have hmm:=mem_of_getElem? hF.at_
 have h1:=hF.ok.st _ hmm
 have h2:=hF.ok.sl _ hmm
 have e1:=hF.st.len
 have e2:=hF.sl.len
 have h3:f.st.length<=80:=by rw[<-e1];exact h1
 have h4:f.sl.length<=20:=by rw[<-e2];exact h2
 obtain⟨w1,w2⟩:=cyZ hW
 refine⟨⟨?_,λg hg=> ?_, ?_, ?_,.inr ?_⟩,rfl⟩
 ·show(fs++ [f]).length<=60
  rw[length_append,length_singleton];omega
 ·rcases mem_append.mp hg with hg|hg
  ·have:=w1 g hg;omega
  ·rw[sZ hg];omega
 ·show n<=500;omega
 ·show((fs++ [f]).flatMap λf=>f.sl++f.st).length<=1000
  rw[flatMap_append,length_append,List.flatMap_singleton,length_append]
  omega
 ·show n<=63;omega
theorem WM(hB:YQ hs bs)(hm:most<=6):∀ {M:Nat} {T:Tm},Run hs bs most mt T M->∃E j,TR bs most E j T/\j<=M/\YI hs mt 56 E:=by
 intro M
 induction M using Nat.strongRecOn with
 |ind M ih=>
  intro T h
  obtain⟨T',hs',hn,h'⟩:=XS hB (by omega) h
  obtain⟨hg,ho⟩:=ZO hm h
  have hc:T.c<=6:=by
   obtain⟨fs,f,r,c,n,ps,bk,tys,k0,st,sl,R,W,rfl,hW,hb,hF,hc,hcm,hn,hM⟩:=h.ex
   show c<=6;omega
  rcases h' with⟨M',hlt,h'⟩|⟨e1,e2,e3⟩
  ·obtain⟨E,j,hT,hj,hE⟩:=ih M' hlt h'
   exact⟨E,j+1,.step hg ho hs' hT,by omega,hE⟩
  ·have hM:1<=M:=by
    obtain⟨fs,f,r,c,n,ps,bk,tys,k0,st,sl,R,W,rfl,hW,hb,hF,hc,hcm,hn,hM⟩:=h.ex
    have:1<=left bk f:=by
     show 1<=bk.rows.length - f.at_
     have:=(List.getElem?_eq_some_iff.mp hF.at_).1
     rw[hF.ok.len]at this
     omega
    omega
   exact⟨T',1,.step hg ho hs' .done,hM,e1,by omega,λt z=>(e3 t z).mono (by omega)⟩
theorem WE(hB:YQ hs bs){main m:Nat}(hh:hs[main]? =some (List.replicate m .n,mt)){ns:List Int}(hl:ns.length=m)(hn:∀i∈ns,Bd i):∃bk,bs[main]? =some bk/\bk.sz=m+3/\Run hs bs most mt ⟨[Q6 main bk.sz (ns.map λi=> .sc (.int i))],none,0,0,0⟩ (80+most*81):=by
 have hx:All2 (T1 hs 0) (List.replicate m .n) (ns.map λi=>Tv.sc (.int i)):=by
  clear hh
  subst hl
  induction ns with
  |nil=>exact .nil
  |cons i ns ih=>exact .cons (.n (hn i (mem_cons_self ..))) (ih λj hj=>hn j (mem_cons_of_mem _ hj))
 obtain⟨bk,tys,hb,h1,h2,hF,hw,hlf⟩:=GM hB hh hx
 rw[length_replicate]at h2
 exact⟨bk,hb,h2,⟨[],_,0,0,0,_,bk,tys,mt,[],_,0,0,rfl,.nil,hb,hF,le_refl _,zero_le _,by omega,by omega⟩⟩
end
theorem RowK.more{hs:Hs}{told:Kd}{tys tys':List At}{i:Nat}{r:Rw}{a:At}(h:RowK hs told tys i r a)(m:∀(j:Nat) x,tys[j]? =some x->tys'[j]? =some x):RowK hs told tys' i r a:=by
 cases h with
 |pushN h1 h2=>exact .pushN h1 (m _ _ h2)
 |pushT h2=>exact .pushT (m _ _ h2)
 |non h1 h2=>exact .non h1 (m _ _ h2)
 |load h1 h2=>exact .load h1 (m _ _ h2)
 |keep h1 h2=>exact .keep h1 (m _ _ h2)
 |two h1 h2=>exact .two h1 (m _ _ h2)
 |cons h1 h2=>exact .cons h1 (m _ _ h2)
 |head h1 h2=>exact .head h1 (m _ _ h2)
 |tail h1 h2=>exact .tail h1 (m _ _ h2)
 |empty h1 h2=>exact .empty h1 (m _ _ h2)
 |not h2=>exact .not (m _ _ h2)
 |skip h2=>exact .skip (m _ _ h2)
 |«unless» h1 h2=>exact .unless (m _ _ h1) (m _ _ h2)
 |close h1 h2 h3=>exact .close h1 h2 (m _ _ h3)
 |call h1 h2=>exact .call h1 (m _ _ h2)
 |apply h2=>exact .apply (m _ _ h2)
 |back=>exact .back
structure GOk (hs:Hs) (ps:List Kd) (rows:List Rw) (st:List Kd) (sl:List (Option Kd)) (tys:List At):Prop where
 t0:(tys++ [⟨st,sl⟩])[0]? =some ⟨[],ps.map some++ [none,none,none]⟩
 len:tys.length=rows.length
 row:∀told i r,rows[i]? =some r->∃a,tys[i]? =some a/\RowK hs told (tys++ [⟨st,sl⟩]) i r a
 hst:∀a∈tys++ [⟨st,sl⟩],a.st.length<=rows.length
 hsl:∀a∈tys++ [⟨st,sl⟩],a.sl.length=ps.length+3
theorem BR{α:Type}{xs ys:List α}{j:Nat}{x:α}(h:xs[j]? =some x):(xs++ys)[j]? =some x:=by
 rw[getElem?_append_left (List.getElem?_eq_some_iff.mp h).1];exact h
theorem W2{α:Type}{xs:List α}{x:α}{n:Nat}(h:xs.length=n):(xs++ [x])[n]? =some x:=by subst h;simp
theorem VJ(hs:Hs)(ps:List Kd):GOk hs ps [] [] (ps.map some++ [none,none,none]) []:=
 ⟨rfl,rfl,λtold i r h=>by simp at h,λa ha=>by rw[sZ ha];exact le_refl _,λa ha=>by rw[sZ ha];simp⟩
theorem GOk.one{hs:Hs}{ps:List Kd}{rows:List Rw}{st st':List Kd}{sl sl':List (Option Kd)}{tys:List At}(h:GOk hs ps rows st sl tys){r:Rw}(hr:∀(told:Kd) (ty:List At) (i:Nat),ty[i+1]? =some ⟨st',sl'⟩->RowK hs told ty i r ⟨st,sl⟩)(hst:st'.length<=st.length+1)(hsl:sl'.length=sl.length):
  GOk hs ps (rows++ [r]) st' sl' (tys++ [⟨st,sl⟩]):=by
 have hl:=h.len
 have hcur:(⟨st,sl⟩:At)∈tys++ [⟨st,sl⟩]:=mem_append_right _ (mem_singleton.mpr rfl)
 refine⟨BR h.t0,by simp[hl],λtold i r' hi=> ?_,λa ha=> ?_,λa ha=> ?_⟩
 ·rcases lt_or_ge i rows.length with hlt|hge
  ·rw[getElem?_append_left hlt]at hi
   obtain⟨a,h1,h2⟩:=h.row told i r' hi
   exact⟨a,BR h1,h2.more λj x hx=>BR hx⟩
  ·have hi':i=rows.length:=by
    have:=(List.getElem?_eq_some_iff.mp hi).1
    simp at this;omega
   subst hi'
   rw[W2 rfl]at hi
   cases hi
   exact⟨_,W2 hl,hr told _ _ (W2 (by simp[hl]))⟩
 ·rw[length_append,length_singleton]
  rcases mem_append.mp ha with ha|ha
  ·exact le_succ_of_le (h.hst a ha)
  ·rw[sZ ha]
   have:=h.hst _ hcur
   simp only at this⊢
   omega
 ·rcases mem_append.mp ha with ha|ha
  ·exact h.hsl a ha
  ·rw[sZ ha]
   have:=h.hsl _ hcur
   simp only at this⊢
   omega
noncomputable def DR(hs:Hs)(k:Kd)(sl:List (Option Kd))(r:Rw):Prop:=wt r=0/\∀(told:Kd) (ty:List At) (i:Nat) (st:List Kd),ty[i+1]? =some ⟨st++ [k],sl⟩->RowK hs told ty i r ⟨st,sl⟩
theorem GOk.push{hs:Hs}{ps:List Kd}{rows:List Rw}{st:List Kd}{sl:List (Option Kd)}{tys:List At}(h:GOk hs ps rows st sl tys){k:Kd}{r:Rw}(hr:DR hs k sl r):GOk hs ps (rows++ [r]) (st++ [k]) sl (tys++ [⟨st,sl⟩]):=
 h.one (λtold ty i hi=>hr.2 told ty i st hi) (by simp) rfl
theorem GOk.branch{hs:Hs}{ps:List Kd}{rows:List Rw}{st:List Kd}{sl:List (Option Kd)}{tys:List At}(h:GOk hs ps rows (st++ [.t]) sl tys){k:Kd}{r1 r2:Rw}(h1:DR hs k sl r1)(h2:DR hs k sl r2):
  ∃tys',GOk hs ps (rows++ [.own (.unless 2),r1,.own (.skip 1),r2]) (st++ [k]) sl tys':=by
 have hl:=h.len
 have hcur:(⟨st++ [.t],sl⟩:At)∈tys++ [⟨st++ [.t],sl⟩]:=mem_append_right _ (mem_singleton.mpr rfl)
 have hcs:=h.hst _ hcur
 have hcl:=h.hsl _ hcur
 simp only[length_append,length_singleton]at hcs hcl
 have ge:∀(x:List At) (j:Nat),(tys++x)[rows.length+j]? =x[j]? :=λx j=>by
  rw[<-hl,getElem?_append_right (le_add_right _ _),add_sub_cancel_left]
 have gr:∀(x:List Rw) (j:Nat),(rows++x)[rows.length+j]? =x[j]? :=λx j=>by
  rw[getElem?_append_right (le_add_right _ _),add_sub_cancel_left]
 refine⟨tys++ [⟨st++ [.t],sl⟩,⟨st,sl⟩,⟨st++ [k],sl⟩,⟨st,sl⟩], ?_,by simp[hl],λtold i r hi=> ?_,λa ha=> ?_,λa ha=> ?_⟩
 ·have:=h.t0
  rw[List.append_assoc]
  cases tys with
  |nil=>exact this
  |cons x tys=>exact this
 ·rcases lt_or_ge i rows.length with hlt|hge
  ·rw[getElem?_append_left hlt]at hi
   obtain⟨a,h3,h4⟩:=h.row told i r hi
   refine⟨a,BR h3,h4.more λj x hx=> ?_⟩
   rw[List.append_assoc]
   rcases lt_or_ge j tys.length with hj|hj
   ·rw[getElem?_append_left hj]at hx⊢
    exact hx
   ·have:j=tys.length:=by
     have:=(List.getElem?_eq_some_iff.mp hx).1
     simp at this;omega
    subst this
    rw[W2 rfl]at hx
    cases hx
    rw[getElem?_append_right (le_refl _),Nat.sub_self]
    rfl
  ·obtain⟨d,rfl⟩:=Nat.exists_eq_add_of_le hge
   rw[gr]at hi
   have e:∀j,(tys++ [⟨st++ [.t],sl⟩,⟨st,sl⟩,⟨st++ [k],sl⟩,⟨st,sl⟩]++ [(⟨st++ [k],sl⟩:At)])[rows.length+j]? =([⟨st++ [.t],sl⟩,⟨st,sl⟩,⟨st++ [k],sl⟩,⟨st,sl⟩,⟨st++ [k],sl⟩]:List At)[j]? :=λj=>by
    rw[List.append_assoc];exact ge _ j
   match d,hi with
   |0,hi=>
    cases hi
    exact⟨_,by rw[ge];rfl,.unless (by rw[Nat.add_assoc];exact e 1) (by rw[Nat.add_assoc];exact e 3)⟩
   |1,hi=>
    cases hi
    exact⟨_,by rw[ge];rfl,h1.2 _ _ _ _ (e 2)⟩
   |2,hi=>
    cases hi
    exact⟨_,by rw[ge];rfl,.skip (by rw[Nat.add_assoc];exact e 4)⟩
   |3,hi=>
    cases hi
    exact⟨_,by rw[ge];rfl,h2.2 _ _ _ _ (e 4)⟩
   |d+4,hi=>simp at hi
 ·simp only[length_append,length_cons,length_nil]
  rw[List.append_assoc]at ha
  rcases mem_append.mp ha with ha|ha
  ·have:=h.hst a (mem_append_left _ ha);omega
  ·simp only[mem_append,mem_cons,not_mem_nil,or_false]at ha
   rcases ha with(rfl|rfl|rfl|rfl)|rfl<;>simp only[length_append,length_singleton]<;>omega
 ·rw[List.append_assoc]at ha
  rcases mem_append.mp ha with ha|ha
  ·exact h.hsl a (mem_append_left _ ha)
  ·simp only[mem_append,mem_cons,not_mem_nil,or_false]at ha
   rcases ha with(rfl|rfl|rfl|rfl)|rfl<;>exact hcl
theorem GOk.block{hs:Hs}{ps:List Kd}{rows:List Rw}{st:List Kd}{sl:List (Option Kd)}{tys:List At}{told:Kd}{b:Nat}(h:GOk hs ps rows (st++ [told]) sl tys)(hh:hs[b]? =some (ps,told))(hp:ps.length<=10)(hr:rows.length<80)(hw:(rows.map wt).sum<=8):
  BkOk hs b ⟨ps.length,ps.length+3,rows++ [.back]⟩ ps told (tys++ [⟨st++ [told],sl⟩]):=by
 have hl:=h.len
 refine⟨hh,rfl,h.t0,by simp[hl],λi r hi=> ?_,by simp;omega, ?_,λa ha=> ?_,λa ha=> ?_⟩
 ·have hi:(rows++ [Rw.back])[i]? =some r:=hi
  rcases lt_or_ge i rows.length with hlt|hge
  ·rw[getElem?_append_left hlt]at hi
   obtain⟨a,h1,h2⟩:=h.row told i r hi
   exact⟨a,BR h1,h2⟩
  ·have hi':i=rows.length:=by
    have:=(List.getElem?_eq_some_iff.mp hi).1
    simp at this;omega
   subst hi'
   rw[W2 rfl]at hi
   cases hi
   exact⟨_,W2 hl,.back⟩
 ·show((rows++ [Rw.back]).map wt).sum<=8
  rw[map_append,sum_append]
  exact hw
 ·exact le_of_lt (lt_of_le_of_lt (h.hst a ha) hr)
 ·rw[h.hsl a ha];omega
noncomputable def Kd.cs:Kd->List Nat
 | .n=> [110]| .t=> [116]| .l=> [108]| .L=> [76]| .F=> [70]| .fn k=>102::k.cs
noncomputable abbrev Kd.tx(k:Kd):Str:=⟨k.cs.toArray⟩
theorem cFZ:∀ {a b:Kd},a.cs=b.cs->a=b:=by
 intro a
 induction a with
 |fn k ih=>
  intro b h
  cases b with
  |fn k'=>have:k.cs=k'.cs:=by simpa [Kd.cs]using h
          rw[ih this]
  |_=>simp[Kd.cs]at h
 |_=>intro b h;cases b<;>simp[Kd.cs]at h<;>rfl
theorem CZ{a b:Kd}(h:a.tx=b.tx):a=b:=cFZ (by have h1:a.cs.toArray=b.cs.toArray:=congrArg Str.cps h;simpa using h1)
noncomputable abbrev kv(k:Kd):V:=.str k.tx
noncomputable def ov:Option Kd->V
 |none=> .non
 |some k=>kv k
theorem LC{a b:Kd}(h:kv a=kv b):a=b:=CZ (by injection h)
theorem ov_kv{o:Option Kd}{k:Kd}:ov o=kv k↔o=some k:=by
 cases o with
 |none=>exact⟨λz=>(nomatch z),λz=>(nomatch z)⟩
 |some a=>exact⟨λz=>by rw[LC z],λz=>by cases z;rfl⟩
theorem aAZ{as bs:List Kd}(h:as.map kv=bs.map kv):as=bs:=by
 induction as generalizing bs with
 |nil=>cases bs with
  |nil=>rfl
  |cons _ _=>cases h
 |cons a as ih=>cases bs with
  |nil=>cases h
  |cons b bs=>
   rw[map_cons,map_cons]at h
   injection h with h1 h2
   rw[LC h1,ih h2]
theorem elZ:("n":Str)=Kd.n.tx:=by decide +kernel
theorem etZ:("t":Str)=Kd.t.tx:=by decide +kernel
theorem efZ:("l":Str)=Kd.l.tx:=by decide +kernel
theorem ehZ:("L":Str)=Kd.L.tx:=by decide +kernel
theorem evZ:("F":Str)=Kd.F.tx:=by decide +kernel
theorem d9Z:("fn":Str)=(Kd.fn .n).tx:=by decide +kernel
structure SA (H0 H:Hp) (d a b c:Addr) (rs:List V) (rows:List Rw) (st:List Kd) (sl:List (Option Kd)):Prop where
 sm:Same H0 H
 hd:H d=some (.dK [(.inr "rows",.ref a),(.inr "stack",.ref b),(.inr "slots",.ref c)])
 ha:H a=some (.lst rs)
 hr:All2 (RwAt H) rows rs
 hb:H b=some (.lst (st.map kv))
 hc:H c=some (.lst (sl.map ov))
 nd:H0 d=none
 na:H0 a=none
 nb:H0 b=none
 nc:H0 c=none
 ab:a≠b
 ac:a≠c
 bc:b≠c
section
variable{H0 H H':Hp}{d a b c:Addr}{rs:List V}{rows:List Rw}{st st':List Kd}{sl sl':List (Option Kd)}
theorem SA.same(h:SA H0 H d a b c rs rows st sl)(s:Same H H'):SA H0 H' d a b c rs rows st sl:=
 ⟨h.sm.trans s,s _ _ h.hd,s _ _ h.ha,h.hr.imp λ_ _ z=>z.mo (B8 s),s _ _ h.hb,s _ _ h.hc,h.nd,h.na,h.nb,h.nc,h.ab,h.ac,h.bc⟩
theorem Z3(s:Same H0 H){x:Addr}(n:H0 x=none)(o:HO):Same H0 (upd H x o):=λy ob e=>by
 rw[B5 (C5 e n)];exact s _ _ e
theorem KQ{x:Addr}{xs ys:List V}(e:H x=some (.lst xs)):Mo H (upd H x (.lst ys)):=λy zs h=>by
 rw[B5 λz=>by rw[z,e]at h;cases h];exact h
theorem SA.da(h:SA H0 H d a b c rs rows st sl):d≠a/\d≠b/\d≠c:=by
 refine⟨λz=> ?_,λz=> ?_,λz=> ?_⟩<;>have e:=h.hd<;>rw[z]at e
 ·rw[h.ha]at e;cases e
 ·rw[h.hb]at e;cases e
 ·rw[h.hc]at e;cases e
theorem SA.row(h:SA H0 H d a b c rs rows st sl){r:Rw}{u:V}(hr:RwAt H r u):SA H0 (upd H a (.lst (rs++ [u]))) d a b c (rs++ [u]) (rows++ [r]) st sl:=by
 have m:Mo H (upd H a (.lst (rs++ [u]))):=KQ h.ha
 obtain⟨d1,d2,d3⟩:=h.da
 exact⟨Z3 h.sm h.na _,by rw[B5 d1];exact h.hd,A5,(h.hr.imp λ_ _ z=>z.mo m).app (.cons (hr.mo m) .nil),by rw[B5 h.ab.symm];exact h.hb,by rw[B5 h.ac.symm];exact h.hc,h.nd,h.na,h.nb,h.nc,h.ab,h.ac,h.bc⟩
theorem SA.stk(h:SA H0 H d a b c rs rows st sl):SA H0 (upd H b (.lst (st'.map kv))) d a b c rs rows st' sl:=by
 have m:Mo H (upd H b (.lst (st'.map kv))):=KQ h.hb
 obtain⟨d1,d2,d3⟩:=h.da
 exact⟨Z3 h.sm h.nb _,by rw[B5 d2];exact h.hd,by rw[B5 h.ab];exact h.ha,h.hr.imp λ_ _ z=>z.mo m,A5,by rw[B5 h.bc.symm];exact h.hc,h.nd,h.na,h.nb,h.nc,h.ab,h.ac,h.bc⟩
theorem SA.slt(h:SA H0 H d a b c rs rows st sl):SA H0 (upd H c (.lst (sl'.map ov))) d a b c rs rows st sl':=by
 have m:Mo H (upd H c (.lst (sl'.map ov))):=KQ h.hc
 obtain⟨d1,d2,d3⟩:=h.da
 exact⟨Z3 h.sm h.nc _,by rw[B5 d3];exact h.hd,by rw[B5 h.ac];exact h.ha,h.hr.imp λ_ _ z=>z.mo m,by rw[B5 h.bc];exact h.hb,A5,h.nd,h.na,h.nb,h.nc,h.ab,h.ac,h.bc⟩
theorem SA.put(h:SA H0 H d a b c rs rows st sl){b':Addr}(hb:H b'=none):SA H0 (upd (upd H b' (.lst (st'.map kv))) d (.dK [(.inr "rows",.ref a),(.inr "stack",.ref b'),(.inr "slots",.ref c)])) d a b' c rs rows st' sl:=by
 have s:=A7 hb (.lst (st'.map kv))
 have h':=h.same s
 obtain⟨d1,d2,d3⟩:=h.da
 have n1:b'≠d:=λz=>by rw[z,h.hd]at hb;cases hb
 have n2:b'≠a:=λz=>by rw[z,h.ha]at hb;cases hb
 have n3:b'≠c:=λz=>by rw[z,h.hc]at hb;cases hb
 have m:Mo (upd H b' (.lst (st'.map kv))) (upd (upd H b' (.lst (st'.map kv))) d (.dK [(.inr "rows",.ref a),(.inr "stack",.ref b'),(.inr "slots",.ref c)])):=λy zs e=>by
  rw[B5 λz=>by rw[z,h'.hd]at e;cases e];exact e
 have nb0:H0 b'=none:=by
  cases e:H0 b' with
  |none=>rfl
  |some o=>rw[h.sm _ _ e]at hb;cases hb
 exact⟨Z3 h'.sm h.nd _,A5,by rw[B5 d1.symm];exact h'.ha,h'.hr.imp λ_ _ z=>z.mo m,by rw[B5 n1];exact A5,by rw[B5 d3.symm];exact h'.hc,h.nd,h.na,nb0,h.nc,n2.symm,h.ac,n3⟩
theorem SA.gr(h:SA H0 H d a b c rs rows st sl):DGet H d (.str "rows") (some (.ref a)):=DGet.k (k:=.inr "rows") h.hd
theorem SA.gb(h:SA H0 H d a b c rs rows st sl):DGet H d (.str "stack") (some (.ref b)):=DGet.k (k:=.inr "stack") h.hd
theorem SA.gc(h:SA H0 H d a b c rs rows st sl):DGet H d (.str "slots") (some (.ref c)):=DGet.k (k:=.inr "slots") h.hd
end
noncomputable def StA(H0 H:Hp)(d:Addr)(rows:List Rw)(st:List Kd)(sl:List (Option Kd)):Prop:=∃a b c rs,SA H0 H d a b c rs rows st sl
end PG
namespace K67
open PySem L2 CL SW MC MT
open BV hiding ifT ifF NoG top
seal PE PT PW PA PS PSs PTs PI PG PGs PO
noncomputable abbrev s_law_cell_at:Stmt:=CL.top 41
noncomputable abbrev s_law_number:Stmt:=CL.top 43
noncomputable abbrev HQ:List Str:=["_law_script","_law_k"]
theorem sc_law_cell_at:FnScope HQ q9L (B4 s_law_cell_at):=fS
noncomputable abbrev LD:List Str:=["_law_cell"]
theorem sc_law_number:FnScope LD q2L (B4 s_law_number):=fS
theorem p40:(10:Int)^((40:Int).toNat)=NM.GR:=by decide +kernel
noncomputable def N6(ns:List Int)(k:Int):Int:=(ns[k.toNat]?).getD 0
theorem lg{b:Int}(h0:0<b)(h1:b<2^60):b≠0/\b.natAbs.log2<9000:=⟨by omega,by
 have:b.natAbs≠0:=by omega
 have:=(Nat.log2_lt this).mpr (show b.natAbs<2^60 by omega)
 omega⟩
theorem ml{a b:Int}(h: -(2^63)<a/\a<2^63):IntMulOk a b:=IntMulOk.of_left (intBits_le_64 (by omega) (by omega))
theorem mr{a b:Int}(h: -(2^63)<b/\b<2^63):IntMulOk a b:=IntMulOk.of_right (intBits_le_64 (by omega) (by omega))
section
variable{P:Program}{w:World}{K:FZ}{mg:Str->Option Value}{base:Heap}{C f:Addr}{fd:FuncData}{mf:Str->Addr}{md:Str->FuncData}
inductive spCellVW(K:FZ)(vs:List V)(H:Hp)(Q:VK):Prop
 |mk:∀(a:Addr) (ns:List Int) (k:Int),(vs=[.ref a,.int k])->(SqL K H a (ns.map V.int))->(0<=k)->(Q (.int (N6 ns k)) H)->spCellVW K vs H Q
noncomputable def BJ(K:FZ):Sp:=λvs H Q _=>spCellVW K vs H Q
theorem ok_law_cell_at(F:Fun K "_law_cell_at" "_law_cell_at" s_law_cell_at f fd)(B:NoG mg):FnOk P w K mg base CX0 1 f fd q9L (BJ K):=by
 refine F.ok sc_law_cell_at (λvs H Q E h=> ?_) (λcdv A outer s H vs Q E hr h=> ?_)
 ·obtain⟨a,ns,k,rfl,_⟩:=h
  rfl
 obtain⟨a,ns,k,rfl,hS,hk,q⟩:=h
 have nd:=sc_law_cell_at.nd
 refine⟨_,(A8 (D8 (B9 WQ (pv 1) (C4 (J8 (K:=K)) rfl B.len_ G1 (A0 (pv 0) A6)) rfl) (B0 (C2 (ixE K w (pv 0) (pv 1)))) D2)
   (B0 (C2 A9))), ?_⟩
 refine⟨_,rfl,_,rfl,_,_,rfl,.inl ⟨_,hS,rfl⟩,_,_,rfl,rfl,_,rfl,FO (λc=> ?_) (λc=> ?_)⟩
 ·have c':k<((ns.map V.int).length:Nat):=of_decide_eq_true c
  rw[length_map]at c'
  have hk':k.toNat<ns.length:=by omega
  have ev:N6 ns k=ns[k.toNat]:=by unfold N6;rw[List.getElem?_eq_getElem hk'];rfl
  have e:atI (ns.map V.int) ((k.toNat:Nat):Int)=some (.int ns[k.toNat]):=D3 (by rw[getElem?_map,List.getElem?_eq_getElem hk'];rfl)
  have ek:((k.toNat:Nat):Int)=k:=by omega
  rw[ek]at e
  rw[ev]at q
  exact⟨_,rfl,_,rfl,.inl ⟨_,_,_,_,rfl,rfl,hS,e,q⟩⟩
 ·have c':¬k<((ns.map V.int).length:Nat):=λz=>c (decide_eq_true z)
  rw[length_map]at c'
  have ev:N6 ns k=0:=by unfold N6;rw[List.getElem?_eq_none (by omega)];rfl
  rw[ev]at q
  exact q
inductive spNumBW (vs:List V) (H:Hp) (Q:VK):Prop
 |mk:∀n:Int,(vs=[.int n])->(∀m:Int,Bd m->Q (.int m) H)->spNumBW vs H Q
noncomputable def spNumB:Sp:=λvs H Q _=>spNumBW vs H Q
theorem ok_law_number(F:Fun K "_law_number" "_law_number" s_law_number f fd):FnOk P w K mg base CX0 1 f fd q2L spNumB:=by
 refine F.ok sc_law_number (λvs H Q E h=> ?_) (λcdv A outer s H vs Q E hr h=> ?_)
 ·obtain⟨n,rfl,_⟩:=h
  rfl
 obtain⟨n,rfl,q⟩:=h
 have nd:=sc_law_number.nd
 have hu:=hr.units0
 have hG:=GRe
 have pw:(0:Int)<(10:Int)^((40:Int).toNat)+1:=by rw[p40];decide
 refine⟨_,(A8 (D8 (B9 (kEq (K:=K) hu) (B7 E4 (pv 0) A9) A9 rfl) (B0 (C2 (B7 EM (B7 P1 A9 (B7 EM A9 (B7 E4 (B7 D5 (pv 0) A9) A9))) (B7 P1 (B7 XZ A9 A9) (B7 E4 (B7 D5 (pv 0) A9) A9))))) D2)
   (A8 (D8 (B9 (kEq (K:=K) hu) (B7 E4 (pv 0) A9) A9 rfl) (B0 (C2 (B7 E4 (B7 EM (pv 0) A9) (B7 aJZ (B7 XZ A9 A9) A9)))) D2)
   (B0 (C2 (B7 P1 (B7 E4 (B7 D5 (pv 0) A9) A9) A9))))), ?_⟩
 refine⟨_,rfl,_,_,rfl,rfl,(by decide:(0:Int)<7),.inl ⟨rfl,_,rfl,FO (λe=> ?_) (λe=> ?_)⟩⟩
 ·refine⟨_,rfl,_,_,rfl,rfl,lg (by decide) (by decide),_,_,rfl,rfl,(by decide:(0:Int)<2),_,_,rfl,rfl,ml ⟨by decide,by decide⟩,_,_,rfl,rfl, ?_⟩
  refine⟨_,_,rfl,rfl,⟨by decide,by decide,by decide⟩,_,rfl,_,_,rfl,rfl,lg (by decide) (by decide),_,_,rfl,rfl,(by decide:(0:Int)<3),_,_,rfl,rfl,_,_,rfl,rfl,ml ?_,q _ ?_⟩
  ·have g4:=Int.emod_nonneg (n.fdiv 7) (by decide:(2:Int)≠0)
   have g5:=Int.emod_lt_of_pos (n.fdiv 7) (by decide:(0:Int)<2)
   constructor<;>omega
  ·have g4:=Int.emod_nonneg (n.fdiv 7) (by decide:(2:Int)≠0)
   have g5:=Int.emod_lt_of_pos (n.fdiv 7) (by decide:(0:Int)<2)
   have g6:=Int.emod_nonneg (n.fdiv 14) (by decide:(3:Int)≠0)
   have g7:=Int.emod_lt_of_pos (n.fdiv 14) (by decide:(0:Int)<3)
   rw[p40]
   show -NM.GR<=(1 - 2*(n.fdiv 7%2))*(NM.GR - n.fdiv 14%3)/\(1 - 2*(n.fdiv 7%2))*(NM.GR - n.fdiv 14%3)<=NM.GR
   have hs:(1:Int) - 2*(n.fdiv 7%2)=1\/(1:Int) - 2*(n.fdiv 7%2)= -1:=by omega
   rcases hs with hs|hs<;>rw[hs]<;>constructor<;>omega
 refine⟨_,rfl,_,_,rfl,rfl,(by decide:(0:Int)<7),.inl ⟨rfl,_,rfl,FO (λe=> ?_) (λe=> ?_)⟩⟩
 ·refine⟨_,rfl,_,_,rfl,rfl,mr ⟨by decide,by decide⟩,_,_,rfl,rfl,⟨by decide,by decide,by decide⟩,.inl ⟨_,_,rfl,rfl,_,_,rfl,rfl,pw,q _ ?_⟩⟩
  have g1:=Int.emod_nonneg (n*48271000000007) (Int.ne_of_gt pw)
  have g2:=Int.emod_lt_of_pos (n*48271000000007) pw
  show -NM.GR<=n*48271000000007%((10:Int)^((40:Int).toNat)+1)/\n*48271000000007%((10:Int)^((40:Int).toNat)+1)<=NM.GR
  rw[p40]at g1 g2⊢
  constructor<;>omega
 ·refine⟨_,rfl,_,_,rfl,rfl,lg (by decide) (by decide),_,_,rfl,rfl,(by decide:(0:Int)<41),_,_,rfl,rfl,q _ ?_⟩
  have g1:=Int.emod_nonneg (n.fdiv 7) (by decide:(41:Int)≠0)
  have g2:=Int.emod_lt_of_pos (n.fdiv 7) (by decide:(0:Int)<41)
  show -NM.GR<=n.fdiv 7%41 - 20/\n.fdiv 7%41 - 20<=NM.GR
  constructor<;>omega
end
end K67
namespace PG
open PySem L2 CL SW MC MT
open K67 (lg N6 spNumB BJ)
open BV hiding ifT ifF NoG top
seal PE PT PW PA PS PSs PTs PI L2.PG PGs PO
noncomputable abbrev s_law_push:Stmt:=CL.top 45
noncomputable abbrev GF:List Str:=["_law_state","_law_kind","_law_cell","_law_known"]
theorem sc_law_push:FnScope GF ZD (B4 s_law_push):=fS
theorem X3(x:Int){m:Nat}(h:0<m):∃c:Nat,x%(m:Int)=(c:Int)/\c<m:=
 ⟨(x%(m:Int)).toNat,(Int.toNat_of_nonneg (Int.emod_nonneg _ (by omega))).symm,by
  have h1:=Int.emod_lt_of_pos x (show(0:Int)<(m:Int) by omega)
  have h2:=Int.emod_nonneg x (show(m:Int)≠0 by omega)
  omega⟩
theorem z1:(1:Nat)<=sizeLine:=by decide
theorem z2:(2:Nat)<=sizeLine:=by decide
theorem z3:(3:Nat)<=sizeLine:=by decide
theorem z6:(6:Nat)<=sizeLine:=by decide
noncomputable def Bas(k:Kd):Prop:=k=.n\/k=.t\/k=.l\/k=.L\/k=.F
theorem CU{hs:Hs}{k:Kd}{sl:List (Option Kd)}{j:Nat}(h:sl[j]? =some (some k)):DR hs k sl (.own (.load j)):=⟨rfl,λ_ _ _ _ e=> .load h e⟩
theorem WR{hs:Hs}{p k:Kd}{sl:List (Option Kd)}(h:Prt p k):DR hs k sl (.own .non):=⟨rfl,λ_ _ _ _ e=> .non h e⟩
theorem cdZ{hs:Hs}{sl:List (Option Kd)}{b:Bool}:DR hs .t sl (.own (.push (.bl b))):=⟨rfl,λ_ _ _ _ e=> .pushT e⟩
theorem QC{hs:Hs}{sl:List (Option Kd)}{m:Int}(h:Bd m):DR hs .n sl (.own (.push (.int m))):=⟨rfl,λ_ _ _ _ e=> .pushN h e⟩
section
variable{P:Program}{w:World}{K:FZ}{mg:Str->Option Value}{base:Heap}{f L8:Addr}{fd M0:FuncData}
inductive spPushW(vs:List V)(H:Hp)(Q:VK):Prop
 |mk:∀(H0:Hp) (d:Addr) (k:Kd) (cell:Int) (rows:List Rw) (st:List Kd) (sl:List (Option Kd)),(vs=[.ref d,.str k.tx,.int cell])->(Bas k)->(StA H0 H d rows st sl)->(sl.length<=20)->(∀r p H',Same H H'->H' p=some (.tup (rwV r))->(∀hs,DR hs k sl r)->Q (.ref p) H')->spPushW vs H Q
noncomputable def LE:Sp:=λvs H Q _=>spPushW vs H Q
theorem ok_law_push(F:Fun K "_law_push" "_law_push" s_law_push f fd)(B:BV.NoG mg)
  (E3:Cn P w K mg base CX0 1 "_law_number" q2L K67.spNumB):
  FnOk P w K mg base CX0 2 f fd ZD LE:=by
 obtain⟨L8,M0,E3,L5,L9,L6⟩:=E3
 refine F.ok sc_law_push (λvs H Q E h=> ?_) (λcdv A outer s H vs Q E hr h=> ?_)
 ·obtain⟨H0,d,k,cell,rows,st,sl,rfl,_⟩:=h
  rfl
 obtain⟨H0,d,k,cell,rows,st,sl,rfl,hk,⟨a,b,c,rs,hA⟩,hl,q⟩:=h
 have nd:=sc_law_push.nd
 have hu:=hr.units0
 refine⟨_,(A8 (S6 (i:=3) nd rfl rfl (cS (N:=GF) (sc:=B4 s_law_push) (caps:=[1,0]) (ns:=["_law_kind","_law_state"])) rfl rfl rfl (M2 rfl B.range_ (A0 (C4 (J8 (K:=K)) rfl B.len_ G1 (A0 (C9 (lt_of_le_of_lt (add_le_add_left (by decide:1<=64) _) hr.units) (pv 0) B1 (λ_ _=>rfl)) A6)) A6)) (λ_ _ _ _ _=>(SI (B9 (kEq (K:=K) hu) (ixE K w (C9 (lt_of_le_of_lt (add_le_add_left (by decide:1<=64) _) hr.units) (pv 2) B1 (λ_ _=>rfl)) (pv 0)) (pv 1) rfl))) (λ_ _ _ _ _=>(pv 0)))
   (A8 (E1 (D8 (PW.pt (ET (B9 (kEq (K:=K) hu) (B7 E4 (pv 2) A9) A9 rfl) (BH (B9 (YN (K:=K) hu) (pv 3) (E6 A6) rfl)))) (B0 (C2 (C1 (A0 B1 (A0 (ixE K w (pv 3) (B7 E4 (B7 D5 (pv 2) A9) (C4 (J8 (K:=K)) rfl B.len_ G1 (A0 (pv 3) A6)))) A6))))) D2))
   (A8 (D8 (B9 (kIn (K:=K) (w:=w)) (pv 1) (C1 (A0 B1 (A0 B1 (A0 B1 A6)))) rfl) (B0 (C2 (C1 (A0 B1 A6)))) D2)
   (A8 (D8 (B9 (kEq (K:=K) hu) (pv 1) B1 rfl) (B0 (C2 (C1 (A0 B1 (A0 (Q7 (kEq (K:=K) hu) (B7 E4 (B7 D5 (pv 2) A9) A9) A9 rfl) A6))))) D2)
   (B0 (C2 (C1 (A0 B1 (A0 (B6 E3 (hr.mono (by omega)) rfl L6 L9 L5 .nil C0 (A0 (B7 D5 (pv 2) A9) A6)) A6))))))))), ?_⟩
 refine⟨_,rfl,d,.ref c,rfl,hA.gc,_,_,rfl,.inl ⟨_,SqL.of hA.hc,rfl⟩,(sl.length:Nat),(by rw[length_map]),by omega,by omega,Q5 (n:=sl.length) (λi ys H'=>H'=H/\∃js:List Nat,ys=js.map (λj=>V.int (j:Nat))/\js.length<=i/\∀j∈js,sl[j]? =some (some k)) ⟨rfl,[],rfl,le_refl _,λj hj=>(nomatch hj)⟩ ?_ ?_ ?_⟩
 ·rintro i ys H' hi ⟨rfl,js,rfl,hj,_⟩
  rw[length_map]
  exact le_trans (le_trans hj (le_trans hi hl)) (by decide)
 ·rintro i ys H' hi ⟨rfl,js,rfl,hj,hjs⟩
  have hx:(sl.map ov)[i]? =some (ov sl[i]):=by rw[getElem?_map,List.getElem?_eq_getElem hi];rfl
  refine⟨_,rfl,d,.ref c,rfl,hA.gc,_,rfl,.inl ⟨c,_,(i:Nat),_,rfl,(by rw[Int.zero_add]),SqL.of hA.hc,D3 hx,_,rfl,.inl ⟨?_,_,rfl, ?_⟩⟩⟩
  ·cases sl[i]<;>rfl
  ·by_cases e:sl[i]=some k
   ·refine ifT (decide_eq_true (ov_kv.mpr e)) ⟨_,rfl,rfl,js++ [i], ?_, ?_,λj hj'=> ?_⟩
    ·rw[map_append,Int.zero_add];rfl
    ·rw[length_append];exact succ_le_succ hj
    ·rcases mem_append.mp hj' with h|h
     ·exact hjs j h
     ·rw[sZ h,List.getElem?_eq_getElem hi,e]
   ·exact ifF (λz=>e (ov_kv.mp (of_decide_eq_true z))) ⟨rfl,js,rfl,le_succ_of_le hj,hjs⟩
 rintro ys H' ⟨rfl,js,rfl,hj,hjs⟩
 intro D hD
 have s1:=A7 hD (.lst (js.map λj=>V.int (j:Nat)))
 have hL:upd H' D (.lst (js.map λj=>V.int (j:Nat))) D=some (.lst (js.map λj=>V.int (j:Nat))):=A5
 show O6 _ _ _ [some (.ref d),some (.str k.tx),some (.int cell),some (.ref D)] (upd H' D (.lst (js.map λj=>V.int (j:Nat))))
 generalize upd H' D (.lst (js.map λj=>V.int (j:Nat)))=H1 at s1 hL⊢
 refine⟨fun σ' H2=>σ'=[some (.ref d),some (.str k.tx),some (.int cell),some (.ref D)]/\Same H' H2,⟨_,rfl,_,_,rfl,rfl,(by decide:(0:Int)<3),.inl ⟨rfl,_,rfl, ?_⟩⟩, ?_⟩
 ·by_cases c1:cell%3=1
  ·refine ifT (decide_eq_true (congrArg V.int c1)) ⟨_,rfl,zero_le _,λe he=> ?_⟩
   have s2:=A7 he (.lst [])
   by_cases c2:js=[]
   ·subst c2
    exact .inl ⟨D,e,[],rfl,rfl,SqL.of (s2 _ _ hL),SqL.of A5,rfl,_,rfl,ifF (by decide) ⟨rfl,s1.trans s2⟩⟩
   ·have hpos:0<js.length:=List.length_pos_iff.mpr c2
    refine .inr ⟨D,e,_,_,rfl,rfl,SqL.of (s2 _ _ hL),SqL.of A5,(by rw[length_map];show js.length≠0;omega),_,rfl,ifT rfl ?_⟩
    obtain⟨i,(ei:cell.fdiv 3%(js.length:Nat)=(i:Int)),hi⟩:=X3 (cell.fdiv 3) hpos
    have hx:(js.map λj=>V.int (j:Nat))[i]? =some (.int (js[i]:Nat)):=by rw[getElem?_map,List.getElem?_eq_getElem hi];rfl
    refine⟨_,rfl,_,rfl,_,_,rfl,rfl,lg (by decide) (by decide),_,rfl,_,_,rfl,.inl ⟨_,SqL.of (s2 _ _ hL),rfl⟩,_,_,rfl,rfl,(by rw[length_map];omega),.inl ⟨D,_,(i:Int),_,rfl,(by rw[length_map];exact congrArg V.int ei),SqL.of (s2 _ _ hL),D3 hx,z2,λp hp=> ?_⟩⟩
    have s3:=A7 hp (.tup [.str "load",.int (js[i]:Nat)])
    exact q (.own (.load js[i])) p _ (s1.trans (s2.trans s3)) A5 λhs=>CU (hjs _ (getElem_mem hi))
  ·exact ifF (λz=>c1 (by have:=of_decide_eq_true z;injection this)) (ifF (by decide) ⟨rfl,s1⟩)
 clear s1 hL H1
 rintro _ H2 ⟨rfl,s2⟩
 refine⟨_,rfl,z3,λt3 h3=> ?_⟩
 have s3:=A7 h3 (.tup [.str "l",.str "L",.str "F"])
 refine .inr (.inl ⟨t3,_,rfl,.inr (SqT.of A5),rfl,rfl,_,rfl, ?_⟩)
 by_cases c1:k=.l\/k=.L\/k=.F
 ·have hp:∃p,Prt p k:=by rcases c1 with rfl|rfl|rfl<;>exact⟨_,by constructor⟩
  obtain⟨p',hp'⟩:=hp
  refine ifT ?_ ⟨z1,λp hp=> ?_⟩
  ·rcases c1 with rfl|rfl|rfl<;>decide +kernel
  ·have s4:=A7 hp (.tup [.str "none"])
   exact q (.own .non) p _ (s2.trans (s3.trans s4)) A5 λhs=>WR hp'
 ·have hk2:k=.n\/k=.t:=by
   rcases hk with h|h|h|h|h
   ·exact .inl h
   ·exact .inr h
   ·exact absurd (.inl h) c1
   ·exact absurd (.inr (.inl h)) c1
   ·exact absurd (.inr (.inr h)) c1
  refine ifF ?_ ⟨_,rfl,.inl ⟨rfl,_,rfl, ?_⟩⟩
  ·rcases hk2 with rfl|rfl<;>decide +kernel
  rcases hk2 with rfl|rfl
  ·refine ifF (by decide +kernel) ⟨_,rfl,_,_,rfl,rfl,lg (by decide) (by decide),_,rfl,λm hm=>⟨z2,λp hp=> ?_⟩⟩
   have s4:=A7 hp (.tup [.str "push",.int m])
   exact q (.own (.push (.int m))) p _ (s2.trans (s3.trans s4)) A5 λhs=>QC hm
  ·refine ifT (by decide +kernel) ⟨_,rfl,_,_,rfl,rfl,lg (by decide) (by decide),_,_,rfl,rfl,(by decide:(0:Int)<2),.inl ⟨rfl,z2,λp hp=> ?_⟩⟩
   have s4:=A7 hp (.tup [.str "push",.bl (decide (V.int (cell.fdiv 3%2)=V.int 1))])
   exact q (.own (.push (.bl _))) p _ (s2.trans (s3.trans s4)) A5 λhs=>cdZ
end
noncomputable abbrev s_law_want:Stmt:=CL.top 46
noncomputable abbrev RD:List Str:=["_law_state","_law_kinds","_law_cell","_law_have","_law_k"]
theorem sc_law_want:FnScope RD RG (B4 s_law_want):=fS
noncomputable def To_(rows:List Rw)(st:List Kd)(sl:List (Option Kd))(rows':List Rw)(st':List Kd):Prop:=∀(hs:Hs) (ps:List Kd) (tys:List At),GOk hs ps rows st sl tys->∃tys',GOk hs ps rows' st' sl tys'
noncomputable def wts(rows:List Rw):Nat:=(rows.map wt).sum
theorem K8(a b:List Rw):wts (a++b)=wts a+wts b:=by unfold wts;rw[map_append,sum_append]
theorem Y9(as:List Kd):as.map kv=(as.map Kd.tx).map V.str:=by rw[map_map];rfl
theorem aqZ{as bs:List Kd}(h:as.map Kd.tx=bs.map Kd.tx):as=bs:=aAZ (by rw[Y9,Y9,h])
section
variable{P:Program}{w:World}{K:FZ}{mg:Str->Option Value}{base:Heap}{f S0:Addr}{fd S5:FuncData}
inductive spWantW(vs:List V)(H:Hp)(Q:VK):Prop
 |mk:∀(H0:Hp) (d lk:Addr) (ks:List Kd) (cell:Int) (rows:List Rw) (st:List Kd) (sl:List (Option Kd)),(vs=[.ref d,.ref lk,.int cell])->((∀k∈ks,Bas k))->(H0 lk=some (.lst (ks.map kv)))->(StA H0 H d rows st sl)->(sl.length<=20)->(ks.length<=10)->(st.length<=1000)->(rows.length<=1000)->(∀rows' st' H',StA H0 H' d rows' st' sl->To_ rows st sl rows' (st'++ks)->rows'.length<=rows.length+ks.length->wts rows'=wts rows->st'.length<=st.length->(∀k∈st',k∈st)->Q .non H')->spWantW vs H Q
noncomputable def DE:Sp:=λvs H Q _=>spWantW vs H Q
theorem ok_law_want(F:Fun K "_law_want" "_law_want" s_law_want f fd)(B:BV.NoG mg)
  (G7:Cn P w K mg base CX0 2 "_law_push" ZD LE):
  FnOk P w K mg base CX0 3 f fd RG DE:=by
 obtain⟨S0,S5,G7,P8,P6,P7⟩:=G7
 refine F.ok sc_law_want (λvs H Q E h=> ?_) (λcdv A outer s H vs Q E hr h=> ?_)
 ·obtain⟨H0,d,lk,ks,cell,rows,st,sl,rfl,_⟩:=h
  rfl
 obtain⟨H0,d,lk,ks,cell,rows,st,sl,rfl,hks,hlk,⟨a,b,c,rs,hA⟩,hl,hkl,hsl,hrl,q⟩:=h
 have nd:=sc_law_want.nd
 have hu:=hr.units0
 refine⟨_,(A8 (C7 (i:=3) nd rfl (Or.inl rfl) (G4 (AG (K:=K)) (C9 (lt_of_le_of_lt (add_le_add_left (by decide:1<=64) _) hr.units) (pv 0) B1 (λ_ _=>rfl)) (G6 (C4 (dAZ (K:=K) rfl) rfl B.max_ b1Z (A0 A9 (A0 (B7 P1 (C4 (J8 (K:=K)) rfl B.len_ G1 (A0 (C9 (lt_of_le_of_lt (add_le_add_left (by decide:1<=64) _) hr.units) (pv 0) B1 (λ_ _=>rfl)) A6)) (C4 (J8 (K:=K)) rfl B.len_ G1 (A0 (pv 1) A6))) A6)))) M4))
   (B0 (E1 (D8 (B9 (bCZ (K:=K) hu) (pv 3) (pv 1) rfl) (B0 (E1 (T3 PassesOwn.never rfl (M2 rfl B.range_ (A0 (C4 (J8 (K:=K)) rfl B.len_ G1 (A0 (pv 1) A6)) A6)) (J3 (i:=4) nd rfl (Or.inl rfl)) (B0 (C3 (M1 (K:=K) PySem.F.plainAttrs_list PySem.F.slot_list_append PySem.F.type_list_append C8 (C9 (lt_of_le_of_lt (add_le_add_left (by decide:1<=64) _) hr.units) (pv 0) B1 (λ_ _=>rfl)) (A0 (B6 G7 (hr.mono (by omega)) rfl P7 P6 P8 .nil C0 (A0 (pv 0) (A0 (ixE K w (pv 1) (pv 4)) (A0 (B7 D5 (pv 2) (B7 aJZ A9 (B7 KS A9 (pv 4)))) A6)))) A6))))))) (B0 (Q3 (G4 (AG (K:=K)) (C9 (lt_of_le_of_lt (add_le_add_left (by decide:1<=64) _) hr.units) (pv 0) B1 (λ_ _=>rfl)) M4 (G6 (B7 P1 (C4 (J8 (K:=K)) rfl B.len_ G1 (A0 (C9 (lt_of_le_of_lt (add_le_add_left (by decide:1<=64) _) hr.units) (pv 0) B1 (λ_ _=>rfl)) A6)) (C4 (J8 (K:=K)) rfl B.len_ G1 (A0 (pv 1) A6))))) (U3 (pv 0) B1 (FG hr.units)))))))), ?_⟩
 have hk:=hA.sm _ _ hlk
 have lst:(st.map kv).length=st.length:=length_map ..
 have lks:(ks.map kv).length=ks.length:=length_map ..
 refine⟨_,rfl,d,.ref b,rfl,hA.gb,_,rfl,d,.ref b,rfl,hA.gb,_,_,rfl,.inl ⟨_,SqL.of hA.hb,rfl⟩,_,rfl,_,_,rfl,.inl ⟨_,SqL.of hk,rfl⟩,_,_,rfl,rfl,.inl ⟨_,_,rfl,_,rfl,.inl (.inl ⟨b,_,rfl,SqL.of hA.hb,λp hp=> ?_⟩)⟩⟩
 have ecut:J9 (st.map kv) (some (if((st.map kv).length:Int) - ((ks.map kv).length:Nat)>0 then((st.map kv).length:Int) - ((ks.map kv).length:Nat)else 0)) none=(st.drop (st.length - ks.length)).map kv:=by
  have ei:(if((st.map kv).length:Int) - ((ks.map kv).length:Nat)>0 then((st.map kv).length:Int) - ((ks.map kv).length:Nat)else 0)=((st.length - ks.length:Nat):Int):=by
   rw[lst,lks];split<;>omega
  rw[ei]
  unfold J9
  rw[HT.sIx_nat,HT.sIx_none,lst,min_eq_left (Nat.sub_le _ _),map_drop,take_of_length_le]
  rw[length_drop,lst]
  exact le_refl _
 have s1:=A7 hp (.lst ((st.drop (st.length - ks.length)).map kv))
 rw[ecut]
 have hH:upd H p (.lst ((st.drop (st.length - ks.length)).map kv)) p=some (.lst ((st.drop (st.length - ks.length)).map kv)):=A5
 generalize upd H p (.lst ((st.drop (st.length - ks.length)).map kv))=H1 at s1 hH⊢
 have hA1:=hA.same s1
 have hk1:=s1 _ _ hk
 refine⟨fun σ' H'=>∃rows' st',StA H0 H' d rows' st' sl/\To_ rows st sl rows' (st'++ks)/\rows'.length<=rows.length+ks.length/\wts rows'=wts rows/\st'.length<=st.length/\∀k∈st',k∈st, ?_,fun σ' H' ⟨rows',st',h1,h2,h3,h4,h5,h6⟩=>q rows' st' H' h1 h2 h3 h4 h5 h6⟩
 refine⟨_,rfl,_,rfl,p,lk,_,_,rfl,rfl,SqL.of hH,SqL.of hk1,(by rw[Y9];exact HZ),(by rw[Y9];exact HZ),_,rfl, ?_⟩
 by_cases e:st.drop (st.length - ks.length)=ks
 ·refine ifF ?_ ?_
  ·rw[Y9,Y9,FC,e,decide_eq_true rfl];decide
  have hle:ks.length<=st.length:=by
   have:=congrArg List.length e
   rw[length_drop]at this
   omega
  have ecut2:J9 (st.map kv) none (some (((st.map kv).length:Int) - ((ks.map kv).length:Nat)))=(st.take (st.length - ks.length)).map kv:=by
   have ei:((st.map kv).length:Int) - ((ks.map kv).length:Nat)=((st.length - ks.length:Nat):Int):=by
    rw[lst,lks];omega
   rw[ei]
   unfold J9
   rw[HT.sIx_nat,HT.sIx_none,lst,min_eq_left (Nat.sub_le _ _),List.drop_zero,sub_zero,List.map_take]
  refine⟨_,rfl,d,.ref b,rfl,hA1.gb,_,rfl,d,.ref b,rfl,hA1.gb,_,_,rfl,.inl ⟨_,SqL.of hA1.hb,rfl⟩,_,rfl,_,_,rfl,.inl ⟨_,SqL.of hk1,rfl⟩,_,_,rfl,rfl,_,rfl,.inl (.inl ⟨b,_,rfl,SqL.of hA1.hb,λb' hb'=> ?_⟩)⟩
  rw[ecut2]
  have s2:=A7 hb' (.lst ((st.take (st.length - ks.length)).map kv))
  refine⟨_,rfl,d,_,rfl,DPut.k (k:=.inr "stack") (s2 _ _ hA1.hd) (show 3<sizeLine by decide),rows,st.take (st.length - ks.length),⟨a,b',c,rs,hA1.put hb'⟩,λhs ps tys hg=>⟨tys, ?_⟩,le_add_right _ _,rfl,by rw[length_take];omega,λk hk=>List.mem_of_mem_take hk⟩
  have es:st.take (st.length - ks.length)++ks=st:=by
   conv=>lhs;rhs;rw[<-e]
   exact take_append_drop _ _
  rw[es]
  exact hg
 ·refine ifT ?_ ?_
  ·rw[Y9,Y9,FC,decide_eq_false λz=>e (aqZ z)];rfl
  refine⟨fun σ' H'=>∃rows' st',StA H0 H' d rows' st' sl/\To_ rows st sl rows' (st'++ks)/\rows'.length<=rows.length+ks.length/\wts rows'=wts rows/\st'.length<=st.length/\∀k∈st',k∈st, ?_,λ_ _ h=>h⟩
  refine⟨_,rfl,_,_,rfl,.inl ⟨_,SqL.of hk1,rfl⟩,(ks.length:Nat),(by rw[lks]),by omega,by omega,AD (n:=ks.length) (λi σ H'=>∃x4 rows',σ=[some (.ref d),some (.ref lk),some (.int cell),some (.ref p),x4]/\StA H0 H' d rows' st sl/\To_ rows st sl rows' (st++ks.take i)/\rows'.length=rows.length+i/\wts rows'=wts rows) ?_ ?_ ?_⟩
  ·exact⟨none,rows,rfl,⟨a,b,c,rs,hA1⟩,λhs ps tys hg=>⟨tys,by rw[List.take_zero,append_nil];exact hg⟩,rfl,rfl⟩
  ·rintro i σ H' hi ⟨x4,rows',rfl,⟨a',b',c',rs',hA'⟩,hT,hlr,hw⟩
   have hx:(ks.map kv)[i]? =some (kv ks[i]):=by rw[getElem?_map,List.getElem?_eq_getElem hi];rfl
   have hk':=hA'.sm _ _ hlk
   have hrs:=hA'.hr.len
   refine⟨_,rfl,d,.ref a',rfl,hA'.gr,.inl ⟨rfl,_,SqL.of hA'.ha⟩,_,rfl,_,rfl,_,rfl,.inl ⟨lk,_,(i:Nat),_,rfl,(by rw[Int.zero_add]),SqL.of hk',D3 hx,_,rfl,_,rfl,.inl ⟨_,_,rfl,rfl,.inl ⟨by decide,by decide⟩,.inl ⟨_,_,rfl,rfl,_,_,rfl,rfl,lg (by omega) (by omega),H0,d,ks[i],_,rows',st,sl,rfl,hks _ (getElem_mem hi),⟨a',b',c',rs',hA'⟩,hl,λr p2 H2 s2 hp2 hK=> ?_⟩⟩⟩⟩
   have hA2:=hA'.same s2
   refine⟨a',rs',.ref p2,rfl,rfl,hA2.ha,(by rw[<-hrs,hlr];exact lt_of_le_of_lt (Nat.add_le_add hrl (le_trans (le_of_lt hi) hkl)) (by decide)), ?_⟩
   refine⟨_,rows'++ [r],rfl,⟨a',b',c',_,hA2.row ⟨p2,rfl,hp2⟩⟩,λhs ps tys hg=> ?_,by rw[length_append,hlr];rfl, ?_⟩
   ·obtain⟨tys',hg'⟩:=hT hs ps tys hg
    have:=hg'.push (hK hs)
    have et:ks.take i++ [ks[i]]=ks.take (i+1):=by rw[take_succ,List.getElem?_eq_getElem hi];rfl
    rw[List.append_assoc,et]at this
    exact⟨_,this⟩
   ·have h1:=(hK []).1
    have h2:wts [r]=0:=by show wt r+0=0;rw[h1]
    rw[K8,hw,h2,Nat.add_zero]
  ·rintro σ H' ⟨x4,rows',rfl,h1,h2,h3,h4⟩
   refine⟨rows',st,h1, ?_,by omega,h4,le_refl _,λ_ h=>h⟩
   rw[take_length]at h2
   exact h2
variable{H0 H:Hp}{d a b c:Addr}{rs:List V}{rows:List Rw}{st:List Kd}{sl:List (Option Kd)}{i:Nat}{t:TA}{σ:St}{Q:VK}
theorem dgr(h0:σ[i]? =some (some (.ref d)))(h:SA H0 H d a b c rs rows st sl)(k:t σ H λxs H2=>rAppend (.ref a) xs H2 Q):tBM K "list" rAppend (YC (tVar i) (tC (.str "rows"))) t σ H Q:=
 ⟨_,h0,d,.ref a,rfl,h.gr,.inl ⟨rfl,_,SqL.of h.ha⟩,k⟩
theorem dgb(h0:σ[i]? =some (some (.ref d)))(h:SA H0 H d a b c rs rows st sl)(k:t σ H λxs H2=>rAppend (.ref b) xs H2 Q):tBM K "list" rAppend (YC (tVar i) (tC (.str "stack"))) t σ H Q:=
 ⟨_,h0,d,.ref b,rfl,h.gb,.inl ⟨rfl,_,SqL.of h.hb⟩,k⟩
end
noncomputable abbrev s_law_reckon:Stmt:=CL.top 47
noncomputable abbrev LI:List Str:=["_law_state","_law_more"]
theorem sc_law_reckon:FnScope LI EG (B4 s_law_reckon):=fS
noncomputable abbrev s_law_branch:Stmt:=CL.top 49
noncomputable abbrev KZ:List Str:=["_law_state","_law_more","_law_kind"]
theorem sc_law_branch:FnScope KZ EG (B4 s_law_branch):=fS
section
variable{H0 H H':Hp}{d a b c x:Addr}{o:HO}{rs:List V}{rows:List Rw}{st st':List Kd}{sl sl':List (Option Kd)}
theorem SA.base(h:SA H0 H d a b c rs rows st sl)(hx:H x=none)(o:HO):SA (upd H0 x o) (upd H x o) d a b c rs rows st sl:=by
 have h':=h.same (A7 hx o)
 have ne:∀ {y:Addr} {ob:HO},H y=some ob->y≠x:=λ{y ob} e z=>by rw[z,hx]at e;cases e
 refine⟨λy ob e=> ?_,h'.hd,h'.ha,h'.hr,h'.hb,h'.hc,by rw[B5 (ne h.hd)];exact h.nd,by rw[B5 (ne h.ha)];exact h.na,by rw[B5 (ne h.hb)];exact h.nb,by rw[B5 (ne h.hc)];exact h.nc,h.ab,h.ac,h.bc⟩
 by_cases z:y=x
 ·subst z
  rw[A5]at e⊢
  exact e
 ·rw[B5 z]at e⊢
  exact h.sm _ _ e
theorem SA.unbase(h:SA (upd H0 x o) H' d a b c rs rows st sl)(hx:H0 x=none):SA H0 H' d a b c rs rows st sl:=by
 have nn:∀ {y:Addr},upd H0 x o y=none->H0 y=none:=λ{y} e=>by
  by_cases z:y=x
  ·rw[z];exact hx
  ·rw[B5 z]at e;exact e
 exact⟨λy ob e=>h.sm _ _ (by rw[B5 λz=>by rw[z,hx]at e;cases e];exact e),h.hd,h.ha,h.hr,h.hb,h.hc,nn h.nd,nn h.na,nn h.nb,nn h.nc,h.ab,h.ac,h.bc⟩
theorem SA.n0(h:SA H0 H d a b c rs rows st sl)(hx:H x=none):H0 x=none:=by
 cases e:H0 x with
 |none=>rfl
 |some ob=>rw[h.sm _ _ e]at hx;cases hx
end
theorem v_n:V.str "n"=kv .n:=congrArg V.str elZ
theorem v_t:V.str "t"=kv .t:=congrArg V.str etZ
theorem v_l:V.str "l"=kv .l:=congrArg V.str efZ
theorem v_L:V.str "L"=kv .L:=congrArg V.str ehZ
theorem v_F:V.str "F"=kv .F:=congrArg V.str evZ
theorem v_fn:V.str "fn"=kv (.fn .n):=congrArg V.str d9Z
noncomputable def Gd(k:Kd):Prop:=Bas k\/∃k',k=.fn k'/\Bas k'
noncomputable def GdS(st:List Kd)(sl:List (Option Kd)):Prop:=(∀k∈st,Gd k)/\∀k,some k∈sl->Gd k
theorem N8{st st':List Kd}{sl:List (Option Kd)}{k:Kd}(h:GdS st sl)(hs:∀k∈st',k∈st)(hk:Gd k):GdS (st'++ [k]) sl:=
 ⟨λx hx=>by
  rcases mem_append.mp hx with hx|hx
  ·exact h.1 x (hs x hx)
  ·rw[sZ hx];exact hk,h.2⟩
structure Pc (hs:Hs) (rows:List Rw) (st:List Kd) (sl:List (Option Kd)) (rows':List Rw) (st':List Kd) (sl':List (Option Kd)):Prop where
 go:∀(ps:List Kd) (tys:List At),GOk hs ps rows st sl tys->∃tys',GOk hs ps rows' st' sl' tys'
 len:rows'.length<=rows.length+6
 wts:wts rows'<=wts rows+1
 stl:st'.length<=st.length+1
 sll:sl'.length=sl.length
 gd:GdS st sl->GdS st' sl'
section
variable{P:Program}{w:World}{K:FZ}{mg:Str->Option Value}{base:Heap}{f S0 M8:Addr}{fd S5 M7:FuncData}
inductive spPcW(vs:List V)(H:Hp)(Q:VK):Prop
 |mk:∀(H0:Hp) (d:Addr) (more:Int) (rows:List Rw) (st:List Kd) (sl:List (Option Kd)),(vs=[.ref d,.int more])->(StA H0 H d rows st sl)->(3<=sl.length)->(sl.length<=20)->(st.length<=900)->(rows.length<=900)->(GdS st sl)->(∀rows' st' sl' H',StA H0 H' d rows' st' sl'->(∀hs,Pc hs rows st sl rows' st' sl')->Q .non H')->spPcW vs H Q
noncomputable def OG:Sp:=λvs H Q _=>spPcW vs H Q
noncomputable def twk:Nat->Nat
 |0=>0|1=>1|2=>2|3=>5|4=>3|_=>4
theorem bUZ{j:Nat}(h:j<6): [V.str "add",V.str "sub",V.str "mul",V.str "div",V.str "less",V.str "same"][j]? =some (.str (wd (twk j)))/\∃c,("nnnntt":Str).cps.toList[j]? =some c/\V.str ⟨#[c]⟩=kv (if twk j=3\/twk j=4 then .t else .n)/\twk j<6:=by
 have e:("nnnntt":Str).cps.toList=[110,110,110,110,116,116]:=by decide +kernel
 rw[e]
 match j,h with
 |0,_=>exact⟨rfl,_,rfl,rfl,by decide⟩
 |1,_=>exact⟨rfl,_,rfl,rfl,by decide⟩
 |2,_=>exact⟨rfl,_,rfl,rfl,by decide⟩
 |3,_=>exact⟨rfl,_,rfl,rfl,by decide⟩
 |4,_=>exact⟨rfl,_,rfl,rfl,by decide⟩
 |5,_=>exact⟨rfl,_,rfl,rfl,by decide⟩
theorem ok_law_reckon(F:Fun K "_law_reckon" "_law_reckon" s_law_reckon f fd)
  (D6:Cn P w K mg base CX0 3 "_law_want" RG DE):
  FnOk P w K mg base CX0 4 f fd EG OG:=by
 obtain⟨M8,M7,D6,K2,K1,K0⟩:=D6
 refine F.ok sc_law_reckon (λvs H Q E h=> ?_) (λcdv A outer s H vs Q E hr h=> ?_)
 ·obtain⟨H0,d,more,rows,st,sl,rfl,_⟩:=h
  rfl
 obtain⟨H0,d,more,rows,st,sl,rfl,⟨a,b,c,rs,hA⟩,hl3,hl,hsl,hrl,hgs,q⟩:=h
 have nd:=sc_law_reckon.nd
 have hu:=hr.units0
 refine⟨_,(A8 (C3 (B6 D6 (hr.mono (by omega)) rfl K0 K1 K2 .nil C0 (A0 (pv 0) (A0 (E6 (A0 B1 (A0 B1 A6))) (A0 (B7 D5 (pv 1) A9) A6)))))
   (A8 (C3 (M1 (K:=K) PySem.F.plainAttrs_list PySem.F.slot_list_append PySem.F.type_list_append C8 (C9 (lt_of_le_of_lt (add_le_add_left (by decide:1<=64) _) hr.units) (pv 0) B1 (λ_ _=>rfl)) (A0 (C1 (A0 (ixE K w (E6 (A0 B1 (A0 B1 (A0 B1 (A0 B1 (A0 B1 (A0 B1 A6))))))) (B7 E4 (pv 1) A9)) A6)) A6)))
   (B0 (C3 (M1 (K:=K) PySem.F.plainAttrs_list PySem.F.slot_list_append PySem.F.type_list_append C8 (C9 (lt_of_le_of_lt (add_le_add_left (by decide:1<=64) _) hr.units) (pv 0) B1 (λ_ _=>rfl)) (A0 (FW ix_str B1 (B7 E4 (pv 1) A9) (λ_ _=>rfl)) A6)))))), ?_⟩
 obtain⟨j,(ej:more%6=(j:Int)),hj⟩:=X3 more (m:=6) (by decide)
 obtain⟨t1,cc,t2,t3,t4⟩:=bUZ hj
 refine⟨_,rfl,z2,λl hl'=>⟨_,rfl,_,_,rfl,rfl,lg (by decide) (by decide),upd H0 l (.lst [.str "n",.str "n"]),d,l,[.n,.n],_,rows,st,sl,rfl, ?_, ?_,⟨a,b,c,rs,hA.base hl' _⟩,hl,by decide,le_trans hsl (by decide),le_trans hrl (by decide),λrows' st' H2 hS hT hlr hw hst hsub=> ?_⟩⟩
 ·intro k hk
  simp only[mem_cons,not_mem_nil,or_false,or_self]at hk
  exact .inl hk
 ·rw[A5,v_n];rfl
 obtain⟨a',b',c',rs',hA'⟩:=hS
 replace hA':=hA'.unbase (hA.n0 hl')
 have hrs:=hA'.hr.len
 simp only[length_cons,length_nil]at hlr
 refine(dgr rfl hA' (⟨z6,λl6 h6=>⟨_,rfl,_,_,rfl,rfl,(by decide:(0:Int)<6),.inl ⟨l6,_,(j:Int),_,rfl,congrArg V.int ej,SqL.of A5,D3 t1,z1,λp hp=> ?_⟩⟩⟩))
 have s3:=A7 h6 (.lst [.str "add",.str "sub",.str "mul",.str "div",.str "less",.str "same"])
 have s4:=A7 hp (.tup [.str (wd (twk j))])
 have hA2:=hA'.same (s3.trans s4)
 refine⟨a',rs',.ref p,rfl,rfl,hA2.ha,(by rw[<-hrs];exact lt_of_le_of_lt (le_trans hlr (Nat.add_le_add_right hrl 2)) (by decide)), ?_⟩
 have hA3:=hA2.row (r:=.own (.two (twk j))) ⟨p,rfl,A5⟩
 refine(dgb rfl hA3 (⟨_,rfl,_,_,rfl,rfl,(by decide:(0:Int)<6),_,(j:Int),cc,rfl,congrArg V.int ej,by decide +kernel,D3 t2, ?_⟩))
 refine⟨b',_,_,rfl,rfl,hA3.hb,(by rw[length_map];exact lt_of_le_of_lt (le_trans hst hsl) (by decide)), ?_⟩
 rw[t3]
 have hA4:=hA3.stk (st':=st'++ [if twk j=3\/twk j=4 then .t else .n])
 rw[map_append]at hA4
 refine q _ _ sl _ ⟨a',b',c',_,hA4⟩ λhs=>⟨λps tys hg=> ?_, ?_, ?_, ?_,rfl,λh=>N8 h hsub (by split;exact .inl (.inr (.inl rfl));exact .inl (.inl rfl))⟩
 ·obtain⟨tys',hg'⟩:=hT hs ps tys hg
  exact⟨_,hg'.one (λtold ty i e=> .two t4 e) (by simp only[length_append,length_cons,length_nil];omega) rfl⟩
 ·rw[length_append];exact le_trans (succ_le_succ hlr) (add_le_add_left (by decide:3<=6) _)
 ·rw[K8,hw];exact le_add_right _ _
 ·rw[length_append];exact succ_le_succ hst
theorem dmZ{j:Nat}(h:j<4):∃c k,("nlLt":Str).cps.toList[j]? =some c/\V.str ⟨#[c]⟩=kv k/\Bas k:=by
 have e:("nlLt":Str).cps.toList=[110,108,76,116]:=by decide +kernel
 rw[e]
 match j,h with
 |0,_=>exact⟨_,.n,rfl,rfl,.inl rfl⟩
 |1,_=>exact⟨_,.l,rfl,rfl,.inr (.inr (.inl rfl))⟩
 |2,_=>exact⟨_,.L,rfl,rfl,.inr (.inr (.inr (.inl rfl)))⟩
 |3,_=>exact⟨_,.t,rfl,rfl,.inr (.inl rfl)⟩
theorem ok_law_branch(F:Fun K "_law_branch" "_law_branch" s_law_branch f fd)
  (G7:Cn P w K mg base CX0 2 "_law_push" ZD LE)
  (D6:Cn P w K mg base CX0 3 "_law_want" RG DE):
  FnOk P w K mg base CX0 4 f fd EG OG:=by
 obtain⟨S0,S5,G7,P8,P6,P7⟩:=G7
 obtain⟨M8,M7,D6,K2,K1,K0⟩:=D6
 refine F.ok sc_law_branch (λvs H Q E h=> ?_) (λcdv A outer s H vs Q E hr h=> ?_)
 ·obtain⟨H0,d,more,rows,st,sl,rfl,_⟩:=h
  rfl
 obtain⟨H0,d,more,rows,st,sl,rfl,⟨a,b,c,rs,hA⟩,hl3,hl,hsl,hrl,hgs,q⟩:=h
 have nd:=sc_law_branch.nd
 have hu:=hr.units0
 refine⟨_,(A8 (C7 (i:=2) nd rfl (Or.inl rfl) (FW ix_str B1 (B7 E4 (pv 1) A9) (λ_ _=>rfl)))
   (A8 (C3 (B6 D6 (hr.mono (by omega)) rfl K0 K1 K2 .nil C0 (A0 (pv 0) (A0 (E6 (A0 B1 A6)) (A0 (B7 D5 (pv 1) A9) A6)))))
   (A8 (E1 (D8 (B9 (kEq (K:=K) hu) (B7 E4 (B7 D5 (pv 1) A9) A9) A9 rfl) (B0 (C3 (M1 (K:=K) PySem.F.plainAttrs_list PySem.F.slot_list_append PySem.F.type_list_append C8 (C9 (lt_of_le_of_lt (add_le_add_left (by decide:1<=64) _) hr.units) (pv 0) B1 (λ_ _=>rfl)) (A0 (C1 (A0 B1 A6)) A6)))) D2))
   (A8 (C3 (M1 (K:=K) PySem.F.plainAttrs_list PySem.F.slot_list_append PySem.F.type_list_append C8 (C9 (lt_of_le_of_lt (add_le_add_left (by decide:1<=64) _) hr.units) (pv 0) B1 (λ_ _=>rfl)) (A0 (C1 (A0 B1 (A0 A9 A6))) A6)))
   (A8 (C3 (M1 (K:=K) PySem.F.plainAttrs_list PySem.F.slot_list_append PySem.F.type_list_append C8 (C9 (lt_of_le_of_lt (add_le_add_left (by decide:1<=64) _) hr.units) (pv 0) B1 (λ_ _=>rfl)) (A0 (B6 G7 (hr.mono (by omega)) rfl P7 P6 P8 .nil C0 (A0 (pv 0) (A0 (pv 2) (A0 (B7 D5 (pv 1) A9) A6)))) A6)))
   (A8 (C3 (M1 (K:=K) PySem.F.plainAttrs_list PySem.F.slot_list_append PySem.F.type_list_append C8 (C9 (lt_of_le_of_lt (add_le_add_left (by decide:1<=64) _) hr.units) (pv 0) B1 (λ_ _=>rfl)) (A0 (C1 (A0 B1 (A0 A9 A6))) A6)))
   (A8 (C3 (M1 (K:=K) PySem.F.plainAttrs_list PySem.F.slot_list_append PySem.F.type_list_append C8 (C9 (lt_of_le_of_lt (add_le_add_left (by decide:1<=64) _) hr.units) (pv 0) B1 (λ_ _=>rfl)) (A0 (B6 G7 (hr.mono (by omega)) rfl P7 P6 P8 .nil C0 (A0 (pv 0) (A0 (pv 2) (A0 (B7 D5 (pv 1) A9) A6)))) A6)))
   (B0 (C3 (M1 (K:=K) PySem.F.plainAttrs_list PySem.F.slot_list_append PySem.F.type_list_append C8 (C9 (lt_of_le_of_lt (add_le_add_left (by decide:1<=64) _) hr.units) (pv 0) B1 (λ_ _=>rfl)) (A0 (pv 2) A6))))))))))), ?_⟩
 obtain⟨j,(ej:more%4=(j:Int)),hj⟩:=X3 more (m:=4) (by decide)
 obtain⟨cc,k,t2,t3,hk⟩:=dmZ hj
 refine⟨_,rfl,_,_,rfl,rfl,(by decide:(0:Int)<4),_,(j:Int),cc,rfl,congrArg V.int ej,by decide +kernel,D3 t2, ?_⟩
 show O6 _ _ _ [some (.ref d),some (.int more),some (.str ⟨#[cc]⟩)] H
 rw[t3]
 refine⟨_,rfl,z1,λl hl'=>⟨_,rfl,_,_,rfl,rfl,lg (by decide) (by decide),upd H0 l (.lst [.str "t"]),d,l,[.t],_,rows,st,sl,rfl, ?_, ?_,⟨a,b,c,rs,hA.base hl' _⟩,hl,by decide,le_trans hsl (by decide),le_trans hrl (by decide),λrows' st' H2 hS hT hlr hw hst hsub=> ?_⟩⟩
 ·intro k hk
  exact .inr (.inl (sZ hk))
 ·rw[A5,v_t];rfl
 obtain⟨a1,b1,c1,rs1,hA1⟩:=hS
 replace hA1:=hA1.unbase (hA.n0 hl')
 simp only[length_singleton]at hlr
 have big:∀n,n<=910->n<sizeLine:=λn h=>lt_of_le_of_lt h (by decide)
 refine⟨fun σ' H'=>σ'=[some (.ref d),some (.int more),some (kv k)]/\∃rows2,StA H0 H' d rows2 st' sl/\To_ rows st sl rows2 (st'++ [.t])/\rows2.length<=rows.length+2/\wts rows2=wts rows, ?_, ?_⟩
 ·refine⟨_,rfl,_,_,rfl,rfl,lg (by decide) (by decide),_,_,rfl,rfl,(by decide:(0:Int)<3),.inl ⟨rfl,_,rfl, ?_⟩⟩
  by_cases c1':more.fdiv 8%3=1
  ·refine ifT (decide_eq_true (congrArg V.int c1')) (dgr rfl hA1 (⟨z1,λp hp=> ?_⟩))
   have s3:=A7 hp (.tup [.str "not"])
   have hA2:=hA1.same s3
   refine⟨a1,rs1,.ref p,rfl,rfl,hA2.ha,big _ (by rw[<-hA1.hr.len];omega),rfl,rows'++ [.own .not],⟨a1,b1,c1,_,hA2.row (r:=.own .not) ⟨p,rfl,A5⟩⟩,λhs ps tys hg=> ?_,by rw[length_append];simp only[length_singleton];omega,by rw[K8,hw];rfl⟩
   obtain⟨tys',hg'⟩:=hT hs ps tys hg
   exact⟨_,hg'.one (λtold ty i e=> .not e) (le_succ _) rfl⟩
  ·exact ifF (λz=>c1' (by have:=of_decide_eq_true z;injection this)) ⟨rfl,rows',⟨a1,b1,c1,rs1,hA1⟩,hT,by omega,hw⟩
 clear hA1 hT hlr hw
 rintro _ H3 ⟨rfl,rows2,⟨a1,b1,c1,rs1,hA1⟩,hT,hlr,hw⟩
 refine(dgr rfl hA1 (⟨z2,λp hp=> ?_⟩))
 have hA2:=(hA1.same (A7 hp (.tup [.str "unless",.int 2]))).row (r:=.own (.unless 2)) ⟨p,rfl,A5⟩
 refine⟨a1,rs1,.ref p,rfl,rfl,(A7 hp _) _ _ hA1.ha,big _ (by rw[<-hA1.hr.len];omega), ?_⟩
 generalize upd (upd H3 p (.tup [.str "unless",.int 2])) a1 (.lst (rs1++ [.ref p]))=H4 at hA2⊢
 refine(dgr rfl hA2 (⟨_,rfl,_,rfl,_,rfl,_,_,rfl,rfl,lg (by decide) (by decide),H0,d,k,_,_,st',sl,rfl,hk,⟨a1,b1,c1,_,hA2⟩,hl,λr1 p1 H5 s5 hp1 hK1=> ?_⟩))
 have hA3:=(hA2.same s5).row (r:=r1) ⟨p1,rfl,hp1⟩
 refine⟨a1,_,.ref p1,rfl,rfl,(hA2.same s5).ha,big _ (by rw[<-hA2.hr.len,length_append];simp only[length_singleton];omega), ?_⟩
 generalize upd H5 a1 (.lst (rs1++ [.ref p]++ [.ref p1]))=H6 at hA3⊢
 refine(dgr rfl hA3 (⟨z2,λp2 hp2=> ?_⟩))
 have hA4:=(hA3.same (A7 hp2 (.tup [.str "skip",.int 1]))).row (r:=.own (.skip 1)) ⟨p2,rfl,A5⟩
 refine⟨a1,_,.ref p2,rfl,rfl,(A7 hp2 _) _ _ hA3.ha,big _ (by rw[<-hA3.hr.len];simp only[length_append,length_singleton];omega), ?_⟩
 generalize upd (upd H6 p2 (.tup [.str "skip",.int 1])) a1 (.lst (rs1++ [.ref p]++ [.ref p1]++ [.ref p2]))=H7 at hA4⊢
 refine(dgr rfl hA4 (⟨_,rfl,_,rfl,_,rfl,_,_,rfl,rfl,lg (by decide) (by decide),H0,d,k,_,_,st',sl,rfl,hk,⟨a1,b1,c1,_,hA4⟩,hl,λr2 p3 H8 s8 hp3 hK2=> ?_⟩))
 have hA5:=(hA4.same s8).row (r:=r2) ⟨p3,rfl,hp3⟩
 refine⟨a1,_,.ref p3,rfl,rfl,(hA4.same s8).ha,big _ (by rw[<-hA4.hr.len];simp only[length_append,length_singleton];omega), ?_⟩
 generalize upd H8 a1 (.lst (rs1++ [.ref p]++ [.ref p1]++ [.ref p2]++ [.ref p3]))=H9 at hA5⊢
 refine(dgb rfl hA5 (⟨_,rfl,b1,_,_,rfl,rfl,hA5.hb,big _ (by rw[length_map];exact le_trans (le_trans hst hsl) (by decide)), ?_⟩))
 have hA6:=hA5.stk (st':=st'++ [k])
 rw[map_append]at hA6
 have er:rows2++ [.own (.unless 2)]++ [r1]++ [.own (.skip 1)]++ [r2]=rows2++ [.own (.unless 2),r1,.own (.skip 1),r2]:=by simp
 rw[er]at hA6
 refine q _ _ sl _ ⟨a1,b1,c1,_,hA6⟩ λhs=>⟨λps tys hg=> ?_, ?_, ?_, ?_,rfl,λh=>N8 h hsub (.inl hk)⟩
 ·obtain⟨tys',hg'⟩:=hT hs ps tys hg
  exact hg'.branch (hK1 hs) (hK2 hs)
 ·rw[length_append];simp only[length_cons,length_nil];omega
 ·have e1:=(hK1 hs).1
  have e2:=(hK2 hs).1
  have:wts [.own (.unless 2),r1,.own (.skip 1),r2]=0:=by
   show 0+(wt r1+(0+(wt r2+0)))=0
   omega
  rw[K8,hw,this]
  exact le_succ _
 ·rw[length_append];exact succ_le_succ hst
end
noncomputable abbrev s_law_slotted:Stmt:=CL.top 50
noncomputable abbrev AI:List Str:=["_law_state","_law_more","_law_known","_law_slot"]
theorem sc_law_slotted:FnScope AI EG (B4 s_law_slotted):=fS
theorem bAZ(hs:Hs)(rows:List Rw)(st:List Kd)(sl:List (Option Kd)):Pc hs rows st sl rows st sl:=⟨λ_ tys h=>⟨tys,h⟩,le_add_right _ _,le_add_right _ _,le_add_right _ _,rfl,λh=>h⟩
theorem EO{α:Type}{l:List α}(h:l≠ []):∃r x,l=r++ [x]:=⟨_,_,(List.dropLast_concat_getLast h).symm⟩
theorem R4(n:Nat)(h:n<=950):n<sizeLine:=lt_of_le_of_lt h (by decide)
section
variable{P:Program}{w:World}{K:FZ}{mg:Str->Option Value}{base:Heap}{f:Addr}{fd:FuncData}
theorem ok_law_slotted(F:Fun K "_law_slotted" "_law_slotted" s_law_slotted f fd)(B:BV.NoG mg):
  FnOk P w K mg base CX0 1 f fd EG OG:=by
 refine F.ok sc_law_slotted (λvs H Q E h=> ?_) (λcdv A outer s H vs Q E hr h=> ?_)
 ·obtain⟨H0,d,more,rows,st,sl,rfl,_⟩:=h
  rfl
 obtain⟨H0,d,more,rows,st,sl,rfl,⟨a,b,c,rs,hA⟩,hl3,hl,hsl,hrl,hgs,q⟩:=h
 have nd:=sc_law_slotted.nd
 have hu:=hr.units0
 refine⟨_,(A8 (S6 (i:=2) nd rfl rfl (cS (N:=AI) (sc:=B4 s_law_slotted) (caps:=[0]) (ns:=["_law_state"])) rfl rfl rfl (M2 rfl B.range_ (A0 (C4 (J8 (K:=K)) rfl B.len_ G1 (A0 (C9 (lt_of_le_of_lt (add_le_add_left (by decide:1<=64) _) hr.units) (pv 0) B1 (λ_ _=>rfl)) A6)) A6)) (λ_ _ _ _ _=>(SI (B9 SU (ixE K w (C9 (lt_of_le_of_lt (add_le_add_left (by decide:1<=64) _) hr.units) (pv 1) B1 (λ_ _=>rfl)) (pv 0)) Q4 rfl))) (λ_ _ _ _ _=>(pv 0)))
   (B0 (E1 (D8 (PW.pt (ET (B9 (kEq (K:=K) hu) (B7 E4 (pv 1) A9) A9 rfl) (BH (B9 (YN (K:=K) hu) (C9 (lt_of_le_of_lt (add_le_add_left (by decide:1<=64) _) hr.units) (pv 0) B1 (λ_ _=>rfl)) (E6 A6) rfl)))) (A8 (C7 (i:=3) nd rfl (Or.inl rfl) (B7 P1 (B7 P1 (C4 (J8 (K:=K)) rfl B.len_ G1 (A0 (C9 (lt_of_le_of_lt (add_le_add_left (by decide:1<=64) _) hr.units) (pv 0) B1 (λ_ _=>rfl)) A6)) A9) (B7 E4 (B7 D5 (pv 1) A9) A9)))
   (A8 (Q3 (IL (K:=K) PySem.F.plainAttrs_list PySem.F.slot_list_pop PySem.F.type_list_pop DA (C9 (lt_of_le_of_lt (add_le_add_left (by decide:1<=64) _) hr.units) (pv 0) B1 (λ_ _=>rfl))) (U3 (C9 (lt_of_le_of_lt (add_le_add_left (by decide:1<=64) _) hr.units) (pv 0) B1 (λ_ _=>rfl)) (pv 3) T2))
   (B0 (C3 (M1 (K:=K) PySem.F.plainAttrs_list PySem.F.slot_list_append PySem.F.type_list_append C8 (C9 (lt_of_le_of_lt (add_le_add_left (by decide:1<=64) _) hr.units) (pv 0) B1 (λ_ _=>rfl)) (A0 (C1 (A0 B1 (A0 (pv 3) A6))) A6)))))) (B0 (E1 (D8 (B9 (YN (K:=K) hu) (pv 2) (E6 A6) rfl) (A8 (C7 (i:=3) nd rfl (Or.inl rfl) (ixE K w (pv 2) (B7 E4 (B7 D5 (pv 1) A9) (C4 (J8 (K:=K)) rfl B.len_ G1 (A0 (pv 2) A6)))))
   (A8 (C3 (M1 (K:=K) PySem.F.plainAttrs_list PySem.F.slot_list_append PySem.F.type_list_append C8 (C9 (lt_of_le_of_lt (add_le_add_left (by decide:1<=64) _) hr.units) (pv 0) B1 (λ_ _=>rfl)) (A0 (C1 (A0 B1 (A0 (pv 3) A6))) A6)))
   (B0 (C3 (M1 (K:=K) PySem.F.plainAttrs_list PySem.F.slot_list_append PySem.F.type_list_append C8 (C9 (lt_of_le_of_lt (add_le_add_left (by decide:1<=64) _) hr.units) (pv 0) B1 (λ_ _=>rfl)) (A0 (ixE K w (C9 (lt_of_le_of_lt (add_le_add_left (by decide:1<=64) _) hr.units) (pv 0) B1 (λ_ _=>rfl)) (pv 3)) A6)))))) D2))))))), ?_⟩
 refine⟨_,rfl,d,.ref c,rfl,hA.gc,_,_,rfl,.inl ⟨_,SqL.of hA.hc,rfl⟩,(sl.length:Nat),(by rw[length_map]),by omega,by omega,Q5 (n:=sl.length) (λi ys H'=>H'=H/\∃js:List Nat,ys=js.map (λj=>V.int (j:Nat))/\js.length<=i/\∀j∈js,∃k,sl[j]? =some (some k)) ⟨rfl,[],rfl,le_refl _,λj hj=>(nomatch hj)⟩ ?_ ?_ ?_⟩
 ·rintro i ys H' hi ⟨rfl,js,rfl,hj,_⟩
  rw[length_map]
  exact le_trans (le_trans hj (le_trans hi hl)) (by decide)
 ·rintro i ys H' hi ⟨rfl,js,rfl,hj,hjs⟩
  have hx:(sl.map ov)[i]? =some (ov sl[i]):=by rw[getElem?_map,List.getElem?_eq_getElem hi];rfl
  refine⟨_,rfl,d,.ref c,rfl,hA.gc,_,rfl,.inl ⟨c,_,(i:Nat),_,rfl,(by rw[Int.zero_add]),SqL.of hA.hc,D3 hx,rfl,_,rfl, ?_⟩⟩
  cases e:sl[i]with
  |some k=>
   refine ifT rfl ⟨_,rfl,rfl,js++ [i], ?_, ?_,λj hj'=> ?_⟩
   ·rw[map_append,Int.zero_add];rfl
   ·rw[length_append];exact succ_le_succ hj
   ·rcases mem_append.mp hj' with h|h
    ·exact hjs j h
    ·exact⟨k,by rw[sZ h,List.getElem?_eq_getElem hi,e]⟩
  |none=>exact ifF (by decide) ⟨rfl,js,rfl,le_succ_of_le hj,hjs⟩
 rintro ys H' ⟨rfl,js,rfl,hj,hjs⟩
 intro D hD
 have s1:=A7 hD (.lst (js.map λj=>V.int (j:Nat)))
 have hL:upd H' D (.lst (js.map λj=>V.int (j:Nat))) D=some (.lst (js.map λj=>V.int (j:Nat))):=A5
 generalize upd H' D (.lst (js.map λj=>V.int (j:Nat)))=H1 at s1 hL⊢
 have hA1:=hA.same s1
 refine⟨fun σ' H'=>∃rows' st' sl',StA H0 H' d rows' st' sl'/\∀hs,Pc hs rows st sl rows' st' sl', ?_,fun σ' H' ⟨rows',st',sl',h1,h2⟩=>q rows' st' sl' H' h1 h2⟩
 refine⟨_,rfl,_,_,rfl,rfl,(by decide:(0:Int)<2),.inl ⟨rfl,_,rfl, ?_⟩⟩
 by_cases c1:more%2=0
 ·refine ifT (decide_eq_true (congrArg V.int c1)) ⟨_,rfl,d,.ref b,rfl,hA1.gb,zero_le _,λe he=> ?_⟩
  have s2:=A7 he (.lst [])
  have hA2:=hA1.same s2
  have hL2:=s2 _ _ hL
  by_cases c2:st=[]
  ·subst c2
   refine .inl ⟨b,e,[],rfl,rfl,SqL.of hA2.hb,SqL.of A5,rfl,_,rfl,ifF (by decide) ?_⟩
   generalize upd H1 e (.lst [])=H2 at s2 hA2 hL2⊢
   clear s2 hA1 hL
   refine⟨fun σ' H'=>∃rows' st' sl',StA H0 H' d rows' st' sl'/\∀hs,Pc hs rows [] sl rows' st' sl',⟨_,rfl,zero_le _,λe2 he2=> ?_⟩,λ_ _ h=>h⟩
   have s3:=A7 he2 (.lst [])
   have hA3:=hA2.same s3
   have hL3:=s3 _ _ hL2
   by_cases c3:js=[]
   ·subst c3
    exact .inl ⟨D,e2,[],rfl,rfl,SqL.of hL3,SqL.of A5,rfl,_,rfl,ifF (by decide) ⟨rows,_,sl,⟨a,b,c,rs,hA3⟩,λhs=>bAZ ..⟩⟩
   ·have hpos:0<js.length:=List.length_pos_iff.mpr c3
    refine .inr ⟨D,e2,_,_,rfl,rfl,SqL.of hL3,SqL.of A5,(by rw[length_map];show js.length≠0;omega),_,rfl,ifT rfl ?_⟩
    generalize upd H2 e2 (.lst [])=H3 at s3 hA3 hL3⊢
    obtain⟨i,(ei:more.fdiv 2%(js.length:Nat)=(i:Int)),hi⟩:=X3 (more.fdiv 2) hpos
    obtain⟨k,hk⟩:=hjs _ (getElem_mem hi)
    have hx:(js.map λj=>V.int (j:Nat))[i]? =some (.int (js[i]:Nat)):=by rw[getElem?_map,List.getElem?_eq_getElem hi];rfl
    refine⟨_,rfl,_,rfl,_,_,rfl,rfl,lg (by decide) (by decide),_,rfl,_,_,rfl,.inl ⟨_,SqL.of hL3,rfl⟩,_,_,rfl,rfl,(by rw[length_map];omega),.inl ⟨D,_,(i:Int),_,rfl,(by rw[length_map];exact congrArg V.int ei),SqL.of hL3,D3 hx, ?_⟩⟩
    refine(dgr rfl hA3 (⟨_,rfl,z2,λp hp=> ?_⟩))
    have hA5:=(hA3.same (A7 hp (.tup [.str "load",.int (js[i]:Nat)]))).row (r:=.own (.load js[i])) ⟨p,rfl,A5⟩
    refine⟨a,rs,.ref p,rfl,rfl,(A7 hp _) _ _ hA3.ha,R4 _ (by rw[<-hA.hr.len];omega), ?_⟩
    generalize upd (upd H3 p (.tup [.str "load",.int (js[i]:Nat)])) a (.lst (rs++ [.ref p]))=H5 at hA5⊢
    have hy:(sl.map ov)[js[i]]? =some (kv k):=by rw[getElem?_map,hk];rfl
    refine(dgb rfl hA5 (⟨_,rfl,d,.ref c,rfl,hA5.gc,_,rfl,(ixL hA5.hc (D3 hy) ⟨b,_,_,rfl,rfl,hA5.hb,R4 _ (by rw[length_map];omega), ?_⟩)⟩))
    have hA6:=hA5.stk (st':=[]++ [k])
    rw[map_append]at hA6
    refine⟨_,_,sl,⟨a,b,c,_,hA6⟩,λhs=>⟨λps tys hg=>⟨_,hg.push (CU hk)⟩, ?_, ?_, ?_,rfl,λh=>N8 h (λ_ z=>z) (h.2 k (mem_of_getElem? hk))⟩⟩
    ·rw[length_append];simp only[length_singleton];omega
    ·rw[K8];exact le_succ _
    ·rw[length_append];exact le_refl _
  ·obtain⟨st0,k,rfl⟩:=EO c2
   refine .inr ⟨b,e,_,_,rfl,rfl,SqL.of hA2.hb,SqL.of A5,(by rw[length_map];show(st0++ [k]).length≠0;rw[length_append];simp),_,rfl,ifT rfl ?_⟩
   generalize upd H1 e (.lst [])=H2 at s2 hA2 hL2⊢
   obtain⟨m3,(em3:more.fdiv 2%3=(m3:Int)),hm3⟩:=X3 (more.fdiv 2) (m:=3) (by decide)
   have lsl:(sl.map ov).length=sl.length:=length_map ..
   refine⟨_,rfl,d,.ref c,rfl,hA2.gc,_,_,rfl,.inl ⟨_,SqL.of hA2.hc,rfl⟩,_,_,rfl,rfl,_,rfl,_,_,rfl,rfl,lg (by decide) (by decide),_,_,rfl,rfl,(by decide:(0:Int)<3),_,_,rfl,rfl, ?_⟩
   show O6 _ _ _ [some (.ref d),some (.int more),some (.ref D),some (.int (((sl.map ov).length:Nat) - 1 - more.fdiv 2%3))] H2
   obtain⟨sn,esn,hsn⟩:∃sn:Nat,(((sl.map ov).length:Nat):Int) - 1 - more.fdiv 2%3=(sn:Int)/\sn<sl.length:=⟨sl.length - 1 - m3,by rw[lsl,em3];omega,by omega⟩
   rw[esn]
   have hlast:((st0++ [k]).map kv)[((st0++ [k]).map kv).length - 1]? =some (kv k):=by
    rw[map_append,length_append];simp
   refine⟨_,rfl,d,.ref b,rfl,hA2.gb,.inl ⟨rfl,_,SqL.of hA2.hb⟩,b,_,kv k,rfl,rfl,hA2.hb,hlast, ?_⟩
   have hA3:=hA2.stk (st':=st0)
   have ed:((st0++ [k]).map kv).dropLast=st0.map kv:=by rw[map_append];exact List.dropLast_concat
   rw[ed]
   have hix:ixN (sl.map ov).length (sn:Int)=some sn:=by
    unfold ixN
    rw[lsl,if_pos (by omega)]
    simp[hsn]
   refine⟨_,rfl,d,.ref c,rfl,hA3.gc,_,rfl,c,_,(sn:Int),sn,rfl,rfl,hA3.hc,hix, ?_⟩
   have hA4:=hA3.slt (sl':=sl.take sn++ [some k]++sl.drop (sn+1))
   have es:(sl.map ov).set sn (kv k)=(sl.take sn++ [some k]++sl.drop (sn+1)).map ov:=by
    rw[List.set_eq_take_append_cons_drop,if_pos (by rw[lsl];exact hsn),<-List.map_take,<-map_drop]
    simp[ov]
   rw[es]
   generalize upd (upd H2 b (.lst (st0.map kv))) c (.lst ((sl.take sn++ [some k]++sl.drop (sn+1)).map ov))=H4 at hA4⊢
   refine(dgr rfl hA4 (⟨_,rfl,z2,λp hp=> ?_⟩))
   have hA5:=(hA4.same (A7 hp (.tup [.str "keep",.int (sn:Nat)]))).row (r:=.own (.keep sn)) ⟨p,rfl,A5⟩
   refine⟨a,rs,.ref p,rfl,rfl,(A7 hp _) _ _ hA4.ha,R4 _ (by rw[<-hA.hr.len];omega),_,st0,_,⟨a,b,c,_,hA5⟩,λhs=>⟨λps tys hg=>⟨_,hg.one (λtold ty i e=> .keep hsn e) ?_ ?_⟩, ?_, ?_, ?_, ?_,λh=>⟨λx hx=>h.1 x (mem_append_left _ hx),λx hx=> ?_⟩⟩⟩
   ·rw[length_append];omega
   ·simp only[length_append,length_take,length_drop,length_singleton];omega
   ·rw[length_append];simp only[length_singleton];omega
   ·rw[K8];exact le_succ _
   ·rw[length_append];omega
   ·simp only[length_append,length_take,length_drop,length_singleton];omega
   ·rcases mem_append.mp hx with hx|hx
    ·rcases mem_append.mp hx with hx|hx
     ·exact h.2 x (List.mem_of_mem_take hx)
     ·cases sZ hx
      exact h.1 k (mem_append_right _ (mem_singleton.mpr rfl))
    ·exact h.2 x (List.mem_of_mem_drop hx)
 ·refine ifF (λz=>c1 (by have:=of_decide_eq_true z;injection this)) (ifF (by decide) ?_)
  have hA2:=hA1
  have hL2:=hL
  generalize H1=H2 at hA2 hL2⊢
  clear hA1 hL s1
  refine⟨fun σ' H'=>∃rows' st' sl',StA H0 H' d rows' st' sl'/\∀hs,Pc hs rows st sl rows' st' sl',⟨_,rfl,zero_le _,λe2 he2=> ?_⟩,λ_ _ h=>h⟩
  have s3:=A7 he2 (.lst [])
  have hA3:=hA2.same s3
  have hL3:=s3 _ _ hL2
  by_cases c3:js=[]
  ·subst c3
   exact .inl ⟨D,e2,[],rfl,rfl,SqL.of hL3,SqL.of A5,rfl,_,rfl,ifF (by decide) ⟨rows,_,sl,⟨a,b,c,rs,hA3⟩,λhs=>bAZ ..⟩⟩
  ·have hpos:0<js.length:=List.length_pos_iff.mpr c3
   refine .inr ⟨D,e2,_,_,rfl,rfl,SqL.of hL3,SqL.of A5,(by rw[length_map];show js.length≠0;omega),_,rfl,ifT rfl ?_⟩
   generalize upd H2 e2 (.lst [])=H3 at s3 hA3 hL3⊢
   obtain⟨i,(ei:more.fdiv 2%(js.length:Nat)=(i:Int)),hi⟩:=X3 (more.fdiv 2) hpos
   obtain⟨k,hk⟩:=hjs _ (getElem_mem hi)
   have hx:(js.map λj=>V.int (j:Nat))[i]? =some (.int (js[i]:Nat)):=by rw[getElem?_map,List.getElem?_eq_getElem hi];rfl
   refine⟨_,rfl,_,rfl,_,_,rfl,rfl,lg (by decide) (by decide),_,rfl,_,_,rfl,.inl ⟨_,SqL.of hL3,rfl⟩,_,_,rfl,rfl,(by rw[length_map];omega),.inl ⟨D,_,(i:Int),_,rfl,(by rw[length_map];exact congrArg V.int ei),SqL.of hL3,D3 hx, ?_⟩⟩
   refine(dgr rfl hA3 (⟨_,rfl,z2,λp hp=> ?_⟩))
   have hA5:=(hA3.same (A7 hp (.tup [.str "load",.int (js[i]:Nat)]))).row (r:=.own (.load js[i])) ⟨p,rfl,A5⟩
   refine⟨a,rs,.ref p,rfl,rfl,(A7 hp _) _ _ hA3.ha,R4 _ (by rw[<-hA.hr.len];omega), ?_⟩
   generalize upd (upd H3 p (.tup [.str "load",.int (js[i]:Nat)])) a (.lst (rs++ [.ref p]))=H5 at hA5⊢
   have hy:(sl.map ov)[js[i]]? =some (kv k):=by rw[getElem?_map,hk];rfl
   refine(dgb rfl hA5 (⟨_,rfl,d,.ref c,rfl,hA5.gc,_,rfl,(ixL hA5.hc (D3 hy) ⟨b,_,_,rfl,rfl,hA5.hb,R4 _ (by rw[length_map];omega), ?_⟩)⟩))
   have hA6:=hA5.stk (st':=st++ [k])
   rw[map_append]at hA6
   refine⟨_,_,sl,⟨a,b,c,_,hA6⟩,λhs=>⟨λps tys hg=>⟨_,hg.push (CU hk)⟩, ?_, ?_, ?_,rfl,λh=>N8 h (λ_ z=>z) (h.2 k (mem_of_getElem? hk))⟩⟩
   ·rw[length_append];simp only[length_singleton];omega
   ·rw[K8];exact le_succ _
   ·rw[length_append];exact le_refl _
end
noncomputable abbrev s_law_listed:Stmt:=CL.top 48
noncomputable abbrev KF:List Str:=["_law_state","_law_more","_law_kind","_law_part","_law_way"]
theorem sc_law_listed:FnScope KF EG (B4 s_law_listed):=fS
theorem cwZ(a b:Kd):eqV (kv a) (kv b)=decide (a.tx=b.tx):=by
 show(a.tx==b.tx)=_
 rfl
theorem YL(k:Kd):inV (kv k) [.str "l",.str "L",.str "F"]=true↔k=.l\/k=.L\/k=.F:=by
 rw[v_l,v_L,v_F]
 unfold inV
 simp only[any_cons,List.any_nil,Bool.or_false,Bool.or_eq_true,cwZ,decide_eq_true_eq]
 constructor
 ·intro h
  rcases h with h|h|h
  ·exact .inl (CZ h).symm
  ·exact .inr (.inl (CZ h).symm)
  ·exact .inr (.inr (CZ h).symm)
 ·intro h
  rcases h with rfl|rfl|rfl
  ·exact .inl rfl
  ·exact .inr (.inl rfl)
  ·exact .inr (.inr rfl)
theorem XX(n:Nat):ixN (n+1) (-1)=some n:=by
 unfold ixN
 rw[if_neg (by decide),if_pos (by omega)]
 congr 1
 omega
theorem KY(st0:List Kd)(k:Kd):atI ((st0++ [k]).map kv) (-1)=some (kv k):=by rw[map_append];exact M9 _ _
theorem RR(st0:List Kd)(k:Kd):ixN ((st0++ [k]).map kv).length (-1)=some st0.length:=by rw[length_map,length_append];exact XX _
theorem OM(st0:List Kd)(k k':Kd):((st0++ [k]).map kv).set st0.length (kv k')=(st0++ [k']).map kv:=by
 rw[map_append,map_append,List.set_append_right _ _ (by rw[length_map];exact le_refl _),length_map,Nat.sub_self]
 rfl
theorem aDZ{p k:Kd}(h:Prt p k):Gd p:=by
 cases h with
 |l=>exact .inl (.inl rfl)
 |L=>exact .inl (.inr (.inr (.inl rfl)))
 |F=>exact .inr ⟨.n,rfl,.inl rfl⟩
theorem a2Z{p k:Kd}(h:Prt p k):Gd k:=by
 cases h with
 |l=>exact .inl (.inr (.inr (.inl rfl)))
 |L=>exact .inl (.inr (.inr (.inr (.inl rfl))))
 |F=>exact .inl (.inr (.inr (.inr (.inr rfl))))
theorem dLZ{j:Nat}(h:j<3)(p k:Kd): [V.str "head",V.str "tail",V.str "empty"][j]? =some (.str ([("head":Str),"tail","empty"].getD j ""))/\∃rk k',rwV (.own rk)=[.str ([("head":Str),"tail","empty"].getD j "")]/\[kv p,kv k,.str "t"][j]? =some (kv k')/\wt (.own rk)=0/\(Prt p k->∀(hs:Hs) (told:Kd) (ty:List At) (i:Nat) (st:List Kd) (sl:List (Option Kd)),ty[i+1]? =some ⟨st++ [k'],sl⟩->RowK hs told ty i (.own rk) ⟨st++ [k],sl⟩)/\(Prt p k->Gd k'):=by
 match j,h with
 |0,_=>exact⟨rfl,.head,p,rfl,rfl,rfl,λhp _ _ _ _ _ _ e=> .head hp e,aDZ⟩
 |1,_=>exact⟨rfl,.tail,k,rfl,rfl,rfl,λhp _ _ _ _ _ _ e=> .tail hp e,a2Z⟩
 |2,_=>exact⟨rfl,.empty,.t,rfl,by rw[v_t];rfl,rfl,λhp _ _ _ _ _ _ e=> .empty hp e,λ_=> .inl (.inr (.inl rfl))⟩
section
variable{P:Program}{w:World}{K:FZ}{mg:Str->Option Value}{base:Heap}{f S0 M8:Addr}{fd S5 M7:FuncData}
theorem ok_law_listed(F:Fun K "_law_listed" "_law_listed" s_law_listed f fd)
  (G7:Cn P w K mg base CX0 2 "_law_push" ZD LE)
  (D6:Cn P w K mg base CX0 3 "_law_want" RG DE):
  FnOk P w K mg base CX0 4 f fd EG OG:=by
 obtain⟨S0,S5,G7,P8,P6,P7⟩:=G7
 obtain⟨M8,M7,D6,K2,K1,K0⟩:=D6
 refine F.ok sc_law_listed (λvs H Q E h=> ?_) (λcdv A outer s H vs Q E hr h=> ?_)
 ·obtain⟨H0,d,more,rows,st,sl,rfl,_⟩:=h
  rfl
 obtain⟨H0,d,more,rows,st,sl,rfl,⟨a,b,c,rs,hA⟩,hl3,hl,hsl,hrl,hgs,q⟩:=h
 have nd:=sc_law_listed.nd
 have hu:=hr.units0
 refine⟨_,(A8 (E1 (C7 (i:=2) nd rfl (Or.inl rfl) (P0 (B9 (YN (K:=K) hu) (C9 (lt_of_le_of_lt (add_le_add_left (by decide:1<=64) _) hr.units) (pv 0) B1 (λ_ _=>rfl)) (E6 A6) rfl) (ixE K w (C9 (lt_of_le_of_lt (add_le_add_left (by decide:1<=64) _) hr.units) (pv 0) B1 (λ_ _=>rfl)) (N3 K6 A9)) B1)))
   (A8 (D8 (B9 (kEq (K:=K) hu) (pv 2) B1 rfl) (A8 (C3 (M1 (K:=K) PySem.F.plainAttrs_list PySem.F.slot_list_append PySem.F.type_list_append C8 (C9 (lt_of_le_of_lt (add_le_add_left (by decide:1<=64) _) hr.units) (pv 0) B1 (λ_ _=>rfl)) (A0 (B6 G7 (hr.mono (by omega)) rfl P7 P6 P8 .nil C0 (A0 (pv 0) (A0 B1 (A0 (B7 D5 (pv 1) A9) A6)))) A6)))
   (A8 (C3 (M1 (K:=K) PySem.F.plainAttrs_list PySem.F.slot_list_append PySem.F.type_list_append C8 (C9 (lt_of_le_of_lt (add_le_add_left (by decide:1<=64) _) hr.units) (pv 0) B1 (λ_ _=>rfl)) (A0 (C1 (A0 B1 A6)) A6)))
   (A8 (Q3 B1 (U3 (C9 (lt_of_le_of_lt (add_le_add_left (by decide:1<=64) _) hr.units) (pv 0) B1 (λ_ _=>rfl)) (N3 K6 A9) T2))
   (B0 V9)))) D2)
   (A8 (E1 (C7 (i:=2) nd rfl (Or.inl rfl) (P0 (B9 (kIn (K:=K) (w:=w)) (pv 2) (C1 (A0 B1 (A0 B1 (A0 B1 A6)))) rfl) (pv 2) (FW ix_str B1 (B7 E4 (pv 1) A9) (λ_ _=>rfl)))))
   (A8 (E1 (C7 (i:=3) nd rfl (Or.inl rfl) (C9 (lt_of_le_of_lt (add_le_add_left (by decide:1<=64) _) hr.units) (RQ (U8 B1 B1 (U8 B1 B1 (U8 B1 B1 RT))) rfl rfl (by simp) (by decide)) (pv 2) (λ_ _=>rfl))))
   (A8 (C7 (i:=4) nd rfl (Or.inl rfl) (B7 E4 (B7 D5 (pv 1) A9) A9))
   (A8 (E1 (D8 (PW.pt (ET (B9 WQ (pv 4) A9 rfl) (BH (B9 (kNe (K:=K) hu) (pv 2) B1 rfl)))) (A8 (C3 (B6 D6 (hr.mono (by omega)) rfl K0 K1 K2 .nil C0 (A0 (pv 0) (A0 (E6 (A0 (pv 3) (A0 (pv 2) A6))) (A0 (B7 D5 (pv 1) A9) A6)))))
   (A8 (C3 (M1 (K:=K) PySem.F.plainAttrs_list PySem.F.slot_list_append PySem.F.type_list_append C8 (C9 (lt_of_le_of_lt (add_le_add_left (by decide:1<=64) _) hr.units) (pv 0) B1 (λ_ _=>rfl)) (A0 (C1 (A0 B1 A6)) A6)))
   (A8 (C3 (M1 (K:=K) PySem.F.plainAttrs_list PySem.F.slot_list_append PySem.F.type_list_append C8 (C9 (lt_of_le_of_lt (add_le_add_left (by decide:1<=64) _) hr.units) (pv 0) B1 (λ_ _=>rfl)) (A0 (pv 2) A6)))
   (B0 V9)))) D2))
   (A8 (C3 (B6 D6 (hr.mono (by omega)) rfl K0 K1 K2 .nil C0 (A0 (pv 0) (A0 (E6 (A0 (pv 2) A6)) (A0 (B7 D5 (pv 1) A9) A6)))))
   (A8 (C3 (M1 (K:=K) PySem.F.plainAttrs_list PySem.F.slot_list_append PySem.F.type_list_append C8 (C9 (lt_of_le_of_lt (add_le_add_left (by decide:1<=64) _) hr.units) (pv 0) B1 (λ_ _=>rfl)) (A0 (C1 (A0 (ixE K w (E6 (A0 B1 (A0 B1 (A0 B1 A6)))) (B7 E4 (pv 4) A9)) A6)) A6)))
   (B0 (C3 (M1 (K:=K) PySem.F.plainAttrs_list PySem.F.slot_list_append PySem.F.type_list_append C8 (C9 (lt_of_le_of_lt (add_le_add_left (by decide:1<=64) _) hr.units) (pv 0) B1 (λ_ _=>rfl)) (A0 (ixE K w (E6 (A0 (pv 3) (A0 (pv 2) (A0 B1 A6)))) (B7 E4 (pv 4) A9)) A6)))))))))))), ?_⟩
 refine⟨fun σ' H'=>∃k,σ'=[some (.ref d),some (.int more),some (kv k),none,none]/\SA H0 H' d a b c rs rows st sl/\(k=.l\/∃st0,st=st0++ [k]), ?_, ?_⟩
 ·refine⟨_,rfl,d,.ref b,rfl,hA.gb,zero_le _,λe he=> ?_⟩
  have s2:=A7 he (.lst [])
  have hA2:=hA.same s2
  by_cases c2:st=[]
  ·subst c2
   refine .inl ⟨b,e,[],rfl,rfl,SqL.of hA2.hb,SqL.of A5,rfl,_,rfl,ifF (by decide) ⟨.l, ?_,hA2,.inl rfl⟩⟩
   rw[<-v_l];rfl
  ·obtain⟨st0,k,rfl⟩:=EO c2
   exact .inr ⟨b,e,_,_,rfl,rfl,SqL.of hA2.hb,SqL.of A5,(by rw[length_map];show(st0++ [k]).length≠0;rw[length_append];simp),_,rfl,ifT rfl ⟨_,rfl,d,.ref b,rfl,hA2.gb,_,rfl,(ixL hA2.hb (KY st0 k) ⟨k,rfl,hA2,.inr ⟨st0,rfl⟩⟩)⟩⟩
 clear hA
 rintro _ H1 ⟨k,rfl,hA,hk⟩
 refine⟨_,rfl,.inl ⟨rfl,_,rfl, ?_⟩⟩
 by_cases e:k=.fn .n
 ·subst e
  obtain⟨st0,rfl⟩:∃st0,st=st0++ [.fn .n]:=hk.resolve_left (λz=>nomatch z)
  refine ifT (decide_eq_true v_fn.symm) (dgr rfl hA (⟨_,rfl,_,rfl,_,_,rfl,rfl,lg (by decide) (by decide),H0,d,.F,_,rows,_,sl,congrArg (λz=> [V.ref d,z,V.int _]) v_F,.inr (.inr (.inr (.inr rfl))),⟨a,b,c,rs,hA⟩,hl,λr1 p1 H5 s5 hp1 hK1=> ?_⟩))
  have hA3:=(hA.same s5).row (r:=r1) ⟨p1,rfl,hp1⟩
  refine⟨a,_,.ref p1,rfl,rfl,(hA.same s5).ha,R4 _ (by rw[<-hA.hr.len];omega), ?_⟩
  generalize upd H5 a (.lst (rs++ [.ref p1]))=H6 at hA3⊢
  refine(dgr rfl hA3 (⟨z1,λp2 hp2=> ?_⟩))
  have hA4:=(hA3.same (A7 hp2 (.tup [.str "cons"]))).row (r:=.own .cons) ⟨p2,rfl,A5⟩
  refine⟨a,_,.ref p2,rfl,rfl,(A7 hp2 _) _ _ hA3.ha,R4 _ (by rw[<-hA3.hr.len];simp only[length_append,length_singleton];omega), ?_⟩
  generalize upd (upd H6 p2 (.tup [.str "cons"])) a (.lst (rs++ [.ref p1]++ [.ref p2]))=H7 at hA4⊢
  refine⟨_,rfl,d,.ref b,rfl,hA4.gb,_,rfl,b,_, -1,_,rfl,rfl,hA4.hb,RR st0 _, ?_⟩
  rw[v_F,OM]
  refine q _ _ sl _ ⟨a,b,c,_,hA4.stk (st':=st0++ [.F])⟩ λhs=>⟨λps tys hg=> ?_, ?_, ?_, ?_,rfl,λh=>N8 h (λx hx=>mem_append_left _ hx) (.inl (.inr (.inr (.inr (.inr rfl)))))⟩
  ·have h1:=hg.push (hK1 hs)
   rw[List.append_assoc]at h1
   exact⟨_,h1.one (λtold ty i e=> .cons .F e) (by simp only[length_append,length_cons,length_nil];omega) rfl⟩
  ·simp only[length_append,length_singleton];omega
  ·have e1:=(hK1 hs).1
   have e2:wts [r1]=0:=by show wt r1+0=0;rw[e1]
   rw[K8,K8,e2]
   exact le_refl _
  ·simp only[length_append,length_singleton];omega
 refine ifF (λz=>e (LC ((of_decide_eq_true z).trans v_fn))) ?_
 refine⟨fun σ' H'=>∃k,σ'=[some (.ref d),some (.int more),some (kv k),none,none]/\SA H0 H' d a b c rs rows st sl/\(k=.l\/k=.L\/k=.F), ?_, ?_⟩
 ·refine⟨_,rfl,z3,λt ht=> .inr (.inl ⟨t,_,rfl,.inr (SqT.of A5),rfl,rfl,_,rfl, ?_⟩)⟩
  have hA2:=hA.same (A7 ht (.tup [.str "l",.str "L",.str "F"]))
  by_cases e2:k=.l\/k=.L\/k=.F
  ·exact ifT ((YL k).mpr e2) ⟨_,rfl,k,rfl,hA2,e2⟩
  ·obtain⟨j,(ej:more%2=(j:Int)),hj⟩:=X3 more (m:=2) (by decide)
   have hcc:∃cc k',("lL":Str).cps.toList[j]? =some cc/\V.str ⟨#[cc]⟩=kv k'/\(k'=.l\/k'=.L\/k'=.F):=by
    have e:("lL":Str).cps.toList=[108,76]:=by decide +kernel
    rw[e]
    match j,hj with
    |0,_=>exact⟨_,.l,rfl,rfl,.inl rfl⟩
    |1,_=>exact⟨_,.L,rfl,rfl,.inr (.inl rfl)⟩
   obtain⟨cc,k',t2,t3,hk'⟩:=hcc
   refine ifF (λz=>e2 ((YL k).mp z)) ⟨_,rfl,_,_,rfl,rfl,(by decide:(0:Int)<2),_,(j:Int),cc,rfl,congrArg V.int ej,by decide +kernel,D3 t2,k', ?_,hA2,hk'⟩
   rw[<-t3];rfl
 clear hA hk e k
 rintro _ H2 ⟨k,rfl,hA,hk⟩
 refine⟨fun σ' H'=>∃p,σ'=[some (.ref d),some (.int more),some (kv k),some (kv p),none]/\SA H0 H' d a b c rs rows st sl/\Prt p k, ?_, ?_⟩
 ·intro dd hdd
  refine⟨A5,[(.inr "l",.str "n"),(.inr "L",.str "l"),(.inr "F",.str "fn")],rfl,(by decide:3<=15), ?_⟩
  have hA2:=hA.same (A7 hdd (.dK []))
  have hA3:SA H0 (upd (upd H2 dd (.dK [])) dd (.dK [(.inr "l",.str "n"),(.inr "L",.str "l"),(.inr "F",.str "fn")])) d a b c rs rows st sl:=by
   rw[KR]
   exact hA.same (A7 hdd _)
  have hD:upd (upd H2 dd (.dK [])) dd (.dK [(.inr "l",.str "n"),(.inr "L",.str "l"),(.inr "F",.str "fn")]) dd=some (.dK [(.inr "l",.str "n"),(.inr "L",.str "l"),(.inr "F",.str "fn")]):=A5
  rcases hk with rfl|rfl|rfl
  ·refine⟨_,rfl,dd,.str "n",rfl, ?_,.n,by rw[v_n];rfl,hA3,.l⟩
   rw[<-v_l];exact DGet.k (k:=.inr "l") hD
  ·refine⟨_,rfl,dd,.str "l",rfl, ?_,.l,by rw[v_l];rfl,hA3,.L⟩
   rw[<-v_L];exact DGet.k (k:=.inr "L") hD
  ·refine⟨_,rfl,dd,.str "fn",rfl, ?_,.fn .n,by rw[v_fn];rfl,hA3,.F⟩
   rw[<-v_F];exact DGet.k (k:=.inr "F") hD
 clear hA
 rintro _ H3 ⟨p,rfl,hA,hp⟩
 have hbk:Bas k:=by rcases hk with h|h|h;exact .inr (.inr (.inl h));exact .inr (.inr (.inr (.inl h)));exact .inr (.inr (.inr (.inr h)))
 obtain⟨wy,(ewy:more.fdiv 2%6=(wy:Int)),hwy⟩:=X3 (more.fdiv 2) (m:=6) (by decide)
 refine⟨_,rfl,_,_,rfl,rfl,lg (by decide) (by decide),_,_,rfl,rfl,(by decide:(0:Int)<6), ?_⟩
 show O6 _ _ _ [some (.ref d),some (.int more),some (kv k),some (kv p),some (.int (more.fdiv 2%6))] H3
 rw[ewy]
 refine⟨fun σ' H'=>σ'=[some (.ref d),some (.int more),some (kv k),some (kv p),some (.int (wy:Int))]/\H'=H3,⟨_,rfl,_,_,rfl,rfl,_,rfl, ?_⟩, ?_⟩
 ·by_cases c1:wy<3
  ·refine ifT (decide_eq_true (by omega)) ⟨_,rfl,.inl ⟨rfl,_,rfl, ?_⟩⟩
   by_cases c2:k=.F
   ·subst c2
    refine ifF ?_ ⟨rfl,rfl⟩
    rw[v_F,decide_eq_true rfl];decide
   ·refine ifT ?_ ?_
    ·rw[decide_eq_false λz=>c2 (LC (z.trans v_F))];rfl
    have hbp:Bas p:=by
     cases hp with
     |l=>exact .inl rfl
     |L=>exact .inr (.inr (.inl rfl))
     |F=>exact absurd rfl c2
    refine⟨_,rfl,_,rfl,_,rfl,z2,λl hl'=>⟨_,rfl,_,_,rfl,rfl,lg (by decide) (by decide),upd H0 l (.lst [kv p,kv k]),d,l,[p,k],_,rows,st,sl,rfl, ?_,A5,⟨a,b,c,rs,hA.base hl' _⟩,hl,by simp,le_trans hsl (by decide),le_trans hrl (by decide),λrows' st' H5 hS hT hlr hw hst hsub=> ?_⟩⟩
    ·intro x hx
     simp only[mem_cons,not_mem_nil,or_false]at hx
     rcases hx with rfl|rfl
     ·exact hbp
     ·exact hbk
    obtain⟨a1,b1,c1',rs1,hA1⟩:=hS
    replace hA1:=hA1.unbase (hA.n0 hl')
    simp only[length_cons,length_nil]at hlr
    refine(dgr rfl hA1 (⟨z1,λp2 hp2=> ?_⟩))
    have hA4:=(hA1.same (A7 hp2 (.tup [.str "cons"]))).row (r:=.own .cons) ⟨p2,rfl,A5⟩
    refine⟨a1,_,.ref p2,rfl,rfl,(A7 hp2 _) _ _ hA1.ha,R4 _ (by rw[<-hA1.hr.len];omega), ?_⟩
    generalize upd (upd H5 p2 (.tup [.str "cons"])) a1 (.lst (rs1++ [.ref p2]))=H7 at hA4⊢
    refine(dgb rfl hA4 (⟨_,rfl,b1,_,_,rfl,rfl,hA4.hb,R4 _ (by rw[length_map];exact le_trans (le_trans hst hsl) (by decide)), ?_⟩))
    have hA6:=hA4.stk (st':=st'++ [k])
    rw[map_append]at hA6
    refine q _ _ sl _ ⟨a1,b1,c1',_,hA6⟩ λhs=>⟨λps tys hg=> ?_, ?_, ?_, ?_,rfl,λh=>N8 h hsub (.inl hbk)⟩
    ·obtain⟨tys',hg'⟩:=hT hs ps tys hg
     exact⟨_,hg'.one (λtold ty i e=> .cons hp e) (by simp only[length_append,length_cons,length_nil];omega) rfl⟩
    ·rw[length_append];exact le_trans (succ_le_succ hlr) (add_le_add_left (by decide:3<=6) _)
    ·rw[K8,hw];exact le_refl _
    ·rw[length_append];exact succ_le_succ hst
  ·exact ifF (λz=>c1 (by have:=of_decide_eq_true z;omega)) (ifF (by decide) ⟨rfl,rfl⟩)
 rintro _ H' ⟨rfl,e⟩
 rw[e]
 clear e H'
 refine⟨_,rfl,_,rfl,z1,λl hl'=>⟨_,rfl,_,_,rfl,rfl,lg (by decide) (by decide),upd H0 l (.lst [kv k]),d,l,[k],_,rows,st,sl,rfl, ?_,A5,⟨a,b,c,rs,hA.base hl' _⟩,hl,by simp,le_trans hsl (by decide),le_trans hrl (by decide),λrows' st' H5 hS hT hlr hw hst hsub=> ?_⟩⟩
 ·intro x hx
  rw[sZ hx];exact hbk
 obtain⟨a1,b1,c1',rs1,hA1⟩:=hS
 replace hA1:=hA1.unbase (hA.n0 hl')
 simp only[length_singleton]at hlr
 obtain⟨j,(ej:(wy:Int)%3=(j:Int)),hj⟩:=X3 (wy:Int) (m:=3) (by decide)
 obtain⟨t1,rk,k',t2,t3,t4,t5,t6⟩:=dLZ hj p k
 refine(dgr rfl hA1 (⟨z3,λl3 h3=>⟨_,rfl,_,_,rfl,rfl,(by decide:(0:Int)<3),.inl ⟨l3,_,(j:Int),_,rfl,congrArg V.int ej,SqL.of A5,D3 t1,z1,λp2 hp2=> ?_⟩⟩⟩))
 have s3:=A7 h3 (.lst [.str "head",.str "tail",.str "empty"])
 have s4:=A7 hp2 (.tup [.str ([("head":Str),"tail","empty"].getD j "")])
 have hA2:=hA1.same (s3.trans s4)
 have hA3:=hA2.row (r:=.own rk) ⟨p2,rfl,by rw[A5,t2]⟩
 refine⟨a1,rs1,.ref p2,rfl,rfl,hA2.ha,R4 _ (by rw[<-hA1.hr.len];omega), ?_⟩
 generalize upd (upd (upd H5 l3 (.lst [.str "head",.str "tail",.str "empty"])) p2 (.tup [.str ([("head":Str),"tail","empty"].getD j "")])) a1 (.lst (rs1++ [.ref p2]))=H7 at hA3⊢
 refine(dgb rfl hA3 (⟨_,rfl,_,rfl,z3,λl4 h4=>⟨_,rfl,_,_,rfl,rfl,(by decide:(0:Int)<3),.inl ⟨l4,_,(j:Int),_,rfl,congrArg V.int ej,SqL.of A5,D3 t3, ?_⟩⟩⟩))
 have hA5:=hA3.same (A7 h4 (.lst [kv p,kv k,.str "t"]))
 refine⟨b1,_,_,rfl,rfl,hA5.hb,R4 _ (by rw[length_map];exact le_trans (le_trans hst hsl) (by decide)), ?_⟩
 have hA6:=hA5.stk (st':=st'++ [k'])
 rw[map_append]at hA6
 refine q _ _ sl _ ⟨a1,b1,c1',_,hA6⟩ λhs=>⟨λps tys hg=> ?_, ?_, ?_, ?_,rfl,λh=>N8 h hsub (t6 hp)⟩
 ·obtain⟨tys',hg'⟩:=hT hs ps tys hg
  exact⟨_,hg'.one (λtold ty i e=>t5 hp hs told ty i _ _ e) (by simp only[length_append,length_singleton];omega) rfl⟩
 ·rw[length_append];exact le_trans (succ_le_succ hlr) (add_le_add_left (by decide:2<=6) _)
 ·have:wts [.own rk]=0:=by show wt (.own rk)+0=0;rw[t4]
  rw[K8,hw,this];exact le_succ _
 ·rw[length_append];exact succ_le_succ hst
end
noncomputable abbrev s_law_calling:Stmt:=CL.top 51
noncomputable abbrev HP:List Str:=["_law_state","_law_more","_law_heads_here","_law_b","_law_params","_law_told"]
theorem sc_law_calling:FnScope HP c0Z (B4 s_law_calling):=fS
noncomputable def emZ(H:Hp)(h:List Kd×Kd)(u:V):Prop:=∃t lp,u=.ref t/\H t=some (.tup [.ref lp,kv h.2])/\H lp=some (.lst (h.1.map kv))
noncomputable def cHZ(H:Hp)(hp:Addr)(hs:Hs):Prop:=∃us,H hp=some (.lst us)/\All2 (emZ H) hs us
noncomputable def XN(hs:Hs):Prop:=∀h∈hs,h.1.length<=3/\(∀k∈h.1,Bas k)/\Bas h.2
theorem v_f:V.str "f"=V.str ⟨#[102]⟩:=congrArg V.str (by decide +kernel)
theorem bzZ(xs:List V)(v:V):J9 (xs++ [v]) none (some (-1))=xs:=by
 have h:HT.sIx (xs++ [v]).length (xs++ [v]).length (some (-1))=xs.length:=by
  show(if(-1:Int)<0 then((-1:Int)+((xs++ [v]).length:Nat)).toNat else min (-1:Int).toNat (xs++ [v]).length)=xs.length
  rw[if_pos (by decide)]
  simp
  omega
 unfold J9
 rw[h,HT.sIx_none]
 simp
theorem dgZ{k':Kd}(h:Bas k'):V.str (Txt.slice (Kd.fn k').tx (some 1) none)=kv k':=by
 rcases h with rfl|rfl|rfl|rfl|rfl<;>exact congrArg V.str (by decide +kernel)
theorem d4Z{k':Kd}(h:Bas k'):V.str (("f":Str)++k'.tx)=kv (.fn k'):=by
 rcases h with rfl|rfl|rfl|rfl|rfl<;>exact congrArg V.str (by decide +kernel)
theorem dRZ{k':Kd}(h:Bas k'):("f":Str).length+k'.tx.length<=sizeLine:=by
 have:("f":Str).length+k'.tx.length<=2:=by rcases h with rfl|rfl|rfl|rfl|rfl<;>decide +kernel
 exact le_trans this (by decide)
theorem QE{k:Kd}(h:Gd k):k.tx.length<=sizeLine:=by
 have:k.tx.length<=2:=by
  rcases h with h|⟨k',rfl,h⟩
  ·rcases h with rfl|rfl|rfl|rfl|rfl<;>decide
  ·rcases h with rfl|rfl|rfl|rfl|rfl<;>decide
 exact le_trans this (by decide)
section
variable{P:Program}{w:World}{K:FZ}{mg:Str->Option Value}{base:Heap}{f L8 M8:Addr}{fd M0 M7:FuncData}
inductive spCalW(hs:Hs)(vs:List V)(H:Hp)(Q:VK):Prop
 |mk:∀(H0:Hp) (d hp:Addr) (more:Int) (rows:List Rw) (st:List Kd) (sl:List (Option Kd)),(vs=[.ref d,.int more,.ref hp])->(cHZ H0 hp hs)->(XN hs)->(0<hs.length)->(hs.length<=10)->(StA H0 H d rows st sl)->(sl.length<=20)->(st.length<=900)->(rows.length<=900)->(GdS st sl)->(∀rows' st' sl' H',StA H0 H' d rows' st' sl'->Pc hs rows st sl rows' st' sl'->Q .non H')->spCalW hs vs H Q
noncomputable def OI(hs:Hs):Sp:=λvs H Q _=>spCalW hs vs H Q
theorem ok_law_calling(hs:Hs)(F:Fun K "_law_calling" "_law_calling" s_law_calling f fd)(B:BV.NoG mg)
  (E3:Cn P w K mg base CX0 1 "_law_number" q2L spNumB)
  (D6:Cn P w K mg base CX0 3 "_law_want" RG DE):
  FnOk P w K mg base CX0 4 f fd c0Z (OI hs):=by
 obtain⟨L8,M0,E3,L5,L9,L6⟩:=E3
 obtain⟨M8,M7,D6,K2,K1,K0⟩:=D6
 refine F.ok sc_law_calling (λvs H Q E h=> ?_) (λcdv A outer s H vs Q E hr h=> ?_)
 ·obtain⟨H0,d,hp,more,rows,st,sl,rfl,_⟩:=h
  rfl
 obtain⟨H0,d,hp,more,rows,st,sl,rfl,⟨us,hus,hhs⟩,hok,hpos,hh10,⟨a,b,c,rs,hA⟩,hl,hsl,hrl,hgs,q⟩:=h
 have nd:=sc_law_calling.nd
 have hu:=hr.units0
 refine⟨_,(A8 (C7 (i:=3) nd rfl (Or.inl rfl) (B7 E4 (B7 D5 (pv 1) A9) (C4 (J8 (K:=K)) rfl B.len_ G1 (A0 (pv 2) A6))))
   (A8 (Q3 (ixE K w (pv 2) (pv 3)) (LH rfl (O9 (J3 (i:=4) nd rfl (Or.inl rfl)) (O9 (J3 (i:=5) nd rfl (Or.inl rfl)) EN))))
   (A8 (E1 (D8 (PW.pt (ET (B9 (YN (K:=K) hu) (C9 (lt_of_le_of_lt (add_le_add_left (by decide:1<=64) _) hr.units) (pv 0) B1 (λ_ _=>rfl)) (E6 A6) rfl) (BH (B9 (kEq (K:=K) hu) (ixE K w (ixE K w (C9 (lt_of_le_of_lt (add_le_add_left (by decide:1<=64) _) hr.units) (pv 0) B1 (λ_ _=>rfl)) (N3 K6 A9)) A9) B1 rfl)))) (A8 (C3 (M1 (K:=K) PySem.F.plainAttrs_list PySem.F.slot_list_append PySem.F.type_list_append C8 (C9 (lt_of_le_of_lt (add_le_add_left (by decide:1<=64) _) hr.units) (pv 0) B1 (λ_ _=>rfl)) (A0 (C1 (A0 B1 (A0 (B6 E3 (hr.mono (by omega)) rfl L6 L9 L5 .nil C0 (A0 (B7 D5 (pv 1) A9) A6)) A6))) A6)))
   (A8 (C3 (M1 (K:=K) PySem.F.plainAttrs_list PySem.F.slot_list_append PySem.F.type_list_append C8 (C9 (lt_of_le_of_lt (add_le_add_left (by decide:1<=64) _) hr.units) (pv 0) B1 (λ_ _=>rfl)) (A0 (C1 (A0 B1 A6)) A6)))
   (A8 (Q3 (G4 ciZ (ixE K w (C9 (lt_of_le_of_lt (add_le_add_left (by decide:1<=64) _) hr.units) (pv 0) B1 (λ_ _=>rfl)) (N3 K6 A9)) (G6 A9) M4) (U3 (C9 (lt_of_le_of_lt (add_le_add_left (by decide:1<=64) _) hr.units) (pv 0) B1 (λ_ _=>rfl)) (N3 K6 A9) T2))
   (B0 V9)))) D2))
   (A8 (E1 (D8 (PW.pt (FX (B9 (kEq (K:=K) hu) (B7 E4 (pv 1) A9) A9 rfl) (AZ (B9 (bCZ (K:=K) hu) (G4 (AG (K:=K)) (pv 4) (G6 (N3 K6 A9)) M4) (E6 (A0 B1 A6)) rfl)))) (A8 (C3 (B6 D6 (hr.mono (by omega)) rfl K0 K1 K2 .nil C0 (A0 (pv 0) (A0 (pv 4) (A0 (B7 D5 (pv 1) A9) A6)))))
   (A8 (C3 (M1 (K:=K) PySem.F.plainAttrs_list PySem.F.slot_list_append PySem.F.type_list_append C8 (C9 (lt_of_le_of_lt (add_le_add_left (by decide:1<=64) _) hr.units) (pv 0) B1 (λ_ _=>rfl)) (A0 (C1 (A0 B1 (A0 (pv 3) (A0 (C4 (J8 (K:=K)) rfl B.len_ G1 (A0 (pv 4) A6)) A6)))) A6)))
   (A8 (C3 (M1 (K:=K) PySem.F.plainAttrs_list PySem.F.slot_list_append PySem.F.type_list_append C8 (C9 (lt_of_le_of_lt (add_le_add_left (by decide:1<=64) _) hr.units) (pv 0) B1 (λ_ _=>rfl)) (A0 (pv 5) A6)))
   (B0 V9)))) D2))
   (A8 (C3 (B6 D6 (hr.mono (by omega)) rfl K0 K1 K2 .nil C0 (A0 (pv 0) (A0 (G4 (AG (K:=K)) (pv 4) M4 (G6 (N3 K6 A9))) (A0 (B7 D5 (pv 1) A9) A6)))))
   (A8 (C3 (M1 (K:=K) PySem.F.plainAttrs_list PySem.F.slot_list_append PySem.F.type_list_append C8 (C9 (lt_of_le_of_lt (add_le_add_left (by decide:1<=64) _) hr.units) (pv 0) B1 (λ_ _=>rfl)) (A0 (C1 (A0 B1 (A0 (pv 3) (A0 (B7 P1 (C4 (J8 (K:=K)) rfl B.len_ G1 (A0 (pv 4) A6)) A9) A6)))) A6)))
   (B0 (C3 (M1 (K:=K) PySem.F.plainAttrs_list PySem.F.slot_list_append PySem.F.type_list_append C8 (C9 (lt_of_le_of_lt (add_le_add_left (by decide:1<=64) _) hr.units) (pv 0) B1 (λ_ _=>rfl)) (A0 (B7 aJZ B1 (pv 5)) A6)))))))))), ?_⟩
 have lus:=hhs.len
 obtain⟨bn,(eb:more.fdiv 3%(us.length:Nat)=(bn:Int)),hbn⟩:=X3 (more.fdiv 3) (m:=us.length) (by omega)
 obtain⟨⟨ps,told⟩,hps⟩:∃h,hs[bn]? =some h:=⟨_,List.getElem?_eq_getElem (by omega)⟩
 obtain⟨u,hu1,t,lp,rfl,ht,hlp⟩:=J1 hhs hps
 obtain⟨p3,pb,tb⟩:=hok _ (mem_of_getElem? hps)
 simp only at ht hlp p3 pb tb
 refine⟨_,rfl,_,_,rfl,rfl,lg (by decide) (by decide),_,rfl,_,_,rfl,.inl ⟨_,SqL.of (hA.sm _ _ hus),rfl⟩,_,_,rfl,rfl,(by omega:(0:Int)<(us.length:Nat)), ?_⟩
 show O6 _ _ _ [some (.ref d),some (.int more),some (.ref hp),some (.int (more.fdiv 3%(us.length:Nat))),none,none] H
 rw[eb]
 refine⟨_,rfl,_,rfl,(ixL (hA.sm _ _ hus) (D3 hu1) ⟨t,_,rfl,SqT.of (hA.sm _ _ ht),rfl,_,_,rfl,_,_,rfl,rfl, ?_⟩)⟩
 refine⟨fun σ' H'=>σ'=[some (.ref d),some (.int more),some (.ref hp),some (.int (bn:Int)),some (.ref lp),some (kv told)]/\SA H0 H' d a b c rs rows st sl, ?_, ?_⟩
 ·refine⟨_,rfl,d,.ref b,rfl,hA.gb,zero_le _,λe he=> ?_⟩
  have s2:=A7 he (.lst [])
  have hA2:=hA.same s2
  by_cases c2:st=[]
  ·subst c2
   exact .inl ⟨b,e,[],rfl,rfl,SqL.of hA2.hb,SqL.of A5,rfl,_,rfl,ifF (by decide) (ifF (by decide) ⟨rfl,hA2⟩)⟩
  obtain⟨st0,k,rfl⟩:=EO c2
  have hgk:Gd k:=hgs.1 k (mem_append_right _ (mem_singleton.mpr rfl))
  obtain⟨c0,cr,ec0⟩:∃c0 cr,k.cs=c0::cr:=by cases k<;>exact⟨_,_,rfl⟩
  have hc0:k.tx.cps.toList[0]? =some c0:=by show k.cs[0]? =_;rw[ec0];rfl
  refine .inr ⟨b,e,_,_,rfl,rfl,SqL.of hA2.hb,SqL.of A5,(by rw[length_map];show(st0++ [k]).length≠0;rw[length_append];simp),_,rfl,ifT rfl ⟨_,rfl,d,.ref b,rfl,hA2.gb,_,rfl,(ixL hA2.hb (KY st0 k) (.inr (.inr (.inl ⟨k.tx,0,c0,rfl,rfl,QE hgk,D3 (j:=0) hc0,.inl ⟨rfl,_,rfl, ?_⟩⟩))))⟩⟩
  generalize upd H e (.lst [])=H2 at s2 hA2⊢
  by_cases ck:∃k',k=.fn k'
  ·obtain⟨k',rfl⟩:=ck
   have hk':Bas k':=by
    rcases hgk with h|⟨k2,h,hb⟩
    ·rcases h with h|h|h|h|h<;>cases h
    ·cases h;exact hb
   cases ec0
   refine ifT (decide_eq_true v_f.symm) (dgr rfl hA2 (⟨_,rfl,_,_,rfl,rfl,lg (by decide) (by decide),_,rfl,λm hm=>⟨z2,λp hp=> ?_⟩⟩))
   have hA3:=(hA2.same (A7 hp (.tup [.str "push",.int m]))).row (r:=.own (.push (.int m))) ⟨p,rfl,A5⟩
   refine⟨a,_,.ref p,rfl,rfl,(A7 hp _) _ _ hA2.ha,R4 _ (by rw[<-hA.hr.len];omega), ?_⟩
   generalize upd (upd H2 p (.tup [.str "push",.int m])) a (.lst (rs++ [.ref p]))=H6 at hA3⊢
   refine(dgr rfl hA3 (⟨z1,λp2 hp2=> ?_⟩))
   have hA4:=(hA3.same (A7 hp2 (.tup [.str "apply"]))).row (r:=.apply) ⟨p2,rfl,A5⟩
   refine⟨a,_,.ref p2,rfl,rfl,(A7 hp2 _) _ _ hA3.ha,R4 _ (by rw[<-hA3.hr.len];simp only[length_append,length_singleton];omega), ?_⟩
   generalize upd (upd H6 p2 (.tup [.str "apply"])) a (.lst (rs++ [.ref p]++ [.ref p2]))=H7 at hA4⊢
   refine⟨_,rfl,d,.ref b,rfl,hA4.gb,_,rfl,(ixL hA4.hb (KY st0 _) ⟨_,rfl,_,rfl,QE hgk,_,rfl,d,.ref b,rfl,hA4.gb,_,rfl,b,_, -1,_,rfl,rfl,hA4.hb,RR st0 _, ?_⟩)⟩
   rw[dgZ hk',OM]
   refine q _ _ sl _ ⟨a,b,c,_,hA4.stk (st':=st0++ [k'])⟩ ⟨λps tys hg=> ?_, ?_, ?_, ?_,rfl,λh=>N8 h (λx hx=>mem_append_left _ hx) (.inl hk')⟩
   ·have h1:=hg.push (QC hm)
    rw[List.append_assoc]at h1
    exact⟨_,h1.one (λtold ty i e=> .apply e) (by simp only[length_append,length_cons,length_nil];omega) rfl⟩
   ·simp only[length_append,length_singleton];omega
   ·rw[K8,K8];exact le_succ _
   ·simp only[length_append,length_singleton];omega
  ·refine ifF ?_ ⟨rfl,hA2⟩
   rw[v_f]
   cases k with
   |fn k'=>exact absurd ⟨k',rfl⟩ ck
   |n=>cases ec0;decide
   |t=>cases ec0;decide
   |l=>cases ec0;decide
   |L=>cases ec0;decide
   |F=>cases ec0;decide
 clear hA
 rintro _ H1 ⟨rfl,hA⟩
 refine⟨fun σ' H'=>σ'=[some (.ref d),some (.int more),some (.ref hp),some (.int (bn:Int)),some (.ref lp),some (kv told)]/\SA H0 H' d a b c rs rows st sl/\∃ps0,ps=ps0++ [.n], ?_, ?_⟩
 ·refine⟨_,rfl,_,_,rfl,rfl,(by decide:(0:Int)<3),.inl ⟨rfl,_,rfl, ?_⟩⟩
  by_cases c1:more%3=0
  ·refine ifT (decide_eq_true (congrArg V.int c1)) (ifT rfl ?_)
   have hA3:=hA
   generalize H1=H3 at hA3⊢
   clear hA
   refine⟨_,rfl,_,rfl,_,rfl,_,_,rfl,rfl,lg (by decide) (by decide),H0,d,lp,ps,_,rows,st,sl,rfl,pb,hlp,⟨a,b,c,rs,hA3⟩,hl,le_trans p3 (by decide),le_trans hsl (by decide),le_trans hrl (by decide),λrows' st' H5 hS hT hlr hw hst hsub=> ?_⟩
   obtain⟨a1,b1,c1',rs1,hA1⟩:=hS
   refine(dgr rfl hA1 (⟨_,rfl,_,rfl,_,_,rfl,.inl ⟨_,SqL.of (hA1.sm _ _ hlp),rfl⟩,z3,λp hp=> ?_⟩))
   rw[show(ps.map kv).length=ps.length from length_map ..]
   have hA4:=(hA1.same (A7 hp (.tup [.str "call",.int (bn:Nat),.int (ps.length:Nat)]))).row (r:=.call bn ps.length) ⟨p,rfl,A5⟩
   refine⟨a1,_,.ref p,rfl,rfl,(A7 hp _) _ _ hA1.ha,R4 _ (by rw[<-hA1.hr.len];omega), ?_⟩
   generalize upd (upd H5 p (.tup [.str "call",.int (bn:Nat),.int (ps.length:Nat)])) a1 (.lst (rs1++ [.ref p]))=H7 at hA4⊢
   refine(dgb rfl hA4 (⟨_,rfl,b1,_,_,rfl,rfl,hA4.hb,R4 _ (by rw[length_map];exact le_trans (le_trans hst hsl) (by decide)), ?_⟩))
   have hA6:=hA4.stk (st':=st'++ [told])
   rw[map_append]at hA6
   refine q _ _ sl _ ⟨a1,b1,c1',_,hA6⟩ ⟨λps' tys hg=> ?_, ?_, ?_, ?_,rfl,λh=>N8 h hsub (.inl tb)⟩
   ·obtain⟨tys',hg'⟩:=hT hs ps' tys hg
    exact⟨_,hg'.one (λtold ty i e=> .call hps e) (by simp only[length_append,length_singleton];omega) rfl⟩
   ·rw[length_append];exact le_trans (succ_le_succ (le_trans hlr (add_le_add_left p3 _))) (add_le_add_left (by decide:4<=6) _)
   ·rw[K8,hw];exact le_succ _
   ·rw[length_append];exact succ_le_succ hst
  ·refine ifF (λz=>c1 (by have:=of_decide_eq_true z;injection this)) ⟨_,rfl,_,rfl,_,rfl,.inl (.inl ⟨lp,_,rfl,SqL.of (hA.sm _ _ hlp),λl1 h1=>⟨z1,λl2 h2=> ?_⟩⟩)⟩
   have s1:=A7 h1 (.lst (J9 (ps.map kv) (some (-1)) none))
   have s2:=A7 h2 (.lst [.str "n"])
   have hL1:=s2 _ _ (A5 (H:=H1) (a:=l1) (o:=.lst (J9 (ps.map kv) (some (-1)) none)))
   have hA3:=hA.same (s1.trans s2)
   have hfl:(J9 (ps.map kv) (some (-1)) none).all T7=true:=by
    rw[all_eq_true]
    intro x hx
    obtain⟨k,_,rfl⟩:=mem_map.mp (List.mem_of_mem_drop (List.mem_of_mem_take hx))
    rfl
   refine⟨l1,l2,_,_,rfl,rfl,SqL.of hL1,SqL.of A5,hfl,rfl,_,rfl, ?_⟩
   generalize upd (upd H1 l1 (.lst (J9 (ps.map kv) (some (-1)) none))) l2 (.lst [.str "n"])=H3 at s1 s2 hA3⊢
   clear hL1 s1 s2 hA
   by_cases c2:∃ps0,ps=ps0++ [.n]
   ·obtain⟨ps0,rfl⟩:=c2
    refine ifF ?_ ⟨rfl,hA3,ps0,rfl⟩
    rw[map_append]
    show¬(!HJ (J9 (ps0.map kv++ [kv .n]) (some (-1)) none) [.str "n"])=true
    rw[QD,v_n]
    decide
   ·refine ifT ?_ ?_
    ·by_cases c3:ps=[]
     ·subst c3
      rfl
     ·obtain⟨ps0,k,rfl⟩:=EO c3
      have hk:k≠ .n:=λz=>c2 ⟨ps0,by rw[z]⟩
      rw[map_append]
      show(!HJ (J9 (ps0.map kv++ [kv k]) (some (-1)) none) [.str "n"])=true
      rw[QD,v_n]
      have:=FC (as:=[k.tx]) (bs:=[Kd.n.tx])
      show(!HJ ([k.tx].map V.str) ([Kd.n.tx].map V.str))=true
      rw[this,decide_eq_false λz=>hk (CZ (by injection z))]
      rfl
    refine⟨_,rfl,_,rfl,_,rfl,_,_,rfl,rfl,lg (by decide) (by decide),H0,d,lp,ps,_,rows,st,sl,rfl,pb,hlp,⟨a,b,c,rs,hA3⟩,hl,le_trans p3 (by decide),le_trans hsl (by decide),le_trans hrl (by decide),λrows' st' H5 hS hT hlr hw hst hsub=> ?_⟩
    obtain⟨a1,b1,c1',rs1,hA1⟩:=hS
    refine(dgr rfl hA1 (⟨_,rfl,_,rfl,_,_,rfl,.inl ⟨_,SqL.of (hA1.sm _ _ hlp),rfl⟩,z3,λp hp=> ?_⟩))
    rw[show(ps.map kv).length=ps.length from length_map ..]
    have hA4:=(hA1.same (A7 hp (.tup [.str "call",.int (bn:Nat),.int (ps.length:Nat)]))).row (r:=.call bn ps.length) ⟨p,rfl,A5⟩
    refine⟨a1,_,.ref p,rfl,rfl,(A7 hp _) _ _ hA1.ha,R4 _ (by rw[<-hA1.hr.len];omega), ?_⟩
    generalize upd (upd H5 p (.tup [.str "call",.int (bn:Nat),.int (ps.length:Nat)])) a1 (.lst (rs1++ [.ref p]))=H7 at hA4⊢
    refine(dgb rfl hA4 (⟨_,rfl,b1,_,_,rfl,rfl,hA4.hb,R4 _ (by rw[length_map];exact le_trans (le_trans hst hsl) (by decide)), ?_⟩))
    have hA6:=hA4.stk (st':=st'++ [told])
    rw[map_append]at hA6
    refine q _ _ sl _ ⟨a1,b1,c1',_,hA6⟩ ⟨λps' tys hg=> ?_, ?_, ?_, ?_,rfl,λh=>N8 h hsub (.inl tb)⟩
    ·obtain⟨tys',hg'⟩:=hT hs ps' tys hg
     exact⟨_,hg'.one (λtold ty i e=> .call hps e) (by simp only[length_append,length_singleton];omega) rfl⟩
    ·rw[length_append];exact le_trans (succ_le_succ (le_trans hlr (add_le_add_left p3 _))) (add_le_add_left (by decide:4<=6) _)
    ·rw[K8,hw];exact le_succ _
    ·rw[length_append];exact succ_le_succ hst
 clear hA
 rintro _ H3 ⟨rfl,hA,ps0,rfl⟩
 have hps0:∀k∈ps0,Bas k:=λk hk=>pb k (mem_append_left _ hk)
 have p2:ps0.length<=2:=by rw[length_append]at p3;simp only[length_singleton]at p3;omega
 have lps:((ps0++ [Kd.n]).map kv).length=ps0.length+1:=by rw[length_map,length_append];rfl
 refine⟨_,rfl,_,rfl,_,rfl,_,rfl,.inl (.inl ⟨lp,_,rfl,SqL.of (hA.sm _ _ hlp),λl1 h1=> ?_⟩)⟩
 have ec:J9 ((ps0++ [Kd.n]).map kv) none (some (-1))=ps0.map kv:=by rw[map_append];exact bzZ _ _
 rw[ec]
 refine⟨_,rfl,_,_,rfl,rfl,lg (by decide) (by decide),upd H0 l1 (.lst (ps0.map kv)),d,l1,ps0,_,rows,st,sl,rfl,hps0,A5,⟨a,b,c,rs,hA.base h1 _⟩,hl,le_trans p2 (by decide),le_trans hsl (by decide),le_trans hrl (by decide),λrows' st' H5 hS hT hlr hw hst hsub=> ?_⟩
 obtain⟨a1,b1,c1,rs1,hA1⟩:=hS
 replace hA1:=hA1.unbase (hA.n0 h1)
 refine(dgr rfl hA1 (⟨_,rfl,_,rfl,_,_,rfl,.inl ⟨_,SqL.of (hA1.sm _ _ hlp),rfl⟩,_,_,rfl,rfl,z3,λp hp=> ?_⟩))
 have en:(((ps0++ [Kd.n]).map kv).length:Int) - 1=(ps0.length:Nat):=by rw[lps];omega
 have hA4:=(hA1.same (A7 hp (.tup [.str "close",.int (bn:Nat),.int ((((ps0++ [Kd.n]).map kv).length:Int) - 1)]))).row (r:=.own (.close bn ps0.length)) ⟨p,rfl,by rw[A5,en];rfl⟩
 refine⟨a1,_,.ref p,rfl,rfl,(A7 hp _) _ _ hA1.ha,R4 _ (by rw[<-hA1.hr.len];omega), ?_⟩
 generalize upd (upd H5 p (.tup [.str "close",.int (bn:Nat),.int ((((ps0++ [Kd.n]).map kv).length:Int) - 1)])) a1 (.lst (rs1++ [.ref p]))=H7 at hA4⊢
 refine(dgb rfl hA4 (⟨_,rfl,.inr (.inl ⟨_,_,rfl,rfl,(dRZ tb), ?_⟩)⟩))
 rw[d4Z tb]
 refine⟨b1,_,_,rfl,rfl,hA4.hb,R4 _ (by rw[length_map];exact le_trans (le_trans hst hsl) (by decide)), ?_⟩
 have hA6:=hA4.stk (st':=st'++ [.fn told])
 rw[map_append]at hA6
 refine q _ _ sl _ ⟨a1,b1,c1,_,hA6⟩ ⟨λps tys hg=> ?_, ?_, ?_, ?_,rfl,λh=>N8 h hsub (.inr ⟨told,rfl,tb⟩)⟩
 ·obtain⟨tys',hg'⟩:=hT hs ps tys hg
  exact⟨_,hg'.one (λtold ty i e=> .close hps (by omega) e) (by simp only[length_append,length_singleton];omega) rfl⟩
 ·rw[length_append];exact le_trans (succ_le_succ (le_trans hlr (add_le_add_left p2 _))) (add_le_add_left (by decide:3<=6) _)
 ·rw[K8,hw];exact le_refl _
 ·rw[length_append];exact succ_le_succ hst
end
noncomputable abbrev s_law_block:Stmt:=CL.top 52
noncomputable abbrev NT:List Str:=["_law_cells","_law_heads_here","_law_b","_law_params","_law_told","_law_state","_law_cell","_law_more"]
theorem sc_law_block:FnScope NT q4L (B4 s_law_block):=fS
structure BI (hs:Hs) (ps:List Kd) (H0 H':Hp) (dd:Addr) (i:Nat) (rows:List Rw) (st:List Kd) (sl:List (Option Kd)):Prop where
 sa:StA H0 H' dd rows st sl
 ok:∃tys,GOk hs ps rows st sl tys
 len:rows.length<=6*i
 wt:wts rows<=i
 stl:st.length<=i
 sll:sl.length=ps.length+3
 gd:GdS st sl
noncomputable def BPv(hs:Hs)(ps:List Kd)(H0:Hp)(ce hp lp dd:Addr)(b:Nat)(told:Kd)(i:Nat)(σ:St)(H':Hp):Prop:=∃rows st sl x6 x7,σ=[some (.ref ce),some (.ref hp),some (.int (b:Nat)),some (.ref lp),some (kv told),some (.ref dd),x6,x7]/\BI hs ps H0 H' dd i rows st sl
theorem BI.step{hs:Hs}{ps:List Kd}{H0 H' H2:Hp}{dd:Addr}{i:Nat}{rows rows':List Rw}{st st':List Kd}{sl sl':List (Option Kd)}(h:BI hs ps H0 H' dd i rows st sl)(h1:StA H0 H2 dd rows' st' sl')(h2:Pc hs rows st sl rows' st' sl'):BI hs ps H0 H2 dd (i+1) rows' st' sl':=by
 obtain⟨tys,hg⟩:=h.ok
 have a1:=h.len
 have a2:=h.wt
 have a3:=h.stl
 have a4:=h.sll
 have b1:=h2.len
 have b2:=h2.wts
 have b3:=h2.stl
 have b4:=h2.sll
 exact⟨h1,h2.go ps tys hg,by omega,by omega,by omega,by omega,h2.gd h.gd⟩
section
variable{P:Program}{w:World}{K:FZ}{mg:Str->Option Value}{base:Heap}{f L8 M8 KA JD JW GZ HE:Addr}{fd M0 M7 JR JM JS GY HB:FuncData}
inductive spBlockW(hs:Hs)(vs:List V)(H:Hp)(Q:VK):Prop
 |mk:∀(ce hp:Addr) (ns:List Int) (b:Nat) (ps:List Kd) (told:Kd),(vs=[.ref ce,.ref hp,.int (b:Nat)])->(H ce=some (.lst (ns.map V.int)))->(ns.length<=8)->(cHZ H hp hs)->(XN hs)->(hs.length<=10)->(hs[b]? =some (ps,told))->(∀bk u H',Same H H'->BAt H' bk u->(∃tys,BkOk hs b bk ps told tys)->Q u H')->spBlockW hs vs H Q
noncomputable def KC(hs:Hs):Sp:=λvs H Q _=>spBlockW hs vs H Q
theorem ok_law_block(hs:Hs)(F:Fun K "_law_block" "_law_block" s_law_block f fd)(B:BV.NoG mg)
  (E3:Cn P w K mg base CX0 1 "_law_number" q2L spNumB)
  (D6:Cn P w K mg base CX0 3 "_law_want" RG DE)
  (V0:Cn P w K mg base CX0 4 "_law_reckon" EG OG)
  (V4:Cn P w K mg base CX0 4 "_law_listed" EG OG)
  (V5:Cn P w K mg base CX0 4 "_law_branch" EG OG)
  (T9:Cn P w K mg base CX0 1 "_law_slotted" EG OG)
  (U0:Cn P w K mg base CX0 4 "_law_calling" c0Z (OI hs)):
  FnOk P w K mg base CX0 5 f fd q4L (KC hs):=by
 obtain⟨L8,M0,E3,L5,L9,L6⟩:=E3
 obtain⟨M8,M7,D6,K2,K1,K0⟩:=D6
 obtain⟨KA,JR,V0,JO,JE,JQ⟩:=V0
 obtain⟨JD,JM,V4,JZ,JV,JN⟩:=V4
 obtain⟨JW,JS,V5,JJ,IZ,JX⟩:=V5
 obtain⟨GZ,GY,T9,HG,HF,GQ⟩:=T9
 obtain⟨HE,HB,U0,HC,HA,GW⟩:=U0
 refine F.ok sc_law_block (λvs H Q E h=> ?_) (λcdv A outer s H vs Q E hr h=> ?_)
 ·obtain⟨ce,hp,ns,b,ps,told,rfl,_⟩:=h
  rfl
 obtain⟨ce,hp,ns,b,ps,told,rfl,hce,hns,hHs,hok,hh10,hps,q⟩:=h
 have nd:=sc_law_block.nd
 have hu:=hr.units0
 refine⟨_,(A8 (Q3 (ixE K w (pv 1) (pv 2)) (LH rfl (O9 (J3 (i:=3) nd rfl (Or.inl rfl)) (O9 (J3 (i:=4) nd rfl (Or.inl rfl)) EN))))
   (A8 (C7 (i:=5) nd rfl (Or.inl rfl) (RQ (U8 B1 (E6 A6) (U8 B1 (E6 A6) (U8 B1 (B7 (N4 (K:=K)) (G3 (W0 (K:=K)) rfl B.list_ N2 (A0 (pv 3) A6)) (E6 (A0 Q4 (A0 Q4 (A0 Q4 A6))))) RT))) rfl rfl (by simp) (by decide)))
   (A8 (E1 (T3 PassesOwn.never rfl (AC (K:=K) (pv 0)) (J3 (i:=6) nd rfl (Or.inl rfl)) (A8 (C7 (i:=7) nd rfl (Or.inl rfl) (B7 D5 (pv 6) A9))
   (B0 (E1 (D8 (B9 (kEq (K:=K) hu) (B7 E4 (pv 6) A9) A9 rfl) (B0 (C3 (B6 V0 (hr.mono (by omega)) rfl JQ JE JO .nil C0 (A0 (pv 5) (A0 (pv 7) A6))))) (B0 (E1 (D8 (PW.pt (FX (B9 (kEq (K:=K) hu) (B7 E4 (pv 6) A9) A9 rfl) (AZ (B9 (kEq (K:=K) hu) (B7 E4 (pv 6) A9) A9 rfl)))) (B0 (C3 (B6 V4 (hr.mono (by omega)) rfl JN JV JZ .nil C0 (A0 (pv 5) (A0 (pv 7) A6))))) (B0 (E1 (D8 (B9 (kEq (K:=K) hu) (B7 E4 (pv 6) A9) A9 rfl) (B0 (C3 (B6 V5 (hr.mono (by omega)) rfl JX IZ JJ .nil C0 (A0 (pv 5) (A0 (pv 7) A6))))) (B0 (E1 (D8 (B9 (kEq (K:=K) hu) (B7 E4 (pv 6) A9) A9 rfl) (B0 (C3 (B6 T9 (hr.mono (by omega)) rfl GQ HF HG .nil C0 (A0 (pv 5) (A0 (pv 7) A6))))) (B0 (E1 (D8 (PW.pt (FX (B9 (kEq (K:=K) hu) (B7 E4 (pv 6) A9) A9 rfl) (AZ (B9 (kEq (K:=K) hu) (B7 E4 (pv 6) A9) A9 rfl)))) (B0 (C3 (B6 U0 (hr.mono (by omega)) rfl GW HA HC .nil C0 (A0 (pv 5) (A0 (pv 7) (A0 (pv 1) A6)))))) (A8 (C3 (M1 (K:=K) PySem.F.plainAttrs_list PySem.F.slot_list_append PySem.F.type_list_append C8 (C9 (lt_of_le_of_lt (add_le_add_left (by decide:1<=64) _) hr.units) (pv 5) B1 (λ_ _=>rfl)) (A0 (C1 (A0 B1 (A0 (B6 E3 (hr.mono (by omega)) rfl L6 L9 L5 .nil C0 (A0 (pv 7) A6)) A6))) A6)))
   (B0 (C3 (M1 (K:=K) PySem.F.plainAttrs_list PySem.F.slot_list_append PySem.F.type_list_append C8 (C9 (lt_of_le_of_lt (add_le_add_left (by decide:1<=64) _) hr.units) (pv 5) B1 (λ_ _=>rfl)) (A0 B1 A6)))))))))))))))))))))))
   (A8 (C3 (B6 D6 (hr.mono (by omega)) rfl K0 K1 K2 .nil C0 (A0 (pv 5) (A0 (E6 (A0 (pv 4) A6)) (A0 (B7 (N4 (K:=K)) (B7 KS A9 (C4 (J8 (K:=K)) rfl B.len_ G1 (A0 (pv 0) A6))) A9) A6)))))
   (B0 (C2 (C1 (A0 (C4 (J8 (K:=K)) rfl B.len_ G1 (A0 (pv 3) A6)) (A0 (B7 (N4 (K:=K)) (C4 (J8 (K:=K)) rfl B.len_ G1 (A0 (pv 3) A6)) A9) (A0 (G3 (BQ (K:=K)) rfl B.tuple_ N7 (A0 (B7 (N4 (K:=K)) (C9 (lt_of_le_of_lt (add_le_add_left (by decide:1<=64) _) hr.units) (pv 5) B1 (λ_ _=>rfl)) (E6 (A0 (C1 (A0 B1 A6)) A6))) A6)) A6)))))))))), ?_⟩
 obtain⟨us,hus,hhs⟩:=id hHs
 obtain⟨u,hu1,t,lp,rfl,ht,hlp⟩:=J1 hhs hps
 obtain⟨p3,pb,tb⟩:=hok _ (mem_of_getElem? hps)
 simp only at ht hlp p3 pb tb
 have hpos:0<hs.length:=lt_of_le_of_lt (zero_le _) (List.getElem?_eq_some_iff.mp hps).1
 have lps:(ps.map kv).length=ps.length:=length_map ..
 refine⟨_,rfl,_,rfl,(ixL hus (D3 hu1) ⟨t,_,rfl,SqT.of ht,rfl,_,_,rfl,_,_,rfl,rfl, ?_⟩)⟩
 intro dd hdd
 have s0:=A7 hdd (.dK [])
 refine⟨zero_le _,λa ha=>⟨zero_le _,λb2 hb2=> ?_⟩⟩
 have s1:=A7 ha (.lst [])
 have s2:=A7 hb2 (.lst [])
 refine⟨_,rfl,lp,_,rfl,.inl (SqL.of (s2 _ _ (s1 _ _ (s0 _ _ hlp)))),λl1 h1=>⟨z3,λl2 h2=> ?_⟩⟩
 have s3:=A7 h1 (.lst (ps.map kv))
 have s4:=A7 h2 (.lst [.non,.non,.non])
 refine .inr (.inl ⟨l1,l2,_,_,rfl,rfl,s4 _ _ A5,A5,R4 _ (by rw[lps];show ps.length+3<=950;omega)|>le_of_lt,λc hc=> ?_⟩)
 have s5:=A7 hc (.lst (ps.map kv++ [.non,.non,.non]))
 refine⟨s5 _ _ (s4 _ _ (s3 _ _ (s2 _ _ (s1 _ _ A5)))),[(.inr "rows",.ref a),(.inr "stack",.ref b2),(.inr "slots",.ref c)],rfl,(by decide:3<=15), ?_⟩
 have e1:Same H (upd (upd (upd (upd (upd (upd H dd (.dK [])) a (.lst [])) b2 (.lst [])) l1 (.lst (ps.map kv))) l2 (.lst [.non,.non,.non])) c (.lst (ps.map kv++ [.non,.non,.non]))):=s0.trans (s1.trans (s2.trans (s3.trans (s4.trans s5))))
 have na:H a=none:=by
  cases e:H a with
  |none=>rfl
  |some o=>rw[s0 _ _ e]at ha;cases ha
 have nb:H b2=none:=by
  cases e:H b2 with
  |none=>rfl
  |some o=>rw[s1 _ _ (s0 _ _ e)]at hb2;cases hb2
 have nc:H c=none:=by
  cases e:H c with
  |none=>rfl
  |some o=>rw[s4 _ _ (s3 _ _ (s2 _ _ (s1 _ _ (s0 _ _ e))))]at hc;cases hc
 have xa:=(s2.trans (s3.trans (s4.trans s5))) _ _ (A5 (H:=upd H dd (.dK [])) (a:=a) (o:=.lst []))
 have xb:=(s3.trans (s4.trans s5)) _ _ (A5 (H:=upd (upd H dd (.dK [])) a (.lst [])) (a:=b2) (o:=.lst []))
 have xd:=(s1.trans (s2.trans (s3.trans (s4.trans s5)))) _ _ (A5 (H:=H) (a:=dd) (o:=.dK []))
 have xc:=A5 (H:=upd (upd (upd (upd (upd H dd (.dK [])) a (.lst [])) b2 (.lst [])) l1 (.lst (ps.map kv))) l2 (.lst [.non,.non,.non])) (a:=c) (o:=.lst (ps.map kv++ [.non,.non,.non]))
 have nab:a≠b2:=λz=>by rw[<-z,A5]at hb2;cases hb2
 have nac:a≠c:=λz=>by
  rw[<-z,(s2.trans (s3.trans s4)) _ _ A5]at hc;cases hc
 have nbc:b2≠c:=λz=>by
  rw[<-z,(s3.trans s4) _ _ A5]at hc;cases hc
 generalize upd (upd (upd (upd (upd (upd H dd (.dK [])) a (.lst [])) b2 (.lst [])) l1 (.lst (ps.map kv))) l2 (.lst [.non,.non,.non])) c (.lst (ps.map kv++ [.non,.non,.non]))=H1 at e1 xa xb xc xd⊢
 clear s0 s1 s2 s3 s4 s5 ha hb2 h1 h2 hc
 have da:a≠dd:=λz=>by rw[z,xd]at xa;cases xa
 have db:b2≠dd:=λz=>by rw[z,xd]at xb;cases xb
 have dc:c≠dd:=λz=>by rw[z,xd]at xc;cases xc
 have hA:SA H (upd H1 dd (.dK [(.inr "rows",.ref a),(.inr "stack",.ref b2),(.inr "slots",.ref c)])) dd a b2 c [] [] [] (ps.map some++ [none,none,none]):=by
  refine⟨Z3 e1 hdd _,A5,by rw[B5 da];exact xa,.nil,by rw[B5 db];exact xb, ?_,hdd,na,nb,nc,nab,nac,nbc⟩
  rw[B5 dc,xc,map_append,map_map]
  rfl
 show O6 _ _ _ [some (.ref ce),some (.ref hp),some (.int (b:Nat)),some (.ref lp),some (kv told),some (.ref dd),none,none] (upd H1 dd (.dK [(.inr "rows",.ref a),(.inr "stack",.ref b2),(.inr "slots",.ref c)]))
 generalize upd H1 dd (.dK [(.inr "rows",.ref a),(.inr "stack",.ref b2),(.inr "slots",.ref c)])=H2 at hA⊢
 clear e1 xa xb xc xd da db dc H1 nab nac nbc na nb nc
 have hB0:BI hs ps H H2 dd 0 [] [] (ps.map some++ [none,none,none]):=by
  refine⟨⟨a,b2,c,[],hA⟩,⟨[],VJ hs ps⟩,le_refl _,le_refl _,le_refl _,by simp,⟨λk hk=>(nomatch hk),λk hk=> ?_⟩⟩
  rcases mem_append.mp hk with hk|hk
  ·obtain⟨k',hk',e⟩:=mem_map.mp hk
   cases e
   exact .inl (pb k hk')
  ·simp at hk
 refine⟨BPv hs ps H ce hp lp dd b told ns.length, ?_, ?_⟩
 ·refine⟨_,rfl,ce,rfl,⟨_,SqL.of (hA.sm _ _ hce)⟩,Z5 (xs:=ns.map V.int) (BPv hs ps H ce hp lp dd b told) ⟨[],[],_,none,none,rfl,hB0⟩ ?_ ?_ ?_⟩
  ·rintro i σ H' hi ⟨rows,st,sl,x6,x7,rfl,hB⟩
   obtain⟨a',b',c',rs',hA'⟩:=hB.sa
   exact SqL.of (hA'.sm _ _ hce)
  ·rintro i x σ H' hx ⟨rows,st,sl,x6,x7,rfl,hB⟩
   have hi:i<8:=by
    have:=(List.getElem?_eq_some_iff.mp hx).1
    rw[length_map]at this
    omega
   obtain⟨n,rfl⟩:∃n:Int,x=.int n:=by
    rw[getElem?_map]at hx
    cases e:ns[i]? with
    |none=>rw[e]at hx;cases hx
    |some n=>rw[e]at hx;cases hx;exact⟨n,rfl⟩
   have a1:=hB.len
   have a3:=hB.stl
   have a4:=hB.sll
   have c3':3<=sl.length:=by omega
   have c20:sl.length<=20:=by omega
   have cst:st.length<=900:=by omega
   have cro:rows.length<=900:=by omega
   refine⟨_,rfl,_,_,rfl,rfl,lg (by decide) (by decide), ?_⟩
   refine⟨BPv hs ps H ce hp lp dd b told (i+1),⟨_,rfl,_,_,rfl,rfl,(by decide:(0:Int)<8),.inl ⟨rfl,_,rfl, ?_⟩⟩,λ_ _ h=>h⟩
   by_cases c0:n%8=0
   ·exact ifT (decide_eq_true (congrArg V.int c0)) ⟨_,rfl,_,rfl,H,dd,_,rows,st,sl,rfl,hB.sa,c3',c20,cst,cro,hB.gd,λrows' st' sl' H2 h1 h2=>⟨rows',st',sl',_,_,rfl,hB.step h1 (h2 hs)⟩⟩
   refine ifF (λz=>c0 (by have:=of_decide_eq_true z;injection this)) ⟨BPv hs ps H ce hp lp dd b told (i+1),⟨_,rfl,_,_,rfl,rfl,(by decide:(0:Int)<8),.inl ⟨rfl,_,rfl, ?_⟩⟩,λ_ _ h=>h⟩
   by_cases c1:n%8=1
   ·exact ifT (decide_eq_true (congrArg V.int c1)) (ifT rfl ⟨_,rfl,_,rfl,H,dd,_,rows,st,sl,rfl,hB.sa,c3',c20,cst,cro,hB.gd,λrows' st' sl' H2 h1 h2=>⟨rows',st',sl',_,_,rfl,hB.step h1 (h2 hs)⟩⟩)
   refine ifF (λz=>c1 (by have:=of_decide_eq_true z;injection this)) ⟨_,rfl,_,_,rfl,rfl,(by decide:(0:Int)<8),.inl ⟨rfl,_,rfl, ?_⟩⟩
   by_cases c5:n%8=5
   ·exact ifT (decide_eq_true (congrArg V.int c5)) ⟨_,rfl,_,rfl,H,dd,_,rows,st,sl,rfl,hB.sa,c3',c20,cst,cro,hB.gd,λrows' st' sl' H2 h1 h2=>⟨rows',st',sl',_,_,rfl,hB.step h1 (h2 hs)⟩⟩
   refine ifF (λz=>c5 (by have:=of_decide_eq_true z;injection this)) ⟨BPv hs ps H ce hp lp dd b told (i+1),⟨_,rfl,_,_,rfl,rfl,(by decide:(0:Int)<8),.inl ⟨rfl,_,rfl, ?_⟩⟩,λ_ _ h=>h⟩
   by_cases c2:n%8=2
   ·exact ifT (decide_eq_true (congrArg V.int c2)) ⟨_,rfl,_,rfl,H,dd,_,rows,st,sl,rfl,hB.sa,c3',c20,cst,cro,hB.gd,λrows' st' sl' H2 h1 h2=>⟨rows',st',sl',_,_,rfl,hB.step h1 (h2 hs)⟩⟩
   refine ifF (λz=>c2 (by have:=of_decide_eq_true z;injection this)) ⟨BPv hs ps H ce hp lp dd b told (i+1),⟨_,rfl,_,_,rfl,rfl,(by decide:(0:Int)<8),.inl ⟨rfl,_,rfl, ?_⟩⟩,λ_ _ h=>h⟩
   by_cases c3:n%8=3
   ·exact ifT (decide_eq_true (congrArg V.int c3)) ⟨_,rfl,_,rfl,H,dd,_,rows,st,sl,rfl,hB.sa,c3',c20,cst,cro,hB.gd,λrows' st' sl' H2 h1 h2=>⟨rows',st',sl',_,_,rfl,hB.step h1 (h2 hs)⟩⟩
   refine ifF (λz=>c3 (by have:=of_decide_eq_true z;injection this)) ⟨BPv hs ps H ce hp lp dd b told (i+1),⟨_,rfl,_,_,rfl,rfl,(by decide:(0:Int)<8),.inl ⟨rfl,_,rfl, ?_⟩⟩,λ_ _ h=>h⟩
   by_cases c4:n%8=4
   ·exact ifT (decide_eq_true (congrArg V.int c4)) (ifT rfl ⟨_,rfl,_,rfl,_,rfl,H,dd,hp,_,rows,st,sl,rfl,hHs,hok,hpos,hh10,hB.sa,c20,cst,cro,hB.gd,λrows' st' sl' H2 h1 h2=>⟨rows',st',sl',_,_,rfl,hB.step h1 h2⟩⟩)
   refine ifF (λz=>c4 (by have:=of_decide_eq_true z;injection this)) ⟨_,rfl,_,_,rfl,rfl,(by decide:(0:Int)<8),.inl ⟨rfl,_,rfl, ?_⟩⟩
   by_cases c7:n%8=7
   ·exact ifT (decide_eq_true (congrArg V.int c7)) ⟨_,rfl,_,rfl,_,rfl,H,dd,hp,_,rows,st,sl,rfl,hHs,hok,hpos,hh10,hB.sa,c20,cst,cro,hB.gd,λrows' st' sl' H2 h1 h2=>⟨rows',st',sl',_,_,rfl,hB.step h1 h2⟩⟩
   refine ifF (λz=>c7 (by have:=of_decide_eq_true z;injection this)) ?_
   obtain⟨a',b',c',rs',hA'⟩:=hB.sa
   refine(dgr rfl hA' (⟨_,rfl,_,rfl,λm hm=>⟨z2,λp hp=> ?_⟩⟩))
   have hA3:=(hA'.same (A7 hp (.tup [.str "push",.int m]))).row (r:=.own (.push (.int m))) ⟨p,rfl,A5⟩
   refine⟨a',_,.ref p,rfl,rfl,(A7 hp _) _ _ hA'.ha,R4 _ (by rw[<-hA'.hr.len];omega), ?_⟩
   generalize upd (upd H' p (.tup [.str "push",.int m])) a' (.lst (rs'++ [.ref p]))=H6 at hA3⊢
   refine(dgb rfl hA3 (⟨b',_,_,rfl,rfl,hA3.hb,R4 _ (by rw[length_map];omega), ?_⟩))
   rw[v_n]
   have hA6:=hA3.stk (st':=st++ [.n])
   rw[map_append]at hA6
   refine⟨_,_,sl,_,_,rfl,hB.step ⟨a',b',c',_,hA6⟩ ⟨λps' tys hg=>⟨_,hg.push (QC hm)⟩, ?_, ?_, ?_,rfl,λh=>N8 h (λ_ z=>z) (.inl (.inl rfl))⟩⟩
   ·rw[length_append];simp only[length_singleton];omega
   ·rw[K8];exact le_succ _
   ·rw[length_append];exact le_refl _
  ·rintro σ H' h
   rw[length_map]at h
   exact h
 rintro _ H3 ⟨rows,st,sl,x6,x7,rfl,hB⟩
 have a1:=hB.len
 have a2:=hB.wt
 have a3:=hB.stl
 have a4:=hB.sll
 obtain⟨tys,hG⟩:=hB.ok
 obtain⟨a,b2,c,rs,hA⟩:=hB.sa
 have lns:(ns.map V.int).length=ns.length:=length_map ..
 refine⟨_,rfl,_,rfl,z1,λl hl'=>⟨_,rfl,_,_,rfl,.inl ⟨_,SqL.of ((A7 hl' _) _ _ (hA.sm _ _ hce)),rfl⟩,.inl ⟨_,_,rfl,rfl,.inl ⟨by decide,by decide⟩,.inl ⟨_,_,rfl,rfl,upd H l (.lst [kv told]),dd,l,[told],_,rows,st,sl,rfl, ?_,A5,⟨a,b2,c,rs,hA.base hl' _⟩,by omega,by simp,by omega,by omega,λrows' st' H5 hS hT hlr hw hst hsub=> ?_⟩⟩⟩⟩
 ·intro x hx
  rw[sZ hx];exact tb
 obtain⟨a',b',c',rs',hA1⟩:=hS
 replace hA1:=hA1.unbase (hA.n0 hl')
 simp only[length_singleton]at hlr
 obtain⟨tys',hG'⟩:=hT hs ps tys hG
 have hlp1:=hA1.sm _ _ hlp
 refine⟨_,rfl,_,_,rfl,.inl ⟨_,SqL.of hlp1,rfl⟩,_,rfl,_,_,rfl,.inl ⟨_,SqL.of hlp1,rfl⟩,.inl ⟨_,_,rfl,rfl,_,rfl,dd,.ref a',rfl,hA1.gr,z1,λp hp=>⟨z1,λlb hlb=> ?_⟩⟩⟩
 have s1:=A7 hp (.tup [.str "back"])
 have s2:=A7 hlb (.lst [.ref p])
 refine .inr (.inl ⟨a',lb,_,_,rfl,rfl,s2 _ _ (s1 _ _ hA1.ha),A5,R4 _ (by rw[<-hA1.hr.len];show rows'.length+1<=950;omega)|>le_of_lt,λlr hlr'=> ?_⟩)
 have s3:=A7 hlr' (.lst (rs'++ [.ref p]))
 refine⟨lr,_,rfl,.inl ⟨SqL.of A5,λtr htr=>⟨z3,λt2 ht2=> ?_⟩⟩⟩
 have s4:=A7 htr (.tup (rs'++ [.ref p]))
 have s5:=A7 ht2 (.tup [.int ((ps.map kv).length:Nat),.int (((ps.map kv).length:Nat)+3),.ref tr])
 have sA:=s1.trans (s2.trans (s3.trans (s4.trans s5)))
 refine q ⟨ps.length,ps.length+3,rows'++ [.back]⟩ (.ref t2) _ (hA1.sm.trans sA) ⟨t2,tr,rs'++ [.ref p],rfl, ?_,s5 _ _ A5, ?_,by show ps.length+3<=100;omega⟩ ⟨_,hG'.block hps (by omega) (by omega) ?_⟩
 ·rw[A5,lps];rfl
 ·exact(hA1.hr.imp λ_ _ z=>z.mo (B8 sA)).app (.cons ⟨p,rfl,(s2.trans (s3.trans (s4.trans s5))) _ _ A5⟩ .nil)
 ·show wts rows'<=8
  rw[hw];omega
end
noncomputable abbrev s_law_heads:Stmt:=CL.top 44
noncomputable abbrev DN:List Str:=["_law_cell","_law_many","_law_main","_law_heads_here","_law_b","_law_one","_law_params"]
theorem sc_law_heads:FnScope DN q1L (B4 s_law_heads):=fS
noncomputable def Hd2(H:Hp)(hp:Addr)(h:List Kd×Kd)(u:V):Prop:=∃t lp,u=.ref t/\H t=some (.tup [.ref lp,kv h.2])/\H lp=some (.lst (h.1.map kv))/\lp≠hp
theorem Hd2.same{H H':Hp}{hp:Addr}(s:Same H H'){h:List Kd×Kd}{u:V}(z:Hd2 H hp h u):Hd2 H' hp h u:=let⟨t,lp,e,h1,h2,h3⟩:=z;⟨t,lp,e,s _ _ h1,s _ _ h2,h3⟩
theorem Hd2.upd{H:Hp}{hp:Addr}{xs ys:List V}(e:H hp=some (.lst xs)){h:List Kd×Kd}{u:V}(z:Hd2 H hp h u):Hd2 (upd H hp (.lst ys)) hp h u:=by
 obtain⟨t,lp,e1,h1,h2,h3⟩:=z
 exact⟨t,lp,e1,by rw[B5 λz=>by rw[z,e]at h1;cases h1];exact h1,by rw[B5 h3];exact h2,h3⟩
theorem YW{α β:Type}{R:α->β->Prop}{xs:List α}{ys:List β}(h:All2 R xs ys){x:α}{y:β}(hx:R x y):∀k:Nat,All2 R (xs.set k x) (ys.set k y):=by
 induction h with
 |nil=>exact λk=> .nil
 |cons h1 h2 ih=>
  intro k
  cases k with
  |zero=>exact .cons hx h2
  |succ k=>exact .cons h1 (ih k)
theorem dPZ(m:Nat):(List.replicate m [V.str "n"]).flatten=(List.replicate m Kd.n).map kv:=by
 rw[v_n]
 induction m with
 |zero=>rfl
 |succ m ih=>rw[replicate_succ,replicate_succ,flatten_cons,ih];rfl
theorem bwZ{j:Nat}(h:j<6):∃c k,("nnlLtF":Str).cps.toList[j]? =some c/\V.str ⟨#[c]⟩=kv k/\Bas k:=by
 have e:("nnlLtF":Str).cps.toList=[110,110,108,76,116,70]:=by decide +kernel
 rw[e]
 match j,h with
 |0,_=>exact⟨_,.n,rfl,rfl,.inl rfl⟩
 |1,_=>exact⟨_,.n,rfl,rfl,.inl rfl⟩
 |2,_=>exact⟨_,.l,rfl,rfl,.inr (.inr (.inl rfl))⟩
 |3,_=>exact⟨_,.L,rfl,rfl,.inr (.inr (.inr (.inl rfl)))⟩
 |4,_=>exact⟨_,.t,rfl,rfl,.inr (.inl rfl)⟩
 |5,_=>exact⟨_,.F,rfl,rfl,.inr (.inr (.inr (.inr rfl)))⟩
theorem dVZ{j:Nat}(h:j<6):∃c k,("nnlLtl":Str).cps.toList[j]? =some c/\V.str ⟨#[c]⟩=kv k/\(k=.n\/k=.t\/k=.l\/k=.L):=by
 have e:("nnlLtl":Str).cps.toList=[110,110,108,76,116,108]:=by decide +kernel
 rw[e]
 match j,h with
 |0,_=>exact⟨_,.n,rfl,rfl,.inl rfl⟩
 |1,_=>exact⟨_,.n,rfl,rfl,.inl rfl⟩
 |2,_=>exact⟨_,.l,rfl,rfl,.inr (.inr (.inl rfl))⟩
 |3,_=>exact⟨_,.L,rfl,rfl,.inr (.inr (.inr rfl))⟩
 |4,_=>exact⟨_,.t,rfl,rfl,.inr (.inl rfl)⟩
 |5,_=>exact⟨_,.l,rfl,rfl,.inr (.inr (.inl rfl))⟩
section
variable{P:Program}{w:World}{K:FZ}{mg:Str->Option Value}{base:Heap}{f:Addr}{fd:FuncData}
noncomputable def bLZ(hs:Hs)(main m:Nat)(mt:Kd):Prop:=hs[main]? =some (List.replicate m .n,mt)/\m<=3/\(mt=.n\/mt=.t\/mt=.l\/mt=.L)
inductive spHeadsLW (vs:List V) (H:Hp) (Q:VK):Prop
 |mk:∀(cell:Int) (many main:Nat),(vs=[.int cell,.int (many:Nat),.int (main:Nat)])->(main<many)->(many<=4)->(∀hp hs m mt H',Same H H'->cHZ H' hp hs->XN hs->hs.length=many->bLZ hs main m mt->Q (.ref hp) H')->spHeadsLW vs H Q
noncomputable def NR:Sp:=λvs H Q _=>spHeadsLW vs H Q
theorem ok_law_heads(F:Fun K "_law_heads" "_law_heads" s_law_heads f fd)(B:BV.NoG mg):FnOk P w K mg base CX0 1 f fd q1L NR:=by
 refine F.ok sc_law_heads (λvs H Q E h=> ?_) (λcdv A outer s H vs Q E hr h=> ?_)
 ·obtain⟨cell,many,main,rfl,_⟩:=h
  rfl
 obtain⟨cell,many,main,rfl,hmm,hm4,q⟩:=h
 have nd:=sc_law_heads.nd
 have hu:=hr.units0
 refine⟨_,(A8 (C7 (i:=3) nd rfl (Or.inl rfl) (E6 A6))
   (A8 (E1 (T3 PassesOwn.never rfl (M2 rfl B.range_ (A0 (pv 1) A6)) (J3 (i:=4) nd rfl (Or.inl rfl)) (A8 (C7 (i:=5) nd rfl (Or.inr rfl) (B7 E4 (B7 KS (B7 (N4 (K:=K)) (pv 0) (B7 KS A9 (pv 4))) A9) A9))
   (A8 (S6 (i:=6) nd rfl rfl (cS (N:=DN) (sc:=B4 s_law_heads) (caps:=[5]) (ns:=["_law_one"])) rfl rfl rfl (M2 rfl B.range_ (A0 (B7 E4 (pv 5) A9) A6)) (λ_ _ _ _ _=>AF) (λ_ _ _ _ _=>(FW ix_str B1 (B7 E4 (B7 D5 (B7 D5 (pv 1) A9) (ixE K w (E6 (A0 A9 (A0 A9 (A0 A9 A6)))) (pv 0))) A9) (λ_ _=>rfl))))
   (B0 (C3 (M1 (K:=K) PySem.F.plainAttrs_list PySem.F.slot_list_append PySem.F.type_list_append C8 (pv 3) (A0 (C1 (A0 (pv 6) (A0 (FW ix_str B1 (B7 E4 (B7 D5 (pv 5) A9) A9) (λ_ _=>rfl)) A6))) A6))))))))
   (A8 (Q3 (C1 (A0 (B7 KS (E6 (A0 B1 A6)) (C4 (J8 (K:=K)) rfl B.len_ G1 (A0 (ixE K w (ixE K w (pv 3) (pv 2)) A9) A6))) (A0 (FW ix_str B1 (B7 E4 (pv 0) A9) (λ_ _=>rfl)) A6))) (U3 (pv 3) (pv 2) T2))
   (B0 (C2 (pv 3)))))), ?_⟩
 refine⟨zero_le _,λhp hhp=> ?_⟩
 have s0:=A7 hhp (.lst [])
 have x0:upd H hp (.lst []) hp=some (.lst []):=A5
 show O6 _ _ _ [some (.int cell),some (.int (many:Nat)),some (.int (main:Nat)),some (.ref hp),none,none,none] (upd H hp (.lst []))
 generalize upd H hp (.lst [])=H0 at s0 x0⊢
 refine⟨fun σ' H'=>∃x4 x5 x6 us hs,σ'=[some (.int cell),some (.int (many:Nat)),some (.int (main:Nat)),some (.ref hp),x4,x5,x6]/\Same H H'/\H' hp=some (.lst us)/\All2 (Hd2 H' hp) hs us/\hs.length=many/\XN hs, ?_, ?_⟩
 ·refine⟨_,rfl,(many:Nat),rfl,by omega,by omega,AD (n:=many) (λi σ' H'=>∃x4 x5 x6 us hs,σ'=[some (.int cell),some (.int (many:Nat)),some (.int (main:Nat)),some (.ref hp),x4,x5,x6]/\Same H H'/\H' hp=some (.lst us)/\All2 (Hd2 H' hp) hs us/\hs.length=i/\XN hs) ⟨none,none,none,[],[],rfl,s0,x0,.nil,rfl,λh hh=>(nomatch hh)⟩ ?_ (λ_ _ h=>h)⟩
  rintro i σ H1 hi ⟨x4,x5,x6,us,hs,rfl,s1,hus,hA,hli,hok⟩
  have lus:=hA.len
  refine⟨_,rfl,_,rfl,.inl ⟨_,_,rfl,rfl,.inl ⟨by decide,by decide⟩,.inl ⟨_,_,rfl,rfl,.inl ⟨_,_,rfl,rfl,.inr ⟨by decide,by decide⟩,_,_,rfl,rfl,(by decide:(0:Int)<2147483647), ?_⟩⟩⟩⟩
  show O6 _ _ _ [some (.int cell),some (.int (many:Nat)),some (.int (main:Nat)),some (.ref hp),some (.int (0+(i:Nat))),some (.int ((cell+7919*(0+(i:Nat)))*48271%2147483647)),x6] H1
  generalize(cell+7919*(0+(i:Nat)))*48271%2147483647=one
  obtain⟨m4,(e4:one%4=(m4:Int)),hm4'⟩:=X3 one (m:=4) (by decide)
  refine⟨_,rfl,_,_,rfl,rfl,(by decide:(0:Int)<4),(m4:Int),congrArg (λz=> [V.int z]) e4,by omega,by omega,Q5 (n:=m4) (λj ys H2=>Same H1 H2/\∃ks:List Kd,ys=ks.map kv/\ks.length=j/\∀k∈ks,Bas k) ⟨Same.refl _,[],rfl,rfl,λk hk=>(nomatch hk)⟩ ?_ ?_ ?_⟩
  ·rintro j ys H2 hj ⟨_,ks,rfl,hk,_⟩
   rw[length_map,hk]
   exact le_trans hj (le_trans (le_of_lt hm4') (by decide))
  ·rintro j ys H2 hj ⟨s2,ks,rfl,hk,hb⟩
   obtain⟨dv,hdv,dp⟩:∃dv:Int,[V.int 1,V.int 6,V.int 36][j]? =some (.int dv)/\0<dv/\dv<2^60:=by
    have:j=0\/j=1\/j=2:=by omega
    rcases this with rfl|rfl|rfl
    ·exact⟨1,rfl,by decide,by decide⟩
    ·exact⟨6,rfl,by decide,by decide⟩
    ·exact⟨36,rfl,by decide,by decide⟩
   obtain⟨g,(eg:(one.fdiv 4).fdiv dv%6=(g:Int)),hg⟩:=X3 ((one.fdiv 4).fdiv dv) (m:=6) (by decide)
   obtain⟨cc,k,t2,t3,hkb⟩:=bwZ hg
   refine⟨_,rfl,_,_,rfl,rfl,lg (by decide) (by decide),z3,λl hl=>⟨_,rfl,.inl ⟨l,_,(j:Nat),_,rfl,(by rw[Int.zero_add]),SqL.of A5,D3 hdv,_,_,rfl,rfl,lg dp.1 dp.2,_,_,rfl,rfl,(by decide:(0:Int)<6),_,(g:Int),cc,rfl,congrArg V.int eg,by decide +kernel,D3 t2,s2.trans (A7 hl _),ks++ [k], ?_, ?_, ?_⟩⟩⟩
   ·rw[t3,map_append];rfl
   ·rw[length_append,hk];rfl
   ·intro x hx
    rcases mem_append.mp hx with hx|hx
    ·exact hb x hx
    ·rw[sZ hx];exact hkb
  rintro ys H2 ⟨s2,ks,rfl,hk,hb⟩
  intro lp hlp
  have s3:=A7 hlp (.lst (ks.map kv))
  have x3:upd H2 lp (.lst (ks.map kv)) lp=some (.lst (ks.map kv)):=A5
  have nlp:lp≠hp:=λz=>by rw[z,s2 _ _ hus]at hlp;cases hlp
  show O6 _ _ _ [some (.int cell),some (.int (many:Nat)),some (.int (main:Nat)),some (.ref hp),some (.int (0+(i:Nat))),some (.int one),some (.ref lp)] (upd H2 lp (.lst (ks.map kv)))
  generalize upd H2 lp (.lst (ks.map kv))=H3 at s3 x3⊢
  obtain⟨g,(eg:one.fdiv 997%6=(g:Int)),hg⟩:=X3 (one.fdiv 997) (m:=6) (by decide)
  obtain⟨cc,k,t2,t3,hkb⟩:=bwZ hg
  have hus3:=s3 _ _ (s2 _ _ hus)
  refine⟨_,rfl,.inl ⟨rfl,_,SqL.of hus3⟩,_,rfl,_,rfl,_,_,rfl,rfl,lg (by decide) (by decide),_,_,rfl,rfl,(by decide:(0:Int)<6),_,(g:Int),cc,rfl,congrArg V.int eg,by decide +kernel,D3 t2,z2,λt ht=> ?_⟩
  have s4:=A7 ht (.tup [.ref lp,.str ⟨#[cc]⟩])
  have hus4:=s4 _ _ hus3
  have hdA:All2 (Hd2 (upd H3 t (.tup [.ref lp,.str ⟨#[cc]⟩])) hp) (hs++ [(ks,k)]) (us++ [.ref t]):=(hA.imp λ_ _ z=>z.same (s2.trans (s3.trans s4))).app (.cons ⟨t,lp,rfl,by rw[A5,t3],s4 _ _ x3,nlp⟩ .nil)
  refine⟨hp,us,.ref t,rfl,rfl,hus4,R4 _ (by rw[<-lus];omega),_,_,_,us++ [.ref t],hs++ [(ks,k)],rfl,Z3 (s1.trans (s2.trans (s3.trans s4))) hhp _,A5,hdA.imp λ_ _ z=>z.upd hus4,by rw[length_append,hli];rfl, ?_⟩
  intro h hh
  rcases mem_append.mp hh with hh|hh
  ·exact hok h hh
  ·rw[sZ hh];exact⟨by show ks.length<=3;omega,hb,hkb⟩
 rintro _ H1 ⟨x4,x5,x6,us,hs,rfl,s1,hus,hA,hli,hok⟩
 have lus:=hA.len
 obtain⟨⟨ps,k0⟩,hps⟩:∃h,hs[main]? =some h:=⟨_,List.getElem?_eq_getElem (by omega)⟩
 obtain⟨u,hu1,t,lp,rfl,ht,hlp,nlp⟩:=J1 hA hps
 obtain⟨p3,pb,tb⟩:=hok _ (mem_of_getElem? hps)
 simp only at ht hlp p3
 obtain⟨g,(eg:cell%6=(g:Int)),hg⟩:=X3 cell (m:=6) (by decide)
 obtain⟨cc,mt,t2,t3,hmt⟩:=dVZ hg
 have lps:(ps.map kv).length=ps.length:=length_map ..
 refine⟨z1,λln hln=> ?_⟩
 have s2:=A7 hln (.lst [.str "n"])
 refine⟨_,rfl,_,rfl,(ixL (s2 _ _ hus) (D3 hu1) (ixT (s2 _ _ ht) (D3 (j:=0) rfl) ⟨_,_,rfl,.inl ⟨_,SqL.of (s2 _ _ hlp),rfl⟩,.inr (.inr ⟨ln,_,_,rfl,rfl,A5,by omega,by rw[lps];omega, ?_,λlr hlr=> ?_⟩)⟩))⟩
 ·rw[lps,Int.toNat_natCast]
  show 1*ps.length<=sizeLine
  rw[Nat.one_mul]
  exact le_trans p3 (by decide)
 have er:(List.replicate (((ps.map kv).length:Nat):Int).toNat [V.str "n"]).flatten=(List.replicate ps.length Kd.n).map kv:=by rw[lps,Int.toNat_natCast,dPZ]
 have s3:=A7 hlr (.lst (List.replicate (((ps.map kv).length:Nat):Int).toNat [V.str "n"]).flatten)
 have x3:=A5 (H:=upd H1 ln (.lst [.str "n"])) (a:=lr) (o:=.lst (List.replicate (((ps.map kv).length:Nat):Int).toNat [V.str "n"]).flatten)
 rw[er]at x3 s3
 have nlr:lr≠hp:=λz=>by rw[z,s2 _ _ hus]at hlr;cases hlr
 refine⟨_,rfl,_,_,rfl,rfl,(by decide:(0:Int)<6),_,(g:Int),cc,rfl,congrArg V.int eg,by decide +kernel,D3 t2,z2,λt9 ht9=> ?_⟩
 rw[er]at ht9⊢
 have s4:=A7 ht9 (.tup [.ref lr,.str ⟨#[cc]⟩])
 have hus4:=s4 _ _ (s3 _ _ (s2 _ _ hus))
 have hdA:=YW (hA.imp λ_ _ z=>z.same (s2.trans (s3.trans s4))) (x:=(List.replicate ps.length Kd.n,mt)) (y:=.ref t9) ⟨t9,lr,rfl,by rw[A5,t3],s4 _ _ x3,nlr⟩ main
 have hix:ixN us.length (main:Int)=some main:=by
  unfold ixN
  rw[if_pos (by omega),if_pos (by omega)]
  simp
 refine⟨_,rfl,_,rfl,hp,us,(main:Nat),main,rfl,rfl,hus4,hix, ?_⟩
 refine⟨_,rfl,q hp (hs.set main (List.replicate ps.length .n,mt)) ps.length mt _ (Z3 (s1.trans (s2.trans (s3.trans s4))) hhp _) ⟨_,A5, ?_⟩ ?_ (by rw[List.length_set];exact hli) ⟨?_,p3,hmt⟩⟩
 ·refine(hdA.imp λ_ _ z=>z.upd (ys:=us.set main (.ref t9)) hus4).imp λ_ _ z=> ?_
  obtain⟨t',lp',e1,e2,e3,_⟩:=z
  exact⟨t',lp',e1,e2,e3⟩
 ·intro h hh
  rcases List.mem_or_eq_of_mem_set hh with hh|hh
  ·exact hok h hh
  ·rw[hh]
   refine⟨by show(List.replicate ps.length Kd.n).length<=3;rw[length_replicate];exact p3,λk hk=> .inl (List.eq_of_mem_replicate hk), ?_⟩
   show Bas mt
   rcases hmt with h|h|h|h
   ·exact .inl h
   ·exact .inr (.inl h)
   ·exact .inr (.inr (.inl h))
   ·exact .inr (.inr (.inr (.inl h)))
 ·rw[List.getElem?_set_self (by omega)]
end
noncomputable abbrev s_law_program:Stmt:=CL.top 53
noncomputable abbrev AL:List Str:=["_law_script","_law_many","_law_main","_law_heads_here","_law_blocks","_law_b","_law_numbers"]
theorem sc_law_program:FnScope AL VN (B4 s_law_program):=fS
section
variable{P:Program}{w:World}{K:FZ}{mg:Str->Option Value}{base:Heap}{f T8 L8 MD MP:Addr}{fd U1 M0 LV LQ:FuncData}
inductive spBlockAW(vs:List V)(H:Hp)(Q:VK)(E:XK):Prop
 |mk:∀hs,(KC hs vs H Q E)->spBlockAW vs H Q E
noncomputable def NF:Sp:=λvs H Q E=>spBlockAW vs H Q E
theorem block_any(h:∀hs,FnOk P w K mg base CX0 5 f fd q4L (KC hs)):FnOk P w K mg base CX0 5 f fd q4L NF:=
 ⟨λvs H Q E ⟨hs,z⟩=>(h hs).len vs H Q E z,λA outer s H args us vs Q E hr he hb hv ⟨hs,z⟩=>(h hs).run A outer s H args us vs Q E hr he hb hv z⟩
structure PgAt (H:Hp) (bl nu:Addr) (hs:Hs) (bs:List Bk) (main m:Nat) (mt:Kd) (xs:List Int):Prop where
 bl:∃vb,H bl=some (.lst vb)/\All2 (BAt H) bs vb
 ok:YQ hs bs
 len:bs.length=hs.length
 few:hs.length<=4
 mh:bLZ hs main m mt
 nu:H nu=some (.lst (xs.map V.int))
 xl:xs.length=m
 xb:∀i∈xs,Bd i
inductive spProgramW (K:FZ) (vs:List V) (H:Hp) (Q:VK):Prop
 |mk:∀(a:Addr) (ns:List Int),(vs=[.ref a])->(SqL K H a (ns.map V.int))->(ns.length<=63)->(∀t bl nu hs bs main m mt xs H',Same H H'->H' t=some (.tup [.ref bl,.int (main:Nat),.ref nu])->PgAt H' bl nu hs bs main m mt xs->Q (.ref t) H')->spProgramW K vs H Q
noncomputable def IK(K:FZ):Sp:=λvs H Q _=>spProgramW K vs H Q
theorem ok_law_program(F:Fun K "_law_program" "_law_program" s_law_program f fd)(B:BV.NoG mg)
  (E8:Cn P w K mg base CX0 1 "_law_cell_at" q9L (BJ K))
  (E3:Cn P w K mg base CX0 1 "_law_number" q2L spNumB)
  (X8:Cn P w K mg base CX0 1 "_law_heads" q1L NR)
  (X7:Cn P w K mg base CX0 5 "_law_block" q4L NF):
  FnOk P w K mg base CX0 6 f fd VN (IK K):=by
 obtain⟨T8,U1,E8,J5,J7,J6⟩:=E8
 obtain⟨L8,M0,E3,L5,L9,L6⟩:=E3
 obtain⟨MD,LV,X8,ML,LZ,MH⟩:=X8
 obtain⟨MP,LQ,X7,LW,LX,LU⟩:=X7
 refine F.ok sc_law_program (λvs H Q E h=> ?_) (λcdv A outer s H vs Q E hr h=> ?_)
 ·obtain⟨a,ns,rfl,_⟩:=h
  rfl
 obtain⟨a,ns,rfl,hS,hns,q⟩:=h
 have nd:=sc_law_program.nd
 have hu:=hr.units0
 refine⟨_,(A8 (C7 (i:=1) nd rfl (Or.inl rfl) (B7 (N4 (K:=K)) A9 (B7 E4 (B6 E8 (hr.mono (by omega)) rfl J6 J7 J5 .nil C0 (A0 (pv 0) (A0 A9 A6))) A9)))
   (A8 (C7 (i:=2) nd rfl (Or.inl rfl) (B7 E4 (B7 D5 (B6 E8 (hr.mono (by omega)) rfl J6 J7 J5 .nil C0 (A0 (pv 0) (A0 A9 A6))) A9) (pv 1)))
   (A8 (C7 (i:=3) nd rfl (Or.inl rfl) (B6 X8 (hr.mono (by omega)) rfl MH LZ ML .nil C0 (A0 (B6 E8 (hr.mono (by omega)) rfl J6 J7 J5 .nil C0 (A0 (pv 0) (A0 A9 A6))) (A0 (pv 1) (A0 (pv 2) A6)))))
   (A8 (C7 (i:=4) nd rfl (Or.inl rfl) (E6 A6))
   (A8 (E1 (T3 PassesOwn.never rfl (M2 rfl B.range_ (A0 (pv 1) A6)) (J3 (i:=5) nd rfl (Or.inl rfl)) (B0 (C3 (M1 (K:=K) PySem.F.plainAttrs_list PySem.F.slot_list_append PySem.F.type_list_append C8 (pv 4) (A0 (B6 X7 (hr.mono (by omega)) rfl LU LX LW .nil C0 (A0 (G4 (AG (K:=K)) (pv 0) (G6 (B7 (N4 (K:=K)) A9 (B7 KS A9 (pv 5)))) (G6 (B7 (N4 (K:=K)) A9 (B7 KS A9 (pv 5))))) (A0 (pv 3) (A0 (pv 5) A6)))) A6))))))
   (A8 (S6 (i:=6) nd rfl rfl (cS (N:=AL) (sc:=B4 s_law_program) (caps:=[0]) (ns:=VN)) rfl rfl rfl (M2 rfl B.range_ (A0 (C4 (J8 (K:=K)) rfl B.len_ G1 (A0 (ixE K w (ixE K w (pv 3) (pv 2)) A9) A6)) A6)) (λ_ _ _ _ _=>AF) (λ_ _ _ _ _=>(B6 E3 (hr.mono (by omega)) rfl L6 L9 L5 .nil C0 (A0 (B6 E8 (hr.mono (by omega)) rfl J6 J7 J5 .nil C0 (A0 (pv 1) (A0 (B7 (N4 (K:=K)) A9 (pv 0)) A6))) A6))))
   (B0 (C2 (C1 (A0 (pv 4) (A0 (pv 2) (A0 (pv 6) A6)))))))))))), ?_⟩
 have hcs:∀lo hi,∃cs:List Int,J9 (ns.map V.int) lo hi=cs.map V.int:=λlo hi=>by
  refine⟨((ns.drop (HT.sIx (ns.map V.int).length 0 lo)).take (HT.sIx (ns.map V.int).length (ns.map V.int).length hi - HT.sIx (ns.map V.int).length 0 lo)), ?_⟩
  unfold J9
  rw[<-map_drop,<-List.map_take]
 obtain⟨k4,(e4:N6 ns 0%4=(k4:Int)),h4⟩:=X3 (N6 ns 0) (m:=4) (by decide)
 refine⟨_,rfl,a,ns,0,rfl,hS,by decide,_,_,rfl,rfl,(by decide:(0:Int)<4),.inl ⟨_,_,rfl,rfl, ?_⟩⟩
 show O6 _ _ _ [some (.ref a),some (.int (1+N6 ns 0%4)),none,none,none,none,none] H
 obtain⟨many,em⟩:∃k:Nat,(1:Int)+N6 ns 0%4=(k:Int):=⟨1+k4,by rw[e4];omega⟩
 have hm1:1<=many/\many<=4:=by rw[e4]at em;omega
 rw[em]
 obtain⟨main,(emn:(N6 ns 0).fdiv 4%(many:Nat)=(main:Int)),hmn⟩:=X3 ((N6 ns 0).fdiv 4) (m:=many) (by omega)
 refine⟨_,rfl,a,ns,0,rfl,hS,by decide,_,_,rfl,rfl,lg (by decide) (by decide),_,rfl,_,_,rfl,rfl,(by omega:(0:Int)<(many:Nat)), ?_⟩
 show O6 _ _ _ [some (.ref a),some (.int (many:Int)),some (.int ((N6 ns 0).fdiv 4%(many:Nat))),none,none,none,none] H
 rw[emn]
 refine⟨_,rfl,a,ns,1,rfl,hS,by decide,_,rfl,_,rfl,N6 ns 1,many,main,rfl,hmn,hm1.2,λhp hs m mt H1 s1 hHs hok hlen hmh=> ?_⟩
 refine⟨zero_le _,λbl hbl=> ?_⟩
 have s2:=A7 hbl (.lst [])
 have x2:upd H1 bl (.lst []) bl=some (.lst []):=A5
 show O6 _ _ _ [some (.ref a),some (.int (many:Int)),some (.int (main:Int)),some (.ref hp),some (.ref bl),none,none] (upd H1 bl (.lst []))
 generalize upd H1 bl (.lst [])=H2 at s2 x2⊢
 have hbl0:H bl=none:=by
  cases e:H bl with
  |none=>rfl
  |some o=>rw[s1 _ _ e]at hbl;cases hbl
 refine⟨fun σ' H'=>∃x5 vb bs,σ'=[some (.ref a),some (.int (many:Int)),some (.int (main:Int)),some (.ref hp),some (.ref bl),x5,none]/\Same H1 H'/\H' bl=some (.lst vb)/\All2 (BAt H') bs vb/\bs.length=many/\∀b bk,bs[b]? =some bk->∃ps k tys,hs[b]? =some (ps,k)/\BkOk hs b bk ps k tys, ?_, ?_⟩
 ·refine⟨_,rfl,(many:Nat),rfl,by omega,by omega,AD (n:=many) (λi σ' H'=>∃x5 vb bs,σ'=[some (.ref a),some (.int (many:Int)),some (.int (main:Int)),some (.ref hp),some (.ref bl),x5,none]/\Same H1 H'/\H' bl=some (.lst vb)/\All2 (BAt H') bs vb/\bs.length=i/\∀b bk,bs[b]? =some bk->∃ps k tys,hs[b]? =some (ps,k)/\BkOk hs b bk ps k tys) ⟨none,[],[],rfl,s2,x2,.nil,rfl,λb bk h=>by simp at h⟩ ?_ (λ_ _ h=>h)⟩
  rintro i σ H3 hi ⟨x5,vb,bs,rfl,s3,hvb,hB,hli,hbk⟩
  obtain⟨⟨ps,k⟩,hps⟩:∃h,hs[i]? =some h:=⟨_,List.getElem?_eq_getElem (by omega)⟩
  obtain⟨us,hus,hhs⟩:=id hHs
  refine⟨_,rfl,.inl ⟨rfl,_,SqL.of hvb⟩,_,rfl,_,rfl,.inl ⟨_,_,rfl,rfl,.inl ⟨by decide,by decide⟩,.inl ⟨_,_,rfl,rfl,_,rfl,_,rfl,.inl ⟨_,_,rfl,rfl,.inl ⟨by decide,by decide⟩,.inl ⟨_,_,rfl,rfl,_,rfl,.inl (.inl ⟨a,_,rfl,s3.seq (s1.seq hS),λce hce=> ?_⟩)⟩⟩⟩⟩⟩
  obtain⟨cs,ecs⟩:=hcs (some (7+8*(0+(i:Int)))) (some (15+8*(0+(i:Int))))
  have s4:=A7 hce (.lst (J9 (ns.map V.int) (some (7+8*(0+(i:Int)))) (some (15+8*(0+(i:Int))))))
  have hcl:cs.length<=8:=by
   have:=congrArg List.length ecs
   rw[length_map]at this
   rw[<-this]
   unfold J9
   rw[length_take]
   have e1:(7:Int)+8*(0+(i:Int))=((7+8*i:Nat):Int):=by omega
   have e2:(15:Int)+8*(0+(i:Int))=((15+8*i:Nat):Int):=by omega
   rw[e1,e2,HT.sIx_nat,HT.sIx_nat]
   omega
  refine⟨_,rfl,_,rfl,hs,ce,hp,cs,i,ps,k,(by rw[Int.zero_add];rfl), ?_,hcl, ?_,hok,by omega,hps,λbk u H5 s5 hu5 hbo=> ?_⟩
  ·rw[A5,ecs]
  ·have sS:=s3.trans s4
   exact⟨us,sS _ _ hus,hhs.imp λ_ _ z=>let⟨t,lp,e,h1,h2⟩:=z;⟨t,lp,e,sS _ _ h1,sS _ _ h2⟩⟩
  have hvb5:=s5 _ _ (s4 _ _ hvb)
  have hB5:All2 (BAt H5) (bs++ [bk]) (vb++ [u]):=(hB.imp λ_ _ z=>z.mo (B8 (s4.trans s5))).app (.cons hu5 .nil)
  refine⟨bl,vb,u,rfl,rfl,hvb5,R4 _ (by rw[<-hB.len];omega),_,vb++ [u],bs++ [bk],rfl,Z3 (s3.trans (s4.trans s5)) hbl _,A5,hB5.imp λ_ _ z=>z.mo (KQ hvb5),by rw[length_append,hli];rfl,λb bk' hb=> ?_⟩
  rcases lt_or_ge b bs.length with hlt|hge
  ·rw[getElem?_append_left hlt]at hb
   exact hbk b bk' hb
  ·have eb:b=bs.length:=by
    have:=(List.getElem?_eq_some_iff.mp hb).1
    simp at this;omega
   subst eb
   rw[W2 rfl]at hb
   cases hb
   obtain⟨tys,hbo⟩:=hbo
   rw[hli]
   exact⟨ps,k,tys,hps,hbo⟩
 rintro _ H3 ⟨x5,vb,bs,rfl,s3,hvb,hB,hli,hbk⟩
 obtain⟨us,hus,hhs⟩:=id hHs
 obtain⟨hm0,hm3,hmt⟩:=id hmh
 obtain⟨u,hu1,t,lp,rfl,ht,hlp⟩:=J1 hhs hm0
 simp only at ht hlp
 have lrep:((List.replicate m Kd.n).map kv).length=m:=by rw[length_map,length_replicate]
 refine⟨_,rfl,_,rfl,(ixL (s3 _ _ hus) (D3 hu1) (ixT (s3 _ _ ht) (D3 (j:=0) rfl) ⟨_,_,rfl,.inl ⟨_,SqL.of (s3 _ _ hlp),rfl⟩,(m:Nat),(by rw[lrep]),by omega,by omega,Q5 (n:=m) (λj ys H4=>H4=H3/\∃xs:List Int,ys=xs.map V.int/\xs.length=j/\∀i∈xs,Bd i) ⟨rfl,[],rfl,rfl,λi hi=>(nomatch hi)⟩ ?_ ?_ ?_⟩))⟩
 ·rintro j ys H4 hj ⟨_,xs,rfl,hx,_⟩
  rw[length_map,hx]
  exact le_trans hj (le_trans hm3 (by decide))
 ·rintro j ys H4 hj ⟨rfl,xs,rfl,hx,hb⟩
  refine⟨_,rfl,_,rfl,.inl ⟨_,_,rfl,rfl,a,ns,_,rfl,s3.seq (s1.seq hS),by omega,_,rfl,λn hn=>⟨rfl,xs++ [n], ?_, ?_, ?_⟩⟩⟩
  ·rw[map_append];rfl
  ·rw[length_append,hx];rfl
  ·intro x hx'
   rcases mem_append.mp hx' with hx'|hx'
   ·exact hb x hx'
   ·rw[sZ hx'];exact hn
 rintro ys H4 ⟨rfl,xs,rfl,hx,hb⟩
 intro nu hnu
 have s5:=A7 hnu (.lst (xs.map V.int))
 refine⟨_,rfl,_,rfl,_,rfl,z3,λt9 ht9=> ?_⟩
 have s6:=A7 ht9 (.tup [.ref bl,.int (main:Nat),.ref nu])
 refine q t9 bl nu hs bs main m mt xs _ (s1.trans (s3.trans (s5.trans s6))) A5 ⟨⟨vb,s6 _ _ (s5 _ _ hvb),hB.imp λ_ _ z=>z.mo (B8 (s5.trans s6))⟩,λb ps k hb=> ?_,by omega,by omega,hmh,s6 _ _ A5,hx,hb⟩
 have hlt:b<bs.length:=by
  have:=(List.getElem?_eq_some_iff.mp hb).1
  omega
 obtain⟨ps',k',tys,h1,h2⟩:=hbk b _ (List.getElem?_eq_getElem hlt)
 rw[hb]at h1
 cases h1
 exact⟨_,tys,List.getElem?_eq_getElem hlt,h2⟩
end
end PG
namespace K67
open PySem L2 CL SW MC MT
open BV hiding ifT ifF NoG top
seal PE PT PW PA PS PSs PTs PI PG PGs PO
noncomputable def DqS(H:Hp):Nat->V->V->Prop
 |0,x,y=>KI x=true/\x=y
 |n+1,x,y=>(KI x=true/\x=y)\/∃a b xs ys,x=.ref a/\y=.ref b/\((H a=some (.tup xs)/\H b=some (.tup ys))\/(H a=some (.lst xs)/\H b=some (.lst ys)))/\xs.length<=1000/\All2 (DqS H n) xs ys
theorem DqS.mono{H H':Hp}(m:Same H H'):∀(n:Nat) {x y:V},DqS H n x y->DqS H' n x y
 |0,_,_,h=>h
 |n+1,_,_,h=>by
  rcases h with h|⟨a,b,xs,ys,e1,e2,h,hl,hA⟩
  ·exact .inl h
  ·refine .inr ⟨a,b,xs,ys,e1,e2, ?_,hl,hA.imp λ_ _ z=>DqS.mono m n z⟩
   rcases h with⟨h1,h2⟩|⟨h1,h2⟩
   ·exact .inl ⟨m _ _ h1,m _ _ h2⟩
   ·exact .inr ⟨m _ _ h1,m _ _ h2⟩
section
variable{P:Program}{w:World}{K:FZ}{mg:Str->Option Value}{base:Heap}{f:Addr}{fd:FuncData}
inductive spSameDW(n:Nat)(vs:List V)(H:Hp)(Q:VK):Prop
 |mk:∀x y,(vs=[x,y])->(DqS H n x y)->(∀H',Same H H'->Q (.bl true) H')->spSameDW n vs H Q
noncomputable def W4(n:Nat):Sp:=λvs H Q _=>spSameDW n vs H Q
theorem DS{n:Nat}{sp:Sp}(F:Fun K "_law_same" "_law_same" s_law_same f fd)(B:NoG mg)(P5:FnOk P w K mg base CX0 n f fd q5L sp)(hsp:∀m,n=m+1->sp=W4 m)
  (O0:Binds K fd q5L [])(O1:kZ K (.ref f)=true)(O2:mg "_law_same"=some (.ref f)):FnOk P w K mg base CX0 (n+1) f fd q5L (W4 n):=by
 refine F.ok sc_law_same (λvs H Q E h=> ?_) (λcdv A outer s H vs Q E hr h=> ?_)
 ·obtain⟨x,y,rfl,_⟩:=h
  rfl
 obtain⟨x,y,rfl,hd,q⟩:=h
 have nd:=sc_law_same.nd
 have hu:=hr.units0
 have zz:(1000:Nat)<=sizeLine:=by decide
 refine⟨_,(A8 (E1 (D8 (PW.pt (FX (B9 (kNe (K:=K) hu) (C4 (X0 (K:=K)) rfl B.isinstance_ E5 (A0 (pv 1) (A0 (M5 (v:=.ty "list") rfl B.list_ N2 rfl) A6))) (C4 (X0 (K:=K)) rfl B.isinstance_ E5 (A0 (pv 0) (A0 (M5 (v:=.ty "list") rfl B.list_ N2 rfl) A6))) rfl) (AZ (B9 (kNe (K:=K) hu) (C4 (X0 (K:=K)) rfl B.isinstance_ E5 (A0 (pv 1) (A0 (M5 (v:=.ty "tuple") rfl B.tuple_ N7 rfl) A6))) (C4 (X0 (K:=K)) rfl B.isinstance_ E5 (A0 (pv 0) (A0 (M5 (v:=.ty "tuple") rfl B.tuple_ N7 rfl) A6))) rfl)))) (B0 (C2 DP)) D2))
   (A8 (D8 (M3 (K:=K) (C4 (b3Z (K:=K)) rfl B.isinstance_ E5 (A0 (pv 1) (A0 (C1 (A0 (M5 (v:=.ty "list") rfl B.list_ N2 rfl) (A0 (M5 (v:=.ty "tuple") rfl B.tuple_ N7 rfl) A6))) A6))) (λ_=>rfl)) (B0 (C2 (QK (Q7 (kEq (K:=K) hu) (C4 (J8 (K:=K)) rfl B.len_ G1 (A0 (pv 0) A6)) (C4 (J8 (K:=K)) rfl B.len_ G1 (A0 (pv 1) A6)) rfl) (RI (C4 (d2Z (K:=K) rfl) rfl B.all_ b4Z (A0 (KM (cS (N:=FY) (sc:=B4 s_law_same) (caps:=[0,1]) (ns:=q5L)) rfl rfl rfl (M2 rfl B.range_ (A0 (C4 (J8 (K:=K)) rfl B.len_ G1 (A0 (pv 1) A6)) A6)) (λ_ _ _ _ _=>AF) (λ_ _ _ _ _=>(B6 P5 (hr.mono (by omega)) rfl O2 O1 O0 .nil C0 (A0 (ixE K w (pv 1) (pv 0)) (A0 (ixE K w (pv 2) (pv 0)) A6))))) A6)))))) D2)
   (A8 (E1 (D8 (PW.pt (FX (B9 (kNe (K:=K) hu) (C4 (X0 (K:=K)) rfl B.isinstance_ E5 (A0 (pv 1) (A0 (M5 (v:=.ty "bool") rfl B.bool_ TF rfl) A6))) (C4 (X0 (K:=K)) rfl B.isinstance_ E5 (A0 (pv 0) (A0 (M5 (v:=.ty "bool") rfl B.bool_ TF rfl) A6))) rfl) (AZ (B9 (kNe (K:=K) hu) (C4 (X0 (K:=K)) rfl B.isinstance_ E5 (A0 (pv 1) (A0 (M5 (v:=.ty "str") rfl B.str_ ZB rfl) A6))) (C4 (X0 (K:=K)) rfl B.isinstance_ E5 (A0 (pv 0) (A0 (M5 (v:=.ty "str") rfl B.str_ ZB rfl) A6))) rfl)))) (B0 (C2 DP)) D2))
   (B0 (C2 (QK (Q7 (kEq (K:=K) hu) (C4 (X0 (K:=K)) rfl B.isinstance_ E5 (A0 (pv 1) (A0 (M5 (v:=.ty "int") rfl B.int_ XV rfl) A6))) (C4 (X0 (K:=K)) rfl B.isinstance_ E5 (A0 (pv 0) (A0 (M5 (v:=.ty "int") rfl B.int_ XV rfl) A6))) rfl) (RI (Q7 (kEq (K:=K) hu) (pv 0) (pv 1) rfl)))))))), ?_⟩
 have hd2:(KI x=true/\x=y)\/∃a b xs ys m t,x=.ref a/\y=.ref b/\n=m+1/\xs.length<=1000/\All2 (DqS H m) xs ys/\TyOf K H x t/\TyOf K H y t/\(∃c,kitOne K t (.type "list")=some c)/\(∃c,kitOne K t (.type "tuple")=some c)/\
   kitAny K t [.type "list",.type "tuple"]=some true/\((H a=some (.tup xs)/\H b=some (.tup ys))\/(H a=some (.lst xs)/\H b=some (.lst ys))):=by
  cases n with
  |zero=>exact .inl hd
  |succ m=>
   rcases hd with hd|⟨a,b,xs,ys,rfl,rfl,⟨ha,hb⟩|⟨ha,hb⟩,hl,hA⟩
   ·exact .inl hd
   ·exact .inr ⟨a,b,xs,ys,m,_,rfl,rfl,rfl,hl,hA,.tup ha,.tup hb,⟨_,cOZ⟩,⟨_,PY⟩,doZ,.inl ⟨ha,hb⟩⟩
   ·exact .inr ⟨a,b,xs,ys,m,_,rfl,rfl,rfl,hl,hA,.lst ha,.lst hb,⟨_,ctZ⟩,⟨_,cKZ⟩,duZ,.inr ⟨ha,hb⟩⟩
 refine⟨fun σ H'=>σ=[some x,some y]/\H=H', ?_, ?_⟩
 ·have ht:∃t c d,TyOf K H x t/\TyOf K H y t/\kitOne K t (.type "list")=some c/\kitOne K t (.type "tuple")=some d:=by
   rcases hd2 with⟨hs,rfl⟩|⟨a,b,xs,ys,m,t,_,_,_,_,_,h1,h2,⟨c,hc⟩,⟨d,hd⟩,_⟩
   ·obtain⟨t,h1,h2⟩:=bGZ (K:=K) (H:=H) hs
    exact⟨t,_,_,h1,h1,h2.li,h2.tu⟩
   ·exact⟨t,c,d,h1,h2,hc,hd⟩
  obtain⟨t,c,d,h1,h2,hc,hd⟩:=ht
  refine⟨_,rfl,_,_,_,_,rfl,h2,hc,_,rfl,_,_,_,_,rfl,h1,hc,.inl ⟨rfl,_,rfl,ifF (by simp) ?_⟩⟩
  exact⟨_,rfl,_,_,_,_,rfl,h2,hd,_,rfl,_,_,_,_,rfl,h1,hd,.inl ⟨rfl,_,rfl,ifF (by simp) ⟨rfl,rfl⟩⟩⟩
 rintro σ H' ⟨rfl,rfl⟩
 refine⟨_,rfl,O3,λp hp=> ?_⟩
 have s1:=A7 hp (.tup [.ty "list",.ty "tuple"])
 rcases hd2 with⟨hs,rfl⟩|⟨a,b,xs,ys,m,t,rfl,rfl,rfl,hl,hA,h1,h2,_,_,hk,hab⟩
 ·obtain⟨t,h1,hS⟩:=bGZ (K:=K) (H:=upd H p (.tup [.ty "list",.ty "tuple"])) hs
  obtain⟨cb,hcb⟩:=hS.bl
  obtain⟨cs,hcs⟩:=hS.st
  obtain⟨ci,hci⟩:=hS.nt
  refine⟨x,_,_,t,false,p,rfl,SqT.of A5,h1,hS.bo,_,rfl,ifF nZ ?_⟩
  refine⟨fun σ H'=>σ=[some x,some x]/\upd H p (.tup [.ty "list",.ty "tuple"])=H', ?_, ?_⟩
  ·refine⟨_,rfl,_,_,_,_,rfl,h1,hcb,_,rfl,_,_,_,_,rfl,h1,hcb,.inl ⟨rfl,_,rfl,ifF (by simp) ?_⟩⟩
   exact⟨_,rfl,_,_,_,_,rfl,h1,hcs,_,rfl,_,_,_,_,rfl,h1,hcs,.inl ⟨rfl,_,rfl,ifF (by simp) ⟨rfl,rfl⟩⟩⟩
  rintro σ H' ⟨rfl,rfl⟩
  refine⟨_,rfl,_,_,_,_,rfl,h1,hci,_,rfl,_,_,_,_,rfl,h1,hci,.inl ⟨rfl,_,rfl,ifT (by simp) ⟨_,rfl,_,rfl,.inl ⟨aOZ hs, ?_⟩⟩⟩⟩
  have e:decide (x=x)=true:=by simp
  rw[e]
  exact q _ s1
 ·have hGs:FnOk P w K mg base CX0 (m+1) f fd q5L (W4 m):=hsp m rfl▸P5
  have hlen:=hA.len
  refine⟨.ref b,_,_,t,true,p,rfl,SqT.of A5,aFZ s1 h2,hk,_,rfl,ifT rfl ?_⟩
  have la:cYZ K (.ref a) (upd H p (.tup [.ty "list",.ty "tuple"])) xs.length:=by
   rcases hab with⟨ha,hb⟩|⟨ha,hb⟩
   ·exact .inr ⟨_,SqT.of (s1 _ _ ha),rfl⟩
   ·exact .inl ⟨_,SqL.of (s1 _ _ ha),rfl⟩
  have lb:cYZ K (.ref b) (upd H p (.tup [.ty "list",.ty "tuple"])) ys.length:=by
   rcases hab with⟨ha,hb⟩|⟨ha,hb⟩
   ·exact .inr ⟨_,SqT.of (s1 _ _ hb),rfl⟩
   ·exact .inl ⟨_,SqL.of (s1 _ _ hb),rfl⟩
  refine⟨_,rfl,_,_,rfl,la,_,rfl,_,_,rfl,lb,.inl ⟨rfl,_,rfl,ifT (by rw[hlen];simp) ?_⟩⟩
  refine⟨_,rfl,_,_,rfl,lb,_,rfl,by omega,by omega,Q5 (n:=ys.length) (λj zs H'=>zs=List.replicate j (.bl true)/\Same (upd H p (.tup [.ty "list",.ty "tuple"])) H') ⟨rfl,Same.refl _⟩ ?_ ?_ ?_⟩
  ·rintro i zs H' hi ⟨rfl,_⟩
   rw[length_replicate]
   omega
  ·rintro i zs H' hi ⟨rfl,sm⟩
   refine GC ?_
   have hx:i<xs.length:=by omega
   obtain⟨y,hy,hxy⟩:=hA.get' (List.getElem?_eq_getElem hx)
   have e0:(0:Int)+(i:Nat)=((i:Nat):Int):=by omega
   have a1:atI xs (0+(i:Nat))=some xs[i]:=by rw[e0];exact D3 (List.getElem?_eq_getElem hx)
   have a2:atI ys (0+(i:Nat))=some y:=by rw[e0];exact D3 hy
   have fin:W4 m [xs[i],y] H' (λy H3=>List.replicate i (V.bl true)++ [y]=List.replicate (i+1) (.bl true)/\Same (upd H p (.tup [.ty "list",.ty "tuple"])) H3) E:=
    ⟨_,_,rfl,DqS.mono (s1.trans sm) _ hxy,λH3 s3=>⟨by rw[List.replicate_succ'],sm.trans s3⟩⟩
   rcases hab with⟨ha,hb⟩|⟨ha,hb⟩
   ·exact⟨_,rfl,_,rfl,.inr (.inl ⟨a,xs,_,_,rfl,rfl,SqT.of (sm _ _ (s1 _ _ ha)),a1,_,rfl,_,rfl,.inr (.inl ⟨b,ys,_,_,rfl,rfl,SqT.of (sm _ _ (s1 _ _ hb)),a2,hsp m rfl▸fin⟩)⟩)⟩
   ·exact⟨_,rfl,_,rfl,.inl ⟨a,xs,_,_,rfl,rfl,SqL.of (sm _ _ (s1 _ _ ha)),a1,_,rfl,_,rfl,.inl ⟨b,ys,_,_,rfl,rfl,SqL.of (sm _ _ (s1 _ _ hb)),a2,hsp m rfl▸fin⟩⟩⟩
  ·rintro zs H' ⟨rfl,sm⟩ D hD
   refine⟨D,List.replicate ys.length true,rfl,SqL.of ?_, ?_⟩
   ·rw[A5,List.map_replicate]
   ·have e:(List.replicate ys.length true).all id=true:=by simp
    rw[e]
    exact q _ (s1.trans (sm.trans (A7 hD _)))
theorem ok_law_sameD(F:Fun K "_law_same" "_law_same" s_law_same f fd)(B:NoG mg)
  (O0:Binds K fd q5L [])(O1:kZ K (.ref f)=true)(O2:mg "_law_same"=some (.ref f)):∀n,FnOk P w K mg base CX0 (n+1) f fd q5L (W4 n)
 |0=>DS (sp:=WS) F B a7Z (λm h=>nomatch h) O0 O1 O2
 |n+1=>DS F B (ok_law_sameD F B O0 O1 O2 n) (λm h=>by injection h with h;rw[h]) O0 O1 O2
end
end K67
namespace PG
open PySem L2 CL SW MC MT
open K67 (DqS)
open BV hiding ifT ifF NoG top
section
variable{CM C Pt:Addr}
theorem V8{H H':Hp}(hT:Tb H Pt)(s:Same H H'):Tb H' Pt:=by
 obtain⟨qs,e1,e2,e3⟩:=hT
 refine⟨qs,s _ _ e1,e2, ?_⟩
 rcases e3 with e3|⟨c2,e3,e4⟩
 ·exact .inl e3
 ·exact .inr ⟨c2,e3,s _ _ e4⟩
theorem BB{H:Hp}(hT:Tb H Pt){b:Addr}{xs:List V}(h:H b=some (.tup xs)):b≠Pt:=λz=>by
 obtain⟨qs,e1,_⟩:=hT
 rw[z,e1]at h;cases h
theorem N5{H:Hp}(hT:Tb H Pt){b:Addr}{xs:List V}(h:H b=some (.lst xs)):b≠Pt:=λz=>by
 obtain⟨qs,e1,_⟩:=hT
 rw[z,e1]at h;cases h
theorem LF{H:Hp}{n:Nat}{a b:Addr}{xs ys:List V}(ha:H a=some (.tup xs))(hb:H b=some (.tup ys))(hl:xs.length<=1000)(h:All2 (DqS H n) xs ys):DqS H (n+1) (.ref a) (.ref b):=.inr ⟨a,b,xs,ys,rfl,rfl,.inl ⟨ha,hb⟩,hl,h⟩
theorem c7Z{H:Hp}{n:Nat}{a b:Addr}{xs ys:List V}(ha:H a=some (.lst xs))(hb:H b=some (.lst ys))(hl:xs.length<=1000)(h:All2 (DqS H n) xs ys):DqS H (n+1) (.ref a) (.ref b):=.inr ⟨a,b,xs,ys,rfl,rfl,.inr ⟨ha,hb⟩,hl,h⟩
theorem FF{H:Hp}{x:V}(h:KI x=true):∀n,DqS H n x x
 |0=>⟨h,rfl⟩
 |_+1=> .inl ⟨h,rfl⟩
theorem GI{cs:List Cl}:∀ {p t:PL.Pv} {x:Vl},VRa cs p x->VRa cs t x->p=t
 | .int i,t,x,h,h'=>by
  have e:x=.sc (.int i):=h
  subst e
  cases t with
  |int j=>have e:Vl.sc (.int i)=.sc (.int j):=h';injection e with e;injection e with e;rw[e]
  |bl b=>have e:Vl.sc (.int i)=.sc (.bl b):=h';injection e with e;cases e
  |nil=>have e:Vl.sc (.int i)=.sc .non:=h';injection e with e;cases e
  |cons a b=>obtain⟨k,_,_,e,_⟩:=h';cases e
 | .bl i,t,x,h,h'=>by
  have e:x=.sc (.bl i):=h
  subst e
  cases t with
  |int j=>have e:Vl.sc (.bl i)=.sc (.int j):=h';injection e with e;cases e
  |bl b=>have e:Vl.sc (.bl i)=.sc (.bl b):=h';injection e with e;injection e with e;rw[e]
  |nil=>have e:Vl.sc (.bl i)=.sc .non:=h';injection e with e;cases e
  |cons a b=>obtain⟨k,_,_,e,_⟩:=h';cases e
 | .nil,t,x,h,h'=>by
  have e:x=.sc .non:=h
  subst e
  cases t with
  |int j=>have e:Vl.sc .non=.sc (.int j):=h';injection e with e;cases e
  |bl b=>have e:Vl.sc .non=.sc (.bl b):=h';injection e with e;cases e
  |nil=>rfl
  |cons a b=>obtain⟨k,_,_,e,_⟩:=h';cases e
 | .cons a b,t,x,h,h'=>by
  obtain⟨k,x1,y1,e,hk,h1,h2⟩:=h
  subst e
  cases t with
  |int j=>have e:Vl.cell k=.sc (.int j):=h';cases e
  |bl b=>have e:Vl.cell k=.sc (.bl b):=h';cases e
  |nil=>have e:Vl.cell k=.sc .non:=h';cases e
  |cons c d=>
   obtain⟨k',x2,y2,e,hk',h1',h2'⟩:=h'
   injection e with e
   subst e
   rw[hk]at hk'
   injection hk' with z
   injection z with z1 z2
   subst z1 z2
   rw[GI h1 h1',GI h2 h2']
end
theorem ZJ{bs:List Bk}{most:Nat}{T T':Tm}(h:IE bs most T T')(ho:T'.out≠none):T'.frs=[]:=by
 obtain⟨fs,f,r,c,n,w,rfl,_,ha⟩:=h
 cases ha<;>first|rfl|exact absurd rfl ho
theorem cVZ{bs:List Bk}{most:Nat}{E T:Tm}{j:Nat}(h:TR bs most E j T)(hE:E.out≠none)(hT:T.out=none):E.frs=[]:=by
 induction h with
 |done=>exact absurd hT hE
 |step g ho st tr ih=>
  cases tr with
  |done=>exact ZJ st hE
  |step g' ho' st' tr'=>exact ih ho'
noncomputable def Lp(N:Nat)(G:PL.Pv->Prop)(p:PL.Pv):Prop:=(p=.nil\/∃h t,p=.cons h t)/\(PL.heads p).length<=N/\∀h∈PL.heads p,G h
noncomputable def Ip(p:PL.Pv):Prop:=(∃i,p=.int i)\/∃b,p=.bl b
noncomputable def KP(N:Nat):Kd->PL.Pv->Prop
 | .n,p=>Ip p
 | .t,p=>Ip p
 | .l,p=>Lp N Ip p
 | .L,p=>Lp N (Lp N Ip) p
 |_,_=>False
theorem azZ{hs:Hs}{N:Nat}{s:Sum Kd (List Kd)}{v:Tv}(h:Ty hs N s v):(s=.inl .n\/s=.inl .t->∃p,v=KD p/\Ip p/\PL.size p<=1)/\(s=.inl .l->∃p,v=KD p/\Lp N Ip p/\(PL.heads p).length=len v/\PL.size p<=len v+1)/\(s=.inl .L->∃p,v=KD p/\Lp N (Lp N Ip) p/\(PL.heads p).length=len v/\PL.size p<=len v*(N+1)+1):=by
 induction h with
 | @n i hb=>exact⟨λ_=>⟨.int i,rfl,.inl ⟨i,rfl⟩,le_refl _⟩,(λz=>nomatch z),(λz=>nomatch z)⟩
 | @t b=>exact⟨λ_=>⟨.bl b,rfl,.inr ⟨b,rfl⟩,le_refl _⟩,(λz=>nomatch z),(λz=>nomatch z)⟩
 |nil hp=>cases hp<;>exact⟨(λz=>by rcases z with z|z<;>cases z),λ_=>⟨.nil,rfl,⟨.inl rfl,zero_le _,λh hh=>(nomatch hh)⟩,rfl,by show 1<=_;omega⟩,λ_=>⟨.nil,rfl,⟨.inl rfl,zero_le _,λh hh=>(nomatch hh)⟩,rfl,by show 1<=_;omega⟩⟩
 | @pair p k h r hp h1 h2 hl ih1 ih2=>
  cases hp with
  |l=>
   obtain⟨a,ea,ia,sa⟩:=ih1.1 (.inl rfl)
   obtain⟨b,eb,ib,lb,sb⟩:=ih2.2.1 rfl
   refine⟨(λz=>by rcases z with z|z<;>cases z),λ_=>⟨.cons a b,by rw[ea,eb];rfl,⟨.inr ⟨a,b,rfl⟩, ?_,λx hx=> ?_⟩, ?_, ?_⟩,(λz=>nomatch z)⟩
   ·show(PL.heads b).length+1<=N;omega
   ·rcases cZ hx with hx|hx
    ·rw[hx];exact ia
    ·exact ib.2.2 x hx
   ·show(PL.heads b).length+1=len r+1;rw[lb]
   ·show PL.size a+PL.size b<=len r+1+1
    omega
  |L=>
   obtain⟨a,ea,ia,la,sa⟩:=ih1.2.1 rfl
   obtain⟨b,eb,ib,lb,sb⟩:=ih2.2.2 rfl
   refine⟨(λz=>by rcases z with z|z<;>cases z),(λz=>nomatch z),λ_=>⟨.cons a b,by rw[ea,eb];rfl,⟨.inr ⟨a,b,rfl⟩, ?_,λx hx=> ?_⟩, ?_, ?_⟩⟩
   ·show(PL.heads b).length+1<=N;omega
   ·rcases cZ hx with hx|hx
    ·rw[hx];exact ia
    ·exact ib.2.2 x hx
   ·show(PL.heads b).length+1=len r+1;rw[lb]
   ·have hla:=len_le h1
    show PL.size a+PL.size b<=(len r+1)*(N+1)+1
    rw[Nat.add_mul,Nat.one_mul]
    omega
  |F=>exact⟨(λz=>by rcases z with z|z<;>cases z),(λz=>nomatch z),(λz=>nomatch z)⟩
 |fn hb _ _=>exact⟨(λz=>by rcases z with z|z<;>cases z),(λz=>nomatch z),(λz=>nomatch z)⟩
 |none=>exact⟨(λz=>by rcases z with z|z<;>cases z),(λz=>nomatch z),(λz=>nomatch z)⟩
 |some _ _ _ _=>exact⟨(λz=>by rcases z with z|z<;>cases z),(λz=>nomatch z),(λz=>nomatch z)⟩
theorem bRZ{hs:Hs}{N:Nat}{k:Kd}{v:Tv}(h:T1 hs N k v)(hk:k=.n\/k=.t\/k=.l\/k=.L)(hN:N<=100):∃p,v=KD p/\KP N k p/\PL.size p<=400000:=by
 have hl:=len_le h
 obtain⟨h1,h2,h3⟩:=azZ h
 rcases hk with rfl|rfl|rfl|rfl
 ·obtain⟨p,e,i,s⟩:=h1 (.inl rfl)
  exact⟨p,e,i,by omega⟩
 ·obtain⟨p,e,i,s⟩:=h1 (.inr rfl)
  exact⟨p,e,i,by omega⟩
 ·obtain⟨p,e,i,_,s⟩:=h2 rfl
  exact⟨p,e,i,by omega⟩
 ·obtain⟨p,e,i,_,s⟩:=h3 rfl
  have:len v*(N+1)<=100*101:=Nat.mul_le_mul (by omega) (by omega)
  exact⟨p,e,i,by omega⟩
theorem SE{H:Hp}{ok ok':Addr->Prop}{p:PL.Pv}{r r':V}(h:Ip p)(h1:(PL.R ok H p).1 r)(h2:(PL.R ok' H p).1 r'):∀n,DqS H n r r':=by
 rcases h with⟨i,rfl⟩|⟨b,rfl⟩
 ·have e1:r=.int i:=h1
  have e2:r'=.int i:=h2
  subst e1 e2
  exact FF rfl
 ·have e1:r=.bl b:=h1
  have e2:r'=.bl b:=h2
  subst e1 e2
  exact FF rfl
theorem RW{H:Hp}{ok:Addr->Prop}{N:Nat}{G:PL.Pv->Prop}{p:PL.Pv}{r:V}(h:Lp N G p)(h1:(PL.R ok H p).1 r):∃a rs,r=.ref a/\H a=some (.lst rs)/\All2 (λt r=>(PL.R ok H t).1 r) (PL.heads p) rs:=by
 rcases h.1 with rfl|⟨x,t,rfl⟩
 ·obtain⟨a,e,ha,_⟩:=h1
  exact⟨a,[],e,ha,.nil⟩
 ·obtain⟨a,r1,rs,e,ha,_,h2,h3⟩:=h1
  exact⟨a,r1::rs,e,ha,.cons h2 (PL.R.items h3)⟩
theorem TK{H:Hp}{ok ok':Addr->Prop}{n:Nat}{G:PL.Pv->Prop}(hG:∀p,G p->∀r r',(PL.R ok H p).1 r->(PL.R ok' H p).1 r'->DqS H n r r'):∀ {ps:List PL.Pv} {rs rs':List V},(∀p∈ps,G p)->All2 (λt r=>(PL.R ok H t).1 r) ps rs->All2 (λt r=>(PL.R ok' H t).1 r) ps rs'->All2 (DqS H n) rs rs'
 | [],_,_,_,h1,h2=>by cases h1;cases h2;exact .nil
 |p::ps,_,_,hp,h1,h2=>by
  cases h1 with
  |cons a1 a2=>
   cases h2 with
   |cons b1 b2=>exact .cons (hG p (hp p (mem_cons_self ..)) _ _ a1 b1) (TK hG (λq hq=>hp q (mem_cons_of_mem _ hq)) a2 b2)
theorem WT{H:Hp}{ok ok':Addr->Prop}{N n:Nat}{G:PL.Pv->Prop}(hN:N<=1000)(hG:∀p,G p->∀r r',(PL.R ok H p).1 r->(PL.R ok' H p).1 r'->DqS H n r r'){p:PL.Pv}{r r':V}(h:Lp N G p)(h1:(PL.R ok H p).1 r)(h2:(PL.R ok' H p).1 r'):DqS H (n+1) r r':=by
 obtain⟨a,rs,rfl,ha,hA⟩:=RW h h1
 obtain⟨b,rs',rfl,hb,hB⟩:=RW h h2
 exact c7Z ha hb (by rw[<-hA.len];have:=h.2.1;omega) (TK hG h.2.2 hA hB)
theorem dkZ{H:Hp}{ok ok':Addr->Prop}{N:Nat}(hN:N<=1000){k:Kd}{p:PL.Pv}{r r':V}(h:KP N k p)(h1:(PL.R ok H p).1 r)(h2:(PL.R ok' H p).1 r'):DqS H 2 r r':=by
 cases k with
 |n=>exact SE h h1 h2 2
 |t=>exact SE h h1 h2 2
 |l=>exact WT hN (λp hp r r' a b=>SE hp a b 1) h h1 h2
 |L=>exact WT hN (λp hp r r' a b=>WT hN (λq hq s s' c d=>SE hq c d 0) hp a b) h h1 h2
 |F=>exact h.elim
 |fn k=>exact h.elim
end PG
namespace PG
open PySem L2 CL SW MC MT
open K67 (lg N6 spNumB BJ DqS W4)
open BV hiding ifT ifF NoG top
seal PE PT PW PA PS PSs PTs PI L2.PG PGs PO
noncomputable abbrev s_law:Stmt:=CL.top 54
noncomputable abbrev dTZ:List Str:=["_law_script","_law_blocks","_law_main","_law_numbers","_law_most","_law_machine","_law_due","_law_rounds","_law_k","_law_handed","_law_some","_law_found"]
theorem sc_law:FnScope dTZ VN (B4 s_law):=fS
theorem EU{H:Hp}:∀xs:List Int,All2 (VAt H) (xs.map λi=>Vl.sc (.int i)) (xs.map V.int)
 | []=> .nil
 |_::xs=> .cons ⟨rfl,rfl⟩ (EU xs)
theorem SD{cs:List Cl}:∀xs:List Int,All2 (V1 cs) (xs.map λi=>Tv.sc (.int i)) (xs.map λi=>Vl.sc (.int i))
 | []=> .nil
 |_::xs=> .cons rfl (SD xs)
noncomputable def DueAt(mt:Kd)(H:Hp)(o:To)(u:V):Prop:=(∃pv p r,o=.value (KD pv)/\KP 56 mt pv/\u=.ref p/\H p=some (.tup [.str "value",r])/\(PL.R (λ_=>True) H pv).1 r)\/(∃w p,o=.refused w/\u=.ref p/\H p=some (.tup [.str "refused",.str w]))\/(o=.dry/\∃p,u=.ref p/\H p=some (.tup [.str "dry"]))\/(o=.deep/\∃p,u=.ref p/\H p=some (.tup [.str "deep"]))
theorem DueAt.pt{mt:Kd}{H H':Hp}{o:To}{u:V}{Pt:Addr}(hT:Tb H Pt)(k:∀b ob,H b=some ob->b≠Pt->H' b=some ob)(h:DueAt mt H o u):DueAt mt H' o u:=by
 rcases h with⟨pv,p,r,h1,h2,h3,h4,h5⟩|⟨w,p,h1,h2,h3⟩|⟨h1,p,h2,h3⟩|⟨h1,p,h2,h3⟩
 ·exact .inl ⟨pv,p,r,h1,h2,h3,k _ _ h4 (BB hT h4),(PL.R.mono λa xs _ e=>⟨k _ _ e (N5 hT e),trivial⟩).1 h5⟩
 ·exact .inr (.inl ⟨w,p,h1,h2,k _ _ h3 (BB hT h3)⟩)
 ·exact .inr (.inr (.inl ⟨h1,p,h2,k _ _ h3 (BB hT h3)⟩))
 ·exact .inr (.inr (.inr ⟨h1,p,h2,k _ _ h3 (BB hT h3)⟩))
theorem a3Z{S:Ms}{E:Tm}(h:Sim S E)(hf:E.frs=[])(hn:E.n<=56):Small S/\S.frs=[]:=by
 have e1:S.frs=[]:=List.eq_nil_of_length_eq_zero (by rw[<-h.frs.len,hf];rfl)
 exact⟨⟨le_trans h.n (by omega),by rw[e1];exact zero_le _,λf hf=>by rw[e1]at hf;cases hf⟩,e1⟩
theorem WW{H:Hp}:∀ {n:Nat} {x y:V},DqS H n x y->DqS H (n+1) x y
 |0,_,_,h=> .inl h
 |n+1,_,_,h=>by
  rcases h with h|⟨a,b,xs,ys,e1,e2,h,hl,hA⟩
  ·exact .inl h
  ·exact .inr ⟨a,b,xs,ys,e1,e2,h,hl,hA.imp λ_ _ z=>WW z⟩
section
variable{CM C Pt:Addr}
theorem aMZ{hs:Hs}{mt:Kd}{H:Hp}{A:Ad}{bs:List Bk}{most:Nat}{S:Ms}{Q:VK}{X:XK}{E:Tm}{o:To}(hA:MAt CM C H A bs most S)(hS:Sim S E)(ho:E.out=some o)(hE:YI hs mt 56 E)(hmt:mt=.n\/mt=.t\/mt=.l\/mt=.L)(hT:Tb H Pt)
  (go:∀v H',(∀b ob,H b=some ob->b≠Pt->H' b=some ob)->Tb H' Pt->DueAt mt H' o v->Q v H'):Y7 CM C Pt [.ref A.m] H Q X:=by
 refine⟨A,bs,most,S,rfl,hA, ?_⟩
 have h1:=hS.out
 rw[ho]at h1
 cases o with
 |value t=>
  obtain⟨x,ex,hx⟩:=h1
  obtain⟨pv,rfl,hK,hs⟩:=bRZ (hE.2.2 t ho) hmt (by decide)
  refine .inl ⟨x,pv,ex,FA hx,hs,hT,λp' r H1 H' k1 hT1 hR hp1 eH=> ?_⟩
  subst eH
  have t:=A7 hp1 (.tup [.str "value",r])
  exact go (.ref p') _ (λb ob e n=>t _ _ (k1 _ _ e n)) (V8 hT1 t) (.inl ⟨pv,p',r,rfl,hK,rfl,A5,(PL.R.mono λa xs _ e=>⟨t _ _ e,trivial⟩).1 hR⟩)
 |refused w=>
  have ex:S.out=some (.refused w):=h1
  rw[ex]
  refine .inr ⟨rfl,λu' hu'=> ?_⟩
  obtain⟨p',rfl,hp'⟩:=hu'
  exact go (.ref p') H (λ_ _ e _=>e) hT (.inr (.inl ⟨w,p',rfl,rfl,hp'⟩))
 |dry=>
  have ex:S.out=some .dry:=h1
  rw[ex]
  refine .inr ⟨rfl,λu' hu'=> ?_⟩
  obtain⟨p',rfl,hp'⟩:=hu'
  exact go (.ref p') H (λ_ _ e _=>e) hT (.inr (.inr (.inl ⟨rfl,p',rfl,hp'⟩)))
 |deep=>
  have ex:S.out=some .deep:=h1
  rw[ex]
  refine .inr ⟨rfl,λu' hu'=> ?_⟩
  obtain⟨p',rfl,hp'⟩:=hu'
  exact go (.ref p') H (λ_ _ e _=>e) hT (.inr (.inr (.inr ⟨rfl,p',rfl,hp'⟩)))
theorem aTZ{mt:Kd}{H':Hp}{ok:Addr->Prop}{S:Ms}{E:Tm}{o:To}{u u':V}(hS:Sim S E)(ho:E.out=some o)(hto:DueAt mt H' o u)
  (h:(∃x t p r,S.out=some (.value x)/\VRa S.cs t x/\u'=.ref p/\H' p=some (.tup [.str "value",r])/\(PL.R ok H' t).1 r)\/(X1 S.out=false/\OAt H' S.out u')):DqS H' 4 u' u/\∃p,u'=.ref p:=by
 have h1:=hS.out
 rw[ho]at h1
 rcases hto with⟨pv,p,r,rfl,hK,rfl,hp,hR⟩|⟨w,p,rfl,rfl,hp⟩|⟨rfl,p,rfl,hp⟩|⟨rfl,p,rfl,hp⟩
 ·obtain⟨x,ex,hx⟩:=h1
  rcases h with⟨x',t,p',r',ex',hx',rfl,hp',hR'⟩|⟨h,_⟩
  ·rw[ex]at ex'
   injection ex' with ex'
   injection ex' with ex'
   subst ex'
   have et:=GI (FA hx) hx'
   subst et
   exact⟨LF hp' hp (by show 2<=1000;omega) (.cons (FF rfl _) (.cons (WW (dkZ (by decide) hK hR' hR)) .nil)),p',rfl⟩
  ·rw[ex]at h;cases h
 ·have ex:S.out=some (.refused w):=h1
  rw[ex]at h
  rcases h with⟨x',t,p',r,ex',_⟩|⟨_,p',rfl,hp'⟩
  ·cases ex'
  ·exact⟨LF hp' hp (by show 2<=1000;omega) (.cons (FF rfl _) (.cons (FF rfl _) .nil)),p',rfl⟩
 ·have ex:S.out=some .dry:=h1
  rw[ex]at h
  rcases h with⟨x',t,p',r,ex',_⟩|⟨_,p',rfl,hp'⟩
  ·cases ex'
  ·exact⟨LF hp' hp (by show 1<=1000;omega) (.cons (FF rfl _) .nil),p',rfl⟩
 ·have ex:S.out=some .deep:=h1
  rw[ex]at h
  rcases h with⟨x',t,p',r,ex',_⟩|⟨_,p',rfl,hp'⟩
  ·cases ex'
  ·exact⟨LF hp' hp (by show 1<=1000;omega) (.cons (FF rfl _) .nil),p',rfl⟩
end
inductive spLawW (K:FZ) (Pt:Addr) (vs:List V) (H:Hp) (Q:VK):Prop
 |mk:∀(a:Addr) (ns:List Int),(vs=[.ref a])->(SqL K H a (ns.map V.int))->(ns.length<=63)->(H Pt=some (.tbl #[]))->(∀H',Q (.bl true) H')->spLawW K Pt vs H Q
noncomputable def ST(K:FZ)(Pt:Addr):Sp:=λvs H Q _=>spLawW K Pt vs H Q
theorem bvZ{K:FZ}{H H':Hp}{Pt a:Addr}{xs:List V}(hT:Tb H Pt)(k:∀b ob,H b=some ob->b≠Pt->H' b=some ob)(h:SqL K H a xs):SqL K H' a xs:=by
 rcases h with(h|⟨o,h⟩)|h
 ·exact .inl (.inl (k _ _ h (N5 hT h)))
 ·exact .inl (.inr ⟨o,k _ _ h λz=>by
   obtain⟨qs,e1,_⟩:=hT
   rw[z,e1]at h;cases h⟩)
 ·exact .inr h
section
variable{P:Program}{w:World}{K:FZ}{mg:Str->Option Value}{base:Heap}{CM C Pt:Addr}{gf mf:Str->Addr}{gd md:Str->FuncData}{f fim ddZ PF T8 GV:Addr}{fd dim c9Z PV U1 HD:FuncData}
theorem ok_law(F:Fun K "law" "law" s_law f fd)(B:BV.NoG mg)(RM:MCls K CM gf gd)(M_Machine:Mk K CM fim)(m_Machine:mg "Machine"=some (.ref CM))
  (GMachine___init__:FnOk P w K mg base CX0 3 fim dim UZ (KJ CM C))(bMachine___init__:Binds K dim UZ [])
  (Y1:FnOk P w K mg base CX0 6 (gf "answer") (gd "answer") K5 (Y7 CM C Pt))
  (T5:FnOk P w K mg base CX0 1 (gf "rows_done") (gd "rows_done") K5 (QN CM C true))
  (OW:FnOk P w K mg base CX0 5 (gf "step") (gd "step") K5 (RL CM C))
  (P5:Cn P w K mg base CX0 5 "_law_same" q5L (W4 4))
  (E8:Cn P w K mg base CX0 1 "_law_cell_at" q9L (BJ K))
  (U2:Cn P w K mg base CX0 6 "_law_program" VN (IK K))
  (MG:Cn P w K mg base CX0 8 "run" UR (bpZ CM C Pt)):
  FnOk P w K mg base CX0 9 f fd VN (ST K Pt):=by
 obtain⟨PF,PV,P5,O0,O1,O2⟩:=P5
 obtain⟨T8,U1,E8,J5,J7,J6⟩:=E8
 obtain⟨GV,HD,U2,GS,GX,GU⟩:=U2
 obtain⟨ddZ,c9Z,MG,dcZ,daZ,dbZ⟩:=MG
 refine F.ok sc_law (λvs H Q E h=> ?_) (λcdv A outer s H vs Q X hr h=> ?_)
 ·obtain⟨a,ns,rfl,_⟩:=h
  rfl
 obtain⟨a,ns,rfl,hS,hl,hpt,q⟩:=h
 have nd:=sc_law.nd
 have hu:=hr.units0
 refine⟨_,(A8 (Q3 (B6 U2 (hr.mono (by omega)) rfl GU GX GS .nil C0 (A0 (pv 0) A6)) (LH rfl (O9 (J3 (i:=1) nd rfl (Or.inl rfl)) (O9 (J3 (i:=2) nd rfl (Or.inl rfl)) (O9 (J3 (i:=3) nd rfl (Or.inl rfl)) EN)))))
   (A8 (C7 (i:=4) nd rfl (Or.inl rfl) (B7 E4 (B6 E8 (hr.mono (by omega)) rfl J6 J7 J5 .nil C0 (A0 (pv 0) (A0 A9 A6))) A9))
   (A8 (C7 (i:=5) nd rfl (Or.inl rfl) (SY M_Machine GMachine___init__ (hr.mono (by omega)) rfl m_Machine bMachine___init__ .nil C0 (A0 (G3 (W0 (K:=K)) rfl B.list_ N2 (A0 (pv 1) A6)) (A0 (pv 2) (A0 (G3 (W0 (K:=K)) rfl B.list_ N2 (A0 (pv 3) A6)) (A0 (pv 4) A6))))))
   (A8 (E1 (Z0 PassesOwn.never (M3 (K:=K) (K3 (pv 5) RM.cl RM.m_step OW (hr.mono (by omega)) RM.b_step .nil C0) (λ_=>rfl)) (B0 (D8 (B9 bnZ (K3 (pv 5) RM.cl RM.m_rows_done T5 (hr.mono (by omega)) RM.b_rows_done .nil C0) A9 rfl) (B0 (C2 DP)) D2))))
   (A8 (C7 (i:=6) nd rfl (Or.inl rfl) (K3 (pv 5) RM.cl RM.m_answer Y1 (hr.mono (by omega)) RM.b_answer .nil C0))
   (A8 (C7 (i:=7) nd rfl (Or.inl rfl) (E6 A6))
   (A8 (E1 (T3 PassesOwn.never rfl (M2 rfl B.range_ (A0 (B7 E4 (B6 E8 (hr.mono (by omega)) rfl J6 J7 J5 .nil C0 (A0 (pv 0) (A0 A9 A6))) A9) A6)) (J3 (i:=8) nd rfl (Or.inl rfl)) (B0 (C3 (M1 (K:=K) PySem.F.plainAttrs_list PySem.F.slot_list_append PySem.F.type_list_append C8 (pv 7) (A0 (B7 E4 (B7 (N4 (K:=K)) (B7 D5 (B6 E8 (hr.mono (by omega)) rfl J6 J7 J5 .nil C0 (A0 (pv 0) (A0 A9 A6))) A9) (B7 KS (B7 KS (pv 8) (pv 8)) A9)) (B7 (N4 (K:=K)) (K3 (pv 5) RM.cl RM.m_rows_done T5 (hr.mono (by omega)) RM.b_rows_done .nil C0) A9)) A6))))))
   (A8 (C7 (i:=9) nd rfl (Or.inl rfl) (E6 (A0 (G3 (W0 (K:=K)) rfl B.list_ N2 (A0 (pv 1) A6)) (A0 (G3 (W0 (K:=K)) rfl B.list_ N2 (A0 (pv 3) A6)) (A0 (G3 (W0 (K:=K)) rfl B.list_ N2 (A0 (pv 7) A6)) A6)))))
   (A8 (E1 (T3 PassesOwn.never rfl (b2Z (K:=K) (C1 (A0 (E6 A6) (A0 (ixE K w (pv 9) A9) A6)))) (J3 (i:=10) nd rfl (Or.inl rfl)) (A8 (C7 (i:=11) nd rfl (Or.inl rfl) (B6 MG (hr.mono (by omega)) rfl dbZ daZ dcZ .nil C0 (A0 (ixE K w (pv 9) A9) (A0 (pv 2) (A0 (ixE K w (pv 9) A9) (A0 (pv 4) (A0 (pv 10) A6)))))))
   (B0 (E1 (D8 (PW.pt (FX (XG (M3 (K:=K) (B6 P5 (hr.mono (by omega)) rfl O2 O1 O0 .nil C0 (A0 (pv 11) (A0 (pv 6) A6))) (λ_=>rfl))) (AZ (B9 FJ (pv 11) Q4 rfl)))) (B0 (C2 DP)) D2))))))
   (B0 (C2 (Q7 (dDZ hr.units) (pv 9) (E6 (A0 (pv 1) (A0 (pv 3) (A0 (pv 7) A6)))) rfl)))))))))))), ?_⟩
 have hTb:Tb H Pt:=⟨_,hpt,(by first|exact trivial|simp[TriplesOk]),.inl rfl⟩
 refine⟨_,rfl,a,ns,rfl,hS,hl,λt bl nu hs bs main m mt xs H1 s1 ht hP=> ?_⟩
 refine⟨t,_,rfl,SqT.of ht,rfl,_,_,rfl,_,_,rfl,_,_,rfl,rfl, ?_⟩
 obtain⟨most,(em:N6 ns 6%7=(most:Int)),hm⟩:=X3 (N6 ns 6) (m:=7) (by decide)
 refine⟨_,rfl,a,ns,6,rfl,s1.seq hS,by decide,_,_,rfl,rfl,(by decide:(0:Int)<7), ?_⟩
 show O6 _ _ _ [some (.ref a),some (.ref bl),some (.int (main:Nat)),some (.ref nu),some (.int (N6 ns 6%7)),none,none,none,none,none,none,none] H1
 rw[em]
 have hT1:=V8 hTb s1
 have hS1:=s1.seq hS
 obtain⟨vb,hbl,hB⟩:=hP.bl
 have hnu:=hP.nu
 have hmt:=hP.mh.2.2
 have hm3:=hP.mh.2.1
 have hxl:=hP.xl
 have hfew:=hP.few
 have hlen:=hP.len
 have hvb:=hB.len
 obtain⟨bk,hbk,hsz,hRun⟩:=WE (most:=most) hP.ok hP.mh.1 hP.xl hP.xb
 obtain⟨E,j,hTR,hj,hE⟩:=WM hP.ok (by omega) hRun
 have hEo:=hE.1
 have hEf:=cVZ hTR hEo rfl
 obtain⟨o,ho⟩:∃o,E.out=some o:=by
  cases e:E.out with
  |none=>exact absurd e hEo
  |some o=>exact⟨o,rfl⟩
 have hj2:j<=600:=by omega
 have lws:(xs.map λi=>Vl.sc (.int i)).length<=bk.sz:=by rw[length_map,hsz];omega
 refine⟨_,rfl,bl,vb,rfl,.inl (SqL.of hbl),λl1 hl1=>⟨_,rfl,_,rfl,nu,_,rfl,.inl (SqL.of ((A7 hl1 _) _ _ hnu)),λl2 hl2=>⟨_,rfl,λx dx hx hdx hn=> ?_⟩⟩⟩
 have v1:=A7 hl1 (.lst vb)
 have v2:=A7 hl2 (.lst (xs.map V.int))
 have v12:=v1.trans v2
 have hl1':upd (upd H1 l1 (.lst vb)) l2 (.lst (xs.map V.int)) l1=some (.lst vb):=v2 _ _ A5
 have hl2':upd (upd H1 l1 (.lst vb)) l2 (.lst (xs.map V.int)) l2=some (.lst (xs.map V.int)):=A5
 generalize upd (upd H1 l1 (.lst vb)) l2 (.lst (xs.map V.int))=H0 at v12 hl1' hl2' hx hdx⊢
 have t0:Same H0 (upd (upd H0 dx (.own x)) x (.ins CM dx [])):=λb ob e=>by rw[B5 (C5 e hx),B5 (C5 e hdx)];exact e
 have mo0:Mo H1 (upd (upd H0 dx (.own x)) x (.ins CM dx [])):=B8 (v12.trans t0)
 refine⟨x,dx,l1,l2,vb,xs.map V.int,main,most,bs,bk,xs.map λi=>Vl.sc (.int i),rfl,A5,t0 _ _ hl1',hB.imp λ_ _ z=>BAt.mo mo0 z,hbk,t0 _ _ hl2',EU xs,lws,λA1 H2 eA k1 nw hA1=>⟨rfl, ?_⟩⟩
 have kH1:Same H1 H2:=λb ob e=>k1 _ _ (t0 _ _ (v12 _ _ e)) (C5 (v12 _ _ e) hx)
 have own1:∀y∈A1.own,H1 y=none:=λy hy=>by
  rcases nw y hy with z|z
  ·rw[z];exact v12.free hx
  ·exact v12.free (t0.free z)
 subst eA
 show O6 _ _ _ [some (.ref a),some (.ref bl),some (.int (main:Nat)),some (.ref nu),some (.int (most:Nat)),some (.ref A1.m),none,none,none,none,none,none] H2
 clear k1 nw hdx hn t0 mo0
 have sim0:Sim ⟨[],[begun main bk.sz (xs.map λi=>Vl.sc (.int i))],none,0,0⟩ ⟨[Q6 main bk.sz (xs.map λi=>Tv.sc (.int i))],none,0,0,0⟩:=UV (SD xs)
 have kH:∀ {A':Ad} {H' H'':Hp},(∀y∈A'.own,H1 y=none)->Same H1 H'->Kq A' H' H''->Same H1 H'':=λ{A' H' H''} o1 k kk b ob e=>kk _ _ (k _ _ e) λz=>by rw[o1 b z]at e;cases e
 have nwH:∀ {A' A'':Ad} {H':Hp},(∀y∈A'.own,H1 y=none)->Same H1 H'->New A' A'' H'->∀y∈A''.own,H1 y=none:=λ{A' A'' H'} o1 k nw y hy=>by
  rcases nw.2 y hy with z|z
  ·exact o1 y z
  ·exact k.free z
 refine⟨fun σ H'=>∃A2 S,σ=[some (.ref a),some (.ref bl),some (.int (main:Nat)),some (.ref nu),some (.int (most:Nat)),some (.ref A2.m),none,none,none,none,none,none]/\Same H1 H'/\(∀y∈A2.own,H1 y=none)/\MAt CM C H' A2 bs most S/\Sim S E, ?_, ?_⟩
 ·refine⟨λi σ H'=>∃A2 S T,σ=[some (.ref a),some (.ref bl),some (.int (main:Nat)),some (.ref nu),some (.int (most:Nat)),some (.ref A2.m),none,none,none,none,none,none]/\Same H1 H'/\(∀y∈A2.own,H1 y=none)/\MAt CM C H' A2 bs most S/\Sim S T/\TR bs most E i T/\T.r+i=j,⟨j,A1,_,_,rfl,kH1,own1,hA1,sim0,hTR,Nat.zero_add _⟩, ?_⟩
  rintro i σ H4 ⟨A2,S,T,rfl,k4,own4,hA4,hS4,hT4,hr4⟩
  obtain⟨vb2,us2,fs2,out2,hM2,_⟩:=id hA4.ex
  cases hT4 with
  |done=>
   obtain⟨h1,h2⟩:=a3Z hS4 hEf hE.2.1
   exact⟨_,rfl,A2.m,A2.dx,_,rfl,hM2.m,rfl,A2,bs,most,S,rfl,hA4,h1,.inl ⟨h2,false,rfl,ifF (by decide) ⟨A2,S,rfl,k4,own4,hA4,hS4⟩⟩⟩
  | @step _ T' i g hn hst hr'=>
   obtain⟨S',h1,h2⟩:=MX hS4 hst
   have hr1:=(WV hst).1
   refine⟨_,rfl,A2.m,A2.dx,_,rfl,hM2.m,rfl,A2,bs,most,S,rfl,hA4,IW hS4 g,.inr ⟨S',h1,λA' H5 nw5 kq5 hA5=>⟨true,rfl,ifT rfl ⟨fun σ H'=>∃A2 S T,σ=[some (.ref a),some (.ref bl),some (.int (main:Nat)),some (.ref nu),some (.int (most:Nat)),some (.ref A2.m),none,none,none,none,none,none]/\Same H1 H'/\(∀y∈A2.own,H1 y=none)/\MAt CM C H' A2 bs most S/\Sim S T/\TR bs most E i T/\T.r+i=j,fun σ' H' h'=>⟨i,lt_succ_self _,h'⟩, ?_⟩⟩⟩⟩
   obtain⟨vb5,us5,fs5,out5,hM5,_⟩:=id hA5.ex
   have em5:A'.m=A2.m:=nw5.1
   have er5:S'.r<=2000:=by rw[h2.r];omega
   rw[<-em5]
   exact⟨_,rfl,A'.m,A'.dx,_,rfl,hM5.m,rfl,A',_,_,_,_,rfl,hM5.m,_,_,rfl,rfl,_,rfl,ifF (λz=>by have:=of_decide_eq_true z;simp only[if_true]at this;omega) ⟨A',S',T',rfl,kH own4 k4 kq5,nwH own4 k4 nw5,hA5,h2,hr',by omega⟩⟩
 rintro _ H3 ⟨A2,S,rfl,k3,own3,hA3,hS3⟩
 have hT3:=V8 hT1 k3
 obtain⟨vb3,us3,fs3,out3,hM3,_⟩:=id hA3.ex
 refine⟨_,rfl,A2.m,A2.dx,_,rfl,hM3.m,rfl, ?_⟩
 unfold aoZ
 refine aMZ hA3 hS3 ho hE hmt hT3 λdue H4 k4 hT4 hD4=> ?_
 have hA4:=hA3.pt hT3 k4
 obtain⟨vb4,us4,fs4,out4,hM4,_⟩:=id hA4.ex
 have k14:∀b ob,H1 b=some ob->b≠Pt->H4 b=some ob:=λb ob e n=>k4 _ _ (k3 _ _ e) n
 refine⟨zero_le _,λrl hrl=> ?_⟩
 have s5:=A7 hrl (.lst [])
 have x5:upd H4 rl (.lst []) rl=some (.lst []):=A5
 show O6 _ _ _ [some (.ref a),some (.ref bl),some (.int (main:Nat)),some (.ref nu),some (.int (most:Nat)),some (.ref A2.m),some due,some (.ref rl),none,none,none,none] (upd H4 rl (.lst []))
 generalize upd H4 rl (.lst [])=H5 at s5 x5⊢
 have hA5:=hA4.same s5
 obtain⟨n9,(e9:N6 ns 5%9=(n9:Int)),h9⟩:=X3 (N6 ns 5) (m:=9) (by decide)
 have hS5:SqL K H5 a (ns.map V.int):=bvZ hT1 (λb ob e n=>s5 _ _ (k14 _ _ e n)) hS1
 refine⟨fun σ' H'=>∃x8 rs,σ'=[some (.ref a),some (.ref bl),some (.int (main:Nat)),some (.ref nu),some (.int (most:Nat)),some (.ref A2.m),some due,some (.ref rl),x8,none,none,none]/\(∀b ob,H4 b=some ob->H' b=some ob)/\H' rl=some (.lst ((rs:List Int).map V.int))/\rs.length<=9, ?_, ?_⟩
 ·refine⟨_,rfl,a,ns,5,rfl,hS5,by decide,_,_,rfl,rfl,(by decide:(0:Int)<9),(n9:Int),congrArg (λz=> [V.int z]) e9,by omega,by omega,AD (n:=n9) (λi σ' H'=>∃x8 rs,σ'=[some (.ref a),some (.ref bl),some (.int (main:Nat)),some (.ref nu),some (.int (most:Nat)),some (.ref A2.m),some due,some (.ref rl),x8,none,none,none]/\(∀b ob,H4 b=some ob->H' b=some ob)/\H' rl=some (.lst ((rs:List Int).map V.int))/\rs.length=i) ⟨none,[],rfl,s5,x5,rfl⟩ ?_ ?_⟩
  ·rintro i σ H6 hi ⟨x8,rs,rfl,k6,hrs,hlr⟩
   have hS6:SqL K H6 a (ns.map V.int):=bvZ hT1 (λb ob e n=>k6 _ _ (k14 _ _ e n)) hS1
   have hM6:=k6 _ _ hM4.m
   refine⟨_,rfl,.inl ⟨rfl,_,SqL.of hrs⟩,_,rfl,a,ns,5,rfl,hS6,by decide,_,_,rfl,rfl,lg (by decide) (by decide),_,rfl,_,rfl,.inl ⟨_,_,rfl,rfl,.inl ⟨by omega,by omega⟩,.inl ⟨_,_,rfl,rfl,.inr ⟨by decide,by decide⟩,.inl ⟨_,_,rfl,rfl,_,rfl,A2.m,A2.dx,_,rfl,hM6,rfl,A2,_,_,_,_,rfl,hM6,.inl ⟨_,_,rfl,rfl,_,_,rfl,rfl, ?_,rl,_,_,rfl,rfl,hrs,R4 _ (by rw[length_map];omega),_,rs++ [((N6 ns 5).fdiv 9+(0+(i:Int))*(0+(i:Int))*13)%((S.r:Int)+3)],rfl,λb ob e=> ?_, ?_, ?_⟩⟩⟩⟩⟩
   ·simp only[if_true];omega
   ·rw[B5 λz=>by rw[z,hrl]at e;cases e];exact k6 _ _ e
   ·rw[A5,map_append];rfl
   ·rw[length_append,hlr];rfl
  ·rintro σ H6 ⟨x8,rs,rfl,k6,hrs,hlr⟩
   exact⟨x8,rs,rfl,k6,hrs,by omega⟩
 rintro _ H6 ⟨x8,rs,rfl,k6,hrs,hlr⟩
 have k16:∀b ob,H1 b=some ob->b≠Pt->H6 b=some ob:=λb ob e n=>k6 _ _ (k14 _ _ e n)
 have hT6:Tb H6 Pt:=V8 hT4 k6
 have hD6:DueAt mt H6 o due:=hD4.pt hT4 λb ob e _=>k6 _ _ e
 have hbl6:=k16 _ _ hbl (N5 hT1 hbl)
 have hnu6:=k16 _ _ hnu (N5 hT1 hnu)
 have mo6:Mo H1 H6:=λb ys e=>k16 _ _ e (BB hT1 e)
 have hB6:All2 (BAt H6) bs vb:=hB.imp λ_ _ z=>BAt.mo mo6 z
 refine⟨_,rfl,bl,vb,rfl,.inl (SqL.of hbl6),λh0 hh0=> ?_⟩
 have s0:=A7 hh0 (.lst vb)
 refine⟨_,rfl,nu,_,rfl,.inl (SqL.of (s0 _ _ hnu6)),λh1 hh1=> ?_⟩
 have s1':=A7 hh1 (.lst (xs.map V.int))
 refine⟨_,rfl,rl,_,rfl,.inl (SqL.of (s1' _ _ (s0 _ _ hrs))),λh2 hh2=>⟨z3,λhd hhd=> ?_⟩⟩
 have s2':=A7 hh2 (.lst (rs.map V.int))
 have s3':=A7 hhd (.lst [.ref h0,.ref h1,.ref h2])
 have s67:=s0.trans (s1'.trans (s2'.trans s3'))
 have y0:=(s1'.trans (s2'.trans s3')) _ _ (A5 (H:=H6) (a:=h0) (o:=.lst vb))
 have y1:=(s2'.trans s3') _ _ (A5 (H:=upd H6 h0 (.lst vb)) (a:=h1) (o:=.lst (xs.map V.int)))
 have y2:=s3' _ _ (A5 (H:=upd (upd H6 h0 (.lst vb)) h1 (.lst (xs.map V.int))) (a:=h2) (o:=.lst (rs.map V.int)))
 have y3:=A5 (H:=upd (upd (upd H6 h0 (.lst vb)) h1 (.lst (xs.map V.int))) h2 (.lst (rs.map V.int))) (a:=hd) (o:=.lst [.ref h0,.ref h1,.ref h2])
 show O6 _ _ _ [some (.ref a),some (.ref bl),some (.int (main:Nat)),some (.ref nu),some (.int (most:Nat)),some (.ref A2.m),some due,some (.ref rl),x8,some (.ref hd),none,none] (upd (upd (upd (upd H6 h0 (.lst vb)) h1 (.lst (xs.map V.int))) h2 (.lst (rs.map V.int))) hd (.lst [.ref h0,.ref h1,.ref h2]))
 generalize upd (upd (upd (upd H6 h0 (.lst vb)) h1 (.lst (xs.map V.int))) h2 (.lst (rs.map V.int))) hd (.lst [.ref h0,.ref h1,.ref h2])=H7 at s67 y0 y1 y2 y3⊢
 clear s0 s1' s2' s3' hh0 hh1 hh2 hhd
 have hT7:=V8 hT6 s67
 refine⟨fun σ' H'=>∃x10 x11,σ'=[some (.ref a),some (.ref bl),some (.int (main:Nat)),some (.ref nu),some (.int (most:Nat)),some (.ref A2.m),some due,some (.ref rl),x8,some (.ref hd),x10,x11]/\(∀b ob,H7 b=some ob->b≠Pt->H' b=some ob)/\Tb H' Pt, ?_, ?_⟩
 ·refine⟨zero_le _,λe he=> ?_⟩
  have s8:=A7 he (.lst [])
  refine⟨_,rfl,(ixL (s8 _ _ y3) (D3 (j:=2) rfl) ⟨z2,λtp htp=>⟨tp,rfl,⟨_,SqT.of A5⟩, ?_⟩⟩)⟩
  have s9:=A7 htp (.tup [.ref e,.ref h2])
  have ye:=s9 _ _ (A5 (H:=H7) (a:=e) (o:=.lst []))
  have ytp:=A5 (H:=upd H7 e (.lst [])) (a:=tp) (o:=.tup [.ref e,.ref h2])
  have s79:=s8.trans s9
  generalize upd (upd H7 e (.lst [])) tp (.tup [.ref e,.ref h2])=H9 at s9 ye ytp s79⊢
  have hT9:=V8 hT7 s79
  refine aSZ (xs:=[.ref e,.ref h2]) (λi σ' H'=>∃x10 x11,σ'=[some (.ref a),some (.ref bl),some (.int (main:Nat)),some (.ref nu),some (.int (most:Nat)),some (.ref A2.m),some due,some (.ref rl),x8,some (.ref hd),x10,x11]/\(∀b ob,H9 b=some ob->b≠Pt->H' b=some ob)/\Tb H' Pt) ⟨none,none,rfl,λ_ _ e _=>e,hT9⟩ ?_ ?_ ?_
  ·rintro i σ H' hi ⟨x10,x11,rfl,kk,hTT⟩
   exact SqT.of (kk _ _ ytp (BB hT9 ytp))
  ·rintro i x σ H10 hx ⟨x10,x11,rfl,kk,hTT⟩
   obtain⟨y,rs',rfl,hy,hly⟩:∃y rs',x=.ref y/\H10 y=some (.lst ((rs':List Int).map V.int))/\rs'.length<=9:=by
    match i,hx with
    |0,hx=>cases hx;exact⟨e,[],rfl,kk _ _ ye (N5 hT9 ye),zero_le _⟩
    |1,hx=>cases hx;exact⟨h2,rs,rfl,kk _ _ (s79 _ _ y2) (N5 hT9 (s79 _ _ y2)),hlr⟩
    |i+2,hx=>simp at hx
   have k710:∀b ob,H7 b=some ob->b≠Pt->H10 b=some ob:=λb ob e n=>kk _ _ (s79 _ _ e) n
   have k610:∀b ob,H6 b=some ob->b≠Pt->H10 b=some ob:=λb ob e n=>k710 _ _ (s67 _ _ e) n
   have y3':=k710 _ _ y3 (N5 hT7 y3)
   have mo10:Mo H6 H10:=λb ys e=>k610 _ _ e (BB hT6 e)
   refine⟨_,rfl,(ixL y3' (D3 (j:=0) rfl) ⟨_,rfl,_,rfl,(ixL y3' (D3 (j:=1) rfl) ⟨_,rfl,_,rfl,h0,h1,y,vb,xs.map V.int,main,most,bs,bk,xs.map λi=>Vl.sc (.int i),rs',IR bs most E j,λS=>j - S.r,rfl,k710 _ _ y0 (N5 hT7 y0),hB6.imp λ_ _ z=>BAt.mo mo10 z,hbk,k710 _ _ y1 (N5 hT7 y1),EU xs,lws,hy,by omega,hTT,d7Z hEo (λt z=> ?_),⟨_,j,sim0,hTR,Nat.zero_add _⟩,λS' u' H11 k11 hT11 hI hoS hans=> ?_⟩)⟩)⟩
   ·obtain⟨p,e,_,hs⟩:=bRZ (hE.2.2 t z) hmt (by decide)
    exact⟨p,e,hs⟩
   have hD11:DueAt mt H11 o due:=hD6.pt hT6 λb ob e n=>k11 _ _ (k610 _ _ e n) n
   obtain⟨hdq,p,rfl⟩:=aTZ (cmZ hI hoS) ho hD11 hans
   refine⟨fun σ' H'=>∃x10 x11,σ'=[some (.ref a),some (.ref bl),some (.int (main:Nat)),some (.ref nu),some (.int (most:Nat)),some (.ref A2.m),some due,some (.ref rl),x8,some (.ref hd),x10,x11]/\(∀b ob,H9 b=some ob->b≠Pt->H' b=some ob)/\Tb H' Pt, ?_,λ_ _ h=>h⟩
   exact⟨_,rfl,_,rfl,_,due,rfl,hdq,λH12 s12=>⟨true,rfl,ifF (by decide) ⟨_,rfl,rfl,_,rfl,ifF (by simp) ⟨_,_,rfl,λb ob e n=>s12 _ _ (k11 _ _ (kk _ _ e n) n),V8 hT11 s12⟩⟩⟩⟩
  ·rintro σ H' ⟨x10,x11,rfl,kk,hTT⟩
   exact⟨x10,x11,rfl,λb ob e n=>kk _ _ (s79 _ _ e) n,hTT⟩
 rintro _ H8 ⟨x10,x11,rfl,k8,hT8⟩
 refine⟨_,rfl,_,rfl,_,rfl,_,rfl,z3,λfl hfl=> ?_⟩
 have s9:=A7 hfl (.lst [.ref bl,.ref nu,.ref rl])
 have w0:=s9 _ _ (k8 _ _ y0 (N5 hT7 y0))
 have w1:=s9 _ _ (k8 _ _ y1 (N5 hT7 y1))
 have w2:=s9 _ _ (k8 _ _ y2 (N5 hT7 y2))
 have w3:=s9 _ _ (k8 _ _ y3 (N5 hT7 y3))
 have wb:=s9 _ _ (k8 _ _ (s67 _ _ hbl6) (N5 hT7 (s67 _ _ hbl6)))
 have wn:=s9 _ _ (k8 _ _ (s67 _ _ hnu6) (N5 hT7 (s67 _ _ hnu6)))
 have wr:=s9 _ _ (k8 _ _ (s67 _ _ hrs) (N5 hT7 (s67 _ _ hrs)))
 have dl:∀ {b c:Addr} {ys:List V},upd H8 fl (.lst [.ref bl,.ref nu,.ref rl]) b=some (.lst ys)->upd H8 fl (.lst [.ref bl,.ref nu,.ref rl]) c=some (.lst ys)->(∀y∈ys,Y8 y=true)->Dl K (upd H8 fl (.lst [.ref bl,.ref nu,.ref rl])) 1 (.ref b) (.ref c):=λ{b c ys} hb hc hp=>
  .inr ⟨b,c,ys,ys,rfl,rfl,.inr ⟨SqL.of hb,SqL.of hc⟩,rfl,λj u v hu hv=>by
   rw[hu]at hv
   cases hv
   exact⟨hp u (mem_of_getElem? hu),rfl⟩⟩
 have pint:∀zs:List Int,∀y∈zs.map V.int,Y8 y=true:=λzs y hy=>by
  obtain⟨z,_,rfl⟩:=mem_map.mp hy
  rfl
 refine⟨hd,fl,_,_,1,rfl,rfl,.inr ⟨SqL.of w3,SqL.of A5⟩,rfl,by decide,λj u v hu hv=> ?_,q _⟩
 match j,hu,hv with
 |0,hu,hv=>
  cases hu;cases hv
  refine dl w0 wb λy hy=> ?_
  obtain⟨i,hi⟩:=getElem?_of_mem hy
  obtain⟨_,_,t,_,_,rfl,_⟩:=hB.get hi
  rfl
 |1,hu,hv=>cases hu;cases hv;exact dl w1 wn (pint xs)
 |2,hu,hv=>cases hu;cases hv;exact dl w2 wr (pint rs)
 |j+3,hu,hv=>simp at hu
end
end PG
namespace PySem.W.Fast
def tw2326956703513228678:=Nat
def tw6617588188890030783:=Nat
def tw8801500788046491517:=Nat
def tw3902527982519189799:=Nat
def tw15893756030132714522:=Nat
def tw9999721560249114012:=Nat
def tw8045728140113037897:=Nat
def tw13883143857206691559:=Nat
def tw2508093069818839042:=Nat
def tw14937645893049156989:=Nat
def tw10900981677728479980:=Nat
def tw1181399530257709262:=Nat
def tw11282568318297986951:=Nat
def tw6960861566333993547:=Nat
def tw16606821796580676557:=Nat
def tw11764908506213440094:=Nat
def tw2819234535974853242:=Nat
def tw320484529911143257:=Nat
def tw1271764158405107189:=Nat
def tw8015022190954701932:=Nat
def tw8317407869558343077:=Nat
def tw9799134273761662161:=Nat
def tw16650809271456716943:=Nat
def tw283601925870976182:=Nat
def tw8671697791024949945:=Nat
def tw2694843927203968928:=Nat
def tw6172579120074243115:=Nat
def tw12349692448146211309:=Nat
def tw5493827250897354248:=Nat
def tw16092110328871541477:=Nat
def tw8272135363531704583:=Nat
def tw15309445545323657342:=Nat
def tw821602872978652421:=Nat
def tw11755327126005756957:=Nat
def tw2614274965995893866:=Nat
def tw8793928688430469421:=Nat
def tw4535834293776369812:=Nat
def tw12839528289740693208:=Nat
def tw9925998068935578517:=Nat
def tw3938971110928390814:=Nat
def tw15254231349992336726:=Nat
def tw830867580425268800:=Nat
def tw13974612153486042136:=Nat
def tw14541424217982163668:=Nat
def tw5469134180689289761:=Nat
def tw14710206336231654580:=Nat
def tw16233573285194784377:=Nat
def tw2162332086695847994:=Nat
def tw17417149920620275198:=Nat
def tw15778530996982826977:=Nat
def tw4045626997182865320:=Nat
def tw10159396379694407833:=Nat
def tw6741082392340060510:=Nat
def tw14365990164066649802:=Nat
def tw12862987389389051201:=Nat
def tw8532401676613631078:=Nat
def tw14517661331757482889:=Nat
def tw9980609872251683119:=Nat
def tw350054425883132362:=Nat
def tw3644339443641180359:=Nat
def tw355113559051818575:=Nat
def tw9660053855820205370:=Nat
def tw11254067490127241985:=Nat
def tw6456152323323888394:=Nat
def tw17727320966454889011:=Nat
def tw15911166867207500860:=Nat
def tw11725446237937842986:=Nat
def tw12563013068788165084:=Nat
def tw5509848163874841144:=Nat
def tw18177940119163947946:=Nat
def tw7738824185601139979:=Nat
def tw2965682640393169190:=Nat
def tw18170463536812476515:=Nat
def tw16645615677555958672:=Nat
def tw12260248925998638199:=Nat
def tw3408431205663668661:=Nat
def tw16340631569126007913:=Nat
def tw9881383569807170921:=Nat
def tw10009763129230665192:=Nat
def tw11388820593212346410:=Nat
def tw11107183063830830731:=Nat
def tw7757675382631550021:=Nat
def tw14862491732763853403:=Nat
def tw10046358360664729386:=Nat
def tw6345478519828863672:=Nat
def tw3676353518557328469:=Nat
def tw14661928859674040155:=Nat
def tw11155677692095666495:=Nat
def tw2627645754259874308:=Nat
def tw16819982900715573717:=Nat
def tw15260984624106940823:=Nat
def tw5420492735356204144:=Nat
def tw16425888737884723924:=Nat
def tw15142585541382684715:=Nat
def tw11001626233778480138:=Nat
def tw3060640654789025046:=Nat
def tw12087102337460892061:=Nat
def tw6889396254721738287:=Nat
def tw2367880036361369444:=Nat
def tw11482070459697154403:=Nat
def tw2938260153987600774:=Nat
def tw18439829270787910309:=Nat
def tw10062416821709715576:=Nat
def tw11154101783343415566:=Nat
def tw6847629101252008277:=Nat
def tw158094197862184274:=Nat
def tw13793978938050081782:=Nat
def tw13515687174287627559:=Nat
def tw2347962031487720261:=Nat
def tw15452863054858070734:=Nat
def tw14942356928371531850:=Nat
def tw9779629324205537778:=Nat
def tw710849558790754112:=Nat
def tw6809616437398781411:=Nat
def tw9862354669897552527:=Nat
def tw12571827237194926096:=Nat
def tw468884224679598625:=Nat
def tw8487072321208929705:=Nat
def tw5474610523367749172:=Nat
def tw9005817194054783694:=Nat
def tw3238001930496782880:=Nat
def tw2060449092851027917:=Nat
def tw16127515233767779504:=Nat
def tw1192401520034747107:=Nat
def tw12906219702041637854:=Nat
def tw2253088211000011850:=Nat
def tw4027290922005855115:=Nat
def tw5774651668308336463:=Nat
def tw14286542669305311600:=Nat
def tw6773457285786399362:=Nat
def tw12898041835873897856:=Nat
def tw6322718944368931858:=Nat
def tw2487411670078450820:=Nat
def tw17412998245973496422:=Nat
def tw15059942948417097603:=Nat
def tw5447116394992945281:=Nat
def tw16698011111353299059:=Nat
def tw18015076876449590425:=Nat
def tw8484311202507622409:=Nat
def tw17325122352490831582:=Nat
def tw217874580791815852:=Nat
def tw14031523806076444732:=Nat
def tw15606674465705709499:=Nat
def tw7008013530778892175:=Nat
def tw7641815339451395987:=Nat
def tw8698260731741513519:=Nat
def tw9725082680387705264:=Nat
def tw15440761684834333745:=Nat
def tw2997044274546666403:=Nat
def tw13046401305354174003:=Nat
def tw16034542043772306707:=Nat
def tw9942502667529020233:=Nat
def tw6707910480459073876:=Nat
def tw2030534051321489295:=Nat
def tw13181978035739484399:=Nat
def tw16470376575751354942:=Nat
def tw924159894686668262:=Nat
def tw840369125325720771:=Nat
def tw14119116048009227051:=Nat
def tw12230847056529507415:=Nat
def tw390106053910811003:=Nat
def tw9909677438715241141:=Nat
def tw3752291205604883529:=Nat
def tw1644250992826159780:=Nat
def tw12687445830938954395:=Nat
def tw13224052294236080095:=Nat
def tw6306709990990964304:=Nat
def tw15196164102899909179:=Nat
def tw12862433791921179485:=Nat
def tw2073639401476929464:=Nat
def tw5268735612090849770:=Nat
def tw4417016560571863871:=Nat
def tw6965167982042446760:=Nat
def tw12732721279029008174:=Nat
def tw8296425431835069026:=Nat
def tw5478143972000268077:=Nat
def tw11125050832120148805:=Nat
def tw1508109441224195173:=Nat
def tw999022490305719796:=Nat
def tw1544865984383578023:=Nat
def tw12849268851689128051:=Nat
def tw1518717599856766127:=Nat
def tw6648226068735562686:=Nat
def tw16532786725323721709:=Nat
def tw675058551491096063:=Nat
def tw5870965721412353998:=Nat
def tw14502496684564055559:=Nat
def tw15859033096462481055:=Nat
def tw4739296203869288700:=Nat
def tw14052966787430501362:=Nat
def tw10925943039647741666:=Nat
def tw276011233265293901:=Nat
def tw6419341962795545746:=Nat
def tw6488145940557627971:=Nat
def tw13846581281882633906:=Nat
def tw3002346588946070687:=Nat
def tw2517242383380515371:=Nat
def tw8354114806585109994:=Nat
def tw5909228451030060380:=Nat
def tw8440489065155329057:=Nat
def tw12213956735118362708:=Nat
def tw11082818023854947673:=Nat
def tw16492187584818263090:=Nat
def tw9672609625700489110:=Nat
def tw4113347618219613590:=Nat
def tw1034320412701648420:=Nat
def tw6644631521776241153:=Nat
def tw11073612540244471370:=Nat
def tw2019925791502043199:=Nat
def tw5558984102698677034:=Nat
def tw8156703880050773775:=Nat
def tw11289495667761539079:=Nat
def tw4975375217835386487:=Nat
def tw9566006982241144753:=Nat
def tw11773619690468431769:=Nat
def tw2599112885685431155:=Nat
def tw17019805931756888674:=Nat
def tw15384146381290811194:=Nat
def tw1521462139151174399:=Nat
def tw10290298037380823508:=Nat
def tw1025919990778106495:=Nat
def tw11742700910136199374:=Nat
def tw2545261448581619899:=Nat
def tw631076131935745716:=Nat
def tw8939501468484448036:=Nat
def tw17300833864564960190:=Nat
def tw8436184901892130845:=Nat
def tw5827701032792541171:=Nat
def tw15034245554301643815:=Nat
def tw1005552251294790523:=Nat
def tw11500527041798588866:=Nat
def tw16448345166362351643:=Nat
def tw14738211729334851679:=Nat
def tw5566635095154557070:=Nat
def tw16165420193962557950:=Nat
def tw17837038197213544701:=Nat
def tw94296926868124591:=Nat
def tw14569997477086371654:=Nat
def tw2596779575532787728:=Nat
def tw5216670508403237421:=Nat
def tw1730237833887750759:=Nat
def tw9116631749279472513:=Nat
def tw6902206109080351272:=Nat
def tw12034628875838042149:=Nat
def tw1375111375787644141:=Nat
def tw13368795609712245871:=Nat
def tw12851586292542489081:=Nat
def tw9702935569429441822:=Nat
def tw9846807361887381084:=Nat
def tw9346367881038926642:=Nat
def tw7505731541969719494:=Nat
def tw11033669509978819645:=Nat
def tw6649749521858092588:=Nat
def tw17259210524054828859:=Nat
def tw5250662118453957622:=Nat
def tw2587395151585225482:=Nat
def tw6583572790986424446:=Nat
def tw15797426241981722994:=Nat
def tw4978658390462463981:=Nat
def tw14433499280456911325:=Nat
def tw15574424458687809470:=Nat
def tw14192098654156407785:=Nat
def tw9096165817530894407:=Nat
def tw7144976233657451277:=Nat
def tw10122994092634256252:=Nat
def tw13654212507993447799:=Nat
def tw13159045122276432719:=Nat
def tw14005708252264677669:=Nat
def tw12281073486283027234:=Nat
def tw4572397637141012857:=Nat
def tw14544013570667123997:=Nat
def tw8406787916048165636:=Nat
def tw7615544351631919384:=Nat
def tw10762913916032824788:=Nat
def tw2212014228283780810:=Nat
def tw245104743137623001:=Nat
def tw276353594699473791:=Nat
def tw11883203947674029336:=Nat
def tw8689738384022578114:=Nat
def tw15897091511585126685:=Nat
def tw10250548187972193394:=Nat
def tw15782793717955372222:=Nat
def tw13273454365903367819:=Nat
def tw17745925099264315376:=Nat
def tw2257552205552045693:=Nat
def tw11400007457041941240:=Nat
def tw14423752388224493884:=Nat
def tw8053237067638612391:=Nat
def tw7136544622641442330:=Nat
def tw15244618224142368512:=Nat
def tw12364501539427371454:=Nat
def tw8909560429878585790:=Nat
def tw13734333083385993763:=Nat
def tw1384331970024128266:=Nat
def tw1214762456325073807:=Nat
def tw2663176550215825277:=Nat
def tw9343626736737110007:=Nat
def tw4238835419828364876:=Nat
def tw15571084121808644094:=Nat
def tw8911414020882988690:=Nat
def tw17390770395658742965:=Nat
def tw4986541606226374819:=Nat
def tw5176453881604089373:=Nat
def tw15890245853493566283:=Nat
def tw3885179812558265914:=Nat
def tw18220806869298209713:=Nat
def tw49449757735251800:=Nat
def tw17407371884571854135:=Nat
def tw6969073977644643357:=Nat
def tw6836457637286765869:=Nat
def tw9005317232653892138:=Nat
def tw9267395739481037527:=Nat
def tw10613919851561933162:=Nat
def tw6318910517669717538:=Nat
def tw13677785602843627785:=Nat
def tw6164822767225745718:=Nat
def tw4290939745395070003:=Nat
def tw693245395247281560:=Nat
def tw15571437538829548435:=Nat
def tw16331894324715951542:=Nat
def tw6706958307584959529:=Nat
def tw5107343396519238847:=Nat
def tw16955035484537007439:=Nat
def tw12839454726216863221:=Nat
def tw2209700517938450987:=Nat
def tw1611051105845468676:=Nat
def tw3509072207360840905:=Nat
def tw6269957966661713240:=Nat
def tw9047033166153670372:=Nat
def tw8596309634082316070:=Nat
def tw5190207950000978580:=Nat
def tw18396384531071718696:=Nat
def tw2220495548930435928:=Nat
def tw13806561106878887332:=Nat
def tw2019284953927095003:=Nat
def tw15307973610583278331:=Nat
def tw9423973545792002924:=Nat
def tw593426929434907799:=Nat
def tw5192063310022509570:=Nat
def tw12652232470945288919:=Nat
def tw938620315432861319:=Nat
def tw2267693626572010131:=Nat
def tw2760062540425450883:=Nat
def tw6836725914165371514:=Nat
def tw6776566829205480923:=Nat
def tw13625696389235408945:=Nat
def tw14585611552172412394:=Nat
def tw10556921502014694163:=Nat
def tw16341359942546467772:=Nat
def tw17937372579615306796:=Nat
def tw468008082632668123:=Nat
def tw12573255515882121444:=Nat
def tw7299011506891500537:=Nat
def tw5456281578920516380:=Nat
def tw5146138687459047164:=Nat
def tw1886696205791832403:=Nat
def tw6503597174825347646:=Nat
def tw8207198503014525265:=Nat
def tw5141037519392834396:=Nat
def tw1957331064740935545:=Nat
def tw11108770646377746801:=Nat
def tw15770056163019657773:=Nat
def tw15645431928294717763:=Nat
def tw17490863894290177554:=Nat
def tw2765857718030303346:=Nat
def tw12669997788518409952:=Nat
def tw2676014162327681398:=Nat
def tw17766633075756188082:=Nat
def tw1649762003490524074:=Nat
def tw14640794291200160429:=Nat
def tw7604592674047868675:=Nat
def tw7142887115616361126:=Nat
def tw17401980799238587387:=Nat
def tw3435658342635451073:=Nat
def tw17987153276385298742:=Nat
def tw12211384612008449343:=Nat
def tw2835535606898909698:=Nat
def tw3626899304247557009:=Nat
def tw7095178663988644823:=Nat
def tw14487553841770670451:=Nat
def tw2285226816492775082:=Nat
def tw60584683339899873:=Nat
def tw3310557299373827077:=Nat
def tw10350872665313885215:=Nat
def tw15233982472897979935:=Nat
def tw8169662801730773464:=Nat
def tw8569988485725308680:=Nat
def tw7489543942334417140:=Nat
def tw2871114546631287500:=Nat
def tw4739005761421091636:=Nat
def tw13272424343356572361:=Nat
def tw6833472990160336718:=Nat
def tw13498091409895865740:=Nat
def tw10980012439259657122:=Nat
def tw1177246116133561158:=Nat
def tw8899397405502038706:=Nat
def tw13785953838256214681:=Nat
def tw14050845431337064007:=Nat
def tw2351002558166184643:=Nat
def tw10317930156593390921:=Nat
def tw11814074470467559952:=Nat
def tw11384476300013758838:=Nat
def tw25125739609932985:=Nat
def tw5275815152180521896:=Nat
def tw124950997286664518:=Nat
def tw8246208930633863839:=Nat
def tw3561574627043974719:=Nat
def tw5233030596024834149:=Nat
def tw7732535981379868341:=Nat
def tw5628693608756752931:=Nat
def tw6691985941812107231:=Nat
def tw10425052975550099956:=Nat
def tw8214453462030582387:=Nat
def tw16699727376056046291:=Nat
def tw12530300136254178695:=Nat
def tw16712403104074228808:=Nat
def tw14036224418271238431:=Nat
def tw14848794717699318812:=Nat
def tw1142083065906755000:=Nat
def tw3626915250711789118:=Nat
def tw5612471298028927468:=Nat
def tw14687309631147175837:=Nat
def tw11154782119256047572:=Nat
def tw4918830960834886862:=Nat
def tw13613398638888290311:=Nat
def tw452546696334510963:=Nat
def tw3529910088791998890:=Nat
def tw4379068516831371537:=Nat
def tw6015683142728266148:=Nat
def tw16267161606193413349:=Nat
def tw4753999679750614052:=Nat
def tw12015932000610533063:=Nat
def tw12423263811830674184:=Nat
def tw6150724276779123089:=Nat
def tw12463464229169352489:=Nat
def tw18006773702982806628:=Nat
def tw7716505033042014776:=Nat
def tw3135851451961080169:=Nat
def tw2915604269813241932:=Nat
def tw6571817417729646618:=Nat
def tw10132351126117800932:=Nat
def tw5709626640697263636:=Nat
def tw9448085103963722590:=Nat
def tw2834553196539857253:=Nat
def tw2483336319329112561:=Nat
def tw7747352166725648938:=Nat
def tw312316658841565562:=Nat
def tw224642005462593451:=Nat
def tw12996140063387763819:=Nat
def tw7351613143324322080:=Nat
def tw10220301266712284077:=Nat
def tw16475793646164100485:=Nat
def tw5822848583120370480:=Nat
def tw6556347200423131843:=Nat
def tw1121160755042866117:=Nat
def tw17795825332490546746:=Nat
def tw13411553933468466811:=Nat
def tw5846301665181101317:=Nat
def tw101735701794033434:=Nat
def tw572501051919069920:=Nat
def tw3065870716461609825:=Nat
def tw1351933293229327244:=Nat
def tw4741680596187741556:=Nat
def tw4335485720338133276:=Nat
def tw9644603555005611362:=Nat
def tw3586010820475723546:=Nat
def tw16376918652245830860:=Nat
def tw12907358244251365567:=Nat
def tw7134304125685670788:=Nat
def tw10097924123999950386:=Nat
def tw14095676012102116191:=Nat
def tw14637831948480429962:=Nat
def tw13775884426898513101:=Nat
def tw15840043531097202403:=Nat
def tw15582440192961620190:=Nat
def tw3444256887163610155:=Nat
def tw17688278146206206077:=Nat
def tw2678254562834216463:=Nat
def tw7918712426667402141:=Nat
def tw4073067971251900147:=Nat
def tw16399960225143279529:=Nat
def tw16314320330156357860:=Nat
def tw17096515370680875911:=Nat
def tw14327935521073373387:=Nat
def tw12629060818066748056:=Nat
def tw6429387610034915257:=Nat
def tw14969218018257128107:=Nat
def tw2466317143730561482:=Nat
def tw5566445204712292053:=Nat
def tw17349044889789889689:=Nat
def tw9414031392697497514:=Nat
def tw4675443076586473337:=Nat
def tw4901724165138465300:=Nat
def tw13467776520322176188:=Nat
def tw4172339135050449599:=Nat
def tw17361388432642385739:=Nat
end PySem.W.Fast
namespace PG
open PySem L2
structure NoX (mg:Str->Option Value):Prop where
 dict_:mg "dict"=none
noncomputable def RK{α:Type}(l:List (Str×α))(d:α)(x:Str):α:=(l.lookup x).getD d
theorem D4{α:Type}(d:α):∀(l:List (Str×α)) (i:Nat) (x:Str) (v:α),l[i]? =some (x,v)->(l.map (·.1)).Nodup->RK l d x=v
 | [],i,x,v,h,_=>by cases h
 |(y,u)::r,0,x,v,h,_=>by
  cases h
  unfold RK
  rw[List.lookup_cons_self]
  rfl
 |(y,u)::r,i+1,x,v,h,hn=>by
  have h':r[i]? =some (x,v):=h
  rw[map_cons,nodup_cons]at hn
  have hm:x∈r.map (·.1):=mem_map.mpr ⟨(x,v),mem_of_getElem? h',rfl⟩
  have hne:x≠y:=λe=>hn.1 (e▸hm)
  have ih:=D4 d r i x v h' hn.2
  unfold RK at ih⊢
  rw[lookup_cons,show(x==y)=false from beq_false_of_ne hne]
  exact ih
theorem L4:(["put","at","many","told"]:List Str).Nodup:=by decide +kernel
theorem egZ(f0 f1 f2 f3:Addr)(d0 d1 d2 d3:FuncData):∃(mf:Str->Addr) (md:Str->FuncData),mf "put"=f0/\mf "at"=f1/\mf "many"=f2/\mf "told"=f3/\md "put"=d0/\md "at"=d1/\md "many"=d2/\md "told"=d3:=
 ⟨RK [("put",f0),("at",f1),("many",f2),("told",f3)] f0,RK [("put",d0),("at",d1),("many",d2),("told",d3)] d0,D4 _ _ 0 _ _ rfl L4,D4 _ _ 1 _ _ rfl L4,D4 _ _ 2 _ _ rfl L4,D4 _ _ 3 _ _ rfl L4,D4 _ _ 0 _ _ rfl L4,D4 _ _ 1 _ _ rfl L4,D4 _ _ 2 _ _ rfl L4,D4 _ _ 3 _ _ rfl L4⟩
/-- a def of the top,as it lies -/
noncomputable def DefAt(K:FZ)(x:Str)(st:Stmt)(f:Addr)(fd:FuncData):Prop:=∃(oc kV dc pm cd ct:Value) (od an:Option Addr) (sl:Array (Option Value)),fd=fnOf x x (G2 st) (E7 st) (B4 st) .none kV dc pm an cd ct/\PySem.W.nsIn K mainGlobals x=some (some (.ref f))/\K.lookup f=some ⟨oc,od,.func (fnOf x x (G2 st) (E7 st) (B4 st) .none kV dc pm an cd ct),sl⟩/\codeIn K cd x=true/\PySem.W.keepIn K (.ref f)=true
section
variable{K:FZ}{x:Str}{st:Stmt}{f:Addr}{fd:FuncData}
theorem DefAt.ns(h:DefAt K x st f fd):PySem.W.nsIn K mainGlobals x=some (some (.ref f)):=by
 obtain⟨_,_,_,_,_,_,_,_,_,_,a,_⟩:=h
 exact a
theorem DefAt.kp(h:DefAt K x st f fd):kZ K (.ref f)=true:=by
 obtain⟨_,_,_,_,_,_,_,_,_,_,_,_,_,a⟩:=h
 exact a
theorem DefAt.fn(h:DefAt K x st f fd):Fun K x x st f fd:=by
 obtain⟨_,_,_,_,_,_,_,_,_,rfl,_,l,c,k⟩:=h
 exact W6 l c k
end
/-- a method of a class,as it lies -/
noncomputable def MethAt(K:FZ)(C:Addr)(x qn:Str)(st:Stmt)(f:Addr)(fd:FuncData):Prop:=∃(oc kV dc pm cd ct:Value) (od an:Option Addr) (sl:Array (Option Value)),fd=fnOf x qn (G2 st) (E7 st) (B4 st) .none kV dc pm an cd ct/\findIn K (.ref C) x=some (some (.ref f))/\K.lookup f=some ⟨oc,od,.func (fnOf x qn (G2 st) (E7 st) (B4 st) .none kV dc pm an cd ct),sl⟩/\codeIn K cd qn=true/\PySem.W.keepIn K (.ref f)=true/\isFn K (.ref f)=true
section
variable{K:FZ}{C:Addr}{x qn:Str}{st:Stmt}{f:Addr}{fd:FuncData}
theorem MethAt.me(h:MethAt K C x qn st f fd):Meth K C x f:=by
 obtain⟨_,_,_,_,_,_,_,_,_,_,a,_,_,k,j⟩:=h
 exact⟨a,j,k⟩
theorem MethAt.fn(h:MethAt K C x qn st f fd):Fun K x qn st f fd:=by
 obtain⟨_,_,_,_,_,_,_,_,_,rfl,_,l,c,k,_⟩:=h
 exact W6 l c k
end
theorem C6:(["step","go_on","enter","leave","end","collect","hung_on","hang_on","has_value","answer","frames","cells","rows_done","calls"]:List Str).Nodup:=by decide +kernel
theorem dEZ(f0 f1 f2 f3 f4 f5 f6 f7 f8 f9 f10 f11 f12 f13:Addr)(d0 d1 d2 d3 d4 d5 d6 d7 d8 d9 d10 d11 d12 d13:FuncData):∃(mf:Str->Addr) (md:Str->FuncData),mf "step"=f0/\mf "go_on"=f1/\mf "enter"=f2/\mf "leave"=f3/\mf "end"=f4/\mf "collect"=f5/\mf "hung_on"=f6/\mf "hang_on"=f7/\mf "has_value"=f8/\mf "answer"=f9/\mf "frames"=f10/\mf "cells"=f11/\mf "rows_done"=f12/\mf "calls"=f13/\md "step"=d0/\md "go_on"=d1/\md "enter"=d2/\md "leave"=d3/\md "end"=d4/\md "collect"=d5/\md "hung_on"=d6/\md "hang_on"=d7/\md "has_value"=d8/\md "answer"=d9/\md "frames"=d10/\md "cells"=d11/\md "rows_done"=d12/\md "calls"=d13:=
 ⟨RK [("step",f0),("go_on",f1),("enter",f2),("leave",f3),("end",f4),("collect",f5),("hung_on",f6),("hang_on",f7),("has_value",f8),("answer",f9),("frames",f10),("cells",f11),("rows_done",f12),("calls",f13)] f0,RK [("step",d0),("go_on",d1),("enter",d2),("leave",d3),("end",d4),("collect",d5),("hung_on",d6),("hang_on",d7),("has_value",d8),("answer",d9),("frames",d10),("cells",d11),("rows_done",d12),("calls",d13)] d0,D4 _ _ 0 _ _ rfl C6,D4 _ _ 1 _ _ rfl C6,D4 _ _ 2 _ _ rfl C6,D4 _ _ 3 _ _ rfl C6,D4 _ _ 4 _ _ rfl C6,D4 _ _ 5 _ _ rfl C6,D4 _ _ 6 _ _ rfl C6,D4 _ _ 7 _ _ rfl C6,D4 _ _ 8 _ _ rfl C6,D4 _ _ 9 _ _ rfl C6,D4 _ _ 10 _ _ rfl C6,D4 _ _ 11 _ _ rfl C6,D4 _ _ 12 _ _ rfl C6,D4 _ _ 13 _ _ rfl C6,D4 _ _ 0 _ _ rfl C6,D4 _ _ 1 _ _ rfl C6,D4 _ _ 2 _ _ rfl C6,D4 _ _ 3 _ _ rfl C6,D4 _ _ 4 _ _ rfl C6,D4 _ _ 5 _ _ rfl C6,D4 _ _ 6 _ _ rfl C6,D4 _ _ 7 _ _ rfl C6,D4 _ _ 8 _ _ rfl C6,D4 _ _ 9 _ _ rfl C6,D4 _ _ 10 _ _ rfl C6,D4 _ _ 11 _ _ rfl C6,D4 _ _ 12 _ _ rfl C6,D4 _ _ 13 _ _ rfl C6⟩
theorem bn1{K:FZ}{x qual:Str}{st:Stmt}{f:Addr}{fd:FuncData}{ps:List Str}(F:Fun K x qual st f fd)(l:ps.length=1)(h:∀(kV doc pm:Value) (an:Option Addr) (cdv ct a0:Value),bindArgs (fnOf x qual (G2 st) (E7 st) (B4 st) .none kV doc pm an cdv ct) ⟨[a0],[]⟩=pure (ps.zip [a0])):Binds K fd ps []:=
 F.binds λkV doc pm an cdv ct us hl=>match us,hl.trans l with| [a0],_=>h kV doc pm an cdv ct a0
theorem bn2{K:FZ}{x qual:Str}{st:Stmt}{f:Addr}{fd:FuncData}{ps:List Str}(F:Fun K x qual st f fd)(l:ps.length=2)(h:∀(kV doc pm:Value) (an:Option Addr) (cdv ct a0 a1:Value),bindArgs (fnOf x qual (G2 st) (E7 st) (B4 st) .none kV doc pm an cdv ct) ⟨[a0,a1],[]⟩=pure (ps.zip [a0,a1])):Binds K fd ps []:=
 F.binds λkV doc pm an cdv ct us hl=>match us,hl.trans l with| [a0,a1],_=>h kV doc pm an cdv ct a0 a1
theorem bn3{K:FZ}{x qual:Str}{st:Stmt}{f:Addr}{fd:FuncData}{ps:List Str}(F:Fun K x qual st f fd)(l:ps.length=3)(h:∀(kV doc pm:Value) (an:Option Addr) (cdv ct a0 a1 a2:Value),bindArgs (fnOf x qual (G2 st) (E7 st) (B4 st) .none kV doc pm an cdv ct) ⟨[a0,a1,a2],[]⟩=pure (ps.zip [a0,a1,a2])):Binds K fd ps []:=
 F.binds λkV doc pm an cdv ct us hl=>match us,hl.trans l with| [a0,a1,a2],_=>h kV doc pm an cdv ct a0 a1 a2
theorem bn4{K:FZ}{x qual:Str}{st:Stmt}{f:Addr}{fd:FuncData}{ps:List Str}(F:Fun K x qual st f fd)(l:ps.length=4)(h:∀(kV doc pm:Value) (an:Option Addr) (cdv ct a0 a1 a2 a3:Value),bindArgs (fnOf x qual (G2 st) (E7 st) (B4 st) .none kV doc pm an cdv ct) ⟨[a0,a1,a2,a3],[]⟩=pure (ps.zip [a0,a1,a2,a3])):Binds K fd ps []:=
 F.binds λkV doc pm an cdv ct us hl=>match us,hl.trans l with| [a0,a1,a2,a3],_=>h kV doc pm an cdv ct a0 a1 a2 a3
theorem bn5{K:FZ}{x qual:Str}{st:Stmt}{f:Addr}{fd:FuncData}{ps:List Str}(F:Fun K x qual st f fd)(l:ps.length=5)(h:∀(kV doc pm:Value) (an:Option Addr) (cdv ct a0 a1 a2 a3 a4:Value),bindArgs (fnOf x qual (G2 st) (E7 st) (B4 st) .none kV doc pm an cdv ct) ⟨[a0,a1,a2,a3,a4],[]⟩=pure (ps.zip [a0,a1,a2,a3,a4])):Binds K fd ps []:=
 F.binds λkV doc pm an cdv ct us hl=>match us,hl.trans l with| [a0,a1,a2,a3,a4],_=>h kV doc pm an cdv ct a0 a1 a2 a3 a4
theorem all_mk{l:PySem.W.OpenLaw}{w:World}{K:PySem.W.Frag}{h:Heap}{mg:Str->Option Value}{fa:Addr}(X:K.In h)(G:h.Ns mainGlobals mg)(hfa:mg "law"=some (.ref fa)){c Pt:Addr}
  {f0 f1 f2 f3 f4 f5 f6 f7 f8 f9 f10 f11 f12 f13 f14 f15 f16 f17 f18 f19 f20 f21 f22 f23 f24 f25 f26 f27 f28 f29 f30 f31 f32 f33 f34 f35 f36 f37 f38 f39 f40 f41:Addr}{od2 an2 od41 an41:Option Addr}{sl2 sl41:Array (Option Value)}{oc2 kV2 dc2 pm2 cd2 ct2 oc41 kV41 dc41 pm41 cd41 ct41:Value}
  {e0 e1 e3 e4 e5 e6 e7 e8 e9 e10 e11 e12 e13 e14 e15 e16 e17 e18 e19 e20 e21 e22 e23 e24 e25 e26 e27 e28 e29 e30 e31 e32 e33 e34 e35 e36 e37 e38 e39 e40:FuncData}
  {t_GREATEST t_DEEPEST:Tok}
  {C:Addr}{fM0 fM1 fM2 fM3 fI:Addr}{odM0 anM0 odM1 anM1 odM2 anM2 odM3 anM3 odI anI:Option Addr}{slM0 slM1 slM2 slM3 slI:Array (Option Value)}{ocM0 kVM0 dcM0 pmM0 cdM0 ctM0 ocM1 kVM1 dcM1 pmM1 cdM1 ctM1 ocM2 kVM2 dcM2 pmM2 cdM2 ctM2 ocM3 kVM3 dcM3 pmM3 cdM3 ctM3 ocI kVI dcI pmI cdI ctI:Value}
  {pf_ROW_SIGNS:Addr}{es_ROW_SIGNS:Array DictEntry}{nes_ROW_SIGNS:Nat}
  (d0:DefAt K "built_up" BV.s_built_up f0 e0)
  (d1:DefAt K "is_cell" SW.s_is_cell f1 e1)
  (d3:DefAt K "heads_of" PL.s_heads_of f3 e3)
  (d4:DefAt K "with_heads" PL.s_with_heads f4 e4)
  (d5:DefAt K "swept" SW.s_swept f5 e5)
  (d6:DefAt K "numbers_led_to" SW.s_numbers_led_to f6 e6)
  (d7:DefAt K "values_in" SW.s_values_in f7 e7)
  (d8:DefAt K "moved_cell" SW.s_moved_cell f8 e8)
  (d9:DefAt K "moved" SW.s_moved f9 e9)
  (d10:DefAt K "two_told" NM.s_two_told f10 e10)
  (d11:DefAt K "quotient_told" NM.s_quotient_told f11 e11)
  (d12:DefAt K "outcome" NM.s_outcome f12 e12)
  (d13:DefAt K "bounded" NM.s_bounded f13 e13)
  (d14:DefAt K "entered" CL.s_entered f14 e14)
  (d15:DefAt K "own_done" CL.s_own_done f15 e15)
  (d16:DefAt K "called" CL.s_called f16 e16)
  (d17:DefAt K "behind" CL.s_behind f17 e17)
  (d18:DefAt K "top_values" CL.s_top_values f18 e18)
  (d19:DefAt K "two_done" CL.s_two_done f19 e19)
  (d20:DefAt K "part_done" CL.s_part_done f20 e20)
  (d21:DefAt K "with_new_cell" CL.s_with_new_cell f21 e21)
  (d22:DefAt K "with_nothing_put" CL.s_with_nothing_put f22 e22)
  (d23:DefAt K "with_slot" CL.s_with_slot f23 e23)
  (d24:DefAt K "further" CL.s_further f24 e24)
  (d25:DefAt K "value_put" CL.s_value_put f25 e25)
  (d26:DefAt K "run" MC.s_run f26 e26)
  (d27:DefAt K "ended" MC.s_ended f27 e27)
  (d28:DefAt K "_law_cell_at" K67.s_law_cell_at f28 e28)
  (d29:DefAt K "_law_same" CL.s_law_same f29 e29)
  (d30:DefAt K "_law_number" K67.s_law_number f30 e30)
  (d31:DefAt K "_law_heads" PG.s_law_heads f31 e31)
  (d32:DefAt K "_law_push" PG.s_law_push f32 e32)
  (d33:DefAt K "_law_want" PG.s_law_want f33 e33)
  (d34:DefAt K "_law_reckon" PG.s_law_reckon f34 e34)
  (d35:DefAt K "_law_listed" PG.s_law_listed f35 e35)
  (d36:DefAt K "_law_branch" PG.s_law_branch f36 e36)
  (d37:DefAt K "_law_slotted" PG.s_law_slotted f37 e37)
  (d38:DefAt K "_law_calling" PG.s_law_calling f38 e38)
  (d39:DefAt K "_law_block" PG.s_law_block f39 e39)
  (d40:DefAt K "_law_program" PG.s_law_program f40 e40)
  (a2:PySem.W.nsIn K mainGlobals "plain"=some (some (.ref f2)))(l2:K.lookup f2=some ⟨oc2,od2,.func (PySem.W.fnOf "plain" "plain" (G2 PL.s_plain) (E7 PL.s_plain) (B4 PL.s_plain) .none kV2 dc2 pm2 an2 cd2 ct2),sl2⟩)(c2:PySem.W.codeIn K cd2 "plain"=true)(k2:PySem.W.keepIn K (.ref f2)=true)
  (a41:PySem.W.nsIn K mainGlobals "law"=some (some (.ref f41)))(l41:K.lookup f41=some ⟨oc41,od41,.func (PySem.W.fnOf "law" "law" (G2 PG.s_law) (E7 PG.s_law) (B4 PG.s_law) .none kV41 dc41 pm41 an41 cd41 ct41),sl41⟩)(c41:PySem.W.codeIn K cd41 "law"=true)(k41:PySem.W.keepIn K (.ref f41)=true)
  (e_GREATEST:PySem.W.nsIn K mainGlobals "GREATEST"=some (some (.int 10000000000000000000000000000000000000000 t_GREATEST)))
  (e_DEEPEST:PySem.W.nsIn K mainGlobals "DEEPEST"=some (some (.int 60 t_DEEPEST)))
  (aD_ROW_SIGNS:PySem.W.nsIn K mainGlobals "ROW_SIGNS"=some (some (.ref pf_ROW_SIGNS)))(lD_ROW_SIGNS:K.lookup pf_ROW_SIGNS=some ⟨.type "dict",none,.dict es_ROW_SIGNS nes_ROW_SIGNS, #[]⟩)(kD_ROW_SIGNS:PySem.W.KeysLit w.params es_ROW_SIGNS.toList)(pD_ROW_SIGNS:Paired (λ(p:Str×V) (e:DictEntry)=>(∃t,e.key=.str p.1 t)/\RelV p.2 e.val) CL.RS es_ROW_SIGNS.toList)(oD_ROW_SIGNS:(pf_ROW_SIGNS==sysModules)=false)
  (aC:PySem.W.nsIn K mainGlobals "Cells"=some (some (.ref C)))
  (aM0:PySem.W.findIn K (.ref C) "put"=some (some (.ref fM0)))(lM0:K.lookup fM0=some ⟨ocM0,odM0,.func (PySem.W.fnOf "put" "Cells.put" (G2 CL.s_put) (E7 CL.s_put) (B4 CL.s_put) .none kVM0 dcM0 pmM0 anM0 cdM0 ctM0),slM0⟩)(cM0:PySem.W.codeIn K cdM0 "Cells.put"=true)(kM0:PySem.W.keepIn K (.ref fM0)=true)(jM0:PySem.W.isFn K (.ref fM0)=true)
  (aM1:PySem.W.findIn K (.ref C) "at"=some (some (.ref fM1)))(lM1:K.lookup fM1=some ⟨ocM1,odM1,.func (PySem.W.fnOf "at" "Cells.at" (G2 CL.s_at) (E7 CL.s_at) (B4 CL.s_at) .none kVM1 dcM1 pmM1 anM1 cdM1 ctM1),slM1⟩)(cM1:PySem.W.codeIn K cdM1 "Cells.at"=true)(kM1:PySem.W.keepIn K (.ref fM1)=true)(jM1:PySem.W.isFn K (.ref fM1)=true)
  (aM2:PySem.W.findIn K (.ref C) "many"=some (some (.ref fM2)))(lM2:K.lookup fM2=some ⟨ocM2,odM2,.func (PySem.W.fnOf "many" "Cells.many" (G2 CL.s_many) (E7 CL.s_many) (B4 CL.s_many) .none kVM2 dcM2 pmM2 anM2 cdM2 ctM2),slM2⟩)(cM2:PySem.W.codeIn K cdM2 "Cells.many"=true)(kM2:PySem.W.keepIn K (.ref fM2)=true)(jM2:PySem.W.isFn K (.ref fM2)=true)
  (aM3:PySem.W.findIn K (.ref C) "told"=some (some (.ref fM3)))(lM3:K.lookup fM3=some ⟨ocM3,odM3,.func (PySem.W.fnOf "told" "Cells.told" (G2 CL.s_told) (E7 CL.s_told) (B4 CL.s_told) .none kVM3 dcM3 pmM3 anM3 cdM3 ctM3),slM3⟩)(cM3:PySem.W.codeIn K cdM3 "Cells.told"=true)(kM3:PySem.W.keepIn K (.ref fM3)=true)(jM3:PySem.W.isFn K (.ref fM3)=true)
  (aI:PySem.W.findIn K (.ref C) "__init__"=some (some (.ref fI)))(lI:K.lookup fI=some ⟨ocI,odI,.func (PySem.W.fnOf "__init__" "Cells.__init__" (G2 CL.s_init) (E7 CL.s_init) (B4 CL.s_init) .none kVI dcI pmI anI cdI ctI),slI⟩)(cI:PySem.W.codeIn K cdI "Cells.__init__"=true)(kI:PySem.W.keepIn K (.ref fI)=true)(jI:PySem.W.isFn K (.ref fI)=true)
  (pg:PySem.W.plainGet K C Str.empty=true)(hd:PySem.W.hasDictIn K C=true)(po:PySem.W.plainOver K C=true)(sa:PySem.W.findIn K (.ref C) "__setattr__"=some (some (.builtin "object.__setattr__")))(mk:PySem.W.makesIn K C=true)(kc:PySem.W.keepIn K (.ref C)=true)(ni:PySem.W.findIn K (.ref C) "in_order"=some none)
  {CM:Addr}{g0 g1 g2 g3 g4 g5 g6 g7 g8 g9 g10 g11 g12 g13:Addr}{h0 h1 h2 h3 h4 h5 h6 h7 h8 h9 h10 h11 h12 h13:FuncData}{gI:Addr}{hI:FuncData}
  (aQ2:PySem.W.nsIn K mainGlobals "Machine"=some (some (.ref CM)))
  (mm0:MethAt K CM "step" "Machine.step" MC.s_step g0 h0)
  (mm1:MethAt K CM "go_on" "Machine.go_on" MC.s_go_on g1 h1)
  (mm2:MethAt K CM "enter" "Machine.enter" MC.s_enter g2 h2)
  (mm3:MethAt K CM "leave" "Machine.leave" MC.s_leave g3 h3)
  (mm4:MethAt K CM "end" "Machine.end" MC.s_end g4 h4)
  (mm5:MethAt K CM "collect" "Machine.collect" MC.s_collect g5 h5)
  (mm6:MethAt K CM "hung_on" "Machine.hung_on" MC.s_hung_on g6 h6)
  (mm7:MethAt K CM "hang_on" "Machine.hang_on" MC.s_hang_on g7 h7)
  (mm8:MethAt K CM "has_value" "Machine.has_value" MC.s_has_value g8 h8)
  (mm9:MethAt K CM "answer" "Machine.answer" MC.s_answer g9 h9)
  (mm10:MethAt K CM "frames" "Machine.frames" MC.s_frames g10 h10)
  (mm11:MethAt K CM "cells" "Machine.cells" MC.s_cells g11 h11)
  (mm12:MethAt K CM "rows_done" "Machine.rows_done" MC.s_rows_done g12 h12)
  (mm13:MethAt K CM "calls" "Machine.calls" MC.s_calls g13 h13)
  (mmI:MethAt K CM "__init__" "Machine.__init__" MC.s_minit gI hI)
  (pg2:PySem.W.plainGet K CM Str.empty=true)(hd2:PySem.W.hasDictIn K CM=true)(po2:PySem.W.plainOver K CM=true)(sa2:PySem.W.findIn K (.ref CM) "__setattr__"=some (some (.builtin "object.__setattr__")))(mk2:PySem.W.makesIn K CM=true)(kc2:PySem.W.keepIn K (.ref CM)=true)(n1_2:PySem.W.findIn K (.ref CM) "blocks"=some none)(n2_2:PySem.W.findIn K (.ref CM) "most"=some none)(n3_2:PySem.W.findIn K (.ref CM) "store"=some none)(n4_2:PySem.W.findIn K (.ref CM) "standing"=some none)(n5_2:PySem.W.findIn K (.ref CM) "outcome"=some none)(n6_2:PySem.W.findIn K (.ref CM) "rows_so_far"=some none)(n7_2:PySem.W.findIn K (.ref CM) "calls_so_far"=some none)
  (z_len:PySem.W.nsIn K mainGlobals "len"=some none)
  (z_list:PySem.W.nsIn K mainGlobals "list"=some none)
  (z_range:PySem.W.nsIn K mainGlobals "range"=some none)
  (z_isinstance:PySem.W.nsIn K mainGlobals "isinstance"=some none)
  (z_str:PySem.W.nsIn K mainGlobals "str"=some none)
  (z_tuple:PySem.W.nsIn K mainGlobals "tuple"=some none)
  (z_int:PySem.W.nsIn K mainGlobals "int"=some none)
  (z_bool:PySem.W.nsIn K mainGlobals "bool"=some none)
  (z_all:PySem.W.nsIn K mainGlobals "all"=some none)
  (z_reversed:PySem.W.nsIn K mainGlobals "reversed"=some none)
  (z_zip:PySem.W.nsIn K mainGlobals "zip"=some none)
  (z_sum:PySem.W.nsIn K mainGlobals "sum"=some none)
  (z_max:PySem.W.nsIn K mainGlobals "max"=some none)
  (z_min:PySem.W.nsIn K mainGlobals "min"=some none)
  (z_enumerate:PySem.W.nsIn K mainGlobals "enumerate"=some none)
  (z_sorted:PySem.W.nsIn K mainGlobals "sorted"=some none)
  (z_abs:PySem.W.nsIn K mainGlobals "abs"=some none)
  (z_dict:PySem.W.nsIn K mainGlobals "dict"=some none)(hcode0:cd2=.ref c):
  ∃fd:FuncData,(∀(s:Shared) (v:Value),BindsTo s fd ⟨[v],[]⟩ [("_law_script",v)])/\∀base:Heap,K.In base->base.Ns mainGlobals mg->TabsB [(c,Pt)] mg base->FnOk l.prog w K mg base CX0 9 fa fd ["_law_script"] (ST K Pt):=by
 have e:=hfa.symm.trans (PySem.W.mg_of X G a41)
 cases e
 have B:CL.NoG mg:=⟨PySem.W.mg_none_of X G z_len,PySem.W.mg_none_of X G z_list,PySem.W.mg_none_of X G z_range,PySem.W.mg_none_of X G z_isinstance,PySem.W.mg_none_of X G z_str,PySem.W.mg_none_of X G z_tuple,PySem.W.mg_none_of X G z_int,PySem.W.mg_none_of X G z_bool,PySem.W.mg_none_of X G z_all⟩
 have B3:BV.NoG mg:=⟨PySem.W.mg_none_of X G z_len,PySem.W.mg_none_of X G z_list,PySem.W.mg_none_of X G z_reversed,PySem.W.mg_none_of X G z_range,PySem.W.mg_none_of X G z_zip,PySem.W.mg_none_of X G z_isinstance,PySem.W.mg_none_of X G z_str,PySem.W.mg_none_of X G z_tuple,PySem.W.mg_none_of X G z_sum,PySem.W.mg_none_of X G z_max,PySem.W.mg_none_of X G z_min,PySem.W.mg_none_of X G z_int,PySem.W.mg_none_of X G z_bool,PySem.W.mg_none_of X G z_enumerate,PySem.W.mg_none_of X G z_all⟩
 have BS:SW.NoG2 mg:=⟨PySem.W.mg_none_of X G z_sorted⟩
 have BM:NM.NoG mg:=⟨PySem.W.mg_none_of X G z_len,PySem.W.mg_none_of X G z_min,PySem.W.mg_none_of X G z_abs,PySem.W.mg_none_of X G z_isinstance,PySem.W.mg_none_of X G z_tuple,PySem.W.mg_none_of X G z_int,PySem.W.mg_none_of X G z_bool⟩
 have BX:PG.NoX mg:=⟨PySem.W.mg_none_of X G z_dict⟩
 have m_GREATEST:=PySem.W.mg_of X G e_GREATEST
 have m_DEEPEST:=PySem.W.mg_of X G e_DEEPEST
 have TD_ROW_SIGNS:TopD w K pf_ROW_SIGNS CL.RS:=⟨⟨es_ROW_SIGNS,nes_ROW_SIGNS,lD_ROW_SIGNS,kD_ROW_SIGNS,pD_ROW_SIGNS⟩,oD_ROW_SIGNS⟩
 have m_ROW_SIGNS:=PySem.W.mg_of X G aD_ROW_SIGNS
 have F0:=d0.fn
 have b0:=bn3 (ps:=["root","parts_in","made"]) F0 rfl λ_ _ _ _ _ _ _ _ _=>rfl
 have m0:=PySem.W.mg_of X G d0.ns
 have k0:=d0.kp
 have F1:=d1.fn
 have b1:=bn1 (ps:=["value"]) F1 rfl λ_ _ _ _ _ _ _=>rfl
 have m1:=PySem.W.mg_of X G d1.ns
 have k1:=d1.kp
 have F3:=d3.fn
 have b3:=bn2 (ps:=["cells","value"]) F3 rfl λ_ _ _ _ _ _ _ _=>rfl
 have m3:=PySem.W.mg_of X G d3.ns
 have k3:=d3.kp
 have F4:=d4.fn
 have b4:=bn2 (ps:=["value","heads"]) F4 rfl λ_ _ _ _ _ _ _ _=>rfl
 have m4:=PySem.W.mg_of X G d4.ns
 have k4:=d4.kp
 have F5:=d5.fn
 have b5:=bn2 (ps:=["cells","values"]) F5 rfl λ_ _ _ _ _ _ _ _=>rfl
 have m5:=PySem.W.mg_of X G d5.ns
 have k5:=d5.kp
 have F6:=d6.fn
 have b6:=bn2 (ps:=["cells","values"]) F6 rfl λ_ _ _ _ _ _ _ _=>rfl
 have m6:=PySem.W.mg_of X G d6.ns
 have k6:=d6.kp
 have F7:=d7.fn
 have b7:=bn1 (ps:=["cell"]) F7 rfl λ_ _ _ _ _ _ _=>rfl
 have m7:=PySem.W.mg_of X G d7.ns
 have k7:=d7.kp
 have F8:=d8.fn
 have b8:=bn2 (ps:=["cell","new_numbers"]) F8 rfl λ_ _ _ _ _ _ _ _=>rfl
 have m8:=PySem.W.mg_of X G d8.ns
 have k8:=d8.kp
 have F9:=d9.fn
 have b9:=bn2 (ps:=["values","new_numbers"]) F9 rfl λ_ _ _ _ _ _ _ _=>rfl
 have m9:=PySem.W.mg_of X G d9.ns
 have k9:=d9.kp
 have F10:=d10.fn
 have b10:=bn3 (ps:=["sign","a","b"]) F10 rfl λ_ _ _ _ _ _ _ _ _=>rfl
 have m10:=PySem.W.mg_of X G d10.ns
 have k10:=d10.kp
 have F11:=d11.fn
 have b11:=bn2 (ps:=["a","b"]) F11 rfl λ_ _ _ _ _ _ _ _=>rfl
 have m11:=PySem.W.mg_of X G d11.ns
 have k11:=d11.kp
 have F12:=d12.fn
 have b12:=bn3 (ps:=["sign","a","b"]) F12 rfl λ_ _ _ _ _ _ _ _ _=>rfl
 have m12:=PySem.W.mg_of X G d12.ns
 have k12:=d12.kp
 have F13:=d13.fn
 have b13:=bn1 (ps:=["number"]) F13 rfl λ_ _ _ _ _ _ _=>rfl
 have m13:=PySem.W.mg_of X G d13.ns
 have k13:=d13.kp
 have F14:=d14.fn
 have b14:=bn3 (ps:=["blocks","number","values"]) F14 rfl λ_ _ _ _ _ _ _ _ _=>rfl
 have m14:=PySem.W.mg_of X G d14.ns
 have k14:=d14.kp
 have F15:=d15.fn
 have b15:=bn3 (ps:=["cells","frame","row"]) F15 rfl λ_ _ _ _ _ _ _ _ _=>rfl
 have m15:=PySem.W.mg_of X G d15.ns
 have k15:=d15.kp
 have F16:=d16.fn
 have b16:=bn4 (ps:=["blocks","cells","frame","row"]) F16 rfl λ_ _ _ _ _ _ _ _ _ _=>rfl
 have m16:=PySem.W.mg_of X G d16.ns
 have k16:=d16.kp
 have F17:=d17.fn
 have b17:=bn3 (ps:=["frame","many_taken","values"]) F17 rfl λ_ _ _ _ _ _ _ _ _=>rfl
 have m17:=PySem.W.mg_of X G d17.ns
 have k17:=d17.kp
 have F18:=d18.fn
 have b18:=bn2 (ps:=["stack","many"]) F18 rfl λ_ _ _ _ _ _ _ _=>rfl
 have m18:=PySem.W.mg_of X G d18.ns
 have k18:=d18.kp
 have F19:=d19.fn
 have b19:=bn2 (ps:=["frame","sign"]) F19 rfl λ_ _ _ _ _ _ _ _=>rfl
 have m19:=PySem.W.mg_of X G d19.ns
 have k19:=d19.kp
 have F20:=d20.fn
 have b20:=bn3 (ps:=["cells","frame","word"]) F20 rfl λ_ _ _ _ _ _ _ _ _=>rfl
 have m20:=PySem.W.mg_of X G d20.ns
 have k20:=d20.kp
 have F21:=d21.fn
 have b21:=bn3 (ps:=["cells","frame","row"]) F21 rfl λ_ _ _ _ _ _ _ _ _=>rfl
 have m21:=PySem.W.mg_of X G d21.ns
 have k21:=d21.kp
 have F22:=d22.fn
 have b22:=bn2 (ps:=["frame","row"]) F22 rfl λ_ _ _ _ _ _ _ _=>rfl
 have m22:=PySem.W.mg_of X G d22.ns
 have k22:=d22.kp
 have F23:=d23.fn
 have b23:=bn3 (ps:=["frame","slot","value"]) F23 rfl λ_ _ _ _ _ _ _ _ _=>rfl
 have m23:=PySem.W.mg_of X G d23.ns
 have k23:=d23.kp
 have F24:=d24.fn
 have b24:=bn2 (ps:=["frame","many_rows"]) F24 rfl λ_ _ _ _ _ _ _ _=>rfl
 have m24:=PySem.W.mg_of X G d24.ns
 have k24:=d24.kp
 have F25:=d25.fn
 have b25:=bn2 (ps:=["frame","row"]) F25 rfl λ_ _ _ _ _ _ _ _=>rfl
 have m25:=PySem.W.mg_of X G d25.ns
 have k25:=d25.kp
 have F26:=d26.fn
 have b26:=bn5 (ps:=["blocks","main","numbers","most","rounds"]) F26 rfl λ_ _ _ _ _ _ _ _ _ _ _=>rfl
 have m26:=PySem.W.mg_of X G d26.ns
 have k26:=d26.kp
 have F27:=d27.fn
 have b27:=bn5 (ps:=["blocks","main","numbers","most","rounds"]) F27 rfl λ_ _ _ _ _ _ _ _ _ _ _=>rfl
 have m27:=PySem.W.mg_of X G d27.ns
 have k27:=d27.kp
 have F28:=d28.fn
 have b28:=bn2 (ps:=["_law_script","_law_k"]) F28 rfl λ_ _ _ _ _ _ _ _=>rfl
 have m28:=PySem.W.mg_of X G d28.ns
 have k28:=d28.kp
 have F29:=d29.fn
 have b29:=bn2 (ps:=["_law_found","_law_due"]) F29 rfl λ_ _ _ _ _ _ _ _=>rfl
 have m29:=PySem.W.mg_of X G d29.ns
 have k29:=d29.kp
 have F30:=d30.fn
 have b30:=bn1 (ps:=["_law_cell"]) F30 rfl λ_ _ _ _ _ _ _=>rfl
 have m30:=PySem.W.mg_of X G d30.ns
 have k30:=d30.kp
 have F31:=d31.fn
 have b31:=bn3 (ps:=["_law_cell","_law_many","_law_main"]) F31 rfl λ_ _ _ _ _ _ _ _ _=>rfl
 have m31:=PySem.W.mg_of X G d31.ns
 have k31:=d31.kp
 have F32:=d32.fn
 have b32:=bn3 (ps:=["_law_state","_law_kind","_law_cell"]) F32 rfl λ_ _ _ _ _ _ _ _ _=>rfl
 have m32:=PySem.W.mg_of X G d32.ns
 have k32:=d32.kp
 have F33:=d33.fn
 have b33:=bn3 (ps:=["_law_state","_law_kinds","_law_cell"]) F33 rfl λ_ _ _ _ _ _ _ _ _=>rfl
 have m33:=PySem.W.mg_of X G d33.ns
 have k33:=d33.kp
 have F34:=d34.fn
 have b34:=bn2 (ps:=["_law_state","_law_more"]) F34 rfl λ_ _ _ _ _ _ _ _=>rfl
 have m34:=PySem.W.mg_of X G d34.ns
 have k34:=d34.kp
 have F35:=d35.fn
 have b35:=bn2 (ps:=["_law_state","_law_more"]) F35 rfl λ_ _ _ _ _ _ _ _=>rfl
 have m35:=PySem.W.mg_of X G d35.ns
 have k35:=d35.kp
 have F36:=d36.fn
 have b36:=bn2 (ps:=["_law_state","_law_more"]) F36 rfl λ_ _ _ _ _ _ _ _=>rfl
 have m36:=PySem.W.mg_of X G d36.ns
 have k36:=d36.kp
 have F37:=d37.fn
 have b37:=bn2 (ps:=["_law_state","_law_more"]) F37 rfl λ_ _ _ _ _ _ _ _=>rfl
 have m37:=PySem.W.mg_of X G d37.ns
 have k37:=d37.kp
 have F38:=d38.fn
 have b38:=bn3 (ps:=["_law_state","_law_more","_law_heads_here"]) F38 rfl λ_ _ _ _ _ _ _ _ _=>rfl
 have m38:=PySem.W.mg_of X G d38.ns
 have k38:=d38.kp
 have F39:=d39.fn
 have b39:=bn3 (ps:=["_law_cells","_law_heads_here","_law_b"]) F39 rfl λ_ _ _ _ _ _ _ _ _=>rfl
 have m39:=PySem.W.mg_of X G d39.ns
 have k39:=d39.kp
 have F40:=d40.fn
 have b40:=bn1 (ps:=["_law_script"]) F40 rfl λ_ _ _ _ _ _ _=>rfl
 have m40:=PySem.W.mg_of X G d40.ns
 have k40:=d40.kp
 have F2:=W6 (st:=PL.s_plain) l2 c2 k2
 have b2:=bn2 (ps:=["cells","value"]) F2 rfl λ_ _ _ _ _ _ _ _=>rfl
 have m2:=PySem.W.mg_of X G a2
 have F41:=W6 (st:=PG.s_law) l41 c41 k41
 have b41:=bn1 (ps:=["_law_script"]) F41 rfl λ_ _ _ _ _ _ _=>rfl
 have m41:=PySem.W.mg_of X G a41
 have FM0:=W6 (st:=CL.s_put) lM0 cM0 kM0
 have bM0:=bn2 (ps:=["self","cell"]) FM0 rfl λ_ _ _ _ _ _ _ _=>rfl
 have FM1:=W6 (st:=CL.s_at) lM1 cM1 kM1
 have bM1:=bn2 (ps:=["self","value"]) FM1 rfl λ_ _ _ _ _ _ _ _=>rfl
 have FM2:=W6 (st:=CL.s_many) lM2 cM2 kM2
 have bM2:=bn1 (ps:=["self"]) FM2 rfl λ_ _ _ _ _ _ _=>rfl
 have FM3:=W6 (st:=CL.s_told) lM3 cM3 kM3
 have bM3:=bn1 (ps:=["self"]) FM3 rfl λ_ _ _ _ _ _ _=>rfl
 have FI:=W6 (st:=CL.s_init) lI cI kI
 have bI:=bn1 (ps:=["self"]) FI rfl λ_ _ _ _ _ _ _=>rfl
 obtain⟨mf,md,u0,u1,u2,u3,v0,v1,v2,v3⟩:=egZ fM0 fM1 fM2 fM3 (PySem.W.fnOf "put" "Cells.put" (G2 CL.s_put) (E7 CL.s_put) (B4 CL.s_put) .none kVM0 dcM0 pmM0 anM0 cdM0 ctM0) (PySem.W.fnOf "at" "Cells.at" (G2 CL.s_at) (E7 CL.s_at) (B4 CL.s_at) .none kVM1 dcM1 pmM1 anM1 cdM1 ctM1) (PySem.W.fnOf "many" "Cells.many" (G2 CL.s_many) (E7 CL.s_many) (B4 CL.s_many) .none kVM2 dcM2 pmM2 anM2 cdM2 ctM2) (PySem.W.fnOf "told" "Cells.told" (G2 CL.s_told) (E7 CL.s_told) (B4 CL.s_told) .none kVM3 dcM3 pmM3 anM3 cdM3 ctM3)
 have R0:Fun K "put" "Cells.put" CL.s_put (mf "put") (md "put"):=by rw[u0,v0];exact FM0
 have w0:Meth K C "put" (mf "put"):=by rw[u0];exact⟨aM0,jM0,kM0⟩
 have y100:Binds K (md "put") ["self","cell"] []:=by rw[v0];exact bM0
 have R1:Fun K "at" "Cells.at" CL.s_at (mf "at") (md "at"):=by rw[u1,v1];exact FM1
 have w1:Meth K C "at" (mf "at"):=by rw[u1];exact⟨aM1,jM1,kM1⟩
 have y101:Binds K (md "at") ["self","value"] []:=by rw[v1];exact bM1
 have R2:Fun K "many" "Cells.many" CL.s_many (mf "many") (md "many"):=by rw[u2,v2];exact FM2
 have w2:Meth K C "many" (mf "many"):=by rw[u2];exact⟨aM2,jM2,kM2⟩
 have y102:Binds K (md "many") ["self"] []:=by rw[v2];exact bM2
 have R3:Fun K "told" "Cells.told" CL.s_told (mf "told") (md "told"):=by rw[u3,v3];exact FM3
 have w3:Meth K C "told" (mf "told"):=by rw[u3];exact⟨aM3,jM3,kM3⟩
 have y103:Binds K (md "told") ["self"] []:=by rw[v3];exact bM3
 have RC:CL.RCls K C mf md:={cl:=⟨pg,hd,po,sa⟩,ni:=ni,m_put:=w0,m_at:=w1,m_many:=w2,m_told:=w3,b_put:=y100,b_at:=y101,b_many:=y102,b_told:=y103}
 have Fm0:=mm0.fn
 have bm0:=bn1 (ps:=["self"]) Fm0 rfl λ_ _ _ _ _ _ _=>rfl
 have Fm1:=mm1.fn
 have bm1:=bn2 (ps:=["self","told"]) Fm1 rfl λ_ _ _ _ _ _ _ _=>rfl
 have Fm2:=mm2.fn
 have bm2:=bn3 (ps:=["self","frame","row"]) Fm2 rfl λ_ _ _ _ _ _ _ _ _=>rfl
 have Fm3:=mm3.fn
 have bm3:=bn2 (ps:=["self","value"]) Fm3 rfl λ_ _ _ _ _ _ _ _=>rfl
 have Fm4:=mm4.fn
 have bm4:=bn2 (ps:=["self","outcome"]) Fm4 rfl λ_ _ _ _ _ _ _ _=>rfl
 have Fm5:=mm5.fn
 have bm5:=bn1 (ps:=["self"]) Fm5 rfl λ_ _ _ _ _ _ _=>rfl
 have Fm6:=mm6.fn
 have bm6:=bn1 (ps:=["self"]) Fm6 rfl λ_ _ _ _ _ _ _=>rfl
 have Fm7:=mm7.fn
 have bm7:=bn2 (ps:=["self","values"]) Fm7 rfl λ_ _ _ _ _ _ _ _=>rfl
 have Fm8:=mm8.fn
 have bm8:=bn1 (ps:=["self"]) Fm8 rfl λ_ _ _ _ _ _ _=>rfl
 have Fm9:=mm9.fn
 have bm9:=bn1 (ps:=["self"]) Fm9 rfl λ_ _ _ _ _ _ _=>rfl
 have Fm10:=mm10.fn
 have bm10:=bn1 (ps:=["self"]) Fm10 rfl λ_ _ _ _ _ _ _=>rfl
 have Fm11:=mm11.fn
 have bm11:=bn1 (ps:=["self"]) Fm11 rfl λ_ _ _ _ _ _ _=>rfl
 have Fm12:=mm12.fn
 have bm12:=bn1 (ps:=["self"]) Fm12 rfl λ_ _ _ _ _ _ _=>rfl
 have Fm13:=mm13.fn
 have bm13:=bn1 (ps:=["self"]) Fm13 rfl λ_ _ _ _ _ _ _=>rfl
 have FmI:=mmI.fn
 have bmI:=bn5 (ps:=["self","blocks","main","numbers","most"]) FmI rfl λ_ _ _ _ _ _ _ _ _ _ _=>rfl
 obtain⟨gf,gd,uu0,uu1,uu2,uu3,uu4,uu5,uu6,uu7,uu8,uu9,uu10,uu11,uu12,uu13,vv0,vv1,vv2,vv3,vv4,vv5,vv6,vv7,vv8,vv9,vv10,vv11,vv12,vv13⟩:=dEZ g0 g1 g2 g3 g4 g5 g6 g7 g8 g9 g10 g11 g12 g13 h0 h1 h2 h3 h4 h5 h6 h7 h8 h9 h10 h11 h12 h13
 have RM_step:Fun K "step" "Machine.step" MC.s_step (gf "step") (gd "step"):=by rw[uu0,vv0];exact Fm0
 have ww0:Meth K CM "step" (gf "step"):=by rw[uu0];exact mm0.me
 have yy0:Binds K (gd "step") ["self"] []:=by rw[vv0];exact bm0
 have RM_go_on:Fun K "go_on" "Machine.go_on" MC.s_go_on (gf "go_on") (gd "go_on"):=by rw[uu1,vv1];exact Fm1
 have ww1:Meth K CM "go_on" (gf "go_on"):=by rw[uu1];exact mm1.me
 have yy1:Binds K (gd "go_on") ["self","told"] []:=by rw[vv1];exact bm1
 have RM_enter:Fun K "enter" "Machine.enter" MC.s_enter (gf "enter") (gd "enter"):=by rw[uu2,vv2];exact Fm2
 have ww2:Meth K CM "enter" (gf "enter"):=by rw[uu2];exact mm2.me
 have yy2:Binds K (gd "enter") ["self","frame","row"] []:=by rw[vv2];exact bm2
 have RM_leave:Fun K "leave" "Machine.leave" MC.s_leave (gf "leave") (gd "leave"):=by rw[uu3,vv3];exact Fm3
 have ww3:Meth K CM "leave" (gf "leave"):=by rw[uu3];exact mm3.me
 have yy3:Binds K (gd "leave") ["self","value"] []:=by rw[vv3];exact bm3
 have RM_end:Fun K "end" "Machine.end" MC.s_end (gf "end") (gd "end"):=by rw[uu4,vv4];exact Fm4
 have ww4:Meth K CM "end" (gf "end"):=by rw[uu4];exact mm4.me
 have yy4:Binds K (gd "end") ["self","outcome"] []:=by rw[vv4];exact bm4
 have RM_collect:Fun K "collect" "Machine.collect" MC.s_collect (gf "collect") (gd "collect"):=by rw[uu5,vv5];exact Fm5
 have ww5:Meth K CM "collect" (gf "collect"):=by rw[uu5];exact mm5.me
 have yy5:Binds K (gd "collect") ["self"] []:=by rw[vv5];exact bm5
 have RM_hung_on:Fun K "hung_on" "Machine.hung_on" MC.s_hung_on (gf "hung_on") (gd "hung_on"):=by rw[uu6,vv6];exact Fm6
 have ww6:Meth K CM "hung_on" (gf "hung_on"):=by rw[uu6];exact mm6.me
 have yy6:Binds K (gd "hung_on") ["self"] []:=by rw[vv6];exact bm6
 have RM_hang_on:Fun K "hang_on" "Machine.hang_on" MC.s_hang_on (gf "hang_on") (gd "hang_on"):=by rw[uu7,vv7];exact Fm7
 have ww7:Meth K CM "hang_on" (gf "hang_on"):=by rw[uu7];exact mm7.me
 have yy7:Binds K (gd "hang_on") ["self","values"] []:=by rw[vv7];exact bm7
 have RM_has_value:Fun K "has_value" "Machine.has_value" MC.s_has_value (gf "has_value") (gd "has_value"):=by rw[uu8,vv8];exact Fm8
 have ww8:Meth K CM "has_value" (gf "has_value"):=by rw[uu8];exact mm8.me
 have yy8:Binds K (gd "has_value") ["self"] []:=by rw[vv8];exact bm8
 have RM_answer:Fun K "answer" "Machine.answer" MC.s_answer (gf "answer") (gd "answer"):=by rw[uu9,vv9];exact Fm9
 have ww9:Meth K CM "answer" (gf "answer"):=by rw[uu9];exact mm9.me
 have yy9:Binds K (gd "answer") ["self"] []:=by rw[vv9];exact bm9
 have RM_frames:Fun K "frames" "Machine.frames" MC.s_frames (gf "frames") (gd "frames"):=by rw[uu10,vv10];exact Fm10
 have ww10:Meth K CM "frames" (gf "frames"):=by rw[uu10];exact mm10.me
 have yy10:Binds K (gd "frames") ["self"] []:=by rw[vv10];exact bm10
 have RM_cells:Fun K "cells" "Machine.cells" MC.s_cells (gf "cells") (gd "cells"):=by rw[uu11,vv11];exact Fm11
 have ww11:Meth K CM "cells" (gf "cells"):=by rw[uu11];exact mm11.me
 have yy11:Binds K (gd "cells") ["self"] []:=by rw[vv11];exact bm11
 have RM_rows_done:Fun K "rows_done" "Machine.rows_done" MC.s_rows_done (gf "rows_done") (gd "rows_done"):=by rw[uu12,vv12];exact Fm12
 have ww12:Meth K CM "rows_done" (gf "rows_done"):=by rw[uu12];exact mm12.me
 have yy12:Binds K (gd "rows_done") ["self"] []:=by rw[vv12];exact bm12
 have RM_calls:Fun K "calls" "Machine.calls" MC.s_calls (gf "calls") (gd "calls"):=by rw[uu13,vv13];exact Fm13
 have ww13:Meth K CM "calls" (gf "calls"):=by rw[uu13];exact mm13.me
 have yy13:Binds K (gd "calls") ["self"] []:=by rw[vv13];exact bm13
 have RM:MC.MCls K CM gf gd:={cl:=⟨pg2,hd2,po2,sa2⟩,n1:=n1_2,n2:=n2_2,n3:=n3_2,n4:=n4_2,n5:=n5_2,n6:=n6_2,n7:=n7_2,m_step:=ww0,m_go_on:=ww1,m_enter:=ww2,m_leave:=ww3,m_end:=ww4,m_collect:=ww5,m_hung_on:=ww6,m_hang_on:=ww7,m_has_value:=ww8,m_answer:=ww9,m_frames:=ww10,m_cells:=ww11,m_rows_done:=ww12,m_calls:=ww13,b_step:=yy0,b_go_on:=yy1,b_enter:=yy2,b_leave:=yy3,b_end:=yy4,b_collect:=yy5,b_hung_on:=yy6,b_hang_on:=yy7,b_has_value:=yy8,b_answer:=yy9,b_frames:=yy10,b_cells:=yy11,b_rows_done:=yy12,b_calls:=yy13}
 have MKM:Mk K CM gI:=⟨mk2,mmI.me.1,mmI.me.2,kc2⟩
 have m_Machine:=PySem.W.mg_of X G aQ2
 refine⟨PySem.W.fnOf "law" "law" (G2 s_law) (E7 s_law) (B4 s_law) .none kV41 dc41 pm41 an41 cd41 ct41,λs v=> .of_eq rfl,λbase _ _ tbx=> ?_⟩
 have hcode:=hcode0
 have GM_init:=CL.ok_init (P:=l.prog) (w:=w) (mg:=mg) (base:=base) FI RC
 have BD:MC.NoD mg:={B with dict_:=BX.dict_}
 have GA:=λ(b:Heap)=>CL.ok_at (P:=l.prog) (w:=w) (mg:=mg) (base:=b) R1 RC
 have GP:=CL.ok_put (P:=l.prog) (w:=w) (mg:=mg) (base:=base) R0 B RC
 have GN:=CL.ok_many (P:=l.prog) (w:=w) (mg:=mg) (base:=base) R2 B RC
 have GT:=CL.ok_told (P:=l.prog) (w:=w) (mg:=mg) (base:=base) R3 B RC
 have MKC:Mk K C fI:=⟨mk,aI,jI,kc⟩
 have m_Cells:=PySem.W.mg_of X G aC
 have G_isP:=λ(b:Heap)=>PL.ok_is_cell (P:=l.prog) (w:=w) (mg:=mg) (base:=b) F1 B
 have BF:=PL.ok_plain (P:=l.prog) (w:=w) (mg:=mg) (base:=base) F2 hcode (tbx.code _ (List.mem_singleton.mpr rfl)) (tbx.blt _ (List.mem_singleton.mpr rfl)) (λb=>BV.ok_built_up (P:=l.prog) (w:=w) (mg:=mg) (base:=b) F0 B3) m0 k0 b0 (λb=>PL.ok_heads_of (P:=l.prog) (w:=w) (mg:=mg) (base:=b) F3 RC (λk=>(GA b).mono (by omega)) (G_isP b) m1 k1 b1) m3 k3 b3 (λb o L us O=>PL.ok_with_heads (P:=l.prog) (w:=w) (mg:=mg) (base:=b) F4 (G_isP b) m1 k1 b1) m4 k4 b4
 have G_isS:=SW.ok_is_cell (P:=l.prog) (w:=w) (mg:=mg) (base:=base) F1 B
 have G_vi:=SW.ok_values_in (P:=l.prog) (w:=w) (mg:=mg) (base:=base) F7
 have G_mv:=SW.ok_moved (P:=l.prog) (w:=w) (mg:=mg) (base:=base) F9 ⟨_,_,G_isS,b1,k1,m1⟩
 have G_mc:=SW.ok_moved_cell (P:=l.prog) (w:=w) (mg:=mg) (base:=base) F8 B ⟨_,_,G_vi,b7,k7,m7⟩ ⟨_,_,G_mv,b9,k9,m9⟩
 have G_led:=SW.ok_numbers_led_to (P:=l.prog) (w:=w) (mg:=mg) (base:=base) F6 B BS RC (GA base) ⟨_,_,G_isS,b1,k1,m1⟩ ⟨_,_,G_vi,b7,k7,m7⟩
 have G_sw:=SW.ok_swept (P:=l.prog) (w:=w) (mg:=mg) (base:=base) F5 B RC MKC m_Cells GM_init bI GP (GA base) ⟨_,_,G_led,b6,k6,m6⟩ ⟨_,_,G_mv,b9,k9,m9⟩ ⟨_,_,G_mc,b8,k8,m8⟩
 have G_quo:=NM.ok_quotient_told (P:=l.prog) (w:=w) (mg:=mg) (base:=base) F11
 have G_out:=NM.ok_outcome (P:=l.prog) (w:=w) (mg:=mg) (base:=base) F12
 have G_bnd:=NM.ok_bounded (P:=l.prog) (w:=w) (mg:=mg) (base:=base) F13 BM m_GREATEST
 have G_two:=NM.ok_two_told (P:=l.prog) (w:=w) (mg:=mg) (base:=base) F10 ⟨_,_,G_quo,b11,k11,m11⟩ ⟨_,_,G_out,b12,k12,m12⟩ ⟨_,_,G_bnd,b13,k13,m13⟩
 have G_ent:=CL.ok_entered (P:=l.prog) (w:=w) (mg:=mg) (base:=base) F14 B
 have G_beh:=CL.ok_behind (P:=l.prog) (w:=w) (mg:=mg) (base:=base) F17 B
 have G_top:=CL.ok_top_values (P:=l.prog) (w:=w) (mg:=mg) (base:=base) F18 B
 have G_cal:=CL.ok_called (P:=l.prog) (w:=w) (mg:=mg) (base:=base) F16 B RC (GA base) ⟨_,_,G_ent,b14,k14,m14⟩ ⟨_,_,G_beh,b17,k17,m17⟩ ⟨_,_,G_top,b18,k18,m18⟩
 have G_td:=CL.ok_two_done (P:=l.prog) (w:=w) (mg:=mg) (base:=base) F19 ⟨_,_,G_two,b10,k10,m10⟩ ⟨_,_,G_beh,b17,k17,m17⟩
 have G_pd:=CL.ok_part_done (P:=l.prog) (w:=w) (mg:=mg) (base:=base) F20 RC (GA base) ⟨_,_,G_beh,b17,k17,m17⟩
 have G_nc:=CL.ok_with_new_cell (P:=l.prog) (w:=w) (mg:=mg) (base:=base) F21 RC GP ⟨_,_,G_beh,b17,k17,m17⟩ ⟨_,_,G_top,b18,k18,m18⟩
 have G_ws:=CL.ok_with_slot (P:=l.prog) (w:=w) (mg:=mg) (base:=base) F23
 have G_fu:=CL.ok_further (P:=l.prog) (w:=w) (mg:=mg) (base:=base) F24
 have G_np:=CL.ok_with_nothing_put (P:=l.prog) (w:=w) (mg:=mg) (base:=base) F22 ⟨_,_,G_beh,b17,k17,m17⟩ ⟨_,_,G_ws,b23,k23,m23⟩ ⟨_,_,G_fu,b24,k24,m24⟩
 have G_vp:=CL.ok_value_put (P:=l.prog) (w:=w) (mg:=mg) (base:=base) F25
 have G_own:=CL.ok_own_done (P:=l.prog) (w:=w) (mg:=mg) (base:=base) F15 TD_ROW_SIGNS m_ROW_SIGNS ⟨_,_,G_td,b19,k19,m19⟩ ⟨_,_,G_pd,b20,k20,m20⟩ ⟨_,_,G_nc,b21,k21,m21⟩ ⟨_,_,G_np,b22,k22,m22⟩ ⟨_,_,G_vp,b25,k25,m25⟩ ⟨_,_,G_beh,b17,k17,m17⟩
 have N_end:=MC.ok_end (P:=l.prog) (w:=w) (mg:=mg) (base:=base) (C:=C) RM_end RM
 have N_hv:=MC.ok_has_value (P:=l.prog) (w:=w) (mg:=mg) (base:=base) RM_has_value RM
 have N_rd:=MC.ok_rows_done (P:=l.prog) (w:=w) (mg:=mg) (base:=base) (C:=C) RM_rows_done RM
 have N_go:=MC.ok_go_on (P:=l.prog) (w:=w) (mg:=mg) (base:=base) RM_go_on RM N_end
 have N_lv:=MC.ok_leave (P:=l.prog) (w:=w) (mg:=mg) (base:=base) RM_leave B RM N_end
 have N_en:=MC.ok_enter (P:=l.prog) (w:=w) (mg:=mg) (base:=base) RM_enter B RM ⟨_,m_DEEPEST⟩ N_end ⟨_,_,G_cal,b16,k16,m16⟩
 have N_st:=MC.ok_step (P:=l.prog) (w:=w) (mg:=mg) (base:=base) RM_step RM N_lv N_en N_go ⟨_,_,G_own,b15,k15,m15⟩
 have N_hu:=MC.ok_hung_on (P:=l.prog) (w:=w) (mg:=mg) (base:=base) (C:=C) RM_hung_on RM N_hv
 have N_ha:=MC.ok_hang_on (P:=l.prog) (w:=w) (mg:=mg) (base:=base) (C:=C) RM_hang_on B RM N_hv
 have N_co:=MC.ok_collect (P:=l.prog) (w:=w) (mg:=mg) (base:=base) RM_collect RM RC GN N_hu N_ha ⟨_,_,G_sw,b5,k5,m5⟩
 have N_an:=MC.ok_answer (P:=l.prog) (w:=w) (mg:=mg) (base:=base) RM_answer RM N_hv ⟨_,_,BF,b2,k2,m2⟩
 have N_in:=MC.ok_minit (P:=l.prog) (w:=w) (mg:=mg) (base:=base) FmI B RM MKC m_Cells GM_init bI ⟨_,_,G_ent,b14,k14,m14⟩
 have DH:=MC.ok_ended (P:=l.prog) (w:=w) (mg:=mg) (base:=base) F27 BD RM MKM m_Machine N_in bmI N_an N_rd N_co N_st
 have MG:=MC.ok_run (P:=l.prog) (w:=w) (mg:=mg) (base:=base) F26 RM N_an ⟨_,_,DH,b27,k27,m27⟩
 have G_cell:=K67.ok_law_cell_at (P:=l.prog) (w:=w) (mg:=mg) (base:=base) F28 B
 have G_same:=K67.ok_law_sameD (P:=l.prog) (w:=w) (mg:=mg) (base:=base) F29 B b29 k29 m29
 have G_num:=K67.ok_law_number (P:=l.prog) (w:=w) (mg:=mg) (base:=base) F30
 have G_push:=PG.ok_law_push (P:=l.prog) (w:=w) (mg:=mg) (base:=base) F32 B3 ⟨_,_,G_num,b30,k30,m30⟩
 have G_want:=PG.ok_law_want (P:=l.prog) (w:=w) (mg:=mg) (base:=base) F33 B3 ⟨_,_,G_push,b32,k32,m32⟩
 have G_reckon:=PG.ok_law_reckon (P:=l.prog) (w:=w) (mg:=mg) (base:=base) F34 ⟨_,_,G_want,b33,k33,m33⟩
 have G_listed:=PG.ok_law_listed (P:=l.prog) (w:=w) (mg:=mg) (base:=base) F35 ⟨_,_,G_push,b32,k32,m32⟩ ⟨_,_,G_want,b33,k33,m33⟩
 have G_branch:=PG.ok_law_branch (P:=l.prog) (w:=w) (mg:=mg) (base:=base) F36 ⟨_,_,G_push,b32,k32,m32⟩ ⟨_,_,G_want,b33,k33,m33⟩
 have G_slotted:=PG.ok_law_slotted (P:=l.prog) (w:=w) (mg:=mg) (base:=base) F37 B3
 have G_calling:=λhs=>PG.ok_law_calling (P:=l.prog) (w:=w) (mg:=mg) (base:=base) hs F38 B3 ⟨_,_,G_num,b30,k30,m30⟩ ⟨_,_,G_want,b33,k33,m33⟩
 have G_heads:=PG.ok_law_heads (P:=l.prog) (w:=w) (mg:=mg) (base:=base) F31 B3
 have G_block:=PG.block_any λhs=>PG.ok_law_block (P:=l.prog) (w:=w) (mg:=mg) (base:=base) hs F39 B3 ⟨_,_,G_num,b30,k30,m30⟩ ⟨_,_,G_want,b33,k33,m33⟩ ⟨_,_,G_reckon,b34,k34,m34⟩ ⟨_,_,G_listed,b35,k35,m35⟩ ⟨_,_,G_branch,b36,k36,m36⟩ ⟨_,_,G_slotted,b37,k37,m37⟩ ⟨_,_,(G_calling hs),b38,k38,m38⟩
 have G_prog:=PG.ok_law_program (P:=l.prog) (w:=w) (mg:=mg) (base:=base) F40 B3 ⟨_,_,G_cell,b28,k28,m28⟩ ⟨_,_,G_num,b30,k30,m30⟩ ⟨_,_,G_heads,b31,k31,m31⟩ ⟨_,_,G_block,b39,k39,m39⟩
 exact PG.ok_law (P:=l.prog) (w:=w) (mg:=mg) (base:=base) F41 B3 RM MKM m_Machine N_in bmI N_an N_rd N_st ⟨_,_,(G_same 4),b29,k29,m29⟩ ⟨_,_,G_cell,b28,k28,m28⟩ ⟨_,_,G_prog,b40,k40,m40⟩ ⟨_,_,MG,b26,k26,m26⟩
theorem walk{l:PySem.W.OpenLaw}{q:Program}{loose:List Str}{XP:(Str->Option Value)->Heap->Prop}{YP:World->Heap->Prop}{d:DefRec}{K:Params->PySem.W.Frag}{c Pt:Addr}(hn:l.most=some 63)(hdf:d.params.defaults=[])
  (hY:∀(w:World) (h:Heap),YP w h->(K w.params).In h)
  (hT:∀(w:World) (lo:List Str) (mean:ExcName->Option Value) (mg mb:Str->Option Value) (h:Heap),PyProof.Rows.Top q lo mean mg mb h->(K w.params).In h->PySem.W.CodeHd h c Pt/\h.get? Pt=some (PySem.W.tabObj #[]))(hK:∀w:World,PySem.W.noTabs (K w.params)=true)
  (F:∀(w:World) (mg:Str->Option Value) (fa:Addr) (h:Heap),(K w.params).In h->h.Ns mainGlobals mg->mg d.name=some (.ref fa)->
   ∃fd:FuncData,(∀(s:Shared) (u:Value),BindsTo s fd ⟨[u],[]⟩ [("_law_script",u)])/\∀base:Heap,(K w.params).In base->base.Ns mainGlobals mg->TabsB [(c,Pt)] mg base->FnOk l.prog w (K w.params) mg base CX0 9 fa fd ["_law_script"] (ST (K w.params) Pt)):
  PySem.W.WalkO q loose XP YP l.row.toRowW d [] (λf vs=>PySem.call f vs):=
 L2.walk_ofKT (n:=63) (k:=9) (x:="_law_script") (CX:=CX0) (sp:=λK=>ST K Pt) (tabs:=[(c,Pt)]) hn (by decide) hdf ⟨rfl,by decide,by decide⟩ hY (λw lo mean mg mb h T X q hq=>by
   have e:=List.mem_singleton.mp hq
   subst e
   exact hT w lo mean mg mb h T X) hK F (λ_ H a ns hl hO hS=>⟨a,ns,rfl,hS,hl,hO.tab (c,Pt) (List.mem_singleton.mpr rfl),λ_=>rfl⟩) λ_ _ _ _ z=>z
end PG
open PySem PySem.W PyProof.Rows
set_option maxRecDepth 100000 in
set_option maxHeartbeats 0 in
theorem PySem.Challenge.cw_speakmill_k68_run_and_rounds_holds : PySem.Challenge.rw_speakmill_k68_run_and_rounds.Holds := by
 w_on;o_law;k_head;(case hw=>w_witness2)
 k_fill
 refine PG.walk (l:=PySem.Challenge.rw_speakmill_k68_run_and_rounds) rfl rfl (c:=88) (Pt:=84) (λw h Y=>PySem.W.km_in_of Y) ?tabsT ?tabsN ?F
 case tabsT=>exact λw lo mean mg mb h T X=>PySem.W.tab_of (x:="plain") T X rfl (by kernel_rfl)
 case tabsN=>intro w;kernel_rfl
 case F=>
  intro w mg fa h KX G hmg
  refine' PG.all_mk KX G hmg ?d0 ?d1 ?d3 ?d4 ?d5 ?d6 ?d7 ?d8 ?d9 ?d10 ?d11 ?d12 ?d13 ?d14 ?d15 ?d16 ?d17 ?d18 ?d19 ?d20 ?d21 ?d22 ?d23 ?d24 ?d25 ?d26 ?d27 ?d28 ?d29 ?d30 ?d31 ?d32 ?d33 ?d34 ?d35 ?d36 ?d37 ?d38 ?d39 ?d40 ?a2 ?l2 ?c2 ?k2 ?a41 ?l41 ?c41 ?k41 ?e_GREATEST ?e_DEEPEST ?aD_ROW_SIGNS ?lD_ROW_SIGNS ?kD_ROW_SIGNS ?pD_ROW_SIGNS ?oD_ROW_SIGNS ?aC ?aM0 ?lM0 ?cM0 ?kM0 ?jM0 ?aM1 ?lM1 ?cM1 ?kM1 ?jM1 ?aM2 ?lM2 ?cM2 ?kM2 ?jM2 ?aM3 ?lM3 ?cM3 ?kM3 ?jM3 ?aI ?lI ?cI ?kI ?jI ?pg ?hd ?po ?sa ?mk ?kc ?ni ?aQ2 ?mm0 ?mm1 ?mm2 ?mm3 ?mm4 ?mm5 ?mm6 ?mm7 ?mm8 ?mm9 ?mm10 ?mm11 ?mm12 ?mm13 ?mmI ?pg2 ?hd2 ?po2 ?sa2 ?mk2 ?kc2 ?n1_2 ?n2_2 ?n3_2 ?n4_2 ?n5_2 ?n6_2 ?n7_2 ?z_len ?z_list ?z_range ?z_isinstance ?z_str ?z_tuple ?z_int ?z_bool ?z_all ?z_reversed ?z_zip ?z_sum ?z_max ?z_min ?z_enumerate ?z_sorted ?z_abs ?z_dict ?hcode0
  (case d0=>exact⟨_,_,_,_,_,_,_,_,_,rfl,by k_is,by k_is,by k_is,by k_is⟩)
  (case d1=>exact⟨_,_,_,_,_,_,_,_,_,rfl,by k_is,by k_is,by k_is,by k_is⟩)
  (case d3=>exact⟨_,_,_,_,_,_,_,_,_,rfl,by k_is,by k_is,by k_is,by k_is⟩)
  (case d4=>exact⟨_,_,_,_,_,_,_,_,_,rfl,by k_is,by k_is,by k_is,by k_is⟩)
  (case d5=>exact⟨_,_,_,_,_,_,_,_,_,rfl,by k_is,by k_is,by k_is,by k_is⟩)
  (case d6=>exact⟨_,_,_,_,_,_,_,_,_,rfl,by k_is,by k_is,by k_is,by k_is⟩)
  (case d7=>exact⟨_,_,_,_,_,_,_,_,_,rfl,by k_is,by k_is,by k_is,by k_is⟩)
  (case d8=>exact⟨_,_,_,_,_,_,_,_,_,rfl,by k_is,by k_is,by k_is,by k_is⟩)
  (case d9=>exact⟨_,_,_,_,_,_,_,_,_,rfl,by k_is,by k_is,by k_is,by k_is⟩)
  (case d10=>exact⟨_,_,_,_,_,_,_,_,_,rfl,by k_is,by k_is,by k_is,by k_is⟩)
  (case d11=>exact⟨_,_,_,_,_,_,_,_,_,rfl,by k_is,by k_is,by k_is,by k_is⟩)
  (case d12=>exact⟨_,_,_,_,_,_,_,_,_,rfl,by k_is,by k_is,by k_is,by k_is⟩)
  (case d13=>exact⟨_,_,_,_,_,_,_,_,_,rfl,by k_is,by k_is,by k_is,by k_is⟩)
  (case d14=>exact⟨_,_,_,_,_,_,_,_,_,rfl,by k_is,by k_is,by k_is,by k_is⟩)
  (case d15=>exact⟨_,_,_,_,_,_,_,_,_,rfl,by k_is,by k_is,by k_is,by k_is⟩)
  (case d16=>exact⟨_,_,_,_,_,_,_,_,_,rfl,by k_is,by k_is,by k_is,by k_is⟩)
  (case d17=>exact⟨_,_,_,_,_,_,_,_,_,rfl,by k_is,by k_is,by k_is,by k_is⟩)
  (case d18=>exact⟨_,_,_,_,_,_,_,_,_,rfl,by k_is,by k_is,by k_is,by k_is⟩)
  (case d19=>exact⟨_,_,_,_,_,_,_,_,_,rfl,by k_is,by k_is,by k_is,by k_is⟩)
  (case d20=>exact⟨_,_,_,_,_,_,_,_,_,rfl,by k_is,by k_is,by k_is,by k_is⟩)
  (case d21=>exact⟨_,_,_,_,_,_,_,_,_,rfl,by k_is,by k_is,by k_is,by k_is⟩)
  (case d22=>exact⟨_,_,_,_,_,_,_,_,_,rfl,by k_is,by k_is,by k_is,by k_is⟩)
  (case d23=>exact⟨_,_,_,_,_,_,_,_,_,rfl,by k_is,by k_is,by k_is,by k_is⟩)
  (case d24=>exact⟨_,_,_,_,_,_,_,_,_,rfl,by k_is,by k_is,by k_is,by k_is⟩)
  (case d25=>exact⟨_,_,_,_,_,_,_,_,_,rfl,by k_is,by k_is,by k_is,by k_is⟩)
  (case d26=>exact⟨_,_,_,_,_,_,_,_,_,rfl,by k_is,by k_is,by k_is,by k_is⟩)
  (case d27=>exact⟨_,_,_,_,_,_,_,_,_,rfl,by k_is,by k_is,by k_is,by k_is⟩)
  (case d28=>exact⟨_,_,_,_,_,_,_,_,_,rfl,by k_is,by k_is,by k_is,by k_is⟩)
  (case d29=>exact⟨_,_,_,_,_,_,_,_,_,rfl,by k_is,by k_is,by k_is,by k_is⟩)
  (case d30=>exact⟨_,_,_,_,_,_,_,_,_,rfl,by k_is,by k_is,by k_is,by k_is⟩)
  (case d31=>exact⟨_,_,_,_,_,_,_,_,_,rfl,by k_is,by k_is,by k_is,by k_is⟩)
  (case d32=>exact⟨_,_,_,_,_,_,_,_,_,rfl,by k_is,by k_is,by k_is,by k_is⟩)
  (case d33=>exact⟨_,_,_,_,_,_,_,_,_,rfl,by k_is,by k_is,by k_is,by k_is⟩)
  (case d34=>exact⟨_,_,_,_,_,_,_,_,_,rfl,by k_is,by k_is,by k_is,by k_is⟩)
  (case d35=>exact⟨_,_,_,_,_,_,_,_,_,rfl,by k_is,by k_is,by k_is,by k_is⟩)
  (case d36=>exact⟨_,_,_,_,_,_,_,_,_,rfl,by k_is,by k_is,by k_is,by k_is⟩)
  (case d37=>exact⟨_,_,_,_,_,_,_,_,_,rfl,by k_is,by k_is,by k_is,by k_is⟩)
  (case d38=>exact⟨_,_,_,_,_,_,_,_,_,rfl,by k_is,by k_is,by k_is,by k_is⟩)
  (case d39=>exact⟨_,_,_,_,_,_,_,_,_,rfl,by k_is,by k_is,by k_is,by k_is⟩)
  (case d40=>exact⟨_,_,_,_,_,_,_,_,_,rfl,by k_is,by k_is,by k_is,by k_is⟩)
  (case a2=>k_is)
  (case l2=>k_is)
  (case c2=>k_is)
  (case k2=>k_is)
  (case a41=>k_is)
  (case l41=>k_is)
  (case c41=>k_is)
  (case k41=>k_is)
  (case e_GREATEST=>k_is)
  (case e_DEEPEST=>k_is)
  (case aD_ROW_SIGNS=>k_is)
  (case lD_ROW_SIGNS=>k_is)
  (case kD_ROW_SIGNS=>k_keys)
  (case pD_ROW_SIGNS=>repeat (first|exact .nil|refine .cons ⟨⟨_,rfl⟩,⟨_,rfl⟩⟩ ?_))
  (case oD_ROW_SIGNS=>decide)
  (case aC=>k_is)
  (case aM0=>k_is)
  (case lM0=>k_is)
  (case cM0=>k_is)
  (case kM0=>k_is)
  (case jM0=>k_is)
  (case aM1=>k_is)
  (case lM1=>k_is)
  (case cM1=>k_is)
  (case kM1=>k_is)
  (case jM1=>k_is)
  (case aM2=>k_is)
  (case lM2=>k_is)
  (case cM2=>k_is)
  (case kM2=>k_is)
  (case jM2=>k_is)
  (case aM3=>k_is)
  (case lM3=>k_is)
  (case cM3=>k_is)
  (case kM3=>k_is)
  (case jM3=>k_is)
  (case aI=>k_is)
  (case lI=>k_is)
  (case cI=>k_is)
  (case kI=>k_is)
  (case jI=>k_is)
  (case pg=>k_is)
  (case hd=>k_is)
  (case po=>k_is)
  (case sa=>k_is)
  (case mk=>k_is)
  (case kc=>k_is)
  (case ni=>k_is)
  (case aQ2=>k_is)
  (case mm0=>exact⟨_,_,_,_,_,_,_,_,_,rfl,by k_is,by k_is,by k_is,by k_is,by k_is⟩)
  (case mm1=>exact⟨_,_,_,_,_,_,_,_,_,rfl,by k_is,by k_is,by k_is,by k_is,by k_is⟩)
  (case mm2=>exact⟨_,_,_,_,_,_,_,_,_,rfl,by k_is,by k_is,by k_is,by k_is,by k_is⟩)
  (case mm3=>exact⟨_,_,_,_,_,_,_,_,_,rfl,by k_is,by k_is,by k_is,by k_is,by k_is⟩)
  (case mm4=>exact⟨_,_,_,_,_,_,_,_,_,rfl,by k_is,by k_is,by k_is,by k_is,by k_is⟩)
  (case mm5=>exact⟨_,_,_,_,_,_,_,_,_,rfl,by k_is,by k_is,by k_is,by k_is,by k_is⟩)
  (case mm6=>exact⟨_,_,_,_,_,_,_,_,_,rfl,by k_is,by k_is,by k_is,by k_is,by k_is⟩)
  (case mm7=>exact⟨_,_,_,_,_,_,_,_,_,rfl,by k_is,by k_is,by k_is,by k_is,by k_is⟩)
  (case mm8=>exact⟨_,_,_,_,_,_,_,_,_,rfl,by k_is,by k_is,by k_is,by k_is,by k_is⟩)
  (case mm9=>exact⟨_,_,_,_,_,_,_,_,_,rfl,by k_is,by k_is,by k_is,by k_is,by k_is⟩)
  (case mm10=>exact⟨_,_,_,_,_,_,_,_,_,rfl,by k_is,by k_is,by k_is,by k_is,by k_is⟩)
  (case mm11=>exact⟨_,_,_,_,_,_,_,_,_,rfl,by k_is,by k_is,by k_is,by k_is,by k_is⟩)
  (case mm12=>exact⟨_,_,_,_,_,_,_,_,_,rfl,by k_is,by k_is,by k_is,by k_is,by k_is⟩)
  (case mm13=>exact⟨_,_,_,_,_,_,_,_,_,rfl,by k_is,by k_is,by k_is,by k_is,by k_is⟩)
  (case mmI=>exact⟨_,_,_,_,_,_,_,_,_,rfl,by k_is,by k_is,by k_is,by k_is,by k_is⟩)
  (case pg2=>k_is)
  (case hd2=>k_is)
  (case po2=>k_is)
  (case sa2=>k_is)
  (case mk2=>k_is)
  (case kc2=>k_is)
  (case n1_2=>k_is)
  (case n2_2=>k_is)
  (case n3_2=>k_is)
  (case n4_2=>k_is)
  (case n5_2=>k_is)
  (case n6_2=>k_is)
  (case n7_2=>k_is)
  (case z_len=>k_is)
  (case z_list=>k_is)
  (case z_range=>k_is)
  (case z_isinstance=>k_is)
  (case z_str=>k_is)
  (case z_tuple=>k_is)
  (case z_int=>k_is)
  (case z_bool=>k_is)
  (case z_all=>k_is)
  (case z_reversed=>k_is)
  (case z_zip=>k_is)
  (case z_sum=>k_is)
  (case z_max=>k_is)
  (case z_min=>k_is)
  (case z_enumerate=>k_is)
  (case z_sorted=>k_is)
  (case z_abs=>k_is)
  (case z_dict=>k_is)
  (case hcode0=>rfl)
end
